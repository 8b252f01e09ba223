import PyProof.Rows.All
import Wide.All
import OpenK.AllK
import Wide.FinOn
import Lean
import PyProof.EqAt
import PyProof.EqKinds
import PyProof.TupleCall
import PyProof.EnumMake
import PyProof.EnumIter
import PyProof.EnumFor
import PyProof.EnumStmt
import PyProof.WalksEnum
import KE.KRevIter
import PyProof.Rows.Range3
import PyProof.Rows.SortShell
import KE.KTops
import PyProof.Rows.SortRuns
import PyProof.Rows.SortKey
import KE.KSortTup
import PyProof.PureInt
import KE.KDictSum
import PyProof.Rows.SetFrom
import PyProof.SetKind
import PyProof.DictKinds
import PyProof.WalksMore
import PyProof.FactsAll.set_1
import PyProof.CollectWalk
import PyProof.CollectIter
import KE.KSortAsk
import PyProof.DictKeyH
import PyProof.ReprRoads
import PyProof.ListMulRoad
import PyProof.NeKinds
import KE.KEqDict
import PyProof.SumWalkG
import PyProof.Rows.SumGenD
import PyProof.CompMap
import PyProof.TupleOfGen
import PySem.Challenge.RW_errandroom_k45_needs_of_straight_rows
set_option Elab.async false
set_option linter.all false
set_option maxRecDepth 100000
set_option maxHeartbeats 4000000
set_option tactic.hygienic false
set_option backward.match.sparseCases false
set_option genSizeOfSpec false
set_option bootstrap.genMatcherCode false
set_option compiler.extract_closed false
open Array renaming length_toList -> Τ, getElem?_eq_getElem -> Ϡ, getElem?_toList -> bK, toArray_toList -> eZ, getElem?_eq_none -> gP, perm_iff_toList_perm -> mY, size_eq_one_iff -> oH, append_assoc -> o8, toList_push -> pB, toList_zip -> pR, toList_map -> pU
open Bool renaming and_eq_true -> ε, false_ne_true -> Μ, and_eq_true_iff -> Ϲ, false_eq_true -> bw, or_eq_true -> ik, and_false -> iJ, false_or -> lA, and_true -> lB, eq_iff_iff -> mK, not_eq_true' -> pP, eq_false_iff -> pQ
open Classical renaming choose -> cT, propDecidable -> gf, choose_spec -> m9
open False renaming elim -> aJ
open ForInStep renaming yield -> aB, done -> aQ
open Int renaming toNat_natCast -> cU, emod_lt_of_pos -> dU, emod_nonneg -> fL
open List renaming getElem?_eq_getElem -> θ, mem_cons_of_mem -> ι, length_map -> ν, size_toArray -> ο, getElem?_eq_some_iff -> π, mem_cons_self -> υ, getElem?_map -> Δ, range -> Η, replicate -> Θ, mem_cons -> Κ, length_append -> Ο, append_nil -> Ρ, mem_singleton -> Υ, getElem?_set_ne -> Φ, getElem?_append_left -> ώ, mem_append_right -> ϐ, getElem?_append_right -> ϑ, mem_of_getElem? -> ϝ, contains_iff_mem -> Ϟ, map_cons -> ϟ, mem_range -> ϫ, mem_append -> Ϭ, length_range -> ϱ, getD_eq_getElem?_getD -> ϸ, mem_map -> Ϻ, getElem?_set_self -> aj, append_assoc -> aA, map_append -> aH, range' -> aM, lookup_cons -> aN, all_eq_true -> aO, Perm -> aU, getElem?_eq_none -> aY, length_cons -> bh, getElem_mem -> bj, cons -> bu, replicate_succ -> bF, any_eq_true -> bI, nil_append -> bR, length_set -> bT, set -> bZ, length_eq_zero_iff -> b7, zip_cons_cons -> cz, pairwise_cons -> cA, nodup_cons -> cH, flatten_cons -> cR, range_eq_range' -> c7, length_take -> dm, length_drop -> dq, drop_eq_getElem_cons -> du, filterMap_cons -> dw, map -> dD, mem_filter -> dI, length_zip -> dJ, find?_cons -> dM, getElem?_replicate -> dR, reverse_cons -> dY, pairwise_map -> dZ, nodup_append -> d7, length_filter_le -> d9, any_cons -> eX, mem_append_left -> fc, range_succ -> fu, of_mem_zip -> fB, foldl_cons -> fC, mem_map_of_mem -> fJ, map_nil -> fO, nodup_nil -> fW, filter_cons -> gK, all_map -> gW, length_nil -> ie, length_replicate -> ir, getElem?_toArray -> iw, mem_iff_getElem -> iI, length_reverse -> iW, getElem_of_mem -> iY, all_cons -> iZ, Pairwise -> lg, getElem?_set -> lQ, ext_getElem? -> lR, mem_or_eq_of_mem_set -> nC, set_eq_of_length_le -> nR, pairwise_singleton -> ou, map_map -> oF, getElem?_reverse -> oU, mem_of_mem_drop -> oX, length_eraseIdx -> oY, getElem?_range -> o6, mem_filterMap -> pA, getElem?_inj -> pM, flatMap_cons -> pN, any_eq_false -> pO
open List.Pairwise renaming nil -> ig
open List.Perm renaming refl -> au, swap -> gO
open List.cons renaming inj -> ϡ
open Nat renaming le_refl -> ξ, beq -> Ι, ne_of_lt -> Λ, lt_of_lt_of_le -> ό, zero_le -> Ϣ, le_trans -> Ϫ, lt_succ_of_lt -> bV, lt_irrefl -> cN, ne_of_gt -> d8, lt_succ_self -> eV, le_succ -> fj, le_of_lt -> fQ, le_of_ble_eq_true -> iG, zero_add -> lV, sub_self -> lW, le_of_not_lt -> mD, pow_le_pow_right -> o5
open Nat.succ renaming inj -> m8
open Ne renaming symm -> gJ
open Option renaming map_eq_some_iff -> Α, bind_eq_some_iff -> ύ, some -> ϧ, map_some -> gM, isSome_map -> lC, bind_some -> lO, isSome_iff_exists -> m7, getD_some -> o9, getD_none -> ph
open Option.some renaming inj -> ϔ
open PyProof.Rows renaming arrOf -> Ξ, wpS_bind -> ϛ, slot_tuple_getitem -> ϭ, seqObj -> ao, callWith_type1 -> aC, SortSt -> aK, wpS_pure -> aR, KeyOrd -> bz, Keyed -> bA, sortedHeap -> dz, size_push' -> fH, reverseSlice' -> fM, wpS_forRange -> gk, listUpdate_at -> gZ, SortKind -> iC, AllBare -> iU, IsTup -> lK, envOfC -> my, wpS_get -> mL, pendingOf -> nq, mirror_perm -> nG, wpS_modify -> oJ, subscriptTail_builtinR -> pF, plain_sorted -> pG, listItems_at -> pH, entry_sorted -> pI, args_sorted1 -> pL
open PyProof.Rows.F renaming plain_set_update_loop -> cG, entry_set_update_loop -> gA
open PyProof.Rows.KeyOrd renaming kle_refl -> bN, kle_trans -> bW, kle_of_klt -> cJ, kle_antisymm -> oV
open PyProof.Rows.LSm renaming kept_iter -> oA
open PySem renaming wpAny_bind -> γ, Value -> δ, wpAny_pure -> ζ, Shared -> μ, wpAny -> ψ, Builtin -> Β, model -> Ζ, Program -> Ν, wpAny_newObj_type -> Χ, compareOp -> ϊ, mainGlobals -> Ϗ, wpAny_call_entry -> ϒ, Expr -> ϓ, World -> ϖ, Around -> ϗ, wpAny_callSpecial?_slot -> ϙ, SetTable -> Ϛ, starEach -> Ϝ, wpAny_holding -> Ϥ, sizeLine_eq -> Ϧ, wpAny_setField -> Ϯ, NameKind -> ϰ, cLine -> ϲ, wpAny_truthy_bool -> ϳ, Spec -> ϵ, wpAny_setField_rec -> ak, Stmt -> aq, rawInt -> aF, wpAny_field -> aG, codeAny_builtin -> aP, wpAny_of_eq -> bc, keywordEach -> bf, strKind -> bx, assignEach -> bB, mem_of_lookup -> bD, FuncData -> bJ, wpAny_typeOf -> bL, Keyword -> bM, wpAny_mono -> bO, binaryOp -> bQ, foldedSetIterable -> bY, wpAny_rule -> b8, wpAny_attempt -> cg, swappedStores -> cj, plainId_quiet -> cu, wpAny_typeNameOfWhole_itemiter -> cB, wpAny_fieldsOf -> cC, DictEntry -> cF, wpAny_typeNameOfWhole_keyiter -> cL, wpAny_Call_Name_kw -> cO, sysModules -> cP, bootBuiltins -> cQ, wpAny_passesOwn -> cX, backToKw -> cY, swapsWithSole -> cZ, builtinLookup_eq_fast -> di, wpAny_setState_of -> dj, backTo -> dB, wpAny_isInstance -> dH, wpAny_typeNameOf_itemiter -> dN, Paired -> dO, Scope -> dW, wpAny_loadPart' -> dX, wpAny_pyIter_list -> eF, wpAny_isOneOf_itemiter -> eG, wpAny_dictEntries -> eO, pyNext -> eQ, firstArgMember -> eU, CmpOp -> fD, tupleKind -> fG, IsItemIter -> fK, sliceBounds -> fP, wpAny_dictEpoch -> fY, typeLookup_type -> fZ, codeAny_mono -> gm, tupleKind_room_in1 -> gC, isSubtype_type -> gD, assign -> gF, wpAny_pyIter_slot -> gQ, wpAny_pyIter_enum -> gR, holding -> gU, wpAny_standAt -> gY, swapsWith -> iz, PassesOwn -> iD, valueAt -> iK, pyIter -> iM, IsPart -> iT, wpAny_ite_false -> iV, wpAny_seqItems -> lD, wpAny_newTuple -> lE, storeSet -> lF, isTrue -> lG, isSubtype_stop -> lH, relabel -> lM, getItem -> lN, wpAny_setEntries_of -> lU, wpAny_handled -> lX, wpAny_pyIter_tuple -> mj, typeLookup -> mq, entryOfKey -> mz, call_meets -> mC, codeAny -> mQ, Operator -> mV, GenState -> mW, wpAny_askSetting -> ni, pickOrder -> nj, noFill_tuple_add -> nu, wpAny_throw -> nF, IsRangeIter -> nU, wpAny_specialOf -> nW, wpAny_execs_nil -> nY, letOwnedTupleGo -> nZ, codeAny_of_tree -> n6, BoolOp -> oh, wpAny_runValue -> oK, wpAny_letOwnedTupleGo_enum -> oM, setAddHashedIn -> oO, entryFor_alias -> oR, wpAny_newList -> oZ, seq_tuple_add -> o4, IsItemIterOut -> o7, wpAny_pyNext_range_end -> pC, wpAny_pyIter_rangeiter -> pD, concat_meets -> pK
open PySem.Around renaming under_plainId -> Ϩ
open PySem.Builtin.Dict renaming showsAll -> mG
open PySem.Builtin.Dict_items renaming ownsTuple -> dG, ownedTupleIsFree -> gj, pairFromOwner -> gB
open PySem.Builtin.List renaming listExtendWith -> aD, listTooLong -> cV, listSameRef -> cW, listLengthHint -> lz
open PySem.Builtin.Range renaming rangeSize -> dh, small -> mJ
open PySem.Builtin.Slice renaming slicePlaces -> cI, sliceAdjust -> eY, sliceApplied -> lu
open PySem.Builtin.SmallTypes renaming nextOf -> iH
open PySem.Builtin.Str renaming occurrences -> fU
open PySem.Builtin.Tuple renaming tupleExact -> aV, tupleItemsOf -> lr
open PySem.Calls renaming call_function_entry -> gh, spliced_cons -> lq, spliced_nil -> lL, Name_function_global -> mX
open PySem.Challenge renaming pw_errandroom_k45_needs_of_straight_rows -> ϣ
open PySem.Data renaming fields -> ϩ, seq -> fX
open PySem.Env renaming kindOf -> nD
open PySem.F renaming called_set -> aW, plain_list_iadd -> dC, args_tuple_add_2 -> f9, plainAttrs_list -> gn, entry_tuple_add -> gq, slot_tuple_add -> gG, called_tuple -> g8, plain_proto_collect -> lY, entry_proto_collect -> lZ, plain_extend_loop -> mH, plain_tuple_new -> mZ, plainAttrs_dict -> m5, entry_list_iadd -> m6, plainAttrs_str -> nA, type_dict_get -> nM, slot_set_iter -> nO, slot_dict_get -> nP, plain_set_new -> nQ
open PySem.Heap renaming get?_push_of_some -> η, get?_push_size -> ς, lt_size -> χ, SameBut -> ϋ, get?_update_self -> aZ, get?_update_ne -> bG, size_push -> dg, ExtBut -> mF, get?_update_other -> oG
open PySem.Heap.SameBut renaming update -> aL, refl -> iy
open PySem.MeetsSeq renaming plain_index_loop -> iB
open PySem.NameKind renaming free -> aX
open PySem.Obj renaming mapSeq -> ϯ, data_mapFields -> gb, mapFields -> gH, isFreed_of_fields -> oW
open PySem.Paired renaming length -> iR
open PySem.ScopeKind renaming function -> n8
open PySem.SeqAt renaming RcNeAt -> ϥ, EqAt -> ϴ, EqAt -> iQ
open PySem.SeqAt.EqAt renaming str_int -> nH, int_str -> nJ
open PySem.SetTable renaming below -> bH, grown -> cM, orStandIn -> oE
open PySem.SetTable.below renaming go -> mU
open PySem.Shared renaming TypeIs -> bU
open PySem.Str renaming ofString -> cD
open PySem.Txt renaming split -> gw, slice -> lJ
open PySem.Value renaming ref -> ω, none -> Ε, type -> Ψ, bool -> Ω, int -> ϕ, str -> bC, isStrOf -> eE
open PySem.Walks renaming list -> mR
open PySem.pickOrder renaming go -> mO
open Sum renaming inl -> Ϙ, inr -> gr
open Sum.inl renaming inj -> fV
open True renaming intro -> Ϸ
namespace L2
open PySem PySem.Spec PyProof.Rows
abbrev VSP:=δ->μ->Prop
abbrev Key:=Sum Int Str
noncomputable def yh (s:Stmt):Arguments:=match s with
 | .FunctionDef _ a _ _ _ _ _ _ _ _=>a
 | _=>{ posonlyargs:=[],args:=[],vararg:=none,kwonlyargs:=[],kw_defaults:=[],kwarg:=none,defaults:=[] }
noncomputable def zY (s:Stmt):List Stmt:=match s with
 | .FunctionDef _ _ b _ _ _ _ _ _ _=>b
 | _=>[]
noncomputable def zE (s:Stmt):dW:=match s with
 | .FunctionDef _ _ _ _ _ _ sc _ _ _=>sc
 | _=>{ kind:=.function,names:=[],isGenerator:=false,isCoroutine:=false }
end L2
namespace EV
open PySem PySem.Spec PyProof.Rows L2
inductive D where
 | non | bl (b:Bool) | int (i:Int) | str (x:Str)
 | tup (ds:List D) | lst (ds:List D)
 | dK (ks:List Key) (ds:List D) | dT (ks:List (List Key)) (ds:List D)
 | ref (k:Nat) | fn (f:Nat) | scr (ns:List Int) | ktp (ds:List D) | kdc (ps:List (Str×Int)) | dF (ks:List (List Key)) (ds:List D)
 deriving Inhabited
inductive Ty where
 | int | bool | str | tuple | list | dict
 deriving DecidableEq
inductive BI where
 | len | abs | int | str | tuple | list | sum | all | any | isinst (t:Ty) | min2 | max2 | sorted | repr | dict | sset | lset | trev
 deriving DecidableEq
inductive MT where
 | get1 | get2 | index | join | split
 deriving DecidableEq
inductive T where
 | one (i:Nat) | tup (is:List Nat) | nst (i:Nat) (is:List Nat)
 deriving DecidableEq
inductive E where
 | var (i:Nat) | con (d:D) | glo (n:Nat) (d:D)
 | bin (op:mV) (a b:E) | neg (a:E)
 | cmp (op:fD) (a b:E) | chn (o1 o2:fD) (a b c:E)
 | not (a:E) | and (a b:E) | or (a b:E)
 | ite (c a b:E)
 | tup (es:List E) | lst (es:List E) | dic (tk:Bool) (ks:List Key) (vs:List E)
 | sub (a i:E) | slc (a:E) (lo hi:Option E)
 | bi (b:BI) (es:List E) | mth (m:MT) (o:E) (es:List E)
 | call (f:Nat) (es:List E) | callk (f:Nat) (perm:List Nat) (es:List E) | callv (i:Nat) (es:List E)
 | comp (t:T) (js:List Nat) (it:E) (ifs:List E) (elt:E)
 | box (e:E) | one (e:E) | flip (e:E) | dk1 (a b:E)
 | seq (e:E) | rng (lo:Option E) (hi:E) | enum (e:E) | zip (a b:E) | rev (e:E) | items (e:E) | dwn (es:List E) | keys (e:E)
inductive C where
 | set (t:T) (e:E)
 | expr (e:E)
 | ret (e:E) | retN
 | ite (c:E) (a b:List C)
 | whl (c:E) (b:List C)
 | forr (t:T) (it:E) (b:List C)
 | app (i:Nat) (e:E) | ext (i:Nat) (e:E)
 | stv (i:Nat) (k v:E) | sti (o k v:E) | appR (o e:E) | pop (i:Nat) | popR (t:T) (o:E) | popO (t:T) (i:Nat)
 | pass | brk | cnt | frz (i:Nat) | frr (i:Nat) | frk (i:Nat)
structure Fn where
 np:Nat
 nv:Nat
 body:List C
structure Tb where
 fns:List Str
 pars:List (List Str)
 consts:List (Str×D)
 bare:List Str
 kws:List (Nat×List Str×List Nat)
structure Row where
 name:Str
 st:Stmt
 ps:List Str
 N:List Str
 fn:Fn
noncomputable def frOf (h:Heap) (n:Nat):W.Frag:=(Η n).filterMap fun a=>(h.get? a).map fun o=>(a,o)
noncomputable def KY (K:W.Frag) (x:Str):Option (bJ×Bool):=match W.nsIn K Ϗ x with
  | some (some (.ref f))=>(match K.lookup f with
     | some ⟨_,_,.func fd,_⟩=>some ({ fd with kwdefaults:=.none,doc:=.none,pyModule:=.none,annotations:=none,code:=.none,closureTuple:=.none },W.codeIn K fd.code x&&W.keepIn K (.ref f))
     | _=>none)
  | _=>none
noncomputable def jL:List D->List δ->Bool
 | [],[]=>true
 | .str x::ds,.str y _::vs=>x==y&&jL ds vs
 | .int i::ds,.int j _::vs=>i==j&&jL ds vs
 | _,_=>false
noncomputable def tupAt (K:W.Frag) (a:Addr):Option (Array δ):=(K.lookup a).bind fun o=>match o.cls,o.data with
 | .type t,.seq its _=>if (t=="tuple"&&decide (its.size<=1000))=true then some its else none
 | _,_=>none
noncomputable def dicAt (K:W.Frag) (a:Addr) (ps:List (Str×Int)):Bool:=(match K.lookup a with
  | some o=>(match o.cls with | .type t=>t=="dict" | _=>false)&&o.dict.isNone
  | none=>false)&&KTD.tabLook (KTD.datLooks fun b=>K.lookup b) (fun b=>K.lookup b) a (ps.map fun p=>(p.1,.flat (.int p.2)))
noncomputable def conOk (K:W.Frag) (rs:List Row) (x:Str):D->Bool
 | .int i=>(match W.nsIn K Ϗ x with | some (some (.int j _))=>i==j | _=>false)
 | .str y=>(match W.nsIn K Ϗ x with | some (some (.str z _))=>y==z | _=>false)
 | .fn i=>(match rs[i]? with | some r=>r.name==x | none=>false)
 | .ktp ds=>(match W.nsIn K Ϗ x with | some (some (.ref a))=>(match tupAt K a with | some its=>jL ds its.toList | none=>false) | _=>false)
 | .kdc ps=>(match W.nsIn K Ϗ x with | some (some (.ref a))=>dicAt K a ps | _=>false)
 | _=>false
noncomputable def seenT (K:W.Frag) (B:Tb) (rs:List Row):List (Option (bJ×Bool))×List (Option (Option δ))×List Bool:=
 (rs.map fun r=>KY K r.name,B.bare.map fun x=>W.nsIn K Ϗ x,B.consts.map fun p=>conOk K rs p.1 p.2)
noncomputable def wantT (B:Tb) (rs:List Row):List (Option (bJ×Bool))×List (Option (Option δ))×List Bool:=
 (rs.map fun r=>some (W.fnOf r.name r.name (yh r.st) (zY r.st) (zE r.st) .none .none .none .none none .none .none,true),B.bare.map fun _=>some none,B.consts.map fun _=>true)
end EV
namespace Q45
open PySem PySem.Spec PyProof.Rows L2 EV
def top (i:Nat):Stmt:=ϣ.main.body.getD i (.Pass ⟨0,0,0,0⟩)
noncomputable abbrev uY:List C:=[.ite (.cmp .Eq (.sub (.var 0) (.con (.int 0))) (.con (.str "if"))) [.ret (.tup [(.sub (.var 0) (.con (.int 2))),(.sub (.var 0) (.con (.int 3)))])] [],.ite (.cmp .Eq (.sub (.var 0) (.con (.int 0))) (.con (.str "while"))) [.ret (.tup [(.sub (.var 0) (.con (.int 2)))])] [],.ite (.cmp .Eq (.sub (.var 0) (.con (.int 0))) (.con (.str "try"))) [.ret (.tup [(.sub (.var 0) (.con (.int 1))),(.sub (.var 0) (.con (.int 3)))])] [],.ite (.cmp .Eq (.sub (.var 0) (.con (.int 0))) (.con (.str "do"))) [.ret (.tup [(.sub (.var 0) (.con (.int 1))),(.sub (.var 0) (.con (.int 2)))])] [],.ret (.tup [])]
noncomputable def uh:EV.Row:=⟨"blocks_of",top 1,["row"],["row"],⟨1,1,uY⟩⟩
noncomputable abbrev wG:List C:=[.ite (.cmp .Eq (.sub (.var 0) (.con (.int 0))) (.con (.str "set"))) [.ret (.lst [(.sub (.var 0) (.con (.int 2)))])] [],.ite (.cmp .In (.sub (.var 0) (.con (.int 0))) (.tup [(.con (.str "tell")),(.con (.str "give")),(.con (.str "fail")),(.con (.str "if")),(.con (.str "while"))])) [.ret (.lst [(.sub (.var 0) (.con (.int 1)))])] [],.set (.one 1) (.lst []),.ite (.cmp .Eq (.sub (.var 0) (.con (.int 0))) (.con (.str "want"))) [.forr (.one 2) (.seq (.sub (.var 0) (.con (.int 2)))) [.ext 1 (.ite (.cmp .Eq (.sub (.var 2) (.con (.int 1))) (.con (.str "ask"))) (.lst [(.sub (.var 2) (.con (.int 3)))]) (.sub (.var 2) (.con (.int 3))))]] [],.ret (.var 1)]
noncomputable def xT:EV.Row:=⟨"formulas_of",top 2,["row"],["row","formulas","branch"],⟨1,3,wG⟩⟩
noncomputable abbrev yP:List C:=[.ite (.bi (.isinst .str) [(.var 0)]) [.ret (.lst [(.var 0)])] [],.ite (.bi (.isinst .tuple) [(.var 0)]) [.ret (.bin .Add (.call 2 [(.sub (.var 0) (.con (.int 1)))]) (.call 2 [(.sub (.var 0) (.con (.int 2)))]))] [],.ret (.lst [])]
noncomputable def yG:EV.Row:=⟨"formula_names",top 3,["one"],["one"],⟨1,1,yP⟩⟩
noncomputable abbrev Vo:List C:=[.ret (.bi .tuple [(.bi .sorted [(.call 4 [(.sub (.var 0) (.con (.int 2))),(.tup [])])])])]
noncomputable def Wr:EV.Row:=⟨"places",top 5,["errand"],["errand"],⟨1,1,Vo⟩⟩
noncomputable abbrev xn:List C:=[.set (.one 2) (.lst [(.bin .Add (.var 1) (.tup [(.bi .len [(.var 0)])]))]),.forr (.tup [3,4]) (.enum (.var 0)) [.ext 2 (.call 5 [(.var 4),(.bin .Add (.var 1) (.tup [(.var 3)]))])],.ret (.var 2)]
noncomputable def xf:EV.Row:=⟨"block_places",top 6,["block","ahead"],["block","ahead","found","number","row"],⟨2,5,xn⟩⟩
noncomputable abbrev vp:List C:=[.set (.one 2) (.lst [(.var 1)]),.ite (.cmp .Eq (.sub (.var 0) (.con (.int 0))) (.con (.str "while"))) [.app 2 (.call 6 [(.var 1)])] [],.ite (.cmp .Eq (.sub (.var 0) (.con (.int 0))) (.con (.str "do"))) [.app 2 (.call 7 [(.var 1)])] [],.forr (.tup [3,4]) (.enum (.call 0 [(.var 0)])) [.ext 2 (.call 4 [(.var 4),(.bin .Add (.var 1) (.tup [(.var 3)]))])],.ret (.var 2)]
noncomputable def wU:EV.Row:=⟨"row_places",top 7,["row","place"],["row","place","found","number","block"],⟨2,5,vp⟩⟩
noncomputable abbrev Ud:List C:=[.ret (.bin .Add (.var 0) (.tup [(.con (.int 0))]))]
noncomputable def jw:EV.Row:=⟨"round_of",top 8,["place"],["place"],⟨1,1,Ud⟩⟩
noncomputable abbrev jk:List C:=[.ret (.bin .Add (.var 0) (.tup [(.con (.int 1))]))]
noncomputable def xj:EV.Row:=⟨"beginning_of",top 9,["place"],["place"],⟨1,1,jk⟩⟩
noncomputable abbrev Ue:List C:=[.ret (.bin .Add (.var 0) (.tup [(.var 1),(.con (.int 0))]))]
noncomputable def jy:EV.Row:=⟨"first_of",top 10,["place","number"],["place","number"],⟨2,2,Ue⟩⟩
noncomputable abbrev Vq:List C:=[.ret (.bin .Add (.slc (.var 0) none (some (.neg (.con (.int 1))))) (.tup [(.bin .Add (.sub (.var 0) (.neg (.con (.int 1)))) (.con (.int 1)))]))]
noncomputable def Wv:EV.Row:=⟨"behind",top 11,["place"],["place"],⟨1,1,Vq⟩⟩
noncomputable abbrev vq:List C:=[.ret (.cmp .Eq (.bin .Mod (.bi .len [(.var 0)]) (.con (.int 2))) (.con (.int 0)))]
noncomputable def wW:EV.Row:=⟨"is_between",top 12,["place"],["place"],⟨1,1,vq⟩⟩
noncomputable abbrev jV:List C:=[.ite (.call 10 [(.var 1)]) [.ret (.con .non)] [],.ite (.cmp .Eq (.bi .len [(.var 1)]) (.con (.int 1))) [.ret (.sub (.var 0) (.con (.int 2)))] [],.set (.one 2) (.call 12 [(.var 0),(.slc (.var 1) none (some (.neg (.con (.int 2)))))]),.set (.one 3) (.ite (.cmp .Is (.var 2) (.con .non)) (.tup []) (.call 0 [(.var 2)])),.ret (.ite (.chn .LtE .Lt (.con (.int 0)) (.sub (.var 1) (.neg (.con (.int 2)))) (.bi .len [(.var 3)])) (.sub (.var 3) (.sub (.var 1) (.neg (.con (.int 2))))) (.con .non))]
noncomputable def jA:EV.Row:=⟨"block_at",top 13,["errand","place"],["errand","place","row","blocks"],⟨2,4,jV⟩⟩
noncomputable abbrev Vn:List C:=[.set (.one 2) (.call 11 [(.var 0),(.var 1)]),.ite (.or (.cmp .Is (.var 2) (.con .non)) (.one (.not (.chn .LtE .Lt (.con (.int 0)) (.sub (.var 1) (.neg (.con (.int 1)))) (.bi .len [(.var 2)]))))) [.ret (.con .non)] [],.ret (.sub (.var 2) (.sub (.var 1) (.neg (.con (.int 1)))))]
noncomputable def Wq:EV.Row:=⟨"row_at",top 14,["errand","place"],["errand","place","block"],⟨2,3,Vn⟩⟩
noncomputable abbrev YB:List C:=[.set (.one 2) (.call 12 [(.var 0),(.var 1)]),.ret (.ite (.cmp .Is (.var 2) (.con .non)) (.con (.str "")) (.sub (.var 2) (.con (.int 0))))]
noncomputable def Zq:EV.Row:=⟨"word_at",top 15,["errand","place"],["errand","place","row"],⟨2,3,YB⟩⟩
noncomputable abbrev za1:List C:=[.set (.one 2) (.call 11 [(.var 0),(.var 1)]),.ret (.and (.cmp .IsNot (.var 2) (.con .non)) (.one (.cmp .Eq (.sub (.var 1) (.neg (.con (.int 1)))) (.bi .len [(.var 2)]))))]
noncomputable def Wu:EV.Row:=⟨"is_end",top 16,["errand","place"],["errand","place","block"],⟨2,3,za1⟩⟩
noncomputable abbrev zbP:List C:=[.frz 1,.set (.one 2) (.call 16 [(.var 0),(.var 1)]),.whl (.cmp .NotEq (.var 2) (.var 1)) [.frz 2,.set (.one 1) (.var 2),.frz 1,.set (.one 2) (.call 16 [(.var 0),(.var 1)])],.ret (.var 1)]
noncomputable def zbh:EV.Row:=⟨"slid",top 17,["errand","place"],["errand","place","there"],⟨2,3,zbP⟩⟩
noncomputable abbrev uW:List C:=[.ite (.cmp .Eq (.call 13 [(.var 0),(.var 1)]) (.con (.str "try"))) [.ret (.call 8 [(.var 1),(.con (.int 0))])] [],.ite (.or (.cmp .Eq (.bi .len [(.var 1)]) (.con (.int 1))) (.one (.not (.call 14 [(.var 0),(.var 1)])))) [.ret (.var 1)] [],.set (.one 2) (.slc (.var 1) none (some (.neg (.con (.int 2))))),.frz 2,.set (.one 3) (.call 13 [(.var 0),(.var 2)]),.ite (.cmp .Eq (.var 3) (.con (.str "while"))) [.ret (.var 2)] [],.frz 2,.ret (.ite (.cmp .Eq (.var 3) (.con (.str "do"))) (.var 1) (.call 9 [(.var 2)]))]
noncomputable def ud:EV.Row:=⟨"slid_once",top 18,["errand","place"],["errand","place","outer","word"],⟨2,4,uW⟩⟩
noncomputable abbrev Vr:List C:=[.set (.one 2) (.lst []),.frz 1,.ite (.call 10 [(.var 1)]) [.set (.one 1) (.slc (.var 1) none (some (.neg (.con (.int 1))))),.frz 1,.ite (.cmp .Eq (.call 13 [(.var 0),(.var 1)]) (.con (.str "do"))) [.frz 1,.app 2 (.tup [(.var 1),(.con (.int 1))])] []] [.frz 1,.ite (.and (.cmp .Gt (.bi .len [(.var 1)]) (.con (.int 1))) (.and (.cmp .Eq (.sub (.var 1) (.neg (.con (.int 2)))) (.con (.int 1))) (.and (.cmp .Eq (.call 13 [(.var 0),(.slc (.var 1) none (some (.neg (.con (.int 2)))))]) (.con (.str "do"))) (.one (.call 14 [(.var 0),(.var 1)]))))) [.set (.one 1) (.slc (.var 1) none (some (.neg (.con (.int 2)))))] []],.whl (.cmp .Gt (.bi .len [(.var 1)]) (.con (.int 1))) [.app 2 (.tup [(.slc (.var 1) none (some (.neg (.con (.int 2))))),(.sub (.var 1) (.neg (.con (.int 2))))]),.set (.one 1) (.slc (.var 1) none (some (.neg (.con (.int 2)))))],.ret (.var 2)]
noncomputable def Ww:EV.Row:=⟨"around",top 19,["errand","place"],["errand","place","found"],⟨2,3,Vr⟩⟩
noncomputable abbrev YG:List C:=[.forr (.tup [2,3]) (.seq (.call 17 [(.var 0),(.var 1)])) [.set (.one 4) (.call 12 [(.var 0),(.var 2)]),.ite (.and (.cmp .Eq (.sub (.var 4) (.con (.int 0))) (.con (.str "try"))) (.one (.cmp .Eq (.var 3) (.con (.int 0))))) [.ret (.tup [(.con (.str "catch")),(.sub (.var 4) (.con (.int 2))),(.call 8 [(.var 2),(.con (.int 1))])])] [],.ite (.and (.cmp .Eq (.sub (.var 4) (.con (.int 0))) (.con (.str "do"))) (.one (.cmp .Eq (.var 3) (.con (.int 0))))) [.ret (.tup [(.con (.str "undo")),(.call 22 [(.var 0),(.var 2)]),(.call 7 [(.var 2)])])] [],.ite (.cmp .Eq (.sub (.var 4) (.con (.int 0))) (.con (.str "do"))) [.ret (.tup [(.con (.str "undo")),(.call 22 [(.var 0),(.var 2)]),(.bin .Add (.var 2) (.tup [(.con (.int 1)),(.bi .len [(.sub (.var 4) (.con (.int 2)))])]))])] []],.ret (.con .non)]
noncomputable def Zu:EV.Row:=⟨"fall_at",top 20,["errand","place"],["errand","place","outer","number","row"],⟨2,5,YG⟩⟩
noncomputable abbrev Vp:List C:=[.set (.one 2) (.comp (.one 0) [0] (.seq (.call 17 [(.var 0),(.var 1)])) [(.cmp .Eq (.call 13 [(.var 1),(.sub (.var 0) (.con (.int 0)))]) (.con (.str "do")))] (.var 0)),.frz 2,.ite (.bi .any [(.comp (.tup [0,1]) [] (.seq (.var 2)) [] (.cmp .Eq (.var 1) (.con (.int 1))))]) [.ret (.con (.str "shut"))] [],.ret (.ite (.cmp .Eq (.bi .len [(.var 2)]) (.con (.int 0))) (.con .non) (.call 7 [(.sub (.sub (.var 2) (.con (.int 0))) (.con (.int 0)))]))]
noncomputable def Ws:EV.Row:=⟨"off_at",top 21,["errand","place"],["errand","place","dos"],⟨2,3,Vp⟩⟩
noncomputable abbrev vA:List C:=[.set (.one 2) (.call 17 [(.var 0),(.var 1)]),.frz 2,.ret (.comp (.tup [0,1]) [0] (.seq (.var 2)) [(.and (.cmp .Eq (.var 1) (.con (.int 0))) (.one (.cmp .Eq (.call 13 [(.var 2),(.var 0)]) (.con (.str "do")))))] (.call 22 [(.var 2),(.var 0)]))]
noncomputable def wX:EV.Row:=⟨"dos_around",top 22,["errand","place"],["errand","place","pairs"],⟨2,3,vA⟩⟩
noncomputable abbrev XH:List C:=[.set (.one 2) (.lst []),.forr (.tup [3,4]) (.enum (.var 0)) [.ite (.cmp .Eq (.sub (.var 4) (.con (.int 0))) (.con (.str "do"))) [.app 2 (.bin .Add (.var 1) (.tup [(.var 3)]))] [],.forr (.tup [5,6]) (.enum (.call 0 [(.var 4)])) [.ext 2 (.call 21 [(.var 6),(.bin .Add (.var 1) (.tup [(.var 3),(.var 5)]))])]],.ret (.var 2)]
noncomputable def ug:EV.Row:=⟨"do_places",top 23,["block","ahead"],["block","ahead","found","number","row","which","inner"],⟨2,7,XH⟩⟩
noncomputable abbrev XF:List C:=[.ret (.mth .index (.call 21 [(.sub (.var 0) (.con (.int 2))),(.tup [])]) [(.var 1)])]
noncomputable def uf:EV.Row:=⟨"number_at",top 24,["errand","place"],["errand","place"],⟨2,2,XF⟩⟩
noncomputable abbrev vB:List C:=[.ite (.cmp .In (.sub (.var 0) (.con (.int 0))) (.tup [(.con (.str "go")),(.con (.str "round"))])) [.ret (.lst [(.sub (.var 0) (.con (.int 1)))])] [],.ite (.cmp .Eq (.sub (.var 0) (.con (.int 0))) (.con (.str "fork"))) [.ret (.lst [(.sub (.var 0) (.con (.int 2))),(.sub (.var 0) (.con (.int 3)))])] [],.ret (.ite (.cmp .Eq (.sub (.var 0) (.con (.int 0))) (.con (.str "want"))) (.lst [(.sub (.var 0) (.con (.int 3)))]) (.lst []))]
noncomputable def wY:EV.Row:=⟨"door_leads",top 26,["door"],["door"],⟨1,1,vB⟩⟩
noncomputable abbrev za0:List C:=[.ret (.bi .str [(.var 0)])]
noncomputable def Wt:EV.Row:=⟨"key_of",top 28,["d"],["d"],⟨1,1,za0⟩⟩
noncomputable abbrev YH:List C:=[.set (.one 2) (.call 12 [(.var 0),(.var 1)]),.ite (.cmp .IsNot (.var 2) (.con .non)) [.ret (.call 27 [(.var 0),(.var 1),(.var 2)])] [],.ite (.call 10 [(.var 1)]) [.ret (.call 26 [(.var 0),(.slc (.var 1) none (some (.neg (.con (.int 1)))))])] [],.ite (.cmp .Eq (.bi .len [(.var 1)]) (.con (.int 1))) [.ret (.tup [(.tup []),(.tup [(.con (.str "give")),(.con (.int 0))])])] [],.set (.one 3) (.slc (.var 1) none (some (.neg (.con (.int 2))))),.frz 3,.set (.one 4) (.call 22 [(.var 0),(.var 3)]),.ite (.cmp .Eq (.sub (.var 1) (.neg (.con (.int 2)))) (.con (.int 0))) [.frz 3,.ret (.tup [(.tup [(.tup [(.con (.str "mark")),(.con (.str "done")),(.var 4)])]),(.tup [(.con (.str "go")),(.call 9 [(.var 3)])])])] [],.ret (.tup [(.tup [(.tup [(.con (.str "mark")),(.con (.str "undone")),(.var 4)])]),(.tup [(.con (.str "out")),(.call 24 [(.var 4)])])])]
noncomputable def Zv:EV.Row:=⟨"deed_at",top 32,["errand","place"],["errand","place","row","outer","d"],⟨2,5,YH⟩⟩
noncomputable abbrev jj:List C:=[.ite (.cmp .Eq (.call 13 [(.var 0),(.var 1)]) (.con (.str "while"))) [.ret (.tup [(.tup []),(.tup [(.con (.str "round")),(.call 8 [(.var 1),(.con (.int 0))])])])] [],.ret (.tup [(.tup [(.tup [(.con (.str "mark")),(.con (.str "undo")),(.call 22 [(.var 0),(.var 1)])])]),(.tup [(.con (.str "go")),(.call 8 [(.var 1),(.con (.int 1))])])])]
noncomputable def xg:EV.Row:=⟨"between_deed",top 33,["errand","place"],["errand","place"],⟨2,2,jj⟩⟩
noncomputable abbrev jR:List C:=[.set (.one 3) (.sub (.var 2) (.con (.int 0))),.ite (.cmp .Eq (.var 3) (.con (.str "set"))) [.ret (.tup [(.tup [(.tup [(.con (.str "put")),(.sub (.var 2) (.con (.int 1))),(.sub (.var 2) (.con (.int 2)))])]),(.tup [(.con (.str "go")),(.call 9 [(.var 1)])])])] [],.ite (.cmp .Eq (.var 3) (.con (.str "tell"))) [.ret (.tup [(.tup [(.tup [(.con (.str "tell")),(.sub (.var 2) (.con (.int 1)))])]),(.tup [(.con (.str "go")),(.call 9 [(.var 1)])])])] [],.ite (.cmp .Eq (.var 3) (.con (.str "give"))) [.ret (.tup [(.bi .tuple [(.comp (.one 0) [] (.seq (.call 20 [(.var 0),(.var 1)])) [] (.tup [(.con (.str "mark")),(.con (.str "done")),(.var 0)]))]),(.tup [(.con (.str "give")),(.sub (.var 2) (.con (.int 1)))])])] [],.ite (.cmp .Eq (.var 3) (.con (.str "fail"))) [.ret (.tup [(.tup []),(.tup [(.con (.str "fail")),(.sub (.var 2) (.con (.int 1)))])])] [],.ite (.cmp .Eq (.var 3) (.con (.str "if"))) [.ret (.tup [(.tup []),(.tup [(.con (.str "fork")),(.sub (.var 2) (.con (.int 1))),(.call 8 [(.var 1),(.con (.int 0))]),(.call 8 [(.var 1),(.con (.int 1))])])])] [],.ite (.cmp .Eq (.var 3) (.con (.str "while"))) [.ret (.tup [(.tup []),(.tup [(.con (.str "fork")),(.sub (.var 2) (.con (.int 1))),(.call 6 [(.var 1)]),(.call 9 [(.var 1)])])])] [],.ite (.cmp .Eq (.var 3) (.con (.str "do"))) [.ret (.tup [(.tup [(.tup [(.con (.str "mark")),(.con (.str "do")),(.call 22 [(.var 0),(.var 1)])])]),(.tup [(.con (.str "go")),(.call 8 [(.var 1),(.con (.int 0))])])])] [],.ret (.tup [(.tup []),(.tup [(.con (.str "want")),(.sub (.var 2) (.con (.int 1))),(.sub (.var 2) (.con (.int 2))),(.call 9 [(.var 1)])])])]
noncomputable def ju:EV.Row:=⟨"row_deed",top 34,["errand","place","row"],["errand","place","row","word"],⟨3,4,jR⟩⟩
noncomputable abbrev jU:List C:=[.ret (.ite (.cmp .In (.sub (.var 2) (.con (.int 0))) (.glo 0 (.ktp [(.str "fail"),(.str "round"),(.str "want"),(.str "out")]))) (.call 18 [(.var 0),(.var 1)]) (.con .non))]
noncomputable def jz:EV.Row:=⟨"fall_due",top 35,["errand","place","door"],["errand","place","door"],⟨3,3,jU⟩⟩
noncomputable abbrev YD:List C:=[.ret (.ite (.cmp .In (.sub (.var 2) (.con (.int 0))) (.glo 1 (.ktp [(.str "want"),(.str "out")]))) (.call 19 [(.var 0),(.var 1)]) (.con .non))]
noncomputable def Zt:EV.Row:=⟨"off_due",top 36,["errand","place","door"],["errand","place","door"],⟨3,3,YD⟩⟩
noncomputable abbrev qQ:List C:=[.ret (.ite (.cmp .Eq (.sub (.var 0) (.con (.int 0))) (.con (.str "undo"))) (.call 24 [(.sub (.var 0) (.con (.int 1)))]) (.sub (.var 0) (.con (.int 1))))]
noncomputable def xR:EV.Row:=⟨"key_of_fall",top 37,["fall"],["fall"],⟨1,1,qQ⟩⟩
noncomputable abbrev YF:List C:=[.ret (.call 24 [(.call 22 [(.var 0),(.slc (.var 1) none (some (.neg (.con (.int 1)))))])])]
noncomputable def wV:EV.Row:=⟨"key_of_off",top 38,["errand","beginning"],["errand","beginning"],⟨2,2,YF⟩⟩
noncomputable abbrev YC:List C:=[.set (.one 2) (.call 12 [(.var 0),(.var 1)]),.ite (.cmp .IsNot (.var 2) (.con .non)) [.ret (.call 33 [(.var 2)])] [],.set (.one 3) (.sub (.call 25 [(.var 0),(.var 1)]) (.con (.int 1))),.ret (.ite (.cmp .Eq (.sub (.var 3) (.con (.int 0))) (.con (.str "out"))) (.lst [(.sub (.var 3) (.con (.int 1)))]) (.lst []))]
noncomputable def Zr:EV.Row:=⟨"read_at",top 39,["errand","place"],["errand","place","row","door"],⟨2,4,YC⟩⟩
noncomputable abbrev uX:List C:=[.set (.one 1) (.lst []),.forr (.one 2) (.seq (.call 1 [(.var 0)])) [.ext 1 (.call 2 [(.var 2)])],.ret (.var 1)]
noncomputable def ue:EV.Row:=⟨"row_names",top 40,["row"],["row","names","one"],⟨1,3,uX⟩⟩
noncomputable abbrev jT:List C:=[.set (.one 2) (.call 25 [(.var 0),(.var 1)]),.set (.one 3) (.comp (.one 0) [2] (.seq (.call 23 [(.sub (.var 2) (.con (.int 1)))])) [] (.tup [(.var 0),(.call 35 [(.var 1)])])),.set (.one 4) (.call 28 [(.var 0),(.var 1),(.sub (.var 2) (.con (.int 1)))]),.ite (.cmp .IsNot (.var 4) (.con .non)) [.app 3 (.tup [(.sub (.var 4) (.con (.int 2))),(.comp (.one 0) [] (.seq (.lst [(.call 30 [(.var 4)])])) [(.cmp .IsNot (.var 0) (.con .non))] (.var 0))])] [],.set (.one 5) (.call 29 [(.var 0),(.var 1),(.sub (.var 2) (.con (.int 1)))]),.ite (.and (.cmp .IsNot (.var 5) (.con .non)) (.one (.cmp .NotEq (.var 5) (.con (.str "shut"))))) [.app 3 (.tup [(.var 5),(.lst [(.call 31 [(.var 0),(.var 5)])])])] [],.frz 3,.ret (.comp (.tup [0,1]) [0] (.seq (.var 3)) [] (.tup [(.call 15 [(.var 2),(.var 0)]),(.var 1)]))]
noncomputable def jx:EV.Row:=⟨"leads_at",top 41,["errand","place"],["errand","place","deed","found","fall","off"],⟨2,6,jT⟩⟩
noncomputable abbrev Vm:List C:=[.set (.one 1) (.comp (.one 0) [] (.seq (.sub (.var 0) (.con (.int 0)))) [(.cmp .Eq (.sub (.var 0) (.con (.int 0))) (.con (.str "put")))] (.sub (.var 0) (.con (.int 1)))),.set (.one 2) (.sub (.var 0) (.con (.int 1))),.ite (.and (.cmp .Eq (.sub (.var 2) (.con (.int 0))) (.con (.str "want"))) (.one (.cmp .Eq (.sub (.var 2) (.con (.int 1))) (.bi .len [(.sub (.var 2) (.con (.int 2)))])))) [.ext 1 (.comp (.one 0) [] (.seq (.sub (.var 2) (.con (.int 2)))) [(.cmp .IsNot (.sub (.var 0) (.con (.int 0))) (.con .non))] (.sub (.var 0) (.con (.int 0))))] [],.ret (.var 1)]
noncomputable def Wo:EV.Row:=⟨"set_by",top 42,["deed"],["deed","names","door"],⟨1,3,Vm⟩⟩
noncomputable abbrev Ql:List C:=[.set (.one 1) (.call 37 [(.var 0)]),.ret (.bi .tuple [(.comp (.one 0) [1,0] (.seq (.call 3 [(.var 0)])) [] (.tup [(.var 0),(.bi .tuple [(.bi .sorted [(.sub (.var 1) (.call 15 [(.var 2),(.var 0)]))])])]))])]
noncomputable def Jp:EV.Row:=⟨"needs",top 44,["errand"],["errand","needed"],⟨1,2,Ql⟩⟩
noncomputable abbrev yq:List C:=[.set (.one 1) (.dic true [] []),.set (.one 2) (.box (.dic true [] [])),.forr (.one 3) (.seq (.call 3 [(.var 0)])) [.ite (.cmp .Eq (.call 15 [(.var 0),(.var 3)]) (.var 3)) [.stv 1 (.var 3) (.call 34 [(.var 0),(.var 3)]),.sti (.var 2) (.var 3) (.bi .sset [(.call 32 [(.var 0),(.var 3)])])] []],.frk 1,.set (.one 4) (.con (.bl true)),.whl (.var 4) [.set (.one 4) (.con (.bl false)),.forr (.one 3) (.keys (.var 1)) [.set (.one 5) (.call 38 [(.sub (.var 1) (.var 3)),(.var 2),(.sub (.var 2) (.var 3))]),.set (.one 4) (.or (.var 4) (.one (.cmp .Gt (.bi .len [(.var 5)]) (.con (.int 0))))),.sti (.var 2) (.var 3) (.bin .Add (.sub (.var 2) (.var 3)) (.var 5))]],.ret (.var 2)]
noncomputable def xQ:EV.Row:=⟨"needed_keys",top 45,["errand"],["errand","leads","needed","place","grown","fresh"],⟨1,6,yq⟩⟩
noncomputable abbrev yO:List C:=[.set (.one 3) (.lst []),.forr (.tup [4,5]) (.seq (.var 0)) [.ext 3 (.comp (.one 0) [5,2] (.seq (.sub (.var 1) (.var 4))) [(.and (.cmp .NotIn (.var 0) (.var 1)) (.one (.cmp .NotIn (.var 0) (.var 2))))] (.var 0))],.frz 3,.ret (.bi .sset [(.var 3)])]
noncomputable def yF:EV.Row:=⟨"needed_beyond",top 46,["leads","needed","known"],["leads","needed","known","fresh","there","keys"],⟨3,6,yO⟩⟩
noncomputable abbrev Vk:List C:=[.ite (.cmp .NotIn (.var 1) (.call 3 [(.var 0)])) [.ret (.con .non)] [],.set (.one 3) (.call 15 [(.var 0),(.var 1)]),.set (.one 4) (.dk1 (.var 3) (.con (.bl true))),.frz 3,.set (.one 5) (.lst [(.tup [(.var 3)])]),.whl (.cmp .Gt (.bi .len [(.var 5)]) (.con (.int 0))) [.set (.one 6) (.lst []),.frz 5,.forr (.one 7) (.seq (.var 5)) [.ite (.cmp .In (.var 2) (.call 32 [(.var 0),(.sub (.var 7) (.neg (.con (.int 1))))])) [.ret (.var 7)] [],.forr (.one 8) (.seq (.call 40 [(.var 0),(.sub (.var 7) (.neg (.con (.int 1)))),(.var 2)])) [.ite (.cmp .NotIn (.var 8) (.var 4)) [.stv 4 (.var 8) (.con (.bl true)),.app 6 (.bin .Add (.var 7) (.tup [(.var 8)]))] []]],.frz 6,.set (.one 5) (.var 6)],.ret (.con .non)]
noncomputable def Wn:EV.Row:=⟨"way_to",top 47,["errand","place","key"],["errand","place","key","first","seen","ways","longer","way","there"],⟨3,9,Vk⟩⟩
noncomputable abbrev wF:List C:=[.ret (.comp (.tup [0,1]) [2] (.seq (.call 34 [(.var 0),(.var 1)])) [(.cmp .NotIn (.var 2) (.var 1))] (.var 0))]
noncomputable def xP:EV.Row:=⟨"unset_leads",top 48,["errand","place","key"],["errand","place","key"],⟨3,3,wF⟩⟩
noncomputable abbrev wH:List C:=[.set (.one 1) (.lst []),.set (.one 2) (.bi .abs [(.var 0)]),.ite (.cmp .GtE (.var 2) (.bin .Pow (.con (.int 10)) (.con (.int 18)))) [.forr (.one 3) (.rng none (.con (.int 60))) [.ite (.cmp .Gt (.var 2) (.con (.int 0))) [.app 1 (.bin .Mod (.var 2) (.bin .Pow (.con (.int 10)) (.con (.int 6)))),.set (.one 2) (.bin .FloorDiv (.var 2) (.bin .Pow (.con (.int 10)) (.con (.int 6))))] []],.ret (.var 1)] [],.forr (.one 3) (.rng none (.con (.int 9))) [.set (.one 4) (.bin .Mod (.bin .Add (.bin .Add (.bin .Mult (.var 0) (.con (.int 48271))) (.bin .Mult (.con (.int 977)) (.var 3))) (.con (.int 1))) (.con (.int 2147483647))),.set (.one 4) (.bin .Mod (.bin .Mult (.var 4) (.var 4)) (.con (.int 2147483647))),.app 1 (.bin .Mod (.bin .FloorDiv (.bin .Mod (.bin .Mult (.bin .Add (.var 4) (.bin .Mult (.con (.int 40692)) (.bin .Add (.var 3) (.con (.int 3))))) (.con (.int 69621))) (.con (.int 2147483629))) (.con (.int 8))) (.bin .Pow (.con (.int 10)) (.con (.int 6))))],.ret (.var 1)]
noncomputable def xU:EV.Row:=⟨"_law_row_of",top 50,["cell"],["cell","found","left","k","one"],⟨1,5,wH⟩⟩
noncomputable abbrev u9:List C:=[.set (.one 2) (.lst []),.forr (.one 3) (.seq (.slc (.var 0) none (some (.con (.int 63))))) [.set (.one 2) (.bin .Add (.var 2) (.call 41 [(.var 3)]))],.set (.one 4) (.bin .Mod (.bin .Add (.bin .Add (.con (.int 7919)) (.bi .len [(.var 2)])) (.bi .sum [(.var 2)])) (.con (.int 2147483629))),.forr (.one 5) (.rng none (.bi .max2 [(.con (.int 0)),(.bin .Sub (.var 1) (.bi .len [(.var 2)]))])) [.set (.one 4) (.bin .Mod (.bin .Add (.bin .Mult (.var 4) (.var 4)) (.con (.int 40692))) (.con (.int 2147483629))),.app 2 (.bin .Mod (.bin .FloorDiv (.var 4) (.con (.int 8))) (.bin .Pow (.con (.int 10)) (.con (.int 6))))],.frz 2,.ret (.lst [(.var 2),(.con (.int 0))])]
noncomputable def uq:EV.Row:=⟨"_law_pack",top 51,["script","many"],["script","many","found","cell","more","k"],⟨2,6,u9⟩⟩
noncomputable abbrev u5:List C:=[.set (.one 2) (.sub (.var 0) (.con (.int 1))),.sti (.var 0) (.con (.int 1)) (.bin .Add (.var 2) (.con (.int 1))),.ret (.bin .Mod (.bin .FloorDiv (.sub (.sub (.var 0) (.con (.int 0))) (.bin .Mod (.var 2) (.bi .len [(.sub (.var 0) (.con (.int 0)))]))) (.con (.int 7))) (.var 1))]
noncomputable def um:EV.Row:=⟨"_law_take",top 52,["pack","many"],["pack","many","at"],⟨2,3,u5⟩⟩
noncomputable abbrev uZ:List C:=[.set (.one 3) (.call 43 [(.var 0),(.con (.int 9))]),.ite (.or (.cmp .Eq (.var 2) (.con (.int 0))) (.one (.cmp .Lt (.var 3) (.con (.int 6))))) [.ite (.cmp .Eq (.bin .Mod (.var 3) (.con (.int 2))) (.con (.int 0))) [.ret (.sub (.var 1) (.call 43 [(.var 0),(.bi .len [(.var 1)])]))] [],.ret (.sub (.lst [(.call 43 [(.var 0),(.con (.int 4))]),(.bin .Sub (.con (.int 1000000006)) (.call 43 [(.var 0),(.con (.int 3))])),(.call 43 [(.var 0),(.con (.int 2))])]) (.bin .Mod (.bin .FloorDiv (.var 3) (.con (.int 2))) (.con (.int 3))))] [],.set (.one 4) (.sub (.con (.str "+-*<=")) (.call 43 [(.var 0),(.con (.int 5))])),.set (.one 5) (.call 44 [(.var 0),(.var 1),(.bin .Sub (.var 2) (.con (.int 1)))]),.ret (.tup [(.var 4),(.var 5),(.call 44 [(.var 0),(.var 1),(.bin .Sub (.var 2) (.con (.int 1)))])])]
noncomputable def ul:EV.Row:=⟨"_law_term",top 53,["pack","names","deep"],["pack","names","deep","way","sign","one"],⟨3,6,uZ⟩⟩
noncomputable abbrev wI:List C:=[.set (.one 3) (.sub (.bin .Add (.var 1) (.lst [(.con .non)])) (.call 43 [(.var 0),(.bin .Add (.bi .len [(.var 1)]) (.con (.int 1)))])),.set (.one 4) (.call 43 [(.var 0),(.bin .Add (.bin .Mult (.con (.int 2)) (.bi .len [(.var 2)])) (.con (.int 2)))]),.ite (.cmp .GtE (.var 4) (.bi .len [(.var 2)])) [.set (.one 5) (.sub (.lst [(.con (.str "bank")),(.con (.str "sky")),(.con (.str "a")),(.con (.str "clerk"))]) (.call 43 [(.var 0),(.con (.int 4))])),.ret (.tup [(.var 3),(.con (.str "ask")),(.var 5),(.call 44 [(.var 0),(.var 1),(.con (.int 1))])])] [],.set (.one 6) (.comp (.one 0) [0,1] (.rng none (.sub (.sub (.var 2) (.var 4)) (.con (.int 1)))) [] (.call 44 [(.var 1),(.var 2),(.con (.int 1))])),.ret (.tup [(.var 3),(.con (.str "call")),(.sub (.sub (.var 2) (.var 4)) (.con (.int 0))),(.bi .tuple [(.var 6)])])]
noncomputable def xV:EV.Row:=⟨"_law_branch",top 54,["pack","names","heads"],["pack","names","heads","name","which","who","args"],⟨3,7,wI⟩⟩
noncomputable abbrev vC:List C:=[.ite (.cmp .Lt (.var 3) (.con (.int 4))) [.set (.one 4) (.comp (.one 0) [0,1,2] (.rng none (.sub (.lst [(.con (.int 1)),(.con (.int 1)),(.con (.int 2)),(.con (.int 2)),(.con (.int 3)),(.con (.int 4))]) (.call 43 [(.var 0),(.con (.int 6))]))) [] (.call 45 [(.var 1),(.var 2),(.var 3)])),.ret (.tup [(.con (.str "want")),(.bin .Add (.con (.int 1)) (.call 43 [(.var 0),(.bi .len [(.var 4)])])),(.bi .tuple [(.var 4)])])] [],.ite (.cmp .Lt (.var 3) (.con (.int 6))) [.set (.one 5) (.sub (.var 1) (.call 43 [(.var 0),(.bi .len [(.var 1)])])),.ret (.tup [(.con (.str "set")),(.var 5),(.call 44 [(.var 0),(.var 1),(.con (.int 2))])])] [],.ret (.tup [(.sub (.lst [(.con (.str "tell")),(.con (.str "fail")),(.con (.str "give"))]) (.bin .Sub (.var 3) (.con (.int 6)))),(.call 44 [(.var 0),(.var 1),(.con (.int 2))])])]
noncomputable def wZ:EV.Row:=⟨"_law_plain",top 55,["pack","names","heads","way"],["pack","names","heads","way","branches","name"],⟨4,6,vC⟩⟩
noncomputable abbrev yQ:List C:=[.set (.one 2) (.call 43 [(.var 0),(.con (.int 8))]),.ite (.cmp .Lt (.var 2) (.con (.int 3))) [.ret (.call 46 [(.var 0),(.var 1),(.lst []),(.con (.int 0))])] [],.ret (.call 46 [(.var 0),(.var 1),(.lst []),(.sub (.lst [(.con (.int 4)),(.con (.int 5)),(.con (.int 6)),(.con (.int 6)),(.bin .Add (.con (.int 7)) (.bin .FloorDiv (.call 43 [(.var 0),(.con (.int 8))]) (.con (.int 4))))]) (.bin .Sub (.var 2) (.con (.int 3))))])]
noncomputable def yH:EV.Row:=⟨"_law_straight",top 56,["pack","names"],["pack","names","way"],⟨2,3,yQ⟩⟩
noncomputable abbrev u6:List C:=[.ite (.bi (.isinst .str) [(.var 0)]) [.ret (.lst [(.var 0)])] [],.ite (.bi (.isinst .int) [(.var 0)]) [.ret (.lst [])] [],.ret (.bin .Add (.call 48 [(.sub (.var 0) (.con (.int 1)))]) (.call 48 [(.sub (.var 0) (.con (.int 2)))]))]
noncomputable def uo:EV.Row:=⟨"_law_read",top 57,["one"],["one"],⟨1,1,u6⟩⟩
noncomputable abbrev vD:List C:=[.ite (.or (.cmp .Eq (.sub (.var 0) (.con (.int 0))) (.con (.str "give"))) (.one (.cmp .Eq (.sub (.var 0) (.con (.int 0))) (.con (.str "fail"))))) [.ret (.call 48 [(.sub (.var 0) (.con (.int 1)))])] [],.ite (.cmp .Eq (.sub (.var 0) (.con (.int 0))) (.con (.str "tell"))) [.ret (.bin .Add (.var 1) (.call 48 [(.sub (.var 0) (.con (.int 1)))]))] [],.ite (.cmp .Eq (.sub (.var 0) (.con (.int 0))) (.con (.str "set"))) [.ret (.bin .Add (.comp (.one 0) [0] (.seq (.var 1)) [(.cmp .NotEq (.var 0) (.sub (.var 1) (.con (.int 1))))] (.var 0)) (.call 48 [(.sub (.var 0) (.con (.int 2)))]))] [],.set (.one 2) (.lst []),.set (.one 3) (.lst []),.forr (.tup [4,5,6,7]) (.seq (.sub (.var 0) (.con (.int 2)))) [.set (.one 2) (.bin .Add (.var 2) (.call 48 [(.var 7)])),.ite (.cmp .Eq (.sub (.var 0) (.con (.int 1))) (.bi .len [(.sub (.var 0) (.con (.int 2)))])) [.app 3 (.var 4)] []],.ret (.bin .Add (.comp (.one 0) [3] (.seq (.var 1)) [(.cmp .NotIn (.var 0) (.var 1))] (.var 0)) (.var 2))]
noncomputable def vf:EV.Row:=⟨"_law_ahead",top 58,["row","needed"],["row","needed","found","told","name","way","who","one"],⟨2,8,vD⟩⟩
noncomputable abbrev b_law:List C:=[.set (.one 1) (.box (.call 42 [(.var 0),(.con (.int 90))])),.set (.one 2) (.slc (.lst [(.con (.str "x")),(.con (.str "p")),(.con (.str "zed"))]) none (some (.call 43 [(.var 1),(.con (.int 4))]))),.set (.one 3) (.slc (.lst [(.con (.str "p")),(.con (.str "x")),(.con (.str "yy")),(.con (.str "pq"))]) (some (.call 43 [(.var 1),(.con (.int 3))])) none),.frz 3,.set (.one 4) (.bi .tuple [(.comp (.one 0) [1,3] (.rng none (.call 43 [(.var 1),(.con (.int 9))])) [] (.call 47 [(.var 1),(.var 2)]))]),.set (.one 5) (.lst [(.tup [(.tup [(.bi .len [(.var 4)])]),(.tup [])])]),.set (.one 6) (.lst []),.forr (.one 7) (.dwn [(.bin .Sub (.bi .len [(.var 4)]) (.con (.int 1))),(.neg (.con (.int 1))),(.neg (.con (.int 1)))]) [.frz 6,.set (.one 6) (.call 49 [(.sub (.var 4) (.var 7)),(.var 6)]),.frz 6,.app 5 (.tup [(.tup [(.var 7)]),(.bi .tuple [(.bi .sset [(.var 6)])])])],.set (.one 8) (.tup [(.con (.str "main")),(.bi .tuple [(.var 2)]),(.var 4)]),.set (.one 9) (.call 36 [(.var 8)]),.frz 5,.ite (.or (.not (.bi (.isinst .tuple) [(.var 9)])) (.or (.cmp .NotEq (.var 9) (.bi .trev [(.var 5)])) (.one (.cmp .NotEq (.callk 36 [0] [(.var 8)]) (.var 9))))) [.ret (.con (.bl false))] [],.ret (.cmp .Eq (.callk 39 [2,1,0] [(.con (.str "p")),(.tup [(.con (.int 0))]),(.var 8)]) (.call 39 [(.var 8),(.tup [(.con (.int 0))]),(.con (.str "p"))]))]
noncomputable def r_law:EV.Row:=⟨"law",top 59,["script"],["script","pack","params","names","rows","due","needed","k","straight","found"],⟨1,10,b_law⟩⟩
noncomputable def rs:List EV.Row:=[uh,xT,yG,Wr,xf,wU,jw,xj,jy,Wv,wW,jA,Wq,Zq,Wu,zbh,ud,Ww,Zu,Ws,wX,ug,uf,wY,Wt,Zv,xg,ju,jz,Zt,xR,wV,Zr,ue,jx,Wo,Jp,xQ,yF,Wn,xP,xU,uq,um,ul,xV,wZ,yH,uo,vf,r_law]
noncomputable def B:Tb:=⟨[("blocks_of":Str),("formulas_of":Str),("formula_names":Str),("places":Str),("block_places":Str),("row_places":Str),("round_of":Str),("beginning_of":Str),("first_of":Str),("behind":Str),("is_between":Str),("block_at":Str),("row_at":Str),("word_at":Str),("is_end":Str),("slid":Str),("slid_once":Str),("around":Str),("fall_at":Str),("off_at":Str),("dos_around":Str),("do_places":Str),("number_at":Str),("door_leads":Str),("key_of":Str),("deed_at":Str),("between_deed":Str),("row_deed":Str),("fall_due":Str),("off_due":Str),("key_of_fall":Str),("key_of_off":Str),("read_at":Str),("row_names":Str),("leads_at":Str),("set_by":Str),("needs":Str),("needed_keys":Str),("needed_beyond":Str),("way_to":Str),("unset_leads":Str),("_law_row_of":Str),("_law_pack":Str),("_law_take":Str),("_law_term":Str),("_law_branch":Str),("_law_plain":Str),("_law_straight":Str),("_law_read":Str),("_law_ahead":Str),("law":Str)],[(["row"]:List Str),(["row"]:List Str),(["one"]:List Str),(["errand"]:List Str),(["block","ahead"]:List Str),(["row","place"]:List Str),(["place"]:List Str),(["place"]:List Str),(["place","number"]:List Str),(["place"]:List Str),(["place"]:List Str),(["errand","place"]:List Str),(["errand","place"]:List Str),(["errand","place"]:List Str),(["errand","place"]:List Str),(["errand","place"]:List Str),(["errand","place"]:List Str),(["errand","place"]:List Str),(["errand","place"]:List Str),(["errand","place"]:List Str),(["errand","place"]:List Str),(["block","ahead"]:List Str),(["errand","place"]:List Str),(["door"]:List Str),(["d"]:List Str),(["errand","place"]:List Str),(["errand","place"]:List Str),(["errand","place","row"]:List Str),(["errand","place","door"]:List Str),(["errand","place","door"]:List Str),(["fall"]:List Str),(["errand","beginning"]:List Str),(["errand","place"]:List Str),(["row"]:List Str),(["errand","place"]:List Str),(["deed"]:List Str),(["errand"]:List Str),(["errand"]:List Str),(["leads","needed","known"]:List Str),(["errand","place","key"]:List Str),(["errand","place","key"]:List Str),(["cell"]:List Str),(["script","many"]:List Str),(["pack","many"]:List Str),(["pack","names","deep"]:List Str),(["pack","names","heads"]:List Str),(["pack","names","heads","way"]:List Str),(["pack","names"]:List Str),(["one"]:List Str),(["row","needed"]:List Str),(["script"]:List Str)],[("FALLING",(.ktp [(.str "fail"),(.str "round"),(.str "want"),(.str "out")])),("LEAVING",(.ktp [(.str "want"),(.str "out")]))],["abs","any","enumerate","int","isinstance","len","max","range","reversed","set","sorted","str","sum","tuple"],[(36,["errand"],[0]),(39,["key","place","errand"],[2,1,0])]⟩
noncomputable def uB:PySem.Program:={ ϣ with main:={ ϣ.main with body:=(((((((ϣ.main.body).eraseIdx 49).eraseIdx 43).eraseIdx 29).eraseIdx 27).eraseIdx 25).eraseIdx 4).eraseIdx 0 } }
set_option maxRecDepth 100000 in
set_option maxHeartbeats 0 in
theorem zde:W.LeftO PySem.Challenge.rw_errandroom_k45_needs_of_straight_rows.prog uB [] (fun s=>W.xlAt uB [] s&&W.recOk [] s) (fun s=>EV.seenT (EV.frOf s.heap 400) B rs) (fun _=>EV.wantT B rs) 4000:=fun w=>by kernel_rfl
end Q45
namespace L2
open PySem PySem.Spec PyProof.Rows
noncomputable def keyIs:Key->δ->Bool
 | .inl k,v=>δ.isInt k v
 | .inr x,v=>eE x v
noncomputable def keyH (w:ϖ):Key->Int
 | .inl k=>hashInt k
 | .inr x=>hashStr w x
theorem zG:∀ {k:Key}{v:δ},keyIs k v=true->(∃ i t,k=Ϙ i/\v=ϕ i t)\/(∃ x t,k=gr x/\v=bC x t)
 | .inl i,v,h=>by
  obtain ⟨t,e⟩:=δ.isInt_shape (k:=i) (v:=v) h
  exact .inl ⟨i,t,rfl,e⟩
 | .inr x,v,h=>by
  obtain ⟨t,e⟩:=δ.isStrOf_shape (x:=x) (v:=v) h
  exact .inr ⟨x,t,rfl,e⟩
theorem J7 (i:Int) (t:Tok):keyIs (.inl i) (.int i t)=true:=by simp [keyIs,δ.isInt]
theorem J6 (x:Str) (t:Tok):keyIs (.inr x) (.str x t)=true:=by simp [keyIs,eE]
theorem zfp (a b:Int):decide ((Ϙ a:Key)=Ϙ b)=(a==b):=by
 by_cases e:a=b
 ·subst e;simp
 ·have h:¬ (Ϙ a:Key)=Ϙ b:=fun q=>e (fV q)
  rw [decide_eq_false h]
  exact (beq_eq_false_iff_ne.mpr e).symm
theorem zfm (a b:Str):decide ((gr a:Key)=gr b)=decide (a=b):=by
 by_cases e:a=b
 ·subst e;simp
 ·have h:¬ (gr a:Key)=gr b:=fun q=>e (gr.inj q)
  rw [decide_eq_false h,decide_eq_false e]
theorem zfo (a:Int) (b:Str):decide ((Ϙ a:Key)=gr b)=false:=decide_eq_false (fun q=>nomatch q)
theorem zfn (a:Str) (b:Int):decide ((gr a:Key)=Ϙ b)=false:=decide_eq_false (fun q=>nomatch q)
noncomputable def zF (prog:Ν) (w:ϖ):PySem.KeyKind prog w Key where
 is:=keyIs
 hash:=keyH w
 inj:=fun v a b ha hb=>by
  rcases zG ha with ⟨i,t,rfl,rfl⟩ | ⟨x,t,rfl,rfl⟩
  ·rcases zG hb with ⟨j,u,rfl,e⟩ | ⟨y,u,rfl,e⟩
   ·injection e with e1 _;rw [e1]
   ·exact nomatch e
  ·rcases zG hb with ⟨j,u,rfl,e⟩ | ⟨y,u,rfl,e⟩
   ·exact nomatch e
   ·injection e with e1 _;rw [e1]
 byValue:=fun k v h=>by
  rcases zG h with ⟨i,t,rfl,rfl⟩ | ⟨x,t,rfl,rfl⟩ <;> rfl
 pyHash:=fun hv h=>by
  rcases zG hv with ⟨i,t,rfl,rfl⟩ | ⟨x,t,rfl,rfl⟩
  ·exact wpAny_pyHash_int h
  ·exact wpAny_pyHash_str h
 eqBool:=fun hu hv h=>by
  rcases zG hu with ⟨i,t,rfl,rfl⟩ | ⟨x,t,rfl,rfl⟩
  ·rcases zG hv with ⟨j,u,rfl,rfl⟩ | ⟨y,u,rfl,rfl⟩
   ·rw [zfp] at h;exact wpAny_eqBool_int h
   ·rw [zfo] at h;exact nJ i t y u _ _ _ _ h
  ·rcases zG hv with ⟨j,u,rfl,rfl⟩ | ⟨y,u,rfl,rfl⟩
   ·rw [zfn] at h;exact nH x t j u _ _ _ _ h
   ·rw [zfm] at h;exact wpAny_eqBool_str h
 «strs»:=fun k x t v h=>by
  rcases zG h with ⟨i,u,rfl,e⟩ | ⟨y,u,rfl,e⟩
  ·exact nomatch e
  ·injection e with e1 _
   subst e1
   cases v <;> rfl
theorem Xc (prog:Ν) (w:ϖ) (i:Int) (t:Tok):(zF prog w).is (.inl i) (.int i t)=true:=J7 i t
theorem Xb (prog:Ν) (w:ϖ) (x:Str) (t:Tok):(zF prog w).is (.inr x) (.str x t)=true:=J6 x t
inductive V where
 | non | bl (b:Bool) | int (i:Int) | str (x:Str) | byt (b:Array UInt8) | flt (b:UInt64) | ref (a:Addr) | ty (n:String)
 deriving DecidableEq
def RelV:V->δ->Prop
 | .non,u=>u=Ε
 | .bl b,u=>u=Ω b
 | .int i,u=>∃ t,u=ϕ i t
 | .str x,u=>∃ t,u=bC x t
 | .byt b,u=>∃ t,u=δ.bytes b t
 | .flt b,u=>∃ t,u=δ.float b t
 | .ref a,u=>u=ω a
 | .ty n,u=>u=Ψ n
abbrev Vals:List V->List δ->Prop:=dO RelV
theorem Vals.length {xs:List V}{us:List δ}(r:Vals xs us):xs.length=us.length:=iR r
theorem Vals.get:∀ {xs:List V}{us:List δ}{i:Nat}{x:V},Vals xs us->xs[i]?=some x->∃ u,us[i]?=some u/\RelV x u
 | _,_,_,_,.nil,e=>by simp at e
 | _,_,0,_,.cons r _,e=>by simp at e;subst e;exact ⟨_,rfl,r⟩
 | _,_,i+1,x,.cons _ t,e=>by
  obtain ⟨u,h1,h2⟩:=Vals.get (i:=i) (x:=x) t (by simpa using e)
  exact ⟨u,by simpa using h1,h2⟩
theorem Vals.set {x:V}{u:δ}(r:RelV x u):∀ {xs:List V}{us:List δ}(i:Nat),Vals xs us->Vals (xs.set i x) (us.set i u)
 | _,_,_,.nil=>.nil
 | _,_,0,.cons _ t=>.cons r t
 | _,_,i+1,.cons q t=>.cons q (Vals.set r i t)
theorem Vals.append:∀ {xs ys:List V}{us ws:List δ},Vals xs us->Vals ys ws->Vals (xs++ys) (us++ws)
 | _,_,_,_,.nil,s=>s
 | _,_,_,_,.cons r t,s=>.cons r (Vals.append t s)
theorem Vals.take:∀ {xs:List V}{us:List δ}(n:Nat),Vals xs us->Vals (xs.take n) (us.take n)
 | _,_,0,_=>.nil
 | _,_,_+1,.nil=>.nil
 | _,_,n+1,.cons r t=>.cons r (Vals.take n t)
theorem Vals.drop:∀ {xs:List V}{us:List δ}(n:Nat),Vals xs us->Vals (xs.drop n) (us.drop n)
 | _,_,0,r=>r
 | _,_,_+1,.nil=>.nil
 | _,_,n+1,.cons _ t=>Vals.drop n t
def RelO:Option V->Option δ->Prop
 | some v,some u=>RelV v u
 | none,none=>True
 | _,_=>False
def KV {κ:Type}:List (κ×V)->List (κ×δ)->Prop:=dO fun (p:κ×V) (q:κ×δ)=>p.1=q.1/\RelV p.2 q.2
noncomputable def kV:Key->V
 | .inl i=>.int i
 | .inr x=>.str x
inductive HO where
 | lst (xs:List V)
 | tup (xs:List V)
 | dK (kvs:List (Key×V)) | dT (kvs:List (List Key×V))
 | set (S:Int->Bool) (n:Nat)
 | ins (C dx:Addr) (fs:List (Str×V))
 | own (x:Addr)
 | xd (fs:List (Str×V))
 | met (f x:Addr)
 | rng (lo hi:Int)
 | frz (o:Obj) (u:HO)
 | tbl (ps:Array δ)
 | ext (φ:Heap->Prop)
abbrev Hp:=Addr->Option HO
noncomputable def upd (H:Hp) (a:Addr) (o:HO):Hp:=fun b=>if b=a then some o else H b
theorem zj {H:Hp}{a:Addr}{o:HO}:upd H a o a=some o:=by unfold upd;rw [if_pos rfl]
theorem zc {H:Hp}{a b:Addr}{o:HO}(h:b≠a):upd H a o b=H b:=by unfold upd;rw [if_neg h]
theorem ne_of {H:Hp}{a b:Addr}{o u:HO}(h:H a=some o) (h':H b=some u) (d:o≠u):a≠b:=by
 intro e;subst e;rw [h] at h';exact d (ϔ h')
theorem zf {H:Hp}{a b:Addr}{o:HO}(h:H a=some o) (h':H b=none):a≠b:=by
 intro e;subst e;rw [h] at h';cases h'
section
variable (P:Ν) (w:ϖ)
def ObjOk (H:Hp) (h:Heap) (a:Addr):HO->Prop
 | .lst xs=>xs.length<=sizeLine/\∃ (its:List δ) (n:Nat),Vals xs its/\h.get? a=some { cls:=.type "list",data:=.seq its.toArray n }
 | .tup xs=>xs.length<=sizeLine/\∃ its:List δ,Vals xs its/\lK h a its.toArray
 | .dK kvs=>kvs.length<=sizeLine/\(a==cP)=false/\∃ vs,KV kvs vs/\h.DictOf (zF P w) a vs
 | .dT kvs=>kvs.length<=sizeLine/\(a==cP)=false/\∃ xs:List (List Key×Addr×δ),
   dO (fun (p:List Key×V) (q:List Key×Addr×δ)=>p.1=q.1/\H q.2.1=some (.tup (p.1.map kV))/\RelV p.2 q.2.2) kvs xs /\
   ∃ o es ep,h.get? a=some o/\o.ExactDict/\o.data=.dict es ep/\es.toList=xs.map (mz (fG (zF P w)))/\(xs.map (·.1)).Nodup
 | .set S n=>h.SetOf (intKind P w) a S n
 | .ins C dx fs=>H dx=some (.own a)/\fs.length<=1000/\dx≠a/\h.get? a=some (W.instObj C dx) /\
   ∃ mA,h.Ns1 dx mA/\(∀ f,RelO (fs.lookup f) (mA f))/\PySem.Within mA (fs.map (·.1))
 | .own _=>∃ o,h.get? a=some o
 | .xd fs=>∃ mA,h.Ns1 a mA/\∀ f,RelO (fs.lookup f) (mA f)
 | .rng lo hi=>∃ t u v,h.get? a=some { cls:=.type "range",data:=.fields #[.int lo t,.int hi u,.int 1 v] }
 | .frz o u=>h.get? a=some o/\ObjOk H h a u
 | .tbl ps=>h.get? a=some { cls:=.none,data:=.fields ps }
 | .met f x=>h.get? a=some (W.methodObj (.ref f) (.ref x))
 | .ext φ=>φ h/\(∃ o,h.get? a=some o)/\∀ h1 h2:Heap,φ h1->(∀ o,h1.get? a=some o->h2.get? a=some o)->φ h2
def HOk (H:Hp) (h:Heap):Prop:=∀ a o,H a=some o->ObjOk P w H h a o
end
section
variable {P:Ν}{w:ϖ}{H H':Hp}{h h':Heap}{a:Addr}{o:HO}
theorem ObjOk.lt (x:ObjOk P w H h a o):a < h.objs.size:=by
 cases o with
 | lst xs=>obtain ⟨_,_,_,_,e⟩:=x;exact χ e
 | tup xs=>obtain ⟨_,_,_,p⟩:=x;exact p.lt
 | dK kvs=>obtain ⟨_,_,_,_,o,_,_,e,_⟩:=x;exact χ e
 | dT kvs=>obtain ⟨_,_,_,_,o,_,_,e,_⟩:=x;exact χ e
 | set S n=>obtain ⟨o,_,_,_,e,_⟩:=x;exact χ e
 | ins C dx fs=>obtain ⟨_,_,_,e,_⟩:=x;exact χ e
 | own y=>obtain ⟨_,e⟩:=x;exact χ e
 | xd fs=>obtain ⟨_,⟨_,_,_,e,_⟩,_⟩:=x;exact χ e
 | rng lo hi=>obtain ⟨_,_,_,e⟩:=x;exact χ e
 | frz ob u=>obtain ⟨e,_⟩:=x;exact χ e
 | tbl ps=>exact χ (show h.get? a=some _ from x)
 | met f y=>exact χ (show h.get? a=some _ from x)
 | ext φ=>obtain ⟨_,⟨_,e⟩,_⟩:=x;exact χ e
theorem dO.mapP {α β:Type}{F G:α->β->Prop}:∀ {l₁:List α}{l₂:List β},dO F l₁ l₂->(∀ a b,F a b->G a b)->dO G l₁ l₂
 | _,_,.nil,_=>.nil
 | _,_,.cons r t,f=>.cons (f _ _ r) (dO.mapP t f)
theorem ObjOk.stay (x:ObjOk P w H h a o) (k:∀ b u,(b=a\/H b=some (.own a))->h.get? b=some u->h'.get? b=some u)
  (ho:∀ b,H b=some (.own a)->H' b=some (.own a)) (ht:∀ b xs,H b=some (.tup xs)->H' b=some (.tup xs)):ObjOk P w H' h' a o:=by
 induction o with
 | lst xs=>obtain ⟨z,its,n,r,e⟩:=x;exact ⟨z,its,n,r,k _ _ (.inl rfl) e⟩
 | tup xs=>obtain ⟨z,its,r,ob,e,c⟩:=x;exact ⟨z,its,r,ob,k _ _ (.inl rfl) e,c⟩
 | dK kvs=>obtain ⟨z,y,vs,r,ob,es,ep,e,c⟩:=x;exact ⟨z,y,vs,r,ob,es,ep,k _ _ (.inl rfl) e,c⟩
 | dT kvs=>
  obtain ⟨z,y,xs,r,ob,es,ep,e,c⟩:=x
  exact ⟨z,y,xs,dO.mapP r fun p q z=>⟨z.1,ht _ _ z.2.1,z.2.2⟩,ob,es,ep,k _ _ (.inl rfl) e,c⟩
 | set S n=>obtain ⟨ob,es,ep,t,e,c⟩:=x;exact ⟨ob,es,ep,t,k _ _ (.inl rfl) e,c⟩
 | ins C dx fs=>
  obtain ⟨d,z,ne,e,mA,⟨od,es,ep,e2,c⟩,r⟩:=x
  exact ⟨ho _ d,z,ne,k _ _ (.inl rfl) e,mA,⟨od,es,ep,k _ _ (.inr d) e2,c⟩,r⟩
 | own y=>obtain ⟨ob,e⟩:=x;exact ⟨ob,k _ _ (.inl rfl) e⟩
 | xd fs=>obtain ⟨mA,⟨od,es,ep,e,c⟩,r⟩:=x;exact ⟨mA,⟨od,es,ep,k _ _ (.inl rfl) e,c⟩,r⟩
 | rng lo hi=>obtain ⟨t,u,v,e⟩:=x;exact ⟨t,u,v,k _ _ (.inl rfl) e⟩
 | frz ob u ih=>obtain ⟨e,q⟩:=x;exact ⟨k _ _ (.inl rfl) e,ih q⟩
 | tbl ps=>
  have e:h.get? a=some { cls:=.none,data:=.fields ps }:=x
  show h'.get? a=some { cls:=.none,data:=.fields ps }
  exact k a _ (.inl rfl) e
 | met f y=>
  have e:h.get? a=some (W.methodObj (.ref f) (.ref y)):=x
  show h'.get? a=some (W.methodObj (.ref f) (.ref y))
  exact k a _ (.inl rfl) e
 | ext φ=>obtain ⟨p,⟨o,e⟩,st⟩:=x;exact ⟨st _ _ p fun o q=>k _ _ (.inl rfl) q,⟨o,k _ _ (.inl rfl) e⟩,st⟩
theorem HOk.lt (x:HOk P w H h) (e:H a=some o):a < h.objs.size:=(x a o e).lt
theorem HOk.fresh (x:HOk P w H h) (e:h.objs.size<=a):H a=none:=by
 cases q:H a with
 | none=>rfl
 | some u=>exact absurd (ό (x.lt q) e) (cN _)
theorem HOk.kept (x:HOk P w H h) (k:∀ b u,h.get? b=some u->h'.get? b=some u):HOk P w H h':=fun a o e=>
 (x a o e).stay (fun b u _ q=>k b u q) (fun _ q=>q) fun _ _ q=>q
theorem HOk.laid (x:HOk P w H h) (k:∀ b u,h.get? b=some u->h'.get? b=some u) (hp:h.objs.size<=a) (new:ObjOk P w (upd H a o) h' a o):HOk P w (upd H a o) h':=fun b u e=>by
 have hn:=x.fresh hp
 by_cases hb:b=a
 ·subst hb;rw [zj] at e;cases e;exact new
 ·rw [zc hb] at e
  exact (x b u e).stay (fun c v _ q=>k c v q) (fun c q=>by rw [zc (zf q hn)];exact q) fun c xs q=>by rw [zc (zf q hn)];exact q
end
def Rd (H:Hp) (a:Addr) (u:HO):Prop:=H a=some u\/∃ o,H a=some (.frz o u)
theorem Rd.ok {P:Ν}{w:ϖ}{H:Hp}{h:Heap}{a:Addr}{u:HO}(r:Rd H a u) (x:HOk P w H h):ObjOk P w H h a u:=by
 rcases r with r | ⟨o,r⟩
 ·exact x a u r
 ·obtain ⟨_,q⟩:=x a _ r
  exact q
def Mut:Option HO->Prop
 | some (.lst _)=>True
 | some (.dK _)=>True
 | some (.dT _)=>True
 | some (.set _ _)=>True
 | some (.ins _ _ _)=>True
 | some (.ext _)=>True
 | _=>False
section
variable {P:Ν}{w:ϖ}{H:Hp}{h h':Heap}{x e:Addr}{o':HO}
theorem HOk.write (ok:HOk P w H h) (mu:Mut (H x)) (he:e=x\/H e=some (.own x)) (k:∀ b u,b≠e->h.get? b=some u->h'.get? b=some u) (heo:∃ u,h'.get? e=some u)
  (new:ObjOk P w (upd H x o') h' x o'):HOk P w (upd H x o') h':=fun b u q=>by
 have nown:∀ c y,H c=some (.own y)->c≠x:=fun c y r z=>by subst z;rw [r] at mu;exact mu
 have ntup:∀ c xs,H c=some (.tup xs)->c≠x:=fun c xs r z=>by subst z;rw [r] at mu;exact mu
 by_cases hb:b=x
 ·subst hb;rw [zj] at q;cases q;exact new
 ·rw [zc hb] at q
  by_cases hbe:b=e
  ·have q':H b=some (.own x):=by
    rcases he with z | z
    ·exact absurd (hbe.trans z) hb
    ·rw [hbe];exact z
   rw [q] at q';cases q'
   obtain ⟨v,hv⟩:=heo
   exact ⟨v,by rw [hbe];exact hv⟩
  ·refine (ok b u q).stay (fun c v hc r=>k c v ?_ r) (fun c r=>by rw [zc (nown c b r)];exact r) fun c xs r=>by rw [zc (ntup c xs r)];exact r
   rcases hc with rfl | hc
   ·exact hbe
   ·rintro rfl
    rcases he with z | z
    ·exact nown c b hc z
    ·rw [hc] at z;cases z;exact hb rfl
end
structure Un (fs ex:List Addr) (H H':Hp) (h h':Heap):Prop where
 keep:∀ b o,h.get? b=some o->H b=none->b ∉ fs->b ∉ ex->h'.get? b=some o
 slot:∀ b o,h.get? b=some o->H b=none->b∈fs->b ∉ ex->∃ sl,h'.get? b=some { o with slots:=sl }
 free:∀ b o,h.get? b=some o->H b=none->b ∉ ex->H' b=none
 there:∀ b o,h.get? b=some o->b ∉ ex->∃ o',h'.get? b=some o'
 tups:∀ b xs,H b=some (.tup xs)->H' b=some (.tup xs)
 frzs:∀ b o u,H b=some (.frz o u)->H' b=some (.frz o u)
 tbls:∀ b ps,H b=some (.tbl ps)->∃ more,H' b=some (.tbl (ps++more))
section
variable {fs fs' ex ex':List Addr}{H H1 H2:Hp}{h h1 h2 h':Heap}{a x e:Addr}{o:HO}
theorem Un.any (u:Un fs ex H H1 h h1) {b:Addr}{ob:Obj}(q:h.get? b=some ob) (n:H b=none) (hx:b ∉ ex):∃ sl,h1.get? b=some { ob with slots:=sl }:=by
 by_cases hb:b∈fs
 ·exact u.slot b ob q n hb hx
 ·exact ⟨ob.slots,u.keep b ob q n hb hx⟩
theorem Un.trans (a:Un fs ex H H1 h h1) (b:Un fs ex H1 H2 h1 h2):Un fs ex H H2 h h2 where
 keep:=fun c ob q n hc hx=>b.keep c ob (a.keep c ob q n hc hx) (a.free c ob q n hx) hc hx
 slot:=fun c ob q n hc hx=>by
  obtain ⟨sl,e1⟩:=a.slot c ob q n hc hx
  obtain ⟨sl',e2⟩:=b.slot c _ e1 (a.free c ob q n hx) hc hx
  exact ⟨sl',e2⟩
 free:=fun c ob q n hx=>by
  obtain ⟨o',e1⟩:=a.there c ob q hx
  exact b.free c o' e1 (a.free c ob q n hx) hx
 there:=fun c ob q hx=>by
  obtain ⟨o',e1⟩:=a.there c ob q hx
  exact b.there c o' e1 hx
 tups:=fun c xs q=>b.tups c xs (a.tups c xs q)
 frzs:=fun c ob xs q=>b.frzs c ob xs (a.frzs c ob xs q)
 tbls:=fun c ps q=>by
  obtain ⟨m1,e1⟩:=a.tbls c ps q
  obtain ⟨m2,e2⟩:=b.tbls c _ e1
  exact ⟨m1++m2,by rw [e2,o8]⟩
theorem Un.kept (k:∀ b u,h.get? b=some u->h'.get? b=some u):Un fs ex H H h h':=
 ⟨fun b ob q _ _ _=>k b ob q,fun b ob q _ _ _=>⟨ob.slots,k b ob q⟩,fun _ _ _ n _=>n,fun b ob q _=>⟨ob,k b ob q⟩,fun _ _ q=>q,fun _ _ _ q=>q,fun _ ps q=>⟨#[],by rw [q];simp⟩⟩
theorem Un.refl:Un fs ex H H h h:=Un.kept fun _ _ q=>q
theorem Un.laid (k:∀ b u,h.get? b=some u->h'.get? b=some u) (hp:h.objs.size<=a) (hn:H a=none):Un fs ex H (upd H a o) h h' where
 keep:=fun b u q _ _ _=>k b u q
 slot:=fun b u q _ _ _=>⟨u.slots,k b u q⟩
 free:=fun b u q n _=>by rw [zc (Λ (ό (χ q) hp))];exact n
 there:=fun b u q _=>⟨u,k b u q⟩
 tups:=fun b xs q=>by rw [zc (zf q hn)];exact q
 frzs:=fun b u xs q=>by rw [zc (zf q hn)];exact q
 tbls:=fun b ps q=>⟨#[],by rw [zc (zf q hn),q];simp⟩
theorem Un.write (mu:Mut (H x)) (he:e=x\/H e=some (.own x)) (k:∀ b u,b≠e->h.get? b=some u->h'.get? b=some u) (heo:∃ u,h'.get? e=some u):Un fs ex H (upd H x o) h h':=by
 have hx:∀ b,H b=none->b≠x:=fun b n z=>by subst z;rw [n] at mu;exact mu
 have hb:∀ b,H b=none->b≠e:=fun b n z=>by
  subst z
  rcases he with r | r
  ·exact hx b n r
  ·rw [n] at r;cases r
 have hm:∀ b u,H b=some u->¬ Mut (some u)->b≠x:=fun b u q nm z=>by subst z;rw [q] at mu;exact nm mu
 refine ⟨fun b u q n _ _=>k b u (hb b n) q,fun b u q n _ _=>⟨u.slots,k b u (hb b n) q⟩,fun b u q n _=>by rw [zc (hx b n)];exact n,fun b u q _=>?_,
  fun b xs q=>by rw [zc (hm b _ q fun z=>z)];exact q,fun b u xs q=>by rw [zc (hm b _ q fun z=>z)];exact q,fun b ps q=>⟨#[],by rw [zc (hm b _ q fun z=>z),q];simp⟩⟩
 by_cases hbe:b=e
 ·subst hbe;exact heo
 ·exact ⟨u,k b u hbe q⟩
end
noncomputable def trk (h:Heap) (H:Hp):List Addr:=(Η h.objs.size).filter fun a=>(H a).isSome
noncomputable def hidT (h:Heap) (H:Hp):Heap:=W.hideAll h (trk h H)
theorem KH (h:Heap) (H:Hp):(hidT h H).objs.size=h.objs.size:=W.hideAll_size _ _
theorem zaM {h:Heap}{H:Hp}{b:Addr}{o:Obj}(e:h.get? b=some o) (n:H b=none):(hidT h H).get? b=some o:=
 W.hideAll_get _ e fun hm=>by
  have q:(H b).isSome=true:=(dI.mp hm).2
  rw [n] at q;simp at q
theorem zcW {h:Heap}{H:Hp}{b:Addr}{o:Obj}(e:(hidT h H).get? b=some o):h.get? b=some o/\H b=none:=by
 have e':h.get? b=some o:=W.of_hideAll (trk h H) e
 refine ⟨e',?_⟩
 cases q:H b with
 | none=>rfl
 | some x=>
  have hm:b∈trk h H:=dI.mpr ⟨ϫ.mpr (χ e'),by simp [q]⟩
  have z:(hidT h H).get? b=none:=W.hideAll_none (trk h H) hm
  rw [z] at e;cases e
noncomputable def zdQ (g h:Heap) (L:Addr):List (Addr×Obj):=(Η h.objs.size).filterMap fun a=>if a=L\/(g.get? a).isSome=true then none else (h.get? a).map fun o=>(a,o)
noncomputable def rest (g h:Heap) (L d:Addr):List (Addr×Obj):=(zdQ g h L).filter fun p=>decide (p.1≠d)
structure Mod (K:W.Frag) (mg:Str->Option δ) (base:Heap):Prop where
 kin:K.In base
 glob:base.Ns Ϗ mg
 blt:∃ mb,base.Ns builtinsNs mb/\∀ x:Str,x≠"__name__"->mb x=cQ x
 nolimit:base.NoLimit
structure Cx where
 prog:Ν
 w:ϖ
 K:W.Frag
 mg:Str->Option δ
 base:Heap
 A:ϗ
 N:List Str
 sy:μ
 Hz:Hp
 env:Env
 outer:List Env
 stack:List Env
 ex:List Addr
 fn:Str->Bool
 calm:Bool
 pn:List (Addr×Obj)
 xe:δ->μ->Prop
noncomputable def frs (l:List Env):List Addr:=l.filterMap (·.frame)
noncomputable abbrev Cx.fs (X:Cx):List Addr:=frs X.outer
def Vis (sc:dW) (x:Str):Prop:=sc.names.lookup x=some .local\/sc.names.lookup x=some .cell\/sc.names.lookup x=some .free
def Loc (sc:dW) (x:Str):Prop:=sc.names.lookup x=some .local\/sc.names.lookup x=some .cell
def Look (env:Env) (h:Heap) (m:Str->Option δ) (x:Str) (u:δ):Prop:=
 (env.kindOf x=some .local/\m x=some u)\/((env.kindOf x=some .cell\/env.kindOf x=some .free)/\∃ c,env.cells.lookup x=some c/\h.IsCell c (some u))
structure Cx.Ok (X:Cx):Prop where
 mod:Mod X.K X.mg X.base
 kind:X.env.scope.kind=.function
 glob:X.env.globals=Ϗ
 blt:X.env.builtins=builtinsNs
 above:X.sy.heap.objs.size<=X.env.locals
 inj:∀ x y c,X.env.cells.lookup x=some c->X.env.cells.lookup y=some c->x=y
 has:∀ x,(X.env.kindOf x=some .cell\/X.env.kindOf x=some .free)->∃ c,X.env.cells.lookup x=some c
 cab:∀ x c,X.fn x=true->X.env.cells.lookup x=some c->X.sy.heap.objs.size<=c
 hd:X.calm=true->X.A.handled=none
 frames:X.A.frames=some X.stack
 stk:X.stack=X.outer\/(X.stack=X.env::X.outer/\X.env.frame=some X.env.locals)
 exf:∀ b∈X.ex,b≠X.env.locals/\∀ x c,X.env.cells.lookup x=some c->c≠b
 bs:∀ b o,X.base.get? b=some o->X.sy.heap.get? b=some o/\X.Hz b=none
 bsz:X.base.objs.size<=X.sy.heap.objs.size
 noex:∀ b o,X.base.get? b=some o->b ∉ X.ex
 exfs:∀ b∈X.ex,b ∉ X.fs
 funs:X.sy.heap.FunFrames X.base X.outer
 frf:∀ b∈X.fs,X.Hz b=none
structure Inv (X:Cx) (pJ:List (Addr×Obj)) (σ:List (Option V)) (H:Hp) (s:μ):Prop where
 ok:X.Ok
 os:s.os=X.sy.os
 bare:iU s.gens
 base:Un X.fs X.ex X.Hz H X.sy.heap s.heap
 loc:∃ m,s.heap.Ns X.env.locals m/\∀ (i:Nat) (x:Str) (v:V),X.N[i]?=some x->σ[i]?=some (some v)->Vis X.env.scope x->∃ u,RelV v u/\Look X.env s.heap m x u
 cell:∀ x c,X.env.cells.lookup x=some c->∃ v,s.heap.IsCell c v
 free:H X.env.locals=none
 freeC:∀ x c,X.env.cells.lookup x=some c->H c=none
 pin:∀ p∈X.pn++pJ,s.heap.get? p.1=some p.2/\H p.1=none/\p.1≠X.env.locals/\p.1 ∉ X.fs/\∀ v,p.2.data≠.cell v
 hok:HOk X.prog X.w H s.heap
 len:σ.length=X.N.length
section
variable {X:Cx}{pJ:List (Addr×Obj)}{σ:List (Option V)}{H H':Hp}{s:μ}{h':Heap}
theorem Cx.Ok.nofr (ok:X.Ok) {b:Addr}{o:Obj}(e:X.base.get? b=some o):b ∉ X.fs:=fun hb=>by
 have:=(ok.funs.mem hb).1
 rw [e] at this;cases this
theorem Inv.bs (I:Inv X pJ σ H s):∀ b o,X.base.get? b=some o->s.heap.get? b=some o/\H b=none:=fun b o e=>
 ⟨I.base.keep b o (I.ok.bs b o e).1 (I.ok.bs b o e).2 (I.ok.nofr e) (I.ok.noex b o e),I.base.free b o (I.ok.bs b o e).1 (I.ok.bs b o e).2 (I.ok.noex b o e)⟩
theorem Inv.bk (I:Inv X pJ σ H s):∀ b o,X.base.get? b=some o->s.heap.get? b=some o:=fun b o e=>(I.bs b o e).1
theorem Inv.mod (I:Inv X pJ σ H s):Mod X.K X.mg X.base:=I.ok.mod
theorem Inv.kIn (I:Inv X pJ σ H s):X.K.In s.heap:=I.ok.mod.kin.keeps I.bk
theorem Inv.fr (I:Inv X pJ σ H s):∃ m,Fr X.base X.env.locals s.heap m:=
 let ⟨m,hn,_⟩:=I.loc
 ⟨m,hn,I.bk,Ϫ I.ok.bsz I.ok.above⟩
theorem Inv.lt (I:Inv X pJ σ H s):X.env.locals < s.heap.objs.size:=let ⟨_,hn,_⟩:=I.loc;hn.lt
theorem Inv.sz (I:Inv X pJ σ H s):X.sy.heap.objs.size<=s.heap.objs.size:=Ϫ I.ok.above (fQ I.lt)
theorem Inv.nofs (I:Inv X pJ σ H s) {a:Addr}(h:s.heap.objs.size<=a):a ∉ X.fs:=fun hb=>by
 obtain ⟨_,o,ho,_⟩:=I.ok.funs.mem hb
 exact absurd (ό (χ ho) (Ϫ I.sz h)) (cN _)
theorem Inv.cne (I:Inv X pJ σ H s):∀ x c,X.env.cells.lookup x=some c->c≠X.env.locals:=fun x c e z=>by
 obtain ⟨v,o,ho,hd⟩:=I.cell x c e
 obtain ⟨m,⟨o',es,ep,ho',hd',_⟩,_⟩:=I.loc
 rw [z,ho'] at ho;cases ho;rw [hd'] at hd;cases hd
theorem Inv.funs (I:Inv X pJ σ H s):s.heap.FunFrames X.base X.outer:=by
 have all:∀ (l:List Env),(∀ b∈frs l,b∈X.fs)->X.sy.heap.FunFrames X.base l->s.heap.FunFrames X.base l:=by
  intro l
  induction l with
  | nil=>intro _ _;trivial
  | cons env r ih=>
   intro hs hl
   obtain ⟨hk,⟨L,o,hf,hn,ho,hd⟩,hr⟩:=hl
   have hL:L∈X.fs:=hs L (by unfold frs;rw [dw,hf];exact υ)
   obtain ⟨sl,e⟩:=I.base.slot L o ho (I.ok.frf L hL) hL fun z=>I.ok.exfs L z hL
   exact ⟨hk,⟨L,_,hf,hn,e,hd⟩,ih (fun b hb=>hs b (by unfold frs;rw [dw,hf];exact ι _ hb)) hr⟩
 exact all X.outer (fun _ hb=>hb) I.ok.funs
theorem Inv.stack (I:Inv X pJ σ H s):s.heap.FunFrames X.base X.stack:=by
 rcases I.ok.stk with e | ⟨e,hf⟩
 ·rw [e];exact I.funs
 ·rw [e]
  obtain ⟨m,hn,_⟩:=I.loc
  refine .cons (by rw [I.ok.kind];decide) hf hn ?_ I.funs
  exact Heap.get?_none_of_le (Ϫ I.ok.bsz I.ok.above)
theorem Inv.We (I:Inv X pJ σ H s):∀ b∈frs X.stack,b∈X.env.locals::X.fs:=fun b hb=>by
 rcases I.ok.stk with e | ⟨e,hf⟩
 ·rw [e] at hb;exact ι _ hb
 ·rw [e] at hb
  unfold frs at hb
  rw [dw,hf] at hb
  exact hb
theorem Inv.U3 (I:Inv X pJ σ H s):∀ b∈frs X.stack,H b=none:=fun b hb=>by
 rcases Κ.mp (I.We b hb) with e | hb
 ·rw [e];exact I.free
 ·obtain ⟨_,o,ho,_⟩:=I.ok.funs.mem hb
  exact I.base.free b o ho (I.ok.frf b hb) fun z=>I.ok.exfs b z hb
theorem Inv.step {g':Array mW}{t':Nat}{d':Drawn}{ch:List Addr}(I:Inv X pJ σ H s)
  (hch:∀ b∈ch,(b∈X.ex\/X.sy.heap.objs.size<=b)/\b≠X.env.locals/\(∀ x c,X.env.cells.lookup x=some c->c≠b)/\∀ p∈X.pn++pJ,p.1≠b)
  (keep:∀ b o,b≠X.env.locals->b ∉ X.fs->b ∉ ch->s.heap.get? b=some o->H b=none->h'.get? b=some o)
  (slot:∀ b o,b≠X.env.locals->b∈X.fs->b ∉ ch->s.heap.get? b=some o->H b=none->∃ sl,h'.get? b=some { o with slots:=sl }) (free:∀ b o,b ∉ ch->s.heap.get? b=some o->H b=none->H' b=none)
  (there:∀ b o,b ∉ ch->s.heap.get? b=some o->∃ o',h'.get? b=some o')
  (tups:∀ b xs,H b=some (.tup xs)->H' b=some (.tup xs)) (frzs:∀ b o u,H b=some (.frz o u)->H' b=some (.frz o u)) (tbls:∀ b ps,H b=some (.tbl ps)->∃ more,H' b=some (.tbl (ps++more)))
  (ns:∀ m,s.heap.Ns X.env.locals m->h'.Ns X.env.locals m) (hok:HOk X.prog X.w H' h') (hg:iU g'):
  Inv X pJ σ H' { s with heap:=h',gens:=g',drawn:=d',toks:=t' }:=by
 have neL:∀ b o,X.sy.heap.get? b=some o->b≠X.env.locals:=fun b o e=>Λ (ό (χ e) I.ok.above)
 have neC:∀ b o,X.sy.heap.get? b=some o->b ∉ X.ex->b ∉ ch:=fun b o e hx hb=>by
  rcases (hch b hb).1 with z | z
  ·exact hx z
  ·exact absurd (ό (χ e) z) (cN _)
 have cellK:∀ x c,X.env.cells.lookup x=some c->∀ v,s.heap.IsCell c v->h'.IsCell c v:=fun x c e v ⟨o,ho,hd⟩=>by
  have nch:c ∉ ch:=fun z=>(hch c z).2.2.1 x c e rfl
  by_cases hc:c∈X.fs
  ·obtain ⟨sl,q⟩:=slot c o (I.cne x c e) hc nch ho (I.freeC x c e)
   exact ⟨_,q,hd⟩
  ·exact ⟨o,keep c o (I.cne x c e) hc nch ho (I.freeC x c e),hd⟩
 refine ⟨I.ok,I.os,hg,⟨fun b o e n hb hx=>?_,fun b o e n hb hx=>?_,fun b o e n hx=>?_,fun b o e hx=>?_,fun b xs e=>tups b xs (I.base.tups b xs e),fun b o xs e=>frzs b o xs (I.base.frzs b o xs e),fun b ps e=>?_⟩,?_,fun x c e=>?_,?_,fun x c e=>?_,fun p hp=>?_,hok,I.len⟩
 ·exact keep b o (neL b o e) hb (neC b o e hx) (I.base.keep b o e n hb hx) (I.base.free b o e n hx)
 ·obtain ⟨sl,e1⟩:=I.base.slot b o e n hb hx
  obtain ⟨sl',e2⟩:=slot b _ (neL b o e) hb (neC b o e hx) e1 (I.base.free b o e n hx)
  exact ⟨sl',e2⟩
 ·obtain ⟨o',e1⟩:=I.base.there b o e hx
  exact free b o' (neC b o e hx) e1 (I.base.free b o e n hx)
 ·obtain ⟨o',e1⟩:=I.base.there b o e hx
  exact there b o' (neC b o e hx) e1
 ·obtain ⟨m1,e1⟩:=I.base.tbls b ps e
  obtain ⟨m2,e2⟩:=tbls b _ e1
  exact ⟨m1++m2,by rw [e2,o8]⟩
 ·obtain ⟨m,hn,hl⟩:=I.loc
  refine ⟨m,ns m hn,fun i x v e1 e2 e3=>?_⟩
  obtain ⟨u,r,l⟩:=hl i x v e1 e2 e3
  refine ⟨u,r,?_⟩
  rcases l with l | ⟨k,c,e,z⟩
  ·exact .inl l
  ·exact .inr ⟨k,c,e,cellK x c e _ z⟩
 ·obtain ⟨v,z⟩:=I.cell x c e
  exact ⟨v,cellK x c e v z⟩
 ·obtain ⟨m,⟨o,_,_,ho,_⟩,_⟩:=I.loc
  exact free _ o (fun z=>(hch _ z).2.1 rfl) ho I.free
 ·obtain ⟨v,o,ho,hd⟩:=I.cell x c e
  exact free c o (fun z=>(hch c z).2.2.1 x c e rfl) ho (I.freeC x c e)
 ·obtain ⟨e,n,ne,nf,d⟩:=I.pin p hp
  have nch:p.1 ∉ ch:=fun z=>(hch p.1 z).2.2.2 p hp rfl
  exact ⟨keep p.1 p.2 ne nf nch e n,free p.1 p.2 nch e n,ne,nf,d⟩
theorem Inv.un {t':Nat}(I:Inv X pJ σ H s) (u:Un X.fs [] H H' s.heap h') (hok:HOk X.prog X.w H' h'):Inv X pJ σ H' { s with heap:=h',toks:=t' }:=by
 obtain ⟨m,⟨o,es,ep,ho,r⟩,_⟩:=id I.loc
 obtain ⟨sl,hL⟩:=u.any ho I.free (by simp)
 exact I.step (g':=s.gens) (d':=s.drawn) (ch:=[]) (fun _ z=>nomatch z) (fun b o _ hb _ e n=>u.keep b o e n hb (by simp)) (fun b o _ hb _ e n=>u.slot b o e n hb (by simp)) (fun b o _ e n=>u.free b o e n (by simp)) (fun b o _ e=>u.there b o e (by simp)) u.tups u.frzs u.tbls (fun m' hm=>by
  obtain ⟨o',es',ep',ho',r'⟩:=hm
  rw [ho] at ho';cases ho'
  exact ⟨_,es',ep',hL,r'⟩) hok I.bare
theorem Inv.call {g':Array mW}{t':Nat}{d':Drawn}{ch:List Addr}(I:Inv X pJ σ H s) (u:Un (frs X.stack) ch H H' s.heap h') (hok:HOk X.prog X.w H' h') (hg:iU g')
  (hch:∀ b∈ch,(b∈X.ex\/X.sy.heap.objs.size<=b)/\b≠X.env.locals/\(∀ x c,X.env.cells.lookup x=some c->c≠b)/\∀ p∈X.pn++pJ,p.1≠b):
  Inv X pJ σ H' { s with heap:=h',gens:=g',drawn:=d',toks:=t' }:=by
 obtain ⟨m,⟨o,es,ep,ho,r⟩,_⟩:=id I.loc
 obtain ⟨sl,hL⟩:=u.any ho I.free fun z=>(hch _ z).2.1 rfl
 exact I.step (ch:=ch) hch (fun b o hL hb hc e n=>u.keep b o e n (fun z=>(Κ.mp (I.We b z)).elim hL hb) hc) (fun b o _ _ hc e n=>u.any e n hc) (fun b o hc e n=>u.free b o e n hc) (fun b o hc e=>u.there b o e hc) u.tups u.frzs u.tbls (fun m' hm=>by
  obtain ⟨o',es',ep',ho',r'⟩:=hm
  rw [ho] at ho';cases ho'
  exact ⟨_,es',ep',hL,r'⟩) hok hg
theorem Inv.turned {t':Nat}{it:Addr}(I:Inv X pJ σ H s) (k:∀ b o,b≠it->s.heap.get? b=some o->h'.get? b=some o) (hn:H it=none) (hL:it≠X.env.locals)
  (h1:it∈X.ex\/X.sy.heap.objs.size<=it) (h2:∀ x c,X.env.cells.lookup x=some c->c≠it) (h3:∀ p∈X.pn++pJ,p.1≠it):Inv X pJ σ H { s with heap:=h',toks:=t' }:=by
 have nit:∀ b u,H b=some u->b≠it:=fun b u e z=>by rw [z,hn] at e;cases e
 refine I.step (g':=s.gens) (d':=s.drawn) (ch:=[it]) (fun b hb=>?_) (fun b o _ _ hc e _=>k b o (fun z=>hc (by simp [z])) e) (fun b o _ _ hc e _=>⟨o.slots,k b o (fun z=>hc (by simp [z])) e⟩) (fun _ _ _ _ n=>n)
  (fun b o hc e=>⟨o,k b o (fun z=>hc (by simp [z])) e⟩) (fun _ _ e=>e) (fun _ _ _ e=>e) (fun b ps e=>⟨#[],by rw [e];simp⟩) (fun m hm=>?_) (fun b u e=>?_) I.bare
 ·have e:b=it:=by simpa using hb
  subst e
  exact ⟨h1,hL,h2,h3⟩
 ·obtain ⟨o,es,ep,ho,r⟩:=hm
  exact ⟨o,es,ep,k _ o (gJ hL) ho,r⟩
 ·refine (I.hok b u e).stay (fun c v hc q=>k c v ?_ q) (fun _ q=>q) fun _ _ q=>q
  rcases hc with z | z
  ·rw [z];exact nit b u e
  ·exact nit c _ z
theorem Inv.tok (I:Inv X pJ σ H s) (t:Nat):Inv X pJ σ H { s with toks:=t }:=I.un (h':=s.heap) (t':=t) Un.refl I.hok
theorem Inv.kept {t':Nat}(I:Inv X pJ σ H s) (k:∀ b u,s.heap.get? b=some u->h'.get? b=some u):Inv X pJ σ H { s with heap:=h',toks:=t' }:=I.un (Un.kept k) (I.hok.kept k)
theorem Inv.laid {a:Addr}{o:HO}{t':Nat}(I:Inv X pJ σ H s) (k:∀ b u,s.heap.get? b=some u->h'.get? b=some u) (hp:s.heap.objs.size<=a) (new:ObjOk X.prog X.w (upd H a o) h' a o):
  Inv X pJ σ (upd H a o) { s with heap:=h',toks:=t' }:=I.un (Un.laid k hp (I.hok.fresh hp)) (I.hok.laid k hp new)
theorem Inv.write {x e:Addr}{o:HO}{t':Nat}(I:Inv X pJ σ H s) (mu:Mut (H x)) (he:e=x\/H e=some (.own x)) (k:∀ b u,b≠e->s.heap.get? b=some u->h'.get? b=some u) (heo:∃ u,h'.get? e=some u)
  (new:ObjOk X.prog X.w (upd H x o) h' x o):Inv X pJ σ (upd H x o) { s with heap:=h',toks:=t' }:=I.un (Un.write mu he k heo) (I.hok.write mu he k heo new)
theorem Inv.Y6 {pins':List (Addr×Obj)}(I:Inv X pJ σ H s) (h:∀ p∈pins',s.heap.get? p.1=some p.2/\H p.1=none/\p.1≠X.env.locals/\p.1 ∉ X.fs/\∀ v,p.2.data≠.cell v):Inv X pins' σ H s:=
 ⟨I.ok,I.os,I.bare,I.base,I.loc,I.cell,I.free,I.freeC,fun p hp=>(Ϭ.mp hp).elim (fun z=>I.pin p (fc _ z)) (h p),I.hok,I.len⟩
theorem WQ {N:List Str}(hN:N.Nodup) {i j:Nat}{x:Str}(a:N[i]?=some x) (b:N[j]?=some x):i=j:=by
 obtain ⟨h1,e1⟩:=π.mp a
 obtain ⟨h2,e2⟩:=π.mp b
 exact (List.getElem_inj hN).mp (e1.trans e2.symm)
theorem U0 {M:Model}{A:ϗ}{E:VSP}{i:Nat}{x:Str}{v:V}{u:δ}{Q:Unit->μ->Prop}(I:Inv X pJ σ H s) (hN:X.N.Nodup) (hi:X.N[i]?=some x) (hx:Loc X.env.scope x) (r:RelV v u)
  (h:∀ s',Inv X pJ (σ.set i (some v)) H s'->(∃ a,ϋ a s.heap s'.heap/\(a=X.env.locals\/X.env.cells.lookup x=some a))->Q () s') (hf:X.fn x=true\/X.env.scope.names.lookup x=some .local:=by first | exact .inl rfl | exact .inr rfl | assumption):ψ M A (storeName X.env x u) Q E s:=by
 obtain ⟨m,hn,hl⟩:=id I.loc
 have hcls:(X.env.scope.kind==.class||(X.env.scope.kind==.module&&X.env.locals != X.env.globals))=false:=by rw [I.ok.kind];rfl
 have hiσ:i < σ.length:=by rw [I.len];exact (π.mp hi).1
 have cne:=I.cne
 have tracked:∀ {a:Addr}{h':Heap},(∃ o,s.heap.get? a=some o/\H a=none)->ϋ a s.heap h'->HOk X.prog X.w H h':=fun {a h'} ha hs b ob e=>by
  obtain ⟨_,_,hfree⟩:=ha
  refine (I.hok b ob e).stay (fun c w' hc q=>(hs.2 c ?_).trans q) (fun _ q=>q) fun _ _ q=>q
  rintro rfl
  rcases hc with rfl | hc
  ·rw [hfree] at e;cases e
  ·rw [hfree] at hc;cases hc
 rcases hx with hk | hk
 ·refine wpAny_storeName_local hk hn (fun h' hn' hs=>?_) hcls
  obtain ⟨oL,_,_,hoL,_⟩:=id hn
  refine h _ ⟨I.ok,I.os,I.bare,⟨fun b o e n hb hx=>?_,fun b o e n hb hx=>?_,I.base.free,fun b o e hx=>?_,I.base.tups,I.base.frzs,I.base.tbls⟩,⟨_,hn',fun j y v' e1 e2 e3=>?_⟩,fun y c e=>?_,I.free,I.freeC,fun p hp=>?_,tracked ⟨oL,hoL,I.free⟩ hs,by simpa using I.len⟩ ⟨_,hs,.inl rfl⟩
  ·exact (hs.2 b (Λ (ό (χ e) I.ok.above))).trans (I.base.keep b o e n hb hx)
  ·obtain ⟨sl,e1⟩:=I.base.slot b o e n hb hx
   exact ⟨sl,(hs.2 b (Λ (ό (χ e) I.ok.above))).trans e1⟩
  ·obtain ⟨o',e1⟩:=I.base.there b o e hx
   exact ⟨o',(hs.2 b (Λ (ό (χ e) I.ok.above))).trans e1⟩
  ·by_cases hj:j=i
   ·subst hj
    rw [hi] at e1;cases e1
    rw [aj hiσ] at e2
    cases e2
    exact ⟨u,r,.inl ⟨hk,by simp⟩⟩
   ·rw [Φ (gJ hj)] at e2
    obtain ⟨u',r',q⟩:=hl j y v' e1 e2 e3
    refine ⟨u',r',?_⟩
    rcases q with ⟨k,e⟩ | ⟨k,c,e,z⟩
    ·refine .inl ⟨k,?_⟩
     have:y≠x:=fun e=>hj (WQ hN e1 (e ▸ hi))
     simp [this,e]
    ·exact .inr ⟨k,c,e,z.sameBut hs (cne y c e)⟩
  ·obtain ⟨w',z⟩:=I.cell y c e
   exact ⟨w',z.sameBut hs (cne y c e)⟩
  ·obtain ⟨e,n,ne,nf,d⟩:=I.pin p hp
   exact ⟨(hs.2 p.1 ne).trans e,n,ne,nf,d⟩
 ·have hfn:X.fn x=true:=by
   rcases hf with z | z
   ·exact z
   ·rw [z] at hk;cases hk
  obtain ⟨c,hc⟩:=I.ok.has x (.inl hk)
  obtain ⟨w',z⟩:=I.cell x c hc
  refine wpAny_storeName_cell I.ok.kind hk hc z (fun h' hc' hs=>?_)
  obtain ⟨oc,hoc,hocd⟩:=id z
  refine h { s with heap:=h' } ⟨I.ok,I.os,I.bare,⟨fun b o e n hb hx=>?_,fun b o e n hb hx=>?_,I.base.free,fun b o e hx=>?_,I.base.tups,I.base.frzs,I.base.tbls⟩,⟨m,hn.sameBut hs (gJ (cne x c hc)),fun j y v' e1 e2 e3=>?_⟩,fun y c' e=>?_,I.free,I.freeC,fun p hp=>?_,tracked ⟨oc,hoc,I.freeC x c hc⟩ hs,by simpa using I.len⟩ ⟨c,hs,.inr hc⟩
  ·exact (hs.2 b (Λ (ό (χ e) (I.ok.cab x c hfn hc)))).trans (I.base.keep b o e n hb hx)
  ·obtain ⟨sl,e1⟩:=I.base.slot b o e n hb hx
   exact ⟨sl,(hs.2 b (Λ (ό (χ e) (I.ok.cab x c hfn hc)))).trans e1⟩
  ·obtain ⟨o',e1⟩:=I.base.there b o e hx
   exact ⟨o',(hs.2 b (Λ (ό (χ e) (I.ok.cab x c hfn hc)))).trans e1⟩
  ·by_cases hj:j=i
   ·subst hj
    rw [hi] at e1;cases e1
    rw [aj hiσ] at e2
    cases e2
    exact ⟨u,r,.inr ⟨.inl hk,c,hc,hc'⟩⟩
   ·rw [Φ (gJ hj)] at e2
    obtain ⟨u',r',q⟩:=hl j y v' e1 e2 e3
    refine ⟨u',r',?_⟩
    rcases q with q | ⟨k,c',e,z'⟩
    ·exact .inl q
    ·refine .inr ⟨k,c',e,z'.sameBut hs ?_⟩
     rintro rfl
     exact hj (WQ hN e1 (I.ok.inj _ _ _ e hc ▸ hi))
  ·by_cases hcc:c'=c
   ·subst hcc;exact ⟨_,hc'⟩
   ·obtain ⟨w2,z2⟩:=I.cell y c' e
    exact ⟨w2,z2.sameBut hs hcc⟩
  ·obtain ⟨e,n,ne,nf,d⟩:=I.pin p hp
   refine ⟨(hs.2 p.1 ?_).trans e,n,ne,nf,d⟩
   intro q
   rw [q,hoc] at e
   have q':oc=p.2:=ϔ e
   exact d w' (by rw [<- q'];exact hocd)
theorem QL {M:Model}{A:ϗ}{E:VSP}{i:Nat}{x:Str}{v:V}{u:δ}{Q:Unit->μ->Prop}(I:Inv X pJ σ H s) (hN:X.N.Nodup) (hi:X.N[i]?=some x) (hx:Loc X.env.scope x) (r:RelV v u)
  (h:∀ s',Inv X pJ (σ.set i (some v)) H s'->Q () s') (hf:X.fn x=true\/X.env.scope.names.lookup x=some .local:=by first | exact .inl rfl | exact .inr rfl | assumption):ψ M A (storeName X.env x u) Q E s:=
 U0 I hN hi hx r (fun s' I' _=>h s' I') hf
theorem Inv.call' {s':μ}{ch:List Addr}(I:Inv X pJ σ H s) (ho:s'.os=s.os) (u:Un (frs X.stack) ch H H' s.heap s'.heap) (hok:HOk X.prog X.w H' s'.heap) (hg:iU s'.gens)
  (hch:∀ b∈ch,(b∈X.ex\/X.sy.heap.objs.size<=b)/\b≠X.env.locals/\(∀ x c,X.env.cells.lookup x=some c->c≠b)/\∀ p∈X.pn++pJ,p.1≠b):Inv X pJ σ H' s':=by
 obtain ⟨h',g',d',t',o'⟩:=s'
 have e:o'=s.os:=ho
 subst e
 exact I.call (g':=g') (t':=t') (d':=d') u hok hg hch
end
abbrev XK:=δ->Option Addr->Hp->Prop
abbrev St:=List (Option V)
abbrev VK:=V->Hp->Prop
abbrev TE:=St->Hp->VK->Prop
abbrev TT:=St->Hp->(Bool->Hp->Prop)->Prop
abbrev TA:=St->Hp->(List V->Hp->Prop)->Prop
structure Ends where
 nx:St->Hp->Prop
 rt:VK
 bk:St->Hp->Prop:=fun _ _=>False
 ct:St->Hp->Prop:=fun _ _=>False
abbrev TS:=Ends->St->Hp->Prop
def EP (X:Cx) (pJ:List (Addr×Obj)) (σ:St) (Q:VK) (u:δ) (s':μ):Prop:=∃ v H',Inv X pJ σ H' s'/\RelV v u/\Q v H'
def TP (X:Cx) (pJ:List (Addr×Obj)) (σ:St) (Q:Bool->Hp->Prop) (b:Bool) (s':μ):Prop:=∃ H',Inv X pJ σ H' s'/\Q b H'
def AP (X:Cx) (pJ:List (Addr×Obj)) (σ:St) (Q:List V->Hp->Prop) (us:List δ) (s':μ):Prop:=∃ vs H',Inv X pJ σ H' s'/\Vals vs us/\Q vs H'
def SP (X:Cx) (pJ:List (Addr×Obj)) (D:Ends) (f:Flow) (s':μ):Prop:=
 match f with
 | .next=>∃ σ' H',Inv X pJ σ' H' s'/\D.nx σ' H'
 | .brk=>∃ σ' H',Inv X pJ σ' H' s'/\D.bk σ' H'
 | .cont=>∃ σ' H',Inv X pJ σ' H' s'/\D.ct σ' H'
 | .ret u=>∃ v σ' H',Inv X pJ σ' H' s'/\RelV v u/\D.rt v H'
def PE (X:Cx) (e:Expr) (t:TE):Prop:=
 ∀ (pJ:List (Addr×Obj)) (s:μ) (σ:St) (H:Hp) (Q:VK),Inv X pJ σ H s->t σ H Q->ψ (Ζ X.prog X.w) X.A (eval e X.env) (EP X pJ σ Q) X.xe s
def PT (X:Cx) (e:Expr) (t:TT):Prop:=
 ∀ (pJ:List (Addr×Obj)) (s:μ) (σ:St) (H:Hp) (Q:Bool->Hp->Prop),Inv X pJ σ H s->t σ H Q->ψ (Ζ X.prog X.w) X.A (lG e X.env (eval e X.env)) (TP X pJ σ Q) X.xe s
def PW (X:Cx) (e:Expr) (t:TT):Prop:=
 ∀ (whole:Sem δ) (pJ:List (Addr×Obj)) (s:μ) (σ:St) (H:Hp) (Q:Bool->Hp->Prop),Inv X pJ σ H s->t σ H Q->ψ (Ζ X.prog X.w) X.A (lG e X.env whole) (TP X pJ σ Q) X.xe s
theorem PW.pt {X:Cx}{e:Expr}{t:TT}(h:PW X e t):PT X e t:=h _
def PA (X:Cx) (es:List Expr) (t:TA):Prop:=
 ∀ (pos:Pos) (pJ:List (Addr×Obj)) (s:μ) (σ:St) (H:Hp) (Q:List V->Hp->Prop),Inv X pJ σ H s->t σ H Q->ψ (Ζ X.prog X.w) X.A (spliced (dB pos (Ϝ es X.env))) (AP X pJ σ Q) X.xe s
def PS (X:Cx) (st:Stmt) (t:TS):Prop:=
 ∀ (pJ:List (Addr×Obj)) (s:μ) (σ:St) (H:Hp) (D:Ends),Inv X pJ σ H s->t D σ H->ψ (Ζ X.prog X.w) X.A (exec st X.env) (SP X pJ D) X.xe s
def PSs (X:Cx) (st:List Stmt) (t:TS):Prop:=
 ∀ (pJ:List (Addr×Obj)) (s:μ) (σ:St) (H:Hp) (D:Ends),Inv X pJ σ H s->t D σ H->ψ (Ζ X.prog X.w) X.A (execs st X.env) (SP X pJ D) X.xe s
theorem thn {α:Type}{t:Sem α}{Q Q':α->μ->Prop}{M:Model}{A:ϗ}{E:VSP}{s:μ}(h:ψ M A t Q E s) (hQ:∀ a s,Q a s->Q' a s):ψ M A t Q' E s:=bO h hQ fun _ _ x=>x
section
variable {X:Cx}
theorem bin {a b:Expr}{ta tb:TE}(ha:PE X a ta) (hb:PE X b tb) {pJ:List (Addr×Obj)}{s:μ}{σ:St}{H:Hp}{R:V->V->Hp->Prop}(I:Inv X pJ σ H s) (h:ta σ H fun x H1=>tb σ H1 fun y H2=>R x y H2)
  {α:Type}{Q:α->μ->Prop}{f:δ->δ->Sem α}
  (hf:∀ v u s2 x y H2,Inv X pJ σ H2 s2->RelV x v->RelV y u->R x y H2->ψ (Ζ X.prog X.w) X.A (f v u) Q X.xe s2):
  ψ (Ζ X.prog X.w) X.A (eval a X.env) (fun v s₁=>ψ (Ζ X.prog X.w) X.A (eval b X.env) (fun u s₂=>ψ (Ζ X.prog X.w) X.A (f v u) Q X.xe s₂) X.xe s₁) X.xe s:=by
 refine thn (ha pJ s σ H _ I h) fun v s1 ⟨x,H1,I1,r1,q1⟩=>?_
 refine thn (hb pJ s1 σ H1 _ I1 q1) fun u s2 ⟨y,H2,I2,r2,q2⟩=>?_
 exact hf v u s2 x y H2 I2 r1 r2 q2
def tVar (i:Nat):TE:=fun σ H Q=>∃ v,σ[i]?=some (some v)/\Q v H
def tC (v:V):TE:=fun _ H Q=>Q v H
theorem ZC {i:Nat}{x:Str}{pos:Pos}(hN:X.N[i]?=some x) (hv:Vis X.env.scope x) (hd:(x==("__debug__":Str))=false:=by decide) (hcd:(x==("__classdict__":Str))=false:=by decide):PE X (.Name x pos) (tVar i):=by
 intro pJ s σ H Q I h
 obtain ⟨v,e,h⟩:=h
 obtain ⟨m,hn,hl⟩:=I.loc
 obtain ⟨u,r,l⟩:=hl i x v hN e hv
 have fin:EP X pJ σ Q u s:=⟨v,H,I,r,h⟩
 rcases l with ⟨hk,hm⟩ | ⟨hk,c,hc,hcell⟩
 ·exact wpAny_Name (wpAny_loadName_local I.ok.kind hk hn hm fin) hd
 ·rcases hk with hk | hk
  ·exact wpAny_Name (wpAny_loadName_cell I.ok.kind hk hc hcell fin) hd
  ·exact wpAny_Name (wpAny_loadName_free I.ok.kind hk hc hcell fin hcd) hd
theorem zbl {i j pos}:PE X (.Constant (.int i) j pos) (tC (.int i)):=fun _ _ _ H _ I h=>wpAny_Constant_int ⟨.int i,H,I.tok _,⟨_,rfl⟩,h⟩
theorem pe_bl {b j pos}:PE X (.Constant (.bool b) j pos) (tC (.bl b)):=fun _ _ _ H _ I h=>Constant_bool ⟨.bl b,H,I,rfl,h⟩
theorem zeS {j pos}:PE X (.Constant .none j pos) (tC .non):=fun _ _ _ H _ I h=>Constant_none ⟨.non,H,I,rfl,h⟩
theorem zbk {x j pos}:PE X (.Constant (.str x) j pos) (tC (.str x)):=fun _ _ _ H _ I h=>Calls.Constant_str ⟨.str x,H,I.tok _,⟨_,rfl⟩,h⟩
def Gl (X:Cx) (x:Str):Prop:=X.env.kindOf x=some .globalImplicit
theorem Xe {E:VSP}{pJ:List (Addr×Obj)}{s:μ}{σ:St}{H:Hp}{x:Str}{u:δ}{pos:Pos}{Q:VSP}(I:Inv X pJ σ H s) (hg:Gl X x) (hm:X.mg x=some u) (h:Q u s)
  (hd:(x==("__debug__":Str))=false:=by decide):ψ (Ζ X.prog X.w) X.A (eval (.Name x pos) X.env) Q E s:=
 mX I.ok.kind hg (Calls.loadGlobal_global (by rw [I.ok.glob];exact I.mod.glob.keeps I.bk) hm h) hd
theorem vh {E:VSP}{pJ:List (Addr×Obj)}{s:μ}{σ:St}{H:Hp}{x:Str}{u:δ}{pos:Pos}{Q:VSP}(I:Inv X pJ σ H s) (hg:Gl X x) (hm:X.mg x=none) (hv:cQ x=some u) (h:Q u s)
  (hn:x≠"__name__":=by decide) (hd:(x==("__debug__":Str))=false:=by decide):ψ (Ζ X.prog X.w) X.A (eval (.Name x pos) X.env) Q E s:=by
 obtain ⟨mb,h1,h2⟩:=I.mod.blt
 exact mX I.ok.kind hg (Calls.loadGlobal_builtin (by rw [I.ok.glob];exact I.mod.glob.keeps I.bk) hm (by rw [I.ok.blt];exact h1.keeps I.bk) ((h2 x hn).trans hv) h) hd
theorem zcJ {x:Str}{v:V}{u:δ}{pos:Pos}(hg:Gl X x) (hm:X.mg x=some u) (r:RelV v u) (hd:(x==("__debug__":Str))=false:=by decide):PE X (.Name x pos) (tC v):=
 fun _ _ _ H _ I h=>Xe I hg hm ⟨v,H,I,r,h⟩ hd
theorem zcN {x:Str}{v:V}{u:δ}{pos:Pos}(hg:Gl X x) (hm:X.mg x=none) (hv:cQ x=some u) (r:RelV v u) (hn:x≠"__name__":=by decide) (hd:(x==("__debug__":Str))=false:=by decide):PE X (.Name x pos) (tC v):=
 fun _ _ _ H _ I h=>vh I hg hm hv ⟨v,H,I,r,h⟩ hn hd
variable {a b:Expr}{ta tb:TE}{pos:Pos}
def PC (X:Cx) (op:fD) (a b:Expr) (t:TE):Prop:=
 ∀ (pJ:List (Addr×Obj)) (s:μ) (σ:St) (H:Hp) (Q:VK),Inv X pJ σ H s->t σ H Q ->
  ψ (Ζ X.prog X.w) X.A (eval a X.env) (fun v s₁=>ψ (Ζ X.prog X.w) X.A (eval b X.env) (fun u s₂=>ψ (Ζ X.prog X.w) X.A (ϊ op v u) (EP X pJ σ Q) X.xe s₂) X.xe s₁) X.xe s
theorem zau (b:Expr) {op:fD}(h:op≠.In) (h2:op≠.NotIn):behindInMarks op b=false:=by
 have e1:(op==fD.In)=false:=by cases op <;> first | rfl | exact absurd rfl h
 have e2:(op==fD.NotIn)=false:=by cases op <;> first | rfl | exact absurd rfl h2
 cases b <;> simp [behindInMarks,e1,e2]
def tB (t:TE):TT:=fun σ H Q=>t σ H fun x H1=>∃ c,x=.bl c/\Q c H1
theorem zf8 {op:fD}{t:TE}(h:PC X op a b t) (h1:behindInMarks op b=false:=by first | exact zau _ (by decide) (by decide) | rfl):PT X (.Compare a [op] [b] pos) (tB t):=by
 intro pJ s σ H Q I hw
 refine wpAny_isTrue_Compare1 (thn (h pJ s σ H _ I hw) fun v s1 h1=>thn h1 fun u s2 h2=>thn h2 fun c s3 ⟨x,H1,I1,r1,q1⟩=>?_) h1
 obtain ⟨d,rfl,q⟩:=q1
 cases r1
 exact ϳ ⟨H1,I1,q⟩
theorem zeI {e:Expr}{t:TE}(h:PE X e t) (he:∀ whole,lG e X.env whole=(do let v <- whole;standAt e.pos;gU [v] (truthy v)):=by intro _;rfl):PT X e (tB t):=by
 intro pJ s σ H Q I hw
 refine isTrue_plain (thn (h pJ s σ H _ I hw) fun v s1 ⟨x,H1,I1,r1,q1⟩=>?_) (he _)
 obtain ⟨d,rfl,q⟩:=q1
 cases r1
 exact ϳ ⟨H1,I1,q⟩
variable {tA tB':TT}{rest:List Expr}
def tAnd (t u:TT):TT:=fun σ H Q=>t σ H fun c H1=>if c=true then u σ H1 Q else Q false H1
def tOr (t u:TT):TT:=fun σ H Q=>t σ H fun c H1=>if c=true then Q true H1 else u σ H1 Q
def tNot (t:TT):TT:=fun σ H Q=>t σ H fun c H1=>Q (!c) H1
theorem zct (ha:PT X a tA):PW X (.BoolOp .And [a] pos) tA:=by
 intro wh pJ s σ H Q I h
 refine isTrue_and (thn (ha pJ s σ H Q I h) fun c s1 e=>?_)
 cases c with
 | true=>exact isTrue_and_nil e
 | false=>exact e
theorem zeG (ha:PT X a tA):PW X (.BoolOp .Or [a] pos) tA:=by
 intro wh pJ s σ H Q I h
 refine isTrue_or (thn (ha pJ s σ H Q I h) fun c s1 e=>?_)
 cases c with
 | false=>exact isTrue_or_nil e
 | true=>exact e
theorem zeH (ha:PT X a tA) (hb:PW X (.BoolOp .And (b::rest) pos) tB'):PW X (.BoolOp .And (a::b::rest) pos) (tAnd tA tB'):=by
 intro wh pJ s σ H Q I h
 refine isTrue_and (thn (ha pJ s σ H _ I h) fun c s1 ⟨H1,I1,q1⟩=>?_)
 cases c with
 | true=>exact hb wh pJ s1 σ H1 Q I1 q1
 | false=>exact ⟨H1,I1,q1⟩
theorem pw_or (ha:PT X a tA) (hb:PW X (.BoolOp .Or (b::rest) pos) tB'):PW X (.BoolOp .Or (a::b::rest) pos) (tOr tA tB'):=by
 intro wh pJ s σ H Q I h
 refine isTrue_or (thn (ha pJ s σ H _ I h) fun c s1 ⟨H1,I1,q1⟩=>?_)
 cases c with
 | true=>exact ⟨H1,I1,q1⟩
 | false=>exact hb wh pJ s1 σ H1 Q I1 q1
theorem zeJ (ha:PT X a tA):PT X (.UnaryOp .Not a pos) (tNot tA):=by
 intro pJ s σ H Q I h
 exact isTrue_not (ha pJ s σ H (fun c H1=>Q (!c) H1) I h)
def tAndV (ta tb:TE):TE:=fun σ H Q=>ta σ H fun x H1=>∃ c,x=.bl c/\if c=true then tb σ H1 Q else Q (.bl false) H1
def tOrV (ta tb:TE):TE:=fun σ H Q=>ta σ H fun x H1=>∃ c,x=.bl c/\if c=true then Q (.bl true) H1 else tb σ H1 Q
def tNotV (ta:TE):TE:=fun σ H Q=>ta σ H fun x H1=>∃ c,x=.bl c/\Q (.bl (!c)) H1
theorem zeQ {op} {t:TE}(h:PE X a t):PE X (.BoolOp op [a] pos) t:=fun pJ s σ H Q I hw=>BoolOp_one (h pJ s σ H Q I hw)
theorem zeU (ha:PE X a ta) (hb:PE X (.BoolOp .And (b::rest) pos) tb):PE X (.BoolOp .And (a::b::rest) pos) (tAndV ta tb):=by
 intro pJ s σ H Q I h
 refine BoolOp_and (thn (ha pJ s σ H _ I h) fun v s1 ⟨x,H1,I1,r1,q1⟩=>?_)
 obtain ⟨c,rfl,q1⟩:=q1
 cases r1
 refine ϳ ?_
 cases c with
 | true=>exact hb pJ s1 σ H1 Q I1 q1
 | false=>exact ⟨.bl false,H1,I1,rfl,q1⟩
theorem pe_or (ha:PE X a ta) (hb:PE X (.BoolOp .Or (b::rest) pos) tb):PE X (.BoolOp .Or (a::b::rest) pos) (tOrV ta tb):=by
 intro pJ s σ H Q I h
 refine BoolOp_or (thn (ha pJ s σ H _ I h) fun v s1 ⟨x,H1,I1,r1,q1⟩=>?_)
 obtain ⟨c,rfl,q1⟩:=q1
 cases r1
 refine ϳ ?_
 cases c with
 | false=>exact hb pJ s1 σ H1 Q I1 q1
 | true=>exact ⟨.bl true,H1,I1,rfl,q1⟩
theorem zeR (ha:PE X a ta):PE X (.UnaryOp .Not a pos) (tNotV ta):=by
 intro pJ s σ H Q I h
 refine UnaryOp_ (thn (ha pJ s σ H _ I h) fun v s1 ⟨x,H1,I1,r1,q1⟩=>?_)
 obtain ⟨c,rfl,q1⟩:=q1
 cases r1
 exact not_of (ϳ ⟨.bl (!c),H1,I1,rfl,q1⟩)
def tIf (t:TT) (ta tb:TE):TE:=fun σ H Q=>t σ H fun c H1=>if c=true then ta σ H1 Q else tb σ H1 Q
theorem zae {c:Expr}(hc:PT X c tA) (ha:PE X a ta) (hb:PE X b tb):PE X (.IfExp c a b pos) (tIf tA ta tb):=by
 intro pJ s σ H Q I h
 refine wpAny_IfExp (thn (hc pJ s σ H _ I h) fun d s1 ⟨H1,I1,q1⟩=>?_)
 cases d with
 | true=>exact ha pJ s1 σ H1 Q I1 q1
 | false=>exact hb pJ s1 σ H1 Q I1 q1
end
def SqL (K:W.Frag) (H:Hp) (a:Addr) (xs:List V):Prop:=
 Rd H a (.lst xs) \/
  ∃ (o:Obj) (its:Array δ) (n:Nat),K.lookup a=some o/\o.cls=.type "list"/\o.dict=none/\o.data=.seq its n/\its.size<=sizeLine/\Vals xs its.toList
def SqT (K:W.Frag) (H:Hp) (a:Addr) (xs:List V):Prop:=
 Rd H a (.tup xs) \/
  ∃ (o:Obj) (its:Array δ) (n:Nat),K.lookup a=some o/\o.cls=.type "tuple"/\o.data=.seq its n/\its.size<=sizeLine/\Vals xs its.toList
noncomputable def absV:δ->Option V
 | .none=>some .non
 | .bool b=>some (.bl b)
 | .int i _=>some (.int i)
 | .str x _=>some (.str x)
 | .bytes b _=>some (.byt b)
 | .float b _=>some (.flt b)
 | .ref a=>some (.ref a)
 | .type n=>some (.ty n)
 | _=>none
theorem RelV.abs {x:V}{u:δ}(r:RelV x u):absV u=some x:=by
 cases x with
 | non=>cases r;rfl
 | bl _=>cases r;rfl
 | int _=>obtain ⟨t,rfl⟩:=r;rfl
 | str _=>obtain ⟨t,rfl⟩:=r;rfl
 | byt _=>obtain ⟨t,rfl⟩:=r;rfl
 | flt _=>obtain ⟨t,rfl⟩:=r;rfl
 | ref _=>cases r;rfl
 | ty _=>cases r;rfl
theorem RelV.inj {x y:V}{u:δ}(r:RelV x u) (q:RelV y u):x=y:=ϔ (r.abs.symm.trans q.abs)
theorem Vals.inj:∀ {xs ys:List V}{us:List δ},Vals xs us->Vals ys us->xs=ys
 | _,_,_,.nil,.nil=>rfl
 | _,_,_,.cons r t,.cons r' t'=>by rw [r.inj r',Vals.inj t t']
section
variable {X:Cx}{pJ:List (Addr×Obj)}{σ:St}{H:Hp}{s:μ}{a:Addr}{xs ys:List V}
theorem SqL.of {K:W.Frag}(h:H a=some (.lst xs)):SqL K H a xs:=.inl (.inl h)
theorem SqT.of {K:W.Frag}(h:H a=some (.tup xs)):SqT K H a xs:=.inl (.inl h)
theorem Inv.list (I:Inv X pJ σ H s) (h:SqL X.K H a xs):∃ its:List δ,Vals xs its/\PlainL s.heap a its.toArray/\xs.length<=sizeLine:=by
 rcases h with h | ⟨o,its,n,hk,hc,hd,hs,hz,r⟩
 ·obtain ⟨z,its,n,r,e⟩:=h.ok I.hok
  exact ⟨its,r,⟨_,n,e,rfl,rfl,rfl⟩,z⟩
 ·refine ⟨its.toList,r,⟨o,n,I.kIn a o hk,hc,hd,by simpa using hs⟩,?_⟩
  have e:=r.length
  simp only [Τ] at e
  lia
theorem Inv.tuple (I:Inv X pJ σ H s) (h:SqT X.K H a xs):∃ its:List δ,Vals xs its/\lK s.heap a its.toArray/\xs.length<=sizeLine:=by
 rcases h with h | ⟨o,its,n,hk,hc,hs,hz,r⟩
 ·obtain ⟨z,its,r,p⟩:=h.ok I.hok
  exact ⟨its,r,p,z⟩
 ·refine ⟨its.toList,r,⟨o,I.kIn a o hk,hc,n,by simpa using hs⟩,?_⟩
  have e:=r.length
  simp only [Τ] at e
  lia
theorem Inv.WY (I:Inv X pJ σ H s) (h:SqL X.K H a xs) (h':SqL X.K H a ys):xs=ys:=by
 obtain ⟨its,r,⟨o,n,e,_,_,d⟩,_⟩:=I.list h
 obtain ⟨its',r',⟨o',n',e',_,_,d'⟩,_⟩:=I.list h'
 rw [e] at e';cases e'
 rw [d] at d'
 injection d' with d1 _
 have:its=its':=by simpa using congrArg Array.toList d1
 subst this
 exact r.inj r'
theorem Inv.Zd (I:Inv X pJ σ H s) (h:SqT X.K H a xs) (h':SqT X.K H a ys):xs=ys:=by
 obtain ⟨its,r,⟨o,e,_,n,d⟩,_⟩:=I.tuple h
 obtain ⟨its',r',⟨o',e',_,n',d'⟩,_⟩:=I.tuple h'
 rw [e] at e';cases e'
 rw [d] at d'
 injection d' with d1 _
 have:its=its':=by simpa using congrArg Array.toList d1
 subst this
 exact r.inj r'
end
noncomputable abbrev Cx.wish (X:Cx) (E:VSP):Cx:={ X with xe:=E }
noncomputable abbrev Cx.nox (X:Cx):Cx:=X.wish fun _ _=>False
theorem Cx.Ok.wish {X:Cx}(ok:X.Ok) (E:VSP):(X.wish E).Ok:=
 ⟨ok.mod,ok.kind,ok.glob,ok.blt,ok.above,ok.inj,ok.has,ok.cab,ok.hd,ok.frames,ok.stk,ok.exf,ok.bs,ok.bsz,ok.noex,ok.exfs,ok.funs,ok.frf⟩
theorem Cx.Ok.wQ {X:Cx}{E:VSP}(ok:(X.wish E).Ok):X.Ok:=
 ⟨ok.mod,ok.kind,ok.glob,ok.blt,ok.above,ok.inj,ok.has,ok.cab,ok.hd,ok.frames,ok.stk,ok.exf,ok.bs,ok.bsz,ok.noex,ok.exfs,ok.funs,ok.frf⟩
section
variable {X:Cx}{pJ:List (Addr×Obj)}{σ:St}{H:Hp}{s:μ}{E:VSP}
theorem Inv.wish (I:Inv X pJ σ H s) (E:VSP):Inv (X.wish E) pJ σ H s:=⟨I.ok.wish E,I.os,I.bare,I.base,I.loc,I.cell,I.free,I.freeC,I.pin,I.hok,I.len⟩
theorem Inv.wQ (I:Inv (X.wish E) pJ σ H s):Inv X pJ σ H s:=⟨I.ok.wQ,I.os,I.bare,I.base,I.loc,I.cell,I.free,I.freeC,I.pin,I.hok,I.len⟩
theorem SP.wQ {D:Ends}{f:Flow}{s':μ}(h:SP (X.wish E) pJ D f s'):SP X pJ D f s':=by
 cases f with
 | next=>obtain ⟨σ',H',I,q⟩:=h;exact ⟨σ',H',I.wQ,q⟩
 | brk=>obtain ⟨σ',H',I,q⟩:=h;exact ⟨σ',H',I.wQ,q⟩
 | cont=>obtain ⟨σ',H',I,q⟩:=h;exact ⟨σ',H',I.wQ,q⟩
 | ret u=>obtain ⟨v,σ',H',I,r,q⟩:=h;exact ⟨v,σ',H',I.wQ,r,q⟩
theorem PSs.nox {st:List Stmt}{t:TS}(h:PSs X.nox st t):PSs X st t:=fun pJ s σ H D I hw=>
 bO (h pJ s σ H D (I.wish _) hw) (fun _ _ q=>q.wQ) fun _ _ z=>aJ z
end
section
variable {X:Cx}{st:Stmt}{rest:List Stmt}{t u:TS}{e:Expr}{te:TE}{pos:Pos}
def tNext:TS:=fun D σ H=>D.nx σ H
def tSeq (t u:TS):TS:=fun D σ H=>t { D with nx:=u D } σ H
theorem zcA:PSs X [] tNext:=fun _ _ σ H _ I h=>nY ⟨σ,H,I,h⟩
theorem Q6 (h1:PS X st t) (h2:PSs X rest u):PSs X (st::rest) (tSeq t u):=by
 intro pJ s σ H D I h
 refine wpAny_execs_cons (thn (h1 pJ s σ H { D with nx:=u D } I h) fun f s1 q=>?_)
 cases f with
 | next=>
  obtain ⟨σ',H',I',q⟩:=q
  exact h2 pJ s1 σ' H' D I' q
 | ret v=>exact q
 | brk=>exact q
 | cont=>exact q
def zeb:TS:=fun D σ H=>D.bk σ H
def tCont:TS:=fun D σ H=>D.ct σ H
theorem zcC:PS X (.Pass pos) tNext:=fun _ _ σ H _ I h=>wpAny_Pass ⟨σ,H,I,h⟩
theorem Q8:PS X (.Break pos) zeb:=fun _ _ σ H _ I h=>wpAny_Break ⟨σ,H,I,h⟩
theorem Y5:PS X (.Continue pos) tCont:=fun _ _ σ H _ I h=>wpAny_Continue ⟨σ,H,I,h⟩
theorem Inv.quiet {pJ:List (Addr×Obj)}{σ:St}{H:Hp}{s:μ}(I:Inv X pJ σ H s):interactive X.env=false:=by simp [interactive,I.ok.kind]
def tDrop (te:TE):TS:=fun D σ H=>te σ H fun _ H1=>D.nx σ H1
theorem Y4 (he:PE X e te) (hs:iz e none pos.line X.env=pure false:=by rfl):PS X (.Expr e pos) (tDrop te):=by
 intro pJ s σ H D I h
 exact wpAny_Expr_any (thn (he pJ s σ H _ I h) fun v s1 ⟨x,H1,I1,r1,q1⟩=>⟨σ,H1,I1,q1⟩) I.quiet hs
def tRet (te:TE):TS:=fun D σ H=>te σ H D.rt
theorem zbi (he:PE X e te):PS X (.Return (some e) pos) (tRet te):=by
 intro pJ s σ H D I h
 exact wpAny_Return_some (thn (he pJ s σ H _ I h) fun v s1 ⟨x,H1,I1,r1,q1⟩=>⟨x,σ,H1,I1,r1,q1⟩)
def tRetN:TS:=fun D _ H=>D.rt .non H
theorem zcB:PS X (.Return none pos) tRetN:=fun _ _ σ H _ I h=>wpAny_Return_none ⟨.non,σ,H,I,rfl,h⟩
def tIfS (c:TT) (t u:TS):TS:=fun D σ H=>c σ H fun b H1=>if b=true then t D σ H1 else u D σ H1
theorem ps_if {c:Expr}{a b:List Stmt}{tc:TT}(hc:PT X c tc) (ha:PSs X a t) (hb:PSs X b u):PS X (.If c a b pos) (tIfS tc t u):=by
 intro pJ s σ H D I h
 refine wpAny_If (thn (hc pJ s σ H _ I h) fun d s1 ⟨H1,I1,q1⟩=>?_)
 cases d with
 | true=>exact ha pJ s1 σ H1 D I1 q1
 | false=>exact hb pJ s1 σ H1 D I1 q1
end
abbrev TG:=V->St->Hp->(St->Hp->Prop)->Prop
abbrev TGs:=List V->St->Hp->(St->Hp->Prop)->Prop
def PG (X:Cx) (target:Expr) (t:TG):Prop:=
 ∀ (pJ:List (Addr×Obj)) (s:μ) (σ:St) (H:Hp) (v:V) (u:δ) (Q:St->Hp->Prop),Inv X pJ σ H s->RelV v u->t v σ H Q ->
  ψ (Ζ X.prog X.w) X.A (gF target X.env u) (fun _ s'=>∃ σ' H',Inv X pJ σ' H' s'/\Q σ' H') X.xe s
def PGs (X:Cx) (ts:List Expr) (t:TGs):Prop:=
 ∀ (pJ:List (Addr×Obj)) (s:μ) (σ:St) (H:Hp) (vs:List V) (us:List δ) (Q:St->Hp->Prop),Inv X pJ σ H s->Vals vs us->t vs σ H Q ->
  ψ (Ζ X.prog X.w) X.A (assignInOrder ((bB ts X.env).map (·.2)) us) (fun _ s'=>∃ σ' H',Inv X pJ σ' H' s'/\Q σ' H') X.xe s
abbrev TSet:=V->V->V->Hp->(Hp->Prop)->Prop
def PSet (X:Cx) (t:TSet):Prop:=
 ∀ (pJ:List (Addr×Obj)) (s:μ) (σ:St) (H:Hp) (o i v:V) (ov iv u:δ) (Q:Hp->Prop),Inv X pJ σ H s->RelV o ov->RelV i iv->RelV v u->t o i v H Q ->
  ψ (Ζ X.prog X.w) X.A (setItem ov iv u) (fun _ s'=>∃ H',Inv X pJ σ H' s'/\Q H') X.xe s
section
variable {X:Cx}{pos:Pos}
def gName (i:Nat):TG:=fun v σ H Q=>Q (σ.set i (some v)) H
theorem Jx {i:Nat}{x:Str}(hN:X.N.Nodup) (hi:X.N[i]?=some x) (hx:Loc X.env.scope x) (hf:X.fn x=true\/X.env.scope.names.lookup x=some .local:=by first | exact .inl rfl | exact .inr rfl | assumption):PG X (.Name x pos) (gName i):=by
 intro pJ s σ H v u Q I r h
 exact wpAny_assign_Name (QL I hN hi hx r (fun s' I'=>⟨_,H,I',h⟩) hf)
def gNil:TGs:=fun vs σ H Q=>vs=[]/\Q σ H
def gCons (t:TG) (u:TGs):TGs:=fun vs σ H Q=>∃ v r,vs=v::r/\t v σ H fun σ' H'=>u r σ' H' Q
theorem Jv:PGs X [] gNil:=by
 intro pJ s σ H vs us Q I r h
 obtain ⟨e,h⟩:=h
 subst e
 cases r
 exact assignInOrder_nil ⟨σ,H,I,h⟩
theorem qd {e:Expr}{es:List Expr}{t:TG}{u:TGs}(h1:PG X e t) (h2:PGs X es u)
  (hs:(bB (e::es) X.env).map (·.2)=gF e X.env::(bB es X.env).map (·.2):=by rfl):PGs X (e::es) (gCons t u):=by
 intro pJ s σ H vs us Q I r h
 obtain ⟨v,vr,e1,h⟩:=h
 subst e1
 cases r with
 | cons r rr=>
  rw [hs]
  refine assignInOrder_cons (thn (h1 pJ s σ H _ _ _ I r h) fun _ s1 ⟨σ1,H1,I1,q1⟩=>?_)
  exact h2 pJ s1 σ1 H1 _ _ Q I1 rr q1
def gTup (K:W.Frag) (n:Nat) (t:TGs):TG:=fun v σ H Q=>∃ a xs,v=.ref a/\SqT K H a xs/\xs.length=n/\t xs σ H Q
theorem Jw {es:List Expr}{k:Nat}{t:TGs}{n:Nat}(hc:X.calm=true) (h:PGs X es t)
  (hn:(bB es X.env).length=n:=by rfl) (hst:(bB es X.env).findIdx? (·.1)=none:=by rfl):PG X (.Tuple es k pos) (gTup X.K n t):=by
 intro pJ s σ H v u Q I r hw
 obtain ⟨a,xs,e1,hq,hl,hw⟩:=hw
 subst e1
 cases r
 obtain ⟨its,rv,ht,hz⟩:=I.tuple hq
 refine assign_Tuple_tuple (I.ok.hd hc) ht (by simp [hn,<- hl,rv.length]) hst fun h' hx=>?_
 have I1:Inv X pJ σ H { s with heap:=h' }:=I.kept (t':=s.toks) fun b o e=>hx b o (Λ (χ e)) e
 exact h pJ _ σ H xs _ Q I1 (by simpa using rv) hw
def gSub (to ti:TE) (t:TSet):TG:=fun v σ H Q=>to σ H fun o H1=>ti σ H1 fun i H2=>t o i v H2 fun H3=>Q σ H3
theorem zbj {o i:Expr}{to ti:TE}{t:TSet}(ho:PE X o to) (hi:PE X i ti) (hs:PSet X t)
  (ha:∀ v,gF (.Subscript o i pos) X.env v=(do
   let ov <- gU [v] (eval o X.env)
   let iv <- gU [v,ov] (eval i X.env)
   standAt pos
   gU [v,ov,iv] (setItem ov iv v)
   release [v,ov,iv] []):=by intro _;rfl):PG X (.Subscript o i pos) (gSub to ti t):=by
 intro pJ s σ H v u Q I r h
 rw [ha]
 refine γ (Ϥ (thn (ho pJ s σ H _ I h) fun ov s1 ⟨x,H1,I1,r1,q1⟩=>?_))
 refine γ (Ϥ (thn (hi pJ s1 σ H1 _ I1 q1) fun iv s2 ⟨y,H2,I2,r2,q2⟩=>?_))
 refine γ (gY (γ (Ϥ (thn (hs pJ s2 σ H2 x y v ov iv u _ I2 r1 r2 r q2) fun _ s3 ⟨H3,I3,q3⟩=>?_))))
 exact wpAny_release ⟨σ,H3,I3,q3⟩
def tAsg (te:TE) (g:TG):TS:=fun D σ H=>te σ H fun x H1=>g x σ H1 D.nx
theorem WD {tg e:Expr}{te:TE}{g:TG}(he:PE X e te) (hg:PG X tg g) (hs:cZ [tg] e pos.line X.env=pure false:=by rfl) (hw:cj [tg] e X.env=pure none:=by rfl)
  (h1:(bB [tg] X.env).map (·.2)=[gF tg X.env]:=by rfl):PS X (.Assign [tg] e pos) (tAsg te g):=by
 intro pJ s σ H D I h
 refine wpAny_Assign_stores (thn (he pJ s σ H _ I h) fun v s1 ⟨x,H1,I1,r1,q1⟩=>?_) hs hw
 rw [h1]
 exact thn (hg pJ s1 σ H1 x v _ I1 r1 q1) fun _ s2 q=>q
end
section
variable {X:Cx}{pos:Pos}
def zd6 (c:TT) (tb:TS):TS:=fun D σ H=>∃ W:Nat->St->Hp->Prop,(∃ m,W m σ H)/\∀ m σ H,W m σ H ->
 c σ H fun b H1=>if b=true then ∃ N:St->Hp->Prop,(∀ σ' H',N σ' H'->∃ m',m' < m/\W m' σ' H')/\tb { D with nx:=N,ct:=N,bk:=D.nx } σ H1 else D.nx σ H1
theorem Q7 {c:Expr}{body:List Stmt}{tc:TT}{tb:TS}(hp:iD (Ζ X.prog X.w) X.A X.env X.xe) (hc:PT X c tc) (hb:PSs X body tb):PS X (.While c body [] pos) (zd6 tc tb):=by
 intro pJ s σ H D I h
 obtain ⟨W,⟨m0,w0⟩,turn⟩:=h
 refine wpAny_While (codeAny_whileLoop (fun n s'=>∃ σ' H',Inv X pJ σ' H' s'/\W n σ' H') ?_ m0 ⟨σ,H,I,w0⟩)
 rintro n s1 ⟨σ1,H1,I1,w1⟩
 refine cX hp (thn (hc pJ s1 σ1 H1 _ I1 (turn n σ1 H1 w1)) fun b s2 ⟨H2,I2,q2⟩=>?_)
 cases b with
 | true=>
  obtain ⟨N,hN,q2⟩:=q2
  rw [if_pos rfl]
  refine cX hp (thn (hb pJ s2 σ1 H2 _ I2 q2) fun f s3 q3=>?_)
  cases f with
  | next=>
   obtain ⟨σ3,H3,I3,n3⟩:=q3
   obtain ⟨m',hm,w3⟩:=hN σ3 H3 n3
   exact ⟨m',hm,σ3,H3,I3,w3⟩
  | cont=>
   obtain ⟨σ3,H3,I3,n3⟩:=q3
   obtain ⟨m',hm,w3⟩:=hN σ3 H3 n3
   exact ⟨m',hm,σ3,H3,I3,w3⟩
  | brk=>exact q3
  | ret v=>exact q3
 | false=>
  rw [if_neg Μ]
  exact nY ⟨σ1,H2,I2,q2⟩
end
structure It where
 go:Nat->Hp->Prop
 yld:Nat->Hp->V->Hp->Prop
 stop:Nat->Hp->Prop
def FpOk (X:Cx) (pJ:List (Addr×Obj)) (H:Hp) (b:Addr):Prop:=
 H b=none/\b≠X.env.locals/\b ∉ X.fs/\(b∈X.ex\/X.sy.heap.objs.size<=b)/\(∀ x c,X.env.cells.lookup x=some c->c≠b)/\∀ p∈X.pn++pJ,p.1≠b
theorem Inv.fpOk {X:Cx}{pJ:List (Addr×Obj)}{σ:St}{H H':Hp}{s:μ}{b:Addr}(I:Inv X pJ σ H s) (hb:s.heap.objs.size<=b) (hn:H' b=none):FpOk X pJ H' b:=by
 refine ⟨hn,d8 (ό I.lt hb),I.nofs hb,.inr (Ϫ I.sz hb),fun x c e z=>?_,fun p hp z=>?_⟩
 ·obtain ⟨v,q⟩:=I.cell x c e
  exact absurd (ό q.lt (by rw [z];exact hb)) (cN _)
 ·exact absurd (ό (χ (I.pin p hp).1) (by rw [z];exact hb)) (cN _)
structure Turn (P:Ν) (w:ϖ) (K:W.Frag) (tg:Expr) (J:It) (fp:List Addr) (it:Addr) (tn:Nat->Heap->Prop):Prop where
 mem:it∈fp
 obj:∀ i h,tn i h->∀ b∈fp,∃ o,h.get? b=some o/\∀ v,o.data≠.cell v
 keep:∀ i h h',tn i h->(∀ b∈fp,∀ o,h.get? b=some o->h'.get? b=some o)->tn i h'
 item:∀ (X:Cx),X.prog=P->X.w=w->X.K=K->X.calm=true->∀ (i:Nat) (pJ:List (Addr×Obj)) (s:μ) (σ:St) (H:Hp) (E:VSP),Inv X pJ σ H s->(∀ b∈fp,FpOk X pJ H b)->tn i s.heap->J.go i H ->
  ψ (Ζ P w) X.A (eQ (.ref it)) (fun r s1=>∃ u,r=some u /\
   ψ (Ζ P w) X.A (nZ tg (.ref it) u) (fun _ s2=>∃ x H',Inv X pJ σ H' s2/\RelV x u/\J.yld i H x H'/\tn (i+1) s2.heap/\∀ b∈fp,H' b=none) E s1) E s
 done:∀ (X:Cx),X.prog=P->X.w=w->X.K=K->X.calm=true->∀ (i:Nat) (pJ:List (Addr×Obj)) (s:μ) (σ:St) (H:Hp) (E:VSP),Inv X pJ σ H s->(∀ b∈fp,FpOk X pJ H b)->tn i s.heap->J.stop i H ->
  ψ (Ζ P w) X.A (eQ (.ref it)) (fun r s1=>r=none/\Inv X pJ σ H s1) E s
 self:∀ (A:ϗ) (i:Nat) (s:μ) (Q:VSP) (E:VSP),tn i s.heap->Q (.ref it) s->ψ (Ζ P w) A (iM (.ref it)) Q E s
abbrev TI:=St->Hp->(It->Hp->Prop)->Prop
def PIE (X:Cx) (pJ:List (Addr×Obj)) (σ:St) (tg:Expr) (R:It->Hp->Prop) (itv:δ) (s2:μ):Prop:=
 ∃ (it:Addr) (fp:List Addr) (tn:Nat->Heap->Prop) (J:It) (H':Hp),itv=.ref it/\Inv X pJ σ H' s2/\Turn X.prog X.w X.K tg J fp it tn/\tn 0 s2.heap/\(∀ b∈fp,FpOk X pJ H' b)/\R J H'
def PI (X:Cx) (tg iter:Expr) (wi:TI):Prop:=
 ∀ (pJ:List (Addr×Obj)) (s:μ) (σ:St) (H:Hp) (R:It->Hp->Prop),Inv X pJ σ H s->wi σ H R ->
  ψ (Ζ X.prog X.w) X.A (eval iter X.env) (fun v s1=>ψ (Ζ X.prog X.w) X.A (iM v) (PIE X pJ σ tg R) X.xe s1) X.xe s
theorem go_of {M:Model}{A:ϗ}{E:VSP}{s:μ}{tg:Expr}{it:Addr}{u:δ}{o:Obj}{n:String}{vs:Array δ}{Q:Unit->μ->Prop}(ho:s.heap.get? it=some o) (hc:o.cls=.type n) (hd:o.data=.fields vs)
    (hn:["enumerate","zip","dict_itemiterator","dict_reverseitemiterator","odict_iterator","itertools.zip_longest","itertools.pairwise"].contains n=false) (hQ:Q () s):ψ M A (nZ tg (.ref it) u) Q E s:=by
  unfold nZ
  cases tg <;> first
    | exact ζ hQ
    | (cases u <;> first
        | exact ζ hQ
        | (refine γ (wpAny_load ho ?_)
           rw [hc,hd]
           show ψ M A (if (["enumerate","zip","dict_itemiterator","dict_reverseitemiterator","odict_iterator","itertools.zip_longest","itertools.pairwise"].contains n&&vs[0]?==some (aF _))=true then _ else _) Q E s
           rw [if_neg (by intro h;rw [hn,Bool.false_and] at h;cases h)]
           exact ζ hQ))
noncomputable def Itl (K:W.Frag) (a:Addr):It:=
 ⟨fun i H=>∃ xs x,SqL K H a xs/\xs[i]?=some x,fun i H x H'=>H'=H/\∀ xs,SqL K H a xs->xs[i]?=some x,fun i H=>∃ xs,SqL K H a xs/\xs.length<=i⟩
noncomputable def Itt (K:W.Frag) (a:Addr):It:=
 ⟨fun i H=>∃ xs x,SqT K H a xs/\xs[i]?=some x,fun i H x H'=>H'=H/\∀ xs,SqT K H a xs->xs[i]?=some x,fun i H=>∃ xs,SqT K H a xs/\xs.length<=i⟩
noncomputable def Itr (lo:Int) (n:Nat):It:=⟨fun i _=>i < n,fun i H x H'=>H'=H/\x=.int (lo+i),fun i _=>n<=i⟩
theorem Uu {P:Ν}{w:ϖ}{K:W.Frag}{tg:Expr}(a it:Addr):Turn P w K tg (Itl K a) [it] it (fun i h=>h.IsListIter it a i) where
 mem:=by simp
 obj:=fun i h st b hb=>by
  have e:b=it:=by simpa using hb
  subst e
  obtain ⟨o,e,c,d⟩:=st
  exact ⟨o,e,fun v z=>by rw [d] at z;cases z⟩
 keep:=fun i h h' st k=>st.at fun o e=>k it (by simp) o e
 item:=by
  intro X hP hw hK hc i pJ s σ H E I hf st hg
  subst hP hw hK
  obtain ⟨xs,x,hq,hx⟩:=hg
  obtain ⟨its,rv,p,hz⟩:=I.list hq
  obtain ⟨u,hu,ru⟩:=rv.get hx
  obtain ⟨f0,f1,f2,f3,f4,f5⟩:=hf it (by simp)
  refine wpAny_pyNext_list_item st p.isList (x:=u) (by simpa using hu) fun h' st' sb=>?_
  have I1:Inv X pJ σ H { s with heap:=h' }:=I.turned (t':=s.toks) (fun b o hb e=>(sb.2 b hb).trans e) f0 f1 f3 f4 f5
  obtain ⟨o,e,c,d⟩:=id st'
  exact ⟨u,rfl,go_of (s:={ s with heap:=h' }) e c d (by decide) ⟨x,H,I1,ru,⟨rfl,fun ys hy=>by rw [I.WY hy hq];exact hx⟩,st',fun b hb=>(hf b hb).1⟩⟩
 done:=by
  intro X hP hw hK hc i pJ s σ H E I hf st hg
  subst hP hw hK
  obtain ⟨xs,hq,hx⟩:=hg
  obtain ⟨its,rv,p,hz⟩:=I.list hq
  obtain ⟨f0,f1,f2,f3,f4,f5⟩:=hf it (by simp)
  have hl:=rv.length
  exact wpAny_pyNext_list_end (I.ok.hd hc) st p.isList (by simp;lia) fun h' eb=>⟨rfl,I.turned (t':=s.toks) (fun b o hb e=>eb b o hb e) f0 f1 f3 f4 f5⟩
 self:=fun _ _ _ _ _ st h=>wpAny_pyIter_listiter st h
theorem Vx {P:Ν}{w:ϖ}{K:W.Frag}{tg:Expr}(a it:Addr):Turn P w K tg (Itt K a) [it] it (fun i h=>h.IsTupleIter it a i) where
 mem:=by simp
 obj:=fun i h st b hb=>by
  have e:b=it:=by simpa using hb
  subst e
  obtain ⟨o,e,c,d⟩:=st
  exact ⟨o,e,fun v z=>by rw [d] at z;cases z⟩
 keep:=fun i h h' st k=>st.at fun o e=>k it (by simp) o e
 item:=by
  intro X hP hw hK hc i pJ s σ H E I hf st hg
  subst hP hw hK
  obtain ⟨xs,x,hq,hx⟩:=hg
  obtain ⟨its,rv,p,hz⟩:=I.tuple hq
  obtain ⟨u,hu,ru⟩:=rv.get hx
  obtain ⟨f0,f1,f2,f3,f4,f5⟩:=hf it (by simp)
  refine wpAny_pyNext_tuple_item st (show s.heap.IsTuple a its.toArray from p) (x:=u) (by simpa using hu) fun h' st' sb=>?_
  have I1:Inv X pJ σ H { s with heap:=h' }:=I.turned (t':=s.toks) (fun b o hb e=>(sb.2 b hb).trans e) f0 f1 f3 f4 f5
  obtain ⟨o,e,c,d⟩:=id st'
  exact ⟨u,rfl,go_of (s:={ s with heap:=h' }) e c d (by decide) ⟨x,H,I1,ru,⟨rfl,fun ys hy=>by rw [I.Zd hy hq];exact hx⟩,st',fun b hb=>(hf b hb).1⟩⟩
 done:=by
  intro X hP hw hK hc i pJ s σ H E I hf st hg
  subst hP hw hK
  obtain ⟨xs,hq,hx⟩:=hg
  obtain ⟨its,rv,p,hz⟩:=I.tuple hq
  obtain ⟨f0,f1,f2,f3,f4,f5⟩:=hf it (by simp)
  have hl:=rv.length
  exact wpAny_pyNext_tuple_end (I.ok.hd hc) st (show s.heap.IsTuple a its.toArray from p) (by simp;lia) fun h' eb=>⟨rfl,I.turned (t':=s.toks) (fun b o hb e=>eb b o hb e) f0 f1 f3 f4 f5⟩
 self:=fun _ _ _ _ _ st h=>wpAny_pyIter_tupleiter st h
theorem Vy {P:Ν}{w:ϖ}{K:PySem.W.Frag}{tg:Expr}(it:Addr) (lo:Int) (n:Nat):Turn P w K tg (Itr lo n) [it] it (fun i h=>nU h it (lo+(i:Nat)*1) ((n:Int) - (i:Nat)) 1) where
 mem:=by simp
 obj:=fun i h st b hb=>by
  have e:b=it:=by simpa using hb
  subst e
  exact ⟨_,st,fun v z=>by
   have z':ϩ _=Data.cell v:=z
   cases z'⟩
 keep:=fun i h h' st k=>k it (by simp) _ st
 item:=by
  intro X hP hw hK hc i pJ s σ H E I hf st hg
  subst hP hw hK
  obtain ⟨f0,f1,f2,f3,f4,f5⟩:=hf it (by simp)
  have W:=Walks.range (prog:=X.prog) (w:=X.w) (I.ok.hd hc) it lo 1 n
  refine W.item i s _ _ hg st fun v h' tk hv st' kk=>?_
  obtain ⟨t,rfl⟩:=hv
  have I1:Inv X pJ σ H { s with heap:=h',toks:=tk }:=I.turned (fun b o hb e=>kk b o (by simpa using hb) e) f0 f1 f3 f4 f5
  refine ⟨_,rfl,go_of (s:={ s with heap:=h',toks:=tk }) (n:="range_iterator") st' rfl rfl (by decide) ⟨.int (lo+i),H,I1,⟨t,?_⟩,⟨rfl,rfl⟩,st',fun b hb=>(hf b hb).1⟩⟩
  rw [Int.mul_one]
 done:=by
  intro X hP hw hK hc i pJ s σ H E I hf st hg
  subst hP hw hK
  obtain ⟨f0,f1,f2,f3,f4,f5⟩:=hf it (by simp)
  exact pC (I.ok.hd hc) st (by have:n<=i:=hg;lia) fun h' eb=>⟨rfl,I.turned (t':=s.toks) (fun b o hb e=>eb b o hb e) f0 f1 f3 f4 f5⟩
 self:=fun _ _ _ _ _ st h=>pD st h
section
variable {X:Cx}{tg:Expr}
theorem Q3 {pJ:List (Addr×Obj)}{σ:St}{H:Hp}{s:μ}{R:It->Hp->Prop}{E:VSP}{lo hi:Int}{t u v:Tok}{tk:Nat}(I:Inv X pJ σ H s) (h1:-(2 ^ 62)<=lo) (h2:lo < 2 ^ 62) (h3:-(2 ^ 62)<=hi) (h4:hi < 2 ^ 62)
  (q:R (Itr lo (hi - lo).toNat) H):ψ (Ζ X.prog X.w) X.A (iM (.ref s.heap.objs.size)) (PIE X pJ σ tg R) E { s with heap:=s.heap.push { cls:=.type "range",data:=.fields #[.int lo t,.int hi u,.int 1 v] },toks:=tk }:=by
 refine wpAny_pyIter_range (IsRange.new ..) (small_one h1 h2 h3 h4) ?_
 have I1:Inv X pJ σ H { s with heap:=s.heap.push { cls:=.type "range",data:=.fields #[.int lo t,.int hi u,.int 1 v] },toks:=tk }:=I.kept fun b o e=>η _ e
 refine ⟨(s.heap.push { cls:=.type "range",data:=.fields #[.int lo t,.int hi u,.int 1 v] }).objs.size,[(s.heap.push { cls:=.type "range",data:=.fields #[.int lo t,.int hi u,.int 1 v] }).objs.size],_,_,H,rfl,
  I1.kept (t':=tk) fun b o e=>η _ e,Vy _ lo (hi - lo).toNat,?_,fun b hb=>?_,q⟩
 ·have e1:lo+((0:Nat):Int)*1=lo:=by simp
  have e2:(((hi - lo).toNat:Nat):Int) - ((0:Nat):Int)=dh lo hi 1:=by rw [rangeSize_one];split <;> lia
  show nU _ _ (lo+((0:Nat):Int)*1) ((((hi - lo).toNat:Nat):Int) - ((0:Nat):Int)) 1
  rw [e1,e2]
  exact ς _ rfl
 ·have e:b=(s.heap.push { cls:=.type "range",data:=.fields #[.int lo t,.int hi u,.int 1 v] }).objs.size:=by simpa using hb
  subst e
  exact I1.fpOk (ξ _) (I1.hok.fresh (ξ _))
def iRng1 (ta:TA):TI:=fun σ H R=>ta σ H fun vs H1=>∃ j:Int,vs=[.int j]/\-(2 ^ 62)<=j/\j < 2 ^ 62/\R (Itr 0 j.toNat) H1
theorem Jt {a:Expr}{ta:TA}{p pos:Pos}(hg:Gl X "range") (hm:X.mg "range"=none) (ha:PA X [a] ta) (hs:Ϝ [a] X.env=[(false,eval a X.env)]:=by rfl):PI X tg (.Call (.Name "range" p) [a] [] pos) (iRng1 ta):=by
 intro pJ s σ H R I h
 refine Call_ (vh I hg hm boot_range (aC (thn (ha pos pJ s σ H _ I h) fun us s1 ⟨vs,H1,I1,r1,q1⟩=>?_) hs rfl))
 obtain ⟨j,e,q1,q2,q⟩:=q1
 subst e
 cases r1 with
 | cons r rr=>
  cases rr
  obtain ⟨t,rfl⟩:=r
  exact call_range_1 (Q3 I1 (by lia) (by lia) q1 q2 (by simpa using q))
def tFor (wi:TI) (g:TG) (tb:TS):TS:=fun D σ H=>wi σ H fun J H1=>∃ W:Nat->Nat->St->Hp->Prop,(∃ m,W 0 m σ H1)/\∀ i m σ H,W i m σ H ->
 (J.stop i H/\D.nx σ H)\/(J.go i H/\∃ N:St->Hp->Prop,(∀ σ' H',N σ' H'->∃ m',m' < m/\W (i+1) m' σ' H')/\∀ x H',J.yld i H x H'->g x σ H' fun σ2 H2=>tb { D with nx:=N,ct:=N,bk:=D.nx } σ2 H2)
noncomputable def Zy (fp:List Addr) (h:Heap):List (Addr×Obj):=fp.filterMap fun b=>(h.get? b).map fun o=>(b,o)
theorem yU {fp:List Addr}{h:Heap}{b:Addr}{o:Obj}(hb:b∈fp) (e:h.get? b=some o):(b,o)∈Zy fp h:=pA.mpr ⟨b,hb,by rw [e];rfl⟩
theorem JL {fp:List Addr}{h:Heap}{p:Addr×Obj}(hp:p∈Zy fp h):p.1∈fp/\h.get? p.1=some p.2:=by
 obtain ⟨b,hb,e⟩:=pA.mp hp
 cases q:h.get? b with
 | none=>rw [q] at e;cases e
 | some o=>
  rw [q] at e
  have e':(b,o)=p:=ϔ e
  subst e'
  exact ⟨hb,q⟩
theorem Inv.pinned {pJ:List (Addr×Obj)}{σ:St}{H:Hp}{s:μ}{fp:List Addr}(I:Inv X pJ σ H s) (hf:∀ b∈fp,FpOk X pJ H b) (ho:∀ b∈fp,∃ o,s.heap.get? b=some o/\∀ v,o.data≠.cell v):Inv X (pJ++Zy fp s.heap) σ H s:=
 I.Y6 fun p hp=>(Ϭ.mp hp).elim (fun z=>I.pin p (ϐ _ z)) fun z=>by
  obtain ⟨hb,e⟩:=JL z
  obtain ⟨f0,f1,f2,_⟩:=hf p.1 hb
  obtain ⟨o,e',d⟩:=ho p.1 hb
  rw [e] at e';cases e'
  exact ⟨e,f0,f1,f2,d⟩
theorem Inv.xK {pJ pl:List (Addr×Obj)}{σ:St}{H:Hp}{s:μ}(I:Inv X (pJ++pl) σ H s):Inv X pJ σ H s:=I.Y6 fun p hp=>I.pin p (ϐ _ (fc _ hp))
theorem zeL {iter:Expr}{body:List Stmt}{wi:TI}{g:TG}{tb:TS}{pos:Pos}(hp:iD (Ζ X.prog X.w) X.A X.env X.xe) (hc:X.calm=true) (hi:PI X tg iter wi) (hg:PG X tg g) (hb:PSs X body tb)
  (hs:∀ x,bY iter X.env x=pure x:=by intro _;rfl):PS X (.For tg iter body [] pos) (tFor wi g tb):=by
 intro pJ s σ H D I h
 refine wpAny_For (thn (hi pJ s σ H _ I h) fun v s1 h1=>thn h1 fun itv s2 h2=>?_) hs
 obtain ⟨it,fp,tn,J,H2,e,I2,T,st2,f2,W,⟨m0,w0⟩,turn⟩:=h2
 subst e
 have stat:∀ {H':Hp},(∀ b∈fp,H' b=none)->∀ b∈fp,FpOk X pJ H' b:=fun hn b hb=>⟨hn b hb,(f2 b hb).2⟩
 refine codeAny_forLoop_any (fun n s'=>∃ i σ' H',Inv X pJ σ' H' s'/\tn i s'.heap/\(∀ b∈fp,H' b=none)/\W i n σ' H') ?_ m0 ⟨0,σ,H2,I2,st2,fun b hb=>(f2 b hb).1,w0⟩
 rintro n s3 ⟨i,σ3,H3,I3,st3,fr3,w3⟩
 rcases turn i n σ3 H3 w3 with ⟨stop,qn⟩ | ⟨go,N,hN,step⟩
 ·refine cX hp (thn (T.done X rfl rfl rfl hc i pJ s3 σ3 H3 X.xe I3 (stat fr3) st3 stop) fun r s4 ⟨hr,I4⟩=>?_)
  subst hr
  exact nY ⟨σ3,H3,I4,qn⟩
 ·refine cX hp (thn (T.item X rfl rfl rfl hc i pJ s3 σ3 H3 X.xe I3 (stat fr3) st3 go) fun r s4 ⟨u,hr,h4⟩=>?_)
  subst hr
  refine cX hp (thn h4 fun _ s5 ⟨x,H5,I5,r5,y5,st5,fr5⟩=>?_)
  have I5':=I5.pinned (stat fr5) (T.obj _ _ st5)
  refine cX hp (thn (hg _ s5 σ3 H5 x u _ I5' r5 (step x H5 y5)) fun _ s6 ⟨σ6,H6,I6,q6⟩=>?_)
  refine cX hp (thn (hb _ s6 σ6 H6 _ I6 q6) fun f s7 q7=>?_)
  have again:∀ {σ7:St}{H7:Hp},Inv X (pJ++Zy fp s5.heap) σ7 H7 s7->N σ7 H7->∃ m,m < n/\∃ i σ' H',Inv X pJ σ' H' s7/\tn i s7.heap/\(∀ b∈fp,H' b=none)/\W i m σ' H':=fun {σ7 H7} I7 n7=>by
   obtain ⟨m',hm,w7⟩:=hN σ7 H7 n7
   refine ⟨m',hm,i+1,σ7,H7,I7.xK,T.keep _ _ _ st5 fun b hb o e=>(I7.pin (b,o) (ϐ _ (ϐ _ (yU hb e)))).1,fun b hb=>?_,w7⟩
   obtain ⟨o,e,d⟩:=T.obj _ _ st5 b hb
   exact (I7.pin (b,o) (ϐ _ (ϐ _ (yU hb e)))).2.1
  cases f with
  | next=>obtain ⟨σ7,H7,I7,n7⟩:=q7;exact again I7 n7
  | cont=>obtain ⟨σ7,H7,I7,n7⟩:=q7;exact again I7 n7
  | brk=>obtain ⟨σ7,H7,I7,q7⟩:=q7;exact ⟨σ7,H7,I7.xK,q7⟩
  | ret v=>obtain ⟨x7,σ7,H7,I7,r7,q7⟩:=q7;exact ⟨x7,σ7,H7,I7.xK,r7,q7⟩
end
abbrev R2:=V->V->Hp->VK->Prop
def OpR (X:Cx) (f:δ->δ->Sem δ) (r:R2):Prop:=
 ∀ (pJ:List (Addr×Obj)) (s:μ) (σ:St) (H:Hp) (x y:V) (v u:δ) (Q:VK),Inv X pJ σ H s->RelV x v->RelV y u->r x y H Q ->
  ψ (Ζ X.prog X.w) X.A (f v u) (EP X pJ σ Q) X.xe s
def UnR (X:Cx) (f:δ->Sem δ) (r:V->Hp->VK->Prop):Prop:=
 ∀ (pJ:List (Addr×Obj)) (s:μ) (σ:St) (H:Hp) (x:V) (v:δ) (Q:VK),Inv X pJ σ H s->RelV x v->r x H Q ->
  ψ (Ζ X.prog X.w) X.A (f v) (EP X pJ σ Q) X.xe s
def CallR (X:Cx) (f:δ) (r:List V->Hp->VK->Prop):Prop:=
 ∀ (pJ:List (Addr×Obj)) (s:μ) (σ:St) (H:Hp) (xs:List V) (us:List δ) (Q:VK),Inv X pJ σ H s->Vals xs us->r xs H Q ->
  ψ (Ζ X.prog X.w) X.A (call f us) (EP X pJ σ Q) X.xe s
def tOp (r:R2) (ta tb:TE):TE:=fun σ H Q=>ta σ H fun x H1=>tb σ H1 fun y H2=>r x y H2 Q
def tUn (r:V->Hp->VK->Prop) (ta:TE):TE:=fun σ H Q=>ta σ H fun x H1=>r x H1 Q
def rI (C:Int->Int->Prop) (g:Int->Int->V):R2:=fun x y H Q=>∃ i j,x=.int i/\y=.int j/\C i j/\Q (g i j) H
def rI0 (g:Int->Int->V):R2:=fun x y H Q=>∃ i j,x=.int i/\y=.int j/\Q (g i j) H
def rU (g:Int->V):V->Hp->VK->Prop:=fun x H Q=>∃ i,x=.int i/\Q (g i) H
section
variable {X:Cx}{a b c:Expr}{ta tb tc:TE}{pos:Pos}
theorem binT (ha:PE X a ta) (hb:PE X b tb) {pJ:List (Addr×Obj)}{s:μ}{σ:St}{H:Hp}{R:V->V->Hp->Prop}(I:Inv X pJ σ H s)
  (h:ta σ H fun x H1=>tb σ H1 fun y H2=>R x y H2) {Q:VSP}{f:δ->δ->Sem δ}
  (hf:∀ v u s2 x y H2,Inv X pJ σ H2 s2->RelV x v->RelV y u->R x y H2->ψ (Ζ X.prog X.w) X.A (f v u) Q X.xe s2):
  ψ (Ζ X.prog X.w) X.A (eval a X.env) (fun v s₁=>ψ (Ζ X.prog X.w) X.A (eval b X.env) (fun u s₂=>ψ (Ζ X.prog X.w) X.A (f v u) Q X.xe s₂) X.xe s₁) X.xe s:=by
 refine thn (ha pJ s σ H _ I h) fun v s1 ⟨x,H1,I1,r1,q1⟩=>?_
 refine thn (hb pJ s1 σ H1 _ I1 q1) fun u s2 ⟨y,H2,I2,r2,q2⟩=>?_
 exact hf v u s2 x y H2 I2 r1 r2 q2
theorem pe_op {op:mV}{r:R2}(ho:OpR X (bQ op) r) (ha:PE X a ta) (hb:PE X b tb):PE X (.BinOp a op b pos) (tOp r ta tb):=by
 intro pJ s σ H Q I h
 exact wpAny_BinOp (binT ha hb I h fun v u s2 x y H2 I2 rx ry q=>ho pJ s2 σ H2 x y v u Q I2 rx ry q)
theorem pe_un {op:UnaryOp}{r:V->Hp->VK->Prop}(ho:UnR X (unaryOp op) r) (ha:PE X a ta):PE X (.UnaryOp op a pos) (tUn r ta):=by
 intro pJ s σ H Q I h
 exact UnaryOp_ (thn (ha pJ s σ H _ I h) fun v s1 ⟨x,H1,I1,r1,q1⟩=>ho pJ s1 σ H1 x v Q I1 r1 q1)
theorem opI {f:δ->δ->Sem δ}{C:Int->Int->Prop}{g:Int->Int->Int}
  (rule:∀ (i j:Int) (t u:Tok) (s:μ) (Q:VSP) (E:VSP),C i j->Q (.int (g i j) s.toks) { s with toks:=s.toks+1 }->ψ (Ζ X.prog X.w) X.A (f (.int i t) (.int j u)) Q E s):
  OpR X f (rI C fun i j=>.int (g i j)):=by
 intro pJ s σ H x y v u Q I rx ry h
 obtain ⟨i,j,rfl,rfl,hc,q⟩:=h
 obtain ⟨t,rfl⟩:=rx
 obtain ⟨t',rfl⟩:=ry
 exact rule i j t t' s _ _ hc ⟨.int (g i j),H,I.tok _,⟨_,rfl⟩,q⟩
theorem opI0 {f:δ->δ->Sem δ}{g:Int->Int->Int}
  (rule:∀ (i j:Int) (t u:Tok) (s:μ) (Q:VSP) (E:VSP),Q (.int (g i j) s.toks) { s with toks:=s.toks+1 }->ψ (Ζ X.prog X.w) X.A (f (.int i t) (.int j u)) Q E s):
  OpR X f (rI0 fun i j=>.int (g i j)):=by
 intro pJ s σ H x y v u Q I rx ry h
 obtain ⟨i,j,rfl,rfl,q⟩:=h
 obtain ⟨t,rfl⟩:=rx
 obtain ⟨t',rfl⟩:=ry
 exact rule i j t t' s _ _ ⟨.int (g i j),H,I.tok _,⟨_,rfl⟩,q⟩
theorem opB0 {f:δ->δ->Sem δ}{g:Int->Int->Bool}
  (rule:∀ (i j:Int) (t u:Tok) (s:μ) (Q:VSP) (E:VSP),Q (.bool (g i j)) s->ψ (Ζ X.prog X.w) X.A (f (.int i t) (.int j u)) Q E s):
  OpR X f (rI0 fun i j=>.bl (g i j)):=by
 intro pJ s σ H x y v u Q I rx ry h
 obtain ⟨i,j,rfl,rfl,q⟩:=h
 obtain ⟨t,rfl⟩:=rx
 obtain ⟨t',rfl⟩:=ry
 exact rule i j t t' s _ _ ⟨.bl (g i j),H,I,rfl,q⟩
def CPow (i j:Int):Prop:=0<=j/\j<=1000000/\i.natAbs < 2 ^ 64
def CMul (i j:Int):Prop:=(-(2 ^ 64) < i/\i < 2 ^ 64)\/(-(2 ^ 64) < j/\j < 2 ^ 64)
theorem CMul.ok {i j:Int}(h:CMul i j):IntMulOk i j:=by
 rcases h with ⟨h1,h2⟩ | ⟨h1,h2⟩
 ·exact .of_left (intBits_le_64 h1 h2)
 ·exact .of_right (intBits_le_64 h1 h2)
theorem ze9:OpR X (bQ .Add) (rI0 fun i j=>.int (i+j)):=opI0 fun _ _ _ _ _ _ _ q=>add_int q
theorem zeZ:OpR X (bQ .Sub) (rI0 fun i j=>.int (i - j)):=opI0 fun _ _ _ _ _ _ _ q=>sub_int q
theorem ze3:OpR X (bQ .Mult) (rI CMul fun i j=>.int (i*j)):=opI fun _ _ _ _ _ _ _ hc q=>mul_int q hc.ok
theorem ze4:OpR X (bQ .Mod) (rI (fun _ j=>0 < j) fun i j=>.int (i % j)):=opI fun i j _ _ _ _ _ hc q=>by
 have h1:(0:Int) < j:=hc
 exact mod_int' (by lia) (by rw [Int.fmod_eq_emod_of_nonneg i (by lia)];exact q)
theorem ze1:OpR X (bQ .Pow) (rI CPow fun i j=>.int (i ^ j.toNat)):=opI fun _ _ _ _ _ _ _ hc q=>pow_int_small hc.1 hc.2.1 hc.2.2 q
theorem unI {f:δ->Sem δ}{g:Int->Int}
  (rule:∀ (i:Int) (t:Tok) (s:μ) (Q:VSP) (E:VSP),Q (.int (g i) s.toks) { s with toks:=s.toks+1 }->ψ (Ζ X.prog X.w) X.A (f (.int i t)) Q E s):
  UnR X f (rU fun i=>.int (g i)):=by
 intro pJ s σ H x v Q I rx h
 obtain ⟨i,rfl,q⟩:=h
 obtain ⟨t,rfl⟩:=rx
 exact rule i t s _ _ ⟨.int (g i),H,I.tok _,⟨_,rfl⟩,q⟩
theorem zdW:UnR X (unaryOp .USub) (rU fun i=>.int (-i)):=unI fun _ _ _ _ _ q=>neg_int q
end
section
variable {X:Cx}{a b c:Expr}{ta tb tc:TE}{pos:Pos}
theorem Yd {pJ:List (Addr×Obj)}{σ:St}{H:Hp}{s:μ}{Q:VK}{k k':Bool}(I:Inv X pJ σ H s) (q:Q (.bl k) H) (e:k=k'):EP X pJ σ Q (.bool k') s:=by
 subst e
 exact ⟨.bl k,H,I,rfl,q⟩
theorem op_lt:OpR X (ϊ .Lt) (rI0 fun i j=>.bl (decide (i < j))):=opB0 fun _ _ _ _ _ _ _ q=>lt_int q
theorem op_le:OpR X (ϊ .LtE) (rI0 fun i j=>.bl (decide (i<=j))):=opB0 fun _ _ _ _ _ _ _ q=>le_int q
theorem op_gt:OpR X (ϊ .Gt) (rI0 fun i j=>.bl (decide (j < i))):=opB0 fun _ _ _ _ _ _ _ q=>gt_int q
theorem op_ge:OpR X (ϊ .GtE) (rI0 fun i j=>.bl (decide (j<=i))):=opB0 fun _ _ _ _ _ _ _ q=>ge_int q
theorem JD:OpR X (ϊ .In) (fun x y H Q=>∃ i j,x=.str i/\y=.str j/\Q (.bl (!(fU j i 0 j.length 1).isEmpty)) H):=by
 intro pJ s σ H x y v u Q I rx ry h
 obtain ⟨i,j,rfl,rfl,q⟩:=h
 obtain ⟨t,rfl⟩:=rx
 obtain ⟨t',rfl⟩:=ry
 exact in_str (Yd I q rfl)
theorem ze5:OpR X (ϊ .Is) (fun x y H Q=>y=.non/\Q (.bl (decide (x=.non))) H):=by
 intro pJ s σ H x y v u Q I rx ry h
 obtain ⟨rfl,q⟩:=h
 cases ry
 refine is_none_gen (Yd I q ?_)
 cases x <;> first
  | (cases rx;rfl)
  | (obtain ⟨t,rfl⟩:=rx;rfl)
theorem zcR:OpR X (ϊ .IsNot) (fun x y H Q=>y=.non/\Q (.bl (!decide (x=.non))) H):=by
 intro pJ s σ H x y v u Q I rx ry h
 obtain ⟨rfl,q⟩:=h
 cases ry
 refine isnot_none_gen (Yd I q ?_)
 cases x <;> first
  | (cases rx;rfl)
  | (obtain ⟨t,rfl⟩:=rx;rfl)
theorem OpR.or {f:δ->δ->Sem δ}{r r':R2}(h:OpR X f r) (h':OpR X f r'):OpR X f (fun x y H Q=>r x y H Q\/r' x y H Q):=by
 intro pJ s σ H x y v u Q I rx ry q
 rcases q with q | q
 ·exact h pJ s σ H x y v u Q I rx ry q
 ·exact h' pJ s σ H x y v u Q I rx ry q
theorem zcL {op:fD}{r:R2}(ho:OpR X (ϊ op) r) (ha:PE X a ta) (hb:PE X b tb) (hm:behindInMarks op b=false):PE X (.Compare a [op] [b] pos) (tOp r ta tb):=by
 intro pJ s σ H Q I h
 exact wpAny_Compare1 (binT ha hb I h fun v u s2 x y H2 I2 rx ry q=>ho pJ s2 σ H2 x y v u Q I2 rx ry q) hm
def tTest (t:TE):TT:=fun σ H Q=>t σ H fun x H'=>∃ k,x=.bl k/\Q k H'
theorem zcz {op:fD}{r:R2}(ho:OpR X (ϊ op) r) (ha:PE X a ta) (hb:PE X b tb) (hm:behindInMarks op b=false):PT X (.Compare a [op] [b] pos) (tTest (tOp r ta tb)):=by
 intro pJ s σ H Q I h
 refine wpAny_isTrue_Compare1 (thn (ha pJ s σ H _ I h) fun v s1 ⟨x,H1,I1,r1,q1⟩=>thn (hb pJ s1 σ H1 _ I1 q1) fun u s2 ⟨y,H2,I2,r2,q2⟩=>
  thn (ho pJ s2 σ H2 x y v u _ I2 r1 r2 q2) fun c s3 ⟨z,H3,I3,r3,k,e,q3⟩=>?_) hm
 subst e
 cases r3
 exact ϳ ⟨H3,I3,q3⟩
def UT (r r':R2) (ta tb tc:TE):TE:=fun σ H Q=>ta σ H fun x H1=>tb σ H1 fun y H2=>r x y H2 fun z H3=>∃ k,z=.bl k /\
 (if k=true then tc σ H3 fun w' H4=>r' y w' H4 Q else Q (.bl false) H3)
theorem zaj {op op':fD}{r r':R2}(ho:OpR X (ϊ op) r) (ho':OpR X (ϊ op') r') (ha:PE X a ta) (hb:PE X b tb) (hc:PE X c tc)
  (hm:lastMarks [op,op'] [b,c]=false:=by with_unfolding_all rfl):PE X (.Compare a [op,op'] [b,c] pos) (UT r r' ta tb tc):=by
 intro pJ s σ H Q I h
 refine Compare_chain (thn (ha pJ s σ H _ I h) fun v s1 ⟨x,H1,I1,r1,q1⟩=>chain_link (thn (hb pJ s1 σ H1 _ I1 q1) fun u s2 ⟨y,H2,I2,r2,q2⟩=>
  thn (ho pJ s2 σ H2 x y v u _ I2 r1 r2 q2) fun d s3 ⟨z,H3,I3,r3,k,e,q3⟩=>?_)) hm
 subst e
 cases r3
 refine ϳ ?_
 cases k with
 | false=>exact ite_ff ⟨.bl false,H3,I3,rfl,q3⟩
 | true=>exact ite_tt (chain_last (thn (hc pJ s3 σ H3 _ I3 q3) fun w' s4 ⟨z',H4,I4,r4,q4⟩=>ho' pJ s4 σ H4 y z' u w' Q I4 r2 r4 q4))
theorem Q5 {op op':fD}{r r':R2}(ho:OpR X (ϊ op) r) (ho':OpR X (ϊ op') r') (ha:PE X a ta) (hb:PE X b tb) (hc:PE X c tc)
  (hm:lastMarks [op,op'] [b,c]=false:=by with_unfolding_all rfl):PT X (.Compare a [op,op'] [b,c] pos) (tTest (UT r r' ta tb tc)):=by
 intro pJ s σ H Q I h
 refine isTrue_chain (thn (ha pJ s σ H _ I h) fun v s1 ⟨x,H1,I1,r1,q1⟩=>test_link (thn (hb pJ s1 σ H1 _ I1 q1) fun u s2 ⟨y,H2,I2,r2,q2⟩=>
  thn (ho pJ s2 σ H2 x y v u _ I2 r1 r2 q2) fun d s3 ⟨z,H3,I3,r3,k,e,q3⟩=>?_)) hm
 subst e
 cases r3
 refine ϳ ?_
 cases k with
 | false=>
  obtain ⟨k',e',q'⟩:=q3
  cases e'
  exact ite_ff ⟨H3,I3,q'⟩
 | true=>
  refine ite_tt (test_last (thn (hc pJ s3 σ H3 _ I3 q3) fun w' s4 ⟨z',H4,I4,r4,q4⟩=>thn (ho' pJ s4 σ H4 y z' u w' _ I4 r2 r4 q4) fun d' s5 ⟨z2,H5,I5,r5,k2,e2,q5⟩=>?_))
  subst e2
  cases r5
  exact ϳ ⟨H5,I5,q5⟩
theorem jG:(sizeLine:Nat) < 2 ^ 63:=by rw [Ϧ];decide
theorem VR:OpR X (bQ .Add) (fun x y H Q=>∃ i j,x=.str i/\y=.str j/\i.length+j.length<=sizeLine/\Q (.str (i++j)) H):=by
 intro pJ s σ H x y v u Q I rx ry h
 obtain ⟨i,j,rfl,rfl,hz,q⟩:=h
 obtain ⟨t,rfl⟩:=rx
 obtain ⟨t',rfl⟩:=ry
 exact add_str (fun t' tk=>⟨.str (i++j),H,I.tok _,⟨_,rfl⟩,q⟩) hz
theorem vals1 {x:V}{us:List δ}(r:Vals [x] us):∃ u,us=[u]/\RelV x u:=by
 cases r with
 | cons r1 r2=>cases r2;exact ⟨_,rfl,r1⟩
theorem vals2 {x y:V}{us:List δ}(r:Vals [x,y] us):∃ u w',us=[u,w']/\RelV x u/\RelV y w':=by
 cases r with
 | cons r1 r2=>
  cases r2 with
  | cons r3 r4=>cases r4;exact ⟨_,_,rfl,r1,r3⟩
theorem zaY:CallR X (.builtin "abs") (fun xs H Q=>∃ i,xs=[.int i]/\Q (.int (if i < 0 then -i else i)) H):=by
 intro pJ s σ H xs us Q I r h
 obtain ⟨i,rfl,q⟩:=h
 obtain ⟨u,rfl,t,rfl⟩:=vals1 r
 exact call_abs_int fun u tk=>⟨.int (if i < 0 then -i else i),H,I.tok _,⟨_,rfl⟩,q⟩
theorem Qi (hc:X.calm=true):CallR X (.builtin "max") (fun xs H Q=>∃ i j,xs=[.int i,.int j]/\Q (.int (if j > i then j else i)) H):=by
 intro pJ s σ H xs us Q I r h
 obtain ⟨i,j,rfl,q⟩:=h
 obtain ⟨u,w',rfl,⟨t,rfl⟩,⟨t',rfl⟩⟩:=vals2 r
 refine max_two_ints (I.ok.hd hc) fun h' tk k=>⟨_,H,I.kept k,?_,q⟩
 by_cases hj:j > i
 ·rw [if_pos hj,if_pos hj];exact ⟨_,rfl⟩
 ·rw [if_neg hj,if_neg hj];exact ⟨_,rfl⟩
theorem Qh (hc:X.calm=true):CallR X (.builtin "min") (fun xs H Q=>∃ i j,xs=[.int i,.int j]/\Q (.int (if j < i then j else i)) H):=by
 intro pJ s σ H xs us Q I r h
 obtain ⟨i,j,rfl,q⟩:=h
 obtain ⟨u,w',rfl,⟨t,rfl⟩,⟨t',rfl⟩⟩:=vals2 r
 refine min_two_ints (I.ok.hd hc) fun h' tk k=>⟨_,H,I.kept k,?_,q⟩
 by_cases hj:j < i
 ·rw [if_pos hj,if_pos hj];exact ⟨_,rfl⟩
 ·rw [if_neg hj,if_neg hj];exact ⟨_,rfl⟩
theorem zf0:CallR X (.type "int") (fun xs H Q=>(∃ i,xs=[.int i]/\Q (.int i) H)\/∃ k,xs=[.bl k]/\Q (.int (if k then 1 else 0)) H):=by
 intro pJ s σ H xs us Q I r h
 rcases h with ⟨i,rfl,q⟩ | ⟨k,rfl,q⟩
 ·obtain ⟨u,rfl,t,rfl⟩:=vals1 r
  exact call_int_int ⟨.int i,H,I,⟨_,rfl⟩,q⟩
 ·obtain ⟨u,rfl,r1⟩:=vals1 r
  cases r1
  exact call_int_bool ⟨.int (if k then 1 else 0),H,I.tok _,⟨_,rfl⟩,q⟩
theorem Yp:CallR X (.type "str") (fun xs H Q=>∃ i,xs=[.int i]/\i.natAbs.log2 < 1920/\Q (.str (toString i)) H):=by
 intro pJ s σ H xs us Q I r h
 obtain ⟨i,rfl,hz,q⟩:=h
 obtain ⟨u,rfl,t,rfl⟩:=vals1 r
 exact PySem.P.str_of_int hz ⟨.str _,H,I.tok _,⟨_,rfl⟩,q⟩
end
structure ObjM (h:Heap) (x dx C:Addr) (mA:Str->Option δ):Prop where
 obj:h.get? x=some (W.instObj C dx)
 ns:h.Ns1 dx mA
 ne:dx≠x
set_option tactic.hygienic true in
theorem J2 {h:Heap}{dx:Addr}{mA:Str->Option δ}(n:h.Ns1 dx mA):∃ od,h.get? dx=some od/\∀ name,W.lookIn name od=some (mA name):=by
 obtain ⟨o,es,ep,ho,hd,hk,_,hm⟩:=n
 refine ⟨o,ho,fun name=>?_⟩
 have e:=hm name
 unfold nsFind findBy at e
 rw [<- Array.find?_toList] at e
 unfold W.lookIn
 rw [hd]
 dsimp only
 split
 ·rename_i y q
  rw [q] at e
  exact congrArg some e
 ·rename_i q
  rw [q] at e
  have a:es.toList.any (·.refKey)=false:=by
   rw [pO]
   intro y hy
   obtain ⟨z,t,hkey⟩:=hk y (Array.mem_toList_iff.mp hy)
   simp [cF.refKey,hkey]
  have a':¬ es.toList.any (·.refKey)=true:=by rw [a];exact Μ
  rw [if_neg a']
  exact congrArg some e
theorem ObjM.look {h:Heap}{x dx C:Addr}{mA:Str->Option δ}(I:ObjM h x dx C mA):∃ od,W.InstAt h x (W.instObj C dx) C (some od)/\∀ name,W.lookIn name od=some (mA name):=
 let ⟨od,ho,hl⟩:=J2 I.ns
 ⟨od,⟨I.obj,rfl,rfl,ho⟩,hl⟩
theorem RelO.some_of {v:V}{o:Option δ}(r:RelO (some v) o):∃ u,o=some u/\RelV v u:=by
 cases o with
 | none=>exact (show False from r).elim
 | some u=>exact ⟨u,rfl,r⟩
section
variable {P:Ν}{w:ϖ}{H H':Hp}{h h':Heap}{a C dx:Addr}{fs fs':List (Str×V)}
theorem zdp (hok:HOk P w H h) (e:H a=some (.ins C dx fs)):∃ mA,ObjM h a dx C mA/\(∀ f,RelO (fs.lookup f) (mA f))/\PySem.Within mA (fs.map (·.1))/\fs.length<=1000/\H dx=some (.own a):=by
 obtain ⟨d,z,ne,ob,mA,n,r,q⟩:=(show ObjOk P w H h a (.ins C dx fs) from hok a _ e)
 exact ⟨mA,⟨ob,n,ne⟩,r,q,z,d⟩
end
structure Cls (K:W.Frag) (C:Addr):Prop where
 pg:W.plainGet K C Str.empty=true
 hd:W.hasDictIn K C=true
 po:W.plainOver K C=true
 sa:W.findIn K (.ref C) "__setattr__"=some (some (.builtin "object.__setattr__"))
theorem Cls.get {K:W.Frag}{C:Addr}(c:Cls K C) (f:Str):W.plainGet K C f=true:=c.pg
section
variable {X:Cx}{pJ:List (Addr×Obj)}{σ:St}{H:Hp}{s:μ}{A:ϗ}{E:VSP}{Q:VSP}{c:δ}{b:Bool}
inductive TyOf (K:W.Frag) (H:Hp):V->δ->Prop where
 | non:TyOf K H .non (.type "NoneType")
 | bl (x:Bool):TyOf K H (.bl x) (.type "bool")
 | int (i:Int):TyOf K H (.int i) (.type "int")
 | str (x:Str):TyOf K H (.str x) (.type "str")
 | flt (x:UInt64):TyOf K H (.flt x) (.type "float")
 | lst {a:Addr}{xs:List V}(e:H a=some (.lst xs)):TyOf K H (.ref a) (.type "list")
 | frz {a:Addr}{o:Obj}{xs:List V}(e:H a=some (.frz o (.lst xs))):TyOf K H (.ref a) (.type "list")
 | tup {a:Addr}{xs:List V}(e:H a=some (.tup xs)):TyOf K H (.ref a) (.type "tuple")
 | dK {a:Addr}{kvs:List (Key×V)}(e:H a=some (.dK kvs)):TyOf K H (.ref a) (.type "dict")
 | dT {a:Addr}{kvs:List (List Key×V)}(e:H a=some (.dT kvs)):TyOf K H (.ref a) (.type "dict")
 | ins {a C dx:Addr}{fs:List (Str×V)}(e:H a=some (.ins C dx fs)) (cl:Cls K C) (ha:W.findIn K (.ref C) "__class__"=some (some (.builtin "object.__class__")))
   (hn:W.specialIn K (.builtin "object.__class__") "__get__"=some (some (.builtin "getset_descriptor.__get__"))) (htk:W.takesIn K (.builtin "object.__class__")=some true)
   (hm:W.mroIn K C (.type "object")=some true):TyOf K H (.ref a) (.ref C)
theorem Kp {x:V}{u t:δ}(I:Inv X pJ σ H s) (rx:RelV x u) (ty:TyOf X.K H x t) (e:W.kitOne X.K t c=some b) (h:∀ tk,Q (.bool b) { s with toks:=tk }):
  ψ (Ζ X.prog X.w) A (call (.builtin "isinstance") [u,c]) Q E s:=by
 cases ty with
 | non=>cases (show u=Ε from rx);exact W.kia_one W.kitx_none I.kIn Ϸ e (fun z=>nomatch z) h
 | bl y=>cases (show u=Ω y from rx);exact W.kia_one W.kitx_bool I.kIn Ϸ e (fun z=>nomatch z) h
 | int i=>obtain ⟨t,q⟩:=(show ∃ t,u=ϕ i t from rx);cases q;exact W.kia_one W.kitx_int I.kIn Ϸ e (fun z=>nomatch z) h
 | str y=>obtain ⟨t,q⟩:=(show ∃ t,u=bC y t from rx);cases q;exact W.kia_one W.kitx_str I.kIn Ϸ e (fun z=>nomatch z) h
 | flt y=>obtain ⟨t,q⟩:=(show ∃ t,u=δ.float y t from rx);cases q;exact W.kia_one W.kitx_float I.kIn Ϸ e (fun z=>nomatch z) h
 | @lst a xs ea=>
  cases (show u=ω a from rx)
  obtain ⟨_,_,n,_,h1⟩:=(show ObjOk X.prog X.w H s.heap a (.lst xs) from I.hok a _ ea)
  exact W.kia_one W.kitx_list I.kIn ⟨_,h1,rfl⟩ e (fun z=>nomatch z) h
 | @frz a ob xs ea=>
  cases (show u=ω a from rx)
  obtain ⟨_,_,_,n,_,h1⟩:=(show ObjOk X.prog X.w H s.heap a (.frz ob (.lst xs)) from I.hok a _ ea)
  exact W.kia_one W.kitx_list I.kIn ⟨_,h1,rfl⟩ e (fun z=>nomatch z) h
 | @tup a xs ea=>
  cases (show u=ω a from rx)
  obtain ⟨_,_,_,p⟩:=(show ObjOk X.prog X.w H s.heap a (.tup xs) from I.hok a _ ea)
  obtain ⟨o,h1,h2,_⟩:=p
  exact W.kia_one W.kitx_tuple I.kIn ⟨o,h1,h2⟩ e (fun z=>nomatch z) h
 | @dK a kvs ea=>
  cases (show u=ω a from rx)
  obtain ⟨_,_,vs,_,p⟩:=(show ObjOk X.prog X.w H s.heap a (.dK kvs) from I.hok a _ ea)
  obtain ⟨o,es,ep,h1,h2,_⟩:=p
  exact W.kia_one W.kitx_dict I.kIn ⟨o,h1,h2.1⟩ e (fun z=>nomatch z) h
 | @dT a kvs ea=>
  cases (show u=ω a from rx)
  obtain ⟨_,_,xs,_,o,es,ep,h1,h2,_⟩:=(show ObjOk X.prog X.w H s.heap a (.dT kvs) from I.hok a _ ea)
  exact W.kia_one W.kitx_dict I.kIn ⟨o,h1,h2.1⟩ e (fun z=>nomatch z) h
 | @ins a C dx fs ea cl ha hn htk hm=>
  cases (show u=ω a from rx)
  obtain ⟨mA,O,_⟩:=zdp I.hok ea
  obtain ⟨od,J,_⟩:=O.look
  exact W.kia_one (W.kitx_own (cl.get _) cl.hd ha hn htk hm) I.kIn J e (fun z=>nomatch z) h
end
structure Room (k:Nat) (A:ϗ):Prop where
 hd:A.handled=none
 gd:A.guards=some []
 dp:A.depth+3*k+5 < recursionLimit
 un:A.units+16*k+200 < ϲ
theorem Room.deeper {k:Nat}{A:ϗ}(r:Room (k+1) A) (env:Env):Room k (A.deeper env):=
 ⟨r.hd,r.gd,by have:=r.dp;show A.depth+1+3*k+5 < _;lia,by have:=r.un;show A.units+3+16*k+200 < _;lia⟩
theorem Room.in1 {k:Nat}{A:ϗ}(r:Room (k+1) A):Room k A.in1:=
 ⟨r.hd,r.gd,by have:=r.dp;show A.depth+3*k+5 < _;lia,by have:=r.un;show A.units+1+16*k+200 < _;lia⟩
theorem Room.depth {k:Nat}{A:ϗ}(r:Room k A):A.depth < recursionLimit:=by have:=r.dp;lia
theorem Room.units {k:Nat}{A:ϗ}(r:Room k A):A.units+64 < ϲ:=by have:=r.un;lia
def tNil:TA:=fun _ H Q=>Q [] H
def tCons (ta:TE) (tr:TA):TA:=fun σ H Q=>ta σ H fun x H1=>tr σ H1 fun xs H2=>Q (x::xs) H2
section
variable {X:Cx}{e:Expr}{es:List Expr}{te:TE}{t:TA}{pos:Pos}
theorem xW:PA X [] tNil:=fun _ _ _ _ H Q I h=>lL ⟨[],H,I,.nil,h⟩
theorem yf (ha:PE X e te) (hr:PA X es t) (hs:Ϝ (e::es) X.env=(false,eval e X.env)::Ϝ es X.env:=by rfl):PA X (e::es) (tCons te t):=by
 intro pos pJ s σ H Q I h
 rw [hs]
 show ψ _ _ (spliced ((false,eval e X.env)::dB pos (Ϝ es X.env))) _ _ s
 refine lq (thn (ha pJ s σ H _ I h) fun u s1 ⟨x,H1,I1,r1,q1⟩=>?_)
 exact thn (hr pos pJ s1 σ H1 _ I1 q1) fun us s2 ⟨xs,H2,I2,r2,q2⟩=>⟨x::xs,H2,I2,.cons r1 r2,q2⟩
def tTup (t:TA):TE:=fun σ H Q=>t σ H fun xs H1=>xs.length<=sizeLine/\∀ p,H1 p=none->Q (.ref p) (upd H1 p (.tup xs))
def tLst (t:TA):TE:=fun σ H Q=>t σ H fun xs H1=>xs.length<=sizeLine/\∀ p,H1 p=none->Q (.ref p) (upd H1 p (.lst xs))
theorem zeP {x1} (h:PA X es t):PE X (.Tuple es x1 pos) (tTup t):=by
 intro pJ s σ H Q I hq
 refine wpAny_Tuple_spliced (thn (h pos pJ s σ H _ I hq) fun us s1 ⟨xs,H1,I1,r,z,q⟩=>⟨by rw [<- r.length];exact z,?_⟩)
 have hf:H1 s1.heap.objs.size=none:=I1.hok.fresh (ξ _)
 refine ⟨.ref s1.heap.objs.size,upd H1 s1.heap.objs.size (.tup xs),I1.laid (t':=s1.toks) (fun b u e=>η _ e) (ξ _) ?_,rfl,q _ hf⟩
 exact ⟨z,us,r,⟨_,ς _ rfl,rfl,_,rfl⟩⟩
theorem zeT (h:PA X es t):PE X (.List es pos) (tLst t):=by
 intro pJ s σ H Q I hq
 refine wpAny_List_spliced (thn (h pos pJ s σ H _ I hq) fun us s1 ⟨xs,H1,I1,r,z,q⟩=>⟨by rw [<- r.length];exact z,?_⟩)
 have hf:H1 s1.heap.objs.size=none:=I1.hok.fresh (ξ _)
 refine ⟨.ref s1.heap.objs.size,upd H1 s1.heap.objs.size (.lst xs),I1.laid (t':=s1.toks) (fun b u e=>η _ e) (ξ _) ?_,rfl,q _ hf⟩
 exact ⟨z,us,0,r,ς _ rfl⟩
end
abbrev Sp:=List V->Hp->VK->XK->Prop
abbrev CXT:=List Env->Hp->μ->XK->δ->μ->Prop
structure Env0 (P:Ν) (w:ϖ) (K:W.Frag) (mg:Str->Option δ) (base:Heap) (A:ϗ) (outer:List Env) (s:μ) (H:Hp):Prop where
 frames:A.frames=some outer
 mod:Mod K mg base
 bs:∀ b o,base.get? b=some o->s.heap.get? b=some o/\H b=none
 bsz:base.objs.size<=s.heap.objs.size
 funs:s.heap.FunFrames base outer
 frf:∀ b∈frs outer,H b=none
 hok:HOk P w H s.heap
 bare:iU s.gens
def CE (outer:List Env) (P:Ν) (w:ϖ) (H:Hp) (s:μ) (Q:VK) (u:δ) (s':μ):Prop:=
 ∃ v H',s'.os=s.os/\iU s'.gens/\Un (frs outer) [] H H' s.heap s'.heap/\HOk P w H' s'.heap/\RelV v u/\Q v H'
def CR (CX:CXT) (outer:List Env) (P:Ν) (w:ϖ) (H:Hp) (s:μ) (Q:VK) (E:XK) (r:Result) (s':μ):Prop:=
 match r with
 | .ok (.ret u)=>CE outer P w H s Q u s'
 | .ok _=>False
 | .error e=>CX outer H s E e s'
structure FnOk (P:Ν) (w:ϖ) (K:W.Frag) (mg:Str->Option δ) (base:Heap) (CX:CXT) (k:Nat) (f:Addr) (fd:bJ) (ps:List Str) (sp:Sp):Prop where
 len:∀ vs H Q E,sp vs H Q E->vs.length=ps.length
 run:∀ (A:ϗ) (outer:List Env) (s:μ) (H:Hp) (args:Args) (us:List δ) (vs:List V) (Q:VK) (E:XK),Room k A->Env0 P w K mg base A outer s H->BindsTo s fd args (ps.zip us)->Vals vs us->sp vs H Q E ->
  mQ (Ζ P w) A (.call (.ref f) args) (CR CX outer P w H s Q E) s
theorem Env0.in1 {P:Ν}{w:ϖ}{K:W.Frag}{mg:Str->Option δ}{base:Heap}{A:ϗ}{outer:List Env}{s:μ}{H:Hp}(e:Env0 P w K mg base A outer s H):
  Env0 P w K mg base A.in1 outer s H:=⟨e.frames,e.mod,e.bs,e.bsz,e.funs,e.frf,e.hok,e.bare⟩
section
variable {X:Cx}{pJ:List (Addr×Obj)}{σ:St}{H:Hp}{s s':μ}
theorem Inv.env0 (I:Inv X pJ σ H s):Env0 X.prog X.w X.K X.mg X.base X.A X.stack s H:=
 ⟨I.ok.frames,I.ok.mod,I.bs,Ϫ I.ok.bsz I.sz,I.stack,I.U3,I.hok,I.bare⟩
theorem Inv.after {Q:VK}{u:δ}(I:Inv X pJ σ H s) (h:CE X.stack X.prog X.w H s Q u s'):EP X pJ σ Q u s':=by
 obtain ⟨v,H',os,bare,un,hok,r,q⟩:=h
 obtain ⟨hh,g,d,t,os'⟩:=s'
 obtain rfl:os'=s.os:=os
 exact ⟨v,H',I.call (h':=hh) (g':=g) (d':=d) (t':=t) (ch:=[]) un hok bare (fun b z=>absurd z (by simp)),r,q⟩
end
def tCall (sp:Sp) (dvs:List V) (E:XK) (t:TA):TE:=fun σ H Q=>t σ H fun vs H1=>sp (vs++dvs) H1 Q E
def Binds (K:W.Frag) (fd:bJ) (ps:List Str) (ds:List δ):Prop:=
 ∀ (s:μ) (us:List δ),K.In s.heap->(us++ds).length=ps.length->BindsTo s fd ⟨us,[]⟩ (ps.zip (us++ds))
theorem Binds.all {K:W.Frag}{fd:bJ}{ps:List Str}(h:∀ us:List δ,us.length=ps.length->bindArgs fd ⟨us,[]⟩=pure (ps.zip us)):Binds K fd ps []:=fun s us _ hl=>by
 rw [Ρ] at hl ⊢
 exact .of_eq (h us hl)
def YJ (CX:CXT) (X:Cx) (E:XK):Prop:=∀ (pJ:List (Addr×Obj)) (σ:St) (H:Hp) (s:μ) (e:δ) (s':μ),Inv X pJ σ H s->CX X.stack H s E e s'->X.xe e s'
section
variable {X:Cx}{CX:CXT}{k:Nat}{f C:Addr}{fd:bJ}{ps:List Str}{sp:Sp}{dvs:List V}{ds:List δ}{E:XK}{x m:Str}{p pos apos:Pos}{e o:Expr}{es:List Expr}{ta:TE}{t:TA}
theorem zeE {pJ:List (Addr×Obj)}{σ:St}{H:Hp}{s:μ}{Q:VK}{us:List δ}{vs:List V}(F:FnOk X.prog X.w X.K X.mg X.base CX k f fd ps sp) (hr:Room k X.A) (hb:Binds X.K fd ps ds) (hd:Vals dvs ds) (hx:YJ CX X E)
  (I:Inv X pJ σ H s) (r:Vals vs us) (h:sp (vs++dvs) H Q E):ψ (Ζ X.prog X.w) X.A (call (.ref f) us) (EP X pJ σ Q) X.xe s:=by
 have r2:Vals (vs++dvs) (us++ds):=r.append hd
 have hl:(us++ds).length=ps.length:=by rw [<- r2.length];exact F.len _ _ _ _ h
 refine wpAny_call (gm (F.run X.A X.stack s H ⟨us,[]⟩ (us++ds) (vs++dvs) Q E hr I.env0 (hb s us I.kIn hl) r2 h) fun r s' hq=>?_)
 cases r with
 | error e=>exact hx pJ σ H s e s' I hq
 | ok fl=>
  cases fl with
  | ret u=>exact I.after hq
  | next=>exact aJ hq
  | brk=>exact aJ hq
  | cont=>exact aJ hq
theorem zcM (F:FnOk X.prog X.w X.K X.mg X.base CX k f fd ps sp) (hr:Room k X.A) (hg:Gl X x) (hm:X.mg x=some (.ref f)) (hk:W.keepIn X.K (.ref f)=true) (hb:Binds X.K fd ps ds) (hd:Vals dvs ds) (hx:YJ CX X E)
  (ha:PA X (e::es) t) (hdb:(x==("__debug__":Str))=false:=by decide) (he:Ϝ (e::es) X.env=(false,eval e X.env)::Ϝ es X.env:=by rfl) (hpl:(dB pos (Ϝ es X.env)).any (·.1)=false:=by rfl):
  PE X (.Call (.Name x p) (e::es) [] pos) (tCall sp dvs E t):=by
 intro pJ s σ H Q I h
 refine cO (Xe I hg hm ?_ hdb)
 refine W.callWith_K (h₀:=X.base) I.ok.mod.kin hk (thn (ha pos pJ s σ H _ I h) fun us s1 ⟨vs,H1,I1,r,q⟩=>⟨I1.kIn,?_⟩) he hpl
 exact zeE F hr hb hd hx I1 r q
end
def PK (X:Cx) (kws:List bM) (t:TA):Prop:=
 ∀ (pos:Pos) (pJ:List (Addr×Obj)) (s:μ) (σ:St) (H:Hp) (Q:List V->Hp->Prop),Inv X pJ σ H s->t σ H Q->ψ (Ζ X.prog X.w) X.A (evalAll ((cY pos (bf kws X.env)).map (·.2))) (AP X pJ σ Q) X.xe s
section
variable {X:Cx}{CX:CXT}{k:Nat}{f C:Addr}{fd:bJ}{ps ks:List Str}{sp:Sp}{E:XK}{x m:Str}{p pos apos kpos:Pos}{e o:Expr}{es:List Expr}{kws:List bM}{te ta:TE}{t tk:TA}{nm:Option Str}
theorem zeN:PK X [] tNil:=fun _ _ _ _ H Q I h=>wpAny_evalAll_nil ⟨[],H,I,.nil,h⟩
theorem zcG (ha:PE X e te) (hr:PK X kws t):PK X (⟨nm,e,kpos⟩::kws) (tCons te t):=by
 intro pos pJ s σ H Q I h
 show ψ _ _ (evalAll ((do let v <- eval e X.env;standAt pos;pure v)::(cY pos (bf kws X.env)).map (·.2))) _ _ s
 refine wpAny_evalAll_cons (γ (thn (ha pJ s σ H _ I h) fun u s1 ⟨x,H1,I1,r1,q1⟩=>γ (gY (ζ ?_))))
 exact thn (hr pos pJ s1 σ H1 _ I1 q1) fun us s2 ⟨xs,H2,I2,r2,q2⟩=>⟨x::xs,H2,I2,.cons r1 r2,q2⟩
structure Qv (K:W.Frag) (fd:bJ) (ps ks:List Str) (g:List δ->List δ->List δ) (gV:List V->List V->List V):Prop where
 to:∀ (s:μ) (us ws:List δ),K.In s.heap->(g us ws).length=ps.length->BindsTo s fd ⟨us,ks.zip ws⟩ (ps.zip (g us ws))
 rel:∀ {vs:List V}{us:List δ}{zs:List V}{ws:List δ},Vals vs us->Vals zs ws->Vals (gV vs zs) (g us ws)
def zea (sp:Sp) (gV:List V->List V->List V) (E:XK) (t tk:TA):TE:=fun σ H Q=>t σ H fun vs H1=>tk σ H1 fun zs H2=>sp (gV vs zs) H2 Q E
variable {g:List δ->List δ->List δ}{gV:List V->List V->List V}
theorem zcm {pJ:List (Addr×Obj)}{σ:St}{H:Hp}{s:μ}{Q:VK}{us ws:List δ}{vs zs:List V}(F:FnOk X.prog X.w X.K X.mg X.base CX k f fd ps sp) (hr:Room k X.A) (hb:Qv X.K fd ps ks g gV) (hx:YJ CX X E)
  (I:Inv X pJ σ H s) (r:Vals vs us) (rz:Vals zs ws) (h:sp (gV vs zs) H Q E):ψ (Ζ X.prog X.w) X.A (call (.ref f) us (ks.zip ws)) (EP X pJ σ Q) X.xe s:=by
 have r2:=hb.rel r rz
 have hl:(g us ws).length=ps.length:=by rw [<- r2.length];exact F.len _ _ _ _ h
 refine wpAny_call (gm (F.run X.A X.stack s H ⟨us,ks.zip ws⟩ (g us ws) (gV vs zs) Q E hr I.env0 (hb.to s us ws I.kIn hl) r2 h) fun r s' hq=>?_)
 cases r with
 | error e=>exact hx pJ σ H s e s' I hq
 | ok fl=>
  cases fl with
  | ret u=>exact I.after hq
  | next=>exact aJ hq
  | brk=>exact aJ hq
  | cont=>exact aJ hq
end
structure qR (N P:List Str) (sc:dW):Prop where
 kind:sc.kind=.function
 co:sc.isCoroutine=false
 gen:sc.isGenerator=false
 nd:N.Nodup
 pre:N.take P.length=P
 par:∀ x∈P,sc.names.lookup x=some .local\/sc.names.lookup x=some .cell
 nofree:∀ y∈sc.names,y.2≠.free
theorem Yw {kindOf:Str->Option ϰ}{x:Str}:∀ {binds:List (Str×δ)}{m:Str->Option δ},(∀ v,(x,v) ∉ binds)->bindL kindOf binds m x=m x
 | [],_,_=>rfl
 | (n,v)::r,m,h=>by
  unfold bindL
  rw [Yw fun w hw=>h w (ι _ hw)]
  split
  ·have:x≠n:=by rintro rfl;exact h v υ
   simp [this]
  ·rfl
theorem Yy {kindOf:Str->Option ϰ}{x:Str}:∀ {binds:List (Str×δ)}{m:Str->Option δ},(∀ v,(x,v) ∉ binds)->bindC kindOf binds m x=m x
 | [],_,_=>rfl
 | (n,v)::r,m,h=>by
  unfold bindC
  rw [Yy fun w hw=>h w (ι _ hw)]
  split
  ·rfl
  ·have:x≠n:=by rintro rfl;exact h v υ
   simp [this]
theorem Yx {kindOf:Str->Option ϰ}{x:Str}{v:δ}:∀ {P:List Str}{vs:List δ}{i:Nat}{m:Str->Option δ},P.Nodup->P[i]?=some x->vs[i]?=some v->kindOf x=some .local ->
  bindL kindOf (P.zip vs) m x=some v
 | [],_,_,_,_,h,_,_=>by simp at h
 | _::_,[],_,_,_,_,h,_=>by simp at h
 | p::P,w::vs,0,m,nd,h1,h2,hk=>by
  simp at h1 h2;subst h1;subst h2
  show bindL kindOf ((p,w)::P.zip vs) m p=_
  unfold bindL
  rw [Yw fun v hv=>(cH.mp nd).1 (fB hv).1,if_pos hk]
  simp
 | p::P,w::vs,i+1,m,nd,h1,h2,hk=>by
  show bindL kindOf ((p,w)::P.zip vs) m x=_
  unfold bindL
  exact Yx (i:=i) (cH.mp nd).2 (by simpa using h1) (by simpa using h2) hk
theorem Yz {kindOf:Str->Option ϰ}{x:Str}{v:δ}:∀ {P:List Str}{vs:List δ}{i:Nat}{m:Str->Option δ},P.Nodup->P[i]?=some x->vs[i]?=some v->kindOf x≠some .local ->
  bindC kindOf (P.zip vs) m x=some v
 | [],_,_,_,_,h,_,_=>by simp at h
 | _::_,[],_,_,_,_,h,_=>by simp at h
 | p::P,w::vs,0,m,nd,h1,h2,hk=>by
  simp at h1 h2;subst h1;subst h2
  show bindC kindOf ((p,w)::P.zip vs) m p=_
  unfold bindC
  rw [Yy fun v hv=>(cH.mp nd).1 (fB hv).1,if_neg hk]
  simp
 | p::P,w::vs,i+1,m,nd,h1,h2,hk=>by
  show bindC kindOf ((p,w)::P.zip vs) m x=_
  unfold bindC
  exact Yz (i:=i) (cH.mp nd).2 (by simpa using h1) (by simpa using h2) hk
noncomputable def start (N:List Str) (vs:List V):St:=vs.map some++Θ (N.length - vs.length) none
noncomputable def cxOf (CX:CXT) (P:Ν) (w:ϖ) (K:W.Frag) (mg:Str->Option δ) (base:Heap) (N:List Str) (qual:Str) (scope:dW) (f:Addr) (cd:δ) (A:ϗ) (outer:List Env) (s:μ) (H:Hp) (E:XK):Cx where
 prog:=P
 w:=w
 K:=K
 mg:=mg
 base:=base
 A:=A.deeper (my qual scope s.heap.objs.size f cd)
 N:=N
 sy:=s
 Hz:=H
 env:=my qual scope s.heap.objs.size f cd
 outer:=outer
 stack:=my qual scope s.heap.objs.size f cd::outer
 ex:=[]
 calm:=true
 fn:=fun _=>true
 pn:=[]
 xe:=fun e s'=>ψ (Ζ P w) (A.deeper (my qual scope s.heap.objs.size f cd)) (leaving (my qual scope s.heap.objs.size f cd) e) (fun _ s''=>CX outer H s E e s'') (fun e' s''=>CX outer H s E e' s'') s'
theorem qM {sc:dW}{n:Nat}{x:Str}(h:sc.names.lookup x=some .cell):∃ c,(cellsFrom n sc.names []).lookup x=some c:=by
 have q:=W.cellsFrom_some sc.names n [] (.inl h)
 exact m7.mp q
theorem Kv {CX:CXT}{P:Ν}{w:ϖ}{K:W.Frag}{mg:Str->Option δ}{base:Heap}{N ps:List Str}{qual:Str}{scope:dW}{f:Addr}{cd:δ}{A:ϗ}{outer:List Env}{s s1:μ}{H:Hp}{E:XK}{us:List δ}{vs:List V}
  (S:qR N ps scope) (hd:A.handled=none) (e0:Env0 P w K mg base A outer s H) (hl:vs.length=ps.length) (r:Vals vs us)
  (x:InCallC s s.heap.objs.size (bindL (my qual scope s.heap.objs.size f cd).kindOf (ps.zip us) fun _=>none) (cellsFrom (s.heap.objs.size+1) scope.names []) (bindC (my qual scope s.heap.objs.size f cd).kindOf (ps.zip us) fun _=>none) s1):
  Inv (cxOf CX P w K mg base N qual scope f cd A outer s H E) [] (start N vs) H s1:=by
 have hpl:ps.length<=N.length:=by have:=congrArg List.length S.pre;rw [dm] at this;lia
 obtain ⟨h1,tk,rfl,hk⟩:=x.done
 have noA:∀ b:Addr,b ∉ (cxOf CX P w K mg base N qual scope f cd A outer s H E).ex:=fun b z=>absurd (show b∈([]:List Addr) from z) (by simp)
 refine ⟨⟨e0.mod,S.kind,rfl,rfl,ξ _,fun y z c h1 h2=>?_,fun y hy=>?_,fun y c _ h=>?_,fun _=>hd,ϗ.frames_deeper e0.frames,.inr ⟨rfl,rfl⟩,fun b z=>absurd z (noA b),e0.bs,e0.bsz,fun b _ _=>noA b,fun b z=>absurd z (noA b),e0.funs,e0.frf⟩,
  rfl,e0.bare,Un.kept hk,⟨_,x.toInCall.ns,fun i y v h1 h2 h3=>?_⟩,fun y c h=>⟨_,x.cell y c h⟩,e0.hok.fresh (ξ _),fun y c h=>?_,fun p hp=>absurd (show p∈([]:List (Addr×Obj)) from hp) (by simp),e0.hok.kept hk,?_⟩
 ·exact name_of_addr x.apart (bD h1) (bD h2)
 ·have hy:scope.names.lookup y=some .cell\/scope.names.lookup y=some .free:=hy
  rcases hy with hy | hy
  ·exact qM hy
  ·exact absurd rfl (S.nofree _ (bD hy))
 ·exact fQ (x.above y c (bD h))
 ·have hi:i < vs.length:=by
   unfold start at h2
   by_cases hi:i < vs.length
   ·exact hi
   ·rw [ϑ (by simpa using hi)] at h2
    rw [dR] at h2
    split at h2 <;> cases h2
  have ha:vs[i]?=some v:=by
   unfold start at h2
   rw [ώ (by simpa using hi),Δ] at h2
   cases e:vs[i]? with
   | none=>rw [e] at h2;cases h2
   | some a=>rw [e] at h2;cases h2;rfl
  obtain ⟨u,hu,rv⟩:=r.get ha
  have hp:ps[i]?=some y:=by
   rw [<- S.pre,List.getElem?_take_of_lt (by lia)];exact h1
  have ndP:ps.Nodup:=by rw [<- S.pre];exact S.nd.sublist (List.take_sublist _ _)
  refine ⟨u,rv,?_⟩
  rcases S.par y (ϝ hp) with k | k
  ·exact .inl ⟨k,Yx ndP hp hu k⟩
  ·obtain ⟨c,e⟩:=qM (n:=s.heap.objs.size+1) k
   refine .inr ⟨.inl k,c,e,?_⟩
   have q:=x.cell y c e
   rw [Yz ndP hp hu (by show scope.names.lookup y≠_;rw [k];decide)] at q
   exact q
 ·exact e0.hok.fresh (fQ (x.above y c (bD h)))
 ·unfold start
  show _=N.length
  rw [Ο,ν,ir]
  lia
theorem fn_of {CX:CXT}{P:Ν}{w:ϖ}{K:W.Frag}{mg:Str->Option δ}{base:Heap}{k:Nat}{f:Addr}{name qual:Str}{params:Arguments}{body:List Stmt}{scope:dW}{dV kV doc pm cdv ct oc:δ}{an od:Option Addr}
  {osl:Array (Option δ)}{N ps:List Str}{sp:Sp}(lk:K.lookup f=some ⟨oc,od,.func (W.fnOf name qual params body scope dV kV doc pm an cdv ct),osl⟩) (hcd:W.codeIn K cdv qual=true) (S:qR N ps scope)
  (len:∀ vs H Q E,sp vs H Q E->vs.length=ps.length)
  (hbody:∀ (A:ϗ) (outer:List Env) (s:μ) (H:Hp) (vs:List V) (Q:VK) (E:XK),Room k (A.deeper (my qual scope s.heap.objs.size f cdv))->sp vs H Q E ->
   ∃ t,PSs (cxOf CX P w K mg base N qual scope f cdv A outer s H E) body t/\t { nx:=fun _ H'=>Q .non H',rt:=Q } (start N vs) H):
  FnOk P w K mg base CX (k+1) f (W.fnOf name qual params body scope dV kV doc pm an cdv ct) ps sp:=by
 refine ⟨len,fun A outer s H args us vs Q E hr e0 hb r hsp=>?_⟩
 have hl:=len _ _ _ _ hsp
 have KX:K.In s.heap:=e0.mod.kin.keeps fun b o e=>(e0.bs b o e).1
 have lim:s.heap.NoLimit:=e0.mod.nolimit.keeps fun b o e=>(e0.bs b o e).1
 have hkind:∀ y∈ps.zip us,scope.names.lookup y.1=some .local\/(scope.names.lookup y.1=some .cell/\((cellsFrom (s.heap.objs.size+1) scope.names []).lookup y.1).isSome=true):=fun ⟨n,v⟩ hy=>by
  rcases S.par n (fB hy).1 with q | q
  ·exact .inl q
  ·exact .inr ⟨q,W.cellsFrom_some _ _ _ (.inl q)⟩
 refine codeAny_call_function hr.depth (KX _ _ lk) rfl S.co S.gen rfl (W.codeRec_of KX hcd) (hb _ _ _ _ ?_)
 refine wpAny_newFunctionEnv_cells S.kind hkind fun env he s1 x=>?_
 subst he
 refine ⟨lim.keeps x.toInCall.keep,codeAny_func ?_⟩
 obtain ⟨t,ht,hq⟩:=hbody A outer s H vs Q E (hr.deeper _) hsp
 have I:Inv (cxOf CX P w K mg base N qual scope f cdv A outer s H E) [] (start N vs) H s1:=Kv S hr.hd e0 hl r x
 refine bO (ht [] s1 (start N vs) H _ I hq) (fun fl s' hs=>?_) fun e s' hs=>hs
 have fin:∀ {σ':St}{H':Hp}{v:V}{u:δ},Inv (cxOf CX P w K mg base N qual scope f cdv A outer s H E) [] σ' H' s'->RelV v u->Q v H'->CE outer P w H s Q u s':=
  fun {σ' H' v u} J rv q=>⟨v,H',J.os,J.bare,J.base,J.hok,rv,q⟩
 cases fl with
 | ret u=>
  obtain ⟨v,σ',H',J,rv,q⟩:=hs
  exact fin J rv q
 | next=>
  obtain ⟨σ',H',J,q⟩:=hs
  exact fin (v:=V.non) (u:=Ε) J rfl q
 | brk=>
  obtain ⟨_,_,_,q⟩:=hs
  exact aJ q
 | cont=>
  obtain ⟨_,_,_,q⟩:=hs
  exact aJ q
section
variable {X:Cx}{x:Str}{p pos:Pos}{e:Expr}{es:List Expr}{t:TA}{id T:String}{r:List V->Hp->VK->Prop}
def tCB (r:List V->Hp->VK->Prop) (t:TA):TE:=fun σ H Q=>t σ H fun vs H1=>r vs H1 Q
theorem qe (hc:CallR X (.builtin id) r) (hg:Gl X x) (hm:X.mg x=none) (hv:cQ x=some (.builtin id)) (ha:PA X (e::es) t) (hn:x≠"__name__":=by decide) (hdb:(x==("__debug__":Str))=false:=by decide)
  (he:Ϝ (e::es) X.env=(false,eval e X.env)::Ϝ es X.env:=by rfl) (hpl:(dB pos (Ϝ es X.env)).any (·.1)=false:=by rfl):PE X (.Call (.Name x p) (e::es) [] pos) (tCB r t):=by
 intro pJ s σ H Q I h
 refine cO (vh I hg hm hv ?_ hn hdb)
 exact PyProof.Rows.callWith_builtin1 (thn (ha pos pJ s σ H _ I h) fun us s1 ⟨vs,H1,I1,r1,q1⟩=>hc pJ s1 σ H1 vs us Q I1 r1 q1) he hpl
theorem ZD (hc:CallR X (.type T) r) (hg:Gl X x) (hm:X.mg x=none) (hv:cQ x=some (.type T)) (ha:PA X (e::es) t) (hn:x≠"__name__":=by decide) (hdb:(x==("__debug__":Str))=false:=by decide)
  (he:Ϝ (e::es) X.env=(false,eval e X.env)::Ϝ es X.env:=by rfl) (hpl:(dB pos (Ϝ es X.env)).any (·.1)=false:=by rfl):PE X (.Call (.Name x p) (e::es) [] pos) (tCB r t):=by
 intro pJ s σ H Q I h
 refine cO (vh I hg hm hv ?_ hn hdb)
 exact aC (thn (ha pos pJ s σ H _ I h) fun us s1 ⟨vs,H1,I1,r1,q1⟩=>hc pJ s1 σ H1 vs us Q I1 r1 q1) he hpl
end
end L2
namespace HT
open PySem PyProof.Rows
section
open PySem.SeqAt
open PySem.AutoSeq1 (wpAny_loadPart')
open PySem.MeetsSeq PySem.MeetsSeq2 PySem.MeetsSeq3
end
section
variable {prog:Ν}{w:ϖ}{A:ϗ}{E:δ->μ->Prop}{s:μ}
theorem zdL {t b:Addr}{vs ws:List δ}{Q:δ->μ->Prop}(ht:lK s.heap t vs.toArray) (hb:lK s.heap b ws.toArray) (hv:vs≠[])
  (h1:ws=[]->Q (.ref t) s) (h2:ws≠[]->Q (.ref s.heap.objs.size) { s with heap:=s.heap.push { cls:=.type "tuple",data:=.seq (vs++ws).toArray } })
  (hsz:vs.length+ws.length<=sizeLine):ψ (Ζ prog w) A (bQ .Add (.ref t) (.ref b)) Q E s:=by
 obtain ⟨⟨cls,dd,data,sl⟩,ho,hc,n,hd⟩:=id ht
 obtain ⟨⟨cls2,dd2,data2,sl2⟩,ho2,hc2,n2,hd2⟩:=id hb
 simp only at hc hd hc2 hd2
 subst hc hd hc2 hd2
 have e:vs.toArray++ws.toArray=(vs++ws).toArray:=by simp
 by_cases hw:ws=[]
 ·exact pK ⟨_,ho,rfl⟩ ⟨_,ho2,rfl⟩ nu o4 gG gq (f9 _ _)
   (tuple_addW1 t b vs.toArray ws.toArray n n2 dd dd2 sl sl2 (by simpa using hv) (by simp [hw])) ⟨ho,ho2,h1 hw⟩
 ·refine pK ⟨_,ho,rfl⟩ ⟨_,ho2,rfl⟩ nu o4 gG gq (f9 _ _)
   (tuple_addW2 t b vs.toArray ws.toArray n n2 dd dd2 sl sl2 (by simpa using hv) (by simpa using hw) (by rw [ο,ο];exact hsz)) ⟨ho,ho2,?_⟩
  rw [e]
  exact h2 hw
noncomputable def sIx (n d:Nat):Option Int->Nat
 | none=>d
 | some v=>if v < 0 then (v+(n:Int)).toNat else min v.toNat n
theorem QW (n d:Nat):sIx n d none=d:=rfl
theorem zeD (n d:Nat) (hd:d<=n) (o:Option Int):sIx n d o<=n:=by
 cases o with
 | none=>exact hd
 | some v=>
  show (if v < 0 then (v+(n:Int)).toNat else min v.toNat n)<=n
  by_cases hv:v < 0
  ·rw [if_pos hv];omega
  ·rw [if_neg hv];exact Nat.min_le_right _ _
theorem Qc (v:Int) (n d:Nat):(if v < 0 then max (v+(n:Int)) 0 else min v (n:Int))=((sIx n d (some v):Nat):Int):=by
 show (if v < 0 then max (v+(n:Int)) 0 else min v (n:Int))=(((if v < 0 then (v+(n:Int)).toNat else min v.toNat n):Nat):Int)
 by_cases hv:v < 0
 ·simp only [if_pos hv];omega
 ·simp only [if_neg hv];omega
theorem Ug (lo hi:Option Int) (n:Nat):eY lo hi 1 (n:Int)=(((sIx n 0 lo:Nat):Int),((sIx n n hi:Nat):Int)):=by
 have h1:¬ ((1:Int) < 0):=by omega
 unfold eY
 simp only [h1,if_false]
 refine Prod.ext ?_ ?_
 ·cases lo with
  | none=>rfl
  | some v=>exact Qc v n 0
 ·cases hi with
  | none=>rfl
  | some v=>exact Qc v n n
theorem VP (i j:Nat):cI (i:Int) (j:Int) 1=j - i:=by
 unfold cI
 have h1:(1:Int) > 0:=by omega
 simp only [h1,if_true,Int.ediv_one]
 split <;> omega
theorem jt {v:δ}{o:Option Int}{Q:Option Int->μ->Prop}(p:iT v o) (h:Q o s):ψ (Ζ prog w) A (Β.Slice.slicePartIndex v) Q E s:=by
 cases p with
 | none=>exact slicePart_none h
 | int i t=>exact slicePart_int h
theorem yt {sl:Addr}{vl vu:δ}{lo hi:Option Int}{n:Nat}{Q:Int×Int×Nat->μ->Prop}(hs:s.heap.IsSliceOf sl vl vu .none) (pl:iT vl lo) (pu:iT vu hi)
  (h:Q (((sIx n 0 lo:Nat):Int),1,sIx n n hi - sIx n 0 lo) s):ψ (Ζ prog w) A (lu (.ref sl) (pure (n:Int))) Q E s:=by
 obtain ⟨os,hos,hcs,hds⟩:=id hs
 unfold lu Β.Slice.sliceFields
 refine γ (γ (aG hos hds (x:=vl) rfl (γ (aG hos hds (x:=vu) rfl (γ (aG hos hds (x:=.none) rfl (ζ ?_)))))))
 refine γ (slicePart_none ?_)
 show ψ _ _ (if ((1:Int)==0)=true then _ else _) _ _ s
 rw [if_neg (by decide)]
 refine γ (jt pl (γ (jt pu (γ (ζ ?_)))))
 show ψ _ _ (match eY lo hi 1 (n:Int) with | (lo,hi)=>pure (lo,(1:Int),cI lo hi 1)) _ _ s
 rw [Ug lo hi n]
 show ψ _ _ (pure (((sIx n 0 lo:Nat):Int),(1:Int),cI ((sIx n 0 lo:Nat):Int) ((sIx n n hi:Nat):Int) 1)) _ _ s
 rw [VP]
 exact ζ h
theorem zaa (xs:Array δ) (i k:Nat):((Η k).filterMap fun (m:Nat)=>xs[((i:Int)+(m:Int)*1).toNat]?).toArray=((xs.toList.drop i).take k).toArray:=by
 have e:(fun (m:Nat)=>xs[((i:Int)+(m:Int)*1).toNat]?)=fun m=>xs[i+m]?:=by
  funext m
  have:((i:Int)+(m:Int)*1).toNat=i+m:=by omega
  rw [this]
 rw [e]
 have:=pick_run xs i k
 rw [List.filterMap_map] at this
 have e2:((fun x=>xs[x]?)∘fun x=>i+x)=fun m=>xs[i+m]?:=rfl
 rw [e2] at this
 rw [this]
theorem wM {t sl:Addr}{items:Array δ}{vl vu:δ}{lo hi:Option Int}{Q:δ->μ->Prop}(ht:lK s.heap t items) (hs:s.heap.IsSliceOf sl vl vu .none) (pl:iT vl lo) (pu:iT vu hi)
  (hw:¬ (sIx items.size 0 lo=0/\sIx items.size items.size hi=items.size))
  (h:Q (.ref s.heap.objs.size) { s with heap:=s.heap.push { cls:=.type "tuple",data:=.seq ((items.toList.drop (sIx items.size 0 lo)).take (sIx items.size items.size hi - sIx items.size 0 lo)).toArray } })
  (hsz:items.size<=sizeLine):ψ (Ζ prog w) A (lN (.ref t) (.ref sl)) Q E s:=by
 have htake:sizeOk (.seq ((items.toList.drop (sIx items.size 0 lo)).take (sIx items.size items.size hi - sIx items.size 0 lo)).toArray):=by
  show ((items.toList.drop (sIx items.size 0 lo)).take (sIx items.size items.size hi - sIx items.size 0 lo)).toArray.size<=sizeLine
  rw [ο,dm,dq,Τ]
  omega
 have hj:sIx items.size items.size hi<=items.size:=zeD _ _ (ξ _) hi
 obtain ⟨os,hos,hcs,hds⟩:=id hs
 have hTs:s.TypeIs (.ref sl) "slice":=⟨os,hos,hcs⟩
 unfold lN
 try with_reducible refine Ϥ ?_
 first | refine γ (ζ ?_) | skip
 refine γ (wpAny_sequenceKey ht.typeIs (by decide) ?_)
 refine γ (ϙ (name:=cD "__getitem__") ht.typeIs ϭ
  (ϒ ϭ ht.typeIs entry_tuple_getitem ?_ (args_tuple_getitem _ _)))
 show ψ _ _ (lr (.ref t) >>= _) _ _ s
 refine γ (tupleItemsOf_ ht ?_)
 refine γ (bL hTs ?_)
 rw [if_pos (by decide)]
 refine γ (yt hs pl pu ?_)
 have hno:¬ ((((sIx items.size 0 lo:Nat):Int)==0&&(1:Int)==1&&(sIx items.size items.size hi - sIx items.size 0 lo)==items.size)=true):=by
  intro q
  rw [ε,ε] at q
  have q1:((sIx items.size 0 lo:Nat):Int)=0:=eq_of_beq q.1.1
  have q2:sIx items.size items.size hi - sIx items.size 0 lo=items.size:=eq_of_beq q.2
  exact hw ⟨by omega,by omega⟩
 show ψ _ _ (if (((sIx items.size 0 lo:Nat):Int)==0&&(1:Int)==1&&(sIx items.size items.size hi - sIx items.size 0 lo)==items.size)=true then _ else _) _ _ s
 rw [if_neg hno,zaa]
 first
  | exact γ (m:=aV _) (Χ (ζ ⟨_,rfl,ζ h⟩) htake)
  | exact γ (m:=aV _) (Χ (γ (ζ (ζ ⟨_,rfl,ζ h⟩))) htake)
  | exact γ (γ (m:=aV _) (Χ (ζ (ζ ⟨_,rfl,ζ h⟩)) htake))
  | exact γ (γ (m:=aV _) (Χ (ζ ⟨_,rfl,ζ h⟩) htake))
end
end HT
namespace L2
open PySem PySem.Spec PyProof.Rows
abbrev TO:=St->Hp->(Option Int->Hp->Prop)->Prop
def PO (X:Cx) (e:Option Expr) (t:TO):Prop:=
 ∀ (pJ:List (Addr×Obj)) (s:μ) (σ:St) (H:Hp) (Q:Option Int->Hp->Prop),Inv X pJ σ H s->t σ H Q ->
  ψ (Ζ X.prog X.w) X.A (evalPart e X.env) (fun u s'=>∃ o H',Inv X pJ σ H' s'/\iT u o/\Q o H') X.xe s
def zb3:TO:=fun _ H Q=>Q none H
def tPart (t:TE):TO:=fun σ H Q=>t σ H fun x H1=>∃ i,x=.int i/\Q (some i) H1
section
variable {X:Cx}{e:Expr}{te:TE}{lo hi:Option Expr}{tl th:TO}{pos p2:Pos}
theorem zcF:PO X none zb3:=by
 intro pJ s σ H Q I h
 rw [evalPart_none]
 exact ζ ⟨none,H,I,.none,h⟩
theorem zcE (h:PE X e te):PO X (some e) (tPart te):=by
 intro pJ s σ H Q I hw
 rw [evalPart_some]
 refine thn (h pJ s σ H _ I hw) fun u s1 ⟨x,H1,I1,r1,q1⟩=>?_
 obtain ⟨i,rfl,q⟩:=q1
 obtain ⟨t,rfl⟩:=r1
 exact ⟨some i,H1,I1,.int i t,q⟩
def SlR (X:Cx) (r:V->Option Int->Option Int->Hp->VK->Prop):Prop:=
 ∀ (pJ:List (Addr×Obj)) (s:μ) (σ:St) (H:Hp) (x:V) (v vl vu:δ) (lo hi:Option Int) (sl:Addr) (Q:VK),Inv X pJ σ H s->RelV x v->s.heap.IsSliceOf sl vl vu .none->iT vl lo->iT vu hi->r x lo hi H Q ->
  ∃ T id,mq (.type T) "__getitem__"=pure (some (.builtin id))/\s.TypeIs v T/\ψ (Ζ X.prog X.w) X.A (lN v (.ref sl)) (EP X pJ σ Q) X.xe s
theorem SlR.or {r r':V->Option Int->Option Int->Hp->VK->Prop}(h:SlR X r) (h':SlR X r'):SlR X (fun x lo hi H Q=>r x lo hi H Q\/r' x lo hi H Q):=by
 intro pJ s σ H x v vl vu lo hi sl Q I rx hs pl pu q
 rcases q with q | q
 ·exact h pJ s σ H x v vl vu lo hi sl Q I rx hs pl pu q
 ·exact h' pJ s σ H x v vl vu lo hi sl Q I rx hs pl pu q
def tSl (r:V->Option Int->Option Int->Hp->VK->Prop) (te:TE) (tl th:TO):TE:=fun σ H Q=>te σ H fun x H1=>tl σ H1 fun l H2=>th σ H2 fun u H3=>r x l u H3 Q
theorem zad {r:V->Option Int->Option Int->Hp->VK->Prop}(hr:SlR X r) (he:PE X e te) (hl:PO X lo tl) (hu:PO X hi th):PE X (.Subscript e (.Slice lo hi none p2) pos) (tSl r te tl th):=by
 intro pJ s σ H Q I h
 refine Subscript_ (thn (he pJ s σ H _ I h) fun v s1 ⟨x,H1,I1,r1,q1⟩=>?_)
 refine wpAny_Slice (thn (hl pJ s1 σ H1 _ I1 q1) fun vl s2 ⟨l,H2,I2,pl,q2⟩=>thn (hu pJ s2 σ H2 _ I2 q2) fun vu s3 ⟨u,H3,I3,pu,q3⟩=>?_)
 rw [evalPart_none]
 refine ζ ?_
 have I4:Inv X pJ σ H3 { s3 with heap:=s3.heap.push { cls:=.type "slice",data:=.fields #[vl,vu,.none] } }:=I3.kept (t':=s3.toks) fun b ob q=>η _ q
 obtain ⟨T,id,hT,ht,hg⟩:=hr pJ { s3 with heap:=s3.heap.push { cls:=.type "slice",data:=.fields #[vl,vu,.none] } } σ H3 x v vl vu l u s3.heap.objs.size Q I4 r1 (Heap.IsSliceOf.new ..) pl pu q3
 show ψ (Ζ X.prog X.w) X.A (subscriptTail e (.Slice lo hi none p2) v (.ref s3.heap.objs.size)) (EP X pJ σ Q) X.xe { s3 with heap:=s3.heap.push { cls:=.type "slice",data:=.fields #[vl,vu,.none] } }
 exact tail_any (ops:=[.ref s3.heap.objs.size,v]) ht hT hg (by with_unfolding_all rfl)
noncomputable def cutV (xs:List V) (lo hi:Option Int):List V:=(xs.drop (HT.sIx xs.length 0 lo)).take (HT.sIx xs.length xs.length hi - HT.sIx xs.length 0 lo)
theorem uU (xs:List V) (lo hi:Option Int):(cutV xs lo hi).length<=xs.length:=by
 unfold cutV
 rw [dm,dq]
 lia
def rSlT (K:W.Frag):V->Option Int->Option Int->Hp->VK->Prop:=fun x lo hi H Q=>∃ a xs,x=.ref a/\SqT K H a xs /\
 ¬ (HT.sIx xs.length 0 lo=0/\HT.sIx xs.length xs.length hi=xs.length)/\∀ p,H p=none->Q (.ref p) (upd H p (.tup (cutV xs lo hi)))
theorem zee:SlR X (rSlT X.K):=by
 intro pJ s σ H x v vl vu lo hi sl Q I rx hs pl pu h
 obtain ⟨a,xs,rfl,hx,hw,q⟩:=h
 cases rx
 obtain ⟨its,r,ht,hz⟩:=I.tuple hx
 have hlen:its.toArray.size=xs.length:=by rw [ο];exact r.length.symm
 refine ⟨"tuple",_,ϭ.lookup,ht.typeIs,?_⟩
 refine HT.wM ht hs pl pu (by rw [hlen];exact hw) ?_ (by rw [hlen];exact hz)
 rw [hlen]
 refine ⟨.ref s.heap.objs.size,_,I.laid (t':=s.toks) (o:=.tup (cutV xs lo hi)) (fun b ob q=>η _ q) (ξ _) ?_,rfl,q _ (I.hok.fresh (ξ _))⟩
 exact ⟨Ϫ (uU xs lo hi) hz,_,(r.drop (HT.sIx xs.length 0 lo)).take (HT.sIx xs.length xs.length hi - HT.sIx xs.length 0 lo),lK.new _ _⟩
def rCatT (K:W.Frag):R2:=fun x y H Q=>∃ a b xs ys,x=.ref a/\y=.ref b/\SqT K H a xs/\SqT K H b ys/\xs≠[]/\xs.length+ys.length<=sizeLine /\
 (ys=[]->Q (.ref a) H)/\(ys≠[]->∀ p,H p=none->Q (.ref p) (upd H p (.tup (xs++ys))))
theorem Vals.Xa {xs:List V}{us:List δ}(r:Vals xs us):us=[] ↔ xs=[]:=by
 cases r with
 | nil=>simp
 | cons _ _=>simp
theorem zcT:OpR X (bQ .Add) (rCatT X.K):=by
 intro pJ s σ H x y v u Q I rx ry h
 obtain ⟨a,b,xs,ys,rfl,rfl,ha,hb,hx,hz,q1,q2⟩:=h
 cases rx
 cases ry
 obtain ⟨its,r1,p1,_⟩:=I.tuple ha
 obtain ⟨its2,r2,p2,_⟩:=I.tuple hb
 refine HT.zdL p1 p2 (fun z=>hx (r1.Xa.mp z)) (fun z=>⟨.ref a,H,I,rfl,q1 (r2.Xa.mp z)⟩) (fun z=>?_) (by rw [<- r1.length,<- r2.length];exact hz)
 refine ⟨.ref s.heap.objs.size,_,I.laid (t':=s.toks) (o:=.tup (xs++ys)) (fun b ob q=>η _ q) (ξ _) ?_,rfl,q2 (fun w=>z (r2.Xa.mpr w)) _ (I.hok.fresh (ξ _))⟩
 exact ⟨by rw [Ο];exact hz,_,r1.append r2,lK.new _ _⟩
end
noncomputable def ixN (n:Nat) (i:Int):Option Nat:=if 0<=i then (if i < n then some i.toNat else none) else if -(n:Int)<=i then some (i+n).toNat else none
noncomputable def atI {α:Type}(xs:List α) (i:Int):Option α:=(ixN xs.length i).bind fun j=>xs[j]?
theorem Kl {n:Nat}{i:Int}{j:Nat}(h:ixN n i=some j):seqIndex? i n=some j/\j < n/\-(n:Int)<=i/\i < n:=by
 unfold ixN at h
 by_cases h0:0<=i
 ·rw [if_pos h0] at h
  by_cases h1:i < n
  ·rw [if_pos h1] at h
   have e:i.toNat=j:=ϔ h
   exact ⟨by rw [seqIndex_of h0 h1,e],by lia,by lia,h1⟩
  ·rw [if_neg h1] at h;cases h
 ·rw [if_neg h0] at h
  by_cases h1:-(n:Int)<=i
  ·rw [if_pos h1] at h
   have e:(i+n).toNat=j:=ϔ h
   exact ⟨by rw [seqIndex_neg (by lia) h1,e],by lia,h1,by lia⟩
  ·rw [if_neg h1] at h;cases h
theorem XM {α:Type}{xs:List α}{i:Int}{v:α}(h:atI xs i=some v):∃ j,seqIndex? i xs.length=some j/\xs[j]?=some v/\j < xs.length/\-(xs.length:Int)<=i/\i < xs.length:=by
 unfold atI at h
 cases e:ixN xs.length i with
 | none=>rw [e] at h;cases h
 | some j=>
  rw [e] at h
  obtain ⟨h1,h2,h3,h4⟩:=Kl e
  exact ⟨j,h1,h,h2,h3,h4⟩
def XN (b:Expr):Prop:=∀ o i,subscripted b false o i=operate [o,i] (lN o i)
def IxR (X:Cx) (r:R2):Prop:=
 ∀ (value slice:Expr) (pJ:List (Addr×Obj)) (s:μ) (σ:St) (H:Hp) (x y:V) (v u:δ) (Q:VK),Inv X pJ σ H s->RelV x v->RelV y u->r x y H Q ->
  subscripted slice false v u=operate [v,u] (lN v u)->ψ (Ζ X.prog X.w) X.A (subscriptTail value slice v u) (EP X pJ σ Q) X.xe s
def MtR (X:Cx) (id:String) (r:V->List V->Hp->VK->Prop):Prop:=
 ∀ (pJ:List (Addr×Obj)) (s:μ) (σ:St) (H:Hp) (x:V) (xs:List V) (v:δ) (us:List δ) (Q:VK),Inv X pJ σ H s->RelV x v->Vals xs us->r x xs H Q ->
  ψ (Ζ X.prog X.w) X.A (call (.builtin id) (v::us)) (EP X pJ σ Q) X.xe s
section
variable {X:Cx}{a b:Expr}{ta tb:TE}{pos:Pos}
theorem IxR.or {r r':R2}(h:IxR X r) (h':IxR X r'):IxR X (fun x y H Q=>r x y H Q\/r' x y H Q):=by
 intro value slice pJ s σ H x y v u Q I rx ry q hs
 rcases q with q | q
 ·exact h value slice pJ s σ H x y v u Q I rx ry q hs
 ·exact h' value slice pJ s σ H x y v u Q I rx ry q hs
theorem MtR.or {id:String}{r r':V->List V->Hp->VK->Prop}(h:MtR X id r) (h':MtR X id r'):MtR X id (fun x xs H Q=>r x xs H Q\/r' x xs H Q):=by
 intro pJ s σ H x xs v us Q I rx rs q
 rcases q with q | q
 ·exact h pJ s σ H x xs v us Q I rx rs q
 ·exact h' pJ s σ H x xs v us Q I rx rs q
theorem pe_ix {r:R2}(hr:IxR X r) (ha:PE X a ta) (hb:PE X b tb) (hs:XN b):PE X (.Subscript a b pos) (tOp r ta tb):=by
 intro pJ s σ H Q I h
 exact Subscript_ (binT ha hb I h fun v u s2 x y H2 I2 rx ry q=>hr a b pJ s2 σ H2 x y v u Q I2 rx ry q (hs _ _))
def rIxL (K:W.Frag):R2:=fun x y H Q=>∃ p xs i v,x=.ref p/\y=.int i/\SqL K H p xs/\atI xs i=some v/\Q v H
def rIxT (K:W.Frag):R2:=fun x y H Q=>∃ p xs i v,x=.ref p/\y=.int i/\SqT K H p xs/\atI xs i=some v/\Q v H
def rIxS:R2:=fun x y H Q=>∃ z i c,x=.str z/\y=.int i/\z.length<=sizeLine/\atI z.cps.toList i=some c/\Q (.str ⟨#[c]⟩) H
theorem Kh:IxR X (rIxL X.K):=by
 intro value slice pJ s σ H x y v u Q I rx ry h hs
 obtain ⟨p,xs,i,z,rfl,rfl,hq,he,q⟩:=h
 cases rx
 obtain ⟨t,rfl⟩:=ry
 obtain ⟨its,r,pl,hz⟩:=I.list hq
 obtain ⟨j,h1,h2,h3,h4,h5⟩:=XM he
 obtain ⟨w,ew,rw'⟩:=r.get h2
 have hl:=r.length
 have hn:=jG
 have fin:EP X pJ σ Q w s:=⟨z,H,I,rw',q⟩
 by_cases h0:0<=i
 ·have hj:i.toNat=j:=by
   rw [seqIndex_of h0 h5] at h1
   exact ϔ h1
  exact item_listR pl.isList h0 (by lia) (by rw [hj];simpa using ew) fin hs
 ·have hj:(i+(its.toArray.size:Int)).toNat=j:=by
   rw [seqIndex_neg (by lia) h4] at h1
   rw [ο,<- hl]
   exact ϔ h1
  exact pF (x:=w) pl.isList.typeIs slot_list_getitem.lookup
   (wpAny_getItem_list_neg (Q:=fun r s'=>r=w/\EP X pJ σ Q r s') pl.isList (by lia) (by rw [ο] <;> lia) (by lia) (by rw [hj];simpa using ew) ⟨rfl,fin⟩) hs
theorem zfs:IxR X (rIxT X.K):=by
 intro value slice pJ s σ H x y v u Q I rx ry h hs
 obtain ⟨p,xs,i,z,rfl,rfl,hq,he,q⟩:=h
 cases rx
 obtain ⟨t,rfl⟩:=ry
 obtain ⟨its,r,pl,hz⟩:=I.tuple hq
 obtain ⟨j,h1,h2,h3,h4,h5⟩:=XM he
 obtain ⟨w,ew,rw'⟩:=r.get h2
 have hl:=r.length
 have hn:=jG
 have fin:EP X pJ σ Q w s:=⟨z,H,I,rw',q⟩
 exact pF (x:=w) pl.typeIs slot_tuple_getitem.lookup
  (getItem_tuple (j:=j) (Q:=fun r s'=>r=w/\EP X pJ σ Q r s') pl (by lia) (by lia) (by rw [ο,<- hl];exact h1) (by simpa using ew) ⟨rfl,fin⟩) hs
theorem zft:IxR X rIxS:=by
 intro value slice pJ s σ H x y v u Q I rx ry h hs
 obtain ⟨z,i,c,rfl,rfl,hz,he,q⟩:=h
 obtain ⟨t,rfl⟩:=rx
 obtain ⟨t',rfl⟩:=ry
 obtain ⟨j,h1,h2,h3,h4,h5⟩:=XM he
 have hl:z.cps.toList.length=z.length:=by simp [Str.length]
 rw [hl] at h1 h4 h5
 have hn:=jG
 exact tail_any (typeIs_str s z t) slot_str_getitem.lookup (getItem_str (c:=c) (by
  have e1:decide (i < -(2 ^ 63:Int))=false:=decide_eq_false (by lia)
  have e2:decide (i >= 2 ^ 63)=false:=decide_eq_false (by lia)
  rw [e1,e2,Bool.or_false]) (by rw [h1];simpa using h2) ⟨.str ⟨#[c]⟩,H,I.tok _,⟨_,rfl⟩,q⟩) hs
theorem V2 (its:List δ) (n j:Nat) (u:δ):ϯ (·.setIfInBounds j u) { cls:=.type "list",data:=.seq its.toArray n }={ cls:=.type "list",data:=.seq (its.set j u).toArray n }:=by
 simp [ϯ]
theorem Inv.lst {pJ:List (Addr×Obj)}{σ:St}{H:Hp}{s:μ}{p:Addr}{xs:List V}(I:Inv X pJ σ H s) (h:H p=some (.lst xs)):
  ∃ (its:List δ) (n:Nat),Vals xs its/\s.heap.get? p=some { cls:=.type "list",data:=.seq its.toArray n }/\xs.length<=sizeLine:=by
 obtain ⟨z,its,n,r,e⟩:=I.hok p _ h
 exact ⟨its,n,r,e,z⟩
theorem Inv.zfi {pJ:List (Addr×Obj)}{σ:St}{H:Hp}{s:μ}{p:Addr}{xs ys:List V}{its its':List δ}{n n':Nat}{f:Obj->Obj}(I:Inv X pJ σ H s) (h:H p=some (.lst xs))
  (ho:s.heap.get? p=some { cls:=.type "list",data:=.seq its.toArray n }) (hf:f { cls:=.type "list",data:=.seq its.toArray n }={ cls:=.type "list",data:=.seq its'.toArray n' }) (r:Vals ys its') (hz:ys.length<=sizeLine) (t:Nat):
  Inv X pJ σ (upd H p (.lst ys)) { s with heap:=s.heap.update p f,toks:=t }:=by
 have e:(s.heap.update p f).get? p=some { cls:=.type "list",data:=.seq its'.toArray n' }:=by
  rw [aZ f ho (by rw [hf] <;> rfl),hf]
 refine I.write (x:=p) (e:=p) (by rw [h];trivial) (.inl rfl) (fun b u hb q=>(oG _ _ (gJ hb)).trans q) ⟨_,e⟩ ?_
 exact ⟨hz,its',n',r,e⟩
def rSetL:V->V->V->Hp->(Hp->Prop)->Prop:=fun o i v H Q=>∃ p xs k j,o=.ref p/\i=.int k/\H p=some (.lst xs)/\ixN xs.length k=some j/\Q (upd H p (.lst (xs.set j v)))
theorem set_list:PSet X rSetL:=by
 intro pJ s σ H o i v ov iv u Q I ro ri rv h
 obtain ⟨p,xs,k,j,rfl,rfl,hp,hj,q⟩:=h
 cases ro
 obtain ⟨t,rfl⟩:=ri
 obtain ⟨its,n,r,ho,hz⟩:=I.lst hp
 obtain ⟨h1,h2,h3,h4⟩:=Kl hj
 have hl:=r.length
 have hn:=jG
 have I':Inv X pJ σ (upd H p (.lst (xs.set j v))) { s with heap:=s.heap.update p (ϯ (·.setIfInBounds j u)) }:=
  I.zfi hp ho (V2 its n j u) (r.set rv j) (by rw [bT];exact hz) s.toks
 by_cases h0:0<=k
 ·have hk:k.toNat=j:=by
   rw [seqIndex_of h0 h4] at h1
   exact ϔ h1
  exact W.ki_setAt ho h0 (by lia) (by rw [ο,<- hl];exact h4) (by rw [hk];exact ⟨_,I',q⟩)
 ·have hk:(k+(its.toArray.size:Int)).toNat=j:=by
   rw [seqIndex_neg (by lia) h3] at h1
   rw [ο,<- hl]
   exact ϔ h1
  exact W.ki_setBack ho (by lia) (by rw [ο,<- hl];exact h3) (by lia) (by rw [hk];exact ⟨_,I',q⟩)
theorem Zg (lo hi:Option Int) (n:Nat):(fP lo hi none n).1=((HT.sIx n 0 lo:Nat):Int)/\(fP lo hi none n).2.1=((HT.sIx n n hi:Nat):Int)/\(fP lo hi none n).2.2=1:=by
 refine ⟨?_,?_,rfl⟩
 ·cases lo with
  | none=>simp [fP,HT.sIx]
  | some i=>
   simp only [fP,HT.sIx,ph,show (1:Int) > 0 by decide,if_true]
   by_cases h:i < 0
   ·simp only [h,if_true] <;> lia
   ·simp only [h,if_false] <;> lia
 ·cases hi with
  | none=>simp [fP,HT.sIx]
  | some i=>
   simp only [fP,HT.sIx,ph,show (1:Int) > 0 by decide,if_true]
   by_cases h:i < 0
   ·simp only [h,if_true] <;> lia
   ·simp only [h,if_false] <;> lia
theorem kO (its:List δ) (lo hi:Option Int):slicePick its.toArray lo hi none=((its.drop (HT.sIx its.length 0 lo)).take (HT.sIx its.length its.length hi - HT.sIx its.length 0 lo)).toArray:=by
 obtain ⟨h1,h2,h3⟩:=Zg lo hi its.toArray.size
 unfold slicePick
 rw [h1,h2,h3]
 simp only [sliceRange_one,pick_run,ο] <;> rfl
def rSlL (K:W.Frag):V->Option Int->Option Int->Hp->VK->Prop:=fun x lo hi H Q=>∃ a xs,x=.ref a/\SqL K H a xs/\∀ p,H p=none->Q (.ref p) (upd H p (.lst (cutV xs lo hi)))
theorem Ja:SlR X (rSlL X.K):=by
 intro pJ s σ H x v vl vu lo hi sl Q I rx hs pl pu h
 obtain ⟨a,xs,rfl,hx,q⟩:=h
 cases rx
 obtain ⟨its,r,ht,hz⟩:=I.list hx
 have hlen:=r.length
 refine ⟨"list",_,slot_list_getitem.lookup,ht.isList.typeIs,?_⟩
 refine wpAny_getItem_list_slice ht.isList hs pl pu .none (by simp) ?_ (by rw [ο] <;> lia)
 rw [kO,<- hlen]
 refine ⟨.ref s.heap.objs.size,_,I.laid (t':=s.toks) (o:=.lst (cutV xs lo hi)) (fun b ob q=>η _ q) (ξ _) ?_,rfl,q _ (I.hok.fresh (ξ _))⟩
 exact ⟨Ϫ (uU xs lo hi) hz,_,0,(r.drop (HT.sIx xs.length 0 lo)).take (HT.sIx xs.length xs.length hi - HT.sIx xs.length 0 lo),ς _ rfl⟩
noncomputable def flatV:V->Bool
 | .non=>true
 | .bl _=>true
 | .int _=>true
 | .str _=>true
 | _=>false
noncomputable def eqV:V->V->Bool
 | .non,.non=>true
 | .bl a,.bl b=>a==b
 | .bl a,.int b=>(if a then 1 else 0)==b
 | .int a,.bl b=>a==(if b then 1 else 0)
 | .int a,.int b=>a==b
 | .str a,.str b=>a==b
 | _,_=>false
theorem zbK {A:ϗ}{s:μ}{y x:V}{u v:δ}(ry:RelV y u) (rx:RelV x v) (fy:flatV y=true) (fx:flatV x=true):ϴ A s u v (eqV y x):=by
 cases y with
 | non=>
  cases ry
  cases x with
  | non=>cases rx;exact ϴ.same _
  | bl b=>cases rx;exact ϴ.none_bool b
  | int b=>obtain ⟨t,rfl⟩:=rx;exact ϴ.none_int b t
  | str b=>obtain ⟨t,rfl⟩:=rx;exact ϴ.none_str b t
  | _=>exact absurd (show false=true from fx) Μ
 | bl a=>
  cases ry
  cases x with
  | non=>cases rx;exact ϴ.bool_none a
  | bl b=>cases rx;exact ϴ.bool_bool a b
  | int b=>obtain ⟨t,rfl⟩:=rx;exact ϴ.bool_int a b t
  | str b=>obtain ⟨t,rfl⟩:=rx;exact ϴ.bool_str a b t
  | _=>exact absurd (show false=true from fx) Μ
 | int a=>
  obtain ⟨t',rfl⟩:=ry
  cases x with
  | non=>cases rx;exact ϴ.int_none a t'
  | bl b=>cases rx;exact ϴ.int_bool a t' b
  | int b=>obtain ⟨t,rfl⟩:=rx;exact ϴ.int_int a t' b t
  | str b=>obtain ⟨t,rfl⟩:=rx;exact nJ a t' b t
  | _=>exact absurd (show false=true from fx) Μ
 | str a=>
  obtain ⟨t',rfl⟩:=ry
  cases x with
  | non=>cases rx;exact ϴ.str_none a t'
  | bl b=>cases rx;exact ϴ.str_bool a t' b
  | int b=>obtain ⟨t,rfl⟩:=rx;exact nH a t' b t
  | str b=>obtain ⟨t,rfl⟩:=rx;exact ϴ.str_str a t' b t
  | _=>exact absurd (show false=true from fx) Μ
 | _=>exact absurd (show false=true from fy) Μ
theorem ZF:OpR X (ϊ .NotIn) (fun x y H Q=>∃ i j,x=.str i/\y=.str j/\Q (.bl (!(!(fU j i 0 j.length 1).isEmpty))) H):=by
 intro pJ s σ H x y v u Q I rx ry h
 obtain ⟨i,j,rfl,rfl,q⟩:=h
 obtain ⟨t,rfl⟩:=rx
 obtain ⟨t',rfl⟩:=ry
 exact notIn_str ⟨.bl _,H,I,rfl,q⟩
theorem yN:CallR X (.builtin "len") (fun xs H Q=>∃ p ys,xs=[.ref p]/\(SqL X.K H p ys\/SqT X.K H p ys)/\Q (.int ys.length) H):=by
 intro pJ s σ H xs us Q I r h
 obtain ⟨p,ys,rfl,hq,q⟩:=h
 obtain ⟨u,rfl,rx⟩:=vals1 r
 cases rx
 have hn:=jG
 rcases hq with hq | hq
 ·obtain ⟨its,r',pl,hz⟩:=I.list hq
  have hlen:=r'.length
  exact Calls.call_len_list pl.isList (by simp only [ο] <;> lia) ⟨.int ys.length,H,I.tok _,⟨s.toks+1,by rw [ο,hlen]⟩,q⟩
 ·obtain ⟨its,r',pl,hz⟩:=I.tuple hq
  have hlen:=r'.length
  exact len_tuple pl (by simp only [ο] <;> lia) ⟨.int ys.length,H,I.tok _,⟨s.toks+1,by rw [ο,hlen]⟩,q⟩
theorem Yt:CallR X (.builtin "len") (fun xs H Q=>∃ z,xs=[.str z]/\z.length<=sizeLine/\Q (.int z.length) H):=by
 intro pJ s σ H xs us Q I r h
 obtain ⟨z,rfl,hz,q⟩:=h
 obtain ⟨u,rfl,t,rfl⟩:=vals1 r
 have hn:=jG
 exact len_str (by lia) ⟨.int z.length,H,I.tok _,⟨_,rfl⟩,q⟩
theorem CallR.or {f:δ}{r r':List V->Hp->VK->Prop}(h:CallR X f r) (h':CallR X f r'):CallR X f (fun xs H Q=>r xs H Q\/r' xs H Q):=by
 intro pJ s σ H xs us Q I rs q
 rcases q with q | q
 ·exact h pJ s σ H xs us Q I rs q
 ·exact h' pJ s σ H xs us Q I rs q
theorem zbM:CallR X (.type "list") (fun xs H Q=>∃ p ys,xs=[.ref p]/\(SqL X.K H p ys\/SqT X.K H p ys)/\∀ l,H l=none->Q (.ref l) (upd H l (.lst ys))):=by
 intro pJ s σ H xs us Q I r h
 obtain ⟨p,ys,rfl,hq,q⟩:=h
 obtain ⟨u,rfl,rx⟩:=vals1 r
 cases rx
 have fin:∀ (its:List δ),Vals ys its->ys.length<=sizeLine->∀ (h':Heap) (c':Nat),(∀ b o',s.heap.get? b=some o'->h'.get? b=some o') ->
   h'.get? s.heap.objs.size=some { cls:=.type "list",dict:=none,data:=.seq its.toArray c',slots:=#[] }->EP X pJ σ Q (.ref s.heap.objs.size) { s with heap:=h' }:=fun its r' hz h' c' kp e=>
  ⟨.ref s.heap.objs.size,_,I.laid (t':=s.toks) kp (ξ _) (show ObjOk X.prog X.w _ h' _ (.lst ys) from ⟨hz,its,c',r',e⟩),rfl,q _ (I.hok.fresh (ξ _))⟩
 rcases hq with hq | hq
 ·obtain ⟨its,r',pl,hz⟩:=I.list hq
  have hlen:=r'.length
  obtain ⟨o,ho,hc,n,hd⟩:=pl.isList
  exact call_list_seq p (.inl rfl) ho hc hd (fun h' c' kp e=>fin its r' hz h' c' kp e) (by simp only [ο] <;> lia)
 ·obtain ⟨its,r',pl,hz⟩:=I.tuple hq
  have hlen:=r'.length
  obtain ⟨o,ho,hc,n,hd⟩:=pl
  exact call_list_seq p (.inr rfl) ho hc hd (fun h' c' kp e=>fin its r' hz h' c' kp e) (by simp only [ο] <;> lia)
theorem qN:CallR X (.type "tuple") (fun xs H Q=>∃ p ys,xs=[.ref p]/\((SqL X.K H p ys/\∀ l,H l=none->Q (.ref l) (upd H l (.tup ys)))\/(SqT X.K H p ys/\Q (.ref p) H))):=by
 intro pJ s σ H xs us Q I r h
 obtain ⟨p,ys,rfl,h⟩:=h
 obtain ⟨u,rfl,rx⟩:=vals1 r
 cases rx
 rcases h with ⟨hq,q⟩ | ⟨hq,q⟩
 ·obtain ⟨its,r',pl,hz⟩:=I.list hq
  have hlen:=r'.length
  refine call_tuple_list pl.isList (fun h' kp=>?_) (by simp only [ο] <;> lia)
  have I1:Inv X pJ σ H { s with heap:=h' }:=I.kept (t':=s.toks) kp
  have I2:Inv X pJ σ (upd H h'.objs.size (.tup ys)) { s with heap:=h'.push { cls:=.type "tuple",data:=.seq its.toArray } }:=
   I1.laid (t':=s.toks) (fun b o e=>η _ e) (ξ _) (show ObjOk X.prog X.w _ _ _ (.tup ys) from ⟨hz,its,r',lK.new _ _⟩)
  exact ⟨.ref h'.objs.size,_,I2,rfl,q _ (I1.hok.fresh (ξ _))⟩
 ·obtain ⟨its,r',pl,hz⟩:=I.tuple hq
  exact call_tuple_same pl ⟨.ref p,H,I,rfl,q⟩
def tyV (K:W.Frag) (T:String) (x:V) (H:Hp):Prop:=match x with
 | .str _=>T="str"
 | .int _=>T="int"
 | .ref p=>(T="list"/\∃ xs,SqL K H p xs)\/(∃ o,K.lookup p=some o/\o.cls=.type T/\o.dict=none) \/
   (T="dict"/\((∃ kvs,H p=some (.dK kvs))\/∃ kvs,H p=some (.dT kvs)))\/(T="set"/\∃ S n,H p=some (.set S n))
 | _=>False
theorem zdX {pJ:List (Addr×Obj)}{σ:St}{H:Hp}{s:μ}{T:String}{x:V}{v:δ}(I:Inv X pJ σ H s) (r:RelV x v) (ty:tyV X.K T x H):
  s.TypeIs v T/\∀ a,v=.ref a->∃ ob,s.heap.get? a=some ob/\ob.dict=none:=by
 cases x with
 | str z=>
  obtain ⟨t,rfl⟩:=r
  cases (show T="str" from ty)
  exact ⟨typeIs_str s z t,fun _ e=>nomatch e⟩
 | int i=>
  obtain ⟨t,rfl⟩:=r
  cases (show T="int" from ty)
  exact ⟨typeIs_int s i t,fun _ e=>nomatch e⟩
 | ref p=>
  cases r
  rcases ty with ⟨rfl,xs,hq⟩ | ⟨o,hk,hc,hd⟩ | ⟨rfl,hk⟩ | ⟨rfl,S,n,hk⟩
  ·obtain ⟨its,_,pl,_⟩:=I.list hq
   refine ⟨pl.isList.typeIs,fun a e=>?_⟩
   cases e
   obtain ⟨o,n,e,c,hd,_⟩:=pl
   exact ⟨o,e,hd⟩
  ·refine ⟨⟨o,I.kIn p o hk,hc⟩,fun a e=>?_⟩
   cases e
   exact ⟨o,I.kIn _ o hk,hd⟩
  ·have z:∃ o,s.heap.get? p=some o/\o.ExactDict:=by
    rcases hk with ⟨kvs,hk⟩ | ⟨kvs,hk⟩
    ·obtain ⟨_,_,_,_,o,_,_,e,ex,_⟩:=I.hok p _ hk
     exact ⟨o,e,ex⟩
    ·obtain ⟨_,_,_,_,o,_,_,e,ex,_⟩:=I.hok p _ hk
     exact ⟨o,e,ex⟩
   obtain ⟨o,e,ex⟩:=z
   refine ⟨⟨o,e,ex.1⟩,fun a e2=>?_⟩
   cases e2
   exact ⟨o,e,ex.2.1⟩
  ·obtain ⟨o,_,_,_,e,ex,_⟩:=I.hok p _ hk
   refine ⟨⟨o,e,ex.1⟩,fun a e2=>?_⟩
   cases e2
   exact ⟨o,e,ex.2.1⟩
 | _=>exact aJ ty
def tBM (K:W.Frag) (T:String) (r:V->List V->Hp->VK->Prop) (to:TE) (t:TA):TE:=fun σ H Q=>to σ H fun x H1=>tyV K T x H1/\t σ H1 fun xs H2=>r x xs H2 Q
variable {o e:Expr}{es:List Expr}{to:TE}{t:TA}{name:Str}{apos cpos:Pos}{T id:String}{r:V->List V->Hp->VK->Prop}
theorem pe_bm (pa:PlainAttrs T) (slot:Slot T name id) (hty:typeOf (.builtin id)=pure (.type "method_descriptor")) (hm:MtR X id r) (ho:PE X o to) (ha:PA X (e::es) t)
  (hbase:attributeBase o name X.env (eval o X.env)=eval o X.env:=by rfl)
  (hfew:((dB cpos (Ϝ (e::es) X.env)).all (fun x=>!x.1)&&(cY cpos (bf [] X.env)).all (fun x=>x.1.isSome)
  &&decide ((e::es).length+([]:List bM).length+(if ([]:List bM).isEmpty then 0 else 1) < 30))=true:=by rfl)
  (hline:(apos.endLine==cpos.line)=true:=by rfl) (hs:Ϝ (e::es) X.env=(false,eval e X.env)::Ϝ es X.env:=by rfl) (hplain:(dB cpos (Ϝ es X.env)).any (·.1)=false:=by rfl):
  PE X (.Call (.Attribute o name apos) (e::es) [] cpos) (tBM X.K T r to t):=by
 intro pJ s σ H Q I h
 refine wpAny_Call_method_late hbase hfew hline rfl (thn (ho pJ s σ H _ I h) fun v s1 ⟨x,H1,I1,r1,ty,q1⟩=>?_)
 obtain ⟨h1,h2⟩:=zdX I1 r1 ty
 refine ⟨T,id,pa,slot,hty,h1,h2,?_⟩
 have hA:=ha cpos pJ s1 σ H1 _ I1 q1
 rw [hs] at hA ⊢
 refine Calls.callWith_builtin (by show (false||(dB cpos (Ϝ es X.env)).any (·.1))=false;rw [hplain] <;> rfl) (Calls.evalArgs_plain ?_)
 exact thn hA fun us s2 ⟨vs,H2,I2,r2,q2⟩=>hm pJ s2 σ H2 x vs v us Q I2 r1 r2 q2
end
def MtM (X:Cx) (id:String) (r:V->List V->Hp->VK->Prop):Prop:=
 ∀ (pJ:List (Addr×Obj)) (s:μ) (σ:St) (H:Hp) (x:V) (xs:List V) (v:δ) (us:List δ) (Q:VK),Inv X pJ σ H s->RelV x v->Vals xs us->r x xs H Q ->
  ψ (Ζ X.prog X.w) X.A (call (.builtin id) (v::us)) (EP X pJ σ Q) X.xe s
theorem Vals.one:∀ {x:V}{us:List δ},Vals [x] us->∃ u,us=[u]/\RelV x u
 | _,_,.cons r .nil=>⟨_,rfl,r⟩
theorem Vals.two:∀ {x y:V}{us:List δ},Vals [x,y] us->∃ u v,us=[u,v]/\RelV x u/\RelV y v
 | _,_,_,.cons r (.cons q .nil)=>⟨_,_,rfl,r,q⟩
section
variable {X:Cx}{pJ:List (Addr×Obj)}{σ:St}{H:Hp}{s:μ}{l b:Addr}{xs ys zs:List V}
theorem Inv.lset {its its':List δ}{n:Nat}{f:Array δ->Array δ}{t':Nat}(I:Inv X pJ σ H s) (hH:H l=some (.lst xs))
  (e:s.heap.get? l=some { cls:=.type "list",data:=.seq its.toArray n }) (hf:f its.toArray=its'.toArray) (hv:Vals ys its') (hz:ys.length<=sizeLine):
  Inv X pJ σ (upd H l (.lst ys)) { s with heap:=s.heap.update l (ϯ f),toks:=t' }:=by
 have q:=PySem.IsL.update e f
 rw [hf] at q
 refine I.write (x:=l) (e:=l) (by rw [hH];exact trivial) (.inl rfl) (fun b' u hb hu=>(oG s.heap (ϯ f) (gJ hb)).trans hu) ⟨_,q⟩ ?_
 exact ⟨hz,its',_,hv,q⟩
theorem Inv.lnew {its:List δ}{t':Nat}(I:Inv X pJ σ H s) (hv:Vals ys its) (hz:ys.length<=sizeLine):
  Inv X pJ σ (upd H s.heap.objs.size (.lst ys)) { s with heap:=s.heap.push { cls:=.type "list",data:=.seq its.toArray },toks:=t' }:=
 I.laid (fun _ _ q=>η _ q) (ξ _) ⟨hz,its,0,hv,ς _ rfl⟩
theorem Inv.fresh (I:Inv X pJ σ H s):H s.heap.objs.size=none:=I.hok.fresh (ξ _)
theorem Inv.lstM (I:Inv X pJ σ H s) (hH:H l=some (.lst xs)):xs.length<=sizeLine/\∃ (its:List δ) (n:Nat),Vals xs its/\xs.length=its.length/\s.heap.get? l=some { cls:=.type "list",data:=.seq its.toArray n }:=by
 obtain ⟨z,its,n,r,e⟩:=I.hok l _ hH
 exact ⟨z,its,n,r,r.length,e⟩
theorem WN {n:Nat}(h:n<=sizeLine):cV n=false:=by
 unfold cV
 exact decide_eq_false (by lia)
end
section
variable {X:Cx}
def zcs:V->List V->Hp->VK->Prop:=fun x vs H Q=>∃ l xs y,x=.ref l/\vs=[y]/\H l=some (.lst xs)/\xs.length < sizeLine/\Q .non (upd H l (.lst (xs++[y])))
theorem ZM:MtM X "list.append" zcs:=by
 intro pJ s σ H x vs v us Q I rx rv h
 obtain ⟨l,xs,y,rfl,rfl,hH,hz,q⟩:=h
 cases rx
 obtain ⟨u,rfl,ru⟩:=rv.one
 obtain ⟨z,its,n,r,hl,e⟩:=I.lstM hH
 refine mC F.slot_list_append ⟨_,e,rfl⟩ F.entry_list_append (F.args_list_append_2 _ _) (PySem.list_append l its.toArray n u (by rw [ο];lia)) ⟨e,?_⟩
 refine ⟨.non,_,I.lset (its':=its++[u]) hH e (by simp) (r.append (.cons ru .nil)) ?_,rfl,q⟩
 rw [Ο,List.length_singleton]
 lia
def zcr:V->List V->Hp->VK->Prop:=fun x vs H Q=>∃ l b xs zs,x=.ref l/\vs=[.ref b]/\H l=some (.lst xs)/\H b=some (.lst zs)/\xs.length+zs.length<=sizeLine/\Q .non (upd H l (.lst (xs++zs)))
theorem JZ:MtM X "list.extend" zcr:=by
 intro pJ s σ H x vs v us Q I rx rv h
 obtain ⟨l,b,xs,zs,rfl,rfl,hH,hB,hz,q⟩:=h
 cases rx
 obtain ⟨u,rfl,ru⟩:=rv.one
 cases ru
 obtain ⟨z,its,n,r,hl,e⟩:=I.lstM hH
 obtain ⟨z2,its2,n2,r2,hl2,e2⟩:=I.lstM hB
 have hsz:its.toArray.size+its2.toArray.size<=sizeLine:=by rw [ο,ο];lia
 have hlong:¬ (!its.toArray.isEmpty&&cV (its.toArray.size+its2.toArray.size))=true:=by
  rw [WN hsz,iJ]
  exact Μ
 refine mC F.slot_list_extend ⟨_,e,rfl⟩ F.entry_list_extend (F.args_list_extend_2 _ _)
  (AutoSeq1.list_extend_list_list_0 l its.toArray n b its2.toArray n2 hlong (by rw [ο];lia) (by lia)) ⟨e,e2,?_⟩
 refine ⟨.non,_,I.lset (its':=its++its2) hH e (by simp) (r.append r2) ?_,rfl,q⟩
 rw [Ο]
 lia
end
end L2
namespace Att
open PySem PySem.W PySem.Calls PyProof.Rows
theorem uJ {P:Params}{h:Heap}:∀ (ns:List Int) (vs:List δ),WellAll P h vs (ns.map WData.int)->IntsAre vs ns:=by
 intro ns
 induction ns with
 | nil=>
  intro vs w
  rw [fO] at w
  cases w
  exact .nil
 | cons n ns ih=>
  intro vs w
  rw [ϟ] at w
  cases w with
  | cons a b=>
   cases a
   exact .cons _ _ (ih _ b)
theorem Jd {l:OpenLaw}{n:Nat}(hn:l.most=some n) {P:Params}{h:Heap}{args:List WData}{vals:List δ}
  (hpre:l.row.toRowW.claim.pre args=true) (hwl:WellAll P h vals args):
  ∃ a vs ns,vals=[ω a]/\args=[WData.list (ns.map WData.int)]/\h.get? a=some { cls:=.type "list",data:=.seq vs.toArray }/\IntsAre vs ns/\ns.length<=n:=by
 have hsh:WShape.hasAll [] args [.list .int]=true:=(pre_splitW hpre).1
 have hc:l.pre.holds [] { args:=args }=true:=(pre_splitW hpre).2
 obtain ⟨d,r,rfl,h1,h2⟩:=hasAllW_cons hsh
 obtain rfl:=hasAllW_nil h2
 obtain ⟨xs,rfl,h3⟩:=hasW_list h1
 obtain ⟨ns,rfl⟩:=items_int h3
 have hlen:ns.length<=n:=by
  unfold OpenLaw.pre at hc
  have h4:(WTm.not (.lt (.lit (.int (n:Int))) (.len (.arg 0)))).holds [] { args:=[.list (ns.map .int)] }=true:=by
   have h4:=(holds_andW hc).1
   rw [hn] at h4
   exact h4
  have h5:=condW_of h4 (w_not (w_lt w_lit (w_len_list (w_arg rfl))))
  rw [ν] at h5
  refine mD fun q=>?_
  have q':(n:Int) < ((ns.length:Nat):Int):=by omega
  first
   | (rw [decide_eq_true q'] at h5;exact absurd h5 (by decide))
   | (simp at h5;omega)
 cases hwl with
 | cons w1 w2=>
  cases w2
  cases w1 with
  | list ho hall=>exact ⟨_,_,ns,rfl,rfl,ho,uJ ns _ hall,hlen⟩
theorem Jq (l:OpenLaw) (args:List WData):l.row.toRowW.claim.post args (.bool true) args=true:=
 postW_of (r:=l.row.toRowW) (X:=(true==true))
  (show WShape.has [] (.bool true) .bool=true by first | rfl | decide | simp [WShape.has,WShape.arms,WShape.armsAll])
  (show (WTm.eq .res (.lit (.bool true))).value [] { args:=args,res:=some (.bool true),after:=args }=some (.bool (true==true)) from w_eq_bool (w_res rfl) w_lit) rfl
theorem XJ {l:OpenLaw}{n:Nat}{q:Ν}{loose:List Str}{XP:(Str->Option δ)->Heap->Prop}{YP:ϖ->Heap->Prop}{d:DefRec}
  (hn:l.most=some n) (hdf:d.params.defaults=[])
  (call:∀ (w:ϖ) (sy s₁:μ) (mg mb:Str->Option δ) (fa:Addr) (o:Obj) (pm cd doc:δ) (a:Addr) (vs:List δ) (ns:List Int),
   Ground q loose [] XP w sy mg mb s₁.heap->YP w s₁.heap ->
   s₁.heap.get? fa=some o->o.data=.func (docDef d.name d.params d.body d.scope pm cd doc)->s₁.heap.CodeRec cd d.name->mg d.name=some (.ref fa) ->
   s₁.heap.get? a=some { cls:=.type "list",data:=.seq vs.toArray }->IntsAre vs ns->ns.length<=n->s₁.gens=#[] ->
   mQ (Ζ l.prog w) callerA (.call (.ref fa) ⟨[.ref a],[]⟩) (fun r s'=>r=.ok (.ret (.bool true))/\OldK s₁.heap s'.heap/\s'.os=s₁.os/\iU s'.gens) s₁):
  WalkO q loose XP YP l.row.toRowW d [] (fun f vs=>PySem.call f vs):=by
 intro w sy s₁ mg mb G Y fa o pm cd doc dV kV ho hd hcd hD hmg hg args vals as hpre hlay hrd hwl hlo
 obtain rfl:dV=.none:=Dflts.none hD hdf
 obtain rfl:kV=.none:=Dflts.noKw hD
 obtain ⟨a,vs,ns,rfl,rfl,hobj,hints,hlen⟩:=Jd hn hpre hwl
 refine enter_call (gm (call w sy s₁ mg mb fa o pm cd doc a vs ns G Y ho (fd_plain hd) hcd hmg hobj hints hlen hg) fun r s' hq=>?_)
 obtain ⟨rfl,h2,h3,h4⟩:=hq
 exact ⟨.inl ⟨.bool true,.bool true,[],rfl,fun _=>rfl,.bool true,Jq l _,fun _=>⟨ig,fun _ hm=>(nomatch hm)⟩⟩,h2,h3,h4⟩
end Att
namespace L2
open PySem PySem.Spec PyProof.Rows
theorem yC:∀ {vs:List δ}{ns:List Int},IntsAre vs ns->Vals (ns.map V.int) vs
 | _,_,.nil=>.nil
 | _,_,.cons n t h=>.cons ⟨t,rfl⟩ (yC h)
def Only (H:Hp):Prop:=∀ b,H b=none\/∃ o xs,H b=some (.frz o (.lst xs))
theorem zaA {P:Ν}{w:ϖ}{K:W.Frag}{mg mb:Str->Option δ}{CX:CXT}{k:Nat}{fa a:Addr}{fd:bJ}{x:Str}{sp:Sp}{s₁:μ}{vs:List δ}{ns:List Int}
  (KX:K.In s₁.heap) (hns:s₁.heap.Ns Ϗ mg) (hb:s₁.heap.Ns builtinsNs mb) (hbb:∀ x:Str,x≠"__name__"->mb x=cQ x) (hlim:s₁.heap.NoLimit) (hg:s₁.gens=#[])
  (ha:s₁.heap.get? a=some { cls:=.type "list",data:=.seq vs.toArray }) (hi:IntsAre vs ns) (hl:ns.length<=sizeLine) (hr:Room k callerA)
  (F:∀ base:Heap,K.In base->base.Ns Ϗ mg->FnOk P w K mg base CX k fa fd [x] sp) (hbind:∀ (s:μ) (u:δ),BindsTo s fd ⟨[u],[]⟩ [(x,u)])
  (hsp:∀ H:Hp,Only H->SqL K H a (ns.map V.int)->sp [.ref a] H (fun v _=>v=.bl true) fun _ _ _=>False)
  (hCX:∀ H e s',CX [] H s₁ (fun _ _ _=>False) e s'->False):
  mQ (Ζ P w) callerA (.call (.ref fa) ⟨[.ref a],[]⟩) (fun r s'=>r=.ok (.ret (.bool true))/\OldK s₁.heap s'.heap/\s'.os=s₁.os/\iU s'.gens) s₁:=by
 have rv:=yC hi
 have lenV:=hi.length
 have core:∀ H:Hp,Only H->SqL K H a (ns.map V.int)->HOk P w H s₁.heap->(∀ b,H b≠none->b=a)->(H a≠none->K.lookup a=none) ->
   mQ (Ζ P w) callerA (.call (.ref fa) ⟨[.ref a],[]⟩) (fun r s'=>r=.ok (.ret (.bool true))/\OldK s₁.heap s'.heap/\s'.os=s₁.os/\iU s'.gens) s₁:=by
  intro H hO hS hok hA hK
  have qP:∀ {b:Addr}{o:Obj},s₁.heap.get? b=some o->H b=none->(hidT s₁.heap H).get? b=some o:=fun e n=>zaM e n
  have noA:∀ {b:Addr}{o:Obj}{es:Array cF}{ep:Nat},s₁.heap.get? b=some o->o.data=.dict es ep->H b=none:=fun {b o es ep} e d=>by
   cases q:H b with
   | none=>rfl
   | some u=>
    have e':b=a:=hA b (by rw [q];simp)
    subst e'
    rw [ha] at e;cases e
    have d':fX vs.toArray _=Data.dict es ep:=d
    cases d'
  have nsK:∀ {b:Addr}{m:Str->Option δ},s₁.heap.Ns b m->(hidT s₁.heap H).Ns b m:=fun {b m} ⟨o,es,ep,e,d,r⟩=>⟨o,es,ep,qP e (noA e d),d,r⟩
  have hKb:K.In (hidT s₁.heap H):=fun b o e=>qP (KX b o e) (by
   cases q:H b with
   | none=>rfl
   | some u=>
    have e':b=a:=hA b (by rw [q];simp)
    subst e'
    rw [hK (by rw [q];simp)] at e;cases e)
  have hM:Mod K mg (hidT s₁.heap H):=⟨hKb,nsK hns,⟨mb,nsK hb,hbb⟩,let ⟨mc,h1,h2⟩:=hlim;⟨mc,nsK h1,h2⟩⟩
  have e0:Env0 P w K mg (hidT s₁.heap H) callerA [] s₁ H:=⟨rfl,hM,fun b o e=>zcW e,Nat.le_of_eq (KH _ _),trivial,fun b hb=>absurd (show b∈([]:List Addr) from hb) (by simp),hok,.of_eq hg⟩
  refine gm ((F _ hKb (nsK hns)).run callerA [] s₁ H ⟨[.ref a],[]⟩ [.ref a] [.ref a] _ _ hr e0 (hbind s₁ (.ref a)) (.cons rfl .nil) (hsp H hO hS)) fun r s' h=>?_
  cases r with
  | error e=>exact (hCX H e s' h).elim
  | ok fl=>
   cases fl with
   | next=>exact aJ h
   | brk=>exact aJ h
   | cont=>exact aJ h
   | ret u=>
    obtain ⟨v,H',os,bare,un,hok',r',q⟩:=h
    have q':v=.bl true:=q
    subst q'
    obtain rfl:u=Ω true:=r'
    refine ⟨rfl,OldK.of_keep fun b o e=>?_,os,bare⟩
    cases q:H b with
    | none=>exact un.keep b o e q (by intro z;exact absurd (show b∈([]:List Addr) from z) (by simp)) (by simp)
    | some u=>
     rcases hO b with z | ⟨ob,xs,z⟩
     ·rw [q] at z;cases z
     ·have z2:=un.frzs b ob _ z
      obtain ⟨e1,_⟩:=hok b _ z
      obtain ⟨e2,_⟩:=hok' b _ z2
      rw [e] at e1;cases e1
      exact e2
 cases hk:K.lookup a with
 | some o=>
  have e:=KX a o hk
  rw [ha] at e
  cases e
  refine core (fun _=>none) (fun _=>.inl rfl) (.inr ⟨_,vs.toArray,_,hk,rfl,rfl,rfl,by rw [ο,lenV];exact hl,by simpa using rv⟩) (fun b u z=>by have z':(none:Option HO)=some u:=z;cases z') (fun b z=>absurd rfl z) fun z=>absurd rfl z
 | none=>
  refine core (fun b=>if b=a then some (.frz { cls:=.type "list",data:=.seq vs.toArray } (.lst (ns.map V.int))) else none) (fun b=>?_) (.inl (.inr ⟨{ cls:=.type "list",data:=.seq vs.toArray },if_pos rfl⟩)) (fun b u z=>?_) (fun b z=>?_) fun _=>hk
  ·by_cases hb:b=a
   ·exact .inr ⟨_,_,if_pos hb⟩
   ·exact .inl (if_neg hb)
  ·by_cases hb:b=a
   ·have z':=(if_pos hb).symm.trans z
    cases z'
    subst hb
    exact ⟨ha,by rw [ν];exact hl,vs,_,rv,ha⟩
   ·have z':=(if_neg hb).symm.trans z
    cases z'
  ·by_cases hb:b=a
   ·exact hb
   ·exact absurd (if_neg hb) z
abbrev CX0:CXT:=fun _ _ _ _ _ _=>False
abbrev E0:XK:=fun _ _ _=>False
theorem pass0 {X:Cx}:YJ CX0 X E0:=fun _ _ _ _ _ _ _ h=>h.elim
structure Fun (K:W.Frag) (x qual:Str) (st:Stmt) (f:Addr) (fd:bJ):Prop where
 ex:∃ (oc:δ) (od:Option Addr) (kV doc pm:δ) (an:Option Addr) (cdv ct:δ) (osl:Array (Option δ)),
  fd=W.fnOf x qual (yh st) (zY st) (zE st) .none kV doc pm an cdv ct/\K.lookup f=some ⟨oc,od,.func fd,osl⟩/\W.codeIn K cdv qual=true
 kp:W.keepIn K (.ref f)=true
section
variable {P:Ν}{w:ϖ}{K:W.Frag}{mg:Str->Option δ}{base:Heap}
theorem Fun.ok {x qual:Str}{st:Stmt}{f:Addr}{fd:bJ}{N ps:List Str}{k:Nat}{sp:Sp}(F:Fun K x qual st f fd) (S:qR N ps (zE st)) (len:∀ vs H Q E,sp vs H Q E->vs.length=ps.length)
  (hbody:∀ (cdv:δ) (A:ϗ) (outer:List Env) (s:μ) (H:Hp) (vs:List V) (Q:VK) (E:XK),Room k (A.deeper (my qual (zE st) s.heap.objs.size f cdv))->sp vs H Q E ->
   ∃ t,PSs (cxOf CX0 P w K mg base N qual (zE st) f cdv A outer s H E).nox (zY st) t/\t { nx:=fun _ H'=>Q .non H',rt:=Q } (start N vs) H):FnOk P w K mg base CX0 (k+1) f fd ps sp:=by
 obtain ⟨oc,od,kV,doc,pm,an,cdv,ct,osl,rfl,lk,hcd⟩:=F.ex
 refine fn_of lk hcd S len fun A outer s H vs Q E hr hsp=>?_
 obtain ⟨t,h,q⟩:=hbody cdv A outer s H vs Q E hr hsp
 exact ⟨t,h.nox,q⟩
theorem Fun.binds {x qual:Str}{st:Stmt}{f:Addr}{fd:bJ}{ps:List Str}(F:Fun K x qual st f fd)
  (h:∀ (kV doc pm:δ) (an:Option Addr) (cdv ct:δ) (us:List δ),us.length=ps.length->bindArgs (W.fnOf x qual (yh st) (zY st) (zE st) .none kV doc pm an cdv ct) ⟨us,[]⟩=pure (ps.zip us)):Binds K fd ps []:=by
 obtain ⟨oc,od,kV,doc,pm,an,cdv,ct,osl,rfl,lk,hcd⟩:=F.ex
 exact .all (h kV doc pm an cdv ct)
theorem zfO {x qual:Str}{st:Stmt}{f:Addr}{oc:δ}{od an:Option Addr}{osl:Array (Option δ)}{kV doc pm cdv ct:δ}(l:K.lookup f=some ⟨oc,od,.func (W.fnOf x qual (yh st) (zY st) (zE st) .none kV doc pm an cdv ct),osl⟩)
  (c:W.codeIn K cdv qual=true) (k:W.keepIn K (.ref f)=true):Fun K x qual st f (W.fnOf x qual (yh st) (zY st) (zE st) .none kV doc pm an cdv ct):=⟨⟨oc,od,kV,doc,pm,an,cdv,ct,osl,rfl,l,c⟩,k⟩
end
theorem iteF {A B:Prop}(h:B):if false=true then A else B:=by
 rw [if_neg Μ]
 exact h
theorem iteT {A B:Prop}(h:A):if true=true then A else B:=by
 rw [if_pos rfl]
 exact h
def Same (H H':Hp):Prop:=∀ b o,H b=some o->H' b=some o
theorem Same.refl (H:Hp):Same H H:=fun _ _ h=>h
theorem Same.trans {H H1 H2:Hp}(a:Same H H1) (b:Same H1 H2):Same H H2:=fun c o h=>b c o (a c o h)
theorem Same.free {H H':Hp}(e:Same H H') {l:Addr}(h:H' l=Option.none):H l=Option.none:=by
 cases q:H l with
 | none=>rfl
 | some o=>
  rw [e l o q] at h
  cases h
theorem Same.seq {K:W.Frag}{H H':Hp}{a:Addr}{xs:List V}(e:Same H H') (h:SqL K H a xs):SqL K H' a xs:=by
 rcases h with (h | ⟨o,h⟩) | h
 ·exact .inl (.inl (e _ _ h))
 ·exact .inl (.inr ⟨o,e _ _ h⟩)
 ·exact .inr h
theorem wL {prog:Ν}{w:ϖ}{A:ϗ}{E:VSP}{s:μ}{it l:Addr}{i:Nat}{items:Array δ}{x:δ}{Q:VSP}(hit:s.heap.IsTupleIter it l i) (hl:s.heap.IsTuple l items) (hx:items[i]?=some x)
  (hQ:∀ h':Heap,h'.IsTupleIter it l (i+1)->ϋ it s.heap h'->Q x { s with heap:=h' }):ψ (Ζ prog w) A (iH (.ref it)) Q E s:=by
 obtain ⟨o,ho,hc,hd⟩:=id hit
 obtain ⟨ol,hol,left,nl,hdl⟩:=hl
 refine γ (ϙ hit.typeIs F.slot_tuple_iterator_next (ϒ F.slot_tuple_iterator_next hit.typeIs F.entry_tuple_iterator_next ?_ (F.args_tuple_iterator_next_1 (.ref it))))
 refine γ ?_
 rw [show slotArgs "__next__" 0 { pos:=[ω it] }=pure (ω it,[]) from rfl]
 refine ζ ?_
 refine γ (aG ho hd rfl ?_)
 refine γ (aG ho hd rfl ?_)
 refine γ (lD hol hdl ?_)
 have hx':items[((i:Int)).toNat]?=some x:=hx
 simp only [hx']
 refine γ (Ϯ ho hd (by simp) (ζ ⟨x,rfl,ζ (hQ _ ⟨_,aZ _ ho (oW (gb hd _)),(Obj.cls_mapFields o _).trans hc,?_⟩ (aL s.heap it _))⟩))
 rw [gb hd]
 simp [aF]
theorem vG {prog:Ν}{w:ϖ}{A:ϗ}{E:VSP}{s:μ}{it l:Addr}{i:Nat}{items:Array δ}{Q:VSP}(hh:A.handled=none) (hit:s.heap.IsTupleIter it l i) (hl:s.heap.IsTuple l items) (hx:items[i]?=none)
  (hE:∀ (h':Heap) (e:Addr),mF it s.heap h'->(∃ o,h'.get? e=some o/\o.cls=Ψ "StopIteration")->E (ω e) { s with heap:=h' }):ψ (Ζ prog w) A (iH (.ref it)) Q E s:=by
 obtain ⟨o,ho,hc,hd⟩:=id hit
 obtain ⟨ol,hol,left,nl,hdl⟩:=hl
 refine γ (ϙ hit.typeIs F.slot_tuple_iterator_next (ϒ F.slot_tuple_iterator_next hit.typeIs F.entry_tuple_iterator_next ?_ (F.args_tuple_iterator_next_1 (.ref it))))
 refine γ ?_
 rw [show slotArgs "__next__" 0 { pos:=[ω it] }=pure (ω it,[]) from rfl]
 refine ζ ?_
 refine γ (aG ho hd rfl ?_)
 refine γ (aG ho hd rfl ?_)
 refine γ (lD hol hdl ?_)
 have hx':items[((i:Int)).toNat]?=none:=hx
 simp only [hx']
 refine γ (b8 (γ (Ϯ ho hd (by simp) ?_)))
 refine γ ?_
 refine γ (Χ ?_)
 refine γ (bc rfl (Χ ?_))
 refine γ (lX ?_)
 rw [show A.in1.handled=none from hh]
 refine nF (hE _ _ (fun b o' hb hg=>?_) ⟨_,ς _ rfl,rfl⟩)
 ·exact η _ (η _ (by rw [(aL s.heap it _).2 b hb];exact hg))
theorem qL {prog:Ν}{w:ϖ}{A:ϗ}{E:VSP}{s:μ}{e it l:Addr}{i:Nat}{items:Array δ}{x old:δ}{Q:VSP}(he:IsEnum s.heap e it (i:Int) old) (hit:s.heap.IsTupleIter it l i) (hl:s.heap.IsTuple l items) (hx:items[i]?=some x) (hne:e≠it)
  (hQ:∀ h':Heap,IsEnumOut h' e it ((i:Int)+1) x s.heap.objs.size->h'.IsTupleIter it l (i+1)->h'.get? s.heap.objs.size=some { cls:=Ψ "tuple",data:=fX #[ϕ (i:Int) s.toks,x] }->h'.objs.size=s.heap.objs.size+1 ->
   (∀ (b:Addr) (o:Obj),b≠e->b≠it->s.heap.get? b=some o->h'.get? b=some o)->Q (ω s.heap.objs.size) { heap:=h',gens:=s.gens,drawn:=s.drawn,toks:=s.toks+1,os:=s.os }):
  ψ (Ζ prog w) A (Β.«enumerate.__next__» { pos:=[ω e] }) (fun fin s'=>∃ v,fin=Fin.done (Flow.ret v)/\Q v s') E s:=by
 obtain ⟨hp,gs,dr,tk,os⟩:=s
 dsimp only at *
 refine γ ?_
 rw [show slotArgs "__next__" 0 { pos:=[ω e] }=pure (ω e,[]) from rfl]
 refine ζ ?_
 refine γ (aG he rfl rfl ?_)
 refine γ (wL hit hl hx fun h1 hit1 sb1=>?_)
 have he1:IsEnum h1 e it (i:Int) old:=(sb1.2 e hne).trans he
 refine γ (aG he1 rfl rfl ?_)
 refine γ (aG he1 rfl rfl ?_)
 rw [if_pos (by rfl)]
 refine γ (wpAny_mkInt ?_)
 refine γ (ak he1 (by simp) fun h2 he2 sb2=>?_)
 have he2:h2.get? e=some { cls:=Ψ "enumerate",data:=ϩ #[Ε,Ω false,ω it,aF ((i:Int)+1),Ε,old] }:=by simpa using he2
 refine γ (ak he2 (by simp) fun h3 he3 sb3=>?_)
 have he3:h3.get? e=some { cls:=Ψ "enumerate",data:=ϩ #[Ε,Ω false,ω it,aF ((i:Int)+1),Ε,old] }:=by simpa using he3
 have z1:h1.objs.size=hp.objs.size:=sb1.1
 have z2:h2.objs.size=h1.objs.size:=sb2.1
 have z3:h3.objs.size=h2.objs.size:=sb3.1
 refine γ (lE ?_ (by rw [Ϧ];simp))
 dsimp only
 have he4:=η { cls:=Ψ "tuple",data:=fX [ϕ (↑i) tk,x].toArray } he3
 have t4:(h3.push { cls:=Ψ "tuple",data:=fX [ϕ (↑i) tk,x].toArray }).get? h3.objs.size=some { cls:=Ψ "tuple",data:=fX [ϕ (↑i) tk,x].toArray }:=ς _ rfl
 have z4:(h3.push { cls:=Ψ "tuple",data:=fX [ϕ (↑i) tk,x].toArray }).objs.size=h3.objs.size+1:=dg _ _
 have k4:∀ (b:Addr) (o:Obj),h3.get? b=some o->(h3.push { cls:=Ψ "tuple",data:=fX [ϕ (↑i) tk,x].toArray }).get? b=some o:=fun b o h=>η _ h
 generalize h3.push { cls:=Ψ "tuple",data:=fX [ϕ (↑i) tk,x].toArray }=h4 at *
 refine γ ?_
 refine γ (aG he4 rfl rfl ?_)
 refine ζ ?_
 refine γ (b8 (γ (aG he4 rfl rfl ?_)))
 refine γ (ak he4 (by simp) fun h5 he5 sb5=>?_)
 have he5:h5.get? e=some { cls:=Ψ "enumerate",data:=ϩ #[Ε,Ω false,ω it,aF ((i:Int)+1),Ε,x] }:=by simpa using he5
 refine γ ?_
 refine γ (ak he5 (by simp) fun h6 he6 sb6=>?_)
 have he6:h6.get? e=some { cls:=Ψ "enumerate",data:=ϩ #[aF (h3.objs.size:Int),Ω false,ω it,aF ((i:Int)+1),Ε,x] }:=by simpa using he6
 refine ak he6 (by simp) fun h7 he7 sb7=>?_
 have he7:h7.get? e=some { cls:=Ψ "enumerate",data:=ϩ #[aF (h3.objs.size:Int),Ω false,ω it,aF ((i:Int)+1),Ε,x] }:=by simpa using he7
 refine γ (wpAny_letGo ?_)
 have hs:h3.objs.size=hp.objs.size:=by lia
 have lt:∀ {h:Heap}{b:Addr}{o:Obj},h.get? b=some o->b < h.objs.size:=fun h=>χ h
 have hep:e≠h3.objs.size:=Λ (lt he3)
 have back:∀ b:Addr,b≠e->h7.get? b=h4.get? b:=fun b hb=>(sb7.2 b hb).trans ((sb6.2 b hb).trans (sb5.2 b hb))
 have z7:h7.objs.size=h4.objs.size:=sb7.1.trans (sb6.1.trans sb5.1)
 refine ζ ⟨_,rfl,?_⟩
 rw [hs] at he7 t4 hep ⊢
 refine hQ h7 he7 ?_ ?_ (by lia) fun b o hb hb' hg=>?_
 ·obtain ⟨o,ho,hr⟩:=id hit1
  refine ⟨o,?_,hr⟩
  rw [back it (fun q=>hne q.symm)]
  exact k4 it o ((sb3.2 it (fun q=>hne q.symm)).trans ((sb2.2 it (fun q=>hne q.symm)).trans ho))
 ·rw [back _ (fun q=>hep q.symm)]
  exact t4
 ·rw [back b hb]
  exact k4 b o ((sb3.2 b hb).trans ((sb2.2 b hb).trans ((sb1.2 b hb').trans hg)))
theorem ur {prog:Ν}{w:ϖ}{A:ϗ}{E:VSP}{s:μ}{e it l:Addr}{i:Nat}{items:Array δ}{x old:δ}{Q:Option δ->μ->Prop}(he:IsEnum s.heap e it (i:Int) old) (hit:s.heap.IsTupleIter it l i) (hl:s.heap.IsTuple l items) (hx:items[i]?=some x) (hne:e≠it)
  (hQ:∀ h':Heap,IsEnumOut h' e it ((i:Int)+1) x s.heap.objs.size->h'.IsTupleIter it l (i+1)->h'.get? s.heap.objs.size=some { cls:=Ψ "tuple",data:=fX #[ϕ (i:Int) s.toks,x] }->h'.objs.size=s.heap.objs.size+1 ->
   (∀ (b:Addr) (o:Obj),b≠e->b≠it->s.heap.get? b=some o->h'.get? b=some o)->Q (some (ω s.heap.objs.size)) { heap:=h',gens:=s.gens,drawn:=s.drawn,toks:=s.toks+1,os:=s.os }):
  ψ (Ζ prog w) A (eQ (.ref e)) Q E s:=by
 have ty:bU s (.ref e) "enumerate":=⟨_,he,rfl⟩
 refine γ (cg (ϙ ty F.slot_enumerate_next (ϒ F.slot_enumerate_next ty F.entry_enumerate_next (qL he hit hl hx hne fun h' a b c d f=>?_) (F.args_enumerate_next_1 _))))
 exact ζ (hQ h' a b c d f)
theorem xq {prog:Ν}{w:ϖ}{A:ϗ}{E:VSP}{s:μ}{e it l:Addr}{i:Nat}{items:Array δ}{old:δ}{Q:Option δ->μ->Prop}(hh:A.handled=none) (he:IsEnum s.heap e it (i:Int) old) (hit:s.heap.IsTupleIter it l i) (hl:s.heap.IsTuple l items) (hx:items[i]?=none)
  (hQ:∀ h':Heap,mF it s.heap h'->Q none { s with heap:=h' }):ψ (Ζ prog w) A (eQ (.ref e)) Q E s:=by
 have ty:bU s (.ref e) "enumerate":=⟨_,he,rfl⟩
 refine γ (cg (ϙ ty F.slot_enumerate_next (ϒ F.slot_enumerate_next ty F.entry_enumerate_next ?_ (F.args_enumerate_next_1 _))))
 refine γ ?_
 rw [show slotArgs "__next__" 0 { pos:=[ω e] }=pure (ω e,[]) from rfl]
 refine ζ ?_
 refine γ (aG he rfl rfl ?_)
 refine γ (vG (by exact hh) hit hl hx fun h' e' ext ⟨o,ho,hc⟩=>?_)
 refine γ (dH (T:="StopIteration") (b:=true) ⟨o,ho,hc⟩ lH ?_)
 exact ζ (hQ h' ext)
set_option tactic.hygienic true in
theorem uA (l:Addr) (items:Array δ):Meets (Β.«enumerate.__new__» { pos:=[Ψ "enumerate",ω l] }) fun x R s=>
  s.heap.IsTuple l items/\R (Except.ok (Flow.ret (ω (s.heap.push { cls:=Ψ "tuple_iterator",data:=ϩ #[ω l,ϕ 0 0] }).objs.size)))
   { heap:=(s.heap.push { cls:=Ψ "tuple_iterator",data:=ϩ #[ω l,ϕ 0 0] }).push { cls:=Ψ "enumerate",data:=ϩ #[Ε,Ω false,ω s.heap.objs.size,aF 0,Ε,Ε] },gens:=s.gens,drawn:=s.drawn,toks:=s.toks,os:=s.os }:=
 Meets.of_wp fun prog w A R s h=>by
  obtain ⟨hp,g,d,tk,os⟩:=s
  obtain ⟨hl,h⟩:=h
  have hsub:=sub_enumerate
  refine γ ?_
  refine γ ?_
  refine ζ ?_
  refine iV rfl ?_
  refine γ (bc hsub ?_)
  refine iV rfl ?_
  refine ζ ?_
  refine wpAny_ite_true rfl ?_
  refine γ ?_
  refine γ (wpAny_stack_any fun st=>?_)
  refine ζ ?_
  have fin:ψ (Ζ prog w) A.in1 (iM (ω l) >>= fun it=>Β.SmallTypes.newRecord (Ψ "enumerate") (Β.SmallTypes.ownedTupleFields++[it,aF 0,Ε,Ε]) >>= fun v=>ret v)
    (fun fin s'=>∃ v,fin=Fin.done (Flow.ret v)/\R (Except.ok (Flow.ret v)) s') (fun e s'=>R (Except.error e) s') { heap:=hp,gens:=g,drawn:=d,toks:=tk,os:=os }:=
   by
   refine γ (mj hl ?_)
   refine γ ?_
   refine Χ (T:="enumerate") (data:=ϩ #[Ε,Ω false,ω hp.objs.size,aF 0,Ε,Ε]) (dict:=none) ?_
   exact ζ ⟨_,rfl,h⟩
  split
  ·rename_i c _ _ _ _ _
   generalize (c==Ψ "enumerate")=b
   cases b with
   | true=>exact wpAny_ite_true rfl (γ (bc rfl fin))
   | false=>exact iV rfl (γ (bc rfl fin))
  ·exact iV rfl (γ (bc rfl fin))
theorem wC {prog:Ν}{w:ϖ}{A:ϗ}{E:VSP}{s:μ}{l:Addr}{items:Array δ}{Q:VSP}(hl:s.heap.IsTuple l items)
  (h:∀ h':Heap,IsEnum h' (s.heap.objs.size+1) s.heap.objs.size 0 Ε->h'.IsTupleIter s.heap.objs.size l 0->h'.objs.size=s.heap.objs.size+2->(∀ (b:Addr) (o:Obj),s.heap.get? b=some o->h'.get? b=some o)->Q (ω (s.heap.objs.size+1)) { s with heap:=h' }):
  ψ (Ζ prog w) A (call (Ψ "enumerate") [ω l]) Q E s:=by
 have hz:=dg s.heap { cls:=Ψ "tuple_iterator",data:=ϩ #[ω l,ϕ 0 0] }
 refine callType_new F.called_enumerate (by decide) (F.typeCall_enumerate_1 (ω l)) (F.newCall_enumerate_1 (ω l)) (fun obj=>F.args_object_init_2 obj (ω l)) F.entry_enumerate_new (uA l items) ⟨hl,?_⟩
 have he:=ς (s.heap.push { cls:=Ψ "tuple_iterator",data:=ϩ #[ω l,ϕ 0 0] }) (o:={ cls:=Ψ "enumerate",data:=ϩ #[Ε,Ω false,ω s.heap.objs.size,aF 0,Ε,Ε] }) rfl
 have hi:=η { cls:=Ψ "enumerate",data:=ϩ #[Ε,Ω false,ω s.heap.objs.size,aF 0,Ε,Ε] } (ς s.heap (o:={ cls:=Ψ "tuple_iterator",data:=ϩ #[ω l,ϕ 0 0] }) rfl)
 have hz2:=dg (s.heap.push { cls:=Ψ "tuple_iterator",data:=ϩ #[ω l,ϕ 0 0] }) { cls:=Ψ "enumerate",data:=ϩ #[Ε,Ω false,ω s.heap.objs.size,aF 0,Ε,Ε] }
 show bU _ _ "enumerate"/\_
 rw [hz] at he ⊢
 exact ⟨⟨_,he,rfl⟩,h _ he ⟨_,hi,rfl,rfl⟩ (by rw [hz2,hz]) fun b o hb=>η _ (η _ hb)⟩
noncomputable def Ite (K:W.Frag) (l:Addr):It:=
 ⟨fun i H=>∃ xs x,SqL K H l xs/\xs[i]?=some x,fun i H x H'=>∃ p y,H p=none/\x=.ref p/\H'=upd H p (.tup [.int i,y])/\∀ xs,SqL K H l xs->xs[i]?=some y,fun i H=>∃ xs,SqL K H l xs/\xs.length<=i⟩
theorem Uw {P:Ν}{w:ϖ}{K:W.Frag}{elts:List Expr}{kk:Nat}{pos:Pos}(l e it:Addr) (hne:e≠it):
  Turn P w K (.Tuple elts kk pos) (Ite K l) [e,it] e (fun i h=>(∃ old,IsEnum h e it i old)/\h.IsListIter it l i) where
 mem:=by simp
 obj:=fun i h st b hb=>by
  obtain ⟨⟨old,he⟩,hit⟩:=st
  have hb':b=e\/b=it:=by simpa using hb
  rcases hb' with rfl | rfl
  ·exact ⟨_,he,fun v z=>by cases z⟩
  ·obtain ⟨o,q,c,d⟩:=hit
   exact ⟨o,q,fun v z=>by rw [d] at z;cases z⟩
 keep:=fun i h h' st k=>by
  obtain ⟨⟨old,he⟩,hit⟩:=st
  exact ⟨⟨old,k e (by simp) _ he⟩,hit.at fun o q=>k it (by simp) o q⟩
 item:=by
  intro X hP hw hK hc i pJ s σ H E I hf st hg
  subst hP hw hK
  obtain ⟨⟨old,he⟩,hit⟩:=st
  obtain ⟨xs,x,hq,hx⟩:=hg
  obtain ⟨its,rv,p,hz⟩:=I.list hq
  obtain ⟨u,hu,ru⟩:=rv.get hx
  have f1:=hf e (by simp)
  have f2:=hf it (by simp)
  have hT:H s.heap.objs.size=none:=I.hok.fresh (ξ _)
  refine wpAny_pyNext_enum_item he hit p.isList (x:=u) (by simpa using hu) hne fun h' ho hit' hTp hsz hk=>⟨_,rfl,?_⟩
  refine oM ho fun h2 he2 hs2=>?_
  have kept:∀ b o,b ∉ [e,it]->s.heap.get? b=some o->h2.get? b=some o:=fun b o hb q=>(hs2.2 b fun z=>hb (by simp [z])).trans (hk b o (fun z=>hb (by simp [z])) (fun z=>hb (by simp [z])) q)
  have nT:∀ b o,s.heap.get? b=some o->b≠s.heap.objs.size:=fun b o q=>Λ (χ q)
  have htr:∀ b o,H b=some o->b ∉ [e,it]:=fun b o q hb=>by
   have hb':b=e\/b=it:=by simpa using hb
   rcases hb' with rfl | rfl
   ·rw [f1.1] at q;cases q
   ·rw [f2.1] at q;cases q
  have eT:h2.get? s.heap.objs.size=some { cls:=.type "tuple",data:=.seq #[.int i s.toks,u] }:=(hs2.2 _ (d8 (χ he))).trans hTp
  have hok:HOk X.prog X.w (upd H s.heap.objs.size (.tup [.int i,x])) h2:=fun b o q=>by
   by_cases hb:b=s.heap.objs.size
   ·subst hb
    rw [zj] at q
    cases q
    exact ⟨by show 2<=sizeLine;decide,[.int i s.toks,u],.cons ⟨_,rfl⟩ (.cons ru .nil),⟨_,eT,rfl,_,rfl⟩⟩
   ·rw [zc hb] at q
    refine (I.hok b o q).stay (fun c v hcv r=>kept c v ?_ r) (fun c r=>by rw [zc (zf r hT)];exact r) fun c ys r=>by rw [zc (zf r hT)];exact r
    rcases hcv with rfl | hcv
    ·exact htr _ _ q
    ·exact htr _ _ hcv
  refine ⟨.ref s.heap.objs.size,upd H s.heap.objs.size (.tup [.int i,x]),?_,rfl,⟨_,x,hT,rfl,rfl,fun ys hy=>by rw [I.WY hy hq];exact hx⟩,⟨⟨u,by simpa using he2⟩,hit'.at fun o q=>(hs2.2 it hne.symm).trans q⟩,fun b hb=>?_⟩
  ·refine Inv.step (s:=s) (H:=H) (h':=h2) (g':=s.gens) (d':=s.drawn) (t':=s.toks+1) (ch:=[e,it]) I (fun b hb=>?_) (fun b o _ _ hb q _=>kept b o hb q) (fun b o _ _ hb q _=>⟨o.slots,kept b o hb q⟩) (fun b o _ q n=>by rw [zc (nT b o q)];exact n) (fun b o hb q=>⟨o,kept b o hb q⟩)
    (fun b ys q=>by rw [zc (zf q hT)];exact q) (fun b o v q=>by rw [zc (zf q hT)];exact q) (fun b ps q=>⟨#[],by rw [zc (zf q hT),q];simp⟩) (fun m hm=>?_) hok I.bare
   ·have hb':b=e\/b=it:=by simpa using hb
    rcases hb' with rfl | rfl
    ·exact ⟨f1.2.2.2.1,f1.2.1,f1.2.2.2.2.1,f1.2.2.2.2.2⟩
    ·exact ⟨f2.2.2.2.1,f2.2.1,f2.2.2.2.2.1,f2.2.2.2.2.2⟩
   ·obtain ⟨o,es,ep,q,r⟩:=hm
    exact ⟨o,es,ep,kept _ o (fun hb=>by
     have hb':X.env.locals=e\/X.env.locals=it:=by simpa using hb
     rcases hb' with z | z
     ·exact f1.2.1 z.symm
     ·exact f2.2.1 z.symm) q,r⟩
  ·have hb':b=e\/b=it:=by simpa using hb
   rcases hb' with rfl | rfl
   ·rw [zc (nT _ _ he)];exact f1.1
   ·obtain ⟨o,q,_⟩:=hit
    rw [zc (nT _ _ q)];exact f2.1
 done:=by
  intro X hP hw hK hc i pJ s σ H E I hf st hg
  subst hP hw hK
  obtain ⟨⟨old,he⟩,hit⟩:=st
  obtain ⟨xs,hq,hx⟩:=hg
  obtain ⟨its,rv,p,hz⟩:=I.list hq
  obtain ⟨f0,f1,f2,f3,f4,f5⟩:=hf it (by simp)
  have hl:=rv.length
  exact wpAny_pyNext_enum_end (I.ok.hd hc) he hit p.isList (by simp;lia) fun h' eb=>⟨rfl,I.turned (t':=s.toks) (fun b o hb q=>eb b o hb q) f0 f1 f3 f4 f5⟩
 self:=fun A i s Q E st h=>by
  obtain ⟨⟨old,he⟩,_⟩:=st
  exact gR he h
noncomputable def Itet (K:W.Frag) (l:Addr):It:=
 ⟨fun i H=>∃ xs x,SqT K H l xs/\xs[i]?=some x,fun i H x H'=>∃ p y,H p=none/\x=.ref p/\H'=upd H p (.tup [.int i,y])/\∀ xs,SqT K H l xs->xs[i]?=some y,fun i H=>∃ xs,SqT K H l xs/\xs.length<=i⟩
theorem Vz {P:Ν}{w:ϖ}{K:W.Frag}{elts:List Expr}{kk:Nat}{pos:Pos}(l e it:Addr) (hne:e≠it):
  Turn P w K (.Tuple elts kk pos) (Itet K l) [e,it] e (fun i h=>(∃ old,IsEnum h e it i old)/\h.IsTupleIter it l i) where
 mem:=by simp
 obj:=fun i h st b hb=>by
  obtain ⟨⟨old,he⟩,hit⟩:=st
  have hb':b=e\/b=it:=by simpa using hb
  rcases hb' with rfl | rfl
  ·exact ⟨_,he,fun v z=>by cases z⟩
  ·obtain ⟨o,q,c,d⟩:=hit
   exact ⟨o,q,fun v z=>by rw [d] at z;cases z⟩
 keep:=fun i h h' st k=>by
  obtain ⟨⟨old,he⟩,hit⟩:=st
  exact ⟨⟨old,k e (by simp) _ he⟩,hit.at fun o q=>k it (by simp) o q⟩
 item:=by
  intro X hP hw hK hc i pJ s σ H E I hf st hg
  subst hP hw hK
  obtain ⟨⟨old,he⟩,hit⟩:=st
  obtain ⟨xs,x,hq,hx⟩:=hg
  obtain ⟨its,rv,p,hz⟩:=I.tuple hq
  obtain ⟨u,hu,ru⟩:=rv.get hx
  have f1:=hf e (by simp)
  have f2:=hf it (by simp)
  have hT:H s.heap.objs.size=none:=I.hok.fresh (ξ _)
  refine ur he hit (show s.heap.IsTuple l its.toArray from p) (x:=u) (by simpa using hu) hne fun h' ho hit' hTp hsz hk=>⟨_,rfl,?_⟩
  refine oM ho fun h2 he2 hs2=>?_
  have kept:∀ b o,b ∉ [e,it]->s.heap.get? b=some o->h2.get? b=some o:=fun b o hb q=>(hs2.2 b fun z=>hb (by simp [z])).trans (hk b o (fun z=>hb (by simp [z])) (fun z=>hb (by simp [z])) q)
  have nT:∀ b o,s.heap.get? b=some o->b≠s.heap.objs.size:=fun b o q=>Λ (χ q)
  have htr:∀ b o,H b=some o->b ∉ [e,it]:=fun b o q hb=>by
   have hb':b=e\/b=it:=by simpa using hb
   rcases hb' with rfl | rfl
   ·rw [f1.1] at q;cases q
   ·rw [f2.1] at q;cases q
  have eT:h2.get? s.heap.objs.size=some { cls:=.type "tuple",data:=.seq #[.int i s.toks,u] }:=(hs2.2 _ (d8 (χ he))).trans hTp
  have hok:HOk X.prog X.w (upd H s.heap.objs.size (.tup [.int i,x])) h2:=fun b o q=>by
   by_cases hb:b=s.heap.objs.size
   ·subst hb
    rw [zj] at q
    cases q
    exact ⟨by show 2<=sizeLine;decide,[.int i s.toks,u],.cons ⟨_,rfl⟩ (.cons ru .nil),⟨_,eT,rfl,_,rfl⟩⟩
   ·rw [zc hb] at q
    refine (I.hok b o q).stay (fun c v hcv r=>kept c v ?_ r) (fun c r=>by rw [zc (zf r hT)];exact r) fun c ys r=>by rw [zc (zf r hT)];exact r
    rcases hcv with rfl | hcv
    ·exact htr _ _ q
    ·exact htr _ _ hcv
  refine ⟨.ref s.heap.objs.size,upd H s.heap.objs.size (.tup [.int i,x]),?_,rfl,⟨_,x,hT,rfl,rfl,fun ys hy=>by rw [I.Zd hy hq];exact hx⟩,⟨⟨u,by simpa using he2⟩,hit'.at fun o q=>(hs2.2 it hne.symm).trans q⟩,fun b hb=>?_⟩
  ·refine Inv.step (s:=s) (H:=H) (h':=h2) (g':=s.gens) (d':=s.drawn) (t':=s.toks+1) (ch:=[e,it]) I (fun b hb=>?_) (fun b o _ _ hb q _=>kept b o hb q) (fun b o _ _ hb q _=>⟨o.slots,kept b o hb q⟩) (fun b o _ q n=>by rw [zc (nT b o q)];exact n) (fun b o hb q=>⟨o,kept b o hb q⟩)
    (fun b ys q=>by rw [zc (zf q hT)];exact q) (fun b o v q=>by rw [zc (zf q hT)];exact q) (fun b ps q=>⟨#[],by rw [zc (zf q hT),q];simp⟩) (fun m hm=>?_) hok I.bare
   ·have hb':b=e\/b=it:=by simpa using hb
    rcases hb' with rfl | rfl
    ·exact ⟨f1.2.2.2.1,f1.2.1,f1.2.2.2.2.1,f1.2.2.2.2.2⟩
    ·exact ⟨f2.2.2.2.1,f2.2.1,f2.2.2.2.2.1,f2.2.2.2.2.2⟩
   ·obtain ⟨o,es,ep,q,r⟩:=hm
    exact ⟨o,es,ep,kept _ o (fun hb=>by
     have hb':X.env.locals=e\/X.env.locals=it:=by simpa using hb
     rcases hb' with z | z
     ·exact f1.2.1 z.symm
     ·exact f2.2.1 z.symm) q,r⟩
  ·have hb':b=e\/b=it:=by simpa using hb
   rcases hb' with rfl | rfl
   ·rw [zc (nT _ _ he)];exact f1.1
   ·obtain ⟨o,q,_⟩:=hit
    rw [zc (nT _ _ q)];exact f2.1
 done:=by
  intro X hP hw hK hc i pJ s σ H E I hf st hg
  subst hP hw hK
  obtain ⟨⟨old,he⟩,hit⟩:=st
  obtain ⟨xs,hq,hx⟩:=hg
  obtain ⟨its,rv,p,hz⟩:=I.tuple hq
  obtain ⟨f0,f1,f2,f3,f4,f5⟩:=hf it (by simp)
  have hl:=rv.length
  exact xq (I.ok.hd hc) he hit (show s.heap.IsTuple l its.toArray from p) (by simp;lia) fun h' eb=>⟨rfl,I.turned (t':=s.toks) (fun b o hb q=>eb b o hb q) f0 f1 f3 f4 f5⟩
 self:=fun A i s Q E st h=>by
  obtain ⟨⟨old,he⟩,_⟩:=st
  exact gR he h
section
variable {κ:Type} [DecidableEq κ]
noncomputable def valV (kvs:List (κ×V)) (k:κ):Option V:=(kvs.find? fun kv=>decide (kv.1=k)).map (·.2)
noncomputable def putK (kvs:List (κ×V)) (k:κ) (v:V):List (κ×V):=
 if (kvs.any fun kv=>decide (kv.1=k))=true then kvs.map (fun kv=>if kv.1=k then (kv.1,v) else kv) else kvs++[(k,v)]
noncomputable def dropK (kvs:List (κ×V)) (k:κ):List (κ×V):=kvs.filter fun kv=>decide (kv.1≠k)
theorem xH {p:κ×V}{r:List (κ×V)}{k:κ}(e:p.1=k):valV (p::r) k=some p.2:=by simp [valV,dM,e]
theorem xJ {p:κ×V}{r:List (κ×V)}{k:κ}(e:¬ p.1=k):valV (p::r) k=valV r k:=by simp [valV,dM,e]
theorem Wa (k:κ):∀ kvs:List (κ×V),(kvs.any fun kv=>decide (kv.1=k))=(valV kvs k).isSome
 | []=>rfl
 | p::r=>by
  rw [eX]
  by_cases e:p.1=k
  ·simp only [xH e,decide_eq_true e,Bool.true_or,Option.isSome_some]
  ·rw [xJ e,decide_eq_false e,lA];exact Wa k r
theorem xr (kvs:List (κ×V)) (k:κ) (v:V):(putK kvs k v).length<=kvs.length+1:=by
 unfold putK
 split
 ·rw [ν];lia
 ·rw [Ο,bh,ie];lia
theorem RelO.yI {o:Option V}{u:Option δ}(r:RelO o u):o.isSome=u.isSome:=by
 cases o with
 | none=>cases u with
  | none=>rfl
  | some _=>exact (show False from r).elim
 | some _=>cases u with
  | none=>exact (show False from r).elim
  | some _=>rfl
theorem RelO.getD {o:Option V}{u:Option δ}{d:V}{d':δ}(r:RelO o u) (rd:RelV d d'):RelV (o.getD d) (u.getD d'):=by
 cases o with
 | none=>cases u with
  | none=>exact rd
  | some _=>exact (show False from r).elim
 | some _=>cases u with
  | none=>exact (show False from r).elim
  | some _=>exact r
theorem KV.val {kvs:List (κ×V)}{vs:List (κ×δ)}(r:KV kvs vs) (k:κ):RelO (valV kvs k) (iK vs k):=by
 unfold KV at r
 induction r with
 | nil=>exact Ϸ
 | @cons p q ps qs h t ih=>
  obtain ⟨h1,h2⟩:=h
  by_cases e:p.1=k
  ·have e':q.1=k:=h1.symm.trans e
   have b:iK (q::qs) k=some q.2:=by simp [iK,dM,e']
   rw [xH e,b];exact h2
  ·have e':¬ q.1=k:=fun z=>e (h1.trans z)
   have b:iK (q::qs) k=iK qs k:=by simp [iK,dM,e']
   rw [xJ e,b];exact ih
theorem KV.any {kvs:List (κ×V)}{vs:List (κ×δ)}(r:KV kvs vs) (k:κ):(kvs.any fun kv=>decide (kv.1=k))=vs.any fun kv=>decide (kv.1=k):=by
 unfold KV at r
 induction r with
 | nil=>rfl
 | cons h t ih=>rw [eX,eX,ih,h.1]
theorem KV.repl {kvs:List (κ×V)}{vs:List (κ×δ)}(r:KV kvs vs) (k:κ) {y:V}{u:δ}(ry:RelV y u):
  KV (kvs.map fun kv=>if kv.1=k then (kv.1,y) else kv) (vs.map fun kv=>if kv.1=k then (kv.1,u) else kv):=by
 unfold KV at r ⊢
 induction r with
 | nil=>exact .nil
 | @cons p q ps qs h t ih=>
  rw [ϟ,ϟ]
  refine .cons ?_ ih
  obtain ⟨h1,h2⟩:=h
  by_cases e:p.1=k
  ·rw [if_pos e,if_pos (h1.symm.trans e)];exact ⟨h1,ry⟩
  ·rw [if_neg e,if_neg (fun z=>e (h1.trans z))];exact ⟨h1,h2⟩
theorem KV.put {kvs:List (κ×V)}{vs:List (κ×δ)}(r:KV kvs vs) (k:κ) {y:V}{u:δ}(ry:RelV y u):KV (putK kvs k y) (stored vs k u):=by
 unfold putK stored
 rw [r.any k]
 by_cases e:(vs.any fun kv=>decide (kv.1=k))=true
 ·rw [if_pos e,if_pos e];exact r.repl k ry
 ·rw [if_neg e,if_neg e];exact dO.snoc r ⟨rfl,ry⟩
theorem KV.drop {kvs:List (κ×V)}{vs:List (κ×δ)}(r:KV kvs vs) (k:κ):KV (dropK kvs k) (without vs k):=by
 unfold KV at r ⊢
 unfold dropK without
 induction r with
 | nil=>exact .nil
 | @cons p q ps qs h t ih=>
  obtain ⟨h1,h2⟩:=h
  rw [gK,gK]
  by_cases e:p.1=k
  ·have a:¬ decide (p.1≠k)=true:=by simp [e]
   have b:¬ decide (q.1≠k)=true:=by simp [h1.symm.trans e]
   rw [if_neg a,if_neg b];exact ih
  ·have e':¬ q.1=k:=fun z=>e (h1.trans z)
   have a:decide (p.1≠k)=true:=by simp [e]
   have b:decide (q.1≠k)=true:=by simp [e']
   rw [if_pos a,if_pos b];exact .cons ⟨h1,h2⟩ ih
theorem KV.length {kvs:List (κ×V)}{vs:List (κ×δ)}(r:KV kvs vs):kvs.length=vs.length:=iR r
end
theorem kV_is {P:Ν}{w:ϖ}{k:Key}{u:δ}(r:RelV (kV k) u):(zF P w).is k u=true:=by
 cases k with
 | inl i=>obtain ⟨t,e⟩:=(show ∃ t,u=ϕ i t from r);subst e;exact Xc P w i t
 | inr x=>obtain ⟨t,e⟩:=(show ∃ t,u=bC x t from r);subst e;exact Xb P w x t
theorem Z1 {P:Ν}{w:ϖ}:∀ {ks:List Key}{us:List δ},Vals (ks.map kV) us->ItemsAre (zF P w) ks us
 | [],_,r=>by rw [fO] at r;cases r;exact .nil
 | k::ks,_,r=>by
  rw [ϟ] at r
  cases r with
  | cons h t=>exact .cons (kV_is h) (Z1 t)
abbrev KT (H:Hp):List (List Key×V)->List (List Key×Addr×δ)->Prop:=dO fun p q=>p.1=q.1/\H q.2.1=some (.tup (p.1.map kV))/\RelV p.2 q.2.2
theorem KT.val {H:Hp}{kvs:List (List Key×V)}{xs:List (List Key×Addr×δ)}(r:KT H kvs xs) (k:List Key):RelO (valV kvs k) ((atKey xs k).map (·.2)):=by
 induction r with
 | nil=>exact Ϸ
 | @cons p q ps qs h t ih=>
  obtain ⟨h1,_,h2⟩:=h
  by_cases e:p.1=k
  ·have e':q.1=k:=h1.symm.trans e
   have b:atKey (q::qs) k=some q.2:=by simp [atKey,dM,e']
   rw [xH e,b];exact h2
  ·have e':¬ q.1=k:=fun z=>e (h1.trans z)
   have b:atKey (q::qs) k=atKey qs k:=by simp [atKey,dM,e']
   rw [xJ e,b];exact ih
theorem KT.repl {H:Hp}{kvs:List (List Key×V)}{xs:List (List Key×Addr×δ)}(r:KT H kvs xs) (k:List Key) {y:V}{u:δ}(ry:RelV y u):
  KT H (kvs.map fun kv=>if kv.1=k then (kv.1,y) else kv) (xs.map (putAt k u)):=by
 induction r with
 | nil=>exact .nil
 | @cons p q ps qs h t ih=>
  rw [ϟ,ϟ]
  refine .cons ?_ ih
  obtain ⟨h1,h2,h3⟩:=h
  unfold putAt
  by_cases e:p.1=k
  ·rw [if_pos e,if_pos (h1.symm.trans e)];exact ⟨h1,h2,ry⟩
  ·rw [if_neg e,if_neg (fun z=>e (h1.trans z))];exact ⟨h1,h2,h3⟩
theorem KT.put {H:Hp}{kvs:List (List Key×V)}{xs:List (List Key×Addr×δ)}(r:KT H kvs xs) (k:List Key) {b:Addr}{y:V}{u:δ}(hb:H b=some (.tup (k.map kV))) (ry:RelV y u):
  KT H (putK kvs k y) (storedH xs k b u):=by
 have e:(kvs.any fun kv=>decide (kv.1=k))=(atKey xs k).isSome:=by
  rw [Wa,(r.val k).yI,lC]
 unfold putK storedH
 rw [e]
 by_cases q:(atKey xs k).isSome=true
 ·rw [if_pos q,if_pos q];exact r.repl k ry
 ·rw [if_neg q,if_neg q];exact dO.snoc r ⟨rfl,hb,ry⟩
theorem KT.keeps {H H':Hp}{kvs:List (List Key×V)}{xs:List (List Key×Addr×δ)}(r:KT H kvs xs) (ht:∀ b ys,H b=some (.tup ys)->H' b=some (.tup ys)):KT H' kvs xs:=
 dO.mapP r fun _ _ z=>⟨z.1,ht _ _ z.2.1,z.2.2⟩
section
variable {P:Ν}{w:ϖ}{H:Hp}{h:Heap}{a:Addr}
theorem rd_of {u:HO}(ok:HOk P w H h) (e:Rd H a u):ObjOk P w H h a u:=e.ok ok
theorem dk_rd {kvs:List (Key×V)}(ok:HOk P w H h) (e:Rd H a (.dK kvs)):kvs.length<=sizeLine/\(a==cP)=false/\∃ vs,KV kvs vs/\h.DictOf (zF P w) a vs:=
 show ObjOk P w H h a (.dK kvs) from rd_of ok e
theorem dk_of {kvs:List (Key×V)}(ok:HOk P w H h) (e:H a=some (.dK kvs)):kvs.length<=sizeLine/\(a==cP)=false/\∃ vs,KV kvs vs/\h.DictOf (zF P w) a vs:=dk_rd ok (.inl e)
theorem key_of {ks:List Key}(ok:HOk P w H h) (e:H a=some (.tup (ks.map kV))):(fG (zF P w)).is h ks a:=by
 obtain ⟨_,its,r,o,h1,h2,n,h3⟩:=(show ObjOk P w H h a (.tup (ks.map kV)) from ok a _ e)
 exact ⟨o,its.toArray,n,h1,h2,h3,by simpa using Z1 r⟩
theorem dt_rd {kvs:List (List Key×V)}(ok:HOk P w H h) (e:Rd H a (.dT kvs)):kvs.length<=sizeLine/\(a==cP)=false /\
  ∃ xs,KT H kvs xs/\h.DictOfH (fG (zF P w)) a xs:=by
 obtain ⟨z,y,xs,r,o,es,ep,h1,h2,h3,h4,h5⟩:=(show ObjOk P w H h a (.dT kvs) from rd_of ok e)
 refine ⟨z,y,xs,r,o,es,ep,h1,h2,h3,h4,fun x hx=>?_,h5⟩
 have all:∀ {l:List (List Key×V)}{m:List (List Key×Addr×δ)},KT H l m->∀ x∈m,(fG (zF P w)).is h x.1 x.2.1:=by
  intro l m q
  induction q with
  | nil=>intro x hx;exact nomatch hx
  | @cons p q ps qs hq t ih=>
   intro x hx
   rcases Κ.mp hx with e | hx
   ·subst e
    exact key_of ok (by rw [<- hq.1];exact hq.2.1)
   ·exact ih x hx
 exact all r x hx
theorem dt_of {kvs:List (List Key×V)}(ok:HOk P w H h) (e:H a=some (.dT kvs)):kvs.length<=sizeLine/\(a==cP)=false /\
  ∃ xs,KT H kvs xs/\h.DictOfH (fG (zF P w)) a xs:=dt_rd ok (.inl e)
end
def DGet (H:Hp) (a:Addr) (y:V) (r:Option V):Prop:=
 (∃ kvs k,Rd H a (.dK kvs)/\y=kV k/\r=valV kvs k)\/∃ kvs k b,Rd H a (.dT kvs)/\y=.ref b/\H b=some (.tup (k.map kV))/\r=valV kvs k
def DPut (H:Hp) (a:Addr) (y v:V) (H':Hp):Prop:=
 (∃ kvs k,H a=some (.dK kvs)/\y=kV k/\kvs.length < sizeLine/\H'=upd H a (.dK (putK kvs k v))) \/
 ∃ kvs k b,H a=some (.dT kvs)/\y=.ref b/\H b=some (.tup (k.map kV))/\kvs.length < sizeLine/\H'=upd H a (.dT (putK kvs k v))
theorem DGet.k {H:Hp}{a:Addr}{kvs:List (Key×V)}{k:Key}(e:H a=some (.dK kvs)):DGet H a (kV k) (valV kvs k):=.inl ⟨kvs,k,.inl e,rfl,rfl⟩
theorem DGet.t {H:Hp}{a b:Addr}{kvs:List (List Key×V)}{k:List Key}(e:H a=some (.dT kvs)) (eb:H b=some (.tup (k.map kV))):DGet H a (.ref b) (valV kvs k):=.inr ⟨kvs,k,b,.inl e,rfl,eb,rfl⟩
theorem DPut.k {H:Hp}{a:Addr}{kvs:List (Key×V)}{k:Key}{v:V}(e:H a=some (.dK kvs)) (hl:kvs.length < sizeLine):DPut H a (kV k) v (upd H a (.dK (putK kvs k v))):=.inl ⟨kvs,k,e,rfl,hl,rfl⟩
theorem DPut.t {H:Hp}{a b:Addr}{kvs:List (List Key×V)}{k:List Key}{v:V}(e:H a=some (.dT kvs)) (eb:H b=some (.tup (k.map kV))) (hl:kvs.length < sizeLine):
  DPut H a (.ref b) v (upd H a (.dT (putK kvs k v))):=.inr ⟨kvs,k,b,e,rfl,eb,hl,rfl⟩
section
variable {X:Cx}{pJ:List (Addr×Obj)}{σ:St}{H:Hp}{s:μ}{a:Addr}{y v:V}{u r:δ}{o:Option V}{A:ϗ}{E:VSP}
theorem Inv.big (I:Inv X pJ σ H s):cP < s.heap.objs.size:=by
 have h:Ϗ < s.heap.objs.size:=(I.mod.glob.keeps I.bk).lt
 exact Nat.lt_trans (by decide) h
theorem K7 {Q:VSP}(hu:A.units+1 < ϲ) (I:Inv X pJ σ H s) (g:DGet H a y (some v)) (ry:RelV y u) (h:∀ w' s',Inv X pJ σ H s'->RelV v w'->Q w' s'):
  ψ (Ζ X.prog X.w) A (lN (.ref a) u) Q E s:=by
 rcases g with ⟨kvs,k,e,ey,l⟩ | ⟨kvs,k,b,e,ey,eb,l⟩
 ·subst ey
  obtain ⟨z,hd,vs,rel,dd⟩:=dk_rd I.hok e
  obtain ⟨w',hw,rw'⟩:=RelO.some_of (v:=v) (o:=iK vs k) (by rw [l];exact rel.val k)
  exact wpAny_getItem_of (kV_is ry) dd.mapOf hw (h w' _ (I.tok _) rw')
 ·subst ey
  cases (show u=ω b from ry)
  obtain ⟨z,hd,xs,rel,dd⟩:=dt_rd I.hok e
  obtain ⟨w',hw,rw'⟩:=RelO.some_of (v:=v) (o:=(atKey xs k).map (·.2)) (by rw [l];exact rel.val k)
  obtain ⟨p,hp,hp2⟩:=Α.mp hw
  refine wpAny_getItem_heap (gC hu) (key_of I.hok eb) dd hp ?_
  rw [hp2]
  exact h w' _ (I.tok _) rw'
theorem d_in {Q:VSP}(hu:A.units+1 < ϲ) (I:Inv X pJ σ H s) (g:DGet H a y o) (ry:RelV y u) (h:∀ s',Inv X pJ σ H s'->Q (.bool o.isSome) s'):
  ψ (Ζ X.prog X.w) A (ϊ .In u (.ref a)) Q E s:=by
 rcases g with ⟨kvs,k,e,ey,l⟩ | ⟨kvs,k,b,e,ey,eb,l⟩
 ·subst ey
  obtain ⟨z,hd,vs,rel,dd⟩:=dk_rd I.hok e
  refine wpAny_in_of (kV_is ry) hd dd.mapOf ?_
  rw [<- (rel.val k).yI,<- l]
  exact h _ (I.tok _)
 ·subst ey
  cases (show u=ω b from ry)
  obtain ⟨z,hd,xs,rel,dd⟩:=dt_rd I.hok e
  refine wpAny_in_heap (gC hu) (key_of I.hok eb) hd dd ?_
  have q:=(rel.val k).yI
  rw [lC] at q
  rw [<- q,<- l]
  exact h _ (I.tok _)
theorem zdD {Q:VSP}(hu:A.units+1 < ϲ) (I:Inv X pJ σ H s) (g:DGet H a y o) (ry:RelV y u) (h:∀ s',Inv X pJ σ H s'->Q (.bool (!o.isSome)) s'):
  ψ (Ζ X.prog X.w) A (ϊ .NotIn u (.ref a)) Q E s:=by
 rcases g with ⟨kvs,k,e,ey,l⟩ | ⟨kvs,k,b,e,ey,eb,l⟩
 ·subst ey
  obtain ⟨z,hd,vs,rel,dd⟩:=dk_rd I.hok e
  refine wpAny_notIn_of (kV_is ry) hd dd.mapOf ?_
  rw [<- (rel.val k).yI,<- l]
  exact h _ (I.tok _)
 ·subst ey
  cases (show u=ω b from ry)
  obtain ⟨z,hd,xs,rel,dd⟩:=dt_rd I.hok e
  refine wpAny_notIn_heap (gC hu) (key_of I.hok eb) hd dd ?_
  have q:=(rel.val k).yI
  rw [lC] at q
  rw [<- q,<- l]
  exact h _ (I.tok _)
theorem uT {h':Heap}{t':Nat}{ob:HO}(I:Inv X pJ σ H s) (mu:Mut (H a)) (hs:ϋ a s.heap h') (he:∃ q,h'.get? a=some q) (new:ObjOk X.prog X.w (upd H a ob) h' a ob):
  Inv X pJ σ (upd H a ob) { s with heap:=h',toks:=t' }:=
 I.write (x:=a) (e:=a) mu (.inl rfl) (fun b q hb z=>(hs.2 b hb).trans z) he new
theorem zbL {P:Ν}{w:ϖ}{H':Hp}{h':Heap}{kvs:List (Key×V)}{vs:List (Key×δ)}(z:kvs.length<=sizeLine) (hd:(a==cP)=false) (rel:KV kvs vs) (dd:h'.DictOf (zF P w) a vs):
  ObjOk P w H' h' a (.dK kvs):=⟨z,hd,vs,rel,dd⟩
theorem K6 {H':Hp}{Q:Unit->μ->Prop}(hu:A.units+1 < ϲ) (I:Inv X pJ σ H s) (g:DPut H a y v H') (ry:RelV y u) (rv:RelV v r) (h:∀ s',Inv X pJ σ H' s'->Q () s'):
  ψ (Ζ X.prog X.w) A (setItem (.ref a) u r) Q E s:=by
 rcases g with ⟨kvs,k,e,ey,l,eH⟩ | ⟨kvs,k,b,e,ey,eb,l,eH⟩
 ·subst ey eH
  obtain ⟨z,hd,vs,rel,dd⟩:=dk_of I.hok e
  have hz:vs.length<=sizeLine:=by rw [<- rel.length];exact z
  have hl:(putK kvs k v).length<=sizeLine:=by have:=xr kvs k v;lia
  refine wpAny_setItem_pairs (hsz:=hz) (kV_is ry) dd fun h' dd' hs=>h _ ?_
  have he:∃ q,h'.get? a=some q:=let ⟨q,_,_,hq,_⟩:=dd';⟨q,hq⟩
  exact uT I (by rw [e];exact Ϸ) hs he (zbL hl hd (rel.put k rv) dd')
 ·subst ey eH
  cases (show u=ω b from ry)
  obtain ⟨z,hd,xs,rel,dd⟩:=dt_of I.hok e
  have hz:xs.length<=sizeLine:=by rw [<- iR rel];exact z
  have hl:(putK kvs k v).length<=sizeLine:=by have:=xr kvs k v;lia
  refine wpAny_setItem_heap (hsz:=hz) (gC hu) (key_of I.hok eb) dd fun h' dd' hs=>h _ ?_
  obtain ⟨q,es,ep,hq,h2,h3,h4,_,h5⟩:=dd'
  refine uT I (by rw [e];exact Ϸ) hs ⟨q,hq⟩ ⟨hl,hd,_,(rel.put k eb rv).keeps fun c ys ec=>?_,q,es,ep,hq,h2,h3,h4,h5⟩
  rw [zc (ne_of ec e (fun z=>nomatch z))]
  exact ec
end
section
variable {X:Cx}{pJ:List (Addr×Obj)}{σ:St}{H:Hp}{s:μ}{a:Addr}{kvs:List (Key×V)}{k:Key}{u:δ}{A:ϗ}{E:VSP}
theorem d_len {Q:VSP}(I:Inv X pJ σ H s) (e:Rd H a (.dK kvs)) (h:∀ t s',Inv X pJ σ H s'->Q (.int kvs.length t) s'):ψ (Ζ X.prog X.w) A (call (.builtin "len") [.ref a]) Q E s:=by
 obtain ⟨z,hd,vs,rel,dd⟩:=dk_rd I.hok e
 refine call_len_dict hd dd (by rw [<- rel.length];rw [Ϧ] at z;lia) ?_
 rw [<- rel.length]
 exact h _ _ (I.tok _)
end
theorem Xw {X:Cx}{pJ:List (Addr×Obj)}{σ:St}{H:Hp}{s:μ}{a:Addr}{y:V}{o:Option V}(I:Inv X pJ σ H s) (g:DGet H a y o):s.TypeIs (.ref a) "dict":=by
 rcases g with ⟨kvs,k,e,_,_⟩ | ⟨kvs,k,b,e,_,_,_⟩
 ·obtain ⟨_,_,vs,_,dd⟩:=dk_rd I.hok e
  exact dd.typeIs
 ·obtain ⟨_,_,xs,_,dd⟩:=dt_rd I.hok e
  exact dd.typeIs
theorem Vf {P:Ν}{w:ϖ}{H:Hp}(h:Heap) (hb:cP < h.objs.size):ObjOk P w H (h.push { cls:=.type "dict",data:=.dict #[] }) h.objs.size (.dK []):=
 ⟨Ϣ _,beq_eq_false_iff_ne.mpr (gJ (Λ hb)),[],.nil,Heap.DictOf.new h⟩
theorem Ve {P:Ν}{w:ϖ}{H:Hp}(h:Heap) (hb:cP < h.objs.size):ObjOk P w H (h.push { cls:=.type "dict",data:=.dict #[] }) h.objs.size (.dT []):=
 ⟨Ϣ _,beq_eq_false_iff_ne.mpr (gJ (Λ hb)),[],.nil,_,#[],0,ς _ rfl,⟨rfl,rfl,rfl⟩,rfl,rfl,fW⟩
def zd9:TE:=fun _ H Q=>∀ p,H p=none->Q (.ref p) (upd H p (.dK []))
def zd8:TE:=fun _ H Q=>∀ p,H p=none->Q (.ref p) (upd H p (.dT []))
section
variable {X:Cx}{pos:Pos}
theorem zag:PE X (.Dict [] [] pos) zd9:=fun pJ s σ H Q I h=>
 wpAny_Dict_empty ⟨.ref s.heap.objs.size,_,I.laid (a:=s.heap.objs.size) (o:=.dK []) (t':=s.toks) (fun _ _ q=>η _ q) (ξ _) (Vf s.heap I.big),rfl,h _ (I.hok.fresh (ξ _))⟩
theorem zaf:PE X (.Dict [] [] pos) zd8:=fun pJ s σ H Q I h=>
 wpAny_Dict_empty ⟨.ref s.heap.objs.size,_,I.laid (a:=s.heap.objs.size) (o:=.dT []) (t':=s.toks) (fun _ _ q=>η _ q) (ξ _) (Ve s.heap I.big),rfl,h _ (I.hok.fresh (ξ _))⟩
end
def Wc:List (TE×TE)->St->Hp->(List (V×V)->Hp->Prop)->Prop
 | [],_,H,Q=>Q [] H
 | (tk,tv)::r,σ,H,Q=>tk σ H fun x H1=>tv σ H1 fun y H2=>Wc r σ H2 fun ps H3=>Q ((x,y)::ps) H3
abbrev VV:List (V×V)->List (δ×δ)->Prop:=dO fun p q=>RelV p.1 q.1/\RelV p.2 q.2
def PPs (X:Cx) (pos:Pos) (keys:List (Option Expr)) (values:List Expr) (trs:List (TE×TE)):Prop:=
 ∀ (pJ:List (Addr×Obj)) (s:μ) (σ:St) (H:Hp) (Q:List (V×V)->Hp->Prop),Inv X pJ σ H s->Wc trs σ H Q ->
  ψ (Ζ X.prog X.w) X.A (evalPairs (pairTrees keys values X.env pos)) (fun vs s'=>∃ ps H',Inv X pJ σ H' s'/\VV ps vs/\Q ps H') X.xe s
theorem zcD {X:Cx}{pos:Pos}:PPs X pos [] [] []:=fun pJ s σ H Q I h=>pairTrees_nil_walk ⟨[],H,I,.nil,h⟩
theorem Q9 {X:Cx}{pos:Pos}{k v:Expr}{ks:List (Option Expr)}{vs:List Expr}{tk tv:TE}{trs:List (TE×TE)}(hk:PE X k tk) (hv:PE X v tv) (hr:PPs X pos ks vs trs):
  PPs X pos (some k::ks) (v::vs) ((tk,tv)::trs):=fun pJ s σ H Q I h=>
 pairTrees_cons_walk (thn (hk pJ s σ H _ I h) fun u s1 ⟨x,H1,I1,rx,q1⟩=>thn (hv pJ s1 σ H1 _ I1 q1) fun w2 s2 ⟨y,H2,I2,ry,q2⟩=>
  thn (hr pJ s2 σ H2 _ I2 q2) fun ws s3 ⟨ps,H3,I3,rel,q3⟩=>⟨(x,y)::ps,H3,I3,.cons ⟨rx,ry⟩ rel,q3⟩)
noncomputable def vg (kvs more:List (Key×V)):List (Key×V):=more.foldl (fun acc kv=>putK acc kv.1 kv.2) kvs
theorem KV.merge:∀ {more:List (Key×V)}{rs:List (Key×δ)}{kvs:List (Key×V)}{vs:List (Key×δ)},KV more rs->KV kvs vs->KV (vg kvs more) (merged vs rs):=by
 intro more rs kvs vs r
 unfold KV at r
 induction r generalizing kvs vs with
 | nil=>intro q;exact q
 | @cons p q ps qs h t ih=>
  intro r0
  have e:KV (putK kvs p.1 p.2) (stored vs q.1 q.2):=by
   have:=r0.put p.1 h.2
   rw [<- h.1];exact this
  exact ih e
theorem wg:∀ (more kvs:List (Key×V)),(vg kvs more).length<=kvs.length+more.length
 | [],kvs=>by show kvs.length<=kvs.length+0;lia
 | p::r,kvs=>by
  have h1:=wg r (putK kvs p.1 p.2)
  have h2:=xr kvs p.1 p.2
  show (vg (putK kvs p.1 p.2) r).length<=_
  rw [bh];lia
theorem jP {P:Ν}{w:ϖ}:∀ {kvs:List (Key×V)}{ws:List (δ×δ)},VV (kvs.map fun kv=>(kV kv.1,kv.2)) ws->∃ rs,Carries (zF P w) ws rs/\KV kvs rs
 | [],_,r=>by rw [fO] at r;cases r;exact ⟨[],Ϸ,.nil⟩
 | p::kvs,_,r=>by
  rw [ϟ] at r
  cases r with
  | @cons a b as bs h t=>
   obtain ⟨rs,c,q⟩:=jP (P:=P) (w:=w) t
   obtain ⟨b1,b2⟩:=b
   exact ⟨(p.1,b2)::rs,⟨kV_is h.1,rfl,c⟩,.cons ⟨rfl,h.2⟩ q⟩
def tDisp (trs:List (TE×TE)):TE:=fun σ H Q=>∀ p,H p=none->Wc trs σ (upd H p (.dK [])) fun ps H2=>H2 p=some (.dK [])/\∃ kvs:List (Key×V),ps=kvs.map (fun kv=>(kV kv.1,kv.2))/\kvs.length<=15/\Q (.ref p) (upd H2 p (.dK (vg [] kvs)))
theorem zcK {X:Cx}{pos:Pos}{keys:List (Option Expr)}{values:List Expr}{trs:List (TE×TE)}(h:PPs X pos keys values trs) (hall:keys.all (·.isSome)=true) (hl:keys.length=values.length) (h0:keys≠[])
  (h15:keys.length<=15):PE X (.Dict keys values pos) (tDisp trs):=by
 intro pJ s σ H Q I q
 have hn:=I.hok.fresh (ξ s.heap.objs.size)
 have I1:=I.laid (a:=s.heap.objs.size) (o:=.dK []) (h':=s.heap.push { cls:=.type "dict",data:=.dict #[] }) (t':=s.toks) (fun _ _ q=>η _ q) (ξ _) (Vf s.heap I.big)
 refine wpAny_Dict_walk (knd:=zF X.prog X.w) hall hl h0 h15 (thn (h pJ _ σ _ _ I1 (q _ hn)) fun ws s2 ⟨ps,H2,I2,rel,e,kvs,ep,lk,q2⟩=>?_)
 subst ep
 obtain ⟨rs,c,rk⟩:=jP (P:=X.prog) (w:=X.w) rel
 obtain ⟨z,hd,vs0,r0,dd⟩:=dk_of I2.hok e
 cases r0
 refine ⟨rs,c,dd,fun h' dd' hs=>⟨.ref s.heap.objs.size,_,?_,rfl,q2⟩⟩
 have hz:(vg [] kvs).length<=sizeLine:=by
  have h1:=wg kvs []
  rw [ie] at h1
  rw [Ϧ];lia
 have he:∃ q,h'.get? s.heap.objs.size=some q:=let ⟨q,_,_,hq,_⟩:=dd';⟨q,hq⟩
 exact uT I2 (by rw [e];exact Ϸ) hs he (zbL hz hd (rk.merge .nil) dd')
def IsD (H:Hp) (a:Addr):Prop:=(∃ kvs,Rd H a (.dK kvs))\/∃ kvs,Rd H a (.dT kvs)
section
variable {X:Cx}{tg:Expr}
noncomputable def Itd (hi:Int) (n:Nat):It:=⟨fun i _=>i < n,fun i H x H'=>H'=H/\x=.int (hi - i),fun i _=>n<=i⟩
theorem Ux {P:Ν}{w:ϖ}{K:PySem.W.Frag}{tg:Expr}(it:Addr) (hi:Int) (n:Nat):Turn P w K tg (Itd hi n) [it] it (fun i h=>nU h it (hi+(i:Nat)*(-1)) ((n:Int) - (i:Nat)) (-1)) where
 mem:=by simp
 obj:=fun i h st b hb=>by
  have e:b=it:=by simpa using hb
  subst e
  exact ⟨_,st,fun v z=>by
   have z':ϩ _=Data.cell v:=z
   cases z'⟩
 keep:=fun i h h' st k=>k it (by simp) _ st
 item:=by
  intro X hP hw hK hc i pJ s σ H E I hf st hg
  subst hP hw hK
  obtain ⟨f0,f1,f2,f3,f4,f5⟩:=hf it (by simp)
  have W:=Walks.range (prog:=X.prog) (w:=X.w) (I.ok.hd hc) it hi (-1) n
  refine W.item i s _ _ hg st fun v h' tk hv st' kk=>?_
  obtain ⟨t,rfl⟩:=hv
  have I1:Inv X pJ σ H { s with heap:=h',toks:=tk }:=I.turned (fun b o hb e=>kk b o (by simpa using hb) e) f0 f1 f3 f4 f5
  refine ⟨_,rfl,go_of (s:={ s with heap:=h',toks:=tk }) (n:="range_iterator") st' rfl rfl (by decide) ⟨.int (hi - i),H,I1,⟨t,?_⟩,⟨rfl,rfl⟩,st',fun b hb=>(hf b hb).1⟩⟩
  rw [show hi+(i:Int)*(-1)=hi - i from by lia]
 done:=by
  intro X hP hw hK hc i pJ s σ H E I hf st hg
  subst hP hw hK
  obtain ⟨f0,f1,f2,f3,f4,f5⟩:=hf it (by simp)
  exact pC (I.ok.hd hc) st (by have:n<=i:=hg;lia) fun h' eb=>⟨rfl,I.turned (t':=s.toks) (fun b o hb e=>eb b o hb e) f0 f1 f3 f4 f5⟩
 self:=fun _ _ _ _ _ st h=>pD st h
end
theorem rangeSize_down (a b:Int):dh a b (-1)=((a - b).toNat:Int):=by
 unfold dh
 rw [if_neg (by decide),show -(-1:Int)=1 from rfl,Int.ediv_one]
 split <;> omega
section
variable {X:Cx}{tg:Expr}
def iDwn (ta:TA):TI:=fun σ H R=>ta σ H fun vs H1=>∃ i j:Int,vs=[.int i,.int j,.int (-1)]/\(-1000001<=i/\i<=1000001/\-1000001<=j/\j<=1000001)/\R (Itd i (i - j).toNat) H1
theorem small_down {a b:Int}(ha:-1000001<=a) (ha':a<=1000001) (hb:-1000001<=b) (hb':b<=1000001):mJ a b (-1)=true:=by
 have hn:=rangeSize_down a b
 unfold mJ
 simp only [hn,ε,decide_eq_true_eq,Β.Range.rangeFitsLong]
 have h1:((a - b).toNat:Int)<=2000002:=by omega
 have h0:(0:Int)<=((a - b).toNat:Int):=by omega
 generalize ((a - b).toNat:Int)=n at h0 h1 ⊢
 refine ⟨by omega,?_⟩
 rw [if_neg (by decide),ik,ε,decide_eq_true_eq,decide_eq_true_eq]
 omega
theorem zaR {pJ:List (Addr×Obj)}{σ:St}{H:Hp}{s:μ}{R:It->Hp->Prop}{E:VSP}{lo hi:Int}{t u v:Tok}{tk:Nat}(I:Inv X pJ σ H s) (h1:-1000001<=hi) (h2:hi<=1000001) (h3:-1000001<=lo) (h4:lo<=1000001)
  (q:R (Itd hi (hi - lo).toNat) H):ψ (Ζ X.prog X.w) X.A (iM (.ref s.heap.objs.size)) (PIE X pJ σ tg R) E { s with heap:=s.heap.push { cls:=.type "range",data:=.fields #[.int hi t,.int lo u,.int (-1) v] },toks:=tk }:=by
 refine wpAny_pyIter_range (IsRange.new ..) (small_down h1 h2 h3 h4) ?_
 have I1:Inv X pJ σ H { s with heap:=s.heap.push { cls:=.type "range",data:=.fields #[.int hi t,.int lo u,.int (-1) v] },toks:=tk }:=I.kept fun b o e=>η _ e
 generalize hs1:({ s with heap:=s.heap.push { cls:=.type "range",data:=.fields #[.int hi t,.int lo u,.int (-1) v] },toks:=tk }:μ)=s1 at I1 ⊢
 refine ⟨s1.heap.objs.size,[s1.heap.objs.size],_,_,H,rfl,I1.kept (t':=s1.toks) fun b o e=>η _ e,Ux _ hi (hi - lo).toNat,?_,fun b hb=>?_,q⟩
 ·show nU _ _ (hi+((0:Nat):Int)*(-1)) ((((hi - lo).toNat:Nat):Int) - ((0:Nat):Int)) (-1)
  rw [show hi+((0:Nat):Int)*(-1)=hi from by omega,show (((hi - lo).toNat:Nat):Int) - ((0:Nat):Int)=dh hi lo (-1) from by rw [rangeSize_down];omega]
  exact ς _ rfl
 ·have e:b=s1.heap.objs.size:=by simpa using hb
  subst e
  exact I1.fpOk (ξ _) (I1.hok.fresh (ξ _))
theorem Js {a b c:Expr}{ta:TA}{p pos:Pos}(hg:Gl X "range") (hm:X.mg "range"=none) (ha:PA X [a,b,c] ta) (hs:Ϝ [a,b,c] X.env=(false,eval a X.env)::Ϝ [b,c] X.env) (hs2:(dB pos (Ϝ [b,c] X.env)).any (·.1)=false):
  PI X tg (.Call (.Name "range" p) [a,b,c] [] pos) (iDwn ta):=by
 intro pJ s σ H R I h
 refine Call_ (vh I hg hm boot_range (aC (thn (ha pos pJ s σ H _ I h) fun us s1 ⟨vs,H1,I1,r1,q1⟩=>?_) hs hs2))
 obtain ⟨i,j,e,⟨q1,q2,q3,q4⟩,q⟩:=q1
 subst e
 cases r1 with
 | cons r rr=>
  cases rr with
  | cons r' rr=>
   cases rr with
   | cons r2 rr=>
    cases rr
    obtain ⟨t,rfl⟩:=r
    obtain ⟨t',rfl⟩:=r'
    obtain ⟨t2,rfl⟩:=r2
    exact call_range_3 (by decide) (zaR I1 q1 q2 q3 q4 q) (Or.inl (PyProof.noPylong_small (by omega)))
end
section
variable {X:Cx}
def rExt2 (K:W.Frag):V->List V->Hp->VK->Prop:=fun x vs H Q=>∃ l b xs zs,x=.ref l/\vs=[.ref b]/\H l=some (.lst xs)/\(H b=some (.lst zs)\/SqT K H b zs)/\xs.length+zs.length<=sizeLine/\Q .non (upd H l (.lst (xs++zs)))
theorem zdb:MtM X "list.extend" (rExt2 X.K):=by
 intro pJ s σ H x vs v us Q I rx rv h
 obtain ⟨l,b,xs,zs,e1,e2,hH,hB,hz,q⟩:=h
 rcases hB with hB | hB
 ·exact JZ pJ s σ H x vs v us Q I rx rv ⟨l,b,xs,zs,e1,e2,hH,hB,hz,q⟩
 ·subst e1 e2
  cases rx
  obtain ⟨u,rfl,ru⟩:=rv.one
  cases ru
  obtain ⟨z,its,n,r,hl,e⟩:=I.lstM hH
  obtain ⟨its2,r2,⟨o,ho,hc,n2,hd⟩,z2⟩:=I.tuple hB
  have l1:=r.length
  have l2:=r2.length
  have hsz:its.toArray.size+its2.toArray.size<=sizeLine:=by rw [ο,ο];omega
  refine ϒ F.slot_list_extend ⟨_,e,rfl⟩ F.entry_list_extend ?_ (F.args_list_extend_2 _ _)
  show ψ _ _ (aD (.ref l) (.ref b) .none) _ _ _
  unfold aD
  refine γ (bL (T:="tuple") ⟨o,ho,hc⟩ ?_)
  rw [if_pos (by simp)]
  refine γ (pH ho hd (γ (pH e rfl ?_)))
  rw [if_neg (by rw [WN hsz,iJ];exact Μ)]
  refine γ (gZ e rfl (ζ ⟨_,rfl,?_⟩) (by rw [ο];omega) (by rw [Array.size_append];omega))
  refine ⟨.non,_,I.lset (f:=fun x=>x++its2.toArray) (its':=its++its2) (t':=s.toks) hH e (by simp) (r.append r2) ?_,rfl,q⟩
  rw [Ο]
  omega
end
theorem PE.imp {X:Cx}{e:Expr}{t t':TE}(h:PE X e t) (i:∀ σ H Q,t' σ H Q->t σ H Q):PE X e t':=fun pJ s σ H Q I q=>h pJ s σ H Q I (i σ H Q q)
theorem PT.imp {X:Cx}{e:Expr}{t t':TT}(h:PT X e t) (i:∀ σ H Q,t' σ H Q->t σ H Q):PT X e t':=fun pJ s σ H Q I q=>h pJ s σ H Q I (i σ H Q q)
theorem PA.imp {X:Cx}{e:List Expr}{t t':TA}(h:PA X e t) (i:∀ σ H Q,t' σ H Q->t σ H Q):PA X e t':=fun pos pJ s σ H Q I q=>h pos pJ s σ H Q I (i σ H Q q)
theorem PS.imp {X:Cx}{e:Stmt}{t t':TS}(h:PS X e t) (i:∀ D σ H,t' D σ H->t D σ H):PS X e t':=fun pJ s σ H D I q=>h pJ s σ H D I (i D σ H q)
theorem PSs.imp {X:Cx}{e:List Stmt}{t t':TS}(h:PSs X e t) (i:∀ D σ H,t' D σ H->t D σ H):PSs X e t':=fun pJ s σ H D I q=>h pJ s σ H D I (i D σ H q)
section
variable {fs ex:List Addr}{H H1:Hp}{h h1 h':Heap}{C:Addr}
theorem Un.sameBut (u:Un fs ex H H1 h h1) (sb:ϋ C h1 h') (hC:h.objs.size<=C):Un fs ex H H1 h h':=by
 have ne:∀ b o,h.get? b=some o->b≠C:=fun b o e=>Λ (ό (χ e) hC)
 refine ⟨fun b o e n hb hx=>(sb.2 b (ne b o e)).trans (u.keep b o e n hb hx),fun b o e n hb hx=>?_,u.free,fun b o e hx=>?_,u.tups,u.frzs,u.tbls⟩
 ·obtain ⟨sl,q⟩:=u.slot b o e n hb hx
  exact ⟨sl,(sb.2 b (ne b o e)).trans q⟩
 ·obtain ⟨o',q⟩:=u.there b o e hx
  exact ⟨o',(sb.2 b (ne b o e)).trans q⟩
theorem HOk.sameBut {P:Ν}{w:ϖ}(x:HOk P w H h) (sb:ϋ C h h') (hC:H C=none):HOk P w H h':=fun b o e=>by
 refine (x b o e).stay (fun c v hc q=>(sb.2 c ?_).trans q) (fun _ q=>q) fun _ _ q=>q
 rintro rfl
 rcases hc with rfl | hc
 ·rw [hC] at e;cases e
 ·rw [hC] at hc;cases hc
end
noncomputable def rows (σ:St) (js:List Nat):St:=js.map fun j=>σ.getD j none
section
variable {X:Cx}
theorem XC:CallR X (.builtin "isinstance") (fun xs H Q=>∃ x T t b,xs=[x,.ty T]/\TyOf X.K H x t/\W.kitOne X.K t (.type T)=some b/\Q (.bl b) H):=by
 intro pJ s σ H vs us Q I rv h
 obtain ⟨x,T,t,b,rfl,ty,e,q⟩:=h
 obtain ⟨u,v,rfl,ru,rt⟩:=rv.two
 cases (show v=Ψ T from rt)
 exact Kp I ru ty e fun tk=>⟨.bl b,H,I.tok tk,rfl,q⟩
theorem ze6:OpR X (ϊ .Is) (fun x y H Q=>∃ a b,x=.bl a/\y=.bl b/\Q (.bl (a==b)) H):=by
 intro pJ s σ H x y v u Q I rx ry h
 obtain ⟨a,b,rfl,rfl,q⟩:=h
 cases rx
 cases ry
 exact is_bool (Yd I q rfl)
theorem zcS:OpR X (ϊ .IsNot) (fun x y H Q=>∃ a b,x=.bl a/\y=.bl b/\Q (.bl (a != b)) H):=by
 intro pJ s σ H x y v u Q I rx ry h
 obtain ⟨a,b,rfl,rfl,q⟩:=h
 cases rx
 cases ry
 exact isnot_bool (Yd I q rfl)
def CDivW (_ j:Int):Prop:=0 < j/\j < 2 ^ 64
theorem zam:OpR X (bQ .FloorDiv) (rI CDivW fun i j=>.int (i / j)):=opI fun i j _ _ _ _ _ hc q=>by
 have e:i.fdiv j=i / j:=Int.fdiv_eq_ediv_of_nonneg _ (Int.le_of_lt hc.1)
 refine floordiv_int (by have:=hc.1;lia) (by rw [e];exact q) (.inl (PyProof.noPylong_of_log2 ?_))
 have h1:j.natAbs < 2 ^ 64:=by have:=hc.2;have:=hc.1;lia
 by_cases h0:j.natAbs=0
 ·rw [h0];decide
 ·have:=(Nat.log2_lt h0).mpr h1
  lia
theorem valsB:∀ {bs:List Bool}{us:List δ},Vals (bs.map V.bl) us->us=bs.map Ω
 | [],_,.nil=>rfl
 | b::bs,_,.cons r t=>by
  cases (show _=Ω b from r)
  rw [valsB t]
  rfl
theorem VJ (bs:List Bool):((Η bs.length).all fun i=>(bs[i]?).getD true)=bs.all id:=by
 rw [mK,aO,aO]
 constructor
 ·intro h b hb
  obtain ⟨i,hi,rfl⟩:=iY hb
  have:=h i (ϫ.mpr hi)
  simpa [θ hi] using this
 ·intro h i hi
  have hi':=ϫ.mp hi
  have:=h _ (bj hi')
  simpa [θ hi'] using this
theorem VH (bs:List Bool):((Η bs.length).any fun i=>(bs[i]?).getD false)=bs.any id:=by
 rw [mK,bI,bI]
 constructor
 ·rintro ⟨i,hi,e⟩
  have hi':=ϫ.mp hi
  exact ⟨_,bj hi',by simpa [θ hi'] using e⟩
 ·rintro ⟨b,hb,e⟩
  obtain ⟨i,hi,rfl⟩:=iY hb
  exact ⟨i,ϫ.mpr hi,by simpa [θ hi] using e⟩
theorem zf2 (hc:X.calm=true):CallR X (.builtin "all") (fun xs H Q=>∃ (p:Addr) (bs:List Bool),xs=[.ref p]/\SqL X.K H p (bs.map V.bl)/\Q (.bl (bs.all id)) H):=by
 intro pJ s σ H vs us Q I rv h
 obtain ⟨p,bs,rfl,hq,q⟩:=h
 obtain ⟨u,rfl,ru⟩:=rv.one
 cases (show u=ω p from ru)
 obtain ⟨its,rv,hp,hz⟩:=I.list hq
 obtain rfl:=valsB rv
 have hl:=hp.isList
 have hlt:p < s.heap.objs.size:=by obtain ⟨_,e,_⟩:=hl;exact χ e
 have hh:X.A.handled=none:=I.ok.hd hc
 refine call_all_walk (eF hl ?_)
 refine ⟨s.heap.objs.size,[s.heap.objs.size,p],[s.heap.objs.size],(bs.map Ω).toArray.size,_,_,fun i=>(bs[i]?).getD true,rfl,mR (A:=X.A.in1) hh _ p (Λ hlt) (bs.map Ω).toArray,
  ⟨⟨_,ς _ rfl,rfl,rfl⟩,hl.push _⟩,fun i v s' Q' E' hP hQ=>?_,fun h' tk hk=>?_⟩
 ·have hP':(bs.map Ω)[i]?=some v:=by simpa using hP
  rw [Δ] at hP'
  cases e:bs[i]? with
  | none=>rw [e] at hP';cases hP'
  | some b=>
   rw [e] at hP'
   cases hP'
   simp only [e,o9] at hQ
   exact ϳ hQ
 ·have e:((Η (bs.map Ω).toArray.size).all fun i=>(bs[i]?).getD true)=bs.all id:=by
   rw [ο,ν];exact VJ bs
  rw [e]
  exact ⟨.bl _,H,I.kept (oA hk),rfl,q⟩
theorem zaX (hc:X.calm=true):CallR X (.builtin "any") (fun xs H Q=>∃ (p:Addr) (bs:List Bool),xs=[.ref p]/\SqL X.K H p (bs.map V.bl)/\Q (.bl (bs.any id)) H):=by
 intro pJ s σ H vs us Q I rv h
 obtain ⟨p,bs,rfl,hq,q⟩:=h
 obtain ⟨u,rfl,ru⟩:=rv.one
 cases (show u=ω p from ru)
 obtain ⟨its,rv,hp,hz⟩:=I.list hq
 obtain rfl:=valsB rv
 have hl:=hp.isList
 have hlt:p < s.heap.objs.size:=by obtain ⟨_,e,_⟩:=hl;exact χ e
 have hh:X.A.handled=none:=I.ok.hd hc
 refine call_any_walk (eF hl ?_)
 refine ⟨s.heap.objs.size,[s.heap.objs.size,p],[s.heap.objs.size],(bs.map Ω).toArray.size,_,_,fun i=>(bs[i]?).getD false,rfl,mR (A:=X.A.in1) hh _ p (Λ hlt) (bs.map Ω).toArray,
  ⟨⟨_,ς _ rfl,rfl,rfl⟩,hl.push _⟩,fun i v s' Q' E' hP hQ=>?_,fun h' tk hk=>?_⟩
 ·have hP':(bs.map Ω)[i]?=some v:=by simpa using hP
  rw [Δ] at hP'
  cases e:bs[i]? with
  | none=>rw [e] at hP';cases hP'
  | some b=>
   rw [e] at hP'
   cases hP'
   simp only [e,o9] at hQ
   exact ϳ hQ
 ·have e:((Η (bs.map Ω).toArray.size).any fun i=>(bs[i]?).getD false)=bs.any id:=by
   rw [ο,ν];exact VH bs
  rw [e]
  exact ⟨.bl _,H,I.kept (oA hk),rfl,q⟩
theorem Jy {CX:CXT}{k:Nat}{f:Addr}{fd:bJ}{ps ks:List Str}{sp:Sp}{E:XK}{x:Str}{p pos:Pos}{kws:List bM}{tk:TA}{g:List δ->List δ->List δ}{gV:List V->List V->List V}
  (F:FnOk X.prog X.w X.K X.mg X.base CX k f fd ps sp) (hr:Room k X.A) (hg:Gl X x) (hm:X.mg x=some (.ref f)) (hk:W.keepIn X.K (.ref f)=true) (hb:Qv X.K fd ps ks g gV) (hx:YJ CX X E)
  (hkw:PK X kws tk) (hall:(cY pos (bf kws X.env)).all (·.1.isSome)=true:=by rfl) (hks:(cY pos (bf kws X.env)).filterMap (·.1)=ks:=by rfl)
  (hdb:(x==("__debug__":Str))=false:=by decide) (hpl:((dB pos (Ϝ [] X.env)).any (·.1)||(cY pos (bf kws X.env)).any (·.1.isNone))=false:=by rfl):
  PE X (.Call (.Name x p) [] kws pos) (zea sp gV E tNil tk):=by
 intro pJ s σ H Q I h
 refine cO (Xe I hg hm ?_ hdb)
 refine W.callWith_KW0 (h₀:=X.base) I.ok.mod.kin hk hall (thn (hkw pos pJ s σ H _ I h) fun ws s2 ⟨zs,H2,I2,rz,q2⟩=>⟨I2.kIn,?_⟩) hpl
 rw [hks]
 exact zcm (us:=[]) (vs:=[]) F hr hb hx I2 .nil rz q2
end
end L2
namespace HT
open PySem PyProof.Rows
open PySem.SeqAt
open PySem.AutoSeq1 (wpAny_loadPart')
open PySem.MeetsSeq PySem.MeetsSeq2 PySem.MeetsSeq3
section
variable {prog:Ν}{w:ϖ}{A:ϗ}{E:δ->μ->Prop}{s:μ}
theorem zaV {t b:Addr}{ws:List δ}{Q:δ->μ->Prop}(ht:lK s.heap t ([]:List δ).toArray) (hb:lK s.heap b ws.toArray)
  (h:Q (.ref b) s):ψ (Ζ prog w) A (bQ .Add (.ref t) (.ref b)) Q E s:=by
 obtain ⟨⟨cls,dd,data,sl⟩,ho,hc,n,hd⟩:=id ht
 obtain ⟨⟨cls2,dd2,data2,sl2⟩,ho2,hc2,n2,hd2⟩:=id hb
 simp only at hc hd hc2 hd2
 subst hc hd hc2 hd2
 exact pK ⟨_,ho,rfl⟩ ⟨_,ho2,rfl⟩ nu o4 gG gq (f9 _ _)
   (tuple_addW0 t b ([]:List δ).toArray ws.toArray n n2 dd dd2 sl sl2 (by simp)) ⟨ho,ho2,h⟩
theorem xu {t sl:Addr}{items:Array δ}{vl vu:δ}{lo hi:Option Int}{Q:δ->μ->Prop}(ht:lK s.heap t items) (hs:s.heap.IsSliceOf sl vl vu .none) (pl:iT vl lo) (pu:iT vu hi)
  (hw:sIx items.size 0 lo=0/\sIx items.size items.size hi=items.size) (h:Q (.ref t) s):ψ (Ζ prog w) A (lN (.ref t) (.ref sl)) Q E s:=by
 obtain ⟨os,hos,hcs,hds⟩:=id hs
 have hTs:s.TypeIs (.ref sl) "slice":=⟨os,hos,hcs⟩
 unfold lN
 try with_reducible refine Ϥ ?_
 first | refine γ (ζ ?_) | skip
 refine γ (wpAny_sequenceKey ht.typeIs (by decide) ?_)
 refine γ (ϙ (name:=cD "__getitem__") ht.typeIs ϭ
  (ϒ ϭ ht.typeIs entry_tuple_getitem ?_ (args_tuple_getitem _ _)))
 show ψ _ _ (lr (.ref t) >>= _) _ _ s
 refine γ (tupleItemsOf_ ht ?_)
 refine γ (bL hTs ?_)
 rw [if_pos (by decide)]
 refine γ (yt hs pl pu ?_)
 have hyes:(((sIx items.size 0 lo:Nat):Int)==0&&(1:Int)==1&&(sIx items.size items.size hi - sIx items.size 0 lo)==items.size)=true:=by
  rw [hw.1,hw.2]
  simp
 show ψ _ _ (if (((sIx items.size 0 lo:Nat):Int)==0&&(1:Int)==1&&(sIx items.size items.size hi - sIx items.size 0 lo)==items.size)=true then _ else _) _ _ s
 rw [if_pos hyes]
 unfold Β.Tuple.tupleIsExact
 first
  | (refine γ (γ (bL ht.typeIs (ζ ?_)));rw [if_pos (by decide)];exact γ (b8 (ζ ⟨_,rfl,ζ h⟩)))
  | (refine γ (γ (bL ht.typeIs (ζ ?_)));rw [if_pos (by decide)];exact γ (b8 (γ (ζ (ζ ⟨_,rfl,ζ h⟩)))))
  | (refine γ (γ (γ (bL ht.typeIs (ζ ?_))));rw [if_pos (by decide)];exact γ (b8 (ζ (ζ ⟨_,rfl,ζ h⟩))))
  | (refine γ (γ (bL ht.typeIs (ζ ?_)));rw [if_pos (by decide)];trace_state;done)
end
end HT
namespace L2
open PySem PySem.Spec PyProof.Rows
section
variable {X:Cx}
def zeF (K:W.Frag):R2:=fun x y H Q=>∃ a b ys,x=.ref a/\y=.ref b/\SqT K H a []/\SqT K H b ys/\Q (.ref b) H
theorem zan:OpR X (bQ .Add) (zeF X.K):=by
 intro pJ s σ H x y v u Q I rx ry h
 obtain ⟨a,b,ys,rfl,rfl,ha,hb,q⟩:=h
 cases rx
 cases ry
 obtain ⟨its,r1,p1,_⟩:=I.tuple ha
 obtain ⟨its2,r2,p2,_⟩:=I.tuple hb
 cases r1
 exact HT.zaV p1 p2 ⟨.ref b,H,I,rfl,q⟩
def rSlW (K:W.Frag):V->Option Int->Option Int->Hp->VK->Prop:=fun x lo hi H Q=>∃ a xs,x=.ref a/\SqT K H a xs/\(HT.sIx xs.length 0 lo=0/\HT.sIx xs.length xs.length hi=xs.length)/\Q (.ref a) H
theorem zcb:SlR X (rSlW X.K):=by
 intro pJ s σ H x v vl vu lo hi sl Q I rx hs pl pu h
 obtain ⟨a,xs,rfl,hx,hw,q⟩:=h
 cases rx
 obtain ⟨its,r,ht,hz⟩:=I.tuple hx
 have hlen:its.toArray.size=xs.length:=by rw [ο];exact r.length.symm
 refine ⟨"tuple",_,ϭ.lookup,ht.typeIs,?_⟩
 exact HT.xu ht hs pl pu (by rw [hlen];exact hw) ⟨.ref a,H,I,rfl,q⟩
end
end L2
namespace EV
open PySem PySem.Spec PyProof.Rows L2
noncomputable abbrev Store:=List D
structure Gm where
 K:W.Frag
 fa:Nat->Option Addr
 ca:Nat->Option Addr
structure G where
 R:Hp
 α:List Addr
def KTup (K:W.Frag) (a:Addr) (xs:List V):Prop:=∃ (o:Obj) (its:Array δ) (n:Nat),K.lookup a=some o/\o.cls=.type "tuple"/\o.data=.seq its n/\its.size<=sizeLine/\Vals xs its.toList
def KDic (K:W.Frag) (a:Addr) (ps:List (Str×Int)):Prop:=(∃ o,K.lookup a=some o/\o.cls=.type "dict"/\o.dict=none)/\∀ h:Heap,K.In h->KTD.TextTab h a (ps.map fun p=>(p.1,.flat (.int p.2)))
mutual
def Has (Γ:Gm) (g:G):D->V->Prop
 | .non,v=>v=.non
 | .bl b,v=>v=.bl b
 | .int i,v=>v=.int i
 | .str x,v=>v=.str x
 | .tup ds,v=>∃ a vs,v=.ref a/\g.R a=some (.tup vs)/\Hass Γ g ds vs
 | .lst ds,v=>∃ a vs,v=.ref a/\g.R a=some (.lst vs)/\Hass Γ g ds vs
 | .dK ks ds,v=>∃ a vs,v=.ref a/\g.R a=some (.dK (ks.zip vs))/\ks.length=ds.length/\Hass Γ g ds vs
 | .dT ks ds,v=>∃ a vs,v=.ref a/\g.R a=some (.dT (ks.zip vs))/\ks.length=ds.length/\Hass Γ g ds vs
 | .ref k,v=>∃ a,g.α[k]?=some a/\v=.ref a
 | .fn f,v=>∃ a,Γ.fa f=some a/\v=.ref a
 | .scr ns,v=>∃ a,v=.ref a/\SqL Γ.K g.R a (ns.map V.int)
 | .ktp ds,v=>∃ a vs,v=.ref a/\KTup Γ.K a vs/\Hass Γ g ds vs
 | .kdc ps,v=>∃ a,v=.ref a/\KDic Γ.K a ps
 | .dF ks ds,v=>∃ a vs o,v=.ref a/\g.R a=some (.frz o (.dT (ks.zip vs)))/\ks.length=ds.length/\Hass Γ g ds vs
def Hass (Γ:Gm) (g:G):List D->List V->Prop
 | [],vs=>vs=[]
 | d::ds,vs=>∃ v r,vs=v::r/\Has Γ g d v/\Hass Γ g ds r
end
structure Le (g g':G):Prop where
 rr:Same g.R g'.R
 aa:∀ (k:Nat) (a:Addr),g.α[k]?=some a->g'.α[k]?=some a
theorem Le.refl (g:G):Le g g:=⟨Same.refl _,fun _ _ h=>h⟩
theorem Le.trans {g g1 g2:G}(a:Le g g1) (b:Le g1 g2):Le g g2:=⟨a.rr.trans b.rr,fun k c h=>b.aa k c (a.aa k c h)⟩
theorem Same.rd {H H':Hp}{a:Addr}{u:HO}(e:Same H H') (h:Rd H a u):Rd H' a u:=by
 rcases h with h | ⟨o,h⟩
 ·exact .inl (e _ _ h)
 ·exact .inr ⟨o,e _ _ h⟩
mutual
theorem W8 {Γ:Gm}{g g':G}(e:Le g g'):∀ (d:D) (v:V),Has Γ g d v->Has Γ g' d v
 | .non,_,h=>h
 | .bl _,_,h=>h
 | .int _,_,h=>h
 | .str _,_,h=>h
 | .tup ds,_,⟨a,vs,h1,h2,h3⟩=>⟨a,vs,h1,e.rr _ _ h2,zW e ds vs h3⟩
 | .lst ds,_,⟨a,vs,h1,h2,h3⟩=>⟨a,vs,h1,e.rr _ _ h2,zW e ds vs h3⟩
 | .dK ks ds,_,⟨a,vs,h1,h2,h4,h3⟩=>⟨a,vs,h1,e.rr _ _ h2,h4,zW e ds vs h3⟩
 | .dT ks ds,_,⟨a,vs,h1,h2,h4,h3⟩=>⟨a,vs,h1,e.rr _ _ h2,h4,zW e ds vs h3⟩
 | .ref k,_,⟨a,h1,h2⟩=>⟨a,e.aa _ _ h1,h2⟩
 | .fn f,_,h=>h
 | .scr _,_,⟨a,h1,h2⟩=>⟨a,h1,e.rr.seq h2⟩
 | .ktp ds,_,⟨a,vs,h1,h2,h3⟩=>⟨a,vs,h1,h2,zW e ds vs h3⟩
 | .kdc _,_,h=>h
 | .dF ks ds,_,⟨a,vs,o,h1,h2,h4,h3⟩=>⟨a,vs,o,h1,e.rr _ _ h2,h4,zW e ds vs h3⟩
theorem zW {Γ:Gm}{g g':G}(e:Le g g'):∀ (ds:List D) (vs:List V),Hass Γ g ds vs->Hass Γ g' ds vs
 | [],_,h=>h
 | d::ds,_,⟨v,r,h1,h2,h3⟩=>⟨v,r,h1,W8 e d v h2,zW e ds r h3⟩
end
theorem Has.mono {Γ:Gm}{g g':G}{d:D}{v:V}(h:Has Γ g d v) (e:Le g g'):Has Γ g' d v:=W8 e d v h
theorem Hass.mono {Γ:Gm}{g g':G}{d:List D}{v:List V}(h:Hass Γ g d v) (e:Le g g'):Hass Γ g' d v:=zW e d v h
section
variable {Γ:Gm}{g:G}
theorem Hass.len:∀ {ds:List D}{vs:List V},Hass Γ g ds vs->vs.length=ds.length
 | [],_,h=>by cases (show _=[] from h);rfl
 | d::ds,_,⟨v,r,h1,_,h3⟩=>by subst h1;simp [Hass.len h3]
theorem Hass.get:∀ {ds:List D}{vs:List V}{i:Nat}{d:D},Hass Γ g ds vs->ds[i]?=some d->∃ v,vs[i]?=some v/\Has Γ g d v
 | [],_,_,_,_,e=>by simp at e
 | d::ds,_,0,_,⟨v,r,h1,h2,_⟩,e=>by subst h1;simp at e;subst e;exact ⟨v,rfl,h2⟩
 | d::ds,_,i+1,_,⟨v,r,h1,_,h3⟩,e=>by
  subst h1
  obtain ⟨u,q,hu⟩:=Hass.get (i:=i) h3 (by simpa using e)
  exact ⟨u,by simpa using q,hu⟩
theorem Hass.of:∀ {ds:List D}{vs:List V},vs.length=ds.length->(∀ (i:Nat) (d:D) (v:V),ds[i]?=some d->vs[i]?=some v->Has Γ g d v)->Hass Γ g ds vs
 | [],[],_,_=>rfl
 | d::ds,v::vs,hl,h=>⟨v,vs,rfl,h 0 d v rfl rfl,Hass.of (by simpa using hl) fun i d v e1 e2=>h (i+1) d v (by simpa using e1) (by simpa using e2)⟩
 | [],_::_,hl,_=>by simp at hl
 | _::_,[],hl,_=>by simp at hl
theorem Hass.one {d:D}{vs:List V}(h:Hass Γ g [d] vs):∃ v,vs=[v]/\Has Γ g d v:=by
 obtain ⟨v,r,e,hd,hr⟩:=h
 cases (show r=[] from hr)
 exact ⟨v,e,hd⟩
theorem Hass.two {d e:D}{vs:List V}(h:Hass Γ g [d,e] vs):∃ v u,vs=[v,u]/\Has Γ g d v/\Has Γ g e u:=by
 obtain ⟨v,r,e1,hd,hr⟩:=h
 obtain ⟨u,e2,he⟩:=Hass.one hr
 subst e2
 exact ⟨v,u,e1,hd,he⟩
theorem Hass.mk1 {d:D}{v:V}(h:Has Γ g d v):Hass Γ g [d] [v]:=⟨v,[],rfl,h,rfl⟩
theorem Hass.app:∀ {ds es:List D}{vs us:List V},Hass Γ g ds vs->Hass Γ g es us->Hass Γ g (ds++es) (vs++us)
 | [],_,_,_,h,k=>by cases (show _=[] from h);exact k
 | d::ds,_,_,_,⟨v,r,h1,h2,h3⟩,k=>by subst h1;exact ⟨v,_,rfl,h2,Hass.app h3 k⟩
theorem Hass.drop {ds:List D}{vs:List V}(n:Nat) (h:Hass Γ g ds vs):Hass Γ g (ds.drop n) (vs.drop n):=by
 refine Hass.of (by rw [dq,dq,h.len]) fun i d v e1 e2=>?_
 rw [List.getElem?_drop] at e1 e2
 obtain ⟨u,q,hu⟩:=h.get e1
 rw [q] at e2
 cases e2
 exact hu
set_option tactic.hygienic true in
theorem Hass.take {ds:List D}{vs:List V}(n:Nat) (h:Hass Γ g ds vs):Hass Γ g (ds.take n) (vs.take n):=by
 refine Hass.of (by rw [dm,dm,h.len]) fun i d v e1 e2=>?_
 rw [List.getElem?_take] at e1 e2
 split at e1
 ·rename_i hi
  rw [if_pos hi] at e2
  obtain ⟨u,q,hu⟩:=h.get e1
  rw [q] at e2
  cases e2
  exact hu
 ·cases e1
set_option tactic.hygienic true in
theorem Hass.set {ds:List D}{vs:List V}{d:D}{v:V}(n:Nat) (h:Hass Γ g ds vs) (hd:Has Γ g d v):Hass Γ g (ds.set n d) (vs.set n v):=by
 refine Hass.of (by rw [bT,bT,h.len]) fun i d' v' e1 e2=>?_
 rw [lQ] at e1 e2
 split at e1
 ·rename_i hi
  rw [if_pos hi] at e2
  split at e1
  ·split at e2
   ·cases e1;cases e2;exact hd
   ·cases e2
  ·cases e1
 ·rename_i hi
  rw [if_neg hi] at e2
  obtain ⟨u,q,hu⟩:=h.get e1
  rw [q] at e2
  cases e2
  exact hu
theorem Hass.ints:∀ {ns:List Int},Hass Γ g (ns.map D.int) (ns.map V.int)
 | []=>rfl
 | _::_=>⟨_,_,rfl,rfl,Hass.ints⟩
end
def MutF:HO->Prop
 | .frz _ _=>True
 | o=>Mut (some o)
def zK (Γ:Gm) (H:Hp) (g:G) (a:Addr):D->Prop
 | .lst ds=>∃ vs,H a=some (.lst vs)/\Hass Γ g ds vs
 | .dK ks ds=>∃ vs,H a=some (.dK (ks.zip vs))/\ks.length=ds.length/\Hass Γ g ds vs
 | .dT ks ds=>∃ vs,H a=some (.dT (ks.zip vs))/\ks.length=ds.length/\Hass Γ g ds vs
 | .ref _=>∃ o,g.R a=some o/\H a=some o/\MutF o
 | _=>False
noncomputable def gone:D->Bool
 | .ref _=>true
 | _=>false
theorem zK.mono {Γ:Gm}{H H':Hp}{g g':G}{a:Addr}{c:D}(h:zK Γ H g a c) (e:Le g g') (hh:∀ o,H a=some o->H' a=some o):zK Γ H' g' a c:=by
 cases c with
 | lst ds=>obtain ⟨vs,h1,h2⟩:=h;exact ⟨vs,hh _ h1,h2.mono e⟩
 | dK ks ds=>obtain ⟨vs,h1,h3,h2⟩:=h;exact ⟨vs,hh _ h1,h3,h2.mono e⟩
 | dT ks ds=>obtain ⟨vs,h1,h3,h2⟩:=h;exact ⟨vs,hh _ h1,h3,h2.mono e⟩
 | non=>exact h
 | bl=>exact h
 | int=>exact h
 | str=>exact h
 | tup=>exact h
 | ref=>obtain ⟨o,h1,h2,h3⟩:=h;exact ⟨o,e.rr _ _ h1,hh _ h2,h3⟩
 | fn=>exact h
 | scr=>exact h
 | ktp=>exact h
 | kdc=>exact h
 | dF=>exact h
theorem zK.isMut {Γ:Gm}{H:Hp}{g:G}{a:Addr}{c:D}(h:zK Γ H g a c):∃ o,H a=some o/\MutF o:=by
 cases c with
 | lst ds=>obtain ⟨vs,h1,h2⟩:=h;exact ⟨_,h1,Ϸ⟩
 | dK ks ds=>obtain ⟨vs,h1,h3,h2⟩:=h;exact ⟨_,h1,Ϸ⟩
 | dT ks ds=>obtain ⟨vs,h1,h3,h2⟩:=h;exact ⟨_,h1,Ϸ⟩
 | non=>exact h.elim
 | bl=>exact h.elim
 | int=>exact h.elim
 | str=>exact h.elim
 | tup=>exact h.elim
 | ref=>obtain ⟨o,h1,h2,h3⟩:=h;exact ⟨o,h2,h3⟩
 | fn=>exact h.elim
 | scr=>exact h.elim
 | ktp=>exact h.elim
 | kdc=>exact h.elim
 | dF=>exact h.elim
structure WOk (Γ:Gm) (H:Hp) (g:G) (S:Store):Prop where
 rh:Same g.R H
 len:g.α.length=S.length
 nd:g.α.Nodup
 off:∀ (k:Nat) (c:D) (a:Addr),S[k]?=some c->g.α[k]?=some a->gone c=false->g.R a=none
 cell:∀ (k:Nat) (c:D) (a:Addr),S[k]?=some c->g.α[k]?=some a->zK Γ H g a c
structure Step (H:Hp) (g:G) (H':Hp) (g':G):Prop where
 le:Le g g'
 fr:∀ a o,H a=some o->a ∉ g.α->H' a=some o
 ex:∀ a o,H a=some o->∃ o',H' a=some o'
 na:∀ a∈g'.α,a∈g.α\/H a=none
 nr:∀ a,g'.R a≠none->g.R a≠none\/H a=none\/a∈g.α\/∃ xs,H a=some (.tup xs)
theorem Step.refl (H:Hp) (g:G):Step H g H g:=⟨Le.refl g,fun _ _ h _=>h,fun _ o h=>⟨o,h⟩,fun _ h=>.inl h,fun _ h=>.inl h⟩
theorem Step.WP {H H':Hp}{g g':G}(s:Step H g H' g') {a:Addr}(h:H' a=none):H a=none:=by
 cases q:H a with
 | none=>rfl
 | some o=>
  obtain ⟨o',e⟩:=s.ex a o q
  rw [e] at h;cases h
theorem Step.trans {H H1 H2:Hp}{g g1 g2:G}(a:Step H g H1 g1) (b:Step H1 g1 H2 g2):Step H g H2 g2 where
 le:=a.le.trans b.le
 fr:=fun x o h n=>b.fr x o (a.fr x o h n) fun m=>by
  rcases a.na x m with q | q
  ·exact n q
  ·rw [h] at q;cases q
 ex:=fun x o h=>let ⟨o1,h1⟩:=a.ex x o h;b.ex x o1 h1
 na:=fun x m=>by
  rcases b.na x m with q | q
  ·exact a.na x q
  ·exact .inr (a.WP q)
 nr:=fun x m=>by
  rcases b.nr x m with q | q | q | ⟨xs,q⟩
  ·exact a.nr x q
  ·exact .inr (.inl (a.WP q))
  ·rcases a.na x q with q | q
   ·exact .inr (.inr (.inl q))
   ·exact .inr (.inl q)
  ·by_cases hx:x∈g.α
   ·exact .inr (.inr (.inl hx))
   ·cases e:H x with
    | none=>exact .inr (.inl rfl)
    | some o=>
     have:=a.fr x o e hx
     rw [q] at this
     cases this
     exact .inr (.inr (.inr ⟨xs,rfl⟩))
theorem Step.of_same {H H':Hp}{g g':G}(s:Same H H') (le:Le g g') (na:∀ a∈g'.α,a∈g.α\/H a=none) (nr:∀ a,g'.R a≠none->g.R a≠none\/H a=none):Step H g H' g':=
 ⟨le,fun a o h _=>s a o h,fun a o h=>⟨o,s a o h⟩,na,fun a h=>(nr a h).imp id .inl⟩
def VOk (Γ:Gm) (H:Hp) (d:D) (fr:Bool) (v:V) (H':Hp) (g':G):Prop:=
 if fr=true then ∃ a,v=.ref a/\H a=none/\g'.R a=none/\a ∉ g'.α/\zK Γ H' g' a d else Has Γ g' d v
noncomputable def G.put (g:G) (a:Addr) (o:HO):G:={ g with R:=upd g.R a o }
noncomputable def G.cell (g:G) (a:Addr):G:={ g with α:=g.α++[a] }
theorem Le.put {g:G}{a:Addr}{o:HO}(h:g.R a=none):Le g (g.put a o):=⟨fun b u q=>by
 show upd g.R a o b=some u
 rw [zc (zf q h)];exact q,fun _ _ q=>q⟩
theorem Le.cell {g:G}{a:Addr}:Le g (g.cell a):=⟨Same.refl _,fun k b q=>by
 show (g.α++[a])[k]?=some b
 rw [ώ (π.mp q).1];exact q⟩
section
variable {Γ:Gm}{H H':Hp}{g g':G}{S:Store}{d:D}{v:V}{a:Addr}
theorem WOk.put {o:HO}(w:WOk Γ H g S) (h:H a=some o) (hn:g.R a=none) (ha:a ∉ g.α):WOk Γ H (g.put a o) S where
 rh:=fun b u q=>by
  by_cases hb:b=a
  ·subst hb
   have q':upd g.R b o b=some u:=q
   rw [zj] at q'
   cases q'
   exact h
  ·have q':upd g.R a o b=some u:=q
   rw [zc hb] at q'
   exact w.rh b u q'
 len:=w.len
 nd:=w.nd
 off:=fun k c b h1 h2 h3=>by
  show upd g.R a o b=none
  have hne:b≠a:=by
   rintro rfl
   exact ha (ϝ h2)
  rw [zc hne]
  exact w.off k c b h1 h2 h3
 cell:=fun k c b h1 h2=>(w.cell k c b h1 h2).mono (Le.put hn) fun _ q=>q
theorem Step.put {o:HO}(s:Step H g H' g') (hn:g'.R a=none) (h:H a=none):Step H g H' (g'.put a o) where
 le:=s.le.trans (Le.put hn)
 fr:=s.fr
 ex:=s.ex
 na:=s.na
 nr:=fun b q=>by
  by_cases hb:b=a
  ·subst hb;exact .inr (.inl h)
  ·have q':upd g'.R a o b≠none:=q
   rw [zc hb] at q'
   exact s.nr b q'
theorem jK {o:HO}(hn:g.R a=none) (ho:H a=some o) (h:zK Γ H g a d):Has Γ (g.put a o) d (.ref a):=by
 have le:Le g (g.put a o):=Le.put hn
 have hr:(g.put a o).R a=some o:=zj
 cases d with
 | lst ds=>obtain ⟨vs,h1,h2⟩:=h;rw [h1] at ho;cases ho;exact ⟨a,vs,rfl,hr,h2.mono le⟩
 | dK ks ds=>obtain ⟨vs,h1,h3,h2⟩:=h;rw [h1] at ho;cases ho;exact ⟨a,vs,rfl,hr,h3,h2.mono le⟩
 | dT ks ds=>obtain ⟨vs,h1,h3,h2⟩:=h;rw [h1] at ho;cases ho;exact ⟨a,vs,rfl,hr,h3,h2.mono le⟩
 | non=>exact h.elim
 | bl=>exact h.elim
 | int=>exact h.elim
 | str=>exact h.elim
 | tup=>exact h.elim
 | ref=>obtain ⟨o,h1,_⟩:=h;rw [hn] at h1;cases h1
 | fn=>exact h.elim
 | scr=>exact h.elim
 | ktp=>exact h.elim
 | kdc=>exact h.elim
 | dF=>exact h.elim
@[simp] noncomputable def isIns:D->Bool:=fun _=>false
theorem freeze {fr:Bool}(s:Step H g H' g') (w:WOk Γ H' g' S) (h:VOk Γ H d fr v H' g') (hi:isIns d=false):∃ g2,Step H g H' g2/\WOk Γ H' g2 S/\Has Γ g2 d v/\Le g' g2:=by
 cases fr with
 | false=>exact ⟨g',s,w,h,Le.refl _⟩
 | true=>
  obtain ⟨a,rfl,h0,hn,ha,hc⟩:=(show ∃ a,v=.ref a/\H a=none/\g'.R a=none/\a ∉ g'.α/\zK Γ H' g' a d from h)
  obtain ⟨o,ho,_⟩:=hc.isMut
  exact ⟨g'.put a o,s.put hn h0,w.put ho hn ha,jK hn ho hc,Le.put hn⟩
theorem boxed (s:Step H g H' g') (w:WOk Γ H' g' S) (h:VOk Γ H d true v H' g'):∃ g2,Step H g H' g2/\WOk Γ H' g2 (S++[d])/\Has Γ g2 (.ref S.length) v:=by
 obtain ⟨a,rfl,h0,hn,ha,hc⟩:=(show ∃ a,v=.ref a/\H a=none/\g'.R a=none/\a ∉ g'.α/\zK Γ H' g' a d from h)
 refine ⟨g'.cell a,⟨s.le.trans Le.cell,s.fr,s.ex,fun b hb=>?_,s.nr⟩,⟨w.rh,?_,?_,fun k c b h1 h2 h3=>?_,fun k c b h1 h2=>?_⟩,a,?_,rfl⟩
 ·rcases Ϭ.mp hb with q | q
  ·exact s.na b q
  ·rw [Υ.mp q];exact .inr h0
 ·show (g'.α++[a]).length=(S++[d]).length
  simp [w.len]
 ·show (g'.α++[a]).Nodup
  exact nd_snocA w.nd ha
 ·have h2':(g'.α++[a])[k]?=some b:=h2
  by_cases hk:k < S.length
  ·rw [ώ hk] at h1
   rw [ώ (by rw [w.len];exact hk)] at h2'
   exact w.off k c b h1 h2' h3
  ·rw [ϑ (by rw [w.len];lia)] at h2'
   have:=ϝ h2'
   rw [Υ.mp this];exact hn
 ·have h2':(g'.α++[a])[k]?=some b:=h2
  by_cases hk:k < S.length
  ·rw [ώ hk] at h1
   rw [ώ (by rw [w.len];exact hk)] at h2'
   exact (w.cell k c b h1 h2').mono Le.cell fun _ q=>q
  ·rw [ϑ (by lia)] at h1
   rw [ϑ (by rw [w.len];lia)] at h2'
   have e0:k - S.length=0:=by
    cases q:k - S.length with
    | zero=>rfl
    | succ n=>rw [q] at h1;simp at h1
   rw [e0] at h1
   rw [w.len,e0] at h2'
   simp at h1 h2'
   subst h1 h2'
   exact hc.mono Le.cell fun _ q=>q
 ·show (g'.α++[a])[S.length]?=some a
  rw [<- w.len]
  simp
where
 nd_snocA:∀ {l:List Addr}{k:Addr},l.Nodup->¬ k∈l->(l++[k]).Nodup:=fun {l k} h hk=>by
  rw [d7]
  exact ⟨h,by simp,fun x hx y hy=>by rw [Υ.mp hy];rintro rfl;exact hk hx⟩
end
end EV
namespace TS
open PySem PyProof.Rows
set_option backward.match.sparseCases true
variable {O:bz}{key:bA->O.α}{G:bA->Prop}{kd:iC}{M:Model}{A:ϗ}{E:δ->μ->Prop}{s:μ}
section
def LtOk (O:bz) (key:bA->O.α) (G:bA->Prop) (kd:iC) (M:Model) (A:ϗ) (E:δ->μ->Prop) (s:μ):Prop:=
 ∀ (x y:bA) (st:aK) (Q:Option Bool->aK->Prop),G x->G y->kindOf st=kd->Q (some (O.blt (key x) (key y))) st->wpS M A E s (lt' x y) Q st
noncomputable def dk:bA:=(.none,.none)
noncomputable def kk (key:bA->O.α) (xs:Array bA) (i:Nat):O.α:=key (xs[i]?.getD dk)
def Srt (key:bA->O.α) (xs:Array bA) (lo hi:Nat):Prop:=∀ i j,lo<=i->i<=j->j < hi->O.kle (kk key xs i) (kk key xs j)
structure Bs (G:bA->Prop) (kd:iC) (az:Array bA) (p:Array (Nat×Nat×Nat)) (st:aK):Prop where
 perm:(Ξ st).Perm az
 good:∀ x∈az.toList,G x
 kind:kindOf st=kd
 failed:failedOf st=none
 pend:nq st=p
variable {az:Array bA}{p:Array (Nat×Nat×Nat)}
theorem Bs.size {st:aK}(h:Bs G kd az p st):(Ξ st).size=az.size:=h.perm.size_eq
theorem Bs.set {st:aK}(h:Bs G kd az p st) {xs:Array bA}(q:xs.Perm (Ξ st)):Bs G kd az p (setArr st xs):=⟨q.trans h.perm,h.good,h.kind,h.failed,h.pend⟩
theorem Bs.item {st:aK}(h:Bs G kd az p st) {i:Nat}(hi:i < az.size):∃ x,(Ξ st)[i]?=some x/\G x/\kk key (Ξ st) i=key x:=by
 have hi':i < (Ξ st).size:=by rw [h.size];exact hi
 have e:(Ξ st)[i]?=some (Ξ st)[i]:=getElem?_pos _ i hi'
 refine ⟨(Ξ st)[i],e,h.good _ ((mY.mp h.perm).mem_iff.mp (by simp)),?_⟩
 unfold kk;rw [e];rfl
theorem Um {arr:Array bA}{i:Nat}{x:bA}{Q:bA->aK->Prop}{st:aK}(e:arr[i]?=some x) (h:Q x st):wpS M A E s (elem' arr i) Q st:=by
 rw [elem'_eq,e];exact aR h
theorem wp_at (L:LtOk O key G kd M A E s) {st:aK}(h:Bs G kd az p st) {i j:Nat}(hi:i < az.size) (hj:j < az.size) {Q:Option Bool->aK->Prop}
  (q:Q (some (O.blt (kk key (Ξ st) i) (kk key (Ξ st) j))) st):wpS M A E s (ltAt' i j) Q st:=by
 obtain ⟨x,e1,g1,k1⟩:=h.item (key:=key) hi
 obtain ⟨y,e2,g2,k2⟩:=h.item (key:=key) hj
 rw [ltAt'_eq]
 refine ϛ (mL (ϛ (Um e1 (ϛ (Um e2 (L x y st Q g1 g2 h.kind ?_))))))
 rw [<- k1,<- k2];exact q
theorem XR {st:aK}{i j:Nat}{Q:Unit->aK->Prop}(h:Q () (setArr st (mirror (Ξ st) i j ((j - i) / 2)))):wpS M A E s (fM i j) Q st:=by
 rw [reverseSlice'_eq];exact oJ h
theorem kk_of {xs ys:Array bA}{i j:Nat}(h:xs[i]?=ys[j]?):kk key xs i=kk key ys j:=by unfold kk;rw [h]
set_option tactic.hygienic true in
theorem uE {xs:Array bA}{i j:Nat}(hj:j<=xs.size) (k:Nat):kk key (mirror xs i j ((j - i) / 2)) k=if i<=k/\k < j then kk key xs (i+j - 1 - k) else kk key xs k:=by
 have e:=getElem?_mirror_all (i:=i) hj k
 split
 ·rename_i h;rw [if_pos h] at e;exact kk_of e
 ·rename_i h;rw [if_neg h] at e;exact kk_of e
theorem WW {xs:Array bA}{i j k:Nat}(hj:j<=xs.size) (hk:k < i):(mirror xs i j ((j - i) / 2))[k]?=xs[k]?:=by
 rw [getElem?_mirror_all hj,if_neg (by lia)]
set_option tactic.hygienic true in
theorem Xf {xs:Array bA}{i j:Nat}(hj:j<=xs.size) (h:∀ k,i<=k->k < j->kk key xs k=kk key xs (j - 1)) (k:Nat):kk key (mirror xs i j ((j - i) / 2)) k=kk key xs k:=by
 rw [uE hj]
 split
 ·rename_i q
  exact (h _ (by omega) (by omega)).trans (h k q.1 q.2).symm
 ·rfl
theorem Srt.one {xs:Array bA}{lo:Nat}:Srt key xs lo (lo+1):=fun i j h1 h2 h3=>by
 obtain rfl:i=j:=by lia
 exact bN _
theorem Srt.more {xs:Array bA}{lo n:Nat}(h:Srt key xs lo (lo+n)) (h1:1<=n) (k:O.kle (kk key xs (lo+n - 1)) (kk key xs (lo+n))):Srt key xs lo (lo+(n+1)):=fun i j a b c=>by
 by_cases e:j < lo+n
 ·exact h i j a b e
 ·obtain rfl:j=lo+n:=by lia
  by_cases e:i=lo+n
  ·subst e;exact bN _
  ·exact bW (h i (lo+n - 1) a (by lia) (by lia)) k
theorem za5 (L:LtOk O key G kd M A E s) {st:aK}(b:Bs G kd az p st) {lo a nrem:Nat}(h1:1<=a) (ha:a<=nrem) (h2:lo+nrem<=az.size) (hs:Srt key (Ξ st) lo (lo+a)) {Q:Option (Option Nat)×Nat->aK->Prop}
  (q:∀ n,a<=n->n<=nrem->Srt key (Ξ st) lo (lo+n)->(n=nrem\/O.klt (kk key (Ξ st) (lo+n)) (kk key (Ξ st) (lo+n - 1)))->Q (none,n) st):
  wpS M A E s (forIn [a:nrem] ((none,a):Option (Option Nat)×Nat) fun _ c=>do
   let x <- ltAt' (lo+c.2) (lo+c.2 - 1)
   match x with
   | some smaller=>if smaller=true then pure (aQ (none,c.2)) else pure (aB (none,c.2+1))
   | _=>pure (aQ (some none,c.2))) Q st:=by
 refine gk (I:=fun x c st'=>st'=st/\c=(none,x)/\Srt key (Ξ st) lo (lo+x)) ?_ ?_ ⟨rfl,rfl,hs⟩
 ·rintro x c st' hx hn ⟨rfl,rfl,hs⟩
  dsimp only
  refine ϛ (wp_at L b (by lia) (by lia) ?_)
  cases hl:O.blt (kk key (Ξ st') (lo+x)) (kk key (Ξ st') (lo+x - 1)) with
  | true=>exact aR (q x hx (by lia) hs (.inr hl))
  | false=>exact aR ⟨rfl,rfl,hs.more (by lia) hl⟩
 ·rintro c st' ⟨rfl,rfl,hs⟩
  rw [show max a nrem=nrem by lia] at hs ⊢
  exact q nrem ha (ξ _) hs (.inl rfl)
def Fal (key:bA->O.α) (xs:Array bA) (lo hi:Nat):Prop:=∀ i j,lo<=i->i<=j->j < hi->O.kle (kk key xs j) (kk key xs i)
theorem Fal.more {xs:Array bA}{lo n:Nat}(h:Fal key xs lo (lo+n)) (h1:1<=n) (k:O.kle (kk key xs (lo+n)) (kk key xs (lo+n - 1))):Fal key xs lo (lo+(n+1)):=fun i j a b c=>by
 by_cases e:j < lo+n
 ·exact h i j a b e
 ·obtain rfl:j=lo+n:=by lia
  by_cases e:i=lo+n
  ·subst e;exact bN _
  ·exact bW k (h i (lo+n - 1) a (by lia) (by lia))
theorem Fal.same {xs ys:Array bA}{lo hi:Nat}(h:Fal key xs lo hi) (e:∀ k,kk key ys k=kk key xs k):Fal key ys lo hi:=fun i j a b c=>by rw [e,e];exact h i j a b c
theorem Uk (L:LtOk O key G kd M A E s) {st:aK}(b:Bs G kd az p st) {lo n nrem:Nat}(h1:1<=n) (hn:n<=nrem) (h2:lo+nrem<=az.size) (hs:Fal key (Ξ st) lo (lo+n)) {Q:Option Nat->aK->Prop}
  (q:∀ m st',Bs G kd az p st'->1<=m->m<=nrem->Srt key (Ξ st') lo (lo+m)->(∀ k,k < lo->(Ξ st')[k]?=(Ξ st)[k]?)->Q (some m) st'):
  wpS M A E s (do
   fM lo (lo+n)
   let c <- forIn [n:nrem] ((none,n):Option (Option Nat)×Nat) fun _ c=>do
    let x <- ltAt' (lo+c.2) (lo+c.2 - 1)
    match x with
    | some smaller=>if smaller=true then pure (aQ (none,c.2)) else pure (aB (none,c.2+1))
    | _=>pure (aQ (some none,c.2))
   match c.1 with
   | some r=>pure r
   | none=>pure (some c.2)) Q st:=by
 have hz:lo+n<=(Ξ st).size:=by rw [b.size];lia
 refine ϛ (XR ?_)
 have b':=b.set (nG (Ξ st) lo (lo+n) ((lo+n - lo) / 2))
 refine ϛ (za5 L b' h1 hn h2 ?_ fun m m1 m2 ms _=>aR (q m _ b' (by lia) m2 ms fun k hk=>WW hz hk))
 intro i j a b c
 show O.kle (kk key (mirror (Ξ st) lo (lo+n) ((lo+n - lo) / 2)) i) (kk key (mirror (Ξ st) lo (lo+n) ((lo+n - lo) / 2)) j)
 rw [uE hz,uE hz,if_pos (by lia),if_pos (by lia)]
 exact hs _ _ (by lia) (by lia) (by lia)
end
section
variable {az:Array bA}{p:Array (Nat×Nat×Nat)}
theorem Ul (L:LtOk O key G kd M A E s) {st:aK}(b:Bs G kd az p st) {lo n nrem:Nat}(h1:1<=n) (hn:n<=nrem) (h2:lo+nrem<=az.size) (hs:Fal key (Ξ st) lo (lo+n)) {Q:Option Nat->aK->Prop}
  (q:∀ m st',Bs G kd az p st'->1<=m->m<=nrem->Srt key (Ξ st') lo (lo+m)->(∀ k,k < lo->(Ξ st')[k]?=(Ξ st)[k]?)->Q (some m) st'):
  wpS M A E s (do
   let c <- forIn [n:nrem] ((none,n,0):Option (Option Nat)×Nat×Nat) fun _ c=>do
    let x <- ltAt' (lo+c.2.1) (lo+c.2.1 - 1)
    match x with
    | some smaller=>
     if smaller=true then
      if c.2.2 > 0 then do
       let _ <- fM (lo+c.2.1 - (c.2.2+1)) (lo+c.2.1)
       pure (aB (none,c.2.1+1,0))
      else pure (aB (none,c.2.1+1,0))
     else do
      let x <- ltAt' (lo+c.2.1 - 1) (lo+c.2.1)
      match x with
      | some larger=>if larger=true then pure (aQ (none,c.2.1,c.2.2)) else pure (aB (none,c.2.1+1,c.2.2+1))
      | _=>pure (aQ (some none,c.2.1,c.2.2))
    | _=>pure (aQ (some none,c.2.1,c.2.2))
   match c.1 with
   | some r=>pure r
   | none=>
    if c.2.2 > 0 then do
     let _ <- fM (lo+c.2.1 - (c.2.2+1)) (lo+c.2.1)
     do
      fM lo (lo+c.2.1)
      let c <- forIn [c.2.1:nrem] ((none,c.2.1):Option (Option Nat)×Nat) fun _ c=>do
       let x <- ltAt' (lo+c.2) (lo+c.2 - 1)
       match x with
       | some smaller=>if smaller=true then pure (aQ (none,c.2)) else pure (aB (none,c.2+1))
       | _=>pure (aQ (some none,c.2))
      match c.1 with
      | some r=>pure r
      | none=>pure (some c.2)
    else do
     fM lo (lo+c.2.1)
     let c <- forIn [c.2.1:nrem] ((none,c.2.1):Option (Option Nat)×Nat) fun _ c=>do
      let x <- ltAt' (lo+c.2) (lo+c.2 - 1)
      match x with
      | some smaller=>if smaller=true then pure (aQ (none,c.2)) else pure (aB (none,c.2+1))
      | _=>pure (aQ (some none,c.2))
     match c.1 with
     | some r=>pure r
     | none=>pure (some c.2)) Q st:=by
 refine ϛ (wpS_mono (gk (I:=fun x c st'=>∃ e,c=(none,x,e)/\Bs G kd az p st'/\Fal key (Ξ st') lo (lo+x)/\e+1<=x/\(∀ i,lo+x - (e+1)<=i->i < lo+x->kk key (Ξ st') i=kk key (Ξ st') (lo+x - 1))/\∀ k,k < lo->(Ξ st')[k]?=(Ξ st)[k]?)
  (Q:=fun c st'=>∃ m e,c=(none,m,e)/\n<=m/\m<=nrem/\Bs G kd az p st'/\Fal key (Ξ st') lo (lo+m)/\e+1<=m/\(∀ i,lo+m - (e+1)<=i->i < lo+m->kk key (Ξ st') i=kk key (Ξ st') (lo+m - 1))/\∀ k,k < lo->(Ξ st')[k]?=(Ξ st)[k]?) ?_ ?_ ⟨0,rfl,b,hs,by lia,fun i h1 h2=>by congr 1;lia,fun _ _=>rfl⟩) ?_)
 ·rintro x c st' hx hn ⟨e,rfl,b',f',he,hq,hk⟩
  dsimp only
  have hz:lo+x<=(Ξ st').size:=by rw [b'.size];lia
  refine ϛ (wp_at L b' (by lia) (by lia) ?_)
  cases hl:O.blt (kk key (Ξ st') (lo+x)) (kk key (Ξ st') (lo+x - 1)) with
  | true=>
   have f2:=f'.more (by lia) (cJ hl)
   dsimp only
   rw [if_pos rfl]
   by_cases he0:e > 0
   ·rw [if_pos he0]
    have same:=Xf (key:=key) hz hq
    exact ϛ (XR (aR ⟨0,rfl,b'.set (nG _ _ _ _),f2.same same,by lia,fun i h1 h2=>by congr 1;lia,fun k h=>(WW hz (by lia)).trans (hk k h)⟩))
   ·rw [if_neg he0]
    exact aR ⟨0,rfl,b',f2,by lia,fun i h1 h2=>by congr 1;lia,hk⟩
  | false=>
   dsimp only
   rw [if_neg (by decide)]
   refine ϛ (wp_at L b' (by lia) (by lia) ?_)
   cases hg:O.blt (kk key (Ξ st') (lo+x - 1)) (kk key (Ξ st') (lo+x)) with
   | true=>exact aR ⟨x,e,rfl,hx,by lia,b',f',he,hq,hk⟩
   | false=>
    have eq:kk key (Ξ st') (lo+x)=kk key (Ξ st') (lo+x - 1):=oV hg hl
    refine aR ⟨e+1,rfl,b',f'.more (by lia) hg,by lia,fun i h1 h2=>?_,hk⟩
    rw [show lo+(x+1) - 1=lo+x by lia,eq]
    by_cases hi:i=lo+x
    ·rw [hi];exact eq
    ·exact hq i (by lia) (by lia)
 ·rintro c st' ⟨e,rfl,b',f',he,hq,hk⟩
  rw [show max n nrem=nrem by lia] at f' he hq ⊢
  exact ⟨nrem,e,rfl,hn,ξ _,b',f',he,hq,hk⟩
 ·rintro c st' ⟨m,e,rfl,m1,m2,b',f',he,hq,hk⟩
  dsimp only
  have hz:lo+m<=(Ξ st').size:=by rw [b'.size];lia
  by_cases he0:e > 0
  ·rw [if_pos he0]
   have same:=Xf (key:=key) hz hq
   refine ϛ (XR (Uk L (b'.set (nG _ _ _ _)) (by lia) m2 h2 (f'.same same) fun m' st2 b2 a1 a2 a3 a4=>q m' st2 b2 a1 a2 a3 fun k h=>?_))
   exact (a4 k h).trans ((WW hz (by lia)).trans (hk k h))
  ·rw [if_neg he0]
   exact Uk L b' (by lia) m2 h2 f' fun m' st2 b2 a1 a2 a3 a4=>q m' st2 b2 a1 a2 a3 fun k h=>(a4 k h).trans (hk k h)
theorem wp_eq {α:Type}{m m':StateT aK Sem α}{Q:α->aK->Prop}{st:aK}(e:m'=m) (h:wpS M A E s m Q st):wpS M A E s m' Q st:=e ▸ h
theorem bd {α β:Type}{m m':StateT aK Sem α}{f f':α->StateT aK Sem β}(e:m=m') (h:∀ a,f a=f' a):(m >>= f)=(m' >>= f'):=by
 rw [e,funext h]
theorem Qw (L:LtOk O key G kd M A E s) {st:aK}(b:Bs G kd az p st) {lo nrem:Nat}(h1:1<=nrem) (h2:lo+nrem<=az.size) {Q:Option Nat->aK->Prop}
  (q:∀ m st',Bs G kd az p st'->1<=m->m<=nrem->Srt key (Ξ st') lo (lo+m)->(∀ k,k < lo->(Ξ st')[k]?=(Ξ st)[k]?)->Q (some m) st'):wpS M A E s (countRun' lo nrem) Q st:=by
 rw [countRun'_eq]
 refine ϛ (za5 L b (ξ 1) h1 h2 Srt.one fun n n1 n2 hs ho=>?_)
 dsimp only
 by_cases hn:n=nrem
 ·rw [if_pos (by simpa using hn)]
  exact aR (q n st b n1 n2 hs fun _ _=>rfl)
 ·rw [if_neg (by simpa using hn)]
  have hlt:=ho.resolve_left hn
  have hz:lo+n<=(Ξ st).size:=by rw [b.size];lia
  by_cases hg:n > 1
  ·rw [if_pos hg]
   refine ϛ (wp_at L b (by lia) (by lia) ?_)
   cases hr:O.blt (kk key (Ξ st) lo) (kk key (Ξ st) (lo+n - 1)) with
   | true=>exact aR (q n st b n1 n2 hs fun _ _=>rfl)
   | false=>
    dsimp only
    rw [if_neg (by decide)]
    have all:∀ k,lo<=k->k < lo+n->kk key (Ξ st) k=kk key (Ξ st) (lo+n - 1):=fun k a c=>
     oV (hs k (lo+n - 1) a (by lia) (by lia)) (bW hr (hs lo k (ξ _) a c))
    have same:=Xf (key:=key) hz all
    have f0:Fal key (Ξ st) lo (lo+(n+1)):=fun i j a c d=>by
     by_cases e:j < lo+n
     ·rw [all i a (by lia),all j (by lia) e];exact bN _
     ·obtain rfl:j=lo+n:=by lia
      by_cases e:i=lo+n
      ·rw [e];exact bN _
      ·rw [all i a (by lia)];exact cJ hlt
    refine ϛ (XR ?_)
    refine ϛ (wpS_lift (b8 ⟨rfl,?_⟩))
    refine wp_eq ?e (Ul L (b.set (nG _ _ _ _)) (by lia) (by lia) h2 (f0.same same) fun m' st2 b2 a1 a2 a3 a4=>q m' st2 b2 a1 a2 a3 fun k h=>(a4 k h).trans (WW hz h))
    case e=>
     refine bd rfl fun c=>?_
     obtain ⟨r,n',e'⟩:=c
     cases r with
     | some r=>rfl
     | none=>
      dsimp only
      split
      ·refine bd rfl fun _=>bd rfl fun _=>bd rfl fun c=>?_
       obtain ⟨r,_⟩:=c
       cases r <;> rfl
      ·refine bd rfl fun _=>bd rfl fun c=>?_
       obtain ⟨r,_⟩:=c
       cases r <;> rfl
  ·rw [if_neg hg]
   obtain rfl:n=1:=by lia
   refine ϛ (wpS_lift (b8 ⟨rfl,?_⟩))
   refine wp_eq ?e (Ul L b (n:=1+1) (by lia) (by lia) h2 (fun i j a c d=>?_) q)
   case e=>
    refine bd rfl fun c=>?_
    obtain ⟨r,n',e'⟩:=c
    cases r with
    | some r=>rfl
    | none=>
     dsimp only
     split
     ·refine bd rfl fun _=>bd rfl fun _=>bd rfl fun c=>?_
      obtain ⟨r,_⟩:=c
      cases r <;> rfl
     ·refine bd rfl fun _=>bd rfl fun c=>?_
      obtain ⟨r,_⟩:=c
      cases r <;> rfl
   by_cases e:i=j
   ·rw [e];exact bN _
   ·obtain rfl:i=lo:=by lia
    obtain rfl:j=i+1:=by lia
    exact cJ hlt
end
section
variable {az:Array bA}{p:Array (Nat×Nat×Nat)}
set_option tactic.hygienic true in
theorem ZQ {xs:Array bA}{src d:Nat}(hs:src < xs.size) (hd:d<=src) (k:Nat):kk key (bubble xs src d) k=if k=src - d then kk key xs src else if src - d < k/\k<=src then kk key xs (k - 1) else kk key xs k:=by
 have e:=getElem?_bubble hs d hd k
 split
 ·rename_i h;rw [if_pos h] at e;exact kk_of e
 ·rename_i h
  rw [if_neg h] at e
  split
  ·rename_i h;rw [if_pos h] at e;exact kk_of e
  ·rename_i h;rw [if_neg h] at e;exact kk_of e
theorem zdU (L:LtOk O key G kd M A E s) {st:aK}(b:Bs G kd az p st) {lo n ok:Nat}(h1:1<=ok) (hok:ok<=n) (h2:lo+n<=az.size) (hs:Srt key (Ξ st) lo (lo+ok)) {Q:Bool->aK->Prop}
  (q:∀ st',Bs G kd az p st'->Srt key (Ξ st') lo (lo+n)->(∀ k,k < lo->(Ξ st')[k]?=(Ξ st)[k]?)->Q true st'):wpS M A E s (binarySort' lo n ok) Q st:=by
 rw [binarySort'_eq]
 refine ϛ (wpS_mono (gk (I:=fun k c st'=>c=(none,())/\Bs G kd az p st'/\Srt key (Ξ st') lo (lo+k)/\∀ k,k < lo->(Ξ st')[k]?=(Ξ st)[k]?)
  (Q:=fun c st'=>c=(none,())/\Bs G kd az p st'/\Srt key (Ξ st') lo (lo+n)/\∀ k,k < lo->(Ξ st')[k]?=(Ξ st)[k]?) ?_ ?_ ⟨rfl,b,by rw [show max ok 1=ok by lia];exact hs,fun _ _=>rfl⟩) ?_)
 ·rintro k c st' hk hkn ⟨rfl,b',hs',hq⟩
  have hz:lo+k < (Ξ st').size:=by rw [b'.size];lia
  dsimp only
  refine ϛ (wpS_mono (gk (I:=fun x c st2=>st2=st'/\∃ l r,c=(none,l,r)/\l<=r/\r<=k/\r - l<=k - x/\(∀ i,i < l->O.kle (kk key (Ξ st') (lo+i)) (kk key (Ξ st') (lo+k)))/\∀ i,r<=i->i < k->O.kle (kk key (Ξ st') (lo+k)) (kk key (Ξ st') (lo+i)))
   (Q:=fun c st2=>st2=st'/\∃ l r,c=(none,l,r)/\l<=k/\(∀ i,i < l->O.kle (kk key (Ξ st') (lo+i)) (kk key (Ξ st') (lo+k)))/\∀ i,l<=i->i < k->O.kle (kk key (Ξ st') (lo+k)) (kk key (Ξ st') (lo+i))) ?_ ?_ ⟨rfl,0,k,rfl,by lia,by lia,by lia,fun i hi=>by lia,fun i h1 h2=>by lia⟩) ?_)
  ·rintro x c st2 _ hx ⟨rfl,l,r,rfl,hlr,hrk,hm,hlo,hhi⟩
   dsimp only
   by_cases hg:l >= r
   ·rw [if_pos hg]
    obtain rfl:l=r:=by lia
    exact aR ⟨rfl,l,l,rfl,hrk,hlo,hhi⟩
   ·rw [if_neg hg]
    refine ϛ (wp_at L b' (by lia) (by lia) ?_)
    cases hl:O.blt (kk key (Ξ st2) (lo+k)) (kk key (Ξ st2) (lo+(l+r) / 2)) with
    | true=>exact aR ⟨rfl,l,(l+r) / 2,rfl,by lia,by lia,by lia,hlo,fun i h1 h2=>bW (cJ hl) (hs' _ _ (by lia) (by lia) (by lia))⟩
    | false=>exact aR ⟨rfl,(l+r) / 2+1,r,rfl,by lia,by lia,by lia,fun i h1=>bW (hs' (lo+i) (lo+(l+r) / 2) (by lia) (by lia) (by lia)) hl,hhi⟩
  ·rintro c st2 ⟨rfl,l,r,rfl,hlr,hrk,hm,hlo,hhi⟩
   obtain rfl:l=r:=by lia
   exact ⟨rfl,l,l,rfl,hrk,hlo,hhi⟩
  ·rintro c st2 ⟨rfl,l,r,rfl,hlk,hlo,hhi⟩
   dsimp only
   rw [moveDown'_eq]
   refine ϛ (oJ (aR ⟨rfl,b'.set (bubble_perm _ _ _),fun i j h1 h2 h3=>?_,fun i hi=>?_⟩))
   ·show O.kle (kk key (bubble (Ξ st2) (lo+k) (lo+k - (lo+l))) i) (kk key (bubble (Ξ st2) (lo+k) (lo+k - (lo+l))) j)
    rw [ZQ hz (by lia),ZQ hz (by lia),show lo+k - (lo+k - (lo+l))=lo+l by lia]
    have lo':∀ i,lo<=i->i < lo+l->O.kle (kk key (Ξ st2) i) (kk key (Ξ st2) (lo+k)):=fun i a c=>by
     have:=hlo (i - lo) (by lia)
     rwa [show lo+(i - lo)=i by lia] at this
    have hi':∀ i,lo+l<=i->i < lo+k->O.kle (kk key (Ξ st2) (lo+k)) (kk key (Ξ st2) i):=fun i a c=>by
     have:=hhi (i - lo) (by lia) (by lia)
     rwa [show lo+(i - lo)=i by lia] at this
    repeat' split
    all_goals first
     | (exfalso;lia)
     | exact bN _
     | exact lo' _ (by lia) (by lia)
     | exact hi' _ (by lia) (by lia)
     | exact hs' _ _ (by lia) (by lia) (by lia)
   ·refine Eq.trans ?_ (hq i hi)
    show (bubble (Ξ st2) (lo+k) (lo+k - (lo+l)))[i]?=_
    rw [getElem?_bubble hz _ (by lia),if_neg (by lia),if_neg (by lia)]
 ·rintro c st' ⟨hc,b',hs',hq⟩
  rw [show max (max ok 1) n=n by lia] at hs'
  exact ⟨hc,b',hs',hq⟩
 ·rintro c st' ⟨rfl,b',hs',hq⟩
  exact aR (q st' b' hs' hq)
end
section
variable {az:Array bA}
def Rn (key:bA->O.α) (G:bA->Prop) (kd:iC) (az:Array bA) (lo:Nat) (st:aK):Prop:=
 (lo=0/\Bs G kd az #[] st)\/(lo=az.size/\Bs G kd az #[(0,lo,0)] st/\Srt key (Ξ st) 0 lo)
theorem zbS (L:LtOk O key G kd M A E s) {st:aK}(b:Bs G kd az #[] st) (h2:2<=az.size) (h64:az.size < 64) {Q:Unit->aK->Prop}
  (q:∀ st',(Ξ st').Perm az->failedOf st'=none->Srt key (Ξ st') 0 az.size->Q () st'):wpS M A E s sortRuns' Q st:=by
 have hr:minRun' az.size az.size 0=az.size:=by
  obtain ⟨f,e⟩:∃ f,az.size=f+1:=⟨az.size - 1,by lia⟩
  rw [e,minRun'_succ,if_pos (by lia),Nat.add_zero]
 rw [sortRuns'_eq]
 refine ϛ (mL ?_)
 dsimp only
 rw [b.size,hr]
 refine ϛ (wpS_mono (gk (I:=fun x c st'=>∃ lo,c=(none,lo)/\lo<=az.size/\(lo=az.size\/x<=lo)/\Rn key G kd az lo st') (Q:=fun c st'=>c=(none,az.size)/\Rn key G kd az az.size st') ?_ ?_ ⟨0,rfl,by lia,.inr (ξ _),.inl ⟨rfl,b⟩⟩) ?_)
 ·rintro x c st1 _ hx ⟨lo,rfl,hlo,hp,rn⟩
  dsimp only
  by_cases hg:lo >= az.size
  ·rw [if_pos hg]
   obtain rfl:lo=az.size:=by lia
   exact aR ⟨rfl,rn⟩
  ·rw [if_neg hg]
   rcases rn with ⟨rfl,b1⟩ | ⟨e,_⟩
   ·refine ϛ (Qw L b1 (by lia) (by lia) fun m st2 b2 m1 m2 ms _=>?_)
    dsimp only
    by_cases hm:m < az.size
    ·rw [if_pos hm]
     refine ϛ (wpS_lift (b8 ⟨rfl,?_⟩))
     refine ϛ (zdU L b2 m1 (by lia) (by lia) ms fun st3 b3 ss _=>?_)
     rw [if_neg (by decide)]
     refine ϛ (mL ?_)
     rw [show (nq st3)=#[] from b3.pend,show (#[]:Array (Nat×Nat×Nat)).back?=none from rfl]
     refine ϛ (oJ (aR ⟨0+min (az.size - 0) az.size,rfl,by lia,.inl (by lia),.inr ⟨by lia,⟨b3.perm,b3.good,b3.kind,b3.failed,?_⟩,ss⟩⟩))
     show (nq st3).push _=_
     rw [b3.pend,lV];rfl
    ·rw [if_neg hm]
     refine ϛ (mL ?_)
     rw [show (nq st2)=#[] from b2.pend,show (#[]:Array (Nat×Nat×Nat)).back?=none from rfl]
     refine ϛ (oJ (aR ⟨0+m,rfl,by lia,.inl (by lia),.inr ⟨by lia,⟨b2.perm,b2.good,b2.kind,b2.failed,?_⟩,ms⟩⟩))
     show (nq st2).push _=_
     rw [b2.pend,lV];rfl
   ·lia
 ·rintro c st1 ⟨lo,rfl,hlo,hp,rn⟩
  obtain rfl:lo=az.size:=by lia
  exact ⟨rfl,rn⟩
 ·rintro c st1 ⟨rfl,rn⟩
  dsimp only
  obtain ⟨b1,hs⟩:Bs G kd az #[(0,az.size,0)] st1/\Srt key (Ξ st1) 0 az.size:=by
   rcases rn with ⟨h,_⟩ | ⟨_,h1,h3⟩
   ·lia
   ·exact ⟨h1,h3⟩
  refine ϛ (wpS_mono (gk (I:=fun y c st'=>c=(none,())/\st'=st1) (Q:=fun c st'=>c=(none,())/\st'=st1) ?_ (fun _ _ h=>h) ⟨rfl,rfl⟩) ?_)
  ·rintro y c st2 _ hy ⟨rfl,rfl⟩
   refine ϛ (mL ?_)
   rw [b1.pend,if_pos (show (#[(0,az.size,0)]:Array (Nat×Nat×Nat)).size<=1 from ξ 1)]
   exact aR ⟨rfl,rfl⟩
  ·rintro c st2 ⟨rfl,rfl⟩
   exact aR (q st2 b1.perm b1.failed hs)
end
noncomputable def lexB:List Int->List Int->Bool
 | [],[]=>false
 | [],_::_=>true
 | _::_,[]=>false
 | a::x,b::y=>if a=b then lexB x y else decide (a < b)
theorem J4:∀ x,lexB x x=false
 | []=>rfl
 | a::x=>by unfold lexB;rw [if_pos rfl];exact J4 x
theorem zbz:∀ x y z,lexB x y=true->lexB y z=true->lexB x z=true
 | [],[],z,h,_=>by cases h
 | [],_::_,[],_,h=>by cases h
 | [],_::_,_::_,_,_=>rfl
 | _::_,[],z,h,_=>by cases h
 | _::_,_::_,[],_,h=>by cases h
 | a::x,b::y,c::z,h,k=>by
  unfold lexB at h k ⊢
  by_cases h1:a=b
  ·rw [if_pos h1] at h
   subst h1
   by_cases h2:a=c
   ·rw [if_pos h2] at k ⊢
    exact zbz x y z h k
   ·rw [if_neg h2] at k ⊢
    exact k
  ·rw [if_neg h1] at h
   have h:=of_decide_eq_true h
   by_cases h2:b=c
   ·subst h2
    rw [if_neg h1];exact decide_eq_true h
   ·rw [if_neg h2] at k
    have k:=of_decide_eq_true k
    rw [if_neg (by omega)];exact decide_eq_true (by omega)
theorem J3:∀ x y z,lexB x z=true->lexB x y=true\/lexB y z=true
 | [],[],z,h=>.inr h
 | [],_::_,z,h=>.inl rfl
 | _::_,y,[],h=>by cases h
 | _::_,[],_::_,h=>.inr rfl
 | a::x,b::y,c::z,h=>by
  unfold lexB at h ⊢
  by_cases h1:a=b
  ·subst h1
   by_cases h2:a=c
   ·rw [if_pos h2] at h
    rw [if_pos rfl,if_pos h2]
    exact J3 x y z h
   ·rw [if_neg h2] at h
    right;rw [if_neg h2];exact h
  ·rw [if_neg h1]
   by_cases h2:a=c
   ·by_cases h3:a < b
    ·exact .inl (decide_eq_true h3)
    ·right;rw [if_neg (by lia)];exact decide_eq_true (by lia)
   ·rw [if_neg h2] at h
    have h:=of_decide_eq_true h
    by_cases h3:a < b
    ·exact .inl (decide_eq_true h3)
    ·right;rw [if_neg (by lia)];exact decide_eq_true (by lia)
theorem Xd:∀ x y,lexB x y=false->lexB y x=false->x=y
 | [],[],_,_=>rfl
 | [],_::_,h,_=>by cases h
 | _::_,[],_,h=>by cases h
 | a::x,b::y,h,k=>by
  unfold lexB at h k
  by_cases h1:a=b
  ·subst h1
   rw [if_pos rfl] at h k
   rw [Xd x y h k]
  ·rw [if_neg h1] at h
   rw [if_neg (fun e=>h1 e.symm)] at k
   have h:=of_decide_eq_false h
   have k:=of_decide_eq_false k
   omega
noncomputable def lexO:bz:=⟨List Int,lexB,J4,zbz,J3,Xd⟩
def IntsV:List δ->List Int->Prop
 | [],[]=>True
 | v::vs,n::ns=>(∃ t,v=.int n t)/\IntsV vs ns
 | _,_=>False
section
variable {prog:Ν}{w:ϖ}
theorem zbw {Q:Bool->μ->Prop}{fin:Bool}:∀ (xs ys:List δ) (as bs:List Int) (i:Nat),IntsV xs as->IntsV ys bs->fin=decide (xs.length < ys.length)->Q (lexB as bs) s->W.KatLex prog w A true fin Q (xs.zip ys) i s
 | [],[],[],[],i,_,_,hf,q=>by
  subst hf;exact q
 | [],_::_,[],_::_,i,_,_,hf,q=>by
  subst hf
  show Q _ s
  rw [show decide (([]:List δ).length < (_::_:List δ).length)=true by simp];exact q
 | _::_,[],_::_,[],i,_,_,hf,q=>by
  subst hf
  show Q _ s
  rw [show decide ((_::_:List δ).length < ([]:List δ).length)=false by simp];exact q
 | x::xs,y::ys,a::as,b::bs,i,⟨⟨t,e1⟩,h1⟩,⟨⟨u,e2⟩,h2⟩,hf,q=>by
  subst e1 e2
  unfold lexB at q
  refine W.kat_cons (wpAny_eqBool_int (W.kat_go (fun e=>W.kat_yes ?_) fun e=>W.kat_no ?_))
  ·rw [if_pos (eq_of_beq e)] at q
   exact zbw xs ys as bs (i+1) h1 h2 (by rw [hf];simp) q
  ·rw [if_neg (by intro h;subst h;simp at e)] at q
   cases hi:i==0 with
   | true=>exact oneLt_int q
   | false=>exact W.kat_one _ _ (lt_int q)
 | [],_,_::_,_,_,h,_,_,_=>h.elim
 | _::_,_,[],_,_,h,_,_,_=>h.elim
 | _,[],_,_::_,_,_,h,_,_=>h.elim
 | _,_::_,_,[],_,_,h,_,_=>h.elim
def Gt (kz:δ->List Int) (h:Heap) (x:bA):Prop:=∃ a o xs n,x.1=.ref a/\h.get? a=some o/\o.data=.seq xs n/\IntsV xs.toList (kz x.1)
theorem lt_ok {kz:δ->List Int}{G:bA->Prop}(hg:∀ x,G x->Gt kz s.heap x):LtOk lexO (fun x=>kz x.1) G (tuples' true) (Ζ prog w) A E s:=by
 intro x y st Q gx gy hk q
 obtain ⟨a,o,xs,n,e1,e2,e3,e4⟩:=hg x gx
 obtain ⟨b,u,ys,m,f1,f2,f3,f4⟩:=hg y gy
 rw [lt'_eq]
 refine ϛ (mL ?_)
 rw [hk,e1,f1]
 refine ϛ (wpS_lift (cg (W.kat_lt e2 e3 f2 f3 (zbw _ _ _ _ 0 e4 f4 (by simp) ⟨rfl,aR q⟩))))
end
section
variable {prog:Ν}{w:ϖ}{kz:δ->List Int}
structure Tu (kz:δ->List Int) (h:Heap) (v:δ):Prop where
 it:∃ b o xs m,v=.ref b/\h.get? b=some o/\o.cls=.type "tuple"/\o.data=.seq xs m/\IntsV xs.toList (kz v)
 ne:kz v≠[]
theorem Tu.keep {h h':Heap}{v:δ}(t:Tu kz h v) (k:∀ b o,v=.ref b->h.get? b=some o->h'.get? b=some o):Tu kz h' v:=by
 obtain ⟨⟨b,o,xs,m,e1,e2,e3,e4,e5⟩,n⟩:=t
 exact ⟨⟨b,o,xs,m,e1,k b o e1 e2,e3,e4,e5⟩,n⟩
theorem tups {h:Heap}:∀ (vs:List δ),(∀ v∈vs,Tu kz h v)->∃ fs,fs.length=vs.length/\W.KatTups h vs fs/\∀ v∈fs,∃ n t,v=ϕ n t
 | [],_=>⟨[],rfl,W.KatTups.nil,fun v h=>nomatch h⟩
 | v::vs,hv=>by
  obtain ⟨fs,e,t,q⟩:=tups vs fun u hu=>hv u (ι _ hu)
  obtain ⟨⟨b,o,xs,m,e1,e2,e3,e4,e5⟩,n⟩:=hv v υ
  obtain ⟨k,ks,hk⟩:=List.exists_cons_of_ne_nil n
  rw [hk] at e5
  cases hx:xs.toList with
  | nil=>rw [hx] at e5;exact e5.elim
  | cons u us=>
   rw [hx] at e5
   obtain ⟨⟨t',e6⟩,_⟩:=e5
   have h0:xs[0]?=some u:=by
    have:xs.toList[0]?=some u:=by rw [hx];rfl
    simpa using this
   subst e1
   refine ⟨u::fs,by simp [e],W.KatTups.cons e2 e3 e4 h0 t,fun v hv=>?_⟩
   rcases Κ.mp hv with rfl | hv
   ·exact ⟨k,t',e6⟩
   ·exact q v hv
theorem zfK:((Ψ "int":δ) != Ψ "tuple")=true:=by decide +kernel
theorem zdg {vs:List δ}(hne:0 < vs.length) (hv:∀ v∈vs,Tu kz s.heap v) {Q:iC->μ->Prop}(q:Q (tuples' true) s):ψ (Ζ prog w) A (keyKind' vs.toArray) Q E s:=by
 obtain ⟨fs,e,t,f⟩:=tups vs hv
 refine W.kat_kind (T:=.type "int") t (by lia) (fun v hv=>?_) (by decide +kernel) (by rw [zfK];exact q)
 obtain ⟨n,t,rfl⟩:=f v hv
 exact fun _ _ _ _ _ q=>ζ q
def zbR (kz:δ->List Int) (vs out:List δ):Prop:=out.Perm vs/\out.Pairwise fun x y=>lexB (kz y) (kz x)=false
theorem jY:∀ (vs:List δ),vs.zip vs=vs.map fun v=>(v,v)
 | []=>rfl
 | v::vs=>by rw [cz,jY vs];rfl
def xx (O:bz) (kz:δ->O.α) (vs out:List δ):Prop:=out.Perm vs/\out.Pairwise fun x y=>O.blt (kz y) (kz x)=false
theorem jC {O:bz}{kz:δ->O.α}{vs:List δ}{st:aK}(h:(Ξ st).Perm (vs.toArray.zip vs.toArray)) (hs:Srt (O:=O) (fun x=>kz x.1) (Ξ st) 0 (vs.toArray.zip vs.toArray).size):xx O kz vs ((Ξ st).map (·.2)).toList:=by
 have hz:(vs.toArray.zip vs.toArray).toList=vs.map fun v=>(v,v):=by
  rw [pR]
  exact jY vs
 have p:=mY.mp h
 rw [hz] at p
 have same:∀ x∈(Ξ st).toList,x.1=x.2:=fun x hx=>by
  obtain ⟨v,_,rfl⟩:=Ϻ.mp (p.mem_iff.mp hx)
  rfl
 refine ⟨?_,?_⟩
 ·rw [pU]
  have:=p.map (fun x:bA=>x.2)
  rwa [oF,show ((fun x:bA=>x.2)∘fun v=>(v,v))=(id:δ->δ) from rfl,List.map_id] at this
 ·rw [pU,dZ]
  refine List.pairwise_iff_getElem.mpr fun i j h1 h2 h3=>?_
  have hsz:(Ξ st).size=(vs.toArray.zip vs.toArray).size:=h.size_eq
  have hj:j < (Ξ st).size:=by simpa using h2
  have:=hs i j (Ϣ _) (by omega) (by omega)
  unfold kk at this
  rw [getElem?_pos (Ξ st) i (by omega),getElem?_pos (Ξ st) j hj] at this
  have e1:=same (Ξ st)[i] (by simp)
  have e2:=same (Ξ st)[j] (by simp)
  have h4:O.blt (kz (Ξ st)[j].1) (kz (Ξ st)[i].1)=false:=this
  rw [e1,e2] at h4
  simpa using h4
theorem Wg {O:bz}{kz:δ->O.α}{kd:iC}{a:Addr}{vs:List δ}{n:Nat}{P:Fin->μ->Prop}(ho:s.heap.get? a=some (ao "list" vs.toArray n)) (h128:vs.length < 64)
  (hk:∀ h',2<=vs.length->(∀ b o,b≠a->s.heap.get? b=some o->h'.get? b=some o)->(∀ Q:iC->μ->Prop,Q kd { s with heap:=h' }->ψ (Ζ prog w) A (keyKind' vs.toArray) Q E { s with heap:=h' })/\LtOk O (fun x=>kz x.1) (fun x=>∃ v∈vs,x=(v,v)) kd (Ζ prog w) A E { s with heap:=h' })
  (h:∀ out:Array δ,xx O kz vs out.toList->P (.done (.ret .none)) { s with heap:=dz s.heap a vs out }):ψ (Ζ prog w) A (Β.«list.sort» ⟨[.ref a],[]⟩) P E s:=by
 have ha:a < s.heap.objs.size:=χ ho
 have hsl:vs.length<=sizeLine:=by rw [Ϧ];lia
 obtain ⟨e1,ho1⟩:∃ e1,(s.heap.update a (ϯ fun _=>#[])).get? a=some (ao "list" #[] e1):=⟨_,get?_update_seq ho (fun _=>#[])⟩
 rw [list_sort_plain]
 refine γ (pH ho rfl (γ (gZ ho rfl (γ (seqEpoch_at ho1 rfl (γ (lE (γ (oZ (Ϥ ?_) (Ϣ _))) (by simpa using hsl))))) (by simpa using hsl) (Ϣ _))))
 have ho6:(((s.heap.update a (ϯ fun _=>#[])).push (ao "tuple" vs.toArray 0)).push (ao "list" #[] 0)).get? a=some (ao "list" #[] e1):=
  η _ (η _ ho1)
 have kp:∀ b o,b≠a->s.heap.get? b=some o->(((s.heap.update a (ϯ fun _=>#[])).push (ao "tuple" vs.toArray 0)).push (ao "list" #[] 0)).get? b=some o:=fun b o hb e=>
  η _ (η _ (by rw [bG _ _ _ _ hb];exact e))
 show ψ (Ζ prog w) A _ P E { s with heap:=((s.heap.update a (ϯ fun _=>#[])).push (ao "tuple" vs.toArray 0)).push (ao "list" #[] 0) }
 have tail:∀ st':aK,xx O kz vs ((Ξ st').map (·.2)).toList->((Ξ st').map (·.2)).size=vs.length->failedOf st'=none->ψ (Ζ prog w) A (do
   let touched:=(<- seqEpoch a) != e1
   Β.List.listUpdate (.ref a) fun _=>(Ξ st').map (·.2)
   if let some e:=failedOf st' then rule "list.sort.comparison-raised";throw e
   if touched then rule "list.sort.modified";raiseError "ValueError" "list modified during sort"
   ret .none) P E { s with heap:=((s.heap.update a (ϯ fun _=>#[])).push (ao "tuple" vs.toArray 0)).push (ao "list" #[] 0) }:=fun st' k z f=>by
  refine γ (seqEpoch_at ho6 rfl (γ (gZ ho6 rfl ?_ (Ϣ _) (by lia))))
  rw [f]
  simp only [bne_self_eq_false,bw,if_false]
  exact ζ (h _ k)
 have pz:(vs.toArray.zip vs.toArray).size=vs.length:=by simp
 by_cases h2:vs.toArray.size < 2
 ·rw [if_pos h2,if_pos h2]
  refine γ (ζ ?_)
  dsimp only
  rw [StateT.run_pure]
  refine γ (ζ ?_)
  refine tail (aK.mk' general' (vs.toArray.zip vs.toArray) #[] 7 none) (jC (Array.Perm.refl _) fun i j a c e=>?_) (by rw [Array.size_map];exact pz) rfl
  have h2':vs.length < 2:=by simpa using h2
  obtain rfl:i=j:=by lia
  exact bN _
 ·have h2':2<=vs.length:=by simpa using h2
  rw [if_neg h2,if_neg h2]
  obtain ⟨k1,L⟩:=hk _ h2' kp
  refine γ (k1 _ ?_)
  have B:Bs (fun x=>∃ v∈vs,x=(v,v)) kd (vs.toArray.zip vs.toArray) #[] (aK.mk' kd (vs.toArray.zip vs.toArray) #[] 7 none):=⟨Array.Perm.refl _,fun x hx=>by
   rw [pR,show vs.toArray.toList=vs from rfl,jY] at hx
   obtain ⟨v,hm,rfl⟩:=Ϻ.mp hx
   exact ⟨v,hm,rfl⟩,rfl,rfl,rfl⟩
  refine γ (bO (zbS (Q:=fun _ st'=>(Ξ st').Perm (vs.toArray.zip vs.toArray)/\failedOf st'=none/\Srt (O:=O) (fun x=>kz x.1) (Ξ st') 0 (vs.toArray.zip vs.toArray).size) L B (by lia) (by lia) fun st' a1 a2 a3=>⟨a1,a2,a3⟩) ?_ fun _ _ e=>e)
  rintro ⟨⟨⟩,st'⟩ s' ⟨rfl,a1,a2,a3⟩
  exact tail st' (jC a1 a3) (by rw [Array.size_map,a1.size_eq];exact pz) a2
theorem zca {a:Addr}{vs:List δ}{n:Nat}{P:Fin->μ->Prop}(ho:s.heap.get? a=some (ao "list" vs.toArray n)) (hv:∀ v∈vs,Tu kz s.heap v) (hn:∀ v∈vs,v≠.ref a) (h128:vs.length < 64)
  (h:∀ out:Array δ,zbR kz vs out.toList->P (.done (.ret .none)) { s with heap:=dz s.heap a vs out }):ψ (Ζ prog w) A (Β.«list.sort» ⟨[.ref a],[]⟩) P E s:=by
 refine Wg (O:=lexO) (kz:=kz) (kd:=tuples' true) ho h128 (fun h' h2 kp=>?_) h
 have hv6:∀ v∈vs,Tu kz h' v:=fun v hm=>(hv v hm).keep fun b o e=>kp b o fun eb=>hn v hm (by rw [e,eb])
 refine ⟨fun Q q=>zdg (s:={ s with heap:=h' }) (by lia) hv6 q,lt_ok fun x hx=>?_⟩
 obtain ⟨v,hm,rfl⟩:=hx
 obtain ⟨b,o,xs,m,q1,q2,q3,q4,q5⟩:=(hv6 v hm).it
 exact ⟨b,o,xs,m,q1,q2,q4,q5⟩
theorem U7 {l:Addr}{vs:List δ}{Q:δ->μ->Prop}(hl:s.heap.IsList l vs.toArray) (hv:∀ v∈vs,Tu kz s.heap v) (h128:vs.length < 64)
  (h:∀ out:Array δ,zbR kz vs out.toList->Q (.ref (s.heap.objs.size+1)) { s with heap:=sortedAll s.heap vs out }):ψ (Ζ prog w) A (call (.builtin "sorted") [.ref l]) Q E s:=by
 have hsl:vs.length<=sizeLine:=by rw [Ϧ];lia
 refine gh kind_sorted pG pI (pL _) ?_
 unfold Β.«sorted»
 refine γ (m:=checkCount "sorted" 1 1 _) (ζ (γ (collect_list hl (γ (oZ ?_ (by simpa using hsl))) (by simpa using hsl))))
 have e1:((s.heap.push (ao "list" #[] 0)).update s.heap.objs.size (ϯ (·++vs.toArray))).objs.size=s.heap.objs.size+1:=by rw [Heap.size_update,fH]
 have e2:(((s.heap.push (ao "list" #[] 0)).update s.heap.objs.size (ϯ (·++vs.toArray))).push (ao "list" vs.toArray 0)).get? (s.heap.objs.size+1)=some (ao "list" vs.toArray 0):=by
  rw [<- e1];exact ς _ rfl
 have kp:∀ b o,s.heap.get? b=some o->(((s.heap.push (ao "list" #[] 0)).update s.heap.objs.size (ϯ (·++vs.toArray))).push (ao "list" vs.toArray 0)).get? b=some o:=fun b o q=>by
  have hb:=χ q
  exact η _ (by rw [bG _ _ _ _ (Λ hb)];exact η _ q)
 show ψ _ _ _ _ _ { s with heap:=((s.heap.push (ao "list" #[] 0)).update s.heap.objs.size (ϯ (·++vs.toArray))).push (ao "list" vs.toArray 0) }
 rw [e1]
 refine γ (Ϥ (ϒ slot_list_sort ⟨_,e2,rfl⟩ entry_list_sort (zca (kz:=kz) e2 (fun v hm=>(hv v hm).keep fun b o _=>kp b o) (fun v hm e=>?_) h128 fun out k=>⟨_,rfl,ζ ⟨_,rfl,h out k⟩⟩) (args_list_sort _)))
 obtain ⟨b,o,xs,m,q1,q2,_⟩:=(hv v hm).it
 rw [q1] at e
 have lt:=χ q2
 rw [ω.inj e] at lt
 exact Nat.not_lt.mpr (fj _) lt
end
noncomputable def txOf:Int×δ->Str
 | (_,.str x _)=>x
 | _=>⟨#[]⟩
section
variable {prog:Ν}{w:ϖ}
def Tx (w:ϖ) (e:Int×δ):Prop:=∃ x t,e=(hashStr w x,bC x t)
structure St (w:ϖ) (h:Heap) (a:Addr) (led:Bool) (es:Array (Int×δ)) (ep:Nat) (tb:Ϛ):Prop where
 at_:∃ o,h.get? a=some o/\o.ExactSet/\o.data=.set es ep tb
 tx:∀ e∈es.toList,Tx w e
 fit:tb.fits es.size=true
 led_:tb.led=led
 pl:es.size=0\/tb.plain=false
def Ts (w:ϖ) (h:Heap) (a:Addr) (led:Bool) (ks:List Str):Prop:=∃ es ep tb,St w h a led es ep tb/\(es.toList.map txOf).Perm ks
theorem St.el {h:Heap}{a:Addr}{led:Bool}{es:Array (Int×δ)}{ep:Nat}{tb:Ϛ}(z:∀ e∈es.toList,Tx w e):ElemsOf (bx prog w) es.toList:=fun e he=>by
 obtain ⟨x,t,rfl⟩:=z e he
 exact ⟨⟨x,by simp [bx,eE],rfl⟩,rfl⟩
theorem zc5 (t:Ϛ) (es:Array (Int×δ)) (h:Int) (x:δ):(layNew t es h x).2.1.led=t.led:=by
 unfold layNew
 split
 ·show (oE _ _).led=t.led
  unfold oE
  split <;> rfl
 ·rfl
set_option tactic.hygienic true in
theorem Jj (t:Ϛ) (es:Array (Int×δ)) (n:Nat):(relayAll t es n).2.1.led=t.led/\(t.plain=false->(relayAll t es n).2.1.plain=false):=by
 unfold relayAll
 split
 ·rename_i t' o e
  have k:t'.led=t.led/\t'.plain=t.plain:=by
   unfold Ϛ.relaid Ϛ.laid at e
   obtain ⟨ow,_,e2⟩:=ύ.mp e
   cases e2
   exact ⟨rfl,rfl⟩
  dsimp only
  split
  ·exact ⟨k.1,fun h=>k.2.trans h⟩
  ·exact ⟨rfl,fun _=>rfl⟩
 ·exact ⟨rfl,fun _=>rfl⟩
theorem Wy {h:Heap}{a:Addr}{o:Obj}{es es':Array (Int×δ)}{ep:Nat}{t t':Ϛ}(ho:h.get? a=some o) (hx:o.ExactSet) (hd:o.data=.set es ep t):
  ∃ u,(h.update a (Obj.putSet es' t')).get? a=some u/\u.ExactSet/\u.data=.set es' (ep+1) t':=by
 have k:=aZ (Obj.putSet es' t') ho (by rw [putSet_of es' t' hd];rfl)
 rw [putSet_of es' t' hd] at k
 exact ⟨_,k,hx,rfl⟩
noncomputable def addK (ks:List Str) (x:Str):List Str:=if x∈ks then ks else ks++[x]
theorem zdr {x:Str}:∀ {l:List (Int×δ)},(∀ e∈l,Tx w e)->((l.findIdx? fun e=>(bx prog w).is x e.2).isSome=true ↔ x∈l.map txOf):=by
 intro l h
 rw [List.findIdx?_isSome,bI,Ϻ]
 constructor
 ·rintro ⟨e,h1,h2⟩
  obtain ⟨y,t,rfl⟩:=h e h1
  exact ⟨_,h1,by simpa [bx,eE,txOf] using h2⟩
 ·rintro ⟨e,h1,h2⟩
  obtain ⟨y,t,rfl⟩:=h e h1
  exact ⟨_,h1,by simpa [bx,eE,txOf] using h2⟩
theorem zf1 {a:Addr}{led:Bool}{ks:List Str}{x:Str}{t:Tok}{Q:Bool->μ->Prop}(hS:Ts w s.heap a led ks) (hn:ks.length+1 < 4096)
  (q:∀ (b:Bool) (h':Heap),ϋ a s.heap h'->Ts w h' a led (addK ks x)->Q b { s with heap:=h' }):ψ (Ζ prog w) A (setAddHashed a (.str x t) (hashStr w x)) Q E s:=by
 obtain ⟨es,ep,tb,⟨⟨o,ho,hx,hd⟩,tx,fit,l1,pl⟩,pm⟩:=hS
 have hel:ElemsOf (bx prog w) es.toList:=St.el (h:=s.heap) (a:=a) (led:=led) (ep:=ep) (tb:=tb) tx
 have sz:es.size=ks.length:=by rw [<- Τ,<- pm.length_eq,ν]
 have key:(bx prog w).is x (.str x t)=true:=by simp [bx,eE]
 unfold setAddHashed oO
 refine Ϥ (γ (dj ho hd fit ?_))
 dsimp only
 rw [byScan_of (knd:=bx prog w) rfl (by rw [sz];show _ < 4096;omega) hel]
 rw [if_pos rfl]
 unfold setAddByScan
 refine γ (γ (b8 (γ (wpAny_setScan_of (knd:=bx prog w) (k:=x) key ho hd fit hel ?_))))
 have fi:=zdr (prog:=prog) (w:=w) (x:=x) tx
 cases hr:List.findIdx? (fun e=>(bx prog w).is x e.2) es.toList with
 | some j=>
  rw [hr] at fi
  have m:x∈ks:=pm.mem_iff.mp (fi.mp rfl)
  refine ζ (ζ ?_)
  have k:=q false s.heap (iy a s.heap) ⟨es,ep,tb,⟨⟨o,ho,hx,hd⟩,tx,fit,l1,pl⟩,by rw [addK,if_pos m];exact pm⟩
  exact k
 | none=>
  rw [hr] at fi
  have m:x ∉ ks:=fun m=>by cases fi.mpr (pm.mem_iff.mpr m)
  dsimp only
  have p1:=layNew_perm tb es (hashStr w x) (.str x t)
  have p2:=layNew_fits tb es (hashStr w x) (.str x t)
  have p3:=zc5 tb es (hashStr w x) (.str x t)
  show ψ _ _ (match layNew tb es (hashStr w x) (.str x t) with | (es,t,wd,gave)=>_) _ _ _
  generalize layNew tb es (hashStr w x) (.str x t)=L at p1 p2 p3 ⊢
  obtain ⟨e1,t1,wd,gv⟩:=L
  dsimp only at p1 p2 p3 ⊢
  rw [pB] at p1
  have tx1:∀ e∈e1.toList,Tx w e:=fun e he=>by
   rcases Ϭ.mp (p1.mem_iff.mp he) with he | he
   ·exact tx e he
   ·rw [Υ] at he;exact ⟨x,t,he⟩
  have sz1:e1.size=ks.length+1:=by rw [<- Τ,p1.length_eq,Ο,Τ,sz];rfl
  have pm1:(e1.toList.map txOf).Perm (addK ks x):=by
   rw [addK,if_neg m]
   refine (p1.map txOf).trans ?_
   rw [aH]
   exact pm.append (au _)
  have tail:∀ (t2:Ϛ) (Q:Bool->μ->Prop),t2.fits e1.size=true->t2.led=led->t2.plain=false->(∀ (h':Heap),ϋ a s.heap h'->Ts w h' a led (addK ks x)->Q true { s with heap:=h' }) ->
    ψ (Ζ prog w) A (do
     lF a e1 t2
     if (!wd&&t2.tooFull)=true then
      match relayAll t2 e1 (cM e1.size) with
      | (es,t,gave)=>do
       (match gave with | true=>rule "set.scan.the-table-gave-way" | false=>pure ())
       lF a es t
       pure (some true)
     else pure (some true)) (fun r s'=>∃ b,r=some b/\Q b s') E s:=fun t2 Q f2 l2 q2 q=>by
   refine γ (wpAny_storeSet_of ho hd ?_ (by rw [sz1,Ϧ];omega))
   obtain ⟨u,hu,hux,hud⟩:=Wy (es':=e1) (t':=t2) ho hx hd
   split
   ·have r1:=relayAll_perm t2 e1 (cM e1.size)
    have r2:=relayAll_fits t2 e1 (cM e1.size)
    have r3:=Jj t2 e1 (cM e1.size)
    generalize relayAll t2 e1 (cM e1.size)=R at r1 r2 r3 ⊢
    obtain ⟨e2,t3,g2⟩:=R
    dsimp only at r1 r2 r3 ⊢
    have sz2:e2.size=e1.size:=by rw [<- Τ,r1.length_eq,Τ]
    obtain ⟨v,hv,hvx,hvd⟩:=Wy (es':=e2) (t':=t3) hu hux hud
    have fin:ψ (Ζ prog w) A (do lF a e2 t3;pure (some true)) (fun r s'=>∃ b,r=some b/\Q b s') E { s with heap:=s.heap.update a (Obj.putSet e1 t2) }:=
     γ (wpAny_storeSet_of hu hud (ζ ⟨true,rfl,q _ ((aL _ a _).trans (aL _ a _))
      ⟨e2,_,t3,⟨⟨v,hv,hvx,hvd⟩,fun e he=>tx1 e (r1.mem_iff.mp he),r2,r3.1.trans l2,.inr (r3.2 q2)⟩,(r1.map txOf).trans pm1⟩⟩) (by rw [sz2,sz1,Ϧ];omega))
    cases g2 with
    | true=>exact γ (b8 fin)
    | false=>exact γ (ζ fin)
   ·exact ζ ⟨true,rfl,q _ (aL _ a _) ⟨e1,_,t2,⟨⟨u,hu,hux,hud⟩,tx1,f2,l2,.inr q2⟩,pm1⟩⟩
  have go:∀ (t2:Ϛ),t2.fits e1.size=true->t2.led=led->t2.plain=false->ψ (Ζ prog w) A (do
     lF a e1 t2
     if (!wd&&t2.tooFull)=true then
      match relayAll t2 e1 (cM e1.size) with
      | (es,t,gave)=>do
       (match gave with | true=>rule "set.scan.the-table-gave-way" | false=>pure ())
       lF a es t
       pure (some true)
     else pure (some true)) (fun r s'=>ψ (Ζ prog w) A (match r with | some added=>pure added | none=>oO a (.str x t) (hashStr w x) 99999) Q E s') E s:=fun t2 f l p=>
   bO (tail t2 (fun b s'=>Q b s') f l p fun h' a1 a2=>q true h' a1 a2) (fun r s' ⟨b,e,k⟩=>by rw [e];exact ζ k) fun _ _ e=>e
  have mid:ψ (Ζ prog w) A (do
     let byValue <- if t1.plain then hashByValue 8 (.str x t) else pure true
     let t2:=if byValue then t1 else { t1 with plain:=false }
     lF a e1 t2
     if (!wd&&t2.tooFull)=true then
      match relayAll t2 e1 (cM e1.size) with
      | (es,t,gave)=>do
       (match gave with | true=>rule "set.scan.the-table-gave-way" | false=>pure ())
       lF a es t
       pure (some true)
     else pure (some true)) (fun r s'=>ψ (Ζ prog w) A (match r with | some added=>pure added | none=>oO a (.str x t) (hashStr w x) 99999) Q E s') E s:=by
   cases hp:t1.plain with
   | true=>
    rw [if_pos rfl]
    refine γ (ζ ?_)
    exact go { t1 with plain:=false } (Ϛ.fits_plain_off p2) (p3.trans l1) rfl
   | false=>
    rw [if_neg (by simp)]
    refine γ (ζ ?_)
    exact go t1 p2 (p3.trans l1) hp
  cases gv with
  | true=>exact γ (b8 mid)
  | false=>exact γ (ζ mid)
end
section
variable {prog:Ν}{w:ϖ}
noncomputable def ledW (w:ϖ):Bool:=!(w.params.followText "set-order")
noncomputable def set0 (w:ϖ):Obj:={ cls:=.type "set",dict:=none,data:=.set #[] 0 (.fresh 0 0 (ledW w)) }
theorem ts0 {h:Heap}{a:Addr}(ho:h.get? a=some (set0 w)):Ts w h a (ledW w) []:=
 ⟨#[],0,_,⟨⟨_,ho,⟨rfl,rfl,rfl⟩,rfl⟩,(fun e he=>nomatch he),rfl,rfl,.inl rfl⟩,au _⟩
theorem Ts.keep {h h':Heap}{a:Addr}{led:Bool}{ks:List Str}(t:Ts w h a led ks) (k:∀ o,h.get? a=some o->h'.get? a=some o):Ts w h' a led ks:=by
 obtain ⟨es,ep,tb,⟨⟨o,ho,r⟩,x1,x2,x3,x4⟩,pm⟩:=t
 exact ⟨es,ep,tb,⟨⟨o,k o ho,r⟩,x1,x2,x3,x4⟩,pm⟩
noncomputable def WL (ks:List Str):List Str:=ks.foldl addK []
theorem zdT (ks:List Str) (x:Str):(addK ks x).length<=ks.length+1:=by
 unfold addK;split <;> simp
theorem zcc (a:δ) {Q₁:δ->μ->Prop}(h:Q₁ (.ref s.heap.objs.size) { s with heap:=s.heap.push (set0 w) }):
  mQ (Ζ prog w) A (.call (.builtin "set.__new__") ⟨[.type "set",a],[]⟩) (wants Q₁ E) s:=by
 refine n6 ?_
 show ψ _ A.in1 (do checkBuiltinCall "set.__new__" ⟨[.type "set",a],[]⟩;again (.builtin "set.__new__" ⟨[.type "set",a],[]⟩)) _ _ s
 refine γ (bc (PySem.F.newCall_set_1 a) (ζ ⟨cu nQ _,aP PySem.F.entry_set_new ?_⟩))
 rw [Ϩ nQ _]
 unfold Β.«set.__new__» Β.Frozenset.newClass
 have hsub:=sub_set_self
 obtain ⟨hp,g,d,tk,os⟩:=s
 dsimp only
 wp_walk
 refine ni (ζ ?_)
 dsimp only
 simp only [newObj]
 exact γ (wpAny_alloc (ζ (ζ h)))
theorem zds {R:Result->μ->Prop}{I:Addr}{fp wr:List Addr}{G:Array mW->Array mW->Prop}{n:Nat}{P:Nat->δ->Prop}{Sx:Nat->μ->Prop}
  (W:WalksS prog w A.in1 I fp wr G n P Sx) (S:Addr) (hS:S ∉ fp) {led:Bool}{val:List Str}(hv:val.length=n) (hP:∀ i v,P i v->∀ x,val[i]?=some x->∃ t,v=.str x t) (hb:n+1 < 4096):
  ∀ (k:Nat) (ks:List Str) (s:μ),k<=n->ks.length<=n - k->Sx (n - k) s->Ts w s.heap S led ks ->
   (∀ s',Moved (S::wr) G s s'->Ts w s'.heap S led ((val.drop (n - k)).foldl addK ks)->R (.ok (.ret .none)) s') ->
   mQ (Ζ prog w) A (.builtin "set.update.loop" ⟨[.ref S,.ref I],[]⟩) R s:=by
 have nw:S ∉ wr:=fun h=>hS (W.sub _ h)
 have sub:∀ b∈wr,b∈S::wr:=fun b hb=>ι _ hb
 intro k
 induction k with
 | zero=>
  intro ks s _ _ st hs r
  refine aP gA ?_
  rw [Ϩ cG _]
  refine γ (W.done s _ _ st fun s' m=>ζ (r s' (m.mono sub) ?_))
  rw [List.drop_eq_nil_of_le (by omega)]
  exact hs.keep fun o e=>m.heap S o nw e
 | succ k ih=>
  intro ks s hk hl st hs r
  obtain ⟨x,hx⟩:∃ x,val[n - (k+1)]?=some x:=⟨val[n - (k+1)]'(by omega),θ _⟩
  have dr:val.drop (n - (k+1))=x::val.drop (n - k):=by
   rw [du (by omega),show n - (k+1)+1=n - k by omega]
   rw [θ (by omega)] at hx
   rw [ϔ hx]
  refine aP gA ?_
  rw [Ϩ cG _]
  refine γ (W.item _ s _ _ (by omega) st fun v s' hp st' m=>?_)
  obtain ⟨t,rfl⟩:=hP _ v hp x hx
  have hs':=hs.keep (h':=s'.heap) fun o e=>m.heap S o nw e
  refine γ (Ϥ ?_)
  unfold setAdd
  refine Ϥ (γ (wpAny_pyHash_str (x:=x) (zf1 (s:={ s' with toks:=s'.toks+1 }) hs' (by omega) fun b h' sb hs2=>?_)))
  rw [show n - (k+1)+1=n - k by omega] at st'
  refine ζ ⟨cu cG _,ih (addK ks x) _ (by omega) (by have:=zdT ks x;omega) (W.frame _ s' _ _ st' (fj _) fun b hb o e=>?_) hs2 fun s2 m2 z=>?_⟩
  ·rw [sb.2 b (fun h:b=S=>hS (by rw [<- h];exact hb))];exact e
  ·refine r s2 (Moved.trans W.gtrans ((m.mono sub).then_heap (fj _) fun b o hb e=>?_) m2) (by rw [dr];exact z)
   rw [sb.2 b (fun h:b=S=>hb (by rw [h];exact υ))];exact e
end
section
variable {prog:Ν}{w:ϖ}
structure Row (prog:Ν) (w:ϖ) (T:String) (l:Addr) (its:Array δ) (OK:Heap->Prop) (Sx:Addr->Nat->Heap->Prop) (itO:Obj):Prop where
 there:∀ h,OK h->∃ o,h.get? l=some o/\o.cls=.type T
 keep:∀ h h',OK h->(∀ o,h.get? l=some o->h'.get? l=some o)->OK h'
 it:∀ {A:ϗ}{E:δ->μ->Prop}{s:μ}{Q:δ->μ->Prop},OK s.heap->Q (.ref s.heap.objs.size) { s with heap:=s.heap.push itO }->ψ (Ζ prog w) A (iM (.ref l)) Q E s
 wk:∀ {A:ϗ}(I:Addr),A.handled=none->l≠I->Walks prog w A I [I,l] [I] its.size (fun i v=>its[i]?=some v) (Sx I)
 st:∀ h,OK h->Sx h.objs.size 0 (h.push itO)
 n1:isSubtype (.type T) (.type "set")=pure false
 n2:isSubtype (.type T) (.type "frozenset")=pure false
 n3:(Ψ T==Ψ "dict")=false
theorem rowL (l:Addr) (its:Array δ):Row prog w "list" l its (fun h=>h.IsList l its) (fun I i h=>h.IsListIter I l i/\h.IsList l its) { cls:=.type "list_iterator",data:=.fields #[.ref l,.int 0 0] } where
 there:=fun h ⟨o,e,c,_⟩=>⟨o,e,c⟩
 keep:=fun h h' ⟨o,e,r⟩ k=>⟨o,k o e,r⟩
 it:=fun h q=>eF h q
 wk:=fun I hh hn=>mR hh I l hn its
 st:=fun h k=>⟨⟨_,ς _ rfl,rfl,rfl⟩,k.push _⟩
 n1:=PySem.F.sub_list_set
 n2:=PySem.F.sub_list_frozenset
 n3:=by decide
theorem rowT (l:Addr) (its:Array δ):Row prog w "tuple" l its (fun h=>h.IsTuple l its) (fun I i h=>h.IsTupleIter I l i/\h.IsTuple l its) { cls:=.type "tuple_iterator",data:=.fields #[.ref l,.int 0 0] } where
 there:=fun h ⟨o,e,c,_⟩=>⟨o,e,c⟩
 keep:=fun h h' ⟨o,e,r⟩ k=>⟨o,k o e,r⟩
 it:=fun h q=>mj h q
 wk:=fun I hh hn=>Walks.tuple hh I l hn its
 st:=fun h ⟨o,e,r⟩=>⟨⟨_,ς _ rfl,rfl,rfl⟩,⟨o,η _ e,r⟩⟩
 n1:=by rw [gD];kernel_rfl
 n2:=by rw [gD];kernel_rfl
 n3:=by decide
theorem zaW {T:String}{l:Addr}{its:Array δ}{OK:Heap->Prop}{Sx:Addr->Nat->Heap->Prop}{itO:Obj}{val:List Str}{Q:δ->μ->Prop}(R:Row prog w T l its OK Sx itO) (hh:A.handled=none) (hl:OK s.heap)
  (hv:val.length=its.size) (hP:∀ (i:Nat) (v:δ),its[i]?=some v->∀ x,val[i]?=some x->∃ t,v=.str x t) (hb:its.size+1 < 4096)
  (h:∀ (h':Heap) (tk:Nat),Ts w h' s.heap.objs.size (ledW w) (WL val)->(∀ b o,s.heap.get? b=some o->h'.get? b=some o)->Q (.ref s.heap.objs.size) { s with heap:=h',toks:=tk }):
  ψ (Ζ prog w) A (call (.type "set") [.ref l]) Q E s:=by
 obtain ⟨c,tl,hmro⟩:=aW.mro
 have hmade:=aW.made
 have hsub:=aW.sub
 refine wpAny_call (n6 ?_)
 show ψ _ _ (callAny (.type "set") _) _ _ _
 refine ζ ⟨Code.quiet_builtin _ (by decide +kernel),aP PySem.F.entry_type_call ?_⟩
 rw [ϗ.under_plain (weight_type_call_type "set" [.ref l] []) rfl]
 have h1:=aW.notType
 have h2:=aW.canCreate
 have hct:=PySem.F.typeCall_set_1 (.ref l)
 repeat (any_goals (first | assumption | wp_step))
 refine gm (zcc (.ref l) (E:=E) (Q₁:=fun ob s1=>ob=.ref s.heap.objs.size/\s1={ s with heap:=s.heap.push (set0 w) }) ⟨rfl,rfl⟩) fun r s1 hr=>?_
 cases r with
 | error e=>exact hr
 | ok fl=>
  cases fl with
  | ret ob=>
   obtain ⟨rfl,rfl⟩:=hr
   have hS:(s.heap.push (set0 w)).get? s.heap.objs.size=some (set0 w):=ς _ rfl
   have hT:bU { s with heap:=s.heap.push (set0 w) } (.ref s.heap.objs.size) "set":=⟨_,hS,rfl⟩
   have hli:=aW.init.lookup
   have hbi:=aW.init.bind (.ref s.heap.objs.size)
   repeat (any_goals (first | assumption | wp_step))
   refine gm (codeAny_call_builtin (R:=wants (fun r s2=>r=.none/\∃ h' tk,s2={ s with heap:=h',toks:=tk }/\Ts w h' s.heap.objs.size (ledW w) (WL val)/\∀ b o,s.heap.get? b=some o->h'.get? b=some o) E)
    aW.init.plain PySem.F.entry_set_init (check_set_init_1 hT ?_)) fun r2 s2 hr2=>?_
   ·obtain ⟨ol,hol,hcl⟩:=R.there _ hl
    have lt:=χ hol
    have hol':(s.heap.push (set0 w)).get? l=some ol:=η _ hol
    have ok1:OK (s.heap.push (set0 w)):=R.keep _ _ hl fun o e=>η _ e
    have k1:=R.n1
    have k2:=R.n2
    have k3:=R.n3
    have hty:bU { s with heap:=s.heap.push (set0 w) } (.ref l) T:=⟨_,hol',hcl⟩
    unfold Β.«set.__init__» noKeywords Β.Frozenset.updateFrom
    generalize hPI:iM=PI
    wp_walk
    subst hPI
    have hh3:A.in1.in1.in1.handled=none:=by simp [hh]
    have sz:(s.heap.push (set0 w)).objs.size=s.heap.objs.size+1:=by rw [dg]
    have ne:l≠(s.heap.push (set0 w)).objs.size:=by rw [sz];exact Λ (bV lt)
    refine R.it (s:={ s with heap:=s.heap.push (set0 w) }) ok1 (γ (oK (zds (led:=ledW w) (val:=val) (R.wk _ hh3 ne).toS s.heap.objs.size ?_ hv hP hb its.size [] _ (ξ _) (Ϣ _) ?_ ?_ fun s' m z=>?_)))
    ·rw [sz]
     intro hm
     rcases Κ.mp hm with e | hm
     ·exact Λ (eV _) e
     ·rw [Υ] at hm;exact d8 lt hm
    ·rw [lW];exact R.st _ ok1
    ·exact ts0 (η _ hS)
    ·rw [lW,List.drop_zero] at z
     obtain ⟨h',g',d',tk',os'⟩:=s'
     have e1:g'=s.gens:=m.gens
     have e2:d'=s.drawn:=m.drawn
     have e3:os'=s.os:=m.os
     subst e1 e2 e3
     refine ζ (ζ ⟨rfl,h',tk',rfl,z,fun b o e=>?_⟩)
     have lb:=χ e
     refine m.heap b o ?_ (η _ (η _ e))
     rw [sz]
     intro hm
     rcases Κ.mp hm with e | hm
     ·exact Λ lb e
     ·rw [Υ] at hm;exact Λ (bV lb) hm
   ·cases r2 with
    | error e=>exact hr2
    | ok fl2=>
     cases fl2 with
     | ret r=>
      obtain ⟨rfl,h',tk,rfl,z,hk⟩:=hr2
      repeat (any_goals (first | assumption | wp_step))
      exact h _ _ z hk
     | _=>exact hr2.elim
  | _=>exact hr.elim
end
section
variable {prog:Ν}{w:ϖ}
theorem Qd {src:Source}{n:Nat}{Q:Nat->μ->Prop}(hn:n≠0) (q:∀ i d,i < n->Q i { s with drawn:=d }):ψ (Ζ prog w) A (choose src n) Q E s:=by
 intro Γ p h
 exact ⟨hn,q _ _ (Nat.mod_lt _ (Nat.pos_of_ne_zero hn))⟩
theorem qg {α:Type}:∀ (xs:List α) (i:Nat) (hi:i < xs.length),(xs[i]::xs.eraseIdx i).Perm xs
 | x::xs,0,_=>au _
 | x::xs,i+1,hi=>(gO _ _ _).trans ((qg xs i (by simpa using hi)).cons x)
theorem zdB {α:Type}(n:Nat):∀ (xs:List α) (s:μ) {Q:List α->μ->Prop},xs.length=n->(∀ ys d,ys.Perm xs->Q ys { s with drawn:=d })->ψ (Ζ prog w) A (drawOrder n xs) Q E s:=by
 induction n with
 | zero=>
  intro xs s Q h q
  cases xs with
  | nil=>exact ζ (q [] s.drawn (au _))
  | cons x xs=>cases h
 | succ n ih=>
  intro xs s Q h q
  cases xs with
  | nil=>cases h
  | cons x xs=>
   show ψ _ _ (choose .order (x::xs).length >>= _) _ _ _
   refine γ (Qd (by simp) fun i d hi=>?_)
   rw [θ hi]
   refine γ (ih _ _ (by rw [oY,if_pos hi];simp at h;simp [h]) fun ys d' p=>ζ ?_)
   refine q _ d' ((p.cons _).trans ?_)
   exact qg _ _ hi
end
theorem kI:Slot "set_iterator" "__next__" "set_iterator.__next__":=
 .of (owner:="set_iterator") (n:="__next__") (by rw [fZ,di];kernel_rfl) (by decide +kernel) (by decide +kernel) (by decide +kernel)
  (by first | exact .inl (by decide +kernel) | exact .inr (by decide +kernel)) (by rw [gD];kernel_rfl)
theorem zaP:entryFor table "set_iterator.__next__"=some Β.«set_iterator.__next__»:=entryFor_of_fast (by kernel_rfl)
theorem zdP (a:δ):argsOk "set_iterator.__next__" ⟨[a],[]⟩:=by unfold argsOk;kernel_rfl
theorem Xu:entryFor table "set.__iter__"=some Β.«frozenset.__iter__»:=oR (id':="frozenset.__iter__") (by kernel_rfl) rfl (by decide +kernel) (by kernel_rfl)
section
variable {prog:Ν}{w:ϖ}
theorem zb7 {P:Fin->μ->Prop}(hh:A.handled=none) (q:∀ (e:δ) (h':Heap),(∀ b o,s.heap.get? b=some o->h'.get? b=some o)->bU { s with heap:=h' } e "StopIteration"->E e { s with heap:=h' }):
  ψ (Ζ prog w) A (do raiseNew (<- newExc (.type "StopIteration") []):Sem Fin) P E s:=by
 refine γ ?_
 simp only [newExc,newTuple]
 refine γ (Χ ?_ (by size_fits))
 refine γ (m:=eU _ _) (bc (a:=Ε) (by first | rfl | (simp only [eU];rfl)) ?_)
 refine Χ ?_ (by size_fits)
 simp only [raiseNew]
 refine γ (lX ?_)
 rw [hh]
 exact γ (ζ (nF (q (.ref _) _ (fun b o e=>η _ (η _ e)) ⟨_,ς _ rfl,rfl⟩)))
theorem JT {I:Addr}{Q:Option δ->μ->Prop}(hT:s.TypeIs (.ref I) "set_iterator")
  (h:ψ (Ζ prog w) A.in1 (Β.«set_iterator.__next__» ⟨[.ref I],[]⟩) (fun f s'=>∃ x,f=.done (.ret x)/\Q (some x) s') (fun e s'=>s'.TypeIs e "StopIteration"/\Q none s') s):ψ (Ζ prog w) A (eQ (.ref I)) Q E s:=by
 unfold eQ
 refine γ (cg (ϙ (name:=cD "__next__") hT kI (ϒ kI hT zaP (bO h (fun f s' k=>?_) fun e s' k=>?_) (zdP _))))
 ·obtain ⟨x,rfl,k⟩:=k
  exact ⟨x,rfl,ζ k⟩
 ·exact γ (dH (T:="StopIteration") (b:=true) k.1 lH (ζ k.2))
noncomputable def SI (f:δ) (i n ep:Nat) (a:Addr):Obj:={ cls:=.type "set_iterator",data:=.fields #[f,.int i 0,.ref a,.int n 0,.int ep 0] }
def Fst (w:ϖ) (h:Heap) (I a tp:Addr) (es:Array (Int×δ)) (ep:Nat) (tb:Ϛ) (ord:List (Int×δ)) (i:Nat) (f:δ):Prop:=
 (w.params.followText "set-order"=true/\(∃ k:Nat,f=.int k 0)/\ord=(nj (w.params.setOrder a ep) es).toList) \/
 (w.params.followText "set-order"=false/\∃ (js:List Nat),f=.ref tp/\tp≠I/\(∃ o n,h.get? tp=some o/\o.data=.seq (js.map fun j:Nat=>ϕ j 0).toArray n)/\js.length=ord.length/\∀ (k:Nat) j,js[k]?=some j->es[j]?=ord[k]?) \/
 (w.params.followText "set-order"=false/\es.size<=1/\tb.led=true/\ord=es.toList/\f=.int (if i=0 then 0 else tb.place.getD 0 0+1:Nat) 0)
theorem Zz {α:Type}(nx:Nat->Nat):∀ (n k:Nat) (l:List α) (out:Array α),l.length=n->(mO nx n k l out).toList.Perm (out.toList++l)
 | 0,k,[],out,_=>by simp [mO]
 | n+1,k,x::l,out,h=>by
  unfold mO
  have hi:nx k % (x::l).length < (x::l).length:=Nat.mod_lt _ (by simp)
  rw [θ hi]
  dsimp only
  refine (Zz nx n (k+1) _ _ (by rw [oY,if_pos hi];simp at h;simp [h])).trans ?_
  rw [pB,aA]
  exact (qg _ _ hi).append_left _
end
section
variable {prog:Ν}{w:ϖ}{I a tp:Addr}{led:Bool}{es:Array (Int×δ)}{ep:Nat}{tb:Ϛ}{ord:List (Int×δ)}{i:Nat}{f:δ}
structure Wk (w:ϖ) (h:Heap) (I a tp:Addr) (led:Bool) (es:Array (Int×δ)) (ep:Nat) (tb:Ϛ) (ord:List (Int×δ)) (i:Nat):Prop where
 ne:a≠I
 st:St w h a led es ep tb
 it:∃ f,h.get? I=some (SI f i es.size ep a)/\Fst w h I a tp es ep tb ord i f
theorem jm {h:Heap}{o:Obj}{vs:Array δ}{k:Nat}{x:δ}(ho:h.get? I=some { cls:=.type "set_iterator",data:=.fields vs }):
  (h.update I (gH (·.setIfInBounds k x))).get? I=some { cls:=.type "set_iterator",data:=.fields (vs.setIfInBounds k x) }:=
 aZ _ ho rfl
theorem qO {Q:Bool->μ->Prop}(q:Q (w.params.followText "set-order") s):ψ (Ζ prog w) A setsByText Q E s:=γ (ni (ζ q))
theorem JN {Q:Option (δ×Nat)->μ->Prop}{n:Nat}(st:St w s.heap a led es ep tb) (c:w.params.followText "set-order"=true) (q:Q ((nj (w.params.setOrder a ep) es)[i]?.map fun e=>(e.2,n)) s):ψ (Ζ prog w) A (setNext a n i ep) Q E s:=by
 obtain ⟨⟨so,so1,so2,so3⟩,tx,fit,l1,pl⟩:=st
 unfold setNext
 refine γ (dj so1 so3 fit (γ (qO ?_)))
 rw [c,if_pos rfl,if_neg (by simp)]
 unfold setWalk
 refine γ (γ (dj so1 so3 fit (γ (qO ?_))))
 rw [c,if_pos rfl]
 exact γ (ni (ζ (ζ q)))
theorem zbs {Q:Option (δ×Nat)->μ->Prop}{n:Nat}(st:St w s.heap a led es ep tb) (c:w.params.followText "set-order"=false) (c2:es.size<=1) (c3:tb.led=true)
  (q:Q (match es[bH tb.place n]?,tb.place[bH tb.place n]? with | some (_,x),some j=>some (x,j+1) | _,_=>none) s):ψ (Ζ prog w) A (setNext a n i ep) Q E s:=by
 obtain ⟨⟨so,so1,so2,so3⟩,tx,fit,l1,pl⟩:=st
 unfold setNext
 refine γ (dj so1 so3 fit (γ (qO ?_)))
 rw [c,if_neg (by simp)]
 show ψ _ _ (if (!tb.plain&&decide (es.size > 1))=true then _ else _) _ _ _
 rw [if_neg (by simp;omega)]
 refine γ (bc (a:=()) ?_ (ζ q))
 show (if (!tb.led&&!es.isEmpty)=true then unsupported "set:maker-not-led" else pure ())=pure ()
 rw [c3];rfl
theorem zas {Q:δ->μ->Prop}{n:Nat}{x:Int×δ}(st:St w s.heap a led es ep tb) (e:es[n]?=some x) (q:Q x.2 s):ψ (Ζ prog w) A (setNextDrawn a n ep) Q E s:=by
 obtain ⟨⟨so,so1,so2,so3⟩,tx,fit,l1,pl⟩:=st
 unfold setNextDrawn
 refine γ (dj so1 so3 fit ?_)
 dsimp only
 rw [if_neg (by simp),e]
 exact ζ q
theorem next_item {Q:Option δ->μ->Prop}{x:Int×δ}(k:Wk w s.heap I a tp led es ep tb ord i) (hx:ord[i]?=some x)
  (q:∀ h',(∀ b o,b≠I->s.heap.get? b=some o->h'.get? b=some o)->Wk w h' I a tp led es ep tb ord (i+1)->Q (some x.2) { s with heap:=h' }):ψ (Ζ prog w) A (eQ (.ref I)) Q E s:=by
 obtain ⟨ne,st,f,ho,fs⟩:=k
 obtain ⟨⟨so,so1,so2,so3⟩,tx,fit,l1,pl⟩:=id st
 refine JT ⟨_,ho,rfl⟩ ?_
 unfold Β.«set_iterator.__next__»
 refine γ (bc (a:=(ω I,[])) rfl (γ (cC ho rfl ?_)))
 dsimp only
 refine γ (lU so1 so3 fit ?_)
 rw [if_neg (by simp)]
 have keepS:∀ {h':Heap},(∀ b o,b≠I->s.heap.get? b=some o->h'.get? b=some o)->St w h' a led es ep tb:=fun kk=>⟨⟨so,kk a so ne so1,so2,so3⟩,tx,fit,l1,pl⟩
 have kk1:∀ {y:Nat}{z:δ}{h:Heap},(∀ b o,b≠I->s.heap.get? b=some o->h.get? b=some o)->∀ b o,b≠I->s.heap.get? b=some o->(h.update I (gH (·.setIfInBounds y z))).get? b=some o:=fun hk b o hb e=>by
  rw [bG _ _ _ _ hb];exact hk b o hb e
 have kk0:∀ b o,b≠I->s.heap.get? b=some o->s.heap.get? b=some o:=fun _ _ _ e=>e
 rcases fs with ⟨c1,⟨k,rfl⟩,c3⟩ | ⟨c1,js,rfl,c2,⟨o,n,c3,c4⟩,c5,c6⟩ | ⟨c1,c2,c3,c4,rfl⟩
 ·refine γ (JN (i:=i) (n:=k) (ep:=ep) st c1 ?_)
  rw [<- bK,<- c3,hx]
  dsimp only [gM]
  have e1:=jm (o:=so) (k:=0) (x:=aF (k:Nat)) ho
  refine γ (Ϯ ho rfl (by simp) (γ (Ϯ e1 rfl (by simp) (ζ ⟨_,rfl,q _ (kk1 (kk1 kk0)) ⟨ne,keepS (kk1 (kk1 kk0)),_,?_,.inl ⟨c1,⟨k,rfl⟩,c3⟩⟩⟩))))
  rw [jm (o:=so) e1]
  simp [SI,aF]
 ·refine γ (lD c3 c4 ?_)
  have hj:∃ j,js[i]?=some j:=by
   have:i < js.length:=by rw [c5];exact (π.mp hx).1
   exact ⟨_,θ this⟩
  obtain ⟨j,hj⟩:=hj
  dsimp only
  rw [cU,iw,Δ,hj]
  dsimp only [gM]
  refine γ (zas (n:=j) (ep:=ep) st (by rw [c6 i j hj];exact hx) (γ (Ϯ ho rfl (by simp) (ζ ⟨_,rfl,q _ (kk1 kk0) ⟨ne,keepS (kk1 kk0),_,?_,.inr (.inl ⟨c1,js,rfl,c2,⟨o,n,kk1 kk0 tp o c2 c3,c4⟩,c5,c6⟩)⟩⟩))))
  rw [jm (o:=so) ho]
  simp [SI,aF]
 ·subst c4
  have i0:i=0:=by have:=(π.mp hx).1;rw [Τ] at this;omega
  subst i0
  have p1:tb.place.size=1:=by
   have:=(π.mp hx).1
   rw [Τ] at this
   have f:=fit
   unfold Ϛ.fits at f
   simp only [ε,beq_iff_eq] at f
   omega
  obtain ⟨j,pj⟩:∃ j,tb.place=#[j]:=oH.mp p1
  obtain ⟨x1,x2⟩:=x
  refine γ (zbs (n:=0) (i:=0) (ep:=ep) st c1 c2 c3 ?_)
  rw [pj]
  have b0:bH #[j] 0=0:=by simp [bH,mU]
  rw [b0,<- bK,hx,show (#[j]:Array Nat)[0]?=some j from rfl]
  dsimp only
  have e1:=jm (o:=so) (k:=0) (x:=aF (j+1:Nat)) ho
  refine γ (Ϯ ho rfl (by simp) (γ (Ϯ e1 rfl (by simp) (ζ ⟨_,rfl,q _ (kk1 (kk1 kk0)) ⟨ne,keepS (kk1 (kk1 kk0)),_,?_,.inr (.inr ⟨c1,c2,c3,rfl,rfl⟩)⟩⟩))))
  rw [jm (o:=so) e1,pj]
  simp [SI,aF]
end
section
variable {prog:Ν}{w:ϖ}{I a tp:Addr}{led:Bool}{es:Array (Int×δ)}{ep:Nat}{tb:Ϛ}{ord:List (Int×δ)}{i:Nat}{f:δ}
theorem next_end {Q:Option δ->μ->Prop}(hh:A.handled=none) (k:Wk w s.heap I a tp led es ep tb ord ord.length) (hp:ord.Perm es.toList)
  (q:∀ h',(∀ b o,b≠I->s.heap.get? b=some o->h'.get? b=some o)->Q none { s with heap:=h' }):ψ (Ζ prog w) A (eQ (.ref I)) Q E s:=by
 obtain ⟨ne,st,f,ho,fs⟩:=k
 obtain ⟨⟨so,so1,so2,so3⟩,tx,fit,l1,pl⟩:=id st
 have sz:ord.length=es.size:=by rw [hp.length_eq,Τ]
 refine JT ⟨_,ho,rfl⟩ ?_
 unfold Β.«set_iterator.__next__»
 refine γ (bc (a:=(ω I,[])) rfl (γ (cC ho rfl ?_)))
 dsimp only
 refine γ (lU so1 so3 fit ?_)
 rw [if_neg (by simp)]
 have kk1:∀ {y:Nat}{z:δ}{h:Heap},(∀ b o,b≠I->s.heap.get? b=some o->h.get? b=some o)->∀ b o,b≠I->s.heap.get? b=some o->(h.update I (gH (·.setIfInBounds y z))).get? b=some o:=fun hk b o hb e=>by
  rw [bG _ _ _ _ hb];exact hk b o hb e
 have kk0:∀ b o,b≠I->s.heap.get? b=some o->s.heap.get? b=some o:=fun _ _ _ e=>e
 have fin:∀ (h:Heap) (P:Fin->μ->Prop),(∀ b o,b≠I->s.heap.get? b=some o->h.get? b=some o)->ψ (Ζ prog w) A.in1 (do raiseNew (<- newExc (.type "StopIteration") []):Sem Fin) P (fun e s'=>s'.TypeIs e "StopIteration"/\Q none s') { s with heap:=h }:=fun h P hk=>
  zb7 (s:={ s with heap:=h }) (by simpa using hh) fun e h' k1 k2=>⟨k2,q h' fun b o hb e=>k1 b o (hk b o hb e)⟩
 rcases fs with ⟨c1,⟨k,rfl⟩,c3⟩ | ⟨c1,js,rfl,c2,⟨o,n,c3,c4⟩,c5,c6⟩ | ⟨c1,c2,c3,c4,rfl⟩
 ·refine γ (JN (i:=ord.length) (n:=k) (ep:=ep) st c1 ?_)
  rw [<- bK,<- c3,aY (ξ _)]
  dsimp only [Option.map_none]
  exact γ (Ϯ ho rfl (by simp) (fin _ _ (kk1 kk0)))
 ·refine γ (lD c3 c4 ?_)
  dsimp only
  rw [cU,iw,Δ,aY (by rw [c5];exact ξ _)]
  dsimp only [Option.map_none]
  have e1:=jm (o:=so) (k:=0) (x:=aF 0) ho
  exact γ (Ϯ ho rfl (by simp) (γ (Ϯ e1 rfl (by simp) (fin _ _ (kk1 (kk1 kk0))))))
 ·subst c4
  have ft:tb.place.size=es.size:=by
   have f:=fit
   unfold Ϛ.fits at f
   simp only [ε,beq_iff_eq] at f
   exact f.1
  obtain ⟨n,hn,hb⟩:∃ n:Nat,(if es.toList.length=0 then 0 else tb.place.getD 0 0+1:Nat)=n/\es.size<=bH tb.place n:=by
   refine ⟨_,rfl,?_⟩
   rcases Nat.lt_or_ge 0 es.size with h | h
   ·have p1:tb.place.size=1:=by omega
    obtain ⟨j,pj⟩:∃ j,tb.place=#[j]:=oH.mp p1
    rw [if_neg (by rw [Τ];omega),pj]
    have b1:bH #[j] (j+1)=1:=by simp [bH,mU]
    have b2:(#[j]:Array Nat).getD 0 0=j:=rfl
    rw [b2,b1];omega
   ·omega
  rw [hn]
  refine γ (zbs (n:=n) (i:=es.toList.length) (ep:=ep) st c1 c2 c3 ?_)
  rw [gP hb]
  dsimp only
  exact γ (Ϯ ho rfl (by simp) (fin _ _ (kk1 kk0)))
theorem Wk.keep {h h':Heap}(k:Wk w h I a tp led es ep tb ord i) (kk:∀ b∈[I,a,tp],∀ o,h.get? b=some o->h'.get? b=some o):Wk w h' I a tp led es ep tb ord i:=by
 obtain ⟨ne,⟨⟨so,so1,so2⟩,z1,z2,z3,z4⟩,f,ho,fs⟩:=k
 refine ⟨ne,⟨⟨so,kk a (by simp) so so1,so2⟩,z1,z2,z3,z4⟩,f,kk _ (by simp) _ ho,?_⟩
 rcases fs with c | ⟨c1,js,c2,c3,⟨o,n,c4,c5⟩,c6⟩ | c
 ·exact .inl c
 ·exact .inr (.inl ⟨c1,js,c2,c3,⟨o,n,kk _ (by simp) _ c4,c5⟩,c6⟩)
 ·exact .inr (.inr c)
set_option tactic.hygienic true in
theorem zdk {Q:δ->μ->Prop}(st:St w s.heap a (ledW w) es ep tb) (hz:es.size<=sizeLine) (q:∀ (ord:List (Int×δ)) (I tp:Addr) (h':Heap) (d:Drawn),ord.Perm es.toList->(∀ b o,s.heap.get? b=some o->h'.get? b=some o)->s.heap.get? I=none->(tp=a\/s.heap.get? tp=none)->Wk w h' I a tp (ledW w) es ep tb ord 0->Q (.ref I) { s with heap:=h',drawn:=d }):
  ψ (Ζ prog w) A (iM (.ref a)) Q E s:=by
 obtain ⟨⟨so,so1,so2,so3⟩,tx,fit,l1,pl⟩:=id st
 have hT:s.TypeIs (.ref a) "set":=⟨_,so1,so2.1⟩
 refine gQ hT nO (ϒ nO hT Xu ?_ (PySem.F.args_set_iter_1 _))
 unfold Β.«frozenset.__iter__» Β.Frozenset.slot0 Β.Frozenset.sizeOf setDrawn
 refine γ (bc (a:=a) rfl (γ (γ (lU so1 so3 fit (ζ ?_)))))
 refine γ (γ (dj so1 so3 fit (γ (qO (ζ ?_)))))
 have nI:∀ {h:Heap},s.heap.objs.size<=h.objs.size->s.heap.get? h.objs.size=none:=fun {h} hl=>by
  cases e:s.heap.get? h.objs.size with
  | none=>rfl
  | some o=>exact absurd (χ e) (Nat.not_lt.mpr hl)
 have na:∀ {h:Heap},s.heap.objs.size<=h.objs.size->a≠h.objs.size:=fun {h} hl e=>cN _ (ό (e ▸ χ so1) hl)
 have fin:∀ (f:δ) (tp:Addr) (ord:List (Int×δ)) (h:Heap) (d:Drawn),s.heap.objs.size<=h.objs.size->(∀ b o,s.heap.get? b=some o->h.get? b=some o)->ord.Perm es.toList->(tp=a\/s.heap.get? tp=none)->Fst w (h.push (SI f 0 es.size ep a)) h.objs.size a tp es ep tb ord 0 f ->
   ψ (Ζ prog w) A.in1 (do ret (<- newFields "set_iterator" [f,aF 0,.ref a,aF es.size,aF (<- setEpoch a)])) (fun f' s'=>∃ v,f'=.done (.ret v)/\∃ T u,s'.TypeIs v T/\mq (.type T) (cD "__next__")=pure (some u)/\Q v s') E { s with heap:=h,drawn:=d }:=by
  intro f tp ord h d hl hk pm ht fs
  refine γ (wpAny_setEpoch_of (hk a so so1) so3 fit (γ (Χ (ζ ⟨_,rfl,"set_iterator",_,⟨_,ς _ rfl,rfl⟩,kI.lookup,?_⟩))))
  refine q ord h.objs.size tp (h.push (SI f 0 es.size ep a)) d pm (fun b o e=>η _ (hk b o e)) (nI hl) ht ⟨na hl,⟨⟨so,η _ (hk a so so1),so2,so3⟩,tx,fit,l1,pl⟩,f,ς _ rfl,fs⟩
 cases c:w.params.followText "set-order" with
 | true=>
  show ψ _ _ (if (!true&&(!tb.plain&&decide (es.size > 1)))=true then _ else _) _ _ _
  rw [if_neg (by simp)]
  refine γ (ζ (fin (aF 0) a _ s.heap s.drawn (ξ _) (fun _ _ e=>e) ?_ (.inl rfl) (.inl ⟨c,⟨0,rfl⟩,rfl⟩)))
  exact Zz _ _ _ _ _ (Τ ..)
 | false=>
  show ψ _ _ (if (!false&&(!tb.plain&&decide (es.size > 1)))=true then _ else _) _ _ _
  split
  ·rename_i g
   refine γ (zdB _ _ _ (ϱ ..) fun js d pj=>γ (lE ?_ (by rw [ν,pj.length_eq,ϱ];exact hz)))
   have lj:js.length=es.size:=by rw [pj.length_eq,ϱ]
   have jb:∀ j∈js,j < es.size:=fun j hj=>ϫ.mp (pj.mem_iff.mp hj)
   have om:∀ js:List Nat,(∀ j∈js,j < es.size)->(js.filterMap (es[·]?)).length=js.length/\∀ (k:Nat) (j:Nat),js[k]?=some j->es[j]?=(js.filterMap (es[·]?))[k]?:=by
    intro js
    induction js with
    | nil=>exact fun _=>⟨rfl,fun k j h=>by simp at h⟩
    | cons x js ih=>
     intro hb
     obtain ⟨h1,h2⟩:=ih fun j hj=>hb j (ι _ hj)
     have hx:es[x]?=some (es[x]'(hb x υ)):=Ϡ _
     rw [dw,hx]
     refine ⟨by simp [h1],fun k j h=>?_⟩
     cases k with
     | zero=>cases (ϔ h);rw [hx];rfl
     | succ k=>exact h2 k j h
   obtain ⟨o1,o2⟩:=om js jb
   refine fin (.ref s.heap.objs.size) s.heap.objs.size (js.filterMap (es[·]?)) _ d (by rw [fH];exact fj _) (fun b o e=>η _ e) ?_ (.inr (nI (ξ _))) (.inr (.inl ⟨c,js,rfl,?_,⟨_,_,η _ (ς _ rfl),rfl⟩,o1.symm,o2⟩))
   ·refine (pj.filterMap _).trans ?_
    rw [show (fun x=>es[x]?)=fun i=>es[i]? from rfl,filterMap_getElem?_range]
   ·rw [fH];exact Λ (eV _)
  ·rename_i g
   refine γ (ζ (fin (aF 0) a es.toList s.heap s.drawn (ξ _) (fun _ _ e=>e) (au _) (.inl rfl) (.inr (.inr ⟨c,?_,?_,rfl,rfl⟩))))
   ·rcases pl with p | p
    ·omega
    ·rw [p] at g;simp at g;omega
   ·rw [l1,ledW,c];rfl
end
theorem Wi:Slot "set_iterator" "__iter__" "set_iterator.__iter__":=
 .of (owner:="set_iterator") (n:="__iter__") (by rw [fZ,di];kernel_rfl) (by decide +kernel) (by decide +kernel) (by decide +kernel)
  (by first | exact .inl (by decide +kernel) | exact .inr (by decide +kernel)) (by rw [gD];kernel_rfl)
theorem K3:entryFor table "set_iterator.__iter__"=some Β.«dict_keyiterator.__iter__»:=oR (id':="dict_keyiterator.__iter__") (by kernel_rfl) rfl (by decide +kernel) (by kernel_rfl)
theorem za3 (a:δ):argsOk "set_iterator.__iter__" ⟨[a],[]⟩:=by unfold argsOk;kernel_rfl
theorem zcd:mq (.type "set") "__len__"=pure (some (.builtin "set.__len__")):=by rw [fZ,di];kernel_rfl
section
variable {prog:Ν}{w:ϖ}{I a tp:Addr}{led:Bool}{es:Array (Int×δ)}{ep:Nat}{tb:Ϛ}{ord:List (Int×δ)}{i:Nat}{f:δ}
theorem Qy (hh:A.handled=none) (hp:ord.Perm es.toList):Walks prog w A I [I,a,tp] [I] ord.length (fun i v=>(ord.map (·.2))[i]?=some v) (fun i h=>Wk w h I a tp led es ep tb ord i) where
 sub:=fun b hb=>by simp at hb;simp [hb]
 frame:=fun _ _ _ st hk=>st.keep hk
 item:=fun i s Q E hi st hQ=>next_item (x:=ord[i]) st (θ hi) fun h' k st'=>hQ _ h' s.toks (by simp [hi]) st' fun b o hb e=>k b o (by simpa using hb) e
 done:=fun s Q E st hQ=>next_end hh st hp fun h' k=>hQ h' s.toks fun b o hb e=>k b o (by simpa using hb) e
 self:=fun i s Q E st hQ=>by
  obtain ⟨f,ho,_⟩:=st.it
  have hT:s.TypeIs (.ref I) "set_iterator":=⟨_,ho,rfl⟩
  refine gQ hT Wi (ϒ Wi hT K3 ?_ (za3 _))
  exact ζ ⟨_,rfl,"set_iterator",_,hT,kI.lookup,hQ⟩
theorem Xy {R:List δ->μ->Prop}(hh:A.handled=none) (st:St w s.heap a (ledW w) es ep tb) (hz:es.size < 4096)
  (h:∀ (ord:List (Int×δ)) (h':Heap) (tk:Nat) (d:Drawn),ord.Perm es.toList->s.heap.objs.size<=h'.objs.size->(∀ b o,s.heap.get? b=some o->h'.get? b=some o)->R (ord.map (·.2)) { s with heap:=h',toks:=tk,drawn:=d }):ψ (Ζ prog w) A (collect (.ref a)) R E s:=by
 obtain ⟨⟨so,so1,so2,so3⟩,z1,z2,z3,z4⟩:=id st
 have hn:es.size<=sizeLine:=by rw [Ϧ];omega
 have lt:=χ so1
 unfold collect
 refine γ (oK (aP lZ ?_))
 rw [Ϩ lY _]
 show ψ _ A.in1 (newList [] >>= fun l=>again (.builtin "list.__iadd__" ⟨[l,.ref a],[]⟩)) _ _ s
 refine γ (Χ (ζ ⟨cu dC _,aP m6 ?_⟩))
 rw [Ϩ dC _]
 show ψ _ A.in1 (aD (.ref s.heap.objs.size) (.ref a) (.ref s.heap.objs.size)) _ _ _
 generalize h1e:s.heap.push { cls:=.type "list",data:=.seq ([]:List δ).toArray }=h1
 have k1:∀ b o,s.heap.get? b=some o->h1.get? b=some o:=fun b o e=>by rw [<- h1e];exact η _ e
 have hS:h1.get? s.heap.objs.size=some { cls:=.type "list",data:=.seq #[] }:=by rw [<- h1e];exact ς _ rfl
 have st1:St w h1 a (ledW w) es ep tb:=⟨⟨so,k1 a so so1,so2,so3⟩,z1,z2,z3,z4⟩
 have hT:∀ (h:Heap) (d:Drawn),(∀ b o,h1.get? b=some o->h.get? b=some o)->bU { s with heap:=h,drawn:=d } (.ref a) "set":=fun h d k=>⟨so,k a so (k1 a so so1),so2.1⟩
 have nSa:s.heap.objs.size≠a:=d8 lt
 unfold aD
 refine γ (bL (hT h1 s.drawn fun _ _ e=>e) ?_)
 have e1:cW (.ref s.heap.objs.size) (.ref a)=false:=by simp [cW,nSa]
 rw [if_neg (by rw [e1];decide)]
 refine γ (zdk (s:={ s with heap:=h1 }) st1 hn fun ord I tp h2 d pm k2 nI nt wk=>?_)
 refine γ (Ϥ ?_)
 unfold lz
 refine γ (nW (hT h2 d k2) zcd ?_)
 (generalize hid:("set.__len__":String)=id0;wp_delta;rw [show splitId id0=some ("set","__len__") from by subst hid;decide +kernel];subst hid)
 refine γ (dH (b:=true) (hT h2 d k2) sub_set_self ?_)
 rw [if_neg (by simp),if_pos (by decide +kernel)]
 refine γ (bL (hT h2 d k2) (ζ ?_))
 rw [if_pos (by decide +kernel)]
 have nIS:I≠s.heap.objs.size:=fun e=>by rw [e] at nI;have nI:h1.get? _=none:=nI;rw [hS] at nI;cases nI
 have ntS:tp≠s.heap.objs.size:=fun e=>by
  rcases nt with z | z
  ·exact nSa (e.symm.trans z)
  ·rw [e] at z;have z:h1.get? _=none:=z;rw [hS] at z;cases z
 have hSf:s.heap.objs.size ∉ [I,a,tp]:=fun hm=>by
  rcases Κ.mp hm with z | hm
  ·exact nIS z.symm
  ·rcases Κ.mp hm with z | hm
   ·exact nSa z
   ·exact ntS (Υ.mp hm).symm
 have hS2:=k2 _ _ hS
 have hS3:=aZ (ϯ (·.push Ε)) hS2 rfl
 have hS4:=aZ (ϯ (·.pop)) hS3 rfl
 refine γ (b8 (γ ?_))
 unfold Β.List.listTouch
 refine γ (gZ hS2 rfl (gZ hS3 rfl ?_ (by rw [Ϧ];decide) (by rw [Ϧ];decide)) (by rw [Ϧ];decide) (by rw [Ϧ];decide))
 have kk:∀ b o,b≠s.heap.objs.size->h2.get? b=some o->((h2.update s.heap.objs.size (ϯ (·.push Ε))).update s.heap.objs.size (ϯ (·.pop))).get? b=some o:=fun b o hb e=>by
  rw [bG _ _ _ _ hb,bG _ _ _ _ hb];exact e
 refine ζ ⟨cu mH _,codeAny_extend_loopS (Qy (led:=ledW w) (es:=es) (ep:=ep) (tb:=tb) (tp:=tp) (a:=a) (by simpa using hh) pm).toS (by rw [pm.length_eq,Τ];exact hn) s.heap.objs.size hSf _ ord.length 0 _ #[] _ rfl (Ϣ _)
  (wk.keep fun b hb o e=>kk b o (fun z=>hSf (z ▸ hb)) e) hS4 (ItemsOf.nil _) fun s' acc c m hS' hacc=>?_⟩
 refine γ (wpAny_load hS' (ζ ?_))
 have ea:acc.toList=ord.map (·.2):=by
  apply lR
  intro j
  by_cases hj:j < acc.size
  ·rw [bK,Ϡ hj,hacc.2 j _ (Ϡ hj)]
  ·rw [aY (by rw [Τ];omega),aY (by rw [ν,<- hacc.1];omega)]
 obtain ⟨h',g',d',tk',os'⟩:=s'
 have g1:g'=s.gens:=m.gens
 have g2:d'=d:=m.drawn
 have g3:os'=s.os:=m.os
 subst g1 g2 g3
 rw [ea]
 refine h ord h' tk' d' pm ?_ fun b o e=>?_
 ·have:=χ hS'
  exact fQ this
 ·have hb:b≠s.heap.objs.size:=Λ (χ e)
  refine m.heap b o (fun hm=>?_) (kk b o hb (k2 b o (k1 b o e)))
  rcases Κ.mp hm with z | hm
  ·exact hb z
  ·rw [Υ.mp hm] at e
   have nI:h1.get? I=none:=nI
   rw [k1 _ _ e] at nI;cases nI
end
noncomputable def strB (x y:Str):Bool:=decide (x.cps.toList < y.cps.toList)
theorem zb6 (x:Str):strB x x=false:=decide_eq_false (List.lt_irrefl _)
theorem zec (x y z:Str) (h:strB x y=true) (k:strB y z=true):strB x z=true:=decide_eq_true (List.lt_trans (of_decide_eq_true h) (of_decide_eq_true k))
theorem zb5 (x y z:Str) (h:strB x z=true):strB x y=true\/strB y z=true:=by
 by_cases k:x.cps.toList < y.cps.toList
 ·exact .inl (decide_eq_true k)
 ·right
  have k:y.cps.toList<=x.cps.toList:=List.not_lt.mp k
  exact decide_eq_true (List.lt_of_le_of_lt k (of_decide_eq_true h))
theorem UW (x y:Str) (h:strB x y=false) (k:strB y x=false):x=y:=by
 have h1:y.cps.toList<=x.cps.toList:=List.not_lt.mp (of_decide_eq_false h)
 have h2:x.cps.toList<=y.cps.toList:=List.not_lt.mp (of_decide_eq_false k)
 have e:=List.le_antisymm h2 h1
 obtain ⟨⟨l⟩⟩:=x
 obtain ⟨⟨m⟩⟩:=y
 cases (show l=m from e)
 rfl
noncomputable def strO:bz:=⟨Str,strB,zb6,zec,zb5,UW⟩
noncomputable def strV:δ->Str
 | .str x _=>x
 | _=>⟨#[]⟩
def IsTx (v:δ):Prop:=∃ x t,v=.str x t
section
variable {prog:Ν}{w:ϖ}
theorem zfh {G:bA->Prop}(hg:∀ x,G x->IsTx x.1):LtOk strO (fun x=>strV x.1) G oneType' (Ζ prog w) A E s:=by
 intro x y st Q gx gy hk q
 obtain ⟨a,t,e1⟩:=hg x gx
 obtain ⟨b,u,f1⟩:=hg y gy
 rw [lt'_eq]
 refine ϛ (mL ?_)
 have q:Q (some (strB (strV x.1) (strV y.1))) st:=q
 rw [e1,f1] at q
 rw [hk,e1,f1]
 exact ϛ (wpS_lift (cg (W.kas_lt_str ⟨rfl,aR q⟩)))
theorem zaB {vs:List δ}(h2:2<=vs.length) (hv:∀ v∈vs,IsTx v) {Q:iC->μ->Prop}(q:Q oneType' s):ψ (Ζ prog w) A (keyKind' vs.toArray) Q E s:=
 W.kas_kind (T:=.type "str") h2 (fun v hm=>by
  obtain ⟨x,t,rfl⟩:=hv v hm
  exact fun _ _ _ _ _ q=>ζ q) (by decide +kernel) (by decide +kernel) q
theorem QQ {a:Addr}{vs:List δ}{n:Nat}{P:Fin->μ->Prop}(ho:s.heap.get? a=some (ao "list" vs.toArray n)) (hv:∀ v∈vs,IsTx v) (h128:vs.length < 64)
  (h:∀ out:Array δ,xx strO strV vs out.toList->P (.done (.ret .none)) { s with heap:=dz s.heap a vs out }):ψ (Ζ prog w) A (Β.«list.sort» ⟨[.ref a],[]⟩) P E s:=by
 refine Wg (O:=strO) (kz:=strV) (kd:=oneType') ho h128 (fun h' h2 kp=>⟨fun Q q=>zaB (s:={ s with heap:=h' }) h2 hv q,zfh fun x hx=>?_⟩) h
 obtain ⟨v,hm,rfl⟩:=hx
 exact hv v hm
theorem KQ {vs:List δ}{Q:δ->μ->Prop}(hv:∀ v∈vs,IsTx v) (h128:vs.length < 64)
  (h:∀ out:Array δ,xx strO strV vs out.toList->Q (.ref s.heap.objs.size) { s with heap:=dz (s.heap.push (ao "list" vs.toArray 0)) s.heap.objs.size vs out }):
  ψ (Ζ prog w) A (do
   let l <- newList vs
   let _ <- gU [l] (call (.builtin "list.sort") [l])
   ret l) (fun f s'=>∃ v,f=.done (.ret v)/\Q v s') E s:=by
 have hsl:vs.length<=sizeLine:=by rw [Ϧ];omega
 refine γ (oZ ?_ (by simpa using hsl))
 have e2:(s.heap.push (ao "list" vs.toArray 0)).get? s.heap.objs.size=some (ao "list" vs.toArray 0):=ς _ rfl
 refine γ (Ϥ (ϒ slot_list_sort ⟨_,e2,rfl⟩ entry_list_sort (QQ (s:={ s with heap:=s.heap.push (ao "list" vs.toArray 0) }) e2 hv h128 fun out k=>⟨_,rfl,ζ ⟨_,rfl,h out k⟩⟩) (args_list_sort _)))
theorem VD {l:Addr}{vs:List δ}{Q:δ->μ->Prop}(hl:s.heap.IsList l vs.toArray) (hv:∀ v∈vs,IsTx v) (h128:vs.length < 64)
  (h:∀ (out:Array δ) (h':Heap),xx strO strV vs out.toList->s.heap.objs.size<=h'.objs.size->(∀ b o,s.heap.get? b=some o->h'.get? b=some o)->Q (.ref h'.objs.size) { s with heap:=dz (h'.push (ao "list" vs.toArray 0)) h'.objs.size vs out }):
  ψ (Ζ prog w) A (call (.builtin "sorted") [.ref l]) Q E s:=by
 have hsl:vs.length<=sizeLine:=by rw [Ϧ];omega
 refine gh kind_sorted pG pI (pL _) ?_
 unfold Β.«sorted»
 refine γ (m:=checkCount "sorted" 1 1 _) (ζ (γ (collect_list hl ?_ (by simpa using hsl))))
 have kp:∀ b o,s.heap.get? b=some o->((s.heap.push (ao "list" #[] 0)).update s.heap.objs.size (ϯ (·++vs.toArray))).get? b=some o:=fun b o q=>by
  rw [bG _ _ _ _ (Λ (χ q))];exact η _ q
 exact KQ (s:={ s with heap:=(s.heap.push (ao "list" #[] 0)).update s.heap.objs.size (ϯ (·++vs.toArray)) }) hv h128 fun out k=>h out _ k (by rw [Heap.size_update,fH];exact fj _) kp
theorem VF {a:Addr}{es:Array (Int×δ)}{ep:Nat}{tb:Ϛ}{Q:δ->μ->Prop}(hh:A.handled=none) (st:St w s.heap a (ledW w) es ep tb) (h128:es.size < 64)
  (h:∀ (vs:List δ) (out:Array δ) (h':Heap) (tk:Nat) (d:Drawn),vs.Perm (es.toList.map (·.2))->xx strO strV vs out.toList->s.heap.objs.size<=h'.objs.size->(∀ b o,s.heap.get? b=some o->h'.get? b=some o) ->
   Q (.ref h'.objs.size) { s with heap:=dz (h'.push (ao "list" vs.toArray 0)) h'.objs.size vs out,toks:=tk,drawn:=d }):
  ψ (Ζ prog w) A (call (.builtin "sorted") [.ref a]) Q E s:=by
 refine gh kind_sorted pG pI (pL _) ?_
 unfold Β.«sorted»
 refine γ (m:=checkCount "sorted" 1 1 _) (ζ (γ (Xy (by simpa using hh) st (by omega) fun ord h' tk d pm hg hk=>?_)))
 refine KQ (s:={ s with heap:=h',toks:=tk,drawn:=d }) (fun v hv=>?_) (by rw [ν,pm.length_eq,Τ];exact h128) fun out k=>h _ out h' tk d (pm.map _) k hg hk
 obtain ⟨e,he,rfl⟩:=Ϻ.mp hv
 obtain ⟨x,t,rfl⟩:=st.tx e (pm.mem_iff.mp he)
 exact ⟨x,t,rfl⟩
end
open PySem PyProof.Rows PySem.W
section
variable {prog:Ν}{w:ϖ}
def Raw (h:Heap) (d:Addr) (es:Array cF) (ep:Nat):Prop:=∃ o,h.get? d=some o/\o.ExactDict/\o.data=.dict es ep
theorem zaw {it d:Addr}{i ep:Nat}{es:Array cF}{Q:Option δ->μ->Prop}(hit:s.heap.IsKeyIter it d i es.size ep) (hm:Raw s.heap d es ep) (hi:i < es.size)
  (hQ:∀ h',h'.IsKeyIter it d (i+1) es.size ep->ϋ it s.heap h'->Q (some es[i].key) { s with heap:=h' }):ψ (Ζ prog w) A (eQ (.ref it)) Q E s:=by
 obtain ⟨o,ho,hc,hd⟩:=id hit
 obtain ⟨od,hod,hcd,hdd⟩:=hm
 unfold eQ
 refine γ (cg (ϙ (name:=cD "__next__") hit.typeIs F.slot_dict_keyiterator_next
  (ϒ F.slot_dict_keyiterator_next hit.typeIs F.entry_dict_keyiterator_next ?_ (F.args_dict_keyiterator_next_1 _))))
 refine γ (ζ (γ (γ (γ (cL hit.typeIs (ζ (γ (cC ho hd ?_))))))))
 simp only [show dG "dict_keyiterator"=false from by decide,bw,if_false]
 show ψ _ _ (if (ω d==Ε)=true then _ else _) _ _ s
 rw [if_neg (show ¬ ((ω d==Ε)=true) from Μ)]
 refine γ (ζ (γ (eO hod hdd ?_)))
 rw [if_neg (by simp)]
 refine γ (ζ (γ (fY hod hdd ?_)))
 rw [if_neg (by simp)]
 refine ζ ?_
 simp only [show ¬ ((i:Int) < 0) from by lia,if_false,cU,Ϡ hi]
 refine γ (γ (cL hit.typeIs (ζ (γ (wpAny_isOneOf_keyiter hit.typeIs ?_)))))
 show ψ _ _ (setField (.ref it) 1 (aF ((i:Int)+1)) >>= _) _ _ s
 refine γ (Ϯ ho hd (by simp) ?_)
 have hit':(s.heap.update it (gH (·.setIfInBounds 1 (aF ((i:Int)+1))))).IsKeyIter it d (i+1) es.size ep:=
  ⟨_,aZ _ ho (oW (gb hd _)),(Obj.cls_mapFields ..).trans hc,by rw [gb hd];simp [aF]⟩
 refine γ (Ϥ (γ (wpAny_isOneOf_keyiter (s:={ s with heap:=s.heap.update it (gH (·.setIfInBounds 1 (aF ((i:Int)+1)))) }) hit'.typeIs ?_)))
 show ψ _ _ (pure es[i].key) _ _ _
 exact ζ (ζ ⟨_,rfl,ζ (hQ _ hit' (aL ..))⟩)
theorem zdy {it d:Addr}{ep:Nat}{es:Array cF}{Q:Option δ->μ->Prop}(hh:A.handled=none) (hit:s.heap.IsKeyIter it d es.size es.size ep) (hm:Raw s.heap d es ep)
  (hQ:∀ h',mF it s.heap h'->Q none { s with heap:=h' }):ψ (Ζ prog w) A (eQ (.ref it)) Q E s:=by
 obtain ⟨o,ho,hc,hd⟩:=id hit
 obtain ⟨od,hod,hcd,hdd⟩:=hm
 unfold eQ
 refine γ (cg (ϙ (name:=cD "__next__") hit.typeIs F.slot_dict_keyiterator_next
  (ϒ F.slot_dict_keyiterator_next hit.typeIs F.entry_dict_keyiterator_next ?_ (F.args_dict_keyiterator_next_1 _))))
 refine γ (ζ (γ (γ (γ (cL hit.typeIs (ζ (γ (cC ho hd ?_))))))))
 simp only [show dG "dict_keyiterator"=false from by decide,bw,if_false]
 show ψ _ _ (if (ω d==Ε)=true then _ else _) _ _ s
 rw [if_neg (show ¬ ((ω d==Ε)=true) from Μ)]
 refine γ (ζ (γ (eO hod hdd ?_)))
 rw [if_neg (by simp)]
 refine γ (ζ (γ (fY hod hdd ?_)))
 rw [if_neg (by simp)]
 refine ζ ?_
 simp only [show ¬ ((es.size:Int) < 0) from by lia,if_false,cU,gP (ξ es.size)]
 refine γ (γ (cL hit.typeIs (ζ ?_)))
 show ψ _ _ (setField (.ref it) 0 .none >>= _) _ _ s
 refine γ (Ϯ ho hd (by simp) ?_)
 show ψ _ _ (newExc (.type "StopIteration") [] >>= _) _ _ _
 refine γ ?_
 simp only [newExc,newTuple]
 refine γ (Χ ?_ (by size_fits))
 refine γ (m:=eU _ _) (bc (a:=Ε) (by first | rfl | (simp only [eU];rfl)) ?_)
 refine Χ ?_ (by size_fits)
 simp only [raiseNew]
 refine γ (lX ?_)
 rw [show A.in1.handled=none from hh]
 refine γ (ζ (nF ?_))
 refine γ (dH (T:="StopIteration") (b:=true) ⟨_,ς _ rfl,rfl⟩ lH ?_)
 exact ζ (hQ _ (((aL ..).extBut.push _).push _))
theorem Raw.typeIs {d:Addr}{ep:Nat}{es:Array cF}(hm:Raw s.heap d es ep):s.TypeIs (.ref d) "dict":=let ⟨o,ho,hc,_⟩:=hm;⟨o,ho,hc.1⟩
theorem Raw.keep {h h':Heap}{d:Addr}{ep:Nat}{es:Array cF}(hm:Raw h d es ep) (k:∀ o,h.get? d=some o->h'.get? d=some o):Raw h' d es ep:=let ⟨o,ho,r⟩:=hm;⟨o,k o ho,r⟩
theorem zaK {d:Addr}{es:Array cF}{ep:Nat}{Q:δ->μ->Prop}(hd:(d==cP)=false) (hm:Raw s.heap d es ep)
  (hQ:Q (.ref s.heap.objs.size) { s with heap:=s.heap.push { cls:=.type "dict_keyiterator",data:=.fields #[.ref d,.int 0 0,.int es.size 0,.int ep 0] } }):ψ (Ζ prog w) A (iM (.ref d)) Q E s:=by
 have hT:s.TypeIs (.ref d) "dict":=hm.typeIs
 obtain ⟨o,ho,hc,hdat⟩:=hm
 refine gQ hT F.slot_dict_iter (ϒ F.slot_dict_iter hT F.entry_dict_iter ?_ (F.args_dict_iter_1 _))
 unfold Β.«dict.__iter__»
 refine γ ?_
 unfold Β.Dict.dictSlotNone
 refine γ (wpAny_notOrdered_dict hT ?_)
 show ψ _ _ (pure (ω d)) _ _ s
 refine ζ ?_
 show ψ _ _ (mG d >>= _) _ _ s
 unfold mG
 rw [if_neg (by rw [hd];exact Μ)]
 refine γ (ζ (γ (eO ho hdat (γ (fY ho hdat ?_)))))
 refine γ (Χ (ζ ⟨_,rfl,"dict_keyiterator",_,⟨_,ς _ rfl,rfl⟩,F.slot_dict_keyiterator_next.lookup,?_⟩))
 simpa [aF] using hQ
end
end TS
namespace EV
open PySem L2
theorem non (h:false=true):false=true:=h
theorem nobE {p:Prop}(h:false=true):p:=nomatch h
noncomputable def LIM:Nat:=1000000
noncomputable def fits (n:Nat):Bool:=n<=LIM
noncomputable def zL (i:Int):Bool:=decide (-(2 ^ 64) < i)&&decide (i < 2 ^ 64)
noncomputable def addD:D->D->Option (D×Bool)
 | .int i,.int j=>some (.int (i+j),false)
 | .str x,.str y=>if fits (x.length+y.length) then some (.str (x++y),false) else none
 | .tup a,.tup b=>if fits (a.length+b.length) then some (.tup (a++b),false) else none
 | .lst a,.lst b=>if fits (a.length+b.length) then some (.lst (a++b),true) else none
 | _,_=>none
noncomputable def mulD:D->D->Option (D×Bool)
 | .int i,.int j=>if zL i||zL j then some (.int (i*j),false) else none
 | .lst l,.int n=>if decide (0<=n)&&decide (n < 2 ^ 20)&&fits (l.length*n.toNat) then some (.lst (Θ n.toNat l).flatten,true) else none
 | _,_=>none
noncomputable def num2 (f:Int->Int->Option Int):D->D->Option (D×Bool)
 | .int i,.int j=>(f i j).map fun k=>(.int k,false)
 | _,_=>none
noncomputable def opD (op:mV) (a b:D):Option (D×Bool):=match op with
 | .Add=>addD a b
 | .Sub=>num2 (fun i j=>some (i - j)) a b
 | .Mult=>mulD a b
 | .FloorDiv=>num2 (fun i j=>if decide (0 < j)&&decide (j < 2 ^ 64) then some (i / j) else none) a b
 | .Mod=>num2 (fun i j=>if decide (0 < j) then some (i % j) else none) a b
 | .Pow=>num2 (fun i j=>if decide (0<=j)&&decide (j<=1000000)&&zL i then some (i ^ j.toNat) else none) a b
 | _=>none
mutual
noncomputable def eqP:D->D->Bool
 | .non,.non=>true
 | .bl a,.bl b=>a==b
 | .bl a,.int j=>(if a then 1 else 0)==j
 | .int i,.bl b=>i==(if b then 1 else 0)
 | .int a,.int b=>a==b
 | .str a,.str b=>a==b
 | .tup a,.tup b=>eqPs a b
 | .lst a,.lst b=>eqPs a b
 | _,_=>false
noncomputable def eqPs:List D->List D->Bool
 | [],[]=>true
 | a::as,b::bs=>eqP a b&&eqPs as bs
 | _,_=>false
end
mutual
noncomputable def okP:Nat->D->Bool
 | _,.non=>true
 | _,.bl _=>true
 | _,.int _=>true
 | _,.str _=>true
 | 0,.tup _=>false
 | n+1,.tup a=>okPs n a
 | 0,.lst _=>false
 | n+1,.lst a=>okPs n a
 | _,_=>false
noncomputable def okPs:Nat->List D->Bool
 | _,[]=>true
 | n,a::as=>okP n a&&okPs n as
end
noncomputable def eqD (a b:D):Option Bool:=if okP 60 a&&okP 60 b then some (eqP a b) else none
noncomputable def keyD:D->Option Key
 | .int i=>some (.inl i)
 | .str x=>some (.inr x)
 | _=>none
noncomputable def keysD:List D->Option (List Key)
 | []=>some []
 | d::ds=>match keyD d,keysD ds with
  | some k,some ks=>some (k::ks)
  | _,_=>none
noncomputable def findK {κ:Type} [DecidableEq κ]:List κ->κ->Option Nat
 | [],_=>none
 | k::ks,x=>if k=x then some 0 else (findK ks x).map (·+1)
noncomputable def lookK {κ:Type} [DecidableEq κ] (ks:List κ) (ds:List D) (k:κ):Option D:=(findK ks k).bind fun i=>ds[i]?
noncomputable def mapK {κ α:Type} [DecidableEq κ]:List κ->List α->κ->α->List α
 | k::ks,d::ds,x,y=>(if k=x then y else d)::mapK ks ds x y
 | _,ds,_,_=>ds
noncomputable def hasK {κ:Type} [DecidableEq κ] (ks:List κ) (k:κ):Bool:=ks.any fun x=>decide (x=k)
noncomputable def putKs {κ α:Type} [DecidableEq κ] (ks:List κ) (ds:List α) (k:κ) (d:α):List κ×List α:=
 if hasK ks k=true then (ks,mapK ks ds k d) else (ks++[k],ds++[d])
noncomputable def isNone:D->Bool
 | .non=>true
 | _=>false
noncomputable def dgetD:D->D->Option (Option D)
 | .dK ks ds,k=>(keyD k).map (lookK ks ds)
 | .dT ks ds,.tup t=>(keysD t).map (lookK ks ds)
 | .dF ks ds,.tup t=>(keysD t).map (lookK ks ds)
 | _,_=>none
noncomputable def isSc:D->Bool
 | .lst _=>false
 | d=>okP 59 d
noncomputable def memD (l:List D) (d:D):Option Bool:=if isSc d&&l.all isSc then some (l.any fun y=>eqP y d) else none
noncomputable def deref (S:Store):D->D
 | .ref k=>(S[k]?).getD .non
 | d=>d
noncomputable def int2 (f:Int->Int->Bool):D->D->Option Bool
 | .int i,.int j=>some (f i j)
 | _,_=>none
noncomputable def isD (a:D):D->Option Bool
  | .non=>some (isNone a)
  | .bl b=>(match a with
    | .bl a=>some (a==b)
    | _=>none)
  | _=>none
noncomputable def inD (a:D):D->Option Bool
  | .lst l=>memD l a
  | .tup l=>memD l a
  | .ktp l=>memD l a
  | .str y=>(match a with
    | .str x=>some (!(fU y x 0 y.length 1).isEmpty)
    | _=>none)
  | .dK ks ds=>(dgetD (.dK ks ds) a).map (·.isSome)
  | .dT ks ds=>(dgetD (.dT ks ds) a).map (·.isSome)
  | .dF ks ds=>(dgetD (.dF ks ds) a).map (·.isSome)
  | _=>none
noncomputable def intsD:List D->Option (List Int)
 | []=>some []
 | .int i::r=>(intsD r).map (i::·)
 | _::_=>none
noncomputable def neD:D->D->Option Bool
 | .dK ks vs,.dK ks' vs'=>if decide (ks=ks')&&decide ks.Nodup&&decide (intsD vs=intsD vs')&&(intsD vs).isSome then some false else none
 | a,b=>(eqD a b).map (!·)
noncomputable def cmpD (op:fD) (a b:D):Option Bool:=match op with
 | .Eq=>eqD a b
 | .NotEq=>neD a b
 | .Lt=>int2 (fun i j=>decide (i < j)) a b
 | .LtE=>int2 (fun i j=>decide (i<=j)) a b
 | .Gt=>int2 (fun i j=>decide (j < i)) a b
 | .GtE=>int2 (fun i j=>decide (j<=i)) a b
 | .Is=>isD a b
 | .IsNot=>(isD a b).map (!·)
 | .In=>inD a b
 | .NotIn=>(inD a b).map (!·)
noncomputable abbrev idx (n:Nat) (i:Int):Option Nat:=ixN n i
noncomputable def subD:D->D->Option D
 | .tup l,.int i=>(idx l.length i).bind fun k=>l[k]?
 | .lst l,.int i=>(idx l.length i).bind fun k=>l[k]?
 | .scr l,.int i=>(idx l.length i).bind fun k=>(l[k]?).map D.int
 | .str x,.int i=>if fits x.length then (idx x.cps.toList.length i).bind fun k=>(x.cps.toList[k]?).map fun c=>.str ⟨#[c]⟩ else none
 | .dK ks ds,k=>(dgetD (.dK ks ds) k).bind id
 | .dT ks ds,k=>(dgetD (.dT ks ds) k).bind id
 | .dF ks ds,k=>(dgetD (.dF ks ds) k).bind id
 | _,_=>none
noncomputable def cutD (l:List D) (lo hi:Option Int):List D:=(l.drop (HT.sIx l.length 0 lo)).take (HT.sIx l.length l.length hi - HT.sIx l.length 0 lo)
noncomputable def slcD (d:D) (lo hi:Option Int):Option (D×Bool):=
 match d with
 | .tup l=>some (.tup (cutD l lo hi),false)
 | .lst l=>some (.lst (cutD l lo hi),true)
 | .scr l=>some (.lst (cutD (l.map D.int) lo hi),true)
 | .str x=>if fits x.length then some (.str (lJ x lo hi),false) else none
 | _=>none
noncomputable def dk1D:List D->Option D
 | [.tup t,v]=>(keysD t).map fun k=>.dT [k] [v]
 | _=>none
noncomputable def flipD:D->Option (D×Bool)
 | .lst l=>some (.lst l.reverse,true)
 | .tup l=>some (.tup l.reverse,false)
 | _=>none
noncomputable def Vj:List D->Option (List Bool)
 | []=>some []
 | .bl b::r=>(Vj r).map (b::·)
 | _::_=>none
noncomputable def isTy:Ty->D->Option Bool
 | t,.int _=>some (t==.int)
 | t,.bl _=>some (t==.bool||t==.int)
 | t,.str _=>some (t==.str)
 | t,.tup _=>some (t==.tuple)
 | t,.lst _=>some (t==.list)
 | t,.dK _ _=>some (t==.dict)
 | t,.non=>some false
 | _,_=>none
noncomputable def seqD:D->Option (List D)
 | .tup l=>some l
 | .lst l=>some l
 | .scr l=>some (l.map D.int)
 | .ktp l=>some l
 | _=>none
noncomputable def itrD:D->Option (List D)
 | .str x=>some (x.cps.toList.map fun c=>.str ⟨#[c]⟩)
 | d=>seqD d
noncomputable def lenD:D->Option (D×Bool)
 | .tup l=>some (.int l.length,false)
 | .lst l=>some (.int l.length,false)
 | .scr l=>some (.int l.length,false)
 | .str x=>if fits x.length then some (.int x.length,false) else none
 | .dK ks _=>some (.int ks.length,false)
 | _=>none
noncomputable def absD:D->Option (D×Bool)
 | .int i=>some (.int (if i < 0 then -i else i),false)
 | _=>none
noncomputable def intOf:D->Option (D×Bool)
 | .bl b=>some (.int (if b then 1 else 0),false)
 | .int i=>some (.int i,false)
 | _=>none
noncomputable def lotD:D->Option (List D)
 | .lst l=>some l
 | .tup l=>some l
 | _=>none
noncomputable def onL (f:List D->Option D):D->Option (D×Bool)
 | .lst l=>(f l).map fun d=>(d,false)
 | _=>none
mutual
noncomputable def pyD:Nat->D->Option PyData
 | _,.int i=>if decide (i.natAbs.log2 < 1920) then some (.int i) else none
 | _,.str x=>some (.str x)
 | n+1,.tup l=>(pyDs n l).map .tuple
 | _,_=>none
noncomputable def pyDs:Nat->List D->Option (List PyData)
 | _,[]=>some []
 | n,d::l=>(pyD n d).bind fun a=>(pyDs n l).map (a::·)
end
noncomputable def reprD (d:D):Option (D×Bool):=(pyD 40 d).bind fun p=>if fits p.shown.length then some (.str p.shown,false) else none
noncomputable def lexL:List Int->List Int->Bool
 | [],[]=>false
 | [],_::_=>true
 | _::_,[]=>false
 | a::x,b::y=>if a=b then lexL x y else decide (a < b)
noncomputable def insL (k:List Int):List (List Int)->List (List Int)
 | []=>[k]
 | x::l=>if lexL x k then x::insL k l else k::x::l
noncomputable def sortL:List (List Int)->List (List Int)
 | []=>[]
 | k::l=>insL k (sortL l)
noncomputable def Z4:List D->Option (List (List Int))
 | []=>some []
 | .tup l::r=>(intsD l).bind fun k=>if k.isEmpty then none else (Z4 r).map (k::·)
 | _::_=>none
noncomputable def tupI (k:List Int):D:=.tup (k.map D.int)
noncomputable def keyOf:Key->D
 | .inl i=>.int i
 | .inr x=>.str x
noncomputable def zbB:List (List Key)->List D->List D
 | k::ks,d::ds=>.tup [.tup (k.map keyOf),d]::zbB ks ds
 | _,_=>[]
noncomputable def kInts:List Key->Option (List Int)
 | []=>some []
 | .inl i::r=>(kInts r).map (i::·)
 | _::_=>none
noncomputable def zfr:List (List Key)->Option (List (List Int))
 | []=>some []
 | k::r=>(kInts k).bind fun n=>if n.isEmpty then none else (zfr r).map (n::·)
noncomputable def srtD:D->Option (D×Bool)
 | .lst l=>(Z4 l).bind fun ks=>if decide (ks.length < 64) then some (.lst ((sortL ks).map tupI),true) else none
 | _=>none
noncomputable def strL (x y:Str):Bool:=decide (x.cps.toList < y.cps.toList)
noncomputable def insS (k:Str):List Str->List Str
 | []=>[k]
 | x::l=>if strL x k then x::insS k l else k::x::l
noncomputable def sortS:List Str->List Str
 | []=>[]
 | k::l=>insS k (sortS l)
noncomputable def onesS (ks:List Str):List Str:=ks.foldl (fun l x=>if x∈l then l else l++[x]) []
noncomputable def copD:D->Option (D×Bool)
 | .dK ks vs=>some (.dK ks vs,true)
 | _=>none
noncomputable def strsD:List D->Option (List Str)
 | []=>some []
 | .str x::r=>(strsD r).map (x::·)
 | _::_=>none
noncomputable def ssetD (d:D):Option (D×Bool):=((lotD d).bind strsD).bind fun ks=>if (decide (ks.length < 4095)&&decide ((onesS ks).length < 64))=true then some (.lst ((sortS (onesS ks)).map D.str),true) else none
noncomputable def lsetD (d:D):Option (D×Bool):=((lotD d).bind strsD).bind fun ks=>if decide (ks.length < 4095)=true then some (.int (onesS ks).length,false) else none
noncomputable def trevD:D->Option (D×Bool)
 | .lst l=>some (.tup l.reverse,false)
 | _=>none
noncomputable def srtX:D->Option (D×Bool)
 | .lst (.str x::l)=>(strsD l).bind fun ks=>if decide (ks.length < 63)=true then some (.lst ((sortS (x::ks)).map D.str),true) else none
 | d=>srtD d
noncomputable def strD:D->Option (D×Bool)
 | .int i=>if decide (i.natAbs.log2 < 1920) then some (.str (toString i),false) else none
 | .str x=>some (.str x,false)
 | _=>none
noncomputable def joinD (x:Str) (d:D):Option (D×Bool):=((lotD d).bind strsD).bind fun ys=>if fits ((ys.map (·.length)).sum+ys.length*x.length) then some (.str (PySem.Txt.join x ys),false) else none
noncomputable def zf6 (x:Str):D->Option (D×Bool)
 | .str y=>if (!(y.length==0)&&fits x.length&&fits (gw x y).length)=true then some (.lst ((gw x y).map D.str),true) else none
 | _=>none
noncomputable def bi2:BI->D->D->Option (D×Bool)
 | .min2,d,e=>num2 (fun i j=>some (if j < i then j else i)) d e
 | .max2,d,e=>num2 (fun i j=>some (if j > i then j else i)) d e
 | _,_,_=>none
noncomputable def biD (b:BI) (ds:List D):Option (D×Bool):=match ds with
  | [d]=>(match b with
    | .len=>lenD d
    | .abs=>absD d
    | .tuple=>(lotD d).map fun l=>(.tup l,false)
    | .sum=>onL (fun l=>(intsD l).map fun ns=>.int ns.sum) d
    | .any=>onL (fun l=>(Vj l).map fun bs=>.bl (bs.any id)) d
    | .isinst t=>(isTy t d).map fun b=>(.bl b,false)
    | .sorted=>srtX d
    | .sset=>ssetD d
    | .trev=>trevD d
    | .str=>strD d
    | _=>none)
  | [d,e]=>bi2 b d e
  | _=>none
noncomputable def idxD:List D->D->Option Nat
 | [],_=>none
 | d::ds,x=>if eqP d x=true then some 0 else (idxD ds x).map (·+1)
noncomputable def mthK:MT->D->Bool
 | .index,.lst _=>true
 | _,_=>false
noncomputable def kgetD (ps:List (Str×Int)):D->D->Option (D×Bool)
 | .str k,x=>some (((PyProof.Rows.KTD.datumAt k ps).map D.int).getD x,false)
 | _,_=>none
noncomputable def mthD:MT->D->List D->Option (D×Bool)
 | .index,.lst l,[x]=>if okPs 59 l&&okP 59 x then (idxD l x).map fun (i:Nat)=>(.int (i:Int),false) else none
 | _,_,_=>none
noncomputable def nT:T->Nat
 | .one _=>1
 | .nst _ is=>1+is.length
 | .tup is=>is.length
noncomputable def enumD:Nat->List D->List D
 | _,[]=>[]
 | n,d::ds=>.tup [.int n,d]::enumD (n+1) ds
noncomputable def enumS:D->Option (List D)
 | .tup l=>some l
 | .lst l=>some l
 | _=>none
noncomputable def zQ (lo hi:Int):List D:=(Η (hi - lo).toNat).map fun (k:Nat)=>.int (lo+(k:Int))
noncomputable def dwnD:List D->Option (List D)
 | [.int i,.int j,.int k]=>if (decide (k=-1)&&decide (-1000000<=i)&&decide (i<=1000000)&&decide (-1000000<=j)&&decide (j<=1000000))=true then some (zQ (j+1) (i+1)).reverse else none
 | _=>none
noncomputable def dicOk (tk:Bool) (ks:List Key) (ds:List D):Bool:=decide (ks.length=ds.length)&&decide ks.Nodup&&decide (ks.length<=15)&&(!tk||ks.isEmpty)
inductive Slot where
 | no | sh (d:D) | ow (d:D)
 deriving Inhabited
inductive O where
 | next (ρ:List Slot) | ret (d:D) (fr:Bool) | brk (ρ:List Slot) | cnt (ρ:List Slot)
noncomputable def nst2:D->Option (D×List D)
  | .tup l=>(match l with
    | x::r=>(match r with
      | y::z=>(match z with
        | []=>(match y with
          | .tup ds=>some (x,ds)
          | _=>none)
        | _=>none)
      | _=>none)
    | _=>none)
  | _=>none
theorem zc3 {d:D}{p:D×List D}(h:nst2 d=some p):d=.tup [p.1,.tup p.2]:=by
 cases d with
 | tup l=>
  cases l with
  | nil=>cases h
  | cons x r=>
   cases r with
   | nil=>cases h
   | cons y z=>
    cases z with
    | cons _ _=>cases h
    | nil=>
     cases y with
     | tup ds=>cases h;rfl
     | _=>cases h
 | _=>cases h
noncomputable def bindT (ρ:List Slot):T->D×Bool->Option (List Slot)
 | .one i,(d,fr)=>if i < ρ.length&&!isIns d then some (ρ.set i (if fr=true then .ow d else .sh d)) else none
 | .tup is,(.tup ds,_)=>if is.length=ds.length/\is.Nodup/\is.all (· < ρ.length) then some ((is.zip ds).foldl (fun r p=>r.set p.1 (.sh p.2)) ρ) else none
 | .nst i is,(d,_)=>(nst2 d).bind fun p=>if i < ρ.length/\is.length=p.2.length/\is.Nodup/\is.all (· < ρ.length) then some ((is.zip p.2).foldl (fun r p=>r.set p.1 (.sh p.2)) (ρ.set i (.sh p.1))) else none
 | _,_=>none
noncomputable def putD:D->D->D->Option D
 | .lst l,.int i,d=>(idx l.length i).map fun k=>.lst (l.set k d)
 | .dK ks ds,k,d=>(keyD k).bind fun k=>if fits (ks.length+1) then some (let p:=putKs ks ds k d;.dK p.1 p.2) else none
 | .dT ks ds,.tup t,d=>(keysD t).bind fun k=>if fits (ks.length+1) then some (let p:=putKs ks ds k d;.dT p.1 p.2) else none
 | _,_,_=>none
noncomputable def isLst:Option D->Bool
 | some (.lst _)=>true
 | _=>false
noncomputable def extD:D->Option (List D)
 | .lst l=>some l
 | .tup l=>some l
 | _=>none
noncomputable def entry (fn:Fn) (ds:List D):List Slot:=ds.map Slot.sh++Θ (fn.nv - ds.length) Slot.no
inductive Kd where
 | st | fr | bo
noncomputable abbrev Vl:=D×Kd
abbrev Po:=Vl->Store->Prop
abbrev Cf:=Nat->List D->Po->Store->Prop
noncomputable def kd:Bool->Kd
 | true=>.fr
 | false=>.st
noncomputable def ofB (p:D×Bool):Vl:=(p.1,kd p.2)
def opt {α:Type}:Option α->(α->Prop)->Prop
 | some a,Q=>Q a
 | none,_=>False
def opV (o:Option (D×Bool)) (Q:Vl->Prop):Prop:=opt o fun p=>Q (ofB p)
def optS:Option (List Slot)->(List Slot->Prop)->Prop:=opt
def tst:Bool->Prop->Prop->Prop
 | true,T,_=>T
 | false,_,F=>F
def isB:D->(Bool->Prop)->Prop
 | .bl b,Q=>Q b
 | _,_=>False
def isF:D->(Nat->Prop)->Prop
 | .fn f,Q=>Q f
 | _,_=>False
def isZ:D->(Int->Prop)->Prop
 | .int i,Q=>Q i
 | _,_=>False
def keep:Vl->(D->Prop)->Prop
 | (d,.st),Q=>Q d
 | (d,.fr),Q=>Q d
 | _,_=>False
def sel:Option Slot->(D->Prop)->(D->Prop)->Prop
 | some (.sh d),Q,_=>Q d
 | some (.ow d),_,Q=>Q d
 | _,_,_=>False
def rdV (s:Option Slot) (Q:Vl->Prop):Prop:=sel s (fun d=>Q (d,.st)) (fun d=>Q (d,.bo))
def boxd:Vl->(D->Prop)->Prop
 | (d,.fr),Q=>Q d
 | _,_=>False
def walkW (step:D->(Option D->Store->Prop)->Store->Prop):List D->List D->(List D->Store->Prop)->Store->Prop
 | [],acc,V,S=>V acc S
 | d::ds,acc,V,S=>step d (fun o S1=>match o with
  | some x=>tst (fits (acc.length+1)) (walkW step ds (acc++[x]) V S1) False
  | none=>walkW step ds acc V S1) S
noncomputable def inn (ρ:List Slot) (t:T) (js:List Nat):List Slot:=Θ (nT t) .no++js.map fun j=>(ρ[j]?).getD .no
noncomputable def dicV (tk:Bool) (ks:List Key) (ds:List D):D:=if tk=true then .dT [] [] else .dK ks ds
def isR:D->(Nat->Prop)->Prop
 | .ref n,Q=>Q n
 | _,_=>False
def isDT:Option D->(List (List Key)->List D->Prop)->Prop
 | some (.dT ks ds),Q=>Q ks ds
 | _,_=>False
def isDF:D->(List (List Key)->Prop)->Prop
 | .dF ks _,Q=>Q ks
 | _,_=>False
theorem Ks {d:D}{Q:List (List Key)->Prop}(h:isDF d Q):∃ ks ds,d=.dF ks ds/\Q ks:=by
 cases d with
 | dF ks ds=>exact ⟨ks,ds,rfl,h⟩
 | _=>exact h.elim
def owT:Option Slot->(List (List Key)->List D->Prop)->Prop
 | some (.ow (.dT ks ds)),Q=>Q ks ds
 | _,_=>False
theorem zbn {s:Option Slot}{Q:List (List Key)->List D->Prop}(h:owT s Q):∃ ks ds,s=some (.ow (.dT ks ds))/\Q ks ds:=by
 unfold owT at h
 split at h
 ·exact ⟨_,_,rfl,h⟩
 ·exact h.elim
theorem zdo {s:Option D}{Q:List (List Key)->List D->Prop}(h:isDT s Q):∃ ks ds,s=some (.dT ks ds)/\Q ks ds:=by
 cases s with
 | none=>exact h.elim
 | some s=>
  cases s with
  | dT ks ds=>exact ⟨ks,ds,rfl,h⟩
  | _=>exact h.elim
theorem zfC {s:Option D}{ks:List (List Key)}{ds:List D}{Q:List (List Key)->List D->Prop}(h:s=some (.dT ks ds)) (q:Q ks ds):isDT s Q:=by subst h;exact q
mutual
def wpE (cf:Cf) (ρ:List Slot):E->Po->Store->Prop
 | .var i,V,S=>rdV ρ[i]? fun x=>V x S
 | .con d,V,S=>V (d,.st) S
 | .glo _ d,V,S=>V (d,.st) S
 | .bin op a b,V,S=>wpE cf ρ a (fun x S1=>wpE cf ρ b (fun y S2=>opV (opD op (deref S2 x.1) (deref S2 y.1)) fun x=>V x S2) S1) S
 | .neg a,V,S=>wpE cf ρ a (fun x S1=>isZ x.1 fun i=>V (.int (-i),.st) S1) S
 | .cmp op a b,V,S=>wpE cf ρ a (fun x S1=>wpE cf ρ b (fun y S2=>opt (cmpD op (deref S2 x.1) (deref S2 y.1)) fun r=>V (.bl r,.st) S2) S1) S
 | .chn o1 o2 a b c,V,S=>wpE cf ρ a (fun x S1=>wpE cf ρ b (fun y S2=>opt (cmpD o1 (deref S2 x.1) (deref S2 y.1)) fun r=>tst r (wpE cf ρ c (fun z S3=>opt (cmpD o2 (deref S3 y.1) (deref S3 z.1)) fun r=>V (.bl r,.st) S3) S2) (V (.bl false,.st) S2)) S1) S
 | .not a,V,S=>wpE cf ρ a (fun x S1=>isB x.1 fun b=>V (.bl (!b),.st) S1) S
 | .and a b,V,S=>wpE cf ρ a (fun x S1=>isB x.1 fun r=>tst r (wpE cf ρ b V S1) (V (.bl false,.st) S1)) S
 | .or a b,V,S=>wpE cf ρ a (fun x S1=>isB x.1 fun r=>tst r (V (.bl true,.st) S1) (wpE cf ρ b V S1)) S
 | .ite c a b,V,S=>wpE cf ρ c (fun x S1=>isB x.1 fun r=>tst r (wpE cf ρ a V S1) (wpE cf ρ b V S1)) S
 | .tup es,V,S=>wpEs cf ρ es (fun ds S1=>tst (fits ds.length) (V (.tup ds,.st) S1) False) S
 | .lst es,V,S=>wpEs cf ρ es (fun ds S1=>tst (fits ds.length) (V (.lst ds,.fr) S1) False) S
 | .dic tk ks es,V,S=>wpEs cf ρ es (fun ds S1=>tst (dicOk tk ks ds) (V (dicV tk ks ds,.fr) S1) False) S
 | .sub a i,V,S=>wpE cf ρ a (fun x S1=>wpE cf ρ i (fun y S2=>opt (subD (deref S2 x.1) y.1) fun d=>V (d,.st) S2) S1) S
 | .slc a lo hi,V,S=>wpE cf ρ a (fun x S1=>wpO cf ρ lo (fun l S2=>wpO cf ρ hi (fun h S3=>opV (slcD (deref S3 x.1) l h) fun x=>V x S3) S2) S1) S
 | .bi b [e],V,S=>wpE cf ρ e (fun x S1=>opV (biD b [deref S1 x.1]) fun x=>V x S1) S
 | .bi b es,V,S=>wpEs cf ρ es (fun ds S1=>opV (biD b (ds.map (deref S1))) fun x=>V x S1) S
 | .mth m o es,V,S=>wpE cf ρ o (fun x S1=>tst (mthK m (deref S1 x.1)) (wpEs cf ρ es (fun ds S2=>opV (mthD m (deref S2 x.1) ds) fun x=>V x S2) S1) False) S
 | .call f es,V,S=>wpEs cf ρ es (fun ds S1=>cf f ds V S1) S
 | .callk f perm es,V,S=>wpEs cf ρ es (fun ds S1=>opt (perm.mapM fun i=>ds[i]?) fun ds=>cf f ds V S1) S
 | .comp t js it ifs elt,V,S=>wpI cf ρ it (fun its S1=>walkW (fun d K S=>optS (bindT (inn ρ t js) t (d,false)) fun ρ'=>wpF cf ρ' ifs (fun b S1=>tst b (wpE cf ρ' elt (fun x S2=>keep x fun d=>K (some d) S2) S1) (K none S1)) S) its [] (fun ds S2=>V (.lst ds,.fr) S2) S1) S
 | .box e,V,S=>wpE cf ρ e (fun x S1=>boxd x fun d=>V (.ref S1.length,.st) (S1++[d])) S
 | .callv i es,V,S=>rdV ρ[i]? fun x=>isF x.1 fun f=>wpEs cf ρ es (fun ds S1=>cf f ds V S1) S
 | .one e,V,S=>wpE cf ρ e V S
 | .dk1 a b,V,S=>wpE cf ρ a (fun x S1=>keep x fun d=>wpE cf ρ b (fun y S2=>keep y fun e=>opt (dk1D [d,e]) fun r=>V (r,.fr) S2) S1) S
 | .flip e,V,S=>wpE cf ρ e (fun x S1=>opV (flipD (deref S1 x.1)) fun x=>V x S1) S
 | _,_,_=>False
def wpEs (cf:Cf) (ρ:List Slot):List E->(List D->Store->Prop)->Store->Prop
 | [],W,S=>W [] S
 | e::es,W,S=>wpE cf ρ e (fun x S1=>keep x fun d=>wpEs cf ρ es (fun ds S2=>W (d::ds) S2) S1) S
def wpO (cf:Cf) (ρ:List Slot):Option E->(Option Int->Store->Prop)->Store->Prop
 | none,W,S=>W none S
 | some e,W,S=>wpE cf ρ e (fun x S1=>isZ x.1 fun i=>W (some i) S1) S
def wpF (cf:Cf) (ρ:List Slot):List E->(Bool->Store->Prop)->Store->Prop
 | [],W,S=>W true S
 | [e],W,S=>wpE cf ρ e (fun x S1=>isB x.1 fun b=>W b S1) S
 | _,_,_=>False
def wpI (cf:Cf) (ρ:List Slot):E->(List D->Store->Prop)->Store->Prop
 | .dwn es,W,S=>wpEs cf ρ es (fun ds S1=>opt (dwnD ds) fun l=>W l S1) S
 | .rev hi,W,S=>wpE cf ρ hi (fun x S1=>isZ x.1 fun h=>tst (fits h.toNat&&decide (-1000000<=h)) (W (zQ 0 h).reverse S1) False) S
 | .rng none hi,W,S=>wpE cf ρ hi (fun x S1=>isZ x.1 fun h=>tst (fits h.toNat&&decide (-1000000<=h)) (W (zQ 0 h) S1) False) S
 | .rng (some lo) hi,W,S=>wpE cf ρ lo (fun y S1=>wpE cf ρ hi (fun x S2=>isZ y.1 fun l=>isZ x.1 fun h=>tst (fits (h - l).toNat&&decide (-1000000<=h)&&decide (-1000000<=l)&&decide (h<=1000000)&&decide (l<=1000000)) (W (zQ l h) S2) False) S1) S
 | .enum e,W,S=>wpE cf ρ e (fun x S1=>keep x fun d=>opt (enumS d) fun l=>W (enumD 0 l) S1) S
 | .seq e,W,S=>wpE cf ρ e (fun x S1=>keep x fun d=>opt (itrD d) fun l=>W l S1) S
 | .keys e,W,S=>wpE cf ρ e (fun x S1=>keep x fun d=>isDF d fun ks=>W (ks.map fun k=>.tup (k.map keyOf)) S1) S
 | .items e,W,S=>wpE cf ρ e (fun x S1=>keep x fun r=>isR r fun k=>isDT S1[k]? fun ks ds=>W (zbB ks ds) (S1.set k (.ref k))) S
 | _,_,_=>False
end
def wpX (cf:Cf) (ρ:List Slot) (e:E) (V:Po) (S:Store):Prop:=wpE cf ρ e V S
noncomputable def bindV (ρ:List Slot) (t:T):Vl->Option (List Slot)
 | (d,.st)=>bindT ρ t (d,false)
 | (d,.fr)=>bindT ρ t (d,true)
 | _=>none
def retV:Vl->(O->Prop)->Prop
 | (d,.st),K=>K (.ret d false)
 | (d,.fr),K=>K (.ret d true)
 | _,_=>False
def owL:Option Slot->(List D->Prop)->Prop
 | some (.ow (.lst l)),Q=>Q l
 | _,_=>False
def owD:Option Slot->(D->Prop)->Prop
 | some (.ow d),Q=>Q d
 | _,_=>False
def frW:Option Slot->Store->(Nat->List D->Prop)->Prop
  | some (.sh (.ref k)),S,Q=>(match S[k]? with
    | some (.lst l)=>Q k l
    | _=>False)
  | _,_,_=>False
set_option tactic.hygienic true in
theorem zbH {s:Option Slot}{S:Store}{Q:Nat->List D->Prop}(h:frW s S Q):∃ k l,s=some (.sh (.ref k))/\S[k]?=some (.lst l)/\Q k l:=by
 unfold frW at h
 split at h
 ·split at h
  ·rename_i e;exact ⟨_,_,rfl,e,h⟩
  ·exact h.elim
 ·exact h.elim
theorem zfP {k:Nat}{l:List D}{S:Store}{Q:Nat->List D->Prop}(h:S[k]?=some (.lst l)) (q:Q k l):frW (some (.sh (.ref k))) S Q:=by
  show (match S[k]? with
    | some (.lst l)=>Q k l
    | _=>False)
  rw [h];exact q
def isL:Option D->(List D->Prop)->Prop
 | some (.lst l),Q=>Q l
 | _,_=>False
noncomputable def fz:Slot->Slot
 | .ow d=>.sh d
 | s=>s
abbrev Ko:=O->Store->Prop
def nxt (f:List Slot->Store->Prop) (K:Ko):Ko
 | .next ρ,S=>f ρ S
 | o,S=>K o S
def trn (K:Ko) (I:List Slot->Store->Prop):Ko
 | .next ρ,S=>I ρ S
 | .cnt ρ,S=>I ρ S
 | .brk ρ,S=>K (.next ρ) S
 | .ret d fr,S=>K (.ret d fr) S
def forW (t:T) (b:List Slot->Ko->Store->Prop):List D->List Slot->Ko->Store->Prop
 | [],ρ,K,S=>K (.next ρ) S
 | d::l,ρ,K,S=>optS (bindT ρ t (d,false)) fun ρ1=>b ρ1 (trn K fun ρ' S'=>forW t b l ρ' K S') S
def whlW (c:List Slot->Po->Store->Prop) (b:List Slot->Ko->Store->Prop):Nat->List Slot->Ko->Store->Prop
 | 0,_,_,_=>False
 | n+1,ρ,K,S=>c ρ (fun x S1=>isB x.1 fun r=>tst r (b ρ (trn K fun ρ' S'=>whlW c b n ρ' K S') S1) (K (.next ρ) S1)) S
mutual
def wpC (cf:Cf) (w:Nat):C->List Slot->Ko->Store->Prop
 | .set t (.box e),ρ,K,S=>wpE cf ρ e (fun x S1=>boxd x fun d=>optS (bindT ρ t (.ref S1.length,false)) fun ρ2=>K (.next ρ2) (S1++[d])) S
 | .set t e,ρ,K,S=>wpE cf ρ e (fun x S1=>optS (bindV ρ t x) fun ρ2=>K (.next ρ2) S1) S
 | .expr e,ρ,K,S=>wpE cf ρ e (fun _ S1=>K (.next ρ) S1) S
 | .ret (.var i),ρ,K,S=>sel ρ[i]? (fun d=>K (.ret d false) S) (fun d=>K (.ret d true) S)
 | .ret e,ρ,K,S=>wpE cf ρ e (fun x S1=>retV x fun o=>K o S1) S
 | .retN,ρ,K,S=>K (.ret .non false) S
 | .ite e A B,ρ,K,S=>wpE cf ρ e (fun x S1=>isB x.1 fun b=>tst b (wpCs cf w A ρ K S1) (wpCs cf w B ρ K S1)) S
 | .whl e A,ρ,K,S=>whlW (fun ρ=>wpX cf ρ e) (fun ρ=>wpCs cf w A ρ) w ρ K S
 | .forr t it A,ρ,K,S=>wpI cf ρ it (fun l S1=>forW t (fun ρ=>wpCs cf w A ρ) l ρ K S1) S
 | .app i e,ρ,K,S=>owL ρ[i]? fun l=>wpE cf ρ e (fun x S1=>keep x fun d=>tst (fits (l.length+1)) (K (.next (ρ.set i (.ow (.lst (l++[d]))))) S1) False) S
 | .ext i e,ρ,K,S=>owL ρ[i]? fun l=>wpE cf ρ e (fun x S1=>keep x fun d=>opt (extD d) fun m=>tst (fits (l.length+m.length)) (K (.next (ρ.set i (.ow (.lst (l++m))))) S1) False) S
 | .stv i k v,ρ,K,S=>owD ρ[i]? fun c=>wpE cf ρ v (fun x S1=>keep x fun d=>wpE cf ρ k (fun y S2=>keep y fun e=>opt (putD c e d) fun c'=>K (.next (ρ.set i (.ow c'))) S2) S1) S
 | .sti o k v,ρ,K,S=>wpE cf ρ v (fun x S1=>keep x fun d=>wpE cf ρ o (fun z S2=>keep z fun r=>wpE cf ρ k (fun y S3=>keep y fun e=>isR r fun n=>opt S3[n]? fun c=>opt (putD c e d) fun c'=>K (.next ρ) (S3.set n c')) S2) S1) S
 | .pop i,ρ,K,S=>owL ρ[i]? fun l=>tst (!l.isEmpty) (K (.next (ρ.set i (.ow (.lst l.dropLast)))) S) False
 | .appR o e,ρ,K,S=>wpE cf ρ o (fun z S1=>keep z fun r=>isR r fun n=>tst (isLst S1[n]?) (wpE cf ρ e (fun x S2=>keep x fun d=>isL S2[n]? fun l=>tst (fits (l.length+1)) (K (.next ρ) (S2.set n (.lst (l++[d])))) False) S1) False) S
 | .popO t i,ρ,K,S=>owL ρ[i]? fun l=>opt l.getLast? fun d=>optS (bindT (ρ.set i (.ow (.lst l.dropLast))) t (d,false)) fun ρ2=>K (.next ρ2) S
 | .popR t o,ρ,K,S=>wpE cf ρ o (fun z S1=>keep z fun r=>isR r fun n=>isL S1[n]? fun l=>opt l.getLast? fun d=>optS (bindT ρ t (d,false)) fun ρ2=>K (.next ρ2) (S1.set n (.lst l.dropLast))) S
 | .pass,ρ,K,S=>K (.next ρ) S
 | .brk,ρ,K,S=>K (.brk ρ) S
 | .cnt,ρ,K,S=>K (.cnt ρ) S
 | .frz i,ρ,K,S=>K (.next (ρ.set i (fz ((ρ[i]?).getD .no)))) S
 | .frk i,ρ,K,S=>owT ρ[i]? fun ks ds=>K (.next (ρ.set i (.sh (.dF ks ds)))) S
 | .frr i,ρ,K,S=>frW ρ[i]? S fun k l=>K (.next (ρ.set i (.sh (.lst l)))) (S.set k (.ref k))
def wpCs (cf:Cf) (w:Nat):List C->List Slot->Ko->Store->Prop
 | [],ρ,K,S=>K (.next ρ) S
 | c::cs,ρ,K,S=>wpC cf w c ρ (nxt (fun ρ' S'=>wpCs cf w cs ρ' K S') K) S
end
def told (V:Po):Ko
 | .ret d fr,S=>V (d,kd fr) S
 | .next _,S=>V (.non,.st) S
 | _,_=>False
def callW (F:Nat->Option Fn) (w:Nat):Nat->Cf
 | 0=>fun _ _ _ _=>False
 | k+1=>fun f ds V S=>opt (F f) fun fn=>ds.length=fn.np/\wpCs (callW F w k) w fn.body (entry fn ds) (told V) S
section
theorem zp {α:Type}{o:Option α}{P Q:α->Prop}(h:∀ a,P a->Q a):opt o P->opt o Q:=by
 cases o with
 | some a=>exact h a
 | none=>exact id
theorem zu {b:Bool}{P P' Q Q':Prop}(h:P->P') (k:Q->Q'):tst b P Q->tst b P' Q':=by
 cases b with
 | true=>exact h
 | false=>exact k
theorem yd {d:D}{P Q:Bool->Prop}(h:∀ a,P a->Q a):isB d P->isB d Q:=by
 cases d <;> first | exact h _ | exact id
theorem W3 {d:D}{P Q:Nat->Prop}(h:∀ a,P a->Q a):isF d P->isF d Q:=by
 cases d <;> first | exact h _ | exact id
theorem yW {d:D}{P Q:Int->Prop}(h:∀ a,P a->Q a):isZ d P->isZ d Q:=by
 cases d <;> first | exact h _ | exact id
theorem zr {x:Vl}{P Q:D->Prop}(h:∀ a,P a->Q a):keep x P->keep x Q:=by
 obtain ⟨d,k⟩:=x
 cases k <;> first | exact h _ | exact id
theorem Yu {x:Vl}{P Q:D->Prop}(h:∀ a,P a->Q a):boxd x P->boxd x Q:=by
 obtain ⟨d,k⟩:=x
 cases k <;> first | exact h _ | exact id
theorem kY {s:Option Slot}{P P' Q Q':D->Prop}(h:∀ a,P a->P' a) (k:∀ a,Q a->Q' a):sel s P Q->sel s P' Q':=by
 cases s with
 | none=>exact id
 | some s=>cases s <;> first | exact h _ | exact k _ | exact id
theorem v4 {s:D->(Option D->Store->Prop)->Store->Prop}(hs:∀ d K K' S,(∀ o S,K o S->K' o S)->s d K S->s d K' S):∀ {l acc:List D}{V V':List D->Store->Prop}{S:Store},(∀ a S,V a S->V' a S)->walkW s l acc V S->walkW s l acc V' S
 | [],_,_,_,_,h=>h _ _
 | d::l,acc,V,V',S,h=>hs d _ _ S fun o S1=>by
  cases o with
  | some x=>exact zu (v4 hs h) id
  | none=>exact v4 hs h
def Mono (cf:Cf):Prop:=∀ f ds (V V':Po) S,(∀ x S,V x S->V' x S)->cf f ds V S->cf f ds V' S
variable {cf:Cf}
theorem vR {s:D}{P Q:Nat->Prop}(h:∀ a,P a->Q a):isR s P->isR s Q:=by
 cases s <;> first | exact h _ | exact id
theorem Kr {s:D}{P Q:List (List Key)->Prop}(h:∀ a,P a->Q a) (p:isDF s P):isDF s Q:=by
 obtain ⟨ks,ds,rfl,q⟩:=Ks p
 exact h _ q
theorem zak {s:Option Slot}{P Q:List (List Key)->List D->Prop}(h:∀ a b,P a b->Q a b) (p:owT s P):owT s Q:=by
 obtain ⟨ks,ds,rfl,q⟩:=zbn p
 exact h _ _ q
theorem Kq {s:Option D}{P Q:List (List Key)->List D->Prop}(h:∀ a b,P a b->Q a b) (p:isDT s P):isDT s Q:=by
 obtain ⟨ks,ds,e,q⟩:=zdo p
 exact zfC e (h _ _ q)
mutual
theorem za (hc:Mono cf):∀ (e:E) {ρ:List Slot}{V V':Po}{S:Store},(∀ x S,V x S->V' x S)->wpE cf ρ e V S->wpE cf ρ e V' S
 | .var i,_,_,_,_,h,k=>kY (fun _=>h _ _) (fun _=>h _ _) k
 | .con d,_,_,_,_,h,k=>h _ _ k
 | .glo _ d,_,_,_,_,h,k=>h _ _ k
 | .bin op a b,_,_,_,_,h,k=>za hc a (fun _ _=>za hc b fun _ _=>zp fun _=>h _ _) k
 | .neg a,_,_,_,_,h,k=>za hc a (fun _ _=>yW fun _=>h _ _) k
 | .cmp op a b,_,_,_,_,h,k=>za hc a (fun _ _=>za hc b fun _ _=>zp fun _=>h _ _) k
 | .chn o1 o2 a b c,_,_,_,_,h,k=>za hc a (fun _ _=>za hc b fun _ _=>zp fun _=>zu (za hc c fun _ _=>zp fun _=>h _ _) (h _ _)) k
 | .not a,_,_,_,_,h,k=>za hc a (fun _ _=>yd fun _=>h _ _) k
 | .and a b,_,_,_,_,h,k=>za hc a (fun _ _=>yd fun _=>zu (za hc b h) (h _ _)) k
 | .or a b,_,_,_,_,h,k=>za hc a (fun _ _=>yd fun _=>zu (h _ _) (za hc b h)) k
 | .ite c a b,_,_,_,_,h,k=>za hc c (fun _ _=>yd fun _=>zu (za hc a h) (za hc b h)) k
 | .tup es,_,_,_,_,h,k=>zB hc es (fun _ _=>zu (h _ _) id) k
 | .lst es,_,_,_,_,h,k=>zB hc es (fun _ _=>zu (h _ _) id) k
 | .dic _ _ es,_,_,_,_,h,k=>zB hc es (fun _ _=>zu (h _ _) id) k
 | .sub a b,_,_,_,_,h,k=>za hc a (fun _ _=>za hc b fun _ _=>zp fun _=>h _ _) k
 | .slc a l u,_,_,_,_,h,k=>za hc a (fun _ _=>XS hc l fun _ _=>XS hc u fun _ _=>zp fun _=>h _ _) k
 | .bi b [],_,_,_,_,h,k=>zB hc [] (fun _ _=>zp fun _=>h _ _) k
 | .bi b [e],_,_,_,_,h,k=>za hc e (fun _ _=>zp fun _=>h _ _) k
 | .bi b (e::f::es),_,_,_,_,h,k=>zB hc (e::f::es) (fun _ _=>zp fun _=>h _ _) k
 | .mth m o es,_,_,_,_,h,k=>za hc o (fun _ _=>zu (zB hc es fun _ _=>zp fun _=>h _ _) id) k
 | .call f es,_,_,_,_,h,k=>zB hc es (fun _ _=>hc _ _ _ _ _ h) k
 | .callk f p es,_,_,_,_,h,k=>zB hc es (fun _ _=>zp fun _=>hc _ _ _ _ _ h) k
 | .comp t js it ifs elt,ρ,V,V',S,h,k=>by
  refine XX hc it (fun its S1 q=>?_) k
  refine v4 ?_ ?_ q
  ·intro d K K' S q
   exact zp fun ρ'=>X3 hc ifs fun b S1=>zu (za hc elt fun x S2=>zr fun d=>q _ _) (q _ _)
  ·exact fun ds S2=>h _ _
 | .box e,_,_,_,_,h,k=>za hc e (fun _ _=>Yu fun _=>h _ _) k
 | .one e,_,_,_,_,h,k=>za hc e h k
 | .flip e,_,_,_,_,h,k=>za hc e (fun _ _=>zp fun _=>h _ _) k
 | .dk1 a b,_,_,_,_,h,k=>za hc a (fun _ _=>zr fun _=>za hc b fun _ _=>zr fun _=>zp fun _=>h _ _) k
 | .callv i es,_,_,_,_,h,k=>kY (fun _=>W3 fun _=>zB hc es fun _ _=>hc _ _ _ _ _ h) (fun _=>W3 fun _=>zB hc es fun _ _=>hc _ _ _ _ _ h) k
 | .seq _,_,_,_,_,_,k=>k
 | .rng _ _,_,_,_,_,_,k=>k
 | .enum _,_,_,_,_,_,k=>k
 | .zip _ _,_,_,_,_,_,k=>k
 | .rev _,_,_,_,_,_,k=>k
 | .dwn _,_,_,_,_,_,k=>k
 | .items _,_,_,_,_,_,k=>k
theorem zB (hc:Mono cf):∀ (es:List E) {ρ:List Slot}{V V':List D->Store->Prop}{S:Store},(∀ x S,V x S->V' x S)->wpEs cf ρ es V S->wpEs cf ρ es V' S
 | [],_,_,_,_,h,k=>h _ _ k
 | e::es,_,_,_,_,h,k=>za hc e (fun _ _=>zr fun _=>zB hc es fun _ _=>h _ _) k
theorem XS (hc:Mono cf):∀ (o:Option E) {ρ:List Slot}{V V':Option Int->Store->Prop}{S:Store},(∀ x S,V x S->V' x S)->wpO cf ρ o V S->wpO cf ρ o V' S
 | none,_,_,_,_,h,k=>h _ _ k
 | some e,_,_,_,_,h,k=>za hc e (fun _ _=>yW fun _=>h _ _) k
theorem X3 (hc:Mono cf):∀ (es:List E) {ρ:List Slot}{V V':Bool->Store->Prop}{S:Store},(∀ x S,V x S->V' x S)->wpF cf ρ es V S->wpF cf ρ es V' S
 | [],_,_,_,_,h,k=>h _ _ k
 | [e],_,_,_,_,h,k=>za hc e (fun _ _=>yd fun _=>h _ _) k
 | _::_::_,_,_,_,_,_,k=>k
theorem XX (hc:Mono cf):∀ (e:E) {ρ:List Slot}{V V':List D->Store->Prop}{S:Store},(∀ x S,V x S->V' x S)->wpI cf ρ e V S->wpI cf ρ e V' S
 | .rng none e,_,_,_,_,h,k=>za hc e (fun _ _=>yW fun _=>zu (h _ _) id) k
 | .rng (some a) e,_,_,_,_,h,k=>za hc a (fun _ _=>za hc e fun _ _=>yW fun _=>yW fun _=>zu (h _ _) id) k
 | .enum e,_,_,_,_,h,k=>za hc e (fun _ _=>zr fun _=>zp fun _=>h _ _) k
 | .seq e,_,_,_,_,h,k=>za hc e (fun _ _=>zr fun _=>zp fun _=>h _ _) k
 | .var _,_,_,_,_,_,k=>k
 | .con _,_,_,_,_,_,k=>k
 | .glo _ _,_,_,_,_,_,k=>k
 | .bin _ _ _,_,_,_,_,_,k=>k
 | .neg _,_,_,_,_,_,k=>k
 | .cmp _ _ _,_,_,_,_,_,k=>k
 | .chn _ _ _ _ _,_,_,_,_,_,k=>k
 | .not _,_,_,_,_,_,k=>k
 | .and _ _,_,_,_,_,_,k=>k
 | .or _ _,_,_,_,_,_,k=>k
 | .ite _ _ _,_,_,_,_,_,k=>k
 | .tup _,_,_,_,_,_,k=>k
 | .lst _,_,_,_,_,_,k=>k
 | .dic _ _ _,_,_,_,_,_,k=>k
 | .sub _ _,_,_,_,_,_,k=>k
 | .slc _ _ _,_,_,_,_,_,k=>k
 | .bi _ _,_,_,_,_,_,k=>k
 | .mth _ _ _,_,_,_,_,_,k=>k
 | .call _ _,_,_,_,_,_,k=>k
 | .callk _ _ _,_,_,_,_,_,k=>k
 | .callv _ _,_,_,_,_,_,k=>k
 | .comp _ _ _ _ _,_,_,_,_,_,k=>k
 | .box _,_,_,_,_,_,k=>k
 | .one _,_,_,_,_,_,k=>k
 | .flip _,_,_,_,_,_,k=>k
 | .dk1 _ _,_,_,_,_,_,k=>k
 | .zip _ _,_,_,_,_,_,k=>k
 | .dwn es,_,_,_,_,h,k=>zB hc es (fun _ _=>zp fun _=>h _ _) k
 | .rev e,_,_,_,_,h,k=>za hc e (fun _ _=>yW fun _=>zu (h _ _) id) k
 | .keys e,_,_,_,_,h,k=>za hc e (fun _ _=>zr fun _=>Kr fun _=>h _ _) k
 | .items e,_,_,_,_,h,k=>za hc e (fun _ _=>zr fun _=>vR fun _=>Kq fun _ _=>h _ _) k
end
theorem zaO {s:Option Slot}{S:Store}{P Q:Nat->List D->Prop}(h:∀ k l,P k l->Q k l) (p:frW s S P):frW s S Q:=by
 obtain ⟨k,l,rfl,e,q⟩:=zbH p
 exact zfP e (h k l q)
theorem vK {s:Option Slot}{P Q:List D->Prop}(h:∀ a,P a->Q a):owL s P->owL s Q:=by
 cases s with
 | none=>exact id
 | some s=>
  cases s with
  | ow d=>cases d <;> first | exact h _ | exact id
  | _=>exact id
theorem zal {s:Option Slot}{P Q:D->Prop}(h:∀ a,P a->Q a):owD s P->owD s Q:=by
 cases s with
 | none=>exact id
 | some s=>cases s <;> first | exact h _ | exact id
theorem W2 {s:Option D}{P Q:List D->Prop}(h:∀ a,P a->Q a):isL s P->isL s Q:=by
 cases s with
 | none=>exact id
 | some s=>cases s <;> first | exact h _ | exact id
theorem Jh {x:Vl}{P Q:O->Prop}(h:∀ a,P a->Q a):retV x P->retV x Q:=by
 obtain ⟨d,k⟩:=x
 cases k <;> first | exact h _ | exact id
def Km (b:List Slot->Ko->Store->Prop):Prop:=∀ ρ (K K':Ko) S,(∀ o S,K o S->K' o S)->b ρ K S->b ρ K' S
theorem zar {f f':List Slot->Store->Prop}{K K':Ko}(h:∀ ρ S,f ρ S->f' ρ S) (k:∀ o S,K o S->K' o S):∀ o S,nxt f K o S->nxt f' K' o S:=by
 intro o S
 cases o <;> first | exact h _ _ | exact k _ _
theorem vH {f f':List Slot->Store->Prop}{K K':Ko}(h:∀ ρ S,f ρ S->f' ρ S) (k:∀ o S,K o S->K' o S):∀ o S,trn K f o S->trn K' f' o S:=by
 intro o S
 cases o <;> first | exact h _ _ | exact k _ _
theorem Yb {t:T}{b:List Slot->Ko->Store->Prop}(hb:Km b) {K K':Ko}(k:∀ o S,K o S->K' o S):∀ {l:List D}{ρ:List Slot}{S:Store},forW t b l ρ K S->forW t b l ρ K' S
 | [],_,_,h=>k _ _ h
 | d::l,_,_,h=>zp (fun _=>hb _ _ _ _ (vH (fun _ _=>Yb hb k) k)) h
theorem qT {c:List Slot->Po->Store->Prop}{b:List Slot->Ko->Store->Prop}(hc:∀ ρ (V V':Po) S,(∀ x S,V x S->V' x S)->c ρ V S->c ρ V' S) (hb:Km b) {K K':Ko}(k:∀ o S,K o S->K' o S):∀ {n:Nat}{ρ:List Slot}{S:Store},whlW c b n ρ K S->whlW c b n ρ K' S
 | 0,_,_,h=>h
 | n+1,_,_,h=>hc _ _ _ _ (fun _ _=>yd fun _=>zu (hb _ _ _ _ (vH (fun _ _=>qT hc hb k) k)) (k _ _)) h
variable {w:Nat}
theorem QZ (hc:Mono cf) (e:E) {ρ:List Slot}{K K':Ko}{S:Store}(h:∀ o S,K o S->K' o S) (k:wpC cf w (.ret e) ρ K S):wpC cf w (.ret e) ρ K' S:=by
 cases e <;> first | exact kY (fun _=>h _ _) (fun _=>h _ _) k | exact za hc _ (fun _ _=>Jh fun _=>h _ _) k
theorem QT (hc:Mono cf) (t:T) (e:E) {ρ:List Slot}{K K':Ko}{S:Store}(h:∀ o S,K o S->K' o S) (k:wpC cf w (.set t e) ρ K S):wpC cf w (.set t e) ρ K' S:=by
 cases e <;> first | exact za hc _ (fun _ _=>zp fun _=>h _ _) k | exact za hc _ (fun _ _=>Yu fun _=>zp fun _=>h _ _) k
mutual
theorem Qx (hc:Mono cf):∀ (c:C) {ρ:List Slot}{K K':Ko}{S:Store},(∀ o S,K o S->K' o S)->wpC cf w c ρ K S->wpC cf w c ρ K' S
 | .set t e,_,_,_,_,h,k=>QT hc t e h k
 | .expr e,_,_,_,_,h,k=>za hc e (fun _ _=>h _ _) k
 | .ret e,_,_,_,_,h,k=>QZ hc e h k
 | .retN,_,_,_,_,h,k=>h _ _ k
 | .ite e A B,_,_,_,_,h,k=>za hc e (fun _ _=>yd fun _=>zu (zU hc A h) (zU hc B h)) k
 | .whl e A,ρ,K,K',S,h,k=>by
  have k:whlW (fun ρ=>wpE cf ρ e) (fun ρ=>wpCs cf w A ρ) w ρ K S:=k
  refine qT ?_ ?_ h k
  ·exact fun ρ V V' S q=>za hc e q
  ·exact fun ρ V V' S q=>zU hc A q
 | .forr t it A,ρ,K,K',S,h,k=>by
  refine XX hc it (fun l S1 q=>?_) k
  refine Yb ?_ h q
  exact fun ρ V V' S q=>zU hc A q
 | .app i e,_,_,_,_,h,k=>vK (fun _=>za hc e fun _ _=>zr fun _=>zu (h _ _) id) k
 | .ext i e,_,_,_,_,h,k=>vK (fun _=>za hc e fun _ _=>zr fun _=>zp fun _=>zu (h _ _) id) k
 | .stv i a v,_,_,_,_,h,k=>zal (fun _=>za hc v fun _ _=>zr fun _=>za hc a fun _ _=>zr fun _=>zp fun _=>h _ _) k
 | .sti o a v,_,_,_,_,h,k=>za hc v (fun _ _=>zr fun _=>za hc o fun _ _=>zr fun _=>za hc a fun _ _=>zr fun _=>vR fun _=>zp fun _=>zp fun _=>h _ _) k
 | .pop i,_,_,_,_,h,k=>vK (fun _=>zu (h _ _) id) k
 | .appR o e,_,_,_,_,h,k=>za hc o (fun _ _=>zr fun _=>vR fun _=>zu (za hc e fun _ _=>zr fun _=>W2 fun _=>zu (h _ _) id) id) k
 | .popO t i,_,_,_,_,h,k=>vK (fun _=>zp fun _=>zp fun _=>h _ _) k
 | .popR t o,_,_,_,_,h,k=>za hc o (fun _ _=>zr fun _=>vR fun _=>W2 fun _=>zp fun _=>zp fun _=>h _ _) k
 | .pass,_,_,_,_,h,k=>h _ _ k
 | .brk,_,_,_,_,h,k=>h _ _ k
 | .cnt,_,_,_,_,h,k=>h _ _ k
 | .frz i,_,_,_,_,h,k=>h _ _ k
 | .frk i,_,_,_,_,h,k=>zak (fun _ _=>h _ _) k
 | .frr i,_,_,_,_,h,k=>zaO (fun _ _=>h _ _) k
theorem zU (hc:Mono cf):∀ (cs:List C) {ρ:List Slot}{K K':Ko}{S:Store},(∀ o S,K o S->K' o S)->wpCs cf w cs ρ K S->wpCs cf w cs ρ K' S
 | [],_,_,_,_,h,k=>h _ _ k
 | c::cs,_,_,_,_,h,k=>Qx hc c (zar (fun _ _=>zU hc cs h) h) k
end
theorem UJ {V V':Po}(h:∀ x S,V x S->V' x S):∀ o S,told V o S->told V' o S:=by
 intro o S
 cases o <;> first | exact h _ _ | exact id
theorem zX {F:Nat->Option Fn}:∀ k,Mono (callW F w k)
 | 0=>fun _ _ _ _ _ _ h=>h
 | k+1=>fun f ds V V' S h q=>zp (fun _ ⟨a,b⟩=>⟨a,zU (zX k) _ (UJ h) b⟩) q
theorem X4 (hc:Mono cf):∀ (es:List E) {ρ:List Slot}{W:List D->Store->Prop}{S:Store},wpEs cf ρ es W S->wpEs cf ρ es (fun ds S=>W ds S/\ds.length=es.length) S
 | [],_,_,_,h=>⟨h,rfl⟩
 | e::es,_,_,_,h=>za hc e (fun _ _=>zr fun _ q=>zB hc es (fun _ _ q=>⟨q.1,by rw [bh,q.2];rfl⟩) (X4 hc es q)) h
end
open PySem PySem.Spec PyProof.Rows L2
def Rdb (Γ:Gm) (H:Hp) (g:G):D->V->Prop
 | .tup ds,v=>∃ a vs,v=.ref a/\g.R a=some (.tup vs)/\Hass Γ g ds vs
 | .lst ds,v=>∃ a vs,v=.ref a/\H a=some (.lst vs)/\Hass Γ g ds vs
 | .dK ks ds,v=>∃ a vs,v=.ref a/\H a=some (.dK (ks.zip vs))/\ks.length=ds.length/\Hass Γ g ds vs
 | .dT ks ds,v=>∃ a vs,v=.ref a/\H a=some (.dT (ks.zip vs))/\ks.length=ds.length/\Hass Γ g ds vs
 | .non,v=>v=.non
 | .bl b,v=>v=.bl b
 | .int i,v=>v=.int i
 | .str x,v=>v=.str x
 | .ref _,v=>∃ a,v=.ref a
 | .fn f,v=>∃ a,Γ.fa f=some a/\v=.ref a
 | .scr ns,v=>∃ a,v=.ref a/\SqL Γ.K H a (ns.map V.int)
 | .ktp ds,v=>∃ a vs,v=.ref a/\KTup Γ.K a vs/\Hass Γ g ds vs
 | .kdc ps,v=>∃ a,v=.ref a/\KDic Γ.K a ps
 | .dF ks ds,v=>∃ a vs o,v=.ref a/\H a=some (.frz o (.dT (ks.zip vs)))/\ks.length=ds.length/\Hass Γ g ds vs
section
variable {Γ:Gm}{H H':Hp}{g g':G}{S:Store}{d:D}{v:V}{a:Addr}
theorem zbd (w:WOk Γ H g S) (h:Has Γ g d v):Rdb Γ H g (deref S d) v:=by
 cases d with
 | non=>exact h
 | bl=>exact h
 | int=>exact h
 | str=>exact h
 | fn f=>exact h
 | tup ds=>exact h
 | lst ds=>obtain ⟨a,vs,h1,h2,h3⟩:=h;exact ⟨a,vs,h1,w.rh _ _ h2,h3⟩
 | scr ns=>obtain ⟨a,h1,h2⟩:=h;exact ⟨a,h1,w.rh.seq h2⟩
 | dK ks ds=>obtain ⟨a,vs,h1,h2,h4,h3⟩:=h;exact ⟨a,vs,h1,w.rh _ _ h2,h4,h3⟩
 | dT ks ds=>obtain ⟨a,vs,h1,h2,h4,h3⟩:=h;exact ⟨a,vs,h1,w.rh _ _ h2,h4,h3⟩
 | ktp=>exact h
 | kdc=>exact h
 | dF ks ds=>obtain ⟨a,vs,o,h1,h2,h4,h3⟩:=h;exact ⟨a,vs,o,h1,w.rh _ _ h2,h4,h3⟩
 | ref k=>
  obtain ⟨a,h1,rfl⟩:=h
  have hk:k < S.length:=by rw [<- w.len];exact (π.mp h1).1
  have e:S[k]?=some S[k]:=θ hk
  have c:=w.cell k _ a e h1
  show Rdb Γ H g ((S[k]?).getD .non) (.ref a)
  rw [e]
  show Rdb Γ H g S[k] (.ref a)
  generalize S[k]=x at c
  cases x with
  | lst ds=>obtain ⟨vs,h1,h2⟩:=c;exact ⟨a,vs,rfl,h1,h2⟩
  | dK ks ds=>obtain ⟨vs,h1,h3,h2⟩:=c;exact ⟨a,vs,rfl,h1,h3,h2⟩
  | dT ks ds=>obtain ⟨vs,h1,h3,h2⟩:=c;exact ⟨a,vs,rfl,h1,h3,h2⟩
  | non=>exact c.elim
  | bl=>exact c.elim
  | int=>exact c.elim
  | str=>exact c.elim
  | tup=>exact c.elim
  | ref=>exact ⟨a,rfl⟩
  | fn=>exact c.elim
  | scr=>exact c.elim
  | ktp=>exact c.elim
  | kdc=>exact c.elim
  | dF=>exact c.elim
def Fin (Γ:Gm) (H:Hp) (g:G) (S:Store) (d:D) (fr:Bool) (Q:VK):Prop:=
 ∀ v H' g',Step H g H' g'->Same H H'->WOk Γ H' g' S->VOk Γ H d fr v H' g'->Q v H'
variable {Q:VK}
theorem zg (w:WOk Γ H g S) (q:Fin Γ H g S d false Q) (h:Has Γ g d v):Q v H:=q v H g (Step.refl H g) (Same.refl H) w h
theorem WOk.laid {o:HO}(w:WOk Γ H g S) (h:H a=none):WOk Γ (upd H a o) g S where
 rh:=fun b u q=>by
  have e:=w.rh b u q
  rw [zc (zf e h)];exact e
 len:=w.len
 nd:=w.nd
 off:=w.off
 cell:=fun k c b h1 h2=>(w.cell k c b h1 h2).mono (Le.refl g) fun o e=>by rw [zc (zf e h)];exact e
theorem WOk.notR (w:WOk Γ H g S) (h:H a=none):g.R a=none:=by
 cases q:g.R a with
 | none=>rfl
 | some o=>rw [w.rh a o q] at h;cases h
theorem WOk.notA (w:WOk Γ H g S) (h:H a=none):a ∉ g.α:=fun m=>by
 obtain ⟨k,hk,e⟩:=iY m
 have hk':k < S.length:=by rw [<- w.len];exact hk
 obtain ⟨o,ho,_⟩:=(w.cell k _ a (θ hk') (by rw [θ hk,e])).isMut
 rw [ho] at h;cases h
theorem zT {o:HO}(h:H a=none):Same H (upd H a o):=fun b u q=>by rw [zc (zf q h)];exact q
theorem qJ {ds:List D}{vs:List V}(w:WOk Γ H g S) (q:Fin Γ H g S (.tup ds) false Q) (h:Hass Γ g ds vs) (ha:H a=none):Q (.ref a) (upd H a (.tup vs)):=by
 have hr:=w.notR ha
 refine q _ _ (g.put a (.tup vs)) ?_ (zT ha) ((w.laid ha).put zj hr (w.notA ha)) ⟨a,vs,rfl,zj,h.mono (Le.put hr)⟩
 exact (Step.of_same (zT ha) (Le.refl g) (fun _ h=>.inl h) fun _ h=>.inl h).put hr ha
theorem yJ {ds:List D}{vs:List V}(w:WOk Γ H g S) (q:Fin Γ H g S (.lst ds) true Q) (h:Hass Γ g ds vs) (ha:H a=none):Q (.ref a) (upd H a (.lst vs)):=
 q _ _ g (Step.of_same (zT ha) (Le.refl g) (fun _ h=>.inl h) fun _ h=>.inl h) (zT ha) (w.laid ha) ⟨a,rfl,ha,w.notR ha,w.notA ha,vs,zj,h⟩
end
theorem zby {n:Nat}(h:fits n=true):n < sizeLine:=Nat.lt_of_le_of_lt (of_decide_eq_true h) (by decide)
theorem yw {n:Nat}(h:fits n=true):n<=sizeLine:=fQ (zby h)
def RDo (Γ:Gm) (r:R2) (a b:D) (d:D) (fr:Bool):Prop:=
 ∀ (S:Store) (H:Hp) (g:G) (x y:V) (Q:VK),WOk Γ H g S->Rdb Γ H g a x->Rdb Γ H g b y->Fin Γ H g S d fr Q->r x y H Q
section
variable {X:Cx}{Γ:Gm}
def rCatS:R2:=fun x y H Q=>∃ l b xs zs,x=.ref l/\y=.ref b/\H l=some (.lst xs)/\H b=some (.lst zs)/\xs.length+zs.length<=sizeLine/\∀ p,H p=none->Q (.ref p) (upd H p (.lst (xs++zs)))
theorem zcU:OpR X (bQ .Add) rCatS:=by
 intro pJ s σ H x y v u Q I rx ry h
 obtain ⟨l,b,xs,zs,rfl,rfl,hH,hB,hz,q⟩:=h
 cases rx
 cases ry
 obtain ⟨z,its,n,r,e⟩:=I.hok _ _ hH
 obtain ⟨z2,its2,n2,r2,e2⟩:=I.hok _ _ hB
 have hl:=r.length
 have hl2:=r2.length
 refine PySem.P.add_list e e2 ?_ (by rw [ο,ο];omega)
 have ea:its.toArray++its2.toArray=(its++its2).toArray:=by simp
 rw [ea]
 exact ⟨.ref _,_,I.lnew (t':=s.toks) (r.append r2) (by rw [Ο];omega),rfl,q _ I.fresh⟩
theorem W7 {g:G}{ds:List D}{vs:List V}(h:Hass Γ g ds vs):∀ n:Nat,Hass Γ g (Θ n ds).flatten (Θ n vs).flatten
 | 0=>rfl
 | n+1=>by
  rw [bF,bF,cR,cR]
  exact h.app (W7 h n)
theorem X7 {xs:List V}{us:List δ}(h:Vals xs us):∀ n:Nat,Vals (Θ n xs).flatten (Θ n us).flatten
 | 0=>.nil
 | n+1=>by
  rw [bF,bF,cR,cR]
  exact h.append (X7 h n)
theorem Ji (us:List δ):∀ (n:Nat) (acc:List δ),List.foldl (fun x1 x2=>x1++x2) acc.toArray (Θ n us.toArray)=(acc++(Θ n us).flatten).toArray
 | 0,acc=>by simp
 | n+1,acc=>by
  rw [bF,fC,List.append_toArray,Ji us n,bF,cR,aA]
def rRepS:R2:=fun x y H Q=>∃ l xs n,x=.ref l/\y=.int n/\H l=some (.lst xs)/\0<=n/\n < 2 ^ 20/\xs.length*n.toNat<=sizeLine/\∀ p,H p=none->Q (.ref p) (upd H p (.lst (Θ n.toNat xs).flatten))
theorem zcQ:OpR X (bQ .Mult) rRepS:=by
 intro pJ s σ H x y v u Q I rx ry h
 obtain ⟨l,xs,k,rfl,rfl,hH,k0,k1,hz,q⟩:=h
 cases rx
 obtain ⟨t,rfl⟩:=ry
 obtain ⟨z,its,n,r,e⟩:=I.hok _ _ hH
 have hl:=r.length
 have hi:s.heap.get? l=some { cls:=.type "list",dict:=none,data:=.seq its.toArray n,slots:=#[] }:=e
 have hz':its.toArray.size*k.toNat<=2 ^ 24:=by
  rw [ο,<- hl]
  rw [Ϧ] at hz
  omega
 refine wpAny_binaryOp_repeat_ref (T:="list") (U:="int") (by decide) ⟨_,hi,rfl⟩ (fun s'=>typeIs_int s' k t) noFill_list_mul F.fills_int_mul F.slot_int_rmul repeat_list F.slot_int_index.lookup
  (mC F.slot_int_rmul (typeIs_int s k t) F.entry_int_rmul (F.args_int_rmul_2 _ _) (int___rmul___int_list k t l its.toArray n)
   ⟨hi,rfl,⟨_,hi,rfl⟩,mC F.slot_list_mul ⟨_,hi,rfl⟩ F.entry_list_mul (F.args_list_mul_2 _ _)
    (AutoListH.list___mul___list_int_3 l its.toArray n k t (by simp [Β.List.listFitsIndex];omega) (by omega) (by simp [cV,sizeLine];rw [ο] at hz';omega))
    ⟨hi,?_⟩⟩)
 have ea:List.foldl (fun x1 x2=>x1++x2) #[] (Θ (if its.toArray.isEmpty=true then 0 else k.toNat) its.toArray)=((Θ k.toNat its).flatten).toArray:=by
  cases its with
  | nil=>
   have:(Θ k.toNat ([]:List δ)).flatten=[]:=by induction k.toNat with
    | zero=>rfl
    | succ n ih=>rw [bF,cR,ih];rfl
   rw [this];rfl
  | cons a l=>
   have:((a::l).toArray.isEmpty=true)=False:=by simp
   rw [if_neg (by rw [this];exact id)]
   have:=Ji (a::l) k.toNat []
   simpa using this
 rw [ea]
 exact ⟨.ref _,_,I.lnew (t':=s.toks) (X7 r _) (by
  have:(Θ k.toNat xs).flatten.length=xs.length*k.toNat:=by
   rw [List.length_flatten,List.map_replicate,List.sum_replicate_nat,Nat.mul_comm]
  rw [this];exact hz),rfl,q _ I.fresh⟩
theorem wK {f:Int->Int->Option Int}{a b:D}{p:D×Bool}(h:num2 f a b=some p):∃ i j k,a=.int i/\b=.int j/\f i j=some k/\p=(.int k,false):=by
 cases a with
 | int i=>
  cases b with
  | int j=>
   obtain ⟨k,e,rfl⟩:=Α.mp (show (f i j).map (fun k=>(D.int k,false))=some p from h)
   exact ⟨i,j,k,rfl,rfl,e,rfl⟩
  | _=>cases h
 | _=>cases h
set_option tactic.hygienic true in
theorem zdS {a b:D}{d:D}{fr:Bool}(hK:X.K=Γ.K) (h:addD a b=some (d,fr)):∃ r,OpR X (bQ .Add) r/\RDo Γ r a b d fr:=by
 cases a with
 | int i=>
  cases b with
  | int j=>
   cases h
   exact ⟨_,ze9,fun S H g x y Q w hx hy q=>⟨_,_,hx,hy,zg w q rfl⟩⟩
  | _=>cases h
 | str s=>
  cases b with
  | str u=>
   have h:(if fits (s.length+u.length)=true then some (D.str (s++u),false) else none)=some (d,fr):=h
   split at h
   ·rename_i hf
    cases h
    exact ⟨_,VR,fun S H g x y Q w hx hy q=>⟨_,_,hx,hy,yw hf,zg w q rfl⟩⟩
   ·cases h
  | _=>cases h
 | tup s=>
  cases b with
  | tup u=>
   have h:(if fits (s.length+u.length)=true then some (D.tup (s++u),false) else none)=some (d,fr):=h
   split at h
   ·rename_i hf
    cases h
    refine ⟨_,zcT.or zan,fun S H g x y Q w ⟨a,xs,e1,e2,e3⟩ ⟨b,ys,f1,f2,f3⟩ q=>?_⟩
    rw [hK]
    have h1:=e3.len
    have h2:=f3.len
    have hz:=yw hf
    by_cases hx:xs=[]
    ·subst hx
     refine .inr ⟨a,b,ys,e1,f1,SqT.of (w.rh _ _ e2),SqT.of (w.rh _ _ f2),?_⟩
     have e0:=b7.mp h1.symm
     subst e0
     exact zg w q ⟨b,ys,rfl,f2,f3⟩
    ·refine .inl ⟨a,b,xs,ys,e1,f1,SqT.of (w.rh _ _ e2),SqT.of (w.rh _ _ f2),hx,by lia,fun z=>?_,fun _ p hp=>qJ w q (e3.app f3) hp⟩
     subst z
     have e0:=b7.mp h2.symm
     subst e0
     refine zg w q ⟨a,xs,rfl,e2,?_⟩
     rw [Ρ]
     exact e3
   ·cases h
  | _=>cases h
 | lst s=>
  cases b with
  | lst u=>
   have h:(if fits (s.length+u.length)=true then some (D.lst (s++u),true) else none)=some (d,fr):=h
   split at h
   ·rename_i hf
    cases h
    refine ⟨_,zcU,fun S H g x y Q w ⟨a,xs,e1,e2,e3⟩ ⟨b,ys,f1,f2,f3⟩ q=>?_⟩
    have h1:=e3.len
    have h2:=f3.len
    have hz:=yw hf
    exact ⟨a,b,xs,ys,e1,f1,e2,f2,by lia,fun p hp=>yJ w q (e3.app f3) hp⟩
   ·cases h
  | _=>cases h
 | _=>cases h
set_option tactic.hygienic true in
theorem zc9 {a b:D}{d:D}{fr:Bool}(h:mulD a b=some (d,fr)):∃ r,OpR X (bQ .Mult) r/\RDo Γ r a b d fr:=by
 cases a with
 | int i=>
  cases b with
  | int j=>
   have h:(if (zL i||zL j)=true then some (D.int (i*j),false) else none)=some (d,fr):=h
   split at h
   ·rename_i hf
    cases h
    refine ⟨_,ze3,fun S H g x y Q w hx hy q=>⟨_,_,hx,hy,?_,zg w q rfl⟩⟩
    simp only [zL,ik,ε,decide_eq_true_eq] at hf
    exact hf
   ·cases h
  | _=>cases h
 | lst l=>
  cases b with
  | int n=>
   have h:(if (decide (0<=n)&&decide (n < 2 ^ 20)&&fits (l.length*n.toNat))=true then some (D.lst (Θ n.toNat l).flatten,true) else none)=some (d,fr):=h
   split at h
   ·rename_i hf
    cases h
    simp only [ε,decide_eq_true_eq] at hf
    refine ⟨_,zcQ,fun S H g x y Q w ⟨a,xs,e1,e2,e3⟩ hy q=>?_⟩
    have h1:=e3.len
    have hz:=yw hf.2
    exact ⟨a,xs,_,e1,hy,e2,hf.1.1,hf.1.2,by rw [h1];exact hz,fun p hp=>yJ w q (W7 e3 _) hp⟩
   ·cases h
  | _=>cases h
 | _=>cases h
set_option tactic.hygienic true in
theorem ze0 {op:mV}{a b:D}{d:D}{fr:Bool}(hK:X.K=Γ.K) (h:opD op a b=some (d,fr)):∃ r,OpR X (bQ op) r/\RDo Γ r a b d fr:=by
 cases op with
 | Add=>exact zdS hK h
 | Mult=>exact zc9 h
 | Sub=>
  obtain ⟨i,j,k,rfl,rfl,e,e2⟩:=wK h
  cases e
  cases e2
  exact ⟨_,zeZ,fun S H g x y Q w hx hy q=>⟨_,_,hx,hy,zg w q rfl⟩⟩
 | FloorDiv=>
  obtain ⟨i,j,k,rfl,rfl,e,e2⟩:=wK h
  cases e2
  split at e
  ·rename_i hf
   cases e
   refine ⟨_,zam,fun S H g x y Q w hx hy q=>⟨_,_,hx,hy,?_,zg w q rfl⟩⟩
   simp only [ε,decide_eq_true_eq] at hf
   exact hf
  ·cases e
 | Mod=>
  obtain ⟨i,j,k,rfl,rfl,e,e2⟩:=wK h
  cases e2
  split at e
  ·rename_i hf
   cases e
   exact ⟨_,ze4,fun S H g x y Q w hx hy q=>⟨_,_,hx,hy,of_decide_eq_true hf,zg w q rfl⟩⟩
  ·cases e
 | Pow=>
  obtain ⟨i,j,k,rfl,rfl,e,e2⟩:=wK h
  cases e2
  split at e
  ·rename_i hf
   cases e
   refine ⟨_,ze1,fun S H g x y Q w hx hy q=>⟨_,_,hx,hy,?_,zg w q rfl⟩⟩
   simp only [zL,ε,decide_eq_true_eq] at hf
   exact ⟨hf.1.1,hf.1.2,by omega⟩
  ·cases e
 | _=>cases h
end
open PySem PySem.Spec PyProof.Rows L2 SeqAt
section
variable {X:Cx}{pJ:List (Addr×Obj)}{σ:L2.St}{H:Hp}{s:μ}{Γ:Gm}{g:G}
theorem zb9 (sr:Same g.R H) {a:Addr}{xs ys:List V}(h:g.R a=some (.tup xs)) (h':g.R a=some (.tup ys)):xs=ys:=by
 rw [h] at h';cases h';rfl
theorem zcq (sr:Same g.R H) {a:Addr}{xs ys:List V}(h:g.R a=some (.lst xs)) (h':g.R a=some (.lst ys)):xs=ys:=by
 rw [h] at h';cases h';rfl
theorem tl_ne (sr:Same g.R H) {a b:Addr}{xs ys:List V}(h:g.R a=some (.lst xs)) (h':g.R b=some (.tup ys)):a≠b:=by
 rintro rfl
 rw [h] at h';cases h'
mutual
theorem qK (I:Inv X pJ σ H s) (hK:X.K=Γ.K) (sr:Same g.R H):∀ (n:Nat) (a b:D) (x:V),okP n a=true->okP n b=true->Has Γ g a x->Has Γ g b x->eqP a b=true
 | n,.non,b,x,_,kb,ha,hb=>by
  cases (show x=.non from ha)
  cases b with
  | non=>rfl
  | bl=>cases (show V.non=_ from hb)
  | int=>cases (show V.non=_ from hb)
  | str=>cases (show V.non=_ from hb)
  | tup=>obtain ⟨_,_,h,_⟩:=hb;cases h
  | lst=>obtain ⟨_,_,h,_⟩:=hb;cases h
  | _=>cases n <;> exact nobE kb
 | n,.bl c,b,x,_,kb,ha,hb=>by
  cases (show x=.bl c from ha)
  cases b with
  | non=>cases (show V.bl c=_ from hb)
  | bl=>cases (show V.bl c=_ from hb);exact beq_self_eq_true c
  | int=>cases (show V.bl c=_ from hb)
  | str=>cases (show V.bl c=_ from hb)
  | tup=>obtain ⟨_,_,h,_⟩:=hb;cases h
  | lst=>obtain ⟨_,_,h,_⟩:=hb;cases h
  | _=>cases n <;> exact nobE kb
 | n,.int c,b,x,_,kb,ha,hb=>by
  cases (show x=.int c from ha)
  cases b with
  | non=>cases (show V.int c=_ from hb)
  | bl=>cases (show V.int c=_ from hb)
  | int=>cases (show V.int c=_ from hb);exact beq_self_eq_true c
  | str=>cases (show V.int c=_ from hb)
  | tup=>obtain ⟨_,_,h,_⟩:=hb;cases h
  | lst=>obtain ⟨_,_,h,_⟩:=hb;cases h
  | _=>cases n <;> exact nobE kb
 | n,.str c,b,x,_,kb,ha,hb=>by
  cases (show x=.str c from ha)
  cases b with
  | non=>cases (show V.str c=_ from hb)
  | bl=>cases (show V.str c=_ from hb)
  | int=>cases (show V.str c=_ from hb)
  | str=>cases (show V.str c=_ from hb);exact beq_self_eq_true c
  | tup=>obtain ⟨_,_,h,_⟩:=hb;cases h
  | lst=>obtain ⟨_,_,h,_⟩:=hb;cases h
  | _=>cases n <;> exact nobE kb
 | 0,.tup as,b,x,ka,_,_,_=>nobE ka
 | n+1,.tup as,b,x,ka,kb,⟨a,xs,h1,h2,h3⟩,hb=>by
  subst h1
  cases b with
  | non=>cases (show V.ref a=_ from hb)
  | bl=>cases (show V.ref a=_ from hb)
  | int=>cases (show V.ref a=_ from hb)
  | str=>cases (show V.ref a=_ from hb)
  | tup bs=>
   obtain ⟨a',ys,f1,f2,f3⟩:=hb
   cases f1
   have e:=zb9 sr h2 f2
   subst e
   exact uQ I hK sr n as bs xs ka kb h3 f3
  | lst bs=>
   obtain ⟨a',ys,f1,f2,f3⟩:=hb
   cases f1
   exact absurd rfl (tl_ne sr f2 h2)
  | _=>exact nobE kb
 | 0,.lst as,b,x,ka,_,_,_=>nobE ka
 | n+1,.lst as,b,x,ka,kb,⟨a,xs,h1,h2,h3⟩,hb=>by
  subst h1
  cases b with
  | non=>cases (show V.ref a=_ from hb)
  | bl=>cases (show V.ref a=_ from hb)
  | int=>cases (show V.ref a=_ from hb)
  | str=>cases (show V.ref a=_ from hb)
  | tup bs=>
   obtain ⟨a',ys,f1,f2,f3⟩:=hb
   cases f1
   exact absurd rfl (tl_ne sr h2 f2)
  | lst bs=>
   obtain ⟨a',ys,f1,f2,f3⟩:=hb
   cases f1
   have e:=zcq sr h2 f2
   subst e
   exact uQ I hK sr n as bs xs ka kb h3 f3
  | _=>exact nobE kb
 | n,.dK _ _,b,x,ka,_,_,_=>by revert ka;cases n <;> exact nobE
 | n,.dT _ _,b,x,ka,_,_,_=>by revert ka;cases n <;> exact nobE
 | n,.ref _,b,x,ka,_,_,_=>by revert ka;cases n <;> exact nobE
 | n,.fn _,b,x,ka,_,_,_=>by revert ka;cases n <;> exact nobE
 | n,.scr _,b,x,ka,_,_,_=>by revert ka;cases n <;> exact nobE
 | n,.ktp _,b,x,ka,_,_,_=>by revert ka;cases n <;> exact nobE
 | n,.kdc _,b,x,ka,_,_,_=>by revert ka;cases n <;> exact nobE
 | n,.dF _ _,b,x,ka,_,_,_=>by revert ka;cases n <;> exact nobE
theorem uQ (I:Inv X pJ σ H s) (hK:X.K=Γ.K) (sr:Same g.R H):∀ (n:Nat) (as bs:List D) (xs:List V),okPs n as=true->okPs n bs=true->Hass Γ g as xs->Hass Γ g bs xs->eqPs as bs=true
 | n,[],bs,xs,_,_,ha,hb=>by
  cases (show xs=[] from ha)
  cases bs with
  | nil=>rfl
  | cons=>obtain ⟨_,_,h,_⟩:=hb;cases h
 | n,a::as,bs,xs,ka,kb,⟨v,r,h1,h2,h3⟩,hb=>by
  subst h1
  cases bs with
  | nil=>cases (show _=[] from hb)
  | cons b bs=>
   obtain ⟨v',r',f1,f2,f3⟩:=hb
   cases f1
   have ka':(okP n a&&okPs n as)=true:=ka
   have kb':(okP n b&&okPs n bs)=true:=kb
   rw [ε] at ka' kb'
   show (eqP a b&&eqPs as bs)=true
   rw [qK I hK sr n a b v ka'.1 kb'.1 h2 f2,uQ I hK sr n as bs r ka'.2 kb'.2 h3 f3]
   rfl
end
theorem vW:∀ (as bs:List D),as.length=bs.length->eqPs as bs=(Η as.length).all fun i=>eqP (as.getD i .non) (bs.getD i .non)
 | [],[],_=>rfl
 | a::as,b::bs,h=>by
  have ih:=vW as bs (by simpa using h)
  show (eqP a b&&eqPs as bs)=_
  rw [ih,bh,List.range_succ_eq_map,iZ,gW]
  rfl
 | [],_::_,h=>by simp at h
 | _::_,[],h=>by simp at h
theorem vV:∀ (as bs:List D),as.length≠bs.length->eqPs as bs=false
 | [],[],h=>absurd rfl h
 | a::as,b::bs,h=>by
  show (eqP a b&&eqPs as bs)=_
  rw [vV as bs (by simpa using h),iJ]
 | [],_::_,h=>rfl
 | _::_,[],h=>rfl
theorem vQ {as bs:List D}{xs ys:List V}{us ws:List δ}{n:Nat}{A:ϗ}(ka:okPs n as=true) (kb:okPs n bs=true) (ha:Hass Γ g as xs) (hb:Hass Γ g bs ys) (ra:Vals xs us) (rb:Vals ys ws)
  (ih:∀ (a b:D) (x y:V) (u v:δ),a∈as->okP n a=true->okP n b=true->Has Γ g a x->Has Γ g b y->RelV x u->RelV y v->EqAt A s u v (eqP a b)):
  ∀ (j:Nat) (h1:j < us.toArray.size) (h2:j < ws.toArray.size),EqAt A s us.toArray[j] ws.toArray[j] (eqP (as.getD j .non) (bs.getD j .non)):=by
 intro j h1 h2
 have l1:=ra.length
 have l2:=rb.length
 have l3:=ha.len
 have l4:=hb.len
 simp only [ο] at h1 h2
 have k1:j < as.length:=by lia
 have k2:j < bs.length:=by lia
 obtain ⟨x,ex,hx⟩:=ha.get (θ k1)
 obtain ⟨y,ey,hy⟩:=hb.get (θ k2)
 obtain ⟨u,eu,ru⟩:=ra.get ex
 obtain ⟨v,ev,rv⟩:=rb.get ey
 have e1:us.toArray[j]'(by simpa using h1)=u:=by simpa [θ h1] using eu
 have e2:ws.toArray[j]'(by simpa using h2)=v:=by simpa [θ h2] using ev
 have g1:as.getD j .non=as[j]:=by simp [ϸ,k1]
 have g2:bs.getD j .non=bs[j]:=by simp [ϸ,k2]
 rw [e1,e2,g1,g2]
 have all:∀ (l:List D),okPs n l=true->∀ d∈l,okP n d=true:=by
  intro l
  induction l with
  | nil=>intro _ d hd;cases hd
  | cons c l il=>
   intro k d hd
   have k':(okP n c&&okPs n l)=true:=k
   rw [ε] at k'
   rcases Κ.mp hd with rfl | hd
   ·exact k'.1
   ·exact il k'.2 d hd
 exact ih _ _ x y u v (bj k1) (all as ka _ (bj k1)) (all bs kb _ (bj k2)) hx hy ru rv
theorem isT {a:Addr}{its:Array δ}{h:Heap}(p:lK h a its):h.IsTuple a its:=p
theorem units_in1 (A:ϗ):A.in1.units=A.units+1:=rfl
noncomputable def scD:D->Option V
 | .non=>some .non
 | .bl b=>some (.bl b)
 | .int i=>some (.int i)
 | .str x=>some (.str x)
 | _=>none
theorem yD {d:D}{w x:V}(h:scD d=some w) (hh:Has Γ g d x):x=w:=by
 cases d <;> first | cases h | skip
 all_goals exact hh
theorem vI {d:D}{w:V}(h:scD d=some w):flatV w=true:=by
 cases d <;> first | cases h | skip
 all_goals rfl
theorem za9 {a b:D}{x y:V}(h:scD a=some x) (h':scD b=some y):eqV x y=eqP a b:=by
 cases a <;> first | cases h | skip
 all_goals (cases b <;> first | cases h' | skip)
 all_goals rfl
theorem zM {n:Nat}{d:D}(h:okP n d=true):(∃ w,scD d=some w)\/(∃ m ds,n=m+1/\d=.tup ds/\okPs m ds=true)\/(∃ m ds,n=m+1/\d=.lst ds/\okPs m ds=true):=by
 cases d with
 | non=>exact .inl ⟨_,rfl⟩
 | bl=>exact .inl ⟨_,rfl⟩
 | int=>exact .inl ⟨_,rfl⟩
 | str=>exact .inl ⟨_,rfl⟩
 | tup ds=>cases n with
  | zero=>exact nobE h
  | succ m=>exact .inr (.inl ⟨m,ds,rfl,rfl,h⟩)
 | lst ds=>cases n with
  | zero=>exact nobE h
  | succ m=>exact .inr (.inr ⟨m,ds,rfl,rfl,h⟩)
 | _=>cases n <;> exact nobE h
section
variable {A:ϗ}{l:Addr}{its:Array δ}{w:V}{v:δ}{d:D}
theorem Qm (p:s.heap.IsTuple l its) (hu:A.units < ϲ) (h:scD d=some w) (r:RelV w v):EqAt A s (.ref l) v false:=by
 cases d with
 | non=>cases h;cases (show v=Ε from r);exact EqAt.tuple_none p hu
 | bl b=>cases h;cases (show v=Ω b from r);exact EqAt.tuple_bool b p hu
 | int i=>cases h;obtain ⟨t,rfl⟩:=(show ∃ t,v=ϕ i t from r);exact EqAt.tuple_int i t p hu
 | str i=>cases h;obtain ⟨t,rfl⟩:=(show ∃ t,v=bC i t from r);exact EqAt.tuple_str i t p hu
 | _=>cases h
theorem Qn (p:s.heap.IsTuple l its) (hu:A.units < ϲ) (h:scD d=some w) (r:RelV w v):EqAt A s v (.ref l) false:=by
 cases d with
 | non=>cases h;cases (show v=Ε from r);exact EqAt.none_tuple p hu
 | bl b=>cases h;cases (show v=Ω b from r);exact EqAt.bool_tuple b p hu
 | int i=>cases h;obtain ⟨t,rfl⟩:=(show ∃ t,v=ϕ i t from r);exact EqAt.int_tuple i t p hu
 | str i=>cases h;obtain ⟨t,rfl⟩:=(show ∃ t,v=bC i t from r);exact EqAt.str_tuple i t p hu
 | _=>cases h
theorem Qp (p:s.heap.IsList l its) (hu:A.units < ϲ) (h:scD d=some w) (r:RelV w v):EqAt A s (.ref l) v false:=by
 cases d with
 | non=>cases h;cases (show v=Ε from r);exact EqAt.list_none p hu
 | bl b=>cases h;cases (show v=Ω b from r);exact EqAt.list_bool b p hu
 | int i=>cases h;obtain ⟨t,rfl⟩:=(show ∃ t,v=ϕ i t from r);exact EqAt.list_int i t p hu
 | str i=>cases h;obtain ⟨t,rfl⟩:=(show ∃ t,v=bC i t from r);exact EqAt.list_str i t p hu
 | _=>cases h
theorem Qo (p:s.heap.IsList l its) (hu:A.units < ϲ) (h:scD d=some w) (r:RelV w v):EqAt A s v (.ref l) false:=by
 cases d with
 | non=>cases h;cases (show v=Ε from r);exact EqAt.none_list p hu
 | bl b=>cases h;cases (show v=Ω b from r);exact EqAt.bool_list b p hu
 | int i=>cases h;obtain ⟨t,rfl⟩:=(show ∃ t,v=ϕ i t from r);exact EqAt.int_list i t p hu
 | str i=>cases h;obtain ⟨t,rfl⟩:=(show ∃ t,v=bC i t from r);exact EqAt.str_list i t p hu
 | _=>cases h
end
theorem zN {d:D}{w:V}{bs:List D}(h:scD d=some w):eqP d (.tup bs)=false/\eqP (.tup bs) d=false/\eqP d (.lst bs)=false/\eqP (.lst bs) d=false:=by
 cases d <;> first | cases h | skip
 all_goals exact ⟨rfl,rfl,rfl,rfl⟩
theorem zbf {as bs:List D}{xs ys:List V}{us ws:List δ}(r1:Vals xs us) (r2:Vals ys ws) (h3:Hass Γ g as xs) (f3:Hass Γ g bs ys):
  ((Η (min us.toArray.size ws.toArray.size)).all (fun j=>eqP (as.getD j .non) (bs.getD j .non))&&us.toArray.size==ws.toArray.size)=eqPs as bs:=by
 have l1:=r1.length
 have l2:=r2.length
 have l3:=h3.len
 have l4:=f3.len
 simp only [ο]
 by_cases hl:as.length=bs.length
 ·rw [vW as bs hl]
  have m1:us.length=as.length:=by lia
  have m2:ws.length=as.length:=by lia
  rw [m1,m2]
  simp
 ·rw [vV as bs hl]
  have:¬ us.length=ws.length:=by lia
  simp [this]
theorem zbg {as bs:List D}{xs ys:List V}{us ws:List δ}{a b:Addr}{n:Nat}{A:ϗ}(ka:okPs n as=true) (kb:okPs n bs=true) (p1:PlainL s.heap a us.toArray) (p2:PlainL s.heap b ws.toArray) (r1:Vals xs us) (r2:Vals ys ws)
  (h3:Hass Γ g as xs) (f3:Hass Γ g bs ys) (hu:A.units < ϲ) (ih:∀ (a b:D) (x y:V) (u v:δ),a∈as->okP n a=true->okP n b=true->Has Γ g a x->Has Γ g b y->RelV x u->RelV y v->EqAt A.in1 s u v (eqP a b)):
  RcAt A s (.ref a) (.ref b) (eqPs as bs):=by
 have l1:=r1.length
 have l2:=r2.length
 have l3:=h3.len
 have l4:=f3.len
 by_cases hl:as.length=bs.length
 ·have k:=RcAt.lists p1.isList p2.isList (by simp only [ο];lia) hu (vQ (A:=A.in1) ka kb h3 f3 r1 r2 ih)
  have m1:us.toArray.size=as.length:=by simp only [ο];lia
  rw [m1,<- vW as bs hl] at k
  exact k
 ·rw [vV as bs hl]
  exact RcAt.lists_lengths (A:=A) p1.isList p2.isList (by simp only [ο,bne_iff_ne];lia) hu
theorem vX (I:Inv X pJ σ H s) (hK:X.K=Γ.K) (sr:Same g.R H):∀ (n:Nat) (a b:D) (x y:V) (u v:δ) (A:ϗ),A.units+n+1 < ϲ->okP n a=true->okP n b=true->Has Γ g a x->Has Γ g b y->RelV x u->RelV y v->EqAt A s u v (eqP a b):=by
 intro n
 induction n with
 | zero=>
  intro a b x y u v A hu ka kb ha hb ru rv
  rcases zM ka with ⟨w,hw⟩ | ⟨m,ds,e,_⟩ | ⟨m,ds,e,_⟩
  ·rcases zM kb with ⟨w',hw'⟩ | ⟨m,ds,e,_⟩ | ⟨m,ds,e,_⟩
   ·rw [yD hw ha] at ru
    rw [yD hw' hb] at rv
    rw [<- za9 hw hw']
    exact zbK ru rv (vI hw) (vI hw')
   ·cases e
   ·cases e
  ·cases e
  ·cases e
 | succ n ih=>
  intro a b x y u v A hu ka kb ha hb ru rv
  have hu':A.units < ϲ:=by lia
  have hin:A.in1.units+n+1 < ϲ:=by rw [units_in1];lia
  rcases zM ka with ⟨w,hw⟩ | ⟨m,as,e,e1,kas⟩ | ⟨m,as,e,e1,kas⟩
  ·rcases zM kb with ⟨w',hw'⟩ | ⟨m,bs,e,e2,kbs⟩ | ⟨m,bs,e,e2,kbs⟩
   ·rw [yD hw ha] at ru
    rw [yD hw' hb] at rv
    rw [<- za9 hw hw']
    exact zbK ru rv (vI hw) (vI hw')
   ·subst e2
    rw [yD hw ha] at ru
    obtain ⟨b,ys,rfl,f2,f3⟩:=hb
    cases rv
    obtain ⟨ws,r2,p2,_⟩:=I.tuple (SqT.of (sr _ _ f2))
    rw [(zN hw).1]
    exact Qn (isT p2) hu' hw ru
   ·subst e2
    rw [yD hw ha] at ru
    obtain ⟨b,ys,rfl,f2,f3⟩:=hb
    cases rv
    obtain ⟨ws,r2,p2,_⟩:=I.list (SqL.of (sr _ _ f2))
    rw [(zN hw).2.2.1]
    exact Qo p2.isList hu' hw ru
  ·subst e1
   cases e
   obtain ⟨a,xs,rfl,h2,h3⟩:=ha
   cases ru
   obtain ⟨us,r1,p1,_⟩:=I.tuple (SqT.of (sr _ _ h2))
   rcases zM kb with ⟨w',hw'⟩ | ⟨m,bs,e,e2,kbs⟩ | ⟨m,bs,e,e2,kbs⟩
   ·rw [yD hw' hb] at rv
    rw [(zN hw').2.1]
    exact Qm (isT p1) hu' hw' rv
   ·subst e2
    cases e
    obtain ⟨b,ys,rfl,f2,f3⟩:=hb
    cases rv
    by_cases e:a=b
    ·subst e
     have:=qK I hK sr (n+1) (.tup as) (.tup bs) (.ref a) ka kb ⟨a,xs,rfl,h2,h3⟩ ⟨a,ys,rfl,f2,f3⟩
     rw [this]
     exact EqAt.same _
    ·obtain ⟨ws,r2,p2,_⟩:=I.tuple (SqT.of (sr _ _ f2))
     have k:=RcAt.tuples (isT p1) (isT p2) hu' (vQ (A:=A.in1) kas kbs h3 f3 r1 r2 fun a b x y u v _ ka kb ha hb ru rv=>ih a b x y u v A.in1 hin ka kb ha hb ru rv)
     rw [zbf r1 r2 h3 f3] at k
     exact EqAt.of_refs e k
   ·subst e2
    cases e
    obtain ⟨b,ys,rfl,f2,f3⟩:=hb
    cases rv
    obtain ⟨ws,r2,p2,_⟩:=I.list (SqL.of (sr _ _ f2))
    exact EqAt.tuple_list (isT p1) p2.isList hu'
  ·subst e1
   cases e
   obtain ⟨a,xs,rfl,h2,h3⟩:=ha
   cases ru
   obtain ⟨us,r1,p1,_⟩:=I.list (SqL.of (sr _ _ h2))
   rcases zM kb with ⟨w',hw'⟩ | ⟨m,bs,e,e2,kbs⟩ | ⟨m,bs,e,e2,kbs⟩
   ·rw [yD hw' hb] at rv
    rw [(zN hw').2.2.2]
    exact Qp p1.isList hu' hw' rv
   ·subst e2
    cases e
    obtain ⟨b,ys,rfl,f2,f3⟩:=hb
    cases rv
    obtain ⟨ws,r2,p2,_⟩:=I.tuple (SqT.of (sr _ _ f2))
    exact EqAt.list_tuple p1.isList (isT p2) hu'
   ·subst e2
    cases e
    obtain ⟨b,ys,rfl,f2,f3⟩:=hb
    cases rv
    by_cases e:a=b
    ·subst e
     have:=qK I hK sr (n+1) (.lst as) (.lst bs) (.ref a) ka kb ⟨a,xs,rfl,h2,h3⟩ ⟨a,ys,rfl,f2,f3⟩
     rw [this]
     exact EqAt.same _
    ·obtain ⟨ws,r2,p2,_⟩:=I.list (SqL.of (sr _ _ f2))
     exact EqAt.of_refs e (zbg kas kbs p1 p2 r1 r2 h3 f3 hu' fun a b x y u v _ ka kb ha hb ru rv=>ih a b x y u v A.in1 hin ka kb ha hb ru rv)
end
section
variable {X:Cx}{pJ:List (Addr×Obj)}{σ:L2.St}{H:Hp}{s:μ}{Γ:Gm}{g:G}
section
variable {A:ϗ}{l:Addr}{its:Array δ}{w:V}{v:δ}{d:D}
theorem Zn (p:s.heap.IsTuple l its) (hu:A.units < ϲ) (h:scD d=some w) (r:RelV w v):RcAt A s (.ref l) v false/\RcAt A s v (.ref l) false/\ϥ A s (.ref l) v true/\ϥ A s v (.ref l) true:=by
 cases d with
 | non=>cases h;cases (show v=Ε from r);exact ⟨RcAt.tuple_none p hu,RcAt.none_tuple p hu,ϥ.tuple_none p hu,ϥ.none_tuple p hu⟩
 | bl b=>cases h;cases (show v=Ω b from r);exact ⟨RcAt.tuple_bool b p hu,RcAt.bool_tuple b p hu,ϥ.tuple_bool b p hu,ϥ.bool_tuple b p hu⟩
 | int i=>cases h;obtain ⟨t,rfl⟩:=(show ∃ t,v=ϕ i t from r);exact ⟨RcAt.tuple_int i t p hu,RcAt.int_tuple i t p hu,ϥ.tuple_int i t p hu,ϥ.int_tuple i t p hu⟩
 | str i=>cases h;obtain ⟨t,rfl⟩:=(show ∃ t,v=bC i t from r);exact ⟨RcAt.tuple_str i t p hu,RcAt.str_tuple i t p hu,ϥ.tuple_str i t p hu,ϥ.str_tuple i t p hu⟩
 | _=>cases h
theorem Zo (p:s.heap.IsList l its) (hu:A.units < ϲ) (h:scD d=some w) (r:RelV w v):RcAt A s (.ref l) v false/\RcAt A s v (.ref l) false/\ϥ A s (.ref l) v true/\ϥ A s v (.ref l) true:=by
 cases d with
 | non=>cases h;cases (show v=Ε from r);exact ⟨RcAt.list_none p hu,RcAt.none_list p hu,ϥ.list_none p hu,ϥ.none_list p hu⟩
 | bl b=>cases h;cases (show v=Ω b from r);exact ⟨RcAt.list_bool b p hu,RcAt.bool_list b p hu,ϥ.list_bool b p hu,ϥ.bool_list b p hu⟩
 | int i=>cases h;obtain ⟨t,rfl⟩:=(show ∃ t,v=ϕ i t from r);exact ⟨RcAt.list_int i t p hu,RcAt.int_list i t p hu,ϥ.list_int i t p hu,ϥ.int_list i t p hu⟩
 | str i=>cases h;obtain ⟨t,rfl⟩:=(show ∃ t,v=bC i t from r);exact ⟨RcAt.list_str i t p hu,RcAt.str_list i t p hu,ϥ.list_str i t p hu,ϥ.str_list i t p hu⟩
 | _=>cases h
theorem Q0 {a b:D}{x y:V}{u v:δ}(h:scD a=some x) (h':scD b=some y) (r:RelV x u) (r':RelV y v):RcAt A s u v (eqP a b)/\ϥ A s u v (!eqP a b):=by
 cases a with
 | non=>
  cases h;cases (show u=Ε from r)
  cases b with
  | non=>cases h';cases (show v=Ε from r');exact ⟨RcAt.none_none,ϥ.none_none⟩
  | bl b=>cases h';cases (show v=Ω b from r');exact ⟨RcAt.none_bool _,ϥ.none_bool _⟩
  | int b=>cases h';obtain ⟨t,rfl⟩:=(show ∃ t,v=ϕ b t from r');exact ⟨RcAt.none_int _ _,ϥ.none_int _ _⟩
  | str b=>cases h';obtain ⟨t,rfl⟩:=(show ∃ t,v=bC b t from r');exact ⟨RcAt.none_str _ _,ϥ.none_str _ _⟩
  | _=>cases h'
 | bl a=>
  cases h;cases (show u=Ω a from r)
  cases b with
  | non=>cases h';cases (show v=Ε from r');exact ⟨RcAt.bool_none _,ϥ.bool_none _⟩
  | bl b=>cases h';cases (show v=Ω b from r');exact ⟨RcAt.bool_bool _ _,ϥ.bool_bool _ _⟩
  | int b=>cases h';obtain ⟨t,rfl⟩:=(show ∃ t,v=ϕ b t from r');exact ⟨RcAt.bool_int _ _ _,ϥ.bool_int _ _ _⟩
  | str b=>cases h';obtain ⟨t,rfl⟩:=(show ∃ t,v=bC b t from r');exact ⟨RcAt.bool_str _ _ _,ϥ.bool_str _ _ _⟩
  | _=>cases h'
 | int a=>
  cases h;obtain ⟨t',rfl⟩:=(show ∃ t,u=ϕ a t from r)
  cases b with
  | non=>cases h';cases (show v=Ε from r');exact ⟨RcAt.int_none _ _,ϥ.int_none _ _⟩
  | bl b=>cases h';cases (show v=Ω b from r');exact ⟨RcAt.int_bool _ _ _,ϥ.int_bool _ _ _⟩
  | int b=>cases h';obtain ⟨t,rfl⟩:=(show ∃ t,v=ϕ b t from r');exact ⟨RcAt.int_int _ _ _ _,ϥ.int_int _ _ _ _⟩
  | str b=>cases h';obtain ⟨t,rfl⟩:=(show ∃ t,v=bC b t from r');exact ⟨RcAt.int_str _ _ _ _,ϥ.int_str _ _ _ _⟩
  | _=>cases h'
 | str a=>
  cases h;obtain ⟨t',rfl⟩:=(show ∃ t,u=bC a t from r)
  cases b with
  | non=>cases h';cases (show v=Ε from r');exact ⟨RcAt.str_none _ _,ϥ.str_none _ _⟩
  | bl b=>cases h';cases (show v=Ω b from r');exact ⟨RcAt.str_bool _ _ _,ϥ.str_bool _ _ _⟩
  | int b=>cases h';obtain ⟨t,rfl⟩:=(show ∃ t,v=ϕ b t from r');exact ⟨RcAt.str_int _ _ _ _,ϥ.str_int _ _ _ _⟩
  | str b=>cases h';obtain ⟨t,rfl⟩:=(show ∃ t,v=bC b t from r');exact ⟨RcAt.str_str _ _ _ _,ϥ.str_str _ _ _ _⟩
  | _=>cases h'
 | _=>cases h
end
theorem wJ {d:D}{w x:V}(h:scD d=some w) (hh:Rdb Γ H g d x):x=w:=by
 cases d <;> first | cases h | skip
 all_goals exact hh
theorem rc_D (I:Inv X pJ σ H s) (hK:X.K=Γ.K) (sr:Same g.R H) (n:Nat) (a b:D) (x y:V) (u v:δ) (A:ϗ) (hu:A.units+n+1 < ϲ) (ka:okP n a=true) (kb:okP n b=true) (ha:Rdb Γ H g a x) (hb:Rdb Γ H g b y) (ru:RelV x u) (rv:RelV y v):
  RcAt A s u v (eqP a b)/\ϥ A s u v (!eqP a b):=by
 have hu':A.units < ϲ:=by lia
 rcases zM ka with ⟨w,hw⟩ | ⟨m,as,e,e1,kas⟩ | ⟨m,as,e,e1,kas⟩
 ·rcases zM kb with ⟨w',hw'⟩ | ⟨m,bs,e,e2,kbs⟩ | ⟨m,bs,e,e2,kbs⟩
  ·rw [wJ hw ha] at ru
   rw [wJ hw' hb] at rv
   exact Q0 hw hw' ru rv
  ·subst e2
   rw [wJ hw ha] at ru
   obtain ⟨b,ys,rfl,f2,f3⟩:=hb
   cases rv
   obtain ⟨ws,r2,p2,_⟩:=I.tuple (SqT.of (sr _ _ f2))
   rw [(zN hw).1]
   have k:=Zn (A:=A) (isT p2) hu' hw ru
   exact ⟨k.2.1,k.2.2.2⟩
  ·subst e2
   rw [wJ hw ha] at ru
   obtain ⟨b,ys,rfl,f2,f3⟩:=hb
   cases rv
   obtain ⟨ws,r2,p2,_⟩:=I.list (SqL.of f2)
   rw [(zN hw).2.2.1]
   have k:=Zo (A:=A) p2.isList hu' hw ru
   exact ⟨k.2.1,k.2.2.2⟩
 ·subst e1
  cases e
  have hin:A.in1.units+m+1 < ϲ:=by rw [units_in1];lia
  obtain ⟨a,xs,rfl,h2,h3⟩:=ha
  cases ru
  obtain ⟨us,r1,p1,_⟩:=I.tuple (SqT.of (sr _ _ h2))
  rcases zM kb with ⟨w',hw'⟩ | ⟨m',bs,e,e2,kbs⟩ | ⟨m',bs,e,e2,kbs⟩
  ·rw [wJ hw' hb] at rv
   rw [(zN hw').2.1]
   have k:=Zn (A:=A) (isT p1) hu' hw' rv
   exact ⟨k.1,k.2.2.1⟩
  ·subst e2
   cases e
   obtain ⟨b,ys,rfl,f2,f3⟩:=hb
   cases rv
   obtain ⟨ws,r2,p2,_⟩:=I.tuple (SqT.of (sr _ _ f2))
   have it:=vQ (A:=A.in1) kas kbs h3 f3 r1 r2 fun a b x y u v _ ka kb ha hb ru rv=>vX I hK sr m a b x y u v A.in1 hin ka kb ha hb ru rv
   have k1:=RcAt.tuples (isT p1) (isT p2) hu' it
   have k2:=ϥ.tuples (isT p1) (isT p2) hu' it
   rw [zbf r1 r2 h3 f3] at k1 k2
   exact ⟨k1,k2⟩
  ·subst e2
   cases e
   obtain ⟨b,ys,rfl,f2,f3⟩:=hb
   cases rv
   obtain ⟨ws,r2,p2,_⟩:=I.list (SqL.of f2)
   exact ⟨RcAt.tuple_list (isT p1) p2.isList hu',ϥ.tuple_list (isT p1) p2.isList hu'⟩
 ·subst e1
  cases e
  have hin:A.in1.units+m+1 < ϲ:=by rw [units_in1];lia
  obtain ⟨a,xs,rfl,h2,h3⟩:=ha
  cases ru
  obtain ⟨us,r1,p1,_⟩:=I.list (SqL.of h2)
  rcases zM kb with ⟨w',hw'⟩ | ⟨m',bs,e,e2,kbs⟩ | ⟨m',bs,e,e2,kbs⟩
  ·rw [wJ hw' hb] at rv
   rw [(zN hw').2.2.2]
   have k:=Zo (A:=A) p1.isList hu' hw' rv
   exact ⟨k.1,k.2.2.1⟩
  ·subst e2
   cases e
   obtain ⟨b,ys,rfl,f2,f3⟩:=hb
   cases rv
   obtain ⟨ws,r2,p2,_⟩:=I.tuple (SqT.of (sr _ _ f2))
   exact ⟨RcAt.list_tuple p1.isList (isT p2) hu',ϥ.list_tuple p1.isList (isT p2) hu'⟩
  ·subst e2
   cases e
   obtain ⟨b,ys,rfl,f2,f3⟩:=hb
   cases rv
   obtain ⟨ws,r2,p2,_⟩:=I.list (SqL.of f2)
   have ih:∀ (a b:D) (x y:V) (u v:δ),a∈as->okP m a=true->okP m b=true->Has Γ g a x->Has Γ g b y->RelV x u->RelV y v->EqAt A.in1 s u v (eqP a b):=fun a b x y u v _ ka kb ha hb ru rv=>vX I hK sr m a b x y u v A.in1 hin ka kb ha hb ru rv
   refine ⟨zbg kas kbs p1 p2 r1 r2 h3 f3 hu' ih,?_⟩
   have l1:=r1.length
   have l2:=r2.length
   have l3:=h3.len
   have l4:=f3.len
   show ϥ A s _ _ (!eqPs as bs)
   by_cases hl:as.length=bs.length
   ·have k:=ϥ.lists p1.isList p2.isList (by simp only [ο];lia) hu' (vQ (A:=A.in1) kas kbs h3 f3 r1 r2 ih)
    have m1:us.toArray.size=as.length:=by simp only [ο];lia
    rw [m1,<- vW as bs hl] at k
    exact k
   ·rw [vV as bs hl]
    exact ϥ.lists_lengths (A:=A) p1.isList p2.isList (by simp only [ο,bne_iff_ne];lia) hu'
end
def rDat (Γ:Gm) (a b:D) (z:D):R2:=fun x y H Q=>∃ g,Same g.R H/\Rdb Γ H g a x/\Rdb Γ H g b y/\∀ v,(∀ g,Has Γ g z v)->Q v H
theorem Wl {Γ:Gm}{a b:D}{c:Bool}:RDo Γ (rDat Γ a b (.bl c)) a b (.bl c) false:=fun S H g x y Q w hx hy q=>⟨g,w.rh,hx,hy,fun v hv=>zg w q (hv g)⟩
section
variable {X:Cx}{Γ:Gm}
theorem ze8 (hK:X.K=Γ.K) (hu:X.A.units+61 < ϲ) {a b:D}(ka:okP 60 a=true) (kb:okP 60 b=true):OpR X (ϊ .Eq) (rDat Γ a b (.bl (eqP a b))):=by
 intro pJ s σ H x y v u Q I rx ry ⟨g,sr,ha,hb,q⟩
 exact (rc_D I hK sr 60 a b x y v u X.A hu ka kb ha hb rx ry).1 X.prog X.w X.xe _ ⟨.bl _,H,I,rfl,q _ fun _=>rfl⟩
theorem ze2 (hK:X.K=Γ.K) (hu:X.A.units+61 < ϲ) {a b:D}(ka:okP 60 a=true) (kb:okP 60 b=true):OpR X (ϊ .NotEq) (rDat Γ a b (.bl (!eqP a b))):=by
 intro pJ s σ H x y v u Q I rx ry ⟨g,sr,ha,hb,q⟩
 exact (rc_D I hK sr 60 a b x y v u X.A hu ka kb ha hb rx ry).2 X.prog X.w X.xe _ ⟨.bl _,H,I,rfl,q _ fun _=>rfl⟩
end
section
variable {Γ:Gm}{H:Hp}{g:G}
theorem jH {d:D}{x:V}(h:Rdb Γ H g d x):decide (x=.non)=isNone d:=by
 cases d with
 | non=>cases (show x=.non from h);rfl
 | bl=>cases (show x=.bl _ from h);rfl
 | int=>cases (show x=.int _ from h);rfl
 | str=>cases (show x=.str _ from h);rfl
 | tup=>obtain ⟨_,_,rfl,_⟩:=h;rfl
 | lst=>obtain ⟨_,_,rfl,_⟩:=h;rfl
 | dK=>obtain ⟨_,_,rfl,_⟩:=h;rfl
 | dT=>obtain ⟨_,_,rfl,_⟩:=h;rfl
 | ref=>obtain ⟨_,rfl⟩:=h;rfl
 | fn=>obtain ⟨_,_,rfl⟩:=h;rfl
 | scr=>obtain ⟨_,rfl,_⟩:=h;rfl
 | ktp=>obtain ⟨_,_,rfl,_⟩:=h;rfl
 | kdc=>obtain ⟨_,rfl,_⟩:=h;rfl
 | dF=>obtain ⟨_,_,_,rfl,_⟩:=h;rfl
theorem vP {κ:Type} [DecidableEq κ] (k:κ):∀ {ks:List κ}{ds:List D}{vs:List V},ks.length=ds.length->Hass Γ g ds vs ->
  (∀ d,lookK ks ds k=some d->∃ v,valV (ks.zip vs) k=some v/\Has Γ g d v)/\(lookK ks ds k=none->valV (ks.zip vs) k=none)
 | [],[],vs,_,h=>by
  refine ⟨fun d e=>?_,fun _=>?_⟩
  ·simp [lookK,findK] at e
  ·rfl
 | k'::ks,d'::ds,vs,hl,⟨v,r,e1,hv,hr⟩=>by
  subst e1
  have ih:=vP k (ks:=ks) (ds:=ds) (vs:=r) (by simpa using hl) hr
  show (∀ d,lookK (k'::ks) (d'::ds) k=some d->∃ v',valV ((k',v)::ks.zip r) k=some v'/\_)/\(_->valV ((k',v)::ks.zip r) k=none)
  by_cases e:k'=k
  ·have e2:lookK (k'::ks) (d'::ds) k=some d':=by simp [lookK,findK,e]
   rw [e2,xH (p:=(k',v)) e]
   exact ⟨fun d h=>⟨v,rfl,by cases h;exact hv⟩,fun h=>by cases h⟩
  ·have e2:lookK (k'::ks) (d'::ds) k=lookK ks ds k:=by
    simp only [lookK,findK,if_neg e]
    cases findK ks k <;> rfl
   rw [e2,xJ (p:=(k',v)) e]
   exact ih
 | [],_::_,_,hl,_=>by simp at hl
 | _::_,[],_,hl,_=>by simp at hl
theorem zdi {d:D}{k:Key}{x:V}(h:keyD d=some k) (hh:Rdb Γ H g d x):x=kV k:=by
 cases d <;> first | cases h | skip
 all_goals exact hh
theorem W0 {d:D}{k:Key}{x:V}(h:keyD d=some k) (hh:Has Γ g d x):x=kV k:=by
 cases d <;> first | cases h | skip
 all_goals exact hh
set_option tactic.hygienic true in
theorem wj:∀ {l:List D}{ks:List Key}{xs:List V},keysD l=some ks->Hass Γ g l xs->xs=ks.map kV
 | [],ks,xs,h,hh=>by
  cases (show some []=some ks from h)
  exact hh
 | d::l,ks,xs,h,⟨v,r,e,hv,hr⟩=>by
  subst e
  simp only [keysD] at h
  split at h
  ·rename_i k ks' e1 e2
   cases h
   rw [W0 e1 hv,wj e2 hr]
   rfl
  ·cases h
theorem Vg {S:Store}{c k:D}{o:Option D}{x y:V}(w:WOk Γ H g S) (h:dgetD c k=some o) (hc:Rdb Γ H g c x) (hk:Rdb Γ H g k y):
  ∃ a v,x=.ref a/\DGet H a y v/\IsD H a/\(∀ d,o=some d->∃ u,v=some u/\Has Γ g d u)/\(o=none->v=none):=by
 cases c with
 | dK ks ds=>
  obtain ⟨a,vs,rfl,h1,h2,h3⟩:=hc
  simp only [dgetD,Α] at h
  obtain ⟨k',e1,e2⟩:=h
  obtain ⟨z1,z2⟩:=vP k' h2 h3
  refine ⟨a,valV (ks.zip vs) k',rfl,.inl ⟨_,k',.inl h1,zdi e1 hk,rfl⟩,.inl ⟨_,.inl h1⟩,fun d e=>?_,fun e=>?_⟩
  ·exact z1 d (e2.trans e)
  ·exact z2 (e2.trans e)
 | dT ks ds=>
  obtain ⟨a,vs,rfl,h1,h2,h3⟩:=hc
  cases k with
  | tup t=>
   obtain ⟨b,ys,rfl,f1,f2⟩:=hk
   simp only [dgetD,Α] at h
   obtain ⟨k',e1,e2⟩:=h
   obtain ⟨z1,z2⟩:=vP k' h2 h3
   have ey:=wj e1 f2
   refine ⟨a,valV (ks.zip vs) k',rfl,.inr ⟨_,k',b,.inl h1,rfl,by rw [<- ey];exact w.rh _ _ f1,rfl⟩,.inr ⟨_,.inl h1⟩,fun d e=>?_,fun e=>?_⟩
   ·exact z1 d (e2.trans e)
   ·exact z2 (e2.trans e)
  | _=>cases h
 | dF ks ds=>
  obtain ⟨a,vs,o,rfl,h1,h2,h3⟩:=hc
  cases k with
  | tup t=>
   obtain ⟨b,ys,rfl,f1,f2⟩:=hk
   simp only [dgetD,Α] at h
   obtain ⟨k',e1,e2⟩:=h
   obtain ⟨z1,z2⟩:=vP k' h2 h3
   have ey:=wj e1 f2
   refine ⟨a,valV (ks.zip vs) k',rfl,.inr ⟨_,k',b,.inr ⟨o,h1⟩,rfl,by rw [<- ey];exact w.rh _ _ f1,rfl⟩,.inr ⟨_,.inr ⟨o,h1⟩⟩,fun d e=>?_,fun e=>?_⟩
   ·exact z1 d (e2.trans e)
   ·exact z2 (e2.trans e)
  | _=>cases h
 | _=>cases h
end
section
variable {X:Cx}{Γ:Gm}
def rInD (neg:Bool):R2:=fun x y H Q=>∃ a o,y=.ref a/\DGet H a x o/\Q (.bl (if neg then !o.isSome else o.isSome)) H
theorem ze7 (hu:X.A.units+1 < ϲ):OpR X (ϊ .In) (rInD false):=by
 intro pJ s σ H x y v u Q I rx ry ⟨a,o,e,h,q⟩
 subst e
 cases ry
 exact d_in hu I h rx fun s' I'=>⟨.bl o.isSome,H,I',rfl,q⟩
theorem JB (hu:X.A.units+1 < ϲ):OpR X (ϊ .NotIn) (rInD true):=by
 intro pJ s σ H x y v u Q I rx ry ⟨a,o,e,h,q⟩
 subst e
 cases ry
 exact zdD hu I h rx fun s' I'=>⟨.bl (!o.isSome),H,I',rfl,q⟩
theorem sq_of {H:Hp}{g:G}{S:Store}{d:D}{l:List D}{x:V}(hK:X.K=Γ.K) (w:WOk Γ H g S) (h:seqD d=some l) (hd:Rdb Γ H g d x):∃ a xs,x=.ref a/\(SqL X.K H a xs\/SqT X.K H a xs)/\Hass Γ g l xs:=by
 cases d with
 | tup ds=>cases h;obtain ⟨a,vs,e,h1,h2⟩:=hd;exact ⟨a,vs,e,.inr (SqT.of (w.rh _ _ h1)),h2⟩
 | lst ds=>cases h;obtain ⟨a,vs,e,h1,h2⟩:=hd;exact ⟨a,vs,e,.inl (SqL.of h1),h2⟩
 | scr ns=>cases h;obtain ⟨a,e,h1⟩:=hd;exact ⟨a,_,e,.inl (by rw [hK];exact h1),Hass.ints⟩
 | ktp ds=>cases h;obtain ⟨a,vs,e,h1,h2⟩:=hd;exact ⟨a,vs,e,.inr (by rw [hK];exact .inr h1),h2⟩
 | _=>cases h
theorem zfN {H:Hp}{g:G}{a:D}{x:V}(h:isSc a=true) (hx:Rdb Γ H g a x):Has Γ g a x:=by
 cases a with
 | non | bl _ | int _ | str _ | tup _=>exact hx
 | _=>cases (show false=true from h)
theorem sc_ok {a:D}(h:isSc a=true):okP 59 a=true:=by
 cases a with
 | lst _=>cases (show false=true from h)
 | _=>exact h
noncomputable def memE (Γ:Gm) (g:G) (l:List D) (a:D) (w:δ):Bool:=@decide (∃ d∈l,∃ y,Has Γ g d y/\RelV y w/\eqP d a=true) (gf _)
theorem vN {g:G}{l:List D}{a:D}{w:δ}:memE Γ g l a w=true ↔ ∃ d∈l,∃ y,Has Γ g d y/\RelV y w/\eqP d a=true:=⟨@of_decide_eq_true _ (gf _),@decide_eq_true _ (gf _)⟩
theorem zbu {g:G}:∀ {l:List D}{xs:List V}{us:List δ},Hass Γ g l xs->Vals xs us->∀ d∈l,∃ y w,w∈us/\Has Γ g d y/\RelV y w
 | [],_,_,_,_,d,hd=>by cases hd
 | c::l,_,_,⟨v,r,rfl,hc,hr⟩,.cons q t,d,hd=>by
  rcases Κ.mp hd with rfl | hd
  ·exact ⟨v,_,υ,hc,q⟩
  ·obtain ⟨y,w,h1,h2⟩:=zbu hr t d hd
   exact ⟨y,w,ι _ h1,h2⟩
theorem J0 {g:G}:∀ {l:List D}{xs:List V}{us:List δ},Hass Γ g l xs->Vals xs us->∀ w∈us,∃ d∈l,∃ y,Has Γ g d y/\RelV y w
 | [],_,_,h,t,w,hw=>by
  cases (show _=[] from h)
  cases t
  cases hw
 | c::l,_,_,⟨v,r,rfl,hc,hr⟩,.cons q t,w,hw=>by
  rcases Κ.mp hw with rfl | hw
  ·exact ⟨c,υ,v,hc,q⟩
  ·obtain ⟨d,h1,h2⟩:=J0 hr t w hw
   exact ⟨d,ι _ h1,h2⟩
theorem vO {g:G}{l:List D}{a:D}{xs:List V}{us:List δ}(h:Hass Γ g l xs) (t:Vals xs us):us.toArray.any (memE Γ g l a)=l.any fun d=>eqP d a:=by
 rw [show us.toArray.any (memE Γ g l a)=us.any (memE Γ g l a) by simp,mK,bI,bI]
 constructor
 ·rintro ⟨w,_,e⟩
  obtain ⟨d,hd,_,_,_,q⟩:=vN.mp e
  exact ⟨d,hd,q⟩
 ·rintro ⟨d,hd,q⟩
  obtain ⟨y,w,h1,h2,h3⟩:=zbu h t d hd
  exact ⟨w,h1,vN.mpr ⟨d,hd,y,h2,h3,q⟩⟩
theorem qm {pJ:List (Addr×Obj)}{σ:L2.St}{H:Hp}{s:μ}{g:G}{l:List D}{a:D}{x:V}{v:δ}{xs:List V}{us:List δ}(I:Inv X pJ σ H s) (hK:X.K=Γ.K) (sr:Same g.R H) (hu:X.A.units+61 < ϲ) (ka:isSc a=true) (kl:l.all isSc=true) (hx:Rdb Γ H g a x) (rx:RelV x v) (h:Hass Γ g l xs) (t:Vals xs us) (w:δ) (hw:w∈us.toArray):iQ X.A.in1 s w v (memE Γ g l a w):=by
 have go:∀ d∈l,∀ y,Has Γ g d y->RelV y w->iQ X.A.in1 s w v (eqP d a):=fun d hd y h1 h2=>vX I hK sr 59 d a y x w v _ (by rw [units_in1];omega) (sc_ok (aO.mp kl d hd)) (sc_ok ka) h1 (zfN ka hx) h2 rx
 cases e:memE Γ g l a w with
 | true=>
  obtain ⟨d,hd,y,h1,h2,q⟩:=vN.mp e
  rw [<- q]
  exact go d hd y h1 h2
 | false=>
  obtain ⟨d,hd,y,h1,h2⟩:=J0 h t w (by simpa using hw)
  have q:eqP d a=false:=pQ.mpr fun q=>pQ.mp e (vN.mpr ⟨d,hd,y,h1,h2,q⟩)
  rw [<- q]
  exact go d hd y h1 h2
theorem zfL {l:List D}{a b:D}{c:Bool}(hK:X.K=Γ.K) (hu:X.A.units+61 < ϲ) (hs:seqD b=some l) (h:memD l a=some c):(∃ r,OpR X (ϊ .In) r/\RDo Γ r a b (.bl c) false)/\∃ r,OpR X (ϊ .NotIn) r/\RDo Γ r a b (.bl (!c)) false:=by
 have h:(if (isSc a&&l.all isSc)=true then some (l.any fun y=>eqP y a) else none)=some c:=h
 by_cases hf:(isSc a&&l.all isSc)=true
 ·rw [if_pos hf] at h
  cases h
  rw [ε] at hf
  refine ⟨⟨fun x y H Q=>∃ g S,WOk Γ H g S/\Rdb Γ H g a x/\Rdb Γ H g b y/\∀ v,(∀ g,Has Γ g (.bl (l.any fun y=>eqP y a)) v)->Q v H,?_,fun S H g x y Q w hx hy q=>⟨g,S,w,hx,hy,fun v hv=>zg w q (hv g)⟩⟩,fun x y H Q=>∃ g S,WOk Γ H g S/\Rdb Γ H g a x/\Rdb Γ H g b y/\∀ v,(∀ g,Has Γ g (.bl (!l.any fun y=>eqP y a)) v)->Q v H,?_,fun S H g x y Q w hx hy q=>⟨g,S,w,hx,hy,fun v hv=>zg w q (hv g)⟩⟩
  all_goals
   intro pJ s σ H x y v u Q I rx ry ⟨g,S,w,hx,hy,q⟩
   obtain ⟨p,xs,e,hq,hh⟩:=sq_of hK w hs hy
   subst e
   cases ry
   rcases hq with hq | hq
  ·obtain ⟨its,r,pl,hz⟩:=I.list hq
   refine PySem.SeqAt.in_listAt (memE Γ g l a) pl.isList (qm I hK w.rh hu hf.1 hf.2 hx rx hh r) ⟨.bl _,H,I,rfl,?_⟩
   rw [vO hh r]
   exact q _ fun _=>rfl
  ·obtain ⟨its,r,pl,hz⟩:=I.tuple hq
   refine PySem.SeqAt.in_tupleAt (memE Γ g l a) pl (qm I hK w.rh hu hf.1 hf.2 hx rx hh r) ⟨.bl _,H,I,rfl,?_⟩
   rw [vO hh r]
   exact q _ fun _=>rfl
  ·obtain ⟨its,r,pl,hz⟩:=I.list hq
   refine PySem.SeqAt.notIn_listAt (memE Γ g l a) pl.isList (qm I hK w.rh hu hf.1 hf.2 hx rx hh r) ⟨.bl _,H,I,rfl,?_⟩
   rw [vO hh r]
   exact q _ fun _=>rfl
  ·obtain ⟨its,r,pl,hz⟩:=I.tuple hq
   refine PySem.SeqAt.notIn_tupleAt (memE Γ g l a) pl (qm I hK w.rh hu hf.1 hf.2 hx rx hh r) ⟨.bl _,H,I,rfl,?_⟩
   rw [vO hh r]
   exact q _ fun _=>rfl
 ·rw [if_neg hf] at h;cases h
theorem Kz {a b:D}{neg:Bool}{o:Option D}(hu1:X.A.units+1 < ϲ) (e:dgetD b a=some o):RDo Γ (rInD neg) a b (.bl (if neg then !o.isSome else o.isSome)) false:=by
 intro S H g x y Q w hx hy q
 obtain ⟨p,v,e1,e2,_,e3,e4⟩:=Vg w e hy hx
 refine ⟨p,v,e1,e2,zg w q ?_⟩
 cases o with
 | none=>rw [e4 rfl];rfl
 | some d=>obtain ⟨z,hz,_⟩:=e3 d rfl;rw [hz];rfl
theorem qF {f:Int->Int->Bool}{a b:D}{c:Bool}(h:int2 f a b=some c):∃ i j,a=.int i/\b=.int j/\c=f i j:=by
 cases a with
 | int i=>
  cases b with
  | int j=>cases h;exact ⟨i,j,rfl,rfl,rfl⟩
  | _=>cases h
 | _=>cases h
theorem KC {a b:D}{c:Bool}(hK:X.K=Γ.K) (hu:X.A.units+61 < ϲ) (hu1:X.A.units+1 < ϲ) (h:inD a b=some c):(∃ r,OpR X (ϊ .In) r/\RDo Γ r a b (.bl c) false)/\∃ r,OpR X (ϊ .NotIn) r/\RDo Γ r a b (.bl (!c)) false:=by
 have sq:∀ l,seqD b=some l->memD l a=some c->(∃ r,OpR X (ϊ .In) r/\RDo Γ r a b (.bl c) false)/\∃ r,OpR X (ϊ .NotIn) r/\RDo Γ r a b (.bl (!c)) false:=fun l h1 h2=>zfL hK hu h1 h2
 have dc:(dgetD b a).map (·.isSome)=some c->(∃ r,OpR X (ϊ .In) r/\RDo Γ r a b (.bl c) false)/\∃ r,OpR X (ϊ .NotIn) r/\RDo Γ r a b (.bl (!c)) false:=fun h=>by
  obtain ⟨o,e,rfl⟩:=Α.mp h
  exact ⟨⟨_,ze7 hu1,Kz (neg:=false) hu1 e⟩,_,JB hu1,Kz (neg:=true) hu1 e⟩
 cases b with
 | lst l=>exact sq l rfl h
 | tup l=>exact sq l rfl h
 | ktp l=>exact sq l rfl h
 | str y=>
  cases a with
  | str x=>
   cases h
   exact ⟨⟨_,JD,fun S H g u v Q w hx hy q=>⟨x,y,hx,hy,zg w q rfl⟩⟩,_,ZF,fun S H g u v Q w hx hy q=>⟨x,y,hx,hy,zg w q rfl⟩⟩
  | _=>cases h
 | dK ks ds=>exact dc h
 | dT ks ds=>exact dc h
 | dF ks ds=>exact dc h
 | _=>cases h
theorem Ku {a b:D}{c:Bool}(h:isD a b=some c):(∃ r,OpR X (ϊ .Is) r/\RDo Γ r a b (.bl c) false)/\∃ r,OpR X (ϊ .IsNot) r/\RDo Γ r a b (.bl (!c)) false:=by
 cases b with
 | non=>
  cases h
  exact ⟨⟨_,ze5,fun S H g x y Q w hx hy q=>⟨hy,zg w q (by rw [jH hx];rfl)⟩⟩,_,zcR,fun S H g x y Q w hx hy q=>⟨hy,zg w q (by rw [jH hx];rfl)⟩⟩
 | bl j=>
  cases a with
  | bl i=>
   cases h
   exact ⟨⟨_,ze6,fun S H g x y Q w hx hy q=>⟨_,_,hx,hy,zg w q rfl⟩⟩,_,zcS,fun S H g x y Q w hx hy q=>⟨_,_,hx,hy,zg w q rfl⟩⟩
  | _=>cases h
 | _=>cases h
theorem zbJ {a b:D}{c:Bool}(h:eqD a b=some c):okP 60 a=true/\okP 60 b=true/\c=eqP a b:=by
 have h:(if (okP 60 a&&okP 60 b)=true then some (eqP a b) else none)=some c:=h
 by_cases hk:(okP 60 a&&okP 60 b)=true
 ·rw [if_pos hk] at h
  cases h
  rw [ε] at hk
  exact ⟨hk.1,hk.2,rfl⟩
 ·rw [if_neg hk] at h;cases h
theorem ints_of {g:G}:∀ {l:List D}{ns:List Int}{xs:List V},intsD l=some ns->Hass Γ g l xs->xs=ns.map V.int
 | [],ns,xs,h,hh=>by
  cases (show some []=some ns from h)
  exact hh
 | d::l,ns,xs,h,⟨v,r,e,hv,hr⟩=>by
  subst e
  cases d with
  | int i=>
   simp only [intsD,Α] at h
   obtain ⟨ms,e1,e2⟩:=h
   subst e2
   rw [show v=V.int i from hv,ints_of e1 hr]
   rfl
  | _=>cases h
theorem kv_mem {kvs:List (Key×V)}{vs:List (Key×δ)}(r:KV kvs vs):∀ p∈vs,∃ q∈kvs,q.1=p.1/\RelV q.2 p.2:=by
 unfold KV at r
 induction r with
 | nil=>intro p hp;cases hp
 | cons h t ih=>
  intro p hp
  rcases Κ.mp hp with rfl | hp
  ·exact ⟨_,υ,h⟩
  ·obtain ⟨q,hq,e⟩:=ih p hp
   exact ⟨q,ι _ hq,e⟩
theorem Ur:∀ {kvs:List (Key×V)},(kvs.map (·.1)).Nodup->∀ q∈kvs,valV kvs q.1=some q.2
 | [],_,q,hq=>by cases hq
 | p::r,h,q,hq=>by
  rw [ϟ,cH] at h
  rcases Κ.mp hq with rfl | hq
  ·exact xH rfl
  ·rw [xJ fun e=>h.1 (by rw [e];exact fJ hq)]
   exact Ur h.2 q hq
theorem KD {A:ϗ}{s:μ}{kb:List (Key×δ)}:∀ (r:List (Key×δ)),(∀ p∈r,∃ i t t',p.2=ϕ i t/\iK kb p.1=some (.int i t'))->W.KeqHits A s kb r true
 | [],_=>.nil
 | (k,v)::r,h=>by
  obtain ⟨i,t,t',e1,e2⟩:=h (k,v) υ
  have e1:v=.int i t:=e1
  subst e1
  have q:=iQ.int_int (A:=A) (s:=s) i t i t'
  rw [beq_self_eq_true] at q
  exact .hit (e:=true) (b:=true) e2 q (KD r fun p hp=>h p (ι _ hp))
def rNeD:R2:=fun x y H Q=>∃ a b kvs,x=.ref a/\y=.ref b/\Rd H a (.dK kvs)/\Rd H b (.dK kvs)/\(kvs.map (·.1)).Nodup/\(∀ p∈kvs,∃ i,p.2=V.int i)/\Q (.bl false) H
theorem JC (hu:X.A.units < ϲ):OpR X (ϊ .NotEq) rNeD:=by
 intro pJ s σ H x y v u Q I rx ry ⟨a,b,kvs,e1,e2,ha,hb,hn,hi,q⟩
 subst e1 e2
 cases rx
 cases ry
 obtain ⟨_,sa,va,ra,da⟩:=dk_rd I.hok ha
 obtain ⟨_,sb,vb,rb,db⟩:=dk_rd I.hok hb
 refine W.keq_ne (r:=true) sa sb da db hu (fun _=>KD va fun p hp=>?_) ?_
 ·obtain ⟨z,hz,e1,e2⟩:=kv_mem ra p hp
  obtain ⟨i,e3⟩:=hi z hz
  rw [e3] at e2
  obtain ⟨t,e2⟩:=e2
  have rv:=rb.val z.1
  rw [Ur hn z hz,e3,e1] at rv
  cases e4:iK vb p.1 with
  | none=>rw [e4] at rv;exact rv.elim
  | some w=>
   rw [e4] at rv
   obtain ⟨t',e5⟩:=(show RelV (.int i) w from rv)
   exact ⟨i,t,t',e2,by rw [e5]⟩
 ·rw [<- ra.length,<- rb.length,beq_self_eq_true]
  exact ⟨.bl false,H,I,rfl,q⟩
set_option tactic.hygienic true in
theorem zfb {ks ks':List Key}{vs vs':List D}{c:Bool}(h:neD (.dK ks vs) (.dK ks' vs')=some c):RDo Γ rNeD (.dK ks vs) (.dK ks' vs') (.bl c) false:=by
 have h:(if (decide (ks=ks')&&decide ks.Nodup&&decide (intsD vs=intsD vs')&&(intsD vs).isSome)=true then some false else none)=some c:=h
 split at h
 ·rename_i hc
  cases h
  simp only [ε,decide_eq_true_eq] at hc
  obtain ⟨⟨⟨e1,hn⟩,e2⟩,e3⟩:=hc
  subst e1
  intro S H g x y Q w ⟨a,xs,hx,h1,h2,h3⟩ ⟨b,ys,hy,f1,f2,f3⟩ q
  obtain ⟨ns,e4⟩:=m7.mp e3
  have z1:=ints_of e4 h3
  have z2:=ints_of (e2.symm.trans e4) f3
  refine ⟨a,b,ks.zip (ns.map V.int),hx,hy,.inl (by rw [h1,z1]),.inl (by rw [f1,z2]),?_,fun p hp=>?_,zg w q rfl⟩
  ·rw [List.map_fst_zip (by rw [<- z1,h3.len,<- h2];exact ξ _)]
   exact hn
  ·obtain ⟨i,_,e⟩:=Ϻ.mp (fB hp).2
   exact ⟨i,e.symm⟩
 ·cases h
theorem zdI {op:fD}{a b:D}{c:Bool}(hK:X.K=Γ.K) (hu:X.A.units+61 < ϲ) (h:cmpD op a b=some c):∃ r,OpR X (ϊ op) r/\RDo Γ r a b (.bl c) false:=by
 have hu1:X.A.units+1 < ϲ:=by lia
 cases op with
 | Eq=>
  obtain ⟨h1,h2,rfl⟩:=zbJ h
  exact ⟨_,ze8 hK hu h1 h2,Wl⟩
 | NotEq=>
  have old:(eqD a b).map (!·)=some c->∃ r,OpR X (ϊ .NotEq) r/\RDo Γ r a b (.bl c) false:=fun h=>by
   obtain ⟨c',e,rfl⟩:=Α.mp h
   obtain ⟨h1,h2,rfl⟩:=zbJ e
   exact ⟨_,ze2 hK hu h1 h2,Wl⟩
  have h:neD a b=some c:=h
  cases a with
  | dK ks vs=>
   cases b with
   | dK ks' vs'=>exact ⟨_,JC (by lia),zfb h⟩
   | _=>exact old h
  | _=>exact old h
 | Lt=>obtain ⟨i,j,rfl,rfl,rfl⟩:=qF h;exact ⟨_,op_lt,fun S H g x y Q w hx hy q=>⟨_,_,hx,hy,zg w q rfl⟩⟩
 | LtE=>obtain ⟨i,j,rfl,rfl,rfl⟩:=qF h;exact ⟨_,op_le,fun S H g x y Q w hx hy q=>⟨_,_,hx,hy,zg w q rfl⟩⟩
 | Gt=>obtain ⟨i,j,rfl,rfl,rfl⟩:=qF h;exact ⟨_,op_gt,fun S H g x y Q w hx hy q=>⟨_,_,hx,hy,zg w q rfl⟩⟩
 | GtE=>obtain ⟨i,j,rfl,rfl,rfl⟩:=qF h;exact ⟨_,op_ge,fun S H g x y Q w hx hy q=>⟨_,_,hx,hy,zg w q rfl⟩⟩
 | Is=>exact (Ku h).1
 | IsNot=>
  obtain ⟨c',e,rfl⟩:=Α.mp (show (isD a b).map (!·)=some c from h)
  exact (Ku e).2
 | In=>exact (KC hK hu hu1 h).1
 | NotIn=>
  obtain ⟨c',e,rfl⟩:=Α.mp (show (inD a b).map (!·)=some c from h)
  exact (KC hK hu hu1 e).2
def rIxD:R2:=fun x y H Q=>∃ a v,x=.ref a/\DGet H a y (some v)/\Q v H
theorem Xp (hu:X.A.units+1 < ϲ):IxR X rIxD:=by
 intro value slice pJ s σ H x y v u Q I rx ry ⟨a,z,e,g,q⟩ hs
 subst e
 cases rx
 exact tail_any (Xw I g) PySem.F.slot_dict_getitem.lookup (K7 hu I g ry fun w' s' I' r'=>⟨z,H,I',r',q⟩) hs
theorem Qq {g:G}{l:List D}{xs:List V}{i:Int}{d:D}(h:Hass Γ g l xs) (e:((ixN l.length i).bind fun k=>l[k]?)=some d):∃ v,atI xs i=some v/\Has Γ g d v:=by
 obtain ⟨k,e1,e2⟩:=ύ.mp e
 obtain ⟨v,hv,hd⟩:=h.get e2
 refine ⟨v,?_,hd⟩
 unfold atI
 rw [h.len,e1]
 exact hv
set_option tactic.hygienic true in
theorem zfu {a b d:D}(hK:X.K=Γ.K) (hu:X.A.units+1 < ϲ) (h:subD a b=some d):∃ r,IxR X r/\RDo Γ r a b d false:=by
 unfold subD at h
 split at h
 ·refine ⟨_,zfs,fun S H g x y Q w ⟨p,xs,e,h1,h2⟩ hy q=>?_⟩
  obtain ⟨v,e1,e2⟩:=Qq h2 h
  exact ⟨p,xs,_,v,e,hy,SqT.of (w.rh _ _ h1),e1,zg w q e2⟩
 ·refine ⟨_,Kh,fun S H g x y Q w ⟨p,xs,e,h1,h2⟩ hy q=>?_⟩
  obtain ⟨v,e1,e2⟩:=Qq h2 h
  exact ⟨p,xs,_,v,e,hy,SqL.of h1,e1,zg w q e2⟩
 ·rename_i l i
  refine ⟨_,Kh,fun S H g x y Q w ⟨p,e,h1⟩ hy q=>?_⟩
  have h':((ixN (l.map D.int).length i).bind fun k=>(l.map D.int)[k]?)=some d:=by
   rw [ν]
   simpa [Δ] using h
  obtain ⟨v,e1,e2⟩:=Qq (Hass.ints (Γ:=Γ) (g:=g)) h'
  exact ⟨p,_,_,v,e,hy,by rw [hK];exact h1,e1,zg w q e2⟩
 ·split at h
  ·rename_i hf
   obtain ⟨k,e1,e2⟩:=ύ.mp h
   obtain ⟨c,e3,e4⟩:=Α.mp e2
   subst e4
   refine ⟨_,zft,fun S H g x y Q w hx hy q=>⟨_,_,c,hx,hy,yw hf,?_,zg w q rfl⟩⟩
   unfold atI
   have e1':ixN _ _=some k:=e1
   rw [e1']
   exact e3
  ·cases h
 ·obtain ⟨o,e1,e2⟩:=ύ.mp h
  refine ⟨_,Xp hu,fun S H g x y Q w hx hy q=>?_⟩
  obtain ⟨p,v,f1,f2,_,f3,_⟩:=Vg w e1 hx hy
  obtain ⟨z,hz,hd⟩:=f3 d e2
  exact ⟨p,z,f1,by rw [<- hz];exact f2,zg w q hd⟩
 ·obtain ⟨o,e1,e2⟩:=ύ.mp h
  refine ⟨_,Xp hu,fun S H g x y Q w hx hy q=>?_⟩
  obtain ⟨p,v,f1,f2,_,f3,_⟩:=Vg w e1 hx hy
  obtain ⟨z,hz,hd⟩:=f3 d e2
  exact ⟨p,z,f1,by rw [<- hz];exact f2,zg w q hd⟩
 ·obtain ⟨o,e1,e2⟩:=ύ.mp h
  refine ⟨_,Xp hu,fun S H g x y Q w hx hy q=>?_⟩
  obtain ⟨p,v,f1,f2,_,f3,_⟩:=Vg w e1 hx hy
  obtain ⟨z,hz,hd⟩:=f3 d e2
  exact ⟨p,z,f1,by rw [<- hz];exact f2,zg w q hd⟩
 ·cases h
theorem Xx {g:G}{l:List D}{xs:List V}(lo hi:Option Int) (h:Hass Γ g l xs):Hass Γ g (cutD l lo hi) (cutV xs lo hi):=by
 unfold cutD cutV
 rw [h.len]
 exact (h.drop _).take _
def RDs (Γ:Gm) (r:V->Option Int->Option Int->Hp->VK->Prop) (a:D) (lo hi:Option Int) (d:D) (fr:Bool):Prop:=
 ∀ (S:Store) (H:Hp) (g:G) (x:V) (Q:VK),WOk Γ H g S->Rdb Γ H g a x->Fin Γ H g S d fr Q->r x lo hi H Q
def rSlS:V->Option Int->Option Int->Hp->VK->Prop:=fun x lo hi H Q=>∃ z,x=.str z/\z.length<=sizeLine/\Q (.str (lJ z lo hi)) H
theorem Jz {v:δ}{o:Option Int}(h:iT v o):∃ p:Option (Int×Tok),v=partValue p/\p.map (·.1)=o:=by
 cases h with
 | none=>exact ⟨none,rfl,rfl⟩
 | int i t=>exact ⟨some (i,t),rfl,rfl⟩
theorem zef:SlR X rSlS:=by
 intro pJ s σ H x v vl vu lo hi sl Q I rx hs pl pu ⟨z,e,hz,q⟩
 subst e
 obtain ⟨t,rfl⟩:=rx
 obtain ⟨p,rfl,rfl⟩:=Jz pl
 obtain ⟨p',rfl,rfl⟩:=Jz pu
 refine ⟨"str",_,PySem.F.slot_str_getitem.lookup,typeIs_str _ _ _,wpAny_getItem_str_slice (l:=p) (u:=p') (st:=none) hs rfl ?_⟩
 exact post_val_or_str ⟨Ϫ (Txt.slice_le z _ _) hz,fun t' k=>⟨.str (lJ z (p.map (·.1)) (p'.map (·.1))),H,I.tok _,⟨t',rfl⟩,q⟩⟩
set_option tactic.hygienic true in
theorem zeg {a d:D}{lo hi:Option Int}{fr:Bool}(hK:X.K=Γ.K) (h:slcD a lo hi=some (d,fr)):∃ r,SlR X r/\RDs Γ r a lo hi d fr:=by
 unfold slcD at h
 split at h
 ·rename_i l
  cases h
  refine ⟨_,zee.or zcb,fun S H g x Q w ⟨p,xs,e,h1,h2⟩ q=>?_⟩
  by_cases hw:HT.sIx xs.length 0 lo=0/\HT.sIx xs.length xs.length hi=xs.length
  ·refine .inr ⟨p,xs,e,SqT.of (w.rh _ _ h1),hw,zg w q ?_⟩
   have ec:cutD l lo hi=l:=by
    unfold cutD
    rw [<- h2.len,hw.1,hw.2,List.drop_zero,Nat.sub_zero,List.take_of_length_le (by rw [h2.len];exact ξ _)]
   rw [ec]
   exact ⟨p,xs,rfl,h1,h2⟩
  ·exact .inl ⟨p,xs,e,SqT.of (w.rh _ _ h1),hw,fun b hb=>qJ w q (Xx lo hi h2) hb⟩
 ·cases h
  exact ⟨_,Ja,fun S H g x Q w ⟨p,xs,e,h1,h2⟩ q=>⟨p,xs,e,SqL.of h1,fun b hb=>yJ w q (Xx lo hi h2) hb⟩⟩
 ·cases h
  exact ⟨_,Ja,fun S H g x Q w ⟨p,e,h1⟩ q=>⟨p,_,e,by rw [hK];exact h1,fun b hb=>yJ w q (Xx lo hi Hass.ints) hb⟩⟩
 ·split at h
  ·rename_i hf
   cases h
   exact ⟨_,zef,fun S H g x Q w hx q=>⟨_,hx,yw hf,zg w q rfl⟩⟩
  ·cases h
 ·cases h
end
noncomputable def kzH (h:Heap):δ->List Int
  | .ref a=>(match h.get? a with
    | some o=>(match o.data with
      | .seq xs _=>xs.toList.map numOf
      | _=>[])
    | none=>[])
  | _=>[]
noncomputable def vr:V->δ
 | .ref a=>.ref a
 | _=>.none
theorem yC:∀ {ns:List Int}{us:List δ},Vals (ns.map V.int) us->us.map numOf=ns/\TS.IntsV us ns
 | [],_,.nil=>⟨rfl,trivial⟩
 | n::ns,_,.cons r q=>by
  obtain ⟨t,rfl⟩:=r
  obtain ⟨h1,h2⟩:=yC q
  exact ⟨by rw [ϟ,h1];rfl,⟨t,rfl⟩,h2⟩
theorem Za:∀ {Ps:List (V×List Int)}{us:List δ},(∀ q∈Ps,∃ a,q.1=.ref a)->Vals (Ps.map (·.1)) us->us=Ps.map fun q=>vr q.1
 | [],_,_,.nil=>rfl
 | p::Ps,_,h,.cons r q=>by
  obtain ⟨a,e⟩:=h p υ
  have r:RelV p.1 _:=r
  rw [e] at r
  cases (show _=ω a from r)
  rw [Za (fun q hq=>h q (ι _ hq)) q,ϟ,e];rfl
theorem Zm:∀ {Ps:List (V×List Int)},(∀ q∈Ps,∃ a,q.1=.ref a)->Vals (Ps.map (·.1)) (Ps.map fun q=>vr q.1)
 | [],_=>.nil
 | p::Ps,h=>.cons (by obtain ⟨a,e⟩:=h p υ;show RelV p.1 (vr p.1);rw [e];rfl) (Zm fun q hq=>h q (ι _ hq))
theorem zac {α β:Type}{g:α->β}{l m:List β}(h:l.Perm m):∀ Ps:List α,m=Ps.map g->∃ Ps':List α,Ps'.Perm Ps/\l=Ps'.map g:=by
 induction h with
 | nil=>
  intro Ps e
  cases Ps with
  | nil=>exact ⟨[],au _,rfl⟩
  | cons _ _=>cases e
 | cons x h ih=>
  intro Ps e
  cases Ps with
  | nil=>cases e
  | cons p Ps=>
   obtain ⟨Qs,h1,h2⟩:=ih Ps (ϡ e).2
   exact ⟨p::Qs,h1.cons p,by rw [ϟ,<- h2,(ϡ e).1]⟩
 | swap x y l=>
  intro Ps e
  match Ps,e with
  | p::q::Ps,e=>
   have e1:=(ϡ e).1
   have e2:=(ϡ (ϡ e).2).1
   have e3:=(ϡ (ϡ e).2).2
   exact ⟨q::p::Ps,gO _ _ _,by rw [ϟ,ϟ,<- e1,<- e2,<- e3]⟩
 | trans _ _ ih1 ih2=>
  intro Ps e
  obtain ⟨Qs,h1,h2⟩:=ih2 Ps e
  obtain ⟨Rs,h3,h4⟩:=ih1 Qs h2
  exact ⟨Rs,h3.trans h1,h4⟩
theorem Ys {X:Cx}:CallR X (.builtin "sorted") (fun xs H Q=>∃ p,∃ Ps:List (V×List Int),xs=[.ref p]/\SqL X.K H p (Ps.map (·.1))/\Ps.length < 64/\(∀ q∈Ps,q.2≠[]/\∃ a,q.1=.ref a/\SqT X.K H a (q.2.map V.int)) /\
    ∀ (Ps':List (V×List Int)) (l:Addr),Ps'.Perm Ps->(Ps'.map (·.2)).Pairwise (fun x y=>TS.lexB y x=false)->H l=none->Q (.ref l) (upd H l (.lst (Ps'.map (·.1))))):=by
  intro pJ s σ H xs us Q I r ⟨p,Ps,e,hq,hn,ht,q⟩
  subst e
  obtain ⟨u,rfl,rx⟩:=vals1 r
  cases (show u=ω p from rx)
  obtain ⟨its,r',pl,hz⟩:=I.list hq
  have rf:∀ q∈Ps,∃ a,q.1=.ref a:=fun q hq=>⟨_,(ht q hq).2.choose_spec.1⟩
  have ei:=Za rf r'
  subst ei
  have tell:∀ q∈Ps,kzH s.heap (vr q.1)=q.2/\TS.Tu (kzH s.heap) s.heap (vr q.1):=fun q hq=>by
    obtain ⟨h0,a,e,h1⟩:=ht q hq
    obtain ⟨us,v1,⟨o,ho,hc,n,hd⟩,_⟩:=I.tuple h1
    obtain ⟨v2,v3⟩:=yC v1
    have k:kzH s.heap (vr q.1)=q.2:=by
      rw [e]
      show (match s.heap.get? a with
        | some o=>(match o.data with
          | .seq xs _=>xs.toList.map numOf
          | _=>[])
        | none=>[])=q.2
      rw [ho]
      dsimp only
      rw [hd]
      exact v2
    exact ⟨k,⟨⟨a,o,_,n,by rw [e];rfl,ho,hc,hd,by rw [k];exact v3⟩,by rw [k];exact h0⟩⟩
  refine TS.U7 (kz:=kzH s.heap) pl.isList (fun v hv=>?_) (by rw [ν];exact hn) fun out k=>?_
  · obtain ⟨q,hq,rfl⟩:=Ϻ.mp hv
    exact (tell q hq).2
  · obtain ⟨Ps',h1,h2⟩:=zac k.1 Ps rfl
    have mm:∀ q∈Ps',q∈Ps:=fun q hq=>h1.mem_iff.mp hq
    obtain ⟨c,hc⟩:=sortedAll_at s.heap (Ps.map fun q=>vr q.1) out
    have hc2:(sortedAll s.heap (Ps.map fun q=>vr q.1) out).get? (s.heap.objs.size+1)=some { cls:=.type "list",dict:=none,data:=.seq out.toList.toArray c,slots:=#[] }:=by
      rw [hc,eZ]
    have hv:Vals (Ps'.map (·.1)) out.toList:=by rw [h2];exact Zm fun q hq=>rf q (mm q hq)
    have hl:(Ps'.map (·.1)).length<=sizeLine:=by
      rw [ν,h1.length_eq]
      rw [ν] at hz
      exact hz
    have I2:=I.laid (t':=s.toks) (a:=s.heap.objs.size+1) (o:=.lst (Ps'.map (·.1))) (h':=sortedAll s.heap (Ps.map fun q=>vr q.1) out) (fun b o e=>sortedAll_old e) (fj _) (show ObjOk X.prog X.w _ _ _ (.lst (Ps'.map (·.1))) from ⟨hl,out.toList,c,hv,hc2⟩)
    refine ⟨.ref (s.heap.objs.size+1),_,I2,rfl,q Ps' _ h1 ?_ (I.hok.fresh (fj _))⟩
    have pw:=k.2
    rw [h2,dZ] at pw
    rw [dZ]
    refine pw.imp_of_mem fun {a b} ha hb h=>?_
    rwa [(tell a (mm a ha)).1,(tell b (mm b hb)).1] at h
theorem qt:∀ x y,lexL x y=TS.lexB x y
 | [],[]=>rfl
 | [],_::_=>rfl
 | _::_,[]=>rfl
 | a::x,b::y=>by unfold lexL TS.lexB;rw [qt x y]
theorem qG (k:List Int):∀ l,(insL k l).Perm (k::l)
 | []=>au _
 | x::l=>by
  unfold insL
  split
  ·exact ((qG k l).cons x).trans (gO _ _ _)
  ·exact au _
theorem Zf:∀ l,(sortL l).Perm l
 | []=>au _
 | k::l=>(qG k (sortL l)).trans ((Zf l).cons k)
abbrev LeL (x y:List Int):Prop:=TS.lexB y x=false
theorem zfk {x y z:List Int}(h:LeL x y) (k:LeL y z):LeL x z:=bW (O:=TS.lexO) h k
set_option tactic.hygienic true in
theorem zbF (k:List Int):∀ l,l.Pairwise LeL->(insL k l).Pairwise LeL
 | [],_=>ou _ _
 | x::l,h=>by
  obtain ⟨h1,h2⟩:=cA.mp h
  unfold insL
  split
  ·rename_i c
   rw [qt] at c
   refine cA.mpr ⟨fun y hy=>?_,zbF k l h2⟩
   rcases Κ.mp ((qG k l).mem_iff.mp hy) with rfl | hy
   ·exact cJ (O:=TS.lexO) c
   ·exact h1 y hy
  ·rename_i c
   rw [qt] at c
   have c:LeL k x:=by show TS.lexB x k=false;revert c;cases TS.lexB x k <;> simp
   refine cA.mpr ⟨fun y hy=>?_,h⟩
   rcases Κ.mp hy with rfl | hy
   ·exact c
   ·exact zfk c (h1 y hy)
theorem U8:∀ l,(sortL l).Pairwise LeL
 | []=>ig
 | k::l=>zbF k _ (U8 l)
theorem QR {l m:List (List Int)}(h:m.Perm l) (k:m.Pairwise LeL):m=sortL l:=
 (h.trans (Zf l).symm).eq_of_pairwise (fun a b _ _ h1 h2=>TS.Xd a b h2 h1) k (U8 l)
theorem W4:∀ {l:List D}{k:List Int},intsD l=some k->l=k.map D.int
 | [],k,h=>by cases h;rfl
 | .int i::r,k,h=>by
  obtain ⟨j,e,rfl⟩:=Α.mp (show (intsD r).map (i::·)=some k from h)
  rw [W4 e];rfl
set_option tactic.hygienic true in
theorem Z3:∀ {l:List D}{ks:List (List Int)},Z4 l=some ks->l=ks.map tupI/\∀ k∈ks,k≠[]
 | [],ks,h=>by cases h;exact ⟨rfl,fun k h=>nomatch h⟩
 | .tup d::r,ks,h=>by
  obtain ⟨k,e1,e2⟩:=ύ.mp (show (intsD d).bind (fun k=>if k.isEmpty then none else (Z4 r).map (k::·))=some ks from h)
  split at e2
  ·cases e2
  ·rename_i hk
   obtain ⟨js,e3,rfl⟩:=Α.mp e2
   obtain ⟨h1,h2⟩:=Z3 e3
   refine ⟨by rw [W4 e1,h1];rfl,fun x hx=>?_⟩
   rcases Κ.mp hx with rfl | hx
   ·intro e;subst e;exact hk rfl
   ·exact h2 x hx
theorem Z8 {Γ:Gm}{g:G}:∀ {k:List Int}{vs:List V},Hass Γ g (k.map D.int) vs->vs=k.map V.int
 | [],_,h=>h
 | n::k,_,⟨v,r,e,h1,h2⟩=>by rw [e,show v=V.int n from h1,Z8 h2];rfl
theorem Z6 {Γ:Gm}{H:Hp}{g:G}{S:Store}(w:WOk Γ H g S):∀ {ks:List (List Int)}{vs:List V},Hass Γ g (ks.map tupI) vs->∃ Ps:List (V×List Int),Ps.map (·.1)=vs/\Ps.map (·.2)=ks/\∀ q∈Ps,Has Γ g (tupI q.2) q.1/\∃ a,q.1=.ref a/\SqT Γ.K H a (q.2.map V.int)
 | [],_,h=>⟨[],(show _=[] from h).symm,rfl,fun q h=>nomatch h⟩
 | k::ks,_,⟨v,r,e,h1,h2⟩=>by
  obtain ⟨Ps,e1,e2,h3⟩:=Z6 w h2
  refine ⟨(v,k)::Ps,by rw [e,<- e1];rfl,by rw [<- e2];rfl,fun q hq=>?_⟩
  rcases Κ.mp hq with rfl | hq
  ·refine ⟨h1,?_⟩
   obtain ⟨a,us,e3,h4,h5⟩:=h1
   rw [Z8 h5] at h4
   exact ⟨a,e3,SqT.of (w.rh _ _ h4)⟩
  ·exact h3 q hq
theorem Zc {Γ:Gm}{g:G}:∀ {Ps:List (V×List Int)},(∀ q∈Ps,Has Γ g (tupI q.2) q.1)->Hass Γ g ((Ps.map (·.2)).map tupI) (Ps.map (·.1))
 | [],_=>rfl
 | p::Ps,h=>⟨p.1,_,rfl,h p υ,Zc fun q hq=>h q (ι _ hq)⟩
noncomputable def SetX (w:ϖ) (a:Addr) (ks:List Str):HO:=.ext fun h=>TS.Ts w h a (TS.ledW w) ks
theorem j9:∀ {xs:List Str}{us:List δ},Vals (xs.map V.str) us->us.map TS.strV=xs/\∀ v∈us,TS.IsTx v
 | [],_,.nil=>⟨rfl,fun v h=>nomatch h⟩
 | x::xs,_,.cons r q=>by
  obtain ⟨t,rfl⟩:=r
  obtain ⟨h1,h2⟩:=j9 q
  refine ⟨by rw [ϟ,h1];rfl,fun v hv=>?_⟩
  rcases Κ.mp hv with rfl | hv
  ·exact ⟨x,t,rfl⟩
  ·exact h2 v hv
theorem kh:∀ {us:List δ},(∀ v∈us,TS.IsTx v)->Vals ((us.map TS.strV).map V.str) us
 | [],_=>.nil
 | u::us,h=>by
  obtain ⟨x,t,rfl⟩:=h u υ
  exact .cons ⟨t,rfl⟩ (kh fun v hv=>h v (ι _ hv))
theorem laidD {X:Cx}{pJ:List (Addr×Obj)}{σ:L2.St}{H:Hp}{s:μ}{h':Heap}{a:Addr}{o:HO}{t':Nat}{d':Drawn}(I:L2.Inv X pJ σ H s) (k:∀ b u,s.heap.get? b=some u->h'.get? b=some u) (hp:s.heap.objs.size<=a) (new:ObjOk X.prog X.w (upd H a o) h' a o):
  L2.Inv X pJ σ (upd H a o) { s with heap:=h',toks:=t',drawn:=d' }:=by
 have J:=I.laid (t':=t') k hp new
 exact ⟨J.ok,J.os,J.bare,J.base,J.loc,J.cell,J.free,J.freeC,J.pin,J.hok,J.len⟩
theorem Qg {X:Cx}(hc:X.calm=true):CallR X (.type "set") (fun xs H Q=>∃ p,∃ ks:List Str,xs=[.ref p]/\(SqL X.K H p (ks.map V.str)\/SqT X.K H p (ks.map V.str))/\ks.length < 4095/\∀ a,H a=none->Q (.ref a) (upd H a (SetX X.w a (TS.WL ks)))):=by
 intro pJ s σ H xs us Q I r ⟨p,ks,e,hq,hn,q⟩
 subst e
 obtain ⟨u,rfl,rx⟩:=vals1 r
 cases (show u=ω p from rx)
 have fin:∀ (its:List δ) {T:String}{OK:Heap->Prop}{Sx:Addr->Nat->Heap->Prop}{itO:Obj},Vals (ks.map V.str) its->TS.Row X.prog X.w T p its.toArray OK Sx itO->OK s.heap->ψ (Ζ X.prog X.w) X.A (call (.type "set") [.ref p]) (EP X pJ σ Q) X.xe s:=fun its T OK Sx itO v R ok=>by
  obtain ⟨v1,v2⟩:=j9 v
  have lk:ks.length=its.length:=by rw [<- v1,ν]
  refine TS.zaW (val:=ks) R (I.ok.hd hc) ok (by simpa using lk) (fun i v e x hx=>?_) (by simp;omega) fun h' tk z k=>?_
  ·rw [iw] at e
   rw [<- v1,Δ,e] at hx
   obtain ⟨y,t,rfl⟩:=v2 v (ϝ e)
   cases hx
   exact ⟨t,rfl⟩
  ·obtain ⟨es,ep,tb,st,pm⟩:=id z
   obtain ⟨o,ho,_⟩:=st.at_
   exact ⟨.ref s.heap.objs.size,_,I.laid (t':=tk) (o:=SetX X.w s.heap.objs.size (TS.WL ks)) k (ξ _) ⟨z,⟨o,ho⟩,fun h1 h2 y kk=>y.keep kk⟩,rfl,q _ (I.hok.fresh (ξ _))⟩
 rcases hq with hq | hq
 ·obtain ⟨its,v,pl,_⟩:=I.list hq
  exact fin its v (TS.rowL p its.toArray) pl.isList
 ·obtain ⟨its,v,pl,_⟩:=I.tuple hq
  exact fin its v (TS.rowT p its.toArray) (show s.heap.IsTuple p its.toArray from pl)
theorem Yr {X:Cx}(hc:X.calm=true):CallR X (.builtin "sorted") (fun xs H Q=>∃ a,∃ ks:List Str,xs=[.ref a]/\H a=some (SetX X.w a ks)/\ks.length < 64 /\
  ∀ (ms:List Str) (l:Addr),ms.Perm ks->ms.Pairwise (fun x y=>TS.strB y x=false)->H l=none->Q (.ref l) (upd H l (.lst (ms.map V.str)))):=by
 intro pJ s σ H xs us Q I r ⟨a,ks,e,hq,hn,q⟩
 subst e
 obtain ⟨u,rfl,rx⟩:=vals1 r
 cases (show u=ω a from rx)
 obtain ⟨⟨es,ep,tb,st,pm⟩,_⟩:=(show ObjOk X.prog X.w H s.heap a (SetX X.w a ks) from I.hok a _ hq)
 have sz:es.size=ks.length:=by rw [<- pm.length_eq,ν,Τ]
 refine TS.VF (I.ok.hd hc) st (by omega) fun vs out h' tk d pv k hg hk=>?_
 have tx:∀ v∈vs,TS.IsTx v:=fun v hv=>by
  obtain ⟨e,he,rfl⟩:=Ϻ.mp (pv.mem_iff.mp hv)
  obtain ⟨x,t,rfl⟩:=st.tx e he
  exact ⟨x,t,rfl⟩
 have txo:∀ v∈out.toList,TS.IsTx v:=fun v hv=>tx v (k.1.mem_iff.mp hv)
 have e2:(h'.push (ao "list" vs.toArray 0)).get? h'.objs.size=some (ao "list" vs.toArray 0):=ς _ rfl
 obtain ⟨c,hc⟩:=sortedHeap_at (out:=out) e2
 have hc2:(dz (h'.push (ao "list" vs.toArray 0)) h'.objs.size vs out).get? h'.objs.size=some { cls:=.type "list",dict:=none,data:=.seq out.toList.toArray c,slots:=#[] }:=by
  rw [hc,eZ]
 have tot:(out.toList.map TS.strV).Perm ks:=by
  refine ((k.1.trans pv).map _).trans ?_
  rw [oF]
  refine aU.trans (aU.of_eq (List.map_congr_left fun e he=>?_)) pm
  obtain ⟨x,t,rfl⟩:=st.tx e he
  rfl
 have I2:=laidD I (t':=tk) (d':=d) (a:=h'.objs.size) (o:=.lst ((out.toList.map TS.strV).map V.str)) (h':=dz (h'.push (ao "list" vs.toArray 0)) h'.objs.size vs out)
  (fun b o e=>by
   have lt:=χ (hk b o e)
   rw [sortedHeap_old (Λ lt) (by rw [fH];exact bV lt)]
   exact η _ (hk b o e)) hg (show ObjOk X.prog X.w _ _ _ (.lst _) from ⟨by rw [ν,tot.length_eq,Ϧ];omega,out.toList,c,kh txo,hc2⟩)
 refine ⟨.ref h'.objs.size,_,I2,rfl,q _ _ tot ?_ (I.hok.fresh hg)⟩
 rw [dZ]
 exact k.2
theorem Yq {X:Cx}:CallR X (.builtin "sorted") (fun xs H Q=>∃ p,∃ ks:List Str,xs=[.ref p]/\SqL X.K H p (ks.map V.str)/\ks.length < 64 /\
  ∀ (ms:List Str) (l:Addr),ms.Perm ks->ms.Pairwise (fun x y=>TS.strB y x=false)->H l=none->Q (.ref l) (upd H l (.lst (ms.map V.str)))):=by
 intro pJ s σ H xs us Q I r ⟨p,ks,e,hq,hn,q⟩
 subst e
 obtain ⟨u,rfl,rx⟩:=vals1 r
 cases (show u=ω p from rx)
 obtain ⟨vs,v,pl,hz⟩:=I.list hq
 obtain ⟨v1,tx⟩:=j9 v
 have lk:ks.length=vs.length:=by rw [<- v1,ν]
 refine TS.VD pl.isList tx (by omega) fun out h' k hg hk=>?_
 have txo:∀ v∈out.toList,TS.IsTx v:=fun v hv=>tx v (k.1.mem_iff.mp hv)
 have e2:(h'.push (ao "list" vs.toArray 0)).get? h'.objs.size=some (ao "list" vs.toArray 0):=ς _ rfl
 obtain ⟨c,hc⟩:=sortedHeap_at (out:=out) e2
 have hc2:(dz (h'.push (ao "list" vs.toArray 0)) h'.objs.size vs out).get? h'.objs.size=some { cls:=.type "list",dict:=none,data:=.seq out.toList.toArray c,slots:=#[] }:=by
  rw [hc,eZ]
 have tot:(out.toList.map TS.strV).Perm ks:=by rw [<- v1];exact k.1.map _
 have I2:=I.laid (t':=s.toks) (a:=h'.objs.size) (o:=.lst ((out.toList.map TS.strV).map V.str)) (h':=dz (h'.push (ao "list" vs.toArray 0)) h'.objs.size vs out)
  (fun b o e=>by
   have lt:=χ (hk b o e)
   rw [sortedHeap_old (Λ lt) (by rw [fH];exact bV lt)]
   exact η _ (hk b o e)) hg (show ObjOk X.prog X.w _ _ _ (.lst _) from ⟨by rw [ν,tot.length_eq,Ϧ];omega,out.toList,c,kh txo,hc2⟩)
 refine ⟨.ref h'.objs.size,_,I2,rfl,q _ _ tot ?_ (I.hok.fresh hg)⟩
 rw [dZ]
 exact k.2
def Rdbs (Γ:Gm) (H:Hp) (g:G):List D->List V->Prop
 | [],vs=>vs=[]
 | d::ds,vs=>∃ v r,vs=v::r/\Rdb Γ H g d v/\Rdbs Γ H g ds r
theorem Jm {Γ:Gm}{H:Hp}{g:G}{S:Store}(w:WOk Γ H g S):∀ {ds:List D}{vs:List V},Hass Γ g ds vs->Rdbs Γ H g (ds.map (deref S)) vs
 | [],_,h=>h
 | d::ds,_,⟨v,r,e,h1,h2⟩=>⟨v,r,e,zbd w h1,Jm w h2⟩
def RDc (Γ:Gm) (r:List V->Hp->VK->Prop) (ds:List D) (d:D) (fr:Bool):Prop:=
 ∀ (S:Store) (H:Hp) (g:G) (xs:List V) (Q:VK),WOk Γ H g S->Rdbs Γ H g ds xs->Fin Γ H g S d fr Q->r xs H Q
section
variable {X:Cx}{Γ:Gm}
theorem rd1 {H:Hp}{g:G}{d:D}{xs:List V}(h:Rdbs Γ H g [d] xs):∃ v,xs=[v]/\Rdb Γ H g d v:=by
 obtain ⟨v,r,e,h1,h2⟩:=h
 cases (show r=[] from h2)
 exact ⟨v,e,h1⟩
theorem valsI:∀ {ns:List Int}{us:List δ},Vals (ns.map V.int) us->∀ (i:Nat) (v:δ),us[i]?=some v->∃ t,v=ϕ (ns.getD i 0) t
 | [],_,.nil,i,v,h=>by simp at h
 | n::ns,_,.cons r q,0,v,h=>by
  obtain ⟨t,rfl⟩:=r
  simp at h
  exact ⟨t,h.symm⟩
 | n::ns,_,.cons r q,i+1,v,h=>by
  have:=valsI q i v (by simpa using h)
  simpa using this
theorem Qf (hc:X.calm=true):CallR X (.builtin "sum") (fun xs H Q=>∃ (p:Addr) (ns:List Int),xs=[.ref p]/\SqL X.K H p (ns.map V.int)/\Q (.int ns.sum) H):=by
 intro pJ s σ H vs us Q I rv h
 obtain ⟨p,ns,rfl,hq,q⟩:=h
 obtain ⟨u,rfl,ru⟩:=rv.one
 cases (show u=ω p from ru)
 obtain ⟨its,rv,hp,hz⟩:=I.list hq
 have hl:=hp.isList
 have hlt:p < s.heap.objs.size:=by obtain ⟨_,e,_⟩:=hl;exact χ e
 have hh:X.A.handled=none:=I.ok.hd hc
 have hlen:=rv.length
 rw [ν] at hlen
 refine call_sum_walkG (eF hl ?_)
 refine ⟨s.heap.objs.size,[s.heap.objs.size,p],[s.heap.objs.size],its.toArray.size,_,_,fun i=>ns.getD i 0,rfl,mR (A:=X.A.in1) hh _ p (Λ hlt) its.toArray,
  ⟨⟨_,ς _ rfl,rfl,rfl⟩,hl.push _⟩,fun b hb=>?_,fun i v hP=>?_,fun h' tk t' hk=>?_⟩
 ·rcases Κ.mp hb with rfl | hb
  ·show _ < (s.heap.push _).objs.size
   rw [dg];exact eV _
  ·rw [Υ.mp hb]
   show _ < (s.heap.push _).objs.size
   rw [dg];exact bV hlt
 ·exact valsI rv i v (by simpa using hP)
 ·refine ⟨.int ns.sum,H,I.kept (oA hk),⟨t',?_⟩,q⟩
  rw [preSum_getD,ο,<- hlen,List.take_length]
theorem Yv {g:G}:∀ {l:List D}{ns:List Bool}{xs:List V},Vj l=some ns->Hass Γ g l xs->xs=ns.map V.bl
 | [],ns,xs,h,hh=>by
  cases (show some []=some ns from h)
  exact hh
 | d::l,ns,xs,h,⟨v,r,e,hv,hr⟩=>by
  subst e
  cases d with
  | bl i=>
   simp only [Vj,Α] at h
   obtain ⟨ms,e1,e2⟩:=h
   subst e2
   rw [show v=V.bl i from hv,Yv e1 hr]
   rfl
  | _=>cases h
noncomputable def biV:BI->δ
 | .len=>.builtin "len" | .abs=>.builtin "abs" | .int=>.type "int" | .str=>.type "str" | .tuple=>.type "tuple" | .list=>.type "list"
 | .sum=>.builtin "sum" | .all=>.builtin "all" | .any=>.builtin "any" | .isinst _=>.builtin "isinstance" | .min2=>.builtin "min" | .max2=>.builtin "max" | .sorted=>.builtin "sorted" | .repr=>.builtin "repr" | .dict=>.type "dict" | .sset=>.builtin "sorted" | .lset=>.builtin "len" | .trev=>.type "tuple"
noncomputable def isI:BI->Bool
 | .isinst _=>true
 | .sset=>true
 | .lset=>true
 | .trev=>true
 | _=>false
set_option tactic.hygienic true in
theorem zdc {d0:D}{d:D}{fr:Bool}(hK:X.K=Γ.K) (h:lenD d0=some (d,fr)):∃ r,CallR X (.builtin "len") r/\RDc Γ r [d0] d fr:=by
 cases d0 with
 | tup l=>
  cases h
  refine ⟨_,yN,fun S H g xs Q w hx q=>?_⟩
  obtain ⟨v,rfl,p,ys,rfl,h1,h2⟩:=rd1 hx
  exact ⟨p,ys,rfl,.inr (SqT.of (w.rh _ _ h1)),zg w q (by rw [h2.len];rfl)⟩
 | lst l=>
  cases h
  refine ⟨_,yN,fun S H g xs Q w hx q=>?_⟩
  obtain ⟨v,rfl,p,ys,rfl,h1,h2⟩:=rd1 hx
  exact ⟨p,ys,rfl,.inl (SqL.of h1),zg w q (by rw [h2.len];rfl)⟩
 | scr l=>
  cases h
  refine ⟨_,yN,fun S H g xs Q w hx q=>?_⟩
  obtain ⟨v,rfl,p,rfl,h1⟩:=rd1 hx
  exact ⟨p,_,rfl,.inl (by rw [hK];exact h1),zg w q (by rw [ν];rfl)⟩
 | str x=>
  have h:(if fits x.length=true then some (D.int x.length,false) else none)=some (d,fr):=h
  split at h
  ·rename_i hf
   cases h
   refine ⟨_,Yt,fun S H g xs Q w hx q=>?_⟩
   obtain ⟨v,rfl,hv⟩:=rd1 hx
   exact ⟨_,by rw [show v=_ from hv],yw hf,zg w q rfl⟩
  ·cases h
 | dK ks vs=>
  cases h
  refine ⟨fun xs H Q=>∃ d kvs,xs=[.ref d]/\Rd H d (.dK kvs)/\Q (.int kvs.length) H,?_,fun S H g xs Q w hx q=>?_⟩
  ·intro pJ s σ H xs us Q I r hh
   obtain ⟨d,kvs,rfl,hd,q⟩:=hh
   obtain ⟨u,rfl,ru⟩:=vals1 r
   cases (show u=ω d from ru)
   exact d_len I hd fun t s' I'=>⟨.int kvs.length,H,I',⟨t,rfl⟩,q⟩
  ·obtain ⟨v,rfl,p,ys,rfl,h1,h2,h3⟩:=rd1 hx
   refine ⟨p,_,rfl,.inl h1,zg w q ?_⟩
   rw [dJ,h3.len,<- h2,Nat.min_self]
   rfl
 | _=>cases h
theorem zbp {f:List D->Option D}{d0:D}{p:D×Bool}(h:onL f d0=some p):∃ l d,d0=.lst l/\f l=some d/\p=(d,false):=by
 cases d0 with
 | lst l=>
  obtain ⟨d,e,rfl⟩:=Α.mp (show (f l).map (fun d=>(d,false))=some p from h)
  exact ⟨l,d,rfl,e,rfl⟩
 | _=>cases h
theorem zbx {d0:D}{l:List D}(h:lotD d0=some l):d0=.lst l\/d0=.tup l:=by
 cases d0 with
 | lst m=>cases h;exact .inl rfl
 | tup m=>cases h;exact .inr rfl
 | _=>cases h
set_option tactic.hygienic true in
theorem zb8 {d0 d:D}{fr:Bool}(hK:X.K=Γ.K) (hc:X.calm=true) (h:srtD d0=some (d,fr)):∃ r,CallR X (.builtin "sorted") r/\RDc Γ r [d0] d fr:=by
 cases d0 with
 | lst l=>
  obtain ⟨ks,e1,e2⟩:=ύ.mp (show (Z4 l).bind (fun ks=>if decide (ks.length < 64)=true then some (D.lst ((sortL ks).map tupI),true) else none)=some (d,fr) from h)
  obtain ⟨rfl,hne⟩:=Z3 e1
  split at e2
  ·rename_i hl
   cases e2
   refine ⟨_,Ys,fun S H g xs Q w hx q=>?_⟩
   obtain ⟨v,rfl,a,vs,rfl,h1,h2⟩:=rd1 hx
   obtain ⟨Ps,p1,p2,p3⟩:=Z6 w h2
   subst p1 p2
   rw [ν] at hl
   refine ⟨a,Ps,rfl,.inl (.inl h1),of_decide_eq_true hl,fun q hq=>⟨hne _ (Ϻ.mpr ⟨q,hq,rfl⟩),by rw [hK];exact (p3 q hq).2⟩,fun Ps' l pm up hl=>yJ w (ds:=(sortL (Ps.map (·.2))).map tupI) q ?_ hl⟩
   rw [<- QR (pm.map _) up]
   exact Zc fun q hq=>(p3 q (pm.mem_iff.mp hq)).1
  ·cases e2
 | _=>cases h
theorem km {g:G}:∀ {l:List D}{ns:List Str}{xs:List V},strsD l=some ns->Hass Γ g l xs->xs=ns.map V.str
 | [],ns,xs,h,hh=>by
  cases (show some []=some ns from h)
  exact hh
 | d::l,ns,xs,h,⟨v,r,e,hv,hr⟩=>by
  subst e
  cases d with
  | str i=>
   simp only [strsD,Α] at h
   obtain ⟨ms,e1,e2⟩:=h
   subst e2
   rw [show v=V.str i from hv,km e1 hr]
   rfl
  | _=>cases h
theorem qH {g:G}:∀ ks:List Str,Hass Γ g (ks.map D.str) (ks.map V.str)
 | []=>rfl
 | x::ks=>⟨_,_,rfl,rfl,qH ks⟩
theorem uK (k:Str):∀ l,(insS k l).Perm (k::l)
 | []=>au _
 | x::l=>by
  unfold insS
  split
  ·exact ((uK k l).cons x).trans (gO _ _ _)
  ·exact au _
theorem yj:∀ l,(sortS l).Perm l
 | []=>au _
 | k::l=>(uK k (sortS l)).trans ((yj l).cons k)
abbrev LeS (x y:Str):Prop:=TS.strB y x=false
set_option tactic.hygienic true in
theorem Ky (k:Str):∀ l,l.Pairwise LeS->(insS k l).Pairwise LeS
 | [],_=>ou _ _
 | x::l,h=>by
  obtain ⟨h1,h2⟩:=cA.mp h
  unfold insS
  split
  ·rename_i c
   refine cA.mpr ⟨fun y hy=>?_,Ky k l h2⟩
   rcases Κ.mp ((uK k l).mem_iff.mp hy) with rfl | hy
   ·exact cJ (O:=TS.strO) c
   ·exact h1 y hy
  ·rename_i c
   have c:LeS k x:=by show TS.strB x k=false;revert c;show ¬ TS.strB x k=true->_;cases TS.strB x k <;> simp
   refine cA.mpr ⟨fun y hy=>?_,h⟩
   rcases Κ.mp hy with rfl | hy
   ·exact c
   ·exact bW (O:=TS.strO) c (h1 y hy)
theorem kE:∀ l,(sortS l).Pairwise LeS
 | []=>ig
 | k::l=>Ky k _ (kE l)
theorem v7 {l m:List Str}(h:m.Perm l) (k:m.Pairwise LeS):m=sortS l:=
 (h.trans (yj l).symm).eq_of_pairwise (fun a b _ _ h1 h2=>TS.UW a b h2 h1) k (kE l)
set_option tactic.hygienic true in
theorem QM {d0 d:D}{fr:Bool}(hK:X.K=Γ.K) (hc:X.calm=true) (h:srtX d0=some (d,fr)):∃ r,CallR X (.builtin "sorted") r/\RDc Γ r [d0] d fr:=by
 unfold srtX at h
 split at h
 ·rename_i x l
  obtain ⟨ks,e1,e2⟩:=ύ.mp h
  split at e2
  ·rename_i hl
   cases e2
   refine ⟨_,Yq,fun S H g xs Q w hx q=>?_⟩
   obtain ⟨v,rfl,a,vs,rfl,h1,h2⟩:=rd1 hx
   have ev:vs=(x::ks).map V.str:=km (show strsD (.str x::l)=some (x::ks) by show (strsD l).map (x::·)=_;rw [e1];rfl) h2
   refine ⟨a,x::ks,rfl,by rw [<- ev];exact .inl (.inl h1),by have:=of_decide_eq_true hl;simp;omega,fun ms l pm up hl=>yJ w (ds:=(sortS (x::ks)).map D.str) q ?_ hl⟩
   rw [<- v7 pm up]
   exact qH _
  ·cases e2
 ·exact zb8 hK hc h
theorem rd2 {H:Hp}{g:G}{d e:D}{xs:List V}(h:Rdbs Γ H g [d,e] xs):∃ u v,xs=[u,v]/\Rdb Γ H g d u/\Rdb Γ H g e v:=by
 obtain ⟨v,r,e,h1,h2⟩:=h
 obtain ⟨u,rfl,h3⟩:=rd1 h2
 exact ⟨v,u,e,h1,h3⟩
theorem zdN {b:BI}{d0 d1 d:D}{fr:Bool}(hc:X.calm=true) (h:bi2 b d0 d1=some (d,fr)):∃ r,CallR X (biV b) r/\RDc Γ r [d0,d1] d fr:=by
 cases b with
 | min2=>
  obtain ⟨i,j,k,rfl,rfl,e,e2⟩:=wK (show num2 (fun i j=>some (if j < i then j else i)) d0 d1=some (d,fr) from h)
  cases e2
  cases e
  refine ⟨_,Qh hc,fun S H g xs Q w hx q=>?_⟩
  obtain ⟨u,v,rfl,h1,h2⟩:=rd2 hx
  exact ⟨i,j,by rw [show u=_ from h1,show v=_ from h2],zg w q rfl⟩
 | max2=>
  obtain ⟨i,j,k,rfl,rfl,e,e2⟩:=wK (show num2 (fun i j=>some (if j > i then j else i)) d0 d1=some (d,fr) from h)
  cases e2
  cases e
  refine ⟨_,Qi hc,fun S H g xs Q w hx q=>?_⟩
  obtain ⟨u,v,rfl,h1,h2⟩:=rd2 hx
  exact ⟨i,j,by rw [show u=_ from h1,show v=_ from h2],zg w q rfl⟩
 | _=>cases h
theorem Yo:CallR X (.type "str") (fun xs H Q=>∃ x,xs=[.str x]/\Q (.str x) H):=by
 intro pJ s σ H xs us Q I r ⟨x,e,q⟩
 subst e
 obtain ⟨u,rfl,t,rfl⟩:=vals1 r
 exact PySem.P.str_of_str ⟨.str x,H,I,⟨t,rfl⟩,q⟩
set_option tactic.hygienic true in
theorem zb4 {d0 d:D}{fr:Bool}(h:strD d0=some (d,fr)):∃ r,CallR X (.type "str") r/\RDc Γ r [d0] d fr:=by
 cases d0 with
 | int i=>
  have h:(if decide (i.natAbs.log2 < 1920)=true then some (D.str (toString i),false) else none)=some (d,fr):=h
  split at h
  ·rename_i hi
   cases h
   refine ⟨_,Yp,fun S H g xs Q w hx q=>?_⟩
   obtain ⟨v,rfl,hv⟩:=rd1 hx
   exact ⟨i,by rw [show v=_ from hv],of_decide_eq_true hi,zg w q rfl⟩
  ·cases h
 | str x=>
  cases h
  refine ⟨_,Yo,fun S H g xs Q w hx q=>?_⟩
  obtain ⟨v,rfl,hv⟩:=rd1 hx
  exact ⟨x,by rw [show v=_ from hv],zg w q rfl⟩
 | _=>cases h
theorem zdO {b:BI}{d0:D}{d:D}{fr:Bool}(hK:X.K=Γ.K) (hg:X.A.guards=some []) (hu:X.A.units+61 < ϲ) (hc:X.calm=true) (hi:isI b=false) (h:biD b [d0]=some (d,fr)):∃ r,CallR X (biV b) r/\RDc Γ r [d0] d fr:=by
 cases b with
 | len=>exact zdc hK h
 | abs=>
  cases d0 with
  | int i=>
   cases h
   refine ⟨_,zaY,fun S H g xs Q w hx q=>?_⟩
   obtain ⟨v,rfl,hv⟩:=rd1 hx
   exact ⟨_,by rw [show v=_ from hv],zg w q rfl⟩
  | _=>cases h
 | int=>cases h
 | tuple=>
  obtain ⟨l,e,e2⟩:=Α.mp (show (lotD d0).map (fun l=>(D.tup l,false))=some (d,fr) from h)
  cases e2
  refine ⟨_,qN,fun S H g xs Q w hx q=>?_⟩
  rcases zbx e with rfl | rfl
  ·obtain ⟨v,rfl,p,ys,rfl,h1,h2⟩:=rd1 hx
   exact ⟨p,ys,rfl,.inl ⟨SqL.of h1,fun l hl=>qJ w q h2 hl⟩⟩
  ·obtain ⟨v,rfl,p,ys,rfl,h1,h2⟩:=rd1 hx
   exact ⟨p,ys,rfl,.inr ⟨SqT.of (w.rh _ _ h1),zg w q ⟨p,ys,rfl,h1,h2⟩⟩⟩
 | list=>cases h
 | sum=>
  obtain ⟨l,z,rfl,e,e2⟩:=zbp h
  cases e2
  obtain ⟨ns,e3,rfl⟩:=Α.mp e
  refine ⟨_,Qf hc,fun S H g xs Q w hx q=>?_⟩
  obtain ⟨v,rfl,p,ys,rfl,h1,h2⟩:=rd1 hx
  exact ⟨p,ns,rfl,by rw [<- ints_of e3 h2];exact SqL.of h1,zg w q rfl⟩
 | all=>cases h
 | any=>
  obtain ⟨l,z,rfl,e,e2⟩:=zbp h
  cases e2
  obtain ⟨ns,e3,rfl⟩:=Α.mp e
  refine ⟨_,zaX hc,fun S H g xs Q w hx q=>?_⟩
  obtain ⟨v,rfl,p,ys,rfl,h1,h2⟩:=rd1 hx
  exact ⟨p,ns,rfl,by rw [<- Yv e3 h2];exact SqL.of h1,zg w q rfl⟩
 | isinst t=>cases hi
 | str=>exact zb4 h
 | min2=>cases h
 | max2=>cases h
 | sorted=>exact QM hK hc h
 | sset=>cases hi
 | lset=>cases hi
 | trev=>cases hi
 | repr=>cases h
 | dict=>cases h
theorem zbO {b:BI}{ds:List D}{d:D}{fr:Bool}(hK:X.K=Γ.K) (hg:X.A.guards=some []) (hu:X.A.units+61 < ϲ) (hc:X.calm=true) (hi:isI b=false) (h:biD b ds=some (d,fr)):∃ r,CallR X (biV b) r/\RDc Γ r ds d fr:=by
 match ds,h with
 | [],h=>cases h
 | [d0],h=>exact zdO hK hg hu hc hi h
 | [d0,d1],h=>exact zdN hc h
 | _::_::_::_,h=>cases h
noncomputable def tyS:Ty->String
 | .int=>"int" | .bool=>"bool" | .str=>"str" | .tuple=>"tuple" | .list=>"list" | .dict=>"dict"
theorem zfG {t:Ty}{a:D}{c:Bool}(hK:X.K=Γ.K) (h:isTy t a=some c):
  ∃ r,CallR X (.builtin "isinstance") r/\∀ (S:Store) (H:Hp) (g:G) (x:V) (Q:VK),WOk Γ H g S->Rdb Γ H g a x->Q (.bl c) H->r [x,.ty (tyS t)] H Q:=by
 refine ⟨_,XC,fun S H g x Q w hx q=>?_⟩
 have go:∀ ty,TyOf X.K H x (.type ty)->W.kitOne X.K (.type ty) (.type (tyS t))=some c->_:=fun ty h1 h2=>(⟨x,tyS t,.type ty,c,rfl,h1,h2,q⟩:∃ x' T t' b,[x,V.ty (tyS t)]=[x',.ty T]/\TyOf X.K H x' t'/\W.kitOne X.K t' (.type T)=some b/\Q (.bl b) H)
 cases a with
 | non=>cases h;cases (show x=.non from hx);exact go _ .non (by cases t <;> rfl)
 | bl b=>cases (show x=.bl b from hx);exact go _ (.bl b) (by cases t <;> exact h)
 | int b=>cases (show x=.int b from hx);exact go _ (.int b) (by cases t <;> exact h)
 | str b=>cases (show x=.str b from hx);exact go _ (.str b) (by cases t <;> exact h)
 | tup l=>obtain ⟨p,ys,rfl,h1,h2⟩:=hx;exact go _ (.tup (w.rh _ _ h1)) (by cases t <;> exact h)
 | lst l=>obtain ⟨p,ys,rfl,h1,h2⟩:=hx;exact go _ (.lst h1) (by cases t <;> exact h)
 | dK ks l=>obtain ⟨p,ys,rfl,h1,h2⟩:=hx;exact go _ (.dK h1) (by cases t <;> exact h)
 | _=>cases h
end
mutual
noncomputable def sameD:D->D->Bool
 | .non,.non=>true
 | .bl a,.bl b=>a==b
 | .int a,.int b=>a==b
 | .str a,.str b=>a==b
 | .tup a,.tup b=>Zi a b
 | .ktp a,.ktp b=>Zi a b
 | .fn a,.fn b=>a==b
 | .kdc a,.kdc b=>decide (a=b)
 | _,_=>false
noncomputable def Zi:List D->List D->Bool
 | [],[]=>true
 | a::as,b::bs=>sameD a b&&Zi as bs
 | _,_=>false
end
mutual
theorem Wj:∀ (a b:D),sameD a b=true->a=b
 | .non,b,h=>by cases b with | non=>rfl | _=>cases h
 | .bl a,b,h=>by cases b with | bl b=>rw [eq_of_beq (show (a==b)=true from h)] | _=>cases h
 | .int a,b,h=>by cases b with | int b=>rw [eq_of_beq (show (a==b)=true from h)] | _=>cases h
 | .str a,b,h=>by cases b with | str b=>rw [eq_of_beq (show (a==b)=true from h)] | _=>cases h
 | .tup a,b,h=>by cases b with | tup b=>rw [v8 a b h] | _=>cases h
 | .ktp a,b,h=>by cases b with | ktp b=>rw [v8 a b h] | _=>cases h
 | .fn a,b,h=>by cases b with | fn b=>rw [eq_of_beq (show (a==b)=true from h)] | _=>cases h
 | .kdc a,b,h=>by cases b with | kdc b=>rw [of_decide_eq_true (show decide (a=b)=true from h)] | _=>cases h
 | .lst _,b,h=>by cases b <;> cases h
 | .dK _ _,b,h=>by cases b <;> cases h
 | .dT _ _,b,h=>by cases b <;> cases h
 | .dF _ _,b,h=>by cases b <;> cases h
 | .ref _,b,h=>by cases b <;> cases h
 | .scr _,b,h=>by cases b <;> cases h
theorem v8:∀ (a b:List D),Zi a b=true->a=b
 | [],[],_=>rfl
 | a::as,b::bs,h=>by
  have h':(sameD a b&&Zi as bs)=true:=h
  rw [ε] at h'
  rw [Wj a b h'.1,v8 as bs h'.2]
 | [],_::_,h=>by cases h
 | _::_,[],h=>by cases h
end
structure Cc where
 names:List (Str×ϰ)
 N:List Str
 fn:Bool
noncomputable def visK:Option ϰ->Bool
 | some .local=>true
 | some .cell=>true
 | some .free=>true
 | _=>false
noncomputable def gloK:Option ϰ->Bool
 | some .globalImplicit=>true
 | _=>false
noncomputable def yu (x:Str):Bool:=!(x==("__debug__":Str))&&!(x==("__classdict__":Str))&&!(x==("__name__":Str))
noncomputable def xm:Expr->Bool
 | .Set _ _ _=>false
 | _=>true
noncomputable def notStar:Expr->Bool
 | .Starred _ _=>false
 | _=>true
noncomputable def biS:BI->Str
 | .len=>"len" | .abs=>"abs" | .int=>"int" | .str=>"str" | .tuple=>"tuple" | .list=>"list" | .sum=>"sum" | .all=>"all" | .any=>"any" | .isinst _=>"isinstance" | .min2=>"min" | .max2=>"max" | .sorted=>"sorted" | .repr=>"repr" | .dict=>"dict" | .sset=>"sorted" | .lset=>"len" | .trev=>"tuple"
noncomputable def tyN:Ty->Str
 | .int=>"int" | .bool=>"bool" | .str=>"str" | .tuple=>"tuple" | .list=>"list" | .dict=>"dict"
noncomputable def yg:List bM->Option (List Str)
 | []=>some []
 | ⟨some x,_,_⟩::r=>(yg r).map (x::·)
 | _=>none
noncomputable def relK (names:List (Str×ϰ)):List (Str×ϰ)->List (Str×ϰ):=fun l=>l.map fun (n,k)=>if (k==.free&&names.lookup n==some .cell) then (n,.cell) else (n,k)
noncomputable def namesOf:List Expr->Option (List Str)
 | []=>some []
 | .Name x _::r=>(namesOf r).map (x::·)
 | _=>none
noncomputable def yp:Expr->Option (List Str)
 | .Name x _=>some [x]
 | .Tuple es _ _=>namesOf es
 | _=>none
noncomputable def tIs:T->List Nat
 | .one i=>[i]
 | .nst i is=>i::is
 | .tup is=>is
noncomputable def Z2:Expr->Bool
 | .Tuple _ _ _=>true
 | _=>false
noncomputable def zfI:T->Bool
 | .tup _=>true
 | .nst _ _=>true
 | _=>false
noncomputable def stoK (c:Cc) (x:Str):Bool:=match c.names.lookup x with
 | some .local=>true
 | some .cell=>c.fn
 | _=>false
noncomputable def isNst:T->Bool
 | .nst _ _=>true
 | _=>false
noncomputable def asNst:Expr->Option (Str×Pos×List Expr×Nat×Pos×Nat×Pos)
  | .Tuple es k p=>(match es with
    | a::r=>(match a with
      | .Name x q=>(match r with
        | b::z=>(match z with
          | []=>(match b with
            | .Tuple fs k2 p2=>some (x,q,fs,k2,p2,k,p)
            | _=>none)
          | _=>none)
        | _=>none)
      | _=>none)
    | _=>none)
  | _=>none
noncomputable def chkT (c:Cc) (t:T) (x:Expr):Bool:=if isNst t=true then (match asNst x with
  | some q=>(match namesOf q.2.2.1 with
    | some ns=>(q.1::ns).length==(tIs t).length&&((tIs t).zip (q.1::ns)).all fun p=>c.N[p.1]?==some p.2&&stoK c p.2
    | none=>false)
  | none=>false) else Z2 x==zfI t&&(match yp x with
  | some ns=>ns.length==(tIs t).length&&((tIs t).zip ns).all fun p=>c.N[p.1]?==some p.2&&stoK c p.2
  | none=>false)
noncomputable def chkS (c:Cc) (sc:dW) (js:List Nat):Bool:=
 (sc.kind==.function)&&sc.names.all (fun y=>y.2 != .cell)&&sc.names.all (fun y=>y.2 != .local||sc.names.lookup y.1==some .local)&&sc.names.all (fun y=>y.2 != .free||sc.names.lookup y.1==some .free) &&
 sc.names.all (fun y=>y.2 != .free||c.names.lookup y.1==some .cell||c.names.lookup y.1==some .free) &&
 js.all fun j=>match c.N[j]? with
  | some y=>(c.names.lookup y==some .cell||c.names.lookup y==some .free)&&sc.names.lookup y==some .free
  | none=>false
noncomputable def inner (c:Cc) (sc:dW) (xs:List Str) (js:List Nat):Cc:=⟨relK c.names sc.names,xs++js.map (fun j=>c.N.getD j ""),false⟩
noncomputable def zbE:Expr->Bool
 | .Tuple _ _ _=>true
 | _=>false
noncomputable def keyC:Key->Const->Bool
 | .inl i,.int j=>i==j
 | .inr s,.str t=>s==t
 | _,_=>false
noncomputable def chkDk:List Key->List (Option Expr)->Bool
 | [],[]=>true
 | k::ks,some (.Constant q _ _)::r=>keyC k q&&chkDk ks r
 | _,_=>false
noncomputable def sole {α:Type}:List α->Option α
  | a::r=>(match r with
    | []=>some a
    | _=>none)
  | _=>none
theorem YZ {α:Type}{l:List α}{a:α}(h:sole l=some a):l=[a]:=by
 cases l with
 | nil=>cases h
 | cons b r=>
  cases r with
  | nil=>cases h;rfl
  | cons _ _=>cases h
noncomputable def asName:Expr->Option (Str×Pos)
 | .Name n p=>some (n,p)
 | _=>none
theorem jc {x:Expr}{q:Str×Pos}(h:asName x=some q):x=.Name q.1 q.2:=by
 cases x <;> first | (cases h;rfl) | cases h
noncomputable def asSub:Expr->Option (Expr×Expr×Pos)
 | .Subscript a b p=>some (a,b,p)
 | _=>none
theorem za2 {x:Expr}{q:Expr×Expr×Pos}(h:asSub x=some q):x=.Subscript q.1 q.2.1 q.2.2:=by
 cases x <;> first | (cases h;rfl) | cases h
noncomputable def asAtt:Expr->Option (Expr×Str×Pos)
 | .Attribute a m p=>some (a,m,p)
 | _=>none
theorem Vv {x:Expr}{q:Expr×Str×Pos}(h:asAtt x=some q):x=.Attribute q.1 q.2.1 q.2.2:=by
 cases x <;> first | (cases h;rfl) | cases h
noncomputable def wu {α:Type}:List α->Bool
 | []=>true
 | _=>false
theorem vU {α:Type}{l:List α}(h:wu l=true):l=[]:=by
 cases l with
 | nil=>rfl
 | cons _ _=>cases h
noncomputable def isRev:Expr->Bool
  | .Slice l h st _=>l.isNone&&h.isNone&&(match st with
    | some (.UnaryOp op (.Constant k _ _) _)=>op==.USub&&(match k with
      | .int i=>i==1
      | _=>false)
    | _=>false)
  | _=>false
noncomputable def mtS:MT->Str
 | .get1=>"get" | .get2=>"get" | .index=>"index" | .join=>"join" | .split=>"split"
noncomputable def zeM:Expr->Bool
 | .Call _ _ _ _=>false
 | _=>true
noncomputable def Zx:Expr->Bool
 | .Call _ (_::_) _ _=>true
 | x=>zeM x
noncomputable def Jr:Expr->Bool
 | .Call _ _ _ _=>true
 | .List _ _=>true
 | .Dict _ _ _=>true
 | .BinOp _ _ _ _=>true
 | _=>false
noncomputable def wR:Expr->Option (Str×Expr)
 | .Call (.Name y _) [z] [] _=>some (y,z)
 | _=>none
mutual
noncomputable def chkE (B:Tb) (c:Cc):E->Expr->Bool
  | .var i,.Name x _=>c.N[i]?==some x&&visK (c.names.lookup x)&&yu x
  | .con d,.Constant k _ _=>match d,k with
    | .non,.none=>true
    | .bl a,.bool b=>a==b
    | .int a,.int b=>a==b
    | .str a,.str b=>a==b
    | _,_=>false
  | .glo n d,.Name x _=>(match B.consts[n]? with
    | some p=>p.1==x&&sameD p.2 d
    | none=>false)&&gloK (c.names.lookup x)&&yu x
  | .bin op a b,.BinOp x op' y _=>op==op'&&chkE B c a x&&chkE B c b y
  | .neg a,.UnaryOp op x _=>op==.USub&&chkE B c a x
  | .cmp op a b,.Compare x [op'] [y] _=>op==op'&&chkE B c a x&&chkE B c b y&&xm y
  | .chn o1 o2 a b d,.Compare x [p1,p2] [y,z] _=>o1==p1&&o2==p2&&chkE B c a x&&chkE B c b y&&chkE B c d z&&xm z
  | .not a,.UnaryOp op x _=>op==.Not&&chkE B c a x
  | .and a b,.BoolOp op (x::y::r) p=>op==.And&&chkE B c a x&&chkE B c b (.BoolOp .And (y::r) p)
  | .or a b,.BoolOp op (x::y::r) p=>op==.Or&&chkE B c a x&&chkE B c b (.BoolOp .Or (y::r) p)
  | .one a,.BoolOp op [x] _=>chkE B c a x
  | .ite t a b,.IfExp x y z _=>chkE B c t x&&chkE B c a y&&chkE B c b z
  | .tup es,.Tuple xs _ _=>chkEs B c es xs
  | .lst es,.List xs _=>chkEs B c es xs
  | .dic tk ks es,.Dict keys vs _=>chkDk ks keys&&chkFs B c es vs&&decide (ks.length=es.length)&&decide (ks.length<=15)
  | .sub a i,.Subscript x y _=>chkE B c a x&&chkE B c i y
  | .slc a lo hi,.Subscript x (.Slice l h none _) _=>chkE B c a x&&chkO B c lo l&&chkO B c hi h
  | .bi b es,.Call (.Name x _) args [] _=>(match b with
    | .isinst t=>x==("isinstance":Str)&&B.bare.contains x&&B.bare.contains (tyN t)&&gloK (c.names.lookup x)&&(match es,args with
      | [e],[y,.Name z _]=>chkE B c e y&&notStar y&&z==tyN t&&gloK (c.names.lookup z)
      | _,_=>false)
    | .sset=>x==("sorted":Str)&&B.bare.contains x&&gloK (c.names.lookup x)&&(match es,args with
      | [e],[q]=>(match wR q with
        | some (y,z)=>y==("set":Str)&&B.bare.contains y&&gloK (c.names.lookup y)&&chkE B c e z&&notStar z
        | none=>false)
      | _,_=>false)
    | .lset=>false
    | .trev=>x==("tuple":Str)&&B.bare.contains x&&gloK (c.names.lookup x)&&(match es,args with
      | [e],[q]=>(match wR q with
        | some (y,z)=>y==("reversed":Str)&&B.bare.contains y&&gloK (c.names.lookup y)&&chkE B c e z&&notStar z
        | none=>false)
      | _,_=>false)
    | b=>x==biS b&&B.bare.contains x&&gloK (c.names.lookup x)&&chkEs B c es args&&!es.isEmpty)
  | .call f es,.Call (.Name x _) args [] _=>B.fns[f]?==some x&&gloK (c.names.lookup x)&&yu x&&chkEs B c es args&&!es.isEmpty
  | .callk f perm es,.Call (.Name x _) [] kws _=>B.fns[f]?==some x&&gloK (c.names.lookup x)&&yu x&&chkKs B c es kws&&(match yg kws,B.pars[f]? with
    | some ks,some ps=>perm.length==ps.length&&perm.all (· < ks.length)&&perm.map (fun i=>ks.getD i "")==ps&&ks.length==ps.length&&B.kws.contains (f,ks,perm)
    | _,_=>false)
  | .mth m o es,.Call f args kws cp=>(match asAtt f with
    | some q=>q.2.1==mtS m&&chkE B c o q.1&&chkEs B c es args&&wu kws&&q.2.2.endLine==cp.line&&Zx q.1&&decide (1<=es.length)&&decide (es.length<=9)
    | none=>false)
  | .dk1 a b,.Dict keys vs _=>(match keys,vs with
    | [some k],[v]=>chkE B c a k&&chkE B c b v
    | _,_=>false)
  | .box e,x=>Jr x&&chkE B c e x
  | .comp t js it ifs elt,.ListComp y [⟨tgt,iter,cs,k⟩] sc _=>k==0&&chkS c sc js&&chkI B c it tgt iter&&xm iter&&(match yp tgt with
    | some xs=>decide ((xs++js.map (fun j=>c.N.getD j "")).Nodup)&&nT t==xs.length&&tIs t==Η xs.length&&chkT (inner c sc xs js) t tgt&&chkE B (inner c sc xs js) elt y&&chkFs B (inner c sc xs js) ifs cs&&decide (ifs.length<=1)
    | none=>false)
  | _,_=>false
noncomputable def chkI (B:Tb) (c:Cc):E->Expr->Expr->Bool
 | .seq e,_,x=>chkE B c e x
 | .keys e,_,x=>chkE B c e x
 | .enum e,tg,.Call (.Name f _) [y] [] _=>zbE tg&&f==("enumerate":Str)&&B.bare.contains f&&gloK (c.names.lookup f)&&chkE B c e y&&notStar y
 | .dwn es,_,.Call (.Name f _) args [] _=>f==("range":Str)&&B.bare.contains f&&gloK (c.names.lookup f)&&decide (args.length=3)&&chkEs B c es args
 | .rng none hi,_,.Call (.Name f _) [y] [] _=>f==("range":Str)&&B.bare.contains f&&gloK (c.names.lookup f)&&chkE B c hi y&&notStar y
 | _,_,_=>false
noncomputable def chkEs (B:Tb) (c:Cc):List E->List Expr->Bool
 | [],[]=>true
 | e::es,x::xs=>chkE B c e x&&notStar x&&chkEs B c es xs
 | _,_=>false
noncomputable def chkFs (B:Tb) (c:Cc):List E->List Expr->Bool
 | [],[]=>true
 | e::es,x::xs=>chkE B c e x&&chkFs B c es xs
 | _,_=>false
noncomputable def chkO (B:Tb) (c:Cc):Option E->Option Expr->Bool
 | none,none=>true
 | some e,some x=>chkE B c e x
 | _,_=>false
noncomputable def chkKs (B:Tb) (c:Cc):List E->List bM->Bool
 | [],[]=>true
 | e::es,⟨some _,x,_⟩::xs=>chkE B c e x&&chkKs B c es xs
 | _,_=>false
end
theorem qi {x:ϓ}{Q:ϓ->Prop}(h:Ι x.ctorIdx 0=true) (f:∀ a0 a1 a2,Q (.BoolOp a0 a1 a2)):Q x:=by
 revert h
 cases x with
 | BoolOp a0 a1 a2=>exact fun _=>f a0 a1 a2
 | _=>exact nobE
theorem zc1 {x:ϓ}{Q:ϓ->Prop}(h:Ι x.ctorIdx 2=true) (f:∀ a0 a1 a2 a3,Q (.BinOp a0 a1 a2 a3)):Q x:=by
 revert h
 cases x with
 | BinOp a0 a1 a2 a3=>exact fun _=>f a0 a1 a2 a3
 | _=>exact nobE
theorem ZG {x:ϓ}{Q:ϓ->Prop}(h:Ι x.ctorIdx 3=true) (f:∀ a0 a1 a2,Q (.UnaryOp a0 a1 a2)):Q x:=by
 revert h
 cases x with
 | UnaryOp a0 a1 a2=>exact fun _=>f a0 a1 a2
 | _=>exact nobE
theorem zc0 {x:ϓ}{Q:ϓ->Prop}(h:Ι x.ctorIdx 5=true) (f:∀ a0 a1 a2 a3,Q (.IfExp a0 a1 a2 a3)):Q x:=by
 revert h
 cases x with
 | IfExp a0 a1 a2 a3=>exact fun _=>f a0 a1 a2 a3
 | _=>exact nobE
theorem zbr {x:ϓ}{Q:ϓ->Prop}(h:Ι x.ctorIdx 6=true) (f:∀ a0 a1 a2,Q (.Dict a0 a1 a2)):Q x:=by
 revert h
 cases x with
 | Dict a0 a1 a2=>exact fun _=>f a0 a1 a2
 | _=>exact nobE
theorem jD {x:ϓ}{Q:ϓ->Prop}(h:Ι x.ctorIdx 8=true) (f:∀ a0 a1 a2 a3,Q (.ListComp a0 a1 a2 a3)):Q x:=by
 revert h
 cases x with
 | ListComp a0 a1 a2 a3=>exact fun _=>f a0 a1 a2 a3
 | _=>exact nobE
theorem ZK {x:ϓ}{Q:ϓ->Prop}(h:Ι x.ctorIdx 15=true) (f:∀ a0 a1 a2 a3,Q (.Compare a0 a1 a2 a3)):Q x:=by
 revert h
 cases x with
 | Compare a0 a1 a2 a3=>exact fun _=>f a0 a1 a2 a3
 | _=>exact nobE
theorem ux {x:ϓ}{Q:ϓ->Prop}(h:Ι x.ctorIdx 16=true) (f:∀ a0 a1 a2 a3,Q (.Call a0 a1 a2 a3)):Q x:=by
 revert h
 cases x with
 | Call a0 a1 a2 a3=>exact fun _=>f a0 a1 a2 a3
 | _=>exact nobE
theorem jE {x:ϓ}{Q:ϓ->Prop}(h:Ι x.ctorIdx 19=true) (f:∀ a0 a1 a2,Q (.Constant a0 a1 a2)):Q x:=by
 revert h
 cases x with
 | Constant a0 a1 a2=>exact fun _=>f a0 a1 a2
 | _=>exact nobE
theorem zc2 {x:ϓ}{Q:ϓ->Prop}(h:Ι x.ctorIdx 20=true) (f:∀ a0 a1 a2,Q (.Attribute a0 a1 a2)):Q x:=by
 revert h
 cases x with
 | Attribute a0 a1 a2=>exact fun _=>f a0 a1 a2
 | _=>exact nobE
theorem uv {x:ϓ}{Q:ϓ->Prop}(h:Ι x.ctorIdx 21=true) (f:∀ a0 a1 a2,Q (.Subscript a0 a1 a2)):Q x:=by
 revert h
 cases x with
 | Subscript a0 a1 a2=>exact fun _=>f a0 a1 a2
 | _=>exact nobE
theorem xX {x:ϓ}{Q:ϓ->Prop}(h:Ι x.ctorIdx 23=true) (f:∀ a0 a1,Q (.Name a0 a1)):Q x:=by
 revert h
 cases x with
 | Name a0 a1=>exact fun _=>f a0 a1
 | _=>exact nobE
theorem ofList {x:ϓ}{Q:ϓ->Prop}(h:Ι x.ctorIdx 24=true) (f:∀ a0 a1,Q (.List a0 a1)):Q x:=by
 revert h
 cases x with
 | List a0 a1=>exact fun _=>f a0 a1
 | _=>exact nobE
theorem zcX {x:ϓ}{Q:ϓ->Prop}(h:Ι x.ctorIdx 25=true) (f:∀ a0 a1 a2,Q (.Tuple a0 a1 a2)):Q x:=by
 revert h
 cases x with
 | Tuple a0 a1 a2=>exact fun _=>f a0 a1 a2
 | _=>exact nobE
theorem zcY {x:ϓ}{Q:ϓ->Prop}(h:Ι x.ctorIdx 26=true) (f:∀ a0 a1 a2 a3,Q (.Slice a0 a1 a2 a3)):Q x:=by
 revert h
 cases x with
 | Slice a0 a1 a2 a3=>exact fun _=>f a0 a1 a2 a3
 | _=>exact nobE
theorem uw {x:aq}{Q:aq->Prop}(h:Ι x.ctorIdx 5=true) (f:∀ a0 a1 a2,Q (.Assign a0 a1 a2)):Q x:=by
 revert h
 cases x with
 | Assign a0 a1 a2=>exact fun _=>f a0 a1 a2
 | _=>exact nobE
theorem Y7 {x:aq}{Q:aq->Prop}(h:Ι x.ctorIdx 24=true) (f:∀ a0 a1,Q (.Expr a0 a1)):Q x:=by
 revert h
 cases x with
 | Expr a0 a1=>exact fun _=>f a0 a1
 | _=>exact nobE
theorem ZJ {x:aq}{Q:aq->Prop}(h:Ι x.ctorIdx 3=true) (f:∀ a0 a1,Q (.Return a0 a1)):Q x:=by
 revert h
 cases x with
 | Return a0 a1=>exact fun _=>f a0 a1
 | _=>exact nobE
theorem ofSIf {x:aq}{Q:aq->Prop}(h:Ι x.ctorIdx 12=true) (f:∀ a0 a1 a2 a3,Q (.If a0 a1 a2 a3)):Q x:=by
 revert h
 cases x with
 | If a0 a1 a2 a3=>exact fun _=>f a0 a1 a2 a3
 | _=>exact nobE
theorem zap {x:aq}{Q:aq->Prop}(h:Ι x.ctorIdx 11=true) (f:∀ a0 a1 a2 a3,Q (.While a0 a1 a2 a3)):Q x:=by
 revert h
 cases x with
 | While a0 a1 a2 a3=>exact fun _=>f a0 a1 a2 a3
 | _=>exact nobE
theorem zfa {x:aq}{Q:aq->Prop}(h:Ι x.ctorIdx 9=true) (f:∀ a0 a1 a2 a3 a4,Q (.For a0 a1 a2 a3 a4)):Q x:=by
 revert h
 cases x with
 | For a0 a1 a2 a3 a4=>exact fun _=>f a0 a1 a2 a3 a4
 | _=>exact nobE
theorem zcZ {x:aq}{Q:aq->Prop}(h:Ι x.ctorIdx 25=true) (f:∀ a0,Q (.Pass a0)):Q x:=by
 revert h
 cases x with
 | Pass a0=>exact fun _=>f a0
 | _=>exact nobE
theorem zaq {x:aq}{Q:aq->Prop}(h:Ι x.ctorIdx 26=true) (f:∀ a0,Q (.Break a0)):Q x:=by
 revert h
 cases x with
 | Break a0=>exact fun _=>f a0
 | _=>exact nobE
theorem Y8 {x:aq}{Q:aq->Prop}(h:Ι x.ctorIdx 27=true) (f:∀ a0,Q (.Continue a0)):Q x:=by
 revert h
 cases x with
 | Continue a0=>exact fun _=>f a0
 | _=>exact nobE
structure EnvO (Γ:Gm) (Hz H:Hp) (g:G) (ρ:List Slot) (σ:L2.St):Prop where
 len:ρ.length=σ.length
 sh:∀ (i:Nat) (d:D),ρ[i]?=some (.sh d)->∃ v,σ[i]?=some (some v)/\Has Γ g d v
 ow:∀ (i:Nat) (d:D),ρ[i]?=some (.ow d)->∃ a,σ[i]?=some (some (.ref a))/\Hz a=none/\g.R a=none/\a ∉ g.α/\zK Γ H g a d/\isIns d=false
 inj:∀ (i j:Nat) (d e:D) (a:Addr),ρ[i]?=some (.ow d)->ρ[j]?=some (.ow e)->σ[i]?=some (some (.ref a))->σ[j]?=some (some (.ref a))->i=j
section
variable {Γ:Gm}{H H':Hp}{g g':G}{S:Store}{a:Addr}
theorem WOk.zA {o:HO}(w:WOk Γ H g S) (hr:g.R a=none) (ha:a ∉ g.α):WOk Γ (upd H a o) g S where
 rh:=fun b u q=>by
  have e:=w.rh b u q
  have:b≠a:=by rintro rfl;rw [hr] at q;cases q
  rw [zc this];exact e
 len:=w.len
 nd:=w.nd
 off:=w.off
 cell:=fun k c b h1 h2=>(w.cell k c b h1 h2).mono (Le.refl g) fun o e=>by
  have:b≠a:=by rintro rfl;exact ha (ϝ h2)
  rw [zc this];exact e
theorem Step.zA {o:HO}(s:Step H g H' g') (h:H a=none):Step H g (upd H' a o) g' where
 le:=s.le
 fr:=fun b u e n=>by rw [zc (zf e h)];exact s.fr b u e n
 ex:=fun b u e=>by rw [zc (zf e h)];exact s.ex b u e
 na:=s.na
 nr:=s.nr
theorem Step.kept {o:HO}(s:Step H g H' g') (h:H a=some o) (hr:g.R a=none) (ha:a ∉ g.α) (hm:MutF o:=by trivial):H' a=some o/\g'.R a=none/\a ∉ g'.α:=by
 refine ⟨s.fr a o h ha,?_,fun m=>?_⟩
 ·cases q:g'.R a with
  | none=>rfl
  | some u=>
   rcases s.nr a (by rw [q];simp) with z | z | z | ⟨xs,z⟩
   ·exact absurd hr z
   ·rw [h] at z;cases z
   ·exact absurd z ha
   ·rw [h] at z;cases z;exact hm.elim
 ·rcases s.na a m with z | z
  ·exact ha z
  ·rw [h] at z;cases z
end
section
variable {Γ:Gm}{Hz H H':Hp}{g g':G}{S:Store}{ρ:List Slot}{σ:L2.St}
theorem zm (env:EnvO Γ Hz H g ρ σ) (st:Step H g H' g'):EnvO Γ Hz H' g' ρ σ:=by
 refine ⟨env.len,fun i d h=>?_,fun i d h=>?_,env.inj⟩
 ·obtain ⟨v,h1,h2⟩:=env.sh i d h
  exact ⟨v,h1,h2.mono st.le⟩
 ·obtain ⟨a,h1,h2,h3,h4,h5,h6⟩:=env.ow i d h
  obtain ⟨o,ho,hm⟩:=h5.isMut
  obtain ⟨k1,k2,k3⟩:=st.kept ho h3 h4 hm
  exact ⟨a,h1,h2,k2,k3,h5.mono st.le fun o' z=>by rw [ho] at z;cases z;exact k1,h6⟩
def VN (Γ:Gm) (Hb:Hp) (x:Vl) (v:V) (H:Hp) (g:G):Prop:=match x.2 with
 | .st=>Has Γ g x.1 v
 | .fr=>∃ a,v=.ref a/\Hb a=none/\g.R a=none/\a ∉ g.α/\zK Γ H g a x.1
 | .bo=>∃ a,v=.ref a/\g.R a=none/\a ∉ g.α/\zK Γ H g a x.1
theorem VN.of {Hb:Hp}{d:D}{fr:Bool}{v:V}(h:VOk Γ Hb d fr v H g):VN Γ Hb (ofB (d,fr)) v H g:=by
 cases fr <;> exact h
theorem VN.back {H1:Hp}{g1:G}{x:Vl}{v:V}(h:VN Γ H1 x v H' g') (s:Step H g H1 g1):VN Γ H x v H' g':=by
 obtain ⟨d,k⟩:=x
 cases k with
 | fr=>
  obtain ⟨a,e,h0,r⟩:=h
  exact ⟨a,e,s.WP h0,r⟩
 | _=>exact h
theorem VN.step {Hb:Hp}{x:Vl}{v:V}(h:VN Γ Hb x v H g) (s:Step H g H' g'):VN Γ Hb x v H' g':=by
 obtain ⟨d,k⟩:=x
 cases k with
 | st=>exact (show Has Γ g d v from h).mono s.le
 | fr=>
  obtain ⟨a,e,h0,h1,h2,h3⟩:=h
  obtain ⟨o,ho,hm⟩:=h3.isMut
  obtain ⟨k1,k2,k3⟩:=s.kept ho h1 h2 hm
  exact ⟨a,e,h0,k2,k3,h3.mono s.le fun o' q=>by rw [ho] at q;cases q;exact k1⟩
 | bo=>
  obtain ⟨a,e,h1,h2,h3⟩:=h
  obtain ⟨o,ho,hm⟩:=h3.isMut
  obtain ⟨k1,k2,k3⟩:=s.kept ho h1 h2 hm
  exact ⟨a,e,k2,k3,h3.mono s.le fun o' q=>by rw [ho] at q;cases q;exact k1⟩
theorem Vi {a:Addr}{d:D}(hr:g.R a=none) (h:zK Γ H g a d):Rdb Γ H g (deref S d) (.ref a):=by
 cases d with
 | lst ds=>obtain ⟨vs,h1,h2⟩:=h;exact ⟨a,vs,rfl,h1,h2⟩
 | dK ks ds=>obtain ⟨vs,h1,h3,h2⟩:=h;exact ⟨a,vs,rfl,h1,h3,h2⟩
 | dT ks ds=>obtain ⟨vs,h1,h3,h2⟩:=h;exact ⟨a,vs,rfl,h1,h3,h2⟩
 | ref=>obtain ⟨o,h1,_⟩:=h;rw [hr] at h1;cases h1
 | _=>exact h.elim
theorem VN.rdb {Hb:Hp}{x:Vl}{v:V}(h:VN Γ Hb x v H g) (w:WOk Γ H g S):Rdb Γ H g (deref S x.1) v:=by
 obtain ⟨d,k⟩:=x
 cases k with
 | st=>exact zbd w h
 | fr=>obtain ⟨a,rfl,_,h1,_,h3⟩:=h;exact Vi h1 h3
 | bo=>obtain ⟨a,rfl,h1,_,h3⟩:=h;exact Vi h1 h3
theorem VN.sc {Hb:Hp}{d:D}{k:Kd}{v:V}(h:VN Γ Hb (d,k) v H g) (hc:∀ a,¬ zK Γ H g a d):Has Γ g d v:=by
 cases k with
 | st=>exact h
 | fr=>obtain ⟨a,_,_,_,_,h3⟩:=h;exact (hc a h3).elim
 | bo=>obtain ⟨a,_,_,_,h3⟩:=h;exact (hc a h3).elim
theorem VN.keep {x:Vl}{v:V}{Q:D->Prop}(h:VN Γ H x v H' g') (st:Step H g H' g') (w:WOk Γ H' g' S) (k:EV.keep x Q):∃ g2,Step H g H' g2/\WOk Γ H' g2 S/\Has Γ g2 x.1 v/\Q x.1:=by
 obtain ⟨d,kk⟩:=x
 cases kk with
 | st=>exact ⟨g',st,w,h,k⟩
 | fr=>
  obtain ⟨g2,a,b,c,_⟩:=freeze (fr:=true) st w h rfl
  exact ⟨g2,a,b,c,k⟩
 | bo=>exact k.elim
end
def TX (Γ:Gm) (cf:Cf) (e:E):TE:=fun σ H Q=>∃ ρ S V g Hz,wpE cf ρ e V S/\WOk Γ H g S/\EnvO Γ Hz H g ρ σ/\∀ x v H' g' S',Step H g H' g'->WOk Γ H' g' S'->VN Γ H x v H' g'->V x S'->Q v H'
def TB (Γ:Gm) (cf:Cf) (e:E):TT:=fun σ H Q=>∃ ρ S V g Hz,wpE cf ρ e V S/\WOk Γ H g S/\EnvO Γ Hz H g ρ σ/\∀ x H' g' S',Step H g H' g'->WOk Γ H' g' S'->V x S'->isB x.1 fun b=>Q b H'
def TXs (Γ:Gm) (cf:Cf) (es:List E):TA:=fun σ H Q=>∃ ρ S W g Hz,wpEs cf ρ es W S/\WOk Γ H g S/\EnvO Γ Hz H g ρ σ/\∀ ds vs H' g' S',Step H g H' g'->WOk Γ H' g' S'->Hass Γ g' ds vs->W ds S'->Q vs H'
def TXo (Γ:Gm) (cf:Cf) (o:Option E):TO:=fun σ H Q=>∃ ρ S W g Hz,wpO cf ρ o W S/\WOk Γ H g S/\EnvO Γ Hz H g ρ σ/\∀ i H' g' S',Step H g H' g'->WOk Γ H' g' S'->W i S'->Q i H'
section
variable {Γ:Gm}{cf:Cf}{σ:L2.St}{H:Hp}{P:Prop}
theorem goX {e:E}{Q:VK}(h:TX Γ cf e σ H Q) (f:∀ ρ S V g Hz,wpE cf ρ e V S->WOk Γ H g S->EnvO Γ Hz H g ρ σ->(∀ x v H' g' S',Step H g H' g'->WOk Γ H' g' S'->VN Γ H x v H' g'->V x S'->Q v H')->P):P:=
 let ⟨ρ,S,V,g,Hz,a,b,c,d⟩:=h;f ρ S V g Hz a b c d
theorem goB {e:E}{Q} (h:TB Γ cf e σ H Q) (f:∀ ρ S V g Hz,wpE cf ρ e V S->WOk Γ H g S->EnvO Γ Hz H g ρ σ->(∀ x H' g' S',Step H g H' g'->WOk Γ H' g' S'->V x S'->isB x.1 fun b=>Q b H')->P):P:=
 let ⟨ρ,S,V,g,Hz,a,b,c,d⟩:=h;f ρ S V g Hz a b c d
theorem goS {es:List E}{Q} (h:TXs Γ cf es σ H Q) (f:∀ ρ S W g Hz,wpEs cf ρ es W S->WOk Γ H g S->EnvO Γ Hz H g ρ σ->(∀ ds vs H' g' S',Step H g H' g'->WOk Γ H' g' S'->Hass Γ g' ds vs->W ds S'->Q vs H')->P):P:=
 let ⟨ρ,S,V,g,Hz,a,b,c,d⟩:=h;f ρ S V g Hz a b c d
theorem goO {o:Option E}{Q} (h:TXo Γ cf o σ H Q) (f:∀ ρ S W g Hz,wpO cf ρ o W S->WOk Γ H g S->EnvO Γ Hz H g ρ σ->(∀ i H' g' S',Step H g H' g'->WOk Γ H' g' S'->W i S'->Q i H')->P):P:=
 let ⟨ρ,S,V,g,Hz,a,b,c,d⟩:=h;f ρ S V g Hz a b c d
end
def rAny (X:Cx) (f:δ->δ->Sem δ):R2:=fun x y H Q=>∃ r,OpR X f r/\r x y H Q
theorem opAny {X:Cx}{f:δ->δ->Sem δ}:OpR X f (rAny X f):=fun pJ s σ H x y v u Q I rx ry ⟨_,h,q⟩=>h pJ s σ H x y v u Q I rx ry q
def ixAny (X:Cx):R2:=fun x y H Q=>∃ r,IxR X r/\r x y H Q
theorem zfv {X:Cx}:IxR X (ixAny X):=fun a b pJ s σ H x y v u Q I rx ry ⟨_,h,q⟩=>h a b pJ s σ H x y v u Q I rx ry q
def slAny (X:Cx):V->Option Int->Option Int->Hp->VK->Prop:=fun x l u H Q=>∃ r,SlR X r/\r x l u H Q
theorem zeh {X:Cx}:SlR X (slAny X):=fun pJ s σ H x v vl vu lo hi sl Q I rx hs pl pu ⟨_,h,q⟩=>h pJ s σ H x v vl vu lo hi sl Q I rx hs pl pu q
def clAny (X:Cx) (f:δ):List V->Hp->VK->Prop:=fun xs H Q=>∃ r,CallR X f r/\r xs H Q
theorem Yj {X:Cx}{f:δ}:CallR X f (clAny X f):=fun pJ s σ H xs us Q I rv ⟨_,h,q⟩=>h pJ s σ H xs us Q I rv q
section
variable {X:Cx}{Γ:Gm}{cf:Cf}{x y z:Expr}{pos p:Pos}{a b c:E}
theorem s_var {i:Nat}{n:Str}(hN:X.N[i]?=some n) (hv:Vis X.env.scope n) (hd:(n==("__debug__":Str))=false) (hcd:(n==("__classdict__":Str))=false):PE X (.Name n pos) (TX Γ cf (.var i)):=by
 refine (ZC hN hv hd hcd).imp fun σ H Q h0=>goX h0 fun ρ S V g Hz hw w env k=>?_
 have hw:sel ρ[i]? (fun d=>V (d,.st) S) (fun d=>V (d,.bo) S):=hw
 cases e:ρ[i]? with
 | none=>rw [e] at hw;exact hw.elim
 | some s=>
  rw [e] at hw
  cases s with
  | no=>exact hw.elim
  | sh d=>
   obtain ⟨v,h1,h2⟩:=env.sh i d e
   exact ⟨v,h1,k (d,.st) v H g S (Step.refl H g) w h2 hw⟩
  | ow d=>
   obtain ⟨a,h1,h2,h3,h4,h5,_⟩:=env.ow i d e
   exact ⟨_,h1,k (d,.bo) _ H g S (Step.refl H g) w ⟨a,rfl,h3,h4,h5⟩ hw⟩
theorem s_con {t:V}{d:D}{e:E}(h:PE X x (tC t)) (hd:∀ g,Has Γ g d t) (he:∀ ρ V S,wpE cf ρ e V S->V (d,.st) S):PE X x (TX Γ cf e):=h.imp fun σ H Q h0=>goX h0 fun ρ S V g Hz hw w env k=>k (d,.st) _ H g S (Step.refl H g) w (hd g) (he _ _ _ hw)
theorem two {G1:V->V->Hp->Prop}{σ:L2.St}{H:Hp}{ρ:List Slot}{S:Store}{g:G}{Hz:Hp}{W:Vl->Vl->Store->Prop}(hw:wpE cf ρ a (fun x S1=>wpE cf ρ b (fun y S2=>W x y S2) S1) S) (w:WOk Γ H g S) (env:EnvO Γ Hz H g ρ σ)
  (k:∀ x y u v H' g' S',Step H g H' g'->WOk Γ H' g' S'->VN Γ H x u H' g'->VN Γ H y v H' g'->W x y S'->G1 u v H'):TX Γ cf a σ H fun u H1=>TX Γ cf b σ H1 fun v H2=>G1 u v H2:=
 ⟨ρ,S,_,g,Hz,hw,w,env,fun x u H1 g1 S1 st1 w1 v1 h1=>⟨ρ,S1,_,g1,Hz,h1,w1,zm env st1,fun y v H2 g2 S2 st2 w2 v2 h2=>k x y u v H2 g2 S2 (st1.trans st2) w2 (v1.step st2) (v2.back st1) h2⟩⟩
theorem s_bin {op:mV}(hK:X.K=Γ.K) (ha:PE X x (TX Γ cf a)) (hb:PE X y (TX Γ cf b)):PE X (.BinOp x op y pos) (TX Γ cf (.bin op a b)):=
 (pe_op opAny ha hb).imp fun σ H Q h0=>goX h0 fun ρ S V g Hz hw w env k=>two hw w env fun x y u v H' g' S' st w' vx vy h=>by
  have h:opt (opD op (deref S' x.1) (deref S' y.1)) (fun p=>V (ofB p) S'):=h
  cases eo:opD op (deref S' x.1) (deref S' y.1) with
  | none=>rw [eo] at h;exact h.elim
  | some p=>
   rw [eo] at h
   obtain ⟨r,h1,h2⟩:=ze0 (X:=X) hK eo
   exact ⟨r,h1,h2 S' H' g' u v Q w' (vx.rdb w') (vy.rdb w') fun t H2 g2 st2 _ w2 vo=>k _ t H2 g2 S' (st.trans st2) w2 ((VN.of vo).back st) h⟩
theorem cmp2 {op:fD}{u v:V}{dx dy:Vl}{Hb H':Hp}{g':G}{S':Store}{Q:VK}{T:Bool->Prop}(hK:X.K=Γ.K) (hu:X.A.units+61 < ϲ) (w':WOk Γ H' g' S') (vx:VN Γ Hb dx u H' g') (vy:VN Γ Hb dy v H' g') (h:opt (cmpD op (deref S' dx.1) (deref S' dy.1)) T)
  (k:∀ r H2 g2,Step H' g' H2 g2->WOk Γ H2 g2 S'->T r->Q (.bl r) H2):rAny X (ϊ op) u v H' Q:=by
 cases eo:cmpD op (deref S' dx.1) (deref S' dy.1) with
 | none=>rw [eo] at h;exact h.elim
 | some r=>
  rw [eo] at h
  obtain ⟨r2,h1,h2⟩:=zdI (X:=X) hK hu eo
  refine ⟨r2,h1,h2 S' H' g' u v Q w' (vx.rdb w') (vy.rdb w') fun t H2 g2 st2 _ w2 vo=>?_⟩
  cases (show t=.bl r from vo)
  exact k r H2 g2 st2 w2 h
theorem s_cmp {op:fD}(hK:X.K=Γ.K) (hu:X.A.units+61 < ϲ) (ha:PE X x (TX Γ cf a)) (hb:PE X y (TX Γ cf b)) (hm:behindInMarks op y=false):PE X (.Compare x [op] [y] pos) (TX Γ cf (.cmp op a b))/\PT X (.Compare x [op] [y] pos) (TB Γ cf (.cmp op a b)):=
 ⟨(zcL opAny ha hb hm).imp fun σ H Q h0=>goX h0 fun ρ S V g Hz hw w env k=>two hw w env fun x y u v H' g' S' st w' vx vy h=>cmp2 hK hu w' vx vy h fun r H2 g2 st2 w2 h=>k (.bl r,.st) _ H2 g2 S' (st.trans st2) w2 rfl h,
 (zcz opAny ha hb hm).imp fun σ H Q h0=>goB h0 fun ρ S V g Hz hw w env k=>two hw w env fun x y u v H' g' S' st w' vx vy h=>cmp2 hK hu w' vx vy h fun r H2 g2 st2 w2 h=>⟨r,rfl,k (.bl r,.st) H2 g2 S' (st.trans st2) w2 h⟩⟩
theorem chn3 {o1 o2:fD}{σ:L2.St}{H:Hp}{Q:VK}{ρ:List Slot}{S:Store}{g:G}{Hz:Hp}{V:Po}(hK:X.K=Γ.K) (hu:X.A.units+61 < ϲ) (hw:wpE cf ρ (.chn o1 o2 a b c) V S) (w:WOk Γ H g S) (env:EnvO Γ Hz H g ρ σ)
  (k:∀ r H' g' S',Step H g H' g'->WOk Γ H' g' S'->V (.bl r,.st) S'->Q (.bl r) H'):UT (rAny X (ϊ o1)) (rAny X (ϊ o2)) (TX Γ cf a) (TX Γ cf b) (TX Γ cf c) σ H Q:=
 two hw w env fun x y u v H' g' S' st w' vx vy h=>cmp2 hK hu w' vx vy h fun r H2 g2 st2 w2 h=>⟨r,rfl,by
  cases r with
  | false=>exact iteF (k false H2 g2 S' (st.trans st2) w2 h)
  | true=>exact iteT ⟨ρ,S',_,g2,Hz,h,w2,zm env (st.trans st2),fun z t H3 g3 S3 st3 w3 vz h3=>cmp2 hK hu w3 (vy.step (st2.trans st3)) (vz.back (st.trans st2)) h3 fun r H4 g4 st4 w4 h4=>k r H4 g4 S3 (((st.trans st2).trans st3).trans st4) w4 h4⟩⟩
theorem s_chn {o1 o2:fD}(hK:X.K=Γ.K) (hu:X.A.units+61 < ϲ) (ha:PE X x (TX Γ cf a)) (hb:PE X y (TX Γ cf b)) (hc:PE X z (TX Γ cf c)) (hm:lastMarks [o1,o2] [y,z]=false):PE X (.Compare x [o1,o2] [y,z] pos) (TX Γ cf (.chn o1 o2 a b c))/\PT X (.Compare x [o1,o2] [y,z] pos) (TB Γ cf (.chn o1 o2 a b c)):=
 ⟨(zaj opAny opAny ha hb hc hm).imp fun σ H Q h0=>goX h0 fun ρ S V g Hz hw w env k=>chn3 hK hu hw w env fun r H' g' S' st w' h=>k (.bl r,.st) _ H' g' S' st w' rfl h,
 (Q5 opAny opAny ha hb hc hm).imp fun σ H Q h0=>goB h0 fun ρ S V g Hz hw w env k=>chn3 hK hu hw w env fun r H' g' S' st w' h=>⟨r,rfl,k _ H' g' S' st w' h⟩⟩
theorem ww {d:D}{Q:Bool->Prop}(h:isB d Q):∃ b,d=.bl b/\Q b:=by
 cases d with
 | bl b=>exact ⟨b,rfl,h⟩
 | _=>exact h.elim
theorem zfH {d:D}{Q:Int->Prop}(h:isZ d Q):∃ b,d=.int b/\Q b:=by
 cases d with
 | int b=>exact ⟨b,rfl,h⟩
 | _=>exact h.elim
theorem VN.bl {Hb H:Hp}{g:G}{x:Vl}{v:V}{Q:Bool->Prop}(h:VN Γ Hb x v H g) (k:isB x.1 Q):∃ b,v=.bl b/\Q b:=by
 obtain ⟨d,kk⟩:=x
 obtain ⟨b,rfl,q⟩:=ww k
 exact ⟨b,h.sc fun _ z=>z.elim,q⟩
theorem VN.int {Hb H:Hp}{g:G}{x:Vl}{v:V}{Q:Int->Prop}(h:VN Γ Hb x v H g) (k:isZ x.1 Q):∃ b,v=.int b/\Q b:=by
 obtain ⟨d,kk⟩:=x
 obtain ⟨b,rfl,q⟩:=zfH k
 exact ⟨b,h.sc fun _ z=>z.elim,q⟩
theorem s_neg (h:PE X x (TX Γ cf a)):PE X (.UnaryOp .USub x pos) (TX Γ cf (.neg a)):=
 (pe_un zdW h).imp fun σ H Q h0=>goX h0 fun ρ S V g Hz hw w env k=>⟨ρ,S,_,g,Hz,hw,w,env,fun x v H' g' S' st w' vx h=>by
  obtain ⟨i,e,q⟩:=vx.int h
  exact ⟨i,e,k (.int (-i),.st) _ H' g' S' st w' rfl q⟩⟩
theorem zek (h:PE X x (TX Γ cf a)) (he:∀ whole,lG x X.env whole=(do let v <- whole;standAt x.pos;gU [v] (truthy v))):PT X x (TB Γ cf a):=
 (zeI h he).imp fun σ H Q h0=>goB h0 fun ρ S V g Hz hw w env k=>⟨ρ,S,_,g,Hz,hw,w,env,fun x v H' g' S' st w' vx h=>vx.bl (k x H' g' S' st w' h)⟩
theorem zeu (h:PT X x (TB Γ cf a)):PT X (.UnaryOp .Not x pos) (TB Γ cf (.not a)):=
 (zeJ h).imp fun σ H Q h0=>goB h0 fun ρ S V g Hz hw w env k=>⟨ρ,S,_,g,Hz,hw,w,env,fun x H' g' S' st w' h=>by
  obtain ⟨b,e,q⟩:=ww h
  rw [e]
  exact k (.bl (!b),.st) H' g' S' st w' q⟩
theorem s_not (h:PE X x (TX Γ cf a)):PE X (.UnaryOp .Not x pos) (TX Γ cf (.not a)):=
 (zeR h).imp fun σ H Q h0=>goX h0 fun ρ S V g Hz hw w env k=>⟨ρ,S,_,g,Hz,hw,w,env,fun x v H' g' S' st w' vx h=>by
  obtain ⟨b,e,q⟩:=vx.bl h
  exact ⟨b,e,k (.bl (!b),.st) _ H' g' S' st w' rfl q⟩⟩
end
section
variable {X:Cx}{Γ:Gm}{cf:Cf}{x y z:Expr}{pos p:Pos}{a b c:E}
theorem tx_go {σ:L2.St}{H H1:Hp}{g g1:G}{Q:VK}{ρ:List Slot}{V:Po}{S1:Store}{Hz:Hp}(st:Step H g H1 g1) (w1:WOk Γ H1 g1 S1) (env:EnvO Γ Hz H g ρ σ) (k:∀ x v H' g' S',Step H g H' g'->WOk Γ H' g' S'->VN Γ H x v H' g'->V x S'->Q v H') (hw:wpE cf ρ a V S1):TX Γ cf a σ H1 Q:=
 ⟨ρ,S1,V,g1,Hz,hw,w1,zm env st,fun y u H2 g2 S2 st2 w2 vy hy=>k y u H2 g2 S2 (st.trans st2) w2 (vy.back st) hy⟩
theorem tb_go {σ:L2.St}{H H1:Hp}{g g1:G}{Q:Bool->Hp->Prop}{ρ:List Slot}{V:Po}{S1:Store}{Hz:Hp}(st:Step H g H1 g1) (w1:WOk Γ H1 g1 S1) (env:EnvO Γ Hz H g ρ σ) (k:∀ x H' g' S',Step H g H' g'->WOk Γ H' g' S'->V x S'->isB x.1 fun b=>Q b H') (hw:wpE cf ρ a V S1):TB Γ cf a σ H1 Q:=
 ⟨ρ,S1,V,g1,Hz,hw,w1,zm env st,fun y H2 g2 S2 st2 w2 hy=>k y H2 g2 S2 (st.trans st2) w2 hy⟩
theorem s_and {rest:List Expr}(ha:PE X x (TX Γ cf a)) (hb:PE X (.BoolOp .And (y::rest) pos) (TX Γ cf b)):PE X (.BoolOp .And (x::y::rest) pos) (TX Γ cf (.and a b)):=
 (zeU ha hb).imp fun σ H Q h0=>goX h0 fun ρ S V g Hz hw w env k=>⟨ρ,S,_,g,Hz,hw,w,env,fun x v H1 g1 S1 st w1 vx h=>by
  obtain ⟨r,e,q⟩:=vx.bl h
  refine ⟨r,e,?_⟩
  cases r with
  | false=>exact iteF (k (.bl false,.st) _ H1 g1 S1 st w1 rfl q)
  | true=>exact iteT (tx_go st w1 env k q)⟩
theorem s_or {rest:List Expr}(ha:PE X x (TX Γ cf a)) (hb:PE X (.BoolOp .Or (y::rest) pos) (TX Γ cf b)):PE X (.BoolOp .Or (x::y::rest) pos) (TX Γ cf (.or a b)):=
 (pe_or ha hb).imp fun σ H Q h0=>goX h0 fun ρ S V g Hz hw w env k=>⟨ρ,S,_,g,Hz,hw,w,env,fun x v H1 g1 S1 st w1 vx h=>by
  obtain ⟨r,e,q⟩:=vx.bl h
  refine ⟨r,e,?_⟩
  cases r with
  | true=>exact iteT (k (.bl true,.st) _ H1 g1 S1 st w1 rfl q)
  | false=>exact iteF (tx_go st w1 env k q)⟩
theorem PW.impE {t t':TT}(h:PW X x t) (i:∀ σ H Q,t' σ H Q->t σ H Q):PW X x t':=fun wh pJ s σ H Q I q=>h wh pJ s σ H Q I (i σ H Q q)
theorem zeC {rest:List Expr}(ha:PT X x (TB Γ cf a)) (hb:PW X (.BoolOp .And (y::rest) pos) (TB Γ cf b)):PW X (.BoolOp .And (x::y::rest) pos) (TB Γ cf (.and a b)):=
 PW.impE (zeH ha hb) fun σ H Q h0=>goB h0 fun ρ S V g Hz hw w env k=>⟨ρ,S,_,g,Hz,hw,w,env,fun x H1 g1 S1 st w1 h=>by
  obtain ⟨r,e,q⟩:=ww h
  rw [e]
  show (if r=true then _ else _)
  cases r with
  | false=>exact iteF (k (.bl false,.st) H1 g1 S1 st w1 q)
  | true=>exact iteT (tb_go st w1 env k q)⟩
theorem s_orW {rest:List Expr}(ha:PT X x (TB Γ cf a)) (hb:PW X (.BoolOp .Or (y::rest) pos) (TB Γ cf b)):PW X (.BoolOp .Or (x::y::rest) pos) (TB Γ cf (.or a b)):=
 PW.impE (pw_or ha hb) fun σ H Q h0=>goB h0 fun ρ S V g Hz hw w env k=>⟨ρ,S,_,g,Hz,hw,w,env,fun x H1 g1 S1 st w1 h=>by
  obtain ⟨r,e,q⟩:=ww h
  rw [e]
  show (if r=true then _ else _)
  cases r with
  | true=>exact iteT (k (.bl true,.st) H1 g1 S1 st w1 q)
  | false=>exact iteF (tb_go st w1 env k q)⟩
theorem zbb {op:oh}(h:PT X x (TB Γ cf a)):PW X (.BoolOp op [x] pos) (TB Γ cf (.one a)):=by
 cases op with
 | And=>exact zct h
 | Or=>exact zeG h
theorem s_ite (hc:PT X x (TB Γ cf c)) (ha:PE X y (TX Γ cf a)) (hb:PE X z (TX Γ cf b)):PE X (.IfExp x y z pos) (TX Γ cf (.ite c a b)):=
 (zae hc ha hb).imp fun σ H Q h0=>goX h0 fun ρ S V g Hz hw w env k=>⟨ρ,S,_,g,Hz,hw,w,env,fun x H1 g1 S1 st w1 h=>by
  obtain ⟨r,e,q⟩:=ww h
  rw [e]
  show (if r=true then _ else _)
  cases r with
  | true=>exact iteT (tx_go st w1 env k q)
  | false=>exact iteF (tx_go st w1 env k q)⟩
theorem zb (h:notStar x=true) (xs:List Expr) (env:Env):Ϝ (x::xs) env=(false,eval x env)::Ϝ xs env:=by
 cases x <;> first | rfl | cases h
theorem s_nil:PA X [] (TXs Γ cf []):=xW.imp fun σ H Q h0=>goS h0 fun ρ S W g Hz hw w env k=>k [] [] H g S (Step.refl H g) w rfl hw
theorem args_cons {es:List E}{σ:L2.St}{H:Hp}{Q:List V->Hp->Prop}(h:TXs Γ cf (a::es) σ H Q):TX Γ cf a σ H fun v H1=>TXs Γ cf es σ H1 fun vs H2=>Q (v::vs) H2:=by
 obtain ⟨ρ,S,W,g,Hz,hw,w,env,k⟩:=h
 refine ⟨ρ,S,_,g,Hz,hw,w,env,fun x v H1 g1 S1 st w1 vx h=>?_⟩
 obtain ⟨g2,st2,w2,hx,q⟩:=vx.keep st w1 h
 exact ⟨ρ,S1,_,g2,Hz,q,w2,zm env st2,fun ds vs H3 g3 S3 st3 w3 hs h3=>k (x.1::ds) _ H3 g3 S3 (st2.trans st3) w3 ⟨v,vs,rfl,hx.mono st3.le,hs⟩ h3⟩
theorem zbc {xs:List Expr}{es:List E}(hs:notStar x=true) (h1:PE X x (TX Γ cf a)) (h2:PA X xs (TXs Γ cf es)):PA X (x::xs) (TXs Γ cf (a::es)):=
 (yf h1 h2 (zb hs _ _)).imp fun σ H Q h=>args_cons h
theorem xM {r:Bool}{T:Prop}(h:tst r T False):r=true/\T:=by
 cases r with
 | true=>exact ⟨rfl,h⟩
 | false=>exact h.elim
theorem zH {α:Type}{o:Option α}{Q:α->Prop}(h:opt o Q):∃ a,o=some a/\Q a:=by
 cases o with
 | some a=>exact ⟨a,rfl,h⟩
 | none=>exact h.elim
theorem s_tup {xs:List Expr}{es:List E}{kk:Nat}(h:PA X xs (TXs Γ cf es)):PE X (.Tuple xs kk pos) (TX Γ cf (.tup es)):=
 (zeP h).imp fun σ H Q h0=>goX h0 fun ρ S V g Hz hw w env k=>⟨ρ,S,_,g,Hz,hw,w,env,fun ds vs H1 g1 S1 st w1 hv h=>by
  obtain ⟨hf,q⟩:=xM h
  exact ⟨by rw [hv.len];exact yw hf,fun p hp=>qJ (Q:=Q) w1 (fun v H2 g2 st2 _ w2 vo=>k (.tup ds,.st) v H2 g2 S1 (st.trans st2) w2 vo q) hv hp⟩⟩
theorem s_lst {xs:List Expr}{es:List E}(h:PA X xs (TXs Γ cf es)):PE X (.List xs pos) (TX Γ cf (.lst es)):=
 (zeT h).imp fun σ H Q h0=>goX h0 fun ρ S V g Hz hw w env k=>⟨ρ,S,_,g,Hz,hw,w,env,fun ds vs H1 g1 S1 st w1 hv h=>by
  obtain ⟨hf,q⟩:=xM h
  exact ⟨by rw [hv.len];exact yw hf,fun p hp=>yJ (Q:=Q) w1 (fun v H2 g2 st2 _ w2 vo=>k (.lst ds,.fr) v H2 g2 S1 (st.trans st2) w2 ((VN.of (fr:=true) vo).back st) q) hv hp⟩⟩
set_option tactic.hygienic true in
theorem s_sub (hK:X.K=Γ.K) (hu:X.A.units+1 < ϲ) (ha:PE X x (TX Γ cf a)) (hb:PE X y (TX Γ cf b)) (hp:XN y):PE X (.Subscript x y pos) (TX Γ cf (.sub a b)):=
 (pe_ix zfv ha hb hp).imp fun σ H Q h0=>goX h0 fun ρ S V g Hz hw w env k=>two (G1:=fun u v H'=>ixAny X u v H' Q) hw w env fun x y u v H' g' S' st w' vx vy h=>by
  obtain ⟨d,eo,q⟩:=zH h
  obtain ⟨r,h1,h2⟩:=zfu (X:=X) hK hu eo
  have e:deref S' y.1=y.1:=by
   cases hy:y.1 with
   | ref n=>
    rw [hy] at eo
    unfold subD at eo;split at eo <;> first | cases eo | (rename_i hh;cases hh) | skip
    all_goals (simp [dgetD,keyD] at eo)
   | _=>rfl
  have vb:=vy.rdb w'
  rw [e] at vb
  exact ⟨r,h1,h2 S' H' g' u v Q w' (vx.rdb w') vb fun t H2 g2 st2 _ w2 vo=>k (d,.st) t H2 g2 S' (st.trans st2) w2 vo q⟩
theorem s_poN:PO X none (TXo Γ cf none):=fun pJ s σ H Q I h0=>goO h0 fun ρ S W g Hz hw w env k=>zcF pJ s σ H Q I (k none H g S (Step.refl H g) w hw)
theorem s_po (h:PE X x (TX Γ cf a)):PO X (some x) (TXo Γ cf (some a)):=fun pJ s σ H Q I h0=>goO h0 fun ρ S W g Hz hw w env k=>zcE h pJ s σ H Q I ⟨ρ,S,_,g,Hz,hw,w,env,fun x v H1 g1 S1 st w1 vx h=>by
 obtain ⟨i,e,q⟩:=vx.int h
 exact ⟨i,e,k (some i) H1 g1 S1 st w1 q⟩⟩
theorem s_slc {lo hi:Option Expr}{l u:Option E}{p2:Pos}(hK:X.K=Γ.K) (h:PE X x (TX Γ cf a)) (hl:PO X lo (TXo Γ cf l)) (hh:PO X hi (TXo Γ cf u)):PE X (.Subscript x (.Slice lo hi none p2) pos) (TX Γ cf (.slc a l u)):=
 (zad zeh h hl hh).imp fun σ H Q h0=>goX h0 fun ρ S V g Hz hw w env k=>⟨ρ,S,_,g,Hz,hw,w,env,fun x v H1 g1 S1 st1 w1 vx h1=>⟨ρ,S1,_,g1,Hz,h1,w1,zm env st1,fun i H2 g2 S2 st2 w2 h2=>⟨ρ,S2,_,g2,Hz,h2,w2,zm env (st1.trans st2),fun j H3 g3 S3 st3 w3 h3=>by
  obtain ⟨⟨d,fr⟩,eo,q⟩:=zH h3
  obtain ⟨r,r1,r2⟩:=zeg (X:=X) (Γ:=Γ) hK eo
  have st:=(st1.trans st2).trans st3
  exact ⟨r,r1,r2 S3 H3 g3 v Q w3 ((vx.step (st2.trans st3)).rdb w3) fun t H4 g4 st4 _ w4 vo=>k _ t H4 g4 S3 (st.trans st4) w4 ((VN.of vo).back st) q⟩⟩⟩⟩
end
end EV
namespace L2
open PySem PySem.Spec PyProof.Rows
noncomputable def cxG (X:Cx) (sc:dW) (cl:List (Str×Addr)) (xs:List Str) (js:List Nat) (C:Addr) (s3:μ) (H3:Hp) (fp:List Addr):Cx:=
 { X with N:=xs++js.map (fun j=>X.N.getD j ""),sy:=s3,Hz:=H3,env:=compEnvC sc cl C X.env,outer:=X.stack,stack:=X.stack,ex:=fp,fn:=fun _=>false,pn:=[],xe:=fun _ _=>False }
structure CompG (X:Cx) (sc:dW) (cl:List (Str×Addr)) (xs:List Str) (js:List Nat):Prop where
 clos:closureFor sc X.env=pure cl
 cell:∀ y∈sc.names,y.2≠.cell
 kind:sc.kind=.function
 names:∀ y∈sc.names,y.2=.local->sc.names.lookup y.1=some .local
 sub:∀ y c,cl.lookup y=some c->X.env.cells.lookup y=some c
 has:∀ y,((lM sc X.env).names.lookup y=some .cell\/(lM sc X.env).names.lookup y=some .free)->∃ c,cl.lookup y=some c
 free:∀ j∈js,∀ y,X.N[j]?=some y->Vis X.env.scope y/\X.env.kindOf y≠some .local/\(∃ c,cl.lookup y=some c)/\((lM sc X.env).names.lookup y=some .cell\/(lM sc X.env).names.lookup y=some .free)
 inN:∀ j∈js,j < X.N.length
section
variable {X:Cx}{pJ:List (Addr×Obj)}{σ:St}{H3:Hp}{s3:μ}{sc:dW}{cl:List (Str×Addr)}{xs:List Str}{js:List Nat}{fp:List Addr}{h1:Heap}{o:Obj}{tk:Nat}
theorem Kw (I:Inv X pJ σ H3 s3) (K:CompG X sc cl xs js) (hns:h1.Ns s3.heap.objs.size fun _=>none) (hsb:ϋ s3.heap.objs.size (s3.heap.push o) h1)
  (hfp:∀ b∈fp,FpOk X pJ H3 b/\b < s3.heap.objs.size):
  Inv (cxG X sc cl xs js s3.heap.objs.size s3 H3 fp) [] (Θ xs.length none++rows σ js) H3 { s3 with heap:=h1,toks:=tk }:=by
 have kept:∀ b u,s3.heap.get? b=some u->h1.get? b=some u:=fun b u e=>(hsb.2 b (Λ (χ e))).trans (η _ e)
 refine ⟨⟨I.ok.mod,K.kind,I.ok.glob,I.ok.blt,ξ _,fun y z c e1 e2=>I.ok.inj y z c (K.sub _ _ e1) (K.sub _ _ e2),fun y hy=>K.has y hy,fun y c hf=>absurd (show false=true from hf) Μ,I.ok.hd,I.ok.frames,.inl rfl,
  fun b hb=>⟨Λ (hfp b hb).2,fun y c e=>(hfp b hb).1.2.2.2.2.1 y c (K.sub _ _ e)⟩,I.bs,Ϫ I.ok.bsz I.sz,fun b o' e hb=>?_,fun b hb z=>?_,I.stack,I.U3⟩,
  rfl,I.bare,Un.kept kept,⟨_,hns,fun i y v e1 e2 e3=>?_⟩,fun y c e=>?_,I.hok.fresh (ξ _),fun y c e=>I.freeC y c (K.sub _ _ e),fun p hp=>absurd (show p∈([]:List (Addr×Obj)) from hp) (by simp),I.hok.kept kept,?_⟩
 ·rcases (hfp b hb).1.2.2.2.1 with z | z
  ·exact I.ok.noex b o' e z
  ·exact absurd (ό (χ e) (Ϫ I.ok.bsz z)) (cN _)
 ·rcases Κ.mp (I.We b z) with q | q
  ·exact (hfp b hb).1.2.1 q
  ·exact (hfp b hb).1.2.2.1 q
 ·by_cases hi:i < xs.length
  ·rw [ώ (by simpa using hi),dR,if_pos hi] at e2
   cases e2
  ·have hi':xs.length<=i:=by lia
   have e1':(js.map fun j=>X.N.getD j "")[i - xs.length]?=some y:=by
    have q:(xs++js.map fun j=>X.N.getD j "")[i]?=some y:=e1
    rw [ϑ hi'] at q
    exact q
   have e2':(rows σ js)[i - xs.length]?=some (some v):=by
    rw [ϑ (by simpa using hi')] at e2
    simpa using e2
   generalize i - xs.length=i at e1' e2'
   rw [Δ] at e1'
   unfold rows at e2'
   rw [Δ] at e2'
   cases ej:js[i]? with
   | none=>rw [ej] at e1';cases e1'
   | some j=>
    rw [ej] at e1' e2'
    simp only [gM,ϧ.injEq] at e1' e2'
    have hj:=ϝ ej
    have hlt:=K.inN j hj
    have eN:X.N[j]?=some y:=by
     rw [<- e1',ϸ,θ hlt]
     rfl
    have eS:σ[j]?=some (some v):=by
     rw [ϸ] at e2'
     cases q:σ[j]? with
     | none=>rw [q] at e2';cases e2'
     | some z=>rw [q] at e2';simpa using e2'
    obtain ⟨hv,hnl,⟨c,hc⟩,hk⟩:=K.free j hj y eN
    obtain ⟨m,_,hl⟩:=I.loc
    obtain ⟨u,r,l⟩:=hl j y v eN eS hv
    refine ⟨u,r,?_⟩
    rcases l with ⟨k,_⟩ | ⟨k,c',e',z⟩
    ·exact absurd k hnl
    ·have:c'=c:=ϔ (e'.symm.trans (K.sub _ _ hc))
     subst this
     obtain ⟨oc,hoc,hd⟩:=z
     exact .inr ⟨hk,c',hc,oc,kept _ _ hoc,hd⟩
 ·obtain ⟨v,oc,hoc,hd⟩:=I.cell y c (K.sub _ _ e)
  exact ⟨v,oc,kept _ _ hoc,hd⟩
 ·simp [rows,cxG]
def PTs (X:Cx) (ifs:List Expr) (t:TT):Prop:=
 ∀ (pJ:List (Addr×Obj)) (s:μ) (σ:St) (H:Hp) (Q:Bool->Hp->Prop),Inv X pJ σ H s->t σ H Q ->
  ψ (Ζ X.prog X.w) X.A (forIn ifs true fun c r=>if r=true then do let ok <- lG c X.env (eval c X.env);pure (aB ok) else pure (aB r)) (TP X pJ σ Q) X.xe s
theorem zcy:PTs X [] (fun _ H Q=>Q true H):=fun _ _ _ H _ I h=>wpAny_tests_nil ⟨H,I,h⟩
theorem zcx {c:Expr}{t:TT}(h:PT X c t):PTs X [c] t:=fun pJ s σ H Q I q=>wpAny_tests_one (h pJ s σ H Q I q)
def jo (n:Nat) (js:List Nat) (wi:TI) (tg:TG) (tt:TT) (te:TE) (Qe:Addr->Hp->Prop):St->Hp->Prop:=fun σ H=>wi σ H fun J H1=>∀ D,H1 D=none ->
 ∃ W:Nat->Nat->List V->St->Hp->Prop,(∃ m,W 0 m [] (Θ n none++rows σ js) (upd H1 D (.lst [])))/\∀ i m ys τ H2,W i m ys τ H2 ->
  (J.stop i H2/\Qe D H2)\/(J.go i H2/\∀ z H3,J.yld i H2 z H3->tg z τ H3 fun τ3 H3=>tt τ3 H3 fun b H4=>
   if b=true then te τ3 H4 fun v H5=>H5 D=some (.lst ys)/\ys.length < sizeLine/\∃ m',m' < m/\W (i+1) m' (ys++[v]) τ3 (upd H5 D (.lst (ys++[v])))
   else ∃ m',m' < m/\W (i+1) m' ys τ3 H4)
theorem Yh {elt iter tgt:Expr}{ifs:List Expr}{pos pos':Pos}{wi:TI}{tg:TG}{tt:TT}{te:TE}{Qe:Addr->Hp->Prop}{use:Option (δ->Sem Unit)}{Q':VSP}{H:Hp}{s:μ}(hc:X.calm=true) (K:CompG X sc cl xs js) (hi:PI X tgt iter wi)
  (hg:∀ C s3 H3 fp,PG (cxG X sc cl xs js C s3 H3 fp) tgt tg) (ht:∀ C s3 H3 fp,PTs (cxG X sc cl xs js C s3 H3 fp) ifs tt) (he:∀ C s3 H3 fp,PE (cxG X sc cl xs js C s3 H3 fp) elt te) (hs:∀ v,bY iter X.env v=pure v)
  (I:Inv X pJ σ H s) (h:jo xs.length js wi tg tt te Qe σ H)
  (fin:∀ (D C:Addr) (s6:μ) (H5:Hp) (m:Str->Option δ),s6.heap.Ns C m->FpOk X pJ H5 C->(∀ h',ϋ C s6.heap h'->Inv X pJ σ H5 { s6 with heap:=h' })->Qe D H5->compPost (Ζ X.prog X.w) X.A X.xe use Q' (.ref D) C (.ok .next) s6):
  ψ (Ζ X.prog X.w) X.A (comprehension (.ListComp elt [⟨tgt,iter,ifs,0⟩] sc pos) sc X.env pos' (newList []) false (eval iter X.env) use) Q' X.xe s:=by
 refine wpAny_comprehension_free (use:=use) rfl hs K.clos K.kind K.names ?_
 refine thn (hi pJ s σ H _ I h) fun v s1 h1=>thn h1 fun itv s2 h2=>?_
 obtain ⟨it,fp,tn,J,H2,e,I2,T,st2,f2,h⟩:=h2
 subst e
 have hD:H2 s2.heap.objs.size=none:=I2.fresh
 obtain ⟨W,⟨m0,w0⟩,turn⟩:=h _ hD
 have I3:Inv X pJ σ (upd H2 s2.heap.objs.size (.lst [])) { s2 with heap:=s2.heap.push { cls:=.type "list",data:=.seq ([]:List δ).toArray },toks:=s2.toks }:=I2.lnew (its:=[]) .nil (Ϣ _)
 have fpLt:∀ b∈fp,b < s2.heap.objs.size:=fun b hb=>let ⟨o,e,_⟩:=T.obj _ _ st2 b hb;χ e
 refine Χ (wpAny_newFunctionEnv K.cell (by intro y hy;simp at hy) (fun h₁ hns₁ hsb₁=>?_) K.kind)
 generalize hs3:({ s2 with heap:=s2.heap.push { cls:=.type "list",data:=.seq ([]:List δ).toArray },toks:=s2.toks }:μ)=s3 at I3
 have hs3':({ s2 with heap:=s2.heap.push { cls:=.type "list",data:=.seq ([]:List δ).toArray } }:μ)=s3:=hs3
 (try rw [hs3'] at hns₁);(try rw [hs3'] at hsb₁);(try rw [hs3'])
 have hsz:s3.heap.objs.size=s2.heap.objs.size+1:=by rw [<- hs3,dg]
 generalize hH3:upd H2 s2.heap.objs.size (.lst [])=H3 at I3 w0
 have fp3:∀ b∈fp,FpOk X pJ H3 b/\b < s3.heap.objs.size:=fun b hb=>by
  refine ⟨⟨?_,(f2 b hb).2⟩,by rw [hsz];exact bV (fpLt b hb)⟩
  rw [<- hH3,zc (Λ (fpLt b hb))]
  exact (f2 b hb).1
 have I4:=Kw (tk:=s3.toks+([]:List (Str×δ)).length) I3 K hns₁ hsb₁ fp3
 have st4:tn 0 h₁:=T.keep _ _ _ st2 fun b hb o e=>(hsb₁.2 b (Λ (fp3 b hb).2)).trans (η _ (by rw [<- hs3];exact η _ e))
 have stat:∀ {H':Hp}{pl:List (Addr×Obj)},(∀ b∈fp,H' b=none)->(∀ p∈pl,p.1 ∉ fp)->∀ b∈fp,FpOk (cxG X sc cl xs js s3.heap.objs.size s3 H3 fp) pl H' b:=fun {H'} {pl} hn hp b hb=>
  ⟨hn b hb,Λ (fp3 b hb).2,fun z=>by
   rcases Κ.mp (I3.We b z) with q | q
   ·exact (f2 b hb).2.1 q
   ·exact (f2 b hb).2.2.1 q,.inl hb,fun y c e=>(f2 b hb).2.2.2.2.1 y c (K.sub _ _ e),fun p hp' z=>by
    have hp'':p∈pl:=by simpa [cxG] using hp'
    exact hp p hp'' (z ▸ hb)⟩
 have loop:∀ s4:μ,s4={ s3 with heap:=h₁,toks:=s3.toks+([]:List (Str×δ)).length } ->
   mQ (Ζ X.prog X.w) X.A (.compLoop (.ListComp elt [⟨tgt,iter,ifs,0⟩] sc pos) 0 (.ref it) (.ref s2.heap.objs.size) (compEnvC sc cl s3.heap.objs.size X.env))
    (compPost (Ζ X.prog X.w) X.A X.xe use Q' (.ref s2.heap.objs.size) s3.heap.objs.size) s4:=by
  rintro s4 rfl
  refine codeAny_loop rfl (fun n s'=>∃ i ys τ H',Inv (cxG X sc cl xs js s3.heap.objs.size s3 H3 fp) [] τ H' s'/\tn i s'.heap/\(∀ b∈fp,H' b=none)/\W i n ys τ H') ?_ m0 ⟨0,[],_,H3,I4,st4,fun b hb=>(fp3 b hb).1.1,w0⟩
  rintro n s5 ⟨i,ys,τ,H5,I5,st5,fr5,w5⟩
  show ψ _ X.A ((compTurn (.ListComp elt [⟨tgt,iter,ifs,0⟩] sc pos) 0 (.ref it) (.ref s2.heap.objs.size) (compEnvC sc cl s3.heap.objs.size X.env)).onRaise (fun x=>do noteFrame x (compEnvC sc cl s3.heap.objs.size X.env);theTreesLotGoes x)) _ _ s5
  refine wpAny_noted ?_
  rw [compTurn_list]
  refine γ (gY (γ ?_))
  rcases turn i n ys τ H5 w5 with ⟨stop,q⟩ | ⟨go,step⟩
  ·refine thn (T.done (cxG X sc cl xs js s3.heap.objs.size s3 H3 fp) rfl rfl rfl hc i [] s5 τ H5 _ I5 (stat fr5 (fun p hp=>absurd hp (by simp))) st5 stop) fun r s6 ⟨hr,I6⟩=>?_
   subst hr
   refine ζ ?_
   obtain ⟨m,hn,_⟩:=I6.loc
   refine fin _ _ s6 H5 m hn (I3.fpOk (ξ _) I6.free) (fun h' sb=>?_) q
   have u:=(show Un (frs X.stack) fp H3 H5 s3.heap s6.heap from I6.base).sameBut sb (ξ _)
   exact I3.call' (s':={ s6 with heap:=h' }) (ch:=fp) I6.os u (I6.hok.sameBut sb I6.free) I6.bare fun b hb=>⟨(f2 b hb).2.2.2.1,(f2 b hb).2.1,(f2 b hb).2.2.2.2.1,(f2 b hb).2.2.2.2.2⟩
  ·refine thn (T.item (cxG X sc cl xs js s3.heap.objs.size s3 H3 fp) rfl rfl rfl hc i [] s5 τ H5 _ I5 (stat fr5 (fun p hp=>absurd hp (by simp))) st5 go) fun r s6 ⟨u,hr,h6⟩=>?_
   subst hr
   refine γ (thn h6 fun _ s7 ⟨z,H7,I7,r7,y7,st7,fr7⟩=>?_)
   have I7':=I7.pinned (stat fr7 (fun p hp=>absurd hp (by simp))) (T.obj _ _ st7)
   have done:∀ {σ':St}{H':Hp}{s':μ}{ys':List V}{m':Nat},Inv (cxG X sc cl xs js s3.heap.objs.size s3 H3 fp) ([]++Zy fp s7.heap) σ' H' s'->m' < n->W (i+1) m' ys' σ' H'->∃ m,m < n/\∃ i ys τ H',Inv (cxG X sc cl xs js s3.heap.objs.size s3 H3 fp) [] τ H' s'/\tn i s'.heap/\(∀ b∈fp,H' b=none)/\W i m ys τ H':=fun {σ' H' s' ys' m'} I' hm w'=>
    ⟨m',hm,i+1,ys',σ',H',I'.xK,T.keep _ _ _ st7 fun b hb o e=>(I'.pin (b,o) (ϐ _ (ϐ _ (yU hb e)))).1,fun b hb=>by
     obtain ⟨o,e,d⟩:=T.obj _ _ st7 b hb
     exact (I'.pin (b,o) (ϐ _ (ϐ _ (yU hb e)))).2.1,w'⟩
   refine γ (bO (hg _ _ _ _ _ s7 τ H7 z u _ I7' r7 (step z H7 y7)) (fun _ s8 ⟨σ8,H8,I8,q8⟩=>?_) fun _ _ z=>aJ z)
   refine γ (bO (ht _ _ _ _ _ s8 σ8 H8 _ I8 q8) (fun ok s9 ⟨H9,I9,q9⟩=>?_) fun _ _ z=>aJ z)
   cases ok with
   | false=>
    rw [if_neg Μ] at q9
    obtain ⟨m',hm,w9⟩:=q9
    exact ζ ⟨rfl,done I9 hm w9⟩
   | true=>
    rw [if_pos rfl] at q9
    refine γ (γ (bO (he _ _ _ _ _ s9 _ _ _ I9 q9) (fun v9 s10 ⟨x9,H10,I10,r9,q10⟩=>?_) fun _ _ z=>aJ z))
    obtain ⟨hD9,hlen,m',hm,w10⟩:=q10
    have ap:=ZM (X:=cxG X sc cl xs js s3.heap.objs.size s3 H3 fp) _ s10 _ H10 (.ref s2.heap.objs.size) [x9] (.ref s2.heap.objs.size) [v9] (fun _ H'=>H'=upd H10 s2.heap.objs.size (.lst (ys++[x9]))) I10 rfl (.cons r9 .nil) ⟨_,ys,x9,rfl,rfl,hD9,hlen,rfl⟩
    refine γ (bO ap (fun _ s11 ⟨_,H11,I11,_,e11⟩=>?_) fun _ _ z=>aJ z)
    subst e11
    exact ζ (ζ ⟨rfl,done I11 hm w10⟩)
 exact codeAny_compStart_list (loop _ rfl) (T.self _ 0 _ _ _ st4 (loop _ rfl))
theorem zai {elt iter tgt:Expr}{ifs:List Expr}{pos:Pos}{wi:TI}{tg:TG}{tt:TT}{te:TE}(hc:X.calm=true) (K:CompG X sc cl xs js) (hi:PI X tgt iter wi)
  (hg:∀ C s3 H3 fp,PG (cxG X sc cl xs js C s3 H3 fp) tgt tg) (ht:∀ C s3 H3 fp,PTs (cxG X sc cl xs js C s3 H3 fp) ifs tt) (he:∀ C s3 H3 fp,PE (cxG X sc cl xs js C s3 H3 fp) elt te) (hs:∀ v,bY iter X.env v=pure v):
  PE X (.ListComp elt [⟨tgt,iter,ifs,0⟩] sc pos) (fun σ H Q=>jo xs.length js wi tg tt te (fun D H'=>Q (.ref D) H') σ H):=by
 intro pJ s σ H Q I h
 rw [eval_ListComp]
 exact Yh (use:=none) (Q':=EP X pJ σ Q) hc K hi hg ht he hs I h fun D C s6 H5 m hn fp inv q=>⟨m,hn,fun h' sb=>⟨.ref D,H5,inv h' sb,rfl,q⟩⟩
theorem VL {elt iter tgt:Expr}{ifs:List Expr}{pos spos npos:Pos}{wi:TI}{tg:TG}{tt:TT}{te:TE}{n:Str}{i:Nat}(hc:X.calm=true) (K:CompG X sc cl xs js) (hi:PI X tgt iter wi)
  (hg:∀ C s3 H3 fp,PG (cxG X sc cl xs js C s3 H3 fp) tgt tg) (ht:∀ C s3 H3 fp,PTs (cxG X sc cl xs js C s3 H3 fp) ifs tt) (he:∀ C s3 H3 fp,PE (cxG X sc cl xs js C s3 H3 fp) elt te) (hs:∀ v,bY iter X.env v=pure v)
  (hp:PG X (.Name n npos) (gName i)) (hsw:iz (.ListComp elt [⟨tgt,iter,ifs,0⟩] sc pos) (some (.Name n npos)) spos.line X.env=pure true):
  PS X (.Assign [.Name n npos] (.ListComp elt [⟨tgt,iter,ifs,0⟩] sc pos) spos) (fun D σ H=>jo xs.length js wi tg tt te (fun Da H'=>D.nx (σ.set i (some (.ref Da))) H') σ H):=by
 intro pJ s σ H D I h
 rw [exec_Assign_Name_used _ _ _ _ hsw]
 refine γ (gY (γ ?_))
 show ψ _ X.A (do let _ <- comprehension (.ListComp elt [⟨tgt,iter,ifs,0⟩] sc pos) sc X.env _ (newList []) false (eval iter X.env) (some (gF (.Name n npos) X.env))) _ _ s
 refine γ (bO (Yh (use:=some (gF (.Name n npos) X.env)) (Q':=fun _ s'=>SP X pJ D .next s') hc K hi hg ht he hs I h ?_) (fun _ s' q=>ζ (ζ q)) fun _ _ z=>z)
 intro Da C s6 H5 m hn fp inv q
 obtain ⟨oC,es,ep,hoC,hdC,hrC⟩:=id hn
 have I6:=inv s6.heap (iy C s6.heap)
 have I6':Inv X (pJ++[(C,oC)]) σ H5 { s6 with heap:=s6.heap }:=I6.Y6 fun p hp=>(Ϭ.mp hp).elim (fun z=>I6.pin p (ϐ _ z)) fun z=>by
  rw [Υ.mp z]
  exact ⟨hoC,fp.1,fp.2.1,fp.2.2.1,fun v e=>by rw [hdC] at e;cases e⟩
 show ψ _ X.A (gF (.Name n npos) X.env (.ref Da)) _ _ s6
 refine thn (hp _ s6 σ H5 (.ref Da) (.ref Da) _ I6' rfl q) fun _ s7 ⟨σ7,H7,I7,q7⟩=>?_
 have hC7:=(I7.pin (C,oC) (ϐ _ (ϐ _ (Υ.mpr rfl))))
 refine ⟨m,⟨oC,es,ep,hC7.1,hdC,hrC⟩,fun h' sb=>⟨σ7,H7,?_,q7⟩⟩
 have I8:Inv X pJ σ7 H7 s7:=I7.xK
 exact I8.turned (t':=s7.toks) (fun b o hb e=>(sb.2 b hb).trans e) hC7.2.1 fp.2.1 fp.2.2.2.1 fp.2.2.2.2.1 fun p hp=>fp.2.2.2.2.2 p hp
def CSet (X:Cx) (x:Expr) (t:TE):Prop:=∀ (n:Str) (npos spos:Pos) (i:Nat),PG X (.Name n npos) (gName i)->iz x (some (.Name n npos)) spos.line X.env=pure true ->
 PS X (.Assign [.Name n npos] x spos) (fun D σ H=>t σ H fun v H'=>D.nx (σ.set i (some v)) H')
theorem zaZ {X:Cx}{x:Expr}{t t':TE}(h:PE X x t/\CSet X x t) (i:∀ σ H Q,t' σ H Q->t σ H Q):PE X x t'/\CSet X x t':=
 ⟨h.1.imp i,fun n np sp j hp hs=>(h.2 n np sp j hp hs).imp fun D σ H q=>i σ H _ q⟩
theorem Qa {elt iter tgt:Expr}{ifs:List Expr}{pos:Pos}{wi:TI}{tg:TG}{tt:TT}{te:TE}(hc:X.calm=true) (K:CompG X sc cl xs js) (hi:PI X tgt iter wi)
  (hg:∀ C s3 H3 fp,PG (cxG X sc cl xs js C s3 H3 fp) tgt tg) (ht:∀ C s3 H3 fp,PTs (cxG X sc cl xs js C s3 H3 fp) ifs tt) (he:∀ C s3 H3 fp,PE (cxG X sc cl xs js C s3 H3 fp) elt te) (hs:∀ v,bY iter X.env v=pure v):
  PE X (.ListComp elt [⟨tgt,iter,ifs,0⟩] sc pos) (fun σ H Q=>jo xs.length js wi tg tt te (fun D H'=>Q (.ref D) H') σ H)/\CSet X (.ListComp elt [⟨tgt,iter,ifs,0⟩] sc pos) (fun σ H Q=>jo xs.length js wi tg tt te (fun D H'=>Q (.ref D) H') σ H):=
 ⟨zai hc K hi hg ht he hs,fun n np sp i hp hsw=>VL hc K hi hg ht he hs hp hsw⟩
end
end L2
namespace EV
open PySem PySem.Spec PyProof.Rows L2
structure FnI (Γ:Gm) (B:Tb) (cf:Nat->Nat->Sp) (k:Nat) (P:Ν) (w:ϖ) (K:W.Frag) (mg:Str->Option δ) (base:Heap) (f:Nat) (x:Str):Prop where
 ex:∃ (a:Addr) (fd:bJ) (ps:List Str),Γ.fa f=some a/\mg x=some (.ref a)/\W.keepIn K (.ref a)=true/\Binds K fd ps []/\B.pars[f]?=some ps/\FnOk P w K mg base CX0 k a fd ps (cf f ps.length) /\
  ∀ (ks:List Str) (perm:List Nat),perm.length=ps.length->(∀ i∈perm,i < ks.length)->perm.map (fun i=>ks.getD i "")=ps->ks.length=ps.length->(f,ks,perm)∈B.kws ->
   Qv K fd ps ks (fun us ws=>if ws.length=ks.length then us++perm.map fun i=>ws.getD i .none else []) (fun vs zs=>if zs.length=ks.length then vs++perm.map fun i=>zs.getD i .non else [])
structure XOk (Γ:Gm) (B:Tb) (cf:Nat->Nat->Sp) (k:Nat) (X:Cx) (c:Cc):Prop where
 hK:X.K=Γ.K
 nm:X.env.scope.names=c.names
 kd:X.env.scope.kind=.function
 N:X.N=c.N
 nd:X.N.Nodup
 fn:c.fn=true->∀ x,X.fn x=true
 calm:X.calm=true
 room:Room k X.A
 cells:∀ x,(c.names.lookup x=some .cell\/c.names.lookup x=some .free)->∃ a,X.env.cells.lookup x=some a
 fns:∀ (f:Nat) (x:Str),B.fns[f]?=some x->FnI Γ B cf k X.prog X.w X.K X.mg X.base f x
 bare:∀ x∈B.bare,X.mg x=none
 consts:∀ (n:Nat) (x:Str) (d:D),B.consts[n]?=some (x,d)->∃ u v,X.mg x=some u/\RelV v u/\∀ g,Has Γ g d v
 fa:∀ (f:Nat) (a:Addr),Γ.fa f=some a->∃ x,B.fns[f]?=some x
section
variable {Γ:Gm}{B:Tb}{cf:Nat->Nat->Sp}{k:Nat}{X:Cx}{c:Cc}
theorem XOk.u61 (x:XOk Γ B cf k X c):X.A.units+61 < ϲ:=by have:=x.room.un;lia
theorem XOk.u1 (x:XOk Γ B cf k X c):X.A.units+1 < ϲ:=by have:=x.room.un;lia
theorem XOk.vis (x:XOk Γ B cf k X c) {n:Str}(h:visK (c.names.lookup n)=true):Vis X.env.scope n:=by
 unfold Vis
 rw [x.nm]
 cases q:c.names.lookup n with
 | none=>rw [q] at h;cases h
 | some kd=>rw [q] at h;cases kd <;> first | exact .inl rfl | exact .inr (.inl rfl) | exact .inr (.inr rfl) | cases h
theorem XOk.glob (x:XOk Γ B cf k X c) {n:Str}(h:gloK (c.names.lookup n)=true):Gl X n:=by
 unfold Gl nD
 rw [x.nm]
 cases q:c.names.lookup n with
 | none=>rw [q] at h;cases h
 | some kd=>rw [q] at h;cases kd <;> first | rfl | cases h
theorem yc {n:Str}(h:yu n=true):(n==("__debug__":Str))=false/\(n==("__classdict__":Str))=false/\n≠("__name__":Str):=by
 unfold yu at h
 simp only [ε,pP] at h
 exact ⟨h.1.1,h.1.2,by simpa using h.2⟩
theorem XOk.pg (x:XOk Γ B cf k X c) {i:Nat}{n:Str}{pos:Pos}(hi:c.N[i]?=some n) (hs:stoK c n=true):PG X (.Name n pos) (gName i):=by
 have hi':X.N[i]?=some n:=by rw [x.N];exact hi
 unfold stoK at hs
 cases q:c.names.lookup n with
 | none=>rw [q] at hs;cases hs
 | some kd=>
  rw [q] at hs
  have q':X.env.scope.names.lookup n=some kd:=by rw [x.nm];exact q
  cases kd with
  | «local»=>exact Jx x.nd hi' (.inl q') (.inr q')
  | cell=>exact Jx x.nd hi' (.inr q') (.inl (x.fn hs n))
  | _=>cases hs
def Z9:List Nat->TGs
 | []=>gNil
 | i::is=>gCons (gName i) (Z9 is)
theorem Ju (x:XOk Γ B cf k X c):∀ {es:List Expr}{ns:List Str}{is:List Nat},EV.namesOf es=some ns->ns.length=is.length->((is.zip ns).all fun p=>c.N[p.1]?==some p.2&&stoK c p.2)=true ->
  PGs X es (Z9 is)/\(bB es X.env).length=is.length/\(bB es X.env).findIdx? (·.1)=none
 | [],ns,is,h,hl,_=>by
  cases (show some []=some ns from h)
  cases is with
  | nil=>exact ⟨Jv,rfl,rfl⟩
  | cons=>simp at hl
 | e::es,ns,is,h,hl,ha=>by
  cases e with
  | Name n pos=>
   simp only [EV.namesOf,Α] at h
   obtain ⟨r,h1,h2⟩:=h
   subst h2
   cases is with
   | nil=>simp at hl
   | cons i is=>
    simp only [cz,iZ,ε] at ha
    obtain ⟨⟨ha1,ha2⟩,ha3⟩:=ha
    obtain ⟨g1,g2,g3⟩:=Ju x h1 (by simpa using hl) ha3
    refine ⟨qd (x.pg (eq_of_beq ha1) ha2) g1,?_,?_⟩
    ·show (_::bB es X.env).length=_
     rw [bh,g2,bh]
    ·show List.findIdx? _ ((false,_)::bB es X.env)=none
     rw [List.findIdx?_cons]
     simp [g3]
  | _=>simp [EV.namesOf] at h
def tgOf (K:W.Frag):T->TG
 | .nst i is=>gTup K 2 (gCons (gName i) (gCons (gTup K is.length (Z9 is)) gNil))
 | .one i=>gName i
 | .tup is=>gTup K is.length (Z9 is)
theorem Vt {x:Expr}{q:Str×Pos×List Expr×Nat×Pos×Nat×Pos}(h:asNst x=some q):x=.Tuple [.Name q.1 q.2.1,.Tuple q.2.2.1 q.2.2.2.1 q.2.2.2.2.1] q.2.2.2.2.2.1 q.2.2.2.2.2.2:=by
 cases x with
 | Tuple es k p=>
  cases es with
  | nil=>cases h
  | cons a r=>
   cases a with
   | Name n pos=>
    cases r with
    | nil=>cases h
    | cons b z=>
     cases z with
     | cons _ _=>cases h
     | nil=>
      cases b with
      | Tuple fs k2 p2=>cases h;rfl
      | _=>cases h
   | _=>cases h
 | _=>cases h
theorem zb0 (x:XOk Γ B cf k X c) {t:T}{tgt:Expr}(hn:isNst t=true) (h:chkT c t tgt=true):PG X tgt (tgOf X.K t):=by
  cases t with
  | nst i is=>
    unfold chkT at h
    rw [if_pos hn] at h
    cases e:asNst tgt with
    | none=>rw [e] at h;cases h
    | some q=>
      rw [e] at h
      have h:(match namesOf q.2.2.1 with
        | some ns=>(q.1::ns).length==(i::is).length&&((i::is).zip (q.1::ns)).all fun p=>c.N[p.1]?==some p.2&&stoK c p.2
        | none=>false)=true:=h
      rw [Vt e]
      cases en:namesOf q.2.2.1 with
      | none=>rw [en] at h;cases h
      | some ns=>
        rw [en] at h
        simp only [cz,iZ,ε] at h
        obtain ⟨h1,⟨h2,h3⟩,h4⟩:=h
        have h1:ns.length=is.length:=by simpa using h1
        obtain ⟨g1,g2,g3⟩:=Ju x en h1 h4
        exact Jw x.calm (qd (x.pg (eq_of_beq h2) h3) (qd (Jw x.calm g1 g2 g3) Jv)) rfl rfl
  | _=>cases hn
theorem UL (x:XOk Γ B cf k X c) {t:T}{tgt:Expr}(h:chkT c t tgt=true):PG X tgt (tgOf X.K t):=by
 by_cases hnst:isNst t=true
 ·exact zb0 x hnst h
 unfold chkT at h
 rw [if_neg hnst] at h
 rw [ε] at h
 obtain ⟨h1,h2⟩:=h
 cases tgt with
 | Name n pos=>
  cases t with
  | one i=>
   simp only [yp,tIs,cz,List.zip_nil_right,iZ,List.all_nil,lB,ε] at h2
   exact x.pg (eq_of_beq h2.2.1) h2.2.2
  | tup is=>cases h1
  | nst _ _=>exact absurd rfl hnst
 | Tuple es kk pos=>
  cases t with
  | one i=>cases h1
  | nst _ _=>exact absurd rfl hnst
  | tup is=>
   simp only [yp,tIs] at h2
   cases hn:EV.namesOf es with
   | none=>rw [hn] at h2;cases h2
   | some ns=>
    rw [hn] at h2
    simp only [ε,beq_iff_eq] at h2
    obtain ⟨g1,g2,g3⟩:=Ju x hn h2.1 (by simpa using h2.2)
    exact Jw x.calm g1 g2 g3
 | _=>simp [yp] at h2
noncomputable def closL (cells:List (Str×Addr)):List (Str×ϰ)->List (Str×Addr)->List (Str×Addr)
 | [],acc=>acc
 | (n,kd)::r,acc=>if (kd==aX)=true then closL cells r ((n,(cells.lookup n).getD 0)::acc) else closL cells r acc
theorem uV {env:Env}:∀ (names:List (Str×ϰ)) (acc:List (Str×Addr)),(∀ y∈names,y.2=.free->∃ a,env.cells.lookup y.1=some a) ->
  (forIn names acc fun x cs=>match x with
   | (name,kind)=>if (kind==aX)=true then do let a <- cellOf env name;pure (aB ((name,a)::cs)) else pure (aB cs):Sem (List (Str×Addr)))=pure (closL env.cells names acc)
 | [],acc,_=>rfl
 | (n,kd)::r,acc,h=>by
  rw [List.forIn_cons]
  by_cases hk:(kd==aX)=true
  ·obtain ⟨a,ha⟩:=h (n,kd) υ (eq_of_beq hk)
   have ha:env.cells.lookup n=some a:=ha
   simp only [hk,if_true]
   have:cellOf env n=pure a:=by unfold cellOf;rw [ha]
   rw [this]
   simp only [pure_bind]
   rw [uV r _ fun y hy=>h y (ι _ hy)]
   simp [closL,hk,ha]
  ·simp only [hk]
   simp only [bw,if_false,pure_bind]
   rw [uV r _ fun y hy=>h y (ι _ hy)]
   simp [closL,hk]
theorem zdJ {env:Env}{sc:dW}(h:∀ y∈sc.names,y.2=.free->∃ a,env.cells.lookup y.1=some a):closureFor sc env=pure (closL env.cells sc.names []):=by
 unfold closureFor
 have:=uV sc.names [] h
 first
  | exact (congrArg (fun z=>z >>= pure) this).trans (by simp)
  | (simp only [bind_pure];exact this)
  | exact this
theorem ym {cells:List (Str×Addr)}{y:Str}:∀ (names:List (Str×ϰ)) (acc:List (Str×Addr)),(∀ z∈names,z.2=.free->∃ a,cells.lookup z.1=some a)->(∀ c,acc.lookup y=some c->cells.lookup y=some c) ->
  (∀ c,(closL cells names acc).lookup y=some c->cells.lookup y=some c)/\((y,aX)∈names\/(∃ c,acc.lookup y=some c)->∃ c,(closL cells names acc).lookup y=some c)
 | [],acc,_,h=>⟨h,fun q=>by
  rcases q with q | q
  ·cases q
  ·exact q⟩
 | (n,kd)::r,acc,hh,h=>by
  by_cases hk:(kd==aX)=true
  ·obtain ⟨a,ha⟩:=hh (n,kd) υ (eq_of_beq hk)
   have ha:cells.lookup n=some a:=ha
   have e:closL cells ((n,kd)::r) acc=closL cells r ((n,a)::acc):=by
    simp [closL,hk,ha]
   rw [e]
   obtain ⟨i1,i2⟩:=ym (y:=y) r ((n,a)::acc) (fun z hz=>hh z (ι _ hz)) (fun c q=>by
    rw [aN] at q
    cases hy:y==n with
    | true=>rw [hy] at q;cases q;rw [eq_of_beq hy];exact ha
    | false=>rw [hy] at q;exact h c q)
   refine ⟨i1,fun q=>i2 ?_⟩
   rcases q with q | ⟨c,q⟩
   ·rcases Κ.mp q with q | q
    ·right
     cases q
     exact ⟨a,List.lookup_cons_self⟩
    ·exact .inl q
   ·right
    rw [aN]
    cases hy:y==n with
    | true=>exact ⟨a,rfl⟩
    | false=>exact ⟨c,q⟩
  ·have e:closL cells ((n,kd)::r) acc=closL cells r acc:=by simp [closL,hk]
   rw [e]
   obtain ⟨i1,i2⟩:=ym (y:=y) r acc (fun z hz=>hh z (ι _ hz)) h
   refine ⟨i1,fun q=>i2 ?_⟩
   rcases q with q | q
   ·rcases Κ.mp q with q | q
    ·cases q;exact absurd rfl hk
    ·exact .inl q
   ·exact .inr q
theorem xO (x:XOk Γ B cf k X c) (sc:dW):(lM sc X.env).names=relK c.names sc.names:=by
 unfold lM relK
 simp only [x.kd,nD,x.nm]
 congr 1
 funext y
 have e:(n8==n8)=true:=rfl
 rw [e,lB]
theorem Zk {names l:List (Str×ϰ)}{y:Str}{kd:ϰ}(hc:∀ z∈l,z.2≠.cell):(relK names l).lookup y=some kd->kd=.cell\/kd=.free->(y,aX)∈l:=by
 intro h hk
 induction l with
 | nil=>cases h
 | cons p l ih=>
  obtain ⟨n,q⟩:=p
  have hq:=hc (n,q) υ
  show (y,aX)∈(n,q)::l
  unfold relK at h
  rw [ϟ] at h
  by_cases e:(q==aX&&names.lookup n==some .cell)=true
  ·simp only [e,if_true] at h
   rw [aN] at h
   cases hy:y==n with
   | true=>
    rw [ε] at e
    rw [eq_of_beq hy,eq_of_beq e.1]
    exact υ
   | false=>
    rw [hy] at h
    exact ι _ (ih (fun z hz=>hc z (ι _ hz)) h)
  ·simp only [e,bw,if_false] at h
   rw [aN] at h
   cases hy:y==n with
   | true=>
    rw [hy] at h
    cases h
    rcases hk with hk | hk
    ·exact absurd hk hq
    ·rw [hk,eq_of_beq hy];exact υ
   | false=>
    rw [hy] at h
    exact ι _ (ih (fun z hz=>hc z (ι _ hz)) h)
theorem Jk {names l:List (Str×ϰ)}{y:Str}(h:l.lookup y=some .free):(relK names l).lookup y=some .cell\/(relK names l).lookup y=some .free:=by
 induction l with
 | nil=>cases h
 | cons p l ih=>
  obtain ⟨n,q⟩:=p
  rw [aN] at h
  unfold relK
  rw [ϟ]
  cases hy:y==n with
  | true=>
   rw [hy] at h
   cases h
   by_cases e:(aX==aX&&names.lookup n==some .cell)=true
   ·left
    simp only [e,if_true,aN,hy]
   ·right
    simp only [e,bw,if_false,aN,hy]
  | false=>
   rw [hy] at h
   have:=ih h
   by_cases e:(q==aX&&names.lookup n==some .cell)=true
   ·simp only [e,if_true,aN,hy];exact this
   ·simp only [e,bw,if_false,aN,hy];exact this
theorem Vh (x:XOk Γ B cf k X c) {sc:dW}{js:List Nat}{xs:List Str}(h:chkS c sc js=true):CompG X sc (closL X.env.cells sc.names []) xs js:=by
 unfold chkS at h
 simp only [ε,aO,beq_iff_eq] at h
 obtain ⟨⟨⟨⟨⟨h1,h2⟩,h3⟩,h4⟩,h5⟩,h6⟩:=h
 have hc:∀ y∈sc.names,y.2≠.cell:=fun y hy=>by simpa using h2 y hy
 have hcell:∀ y∈sc.names,y.2=.free->∃ a,X.env.cells.lookup y.1=some a:=fun y hy hf=>by
  have:=h5 y hy
  rw [hf] at this
  refine x.cells y.1 ?_
  simpa using this
 refine ⟨zdJ hcell,hc,h1,fun y hy hl=>?_,fun y c' q=>(ym sc.names [] hcell (fun _ q=>by cases q)).1 c' q,fun y hy=>?_,fun j hj y hy=>?_,fun j hj=>?_⟩
 ·have:=h3 y hy
  rw [hl] at this
  simpa using this
 ·rw [xO x] at hy
  refine (ym sc.names [] hcell (fun _ q=>by cases q)).2 (.inl ?_)
  rcases hy with q | q
  ·exact Zk hc q (.inl rfl)
  ·exact Zk hc q (.inr rfl)
 ·have q:=h6 j hj
  rw [x.N] at hy
  rw [hy] at q
  simp only [ε,ik,beq_iff_eq] at q
  refine ⟨?_,?_,(ym sc.names [] hcell (fun _ q=>by cases q)).2 (.inl (bD q.2)),?_⟩
  ·unfold Vis
   rw [x.nm]
   rcases q.1 with z | z
   ·exact .inr (.inl z)
   ·exact .inr (.inr z)
  ·unfold nD
   rw [x.nm]
   rcases q.1 with z | z <;> rw [z] <;> decide
  ·rw [xO x]
   exact Jk q.2
 ·have q:=h6 j hj
  cases e:c.N[j]? with
  | none=>rw [e] at q;cases q
  | some y=>rw [x.N];exact (π.mp e).1
theorem Uj (x:XOk Γ B cf k X c) {sc:dW}{js:List Nat}{xs:List Str}(h:chkS c sc js=true) (hn:(xs++js.map (fun j=>c.N.getD j "")).Nodup) (C:Addr) (s3:μ) (H3:Hp) (fp:List Addr):
  XOk Γ B cf k (cxG X sc (closL X.env.cells sc.names []) xs js C s3 H3 fp) (inner c sc xs js):=by
 have K:=Vh (xs:=xs) x h
 refine ⟨x.hK,xO x sc,K.kind,by show xs++js.map (fun j=>X.N.getD j "")=_;rw [x.N];rfl,by show (xs++js.map (fun j=>X.N.getD j "")).Nodup;rw [x.N];exact hn,fun q=>absurd (show false=true from q) Μ,x.calm,x.room,fun y hy=>?_,x.fns,x.bare,x.consts,x.fa⟩
 have hy':(lM sc X.env).names.lookup y=some .cell\/(lM sc X.env).names.lookup y=some .free:=by rw [xO x];exact hy
 exact K.has y hy'
end
end EV
namespace L2
open PySem PySem.Spec PyProof.Rows
section
variable {X:Cx}{tg:Expr}
theorem zfx {pJ:List (Addr×Obj)}{σ:St}{H:Hp}{s:μ}{R:It->Hp->Prop}{a:Addr}(I:Inv X pJ σ H s) (h:((∃ xs,SqL X.K H a xs)/\R (Itl X.K a) H)\/((∃ xs,SqT X.K H a xs)/\R (Itt X.K a) H)):ψ (Ζ X.prog X.w) X.A (iM (.ref a)) (PIE X pJ σ tg R) X.xe s:=by
 have fp:∀ b∈[s.heap.objs.size],FpOk X pJ H b:=fun b hb=>by
  rw [Υ.mp hb]
  exact I.fpOk (ξ _) (I.hok.fresh (ξ _))
 rcases h with ⟨⟨xs,hq⟩,q⟩ | ⟨⟨xs,hq⟩,q⟩
 ·obtain ⟨its,rv,p,hz⟩:=I.list hq
  exact eF p.isList ⟨s.heap.objs.size,[s.heap.objs.size],_,_,H,rfl,I.kept (t':=s.toks) fun b o e=>η _ e,Uu a _,⟨_,ς _ rfl,rfl,rfl⟩,fp,q⟩
 ·obtain ⟨its,rv,p,hz⟩:=I.tuple hq
  exact mj (show s.heap.IsTuple a its.toArray from p) ⟨s.heap.objs.size,[s.heap.objs.size],_,_,H,rfl,I.kept (t':=s.toks) fun b o e=>η _ e,Vx a _,⟨_,ς _ rfl,rfl,rfl⟩,fp,q⟩
noncomputable def Its (x:Str):It:=⟨fun i _=>i < x.cps.size,fun i H v H'=>H'=H/\∃ c,x.cps[i]?=some c/\v=.str ⟨#[c]⟩,fun i _=>x.cps.size<=i⟩
theorem Ut {P:Ν}{w:ϖ}{K:W.Frag}{tg:Expr}(x:Str) (t:Tok) (it:Addr):Turn P w K tg (Its x) [it] it (fun i h=>h.IsStrIter it "str_ascii_iterator" x t i) where
 mem:=by simp
 obj:=fun i h st b hb=>by
  have e:b=it:=by simpa using hb
  subst e
  obtain ⟨o,e,c,d⟩:=st
  exact ⟨o,e,fun v z=>by rw [d] at z;cases z⟩
 keep:=fun i h h' st k=>by
  obtain ⟨o,e,r⟩:=st
  exact ⟨o,k it (by simp) o e,r⟩
 item:=by
  intro X hP hw hK hc i pJ s σ H E I hf st hg
  subst hP hw hK
  obtain ⟨f0,f1,f2,f3,f4,f5⟩:=hf it (by simp)
  refine (Walks.strAscii (prog:=X.prog) (w:=X.w) (I.ok.hd hc) it x t).item i s _ _ hg st fun v h' tk hv st' kk=>?_
  obtain ⟨c,u,h1,rfl⟩:=hv
  have I1:Inv X pJ σ H { s with heap:=h',toks:=tk }:=I.turned (fun b o hb e=>kk b o (by simpa using hb) e) f0 f1 f3 f4 f5
  obtain ⟨o,e,c1,d⟩:=id st'
  exact ⟨_,rfl,go_of (s:={ s with heap:=h',toks:=tk }) e c1 d (by decide) ⟨.str ⟨#[c]⟩,H,I1,⟨u,rfl⟩,⟨rfl,c,h1,rfl⟩,st',fun b hb=>(hf b hb).1⟩⟩
 done:=by
  intro X hP hw hK hc i pJ s σ H E I hf st hg
  subst hP hw hK
  obtain ⟨f0,f1,f2,f3,f4,f5⟩:=hf it (by simp)
  have hg:x.cps.size<=i:=hg
  exact wpAny_pyNext_ascii_end (I.ok.hd hc) st (by simp [hg]) fun h' eb=>⟨rfl,I.turned (t':=s.toks) (fun b o hb e=>eb b o hb e) f0 f1 f3 f4 f5⟩
 self:=fun _ _ _ _ _ st h=>wpAny_pyIter_striter_ascii st h
theorem Us {P:Ν}{w:ϖ}{K:W.Frag}{tg:Expr}(x:Str) (t:Tok) (it:Addr):Turn P w K tg (Its x) [it] it (fun i h=>h.IsStrIter it "str_iterator" x t i) where
 mem:=by simp
 obj:=fun i h st b hb=>by
  have e:b=it:=by simpa using hb
  subst e
  obtain ⟨o,e,c,d⟩:=st
  exact ⟨o,e,fun v z=>by rw [d] at z;cases z⟩
 keep:=fun i h h' st k=>by
  obtain ⟨o,e,r⟩:=st
  exact ⟨o,k it (by simp) o e,r⟩
 item:=by
  intro X hP hw hK hc i pJ s σ H E I hf st hg
  subst hP hw hK
  obtain ⟨f0,f1,f2,f3,f4,f5⟩:=hf it (by simp)
  refine (Walks.strWide (prog:=X.prog) (w:=X.w) (I.ok.hd hc) it x t).item i s _ _ hg st fun v h' tk hv st' kk=>?_
  obtain ⟨c,u,h1,rfl⟩:=hv
  have I1:Inv X pJ σ H { s with heap:=h',toks:=tk }:=I.turned (fun b o hb e=>kk b o (by simpa using hb) e) f0 f1 f3 f4 f5
  obtain ⟨o,e,c1,d⟩:=id st'
  exact ⟨_,rfl,go_of (s:={ s with heap:=h',toks:=tk }) e c1 d (by decide) ⟨.str ⟨#[c]⟩,H,I1,⟨u,rfl⟩,⟨rfl,c,h1,rfl⟩,st',fun b hb=>(hf b hb).1⟩⟩
 done:=by
  intro X hP hw hK hc i pJ s σ H E I hf st hg
  subst hP hw hK
  obtain ⟨f0,f1,f2,f3,f4,f5⟩:=hf it (by simp)
  have hg:x.cps.size<=i:=hg
  exact wpAny_pyNext_wide_end (I.ok.hd hc) st (by simp [hg]) fun h' eb=>⟨rfl,I.turned (t':=s.toks) (fun b o hb e=>eb b o hb e) f0 f1 f3 f4 f5⟩
 self:=fun _ _ _ _ _ st h=>wpAny_pyIter_striter_wide st h
theorem zdl {pJ:List (Addr×Obj)}{σ:St}{H:Hp}{s:μ}{R:It->Hp->Prop}{z:Str}{t:Tok}(I:Inv X pJ σ H s) (h:R (Its z) H):ψ (Ζ X.prog X.w) X.A (iM (.str z t)) (PIE X pJ σ tg R) X.xe s:=by
 have fp:∀ b∈[s.heap.objs.size],FpOk X pJ H b:=fun b hb=>by
  rw [Υ.mp hb]
  exact I.fpOk (ξ _) (I.hok.fresh (ξ _))
 cases ha:z.cps.all (· < 128) with
 | false=>exact wpAny_pyIter_wide ha ⟨s.heap.objs.size,[s.heap.objs.size],_,_,H,rfl,I.kept (t':=s.toks) fun b o e=>η _ e,Us z t _,⟨_,ς _ rfl,rfl,rfl⟩,fp,h⟩
 | true=>exact wpAny_pyIter_ascii ha ⟨s.heap.objs.size,[s.heap.objs.size],_,_,H,rfl,I.kept (t':=s.toks) fun b o e=>η _ e,Ut z t _,⟨_,ς _ rfl,rfl,rfl⟩,fp,h⟩
theorem zeO {l:Expr}{tl:TE}(hl:PE X l tl):PI X tg l (fun σ H R=>tl σ H fun x H1=>(∃ a,x=.ref a/\(((∃ xs,SqL X.K H1 a xs)/\R (Itl X.K a) H1)\/((∃ xs,SqT X.K H1 a xs)/\R (Itt X.K a) H1)))\/∃ z,x=.str z/\R (Its z) H1):=by
 intro pJ s σ H R I h
 refine thn (hl pJ s σ H _ I h) fun v s1 ⟨x,H1,I1,r1,q⟩=>?_
 rcases q with ⟨a,e,q⟩ | ⟨z,e,q⟩
 ·subst e
  cases r1
  exact zfx I1 q
 ·subst e
  obtain ⟨t,rfl⟩:=r1
  exact zdl I1 q
theorem zab {a:Expr}{ta:TA}{p pos:Pos}{elts:List Expr}{kk:Nat}{tp:Pos}(hg:Gl X "enumerate") (hm:X.mg "enumerate"=none) (hv:cQ "enumerate"=some (.type "enumerate")) (ha:PA X [a] ta) (hs:Ϝ [a] X.env=[(false,eval a X.env)]):
  PI X (.Tuple elts kk tp) (.Call (.Name "enumerate" p) [a] [] pos) (fun σ H R=>ta σ H fun vs H1=>∃ l,vs=[.ref l]/\(((∃ xs,SqL X.K H1 l xs)/\R (Ite X.K l) H1)\/((∃ xs,SqT X.K H1 l xs)/\R (Itet X.K l) H1))):=by
 intro pJ s σ H R I h
 refine Call_ (vh I hg hm hv (aC (thn (ha pos pJ s σ H _ I h) fun us s1 ⟨vs,H1,I1,r1,q1⟩=>?_) hs rfl))
 obtain ⟨l,e,q1⟩:=q1
 subst e
 obtain ⟨u,rfl,ru⟩:=r1.one
 cases (show u=ω l from ru)
 have fp:∀ b∈[s1.heap.objs.size+1,s1.heap.objs.size],FpOk X pJ H1 b:=fun b hb=>by
  have hb':b=s1.heap.objs.size+1\/b=s1.heap.objs.size:=by simpa using hb
  rcases hb' with rfl | rfl
  ·exact I1.fpOk (by lia) (I1.hok.fresh (by lia))
  ·exact I1.fpOk (ξ _) (I1.hok.fresh (ξ _))
 rcases q1 with ⟨⟨xs,hq⟩,q⟩ | ⟨⟨xs,hq⟩,q⟩
 ·obtain ⟨its,rv,pl,hz⟩:=I1.list hq
  refine call_enumerate_list pl.isList fun h' he hit hsz hk=>?_
  have I2:Inv X pJ σ H1 { s1 with heap:=h' }:=I1.kept (t':=s1.toks) hk
  exact gR he ⟨_,[s1.heap.objs.size+1,s1.heap.objs.size],_,_,H1,rfl,I2,Uw l _ _ (Nat.succ_ne_self _),⟨⟨_,he⟩,hit⟩,fp,q⟩
 ·obtain ⟨its,rv,pl,hz⟩:=I1.tuple hq
  refine wC (show s1.heap.IsTuple l its.toArray from pl) fun h' he hit hsz hk=>?_
  have I2:Inv X pJ σ H1 { s1 with heap:=h' }:=I1.kept (t':=s1.toks) hk
  exact gR he ⟨_,[s1.heap.objs.size+1,s1.heap.objs.size],_,_,H1,rfl,I2,Vz l _ _ (Nat.succ_ne_self _),⟨⟨_,he⟩,hit⟩,fp,q⟩
end
end L2
namespace EV
open PySem PySem.Spec PyProof.Rows L2
section
variable {Γ:Gm}{Hz:Hp}{ρ:List Slot}
theorem zy {α:Type}{l:List α}{i j:Nat}{a b:α}:(l.set i a)[j]?=some b->(i=j/\i < l.length/\b=a)\/(i≠j/\l[j]?=some b):=by
 intro h
 by_cases e:i=j
 ·subst e
  by_cases hi:i < l.length
  ·rw [aj hi] at h
   cases h
   exact .inl ⟨rfl,hi,rfl⟩
  ·rw [nR (by lia)] at h
   rw [aY (by lia)] at h
   cases h
 ·rw [Φ e] at h
  exact .inr ⟨e,h⟩
theorem EnvO.setSh {H:Hp}{g:G}{σ:L2.St}{i:Nat}{d:D}{v:V}(env:EnvO Γ Hz H g ρ σ) (h:Has Γ g d v):EnvO Γ Hz H g (ρ.set i (.sh d)) (σ.set i (some v)):=by
 have hl:=env.len
 refine ⟨by simp [hl],fun j e q=>?_,fun j e q=>?_,fun j j' e e' a q1 q2 q3 q4=>?_⟩
 ·rcases zy q with ⟨rfl,h1,h2⟩ | ⟨h1,h2⟩
  ·cases h2
   exact ⟨v,aj (by lia),h⟩
  ·obtain ⟨u,e1,e2⟩:=env.sh j e h2
   exact ⟨u,by rw [Φ h1];exact e1,e2⟩
 ·rcases zy q with ⟨rfl,h1,h2⟩ | ⟨h1,h2⟩
  ·cases h2
  ·obtain ⟨a,e1,e2⟩:=env.ow j e h2
   exact ⟨a,by rw [Φ h1];exact e1,e2⟩
 ·rcases zy q1 with ⟨rfl,h1,h2⟩ | ⟨h1,h2⟩
  ·cases h2
  ·rcases zy q2 with ⟨rfl,h3,h4⟩ | ⟨h3,h4⟩
   ·cases h4
   ·rw [Φ h1] at q3
    rw [Φ h3] at q4
    exact env.inj j j' e e' a h2 h4 q3 q4
theorem EnvO.setOw {H:Hp}{g:G}{σ:L2.St}{i:Nat}{d:D}{a:Addr}(env:EnvO Γ Hz H g ρ σ) (h0:Hz a=none) (hr:g.R a=none) (ha:a ∉ g.α) (hc:zK Γ H g a d) (hi:isIns d=false)
  (ne:∀ (j:Nat) (d':D),ρ[j]?=some (.ow d')->j≠i->σ[j]?≠some (some (.ref a))):EnvO Γ Hz H g (ρ.set i (.ow d)) (σ.set i (some (.ref a))):=by
 have hl:=env.len
 refine ⟨by simp [hl],fun j e q=>?_,fun j e q=>?_,fun j j' e e' b q1 q2 q3 q4=>?_⟩
 ·rcases zy q with ⟨rfl,h1,h2⟩ | ⟨h1,h2⟩
  ·cases h2
  ·obtain ⟨u,e1,e2⟩:=env.sh j e h2
   exact ⟨u,by rw [Φ h1];exact e1,e2⟩
 ·rcases zy q with ⟨rfl,h1,h2⟩ | ⟨h1,h2⟩
  ·cases h2
   exact ⟨a,aj (by lia),h0,hr,ha,hc,hi⟩
  ·obtain ⟨b,e1,e2⟩:=env.ow j e h2
   exact ⟨b,by rw [Φ h1];exact e1,e2⟩
 ·rcases zy q1 with ⟨rfl,h1,h2⟩ | ⟨h1,h2⟩
  ·rcases zy q2 with ⟨rfl,h3,h4⟩ | ⟨h3,h4⟩
   ·rfl
   ·rw [aj (by lia)] at q3
    cases q3
    rw [Φ h3] at q4
    exact absurd q4 (ne j' e' h4 (gJ h3))
  ·rcases zy q2 with ⟨rfl,h3,h4⟩ | ⟨h3,h4⟩
   ·rw [aj (by lia)] at q4
    cases q4
    rw [Φ h1] at q3
    exact absurd q3 (ne j e h2 (gJ h1))
   ·rw [Φ h1] at q3
    rw [Φ h3] at q4
    exact env.inj j j' e e' b h2 h4 q3 q4
theorem uM {Q:L2.St->Hp->Prop}{H:Hp}{g:G}:∀ {is:List Nat}{ds:List D}{vs:List V}{ρ:List Slot}{σ:L2.St},is.length=ds.length->Hass Γ g ds vs->EnvO Γ Hz H g ρ σ ->
  (∀ σ',EnvO Γ Hz H g ((is.zip ds).foldl (fun r p=>r.set p.1 (.sh p.2)) ρ) σ'->Q σ' H)->Z9 is vs σ H Q
 | [],[],vs,ρ,σ,_,h,env,q=>by
  cases (show vs=[] from h)
  exact ⟨rfl,q σ env⟩
 | i::is,d::ds,vs,ρ,σ,hl,⟨v,r,e,hd,hr⟩,env,q=>by
  subst e
  exact ⟨v,r,rfl,uM (by simpa using hl) hr (env.setSh hd) q⟩
 | [],_::_,_,_,_,hl,_,_,_=>by simp at hl
 | _::_,[],_,_,_,hl,_,_,_=>by simp at hl
set_option tactic.hygienic true in
theorem kj {K:W.Frag}{t:T}{ρ':List Slot}{H:Hp}{g:G}{σ:L2.St}{d:D}{fr:Bool}{v:V}{Q:L2.St->Hp->Prop}(hb:bindT ρ t (d,fr)=some ρ') (env:EnvO Γ Hz H g ρ σ) (sr:Same g.R H) (vo:VOk Γ Hz d fr v H g)
  (ne:fr=true->∀ (i:Nat) (d:D),ρ[i]?=some (.ow d)->σ[i]?≠some (some v)) (q:∀ σ',EnvO Γ Hz H g ρ' σ'->Q σ' H):tgOf K t v σ H Q:=by
 cases t with
 | one i=>
  simp only [bindT] at hb
  split at hb
  ·rename_i hc
   rw [ε] at hc
   have hi:isIns d=false:=by simpa using hc.2
   cases hb
   refine q _ ?_
   cases fr with
   | false=>exact env.setSh vo
   | true=>
    obtain ⟨a,e,h0,hr,ha,hcell⟩:=(show ∃ a,v=.ref a/\Hz a=none/\g.R a=none/\a ∉ g.α/\zK Γ H g a d from vo)
    subst e
    exact env.setOw h0 hr ha hcell hi fun j d' h _=>ne rfl j d' h
  ·cases hb
 | tup is=>
  cases d with
  | tup ds=>
   simp only [bindT] at hb
   split at hb
   ·rename_i hc
    cases hb
    have hv:Has Γ g (.tup ds) v:=by
     cases fr with
     | false=>exact vo
     | true=>obtain ⟨_,_,_,_,_,hc⟩:=(show ∃ a,v=.ref a/\Hz a=none/\g.R a=none/\a ∉ g.α/\zK Γ H g a (.tup ds) from vo);exact hc.elim
    obtain ⟨a,vs,rfl,h1,h2⟩:=hv
    exact ⟨a,vs,rfl,SqT.of (sr _ _ h1),by rw [h2.len,hc.1],uM hc.1 h2 env q⟩
   ·cases hb
  | _=>simp [bindT] at hb
 | nst i is=>
  have hb:((nst2 d).bind fun p=>if i < ρ.length/\is.length=p.2.length/\is.Nodup/\is.all (· < ρ.length) then some ((is.zip p.2).foldl (fun r p=>r.set p.1 (.sh p.2)) (ρ.set i (.sh p.1))) else none)=some ρ':=by cases d <;> exact hb
  cases e:nst2 d with
  | none=>rw [e] at hb;cases hb
  | some p=>
   rw [e] at hb
   obtain ⟨y,ds⟩:=p
   have ed:=zc3 e
   subst ed
   have hb:(if i < ρ.length/\is.length=ds.length/\is.Nodup/\is.all (· < ρ.length) then some ((is.zip ds).foldl (fun r p=>r.set p.1 (.sh p.2)) (ρ.set i (.sh y))) else none)=some ρ':=hb
   by_cases hc:i < ρ.length/\is.length=ds.length/\is.Nodup/\is.all (· < ρ.length)
   ·rw [if_pos hc] at hb
    cases hb
    have hv:Has Γ g (.tup [y,.tup ds]) v:=by
     cases fr with
     | false=>exact vo
     | true=>obtain ⟨_,_,_,_,_,hc⟩:=(show ∃ a,v=.ref a/\Hz a=none/\g.R a=none/\a ∉ g.α/\zK Γ H g a (.tup [y,.tup ds]) from vo);exact hc.elim
    obtain ⟨a,vs,rfl,h1,h2⟩:=hv
    obtain ⟨u,u2,rfl,h3,h4⟩:=h2.two
    obtain ⟨b,ws,rfl,h5,h6⟩:=h4
    exact ⟨a,_,rfl,SqT.of (sr _ _ h1),rfl,u,_,rfl,.ref b,[],rfl,b,ws,rfl,SqT.of (sr _ _ h5),by rw [h6.len,hc.2.1],uM hc.2.1 h6 (env.setSh h3) fun σ' env'=>⟨rfl,q σ' env'⟩⟩
   ·rw [if_neg hc] at hb;cases hb
end
structure ItOk (Γ:Gm) (J:It) (l:List D) (g:G):Prop where
 go:∀ (i:Nat) (H:Hp) (g':G),Le g g'->Same g'.R H->i < l.length->J.go i H
 stop:∀ (i:Nat) (H:Hp) (g':G),Le g g'->Same g'.R H->l.length<=i->J.stop i H
 yld:∀ (i:Nat) (H:Hp) (g':G) (S:Store) (z:V) (H':Hp) (d:D),Le g g'->WOk Γ H g' S->l[i]?=some d->J.yld i H z H'->∃ g2,Step H g' H' g2/\Same H H'/\WOk Γ H' g2 S/\Has Γ g2 d z
theorem wA:∀ (n:Nat) (l:List D),(enumD n l).length=l.length
 | _,[]=>rfl
 | n,d::l=>by show (enumD (n+1) l).length+1=_;rw [wA];rfl
theorem Vd:∀ (n:Nat) (l:List D) (i:Nat) (d:D),(enumD n l)[i]?=some d->∃ d0,l[i]?=some d0/\d=.tup [.int ((n+i:Nat):Int),d0]
 | _,[],i,d,h=>by simp [enumD] at h
 | n,x::l,0,d,h=>by
  have h:some (D.tup [.int n,x])=some d:=h
  cases h
  exact ⟨x,rfl,rfl⟩
 | n,x::l,i+1,d,h=>by
  have h:(enumD (n+1) l)[i]?=some d:=by simpa [enumD] using h
  obtain ⟨d0,e1,e2⟩:=Vd (n+1) l i d h
  refine ⟨d0,by simpa using e1,?_⟩
  rw [e2,show n+1+i=n+(i+1) by lia]
def TXi (Γ:Gm) (cf:Cf) (e:E):TI:=fun σ H Q=>∃ ρ S W g Hz,wpI cf ρ e W S/\WOk Γ H g S/\EnvO Γ Hz H g ρ σ/\∀ l J H' g' S',Step H g H' g'->WOk Γ H' g' S'->ItOk Γ J l g'->W l S'->Q J H'
def TXf (Γ:Gm) (cf:Cf) (es:List E):TT:=fun σ H Q=>∃ ρ S W g Hz,wpF cf ρ es W S/\WOk Γ H g S/\EnvO Γ Hz H g ρ σ/\∀ b H' g' S',Step H g H' g'->WOk Γ H' g' S'->W b S'->Q b H'
theorem goI {Γ:Gm}{cf:Cf}{σ:L2.St}{H:Hp}{P:Prop}{e:E}{Q} (h:TXi Γ cf e σ H Q) (f:∀ ρ S W g Hz,wpI cf ρ e W S->WOk Γ H g S->EnvO Γ Hz H g ρ σ->(∀ l J H' g' S',Step H g H' g'->WOk Γ H' g' S'->ItOk Γ J l g'->W l S'->Q J H')->P):P:=
 let ⟨ρ,S,V,g,Hz,a,b,c,d⟩:=h;f ρ S V g Hz a b c d
theorem goF {Γ:Gm}{cf:Cf}{σ:L2.St}{H:Hp}{P:Prop}{es:List E}{Q} (h:TXf Γ cf es σ H Q) (f:∀ ρ S W g Hz,wpF cf ρ es W S->WOk Γ H g S->EnvO Γ Hz H g ρ σ->(∀ b H' g' S',Step H g H' g'->WOk Γ H' g' S'->W b S'->Q b H')->P):P:=
 let ⟨ρ,S,V,g,Hz,a,b,c,d⟩:=h;f ρ S V g Hz a b c d
section
variable {X:Cx}{Γ:Gm}{S:Store}{x y z tgt:Expr}{pos p tp:Pos}{cf:Cf}{a b:E}{elts:List Expr}{kk:Nat}
theorem PI.imp {wi wi':TI}(h:PI X tgt x wi) (i:∀ σ H Q,wi' σ H Q->wi σ H Q):PI X tgt x wi':=fun pJ s σ H Q I q=>h pJ s σ H Q I (i σ H Q q)
theorem zbD {a:Addr}{vs:List V}{l:List D}{g:G}(h:∀ g',Le g g'->∀ H,Same g'.R H->SqL X.K H a vs) (hh:Hass Γ g l vs):ItOk Γ (Itl X.K a) l g where
 go:=fun i H g' le sr hi=>⟨vs,vs[i]'(by rw [hh.len];exact hi),h g' le H sr,by simp [hh.len,hi]⟩
 stop:=fun i H g' le sr hi=>⟨vs,h g' le H sr,by rw [hh.len];exact hi⟩
 yld:=fun i H g' S z H' d le w hd y=>by
  obtain ⟨e,y⟩:=y
  subst e
  obtain ⟨v,hv,hd'⟩:=hh.get hd
  have e2:=y vs (h g' le _ w.rh)
  rw [hv] at e2
  cases e2
  exact ⟨g',Step.refl _ _,Same.refl _,w,hd'.mono le⟩
theorem zbC {a:Addr}{vs:List V}{l:List D}{g:G}(h:∀ g',Le g g'->∀ H,Same g'.R H->SqT X.K H a vs) (hh:Hass Γ g l vs):ItOk Γ (Itt X.K a) l g where
 go:=fun i H g' le sr hi=>⟨vs,vs[i]'(by rw [hh.len];exact hi),h g' le H sr,by simp [hh.len,hi]⟩
 stop:=fun i H g' le sr hi=>⟨vs,h g' le H sr,by rw [hh.len];exact hi⟩
 yld:=fun i H g' S z H' d le w hd y=>by
  obtain ⟨e,y⟩:=y
  subst e
  obtain ⟨v,hv,hd'⟩:=hh.get hd
  have e2:=y vs (h g' le _ w.rh)
  rw [hv] at e2
  cases e2
  exact ⟨g',Step.refl _ _,Same.refl _,w,hd'.mono le⟩
theorem zfw {z:Str}{g:G}:ItOk Γ (Its z) (z.cps.toList.map fun c=>D.str ⟨#[c]⟩) g where
 go:=fun i H g' le sr hi=>by
  show i < z.cps.size
  simpa using hi
 stop:=fun i H g' le sr hi=>by
  show z.cps.size<=i
  simpa using hi
 yld:=fun i H g' S v H' d le w hd y=>by
  obtain ⟨e,c,e1,e2⟩:=y
  subst e e2
  refine ⟨g',Step.refl _ _,Same.refl _,w,?_⟩
  rw [Δ,bK,e1] at hd
  cases hd
  rfl
theorem zfy {lo:Int}{n:Nat}{g:G}:ItOk Γ (Itr lo n) ((Η n).map fun (k:Nat)=>D.int (lo+(k:Int))) g where
 go:=fun i H g' le sr hi=>by
  show i < n
  simpa using hi
 stop:=fun i H g' le sr hi=>by
  show n<=i
  simpa using hi
 yld:=fun i H g' S z H' d le w hd y=>by
  obtain ⟨e,y⟩:=y
  subst e y
  refine ⟨g',Step.refl _ _,Same.refl _,w,?_⟩
  rw [Δ] at hd
  cases q:(Η n)[i]? with
  | none=>rw [q] at hd;cases hd
  | some j=>
   rw [q] at hd
   cases hd
   have:=(π.mp q).2
   simp at this
   subst this
   rfl
theorem XQ {l:List D}{vs:List V}{g g':G}{H:Hp}{i:Nat}{d:D}{a:Addr}{y:V}(hh:Hass Γ g l vs) (le:Le g g') (w:WOk Γ H g' S) (hd:(enumD 0 l)[i]?=some d) (ha:H a=none) (hy:vs[i]?=some y):
  ∃ g2,Step H g' (upd H a (.tup [.int i,y])) g2/\Same H (upd H a (.tup [.int i,y]))/\WOk Γ (upd H a (.tup [.int i,y])) g2 S/\Has Γ g2 d (.ref a):=by
 obtain ⟨d0,e1,e2⟩:=Vd 0 l i d hd
 obtain ⟨v,hv,hd'⟩:=hh.get e1
 rw [hy] at hv
 cases hv
 have hr:=w.notR ha
 refine ⟨g'.put a (.tup [.int i,y]),(Step.of_same (zT ha) (Le.refl g') (fun _ h=>.inl h) fun _ h=>.inl h).put hr ha,zT ha,(w.laid ha).put zj hr (w.notA ha),?_⟩
 rw [e2,show 0+i=i by lia]
 exact ⟨a,[.int i,y],rfl,zj,.int i,[y],rfl,rfl,y,[],rfl,(hd'.mono le).mono (Le.put hr),rfl⟩
theorem zfA {a:Addr}{vs:List V}{l:List D}{g:G}(h:∀ g',Le g g'->∀ H,Same g'.R H->SqL X.K H a vs) (hh:Hass Γ g l vs):ItOk Γ (Ite X.K a) (enumD 0 l) g where
 go:=fun i H g' le sr hi=>by
  rw [wA] at hi
  exact ⟨vs,vs[i]'(by rw [hh.len];exact hi),h g' le H sr,by simp [hh.len,hi]⟩
 stop:=fun i H g' le sr hi=>by
  rw [wA] at hi
  exact ⟨vs,h g' le H sr,by rw [hh.len];exact hi⟩
 yld:=fun i H g' S z H' d le w hd yy=>by
  obtain ⟨p,y,hp,rfl,rfl,hy⟩:=yy
  exact XQ hh le w hd hp (hy vs (h g' le _ w.rh))
theorem zfz {a:Addr}{vs:List V}{l:List D}{g:G}(h:∀ g',Le g g'->∀ H,Same g'.R H->SqT X.K H a vs) (hh:Hass Γ g l vs):ItOk Γ (Itet X.K a) (enumD 0 l) g where
 go:=fun i H g' le sr hi=>by
  rw [wA] at hi
  exact ⟨vs,vs[i]'(by rw [hh.len];exact hi),h g' le H sr,by simp [hh.len,hi]⟩
 stop:=fun i H g' le sr hi=>by
  rw [wA] at hi
  exact ⟨vs,h g' le H sr,by rw [hh.len];exact hi⟩
 yld:=fun i H g' S z H' d le w hd yy=>by
  obtain ⟨p,y,hp,rfl,rfl,hy⟩:=yy
  exact XQ hh le w hd hp (hy vs (h g' le _ w.rh))
theorem s_seq (hK:X.K=Γ.K) (h:PE X x (TX Γ cf a)):PI X tgt x (TXi Γ cf (.seq a)):=
 PI.imp (zeO h) fun σ H Q h0=>goI h0 fun ρ S W g Hz hw w env k=>⟨ρ,S,_,g,Hz,hw,w,env,fun x v H1 g1 S1 st w1 vx h=>by
  obtain ⟨g2,st2,w2,hx,q⟩:=vx.keep st w1 h
  obtain ⟨l,el,q⟩:=zH q
  generalize x.1=d at *
  cases d with
  | lst l'=>
   cases el
   obtain ⟨a,vs,e1,h1,h2⟩:=hx
   exact .inl ⟨a,e1,.inl ⟨⟨vs,SqL.of (w2.rh _ _ h1)⟩,k _ _ H1 g2 S1 st2 w2 (zbD (fun g3 le H2 sr=>SqL.of (sr _ _ (le.rr _ _ h1))) h2) q⟩⟩
  | tup l'=>
   cases el
   obtain ⟨a,vs,e1,h1,h2⟩:=hx
   exact .inl ⟨a,e1,.inr ⟨⟨vs,SqT.of (w2.rh _ _ h1)⟩,k _ _ H1 g2 S1 st2 w2 (zbC (fun g3 le H2 sr=>SqT.of (sr _ _ (le.rr _ _ h1))) h2) q⟩⟩
  | scr ns=>
   cases el
   obtain ⟨a,e1,h1⟩:=hx
   exact .inl ⟨a,e1,.inl ⟨⟨_,by rw [hK];exact w2.rh.seq h1⟩,k _ _ H1 g2 S1 st2 w2 (zbD (fun g3 le H2 sr=>by rw [hK];exact sr.seq (le.rr.seq h1)) Hass.ints) q⟩⟩
  | str z=>
   cases el
   exact .inr ⟨z,hx,k _ _ H1 g2 S1 st2 w2 zfw q⟩
  | ktp l'=>
   cases el
   obtain ⟨a,vs,e1,h1,h2⟩:=hx
   exact .inl ⟨a,e1,.inr ⟨⟨vs,by rw [hK];exact .inr h1⟩,k _ _ H1 g2 S1 st2 w2 (zbC (fun g3 le H2 sr=>by rw [hK];exact .inr h1) h2) q⟩⟩
  | _=>cases el⟩
theorem zez (hK:X.K=Γ.K) (hg:Gl X "enumerate") (hm:X.mg "enumerate"=none) (hs:notStar x=true) (h:PE X x (TX Γ cf a)):PI X (.Tuple elts kk tp) (.Call (.Name "enumerate" p) [x] [] pos) (TXi Γ cf (.enum a)):=
 PI.imp (zab hg hm rfl (yf h xW (zb hs _ _)) (zb hs _ _)) fun σ H Q h0=>goI h0 fun ρ S W g Hz hw w env k=>⟨ρ,S,_,g,Hz,hw,w,env,fun x v H1 g1 S1 st w1 vx h=>by
  obtain ⟨g2,st2,w2,hx,q⟩:=vx.keep st w1 h
  obtain ⟨l,el,q⟩:=zH q
  generalize x.1=d at *
  cases d with
  | lst l'=>
   cases el
   obtain ⟨a,vs,e1,h1,h2⟩:=hx
   exact ⟨a,by rw [e1],.inl ⟨⟨vs,SqL.of (w2.rh _ _ h1)⟩,k _ _ H1 g2 S1 st2 w2 (zfA (fun g3 le H2 sr=>SqL.of (sr _ _ (le.rr _ _ h1))) h2) q⟩⟩
  | tup l'=>
   cases el
   obtain ⟨a,vs,e1,h1,h2⟩:=hx
   exact ⟨a,by rw [e1],.inr ⟨⟨vs,SqT.of (w2.rh _ _ h1)⟩,k _ _ H1 g2 S1 st2 w2 (zfz (fun g3 le H2 sr=>SqT.of (sr _ _ (le.rr _ _ h1))) h2) q⟩⟩
  | _=>cases el⟩
theorem zep (hg:Gl X "range") (hm:X.mg "range"=none) (hs:notStar x=true) (h:PE X x (TX Γ cf a)):PI X tgt (.Call (.Name "range" p) [x] [] pos) (TXi Γ cf (.rng none a)):=
 PI.imp (Jt hg hm (yf h xW (zb hs _ _)) (zb hs _ _)) fun σ H Q h0=>goI h0 fun ρ S W g Hz hw w env k=>⟨ρ,S,_,g,Hz,hw,w,env,fun x v H1 g1 S1 st w1 vx h=>by
  obtain ⟨j,e,q⟩:=vx.int h
  obtain ⟨hf,q⟩:=xM q
  rw [ε] at hf
  have h1:j.toNat<=1000000:=of_decide_eq_true hf.1
  have h2:-1000000<=j:=of_decide_eq_true hf.2
  refine ⟨j,by rw [e],by lia,by lia,k _ _ H1 g1 S1 st w1 ?_ q⟩
  have:=zfy (Γ:=Γ) (lo:=0) (n:=(j - 0).toNat) (g:=g1)
  rw [show (j - 0).toNat=j.toNat by lia] at this
  rw [show zQ 0 j=(Η j.toNat).map fun (k:Nat)=>D.int (0+(k:Int)) by unfold zQ;rw [show (j - 0).toNat=j.toNat by lia]]
  exact this⟩
theorem XD {xs:List Expr}{env:Env}{pos:Pos}(h:∀ x∈xs,notStar x=true):(dB pos (Ϝ xs env)).any (·.1)=false:=by
 induction xs with
 | nil=>rfl
 | cons a l ih=>
  rw [zb (h a υ)]
  show (false||(dB pos (Ϝ l env)).any (·.1))=false
  rw [ih fun z hz=>h z (ι _ hz)]
  rfl
theorem Xv {i j:Int}:(zQ (j+1) (i+1)).reverse.length=(i - j).toNat:=by
 unfold zQ
 rw [iW,ν,ϱ]
 omega
theorem zfB {i j:Int}{g:G}:ItOk Γ (Itd i (i - j).toNat) (zQ (j+1) (i+1)).reverse g where
 go:=fun m H g' le sr hi=>by
  show m < (i - j).toNat
  rwa [Xv] at hi
 stop:=fun m H g' le sr hi=>by
  show (i - j).toNat<=m
  rwa [Xv] at hi
 yld:=fun m H g' S z H' d le w hd y=>by
  obtain ⟨e,y⟩:=y
  subst e y
  refine ⟨g',Step.refl _ _,Same.refl _,w,?_⟩
  have hl:=(π.mp hd).1
  rw [Xv] at hl
  unfold zQ at hd
  have hl2:m < (i+1 - (j+1)).toNat:=by omega
  rw [oU (by simpa using hl2),ν,ϱ,Δ,o6 (by omega)] at hd
  cases hd
  show V.int _=V.int _
  congr 1
  omega
set_option tactic.hygienic true in
theorem s_dwn {xs:List Expr}{es:List E}(hg:Gl X "range") (hm:X.mg "range"=none) (hs:∀ z∈xs,notStar z=true) (hl:xs.length=3) (h:PA X xs (TXs Γ cf es)):PI X tgt (.Call (.Name "range" p) xs [] pos) (TXi Γ cf (.dwn es)):=by
 match xs,hl with
 | [x,y,z],_=>
  refine PI.imp (Js hg hm h (zb (hs x (by simp)) _ _) (XD fun z hz=>hs z (ι _ hz))) fun σ H Q h0=>goI h0 fun ρ S W g Hz hw w env k=>⟨ρ,S,_,g,Hz,hw,w,env,fun ds vs H1 g1 S1 st w1 hv h1=>?_⟩
  obtain ⟨l,eb,q⟩:=zH h1
  unfold dwnD at eb
  split at eb
  ·rename_i i j m
   split at eb
   ·rename_i hf
    cases eb
    simp only [ε,decide_eq_true_eq] at hf
    obtain ⟨⟨⟨⟨e,h1⟩,h2⟩,h3⟩,h4⟩:=hf
    subst e
    obtain ⟨a,r,rfl,ha,b,r2,rfl,hb,c,r3,rfl,hc,rfl⟩:=hv
    exact ⟨i,j,by rw [show a=V.int i from ha,show b=V.int j from hb,show c=V.int (-1) from hc],⟨by omega,by omega,by omega,by omega⟩,k _ _ H1 g1 S1 st w1 zfB q⟩
   ·cases eb
  ·cases eb
theorem s_fn:PTs X [] (TXf Γ cf []):=fun pJ s σ H Q I h0=>goF h0 fun ρ S W g Hz hw w env k=>zcy pJ s σ H Q I (k true H g S (Step.refl H g) w hw)
theorem s_f1 (h:PT X x (TB Γ cf a)):PTs X [x] (TXf Γ cf [a]):=fun pJ s σ H Q I h0=>goF h0 fun ρ S W g Hz hw w env k=>zcx h pJ s σ H Q I ⟨ρ,S,_,g,Hz,hw,w,env,fun x H1 g1 S1 st w1 h=>by
 obtain ⟨b,e,q⟩:=ww h
 rw [e]
 exact k b H1 g1 S1 st w1 q⟩
end
theorem Va {α β:Type}{f:α->β}:∀ (l:List (Nat×α)) (r:List β) (i:Nat),(∀ p∈l,p.1≠i)->(l.foldl (fun r p=>r.set p.1 (f p.2)) r)[i]?=r[i]?
 | [],_,_,_=>rfl
 | p::l,r,i,h=>by
  rw [fC,Va l _ i fun q hq=>h q (ι _ hq),Φ (h p υ)]
theorem W9 {α β:Type}{f:α->β}:∀ (l:List (Nat×α)) (r:List β),(l.foldl (fun r p=>r.set p.1 (f p.2)) r).length=r.length
 | [],_=>rfl
 | p::l,r=>by rw [fC,W9 l,bT]
theorem Uc {ρ ρ':List Slot}{t:T}{d:D}(hn:isNst t=false) (h:bindT ρ t (d,false)=some ρ'):ρ'.length=ρ.length/\∀ i,i ∉ tIs t->ρ'[i]?=ρ[i]?:=by
 cases t with
 | one j=>
  simp only [bindT] at h
  split at h
  ·cases h
   exact ⟨by simp,fun i hi=>by rw [Φ];rintro rfl;exact hi (by simp [tIs])⟩
  ·cases h
 | tup is=>
  cases d with
  | tup ds=>
   simp only [bindT] at h
   split at h
   ·cases h
    refine ⟨W9 _ _,fun i hi=>Va _ _ i fun p hp=>?_⟩
    rintro rfl
    obtain ⟨p1,p2⟩:=p
    exact hi (fB hp).1
   ·cases h
  | _=>simp [bindT] at h
 | nst _ _=>cases hn
theorem uL {ρ:List Slot}{t:T}{js:List Nat}{i:Nat}{s:Slot}(h:(inn ρ t js)[i]?=some s):s=.no\/(nT t<=i/\∃ j,js[i - nT t]?=some j/\ρ[j]?=some s):=by
 unfold inn at h
 by_cases hi:i < nT t
 ·rw [ώ (by simpa using hi),dR,if_pos hi] at h
  cases h;exact .inl rfl
 ·rw [ϑ (by simpa using mD hi),ir,Δ] at h
  cases e:js[i - nT t]? with
  | none=>rw [e] at h;cases h
  | some j=>
   rw [e] at h
   cases q:ρ[j]? with
   | none=>simp [q] at h;exact .inl h.symm
   | some z=>simp [q] at h;subst h;exact .inr ⟨by lia,j,rfl,q⟩
theorem vJ {σ:L2.St}{js:List Nat}{n i j:Nat}{v:V}(hi:n<=i) (hj:js[i - n]?=some j) (h:σ[j]?=some (some v)):(Θ n none++rows σ js)[i]?=some (some v):=by
 rw [ϑ (by simpa using hi),ir]
 unfold rows
 rw [Δ,hj]
 simp [ϸ,h]
section
variable {Γ:Gm}{Hz H:Hp}{g:G}{ρ:List Slot}{σ τ:L2.St}{t:T}{js:List Nat}
theorem zdv (env:EnvO Γ Hz H g ρ σ) (hj:js.Nodup):EnvO Γ Hz H g (inn ρ t js) (Θ (nT t) none++rows σ js):=by
 refine ⟨by simp [inn,rows],fun i d e=>?_,fun i d e=>?_,fun i j d e a h1 h2 h3 h4=>?_⟩
 ·rcases uL e with q | ⟨hi,j,e1,e2⟩
  ·cases q
  ·obtain ⟨v,h1,h2⟩:=env.sh j d e2
   exact ⟨v,vJ hi e1 h1,h2⟩
 ·rcases uL e with q | ⟨hi,j,e1,e2⟩
  ·cases q
  ·obtain ⟨a,h1,h2⟩:=env.ow j d e2
   exact ⟨a,vJ hi e1 h1,h2⟩
 ·rcases uL h1 with q | ⟨hi,k,e1,e2⟩
  ·cases q
  rcases uL h2 with q | ⟨hi',k',e1',e2'⟩
  ·cases q
  obtain ⟨b,q1,_⟩:=env.ow k d e2
  obtain ⟨b',q1',_⟩:=env.ow k' e e2'
  have z:=vJ hi e1 q1
  have z':=vJ hi' e1' q1'
  rw [h3] at z
  rw [h4] at z'
  cases z
  cases z'
  have hk:=env.inj k k' d e a e2 e2' q1 q1'
  subst hk
  have:=(pM (π.mp e1).1 hj).mp (e1.trans e1'.symm)
  lia
theorem Vc {ρ':List Slot}{d:D}(hn:isNst t=false) (hix:∀ i∈tIs t,i < nT t) (hs:bindT (inn ρ t js) t (d,false)=some ρ') (env:EnvO Γ Hz H g ρ' τ):EnvO Γ Hz H g (inn ρ t js) τ:=by
 obtain ⟨h1,h2⟩:=Uc hn hs
 have key:∀ i s,(inn ρ t js)[i]?=some s->s≠Slot.no->ρ'[i]?=some s:=fun i s e ne=>by
  rw [h2 i fun m=>?_]
  ·exact e
  ·rcases uL e with q | ⟨hi,_⟩
   ·exact ne q
   ·have:=hix i m;lia
 exact ⟨h1.symm.trans env.len,fun i d e=>env.sh i d (key i _ e (by simp)),fun i d e=>env.ow i d (key i _ e (by simp)),fun i j d e a q1 q2 q3 q4=>env.inj i j d e a (key i _ q1 (by simp)) (key j _ q2 (by simp)) q3 q4⟩
end
section
variable {X:Cx}{Γ:Gm}{cf:Cf}{t:T}{js:List Nat}{it elt:E}{ifs:List E}
def cStep (cf:Cf) (ρ:List Slot) (t:T) (js:List Nat) (ifs:List E) (elt:E):D->(Option D->Store->Prop)->Store->Prop:=fun d K S=>opt (bindT (inn ρ t js) t (d,false)) fun ρ'=>wpF cf ρ' ifs (fun b S1=>tst b (wpE cf ρ' elt (fun x S2=>keep x fun d=>K (some d) S2) S1) (K none S1)) S
theorem zaT {n:Nat}{Qe:Addr->Hp->Prop}{σ:L2.St}{H:Hp}{V:Po}{ρ:List Slot}{S:Store}{g:G}{Hz:Hp}(hn:isNst t=false) (hix:∀ i∈tIs t,i < nT t) (ht:nT t=n) (hjs:js.Nodup) (hw:wpE cf ρ (.comp t js it ifs elt) V S) (w:WOk Γ H g S) (env:EnvO Γ Hz H g ρ σ)
  (k:∀ ds Da H' g' S',Step H g H' g'->WOk Γ H' g' S'->VN Γ H (.lst ds,.fr) (.ref Da) H' g'->V (.lst ds,.fr) S'->Qe Da H'):jo n js (TXi Γ cf it) (tgOf X.K t) (TXf Γ cf ifs) (TX Γ cf elt) Qe σ H:=by
 subst ht
 refine ⟨ρ,S,_,g,Hz,hw,w,env,fun l J H1 g1 S1 st1 w1 hJ h1 Da hDa=>?_⟩
 have h1:walkW (cStep cf ρ t js ifs elt) l [] (fun ds S2=>V (.lst ds,.fr) S2) S1:=h1
 refine ⟨fun i m ys τ H2=>m=l.length - i/\i<=l.length/\∃ g2 S2 acc,Step H1 g1 H2 g2/\WOk Γ H2 g2 S2/\EnvO Γ (upd Hz Da (.lst [])) H2 g2 (inn ρ t js) τ/\H2 Da=some (.lst ys)/\g2.R Da=none/\Da ∉ g2.α/\Hass Γ g2 acc ys/\fits acc.length=true/\walkW (cStep cf ρ t js ifs elt) (l.drop i) acc (fun ds S2=>V (.lst ds,.fr) S2) S2,⟨_,rfl,Ϣ _,g1,S1,[],?_⟩,?_⟩
 ·have st:=(Step.refl H1 g1).zA (o:=.lst []) hDa
  have e1:=zm (zdv (t:=t) env hjs) st1
  refine ⟨st,w1.laid hDa,zm ⟨e1.len,e1.sh,fun i d e=>?_,e1.inj⟩ st,zj,w1.notR hDa,w1.notA hDa,rfl,rfl,h1⟩
  obtain ⟨b,f1,f2,f3,f4,f5,f6⟩:=e1.ow i d e
  obtain ⟨o,ho,_⟩:=f5.isMut
  exact ⟨b,f1,by rw [zc (zf ho hDa)];exact f2,f3,f4,f5,f6⟩
 ·rintro i m ys τ H2 ⟨rfl,hi,g2,S2,acc,st2,w2,env2,hD2,hR2,hA2,hh2,hf2,hr2⟩
  by_cases hlt:i < l.length
  ·refine .inr ⟨hJ.go i H2 g2 st2.le w2.rh hlt,fun z H3 hy=>?_⟩
   obtain ⟨g3,st3,_,w3,hz⟩:=hJ.yld i H2 g2 S2 z H3 l[i] st2.le w2 (θ hlt) hy
   rw [du hlt] at hr2
   obtain ⟨hD3,hR3,hA3⟩:=st3.kept hD2 hR2 hA2
   obtain ⟨ρ',es,hr3⟩:=zH (show opt (bindT (inn ρ t js) t (l[i],false)) _ from hr2)
   refine kj es (zm env2 st3) w3.rh (fr:=false) hz (fun h=>by cases h) fun τ3 env3=>⟨ρ',S2,_,g3,_,hr3,w3,env3,fun b H4 g4 S4 st4 w4 h4=>?_⟩
   obtain ⟨hD4,hR4,hA4⟩:=st4.kept hD3 hR3 hA3
   cases b with
   | false=>
    rw [if_neg Μ]
    exact ⟨l.length - (i+1),by omega,rfl,hlt,g4,S4,acc,(st2.trans st3).trans st4,w4,Vc hn hix es (zm env3 st4),hD4,hR4,hA4,hh2.mono (st3.le.trans st4.le),hf2,h4⟩
   | true=>
    rw [if_pos rfl]
    refine ⟨ρ',S4,_,g4,_,h4,w4,zm env3 st4,fun x v H5 g5 S5 st5 w5 vx h5=>?_⟩
    obtain ⟨g6,st6,w6,hx,q⟩:=vx.keep st5 w5 h5
    obtain ⟨hf,q⟩:=xM q
    obtain ⟨hD5,hR5,hA5⟩:=st6.kept hD4 hR4 hA4
    have st7:=(((st2.trans st3).trans st4).trans st6).zA (o:=.lst (ys++[v])) hDa
    have env6:=Vc hn hix es (zm (zm env3 st4) st6)
    refine ⟨hD5,by rw [hh2.len];exact zby hf2,l.length - (i+1),by omega,rfl,hlt,g6,S5,acc++[x.1],st7,w6.zA hR5 hA5,?_,zj,hR5,hA5,(hh2.mono ((st3.le.trans st4.le).trans st6.le)).app (Hass.mk1 hx),by rw [Ο];exact hf,q⟩
    refine ⟨env6.len,env6.sh,fun i d e=>?_,env6.inj⟩
    obtain ⟨b,f1,f2,f3,f4,f5,f6⟩:=env6.ow i d e
    have hb:b≠Da:=by
     rintro rfl
     rw [zj] at f2;cases f2
    exact ⟨b,f1,f2,f3,f4,f5.mono (Le.refl g6) fun o z=>by rw [zc hb];exact z,f6⟩
  ·have e:i=l.length:=by omega
   subst e
   refine .inl ⟨hJ.stop _ H2 g2 st2.le w2.rh (ξ _),?_⟩
   rw [List.drop_length] at hr2
   exact k acc Da H2 g2 S2 (st1.trans st2) w2 ⟨Da,rfl,st1.WP hDa,hR2,hA2,ys,hD2,hh2⟩ hr2
end
end EV
namespace L2
open PySem PyProof PyProof.Rows PySem.W
variable {X:Cx}{x st:Expr}{te ts:TE}{p2 pos:Pos}
end L2
namespace EV
open PySem PySem.Spec PyProof.Rows L2
def spN (Γ:Gm) (cf:Cf) (f n:Nat):Sp:=fun vs H Q _=>vs.length=n/\∃ g ds S V,WOk Γ H g S/\Hass Γ g ds vs/\cf f ds V S/\∀ x v H' g' S',Step H g H' g'->WOk Γ H' g' S'->VN Γ H x v H' g'->V x S'->Q v H'
def CfN (B:Tb) (cf:Cf):Prop:=∀ f ds V S ps,B.pars[f]?=some ps->cf f ds V S->ds.length=ps.length
theorem ZP:∀ (kvs acc:List (Key×V)),(acc++kvs).map (·.1) |>.Nodup->vg acc kvs=acc++kvs
 | [],acc,_=>by simp [vg]
 | p::r,acc,h=>by
  have hn:¬ (acc.any fun kv=>decide (kv.1=p.1))=true:=by
   intro q
   rw [bI] at q
   obtain ⟨kv,hm,he⟩:=q
   have he:=of_decide_eq_true he
   rw [aH,d7] at h
   exact h.2.2 kv.1 (fJ hm) p.1 (by simp) he
  have e:putK acc p.1 p.2=acc++[p]:=by
   unfold putK
   rw [if_neg hn]
  show vg (putK acc p.1 p.2) r=_
  rw [e,ZP r (acc++[p]) (by simpa using h)]
  simp
section
variable {X:Cx}{Γ:Gm}{B:Tb}{cf:Cf}{k:Nat}{c:Cc}{x y z:Expr}{pos p:Pos}{a:E}{es:List E}
theorem yX {xs:List Expr}{env:Env}{pos:Pos}(h:∀ x∈xs,notStar x=true):(dB pos (Ϝ xs env)).any (·.1)=false:=by
 induction xs with
 | nil=>rfl
 | cons a l ih=>
  rw [zb (h a υ)]
  show (false||(dB pos (Ϝ l env)).any (·.1))=false
  rw [ih fun z hz=>h z (ι _ hz)]
  rfl
set_option tactic.hygienic true in
theorem zdM (b:BI):cQ (biS b)=some (biV b):=by
 cases b with
 | isinst q=>cases q <;> decide +kernel
 | _=>decide +kernel
theorem s_call {f:Nat}{n:Str}{xs:List Expr}(hcf:CfN B cf) (ok:XOk Γ B (spN Γ cf) k X c) (hf:B.fns[f]?=some n) (hg:Gl X n) (hdb:(n==("__debug__":Str))=false) (hs:∀ z∈x::xs,notStar z=true) (h:PA X (x::xs) (TXs Γ cf es)):PE X (.Call (.Name n p) (x::xs) [] pos) (TX Γ cf (.call f es)):=by
 obtain ⟨a,fd,ps,h1,h2,h3,h4,h5,h6,_⟩:=(ok.fns f n hf).ex
 refine (zcM h6 ok.room hg h2 h3 h4 .nil pass0 h hdb (zb (hs x υ) _ _) (yX fun z hz=>hs z (ι _ hz))).imp fun σ H Q h0=>goX h0 fun ρ S V g Hz hw w env kk=>⟨ρ,S,_,g,Hz,hw,w,env,fun ds vs H1 g1 S1 st w1 hv hc=>?_⟩
 show spN Γ cf f ps.length (vs++[]) _ _ _
 rw [Ρ]
 exact ⟨by rw [hv.len];exact hcf f ds V S1 ps h5 hc,g1,ds,S1,V,w1,hv,hc,fun x v H2 g2 S2 st2 w2 vx q=>kk x v H2 g2 S2 (st.trans st2) w2 (vx.back st) q⟩
theorem zew:PK X [] (TXs Γ cf []):=fun pos pJ s σ H Q I h0=>goS h0 fun ρ S W g Hz hw w env kk=>zeN pos pJ s σ H Q I (kk [] [] H g S (Step.refl H g) w rfl hw)
theorem zch {n:Str}{kp:Pos}{kws:List bM}(h1:PE X x (TX Γ cf a)) (h2:PK X kws (TXs Γ cf es)):PK X (⟨some n,x,kp⟩::kws) (TXs Γ cf (a::es)):=fun pos pJ s σ H Q I h=>zcG h1 h2 pos pJ s σ H Q I (args_cons h)
theorem J1 {g:G}{ds ds':List D}{vs:List V}{perm:List Nat}(h:perm.mapM (fun i=>ds[i]?)=some ds') (hv:Hass Γ g ds vs):Hass Γ g ds' (perm.map fun i=>vs.getD i .non):=by
 induction perm generalizing ds' with
 | nil=>
  simp at h
  subst h
  rfl
 | cons i r ih=>
  rw [List.mapM_cons] at h
  cases e:ds[i]? with
  | none=>rw [e] at h;cases h
  | some d=>
   rw [e] at h
   simp only [Option.bind_eq_bind,lO] at h
   cases e2:r.mapM (fun i=>ds[i]?) with
   | none=>rw [e2] at h;cases h
   | some l=>
    rw [e2] at h
    cases h
    obtain ⟨v,hv',hd⟩:=hv.get e
    refine ⟨v,_,?_,hd,ih e2⟩
    simp [ϸ,hv']
theorem zdf {kws:List bM}{ks:List Str}{env:Env}{pos:Pos}(h:yg kws=some ks):(cY pos (bf kws env)).all (·.1.isSome)=true/\(cY pos (bf kws env)).filterMap (·.1)=ks/\(cY pos (bf kws env)).any (·.1.isNone)=false:=by
 induction kws generalizing ks with
 | nil=>cases h;exact ⟨rfl,rfl,rfl⟩
 | cons q r ih=>
  obtain ⟨n,v,kp⟩:=q
  cases n with
  | none=>cases h
  | some n=>
   simp only [yg,Α] at h
   obtain ⟨l,h1,h2⟩:=h
   subst h2
   obtain ⟨i1,i2,i3⟩:=ih h1
   refine ⟨?_,?_,?_⟩
   ·show (true&&(cY pos (bf r env)).all (·.1.isSome))=true
    rw [i1];rfl
   ·show n::(cY pos (bf r env)).filterMap (·.1)=n::l
    rw [i2]
   ·show (false||(cY pos (bf r env)).any (·.1.isNone))=false
    rw [i3];rfl
theorem zcl {f:Nat}{n:Str}{kws:List bM}{ks ps:List Str}{perm:List Nat}(hm:Mono cf) (ok:XOk Γ B (spN Γ cf) k X c) (hf:B.fns[f]?=some n) (hg:Gl X n) (hdb:(n==("__debug__":Str))=false) (h:PK X kws (TXs Γ cf es))
  (hk:yg kws=some ks) (hp:B.pars[f]?=some ps) (h1:perm.length=ps.length) (h2:∀ i∈perm,i < ks.length) (h3:perm.map (fun i=>ks.getD i "")=ps) (h4:ks.length=ps.length) (h5:(f,ks,perm)∈B.kws) (h6:es.length=ks.length):PE X (.Call (.Name n p) [] kws pos) (TX Γ cf (.callk f perm es)):=by
 obtain ⟨a,fd,ps',g1,g2,g3,g4,g5,g6,g7⟩:=(ok.fns f n hf).ex
 have e5:ps'=ps:=ϔ (g5.symm.trans hp)
 subst e5
 obtain ⟨k1,k2,k3⟩:=zdf (env:=X.env) (pos:=pos) hk
 refine (Jy g6 ok.room hg g2 g3 (g7 ks perm h1 h2 h3 h4 h5) pass0 h k1 k2 hdb (by rw [k3];rfl)).imp fun σ H Q h0=>goX h0 fun ρ S V g Hz hw w env kk=>⟨ρ,S,_,g,Hz,X4 hm es hw,w,env,fun ds vs H1 g1 S1 st w1 hv ⟨hc,hl⟩=>?_⟩
 obtain ⟨ds',em,hc⟩:=zH hc
 have hz:vs.length=ks.length:=by rw [hv.len,hl,h6]
 show spN Γ cf f ps'.length (if vs.length=ks.length then []++perm.map fun i=>vs.getD i .non else []) _ _ _
 rw [if_pos hz,bR]
 exact ⟨by simp [h1],g1,ds',S1,V,w1,J1 em hv,hc,fun x v H2 g2 S2 st2 w2 vx q=>kk x v H2 g2 S2 (st.trans st2) w2 (vx.back st) q⟩
theorem bi_pe {b:BI}{xs:List Expr}{t:TA}{e:E}(ok:XOk Γ B (spN Γ cf) k X c) (hg:Gl X (biS b)) (hm:X.mg (biS b)=none) (hs:∀ z∈x::xs,notStar z=true) (h:PA X (x::xs) t) (i:∀ σ H Q,TX Γ cf e σ H Q->t σ H fun vs H1=>clAny X (biV b) vs H1 Q):PE X (.Call (.Name (biS b) p) (x::xs) [] pos) (TX Γ cf e):=by
 have hn:biS b≠("__name__":Str):=by
  cases b with
  | isinst q=>cases q <;> decide
  | _=>decide
 have hdb:(biS b==("__debug__":Str))=false:=by
  cases b with
  | isinst q=>cases q <;> decide
  | _=>decide
 have he:=zb (hs x υ) xs X.env
 have hpl:=yX (pos:=pos) (env:=X.env) fun z hz=>hs z (ι _ hz)
 have bb:=zdM b
 cases hb:biV b with
 | builtin id=>rw [hb] at bb i;exact (qe Yj hg hm bb h hn hdb he hpl).imp i
 | type T=>rw [hb] at bb i;exact (ZD Yj hg hm bb h hn hdb he hpl).imp i
 | _=>cases b <;> cases hb
theorem s_is {t:Ty}{pz:Pos}(ok:XOk Γ B (spN Γ cf) k X c) (hg:Gl X "isinstance") (hm:X.mg "isinstance"=none) (hgt:Gl X (tyN t)) (hmt:X.mg (tyN t)=none) (hs:notStar x=true) (h:PE X x (TX Γ cf a)):PE X (.Call (.Name "isinstance" p) [x,.Name (tyN t) pz] [] pos) (TX Γ cf (.bi (.isinst t) [a])):=by
 have hvt:cQ (tyN t)=some (.type (tyS t)):=by cases t <;> decide +kernel
 have hn:tyN t≠("__name__":Str):=by cases t <;> decide
 have hdb:(tyN t==("__debug__":Str))=false:=by cases t <;> decide
 refine (qe (id:="isinstance") Yj hg hm (by decide +kernel) (yf h (yf (zcN (v:=.ty (tyS t)) hgt hmt hvt rfl hn hdb) xW rfl) (zb hs _ _)) (by decide) (by decide) (zb hs _ _) rfl).imp fun σ H Q h0=>goX h0 fun ρ S V g Hz hw w env kk=>⟨ρ,S,_,g,Hz,hw,w,env,fun x v H1 g1 S1 st w1 vx h1=>?_⟩
 obtain ⟨⟨d,fr⟩,eb,q⟩:=zH h1
 have eb:(isTy t (deref S1 x.1)).map (fun b=>(D.bl b,false))=some (d,fr):=eb
 cases e2:isTy t (deref S1 x.1) with
 | none=>rw [e2] at eb;cases eb
 | some b=>
  rw [e2] at eb
  cases eb
  obtain ⟨r,r1,r2⟩:=zfG (X:=X) (Γ:=Γ) ok.hK e2
  exact ⟨r,r1,r2 S1 H1 g1 v Q w1 (vx.rdb w1) (kk (.bl b,.st) _ H1 g1 S1 st w1 rfl q)⟩
def PPd (X:Cx) (pos:Pos) (keys:List (Option Expr)) (vals:List Expr) (ks:List Key) (t:TA):Prop:=∃ trs,PPs X pos keys vals trs/\∀ σ H (Q:List (V×V)->Hp->Prop),t σ H (fun vs H'=>Q ((ks.zip vs).map fun kv=>(kV kv.1,kv.2)) H')->Wc trs σ H Q
theorem zes:PPd X pos [] [] [] (TXs Γ cf []):=⟨[],zcD,fun σ H Q h0=>goS h0 fun ρ S W g Hz hw w env kk=>kk [] [] H g S (Step.refl H g) w rfl hw⟩
theorem zcg {q:Const}{n:Nat}{p:Pos}{kx:Key}{keys:List (Option Expr)}{vals:List Expr}{ks:List Key}(hk:PE X (.Constant q n p) (tC (kV kx))) (h1:PE X x (TX Γ cf a)) (h2:PPd X pos keys vals ks (TXs Γ cf es)):PPd X pos (some (.Constant q n p)::keys) (x::vals) (kx::ks) (TXs Γ cf (a::es)):=by
 obtain ⟨trs,hp,ht⟩:=h2
 refine ⟨_,Q9 hk h1 hp,fun σ H Q h=>?_⟩
 obtain ⟨ρ,S,V,g,Hz,hw,w,env,kk⟩:=args_cons h
 exact ⟨ρ,S,V,g,Hz,hw,w,env,fun x v H1 g1 S1 st w1 vx q=>ht σ H1 _ (kk x v H1 g1 S1 st w1 vx q)⟩
theorem zeA {keys:List (Option Expr)}{vals:List Expr}{ks:List Key}(h:PPd X pos keys vals ks (TXs Γ cf es)) (hall:keys.all (·.isSome)=true) (hl:keys.length=vals.length) (h0:keys≠[]) (h15:keys.length<=15):PE X (.Dict keys vals pos) (TX Γ cf (.dic false ks es)):=by
 obtain ⟨trs,hp,ht⟩:=h
 refine (zcK hp hall hl h0 h15).imp fun σ H Q h0=>goX h0 fun ρ S V g Hz hw w env kk p hp=>ht σ _ _ ?_
 have st0:=(Step.refl H g).zA (o:=.dK []) hp
 refine ⟨ρ,S,_,g,Hz,hw,w.laid hp,zm env st0,fun ds vs H2 g2 S2 st2 w2 h2 q=>?_⟩
 obtain ⟨hd,q⟩:=xM q
 unfold dicOk at hd
 simp only [ε,decide_eq_true_eq] at hd
 obtain ⟨⟨⟨hk,hn⟩,hz⟩,_⟩:=hd
 obtain ⟨k1,k2,k3⟩:=st2.kept zj (w.notR hp) (w.notA hp)
 have el:ks.length=vs.length:=by rw [h2.len];exact hk
 refine ⟨k1,ks.zip vs,rfl,by rw [dJ];lia,?_⟩
 rw [ZP _ [] (by
  rw [bR,List.map_fst_zip (by lia)]
  exact hn)]
 exact kk (.dK ks ds,.fr) (.ref p) _ g2 S2 ((st0.trans st2).zA hp) (w2.zA k2 k3) ⟨p,rfl,hp,k2,k3,vs,zj,hk,h2⟩ q
theorem zcj:PE X (.Dict [] [] pos) (TX Γ cf (.dic false [] [])):=zag.imp fun σ H Q h0=>goX h0 fun ρ S V g Hz hw w env kk p hp=>
 kk (.dK [] [],.fr) (.ref p) _ g S ((Step.refl H g).zA hp) (w.laid hp) ⟨p,rfl,hp,w.notR hp,w.notA hp,[],zj,rfl,rfl⟩ hw
theorem zci {ks:List Key}:PE X (.Dict [] [] pos) (TX Γ cf (.dic true [] [])):=zaf.imp fun σ H Q h0=>goX h0 fun ρ S V g Hz hw w env kk p hp=>
 kk (.dT [] [],.fr) (.ref p) _ g S ((Step.refl H g).zA hp) (w.laid hp) ⟨p,rfl,hp,w.notR hp,w.notA hp,[],zj,rfl,rfl⟩ hw
theorem zcp {Γ:Gm}{g:G}:∀ {ds:List D}{vs:List V},Hass Γ g ds vs->Hass Γ g ds.reverse vs.reverse:=by
 intro ds
 induction ds with
 | nil=>
  intro vs h
  have e:vs=[]:=h
  subst e
  exact h
 | cons d ds ih=>
  intro vs h
  obtain ⟨v,r,rfl,h1,h2⟩:=h
  rw [dY,dY]
  exact Hass.app (ih h2) (Hass.mk1 h1)
end
open PySem.AutoSeq1 (wpAny_loadPart')
open PySem.MeetsSeq PySem.MeetsSeq2 PySem.MeetsSeq3 PySem.SeqAt PySem.SeqRoads2
theorem Kg {l:Addr}{us:Array δ}{n:Nat}{q:Option Addr}{sl:Array (Option δ)}{x:δ}{e:Nat->Bool}{up:Int}{j:Nat}(hj:j < us.size) (hup:(j:Int) < up) (hit:e j=true):
  ∀ (k i:Nat),j - i=k->i<=j->(∀ m,i<=m->m < j->e m=false)->Meets (Β.«list.index.loop» ⟨[.ref l,x,aF i,aF up],[]⟩)
   (fun A R s=>s.heap.get? l=some { cls:=.type "list",dict:=q,data:=.seq us n,slots:=sl }/\(∀ m (hm:m < us.size),EqAt A.in1 s us[m] x (e m))/\R (.ok (.ret (.int j s.toks))) { s with toks:=s.toks+1 })
 | 0,i,hk,hij,hno=>by
  intro P w A R s z
  obtain ⟨hp,g,d,tk,os⟩:=s
  obtain ⟨z1,z2,z3⟩:=z
  obtain rfl:i=j:=by lia
  wp_walk using dX z1
  have hi:(if (i:Int) < up then us[((i:Nat):Int).toNat]? else none)=some us[i]:=by simp [hup,hj]
  rw [hi]
  refine γ (z2 i hj P w _ _ ?_)
  rw [hit]
  wp_walk
  exact z3
 | k+1,i,hk,hij,hno=>by
  intro P w A R s z
  obtain ⟨hp,g,d,tk,os⟩:=s
  obtain ⟨z1,z2,z3⟩:=z
  have il:i < us.size:=by lia
  have iu:(i:Int) < up:=by lia
  wp_walk using dX z1
  have hi:(if (i:Int) < up then us[((i:Nat):Int).toNat]? else none)=some us[i]:=by simp [iu,il]
  have ic:((i:Int)+1)=((i+1:Nat):Int):=by push_cast;rfl
  rw [hi]
  refine γ (z2 i il P w _ _ ?_)
  rw [hno i (ξ _) (by lia)]
  wp_walk
  rw [ic]
  exact ⟨cu iB _,aP entry_index_loop (by
   rw [Ϩ iB _]
   exact Kg hj hup hit k (i+1) (by lia) (by lia) (fun m a b=>hno m (by lia) b) P w A R _ ⟨z1,z2,z3⟩)⟩
theorem zaJ {l:Addr}{us:Array δ}{n:Nat}{q:Option Addr}{sl:Array (Option δ)}{x:δ}{e:Nat->Bool}{j:Nat}(hj:j < us.size) (hz:(j:Int) < 2 ^ 63 - 1) (hit:e j=true) (hno:∀ m,m < j->e m=false):
  Meets (Β.«list.index» ⟨[.ref l,x],[]⟩)
   (fun A R s=>s.heap.get? l=some { cls:=.type "list",dict:=q,data:=.seq us n,slots:=sl }/\(∀ m (hm:m < us.size),EqAt A.in1 s us[m] x (e m))/\R (.ok (.ret (.int j s.toks))) { s with toks:=s.toks+1 }):=by
 intro P w A R s z
 obtain ⟨hp,g,d,tk,os⟩:=s
 obtain ⟨z1,z2,z3⟩:=z
 wp_walk using dX z1
 have b1:((fun i:Int=>if i < 0 then max 0 (i+(us.size:Int)) else i) ((none:Option Int).getD 0))=((0:Nat):Int):=by simp
 have b2:((fun i:Int=>if i < 0 then max 0 (i+(us.size:Int)) else i) ((none:Option Int).getD (2 ^ 63 - 1)))=2 ^ 63 - 1:=by simp
 rw [b1,b2]
 exact ⟨cu iB _,aP entry_index_loop (by
  rw [Ϩ iB _]
  exact Kg hj hz hit _ 0 rfl (Ϣ _) (fun m _ b=>hno m b) P w A R _ ⟨z1,z2,z3⟩)⟩
section
variable {X:Cx}{Γ:Gm}{S:Store}{x y:Expr}{pos:Pos}
theorem W6:∀ {l:List D}{d:D}{j:Nat},idxD l d=some j->j < l.length/\eqP (l.getD j .non) d=true/\∀ m,m < j->eqP (l.getD m .non) d=false
 | [],_,_,h=>by cases h
 | a::l,d,j,h=>by
  have h:(if eqP a d=true then some 0 else (idxD l d).map (·+1))=some j:=h
  by_cases ha:eqP a d=true
  ·rw [if_pos ha] at h
   cases h
   exact ⟨by simp,ha,fun m hm=>by lia⟩
  ·rw [if_neg ha] at h
   cases e:idxD l d with
   | none=>rw [e] at h;cases h
   | some i=>
    rw [e] at h
    cases h
    obtain ⟨h1,h2,h3⟩:=W6 e
    refine ⟨by simpa using h1,by simpa using h2,fun m hm=>?_⟩
    have hm:m < i+1:=hm
    cases m with
    | zero=>simpa using ha
    | succ m=>simpa using h3 m (by lia)
theorem JH {n:Nat}:∀ {l:List D}{i:Nat}{d:D},okPs n l=true->l[i]?=some d->okP n d=true
 | [],_,_,_,h=>by simp at h
 | a::l,i,d,hk,h=>by
  have hk:(okP n a&&okPs n l)=true:=hk
  rw [ε] at hk
  cases i with
  | zero=>simp at h;subst h;exact hk.1
  | succ i=>exact JH hk.2 (by simpa using h)
def rIxOf (Γ:Gm) (ds:List D) (d:D) (j:Nat):V->List V->Hp->VK->Prop:=fun x xs H Q=>∃ g v,Same g.R H/\Rdb Γ H g (.lst ds) x/\xs=[v]/\Has Γ g d v/\Q (.int j) H
theorem zax (hK:X.K=Γ.K) (hu:X.A.units+61 < ϲ) {ds:List D}{d:D}{j:Nat}(k1:okPs 59 ds=true) (k2:okP 59 d=true) (h:idxD ds d=some j):MtR X "list.index" (rIxOf Γ ds d j):=by
 rintro pJ s σ H x xs v us Q I rx rv ⟨g,y,sm,⟨a,vs,rfl,hH,hh⟩,rfl,hy,q⟩
 cases rx
 obtain ⟨u,rfl,ru⟩:=rv.one
 obtain ⟨z,its,n,r,hl,e⟩:=I.lstM hH
 obtain ⟨i1,i2,i3⟩:=W6 h
 have hs:its.length=ds.length:=by rw [<- hl,hh.len]
 have hsz:j < its.toArray.size:=by rw [ο,hs];exact i1
 have hz:its.length<=sizeLine:=by rw [<- hl];exact z
 rw [Ϧ] at hz
 refine mC F.slot_list_index ⟨_,e,rfl⟩ F.entry_list_index (F.args_list_index_2 _ _)
  (zaJ (us:=its.toArray) (e:=fun m=>eqP (ds.getD m .non) d) hsz (by rw [ο] at hsz;omega) i2 i3) ⟨e,fun m hm=>?_,?_⟩
 ·rw [ο] at hm
  have hm':m < ds.length:=by omega
  have hd:ds[m]?=some (ds.getD m .non):=by rw [ϸ,θ hm'];rfl
  obtain ⟨w,hw,hw2⟩:=hh.get hd
  obtain ⟨u',hu',ru'⟩:=r.get hw
  have e1:its.toArray[m]'(by rw [ο];exact hm)=u':=by
   rw [List.getElem_toArray]
   exact ϔ (by rw [<- θ,hu'])
  rw [e1]
  exact vX I hK sm 59 _ _ w y u' u _ (by rw [units_in1];have:=hu;omega) (JH k1 hd) k2 hw2 hy ru' ru
 ·exact ⟨.int j,H,I.tok _,⟨_,rfl⟩,q⟩
def rGet1:V->List V->Hp->VK->Prop:=fun x xs H Q=>∃ a y v,x=.ref a/\xs=[y]/\DGet H a y v/\Q (v.getD .non) H
def rGet2:V->List V->Hp->VK->Prop:=fun x xs H Q=>∃ a y z v,x=.ref a/\xs=[y,z]/\DGet H a y v/\Q (v.getD z) H
def rKGet (K:W.Frag):V->List V->Hp->VK->Prop:=fun x xs H Q=>∃ a k z ps,x=.ref a/\xs=[.str k,z]/\KDic K a ps/\(∀ i,KTD.datumAt k ps=some i->Q (.int i) H)/\(KTD.datumAt k ps=none->Q z H)
def rJoin (K:W.Frag):V->List V->Hp->VK->Prop:=fun x xs H Q=>∃ z a ys,x=.str z/\xs=[.ref a]/\(SqL K H a (ys.map V.str)\/SqT K H a (ys.map V.str))/\(ys.map (·.length)).sum+ys.length*z.length<=16777216/\Q (.str (PySem.Txt.join z ys)) H
theorem zaN {g:G}:∀ (l:List Str),Hass Γ g (l.map D.str) (l.map V.str)
 | []=>rfl
 | x::l=>⟨.str x,_,rfl,rfl,zaN l⟩
def zf7:V->List V->Hp->VK->Prop:=fun x xs H Q=>∃ z y,x=.str z/\xs=[.str y]/\(y.length==0)=false/\z.length<=sizeLine/\(gw z y).length<=sizeLine/\∀ p,H p=none->Q (.ref p) (upd H p (.lst ((gw z y).map V.str)))
theorem zf3 {c k:D}{o:Option D}(h:dgetD c k=some o) (S:Store):deref S k=k:=by
 cases k <;> first | rfl | (cases c <;> cases h)
def RDm (Γ:Gm) (r:V->List V->Hp->VK->Prop) (d0:D) (ds:List D) (d:D) (fr:Bool):Prop:=
 ∀ S H g x xs Q,WOk Γ H g S->Rdb Γ H g d0 x->Hass Γ g ds xs->Fin Γ H g S d fr Q->r x xs H Q
noncomputable def mtT:MT->String
 | .index=>"list"
 | .get1=>"dict"
 | .get2=>"dict"
 | _=>"str"
noncomputable def mtI:MT->String
 | .index=>"list.index"
 | .get1=>"dict.get"
 | .get2=>"dict.get"
 | .join=>"str.join"
 | .split=>"str.split"
theorem J8 {d1:D}(hK:X.K=Γ.K) (h:mthK .get1 d1=true\/mthK .get2 d1=true) {H:Hp}{g:G}{v:V}(hr:Rdb Γ H g d1 v):tyV X.K "dict" v H:=by
 cases d1 with
 | dK ks ds=>
  obtain ⟨a,vs,rfl,h1,_⟩:=hr
  exact .inr (.inr (.inl ⟨rfl,.inl ⟨_,h1⟩⟩))
 | dT ks ds=>
  obtain ⟨a,vs,rfl,h1,_⟩:=hr
  exact .inr (.inr (.inl ⟨rfl,.inr ⟨_,h1⟩⟩))
 | kdc ps=>
  obtain ⟨a,rfl,⟨o,h1⟩,_⟩:=hr
  exact .inr (.inl ⟨o,by rw [hK];exact h1⟩)
 | _=>rcases h with h | h <;> cases h
theorem zfd {m:MT}{d0:D}{ds:List D}{d:D}{fr:Bool}(hK:X.K=Γ.K) (hu:X.A.units+61 < ϲ) (h:mthD m d0 ds=some (d,fr)):∃ r,MtR X (mtI m) r/\RDm Γ r d0 ds d fr:=by
 have hu1:X.A.units+1 < ϲ:=by lia
 cases m with
 | index=>
  cases d0 with
  | lst l=>
   match ds,h with
   | [],h=>cases h
   | _::_::_,h=>cases h
   | [x],h=>
    have h:(if (okPs 59 l&&okP 59 x)=true then (idxD l x).map fun (i:Nat)=>(D.int (i:Int),false) else none)=some (d,fr):=h
    by_cases hk:(okPs 59 l&&okP 59 x)=true
    ·rw [if_pos hk] at h
     rw [ε] at hk
     cases e:idxD l x with
     | none=>rw [e] at h;cases h
     | some j=>
      rw [e] at h
      cases h
      refine ⟨_,zax hK hu hk.1 hk.2 e,fun S H g y ys Q w h1 h2 q=>?_⟩
      ·obtain ⟨u,rfl,h3⟩:=h2.one
       exact ⟨g,u,w.rh,h1,rfl,h3,zg w q rfl⟩
    ·rw [if_neg hk] at h
     cases h
  | _=>cases h
 | get1=>cases d0 <;> (rcases ds with _ | ⟨_,_ | ⟨_,_ | ⟨_,_⟩⟩⟩ <;> cases h)
 | get2=>cases d0 <;> (rcases ds with _ | ⟨_,_ | ⟨_,_ | ⟨_,_⟩⟩⟩ <;> cases h)
 | join=>cases d0 <;> (rcases ds with _ | ⟨_,_ | ⟨_,_ | ⟨_,_⟩⟩⟩ <;> cases h)
 | split=>cases d0 <;> (rcases ds with _ | ⟨_,_ | ⟨_,_ | ⟨_,_⟩⟩⟩ <;> cases h)
theorem qP {env:Env}{name:Str}{s0:Sem δ}(h:Zx x=true):attributeBase x name env s0=s0:=by
 cases x with
 | Call f args kws p=>
  cases args with
  | nil=>cases h
  | cons a l=>cases f <;> rfl
 | _=>rfl
theorem zdu {xs:List Expr}{env:Env}{cpos:Pos}(hs:∀ z∈xs,notStar z=true) (hl:xs.length<=9):((dB cpos (Ϝ xs env)).all (fun x=>!x.1)&&(cY cpos (bf [] env)).all (fun x=>x.1.isSome)
  &&decide (xs.length+([]:List bM).length+(if ([]:List bM).isEmpty then 0 else 1) < 30))=true:=by
 have h1:(dB cpos (Ϝ xs env)).all (fun x=>!x.1)=true:=by
  have:=yX (pos:=cpos) (env:=env) hs
  rw [List.all_eq_not_any_not]
  simpa using this
 rw [h1,decide_eq_true (show xs.length+([]:List bM).length+(if ([]:List bM).isEmpty then 0 else 1) < 30 from (by simp;lia))]
 rfl
theorem zda (m:MT):PlainAttrs (mtT m)/\PySem.Slot (mtT m) (mtS m) (mtI m)/\typeOf (.builtin (mtI m))=pure (.type "method_descriptor"):=by
 cases m with
 | index=>exact ⟨gn,PySem.F.slot_list_index,PySem.F.type_list_index⟩
 | get1=>exact ⟨m5,nP,nM⟩
 | get2=>exact ⟨m5,nP,nM⟩
 | join=>exact ⟨nA,PySem.F.slot_str_join,PySem.F.type_str_join⟩
 | split=>exact ⟨nA,PySem.F.slot_str_split,PySem.F.type_str_split⟩
theorem mt_kd {m:MT}{d1:D}(hK:X.K=Γ.K) (h:mthK m d1=true) {H:Hp}{g:G}{v:V}(hr:Rdb Γ H g d1 v):tyV X.K (mtT m) v H:=by
 cases m with
 | index=>
  cases d1 <;> first | cases h | skip
  obtain ⟨a,vs,rfl,h1,_⟩:=hr
  exact .inl ⟨rfl,vs,SqL.of h1⟩
 | get1=>exact J8 hK (.inl h) hr
 | get2=>exact J8 hK (.inr h) hr
 | join=>
  cases d1 with
  | str x=>cases (show v=.str x from hr);exact rfl
  | _=>cases h
 | split=>
  cases d1 with
  | str x=>cases (show v=.str x from hr);exact rfl
  | _=>cases h
def mtAny (X:Cx) (id:String):V->List V->Hp->VK->Prop:=fun x xs H Q=>∃ r,MtR X id r/\r x xs H Q
theorem zff {id:String}:MtR X id (mtAny X id):=fun pJ s σ H x xs v us Q I rx rv ⟨_,h,q⟩=>h pJ s σ H x xs v us Q I rx rv q
theorem s_mth {B:Tb}{cf:Cf}{k:Nat}{c:Cc}{a:E}{es:List E}{m:MT}{ys:List Expr}{apos cpos:Pos}(ok:XOk Γ B (spN Γ cf) k X c) (ha:PE X x (TX Γ cf a)) (hs:∀ z∈y::ys,notStar z=true) (hb:PA X (y::ys) (TXs Γ cf es)) (hl:(apos.endLine==cpos.line)=true) (hp:Zx x=true) (h9:(y::ys).length<=9):
  PE X (.Call (.Attribute x (mtS m) apos) (y::ys) [] cpos) (TX Γ cf (.mth m a es)):=by
 obtain ⟨m1,m2,m3⟩:=zda m
 refine (pe_bm m1 m2 m3 zff ha hb (qP hp) (zdu hs h9) hl (zb (hs y υ) ys X.env) (yX fun z hz=>hs z (ι _ hz))).imp fun σ H Q h0=>goX h0 fun ρ S V g Hz hw w env kk=>⟨ρ,S,_,g,Hz,hw,w,env,fun x v H1 g1 S1 st w1 vx h1=>?_⟩
 obtain ⟨hk,h1⟩:=xM h1
 refine ⟨mt_kd ok.hK hk (vx.rdb w1),ρ,S1,_,g1,Hz,h1,w1,zm env st,fun ds vs H2 g2 S2 st2 w2 hv h2=>?_⟩
 obtain ⟨⟨d,fr⟩,eb,q⟩:=zH h2
 obtain ⟨r,r1,r2⟩:=zfd (X:=X) ok.hK ok.u61 eb
 exact ⟨r,r1,r2 S2 H2 g2 v vs Q w2 ((vx.step st2).rdb w2) hv fun u H3 g3 st3 _ w3 vo=>kk _ u H3 g3 S2 ((st.trans st2).trans st3) w3 ((VN.of vo).back (st.trans st2)) q⟩
end
theorem Zh {x z:Expr}{y:Str}(h:wR x=some (y,z)):∃ p pos,x=.Call (.Name y p) [z] [] pos:=by
 unfold wR at h
 split at h
 ·cases h;exact ⟨_,_,rfl⟩
 ·cases h
section
variable {X:Cx}{Γ:Gm}{cf:Cf}{B:Tb}{k:Nat}{c:Cc}{x y z:Expr}{pos p:Pos}{a b:E}
theorem zfR {H:Hp}{g:G}{S:Store}{d:D}{fr:Bool}{Q:VK}{a:Addr}{o:HO}(w:WOk Γ H g S) (q:Fin Γ H g S d fr Q) (ha:H a=none):Fin Γ (upd H a o) g S d fr Q:=fun v H' g' st sm w' vo=>
 q v H' g' ((Step.of_same (zT ha) (Le.refl g) (fun _ h=>.inl h) fun _ h=>.inl h).trans st) ((zT ha).trans sm) w' (by
  cases fr with
  | false=>exact vo
  | true=>
   obtain ⟨l,e,h1,h2⟩:=(show ∃ a',v=.ref a'/\upd H a o a'=none/\_ from vo)
   exact ⟨l,e,(zT ha).free h1,h2⟩)
theorem zay {d0:D}{ks:List Str}{H:Hp}{g:G}{S:Store}{v:V}(hK:X.K=Γ.K) (w:WOk Γ H g S) (h:(lotD d0).bind strsD=some ks) (hv:Rdb Γ H g d0 v):∃ p,v=.ref p/\(SqL X.K H p (ks.map V.str)\/SqT X.K H p (ks.map V.str)):=by
 obtain ⟨l,e1,e2⟩:=ύ.mp h
 rcases zbx e1 with rfl | rfl
 ·obtain ⟨p,ys,rfl,h1,h2⟩:=hv
  exact ⟨p,rfl,.inl (by rw [<- km e2 h2];exact SqL.of h1)⟩
 ·obtain ⟨p,ys,rfl,h1,h2⟩:=hv
  exact ⟨p,rfl,.inr (by rw [<- km e2 h2];exact SqT.of (w.rh _ _ h1))⟩
theorem zei {t:TE}(ok:XOk Γ B (spN Γ cf) k X c) (hg:Gl X "set") (hm:X.mg "set"=none) (hs:notStar z=true) (h:PE X z t):PE X (.Call (.Name "set" p) [z] [] pos) (fun σ H Q=>t σ H fun v H1=>clAny X (.type "set") [v] H1 Q):=
 (ZD Yj hg hm (by decide +kernel) (yf h xW (zb hs _ _)) (by decide) (by decide) (zb hs _ _) rfl).imp fun _ _ _ q=>q
set_option tactic.hygienic true in
theorem zel {p' pos':Pos}(ok:XOk Γ B (spN Γ cf) k X c) (hg:Gl X "set") (hm:X.mg "set"=none) (hg':Gl X "sorted") (hm':X.mg "sorted"=none) (hs:notStar z=true) (h:PE X z (TX Γ cf a)):
  PE X (.Call (.Name "sorted" p') [.Call (.Name "set" p) [z] [] pos] [] pos') (TX Γ cf (.bi .sset [a])):=by
 refine (qe (id:="sorted") Yj hg' hm' (by decide +kernel) (yf (zei ok hg hm hs h) xW (zb rfl _ _)) (by decide) (by decide) (zb rfl _ _) rfl).imp fun σ H Q h0=>goX h0 fun ρ S V g Hz hw w env kk=>⟨ρ,S,_,g,Hz,hw,w,env,fun x v H1 g1 S1 st w1 vx h1=>?_⟩
 obtain ⟨⟨d,fr⟩,eb,q⟩:=zH h1
 obtain ⟨ks,e1,e2⟩:=ύ.mp (show ((lotD (deref S1 x.1)).bind strsD).bind _=some (d,fr) from eb)
 split at e2
 ·rename_i hl
  cases e2
  obtain ⟨l1,l2⟩:=Ϲ.mp hl
  obtain ⟨p,rfl,sq⟩:=zay (X:=X) ok.hK w1 e1 (vx.rdb w1)
  refine ⟨_,Qg ok.calm,p,ks,rfl,sq,of_decide_eq_true l1,fun a ha=>⟨_,Yr ok.calm,a,onesS ks,rfl,zj,of_decide_eq_true l2,fun ms l pm up hl=>?_⟩⟩
  refine yJ (w1.laid ha) (zfR (d:=.lst ((sortS (onesS ks)).map D.str)) w1 (fun u H2 g2 st2 _ w2 vo=>kk _ u H2 g2 S1 (st.trans st2) w2 ((VN.of vo).back st) q) ha) ?_ hl
  rw [<- v7 pm up]
  exact qH _
 ·cases e2
end
section
variable {prog:Ν}{w:ϖ}{A:ϗ}{E:VSP}{s:μ}
theorem zbm:dG "dict_itemiterator"=true:=by decide
theorem JM {it d:Addr}{i ep:Nat}{es:Array cF}{od:Obj}{ok ov:δ}{Q:Option δ->μ->Prop}(hit:fK s.heap it d i es.size ep ok ov) (hod:s.heap.get? d=some od) (hdd:od.data=.dict es ep) (hlt:i < es.size)
  (hQ:∀ h',o7 h' it d (i+1) es.size ep es[i].key es[i].val s.heap.objs.size->h'.get? s.heap.objs.size=some { cls:=.type "tuple",data:=.seq #[es[i].key,es[i].val] }->(∀ b o,b≠it->s.heap.get? b=some o->h'.get? b=some o) ->
   Q (some (.ref s.heap.objs.size)) { s with heap:=h' }):ψ (Ζ prog w) A (eQ (.ref it)) Q E s:=by
 obtain ⟨hp,g,dr,tk,os⟩:=s
 have hT:bU ⟨hp,g,dr,tk,os⟩ (.ref it) "dict_itemiterator":=⟨_,hit,rfl⟩
 have hil:it < hp.objs.size:=χ hit
 unfold eQ
 refine γ (cg (ϙ (name:=cD "__next__") hT F.slot_dict_itemiterator_next (ϒ F.slot_dict_itemiterator_next hT F.entry_dict_itemiterator_next ?_ (F.args_dict_itemiterator_next_1 _))))
 refine γ (ζ (γ (γ ?_)))
 first | refine γ (cB hT (ζ (γ (cC hit rfl ?_)))) | refine γ (dN hT (ζ (γ (cC hit rfl ?_))))
 simp only [zbm,if_true]
 show ψ _ _ (if (ω d==Ε)=true then _ else _) _ _ _
 rw [if_neg (by exact Μ)]
 refine γ (ζ (γ (eO hod hdd ?_)))
 rw [if_neg (by simp)]
 refine γ (ζ (γ (fY hod hdd ?_)))
 rw [if_neg (by simp)]
 refine ζ ?_
 simp only [show ¬ ((i:Int) < 0) from by omega,if_false,cU,Ϡ hlt]
 refine γ ?_
 first | refine γ (cB hT (ζ (γ (eG hT ?_)))) | refine γ (dN hT (ζ (γ (eG hT ?_))))
 show ψ _ _ (setField (.ref it) 3 (aF ((i:Int)+1)) >>= _) _ _ ⟨hp,g,dr,tk,os⟩
 refine γ (ak hit (by simp) fun h1 e1 (s1:ϋ it hp h1)=>?_)
 have f1:fK h1 it d (i+1) es.size ep ok ov:=by
  have z:((i+1:Nat):Int)=(i:Int)+1:=by omega
  unfold fK
  rw [z]
  simpa [aF] using e1
 have hT1:bU ⟨h1,g,dr,tk,os⟩ (.ref it) "dict_itemiterator":=⟨_,f1,rfl⟩
 refine γ (Ϥ (γ (eG hT1 (γ (eG hT1 ?_)))))
 show ψ _ _ (gB (.ref it) 6 es[i].key es[i].val) _ _ ⟨h1,g,dr,tk,os⟩
 unfold gB
 refine γ (lE ?_)
 have f2:fK (h1.push { cls:=.type "tuple",data:=.seq #[es[i].key,es[i].val] }) it d (i+1) es.size ep ok ov:=η _ f1
 have z1:h1.objs.size=hp.objs.size:=s1.1
 have t2:(h1.push { cls:=.type "tuple",data:=.seq #[es[i].key,es[i].val] }).get? hp.objs.size=some { cls:=.type "tuple",data:=.seq #[es[i].key,es[i].val] }:=by
  rw [<- z1]
  exact ς _ rfl
 have k2:∀ b o,b≠it->hp.get? b=some o->(h1.push { cls:=.type "tuple",data:=.seq #[es[i].key,es[i].val] }).get? b=some o:=fun b o hb e=>η _ (s1.extBut b o hb e)
 generalize h1.push { cls:=.type "tuple",data:=.seq #[es[i].key,es[i].val] }=h2 at f2 t2 k2
 show ψ _ _ (gj (.ref it) >>= _) _ _ ⟨h2,g,dr,tk,os⟩
 rw [z1]
 refine γ ?_
 unfold gj
 refine γ (aG f2 rfl (x:=.none) rfl (ζ ?_))
 simp only [if_true]
 refine γ (aG f2 rfl (x:=ok) rfl (γ (aG f2 rfl (x:=ov) rfl (γ (ak f2 (by simp) fun h3 (f3:fK h3 it d (i+1) es.size ep es[i].key ov) (s3:ϋ it h2 h3)=>?_)))))
 refine γ (ak f3 (by simp) fun h4 (f4:fK h4 it d (i+1) es.size ep es[i].key es[i].val) (s4:ϋ it h3 h4)=>?_)
 refine γ (ak f4 (by simp) fun h5 (f5:o7 h5 it d (i+1) es.size ep es[i].key es[i].val hp.objs.size) (s5:ϋ it h4 h5)=>?_)
 refine γ (ak f5 (by simp) fun h6 (f6:o7 h6 it d (i+1) es.size ep es[i].key es[i].val hp.objs.size) (s6:ϋ it h5 h6)=>?_)
 have all:∀ b o,b≠it->h2.get? b=some o->h6.get? b=some o:=fun b o hb e=>s6.extBut b o hb (s5.extBut b o hb (s4.extBut b o hb (s3.extBut b o hb e)))
 exact γ (wpAny_letGo (ζ (ζ ⟨_,rfl,ζ (hQ h6 f6 (all _ _ (d8 hil) t2) fun b o hb e=>all b o hb (k2 b o hb e))⟩)))
theorem K4 {it d:Addr}{i ep:Nat}{es:Array cF}{od:Obj}{ok ov:δ}{Q:Option δ->μ->Prop}(hh:A.handled=none) (hit:fK s.heap it d i es.size ep ok ov) (hod:s.heap.get? d=some od) (hdd:od.data=.dict es ep) (hge:es.size<=i)
  (hQ:∀ h',mF it s.heap h'->Q none { s with heap:=h' }):ψ (Ζ prog w) A (eQ (.ref it)) Q E s:=by
 have hT:s.TypeIs (.ref it) "dict_itemiterator":=⟨_,hit,rfl⟩
 unfold eQ
 refine γ (cg (ϙ (name:=cD "__next__") hT F.slot_dict_itemiterator_next (ϒ F.slot_dict_itemiterator_next hT F.entry_dict_itemiterator_next ?_ (F.args_dict_itemiterator_next_1 _))))
 refine γ (ζ (γ (γ ?_)))
 first | refine γ (cB hT (ζ (γ (cC hit rfl ?_)))) | refine γ (dN hT (ζ (γ (cC hit rfl ?_))))
 simp only [zbm,if_true]
 show ψ _ _ (if (ω d==Ε)=true then _ else _) _ _ s
 rw [if_neg (by exact Μ)]
 refine γ (ζ (γ (eO hod hdd ?_)))
 rw [if_neg (by simp)]
 refine γ (ζ (γ (fY hod hdd ?_)))
 rw [if_neg (by simp)]
 refine ζ ?_
 simp only [show ¬ ((i:Int) < 0) from by omega,if_false,cU,gP hge]
 refine γ ?_
 first | refine γ (cB hT (ζ ?_)) | refine γ (dN hT (ζ ?_))
 show ψ _ _ (setField (.ref it) 2 .none >>= _) _ _ s
 refine γ (Ϯ hit rfl (by simp) ?_)
 show ψ _ _ (newExc (.type "StopIteration") [] >>= _) _ _ _
 refine γ ?_
 simp only [newExc,newTuple]
 refine γ (Χ (γ (m:=eU _ _) (bc (a:=Ε) (by first | rfl | (simp only [eU];rfl)) (Χ ?_ (by size_fits)))) (by size_fits))
 simp only [raiseNew]
 refine γ (lX ?_)
 rw [show A.in1.handled=none from hh]
 refine γ (ζ (nF ?_))
 have hx:=fun h' e=>hQ h' e
 refine γ (dH (T:="StopIteration") (b:=true) ⟨_,ς _ rfl,rfl⟩ lH (ζ (hx _ ?_)))
 exact ((aL ..).extBut.push _).push _
end
theorem zaQ:entryFor table "dict_itemiterator.__iter__"=some Β.«dict_keyiterator.__iter__»:=oR (id':="dict_keyiterator.__iter__") (by kernel_rfl) rfl (by decide +kernel) (by kernel_rfl)
noncomputable def Iti (a:Addr) (o:Obj) (es:Array cF) (kvs:List (List Key×V)):It:=
 ⟨fun i H=>H a=some (.frz o (.dT kvs))/\i < kvs.length,fun i H x H'=>∃ p kb k v,H p=none/\x=.ref p/\kvs[i]?=some (k,v)/\(es[i]?).map (·.key)=some (.ref kb)/\H kb=some (.tup (k.map kV))/\H'=upd H p (.tup [.ref kb,v]),fun i H=>H a=some (.frz o (.dT kvs))/\kvs.length<=i⟩
theorem jn {P:Ν}{w:ϖ}{K:W.Frag}{elts:List Expr}{kk:Nat}{pos:Pos}{a it:Addr}{o:Obj}{es:Array cF}{ep:Nat}{kvs:List (List Key×V)}(hdd:o.data=.dict es ep) (hsz:es.size=kvs.length):
  Turn P w K (.Tuple elts kk pos) (Iti a o es kvs) [it] it (fun i h=>∃ ok ov,fK h it a i es.size ep ok ov) where
 mem:=by simp
 obj:=fun i h st b hb=>by
  obtain ⟨ok,ov,he⟩:=st
  have e:b=it:=by simpa using hb
  subst e
  exact ⟨_,he,fun v z=>by
   have z':ϩ _=Data.cell v:=z
   cases z'⟩
 keep:=fun i h h' st k=>by
  obtain ⟨ok,ov,he⟩:=st
  exact ⟨ok,ov,k it (by simp) _ he⟩
 item:=by
  intro X hP hw hK hc i pJ s σ H E I hf st hg
  subst hP hw hK
  obtain ⟨ok,ov,he⟩:=st
  obtain ⟨hH,hi⟩:=hg
  have f1:=hf it (by simp)
  have hT:H s.heap.objs.size=none:=I.hok.fresh (ξ _)
  obtain ⟨ho,_,_,xs,rel,o',es',ep',g1,g2,g3,g4,_⟩:=(show ObjOk X.prog X.w H s.heap a (.frz o (.dT kvs)) from I.hok a _ hH)
  rw [ho] at g1
  cases g1
  rw [hdd] at g3
  cases g3
  have hlt:i < es.size:=by rw [hsz];exact hi
  obtain ⟨q,hq,r1,r2,r3⟩:=paired_get rel (θ hi)
  have hes:es[i]?=some (mz (fG (zF X.prog X.w)) q):=by
   rw [entry_at g4,hq]
   rfl
  have hes':es[i]=mz (fG (zF X.prog X.w)) q:=by
   rw [Ϡ hlt] at hes
   exact ϔ hes
  refine JM he ho hdd hlt fun h' hio hTp hk=>⟨_,rfl,?_⟩
  refine wpAny_letOwnedTupleGo_items hio fun h2 he2 hs2=>?_
  have kept:∀ b u,b ∉ [it]->s.heap.get? b=some u->h2.get? b=some u:=fun b u hb q=>(hs2.2 b fun z=>hb (by simp [z])).trans (hk b u (fun z=>hb (by simp [z])) q)
  have nT:∀ b u,s.heap.get? b=some u->b≠s.heap.objs.size:=fun b u q=>Λ (χ q)
  have htr:∀ b u,H b=some u->b ∉ [it]:=fun b u q hb=>by
   have hb':b=it:=by simpa using hb
   subst hb'
   rw [f1.1] at q;cases q
  have eT:h2.get? s.heap.objs.size=some { cls:=.type "tuple",data:=.seq #[es[i].key,es[i].val] }:=(hs2.2 _ (d8 (χ he))).trans hTp
  have rk:RelV (.ref q.2.1) es[i].key:=by rw [hes'];exact rfl
  have rv:RelV kvs[i].2 es[i].val:=by rw [hes'];exact r3
  have hok:HOk X.prog X.w (upd H s.heap.objs.size (.tup [.ref q.2.1,kvs[i].2])) h2:=fun b u z=>by
   by_cases hb:b=s.heap.objs.size
   ·subst hb
    rw [zj] at z
    cases z
    exact ⟨by show 2<=sizeLine;decide,[es[i].key,es[i].val],.cons rk (.cons rv .nil),⟨_,eT,rfl,_,rfl⟩⟩
   ·rw [zc hb] at z
    refine (I.hok b u z).stay (fun c v hcv r=>kept c v ?_ r) (fun c r=>by rw [zc (zf r hT)];exact r) fun c ys r=>by rw [zc (zf r hT)];exact r
    rcases hcv with rfl | hcv
    ·exact htr _ _ z
    ·exact htr _ _ hcv
  refine ⟨.ref s.heap.objs.size,upd H s.heap.objs.size (.tup [.ref q.2.1,kvs[i].2]),?_,rfl,⟨_,q.2.1,kvs[i].1,kvs[i].2,hT,rfl,θ hi,by rw [hes];rfl,r2,rfl⟩,⟨_,_,he2⟩,fun b hb=>?_⟩
  ·refine Inv.step (s:=s) (H:=H) (h':=h2) (g':=s.gens) (d':=s.drawn) (t':=s.toks) (ch:=[it]) I (fun b hb=>?_) (fun b u _ _ hb q _=>kept b u hb q) (fun b u _ _ hb q _=>⟨u.slots,kept b u hb q⟩) (fun b u _ q n=>by rw [zc (nT b u q)];exact n) (fun b u hb q=>⟨u,kept b u hb q⟩)
    (fun b ys q=>by rw [zc (zf q hT)];exact q) (fun b u v q=>by rw [zc (zf q hT)];exact q) (fun b ps q=>⟨#[],by rw [zc (zf q hT),q];simp⟩) (fun m hm=>?_) hok I.bare
   ·have hb':b=it:=by simpa using hb
    subst hb'
    exact ⟨f1.2.2.2.1,f1.2.1,f1.2.2.2.2.1,f1.2.2.2.2.2⟩
   ·obtain ⟨u,es1,ep1,q,r⟩:=hm
    exact ⟨u,es1,ep1,kept _ u (fun hb=>by
     have hb':X.env.locals=it:=by simpa using hb
     exact f1.2.1 hb'.symm) q,r⟩
  ·have hb':b=it:=by simpa using hb
   subst hb'
   rw [zc (nT _ _ he)];exact f1.1
 done:=by
  intro X hP hw hK hc i pJ s σ H E I hf st hg
  subst hP hw hK
  obtain ⟨ok,ov,he⟩:=st
  obtain ⟨hH,hi⟩:=hg
  obtain ⟨f0,f1,f2,f3,f4,f5⟩:=hf it (by simp)
  obtain ⟨ho,_⟩:=(show ObjOk X.prog X.w H s.heap a (.frz o (.dT kvs)) from I.hok a _ hH)
  exact K4 (I.ok.hd hc) he ho hdd (by rw [hsz];exact hi) fun h' eb=>⟨rfl,I.turned (t':=s.toks) (fun b u hb q=>eb b u hb q) f0 f1 f3 f4 f5⟩
 self:=fun A i s Q E st h=>by
  obtain ⟨ok,ov,he⟩:=st
  have hT:s.TypeIs (.ref it) "dict_itemiterator":=⟨_,he,rfl⟩
  refine gQ hT F.slot_dict_itemiterator_iter (ϒ F.slot_dict_itemiterator_iter hT zaQ ?_ (F.args_dict_itemiterator_iter_1 _))
  show ψ _ _ (ret (.ref it)) _ _ s
  exact ζ ⟨_,rfl,"dict_itemiterator",_,hT,F.slot_dict_itemiterator_next.lookup,h⟩
where
 paired_get:∀ {α β:Type}{R:α->β->Prop}{l:List α}{m:List β}{i:Nat}{x:α},dO R l m->l[i]?=some x->∃ y,m[i]?=some y/\R x y
  | _,_,_,_,_,0,_,.cons h _,e=>by
   simp at e
   subst e
   exact ⟨_,rfl,h⟩
  | _,_,_,_,_,i+1,_,.cons _ t,e=>by
   obtain ⟨y,h1,h2⟩:=jn.paired_get (i:=i) t (by simpa using e)
   exact ⟨y,by simpa using h1,h2⟩
  | _,_,_,_,_,_,_,.nil,e=>by simp at e
section
variable {X:Cx}{Γ:Gm}{S:Store}{cf:Cf}{a:E}{elts:List Expr}{kk:Nat}{ap cp tp:Pos}
theorem qI {g:G}:∀ k:List Key,Hass Γ g (k.map keyOf) (k.map kV)
 | []=>rfl
 | .inl i::k=>⟨_,_,rfl,rfl,qI k⟩
 | .inr i::k=>⟨_,_,rfl,rfl,qI k⟩
theorem QJ {H:Hp}{g:G}{a:Addr}{vs:List V}(w:WOk Γ H g S) (ha:H a=some (.tup vs)):∃ g',Step H g H g'/\WOk Γ H g' S/\g'.R a=some (.tup vs):=by
 cases e:g.R a with
 | some o=>
  have:=w.rh a o e
  rw [ha] at this
  cases this
  exact ⟨g,Step.refl H g,w,e⟩
 | none=>
  have na:a ∉ g.α:=fun m=>by
   obtain ⟨k,hk,e'⟩:=iI.mp m
   have hk':k < S.length:=by rw [<- w.len];exact hk
   obtain ⟨o,ho,hm⟩:=(w.cell k _ a (θ hk') (by rw [θ hk,e'])).isMut
   rw [ha] at ho
   cases ho
   exact hm.elim
  refine ⟨g.put a (.tup vs),⟨Le.put e,fun _ _ h _=>h,fun _ o h=>⟨o,h⟩,fun _ h=>.inl h,fun b q=>?_⟩,w.put ha e na,zj⟩
  by_cases hb:b=a
  ·subst hb;exact .inr (.inr (.inr ⟨_,ha⟩))
  ·have q':upd g.R a (.tup vs) b≠none:=q
   rw [zc hb] at q'
   exact .inl q'
end
noncomputable def Itk (a:Addr) (o:Obj) (kvs:List (List Key×V)):It:=
 ⟨fun i H=>H a=some (.frz o (.dT kvs))/\i < kvs.length,fun i H x H'=>∃ kb k v,x=.ref kb/\kvs[i]?=some (k,v)/\H kb=some (.tup (k.map kV))/\H'=H,fun i H=>H a=some (.frz o (.dT kvs))/\kvs.length<=i⟩
theorem Uv {P:Ν}{w:ϖ}{K:W.Frag}{tg:Expr}{a it:Addr}{o:Obj}{es:Array cF}{ep:Nat}{kvs:List (List Key×V)}(hdd:o.data=.dict es ep) (hex:o.ExactDict) (hsz:es.size=kvs.length):
  Turn P w K tg (Itk a o kvs) [it] it (fun i h=>h.IsKeyIter it a i es.size ep/\i<=es.size) where
 mem:=by simp
 obj:=fun i h st b hb=>by
  have e:b=it:=by simpa using hb
  subst e
  obtain ⟨⟨o,e,c,d⟩,_⟩:=st
  exact ⟨o,e,fun v z=>by rw [d] at z;cases z⟩
 keep:=fun i h h' st k=>⟨st.1.at fun o e=>k it (by simp) o e,st.2⟩
 item:=by
  intro X hP hw hK hc i pJ s σ H E I hf st hg
  subst hP hw hK
  obtain ⟨st,_⟩:=st
  obtain ⟨hH,hi⟩:=hg
  obtain ⟨f0,f1,f2,f3,f4,f5⟩:=hf it (by simp)
  obtain ⟨ho,_,_,xs,rel,o',es',ep',g1,g2,g3,g4,_⟩:=(show ObjOk X.prog X.w H s.heap a (.frz o (.dT kvs)) from I.hok a _ hH)
  rw [ho] at g1
  cases g1
  rw [hdd] at g3
  cases g3
  have hlt:i < es.size:=by rw [hsz];exact hi
  obtain ⟨q,hq,r1,r2,r3⟩:=jn.paired_get rel (θ hi)
  have hes:es[i]?=some (mz (fG (zF X.prog X.w)) q):=by
   rw [entry_at g4,hq]
   rfl
  have hes':es[i]=mz (fG (zF X.prog X.w)) q:=by
   rw [Ϡ hlt] at hes
   exact ϔ hes
  refine TS.zaw st ⟨o,ho,hex,hdd⟩ hlt fun h' st' sb=>?_
  have I1:Inv X pJ σ H { s with heap:=h' }:=I.turned (t':=s.toks) (fun b o hb e=>(sb.2 b hb).trans e) f0 f1 f3 f4 f5
  obtain ⟨o2,e2,c2,d2⟩:=id st'
  exact ⟨_,rfl,go_of (s:={ s with heap:=h' }) e2 c2 d2 (by decide) ⟨.ref q.2.1,H,I1,by rw [hes'];exact rfl,⟨q.2.1,kvs[i].1,kvs[i].2,rfl,θ hi,r2,rfl⟩,⟨st',hlt⟩,fun b hb=>(hf b hb).1⟩⟩
 done:=by
  intro X hP hw hK hc i pJ s σ H E I hf st hg
  subst hP hw hK
  obtain ⟨st,hle⟩:=st
  obtain ⟨hH,hi⟩:=hg
  obtain ⟨f0,f1,f2,f3,f4,f5⟩:=hf it (by simp)
  obtain ⟨ho,_⟩:=(show ObjOk X.prog X.w H s.heap a (.frz o (.dT kvs)) from I.hok a _ hH)
  have e:i=es.size:=by omega
  subst e
  exact TS.zdy (I.ok.hd hc) st ⟨o,ho,hex,hdd⟩ fun h' eb=>⟨rfl,I.turned (t':=s.toks) (fun b o hb e=>eb b o hb e) f0 f1 f3 f4 f5⟩
 self:=fun _ _ _ _ _ st h=>wpAny_pyIter_keyiter st.1 h
section
variable {X:Cx}{tg:Expr}
theorem zcH {l:Expr}{tl:TE}(hl:PE X l tl):PI X tg l (fun σ H R=>tl σ H fun v H=>∃ a o kvs,v=.ref a/\H a=some (.frz o (.dT kvs))/\R (Itk a o kvs) H):=by
 intro pJ s σ H R I h
 refine thn (hl pJ s σ H _ I h) fun v s1 ⟨x,H1,I1,r1,a,o,kvs,e1,hH,q⟩=>?_
 subst e1
 cases r1
 obtain ⟨ho,_,z2,xs,rel,o',es,ep,g1,g2,g3,g4,_⟩:=(show ObjOk X.prog X.w H1 s1.heap a (.frz o (.dT kvs)) from I1.hok a _ hH)
 rw [ho] at g1
 cases g1
 have hsz:es.size=kvs.length:=by
  have e1:=congrArg List.length g4
  rw [ν,<- iR rel] at e1
  simpa using e1
 refine TS.zaK z2 ⟨o,ho,g2,g3⟩ ?_
 refine ⟨s1.heap.objs.size,[s1.heap.objs.size],_,_,H1,rfl,I1.kept (t':=s1.toks) fun b o e=>η _ e,Uv g3 g2 hsz,⟨⟨_,ς _ rfl,rfl,rfl⟩,Ϣ _⟩,fun b hb=>?_,q⟩
 have e:b=s1.heap.objs.size:=by simpa using hb
 subst e
 exact I1.fpOk (ξ _) (I1.hok.fresh (ξ _))
end
section
variable {X:Cx}{Γ:Gm}{S:Store}{cf:Cf}{a:E}{tgt x:Expr}
theorem zdm {ad:Addr}{o:Obj}{ks:List (List Key)}{vs:List V}{g:G}(hl:ks.length=vs.length) (hr:g.R ad=some (.frz o (.dT (ks.zip vs)))):ItOk Γ (Itk ad o (ks.zip vs)) (ks.map fun k=>.tup (k.map keyOf)) g where
 go:=fun i H g' le sr hi=>⟨sr _ _ (le.rr _ _ hr),by rw [ν] at hi;rw [dJ];omega⟩
 stop:=fun i H g' le sr hi=>⟨sr _ _ (le.rr _ _ hr),by rw [ν] at hi;rw [dJ];omega⟩
 yld:=fun i H g' S z H' d le w hd y=>by
  obtain ⟨kb,k,v,rfl,e1,hkb,rfl⟩:=y
  obtain ⟨g1,s1,w1,r1⟩:=QJ w hkb
  refine ⟨g1,s1,Same.refl _,w1,?_⟩
  rw [List.getElem?_zip_eq_some] at e1
  rw [Δ,e1.1] at hd
  cases hd
  exact ⟨kb,_,rfl,r1,qI k⟩
theorem zex (h:PE X x (TX Γ cf a)):PI X tgt x (TXi Γ cf (.keys a)):=
 PI.imp (zcH h) fun σ H Q h0=>goI h0 fun ρ S W g Hz hw w env k=>⟨ρ,S,_,g,Hz,hw,w,env,fun x v H1 g1 S1 st w1 vx h=>by
  obtain ⟨g2,st2,w2,hx,q⟩:=vx.keep st w1 h
  obtain ⟨ks,ds,ed,q⟩:=Ks q
  rw [ed] at hx
  obtain ⟨ad,vs,o,rfl,hr,hlen,hv⟩:=hx
  exact ⟨ad,o,ks.zip vs,rfl,w2.rh _ _ hr,k _ _ H1 g2 S1 st2 w2 (zdm (by rw [hlen,hv.len]) hr) q⟩⟩
end
end EV
namespace L2
open PySem PySem.Spec PyProof.Rows
section
variable {prog:Ν}{w:ϖ}{A:ϗ}{E:VSP}{s:μ}
theorem sub_one {p:Sem δ×Sem δ}{Q:Addr->μ->Prop}(h:ψ (Ζ prog w) A (evalPairs [p]) (fun vs s1=>∃ k v,vs=[(k,v)]/\ψ (Ζ prog w) A (dictSet s.heap.objs.size k v) (fun _ s2=>Q s.heap.objs.size s2) E s1) E
   { s with heap:=s.heap.push { cls:=.type "dict",data:=.dict #[] } }):ψ (Ζ prog w) A (subDict [p]) Q E s:=by
 unfold subDict
 refine γ (wpAny_alloc ?_)
 refine γ (Ϥ ?_)
 rw [if_pos (show [p].length<=15 from (show 1<=15 by decide))]
 refine γ (bO h (fun vs s1 h1=>?_) fun _ _ e=>e)
 obtain ⟨k,v,rfl,q⟩:=h1
 refine Ϥ ?_
 rw [List.forIn_cons]
 refine γ (γ ?_)
 refine γ (bO q (fun _ s2 q2=>?_) fun _ _ e=>e)
 refine ζ ?_
 dsimp only
 rw [List.forIn_nil]
 exact ζ (ζ (ζ q2))
end
variable {X:Cx}
def zd7 (tk tv:TE):TE:=fun σ H Q=>∀ p,H p=none->tk σ (upd H p (.dT [])) fun x H1=>tv σ H1 fun y H2=>∃ b ks,x=.ref b/\H2 p=some (.dT [])/\H2 b=some (.tup (ks.map kV))/\Q (.ref p) (upd H2 p (.dT [(ks,y)]))
theorem zah {k v:Expr}{pos:Pos}{tk tv:TE}(hu:X.A.units+1 < ϲ) (hk:PE X k tk) (hv:PE X v tv):PE X (.Dict [some k] [v] pos) (zd7 tk tv):=by
 intro pJ s σ H Q I q
 have hn:=I.hok.fresh (ξ s.heap.objs.size)
 have I1:=I.laid (a:=s.heap.objs.size) (o:=.dT []) (h':=s.heap.push { cls:=.type "dict",data:=.dict #[] }) (t':=s.toks) (fun _ _ q=>η _ q) (ξ _) (Ve s.heap I.big)
 have q:=q _ hn
 rw [arm_eval_Dict,zip_pairTrees [some k] [v] X.env pos rfl rfl,dictDisplay_pairs (pairTrees [some k] [v] X.env pos) (fun z=>by have:=pairTrees_length [some k] [v] X.env pos rfl rfl;rw [z] at this;cases this) (by rw [pairTrees_length [some k] [v] X.env pos rfl rfl];exact (show 1 < 17 by decide))]
 refine γ (gY (γ (sub_one (p:=_) ?_)))
 refine pairTrees_cons_walk (thn (hk pJ _ σ _ _ I1 q) fun u s1 ⟨x,H1,I1,rx,q1⟩=>thn (hv pJ s1 σ H1 _ I1 q1) fun w2 s2 ⟨y,H2,I2,ry,b,ks,ex,ep,eb,q2⟩=>pairTrees_nil_walk ⟨u,w2,rfl,?_⟩)
 subst ex
 cases (show u=ω b from rx)
 obtain ⟨z,hd,xs,rel,dd⟩:=dt_of I2.hok ep
 cases rel
 refine wpAny_dictSet_heap (hsz:=by decide) (show X.A.units < ϲ by omega) (key_of I2.hok eb) dd fun h' dd' hs=>ζ ⟨.ref s.heap.objs.size,_,?_,rfl,q2⟩
 obtain ⟨o,es,ep',hq,h2,h3,h4,_,h5⟩:=dd'
 refine uT I2 (by rw [ep];exact Ϸ) hs ⟨o,hq⟩ ⟨show 1<=sizeLine by decide,hd,_,.cons ⟨rfl,?_,ry⟩ .nil,o,es,ep',hq,h2,h3,h4,h5⟩
 rw [zc (ne_of eb ep (fun z=>nomatch z))]
 exact eb
end L2
namespace EV
open PySem PySem.Spec PyProof.Rows L2
variable {X:Cx}{Γ:Gm}{cf:Cf}{a b:E}{k v:Expr}{pos:Pos}
theorem zck (hu:X.A.units+1 < ϲ) (hk:PE X k (TX Γ cf a)) (hv:PE X v (TX Γ cf b)):PE X (.Dict [some k] [v] pos) (TX Γ cf (.dk1 a b)):=
 (zah hu hk hv).imp fun σ H Q h0=>goX h0 fun ρ S V g Hz hw w env kk p hp=>by
  have st0:=(Step.refl H g).zA (o:=.dT []) hp
  have h1:TXs Γ cf [a,b] σ (upd H p (.dT [])) fun vs H2=>∃ c ks y,vs=[.ref c,y]/\H2 p=some (.dT [])/\H2 c=some (.tup (ks.map kV))/\Q (.ref p) (upd H2 p (.dT [(ks,y)])):=by
   refine ⟨ρ,S,fun ds S1=>opt (dk1D ds) fun d=>V (d,.fr) S1,g,Hz,hw,w.laid hp,zm env st0,fun ds vs H2 g2 S2 st2 w2 h2 q=>?_⟩
   obtain ⟨d,ed,q⟩:=zH q
   obtain ⟨k1,k2,k3⟩:=st2.kept zj (w.notR hp) (w.notA hp)
   match ds,ed,h2 with
   | [.tup t,e],ed,h2=>
    obtain ⟨ks,e1,rfl⟩:=Α.mp (show (keysD t).map (fun k=>D.dT [k] [e])=some d from ed)
    obtain ⟨u,u2,rfl,⟨c,ys,rfl,f1,f2⟩,h5⟩:=h2.two
    have ey:=wj e1 f2
    refine ⟨c,ks,u2,rfl,k1,by rw [<- ey];exact w2.rh _ _ f1,?_⟩
    exact kk (.dT [ks] [e],.fr) (.ref p) _ g2 S2 ((st0.trans st2).zA hp) (w2.zA k2 k3) ⟨p,rfl,hp,k2,k3,[u2],zj,rfl,u2,[],rfl,h5,rfl⟩ q
  obtain ⟨ρ1,S1,V1,g1,H1,hw1,w1,env1,kk1⟩:=args_cons h1
  refine ⟨ρ1,S1,V1,g1,H1,hw1,w1,env1,fun x v H2 g2 S2 st2 w2 vx q=>?_⟩
  obtain ⟨ρ3,S3,V3,g3,H3,hw3,w3,env3,kk3⟩:=args_cons (kk1 x v H2 g2 S2 st2 w2 vx q)
  refine ⟨ρ3,S3,V3,g3,H3,hw3,w3,env3,fun y u H4 g4 S4 st4 w4 vy q=>?_⟩
  obtain ⟨ρ5,S5,W5,g5,H5,hw5,w5,env5,kk5⟩:=kk3 y u H4 g4 S4 st4 w4 vy q
  obtain ⟨c,ks,y',e1,z1,z2,z3⟩:=kk5 [] [] H4 g5 S5 (Step.refl _ _) w5 rfl hw5
  cases e1
  exact ⟨c,ks,rfl,z1,z2,z3⟩
end EV
namespace TS
open PySem PyProof.Rows PySem.W
theorem zdd:mq (.type "list_reverseiterator") "__len__"=pure none:=by rw [fZ,di];kernel_rfl
theorem zaL:mq (.type "list_reverseiterator") "__length_hint__"=pure (some (.builtin "list_reverseiterator.__length_hint__")):=by rw [fZ,di];kernel_rfl
section
variable {prog:Ν}{w:ϖ}{A:ϗ}{E:δ->μ->Prop}{s:μ}{I:Addr}{fp wr:List Addr}{G:Array mW->Array mW->Prop}{n:Nat}{P:Nat->δ->Prop}{St:Nat->μ->Prop}
theorem Xz {Q:List δ->μ->Prop}(W:WalksS prog w A.in1 I fp wr G n P St) (hT:∀ i s,St i s->s.TypeIs (.ref I) "list_reverseiterator") (hst:St 0 s) (hfp:∀ b∈fp,b < s.heap.objs.size) (hI:I∈fp) (hn:n<=sizeLine)
  (hQ:∀ s' acc,Moved wr G s s'->ItemsOf P acc n->Q acc.toList s'):ψ (Ζ prog w) A (collect (.ref I)) Q E s:=by
 have nf:s.heap.objs.size ∉ fp:=fun m=>absurd (hfp _ m) (cN _)
 have nI:s.heap.objs.size≠I:=fun e=>nf (by rw [e];exact hI)
 unfold collect
 refine γ (oK (aP lZ ?_))
 rw [Ϩ lY _]
 refine γ (m:=newList []) (Χ (ζ ⟨cu dC _,aP m6 ?_⟩))
 rw [Ϩ dC _]
 have st1:=W.frame 0 s (s.heap.push { cls:=.type "list",data:=.seq ([]:List δ).toArray }) s.toks hst (ξ _) fun b _ o e=>η _ e
 have T1:=hT 0 _ st1
 show ψ _ A.in1 (aD (.ref s.heap.objs.size) (.ref I) (.ref s.heap.objs.size)) _ _ _
 unfold aD
 refine γ (bL T1 ?_)
 rw [if_neg (by rw [show cW (.ref s.heap.objs.size) (.ref I)=false by simp [cW,nI]];decide)]
 refine γ (W.self 0 _ _ _ st1 (γ (Ϥ ?_)))
 unfold lz
 refine γ (nW T1 zdd ?_)
 show ψ _ A.in1 (specialOf (ω I) (cD "__length_hint__") >>= _) _ _ _
 refine γ (nW T1 zaL ?_)
 (generalize hid:("list_reverseiterator.__length_hint__":String)=id0;wp_delta;rw [show splitId id0=some ("list_reverseiterator","__length_hint__") from by subst hid;decide +kernel];subst hid)
 refine γ (dH (b:=true) T1 (by rw [gD];kernel_rfl) (ζ ?_))
 rw [if_neg (by decide)]
 refine ζ ⟨cu mH _,codeAny_extend_loopS W hn _ nf _ n 0 _ _ _ rfl (Ϣ _) st1 (ς _ rfl) (ItemsOf.nil P) fun s' acc c m hS' hacc=>?_⟩
 exact γ (wpAny_load hS' (ζ (hQ s' acc (Moved.drop_new (o:={ cls:=.type "list",data:=.seq ([]:List δ).toArray }) (tk:=s.toks) m (ξ _)) hacc)))
theorem Uy {Q:δ->μ->Prop}(W:WalksS prog w A.in1.in1.in1 I fp wr G n P St) (hT:∀ i s,St i s->s.TypeIs (.ref I) "list_reverseiterator") (hst:St 0 s) (hfp:∀ b∈fp,b < s.heap.objs.size) (hI:I∈fp) (hn:n<=sizeLine)
  (hQ:∀ s' acc,Moved wr G s s'->ItemsOf P acc n->Q (.ref s'.heap.objs.size) { s' with heap:=s'.heap.push { cls:=.type "tuple",data:=.seq acc } }):ψ (Ζ prog w) A (call (.type "tuple") [.ref I]) Q E s:=by
 refine callType_codes (Q₁:=fun obj s₁=>s₁.TypeIs obj "tuple"/\Q obj s₁) g8 (PySem.F.typeCall_tuple_1 _) PySem.F.entry_object_init (n6 ?_) fun obj s₁ h₁=>
  ⟨h₁.1,PySem.F.args_object_init_2 obj _,object_init_meets g8.init.lookup g8.made (by decide) prog w A.in1 _ s₁ ⟨h₁.1,rfl,h₁.2⟩⟩
 refine γ (m:=checkBuiltinCall "tuple.__new__" ⟨[.type "tuple",.ref I],[]⟩) (bc (PySem.F.newCall_tuple_1 _) (ζ ⟨cu mZ _,aP PySem.F.entry_tuple_new ?_⟩))
 rw [Ϩ mZ _]
 have hsub:=sub_tuple_self
 have hinit:=init_tuple_lookup
 have hmh:=madeHere_tuple
 have T0:=hT 0 s hst
 wp_walk using bL T0,Xz W hT hst hfp hI hn
 intro s' acc m hacc
 show ψ _ _ (aV acc.toList.toArray >>= fun v=>ret v) _ _ _
 unfold aV
 rw [show acc.toList.toArray=acc by simp]
 exact γ (Χ (ζ ⟨⟨_,ς _ rfl,rfl⟩,hQ s' acc m hacc⟩) (show acc.size<=sizeLine by rw [hacc.1];exact hn))
end
end TS
namespace EV
open PySem PySem.Spec PyProof.Rows L2
theorem QF {xs:List V}{us:List δ}(h:Vals xs us):Vals xs.reverse us.reverse:=by
 induction h with
 | nil=>exact .nil
 | cons h t ih=>rw [dY,dY];exact ih.append (.cons h .nil)
section
variable {X:Cx}{z:Expr}{p p' pos pos':Pos}{t:TE}
theorem zcI (hc:X.calm=true) (hg:Gl X "reversed") (hm:X.mg "reversed"=none) (hg':Gl X "tuple") (hm':X.mg "tuple"=none) (hs:notStar z=true) (h:PE X z t):
  PE X (.Call (.Name "tuple" p') [.Call (.Name "reversed" p) [z] [] pos] [] pos') (fun σ H Q=>t σ H fun v H1=>∃ l ys,v=.ref l/\SqL X.K H1 l ys/\∀ a,H1 a=none->Q (.ref a) (upd H1 a (.tup ys.reverse))):=by
 intro pJ s σ H Q I q
 refine cO (vh I hg' hm' (u:=.type "tuple") (by decide +kernel) ?_ (by decide) (by decide))
 refine aC ?_ (zb rfl _ _) rfl
 rw [zb (x:=.Call (.Name "reversed" p) [z] [] pos) rfl]
 show ψ _ _ (spliced ((false,eval (.Call (.Name "reversed" p) [z] [] pos) X.env)::dB pos' (Ϝ [] X.env))) _ _ s
 refine lq (cO (vh I hg hm (u:=.type "reversed") (by decide +kernel) ?_ (by decide) (by decide)))
 refine aC ?_ (zb hs _ _) rfl
 rw [zb hs]
 show ψ _ _ (spliced ((false,eval z X.env)::dB pos (Ϝ [] X.env))) _ _ s
 refine lq (thn (h pJ s σ H _ I q) fun u s1 ⟨x,H1,I1,r1,l,ys,e1,sq,q⟩=>lL ?_)
 subst e1
 cases r1
 obtain ⟨its,rv,pl,hz⟩:=I1.list sq
 have hlen:=rv.length
 refine call_reversed_list pl.isList (lL ?_)
 have hil:l < s1.heap.objs.size:=by obtain ⟨o,ho,_⟩:=pl.isList;exact χ ho
 have hh:X.A.handled=none:=I1.ok.hd hc
 have fr:=I1.hok.fresh (ξ s1.heap.objs.size)
 have fp:=I1.fpOk (ξ _) fr
 have W:=(Walks.listRev (prog:=X.prog) (w:=X.w) (A:=X.A.in1.in1.in1) (by simpa using hh) s1.heap.objs.size l (Λ hil) its.toArray).toS
 have hit:(s1.heap.push (revObj l ((its.toArray.size:Int) - 1))).IsRevIter s1.heap.objs.size l ((its.toArray.size:Int) - 1 - ((0:Nat):Int)):=⟨_,ς _ rfl,rfl,by simp [revObj]⟩
 refine TS.Uy W (fun i s st=>st.2.1.typeIs) ⟨Ϣ _,hit,pl.isList.push _⟩ (fun b hb=>?_) (by simp) (by simp;omega) fun s' acc m hacc=>?_
 ·rcases Κ.mp hb with rfl | hb
  ·show _ < (s1.heap.push _).objs.size
   rw [fH];exact eV _
  ·rw [Υ.mp hb]
   show _ < (s1.heap.push _).objs.size
   rw [fH];exact bV hil
 ·obtain ⟨h2,g2,d2,t2,os2⟩:=s'
  have e1:g2=s1.gens:=m.gens
  have e2:d2=s1.drawn:=m.drawn
  have e3:os2=s1.os:=m.os
  subst e1 e2 e3
  obtain ⟨f0,f1,f2,f3,f4,f5⟩:=fp
  have I2:L2.Inv X pJ σ H1 { s1 with heap:=h2,toks:=t2 }:=I1.turned (t':=t2) (fun b o hb e=>m.heap b o (by simpa using hb) (η _ e)) f0 f1 f3 f4 f5
  have ea:acc.toList=its.reverse:=by
   apply lR
   intro j
   by_cases hj:j < acc.size
   ·have:=hacc.2 j _ (Ϡ hj)
    have hn:acc.size=its.length:=by simpa using hacc.1
    rw [bK,Ϡ hj,oU (by omega),<- this]
    simp
   ·have hn:acc.size=its.length:=by simpa using hacc.1
    rw [aY (by rw [Τ];omega),aY (by rw [iW];omega)]
  have rr:Vals ys.reverse acc.toList:=by rw [ea];exact QF rv
  have I3:=I2.laid (t':=t2) (a:=h2.objs.size) (o:=.tup ys.reverse) (h':=h2.push { cls:=.type "tuple",data:=.seq acc }) (fun b o e=>η _ e) (ξ _)
   (show ObjOk X.prog X.w _ _ _ (.tup ys.reverse) from ⟨by rw [iW];exact hz,acc.toList,rr,by rw [eZ];exact lK.new _ _⟩)
  exact ⟨.ref h2.objs.size,_,I3,rfl,q _ (I2.hok.fresh (ξ _))⟩
end
section
variable {X:Cx}{Γ:Gm}{cf:Cf}{B:Tb}{k:Nat}{c:Cc}{z:Expr}{pos p p' pos':Pos}{a:E}
theorem zej (ok:XOk Γ B (spN Γ cf) k X c) (hg:Gl X "reversed") (hm:X.mg "reversed"=none) (hg':Gl X "tuple") (hm':X.mg "tuple"=none) (hs:notStar z=true) (h:PE X z (TX Γ cf a)):
  PE X (.Call (.Name "tuple" p') [.Call (.Name "reversed" p) [z] [] pos] [] pos') (TX Γ cf (.bi .trev [a])):=by
 refine (zcI ok.calm hg hm hg' hm' hs h).imp fun σ H Q h0=>goX h0 fun ρ S V g Hz hw w env kk=>⟨ρ,S,_,g,Hz,hw,w,env,fun x v H1 g1 S1 st w1 vx h1=>?_⟩
 obtain ⟨⟨d,fr⟩,eb,q⟩:=zH h1
 have hr:=vx.rdb w1
 have eb:trevD (deref S1 x.1)=some (d,fr):=eb
 generalize deref S1 x.1=e at eb hr
 cases e with
 | lst l=>
  cases eb
  obtain ⟨p,ys,rfl,h2,h3⟩:=hr
  refine ⟨p,ys,rfl,SqL.of h2,fun t ht=>?_⟩
  have r1:=w1.notR ht
  refine kk (.tup l.reverse,.st) (.ref t) _ (g1.put t (.tup ys.reverse)) S1 (st.trans ((Step.of_same (zT ht) (Le.refl g1) (fun _ h=>.inl h) fun _ h=>.inl h).put r1 ht)) ((w1.laid ht).put zj r1 (w1.notA ht)) ?_ q
  exact ⟨t,ys.reverse,rfl,zj,(zcp h3).mono (Le.put r1)⟩
 | _=>cases eb
end
noncomputable def uI:Expr->Bool
 | .BoolOp _ _ _=>true
 | _=>false
section
variable {Γ:Gm}{B:Tb}{cf:Cf}{k:Nat}
theorem zeK {X:Cx}{x y z:Expr}{pos:Pos}{t a b:E}(hc:PT X x (TB Γ cf t)) (ha:PT X y (TB Γ cf a)) (hb:PT X z (TB Γ cf b)):PT X (.IfExp x y z pos) (TB Γ cf (.ite t a b)):=by
 intro pJ s σ H Q I ⟨ρ,S,V,g,Hz,hw,w,env,kk⟩
 have eq:lG (.IfExp x y z pos) X.env (eval (.IfExp x y z pos) X.env)=(lG x X.env (eval x X.env) >>= fun t=>if t=true then lG y X.env (eval y X.env) else lG z X.env (eval z X.env)):=rfl
 rw [eq]
 refine γ (thn (hc pJ s σ H (fun r H'=>if r=true then TB Γ cf a σ H' Q else TB Γ cf b σ H' Q) I ⟨ρ,S,_,g,Hz,hw,w,env,fun x H1 g1 S1 st w1 h=>?_⟩) fun r s1 ⟨H1,I1,q⟩=>?_)
 ·obtain ⟨r,e,q⟩:=ww h
  rw [e]
  show (if r=true then _ else _)
  cases r with
  | true=>exact iteT (tb_go st w1 env kk q)
  | false=>exact iteF (tb_go st w1 env kk q)
 ·cases r with
  | true=>rw [if_pos rfl] at q ⊢;exact ha pJ s1 σ H1 Q I1 q
  | false=>rw [if_neg Μ] at q ⊢;exact hb pJ s1 σ H1 Q I1 q
def SE (Γ:Gm) (B:Tb) (cf:Cf) (k:Nat) (e:E):Prop:=∀ (X:Cx) (c:Cc) (x:Expr),XOk Γ B (spN Γ cf) k X c->chkE B c e x=true->PE X x (TX Γ cf e)/\PT X x (TB Γ cf e)/\(uI x=true->PW X x (TB Γ cf e))
theorem only {X:Cx}{x:Expr}{e:E}(h:PE X x (TX Γ cf e)) (hn:uI x=false) (he:∀ whole,lG x X.env whole=(do let v <- whole;standAt x.pos;gU [v] (truthy v))):PE X x (TX Γ cf e)/\PT X x (TB Γ cf e)/\(uI x=true->PW X x (TB Γ cf e)):=
 ⟨h,zek h he,fun q=>by rw [hn] at q;cases q⟩
theorem none_of {X:Cx}{x:Expr}{e:E}(h:∀ ρ V S,¬ wpE cf ρ e V S):PE X x (TX Γ cf e)/\PT X x (TB Γ cf e)/\(uI x=true->PW X x (TB Γ cf e)):=
 ⟨fun _ _ _ _ _ _ ⟨_,_,_,_,_,q,_⟩=>(h _ _ _ q).elim,fun _ _ _ _ _ _ ⟨_,_,_,_,_,q,_⟩=>(h _ _ _ q).elim,fun _ _ _ _ _ _ _ _ ⟨_,_,_,_,_,q,_⟩=>(h _ _ _ q).elim⟩
theorem xN {c:Cc}:∀ {es:List E}{xs:List Expr},chkEs B c es xs=true->∀ z∈xs,notStar z=true
 | [],[],_=>fun z hz=>by cases hz
 | e::es,x::xs,h=>by
  have h:(chkE B c e x&&notStar x&&chkEs B c es xs)=true:=h
  rw [ε,ε] at h
  intro z hz
  rcases Κ.mp hz with rfl | hz
  ·exact h.1.2
  ·exact xN h.2 z hz
 | [],_::_,h=>nobE h
 | _::_,[],h=>nobE h
theorem JS {c:Cc}{lo hi st:Option Expr}{pos:Pos}:∀ (e:E),chkE B c e (.Slice lo hi st pos)=true->False
 | .box e,h=>nobE h
 | .var _,h=>nobE h
 | .con _,h=>nobE h
 | .glo _ _,h=>nobE h
 | .bin _ _ _,h=>nobE h
 | .neg _,h=>nobE h
 | .cmp _ _ _,h=>nobE h
 | .chn _ _ _ _ _,h=>nobE h
 | .not _,h=>nobE h
 | .and _ _,h=>nobE h
 | .or _ _,h=>nobE h
 | .ite _ _ _,h=>nobE h
 | .tup _,h=>nobE h
 | .lst _,h=>nobE h
 | .dic _ _ _,h=>nobE h
 | .sub _ _,h=>nobE h
 | .slc _ _ _,h=>nobE h
 | .bi _ _,h=>nobE h
 | .mth _ _ _,h=>nobE h
 | .call _ _,h=>nobE h
 | .callk _ _ _,h=>nobE h
 | .callv _ _,h=>nobE h
 | .comp _ _ _ _ _,h=>nobE h
 | .one _,h=>nobE h
 | .flip _,h=>nobE h
 | .dk1 _ _,h=>nobE h
 | .seq _,h=>nobE h
 | .rng _ _,h=>nobE h
 | .enum _,h=>nobE h
 | .zip _ _,h=>nobE h
 | .rev _,h=>nobE h
 | .dwn _,h=>nobE h
 | .keys _,h=>nobE h
 | .items _,h=>nobE h
theorem VM {c:Cc}{e:E}{y:Expr}(h:chkE B c e y=true):XN y:=by
 cases y with
 | Slice lo hi st pos=>exact (JS e h).elim
 | _=>exact fun _ _=>rfl
theorem Yc {iter:Expr}(h:xm iter=true) (env:Env) (v:δ):bY iter env v=pure v:=by
 cases iter <;> first | rfl | cases h
set_option tactic.hygienic true in
theorem zfW {X:Cx}{d:D}{q:Const}{n:Nat}{pos:Pos}{c:Cc}(h:chkE B c (.con d) (.Constant q n pos)=true):∃ t,PE X (.Constant q n pos) (tC t)/\∀ g,Has Γ g d t:=by
 cases q with
 | none=>cases d <;> first | exact ⟨_,zeS,fun _=>rfl⟩ | exact nobE h
 | bool b=>cases d <;> first | (rename_i b';have e:=eq_of_beq (show (b'==b)=true from h);subst e;exact ⟨_,pe_bl,fun _=>rfl⟩) | exact nobE h
 | int b=>cases d <;> first | (rename_i b';have e:=eq_of_beq (show (b'==b)=true from h);subst e;exact ⟨_,zbl,fun _=>rfl⟩) | exact nobE h
 | str b=>cases d <;> first | (rename_i b';have e:=eq_of_beq (show (b'==b)=true from h);subst e;exact ⟨_,zbk,fun _=>rfl⟩) | exact nobE h
 | _=>cases d <;> exact nobE h
theorem jO {k0:Key}{ks:List Key}{keys:List (Option Expr)}(h:chkDk (k0::ks) keys=true):∃ q n p r,keys=some (.Constant q n p)::r/\(∀ X:Cx,PE X (.Constant q n p) (tC (kV k0)))/\chkDk ks r=true:=by
 cases keys with
 | nil=>exact nobE h
 | cons o r=>
  cases o with
  | none=>exact nobE h
  | some x=>
   have hb:Ι x.ctorIdx 19=true:=by revert h;cases x <;> first | exact non | exact fun _=>rfl
   revert h;apply jE hb;clear hb;intro q n p h
   have h:(keyC k0 q&&chkDk ks r)=true:=h
   rw [ε] at h
   refine ⟨q,n,p,r,rfl,fun X=>?_,h.2⟩
   have h1:=h.1
   cases k0 with
   | inl i=>
    cases q with
    | int j=>rw [show i=j from eq_of_beq h1];exact zbl
    | _=>exact nobE h1
   | inr i=>
    cases q with
    | str j=>rw [show i=j from eq_of_beq h1];exact zbk
    | _=>exact nobE h1
theorem Yn:∀ {ks:List Key}{keys:List (Option Expr)},chkDk ks keys=true->ks.length=keys.length/\keys.all (·.isSome)=true
 | [],[],_=>⟨rfl,rfl⟩
 | [],_::_,h=>nobE h
 | k0::ks,keys,h=>by
  obtain ⟨q,n,p,r,rfl,_,hr⟩:=jO h
  obtain ⟨a,b⟩:=Yn hr
  exact ⟨by simp [a],by simpa using b⟩
theorem Yl {c:Cc}:∀ {es:List E}{xs:List Expr},chkFs B c es xs=true->es.length=xs.length
 | [],[],_=>rfl
 | [],_::_,h=>nobE h
 | _::_,[],h=>nobE h
 | e::es,x::xs,h=>by
  have h:(chkE B c e x&&chkFs B c es xs)=true:=h
  rw [ε] at h
  simp [Yl h.2]
theorem z6 {a:Bool}(h:(a&&false)=true):False:=by
 rw [iJ] at h
 cases h
theorem Ym {c:Cc}:∀ {es:List E}{xs:List Expr},chkEs B c es xs=true->es.length=xs.length
 | [],[],_=>rfl
 | [],_::_,h=>nobE h
 | _::_,[],h=>nobE h
 | e::es,x::xs,h=>by
  have h:(chkE B c e x&&notStar x&&chkEs B c es xs)=true:=h
  rw [ε] at h
  simp [Ym h.2]
theorem zfe {c:Cc}{m:MT}{o:E}{es:List E}{f:Expr}{args:List Expr}{kws:List bM}{pos:Pos}(h:chkE B c (.mth m o es) (.Call f args kws pos)=true):
    ∃ w ap y ys,f=.Attribute w (mtS m) ap/\args=y::ys/\kws=[]/\chkE B c o w=true/\chkEs B c es (y::ys)=true/\(ap.endLine==pos.line)=true/\Zx w=true/\(y::ys).length<=9:=by
  have h:(match asAtt f with
    | some q=>q.2.1==mtS m&&chkE B c o q.1&&chkEs B c es args&&wu kws&&q.2.2.endLine==pos.line&&Zx q.1&&decide (1<=es.length)&&decide (es.length<=9)
    | none=>false)=true:=h
  cases e:asAtt f with
  | none=>rw [e] at h;cases h
  | some q=>
    rw [e] at h
    simp only [ε,decide_eq_true_eq] at h
    obtain ⟨⟨⟨⟨⟨⟨⟨h1,h2⟩,h3⟩,h4⟩,h5⟩,h6⟩,h7⟩,h8⟩:=h
    have hl:=Ym h3
    cases args with
    | nil=>simp at hl;simp [hl] at h7
    | cons y ys=>
      refine ⟨q.1,q.2.2,y,ys,?_,rfl,vU h4,h2,h3,h5,h6,by lia⟩
      rw [Vv e,eq_of_beq h1]
theorem Yk {c:Cc}:∀ {es:List E}{kws:List bM},chkKs B c es kws=true->es.length=kws.length
 | [],[],_=>rfl
 | [],_::_,h=>nobE h
 | _::_,[],h=>nobE h
 | e::es,⟨none,x,p⟩::kws,h=>nobE h
 | e::es,⟨some n,x,p⟩::kws,h=>by
  have h:(chkE B c e x&&chkKs B c es kws)=true:=h
  rw [ε] at h
  simp [Yk h.2]
theorem uD:∀ {kws:List bM}{ks:List Str},yg kws=some ks->ks.length=kws.length
 | [],ks,h=>by cases h;rfl
 | ⟨none,x,p⟩::kws,ks,h=>by cases h
 | ⟨some n,x,p⟩::kws,ks,h=>by
  have h:(yg kws).map (n::·)=some ks:=h
  cases e:yg kws with
  | none=>rw [e] at h;cases h
  | some l=>
   rw [e] at h
   cases h
   simp [uD e]
def TXr (Γ:Gm) (cf:Cf):List E->TA
 | [e]=>fun σ H Q=>TX Γ cf e σ H fun v H1=>Q [v] H1
 | es=>TXs Γ cf es
theorem zP {b:BI}{n:Str}{c:Cc}{X:Cx}{es:List E}{args:List Expr}{p pos:Pos}(ok:XOk Γ B (spN Γ cf) k X c) (hi:isI b=false) (h:(n==biS b&&B.bare.contains n&&gloK (c.names.lookup n)&&chkEs B c es args&&!es.isEmpty)=true)
  (ih:chkEs B c es args=true->PA X args (TXr Γ cf es)):PE X (.Call (.Name n p) args [] pos) (TX Γ cf (.bi b es))/\PT X (.Call (.Name n p) args [] pos) (TB Γ cf (.bi b es))/\(uI (.Call (.Name n p) args [] pos)=true->PW X (.Call (.Name n p) args [] pos) (TB Γ cf (.bi b es))):=by
 simp only [ε] at h
 obtain ⟨⟨⟨⟨h1,h2⟩,h3⟩,h4⟩,h5⟩:=h
 have e1:=eq_of_beq h1
 subst e1
 refine only ?_ rfl fun _=>rfl
 have ih:=ih h4
 have hst:=xN h4
 cases args with
 | nil=>
  cases es with
  | nil=>cases h5
  | cons _ _=>exact nobE h4
 | cons x xs=>
  refine bi_pe ok (ok.glob h3) (ok.bare _ (Ϟ.mp h2)) hst ih fun σ H Q h0=>goX h0 fun ρ S V g Hz hw w env kk=>?_
  match es,hw with
  | [],_=>cases h5
  | [e],hw=>exact ⟨ρ,S,_,g,Hz,hw,w,env,fun x v H1 g1 S1 st w1 vx h1=>by
   obtain ⟨⟨d,fr⟩,eb,q⟩:=zH h1
   obtain ⟨r,r1,r2⟩:=zbO (X:=X) (Γ:=Γ) ok.hK ok.room.gd ok.u61 ok.calm hi eb
   exact ⟨r,r1,r2 S1 H1 g1 [v] Q w1 ⟨v,[],rfl,vx.rdb w1,rfl⟩ fun u H2 g2 st2 _ w2 vo=>kk _ u H2 g2 S1 (st.trans st2) w2 ((VN.of vo).back st) q⟩⟩
  | e1::e2::es,hw=>exact ⟨ρ,S,_,g,Hz,hw,w,env,fun ds vs H1 g1 S1 st w1 hv h1=>by
   obtain ⟨⟨d,fr⟩,eb,q⟩:=zH h1
   obtain ⟨r,r1,r2⟩:=zbO (X:=X) (Γ:=Γ) ok.hK ok.room.gd ok.u61 ok.calm hi eb
   exact ⟨r,r1,r2 S1 H1 g1 vs Q w1 (Jm w1 hv) fun u H2 g2 st2 _ w2 vo=>kk _ u H2 g2 S1 (st.trans st2) w2 ((VN.of vo).back st) q⟩⟩
theorem Ub {f:Nat}{n:Str}{c:Cc}{X:Cx}{es:List E}{perm:List Nat}{kws:List bM}{p pos:Pos}(hm:Mono cf) (ok:XOk Γ B (spN Γ cf) k X c) (h:(B.fns[f]?==some n&&gloK (c.names.lookup n)&&yu n&&chkKs B c es kws&&(match yg kws,B.pars[f]? with
      | some ks,some ps=>perm.length==ps.length&&perm.all (· < ks.length)&&perm.map (fun i=>ks.getD i "")==ps&&ks.length==ps.length&&B.kws.contains (f,ks,perm)
      | _,_=>false))=true) (ih:chkKs B c es kws=true->PK X kws (TXs Γ cf es)):PE X (.Call (.Name n p) [] kws pos) (TX Γ cf (.callk f perm es)):=by
  simp only [ε] at h
  obtain ⟨⟨⟨⟨h1,h2⟩,h3⟩,h4⟩,h5⟩:=h
  cases hk:yg kws with
  | none=>rw [hk] at h5;cases h5
  | some ks=>
    cases hp:B.pars[f]? with
    | none=>rw [hk,hp] at h5;cases h5
    | some ps=>
      rw [hk,hp] at h5
      simp only [ε,beq_iff_eq,aO,decide_eq_true_eq] at h5
      obtain ⟨⟨⟨⟨g1,g2⟩,g3⟩,g4⟩,g5⟩:=h5
      exact zcl hm ok (eq_of_beq h1) (ok.glob h2) (yc h3).1 (ih h4) hk hp g1 g2 g3 g4 (Ϟ.mp g5) (by rw [Yk h4,uD hk])
theorem zaU {X:Cx}{c:Cc}{sc:dW}{js:List Nat}{xs:List Str}{t:T}{it elt:E}{ifs:List E}{cs:List Expr}{tgt iter y:Expr}{pos:Pos}(ok:XOk Γ B (spN Γ cf) k X c) (hs:chkS c sc js=true) (hn:xm iter=true) (nd:(xs++js.map (fun j=>c.N.getD j "")).Nodup)
  (hst:isNst t=false) (ht:nT t=xs.length) (hr:tIs t=Η xs.length) (hT:chkT (inner c sc xs js) t tgt=true) (hi:PI X tgt iter (TXi Γ cf it))
  (hz:∀ X,XOk Γ B (spN Γ cf) k X (inner c sc xs js)->PTs X cs (TXf Γ cf ifs)) (he:∀ X,XOk Γ B (spN Γ cf) k X (inner c sc xs js)->PE X y (TX Γ cf elt)):
  PE X (.ListComp y [⟨tgt,iter,cs,0⟩] sc pos) (TX Γ cf (.comp t js it ifs elt))/\CSet X (.ListComp y [⟨tgt,iter,cs,0⟩] sc pos) (TX Γ cf (.comp t js it ifs elt)):=by
 have okI:=fun C s3 H3 fp=>Uj ok hs nd C s3 H3 fp
 refine zaZ (Qa (xs:=xs) (tg:=tgOf X.K t) ok.calm (Vh ok hs) hi (fun C s3 H3 fp=>UL (okI C s3 H3 fp) hT) (fun C s3 H3 fp=>hz _ (okI C s3 H3 fp)) (fun C s3 H3 fp=>he _ (okI C s3 H3 fp)) (Yc hn X.env)) fun σ H Q h0=>goX h0 fun ρ S V g Hz hw w env kk=>?_
 refine zaT (X:=X) (Qe:=fun D H'=>Q (.ref D) H') hst (fun i hi=>?_) ht ?_ hw w env fun ds Da H' g' S' st w' vx q=>kk _ _ H' g' S' st w' vx q
 ·rw [hr] at hi
  rw [ht]
  exact ϫ.mp hi
 ·exact lg.of_map _ (fun a b (h:c.N.getD a ""≠c.N.getD b "") e=>h (by rw [e])) (d7.mp nd).2.1
theorem Yi {t:T}{js:List Nat}{it:E}{ifs:List E}{elt:E}{X:Cx}{c:Cc}{tgt iter y:Expr}{cs:List Expr}{kk:Int}{sc:dW}{pos:Pos}(hI:∀ X c tgt x,XOk Γ B (spN Γ cf) k X c->chkI B c it tgt x=true->PI X tgt x (TXi Γ cf it)) (hF:∀ X c xs,XOk Γ B (spN Γ cf) k X c->chkFs B c ifs xs=true->ifs.length<=1->PTs X xs (TXf Γ cf ifs)) (hE:∀ X c x,XOk Γ B (spN Γ cf) k X c->chkE B c elt x=true->PE X x (TX Γ cf elt))
    (ok:XOk Γ B (spN Γ cf) k X c) (h:chkE B c (.comp t js it ifs elt) (.ListComp y [⟨tgt,iter,cs,kk⟩] sc pos)=true):PE X (.ListComp y [⟨tgt,iter,cs,kk⟩] sc pos) (TX Γ cf (.comp t js it ifs elt))/\CSet X (.ListComp y [⟨tgt,iter,cs,kk⟩] sc pos) (TX Γ cf (.comp t js it ifs elt)):=by
  have h:(kk==0&&chkS c sc js&&chkI B c it tgt iter&&xm iter&&(match yp tgt with
    | some xs=>decide ((xs++js.map (fun j=>c.N.getD j "")).Nodup)&&nT t==xs.length&&tIs t==Η xs.length&&chkT (inner c sc xs js) t tgt&&chkE B (inner c sc xs js) elt y&&chkFs B (inner c sc xs js) ifs cs&&decide (ifs.length<=1)
    | none=>false))=true:=h
  simp only [ε] at h
  obtain ⟨⟨⟨⟨h1,h2⟩,h3⟩,h4⟩,h5⟩:=h
  have e1:=eq_of_beq h1
  subst e1
  cases ht:yp tgt with
  | none=>rw [ht] at h5;cases h5
  | some xs=>
    rw [ht] at h5
    simp only [ε] at h5
    obtain ⟨⟨⟨⟨⟨⟨h6,h7⟩,h8⟩,h9⟩,h10⟩,h11⟩,h12⟩:=h5
    have hst:isNst t=false:=by
      cases t with
      | nst i is=>
        exfalso
        cases q:asNst tgt with
        | none=>unfold chkT at h9;rw [if_pos (show isNst (.nst i is)=true from rfl),q] at h9;cases h9
        | some z=>rw [Vt q] at ht;cases ht
      | _=>rfl
    exact zaU ok h2 h4 (of_decide_eq_true h6) hst (eq_of_beq h7) (eq_of_beq h8) h9 (hI X c tgt iter ok h3) (fun X ok'=>hF X _ cs ok' h11 (of_decide_eq_true h12)) fun X ok'=>hE X _ y ok' h10
mutual
theorem sA (hcf:CfN B cf) (hm:Mono cf):∀ (e:E),SE Γ B cf k e
  | .var i=>fun X c x ok h=>by
    have hb:Ι x.ctorIdx 23=true:=by revert h;cases x <;> first | exact non | exact fun _=>rfl
    revert h;apply xX hb;clear hb;intro n pos h
    have h:(c.N[i]?==some n&&visK (c.names.lookup n)&&yu n)=true:=h
    rw [ε,ε] at h
    obtain ⟨h1,h2,_⟩:=yc h.2
    exact only (s_var (by rw [ok.N];exact eq_of_beq h.1.1) (ok.vis h.1.2) h1 h2) rfl fun _=>rfl
  | .con d=>fun X c x ok h=>by
    have hb:Ι x.ctorIdx 19=true:=by revert h;cases x <;> first | exact non | exact fun _=>rfl
    revert h;apply jE hb;clear hb;intro q n pos h
    obtain ⟨t,h1,h2⟩:=zfW (Γ:=Γ) (X:=X) h
    exact only (s_con h1 h2 fun _ _ _ q=>q) rfl fun _=>rfl
  | .glo m d=>fun X c x ok h=>by
    have hb:Ι x.ctorIdx 23=true:=by revert h;cases x <;> first | exact non | exact fun _=>rfl
    revert h;apply xX hb;clear hb;intro n pos h
    have h:((match B.consts[m]? with
      | some p=>p.1==n&&sameD p.2 d
      | none=>false)&&gloK (c.names.lookup n)&&yu n)=true:=h
    rw [ε,ε] at h
    cases e:B.consts[m]? with
    | none=>rw [e] at h;cases h.1.1
    | some q=>
      rw [e] at h
      obtain ⟨y,d'⟩:=q
      have h1:(y==n&&sameD d' d)=true:=h.1.1
      rw [ε] at h1
      have e1:=eq_of_beq h1.1
      have e2:=Wj _ _ h1.2
      subst e1 e2
      obtain ⟨u,v,g1,g2,g3⟩:=ok.consts m y d' e
      exact only (s_con (zcJ (ok.glob h.1.2) g1 g2 (yc h.2).1) g3 fun _ _ _ q=>q) rfl fun _=>rfl
  | .bin op a b=>fun X c x ok h=>by
    have hb:Ι x.ctorIdx 2=true:=by revert h;cases x <;> first | exact non | exact fun _=>rfl
    revert h;apply zc1 hb;clear hb;intro l op' r pos h
    have h:(op==op'&&chkE B c a l&&chkE B c b r)=true:=h
    rw [ε,ε] at h
    have e1:=eq_of_beq h.1.1
    subst e1
    exact only (s_bin ok.hK (sA hcf hm a X c l ok h.1.2).1 (sA hcf hm b X c r ok h.2).1) rfl fun _=>rfl
  | .neg a=>fun X c x ok h=>by
    have hb:Ι x.ctorIdx 3=true:=by revert h;cases x <;> first | exact non | exact fun _=>rfl
    revert h;apply ZG hb;clear hb;intro op l pos h
    have h:(op==PySem.UnaryOp.USub&&chkE B c a l)=true:=h
    rw [ε] at h
    have e1:=eq_of_beq h.1
    subst e1
    exact only (s_neg (sA hcf hm a X c l ok h.2).1) rfl fun _=>rfl
  | .cmp op a b=>fun X c x ok h=>by
    have hb:Ι x.ctorIdx 15=true:=by revert h;cases x <;> first | exact non | exact fun _=>rfl
    revert h;apply ZK hb;clear hb;intro l ops rs pos h
    match ops,rs,h with
    | [op'],[r],h=>
      have h:(op==op'&&chkE B c a l&&chkE B c b r&&xm r)=true:=h
      rw [ε,ε,ε] at h
      have e1:=eq_of_beq h.1.1.1
      subst e1
      have hm':behindInMarks op r=false:=by cases r <;> first | rfl | cases h.2
      have:=s_cmp (pos:=pos) ok.hK ok.u61 (sA hcf hm a X c l ok h.1.1.2).1 (sA hcf hm b X c r ok h.1.2).1 hm'
      exact ⟨this.1,this.2,fun q=>by cases q⟩
    | [],_,h=>exact nobE h
    | [_],[],h=>exact nobE h
    | [_],_::_::_,h=>exact nobE h
    | _::_::_,_,h=>exact nobE h
  | .chn o1 o2 a b d=>fun X c x ok h=>by
    have hb:Ι x.ctorIdx 15=true:=by revert h;cases x <;> first | exact non | exact fun _=>rfl
    revert h;apply ZK hb;clear hb;intro l ops rs pos h
    match ops,rs,h with
    | [p1,p2],[r1,r2],h=>
      have h:(o1==p1&&o2==p2&&chkE B c a l&&chkE B c b r1&&chkE B c d r2&&xm r2)=true:=h
      simp only [ε] at h
      obtain ⟨⟨⟨⟨⟨h1,h2⟩,h3⟩,h4⟩,h5⟩,h6⟩:=h
      have e1:=eq_of_beq h1
      have e2:=eq_of_beq h2
      subst e1 e2
      have hm':lastMarks [o1,o2] [r1,r2]=false:=by cases r2 <;> first | rfl | cases h6
      have:=s_chn (pos:=pos) ok.hK ok.u61 (sA hcf hm a X c l ok h3).1 (sA hcf hm b X c r1 ok h4).1 (sA hcf hm d X c r2 ok h5).1 hm'
      exact ⟨this.1,this.2,fun q=>by cases q⟩
    | [],_,h=>exact nobE h
    | [_],_,h=>exact nobE h
    | [_,_],[],h=>exact nobE h
    | [_,_],[_],h=>exact nobE h
    | [_,_],_::_::_::_,h=>exact nobE h
    | _::_::_::_,_,h=>exact nobE h
  | .not a=>fun X c x ok h=>by
    have hb:Ι x.ctorIdx 3=true:=by revert h;cases x <;> first | exact non | exact fun _=>rfl
    revert h;apply ZG hb;clear hb;intro op l pos h
    have h:(op==PySem.UnaryOp.Not&&chkE B c a l)=true:=h
    rw [ε] at h
    have e1:=eq_of_beq h.1
    subst e1
    obtain ⟨i1,i2,_⟩:=sA hcf hm a X c l ok h.2
    exact ⟨s_not i1,zeu i2,fun q=>by cases q⟩
  | .and a b=>fun X c x ok h=>by
    have hb:Ι x.ctorIdx 0=true:=by revert h;cases x <;> first | exact non | exact fun _=>rfl
    revert h;apply qi hb;clear hb;intro op vs pos h
    match vs,h with
    | l::r::rest,h=>
      have h:(op==oh.And&&chkE B c a l&&chkE B c b (.BoolOp .And (r::rest) pos))=true:=h
      rw [ε,ε] at h
      have e1:=eq_of_beq h.1.1
      subst e1
      obtain ⟨i1,i2,_⟩:=sA hcf hm a X c l ok h.1.2
      obtain ⟨j1,_,j3⟩:=sA hcf hm b X c _ ok h.2
      have w:=zeC i2 (j3 rfl)
      exact ⟨s_and i1 j1,w.pt,fun _=>w⟩
    | [],h=>exact nobE h
    | [_],h=>exact nobE h
  | .or a b=>fun X c x ok h=>by
    have hb:Ι x.ctorIdx 0=true:=by revert h;cases x <;> first | exact non | exact fun _=>rfl
    revert h;apply qi hb;clear hb;intro op vs pos h
    match vs,h with
    | l::r::rest,h=>
      have h:(op==oh.Or&&chkE B c a l&&chkE B c b (.BoolOp .Or (r::rest) pos))=true:=h
      rw [ε,ε] at h
      have e1:=eq_of_beq h.1.1
      subst e1
      obtain ⟨i1,i2,_⟩:=sA hcf hm a X c l ok h.1.2
      obtain ⟨j1,_,j3⟩:=sA hcf hm b X c _ ok h.2
      have w:=s_orW i2 (j3 rfl)
      exact ⟨s_or i1 j1,w.pt,fun _=>w⟩
    | [],h=>exact nobE h
    | [_],h=>exact nobE h
  | .one a=>fun X c x ok h=>by
    have hb:Ι x.ctorIdx 0=true:=by revert h;cases x <;> first | exact non | exact fun _=>rfl
    revert h;apply qi hb;clear hb;intro op vs pos h
    match vs,h with
    | [l],h=>
      obtain ⟨i1,i2,_⟩:=sA hcf hm a X c l ok (show chkE B c a l=true from h)
      exact ⟨zeQ i1,(zbb i2).pt,fun _=>zbb i2⟩
    | [],h=>exact nobE h
    | _::_::_,h=>exact nobE h
  | .ite t a b=>fun X c x ok h=>by
    have hb:Ι x.ctorIdx 5=true:=by revert h;cases x <;> first | exact non | exact fun _=>rfl
    revert h;apply zc0 hb;clear hb;intro l y z pos h
    have h:(chkE B c t l&&chkE B c a y&&chkE B c b z)=true:=h
    rw [ε,ε] at h
    obtain ⟨_,i2,_⟩:=sA hcf hm t X c l ok h.1.1
    obtain ⟨j1,j2,_⟩:=sA hcf hm a X c y ok h.1.2
    obtain ⟨k1,k2,_⟩:=sA hcf hm b X c z ok h.2
    exact ⟨s_ite i2 j1 k1,zeK i2 j2 k2,fun q=>by cases q⟩
  | .tup es=>fun X c x ok h=>by
    have hb:Ι x.ctorIdx 25=true:=by revert h;cases x <;> first | exact non | exact fun _=>rfl
    revert h;apply zcX hb;clear hb;intro xs kk pos h
    exact only (s_tup (sEs hcf hm es X c xs ok h)) rfl fun _=>rfl
  | .lst es=>fun X c x ok h=>by
    have hb:Ι x.ctorIdx 24=true:=by revert h;cases x <;> first | exact non | exact fun _=>rfl
    revert h;apply ofList hb;clear hb;intro xs pos h
    exact only (s_lst (sEs hcf hm es X c xs ok h)) rfl fun _=>rfl
  | .sub a i=>fun X c x ok h=>by
    have hb:Ι x.ctorIdx 21=true:=by revert h;cases x <;> first | exact non | exact fun _=>rfl
    revert h;apply uv hb;clear hb;intro l y pos h
    have h:(chkE B c a l&&chkE B c i y)=true:=h
    rw [ε] at h
    exact only (s_sub ok.hK ok.u1 (sA hcf hm a X c l ok h.1).1 (sA hcf hm i X c y ok h.2).1 (VM h.2)) rfl fun _=>rfl
  | .slc a lo hi=>fun X c x ok h=>by
    have hb:Ι x.ctorIdx 21=true:=by revert h;cases x <;> first | exact non | exact fun _=>rfl
    revert h;apply uv hb;clear hb;intro l y pos h
    have hb:Ι y.ctorIdx 26=true:=by revert h;cases y <;> first | exact non | exact fun _=>rfl
    revert h;apply zcY hb;clear hb;intro lo' hi' st p2 h
    cases st with
    | none=>
      have h:(chkE B c a l&&chkO B c lo lo'&&chkO B c hi hi')=true:=h
      rw [ε,ε] at h
      exact only (s_slc ok.hK (sA hcf hm a X c l ok h.1.1).1 (sO hcf hm lo X c lo' ok h.1.2) (sO hcf hm hi X c hi' ok h.2)) rfl fun _=>rfl
    | some _=>exact nobE h
  | .bi b es=>fun X c x ok h=>by
    have hb:Ι x.ctorIdx 16=true:=by revert h;cases x <;> first | exact non | exact fun _=>rfl
    revert h;apply ux hb;clear hb;intro f args kws pos h
    have hb:Ι f.ctorIdx 23=true:=by revert h;cases f <;> first | exact non | exact fun _=>rfl
    revert h;apply xX hb;clear hb;intro n p h
    cases kws with
    | nil=>
      cases b with
      | isinst t=>
        match es,args,h with
        | [],_,h=>exact (z6 (show (_&&false)=true from h)).elim
        | _::_::_,_,h=>exact (z6 (show (_&&false)=true from h)).elim
        | [_],[],h=>exact (z6 (show (_&&false)=true from h)).elim
        | [_],[_],h=>exact (z6 (show (_&&false)=true from h)).elim
        | [_],_::z::_::_,h=>cases z <;> exact (z6 (show (_&&false)=true from h)).elim
        | [e],[y,z],h=>
          cases z with
          | Name z pz=>
            have h:(n==("isinstance":Str)&&B.bare.contains n&&B.bare.contains (tyN t)&&gloK (c.names.lookup n)&&(chkE B c e y&&notStar y&&z==tyN t&&gloK (c.names.lookup z)))=true:=h
            simp only [ε] at h
            obtain ⟨⟨⟨⟨h1,h2⟩,h3⟩,h4⟩,⟨⟨h5,h6⟩,h7⟩,h8⟩:=h
            have e1:=eq_of_beq h1
            have e2:=eq_of_beq h7
            subst e1 e2
            exact only (s_is ok (ok.glob h4) (ok.bare _ (Ϟ.mp h2)) (ok.glob h8) (ok.bare _ (Ϟ.mp h3)) h6 (sA hcf hm e X c y ok h5).1) rfl fun _=>rfl
          | _=>exact (z6 (show (_&&false)=true from h)).elim
      | len=>exact zP ok rfl (show (n==biS .len&&B.bare.contains n&&gloK (c.names.lookup n)&&chkEs B c es args&&!es.isEmpty)=true from h) fun q=>sRs hcf hm es X c args ok q
      | abs=>exact zP ok rfl (show (n==biS .abs&&B.bare.contains n&&gloK (c.names.lookup n)&&chkEs B c es args&&!es.isEmpty)=true from h) fun q=>sRs hcf hm es X c args ok q
      | int=>exact zP ok rfl (show (n==biS .int&&B.bare.contains n&&gloK (c.names.lookup n)&&chkEs B c es args&&!es.isEmpty)=true from h) fun q=>sRs hcf hm es X c args ok q
      | str=>exact zP ok rfl (show (n==biS .str&&B.bare.contains n&&gloK (c.names.lookup n)&&chkEs B c es args&&!es.isEmpty)=true from h) fun q=>sRs hcf hm es X c args ok q
      | tuple=>exact zP ok rfl (show (n==biS .tuple&&B.bare.contains n&&gloK (c.names.lookup n)&&chkEs B c es args&&!es.isEmpty)=true from h) fun q=>sRs hcf hm es X c args ok q
      | list=>exact zP ok rfl (show (n==biS .list&&B.bare.contains n&&gloK (c.names.lookup n)&&chkEs B c es args&&!es.isEmpty)=true from h) fun q=>sRs hcf hm es X c args ok q
      | sum=>exact zP ok rfl (show (n==biS .sum&&B.bare.contains n&&gloK (c.names.lookup n)&&chkEs B c es args&&!es.isEmpty)=true from h) fun q=>sRs hcf hm es X c args ok q
      | all=>exact zP ok rfl (show (n==biS .all&&B.bare.contains n&&gloK (c.names.lookup n)&&chkEs B c es args&&!es.isEmpty)=true from h) fun q=>sRs hcf hm es X c args ok q
      | any=>exact zP ok rfl (show (n==biS .any&&B.bare.contains n&&gloK (c.names.lookup n)&&chkEs B c es args&&!es.isEmpty)=true from h) fun q=>sRs hcf hm es X c args ok q
      | min2=>exact zP ok rfl (show (n==biS .min2&&B.bare.contains n&&gloK (c.names.lookup n)&&chkEs B c es args&&!es.isEmpty)=true from h) fun q=>sRs hcf hm es X c args ok q
      | max2=>exact zP ok rfl (show (n==biS .max2&&B.bare.contains n&&gloK (c.names.lookup n)&&chkEs B c es args&&!es.isEmpty)=true from h) fun q=>sRs hcf hm es X c args ok q
      | sorted=>exact zP ok rfl (show (n==biS .sorted&&B.bare.contains n&&gloK (c.names.lookup n)&&chkEs B c es args&&!es.isEmpty)=true from h) fun q=>sRs hcf hm es X c args ok q
      | repr=>exact zP ok rfl (show (n==biS .repr&&B.bare.contains n&&gloK (c.names.lookup n)&&chkEs B c es args&&!es.isEmpty)=true from h) fun q=>sRs hcf hm es X c args ok q
      | dict=>exact zP ok rfl (show (n==biS .dict&&B.bare.contains n&&gloK (c.names.lookup n)&&chkEs B c es args&&!es.isEmpty)=true from h) fun q=>sRs hcf hm es X c args ok q
      | sset=>
        match es,args,h with
        | [],_,h=>exact (z6 (show (_&&false)=true from h)).elim
        | _::_::_,_,h=>exact (z6 (show (_&&false)=true from h)).elim
        | [_],[],h=>exact (z6 (show (_&&false)=true from h)).elim
        | [_],_::_::_,h=>exact (z6 (show (_&&false)=true from h)).elim
        | [e],[z],h=>
          have h9:(n==("sorted":Str)&&B.bare.contains n&&gloK (c.names.lookup n)&&(match wR z with
            | some (y,u)=>y==("set":Str)&&B.bare.contains y&&gloK (c.names.lookup y)&&chkE B c e u&&notStar u
            | none=>false))=true:=h
          cases hz:wR z with
          | none=>rw [hz] at h9;exact (z6 h9).elim
          | some q=>
            obtain ⟨y,u⟩:=q
            rw [hz] at h9
            obtain ⟨py,pu,rfl⟩:=Zh hz
            simp only [ε] at h9
            obtain ⟨⟨⟨h1,h2⟩,h3⟩,⟨⟨⟨h4,h5⟩,h6⟩,h7⟩,h8⟩:=h9
            have e1:=eq_of_beq h1
            have e2:=eq_of_beq h4
            subst e1 e2
            exact only (zel ok (ok.glob h6) (ok.bare _ (Ϟ.mp h5)) (ok.glob h3) (ok.bare _ (Ϟ.mp h2)) h8 (sA hcf hm e X c u ok h7).1) rfl fun _=>rfl
      | lset=>exact nobE h
      | trev=>
        match es,args,h with
        | [],_,h=>exact (z6 (show (_&&false)=true from h)).elim
        | _::_::_,_,h=>exact (z6 (show (_&&false)=true from h)).elim
        | [_],[],h=>exact (z6 (show (_&&false)=true from h)).elim
        | [_],_::_::_,h=>exact (z6 (show (_&&false)=true from h)).elim
        | [e],[z],h=>
          have h9:(n==("tuple":Str)&&B.bare.contains n&&gloK (c.names.lookup n)&&(match wR z with
            | some (y,u)=>y==("reversed":Str)&&B.bare.contains y&&gloK (c.names.lookup y)&&chkE B c e u&&notStar u
            | none=>false))=true:=h
          cases hz:wR z with
          | none=>rw [hz] at h9;exact (z6 h9).elim
          | some q=>
            obtain ⟨y,u⟩:=q
            rw [hz] at h9
            obtain ⟨py,pu,rfl⟩:=Zh hz
            simp only [ε] at h9
            obtain ⟨⟨⟨h1,h2⟩,h3⟩,⟨⟨⟨h4,h5⟩,h6⟩,h7⟩,h8⟩:=h9
            have e1:=eq_of_beq h1
            have e2:=eq_of_beq h4
            subst e1 e2
            exact only (zej ok (ok.glob h6) (ok.bare _ (Ϟ.mp h5)) (ok.glob h3) (ok.bare _ (Ϟ.mp h2)) h8 (sA hcf hm e X c u ok h7).1) rfl fun _=>rfl
    | cons _ _=>exact nobE h
  | .call f es=>fun X c x ok h=>by
    have hb:Ι x.ctorIdx 16=true:=by revert h;cases x <;> first | exact non | exact fun _=>rfl
    revert h;apply ux hb;clear hb;intro q args kws pos h
    have hb:Ι q.ctorIdx 23=true:=by revert h;cases q <;> first | exact non | exact fun _=>rfl
    revert h;apply xX hb;clear hb;intro n p h
    cases kws with
    | nil=>
      have h:(B.fns[f]?==some n&&gloK (c.names.lookup n)&&yu n&&chkEs B c es args&&!es.isEmpty)=true:=h
      simp only [ε] at h
      obtain ⟨⟨⟨⟨h1,h2⟩,h3⟩,h4⟩,h5⟩:=h
      cases args with
      | nil=>
        cases es with
        | nil=>cases h5
        | cons _ _=>exact nobE h4
      | cons y ys=>exact only (s_call hcf ok (eq_of_beq h1) (ok.glob h2) (yc h3).1 (xN h4) (sEs hcf hm es X c (y::ys) ok h4)) rfl fun _=>rfl
    | cons _ _=>exact nobE h
  | .callk f perm es=>fun X c x ok h=>by
    have hb:Ι x.ctorIdx 16=true:=by revert h;cases x <;> first | exact non | exact fun _=>rfl
    revert h;apply ux hb;clear hb;intro q args kws pos h
    have hb:Ι q.ctorIdx 23=true:=by revert h;cases q <;> first | exact non | exact fun _=>rfl
    revert h;apply xX hb;clear hb;intro n p h
    cases args with
    | nil=>
      refine only (Ub hm ok ?_ fun q=>sKs hcf hm es X c kws ok q) rfl fun _=>rfl
      cases kws <;> exact h
    | cons _ _=>exact nobE h
  | .comp t js it ifs elt=>fun X c x ok h=>by
    have hb:Ι x.ctorIdx 8=true:=by revert h;cases x <;> first | exact non | exact fun _=>rfl
    revert h;apply jD hb;clear hb;intro y gens sc pos h
    match gens,h with
    | [⟨tgt,iter,cs,kk⟩],h=>exact only (Yi (fun X c tgt x ok q=>sI hcf hm it X c tgt x ok q) (fun X c xs ok q l=>sFs hcf hm ifs X c xs ok q l) (fun X c x ok q=>(sA hcf hm elt X c x ok q).1) ok h).1 rfl fun _=>rfl
    | [],h=>exact nobE h
    | ⟨_,_,_,_⟩::⟨_,_,_,_⟩::_,h=>exact nobE h
  | .box e=>fun X c x ok h=>by
    have h:(Jr x&&chkE B c e x)=true:=h
    rw [ε] at h
    have pe:PE X x (TX Γ cf (.box e)):=((sA hcf hm e X c x ok h.2).1).imp fun σ H Q ⟨ρ,S,V,g,Hz,hw,w,env,kk⟩=>⟨ρ,S,_,g,Hz,hw,w,env,fun y v H1 g1 S1 st w1 vx q=>by
      obtain ⟨d,k⟩:=y
      cases k with
      | fr=>
        obtain ⟨g2,s2,w2,h2⟩:=boxed st w1 vx
        exact kk (.ref S1.length,.st) v H1 g2 _ s2 w2 h2 q
      | _=>exact q.elim⟩
    have hp:=h.1
    cases x <;> first | exact only pe rfl fun _=>rfl | exact nobE hp
  | .dic tk ks es=>fun X c x ok h=>by
    have hb:Ι x.ctorIdx 6=true:=by revert h;cases x <;> first | exact non | exact fun _=>rfl
    revert h;apply zbr hb;clear hb;intro keys vals pos h
    have h:(chkDk ks keys&&chkFs B c es vals&&decide (ks.length=es.length)&&decide (ks.length<=15))=true:=h
    simp only [ε,decide_eq_true_eq] at h
    obtain ⟨⟨⟨h1,h2⟩,h3⟩,h4⟩:=h
    refine only ?_ rfl fun _=>rfl
    cases ks with
    | nil=>
      cases keys with
      | cons _ _=>exact nobE h1
      | nil=>
        cases es with
        | cons _ _=>cases h3
        | nil=>
          cases vals with
          | cons _ _=>exact nobE h2
          | nil=>
            cases tk with
            | true=>exact zci (ks:=[])
            | false=>exact zcj
    | cons k0 ks=>
      have hps:=sPs (pos:=pos) hcf hm es X c vals (k0::ks) keys ok h2 h1 h3
      obtain ⟨l1,l2⟩:=Yn h1
      have l3:=Yl h2
      have hd:=zeA hps l2 (by rw [<- l1,h3,l3]) (fun z=>by rw [z] at l1;cases l1) (by rw [<- l1];exact h4)
      cases tk with
      | false=>exact hd
      | true=>exact hd.imp fun σ H Q ⟨ρ,S,V,g,Hz,hw,w,env,kk⟩=>⟨ρ,S,V,g,Hz,zB hm es (fun ds S1 q=>by
        obtain ⟨hq,_⟩:=xM q
        unfold dicOk at hq
        simp at hq) hw,w,env,kk⟩
  | .mth m o es=>fun X c x ok h=>by
    have hb:Ι x.ctorIdx 16=true:=by revert h;cases x <;> first | exact non | exact fun _=>rfl
    revert h;apply ux hb;clear hb;intro f args kws pos h
    obtain ⟨w,ap,y,ys,rfl,rfl,rfl,h1,h2,h3,h4,h5⟩:=zfe h
    exact only (s_mth ok (sA hcf hm o X c w ok h1).1 (xN h2) (sEs hcf hm es X c (y::ys) ok h2) h3 h4 h5) rfl fun _=>rfl
  | .flip e=>fun X c x ok h=>nobE h
  | .dk1 a b=>fun X c x ok h=>by
    have hb:Ι x.ctorIdx 6=true:=by revert h;cases x <;> first | exact non | exact fun _=>rfl
    revert h;apply zbr hb;clear hb;intro keys vals pos h
    match keys,vals,h with
    | [some k],[v],h=>
      have h:(chkE B c a k&&chkE B c b v)=true:=h
      rw [ε] at h
      exact only (zck (by have:=ok.u61;omega) (sA hcf hm a X c k ok h.1).1 (sA hcf hm b X c v ok h.2).1) rfl fun _=>rfl
  | .callv i es=>fun X c x ok h=>nobE h
  | .seq _=>fun X c x ok h=>none_of fun _ _ _ q=>q
  | .rng _ _=>fun X c x ok h=>none_of fun _ _ _ q=>q
  | .enum _=>fun X c x ok h=>none_of fun _ _ _ q=>q
  | .zip _ _=>fun X c x ok h=>none_of fun _ _ _ q=>q
  | .rev _=>fun X c x ok h=>none_of fun _ _ _ q=>q
  | .dwn _=>fun X c x ok h=>none_of fun _ _ _ q=>q
  | .keys _=>fun X c x ok h=>none_of fun _ _ _ q=>q
  | .items _=>fun X c x ok h=>none_of fun _ _ _ q=>q
theorem sRs (hcf:CfN B cf) (hm:Mono cf):∀ (es:List E) (X:Cx) (c:Cc) (xs:List Expr),XOk Γ B (spN Γ cf) k X c->chkEs B c es xs=true->PA X xs (TXr Γ cf es)
 | [],X,c,xs,ok,h=>by
  cases xs with
  | nil=>exact s_nil
  | cons _ _=>exact nobE h
 | [e],X,c,xs,ok,h=>by
  cases xs with
  | nil=>exact nobE h
  | cons x xs=>
   have h:(chkE B c e x&&notStar x&&chkEs B c [] xs)=true:=h
   rw [ε,ε] at h
   cases xs with
   | nil=>exact yf (sA hcf hm e X c x ok h.1.1).1 xW (zb h.1.2 _ _)
   | cons _ _=>exact nobE h.2
 | e::f::es,X,c,xs,ok,h=>by
  cases xs with
  | nil=>exact nobE h
  | cons x xs=>
   have h:(chkE B c e x&&notStar x&&chkEs B c (f::es) xs)=true:=h
   rw [ε,ε] at h
   exact zbc h.1.2 (sA hcf hm e X c x ok h.1.1).1 (sEs hcf hm (f::es) X c xs ok h.2)
theorem sEs (hcf:CfN B cf) (hm:Mono cf):∀ (es:List E) (X:Cx) (c:Cc) (xs:List Expr),XOk Γ B (spN Γ cf) k X c->chkEs B c es xs=true->PA X xs (TXs Γ cf es)
 | [],X,c,xs,ok,h=>by
  cases xs with
  | nil=>exact s_nil
  | cons _ _=>exact nobE h
 | e::es,X,c,xs,ok,h=>by
  cases xs with
  | nil=>exact nobE h
  | cons x xs=>
   have h:(chkE B c e x&&notStar x&&chkEs B c es xs)=true:=h
   rw [ε,ε] at h
   exact zbc h.1.2 (sA hcf hm e X c x ok h.1.1).1 (sEs hcf hm es X c xs ok h.2)
theorem sPs {pos:Pos}(hcf:CfN B cf) (hm:Mono cf):∀ (es:List E) (X:Cx) (c:Cc) (vals:List Expr) (ks:List Key) (keys:List (Option Expr)),XOk Γ B (spN Γ cf) k X c->chkFs B c es vals=true->chkDk ks keys=true->ks.length=es.length->PPd X pos keys vals ks (TXs Γ cf es)
 | [],X,c,vals,ks,keys,ok,h,hk,hl=>by
  cases vals with
  | cons _ _=>exact nobE h
  | nil=>
   cases ks with
   | cons _ _=>cases hl
   | nil=>
    cases keys with
    | cons _ _=>exact nobE hk
    | nil=>exact zes
 | a::es,X,c,vals,ks,keys,ok,h,hk,hl=>by
  cases vals with
  | nil=>exact nobE h
  | cons x vals=>
   have h:(chkE B c a x&&chkFs B c es vals)=true:=h
   rw [ε] at h
   cases ks with
   | nil=>cases hl
   | cons k0 ks=>
    obtain ⟨q,n,p,r,rfl,hc,hr⟩:=jO hk
    exact zcg (hc X) (sA hcf hm a X c x ok h.1).1 (sPs hcf hm es X c vals ks r ok h.2 hr (by simpa using hl))
theorem sKs (hcf:CfN B cf) (hm:Mono cf):∀ (es:List E) (X:Cx) (c:Cc) (kws:List bM),XOk Γ B (spN Γ cf) k X c->chkKs B c es kws=true->PK X kws (TXs Γ cf es)
 | [],X,c,xs,ok,h=>by
  cases xs with
  | nil=>exact zew
  | cons _ _=>exact nobE h
 | e::es,X,c,xs,ok,h=>by
  cases xs with
  | nil=>exact nobE h
  | cons q xs=>
   obtain ⟨n,x,kp⟩:=q
   cases n with
   | none=>exact nobE h
   | some n=>
    have h:(chkE B c e x&&chkKs B c es xs)=true:=h
    rw [ε] at h
    exact zch (sA hcf hm e X c x ok h.1).1 (sKs hcf hm es X c xs ok h.2)
theorem sI (hcf:CfN B cf) (hm:Mono cf):∀ (e:E) (X:Cx) (c:Cc) (tgt x:Expr),XOk Γ B (spN Γ cf) k X c->chkI B c e tgt x=true->PI X tgt x (TXi Γ cf e)
 | .seq e,X,c,tgt,x,ok,h=>s_seq ok.hK (sA hcf hm e X c x ok h).1
 | .keys e,X,c,tgt,x,ok,h=>zex (sA hcf hm e X c x ok h).1
 | .rng none hi,X,c,tgt,x,ok,h=>by
  have hb:Ι x.ctorIdx 16=true:=by revert h;cases x <;> first | exact non | exact fun _=>rfl
  revert h;apply ux hb;clear hb;intro q args kws pos h
  have hb:Ι q.ctorIdx 23=true:=by revert h;cases q <;> first | exact non | exact fun _=>rfl
  revert h;apply xX hb;clear hb;intro n p h
  cases kws with
  | nil=>
   match args,h with
   | [y],h=>
    have h:(n==("range":Str)&&B.bare.contains n&&gloK (c.names.lookup n)&&chkE B c hi y&&notStar y)=true:=h
    simp only [ε] at h
    obtain ⟨⟨⟨⟨h1,h2⟩,h3⟩,h4⟩,h5⟩:=h
    have e1:=eq_of_beq h1
    subst e1
    exact zep (ok.glob h3) (ok.bare _ (Ϟ.mp h2)) h5 (sA hcf hm hi X c y ok h4).1
   | [],h=>exact nobE h
   | _::_::_,h=>exact nobE h
  | cons _ _=>rcases args with _ | ⟨_,_ | ⟨_,_ | ⟨_,_⟩⟩⟩ <;> exact nobE h
 | .rng (some _) _,X,c,tgt,x,ok,h=>nobE h
 | .enum e,X,c,tgt,x,ok,h=>by
  have hb:Ι x.ctorIdx 16=true:=by revert h;cases x <;> first | exact non | exact fun _=>rfl
  revert h;apply ux hb;clear hb;intro q args kws pos h
  have hb:Ι q.ctorIdx 23=true:=by revert h;cases q <;> first | exact non | exact fun _=>rfl
  revert h;apply xX hb;clear hb;intro n p h
  cases kws with
  | nil=>
   match args,h with
   | [y],h=>
    have h:(zbE tgt&&n==("enumerate":Str)&&B.bare.contains n&&gloK (c.names.lookup n)&&chkE B c e y&&notStar y)=true:=h
    simp only [ε] at h
    obtain ⟨⟨⟨⟨⟨h0,h1⟩,h2⟩,h3⟩,h4⟩,h5⟩:=h
    have e1:=eq_of_beq h1
    subst e1
    cases tgt with
    | Tuple elts kk tp=>exact zez ok.hK (ok.glob h3) (ok.bare _ (Ϟ.mp h2)) h5 (sA hcf hm e X c y ok h4).1
    | _=>exact nobE h0
   | [],h=>exact nobE h
   | _::_::_,h=>exact nobE h
  | cons _ _=>rcases args with _ | ⟨_,_ | ⟨_,_⟩⟩ <;> exact nobE h
 | .var _,X,c,tgt,x,ok,h=>nobE h
 | .con _,X,c,tgt,x,ok,h=>nobE h
 | .glo _ _,X,c,tgt,x,ok,h=>nobE h
 | .bin _ _ _,X,c,tgt,x,ok,h=>nobE h
 | .neg _,X,c,tgt,x,ok,h=>nobE h
 | .cmp _ _ _,X,c,tgt,x,ok,h=>nobE h
 | .chn _ _ _ _ _,X,c,tgt,x,ok,h=>nobE h
 | .not _,X,c,tgt,x,ok,h=>nobE h
 | .and _ _,X,c,tgt,x,ok,h=>nobE h
 | .or _ _,X,c,tgt,x,ok,h=>nobE h
 | .ite _ _ _,X,c,tgt,x,ok,h=>nobE h
 | .tup _,X,c,tgt,x,ok,h=>nobE h
 | .lst _,X,c,tgt,x,ok,h=>nobE h
 | .dic _ _ _,X,c,tgt,x,ok,h=>nobE h
 | .sub _ _,X,c,tgt,x,ok,h=>nobE h
 | .slc _ _ _,X,c,tgt,x,ok,h=>nobE h
 | .bi _ _,X,c,tgt,x,ok,h=>nobE h
 | .mth _ _ _,X,c,tgt,x,ok,h=>nobE h
 | .call _ _,X,c,tgt,x,ok,h=>nobE h
 | .callk _ _ _,X,c,tgt,x,ok,h=>nobE h
 | .callv _ _,X,c,tgt,x,ok,h=>nobE h
 | .comp _ _ _ _ _,X,c,tgt,x,ok,h=>nobE h
 | .box _,X,c,tgt,x,ok,h=>nobE h
 | .one _,X,c,tgt,x,ok,h=>nobE h
 | .flip _,X,c,tgt,x,ok,h=>nobE h
 | .dk1 _ _,X,c,tgt,x,ok,h=>nobE h
 | .zip _ _,X,c,tgt,x,ok,h=>nobE h
 | .dwn es,X,c,tgt,x,ok,h=>by
  have hb:Ι x.ctorIdx 16=true:=by revert h;cases x <;> first | exact non | exact fun _=>rfl
  revert h;apply ux hb;clear hb;intro q args kws pos h
  have hb:Ι q.ctorIdx 23=true:=by revert h;cases q <;> first | exact non | exact fun _=>rfl
  revert h;apply xX hb;clear hb;intro n p h
  cases kws with
  | cons _ _=>exact nobE h
  | nil=>
   have h:(n==("range":Str)&&B.bare.contains n&&gloK (c.names.lookup n)&&decide (args.length=3)&&chkEs B c es args)=true:=h
   simp only [ε] at h
   obtain ⟨⟨⟨⟨h1,h2⟩,h3⟩,h4⟩,h5⟩:=h
   have e1:=eq_of_beq h1
   subst e1
   exact s_dwn (ok.glob h3) (ok.bare _ (Ϟ.mp h2)) (xN h5) (of_decide_eq_true h4) (sEs hcf hm es X c args ok h5)
 | .rev hi,X,c,tgt,x,ok,h=>nobE h
 | .items e,X,c,tgt,x,ok,h=>nobE h
theorem sFs (hcf:CfN B cf) (hm:Mono cf):∀ (es:List E) (X:Cx) (c:Cc) (xs:List Expr),XOk Γ B (spN Γ cf) k X c->chkFs B c es xs=true->es.length<=1->PTs X xs (TXf Γ cf es)
 | [],X,c,xs,ok,h,_=>by
  cases xs with
  | nil=>exact s_fn
  | cons _ _=>exact nobE h
 | [e],X,c,xs,ok,h,_=>by
  cases xs with
  | nil=>exact nobE h
  | cons x xs=>
   have h:(chkE B c e x&&chkFs B c [] xs)=true:=h
   rw [ε] at h
   cases xs with
   | nil=>exact s_f1 (sA hcf hm e X c x ok h.1).2.1
   | cons _ _=>cases (show false=true from h.2)
 | _::_::_,X,c,xs,ok,h,hl=>by
  exfalso
  simp at hl
theorem sO (hcf:CfN B cf) (hm:Mono cf):∀ (o:Option E) (X:Cx) (c:Cc) (x:Option Expr),XOk Γ B (spN Γ cf) k X c->chkO B c o x=true->PO X x (TXo Γ cf o)
 | none,X,c,x,ok,h=>by
  cases x with
  | none=>exact s_poN
  | some _=>exact nobE h
 | some o,X,c,x,ok,h=>by
  cases x with
  | none=>exact nobE h
  | some x=>exact s_po (sA hcf hm o X c x ok h).1
end
theorem sCS (hcf:CfN B cf) (hm:Mono cf) {t:T}{js:List Nat}{it:E}{ifs:List E}{elt:E}{X:Cx}{c:Cc}{x:Expr}(ok:XOk Γ B (spN Γ cf) k X c) (h:chkE B c (.comp t js it ifs elt) x=true):CSet X x (TX Γ cf (.comp t js it ifs elt)):=by
 have hb:Ι x.ctorIdx 8=true:=by revert h;cases x <;> first | exact non | exact fun _=>rfl
 revert h;apply jD hb;clear hb;intro y gens sc pos h
 match gens,h with
 | [⟨tgt,iter,cs,kk⟩],h=>exact (Yi (sI hcf hm it) (sFs hcf hm ifs) (fun X c x ok q=>(sA hcf hm elt X c x ok q).1) ok h).2
 | [],h=>exact nobE h
 | ⟨_,_,_,_⟩::⟨_,_,_,_⟩::_,h=>exact nobE h
end
section
variable {X:Cx}{Γ:Gm}{Hz H:Hp}{gz g:G}{ρ:List Slot}{σ:L2.St}{S:Store}{x:Expr}{a:Addr}
theorem EnvO.updOw {i:Nat}{c c':D}{o':HO}(env:EnvO Γ Hz H g ρ σ) (hi:ρ[i]?=some (.ow c)) (ha:σ[i]?=some (some (.ref a))) (hc:zK Γ (upd H a o') g a c') (hin:isIns c'=false):EnvO Γ Hz (upd H a o') g (ρ.set i (.ow c')) σ:=by
 obtain ⟨a',e1,e2,e3,e4,e5,e6⟩:=env.ow i c hi
 rw [ha] at e1
 cases e1
 refine ⟨by rw [bT];exact env.len,fun j e q=>?_,fun j e q=>?_,fun j j' e e' b q1 q2 q3 q4=>?_⟩
 ·rcases zy q with ⟨rfl,h1,h2⟩ | ⟨h1,h2⟩
  ·cases h2
  ·exact env.sh j e h2
 ·rcases zy q with ⟨rfl,h1,h2⟩ | ⟨h1,h2⟩
  ·cases h2
   exact ⟨a,ha,e2,e3,e4,hc,hin⟩
  ·obtain ⟨b,f1,f2,f3,f4,f5,f6⟩:=env.ow j e h2
   have hb:b≠a:=by
    rintro rfl
    exact h1 (env.inj i j c e b hi h2 ha f1)
   exact ⟨b,f1,f2,f3,f4,f5.mono (Le.refl g) fun o z=>by rw [zc hb];exact z,f6⟩
 ·have ow:∀ {j:Nat}{e:D},(ρ.set i (Slot.ow c'))[j]?=some (.ow e)->∃ e,ρ[j]?=some (.ow e):=fun {j e} q=>by
   rcases zy q with ⟨rfl,h1,h2⟩ | ⟨h1,h2⟩
   ·exact ⟨c,hi⟩
   ·exact ⟨e,h2⟩
  obtain ⟨_,w1⟩:=ow q1
  obtain ⟨_,w2⟩:=ow q2
  exact env.inj j j' _ _ b w1 w2 q3 q4
theorem EnvO.zbV {o':HO}(env:EnvO Γ Hz H g ρ σ) (ha:a∈g.α):EnvO Γ Hz (upd H a o') g ρ σ:=by
 refine ⟨env.len,env.sh,fun i d h=>?_,env.inj⟩
 obtain ⟨b,f1,f2,f3,f4,f5,f6⟩:=env.ow i d h
 have hb:b≠a:=by
  rintro rfl
  exact f4 ha
 exact ⟨b,f1,f2,f3,f4,f5.mono (Le.refl g) fun o z=>by rw [zc hb];exact z,f6⟩
theorem Step.vY {H':Hp}{g':G}{o':HO}(s:Step H g H' g') (ha:a∈g'.α):Step H g (upd H' a o') g' where
 le:=s.le
 fr:=fun b u e n=>by
  have hb:b≠a:=by
   rintro rfl
   rcases s.na b ha with q | q
   ·exact n q
   ·rw [e] at q;cases q
  rw [zc hb];exact s.fr b u e n
 ex:=fun b u e=>by
  by_cases hb:b=a
  ·subst hb
   exact ⟨o',zj⟩
  ·rw [zc hb];exact s.ex b u e
 na:=s.na
 nr:=s.nr
theorem WOk.vY {o':HO}{n:Nat}{c c':D}(w:WOk Γ H g S) (he:S[n]?=some c) (hg:gone c=false) (hn:g.α[n]?=some a) (hc:zK Γ (upd H a o') g a c'):WOk Γ (upd H a o') g (S.set n c') where
 rh:=fun b u q=>by
  have hb:b≠a:=by
   rintro rfl
   rw [w.off n c b he hn hg] at q;cases q
  rw [zc hb];exact w.rh b u q
 len:=by rw [bT];exact w.len
 nd:=w.nd
 off:=fun k d b h1 h2 h3=>by
  rcases zy h1 with ⟨rfl,z1,rfl⟩ | ⟨z1,z2⟩
  ·rw [hn] at h2
   cases h2
   exact w.off _ c _ he hn hg
  ·exact w.off k d b z2 h2 h3
 cell:=fun k c b h1 h2=>by
  rcases zy h1 with ⟨rfl,z1,rfl⟩ | ⟨z1,z2⟩
  ·rw [hn] at h2
   cases h2
   exact hc
  ·have hb:b≠a:=by
    rintro rfl
    exact z1 ((nodup_inj w.nd hn h2))
   exact (w.cell k c b z2 h2).mono (Le.refl g) fun o z=>by rw [zc hb];exact z
where
 nodup_inj:∀ {l:List Addr}{i j:Nat}{b:Addr},l.Nodup->l[i]?=some b->l[j]?=some b->i=j:=fun {l i j b} nd h1 h2=>by
  have hi:=(π.mp h1).1
  have hj:=(π.mp h2).1
  have e:l[i]?=l[j]?:=by rw [h1,h2]
  exact (pM hi nd).mp e
theorem size_of {n:Nat}(h:fits (n+1)=true):n < sizeLine:=by
 have:=yw h
 lia
theorem KR {env:Env}{cpos:Pos}(hs:notStar x=true):((dB cpos (Ϝ [x] env)).all (fun x=>!x.1)&&(cY cpos (bf [] env)).all (fun x=>x.1.isSome)
  &&decide (([x]:List Expr).length+([]:List bM).length+(if ([]:List bM).isEmpty then 0 else 1) < 30))=true:=by
 rw [zb hs]
 rfl
end
section
variable {κ:Type} [DecidableEq κ]
theorem WX {α:Type}:∀ (ks:List κ) (ds:List α) (k:κ) (d:α),(mapK ks ds k d).length=ds.length
 | [],ds,_,_=>by cases ds <;> rfl
 | _::_,[],_,_=>rfl
 | a::ks,b::ds,k,d=>by simp [mapK,WX ks ds k d]
theorem Ui:∀ (ks:List κ) (vs:List V) (k:κ),ks.length=vs.length->((ks.zip vs).any fun kv=>decide (kv.1=k))=hasK ks k
 | [],[],_,_=>rfl
 | a::ks,v::vs,k,h=>by
  have:=Ui ks vs k (by simpa using h)
  unfold hasK at this ⊢
  simp only [cz,eX,this]
 | [],_::_,_,h=>by simp at h
 | _::_,[],_,h=>by simp at h
theorem Uh:∀ (ks:List κ) (vs:List V) (k:κ) (v:V),(ks.zip vs).map (fun kv=>if kv.1=k then (kv.1,v) else kv)=ks.zip (mapK ks vs k v)
 | [],vs,_,_=>by cases vs <;> rfl
 | _::_,[],_,_=>rfl
 | a::ks,u::vs,k,v=>by
  have:=Uh ks vs k v
  simp only [cz,ϟ,this,mapK]
  by_cases h:a=k
  ·simp [h]
  ·simp [h]
theorem Wz {ks:List κ}{vs:List V}{k:κ}{v:V}(h:ks.length=vs.length):putK (ks.zip vs) k v=(putKs ks vs k v).1.zip (putKs ks vs k v).2:=by
 unfold putK putKs
 rw [Ui ks vs k h]
 by_cases q:hasK ks k=true
 ·rw [if_pos q,if_pos q,Uh]
 ·rw [if_neg q,if_neg q]
  simp [List.zip_append h]
theorem Zw {α:Type}{ks:List κ}{ds:List α}{k:κ}{d:α}(h:ks.length=ds.length):(putKs ks ds k d).1.length=(putKs ks ds k d).2.length:=by
 unfold putKs
 split
 ·simp [WX,h]
 ·simp [h]
theorem Z7 {Γ:Gm}{g:G}:∀ {ks:List κ}{ds:List D}{vs:List V}{k:κ}{d:D}{v:V},Hass Γ g ds vs->Has Γ g d v->Hass Γ g (mapK ks ds k d) (mapK ks vs k v)
 | [],ds,vs,_,_,_,h,_=>by
  have e1:mapK ([]:List κ) ds=fun _ _=>ds:=by funext a b;cases ds <;> rfl
  have e2:mapK ([]:List κ) vs=fun _ _=>vs:=by funext a b;cases vs <;> rfl
  rw [e1,e2]
  exact h
 | _::_,[],vs,_,_,_,h,_=>by
  cases (show vs=[] from h)
  exact rfl
 | a::ks,b::ds,_,k,d,v,⟨u,r,e,h1,h2⟩,hd=>by
  subst e
  refine ⟨if a=k then v else u,mapK ks r k v,rfl,?_,Z7 h2 hd⟩
  split
  ·exact hd
  ·exact h1
theorem jJ {Γ:Gm}{g:G}{ks:List κ}{ds:List D}{vs:List V}{k:κ}{d:D}{v:V}(h:Hass Γ g ds vs) (hd:Has Γ g d v):Hass Γ g (putKs ks ds k d).2 (putKs ks vs k v).2:=by
 unfold putKs
 split
 ·exact Z7 h hd
 ·exact h.app (Hass.mk1 hd)
theorem jB {α β:Type}{ks:List κ}{ds:List α}{es:List β}{k:κ}{d:α}{e:β}:(putKs ks ds k d).1=(putKs ks es k e).1:=by
 unfold putKs
 split <;> rfl
end
def rSetU:TSet:=fun o i v H Q=>rSetL o i v H Q\/∃ a H',o=.ref a/\DPut H a i v H'/\Q H'
theorem Jc {X:Cx}(hu:X.A.units+1 < ϲ):PSet X rSetU:=by
 intro pJ s σ H o i v ov iv u Q I r1 r2 r3 h
 rcases h with h | ⟨a,H',rfl,hp,q⟩
 ·exact set_list pJ s σ H o i v ov iv u Q I r1 r2 r3 h
 ·cases r1
  exact K6 hu I hp r2 r3 fun s' I'=>⟨H',I',q⟩
set_option tactic.hygienic true in
theorem Wx {Γ:Gm}{H:Hp}{g:G}{a:Addr}{c c' kd d:D}{vk vd:V}(h:putD c kd d=some c') (hc:zK Γ H g a c) (sm:Same g.R H) (hk:Has Γ g kd vk) (hd:Has Γ g d vd):
    ∃ o',(∀ Q:Hp->Prop,Q (upd H a o')->rSetU (.ref a) vk vd H Q)/\zK Γ (upd H a o') g a c'/\isIns c'=false:=by
  cases c with
  | lst l=>
   cases kd with
   | int i=>
    have h:(idx l.length i).map (fun k=>D.lst (l.set k d))=some c':=h
    cases e:idx l.length i with
    | none=>rw [e] at h;cases h
    | some j=>
      rw [e] at h
      cases h
      obtain ⟨vs,h1,h2⟩:=hc
      cases (show vk=.int i from hk)
      refine ⟨.lst (vs.set j vd),fun Q q=>.inl ⟨a,vs,i,j,rfl,rfl,h1,by rw [h2.len];exact e,q⟩,⟨_,zj,h2.set j hd⟩,rfl⟩
   | _=>cases h
  | dK ks ds=>
    have h:(keyD kd).bind (fun k=>if fits (ks.length+1) then some (let p:=putKs ks ds k d;D.dK p.1 p.2) else none)=some c':=by
      cases kd <;> exact h
    cases e:keyD kd with
    | none=>rw [e] at h;cases h
    | some k=>
      rw [e] at h
      have h:(if fits (ks.length+1)=true then some (D.dK (putKs ks ds k d).1 (putKs ks ds k d).2) else none)=some c':=h
      split at h
      · rename_i hf
        cases h
        obtain ⟨vs,h1,h2,h3⟩:=hc
        have ek:=W0 e hk
        subst ek
        have el:ks.length=vs.length:=by rw [h3.len];exact h2
        refine ⟨.dK ((putKs ks vs k vd).1.zip (putKs ks vs k vd).2),fun Q q=>.inr ⟨a,_,rfl,DPut.k h1 (by rw [dJ];have:=size_of hf;lia),?_⟩,⟨_,?_,Zw h2,jJ h3 hd⟩,rfl⟩
        · rw [Wz el]
          exact q
        · rw [zj,jB (ds:=ds) (es:=vs) (d:=d) (e:=vd)]
      · cases h
  | dT ks ds=>
   cases kd with
   | tup t=>
    have h:(keysD t).bind (fun k=>if fits (ks.length+1) then some (let p:=putKs ks ds k d;D.dT p.1 p.2) else none)=some c':=h
    cases e:keysD t with
    | none=>rw [e] at h;cases h
    | some k=>
      rw [e] at h
      have h:(if fits (ks.length+1)=true then some (D.dT (putKs ks ds k d).1 (putKs ks ds k d).2) else none)=some c':=h
      split at h
      · rename_i hf
        cases h
        obtain ⟨vs,h1,h2,h3⟩:=hc
        obtain ⟨b,us,rfl,h4,h5⟩:=hk
        have ek:=wj e h5
        subst ek
        have el:ks.length=vs.length:=by rw [h3.len];exact h2
        refine ⟨.dT ((putKs ks vs k vd).1.zip (putKs ks vs k vd).2),fun Q q=>.inr ⟨a,_,rfl,DPut.t h1 (sm _ _ h4) (by rw [dJ];have:=size_of hf;lia),?_⟩,⟨_,?_,Zw h2,jJ h3 hd⟩,rfl⟩
        · rw [Wz el]
          exact q
        · rw [zj,jB (ds:=ds) (es:=vs) (d:=d) (e:=vd)]
      · cases h
   | _=>cases h
  | _=>cases h
structure EN (Γ:Gm) (Hz:Hp) (gz g:G) (E:Ends) (K:Ko):Prop where
 nx:∀ ρ σ H g' S,Step Hz gz H g'->Le g g'->WOk Γ H g' S->EnvO Γ Hz H g' ρ σ->K (.next ρ) S->E.nx σ H
 bk:∀ ρ σ H g' S,Step Hz gz H g'->Le g g'->WOk Γ H g' S->EnvO Γ Hz H g' ρ σ->K (.brk ρ) S->E.bk σ H
 ct:∀ ρ σ H g' S,Step Hz gz H g'->Le g g'->WOk Γ H g' S->EnvO Γ Hz H g' ρ σ->K (.cnt ρ) S->E.ct σ H
 rt:∀ d fr v H g' S,Step Hz gz H g'->Le g g'->WOk Γ H g' S->VOk Γ Hz d fr v H g'->K (.ret d fr) S->E.rt v H
theorem EN.le {Γ:Gm}{Hz:Hp}{gz g g1:G}{E:Ends}{K:Ko}(n:EN Γ Hz gz g E K) (le:Le g g1):EN Γ Hz gz g1 E K:=
 ⟨fun ρ σ H g' S st l=>n.nx ρ σ H g' S st (le.trans l),fun ρ σ H g' S st l=>n.bk ρ σ H g' S st (le.trans l),fun ρ σ H g' S st l=>n.ct ρ σ H g' S st (le.trans l),fun d fr v H g' S st l=>n.rt d fr v H g' S st (le.trans l)⟩
def TK (Γ:Gm) (Hz:Hp) (gz:G) (W:List Slot->Ko->Store->Prop):TS:=fun E σ H=>∃ ρ S K g,W ρ K S/\Step Hz gz H g/\WOk Γ H g S/\EnvO Γ Hz H g ρ σ/\EN Γ Hz gz g E K
theorem goK {Γ:Gm}{Hz:Hp}{gz:G}{W:List Slot->Ko->Store->Prop}{E:Ends}{σ:L2.St}{H:Hp}{P:Prop}(h:TK Γ Hz gz W E σ H) (f:∀ ρ S K g,W ρ K S->Step Hz gz H g->WOk Γ H g S->EnvO Γ Hz H g ρ σ->EN Γ Hz gz g E K->P):P:=
 let ⟨ρ,S,K,g,a,b,c,d,e⟩:=h;f ρ S K g a b c d e
abbrev TC (Γ:Gm) (cf:Cf) (w:Nat) (Hz:Hp) (gz:G) (c:C):TS:=TK Γ Hz gz (wpC cf w c)
abbrev TCs (Γ:Gm) (cf:Cf) (w:Nat) (Hz:Hp) (gz:G) (cs:List C):TS:=TK Γ Hz gz (wpCs cf w cs)
section
variable {X:Cx}{Γ:Gm}{cf:Cf}{w:Nat}{Hz:Hp}{gz:G}{st:Stmt}{sts aa bb:List Stmt}{x y z tgt o:Expr}{pos p spos:Pos}{e a b:E}{s:C}{ss A B:List C}
theorem jq {i:Expr}(h:∀ lo hi st p,i≠.Slice lo hi st p) (v:δ) (env:Env):gF (.Subscript o i pos) env v=(do
   let ov <- gU [v] (eval o env)
   let iv <- gU [v,ov] (eval i env)
   standAt pos
   gU [v,ov,iv] (setItem ov iv v)
   release [v,ov,iv] []):=by
 cases i <;> first | rfl | exact absurd rfl (h _ _ _ _)
theorem zet:PS X (.Pass pos) (TC Γ cf w Hz gz .pass):=zcC.imp fun E σ H h0=>goK h0 fun ρ S K g hw st wk env n=>n.nx ρ σ H g S st (Le.refl g) wk env hw
theorem s_brk:PS X (.Break pos) (TC Γ cf w Hz gz .brk):=Q8.imp fun E σ H h0=>goK h0 fun ρ S K g hw st wk env n=>n.bk ρ σ H g S st (Le.refl g) wk env hw
theorem s_cnt:PS X (.Continue pos) (TC Γ cf w Hz gz .cnt):=Y5.imp fun E σ H h0=>goK h0 fun ρ S K g hw st wk env n=>n.ct ρ σ H g S st (Le.refl g) wk env hw
theorem zem:PSs X [] (TCs Γ cf w Hz gz []):=zcA.imp fun E σ H h0=>goK h0 fun ρ S K g hw st wk env n=>n.nx ρ σ H g S st (Le.refl g) wk env hw
theorem zcf (h1:PS X st (TC Γ cf w Hz gz s)) (h2:PSs X sts (TCs Γ cf w Hz gz ss)):PSs X (st::sts) (TCs Γ cf w Hz gz (s::ss)):=
 (Q6 h1 h2).imp fun E σ H h0=>goK h0 fun ρ S K g hw st wk env n=>⟨ρ,S,_,g,hw,st,wk,env,fun ρ' σ' H' g' S' st' le w' env' q=>⟨ρ',S',K,g',q,st',w',env',n.le le⟩,n.bk,n.ct,n.rt⟩
theorem zdw {H:Hp}{g:G}{ρ:List Slot}{σ:L2.St}{S:Store}{i:Nat}(st:Step Hz gz H g) (wk:WOk Γ H g S) (env:EnvO Γ Hz H g ρ σ):∃ g',Step Hz gz H g'/\Le g g'/\WOk Γ H g' S/\EnvO Γ Hz H g' (ρ.set i (fz ((ρ[i]?).getD .no))) σ:=by
 have same:∀ s,ρ[i]?=some s->ρ.set i s=ρ:=fun s h=>by
  apply lR
  intro j
  by_cases hj:i=j
  ·subst hj;rw [aj (π.mp h).1,h]
  ·rw [Φ hj]
 cases e:ρ[i]? with
 | none=>
  refine ⟨g,st,Le.refl g,wk,?_⟩
  rw [nR (List.getElem?_eq_none_iff.mp e)]
  exact env
 | some s=>
  cases s with
  | no=>exact ⟨g,st,Le.refl g,wk,by rw [show fz ((some Slot.no).getD .no)=.no from rfl,same _ e];exact env⟩
  | sh d=>exact ⟨g,st,Le.refl g,wk,by rw [show fz ((some (Slot.sh d)).getD .no)=.sh d from rfl,same _ e];exact env⟩
  | ow d=>
   obtain ⟨a,h1,h2,h3,h4,h5,h6⟩:=env.ow i d e
   obtain ⟨ob,ho,_⟩:=h5.isMut
   have le:Le g (g.put a ob):=Le.put h3
   refine ⟨g.put a ob,st.put h3 h2,le,wk.put ho h3 h4,by simp [env.len],fun j d' q=>?_,fun j d' q=>?_,fun j j' d1 d2 b q1 q2 q3 q4=>?_⟩
   ·rcases zy q with ⟨rfl,_,z⟩ | ⟨_,z⟩
    ·cases z
     exact ⟨.ref a,h1,jK h3 ho h5⟩
    ·obtain ⟨v,f1,f2⟩:=env.sh j d' z
     exact ⟨v,f1,f2.mono le⟩
   ·rcases zy q with ⟨rfl,_,z⟩ | ⟨hne,z⟩
    ·cases z
    ·obtain ⟨b,f1,f2,f3,f4,f5,f6⟩:=env.ow j d' z
     have hb:b≠a:=by
      rintro rfl
      exact hne (env.inj i j d d' b e z h1 f1)
     exact ⟨b,f1,f2,by show upd g.R a ob b=none;rw [zc hb];exact f3,f4,f5.mono le fun _ z=>z,f6⟩
   ·rcases zy q1 with ⟨_,_,z⟩ | ⟨_,z1⟩
    ·cases z
    rcases zy q2 with ⟨_,_,z⟩ | ⟨_,z2⟩
    ·cases z
    exact env.inj j j' d1 d2 b z1 z2 q3 q4
theorem Q4 {c kd d c':D}(h:putD c kd d=some c'):gone c=false:=by
 cases c <;> first | rfl | cases h
theorem zdx {H:Hp}{g:G}{ρ:List Slot}{σ:L2.St}{S:Store}{i k:Nat}{l:List D}(st:Step Hz gz H g) (wk:WOk Γ H g S) (env:EnvO Γ Hz H g ρ σ) (hi:ρ[i]?=some (.sh (.ref k))) (hk:S[k]?=some (.lst l)):
  ∃ g',Step Hz gz H g'/\Le g g'/\WOk Γ H g' (S.set k (.ref k))/\EnvO Γ Hz H g' (ρ.set i (.sh (.lst l))) σ:=by
 obtain ⟨v,h1,a,ha,e⟩:=env.sh i _ hi
 subst e
 have hn:g.R a=none:=wk.off k _ a hk ha rfl
 obtain ⟨vs,ho,hv⟩:=wk.cell k _ a hk ha
 have le:Le g (g.put a (.lst vs)):=Le.put hn
 have hr:(g.put a (.lst vs)).R a=some (.lst vs):=zj
 refine ⟨g.put a (.lst vs),⟨st.le.trans le,st.fr,st.ex,st.na,fun b q=>?_⟩,le,⟨fun b u q=>?_,by rw [bT];exact wk.len,wk.nd,fun j c b q1 q2 q3=>?_,fun j c b q1 q2=>?_⟩,by simp [env.len],fun j d' q=>?_,fun j d' q=>?_,fun j j' d1 d2 b q1 q2 q3 q4=>?_⟩
 ·by_cases hb:b=a
  ·subst hb
   rcases st.na b (ϝ ha) with z | z
   ·exact .inr (.inr (.inl z))
   ·exact .inr (.inl z)
  ·have q':upd g.R a (.lst vs) b≠none:=q
   rw [zc hb] at q'
   exact st.nr b q'
 ·have q':upd g.R a (.lst vs) b=some u:=q
  by_cases hb:b=a
  ·subst hb
   rw [zj] at q'
   cases q'
   exact ho
  ·rw [zc hb] at q'
   exact wk.rh b u q'
 ·rcases zy q1 with ⟨rfl,_,z⟩ | ⟨hne,z⟩
  ·rw [z] at q3;cases q3
  ·show upd g.R a (.lst vs) b=none
   have hb:b≠a:=by
    rintro rfl
    exact hne (WOk.vY.nodup_inj wk.nd ha q2)
   rw [zc hb]
   exact wk.off j c b z q2 q3
 ·rcases zy q1 with ⟨rfl,_,z⟩ | ⟨hne,z⟩
  ·have q2:g.α[k]?=some b:=q2
   rw [ha] at q2
   cases q2
   rw [z]
   exact ⟨_,hr,ho,Ϸ⟩
  ·exact (wk.cell j c b z q2).mono le fun _ z=>z
 ·rcases zy q with ⟨rfl,_,z⟩ | ⟨_,z⟩
  ·cases z
   exact ⟨.ref a,h1,a,vs,rfl,hr,hv.mono le⟩
  ·obtain ⟨v,f1,f2⟩:=env.sh j d' z
   exact ⟨v,f1,f2.mono le⟩
 ·rcases zy q with ⟨rfl,_,z⟩ | ⟨hne,z⟩
  ·cases z
  ·obtain ⟨b,f1,f2,f3,f4,f5,f6⟩:=env.ow j d' z
   have hb:b≠a:=by
    rintro rfl
    exact f4 (ϝ ha)
   exact ⟨b,f1,f2,by show upd g.R a (.lst vs) b=none;rw [zc hb];exact f3,f4,f5.mono le fun _ z=>z,f6⟩
 ·rcases zy q1 with ⟨_,_,z⟩ | ⟨_,z1⟩
  ·cases z
  rcases zy q2 with ⟨_,_,z⟩ | ⟨_,z2⟩
  ·cases z
  exact env.inj j j' d1 d2 b z1 z2 q3 q4
theorem s_frr {i:Nat}(h2:PSs X sts (TCs Γ cf w Hz gz ss)):PSs X sts (TCs Γ cf w Hz gz (.frr i::ss)):=
 h2.imp fun E σ H h0=>goK h0 fun ρ S K g hw st wk env n=>by
  obtain ⟨k,l,e1,e2,hw⟩:=zbH hw
  obtain ⟨g',st',le,w',env'⟩:=zdx st wk env e1 e2
  exact ⟨_,_,K,g',hw,st',w',env',n.le le⟩
theorem s_frz {i:Nat}(h2:PSs X sts (TCs Γ cf w Hz gz ss)):PSs X sts (TCs Γ cf w Hz gz (.frz i::ss)):=
 h2.imp fun E σ H h0=>goK h0 fun ρ S K g hw st wk env n=>by
  obtain ⟨g',st',le,w',env'⟩:=zdw (i:=i) st wk env
  exact ⟨_,S,K,g',hw,st',w',env',n.le le⟩
theorem s_frk {i:Nat}(h2:PSs X sts (TCs Γ cf w Hz gz ss)):PSs X sts (TCs Γ cf w Hz gz (.frk i::ss)):=by
 intro pJ s σ H E I h0
 refine goK h0 fun ρ S K g hw st wk env n=>?_
 obtain ⟨ks,ds,e,hw⟩:=zbn hw
 obtain ⟨a,h1,h2',h3,h4,⟨vs,hH,hlen,hv⟩,h6⟩:=env.ow i _ e
 have hob:=(show ObjOk X.prog X.w H s.heap a (.dT (ks.zip vs)) from I.hok a _ hH)
 obtain ⟨_,_,_,_,o,_,_,g1,_⟩:=id hob
 have I4:=uT (a:=a) (h':=s.heap) (t':=s.toks) (ob:=.frz o (.dT (ks.zip vs))) I (by rw [hH];exact Ϸ) (iy a _) ⟨o,g1⟩
  ⟨g1,hob.stay (fun b u _ e=>e) (fun b e=>by
   have hb:b≠a:=by rintro rfl;rw [hH] at e;cases e
   rw [zc hb];exact e) fun b ys e=>by
   have hb:b≠a:=by rintro rfl;rw [hH] at e;cases e
   rw [zc hb];exact e⟩
 have le:Le g (g.put a (.frz o (.dT (ks.zip vs)))):=Le.put h3
 refine h2 pJ s σ _ E I4 ⟨_,S,K,g.put a (.frz o (.dT (ks.zip vs))),hw,(st.zA h2').put h3 h2',(wk.zA h3 h4).put zj h3 h4,⟨by simp [env.len],fun j d' q=>?_,fun j d' q=>?_,fun j j' d1 d2 b q1 q2 q3 q4=>?_⟩,n.le le⟩
 ·rcases zy q with ⟨rfl,_,z⟩ | ⟨_,z⟩
  ·cases z
   exact ⟨.ref a,h1,a,vs,o,rfl,zj,hlen,hv.mono le⟩
  ·obtain ⟨v,f1,f2⟩:=env.sh j d' z
   exact ⟨v,f1,f2.mono le⟩
 ·rcases zy q with ⟨rfl,_,z⟩ | ⟨hne,z⟩
  ·cases z
  ·obtain ⟨b,f1,f2,f3,f4,f5,f6⟩:=env.ow j d' z
   have hb:b≠a:=by
    rintro rfl
    exact hne (env.inj i j _ d' b e z h1 f1)
   exact ⟨b,f1,f2,by show upd g.R a _ b=none;rw [zc hb];exact f3,f4,f5.mono le fun _ z=>by rw [zc hb];exact z,f6⟩
 ·rcases zy q1 with ⟨_,_,z⟩ | ⟨_,z1⟩
  ·cases z
  rcases zy q2 with ⟨_,_,z⟩ | ⟨_,z2⟩
  ·cases z
  exact env.inj j j' d1 d2 b z1 z2 q3 q4
theorem zey (h:PE X x (TX Γ cf e)) (hs:iz x none pos.line X.env=pure false):PS X (.Expr x pos) (TC Γ cf w Hz gz (.expr e)):=
 (Y4 h hs).imp fun E σ H h0=>goK h0 fun ρ S K g hw st wk env n=>⟨ρ,S,_,g,Hz,hw,wk,env,fun x v H1 g1 S1 s1 w1 vx q=>n.nx ρ σ H1 g1 S1 (st.trans s1) s1.le w1 (zm env s1) q⟩
theorem s_ret (hn:∀ i,e≠.var i) (h:PE X x (TX Γ cf e)):PS X (.Return (some x) pos) (TC Γ cf w Hz gz (.ret e)):=
 (zbi h).imp fun E σ H h0=>goK h0 fun ρ S K g hw st wk env n=>by
  have hw:wpE cf ρ e (fun x S1=>retV x fun o=>K o S1) S:=by cases e <;> first | exact absurd rfl (hn _) | exact hw
  refine ⟨ρ,S,_,g,Hz,hw,wk,env,fun x v H1 g1 S1 s1 w1 vx q=>?_⟩
  obtain ⟨d,k⟩:=x
  cases k with
  | st=>exact n.rt d false v H1 g1 S1 (st.trans s1) s1.le w1 vx q
  | fr=>exact n.rt d true v H1 g1 S1 (st.trans s1) s1.le w1 (vx.back st) q
  | bo=>exact q.elim
theorem zeq {i:Nat}{n:Str}(hN:X.N[i]?=some n) (hv:Vis X.env.scope n) (hd:(n==("__debug__":Str))=false) (hcd:(n==("__classdict__":Str))=false):PS X (.Return (some (.Name n p)) pos) (TC Γ cf w Hz gz (.ret (.var i))):=
 (zbi (ZC hN hv hd hcd)).imp fun E σ H h0=>goK h0 fun ρ S K g hw st wk env n=>by
  have hw:sel ρ[i]? (fun d=>K (.ret d false) S) (fun d=>K (.ret d true) S):=hw
  cases e:ρ[i]? with
  | none=>rw [e] at hw;exact hw.elim
  | some s=>
   rw [e] at hw
   cases s with
   | no=>exact hw.elim
   | sh d=>
    obtain ⟨v,h1,h2⟩:=env.sh i d e
    exact ⟨v,h1,n.rt d false v H g S st (Le.refl g) wk h2 hw⟩
   | ow d=>
    obtain ⟨a,h1,h2,h3,h4,h5,h6⟩:=env.ow i d e
    exact ⟨.ref a,h1,n.rt d true _ H g S st (Le.refl g) wk ⟨a,rfl,h2,h3,h4,h5⟩ hw⟩
theorem zer:PS X (.Return none pos) (TC Γ cf w Hz gz .retN):=zcB.imp fun E σ H h0=>goK h0 fun ρ S K g hw st wk env n=>n.rt .non false .non H g S st (Le.refl g) wk rfl hw
theorem s_if (h:PT X x (TB Γ cf e)) (ha:PSs X aa (TCs Γ cf w Hz gz A)) (hb:PSs X bb (TCs Γ cf w Hz gz B)):PS X (.If x aa bb pos) (TC Γ cf w Hz gz (.ite e A B)):=
 (ps_if h ha hb).imp fun E σ H h0=>goK h0 fun ρ S K g hw st wk env n=>⟨ρ,S,_,g,Hz,hw,wk,env,fun x H1 g1 S1 s1 w1 h=>by
  obtain ⟨r,e,q⟩:=ww h
  rw [e]
  show (if r=true then _ else _)
  cases r with
  | true=>exact iteT ⟨ρ,S1,K,g1,q,st.trans s1,w1,zm env s1,n.le s1.le⟩
  | false=>exact iteF ⟨ρ,S1,K,g1,q,st.trans s1,w1,zm env s1,n.le s1.le⟩⟩
theorem fresh_ne {H:Hp}{g:G}{ρ:List Slot}{σ:L2.St}{v:V}{d:D}{H1:Hp}{g1:G}(env:EnvO Γ Hz H g ρ σ) (vx:VN Γ H (d,.fr) v H1 g1):∀ (i:Nat) (d:D),ρ[i]?=some (.ow d)->σ[i]?≠some (some v):=fun i d' hi e=>by
 obtain ⟨a,rfl,h0,_⟩:=vx
 obtain ⟨b,f1,_,_,_,f5,_⟩:=env.ow i d' hi
 rw [f1] at e
 cases e
 obtain ⟨o,ho,_⟩:=f5.isMut
 rw [h0] at ho
 cases ho
theorem Jb {H H1:Hp}{g g1:G}{ρ ρ2:List Slot}{σ:L2.St}{S1:Store}{t:T}{x:Vl}{v:V}{E:Ends}{K:Ko}(st:Step Hz gz H g) (env:EnvO Γ Hz H g ρ σ) (n:EN Γ Hz gz g E K) (s1:Step H g H1 g1) (w1:WOk Γ H1 g1 S1) (vx:VN Γ H x v H1 g1) (hb:bindV ρ t x=some ρ2) (q:K (.next ρ2) S1):tgOf X.K t v σ H1 fun σ' H'=>E.nx σ' H':=by
 have env1:=zm env s1
 obtain ⟨d,k⟩:=x
 cases k with
 | st=>exact kj (fr:=false) hb env1 w1.rh vx (fun h=>by cases h) fun σ' env'=>n.nx _ σ' H1 g1 S1 (st.trans s1) s1.le w1 env' q
 | fr=>exact kj (fr:=true) hb env1 w1.rh (vx.back st) (fun _=>fresh_ne env vx) fun σ' env'=>n.nx _ σ' H1 g1 S1 (st.trans s1) s1.le w1 env' q
 | bo=>cases hb
noncomputable def noBox:E->Bool
 | .box _=>false
 | _=>true
theorem za8 {ρ:List Slot}{t:T}{K:Ko}{S:Store}(hn:noBox e=true) (hw:wpC cf w (.set t e) ρ K S):wpE cf ρ e (fun x S1=>opt (bindV ρ t x) fun ρ2=>K (.next ρ2) S1) S:=by
 cases e <;> first | exact hw | cases hn
theorem s_set {t:T}(hn:noBox e=true) (h:PE X x (TX Γ cf e)) (hg:PG X tgt (tgOf X.K t)) (hs:cZ [tgt] x pos.line X.env=pure false) (hw:cj [tgt] x X.env=pure none) (ha:(bB [tgt] X.env).map (·.2)=[gF tgt X.env]):PS X (.Assign [tgt] x pos) (TC Γ cf w Hz gz (.set t e)):=
 (WD h hg hs hw ha).imp fun E σ H h0=>goK h0 fun ρ S K g hw st wk env n=>⟨ρ,S,_,g,Hz,za8 hn hw,wk,env,fun x v H1 g1 S1 s1 w1 vx q=>by
  obtain ⟨ρ2,hb,q⟩:=zH q
  exact Jb (X:=X) st env n s1 w1 vx hb q⟩
theorem zeo {t:T}(h:PE X x (TX Γ cf e)) (hg:PG X tgt (tgOf X.K t)) (hs:cZ [tgt] x pos.line X.env=pure false) (hw:cj [tgt] x X.env=pure none) (ha:(bB [tgt] X.env).map (·.2)=[gF tgt X.env]):PS X (.Assign [tgt] x pos) (TC Γ cf w Hz gz (.set t (.box e))):=
 (WD h hg hs hw ha).imp fun E σ H h0=>goK h0 fun ρ S K g hw st wk env n=>⟨ρ,S,_,g,Hz,hw,wk,env,fun x v H1 g1 S1 s1 w1 vx q=>by
  obtain ⟨d,k⟩:=x
  cases k with
  | fr=>
   obtain ⟨ρ2,hb,q⟩:=zH q
   obtain ⟨g2,s2,w2,h2⟩:=boxed s1 w1 vx
   exact Jb (X:=X) (x:=(.ref S1.length,.st)) st env n s2 w2 h2 hb q
  | _=>exact q.elim⟩
theorem zen {t:T}{js:List Nat}{it elt:E}{ifs:List E}{i:Nat}{n:Str}{np:Pos}(h:CSet X x (TX Γ cf (.comp t js it ifs elt))) (hp:PG X (.Name n np) (gName i)) (hsw:iz x (some (.Name n np)) pos.line X.env=pure true):PS X (.Assign [.Name n np] x pos) (TC Γ cf w Hz gz (.set (.one i) (.comp t js it ifs elt))):=
 (h n np pos i hp hsw).imp fun E σ H h0=>goK h0 fun ρ S K g hw st wk env n=>⟨ρ,S,_,g,Hz,za8 rfl hw,wk,env,fun x v H1 g1 S1 s1 w1 vx q=>by
  obtain ⟨ρ2,hb,q⟩:=zH q
  exact Jb (X:=X) (t:=.one i) st env n s1 w1 vx hb q⟩
theorem zce (ht:PT X x (TB Γ cf e)) (hb:PSs X aa (TCs Γ cf w Hz gz A)) (hp:iD (Ζ X.prog X.w) X.A X.env X.xe):PS X (.While x aa [] pos) (TC Γ cf w Hz gz (.whl e A)):=
 (Q7 hp ht hb).imp fun E σ H h0=>goK h0 fun ρ S K g hw st wk env n=>by
  have hw:whlW (fun ρ=>wpE cf ρ e) (fun ρ=>wpCs cf w A ρ) w ρ K S:=hw
  refine ⟨fun m σ H=>∃ ρ S g1,whlW (fun ρ=>wpE cf ρ e) (fun ρ=>wpCs cf w A ρ) m ρ K S/\Step Hz gz H g1/\Le g g1/\WOk Γ H g1 S/\EnvO Γ Hz H g1 ρ σ,⟨w,ρ,S,g,hw,st,Le.refl g,wk,env⟩,?_⟩
  rintro m σ H ⟨ρ,S,g1,hw,st,le,wk,env⟩
  cases m with
  | zero=>exact hw.elim
  | succ m=>
   refine ⟨ρ,S,_,g1,Hz,hw,wk,env,fun x H2 g2 S2 s2 w2 h=>?_⟩
   obtain ⟨r,e,q⟩:=ww h
   rw [e]
   show (if r=true then _ else _)
   cases r with
   | false=>exact iteF (n.nx ρ σ H2 g2 S2 (st.trans s2) (le.trans s2.le) w2 (zm env s2) q)
   | true=>
    refine iteT ⟨fun σ' H'=>∃ ρ S g1,whlW (fun ρ=>wpE cf ρ _) (fun ρ=>wpCs cf w A ρ) m ρ K S/\Step Hz gz H' g1/\Le g g1/\WOk Γ H' g1 S/\EnvO Γ Hz H' g1 ρ σ',fun σ' H' q=>⟨m,eV m,q⟩,ρ,S2,_,g2,q,st.trans s2,w2,zm env s2,?_⟩
    have l2:=le.trans s2.le
    exact ⟨fun ρ' σ' H' g' S' st' l w' env' q=>⟨ρ',S',g',q,st',l2.trans l,w',env'⟩,fun ρ' σ' H' g' S' st' l w' env' q=>n.nx ρ' σ' H' g' S' st' (l2.trans l) w' env' q,fun ρ' σ' H' g' S' st' l w' env' q=>⟨ρ',S',g',q,st',l2.trans l,w',env'⟩,fun d fr v H' g' S' st' l w' vo q=>n.rt d fr v H' g' S' st' (l2.trans l) w' vo q⟩
theorem s_for {t:T}{it:E}(hi:PI X tgt x (TXi Γ cf it)) (hg:PG X tgt (tgOf X.K t)) (hb:PSs X aa (TCs Γ cf w Hz gz A)) (hp:iD (Ζ X.prog X.w) X.A X.env X.xe) (hc:X.calm=true) (hs:∀ v,bY x X.env v=pure v):PS X (.For tgt x aa [] pos) (TC Γ cf w Hz gz (.forr t it A)):=
 (zeL hp hc hi hg hb hs).imp fun E σ H h0=>goK h0 fun ρ S K g hw st wk env n=>⟨ρ,S,_,g,Hz,hw,wk,env,fun l J H1 g1 S1 s1 w1 hJ h1=>by
  refine ⟨fun i m σ H=>m=l.length - i/\i<=l.length/\∃ ρ S g2,forW t (fun ρ=>wpCs cf w A ρ) (l.drop i) ρ K S/\Step Hz gz H g2/\Le g1 g2/\WOk Γ H g2 S/\EnvO Γ Hz H g2 ρ σ,⟨_,rfl,Ϣ _,ρ,S1,g1,h1,st.trans s1,Le.refl g1,w1,zm env s1⟩,?_⟩
  rintro i m σ H ⟨rfl,hi,ρ,S,g2,hw,st2,le,wk,env⟩
  by_cases hlt:i < l.length
  ·refine .inr ⟨hJ.go i H g2 le wk.rh hlt,fun σ' H'=>∃ ρ S g3,forW t (fun ρ=>wpCs cf w A ρ) (l.drop (i+1)) ρ K S/\Step Hz gz H' g3/\Le g1 g3/\WOk Γ H' g3 S/\EnvO Γ Hz H' g3 ρ σ',fun σ' H' q=>⟨l.length - (i+1),by omega,rfl,hlt,q⟩,fun z H3 hy=>?_⟩
   obtain ⟨g3,st3,_,w3,hz⟩:=hJ.yld i H g2 S z H3 l[i] le wk (θ hlt) hy
   rw [du hlt] at hw
   obtain ⟨ρ',es,hw⟩:=zH (show opt (bindT ρ t (l[i],false)) _ from hw)
   have l3:=le.trans st3.le
   have l4:=s1.le.trans l3
   refine kj (fr:=false) es (zm env st3) w3.rh hz (fun h=>by cases h) fun σ3 env3=>⟨ρ',S,_,g3,hw,st2.trans st3,w3,env3,?_⟩
   exact ⟨fun ρ' σ' H' g' S' st' l w' env' q=>⟨ρ',S',g',q,st',l3.trans l,w',env'⟩,fun ρ' σ' H' g' S' st' l w' env' q=>n.nx ρ' σ' H' g' S' st' (l4.trans l) w' env' q,fun ρ' σ' H' g' S' st' l w' env' q=>⟨ρ',S',g',q,st',l3.trans l,w',env'⟩,fun d fr v H' g' S' st' l w' vo q=>n.rt d fr v H' g' S' st' (l4.trans l) w' vo q⟩
  ·have e:i=l.length:=by omega
   subst e
   rw [List.drop_length] at hw
   exact .inl ⟨hJ.stop _ H g2 le wk.rh (ξ _),n.nx ρ σ H g2 S st2 (s1.le.trans le) wk env hw⟩⟩
theorem zbo {s:Option Slot}{Q:List D->Prop}(h:owL s Q):∃ l,s=some (.ow (.lst l))/\Q l:=by
 cases s with
 | none=>exact h.elim
 | some s=>
  cases s with
  | ow d=>
   cases d with
   | lst l=>exact ⟨l,rfl,h⟩
   | _=>exact h.elim
  | _=>exact h.elim
theorem zeY {s:Option Slot}{Q:D->Prop}(h:owD s Q):∃ l,s=some (.ow l)/\Q l:=by
 cases s with
 | none=>exact h.elim
 | some s=>
  cases s with
  | ow d=>exact ⟨d,rfl,h⟩
  | _=>exact h.elim
theorem zfJ {s:D}{Q:Nat->Prop}(h:isR s Q):∃ n,s=.ref n/\Q n:=by
 cases s with
 | ref n=>exact ⟨n,rfl,h⟩
 | _=>exact h.elim
section
variable {i:Nat}{n:Str}{apos cpos:Pos}
theorem s_app (hN:X.N[i]?=some n) (hv:Vis X.env.scope n) (hd:(n==("__debug__":Str))=false) (hcd:(n==("__classdict__":Str))=false) (hx:PE X x (TX Γ cf e)) (hs:notStar x=true) (hl:(apos.endLine==cpos.line)=true):
  PS X (.Expr (.Call (.Attribute (.Name n p) "append" apos) [x] [] cpos) pos) (TC Γ cf w Hz gz (.app i e)):=
 (Y4 (pe_bm gn PySem.F.slot_list_append PySem.F.type_list_append ZM (ZC hN hv hd hcd) (yf hx xW (zb hs _ _)) rfl (KR hs) hl (zb hs _ _) rfl)).imp fun E σ H h0=>goK h0 fun ρ S K g hw st wk env n=>by
  obtain ⟨l,eo,hw⟩:=zbo hw
  obtain ⟨a,h1,h2,h3,h4,h5,h6⟩:=env.ow i _ eo
  obtain ⟨vs,h7,h8⟩:=h5
  refine ⟨.ref a,h1,.inl ⟨rfl,vs,SqL.of h7⟩,ρ,S,_,g,Hz,hw,wk,env,fun x v H1 g1 S1 s1 w1 vx q=>?_⟩
  obtain ⟨g2,s2,w2,hx,q⟩:=vx.keep s1 w1 q
  obtain ⟨hf,q⟩:=xM q
  have env2:=zm env s2
  obtain ⟨k1,k2,k3⟩:=s2.kept h7 h3 h4
  refine ⟨a,vs,v,rfl,rfl,k1,by rw [h8.len];exact size_of hf,n.nx _ σ _ g2 S1 ((st.trans s2).zA h2) s2.le (w2.zA k2 k3) (env2.updOw (c':=.lst (l++[x.1])) eo h1 ⟨vs++[v],zj,(h8.mono s2.le).app (Hass.mk1 hx)⟩ rfl) q⟩
theorem s_ext (hN:X.N[i]?=some n) (hv:Vis X.env.scope n) (hd:(n==("__debug__":Str))=false) (hcd:(n==("__classdict__":Str))=false) (hx:PE X x (TX Γ cf e)) (hs:notStar x=true) (hl:(apos.endLine==cpos.line)=true):
  PS X (.Expr (.Call (.Attribute (.Name n p) "extend" apos) [x] [] cpos) pos) (TC Γ cf w Hz gz (.ext i e)):=
 (Y4 (pe_bm gn PySem.F.slot_list_extend PySem.F.type_list_extend zdb (ZC hN hv hd hcd) (yf hx xW (zb hs _ _)) rfl (KR hs) hl (zb hs _ _) rfl)).imp fun E σ H h0=>goK h0 fun ρ S K g hw st wk env n=>by
  obtain ⟨l,eo,hw⟩:=zbo hw
  obtain ⟨a,h1,h2,h3,h4,h5,h6⟩:=env.ow i _ eo
  obtain ⟨vs,h7,h8⟩:=h5
  refine ⟨.ref a,h1,.inl ⟨rfl,vs,SqL.of h7⟩,ρ,S,_,g,Hz,hw,wk,env,fun x v H1 g1 S1 s1 w1 vx q0=>?_⟩
  obtain ⟨g2,s2,w2,hx,q1⟩:=vx.keep s1 w1 q0
  obtain ⟨m,em,q2⟩:=zH q1
  obtain ⟨hf,q⟩:=xM q2
  clear q0 q1 q2
  have env2:=zm env s2
  obtain ⟨k1,k2,k3⟩:=s2.kept h7 h3 h4
  generalize x.1=d at *
  cases d with
  | lst m'=>
   cases em
   obtain ⟨b,zs,rfl,hb1,hb2⟩:=hx
   exact ⟨a,b,vs,zs,rfl,rfl,k1,.inl (w2.rh _ _ hb1),by rw [h8.len,hb2.len];exact yw hf,n.nx _ σ _ g2 S1 ((st.trans s2).zA h2) s2.le (w2.zA k2 k3) (env2.updOw (c':=.lst (l++m)) eo h1 ⟨vs++zs,zj,(h8.mono s2.le).app hb2⟩ rfl) q⟩
  | tup m'=>
   cases em
   obtain ⟨b,zs,rfl,hb1,hb2⟩:=hx
   exact ⟨a,b,vs,zs,rfl,rfl,k1,.inr (SqT.of (w2.rh _ _ hb1)),by rw [h8.len,hb2.len];exact yw hf,n.nx _ σ _ g2 S1 ((st.trans s2).zA h2) s2.le (w2.zA k2 k3) (env2.updOw (c':=.lst (l++m)) eo h1 ⟨vs++zs,zj,(h8.mono s2.le).app hb2⟩ rfl) q⟩
  | _=>cases em
theorem s_stv {ix:Expr}{ke ve:E}(hu:X.A.units+1 < ϲ) (hN:X.N[i]?=some n) (hv:Vis X.env.scope n) (hd:(n==("__debug__":Str))=false) (hcd:(n==("__classdict__":Str))=false) (hx:PE X x (TX Γ cf ve)) (hi:PE X ix (TX Γ cf ke)) (hns:∀ lo hi st p,ix≠.Slice lo hi st p)
  (hs:cZ [.Subscript (.Name n p) ix pos] x spos.line X.env=pure false) (hw:cj [.Subscript (.Name n p) ix pos] x X.env=pure none) (ha:(bB [.Subscript (.Name n p) ix pos] X.env).map (·.2)=[gF (.Subscript (.Name n p) ix pos) X.env]):
  PS X (.Assign [.Subscript (.Name n p) ix pos] x spos) (TC Γ cf w Hz gz (.stv i ke ve)):=
 (WD hx (zbj (ZC hN hv hd hcd) hi (Jc hu) (fun v=>jq hns v X.env)) hs hw ha).imp fun E σ H h0=>goK h0 fun ρ S K g hw st wk env n=>by
  obtain ⟨c,eo,hw⟩:=zeY hw
  obtain ⟨a,h1,h2,h3,h4,h5,h6⟩:=env.ow i _ eo
  refine ⟨ρ,S,_,g,Hz,hw,wk,env,fun x v H1 g1 S1 s1 w1 vx q=>?_⟩
  obtain ⟨g2,s2,w2,hx,q⟩:=vx.keep s1 w1 q
  refine ⟨.ref a,h1,ρ,S1,_,g2,Hz,q,w2,zm env s2,fun y u H3 g3 S3 s3 w3 vy q=>?_⟩
  obtain ⟨g4,s4,w4,hy,q⟩:=vy.keep s3 w3 q
  obtain ⟨c',ep,q⟩:=zH q
  have s5:=s2.trans s4
  have env4:=zm env s5
  obtain ⟨a',f1,f2,f3,f4,f5,f6⟩:=env4.ow i _ eo
  rw [h1] at f1
  cases f1
  obtain ⟨o',b1,b2,b3⟩:=Wx ep f5 w4.rh hy (hx.mono s4.le)
  exact b1 _ (n.nx _ σ _ g4 S3 ((st.trans s5).zA h2) s5.le (w4.zA f3 f4) (env4.updOw eo h1 b2 b3) q)
theorem s_sti {ix:Expr}{oe ke ve:E}(hu:X.A.units+1 < ϲ) (hx:PE X x (TX Γ cf ve)) (ho:PE X o (TX Γ cf oe)) (hi:PE X ix (TX Γ cf ke)) (hns:∀ lo hi st p,ix≠.Slice lo hi st p)
  (hs:cZ [.Subscript o ix pos] x spos.line X.env=pure false) (hw:cj [.Subscript o ix pos] x X.env=pure none) (ha:(bB [.Subscript o ix pos] X.env).map (·.2)=[gF (.Subscript o ix pos) X.env]):
  PS X (.Assign [.Subscript o ix pos] x spos) (TC Γ cf w Hz gz (.sti oe ke ve)):=
 (WD hx (zbj ho hi (Jc hu) (fun v=>jq hns v X.env)) hs hw ha).imp fun E σ H h0=>goK h0 fun ρ S K g hw st wk env n=>by
  refine ⟨ρ,S,_,g,Hz,hw,wk,env,fun x v H1 g1 S1 s1 w1 vx q=>?_⟩
  obtain ⟨g2,s2,w2,hx,q⟩:=vx.keep s1 w1 q
  refine ⟨ρ,S1,_,g2,Hz,q,w2,zm env s2,fun z t H3 g3 S3 s3 w3 vz q=>?_⟩
  obtain ⟨g4,s4,w4,hz,q⟩:=vz.keep s3 w3 q
  refine ⟨ρ,S3,_,g4,Hz,q,w4,zm env (s2.trans s4),fun y u H5 g5 S5 s5 w5 vy q=>?_⟩
  obtain ⟨g6,s6,w6,hy,q⟩:=vy.keep s5 w5 q
  obtain ⟨m,er,q⟩:=zfJ q
  obtain ⟨c,eo,q⟩:=zH q
  obtain ⟨c',ep,q⟩:=zH q
  rw [er] at hz
  obtain ⟨a,ha2,rfl⟩:=hz.mono s6.le
  obtain ⟨o',b1,b2,b3⟩:=Wx ep (w6.cell m c a eo ha2) w6.rh hy (hx.mono (s4.le.trans s6.le))
  have hm:=ϝ ha2
  have s7:=(s2.trans s4).trans s6
  exact b1 _ (n.nx _ σ _ g6 _ ((st.trans s7).vY hm) s7.le (w6.vY eo (Q4 ep) ha2 b2) ((zm env s7).zbV hm) q)
end
end
noncomputable def Y9:Expr->Bool
 | .ListComp _ _ _ _=>false
 | .SetComp _ _ _ _=>false
 | .DictComp _ _ _ _ _=>false
 | _=>true
noncomputable def qD:E->Bool
 | .comp _ _ _ _ _=>true
 | _=>false
noncomputable def uy:Expr->Bool
 | .Tuple _ _ _=>false
 | _=>true
noncomputable def jW (c:Cc) (n:Str) (np:Pos):Expr->Bool
 | .ListComp _ _ sc p=>c.names.lookup n==some .local&&np.line==p.line&&!(sc.names.any fun (m,k)=>m==n&&(k==.local||k==.cell))
 | _=>false
noncomputable def chkN (c:Cc) (i:Nat) (n:Str):Bool:=c.N[i]?==some n&&visK (c.names.lookup n)&&yu n
structure Meth where
 o:Expr
 m:Str
 ap:Pos
 x:Expr
 cp:Pos
noncomputable def Vu:Expr->Option Meth
 | .Call f args kws cp=>if wu kws=true then (asAtt f).bind fun q=>(sole args).map fun x=>⟨q.1,q.2.1,q.2.2,x,cp⟩ else none
 | _=>none
set_option tactic.hygienic true in
theorem Qt {x:Expr}{q:Meth}(h:Vu x=some q):x=.Call (.Attribute q.o q.m q.ap) [q.x] [] q.cp:=by
 cases x with
 | Call f args kws cp=>
  have h:(if wu kws=true then (asAtt f).bind fun q=>(sole args).map fun x=>(⟨q.1,q.2.1,q.2.2,x,cp⟩:Meth) else none)=some q:=h
  split at h
  ·rename_i hn
   cases e1:asAtt f with
   | none=>rw [e1] at h;cases h
   | some z=>
    rw [e1] at h
    cases e2:sole args with
    | none=>rw [e2] at h;cases h
    | some y=>
     rw [e2] at h
     cases h
     rw [vU hn,Vv e1,YZ e2]
  ·cases h
 | _=>cases h
noncomputable def wN (B:Tb) (c:Cc) (name:Str) (i:Nat) (e:E) (x:Expr):Bool:=match Vu x with
  | some q=>(match asName q.o with
    | some r=>chkN c i r.1&&q.m==name&&chkE B c e q.x&&notStar q.x&&q.ap.endLine==q.cp.line
    | none=>false)
  | none=>false
theorem jN {B:Tb}{c:Cc}{name:Str}{i:Nat}{e:E}{x:Expr}(h:wN B c name i e x=true):∃ n np ap y cp,x=.Call (.Attribute (.Name n np) name ap) [y] [] cp/\chkN c i n=true/\chkE B c e y=true/\notStar y=true/\(ap.endLine==cp.line)=true:=by
  unfold wN at h
  cases e1:Vu x with
  | none=>rw [e1] at h;cases h
  | some q=>
    rw [e1] at h
    have h:(match asName q.o with
      | some r=>chkN c i r.1&&q.m==name&&chkE B c e q.x&&notStar q.x&&q.ap.endLine==q.cp.line
      | none=>false)=true:=h
    cases e2:asName q.o with
    | none=>rw [e2] at h;cases h
    | some r=>
      rw [e2] at h
      have h:(chkN c i r.1&&q.m==name&&chkE B c e q.x&&notStar q.x&&q.ap.endLine==q.cp.line)=true:=h
      simp only [ε] at h
      obtain ⟨⟨⟨⟨h1,h2⟩,h3⟩,h4⟩,h5⟩:=h
      refine ⟨r.1,r.2,q.ap,q.x,q.cp,?_,h1,h3,h4,h5⟩
      rw [Qt e1,jc e2,eq_of_beq h2]
noncomputable def asM0:Expr->Option (Expr×Str×Pos×Pos)
  | .Call f as ks cp=>(match f with
    | .Attribute o m ap=>(match as with
      | []=>(match ks with
        | []=>some (o,m,ap,cp)
        | _=>none)
      | _=>none)
    | _=>none)
  | _=>none
noncomputable def zga (c:Cc) (i:Nat) (x:Expr):Bool:=match asM0 x with
  | some q=>(match asName q.1 with
    | some r=>chkN c i r.1&&q.2.1==("pop":Str)&&q.2.2.1.endLine==q.2.2.2.line
    | none=>false)
  | none=>false
noncomputable def zf5 (B:Tb) (c:Cc) (o e:E) (x:Expr):Bool:=match Vu x with
 | some q=>(asName q.o).isSome&&chkE B c o q.o&&q.m==("append":Str)&&chkE B c e q.x&&notStar q.x&&q.ap.endLine==q.cp.line
 | none=>false
noncomputable def zf4 (B:Tb) (c:Cc) (o:E) (x:Expr):Bool:=match asM0 x with
 | some q=>(asName q.1).isSome&&chkE B c o q.1&&q.2.1==("pop":Str)&&q.2.2.1.endLine==q.2.2.2.line
 | none=>false
noncomputable def isNT:Expr->Bool
 | .Name _ _=>true
 | .Tuple _ _ _=>true
 | _=>false
mutual
noncomputable def chkC (B:Tb) (c:Cc):C->Stmt->Bool
  | .set t e,.Assign ts x _=>(match sole ts with
    | some tg=>chkE B c e x&&chkT c t tg&&(match asName tg with
      | some q=>!jW c q.1 q.2 x||qD e
      | none=>Z2 tg&&uy x)
    | none=>false)
  | .expr e,.Expr x _=>chkE B c e x&&Y9 x
  | .ret e,.Return v _=>(match v with
    | some x=>chkE B c e x
    | none=>false)
  | .retN,.Return v _=>v.isNone
  | .ite e a b,.If x aa bb _=>chkE B c e x&&chkCs B c a aa&&chkCs B c b bb
  | .whl e b,.While x bb r _=>chkE B c e x&&chkCs B c b bb&&wu r
  | .forr t it b,.For tgt x bb r _=>chkI B c it tgt x&&chkT c t tgt&&xm x&&chkCs B c b bb&&wu r
  | .app i e,.Expr x _=>wN B c "append" i e x
  | .ext i e,.Expr x _=>wN B c "extend" i e x
  | .stv i k v,.Assign ts x _=>(match (sole ts).bind asSub with
    | some q=>(match asName q.1 with
      | some r=>chkN c i r.1&&chkE B c k q.2.1&&chkE B c v x
      | none=>false)
    | none=>false)
  | .sti o k v,.Assign ts x _=>(match (sole ts).bind asSub with
    | some q=>chkE B c o q.1&&chkE B c k q.2.1&&chkE B c v x
    | none=>false)
  | .pass,.Pass _=>true
  | .brk,.Break _=>true
  | .cnt,.Continue _=>true
  | _,_=>false
noncomputable def chkCs (B:Tb) (c:Cc):List C->List Stmt->Bool
 | .frz _::ss,xs=>chkCs B c ss xs
 | .frr _::ss,xs=>chkCs B c ss xs
 | .frk _::ss,xs=>chkCs B c ss xs
 | [],[]=>true
 | s::ss,x::xs=>chkC B c s x&&chkCs B c ss xs
 | _,_=>false
end
structure XSt (Γ:Gm) (B:Tb) (cf:Cf) (k:Nat) (X:Cx) (c:Cc):Prop where
 ok:XOk Γ B (spN Γ cf) k X c
 fn:c.fn=true
 own:iD (Ζ X.prog X.w) X.A X.env X.xe
 hcf:CfN B cf
 hm:Mono cf
section
variable {Γ:Gm}{B:Tb}{cf:Cf}{k w:Nat}{X:Cx}{c:Cc}{Hz:Hp}{gz:G}{x:Expr}{e:E}{n:Str}{pos np:Pos}{i:Nat}
theorem XSt.pe (ok:XSt Γ B cf k X c) (h:chkE B c e x=true):PE X x (TX Γ cf e):=(sA ok.hcf ok.hm e X c x ok.ok h).1
theorem XSt.pt (ok:XSt Γ B cf k X c) (h:chkE B c e x=true):PT X x (TB Γ cf e):=(sA ok.hcf ok.hm e X c x ok.ok h).2.1
theorem noSl {y:Expr}(h:chkE B c e y=true):∀ lo hi st p,y≠.Slice lo hi st p:=fun lo hi st p q=>by
 subst q
 exact JS e h
theorem ZL (h:Y9 x=true) (t:Option Expr) (l:Nat) (env:Env):iz x t l env=pure false:=by
 cases x <;> first | rfl | cases h
theorem Wd (x o y:Expr) (p:Pos) (l:Nat) (env:Env):cZ [.Subscript o y p] x l env=pure false:=by
 cases x <;> rfl
theorem QK (x:Expr) (es:List Expr) (kk:Nat) (p:Pos) (l:Nat) (env:Env):cZ [.Tuple es kk p] x l env=pure false:=by
 cases x <;> rfl
theorem jr (x o y:Expr) (p:Pos) (env:Env):cj [.Subscript o y p] x env=pure none:=by
 cases x <;> rfl
theorem YX (x:Expr) (n:Str) (p:Pos) (env:Env):cj [.Name n p] x env=pure none:=by
 cases x <;> rfl
theorem VB (h:uy x=true) (es:List Expr) (kk:Nat) (p:Pos) (env:Env):cj [.Tuple es kk p] x env=pure none:=by
 cases x <;> first | rfl | cases h
theorem noSC {y:Expr}{g:List Comprehension}{sc:dW}{p:Pos}(e:E) (h:chkE B c e (.SetComp y g sc p)=true):False:=by
 cases e with
 | box e=>exact nobE h
 | _=>exact nobE h
theorem noDC {y z:Expr}{g:List Comprehension}{sc:dW}{p:Pos}(e:E) (h:chkE B c e (.DictComp y z g sc p)=true):False:=by
 cases e with
 | box e=>exact nobE h
 | _=>exact nobE h
theorem UV (ok:XOk Γ B (spN Γ cf) k X c) (hx:chkE B c e x=true) (l:Nat):iz x (some (.Name n np)) l X.env=pure (jW c n np x):=by
 have hk:X.env.kindOf n=c.names.lookup n:=by
  unfold nD
  rw [ok.nm]
 have hb:X.env.blockKind=.function:=by
  unfold Env.blockKind
  rw [ok.kd]
  rfl
 cases x with
 | ListComp y g sc p=>
  show pure (X.env.blockKind==.function&&X.env.kindOf n==some .local&&np.line==p.line&&!(sc.names.any fun (m,k)=>m==n&&(k==.local||k==.cell)))=(pure (c.names.lookup n==some .local&&np.line==p.line&&!(sc.names.any fun (m,k)=>m==n&&(k==.local||k==.cell))):Sem Bool)
  rw [hb,hk]
  rfl
 | SetComp y g sc p=>exact (noSC e hx).elim
 | DictComp y g a sc p=>exact (noDC e hx).elim
 | _=>rfl
theorem zba (ok:XSt Γ B cf k X c) {t:T}{tgt:Expr}(h1:chkE B c e x=true) (hpg:PG X tgt (tgOf X.K t)) (hs:cZ [tgt] x pos.line X.env=pure false) (hw:cj [tgt] x X.env=pure none) (ha:(bB [tgt] X.env).map (·.2)=[gF tgt X.env]):PS X (.Assign [tgt] x pos) (TC Γ cf w Hz gz (.set t e)):=by
 cases hn:noBox e with
 | true=>exact s_set hn (ok.pe h1) hpg hs hw ha
 | false=>
  cases e with
  | box e=>exact zeo (ok.pe (e:=e) (ε _ _ ▸ (show (Jr x&&chkE B c e x)=true from h1)).2) hpg hs hw ha
  | _=>cases hn
theorem zeB (ok:XSt Γ B cf k X c) {t:T}{ts:List Expr}(h:chkC B c (.set t e) (.Assign ts x pos)=true):PS X (.Assign ts x pos) (TC Γ cf w Hz gz (.set t e)):=by
  have h:(match sole ts with
    | some tg=>chkE B c e x&&chkT c t tg&&(match asName tg with
      | some q=>!jW c q.1 q.2 x||qD e
      | none=>Z2 tg&&uy x)
    | none=>false)=true:=h
  cases e1:sole ts with
  | none=>rw [e1] at h;cases h
  | some tg=>
    rw [e1] at h
    have et:=YZ e1
    subst et
    have h:(chkE B c e x&&chkT c t tg&&(match asName tg with
      | some q=>!jW c q.1 q.2 x||qD e
      | none=>Z2 tg&&uy x))=true:=h
    rw [ε,ε] at h
    obtain ⟨⟨h1,h2⟩,h3⟩:=h
    have hpg:=UL ok.ok h2
    cases e2:asName tg with
    | some q=>
      rw [e2] at h3
      have et:=jc e2
      obtain ⟨n,np⟩:=q
      subst et
      have h3:(!jW c n np x||qD e)=true:=h3
      have hsw:=UV (n:=n) (np:=np) ok.ok h1 pos.line
      cases ha:jW c n np x with
      | false=>
        rw [ha] at hsw
        exact zba ok h1 hpg hsw (YX x n np X.env) rfl
      | true=>
        rw [ha] at h3 hsw
        cases e with
        | comp t' js it ifs elt=>
          cases t with
          | one i=>exact zen (sCS ok.hcf ok.hm ok.ok h1) hpg hsw
          | tup is=>exact nobE h2
          | nst _ _=>exact nobE h2
        | _=>cases h3
    | none=>
      rw [e2] at h3
      have h3:(Z2 tg&&uy x)=true:=h3
      rw [ε] at h3
      cases tg with
      | Tuple es kk p=>exact zba ok h1 hpg (QK x es kk p pos.line X.env) (VB h3.2 es kk p X.env) rfl
      | _=>cases h3.1
theorem s_rt (ok:XSt Γ B cf k X c) (h:chkE B c e x=true):PS X (.Return (some x) pos) (TC Γ cf w Hz gz (.ret e)):=by
 by_cases hv:∃ i,e=.var i
 ·obtain ⟨i,rfl⟩:=hv
  have hb:Ι x.ctorIdx 23=true:=by revert h;cases x <;> first | exact non | exact fun _=>rfl
  revert h;apply xX hb;clear hb;intro n p h
  have h:(c.N[i]?==some n&&visK (c.names.lookup n)&&yu n)=true:=h
  simp only [ε] at h
  obtain ⟨q1,q2,_⟩:=yc h.2
  exact zeq (by rw [ok.ok.N];exact eq_of_beq h.1.1) (ok.ok.vis h.1.2) q1 q2
 ·exact s_ret (fun i q=>hv ⟨i,q⟩) (ok.pe h)
theorem Vs {ts:List Expr}{q:Expr×Expr×Pos}(h:(sole ts).bind asSub=some q):ts=[.Subscript q.1 q.2.1 q.2.2]:=by
 cases e1:sole ts with
 | none=>rw [e1] at h;cases h
 | some tg=>
  rw [e1] at h
  rw [YZ e1,za2 h]
theorem s_st1 (ok:XSt Γ B cf k X c) {kx v:E}{ts:List Expr}(h:chkC B c (.stv i kx v) (.Assign ts x pos)=true):PS X (.Assign ts x pos) (TC Γ cf w Hz gz (.stv i kx v)):=by
  have h:(match (sole ts).bind asSub with
    | some q=>(match asName q.1 with
      | some r=>chkN c i r.1&&chkE B c kx q.2.1&&chkE B c v x
      | none=>false)
    | none=>false)=true:=h
  cases e2:(sole ts).bind asSub with
  | none=>rw [e2] at h;cases h
  | some q=>
    rw [e2] at h
    have et:=Vs e2
    subst et
    obtain ⟨o,y,sp⟩:=q
    have h:(match asName o with
      | some r=>chkN c i r.1&&chkE B c kx y&&chkE B c v x
      | none=>false)=true:=h
    cases e3:asName o with
    | none=>rw [e3] at h;cases h
    | some r=>
      rw [e3] at h
      have et:=jc e3
      subst et
      obtain ⟨n,np⟩:=r
      have h:(chkN c i n&&chkE B c kx y&&chkE B c v x)=true:=h
      unfold chkN at h
      simp only [ε] at h
      obtain ⟨⟨h1,h2⟩,h3⟩:=h
      obtain ⟨q1,q2,_⟩:=yc h1.2
      exact s_stv ok.ok.u1 (by rw [ok.ok.N];exact eq_of_beq h1.1.1) (ok.ok.vis h1.1.2) q1 q2 (ok.pe h3) (ok.pe h2) (noSl h2) (Wd x _ y sp pos.line X.env) (jr x _ y sp X.env) rfl
theorem s_st2 (ok:XSt Γ B cf k X c) {o kx v:E}{ts:List Expr}(h:chkC B c (.sti o kx v) (.Assign ts x pos)=true):PS X (.Assign ts x pos) (TC Γ cf w Hz gz (.sti o kx v)):=by
  have h:(match (sole ts).bind asSub with
    | some q=>chkE B c o q.1&&chkE B c kx q.2.1&&chkE B c v x
    | none=>false)=true:=h
  cases e2:(sole ts).bind asSub with
  | none=>rw [e2] at h;cases h
  | some q=>
    rw [e2] at h
    have et:=Vs e2
    subst et
    obtain ⟨z,y,sp⟩:=q
    have h:(chkE B c o z&&chkE B c kx y&&chkE B c v x)=true:=h
    simp only [ε] at h
    obtain ⟨⟨h1,h2⟩,h3⟩:=h
    exact s_sti ok.ok.u1 (ok.pe h3) (ok.pe h1) (ok.pe h2) (noSl h2) (Wd x z y sp pos.line X.env) (jr x z y sp X.env) rfl
mutual
theorem sC (ok:XSt Γ B cf k X c):∀ (s:C) (st:Stmt),chkC B c s st=true->PS X st (TC Γ cf w Hz gz s)
 | .set t e,st,h=>by
  have hb:Ι st.ctorIdx 5=true:=by revert h;cases st <;> first | exact non | exact fun _=>rfl
  revert h;apply uw hb;clear hb;intro ts x pos h
  exact zeB ok h
 | .expr e,st,h=>by
  have hb:Ι st.ctorIdx 24=true:=by revert h;cases st <;> first | exact non | exact fun _=>rfl
  revert h;apply Y7 hb;clear hb;intro x pos h
  have h:(chkE B c e x&&Y9 x)=true:=h
  simp only [ε] at h
  exact zey (ok.pe h.1) (ZL h.2 none pos.line X.env)
 | .ret e,st,h=>by
  have hb:Ι st.ctorIdx 3=true:=by revert h;cases st <;> first | exact non | exact fun _=>rfl
  revert h;apply ZJ hb;clear hb;intro v pos h
  cases v with
  | none=>exact nobE h
  | some x=>exact s_rt ok h
 | .retN,st,h=>by
  have hb:Ι st.ctorIdx 3=true:=by revert h;cases st <;> first | exact non | exact fun _=>rfl
  revert h;apply ZJ hb;clear hb;intro v pos h
  cases v with
  | some x=>exact nobE h
  | none=>exact zer
 | .ite e a b,st,h=>by
  have hb:Ι st.ctorIdx 12=true:=by revert h;cases st <;> first | exact non | exact fun _=>rfl
  revert h;apply ofSIf hb;clear hb;intro x aa bb pos h
  have h:(chkE B c e x&&chkCs B c a aa&&chkCs B c b bb)=true:=h
  simp only [ε] at h
  exact s_if (ok.pt h.1.1) (sCs ok a aa h.1.2) (sCs ok b bb h.2)
 | .whl e b,st,h=>by
  have hb:Ι st.ctorIdx 11=true:=by revert h;cases st <;> first | exact non | exact fun _=>rfl
  revert h;apply zap hb;clear hb;intro x bb r pos h
  have h:(chkE B c e x&&chkCs B c b bb&&wu r)=true:=h
  simp only [ε] at h
  have hr:=vU h.2
  subst hr
  exact zce (ok.pt h.1.1) (sCs ok b bb h.1.2) ok.own
 | .forr t it b,st,h=>by
  have hb:Ι st.ctorIdx 9=true:=by revert h;cases st <;> first | exact non | exact fun _=>rfl
  revert h;apply zfa hb;clear hb;intro tgt x bb r pos h
  have h:(chkI B c it tgt x&&chkT c t tgt&&xm x&&chkCs B c b bb&&wu r)=true:=h
  simp only [ε] at h
  obtain ⟨⟨⟨⟨h1,h2⟩,h3⟩,h4⟩,h5⟩:=h
  have hr:=vU h5
  subst hr
  exact s_for (sI ok.hcf ok.hm it X c tgt x ok.ok h1) (UL ok.ok h2) (sCs ok b bb h4) ok.own ok.ok.calm (Yc h3 X.env)
 | .app i e,st,h=>by
  have hb:Ι st.ctorIdx 24=true:=by revert h;cases st <;> first | exact non | exact fun _=>rfl
  revert h;apply Y7 hb;clear hb;intro x pos h
  obtain ⟨n,np,ap,y,cp,rfl,h1,h3,h4,h5⟩:=jN (show wN B c "append" i e x=true from h)
  unfold chkN at h1
  simp only [ε] at h1
  obtain ⟨q1,q2,_⟩:=yc h1.2
  exact s_app (by rw [ok.ok.N];exact eq_of_beq h1.1.1) (ok.ok.vis h1.1.2) q1 q2 (ok.pe h3) h4 h5
 | .ext i e,st,h=>by
  have hb:Ι st.ctorIdx 24=true:=by revert h;cases st <;> first | exact non | exact fun _=>rfl
  revert h;apply Y7 hb;clear hb;intro x pos h
  obtain ⟨n,np,ap,y,cp,rfl,h1,h3,h4,h5⟩:=jN (show wN B c "extend" i e x=true from h)
  unfold chkN at h1
  simp only [ε] at h1
  obtain ⟨q1,q2,_⟩:=yc h1.2
  exact s_ext (by rw [ok.ok.N];exact eq_of_beq h1.1.1) (ok.ok.vis h1.1.2) q1 q2 (ok.pe h3) h4 h5
 | .stv i kx v,st,h=>by
  have hb:Ι st.ctorIdx 5=true:=by revert h;cases st <;> first | exact non | exact fun _=>rfl
  revert h;apply uw hb;clear hb;intro ts x pos h
  exact s_st1 ok h
 | .sti o kx v,st,h=>by
  have hb:Ι st.ctorIdx 5=true:=by revert h;cases st <;> first | exact non | exact fun _=>rfl
  revert h;apply uw hb;clear hb;intro ts x pos h
  exact s_st2 ok h
 | .appR o e,st,h=>nobE h
 | .pop i,st,h=>nobE h
 | .popO t i,st,h=>nobE h
 | .popR t o,st,h=>nobE h
 | .pass,st,h=>by
  have hb:Ι st.ctorIdx 25=true:=by revert h;cases st <;> first | exact non | exact fun _=>rfl
  revert h;apply zcZ hb;clear hb;intro pos h
  exact zet
 | .brk,st,h=>by
  have hb:Ι st.ctorIdx 26=true:=by revert h;cases st <;> first | exact non | exact fun _=>rfl
  revert h;apply zaq hb;clear hb;intro pos h
  exact s_brk
 | .cnt,st,h=>by
  have hb:Ι st.ctorIdx 27=true:=by revert h;cases st <;> first | exact non | exact fun _=>rfl
  revert h;apply Y8 hb;clear hb;intro pos h
  exact s_cnt
 | .frz _,st,h=>by revert h;cases st <;> exact nobE
 | .frr _,st,h=>by revert h;cases st <;> exact nobE
 | .frk _,st,h=>by revert h;cases st <;> exact nobE
theorem sCs (ok:XSt Γ B cf k X c):∀ (ss:List C) (sts:List Stmt),chkCs B c ss sts=true->PSs X sts (TCs Γ cf w Hz gz ss)
 | [],sts,h=>by
  cases sts with
  | nil=>exact zem
  | cons _ _=>exact nobE h
 | s::ss,sts,h=>by
  by_cases hf:∃ i,s=.frz i
  ·obtain ⟨i,rfl⟩:=hf
   exact s_frz (sCs ok ss sts (by cases sts <;> exact h))
  by_cases hr:∃ i,s=.frr i
  ·obtain ⟨i,rfl⟩:=hr
   exact s_frr (sCs ok ss sts (by cases sts <;> exact h))
  by_cases hk:∃ i,s=.frk i
  ·obtain ⟨i,rfl⟩:=hk
   exact s_frk (sCs ok ss sts (by cases sts <;> exact h))
  ·cases sts with
   | nil=>cases s <;> first | exact nobE h | exact absurd ⟨_,rfl⟩ hf | exact absurd ⟨_,rfl⟩ hr | exact absurd ⟨_,rfl⟩ hk
   | cons st sts=>
    have h:(chkC B c s st&&chkCs B c ss sts)=true:=by cases s <;> first | exact h | exact absurd ⟨_,rfl⟩ hf | exact absurd ⟨_,rfl⟩ hr | exact absurd ⟨_,rfl⟩ hk
    rw [ε] at h
    exact zcf (sC ok s st h.1) (sCs ok ss sts h.2)
end
end
theorem ln1 {α:Type}:∀ {l:List α},l.length=1->∃ a,l=[a]
 | [a],_=>⟨a,rfl⟩
theorem ln2 {α:Type}{l:List α}(h:l.length=2):∃ a0 a1,l=[a0,a1]:=by
 cases l with
 | nil=>cases h
 | cons a0 l=>
  obtain ⟨a1,rfl⟩:=ln1 (m8 h)
  exact ⟨a0,a1,rfl⟩
theorem ln3 {α:Type}{l:List α}(h:l.length=3):∃ a0 a1 a2,l=[a0,a1,a2]:=by
 cases l with
 | nil=>cases h
 | cons a0 l=>
  obtain ⟨a1,a2,rfl⟩:=ln2 (m8 h)
  exact ⟨a0,a1,a2,rfl⟩
theorem ln4 {α:Type}{l:List α}(h:l.length=4):∃ a0 a1 a2 a3,l=[a0,a1,a2,a3]:=by
 cases l with
 | nil=>cases h
 | cons a0 l=>
  obtain ⟨a1,a2,a3,rfl⟩:=ln3 (m8 h)
  exact ⟨a0,a1,a2,a3,rfl⟩
noncomputable def fnsOf (rs:List Row):Nat->Option Fn:=fun i=>(rs[i]?).map (·.fn)
noncomputable def Jf (N ps:List Str) (sc:dW):Bool:=
 (sc.kind==.function)&&!sc.isCoroutine&&!sc.isGenerator&&decide N.Nodup&&(N.take ps.length==ps)&&ps.all (fun x=>sc.names.lookup x==some .local||sc.names.lookup x==some .cell)&&sc.names.all (fun y=>y.2 != .free)
theorem Je {N ps:List Str}{sc:dW}(h:Jf N ps sc=true):qR N ps sc:=by
 unfold Jf at h
 simp only [ε,aO,ik,decide_eq_true_eq,pP,beq_iff_eq,bne_iff_ne] at h
 obtain ⟨⟨⟨⟨⟨⟨h1,h2⟩,h3⟩,h4⟩,h5⟩,h6⟩,h7⟩:=h
 exact ⟨h1,h2,h3,h4,h5,h6,h7⟩
structure RowOk (B:Tb) (r:Row):Prop where
 sc:Jf r.N r.ps (zE r.st)=true
 ck:chkCs B ⟨(zE r.st).names,r.N,true⟩ r.fn.body (zY r.st)=true
 np:r.fn.np=r.ps.length
 nv:r.fn.nv=r.N.length
 bd:∀ (kV doc pm:δ) (an:Option Addr) (cdv ct:δ) (us:List δ),us.length=r.ps.length->bindArgs (W.fnOf r.name r.name (yh r.st) (zY r.st) (zE r.st) .none kV doc pm an cdv ct) ⟨us,[]⟩=pure (r.ps.zip us)
def KwOk (rs:List Row) (q:Nat×List Str×List Nat):Prop:=q.2.1≠[]/\∀ r,rs[q.1]?=some r->∀ (kV doc pm:δ) (an:Option Addr) (cdv ct:δ) (ws:List δ),ws.length=q.2.1.length ->
 bindArgs (W.fnOf r.name r.name (yh r.st) (zY r.st) (zE r.st) .none kV doc pm an cdv ct) ⟨[],q.2.1.zip ws⟩=pure (r.ps.zip (q.2.2.map fun i=>ws.getD i .none))
structure DefAt (K:W.Frag) (x:Str) (st:Stmt):Prop where
 ex:∃ f fd,Fun K x x st f fd/\W.nsIn K Ϗ x=some (some (.ref f))
theorem zfU {K:W.Frag}{x:Str}{st:Stmt}{f:Addr}{oc:δ}{od an:Option Addr}{osl:Array (Option δ)}{kV doc pm cdv ct:δ}(a:W.nsIn K Ϗ x=some (some (.ref f)))
  (l:K.lookup f=some ⟨oc,od,.func (W.fnOf x x (yh st) (zY st) (zE st) .none kV doc pm an cdv ct),osl⟩) (c:W.codeIn K cdv x=true) (k:W.keepIn K (.ref f)=true):DefAt K x st:=⟨f,_,zfO l c k,a⟩
noncomputable def faOf (K:W.Frag) (r:Row):Option Addr:=open Classical in if h:∃ f,∃ fd,Fun K r.name r.name r.st f fd/\W.nsIn K Ϗ r.name=some (some (.ref f)) then some (cT h) else none
theorem KZ {K:W.Frag}{r:Row}(h:∃ f,∃ fd,Fun K r.name r.name r.st f fd/\W.nsIn K Ϗ r.name=some (some (.ref f))):faOf K r=some (cT h):=by
 unfold faOf
 exact dif_pos h
noncomputable def gmOf (K:W.Frag) (rs:List Row):Gm where
 K:=K
 fa:=fun i=>(rs[i]?).bind (faOf K)
 ca:=fun _=>none
def AllR {α:Type}(Q:α->Prop):List α->Prop
 | []=>True
 | a::r=>Q a/\AllR Q r
theorem AllR.at {α:Type}{Q:α->Prop}:∀ {l:List α}{i:Nat}{a:α},AllR Q l->l[i]?=some a->Q a
 | [],_,_,_,h=>by simp at h
 | b::r,0,a,⟨h,_⟩,e=>by simp at e;subst e;exact h
 | b::r,i+1,a,⟨_,h⟩,e=>AllR.at (i:=i) h (by simpa using e)
theorem AllR.mem {α:Type}{Q:α->Prop}:∀ {l:List α}{a:α},AllR Q l->a∈l->Q a
 | b::r,a,⟨h,t⟩,e=>by
  rcases Κ.mp e with rfl | q
  ·exact h
  ·exact AllR.mem t q
structure ModOk (K:W.Frag) (mg:Str->Option δ) (B:Tb) (rs:List Row):Prop where
 fns:B.fns=rs.map (·.name)
 pars:B.pars=rs.map (·.ps)
 rows:AllR (RowOk B) rs
 kws:AllR (KwOk rs) B.kws
 defs:AllR (fun r=>DefAt K r.name r.st) rs
 gl:∀ x u,W.nsIn K Ϗ x=some u->mg x=u
 bare:∀ x∈B.bare,W.nsIn K Ϗ x=some none
 consts:∀ (n:Nat) (x:Str) (d:D),B.consts[n]?=some (x,d)->∃ u v,W.nsIn K Ϗ x=some (some u)/\RelV v u/\∀ g,Has (gmOf K rs) g d v
section
variable {P:Ν}{w:ϖ}{K:W.Frag}{mg:Str->Option δ}{base:Heap}{B:Tb}{rs:List Row}
theorem cf_ok {F:Nat->Option Fn}{wh:Nat}(h:∀ f fn ps,F f=some fn->B.pars[f]?=some ps->fn.np=ps.length):∀ k,CfN B (callW F wh k)
 | 0=>fun _ _ _ _ _ _ q=>q.elim
 | k+1=>fun f ds V S ps hp q=>by
  obtain ⟨fn,e,hl,_⟩:=zH q
  rw [hl,h f fn ps e hp]
theorem U4 {Γ:Gm}{H:Hp}{g:G}{fn:Fn}{N:List Str}{ds:List D}{vs:List V}(h:Hass Γ g ds vs) (hn:fn.nv=N.length):EnvO Γ H H g (entry fn ds) (L2.start N vs):=by
 have hl:=h.len
 have key:∀ (i:Nat) (s:Slot),(entry fn ds)[i]?=some s->(∃ d,ds[i]?=some d/\s=.sh d)\/s=.no:=by
  intro i s e
  unfold entry at e
  by_cases hi:i < ds.length
  ·rw [ώ (by simpa using hi),Δ,θ hi] at e
   cases e
   exact .inl ⟨ds[i],θ hi,rfl⟩
  ·rw [ϑ (by simpa using mD hi),dR] at e
   split at e
   ·cases e;exact .inr rfl
   ·cases e
 refine ⟨?_,fun i d e=>?_,fun i d e=>?_,fun i j d e a h1=>?_⟩
 ·unfold entry L2.start
  simp [hl,hn]
 ·rcases key i _ e with ⟨d',e1,e2⟩ | e2
  ·cases e2
   obtain ⟨v,q,hv⟩:=h.get e1
   refine ⟨v,?_,hv⟩
   unfold L2.start
   have hi:=(π.mp q).1
   rw [ώ (by simpa using hi),Δ,q]
   rfl
  ·cases e2
 ·rcases key i _ e with ⟨d',e1,e2⟩ | e2 <;> cases e2
 ·rcases key i _ h1 with ⟨d',e1,e2⟩ | e2 <;> cases e2
theorem zcO {X:Cx}(h:X.xe=fun _ _=>False):iD (Ζ X.prog X.w) X.A X.env X.xe:=by
 rw [h]
 exact iD.never
theorem fn_e {wh k f:Nat}{r:Row}{fa:Addr}{fd:bJ}(md:ModOk K mg B rs) (hr:rs[f]?=some r) (F:Fun K r.name r.name r.st fa fd) (ih:∀ (g:Nat) (x:Str),B.fns[g]?=some x->FnI (gmOf K rs) B (spN (gmOf K rs) (callW (fnsOf rs) wh k)) k P w K mg base g x):
  FnOk P w K mg base CX0 (k+1) fa fd r.ps (spN (gmOf K rs) (callW (fnsOf rs) wh (k+1)) f r.ps.length):=by
 have ro:=md.rows.at hr
 have sc:=Je ro.sc
 have hcf:CfN B (callW (fnsOf rs) wh k):=cf_ok (fun f fn ps h1 h2=>by
  unfold fnsOf at h1
  rw [md.pars,Δ] at h2
  cases e:rs[f]? with
  | none=>rw [e] at h1;cases h1
  | some q=>
   rw [e] at h1 h2
   cases h1
   cases h2
   exact (md.rows.at e).np) k
 refine F.ok sc (fun vs H Q E h=>h.1) fun cdv A outer s H vs Q E hrm h=>?_
 obtain ⟨hl,g,ds,S,V,wok,hh,hc,kk⟩:=h
 obtain ⟨fn,e1,_,hc⟩:=zH hc
 have e2:fnsOf rs f=some r.fn:=by
  unfold fnsOf
  rw [hr]
  rfl
 rw [e2] at e1
 cases e1
 refine ⟨TCs (gmOf K rs) (callW (fnsOf rs) wh k) wh H g r.fn.body,sCs (c:=⟨(zE r.st).names,r.N,true⟩) ⟨⟨rfl,rfl,sc.kind,rfl,sc.nd,fun _ _=>rfl,rfl,hrm,fun x hx=>?_,ih,fun x hx=>?_,fun n x d e=>?_,fun f a e=>?_⟩,rfl,zcO rfl,hcf,zX k⟩ r.fn.body (zY r.st) ro.ck,entry r.fn ds,S,_,g,hc,Step.refl H g,wok,U4 hh ro.nv,?_⟩
 ·rcases hx with hx | hx
  ·exact qM hx
  ·exact absurd rfl (sc.nofree _ (bD hx))
 ·exact md.gl x none (md.bare x hx)
 ·obtain ⟨u,v,e1,e2,e3⟩:=md.consts n x d e
  exact ⟨u,v,md.gl x (some u) e1,e2,e3⟩
 ·obtain ⟨r,er,_⟩:=ύ.mp (show (rs[f]?).bind (faOf K)=some a from e)
  exact ⟨r.name,by rw [md.fns,Δ,er];rfl⟩
 ·exact ⟨fun ρ σ' H' g' S' st le w' env q=>kk (.non,.st) .non H' g' S' st w' rfl q,fun ρ σ' H' g' S' st le w' env q=>q.elim,fun ρ σ' H' g' S' st le w' env q=>q.elim,fun d fr v H' g' S' st le w' vo q=>kk (d,kd fr) v H' g' S' st w' (VN.of vo) q⟩
theorem fn_0 {f:Nat}{wh:Nat}{fa:Addr}{fd:bJ}{ps:List Str}{Γ:Gm}{F:Nat->Option Fn}:FnOk P w K mg base CX0 0 fa fd ps (spN Γ (callW F wh 0) f ps.length):=
 ⟨fun vs H Q E h=>h.1,fun A outer s H args us vs Q E hr he hb hv ⟨_,g,ds,S,V,_,_,hc,_⟩=>hc.elim⟩
theorem Zb:∀ {zs:List V}{ws:List δ}(i:Nat),Vals zs ws->RelV (zs.getD i .non) (ws.getD i .none)
 | _,_,_,.nil=>rfl
 | _,_,0,.cons h _=>h
 | _,_,i+1,.cons _ t=>by
  have:=Zb i t
  simpa using this
theorem X8 {zs:List V}{ws:List δ}(h:Vals zs ws):∀ (perm:List Nat),Vals (perm.map fun i=>zs.getD i .non) (perm.map fun i=>ws.getD i .none)
 | []=>.nil
 | i::r=>.cons (Zb i h) (X8 h r)
theorem zbI {wh k:Nat}(md:ModOk K mg B rs) (h:∀ (f:Nat) (r:Row) (fa:Addr) (fd:bJ),rs[f]?=some r->Fun K r.name r.name r.st fa fd->FnOk P w K mg base CX0 k fa fd r.ps (spN (gmOf K rs) (callW (fnsOf rs) wh k) f r.ps.length)):
  ∀ (f:Nat) (x:Str),B.fns[f]?=some x->FnI (gmOf K rs) B (spN (gmOf K rs) (callW (fnsOf rs) wh k)) k P w K mg base f x:=by
 intro f x hx
 rw [md.fns,Δ] at hx
 cases hr:rs[f]? with
 | none=>rw [hr] at hx;cases hx
 | some r=>
  rw [hr] at hx
  cases hx
  have da:∃ f,∃ fd,Fun K r.name r.name r.st f fd/\W.nsIn K Ϗ r.name=some (some (.ref f)):=(md.defs.at hr).ex
  obtain ⟨fd,F,na⟩:=m9 da
  have ro:=md.rows.at hr
  refine ⟨cT da,fd,r.ps,?_,md.gl _ _ na,F.kp,F.binds ro.bd,?_,h f r _ fd hr F,fun ks perm h1 h2 h3 h4 h5=>?_⟩
  ·show (rs[f]?).bind (faOf K)=_
   rw [hr]
   exact KZ da
  ·rw [md.pars,Δ,hr]
   rfl
  ·have hk:=md.kws.mem h5
   obtain ⟨oc,od,kV,doc,pm,an,cdv,ct,osl,hfd,lk,hcd⟩:=F.ex
   refine ⟨fun s us ws _ hl=>?_,fun {vs us zs ws} r1 r2=>?_⟩
   ·have hl:(if ws.length=ks.length then us++perm.map fun i=>ws.getD i .none else []).length=r.ps.length:=hl
    show BindsTo s fd ⟨us,ks.zip ws⟩ (r.ps.zip (if ws.length=ks.length then us++perm.map fun i=>ws.getD i .none else []))
    by_cases hw:ws.length=ks.length
    ·rw [if_pos hw] at hl ⊢
     have hu:us=[]:=by
      cases us with
      | nil=>rfl
      | cons _ _=>simp at hl;lia
     subst hu
     rw [hfd]
     exact .of_eq (hk.2 r hr kV doc pm an cdv ct ws hw)
    ·rw [if_neg hw] at hl ⊢
     have h0:r.ps=[]:=b7.mp hl.symm
     have hk0:ks=[]:=b7.mp (by rw [h4,h0];rfl)
     exact absurd hk0 hk.1
   ·show Vals (if zs.length=ks.length then vs++perm.map fun i=>zs.getD i .non else []) (if ws.length=ks.length then us++perm.map fun i=>ws.getD i .none else [])
    rw [r2.length]
    split
    ·exact r1.append (X8 r2 perm)
    ·exact .nil
theorem zbQ (wh:Nat) (md:ModOk K mg B rs):∀ (k f:Nat) (x:Str),B.fns[f]?=some x->FnI (gmOf K rs) B (spN (gmOf K rs) (callW (fnsOf rs) wh k)) k P w K mg base f x
 | 0=>zbI md fun f r fa fd hr F=>fn_0
 | k+1=>zbI md fun f r fa fd hr F=>fn_e md hr F (zbQ wh md k)
end
structure Txt (K:W.Frag) (B:Tb) (rs:List Row):Prop where
 defs:AllR (fun r=>DefAt K r.name r.st) rs
 bare:AllR (fun x=>W.nsIn K Ϗ x=some none) B.bare
 consts:∀ (n:Nat) (x:Str) (d:D),B.consts[n]?=some (x,d)->∃ u v,W.nsIn K Ϗ x=some (some u)/\RelV v u/\∀ g,Has (gmOf K rs) g d v
structure Tabs (B:Tb) (rs:List Row):Prop where
 fns:B.fns=rs.map (·.name)
 pars:B.pars=rs.map (·.ps)
 rows:AllR (RowOk B) rs
 kws:AllR (KwOk rs) B.kws
theorem zfg {K:W.Frag}{B:Tb}{rs:List Row}{h:Heap}{mg:Str->Option δ}(t:Tabs B rs) (x:Txt K B rs) (X:K.In h) (N:h.Ns Ϗ mg):ModOk K mg B rs where
 fns:=t.fns
 pars:=t.pars
 rows:=t.rows
 kws:=t.kws
 defs:=x.defs
 gl:=fun y u e=>by
  cases u with
  | none=>exact W.mg_none_of X N e
  | some v=>exact W.mg_of X N e
 bare:=fun y hy=>x.bare.mem hy
 consts:=x.consts
theorem zdK {K:W.Frag}{rs:List Row}{x:Str}{i:Int}{t:Tok}(h:W.nsIn K Ϗ x=some (some (.int i t))):∃ u v,W.nsIn K Ϗ x=some (some u)/\RelV v u/\∀ g,Has (gmOf K rs) g (.int i) v:=⟨_,.int i,h,⟨t,rfl⟩,fun _=>rfl⟩
theorem zfY {K:W.Frag}{rs:List Row}{i:Nat}{r:Row}(hr:rs[i]?=some r) (d:DefAt K r.name r.st):∃ u v,W.nsIn K Ϗ r.name=some (some u)/\RelV v u/\∀ g,Has (gmOf K rs) g (.fn i) v:=by
 obtain ⟨fd,_,e⟩:=m9 d.ex
 refine ⟨.ref (cT d.ex),.ref (cT d.ex),e,rfl,fun g=>⟨cT d.ex,?_,rfl⟩⟩
 show (rs[i]?).bind (faOf K)=_
 rw [hr]
 exact KZ d.ex
theorem zdF {K:W.Frag}{rs:List Row}{x i:Str}{t:Tok}(h:W.nsIn K Ϗ x=some (some (.str i t))):∃ u v,W.nsIn K Ϗ x=some (some u)/\RelV v u/\∀ g,Has (gmOf K rs) g (.str i) v:=⟨_,.str i,h,⟨t,rfl⟩,fun _=>rfl⟩
open PySem L2
mutual
theorem Vb:∀ (n:Nat) (d:D),okP n d=true->eqP d d=true
 | _,.non,_=>rfl
 | _,.bl b,_=>by cases b <;> rfl
 | _,.int i,_=>beq_self_eq_true i
 | _,.str x,_=>beq_self_eq_true x
 | 0,.tup _,h=>nobE h
 | n+1,.tup a,h=>uP n a h
 | 0,.lst _,h=>nobE h
 | n+1,.lst a,h=>uP n a h
 | 0,.dK _ _,h=>nobE h
 | n+1,.dK _ _,h=>nobE h
 | 0,.dT _ _,h=>nobE h
 | n+1,.dT _ _,h=>nobE h
 | 0,.ref _,h=>nobE h
 | n+1,.ref _,h=>nobE h
 | 0,.fn _,h=>nobE h
 | n+1,.fn _,h=>nobE h
 | 0,.scr _,h=>nobE h
 | n+1,.scr _,h=>nobE h
 | 0,.ktp _,h=>nobE h
 | n+1,.ktp _,h=>nobE h
 | 0,.kdc _,h=>nobE h
 | n+1,.kdc _,h=>nobE h
 | 0,.dF _ _,h=>nobE h
 | n+1,.dF _ _,h=>nobE h
theorem uP:∀ (n:Nat) (l:List D),okPs n l=true->eqPs l l=true
 | _,[],_=>rfl
 | n,d::l,h=>by
  have h':(okP n d&&okPs n l)=true:=h
  rw [ε] at h'
  show (eqP d d&&eqPs l l)=true
  rw [Vb n d h'.1,uP n l h'.2];rfl
end
theorem zbG {n:Nat}{a:Int}(h0:0<=a) (h1:a < (n:Int)):idx n a=some a.toNat:=by
 show (if 0<=a then (if a < n then some a.toNat else none) else _)=_
 rw [if_pos h0,if_pos h1]
theorem zbt {i j:Int}(h:0 < j):opD .Mod (.int i) (.int j)=some (.int (i % j),false):=by
 show (if decide (0 < j)=true then some (i % j) else none).map (fun k=>(D.int k,false))=_
 rw [if_pos (decide_eq_true h)];rfl
theorem JX {i j:Int}(h:zL i=true):opD .Mult (.int i) (.int j)=some (.int (i*j),false):=by
 show (if (zL i||zL j)=true then some (D.int (i*j),false) else none)=_
 rw [if_pos (by rw [h];rfl)]
theorem zc8 {i j:Int}(h:zL j=true):opD .Mult (.int i) (.int j)=some (.int (i*j),false):=by
 show (if (zL i||zL j)=true then some (D.int (i*j),false) else none)=_
 rw [if_pos (by rw [h,Bool.or_true])]
theorem Wh {i:Int}(h0:0<=i) (h1:i < 4294967296):zL i=true:=by
 unfold zL
 rw [decide_eq_true (by lia),decide_eq_true (by lia)];rfl
theorem fits_of {n:Nat}(h:n<=1000000):fits n=true:=decide_eq_true h
theorem jF {l:List D}{a:Int}{d:D}(h0:0<=a) (h:l[a.toNat]?=some d):subD (.lst l) (.int a)=some d:=by
 show ((idx l.length a).bind fun k=>l[k]?)=_
 have:=(π.mp h).1
 rw [zbG h0 (by lia)]
 exact h
theorem Uz {l:List D}{a:Int}{d:D}(h0:0<=a) (h:l[a.toNat]?=some d):subD (.tup l) (.int a)=some d:=by
 show ((idx l.length a).bind fun k=>l[k]?)=_
 have:=(π.mp h).1
 rw [zbG h0 (by lia)]
 exact h
theorem JG (n:Nat):∀ (ns:List Int),okPs n (ns.map D.int)=true
 | []=>rfl
 | i::ns=>by
  show (okP n (.int i)&&okPs n (ns.map D.int))=true
  rw [JG n ns]
  cases n <;> rfl
theorem yS {n:Nat}:∀ {l:List D},(∀ d∈l,okP n d=true)->okPs n l=true
 | [],_=>rfl
 | d::l,h=>by
  show (okP n d&&okPs n l)=true
  rw [h d (υ ..),yS fun x hx=>h x (ι _ hx)];rfl
theorem Z5:∀ (ns:List Int),intsD (ns.map D.int)=some ns
 | []=>rfl
 | i::ns=>by
  show (intsD (ns.map D.int)).map (i::·)=_
  rw [Z5 ns];rfl
theorem zdR {a b:List D}(h:a.length+b.length<=1000000):opD .Add (.tup a) (.tup b)=some (.tup (a++b),false):=by
 show (if fits (a.length+b.length)=true then some (D.tup (a++b),false) else none)=_
 rw [if_pos (fits_of h)]
theorem yr {a b:List D}(h:a.length+b.length<=1000000):opD .Add (.lst a) (.lst b)=some (.lst (a++b),true):=by
 show (if fits (a.length+b.length)=true then some (D.lst (a++b),true) else none)=_
 rw [if_pos (fits_of h)]
section
variable {α:Type}{F:Nat->Option Fn}{cf:Cf}{w k f:Nat}{ds:List D}{V V':Po}{S:Store}{K:Ko}{ρ:List Slot}{x:Vl}{d:D}{b:Bool}{l:List D}{c:C}{cs:List C}
theorem zx {o:Option α}{Q:α->Prop}{a:α}(h:o=some a) (q:Q a):opt o Q:=by subst h;exact q
theorem yl {o:Option (List Slot)}{Q:List Slot->Prop}{a:List Slot}(h:o=some a) (q:Q a):optS o Q:=by subst h;exact q
theorem opv_s {o:Option (D×Bool)}{Q:Vl->Prop}(h:o=some (d,false)) (q:Q (d,.st)):opV o Q:=by subst h;exact q
theorem opv_f {o:Option (D×Bool)}{Q:Vl->Prop}(h:o=some (d,true)) (q:Q (d,.fr)):opV o Q:=by subst h;exact q
theorem tst_T {T F:Prop}(h:b=true) (q:T):tst b T F:=by subst h;exact q
theorem tst_F {T F:Prop}(h:b=false) (q:F):tst b T F:=by subst h;exact q
theorem yZ {T F:Prop}(t:b=true->T) (f:b=false->F):tst b T F:=by
 cases b with
 | true=>exact t rfl
 | false=>exact f rfl
theorem kp_s {Q:D->Prop}(h:x=(d,.st)) (q:Q d):keep x Q:=by subst h;exact q
theorem kp_f {Q:D->Prop}(h:x=(d,.fr)) (q:Q d):keep x Q:=by subst h;exact q
theorem bx_f {Q:D->Prop}(h:x=(d,.fr)) (q:Q d):boxd x Q:=by subst h;exact q
theorem rv_s {Q:O->Prop}(h:x=(d,.st)) (q:Q (.ret d false)):retV x Q:=by subst h;exact q
theorem rv_f {Q:O->Prop}(h:x=(d,.fr)) (q:Q (.ret d true)):retV x Q:=by subst h;exact q
theorem bl_mk {Q:Bool->Prop}(h:d=.bl b) (q:Q b):isB d Q:=by subst h;exact q
theorem zfF {Q:Nat->Prop}{f:Nat}(h:d=.fn f) (q:Q f):isF d Q:=by subst h;exact q
theorem zfE {Q:Int->Prop}{i:Int}(h:d=.int i) (q:Q i):isZ d Q:=by subst h;exact q
theorem sel_s {s:Option Slot}{P Q:D->Prop}(h:s=some (.sh d)) (q:P d):sel s P Q:=by subst h;exact q
theorem sel_o {s:Option Slot}{P Q:D->Prop}(h:s=some (.ow d)) (q:Q d):sel s P Q:=by subst h;exact q
theorem rdv_s {s:Option Slot}{Q:Vl->Prop}(h:s=some (.sh d)) (q:Q (d,.st)):rdV s Q:=by subst h;exact q
theorem rdv_o {s:Option Slot}{Q:Vl->Prop}(h:s=some (.ow d)) (q:Q (d,.bo)):rdV s Q:=by subst h;exact q
theorem zeW {s:Option Slot}{Q:List D->Prop}(h:s=some (.ow (.lst l))) (q:Q l):owL s Q:=by subst h;exact q
theorem zeX {s:Option Slot}{Q:D->Prop}(h:s=some (.ow d)) (q:Q d):owD s Q:=by subst h;exact q
theorem zfZ {s:Option D}{Q:List D->Prop}(h:s=some (.lst l)) (q:Q l):isL s Q:=by subst h;exact q
theorem zfD {n:Nat}{Q:Nat->Prop}(h:d=.ref n) (q:Q n):isR d Q:=by subst h;exact q
theorem zdG (h:wpC cf w c ρ (nxt (fun ρ' S'=>wpCs cf w cs ρ' K S') K) S):wpCs cf w (c::cs) ρ K S:=h
theorem zfV (h:K (.next ρ) S):wpCs cf w [] ρ K S:=h
theorem zbZ {g:List Slot->Store->Prop}(h:g ρ S):nxt g K (.next ρ) S:=h
theorem zd3 {g:List Slot->Store->Prop}(h:K (.ret d b) S):nxt g K (.ret d b) S:=h
theorem zd5 {g:List Slot->Store->Prop}(h:K (.brk ρ) S):nxt g K (.brk ρ) S:=h
theorem zd4 {g:List Slot->Store->Prop}(h:K (.cnt ρ) S):nxt g K (.cnt ρ) S:=h
theorem to_s (h:V (d,.st) S):told V (.ret d false) S:=h
theorem to_f (h:V (d,.fr) S):told V (.ret d true) S:=h
theorem zbY (h:V (.non,.st) S):told V (.next ρ) S:=h
theorem zbX {I:List Slot->Store->Prop}(h:I ρ S):trn K I (.next ρ) S:=h
theorem zd1 {I:List Slot->Store->Prop}(h:I ρ S):trn K I (.cnt ρ) S:=h
theorem zd2 {I:List Slot->Store->Prop}(h:K (.next ρ) S):trn K I (.brk ρ) S:=h
theorem zd0 {I:List Slot->Store->Prop}(h:K (.ret d b) S):trn K I (.ret d b) S:=h
theorem wp_mono (h:callW F w k f ds V S) (q:∀ x S,V x S->V' x S):callW F w k f ds V' S:=zX k f ds V V' S q h
theorem zq {fn:Fn}{bd:List C}(hf:F f=some fn) (hl:ds.length=fn.np) (hb:fn.body=bd) (h:wpCs (callW F w k) w bd (entry fn ds) (told V) S):callW F w (k+1) f ds V S:=by
 show opt (F f) _
 rw [hf]
 exact ⟨hl,by rw [hb];exact h⟩
theorem wp_walk {t:T}{A:List C}(I:List D->List Slot->Store->Prop)
  (step:∀ d l ρ S,I (d::l) ρ S->optS (bindT ρ t (d,false)) fun ρ1=>wpCs (callW F w k) w A ρ1 (trn K (I l)) S)
  (fin:∀ ρ S,I [] ρ S->K (.next ρ) S):∀ (l:List D) (ρ:List Slot) (S:Store),I l ρ S->forW t (fun ρ=>wpCs (callW F w k) w A ρ) l ρ K S
 | [],ρ,S,h=>fin ρ S h
 | d::l,ρ,S,h=>zp (fun ρ1 q=>zU (zX k) A (vH (fun ρ S=>wp_walk I step fin l ρ S) fun _ _=>id) q) (step d l ρ S h)
theorem xF {e:E}{A:List C}(I:Nat->List Slot->Store->Prop)
  (step:∀ n ρ S,I n ρ S->wpE (callW F w k) ρ e (fun x S1=>isB x.1 fun b=>tst b (∃ m,n=m+1/\wpCs (callW F w k) w A ρ (trn K (I m)) S1) (K (.next ρ) S1)) S):
  ∀ (N n:Nat) (ρ:List Slot) (S:Store),n < N->I n ρ S->whlW (fun ρ=>wpX (callW F w k) ρ e) (fun ρ=>wpCs (callW F w k) w A ρ) N ρ K S
 | 0,n,ρ,S,hn,h=>absurd hn (Nat.not_lt_zero n)
 | N+1,n,ρ,S,hn,h=>za (zX k) e (fun x S1=>yd fun b=>zu (fun ⟨m,e,q⟩=>zU (zX k) A (vH (fun ρ S=>xF I step N m ρ S (by lia)) fun _ _=>id) q) id) (step n ρ S h)
theorem jZ {s:D->(Option D->Store->Prop)->Store->Prop}{V:List D->Store->Prop}(hs:∀ d K K' S,(∀ o S,K o S->K' o S)->s d K S->s d K' S) (I:List D->List D->Store->Prop)
  (step:∀ d l acc S,I (d::l) acc S->s d (fun o S1=>match o with
   | some x=>tst (fits (acc.length+1)) (I l (acc++[x]) S1) False
   | none=>I l acc S1) S)
  (fin:∀ acc S,I [] acc S->V acc S):∀ (l acc:List D) (S:Store),I l acc S->walkW s l acc V S
 | [],acc,S,h=>fin acc S h
 | d::l,acc,S,h=>hs d _ _ S (fun o S1=>by
  cases o with
  | some x=>exact zu (jZ hs I step fin l _ S1) id
  | none=>exact jZ hs I step fin l acc S1) (step d l acc S h)
theorem e_var {i:Nat}:wpE cf ρ (.var i) V S=(rdV ρ[i]? fun x=>V x S):=rfl
theorem e_con {d:D}:wpE cf ρ (.con d) V S=(V (d,.st) S):=rfl
theorem e_glo {n:Nat}{d:D}:wpE cf ρ (.glo n d) V S=(V (d,.st) S):=rfl
theorem e_bin {op:mV}{a:E}{b:E}:wpE cf ρ (.bin op a b) V S=(wpE cf ρ a (fun x S1=>wpE cf ρ b (fun y S2=>opV (opD op (deref S2 x.1) (deref S2 y.1)) fun x=>V x S2) S1) S):=rfl
theorem e_neg {a:E}:wpE cf ρ (.neg a) V S=(wpE cf ρ a (fun x S1=>isZ x.1 fun i=>V (.int (-i),.st) S1) S):=rfl
theorem e_cmp {op:fD}{a:E}{b:E}:wpE cf ρ (.cmp op a b) V S=(wpE cf ρ a (fun x S1=>wpE cf ρ b (fun y S2=>opt (cmpD op (deref S2 x.1) (deref S2 y.1)) fun r=>V (.bl r,.st) S2) S1) S):=rfl
theorem e_chn {o1:fD}{o2:fD}{a:E}{b:E}{c:E}:wpE cf ρ (.chn o1 o2 a b c) V S=(wpE cf ρ a (fun x S1=>wpE cf ρ b (fun y S2=>opt (cmpD o1 (deref S2 x.1) (deref S2 y.1)) fun r=>tst r (wpE cf ρ c (fun z S3=>opt (cmpD o2 (deref S3 y.1) (deref S3 z.1)) fun r=>V (.bl r,.st) S3) S2) (V (.bl false,.st) S2)) S1) S):=rfl
theorem e_not {a:E}:wpE cf ρ (.not a) V S=(wpE cf ρ a (fun x S1=>isB x.1 fun b=>V (.bl (!b),.st) S1) S):=rfl
theorem e_and {a:E}{b:E}:wpE cf ρ (.and a b) V S=(wpE cf ρ a (fun x S1=>isB x.1 fun r=>tst r (wpE cf ρ b V S1) (V (.bl false,.st) S1)) S):=rfl
theorem e_or {a:E}{b:E}:wpE cf ρ (.or a b) V S=(wpE cf ρ a (fun x S1=>isB x.1 fun r=>tst r (V (.bl true,.st) S1) (wpE cf ρ b V S1)) S):=rfl
theorem e_ite {c:E}{a:E}{b:E}:wpE cf ρ (.ite c a b) V S=(wpE cf ρ c (fun x S1=>isB x.1 fun r=>tst r (wpE cf ρ a V S1) (wpE cf ρ b V S1)) S):=rfl
theorem e_tup {es:List E}:wpE cf ρ (.tup es) V S=(wpEs cf ρ es (fun ds S1=>tst (fits ds.length) (V (.tup ds,.st) S1) False) S):=rfl
theorem e_lst {es:List E}:wpE cf ρ (.lst es) V S=(wpEs cf ρ es (fun ds S1=>tst (fits ds.length) (V (.lst ds,.fr) S1) False) S):=rfl
theorem e_dic {tk:Bool}{ks:List Key}{es:List E}:wpE cf ρ (.dic tk ks es) V S=(wpEs cf ρ es (fun ds S1=>tst (dicOk tk ks ds) (V (dicV tk ks ds,.fr) S1) False) S):=rfl
theorem e_sub {a:E}{i:E}:wpE cf ρ (.sub a i) V S=(wpE cf ρ a (fun x S1=>wpE cf ρ i (fun y S2=>opt (subD (deref S2 x.1) y.1) fun d=>V (d,.st) S2) S1) S):=rfl
theorem e_slc {a:E}{lo:Option E}{hi:Option E}:wpE cf ρ (.slc a lo hi) V S=(wpE cf ρ a (fun x S1=>wpO cf ρ lo (fun l S2=>wpO cf ρ hi (fun h S3=>opV (slcD (deref S3 x.1) l h) fun x=>V x S3) S2) S1) S):=rfl
theorem e_bi {b:BI}{e:E}:wpE cf ρ (.bi b [e]) V S=(wpE cf ρ e (fun x S1=>opV (biD b [deref S1 x.1]) fun x=>V x S1) S):=rfl
theorem e_bi2 {b:BI}{e e':E}:wpE cf ρ (.bi b [e,e']) V S=(wpEs cf ρ [e,e'] (fun ds S1=>opV (biD b (ds.map (deref S1))) fun x=>V x S1) S):=rfl
theorem e_mth {m:MT}{o:E}{es:List E}:wpE cf ρ (.mth m o es) V S=(wpE cf ρ o (fun x S1=>tst (mthK m (deref S1 x.1)) (wpEs cf ρ es (fun ds S2=>opV (mthD m (deref S2 x.1) ds) fun x=>V x S2) S1) False) S):=rfl
theorem ye {f:Nat}{es:List E}:wpE cf ρ (.call f es) V S=(wpEs cf ρ es (fun ds S1=>cf f ds V S1) S):=rfl
theorem zdA {f:Nat}{perm:List Nat}{es:List E}:wpE cf ρ (.callk f perm es) V S=(wpEs cf ρ es (fun ds S1=>opt (perm.mapM fun i=>ds[i]?) fun ds=>cf f ds V S1) S):=rfl
theorem e_box {e:E}:wpE cf ρ (.box e) V S=(wpE cf ρ e (fun x S1=>boxd x fun d=>V (.ref S1.length,.st) (S1++[d])) S):=rfl
theorem zdz {i:Nat}{es:List E}:wpE cf ρ (.callv i es) V S=(rdV ρ[i]? fun x=>isF x.1 fun f=>wpEs cf ρ es (fun ds S1=>cf f ds V S1) S):=rfl
theorem e_one {e:E}:wpE cf ρ (.one e) V S=(wpE cf ρ e V S):=rfl
theorem e_dk1 {a b:E}:wpE cf ρ (.dk1 a b) V S=(wpE cf ρ a (fun x S1=>keep x fun d=>wpE cf ρ b (fun y S2=>keep y fun e=>opt (dk1D [d,e]) fun r=>V (r,.fr) S2) S1) S):=rfl
theorem zfS {e:E}:wpE cf ρ (.flip e) V S=(wpE cf ρ e (fun x S1=>opV (flipD (deref S1 x.1)) fun x=>V x S1) S):=rfl
theorem wp_lc {t:T}{js:List Nat}{it elt:E}{ifs:List E}(h:wpI cf ρ it (fun its S1=>walkW (cStep cf ρ t js ifs elt) its [] (fun ds S2=>V (.lst ds,.fr) S2) S1) S):wpE cf ρ (.comp t js it ifs elt) V S:=h
theorem wk_go {t:T}{js:List Nat}{elt:E}{ifs:List E}{acc:List D}{V:List D->Store->Prop}(h:optS (bindT (inn ρ t js) t (d,false)) fun ρ'=>wpF cf ρ' ifs (fun b S1=>tst b (wpE cf ρ' elt (fun x S2=>keep x fun y=>tst (fits (acc.length+1)) (walkW (cStep cf ρ t js ifs elt) l (acc++[y]) V S2) False) S1) (walkW (cStep cf ρ t js ifs elt) l acc V S1)) S):walkW (cStep cf ρ t js ifs elt) (d::l) acc V S:=h
theorem zZ {t:T}{js:List Nat}{elt:E}{ifs:List E}{acc:List D}{V:List D->Store->Prop}(h:V acc S):walkW (cStep cf ρ t js ifs elt) [] acc V S:=h
theorem zbN {t:T}{js:List Nat}{ifs:List E}{elt:E}(hm:Mono cf):∀ d K K' S,(∀ o S,K o S->K' o S)->cStep cf ρ t js ifs elt d K S->cStep cf ρ t js ifs elt d K' S:=fun d K K' S q=>zp fun ρ'=>X3 hm ifs fun b S1=>zu (za hm elt fun x S2=>zr fun d=>q _ _) (q _ _)
end
theorem zf9 {l:List D}{x:D}:cutD (l++[x]) none (some (-1))=l:=by
 unfold cutD
 rw [HT.QW]
 have:HT.sIx (l++[x]).length (l++[x]).length (some (-1))=l.length:=by
  show (if (-1:Int) < 0 then (-1+((l++[x]).length:Int)).toNat else min (-1:Int).toNat (l++[x]).length)=_
  rw [if_pos (by decide),Ο]
  simp
  lia
 rw [this]
 simp
theorem at_m1 {l:List D}{x:D}:subD (.tup (l++[x])) (.int (-1))=some x:=by
 show ((idx (l++[x]).length (-1)).bind fun k=>(l++[x])[k]?)=_
 have:idx (l++[x]).length (-1)=some l.length:=by
  show (if (0:Int)<=-1 then _ else if -((l++[x]).length:Int)<=-1 then some (-1+((l++[x]).length:Int)).toNat else none)=_
  rw [if_neg (by decide),if_pos (by simp;lia)]
  simp
  lia
 rw [this]
 simp
theorem zcu {ks:List Key}{vs:List D}{s:Str}{v:D}(h:hasK ks (.inr s)=false) (hl:ks.length+1<=1000000):putD (.dK ks vs) (.str s) v=some (.dK (ks++[.inr s]) (vs++[v])):=by
 show (if fits (ks.length+1)=true then some (D.dK (putKs ks vs (gr s) v).1 (putKs ks vs (gr s) v).2) else none)=_
 rw [if_pos (fits_of hl)]
 unfold putKs
 rw [h];rfl
theorem KJ {t:T}{b:List Slot->Ko->Store->Prop}{d:D}{l:List D}{ρ:List Slot}{K:Ko}{S:Store}(h:optS (bindT ρ t (d,false)) fun ρ1=>b ρ1 (trn K fun ρ' S'=>forW t b l ρ' K S') S):forW t b (d::l) ρ K S:=h
theorem zdE (ns:List Int) (lo hi:Option Int):∃ ms:List Int,cutD (ns.map D.int) lo hi=ms.map D.int/\ms.length<=ns.length:=by
 unfold cutD
 rw [<- List.map_drop,<- List.map_take]
 refine ⟨_,rfl,?_⟩
 rw [dm,dq]
 lia
theorem U9 {x k:Int}(h0:0 < k) (h1:k<=4294967296):zL (x % k)=true:=Wh (fL _ (by lia)) (by have:=dU x h0;lia)
theorem om1 {a b K:Nat}(h:b<=K) (e:Nat.ble a b=true):a<=K:=Ϫ (iG e) h
theorem om2 {a b K:Nat}(h:b<=K+1) (e:Nat.ble (a+1) b=true):a<=K:=Nat.le_of_succ_le_succ (Ϫ (iG e) h)
theorem om3 {b K:Nat}(h:b<=K) (e:Nat.ble 1 b=true):K=K - 1+1:=(Nat.sub_add_cancel (Ϫ (iG e) h)).symm
theorem frIn {h:Heap}:∀ (l:List Addr) (a:Addr) (o:Obj),(l.filterMap fun a=>(h.get? a).map fun o=>(a,o)).lookup a=some o->h.get? a=some o
 | [],a,o,e=>by cases e
 | b::l,a,o,e=>by
  rw [dw] at e
  cases q:h.get? b with
  | none=>rw [q] at e;exact frIn l a o e
  | some x=>
   rw [q] at e
   dsimp only [gM] at e
   rw [aN] at e
   cases hb:a==b with
   | true=>
    rw [hb] at e
    cases eq_of_beq hb
    exact q.trans e
   | false=>
    rw [hb] at e
    exact frIn l a o e
set_option tactic.hygienic true in
theorem zaS {K:W.Frag}{x:Str}{st:Stmt}(e:KY K x=some (W.fnOf x x (yh st) (zY st) (zE st) .none .none .none .none none .none .none,true)):DefAt K x st:=by
 unfold KY at e
 split at e
 ·rename_i f hf
  split at e
  ·rename_i oc od fd osl hl
   obtain ⟨e1,e2⟩:=Prod.mk.inj (ϔ e)
   obtain ⟨c,k⟩:=Ϲ.mp e2
   cases fd
   cases e1
   exact zfU hf hl c k
  ·cases e
 ·cases e
set_option tactic.hygienic true in
theorem zbW {K:W.Frag}{a:Addr}{its:Array δ}(h:tupAt K a=some its):∃ o n,K.lookup a=some o/\o.cls=.type "tuple"/\o.data=.seq its n/\its.size<=sizeLine:=by
 obtain ⟨o,e1,e2⟩:=ύ.mp h
 split at e2
 ·rename_i t js n c1 c2
  split at e2
  ·rename_i c
   cases e2
   obtain ⟨c3,c4⟩:=Ϲ.mp c
   exact ⟨o,n,e1,by rw [c1,eq_of_beq c3],c2,Ϫ (of_decide_eq_true c4) (by rw [Ϧ];decide)⟩
  ·cases e2
 ·cases e2
theorem Xr:∀ (ds:List D) (vs:List δ),jL ds vs=true->∃ xs:List V,Vals xs vs/\∀ (Γ:Gm) (g:G),Hass Γ g ds xs
 | [],[],_=>⟨[],.nil,fun _ _=>rfl⟩
 | .str x::ds,.str y t::vs,h=>by
  obtain ⟨h1,h2⟩:=Ϲ.mp (show (x==y&&jL ds vs)=true from h)
  obtain ⟨xs,v,k⟩:=Xr ds vs h2
  exact ⟨.str x::xs,.cons ⟨t,by rw [eq_of_beq h1]⟩ v,fun Γ g=>⟨_,_,rfl,rfl,k Γ g⟩⟩
 | .int x::ds,.int y t::vs,h=>by
  obtain ⟨h1,h2⟩:=Ϲ.mp (show (x==y&&jL ds vs)=true from h)
  obtain ⟨xs,v,k⟩:=Xr ds vs h2
  exact ⟨.int x::xs,.cons ⟨t,by rw [eq_of_beq h1]⟩ v,fun Γ g=>⟨_,_,rfl,rfl,k Γ g⟩⟩
set_option tactic.hygienic true in
theorem zfT {K:W.Frag}{a:Addr}{ps:List (Str×Int)}(h:dicAt K a ps=true):KDic K a ps:=by
 obtain ⟨h1,h2⟩:=Ϲ.mp h
 refine ⟨?_,fun h k=>W.kt_text_in k h2⟩
 split at h1
 ·rename_i o e
  obtain ⟨h3,h4⟩:=Ϲ.mp h1
  split at h3
  ·rename_i t c
   exact ⟨o,e,by rw [c,eq_of_beq h3],Option.isNone_iff_eq_none.mp h4⟩
  ·cases h3
 ·cases h1
theorem vZ {α β:Type}{f g:α->β}{Q:α->Prop}(h:∀ a,f a=g a->Q a):∀ {l:List α},l.map f=l.map g->AllR Q l
 | [],_=>trivial
 | a::l,e=>by
  obtain ⟨e1,e2⟩:=ϡ e
  exact ⟨h a e1,vZ h e2⟩
set_option tactic.hygienic true in
theorem zfX {K:W.Frag}{rs:List Row}{x:Str}{d:D}(hd:AllR (fun r=>DefAt K r.name r.st) rs) (e:conOk K rs x d=true):∃ u v,W.nsIn K Ϗ x=some (some u)/\RelV v u/\∀ g,Has (gmOf K rs) g d v:=by
 cases d with
 | int i=>
  unfold conOk at e
  dsimp only at e
  split at e
  ·rename_i j t q
   cases eq_of_beq e
   exact zdK q
  ·cases e
 | str y=>
  unfold conOk at e
  dsimp only at e
  split at e
  ·rename_i j t q
   cases eq_of_beq e
   exact zdF q
  ·cases e
 | fn i=>
  unfold conOk at e
  dsimp only at e
  split at e
  ·rename_i r q
   cases eq_of_beq e
   exact zfY q (hd.at q)
  ·cases e
 | ktp ds=>
  unfold conOk at e
  dsimp only at e
  split at e
  ·rename_i a q
   split at e
   ·rename_i its z
    obtain ⟨o,n,z1,z2,z3,z4⟩:=zbW z
    obtain ⟨xs,v,k⟩:=Xr _ _ e
    exact ⟨.ref a,.ref a,q,rfl,fun g=>⟨a,xs,rfl,⟨o,its,n,z1,z2,z3,z4,v⟩,k _ g⟩⟩
   ·cases e
  ·cases e
 | kdc ps=>
  unfold conOk at e
  dsimp only at e
  split at e
  ·rename_i a q
   exact ⟨.ref a,.ref a,q,rfl,fun g=>⟨a,rfl,zfT e⟩⟩
  ·cases e
 | _=>cases e
theorem zdY {K:W.Frag}{B:Tb}{rs:List Row}(e:seenT K B rs=wantT B rs):Txt K B rs:=by
 obtain ⟨e1,e2⟩:=Prod.mk.inj e
 obtain ⟨e2,e3⟩:=Prod.mk.inj e2
 have hd:AllR (fun r=>DefAt K r.name r.st) rs:=vZ (fun r q=>zaS q) e1
 have hc:AllR (fun p:Str×D=>∃ u v,W.nsIn K Ϗ p.1=some (some u)/\RelV v u/\∀ g,Has (gmOf K rs) g p.2 v) B.consts:=vZ (fun p q=>zfX hd q) e3
 exact ⟨hd,vZ (fun x q=>q) e2,fun n x d q=>hc.at q⟩
abbrev TxtIn (B:Tb) (rs:List Row) (h:Heap):Prop:=∃ K:W.Frag,K.In h/\Txt K B rs
theorem zdZ {B:Tb}{rs:List Row}{n:Nat}(w:ϖ) (s:μ) (e:seenT (frOf s.heap n) B rs=wantT B rs):TxtIn B rs s.heap:=⟨frOf s.heap n,fun a o q=>frIn _ a o q,zdY e⟩
theorem walkH {l:W.OpenLaw}{q:Ν}{loose:List Str}{XP:(Str->Option δ)->Heap->Prop}{d:DefRec}{B:Tb}{rs:List Row}{f:Nat}{r:Row}{y:Str}{wh:Nat}(hn:l.most=some 63) (hdf:d.params.defaults=[])
  (hr:rs[f]?=some r) (hd:d.name=r.name) (hps:r.ps=[y]) (t:Tabs B rs)
  (run:∀ ns:List Int,ns.length<=63->callW (fnsOf rs) wh 60 f [.scr ns] (fun x _=>x.1=.bl true) []):W.WalkO q loose XP (fun _ h=>TxtIn B rs h) l.row.toRowW d [] (fun f vs=>PySem.call f vs):=by
 refine Att.XJ hn hdf fun w sy s₁ mg mb fa o pm cd doc a vs ns G Y ho hd' hcd hmg hobj hints hlen hg=>?_
 obtain ⟨K,KX,tx⟩:=Y
 obtain ⟨fa',fd,F,na⟩:=(tx.defs.at hr).ex
 rw [hd] at hmg
 have e:=hmg.symm.trans (W.mg_of KX G.T.g na)
 cases e
 have ro:=t.rows.at hr
 refine zaA (CX:=CX0) (k:=60) (x:=y) (fd:=fd) (sp:=spN (gmOf K rs) (callW (fnsOf rs) wh 60) f 1) KX G.T.g G.T.b G.T.builtins G.T.nolimit hg hobj hints (Ϫ hlen (by decide)) ⟨rfl,rfl,by decide,by decide⟩ (fun base KB NB=>?_) (fun s v=>?_) (fun H hO hS=>?_) fun H e s' z=>z
 ·have md:=zfg t tx KX G.T.g
  have:=fn_e (P:=l.prog) (w:=w) (base:=base) (wh:=wh) (k:=59) md hr F (zbQ wh md 59)
  rw [hps] at this
  exact this
 ·obtain ⟨oc,od,kV,doc,pm,an,cdv,ct,osl,rfl,lk,hcd⟩:=F.ex
  have hb:=ro.bd kV doc pm an cdv ct [v] (by rw [hps];rfl)
  rw [hps] at hb
  exact .of_eq hb
 ·refine ⟨rfl,⟨H,[]⟩,[.scr ns],[],_,⟨Same.refl H,rfl,fW,(fun k c b h1 _ _=>by cases h1),(fun k c b h1 _=>by cases h1)⟩,⟨.ref a,[],rfl,⟨a,rfl,hS⟩,rfl⟩,run ns hlen,fun x v H' g' S' _ _ vx q=>?_⟩
  obtain ⟨d,k⟩:=x
  cases (show d=.bl true from q)
  exact vx.sc fun _ z=>z.elim
noncomputable def drOf (s:Stmt):DefRec:=match s with
 | .FunctionDef n a b _ _ _ sc _ _ p=>⟨n,a,b,sc,p⟩
 | _=>⟨"",yh s,[],zE s,⟨0,0,0,0⟩⟩
theorem zfM {l:W.OpenLaw}{q:Ν}{loose:List Str}{d:DefRec}{B:Tb}{rs:List Row}{f:Nat}{r:Row}{y:Str}{wh:Nat}(N n:Nat) (ok:l.wellSaid=true)
  (left:W.LeftO l.prog q loose (fun s=>W.xlAt q [] s&&W.recOk [] s) (fun s=>seenT (frOf s.heap n) B rs) (fun _=>wantT B rs) N)
  (hdef:W.defOf q l.name=some (d,[])) (hp:l.prog.theDef l.name=some (d.params,d.body,d.scope)) (hk:W.kwWritten? d.params.kwonlyargs d.params.kw_defaults=some [])
  (okk:(W.chainsOk q&&W.opensWell l.prog&&(W.frees l.row.toRowW&&l.row.within.isEmpty))=true) (hb:l.prog.bare) (hw:l.row.toRowW.promised)
  (hn:l.most=some 63) (hdf:d.params.defaults=[]) (hr:rs[f]?=some r) (hd:d.name=r.name) (hps:r.ps=[y]) (t:Tabs B rs)
  (run:∀ ns:List Int,ns.length<=63->callW (fnsOf rs) wh 60 f [.scr ns] (fun x _=>x.1=.bl true) []):l.Holds:=
 W.holds_law ok fun said=>W.holds_open (r:=l.row) (q:=q) (loose:=loose) (XP:=W.XL q []) (YP:=fun _ h=>TxtIn B rs h) (N:=N) left (fun w s e=>zdZ w s e) (fun w h h' Y k=>Y.elim fun K z=>⟨K,z.1.keeps k,z.2⟩)
  (fun s e=>W.xl_of s (Ϲ.mp e).1) W.XL.keeps hdef hp hk (fun s e=>W.recFacts_of (Ϲ.mp e).2) (Bool.or_true _) said okk hb hw (walkH hn hdf hr hd hps t run)
end EV
namespace Q45
open PySem PySem.Spec PyProof.Rows L2 EV
theorem Xk:RowOk B uh:=⟨by decide +kernel,by decide +kernel,rfl,rfl,fun _ _ _ _ _ _ us hl=>by obtain ⟨a0,e⟩:=ln1 hl;subst e;rfl⟩
theorem qy:RowOk B xT:=⟨by decide +kernel,by decide +kernel,rfl,rfl,fun _ _ _ _ _ _ us hl=>by obtain ⟨a0,e⟩:=ln1 hl;subst e;rfl⟩
theorem uG:RowOk B yG:=⟨by decide +kernel,by decide +kernel,rfl,rfl,fun _ _ _ _ _ _ us hl=>by obtain ⟨a0,e⟩:=ln1 hl;subst e;rfl⟩
theorem k_places:RowOk B Wr:=⟨by decide +kernel,by decide +kernel,rfl,rfl,fun _ _ _ _ _ _ us hl=>by obtain ⟨a0,e⟩:=ln1 hl;subst e;rfl⟩
theorem jf:RowOk B xf:=⟨by decide +kernel,by decide +kernel,rfl,rfl,fun _ _ _ _ _ _ us hl=>by obtain ⟨a0,a1,e⟩:=ln2 hl;subst e;rfl⟩
theorem ZR:RowOk B wU:=⟨by decide +kernel,by decide +kernel,rfl,rfl,fun _ _ _ _ _ _ us hl=>by obtain ⟨a0,a1,e⟩:=ln2 hl;subst e;rfl⟩
theorem V5:RowOk B jw:=⟨by decide +kernel,by decide +kernel,rfl,rfl,fun _ _ _ _ _ _ us hl=>by obtain ⟨a0,e⟩:=ln1 hl;subst e;rfl⟩
theorem jh:RowOk B xj:=⟨by decide +kernel,by decide +kernel,rfl,rfl,fun _ _ _ _ _ _ us hl=>by obtain ⟨a0,e⟩:=ln1 hl;subst e;rfl⟩
theorem V7:RowOk B jy:=⟨by decide +kernel,by decide +kernel,rfl,rfl,fun _ _ _ _ _ _ us hl=>by obtain ⟨a0,a1,e⟩:=ln2 hl;subst e;rfl⟩
theorem k_behind:RowOk B Wv:=⟨by decide +kernel,by decide +kernel,rfl,rfl,fun _ _ _ _ _ _ us hl=>by obtain ⟨a0,e⟩:=ln1 hl;subst e;rfl⟩
theorem ZV:RowOk B wW:=⟨by decide +kernel,by decide +kernel,rfl,rfl,fun _ _ _ _ _ _ us hl=>by obtain ⟨a0,e⟩:=ln1 hl;subst e;rfl⟩
theorem V9:RowOk B jA:=⟨by decide +kernel,by decide +kernel,rfl,rfl,fun _ _ _ _ _ _ us hl=>by obtain ⟨a0,a1,e⟩:=ln2 hl;subst e;rfl⟩
theorem zaE:RowOk B Wq:=⟨by decide +kernel,by decide +kernel,rfl,rfl,fun _ _ _ _ _ _ us hl=>by obtain ⟨a0,a1,e⟩:=ln2 hl;subst e;rfl⟩
theorem J9:RowOk B Zq:=⟨by decide +kernel,by decide +kernel,rfl,rfl,fun _ _ _ _ _ _ us hl=>by obtain ⟨a0,a1,e⟩:=ln2 hl;subst e;rfl⟩
theorem zaH:RowOk B Wu:=⟨by decide +kernel,by decide +kernel,rfl,rfl,fun _ _ _ _ _ _ us hl=>by obtain ⟨a0,a1,e⟩:=ln2 hl;subst e;rfl⟩
theorem zfq:RowOk B zbh:=⟨by decide +kernel,by decide +kernel,rfl,rfl,fun _ _ _ _ _ _ us hl=>by obtain ⟨a0,a1,e⟩:=ln2 hl;subst e;rfl⟩
theorem Xg:RowOk B ud:=⟨by decide +kernel,by decide +kernel,rfl,rfl,fun _ _ _ _ _ _ us hl=>by obtain ⟨a0,a1,e⟩:=ln2 hl;subst e;rfl⟩
theorem zaI:RowOk B Ww:=⟨by decide +kernel,by decide +kernel,rfl,rfl,fun _ _ _ _ _ _ us hl=>by obtain ⟨a0,a1,e⟩:=ln2 hl;subst e;rfl⟩
theorem Ke:RowOk B Zu:=⟨by decide +kernel,by decide +kernel,rfl,rfl,fun _ _ _ _ _ _ us hl=>by obtain ⟨a0,a1,e⟩:=ln2 hl;subst e;rfl⟩
theorem zaF:RowOk B Ws:=⟨by decide +kernel,by decide +kernel,rfl,rfl,fun _ _ _ _ _ _ us hl=>by obtain ⟨a0,a1,e⟩:=ln2 hl;subst e;rfl⟩
theorem ZW:RowOk B wX:=⟨by decide +kernel,by decide +kernel,rfl,rfl,fun _ _ _ _ _ _ us hl=>by obtain ⟨a0,a1,e⟩:=ln2 hl;subst e;rfl⟩
theorem Xj:RowOk B ug:=⟨by decide +kernel,by decide +kernel,rfl,rfl,fun _ _ _ _ _ _ us hl=>by obtain ⟨a0,a1,e⟩:=ln2 hl;subst e;rfl⟩
theorem Xi:RowOk B uf:=⟨by decide +kernel,by decide +kernel,rfl,rfl,fun _ _ _ _ _ _ us hl=>by obtain ⟨a0,a1,e⟩:=ln2 hl;subst e;rfl⟩
theorem ZX:RowOk B wY:=⟨by decide +kernel,by decide +kernel,rfl,rfl,fun _ _ _ _ _ _ us hl=>by obtain ⟨a0,e⟩:=ln1 hl;subst e;rfl⟩
theorem zaG:RowOk B Wt:=⟨by decide +kernel,by decide +kernel,rfl,rfl,fun _ _ _ _ _ _ us hl=>by obtain ⟨a0,e⟩:=ln1 hl;subst e;rfl⟩
theorem Kf:RowOk B Zv:=⟨by decide +kernel,by decide +kernel,rfl,rfl,fun _ _ _ _ _ _ us hl=>by obtain ⟨a0,a1,e⟩:=ln2 hl;subst e;rfl⟩
theorem jg:RowOk B xg:=⟨by decide +kernel,by decide +kernel,rfl,rfl,fun _ _ _ _ _ _ us hl=>by obtain ⟨a0,a1,e⟩:=ln2 hl;subst e;rfl⟩
theorem V4:RowOk B ju:=⟨by decide +kernel,by decide +kernel,rfl,rfl,fun _ _ _ _ _ _ us hl=>by obtain ⟨a0,a1,a2,e⟩:=ln3 hl;subst e;rfl⟩
theorem V8:RowOk B jz:=⟨by decide +kernel,by decide +kernel,rfl,rfl,fun _ _ _ _ _ _ us hl=>by obtain ⟨a0,a1,a2,e⟩:=ln3 hl;subst e;rfl⟩
theorem Kc:RowOk B Zt:=⟨by decide +kernel,by decide +kernel,rfl,rfl,fun _ _ _ _ _ _ us hl=>by obtain ⟨a0,a1,a2,e⟩:=ln3 hl;subst e;rfl⟩
theorem qx:RowOk B xR:=⟨by decide +kernel,by decide +kernel,rfl,rfl,fun _ _ _ _ _ _ us hl=>by obtain ⟨a0,e⟩:=ln1 hl;subst e;rfl⟩
theorem ZS:RowOk B wV:=⟨by decide +kernel,by decide +kernel,rfl,rfl,fun _ _ _ _ _ _ us hl=>by obtain ⟨a0,a1,e⟩:=ln2 hl;subst e;rfl⟩
theorem Ka:RowOk B Zr:=⟨by decide +kernel,by decide +kernel,rfl,rfl,fun _ _ _ _ _ _ us hl=>by obtain ⟨a0,a1,e⟩:=ln2 hl;subst e;rfl⟩
theorem Xh:RowOk B ue:=⟨by decide +kernel,by decide +kernel,rfl,rfl,fun _ _ _ _ _ _ us hl=>by obtain ⟨a0,e⟩:=ln1 hl;subst e;rfl⟩
theorem V6:RowOk B jx:=⟨by decide +kernel,by decide +kernel,rfl,rfl,fun _ _ _ _ _ _ us hl=>by obtain ⟨a0,a1,e⟩:=ln2 hl;subst e;rfl⟩
theorem zaD:RowOk B Wo:=⟨by decide +kernel,by decide +kernel,rfl,rfl,fun _ _ _ _ _ _ us hl=>by obtain ⟨a0,e⟩:=ln1 hl;subst e;rfl⟩
theorem zdj:RowOk B Jp:=⟨by decide +kernel,by decide +kernel,rfl,rfl,fun _ _ _ _ _ _ us hl=>by obtain ⟨a0,e⟩:=ln1 hl;subst e;rfl⟩
theorem qw:RowOk B xQ:=⟨by decide +kernel,by decide +kernel,rfl,rfl,fun _ _ _ _ _ _ us hl=>by obtain ⟨a0,e⟩:=ln1 hl;subst e;rfl⟩
theorem uF:RowOk B yF:=⟨by decide +kernel,by decide +kernel,rfl,rfl,fun _ _ _ _ _ _ us hl=>by obtain ⟨a0,a1,a2,e⟩:=ln3 hl;subst e;rfl⟩
theorem zaC:RowOk B Wn:=⟨by decide +kernel,by decide +kernel,rfl,rfl,fun _ _ _ _ _ _ us hl=>by obtain ⟨a0,a1,a2,e⟩:=ln3 hl;subst e;rfl⟩
theorem qu:RowOk B xP:=⟨by decide +kernel,by decide +kernel,rfl,rfl,fun _ _ _ _ _ _ us hl=>by obtain ⟨a0,a1,a2,e⟩:=ln3 hl;subst e;rfl⟩
theorem qz:RowOk B xU:=⟨by decide +kernel,by decide +kernel,rfl,rfl,fun _ _ _ _ _ _ us hl=>by obtain ⟨a0,e⟩:=ln1 hl;subst e;rfl⟩
theorem Xo:RowOk B uq:=⟨by decide +kernel,by decide +kernel,rfl,rfl,fun _ _ _ _ _ _ us hl=>by obtain ⟨a0,a1,e⟩:=ln2 hl;subst e;rfl⟩
theorem Xm:RowOk B um:=⟨by decide +kernel,by decide +kernel,rfl,rfl,fun _ _ _ _ _ _ us hl=>by obtain ⟨a0,a1,e⟩:=ln2 hl;subst e;rfl⟩
theorem Xl:RowOk B ul:=⟨by decide +kernel,by decide +kernel,rfl,rfl,fun _ _ _ _ _ _ us hl=>by obtain ⟨a0,a1,a2,e⟩:=ln3 hl;subst e;rfl⟩
theorem qC:RowOk B xV:=⟨by decide +kernel,by decide +kernel,rfl,rfl,fun _ _ _ _ _ _ us hl=>by obtain ⟨a0,a1,a2,e⟩:=ln3 hl;subst e;rfl⟩
theorem ZZ:RowOk B wZ:=⟨by decide +kernel,by decide +kernel,rfl,rfl,fun _ _ _ _ _ _ us hl=>by obtain ⟨a0,a1,a2,a3,e⟩:=ln4 hl;subst e;rfl⟩
theorem uH:RowOk B yH:=⟨by decide +kernel,by decide +kernel,rfl,rfl,fun _ _ _ _ _ _ us hl=>by obtain ⟨a0,a1,e⟩:=ln2 hl;subst e;rfl⟩
theorem Xn:RowOk B uo:=⟨by decide +kernel,by decide +kernel,rfl,rfl,fun _ _ _ _ _ _ us hl=>by obtain ⟨a0,e⟩:=ln1 hl;subst e;rfl⟩
theorem Z0:RowOk B vf:=⟨by decide +kernel,by decide +kernel,rfl,rfl,fun _ _ _ _ _ _ us hl=>by obtain ⟨a0,a1,e⟩:=ln2 hl;subst e;rfl⟩
theorem k_law:RowOk B r_law:=⟨by decide +kernel,by decide +kernel,rfl,rfl,fun _ _ _ _ _ _ us hl=>by obtain ⟨a0,e⟩:=ln1 hl;subst e;rfl⟩
theorem zcn:AllR (RowOk B) rs:=⟨Xk,qy,uG,k_places,jf,ZR,V5,jh,V7,k_behind,ZV,V9,zaE,J9,zaH,zfq,Xg,zaI,Ke,zaF,ZW,Xj,Xi,ZX,zaG,Kf,jg,V4,V8,Kc,qx,ZS,Ka,Xh,V6,zaD,zdj,qw,uF,zaC,qu,qz,Xo,Xm,Xl,qC,ZZ,uH,Xn,Z0,k_law,Ϸ⟩
theorem zfl:AllR (KwOk rs) B.kws:=⟨⟨by decide,fun r hr=>by
 cases hr
 exact fun _ _ _ _ _ _ us hl=>by obtain ⟨a0,e⟩:=ln1 hl;subst e;rfl⟩,⟨by decide,fun r hr=>by
 cases hr
 exact fun _ _ _ _ _ _ us hl=>by obtain ⟨a0,a1,a2,e⟩:=ln3 hl;subst e;rfl⟩,Ϸ⟩
theorem tabs:Tabs B rs:=⟨rfl,rfl,zcn,zfl⟩
noncomputable def wh:Nat:=400
noncomputable def F:=fnsOf rs
theorem YM {k:Nat}{x0:D}{S:Store}{V:Po}(h:wpCs (callW F wh k) wh uY [.sh x0] (told V) S):callW F wh (k+1) 0 [x0] V S:=zq rfl rfl rfl h
theorem xG {k:Nat}{x0:D}{S:Store}{V:Po}(h:wpCs (callW F wh k) wh wG [.sh x0,.no,.no] (told V) S):callW F wh (k+1) 1 [x0] V S:=zq rfl rfl rfl h
theorem zO {k:Nat}{x0:D}{S:Store}{V:Po}(h:wpCs (callW F wh k) wh yP [.sh x0] (told V) S):callW F wh (k+1) 2 [x0] V S:=zq rfl rfl rfl h
theorem QB {k:Nat}{x0:D}{S:Store}{V:Po}(h:wpCs (callW F wh k) wh Vo [.sh x0] (told V) S):callW F wh (k+1) 3 [x0] V S:=zq rfl rfl rfl h
theorem je {k:Nat}{x0 x1:D}{S:Store}{V:Po}(h:wpCs (callW F wh k) wh xn [.sh x0,.sh x1,.no,.no,.no] (told V) S):callW F wh (k+1) 4 [x0,x1] V S:=zq rfl rfl rfl h
theorem qU {k:Nat}{x0 x1:D}{S:Store}{V:Po}(h:wpCs (callW F wh k) wh vp [.sh x0,.sh x1,.no,.no,.no] (told V) S):callW F wh (k+1) 5 [x0,x1] V S:=zq rfl rfl rfl h
theorem w_behind {k:Nat}{x0:D}{S:Store}{V:Po}(h:wpCs (callW F wh k) wh Vq [.sh x0] (told V) S):callW F wh (k+1) 9 [x0] V S:=zq rfl rfl rfl h
theorem qX {k:Nat}{x0:D}{S:Store}{V:Po}(h:wpCs (callW F wh k) wh vq [.sh x0] (told V) S):callW F wh (k+1) 10 [x0] V S:=zq rfl rfl rfl h
theorem Vw {k:Nat}{x0 x1:D}{S:Store}{V:Po}(h:wpCs (callW F wh k) wh jV [.sh x0,.sh x1,.no,.no] (told V) S):callW F wh (k+1) 11 [x0,x1] V S:=zq rfl rfl rfl h
theorem X6 {k:Nat}{x0 x1:D}{S:Store}{V:Po}(h:wpCs (callW F wh k) wh Vn [.sh x0,.sh x1,.no] (told V) S):callW F wh (k+1) 12 [x0,x1] V S:=zq rfl rfl rfl h
theorem Up {k:Nat}{x0 x1:D}{S:Store}{V:Po}(h:wpCs (callW F wh k) wh YB [.sh x0,.sh x1,.no] (told V) S):callW F wh (k+1) 13 [x0,x1] V S:=zq rfl rfl rfl h
theorem zdV {k:Nat}{x0 x1:D}{S:Store}{V:Po}(h:wpCs (callW F wh k) wh zbP [.sh x0,.sh x1,.no] (told V) S):callW F wh (k+1) 15 [x0,x1] V S:=zq rfl rfl rfl h
theorem YK {k:Nat}{x0 x1:D}{S:Store}{V:Po}(h:wpCs (callW F wh k) wh uW [.sh x0,.sh x1,.no,.no] (told V) S):callW F wh (k+1) 16 [x0,x1] V S:=zq rfl rfl rfl h
theorem QD {k:Nat}{x0 x1:D}{S:Store}{V:Po}(h:wpCs (callW F wh k) wh Vr [.sh x0,.sh x1,.no] (told V) S):callW F wh (k+1) 17 [x0,x1] V S:=zq rfl rfl rfl h
theorem Uq {k:Nat}{x0 x1:D}{S:Store}{V:Po}(h:wpCs (callW F wh k) wh YG [.sh x0,.sh x1,.no,.no,.no] (told V) S):callW F wh (k+1) 18 [x0,x1] V S:=zq rfl rfl rfl h
theorem QC {k:Nat}{x0 x1:D}{S:Store}{V:Po}(h:wpCs (callW F wh k) wh Vp [.sh x0,.sh x1,.no] (told V) S):callW F wh (k+1) 19 [x0,x1] V S:=zq rfl rfl rfl h
theorem qY {k:Nat}{x0 x1:D}{S:Store}{V:Po}(h:wpCs (callW F wh k) wh vA [.sh x0,.sh x1,.no] (told V) S):callW F wh (k+1) 20 [x0,x1] V S:=zq rfl rfl rfl h
theorem zJ {k:Nat}{x0:D}{S:Store}{V:Po}(h:wpCs (callW F wh k) wh vB [.sh x0] (told V) S):callW F wh (k+1) 23 [x0] V S:=zq rfl rfl rfl h
theorem qZ {k:Nat}{x0 x1:D}{S:Store}{V:Po}(h:wpCs (callW F wh k) wh YH [.sh x0,.sh x1,.no,.no,.no] (told V) S):callW F wh (k+1) 25 [x0,x1] V S:=zq rfl rfl rfl h
theorem z8 {k:Nat}{x0 x1 x2:D}{S:Store}{V:Po}(h:wpCs (callW F wh k) wh jR [.sh x0,.sh x1,.sh x2,.no] (told V) S):callW F wh (k+1) 27 [x0,x1,x2] V S:=zq rfl rfl rfl h
theorem zR {k:Nat}{x0 x1 x2:D}{S:Store}{V:Po}(h:wpCs (callW F wh k) wh jU [.sh x0,.sh x1,.sh x2] (told V) S):callW F wh (k+1) 28 [x0,x1,x2] V S:=zq rfl rfl rfl h
theorem z9 {k:Nat}{x0 x1 x2:D}{S:Store}{V:Po}(h:wpCs (callW F wh k) wh YD [.sh x0,.sh x1,.sh x2] (told V) S):callW F wh (k+1) 29 [x0,x1,x2] V S:=zq rfl rfl rfl h
theorem qW {k:Nat}{x0 x1:D}{S:Store}{V:Po}(h:wpCs (callW F wh k) wh YC [.sh x0,.sh x1,.no,.no] (told V) S):callW F wh (k+1) 32 [x0,x1] V S:=zq rfl rfl rfl h
theorem YL {k:Nat}{x0:D}{S:Store}{V:Po}(h:wpCs (callW F wh k) wh uX [.sh x0,.no,.no] (told V) S):callW F wh (k+1) 33 [x0] V S:=zq rfl rfl rfl h
theorem jl {k:Nat}{x0 x1:D}{S:Store}{V:Po}(h:wpCs (callW F wh k) wh jT [.sh x0,.sh x1,.no,.no,.no,.no] (told V) S):callW F wh (k+1) 34 [x0,x1] V S:=zq rfl rfl rfl h
theorem yR {k:Nat}{x0:D}{S:Store}{V:Po}(h:wpCs (callW F wh k) wh Vm [.sh x0,.no,.no] (told V) S):callW F wh (k+1) 35 [x0] V S:=zq rfl rfl rfl h
theorem zbU {k:Nat}{x0:D}{S:Store}{V:Po}(h:wpCs (callW F wh k) wh Ql [.sh x0,.no] (told V) S):callW F wh (k+1) 36 [x0] V S:=zq rfl rfl rfl h
theorem j6 {k:Nat}{x0:D}{S:Store}{V:Po}(h:wpCs (callW F wh k) wh yq [.sh x0,.no,.no,.no,.no,.no] (told V) S):callW F wh (k+1) 37 [x0] V S:=zq rfl rfl rfl h
theorem yx {k:Nat}{x0 x1 x2:D}{S:Store}{V:Po}(h:wpCs (callW F wh k) wh yO [.sh x0,.sh x1,.sh x2,.no,.no,.no] (told V) S):callW F wh (k+1) 38 [x0,x1,x2] V S:=zq rfl rfl rfl h
theorem Qz {k:Nat}{x0 x1 x2:D}{S:Store}{V:Po}(h:wpCs (callW F wh k) wh Vk [.sh x0,.sh x1,.sh x2,.no,.no,.no,.no,.no,.no] (told V) S):callW F wh (k+1) 39 [x0,x1,x2] V S:=zq rfl rfl rfl h
theorem j5 {k:Nat}{x0 x1 x2:D}{S:Store}{V:Po}(h:wpCs (callW F wh k) wh wF [.sh x0,.sh x1,.sh x2] (told V) S):callW F wh (k+1) 40 [x0,x1,x2] V S:=zq rfl rfl rfl h
theorem j7 {k:Nat}{x0:D}{S:Store}{V:Po}(h:wpCs (callW F wh k) wh wH [.sh x0,.no,.no,.no,.no] (told V) S):callW F wh (k+1) 41 [x0] V S:=zq rfl rfl rfl h
theorem YS {k:Nat}{x0 x1:D}{S:Store}{V:Po}(h:wpCs (callW F wh k) wh u9 [.sh x0,.sh x1,.no,.no,.no,.no] (told V) S):callW F wh (k+1) 42 [x0,x1] V S:=zq rfl rfl rfl h
theorem YQ {k:Nat}{x0 x1:D}{S:Store}{V:Po}(h:wpCs (callW F wh k) wh u5 [.sh x0,.sh x1,.no] (told V) S):callW F wh (k+1) 43 [x0,x1] V S:=zq rfl rfl rfl h
theorem v5 {k:Nat}{x0 x1 x2:D}{S:Store}{V:Po}(h:wpCs (callW F wh k) wh uZ [.sh x0,.sh x1,.sh x2,.no,.no,.no] (told V) S):callW F wh (k+1) 44 [x0,x1,x2] V S:=zq rfl rfl rfl h
theorem j8 {k:Nat}{x0 x1 x2:D}{S:Store}{V:Po}(h:wpCs (callW F wh k) wh wI [.sh x0,.sh x1,.sh x2,.no,.no,.no,.no] (told V) S):callW F wh (k+1) 45 [x0,x1,x2] V S:=zq rfl rfl rfl h
theorem yz {k:Nat}{x0 x1 x2 x3:D}{S:Store}{V:Po}(h:wpCs (callW F wh k) wh vC [.sh x0,.sh x1,.sh x2,.sh x3,.no,.no] (told V) S):callW F wh (k+1) 46 [x0,x1,x2,x3] V S:=zq rfl rfl rfl h
theorem v6 {k:Nat}{x0 x1:D}{S:Store}{V:Po}(h:wpCs (callW F wh k) wh yQ [.sh x0,.sh x1,.no] (told V) S):callW F wh (k+1) 47 [x0,x1] V S:=zq rfl rfl rfl h
theorem yo {k:Nat}{x0:D}{S:Store}{V:Po}(h:wpCs (callW F wh k) wh u6 [.sh x0] (told V) S):callW F wh (k+1) 48 [x0] V S:=zq rfl rfl rfl h
theorem zV {k:Nat}{x0 x1:D}{S:Store}{V:Po}(h:wpCs (callW F wh k) wh vD [.sh x0,.sh x1,.no,.no,.no,.no,.no,.no] (told V) S):callW F wh (k+1) 49 [x0,x1] V S:=zq rfl rfl rfl h
theorem w_law {k:Nat}{x0:D}{S:Store}{V:Po}(h:wpCs (callW F wh k) wh b_law [.sh x0,.no,.no,.no,.no,.no,.no,.no,.no,.no] (told V) S):callW F wh (k+1) 50 [x0] V S:=zq rfl rfl rfl h
end Q45
local macro_rules | `(tactic| omega) => `(tactic| first | decide | with_reducible exact EV.om1 ‹_› (by with_unfolding_all rfl) | with_reducible exact EV.om2 ‹_› (by with_unfolding_all rfl) | with_reducible exact EV.om3 ‹_› (by with_unfolding_all rfl) | lia | omega (config := {}))
open EV in
local macro_rules | `(tactic| infer_instance) => `(tactic| first
 | ((with_reducible apply rdv_s); (exact rfl))
 | ((with_reducible apply rdv_o); (exact rfl))
 | ((with_reducible apply sel_s); (exact rfl))
 | ((with_reducible apply sel_o); (exact rfl))
 | ((with_reducible apply kp_s); (exact rfl))
 | ((with_reducible apply kp_f); (exact rfl))
 | ((with_reducible apply opv_s); (first | exact rfl | exact zdR (by simp <;> omega) | exact zc8 rfl | exact JX rfl | exact JX (U9 (by decide) (by decide))))
 | ((with_reducible apply opv_f); (exact rfl))
 | ((with_reducible apply zx); (first | exact zcu (by decide) (by decide) | exact rfl | exact Uz (by decide) rfl | exact jF (by decide) rfl))
 | ((with_reducible apply yl); (exact rfl); (try simp only [List.foldl, List.zip, List.zipWith, bZ, bw, if_true, if_false]))
 | ((with_reducible apply bl_mk); (exact rfl))
 | ((with_reducible apply zfE); (exact rfl))
 | ((with_reducible apply zfF); (exact rfl))
 | ((with_reducible apply tst_T); (first | with_reducible rfl | decide | (focus (simp only [isNone, deref, eqP, eqPs, beq_self_eq_true, Bool.not_true, Bool.not_false, lB, Bool.true_and]; done)) | (dsimp only [deref]; decide) | (refine fits_of ?_; (try simp only [Ο, ν, bh, ie]) <;> omega)))
 | ((with_reducible apply tst_F); (first | with_reducible rfl | decide | (focus (simp only [isNone, deref, eqP, eqPs, beq_self_eq_true, Bool.not_true, Bool.not_false, lB, Bool.true_and]; done)) | (dsimp only [deref]; decide)))
 | ((with_reducible apply bx_f); (exact rfl))
 | ((with_reducible apply rv_s); (exact rfl))
 | ((with_reducible apply rv_f); (exact rfl))
 | ((with_reducible apply zeW); (exact rfl))
 | ((with_reducible apply zeX); (exact rfl))
 | ((with_reducible apply zfZ); (exact rfl))
 | ((with_reducible apply zfD); (exact rfl))
 | ((with_reducible apply zdG); (dsimp only [wpC, e_var, e_con, e_glo, e_bin, e_neg, e_cmp, e_chn, e_not, e_and, e_or, e_ite, e_tup, e_lst, e_dic, e_dk1, e_sub, e_slc, e_bi, e_bi2, e_mth, ye, zdA, zdz, e_box, e_one, zfS, wpEs, wpO, wpF, wpI, bZ, fz, List.getElem?_cons_zero, List.getElem?_cons_succ, Option.getD]))
 | (with_reducible apply zfV)
 | (with_reducible apply zbZ)
 | (with_reducible apply zd3)
 | (with_reducible apply zd5)
 | (with_reducible apply zd4)
 | (with_reducible apply to_s)
 | (with_reducible apply to_f)
 | (with_reducible apply zbY)
 | (with_reducible apply zbX)
 | (with_reducible apply zd1)
 | (with_reducible apply zd2)
 | (with_reducible apply zd0))
local macro_rules | `(tactic| nofun) => `(tactic| (repeat infer_instance))
namespace Q45
open PySem L2 EV
abbrev Is (K f:Nat) (ds:List D) (v:Vl) (S:Store):Prop:=callW F wh K f ds (fun x S'=>x=v/\S'=S) S
abbrev Sm (K f:Nat) (ds:List D) (P:Vl->Prop) (S:Store):Prop:=callW F wh K f ds (fun x S'=>P x/\S'=S) S
section
variable {K f:Nat}{ds:List D}{S:Store}
theorem Is.go {v:Vl}{V:Po}(h:Is K f ds v S) (q:V v S):callW F wh K f ds V S:=wp_mono h (by rintro _ _ ⟨rfl,rfl⟩;exact q)
theorem Sm.go {P:Vl->Prop}{V:Po}(h:Sm K f ds P S) (q:∀ x,P x->V x S):callW F wh K f ds V S:=wp_mono h (by rintro x _ ⟨h1,rfl⟩;exact q x h1)
end
theorem up {n K:Nat}(h:n+1<=K):∃ k,n<=k/\K=k+1:=⟨K - 1,by omega,by omega⟩
noncomputable abbrev LS (ns:List Str):D:=.lst (ns.map D.str)
noncomputable def nmL:List Str:=["p","x","yy","pq"]
inductive Fm:Nat->List Str->D->Prop where
 | nm {k:Nat}{s:Str}(h:s∈nmL):Fm k [s] (.str s)
 | num {k:Nat}{i:Int}:Fm k [] (.int i)
 | op {k:Nat}{g:Str}{u v:List Str}{a b:D}(ha:Fm k u a) (hb:Fm k v b):Fm (k+1) (u++v) (.tup [.str g,a,b])
theorem Fm.len:∀ {k:Nat}{w:List Str}{d:D},Fm k w d->w.length<=2 ^ k
 | k,_,_,.nm _=>Nat.one_le_two_pow
 | k,_,_,.num=>Ϣ _
 | k+1,_,_,.op ha hb=>by
  have h1:=ha.len
  have h2:=hb.len
  rw [Ο,Nat.pow_succ]
  omega
theorem Fm.mem:∀ {k:Nat}{w:List Str}{d:D},Fm k w d->∀ s∈w,s∈nmL
 | k,_,_,.nm h,s,hs=>by rw [Υ.mp hs];exact h
 | k,_,_,.num,s,hs=>by cases hs
 | k+1,_,_,.op ha hb,s,hs=>(Ϭ.mp hs).elim (ha.mem s) (hb.mem s)
theorem Fm.mono:∀ {k:Nat}{w:List Str}{d:D},Fm k w d->∀ {m:Nat},k<=m->Fm m w d
 | _,_,_,.nm h,_,_=>.nm h
 | _,_,_,.num,_,_=>.num
 | k+1,_,_,.op ha hb,m,q=>by
  obtain ⟨m,rfl⟩:∃ j,m=j+1:=⟨m - 1,by omega⟩
  exact .op (ha.mono (by omega)) (hb.mono (by omega))
noncomputable def oN:Option Str->D
 | some s=>.str s
 | none=>.non
noncomputable def oL:Option Str->List Str
 | some s=>[s]
 | none=>[]
inductive Brs:List D->List Str->List (Option Str)->Prop where
 | nil:Brs [] [] []
 | cons {n:Option Str}{who:Str}{w ws:List Str}{ns:List (Option Str)}{e:D}{bs:List D}(hn:∀ s∈oL n,s∈nmL) (he:Fm 1 w e) (t:Brs bs ws ns):Brs (.tup [oN n,.str "ask",.str who,e]::bs) (w++ws) (n::ns)
inductive Row:D->List Str->List Str->Bool->Prop where
 | set {s:Str}{w:List Str}{e:D}(hs:s∈nmL) (he:Fm 2 w e):Row (.tup [.str "set",.str s,e]) w [s] true
 | tell {w:List Str}{e:D}(he:Fm 2 w e):Row (.tup [.str "tell",e]) w [] true
 | give {w:List Str}{e:D}(he:Fm 2 w e):Row (.tup [.str "give",e]) w [] false
 | fail {w:List Str}{e:D}(he:Fm 2 w e):Row (.tup [.str "fail",e]) w [] false
 | all {bs:List D}{ws:List Str}{ns:List (Option Str)}(h1:1<=bs.length) (h4:bs.length<=4) (hb:Brs bs ws ns):Row (.tup [.str "want",.int (bs.length:Int),.tup bs]) ws (ns.flatMap oL) true
 | some {i:Int}{bs:List D}{ws:List Str}{ns:List (Option Str)}(h1:1<=i) (h2:i < bs.length) (h4:bs.length<=4) (hb:Brs bs ws ns):Row (.tup [.str "want",.int i,.tup bs]) ws [] true
theorem Brs.len:∀ {bs:List D}{ws:List Str}{ns:List (Option Str)},Brs bs ws ns->ws.length<=2*bs.length/\ns.length=bs.length
 | _,_,_,.nil=>⟨ξ _,rfl⟩
 | _,_,_,.cons hn he t=>by
  have h1:=he.len
  have h2:=t.len
  simp only [Ο,bh]
  omega
theorem Brs.mem:∀ {bs:List D}{ws:List Str}{ns:List (Option Str)},Brs bs ws ns->∀ s∈ws,s∈nmL
 | _,_,_,.nil,s,hs=>by cases hs
 | _,_,_,.cons hn he t,s,hs=>(Ϭ.mp hs).elim (he.mem s) (t.mem s)
theorem Row.len {d:D}{w st:List Str}{go:Bool}(h:Row d w st go):w.length<=8:=by
 cases h with
 | set _ he | tell he | give he | fail he=>have:=he.len;omega
 | all h1 h4 hb=>have:=hb.len;omega
 | some h1 h2 h4 hb=>have:=hb.len;omega
theorem Row.mem {d:D}{w st:List Str}{go:Bool}(h:Row d w st go):∀ s∈w,s∈nmL:=by
 cases h with
 | set _ he | tell he | give he | fail he=>exact he.mem
 | all h1 h4 hb=>exact hb.mem
 | some h1 h2 h4 hb=>exact hb.mem
theorem KN:∀ (k:Nat) (w:List Str) (d:D),k<=2->Fm k w d->∀ (K:Nat) (S:Store),k+1<=K->Is K 2 [d] (LS w,.fr) S:=by
 intro k
 induction k with
 | zero=>
  intro w d _ h K S hK
  obtain ⟨K,hk,rfl⟩:=up hK
  cases h <;>
  ·refine zO ?_
   nofun
   exact ⟨rfl,rfl⟩
 | succ k ih=>
  intro w d h2 h K S hK
  obtain ⟨K,hk,rfl⟩:=up hK
  cases h with
  | nm h=>
   refine zO ?_
   nofun
   exact ⟨rfl,rfl⟩
  | num=>
   refine zO ?_
   nofun
   exact ⟨rfl,rfl⟩
  | op ha hb=>
   have l1:=ha.len
   have l2:=hb.len
   have hq:2 ^ k<=2 ^ 2:=o5 (by decide) (by omega)
   refine zO ?_
   nofun
   refine (ih _ _ (by omega) ha _ _ hk).go ?_
   nofun
   refine (ih _ _ (by omega) hb _ _ hk).go ?_
   refine opv_f (yr (by simp;omega)) ?_
   nofun
   exact ⟨by simp [LS],rfl⟩
theorem xZ:∀ (k:Nat) (w:List Str) (d:D),k<=2->Fm k w d->∀ (K:Nat) (S:Store),k+1<=K->Is K 48 [d] (LS w,.fr) S:=by
 intro k
 induction k with
 | zero=>
  intro w d _ h K S hK
  obtain ⟨K,hk,rfl⟩:=up hK
  cases h <;>
  ·refine yo ?_
   nofun
   exact ⟨rfl,rfl⟩
 | succ k ih=>
  intro w d h2 h K S hK
  obtain ⟨K,hk,rfl⟩:=up hK
  cases h with
  | nm h=>
   refine yo ?_
   nofun
   exact ⟨rfl,rfl⟩
  | num=>
   refine yo ?_
   nofun
   exact ⟨rfl,rfl⟩
  | op ha hb=>
   have l1:=ha.len
   have l2:=hb.len
   have hq:2 ^ k<=2 ^ 2:=o5 (by decide) (by omega)
   refine yo ?_
   nofun
   refine (ih _ _ (by omega) ha _ _ hk).go ?_
   nofun
   refine (ih _ _ (by omega) hb _ _ hk).go ?_
   refine opv_f (yr (by simp;omega)) ?_
   nofun
   exact ⟨by simp [LS],rfl⟩
noncomputable abbrev pl (k:Nat):D:=.tup [.int (k:Int)]
noncomputable abbrev RT:=List Str×List Str×Bool
inductive Rl:List D->List RT->Prop where
 | nil:Rl [] []
 | cons {d:D}{w st:List Str}{go:Bool}{l:List D}{R:List RT}(h:Row d w st go) (t:Rl l R):Rl (d::l) ((w,st,go)::R)
theorem Rl.len:∀ {l:List D}{R:List RT},Rl l R->l.length=R.length
 | _,_,.nil=>rfl
 | _,_,.cons h t=>congrArg (·+1) t.len
theorem Rl.at:∀ {l:List D}{R:List RT}{k:Nat}{r:RT},Rl l R->R[k]?=some r->∃ d,l[k]?=some d/\Row d r.1 r.2.1 r.2.2
 | _,_,_,_,.nil,e=>by cases e
 | _,_,0,_,.cons h t,e=>by cases e;exact ⟨_,rfl,h⟩
 | _,_,k+1,_,.cons h t,e=>t.at (by simpa using e)
noncomputable def er (ps:D) (l:List D):D:=.tup [.str "main",ps,.tup l]
theorem nt {b:Bool}(h:b=true):(!b)=false:=by rw [h];rfl
theorem nf {b:Bool}(h:b=false):(!b)=true:=by rw [h];rfl
section
variable {ps:D}{l:List D}{k:Nat}{K:Nat}{S:Store}
theorem wO (hK:1<=K):Is K 10 [pl k] (.bl false,.st) S:=by
 obtain ⟨K,hk,rfl⟩:=up hK
 refine qX ?_
 nofun
 exact ⟨rfl,rfl⟩
theorem jQ (hK:2<=K):Is K 11 [er ps l,pl k] (.tup l,.st) S:=by
 obtain ⟨K,hk,rfl⟩:=up hK
 refine Vw (x0:=.tup _) (x1:=.tup _) ?_
 nofun
 refine (wO hk).go ?_
 nofun
 exact ⟨rfl,rfl⟩
theorem kZ {d:D}(h:l[k]?=some d) (hK:3<=K):Is K 12 [er ps l,pl k] (d,.st) S:=by
 obtain ⟨K,hk,rfl⟩:=up hK
 have hl:=(π.mp h).1
 refine X6 (x0:=.tup _) (x1:=.tup _) ?_
 nofun
 refine (jQ hk).go ?_
 nofun
 refine tst_T (decide_eq_true (by omega)) ?_
 nofun
 refine tst_F (nt (decide_eq_true (show (k:Int) < (l.length:Int) by omega))) ?_
 nofun
 refine zx (Uz (by omega) (by simpa using h)) ?_
 nofun
 exact ⟨rfl,rfl⟩
theorem uc (h:k=l.length) (hK:3<=K):Is K 12 [er ps l,pl k] (.non,.st) S:=by
 obtain ⟨K,hk,rfl⟩:=up hK
 refine X6 (x0:=.tup _) (x1:=.tup _) ?_
 nofun
 refine (jQ hk).go ?_
 nofun
 refine tst_T (decide_eq_true (by omega)) ?_
 nofun
 refine tst_T (nf (decide_eq_false (show ¬ (k:Int) < (l.length:Int) by omega))) ?_
 nofun
 exact ⟨rfl,rfl⟩
def Pl0 (l:List D) (k:Nat):Prop:=k<=l.length/\∀ d,l[k]?=some d->∃ w st go,Row d w st go
theorem Rl.pl0 {R:List RT}(h:Rl l R) (hk:k<=l.length):Pl0 l k:=by
 refine ⟨hk,fun d e=>?_⟩
 have hl:=(π.mp e).1
 obtain ⟨d',e',h'⟩:=h.at (θ (i:=k) (by rw [<- h.len];exact hl))
 rw [e] at e'
 cases e'
 exact ⟨_,_,_,h'⟩
theorem Uo (h:Pl0 l k) (hK:4<=K):Sm K 13 [er ps l,pl k] (fun x=>∃ w:Str,x=(.str w,.st)/\eqP (.str w) (.str "try")=false/\eqP (.str w) (.str "do")=false) S:=by
 obtain ⟨K,hk,rfl⟩:=up hK
 refine Up (x0:=.tup _) (x1:=.tup _) ?_
 nofun
 by_cases hl:k < l.length
 ·have e:=θ hl
  obtain ⟨w,st,go,hr⟩:=h.2 _ e
  refine (kZ e hk).go ?_
  generalize l[k]=d at hr
  cases hr <;>
  ·nofun
   exact ⟨⟨_,rfl,by decide,by decide⟩,rfl⟩
 ·refine (uc (by have:=h.1;omega) hk).go ?_
  nofun
  exact ⟨⟨_,rfl,by decide,by decide⟩,rfl⟩
theorem zcV (h:Pl0 l k) (hK:5<=K):Is K 16 [er ps l,pl k] (pl k,.st) S:=by
 obtain ⟨K,hk,rfl⟩:=up hK
 refine YK (x0:=.tup _) (x1:=.tup _) ?_
 nofun
 refine (Uo h hk).go ?_
 rintro _ ⟨w,rfl,e1,e2⟩
 nofun
 refine tst_F e1 ?_
 nofun
 exact ⟨rfl,rfl⟩
theorem kJ (h:Pl0 l k) (hK:6<=K):Is K 15 [er ps l,pl k] (pl k,.st) S:=by
 obtain ⟨K,hk,rfl⟩:=up hK
 refine zdV (x0:=.tup _) (x1:=.tup _) ?_
 nofun
 refine (zcV h hk).go ?_
 nofun
 refine xF (fun _ ρ S'=>S'=S/\ρ=[.sh (er ps l),.sh (pl k),.sh (pl k)]) ?_ _ 0 _ _ (by decide) ⟨rfl,rfl⟩
 rintro n ρ S' ⟨rfl,rfl⟩
 simp only [wpE]
 nofun
 exact ⟨rfl,rfl⟩
theorem jd (hK:2<=K):Is K 17 [er ps l,pl k] (.lst [],.fr) S:=by
 obtain ⟨K,hk,rfl⟩:=up hK
 refine QD (x0:=.tup _) (x1:=.tup _) ?_
 nofun
 refine (wO (by omega)).go ?_
 nofun
 refine xF (fun _ ρ S'=>S'=S/\ρ=[.sh (er ps l),.sh (pl k),.ow (.lst [])]) ?_ _ 0 _ _ (by decide) ⟨rfl,rfl⟩
 rintro n ρ S' ⟨rfl,rfl⟩
 simp only [wpE]
 nofun
 exact ⟨rfl,rfl⟩
theorem uO (hK:3<=K):Is K 18 [er ps l,pl k] (.non,.st) S:=by
 obtain ⟨K,hk,rfl⟩:=up hK
 refine Uq (x0:=.tup _) (x1:=.tup _) ?_
 nofun
 refine (jd hk).go ?_
 nofun
 exact ⟨rfl,rfl⟩
theorem WM (hK:3<=K):Is K 19 [er ps l,pl k] (.non,.st) S:=by
 obtain ⟨K,hk,rfl⟩:=up hK
 refine QC (x0:=.tup _) (x1:=.tup _) ?_
 nofun
 refine wp_lc ?_
 dsimp only [wpI,ye,wpEs,e_var]
 nofun
 refine (jd hk).go ?_
 nofun
 refine zZ ?_
 nofun
 refine wp_lc ?_
 dsimp only [wpI,e_var]
 nofun
 refine zZ ?_
 nofun
 exact ⟨rfl,rfl⟩
theorem Ye (hK:3<=K):Is K 20 [er ps l,pl k] (.lst [],.fr) S:=by
 obtain ⟨K,hk,rfl⟩:=up hK
 refine qY (x0:=.tup _) (x1:=.tup _) ?_
 nofun
 refine (jd hk).go ?_
 nofun
 refine wp_lc ?_
 dsimp only [wpI,e_var]
 nofun
 exact ⟨rfl,rfl⟩
theorem wD (hK:1<=K):Is K 9 [pl k] (pl (k+1),.st) S:=by
 obtain ⟨K,hk,rfl⟩:=up hK
 refine w_behind (x0:=.tup _) ?_
 nofun
 exact ⟨rfl,rfl⟩
end
inductive Fl:List D->List Str->Prop where
 | nil:Fl [] []
 | cons {e:D}{u w:List Str}{l:List D}(h:Fm 2 u e) (t:Fl l w):Fl (e::l) (u++w)
theorem Fl.app:∀ {a b:List D}{u v:List Str},Fl a u->Fl b v->Fl (a++b) (u++v)
 | _,_,_,_,.nil,h=>h
 | _,_,_,_,.cons h t,q=>by rw [aA];exact .cons h (t.app q)
theorem Fl.one {e:D}{u:List Str}(h:Fm 2 u e):Fl [e] u:=by
 have:=Fl.cons h .nil
 rwa [Ρ] at this
section
variable {d:D}{w st:List Str}{go:Bool}{K:Nat}{S:Store}
theorem wz {i:Int}{bs:List D}{ws:List Str}{ns:List (Option Str)}(h4:bs.length<=4) (hb:Brs bs ws ns) (hK:1<=K):Sm K 1 [.tup [.str "want",.int i,.tup bs]] (fun x=>∃ fs,x=(.lst fs,.fr)/\Fl fs ws/\fs.length<=4) S:=by
 obtain ⟨K,hk,rfl⟩:=up hK
 refine xG ?_
 nofun
 refine wp_walk (fun l ρ S'=>S'=S/\∃ (fs:List D) (u v:List Str) (ms:List (Option Str)) (x2:Slot),ρ=[.sh (.tup [.str "want",.int i,.tup bs]),.ow (.lst fs),x2]/\Fl fs u/\Brs l v ms/\u++v=ws/\fs.length+l.length=bs.length) ?_ ?_ _ _ _ ⟨rfl,[],[],ws,ns,.no,rfl,.nil,hb,rfl,by simp⟩
 ·rintro d l ρ S' ⟨rfl,fs,u,v,ms,x2,rfl,hf,hb,e,hl⟩
  cases hb with
  | cons hn he t=>
   have hl:fs.length+(l.length+1)=bs.length:=hl
   nofun
   exact ⟨rfl,_,_,_,_,_,rfl,hf.app (Fl.one (he.mono (by decide))),t,by rw [aA];exact e,by simp;omega⟩
 ·rintro ρ S' ⟨rfl,fs,u,v,ms,x2,rfl,hf,hb,e,hl⟩
  cases hb
  rw [Ρ] at e
  subst e
  nofun
  exact ⟨⟨fs,rfl,hf,by simp at hl;omega⟩,rfl⟩
theorem Xq (h:Row d w st go) (hK:1<=K):Sm K 1 [d] (fun x=>∃ fs,x=(.lst fs,.fr)/\Fl fs w/\fs.length<=4) S:=by
 cases h with
 | set _ he | tell he | give he | fail he=>
  obtain ⟨K,hk,rfl⟩:=up hK
  refine xG ?_
  nofun
  exact ⟨⟨_,rfl,Fl.one he,by simp⟩,rfl⟩
 | all h1 h4 hb=>exact wz h4 hb hK
 | some h1 h2 h4 hb=>exact wz h4 hb hK
theorem Y0 (h:Row d w st go) (hK:4<=K):Is K 33 [d] (LS w,.fr) S:=by
 obtain ⟨K,hk,rfl⟩:=up hK
 refine YL ?_
 nofun
 refine (Xq h (by omega)).go ?_
 rintro _ ⟨fs,rfl,hf,h4⟩
 nofun
 refine wp_walk (fun l ρ S'=>S'=S/\∃ (u v:List Str) (x2:Slot),ρ=[.sh d,.ow (LS u),x2]/\Fl l v/\u++v=w/\u.length+4*l.length<=16) ?_ ?_ _ _ _ ⟨rfl,[],w,.no,rfl,hf,rfl,by simp;omega⟩
 ·rintro e l ρ S' ⟨rfl,u,v,x2,rfl,hf,ew,hl⟩
  have hl:u.length+4*(l.length+1)<=16:=hl
  cases hf with
  | @cons _ u2 w2 _ he t=>
   have h2:=he.len
   nofun
   refine (KN 2 _ _ (by decide) he _ _ (by omega)).go ?_
   nofun
   exact ⟨rfl,u++u2,w2,.sh e,by simp only [LS,aH],t,by rw [aA];exact ew,by simp;omega⟩
 ·rintro ρ S' ⟨rfl,u,v,x2,rfl,hf,ew,hl⟩
  cases hf
  rw [Ρ] at ew
  subst ew
  nofun
  exact ⟨rfl,rfl⟩
end
noncomputable def deed (k:Nat):D->D
 | .tup [.str w,.str s,e]=>.tup [.tup [.tup [.str "put",.str s,e]],.tup [.str "go",pl (k+1)]]
 | .tup [.str w,.int i,.tup bs]=>.tup [.tup [],.tup [.str "want",.int i,.tup bs,pl (k+1)]]
 | .tup [.str w,e]=>if w="tell" then .tup [.tup [.tup [.str "tell",e]],.tup [.str "go",pl (k+1)]] else .tup [.tup [],.tup [.str w,e]]
 | d=>d
section
variable {ps:D}{l:List D}{k:Nat}{d:D}{w st:List Str}{go:Bool}{K:Nat}{S:Store}
theorem K5 (e:l[k]?=some d) (h:Row d w st go) (hK:6<=K):Is K 25 [er ps l,pl k] (deed k d,.st) S:=by
 obtain ⟨K,hk,rfl⟩:=up hK
 refine qZ (x0:=.tup _) (x1:=.tup _) ?_
 nofun
 refine (kZ e (by omega)).go ?_
 obtain ⟨K,hk,rfl⟩:=up hk
 cases h with
 | set hs he=>
  nofun
  refine z8 (x0:=.tup _) (x1:=.tup _) ?_
  nofun
  refine (wD (by omega)).go ?_
  nofun
  exact ⟨rfl,rfl⟩
 | tell he=>
  nofun
  refine z8 (x0:=.tup _) (x1:=.tup _) ?_
  nofun
  refine (wD (by omega)).go ?_
  nofun
  exact ⟨by cases he <;> rfl,rfl⟩
 | give he=>
  nofun
  refine z8 (x0:=.tup _) (x1:=.tup _) ?_
  nofun
  refine wp_lc ?_
  dsimp only [wpI,ye,wpEs,e_var]
  nofun
  refine (Ye (by omega)).go ?_
  nofun
  refine zZ ?_
  nofun
  exact ⟨by cases he <;> rfl,rfl⟩
 | fail he=>
  nofun
  refine z8 (x0:=.tup _) (x1:=.tup _) ?_
  nofun
  exact ⟨by cases he <;> rfl,rfl⟩
 | all h1 h4 hb=>
  nofun
  refine z8 (x0:=.tup _) (x1:=.tup _) ?_
  nofun
  refine (wD (by omega)).go ?_
  nofun
  exact ⟨rfl,rfl⟩
 | some h1 h2 h4 hb=>
  nofun
  refine z8 (x0:=.tup _) (x1:=.tup _) ?_
  nofun
  refine (wD (by omega)).go ?_
  nofun
  exact ⟨rfl,rfl⟩
theorem jM (e:k=l.length) (hK:4<=K):Is K 25 [er ps l,pl k] (.tup [.tup [],.tup [.str "give",.int 0]],.st) S:=by
 obtain ⟨K,hk,rfl⟩:=up hK
 refine qZ (x0:=.tup _) (x1:=.tup _) ?_
 nofun
 refine (uc e (by omega)).go ?_
 nofun
 refine (wO (by omega)).go ?_
 nofun
 exact ⟨rfl,rfl⟩
theorem Jl (e:l[k]?=some d) (h:Row d w st go) (hK:5<=K):Is K 32 [er ps l,pl k] (LS w,.fr) S:=by
 obtain ⟨K,hk,rfl⟩:=up hK
 refine qW (x0:=.tup _) (x1:=.tup _) ?_
 nofun
 refine (kZ e (by omega)).go ?_
 have hd:isNone (deref S d)=false:=by cases h <;> rfl
 nofun
 refine tst_T (nf hd) ?_
 nofun
 refine (Y0 h (by omega)).go ?_
 nofun
 exact ⟨rfl,rfl⟩
theorem VG (e:k=l.length) (hK:5<=K):Is K 32 [er ps l,pl k] (.lst [],.fr) S:=by
 obtain ⟨K,hk,rfl⟩:=up hK
 refine qW (x0:=.tup _) (x1:=.tup _) ?_
 nofun
 refine (uc e (by omega)).go ?_
 nofun
 refine (jM e (by omega)).go ?_
 nofun
 exact ⟨rfl,rfl⟩
end
theorem K9 {s:D->(Option D->Store->Prop)->Store->Prop}{V:List D->Store->Prop}{S:Store}(f:D->D):∀ (xs acc:List D),acc.length+xs.length<=1000->(∀ x∈xs,∀ Q:Option D->Store->Prop,Q (some (f x)) S->s x Q S)->V (acc++xs.map f) S->walkW s xs acc V S
 | [],acc,_,_,v=>by
  rw [show acc++([]:List D).map f=acc by simp] at v
  exact v
 | x::xs,acc,hl,h,v=>by
  refine h x υ _ ?_
  have hl:acc.length+(xs.length+1)<=1000:=hl
  refine tst_T (fits_of (by omega)) (K9 f xs (acc++[f x]) (by simp;omega) (fun y hy=>h y (ι _ hy)) ?_)
  simpa using v
theorem yK {k:Nat}{u:List Str}{e:D}(he:Fm 2 u e):deed k (.tup [.str "tell",e])=.tup [.tup [.tup [.str "tell",e]],.tup [.str "go",pl (k+1)]]:=by cases he <;> rfl
theorem yL {k:Nat}{u:List Str}{e:D}(he:Fm 2 u e):deed k (.tup [.str "give",e])=.tup [.tup [],.tup [.str "give",e]]:=by cases he <;> rfl
theorem yM {k:Nat}{u:List Str}{e:D}(he:Fm 2 u e):deed k (.tup [.str "fail",e])=.tup [.tup [],.tup [.str "fail",e]]:=by cases he <;> rfl
section
variable {ps:D}{l:List D}{k:Nat}{d:D}{w st:List Str}{go:Bool}{K:Nat}{S:Store}
theorem zdH {bs:List D}{ws:List Str}{ns:List (Option Str)}(hb:Brs bs ws ns) {s:D->(Option D->Store->Prop)->Store->Prop}{V:List D->Store->Prop}{S:Store}
  (h:∀ n r,∀ Q:Option D->Store->Prop,Q ((oL n).head?.map D.str) S->s (.tup (oN n::r)) Q S):∀ acc:List D,acc.length+bs.length<=1000->V (acc++(ns.flatMap oL).map D.str) S->walkW s bs acc V S:=by
 induction hb with
 | nil=>
  intro acc _ v
  simp only [List.flatMap_nil,fO,Ρ] at v
  exact v
 | @cons n who w ws ns e bs hn he t ih=>
  intro acc hl v
  have hl:acc.length+(bs.length+1)<=1000:=hl
  refine h n _ _ ?_
  cases n with
  | none=>exact ih acc (by omega) (by simpa [oL] using v)
  | some s=>exact tst_T (fits_of (by omega)) (ih (acc++[.str s]) (by simp;omega) (by simpa [oL] using v))
theorem QS (h:Row d w st go) (hK:1<=K):Is K 35 [deed k d] (LS st,.fr) S:=by
 obtain ⟨K,hk,rfl⟩:=up hK
 cases h with
 | set hs he=>
  refine yR (x0:=.tup _) ?_
  nofun
  refine wp_lc ?_
  dsimp only [wpI,e_sub,e_var,e_con]
  nofun
  refine wk_go ?_
  refine yl rfl ?_
  dsimp only [wpF,e_cmp,e_sub,e_con,e_var,inn,nT,Θ,dD,Ρ,bZ]
  nofun
  refine zZ ?_
  nofun
  exact ⟨rfl,rfl⟩
 | tell he=>
  rw [yK he]
  refine yR (x0:=.tup _) ?_
  nofun
  refine wp_lc ?_
  dsimp only [wpI,e_sub,e_var,e_con]
  nofun
  refine wk_go ?_
  refine yl rfl ?_
  dsimp only [wpF,e_cmp,e_sub,e_con,e_var,inn,nT,Θ,dD,Ρ,bZ]
  nofun
  refine zZ ?_
  nofun
  exact ⟨rfl,rfl⟩
 | give he=>
  rw [yL he]
  refine yR (x0:=.tup _) ?_
  nofun
  refine wp_lc ?_
  dsimp only [wpI,e_sub,e_var,e_con]
  nofun
  refine zZ ?_
  nofun
  exact ⟨rfl,rfl⟩
 | fail he=>
  rw [yM he]
  refine yR (x0:=.tup _) ?_
  nofun
  refine wp_lc ?_
  dsimp only [wpI,e_sub,e_var,e_con]
  nofun
  refine zZ ?_
  nofun
  exact ⟨rfl,rfl⟩
 | @all bs ws ns h1 h4 hb=>
  refine yR (x0:=.tup _) ?_
  nofun
  refine wp_lc ?_
  dsimp only [wpI,e_sub,e_var,e_con]
  nofun
  refine zZ ?_
  nofun
  refine wp_lc ?_
  dsimp only [wpI,e_sub,e_var,e_con]
  nofun
  refine zdH hb (fun n r Q hQ=>?_) [] (by simp;omega) ?_
  ·refine yl rfl ?_
   dsimp only [wpF,e_cmp,e_sub,e_con,e_var,inn,nT,Θ,dD,Ρ,bZ]
   cases n with
   | none=>
    nofun
    exact hQ
   | some s=>
    nofun
    refine tst_T rfl ?_
    nofun
    exact hQ
  ·have l1:=hb.len
   have l2:(ns.flatMap oL).length<=ns.length:=by
    clear hb h1 h4 l1
    induction ns with
    | nil=>exact ξ _
    | cons n ns ih=>
     rw [pN,Ο,bh]
     have:(oL n).length<=1:=by cases n <;> simp [oL]
     omega
   rw [bR]
   nofun
   exact ⟨rfl,rfl⟩
 | @some i bs ws ns h1 h2 h4 hb=>
  refine yR (x0:=.tup _) ?_
  nofun
  refine wp_lc ?_
  dsimp only [wpI,e_sub,e_var,e_con]
  nofun
  refine zZ ?_
  nofun
  refine tst_F (beq_false_of_ne (by omega)) ?_
  nofun
  exact ⟨rfl,rfl⟩
end
noncomputable def door (k:Nat) (d:D):D:=(subD (deed k d) (.int 1)).getD .non
section
variable {ps:D}{l:List D}{k:Nat}{d:D}{w st:List Str}{go:Bool}{K:Nat}{S:Store}
theorem zdC (h:Row d w st go):subD (deed k d) (.int 1)=some (door k d)/\(∀ S,deref S (deed k d)=deed k d)/\(∀ S,deref S (door k d)=door k d):=by
 cases h with
 | set hs he=>exact ⟨rfl,fun _=>rfl,fun _=>rfl⟩
 | tell he=>unfold door;rw [yK he];exact ⟨rfl,fun _=>rfl,fun _=>rfl⟩
 | give he=>unfold door;rw [yL he];exact ⟨rfl,fun _=>rfl,fun _=>rfl⟩
 | fail he=>unfold door;rw [yM he];exact ⟨rfl,fun _=>rfl,fun _=>rfl⟩
 | all h1 h4 hb=>exact ⟨rfl,fun _=>rfl,fun _=>rfl⟩
 | some h1 h2 h4 hb=>exact ⟨rfl,fun _=>rfl,fun _=>rfl⟩
theorem Yg (h:Row d w st go) (hK:1<=K):Is K 23 [door k d] (.lst (if go=true then [pl (k+1)] else []),.fr) S:=by
 obtain ⟨K,hk,rfl⟩:=up hK
 cases h with
 | set hs he=>refine zJ (x0:=.tup _) ?_;nofun;exact ⟨rfl,rfl⟩
 | tell he=>unfold door;rw [yK he];refine zJ (x0:=.tup _) ?_;nofun;exact ⟨rfl,rfl⟩
 | give he=>unfold door;rw [yL he];refine zJ (x0:=.tup _) ?_;nofun;exact ⟨rfl,rfl⟩
 | fail he=>unfold door;rw [yM he];refine zJ (x0:=.tup _) ?_;nofun;exact ⟨rfl,rfl⟩
 | all h1 h4 hb=>refine zJ (x0:=.tup _) ?_;nofun;exact ⟨rfl,rfl⟩
 | some h1 h2 h4 hb=>refine zJ (x0:=.tup _) ?_;nofun;exact ⟨rfl,rfl⟩
theorem Ua (h:Row d w st go) (hK:4<=K):Is K 28 [er ps l,pl k,door k d] (.non,.st) S:=by
 obtain ⟨K,hk,rfl⟩:=up hK
 cases h with
 | set hs he=>refine zR (x0:=.tup _) (x1:=.tup _) (x2:=.tup _) ?_;nofun;exact ⟨rfl,rfl⟩
 | tell he=>unfold door;rw [yK he];refine zR (x0:=.tup _) (x1:=.tup _) (x2:=.tup _) ?_;nofun;exact ⟨rfl,rfl⟩
 | give he=>unfold door;rw [yL he];refine zR (x0:=.tup _) (x1:=.tup _) (x2:=.tup _) ?_;nofun;exact ⟨rfl,rfl⟩
 | fail he=>unfold door;rw [yM he];refine zR (x0:=.tup _) (x1:=.tup _) (x2:=.tup _) ?_;nofun;refine (uO hk).go ?_;nofun;exact ⟨rfl,rfl⟩
 | all h1 h4 hb=>refine zR (x0:=.tup _) (x1:=.tup _) (x2:=.tup _) ?_;nofun;refine (uO hk).go ?_;nofun;exact ⟨rfl,rfl⟩
 | some h1 h2 h4 hb=>refine zR (x0:=.tup _) (x1:=.tup _) (x2:=.tup _) ?_;nofun;refine (uO hk).go ?_;nofun;exact ⟨rfl,rfl⟩
theorem JK (h:Row d w st go) (hK:4<=K):Is K 29 [er ps l,pl k,door k d] (.non,.st) S:=by
 obtain ⟨K,hk,rfl⟩:=up hK
 cases h with
 | set hs he=>refine z9 (x0:=.tup _) (x1:=.tup _) (x2:=.tup _) ?_;nofun;exact ⟨rfl,rfl⟩
 | tell he=>unfold door;rw [yK he];refine z9 (x0:=.tup _) (x1:=.tup _) (x2:=.tup _) ?_;nofun;exact ⟨rfl,rfl⟩
 | give he=>unfold door;rw [yL he];refine z9 (x0:=.tup _) (x1:=.tup _) (x2:=.tup _) ?_;nofun;exact ⟨rfl,rfl⟩
 | fail he=>unfold door;rw [yM he];refine z9 (x0:=.tup _) (x1:=.tup _) (x2:=.tup _) ?_;nofun;exact ⟨rfl,rfl⟩
 | all h1 h4 hb=>refine z9 (x0:=.tup _) (x1:=.tup _) (x2:=.tup _) ?_;nofun;refine (WM hk).go ?_;nofun;exact ⟨rfl,rfl⟩
 | some h1 h2 h4 hb=>refine z9 (x0:=.tup _) (x1:=.tup _) (x2:=.tup _) ?_;nofun;refine (WM hk).go ?_;nofun;exact ⟨rfl,rfl⟩
noncomputable def lead (k:Nat) (st:List Str) (go:Bool):List D:=if go=true then [.tup [pl (k+1),LS st]] else []
theorem zaz (e:l[k]?=some d) (h:Row d w st go) (hp:Pl0 l (k+1)) (hK:8<=K):Is K 34 [er ps l,pl k] (.lst (lead k st go),.fr) S:=by
 obtain ⟨K,hk,rfl⟩:=up hK
 obtain ⟨d1,d2,d3⟩:=zdC (k:=k) h
 refine jl (x0:=.tup _) (x1:=.tup _) ?_
 nofun
 refine (K5 e h (by omega)).go ?_
 nofun
 refine wp_lc ?_
 dsimp only [wpI,ye,wpEs,e_sub,e_var,e_con]
 nofun
 rw [d2]
 refine zx d1 ?_
 nofun
 refine (Yg h (by omega)).go ?_
 nofun
 refine K9 (fun x=>.tup [x,LS st]) _ [] (by cases go <;> simp) (fun x hx Q hQ=>?_) ?_
 ·refine yl rfl ?_
  dsimp only [wpF,e_tup,ye,wpEs,e_var,inn,nT,Θ,dD,Ρ,bZ]
  nofun
  refine (QS h (by omega)).go ?_
  nofun
  exact hQ
 nofun
 rw [d2]
 refine zx d1 ?_
 nofun
 refine (Ua h (by omega)).go ?_
 nofun
 rw [d2]
 refine zx d1 ?_
 nofun
 refine (JK h (by omega)).go ?_
 nofun
 refine wp_lc ?_
 dsimp only [wpI,e_var]
 nofun
 cases go with
 | false=>
  refine zZ ?_
  nofun
  exact ⟨rfl,rfl⟩
 | true=>
  refine wk_go ?_
  refine yl rfl ?_
  dsimp only [wpF,e_tup,ye,wpEs,e_var,inn,nT,Θ,dD,Ρ,bZ]
  nofun
  refine (kJ hp (by omega)).go ?_
  nofun
  refine zZ ?_
  nofun
  exact ⟨rfl,rfl⟩
end
section
variable {ps:D}{l:List D}{k:Nat}{d:D}{w st:List Str}{go:Bool}{K:Nat}{S:Store}
theorem J5 (e:k=l.length) (hK:5<=K):Is K 34 [er ps l,pl k] (.lst [],.fr) S:=by
 obtain ⟨K,hk,rfl⟩:=up hK
 refine jl (x0:=.tup _) (x1:=.tup _) ?_
 nofun
 refine (jM e (by omega)).go ?_
 nofun
 refine wp_lc ?_
 dsimp only [wpI,ye,wpEs,e_sub,e_var,e_con]
 nofun
 obtain ⟨K,hk,rfl⟩:=up hk
 refine zJ (x0:=.tup _) ?_
 nofun
 refine zZ ?_
 nofun
 refine zR (x0:=.tup _) (x1:=.tup _) (x2:=.tup _) ?_
 nofun
 refine z9 (x0:=.tup _) (x1:=.tup _) (x2:=.tup _) ?_
 nofun
 refine wp_lc ?_
 dsimp only [wpI,e_var]
 nofun
 refine zZ ?_
 nofun
 exact ⟨rfl,rfl⟩
theorem Zj (h:Row d w st go) (hK:2<=K):Is K 5 [d,pl k] (.lst [pl k],.fr) S:=by
 obtain ⟨K,hk,rfl⟩:=up hK
 obtain ⟨K,hk,rfl⟩:=up hk
 cases h <;>
 ·refine qU (x1:=.tup _) ?_
  nofun
  refine YM ?_
  nofun
  exact ⟨rfl,rfl⟩
theorem K1 (n:Nat) (d:D) (l:List D):enumD n (d::l)=.tup [.int n,d]::enumD (n+1) l:=rfl
theorem ji {R:List RT}(h:Rl l R) (h8:l.length<=8) (hK:3<=K):Is K 4 [.tup l,.tup []] (.lst (pl l.length::(Η l.length).map pl),.fr) S:=by
 obtain ⟨K,hk,rfl⟩:=up hK
 refine je ?_
 nofun
 refine wp_walk (fun q ρ S'=>S'=S/\∃ (j:Nat) (m:List D) (T:List RT) (x3 x4:Slot),q=enumD j m/\Rl m T/\j+m.length=l.length/\ρ=[.sh (.tup l),.sh (.tup []),.ow (.lst (pl l.length::(Η j).map pl)),x3,x4]) ?_ ?_ _ _ _ ⟨rfl,0,l,R,.no,.no,rfl,h,by simp,rfl⟩
 ·rintro x q ρ S' ⟨rfl,j,m,T,x3,x4,e,hr,hl,rfl⟩
  cases hr with
  | nil=>cases e
  | @cons d w st go m T hd t=>
   rw [K1] at e
   obtain ⟨rfl,rfl⟩:=ϡ e
   have hl:j+(m.length+1)=l.length:=hl
   nofun
   refine (Zj (k:=j) hd hk).go ?_
   nofun
   refine tst_T (fits_of (by simp;omega)) ?_
   nofun
   exact ⟨rfl,j+1,m,T,.sh (.int j),.sh d,rfl,t,by omega,by rw [fu,aH];rfl⟩
 ·rintro ρ S' ⟨rfl,j,m,T,x3,x4,e,hr,hl,rfl⟩
  cases hr with
  | cons=>cases e
  | nil=>
   have hl:j=l.length:=by simpa using hl
   subst hl
   nofun
   exact ⟨rfl,rfl⟩
theorem U6 {n:Nat}(h:n<=8):biD .sorted [.lst (pl n::(Η n).map pl)]=some (.lst ((Η (n+1)).map pl),true):=by
 have hc:n=0\/n=1\/n=2\/n=3\/n=4\/n=5\/n=6\/n=7\/n=8:=by omega
 rcases hc with rfl | rfl | rfl | rfl | rfl | rfl | rfl | rfl | rfl <;> rfl
theorem ut {R:List RT}(h:Rl l R) (h8:l.length<=8) (hK:4<=K):Is K 3 [er ps l] (.tup ((Η (l.length+1)).map pl),.st) S:=by
 obtain ⟨K,hk,rfl⟩:=up hK
 refine QB (x0:=.tup _) ?_
 nofun
 refine (ji h h8 hk).go ?_
 refine opv_f (U6 h8) ?_
 nofun
 exact ⟨rfl,rfl⟩
end
noncomputable def kN (k:Nat):List Key:=[Ϙ (k:Int)]
noncomputable def keysN (m:Nat):List (List Key):=(Η m).map kN
noncomputable abbrev tab (L:List (List Str)):D:=.dT (keysN L.length) (L.map LS)
theorem zfQ {m k:Nat}(h:k < m):findK (keysN m) [Ϙ (k:Int)]=some k:=by
 have go:∀ (j n:Nat),j<=k->k < j+n->findK ((aM j n).map kN) [Ϙ (k:Int)]=some (k - j):=by
  intro j n
  induction n generalizing j with
  | zero=>intro h1 h2;omega
  | succ n ih=>
   intro h1 h2
   show (if [(Ϙ (j:Int):Key)]=[Ϙ (k:Int)] then some 0 else (findK ((aM (j+1) n).map kN) [Ϙ (k:Int)]).map (·+1))=_
   by_cases e:j=k
   ·subst e;rw [if_pos rfl,lW]
   ·rw [if_neg (fun q=>e (by have:=fV (ϡ q).1;omega)),ih (j+1) (by omega) (by omega)]
    show some (k - (j+1)+1)=_
    rw [show k - (j+1)+1=k - j by omega]
 have:=go 0 m (Ϣ _) (by omega)
 rw [keysN,c7]
 exact this
theorem zdq {m:Nat}:findK (keysN m) [Ϙ (m:Int)]=none:=by
 have go:∀ l:List Nat,(∀ i∈l,i < m)->findK (l.map kN) [Ϙ (m:Int)]=none:=by
  intro l
  induction l with
  | nil=>intro _;rfl
  | cons i l ih=>
   intro h
   show (if [(Ϙ (i:Int):Key)]=[Ϙ (m:Int)] then some 0 else (findK (l.map kN) [Ϙ (m:Int)]).map (·+1))=_
   rw [if_neg (fun q=>by have:=fV (ϡ q).1;have:=h i υ;omega),ih fun j hj=>h j (ι _ hj)]
   rfl
 exact go _ fun i hi=>ϫ.mp hi
theorem Wb {vs:List D}{m k:Nat}{v:D}(h:k < m) (e:vs[k]?=some v):subD (.dT (keysN m) vs) (pl k)=some v:=by
 show ((keysD [.int (k:Int)]).map (lookK (keysN m) vs)).bind id=_
 show lookK (keysN m) vs [Ϙ (k:Int)]=_
 unfold lookK
 rw [zfQ h]
 exact e
theorem df_at {vs:List D}{m k:Nat}{v:D}(h:k < m) (e:vs[k]?=some v):subD (.dF (keysN m) vs) (pl k)=some v:=Wb h e
theorem has_n {m k:Nat}(h:k < m):hasK (keysN m) [Ϙ (k:Int)]=true:=by
 unfold hasK keysN
 rw [bI]
 exact ⟨_,fJ (ϫ.mpr h),decide_eq_true rfl⟩
theorem has_m {m:Nat}:hasK (keysN m) [Ϙ (m:Int)]=false:=by
 unfold hasK keysN
 rw [pO]
 intro x hx
 obtain ⟨i,hi,rfl⟩:=Ϻ.mp hx
 have:=ϫ.mp hi
 rw [decide_eq_false (fun q=>by have:=fV (ϡ q).1;omega)]
 exact Μ
theorem zbv {v:D}:∀ {j:Nat}{vs:List D}{k:Nat},k < vs.length->mapK ((aM j vs.length).map kN) vs [Ϙ ((j+k:Nat):Int)] v=vs.set k v
 | j,[],k,h=>by cases h
 | j,x::vs,0,h=>by
  show (if [(Ϙ (j:Int):Key)]=[Ϙ ((j+0:Nat):Int)] then v else x)::mapK ((aM (j+1) vs.length).map kN) vs [Ϙ ((j+0:Nat):Int)] v=_
  rw [if_pos (by rw [Nat.add_zero])]
  have:∀ (i:Nat) (us:List D),j < i->mapK ((aM i us.length).map kN) us [Ϙ ((j+0:Nat):Int)] v=us:=by
   intro i us
   induction us generalizing i with
   | nil=>intro _;rfl
   | cons u us ih=>
    intro hi
    show (if [(Ϙ (i:Int):Key)]=[Ϙ ((j+0:Nat):Int)] then v else u)::mapK ((aM (i+1) us.length).map kN) us [Ϙ ((j+0:Nat):Int)] v=_
    rw [if_neg (fun q=>by have:=fV (ϡ q).1;omega),ih (i+1) (by omega)]
  rw [this (j+1) vs (by omega)]
  rfl
 | j,x::vs,k+1,h=>by
  show (if [(Ϙ (j:Int):Key)]=[Ϙ ((j+(k+1):Nat):Int)] then v else x)::mapK ((aM (j+1) vs.length).map kN) vs [Ϙ ((j+(k+1):Nat):Int)] v=_
  rw [if_neg (fun q=>by have:=fV (ϡ q).1;omega),show j+(k+1)=j+1+k by omega,zbv (by simpa using h)]
  rfl
theorem Wy {vs:List D}{k:Nat}{v:D}(h:k < vs.length) (hz:vs.length<=100):putD (.dT (keysN vs.length) vs) (pl k) v=some (.dT (keysN vs.length) (vs.set k v)):=by
 show (keysD [.int (k:Int)]).bind (fun x=>if fits ((keysN vs.length).length+1)=true then some (let p:=putKs (keysN vs.length) vs x v;D.dT p.1 p.2) else none)=_
 show (if fits ((keysN vs.length).length+1)=true then some (let p:=putKs (keysN vs.length) vs [Ϙ (k:Int)] v;D.dT p.1 p.2) else none)=_
 rw [if_pos (fits_of (by simp [keysN];omega))]
 unfold putKs
 rw [if_pos (has_n h)]
 have:=zbv (v:=v) (j:=0) h
 rw [lV,<- c7] at this
 exact congrArg (fun x=>some (D.dT (keysN vs.length) x)) this
theorem zcv {vs:List D}{v:D}(hz:vs.length<=100):putD (.dT (keysN vs.length) vs) (pl vs.length) v=some (.dT (keysN (vs.length+1)) (vs++[v])):=by
 show (if fits ((keysN vs.length).length+1)=true then some (let p:=putKs (keysN vs.length) vs [Ϙ (vs.length:Int)] v;D.dT p.1 p.2) else none)=_
 rw [if_pos (fits_of (by simp [keysN];omega))]
 unfold putKs
 rw [if_neg (by rw [has_m];exact Μ)]
 show some (D.dT (keysN vs.length++[[Ϙ (vs.length:Int)]]) (vs++[v]))=_
 rw [show keysN (vs.length+1)=keysN vs.length++[[Ϙ (vs.length:Int)]] by unfold keysN;rw [fu,aH];rfl]
theorem zdh (m:Nat):(keysN m).map (fun k=>D.tup (k.map keyOf))=(Η m).map pl:=by
 unfold keysN
 rw [oF]
 rfl
theorem uN {t:T}{b:List Slot->Ko->Store->Prop}{ρ:List Slot}{K:Ko}{S:Store}(h:K (.next ρ) S):forW t b [] ρ K S:=h
theorem vL (s:Str) (st:List Str):cmpD .NotIn (.str s) (LS st)=some (!decide (s∈st)):=by
 have h1:(st.map D.str).all isSc=true:=by
  rw [gW]
  exact aO.mpr fun _ _=>rfl
 have h2:((st.map D.str).any fun y=>eqP y (.str s))=decide (s∈st):=by
  rw [List.any_map]
  induction st with
  | nil=>rfl
  | cons a st ih=>
   rw [eX,ih (by rw [gW];exact aO.mpr fun _ _=>rfl)]
   show ((a==s)||decide (s∈st))=_
   by_cases e:a=s
   ·subst e;simp
   ·rw [beq_false_of_ne e,lA]
    exact decide_eq_decide.mpr ⟨ι _,fun h=>(Κ.mp h).elim (fun z=>absurd z.symm e) id⟩
 show (memD (st.map D.str) (.str s)).map (!·)=_
 unfold memD
 rw [h1,if_pos (show (isSc (D.str s)&&true)=true from rfl),h2]
 rfl
theorem wB {s:D->(Option D->Store->Prop)->Store->Prop}{V:List D->Store->Prop}{S:Store}(p:Str->Bool):∀ (xs:List Str) (acc:List D),acc.length+xs.length<=1000->(∀ x∈xs,∀ Q:Option D->Store->Prop,(p x=true->Q (some (.str x)) S)->(p x=false->Q none S)->s (.str x) Q S)->V (acc++(xs.filter p).map D.str) S->walkW s (xs.map D.str) acc V S
 | [],acc,_,_,v=>by
  rw [List.filter_nil,fO,Ρ] at v
  exact v
 | x::xs,acc,hl,h,v=>by
  have hl:acc.length+(xs.length+1)<=1000:=hl
  have h':=fun y hy=>h y (ι _ hy)
  refine h x υ _ (fun e=>?_) (fun e=>?_)
  ·refine tst_T (fits_of (by omega)) (wB p xs (acc++[.str x]) (by simp;omega) h' ?_)
   simpa [gK,e] using v
  ·refine wB p xs acc (by omega) h' ?_
   simpa [gK,e] using v
theorem strs_map:∀ ns:List Str,strsD (ns.map D.str)=some ns
 | []=>rfl
 | n::ns=>by
  show (strsD (ns.map D.str)).map (n::·)=_
  rw [strs_map ns];rfl
theorem JF:∀ (ks l:List Str),(ks.foldl (fun l x=>if x∈l then l else l++[x]) l).length<=l.length+ks.length
 | [],l=>ξ _
 | k::ks,l=>by
  refine Ϫ (JF ks _) ?_
  dsimp only
  split
  ·simp
  ·simp;omega
theorem Wf {xs:List Str}(h:xs.length < 128) (this:(onesS xs).length < 64):biD .sset [LS xs]=some (LS (sortS (onesS xs)),true):=by
 show ssetD (LS xs)=_
 unfold ssetD
 rw [show (lotD (LS xs)).bind strsD=some xs from strs_map xs,lO,if_pos]
 rw [decide_eq_true (by omega),decide_eq_true (by omega)];rfl
theorem U5 {xs:List Str}(h:xs.length < 64):biD .sset [LS xs]=some (LS (sortS (onesS xs)),true):=Wf (by omega) (by have:=JF xs [];simp only [ie,lV] at this;unfold onesS;omega)
noncomputable def fresh (nx st kn:List Str) (go:Bool):List Str:=if go=true then sortS (onesS (nx.filter fun s=>!decide (s∈st)&&!decide (s∈kn))) else []
section
variable {K:Nat}{S:Store}
theorem Qk {L:List (List Str)}{k c:Nat}{st kn nx:List Str}{go:Bool}(hc:S[c]?=some (tab L)) (hx:go=true->L[k+1]?=some nx) (hz:nx.length < 64) (hK:1<=K):Is K 38 [.lst (lead k st go),.ref c,LS kn] (LS (fresh nx st kn go),.fr) S:=by
 obtain ⟨K,hk,rfl⟩:=up hK
 cases go with
 | false=>
  refine yx (x0:=.lst _) ?_
  nofun
  exact ⟨rfl,rfl⟩
 | true=>
  have e:=hx rfl
  have hl:=(π.mp e).1
  have hs:subD (deref S (.ref c)) (pl (k+1))=some (LS nx):=by
   show subD ((S[c]?).getD .non) _=_
   rw [hc]
   exact Wb hl (by rw [Δ,e];rfl)
  refine yx (x0:=.lst _) ?_
  nofun
  refine KJ ?_
  nofun
  refine wp_lc ?_
  dsimp only [wpI,e_sub,e_var]
  nofun
  refine zx hs ?_
  nofun
  refine wB (fun s=>!decide (s∈st)&&!decide (s∈kn)) nx [] (by simp;omega) (fun x hx' Q h1 h2=>?_) ?_
  ·refine yl rfl ?_
   dsimp only [wpF,e_and,e_one,e_cmp,e_var,inn,nT,Θ,dD,Ρ,bZ]
   nofun
   refine zx (vL x st) ?_
   nofun
   refine yZ (fun a=>?_) (fun a=>?_)
   ·nofun
    refine zx (vL x kn) ?_
    nofun
    refine yZ (fun b=>?_) (fun b=>?_)
    ·nofun
     exact h1 (by rw [a,b];rfl)
    ·nofun
     exact h2 (by rw [a,b];rfl)
   ·nofun
    exact h2 (by rw [a];rfl)
  ·have hf:(nx.filter fun s=>!decide (s∈st)&&!decide (s∈kn)).length<=nx.length:=d9 ..
   rw [bR]
   nofun
   refine uN ?_
   rw [bR]
   nofun
   refine opv_f (U5 (by omega)) ?_
   nofun
   exact ⟨rfl,rfl⟩
end
noncomputable def needL:List RT->List Str
 | []=>[]
 | (w,st,go)::R=>if go=true then ((needL R).filter fun s=>!decide (s∈st))++w else w
theorem WK (s:Str):∀ (ks l:List Str),s∈ks.foldl (fun l x=>if x∈l then l else l++[x]) l ↔ s∈l\/s∈ks
 | [],l=>by simp
 | k::ks,l=>by
  rw [fC,WK s ks]
  by_cases h:k∈l
  ·rw [if_pos h,Κ]
   exact ⟨fun q=>q.elim .inl fun z=>.inr (.inr z),fun q=>q.elim .inl fun z=>z.elim (fun e=>.inl (e ▸ h)) .inr⟩
  ·rw [if_neg h,Ϭ,Υ,Κ,or_assoc]
theorem WF:∀ (ks l:List Str),l.Nodup->(ks.foldl (fun l x=>if x∈l then l else l++[x]) l).Nodup
 | [],l,h=>h
 | k::ks,l,h=>by
  rw [fC]
  refine WF ks _ ?_
  by_cases e:k∈l
  ·rw [if_pos e];exact h
  ·rw [if_neg e]
   refine d7.mpr ⟨h,cH.mpr ⟨List.not_mem_nil,fW⟩,fun a ha b hb q=>?_⟩
   rw [Υ.mp hb] at q
   exact e (q ▸ ha)
theorem yV {s:Str}{ks:List Str}:s∈onesS ks ↔ s∈ks:=by
 unfold onesS
 rw [WK]
 exact ⟨fun h=>h.elim (fun z=>by cases z) id,.inr⟩
theorem vM (ks:List Str):(onesS ks).Nodup:=WF ks [] fW
theorem ql {s:Str}{ks:List Str}:s∈sortS ks ↔ s∈ks:=(yj ks).mem_iff
theorem JQ {ks:List Str}(h:ks.Nodup):(sortS ks).Nodup:=(yj ks).nodup_iff.mpr h
theorem QV {a b:List Str}(h:∀ s,s∈a ↔ s∈b) (ha:a.Nodup):sortS a=sortS (onesS b):=
 v7 ((yj a).trans ((List.perm_ext_iff_of_nodup ha (vM b)).mpr fun s=>(h s).trans yV.symm)) (kE a)
theorem JP:∀ (a m:List Str),a.Nodup->(∀ s∈a,s∈m)->a.length<=m.length
 | [],m,_,_=>Ϣ _
 | x::a,m,h,q=>by
  obtain ⟨h1,h2⟩:=cH.mp h
  have hx:=q x υ
  have:=JP a (m.erase x) h2 fun s hs=>(List.mem_erase_of_ne (a:=s) (b:=x) fun e=>h1 (by rw [<- e];exact hs)).mpr (q s (ι _ hs))
  rw [List.length_erase_of_mem hx] at this
  have:0 < m.length:=List.length_pos_of_mem hx
  show a.length+1<=m.length
  omega
theorem uz {a:List Str}(h:a.Nodup) (m:∀ s∈a,s∈nmL):a.length<=4:=JP a nmL h m
theorem xY {nx st kn:List Str}{go:Bool}{s:Str}:s∈fresh nx st kn go ↔ go=true/\s∈nx/\s ∉ st/\s ∉ kn:=by
 unfold fresh
 cases go with
 | false=>simp
 | true=>rw [if_pos rfl,ql,yV,dI];simp
theorem JR (nx st kn:List Str) (go:Bool):(fresh nx st kn go).Nodup:=by
 unfold fresh
 cases go with
 | false=>exact fW
 | true=>exact JQ (vM _)
noncomputable def tot:List (List Str)->Nat
 | []=>0
 | x::L=>x.length+tot L
theorem UG:∀ {L:List (List Str)}{k:Nat}{x y:List Str},L[k]?=some x->tot (L.set k (x++y))=tot L+y.length
 | [],k,x,y,h=>by cases h
 | z::L,0,x,y,h=>by
  cases h
  show (z++y).length+tot L=z.length+tot L+y.length
  rw [Ο];omega
 | z::L,k+1,x,y,h=>by
  show z.length+tot (L.set k (x++y))=z.length+tot L+y.length
  rw [UG (by simpa using h)];omega
theorem za6:∀ {L:List (List Str)},(∀ x∈L,x.length<=4)->tot L<=4*L.length
 | [],_=>ξ _
 | x::L,h=>by
  have h1:=za6 fun y hy=>h y (ι x hy)
  have h2:=h x υ
  show x.length+tot L<=4*(L.length+1)
  omega
structure Tk (R:List RT) (L:List (List Str)):Prop where
 len:L.length=R.length
 sub:∀ k x,L[k]?=some x->∀ s∈x,s∈needL (R.drop k)
 sup:∀ (k:Nat) (x:List Str) (r:RT),L[k]?=some x->R[k]?=some r->∀ s∈r.1,s∈x
 nod:∀ x∈L,x.Nodup
 nms:∀ x∈L,∀ s∈x,s∈nmL
def Cl (R:List RT) (L:List (List Str)) (k:Nat):Prop:=∀ (x:List Str) (r:RT) (nx:List Str),L[k]?=some x->R[k]?=some r->L[k+1]?=some nx->r.2.2=true->∀ s∈nx,s ∉ r.2.1->s∈x
theorem uR {R:List RT}{k:Nat}{r:RT}(h:R[k]?=some r):R.drop k=r::R.drop (k+1):=by
 obtain ⟨hl,e⟩:=π.mp h
 rw [du hl,e]
theorem Tk.step {R:List RT}{L:List (List Str)}{k:Nat}{x nx:List Str}{r:RT}(t:Tk R L) (hx:L[k]?=some x) (hr:R[k]?=some r) (hn:r.2.2=true->L[k+1]?=some nx):Tk R (L.set k (x++fresh nx r.2.1 x r.2.2)):=by
 obtain ⟨w,st,go⟩:=r
 have hk:=(π.mp hx).1
 have hxm:x∈L:=ϝ hx
 refine ⟨by rw [bT];exact t.len,?_,?_,?_,?_⟩
 ·intro i y hy s hs
  rw [lQ] at hy
  by_cases e:k=i
  ·subst e
   rw [if_pos rfl,if_pos hk] at hy
   cases hy
   rcases Ϭ.mp hs with q | q
   ·exact t.sub k x hx s q
   ·obtain ⟨g,q1,q2,q3⟩:=xY.mp q
    have g:go=true:=g
    subst g
    rw [uR hr]
    show s∈((needL (R.drop (k+1))).filter fun s=>!decide (s∈st))++w
    refine fc _ (dI.mpr ⟨t.sub (k+1) nx (hn rfl) s q1,?_⟩)
    rw [decide_eq_false q2];rfl
  ·rw [if_neg e] at hy
   exact t.sub i y hy s hs
 ·intro i y q hy hq s hs
  rw [lQ] at hy
  by_cases e:k=i
  ·subst e
   rw [if_pos rfl,if_pos hk] at hy
   cases hy
   exact fc _ (t.sup k x q hx hq s hs)
  ·rw [if_neg e] at hy
   exact t.sup i y q hy hq s hs
 ·intro y hy
  rcases nC hy with q | rfl
  ·exact t.nod y q
  ·refine d7.mpr ⟨t.nod x hxm,JR ..,fun a ha b hb e=>?_⟩
   subst e
   exact (xY.mp hb).2.2.2 ha
 ·intro y hy s hs
  rcases nC hy with q | rfl
  ·exact t.nms y q s hs
  ·rcases Ϭ.mp hs with q | q
   ·exact t.nms x hxm s q
   ·obtain ⟨g,q1,_,_⟩:=xY.mp q
    exact t.nms nx (ϝ (hn g)) s q1
theorem cl_of {R:List RT}{L:List (List Str)}{k:Nat}{x nx:List Str}{r:RT}(hx:L[k]?=some x) (hr:R[k]?=some r) (hn:r.2.2=true->L[k+1]?=some nx) (hf:fresh nx r.2.1 x r.2.2=[]):Cl R L k:=by
 intro y q ny hy hq hny g s hs hst
 rw [hx] at hy;cases hy
 rw [hr] at hq;cases hq
 rw [hn g] at hny;cases hny
 by_cases e:s∈x
 ·exact e
 ·exfalso
  have:s∈fresh nx r.2.1 x r.2.2:=xY.mpr ⟨g,hs,hst,e⟩
  rw [hf] at this
  cases this
theorem Tk.all {R:List RT}{L:List (List Str)}(t:Tk R L) (he:∀ k r,R[k]?=some r->r.2.2=true->k+1 < R.length) (hc:∀ k,k < L.length->Cl R L k):∀ (j k:Nat),k+j=L.length->∀ x,L[k]?=some x->∀ s,s∈x ↔ s∈needL (R.drop k):=by
 intro j
 induction j with
 | zero=>
  intro k hk x hx
  have:=(π.mp hx).1
  omega
 | succ j ih=>
  intro k hk x hx s
  refine ⟨t.sub k x hx s,fun h=>?_⟩
  have hl:=(π.mp hx).1
  obtain ⟨r,hr⟩:∃ r,R[k]?=some r:=⟨_,θ (by rw [<- t.len];exact hl)⟩
  rw [uR hr] at h
  obtain ⟨w,st,go⟩:=r
  cases go with
  | false=>exact t.sup k x _ hx hr s h
  | true=>
   have h:s∈((needL (R.drop (k+1))).filter fun s=>!decide (s∈st))++w:=h
   rcases Ϭ.mp h with q | q
   ·obtain ⟨q1,q2⟩:=dI.mp q
    have hl2:=he k _ hr rfl
    rw [<- t.len] at hl2
    have hn:=θ hl2
    have:=(ih (k+1) (by omega) _ hn s).mpr q1
    exact hc k hl x _ _ hx hr hn rfl s this (by simpa using q2)
   ·exact t.sup k x _ hx hr s q
noncomputable def rr (R:List RT):List RT:=R++[([],[],false)]
noncomputable def ra (R:List RT) (k:Nat):RT:=((rr R)[k]?).getD ([],[],false)
theorem yE (R:List RT):(rr R).length=R.length+1:=by unfold rr;rw [Ο];rfl
theorem ra_at {R:List RT}{k:Nat}(h:k<=R.length):(rr R)[k]?=some (ra R k):=by
 unfold ra
 rw [θ (by rw [yE];omega)]
 rfl
theorem Wm {R:List RT}{k:Nat}(h:k < R.length):R[k]?=some (ra R k):=by
 rw [<- ra_at (fQ h)]
 unfold rr
 rw [ώ h]
theorem Jo (R:List RT):ra R R.length=([],[],false):=by
 unfold ra rr
 rw [ϑ (ξ _),lW]
 rfl
theorem kW:∀ (S:List D) (a b:D),bZ (S++[a]) S.length b=S++[b]
 | [],a,b=>rfl
 | x::S,a,b=>congrArg (x::·) (kW S a b)
theorem qb {vs:List D}{v:D}{j:Nat}(e:vs.length=j) (hz:j<=100):putD (.dT (keysN j) vs) (pl j) v=some (.dT (keysN (j+1)) (vs++[v])):=by
 subst e;exact zcv hz
theorem zcw {vs:List D}{k m:Nat}{v:D}(e:vs.length=m) (h:k < m) (hz:m<=100):putD (.dT (keysN m) vs) (pl k) v=some (.dT (keysN m) (vs.set k v)):=by
 subst e;exact Wy h hz
noncomputable def ldK (R:List RT) (k:Nat):D:=.lst (lead k (ra R k).2.1 (ra R k).2.2)
noncomputable def srK (R:List RT) (k:Nat):List Str:=sortS (onesS (ra R k).1)
section
variable {ps:D}{l:List D}{R:List RT}{k:Nat}{K:Nat}{S:Store}
theorem zbe (h:Rl l R) (hk:k<=l.length) (hK:5<=K):Is K 32 [er ps l,pl k] (LS (ra R k).1,.fr) S:=by
 by_cases e:k=l.length
 ·subst e
  rw [h.len,Jo,<- h.len]
  exact VG rfl hK
 ·obtain ⟨d,e1,e2⟩:=h.at (Wm (k:=k) (by rw [<- h.len];omega))
  exact Jl e1 e2 hK
theorem zbA (h:Rl l R) (hk:k<=l.length) (hK:8<=K):Is K 34 [er ps l,pl k] (ldK R k,.fr) S:=by
 unfold ldK
 by_cases e:k=l.length
 ·subst e
  rw [h.len,Jo,<- h.len]
  exact J5 rfl (by omega)
 ·obtain ⟨d,e1,e2⟩:=h.at (Wm (k:=k) (by rw [<- h.len];omega))
  exact zaz e1 e2 (h.pl0 (by omega)) hK
theorem ra_ok (h:Rl l R) (hk:k<=l.length):(ra R k).1.length<=8/\(∀ s∈(ra R k).1,s∈nmL)/\((ra R k).2.2=true->k < l.length):=by
 by_cases e:k=l.length
 ·rw [e,h.len,Jo]
  exact ⟨Ϣ _,fun s hs=>(by cases hs),fun q=>(by cases q)⟩
 ·obtain ⟨d,e1,e2⟩:=h.at (Wm (k:=k) (by rw [<- h.len];omega))
  exact ⟨e2.len,e2.mem,fun _=>by omega⟩
theorem QH (h:Rl l R):Tk (rr R) ((Η (l.length+1)).map (srK R)):=by
 have hl:=h.len
 have at':∀ {k:Nat}{x:List Str},((Η (l.length+1)).map (srK R))[k]?=some x->k<=l.length/\x=srK R k:=by
  intro k x hx
  rw [Δ,Α] at hx
  obtain ⟨i,hi,rfl⟩:=hx
  obtain ⟨h1,h2⟩:=π.mp hi
  rw [ϱ] at h1
  rw [List.getElem_range] at h2
  subst h2
  exact ⟨by omega,rfl⟩
 refine ⟨by simp [rr,hl],?_,?_,?_,?_⟩
 ·intro k x hx s hs
  obtain ⟨hk,rfl⟩:=at' hx
  have hs:=yV.mp (ql.mp hs)
  rw [uR (ra_at (R:=R) (k:=k) (by omega))]
  generalize ra R k=r at hs
  obtain ⟨w,st,go⟩:=r
  cases go with
  | false=>exact hs
  | true=>exact ϐ _ hs
 ·intro k x r hx hr s hs
  obtain ⟨hk,rfl⟩:=at' hx
  rw [ra_at (by omega)] at hr
  cases hr
  exact ql.mpr (yV.mpr hs)
 ·intro x hx
  obtain ⟨i,hi,rfl⟩:=Ϻ.mp hx
  exact JQ (vM _)
 ·intro x hx s hs
  obtain ⟨i,hi,rfl⟩:=Ϻ.mp hx
  have:=ϫ.mp hi
  exact (ra_ok h (k:=i) (by omega)).2.1 s (yV.mp (ql.mp hs))
theorem zeV {s:Option Slot}{ks:List (List Key)}{ds:List D}{Q:List (List Key)->List D->Prop}(h:s=some (.ow (.dT ks ds))) (q:Q ks ds):owT s Q:=by subst h;exact q
theorem zdn {d:D}{ks:List (List Key)}{ds:List D}{Q:List (List Key)->Prop}(h:d=.dF ks ds) (q:Q ks):isDF d Q:=by subst h;exact q
theorem zav (h:Rl l R) (h8:l.length<=8) {V:Ko}{A:List C}(hK:8<=K)
  (q:∀ x3,wpCs (callW F wh K) wh A [.sh (er ps l),.sh (.dF (keysN (l.length+1)) ((Η (l.length+1)).map (ldK R))),.sh (.ref S.length),x3,.no,.no] V (S++[tab ((Η (l.length+1)).map (srK R))])):
  wpCs (callW F wh K) wh (yq.take 4++A) [.sh (er ps l),.no,.no,.no,.no,.no] V S:=by
 dsimp only [List.take,List.cons_append,bR]
 nofun
 refine (ut h h8 (by omega)).go ?_
 nofun
 refine wp_walk (fun q ρ S'=>∃ (j d:Nat) (x3:Slot),q=(aM j d).map pl/\j+d=l.length+1/\S'=S++[tab ((Η j).map (srK R))]/\ρ=[.sh (er ps l),.ow (.dT (keysN j) ((Η j).map (ldK R))),.sh (.ref S.length),x3,.no,.no]) ?_ ?_ _ _ _ ⟨0,l.length+1,.no,by rw [c7],by omega,rfl,rfl⟩
 ·rintro x q ρ S' ⟨j,d,x3,e,hj,rfl,rfl⟩
  cases d with
  | zero=>cases e
  | succ d=>
   obtain ⟨rfl,rfl⟩:=ϡ e
   have hn:j<=l.length:=by omega
   nofun
   refine (kJ (h.pl0 hn) (by omega)).go ?_
   nofun
   refine (zbA h hn (by omega)).go ?_
   nofun
   refine zx (qb (by simp) (by omega)) ?_
   nofun
   refine (zbe h hn (by omega)).go ?_
   have:=(ra_ok h hn).1
   refine opv_f (U5 (by omega)) ?_
   nofun
   refine zx (a:=tab ((Η j).map (srK R))) (by simp) ?_
   refine zx (show putD (.dT (keysN _) _) (pl j) _=_ by rw [ν,ϱ];exact qb (by simp) (by omega)) ?_
   nofun
   refine ⟨j+1,d,.sh (pl j),rfl,by omega,?_,?_⟩
   ·refine (kW S _ _).trans ?_
    simp [fu,srK]
   ·simp [fu]
 ·rintro ρ S' ⟨j,d,x3,e,hj,rfl,rfl⟩
  cases d with
  | succ d=>cases e
  | zero=>
   have hj:j=l.length+1:=by omega
   subst hj
   nofun
   refine zeV rfl ?_
   nofun
   exact q x3
end
theorem uC:∀ (S:List D) (a:D),(S++[a])[S.length]?=some a
 | [],a=>rfl
 | x::S,a=>uC S a
section
variable {ps:D}{l:List D}{R:List RT}{k:Nat}{K:Nat}{S:Store}
theorem zc4 (h:Rl l R) (h8:l.length<=8) {L0:List (List Str)}(t0:Tk (rr R) L0) {x3 x5:Slot}{V:Ko}(hK:1<=K) {g0:Bool}
  (q:∀ L g x3 x5,Tk (rr R) L->(g=true->tot L0 < tot L)->(g=false->∀ k,k < L.length->Cl (rr R) L k)->V (.next [.sh (er ps l),.sh (.dF (keysN (l.length+1)) ((Η (l.length+1)).map (ldK R))),.sh (.ref S.length),x3,.sh (.bl g),x5]) (S++[tab L])):
  wpCs (callW F wh K) wh [.set (.one 4) (.con (.bl false)),.forr (.one 3) (.keys (.var 1)) [.set (.one 5) (.call 38 [(.sub (.var 1) (.var 3)),(.var 2),(.sub (.var 2) (.var 3))]),.set (.one 4) (.or (.var 4) (.one (.cmp .Gt (.bi .len [(.var 5)]) (.con (.int 0))))),.sti (.var 2) (.var 3) (.bin .Add (.sub (.var 2) (.var 3)) (.var 5))]]
   [.sh (er ps l),.sh (.dF (keysN (l.length+1)) ((Η (l.length+1)).map (ldK R))),.sh (.ref S.length),x3,.sh (.bl g0),x5] V (S++[tab L0]):=by
 nofun
 refine zdn rfl ?_
 rw [zdh]
 refine wp_walk (fun q ρ S'=>∃ (j d:Nat) (L:List (List Str)) (g:Bool) (x3 x5:Slot),q=(aM j d).map pl/\j+d=l.length+1/\Tk (rr R) L/\(g=true->tot L0 < tot L)/\(g=false->L=L0/\∀ k,k < j->Cl (rr R) L k)/\S'=S++[tab L]/\ρ=[.sh (er ps l),.sh (.dF (keysN (l.length+1)) ((Η (l.length+1)).map (ldK R))),.sh (.ref S.length),x3,.sh (.bl g),x5]) ?_ ?_ _ _ _ ⟨0,l.length+1,L0,false,x3,x5,by rw [c7],by omega,t0,nofun,fun _=>⟨rfl,fun k hk=>by omega⟩,rfl,rfl⟩
 ·rintro x q ρ S' ⟨j,d,L,g,x3,x5,e,hj,t,g1,g2,rfl,rfl⟩
  cases d with
  | zero=>cases e
  | succ d=>
   obtain ⟨rfl,rfl⟩:=ϡ e
   have hn:j<=l.length:=by omega
   have hlen:L.length=l.length+1:=by rw [t.len,yE,h.len]
   obtain ⟨x,hx⟩:∃ x,L[j]?=some x:=⟨_,θ (by omega)⟩
   have hr:=ra_at (R:=R) (k:=j) (by rw [<- h.len];exact hn)
   obtain ⟨nx,hnx,hnl⟩:∃ nx,((ra R j).2.2=true->L[j+1]?=some nx)/\nx.length < 64:=by
    by_cases c:j+1 < L.length
    ·refine ⟨L[j+1],fun _=>θ c,?_⟩
     have:=uz (t.nod _ (bj c)) (t.nms _ (bj c))
     omega
    ·exact ⟨[],fun q=>absurd ((ra_ok h hn).2.2 q) (by omega),by decide⟩
   have hs:subD (.dF (keysN (l.length+1)) ((Η (l.length+1)).map (ldK R))) (pl j)=some (ldK R j):=df_at (by omega) (by rw [Δ,o6 (by omega)];rfl)
   have hs2:subD (deref (S++[tab L]) (.ref S.length)) (pl j)=some (LS x):=by
    show subD (((S++[tab L])[S.length]?).getD .non) _=_
    rw [uC]
    exact Wb (by omega) (by rw [Δ,hx];rfl)
   have t':=t.step hx hr hnx
   have hz:=uz (t'.nod _ (List.mem_set (by omega) _)) (t'.nms _ (List.mem_set (by omega) _))
   have hto:=UG (y:=fresh nx (ra R j).2.1 x (ra R j).2.2) hx
   nofun
   refine zx hs ?_
   nofun
   refine zx hs2 ?_
   nofun
   refine (Qk (uC S (tab L)) hnx hnl hK).go ?_
   have hcl:=cl_of hx hr hnx
   generalize fresh nx (ra R j).2.1 x (ra R j).2.2=fr at t' hz hto hcl
   rw [Ο] at hz
   nofun
   have fin:∀ (V':Ko) g',(g'=true->tot L0 < tot (L.set j (x++fr)))->(g'=false->g=false/\fr=[])->wpCs (callW F wh K) wh [.sti (.var 2) (.var 3) (.bin .Add (.sub (.var 2) (.var 3)) (.var 5))] [.sh (er ps l),.sh (.dF (keysN (l.length+1)) ((Η (l.length+1)).map (ldK R))),.sh (.ref S.length),.sh (pl j),.sh (.bl g'),.ow (LS fr)] (trn V' (fun ρ S'=>∃ (j' d':Nat) (L:List (List Str)) (g:Bool) (x3 x5:Slot),(aM (j+1) d).map pl=(aM j' d').map pl/\j'+d'=l.length+1/\Tk (rr R) L/\(g=true->tot L0 < tot L)/\(g=false->L=L0/\∀ k,k < j'->Cl (rr R) L k)/\S'=S++[tab L]/\ρ=[.sh (er ps l),.sh (.dF (keysN (l.length+1)) ((Η (l.length+1)).map (ldK R))),.sh (.ref S.length),x3,.sh (.bl g),x5])) (S++[tab L]):=by
    intro V' g' h1 h2
    nofun
    refine zx hs2 ?_
    refine rdv_o rfl ?_
    refine opv_f (yr (a:=x.map D.str) (b:=fr.map D.str) (by rw [ν,ν];omega)) ?_
    nofun
    refine zx (uC S (tab L)) ?_
    refine zx (show putD (.dT (keysN _) _) (pl j) _=_ from zcw (by simp) (by omega) (by omega)) ?_
    nofun
    refine ⟨j+1,d,L.set j (x++fr),g',_,_,rfl,by omega,t',h1,fun c=>?_,?_,rfl⟩
    ·obtain ⟨c1,c2⟩:=h2 c
     obtain ⟨e1,e2⟩:=g2 c1
     have e3:L.set j (x++fr)=L:=by
      rw [c2,Ρ]
      obtain ⟨z1,z2⟩:=π.mp hx
      rw [<- z2]
      exact List.set_getElem_self z1
     rw [e3]
     refine ⟨e1,fun k hk=>?_⟩
     by_cases c:k=j
     ·subst c;exact hcl c2
     ·exact e2 k (by omega)
    ·refine (kW S _ _).trans ?_
     simp [List.map_set,LS]
   cases g with
   | true=>
    nofun
    refine fin _ true (fun _=>?_) nofun
    have:=g1 rfl
    omega
   | false=>
    nofun
    refine fin _ _ (fun c=>?_) (fun c=>⟨rfl,?_⟩)
    ·have:=of_decide_eq_true c
     rw [ν] at this
     rw [<- (g2 rfl).1]
     omega
    ·have:=of_decide_eq_false c
     rw [ν] at this
     exact b7.mp (by omega)
 ·rintro ρ S' ⟨j,d,L,g,x3,x5,e,hj,t,g1,g2,rfl,rfl⟩
  cases d with
  | succ d=>cases e
  | zero=>
   nofun
   refine q L g x3 x5 t g1 fun c k hk=>(g2 c).2 k ?_
   have:L.length=l.length+1:=by rw [t.len,yE,h.len]
   omega
theorem qj (h:Rl l R) (h8:l.length<=8) (hK:9<=K):callW F wh K 37 [er ps l] (fun x S'=>∃ L,x=(.ref S.length,.st)/\S'=S++[tab L]/\Tk (rr R) L/\∀ k x,L[k]?=some x->∀ s,s∈x ↔ s∈needL ((rr R).drop k)) S:=by
 obtain ⟨K,hk,rfl⟩:=up hK
 refine j6 ?_
 refine zav h h8 hk fun x3=>?_
 nofun
 refine xF (fun n ρ S'=>∃ (L:List (List Str)) (g:Bool) (x3 x5:Slot),Tk (rr R) L/\(g=true->37<=n+tot L)/\(g=false->∀ k,k < L.length->Cl (rr R) L k)/\S'=S++[tab L]/\ρ=[.sh (er ps l),.sh (.dF (keysN (l.length+1)) ((Η (l.length+1)).map (ldK R))),.sh (.ref S.length),x3,.sh (.bl g),x5]) ?_ _ 40 _ _ (by decide) ⟨_,true,x3,.no,QH h,fun _=>by omega,nofun,rfl,rfl⟩
 rintro n ρ S' ⟨L,g,x3,x5,t,g1,g2,rfl,rfl⟩
 have hlen:L.length=l.length+1:=by rw [t.len,yE,h.len]
 simp only [wpE]
 nofun
 cases g with
 | true=>
  nofun
  have h4:=za6 fun x hx=>uz (t.nod x hx) (t.nms x hx)
  have h1:=g1 rfl
  refine ⟨n - 1,by omega,?_⟩
  refine zc4 h h8 t (by omega) fun L' g' x3 x5 t' g1' g2'=>?_
  nofun
  exact ⟨L',g',x3,x5,t',fun c=>by have:=g1' c;omega,g2',rfl,rfl⟩
 | false=>
  nofun
  refine ⟨L,rfl,rfl,t,fun k x hx=>?_⟩
  have hl:=(π.mp hx).1
  refine t.all (fun k r hr g=>?_) (g2 rfl) (L.length - k) k (by omega) x hx
  have hk:=(π.mp hr).1
  rw [yE,<- h.len] at hk ⊢
  rw [ra_at (by rw [<- h.len];omega)] at hr
  cases hr
  have:=(ra_ok h (k:=k) (by omega)).2.2 g
  omega
end
theorem K8 {s:D->(Option D->Store->Prop)->Store->Prop}{V:List D->Store->Prop}{S:Store}(f:Nat->D):∀ (xs:List Nat) (acc:List D),acc.length+xs.length<=1000->(∀ x∈xs,∀ Q:Option D->Store->Prop,Q (some (f x)) S->s (pl x) Q S)->V (acc++xs.map f) S->walkW s (xs.map pl) acc V S
 | [],acc,_,_,v=>by
  rw [fO,Ρ] at v
  exact v
 | x::xs,acc,hl,h,v=>by
  have hl:acc.length+(xs.length+1)<=1000:=hl
  refine h x υ _ ?_
  refine tst_T (fits_of (by omega)) (K8 f xs (acc++[f x]) (by simp;omega) (fun y hy=>h y (ι _ hy)) ?_)
  simpa using v
theorem zed:∀ {xs:List Str},xs.length<=4->biD .sorted [LS xs]=some (LS (sortS xs),true)
 | [],_=>rfl
 | x::xs,h=>by
  have h:xs.length+1<=4:=h
  show (strsD (xs.map D.str)).bind (fun ks=>if decide (ks.length < 63)=true then some (D.lst ((sortS (x::ks)).map D.str),true) else none)=_
  rw [strs_map,lO,if_pos (decide_eq_true (by omega))]
noncomputable def ndK (R:List RT) (k:Nat):List Str:=sortS (onesS (needL ((rr R).drop k)))
noncomputable def ndT (R:List RT) (k:Nat):D:=.tup [pl k,.tup ((ndK R k).map D.str)]
section
variable {ps:D}{l:List D}{R:List RT}{k:Nat}{K:Nat}{S:Store}
theorem WR (h:Rl l R) (h8:l.length<=8) (hK:10<=K):callW F wh K 36 [er ps l] (fun x S'=>x=(.tup ((Η (l.length+1)).map (ndT R)),.st)/\∃ c,S'=S++[c]) S:=by
 obtain ⟨K,hk,rfl⟩:=up hK
 refine zbU ?_
 nofun
 refine wp_mono (qj h h8 hk) ?_
 rintro _ _ ⟨L,rfl,rfl,t,ht⟩
 have hlen:L.length=l.length+1:=by rw [t.len,yE,h.len]
 nofun
 refine wp_lc ?_
 dsimp only [wpI,ye,wpEs,e_var]
 nofun
 refine (ut h h8 (by omega)).go ?_
 nofun
 refine K8 (ndT R) (Η (l.length+1)) [] (by simp;omega) (fun k hk' Q hQ=>?_) ?_
 ·have hk1:=ϫ.mp hk'
  obtain ⟨x,hx⟩:∃ x,L[k]?=some x:=⟨_,θ (by omega)⟩
  have hxm:x∈L:=ϝ hx
  have hs2:subD (deref (S++[tab L]) (.ref S.length)) (pl k)=some (LS x):=by
   show subD (((S++[tab L])[S.length]?).getD .non) _=_
   rw [uC]
   exact Wb (by omega) (by rw [Δ,hx];rfl)
  have h4:=uz (t.nod x hxm) (t.nms x hxm)
  refine yl rfl ?_
  dsimp only [wpF,e_tup,e_bi,ye,e_sub,wpEs,e_var,inn,nT,Θ,dD,Ρ,bZ]
  nofun
  refine (kJ (h.pl0 (by omega)) (by omega)).go ?_
  nofun
  refine zx hs2 ?_
  refine opv_f (zed h4) ?_
  nofun
  rw [show ndT R k=.tup [pl k,.tup ((sortS x).map D.str)] by unfold ndT ndK;rw [<- QV (ht k x hx) (t.nod x hxm)]] at hQ
  exact hQ
 ·nofun
  exact ⟨rfl,_,rfl⟩
end
noncomputable def wayG (key:Str) (j:Nat):List RT->D
 | []=>.non
 | (w,st,go)::R=>if key∈w then .tup ((Η j).map pl++[pl j]) else if go=true/\key ∉ st then wayG key (j+1) R else .non
theorem in_op (s:Str) (st:List Str):cmpD .In (.str s) (LS st)=some (decide (s∈st)):=by
 have h:=vL s st
 have h:(inD (.str s) (LS st)).map (!·)=some (!decide (s∈st)):=h
 obtain ⟨b,e1,e2⟩:=Α.mp h
 show inD (.str s) (LS st)=_
 rw [e1]
 cases b <;> cases hd:decide (s∈st) <;> rw [hd] at e2 <;> first | rfl | cases e2
theorem zat {n:Nat}:cmpD .NotIn (pl 0) (.tup ((Η (n+1)).map pl))=some false:=by
 have h1:((Η (n+1)).map pl).all isSc=true:=by
  rw [gW]
  exact aO.mpr fun _ _=>rfl
 show (memD ((Η (n+1)).map pl) (pl 0)).map (!·)=_
 unfold memD
 rw [h1,if_pos (show (isSc (pl 0)&&true)=true from rfl),show (((Η (n+1)).map pl).any fun y=>eqP y (pl 0))=true from bI.mpr ⟨pl 0,fJ (ϫ.mpr (by omega)),rfl⟩]
 rfl
theorem zfj {m:Nat}{vs:List D}:(!(lookK (keysN m) vs [Ϙ (m:Int)]).isSome)=true:=by
 unfold lookK
 rw [zdq]
 rfl
section
variable {ps:D}{l:List D}{R:List RT}{k:Nat}{K:Nat}{S:Store}{key:Str}
theorem QG (h:Rl l R) (hk:k<=l.length) (hK:9<=K):Is K 40 [er ps l,pl k,.str key] (.lst (if (ra R k).2.2=true/\key ∉ (ra R k).2.1 then [pl (k+1)] else []),.fr) S:=by
 obtain ⟨K,hK',rfl⟩:=up hK
 refine j5 (x0:=.tup _) (x1:=.tup _) ?_
 nofun
 refine wp_lc ?_
 dsimp only [wpI,ye,wpEs,e_var]
 nofun
 refine (zbA h hk hK').go ?_
 unfold ldK lead
 generalize ra R k=r
 obtain ⟨w,st,go⟩:=r
 dsimp only
 nofun
 cases go with
 | false=>
  refine zZ ?_
  nofun
  exact ⟨rfl,rfl⟩
 | true=>
  refine wk_go ?_
  refine yl rfl ?_
  dsimp only [wpF,e_cmp,e_var,inn,nT,Θ,dD,Ρ,bZ]
  nofun
  refine zx (vL key st) ?_
  nofun
  by_cases c:key∈st
  ·rw [if_neg fun z=>z.2 c]
   refine tst_F (by rw [decide_eq_true c];rfl) ?_
   nofun
   refine zZ ?_
   nofun
   exact ⟨rfl,rfl⟩
  ·rw [if_pos ⟨rfl,c⟩]
   refine tst_T (by rw [decide_eq_false c];rfl) ?_
   nofun
   refine zZ ?_
   nofun
   exact ⟨rfl,rfl⟩
theorem X5 (h:Rl l R) (h8:l.length<=8) (hK:10<=K):Is K 39 [er ps l,pl 0,.str key] (wayG key 0 (rr R),.st) S:=by
 obtain ⟨K,hk,rfl⟩:=up hK
 refine Qz (x0:=.tup _) (x1:=.tup _) ?_
 nofun
 refine (ut h h8 (by omega)).go ?_
 nofun
 refine zx zat ?_
 nofun
 refine (kJ (h.pl0 (by omega)) (by omega)).go ?_
 nofun
 refine xF (fun n ρ S'=>S'=S/\∃ x4 x5 x6 x7 x8 ws,ρ=[.sh (er ps l),.sh (pl 0),.sh (.str key),.sh (pl 0),x4,x5,x6,x7,x8]/\(x5=.ow (.lst ws)\/x5=.sh (.lst ws))/\((∃ j,j<=l.length/\l.length < n+j/\x4=.ow (.dT (keysN (j+1)) (Θ (j+1) (.bl true)))/\ws=[.tup ((Η j).map pl++[pl j])]/\wayG key j ((rr R).drop j)=wayG key 0 (rr R))\/(ws=[]/\wayG key 0 (rr R)=.non))) ?_ _ 20 _ _ (by decide) ⟨rfl,_,_,_,_,_,[.tup [pl 0]],rfl,.inl rfl,.inl ⟨0,Ϣ _,by omega,rfl,rfl,rfl⟩⟩
 rintro n ρ S' ⟨rfl,x4,x5,x6,x7,x8,ws,rfl,hx5,hc⟩
 simp only [wpE]
 rcases hc with ⟨j,hj,hn,rfl,rfl,hw⟩ | ⟨rfl,hw⟩
 ·have hra:=ra_at (R:=R) (k:=j) (by rw [<- h.len];exact hj)
  rw [uR hra] at hw
  rcases hx5 with rfl | rfl
  all_goals
   nofun
   refine ⟨n - 1,by omega,?_⟩
   nofun
   refine KJ ?_
   nofun
   refine zx at_m1 ?_
   nofun
   refine (zbe h hj (by omega)).go ?_
   nofun
   refine zx (in_op _ _) ?_
   nofun
   refine yZ (fun c=>?_) (fun c=>?_)
   ·nofun
    refine ⟨?_,rfl⟩
    rw [<- hw]
    generalize ra R j=r at c
    obtain ⟨w,st,go⟩:=r
    show _=(if key∈w then _ else _,_)
    rw [if_pos (of_decide_eq_true c)]
   ·nofun
    refine zx at_m1 ?_
    nofun
    refine (QG h hj hk).go ?_
    have hgo:=(ra_ok h hj).2.2
    generalize ra R j=r at hw c hgo
    obtain ⟨w,st,go⟩:=r
    have c:=of_decide_eq_false c
    have hw:(if key∈w then .tup ((Η j).map pl++[pl j]) else if go=true/\key ∉ st then wayG key (j+1) ((rr R).drop (j+1)) else .non)=wayG key 0 (rr R):=hw
    rw [if_neg c] at hw
    dsimp only
    by_cases g:go=true/\key ∉ st
    ·have hg:=hgo g.1
     rw [if_pos g] at hw ⊢
     nofun
     refine KJ ?_
     nofun
     refine tst_T (zfj (m:=j+1)) ?_
     nofun
     refine zx (qb (j:=j+1) (by simp) (by omega)) ?_
     nofun
     refine uN ?_
     nofun
     refine uN ?_
     nofun
     exact ⟨rfl,_,_,_,_,_,_,rfl,.inr rfl,.inl ⟨j+1,by omega,by omega,by rw [List.replicate_succ' (n:=j+1)],by rw [fu,aH];rfl,hw⟩⟩
    ·rw [if_neg g] at hw ⊢
     nofun
     refine uN ?_
     nofun
     refine uN ?_
     nofun
     exact ⟨rfl,_,_,_,_,_,_,rfl,.inr rfl,.inr ⟨rfl,hw.symm⟩⟩
 ·rcases hx5 with rfl | rfl
  all_goals
   nofun
   rw [hw]
   exact ⟨rfl,rfl⟩
end
theorem qp {ns:List Int}{v:Int}:ns.map D.int++[.int v]=(ns++[v]).map D.int:=by rw [aH];rfl
noncomputable def pk (ns:List Int) (a:Int):D:=.lst [.lst (ns.map D.int),.int a]
theorem int_at {ns:List Int}{i:Int}(h0:0<=i) (h1:i < (ns.length:Int)):∃ x,subD (.lst (ns.map D.int)) (.int i)=some (.int x):=by
 have hl:i.toNat < ns.length:=by omega
 refine ⟨ns[i.toNat],jF h0 ?_⟩
 rw [Δ,θ hl];rfl
theorem zb1 {many:Int}(hm:0 < many) {K:Nat}(hK:1<=K) {ns:List Int}{a:Int}(hn:ns≠[]):callW F wh K 43 [.ref 0,.int many] (fun q S=>∃ x a',q=(.int x,.st)/\0<=x/\x < many/\S=[pk ns a']) [pk ns a]:=by
 obtain ⟨K,hk,rfl⟩:=up hK
 have hl:0 < ns.length:=List.length_pos_iff.mpr hn
 obtain ⟨n,e⟩:∃ n:Int,n=((ns.map D.int).length:Int):=⟨_,rfl⟩
 have hn0:0 < n:=by rw [e,ν];omega
 obtain ⟨x,hx⟩:=int_at (ns:=ns) (i:=a % n) (fL _ (by omega)) (by have:=dU a hn0;rw [ν] at e;omega)
 refine YQ ?_
 unfold pk
 nofun
 rw [<- e]
 refine opv_s (zbt hn0) ?_
 nofun
 refine zx hx ?_
 nofun
 refine opv_s (zbt hm) ?_
 nofun
 exact ⟨_,a+1,rfl,fL _ (by omega),dU _ hm,rfl⟩
theorem zco {lo hi:Int}{d:D}(h:d∈zQ lo hi):∃ j,d=.int j/\lo<=j/\j < hi:=by
 unfold zQ at h
 obtain ⟨k,hk,rfl⟩:=Ϻ.mp h
 have:=ϫ.mp hk
 exact ⟨_,rfl,by lia,by lia⟩
theorem QX (c:Int) {K:Nat}(hK:1<=K) (S:Store):callW F wh K 41 [.int c] (fun q S'=>S'=S/\∃ ns:List Int,ns.length<=60/\q=(.lst (ns.map D.int),.fr)) S:=by
 obtain ⟨K,hk,rfl⟩:=up hK
 refine j7 ?_
 nofun
 refine yZ (fun h=>?_) (fun h=>?_)
 ·nofun
  refine wp_walk (fun l ρ S'=>S'=S/\∃ (ns:List Int) (left:Int) (x3:Slot),ρ=[.sh (.int c),.ow (.lst (ns.map D.int)),.sh (.int left),x3,.no]/\ns.length+l.length<=60) ?_ ?_ _ _ _ ⟨rfl,[],_,.no,rfl,by decide⟩
  ·rintro d l ρ S' ⟨rfl,ns,left,x3,rfl,hl⟩
   have hl':ns.length+(l.length+1)<=60:=hl
   nofun
   refine yZ (fun h1=>?_) (fun h1=>?_)
   ·nofun
    exact ⟨rfl,_,_,_,by rw [qp],by simp;omega⟩
   ·nofun
    exact ⟨rfl,ns,left,_,rfl,by omega⟩
  ·rintro ρ S' ⟨rfl,ns,left,x3,rfl,hl⟩
   have hl:ns.length<=60:=by simpa using hl
   nofun
   exact ⟨rfl,ns,hl,rfl⟩
 ·nofun
  refine wp_walk (fun l ρ S'=>S'=S/\∃ (ns:List Int) (x2 x3 x4:Slot),ρ=[.sh (.int c),.ow (.lst (ns.map D.int)),x2,x3,x4]/\ns.length+l.length<=9/\∀ d∈l,∃ j,d=.int j/\0<=j/\j < 9) ?_ ?_ _ _ _ ⟨rfl,[],_,.no,.no,rfl,by decide,fun d hd=>zco hd⟩
  ·rintro d l ρ S' ⟨rfl,ns,x2,x3,x4,rfl,hl,hd⟩
   have hl':ns.length+(l.length+1)<=9:=hl
   obtain ⟨j,rfl,j0,j1⟩:=hd d (υ ..)
   nofun
   exact ⟨rfl,_,_,_,_,by rw [qp],by simp;omega,fun d hx=>hd d (ι _ hx)⟩
  ·rintro ρ S' ⟨rfl,ns,x2,x3,x4,rfl,hl,_⟩
   have hl:ns.length<=9:=by simpa using hl
   nofun
   exact ⟨rfl,ns,by omega,rfl⟩
theorem zcP (cs:List Int) (hc:cs.length<=63) {K:Nat}(hK:2<=K) (S:Store):callW F wh K 42 [.scr cs,.int 90] (fun q S'=>S'=S/\∃ ns,ns≠[]/\q=(pk ns 0,.fr)) S:=by
 obtain ⟨K,hk,rfl⟩:=up hK
 refine YS ?_
 nofun
 obtain ⟨zs,ez,hz⟩:=zdE cs none (some 63)
 rw [ez]
 refine wp_walk (fun l ρ S'=>S'=S/\∃ (ns:List Int) (x3:Slot) (ys:List Int),l=ys.map D.int/\ρ=[.sh (.scr cs),.sh (.int 90),.ow (.lst (ns.map D.int)),x3,.no,.no]/\ns.length+60*ys.length<=3780) ?_ ?_ _ _ _ ⟨rfl,[],.no,zs,rfl,rfl,by simp;omega⟩
 ·rintro d l ρ S' ⟨rfl,ns,x2,ys,el,rfl,hl⟩
  cases ys with
  | nil=>cases el
  | cons j ys=>
   cases el
   have hl':ns.length+60*(ys.length+1)<=3780:=hl
   nofun
   refine wp_mono (QX j (K:=K) (by omega) _) ?_
   rintro _ _ ⟨rfl,ms,hm,rfl⟩
   refine opv_f (yr (a:=ns.map D.int) (b:=ms.map D.int) (by rw [ν,ν];omega)) ?_
   nofun
   exact ⟨rfl,ns++ms,_,ys,rfl,by rw [<- aH],by simp;omega⟩
 ·rintro ρ S' ⟨rfl,ns,x2,ys,el,rfl,hl⟩
  nofun
  refine opv_s (d:=.int ns.sum) (by show ((intsD (ns.map D.int)).map _).map _=_;rw [Z5];rfl) ?_
  nofun
  obtain ⟨n,e⟩:∃ n:Int,n=((ns.map D.int).length:Int):=⟨_,rfl⟩
  rw [<- e]
  rw [ν] at e
  obtain ⟨h,eh⟩:∃ h:Int,h=if 90 - n > 0 then 90 - n else 0:=⟨_,rfl⟩
  have hh:0<=h/\h<=90/\90<=n+h:=by split at eh <;> omega
  rw [<- eh]
  refine tst_T (by rw [fits_of (by omega),decide_eq_true (by omega)];rfl) ?_
  refine wp_walk (fun l ρ S''=>S''=S'/\∃ (ms:List Int) (m:Int) (x3 x5:Slot),ρ=[.sh (.scr cs),.sh (.int 90),.ow (.lst (ms.map D.int)),x3,.sh (.int m),x5]/\0<=m/\m < 2147483629/\90<=ms.length+l.length/\ms.length+l.length<=4000) ?_ ?_ _ _ _ ⟨rfl,ns,_,_,.no,rfl,fL _ (by decide),dU _ (by decide),by rw [zQ,ν,ϱ];omega,by rw [zQ,ν,ϱ];omega⟩
  ·rintro d l ρ S'' ⟨rfl,ms,m,x3,x5,rfl,m0,m1,h1,h2⟩
   have h1:90<=ms.length+(l.length+1):=h1
   have h2:ms.length+(l.length+1)<=4000:=h2
   nofun
   refine opv_s (JX (Wh m0 (by omega))) ?_
   nofun
   exact ⟨rfl,_,_,_,_,by rw [qp],fL _ (by decide),dU _ (by decide),by simp;omega,by simp;omega⟩
  ·rintro ρ S'' ⟨rfl,ms,m,x3,x5,rfl,m0,m1,h1,h2⟩
   have h1:90<=ms.length:=h1
   nofun
   exact ⟨rfl,ms,by intro z;subst z;exact absurd h1 (by decide),rfl⟩
def Dr (ns:List Int) (P:D->Prop) (q:Vl) (S:Store):Prop:=∃ d a,q=(d,.st)/\P d/\S=[pk ns a]
abbrev Gen (ns:List Int) (K f:Nat) (ds:List D) (P:D->Prop):Prop:=∀ a,callW F wh K f ds (Dr ns P) [pk ns a]
theorem Gen.go {ns:List Int}{K f:Nat}{ds:List D}{P:D->Prop}{V:Po}{a:Int}(h:Gen ns K f ds P) (q:∀ d a,P d->V (d,.st) [pk ns a]):callW F wh K f ds V [pk ns a]:=wp_mono (h a) (by rintro _ _ ⟨d,a,rfl,h,rfl⟩;exact q d a h)
def Bw (m:Int) (d:D):Prop:=∃ x:Int,d=.int x/\0<=x/\x < m
section
variable {ns:List Int}{K:Nat}(hn:ns≠[])
include hn
theorem zz {m:Int}(hm:0 < m) (hK:1<=K):Gen ns K 43 [.ref 0,.int m] (Bw m):=fun a=>wp_mono (zb1 hm hK hn) (by rintro _ _ ⟨x,a,rfl,h0,h1,rfl⟩;exact ⟨_,a,rfl,⟨x,rfl,h0,h1⟩,rfl⟩)
end
structure NmOk (nm:List Str):Prop where
 ne:0 < nm.length
 few:nm.length<=4
 sub:∀ s∈nm,s∈nmL
theorem sg_at {v:Int}(h0:0<=v) (h:v < 5):∃ s,subD (.str "+-*<=") (.int v)=some (.str s):=by
 have hc:v=0\/v=1\/v=2\/v=3\/v=4:=by omega
 rcases hc with rfl | rfl | rfl | rfl | rfl <;> exact ⟨_,rfl⟩
theorem nm_at {nm:List Str}{v:Int}(h0:0<=v) (h:v < (nm.length:Int)):∃ s,s∈nm/\subD (LS nm) (.int v)=some (.str s):=by
 have hl:v.toNat < nm.length:=by omega
 refine ⟨nm[v.toNat],bj hl,jF h0 ?_⟩
 rw [Δ,θ hl];rfl
section
variable {ns:List Int}{nm:List Str}(hn:ns≠[]) (hm:NmOk nm)
include hn hm
theorem Ze {k K:Nat}{x a:Int}{x4 x5:Slot}{Kk:Ko}(hK:1<=K) (hk:∀ d a,(∃ w,Fm k w d)->Kk (.ret d false) [pk ns a]) {dp:D}:
  wpCs (callW F wh K) wh [.ite (.cmp .Eq (.bin .Mod (.var 3) (.con (.int 2))) (.con (.int 0))) [.ret (.sub (.var 1) (.call 43 [(.var 0),(.bi .len [(.var 1)])]))] [],.ret (.sub (.lst [(.call 43 [(.var 0),(.con (.int 4))]),(.bin .Sub (.con (.int 1000000006)) (.call 43 [(.var 0),(.con (.int 3))])),(.call 43 [(.var 0),(.con (.int 2))])]) (.bin .Mod (.bin .FloorDiv (.var 3) (.con (.int 2))) (.con (.int 3))))] [.sh (.ref 0),.sh (LS nm),.sh dp,.sh (.int x),x4,x5] Kk [pk ns a]:=by
 nofun
 refine yZ (fun c=>?_) (fun c=>?_)
 ·nofun
  have:=hm.ne
  obtain ⟨m,e⟩:∃ m:Int,m=((nm.map D.str).length:Int):=⟨_,rfl⟩
  rw [<- e]
  rw [ν] at e
  refine (zz hn (m:=m) (by omega) hK).go ?_
  rintro _ a ⟨v,rfl,v0,v1⟩
  obtain ⟨s,hs,es⟩:=nm_at v0 (show v < (nm.length:Int) by omega)
  nofun
  refine zx es ?_
  nofun
  exact hk _ _ ⟨_,.nm (hm.sub s hs)⟩
 ·nofun
  refine (zz hn (m:=4) (by omega) hK).go ?_
  rintro _ a ⟨v,rfl,v0,v1⟩
  nofun
  refine (zz hn (m:=3) (by omega) hK).go ?_
  rintro _ a ⟨u,rfl,u0,u1⟩
  nofun
  refine (zz hn (m:=2) (by omega) hK).go ?_
  rintro _ a ⟨t,rfl,t0,t1⟩
  nofun
  obtain ⟨y,e⟩:∃ y:Int,y=x / 2 % 3:=⟨_,rfl⟩
  have hc:y=0\/y=1\/y=2:=by omega
  show opt (subD (.lst [.int v,.int (1000000006 - u),.int t]) (.int (x / 2 % 3))) _
  rw [<- e]
  rcases hc with rfl | rfl | rfl
  all_goals
   refine zx (jF (by decide) rfl) ?_
   nofun
   exact hk _ _ ⟨_,.num⟩
theorem YT:∀ (k K:Nat),k<=2->k+2<=K->Gen ns K 44 [.ref 0,LS nm,.int (k:Int)] (fun d=>∃ w,Fm k w d):=by
 intro k
 induction k with
 | zero=>
  intro K _ hK a
  obtain ⟨K,hk,rfl⟩:=up hK
  refine v5 ?_
  nofun
  refine (zz hn (m:=9) (by omega) (by omega)).go ?_
  rintro _ a ⟨x,rfl,x0,x1⟩
  nofun
  refine Ze (k:=0) hn hm (by omega) fun d a h=>?_
  nofun
  exact ⟨d,a,rfl,h,rfl⟩
 | succ k ih=>
  intro K hk hK a
  obtain ⟨K,hK',rfl⟩:=up hK
  refine v5 ?_
  nofun
  refine (zz hn (m:=9) (by omega) (by omega)).go ?_
  rintro _ a ⟨x,rfl,x0,x1⟩
  have hd:((k+1:Nat):Int) - 1=(k:Int):=by omega
  nofun
  refine tst_F (show eqP (.int ((k+1:Nat):Int)) (.int 0)=false from beq_false_of_ne (by omega)) ?_
  nofun
  refine yZ (fun c=>?_) (fun c=>?_)
  ·nofun
   refine Ze (k:=k+1) hn hm (by omega) fun d a h=>?_
   nofun
   exact ⟨d,a,rfl,h,rfl⟩
  ·nofun
   refine (zz hn (m:=5) (by omega) (by omega)).go ?_
   rintro _ a ⟨v,rfl,v0,v1⟩
   obtain ⟨s,hs⟩:=sg_at v0 v1
   nofun
   refine zx hs ?_
   nofun
   rw [hd]
   refine (ih K (by omega) (by omega)).go ?_
   rintro d1 a ⟨w1,h1⟩
   nofun
   rw [hd]
   refine (ih K (by omega) (by omega)).go ?_
   rintro d2 a ⟨w2,h2⟩
   nofun
   exact ⟨_,a,rfl,⟨_,.op h1 h2⟩,rfl⟩
end
theorem Brs.snoc {n:Option Str}{who:Str}{w:List Str}{e:D}(hn:∀ s∈oL n,s∈nmL) (he:Fm 1 w e):∀ {bs:List D}{ws:List Str}{ns:List (Option Str)},Brs bs ws ns->Brs (bs++[.tup [oN n,.str "ask",.str who,e]]) (ws++w) (ns++[n])
 | _,_,_,.nil=>by
  have:=Brs.cons (who:=who) hn he .nil
  rw [Ρ] at this
  exact this
 | _,_,_,.cons h1 h2 t=>by
  rw [aA]
  exact .cons h1 h2 (t.snoc hn he)
section
variable {ns:List Int}{nm:List Str}(hn:ns≠[]) (hm:NmOk nm)
include hn hm
theorem Qj {K:Nat}(hK:4<=K):Gen ns K 45 [.ref 0,LS nm,.lst []] (fun d=>∃ (n:Option Str) (who:Str) (w:List Str) (e:D),d=.tup [oN n,.str "ask",.str who,e]/\(∀ s∈oL n,s∈nmL)/\Fm 1 w e):=by
 intro a
 obtain ⟨K,hk,rfl⟩:=up hK
 have hne:=hm.ne
 have hfew:=hm.few
 obtain ⟨m,e⟩:∃ m:Int,m=((nm.map D.str).length:Int):=⟨_,rfl⟩
 have e':m=(nm.length:Int):=by rw [e,ν]
 refine j8 ?_
 nofun
 refine opv_f (yr (a:=nm.map D.str) (b:=[.non]) (by rw [ν];simp;omega)) ?_
 nofun
 rw [<- e]
 refine (zz hn (m:=m+1) (by omega) (by omega)).go ?_
 rintro _ a ⟨v,rfl,v0,v1⟩
 obtain ⟨n,hnn,es⟩:∃ n:Option Str,(∀ s∈oL n,s∈nmL)/\subD (.lst (nm.map D.str++[.non])) (.int v)=some (oN n):=by
  by_cases c:v < m
  ·have hl:v.toNat < nm.length:=by omega
   refine ⟨some nm[v.toNat],fun s hs=>by rw [Υ.mp hs];exact hm.sub _ (bj hl),jF v0 ?_⟩
   rw [ώ (by rw [ν];exact hl),Δ,θ hl];rfl
  ·refine ⟨none,(fun s hs=>(nomatch hs)),jF v0 ?_⟩
   rw [ϑ (by rw [ν];omega),ν,show v.toNat - nm.length=0 by omega];rfl
 nofun
 refine zx es ?_
 generalize hon:oN n=on
 nofun
 refine (zz hn (m:=2) (by omega) (by omega)).go ?_
 rintro _ a ⟨u,rfl,u0,u1⟩
 nofun
 refine tst_T (decide_eq_true u0) ?_
 nofun
 refine (zz hn (m:=4) (by omega) (by omega)).go ?_
 rintro _ a ⟨y,rfl,y0,y1⟩
 obtain ⟨who,hw⟩:∃ who:Str,subD (.lst [.str "bank",.str "sky",.str "a",.str "clerk"]) (.int y)=some (.str who):=by
  have hc:y=0\/y=1\/y=2\/y=3:=by omega
  rcases hc with rfl | rfl | rfl | rfl <;> exact ⟨_,rfl⟩
 nofun
 refine zx hw ?_
 nofun
 refine (YT hn hm 1 K (by omega) (by omega)).go ?_
 rintro d a ⟨w,h1⟩
 nofun
 exact ⟨_,a,rfl,⟨n,who,w,d,by rw [hon],hnn,h1⟩,rfl⟩
abbrev Rw (d:D):Prop:=∃ w st go,Row d w st go
theorem za7 {K:Nat}{y:Int}(hy:y=4\/y=5) (hK:5<=K):Gen ns K 46 [.ref 0,LS nm,.lst [],.int y] Rw:=by
 intro a
 obtain ⟨K,hk,rfl⟩:=up hK
 have hne:=hm.ne
 obtain ⟨m,e⟩:∃ m:Int,m=((nm.map D.str).length:Int):=⟨_,rfl⟩
 have e':m=(nm.length:Int):=by rw [e,ν]
 refine yz ?_
 rcases hy with rfl | rfl
 all_goals
  nofun
  rw [<- e]
  refine (zz hn (m:=m) (by omega) (by omega)).go ?_
  rintro _ a ⟨v,rfl,v0,v1⟩
  obtain ⟨s,hs,es⟩:=nm_at v0 (show v < (nm.length:Int) by omega)
  nofun
  refine zx es ?_
  nofun
  refine (YT hn hm 2 K (by omega) (by omega)).go ?_
  rintro d a ⟨w,h1⟩
  nofun
  exact ⟨_,a,rfl,⟨_,_,_,.set (hm.sub s hs) h1⟩,rfl⟩
theorem Jg {K:Nat}{y:Int}(hy:y=6\/y=7\/y=8) (hK:5<=K):Gen ns K 46 [.ref 0,LS nm,.lst [],.int y] Rw:=by
 intro a
 obtain ⟨K,hk,rfl⟩:=up hK
 refine yz ?_
 rcases hy with rfl | rfl | rfl
 all_goals
  nofun
  refine (YT hn hm 2 K (by omega) (by omega)).go ?_
  rintro d a ⟨w,h1⟩
  nofun
 ·exact ⟨_,a,rfl,⟨_,_,_,.tell h1⟩,rfl⟩
 ·exact ⟨_,a,rfl,⟨_,_,_,.fail h1⟩,rfl⟩
 ·exact ⟨_,a,rfl,⟨_,_,_,.give h1⟩,rfl⟩
theorem zbT {K:Nat}(hK:5<=K):Gen ns K 46 [.ref 0,LS nm,.lst [],.int 0] Rw:=by
 intro a
 obtain ⟨K,hk,rfl⟩:=up hK
 refine yz ?_
 nofun
 refine wp_lc ?_
 dsimp only [wpI,e_sub,e_lst,ye,wpEs,e_var,e_con]
 nofun
 refine (zz hn (m:=6) (by omega) (by omega)).go ?_
 rintro _ a ⟨v,rfl,v0,v1⟩
 obtain ⟨j,j1,j4,hj⟩:∃ j:Nat,1<=j/\j<=4/\subD (.lst [.int 1,.int 1,.int 2,.int 2,.int 3,.int 4]) (.int v)=some (.int (j:Int)):=by
  have hc:v=0\/v=1\/v=2\/v=3\/v=4\/v=5:=by omega
  rcases hc with rfl | rfl | rfl | rfl | rfl | rfl
  ·exact ⟨1,by decide,by decide,rfl⟩
  ·exact ⟨1,by decide,by decide,rfl⟩
  ·exact ⟨2,by decide,by decide,rfl⟩
  ·exact ⟨2,by decide,by decide,rfl⟩
  ·exact ⟨3,by decide,by decide,rfl⟩
  ·exact ⟨4,by decide,by decide,rfl⟩
 nofun
 refine zx hj ?_
 nofun
 refine tst_T (by rw [fits_of (by omega),decide_eq_true (by omega)];rfl) ?_
 refine jZ (zbN (zX K)) (fun l acc S'=>∃ a ws os,S'=[pk ns a]/\Brs acc ws os/\acc.length+l.length=j) ?_ ?_ _ _ _ ⟨a,[],[],rfl,.nil,by show 0+(zQ 0 (j:Int)).length=j;rw [zQ,ν,ϱ];omega⟩
 ·rintro d l acc S' ⟨a,ws,os,rfl,hb,hl⟩
  have hl:acc.length+(l.length+1)=j:=hl
  refine yl rfl ?_
  dsimp only [wpF,ye,wpEs,e_var,inn,nT,Θ,dD,Ρ,bZ]
  nofun
  refine (Qj hn hm (by omega)).go ?_
  rintro _ a ⟨n,who,w,e,rfl,h1,h2⟩
  nofun
  exact ⟨a,_,_,rfl,hb.snoc h1 h2,by rw [Ο];show acc.length+1+l.length=j;omega⟩
 ·rintro acc S' ⟨a,ws,os,rfl,hb,hl⟩
  have hl:acc.length=j:=hl
  obtain ⟨m,e⟩:∃ m:Int,m=(acc.length:Int):=⟨_,rfl⟩
  nofun
  rw [<- e]
  refine (zz hn (m:=m) (by omega) (by omega)).go ?_
  rintro _ a ⟨v,rfl,v0,v1⟩
  nofun
  refine ⟨_,a,rfl,?_,rfl⟩
  by_cases c:1+v=m
  ·rw [c,e]
   exact ⟨_,_,_,.all (by omega) (by omega) hb⟩
  ·exact ⟨_,_,_,.some (by omega) (by omega) (by omega) hb⟩
theorem YW {K:Nat}(hK:6<=K):Gen ns K 47 [.ref 0,LS nm] Rw:=by
 intro a
 obtain ⟨K,hk,rfl⟩:=up hK
 refine v6 ?_
 nofun
 refine (zz hn (m:=8) (by omega) (by omega)).go ?_
 rintro _ a ⟨v,rfl,v0,v1⟩
 nofun
 refine yZ (fun c=>?_) (fun c=>?_)
 ·nofun
  refine (zbT hn hm hk).go ?_
  intro d a h
  nofun
  exact ⟨d,a,rfl,h,rfl⟩
 ·have c:=of_decide_eq_false c
  nofun
  refine (zz hn (m:=8) (by omega) (by omega)).go ?_
  rintro _ a ⟨u,rfl,u0,u1⟩
  nofun
  obtain ⟨y,hy,ey⟩:∃ y:Int,(y=4\/y=5\/y=6\/y=7\/y=8)/\subD (.lst [.int 4,.int 5,.int 6,.int 6,.int (7+u / 4)]) (.int (v - 3))=some (.int y):=by
   have hc:v=3\/v=4\/v=5\/v=6\/v=7:=by omega
   rcases hc with rfl | rfl | rfl | rfl | rfl
   ·exact ⟨4,by omega,rfl⟩
   ·exact ⟨5,by omega,rfl⟩
   ·exact ⟨6,by omega,rfl⟩
   ·exact ⟨6,by omega,rfl⟩
   ·exact ⟨7+u / 4,by omega,rfl⟩
  refine zx ey ?_
  nofun
  have hg:Gen ns K 46 [.ref 0,LS nm,.lst [],.int y] Rw:=by
   rcases hy with h | h | h | h | h
   ·exact za7 hn hm (.inl h) hk
   ·exact za7 hn hm (.inr h) hk
   ·exact Jg hn hm (.inl h) hk
   ·exact Jg hn hm (.inr (.inl h)) hk
   ·exact Jg hn hm (.inr (.inr h)) hk
  refine hg.go ?_
  intro d a h
  nofun
  exact ⟨d,a,rfl,h,rfl⟩
end
theorem V0 (s:Str) (os:List (Option Str)):cmpD .NotIn (.str s) (.lst (os.map oN))=some (!decide (s∈os.flatMap oL)):=by
 have h1:(os.map oN).all isSc=true:=by
  rw [gW]
  exact aO.mpr fun o _=>by cases o <;> rfl
 have h2:((os.map oN).any fun y=>eqP y (.str s))=decide (s∈os.flatMap oL):=by
  clear h1
  rw [List.any_map]
  induction os with
  | nil=>rfl
  | cons o os ih=>
   rw [eX,ih,pN]
   cases o with
   | none=>exact lA _
   | some a=>
    show ((a==s)||decide (s∈os.flatMap oL))=decide (s∈a::os.flatMap oL)
    by_cases e:a=s
    ·subst e;simp
    ·rw [beq_false_of_ne e,lA]
     exact decide_eq_decide.mpr ⟨ι _,fun h=>(Κ.mp h).elim (fun z=>absurd z.symm e) id⟩
 show (memD (os.map oN) (.str s)).map (!·)=_
 unfold memD
 rw [h1,if_pos (show (isSc (D.str s)&&true)=true from rfl),h2]
 rfl
theorem ne_op (x s:Str):(!(x==s))=!decide (x∈[s]):=by
 congr 1
 by_cases e:x=s
 ·subst e;simp
 ·rw [beq_false_of_ne e];simp [e]
section
variable {d:D}{w st nd:List Str}{go:Bool}{K:Nat}{S:Store}
theorem Qu {s:Str}{w:List Str}{e:D}(he:Fm 2 w e) (hl:nd.length<=900) (hK:4<=K):Is K 49 [.tup [.str "set",.str s,e],LS nd] (LS ((nd.filter fun x=>!decide (x∈[s]))++w),.fr) S:=by
 obtain ⟨K,hk,rfl⟩:=up hK
 have lw:=he.len
 have lf:=d9 (fun x=>!decide (x∈[s])) nd
 refine zV (x0:=.tup _) (x1:=.lst _) ?_
 nofun
 refine wp_lc ?_
 dsimp only [wpI,e_var]
 nofun
 refine wB (fun x=>!decide (x∈[s])) nd [] (by simp;omega) (fun x hx Q h1 h2=>?_) ?_
 ·refine yl rfl ?_
  dsimp only [wpF,e_cmp,e_sub,e_con,e_var,inn,nT,Θ,dD,Ρ,bZ]
  nofun
  refine yZ (fun c=>?_) (fun c=>?_)
  ·nofun
   exact h1 ((ne_op x s).symm.trans c)
  ·nofun
   exact h2 ((ne_op x s).symm.trans c)
 ·rw [bR]
  nofun
  refine (xZ 2 w e (by omega) he K S (by omega)).go ?_
  refine opv_f (yr (a:=(nd.filter fun x=>!decide (x∈[s])).map D.str) (b:=w.map D.str) (by rw [ν,ν];omega)) ?_
  nofun
  exact ⟨by rw [LS,aH],rfl⟩
theorem jX {i:Int}{bs:List D}{ws:List Str}{os:List (Option Str)}{b:Bool}(h4:bs.length<=4) (hb:Brs bs ws os) (e:(i==(bs.length:Int))=b) (hl:nd.length<=900) (hK:4<=K):
  Is K 49 [.tup [.str "want",.int i,.tup bs],LS nd] (LS ((nd.filter fun x=>!decide (x∈(if b=true then os else []).flatMap oL))++ws),.fr) S:=by
 obtain ⟨K,hk,rfl⟩:=up hK
 obtain ⟨lw,lo⟩:=hb.len
 refine zV (x0:=.tup _) (x1:=.lst _) ?_
 nofun
 refine wp_walk (fun l ρ S'=>S'=S/\∃ (u v:List Str) (o p:List (Option Str)) (x4 x5 x6 x7:Slot),Brs l v p/\u++v=ws/\o++p=os/\ρ=[.sh (.tup [.str "want",.int i,.tup bs]),.sh (LS nd),.ow (LS u),.ow (.lst ((if b=true then o else []).map oN)),x4,x5,x6,x7]) ?_ ?_ _ _ _ ⟨rfl,[],ws,[],os,.no,.no,.no,.no,hb,rfl,rfl,by cases b <;> rfl⟩
 ·rintro x l ρ S' ⟨rfl,u,v,o,p,x4,x5,x6,x7,h1,h2,h3,rfl⟩
  cases h1 with
  | @cons n who w1 v p e1 l hn he t=>
   have l1:=he.len
   have l2:u.length+(w1.length+v.length)=ws.length:=by rw [<- h2];simp
   have l3:o.length+(p.length+1)=os.length:=by rw [<- h3];simp
   generalize hon:oN n=on
   nofun
   refine (xZ 1 w1 e1 (by omega) he K S' (by omega)).go ?_
   refine opv_f (yr (a:=u.map D.str) (b:=w1.map D.str) (by rw [ν,ν];omega)) ?_
   nofun
   cases b with
   | true=>
    refine tst_T e ?_
    nofun
    exact ⟨rfl,u++w1,v,o++[n],p,.sh (oN n),.sh (.str "ask"),.sh (.str who),.sh e1,t,by rw [aA];exact h2,by rw [aA];exact h3,by rw [<- hon];simp [LS]⟩
   | false=>
    refine tst_F e ?_
    nofun
    exact ⟨rfl,u++w1,v,o++[n],p,.sh (oN n),.sh (.str "ask"),.sh (.str who),.sh e1,t,by rw [aA];exact h2,by rw [aA];exact h3,by rw [<- hon];simp [LS]⟩
 ·rintro ρ S' ⟨rfl,u,v,o,p,x4,x5,x6,x7,h1,h2,h3,rfl⟩
  cases h1
  rw [Ρ] at h2 h3
  subst h2 h3
  generalize (if b=true then o else [])=os
  have lf:=d9 (fun x=>!decide (x∈os.flatMap oL)) nd
  nofun
  refine wp_lc ?_
  dsimp only [wpI,e_var]
  nofun
  refine wB (fun x=>!decide (x∈os.flatMap oL)) nd [] (by simp;omega) (fun x hx Q h1 h2=>?_) ?_
  ·refine yl rfl ?_
   dsimp only [wpF,e_cmp,e_var,inn,nT,Θ,dD,Ρ,bZ]
   nofun
   refine zx (V0 x os) ?_
   nofun
   refine yZ (fun c=>?_) (fun c=>?_)
   ·nofun
    exact h1 c
   ·nofun
    exact h2 c
  ·rw [bR]
   nofun
   refine opv_f (yr (a:=(nd.filter fun x=>!decide (x∈os.flatMap oL)).map D.str) (b:=u.map D.str) (by rw [ν,ν];omega)) ?_
   nofun
   exact ⟨by rw [LS,aH],rfl⟩
theorem zdt (nd:List Str):(nd.filter fun x=>!decide (x∈([]:List Str)))=nd:=by simp
theorem za4 (h:Row d w st go) (hl:nd.length<=900) (hK:4<=K):Is K 49 [d,LS nd] (LS (if go=true then (nd.filter fun s=>!decide (s∈st))++w else w),.fr) S:=by
 cases h with
 | set hs he=>exact Qu he hl hK
 | tell he=>
  have lw:=he.len
  obtain ⟨K,hk,rfl⟩:=up hK
  rw [zdt]
  refine zV (x0:=.tup _) (x1:=.lst _) ?_
  nofun
  refine (xZ 2 w _ (by omega) he K S (by omega)).go ?_
  refine opv_f (yr (a:=nd.map D.str) (b:=w.map D.str) (by rw [ν,ν];omega)) ?_
  nofun
  exact ⟨by rw [if_pos rfl,LS,aH],rfl⟩
 | give he=>
  obtain ⟨K,hk,rfl⟩:=up hK
  refine zV (x0:=.tup _) (x1:=.lst _) ?_
  nofun
  refine (xZ 2 w _ (by omega) he K S (by omega)).go ?_
  nofun
  exact ⟨rfl,rfl⟩
 | fail he=>
  obtain ⟨K,hk,rfl⟩:=up hK
  refine zV (x0:=.tup _) (x1:=.lst _) ?_
  nofun
  refine (xZ 2 w _ (by omega) he K S (by omega)).go ?_
  nofun
  exact ⟨rfl,rfl⟩
 | all h1 h4 hb=>exact jX (b:=true) h4 hb (beq_self_eq_true _) hl hK
 | some h1 h2 h4 hb=>exact jX (b:=false) h4 hb (beq_false_of_ne (by omega)) hl hK
end
theorem Rl.snoc {d:D}{w st:List Str}{go:Bool}(hr:Row d w st go):∀ {l:List D}{R:List RT},Rl l R->Rl (l++[d]) (R++[(w,st,go)])
 | _,_,.nil=>.cons hr .nil
 | _,_,.cons h t=>.cons h (t.snoc hr)
theorem WT:∀ {R:List RT},(∀ r∈R,r.1.length<=8)->(needL R).length<=8*R.length
 | [],_=>Ϣ _
 | (w,st,go)::R,h=>by
  have h1:=WT fun r hr=>h r (ι _ hr)
  have h2:w.length<=8:=h _ υ
  have h3:=d9 (fun s=>!decide (s∈st)) (needL R)
  show (if go=true then ((needL R).filter fun s=>!decide (s∈st))++w else w).length<=8*(R.length+1)
  split
  ·rw [Ο];omega
  ·omega
theorem JV {l:List D}{R:List RT}(h:Rl l R) (h8:l.length<=8) (k:Nat):(needL ((rr R).drop k)).length<=72:=by
 have hl:=h.len
 have h1:∀ r∈rr R,r.1.length<=8:=by
  intro r hr
  obtain ⟨i,hi,e⟩:=iI.mp hr
  rw [yE] at hi
  have q:=ra_at (R:=R) (k:=i) (by omega)
  rw [θ (by rw [yE];exact hi),e] at q
  cases q
  exact (ra_ok h (by omega)).1
 have h2:=WT (R:=(rr R).drop k) fun r hr=>h1 r (oX hr)
 rw [dq,yE] at h2
 omega
theorem zc6 {l:List D}{R:List RT}(h:Rl l R) (k:Nat):∀ s∈needL ((rr R).drop k),s∈nmL:=by
 have h1:∀ r∈rr R,∀ s∈r.1,s∈nmL:=by
  intro r hr
  have hl:=h.len
  obtain ⟨i,hi,e⟩:=iI.mp hr
  rw [yE] at hi
  have q:=ra_at (R:=R) (k:=i) (by omega)
  rw [θ (by rw [yE];exact hi),e] at q
  cases q
  exact (ra_ok h (by omega)).2.1
 have go:∀ R':List RT,(∀ r∈R',∀ s∈r.1,s∈nmL)->∀ s∈needL R',s∈nmL:=by
  intro R'
  induction R' with
  | nil=>intro _ s hs;cases hs
  | cons r R' ih=>
   obtain ⟨w,st,go⟩:=r
   intro h s hs
   have hs:s∈(if go=true then ((needL R').filter fun s=>!decide (s∈st))++w else w):=hs
   split at hs
   ·exact (Ϭ.mp hs).elim (fun z=>ih (fun r hr=>h r (ι _ hr)) s (dI.mp z).1) (h _ υ s)
   ·exact h _ υ s hs
 exact go _ fun r hr=>h1 r (oX hr)
theorem yS {n:Nat}:∀ {l:List D},(∀ d∈l,okP n d=true)->okPs n l=true
 | [],_=>rfl
 | d::l,h=>by
  show (okP n d&&okPs n l)=true
  rw [h d υ,yS fun e he=>h e (ι _ he)]
  rfl
theorem ok_nd (R:List RT) (l:List Nat):okP 60 (.tup (l.map (ndT R)))=true:=by
 refine yS fun d hd=>?_
 obtain ⟨k,_,rfl⟩:=Ϻ.mp hd
 show (okP 58 (pl k)&&(okPs 57 ((ndK R k).map D.str)&&true))=true
 rw [yS fun d hd=>by obtain ⟨s,_,rfl⟩:=Ϻ.mp hd;rfl]
 rfl
theorem zbq (key:Str):∀ (R:List RT) (j:Nat),okP 60 (wayG key j R)=true
 | [],_=>rfl
 | (w,st,go)::R,j=>by
  show okP 60 (if key∈w then .tup ((Η j).map pl++[pl j]) else if go=true/\key ∉ st then wayG key (j+1) R else .non)=true
  split
  ·refine yS fun d hd=>?_
   rcases Ϭ.mp hd with q | q
   ·obtain ⟨k,_,rfl⟩:=Ϻ.mp q;rfl
   ·rw [Υ.mp q];rfl
  ·split
   ·exact zbq key R (j+1)
   ·rfl
theorem eq_self {d:D}(h:okP 60 d=true):cmpD .Eq d d=some true:=by
 show (if (okP 60 d&&okP 60 d)=true then some (eqP d d) else none)=_
 rw [h,Vb 60 d h]
 rfl
theorem JW {l:List D}(h:okP 60 (.tup l)=true):cmpD .NotEq (.tup l) (.tup l)=some false:=by
 show (eqD (.tup l) (.tup l)).map (!·)=_
 rw [show eqD (.tup l) (.tup l)=some true from eq_self h]
 rfl
theorem zao {d:D}(h:okP 60 d=true) (S:Store):deref S d=d:=by
 cases d with
 | ref _=>cases (show false=true from h)
 | _=>rfl
noncomputable def dn:Nat->List D
 | 0=>[]
 | k+1=>.int (k:Int)::dn k
theorem zfc (R:List RT):ndT R R.length=.tup [pl R.length,.tup []]:=by
 unfold ndT ndK rr
 rw [List.drop_left]
 rfl
theorem zc7 {R:List RT}{k:Nat}{r:RT}(h:(rr R)[k]?=some r):needL ((rr R).drop k)=if r.2.2=true then ((needL ((rr R).drop (k+1))).filter fun s=>!decide (s∈r.2.1))++r.1 else r.1:=by
 rw [uR h];rfl
theorem zb2 {R:List RT}{l ps:List D}(h:Rl l R) (h8:l.length<=8) {K:Nat}(hK:11<=K) {S:Store}{ρ0 ρ1 ρ3 x6 x7:Slot}:
  wpCs (callW F wh K) wh (b_law.drop 8) [ρ0,ρ1,.ow (.lst ps),ρ3,.sh (.tup l),.ow (.lst ((Η (l.length+1)).map (ndT R)).reverse),x6,x7,.no,.no] (told fun x _=>x.1=.bl true) S:=by
 dsimp only [List.drop]
 nofun
 refine wp_mono (WR (ps:=.tup ps) h h8 (by omega)) ?_
 rintro _ _ ⟨rfl,c,rfl⟩
 have hok:=ok_nd R (Η (l.length+1))
 generalize hX:(Η (l.length+1)).map (ndT R)=X at hok
 nofun
 rw [List.reverse_reverse]
 refine zx (JW hok) ?_
 nofun
 refine wp_mono (WR (ps:=.tup ps) h h8 (by omega)) ?_
 rintro _ _ ⟨rfl,c,rfl⟩
 rw [hX]
 refine zx (JW hok) ?_
 nofun
 refine (X5 (ps:=.tup ps) h h8 (by omega)).go ?_
 nofun
 refine (X5 (ps:=.tup ps) h h8 (by omega)).go ?_
 have hw:=zbq "p" (rr R) 0
 generalize wayG "p" 0 (rr R)=wy at hw
 dsimp only
 rw [zao hw]
 refine zx (eq_self hw) ?_
 nofun
 rfl
theorem dwn_n {n:Nat}(h:n<=8):dwnD [.int ((n:Int) - 1),.int (-1),.int (-1)]=some (dn n):=by
 have hc:n=0\/n=1\/n=2\/n=3\/n=4\/n=5\/n=6\/n=7\/n=8:=by omega
 rcases hc with rfl | rfl | rfl | rfl | rfl | rfl | rfl | rfl | rfl <;> rfl
theorem law_wp (cs:List Int) (hc:cs.length<=63):callW F wh 60 50 [.scr cs] (fun x _=>x.1=.bl true) []:=by
 refine w_law ?_
 nofun
 refine wp_mono (zcP cs hc (by omega) _) ?_
 rintro _ _ ⟨rfl,ns,hn,rfl⟩
 nofun
 refine (zz hn (m:=4) (by omega) (by omega)).go ?_
 rintro _ a ⟨v,rfl,v0,v1⟩
 nofun
 refine (zz hn (m:=3) (by omega) (by omega)).go ?_
 rintro _ a ⟨u,rfl,u0,u1⟩
 generalize cutD _ none (some v)=ps
 obtain ⟨nm,hm,em⟩:∃ nm,NmOk nm/\cutD [.str "p",.str "x",.str "yy",.str "pq"] (some u) none=nm.map D.str:=by
  have hu:u=0\/u=1\/u=2:=by omega
  rcases hu with rfl | rfl | rfl
  ·exact ⟨["p","x","yy","pq"],⟨by decide,by decide,by decide⟩,rfl⟩
  ·exact ⟨["x","yy","pq"],⟨by decide,by decide,by decide⟩,rfl⟩
  ·exact ⟨["yy","pq"],⟨by decide,by decide,by decide⟩,rfl⟩
 nofun
 rw [em]
 refine wp_lc ?_
 dsimp only [wpI,ye,wpEs,e_var,e_con]
 nofun
 refine (zz hn (m:=9) (by omega) (by omega)).go ?_
 rintro _ a ⟨y,rfl,y0,y1⟩
 nofun
 refine tst_T (by rw [fits_of (by omega),decide_eq_true (by omega)];rfl) ?_
 refine jZ (zbN (zX _)) (fun l acc S'=>∃ a R,S'=[pk ns a]/\Rl acc R/\acc.length+l.length<=8) ?_ ?_ _ _ _ ⟨a,[],rfl,.nil,by show 0+(zQ 0 y).length<=8;rw [zQ,ν,ϱ];omega⟩
 ·rintro d l acc S' ⟨a,R,rfl,hr,hl⟩
  have hl:acc.length+(l.length+1)<=8:=hl
  refine yl rfl ?_
  dsimp only [wpF,ye,wpEs,e_var,inn,nT,Θ,dD,Ρ,bZ]
  nofun
  refine (YW hn hm (by omega)).go ?_
  rintro d a ⟨w,st,go,h1⟩
  nofun
  exact ⟨a,_,rfl,hr.snoc h1,by rw [Ο];show acc.length+1+l.length<=8;omega⟩
 ·rintro l S' ⟨a,R,rfl,h,h8⟩
  have h8:l.length<=8:=h8
  nofun
  refine zx (dwn_n h8) ?_
  refine wp_walk (fun q ρ S'=>∃ (k:Nat) (x6 x7:Slot),S'=[pk ns a]/\q=dn k/\k<=l.length/\(x6=.ow (LS (needL ((rr R).drop k)))\/x6=.sh (LS (needL ((rr R).drop k))))/\ρ=[.sh (.scr cs),.sh (.ref 0),.ow (.lst ps),.sh (LS nm),.sh (.tup l),.ow (.lst ((aM k (l.length+1 - k)).map (ndT R)).reverse),x6,x7,.no,.no]) ?_ ?_ _ _ _ ⟨l.length,.ow (.lst []),.no,rfl,rfl,ξ _,.inl ?_,?_⟩
  ·rintro x q ρ S' ⟨k,x6,x7,rfl,e,hk,h6,rfl⟩
   cases k with
   | zero=>cases e
   | succ k=>
    obtain ⟨rfl,rfl⟩:=ϡ e
    have hr:=Wm (R:=R) (k:=k) (by rw [<- h.len];omega)
    obtain ⟨d,e1,e2⟩:=h.at hr
    have hst:=zc7 (R:=R) (k:=k) (r:=ra R k) (ra_at (by rw [<- h.len];omega))
    have hle:=JV h h8 (k+1)
    have hle':=JV h h8 k
    have hnm:=zc6 h k
    generalize ra R k=r at hst e2
    obtain ⟨w,st,go⟩:=r
    dsimp only at hst e2
    generalize needL ((rr R).drop (k+1))=nd at hst hle h6
    have hnd:ndT R k=.tup [pl k,.tup ((sortS (onesS (if go=true then (nd.filter fun s=>!decide (s∈st))++w else w))).map D.str)]:=by
     unfold ndT ndK
     rw [hst]
    have hdu:((aM k (l.length+1 - k)).map (ndT R)).reverse=((aM (k+1) (l.length+1 - (k+1))).map (ndT R)).reverse++[ndT R k]:=by
     rw [show l.length+1 - k=l.length+1 - (k+1)+1 by omega]
     show ((k::aM (k+1) (l.length+1 - (k+1))).map (ndT R)).reverse=_
     rw [ϟ,dY]
    rw [hst] at hle' hnm
    have hon:=uz (vM _) fun s hs=>hnm s (yV.mp hs)
    rcases h6 with rfl | rfl
    all_goals
     nofun
     refine zx (Uz (by omega) (by simpa using e1)) ?_
     nofun
     refine (za4 e2 (by omega) (by omega)).go ?_
     nofun
     refine opv_f (Wf (by omega) (by omega)) ?_
     nofun
     refine tst_T (fits_of (by simp;omega)) ?_
     nofun
     exact ⟨k,_,_,rfl,rfl,by omega,.inr (by rw [hst]),by rw [hdu,hnd]⟩
  ·rintro ρ S' ⟨k,x6,x7,rfl,e,hk,h6,rfl⟩
   cases k with
   | succ k=>cases e
   | zero=>
    nofun
    have:=zb2 (ps:=ps) h h8 (K:=59) (by omega) (S:=[pk ns a]) (ρ0:=.sh (.scr cs)) (ρ1:=.sh (.ref 0)) (ρ3:=.sh (LS nm)) (x6:=x6) (x7:=x7)
    rw [c7] at this
    exact this
  ·rw [h.len,rr,List.drop_left]
   rfl
  ·rw [show l.length+1 - l.length=1 by omega]
   show _=[_,_,_,_,_,Slot.ow (.lst [ndT R l.length]),_,_,_,_]
   rw [h.len,zfc,<- h.len]
   rfl
theorem run_law:∀ ns:List Int,ns.length<=63->callW (fnsOf rs) wh 60 50 [.scr ns] (fun x _=>x.1=.bl true) []:=law_wp
noncomputable def vm:PySem.DefRec:=EV.drOf (top 59)
end Q45
open PySem PySem.W PyProof.Rows
namespace Q45
set_option maxRecDepth 100000 in
set_option maxHeartbeats 0 in
theorem end_s : PySem.Challenge.rw_errandroom_k45_needs_of_straight_rows.wellSaid = true := by kernel_rfl
set_option maxRecDepth 100000 in
set_option maxHeartbeats 0 in
theorem end_a : W.defOf uB PySem.Challenge.rw_errandroom_k45_needs_of_straight_rows.name = some (vm, []) := by kernel_rfl
set_option maxRecDepth 100000 in
set_option maxHeartbeats 0 in
theorem end_b : PySem.Challenge.rw_errandroom_k45_needs_of_straight_rows.prog.theDef PySem.Challenge.rw_errandroom_k45_needs_of_straight_rows.name = some (vm.params, vm.body, vm.scope) := by kernel_rfl
set_option maxRecDepth 100000 in
set_option maxHeartbeats 0 in
theorem end_c : W.kwWritten? vm.params.kwonlyargs vm.params.kw_defaults = some [] := by kernel_rfl
set_option maxRecDepth 100000 in
set_option maxHeartbeats 0 in
theorem end_k : (W.chainsOk uB && W.opensWell PySem.Challenge.rw_errandroom_k45_needs_of_straight_rows.prog && (W.frees PySem.Challenge.rw_errandroom_k45_needs_of_straight_rows.row.toRowW && PySem.Challenge.rw_errandroom_k45_needs_of_straight_rows.row.within.isEmpty)) = true := by kernel_rfl
set_option maxRecDepth 100000 in
set_option maxHeartbeats 0 in
theorem end_e : vm.params.defaults = [] := by kernel_rfl
set_option maxRecDepth 100000 in
set_option maxHeartbeats 0 in
theorem end_h : PySem.Challenge.rw_errandroom_k45_needs_of_straight_rows.prog.bare := ⟨rfl, rfl, rfl, rfl, rfl, by decide +kernel⟩
set_option maxRecDepth 100000 in
set_option maxHeartbeats 0 in
theorem end_w : PySem.Challenge.rw_errandroom_k45_needs_of_straight_rows.row.toRowW.promised := by w_witness2
end Q45
set_option maxRecDepth 100000 in
set_option maxHeartbeats 0 in
theorem PySem.Challenge.cw_errandroom_k45_needs_of_straight_rows_holds : PySem.Challenge.rw_errandroom_k45_needs_of_straight_rows.Holds := by
 exact EV.zfM (q := Q45.uB) (loose := []) (d := Q45.vm) (B := Q45.B) (rs := Q45.rs) (f := 50) (r := Q45.r_law) (y := "script") (wh := Q45.wh) 4000 400 Q45.end_s Q45.zde Q45.end_a Q45.end_b Q45.end_c Q45.end_k Q45.end_h Q45.end_w rfl Q45.end_e rfl rfl rfl Q45.tabs Q45.run_law
