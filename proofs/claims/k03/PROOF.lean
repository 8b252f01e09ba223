import PyProof.Rows.All
import Wide.All
import OpenK.AllK
import Wide.FinOn
import Lean
import PyProof.EqAt
import PyProof.EqKinds
import PyProof.TupleCall
import PyProof.EnumMake
import PyProof.EnumIter
import PyProof.EnumFor
import PyProof.EnumStmt
import PyProof.WalksEnum
import KE.KRevIter
import PyProof.Rows.Range3
import PyProof.Rows.SortShell
import KE.KTops
import PyProof.Rows.SortRuns
import PyProof.Rows.SortKey
import KE.KSortTup
import PyProof.PureInt
import KE.KDictSum
import PyProof.Rows.SetFrom
import PyProof.SetKind
import PyProof.DictKinds
import PyProof.WalksMore
import PyProof.FactsAll.set_1
import PyProof.CollectWalk
import PyProof.CollectIter
import KE.KSortAsk
import PyProof.DictKeyH
import PyProof.ReprRoads
import PyProof.ListMulRoad
import PyProof.NeKinds
import KE.KEqDict
import PyProof.SumWalkG
import PyProof.Rows.SumGenD
import PyProof.CompMap
import PyProof.RaisesMany
import PyProof.RulesAs
import PyProof.ExcClass2
import PyProof.ExcArgsOwn
import PyProof.IsiBase
import PyProof.ExcAttrAll.ValueError
import PyProof.ExcBaseAll.ValueError
import OpenK.KDescr
import OpenK.KOwn
import KE.KIsAll
import PyProof.NsDelKeeps
import KE.KTryMore
import PyProof.TupleOfGen
import PySem.Challenge.RW_errandroom_k03_names_and_errands
set_option Elab.async false
set_option linter.all false
set_option maxRecDepth 100000
set_option maxHeartbeats 4000000
set_option tactic.hygienic false
set_option backward.match.sparseCases false
set_option genSizeOfSpec false
set_option bootstrap.genMatcherCode false
set_option compiler.extract_closed false
open Array renaming length_toList -> Φ, getElem?_eq_getElem -> ϟ, getElem?_toList -> bH, getElem?_eq_some_iff -> cO, getElem?_eq_none -> fZ, perm_iff_toList_perm -> mL, size_eq_one_iff -> nY, toArray_toList -> oK, append_assoc -> oZ, toList_push -> o8, toList_zip -> pD, toList_map -> pF
open Bool renaming and_eq_true -> ε, false_ne_true -> Τ, and_eq_true_iff -> ϛ, false_eq_true -> ak, and_self -> dZ, and_false -> gO, and_true -> iz, not_eq_true' -> lB, eq_false_iff -> lC, or_eq_true -> mC, eq_iff_iff -> mD, not_true -> nF
open Classical renaming choose -> cJ, propDecidable -> fD, choose_spec -> mW
open False renaming elim -> Ϥ
open ForInStep renaming yield -> Ϸ, done -> aD
open Int renaming emod_lt_of_pos -> bJ, toNat_natCast -> bR, emod_nonneg -> cB
open List renaming mem_cons_of_mem -> θ, mem_cons_self -> ι, mem_singleton -> ξ, getElem?_eq_getElem -> ο, size_toArray -> π, append_nil -> χ, mem_cons -> Δ, getElem?_set_ne -> Ε, mem_append -> Η, getElem?_eq_some_iff -> Θ, length_map -> Ν, replicate -> Ξ, getElem?_map -> Ο, mem_append_right -> Χ, length_append -> ϊ, contains_iff_mem -> ϐ, getElem?_append_left -> ϖ, getElem?_set_self -> Ϛ, getElem?_append_right -> Ϝ, flatMap_cons -> Ϡ, mem_map -> ϭ, length_set -> ϱ, range -> ϵ, getElem?_eq_none -> Ϲ, mem_of_getElem? -> aB, lookup_cons -> aC, getD_eq_getElem?_getD -> aH, append_assoc -> aJ, nil_append -> aL, mem_flatMap -> aU, all_eq_true -> aV, replicate_succ -> bu, length_cons -> bC, flatMap_nil -> bD, mem_range -> bG, filterMap_cons -> bV, nodup_cons -> cu, Perm -> cA, flatten_cons -> cI, length_take -> cU, getElem_mem -> cV, map_cons -> dh, find?_cons -> dm, length_eq_zero_iff -> du, getElem?_replicate -> dw, length_drop -> dM, any_eq_true -> dN, of_mem_zip -> d9, foldl_cons -> eE, zip_cons_cons -> eY, drop_eq_getElem_cons -> fH, reverse_cons -> fL, length_range -> fM, set -> fW, map_map -> gh, length_replicate -> gw, getElem?_toArray -> gA, nodup_nil -> gH, mem_iff_getElem -> gJ, cons -> gU, mem_map_of_mem -> ie, getElem_of_mem -> ig, all_cons -> ik, pairwise_cons -> iB, flatMap_assoc -> iC, take_sublist -> lu, nodup_append -> lw, map -> lz, ext_getElem? -> lA, length -> lX, map_append -> my, length_zip -> mz, set_eq_of_length_le -> nu, map_take -> nA, any_cons -> nC, Pairwise -> nD, range_succ_eq_map -> nR, map_nil -> nU, all_map -> nW, mem_of_mem_take -> oM, mem_append_left -> oN, length_eraseIdx -> oO, map_congr_left -> oW, length_reverse -> oX, mem_filterMap -> o7, pairwise_map -> pB, getElem?_inj -> pC
open List.Pairwise renaming nil -> mV
open List.Perm renaming refl -> bQ
open List.cons renaming inj -> dG
open Nat renaming le_refl -> ς, beq -> Λ, ne_of_lt -> Υ, lt_of_lt_of_le -> ϋ, zero_le -> ϡ, le_trans -> ϣ, le_of_ble_eq_true -> aj, lt_irrefl -> bT, ne_of_gt -> cX, lt_succ_of_lt -> dI, lt_succ_self -> fY, le_of_lt -> gq, succ -> lF, le_of_eq -> lG, le_of_not_lt -> lW, le_succ -> mq, pow_le_pow_right -> oV
open Nat.succ renaming inj -> d7
open Ne renaming symm -> d8
open Option renaming bind_eq_some_iff -> ν, map_eq_some_iff -> Ζ, some -> ϯ, isSome_iff_exists -> cY, map_some -> fX, isSome_map -> oU, getD_some -> o4, getD_none -> o5, bind_some -> o6
open Option.some renaming inj -> ϙ
open Prod.mk renaming inj -> lq
open PyProof.Rows renaming arrOf -> Ρ, wpS_bind -> ϝ, slot_tuple_getitem -> ϩ, callWith_type1 -> ϸ, SortSt -> au, wpS_pure -> aM, Keyed -> bh, KeyOrd -> bB, seqObj -> cF, reverseSlice' -> eU, wpS_forRange -> fJ, AllBare -> gk, listUpdate_at -> gm, sortedHeap -> gQ, SortKind -> iM, IsTup -> iR, size_push' -> lQ, envOfC -> lR, pendingOf -> mZ, mirror_perm -> m8, wpS_modify -> nZ, subscriptTail_builtinR -> o9, listItems_at -> pq
open PyProof.Rows.F renaming plain_set_update_loop -> cj, entry_set_update_loop -> fP
open PyProof.Rows.KeyOrd renaming kle_refl -> bK, kle_trans -> cQ, kle_of_klt -> dz, kle_antisymm -> oH
open PySem renaming wpAny_bind -> γ, Value -> δ, wpAny_pure -> ζ, Shared -> μ, wpAny -> ψ, model -> Ι, Builtin -> Κ, Program -> Μ, mainGlobals -> Ψ, wpAny_newObj_type -> Ω, Expr -> Ϗ, Around -> ϑ, World -> ϒ, wpAny_call_entry -> ϓ, compareOp -> ϔ, wpAny_callSpecial?_slot -> ϗ, SetTable -> Ϙ, wpAny_setField -> Ϟ, starEach -> Ϣ, wpAny_field -> Ϧ, Spec -> Ϩ, NameKind -> Ϭ, rawInt -> Ϯ, wpAny_setField_rec -> ϳ, Stmt -> ϴ, wpAny_holding -> aq, sizeLine_eq -> aF, cLine -> aG, wpAny_mono -> aN, wpAny_of_eq -> aQ, strKind -> aW, keywordEach -> aZ, mem_of_lookup -> bc, FuncData -> bj, wpAny_truthy_bool -> bw, codeAny_builtin -> bA, wpAny_typeOf -> bI, wpAny_Call_Name_kw -> bL, binaryOp -> bM, assignEach -> bN, foldedSetIterable -> bU, wpAny_rule -> bW, wpAny_typeNameOfWhole_itemiter -> bY, wpAny_fieldsOf -> bZ, DictEntry -> cg, wpAny_typeNameOfWhole_keyiter -> cC, bootBuiltins -> cG, wpAny_passesOwn -> cN, wpAny_attempt -> cP, builtinLookup_eq_fast -> cR, wpAny_setState_of -> cT, Keyword -> cW, backToKw -> c7, wpAny_isInstance -> dj, wpAny_typeNameOf_itemiter -> dq, swappedStores -> dB, plainId_quiet -> dC, Scope -> dD, wpAny_isOneOf_itemiter -> dO, wpAny_dictEntries -> dR, pyNext -> dU, firstArgMember -> dW, codeAny_mono -> dX, tupleKind -> eF, sysModules -> eG, Paired -> eH, IsItemIter -> eO, swapsWithSole -> eQ, sliceBounds -> eV, wpAny_execs_nil -> fc, wpAny_dictEpoch -> fj, typeLookup_type -> fu, backTo -> fB, isSubtype_type -> fU, wpAny_pyIter_slot -> f9, wpAny_pyIter_list -> gb, wpAny_pyIter_enum -> gf, CmpOp -> gj, swapsWith -> gC, noteFrame -> gD, checkBuiltinCall -> gF, valueAt -> gP, IsPart -> gW, wpAny_ite_false -> gY, wpAny_seqItems -> iD, wpAny_newTuple -> iG, storeSet -> iH, pyIter -> iI, isTrue -> iJ, isSubtype_stop -> iK, GenState -> iT, setFlight -> iW, relabel -> iY, getItem -> iZ, codeAny -> lg, PassesOwn -> lr, wpAny_setEntries_of -> lD, wpAny_standAt -> lH, wpAny_handled -> lJ, wpAny_pyIter_tuple -> lM, typeLookup -> lN, tupleKind_room_in1 -> lO, entryOfKey -> lU, assign -> lV, wpAny_loadPart_at -> mF, Operator -> mJ, wpAny_askSetting -> mX, pickOrder -> mY, noFill_tuple_add -> m5, wpAny_throw -> m7, wpAny_specialOf -> nG, wpAny_loadPart' -> nH, letOwnedTupleGo -> nJ, codeAny_of_tree -> nM, BoolOp -> nP, wpAny_runValue -> n8, wpAny_letOwnedTupleGo_enum -> ou, wpAny_call -> oA, setAddHashedIn -> oE, entryFor_alias -> oF, call_meets -> oG, seq_tuple_add -> oR, IsItemIterOut -> oY, concat_meets -> pA
open PySem.Around renaming under_plainId -> ao
open PySem.Builtin.Dict renaming showsAll -> lZ
open PySem.Builtin.Dict_items renaming ownsTuple -> di, ownedTupleIsFree -> fG, pairFromOwner -> fQ
open PySem.Builtin.List renaming listExtendWith -> Ϻ, listTooLong -> cL, listSameRef -> cM, listLengthHint -> iy
open PySem.Builtin.Slice renaming slicePlaces -> cz, sliceAdjust -> dY, sliceApplied -> iw
open PySem.Builtin.SmallTypes renaming nextOf -> gG
open PySem.Builtin.Str renaming occurrences -> eX
open PySem.Builtin.Tuple renaming tupleExact -> aK, tupleItemsOf -> iu
open PySem.Calls renaming spliced_cons -> ir, spliced_nil -> iV, Name_function_global -> mK, evalArgs_plain -> oJ
open PySem.Challenge renaming pw_errandroom_k03_names_and_errands -> ϧ
open PySem.Data renaming fields -> Ϫ, seq -> eZ
open PySem.EntryCells renaming newEntry -> m6
open PySem.Env renaming kindOf -> iU
open PySem.F renaming called_set -> aO, plain_list_iadd -> dg, args_tuple_add_2 -> fC, entry_tuple_add -> fK, slot_tuple_add -> fV, called_tuple -> gn, plain_proto_collect -> lK, entry_proto_collect -> lL, plain_extend_loop -> mj, plain_tuple_new -> mO, plainAttrs_list -> mQ, entry_list_iadd -> mR, slot_set_iter -> nj, plain_set_new -> nq
open PySem.Heap renaming get?_push_of_some -> η, get?_push_size -> υ, lt_size -> ω, SameBut -> ό, get?_update_self -> ϫ, get?_update_other -> bz, get?_update_ne -> cZ, size_push -> dH, get?_none_of_le -> gK, MadeExcOf -> gM, ExtBut -> lY
open PySem.Heap.SameBut renaming update -> aA, refl -> gB
open PySem.NameKind renaming free -> aP
open PySem.Obj renaming mapFields -> ϲ, data_mapFields -> aX, mapSeq -> b8, isFreed_of_fields -> cH, cls_mapFields -> lE
open PySem.Paired renaming length -> mU
open PySem.ScopeKind renaming function -> nO
open PySem.SeqAt renaming RcNeAt -> ϥ, EqAt -> ϰ, EqAt -> gR
open PySem.SeqAt.EqAt renaming str_int -> m9, int_str -> ni
open PySem.SetTable renaming below -> bx, grown -> cD, orStandIn -> nQ
open PySem.SetTable.below renaming go -> mH
open PySem.Shared renaming TypeIs -> bO
open PySem.Str renaming ofString -> b7
open PySem.Txt renaming slice -> iQ
open PySem.Value renaming ref -> Α, none -> Β, bool -> ύ, type -> ώ, int -> ϕ, str -> aY, isStrOf -> dJ, builtin -> gZ
open PySem.W renaming looks_findIn -> ph
open PySem.pickOrder renaming go -> mG
open Sum renaming inr -> fO, inl -> g8
open True renaming intro -> aR
namespace L2
open PySem PySem.Spec PyProof.Rows
abbrev VSP:=δ->μ->Prop
abbrev Key:=Sum Int Str
noncomputable def yo (s:Stmt):Arguments:=match s with
 | .FunctionDef _ a _ _ _ _ _ _ _ _=>a
 | _=>{ posonlyargs:=[],args:=[],vararg:=none,kwonlyargs:=[],kw_defaults:=[],kwarg:=none,defaults:=[] }
noncomputable def zY (s:Stmt):List Stmt:=match s with
 | .FunctionDef _ _ b _ _ _ _ _ _ _=>b
 | _=>[]
noncomputable def zA (s:Stmt):dD:=match s with
 | .FunctionDef _ _ _ _ _ _ sc _ _ _=>sc
 | _=>{ kind:=.function,names:=[],isGenerator:=false,isCoroutine:=false }
noncomputable abbrev veB:List δ:=[.type "ValueError",.type "Exception",.type "BaseException",.type "object"]
end L2
namespace EV
open PySem PySem.Spec PyProof.Rows L2
inductive D where
 | non | bl (b:Bool) | int (i:Int) | str (x:Str)
 | tup (ds:List D) | lst (ds:List D)
 | dK (ks:List Key) (ds:List D) | dT (ks:List (List Key)) (ds:List D)
 | ref (k:Nat) | fn (f:Nat) | scr (ns:List Int) | ktp (ds:List D) | kdc (ps:List (Str×Int)) | dF (ks:List (List Key)) (ds:List D)
 deriving Inhabited
inductive Ty where
 | int | bool | str | tuple | list | dict
 deriving DecidableEq
inductive BI where
 | len | abs | int | str | tuple | list | sum | all | any | isinst (t:Ty) | min2 | max2 | sorted | repr | dict | sset | lset | trev
 deriving DecidableEq
inductive MT where
 | get1 | get2 | index | join | split
 deriving DecidableEq
inductive T where
 | one (i:Nat) | tup (is:List Nat) | nst (i:Nat) (is:List Nat)
 deriving DecidableEq
inductive E where
 | var (i:Nat) | con (d:D) | glo (n:Nat) (d:D)
 | bin (op:mJ) (a b:E) | neg (a:E)
 | cmp (op:gj) (a b:E) | chn (o1 o2:gj) (a b c:E)
 | not (a:E) | and (a b:E) | or (a b:E)
 | ite (c a b:E)
 | tup (es:List E) | lst (es:List E) | dic (tk:Bool) (ks:List Key) (vs:List E)
 | sub (a i:E) | slc (a:E) (lo hi:Option E)
 | bi (b:BI) (es:List E) | mth (m:MT) (o:E) (es:List E)
 | call (f:Nat) (es:List E) | callk (f:Nat) (perm:List Nat) (es:List E) | callv (i:Nat) (es:List E)
 | comp (t:T) (js:List Nat) (it:E) (ifs:List E) (elt:E)
 | box (e:E) | one (e:E) | flip (e:E) | dk1 (a b:E)
 | seq (e:E) | rng (lo:Option E) (hi:E) | enum (e:E) | zip (a b:E) | rev (e:E) | items (e:E) | dwn (es:List E) | keys (e:E)
inductive HB where
 | is (k:Nat) | ve | var (j:Nat) | not (a:HB) | and (a b:HB) | or (a b:HB) | one (a:HB)
inductive C where
 | set (t:T) (e:E)
 | expr (e:E)
 | ret (e:E) | retN
 | ite (c:E) (a b:List C)
 | whl (c:E) (b:List C)
 | forr (t:T) (it:E) (b:List C)
 | app (i:Nat) (e:E) | ext (i:Nat) (e:E)
 | stv (i:Nat) (k v:E) | sti (o k v:E) | appR (o e:E) | pop (i:Nat) | popR (t:T) (o:E) | popO (t:T) (i:Nat)
 | pass | brk | cnt | frz (i:Nat) | frr (i:Nat) | frk (i:Nat)
 | rse (c:Nat) | tri (tb:List (List Nat)) (f:Nat) (es:List E) (c i:Nat) (hs:List (Nat×HB))
structure Fn where
 np:Nat
 nv:Nat
 body:List C
structure Tb where
 fns:List Str
 pars:List (List Str)
 consts:List (Str×D)
 bare:List Str
 kws:List (Nat×List Str×List Nat)
 cls:List (Str×List Nat)
structure Row where
 name:Str
 st:Stmt
 ps:List Str
 N:List Str
 fn:Fn
noncomputable def frOf (h:Heap) (n:Nat):W.Frag:=(ϵ n).filterMap fun a=>(h.get? a).map fun o=>(a,o)
noncomputable def W8 (K:W.Frag) (x:Str):Option (bj×Bool):=match W.nsIn K Ψ x with
  | some (some (.ref f))=>(match K.lookup f with
     | some ⟨_,_,.func fd,_⟩=>some ({ fd with kwdefaults:=.none,doc:=.none,pyModule:=.none,annotations:=none,code:=.none,closureTuple:=.none },W.codeIn K fd.code x&&W.keepIn K (.ref f))
     | _=>none)
  | _=>none
noncomputable def uN:List D->List δ->Bool
 | [],[]=>true
 | .str x::ds,.str y _::vs=>x==y&&uN ds vs
 | .int i::ds,.int j _::vs=>i==j&&uN ds vs
 | _,_=>false
noncomputable def tupAt (K:W.Frag) (a:Addr):Option (Array δ):=(K.lookup a).bind fun o=>match o.cls,o.data with
 | .type t,.seq its _=>if (t=="tuple"&&decide (its.size<=1000))=true then some its else none
 | _,_=>none
noncomputable def dicAt (K:W.Frag) (a:Addr) (ps:List (Str×Int)):Bool:=(match K.lookup a with
  | some o=>(match o.cls with | .type t=>t=="dict" | _=>false)&&o.dict.isNone
  | none=>false)&&KTD.tabLook (KTD.datLooks fun b=>K.lookup b) (fun b=>K.lookup b) a (ps.map fun p=>(p.1,.flat (.int p.2)))
noncomputable def conOk (K:W.Frag) (rs:List Row) (x:Str):D->Bool
 | .int i=>(match W.nsIn K Ψ x with | some (some (.int j _))=>i==j | _=>false)
 | .str y=>(match W.nsIn K Ψ x with | some (some (.str z _))=>y==z | _=>false)
 | .fn i=>(match rs[i]? with | some r=>r.name==x | none=>false)
 | .ktp ds=>(match W.nsIn K Ψ x with | some (some (.ref a))=>(match tupAt K a with | some its=>uN ds its.toList | none=>false) | _=>false)
 | .kdc ps=>(match W.nsIn K Ψ x with | some (some (.ref a))=>dicAt K a ps | _=>false)
 | _=>false
noncomputable def caOf (K:W.Frag) (x:Str):Option Addr:=match W.nsIn K Ψ x with
 | some (some (.ref C))=>some C
 | _=>none
noncomputable def clsOk (K:W.Frag) (cs:List (Str×List Nat)) (p:Str×List Nat):Bool:=match caOf K p.1 with
  | some C=>W.excIn K C veB "ValueError.__new__"&&W.findIn K (.ref C) "__getattribute__"==some (some (.builtin "BaseException.__getattribute__"))&&W.findIn K (.ref C) "__getattr__"==some none&&W.findIn K (.ref C) "__class__"==some (some (.builtin "object.__class__"))
   &&W.mroIn K C (.type "BaseException")==some true&&W.mroIn K C (.type "object")==some true&&(W.clsIn K C).isSome&&W.kitOne K (.ref C) (.type "ValueError")==some true
   &&(ϵ cs.length).all fun k=>match cs[k]? with
      | some q=>(match caOf K q.1 with
        | some Ck=>W.kitOne K (.ref C) (.ref Ck)==some (p.2.contains k)&&W.exmOne K (.ref C) (.ref Ck)==some (p.2.contains k)
        | none=>false)
      | none=>false
  | none=>false
noncomputable def seenT (K:W.Frag) (B:Tb) (rs:List Row):List (Option (bj×Bool))×List (Option (Option δ))×List Bool×List Bool:=
 (rs.map fun r=>W8 K r.name,B.bare.map fun x=>W.nsIn K Ψ x,B.consts.map fun p=>conOk K rs p.1 p.2,B.cls.map fun p=>clsOk K B.cls p)
noncomputable def wantT (B:Tb) (rs:List Row):List (Option (bj×Bool))×List (Option (Option δ))×List Bool×List Bool:=
 (rs.map fun r=>some (W.fnOf r.name r.name (yo r.st) (zY r.st) (zA r.st) .none .none .none .none none .none .none,true),B.bare.map fun _=>some none,B.consts.map fun _=>true,B.cls.map fun _=>true)
end EV
namespace Q03
open PySem PySem.Spec PyProof.Rows L2 EV
def top (i:Nat):Stmt:=ϧ.main.body.getD i (.Pass ⟨0,0,0,0⟩)
noncomputable abbrev ug:List C:=[.ite (.cmp .Eq (.sub (.var 0) (.con (.int 0))) (.con (.str "if"))) [.ret (.tup [(.sub (.var 0) (.con (.int 2))),(.sub (.var 0) (.con (.int 3)))])] [],.ite (.cmp .Eq (.sub (.var 0) (.con (.int 0))) (.con (.str "while"))) [.ret (.tup [(.sub (.var 0) (.con (.int 2)))])] [],.ite (.cmp .Eq (.sub (.var 0) (.con (.int 0))) (.con (.str "try"))) [.ret (.tup [(.sub (.var 0) (.con (.int 1))),(.sub (.var 0) (.con (.int 3)))])] [],.ite (.cmp .Eq (.sub (.var 0) (.con (.int 0))) (.con (.str "do"))) [.ret (.tup [(.sub (.var 0) (.con (.int 1))),(.sub (.var 0) (.con (.int 2)))])] [],.ret (.tup [])]
noncomputable def vJ:EV.Row:=⟨"blocks_of",top 7,["row"],["row"],⟨1,1,ug⟩⟩
noncomputable abbrev qH:List C:=[.set (.one 1) (.lst []),.forr (.one 2) (.seq (.var 0)) [.app 1 (.var 2),.forr (.one 3) (.seq (.call 0 [(.var 2)])) [.ext 1 (.call 1 [(.var 3)])]],.ret (.var 1)]
noncomputable def jX:EV.Row:=⟨"rows_of",top 8,["block"],["block","rows","row","inner"],⟨1,4,qH⟩⟩
noncomputable abbrev uR:List C:=[.set (.one 1) (.bi .list [(.sub (.var 0) (.con (.int 1)))]),.forr (.one 2) (.seq (.call 1 [(.sub (.var 0) (.con (.int 2)))])) [.ext 1 (.call 3 [(.var 2)]),.forr (.one 3) (.seq (.call 4 [(.var 2)])) [.ext 1 (.call 5 [(.var 3)])]],.frz 1,.ret (.bi .tuple [(.bi .sset [(.var 1)])])]
noncomputable def uD:EV.Row:=⟨"names_of",top 9,["errand"],["errand","names","row","one"],⟨1,4,uR⟩⟩
noncomputable abbrev ue:List C:=[.ite (.cmp .Eq (.sub (.var 0) (.con (.int 0))) (.con (.str "set"))) [.ret (.lst [(.sub (.var 0) (.con (.int 1)))])] [],.ite (.cmp .Eq (.sub (.var 0) (.con (.int 0))) (.con (.str "try"))) [.ret (.comp (.one 0) [] (.seq (.lst [(.sub (.var 0) (.con (.int 2)))])) [(.cmp .IsNot (.var 0) (.con .non))] (.var 0))] [],.ite (.cmp .Eq (.sub (.var 0) (.con (.int 0))) (.con (.str "want"))) [.ret (.comp (.one 0) [] (.seq (.sub (.var 0) (.con (.int 2)))) [(.cmp .IsNot (.sub (.var 0) (.con (.int 0))) (.con .non))] (.sub (.var 0) (.con (.int 0))))] [],.ret (.lst [])]
noncomputable def vH:EV.Row:=⟨"set_names",top 10,["row"],["row"],⟨1,1,ue⟩⟩
noncomputable abbrev xO:List C:=[.ite (.cmp .Eq (.sub (.var 0) (.con (.int 0))) (.con (.str "set"))) [.ret (.lst [(.sub (.var 0) (.con (.int 2)))])] [],.ite (.cmp .In (.sub (.var 0) (.con (.int 0))) (.tup [(.con (.str "tell")),(.con (.str "give")),(.con (.str "fail")),(.con (.str "if")),(.con (.str "while"))])) [.ret (.lst [(.sub (.var 0) (.con (.int 1)))])] [],.set (.one 1) (.lst []),.ite (.cmp .Eq (.sub (.var 0) (.con (.int 0))) (.con (.str "want"))) [.forr (.one 2) (.seq (.sub (.var 0) (.con (.int 2)))) [.ext 1 (.ite (.cmp .Eq (.sub (.var 2) (.con (.int 1))) (.con (.str "ask"))) (.lst [(.sub (.var 2) (.con (.int 3)))]) (.sub (.var 2) (.con (.int 3))))]] [],.ret (.var 1)]
noncomputable def xq:EV.Row:=⟨"formulas_of",top 11,["row"],["row","formulas","branch"],⟨1,3,xO⟩⟩
noncomputable abbrev yK:List C:=[.ite (.bi (.isinst .str) [(.var 0)]) [.ret (.lst [(.var 0)])] [],.ite (.bi (.isinst .tuple) [(.var 0)]) [.ret (.bin .Add (.call 5 [(.sub (.var 0) (.con (.int 1)))]) (.call 5 [(.sub (.var 0) (.con (.int 2)))]))] [],.ret (.lst [])]
noncomputable def yF:EV.Row:=⟨"formula_names",top 12,["one"],["one"],⟨1,1,yK⟩⟩
noncomputable abbrev uf:List C:=[.forr (.one 2) (.seq (.var 0)) [.ite (.cmp .Eq (.sub (.var 2) (.con (.int 0))) (.var 1)) [.ret (.var 2)] []],.rse 2]
noncomputable def vI:EV.Row:=⟨"errand_of",top 13,["program","name"],["program","name","errand"],⟨2,3,uf⟩⟩
noncomputable abbrev yL:List C:=[.set (.one 2) (.lst []),.set (.one 3) (.bi .abs [(.var 0)]),.ite (.cmp .GtE (.var 3) (.bin .Pow (.con (.int 10)) (.con (.int 18)))) [.whl (.and (.cmp .Gt (.var 3) (.con (.int 0))) (.one (.cmp .Lt (.bi .len [(.var 2)]) (.var 1)))) [.app 2 (.bin .Mod (.var 3) (.bin .Pow (.con (.int 10)) (.con (.int 6)))),.set (.one 3) (.bin .FloorDiv (.var 3) (.bin .Pow (.con (.int 10)) (.con (.int 6))))]] [],.forr (.one 4) (.rng (some (.bi .len [(.var 2)])) (.var 1)) [.set (.one 5) (.bin .Mod (.bin .Add (.bin .Add (.bin .Add (.bin .Mult (.bin .Mod (.var 0) (.con (.int 1000000007))) (.con (.int 48271))) (.bin .Mult (.bin .Mult (.con (.int 977)) (.var 4)) (.var 4))) (.bin .Mult (.con (.int 131)) (.var 4))) (.con (.int 1))) (.con (.int 2147483647))),.set (.one 5) (.bin .Mod (.bin .Mult (.var 5) (.var 5)) (.con (.int 2147483647))),.app 2 (.bin .Mod (.bin .FloorDiv (.bin .Mod (.bin .Mult (.bin .Add (.var 5) (.bin .Mult (.con (.int 40692)) (.bin .Add (.var 4) (.con (.int 3))))) (.con (.int 69621))) (.con (.int 2147483629))) (.con (.int 8))) (.bin .Pow (.con (.int 10)) (.con (.int 6))))],.ret (.var 2)]
noncomputable def wG:EV.Row:=⟨"_law_draws",top 15,["cell","many"],["cell","many","found","left","k","one"],⟨2,6,yL⟩⟩
noncomputable abbrev ul:List C:=[.ret (.bin .Mod (.bin .FloorDiv (.sub (.var 0) (.bin .Mod (.var 1) (.bi .len [(.var 0)]))) (.con (.int 7))) (.var 2))]
noncomputable def vL:EV.Row:=⟨"_law_draw",top 16,["draws","at","many"],["draws","at","many"],⟨3,3,ul⟩⟩
noncomputable abbrev xP:List C:=[.set (.one 2) (.bi .len [(.var 0)]),.set (.one 3) (.bin .Mult (.sub (.var 0) (.bin .Mod (.var 1) (.var 2))) (.bin .Pow (.con (.int 10)) (.con (.int 6)))),.set (.one 3) (.bin .Add (.var 3) (.sub (.var 0) (.bin .Mod (.bin .Add (.var 1) (.con (.int 1))) (.var 2)))),.set (.one 4) (.bin .Mod (.bin .FloorDiv (.sub (.var 0) (.bin .Mod (.bin .Add (.var 1) (.con (.int 2))) (.var 2))) (.con (.int 7))) (.con (.int 3))),.ret (.sub (.lst [(.bin .Mod (.var 3) (.con (.int 5))),(.bin .Sub (.con (.int 1000000006)) (.bin .Mod (.var 3) (.con (.int 3)))),(.bin .Mod (.var 3) (.con (.int 1000000007)))]) (.var 4))]
noncomputable def xu:EV.Row:=⟨"_law_number",top 17,["draws","at"],["draws","at","many","far","way"],⟨2,5,xP⟩⟩
noncomputable abbrev uT:List C:=[.ite (.or (.cmp .Eq (.var 3) (.con (.int 0))) (.one (.cmp .Eq (.call 8 [(.var 0),(.var 1),(.con (.int 4))]) (.con (.int 0))))) [.ite (.and (.cmp .NotEq (.var 2) (.lst [])) (.one (.cmp .Eq (.call 8 [(.var 0),(.bin .Add (.var 1) (.con (.int 1))),(.con (.int 2))]) (.con (.int 0))))) [.ret (.tup [(.sub (.var 2) (.call 8 [(.var 0),(.bin .Add (.var 1) (.con (.int 2))),(.bi .len [(.var 2)])])),(.bin .Add (.var 1) (.con (.int 5)))])] [],.ret (.tup [(.call 9 [(.var 0),(.bin .Add (.var 1) (.con (.int 2)))]),(.bin .Add (.var 1) (.con (.int 5)))])] [],.set (.tup [4,5]) (.call 10 [(.var 0),(.bin .Add (.var 1) (.con (.int 2))),(.var 2),(.bin .Sub (.var 3) (.con (.int 1)))]),.set (.tup [6,5]) (.call 10 [(.var 0),(.var 5),(.var 2),(.bin .Sub (.var 3) (.con (.int 1)))]),.ret (.tup [(.tup [(.sub (.con (.str "+-*<=")) (.call 8 [(.var 0),(.bin .Add (.var 1) (.con (.int 1))),(.con (.int 5))])),(.var 4),(.var 6)]),(.var 5)])]
noncomputable def uE:EV.Row:=⟨"_law_sum",top 18,["draws","at","names","deep"],["draws","at","names","deep","one","then","other"],⟨4,7,uT⟩⟩
noncomputable abbrev yW:List C:=[.ret (.call 10 [(.var 0),(.bin .Add (.var 1) (.con (.int 1))),(.var 2),(.sub (.lst [(.con (.int 0)),(.con (.int 1)),(.con (.int 1)),(.con (.int 3))]) (.call 8 [(.var 0),(.var 1),(.con (.int 4))]))])]
noncomputable def yS:EV.Row:=⟨"_law_any_sum",top 19,["draws","at","names"],["draws","at","names"],⟨3,3,yW⟩⟩
noncomputable abbrev xR:List C:=[.set (.one 4) (.sub (.bin .Add (.lst [(.con .non)]) (.var 2)) (.call 8 [(.var 0),(.var 1),(.bin .Add (.con (.int 1)) (.bi .len [(.var 2)]))])),.ite (.or (.cmp .Eq (.var 3) (.lst [])) (.one (.cmp .Eq (.call 8 [(.var 0),(.bin .Add (.var 1) (.con (.int 1))),(.con (.int 2))]) (.con (.int 0))))) [.set (.tup [5,6]) (.call 11 [(.var 0),(.bin .Add (.var 1) (.con (.int 3))),(.var 2)]),.ret (.tup [(.tup [(.var 4),(.con (.str "ask")),(.sub (.lst [(.con (.str "bank")),(.con (.str "b")),(.con (.str "ask")),(.con (.str "skyskysk"))]) (.call 8 [(.var 0),(.bin .Add (.var 1) (.con (.int 2))),(.con (.int 4))])),(.var 5)]),(.var 6)])] [],.set (.one 7) (.sub (.var 3) (.call 8 [(.var 0),(.bin .Add (.var 1) (.con (.int 2))),(.bi .len [(.var 3)])])),.set (.one 6) (.bin .Add (.var 1) (.con (.int 3))),.set (.one 8) (.lst []),.forr (.one 9) (.rng none (.sub (.var 7) (.con (.int 1)))) [.set (.tup [5,6]) (.call 11 [(.var 0),(.var 6),(.var 2)]),.app 8 (.var 5)],.ret (.tup [(.tup [(.var 4),(.con (.str "call")),(.sub (.var 7) (.con (.int 0))),(.bi .tuple [(.var 8)])]),(.var 6)])]
noncomputable def xF:EV.Row:=⟨"_law_branch",top 20,["draws","at","names","heads"],["draws","at","names","heads","its_name","one","then","head","given","k"],⟨4,10,xR⟩⟩
noncomputable abbrev uh:List C:=[.set (.one 4) (.lst []),.set (.one 5) (.bin .Add (.var 1) (.con (.int 2))),.forr (.one 6) (.rng none (.bin .Add (.con (.int 1)) (.call 8 [(.var 0),(.var 1),(.con (.int 4))]))) [.set (.tup [7,5]) (.call 12 [(.var 0),(.var 5),(.var 2),(.var 3)]),.app 4 (.var 7)],.ret (.tup [(.tup [(.con (.str "want")),(.bin .Add (.con (.int 1)) (.call 8 [(.var 0),(.bin .Add (.var 1) (.con (.int 1))),(.bi .len [(.var 4)])])),(.bi .tuple [(.var 4)])]),(.var 5)])]
noncomputable def vK:EV.Row:=⟨"_law_want",top 21,["draws","at","names","heads"],["draws","at","names","heads","branches","then","k","branch"],⟨4,8,uh⟩⟩
noncomputable abbrev uU:List C:=[.set (.one 7) (.call 8 [(.var 0),(.var 1),(.con (.int 10))]),.ite (.cmp .Gt (.var 7) (.con (.int 7))) [.set (.tup [8,9]) (.call 13 [(.var 0),(.bin .Add (.var 1) (.con (.int 2))),(.var 5),(.var 6)]),.ret (.tup [(.var 8),(.var 9),(.var 3)])] [],.set (.one 10) (.sub (.var 5) (.call 8 [(.var 0),(.bin .Add (.var 1) (.con (.int 1))),(.bi .len [(.var 5)])])),.set (.tup [11,9]) (.call 11 [(.var 0),(.bin .Add (.var 1) (.con (.int 2))),(.var 5)]),.ite (.cmp .Eq (.var 7) (.con (.int 0))) [.ret (.tup [(.tup [(.con (.str "set")),(.var 10),(.var 11)]),(.var 9),(.var 3)])] [],.ite (.cmp .Lt (.var 7) (.con (.int 4))) [.ret (.tup [(.tup [(.sub (.lst [(.con (.str "tell")),(.sub (.lst [(.con (.str "give")),(.con (.str "tell"))]) (.bi .int [(.var 4)])),(.con (.str "fail"))]) (.bin .Sub (.var 7) (.con (.int 1)))),(.var 11)]),(.var 9),(.var 3)])] [],.set (.tup [12,9,3]) (.call 15 [(.var 0),(.var 9),(.bin .Add (.var 2) (.con (.int 1))),(.var 3),(.var 4),(.var 5),(.var 6)]),.ite (.cmp .Eq (.var 7) (.con (.int 4))) [.ret (.tup [(.tup [(.con (.str "while")),(.var 11),(.var 12)]),(.var 9),(.var 3)])] [],.set (.tup [13,9,3]) (.call 15 [(.var 0),(.var 9),(.bin .Add (.var 2) (.con (.int 1))),(.var 3),(.or (.var 4) (.one (.cmp .Eq (.var 7) (.con (.int 7))))),(.var 5),(.var 6)]),.ite (.cmp .Eq (.var 7) (.con (.int 5))) [.ret (.tup [(.tup [(.con (.str "if")),(.var 11),(.var 12),(.var 13)]),(.var 9),(.var 3)])] [],.ite (.cmp .Eq (.var 7) (.con (.int 6))) [.ret (.tup [(.tup [(.con (.str "try")),(.var 12),(.sub (.lst [(.var 10),(.con .non)]) (.bin .FloorDiv (.call 8 [(.var 0),(.var 1),(.con (.int 20))]) (.con (.int 10)))),(.var 13)]),(.var 9),(.var 3)])] [],.ret (.tup [(.tup [(.con (.str "do")),(.var 12),(.var 13)]),(.var 9),(.var 3)])]
noncomputable def uF:EV.Row:=⟨"_law_row",top 22,["draws","at","deep","left","undoing","names","heads"],["draws","at","deep","left","undoing","names","heads","way","row","then","its_name","one","block","other"],⟨7,14,uU⟩⟩
noncomputable abbrev wN:List C:=[.set (.one 7) (.lst []),.set (.one 8) (.sub (.lst [(.con (.int 0)),(.con (.int 1)),(.con (.int 2)),(.con (.int 3)),(.con (.int 8))]) (.call 8 [(.var 0),(.var 1),(.con (.int 5))])),.set (.one 9) (.bin .Add (.var 1) (.con (.int 1))),.forr (.one 10) (.rng none (.var 8)) [.ite (.and (.cmp .Gt (.var 3) (.con (.int 0))) (.one (.cmp .Lt (.var 2) (.con (.int 5))))) [.set (.tup [11,9,3]) (.call 14 [(.var 0),(.var 9),(.var 2),(.bin .Sub (.var 3) (.con (.int 1))),(.var 4),(.var 5),(.var 6)]),.app 7 (.var 11)] []],.ret (.tup [(.bi .tuple [(.var 7)]),(.var 9),(.var 3)])]
noncomputable def wH:EV.Row:=⟨"_law_block",top 23,["draws","at","deep","left","undoing","names","heads"],["draws","at","deep","left","undoing","names","heads","rows","many","then","k","row"],⟨7,12,wN⟩⟩
noncomputable abbrev xQ:List C:=[.set (.tup [7,8,9]) (.call 15 [(.var 0),(.var 1),(.con (.int 1)),(.var 6),(.con (.bl false)),(.var 4),(.var 5)]),.ret (.tup [(.tup [(.var 2),(.bi .tuple [(.var 3)]),(.var 7)]),(.var 8)])]
noncomputable def xx:EV.Row:=⟨"_law_errand",top 24,["draws","at","its_name","params","names","heads","most"],["draws","at","its_name","params","names","heads","most","block","then","left"],⟨7,10,xQ⟩⟩
noncomputable abbrev wM:List C:=[.set (.one 2) (.sub (.lst [(.lst [(.con (.str "main")),(.con (.str "a")),(.con (.str "ab"))]),(.lst [(.con (.str "end")),(.con (.str "main")),(.con (.str "mainpart"))]),(.lst [(.con (.str "z")),(.con (.str "yy")),(.con (.str "errand"))])]) (.call 8 [(.var 0),(.var 1),(.con (.int 3))])),.set (.one 3) (.slc (.var 2) none (some (.bin .Add (.con (.int 1)) (.call 8 [(.var 0),(.bin .Add (.var 1) (.con (.int 1))),(.con (.int 3))])))),.frz 3,.ret (.comp (.tup [0,1]) [0,1] (.enum (.var 3)) [] (.tup [(.var 1),(.call 8 [(.var 2),(.bin .Add (.bin .Add (.var 3) (.con (.int 2))) (.var 0)),(.con (.int 4))])]))]
noncomputable def wF:EV.Row:=⟨"_law_heads",top 25,["draws","at"],["draws","at","names","some"],⟨2,4,wM⟩⟩
noncomputable abbrev yV:List C:=[.set (.one 3) (.call 17 [(.var 0),(.con (.int 0))]),.set (.one 4) (.lst [(.con (.str "x")),(.con (.str "xy")),(.con (.str "set")),(.con (.str "abcdefgh")),(.con (.str "end")),(.con (.str "q"))]),.set (.one 5) (.call 8 [(.var 0),(.con (.int 5)),(.con (.int 6))]),.set (.one 6) (.slc (.bin .Add (.slc (.var 4) (some (.var 5)) none) (.slc (.var 4) none (some (.var 5)))) none (some (.var 2))),.set (.one 7) (.con (.int 6)),.set (.one 8) (.lst []),.frz 3,.forr (.tup [9,10]) (.seq (.var 3)) [.frz 3,.frz 6,.set (.tup [11,7]) (.call 16 [(.var 0),(.var 7),(.var 9),(.slc (.var 6) none (some (.var 10))),(.var 6),(.var 3),(.var 1)]),.app 8 (.var 11)],.ret (.bi .tuple [(.var 8)])]
noncomputable def yR:EV.Row:=⟨"_law_program",top 26,["draws","most","many"],["draws","most","many","heads","menu","turn","names","then","errands","its_name","count","its_errand"],⟨3,12,yV⟩⟩
noncomputable abbrev wL:List C:=[.ite (.bi (.isinst .str) [(.var 0)]) [.ret (.lst [(.var 0)])] [],.ite (.bi (.isinst .tuple) [(.var 0)]) [.ret (.bin .Add (.call 19 [(.sub (.var 0) (.con (.int 1)))]) (.call 19 [(.sub (.var 0) (.con (.int 2)))]))] [],.ret (.lst [])]
noncomputable def wD:EV.Row:=⟨"_law_words",top 27,["one"],["one"],⟨1,1,wL⟩⟩
noncomputable abbrev yC:List C:=[.ite (.cmp .Eq (.sub (.var 0) (.con (.int 0))) (.con (.str "set"))) [.ret (.bin .Add (.lst [(.sub (.var 0) (.con (.int 1)))]) (.call 19 [(.sub (.var 0) (.con (.int 2)))]))] [],.ite (.cmp .Eq (.sub (.var 0) (.con (.int 0))) (.con (.str "do"))) [.ret (.bin .Add (.call 21 [(.sub (.var 0) (.con (.int 1)))]) (.call 21 [(.sub (.var 0) (.con (.int 2)))]))] [],.ite (.cmp .Eq (.sub (.var 0) (.con (.int 0))) (.con (.str "try"))) [.set (.one 1) (.comp (.one 0) [] (.seq (.lst [(.sub (.var 0) (.con (.int 2)))])) [(.cmp .IsNot (.var 0) (.con .non))] (.var 0)),.ret (.bin .Add (.bin .Add (.var 1) (.call 21 [(.sub (.var 0) (.con (.int 1)))])) (.call 21 [(.sub (.var 0) (.con (.int 3)))]))] [],.ite (.cmp .Eq (.sub (.var 0) (.con (.int 0))) (.con (.str "want"))) [.set (.one 2) (.lst []),.forr (.tup [3,4,5,6]) (.seq (.sub (.var 0) (.con (.int 2)))) [.set (.one 2) (.bin .Add (.var 2) (.comp (.one 0) [] (.seq (.lst [(.var 3)])) [(.cmp .IsNot (.var 0) (.con .non))] (.var 0))),.forr (.one 7) (.seq (.sub (.lst [(.lst [(.var 6)]),(.var 6)]) (.bi .int [(.cmp .Eq (.var 4) (.con (.str "call")))]))) [.set (.one 2) (.bin .Add (.var 2) (.call 19 [(.var 7)]))]],.ret (.var 2)] [],.set (.one 2) (.call 19 [(.sub (.var 0) (.con (.int 1)))]),.forr (.one 8) (.seq (.slc (.var 0) (some (.con (.int 2))) none)) [.set (.one 2) (.bin .Add (.var 2) (.call 21 [(.var 8)]))],.ret (.var 2)]
noncomputable def yw:EV.Row:=⟨"_law_row_words",top 28,["row"],["row","some","found","its_name","kind","who","given","one","block"],⟨1,9,yC⟩⟩
noncomputable abbrev yl:List C:=[.set (.one 1) (.lst []),.forr (.one 2) (.seq (.var 0)) [.set (.one 1) (.bin .Add (.var 1) (.call 20 [(.var 2)]))],.ret (.var 1)]
noncomputable def yf:EV.Row:=⟨"_law_block_words",top 29,["block"],["block","found","row"],⟨1,3,yl⟩⟩
noncomputable abbrev yU:List C:=[.set (.one 2) (.con (.bl false)),.tri [[0],[1,0],[2,0],[3,0],[4,0]] 6 [(.var 0),(.var 1)] 0 3 [(4,(.or (.is 1) (.or (.is 4) (.one (.is 3))))),(2,(.and (.is 2) (.and .ve (.one (.not (.var 4))))))],.ret (.var 2)]
noncomputable def yQ:EV.Row:=⟨"_law_refused",top 30,["its_program","its_name"],["its_program","its_name","refused","e","others"],⟨2,5,yU⟩⟩
noncomputable abbrev b_law:List C:=[.forr (.one 1) (.seq (.bin .Add (.lst [(.bi .len [(.var 0)])]) (.slc (.var 0) none (some (.con (.int 9)))))) [.set (.one 2) (.call 18 [(.call 7 [(.var 1),(.con (.int 500))]),(.con (.int 24)),(.con (.int 6))]),.set (.one 3) (.comp (.one 0) [] (.seq (.var 2)) [] (.sub (.var 0) (.con (.int 0)))),.forr (.one 4) (.seq (.var 2)) [.set (.one 5) (.call 2 [(.var 4)]),.set (.one 6) (.bin .Add (.bi .list [(.sub (.var 4) (.con (.int 1)))]) (.call 21 [(.sub (.var 4) (.con (.int 2)))])),.frz 6,.ite (.or (.not (.bi (.isinst .tuple) [(.var 5)])) (.one (.cmp .NotEq (.var 5) (.bi .tuple [(.bi .sset [(.var 6)])])))) [.ret (.con (.bl false))] [],.ite (.or (.cmp .NotEq (.callk 2 [0] [(.var 4)]) (.var 5)) (.one (.cmp .NotEq (.callk 6 [1,0] [(.sub (.var 4) (.con (.int 0))),(.var 2)]) (.var 4)))) [.ret (.con (.bl false))] [],.ite (.cmp .NotEq (.call 6 [(.var 2),(.sub (.var 4) (.con (.int 0)))]) (.var 4)) [.ret (.con (.bl false))] []],.forr (.one 7) (.seq (.lst [(.con (.str "m")),(.con (.str "mainp")),(.con (.str "mainpart")),(.con (.str "a")),(.con (.str "ab")),(.con (.str "abc")),(.con (.str "yy")),(.con (.str "x"))])) [.ite (.and (.cmp .NotIn (.var 7) (.var 3)) (.one (.not (.call 22 [(.var 2),(.var 7)])))) [.ret (.con (.bl false))] []]],.ret (.con (.bl true))]
noncomputable def r_law:EV.Row:=⟨"law",top 31,["script"],["script","cell","its_program","heads","its_errand","found","due","its_name"],⟨1,8,b_law⟩⟩
noncomputable def rs:List EV.Row:=[vJ,jX,uD,vH,xq,yF,vI,wG,vL,xu,uE,yS,xF,vK,uF,wH,xx,wF,yR,wD,yw,yf,yQ,r_law]
noncomputable def B:Tb:=⟨["blocks_of","rows_of","names_of","set_names","formulas_of","formula_names","errand_of","_law_draws","_law_draw","_law_number","_law_sum","_law_any_sum","_law_branch","_law_want","_law_row","_law_block","_law_errand","_law_heads","_law_program","_law_words","_law_row_words","_law_block_words","_law_refused","law"],[["row"],["block"],["errand"],["row"],["row"],["one"],["program","name"],["cell","many"],["draws","at","many"],["draws","at"],["draws","at","names","deep"],["draws","at","names"],["draws","at","names","heads"],["draws","at","names","heads"],["draws","at","deep","left","undoing","names","heads"],["draws","at","deep","left","undoing","names","heads"],["draws","at","its_name","params","names","heads","most"],["draws","at"],["draws","most","many"],["one"],["row"],["block"],["its_program","its_name"],["script"]],[],["ValueError","abs","enumerate","int","isinstance","len","list","range","set","sorted","str","tuple"],[(2,["errand"],[0]),(6,["name","program"],[1,0])],[("ErrandError",[0]),("NoText",[1,0]),("NoErrand",[2,0]),("TooMany",[3,0]),("NoRow",[4,0])]⟩
noncomputable def vU:PySem.Program:={ ϧ with main:={ ϧ.main with body:=(((ϧ.main.body).eraseIdx 14).eraseIdx 6).eraseIdx 0 } }
set_option maxRecDepth 100000 in
set_option maxHeartbeats 0 in
theorem zab:W.LeftO PySem.Challenge.rw_errandroom_k03_names_and_errands.prog vU [] (fun s=>W.xlAt vU [] s&&W.recOk [] s) (fun s=>EV.seenT (EV.frOf s.heap 500) B rs) (fun _=>EV.wantT B rs) 8000:=fun w=>by kernel_rfl
end Q03
namespace L2
open PySem PySem.Spec PyProof.Rows
noncomputable def keyIs:Key->δ->Bool
 | .inl k,v=>δ.isInt k v
 | .inr x,v=>dJ x v
noncomputable def keyH (w:ϒ):Key->Int
 | .inl k=>hashInt k
 | .inr x=>hashStr w x
theorem zB:∀ {k:Key}{v:δ},keyIs k v=true->(∃ i t,k=g8 i/\v=ϕ i t)\/(∃ x t,k=fO x/\v=aY x t)
 | .inl i,v,h=>by
  obtain ⟨t,e⟩:=δ.isInt_shape (k:=i) (v:=v) h
  exact .inl ⟨i,t,rfl,e⟩
 | .inr x,v,h=>by
  obtain ⟨t,e⟩:=δ.isStrOf_shape (x:=x) (v:=v) h
  exact .inr ⟨x,t,rfl,e⟩
theorem Wz (i:Int) (t:Tok):keyIs (.inl i) (.int i t)=true:=by simp [keyIs,δ.isInt]
theorem Wy (x:Str) (t:Tok):keyIs (.inr x) (.str x t)=true:=by simp [keyIs,dJ]
theorem zcf (a b:Int):decide ((g8 a:Key)=g8 b)=(a==b):=by
 by_cases e:a=b
 ·subst e;simp
 ·have h:¬ (g8 a:Key)=g8 b:=fun q=>e (g8.inj q)
  rw [decide_eq_false h]
  exact (beq_eq_false_iff_ne.mpr e).symm
theorem zcc (a b:Str):decide ((fO a:Key)=fO b)=decide (a=b):=by
 by_cases e:a=b
 ·subst e;simp
 ·have h:¬ (fO a:Key)=fO b:=fun q=>e (fO.inj q)
  rw [decide_eq_false h,decide_eq_false e]
theorem zce (a:Int) (b:Str):decide ((g8 a:Key)=fO b)=false:=decide_eq_false (fun q=>nomatch q)
theorem zcd (a:Str) (b:Int):decide ((fO a:Key)=g8 b)=false:=decide_eq_false (fun q=>nomatch q)
noncomputable def zP (prog:Μ) (w:ϒ):PySem.KeyKind prog w Key where
 is:=keyIs
 hash:=keyH w
 inj:=fun v a b ha hb=>by
  rcases zB ha with ⟨i,t,rfl,rfl⟩ | ⟨x,t,rfl,rfl⟩
  ·rcases zB hb with ⟨j,u,rfl,e⟩ | ⟨y,u,rfl,e⟩
   ·injection e with e1 _;rw [e1]
   ·exact nomatch e
  ·rcases zB hb with ⟨j,u,rfl,e⟩ | ⟨y,u,rfl,e⟩
   ·exact nomatch e
   ·injection e with e1 _;rw [e1]
 byValue:=fun k v h=>by
  rcases zB h with ⟨i,t,rfl,rfl⟩ | ⟨x,t,rfl,rfl⟩ <;> rfl
 pyHash:=fun hv h=>by
  rcases zB hv with ⟨i,t,rfl,rfl⟩ | ⟨x,t,rfl,rfl⟩
  ·exact wpAny_pyHash_int h
  ·exact wpAny_pyHash_str h
 eqBool:=fun hu hv h=>by
  rcases zB hu with ⟨i,t,rfl,rfl⟩ | ⟨x,t,rfl,rfl⟩
  ·rcases zB hv with ⟨j,u,rfl,rfl⟩ | ⟨y,u,rfl,rfl⟩
   ·rw [zcf] at h;exact wpAny_eqBool_int h
   ·rw [zce] at h;exact ni i t y u _ _ _ _ h
  ·rcases zB hv with ⟨j,u,rfl,rfl⟩ | ⟨y,u,rfl,rfl⟩
   ·rw [zcd] at h;exact m9 x t j u _ _ _ _ h
   ·rw [zcc] at h;exact wpAny_eqBool_str h
 «strs»:=fun k x t v h=>by
  rcases zB h with ⟨i,u,rfl,e⟩ | ⟨y,u,rfl,e⟩
  ·exact nomatch e
  ·injection e with e1 _
   subst e1
   cases v <;> rfl
theorem Za (prog:Μ) (w:ϒ) (i:Int) (t:Tok):(zP prog w).is (.inl i) (.int i t)=true:=Wz i t
theorem qZ (prog:Μ) (w:ϒ) (x:Str) (t:Tok):(zP prog w).is (.inr x) (.str x t)=true:=Wy x t
inductive V where
 | non | bl (b:Bool) | int (i:Int) | str (x:Str) | byt (b:Array UInt8) | flt (b:UInt64) | ref (a:Addr) | ty (n:String)
 deriving DecidableEq
def RelV:V->δ->Prop
 | .non,u=>u=Β
 | .bl b,u=>u=ύ b
 | .int i,u=>∃ t,u=ϕ i t
 | .str x,u=>∃ t,u=aY x t
 | .byt b,u=>∃ t,u=δ.bytes b t
 | .flt b,u=>∃ t,u=δ.float b t
 | .ref a,u=>u=Α a
 | .ty n,u=>u=ώ n
abbrev Vals:List V->List δ->Prop:=eH RelV
theorem Vals.length {xs:List V}{us:List δ}(r:Vals xs us):xs.length=us.length:=mU r
theorem Vals.get:∀ {xs:List V}{us:List δ}{i:Nat}{x:V},Vals xs us->xs[i]?=some x->∃ u,us[i]?=some u/\RelV x u
 | _,_,_,_,.nil,e=>by simp at e
 | _,_,0,_,.cons r _,e=>by simp at e;subst e;exact ⟨_,rfl,r⟩
 | _,_,i+1,x,.cons _ t,e=>by
  obtain ⟨u,h1,h2⟩:=Vals.get (i:=i) (x:=x) t (by simpa using e)
  exact ⟨u,by simpa using h1,h2⟩
theorem Vals.set {x:V}{u:δ}(r:RelV x u):∀ {xs:List V}{us:List δ}(i:Nat),Vals xs us->Vals (xs.set i x) (us.set i u)
 | _,_,_,.nil=>.nil
 | _,_,0,.cons _ t=>.cons r t
 | _,_,i+1,.cons q t=>.cons q (Vals.set r i t)
theorem Vals.append:∀ {xs ys:List V}{us ws:List δ},Vals xs us->Vals ys ws->Vals (xs++ys) (us++ws)
 | _,_,_,_,.nil,s=>s
 | _,_,_,_,.cons r t,s=>.cons r (Vals.append t s)
theorem Vals.take:∀ {xs:List V}{us:List δ}(n:Nat),Vals xs us->Vals (xs.take n) (us.take n)
 | _,_,0,_=>.nil
 | _,_,_+1,.nil=>.nil
 | _,_,n+1,.cons r t=>.cons r (Vals.take n t)
theorem Vals.drop:∀ {xs:List V}{us:List δ}(n:Nat),Vals xs us->Vals (xs.drop n) (us.drop n)
 | _,_,0,r=>r
 | _,_,_+1,.nil=>.nil
 | _,_,n+1,.cons _ t=>Vals.drop n t
def RelO:Option V->Option δ->Prop
 | some v,some u=>RelV v u
 | none,none=>True
 | _,_=>False
def KV {κ:Type}:List (κ×V)->List (κ×δ)->Prop:=eH fun (p:κ×V) (q:κ×δ)=>p.1=q.1/\RelV p.2 q.2
noncomputable def kV:Key->V
 | .inl i=>.int i
 | .inr x=>.str x
inductive HO where
 | lst (xs:List V)
 | tup (xs:List V)
 | dK (kvs:List (Key×V)) | dT (kvs:List (List Key×V))
 | set (S:Int->Bool) (n:Nat)
 | ins (C dx:Addr) (fs:List (Str×V))
 | own (x:Addr)
 | xd (fs:List (Str×V))
 | met (f x:Addr)
 | rng (lo hi:Int)
 | frz (o:Obj) (u:HO)
 | tbl (ps:Array δ)
 | ext (φ:Heap->Prop)
abbrev Hp:=Addr->Option HO
noncomputable def upd (H:Hp) (a:Addr) (o:HO):Hp:=fun b=>if b=a then some o else H b
theorem zm {H:Hp}{a:Addr}{o:HO}:upd H a o a=some o:=by unfold upd;rw [if_pos rfl]
theorem zc {H:Hp}{a b:Addr}{o:HO}(h:b≠a):upd H a o b=H b:=by unfold upd;rw [if_neg h]
theorem ne_of {H:Hp}{a b:Addr}{o u:HO}(h:H a=some o) (h':H b=some u) (d:o≠u):a≠b:=by
 intro e;subst e;rw [h] at h';exact d (ϙ h')
theorem zf {H:Hp}{a b:Addr}{o:HO}(h:H a=some o) (h':H b=none):a≠b:=by
 intro e;subst e;rw [h] at h';cases h'
section
variable (P:Μ) (w:ϒ)
def ObjOk (H:Hp) (h:Heap) (a:Addr):HO->Prop
 | .lst xs=>xs.length<=sizeLine/\∃ (its:List δ) (n:Nat),Vals xs its/\h.get? a=some { cls:=.type "list",data:=.seq its.toArray n }
 | .tup xs=>xs.length<=sizeLine/\∃ its:List δ,Vals xs its/\iR h a its.toArray
 | .dK kvs=>kvs.length<=sizeLine/\(a==eG)=false/\∃ vs,KV kvs vs/\h.DictOf (zP P w) a vs
 | .dT kvs=>kvs.length<=sizeLine/\(a==eG)=false/\∃ xs:List (List Key×Addr×δ),
   eH (fun (p:List Key×V) (q:List Key×Addr×δ)=>p.1=q.1/\H q.2.1=some (.tup (p.1.map kV))/\RelV p.2 q.2.2) kvs xs /\
   ∃ o es ep,h.get? a=some o/\o.ExactDict/\o.data=.dict es ep/\es.toList=xs.map (lU (eF (zP P w)))/\(xs.map (·.1)).Nodup
 | .set S n=>h.SetOf (intKind P w) a S n
 | .ins C dx fs=>H dx=some (.own a)/\fs.length<=1000/\dx≠a/\h.get? a=some (W.instObj C dx) /\
   ∃ mA,h.Ns1 dx mA/\(∀ f,RelO (fs.lookup f) (mA f))/\PySem.Within mA (fs.map (·.1))
 | .own _=>∃ o,h.get? a=some o
 | .xd fs=>∃ mA,h.Ns1 a mA/\∀ f,RelO (fs.lookup f) (mA f)
 | .rng lo hi=>∃ t u v,h.get? a=some { cls:=.type "range",data:=.fields #[.int lo t,.int hi u,.int 1 v] }
 | .frz o u=>h.get? a=some o/\ObjOk H h a u
 | .tbl ps=>h.get? a=some { cls:=.none,data:=.fields ps }
 | .met f x=>h.get? a=some (W.methodObj (.ref f) (.ref x))
 | .ext φ=>φ h/\(∃ o,h.get? a=some o)/\∀ h1 h2:Heap,φ h1->(∀ o,h1.get? a=some o->h2.get? a=some o)->φ h2
def HOk (H:Hp) (h:Heap):Prop:=∀ a o,H a=some o->ObjOk P w H h a o
end
section
variable {P:Μ}{w:ϒ}{H H':Hp}{h h':Heap}{a:Addr}{o:HO}
theorem ObjOk.lt (x:ObjOk P w H h a o):a < h.objs.size:=by
 cases o with
 | lst xs=>obtain ⟨_,_,_,_,e⟩:=x;exact ω e
 | tup xs=>obtain ⟨_,_,_,p⟩:=x;exact p.lt
 | dK kvs=>obtain ⟨_,_,_,_,o,_,_,e,_⟩:=x;exact ω e
 | dT kvs=>obtain ⟨_,_,_,_,o,_,_,e,_⟩:=x;exact ω e
 | set S n=>obtain ⟨o,_,_,_,e,_⟩:=x;exact ω e
 | ins C dx fs=>obtain ⟨_,_,_,e,_⟩:=x;exact ω e
 | own y=>obtain ⟨_,e⟩:=x;exact ω e
 | xd fs=>obtain ⟨_,⟨_,_,_,e,_⟩,_⟩:=x;exact ω e
 | rng lo hi=>obtain ⟨_,_,_,e⟩:=x;exact ω e
 | frz ob u=>obtain ⟨e,_⟩:=x;exact ω e
 | tbl ps=>exact ω (show h.get? a=some _ from x)
 | met f y=>exact ω (show h.get? a=some _ from x)
 | ext φ=>obtain ⟨_,⟨_,e⟩,_⟩:=x;exact ω e
theorem eH.mapP {α β:Type}{F G:α->β->Prop}:∀ {l₁:List α}{l₂:List β},eH F l₁ l₂->(∀ a b,F a b->G a b)->eH G l₁ l₂
 | _,_,.nil,_=>.nil
 | _,_,.cons r t,f=>.cons (f _ _ r) (eH.mapP t f)
theorem ObjOk.stay (x:ObjOk P w H h a o) (k:∀ b u,(b=a\/H b=some (.own a))->h.get? b=some u->h'.get? b=some u)
  (ho:∀ b,H b=some (.own a)->H' b=some (.own a)) (ht:∀ b xs,H b=some (.tup xs)->H' b=some (.tup xs)):ObjOk P w H' h' a o:=by
 induction o with
 | lst xs=>obtain ⟨z,its,n,r,e⟩:=x;exact ⟨z,its,n,r,k _ _ (.inl rfl) e⟩
 | tup xs=>obtain ⟨z,its,r,ob,e,c⟩:=x;exact ⟨z,its,r,ob,k _ _ (.inl rfl) e,c⟩
 | dK kvs=>obtain ⟨z,y,vs,r,ob,es,ep,e,c⟩:=x;exact ⟨z,y,vs,r,ob,es,ep,k _ _ (.inl rfl) e,c⟩
 | dT kvs=>
  obtain ⟨z,y,xs,r,ob,es,ep,e,c⟩:=x
  exact ⟨z,y,xs,eH.mapP r fun p q z=>⟨z.1,ht _ _ z.2.1,z.2.2⟩,ob,es,ep,k _ _ (.inl rfl) e,c⟩
 | set S n=>obtain ⟨ob,es,ep,t,e,c⟩:=x;exact ⟨ob,es,ep,t,k _ _ (.inl rfl) e,c⟩
 | ins C dx fs=>
  obtain ⟨d,z,ne,e,mA,⟨od,es,ep,e2,c⟩,r⟩:=x
  exact ⟨ho _ d,z,ne,k _ _ (.inl rfl) e,mA,⟨od,es,ep,k _ _ (.inr d) e2,c⟩,r⟩
 | own y=>obtain ⟨ob,e⟩:=x;exact ⟨ob,k _ _ (.inl rfl) e⟩
 | xd fs=>obtain ⟨mA,⟨od,es,ep,e,c⟩,r⟩:=x;exact ⟨mA,⟨od,es,ep,k _ _ (.inl rfl) e,c⟩,r⟩
 | rng lo hi=>obtain ⟨t,u,v,e⟩:=x;exact ⟨t,u,v,k _ _ (.inl rfl) e⟩
 | frz ob u ih=>obtain ⟨e,q⟩:=x;exact ⟨k _ _ (.inl rfl) e,ih q⟩
 | tbl ps=>
  have e:h.get? a=some { cls:=.none,data:=.fields ps }:=x
  show h'.get? a=some { cls:=.none,data:=.fields ps }
  exact k a _ (.inl rfl) e
 | met f y=>
  have e:h.get? a=some (W.methodObj (.ref f) (.ref y)):=x
  show h'.get? a=some (W.methodObj (.ref f) (.ref y))
  exact k a _ (.inl rfl) e
 | ext φ=>obtain ⟨p,⟨o,e⟩,st⟩:=x;exact ⟨st _ _ p fun o q=>k _ _ (.inl rfl) q,⟨o,k _ _ (.inl rfl) e⟩,st⟩
theorem HOk.lt (x:HOk P w H h) (e:H a=some o):a < h.objs.size:=(x a o e).lt
theorem HOk.fresh (x:HOk P w H h) (e:h.objs.size<=a):H a=none:=by
 cases q:H a with
 | none=>rfl
 | some u=>exact absurd (ϋ (x.lt q) e) (bT _)
theorem HOk.kept (x:HOk P w H h) (k:∀ b u,h.get? b=some u->h'.get? b=some u):HOk P w H h':=fun a o e=>
 (x a o e).stay (fun b u _ q=>k b u q) (fun _ q=>q) fun _ _ q=>q
theorem HOk.laid (x:HOk P w H h) (k:∀ b u,h.get? b=some u->h'.get? b=some u) (hp:h.objs.size<=a) (new:ObjOk P w (upd H a o) h' a o):HOk P w (upd H a o) h':=fun b u e=>by
 have hn:=x.fresh hp
 by_cases hb:b=a
 ·subst hb;rw [zm] at e;cases e;exact new
 ·rw [zc hb] at e
  exact (x b u e).stay (fun c v _ q=>k c v q) (fun c q=>by rw [zc (zf q hn)];exact q) fun c xs q=>by rw [zc (zf q hn)];exact q
end
def Rd (H:Hp) (a:Addr) (u:HO):Prop:=H a=some u\/∃ o,H a=some (.frz o u)
theorem Rd.of {H:Hp}{a:Addr}{u:HO}(h:H a=some u):Rd H a u:=.inl h
theorem Rd.ok {P:Μ}{w:ϒ}{H:Hp}{h:Heap}{a:Addr}{u:HO}(r:Rd H a u) (x:HOk P w H h):ObjOk P w H h a u:=by
 rcases r with r | ⟨o,r⟩
 ·exact x a u r
 ·obtain ⟨_,q⟩:=x a _ r
  exact q
def Mut:Option HO->Prop
 | some (.lst _)=>True
 | some (.dK _)=>True
 | some (.dT _)=>True
 | some (.set _ _)=>True
 | some (.ins _ _ _)=>True
 | some (.ext _)=>True
 | _=>False
section
variable {P:Μ}{w:ϒ}{H:Hp}{h h':Heap}{x e:Addr}{o':HO}
theorem HOk.write (ok:HOk P w H h) (mu:Mut (H x)) (he:e=x\/H e=some (.own x)) (k:∀ b u,b≠e->h.get? b=some u->h'.get? b=some u) (heo:∃ u,h'.get? e=some u)
  (new:ObjOk P w (upd H x o') h' x o'):HOk P w (upd H x o') h':=fun b u q=>by
 have nown:∀ c y,H c=some (.own y)->c≠x:=fun c y r z=>by subst z;rw [r] at mu;exact mu
 have ntup:∀ c xs,H c=some (.tup xs)->c≠x:=fun c xs r z=>by subst z;rw [r] at mu;exact mu
 by_cases hb:b=x
 ·subst hb;rw [zm] at q;cases q;exact new
 ·rw [zc hb] at q
  by_cases hbe:b=e
  ·have q':H b=some (.own x):=by
    rcases he with z | z
    ·exact absurd (hbe.trans z) hb
    ·rw [hbe];exact z
   rw [q] at q';cases q'
   obtain ⟨v,hv⟩:=heo
   exact ⟨v,by rw [hbe];exact hv⟩
  ·refine (ok b u q).stay (fun c v hc r=>k c v ?_ r) (fun c r=>by rw [zc (nown c b r)];exact r) fun c xs r=>by rw [zc (ntup c xs r)];exact r
   rcases hc with rfl | hc
   ·exact hbe
   ·rintro rfl
    rcases he with z | z
    ·exact nown c b hc z
    ·rw [hc] at z;cases z;exact hb rfl
end
structure Un (fs ex:List Addr) (H H':Hp) (h h':Heap):Prop where
 keep:∀ b o,h.get? b=some o->H b=none->b ∉ fs->b ∉ ex->h'.get? b=some o
 slot:∀ b o,h.get? b=some o->H b=none->b∈fs->b ∉ ex->∃ sl,h'.get? b=some { o with slots:=sl }
 free:∀ b o,h.get? b=some o->H b=none->b ∉ ex->H' b=none
 there:∀ b o,h.get? b=some o->b ∉ ex->∃ o',h'.get? b=some o'
 tups:∀ b xs,H b=some (.tup xs)->H' b=some (.tup xs)
 frzs:∀ b o u,H b=some (.frz o u)->H' b=some (.frz o u)
 tbls:∀ b ps,H b=some (.tbl ps)->∃ more,H' b=some (.tbl (ps++more))
section
variable {fs fs' ex ex':List Addr}{H H1 H2:Hp}{h h1 h2 h':Heap}{a x e:Addr}{o:HO}
theorem Un.any (u:Un fs ex H H1 h h1) {b:Addr}{ob:Obj}(q:h.get? b=some ob) (n:H b=none) (hx:b ∉ ex):∃ sl,h1.get? b=some { ob with slots:=sl }:=by
 by_cases hb:b∈fs
 ·exact u.slot b ob q n hb hx
 ·exact ⟨ob.slots,u.keep b ob q n hb hx⟩
theorem Un.trans (a:Un fs ex H H1 h h1) (b:Un fs ex H1 H2 h1 h2):Un fs ex H H2 h h2 where
 keep:=fun c ob q n hc hx=>b.keep c ob (a.keep c ob q n hc hx) (a.free c ob q n hx) hc hx
 slot:=fun c ob q n hc hx=>by
  obtain ⟨sl,e1⟩:=a.slot c ob q n hc hx
  obtain ⟨sl',e2⟩:=b.slot c _ e1 (a.free c ob q n hx) hc hx
  exact ⟨sl',e2⟩
 free:=fun c ob q n hx=>by
  obtain ⟨o',e1⟩:=a.there c ob q hx
  exact b.free c o' e1 (a.free c ob q n hx) hx
 there:=fun c ob q hx=>by
  obtain ⟨o',e1⟩:=a.there c ob q hx
  exact b.there c o' e1 hx
 tups:=fun c xs q=>b.tups c xs (a.tups c xs q)
 frzs:=fun c ob xs q=>b.frzs c ob xs (a.frzs c ob xs q)
 tbls:=fun c ps q=>by
  obtain ⟨m1,e1⟩:=a.tbls c ps q
  obtain ⟨m2,e2⟩:=b.tbls c _ e1
  exact ⟨m1++m2,by rw [e2,oZ]⟩
theorem Un.kept (k:∀ b u,h.get? b=some u->h'.get? b=some u):Un fs ex H H h h':=
 ⟨fun b ob q _ _ _=>k b ob q,fun b ob q _ _ _=>⟨ob.slots,k b ob q⟩,fun _ _ _ n _=>n,fun b ob q _=>⟨ob,k b ob q⟩,fun _ _ q=>q,fun _ _ _ q=>q,fun _ ps q=>⟨#[],by rw [q];simp⟩⟩
theorem Un.refl:Un fs ex H H h h:=Un.kept fun _ _ q=>q
theorem Un.laid (k:∀ b u,h.get? b=some u->h'.get? b=some u) (hp:h.objs.size<=a) (hn:H a=none):Un fs ex H (upd H a o) h h' where
 keep:=fun b u q _ _ _=>k b u q
 slot:=fun b u q _ _ _=>⟨u.slots,k b u q⟩
 free:=fun b u q n _=>by rw [zc (Υ (ϋ (ω q) hp))];exact n
 there:=fun b u q _=>⟨u,k b u q⟩
 tups:=fun b xs q=>by rw [zc (zf q hn)];exact q
 frzs:=fun b u xs q=>by rw [zc (zf q hn)];exact q
 tbls:=fun b ps q=>⟨#[],by rw [zc (zf q hn),q];simp⟩
theorem Un.write (mu:Mut (H x)) (he:e=x\/H e=some (.own x)) (k:∀ b u,b≠e->h.get? b=some u->h'.get? b=some u) (heo:∃ u,h'.get? e=some u):Un fs ex H (upd H x o) h h':=by
 have hx:∀ b,H b=none->b≠x:=fun b n z=>by subst z;rw [n] at mu;exact mu
 have hb:∀ b,H b=none->b≠e:=fun b n z=>by
  subst z
  rcases he with r | r
  ·exact hx b n r
  ·rw [n] at r;cases r
 have hm:∀ b u,H b=some u->¬ Mut (some u)->b≠x:=fun b u q nm z=>by subst z;rw [q] at mu;exact nm mu
 refine ⟨fun b u q n _ _=>k b u (hb b n) q,fun b u q n _ _=>⟨u.slots,k b u (hb b n) q⟩,fun b u q n _=>by rw [zc (hx b n)];exact n,fun b u q _=>?_,
  fun b xs q=>by rw [zc (hm b _ q fun z=>z)];exact q,fun b u xs q=>by rw [zc (hm b _ q fun z=>z)];exact q,fun b ps q=>⟨#[],by rw [zc (hm b _ q fun z=>z),q];simp⟩⟩
 by_cases hbe:b=e
 ·subst hbe;exact heo
 ·exact ⟨u,k b u hbe q⟩
theorem Un.mono (u:Un fs ex H H1 h h1) (hs:∀ b∈fs,b∈fs') (hx:∀ b∈ex,b∈ex'):Un fs' ex' H H1 h h1:=
 ⟨fun b ob q n hb he=>u.keep b ob q n (fun z=>hb (hs b z)) fun z=>he (hx b z),fun _ _ q n _ he=>u.any q n fun z=>he (hx _ z),fun b ob q n he=>u.free b ob q n fun z=>he (hx b z),fun b ob q he=>u.there b ob q fun z=>he (hx b z),u.tups,u.frzs,u.tbls⟩
end
noncomputable def trk (h:Heap) (H:Hp):List Addr:=(ϵ h.objs.size).filter fun a=>(H a).isSome
noncomputable def hidT (h:Heap) (H:Hp):Heap:=W.hideAll h (trk h H)
theorem W0 (h:Heap) (H:Hp):(hidT h H).objs.size=h.objs.size:=W.hideAll_size _ _
theorem U6 {h:Heap}{H:Hp}{b:Addr}{o:Obj}(e:h.get? b=some o) (n:H b=none):(hidT h H).get? b=some o:=
 W.hideAll_get _ e fun hm=>by
  have q:(H b).isSome=true:=(List.mem_filter.mp hm).2
  rw [n] at q;simp at q
theorem QR {h:Heap}{H:Hp}{b:Addr}{o:Obj}(e:(hidT h H).get? b=some o):h.get? b=some o/\H b=none:=by
 have e':h.get? b=some o:=W.of_hideAll (trk h H) e
 refine ⟨e',?_⟩
 cases q:H b with
 | none=>rfl
 | some x=>
  have hm:b∈trk h H:=List.mem_filter.mpr ⟨bG.mpr (ω e'),by simp [q]⟩
  have z:(hidT h H).get? b=none:=W.hideAll_none (trk h H) hm
  rw [z] at e;cases e
noncomputable def zaO (g h:Heap) (L:Addr):List (Addr×Obj):=(ϵ h.objs.size).filterMap fun a=>if a=L\/(g.get? a).isSome=true then none else (h.get? a).map fun o=>(a,o)
noncomputable def rest (g h:Heap) (L d:Addr):List (Addr×Obj):=(zaO g h L).filter fun p=>decide (p.1≠d)
structure Mod (K:W.Frag) (mg:Str->Option δ) (base:Heap):Prop where
 kin:K.In base
 glob:base.Ns Ψ mg
 blt:∃ mb,base.Ns builtinsNs mb/\∀ x:Str,x≠"__name__"->mb x=cG x
 nolimit:base.NoLimit
structure Cx where
 prog:Μ
 w:ϒ
 K:W.Frag
 mg:Str->Option δ
 base:Heap
 A:ϑ
 N:List Str
 sy:μ
 Hz:Hp
 env:Env
 outer:List Env
 stack:List Env
 ex:List Addr
 fn:Str->Bool
 calm:Bool
 pn:List (Addr×Obj)
 xe:δ->μ->Prop
noncomputable def frs (l:List Env):List Addr:=l.filterMap (·.frame)
noncomputable abbrev Cx.fs (X:Cx):List Addr:=frs X.outer
def Vis (sc:dD) (x:Str):Prop:=sc.names.lookup x=some .local\/sc.names.lookup x=some .cell\/sc.names.lookup x=some .free
def Loc (sc:dD) (x:Str):Prop:=sc.names.lookup x=some .local\/sc.names.lookup x=some .cell
def Look (env:Env) (h:Heap) (m:Str->Option δ) (x:Str) (u:δ):Prop:=
 (env.kindOf x=some .local/\m x=some u)\/((env.kindOf x=some .cell\/env.kindOf x=some .free)/\∃ c,env.cells.lookup x=some c/\h.IsCell c (some u))
structure Cx.Ok (X:Cx):Prop where
 mod:Mod X.K X.mg X.base
 kind:X.env.scope.kind=.function
 glob:X.env.globals=Ψ
 blt:X.env.builtins=builtinsNs
 above:X.sy.heap.objs.size<=X.env.locals
 inj:∀ x y c,X.env.cells.lookup x=some c->X.env.cells.lookup y=some c->x=y
 has:∀ x,(X.env.kindOf x=some .cell\/X.env.kindOf x=some .free)->∃ c,X.env.cells.lookup x=some c
 cab:∀ x c,X.fn x=true->X.env.cells.lookup x=some c->X.sy.heap.objs.size<=c
 hd:X.calm=true->X.A.handled=none
 frames:X.A.frames=some X.stack
 stk:X.stack=X.outer\/(X.stack=X.env::X.outer/\X.env.frame=some X.env.locals)
 exf:∀ b∈X.ex,b≠X.env.locals/\∀ x c,X.env.cells.lookup x=some c->c≠b
 bs:∀ b o,X.base.get? b=some o->X.sy.heap.get? b=some o/\X.Hz b=none
 bsz:X.base.objs.size<=X.sy.heap.objs.size
 noex:∀ b o,X.base.get? b=some o->b ∉ X.ex
 exfs:∀ b∈X.ex,b ∉ X.fs
 funs:X.sy.heap.FunFrames X.base X.outer
 frf:∀ b∈X.fs,X.Hz b=none
structure Inv (X:Cx) (pJ:List (Addr×Obj)) (σ:List (Option V)) (H:Hp) (s:μ):Prop where
 ok:X.Ok
 os:s.os=X.sy.os
 bare:gk s.gens
 base:Un X.fs X.ex X.Hz H X.sy.heap s.heap
 loc:∃ m,s.heap.Ns X.env.locals m/\∀ (i:Nat) (x:Str) (v:V),X.N[i]?=some x->σ[i]?=some (some v)->Vis X.env.scope x->∃ u,RelV v u/\Look X.env s.heap m x u
 cell:∀ x c,X.env.cells.lookup x=some c->∃ v,s.heap.IsCell c v
 free:H X.env.locals=none
 freeC:∀ x c,X.env.cells.lookup x=some c->H c=none
 pin:∀ p∈X.pn++pJ,s.heap.get? p.1=some p.2/\H p.1=none/\p.1≠X.env.locals/\p.1 ∉ X.fs/\∀ v,p.2.data≠.cell v
 hok:HOk X.prog X.w H s.heap
 len:σ.length=X.N.length
section
variable {X:Cx}{pJ:List (Addr×Obj)}{σ:List (Option V)}{H H':Hp}{s:μ}{h':Heap}
theorem Cx.Ok.nofr (ok:X.Ok) {b:Addr}{o:Obj}(e:X.base.get? b=some o):b ∉ X.fs:=fun hb=>by
 have:=(ok.funs.mem hb).1
 rw [e] at this;cases this
theorem Inv.bs (I:Inv X pJ σ H s):∀ b o,X.base.get? b=some o->s.heap.get? b=some o/\H b=none:=fun b o e=>
 ⟨I.base.keep b o (I.ok.bs b o e).1 (I.ok.bs b o e).2 (I.ok.nofr e) (I.ok.noex b o e),I.base.free b o (I.ok.bs b o e).1 (I.ok.bs b o e).2 (I.ok.noex b o e)⟩
theorem Inv.bk (I:Inv X pJ σ H s):∀ b o,X.base.get? b=some o->s.heap.get? b=some o:=fun b o e=>(I.bs b o e).1
theorem Inv.mod (I:Inv X pJ σ H s):Mod X.K X.mg X.base:=I.ok.mod
theorem Inv.kIn (I:Inv X pJ σ H s):X.K.In s.heap:=I.ok.mod.kin.keeps I.bk
theorem Inv.fr (I:Inv X pJ σ H s):∃ m,Fr X.base X.env.locals s.heap m:=
 let ⟨m,hn,_⟩:=I.loc
 ⟨m,hn,I.bk,ϣ I.ok.bsz I.ok.above⟩
theorem Inv.lt (I:Inv X pJ σ H s):X.env.locals < s.heap.objs.size:=let ⟨_,hn,_⟩:=I.loc;hn.lt
theorem Inv.sz (I:Inv X pJ σ H s):X.sy.heap.objs.size<=s.heap.objs.size:=ϣ I.ok.above (gq I.lt)
theorem Inv.nofs (I:Inv X pJ σ H s) {a:Addr}(h:s.heap.objs.size<=a):a ∉ X.fs:=fun hb=>by
 obtain ⟨_,o,ho,_⟩:=I.ok.funs.mem hb
 exact absurd (ϋ (ω ho) (ϣ I.sz h)) (bT _)
theorem Inv.cne (I:Inv X pJ σ H s):∀ x c,X.env.cells.lookup x=some c->c≠X.env.locals:=fun x c e z=>by
 obtain ⟨v,o,ho,hd⟩:=I.cell x c e
 obtain ⟨m,⟨o',es,ep,ho',hd',_⟩,_⟩:=I.loc
 rw [z,ho'] at ho;cases ho;rw [hd'] at hd;cases hd
theorem Inv.funs (I:Inv X pJ σ H s):s.heap.FunFrames X.base X.outer:=by
 have all:∀ (l:List Env),(∀ b∈frs l,b∈X.fs)->X.sy.heap.FunFrames X.base l->s.heap.FunFrames X.base l:=by
  intro l
  induction l with
  | nil=>intro _ _;trivial
  | cons env r ih=>
   intro hs hl
   obtain ⟨hk,⟨L,o,hf,hn,ho,hd⟩,hr⟩:=hl
   have hL:L∈X.fs:=hs L (by unfold frs;rw [bV,hf];exact ι)
   obtain ⟨sl,e⟩:=I.base.slot L o ho (I.ok.frf L hL) hL fun z=>I.ok.exfs L z hL
   exact ⟨hk,⟨L,_,hf,hn,e,hd⟩,ih (fun b hb=>hs b (by unfold frs;rw [bV,hf];exact θ _ hb)) hr⟩
 exact all X.outer (fun _ hb=>hb) I.ok.funs
theorem Inv.stack (I:Inv X pJ σ H s):s.heap.FunFrames X.base X.stack:=by
 rcases I.ok.stk with e | ⟨e,hf⟩
 ·rw [e];exact I.funs
 ·rw [e]
  obtain ⟨m,hn,_⟩:=I.loc
  refine .cons (by rw [I.ok.kind];decide) hf hn ?_ I.funs
  exact gK (ϣ I.ok.bsz I.ok.above)
theorem Inv.ZL (I:Inv X pJ σ H s):∀ b∈frs X.stack,b∈X.env.locals::X.fs:=fun b hb=>by
 rcases I.ok.stk with e | ⟨e,hf⟩
 ·rw [e] at hb;exact θ _ hb
 ·rw [e] at hb
  unfold frs at hb
  rw [bV,hf] at hb
  exact hb
theorem Inv.u6 (I:Inv X pJ σ H s):∀ b∈frs X.stack,H b=none:=fun b hb=>by
 rcases Δ.mp (I.ZL b hb) with e | hb
 ·rw [e];exact I.free
 ·obtain ⟨_,o,ho,_⟩:=I.ok.funs.mem hb
  exact I.base.free b o ho (I.ok.frf b hb) fun z=>I.ok.exfs b z hb
theorem Inv.step {g':Array iT}{t':Nat}{d':Drawn}{ch:List Addr}(I:Inv X pJ σ H s)
  (hch:∀ b∈ch,(b∈X.ex\/X.sy.heap.objs.size<=b)/\b≠X.env.locals/\(∀ x c,X.env.cells.lookup x=some c->c≠b)/\∀ p∈X.pn++pJ,p.1≠b)
  (keep:∀ b o,b≠X.env.locals->b ∉ X.fs->b ∉ ch->s.heap.get? b=some o->H b=none->h'.get? b=some o)
  (slot:∀ b o,b≠X.env.locals->b∈X.fs->b ∉ ch->s.heap.get? b=some o->H b=none->∃ sl,h'.get? b=some { o with slots:=sl }) (free:∀ b o,b ∉ ch->s.heap.get? b=some o->H b=none->H' b=none)
  (there:∀ b o,b ∉ ch->s.heap.get? b=some o->∃ o',h'.get? b=some o')
  (tups:∀ b xs,H b=some (.tup xs)->H' b=some (.tup xs)) (frzs:∀ b o u,H b=some (.frz o u)->H' b=some (.frz o u)) (tbls:∀ b ps,H b=some (.tbl ps)->∃ more,H' b=some (.tbl (ps++more)))
  (ns:∀ m,s.heap.Ns X.env.locals m->h'.Ns X.env.locals m) (hok:HOk X.prog X.w H' h') (hg:gk g'):
  Inv X pJ σ H' { s with heap:=h',gens:=g',drawn:=d',toks:=t' }:=by
 have neL:∀ b o,X.sy.heap.get? b=some o->b≠X.env.locals:=fun b o e=>Υ (ϋ (ω e) I.ok.above)
 have neC:∀ b o,X.sy.heap.get? b=some o->b ∉ X.ex->b ∉ ch:=fun b o e hx hb=>by
  rcases (hch b hb).1 with z | z
  ·exact hx z
  ·exact absurd (ϋ (ω e) z) (bT _)
 have cellK:∀ x c,X.env.cells.lookup x=some c->∀ v,s.heap.IsCell c v->h'.IsCell c v:=fun x c e v ⟨o,ho,hd⟩=>by
  have nch:c ∉ ch:=fun z=>(hch c z).2.2.1 x c e rfl
  by_cases hc:c∈X.fs
  ·obtain ⟨sl,q⟩:=slot c o (I.cne x c e) hc nch ho (I.freeC x c e)
   exact ⟨_,q,hd⟩
  ·exact ⟨o,keep c o (I.cne x c e) hc nch ho (I.freeC x c e),hd⟩
 refine ⟨I.ok,I.os,hg,⟨fun b o e n hb hx=>?_,fun b o e n hb hx=>?_,fun b o e n hx=>?_,fun b o e hx=>?_,fun b xs e=>tups b xs (I.base.tups b xs e),fun b o xs e=>frzs b o xs (I.base.frzs b o xs e),fun b ps e=>?_⟩,?_,fun x c e=>?_,?_,fun x c e=>?_,fun p hp=>?_,hok,I.len⟩
 ·exact keep b o (neL b o e) hb (neC b o e hx) (I.base.keep b o e n hb hx) (I.base.free b o e n hx)
 ·obtain ⟨sl,e1⟩:=I.base.slot b o e n hb hx
  obtain ⟨sl',e2⟩:=slot b _ (neL b o e) hb (neC b o e hx) e1 (I.base.free b o e n hx)
  exact ⟨sl',e2⟩
 ·obtain ⟨o',e1⟩:=I.base.there b o e hx
  exact free b o' (neC b o e hx) e1 (I.base.free b o e n hx)
 ·obtain ⟨o',e1⟩:=I.base.there b o e hx
  exact there b o' (neC b o e hx) e1
 ·obtain ⟨m1,e1⟩:=I.base.tbls b ps e
  obtain ⟨m2,e2⟩:=tbls b _ e1
  exact ⟨m1++m2,by rw [e2,oZ]⟩
 ·obtain ⟨m,hn,hl⟩:=I.loc
  refine ⟨m,ns m hn,fun i x v e1 e2 e3=>?_⟩
  obtain ⟨u,r,l⟩:=hl i x v e1 e2 e3
  refine ⟨u,r,?_⟩
  rcases l with l | ⟨k,c,e,z⟩
  ·exact .inl l
  ·exact .inr ⟨k,c,e,cellK x c e _ z⟩
 ·obtain ⟨v,z⟩:=I.cell x c e
  exact ⟨v,cellK x c e v z⟩
 ·obtain ⟨m,⟨o,_,_,ho,_⟩,_⟩:=I.loc
  exact free _ o (fun z=>(hch _ z).2.1 rfl) ho I.free
 ·obtain ⟨v,o,ho,hd⟩:=I.cell x c e
  exact free c o (fun z=>(hch c z).2.2.1 x c e rfl) ho (I.freeC x c e)
 ·obtain ⟨e,n,ne,nf,d⟩:=I.pin p hp
  have nch:p.1 ∉ ch:=fun z=>(hch p.1 z).2.2.2 p hp rfl
  exact ⟨keep p.1 p.2 ne nf nch e n,free p.1 p.2 nch e n,ne,nf,d⟩
theorem Inv.un {t':Nat}(I:Inv X pJ σ H s) (u:Un X.fs [] H H' s.heap h') (hok:HOk X.prog X.w H' h'):Inv X pJ σ H' { s with heap:=h',toks:=t' }:=by
 obtain ⟨m,⟨o,es,ep,ho,r⟩,_⟩:=id I.loc
 obtain ⟨sl,hL⟩:=u.any ho I.free (by simp)
 exact I.step (g':=s.gens) (d':=s.drawn) (ch:=[]) (fun _ z=>nomatch z) (fun b o _ hb _ e n=>u.keep b o e n hb (by simp)) (fun b o _ hb _ e n=>u.slot b o e n hb (by simp)) (fun b o _ e n=>u.free b o e n (by simp)) (fun b o _ e=>u.there b o e (by simp)) u.tups u.frzs u.tbls (fun m' hm=>by
  obtain ⟨o',es',ep',ho',r'⟩:=hm
  rw [ho] at ho';cases ho'
  exact ⟨_,es',ep',hL,r'⟩) hok I.bare
theorem Inv.call {g':Array iT}{t':Nat}{d':Drawn}{ch:List Addr}(I:Inv X pJ σ H s) (u:Un (frs X.stack) ch H H' s.heap h') (hok:HOk X.prog X.w H' h') (hg:gk g')
  (hch:∀ b∈ch,(b∈X.ex\/X.sy.heap.objs.size<=b)/\b≠X.env.locals/\(∀ x c,X.env.cells.lookup x=some c->c≠b)/\∀ p∈X.pn++pJ,p.1≠b):
  Inv X pJ σ H' { s with heap:=h',gens:=g',drawn:=d',toks:=t' }:=by
 obtain ⟨m,⟨o,es,ep,ho,r⟩,_⟩:=id I.loc
 obtain ⟨sl,hL⟩:=u.any ho I.free fun z=>(hch _ z).2.1 rfl
 exact I.step (ch:=ch) hch (fun b o hL hb hc e n=>u.keep b o e n (fun z=>(Δ.mp (I.ZL b z)).elim hL hb) hc) (fun b o _ _ hc e n=>u.any e n hc) (fun b o hc e n=>u.free b o e n hc) (fun b o hc e=>u.there b o e hc) u.tups u.frzs u.tbls (fun m' hm=>by
  obtain ⟨o',es',ep',ho',r'⟩:=hm
  rw [ho] at ho';cases ho'
  exact ⟨_,es',ep',hL,r'⟩) hok hg
theorem Inv.turned {t':Nat}{it:Addr}(I:Inv X pJ σ H s) (k:∀ b o,b≠it->s.heap.get? b=some o->h'.get? b=some o) (hn:H it=none) (hL:it≠X.env.locals)
  (h1:it∈X.ex\/X.sy.heap.objs.size<=it) (h2:∀ x c,X.env.cells.lookup x=some c->c≠it) (h3:∀ p∈X.pn++pJ,p.1≠it):Inv X pJ σ H { s with heap:=h',toks:=t' }:=by
 have nit:∀ b u,H b=some u->b≠it:=fun b u e z=>by rw [z,hn] at e;cases e
 refine I.step (g':=s.gens) (d':=s.drawn) (ch:=[it]) (fun b hb=>?_) (fun b o _ _ hc e _=>k b o (fun z=>hc (by simp [z])) e) (fun b o _ _ hc e _=>⟨o.slots,k b o (fun z=>hc (by simp [z])) e⟩) (fun _ _ _ _ n=>n)
  (fun b o hc e=>⟨o,k b o (fun z=>hc (by simp [z])) e⟩) (fun _ _ e=>e) (fun _ _ _ e=>e) (fun b ps e=>⟨#[],by rw [e];simp⟩) (fun m hm=>?_) (fun b u e=>?_) I.bare
 ·have e:b=it:=by simpa using hb
  subst e
  exact ⟨h1,hL,h2,h3⟩
 ·obtain ⟨o,es,ep,ho,r⟩:=hm
  exact ⟨o,es,ep,k _ o (d8 hL) ho,r⟩
 ·refine (I.hok b u e).stay (fun c v hc q=>k c v ?_ q) (fun _ q=>q) fun _ _ q=>q
  rcases hc with z | z
  ·rw [z];exact nit b u e
  ·exact nit c _ z
theorem Inv.tok (I:Inv X pJ σ H s) (t:Nat):Inv X pJ σ H { s with toks:=t }:=I.un (h':=s.heap) (t':=t) Un.refl I.hok
theorem Inv.kept {t':Nat}(I:Inv X pJ σ H s) (k:∀ b u,s.heap.get? b=some u->h'.get? b=some u):Inv X pJ σ H { s with heap:=h',toks:=t' }:=I.un (Un.kept k) (I.hok.kept k)
theorem Inv.laid {a:Addr}{o:HO}{t':Nat}(I:Inv X pJ σ H s) (k:∀ b u,s.heap.get? b=some u->h'.get? b=some u) (hp:s.heap.objs.size<=a) (new:ObjOk X.prog X.w (upd H a o) h' a o):
  Inv X pJ σ (upd H a o) { s with heap:=h',toks:=t' }:=I.un (Un.laid k hp (I.hok.fresh hp)) (I.hok.laid k hp new)
theorem Inv.write {x e:Addr}{o:HO}{t':Nat}(I:Inv X pJ σ H s) (mu:Mut (H x)) (he:e=x\/H e=some (.own x)) (k:∀ b u,b≠e->s.heap.get? b=some u->h'.get? b=some u) (heo:∃ u,h'.get? e=some u)
  (new:ObjOk X.prog X.w (upd H x o) h' x o):Inv X pJ σ (upd H x o) { s with heap:=h',toks:=t' }:=I.un (Un.write mu he k heo) (I.hok.write mu he k heo new)
theorem Inv.qR {pins':List (Addr×Obj)}(I:Inv X pJ σ H s) (h:∀ p∈pins',s.heap.get? p.1=some p.2/\H p.1=none/\p.1≠X.env.locals/\p.1 ∉ X.fs/\∀ v,p.2.data≠.cell v):Inv X pins' σ H s:=
 ⟨I.ok,I.os,I.bare,I.base,I.loc,I.cell,I.free,I.freeC,fun p hp=>(Η.mp hp).elim (fun z=>I.pin p (oN _ z)) (h p),I.hok,I.len⟩
theorem jk {N:List Str}(hN:N.Nodup) {i j:Nat}{x:Str}(a:N[i]?=some x) (b:N[j]?=some x):i=j:=by
 obtain ⟨h1,e1⟩:=Θ.mp a
 obtain ⟨h2,e2⟩:=Θ.mp b
 exact (List.getElem_inj hN).mp (e1.trans e2.symm)
theorem Xl {M:Model}{A:ϑ}{E:VSP}{i:Nat}{x:Str}{v:V}{u:δ}{Q:Unit->μ->Prop}(I:Inv X pJ σ H s) (hN:X.N.Nodup) (hi:X.N[i]?=some x) (hx:Loc X.env.scope x) (r:RelV v u)
  (h:∀ s',Inv X pJ (σ.set i (some v)) H s'->(∃ a,ό a s.heap s'.heap/\(a=X.env.locals\/X.env.cells.lookup x=some a))->Q () s') (hf:X.fn x=true\/X.env.scope.names.lookup x=some .local:=by first | exact .inl rfl | exact .inr rfl | assumption):ψ M A (storeName X.env x u) Q E s:=by
 obtain ⟨m,hn,hl⟩:=id I.loc
 have hcls:(X.env.scope.kind==.class||(X.env.scope.kind==.module&&X.env.locals != X.env.globals))=false:=by rw [I.ok.kind];rfl
 have hiσ:i < σ.length:=by rw [I.len];exact (Θ.mp hi).1
 have cne:=I.cne
 have tracked:∀ {a:Addr}{h':Heap},(∃ o,s.heap.get? a=some o/\H a=none)->ό a s.heap h'->HOk X.prog X.w H h':=fun {a h'} ha hs b ob e=>by
  obtain ⟨_,_,hfree⟩:=ha
  refine (I.hok b ob e).stay (fun c w' hc q=>(hs.2 c ?_).trans q) (fun _ q=>q) fun _ _ q=>q
  rintro rfl
  rcases hc with rfl | hc
  ·rw [hfree] at e;cases e
  ·rw [hfree] at hc;cases hc
 rcases hx with hk | hk
 ·refine wpAny_storeName_local hk hn (fun h' hn' hs=>?_) hcls
  obtain ⟨oL,_,_,hoL,_⟩:=id hn
  refine h _ ⟨I.ok,I.os,I.bare,⟨fun b o e n hb hx=>?_,fun b o e n hb hx=>?_,I.base.free,fun b o e hx=>?_,I.base.tups,I.base.frzs,I.base.tbls⟩,⟨_,hn',fun j y v' e1 e2 e3=>?_⟩,fun y c e=>?_,I.free,I.freeC,fun p hp=>?_,tracked ⟨oL,hoL,I.free⟩ hs,by simpa using I.len⟩ ⟨_,hs,.inl rfl⟩
  ·exact (hs.2 b (Υ (ϋ (ω e) I.ok.above))).trans (I.base.keep b o e n hb hx)
  ·obtain ⟨sl,e1⟩:=I.base.slot b o e n hb hx
   exact ⟨sl,(hs.2 b (Υ (ϋ (ω e) I.ok.above))).trans e1⟩
  ·obtain ⟨o',e1⟩:=I.base.there b o e hx
   exact ⟨o',(hs.2 b (Υ (ϋ (ω e) I.ok.above))).trans e1⟩
  ·by_cases hj:j=i
   ·subst hj
    rw [hi] at e1;cases e1
    rw [Ϛ hiσ] at e2
    cases e2
    exact ⟨u,r,.inl ⟨hk,by simp⟩⟩
   ·rw [Ε (d8 hj)] at e2
    obtain ⟨u',r',q⟩:=hl j y v' e1 e2 e3
    refine ⟨u',r',?_⟩
    rcases q with ⟨k,e⟩ | ⟨k,c,e,z⟩
    ·refine .inl ⟨k,?_⟩
     have:y≠x:=fun e=>hj (jk hN e1 (e ▸ hi))
     simp [this,e]
    ·exact .inr ⟨k,c,e,z.sameBut hs (cne y c e)⟩
  ·obtain ⟨w',z⟩:=I.cell y c e
   exact ⟨w',z.sameBut hs (cne y c e)⟩
  ·obtain ⟨e,n,ne,nf,d⟩:=I.pin p hp
   exact ⟨(hs.2 p.1 ne).trans e,n,ne,nf,d⟩
 ·have hfn:X.fn x=true:=by
   rcases hf with z | z
   ·exact z
   ·rw [z] at hk;cases hk
  obtain ⟨c,hc⟩:=I.ok.has x (.inl hk)
  obtain ⟨w',z⟩:=I.cell x c hc
  refine wpAny_storeName_cell I.ok.kind hk hc z (fun h' hc' hs=>?_)
  obtain ⟨oc,hoc,hocd⟩:=id z
  refine h { s with heap:=h' } ⟨I.ok,I.os,I.bare,⟨fun b o e n hb hx=>?_,fun b o e n hb hx=>?_,I.base.free,fun b o e hx=>?_,I.base.tups,I.base.frzs,I.base.tbls⟩,⟨m,hn.sameBut hs (d8 (cne x c hc)),fun j y v' e1 e2 e3=>?_⟩,fun y c' e=>?_,I.free,I.freeC,fun p hp=>?_,tracked ⟨oc,hoc,I.freeC x c hc⟩ hs,by simpa using I.len⟩ ⟨c,hs,.inr hc⟩
  ·exact (hs.2 b (Υ (ϋ (ω e) (I.ok.cab x c hfn hc)))).trans (I.base.keep b o e n hb hx)
  ·obtain ⟨sl,e1⟩:=I.base.slot b o e n hb hx
   exact ⟨sl,(hs.2 b (Υ (ϋ (ω e) (I.ok.cab x c hfn hc)))).trans e1⟩
  ·obtain ⟨o',e1⟩:=I.base.there b o e hx
   exact ⟨o',(hs.2 b (Υ (ϋ (ω e) (I.ok.cab x c hfn hc)))).trans e1⟩
  ·by_cases hj:j=i
   ·subst hj
    rw [hi] at e1;cases e1
    rw [Ϛ hiσ] at e2
    cases e2
    exact ⟨u,r,.inr ⟨.inl hk,c,hc,hc'⟩⟩
   ·rw [Ε (d8 hj)] at e2
    obtain ⟨u',r',q⟩:=hl j y v' e1 e2 e3
    refine ⟨u',r',?_⟩
    rcases q with q | ⟨k,c',e,z'⟩
    ·exact .inl q
    ·refine .inr ⟨k,c',e,z'.sameBut hs ?_⟩
     rintro rfl
     exact hj (jk hN e1 (I.ok.inj _ _ _ e hc ▸ hi))
  ·by_cases hcc:c'=c
   ·subst hcc;exact ⟨_,hc'⟩
   ·obtain ⟨w2,z2⟩:=I.cell y c' e
    exact ⟨w2,z2.sameBut hs hcc⟩
  ·obtain ⟨e,n,ne,nf,d⟩:=I.pin p hp
   refine ⟨(hs.2 p.1 ?_).trans e,n,ne,nf,d⟩
   intro q
   rw [q,hoc] at e
   have q':oc=p.2:=ϙ e
   exact d w' (by rw [<- q'];exact hocd)
theorem ZK {M:Model}{A:ϑ}{E:VSP}{i:Nat}{x:Str}{v:V}{u:δ}{Q:Unit->μ->Prop}(I:Inv X pJ σ H s) (hN:X.N.Nodup) (hi:X.N[i]?=some x) (hx:Loc X.env.scope x) (r:RelV v u)
  (h:∀ s',Inv X pJ (σ.set i (some v)) H s'->Q () s') (hf:X.fn x=true\/X.env.scope.names.lookup x=some .local:=by first | exact .inl rfl | exact .inr rfl | assumption):ψ M A (storeName X.env x u) Q E s:=
 Xl I hN hi hx r (fun s' I' _=>h s' I') hf
theorem Inv.call' {s':μ}{ch:List Addr}(I:Inv X pJ σ H s) (ho:s'.os=s.os) (u:Un (frs X.stack) ch H H' s.heap s'.heap) (hok:HOk X.prog X.w H' s'.heap) (hg:gk s'.gens)
  (hch:∀ b∈ch,(b∈X.ex\/X.sy.heap.objs.size<=b)/\b≠X.env.locals/\(∀ x c,X.env.cells.lookup x=some c->c≠b)/\∀ p∈X.pn++pJ,p.1≠b):Inv X pJ σ H' s':=by
 obtain ⟨h',g',d',t',o'⟩:=s'
 have e:o'=s.os:=ho
 subst e
 exact I.call (g':=g') (t':=t') (d':=d') u hok hg hch
end
abbrev XK:=δ->Option Addr->Hp->Prop
abbrev St:=List (Option V)
abbrev VK:=V->Hp->Prop
abbrev TE:=St->Hp->VK->Prop
abbrev TT:=St->Hp->(Bool->Hp->Prop)->Prop
abbrev TA:=St->Hp->(List V->Hp->Prop)->Prop
structure Ends where
 nx:St->Hp->Prop
 rt:VK
 bk:St->Hp->Prop:=fun _ _=>False
 ct:St->Hp->Prop:=fun _ _=>False
abbrev TS:=Ends->St->Hp->Prop
def EP (X:Cx) (pJ:List (Addr×Obj)) (σ:St) (Q:VK) (u:δ) (s':μ):Prop:=∃ v H',Inv X pJ σ H' s'/\RelV v u/\Q v H'
def TP (X:Cx) (pJ:List (Addr×Obj)) (σ:St) (Q:Bool->Hp->Prop) (b:Bool) (s':μ):Prop:=∃ H',Inv X pJ σ H' s'/\Q b H'
def AP (X:Cx) (pJ:List (Addr×Obj)) (σ:St) (Q:List V->Hp->Prop) (us:List δ) (s':μ):Prop:=∃ vs H',Inv X pJ σ H' s'/\Vals vs us/\Q vs H'
def SP (X:Cx) (pJ:List (Addr×Obj)) (D:Ends) (f:Flow) (s':μ):Prop:=
 match f with
 | .next=>∃ σ' H',Inv X pJ σ' H' s'/\D.nx σ' H'
 | .brk=>∃ σ' H',Inv X pJ σ' H' s'/\D.bk σ' H'
 | .cont=>∃ σ' H',Inv X pJ σ' H' s'/\D.ct σ' H'
 | .ret u=>∃ v σ' H',Inv X pJ σ' H' s'/\RelV v u/\D.rt v H'
def PE (X:Cx) (e:Expr) (t:TE):Prop:=
 ∀ (pJ:List (Addr×Obj)) (s:μ) (σ:St) (H:Hp) (Q:VK),Inv X pJ σ H s->t σ H Q->ψ (Ι X.prog X.w) X.A (eval e X.env) (EP X pJ σ Q) X.xe s
def PT (X:Cx) (e:Expr) (t:TT):Prop:=
 ∀ (pJ:List (Addr×Obj)) (s:μ) (σ:St) (H:Hp) (Q:Bool->Hp->Prop),Inv X pJ σ H s->t σ H Q->ψ (Ι X.prog X.w) X.A (iJ e X.env (eval e X.env)) (TP X pJ σ Q) X.xe s
def PW (X:Cx) (e:Expr) (t:TT):Prop:=
 ∀ (whole:Sem δ) (pJ:List (Addr×Obj)) (s:μ) (σ:St) (H:Hp) (Q:Bool->Hp->Prop),Inv X pJ σ H s->t σ H Q->ψ (Ι X.prog X.w) X.A (iJ e X.env whole) (TP X pJ σ Q) X.xe s
theorem PW.pt {X:Cx}{e:Expr}{t:TT}(h:PW X e t):PT X e t:=h _
def PA (X:Cx) (es:List Expr) (t:TA):Prop:=
 ∀ (pos:Pos) (pJ:List (Addr×Obj)) (s:μ) (σ:St) (H:Hp) (Q:List V->Hp->Prop),Inv X pJ σ H s->t σ H Q->ψ (Ι X.prog X.w) X.A (spliced (fB pos (Ϣ es X.env))) (AP X pJ σ Q) X.xe s
def PS (X:Cx) (st:Stmt) (t:TS):Prop:=
 ∀ (pJ:List (Addr×Obj)) (s:μ) (σ:St) (H:Hp) (D:Ends),Inv X pJ σ H s->t D σ H->ψ (Ι X.prog X.w) X.A (exec st X.env) (SP X pJ D) X.xe s
def PSs (X:Cx) (st:List Stmt) (t:TS):Prop:=
 ∀ (pJ:List (Addr×Obj)) (s:μ) (σ:St) (H:Hp) (D:Ends),Inv X pJ σ H s->t D σ H->ψ (Ι X.prog X.w) X.A (execs st X.env) (SP X pJ D) X.xe s
theorem thn {α:Type}{t:Sem α}{Q Q':α->μ->Prop}{M:Model}{A:ϑ}{E:VSP}{s:μ}(h:ψ M A t Q E s) (hQ:∀ a s,Q a s->Q' a s):ψ M A t Q' E s:=aN h hQ fun _ _ x=>x
section
variable {X:Cx}
theorem bin {a b:Expr}{ta tb:TE}(ha:PE X a ta) (hb:PE X b tb) {pJ:List (Addr×Obj)}{s:μ}{σ:St}{H:Hp}{R:V->V->Hp->Prop}(I:Inv X pJ σ H s) (h:ta σ H fun x H1=>tb σ H1 fun y H2=>R x y H2)
  {α:Type}{Q:α->μ->Prop}{f:δ->δ->Sem α}
  (hf:∀ v u s2 x y H2,Inv X pJ σ H2 s2->RelV x v->RelV y u->R x y H2->ψ (Ι X.prog X.w) X.A (f v u) Q X.xe s2):
  ψ (Ι X.prog X.w) X.A (eval a X.env) (fun v s₁=>ψ (Ι X.prog X.w) X.A (eval b X.env) (fun u s₂=>ψ (Ι X.prog X.w) X.A (f v u) Q X.xe s₂) X.xe s₁) X.xe s:=by
 refine thn (ha pJ s σ H _ I h) fun v s1 ⟨x,H1,I1,r1,q1⟩=>?_
 refine thn (hb pJ s1 σ H1 _ I1 q1) fun u s2 ⟨y,H2,I2,r2,q2⟩=>?_
 exact hf v u s2 x y H2 I2 r1 r2 q2
def tVar (i:Nat):TE:=fun σ H Q=>∃ v,σ[i]?=some (some v)/\Q v H
def tC (v:V):TE:=fun _ H Q=>Q v H
theorem uG {i:Nat}{x:Str}{pos:Pos}(hN:X.N[i]?=some x) (hv:Vis X.env.scope x) (hd:(x==("__debug__":Str))=false:=by decide) (hcd:(x==("__classdict__":Str))=false:=by decide):PE X (.Name x pos) (tVar i):=by
 intro pJ s σ H Q I h
 obtain ⟨v,e,h⟩:=h
 obtain ⟨m,hn,hl⟩:=I.loc
 obtain ⟨u,r,l⟩:=hl i x v hN e hv
 have fin:EP X pJ σ Q u s:=⟨v,H,I,r,h⟩
 rcases l with ⟨hk,hm⟩ | ⟨hk,c,hc,hcell⟩
 ·exact wpAny_Name (wpAny_loadName_local I.ok.kind hk hn hm fin) hd
 ·rcases hk with hk | hk
  ·exact wpAny_Name (wpAny_loadName_cell I.ok.kind hk hc hcell fin) hd
  ·exact wpAny_Name (wpAny_loadName_free I.ok.kind hk hc hcell fin hcd) hd
theorem JL {i j pos}:PE X (.Constant (.int i) j pos) (tC (.int i)):=fun _ _ _ H _ I h=>wpAny_Constant_int ⟨.int i,H,I.tok _,⟨_,rfl⟩,h⟩
theorem pe_bl {b j pos}:PE X (.Constant (.bool b) j pos) (tC (.bl b)):=fun _ _ _ H _ I h=>Constant_bool ⟨.bl b,H,I,rfl,h⟩
theorem zbO {j pos}:PE X (.Constant .none j pos) (tC .non):=fun _ _ _ H _ I h=>Constant_none ⟨.non,H,I,rfl,h⟩
theorem X4 {x j pos}:PE X (.Constant (.str x) j pos) (tC (.str x)):=fun _ _ _ H _ I h=>Calls.Constant_str ⟨.str x,H,I.tok _,⟨_,rfl⟩,h⟩
def Gl (X:Cx) (x:Str):Prop:=X.env.kindOf x=some .globalImplicit
theorem xZ {E:VSP}{pJ:List (Addr×Obj)}{s:μ}{σ:St}{H:Hp}{x:Str}{u:δ}{pos:Pos}{Q:VSP}(I:Inv X pJ σ H s) (hg:Gl X x) (hm:X.mg x=some u) (h:Q u s)
  (hd:(x==("__debug__":Str))=false:=by decide):ψ (Ι X.prog X.w) X.A (eval (.Name x pos) X.env) Q E s:=
 mK I.ok.kind hg (Calls.loadGlobal_global (by rw [I.ok.glob];exact I.mod.glob.keeps I.bk) hm h) hd
theorem wJ {E:VSP}{pJ:List (Addr×Obj)}{s:μ}{σ:St}{H:Hp}{x:Str}{u:δ}{pos:Pos}{Q:VSP}(I:Inv X pJ σ H s) (hg:Gl X x) (hm:X.mg x=none) (hv:cG x=some u) (h:Q u s)
  (hn:x≠"__name__":=by decide) (hd:(x==("__debug__":Str))=false:=by decide):ψ (Ι X.prog X.w) X.A (eval (.Name x pos) X.env) Q E s:=by
 obtain ⟨mb,h1,h2⟩:=I.mod.blt
 exact mK I.ok.kind hg (Calls.loadGlobal_builtin (by rw [I.ok.glob];exact I.mod.glob.keeps I.bk) hm (by rw [I.ok.blt];exact h1.keeps I.bk) ((h2 x hn).trans hv) h) hd
theorem X5 {x:Str}{v:V}{u:δ}{pos:Pos}(hg:Gl X x) (hm:X.mg x=some u) (r:RelV v u) (hd:(x==("__debug__":Str))=false:=by decide):PE X (.Name x pos) (tC v):=
 fun _ _ _ H _ I h=>xZ I hg hm ⟨v,H,I,r,h⟩ hd
theorem X7 {x:Str}{v:V}{u:δ}{pos:Pos}(hg:Gl X x) (hm:X.mg x=none) (hv:cG x=some u) (r:RelV v u) (hn:x≠"__name__":=by decide) (hd:(x==("__debug__":Str))=false:=by decide):PE X (.Name x pos) (tC v):=
 fun _ _ _ H _ I h=>wJ I hg hm hv ⟨v,H,I,r,h⟩ hn hd
variable {a b:Expr}{ta tb:TE}{pos:Pos}
def PC (X:Cx) (op:gj) (a b:Expr) (t:TE):Prop:=
 ∀ (pJ:List (Addr×Obj)) (s:μ) (σ:St) (H:Hp) (Q:VK),Inv X pJ σ H s->t σ H Q ->
  ψ (Ι X.prog X.w) X.A (eval a X.env) (fun v s₁=>ψ (Ι X.prog X.w) X.A (eval b X.env) (fun u s₂=>ψ (Ι X.prog X.w) X.A (ϔ op v u) (EP X pJ σ Q) X.xe s₂) X.xe s₁) X.xe s
theorem UG (b:Expr) {op:gj}(h:op≠.In) (h2:op≠.NotIn):behindInMarks op b=false:=by
 have e1:(op==gj.In)=false:=by cases op <;> first | rfl | exact absurd rfl h
 have e2:(op==gj.NotIn)=false:=by cases op <;> first | rfl | exact absurd rfl h2
 cases b <;> simp [behindInMarks,e1,e2]
def tB (t:TE):TT:=fun σ H Q=>t σ H fun x H1=>∃ c,x=.bl c/\Q c H1
theorem zcP {op:gj}{t:TE}(h:PC X op a b t) (h1:behindInMarks op b=false:=by first | exact UG _ (by decide) (by decide) | rfl):PT X (.Compare a [op] [b] pos) (tB t):=by
 intro pJ s σ H Q I hw
 refine wpAny_isTrue_Compare1 (thn (h pJ s σ H _ I hw) fun v s1 h1=>thn h1 fun u s2 h2=>thn h2 fun c s3 ⟨x,H1,I1,r1,q1⟩=>?_) h1
 obtain ⟨d,rfl,q⟩:=q1
 cases r1
 exact bw ⟨H1,I1,q⟩
theorem zbG {e:Expr}{t:TE}(h:PE X e t) (he:∀ whole,iJ e X.env whole=(do let v <- whole;standAt e.pos;holding [v] (truthy v)):=by intro _;rfl):PT X e (tB t):=by
 intro pJ s σ H Q I hw
 refine isTrue_plain (thn (h pJ s σ H _ I hw) fun v s1 ⟨x,H1,I1,r1,q1⟩=>?_) (he _)
 obtain ⟨d,rfl,q⟩:=q1
 cases r1
 exact bw ⟨H1,I1,q⟩
variable {tA tB':TT}{rest:List Expr}
def tAnd (t u:TT):TT:=fun σ H Q=>t σ H fun c H1=>if c=true then u σ H1 Q else Q false H1
def tOr (t u:TT):TT:=fun σ H Q=>t σ H fun c H1=>if c=true then Q true H1 else u σ H1 Q
def tNot (t:TT):TT:=fun σ H Q=>t σ H fun c H1=>Q (!c) H1
theorem Qq (ha:PT X a tA):PW X (.BoolOp .And [a] pos) tA:=by
 intro wh pJ s σ H Q I h
 refine isTrue_and (thn (ha pJ s σ H Q I h) fun c s1 e=>?_)
 cases c with
 | true=>exact isTrue_and_nil e
 | false=>exact e
theorem zbE (ha:PT X a tA):PW X (.BoolOp .Or [a] pos) tA:=by
 intro wh pJ s σ H Q I h
 refine isTrue_or (thn (ha pJ s σ H Q I h) fun c s1 e=>?_)
 cases c with
 | false=>exact isTrue_or_nil e
 | true=>exact e
theorem zbF (ha:PT X a tA) (hb:PW X (.BoolOp .And (b::rest) pos) tB'):PW X (.BoolOp .And (a::b::rest) pos) (tAnd tA tB'):=by
 intro wh pJ s σ H Q I h
 refine isTrue_and (thn (ha pJ s σ H _ I h) fun c s1 ⟨H1,I1,q1⟩=>?_)
 cases c with
 | true=>exact hb wh pJ s1 σ H1 Q I1 q1
 | false=>exact ⟨H1,I1,q1⟩
theorem pw_or (ha:PT X a tA) (hb:PW X (.BoolOp .Or (b::rest) pos) tB'):PW X (.BoolOp .Or (a::b::rest) pos) (tOr tA tB'):=by
 intro wh pJ s σ H Q I h
 refine isTrue_or (thn (ha pJ s σ H _ I h) fun c s1 ⟨H1,I1,q1⟩=>?_)
 cases c with
 | true=>exact ⟨H1,I1,q1⟩
 | false=>exact hb wh pJ s1 σ H1 Q I1 q1
theorem zbH (ha:PT X a tA):PT X (.UnaryOp .Not a pos) (tNot tA):=by
 intro pJ s σ H Q I h
 exact isTrue_not (ha pJ s σ H (fun c H1=>Q (!c) H1) I h)
def tAndV (ta tb:TE):TE:=fun σ H Q=>ta σ H fun x H1=>∃ c,x=.bl c/\if c=true then tb σ H1 Q else Q (.bl false) H1
def tOrV (ta tb:TE):TE:=fun σ H Q=>ta σ H fun x H1=>∃ c,x=.bl c/\if c=true then Q (.bl true) H1 else tb σ H1 Q
def tNotV (ta:TE):TE:=fun σ H Q=>ta σ H fun x H1=>∃ c,x=.bl c/\Q (.bl (!c)) H1
theorem JG {op} {t:TE}(h:PE X a t):PE X (.BoolOp op [a] pos) t:=fun pJ s σ H Q I hw=>BoolOp_one (h pJ s σ H Q I hw)
theorem JM (ha:PE X a ta) (hb:PE X (.BoolOp .And (b::rest) pos) tb):PE X (.BoolOp .And (a::b::rest) pos) (tAndV ta tb):=by
 intro pJ s σ H Q I h
 refine BoolOp_and (thn (ha pJ s σ H _ I h) fun v s1 ⟨x,H1,I1,r1,q1⟩=>?_)
 obtain ⟨c,rfl,q1⟩:=q1
 cases r1
 refine bw ?_
 cases c with
 | true=>exact hb pJ s1 σ H1 Q I1 q1
 | false=>exact ⟨.bl false,H1,I1,rfl,q1⟩
theorem pe_or (ha:PE X a ta) (hb:PE X (.BoolOp .Or (b::rest) pos) tb):PE X (.BoolOp .Or (a::b::rest) pos) (tOrV ta tb):=by
 intro pJ s σ H Q I h
 refine BoolOp_or (thn (ha pJ s σ H _ I h) fun v s1 ⟨x,H1,I1,r1,q1⟩=>?_)
 obtain ⟨c,rfl,q1⟩:=q1
 cases r1
 refine bw ?_
 cases c with
 | false=>exact hb pJ s1 σ H1 Q I1 q1
 | true=>exact ⟨.bl true,H1,I1,rfl,q1⟩
theorem JH (ha:PE X a ta):PE X (.UnaryOp .Not a pos) (tNotV ta):=by
 intro pJ s σ H Q I h
 refine UnaryOp_ (thn (ha pJ s σ H _ I h) fun v s1 ⟨x,H1,I1,r1,q1⟩=>?_)
 obtain ⟨c,rfl,q1⟩:=q1
 cases r1
 exact not_of (bw ⟨.bl (!c),H1,I1,rfl,q1⟩)
def tIf (t:TT) (ta tb:TE):TE:=fun σ H Q=>t σ H fun c H1=>if c=true then ta σ H1 Q else tb σ H1 Q
theorem Ul {c:Expr}(hc:PT X c tA) (ha:PE X a ta) (hb:PE X b tb):PE X (.IfExp c a b pos) (tIf tA ta tb):=by
 intro pJ s σ H Q I h
 refine wpAny_IfExp (thn (hc pJ s σ H _ I h) fun d s1 ⟨H1,I1,q1⟩=>?_)
 cases d with
 | true=>exact ha pJ s1 σ H1 Q I1 q1
 | false=>exact hb pJ s1 σ H1 Q I1 q1
end
def SqL (K:W.Frag) (H:Hp) (a:Addr) (xs:List V):Prop:=
 Rd H a (.lst xs) \/
  ∃ (o:Obj) (its:Array δ) (n:Nat),K.lookup a=some o/\o.cls=.type "list"/\o.dict=none/\o.data=.seq its n/\its.size<=sizeLine/\Vals xs its.toList
def SqT (K:W.Frag) (H:Hp) (a:Addr) (xs:List V):Prop:=
 Rd H a (.tup xs) \/
  ∃ (o:Obj) (its:Array δ) (n:Nat),K.lookup a=some o/\o.cls=.type "tuple"/\o.data=.seq its n/\its.size<=sizeLine/\Vals xs its.toList
noncomputable def absV:δ->Option V
 | .none=>some .non
 | .bool b=>some (.bl b)
 | .int i _=>some (.int i)
 | .str x _=>some (.str x)
 | .bytes b _=>some (.byt b)
 | .float b _=>some (.flt b)
 | .ref a=>some (.ref a)
 | .type n=>some (.ty n)
 | _=>none
theorem RelV.abs {x:V}{u:δ}(r:RelV x u):absV u=some x:=by
 cases x with
 | non=>cases r;rfl
 | bl _=>cases r;rfl
 | int _=>obtain ⟨t,rfl⟩:=r;rfl
 | str _=>obtain ⟨t,rfl⟩:=r;rfl
 | byt _=>obtain ⟨t,rfl⟩:=r;rfl
 | flt _=>obtain ⟨t,rfl⟩:=r;rfl
 | ref _=>cases r;rfl
 | ty _=>cases r;rfl
theorem RelV.inj {x y:V}{u:δ}(r:RelV x u) (q:RelV y u):x=y:=ϙ (r.abs.symm.trans q.abs)
theorem Vals.inj:∀ {xs ys:List V}{us:List δ},Vals xs us->Vals ys us->xs=ys
 | _,_,_,.nil,.nil=>rfl
 | _,_,_,.cons r t,.cons r' t'=>by rw [r.inj r',Vals.inj t t']
section
variable {X:Cx}{pJ:List (Addr×Obj)}{σ:St}{H:Hp}{s:μ}{a:Addr}{xs ys:List V}
theorem SqL.of {K:W.Frag}(h:H a=some (.lst xs)):SqL K H a xs:=.inl (.inl h)
theorem SqT.of {K:W.Frag}(h:H a=some (.tup xs)):SqT K H a xs:=.inl (.inl h)
theorem Inv.list (I:Inv X pJ σ H s) (h:SqL X.K H a xs):∃ its:List δ,Vals xs its/\PlainL s.heap a its.toArray/\xs.length<=sizeLine:=by
 rcases h with h | ⟨o,its,n,hk,hc,hd,hs,hz,r⟩
 ·obtain ⟨z,its,n,r,e⟩:=h.ok I.hok
  exact ⟨its,r,⟨_,n,e,rfl,rfl,rfl⟩,z⟩
 ·refine ⟨its.toList,r,⟨o,n,I.kIn a o hk,hc,hd,by simpa using hs⟩,?_⟩
  have e:=r.length
  simp only [Φ] at e
  lia
theorem Inv.tuple (I:Inv X pJ σ H s) (h:SqT X.K H a xs):∃ its:List δ,Vals xs its/\iR s.heap a its.toArray/\xs.length<=sizeLine:=by
 rcases h with h | ⟨o,its,n,hk,hc,hs,hz,r⟩
 ·obtain ⟨z,its,r,p⟩:=h.ok I.hok
  exact ⟨its,r,p,z⟩
 ·refine ⟨its.toList,r,⟨o,I.kIn a o hk,hc,n,by simpa using hs⟩,?_⟩
  have e:=r.length
  simp only [Φ] at e
  lia
theorem Inv.Z6 (I:Inv X pJ σ H s) (h:SqL X.K H a xs) (h':SqL X.K H a ys):xs=ys:=by
 obtain ⟨its,r,⟨o,n,e,_,_,d⟩,_⟩:=I.list h
 obtain ⟨its',r',⟨o',n',e',_,_,d'⟩,_⟩:=I.list h'
 rw [e] at e';cases e'
 rw [d] at d'
 injection d' with d1 _
 have:its=its':=by simpa using congrArg Array.toList d1
 subst this
 exact r.inj r'
theorem Inv.jN (I:Inv X pJ σ H s) (h:SqT X.K H a xs) (h':SqT X.K H a ys):xs=ys:=by
 obtain ⟨its,r,⟨o,e,_,n,d⟩,_⟩:=I.tuple h
 obtain ⟨its',r',⟨o',e',_,n',d'⟩,_⟩:=I.tuple h'
 rw [e] at e';cases e'
 rw [d] at d'
 injection d' with d1 _
 have:its=its':=by simpa using congrArg Array.toList d1
 subst this
 exact r.inj r'
end
noncomputable abbrev Cx.wish (X:Cx) (E:VSP):Cx:={ X with xe:=E }
noncomputable abbrev Cx.nox (X:Cx):Cx:=X.wish fun _ _=>False
theorem Cx.Ok.wish {X:Cx}(ok:X.Ok) (E:VSP):(X.wish E).Ok:=
 ⟨ok.mod,ok.kind,ok.glob,ok.blt,ok.above,ok.inj,ok.has,ok.cab,ok.hd,ok.frames,ok.stk,ok.exf,ok.bs,ok.bsz,ok.noex,ok.exfs,ok.funs,ok.frf⟩
theorem Cx.Ok.yp {X:Cx}{E:VSP}(ok:(X.wish E).Ok):X.Ok:=
 ⟨ok.mod,ok.kind,ok.glob,ok.blt,ok.above,ok.inj,ok.has,ok.cab,ok.hd,ok.frames,ok.stk,ok.exf,ok.bs,ok.bsz,ok.noex,ok.exfs,ok.funs,ok.frf⟩
section
variable {X:Cx}{pJ:List (Addr×Obj)}{σ:St}{H:Hp}{s:μ}{E:VSP}
theorem Inv.wish (I:Inv X pJ σ H s) (E:VSP):Inv (X.wish E) pJ σ H s:=⟨I.ok.wish E,I.os,I.bare,I.base,I.loc,I.cell,I.free,I.freeC,I.pin,I.hok,I.len⟩
theorem Inv.yp (I:Inv (X.wish E) pJ σ H s):Inv X pJ σ H s:=⟨I.ok.yp,I.os,I.bare,I.base,I.loc,I.cell,I.free,I.freeC,I.pin,I.hok,I.len⟩
theorem SP.yp {D:Ends}{f:Flow}{s':μ}(h:SP (X.wish E) pJ D f s'):SP X pJ D f s':=by
 cases f with
 | next=>obtain ⟨σ',H',I,q⟩:=h;exact ⟨σ',H',I.yp,q⟩
 | brk=>obtain ⟨σ',H',I,q⟩:=h;exact ⟨σ',H',I.yp,q⟩
 | cont=>obtain ⟨σ',H',I,q⟩:=h;exact ⟨σ',H',I.yp,q⟩
 | ret u=>obtain ⟨v,σ',H',I,r,q⟩:=h;exact ⟨v,σ',H',I.yp,r,q⟩
theorem PE.nox {e:Expr}{t:TE}(h:PE X.nox e t):PE X e t:=fun pJ s σ H Q I hw=>
 aN (h pJ s σ H Q (I.wish _) hw) (fun _ _ ⟨v,H',I',r,q⟩=>⟨v,H',I'.yp,r,q⟩) fun _ _ z=>Ϥ z
theorem PT.nox {e:Expr}{t:TT}(h:PT X.nox e t):PT X e t:=fun pJ s σ H Q I hw=>
 aN (h pJ s σ H Q (I.wish _) hw) (fun _ _ ⟨H',I',q⟩=>⟨H',I'.yp,q⟩) fun _ _ z=>Ϥ z
theorem PSs.nox {st:List Stmt}{t:TS}(h:PSs X.nox st t):PSs X st t:=fun pJ s σ H D I hw=>
 aN (h pJ s σ H D (I.wish _) hw) (fun _ _ q=>q.yp) fun _ _ z=>Ϥ z
end
section
variable {X:Cx}{st:Stmt}{rest:List Stmt}{t u:TS}{e:Expr}{te:TE}{pos:Pos}
def tNext:TS:=fun D σ H=>D.nx σ H
def tSeq (t u:TS):TS:=fun D σ H=>t { D with nx:=u D } σ H
theorem XH:PSs X [] tNext:=fun _ _ σ H _ I h=>fc ⟨σ,H,I,h⟩
theorem ZX (h1:PS X st t) (h2:PSs X rest u):PSs X (st::rest) (tSeq t u):=by
 intro pJ s σ H D I h
 refine wpAny_execs_cons (thn (h1 pJ s σ H { D with nx:=u D } I h) fun f s1 q=>?_)
 cases f with
 | next=>
  obtain ⟨σ',H',I',q⟩:=q
  exact h2 pJ s1 σ' H' D I' q
 | ret v=>exact q
 | brk=>exact q
 | cont=>exact q
def za6:TS:=fun D σ H=>D.bk σ H
def tCont:TS:=fun D σ H=>D.ct σ H
theorem Qx:PS X (.Pass pos) tNext:=fun _ _ σ H _ I h=>wpAny_Pass ⟨σ,H,I,h⟩
theorem Ug:PS X (.Break pos) za6:=fun _ _ σ H _ I h=>wpAny_Break ⟨σ,H,I,h⟩
theorem qQ:PS X (.Continue pos) tCont:=fun _ _ σ H _ I h=>wpAny_Continue ⟨σ,H,I,h⟩
theorem Inv.quiet {pJ:List (Addr×Obj)}{σ:St}{H:Hp}{s:μ}(I:Inv X pJ σ H s):interactive X.env=false:=by simp [interactive,I.ok.kind]
def tDrop (te:TE):TS:=fun D σ H=>te σ H fun _ H1=>D.nx σ H1
theorem qP (he:PE X e te) (hs:gC e none pos.line X.env=pure false:=by rfl):PS X (.Expr e pos) (tDrop te):=by
 intro pJ s σ H D I h
 exact wpAny_Expr_any (thn (he pJ s σ H _ I h) fun v s1 ⟨x,H1,I1,r1,q1⟩=>⟨σ,H1,I1,q1⟩) I.quiet hs
def tRet (te:TE):TS:=fun D σ H=>te σ H D.rt
theorem JF (he:PE X e te):PS X (.Return (some e) pos) (tRet te):=by
 intro pJ s σ H D I h
 exact wpAny_Return_some (thn (he pJ s σ H _ I h) fun v s1 ⟨x,H1,I1,r1,q1⟩=>⟨x,σ,H1,I1,r1,q1⟩)
def tRetN:TS:=fun D _ H=>D.rt .non H
theorem Qw:PS X (.Return none pos) tRetN:=fun _ _ σ H _ I h=>wpAny_Return_none ⟨.non,σ,H,I,rfl,h⟩
def tIfS (c:TT) (t u:TS):TS:=fun D σ H=>c σ H fun b H1=>if b=true then t D σ H1 else u D σ H1
theorem ps_if {c:Expr}{a b:List Stmt}{tc:TT}(hc:PT X c tc) (ha:PSs X a t) (hb:PSs X b u):PS X (.If c a b pos) (tIfS tc t u):=by
 intro pJ s σ H D I h
 refine wpAny_If (thn (hc pJ s σ H _ I h) fun d s1 ⟨H1,I1,q1⟩=>?_)
 cases d with
 | true=>exact ha pJ s1 σ H1 D I1 q1
 | false=>exact hb pJ s1 σ H1 D I1 q1
end
abbrev TG:=V->St->Hp->(St->Hp->Prop)->Prop
abbrev TGs:=List V->St->Hp->(St->Hp->Prop)->Prop
def PG (X:Cx) (target:Expr) (t:TG):Prop:=
 ∀ (pJ:List (Addr×Obj)) (s:μ) (σ:St) (H:Hp) (v:V) (u:δ) (Q:St->Hp->Prop),Inv X pJ σ H s->RelV v u->t v σ H Q ->
  ψ (Ι X.prog X.w) X.A (lV target X.env u) (fun _ s'=>∃ σ' H',Inv X pJ σ' H' s'/\Q σ' H') X.xe s
def PGs (X:Cx) (ts:List Expr) (t:TGs):Prop:=
 ∀ (pJ:List (Addr×Obj)) (s:μ) (σ:St) (H:Hp) (vs:List V) (us:List δ) (Q:St->Hp->Prop),Inv X pJ σ H s->Vals vs us->t vs σ H Q ->
  ψ (Ι X.prog X.w) X.A (assignInOrder ((bN ts X.env).map (·.2)) us) (fun _ s'=>∃ σ' H',Inv X pJ σ' H' s'/\Q σ' H') X.xe s
section
variable {X:Cx}{pos:Pos}
def gName (i:Nat):TG:=fun v σ H Q=>Q (σ.set i (some v)) H
theorem jh {i:Nat}{x:Str}(hN:X.N.Nodup) (hi:X.N[i]?=some x) (hx:Loc X.env.scope x) (hf:X.fn x=true\/X.env.scope.names.lookup x=some .local:=by first | exact .inl rfl | exact .inr rfl | assumption):PG X (.Name x pos) (gName i):=by
 intro pJ s σ H v u Q I r h
 exact wpAny_assign_Name (ZK I hN hi hx r (fun s' I'=>⟨_,H,I',h⟩) hf)
def gNil:TGs:=fun vs σ H Q=>vs=[]/\Q σ H
def gCons (t:TG) (u:TGs):TGs:=fun vs σ H Q=>∃ v r,vs=v::r/\t v σ H fun σ' H'=>u r σ' H' Q
theorem XX:PGs X [] gNil:=by
 intro pJ s σ H vs us Q I r h
 obtain ⟨e,h⟩:=h
 subst e
 cases r
 exact assignInOrder_nil ⟨σ,H,I,h⟩
theorem jg {e:Expr}{es:List Expr}{t:TG}{u:TGs}(h1:PG X e t) (h2:PGs X es u)
  (hs:(bN (e::es) X.env).map (·.2)=lV e X.env::(bN es X.env).map (·.2):=by rfl):PGs X (e::es) (gCons t u):=by
 intro pJ s σ H vs us Q I r h
 obtain ⟨v,vr,e1,h⟩:=h
 subst e1
 cases r with
 | cons r rr=>
  rw [hs]
  refine assignInOrder_cons (thn (h1 pJ s σ H _ _ _ I r h) fun _ s1 ⟨σ1,H1,I1,q1⟩=>?_)
  exact h2 pJ s1 σ1 H1 _ _ Q I1 rr q1
def gTup (K:W.Frag) (n:Nat) (t:TGs):TG:=fun v σ H Q=>∃ a xs,v=.ref a/\SqT K H a xs/\xs.length=n/\t xs σ H Q
theorem X3 {es:List Expr}{k:Nat}{t:TGs}{n:Nat}(hc:X.calm=true) (h:PGs X es t)
  (hn:(bN es X.env).length=n:=by rfl) (hst:(bN es X.env).findIdx? (·.1)=none:=by rfl):PG X (.Tuple es k pos) (gTup X.K n t):=by
 intro pJ s σ H v u Q I r hw
 obtain ⟨a,xs,e1,hq,hl,hw⟩:=hw
 subst e1
 cases r
 obtain ⟨its,rv,ht,hz⟩:=I.tuple hq
 refine assign_Tuple_tuple (I.ok.hd hc) ht (by simp [hn,<- hl,rv.length]) hst fun h' hx=>?_
 have I1:Inv X pJ σ H { s with heap:=h' }:=I.kept (t':=s.toks) fun b o e=>hx b o (Υ (ω e)) e
 exact h pJ _ σ H xs _ Q I1 (by simpa using rv) hw
def tAsg (te:TE) (g:TG):TS:=fun D σ H=>te σ H fun x H1=>g x σ H1 D.nx
theorem XJ {tg e:Expr}{te:TE}{g:TG}(he:PE X e te) (hg:PG X tg g) (hs:eQ [tg] e pos.line X.env=pure false:=by rfl) (hw:dB [tg] e X.env=pure none:=by rfl)
  (h1:(bN [tg] X.env).map (·.2)=[lV tg X.env]:=by rfl):PS X (.Assign [tg] e pos) (tAsg te g):=by
 intro pJ s σ H D I h
 refine wpAny_Assign_stores (thn (he pJ s σ H _ I h) fun v s1 ⟨x,H1,I1,r1,q1⟩=>?_) hs hw
 rw [h1]
 exact thn (hg pJ s1 σ H1 x v _ I1 r1 q1) fun _ s2 q=>q
end
section
variable {X:Cx}{pos:Pos}
def za3 (c:TT) (tb:TS):TS:=fun D σ H=>∃ W:Nat->St->Hp->Prop,(∃ m,W m σ H)/\∀ m σ H,W m σ H ->
 c σ H fun b H1=>if b=true then ∃ N:St->Hp->Prop,(∀ σ' H',N σ' H'->∃ m',m' < m/\W m' σ' H')/\tb { D with nx:=N,ct:=N,bk:=D.nx } σ H1 else D.nx σ H1
theorem Ue {c:Expr}{body:List Stmt}{tc:TT}{tb:TS}(hp:lr (Ι X.prog X.w) X.A X.env X.xe) (hc:PT X c tc) (hb:PSs X body tb):PS X (.While c body [] pos) (za3 tc tb):=by
 intro pJ s σ H D I h
 obtain ⟨W,⟨m0,w0⟩,turn⟩:=h
 refine wpAny_While (codeAny_whileLoop (fun n s'=>∃ σ' H',Inv X pJ σ' H' s'/\W n σ' H') ?_ m0 ⟨σ,H,I,w0⟩)
 rintro n s1 ⟨σ1,H1,I1,w1⟩
 refine cN hp (thn (hc pJ s1 σ1 H1 _ I1 (turn n σ1 H1 w1)) fun b s2 ⟨H2,I2,q2⟩=>?_)
 cases b with
 | true=>
  obtain ⟨N,hN,q2⟩:=q2
  rw [if_pos rfl]
  refine cN hp (thn (hb pJ s2 σ1 H2 _ I2 q2) fun f s3 q3=>?_)
  cases f with
  | next=>
   obtain ⟨σ3,H3,I3,n3⟩:=q3
   obtain ⟨m',hm,w3⟩:=hN σ3 H3 n3
   exact ⟨m',hm,σ3,H3,I3,w3⟩
  | cont=>
   obtain ⟨σ3,H3,I3,n3⟩:=q3
   obtain ⟨m',hm,w3⟩:=hN σ3 H3 n3
   exact ⟨m',hm,σ3,H3,I3,w3⟩
  | brk=>exact q3
  | ret v=>exact q3
 | false=>
  rw [if_neg Τ]
  exact fc ⟨σ1,H2,I2,q2⟩
end
structure It where
 go:Nat->Hp->Prop
 yld:Nat->Hp->V->Hp->Prop
 stop:Nat->Hp->Prop
def FpOk (X:Cx) (pJ:List (Addr×Obj)) (H:Hp) (b:Addr):Prop:=
 H b=none/\b≠X.env.locals/\b ∉ X.fs/\(b∈X.ex\/X.sy.heap.objs.size<=b)/\(∀ x c,X.env.cells.lookup x=some c->c≠b)/\∀ p∈X.pn++pJ,p.1≠b
theorem Inv.fpOk {X:Cx}{pJ:List (Addr×Obj)}{σ:St}{H H':Hp}{s:μ}{b:Addr}(I:Inv X pJ σ H s) (hb:s.heap.objs.size<=b) (hn:H' b=none):FpOk X pJ H' b:=by
 refine ⟨hn,cX (ϋ I.lt hb),I.nofs hb,.inr (ϣ I.sz hb),fun x c e z=>?_,fun p hp z=>?_⟩
 ·obtain ⟨v,q⟩:=I.cell x c e
  exact absurd (ϋ q.lt (by rw [z];exact hb)) (bT _)
 ·exact absurd (ϋ (ω (I.pin p hp).1) (by rw [z];exact hb)) (bT _)
structure Turn (P:Μ) (w:ϒ) (K:W.Frag) (tg:Expr) (J:It) (fp:List Addr) (it:Addr) (tn:Nat->Heap->Prop):Prop where
 mem:it∈fp
 obj:∀ i h,tn i h->∀ b∈fp,∃ o,h.get? b=some o/\∀ v,o.data≠.cell v
 keep:∀ i h h',tn i h->(∀ b∈fp,∀ o,h.get? b=some o->h'.get? b=some o)->tn i h'
 item:∀ (X:Cx),X.prog=P->X.w=w->X.K=K->X.calm=true->∀ (i:Nat) (pJ:List (Addr×Obj)) (s:μ) (σ:St) (H:Hp) (E:VSP),Inv X pJ σ H s->(∀ b∈fp,FpOk X pJ H b)->tn i s.heap->J.go i H ->
  ψ (Ι P w) X.A (dU (.ref it)) (fun r s1=>∃ u,r=some u /\
   ψ (Ι P w) X.A (nJ tg (.ref it) u) (fun _ s2=>∃ x H',Inv X pJ σ H' s2/\RelV x u/\J.yld i H x H'/\tn (i+1) s2.heap/\∀ b∈fp,H' b=none) E s1) E s
 done:∀ (X:Cx),X.prog=P->X.w=w->X.K=K->X.calm=true->∀ (i:Nat) (pJ:List (Addr×Obj)) (s:μ) (σ:St) (H:Hp) (E:VSP),Inv X pJ σ H s->(∀ b∈fp,FpOk X pJ H b)->tn i s.heap->J.stop i H ->
  ψ (Ι P w) X.A (dU (.ref it)) (fun r s1=>r=none/\Inv X pJ σ H s1) E s
 self:∀ (A:ϑ) (i:Nat) (s:μ) (Q:VSP) (E:VSP),tn i s.heap->Q (.ref it) s->ψ (Ι P w) A (iI (.ref it)) Q E s
abbrev TI:=St->Hp->(It->Hp->Prop)->Prop
def PIE (X:Cx) (pJ:List (Addr×Obj)) (σ:St) (tg:Expr) (R:It->Hp->Prop) (itv:δ) (s2:μ):Prop:=
 ∃ (it:Addr) (fp:List Addr) (tn:Nat->Heap->Prop) (J:It) (H':Hp),itv=.ref it/\Inv X pJ σ H' s2/\Turn X.prog X.w X.K tg J fp it tn/\tn 0 s2.heap/\(∀ b∈fp,FpOk X pJ H' b)/\R J H'
def PI (X:Cx) (tg iter:Expr) (wi:TI):Prop:=
 ∀ (pJ:List (Addr×Obj)) (s:μ) (σ:St) (H:Hp) (R:It->Hp->Prop),Inv X pJ σ H s->wi σ H R ->
  ψ (Ι X.prog X.w) X.A (eval iter X.env) (fun v s1=>ψ (Ι X.prog X.w) X.A (iI v) (PIE X pJ σ tg R) X.xe s1) X.xe s
theorem go_of {M:Model}{A:ϑ}{E:VSP}{s:μ}{tg:Expr}{it:Addr}{u:δ}{o:Obj}{n:String}{vs:Array δ}{Q:Unit->μ->Prop}(ho:s.heap.get? it=some o) (hc:o.cls=.type n) (hd:o.data=.fields vs)
    (hn:["enumerate","zip","dict_itemiterator","dict_reverseitemiterator","odict_iterator","itertools.zip_longest","itertools.pairwise"].contains n=false) (hQ:Q () s):ψ M A (nJ tg (.ref it) u) Q E s:=by
  unfold nJ
  cases tg <;> first
    | exact ζ hQ
    | (cases u <;> first
        | exact ζ hQ
        | (refine γ (wpAny_load ho ?_)
           rw [hc,hd]
           show ψ M A (if (["enumerate","zip","dict_itemiterator","dict_reverseitemiterator","odict_iterator","itertools.zip_longest","itertools.pairwise"].contains n&&vs[0]?==some (Ϯ _))=true then _ else _) Q E s
           rw [if_neg (by intro h;rw [hn,Bool.false_and] at h;cases h)]
           exact ζ hQ))
noncomputable def Itl (K:W.Frag) (a:Addr):It:=
 ⟨fun i H=>∃ xs x,SqL K H a xs/\xs[i]?=some x,fun i H x H'=>H'=H/\∀ xs,SqL K H a xs->xs[i]?=some x,fun i H=>∃ xs,SqL K H a xs/\xs.length<=i⟩
noncomputable def Itt (K:W.Frag) (a:Addr):It:=
 ⟨fun i H=>∃ xs x,SqT K H a xs/\xs[i]?=some x,fun i H x H'=>H'=H/\∀ xs,SqT K H a xs->xs[i]?=some x,fun i H=>∃ xs,SqT K H a xs/\xs.length<=i⟩
noncomputable def Itr (lo:Int) (n:Nat):It:=⟨fun i _=>i < n,fun i H x H'=>H'=H/\x=.int (lo+i),fun i _=>n<=i⟩
theorem Xc {P:Μ}{w:ϒ}{K:W.Frag}{tg:Expr}(a it:Addr):Turn P w K tg (Itl K a) [it] it (fun i h=>h.IsListIter it a i) where
 mem:=by simp
 obj:=fun i h st b hb=>by
  have e:b=it:=by simpa using hb
  subst e
  obtain ⟨o,e,c,d⟩:=st
  exact ⟨o,e,fun v z=>by rw [d] at z;cases z⟩
 keep:=fun i h h' st k=>st.at fun o e=>k it (by simp) o e
 item:=by
  intro X hP hw hK hc i pJ s σ H E I hf st hg
  subst hP hw hK
  obtain ⟨xs,x,hq,hx⟩:=hg
  obtain ⟨its,rv,p,hz⟩:=I.list hq
  obtain ⟨u,hu,ru⟩:=rv.get hx
  obtain ⟨f0,f1,f2,f3,f4,f5⟩:=hf it (by simp)
  refine wpAny_pyNext_list_item st p.isList (x:=u) (by simpa using hu) fun h' st' sb=>?_
  have I1:Inv X pJ σ H { s with heap:=h' }:=I.turned (t':=s.toks) (fun b o hb e=>(sb.2 b hb).trans e) f0 f1 f3 f4 f5
  obtain ⟨o,e,c,d⟩:=id st'
  exact ⟨u,rfl,go_of (s:={ s with heap:=h' }) e c d (by decide) ⟨x,H,I1,ru,⟨rfl,fun ys hy=>by rw [I.Z6 hy hq];exact hx⟩,st',fun b hb=>(hf b hb).1⟩⟩
 done:=by
  intro X hP hw hK hc i pJ s σ H E I hf st hg
  subst hP hw hK
  obtain ⟨xs,hq,hx⟩:=hg
  obtain ⟨its,rv,p,hz⟩:=I.list hq
  obtain ⟨f0,f1,f2,f3,f4,f5⟩:=hf it (by simp)
  have hl:=rv.length
  exact wpAny_pyNext_list_end (I.ok.hd hc) st p.isList (by simp;lia) fun h' eb=>⟨rfl,I.turned (t':=s.toks) (fun b o hb e=>eb b o hb e) f0 f1 f3 f4 f5⟩
 self:=fun _ _ _ _ _ st h=>wpAny_pyIter_listiter st h
theorem Yx {P:Μ}{w:ϒ}{K:W.Frag}{tg:Expr}(a it:Addr):Turn P w K tg (Itt K a) [it] it (fun i h=>h.IsTupleIter it a i) where
 mem:=by simp
 obj:=fun i h st b hb=>by
  have e:b=it:=by simpa using hb
  subst e
  obtain ⟨o,e,c,d⟩:=st
  exact ⟨o,e,fun v z=>by rw [d] at z;cases z⟩
 keep:=fun i h h' st k=>st.at fun o e=>k it (by simp) o e
 item:=by
  intro X hP hw hK hc i pJ s σ H E I hf st hg
  subst hP hw hK
  obtain ⟨xs,x,hq,hx⟩:=hg
  obtain ⟨its,rv,p,hz⟩:=I.tuple hq
  obtain ⟨u,hu,ru⟩:=rv.get hx
  obtain ⟨f0,f1,f2,f3,f4,f5⟩:=hf it (by simp)
  refine wpAny_pyNext_tuple_item st (show s.heap.IsTuple a its.toArray from p) (x:=u) (by simpa using hu) fun h' st' sb=>?_
  have I1:Inv X pJ σ H { s with heap:=h' }:=I.turned (t':=s.toks) (fun b o hb e=>(sb.2 b hb).trans e) f0 f1 f3 f4 f5
  obtain ⟨o,e,c,d⟩:=id st'
  exact ⟨u,rfl,go_of (s:={ s with heap:=h' }) e c d (by decide) ⟨x,H,I1,ru,⟨rfl,fun ys hy=>by rw [I.jN hy hq];exact hx⟩,st',fun b hb=>(hf b hb).1⟩⟩
 done:=by
  intro X hP hw hK hc i pJ s σ H E I hf st hg
  subst hP hw hK
  obtain ⟨xs,hq,hx⟩:=hg
  obtain ⟨its,rv,p,hz⟩:=I.tuple hq
  obtain ⟨f0,f1,f2,f3,f4,f5⟩:=hf it (by simp)
  have hl:=rv.length
  exact wpAny_pyNext_tuple_end (I.ok.hd hc) st (show s.heap.IsTuple a its.toArray from p) (by simp;lia) fun h' eb=>⟨rfl,I.turned (t':=s.toks) (fun b o hb e=>eb b o hb e) f0 f1 f3 f4 f5⟩
 self:=fun _ _ _ _ _ st h=>wpAny_pyIter_tupleiter st h
theorem Yy {P:Μ}{w:ϒ}{K:PySem.W.Frag}{tg:Expr}(it:Addr) (lo:Int) (n:Nat):Turn P w K tg (Itr lo n) [it] it (fun i h=>IsRangeIter h it (lo+(i:Nat)*1) ((n:Int) - (i:Nat)) 1) where
 mem:=by simp
 obj:=fun i h st b hb=>by
  have e:b=it:=by simpa using hb
  subst e
  exact ⟨_,st,fun v z=>by
   have z':Ϫ _=Data.cell v:=z
   cases z'⟩
 keep:=fun i h h' st k=>k it (by simp) _ st
 item:=by
  intro X hP hw hK hc i pJ s σ H E I hf st hg
  subst hP hw hK
  obtain ⟨f0,f1,f2,f3,f4,f5⟩:=hf it (by simp)
  have W:=Walks.range (prog:=X.prog) (w:=X.w) (I.ok.hd hc) it lo 1 n
  refine W.item i s _ _ hg st fun v h' tk hv st' kk=>?_
  obtain ⟨t,rfl⟩:=hv
  have I1:Inv X pJ σ H { s with heap:=h',toks:=tk }:=I.turned (fun b o hb e=>kk b o (by simpa using hb) e) f0 f1 f3 f4 f5
  refine ⟨_,rfl,go_of (s:={ s with heap:=h',toks:=tk }) (n:="range_iterator") st' rfl rfl (by decide) ⟨.int (lo+i),H,I1,⟨t,?_⟩,⟨rfl,rfl⟩,st',fun b hb=>(hf b hb).1⟩⟩
  rw [Int.mul_one]
 done:=by
  intro X hP hw hK hc i pJ s σ H E I hf st hg
  subst hP hw hK
  obtain ⟨f0,f1,f2,f3,f4,f5⟩:=hf it (by simp)
  exact wpAny_pyNext_range_end (I.ok.hd hc) st (by have:n<=i:=hg;lia) fun h' eb=>⟨rfl,I.turned (t':=s.toks) (fun b o hb e=>eb b o hb e) f0 f1 f3 f4 f5⟩
 self:=fun _ _ _ _ _ st h=>wpAny_pyIter_rangeiter st h
section
variable {X:Cx}{tg:Expr}
theorem ZW {pJ:List (Addr×Obj)}{σ:St}{H:Hp}{s:μ}{R:It->Hp->Prop}{E:VSP}{lo hi:Int}{t u v:Tok}{tk:Nat}(I:Inv X pJ σ H s) (h1:-(2 ^ 62)<=lo) (h2:lo < 2 ^ 62) (h3:-(2 ^ 62)<=hi) (h4:hi < 2 ^ 62)
  (q:R (Itr lo (hi - lo).toNat) H):ψ (Ι X.prog X.w) X.A (iI (.ref s.heap.objs.size)) (PIE X pJ σ tg R) E { s with heap:=s.heap.push { cls:=.type "range",data:=.fields #[.int lo t,.int hi u,.int 1 v] },toks:=tk }:=by
 refine wpAny_pyIter_range (IsRange.new ..) (small_one h1 h2 h3 h4) ?_
 have I1:Inv X pJ σ H { s with heap:=s.heap.push { cls:=.type "range",data:=.fields #[.int lo t,.int hi u,.int 1 v] },toks:=tk }:=I.kept fun b o e=>η _ e
 refine ⟨(s.heap.push { cls:=.type "range",data:=.fields #[.int lo t,.int hi u,.int 1 v] }).objs.size,[(s.heap.push { cls:=.type "range",data:=.fields #[.int lo t,.int hi u,.int 1 v] }).objs.size],_,_,H,rfl,
  I1.kept (t':=tk) fun b o e=>η _ e,Yy _ lo (hi - lo).toNat,?_,fun b hb=>?_,q⟩
 ·have e1:lo+((0:Nat):Int)*1=lo:=by simp
  have e2:(((hi - lo).toNat:Nat):Int) - ((0:Nat):Int)=Κ.Range.rangeSize lo hi 1:=by rw [rangeSize_one];split <;> lia
  show IsRangeIter _ _ (lo+((0:Nat):Int)*1) ((((hi - lo).toNat:Nat):Int) - ((0:Nat):Int)) 1
  rw [e1,e2]
  exact υ _ rfl
 ·have e:b=(s.heap.push { cls:=.type "range",data:=.fields #[.int lo t,.int hi u,.int 1 v] }).objs.size:=by simpa using hb
  subst e
  exact I1.fpOk (ς _) (I1.hok.fresh (ς _))
def iRng1 (ta:TA):TI:=fun σ H R=>ta σ H fun vs H1=>∃ j:Int,vs=[.int j]/\-(2 ^ 62)<=j/\j < 2 ^ 62/\R (Itr 0 j.toNat) H1
def iRng2 (ta:TA):TI:=fun σ H R=>ta σ H fun vs H1=>∃ i j:Int,vs=[.int i,.int j]/\(-(2 ^ 62)<=i/\i < 2 ^ 62/\-(2 ^ 62)<=j/\j < 2 ^ 62)/\R (Itr i (j - i).toNat) H1
theorem XR {a:Expr}{ta:TA}{p pos:Pos}(hg:Gl X "range") (hm:X.mg "range"=none) (ha:PA X [a] ta) (hs:Ϣ [a] X.env=[(false,eval a X.env)]:=by rfl):PI X tg (.Call (.Name "range" p) [a] [] pos) (iRng1 ta):=by
 intro pJ s σ H R I h
 refine Call_ (wJ I hg hm boot_range (ϸ (thn (ha pos pJ s σ H _ I h) fun us s1 ⟨vs,H1,I1,r1,q1⟩=>?_) hs rfl))
 obtain ⟨j,e,q1,q2,q⟩:=q1
 subst e
 cases r1 with
 | cons r rr=>
  cases rr
  obtain ⟨t,rfl⟩:=r
  exact call_range_1 (ZW I1 (by lia) (by lia) q1 q2 (by simpa using q))
theorem XQ {a b:Expr}{ta:TA}{p pos:Pos}(hg:Gl X "range") (hm:X.mg "range"=none) (ha:PA X [a,b] ta) (hs:Ϣ [a,b] X.env=[(false,eval a X.env),(false,eval b X.env)]:=by rfl) (hs2:Ϣ [b] X.env=[(false,eval b X.env)]:=by rfl):
  PI X tg (.Call (.Name "range" p) [a,b] [] pos) (iRng2 ta):=by
 intro pJ s σ H R I h
 refine Call_ (wJ I hg hm boot_range (ϸ (thn (ha pos pJ s σ H _ I h) fun us s1 ⟨vs,H1,I1,r1,q1⟩=>?_) (by rw [hs,hs2]) (by rw [hs2];rfl)))
 obtain ⟨i,j,e,⟨q1,q2,q3,q4⟩,q⟩:=q1
 subst e
 cases r1 with
 | cons r rr=>
  cases rr with
  | cons r' rr=>
   cases rr
   obtain ⟨t,rfl⟩:=r
   obtain ⟨t',rfl⟩:=r'
   exact call_range_2 (ZW I1 q1 q2 q3 q4 q)
def tFor (wi:TI) (g:TG) (tb:TS):TS:=fun D σ H=>wi σ H fun J H1=>∃ W:Nat->Nat->St->Hp->Prop,(∃ m,W 0 m σ H1)/\∀ i m σ H,W i m σ H ->
 (J.stop i H/\D.nx σ H)\/(J.go i H/\∃ N:St->Hp->Prop,(∀ σ' H',N σ' H'->∃ m',m' < m/\W (i+1) m' σ' H')/\∀ x H',J.yld i H x H'->g x σ H' fun σ2 H2=>tb { D with nx:=N,ct:=N,bk:=D.nx } σ2 H2)
noncomputable def jY (fp:List Addr) (h:Heap):List (Addr×Obj):=fp.filterMap fun b=>(h.get? b).map fun o=>(b,o)
theorem yO {fp:List Addr}{h:Heap}{b:Addr}{o:Obj}(hb:b∈fp) (e:h.get? b=some o):(b,o)∈jY fp h:=o7.mpr ⟨b,hb,by rw [e];rfl⟩
theorem We {fp:List Addr}{h:Heap}{p:Addr×Obj}(hp:p∈jY fp h):p.1∈fp/\h.get? p.1=some p.2:=by
 obtain ⟨b,hb,e⟩:=o7.mp hp
 cases q:h.get? b with
 | none=>rw [q] at e;cases e
 | some o=>
  rw [q] at e
  have e':(b,o)=p:=ϙ e
  subst e'
  exact ⟨hb,q⟩
theorem Inv.pinned {pJ:List (Addr×Obj)}{σ:St}{H:Hp}{s:μ}{fp:List Addr}(I:Inv X pJ σ H s) (hf:∀ b∈fp,FpOk X pJ H b) (ho:∀ b∈fp,∃ o,s.heap.get? b=some o/\∀ v,o.data≠.cell v):Inv X (pJ++jY fp s.heap) σ H s:=
 I.qR fun p hp=>(Η.mp hp).elim (fun z=>I.pin p (Χ _ z)) fun z=>by
  obtain ⟨hb,e⟩:=We z
  obtain ⟨f0,f1,f2,_⟩:=hf p.1 hb
  obtain ⟨o,e',d⟩:=ho p.1 hb
  rw [e] at e';cases e'
  exact ⟨e,f0,f1,f2,d⟩
theorem Inv.xm {pJ pl:List (Addr×Obj)}{σ:St}{H:Hp}{s:μ}(I:Inv X (pJ++pl) σ H s):Inv X pJ σ H s:=I.qR fun p hp=>I.pin p (Χ _ (oN _ hp))
theorem zbJ {iter:Expr}{body:List Stmt}{wi:TI}{g:TG}{tb:TS}{pos:Pos}(hp:lr (Ι X.prog X.w) X.A X.env X.xe) (hc:X.calm=true) (hi:PI X tg iter wi) (hg:PG X tg g) (hb:PSs X body tb)
  (hs:∀ x,bU iter X.env x=pure x:=by intro _;rfl):PS X (.For tg iter body [] pos) (tFor wi g tb):=by
 intro pJ s σ H D I h
 refine wpAny_For (thn (hi pJ s σ H _ I h) fun v s1 h1=>thn h1 fun itv s2 h2=>?_) hs
 obtain ⟨it,fp,tn,J,H2,e,I2,T,st2,f2,W,⟨m0,w0⟩,turn⟩:=h2
 subst e
 have stat:∀ {H':Hp},(∀ b∈fp,H' b=none)->∀ b∈fp,FpOk X pJ H' b:=fun hn b hb=>⟨hn b hb,(f2 b hb).2⟩
 refine codeAny_forLoop_any (fun n s'=>∃ i σ' H',Inv X pJ σ' H' s'/\tn i s'.heap/\(∀ b∈fp,H' b=none)/\W i n σ' H') ?_ m0 ⟨0,σ,H2,I2,st2,fun b hb=>(f2 b hb).1,w0⟩
 rintro n s3 ⟨i,σ3,H3,I3,st3,fr3,w3⟩
 rcases turn i n σ3 H3 w3 with ⟨stop,qn⟩ | ⟨go,N,hN,step⟩
 ·refine cN hp (thn (T.done X rfl rfl rfl hc i pJ s3 σ3 H3 X.xe I3 (stat fr3) st3 stop) fun r s4 ⟨hr,I4⟩=>?_)
  subst hr
  exact fc ⟨σ3,H3,I4,qn⟩
 ·refine cN hp (thn (T.item X rfl rfl rfl hc i pJ s3 σ3 H3 X.xe I3 (stat fr3) st3 go) fun r s4 ⟨u,hr,h4⟩=>?_)
  subst hr
  refine cN hp (thn h4 fun _ s5 ⟨x,H5,I5,r5,y5,st5,fr5⟩=>?_)
  have I5':=I5.pinned (stat fr5) (T.obj _ _ st5)
  refine cN hp (thn (hg _ s5 σ3 H5 x u _ I5' r5 (step x H5 y5)) fun _ s6 ⟨σ6,H6,I6,q6⟩=>?_)
  refine cN hp (thn (hb _ s6 σ6 H6 _ I6 q6) fun f s7 q7=>?_)
  have again:∀ {σ7:St}{H7:Hp},Inv X (pJ++jY fp s5.heap) σ7 H7 s7->N σ7 H7->∃ m,m < n/\∃ i σ' H',Inv X pJ σ' H' s7/\tn i s7.heap/\(∀ b∈fp,H' b=none)/\W i m σ' H':=fun {σ7 H7} I7 n7=>by
   obtain ⟨m',hm,w7⟩:=hN σ7 H7 n7
   refine ⟨m',hm,i+1,σ7,H7,I7.xm,T.keep _ _ _ st5 fun b hb o e=>(I7.pin (b,o) (Χ _ (Χ _ (yO hb e)))).1,fun b hb=>?_,w7⟩
   obtain ⟨o,e,d⟩:=T.obj _ _ st5 b hb
   exact (I7.pin (b,o) (Χ _ (Χ _ (yO hb e)))).2.1
  cases f with
  | next=>obtain ⟨σ7,H7,I7,n7⟩:=q7;exact again I7 n7
  | cont=>obtain ⟨σ7,H7,I7,n7⟩:=q7;exact again I7 n7
  | brk=>obtain ⟨σ7,H7,I7,q7⟩:=q7;exact ⟨σ7,H7,I7.xm,q7⟩
  | ret v=>obtain ⟨x7,σ7,H7,I7,r7,q7⟩:=q7;exact ⟨x7,σ7,H7,I7.xm,r7,q7⟩
end
abbrev R2:=V->V->Hp->VK->Prop
def OpR (X:Cx) (f:δ->δ->Sem δ) (r:R2):Prop:=
 ∀ (pJ:List (Addr×Obj)) (s:μ) (σ:St) (H:Hp) (x y:V) (v u:δ) (Q:VK),Inv X pJ σ H s->RelV x v->RelV y u->r x y H Q ->
  ψ (Ι X.prog X.w) X.A (f v u) (EP X pJ σ Q) X.xe s
def CallR (X:Cx) (f:δ) (r:List V->Hp->VK->Prop):Prop:=
 ∀ (pJ:List (Addr×Obj)) (s:μ) (σ:St) (H:Hp) (xs:List V) (us:List δ) (Q:VK),Inv X pJ σ H s->Vals xs us->r xs H Q ->
  ψ (Ι X.prog X.w) X.A (call f us) (EP X pJ σ Q) X.xe s
def tOp (r:R2) (ta tb:TE):TE:=fun σ H Q=>ta σ H fun x H1=>tb σ H1 fun y H2=>r x y H2 Q
def rI (C:Int->Int->Prop) (g:Int->Int->V):R2:=fun x y H Q=>∃ i j,x=.int i/\y=.int j/\C i j/\Q (g i j) H
def rI0 (g:Int->Int->V):R2:=fun x y H Q=>∃ i j,x=.int i/\y=.int j/\Q (g i j) H
section
variable {X:Cx}{a b c:Expr}{ta tb tc:TE}{pos:Pos}
theorem binT (ha:PE X a ta) (hb:PE X b tb) {pJ:List (Addr×Obj)}{s:μ}{σ:St}{H:Hp}{R:V->V->Hp->Prop}(I:Inv X pJ σ H s)
  (h:ta σ H fun x H1=>tb σ H1 fun y H2=>R x y H2) {Q:VSP}{f:δ->δ->Sem δ}
  (hf:∀ v u s2 x y H2,Inv X pJ σ H2 s2->RelV x v->RelV y u->R x y H2->ψ (Ι X.prog X.w) X.A (f v u) Q X.xe s2):
  ψ (Ι X.prog X.w) X.A (eval a X.env) (fun v s₁=>ψ (Ι X.prog X.w) X.A (eval b X.env) (fun u s₂=>ψ (Ι X.prog X.w) X.A (f v u) Q X.xe s₂) X.xe s₁) X.xe s:=by
 refine thn (ha pJ s σ H _ I h) fun v s1 ⟨x,H1,I1,r1,q1⟩=>?_
 refine thn (hb pJ s1 σ H1 _ I1 q1) fun u s2 ⟨y,H2,I2,r2,q2⟩=>?_
 exact hf v u s2 x y H2 I2 r1 r2 q2
theorem pe_op {op:mJ}{r:R2}(ho:OpR X (bM op) r) (ha:PE X a ta) (hb:PE X b tb):PE X (.BinOp a op b pos) (tOp r ta tb):=by
 intro pJ s σ H Q I h
 exact wpAny_BinOp (binT ha hb I h fun v u s2 x y H2 I2 rx ry q=>ho pJ s2 σ H2 x y v u Q I2 rx ry q)
theorem opI {f:δ->δ->Sem δ}{C:Int->Int->Prop}{g:Int->Int->Int}
  (rule:∀ (i j:Int) (t u:Tok) (s:μ) (Q:VSP) (E:VSP),C i j->Q (.int (g i j) s.toks) { s with toks:=s.toks+1 }->ψ (Ι X.prog X.w) X.A (f (.int i t) (.int j u)) Q E s):
  OpR X f (rI C fun i j=>.int (g i j)):=by
 intro pJ s σ H x y v u Q I rx ry h
 obtain ⟨i,j,rfl,rfl,hc,q⟩:=h
 obtain ⟨t,rfl⟩:=rx
 obtain ⟨t',rfl⟩:=ry
 exact rule i j t t' s _ _ hc ⟨.int (g i j),H,I.tok _,⟨_,rfl⟩,q⟩
theorem opI0 {f:δ->δ->Sem δ}{g:Int->Int->Int}
  (rule:∀ (i j:Int) (t u:Tok) (s:μ) (Q:VSP) (E:VSP),Q (.int (g i j) s.toks) { s with toks:=s.toks+1 }->ψ (Ι X.prog X.w) X.A (f (.int i t) (.int j u)) Q E s):
  OpR X f (rI0 fun i j=>.int (g i j)):=by
 intro pJ s σ H x y v u Q I rx ry h
 obtain ⟨i,j,rfl,rfl,q⟩:=h
 obtain ⟨t,rfl⟩:=rx
 obtain ⟨t',rfl⟩:=ry
 exact rule i j t t' s _ _ ⟨.int (g i j),H,I.tok _,⟨_,rfl⟩,q⟩
theorem opB0 {f:δ->δ->Sem δ}{g:Int->Int->Bool}
  (rule:∀ (i j:Int) (t u:Tok) (s:μ) (Q:VSP) (E:VSP),Q (.bool (g i j)) s->ψ (Ι X.prog X.w) X.A (f (.int i t) (.int j u)) Q E s):
  OpR X f (rI0 fun i j=>.bl (g i j)):=by
 intro pJ s σ H x y v u Q I rx ry h
 obtain ⟨i,j,rfl,rfl,q⟩:=h
 obtain ⟨t,rfl⟩:=rx
 obtain ⟨t',rfl⟩:=ry
 exact rule i j t t' s _ _ ⟨.bl (g i j),H,I,rfl,q⟩
def CPow (i j:Int):Prop:=0<=j/\j<=1000000/\i.natAbs < 2 ^ 64
def CMul (i j:Int):Prop:=(-(2 ^ 64) < i/\i < 2 ^ 64)\/(-(2 ^ 64) < j/\j < 2 ^ 64)
theorem CMul.ok {i j:Int}(h:CMul i j):IntMulOk i j:=by
 rcases h with ⟨h1,h2⟩ | ⟨h1,h2⟩
 ·exact .of_left (intBits_le_64 h1 h2)
 ·exact .of_right (intBits_le_64 h1 h2)
theorem zb2:OpR X (bM .Add) (rI0 fun i j=>.int (i+j)):=opI0 fun _ _ _ _ _ _ _ q=>add_int q
theorem zbS:OpR X (bM .Sub) (rI0 fun i j=>.int (i - j)):=opI0 fun _ _ _ _ _ _ _ q=>sub_int q
theorem zbW:OpR X (bM .Mult) (rI CMul fun i j=>.int (i*j)):=opI fun _ _ _ _ _ _ _ hc q=>mul_int q hc.ok
theorem zbX:OpR X (bM .Mod) (rI (fun _ j=>0 < j) fun i j=>.int (i % j)):=opI fun i j _ _ _ _ _ hc q=>by
 have h1:(0:Int) < j:=hc
 exact mod_int' (by lia) (by rw [Int.fmod_eq_emod_of_nonneg i (by lia)];exact q)
theorem zbU:OpR X (bM .Pow) (rI CPow fun i j=>.int (i ^ j.toNat)):=opI fun _ _ _ _ _ _ _ hc q=>pow_int_small hc.1 hc.2.1 hc.2.2 q
end
section
variable {X:Cx}{a b c:Expr}{ta tb tc:TE}{pos:Pos}
theorem qi {pJ:List (Addr×Obj)}{σ:St}{H:Hp}{s:μ}{Q:VK}{k k':Bool}(I:Inv X pJ σ H s) (q:Q (.bl k) H) (e:k=k'):EP X pJ σ Q (.bool k') s:=by
 subst e
 exact ⟨.bl k,H,I,rfl,q⟩
theorem op_lt:OpR X (ϔ .Lt) (rI0 fun i j=>.bl (decide (i < j))):=opB0 fun _ _ _ _ _ _ _ q=>lt_int q
theorem op_le:OpR X (ϔ .LtE) (rI0 fun i j=>.bl (decide (i<=j))):=opB0 fun _ _ _ _ _ _ _ q=>le_int q
theorem op_gt:OpR X (ϔ .Gt) (rI0 fun i j=>.bl (decide (j < i))):=opB0 fun _ _ _ _ _ _ _ q=>gt_int q
theorem op_ge:OpR X (ϔ .GtE) (rI0 fun i j=>.bl (decide (j<=i))):=opB0 fun _ _ _ _ _ _ _ q=>ge_int q
theorem Wc:OpR X (ϔ .In) (fun x y H Q=>∃ i j,x=.str i/\y=.str j/\Q (.bl (!(eX j i 0 j.length 1).isEmpty)) H):=by
 intro pJ s σ H x y v u Q I rx ry h
 obtain ⟨i,j,rfl,rfl,q⟩:=h
 obtain ⟨t,rfl⟩:=rx
 obtain ⟨t',rfl⟩:=ry
 exact in_str (qi I q rfl)
theorem zbY:OpR X (ϔ .Is) (fun x y H Q=>y=.non/\Q (.bl (decide (x=.non))) H):=by
 intro pJ s σ H x y v u Q I rx ry h
 obtain ⟨rfl,q⟩:=h
 cases ry
 refine is_none_gen (qi I q ?_)
 cases x <;> first
  | (cases rx;rfl)
  | (obtain ⟨t,rfl⟩:=rx;rfl)
theorem QK:OpR X (ϔ .IsNot) (fun x y H Q=>y=.non/\Q (.bl (!decide (x=.non))) H):=by
 intro pJ s σ H x y v u Q I rx ry h
 obtain ⟨rfl,q⟩:=h
 cases ry
 refine isnot_none_gen (qi I q ?_)
 cases x <;> first
  | (cases rx;rfl)
  | (obtain ⟨t,rfl⟩:=rx;rfl)
theorem OpR.or {f:δ->δ->Sem δ}{r r':R2}(h:OpR X f r) (h':OpR X f r'):OpR X f (fun x y H Q=>r x y H Q\/r' x y H Q):=by
 intro pJ s σ H x y v u Q I rx ry q
 rcases q with q | q
 ·exact h pJ s σ H x y v u Q I rx ry q
 ·exact h' pJ s σ H x y v u Q I rx ry q
theorem QG {op:gj}{r:R2}(ho:OpR X (ϔ op) r) (ha:PE X a ta) (hb:PE X b tb) (hm:behindInMarks op b=false):PE X (.Compare a [op] [b] pos) (tOp r ta tb):=by
 intro pJ s σ H Q I h
 exact wpAny_Compare1 (binT ha hb I h fun v u s2 x y H2 I2 rx ry q=>ho pJ s2 σ H2 x y v u Q I2 rx ry q) hm
def tTest (t:TE):TT:=fun σ H Q=>t σ H fun x H'=>∃ k,x=.bl k/\Q k H'
theorem Qv {op:gj}{r:R2}(ho:OpR X (ϔ op) r) (ha:PE X a ta) (hb:PE X b tb) (hm:behindInMarks op b=false):PT X (.Compare a [op] [b] pos) (tTest (tOp r ta tb)):=by
 intro pJ s σ H Q I h
 refine wpAny_isTrue_Compare1 (thn (ha pJ s σ H _ I h) fun v s1 ⟨x,H1,I1,r1,q1⟩=>thn (hb pJ s1 σ H1 _ I1 q1) fun u s2 ⟨y,H2,I2,r2,q2⟩=>
  thn (ho pJ s2 σ H2 x y v u _ I2 r1 r2 q2) fun c s3 ⟨z,H3,I3,r3,k,e,q3⟩=>?_) hm
 subst e
 cases r3
 exact bw ⟨H3,I3,q3⟩
theorem kh:(sizeLine:Nat) < 2 ^ 63:=by rw [aF];decide
theorem YM:OpR X (bM .Add) (fun x y H Q=>∃ i j,x=.str i/\y=.str j/\i.length+j.length<=sizeLine/\Q (.str (i++j)) H):=by
 intro pJ s σ H x y v u Q I rx ry h
 obtain ⟨i,j,rfl,rfl,hz,q⟩:=h
 obtain ⟨t,rfl⟩:=rx
 obtain ⟨t',rfl⟩:=ry
 exact add_str (fun t' tk=>⟨.str (i++j),H,I.tok _,⟨_,rfl⟩,q⟩) hz
theorem vals1 {x:V}{us:List δ}(r:Vals [x] us):∃ u,us=[u]/\RelV x u:=by
 cases r with
 | cons r1 r2=>cases r2;exact ⟨_,rfl,r1⟩
theorem vals2 {x y:V}{us:List δ}(r:Vals [x,y] us):∃ u w',us=[u,w']/\RelV x u/\RelV y w':=by
 cases r with
 | cons r1 r2=>
  cases r2 with
  | cons r3 r4=>cases r4;exact ⟨_,_,rfl,r1,r3⟩
theorem Jj:CallR X (.builtin "abs") (fun xs H Q=>∃ i,xs=[.int i]/\Q (.int (if i < 0 then -i else i)) H):=by
 intro pJ s σ H xs us Q I r h
 obtain ⟨i,rfl,q⟩:=h
 obtain ⟨u,rfl,t,rfl⟩:=vals1 r
 exact call_abs_int fun u tk=>⟨.int (if i < 0 then -i else i),H,I.tok _,⟨_,rfl⟩,q⟩
theorem Vs (hc:X.calm=true):CallR X (.builtin "max") (fun xs H Q=>∃ i j,xs=[.int i,.int j]/\Q (.int (if j > i then j else i)) H):=by
 intro pJ s σ H xs us Q I r h
 obtain ⟨i,j,rfl,q⟩:=h
 obtain ⟨u,w',rfl,⟨t,rfl⟩,⟨t',rfl⟩⟩:=vals2 r
 refine max_two_ints (I.ok.hd hc) fun h' tk k=>⟨_,H,I.kept k,?_,q⟩
 by_cases hj:j > i
 ·rw [if_pos hj,if_pos hj];exact ⟨_,rfl⟩
 ·rw [if_neg hj,if_neg hj];exact ⟨_,rfl⟩
theorem Vr (hc:X.calm=true):CallR X (.builtin "min") (fun xs H Q=>∃ i j,xs=[.int i,.int j]/\Q (.int (if j < i then j else i)) H):=by
 intro pJ s σ H xs us Q I r h
 obtain ⟨i,j,rfl,q⟩:=h
 obtain ⟨u,w',rfl,⟨t,rfl⟩,⟨t',rfl⟩⟩:=vals2 r
 refine min_two_ints (I.ok.hd hc) fun h' tk k=>⟨_,H,I.kept k,?_,q⟩
 by_cases hj:j < i
 ·rw [if_pos hj,if_pos hj];exact ⟨_,rfl⟩
 ·rw [if_neg hj,if_neg hj];exact ⟨_,rfl⟩
theorem qx:CallR X (.type "int") (fun xs H Q=>(∃ i,xs=[.int i]/\Q (.int i) H)\/∃ k,xs=[.bl k]/\Q (.int (if k then 1 else 0)) H):=by
 intro pJ s σ H xs us Q I r h
 rcases h with ⟨i,rfl,q⟩ | ⟨k,rfl,q⟩
 ·obtain ⟨u,rfl,t,rfl⟩:=vals1 r
  exact call_int_int ⟨.int i,H,I,⟨_,rfl⟩,q⟩
 ·obtain ⟨u,rfl,r1⟩:=vals1 r
  cases r1
  exact call_int_bool ⟨.int (if k then 1 else 0),H,I.tok _,⟨_,rfl⟩,q⟩
end
structure ObjM (h:Heap) (x dx C:Addr) (mA:Str->Option δ):Prop where
 obj:h.get? x=some (W.instObj C dx)
 ns:h.Ns1 dx mA
 ne:dx≠x
set_option tactic.hygienic true in
theorem Ww {h:Heap}{dx:Addr}{mA:Str->Option δ}(n:h.Ns1 dx mA):∃ od,h.get? dx=some od/\∀ name,W.lookIn name od=some (mA name):=by
 obtain ⟨o,es,ep,ho,hd,hk,_,hm⟩:=n
 refine ⟨o,ho,fun name=>?_⟩
 have e:=hm name
 unfold nsFind findBy at e
 rw [<- Array.find?_toList] at e
 unfold W.lookIn
 rw [hd]
 dsimp only
 split
 ·rename_i y q
  rw [q] at e
  exact congrArg some e
 ·rename_i q
  rw [q] at e
  have a:es.toList.any (·.refKey)=false:=by
   rw [List.any_eq_false]
   intro y hy
   obtain ⟨z,t,hkey⟩:=hk y (Array.mem_toList_iff.mp hy)
   simp [cg.refKey,hkey]
  have a':¬ es.toList.any (·.refKey)=true:=by rw [a];exact Τ
  rw [if_neg a']
  exact congrArg some e
theorem ObjM.look {h:Heap}{x dx C:Addr}{mA:Str->Option δ}(I:ObjM h x dx C mA):∃ od,W.InstAt h x (W.instObj C dx) C (some od)/\∀ name,W.lookIn name od=some (mA name):=
 let ⟨od,ho,hl⟩:=Ww I.ns
 ⟨od,⟨I.obj,rfl,rfl,ho⟩,hl⟩
theorem RelO.some_of {v:V}{o:Option δ}(r:RelO (some v) o):∃ u,o=some u/\RelV v u:=by
 cases o with
 | none=>exact (show False from r).elim
 | some u=>exact ⟨u,rfl,r⟩
section
variable {P:Μ}{w:ϒ}{H H':Hp}{h h':Heap}{a C dx:Addr}{fs fs':List (Str×V)}
theorem zaj (hok:HOk P w H h) (e:H a=some (.ins C dx fs)):∃ mA,ObjM h a dx C mA/\(∀ f,RelO (fs.lookup f) (mA f))/\PySem.Within mA (fs.map (·.1))/\fs.length<=1000/\H dx=some (.own a):=by
 obtain ⟨d,z,ne,ob,mA,n,r,q⟩:=(show ObjOk P w H h a (.ins C dx fs) from hok a _ e)
 exact ⟨mA,⟨ob,n,ne⟩,r,q,z,d⟩
end
structure Cls (K:W.Frag) (C:Addr):Prop where
 pg:W.plainGet K C Str.empty=true
 hd:W.hasDictIn K C=true
 po:W.plainOver K C=true
 sa:W.findIn K (.ref C) "__setattr__"=some (some (.builtin "object.__setattr__"))
theorem Cls.get {K:W.Frag}{C:Addr}(c:Cls K C) (f:Str):W.plainGet K C f=true:=c.pg
section
variable {X:Cx}{pJ:List (Addr×Obj)}{σ:St}{H:Hp}{s:μ}{A:ϑ}{E:VSP}{Q:VSP}{c:δ}{b:Bool}
inductive TyOf (K:W.Frag) (H:Hp):V->δ->Prop where
 | non:TyOf K H .non (.type "NoneType")
 | bl (x:Bool):TyOf K H (.bl x) (.type "bool")
 | int (i:Int):TyOf K H (.int i) (.type "int")
 | str (x:Str):TyOf K H (.str x) (.type "str")
 | flt (x:UInt64):TyOf K H (.flt x) (.type "float")
 | lst {a:Addr}{xs:List V}(e:H a=some (.lst xs)):TyOf K H (.ref a) (.type "list")
 | frz {a:Addr}{o:Obj}{xs:List V}(e:H a=some (.frz o (.lst xs))):TyOf K H (.ref a) (.type "list")
 | tup {a:Addr}{xs:List V}(e:H a=some (.tup xs)):TyOf K H (.ref a) (.type "tuple")
 | dK {a:Addr}{kvs:List (Key×V)}(e:H a=some (.dK kvs)):TyOf K H (.ref a) (.type "dict")
 | dT {a:Addr}{kvs:List (List Key×V)}(e:H a=some (.dT kvs)):TyOf K H (.ref a) (.type "dict")
 | ins {a C dx:Addr}{fs:List (Str×V)}(e:H a=some (.ins C dx fs)) (cl:Cls K C) (ha:W.findIn K (.ref C) "__class__"=some (some (.builtin "object.__class__")))
   (hn:W.specialIn K (.builtin "object.__class__") "__get__"=some (some (.builtin "getset_descriptor.__get__"))) (htk:W.takesIn K (.builtin "object.__class__")=some true)
   (hm:W.mroIn K C (.type "object")=some true):TyOf K H (.ref a) (.ref C)
theorem WK {x:V}{u t:δ}(I:Inv X pJ σ H s) (rx:RelV x u) (ty:TyOf X.K H x t) (e:W.kitOne X.K t c=some b) (h:∀ tk,Q (.bool b) { s with toks:=tk }):
  ψ (Ι X.prog X.w) A (call (.builtin "isinstance") [u,c]) Q E s:=by
 cases ty with
 | non=>cases (show u=Β from rx);exact W.kia_one W.kitx_none I.kIn aR e (fun z=>nomatch z) h
 | bl y=>cases (show u=ύ y from rx);exact W.kia_one W.kitx_bool I.kIn aR e (fun z=>nomatch z) h
 | int i=>obtain ⟨t,q⟩:=(show ∃ t,u=ϕ i t from rx);cases q;exact W.kia_one W.kitx_int I.kIn aR e (fun z=>nomatch z) h
 | str y=>obtain ⟨t,q⟩:=(show ∃ t,u=aY y t from rx);cases q;exact W.kia_one W.kitx_str I.kIn aR e (fun z=>nomatch z) h
 | flt y=>obtain ⟨t,q⟩:=(show ∃ t,u=δ.float y t from rx);cases q;exact W.kia_one W.kitx_float I.kIn aR e (fun z=>nomatch z) h
 | @lst a xs ea=>
  cases (show u=Α a from rx)
  obtain ⟨_,_,n,_,h1⟩:=(show ObjOk X.prog X.w H s.heap a (.lst xs) from I.hok a _ ea)
  exact W.kia_one W.kitx_list I.kIn ⟨_,h1,rfl⟩ e (fun z=>nomatch z) h
 | @frz a ob xs ea=>
  cases (show u=Α a from rx)
  obtain ⟨_,_,_,n,_,h1⟩:=(show ObjOk X.prog X.w H s.heap a (.frz ob (.lst xs)) from I.hok a _ ea)
  exact W.kia_one W.kitx_list I.kIn ⟨_,h1,rfl⟩ e (fun z=>nomatch z) h
 | @tup a xs ea=>
  cases (show u=Α a from rx)
  obtain ⟨_,_,_,p⟩:=(show ObjOk X.prog X.w H s.heap a (.tup xs) from I.hok a _ ea)
  obtain ⟨o,h1,h2,_⟩:=p
  exact W.kia_one W.kitx_tuple I.kIn ⟨o,h1,h2⟩ e (fun z=>nomatch z) h
 | @dK a kvs ea=>
  cases (show u=Α a from rx)
  obtain ⟨_,_,vs,_,p⟩:=(show ObjOk X.prog X.w H s.heap a (.dK kvs) from I.hok a _ ea)
  obtain ⟨o,es,ep,h1,h2,_⟩:=p
  exact W.kia_one W.kitx_dict I.kIn ⟨o,h1,h2.1⟩ e (fun z=>nomatch z) h
 | @dT a kvs ea=>
  cases (show u=Α a from rx)
  obtain ⟨_,_,xs,_,o,es,ep,h1,h2,_⟩:=(show ObjOk X.prog X.w H s.heap a (.dT kvs) from I.hok a _ ea)
  exact W.kia_one W.kitx_dict I.kIn ⟨o,h1,h2.1⟩ e (fun z=>nomatch z) h
 | @ins a C dx fs ea cl ha hn htk hm=>
  cases (show u=Α a from rx)
  obtain ⟨mA,O,_⟩:=zaj I.hok ea
  obtain ⟨od,J,_⟩:=O.look
  exact W.kia_one (W.kitx_own (cl.get _) cl.hd ha hn htk hm) I.kIn J e (fun z=>nomatch z) h
end
structure Room (k:Nat) (A:ϑ):Prop where
 hd:A.handled=none
 gd:A.guards=some []
 dp:A.depth+3*k+5 < recursionLimit
 un:A.units+16*k+200 < aG
theorem Room.mono {j k:Nat}{A:ϑ}(r:Room k A) (h:j<=k):Room j A:=⟨r.hd,r.gd,by have:=r.dp;lia,by have:=r.un;lia⟩
theorem Room.deeper {k:Nat}{A:ϑ}(r:Room (k+1) A) (env:Env):Room k (A.deeper env):=
 ⟨r.hd,r.gd,by have:=r.dp;show A.depth+1+3*k+5 < _;lia,by have:=r.un;show A.units+3+16*k+200 < _;lia⟩
theorem Room.in1 {k:Nat}{A:ϑ}(r:Room (k+1) A):Room k A.in1:=
 ⟨r.hd,r.gd,by have:=r.dp;show A.depth+3*k+5 < _;lia,by have:=r.un;show A.units+1+16*k+200 < _;lia⟩
theorem Room.depth {k:Nat}{A:ϑ}(r:Room k A):A.depth < recursionLimit:=by have:=r.dp;lia
theorem Room.units {k:Nat}{A:ϑ}(r:Room k A):A.units+64 < aG:=by have:=r.un;lia
def tNil:TA:=fun _ H Q=>Q [] H
def tCons (ta:TE) (tr:TA):TA:=fun σ H Q=>ta σ H fun x H1=>tr σ H1 fun xs H2=>Q (x::xs) H2
section
variable {X:Cx}{e:Expr}{es:List Expr}{te:TE}{t:TA}{pos:Pos}
theorem yx:PA X [] tNil:=fun _ _ _ _ H Q I h=>iV ⟨[],H,I,.nil,h⟩
theorem zN (ha:PE X e te) (hr:PA X es t) (hs:Ϣ (e::es) X.env=(false,eval e X.env)::Ϣ es X.env:=by rfl):PA X (e::es) (tCons te t):=by
 intro pos pJ s σ H Q I h
 rw [hs]
 show ψ _ _ (spliced ((false,eval e X.env)::fB pos (Ϣ es X.env))) _ _ s
 refine ir (thn (ha pJ s σ H _ I h) fun u s1 ⟨x,H1,I1,r1,q1⟩=>?_)
 exact thn (hr pos pJ s1 σ H1 _ I1 q1) fun us s2 ⟨xs,H2,I2,r2,q2⟩=>⟨x::xs,H2,I2,.cons r1 r2,q2⟩
def tTup (t:TA):TE:=fun σ H Q=>t σ H fun xs H1=>xs.length<=sizeLine/\∀ p,H1 p=none->Q (.ref p) (upd H1 p (.tup xs))
def tLst (t:TA):TE:=fun σ H Q=>t σ H fun xs H1=>xs.length<=sizeLine/\∀ p,H1 p=none->Q (.ref p) (upd H1 p (.lst xs))
theorem zbN {x1} (h:PA X es t):PE X (.Tuple es x1 pos) (tTup t):=by
 intro pJ s σ H Q I hq
 refine wpAny_Tuple_spliced (thn (h pos pJ s σ H _ I hq) fun us s1 ⟨xs,H1,I1,r,z,q⟩=>⟨by rw [<- r.length];exact z,?_⟩)
 have hf:H1 s1.heap.objs.size=none:=I1.hok.fresh (ς _)
 refine ⟨.ref s1.heap.objs.size,upd H1 s1.heap.objs.size (.tup xs),I1.laid (t':=s1.toks) (fun b u e=>η _ e) (ς _) ?_,rfl,q _ hf⟩
 exact ⟨z,us,r,⟨_,υ _ rfl,rfl,_,rfl⟩⟩
theorem zbP (h:PA X es t):PE X (.List es pos) (tLst t):=by
 intro pJ s σ H Q I hq
 refine wpAny_List_spliced (thn (h pos pJ s σ H _ I hq) fun us s1 ⟨xs,H1,I1,r,z,q⟩=>⟨by rw [<- r.length];exact z,?_⟩)
 have hf:H1 s1.heap.objs.size=none:=I1.hok.fresh (ς _)
 refine ⟨.ref s1.heap.objs.size,upd H1 s1.heap.objs.size (.lst xs),I1.laid (t':=s1.toks) (fun b u e=>η _ e) (ς _) ?_,rfl,q _ hf⟩
 exact ⟨z,us,0,r,υ _ rfl⟩
end
abbrev Sp:=List V->Hp->VK->XK->Prop
abbrev CXT:=List Env->Hp->μ->XK->δ->μ->Prop
structure Env0 (P:Μ) (w:ϒ) (K:W.Frag) (mg:Str->Option δ) (base:Heap) (A:ϑ) (outer:List Env) (s:μ) (H:Hp):Prop where
 frames:A.frames=some outer
 mod:Mod K mg base
 bs:∀ b o,base.get? b=some o->s.heap.get? b=some o/\H b=none
 bsz:base.objs.size<=s.heap.objs.size
 funs:s.heap.FunFrames base outer
 frf:∀ b∈frs outer,H b=none
 hok:HOk P w H s.heap
 bare:gk s.gens
def CE (outer:List Env) (P:Μ) (w:ϒ) (H:Hp) (s:μ) (Q:VK) (u:δ) (s':μ):Prop:=
 ∃ v H',s'.os=s.os/\gk s'.gens/\Un (frs outer) [] H H' s.heap s'.heap/\HOk P w H' s'.heap/\RelV v u/\Q v H'
def CR (CX:CXT) (outer:List Env) (P:Μ) (w:ϒ) (H:Hp) (s:μ) (Q:VK) (E:XK) (r:Result) (s':μ):Prop:=
 match r with
 | .ok (.ret u)=>CE outer P w H s Q u s'
 | .ok _=>False
 | .error e=>CX outer H s E e s'
structure FnOk (P:Μ) (w:ϒ) (K:W.Frag) (mg:Str->Option δ) (base:Heap) (CX:CXT) (k:Nat) (f:Addr) (fd:bj) (ps:List Str) (sp:Sp):Prop where
 len:∀ vs H Q E,sp vs H Q E->vs.length=ps.length
 run:∀ (A:ϑ) (outer:List Env) (s:μ) (H:Hp) (args:Args) (us:List δ) (vs:List V) (Q:VK) (E:XK),Room k A->Env0 P w K mg base A outer s H->BindsTo s fd args (ps.zip us)->Vals vs us->sp vs H Q E ->
  lg (Ι P w) A (.call (.ref f) args) (CR CX outer P w H s Q E) s
theorem FnOk.mono {P:Μ}{w:ϒ}{K:W.Frag}{mg:Str->Option δ}{base:Heap}{CX:CXT}{j k:Nat}{f:Addr}{fd:bj}{ps:List Str}{sp:Sp}(F:FnOk P w K mg base CX j f fd ps sp) (h:j<=k):
  FnOk P w K mg base CX k f fd ps sp:=⟨F.len,fun A outer s H args us vs Q E hr=>F.run A outer s H args us vs Q E (hr.mono h)⟩
theorem Env0.in1 {P:Μ}{w:ϒ}{K:W.Frag}{mg:Str->Option δ}{base:Heap}{A:ϑ}{outer:List Env}{s:μ}{H:Hp}(e:Env0 P w K mg base A outer s H):
  Env0 P w K mg base A.in1 outer s H:=⟨e.frames,e.mod,e.bs,e.bsz,e.funs,e.frf,e.hok,e.bare⟩
section
variable {X:Cx}{pJ:List (Addr×Obj)}{σ:St}{H:Hp}{s s':μ}
theorem Inv.env0 (I:Inv X pJ σ H s):Env0 X.prog X.w X.K X.mg X.base X.A X.stack s H:=
 ⟨I.ok.frames,I.ok.mod,I.bs,ϣ I.ok.bsz I.sz,I.stack,I.u6,I.hok,I.bare⟩
theorem Inv.after {Q:VK}{u:δ}(I:Inv X pJ σ H s) (h:CE X.stack X.prog X.w H s Q u s'):EP X pJ σ Q u s':=by
 obtain ⟨v,H',os,bare,un,hok,r,q⟩:=h
 obtain ⟨hh,g,d,t,os'⟩:=s'
 obtain rfl:os'=s.os:=os
 exact ⟨v,H',I.call (h':=hh) (g':=g) (d':=d) (t':=t) (ch:=[]) un hok bare (fun b z=>absurd z (by simp)),r,q⟩
end
def tCall (sp:Sp) (dvs:List V) (E:XK) (t:TA):TE:=fun σ H Q=>t σ H fun vs H1=>sp (vs++dvs) H1 Q E
def Binds (K:W.Frag) (fd:bj) (ps:List Str) (ds:List δ):Prop:=
 ∀ (s:μ) (us:List δ),K.In s.heap->(us++ds).length=ps.length->BindsTo s fd ⟨us,[]⟩ (ps.zip (us++ds))
theorem Binds.all {K:W.Frag}{fd:bj}{ps:List Str}(h:∀ us:List δ,us.length=ps.length->bindArgs fd ⟨us,[]⟩=pure (ps.zip us)):Binds K fd ps []:=fun s us _ hl=>by
 rw [χ] at hl ⊢
 exact .of_eq (h us hl)
def qI (CX:CXT) (X:Cx) (E:XK):Prop:=∀ (pJ:List (Addr×Obj)) (σ:St) (H:Hp) (s:μ) (e:δ) (s':μ),Inv X pJ σ H s->CX X.stack H s E e s'->X.xe e s'
section
variable {X:Cx}{CX:CXT}{k:Nat}{f C:Addr}{fd:bj}{ps:List Str}{sp:Sp}{dvs:List V}{ds:List δ}{E:XK}{x m:Str}{p pos apos:Pos}{e o:Expr}{es:List Expr}{ta:TE}{t:TA}
theorem zbC {pJ:List (Addr×Obj)}{σ:St}{H:Hp}{s:μ}{Q:VK}{us:List δ}{vs:List V}(F:FnOk X.prog X.w X.K X.mg X.base CX k f fd ps sp) (hr:Room k X.A) (hb:Binds X.K fd ps ds) (hd:Vals dvs ds) (hx:qI CX X E)
  (I:Inv X pJ σ H s) (r:Vals vs us) (h:sp (vs++dvs) H Q E):ψ (Ι X.prog X.w) X.A (call (.ref f) us) (EP X pJ σ Q) X.xe s:=by
 have r2:Vals (vs++dvs) (us++ds):=r.append hd
 have hl:(us++ds).length=ps.length:=by rw [<- r2.length];exact F.len _ _ _ _ h
 refine oA (dX (F.run X.A X.stack s H ⟨us,[]⟩ (us++ds) (vs++dvs) Q E hr I.env0 (hb s us I.kIn hl) r2 h) fun r s' hq=>?_)
 cases r with
 | error e=>exact hx pJ σ H s e s' I hq
 | ok fl=>
  cases fl with
  | ret u=>exact I.after hq
  | next=>exact Ϥ hq
  | brk=>exact Ϥ hq
  | cont=>exact Ϥ hq
theorem QH (F:FnOk X.prog X.w X.K X.mg X.base CX k f fd ps sp) (hr:Room k X.A) (hg:Gl X x) (hm:X.mg x=some (.ref f)) (hk:W.keepIn X.K (.ref f)=true) (hb:Binds X.K fd ps ds) (hd:Vals dvs ds) (hx:qI CX X E)
  (ha:PA X (e::es) t) (hdb:(x==("__debug__":Str))=false:=by decide) (he:Ϣ (e::es) X.env=(false,eval e X.env)::Ϣ es X.env:=by rfl) (hpl:(fB pos (Ϣ es X.env)).any (·.1)=false:=by rfl):
  PE X (.Call (.Name x p) (e::es) [] pos) (tCall sp dvs E t):=by
 intro pJ s σ H Q I h
 refine bL (xZ I hg hm ?_ hdb)
 refine W.callWith_K (h₀:=X.base) I.ok.mod.kin hk (thn (ha pos pJ s σ H _ I h) fun us s1 ⟨vs,H1,I1,r,q⟩=>⟨I1.kIn,?_⟩) he hpl
 exact zbC F hr hb hd hx I1 r q
end
def PK (X:Cx) (kws:List cW) (t:TA):Prop:=
 ∀ (pos:Pos) (pJ:List (Addr×Obj)) (s:μ) (σ:St) (H:Hp) (Q:List V->Hp->Prop),Inv X pJ σ H s->t σ H Q->ψ (Ι X.prog X.w) X.A (evalAll ((c7 pos (aZ kws X.env)).map (·.2))) (AP X pJ σ Q) X.xe s
section
variable {X:Cx}{CX:CXT}{k:Nat}{f C:Addr}{fd:bj}{ps ks:List Str}{sp:Sp}{E:XK}{x m:Str}{p pos apos kpos:Pos}{e o:Expr}{es:List Expr}{kws:List cW}{te ta:TE}{t tk:TA}{nm:Option Str}
theorem zbL:PK X [] tNil:=fun _ _ _ _ H Q I h=>wpAny_evalAll_nil ⟨[],H,I,.nil,h⟩
theorem QC (ha:PE X e te) (hr:PK X kws t):PK X (⟨nm,e,kpos⟩::kws) (tCons te t):=by
 intro pos pJ s σ H Q I h
 show ψ _ _ (evalAll ((do let v <- eval e X.env;standAt pos;pure v)::(c7 pos (aZ kws X.env)).map (·.2))) _ _ s
 refine wpAny_evalAll_cons (γ (thn (ha pJ s σ H _ I h) fun u s1 ⟨x,H1,I1,r1,q1⟩=>γ (lH (ζ ?_))))
 exact thn (hr pos pJ s1 σ H1 _ I1 q1) fun us s2 ⟨xs,H2,I2,r2,q2⟩=>⟨x::xs,H2,I2,.cons r1 r2,q2⟩
structure VG (K:W.Frag) (fd:bj) (ps ks:List Str) (g:List δ->List δ->List δ) (gV:List V->List V->List V):Prop where
 to:∀ (s:μ) (us ws:List δ),K.In s.heap->(g us ws).length=ps.length->BindsTo s fd ⟨us,ks.zip ws⟩ (ps.zip (g us ws))
 rel:∀ {vs:List V}{us:List δ}{zs:List V}{ws:List δ},Vals vs us->Vals zs ws->Vals (gV vs zs) (g us ws)
def za5 (sp:Sp) (gV:List V->List V->List V) (E:XK) (t tk:TA):TE:=fun σ H Q=>t σ H fun vs H1=>tk σ H1 fun zs H2=>sp (gV vs zs) H2 Q E
variable {g:List δ->List δ->List δ}{gV:List V->List V->List V}
theorem Qh {pJ:List (Addr×Obj)}{σ:St}{H:Hp}{s:μ}{Q:VK}{us ws:List δ}{vs zs:List V}(F:FnOk X.prog X.w X.K X.mg X.base CX k f fd ps sp) (hr:Room k X.A) (hb:VG X.K fd ps ks g gV) (hx:qI CX X E)
  (I:Inv X pJ σ H s) (r:Vals vs us) (rz:Vals zs ws) (h:sp (gV vs zs) H Q E):ψ (Ι X.prog X.w) X.A (call (.ref f) us (ks.zip ws)) (EP X pJ σ Q) X.xe s:=by
 have r2:=hb.rel r rz
 have hl:(g us ws).length=ps.length:=by rw [<- r2.length];exact F.len _ _ _ _ h
 refine oA (dX (F.run X.A X.stack s H ⟨us,ks.zip ws⟩ (g us ws) (gV vs zs) Q E hr I.env0 (hb.to s us ws I.kIn hl) r2 h) fun r s' hq=>?_)
 cases r with
 | error e=>exact hx pJ σ H s e s' I hq
 | ok fl=>
  cases fl with
  | ret u=>exact I.after hq
  | next=>exact Ϥ hq
  | brk=>exact Ϥ hq
  | cont=>exact Ϥ hq
end
structure jF (N P:List Str) (sc:dD):Prop where
 kind:sc.kind=.function
 co:sc.isCoroutine=false
 gen:sc.isGenerator=false
 nd:N.Nodup
 pre:N.take P.length=P
 par:∀ x∈P,sc.names.lookup x=some .local\/sc.names.lookup x=some .cell
 nofree:∀ y∈sc.names,y.2≠.free
theorem qC {kindOf:Str->Option Ϭ}{x:Str}:∀ {binds:List (Str×δ)}{m:Str->Option δ},(∀ v,(x,v) ∉ binds)->bindL kindOf binds m x=m x
 | [],_,_=>rfl
 | (n,v)::r,m,h=>by
  unfold bindL
  rw [qC fun w hw=>h w (θ _ hw)]
  split
  ·have:x≠n:=by rintro rfl;exact h v ι
   simp [this]
  ·rfl
theorem qF {kindOf:Str->Option Ϭ}{x:Str}:∀ {binds:List (Str×δ)}{m:Str->Option δ},(∀ v,(x,v) ∉ binds)->bindC kindOf binds m x=m x
 | [],_,_=>rfl
 | (n,v)::r,m,h=>by
  unfold bindC
  rw [qF fun w hw=>h w (θ _ hw)]
  split
  ·rfl
  ·have:x≠n:=by rintro rfl;exact h v ι
   simp [this]
theorem qD {kindOf:Str->Option Ϭ}{x:Str}{v:δ}:∀ {P:List Str}{vs:List δ}{i:Nat}{m:Str->Option δ},P.Nodup->P[i]?=some x->vs[i]?=some v->kindOf x=some .local ->
  bindL kindOf (P.zip vs) m x=some v
 | [],_,_,_,_,h,_,_=>by simp at h
 | _::_,[],_,_,_,_,h,_=>by simp at h
 | p::P,w::vs,0,m,nd,h1,h2,hk=>by
  simp at h1 h2;subst h1;subst h2
  show bindL kindOf ((p,w)::P.zip vs) m p=_
  unfold bindL
  rw [qC fun v hv=>(cu.mp nd).1 (d9 hv).1,if_pos hk]
  simp
 | p::P,w::vs,i+1,m,nd,h1,h2,hk=>by
  show bindL kindOf ((p,w)::P.zip vs) m x=_
  unfold bindL
  exact qD (i:=i) (cu.mp nd).2 (by simpa using h1) (by simpa using h2) hk
theorem qG {kindOf:Str->Option Ϭ}{x:Str}{v:δ}:∀ {P:List Str}{vs:List δ}{i:Nat}{m:Str->Option δ},P.Nodup->P[i]?=some x->vs[i]?=some v->kindOf x≠some .local ->
  bindC kindOf (P.zip vs) m x=some v
 | [],_,_,_,_,h,_,_=>by simp at h
 | _::_,[],_,_,_,_,h,_=>by simp at h
 | p::P,w::vs,0,m,nd,h1,h2,hk=>by
  simp at h1 h2;subst h1;subst h2
  show bindC kindOf ((p,w)::P.zip vs) m p=_
  unfold bindC
  rw [qF fun v hv=>(cu.mp nd).1 (d9 hv).1,if_neg hk]
  simp
 | p::P,w::vs,i+1,m,nd,h1,h2,hk=>by
  show bindC kindOf ((p,w)::P.zip vs) m x=_
  unfold bindC
  exact qG (i:=i) (cu.mp nd).2 (by simpa using h1) (by simpa using h2) hk
noncomputable def start (N:List Str) (vs:List V):St:=vs.map some++Ξ (N.length - vs.length) none
noncomputable def cxOf (CX:CXT) (P:Μ) (w:ϒ) (K:W.Frag) (mg:Str->Option δ) (base:Heap) (N:List Str) (qual:Str) (scope:dD) (f:Addr) (cd:δ) (A:ϑ) (outer:List Env) (s:μ) (H:Hp) (E:XK):Cx where
 prog:=P
 w:=w
 K:=K
 mg:=mg
 base:=base
 A:=A.deeper (lR qual scope s.heap.objs.size f cd)
 N:=N
 sy:=s
 Hz:=H
 env:=lR qual scope s.heap.objs.size f cd
 outer:=outer
 stack:=lR qual scope s.heap.objs.size f cd::outer
 ex:=[]
 calm:=true
 fn:=fun _=>true
 pn:=[]
 xe:=fun e s'=>ψ (Ι P w) (A.deeper (lR qual scope s.heap.objs.size f cd)) (leaving (lR qual scope s.heap.objs.size f cd) e) (fun _ s''=>CX outer H s E e s'') (fun e' s''=>CX outer H s E e' s'') s'
theorem jC {sc:dD}{n:Nat}{x:Str}(h:sc.names.lookup x=some .cell):∃ c,(cellsFrom n sc.names []).lookup x=some c:=by
 have q:=W.cellsFrom_some sc.names n [] (.inl h)
 exact cY.mp q
theorem WQ {CX:CXT}{P:Μ}{w:ϒ}{K:W.Frag}{mg:Str->Option δ}{base:Heap}{N ps:List Str}{qual:Str}{scope:dD}{f:Addr}{cd:δ}{A:ϑ}{outer:List Env}{s s1:μ}{H:Hp}{E:XK}{us:List δ}{vs:List V}
  (S:jF N ps scope) (hd:A.handled=none) (e0:Env0 P w K mg base A outer s H) (hl:vs.length=ps.length) (r:Vals vs us)
  (x:InCallC s s.heap.objs.size (bindL (lR qual scope s.heap.objs.size f cd).kindOf (ps.zip us) fun _=>none) (cellsFrom (s.heap.objs.size+1) scope.names []) (bindC (lR qual scope s.heap.objs.size f cd).kindOf (ps.zip us) fun _=>none) s1):
  Inv (cxOf CX P w K mg base N qual scope f cd A outer s H E) [] (start N vs) H s1:=by
 have hpl:ps.length<=N.length:=by have:=congrArg lX S.pre;rw [cU] at this;lia
 obtain ⟨h1,tk,rfl,hk⟩:=x.done
 have noA:∀ b:Addr,b ∉ (cxOf CX P w K mg base N qual scope f cd A outer s H E).ex:=fun b z=>absurd (show b∈([]:List Addr) from z) (by simp)
 refine ⟨⟨e0.mod,S.kind,rfl,rfl,ς _,fun y z c h1 h2=>?_,fun y hy=>?_,fun y c _ h=>?_,fun _=>hd,ϑ.frames_deeper e0.frames,.inr ⟨rfl,rfl⟩,fun b z=>absurd z (noA b),e0.bs,e0.bsz,fun b _ _=>noA b,fun b z=>absurd z (noA b),e0.funs,e0.frf⟩,
  rfl,e0.bare,Un.kept hk,⟨_,x.toInCall.ns,fun i y v h1 h2 h3=>?_⟩,fun y c h=>⟨_,x.cell y c h⟩,e0.hok.fresh (ς _),fun y c h=>?_,fun p hp=>absurd (show p∈([]:List (Addr×Obj)) from hp) (by simp),e0.hok.kept hk,?_⟩
 ·exact name_of_addr x.apart (bc h1) (bc h2)
 ·have hy:scope.names.lookup y=some .cell\/scope.names.lookup y=some .free:=hy
  rcases hy with hy | hy
  ·exact jC hy
  ·exact absurd rfl (S.nofree _ (bc hy))
 ·exact gq (x.above y c (bc h))
 ·have hi:i < vs.length:=by
   unfold start at h2
   by_cases hi:i < vs.length
   ·exact hi
   ·rw [Ϝ (by simpa using hi)] at h2
    rw [dw] at h2
    split at h2 <;> cases h2
  have ha:vs[i]?=some v:=by
   unfold start at h2
   rw [ϖ (by simpa using hi),Ο] at h2
   cases e:vs[i]? with
   | none=>rw [e] at h2;cases h2
   | some a=>rw [e] at h2;cases h2;rfl
  obtain ⟨u,hu,rv⟩:=r.get ha
  have hp:ps[i]?=some y:=by
   rw [<- S.pre,List.getElem?_take_of_lt (by lia)];exact h1
  have ndP:ps.Nodup:=by rw [<- S.pre];exact S.nd.sublist (lu _ _)
  refine ⟨u,rv,?_⟩
  rcases S.par y (aB hp) with k | k
  ·exact .inl ⟨k,qD ndP hp hu k⟩
  ·obtain ⟨c,e⟩:=jC (n:=s.heap.objs.size+1) k
   refine .inr ⟨.inl k,c,e,?_⟩
   have q:=x.cell y c e
   rw [qG ndP hp hu (by show scope.names.lookup y≠_;rw [k];decide)] at q
   exact q
 ·exact e0.hok.fresh (gq (x.above y c (bc h)))
 ·unfold start
  show _=N.length
  rw [ϊ,Ν,gw]
  lia
theorem fn_of {CX:CXT}{P:Μ}{w:ϒ}{K:W.Frag}{mg:Str->Option δ}{base:Heap}{k:Nat}{f:Addr}{name qual:Str}{params:Arguments}{body:List Stmt}{scope:dD}{dV kV doc pm cdv ct oc:δ}{an od:Option Addr}
  {osl:Array (Option δ)}{N ps:List Str}{sp:Sp}(lk:K.lookup f=some ⟨oc,od,.func (W.fnOf name qual params body scope dV kV doc pm an cdv ct),osl⟩) (hcd:W.codeIn K cdv qual=true) (S:jF N ps scope)
  (len:∀ vs H Q E,sp vs H Q E->vs.length=ps.length)
  (hbody:∀ (A:ϑ) (outer:List Env) (s:μ) (H:Hp) (vs:List V) (Q:VK) (E:XK),Room k (A.deeper (lR qual scope s.heap.objs.size f cdv))->sp vs H Q E ->
   ∃ t,PSs (cxOf CX P w K mg base N qual scope f cdv A outer s H E) body t/\t { nx:=fun _ H'=>Q .non H',rt:=Q } (start N vs) H):
  FnOk P w K mg base CX (k+1) f (W.fnOf name qual params body scope dV kV doc pm an cdv ct) ps sp:=by
 refine ⟨len,fun A outer s H args us vs Q E hr e0 hb r hsp=>?_⟩
 have hl:=len _ _ _ _ hsp
 have KX:K.In s.heap:=e0.mod.kin.keeps fun b o e=>(e0.bs b o e).1
 have lim:s.heap.NoLimit:=e0.mod.nolimit.keeps fun b o e=>(e0.bs b o e).1
 have hkind:∀ y∈ps.zip us,scope.names.lookup y.1=some .local\/(scope.names.lookup y.1=some .cell/\((cellsFrom (s.heap.objs.size+1) scope.names []).lookup y.1).isSome=true):=fun ⟨n,v⟩ hy=>by
  rcases S.par n (d9 hy).1 with q | q
  ·exact .inl q
  ·exact .inr ⟨q,W.cellsFrom_some _ _ _ (.inl q)⟩
 refine codeAny_call_function hr.depth (KX _ _ lk) rfl S.co S.gen rfl (W.codeRec_of KX hcd) (hb _ _ _ _ ?_)
 refine wpAny_newFunctionEnv_cells S.kind hkind fun env he s1 x=>?_
 subst he
 refine ⟨lim.keeps x.toInCall.keep,codeAny_func ?_⟩
 obtain ⟨t,ht,hq⟩:=hbody A outer s H vs Q E (hr.deeper _) hsp
 have I:Inv (cxOf CX P w K mg base N qual scope f cdv A outer s H E) [] (start N vs) H s1:=WQ S hr.hd e0 hl r x
 refine aN (ht [] s1 (start N vs) H _ I hq) (fun fl s' hs=>?_) fun e s' hs=>hs
 have fin:∀ {σ':St}{H':Hp}{v:V}{u:δ},Inv (cxOf CX P w K mg base N qual scope f cdv A outer s H E) [] σ' H' s'->RelV v u->Q v H'->CE outer P w H s Q u s':=
  fun {σ' H' v u} J rv q=>⟨v,H',J.os,J.bare,J.base,J.hok,rv,q⟩
 cases fl with
 | ret u=>
  obtain ⟨v,σ',H',J,rv,q⟩:=hs
  exact fin J rv q
 | next=>
  obtain ⟨σ',H',J,q⟩:=hs
  exact fin (v:=V.non) (u:=Β) J rfl q
 | brk=>
  obtain ⟨_,_,_,q⟩:=hs
  exact Ϥ q
 | cont=>
  obtain ⟨_,_,_,q⟩:=hs
  exact Ϥ q
section
variable {X:Cx}{x:Str}{p pos:Pos}{e:Expr}{es:List Expr}{t:TA}{id T:String}{r:List V->Hp->VK->Prop}
def tCB (r:List V->Hp->VK->Prop) (t:TA):TE:=fun σ H Q=>t σ H fun vs H1=>r vs H1 Q
theorem wZ (hc:CallR X (.builtin id) r) (hg:Gl X x) (hm:X.mg x=none) (hv:cG x=some (.builtin id)) (ha:PA X (e::es) t) (hn:x≠"__name__":=by decide) (hdb:(x==("__debug__":Str))=false:=by decide)
  (he:Ϣ (e::es) X.env=(false,eval e X.env)::Ϣ es X.env:=by rfl) (hpl:(fB pos (Ϣ es X.env)).any (·.1)=false:=by rfl):PE X (.Call (.Name x p) (e::es) [] pos) (tCB r t):=by
 intro pJ s σ H Q I h
 refine bL (wJ I hg hm hv ?_ hn hdb)
 exact PyProof.Rows.callWith_builtin1 (thn (ha pos pJ s σ H _ I h) fun us s1 ⟨vs,H1,I1,r1,q1⟩=>hc pJ s1 σ H1 vs us Q I1 r1 q1) he hpl
theorem j0 (hc:CallR X (.type T) r) (hg:Gl X x) (hm:X.mg x=none) (hv:cG x=some (.type T)) (ha:PA X (e::es) t) (hn:x≠"__name__":=by decide) (hdb:(x==("__debug__":Str))=false:=by decide)
  (he:Ϣ (e::es) X.env=(false,eval e X.env)::Ϣ es X.env:=by rfl) (hpl:(fB pos (Ϣ es X.env)).any (·.1)=false:=by rfl):PE X (.Call (.Name x p) (e::es) [] pos) (tCB r t):=by
 intro pJ s σ H Q I h
 refine bL (wJ I hg hm hv ?_ hn hdb)
 exact ϸ (thn (ha pos pJ s σ H _ I h) fun us s1 ⟨vs,H1,I1,r1,q1⟩=>hc pJ s1 σ H1 vs us Q I1 r1 q1) he hpl
end
end L2
namespace HT
open PySem PyProof.Rows
section
open PySem.SeqAt
open PySem.AutoSeq1 (wpAny_loadPart')
open PySem.MeetsSeq PySem.MeetsSeq2 PySem.MeetsSeq3
end
section
variable {prog:Μ}{w:ϒ}{A:ϑ}{E:δ->μ->Prop}{s:μ}
theorem zaE {t b:Addr}{vs ws:List δ}{Q:δ->μ->Prop}(ht:iR s.heap t vs.toArray) (hb:iR s.heap b ws.toArray) (hv:vs≠[])
  (h1:ws=[]->Q (.ref t) s) (h2:ws≠[]->Q (.ref s.heap.objs.size) { s with heap:=s.heap.push { cls:=.type "tuple",data:=.seq (vs++ws).toArray } })
  (hsz:vs.length+ws.length<=sizeLine):ψ (Ι prog w) A (bM .Add (.ref t) (.ref b)) Q E s:=by
 obtain ⟨⟨cls,dd,data,sl⟩,ho,hc,n,hd⟩:=id ht
 obtain ⟨⟨cls2,dd2,data2,sl2⟩,ho2,hc2,n2,hd2⟩:=id hb
 simp only at hc hd hc2 hd2
 subst hc hd hc2 hd2
 have e:vs.toArray++ws.toArray=(vs++ws).toArray:=by simp
 by_cases hw:ws=[]
 ·exact pA ⟨_,ho,rfl⟩ ⟨_,ho2,rfl⟩ m5 oR fV fK (fC _ _)
   (tuple_addW1 t b vs.toArray ws.toArray n n2 dd dd2 sl sl2 (by simpa using hv) (by simp [hw])) ⟨ho,ho2,h1 hw⟩
 ·refine pA ⟨_,ho,rfl⟩ ⟨_,ho2,rfl⟩ m5 oR fV fK (fC _ _)
   (tuple_addW2 t b vs.toArray ws.toArray n n2 dd dd2 sl sl2 (by simpa using hv) (by simpa using hw) (by rw [π,π];exact hsz)) ⟨ho,ho2,?_⟩
  rw [e]
  exact h2 hw
noncomputable def sIx (n d:Nat):Option Int->Nat
 | none=>d
 | some v=>if v < 0 then (v+(n:Int)).toNat else min v.toNat n
theorem Ua (n d:Nat):sIx n d none=d:=rfl
theorem Qf (n d k:Nat):sIx n d (some (k:Int))=min k n:=by
 show (if (k:Int) < 0 then ((k:Int)+(n:Int)).toNat else min (k:Int).toNat n)=min k n
 rw [if_neg (by omega),bR]
theorem zbA (n d:Nat) (hd:d<=n) (o:Option Int):sIx n d o<=n:=by
 cases o with
 | none=>exact hd
 | some v=>
  show (if v < 0 then (v+(n:Int)).toNat else min v.toNat n)<=n
  by_cases hv:v < 0
  ·rw [if_pos hv];omega
  ·rw [if_neg hv];exact Nat.min_le_right _ _
theorem Vi (v:Int) (n d:Nat):(if v < 0 then max (v+(n:Int)) 0 else min v (n:Int))=((sIx n d (some v):Nat):Int):=by
 show (if v < 0 then max (v+(n:Int)) 0 else min v (n:Int))=(((if v < 0 then (v+(n:Int)).toNat else min v.toNat n):Nat):Int)
 by_cases hv:v < 0
 ·simp only [if_pos hv];omega
 ·simp only [if_neg hv];omega
theorem Y0 (lo hi:Option Int) (n:Nat):dY lo hi 1 (n:Int)=(((sIx n 0 lo:Nat):Int),((sIx n n hi:Nat):Int)):=by
 have h1:¬ ((1:Int) < 0):=by omega
 unfold dY
 simp only [h1,if_false]
 refine Prod.ext ?_ ?_
 ·cases lo with
  | none=>rfl
  | some v=>exact Vi v n 0
 ·cases hi with
  | none=>rfl
  | some v=>exact Vi v n n
theorem YL (i j:Nat):cz (i:Int) (j:Int) 1=j - i:=by
 unfold cz
 have h1:(1:Int) > 0:=by omega
 simp only [h1,if_true,Int.ediv_one]
 split <;> omega
theorem uC {v:δ}{o:Option Int}{Q:Option Int->μ->Prop}(p:gW v o) (h:Q o s):ψ (Ι prog w) A (Κ.Slice.slicePartIndex v) Q E s:=by
 cases p with
 | none=>exact slicePart_none h
 | int i t=>exact slicePart_int h
theorem yu {sl:Addr}{vl vu:δ}{lo hi:Option Int}{n:Nat}{Q:Int×Int×Nat->μ->Prop}(hs:s.heap.IsSliceOf sl vl vu .none) (pl:gW vl lo) (pu:gW vu hi)
  (h:Q (((sIx n 0 lo:Nat):Int),1,sIx n n hi - sIx n 0 lo) s):ψ (Ι prog w) A (iw (.ref sl) (pure (n:Int))) Q E s:=by
 obtain ⟨os,hos,hcs,hds⟩:=id hs
 unfold iw Κ.Slice.sliceFields
 refine γ (γ (Ϧ hos hds (x:=vl) rfl (γ (Ϧ hos hds (x:=vu) rfl (γ (Ϧ hos hds (x:=.none) rfl (ζ ?_)))))))
 refine γ (slicePart_none ?_)
 show ψ _ _ (if ((1:Int)==0)=true then _ else _) _ _ s
 rw [if_neg (by decide)]
 refine γ (uC pl (γ (uC pu (γ (ζ ?_)))))
 show ψ _ _ (match dY lo hi 1 (n:Int) with | (lo,hi)=>pure (lo,(1:Int),cz lo hi 1)) _ _ s
 rw [Y0 lo hi n]
 show ψ _ _ (pure (((sIx n 0 lo:Nat):Int),(1:Int),cz ((sIx n 0 lo:Nat):Int) ((sIx n n hi:Nat):Int) 1)) _ _ s
 rw [YL]
 exact ζ h
theorem Ui (xs:Array δ) (i k:Nat):((ϵ k).filterMap fun (m:Nat)=>xs[((i:Int)+(m:Int)*1).toNat]?).toArray=((xs.toList.drop i).take k).toArray:=by
 have e:(fun (m:Nat)=>xs[((i:Int)+(m:Int)*1).toNat]?)=fun m=>xs[i+m]?:=by
  funext m
  have:((i:Int)+(m:Int)*1).toNat=i+m:=by omega
  rw [this]
 rw [e]
 have:=pick_run xs i k
 rw [List.filterMap_map] at this
 have e2:((fun x=>xs[x]?)∘fun x=>i+x)=fun m=>xs[i+m]?:=rfl
 rw [e2] at this
 rw [this]
theorem wg {t sl:Addr}{items:Array δ}{vl vu:δ}{lo hi:Option Int}{Q:δ->μ->Prop}(ht:iR s.heap t items) (hs:s.heap.IsSliceOf sl vl vu .none) (pl:gW vl lo) (pu:gW vu hi)
  (hw:¬ (sIx items.size 0 lo=0/\sIx items.size items.size hi=items.size))
  (h:Q (.ref s.heap.objs.size) { s with heap:=s.heap.push { cls:=.type "tuple",data:=.seq ((items.toList.drop (sIx items.size 0 lo)).take (sIx items.size items.size hi - sIx items.size 0 lo)).toArray } })
  (hsz:items.size<=sizeLine):ψ (Ι prog w) A (iZ (.ref t) (.ref sl)) Q E s:=by
 have htake:sizeOk (.seq ((items.toList.drop (sIx items.size 0 lo)).take (sIx items.size items.size hi - sIx items.size 0 lo)).toArray):=by
  show ((items.toList.drop (sIx items.size 0 lo)).take (sIx items.size items.size hi - sIx items.size 0 lo)).toArray.size<=sizeLine
  rw [π,cU,dM,Φ]
  omega
 have hj:sIx items.size items.size hi<=items.size:=zbA _ _ (ς _) hi
 obtain ⟨os,hos,hcs,hds⟩:=id hs
 have hTs:s.TypeIs (.ref sl) "slice":=⟨os,hos,hcs⟩
 unfold iZ
 try with_reducible refine aq ?_
 first | refine γ (ζ ?_) | skip
 refine γ (wpAny_sequenceKey ht.typeIs (by decide) ?_)
 refine γ (ϗ (name:=b7 "__getitem__") ht.typeIs ϩ
  (ϓ ϩ ht.typeIs entry_tuple_getitem ?_ (args_tuple_getitem _ _)))
 show ψ _ _ (iu (.ref t) >>= _) _ _ s
 refine γ (tupleItemsOf_ ht ?_)
 refine γ (bI hTs ?_)
 rw [if_pos (by decide)]
 refine γ (yu hs pl pu ?_)
 have hno:¬ ((((sIx items.size 0 lo:Nat):Int)==0&&(1:Int)==1&&(sIx items.size items.size hi - sIx items.size 0 lo)==items.size)=true):=by
  intro q
  rw [ε,ε] at q
  have q1:((sIx items.size 0 lo:Nat):Int)=0:=eq_of_beq q.1.1
  have q2:sIx items.size items.size hi - sIx items.size 0 lo=items.size:=eq_of_beq q.2
  exact hw ⟨by omega,by omega⟩
 show ψ _ _ (if (((sIx items.size 0 lo:Nat):Int)==0&&(1:Int)==1&&(sIx items.size items.size hi - sIx items.size 0 lo)==items.size)=true then _ else _) _ _ s
 rw [if_neg hno,Ui]
 first
  | exact γ (m:=aK _) (Ω (ζ ⟨_,rfl,ζ h⟩) htake)
  | exact γ (m:=aK _) (Ω (γ (ζ (ζ ⟨_,rfl,ζ h⟩))) htake)
  | exact γ (γ (m:=aK _) (Ω (ζ (ζ ⟨_,rfl,ζ h⟩)) htake))
  | exact γ (γ (m:=aK _) (Ω (ζ ⟨_,rfl,ζ h⟩) htake))
end
end HT
namespace L2
open PySem PySem.Spec PyProof.Rows
abbrev TO:=St->Hp->(Option Int->Hp->Prop)->Prop
def PO (X:Cx) (e:Option Expr) (t:TO):Prop:=
 ∀ (pJ:List (Addr×Obj)) (s:μ) (σ:St) (H:Hp) (Q:Option Int->Hp->Prop),Inv X pJ σ H s->t σ H Q ->
  ψ (Ι X.prog X.w) X.A (evalPart e X.env) (fun u s'=>∃ o H',Inv X pJ σ H' s'/\gW u o/\Q o H') X.xe s
def KQ:TO:=fun _ H Q=>Q none H
def tPart (t:TE):TO:=fun σ H Q=>t σ H fun x H1=>∃ i,x=.int i/\Q (some i) H1
section
variable {X:Cx}{e:Expr}{te:TE}{lo hi:Option Expr}{tl th:TO}{pos p2:Pos}
theorem QB:PO X none KQ:=by
 intro pJ s σ H Q I h
 rw [evalPart_none]
 exact ζ ⟨none,H,I,.none,h⟩
theorem Qz (h:PE X e te):PO X (some e) (tPart te):=by
 intro pJ s σ H Q I hw
 rw [evalPart_some]
 refine thn (h pJ s σ H _ I hw) fun u s1 ⟨x,H1,I1,r1,q1⟩=>?_
 obtain ⟨i,rfl,q⟩:=q1
 obtain ⟨t,rfl⟩:=r1
 exact ⟨some i,H1,I1,.int i t,q⟩
def SlR (X:Cx) (r:V->Option Int->Option Int->Hp->VK->Prop):Prop:=
 ∀ (pJ:List (Addr×Obj)) (s:μ) (σ:St) (H:Hp) (x:V) (v vl vu:δ) (lo hi:Option Int) (sl:Addr) (Q:VK),Inv X pJ σ H s->RelV x v->s.heap.IsSliceOf sl vl vu .none->gW vl lo->gW vu hi->r x lo hi H Q ->
  ∃ T id,lN (.type T) "__getitem__"=pure (some (.builtin id))/\s.TypeIs v T/\ψ (Ι X.prog X.w) X.A (iZ v (.ref sl)) (EP X pJ σ Q) X.xe s
theorem SlR.or {r r':V->Option Int->Option Int->Hp->VK->Prop}(h:SlR X r) (h':SlR X r'):SlR X (fun x lo hi H Q=>r x lo hi H Q\/r' x lo hi H Q):=by
 intro pJ s σ H x v vl vu lo hi sl Q I rx hs pl pu q
 rcases q with q | q
 ·exact h pJ s σ H x v vl vu lo hi sl Q I rx hs pl pu q
 ·exact h' pJ s σ H x v vl vu lo hi sl Q I rx hs pl pu q
def tSl (r:V->Option Int->Option Int->Hp->VK->Prop) (te:TE) (tl th:TO):TE:=fun σ H Q=>te σ H fun x H1=>tl σ H1 fun l H2=>th σ H2 fun u H3=>r x l u H3 Q
theorem Uk {r:V->Option Int->Option Int->Hp->VK->Prop}(hr:SlR X r) (he:PE X e te) (hl:PO X lo tl) (hu:PO X hi th):PE X (.Subscript e (.Slice lo hi none p2) pos) (tSl r te tl th):=by
 intro pJ s σ H Q I h
 refine Subscript_ (thn (he pJ s σ H _ I h) fun v s1 ⟨x,H1,I1,r1,q1⟩=>?_)
 refine wpAny_Slice (thn (hl pJ s1 σ H1 _ I1 q1) fun vl s2 ⟨l,H2,I2,pl,q2⟩=>thn (hu pJ s2 σ H2 _ I2 q2) fun vu s3 ⟨u,H3,I3,pu,q3⟩=>?_)
 rw [evalPart_none]
 refine ζ ?_
 have I4:Inv X pJ σ H3 { s3 with heap:=s3.heap.push { cls:=.type "slice",data:=.fields #[vl,vu,.none] } }:=I3.kept (t':=s3.toks) fun b ob q=>η _ q
 obtain ⟨T,id,hT,ht,hg⟩:=hr pJ { s3 with heap:=s3.heap.push { cls:=.type "slice",data:=.fields #[vl,vu,.none] } } σ H3 x v vl vu l u s3.heap.objs.size Q I4 r1 (Heap.IsSliceOf.new ..) pl pu q3
 show ψ (Ι X.prog X.w) X.A (subscriptTail e (.Slice lo hi none p2) v (.ref s3.heap.objs.size)) (EP X pJ σ Q) X.xe { s3 with heap:=s3.heap.push { cls:=.type "slice",data:=.fields #[vl,vu,.none] } }
 exact tail_any (ops:=[.ref s3.heap.objs.size,v]) ht hT hg (by with_unfolding_all rfl)
noncomputable def cutV (xs:List V) (lo hi:Option Int):List V:=(xs.drop (HT.sIx xs.length 0 lo)).take (HT.sIx xs.length xs.length hi - HT.sIx xs.length 0 lo)
theorem uc (xs:List V) (lo hi:Option Int):(cutV xs lo hi).length<=xs.length:=by
 unfold cutV
 rw [cU,dM]
 lia
def rSlT (K:W.Frag):V->Option Int->Option Int->Hp->VK->Prop:=fun x lo hi H Q=>∃ a xs,x=.ref a/\SqT K H a xs /\
 ¬ (HT.sIx xs.length 0 lo=0/\HT.sIx xs.length xs.length hi=xs.length)/\∀ p,H p=none->Q (.ref p) (upd H p (.tup (cutV xs lo hi)))
theorem zbb:SlR X (rSlT X.K):=by
 intro pJ s σ H x v vl vu lo hi sl Q I rx hs pl pu h
 obtain ⟨a,xs,rfl,hx,hw,q⟩:=h
 cases rx
 obtain ⟨its,r,ht,hz⟩:=I.tuple hx
 have hlen:its.toArray.size=xs.length:=by rw [π];exact r.length.symm
 refine ⟨"tuple",_,ϩ.lookup,ht.typeIs,?_⟩
 refine HT.wg ht hs pl pu (by rw [hlen];exact hw) ?_ (by rw [hlen];exact hz)
 rw [hlen]
 refine ⟨.ref s.heap.objs.size,_,I.laid (t':=s.toks) (o:=.tup (cutV xs lo hi)) (fun b ob q=>η _ q) (ς _) ?_,rfl,q _ (I.hok.fresh (ς _))⟩
 exact ⟨ϣ (uc xs lo hi) hz,_,(r.drop (HT.sIx xs.length 0 lo)).take (HT.sIx xs.length xs.length hi - HT.sIx xs.length 0 lo),iR.new _ _⟩
def rCatT (K:W.Frag):R2:=fun x y H Q=>∃ a b xs ys,x=.ref a/\y=.ref b/\SqT K H a xs/\SqT K H b ys/\xs≠[]/\xs.length+ys.length<=sizeLine /\
 (ys=[]->Q (.ref a) H)/\(ys≠[]->∀ p,H p=none->Q (.ref p) (upd H p (.tup (xs++ys))))
theorem Vals.qY {xs:List V}{us:List δ}(r:Vals xs us):us=[] ↔ xs=[]:=by
 cases r with
 | nil=>simp
 | cons _ _=>simp
theorem QM:OpR X (bM .Add) (rCatT X.K):=by
 intro pJ s σ H x y v u Q I rx ry h
 obtain ⟨a,b,xs,ys,rfl,rfl,ha,hb,hx,hz,q1,q2⟩:=h
 cases rx
 cases ry
 obtain ⟨its,r1,p1,_⟩:=I.tuple ha
 obtain ⟨its2,r2,p2,_⟩:=I.tuple hb
 refine HT.zaE p1 p2 (fun z=>hx (r1.qY.mp z)) (fun z=>⟨.ref a,H,I,rfl,q1 (r2.qY.mp z)⟩) (fun z=>?_) (by rw [<- r1.length,<- r2.length];exact hz)
 refine ⟨.ref s.heap.objs.size,_,I.laid (t':=s.toks) (o:=.tup (xs++ys)) (fun b ob q=>η _ q) (ς _) ?_,rfl,q2 (fun w=>z (r2.qY.mpr w)) _ (I.hok.fresh (ς _))⟩
 exact ⟨by rw [ϊ];exact hz,_,r1.append r2,iR.new _ _⟩
end
noncomputable def ixN (n:Nat) (i:Int):Option Nat:=if 0<=i then (if i < n then some i.toNat else none) else if -(n:Int)<=i then some (i+n).toNat else none
noncomputable def atI {α:Type}(xs:List α) (i:Int):Option α:=(ixN xs.length i).bind fun j=>xs[j]?
theorem zae {n:Nat}{i:Int}{j:Nat}(h:ixN n i=some j):seqIndex? i n=some j/\j < n/\-(n:Int)<=i/\i < n:=by
 unfold ixN at h
 by_cases h0:0<=i
 ·rw [if_pos h0] at h
  by_cases h1:i < n
  ·rw [if_pos h1] at h
   have e:i.toNat=j:=ϙ h
   exact ⟨by rw [seqIndex_of h0 h1,e],by lia,by lia,h1⟩
  ·rw [if_neg h1] at h;cases h
 ·rw [if_neg h0] at h
  by_cases h1:-(n:Int)<=i
  ·rw [if_pos h1] at h
   have e:(i+n).toNat=j:=ϙ h
   exact ⟨by rw [seqIndex_neg (by lia) h1,e],by lia,h1,by lia⟩
  ·rw [if_neg h1] at h;cases h
theorem Zt {α:Type}{xs:List α}{i:Int}{v:α}(h:atI xs i=some v):∃ j,seqIndex? i xs.length=some j/\xs[j]?=some v/\j < xs.length/\-(xs.length:Int)<=i/\i < xs.length:=by
 unfold atI at h
 cases e:ixN xs.length i with
 | none=>rw [e] at h;cases h
 | some j=>
  rw [e] at h
  obtain ⟨h1,h2,h3,h4⟩:=zae e
  exact ⟨j,h1,h,h2,h3,h4⟩
def Zu (b:Expr):Prop:=∀ o i,subscripted b false o i=operate [o,i] (iZ o i)
def IxR (X:Cx) (r:R2):Prop:=
 ∀ (value slice:Expr) (pJ:List (Addr×Obj)) (s:μ) (σ:St) (H:Hp) (x y:V) (v u:δ) (Q:VK),Inv X pJ σ H s->RelV x v->RelV y u->r x y H Q ->
  subscripted slice false v u=operate [v,u] (iZ v u)->ψ (Ι X.prog X.w) X.A (subscriptTail value slice v u) (EP X pJ σ Q) X.xe s
def MtR (X:Cx) (id:String) (r:V->List V->Hp->VK->Prop):Prop:=
 ∀ (pJ:List (Addr×Obj)) (s:μ) (σ:St) (H:Hp) (x:V) (xs:List V) (v:δ) (us:List δ) (Q:VK),Inv X pJ σ H s->RelV x v->Vals xs us->r x xs H Q ->
  ψ (Ι X.prog X.w) X.A (call (.builtin id) (v::us)) (EP X pJ σ Q) X.xe s
section
variable {X:Cx}{a b:Expr}{ta tb:TE}{pos:Pos}
theorem IxR.or {r r':R2}(h:IxR X r) (h':IxR X r'):IxR X (fun x y H Q=>r x y H Q\/r' x y H Q):=by
 intro value slice pJ s σ H x y v u Q I rx ry q hs
 rcases q with q | q
 ·exact h value slice pJ s σ H x y v u Q I rx ry q hs
 ·exact h' value slice pJ s σ H x y v u Q I rx ry q hs
theorem MtR.or {id:String}{r r':V->List V->Hp->VK->Prop}(h:MtR X id r) (h':MtR X id r'):MtR X id (fun x xs H Q=>r x xs H Q\/r' x xs H Q):=by
 intro pJ s σ H x xs v us Q I rx rs q
 rcases q with q | q
 ·exact h pJ s σ H x xs v us Q I rx rs q
 ·exact h' pJ s σ H x xs v us Q I rx rs q
theorem pe_ix {r:R2}(hr:IxR X r) (ha:PE X a ta) (hb:PE X b tb) (hs:Zu b):PE X (.Subscript a b pos) (tOp r ta tb):=by
 intro pJ s σ H Q I h
 exact Subscript_ (binT ha hb I h fun v u s2 x y H2 I2 rx ry q=>hr a b pJ s2 σ H2 x y v u Q I2 rx ry q (hs _ _))
def rIxL (K:W.Frag):R2:=fun x y H Q=>∃ p xs i v,x=.ref p/\y=.int i/\SqL K H p xs/\atI xs i=some v/\Q v H
def rIxT (K:W.Frag):R2:=fun x y H Q=>∃ p xs i v,x=.ref p/\y=.int i/\SqT K H p xs/\atI xs i=some v/\Q v H
def rIxS:R2:=fun x y H Q=>∃ z i c,x=.str z/\y=.int i/\z.length<=sizeLine/\atI z.cps.toList i=some c/\Q (.str ⟨#[c]⟩) H
theorem WF:IxR X (rIxL X.K):=by
 intro value slice pJ s σ H x y v u Q I rx ry h hs
 obtain ⟨p,xs,i,z,rfl,rfl,hq,he,q⟩:=h
 cases rx
 obtain ⟨t,rfl⟩:=ry
 obtain ⟨its,r,pl,hz⟩:=I.list hq
 obtain ⟨j,h1,h2,h3,h4,h5⟩:=Zt he
 obtain ⟨w,ew,rw'⟩:=r.get h2
 have hl:=r.length
 have hn:=kh
 have fin:EP X pJ σ Q w s:=⟨z,H,I,rw',q⟩
 by_cases h0:0<=i
 ·have hj:i.toNat=j:=by
   rw [seqIndex_of h0 h5] at h1
   exact ϙ h1
  exact item_listR pl.isList h0 (by lia) (by rw [hj];simpa using ew) fin hs
 ·have hj:(i+(its.toArray.size:Int)).toNat=j:=by
   rw [seqIndex_neg (by lia) h4] at h1
   rw [π,<- hl]
   exact ϙ h1
  exact o9 (x:=w) pl.isList.typeIs slot_list_getitem.lookup
   (wpAny_getItem_list_neg (Q:=fun r s'=>r=w/\EP X pJ σ Q r s') pl.isList (by lia) (by rw [π] <;> lia) (by lia) (by rw [hj];simpa using ew) ⟨rfl,fin⟩) hs
theorem zcg:IxR X (rIxT X.K):=by
 intro value slice pJ s σ H x y v u Q I rx ry h hs
 obtain ⟨p,xs,i,z,rfl,rfl,hq,he,q⟩:=h
 cases rx
 obtain ⟨t,rfl⟩:=ry
 obtain ⟨its,r,pl,hz⟩:=I.tuple hq
 obtain ⟨j,h1,h2,h3,h4,h5⟩:=Zt he
 obtain ⟨w,ew,rw'⟩:=r.get h2
 have hl:=r.length
 have hn:=kh
 have fin:EP X pJ σ Q w s:=⟨z,H,I,rw',q⟩
 exact o9 (x:=w) pl.typeIs slot_tuple_getitem.lookup
  (getItem_tuple (j:=j) (Q:=fun r s'=>r=w/\EP X pJ σ Q r s') pl (by lia) (by lia) (by rw [π,<- hl];exact h1) (by simpa using ew) ⟨rfl,fin⟩) hs
theorem zch:IxR X rIxS:=by
 intro value slice pJ s σ H x y v u Q I rx ry h hs
 obtain ⟨z,i,c,rfl,rfl,hz,he,q⟩:=h
 obtain ⟨t,rfl⟩:=rx
 obtain ⟨t',rfl⟩:=ry
 obtain ⟨j,h1,h2,h3,h4,h5⟩:=Zt he
 have hl:z.cps.toList.length=z.length:=by simp [Str.length]
 rw [hl] at h1 h4 h5
 have hn:=kh
 exact tail_any (typeIs_str s z t) slot_str_getitem.lookup (getItem_str (c:=c) (by
  have e1:decide (i < -(2 ^ 63:Int))=false:=decide_eq_false (by lia)
  have e2:decide (i >= 2 ^ 63)=false:=decide_eq_false (by lia)
  rw [e1,e2,Bool.or_false]) (by rw [h1];simpa using h2) ⟨.str ⟨#[c]⟩,H,I.tok _,⟨_,rfl⟩,q⟩) hs
theorem Inv.lst {pJ:List (Addr×Obj)}{σ:St}{H:Hp}{s:μ}{p:Addr}{xs:List V}(I:Inv X pJ σ H s) (h:H p=some (.lst xs)):
  ∃ (its:List δ) (n:Nat),Vals xs its/\s.heap.get? p=some { cls:=.type "list",data:=.seq its.toArray n }/\xs.length<=sizeLine:=by
 obtain ⟨z,its,n,r,e⟩:=I.hok p _ h
 exact ⟨its,n,r,e,z⟩
theorem jP (lo hi:Option Int) (n:Nat):(eV lo hi none n).1=((HT.sIx n 0 lo:Nat):Int)/\(eV lo hi none n).2.1=((HT.sIx n n hi:Nat):Int)/\(eV lo hi none n).2.2=1:=by
 refine ⟨?_,?_,rfl⟩
 ·cases lo with
  | none=>simp [eV,HT.sIx]
  | some i=>
   simp only [eV,HT.sIx,o5,show (1:Int) > 0 by decide,if_true]
   by_cases h:i < 0
   ·simp only [h,if_true] <;> lia
   ·simp only [h,if_false] <;> lia
 ·cases hi with
  | none=>simp [eV,HT.sIx]
  | some i=>
   simp only [eV,HT.sIx,o5,show (1:Int) > 0 by decide,if_true]
   by_cases h:i < 0
   ·simp only [h,if_true] <;> lia
   ·simp only [h,if_false] <;> lia
theorem jd (its:List δ) (lo hi:Option Int):slicePick its.toArray lo hi none=((its.drop (HT.sIx its.length 0 lo)).take (HT.sIx its.length its.length hi - HT.sIx its.length 0 lo)).toArray:=by
 obtain ⟨h1,h2,h3⟩:=jP lo hi its.toArray.size
 unfold slicePick
 rw [h1,h2,h3]
 simp only [sliceRange_one,pick_run,π] <;> rfl
def rSlL (K:W.Frag):V->Option Int->Option Int->Hp->VK->Prop:=fun x lo hi H Q=>∃ a xs,x=.ref a/\SqL K H a xs/\∀ p,H p=none->Q (.ref p) (upd H p (.lst (cutV xs lo hi)))
theorem Xq:SlR X (rSlL X.K):=by
 intro pJ s σ H x v vl vu lo hi sl Q I rx hs pl pu h
 obtain ⟨a,xs,rfl,hx,q⟩:=h
 cases rx
 obtain ⟨its,r,ht,hz⟩:=I.list hx
 have hlen:=r.length
 refine ⟨"list",_,slot_list_getitem.lookup,ht.isList.typeIs,?_⟩
 refine wpAny_getItem_list_slice ht.isList hs pl pu .none (by simp) ?_ (by rw [π] <;> lia)
 rw [jd,<- hlen]
 refine ⟨.ref s.heap.objs.size,_,I.laid (t':=s.toks) (o:=.lst (cutV xs lo hi)) (fun b ob q=>η _ q) (ς _) ?_,rfl,q _ (I.hok.fresh (ς _))⟩
 exact ⟨ϣ (uc xs lo hi) hz,_,0,(r.drop (HT.sIx xs.length 0 lo)).take (HT.sIx xs.length xs.length hi - HT.sIx xs.length 0 lo),υ _ rfl⟩
noncomputable def flatV:V->Bool
 | .non=>true
 | .bl _=>true
 | .int _=>true
 | .str _=>true
 | _=>false
noncomputable def eqV:V->V->Bool
 | .non,.non=>true
 | .bl a,.bl b=>a==b
 | .bl a,.int b=>(if a then 1 else 0)==b
 | .int a,.bl b=>a==(if b then 1 else 0)
 | .int a,.int b=>a==b
 | .str a,.str b=>a==b
 | _,_=>false
theorem Km {A:ϑ}{s:μ}{y x:V}{u v:δ}(ry:RelV y u) (rx:RelV x v) (fy:flatV y=true) (fx:flatV x=true):ϰ A s u v (eqV y x):=by
 cases y with
 | non=>
  cases ry
  cases x with
  | non=>cases rx;exact ϰ.same _
  | bl b=>cases rx;exact ϰ.none_bool b
  | int b=>obtain ⟨t,rfl⟩:=rx;exact ϰ.none_int b t
  | str b=>obtain ⟨t,rfl⟩:=rx;exact ϰ.none_str b t
  | _=>exact absurd (show false=true from fx) Τ
 | bl a=>
  cases ry
  cases x with
  | non=>cases rx;exact ϰ.bool_none a
  | bl b=>cases rx;exact ϰ.bool_bool a b
  | int b=>obtain ⟨t,rfl⟩:=rx;exact ϰ.bool_int a b t
  | str b=>obtain ⟨t,rfl⟩:=rx;exact ϰ.bool_str a b t
  | _=>exact absurd (show false=true from fx) Τ
 | int a=>
  obtain ⟨t',rfl⟩:=ry
  cases x with
  | non=>cases rx;exact ϰ.int_none a t'
  | bl b=>cases rx;exact ϰ.int_bool a t' b
  | int b=>obtain ⟨t,rfl⟩:=rx;exact ϰ.int_int a t' b t
  | str b=>obtain ⟨t,rfl⟩:=rx;exact ni a t' b t
  | _=>exact absurd (show false=true from fx) Τ
 | str a=>
  obtain ⟨t',rfl⟩:=ry
  cases x with
  | non=>cases rx;exact ϰ.str_none a t'
  | bl b=>cases rx;exact ϰ.str_bool a t' b
  | int b=>obtain ⟨t,rfl⟩:=rx;exact m9 a t' b t
  | str b=>obtain ⟨t,rfl⟩:=rx;exact ϰ.str_str a t' b t
  | _=>exact absurd (show false=true from fx) Τ
 | _=>exact absurd (show false=true from fy) Τ
theorem j4:OpR X (ϔ .NotIn) (fun x y H Q=>∃ i j,x=.str i/\y=.str j/\Q (.bl (!(!(eX j i 0 j.length 1).isEmpty))) H):=by
 intro pJ s σ H x y v u Q I rx ry h
 obtain ⟨i,j,rfl,rfl,q⟩:=h
 obtain ⟨t,rfl⟩:=rx
 obtain ⟨t',rfl⟩:=ry
 exact notIn_str ⟨.bl _,H,I,rfl,q⟩
theorem yJ:CallR X (.builtin "len") (fun xs H Q=>∃ p ys,xs=[.ref p]/\(SqL X.K H p ys\/SqT X.K H p ys)/\Q (.int ys.length) H):=by
 intro pJ s σ H xs us Q I r h
 obtain ⟨p,ys,rfl,hq,q⟩:=h
 obtain ⟨u,rfl,rx⟩:=vals1 r
 cases rx
 have hn:=kh
 rcases hq with hq | hq
 ·obtain ⟨its,r',pl,hz⟩:=I.list hq
  have hlen:=r'.length
  exact Calls.call_len_list pl.isList (by simp only [π] <;> lia) ⟨.int ys.length,H,I.tok _,⟨s.toks+1,by rw [π,hlen]⟩,q⟩
 ·obtain ⟨its,r',pl,hz⟩:=I.tuple hq
  have hlen:=r'.length
  exact len_tuple pl (by simp only [π] <;> lia) ⟨.int ys.length,H,I.tok _,⟨s.toks+1,by rw [π,hlen]⟩,q⟩
theorem qw:CallR X (.builtin "len") (fun xs H Q=>∃ z,xs=[.str z]/\z.length<=sizeLine/\Q (.int z.length) H):=by
 intro pJ s σ H xs us Q I r h
 obtain ⟨z,rfl,hz,q⟩:=h
 obtain ⟨u,rfl,t,rfl⟩:=vals1 r
 have hn:=kh
 exact len_str (by lia) ⟨.int z.length,H,I.tok _,⟨_,rfl⟩,q⟩
theorem CallR.or {f:δ}{r r':List V->Hp->VK->Prop}(h:CallR X f r) (h':CallR X f r'):CallR X f (fun xs H Q=>r xs H Q\/r' xs H Q):=by
 intro pJ s σ H xs us Q I rs q
 rcases q with q | q
 ·exact h pJ s σ H xs us Q I rs q
 ·exact h' pJ s σ H xs us Q I rs q
theorem qu:CallR X (.type "list") (fun xs H Q=>∃ p ys,xs=[.ref p]/\(SqL X.K H p ys\/SqT X.K H p ys)/\∀ l,H l=none->Q (.ref l) (upd H l (.lst ys))):=by
 intro pJ s σ H xs us Q I r h
 obtain ⟨p,ys,rfl,hq,q⟩:=h
 obtain ⟨u,rfl,rx⟩:=vals1 r
 cases rx
 have fin:∀ (its:List δ),Vals ys its->ys.length<=sizeLine->∀ (h':Heap) (c':Nat),(∀ b o',s.heap.get? b=some o'->h'.get? b=some o') ->
   h'.get? s.heap.objs.size=some { cls:=.type "list",dict:=none,data:=.seq its.toArray c',slots:=#[] }->EP X pJ σ Q (.ref s.heap.objs.size) { s with heap:=h' }:=fun its r' hz h' c' kp e=>
  ⟨.ref s.heap.objs.size,_,I.laid (t':=s.toks) kp (ς _) (show ObjOk X.prog X.w _ h' _ (.lst ys) from ⟨hz,its,c',r',e⟩),rfl,q _ (I.hok.fresh (ς _))⟩
 rcases hq with hq | hq
 ·obtain ⟨its,r',pl,hz⟩:=I.list hq
  have hlen:=r'.length
  obtain ⟨o,ho,hc,n,hd⟩:=pl.isList
  exact call_list_seq p (.inl rfl) ho hc hd (fun h' c' kp e=>fin its r' hz h' c' kp e) (by simp only [π] <;> lia)
 ·obtain ⟨its,r',pl,hz⟩:=I.tuple hq
  have hlen:=r'.length
  obtain ⟨o,ho,hc,n,hd⟩:=pl
  exact call_list_seq p (.inr rfl) ho hc hd (fun h' c' kp e=>fin its r' hz h' c' kp e) (by simp only [π] <;> lia)
theorem jD:CallR X (.type "tuple") (fun xs H Q=>∃ p ys,xs=[.ref p]/\((SqL X.K H p ys/\∀ l,H l=none->Q (.ref l) (upd H l (.tup ys)))\/(SqT X.K H p ys/\Q (.ref p) H))):=by
 intro pJ s σ H xs us Q I r h
 obtain ⟨p,ys,rfl,h⟩:=h
 obtain ⟨u,rfl,rx⟩:=vals1 r
 cases rx
 rcases h with ⟨hq,q⟩ | ⟨hq,q⟩
 ·obtain ⟨its,r',pl,hz⟩:=I.list hq
  have hlen:=r'.length
  refine call_tuple_list pl.isList (fun h' kp=>?_) (by simp only [π] <;> lia)
  have I1:Inv X pJ σ H { s with heap:=h' }:=I.kept (t':=s.toks) kp
  have I2:Inv X pJ σ (upd H h'.objs.size (.tup ys)) { s with heap:=h'.push { cls:=.type "tuple",data:=.seq its.toArray } }:=
   I1.laid (t':=s.toks) (fun b o e=>η _ e) (ς _) (show ObjOk X.prog X.w _ _ _ (.tup ys) from ⟨hz,its,r',iR.new _ _⟩)
  exact ⟨.ref h'.objs.size,_,I2,rfl,q _ (I1.hok.fresh (ς _))⟩
 ·obtain ⟨its,r',pl,hz⟩:=I.tuple hq
  exact call_tuple_same pl ⟨.ref p,H,I,rfl,q⟩
def tyV (K:W.Frag) (T:String) (x:V) (H:Hp):Prop:=match x with
 | .str _=>T="str"
 | .int _=>T="int"
 | .ref p=>(T="list"/\∃ xs,SqL K H p xs)\/(∃ o,K.lookup p=some o/\o.cls=.type T/\o.dict=none) \/
   (T="dict"/\((∃ kvs,H p=some (.dK kvs))\/∃ kvs,H p=some (.dT kvs)))\/(T="set"/\∃ S n,H p=some (.set S n))
 | _=>False
theorem zaT {pJ:List (Addr×Obj)}{σ:St}{H:Hp}{s:μ}{T:String}{x:V}{v:δ}(I:Inv X pJ σ H s) (r:RelV x v) (ty:tyV X.K T x H):
  s.TypeIs v T/\∀ a,v=.ref a->∃ ob,s.heap.get? a=some ob/\ob.dict=none:=by
 cases x with
 | str z=>
  obtain ⟨t,rfl⟩:=r
  cases (show T="str" from ty)
  exact ⟨typeIs_str s z t,fun _ e=>nomatch e⟩
 | int i=>
  obtain ⟨t,rfl⟩:=r
  cases (show T="int" from ty)
  exact ⟨typeIs_int s i t,fun _ e=>nomatch e⟩
 | ref p=>
  cases r
  rcases ty with ⟨rfl,xs,hq⟩ | ⟨o,hk,hc,hd⟩ | ⟨rfl,hk⟩ | ⟨rfl,S,n,hk⟩
  ·obtain ⟨its,_,pl,_⟩:=I.list hq
   refine ⟨pl.isList.typeIs,fun a e=>?_⟩
   cases e
   obtain ⟨o,n,e,c,hd,_⟩:=pl
   exact ⟨o,e,hd⟩
  ·refine ⟨⟨o,I.kIn p o hk,hc⟩,fun a e=>?_⟩
   cases e
   exact ⟨o,I.kIn _ o hk,hd⟩
  ·have z:∃ o,s.heap.get? p=some o/\o.ExactDict:=by
    rcases hk with ⟨kvs,hk⟩ | ⟨kvs,hk⟩
    ·obtain ⟨_,_,_,_,o,_,_,e,ex,_⟩:=I.hok p _ hk
     exact ⟨o,e,ex⟩
    ·obtain ⟨_,_,_,_,o,_,_,e,ex,_⟩:=I.hok p _ hk
     exact ⟨o,e,ex⟩
   obtain ⟨o,e,ex⟩:=z
   refine ⟨⟨o,e,ex.1⟩,fun a e2=>?_⟩
   cases e2
   exact ⟨o,e,ex.2.1⟩
  ·obtain ⟨o,_,_,_,e,ex,_⟩:=I.hok p _ hk
   refine ⟨⟨o,e,ex.1⟩,fun a e2=>?_⟩
   cases e2
   exact ⟨o,e,ex.2.1⟩
 | _=>exact Ϥ ty
def tBM (K:W.Frag) (T:String) (r:V->List V->Hp->VK->Prop) (to:TE) (t:TA):TE:=fun σ H Q=>to σ H fun x H1=>tyV K T x H1/\t σ H1 fun xs H2=>r x xs H2 Q
variable {o e:Expr}{es:List Expr}{to:TE}{t:TA}{name:Str}{apos cpos:Pos}{T id:String}{r:V->List V->Hp->VK->Prop}
theorem pe_bm (pa:PlainAttrs T) (slot:Slot T name id) (hty:typeOf (.builtin id)=pure (.type "method_descriptor")) (hm:MtR X id r) (ho:PE X o to) (ha:PA X (e::es) t)
  (hbase:attributeBase o name X.env (eval o X.env)=eval o X.env:=by rfl)
  (hfew:((fB cpos (Ϣ (e::es) X.env)).all (fun x=>!x.1)&&(c7 cpos (aZ [] X.env)).all (fun x=>x.1.isSome)
  &&decide ((e::es).length+([]:List cW).length+(if ([]:List cW).isEmpty then 0 else 1) < 30))=true:=by rfl)
  (hline:(apos.endLine==cpos.line)=true:=by rfl) (hs:Ϣ (e::es) X.env=(false,eval e X.env)::Ϣ es X.env:=by rfl) (hplain:(fB cpos (Ϣ es X.env)).any (·.1)=false:=by rfl):
  PE X (.Call (.Attribute o name apos) (e::es) [] cpos) (tBM X.K T r to t):=by
 intro pJ s σ H Q I h
 refine wpAny_Call_method_late hbase hfew hline rfl (thn (ho pJ s σ H _ I h) fun v s1 ⟨x,H1,I1,r1,ty,q1⟩=>?_)
 obtain ⟨h1,h2⟩:=zaT I1 r1 ty
 refine ⟨T,id,pa,slot,hty,h1,h2,?_⟩
 have hA:=ha cpos pJ s1 σ H1 _ I1 q1
 rw [hs] at hA ⊢
 refine Calls.callWith_builtin (by show (false||(fB cpos (Ϣ es X.env)).any (·.1))=false;rw [hplain] <;> rfl) (oJ ?_)
 exact thn hA fun us s2 ⟨vs,H2,I2,r2,q2⟩=>hm pJ s2 σ H2 x vs v us Q I2 r1 r2 q2
end
def MtM (X:Cx) (id:String) (r:V->List V->Hp->VK->Prop):Prop:=
 ∀ (pJ:List (Addr×Obj)) (s:μ) (σ:St) (H:Hp) (x:V) (xs:List V) (v:δ) (us:List δ) (Q:VK),Inv X pJ σ H s->RelV x v->Vals xs us->r x xs H Q ->
  ψ (Ι X.prog X.w) X.A (call (.builtin id) (v::us)) (EP X pJ σ Q) X.xe s
theorem Vals.one:∀ {x:V}{us:List δ},Vals [x] us->∃ u,us=[u]/\RelV x u
 | _,_,.cons r .nil=>⟨_,rfl,r⟩
theorem Vals.two:∀ {x y:V}{us:List δ},Vals [x,y] us->∃ u v,us=[u,v]/\RelV x u/\RelV y v
 | _,_,_,.cons r (.cons q .nil)=>⟨_,_,rfl,r,q⟩
section
variable {X:Cx}{pJ:List (Addr×Obj)}{σ:St}{H:Hp}{s:μ}{l b:Addr}{xs ys zs:List V}
theorem Inv.lset {its its':List δ}{n:Nat}{f:Array δ->Array δ}{t':Nat}(I:Inv X pJ σ H s) (hH:H l=some (.lst xs))
  (e:s.heap.get? l=some { cls:=.type "list",data:=.seq its.toArray n }) (hf:f its.toArray=its'.toArray) (hv:Vals ys its') (hz:ys.length<=sizeLine):
  Inv X pJ σ (upd H l (.lst ys)) { s with heap:=s.heap.update l (b8 f),toks:=t' }:=by
 have q:=PySem.IsL.update e f
 rw [hf] at q
 refine I.write (x:=l) (e:=l) (by rw [hH];exact trivial) (.inl rfl) (fun b' u hb hu=>(bz s.heap (b8 f) (d8 hb)).trans hu) ⟨_,q⟩ ?_
 exact ⟨hz,its',_,hv,q⟩
theorem Inv.lnew {its:List δ}{t':Nat}(I:Inv X pJ σ H s) (hv:Vals ys its) (hz:ys.length<=sizeLine):
  Inv X pJ σ (upd H s.heap.objs.size (.lst ys)) { s with heap:=s.heap.push { cls:=.type "list",data:=.seq its.toArray },toks:=t' }:=
 I.laid (fun _ _ q=>η _ q) (ς _) ⟨hz,its,0,hv,υ _ rfl⟩
theorem Inv.fresh (I:Inv X pJ σ H s):H s.heap.objs.size=none:=I.hok.fresh (ς _)
theorem Inv.lstM (I:Inv X pJ σ H s) (hH:H l=some (.lst xs)):xs.length<=sizeLine/\∃ (its:List δ) (n:Nat),Vals xs its/\xs.length=its.length/\s.heap.get? l=some { cls:=.type "list",data:=.seq its.toArray n }:=by
 obtain ⟨z,its,n,r,e⟩:=I.hok l _ hH
 exact ⟨z,its,n,r,r.length,e⟩
theorem Z3 {n:Nat}(h:n<=sizeLine):cL n=false:=by
 unfold cL
 exact decide_eq_false (by lia)
end
section
variable {X:Cx}
def Qp:V->List V->Hp->VK->Prop:=fun x vs H Q=>∃ l xs y,x=.ref l/\vs=[y]/\H l=some (.lst xs)/\xs.length < sizeLine/\Q .non (upd H l (.lst (xs++[y])))
theorem j8:MtM X "list.append" Qp:=by
 intro pJ s σ H x vs v us Q I rx rv h
 obtain ⟨l,xs,y,rfl,rfl,hH,hz,q⟩:=h
 cases rx
 obtain ⟨u,rfl,ru⟩:=rv.one
 obtain ⟨z,its,n,r,hl,e⟩:=I.lstM hH
 refine oG F.slot_list_append ⟨_,e,rfl⟩ F.entry_list_append (F.args_list_append_2 _ _) (PySem.list_append l its.toArray n u (by rw [π];lia)) ⟨e,?_⟩
 refine ⟨.non,_,I.lset (its':=its++[u]) hH e (by simp) (r.append (.cons ru .nil)) ?_,rfl,q⟩
 rw [ϊ,List.length_singleton]
 lia
def Qo:V->List V->Hp->VK->Prop:=fun x vs H Q=>∃ l b xs zs,x=.ref l/\vs=[.ref b]/\H l=some (.lst xs)/\H b=some (.lst zs)/\xs.length+zs.length<=sizeLine/\Q .non (upd H l (.lst (xs++zs)))
theorem Wq:MtM X "list.extend" Qo:=by
 intro pJ s σ H x vs v us Q I rx rv h
 obtain ⟨l,b,xs,zs,rfl,rfl,hH,hB,hz,q⟩:=h
 cases rx
 obtain ⟨u,rfl,ru⟩:=rv.one
 cases ru
 obtain ⟨z,its,n,r,hl,e⟩:=I.lstM hH
 obtain ⟨z2,its2,n2,r2,hl2,e2⟩:=I.lstM hB
 have hsz:its.toArray.size+its2.toArray.size<=sizeLine:=by rw [π,π];lia
 have hlong:¬ (!its.toArray.isEmpty&&cL (its.toArray.size+its2.toArray.size))=true:=by
  rw [Z3 hsz,gO]
  exact Τ
 refine oG F.slot_list_extend ⟨_,e,rfl⟩ F.entry_list_extend (F.args_list_extend_2 _ _)
  (AutoSeq1.list_extend_list_list_0 l its.toArray n b its2.toArray n2 hlong (by rw [π];lia) (by lia)) ⟨e,e2,?_⟩
 refine ⟨.non,_,I.lset (its':=its++its2) hH e (by simp) (r.append r2) ?_,rfl,q⟩
 rw [ϊ]
 lia
end
end L2
namespace Att
open PySem PySem.W PySem.Calls PyProof.Rows
theorem vZ {P:Params}{h:Heap}:∀ (ns:List Int) (vs:List δ),WellAll P h vs (ns.map WData.int)->IntsAre vs ns:=by
 intro ns
 induction ns with
 | nil=>
  intro vs w
  rw [nU] at w
  cases w
  exact .nil
 | cons n ns ih=>
  intro vs w
  rw [dh] at w
  cases w with
  | cons a b=>
   cases a
   exact .cons _ _ (ih _ b)
theorem Xu {l:OpenLaw}{n:Nat}(hn:l.most=some n) {P:Params}{h:Heap}{args:List WData}{vals:List δ}
  (hpre:l.row.toRowW.claim.pre args=true) (hwl:WellAll P h vals args):
  ∃ a vs ns,vals=[Α a]/\args=[WData.list (ns.map WData.int)]/\h.get? a=some { cls:=.type "list",data:=.seq vs.toArray }/\IntsAre vs ns/\ns.length<=n:=by
 have hsh:WShape.hasAll [] args [.list .int]=true:=(pre_splitW hpre).1
 have hc:l.pre.holds [] { args:=args }=true:=(pre_splitW hpre).2
 obtain ⟨d,r,rfl,h1,h2⟩:=hasAllW_cons hsh
 obtain rfl:=hasAllW_nil h2
 obtain ⟨xs,rfl,h3⟩:=hasW_list h1
 obtain ⟨ns,rfl⟩:=items_int h3
 have hlen:ns.length<=n:=by
  unfold OpenLaw.pre at hc
  have h4:(WTm.not (.lt (.lit (.int (n:Int))) (.len (.arg 0)))).holds [] { args:=[.list (ns.map .int)] }=true:=by
   have h4:=(holds_andW hc).1
   rw [hn] at h4
   exact h4
  have h5:=condW_of h4 (w_not (w_lt w_lit (w_len_list (w_arg rfl))))
  rw [Ν] at h5
  refine lW fun q=>?_
  have q':(n:Int) < ((ns.length:Nat):Int):=by omega
  first
   | (rw [decide_eq_true q'] at h5;exact absurd h5 (by decide))
   | (simp at h5;omega)
 cases hwl with
 | cons w1 w2=>
  cases w2
  cases w1 with
  | list ho hall=>exact ⟨_,_,ns,rfl,rfl,ho,vZ ns _ hall,hlen⟩
theorem XM (l:OpenLaw) (args:List WData):l.row.toRowW.claim.post args (.bool true) args=true:=
 postW_of (r:=l.row.toRowW) (X:=(true==true))
  (show WShape.has [] (.bool true) .bool=true by first | rfl | decide | simp [WShape.has,WShape.arms,WShape.armsAll])
  (show (WTm.eq .res (.lit (.bool true))).value [] { args:=args,res:=some (.bool true),after:=args }=some (.bool (true==true)) from w_eq_bool (w_res rfl) w_lit) rfl
theorem Zr {l:OpenLaw}{n:Nat}{q:Μ}{loose:List Str}{XP:(Str->Option δ)->Heap->Prop}{YP:ϒ->Heap->Prop}{d:DefRec}
  (hn:l.most=some n) (hdf:d.params.defaults=[])
  (call:∀ (w:ϒ) (sy s₁:μ) (mg mb:Str->Option δ) (fa:Addr) (o:Obj) (pm cd doc:δ) (a:Addr) (vs:List δ) (ns:List Int),
   Ground q loose [] XP w sy mg mb s₁.heap->YP w s₁.heap ->
   s₁.heap.get? fa=some o->o.data=.func (docDef d.name d.params d.body d.scope pm cd doc)->s₁.heap.CodeRec cd d.name->mg d.name=some (.ref fa) ->
   s₁.heap.get? a=some { cls:=.type "list",data:=.seq vs.toArray }->IntsAre vs ns->ns.length<=n->s₁.gens=#[] ->
   lg (Ι l.prog w) callerA (.call (.ref fa) ⟨[.ref a],[]⟩) (fun r s'=>r=.ok (.ret (.bool true))/\OldK s₁.heap s'.heap/\s'.os=s₁.os/\gk s'.gens) s₁):
  WalkO q loose XP YP l.row.toRowW d [] (fun f vs=>PySem.call f vs):=by
 intro w sy s₁ mg mb G Y fa o pm cd doc dV kV ho hd hcd hD hmg hg args vals as hpre hlay hrd hwl hlo
 obtain rfl:dV=.none:=Dflts.none hD hdf
 obtain rfl:kV=.none:=Dflts.noKw hD
 obtain ⟨a,vs,ns,rfl,rfl,hobj,hints,hlen⟩:=Xu hn hpre hwl
 refine enter_call (dX (call w sy s₁ mg mb fa o pm cd doc a vs ns G Y ho (fd_plain hd) hcd hmg hobj hints hlen hg) fun r s' hq=>?_)
 obtain ⟨rfl,h2,h3,h4⟩:=hq
 exact ⟨.inl ⟨.bool true,.bool true,[],rfl,fun _=>rfl,.bool true,XM l _,fun _=>⟨mV,fun _ hm=>(nomatch hm)⟩⟩,h2,h3,h4⟩
end Att
namespace L2
open PySem PySem.Spec PyProof.Rows
theorem jL:∀ {vs:List δ}{ns:List Int},IntsAre vs ns->Vals (ns.map V.int) vs
 | _,_,.nil=>.nil
 | _,_,.cons n t h=>.cons ⟨t,rfl⟩ (jL h)
def Only (H:Hp):Prop:=∀ b,H b=none\/∃ o xs,H b=some (.frz o (.lst xs))
theorem UV {P:Μ}{w:ϒ}{K:W.Frag}{mg mb:Str->Option δ}{CX:CXT}{k:Nat}{fa a:Addr}{fd:bj}{x:Str}{sp:Sp}{s₁:μ}{vs:List δ}{ns:List Int}
  (KX:K.In s₁.heap) (hns:s₁.heap.Ns Ψ mg) (hb:s₁.heap.Ns builtinsNs mb) (hbb:∀ x:Str,x≠"__name__"->mb x=cG x) (hlim:s₁.heap.NoLimit) (hg:s₁.gens=#[])
  (ha:s₁.heap.get? a=some { cls:=.type "list",data:=.seq vs.toArray }) (hi:IntsAre vs ns) (hl:ns.length<=sizeLine) (hr:Room k callerA)
  (F:∀ base:Heap,K.In base->base.Ns Ψ mg->FnOk P w K mg base CX k fa fd [x] sp) (hbind:∀ (s:μ) (u:δ),BindsTo s fd ⟨[u],[]⟩ [(x,u)])
  (hsp:∀ H:Hp,Only H->SqL K H a (ns.map V.int)->sp [.ref a] H (fun v _=>v=.bl true) fun _ _ _=>False)
  (hCX:∀ H e s',CX [] H s₁ (fun _ _ _=>False) e s'->False):
  lg (Ι P w) callerA (.call (.ref fa) ⟨[.ref a],[]⟩) (fun r s'=>r=.ok (.ret (.bool true))/\OldK s₁.heap s'.heap/\s'.os=s₁.os/\gk s'.gens) s₁:=by
 have rv:=jL hi
 have lenV:=hi.length
 have core:∀ H:Hp,Only H->SqL K H a (ns.map V.int)->HOk P w H s₁.heap->(∀ b,H b≠none->b=a)->(H a≠none->K.lookup a=none) ->
   lg (Ι P w) callerA (.call (.ref fa) ⟨[.ref a],[]⟩) (fun r s'=>r=.ok (.ret (.bool true))/\OldK s₁.heap s'.heap/\s'.os=s₁.os/\gk s'.gens) s₁:=by
  intro H hO hS hok hA hK
  have base_of:∀ {b:Addr}{o:Obj},s₁.heap.get? b=some o->H b=none->(hidT s₁.heap H).get? b=some o:=fun e n=>U6 e n
  have noA:∀ {b:Addr}{o:Obj}{es:Array cg}{ep:Nat},s₁.heap.get? b=some o->o.data=.dict es ep->H b=none:=fun {b o es ep} e d=>by
   cases q:H b with
   | none=>rfl
   | some u=>
    have e':b=a:=hA b (by rw [q];simp)
    subst e'
    rw [ha] at e;cases e
    have d':eZ vs.toArray _=Data.dict es ep:=d
    cases d'
  have nsK:∀ {b:Addr}{m:Str->Option δ},s₁.heap.Ns b m->(hidT s₁.heap H).Ns b m:=fun {b m} ⟨o,es,ep,e,d,r⟩=>⟨o,es,ep,base_of e (noA e d),d,r⟩
  have hKb:K.In (hidT s₁.heap H):=fun b o e=>base_of (KX b o e) (by
   cases q:H b with
   | none=>rfl
   | some u=>
    have e':b=a:=hA b (by rw [q];simp)
    subst e'
    rw [hK (by rw [q];simp)] at e;cases e)
  have hM:Mod K mg (hidT s₁.heap H):=⟨hKb,nsK hns,⟨mb,nsK hb,hbb⟩,let ⟨mc,h1,h2⟩:=hlim;⟨mc,nsK h1,h2⟩⟩
  have e0:Env0 P w K mg (hidT s₁.heap H) callerA [] s₁ H:=⟨rfl,hM,fun b o e=>QR e,lG (W0 _ _),trivial,fun b hb=>absurd (show b∈([]:List Addr) from hb) (by simp),hok,.of_eq hg⟩
  refine dX ((F _ hKb (nsK hns)).run callerA [] s₁ H ⟨[.ref a],[]⟩ [.ref a] [.ref a] _ _ hr e0 (hbind s₁ (.ref a)) (.cons rfl .nil) (hsp H hO hS)) fun r s' h=>?_
  cases r with
  | error e=>exact (hCX H e s' h).elim
  | ok fl=>
   cases fl with
   | next=>exact Ϥ h
   | brk=>exact Ϥ h
   | cont=>exact Ϥ h
   | ret u=>
    obtain ⟨v,H',os,bare,un,hok',r',q⟩:=h
    have q':v=.bl true:=q
    subst q'
    obtain rfl:u=ύ true:=r'
    refine ⟨rfl,OldK.of_keep fun b o e=>?_,os,bare⟩
    cases q:H b with
    | none=>exact un.keep b o e q (by intro z;exact absurd (show b∈([]:List Addr) from z) (by simp)) (by simp)
    | some u=>
     rcases hO b with z | ⟨ob,xs,z⟩
     ·rw [q] at z;cases z
     ·have z2:=un.frzs b ob _ z
      obtain ⟨e1,_⟩:=hok b _ z
      obtain ⟨e2,_⟩:=hok' b _ z2
      rw [e] at e1;cases e1
      exact e2
 cases hk:K.lookup a with
 | some o=>
  have e:=KX a o hk
  rw [ha] at e
  cases e
  refine core (fun _=>none) (fun _=>.inl rfl) (.inr ⟨_,vs.toArray,_,hk,rfl,rfl,rfl,by rw [π,lenV];exact hl,by simpa using rv⟩) (fun b u z=>by have z':(none:Option HO)=some u:=z;cases z') (fun b z=>absurd rfl z) fun z=>absurd rfl z
 | none=>
  refine core (fun b=>if b=a then some (.frz { cls:=.type "list",data:=.seq vs.toArray } (.lst (ns.map V.int))) else none) (fun b=>?_) (.inl (.inr ⟨{ cls:=.type "list",data:=.seq vs.toArray },if_pos rfl⟩)) (fun b u z=>?_) (fun b z=>?_) fun _=>hk
  ·by_cases hb:b=a
   ·exact .inr ⟨_,_,if_pos hb⟩
   ·exact .inl (if_neg hb)
  ·by_cases hb:b=a
   ·have z':=(if_pos hb).symm.trans z
    cases z'
    subst hb
    exact ⟨ha,by rw [Ν];exact hl,vs,_,rv,ha⟩
   ·have z':=(if_neg hb).symm.trans z
    cases z'
  ·by_cases hb:b=a
   ·exact hb
   ·exact absurd (if_neg hb) z
abbrev CX0:CXT:=fun _ _ _ _ _ _=>False
abbrev E0:XK:=fun _ _ _=>False
structure Fun (K:W.Frag) (x qual:Str) (st:Stmt) (f:Addr) (fd:bj):Prop where
 ex:∃ (oc:δ) (od:Option Addr) (kV doc pm:δ) (an:Option Addr) (cdv ct:δ) (osl:Array (Option δ)),
  fd=W.fnOf x qual (yo st) (zY st) (zA st) .none kV doc pm an cdv ct/\K.lookup f=some ⟨oc,od,.func fd,osl⟩/\W.codeIn K cdv qual=true
 kp:W.keepIn K (.ref f)=true
section
variable {P:Μ}{w:ϒ}{K:W.Frag}{mg:Str->Option δ}{base:Heap}
theorem Fun.ok {x qual:Str}{st:Stmt}{f:Addr}{fd:bj}{N ps:List Str}{k:Nat}{sp:Sp}(F:Fun K x qual st f fd) (S:jF N ps (zA st)) (len:∀ vs H Q E,sp vs H Q E->vs.length=ps.length)
  (hbody:∀ (cdv:δ) (A:ϑ) (outer:List Env) (s:μ) (H:Hp) (vs:List V) (Q:VK) (E:XK),Room k (A.deeper (lR qual (zA st) s.heap.objs.size f cdv))->sp vs H Q E ->
   ∃ t,PSs (cxOf CX0 P w K mg base N qual (zA st) f cdv A outer s H E).nox (zY st) t/\t { nx:=fun _ H'=>Q .non H',rt:=Q } (start N vs) H):FnOk P w K mg base CX0 (k+1) f fd ps sp:=by
 obtain ⟨oc,od,kV,doc,pm,an,cdv,ct,osl,rfl,lk,hcd⟩:=F.ex
 refine fn_of lk hcd S len fun A outer s H vs Q E hr hsp=>?_
 obtain ⟨t,h,q⟩:=hbody cdv A outer s H vs Q E hr hsp
 exact ⟨t,h.nox,q⟩
theorem Fun.binds {x qual:Str}{st:Stmt}{f:Addr}{fd:bj}{ps:List Str}(F:Fun K x qual st f fd)
  (h:∀ (kV doc pm:δ) (an:Option Addr) (cdv ct:δ) (us:List δ),us.length=ps.length->bindArgs (W.fnOf x qual (yo st) (zY st) (zA st) .none kV doc pm an cdv ct) ⟨us,[]⟩=pure (ps.zip us)):Binds K fd ps []:=by
 obtain ⟨oc,od,kV,doc,pm,an,cdv,ct,osl,rfl,lk,hcd⟩:=F.ex
 exact .all (h kV doc pm an cdv ct)
theorem zcy {x qual:Str}{st:Stmt}{f:Addr}{oc:δ}{od an:Option Addr}{osl:Array (Option δ)}{kV doc pm cdv ct:δ}(l:K.lookup f=some ⟨oc,od,.func (W.fnOf x qual (yo st) (zY st) (zA st) .none kV doc pm an cdv ct),osl⟩)
  (c:W.codeIn K cdv qual=true) (k:W.keepIn K (.ref f)=true):Fun K x qual st f (W.fnOf x qual (yo st) (zY st) (zA st) .none kV doc pm an cdv ct):=⟨⟨oc,od,kV,doc,pm,an,cdv,ct,osl,rfl,l,c⟩,k⟩
end
theorem iteF {A B:Prop}(h:B):if false=true then A else B:=by
 rw [if_neg Τ]
 exact h
theorem iteT {A B:Prop}(h:A):if true=true then A else B:=by
 rw [if_pos rfl]
 exact h
def Same (H H':Hp):Prop:=∀ b o,H b=some o->H' b=some o
theorem Same.refl (H:Hp):Same H H:=fun _ _ h=>h
theorem Same.trans {H H1 H2:Hp}(a:Same H H1) (b:Same H1 H2):Same H H2:=fun c o h=>b c o (a c o h)
theorem Same.free {H H':Hp}(e:Same H H') {l:Addr}(h:H' l=Option.none):H l=Option.none:=by
 cases q:H l with
 | none=>rfl
 | some o=>
  rw [e l o q] at h
  cases h
theorem Same.seq {K:W.Frag}{H H':Hp}{a:Addr}{xs:List V}(e:Same H H') (h:SqL K H a xs):SqL K H' a xs:=by
 rcases h with (h | ⟨o,h⟩) | h
 ·exact .inl (.inl (e _ _ h))
 ·exact .inl (.inr ⟨o,e _ _ h⟩)
 ·exact .inr h
theorem xX {prog:Μ}{w:ϒ}{A:ϑ}{E:VSP}{s:μ}{it l:Addr}{i:Nat}{items:Array δ}{x:δ}{Q:VSP}(hit:s.heap.IsTupleIter it l i) (hl:s.heap.IsTuple l items) (hx:items[i]?=some x)
  (hQ:∀ h':Heap,h'.IsTupleIter it l (i+1)->ό it s.heap h'->Q x { s with heap:=h' }):ψ (Ι prog w) A (gG (.ref it)) Q E s:=by
 obtain ⟨o,ho,hc,hd⟩:=id hit
 obtain ⟨ol,hol,left,nl,hdl⟩:=hl
 refine γ (ϗ hit.typeIs F.slot_tuple_iterator_next (ϓ F.slot_tuple_iterator_next hit.typeIs F.entry_tuple_iterator_next ?_ (F.args_tuple_iterator_next_1 (.ref it))))
 refine γ ?_
 rw [show slotArgs "__next__" 0 { pos:=[Α it] }=pure (Α it,[]) from rfl]
 refine ζ ?_
 refine γ (Ϧ ho hd rfl ?_)
 refine γ (Ϧ ho hd rfl ?_)
 refine γ (iD hol hdl ?_)
 have hx':items[((i:Int)).toNat]?=some x:=hx
 simp only [hx']
 refine γ (Ϟ ho hd (by simp) (ζ ⟨x,rfl,ζ (hQ _ ⟨_,ϫ _ ho (cH (aX hd _)),(lE o _).trans hc,?_⟩ (aA s.heap it _))⟩))
 rw [aX hd]
 simp [Ϯ]
theorem wO {prog:Μ}{w:ϒ}{A:ϑ}{E:VSP}{s:μ}{it l:Addr}{i:Nat}{items:Array δ}{Q:VSP}(hh:A.handled=none) (hit:s.heap.IsTupleIter it l i) (hl:s.heap.IsTuple l items) (hx:items[i]?=none)
  (hE:∀ (h':Heap) (e:Addr),lY it s.heap h'->(∃ o,h'.get? e=some o/\o.cls=ώ "StopIteration")->E (Α e) { s with heap:=h' }):ψ (Ι prog w) A (gG (.ref it)) Q E s:=by
 obtain ⟨o,ho,hc,hd⟩:=id hit
 obtain ⟨ol,hol,left,nl,hdl⟩:=hl
 refine γ (ϗ hit.typeIs F.slot_tuple_iterator_next (ϓ F.slot_tuple_iterator_next hit.typeIs F.entry_tuple_iterator_next ?_ (F.args_tuple_iterator_next_1 (.ref it))))
 refine γ ?_
 rw [show slotArgs "__next__" 0 { pos:=[Α it] }=pure (Α it,[]) from rfl]
 refine ζ ?_
 refine γ (Ϧ ho hd rfl ?_)
 refine γ (Ϧ ho hd rfl ?_)
 refine γ (iD hol hdl ?_)
 have hx':items[((i:Int)).toNat]?=none:=hx
 simp only [hx']
 refine γ (bW (γ (Ϟ ho hd (by simp) ?_)))
 refine γ ?_
 refine γ (Ω ?_)
 refine γ (aQ rfl (Ω ?_))
 refine γ (lJ ?_)
 rw [show A.in1.handled=none from hh]
 refine m7 (hE _ _ (fun b o' hb hg=>?_) ⟨_,υ _ rfl,rfl⟩)
 ·exact η _ (η _ (by rw [(aA s.heap it _).2 b hb];exact hg))
theorem jB {prog:Μ}{w:ϒ}{A:ϑ}{E:VSP}{s:μ}{e it l:Addr}{i:Nat}{items:Array δ}{x old:δ}{Q:VSP}(he:IsEnum s.heap e it (i:Int) old) (hit:s.heap.IsTupleIter it l i) (hl:s.heap.IsTuple l items) (hx:items[i]?=some x) (hne:e≠it)
  (hQ:∀ h':Heap,IsEnumOut h' e it ((i:Int)+1) x s.heap.objs.size->h'.IsTupleIter it l (i+1)->h'.get? s.heap.objs.size=some { cls:=ώ "tuple",data:=eZ #[ϕ (i:Int) s.toks,x] }->h'.objs.size=s.heap.objs.size+1 ->
   (∀ (b:Addr) (o:Obj),b≠e->b≠it->s.heap.get? b=some o->h'.get? b=some o)->Q (Α s.heap.objs.size) { heap:=h',gens:=s.gens,drawn:=s.drawn,toks:=s.toks+1,os:=s.os }):
  ψ (Ι prog w) A (Κ.«enumerate.__next__» { pos:=[Α e] }) (fun fin s'=>∃ v,fin=Fin.done (Flow.ret v)/\Q v s') E s:=by
 obtain ⟨hp,gs,dr,tk,os⟩:=s
 dsimp only at *
 refine γ ?_
 rw [show slotArgs "__next__" 0 { pos:=[Α e] }=pure (Α e,[]) from rfl]
 refine ζ ?_
 refine γ (Ϧ he rfl rfl ?_)
 refine γ (xX hit hl hx fun h1 hit1 sb1=>?_)
 have he1:IsEnum h1 e it (i:Int) old:=(sb1.2 e hne).trans he
 refine γ (Ϧ he1 rfl rfl ?_)
 refine γ (Ϧ he1 rfl rfl ?_)
 rw [if_pos (by rfl)]
 refine γ (wpAny_mkInt ?_)
 refine γ (ϳ he1 (by simp) fun h2 he2 sb2=>?_)
 have he2:h2.get? e=some { cls:=ώ "enumerate",data:=Ϫ #[Β,ύ false,Α it,Ϯ ((i:Int)+1),Β,old] }:=by simpa using he2
 refine γ (ϳ he2 (by simp) fun h3 he3 sb3=>?_)
 have he3:h3.get? e=some { cls:=ώ "enumerate",data:=Ϫ #[Β,ύ false,Α it,Ϯ ((i:Int)+1),Β,old] }:=by simpa using he3
 have z1:h1.objs.size=hp.objs.size:=sb1.1
 have z2:h2.objs.size=h1.objs.size:=sb2.1
 have z3:h3.objs.size=h2.objs.size:=sb3.1
 refine γ (iG ?_ (by rw [aF];simp))
 dsimp only
 have he4:=η { cls:=ώ "tuple",data:=eZ [ϕ (↑i) tk,x].toArray } he3
 have t4:(h3.push { cls:=ώ "tuple",data:=eZ [ϕ (↑i) tk,x].toArray }).get? h3.objs.size=some { cls:=ώ "tuple",data:=eZ [ϕ (↑i) tk,x].toArray }:=υ _ rfl
 have z4:(h3.push { cls:=ώ "tuple",data:=eZ [ϕ (↑i) tk,x].toArray }).objs.size=h3.objs.size+1:=dH _ _
 have k4:∀ (b:Addr) (o:Obj),h3.get? b=some o->(h3.push { cls:=ώ "tuple",data:=eZ [ϕ (↑i) tk,x].toArray }).get? b=some o:=fun b o h=>η _ h
 generalize h3.push { cls:=ώ "tuple",data:=eZ [ϕ (↑i) tk,x].toArray }=h4 at *
 refine γ ?_
 refine γ (Ϧ he4 rfl rfl ?_)
 refine ζ ?_
 refine γ (bW (γ (Ϧ he4 rfl rfl ?_)))
 refine γ (ϳ he4 (by simp) fun h5 he5 sb5=>?_)
 have he5:h5.get? e=some { cls:=ώ "enumerate",data:=Ϫ #[Β,ύ false,Α it,Ϯ ((i:Int)+1),Β,x] }:=by simpa using he5
 refine γ ?_
 refine γ (ϳ he5 (by simp) fun h6 he6 sb6=>?_)
 have he6:h6.get? e=some { cls:=ώ "enumerate",data:=Ϫ #[Ϯ (h3.objs.size:Int),ύ false,Α it,Ϯ ((i:Int)+1),Β,x] }:=by simpa using he6
 refine ϳ he6 (by simp) fun h7 he7 sb7=>?_
 have he7:h7.get? e=some { cls:=ώ "enumerate",data:=Ϫ #[Ϯ (h3.objs.size:Int),ύ false,Α it,Ϯ ((i:Int)+1),Β,x] }:=by simpa using he7
 refine γ (wpAny_letGo ?_)
 have hs:h3.objs.size=hp.objs.size:=by lia
 have lt:∀ {h:Heap}{b:Addr}{o:Obj},h.get? b=some o->b < h.objs.size:=fun h=>ω h
 have hep:e≠h3.objs.size:=Υ (lt he3)
 have back:∀ b:Addr,b≠e->h7.get? b=h4.get? b:=fun b hb=>(sb7.2 b hb).trans ((sb6.2 b hb).trans (sb5.2 b hb))
 have z7:h7.objs.size=h4.objs.size:=sb7.1.trans (sb6.1.trans sb5.1)
 refine ζ ⟨_,rfl,?_⟩
 rw [hs] at he7 t4 hep ⊢
 refine hQ h7 he7 ?_ ?_ (by lia) fun b o hb hb' hg=>?_
 ·obtain ⟨o,ho,hr⟩:=id hit1
  refine ⟨o,?_,hr⟩
  rw [back it (fun q=>hne q.symm)]
  exact k4 it o ((sb3.2 it (fun q=>hne q.symm)).trans ((sb2.2 it (fun q=>hne q.symm)).trans ho))
 ·rw [back _ (fun q=>hep q.symm)]
  exact t4
 ·rw [back b hb]
  exact k4 b o ((sb3.2 b hb).trans ((sb2.2 b hb).trans ((sb1.2 b hb').trans hg)))
theorem vM {prog:Μ}{w:ϒ}{A:ϑ}{E:VSP}{s:μ}{e it l:Addr}{i:Nat}{items:Array δ}{x old:δ}{Q:Option δ->μ->Prop}(he:IsEnum s.heap e it (i:Int) old) (hit:s.heap.IsTupleIter it l i) (hl:s.heap.IsTuple l items) (hx:items[i]?=some x) (hne:e≠it)
  (hQ:∀ h':Heap,IsEnumOut h' e it ((i:Int)+1) x s.heap.objs.size->h'.IsTupleIter it l (i+1)->h'.get? s.heap.objs.size=some { cls:=ώ "tuple",data:=eZ #[ϕ (i:Int) s.toks,x] }->h'.objs.size=s.heap.objs.size+1 ->
   (∀ (b:Addr) (o:Obj),b≠e->b≠it->s.heap.get? b=some o->h'.get? b=some o)->Q (some (Α s.heap.objs.size)) { heap:=h',gens:=s.gens,drawn:=s.drawn,toks:=s.toks+1,os:=s.os }):
  ψ (Ι prog w) A (dU (.ref e)) Q E s:=by
 have ty:bO s (.ref e) "enumerate":=⟨_,he,rfl⟩
 refine γ (cP (ϗ ty F.slot_enumerate_next (ϓ F.slot_enumerate_next ty F.entry_enumerate_next (jB he hit hl hx hne fun h' a b c d f=>?_) (F.args_enumerate_next_1 _))))
 exact ζ (hQ h' a b c d f)
theorem yZ {prog:Μ}{w:ϒ}{A:ϑ}{E:VSP}{s:μ}{e it l:Addr}{i:Nat}{items:Array δ}{old:δ}{Q:Option δ->μ->Prop}(hh:A.handled=none) (he:IsEnum s.heap e it (i:Int) old) (hit:s.heap.IsTupleIter it l i) (hl:s.heap.IsTuple l items) (hx:items[i]?=none)
  (hQ:∀ h':Heap,lY it s.heap h'->Q none { s with heap:=h' }):ψ (Ι prog w) A (dU (.ref e)) Q E s:=by
 have ty:bO s (.ref e) "enumerate":=⟨_,he,rfl⟩
 refine γ (cP (ϗ ty F.slot_enumerate_next (ϓ F.slot_enumerate_next ty F.entry_enumerate_next ?_ (F.args_enumerate_next_1 _))))
 refine γ ?_
 rw [show slotArgs "__next__" 0 { pos:=[Α e] }=pure (Α e,[]) from rfl]
 refine ζ ?_
 refine γ (Ϧ he rfl rfl ?_)
 refine γ (wO (by exact hh) hit hl hx fun h' e' ext ⟨o,ho,hc⟩=>?_)
 refine γ (dj (T:="StopIteration") (b:=true) ⟨o,ho,hc⟩ iK ?_)
 exact ζ (hQ h' ext)
set_option tactic.hygienic true in
theorem vR (l:Addr) (items:Array δ):Meets (Κ.«enumerate.__new__» { pos:=[ώ "enumerate",Α l] }) fun x R s=>
  s.heap.IsTuple l items/\R (Except.ok (Flow.ret (Α (s.heap.push { cls:=ώ "tuple_iterator",data:=Ϫ #[Α l,ϕ 0 0] }).objs.size)))
   { heap:=(s.heap.push { cls:=ώ "tuple_iterator",data:=Ϫ #[Α l,ϕ 0 0] }).push { cls:=ώ "enumerate",data:=Ϫ #[Β,ύ false,Α s.heap.objs.size,Ϯ 0,Β,Β] },gens:=s.gens,drawn:=s.drawn,toks:=s.toks,os:=s.os }:=
 Meets.of_wp fun prog w A R s h=>by
  obtain ⟨hp,g,d,tk,os⟩:=s
  obtain ⟨hl,h⟩:=h
  have hsub:=sub_enumerate
  refine γ ?_
  refine γ ?_
  refine ζ ?_
  refine gY rfl ?_
  refine γ (aQ hsub ?_)
  refine gY rfl ?_
  refine ζ ?_
  refine wpAny_ite_true rfl ?_
  refine γ ?_
  refine γ (wpAny_stack_any fun st=>?_)
  refine ζ ?_
  have fin:ψ (Ι prog w) A.in1 (iI (Α l) >>= fun it=>Κ.SmallTypes.newRecord (ώ "enumerate") (Κ.SmallTypes.ownedTupleFields++[it,Ϯ 0,Β,Β]) >>= fun v=>ret v)
    (fun fin s'=>∃ v,fin=Fin.done (Flow.ret v)/\R (Except.ok (Flow.ret v)) s') (fun e s'=>R (Except.error e) s') { heap:=hp,gens:=g,drawn:=d,toks:=tk,os:=os }:=
   by
   refine γ (lM hl ?_)
   refine γ ?_
   refine Ω (T:="enumerate") (data:=Ϫ #[Β,ύ false,Α hp.objs.size,Ϯ 0,Β,Β]) (dict:=none) ?_
   exact ζ ⟨_,rfl,h⟩
  split
  ·rename_i c _ _ _ _ _
   generalize (c==ώ "enumerate")=b
   cases b with
   | true=>exact wpAny_ite_true rfl (γ (aQ rfl fin))
   | false=>exact gY rfl (γ (aQ rfl fin))
  ·exact gY rfl (γ (aQ rfl fin))
theorem xN {prog:Μ}{w:ϒ}{A:ϑ}{E:VSP}{s:μ}{l:Addr}{items:Array δ}{Q:VSP}(hl:s.heap.IsTuple l items)
  (h:∀ h':Heap,IsEnum h' (s.heap.objs.size+1) s.heap.objs.size 0 Β->h'.IsTupleIter s.heap.objs.size l 0->h'.objs.size=s.heap.objs.size+2->(∀ (b:Addr) (o:Obj),s.heap.get? b=some o->h'.get? b=some o)->Q (Α (s.heap.objs.size+1)) { s with heap:=h' }):
  ψ (Ι prog w) A (call (ώ "enumerate") [Α l]) Q E s:=by
 have hz:=dH s.heap { cls:=ώ "tuple_iterator",data:=Ϫ #[Α l,ϕ 0 0] }
 refine callType_new F.called_enumerate (by decide) (F.typeCall_enumerate_1 (Α l)) (F.newCall_enumerate_1 (Α l)) (fun obj=>F.args_object_init_2 obj (Α l)) F.entry_enumerate_new (vR l items) ⟨hl,?_⟩
 have he:=υ (s.heap.push { cls:=ώ "tuple_iterator",data:=Ϫ #[Α l,ϕ 0 0] }) (o:={ cls:=ώ "enumerate",data:=Ϫ #[Β,ύ false,Α s.heap.objs.size,Ϯ 0,Β,Β] }) rfl
 have hi:=η { cls:=ώ "enumerate",data:=Ϫ #[Β,ύ false,Α s.heap.objs.size,Ϯ 0,Β,Β] } (υ s.heap (o:={ cls:=ώ "tuple_iterator",data:=Ϫ #[Α l,ϕ 0 0] }) rfl)
 have hz2:=dH (s.heap.push { cls:=ώ "tuple_iterator",data:=Ϫ #[Α l,ϕ 0 0] }) { cls:=ώ "enumerate",data:=Ϫ #[Β,ύ false,Α s.heap.objs.size,Ϯ 0,Β,Β] }
 show bO _ _ "enumerate"/\_
 rw [hz] at he ⊢
 exact ⟨⟨_,he,rfl⟩,h _ he ⟨_,hi,rfl,rfl⟩ (by rw [hz2,hz]) fun b o hb=>η _ (η _ hb)⟩
noncomputable def Ite (K:W.Frag) (l:Addr):It:=
 ⟨fun i H=>∃ xs x,SqL K H l xs/\xs[i]?=some x,fun i H x H'=>∃ p y,H p=none/\x=.ref p/\H'=upd H p (.tup [.int i,y])/\∀ xs,SqL K H l xs->xs[i]?=some y,fun i H=>∃ xs,SqL K H l xs/\xs.length<=i⟩
theorem Xe {P:Μ}{w:ϒ}{K:W.Frag}{elts:List Expr}{kk:Nat}{pos:Pos}(l e it:Addr) (hne:e≠it):
  Turn P w K (.Tuple elts kk pos) (Ite K l) [e,it] e (fun i h=>(∃ old,IsEnum h e it i old)/\h.IsListIter it l i) where
 mem:=by simp
 obj:=fun i h st b hb=>by
  obtain ⟨⟨old,he⟩,hit⟩:=st
  have hb':b=e\/b=it:=by simpa using hb
  rcases hb' with rfl | rfl
  ·exact ⟨_,he,fun v z=>by cases z⟩
  ·obtain ⟨o,q,c,d⟩:=hit
   exact ⟨o,q,fun v z=>by rw [d] at z;cases z⟩
 keep:=fun i h h' st k=>by
  obtain ⟨⟨old,he⟩,hit⟩:=st
  exact ⟨⟨old,k e (by simp) _ he⟩,hit.at fun o q=>k it (by simp) o q⟩
 item:=by
  intro X hP hw hK hc i pJ s σ H E I hf st hg
  subst hP hw hK
  obtain ⟨⟨old,he⟩,hit⟩:=st
  obtain ⟨xs,x,hq,hx⟩:=hg
  obtain ⟨its,rv,p,hz⟩:=I.list hq
  obtain ⟨u,hu,ru⟩:=rv.get hx
  have f1:=hf e (by simp)
  have f2:=hf it (by simp)
  have hT:H s.heap.objs.size=none:=I.hok.fresh (ς _)
  refine wpAny_pyNext_enum_item he hit p.isList (x:=u) (by simpa using hu) hne fun h' ho hit' hTp hsz hk=>⟨_,rfl,?_⟩
  refine ou ho fun h2 he2 hs2=>?_
  have kept:∀ b o,b ∉ [e,it]->s.heap.get? b=some o->h2.get? b=some o:=fun b o hb q=>(hs2.2 b fun z=>hb (by simp [z])).trans (hk b o (fun z=>hb (by simp [z])) (fun z=>hb (by simp [z])) q)
  have nT:∀ b o,s.heap.get? b=some o->b≠s.heap.objs.size:=fun b o q=>Υ (ω q)
  have htr:∀ b o,H b=some o->b ∉ [e,it]:=fun b o q hb=>by
   have hb':b=e\/b=it:=by simpa using hb
   rcases hb' with rfl | rfl
   ·rw [f1.1] at q;cases q
   ·rw [f2.1] at q;cases q
  have eT:h2.get? s.heap.objs.size=some { cls:=.type "tuple",data:=.seq #[.int i s.toks,u] }:=(hs2.2 _ (cX (ω he))).trans hTp
  have hok:HOk X.prog X.w (upd H s.heap.objs.size (.tup [.int i,x])) h2:=fun b o q=>by
   by_cases hb:b=s.heap.objs.size
   ·subst hb
    rw [zm] at q
    cases q
    exact ⟨by show 2<=sizeLine;decide,[.int i s.toks,u],.cons ⟨_,rfl⟩ (.cons ru .nil),⟨_,eT,rfl,_,rfl⟩⟩
   ·rw [zc hb] at q
    refine (I.hok b o q).stay (fun c v hcv r=>kept c v ?_ r) (fun c r=>by rw [zc (zf r hT)];exact r) fun c ys r=>by rw [zc (zf r hT)];exact r
    rcases hcv with rfl | hcv
    ·exact htr _ _ q
    ·exact htr _ _ hcv
  refine ⟨.ref s.heap.objs.size,upd H s.heap.objs.size (.tup [.int i,x]),?_,rfl,⟨_,x,hT,rfl,rfl,fun ys hy=>by rw [I.Z6 hy hq];exact hx⟩,⟨⟨u,by simpa using he2⟩,hit'.at fun o q=>(hs2.2 it hne.symm).trans q⟩,fun b hb=>?_⟩
  ·refine Inv.step (s:=s) (H:=H) (h':=h2) (g':=s.gens) (d':=s.drawn) (t':=s.toks+1) (ch:=[e,it]) I (fun b hb=>?_) (fun b o _ _ hb q _=>kept b o hb q) (fun b o _ _ hb q _=>⟨o.slots,kept b o hb q⟩) (fun b o _ q n=>by rw [zc (nT b o q)];exact n) (fun b o hb q=>⟨o,kept b o hb q⟩)
    (fun b ys q=>by rw [zc (zf q hT)];exact q) (fun b o v q=>by rw [zc (zf q hT)];exact q) (fun b ps q=>⟨#[],by rw [zc (zf q hT),q];simp⟩) (fun m hm=>?_) hok I.bare
   ·have hb':b=e\/b=it:=by simpa using hb
    rcases hb' with rfl | rfl
    ·exact ⟨f1.2.2.2.1,f1.2.1,f1.2.2.2.2.1,f1.2.2.2.2.2⟩
    ·exact ⟨f2.2.2.2.1,f2.2.1,f2.2.2.2.2.1,f2.2.2.2.2.2⟩
   ·obtain ⟨o,es,ep,q,r⟩:=hm
    exact ⟨o,es,ep,kept _ o (fun hb=>by
     have hb':X.env.locals=e\/X.env.locals=it:=by simpa using hb
     rcases hb' with z | z
     ·exact f1.2.1 z.symm
     ·exact f2.2.1 z.symm) q,r⟩
  ·have hb':b=e\/b=it:=by simpa using hb
   rcases hb' with rfl | rfl
   ·rw [zc (nT _ _ he)];exact f1.1
   ·obtain ⟨o,q,_⟩:=hit
    rw [zc (nT _ _ q)];exact f2.1
 done:=by
  intro X hP hw hK hc i pJ s σ H E I hf st hg
  subst hP hw hK
  obtain ⟨⟨old,he⟩,hit⟩:=st
  obtain ⟨xs,hq,hx⟩:=hg
  obtain ⟨its,rv,p,hz⟩:=I.list hq
  obtain ⟨f0,f1,f2,f3,f4,f5⟩:=hf it (by simp)
  have hl:=rv.length
  exact wpAny_pyNext_enum_end (I.ok.hd hc) he hit p.isList (by simp;lia) fun h' eb=>⟨rfl,I.turned (t':=s.toks) (fun b o hb q=>eb b o hb q) f0 f1 f3 f4 f5⟩
 self:=fun A i s Q E st h=>by
  obtain ⟨⟨old,he⟩,_⟩:=st
  exact gf he h
noncomputable def Itet (K:W.Frag) (l:Addr):It:=
 ⟨fun i H=>∃ xs x,SqT K H l xs/\xs[i]?=some x,fun i H x H'=>∃ p y,H p=none/\x=.ref p/\H'=upd H p (.tup [.int i,y])/\∀ xs,SqT K H l xs->xs[i]?=some y,fun i H=>∃ xs,SqT K H l xs/\xs.length<=i⟩
theorem Yz {P:Μ}{w:ϒ}{K:W.Frag}{elts:List Expr}{kk:Nat}{pos:Pos}(l e it:Addr) (hne:e≠it):
  Turn P w K (.Tuple elts kk pos) (Itet K l) [e,it] e (fun i h=>(∃ old,IsEnum h e it i old)/\h.IsTupleIter it l i) where
 mem:=by simp
 obj:=fun i h st b hb=>by
  obtain ⟨⟨old,he⟩,hit⟩:=st
  have hb':b=e\/b=it:=by simpa using hb
  rcases hb' with rfl | rfl
  ·exact ⟨_,he,fun v z=>by cases z⟩
  ·obtain ⟨o,q,c,d⟩:=hit
   exact ⟨o,q,fun v z=>by rw [d] at z;cases z⟩
 keep:=fun i h h' st k=>by
  obtain ⟨⟨old,he⟩,hit⟩:=st
  exact ⟨⟨old,k e (by simp) _ he⟩,hit.at fun o q=>k it (by simp) o q⟩
 item:=by
  intro X hP hw hK hc i pJ s σ H E I hf st hg
  subst hP hw hK
  obtain ⟨⟨old,he⟩,hit⟩:=st
  obtain ⟨xs,x,hq,hx⟩:=hg
  obtain ⟨its,rv,p,hz⟩:=I.tuple hq
  obtain ⟨u,hu,ru⟩:=rv.get hx
  have f1:=hf e (by simp)
  have f2:=hf it (by simp)
  have hT:H s.heap.objs.size=none:=I.hok.fresh (ς _)
  refine vM he hit (show s.heap.IsTuple l its.toArray from p) (x:=u) (by simpa using hu) hne fun h' ho hit' hTp hsz hk=>⟨_,rfl,?_⟩
  refine ou ho fun h2 he2 hs2=>?_
  have kept:∀ b o,b ∉ [e,it]->s.heap.get? b=some o->h2.get? b=some o:=fun b o hb q=>(hs2.2 b fun z=>hb (by simp [z])).trans (hk b o (fun z=>hb (by simp [z])) (fun z=>hb (by simp [z])) q)
  have nT:∀ b o,s.heap.get? b=some o->b≠s.heap.objs.size:=fun b o q=>Υ (ω q)
  have htr:∀ b o,H b=some o->b ∉ [e,it]:=fun b o q hb=>by
   have hb':b=e\/b=it:=by simpa using hb
   rcases hb' with rfl | rfl
   ·rw [f1.1] at q;cases q
   ·rw [f2.1] at q;cases q
  have eT:h2.get? s.heap.objs.size=some { cls:=.type "tuple",data:=.seq #[.int i s.toks,u] }:=(hs2.2 _ (cX (ω he))).trans hTp
  have hok:HOk X.prog X.w (upd H s.heap.objs.size (.tup [.int i,x])) h2:=fun b o q=>by
   by_cases hb:b=s.heap.objs.size
   ·subst hb
    rw [zm] at q
    cases q
    exact ⟨by show 2<=sizeLine;decide,[.int i s.toks,u],.cons ⟨_,rfl⟩ (.cons ru .nil),⟨_,eT,rfl,_,rfl⟩⟩
   ·rw [zc hb] at q
    refine (I.hok b o q).stay (fun c v hcv r=>kept c v ?_ r) (fun c r=>by rw [zc (zf r hT)];exact r) fun c ys r=>by rw [zc (zf r hT)];exact r
    rcases hcv with rfl | hcv
    ·exact htr _ _ q
    ·exact htr _ _ hcv
  refine ⟨.ref s.heap.objs.size,upd H s.heap.objs.size (.tup [.int i,x]),?_,rfl,⟨_,x,hT,rfl,rfl,fun ys hy=>by rw [I.jN hy hq];exact hx⟩,⟨⟨u,by simpa using he2⟩,hit'.at fun o q=>(hs2.2 it hne.symm).trans q⟩,fun b hb=>?_⟩
  ·refine Inv.step (s:=s) (H:=H) (h':=h2) (g':=s.gens) (d':=s.drawn) (t':=s.toks+1) (ch:=[e,it]) I (fun b hb=>?_) (fun b o _ _ hb q _=>kept b o hb q) (fun b o _ _ hb q _=>⟨o.slots,kept b o hb q⟩) (fun b o _ q n=>by rw [zc (nT b o q)];exact n) (fun b o hb q=>⟨o,kept b o hb q⟩)
    (fun b ys q=>by rw [zc (zf q hT)];exact q) (fun b o v q=>by rw [zc (zf q hT)];exact q) (fun b ps q=>⟨#[],by rw [zc (zf q hT),q];simp⟩) (fun m hm=>?_) hok I.bare
   ·have hb':b=e\/b=it:=by simpa using hb
    rcases hb' with rfl | rfl
    ·exact ⟨f1.2.2.2.1,f1.2.1,f1.2.2.2.2.1,f1.2.2.2.2.2⟩
    ·exact ⟨f2.2.2.2.1,f2.2.1,f2.2.2.2.2.1,f2.2.2.2.2.2⟩
   ·obtain ⟨o,es,ep,q,r⟩:=hm
    exact ⟨o,es,ep,kept _ o (fun hb=>by
     have hb':X.env.locals=e\/X.env.locals=it:=by simpa using hb
     rcases hb' with z | z
     ·exact f1.2.1 z.symm
     ·exact f2.2.1 z.symm) q,r⟩
  ·have hb':b=e\/b=it:=by simpa using hb
   rcases hb' with rfl | rfl
   ·rw [zc (nT _ _ he)];exact f1.1
   ·obtain ⟨o,q,_⟩:=hit
    rw [zc (nT _ _ q)];exact f2.1
 done:=by
  intro X hP hw hK hc i pJ s σ H E I hf st hg
  subst hP hw hK
  obtain ⟨⟨old,he⟩,hit⟩:=st
  obtain ⟨xs,hq,hx⟩:=hg
  obtain ⟨its,rv,p,hz⟩:=I.tuple hq
  obtain ⟨f0,f1,f2,f3,f4,f5⟩:=hf it (by simp)
  have hl:=rv.length
  exact yZ (I.ok.hd hc) he hit (show s.heap.IsTuple l its.toArray from p) (by simp;lia) fun h' eb=>⟨rfl,I.turned (t':=s.toks) (fun b o hb q=>eb b o hb q) f0 f1 f3 f4 f5⟩
 self:=fun A i s Q E st h=>by
  obtain ⟨⟨old,he⟩,_⟩:=st
  exact gf he h
section
variable {κ:Type} [DecidableEq κ]
noncomputable def valV (kvs:List (κ×V)) (k:κ):Option V:=(kvs.find? fun kv=>decide (kv.1=k)).map (·.2)
noncomputable def putK (kvs:List (κ×V)) (k:κ) (v:V):List (κ×V):=
 if (kvs.any fun kv=>decide (kv.1=k))=true then kvs.map (fun kv=>if kv.1=k then (kv.1,v) else kv) else kvs++[(k,v)]
theorem wR {p:κ×V}{r:List (κ×V)}{k:κ}(e:p.1=k):valV (p::r) k=some p.2:=by simp [valV,dm,e]
theorem wU {p:κ×V}{r:List (κ×V)}{k:κ}(e:¬ p.1=k):valV (p::r) k=valV r k:=by simp [valV,dm,e]
theorem RelO.xJ {o:Option V}{u:Option δ}(r:RelO o u):o.isSome=u.isSome:=by
 cases o with
 | none=>cases u with
  | none=>rfl
  | some _=>exact (show False from r).elim
 | some _=>cases u with
  | none=>exact (show False from r).elim
  | some _=>rfl
theorem RelO.getD {o:Option V}{u:Option δ}{d:V}{d':δ}(r:RelO o u) (rd:RelV d d'):RelV (o.getD d) (u.getD d'):=by
 cases o with
 | none=>cases u with
  | none=>exact rd
  | some _=>exact (show False from r).elim
 | some _=>cases u with
  | none=>exact (show False from r).elim
  | some _=>exact r
theorem KV.val {kvs:List (κ×V)}{vs:List (κ×δ)}(r:KV kvs vs) (k:κ):RelO (valV kvs k) (gP vs k):=by
 unfold KV at r
 induction r with
 | nil=>exact aR
 | @cons p q ps qs h t ih=>
  obtain ⟨h1,h2⟩:=h
  by_cases e:p.1=k
  ·have e':q.1=k:=h1.symm.trans e
   have b:gP (q::qs) k=some q.2:=by simp [gP,dm,e']
   rw [wR e,b];exact h2
  ·have e':¬ q.1=k:=fun z=>e (h1.trans z)
   have b:gP (q::qs) k=gP qs k:=by simp [gP,dm,e']
   rw [wU e,b];exact ih
theorem KV.any {kvs:List (κ×V)}{vs:List (κ×δ)}(r:KV kvs vs) (k:κ):(kvs.any fun kv=>decide (kv.1=k))=vs.any fun kv=>decide (kv.1=k):=by
 unfold KV at r
 induction r with
 | nil=>rfl
 | cons h t ih=>rw [nC,nC,ih,h.1]
theorem KV.length {kvs:List (κ×V)}{vs:List (κ×δ)}(r:KV kvs vs):kvs.length=vs.length:=mU r
end
theorem kV_is {P:Μ}{w:ϒ}{k:Key}{u:δ}(r:RelV (kV k) u):(zP P w).is k u=true:=by
 cases k with
 | inl i=>obtain ⟨t,e⟩:=(show ∃ t,u=ϕ i t from r);subst e;exact Za P w i t
 | inr x=>obtain ⟨t,e⟩:=(show ∃ t,u=aY x t from r);subst e;exact qZ P w x t
theorem kY {P:Μ}{w:ϒ}:∀ {ks:List Key}{us:List δ},Vals (ks.map kV) us->ItemsAre (zP P w) ks us
 | [],_,r=>by rw [nU] at r;cases r;exact .nil
 | k::ks,_,r=>by
  rw [dh] at r
  cases r with
  | cons h t=>exact .cons (kV_is h) (kY t)
abbrev KT (H:Hp):List (List Key×V)->List (List Key×Addr×δ)->Prop:=eH fun p q=>p.1=q.1/\H q.2.1=some (.tup (p.1.map kV))/\RelV p.2 q.2.2
theorem KT.val {H:Hp}{kvs:List (List Key×V)}{xs:List (List Key×Addr×δ)}(r:KT H kvs xs) (k:List Key):RelO (valV kvs k) ((atKey xs k).map (·.2)):=by
 induction r with
 | nil=>exact aR
 | @cons p q ps qs h t ih=>
  obtain ⟨h1,_,h2⟩:=h
  by_cases e:p.1=k
  ·have e':q.1=k:=h1.symm.trans e
   have b:atKey (q::qs) k=some q.2:=by simp [atKey,dm,e']
   rw [wR e,b];exact h2
  ·have e':¬ q.1=k:=fun z=>e (h1.trans z)
   have b:atKey (q::qs) k=atKey qs k:=by simp [atKey,dm,e']
   rw [wU e,b];exact ih
theorem KT.keeps {H H':Hp}{kvs:List (List Key×V)}{xs:List (List Key×Addr×δ)}(r:KT H kvs xs) (ht:∀ b ys,H b=some (.tup ys)->H' b=some (.tup ys)):KT H' kvs xs:=
 eH.mapP r fun _ _ z=>⟨z.1,ht _ _ z.2.1,z.2.2⟩
section
variable {P:Μ}{w:ϒ}{H:Hp}{h:Heap}{a:Addr}
theorem rd_of {u:HO}(ok:HOk P w H h) (e:Rd H a u):ObjOk P w H h a u:=e.ok ok
theorem dk_rd {kvs:List (Key×V)}(ok:HOk P w H h) (e:Rd H a (.dK kvs)):kvs.length<=sizeLine/\(a==eG)=false/\∃ vs,KV kvs vs/\h.DictOf (zP P w) a vs:=
 show ObjOk P w H h a (.dK kvs) from rd_of ok e
theorem kE {ks:List Key}(ok:HOk P w H h) (e:H a=some (.tup (ks.map kV))):(eF (zP P w)).is h ks a:=by
 obtain ⟨_,its,r,o,h1,h2,n,h3⟩:=(show ObjOk P w H h a (.tup (ks.map kV)) from ok a _ e)
 exact ⟨o,its.toArray,n,h1,h2,h3,by simpa using kY r⟩
theorem dt_rd {kvs:List (List Key×V)}(ok:HOk P w H h) (e:Rd H a (.dT kvs)):kvs.length<=sizeLine/\(a==eG)=false /\
  ∃ xs,KT H kvs xs/\h.DictOfH (eF (zP P w)) a xs:=by
 obtain ⟨z,y,xs,r,o,es,ep,h1,h2,h3,h4,h5⟩:=(show ObjOk P w H h a (.dT kvs) from rd_of ok e)
 refine ⟨z,y,xs,r,o,es,ep,h1,h2,h3,h4,fun x hx=>?_,h5⟩
 have all:∀ {l:List (List Key×V)}{m:List (List Key×Addr×δ)},KT H l m->∀ x∈m,(eF (zP P w)).is h x.1 x.2.1:=by
  intro l m q
  induction q with
  | nil=>intro x hx;exact nomatch hx
  | @cons p q ps qs hq t ih=>
   intro x hx
   rcases Δ.mp hx with e | hx
   ·subst e
    exact kE ok (by rw [<- hq.1];exact hq.2.1)
   ·exact ih x hx
 exact all r x hx
theorem dt_of {kvs:List (List Key×V)}(ok:HOk P w H h) (e:H a=some (.dT kvs)):kvs.length<=sizeLine/\(a==eG)=false /\
  ∃ xs,KT H kvs xs/\h.DictOfH (eF (zP P w)) a xs:=dt_rd ok (.inl e)
end
def DGet (H:Hp) (a:Addr) (y:V) (r:Option V):Prop:=
 (∃ kvs k,Rd H a (.dK kvs)/\y=kV k/\r=valV kvs k)\/∃ kvs k b,Rd H a (.dT kvs)/\y=.ref b/\H b=some (.tup (k.map kV))/\r=valV kvs k
def DPut (H:Hp) (a:Addr) (y v:V) (H':Hp):Prop:=
 (∃ kvs k,H a=some (.dK kvs)/\y=kV k/\kvs.length < sizeLine/\H'=upd H a (.dK (putK kvs k v))) \/
 ∃ kvs k b,H a=some (.dT kvs)/\y=.ref b/\H b=some (.tup (k.map kV))/\kvs.length < sizeLine/\H'=upd H a (.dT (putK kvs k v))
theorem DGet.k {H:Hp}{a:Addr}{kvs:List (Key×V)}{k:Key}(e:H a=some (.dK kvs)):DGet H a (kV k) (valV kvs k):=.inl ⟨kvs,k,.inl e,rfl,rfl⟩
theorem DGet.t {H:Hp}{a b:Addr}{kvs:List (List Key×V)}{k:List Key}(e:H a=some (.dT kvs)) (eb:H b=some (.tup (k.map kV))):DGet H a (.ref b) (valV kvs k):=.inr ⟨kvs,k,b,.inl e,rfl,eb,rfl⟩
theorem DPut.k {H:Hp}{a:Addr}{kvs:List (Key×V)}{k:Key}{v:V}(e:H a=some (.dK kvs)) (hl:kvs.length < sizeLine):DPut H a (kV k) v (upd H a (.dK (putK kvs k v))):=.inl ⟨kvs,k,e,rfl,hl,rfl⟩
theorem DPut.t {H:Hp}{a b:Addr}{kvs:List (List Key×V)}{k:List Key}{v:V}(e:H a=some (.dT kvs)) (eb:H b=some (.tup (k.map kV))) (hl:kvs.length < sizeLine):
  DPut H a (.ref b) v (upd H a (.dT (putK kvs k v))):=.inr ⟨kvs,k,b,e,rfl,eb,hl,rfl⟩
section
variable {X:Cx}{pJ:List (Addr×Obj)}{σ:St}{H:Hp}{s:μ}{a:Addr}{y v:V}{u r:δ}{o:Option V}{A:ϑ}{E:VSP}
theorem Inv.big (I:Inv X pJ σ H s):eG < s.heap.objs.size:=by
 have h:Ψ < s.heap.objs.size:=(I.mod.glob.keeps I.bk).lt
 exact Nat.lt_trans (by decide) h
theorem Ve {Q:VSP}(hu:A.units+1 < aG) (I:Inv X pJ σ H s) (g:DGet H a y (some v)) (ry:RelV y u) (h:∀ w' s',Inv X pJ σ H s'->RelV v w'->Q w' s'):
  ψ (Ι X.prog X.w) A (iZ (.ref a) u) Q E s:=by
 rcases g with ⟨kvs,k,e,ey,l⟩ | ⟨kvs,k,b,e,ey,eb,l⟩
 ·subst ey
  obtain ⟨z,hd,vs,rel,dd⟩:=dk_rd I.hok e
  obtain ⟨w',hw,rw'⟩:=RelO.some_of (v:=v) (o:=gP vs k) (by rw [l];exact rel.val k)
  exact wpAny_getItem_of (kV_is ry) dd.mapOf hw (h w' _ (I.tok _) rw')
 ·subst ey
  cases (show u=Α b from ry)
  obtain ⟨z,hd,xs,rel,dd⟩:=dt_rd I.hok e
  obtain ⟨w',hw,rw'⟩:=RelO.some_of (v:=v) (o:=(atKey xs k).map (·.2)) (by rw [l];exact rel.val k)
  obtain ⟨p,hp,hp2⟩:=Ζ.mp hw
  refine wpAny_getItem_heap (lO hu) (kE I.hok eb) dd hp ?_
  rw [hp2]
  exact h w' _ (I.tok _) rw'
theorem d_in {Q:VSP}(hu:A.units+1 < aG) (I:Inv X pJ σ H s) (g:DGet H a y o) (ry:RelV y u) (h:∀ s',Inv X pJ σ H s'->Q (.bool o.isSome) s'):
  ψ (Ι X.prog X.w) A (ϔ .In u (.ref a)) Q E s:=by
 rcases g with ⟨kvs,k,e,ey,l⟩ | ⟨kvs,k,b,e,ey,eb,l⟩
 ·subst ey
  obtain ⟨z,hd,vs,rel,dd⟩:=dk_rd I.hok e
  refine wpAny_in_of (kV_is ry) hd dd.mapOf ?_
  rw [<- (rel.val k).xJ,<- l]
  exact h _ (I.tok _)
 ·subst ey
  cases (show u=Α b from ry)
  obtain ⟨z,hd,xs,rel,dd⟩:=dt_rd I.hok e
  refine wpAny_in_heap (lO hu) (kE I.hok eb) hd dd ?_
  have q:=(rel.val k).xJ
  rw [oU] at q
  rw [<- q,<- l]
  exact h _ (I.tok _)
theorem zax {Q:VSP}(hu:A.units+1 < aG) (I:Inv X pJ σ H s) (g:DGet H a y o) (ry:RelV y u) (h:∀ s',Inv X pJ σ H s'->Q (.bool (!o.isSome)) s'):
  ψ (Ι X.prog X.w) A (ϔ .NotIn u (.ref a)) Q E s:=by
 rcases g with ⟨kvs,k,e,ey,l⟩ | ⟨kvs,k,b,e,ey,eb,l⟩
 ·subst ey
  obtain ⟨z,hd,vs,rel,dd⟩:=dk_rd I.hok e
  refine wpAny_notIn_of (kV_is ry) hd dd.mapOf ?_
  rw [<- (rel.val k).xJ,<- l]
  exact h _ (I.tok _)
 ·subst ey
  cases (show u=Α b from ry)
  obtain ⟨z,hd,xs,rel,dd⟩:=dt_rd I.hok e
  refine wpAny_notIn_heap (lO hu) (kE I.hok eb) hd dd ?_
  have q:=(rel.val k).xJ
  rw [oU] at q
  rw [<- q,<- l]
  exact h _ (I.tok _)
theorem Vd {h':Heap}{t':Nat}{ob:HO}(I:Inv X pJ σ H s) (mu:Mut (H a)) (hs:ό a s.heap h') (he:∃ q,h'.get? a=some q) (new:ObjOk X.prog X.w (upd H a ob) h' a ob):
  Inv X pJ σ (upd H a ob) { s with heap:=h',toks:=t' }:=
 I.write (x:=a) (e:=a) mu (.inl rfl) (fun b q hb z=>(hs.2 b hb).trans z) he new
end
section
variable {X:Cx}{pJ:List (Addr×Obj)}{σ:St}{H:Hp}{s:μ}{a:Addr}{kvs:List (Key×V)}{k:Key}{u:δ}{A:ϑ}{E:VSP}
theorem d_len {Q:VSP}(I:Inv X pJ σ H s) (e:Rd H a (.dK kvs)) (h:∀ t s',Inv X pJ σ H s'->Q (.int kvs.length t) s'):ψ (Ι X.prog X.w) A (call (.builtin "len") [.ref a]) Q E s:=by
 obtain ⟨z,hd,vs,rel,dd⟩:=dk_rd I.hok e
 refine call_len_dict hd dd (by rw [<- rel.length];rw [aF] at z;lia) ?_
 rw [<- rel.length]
 exact h _ _ (I.tok _)
end
theorem Zk {X:Cx}{pJ:List (Addr×Obj)}{σ:St}{H:Hp}{s:μ}{a:Addr}{y:V}{o:Option V}(I:Inv X pJ σ H s) (g:DGet H a y o):s.TypeIs (.ref a) "dict":=by
 rcases g with ⟨kvs,k,e,_,_⟩ | ⟨kvs,k,b,e,_,_,_⟩
 ·obtain ⟨_,_,vs,_,dd⟩:=dk_rd I.hok e
  exact dd.typeIs
 ·obtain ⟨_,_,xs,_,dd⟩:=dt_rd I.hok e
  exact dd.typeIs
theorem Jb {P:Μ}{w:ϒ}{H:Hp}(h:Heap) (hb:eG < h.objs.size):ObjOk P w H (h.push { cls:=.type "dict",data:=.dict #[] }) h.objs.size (.dT []):=
 ⟨ϡ _,beq_eq_false_iff_ne.mpr (d8 (Υ hb)),[],.nil,_,#[],0,υ _ rfl,⟨rfl,rfl,rfl⟩,rfl,rfl,gH⟩
def Xi:List (TE×TE)->St->Hp->(List (V×V)->Hp->Prop)->Prop
 | [],_,H,Q=>Q [] H
 | (tk,tv)::r,σ,H,Q=>tk σ H fun x H1=>tv σ H1 fun y H2=>Xi r σ H2 fun ps H3=>Q ((x,y)::ps) H3
abbrev VV:List (V×V)->List (δ×δ)->Prop:=eH fun p q=>RelV p.1 q.1/\RelV p.2 q.2
def PPs (X:Cx) (pos:Pos) (keys:List (Option Expr)) (values:List Expr) (trs:List (TE×TE)):Prop:=
 ∀ (pJ:List (Addr×Obj)) (s:μ) (σ:St) (H:Hp) (Q:List (V×V)->Hp->Prop),Inv X pJ σ H s->Xi trs σ H Q ->
  ψ (Ι X.prog X.w) X.A (evalPairs (pairTrees keys values X.env pos)) (fun vs s'=>∃ ps H',Inv X pJ σ H' s'/\VV ps vs/\Q ps H') X.xe s
theorem Qy {X:Cx}{pos:Pos}:PPs X pos [] [] []:=fun pJ s σ H Q I h=>pairTrees_nil_walk ⟨[],H,I,.nil,h⟩
theorem Uh {X:Cx}{pos:Pos}{k v:Expr}{ks:List (Option Expr)}{vs:List Expr}{tk tv:TE}{trs:List (TE×TE)}(hk:PE X k tk) (hv:PE X v tv) (hr:PPs X pos ks vs trs):
  PPs X pos (some k::ks) (v::vs) ((tk,tv)::trs):=fun pJ s σ H Q I h=>
 pairTrees_cons_walk (thn (hk pJ s σ H _ I h) fun u s1 ⟨x,H1,I1,rx,q1⟩=>thn (hv pJ s1 σ H1 _ I1 q1) fun w2 s2 ⟨y,H2,I2,ry,q2⟩=>
  thn (hr pJ s2 σ H2 _ I2 q2) fun ws s3 ⟨ps,H3,I3,rel,q3⟩=>⟨(x,y)::ps,H3,I3,.cons ⟨rx,ry⟩ rel,q3⟩)
def IsD (H:Hp) (a:Addr):Prop:=(∃ kvs,Rd H a (.dK kvs))\/∃ kvs,Rd H a (.dT kvs)
section
variable {X:Cx}
def rExt2 (K:W.Frag):V->List V->Hp->VK->Prop:=fun x vs H Q=>∃ l b xs zs,x=.ref l/\vs=[.ref b]/\H l=some (.lst xs)/\(H b=some (.lst zs)\/SqT K H b zs)/\xs.length+zs.length<=sizeLine/\Q .non (upd H l (.lst (xs++zs)))
theorem Q6:MtM X "list.extend" (rExt2 X.K):=by
 intro pJ s σ H x vs v us Q I rx rv h
 obtain ⟨l,b,xs,zs,e1,e2,hH,hB,hz,q⟩:=h
 rcases hB with hB | hB
 ·exact Wq pJ s σ H x vs v us Q I rx rv ⟨l,b,xs,zs,e1,e2,hH,hB,hz,q⟩
 ·subst e1 e2
  cases rx
  obtain ⟨u,rfl,ru⟩:=rv.one
  cases ru
  obtain ⟨z,its,n,r,hl,e⟩:=I.lstM hH
  obtain ⟨its2,r2,⟨o,ho,hc,n2,hd⟩,z2⟩:=I.tuple hB
  have l1:=r.length
  have l2:=r2.length
  have hsz:its.toArray.size+its2.toArray.size<=sizeLine:=by rw [π,π];omega
  refine ϓ F.slot_list_extend ⟨_,e,rfl⟩ F.entry_list_extend ?_ (F.args_list_extend_2 _ _)
  show ψ _ _ (Ϻ (.ref l) (.ref b) .none) _ _ _
  unfold Ϻ
  refine γ (bI (T:="tuple") ⟨o,ho,hc⟩ ?_)
  rw [if_pos (by simp)]
  refine γ (pq ho hd (γ (pq e rfl ?_)))
  rw [if_neg (by rw [Z3 hsz,gO];exact Τ)]
  refine γ (gm e rfl (ζ ⟨_,rfl,?_⟩) (by rw [π];omega) (by rw [Array.size_append];omega))
  refine ⟨.non,_,I.lset (f:=fun x=>x++its2.toArray) (its':=its++its2) (t':=s.toks) hH e (by simp) (r.append r2) ?_,rfl,q⟩
  rw [ϊ]
  omega
end
theorem PE.imp {X:Cx}{e:Expr}{t t':TE}(h:PE X e t) (i:∀ σ H Q,t' σ H Q->t σ H Q):PE X e t':=fun pJ s σ H Q I q=>h pJ s σ H Q I (i σ H Q q)
theorem PT.imp {X:Cx}{e:Expr}{t t':TT}(h:PT X e t) (i:∀ σ H Q,t' σ H Q->t σ H Q):PT X e t':=fun pJ s σ H Q I q=>h pJ s σ H Q I (i σ H Q q)
theorem PA.imp {X:Cx}{e:List Expr}{t t':TA}(h:PA X e t) (i:∀ σ H Q,t' σ H Q->t σ H Q):PA X e t':=fun pos pJ s σ H Q I q=>h pos pJ s σ H Q I (i σ H Q q)
theorem PS.imp {X:Cx}{e:Stmt}{t t':TS}(h:PS X e t) (i:∀ D σ H,t' D σ H->t D σ H):PS X e t':=fun pJ s σ H D I q=>h pJ s σ H D I (i D σ H q)
theorem PSs.imp {X:Cx}{e:List Stmt}{t t':TS}(h:PSs X e t) (i:∀ D σ H,t' D σ H->t D σ H):PSs X e t':=fun pJ s σ H D I q=>h pJ s σ H D I (i D σ H q)
section
variable {fs ex:List Addr}{H H1:Hp}{h h1 h':Heap}{C:Addr}
theorem Un.sameBut (u:Un fs ex H H1 h h1) (sb:ό C h1 h') (hC:h.objs.size<=C):Un fs ex H H1 h h':=by
 have ne:∀ b o,h.get? b=some o->b≠C:=fun b o e=>Υ (ϋ (ω e) hC)
 refine ⟨fun b o e n hb hx=>(sb.2 b (ne b o e)).trans (u.keep b o e n hb hx),fun b o e n hb hx=>?_,u.free,fun b o e hx=>?_,u.tups,u.frzs,u.tbls⟩
 ·obtain ⟨sl,q⟩:=u.slot b o e n hb hx
  exact ⟨sl,(sb.2 b (ne b o e)).trans q⟩
 ·obtain ⟨o',q⟩:=u.there b o e hx
  exact ⟨o',(sb.2 b (ne b o e)).trans q⟩
theorem HOk.sameBut {P:Μ}{w:ϒ}(x:HOk P w H h) (sb:ό C h h') (hC:H C=none):HOk P w H h':=fun b o e=>by
 refine (x b o e).stay (fun c v hc q=>(sb.2 c ?_).trans q) (fun _ q=>q) fun _ _ q=>q
 rintro rfl
 rcases hc with rfl | hc
 ·rw [hC] at e;cases e
 ·rw [hC] at hc;cases hc
end
noncomputable def rows (σ:St) (js:List Nat):St:=js.map fun j=>σ.getD j none
section
variable {X:Cx}
theorem Zq:CallR X (.builtin "isinstance") (fun xs H Q=>∃ x T t b,xs=[x,.ty T]/\TyOf X.K H x t/\W.kitOne X.K t (.type T)=some b/\Q (.bl b) H):=by
 intro pJ s σ H vs us Q I rv h
 obtain ⟨x,T,t,b,rfl,ty,e,q⟩:=h
 obtain ⟨u,v,rfl,ru,rt⟩:=rv.two
 cases (show v=ώ T from rt)
 exact WK I ru ty e fun tk=>⟨.bl b,H,I.tok tk,rfl,q⟩
theorem zbZ:OpR X (ϔ .Is) (fun x y H Q=>∃ a b,x=.bl a/\y=.bl b/\Q (.bl (a==b)) H):=by
 intro pJ s σ H x y v u Q I rx ry h
 obtain ⟨a,b,rfl,rfl,q⟩:=h
 cases rx
 cases ry
 exact is_bool (qi I q rfl)
theorem QL:OpR X (ϔ .IsNot) (fun x y H Q=>∃ a b,x=.bl a/\y=.bl b/\Q (.bl (a != b)) H):=by
 intro pJ s σ H x y v u Q I rx ry h
 obtain ⟨a,b,rfl,rfl,q⟩:=h
 cases rx
 cases ry
 exact isnot_bool (qi I q rfl)
def CDivW (_ j:Int):Prop:=0 < j/\j < 2 ^ 64
theorem Ur:OpR X (bM .FloorDiv) (rI CDivW fun i j=>.int (i / j)):=opI fun i j _ _ _ _ _ hc q=>by
 have e:i.fdiv j=i / j:=Int.fdiv_eq_ediv_of_nonneg _ (Int.le_of_lt hc.1)
 refine floordiv_int (by have:=hc.1;lia) (by rw [e];exact q) (.inl (PyProof.noPylong_of_log2 ?_))
 have h1:j.natAbs < 2 ^ 64:=by have:=hc.2;have:=hc.1;lia
 by_cases h0:j.natAbs=0
 ·rw [h0];decide
 ·have:=(Nat.log2_lt h0).mpr h1
  lia
theorem valsB:∀ {bs:List Bool}{us:List δ},Vals (bs.map V.bl) us->us=bs.map ύ
 | [],_,.nil=>rfl
 | b::bs,_,.cons r t=>by
  cases (show _=ύ b from r)
  rw [valsB t]
  rfl
theorem YG (bs:List Bool):((ϵ bs.length).all fun i=>(bs[i]?).getD true)=bs.all id:=by
 rw [mD,aV,aV]
 constructor
 ·intro h b hb
  obtain ⟨i,hi,rfl⟩:=ig hb
  have:=h i (bG.mpr hi)
  simpa [ο hi] using this
 ·intro h i hi
  have hi':=bG.mp hi
  have:=h _ (cV hi')
  simpa [ο hi'] using this
theorem YF (bs:List Bool):((ϵ bs.length).any fun i=>(bs[i]?).getD false)=bs.any id:=by
 rw [mD,dN,dN]
 constructor
 ·rintro ⟨i,hi,e⟩
  have hi':=bG.mp hi
  exact ⟨_,cV hi',by simpa [ο hi'] using e⟩
 ·rintro ⟨b,hb,e⟩
  obtain ⟨i,hi,rfl⟩:=ig hb
  exact ⟨i,bG.mpr hi,by simpa [ο hi] using e⟩
theorem zcM (hc:X.calm=true):CallR X (.builtin "all") (fun xs H Q=>∃ (p:Addr) (bs:List Bool),xs=[.ref p]/\SqL X.K H p (bs.map V.bl)/\Q (.bl (bs.all id)) H):=by
 intro pJ s σ H vs us Q I rv h
 obtain ⟨p,bs,rfl,hq,q⟩:=h
 obtain ⟨u,rfl,ru⟩:=rv.one
 cases (show u=Α p from ru)
 obtain ⟨its,rv,hp,hz⟩:=I.list hq
 obtain rfl:=valsB rv
 have hl:=hp.isList
 have hlt:p < s.heap.objs.size:=by obtain ⟨_,e,_⟩:=hl;exact ω e
 have hh:X.A.handled=none:=I.ok.hd hc
 refine call_all_walk (gb hl ?_)
 refine ⟨s.heap.objs.size,[s.heap.objs.size,p],[s.heap.objs.size],(bs.map ύ).toArray.size,_,_,fun i=>(bs[i]?).getD true,rfl,Walks.list (A:=X.A.in1) hh _ p (Υ hlt) (bs.map ύ).toArray,
  ⟨⟨_,υ _ rfl,rfl,rfl⟩,hl.push _⟩,fun i v s' Q' E' hP hQ=>?_,fun h' tk hk=>?_⟩
 ·have hP':(bs.map ύ)[i]?=some v:=by simpa using hP
  rw [Ο] at hP'
  cases e:bs[i]? with
  | none=>rw [e] at hP';cases hP'
  | some b=>
   rw [e] at hP'
   cases hP'
   simp only [e,o4] at hQ
   exact bw hQ
 ·have e:((ϵ (bs.map ύ).toArray.size).all fun i=>(bs[i]?).getD true)=bs.all id:=by
   rw [π,Ν];exact YG bs
  rw [e]
  exact ⟨.bl _,H,I.kept (LSm.kept_iter hk),rfl,q⟩
theorem zcL (hc:X.calm=true):CallR X (.builtin "any") (fun xs H Q=>∃ (p:Addr) (bs:List Bool),xs=[.ref p]/\SqL X.K H p (bs.map V.bl)/\Q (.bl (bs.any id)) H):=by
 intro pJ s σ H vs us Q I rv h
 obtain ⟨p,bs,rfl,hq,q⟩:=h
 obtain ⟨u,rfl,ru⟩:=rv.one
 cases (show u=Α p from ru)
 obtain ⟨its,rv,hp,hz⟩:=I.list hq
 obtain rfl:=valsB rv
 have hl:=hp.isList
 have hlt:p < s.heap.objs.size:=by obtain ⟨_,e,_⟩:=hl;exact ω e
 have hh:X.A.handled=none:=I.ok.hd hc
 refine call_any_walk (gb hl ?_)
 refine ⟨s.heap.objs.size,[s.heap.objs.size,p],[s.heap.objs.size],(bs.map ύ).toArray.size,_,_,fun i=>(bs[i]?).getD false,rfl,Walks.list (A:=X.A.in1) hh _ p (Υ hlt) (bs.map ύ).toArray,
  ⟨⟨_,υ _ rfl,rfl,rfl⟩,hl.push _⟩,fun i v s' Q' E' hP hQ=>?_,fun h' tk hk=>?_⟩
 ·have hP':(bs.map ύ)[i]?=some v:=by simpa using hP
  rw [Ο] at hP'
  cases e:bs[i]? with
  | none=>rw [e] at hP';cases hP'
  | some b=>
   rw [e] at hP'
   cases hP'
   simp only [e,o4] at hQ
   exact bw hQ
 ·have e:((ϵ (bs.map ύ).toArray.size).any fun i=>(bs[i]?).getD false)=bs.any id:=by
   rw [π,Ν];exact YF bs
  rw [e]
  exact ⟨.bl _,H,I.kept (LSm.kept_iter hk),rfl,q⟩
theorem X6 {CX:CXT}{k:Nat}{f:Addr}{fd:bj}{ps ks:List Str}{sp:Sp}{E:XK}{x:Str}{p pos:Pos}{kws:List cW}{tk:TA}{g:List δ->List δ->List δ}{gV:List V->List V->List V}
  (F:FnOk X.prog X.w X.K X.mg X.base CX k f fd ps sp) (hr:Room k X.A) (hg:Gl X x) (hm:X.mg x=some (.ref f)) (hk:W.keepIn X.K (.ref f)=true) (hb:VG X.K fd ps ks g gV) (hx:qI CX X E)
  (hkw:PK X kws tk) (hall:(c7 pos (aZ kws X.env)).all (·.1.isSome)=true:=by rfl) (hks:(c7 pos (aZ kws X.env)).filterMap (·.1)=ks:=by rfl)
  (hdb:(x==("__debug__":Str))=false:=by decide) (hpl:((fB pos (Ϣ [] X.env)).any (·.1)||(c7 pos (aZ kws X.env)).any (·.1.isNone))=false:=by rfl):
  PE X (.Call (.Name x p) [] kws pos) (za5 sp gV E tNil tk):=by
 intro pJ s σ H Q I h
 refine bL (xZ I hg hm ?_ hdb)
 refine W.callWith_KW0 (h₀:=X.base) I.ok.mod.kin hk hall (thn (hkw pos pJ s σ H _ I h) fun ws s2 ⟨zs,H2,I2,rz,q2⟩=>⟨I2.kIn,?_⟩) hpl
 rw [hks]
 exact Qh (us:=[]) (vs:=[]) F hr hb hx I2 .nil rz q2
end
end L2
namespace HT
open PySem PyProof.Rows
open PySem.SeqAt
open PySem.AutoSeq1 (wpAny_loadPart')
open PySem.MeetsSeq PySem.MeetsSeq2 PySem.MeetsSeq3
section
variable {prog:Μ}{w:ϒ}{A:ϑ}{E:δ->μ->Prop}{s:μ}
theorem Jg {t b:Addr}{ws:List δ}{Q:δ->μ->Prop}(ht:iR s.heap t ([]:List δ).toArray) (hb:iR s.heap b ws.toArray)
  (h:Q (.ref b) s):ψ (Ι prog w) A (bM .Add (.ref t) (.ref b)) Q E s:=by
 obtain ⟨⟨cls,dd,data,sl⟩,ho,hc,n,hd⟩:=id ht
 obtain ⟨⟨cls2,dd2,data2,sl2⟩,ho2,hc2,n2,hd2⟩:=id hb
 simp only at hc hd hc2 hd2
 subst hc hd hc2 hd2
 exact pA ⟨_,ho,rfl⟩ ⟨_,ho2,rfl⟩ m5 oR fV fK (fC _ _)
   (tuple_addW0 t b ([]:List δ).toArray ws.toArray n n2 dd dd2 sl sl2 (by simp)) ⟨ho,ho2,h⟩
theorem xg {t sl:Addr}{items:Array δ}{vl vu:δ}{lo hi:Option Int}{Q:δ->μ->Prop}(ht:iR s.heap t items) (hs:s.heap.IsSliceOf sl vl vu .none) (pl:gW vl lo) (pu:gW vu hi)
  (hw:sIx items.size 0 lo=0/\sIx items.size items.size hi=items.size) (h:Q (.ref t) s):ψ (Ι prog w) A (iZ (.ref t) (.ref sl)) Q E s:=by
 obtain ⟨os,hos,hcs,hds⟩:=id hs
 have hTs:s.TypeIs (.ref sl) "slice":=⟨os,hos,hcs⟩
 unfold iZ
 try with_reducible refine aq ?_
 first | refine γ (ζ ?_) | skip
 refine γ (wpAny_sequenceKey ht.typeIs (by decide) ?_)
 refine γ (ϗ (name:=b7 "__getitem__") ht.typeIs ϩ
  (ϓ ϩ ht.typeIs entry_tuple_getitem ?_ (args_tuple_getitem _ _)))
 show ψ _ _ (iu (.ref t) >>= _) _ _ s
 refine γ (tupleItemsOf_ ht ?_)
 refine γ (bI hTs ?_)
 rw [if_pos (by decide)]
 refine γ (yu hs pl pu ?_)
 have hyes:(((sIx items.size 0 lo:Nat):Int)==0&&(1:Int)==1&&(sIx items.size items.size hi - sIx items.size 0 lo)==items.size)=true:=by
  rw [hw.1,hw.2]
  simp
 show ψ _ _ (if (((sIx items.size 0 lo:Nat):Int)==0&&(1:Int)==1&&(sIx items.size items.size hi - sIx items.size 0 lo)==items.size)=true then _ else _) _ _ s
 rw [if_pos hyes]
 unfold Κ.Tuple.tupleIsExact
 first
  | (refine γ (γ (bI ht.typeIs (ζ ?_)));rw [if_pos (by decide)];exact γ (bW (ζ ⟨_,rfl,ζ h⟩)))
  | (refine γ (γ (bI ht.typeIs (ζ ?_)));rw [if_pos (by decide)];exact γ (bW (γ (ζ (ζ ⟨_,rfl,ζ h⟩)))))
  | (refine γ (γ (γ (bI ht.typeIs (ζ ?_))));rw [if_pos (by decide)];exact γ (bW (ζ (ζ ⟨_,rfl,ζ h⟩))))
  | (refine γ (γ (bI ht.typeIs (ζ ?_)));rw [if_pos (by decide)];trace_state;done)
end
end HT
namespace L2
open PySem PySem.Spec PyProof.Rows
section
variable {X:Cx}
def zbD (K:W.Frag):R2:=fun x y H Q=>∃ a b ys,x=.ref a/\y=.ref b/\SqT K H a []/\SqT K H b ys/\Q (.ref b) H
theorem Us:OpR X (bM .Add) (zbD X.K):=by
 intro pJ s σ H x y v u Q I rx ry h
 obtain ⟨a,b,ys,rfl,rfl,ha,hb,q⟩:=h
 cases rx
 cases ry
 obtain ⟨its,r1,p1,_⟩:=I.tuple ha
 obtain ⟨its2,r2,p2,_⟩:=I.tuple hb
 cases r1
 exact HT.Jg p1 p2 ⟨.ref b,H,I,rfl,q⟩
def rSlW (K:W.Frag):V->Option Int->Option Int->Hp->VK->Prop:=fun x lo hi H Q=>∃ a xs,x=.ref a/\SqT K H a xs/\(HT.sIx xs.length 0 lo=0/\HT.sIx xs.length xs.length hi=xs.length)/\Q (.ref a) H
theorem K3:SlR X (rSlW X.K):=by
 intro pJ s σ H x v vl vu lo hi sl Q I rx hs pl pu h
 obtain ⟨a,xs,rfl,hx,hw,q⟩:=h
 cases rx
 obtain ⟨its,r,ht,hz⟩:=I.tuple hx
 have hlen:its.toArray.size=xs.length:=by rw [π];exact r.length.symm
 refine ⟨"tuple",_,ϩ.lookup,ht.typeIs,?_⟩
 exact HT.xg ht hs pl pu (by rw [hlen];exact hw) ⟨.ref a,H,I,rfl,q⟩
end
end L2
namespace EV
open PySem PySem.Spec PyProof.Rows L2
noncomputable abbrev Store:=List D
structure Gm where
 K:W.Frag
 fa:Nat->Option Addr
 ca:Nat->Option Addr
structure G where
 R:Hp
 α:List Addr
def KTup (K:W.Frag) (a:Addr) (xs:List V):Prop:=∃ (o:Obj) (its:Array δ) (n:Nat),K.lookup a=some o/\o.cls=.type "tuple"/\o.data=.seq its n/\its.size<=sizeLine/\Vals xs its.toList
def KDic (K:W.Frag) (a:Addr) (ps:List (Str×Int)):Prop:=(∃ o,K.lookup a=some o/\o.cls=.type "dict"/\o.dict=none)/\∀ h:Heap,K.In h->KTD.TextTab h a (ps.map fun p=>(p.1,.flat (.int p.2)))
mutual
def Has (Γ:Gm) (g:G):D->V->Prop
 | .non,v=>v=.non
 | .bl b,v=>v=.bl b
 | .int i,v=>v=.int i
 | .str x,v=>v=.str x
 | .tup ds,v=>∃ a vs,v=.ref a/\g.R a=some (.tup vs)/\Hass Γ g ds vs
 | .lst ds,v=>∃ a vs,v=.ref a/\g.R a=some (.lst vs)/\Hass Γ g ds vs
 | .dK ks ds,v=>∃ a vs,v=.ref a/\g.R a=some (.dK (ks.zip vs))/\ks.length=ds.length/\Hass Γ g ds vs
 | .dT ks ds,v=>∃ a vs,v=.ref a/\g.R a=some (.dT (ks.zip vs))/\ks.length=ds.length/\Hass Γ g ds vs
 | .ref k,v=>∃ a,g.α[k]?=some a/\v=.ref a
 | .fn f,v=>∃ a,Γ.fa f=some a/\v=.ref a
 | .scr ns,v=>∃ a,v=.ref a/\SqL Γ.K g.R a (ns.map V.int)
 | .ktp ds,v=>∃ a vs,v=.ref a/\KTup Γ.K a vs/\Hass Γ g ds vs
 | .kdc ps,v=>∃ a,v=.ref a/\KDic Γ.K a ps
 | .dF ks ds,v=>∃ a vs o,v=.ref a/\g.R a=some (.frz o (.dT (ks.zip vs)))/\ks.length=ds.length/\Hass Γ g ds vs
def Hass (Γ:Gm) (g:G):List D->List V->Prop
 | [],vs=>vs=[]
 | d::ds,vs=>∃ v r,vs=v::r/\Has Γ g d v/\Hass Γ g ds r
end
structure Le (g g':G):Prop where
 rr:Same g.R g'.R
 aa:∀ (k:Nat) (a:Addr),g.α[k]?=some a->g'.α[k]?=some a
theorem Le.refl (g:G):Le g g:=⟨Same.refl _,fun _ _ h=>h⟩
theorem Le.trans {g g1 g2:G}(a:Le g g1) (b:Le g1 g2):Le g g2:=⟨a.rr.trans b.rr,fun k c h=>b.aa k c (a.aa k c h)⟩
theorem Same.rd {H H':Hp}{a:Addr}{u:HO}(e:Same H H') (h:Rd H a u):Rd H' a u:=by
 rcases h with h | ⟨o,h⟩
 ·exact .inl (e _ _ h)
 ·exact .inr ⟨o,e _ _ h⟩
mutual
theorem Yc {Γ:Gm}{g g':G}(e:Le g g'):∀ (d:D) (v:V),Has Γ g d v->Has Γ g' d v
 | .non,_,h=>h
 | .bl _,_,h=>h
 | .int _,_,h=>h
 | .str _,_,h=>h
 | .tup ds,_,⟨a,vs,h1,h2,h3⟩=>⟨a,vs,h1,e.rr _ _ h2,zX e ds vs h3⟩
 | .lst ds,_,⟨a,vs,h1,h2,h3⟩=>⟨a,vs,h1,e.rr _ _ h2,zX e ds vs h3⟩
 | .dK ks ds,_,⟨a,vs,h1,h2,h4,h3⟩=>⟨a,vs,h1,e.rr _ _ h2,h4,zX e ds vs h3⟩
 | .dT ks ds,_,⟨a,vs,h1,h2,h4,h3⟩=>⟨a,vs,h1,e.rr _ _ h2,h4,zX e ds vs h3⟩
 | .ref k,_,⟨a,h1,h2⟩=>⟨a,e.aa _ _ h1,h2⟩
 | .fn f,_,h=>h
 | .scr _,_,⟨a,h1,h2⟩=>⟨a,h1,e.rr.seq h2⟩
 | .ktp ds,_,⟨a,vs,h1,h2,h3⟩=>⟨a,vs,h1,h2,zX e ds vs h3⟩
 | .kdc _,_,h=>h
 | .dF ks ds,_,⟨a,vs,o,h1,h2,h4,h3⟩=>⟨a,vs,o,h1,e.rr _ _ h2,h4,zX e ds vs h3⟩
theorem zX {Γ:Gm}{g g':G}(e:Le g g'):∀ (ds:List D) (vs:List V),Hass Γ g ds vs->Hass Γ g' ds vs
 | [],_,h=>h
 | d::ds,_,⟨v,r,h1,h2,h3⟩=>⟨v,r,h1,Yc e d v h2,zX e ds r h3⟩
end
theorem Has.mono {Γ:Gm}{g g':G}{d:D}{v:V}(h:Has Γ g d v) (e:Le g g'):Has Γ g' d v:=Yc e d v h
theorem Hass.mono {Γ:Gm}{g g':G}{d:List D}{v:List V}(h:Hass Γ g d v) (e:Le g g'):Hass Γ g' d v:=zX e d v h
section
variable {Γ:Gm}{g:G}
theorem Hass.len:∀ {ds:List D}{vs:List V},Hass Γ g ds vs->vs.length=ds.length
 | [],_,h=>by cases (show _=[] from h);rfl
 | d::ds,_,⟨v,r,h1,_,h3⟩=>by subst h1;simp [Hass.len h3]
theorem Hass.get:∀ {ds:List D}{vs:List V}{i:Nat}{d:D},Hass Γ g ds vs->ds[i]?=some d->∃ v,vs[i]?=some v/\Has Γ g d v
 | [],_,_,_,_,e=>by simp at e
 | d::ds,_,0,_,⟨v,r,h1,h2,_⟩,e=>by subst h1;simp at e;subst e;exact ⟨v,rfl,h2⟩
 | d::ds,_,i+1,_,⟨v,r,h1,_,h3⟩,e=>by
  subst h1
  obtain ⟨u,q,hu⟩:=Hass.get (i:=i) h3 (by simpa using e)
  exact ⟨u,by simpa using q,hu⟩
theorem Hass.of:∀ {ds:List D}{vs:List V},vs.length=ds.length->(∀ (i:Nat) (d:D) (v:V),ds[i]?=some d->vs[i]?=some v->Has Γ g d v)->Hass Γ g ds vs
 | [],[],_,_=>rfl
 | d::ds,v::vs,hl,h=>⟨v,vs,rfl,h 0 d v rfl rfl,Hass.of (by simpa using hl) fun i d v e1 e2=>h (i+1) d v (by simpa using e1) (by simpa using e2)⟩
 | [],_::_,hl,_=>by simp at hl
 | _::_,[],hl,_=>by simp at hl
theorem Hass.one {d:D}{vs:List V}(h:Hass Γ g [d] vs):∃ v,vs=[v]/\Has Γ g d v:=by
 obtain ⟨v,r,e,hd,hr⟩:=h
 cases (show r=[] from hr)
 exact ⟨v,e,hd⟩
theorem Hass.two {d e:D}{vs:List V}(h:Hass Γ g [d,e] vs):∃ v u,vs=[v,u]/\Has Γ g d v/\Has Γ g e u:=by
 obtain ⟨v,r,e1,hd,hr⟩:=h
 obtain ⟨u,e2,he⟩:=Hass.one hr
 subst e2
 exact ⟨v,u,e1,hd,he⟩
theorem Hass.mk1 {d:D}{v:V}(h:Has Γ g d v):Hass Γ g [d] [v]:=⟨v,[],rfl,h,rfl⟩
theorem Hass.app:∀ {ds es:List D}{vs us:List V},Hass Γ g ds vs->Hass Γ g es us->Hass Γ g (ds++es) (vs++us)
 | [],_,_,_,h,k=>by cases (show _=[] from h);exact k
 | d::ds,_,_,_,⟨v,r,h1,h2,h3⟩,k=>by subst h1;exact ⟨v,_,rfl,h2,Hass.app h3 k⟩
theorem Hass.drop {ds:List D}{vs:List V}(n:Nat) (h:Hass Γ g ds vs):Hass Γ g (ds.drop n) (vs.drop n):=by
 refine Hass.of (by rw [dM,dM,h.len]) fun i d v e1 e2=>?_
 rw [List.getElem?_drop] at e1 e2
 obtain ⟨u,q,hu⟩:=h.get e1
 rw [q] at e2
 cases e2
 exact hu
set_option tactic.hygienic true in
theorem Hass.take {ds:List D}{vs:List V}(n:Nat) (h:Hass Γ g ds vs):Hass Γ g (ds.take n) (vs.take n):=by
 refine Hass.of (by rw [cU,cU,h.len]) fun i d v e1 e2=>?_
 rw [List.getElem?_take] at e1 e2
 split at e1
 ·rename_i hi
  rw [if_pos hi] at e2
  obtain ⟨u,q,hu⟩:=h.get e1
  rw [q] at e2
  cases e2
  exact hu
 ·cases e1
set_option tactic.hygienic true in
theorem Hass.set {ds:List D}{vs:List V}{d:D}{v:V}(n:Nat) (h:Hass Γ g ds vs) (hd:Has Γ g d v):Hass Γ g (ds.set n d) (vs.set n v):=by
 refine Hass.of (by rw [ϱ,ϱ,h.len]) fun i d' v' e1 e2=>?_
 rw [List.getElem?_set] at e1 e2
 split at e1
 ·rename_i hi
  rw [if_pos hi] at e2
  split at e1
  ·split at e2
   ·cases e1;cases e2;exact hd
   ·cases e2
  ·cases e1
 ·rename_i hi
  rw [if_neg hi] at e2
  obtain ⟨u,q,hu⟩:=h.get e1
  rw [q] at e2
  cases e2
  exact hu
theorem Hass.ints:∀ {ns:List Int},Hass Γ g (ns.map D.int) (ns.map V.int)
 | []=>rfl
 | _::_=>⟨_,_,rfl,rfl,Hass.ints⟩
end
def MutF:HO->Prop
 | .frz _ _=>True
 | o=>Mut (some o)
def zM (Γ:Gm) (H:Hp) (g:G) (a:Addr):D->Prop
 | .lst ds=>∃ vs,H a=some (.lst vs)/\Hass Γ g ds vs
 | .dK ks ds=>∃ vs,H a=some (.dK (ks.zip vs))/\ks.length=ds.length/\Hass Γ g ds vs
 | .dT ks ds=>∃ vs,H a=some (.dT (ks.zip vs))/\ks.length=ds.length/\Hass Γ g ds vs
 | .ref _=>∃ o,g.R a=some o/\H a=some o/\MutF o
 | _=>False
noncomputable def gone:D->Bool
 | .ref _=>true
 | _=>false
theorem zM.mono {Γ:Gm}{H H':Hp}{g g':G}{a:Addr}{c:D}(h:zM Γ H g a c) (e:Le g g') (hh:∀ o,H a=some o->H' a=some o):zM Γ H' g' a c:=by
 cases c with
 | lst ds=>obtain ⟨vs,h1,h2⟩:=h;exact ⟨vs,hh _ h1,h2.mono e⟩
 | dK ks ds=>obtain ⟨vs,h1,h3,h2⟩:=h;exact ⟨vs,hh _ h1,h3,h2.mono e⟩
 | dT ks ds=>obtain ⟨vs,h1,h3,h2⟩:=h;exact ⟨vs,hh _ h1,h3,h2.mono e⟩
 | non=>exact h
 | bl=>exact h
 | int=>exact h
 | str=>exact h
 | tup=>exact h
 | ref=>obtain ⟨o,h1,h2,h3⟩:=h;exact ⟨o,e.rr _ _ h1,hh _ h2,h3⟩
 | fn=>exact h
 | scr=>exact h
 | ktp=>exact h
 | kdc=>exact h
 | dF=>exact h
theorem zM.isMut {Γ:Gm}{H:Hp}{g:G}{a:Addr}{c:D}(h:zM Γ H g a c):∃ o,H a=some o/\MutF o:=by
 cases c with
 | lst ds=>obtain ⟨vs,h1,h2⟩:=h;exact ⟨_,h1,aR⟩
 | dK ks ds=>obtain ⟨vs,h1,h3,h2⟩:=h;exact ⟨_,h1,aR⟩
 | dT ks ds=>obtain ⟨vs,h1,h3,h2⟩:=h;exact ⟨_,h1,aR⟩
 | non=>exact h.elim
 | bl=>exact h.elim
 | int=>exact h.elim
 | str=>exact h.elim
 | tup=>exact h.elim
 | ref=>obtain ⟨o,h1,h2,h3⟩:=h;exact ⟨o,h2,h3⟩
 | fn=>exact h.elim
 | scr=>exact h.elim
 | ktp=>exact h.elim
 | kdc=>exact h.elim
 | dF=>exact h.elim
structure WOk (Γ:Gm) (H:Hp) (g:G) (S:Store):Prop where
 rh:Same g.R H
 len:g.α.length=S.length
 nd:g.α.Nodup
 off:∀ (k:Nat) (c:D) (a:Addr),S[k]?=some c->g.α[k]?=some a->gone c=false->g.R a=none
 cell:∀ (k:Nat) (c:D) (a:Addr),S[k]?=some c->g.α[k]?=some a->zM Γ H g a c
structure Step (H:Hp) (g:G) (H':Hp) (g':G):Prop where
 le:Le g g'
 fr:∀ a o,H a=some o->a ∉ g.α->H' a=some o
 ex:∀ a o,H a=some o->∃ o',H' a=some o'
 na:∀ a∈g'.α,a∈g.α\/H a=none
 nr:∀ a,g'.R a≠none->g.R a≠none\/H a=none\/a∈g.α\/∃ xs,H a=some (.tup xs)
theorem Step.refl (H:Hp) (g:G):Step H g H g:=⟨Le.refl g,fun _ _ h _=>h,fun _ o h=>⟨o,h⟩,fun _ h=>.inl h,fun _ h=>.inl h⟩
theorem Step.Z4 {H H':Hp}{g g':G}(s:Step H g H' g') {a:Addr}(h:H' a=none):H a=none:=by
 cases q:H a with
 | none=>rfl
 | some o=>
  obtain ⟨o',e⟩:=s.ex a o q
  rw [e] at h;cases h
theorem Step.trans {H H1 H2:Hp}{g g1 g2:G}(a:Step H g H1 g1) (b:Step H1 g1 H2 g2):Step H g H2 g2 where
 le:=a.le.trans b.le
 fr:=fun x o h n=>b.fr x o (a.fr x o h n) fun m=>by
  rcases a.na x m with q | q
  ·exact n q
  ·rw [h] at q;cases q
 ex:=fun x o h=>let ⟨o1,h1⟩:=a.ex x o h;b.ex x o1 h1
 na:=fun x m=>by
  rcases b.na x m with q | q
  ·exact a.na x q
  ·exact .inr (a.Z4 q)
 nr:=fun x m=>by
  rcases b.nr x m with q | q | q | ⟨xs,q⟩
  ·exact a.nr x q
  ·exact .inr (.inl (a.Z4 q))
  ·rcases a.na x q with q | q
   ·exact .inr (.inr (.inl q))
   ·exact .inr (.inl q)
  ·by_cases hx:x∈g.α
   ·exact .inr (.inr (.inl hx))
   ·cases e:H x with
    | none=>exact .inr (.inl rfl)
    | some o=>
     have:=a.fr x o e hx
     rw [q] at this
     cases this
     exact .inr (.inr (.inr ⟨xs,rfl⟩))
theorem Step.of_same {H H':Hp}{g g':G}(s:Same H H') (le:Le g g') (na:∀ a∈g'.α,a∈g.α\/H a=none) (nr:∀ a,g'.R a≠none->g.R a≠none\/H a=none):Step H g H' g':=
 ⟨le,fun a o h _=>s a o h,fun a o h=>⟨o,s a o h⟩,na,fun a h=>(nr a h).imp id .inl⟩
def VOk (Γ:Gm) (H:Hp) (d:D) (fr:Bool) (v:V) (H':Hp) (g':G):Prop:=
 if fr=true then ∃ a,v=.ref a/\H a=none/\g'.R a=none/\a ∉ g'.α/\zM Γ H' g' a d else Has Γ g' d v
noncomputable def G.put (g:G) (a:Addr) (o:HO):G:={ g with R:=upd g.R a o }
noncomputable def G.cell (g:G) (a:Addr):G:={ g with α:=g.α++[a] }
theorem Le.put {g:G}{a:Addr}{o:HO}(h:g.R a=none):Le g (g.put a o):=⟨fun b u q=>by
 show upd g.R a o b=some u
 rw [zc (zf q h)];exact q,fun _ _ q=>q⟩
theorem Le.cell {g:G}{a:Addr}:Le g (g.cell a):=⟨Same.refl _,fun k b q=>by
 show (g.α++[a])[k]?=some b
 rw [ϖ (Θ.mp q).1];exact q⟩
section
variable {Γ:Gm}{H H':Hp}{g g':G}{S:Store}{d:D}{v:V}{a:Addr}
theorem WOk.put {o:HO}(w:WOk Γ H g S) (h:H a=some o) (hn:g.R a=none) (ha:a ∉ g.α):WOk Γ H (g.put a o) S where
 rh:=fun b u q=>by
  by_cases hb:b=a
  ·subst hb
   have q':upd g.R b o b=some u:=q
   rw [zm] at q'
   cases q'
   exact h
  ·have q':upd g.R a o b=some u:=q
   rw [zc hb] at q'
   exact w.rh b u q'
 len:=w.len
 nd:=w.nd
 off:=fun k c b h1 h2 h3=>by
  show upd g.R a o b=none
  have hne:b≠a:=by
   rintro rfl
   exact ha (aB h2)
  rw [zc hne]
  exact w.off k c b h1 h2 h3
 cell:=fun k c b h1 h2=>(w.cell k c b h1 h2).mono (Le.put hn) fun _ q=>q
theorem Step.put {o:HO}(s:Step H g H' g') (hn:g'.R a=none) (h:H a=none):Step H g H' (g'.put a o) where
 le:=s.le.trans (Le.put hn)
 fr:=s.fr
 ex:=s.ex
 na:=s.na
 nr:=fun b q=>by
  by_cases hb:b=a
  ·subst hb;exact .inr (.inl h)
  ·have q':upd g'.R a o b≠none:=q
   rw [zc hb] at q'
   exact s.nr b q'
theorem uM {o:HO}(hn:g.R a=none) (ho:H a=some o) (h:zM Γ H g a d):Has Γ (g.put a o) d (.ref a):=by
 have le:Le g (g.put a o):=Le.put hn
 have hr:(g.put a o).R a=some o:=zm
 cases d with
 | lst ds=>obtain ⟨vs,h1,h2⟩:=h;rw [h1] at ho;cases ho;exact ⟨a,vs,rfl,hr,h2.mono le⟩
 | dK ks ds=>obtain ⟨vs,h1,h3,h2⟩:=h;rw [h1] at ho;cases ho;exact ⟨a,vs,rfl,hr,h3,h2.mono le⟩
 | dT ks ds=>obtain ⟨vs,h1,h3,h2⟩:=h;rw [h1] at ho;cases ho;exact ⟨a,vs,rfl,hr,h3,h2.mono le⟩
 | non=>exact h.elim
 | bl=>exact h.elim
 | int=>exact h.elim
 | str=>exact h.elim
 | tup=>exact h.elim
 | ref=>obtain ⟨o,h1,_⟩:=h;rw [hn] at h1;cases h1
 | fn=>exact h.elim
 | scr=>exact h.elim
 | ktp=>exact h.elim
 | kdc=>exact h.elim
 | dF=>exact h.elim
@[simp] noncomputable def isIns:D->Bool:=fun _=>false
theorem freeze {fr:Bool}(s:Step H g H' g') (w:WOk Γ H' g' S) (h:VOk Γ H d fr v H' g') (hi:isIns d=false):∃ g2,Step H g H' g2/\WOk Γ H' g2 S/\Has Γ g2 d v/\Le g' g2:=by
 cases fr with
 | false=>exact ⟨g',s,w,h,Le.refl _⟩
 | true=>
  obtain ⟨a,rfl,h0,hn,ha,hc⟩:=(show ∃ a,v=.ref a/\H a=none/\g'.R a=none/\a ∉ g'.α/\zM Γ H' g' a d from h)
  obtain ⟨o,ho,_⟩:=hc.isMut
  exact ⟨g'.put a o,s.put hn h0,w.put ho hn ha,uM hn ho hc,Le.put hn⟩
theorem boxed (s:Step H g H' g') (w:WOk Γ H' g' S) (h:VOk Γ H d true v H' g'):∃ g2,Step H g H' g2/\WOk Γ H' g2 (S++[d])/\Has Γ g2 (.ref S.length) v:=by
 obtain ⟨a,rfl,h0,hn,ha,hc⟩:=(show ∃ a,v=.ref a/\H a=none/\g'.R a=none/\a ∉ g'.α/\zM Γ H' g' a d from h)
 refine ⟨g'.cell a,⟨s.le.trans Le.cell,s.fr,s.ex,fun b hb=>?_,s.nr⟩,⟨w.rh,?_,?_,fun k c b h1 h2 h3=>?_,fun k c b h1 h2=>?_⟩,a,?_,rfl⟩
 ·rcases Η.mp hb with q | q
  ·exact s.na b q
  ·rw [ξ.mp q];exact .inr h0
 ·show (g'.α++[a]).length=(S++[d]).length
  simp [w.len]
 ·show (g'.α++[a]).Nodup
  exact nd_snocA w.nd ha
 ·have h2':(g'.α++[a])[k]?=some b:=h2
  by_cases hk:k < S.length
  ·rw [ϖ hk] at h1
   rw [ϖ (by rw [w.len];exact hk)] at h2'
   exact w.off k c b h1 h2' h3
  ·rw [Ϝ (by rw [w.len];lia)] at h2'
   have:=aB h2'
   rw [ξ.mp this];exact hn
 ·have h2':(g'.α++[a])[k]?=some b:=h2
  by_cases hk:k < S.length
  ·rw [ϖ hk] at h1
   rw [ϖ (by rw [w.len];exact hk)] at h2'
   exact (w.cell k c b h1 h2').mono Le.cell fun _ q=>q
  ·rw [Ϝ (by lia)] at h1
   rw [Ϝ (by rw [w.len];lia)] at h2'
   have e0:k - S.length=0:=by
    cases q:k - S.length with
    | zero=>rfl
    | succ n=>rw [q] at h1;simp at h1
   rw [e0] at h1
   rw [w.len,e0] at h2'
   simp at h1 h2'
   subst h1 h2'
   exact hc.mono Le.cell fun _ q=>q
 ·show (g'.α++[a])[S.length]?=some a
  rw [<- w.len]
  simp
where
 nd_snocA:∀ {l:List Addr}{k:Addr},l.Nodup->¬ k∈l->(l++[k]).Nodup:=fun {l k} h hk=>by
  rw [lw]
  exact ⟨h,by simp,fun x hx y hy=>by rw [ξ.mp hy];rintro rfl;exact hk hx⟩
end
end EV
namespace TS
open PySem PyProof.Rows
set_option backward.match.sparseCases true
variable {O:bB}{key:bh->O.α}{G:bh->Prop}{kd:iM}{M:Model}{A:ϑ}{E:δ->μ->Prop}{s:μ}
section
def LtOk (O:bB) (key:bh->O.α) (G:bh->Prop) (kd:iM) (M:Model) (A:ϑ) (E:δ->μ->Prop) (s:μ):Prop:=
 ∀ (x y:bh) (st:au) (Q:Option Bool->au->Prop),G x->G y->kindOf st=kd->Q (some (O.blt (key x) (key y))) st->wpS M A E s (lt' x y) Q st
noncomputable def dk:bh:=(.none,.none)
noncomputable def kk (key:bh->O.α) (xs:Array bh) (i:Nat):O.α:=key (xs[i]?.getD dk)
def Srt (key:bh->O.α) (xs:Array bh) (lo hi:Nat):Prop:=∀ i j,lo<=i->i<=j->j < hi->O.kle (kk key xs i) (kk key xs j)
structure Bs (G:bh->Prop) (kd:iM) (az:Array bh) (p:Array (Nat×Nat×Nat)) (st:au):Prop where
 perm:(Ρ st).Perm az
 good:∀ x∈az.toList,G x
 kind:kindOf st=kd
 failed:failedOf st=none
 pend:mZ st=p
variable {az:Array bh}{p:Array (Nat×Nat×Nat)}
theorem Bs.size {st:au}(h:Bs G kd az p st):(Ρ st).size=az.size:=h.perm.size_eq
theorem Bs.set {st:au}(h:Bs G kd az p st) {xs:Array bh}(q:xs.Perm (Ρ st)):Bs G kd az p (setArr st xs):=⟨q.trans h.perm,h.good,h.kind,h.failed,h.pend⟩
theorem Bs.item {st:au}(h:Bs G kd az p st) {i:Nat}(hi:i < az.size):∃ x,(Ρ st)[i]?=some x/\G x/\kk key (Ρ st) i=key x:=by
 have hi':i < (Ρ st).size:=by rw [h.size];exact hi
 have e:(Ρ st)[i]?=some (Ρ st)[i]:=getElem?_pos _ i hi'
 refine ⟨(Ρ st)[i],e,h.good _ ((mL.mp h.perm).mem_iff.mp (by simp)),?_⟩
 unfold kk;rw [e];rfl
theorem Y8 {arr:Array bh}{i:Nat}{x:bh}{Q:bh->au->Prop}{st:au}(e:arr[i]?=some x) (h:Q x st):wpS M A E s (elem' arr i) Q st:=by
 rw [elem'_eq,e];exact aM h
theorem wp_at (L:LtOk O key G kd M A E s) {st:au}(h:Bs G kd az p st) {i j:Nat}(hi:i < az.size) (hj:j < az.size) {Q:Option Bool->au->Prop}
  (q:Q (some (O.blt (kk key (Ρ st) i) (kk key (Ρ st) j))) st):wpS M A E s (ltAt' i j) Q st:=by
 obtain ⟨x,e1,g1,k1⟩:=h.item (key:=key) hi
 obtain ⟨y,e2,g2,k2⟩:=h.item (key:=key) hj
 rw [ltAt'_eq]
 refine ϝ (wpS_get (ϝ (Y8 e1 (ϝ (Y8 e2 (L x y st Q g1 g2 h.kind ?_))))))
 rw [<- k1,<- k2];exact q
theorem Zx {st:au}{i j:Nat}{Q:Unit->au->Prop}(h:Q () (setArr st (mirror (Ρ st) i j ((j - i) / 2)))):wpS M A E s (eU i j) Q st:=by
 rw [reverseSlice'_eq];exact nZ h
theorem kk_of {xs ys:Array bh}{i j:Nat}(h:xs[i]?=ys[j]?):kk key xs i=kk key ys j:=by unfold kk;rw [h]
set_option tactic.hygienic true in
theorem vW {xs:Array bh}{i j:Nat}(hj:j<=xs.size) (k:Nat):kk key (mirror xs i j ((j - i) / 2)) k=if i<=k/\k < j then kk key xs (i+j - 1 - k) else kk key xs k:=by
 have e:=getElem?_mirror_all (i:=i) hj k
 split
 ·rename_i h;rw [if_pos h] at e;exact kk_of e
 ·rename_i h;rw [if_neg h] at e;exact kk_of e
theorem Z5 {xs:Array bh}{i j k:Nat}(hj:j<=xs.size) (hk:k < i):(mirror xs i j ((j - i) / 2))[k]?=xs[k]?:=by
 rw [getElem?_mirror_all hj,if_neg (by lia)]
set_option tactic.hygienic true in
theorem Zb {xs:Array bh}{i j:Nat}(hj:j<=xs.size) (h:∀ k,i<=k->k < j->kk key xs k=kk key xs (j - 1)) (k:Nat):kk key (mirror xs i j ((j - i) / 2)) k=kk key xs k:=by
 rw [vW hj]
 split
 ·rename_i q
  exact (h _ (by omega) (by omega)).trans (h k q.1 q.2).symm
 ·rfl
theorem Srt.one {xs:Array bh}{lo:Nat}:Srt key xs lo (lo+1):=fun i j h1 h2 h3=>by
 obtain rfl:i=j:=by lia
 exact bK _
theorem Srt.more {xs:Array bh}{lo n:Nat}(h:Srt key xs lo (lo+n)) (h1:1<=n) (k:O.kle (kk key xs (lo+n - 1)) (kk key xs (lo+n))):Srt key xs lo (lo+(n+1)):=fun i j a b c=>by
 by_cases e:j < lo+n
 ·exact h i j a b e
 ·obtain rfl:j=lo+n:=by lia
  by_cases e:i=lo+n
  ·subst e;exact bK _
  ·exact cQ (h i (lo+n - 1) a (by lia) (by lia)) k
theorem Jr (L:LtOk O key G kd M A E s) {st:au}(b:Bs G kd az p st) {lo a nrem:Nat}(h1:1<=a) (ha:a<=nrem) (h2:lo+nrem<=az.size) (hs:Srt key (Ρ st) lo (lo+a)) {Q:Option (Option Nat)×Nat->au->Prop}
  (q:∀ n,a<=n->n<=nrem->Srt key (Ρ st) lo (lo+n)->(n=nrem\/O.klt (kk key (Ρ st) (lo+n)) (kk key (Ρ st) (lo+n - 1)))->Q (none,n) st):
  wpS M A E s (forIn [a:nrem] ((none,a):Option (Option Nat)×Nat) fun _ c=>do
   let x <- ltAt' (lo+c.2) (lo+c.2 - 1)
   match x with
   | some smaller=>if smaller=true then pure (aD (none,c.2)) else pure (Ϸ (none,c.2+1))
   | _=>pure (aD (some none,c.2))) Q st:=by
 refine fJ (I:=fun x c st'=>st'=st/\c=(none,x)/\Srt key (Ρ st) lo (lo+x)) ?_ ?_ ⟨rfl,rfl,hs⟩
 ·rintro x c st' hx hn ⟨rfl,rfl,hs⟩
  dsimp only
  refine ϝ (wp_at L b (by lia) (by lia) ?_)
  cases hl:O.blt (kk key (Ρ st') (lo+x)) (kk key (Ρ st') (lo+x - 1)) with
  | true=>exact aM (q x hx (by lia) hs (.inr hl))
  | false=>exact aM ⟨rfl,rfl,hs.more (by lia) hl⟩
 ·rintro c st' ⟨rfl,rfl,hs⟩
  rw [show max a nrem=nrem by lia] at hs ⊢
  exact q nrem ha (ς _) hs (.inl rfl)
def Fal (key:bh->O.α) (xs:Array bh) (lo hi:Nat):Prop:=∀ i j,lo<=i->i<=j->j < hi->O.kle (kk key xs j) (kk key xs i)
theorem Fal.more {xs:Array bh}{lo n:Nat}(h:Fal key xs lo (lo+n)) (h1:1<=n) (k:O.kle (kk key xs (lo+n)) (kk key xs (lo+n - 1))):Fal key xs lo (lo+(n+1)):=fun i j a b c=>by
 by_cases e:j < lo+n
 ·exact h i j a b e
 ·obtain rfl:j=lo+n:=by lia
  by_cases e:i=lo+n
  ·subst e;exact bK _
  ·exact cQ k (h i (lo+n - 1) a (by lia) (by lia))
theorem Fal.same {xs ys:Array bh}{lo hi:Nat}(h:Fal key xs lo hi) (e:∀ k,kk key ys k=kk key xs k):Fal key ys lo hi:=fun i j a b c=>by rw [e,e];exact h i j a b c
theorem Y6 (L:LtOk O key G kd M A E s) {st:au}(b:Bs G kd az p st) {lo n nrem:Nat}(h1:1<=n) (hn:n<=nrem) (h2:lo+nrem<=az.size) (hs:Fal key (Ρ st) lo (lo+n)) {Q:Option Nat->au->Prop}
  (q:∀ m st',Bs G kd az p st'->1<=m->m<=nrem->Srt key (Ρ st') lo (lo+m)->(∀ k,k < lo->(Ρ st')[k]?=(Ρ st)[k]?)->Q (some m) st'):
  wpS M A E s (do
   eU lo (lo+n)
   let c <- forIn [n:nrem] ((none,n):Option (Option Nat)×Nat) fun _ c=>do
    let x <- ltAt' (lo+c.2) (lo+c.2 - 1)
    match x with
    | some smaller=>if smaller=true then pure (aD (none,c.2)) else pure (Ϸ (none,c.2+1))
    | _=>pure (aD (some none,c.2))
   match c.1 with
   | some r=>pure r
   | none=>pure (some c.2)) Q st:=by
 have hz:lo+n<=(Ρ st).size:=by rw [b.size];lia
 refine ϝ (Zx ?_)
 have b':=b.set (m8 (Ρ st) lo (lo+n) ((lo+n - lo) / 2))
 refine ϝ (Jr L b' h1 hn h2 ?_ fun m m1 m2 ms _=>aM (q m _ b' (by lia) m2 ms fun k hk=>Z5 hz hk))
 intro i j a b c
 show O.kle (kk key (mirror (Ρ st) lo (lo+n) ((lo+n - lo) / 2)) i) (kk key (mirror (Ρ st) lo (lo+n) ((lo+n - lo) / 2)) j)
 rw [vW hz,vW hz,if_pos (by lia),if_pos (by lia)]
 exact hs _ _ (by lia) (by lia) (by lia)
end
section
variable {az:Array bh}{p:Array (Nat×Nat×Nat)}
theorem Y7 (L:LtOk O key G kd M A E s) {st:au}(b:Bs G kd az p st) {lo n nrem:Nat}(h1:1<=n) (hn:n<=nrem) (h2:lo+nrem<=az.size) (hs:Fal key (Ρ st) lo (lo+n)) {Q:Option Nat->au->Prop}
  (q:∀ m st',Bs G kd az p st'->1<=m->m<=nrem->Srt key (Ρ st') lo (lo+m)->(∀ k,k < lo->(Ρ st')[k]?=(Ρ st)[k]?)->Q (some m) st'):
  wpS M A E s (do
   let c <- forIn [n:nrem] ((none,n,0):Option (Option Nat)×Nat×Nat) fun _ c=>do
    let x <- ltAt' (lo+c.2.1) (lo+c.2.1 - 1)
    match x with
    | some smaller=>
     if smaller=true then
      if c.2.2 > 0 then do
       let _ <- eU (lo+c.2.1 - (c.2.2+1)) (lo+c.2.1)
       pure (Ϸ (none,c.2.1+1,0))
      else pure (Ϸ (none,c.2.1+1,0))
     else do
      let x <- ltAt' (lo+c.2.1 - 1) (lo+c.2.1)
      match x with
      | some larger=>if larger=true then pure (aD (none,c.2.1,c.2.2)) else pure (Ϸ (none,c.2.1+1,c.2.2+1))
      | _=>pure (aD (some none,c.2.1,c.2.2))
    | _=>pure (aD (some none,c.2.1,c.2.2))
   match c.1 with
   | some r=>pure r
   | none=>
    if c.2.2 > 0 then do
     let _ <- eU (lo+c.2.1 - (c.2.2+1)) (lo+c.2.1)
     do
      eU lo (lo+c.2.1)
      let c <- forIn [c.2.1:nrem] ((none,c.2.1):Option (Option Nat)×Nat) fun _ c=>do
       let x <- ltAt' (lo+c.2) (lo+c.2 - 1)
       match x with
       | some smaller=>if smaller=true then pure (aD (none,c.2)) else pure (Ϸ (none,c.2+1))
       | _=>pure (aD (some none,c.2))
      match c.1 with
      | some r=>pure r
      | none=>pure (some c.2)
    else do
     eU lo (lo+c.2.1)
     let c <- forIn [c.2.1:nrem] ((none,c.2.1):Option (Option Nat)×Nat) fun _ c=>do
      let x <- ltAt' (lo+c.2) (lo+c.2 - 1)
      match x with
      | some smaller=>if smaller=true then pure (aD (none,c.2)) else pure (Ϸ (none,c.2+1))
      | _=>pure (aD (some none,c.2))
     match c.1 with
     | some r=>pure r
     | none=>pure (some c.2)) Q st:=by
 refine ϝ (wpS_mono (fJ (I:=fun x c st'=>∃ e,c=(none,x,e)/\Bs G kd az p st'/\Fal key (Ρ st') lo (lo+x)/\e+1<=x/\(∀ i,lo+x - (e+1)<=i->i < lo+x->kk key (Ρ st') i=kk key (Ρ st') (lo+x - 1))/\∀ k,k < lo->(Ρ st')[k]?=(Ρ st)[k]?)
  (Q:=fun c st'=>∃ m e,c=(none,m,e)/\n<=m/\m<=nrem/\Bs G kd az p st'/\Fal key (Ρ st') lo (lo+m)/\e+1<=m/\(∀ i,lo+m - (e+1)<=i->i < lo+m->kk key (Ρ st') i=kk key (Ρ st') (lo+m - 1))/\∀ k,k < lo->(Ρ st')[k]?=(Ρ st)[k]?) ?_ ?_ ⟨0,rfl,b,hs,by lia,fun i h1 h2=>by congr 1;lia,fun _ _=>rfl⟩) ?_)
 ·rintro x c st' hx hn ⟨e,rfl,b',f',he,hq,hk⟩
  dsimp only
  have hz:lo+x<=(Ρ st').size:=by rw [b'.size];lia
  refine ϝ (wp_at L b' (by lia) (by lia) ?_)
  cases hl:O.blt (kk key (Ρ st') (lo+x)) (kk key (Ρ st') (lo+x - 1)) with
  | true=>
   have f2:=f'.more (by lia) (dz hl)
   dsimp only
   rw [if_pos rfl]
   by_cases he0:e > 0
   ·rw [if_pos he0]
    have same:=Zb (key:=key) hz hq
    exact ϝ (Zx (aM ⟨0,rfl,b'.set (m8 _ _ _ _),f2.same same,by lia,fun i h1 h2=>by congr 1;lia,fun k h=>(Z5 hz (by lia)).trans (hk k h)⟩))
   ·rw [if_neg he0]
    exact aM ⟨0,rfl,b',f2,by lia,fun i h1 h2=>by congr 1;lia,hk⟩
  | false=>
   dsimp only
   rw [if_neg (by decide)]
   refine ϝ (wp_at L b' (by lia) (by lia) ?_)
   cases hg:O.blt (kk key (Ρ st') (lo+x - 1)) (kk key (Ρ st') (lo+x)) with
   | true=>exact aM ⟨x,e,rfl,hx,by lia,b',f',he,hq,hk⟩
   | false=>
    have eq:kk key (Ρ st') (lo+x)=kk key (Ρ st') (lo+x - 1):=oH hg hl
    refine aM ⟨e+1,rfl,b',f'.more (by lia) hg,by lia,fun i h1 h2=>?_,hk⟩
    rw [show lo+(x+1) - 1=lo+x by lia,eq]
    by_cases hi:i=lo+x
    ·rw [hi];exact eq
    ·exact hq i (by lia) (by lia)
 ·rintro c st' ⟨e,rfl,b',f',he,hq,hk⟩
  rw [show max n nrem=nrem by lia] at f' he hq ⊢
  exact ⟨nrem,e,rfl,hn,ς _,b',f',he,hq,hk⟩
 ·rintro c st' ⟨m,e,rfl,m1,m2,b',f',he,hq,hk⟩
  dsimp only
  have hz:lo+m<=(Ρ st').size:=by rw [b'.size];lia
  by_cases he0:e > 0
  ·rw [if_pos he0]
   have same:=Zb (key:=key) hz hq
   refine ϝ (Zx (Y6 L (b'.set (m8 _ _ _ _)) (by lia) m2 h2 (f'.same same) fun m' st2 b2 a1 a2 a3 a4=>q m' st2 b2 a1 a2 a3 fun k h=>?_))
   exact (a4 k h).trans ((Z5 hz (by lia)).trans (hk k h))
  ·rw [if_neg he0]
   exact Y6 L b' (by lia) m2 h2 f' fun m' st2 b2 a1 a2 a3 a4=>q m' st2 b2 a1 a2 a3 fun k h=>(a4 k h).trans (hk k h)
theorem wp_eq {α:Type}{m m':StateT au Sem α}{Q:α->au->Prop}{st:au}(e:m'=m) (h:wpS M A E s m Q st):wpS M A E s m' Q st:=e ▸ h
theorem bd {α β:Type}{m m':StateT au Sem α}{f f':α->StateT au Sem β}(e:m=m') (h:∀ a,f a=f' a):(m >>= f)=(m' >>= f'):=by
 rw [e,funext h]
theorem VH (L:LtOk O key G kd M A E s) {st:au}(b:Bs G kd az p st) {lo nrem:Nat}(h1:1<=nrem) (h2:lo+nrem<=az.size) {Q:Option Nat->au->Prop}
  (q:∀ m st',Bs G kd az p st'->1<=m->m<=nrem->Srt key (Ρ st') lo (lo+m)->(∀ k,k < lo->(Ρ st')[k]?=(Ρ st)[k]?)->Q (some m) st'):wpS M A E s (countRun' lo nrem) Q st:=by
 rw [countRun'_eq]
 refine ϝ (Jr L b (ς 1) h1 h2 Srt.one fun n n1 n2 hs ho=>?_)
 dsimp only
 by_cases hn:n=nrem
 ·rw [if_pos (by simpa using hn)]
  exact aM (q n st b n1 n2 hs fun _ _=>rfl)
 ·rw [if_neg (by simpa using hn)]
  have hlt:=ho.resolve_left hn
  have hz:lo+n<=(Ρ st).size:=by rw [b.size];lia
  by_cases hg:n > 1
  ·rw [if_pos hg]
   refine ϝ (wp_at L b (by lia) (by lia) ?_)
   cases hr:O.blt (kk key (Ρ st) lo) (kk key (Ρ st) (lo+n - 1)) with
   | true=>exact aM (q n st b n1 n2 hs fun _ _=>rfl)
   | false=>
    dsimp only
    rw [if_neg (by decide)]
    have all:∀ k,lo<=k->k < lo+n->kk key (Ρ st) k=kk key (Ρ st) (lo+n - 1):=fun k a c=>
     oH (hs k (lo+n - 1) a (by lia) (by lia)) (cQ hr (hs lo k (ς _) a c))
    have same:=Zb (key:=key) hz all
    have f0:Fal key (Ρ st) lo (lo+(n+1)):=fun i j a c d=>by
     by_cases e:j < lo+n
     ·rw [all i a (by lia),all j (by lia) e];exact bK _
     ·obtain rfl:j=lo+n:=by lia
      by_cases e:i=lo+n
      ·rw [e];exact bK _
      ·rw [all i a (by lia)];exact dz hlt
    refine ϝ (Zx ?_)
    refine ϝ (wpS_lift (bW ⟨rfl,?_⟩))
    refine wp_eq ?e (Y7 L (b.set (m8 _ _ _ _)) (by lia) (by lia) h2 (f0.same same) fun m' st2 b2 a1 a2 a3 a4=>q m' st2 b2 a1 a2 a3 fun k h=>(a4 k h).trans (Z5 hz h))
    case e=>
     refine bd rfl fun c=>?_
     obtain ⟨r,n',e'⟩:=c
     cases r with
     | some r=>rfl
     | none=>
      dsimp only
      split
      ·refine bd rfl fun _=>bd rfl fun _=>bd rfl fun c=>?_
       obtain ⟨r,_⟩:=c
       cases r <;> rfl
      ·refine bd rfl fun _=>bd rfl fun c=>?_
       obtain ⟨r,_⟩:=c
       cases r <;> rfl
  ·rw [if_neg hg]
   obtain rfl:n=1:=by lia
   refine ϝ (wpS_lift (bW ⟨rfl,?_⟩))
   refine wp_eq ?e (Y7 L b (n:=1+1) (by lia) (by lia) h2 (fun i j a c d=>?_) q)
   case e=>
    refine bd rfl fun c=>?_
    obtain ⟨r,n',e'⟩:=c
    cases r with
    | some r=>rfl
    | none=>
     dsimp only
     split
     ·refine bd rfl fun _=>bd rfl fun _=>bd rfl fun c=>?_
      obtain ⟨r,_⟩:=c
      cases r <;> rfl
     ·refine bd rfl fun _=>bd rfl fun c=>?_
      obtain ⟨r,_⟩:=c
      cases r <;> rfl
   by_cases e:i=j
   ·rw [e];exact bK _
   ·obtain rfl:i=lo:=by lia
    obtain rfl:j=i+1:=by lia
    exact dz hlt
end
section
variable {az:Array bh}{p:Array (Nat×Nat×Nat)}
set_option tactic.hygienic true in
theorem kj {xs:Array bh}{src d:Nat}(hs:src < xs.size) (hd:d<=src) (k:Nat):kk key (bubble xs src d) k=if k=src - d then kk key xs src else if src - d < k/\k<=src then kk key xs (k - 1) else kk key xs k:=by
 have e:=getElem?_bubble hs d hd k
 split
 ·rename_i h;rw [if_pos h] at e;exact kk_of e
 ·rename_i h
  rw [if_neg h] at e
  split
  ·rename_i h;rw [if_pos h] at e;exact kk_of e
  ·rename_i h;rw [if_neg h] at e;exact kk_of e
theorem zaS (L:LtOk O key G kd M A E s) {st:au}(b:Bs G kd az p st) {lo n ok:Nat}(h1:1<=ok) (hok:ok<=n) (h2:lo+n<=az.size) (hs:Srt key (Ρ st) lo (lo+ok)) {Q:Bool->au->Prop}
  (q:∀ st',Bs G kd az p st'->Srt key (Ρ st') lo (lo+n)->(∀ k,k < lo->(Ρ st')[k]?=(Ρ st)[k]?)->Q true st'):wpS M A E s (binarySort' lo n ok) Q st:=by
 rw [binarySort'_eq]
 refine ϝ (wpS_mono (fJ (I:=fun k c st'=>c=(none,())/\Bs G kd az p st'/\Srt key (Ρ st') lo (lo+k)/\∀ k,k < lo->(Ρ st')[k]?=(Ρ st)[k]?)
  (Q:=fun c st'=>c=(none,())/\Bs G kd az p st'/\Srt key (Ρ st') lo (lo+n)/\∀ k,k < lo->(Ρ st')[k]?=(Ρ st)[k]?) ?_ ?_ ⟨rfl,b,by rw [show max ok 1=ok by lia];exact hs,fun _ _=>rfl⟩) ?_)
 ·rintro k c st' hk hkn ⟨rfl,b',hs',hq⟩
  have hz:lo+k < (Ρ st').size:=by rw [b'.size];lia
  dsimp only
  refine ϝ (wpS_mono (fJ (I:=fun x c st2=>st2=st'/\∃ l r,c=(none,l,r)/\l<=r/\r<=k/\r - l<=k - x/\(∀ i,i < l->O.kle (kk key (Ρ st') (lo+i)) (kk key (Ρ st') (lo+k)))/\∀ i,r<=i->i < k->O.kle (kk key (Ρ st') (lo+k)) (kk key (Ρ st') (lo+i)))
   (Q:=fun c st2=>st2=st'/\∃ l r,c=(none,l,r)/\l<=k/\(∀ i,i < l->O.kle (kk key (Ρ st') (lo+i)) (kk key (Ρ st') (lo+k)))/\∀ i,l<=i->i < k->O.kle (kk key (Ρ st') (lo+k)) (kk key (Ρ st') (lo+i))) ?_ ?_ ⟨rfl,0,k,rfl,by lia,by lia,by lia,fun i hi=>by lia,fun i h1 h2=>by lia⟩) ?_)
  ·rintro x c st2 _ hx ⟨rfl,l,r,rfl,hlr,hrk,hm,hlo,hhi⟩
   dsimp only
   by_cases hg:l >= r
   ·rw [if_pos hg]
    obtain rfl:l=r:=by lia
    exact aM ⟨rfl,l,l,rfl,hrk,hlo,hhi⟩
   ·rw [if_neg hg]
    refine ϝ (wp_at L b' (by lia) (by lia) ?_)
    cases hl:O.blt (kk key (Ρ st2) (lo+k)) (kk key (Ρ st2) (lo+(l+r) / 2)) with
    | true=>exact aM ⟨rfl,l,(l+r) / 2,rfl,by lia,by lia,by lia,hlo,fun i h1 h2=>cQ (dz hl) (hs' _ _ (by lia) (by lia) (by lia))⟩
    | false=>exact aM ⟨rfl,(l+r) / 2+1,r,rfl,by lia,by lia,by lia,fun i h1=>cQ (hs' (lo+i) (lo+(l+r) / 2) (by lia) (by lia) (by lia)) hl,hhi⟩
  ·rintro c st2 ⟨rfl,l,r,rfl,hlr,hrk,hm,hlo,hhi⟩
   obtain rfl:l=r:=by lia
   exact ⟨rfl,l,l,rfl,hrk,hlo,hhi⟩
  ·rintro c st2 ⟨rfl,l,r,rfl,hlk,hlo,hhi⟩
   dsimp only
   rw [moveDown'_eq]
   refine ϝ (nZ (aM ⟨rfl,b'.set (bubble_perm _ _ _),fun i j h1 h2 h3=>?_,fun i hi=>?_⟩))
   ·show O.kle (kk key (bubble (Ρ st2) (lo+k) (lo+k - (lo+l))) i) (kk key (bubble (Ρ st2) (lo+k) (lo+k - (lo+l))) j)
    rw [kj hz (by lia),kj hz (by lia),show lo+k - (lo+k - (lo+l))=lo+l by lia]
    have lo':∀ i,lo<=i->i < lo+l->O.kle (kk key (Ρ st2) i) (kk key (Ρ st2) (lo+k)):=fun i a c=>by
     have:=hlo (i - lo) (by lia)
     rwa [show lo+(i - lo)=i by lia] at this
    have hi':∀ i,lo+l<=i->i < lo+k->O.kle (kk key (Ρ st2) (lo+k)) (kk key (Ρ st2) i):=fun i a c=>by
     have:=hhi (i - lo) (by lia) (by lia)
     rwa [show lo+(i - lo)=i by lia] at this
    repeat' split
    all_goals first
     | (exfalso;lia)
     | exact bK _
     | exact lo' _ (by lia) (by lia)
     | exact hi' _ (by lia) (by lia)
     | exact hs' _ _ (by lia) (by lia) (by lia)
   ·refine Eq.trans ?_ (hq i hi)
    show (bubble (Ρ st2) (lo+k) (lo+k - (lo+l)))[i]?=_
    rw [getElem?_bubble hz _ (by lia),if_neg (by lia),if_neg (by lia)]
 ·rintro c st' ⟨hc,b',hs',hq⟩
  rw [show max (max ok 1) n=n by lia] at hs'
  exact ⟨hc,b',hs',hq⟩
 ·rintro c st' ⟨rfl,b',hs',hq⟩
  exact aM (q st' b' hs' hq)
end
section
variable {az:Array bh}
def Rn (key:bh->O.α) (G:bh->Prop) (kd:iM) (az:Array bh) (lo:Nat) (st:au):Prop:=
 (lo=0/\Bs G kd az #[] st)\/(lo=az.size/\Bs G kd az #[(0,lo,0)] st/\Srt key (Ρ st) 0 lo)
theorem Ky (L:LtOk O key G kd M A E s) {st:au}(b:Bs G kd az #[] st) (h2:2<=az.size) (h64:az.size < 64) {Q:Unit->au->Prop}
  (q:∀ st',(Ρ st').Perm az->failedOf st'=none->Srt key (Ρ st') 0 az.size->Q () st'):wpS M A E s sortRuns' Q st:=by
 have hr:minRun' az.size az.size 0=az.size:=by
  obtain ⟨f,e⟩:∃ f,az.size=f+1:=⟨az.size - 1,by lia⟩
  rw [e,minRun'_succ,if_pos (by lia),Nat.add_zero]
 rw [sortRuns'_eq]
 refine ϝ (wpS_get ?_)
 dsimp only
 rw [b.size,hr]
 refine ϝ (wpS_mono (fJ (I:=fun x c st'=>∃ lo,c=(none,lo)/\lo<=az.size/\(lo=az.size\/x<=lo)/\Rn key G kd az lo st') (Q:=fun c st'=>c=(none,az.size)/\Rn key G kd az az.size st') ?_ ?_ ⟨0,rfl,by lia,.inr (ς _),.inl ⟨rfl,b⟩⟩) ?_)
 ·rintro x c st1 _ hx ⟨lo,rfl,hlo,hp,rn⟩
  dsimp only
  by_cases hg:lo >= az.size
  ·rw [if_pos hg]
   obtain rfl:lo=az.size:=by lia
   exact aM ⟨rfl,rn⟩
  ·rw [if_neg hg]
   rcases rn with ⟨rfl,b1⟩ | ⟨e,_⟩
   ·refine ϝ (VH L b1 (by lia) (by lia) fun m st2 b2 m1 m2 ms _=>?_)
    dsimp only
    by_cases hm:m < az.size
    ·rw [if_pos hm]
     refine ϝ (wpS_lift (bW ⟨rfl,?_⟩))
     refine ϝ (zaS L b2 m1 (by lia) (by lia) ms fun st3 b3 ss _=>?_)
     rw [if_neg (by decide)]
     refine ϝ (wpS_get ?_)
     rw [show (mZ st3)=#[] from b3.pend,show (#[]:Array (Nat×Nat×Nat)).back?=none from rfl]
     refine ϝ (nZ (aM ⟨0+min (az.size - 0) az.size,rfl,by lia,.inl (by lia),.inr ⟨by lia,⟨b3.perm,b3.good,b3.kind,b3.failed,?_⟩,ss⟩⟩))
     show (mZ st3).push _=_
     rw [b3.pend,Nat.zero_add];rfl
    ·rw [if_neg hm]
     refine ϝ (wpS_get ?_)
     rw [show (mZ st2)=#[] from b2.pend,show (#[]:Array (Nat×Nat×Nat)).back?=none from rfl]
     refine ϝ (nZ (aM ⟨0+m,rfl,by lia,.inl (by lia),.inr ⟨by lia,⟨b2.perm,b2.good,b2.kind,b2.failed,?_⟩,ms⟩⟩))
     show (mZ st2).push _=_
     rw [b2.pend,Nat.zero_add];rfl
   ·lia
 ·rintro c st1 ⟨lo,rfl,hlo,hp,rn⟩
  obtain rfl:lo=az.size:=by lia
  exact ⟨rfl,rn⟩
 ·rintro c st1 ⟨rfl,rn⟩
  dsimp only
  obtain ⟨b1,hs⟩:Bs G kd az #[(0,az.size,0)] st1/\Srt key (Ρ st1) 0 az.size:=by
   rcases rn with ⟨h,_⟩ | ⟨_,h1,h3⟩
   ·lia
   ·exact ⟨h1,h3⟩
  refine ϝ (wpS_mono (fJ (I:=fun y c st'=>c=(none,())/\st'=st1) (Q:=fun c st'=>c=(none,())/\st'=st1) ?_ (fun _ _ h=>h) ⟨rfl,rfl⟩) ?_)
  ·rintro y c st2 _ hy ⟨rfl,rfl⟩
   refine ϝ (wpS_get ?_)
   rw [b1.pend,if_pos (show (#[(0,az.size,0)]:Array (Nat×Nat×Nat)).size<=1 from ς 1)]
   exact aM ⟨rfl,rfl⟩
  ·rintro c st2 ⟨rfl,rfl⟩
   exact aM (q st2 b1.perm b1.failed hs)
end
def IntsV:List δ->List Int->Prop
 | [],[]=>True
 | v::vs,n::ns=>(∃ t,v=.int n t)/\IntsV vs ns
 | _,_=>False
section
variable {prog:Μ}{w:ϒ}{kz:δ->List Int}
structure Tu (kz:δ->List Int) (h:Heap) (v:δ):Prop where
 it:∃ b o xs m,v=.ref b/\h.get? b=some o/\o.cls=.type "tuple"/\o.data=.seq xs m/\IntsV xs.toList (kz v)
 ne:kz v≠[]
theorem Tu.keep {h h':Heap}{v:δ}(t:Tu kz h v) (k:∀ b o,v=.ref b->h.get? b=some o->h'.get? b=some o):Tu kz h' v:=by
 obtain ⟨⟨b,o,xs,m,e1,e2,e3,e4,e5⟩,n⟩:=t
 exact ⟨⟨b,o,xs,m,e1,k b o e1 e2,e3,e4,e5⟩,n⟩
theorem tups {h:Heap}:∀ (vs:List δ),(∀ v∈vs,Tu kz h v)->∃ fs,fs.length=vs.length/\W.KatTups h vs fs/\∀ v∈fs,∃ n t,v=ϕ n t
 | [],_=>⟨[],rfl,W.KatTups.nil,fun v h=>nomatch h⟩
 | v::vs,hv=>by
  obtain ⟨fs,e,t,q⟩:=tups vs fun u hu=>hv u (θ _ hu)
  obtain ⟨⟨b,o,xs,m,e1,e2,e3,e4,e5⟩,n⟩:=hv v ι
  obtain ⟨k,ks,hk⟩:=List.exists_cons_of_ne_nil n
  rw [hk] at e5
  cases hx:xs.toList with
  | nil=>rw [hx] at e5;exact e5.elim
  | cons u us=>
   rw [hx] at e5
   obtain ⟨⟨t',e6⟩,_⟩:=e5
   have h0:xs[0]?=some u:=by
    have:xs.toList[0]?=some u:=by rw [hx];rfl
    simpa using this
   subst e1
   refine ⟨u::fs,by simp [e],W.KatTups.cons e2 e3 e4 h0 t,fun v hv=>?_⟩
   rcases Δ.mp hv with rfl | hv
   ·exact ⟨k,t',e6⟩
   ·exact q v hv
theorem uW:∀ (vs:List δ),vs.zip vs=vs.map fun v=>(v,v)
 | []=>rfl
 | v::vs=>by rw [eY,uW vs];rfl
def wz (O:bB) (kz:δ->O.α) (vs out:List δ):Prop:=out.Perm vs/\out.Pairwise fun x y=>O.blt (kz y) (kz x)=false
theorem uH {O:bB}{kz:δ->O.α}{vs:List δ}{st:au}(h:(Ρ st).Perm (vs.toArray.zip vs.toArray)) (hs:Srt (O:=O) (fun x=>kz x.1) (Ρ st) 0 (vs.toArray.zip vs.toArray).size):wz O kz vs ((Ρ st).map (·.2)).toList:=by
 have hz:(vs.toArray.zip vs.toArray).toList=vs.map fun v=>(v,v):=by
  rw [pD]
  exact uW vs
 have p:=mL.mp h
 rw [hz] at p
 have same:∀ x∈(Ρ st).toList,x.1=x.2:=fun x hx=>by
  obtain ⟨v,_,rfl⟩:=ϭ.mp (p.mem_iff.mp hx)
  rfl
 refine ⟨?_,?_⟩
 ·rw [pF]
  have:=p.map (fun x:bh=>x.2)
  rwa [gh,show ((fun x:bh=>x.2)∘fun v=>(v,v))=(id:δ->δ) from rfl,List.map_id] at this
 ·rw [pF,pB]
  refine List.pairwise_iff_getElem.mpr fun i j h1 h2 h3=>?_
  have hsz:(Ρ st).size=(vs.toArray.zip vs.toArray).size:=h.size_eq
  have hj:j < (Ρ st).size:=by simpa using h2
  have:=hs i j (ϡ _) (by omega) (by omega)
  unfold kk at this
  rw [getElem?_pos (Ρ st) i (by omega),getElem?_pos (Ρ st) j hj] at this
  have e1:=same (Ρ st)[i] (by simp)
  have e2:=same (Ρ st)[j] (by simp)
  have h4:O.blt (kz (Ρ st)[j].1) (kz (Ρ st)[i].1)=false:=this
  rw [e1,e2] at h4
  simpa using h4
theorem V6 {O:bB}{kz:δ->O.α}{kd:iM}{a:Addr}{vs:List δ}{n:Nat}{P:Fin->μ->Prop}(ho:s.heap.get? a=some (cF "list" vs.toArray n)) (h128:vs.length < 64)
  (hk:∀ h',2<=vs.length->(∀ b o,b≠a->s.heap.get? b=some o->h'.get? b=some o)->(∀ Q:iM->μ->Prop,Q kd { s with heap:=h' }->ψ (Ι prog w) A (keyKind' vs.toArray) Q E { s with heap:=h' })/\LtOk O (fun x=>kz x.1) (fun x=>∃ v∈vs,x=(v,v)) kd (Ι prog w) A E { s with heap:=h' })
  (h:∀ out:Array δ,wz O kz vs out.toList->P (.done (.ret .none)) { s with heap:=gQ s.heap a vs out }):ψ (Ι prog w) A (Κ.«list.sort» ⟨[.ref a],[]⟩) P E s:=by
 have ha:a < s.heap.objs.size:=ω ho
 have hsl:vs.length<=sizeLine:=by rw [aF];lia
 obtain ⟨e1,ho1⟩:∃ e1,(s.heap.update a (b8 fun _=>#[])).get? a=some (cF "list" #[] e1):=⟨_,get?_update_seq ho (fun _=>#[])⟩
 rw [list_sort_plain]
 refine γ (pq ho rfl (γ (gm ho rfl (γ (seqEpoch_at ho1 rfl (γ (iG (γ (wpAny_newList (aq ?_) (ϡ _))) (by simpa using hsl))))) (by simpa using hsl) (ϡ _))))
 have ho6:(((s.heap.update a (b8 fun _=>#[])).push (cF "tuple" vs.toArray 0)).push (cF "list" #[] 0)).get? a=some (cF "list" #[] e1):=
  η _ (η _ ho1)
 have kp:∀ b o,b≠a->s.heap.get? b=some o->(((s.heap.update a (b8 fun _=>#[])).push (cF "tuple" vs.toArray 0)).push (cF "list" #[] 0)).get? b=some o:=fun b o hb e=>
  η _ (η _ (by rw [cZ _ _ _ _ hb];exact e))
 show ψ (Ι prog w) A _ P E { s with heap:=((s.heap.update a (b8 fun _=>#[])).push (cF "tuple" vs.toArray 0)).push (cF "list" #[] 0) }
 have tail:∀ st':au,wz O kz vs ((Ρ st').map (·.2)).toList->((Ρ st').map (·.2)).size=vs.length->failedOf st'=none->ψ (Ι prog w) A (do
   let touched:=(<- seqEpoch a) != e1
   Κ.List.listUpdate (.ref a) fun _=>(Ρ st').map (·.2)
   if let some e:=failedOf st' then rule "list.sort.comparison-raised";throw e
   if touched then rule "list.sort.modified";raiseError "ValueError" "list modified during sort"
   ret .none) P E { s with heap:=((s.heap.update a (b8 fun _=>#[])).push (cF "tuple" vs.toArray 0)).push (cF "list" #[] 0) }:=fun st' k z f=>by
  refine γ (seqEpoch_at ho6 rfl (γ (gm ho6 rfl ?_ (ϡ _) (by lia))))
  rw [f]
  simp only [bne_self_eq_false,ak,if_false]
  exact ζ (h _ k)
 have pz:(vs.toArray.zip vs.toArray).size=vs.length:=by simp
 by_cases h2:vs.toArray.size < 2
 ·rw [if_pos h2,if_pos h2]
  refine γ (ζ ?_)
  dsimp only
  rw [StateT.run_pure]
  refine γ (ζ ?_)
  refine tail (au.mk' general' (vs.toArray.zip vs.toArray) #[] 7 none) (uH (Array.Perm.refl _) fun i j a c e=>?_) (by rw [Array.size_map];exact pz) rfl
  have h2':vs.length < 2:=by simpa using h2
  obtain rfl:i=j:=by lia
  exact bK _
 ·have h2':2<=vs.length:=by simpa using h2
  rw [if_neg h2,if_neg h2]
  obtain ⟨k1,L⟩:=hk _ h2' kp
  refine γ (k1 _ ?_)
  have B:Bs (fun x=>∃ v∈vs,x=(v,v)) kd (vs.toArray.zip vs.toArray) #[] (au.mk' kd (vs.toArray.zip vs.toArray) #[] 7 none):=⟨Array.Perm.refl _,fun x hx=>by
   rw [pD,show vs.toArray.toList=vs from rfl,uW] at hx
   obtain ⟨v,hm,rfl⟩:=ϭ.mp hx
   exact ⟨v,hm,rfl⟩,rfl,rfl,rfl⟩
  refine γ (aN (Ky (Q:=fun _ st'=>(Ρ st').Perm (vs.toArray.zip vs.toArray)/\failedOf st'=none/\Srt (O:=O) (fun x=>kz x.1) (Ρ st') 0 (vs.toArray.zip vs.toArray).size) L B (by lia) (by lia) fun st' a1 a2 a3=>⟨a1,a2,a3⟩) ?_ fun _ _ e=>e)
  rintro ⟨⟨⟩,st'⟩ s' ⟨rfl,a1,a2,a3⟩
  exact tail st' (uH a1 a3) (by rw [Array.size_map,a1.size_eq];exact pz) a2
end
noncomputable def txOf:Int×δ->Str
 | (_,.str x _)=>x
 | _=>⟨#[]⟩
section
variable {prog:Μ}{w:ϒ}
def Tx (w:ϒ) (e:Int×δ):Prop:=∃ x t,e=(hashStr w x,aY x t)
structure St (w:ϒ) (h:Heap) (a:Addr) (led:Bool) (es:Array (Int×δ)) (ep:Nat) (tb:Ϙ):Prop where
 at_:∃ o,h.get? a=some o/\o.ExactSet/\o.data=.set es ep tb
 tx:∀ e∈es.toList,Tx w e
 fit:tb.fits es.size=true
 led_:tb.led=led
 pl:es.size=0\/tb.plain=false
def Ts (w:ϒ) (h:Heap) (a:Addr) (led:Bool) (ks:List Str):Prop:=∃ es ep tb,St w h a led es ep tb/\(es.toList.map txOf).Perm ks
theorem St.el {h:Heap}{a:Addr}{led:Bool}{es:Array (Int×δ)}{ep:Nat}{tb:Ϙ}(z:∀ e∈es.toList,Tx w e):ElemsOf (aW prog w) es.toList:=fun e he=>by
 obtain ⟨x,t,rfl⟩:=z e he
 exact ⟨⟨x,by simp [aW,dJ],rfl⟩,rfl⟩
theorem Q4 (t:Ϙ) (es:Array (Int×δ)) (h:Int) (x:δ):(layNew t es h x).2.1.led=t.led:=by
 unfold layNew
 split
 ·show (nQ _ _).led=t.led
  unfold nQ
  split <;> rfl
 ·rfl
set_option tactic.hygienic true in
theorem XC (t:Ϙ) (es:Array (Int×δ)) (n:Nat):(relayAll t es n).2.1.led=t.led/\(t.plain=false->(relayAll t es n).2.1.plain=false):=by
 unfold relayAll
 split
 ·rename_i t' o e
  have k:t'.led=t.led/\t'.plain=t.plain:=by
   unfold Ϙ.relaid Ϙ.laid at e
   obtain ⟨ow,_,e2⟩:=ν.mp e
   cases e2
   exact ⟨rfl,rfl⟩
  dsimp only
  split
  ·exact ⟨k.1,fun h=>k.2.trans h⟩
  ·exact ⟨rfl,fun _=>rfl⟩
 ·exact ⟨rfl,fun _=>rfl⟩
theorem JD {h:Heap}{a:Addr}{o:Obj}{es es':Array (Int×δ)}{ep:Nat}{t t':Ϙ}(ho:h.get? a=some o) (hx:o.ExactSet) (hd:o.data=.set es ep t):
  ∃ u,(h.update a (Obj.putSet es' t')).get? a=some u/\u.ExactSet/\u.data=.set es' (ep+1) t':=by
 have k:=ϫ (Obj.putSet es' t') ho (by rw [putSet_of es' t' hd];rfl)
 rw [putSet_of es' t' hd] at k
 exact ⟨_,k,hx,rfl⟩
noncomputable def addK (ks:List Str) (x:Str):List Str:=if x∈ks then ks else ks++[x]
theorem zam {x:Str}:∀ {l:List (Int×δ)},(∀ e∈l,Tx w e)->((l.findIdx? fun e=>(aW prog w).is x e.2).isSome=true ↔ x∈l.map txOf):=by
 intro l h
 rw [List.findIdx?_isSome,dN,ϭ]
 constructor
 ·rintro ⟨e,h1,h2⟩
  obtain ⟨y,t,rfl⟩:=h e h1
  exact ⟨_,h1,by simpa [aW,dJ,txOf] using h2⟩
 ·rintro ⟨e,h1,h2⟩
  obtain ⟨y,t,rfl⟩:=h e h1
  exact ⟨_,h1,by simpa [aW,dJ,txOf] using h2⟩
theorem zcK {a:Addr}{led:Bool}{ks:List Str}{x:Str}{t:Tok}{Q:Bool->μ->Prop}(hS:Ts w s.heap a led ks) (hn:ks.length+1 < 4096)
  (q:∀ (b:Bool) (h':Heap),ό a s.heap h'->Ts w h' a led (addK ks x)->Q b { s with heap:=h' }):ψ (Ι prog w) A (setAddHashed a (.str x t) (hashStr w x)) Q E s:=by
 obtain ⟨es,ep,tb,⟨⟨o,ho,hx,hd⟩,tx,fit,l1,pl⟩,pm⟩:=hS
 have hel:ElemsOf (aW prog w) es.toList:=St.el (h:=s.heap) (a:=a) (led:=led) (ep:=ep) (tb:=tb) tx
 have sz:es.size=ks.length:=by rw [<- Φ,<- pm.length_eq,Ν]
 have key:(aW prog w).is x (.str x t)=true:=by simp [aW,dJ]
 unfold setAddHashed oE
 refine aq (γ (cT ho hd fit ?_))
 dsimp only
 rw [byScan_of (knd:=aW prog w) rfl (by rw [sz];show _ < 4096;omega) hel]
 rw [if_pos rfl]
 unfold setAddByScan
 refine γ (γ (bW (γ (wpAny_setScan_of (knd:=aW prog w) (k:=x) key ho hd fit hel ?_))))
 have fi:=zam (prog:=prog) (w:=w) (x:=x) tx
 cases hr:List.findIdx? (fun e=>(aW prog w).is x e.2) es.toList with
 | some j=>
  rw [hr] at fi
  have m:x∈ks:=pm.mem_iff.mp (fi.mp rfl)
  refine ζ (ζ ?_)
  have k:=q false s.heap (gB a s.heap) ⟨es,ep,tb,⟨⟨o,ho,hx,hd⟩,tx,fit,l1,pl⟩,by rw [addK,if_pos m];exact pm⟩
  exact k
 | none=>
  rw [hr] at fi
  have m:x ∉ ks:=fun m=>by cases fi.mpr (pm.mem_iff.mpr m)
  dsimp only
  have p1:=layNew_perm tb es (hashStr w x) (.str x t)
  have p2:=layNew_fits tb es (hashStr w x) (.str x t)
  have p3:=Q4 tb es (hashStr w x) (.str x t)
  show ψ _ _ (match layNew tb es (hashStr w x) (.str x t) with | (es,t,wd,gave)=>_) _ _ _
  generalize layNew tb es (hashStr w x) (.str x t)=L at p1 p2 p3 ⊢
  obtain ⟨e1,t1,wd,gv⟩:=L
  dsimp only at p1 p2 p3 ⊢
  rw [o8] at p1
  have tx1:∀ e∈e1.toList,Tx w e:=fun e he=>by
   rcases Η.mp (p1.mem_iff.mp he) with he | he
   ·exact tx e he
   ·rw [ξ] at he;exact ⟨x,t,he⟩
  have sz1:e1.size=ks.length+1:=by rw [<- Φ,p1.length_eq,ϊ,Φ,sz];rfl
  have pm1:(e1.toList.map txOf).Perm (addK ks x):=by
   rw [addK,if_neg m]
   refine (p1.map txOf).trans ?_
   rw [my]
   exact pm.append (bQ _)
  have tail:∀ (t2:Ϙ) (Q:Bool->μ->Prop),t2.fits e1.size=true->t2.led=led->t2.plain=false->(∀ (h':Heap),ό a s.heap h'->Ts w h' a led (addK ks x)->Q true { s with heap:=h' }) ->
    ψ (Ι prog w) A (do
     iH a e1 t2
     if (!wd&&t2.tooFull)=true then
      match relayAll t2 e1 (cD e1.size) with
      | (es,t,gave)=>do
       (match gave with | true=>rule "set.scan.the-table-gave-way" | false=>pure ())
       iH a es t
       pure (some true)
     else pure (some true)) (fun r s'=>∃ b,r=some b/\Q b s') E s:=fun t2 Q f2 l2 q2 q=>by
   refine γ (wpAny_storeSet_of ho hd ?_ (by rw [sz1,aF];omega))
   obtain ⟨u,hu,hux,hud⟩:=JD (es':=e1) (t':=t2) ho hx hd
   split
   ·have r1:=relayAll_perm t2 e1 (cD e1.size)
    have r2:=relayAll_fits t2 e1 (cD e1.size)
    have r3:=XC t2 e1 (cD e1.size)
    generalize relayAll t2 e1 (cD e1.size)=R at r1 r2 r3 ⊢
    obtain ⟨e2,t3,g2⟩:=R
    dsimp only at r1 r2 r3 ⊢
    have sz2:e2.size=e1.size:=by rw [<- Φ,r1.length_eq,Φ]
    obtain ⟨v,hv,hvx,hvd⟩:=JD (es':=e2) (t':=t3) hu hux hud
    have fin:ψ (Ι prog w) A (do iH a e2 t3;pure (some true)) (fun r s'=>∃ b,r=some b/\Q b s') E { s with heap:=s.heap.update a (Obj.putSet e1 t2) }:=
     γ (wpAny_storeSet_of hu hud (ζ ⟨true,rfl,q _ ((aA _ a _).trans (aA _ a _))
      ⟨e2,_,t3,⟨⟨v,hv,hvx,hvd⟩,fun e he=>tx1 e (r1.mem_iff.mp he),r2,r3.1.trans l2,.inr (r3.2 q2)⟩,(r1.map txOf).trans pm1⟩⟩) (by rw [sz2,sz1,aF];omega))
    cases g2 with
    | true=>exact γ (bW fin)
    | false=>exact γ (ζ fin)
   ·exact ζ ⟨true,rfl,q _ (aA _ a _) ⟨e1,_,t2,⟨⟨u,hu,hux,hud⟩,tx1,f2,l2,.inr q2⟩,pm1⟩⟩
  have go:∀ (t2:Ϙ),t2.fits e1.size=true->t2.led=led->t2.plain=false->ψ (Ι prog w) A (do
     iH a e1 t2
     if (!wd&&t2.tooFull)=true then
      match relayAll t2 e1 (cD e1.size) with
      | (es,t,gave)=>do
       (match gave with | true=>rule "set.scan.the-table-gave-way" | false=>pure ())
       iH a es t
       pure (some true)
     else pure (some true)) (fun r s'=>ψ (Ι prog w) A (match r with | some added=>pure added | none=>oE a (.str x t) (hashStr w x) 99999) Q E s') E s:=fun t2 f l p=>
   aN (tail t2 (fun b s'=>Q b s') f l p fun h' a1 a2=>q true h' a1 a2) (fun r s' ⟨b,e,k⟩=>by rw [e];exact ζ k) fun _ _ e=>e
  have mid:ψ (Ι prog w) A (do
     let byValue <- if t1.plain then hashByValue 8 (.str x t) else pure true
     let t2:=if byValue then t1 else { t1 with plain:=false }
     iH a e1 t2
     if (!wd&&t2.tooFull)=true then
      match relayAll t2 e1 (cD e1.size) with
      | (es,t,gave)=>do
       (match gave with | true=>rule "set.scan.the-table-gave-way" | false=>pure ())
       iH a es t
       pure (some true)
     else pure (some true)) (fun r s'=>ψ (Ι prog w) A (match r with | some added=>pure added | none=>oE a (.str x t) (hashStr w x) 99999) Q E s') E s:=by
   cases hp:t1.plain with
   | true=>
    rw [if_pos rfl]
    refine γ (ζ ?_)
    exact go { t1 with plain:=false } (Ϙ.fits_plain_off p2) (p3.trans l1) rfl
   | false=>
    rw [if_neg (by simp)]
    refine γ (ζ ?_)
    exact go t1 p2 (p3.trans l1) hp
  cases gv with
  | true=>exact γ (bW mid)
  | false=>exact γ (ζ mid)
end
section
variable {prog:Μ}{w:ϒ}
noncomputable def ledW (w:ϒ):Bool:=!(w.params.followText "set-order")
noncomputable def set0 (w:ϒ):Obj:={ cls:=.type "set",dict:=none,data:=.set #[] 0 (.fresh 0 0 (ledW w)) }
theorem ts0 {h:Heap}{a:Addr}(ho:h.get? a=some (set0 w)):Ts w h a (ledW w) []:=
 ⟨#[],0,_,⟨⟨_,ho,⟨rfl,rfl,rfl⟩,rfl⟩,(fun e he=>nomatch he),rfl,rfl,.inl rfl⟩,bQ _⟩
theorem Ts.keep {h h':Heap}{a:Addr}{led:Bool}{ks:List Str}(t:Ts w h a led ks) (k:∀ o,h.get? a=some o->h'.get? a=some o):Ts w h' a led ks:=by
 obtain ⟨es,ep,tb,⟨⟨o,ho,r⟩,x1,x2,x3,x4⟩,pm⟩:=t
 exact ⟨es,ep,tb,⟨⟨o,k o ho,r⟩,x1,x2,x3,x4⟩,pm⟩
noncomputable def Z1 (ks:List Str):List Str:=ks.foldl addK []
theorem zaR (ks:List Str) (x:Str):(addK ks x).length<=ks.length+1:=by
 unfold addK;split <;> simp
theorem K5 (a:δ) {Q₁:δ->μ->Prop}(h:Q₁ (.ref s.heap.objs.size) { s with heap:=s.heap.push (set0 w) }):
  lg (Ι prog w) A (.call (.builtin "set.__new__") ⟨[.type "set",a],[]⟩) (wants Q₁ E) s:=by
 refine nM ?_
 show ψ _ A.in1 (do gF "set.__new__" ⟨[.type "set",a],[]⟩;again (.builtin "set.__new__" ⟨[.type "set",a],[]⟩)) _ _ s
 refine γ (aQ (PySem.F.newCall_set_1 a) (ζ ⟨dC nq _,bA PySem.F.entry_set_new ?_⟩))
 rw [ao nq _]
 unfold Κ.«set.__new__» Κ.Frozenset.newClass
 have hsub:=sub_set_self
 obtain ⟨hp,g,d,tk,os⟩:=s
 dsimp only
 wp_walk
 refine mX (ζ ?_)
 dsimp only
 simp only [newObj]
 exact γ (wpAny_alloc (ζ (ζ h)))
theorem zao {R:Result->μ->Prop}{I:Addr}{fp wr:List Addr}{G:Array iT->Array iT->Prop}{n:Nat}{P:Nat->δ->Prop}{Sx:Nat->μ->Prop}
  (W:WalksS prog w A.in1 I fp wr G n P Sx) (S:Addr) (hS:S ∉ fp) {led:Bool}{val:List Str}(hv:val.length=n) (hP:∀ i v,P i v->∀ x,val[i]?=some x->∃ t,v=.str x t) (hb:n+1 < 4096):
  ∀ (k:Nat) (ks:List Str) (s:μ),k<=n->ks.length<=n - k->Sx (n - k) s->Ts w s.heap S led ks ->
   (∀ s',Moved (S::wr) G s s'->Ts w s'.heap S led ((val.drop (n - k)).foldl addK ks)->R (.ok (.ret .none)) s') ->
   lg (Ι prog w) A (.builtin "set.update.loop" ⟨[.ref S,.ref I],[]⟩) R s:=by
 have nw:S ∉ wr:=fun h=>hS (W.sub _ h)
 have sub:∀ b∈wr,b∈S::wr:=fun b hb=>θ _ hb
 intro k
 induction k with
 | zero=>
  intro ks s _ _ st hs r
  refine bA fP ?_
  rw [ao cj _]
  refine γ (W.done s _ _ st fun s' m=>ζ (r s' (m.mono sub) ?_))
  rw [List.drop_eq_nil_of_le (by omega)]
  exact hs.keep fun o e=>m.heap S o nw e
 | succ k ih=>
  intro ks s hk hl st hs r
  obtain ⟨x,hx⟩:∃ x,val[n - (k+1)]?=some x:=⟨val[n - (k+1)]'(by omega),ο _⟩
  have dr:val.drop (n - (k+1))=x::val.drop (n - k):=by
   rw [fH (by omega),show n - (k+1)+1=n - k by omega]
   rw [ο (by omega)] at hx
   rw [ϙ hx]
  refine bA fP ?_
  rw [ao cj _]
  refine γ (W.item _ s _ _ (by omega) st fun v s' hp st' m=>?_)
  obtain ⟨t,rfl⟩:=hP _ v hp x hx
  have hs':=hs.keep (h':=s'.heap) fun o e=>m.heap S o nw e
  refine γ (aq ?_)
  unfold setAdd
  refine aq (γ (wpAny_pyHash_str (x:=x) (zcK (s:={ s' with toks:=s'.toks+1 }) hs' (by omega) fun b h' sb hs2=>?_)))
  rw [show n - (k+1)+1=n - k by omega] at st'
  refine ζ ⟨dC cj _,ih (addK ks x) _ (by omega) (by have:=zaR ks x;omega) (W.frame _ s' _ _ st' (mq _) fun b hb o e=>?_) hs2 fun s2 m2 z=>?_⟩
  ·rw [sb.2 b (fun h:b=S=>hS (by rw [<- h];exact hb))];exact e
  ·refine r s2 (Moved.trans W.gtrans ((m.mono sub).then_heap (mq _) fun b o hb e=>?_) m2) (by rw [dr];exact z)
   rw [sb.2 b (fun h:b=S=>hb (by rw [h];exact ι))];exact e
end
section
variable {prog:Μ}{w:ϒ}
structure Row (prog:Μ) (w:ϒ) (T:String) (l:Addr) (its:Array δ) (OK:Heap->Prop) (Sx:Addr->Nat->Heap->Prop) (itO:Obj):Prop where
 there:∀ h,OK h->∃ o,h.get? l=some o/\o.cls=.type T
 keep:∀ h h',OK h->(∀ o,h.get? l=some o->h'.get? l=some o)->OK h'
 it:∀ {A:ϑ}{E:δ->μ->Prop}{s:μ}{Q:δ->μ->Prop},OK s.heap->Q (.ref s.heap.objs.size) { s with heap:=s.heap.push itO }->ψ (Ι prog w) A (iI (.ref l)) Q E s
 wk:∀ {A:ϑ}(I:Addr),A.handled=none->l≠I->Walks prog w A I [I,l] [I] its.size (fun i v=>its[i]?=some v) (Sx I)
 st:∀ h,OK h->Sx h.objs.size 0 (h.push itO)
 n1:isSubtype (.type T) (.type "set")=pure false
 n2:isSubtype (.type T) (.type "frozenset")=pure false
 n3:(ώ T==ώ "dict")=false
theorem rowL (l:Addr) (its:Array δ):Row prog w "list" l its (fun h=>h.IsList l its) (fun I i h=>h.IsListIter I l i/\h.IsList l its) { cls:=.type "list_iterator",data:=.fields #[.ref l,.int 0 0] } where
 there:=fun h ⟨o,e,c,_⟩=>⟨o,e,c⟩
 keep:=fun h h' ⟨o,e,r⟩ k=>⟨o,k o e,r⟩
 it:=fun h q=>gb h q
 wk:=fun I hh hn=>Walks.list hh I l hn its
 st:=fun h k=>⟨⟨_,υ _ rfl,rfl,rfl⟩,k.push _⟩
 n1:=PySem.F.sub_list_set
 n2:=PySem.F.sub_list_frozenset
 n3:=by decide
theorem rowT (l:Addr) (its:Array δ):Row prog w "tuple" l its (fun h=>h.IsTuple l its) (fun I i h=>h.IsTupleIter I l i/\h.IsTuple l its) { cls:=.type "tuple_iterator",data:=.fields #[.ref l,.int 0 0] } where
 there:=fun h ⟨o,e,c,_⟩=>⟨o,e,c⟩
 keep:=fun h h' ⟨o,e,r⟩ k=>⟨o,k o e,r⟩
 it:=fun h q=>lM h q
 wk:=fun I hh hn=>Walks.tuple hh I l hn its
 st:=fun h ⟨o,e,r⟩=>⟨⟨_,υ _ rfl,rfl,rfl⟩,⟨o,η _ e,r⟩⟩
 n1:=by rw [fU];kernel_rfl
 n2:=by rw [fU];kernel_rfl
 n3:=by decide
theorem Jh {T:String}{l:Addr}{its:Array δ}{OK:Heap->Prop}{Sx:Addr->Nat->Heap->Prop}{itO:Obj}{val:List Str}{Q:δ->μ->Prop}(R:Row prog w T l its OK Sx itO) (hh:A.handled=none) (hl:OK s.heap)
  (hv:val.length=its.size) (hP:∀ (i:Nat) (v:δ),its[i]?=some v->∀ x,val[i]?=some x->∃ t,v=.str x t) (hb:its.size+1 < 4096)
  (h:∀ (h':Heap) (tk:Nat),Ts w h' s.heap.objs.size (ledW w) (Z1 val)->(∀ b o,s.heap.get? b=some o->h'.get? b=some o)->Q (.ref s.heap.objs.size) { s with heap:=h',toks:=tk }):
  ψ (Ι prog w) A (call (.type "set") [.ref l]) Q E s:=by
 obtain ⟨c,tl,hmro⟩:=aO.mro
 have hmade:=aO.made
 have hsub:=aO.sub
 refine oA (nM ?_)
 show ψ _ _ (callAny (.type "set") _) _ _ _
 refine ζ ⟨Code.quiet_builtin _ (by decide +kernel),bA PySem.F.entry_type_call ?_⟩
 rw [ϑ.under_plain (weight_type_call_type "set" [.ref l] []) rfl]
 have h1:=aO.notType
 have h2:=aO.canCreate
 have hct:=PySem.F.typeCall_set_1 (.ref l)
 repeat (any_goals (first | assumption | wp_step))
 refine dX (K5 (.ref l) (E:=E) (Q₁:=fun ob s1=>ob=.ref s.heap.objs.size/\s1={ s with heap:=s.heap.push (set0 w) }) ⟨rfl,rfl⟩) fun r s1 hr=>?_
 cases r with
 | error e=>exact hr
 | ok fl=>
  cases fl with
  | ret ob=>
   obtain ⟨rfl,rfl⟩:=hr
   have hS:(s.heap.push (set0 w)).get? s.heap.objs.size=some (set0 w):=υ _ rfl
   have hT:bO { s with heap:=s.heap.push (set0 w) } (.ref s.heap.objs.size) "set":=⟨_,hS,rfl⟩
   have hli:=aO.init.lookup
   have hbi:=aO.init.bind (.ref s.heap.objs.size)
   repeat (any_goals (first | assumption | wp_step))
   refine dX (codeAny_call_builtin (R:=wants (fun r s2=>r=.none/\∃ h' tk,s2={ s with heap:=h',toks:=tk }/\Ts w h' s.heap.objs.size (ledW w) (Z1 val)/\∀ b o,s.heap.get? b=some o->h'.get? b=some o) E)
    aO.init.plain PySem.F.entry_set_init (check_set_init_1 hT ?_)) fun r2 s2 hr2=>?_
   ·obtain ⟨ol,hol,hcl⟩:=R.there _ hl
    have lt:=ω hol
    have hol':(s.heap.push (set0 w)).get? l=some ol:=η _ hol
    have ok1:OK (s.heap.push (set0 w)):=R.keep _ _ hl fun o e=>η _ e
    have k1:=R.n1
    have k2:=R.n2
    have k3:=R.n3
    have hty:bO { s with heap:=s.heap.push (set0 w) } (.ref l) T:=⟨_,hol',hcl⟩
    unfold Κ.«set.__init__» noKeywords Κ.Frozenset.updateFrom
    generalize hPI:iI=PI
    wp_walk
    subst hPI
    have hh3:A.in1.in1.in1.handled=none:=by simp [hh]
    have sz:(s.heap.push (set0 w)).objs.size=s.heap.objs.size+1:=by rw [dH]
    have ne:l≠(s.heap.push (set0 w)).objs.size:=by rw [sz];exact Υ (dI lt)
    refine R.it (s:={ s with heap:=s.heap.push (set0 w) }) ok1 (γ (n8 (zao (led:=ledW w) (val:=val) (R.wk _ hh3 ne).toS s.heap.objs.size ?_ hv hP hb its.size [] _ (ς _) (ϡ _) ?_ ?_ fun s' m z=>?_)))
    ·rw [sz]
     intro hm
     rcases Δ.mp hm with e | hm
     ·exact Υ (fY _) e
     ·rw [ξ] at hm;exact cX lt hm
    ·rw [Nat.sub_self];exact R.st _ ok1
    ·exact ts0 (η _ hS)
    ·rw [Nat.sub_self,List.drop_zero] at z
     obtain ⟨h',g',d',tk',os'⟩:=s'
     have e1:g'=s.gens:=m.gens
     have e2:d'=s.drawn:=m.drawn
     have e3:os'=s.os:=m.os
     subst e1 e2 e3
     refine ζ (ζ ⟨rfl,h',tk',rfl,z,fun b o e=>?_⟩)
     have lb:=ω e
     refine m.heap b o ?_ (η _ (η _ e))
     rw [sz]
     intro hm
     rcases Δ.mp hm with e | hm
     ·exact Υ lb e
     ·rw [ξ] at hm;exact Υ (dI lb) hm
   ·cases r2 with
    | error e=>exact hr2
    | ok fl2=>
     cases fl2 with
     | ret r=>
      obtain ⟨rfl,h',tk,rfl,z,hk⟩:=hr2
      repeat (any_goals (first | assumption | wp_step))
      exact h _ _ z hk
     | _=>exact hr2.elim
  | _=>exact hr.elim
end
section
variable {prog:Μ}{w:ϒ}
theorem Vj {src:Source}{n:Nat}{Q:Nat->μ->Prop}(hn:n≠0) (q:∀ i d,i < n->Q i { s with drawn:=d }):ψ (Ι prog w) A (choose src n) Q E s:=by
 intro Γ p h
 exact ⟨hn,q _ _ (Nat.mod_lt _ (Nat.pos_of_ne_zero hn))⟩
theorem ji {α:Type}:∀ (xs:List α) (i:Nat) (hi:i < xs.length),(xs[i]::xs.eraseIdx i).Perm xs
 | x::xs,0,_=>bQ _
 | x::xs,i+1,hi=>(cA.swap _ _ _).trans ((ji xs i (by simpa using hi)).cons x)
theorem zy {α:Type}(n:Nat):∀ (xs:List α) (s:μ) {Q:List α->μ->Prop},xs.length=n->(∀ ys d,ys.Perm xs->Q ys { s with drawn:=d })->ψ (Ι prog w) A (drawOrder n xs) Q E s:=by
 induction n with
 | zero=>
  intro xs s Q h q
  cases xs with
  | nil=>exact ζ (q [] s.drawn (bQ _))
  | cons x xs=>cases h
 | succ n ih=>
  intro xs s Q h q
  cases xs with
  | nil=>cases h
  | cons x xs=>
   show ψ _ _ (choose .order (x::xs).length >>= _) _ _ _
   refine γ (Vj (by simp) fun i d hi=>?_)
   rw [ο hi]
   refine γ (ih _ _ (by rw [oO,if_pos hi];simp at h;simp [h]) fun ys d' p=>ζ ?_)
   refine q _ d' ((p.cons _).trans ?_)
   exact ji _ _ hi
end
theorem jc:Slot "set_iterator" "__next__" "set_iterator.__next__":=
 .of (owner:="set_iterator") (n:="__next__") (by rw [fu,cR];kernel_rfl) (by decide +kernel) (by decide +kernel) (by decide +kernel)
  (by first | exact .inl (by decide +kernel) | exact .inr (by decide +kernel)) (by rw [fU];kernel_rfl)
theorem U9:entryFor table "set_iterator.__next__"=some Κ.«set_iterator.__next__»:=entryFor_of_fast (by kernel_rfl)
theorem zaN (a:δ):argsOk "set_iterator.__next__" ⟨[a],[]⟩:=by unfold argsOk;kernel_rfl
theorem Zj:entryFor table "set.__iter__"=some Κ.«frozenset.__iter__»:=oF (id':="frozenset.__iter__") (by kernel_rfl) rfl (by decide +kernel) (by kernel_rfl)
section
variable {prog:Μ}{w:ϒ}
theorem KZ {P:Fin->μ->Prop}(hh:A.handled=none) (q:∀ (e:δ) (h':Heap),(∀ b o,s.heap.get? b=some o->h'.get? b=some o)->bO { s with heap:=h' } e "StopIteration"->E e { s with heap:=h' }):
  ψ (Ι prog w) A (do raiseNew (<- newExc (.type "StopIteration") []):Sem Fin) P E s:=by
 refine γ ?_
 simp only [newExc,newTuple]
 refine γ (Ω ?_ (by size_fits))
 refine γ (m:=dW _ _) (aQ (a:=Β) (by first | rfl | (simp only [dW];rfl)) ?_)
 refine Ω ?_ (by size_fits)
 simp only [raiseNew]
 refine γ (lJ ?_)
 rw [hh]
 exact γ (ζ (m7 (q (.ref _) _ (fun b o e=>η _ (η _ e)) ⟨_,υ _ rfl,rfl⟩)))
theorem Wn {I:Addr}{Q:Option δ->μ->Prop}(hT:s.TypeIs (.ref I) "set_iterator")
  (h:ψ (Ι prog w) A.in1 (Κ.«set_iterator.__next__» ⟨[.ref I],[]⟩) (fun f s'=>∃ x,f=.done (.ret x)/\Q (some x) s') (fun e s'=>s'.TypeIs e "StopIteration"/\Q none s') s):ψ (Ι prog w) A (dU (.ref I)) Q E s:=by
 unfold dU
 refine γ (cP (ϗ (name:=b7 "__next__") hT jc (ϓ jc hT U9 (aN h (fun f s' k=>?_) fun e s' k=>?_) (zaN _))))
 ·obtain ⟨x,rfl,k⟩:=k
  exact ⟨x,rfl,ζ k⟩
 ·exact γ (dj (T:="StopIteration") (b:=true) k.1 iK (ζ k.2))
noncomputable def SI (f:δ) (i n ep:Nat) (a:Addr):Obj:={ cls:=.type "set_iterator",data:=.fields #[f,.int i 0,.ref a,.int n 0,.int ep 0] }
def Fst (w:ϒ) (h:Heap) (I a tp:Addr) (es:Array (Int×δ)) (ep:Nat) (tb:Ϙ) (ord:List (Int×δ)) (i:Nat) (f:δ):Prop:=
 (w.params.followText "set-order"=true/\(∃ k:Nat,f=.int k 0)/\ord=(mY (w.params.setOrder a ep) es).toList) \/
 (w.params.followText "set-order"=false/\∃ (js:List Nat),f=.ref tp/\tp≠I/\(∃ o n,h.get? tp=some o/\o.data=.seq (js.map fun j:Nat=>ϕ j 0).toArray n)/\js.length=ord.length/\∀ (k:Nat) j,js[k]?=some j->es[j]?=ord[k]?) \/
 (w.params.followText "set-order"=false/\es.size<=1/\tb.led=true/\ord=es.toList/\f=.int (if i=0 then 0 else tb.place.getD 0 0+1:Nat) 0)
theorem jZ {α:Type}(nx:Nat->Nat):∀ (n k:Nat) (l:List α) (out:Array α),l.length=n->(mG nx n k l out).toList.Perm (out.toList++l)
 | 0,k,[],out,_=>by simp [mG]
 | n+1,k,x::l,out,h=>by
  unfold mG
  have hi:nx k % (x::l).length < (x::l).length:=Nat.mod_lt _ (by simp)
  rw [ο hi]
  dsimp only
  refine (jZ nx n (k+1) _ _ (by rw [oO,if_pos hi];simp at h;simp [h])).trans ?_
  rw [o8,aJ]
  exact (ji _ _ hi).append_left _
end
section
variable {prog:Μ}{w:ϒ}{I a tp:Addr}{led:Bool}{es:Array (Int×δ)}{ep:Nat}{tb:Ϙ}{ord:List (Int×δ)}{i:Nat}{f:δ}
structure Wk (w:ϒ) (h:Heap) (I a tp:Addr) (led:Bool) (es:Array (Int×δ)) (ep:Nat) (tb:Ϙ) (ord:List (Int×δ)) (i:Nat):Prop where
 ne:a≠I
 st:St w h a led es ep tb
 it:∃ f,h.get? I=some (SI f i es.size ep a)/\Fst w h I a tp es ep tb ord i f
theorem uz {h:Heap}{o:Obj}{vs:Array δ}{k:Nat}{x:δ}(ho:h.get? I=some { cls:=.type "set_iterator",data:=.fields vs }):
  (h.update I (ϲ (·.setIfInBounds k x))).get? I=some { cls:=.type "set_iterator",data:=.fields (vs.setIfInBounds k x) }:=
 ϫ _ ho rfl
theorem jE {Q:Bool->μ->Prop}(q:Q (w.params.followText "set-order") s):ψ (Ι prog w) A setsByText Q E s:=γ (mX (ζ q))
theorem Wi {Q:Option (δ×Nat)->μ->Prop}{n:Nat}(st:St w s.heap a led es ep tb) (c:w.params.followText "set-order"=true) (q:Q ((mY (w.params.setOrder a ep) es)[i]?.map fun e=>(e.2,n)) s):ψ (Ι prog w) A (setNext a n i ep) Q E s:=by
 obtain ⟨⟨so,so1,so2,so3⟩,tx,fit,l1,pl⟩:=st
 unfold setNext
 refine γ (cT so1 so3 fit (γ (jE ?_)))
 rw [c,if_pos rfl,if_neg (by simp)]
 unfold setWalk
 refine γ (γ (cT so1 so3 fit (γ (jE ?_))))
 rw [c,if_pos rfl]
 exact γ (mX (ζ (ζ q)))
theorem JS {Q:Option (δ×Nat)->μ->Prop}{n:Nat}(st:St w s.heap a led es ep tb) (c:w.params.followText "set-order"=false) (c2:es.size<=1) (c3:tb.led=true)
  (q:Q (match es[bx tb.place n]?,tb.place[bx tb.place n]? with | some (_,x),some j=>some (x,j+1) | _,_=>none) s):ψ (Ι prog w) A (setNext a n i ep) Q E s:=by
 obtain ⟨⟨so,so1,so2,so3⟩,tx,fit,l1,pl⟩:=st
 unfold setNext
 refine γ (cT so1 so3 fit (γ (jE ?_)))
 rw [c,if_neg (by simp)]
 show ψ _ _ (if (!tb.plain&&decide (es.size > 1))=true then _ else _) _ _ _
 rw [if_neg (by simp;omega)]
 refine γ (aQ (a:=()) ?_ (ζ q))
 show (if (!tb.led&&!es.isEmpty)=true then unsupported "set:maker-not-led" else pure ())=pure ()
 rw [c3];rfl
theorem Uy {Q:δ->μ->Prop}{n:Nat}{x:Int×δ}(st:St w s.heap a led es ep tb) (e:es[n]?=some x) (q:Q x.2 s):ψ (Ι prog w) A (setNextDrawn a n ep) Q E s:=by
 obtain ⟨⟨so,so1,so2,so3⟩,tx,fit,l1,pl⟩:=st
 unfold setNextDrawn
 refine γ (cT so1 so3 fit ?_)
 dsimp only
 rw [if_neg (by simp),e]
 exact ζ q
theorem next_item {Q:Option δ->μ->Prop}{x:Int×δ}(k:Wk w s.heap I a tp led es ep tb ord i) (hx:ord[i]?=some x)
  (q:∀ h',(∀ b o,b≠I->s.heap.get? b=some o->h'.get? b=some o)->Wk w h' I a tp led es ep tb ord (i+1)->Q (some x.2) { s with heap:=h' }):ψ (Ι prog w) A (dU (.ref I)) Q E s:=by
 obtain ⟨ne,st,f,ho,fs⟩:=k
 obtain ⟨⟨so,so1,so2,so3⟩,tx,fit,l1,pl⟩:=id st
 refine Wn ⟨_,ho,rfl⟩ ?_
 unfold Κ.«set_iterator.__next__»
 refine γ (aQ (a:=(Α I,[])) rfl (γ (bZ ho rfl ?_)))
 dsimp only
 refine γ (lD so1 so3 fit ?_)
 rw [if_neg (by simp)]
 have keepS:∀ {h':Heap},(∀ b o,b≠I->s.heap.get? b=some o->h'.get? b=some o)->St w h' a led es ep tb:=fun kk=>⟨⟨so,kk a so ne so1,so2,so3⟩,tx,fit,l1,pl⟩
 have kk1:∀ {y:Nat}{z:δ}{h:Heap},(∀ b o,b≠I->s.heap.get? b=some o->h.get? b=some o)->∀ b o,b≠I->s.heap.get? b=some o->(h.update I (ϲ (·.setIfInBounds y z))).get? b=some o:=fun hk b o hb e=>by
  rw [cZ _ _ _ _ hb];exact hk b o hb e
 have kk0:∀ b o,b≠I->s.heap.get? b=some o->s.heap.get? b=some o:=fun _ _ _ e=>e
 rcases fs with ⟨c1,⟨k,rfl⟩,c3⟩ | ⟨c1,js,rfl,c2,⟨o,n,c3,c4⟩,c5,c6⟩ | ⟨c1,c2,c3,c4,rfl⟩
 ·refine γ (Wi (i:=i) (n:=k) (ep:=ep) st c1 ?_)
  rw [<- bH,<- c3,hx]
  dsimp only [fX]
  have e1:=uz (o:=so) (k:=0) (x:=Ϯ (k:Nat)) ho
  refine γ (Ϟ ho rfl (by simp) (γ (Ϟ e1 rfl (by simp) (ζ ⟨_,rfl,q _ (kk1 (kk1 kk0)) ⟨ne,keepS (kk1 (kk1 kk0)),_,?_,.inl ⟨c1,⟨k,rfl⟩,c3⟩⟩⟩))))
  rw [uz (o:=so) e1]
  simp [SI,Ϯ]
 ·refine γ (iD c3 c4 ?_)
  have hj:∃ j,js[i]?=some j:=by
   have:i < js.length:=by rw [c5];exact (Θ.mp hx).1
   exact ⟨_,ο this⟩
  obtain ⟨j,hj⟩:=hj
  dsimp only
  rw [bR,gA,Ο,hj]
  dsimp only [fX]
  refine γ (Uy (n:=j) (ep:=ep) st (by rw [c6 i j hj];exact hx) (γ (Ϟ ho rfl (by simp) (ζ ⟨_,rfl,q _ (kk1 kk0) ⟨ne,keepS (kk1 kk0),_,?_,.inr (.inl ⟨c1,js,rfl,c2,⟨o,n,kk1 kk0 tp o c2 c3,c4⟩,c5,c6⟩)⟩⟩))))
  rw [uz (o:=so) ho]
  simp [SI,Ϯ]
 ·subst c4
  have i0:i=0:=by have:=(Θ.mp hx).1;rw [Φ] at this;omega
  subst i0
  have p1:tb.place.size=1:=by
   have:=(Θ.mp hx).1
   rw [Φ] at this
   have f:=fit
   unfold Ϙ.fits at f
   simp only [ε,beq_iff_eq] at f
   omega
  obtain ⟨j,pj⟩:∃ j,tb.place=#[j]:=nY.mp p1
  obtain ⟨x1,x2⟩:=x
  refine γ (JS (n:=0) (i:=0) (ep:=ep) st c1 c2 c3 ?_)
  rw [pj]
  have b0:bx #[j] 0=0:=by simp [bx,mH]
  rw [b0,<- bH,hx,show (#[j]:Array Nat)[0]?=some j from rfl]
  dsimp only
  have e1:=uz (o:=so) (k:=0) (x:=Ϯ (j+1:Nat)) ho
  refine γ (Ϟ ho rfl (by simp) (γ (Ϟ e1 rfl (by simp) (ζ ⟨_,rfl,q _ (kk1 (kk1 kk0)) ⟨ne,keepS (kk1 (kk1 kk0)),_,?_,.inr (.inr ⟨c1,c2,c3,rfl,rfl⟩)⟩⟩))))
  rw [uz (o:=so) e1,pj]
  simp [SI,Ϯ]
end
section
variable {prog:Μ}{w:ϒ}{I a tp:Addr}{led:Bool}{es:Array (Int×δ)}{ep:Nat}{tb:Ϙ}{ord:List (Int×δ)}{i:Nat}{f:δ}
theorem next_end {Q:Option δ->μ->Prop}(hh:A.handled=none) (k:Wk w s.heap I a tp led es ep tb ord ord.length) (hp:ord.Perm es.toList)
  (q:∀ h',(∀ b o,b≠I->s.heap.get? b=some o->h'.get? b=some o)->Q none { s with heap:=h' }):ψ (Ι prog w) A (dU (.ref I)) Q E s:=by
 obtain ⟨ne,st,f,ho,fs⟩:=k
 obtain ⟨⟨so,so1,so2,so3⟩,tx,fit,l1,pl⟩:=id st
 have sz:ord.length=es.size:=by rw [hp.length_eq,Φ]
 refine Wn ⟨_,ho,rfl⟩ ?_
 unfold Κ.«set_iterator.__next__»
 refine γ (aQ (a:=(Α I,[])) rfl (γ (bZ ho rfl ?_)))
 dsimp only
 refine γ (lD so1 so3 fit ?_)
 rw [if_neg (by simp)]
 have kk1:∀ {y:Nat}{z:δ}{h:Heap},(∀ b o,b≠I->s.heap.get? b=some o->h.get? b=some o)->∀ b o,b≠I->s.heap.get? b=some o->(h.update I (ϲ (·.setIfInBounds y z))).get? b=some o:=fun hk b o hb e=>by
  rw [cZ _ _ _ _ hb];exact hk b o hb e
 have kk0:∀ b o,b≠I->s.heap.get? b=some o->s.heap.get? b=some o:=fun _ _ _ e=>e
 have fin:∀ (h:Heap) (P:Fin->μ->Prop),(∀ b o,b≠I->s.heap.get? b=some o->h.get? b=some o)->ψ (Ι prog w) A.in1 (do raiseNew (<- newExc (.type "StopIteration") []):Sem Fin) P (fun e s'=>s'.TypeIs e "StopIteration"/\Q none s') { s with heap:=h }:=fun h P hk=>
  KZ (s:={ s with heap:=h }) (by simpa using hh) fun e h' k1 k2=>⟨k2,q h' fun b o hb e=>k1 b o (hk b o hb e)⟩
 rcases fs with ⟨c1,⟨k,rfl⟩,c3⟩ | ⟨c1,js,rfl,c2,⟨o,n,c3,c4⟩,c5,c6⟩ | ⟨c1,c2,c3,c4,rfl⟩
 ·refine γ (Wi (i:=ord.length) (n:=k) (ep:=ep) st c1 ?_)
  rw [<- bH,<- c3,Ϲ (ς _)]
  dsimp only [Option.map_none]
  exact γ (Ϟ ho rfl (by simp) (fin _ _ (kk1 kk0)))
 ·refine γ (iD c3 c4 ?_)
  dsimp only
  rw [bR,gA,Ο,Ϲ (by rw [c5];exact ς _)]
  dsimp only [Option.map_none]
  have e1:=uz (o:=so) (k:=0) (x:=Ϯ 0) ho
  exact γ (Ϟ ho rfl (by simp) (γ (Ϟ e1 rfl (by simp) (fin _ _ (kk1 (kk1 kk0))))))
 ·subst c4
  have ft:tb.place.size=es.size:=by
   have f:=fit
   unfold Ϙ.fits at f
   simp only [ε,beq_iff_eq] at f
   exact f.1
  obtain ⟨n,hn,hb⟩:∃ n:Nat,(if es.toList.length=0 then 0 else tb.place.getD 0 0+1:Nat)=n/\es.size<=bx tb.place n:=by
   refine ⟨_,rfl,?_⟩
   rcases Nat.lt_or_ge 0 es.size with h | h
   ·have p1:tb.place.size=1:=by omega
    obtain ⟨j,pj⟩:∃ j,tb.place=#[j]:=nY.mp p1
    rw [if_neg (by rw [Φ];omega),pj]
    have b1:bx #[j] (j+1)=1:=by simp [bx,mH]
    have b2:(#[j]:Array Nat).getD 0 0=j:=rfl
    rw [b2,b1];omega
   ·omega
  rw [hn]
  refine γ (JS (n:=n) (i:=es.toList.length) (ep:=ep) st c1 c2 c3 ?_)
  rw [fZ hb]
  dsimp only
  exact γ (Ϟ ho rfl (by simp) (fin _ _ (kk1 kk0)))
theorem Wk.keep {h h':Heap}(k:Wk w h I a tp led es ep tb ord i) (kk:∀ b∈[I,a,tp],∀ o,h.get? b=some o->h'.get? b=some o):Wk w h' I a tp led es ep tb ord i:=by
 obtain ⟨ne,⟨⟨so,so1,so2⟩,z1,z2,z3,z4⟩,f,ho,fs⟩:=k
 refine ⟨ne,⟨⟨so,kk a (by simp) so so1,so2⟩,z1,z2,z3,z4⟩,f,kk _ (by simp) _ ho,?_⟩
 rcases fs with c | ⟨c1,js,c2,c3,⟨o,n,c4,c5⟩,c6⟩ | c
 ·exact .inl c
 ·exact .inr (.inl ⟨c1,js,c2,c3,⟨o,n,kk _ (by simp) _ c4,c5⟩,c6⟩)
 ·exact .inr (.inr c)
set_option tactic.hygienic true in
theorem zaf {Q:δ->μ->Prop}(st:St w s.heap a (ledW w) es ep tb) (hz:es.size<=sizeLine) (q:∀ (ord:List (Int×δ)) (I tp:Addr) (h':Heap) (d:Drawn),ord.Perm es.toList->(∀ b o,s.heap.get? b=some o->h'.get? b=some o)->s.heap.get? I=none->(tp=a\/s.heap.get? tp=none)->Wk w h' I a tp (ledW w) es ep tb ord 0->Q (.ref I) { s with heap:=h',drawn:=d }):
  ψ (Ι prog w) A (iI (.ref a)) Q E s:=by
 obtain ⟨⟨so,so1,so2,so3⟩,tx,fit,l1,pl⟩:=id st
 have hT:s.TypeIs (.ref a) "set":=⟨_,so1,so2.1⟩
 refine f9 hT nj (ϓ nj hT Zj ?_ (PySem.F.args_set_iter_1 _))
 unfold Κ.«frozenset.__iter__» Κ.Frozenset.slot0 Κ.Frozenset.sizeOf setDrawn
 refine γ (aQ (a:=a) rfl (γ (γ (lD so1 so3 fit (ζ ?_)))))
 refine γ (γ (cT so1 so3 fit (γ (jE (ζ ?_)))))
 have nI:∀ {h:Heap},s.heap.objs.size<=h.objs.size->s.heap.get? h.objs.size=none:=fun {h} hl=>by
  cases e:s.heap.get? h.objs.size with
  | none=>rfl
  | some o=>exact absurd (ω e) (Nat.not_lt.mpr hl)
 have na:∀ {h:Heap},s.heap.objs.size<=h.objs.size->a≠h.objs.size:=fun {h} hl e=>bT _ (ϋ (e ▸ ω so1) hl)
 have fin:∀ (f:δ) (tp:Addr) (ord:List (Int×δ)) (h:Heap) (d:Drawn),s.heap.objs.size<=h.objs.size->(∀ b o,s.heap.get? b=some o->h.get? b=some o)->ord.Perm es.toList->(tp=a\/s.heap.get? tp=none)->Fst w (h.push (SI f 0 es.size ep a)) h.objs.size a tp es ep tb ord 0 f ->
   ψ (Ι prog w) A.in1 (do ret (<- newFields "set_iterator" [f,Ϯ 0,.ref a,Ϯ es.size,Ϯ (<- setEpoch a)])) (fun f' s'=>∃ v,f'=.done (.ret v)/\∃ T u,s'.TypeIs v T/\lN (.type T) (b7 "__next__")=pure (some u)/\Q v s') E { s with heap:=h,drawn:=d }:=by
  intro f tp ord h d hl hk pm ht fs
  refine γ (wpAny_setEpoch_of (hk a so so1) so3 fit (γ (Ω (ζ ⟨_,rfl,"set_iterator",_,⟨_,υ _ rfl,rfl⟩,jc.lookup,?_⟩))))
  refine q ord h.objs.size tp (h.push (SI f 0 es.size ep a)) d pm (fun b o e=>η _ (hk b o e)) (nI hl) ht ⟨na hl,⟨⟨so,η _ (hk a so so1),so2,so3⟩,tx,fit,l1,pl⟩,f,υ _ rfl,fs⟩
 cases c:w.params.followText "set-order" with
 | true=>
  show ψ _ _ (if (!true&&(!tb.plain&&decide (es.size > 1)))=true then _ else _) _ _ _
  rw [if_neg (by simp)]
  refine γ (ζ (fin (Ϯ 0) a _ s.heap s.drawn (ς _) (fun _ _ e=>e) ?_ (.inl rfl) (.inl ⟨c,⟨0,rfl⟩,rfl⟩)))
  exact jZ _ _ _ _ _ (Φ ..)
 | false=>
  show ψ _ _ (if (!false&&(!tb.plain&&decide (es.size > 1)))=true then _ else _) _ _ _
  split
  ·rename_i g
   refine γ (zy _ _ _ (fM ..) fun js d pj=>γ (iG ?_ (by rw [Ν,pj.length_eq,fM];exact hz)))
   have lj:js.length=es.size:=by rw [pj.length_eq,fM]
   have jb:∀ j∈js,j < es.size:=fun j hj=>bG.mp (pj.mem_iff.mp hj)
   have om:∀ js:List Nat,(∀ j∈js,j < es.size)->(js.filterMap (es[·]?)).length=js.length/\∀ (k:Nat) (j:Nat),js[k]?=some j->es[j]?=(js.filterMap (es[·]?))[k]?:=by
    intro js
    induction js with
    | nil=>exact fun _=>⟨rfl,fun k j h=>by simp at h⟩
    | cons x js ih=>
     intro hb
     obtain ⟨h1,h2⟩:=ih fun j hj=>hb j (θ _ hj)
     have hx:es[x]?=some (es[x]'(hb x ι)):=ϟ _
     rw [bV,hx]
     refine ⟨by simp [h1],fun k j h=>?_⟩
     cases k with
     | zero=>cases (ϙ h);rw [hx];rfl
     | succ k=>exact h2 k j h
   obtain ⟨o1,o2⟩:=om js jb
   refine fin (.ref s.heap.objs.size) s.heap.objs.size (js.filterMap (es[·]?)) _ d (by rw [lQ];exact mq _) (fun b o e=>η _ e) ?_ (.inr (nI (ς _))) (.inr (.inl ⟨c,js,rfl,?_,⟨_,_,η _ (υ _ rfl),rfl⟩,o1.symm,o2⟩))
   ·refine (pj.filterMap _).trans ?_
    rw [show (fun x=>es[x]?)=fun i=>es[i]? from rfl,filterMap_getElem?_range]
   ·rw [lQ];exact Υ (fY _)
  ·rename_i g
   refine γ (ζ (fin (Ϯ 0) a es.toList s.heap s.drawn (ς _) (fun _ _ e=>e) (bQ _) (.inl rfl) (.inr (.inr ⟨c,?_,?_,rfl,rfl⟩))))
   ·rcases pl with p | p
    ·omega
    ·rw [p] at g;simp at g;omega
   ·rw [l1,ledW,c];rfl
end
theorem ZQ:Slot "set_iterator" "__iter__" "set_iterator.__iter__":=
 .of (owner:="set_iterator") (n:="__iter__") (by rw [fu,cR];kernel_rfl) (by decide +kernel) (by decide +kernel) (by decide +kernel)
  (by first | exact .inl (by decide +kernel) | exact .inr (by decide +kernel)) (by rw [fU];kernel_rfl)
theorem Vb:entryFor table "set_iterator.__iter__"=some Κ.«dict_keyiterator.__iter__»:=oF (id':="dict_keyiterator.__iter__") (by kernel_rfl) rfl (by decide +kernel) (by kernel_rfl)
theorem Jq (a:δ):argsOk "set_iterator.__iter__" ⟨[a],[]⟩:=by unfold argsOk;kernel_rfl
theorem K6:lN (.type "set") "__len__"=pure (some (.builtin "set.__len__")):=by rw [fu,cR];kernel_rfl
section
variable {prog:Μ}{w:ϒ}{I a tp:Addr}{led:Bool}{es:Array (Int×δ)}{ep:Nat}{tb:Ϙ}{ord:List (Int×δ)}{i:Nat}{f:δ}
theorem VP (hh:A.handled=none) (hp:ord.Perm es.toList):Walks prog w A I [I,a,tp] [I] ord.length (fun i v=>(ord.map (·.2))[i]?=some v) (fun i h=>Wk w h I a tp led es ep tb ord i) where
 sub:=fun b hb=>by simp at hb;simp [hb]
 frame:=fun _ _ _ st hk=>st.keep hk
 item:=fun i s Q E hi st hQ=>next_item (x:=ord[i]) st (ο hi) fun h' k st'=>hQ _ h' s.toks (by simp [hi]) st' fun b o hb e=>k b o (by simpa using hb) e
 done:=fun s Q E st hQ=>next_end hh st hp fun h' k=>hQ h' s.toks fun b o hb e=>k b o (by simpa using hb) e
 self:=fun i s Q E st hQ=>by
  obtain ⟨f,ho,_⟩:=st.it
  have hT:s.TypeIs (.ref I) "set_iterator":=⟨_,ho,rfl⟩
  refine f9 hT ZQ (ϓ ZQ hT Vb ?_ (Jq _))
  exact ζ ⟨_,rfl,"set_iterator",_,hT,jc.lookup,hQ⟩
theorem Zn {R:List δ->μ->Prop}(hh:A.handled=none) (st:St w s.heap a (ledW w) es ep tb) (hz:es.size < 4096)
  (h:∀ (ord:List (Int×δ)) (h':Heap) (tk:Nat) (d:Drawn),ord.Perm es.toList->s.heap.objs.size<=h'.objs.size->(∀ b o,s.heap.get? b=some o->h'.get? b=some o)->R (ord.map (·.2)) { s with heap:=h',toks:=tk,drawn:=d }):ψ (Ι prog w) A (collect (.ref a)) R E s:=by
 obtain ⟨⟨so,so1,so2,so3⟩,z1,z2,z3,z4⟩:=id st
 have hn:es.size<=sizeLine:=by rw [aF];omega
 have lt:=ω so1
 unfold collect
 refine γ (n8 (bA lL ?_))
 rw [ao lK _]
 show ψ _ A.in1 (newList [] >>= fun l=>again (.builtin "list.__iadd__" ⟨[l,.ref a],[]⟩)) _ _ s
 refine γ (Ω (ζ ⟨dC dg _,bA mR ?_⟩))
 rw [ao dg _]
 show ψ _ A.in1 (Ϻ (.ref s.heap.objs.size) (.ref a) (.ref s.heap.objs.size)) _ _ _
 generalize h1e:s.heap.push { cls:=.type "list",data:=.seq ([]:List δ).toArray }=h1
 have k1:∀ b o,s.heap.get? b=some o->h1.get? b=some o:=fun b o e=>by rw [<- h1e];exact η _ e
 have hS:h1.get? s.heap.objs.size=some { cls:=.type "list",data:=.seq #[] }:=by rw [<- h1e];exact υ _ rfl
 have st1:St w h1 a (ledW w) es ep tb:=⟨⟨so,k1 a so so1,so2,so3⟩,z1,z2,z3,z4⟩
 have hT:∀ (h:Heap) (d:Drawn),(∀ b o,h1.get? b=some o->h.get? b=some o)->bO { s with heap:=h,drawn:=d } (.ref a) "set":=fun h d k=>⟨so,k a so (k1 a so so1),so2.1⟩
 have nSa:s.heap.objs.size≠a:=cX lt
 unfold Ϻ
 refine γ (bI (hT h1 s.drawn fun _ _ e=>e) ?_)
 have e1:cM (.ref s.heap.objs.size) (.ref a)=false:=by simp [cM,nSa]
 rw [if_neg (by rw [e1];decide)]
 refine γ (zaf (s:={ s with heap:=h1 }) st1 hn fun ord I tp h2 d pm k2 nI nt wk=>?_)
 refine γ (aq ?_)
 unfold iy
 refine γ (nG (hT h2 d k2) K6 ?_)
 (generalize hid:("set.__len__":String)=id0;wp_delta;rw [show splitId id0=some ("set","__len__") from by subst hid;decide +kernel];subst hid)
 refine γ (dj (b:=true) (hT h2 d k2) sub_set_self ?_)
 rw [if_neg (by simp),if_pos (by decide +kernel)]
 refine γ (bI (hT h2 d k2) (ζ ?_))
 rw [if_pos (by decide +kernel)]
 have nIS:I≠s.heap.objs.size:=fun e=>by rw [e] at nI;have nI:h1.get? _=none:=nI;rw [hS] at nI;cases nI
 have ntS:tp≠s.heap.objs.size:=fun e=>by
  rcases nt with z | z
  ·exact nSa (e.symm.trans z)
  ·rw [e] at z;have z:h1.get? _=none:=z;rw [hS] at z;cases z
 have hSf:s.heap.objs.size ∉ [I,a,tp]:=fun hm=>by
  rcases Δ.mp hm with z | hm
  ·exact nIS z.symm
  ·rcases Δ.mp hm with z | hm
   ·exact nSa z
   ·exact ntS (ξ.mp hm).symm
 have hS2:=k2 _ _ hS
 have hS3:=ϫ (b8 (·.push Β)) hS2 rfl
 have hS4:=ϫ (b8 (·.pop)) hS3 rfl
 refine γ (bW (γ ?_))
 unfold Κ.List.listTouch
 refine γ (gm hS2 rfl (gm hS3 rfl ?_ (by rw [aF];decide) (by rw [aF];decide)) (by rw [aF];decide) (by rw [aF];decide))
 have kk:∀ b o,b≠s.heap.objs.size->h2.get? b=some o->((h2.update s.heap.objs.size (b8 (·.push Β))).update s.heap.objs.size (b8 (·.pop))).get? b=some o:=fun b o hb e=>by
  rw [cZ _ _ _ _ hb,cZ _ _ _ _ hb];exact e
 refine ζ ⟨dC mj _,codeAny_extend_loopS (VP (led:=ledW w) (es:=es) (ep:=ep) (tb:=tb) (tp:=tp) (a:=a) (by simpa using hh) pm).toS (by rw [pm.length_eq,Φ];exact hn) s.heap.objs.size hSf _ ord.length 0 _ #[] _ rfl (ϡ _)
  (wk.keep fun b hb o e=>kk b o (fun z=>hSf (z ▸ hb)) e) hS4 (ItemsOf.nil _) fun s' acc c m hS' hacc=>?_⟩
 refine γ (wpAny_load hS' (ζ ?_))
 have ea:acc.toList=ord.map (·.2):=by
  apply lA
  intro j
  by_cases hj:j < acc.size
  ·rw [bH,ϟ hj,hacc.2 j _ (ϟ hj)]
  ·rw [Ϲ (by rw [Φ];omega),Ϲ (by rw [Ν,<- hacc.1];omega)]
 obtain ⟨h',g',d',tk',os'⟩:=s'
 have g1:g'=s.gens:=m.gens
 have g2:d'=d:=m.drawn
 have g3:os'=s.os:=m.os
 subst g1 g2 g3
 rw [ea]
 refine h ord h' tk' d' pm ?_ fun b o e=>?_
 ·have:=ω hS'
  exact gq this
 ·have hb:b≠s.heap.objs.size:=Υ (ω e)
  refine m.heap b o (fun hm=>?_) (kk b o hb (k2 b o (k1 b o e)))
  rcases Δ.mp hm with z | hm
  ·exact hb z
  ·rw [ξ.mp hm] at e
   have nI:h1.get? I=none:=nI
   rw [k1 _ _ e] at nI;cases nI
end
noncomputable def strB (x y:Str):Bool:=decide (x.cps.toList < y.cps.toList)
theorem KY (x:Str):strB x x=false:=decide_eq_false (List.lt_irrefl _)
theorem za8 (x y z:Str) (h:strB x y=true) (k:strB y z=true):strB x z=true:=decide_eq_true (List.lt_trans (of_decide_eq_true h) (of_decide_eq_true k))
theorem KR (x y z:Str) (h:strB x z=true):strB x y=true\/strB y z=true:=by
 by_cases k:x.cps.toList < y.cps.toList
 ·exact .inl (decide_eq_true k)
 ·right
  have k:y.cps.toList<=x.cps.toList:=List.not_lt.mp k
  exact decide_eq_true (List.lt_of_le_of_lt k (of_decide_eq_true h))
theorem Xk (x y:Str) (h:strB x y=false) (k:strB y x=false):x=y:=by
 have h1:y.cps.toList<=x.cps.toList:=List.not_lt.mp (of_decide_eq_false h)
 have h2:x.cps.toList<=y.cps.toList:=List.not_lt.mp (of_decide_eq_false k)
 have e:=List.le_antisymm h2 h1
 obtain ⟨⟨l⟩⟩:=x
 obtain ⟨⟨m⟩⟩:=y
 cases (show l=m from e)
 rfl
noncomputable def strO:bB:=⟨Str,strB,KY,za8,KR,Xk⟩
noncomputable def strV:δ->Str
 | .str x _=>x
 | _=>⟨#[]⟩
def IsTx (v:δ):Prop:=∃ x t,v=.str x t
section
variable {prog:Μ}{w:ϒ}
theorem zca {G:bh->Prop}(hg:∀ x,G x->IsTx x.1):LtOk strO (fun x=>strV x.1) G oneType' (Ι prog w) A E s:=by
 intro x y st Q gx gy hk q
 obtain ⟨a,t,e1⟩:=hg x gx
 obtain ⟨b,u,f1⟩:=hg y gy
 rw [lt'_eq]
 refine ϝ (wpS_get ?_)
 have q:Q (some (strB (strV x.1) (strV y.1))) st:=q
 rw [e1,f1] at q
 rw [hk,e1,f1]
 exact ϝ (wpS_lift (cP (W.kas_lt_str ⟨rfl,aM q⟩)))
theorem U0 {vs:List δ}(h2:2<=vs.length) (hv:∀ v∈vs,IsTx v) {Q:iM->μ->Prop}(q:Q oneType' s):ψ (Ι prog w) A (keyKind' vs.toArray) Q E s:=
 W.kas_kind (T:=.type "str") h2 (fun v hm=>by
  obtain ⟨x,t,rfl⟩:=hv v hm
  exact fun _ _ _ _ _ q=>ζ q) (by decide +kernel) (by decide +kernel) q
theorem V5 {a:Addr}{vs:List δ}{n:Nat}{P:Fin->μ->Prop}(ho:s.heap.get? a=some (cF "list" vs.toArray n)) (hv:∀ v∈vs,IsTx v) (h128:vs.length < 64)
  (h:∀ out:Array δ,wz strO strV vs out.toList->P (.done (.ret .none)) { s with heap:=gQ s.heap a vs out }):ψ (Ι prog w) A (Κ.«list.sort» ⟨[.ref a],[]⟩) P E s:=by
 refine V6 (O:=strO) (kz:=strV) (kd:=oneType') ho h128 (fun h' h2 kp=>⟨fun Q q=>U0 (s:={ s with heap:=h' }) h2 hv q,zca fun x hx=>?_⟩) h
 obtain ⟨v,hm,rfl⟩:=hx
 exact hv v hm
theorem zan {vs:List δ}{Q:δ->μ->Prop}(hv:∀ v∈vs,IsTx v) (h128:vs.length < 64)
  (h:∀ out:Array δ,wz strO strV vs out.toList->Q (.ref s.heap.objs.size) { s with heap:=gQ (s.heap.push (cF "list" vs.toArray 0)) s.heap.objs.size vs out }):
  ψ (Ι prog w) A (do
   let l <- newList vs
   let _ <- holding [l] (call (.builtin "list.sort") [l])
   ret l) (fun f s'=>∃ v,f=.done (.ret v)/\Q v s') E s:=by
 have hsl:vs.length<=sizeLine:=by rw [aF];omega
 refine γ (wpAny_newList ?_ (by simpa using hsl))
 have e2:(s.heap.push (cF "list" vs.toArray 0)).get? s.heap.objs.size=some (cF "list" vs.toArray 0):=υ _ rfl
 refine γ (aq (ϓ slot_list_sort ⟨_,e2,rfl⟩ entry_list_sort (V5 (s:={ s with heap:=s.heap.push (cF "list" vs.toArray 0) }) e2 hv h128 fun out k=>⟨_,rfl,ζ ⟨_,rfl,h out k⟩⟩) (args_list_sort _)))
theorem YC {a:Addr}{es:Array (Int×δ)}{ep:Nat}{tb:Ϙ}{Q:δ->μ->Prop}(hh:A.handled=none) (st:St w s.heap a (ledW w) es ep tb) (h128:es.size < 64)
  (h:∀ (vs:List δ) (out:Array δ) (h':Heap) (tk:Nat) (d:Drawn),vs.Perm (es.toList.map (·.2))->wz strO strV vs out.toList->s.heap.objs.size<=h'.objs.size->(∀ b o,s.heap.get? b=some o->h'.get? b=some o) ->
   Q (.ref h'.objs.size) { s with heap:=gQ (h'.push (cF "list" vs.toArray 0)) h'.objs.size vs out,toks:=tk,drawn:=d }):
  ψ (Ι prog w) A (call (.builtin "sorted") [.ref a]) Q E s:=by
 refine Calls.call_function_entry kind_sorted plain_sorted entry_sorted (args_sorted1 _) ?_
 unfold Κ.«sorted»
 refine γ (m:=checkCount "sorted" 1 1 _) (ζ (γ (Zn (by simpa using hh) st (by omega) fun ord h' tk d pm hg hk=>?_)))
 refine zan (s:={ s with heap:=h',toks:=tk,drawn:=d }) (fun v hv=>?_) (by rw [Ν,pm.length_eq,Φ];exact h128) fun out k=>h _ out h' tk d (pm.map _) k hg hk
 obtain ⟨e,he,rfl⟩:=ϭ.mp hv
 obtain ⟨x,t,rfl⟩:=st.tx e (pm.mem_iff.mp he)
 exact ⟨x,t,rfl⟩
end
open PySem PyProof.Rows PySem.W
section
variable {prog:Μ}{w:ϒ}
def Raw (h:Heap) (d:Addr) (es:Array cg) (ep:Nat):Prop:=∃ o,h.get? d=some o/\o.ExactDict/\o.data=.dict es ep
theorem UJ {it d:Addr}{i ep:Nat}{es:Array cg}{Q:Option δ->μ->Prop}(hit:s.heap.IsKeyIter it d i es.size ep) (hm:Raw s.heap d es ep) (hi:i < es.size)
  (hQ:∀ h',h'.IsKeyIter it d (i+1) es.size ep->ό it s.heap h'->Q (some es[i].key) { s with heap:=h' }):ψ (Ι prog w) A (dU (.ref it)) Q E s:=by
 obtain ⟨o,ho,hc,hd⟩:=id hit
 obtain ⟨od,hod,hcd,hdd⟩:=hm
 unfold dU
 refine γ (cP (ϗ (name:=b7 "__next__") hit.typeIs F.slot_dict_keyiterator_next
  (ϓ F.slot_dict_keyiterator_next hit.typeIs F.entry_dict_keyiterator_next ?_ (F.args_dict_keyiterator_next_1 _))))
 refine γ (ζ (γ (γ (γ (cC hit.typeIs (ζ (γ (bZ ho hd ?_))))))))
 simp only [show di "dict_keyiterator"=false from by decide,ak,if_false]
 show ψ _ _ (if (Α d==Β)=true then _ else _) _ _ s
 rw [if_neg (show ¬ ((Α d==Β)=true) from Τ)]
 refine γ (ζ (γ (dR hod hdd ?_)))
 rw [if_neg (by simp)]
 refine γ (ζ (γ (fj hod hdd ?_)))
 rw [if_neg (by simp)]
 refine ζ ?_
 simp only [show ¬ ((i:Int) < 0) from by lia,if_false,bR,ϟ hi]
 refine γ (γ (cC hit.typeIs (ζ (γ (wpAny_isOneOf_keyiter hit.typeIs ?_)))))
 show ψ _ _ (setField (.ref it) 1 (Ϯ ((i:Int)+1)) >>= _) _ _ s
 refine γ (Ϟ ho hd (by simp) ?_)
 have hit':(s.heap.update it (ϲ (·.setIfInBounds 1 (Ϯ ((i:Int)+1))))).IsKeyIter it d (i+1) es.size ep:=
  ⟨_,ϫ _ ho (cH (aX hd _)),(lE ..).trans hc,by rw [aX hd];simp [Ϯ]⟩
 refine γ (aq (γ (wpAny_isOneOf_keyiter (s:={ s with heap:=s.heap.update it (ϲ (·.setIfInBounds 1 (Ϯ ((i:Int)+1)))) }) hit'.typeIs ?_)))
 show ψ _ _ (pure es[i].key) _ _ _
 exact ζ (ζ ⟨_,rfl,ζ (hQ _ hit' (aA ..))⟩)
theorem zat {it d:Addr}{ep:Nat}{es:Array cg}{Q:Option δ->μ->Prop}(hh:A.handled=none) (hit:s.heap.IsKeyIter it d es.size es.size ep) (hm:Raw s.heap d es ep)
  (hQ:∀ h',lY it s.heap h'->Q none { s with heap:=h' }):ψ (Ι prog w) A (dU (.ref it)) Q E s:=by
 obtain ⟨o,ho,hc,hd⟩:=id hit
 obtain ⟨od,hod,hcd,hdd⟩:=hm
 unfold dU
 refine γ (cP (ϗ (name:=b7 "__next__") hit.typeIs F.slot_dict_keyiterator_next
  (ϓ F.slot_dict_keyiterator_next hit.typeIs F.entry_dict_keyiterator_next ?_ (F.args_dict_keyiterator_next_1 _))))
 refine γ (ζ (γ (γ (γ (cC hit.typeIs (ζ (γ (bZ ho hd ?_))))))))
 simp only [show di "dict_keyiterator"=false from by decide,ak,if_false]
 show ψ _ _ (if (Α d==Β)=true then _ else _) _ _ s
 rw [if_neg (show ¬ ((Α d==Β)=true) from Τ)]
 refine γ (ζ (γ (dR hod hdd ?_)))
 rw [if_neg (by simp)]
 refine γ (ζ (γ (fj hod hdd ?_)))
 rw [if_neg (by simp)]
 refine ζ ?_
 simp only [show ¬ ((es.size:Int) < 0) from by lia,if_false,bR,fZ (ς es.size)]
 refine γ (γ (cC hit.typeIs (ζ ?_)))
 show ψ _ _ (setField (.ref it) 0 .none >>= _) _ _ s
 refine γ (Ϟ ho hd (by simp) ?_)
 show ψ _ _ (newExc (.type "StopIteration") [] >>= _) _ _ _
 refine γ ?_
 simp only [newExc,newTuple]
 refine γ (Ω ?_ (by size_fits))
 refine γ (m:=dW _ _) (aQ (a:=Β) (by first | rfl | (simp only [dW];rfl)) ?_)
 refine Ω ?_ (by size_fits)
 simp only [raiseNew]
 refine γ (lJ ?_)
 rw [show A.in1.handled=none from hh]
 refine γ (ζ (m7 ?_))
 refine γ (dj (T:="StopIteration") (b:=true) ⟨_,υ _ rfl,rfl⟩ iK ?_)
 exact ζ (hQ _ (((aA ..).extBut.push _).push _))
theorem Raw.typeIs {d:Addr}{ep:Nat}{es:Array cg}(hm:Raw s.heap d es ep):s.TypeIs (.ref d) "dict":=let ⟨o,ho,hc,_⟩:=hm;⟨o,ho,hc.1⟩
theorem Raw.keep {h h':Heap}{d:Addr}{ep:Nat}{es:Array cg}(hm:Raw h d es ep) (k:∀ o,h.get? d=some o->h'.get? d=some o):Raw h' d es ep:=let ⟨o,ho,r⟩:=hm;⟨o,k o ho,r⟩
theorem U4 {d:Addr}{es:Array cg}{ep:Nat}{Q:δ->μ->Prop}(hd:(d==eG)=false) (hm:Raw s.heap d es ep)
  (hQ:Q (.ref s.heap.objs.size) { s with heap:=s.heap.push { cls:=.type "dict_keyiterator",data:=.fields #[.ref d,.int 0 0,.int es.size 0,.int ep 0] } }):ψ (Ι prog w) A (iI (.ref d)) Q E s:=by
 have hT:s.TypeIs (.ref d) "dict":=hm.typeIs
 obtain ⟨o,ho,hc,hdat⟩:=hm
 refine f9 hT F.slot_dict_iter (ϓ F.slot_dict_iter hT F.entry_dict_iter ?_ (F.args_dict_iter_1 _))
 unfold Κ.«dict.__iter__»
 refine γ ?_
 unfold Κ.Dict.dictSlotNone
 refine γ (wpAny_notOrdered_dict hT ?_)
 show ψ _ _ (pure (Α d)) _ _ s
 refine ζ ?_
 show ψ _ _ (lZ d >>= _) _ _ s
 unfold lZ
 rw [if_neg (by rw [hd];exact Τ)]
 refine γ (ζ (γ (dR ho hdat (γ (fj ho hdat ?_)))))
 refine γ (Ω (ζ ⟨_,rfl,"dict_keyiterator",_,⟨_,υ _ rfl,rfl⟩,F.slot_dict_keyiterator_next.lookup,?_⟩))
 simpa [Ϯ] using hQ
end
end TS
namespace EV
open PySem L2
theorem non (h:false=true):false=true:=h
theorem nobE {p:Prop}(h:false=true):p:=nomatch h
noncomputable def LIM:Nat:=1000000
noncomputable def fits (n:Nat):Bool:=n<=LIM
noncomputable def zJ (i:Int):Bool:=decide (-(2 ^ 64) < i)&&decide (i < 2 ^ 64)
noncomputable def addD:D->D->Option (D×Bool)
 | .int i,.int j=>some (.int (i+j),false)
 | .str x,.str y=>if fits (x.length+y.length) then some (.str (x++y),false) else none
 | .tup a,.tup b=>if fits (a.length+b.length) then some (.tup (a++b),false) else none
 | .lst a,.lst b=>if fits (a.length+b.length) then some (.lst (a++b),true) else none
 | _,_=>none
noncomputable def mulD:D->D->Option (D×Bool)
 | .int i,.int j=>if zJ i||zJ j then some (.int (i*j),false) else none
 | .lst l,.int n=>if decide (0<=n)&&decide (n < 2 ^ 20)&&fits (l.length*n.toNat) then some (.lst (Ξ n.toNat l).flatten,true) else none
 | _,_=>none
noncomputable def num2 (f:Int->Int->Option Int):D->D->Option (D×Bool)
 | .int i,.int j=>(f i j).map fun k=>(.int k,false)
 | _,_=>none
noncomputable def opD (op:mJ) (a b:D):Option (D×Bool):=match op with
 | .Add=>addD a b
 | .Sub=>num2 (fun i j=>some (i - j)) a b
 | .Mult=>mulD a b
 | .FloorDiv=>num2 (fun i j=>if decide (0 < j)&&decide (j < 2 ^ 64) then some (i / j) else none) a b
 | .Mod=>num2 (fun i j=>if decide (0 < j) then some (i % j) else none) a b
 | .Pow=>num2 (fun i j=>if decide (0<=j)&&decide (j<=1000000)&&zJ i then some (i ^ j.toNat) else none) a b
 | _=>none
mutual
noncomputable def eqP:D->D->Bool
 | .non,.non=>true
 | .bl a,.bl b=>a==b
 | .bl a,.int j=>(if a then 1 else 0)==j
 | .int i,.bl b=>i==(if b then 1 else 0)
 | .int a,.int b=>a==b
 | .str a,.str b=>a==b
 | .tup a,.tup b=>eqPs a b
 | .lst a,.lst b=>eqPs a b
 | _,_=>false
noncomputable def eqPs:List D->List D->Bool
 | [],[]=>true
 | a::as,b::bs=>eqP a b&&eqPs as bs
 | _,_=>false
end
mutual
noncomputable def okP:Nat->D->Bool
 | _,.non=>true
 | _,.bl _=>true
 | _,.int _=>true
 | _,.str _=>true
 | 0,.tup _=>false
 | n+1,.tup a=>okPs n a
 | 0,.lst _=>false
 | n+1,.lst a=>okPs n a
 | _,_=>false
noncomputable def okPs:Nat->List D->Bool
 | _,[]=>true
 | n,a::as=>okP n a&&okPs n as
end
noncomputable def eqD (a b:D):Option Bool:=if okP 60 a&&okP 60 b then some (eqP a b) else none
noncomputable def keyD:D->Option Key
 | .int i=>some (.inl i)
 | .str x=>some (.inr x)
 | _=>none
noncomputable def keysD:List D->Option (List Key)
 | []=>some []
 | d::ds=>match keyD d,keysD ds with
  | some k,some ks=>some (k::ks)
  | _,_=>none
noncomputable def findK {κ:Type} [DecidableEq κ]:List κ->κ->Option Nat
 | [],_=>none
 | k::ks,x=>if k=x then some 0 else (findK ks x).map (·+1)
noncomputable def lookK {κ:Type} [DecidableEq κ] (ks:List κ) (ds:List D) (k:κ):Option D:=(findK ks k).bind fun i=>ds[i]?
noncomputable def mapK {κ α:Type} [DecidableEq κ]:List κ->List α->κ->α->List α
 | k::ks,d::ds,x,y=>(if k=x then y else d)::mapK ks ds x y
 | _,ds,_,_=>ds
noncomputable def hasK {κ:Type} [DecidableEq κ] (ks:List κ) (k:κ):Bool:=ks.any fun x=>decide (x=k)
noncomputable def putKs {κ α:Type} [DecidableEq κ] (ks:List κ) (ds:List α) (k:κ) (d:α):List κ×List α:=
 if hasK ks k=true then (ks,mapK ks ds k d) else (ks++[k],ds++[d])
noncomputable def isNone:D->Bool
 | .non=>true
 | _=>false
noncomputable def dgetD:D->D->Option (Option D)
 | .dK ks ds,k=>(keyD k).map (lookK ks ds)
 | .dT ks ds,.tup t=>(keysD t).map (lookK ks ds)
 | .dF ks ds,.tup t=>(keysD t).map (lookK ks ds)
 | _,_=>none
noncomputable def isSc:D->Bool
 | .lst _=>false
 | d=>okP 59 d
noncomputable def memD (l:List D) (d:D):Option Bool:=if isSc d&&l.all isSc then some (l.any fun y=>eqP y d) else none
noncomputable def deref (S:Store):D->D
 | .ref k=>(S[k]?).getD .non
 | d=>d
noncomputable def int2 (f:Int->Int->Bool):D->D->Option Bool
 | .int i,.int j=>some (f i j)
 | _,_=>none
noncomputable def isD (a:D):D->Option Bool
  | .non=>some (isNone a)
  | .bl b=>(match a with
    | .bl a=>some (a==b)
    | _=>none)
  | _=>none
noncomputable def inD (a:D):D->Option Bool
  | .lst l=>memD l a
  | .tup l=>memD l a
  | .ktp l=>memD l a
  | .str y=>(match a with
    | .str x=>some (!(eX y x 0 y.length 1).isEmpty)
    | _=>none)
  | .dK ks ds=>(dgetD (.dK ks ds) a).map (·.isSome)
  | .dT ks ds=>(dgetD (.dT ks ds) a).map (·.isSome)
  | .dF ks ds=>(dgetD (.dF ks ds) a).map (·.isSome)
  | _=>none
noncomputable def intsD:List D->Option (List Int)
 | []=>some []
 | .int i::r=>(intsD r).map (i::·)
 | _::_=>none
noncomputable def neD:D->D->Option Bool
 | .dK ks vs,.dK ks' vs'=>if decide (ks=ks')&&decide ks.Nodup&&decide (intsD vs=intsD vs')&&(intsD vs).isSome then some false else none
 | a,b=>(eqD a b).map (!·)
noncomputable def cmpD (op:gj) (a b:D):Option Bool:=match op with
 | .Eq=>eqD a b
 | .NotEq=>neD a b
 | .Lt=>int2 (fun i j=>decide (i < j)) a b
 | .LtE=>int2 (fun i j=>decide (i<=j)) a b
 | .Gt=>int2 (fun i j=>decide (j < i)) a b
 | .GtE=>int2 (fun i j=>decide (j<=i)) a b
 | .Is=>isD a b
 | .IsNot=>(isD a b).map (!·)
 | .In=>inD a b
 | .NotIn=>(inD a b).map (!·)
noncomputable abbrev idx (n:Nat) (i:Int):Option Nat:=ixN n i
noncomputable def subD:D->D->Option D
 | .tup l,.int i=>(idx l.length i).bind fun k=>l[k]?
 | .lst l,.int i=>(idx l.length i).bind fun k=>l[k]?
 | .scr l,.int i=>(idx l.length i).bind fun k=>(l[k]?).map D.int
 | .str x,.int i=>if fits x.length then (idx x.cps.toList.length i).bind fun k=>(x.cps.toList[k]?).map fun c=>.str ⟨#[c]⟩ else none
 | .dK ks ds,k=>(dgetD (.dK ks ds) k).bind id
 | .dT ks ds,k=>(dgetD (.dT ks ds) k).bind id
 | .dF ks ds,k=>(dgetD (.dF ks ds) k).bind id
 | _,_=>none
noncomputable def cutD (l:List D) (lo hi:Option Int):List D:=(l.drop (HT.sIx l.length 0 lo)).take (HT.sIx l.length l.length hi - HT.sIx l.length 0 lo)
noncomputable def slcD (d:D) (lo hi:Option Int):Option (D×Bool):=
 match d with
 | .tup l=>some (.tup (cutD l lo hi),false)
 | .lst l=>some (.lst (cutD l lo hi),true)
 | .scr l=>some (.lst (cutD (l.map D.int) lo hi),true)
 | .str x=>if fits x.length then some (.str (iQ x lo hi),false) else none
 | _=>none
noncomputable def dk1D:List D->Option D
 | [.tup t,v]=>(keysD t).map fun k=>.dT [k] [v]
 | _=>none
noncomputable def flipD:D->Option (D×Bool)
 | .lst l=>some (.lst l.reverse,true)
 | .tup l=>some (.tup l.reverse,false)
 | _=>none
noncomputable def Vv:List D->Option (List Bool)
 | []=>some []
 | .bl b::r=>(Vv r).map (b::·)
 | _::_=>none
noncomputable def isTy:Ty->D->Option Bool
 | t,.int _=>some (t==.int)
 | t,.bl _=>some (t==.bool||t==.int)
 | t,.str _=>some (t==.str)
 | t,.tup _=>some (t==.tuple)
 | t,.lst _=>some (t==.list)
 | t,.dK _ _=>some (t==.dict)
 | t,.non=>some false
 | _,_=>none
noncomputable def seqD:D->Option (List D)
 | .tup l=>some l
 | .lst l=>some l
 | .scr l=>some (l.map D.int)
 | .ktp l=>some l
 | _=>none
noncomputable def itrD:D->Option (List D)
 | .str x=>some (x.cps.toList.map fun c=>.str ⟨#[c]⟩)
 | d=>seqD d
noncomputable def lenD:D->Option (D×Bool)
 | .tup l=>some (.int l.length,false)
 | .lst l=>some (.int l.length,false)
 | .scr l=>some (.int l.length,false)
 | .str x=>if fits x.length then some (.int x.length,false) else none
 | .dK ks _=>some (.int ks.length,false)
 | _=>none
noncomputable def absD:D->Option (D×Bool)
 | .int i=>some (.int (if i < 0 then -i else i),false)
 | _=>none
noncomputable def intOf:D->Option (D×Bool)
 | .bl b=>some (.int (if b then 1 else 0),false)
 | .int i=>some (.int i,false)
 | _=>none
noncomputable def lotD:D->Option (List D)
 | .lst l=>some l
 | .tup l=>some l
 | _=>none
noncomputable def onL (f:List D->Option D):D->Option (D×Bool)
 | .lst l=>(f l).map fun d=>(d,false)
 | _=>none
mutual
noncomputable def pyD:Nat->D->Option PyData
 | _,.int i=>if decide (i.natAbs.log2 < 1920) then some (.int i) else none
 | _,.str x=>some (.str x)
 | n+1,.tup l=>(pyDs n l).map .tuple
 | _,_=>none
noncomputable def pyDs:Nat->List D->Option (List PyData)
 | _,[]=>some []
 | n,d::l=>(pyD n d).bind fun a=>(pyDs n l).map (a::·)
end
noncomputable def reprD (d:D):Option (D×Bool):=(pyD 40 d).bind fun p=>if fits p.shown.length then some (.str p.shown,false) else none
noncomputable def lexL:List Int->List Int->Bool
 | [],[]=>false
 | [],_::_=>true
 | _::_,[]=>false
 | a::x,b::y=>if a=b then lexL x y else decide (a < b)
noncomputable def insL (k:List Int):List (List Int)->List (List Int)
 | []=>[k]
 | x::l=>if lexL x k then x::insL k l else k::x::l
noncomputable def sortL:List (List Int)->List (List Int)
 | []=>[]
 | k::l=>insL k (sortL l)
noncomputable def Ka:List D->Option (List (List Int))
 | []=>some []
 | .tup l::r=>(intsD l).bind fun k=>if k.isEmpty then none else (Ka r).map (k::·)
 | _::_=>none
noncomputable def tupI (k:List Int):D:=.tup (k.map D.int)
noncomputable def keyOf:Key->D
 | .inl i=>.int i
 | .inr x=>.str x
noncomputable def J1:List (List Key)->List D->List D
 | k::ks,d::ds=>.tup [.tup (k.map keyOf),d]::J1 ks ds
 | _,_=>[]
noncomputable def kInts:List Key->Option (List Int)
 | []=>some []
 | .inl i::r=>(kInts r).map (i::·)
 | _::_=>none
noncomputable def J0:List (List Key)->Option (List (List Int))
 | []=>some []
 | k::r=>(kInts k).bind fun n=>if n.isEmpty then none else (J0 r).map (n::·)
noncomputable def srtD:D->Option (D×Bool)
 | .dT ks _=>(J0 ks).bind fun ks=>if decide (ks.length < 64) then some (.lst ((sortL ks).map tupI),true) else none
 | .lst l=>(Ka l).bind fun ks=>if decide (ks.length < 64) then some (.lst ((sortL ks).map tupI),true) else none
 | _=>none
noncomputable def strL (x y:Str):Bool:=decide (x.cps.toList < y.cps.toList)
noncomputable def insS (k:Str):List Str->List Str
 | []=>[k]
 | x::l=>if strL x k then x::insS k l else k::x::l
noncomputable def sortS:List Str->List Str
 | []=>[]
 | k::l=>insS k (sortS l)
noncomputable def onesS (ks:List Str):List Str:=ks.foldl (fun l x=>if x∈l then l else l++[x]) []
noncomputable def copD:D->Option (D×Bool)
 | .dK ks vs=>some (.dK ks vs,true)
 | _=>none
noncomputable def strsD:List D->Option (List Str)
 | []=>some []
 | .str x::r=>(strsD r).map (x::·)
 | _::_=>none
noncomputable def ssetD (d:D):Option (D×Bool):=((lotD d).bind strsD).bind fun ks=>if (decide (ks.length < 4095)&&decide ((onesS ks).length < 64))=true then some (.lst ((sortS (onesS ks)).map D.str),true) else none
noncomputable def lsetD (d:D):Option (D×Bool):=((lotD d).bind strsD).bind fun ks=>if decide (ks.length < 4095)=true then some (.int (onesS ks).length,false) else none
noncomputable def trevD:D->Option (D×Bool)
 | .lst l=>some (.tup l.reverse,false)
 | _=>none
noncomputable def srtX:D->Option (D×Bool)
 | .lst (.str x::l)=>(strsD l).bind fun ks=>if decide (ks.length < 63)=true then some (.lst ((sortS (x::ks)).map D.str),true) else none
 | d=>srtD d
noncomputable def strD:D->Option (D×Bool)
 | .int i=>if decide (i.natAbs.log2 < 1920) then some (.str (toString i),false) else none
 | .str x=>some (.str x,false)
 | _=>none
noncomputable def joinD (x:Str) (d:D):Option (D×Bool):=((lotD d).bind strsD).bind fun ys=>if fits ((ys.map (·.length)).sum+ys.length*x.length) then some (.str (PySem.Txt.join x ys),false) else none
noncomputable def zba (x:Str):D->Option (D×Bool)
 | .str y=>if (!(y.length==0)&&fits x.length&&fits (PySem.Txt.split x y).length)=true then some (.lst ((PySem.Txt.split x y).map D.str),true) else none
 | _=>none
noncomputable def bi2:BI->D->D->Option (D×Bool)
 | .min2,d,e=>num2 (fun i j=>some (if j < i then j else i)) d e
 | .max2,d,e=>num2 (fun i j=>some (if j > i then j else i)) d e
 | _,_,_=>none
noncomputable def biD (b:BI) (ds:List D):Option (D×Bool):=match ds with
  | [d]=>(match b with
    | .len=>lenD d
    | .abs=>absD d
    | .int=>intOf d
    | .tuple=>(lotD d).map fun l=>(.tup l,false)
    | .list=>(lotD d).map fun l=>(.lst l,true)
    | .isinst t=>(isTy t d).map fun b=>(.bl b,false)
    | .sset=>ssetD d
    | .trev=>trevD d
    | _=>none)
  | [d,e]=>bi2 b d e
  | _=>none
noncomputable def idxD:List D->D->Option Nat
 | [],_=>none
 | d::ds,x=>if eqP d x=true then some 0 else (idxD ds x).map (·+1)
noncomputable def mthK:MT->D->Bool
 | .index,.lst _=>true
 | .get1,.dK _ _=>true
 | .get1,.dT _ _=>true
 | .get2,.dK _ _=>true
 | .get2,.dT _ _=>true
 | .get2,.kdc _=>true
 | .join,.str _=>true
 | .split,.str _=>true
 | _,_=>false
noncomputable def kgetD (ps:List (Str×Int)):D->D->Option (D×Bool)
 | .str k,x=>some (((PyProof.Rows.KTD.datumAt k ps).map D.int).getD x,false)
 | _,_=>none
noncomputable def mthD:MT->D->List D->Option (D×Bool)
 | .index,.lst l,[x]=>if okPs 59 l&&okP 59 x then (idxD l x).map fun (i:Nat)=>(.int (i:Int),false) else none
 | .get1,d,[k]=>(dgetD d k).map fun o=>(o.getD .non,false)
 | .get2,.kdc ps,[k,x]=>kgetD ps k x
 | .get2,d,[k,x]=>(dgetD d k).map fun o=>(o.getD x,false)
 | .join,.str x,[d]=>joinD x d
 | .split,.str x,[d]=>zba x d
 | _,_,_=>none
noncomputable def nT:T->Nat
 | .one _=>1
 | .nst _ is=>1+is.length
 | .tup is=>is.length
noncomputable def enumD:Nat->List D->List D
 | _,[]=>[]
 | n,d::ds=>.tup [.int n,d]::enumD (n+1) ds
noncomputable def enumS:D->Option (List D)
 | .tup l=>some l
 | .lst l=>some l
 | _=>none
noncomputable def zZ (lo hi:Int):List D:=(ϵ (hi - lo).toNat).map fun (k:Nat)=>.int (lo+(k:Int))
noncomputable def dwnD:List D->Option (List D)
 | [.int i,.int j,.int k]=>if (decide (k=-1)&&decide (-1000000<=i)&&decide (i<=1000000)&&decide (-1000000<=j)&&decide (j<=1000000))=true then some (zZ (j+1) (i+1)).reverse else none
 | _=>none
noncomputable def dicOk (tk:Bool) (ks:List Key) (ds:List D):Bool:=decide (ks.length=ds.length)&&decide ks.Nodup&&decide (ks.length<=15)&&(!tk||ks.isEmpty)
inductive Slot where
 | no | sh (d:D) | ow (d:D)
 deriving Inhabited
inductive O where
 | next (ρ:List Slot) | ret (d:D) (fr:Bool) | brk (ρ:List Slot) | cnt (ρ:List Slot)
noncomputable def nst2:D->Option (D×List D)
  | .tup l=>(match l with
    | x::r=>(match r with
      | y::z=>(match z with
        | []=>(match y with
          | .tup ds=>some (x,ds)
          | _=>none)
        | _=>none)
      | _=>none)
    | _=>none)
  | _=>none
theorem Q0 {d:D}{p:D×List D}(h:nst2 d=some p):d=.tup [p.1,.tup p.2]:=by
 cases d with
 | tup l=>
  cases l with
  | nil=>cases h
  | cons x r=>
   cases r with
   | nil=>cases h
   | cons y z=>
    cases z with
    | cons _ _=>cases h
    | nil=>
     cases y with
     | tup ds=>cases h;rfl
     | _=>cases h
 | _=>cases h
noncomputable def bindT (ρ:List Slot):T->D×Bool->Option (List Slot)
 | .one i,(d,fr)=>if i < ρ.length&&!isIns d then some (ρ.set i (if fr=true then .ow d else .sh d)) else none
 | .tup is,(.tup ds,_)=>if is.length=ds.length/\is.Nodup/\is.all (· < ρ.length) then some ((is.zip ds).foldl (fun r p=>r.set p.1 (.sh p.2)) ρ) else none
 | .nst i is,(d,_)=>(nst2 d).bind fun p=>if i < ρ.length/\is.length=p.2.length/\is.Nodup/\is.all (· < ρ.length) then some ((is.zip p.2).foldl (fun r p=>r.set p.1 (.sh p.2)) (ρ.set i (.sh p.1))) else none
 | _,_=>none
noncomputable def putD:D->D->D->Option D
 | .lst l,.int i,d=>(idx l.length i).map fun k=>.lst (l.set k d)
 | .dK ks ds,k,d=>(keyD k).bind fun k=>if fits (ks.length+1) then some (let p:=putKs ks ds k d;.dK p.1 p.2) else none
 | .dT ks ds,.tup t,d=>(keysD t).bind fun k=>if fits (ks.length+1) then some (let p:=putKs ks ds k d;.dT p.1 p.2) else none
 | _,_,_=>none
noncomputable def isLst:Option D->Bool
 | some (.lst _)=>true
 | _=>false
noncomputable def extD:D->Option (List D)
 | .lst l=>some l
 | .tup l=>some l
 | _=>none
noncomputable def entry (fn:Fn) (ds:List D):List Slot:=ds.map Slot.sh++Ξ (fn.nv - ds.length) Slot.no
inductive Kd where
 | st | fr | bo
noncomputable abbrev Vl:=D×Kd
abbrev Po:=Vl->Store->Prop
abbrev Cf:=Nat->List D->Po->Store->Prop
noncomputable def kd:Bool->Kd
 | true=>.fr
 | false=>.st
noncomputable def ofB (p:D×Bool):Vl:=(p.1,kd p.2)
def opt {α:Type}:Option α->(α->Prop)->Prop
 | some a,Q=>Q a
 | none,_=>False
def opV (o:Option (D×Bool)) (Q:Vl->Prop):Prop:=opt o fun p=>Q (ofB p)
def optS:Option (List Slot)->(List Slot->Prop)->Prop:=opt
def tst:Bool->Prop->Prop->Prop
 | true,T,_=>T
 | false,_,F=>F
def isB:D->(Bool->Prop)->Prop
 | .bl b,Q=>Q b
 | _,_=>False
def isF:D->(Nat->Prop)->Prop
 | .fn f,Q=>Q f
 | _,_=>False
def isZ:D->(Int->Prop)->Prop
 | .int i,Q=>Q i
 | _,_=>False
def keep:Vl->(D->Prop)->Prop
 | (d,.st),Q=>Q d
 | (d,.fr),Q=>Q d
 | _,_=>False
def sel:Option Slot->(D->Prop)->(D->Prop)->Prop
 | some (.sh d),Q,_=>Q d
 | some (.ow d),_,Q=>Q d
 | _,_,_=>False
def rdV (s:Option Slot) (Q:Vl->Prop):Prop:=sel s (fun d=>Q (d,.st)) (fun d=>Q (d,.bo))
def boxd:Vl->(D->Prop)->Prop
 | (d,.fr),Q=>Q d
 | _,_=>False
def walkW (step:D->(Option D->Store->Prop)->Store->Prop):List D->List D->(List D->Store->Prop)->Store->Prop
 | [],acc,V,S=>V acc S
 | d::ds,acc,V,S=>step d (fun o S1=>match o with
  | some x=>tst (fits (acc.length+1)) (walkW step ds (acc++[x]) V S1) False
  | none=>walkW step ds acc V S1) S
noncomputable def inn (ρ:List Slot) (t:T) (js:List Nat):List Slot:=Ξ (nT t) .no++js.map fun j=>(ρ[j]?).getD .no
noncomputable def dicV (tk:Bool) (ks:List Key) (ds:List D):D:=if tk=true then .dT [] [] else .dK ks ds
def isR:D->(Nat->Prop)->Prop
 | .ref n,Q=>Q n
 | _,_=>False
def isDT:Option D->(List (List Key)->List D->Prop)->Prop
 | some (.dT ks ds),Q=>Q ks ds
 | _,_=>False
def isDF:D->(List (List Key)->Prop)->Prop
 | .dF ks _,Q=>Q ks
 | _,_=>False
theorem WN {d:D}{Q:List (List Key)->Prop}(h:isDF d Q):∃ ks ds,d=.dF ks ds/\Q ks:=by
 cases d with
 | dF ks ds=>exact ⟨ks,ds,rfl,h⟩
 | _=>exact h.elim
def owT:Option Slot->(List (List Key)->List D->Prop)->Prop
 | some (.ow (.dT ks ds)),Q=>Q ks ds
 | _,_=>False
theorem JQ {s:Option Slot}{Q:List (List Key)->List D->Prop}(h:owT s Q):∃ ks ds,s=some (.ow (.dT ks ds))/\Q ks ds:=by
 unfold owT at h
 split at h
 ·exact ⟨_,_,rfl,h⟩
 ·exact h.elim
theorem zai {s:Option D}{Q:List (List Key)->List D->Prop}(h:isDT s Q):∃ ks ds,s=some (.dT ks ds)/\Q ks ds:=by
 cases s with
 | none=>exact h.elim
 | some s=>
  cases s with
  | dT ks ds=>exact ⟨ks,ds,rfl,h⟩
  | _=>exact h.elim
theorem zco {s:Option D}{ks:List (List Key)}{ds:List D}{Q:List (List Key)->List D->Prop}(h:s=some (.dT ks ds)) (q:Q ks ds):isDT s Q:=by subst h;exact q
mutual
def wpE (cf:Cf) (ρ:List Slot):E->Po->Store->Prop
 | .var i,V,S=>rdV ρ[i]? fun x=>V x S
 | .con d,V,S=>V (d,.st) S
 | .glo _ d,V,S=>V (d,.st) S
 | .bin op a b,V,S=>wpE cf ρ a (fun x S1=>wpE cf ρ b (fun y S2=>opV (opD op (deref S2 x.1) (deref S2 y.1)) fun x=>V x S2) S1) S
 | .neg a,V,S=>wpE cf ρ a (fun x S1=>isZ x.1 fun i=>V (.int (-i),.st) S1) S
 | .cmp op a b,V,S=>wpE cf ρ a (fun x S1=>wpE cf ρ b (fun y S2=>opt (cmpD op (deref S2 x.1) (deref S2 y.1)) fun r=>V (.bl r,.st) S2) S1) S
 | .chn o1 o2 a b c,V,S=>wpE cf ρ a (fun x S1=>wpE cf ρ b (fun y S2=>opt (cmpD o1 (deref S2 x.1) (deref S2 y.1)) fun r=>tst r (wpE cf ρ c (fun z S3=>opt (cmpD o2 (deref S3 y.1) (deref S3 z.1)) fun r=>V (.bl r,.st) S3) S2) (V (.bl false,.st) S2)) S1) S
 | .not a,V,S=>wpE cf ρ a (fun x S1=>isB x.1 fun b=>V (.bl (!b),.st) S1) S
 | .and a b,V,S=>wpE cf ρ a (fun x S1=>isB x.1 fun r=>tst r (wpE cf ρ b V S1) (V (.bl false,.st) S1)) S
 | .or a b,V,S=>wpE cf ρ a (fun x S1=>isB x.1 fun r=>tst r (V (.bl true,.st) S1) (wpE cf ρ b V S1)) S
 | .ite c a b,V,S=>wpE cf ρ c (fun x S1=>isB x.1 fun r=>tst r (wpE cf ρ a V S1) (wpE cf ρ b V S1)) S
 | .tup es,V,S=>wpEs cf ρ es (fun ds S1=>tst (fits ds.length) (V (.tup ds,.st) S1) False) S
 | .lst es,V,S=>wpEs cf ρ es (fun ds S1=>tst (fits ds.length) (V (.lst ds,.fr) S1) False) S
 | .dic tk ks es,V,S=>wpEs cf ρ es (fun ds S1=>tst (dicOk tk ks ds) (V (dicV tk ks ds,.fr) S1) False) S
 | .sub a i,V,S=>wpE cf ρ a (fun x S1=>wpE cf ρ i (fun y S2=>opt (subD (deref S2 x.1) y.1) fun d=>V (d,.st) S2) S1) S
 | .slc a lo hi,V,S=>wpE cf ρ a (fun x S1=>wpO cf ρ lo (fun l S2=>wpO cf ρ hi (fun h S3=>opV (slcD (deref S3 x.1) l h) fun x=>V x S3) S2) S1) S
 | .bi b [e],V,S=>wpE cf ρ e (fun x S1=>opV (biD b [deref S1 x.1]) fun x=>V x S1) S
 | .bi b es,V,S=>wpEs cf ρ es (fun ds S1=>opV (biD b (ds.map (deref S1))) fun x=>V x S1) S
 | .mth m o es,V,S=>wpE cf ρ o (fun x S1=>tst (mthK m (deref S1 x.1)) (wpEs cf ρ es (fun ds S2=>opV (mthD m (deref S2 x.1) ds) fun x=>V x S2) S1) False) S
 | .call f es,V,S=>wpEs cf ρ es (fun ds S1=>cf f ds V S1) S
 | .callk f perm es,V,S=>wpEs cf ρ es (fun ds S1=>opt (perm.mapM fun i=>ds[i]?) fun ds=>cf f ds V S1) S
 | .comp t js it ifs elt,V,S=>wpI cf ρ it (fun its S1=>walkW (fun d K S=>optS (bindT (inn ρ t js) t (d,false)) fun ρ'=>wpF cf ρ' ifs (fun b S1=>tst b (wpE cf ρ' elt (fun x S2=>keep x fun d=>K (some d) S2) S1) (K none S1)) S) its [] (fun ds S2=>V (.lst ds,.fr) S2) S1) S
 | .box e,V,S=>wpE cf ρ e (fun x S1=>boxd x fun d=>V (.ref S1.length,.st) (S1++[d])) S
 | .callv i es,V,S=>rdV ρ[i]? fun x=>isF x.1 fun f=>wpEs cf ρ es (fun ds S1=>cf f ds V S1) S
 | .one e,V,S=>wpE cf ρ e V S
 | .dk1 a b,V,S=>wpE cf ρ a (fun x S1=>keep x fun d=>wpE cf ρ b (fun y S2=>keep y fun e=>opt (dk1D [d,e]) fun r=>V (r,.fr) S2) S1) S
 | .flip e,V,S=>wpE cf ρ e (fun x S1=>opV (flipD (deref S1 x.1)) fun x=>V x S1) S
 | _,_,_=>False
def wpEs (cf:Cf) (ρ:List Slot):List E->(List D->Store->Prop)->Store->Prop
 | [],W,S=>W [] S
 | e::es,W,S=>wpE cf ρ e (fun x S1=>keep x fun d=>wpEs cf ρ es (fun ds S2=>W (d::ds) S2) S1) S
def wpO (cf:Cf) (ρ:List Slot):Option E->(Option Int->Store->Prop)->Store->Prop
 | none,W,S=>W none S
 | some e,W,S=>wpE cf ρ e (fun x S1=>isZ x.1 fun i=>W (some i) S1) S
def wpF (cf:Cf) (ρ:List Slot):List E->(Bool->Store->Prop)->Store->Prop
 | [],W,S=>W true S
 | [e],W,S=>wpE cf ρ e (fun x S1=>isB x.1 fun b=>W b S1) S
 | _,_,_=>False
def wpI (cf:Cf) (ρ:List Slot):E->(List D->Store->Prop)->Store->Prop
 | .dwn es,W,S=>wpEs cf ρ es (fun ds S1=>opt (dwnD ds) fun l=>W l S1) S
 | .rev hi,W,S=>wpE cf ρ hi (fun x S1=>isZ x.1 fun h=>tst (fits h.toNat&&decide (-1000000<=h)) (W (zZ 0 h).reverse S1) False) S
 | .rng none hi,W,S=>wpE cf ρ hi (fun x S1=>isZ x.1 fun h=>tst (fits h.toNat&&decide (-1000000<=h)) (W (zZ 0 h) S1) False) S
 | .rng (some lo) hi,W,S=>wpE cf ρ lo (fun y S1=>wpE cf ρ hi (fun x S2=>isZ y.1 fun l=>isZ x.1 fun h=>tst (fits (h - l).toNat&&decide (-1000000<=h)&&decide (-1000000<=l)&&decide (h<=1000000)&&decide (l<=1000000)) (W (zZ l h) S2) False) S1) S
 | .enum e,W,S=>wpE cf ρ e (fun x S1=>keep x fun d=>opt (enumS d) fun l=>W (enumD 0 l) S1) S
 | .seq e,W,S=>wpE cf ρ e (fun x S1=>keep x fun d=>opt (itrD d) fun l=>W l S1) S
 | .keys e,W,S=>wpE cf ρ e (fun x S1=>keep x fun d=>isDF d fun ks=>W (ks.map fun k=>.tup (k.map keyOf)) S1) S
 | .items e,W,S=>wpE cf ρ e (fun x S1=>keep x fun r=>isR r fun k=>isDT S1[k]? fun ks ds=>W (J1 ks ds) (S1.set k (.ref k))) S
 | _,_,_=>False
end
def wpX (cf:Cf) (ρ:List Slot) (e:E) (V:Po) (S:Store):Prop:=wpE cf ρ e V S
noncomputable def bindV (ρ:List Slot) (t:T):Vl->Option (List Slot)
 | (d,.st)=>bindT ρ t (d,false)
 | (d,.fr)=>bindT ρ t (d,true)
 | _=>none
def retV:Vl->(O->Prop)->Prop
 | (d,.st),K=>K (.ret d false)
 | (d,.fr),K=>K (.ret d true)
 | _,_=>False
def owL:Option Slot->(List D->Prop)->Prop
 | some (.ow (.lst l)),Q=>Q l
 | _,_=>False
def owD:Option Slot->(D->Prop)->Prop
 | some (.ow d),Q=>Q d
 | _,_=>False
def frW:Option Slot->Store->(Nat->List D->Prop)->Prop
  | some (.sh (.ref k)),S,Q=>(match S[k]? with
    | some (.lst l)=>Q k l
    | _=>False)
  | _,_,_=>False
set_option tactic.hygienic true in
theorem Kf {s:Option Slot}{S:Store}{Q:Nat->List D->Prop}(h:frW s S Q):∃ k l,s=some (.sh (.ref k))/\S[k]?=some (.lst l)/\Q k l:=by
 unfold frW at h
 split at h
 ·split at h
  ·rename_i e;exact ⟨_,_,rfl,e,h⟩
  ·exact h.elim
 ·exact h.elim
theorem zcz {k:Nat}{l:List D}{S:Store}{Q:Nat->List D->Prop}(h:S[k]?=some (.lst l)) (q:Q k l):frW (some (.sh (.ref k))) S Q:=by
  show (match S[k]? with
    | some (.lst l)=>Q k l
    | _=>False)
  rw [h];exact q
def isL:Option D->(List D->Prop)->Prop
 | some (.lst l),Q=>Q l
 | _,_=>False
noncomputable def fz:Slot->Slot
 | .ow d=>.sh d
 | s=>s
abbrev Ko:=O->Store->Prop
def nxt (f:List Slot->Store->Prop) (K:Ko):Ko
 | .next ρ,S=>f ρ S
 | o,S=>K o S
def trn (K:Ko) (I:List Slot->Store->Prop):Ko
 | .next ρ,S=>I ρ S
 | .cnt ρ,S=>I ρ S
 | .brk ρ,S=>K (.next ρ) S
 | .ret d fr,S=>K (.ret d fr) S
def forW (t:T) (b:List Slot->Ko->Store->Prop):List D->List Slot->Ko->Store->Prop
 | [],ρ,K,S=>K (.next ρ) S
 | d::l,ρ,K,S=>optS (bindT ρ t (d,false)) fun ρ1=>b ρ1 (trn K fun ρ' S'=>forW t b l ρ' K S') S
def whlW (c:List Slot->Po->Store->Prop) (b:List Slot->Ko->Store->Prop):Nat->List Slot->Ko->Store->Prop
 | 0,_,_,_=>False
 | n+1,ρ,K,S=>c ρ (fun x S1=>isB x.1 fun r=>tst r (b ρ (trn K fun ρ' S'=>whlW c b n ρ' K S') S1) (K (.next ρ) S1)) S
abbrev Xp:=Nat->Store->Prop
noncomputable def noX:Xp:=fun _ _=>False
noncomputable def subT (tb:List (List Nat)) (c k:Nat):Bool:=match tb[c]? with
 | some l=>l.contains k
 | none=>false
noncomputable def slB:Option Slot->Option Bool
 | some (.sh (.bl b))=>some b
 | _=>none
noncomputable def hbV (tb:List (List Nat)) (c:Nat) (va:Nat->Option Bool):HB->Option Bool
 | .is k=>some (subT tb c k)
 | .ve=>some true
 | .var j=>va j
 | .not a=>(hbV tb c va a).map (!·)
 | .and a b=>(hbV tb c va a).bind fun x=>if x=true then hbV tb c va b else some false
 | .or a b=>(hbV tb c va a).bind fun x=>if x=true then some true else hbV tb c va b
 | .one a=>hbV tb c va a
noncomputable def hsR (tb:List (List Nat)) (c:Nat):List (Nat×HB)->List Slot->Option (List Slot)
 | [],ρ=>some ρ
 | p::r,ρ=>(hbV tb c (fun j=>slB ρ[j]?) p.2).bind fun b=>if p.1 < ρ.length then hsR tb c r (ρ.set p.1 (.sh (.bl b))) else none
mutual
def wpC (cx:Xp->Cf) (ex:Xp) (w:Nat):C->List Slot->Ko->Store->Prop
 | .set t (.box e),ρ,K,S=>wpE (cx noX) ρ e (fun x S1=>boxd x fun d=>optS (bindT ρ t (.ref S1.length,false)) fun ρ2=>K (.next ρ2) (S1++[d])) S
 | .set t e,ρ,K,S=>wpE (cx noX) ρ e (fun x S1=>optS (bindV ρ t x) fun ρ2=>K (.next ρ2) S1) S
 | .expr e,ρ,K,S=>wpE (cx noX) ρ e (fun _ S1=>K (.next ρ) S1) S
 | .ret (.var i),ρ,K,S=>sel ρ[i]? (fun d=>K (.ret d false) S) (fun d=>K (.ret d true) S)
 | .ret e,ρ,K,S=>wpE (cx noX) ρ e (fun x S1=>retV x fun o=>K o S1) S
 | .retN,ρ,K,S=>K (.ret .non false) S
 | .ite e A B,ρ,K,S=>wpE (cx noX) ρ e (fun x S1=>isB x.1 fun b=>tst b (wpCs cx ex w A ρ K S1) (wpCs cx ex w B ρ K S1)) S
 | .whl e A,ρ,K,S=>whlW (fun ρ=>wpX (cx noX) ρ e) (fun ρ=>wpCs cx ex w A ρ) w ρ K S
 | .forr t it A,ρ,K,S=>wpI (cx noX) ρ it (fun l S1=>forW t (fun ρ=>wpCs cx ex w A ρ) l ρ K S1) S
 | .app i e,ρ,K,S=>owL ρ[i]? fun l=>wpE (cx noX) ρ e (fun x S1=>keep x fun d=>tst (fits (l.length+1)) (K (.next (ρ.set i (.ow (.lst (l++[d]))))) S1) False) S
 | .ext i e,ρ,K,S=>owL ρ[i]? fun l=>wpE (cx noX) ρ e (fun x S1=>keep x fun d=>opt (extD d) fun m=>tst (fits (l.length+m.length)) (K (.next (ρ.set i (.ow (.lst (l++m))))) S1) False) S
 | .stv i k v,ρ,K,S=>owD ρ[i]? fun c=>wpE (cx noX) ρ v (fun x S1=>keep x fun d=>wpE (cx noX) ρ k (fun y S2=>keep y fun e=>opt (putD c e d) fun c'=>K (.next (ρ.set i (.ow c'))) S2) S1) S
 | .sti o k v,ρ,K,S=>wpE (cx noX) ρ v (fun x S1=>keep x fun d=>wpE (cx noX) ρ o (fun z S2=>keep z fun r=>wpE (cx noX) ρ k (fun y S3=>keep y fun e=>isR r fun n=>opt S3[n]? fun c=>opt (putD c e d) fun c'=>K (.next ρ) (S3.set n c')) S2) S1) S
 | .pop i,ρ,K,S=>owL ρ[i]? fun l=>tst (!l.isEmpty) (K (.next (ρ.set i (.ow (.lst l.dropLast)))) S) False
 | .appR o e,ρ,K,S=>wpE (cx noX) ρ o (fun z S1=>keep z fun r=>isR r fun n=>tst (isLst S1[n]?) (wpE (cx noX) ρ e (fun x S2=>keep x fun d=>isL S2[n]? fun l=>tst (fits (l.length+1)) (K (.next ρ) (S2.set n (.lst (l++[d])))) False) S1) False) S
 | .popO t i,ρ,K,S=>owL ρ[i]? fun l=>opt l.getLast? fun d=>optS (bindT (ρ.set i (.ow (.lst l.dropLast))) t (d,false)) fun ρ2=>K (.next ρ2) S
 | .popR t o,ρ,K,S=>wpE (cx noX) ρ o (fun z S1=>keep z fun r=>isR r fun n=>isL S1[n]? fun l=>opt l.getLast? fun d=>optS (bindT ρ t (d,false)) fun ρ2=>K (.next ρ2) (S1.set n (.lst l.dropLast))) S
 | .pass,ρ,K,S=>K (.next ρ) S
 | .brk,ρ,K,S=>K (.brk ρ) S
 | .cnt,ρ,K,S=>K (.cnt ρ) S
 | .frz i,ρ,K,S=>K (.next (ρ.set i (fz ((ρ[i]?).getD .no)))) S
 | .frk i,ρ,K,S=>owT ρ[i]? fun ks ds=>K (.next (ρ.set i (.sh (.dF ks ds)))) S
 | .rse c,_,_,S=>ex c S
 | .tri tb f es ce i hs,ρ,K,S=>wpEs (cx noX) ρ es (fun ds S1=>cx (fun c S2=>tst (subT tb c ce) (opt (hsR tb c hs (ρ.set i .no)) fun ρ'=>K (.next (ρ'.set i .no)) S2) False) f ds (fun _ S2=>K (.next ρ) S2) S1) S
 | .frr i,ρ,K,S=>frW ρ[i]? S fun k l=>K (.next (ρ.set i (.sh (.lst l)))) (S.set k (.ref k))
def wpCs (cx:Xp->Cf) (ex:Xp) (w:Nat):List C->List Slot->Ko->Store->Prop
 | [],ρ,K,S=>K (.next ρ) S
 | c::cs,ρ,K,S=>wpC cx ex w c ρ (nxt (fun ρ' S'=>wpCs cx ex w cs ρ' K S') K) S
end
def told (V:Po):Ko
 | .ret d fr,S=>V (d,kd fr) S
 | .next _,S=>V (.non,.st) S
 | _,_=>False
def callX (F:Nat->Option Fn) (w:Nat):Nat->Xp->Cf
 | 0=>fun _ _ _ _ _=>False
 | k+1=>fun ex f ds V S=>opt (F f) fun fn=>ds.length=fn.np/\wpCs (callX F w k) ex w fn.body (entry fn ds) (told V) S
abbrev callW (F:Nat->Option Fn) (w k:Nat):Cf:=callX F w k noX
section
theorem zj {α:Type}{o:Option α}{P Q:α->Prop}(h:∀ a,P a->Q a):opt o P->opt o Q:=by
 cases o with
 | some a=>exact h a
 | none=>exact id
theorem zx {b:Bool}{P P' Q Q':Prop}(h:P->P') (k:Q->Q'):tst b P Q->tst b P' Q':=by
 cases b with
 | true=>exact h
 | false=>exact k
theorem yh {d:D}{P Q:Bool->Prop}(h:∀ a,P a->Q a):isB d P->isB d Q:=by
 cases d <;> first | exact h _ | exact id
theorem Z8 {d:D}{P Q:Nat->Prop}(h:∀ a,P a->Q a):isF d P->isF d Q:=by
 cases d <;> first | exact h _ | exact id
theorem yP {d:D}{P Q:Int->Prop}(h:∀ a,P a->Q a):isZ d P->isZ d Q:=by
 cases d <;> first | exact h _ | exact id
theorem zu {x:Vl}{P Q:D->Prop}(h:∀ a,P a->Q a):keep x P->keep x Q:=by
 obtain ⟨d,k⟩:=x
 cases k <;> first | exact h _ | exact id
theorem qz {x:Vl}{P Q:D->Prop}(h:∀ a,P a->Q a):boxd x P->boxd x Q:=by
 obtain ⟨d,k⟩:=x
 cases k <;> first | exact h _ | exact id
theorem je {s:Option Slot}{P P' Q Q':D->Prop}(h:∀ a,P a->P' a) (k:∀ a,Q a->Q' a):sel s P Q->sel s P' Q':=by
 cases s with
 | none=>exact id
 | some s=>cases s <;> first | exact h _ | exact k _ | exact id
theorem vB {s:D->(Option D->Store->Prop)->Store->Prop}(hs:∀ d K K' S,(∀ o S,K o S->K' o S)->s d K S->s d K' S):∀ {l acc:List D}{V V':List D->Store->Prop}{S:Store},(∀ a S,V a S->V' a S)->walkW s l acc V S->walkW s l acc V' S
 | [],_,_,_,_,h=>h _ _
 | d::l,acc,V,V',S,h=>hs d _ _ S fun o S1=>by
  cases o with
  | some x=>exact zx (vB hs h) id
  | none=>exact vB hs h
def Mono (cf:Cf):Prop:=∀ f ds (V V':Po) S,(∀ x S,V x S->V' x S)->cf f ds V S->cf f ds V' S
variable {cf:Cf}
theorem vq {s:D}{P Q:Nat->Prop}(h:∀ a,P a->Q a):isR s P->isR s Q:=by
 cases s <;> first | exact h _ | exact id
theorem WM {s:D}{P Q:List (List Key)->Prop}(h:∀ a,P a->Q a) (p:isDF s P):isDF s Q:=by
 obtain ⟨ks,ds,rfl,q⟩:=WN p
 exact h _ q
theorem Up {s:Option Slot}{P Q:List (List Key)->List D->Prop}(h:∀ a b,P a b->Q a b) (p:owT s P):owT s Q:=by
 obtain ⟨ks,ds,rfl,q⟩:=JQ p
 exact h _ _ q
theorem WL {s:Option D}{P Q:List (List Key)->List D->Prop}(h:∀ a b,P a b->Q a b) (p:isDT s P):isDT s Q:=by
 obtain ⟨ks,ds,e,q⟩:=zai p
 exact zco e (h _ _ q)
mutual
theorem za (hc:Mono cf):∀ (e:E) {ρ:List Slot}{V V':Po}{S:Store},(∀ x S,V x S->V' x S)->wpE cf ρ e V S->wpE cf ρ e V' S
 | .var i,_,_,_,_,h,k=>je (fun _=>h _ _) (fun _=>h _ _) k
 | .con d,_,_,_,_,h,k=>h _ _ k
 | .glo _ d,_,_,_,_,h,k=>h _ _ k
 | .bin op a b,_,_,_,_,h,k=>za hc a (fun _ _=>za hc b fun _ _=>zj fun _=>h _ _) k
 | .neg a,_,_,_,_,h,k=>za hc a (fun _ _=>yP fun _=>h _ _) k
 | .cmp op a b,_,_,_,_,h,k=>za hc a (fun _ _=>za hc b fun _ _=>zj fun _=>h _ _) k
 | .chn o1 o2 a b c,_,_,_,_,h,k=>za hc a (fun _ _=>za hc b fun _ _=>zj fun _=>zx (za hc c fun _ _=>zj fun _=>h _ _) (h _ _)) k
 | .not a,_,_,_,_,h,k=>za hc a (fun _ _=>yh fun _=>h _ _) k
 | .and a b,_,_,_,_,h,k=>za hc a (fun _ _=>yh fun _=>zx (za hc b h) (h _ _)) k
 | .or a b,_,_,_,_,h,k=>za hc a (fun _ _=>yh fun _=>zx (h _ _) (za hc b h)) k
 | .ite c a b,_,_,_,_,h,k=>za hc c (fun _ _=>yh fun _=>zx (za hc a h) (za hc b h)) k
 | .tup es,_,_,_,_,h,k=>zz hc es (fun _ _=>zx (h _ _) id) k
 | .lst es,_,_,_,_,h,k=>zz hc es (fun _ _=>zx (h _ _) id) k
 | .dic _ _ es,_,_,_,_,h,k=>zz hc es (fun _ _=>zx (h _ _) id) k
 | .sub a b,_,_,_,_,h,k=>za hc a (fun _ _=>za hc b fun _ _=>zj fun _=>h _ _) k
 | .slc a l u,_,_,_,_,h,k=>za hc a (fun _ _=>Zy hc l fun _ _=>Zy hc u fun _ _=>zj fun _=>h _ _) k
 | .bi b [],_,_,_,_,h,k=>zz hc [] (fun _ _=>zj fun _=>h _ _) k
 | .bi b [e],_,_,_,_,h,k=>za hc e (fun _ _=>zj fun _=>h _ _) k
 | .bi b (e::f::es),_,_,_,_,h,k=>zz hc (e::f::es) (fun _ _=>zj fun _=>h _ _) k
 | .mth m o es,_,_,_,_,h,k=>za hc o (fun _ _=>zx (zz hc es fun _ _=>zj fun _=>h _ _) id) k
 | .call f es,_,_,_,_,h,k=>zz hc es (fun _ _=>hc _ _ _ _ _ h) k
 | .callk f p es,_,_,_,_,h,k=>zz hc es (fun _ _=>zj fun _=>hc _ _ _ _ _ h) k
 | .comp t js it ifs elt,ρ,V,V',S,h,k=>by
  refine Zz hc it (fun its S1 q=>?_) k
  refine vB ?_ ?_ q
  ·intro d K K' S q
   exact zj fun ρ'=>VJ hc ifs fun b S1=>zx (za hc elt fun x S2=>zu fun d=>q _ _) (q _ _)
  ·exact fun ds S2=>h _ _
 | .box e,_,_,_,_,h,k=>za hc e (fun _ _=>qz fun _=>h _ _) k
 | .one e,_,_,_,_,h,k=>za hc e h k
 | .flip e,_,_,_,_,h,k=>za hc e (fun _ _=>zj fun _=>h _ _) k
 | .dk1 a b,_,_,_,_,h,k=>za hc a (fun _ _=>zu fun _=>za hc b fun _ _=>zu fun _=>zj fun _=>h _ _) k
 | .callv i es,_,_,_,_,h,k=>je (fun _=>Z8 fun _=>zz hc es fun _ _=>hc _ _ _ _ _ h) (fun _=>Z8 fun _=>zz hc es fun _ _=>hc _ _ _ _ _ h) k
 | .seq _,_,_,_,_,_,k=>k
 | .rng _ _,_,_,_,_,_,k=>k
 | .enum _,_,_,_,_,_,k=>k
 | .zip _ _,_,_,_,_,_,k=>k
 | .rev _,_,_,_,_,_,k=>k
 | .dwn _,_,_,_,_,_,k=>k
 | .items _,_,_,_,_,_,k=>k
theorem zz (hc:Mono cf):∀ (es:List E) {ρ:List Slot}{V V':List D->Store->Prop}{S:Store},(∀ x S,V x S->V' x S)->wpEs cf ρ es V S->wpEs cf ρ es V' S
 | [],_,_,_,_,h,k=>h _ _ k
 | e::es,_,_,_,_,h,k=>za hc e (fun _ _=>zu fun _=>zz hc es fun _ _=>h _ _) k
theorem Zy (hc:Mono cf):∀ (o:Option E) {ρ:List Slot}{V V':Option Int->Store->Prop}{S:Store},(∀ x S,V x S->V' x S)->wpO cf ρ o V S->wpO cf ρ o V' S
 | none,_,_,_,_,h,k=>h _ _ k
 | some e,_,_,_,_,h,k=>za hc e (fun _ _=>yP fun _=>h _ _) k
theorem VJ (hc:Mono cf):∀ (es:List E) {ρ:List Slot}{V V':Bool->Store->Prop}{S:Store},(∀ x S,V x S->V' x S)->wpF cf ρ es V S->wpF cf ρ es V' S
 | [],_,_,_,_,h,k=>h _ _ k
 | [e],_,_,_,_,h,k=>za hc e (fun _ _=>yh fun _=>h _ _) k
 | _::_::_,_,_,_,_,_,k=>k
theorem Zz (hc:Mono cf):∀ (e:E) {ρ:List Slot}{V V':List D->Store->Prop}{S:Store},(∀ x S,V x S->V' x S)->wpI cf ρ e V S->wpI cf ρ e V' S
 | .rng none e,_,_,_,_,h,k=>za hc e (fun _ _=>yP fun _=>zx (h _ _) id) k
 | .rng (some a) e,_,_,_,_,h,k=>za hc a (fun _ _=>za hc e fun _ _=>yP fun _=>yP fun _=>zx (h _ _) id) k
 | .enum e,_,_,_,_,h,k=>za hc e (fun _ _=>zu fun _=>zj fun _=>h _ _) k
 | .seq e,_,_,_,_,h,k=>za hc e (fun _ _=>zu fun _=>zj fun _=>h _ _) k
 | .var _,_,_,_,_,_,k=>k
 | .con _,_,_,_,_,_,k=>k
 | .glo _ _,_,_,_,_,_,k=>k
 | .bin _ _ _,_,_,_,_,_,k=>k
 | .neg _,_,_,_,_,_,k=>k
 | .cmp _ _ _,_,_,_,_,_,k=>k
 | .chn _ _ _ _ _,_,_,_,_,_,k=>k
 | .not _,_,_,_,_,_,k=>k
 | .and _ _,_,_,_,_,_,k=>k
 | .or _ _,_,_,_,_,_,k=>k
 | .ite _ _ _,_,_,_,_,_,k=>k
 | .tup _,_,_,_,_,_,k=>k
 | .lst _,_,_,_,_,_,k=>k
 | .dic _ _ _,_,_,_,_,_,k=>k
 | .sub _ _,_,_,_,_,_,k=>k
 | .slc _ _ _,_,_,_,_,_,k=>k
 | .bi _ _,_,_,_,_,_,k=>k
 | .mth _ _ _,_,_,_,_,_,k=>k
 | .call _ _,_,_,_,_,_,k=>k
 | .callk _ _ _,_,_,_,_,_,k=>k
 | .callv _ _,_,_,_,_,_,k=>k
 | .comp _ _ _ _ _,_,_,_,_,_,k=>k
 | .box _,_,_,_,_,_,k=>k
 | .one _,_,_,_,_,_,k=>k
 | .flip _,_,_,_,_,_,k=>k
 | .dk1 _ _,_,_,_,_,_,k=>k
 | .zip _ _,_,_,_,_,_,k=>k
 | .dwn es,_,_,_,_,h,k=>zz hc es (fun _ _=>zj fun _=>h _ _) k
 | .rev e,_,_,_,_,h,k=>za hc e (fun _ _=>yP fun _=>zx (h _ _) id) k
 | .keys e,_,_,_,_,h,k=>za hc e (fun _ _=>zu fun _=>WM fun _=>h _ _) k
 | .items e,_,_,_,_,h,k=>za hc e (fun _ _=>zu fun _=>vq fun _=>WL fun _ _=>h _ _) k
end
theorem U8 {s:Option Slot}{S:Store}{P Q:Nat->List D->Prop}(h:∀ k l,P k l->Q k l) (p:frW s S P):frW s S Q:=by
 obtain ⟨k,l,rfl,e,q⟩:=Kf p
 exact zcz e (h k l q)
theorem vd {s:Option Slot}{P Q:List D->Prop}(h:∀ a,P a->Q a):owL s P->owL s Q:=by
 cases s with
 | none=>exact id
 | some s=>
  cases s with
  | ow d=>cases d <;> first | exact h _ | exact id
  | _=>exact id
theorem Uq {s:Option Slot}{P Q:D->Prop}(h:∀ a,P a->Q a):owD s P->owD s Q:=by
 cases s with
 | none=>exact id
 | some s=>cases s <;> first | exact h _ | exact id
theorem Z7 {s:Option D}{P Q:List D->Prop}(h:∀ a,P a->Q a):isL s P->isL s Q:=by
 cases s with
 | none=>exact id
 | some s=>cases s <;> first | exact h _ | exact id
theorem Xy {x:Vl}{P Q:O->Prop}(h:∀ a,P a->Q a):retV x P->retV x Q:=by
 obtain ⟨d,k⟩:=x
 cases k <;> first | exact h _ | exact id
theorem Ux {f f':List Slot->Store->Prop}{K K':Ko}(h:∀ ρ S,f ρ S->f' ρ S) (k:∀ o S,K o S->K' o S):∀ o S,nxt f K o S->nxt f' K' o S:=by
 intro o S
 cases o <;> first | exact h _ _ | exact k _ _
theorem wV {f f':List Slot->Store->Prop}{K K':Ko}(h:∀ ρ S,f ρ S->f' ρ S) (k:∀ o S,K o S->K' o S):∀ o S,trn K f o S->trn K' f' o S:=by
 intro o S
 cases o <;> first | exact h _ _ | exact k _ _
theorem qd {t:T}{b b':List Slot->Ko->Store->Prop}(hb:∀ ρ (V V':Ko) S,(∀ x S,V x S->V' x S)->b ρ V S->b' ρ V' S) {K K':Ko}(k:∀ o S,K o S->K' o S):∀ {l:List D}{ρ:List Slot}{S:Store},forW t b l ρ K S->forW t b' l ρ K' S
 | [],_,_,h=>k _ _ h
 | d::l,_,_,h=>zj (fun _=>hb _ _ _ _ (wV (fun _ _=>qd hb k) k)) h
theorem jG {c:List Slot->Po->Store->Prop}{b b':List Slot->Ko->Store->Prop}(hc:∀ ρ (V V':Po) S,(∀ x S,V x S->V' x S)->c ρ V S->c ρ V' S) (hb:∀ ρ (V V':Ko) S,(∀ x S,V x S->V' x S)->b ρ V S->b' ρ V' S) {K K':Ko}(k:∀ o S,K o S->K' o S):∀ {n:Nat}{ρ:List Slot}{S:Store},whlW c b n ρ K S->whlW c b' n ρ K' S
 | 0,_,_,h=>h
 | n+1,_,_,h=>hc _ _ _ _ (fun _ _=>yh fun _=>zx (hb _ _ _ _ (wV (fun _ _=>jG hc hb k) k)) (k _ _)) h
variable {w:Nat}
def MonoX (cx:Xp->Cf):Prop:=∀ ex ex' f ds V V' S,(∀ c S,ex c S->ex' c S)->(∀ x S,V x S->V' x S)->cx ex f ds V S->cx ex' f ds V' S
theorem MonoX.no {cx:Xp->Cf}(h:MonoX cx) {ex:Xp}:Mono (cx ex):=fun f ds V V' S q k=>h ex ex f ds V V' S (fun _ _=>id) q k
section
variable {cx:Xp->Cf}{w:Nat}
theorem Ub (hc:MonoX cx) (e:E) {ex ex':Xp}{ρ:List Slot}{K K':Ko}{S:Store}(h:∀ o S,K o S->K' o S) (k:wpC cx ex w (.ret e) ρ K S):wpC cx ex' w (.ret e) ρ K' S:=by
 cases e <;> first | exact je (fun _=>h _ _) (fun _=>h _ _) k | exact za hc.no _ (fun _ _=>Xy fun _=>h _ _) k
theorem V7 (hc:MonoX cx) (t:T) (e:E) {ex ex':Xp}{ρ:List Slot}{K K':Ko}{S:Store}(h:∀ o S,K o S->K' o S) (k:wpC cx ex w (.set t e) ρ K S):wpC cx ex' w (.set t e) ρ K' S:=by
 cases e <;> first | exact za hc.no _ (fun _ _=>zj fun _=>h _ _) k | exact za hc.no _ (fun _ _=>qz fun _=>zj fun _=>h _ _) k
mutual
theorem VL (hc:MonoX cx):∀ (c:C) {ex ex':Xp}{ρ:List Slot}{K K':Ko}{S:Store},(∀ c S,ex c S->ex' c S)->(∀ o S,K o S->K' o S)->wpC cx ex w c ρ K S->wpC cx ex' w c ρ K' S
 | .set t e,_,_,_,_,_,_,x,h,k=>V7 hc t e h (ex:=_) (ex':=_) k
 | .expr e,_,_,_,_,_,_,x,h,k=>za hc.no e (fun _ _=>h _ _) k
 | .ret e,_,_,_,_,_,_,x,h,k=>Ub hc e h (ex:=_) (ex':=_) k
 | .retN,_,_,_,_,_,_,x,h,k=>h _ _ k
 | .ite e A B,_,_,_,_,_,_,x,h,k=>za hc.no e (fun _ _=>yh fun _=>zx (zW hc A x h) (zW hc B x h)) k
 | .whl e A,ex,ex',ρ,K,K',S,x,h,k=>by
  have k:whlW (fun ρ=>wpE (cx noX) ρ e) (fun ρ=>wpCs cx ex w A ρ) w ρ K S:=k
  refine jG ?_ ?_ h k
  ·exact fun ρ V V' S q=>za hc.no e q
  ·exact fun ρ V V' S q=>zW hc A x q
 | .forr t it A,ex,ex',ρ,K,K',S,x,h,k=>by
  refine Zz hc.no it (fun l S1 q=>?_) k
  refine qd ?_ h q
  exact fun ρ V V' S q=>zW hc A x q
 | .app i e,_,_,_,_,_,_,x,h,k=>vd (fun _=>za hc.no e fun _ _=>zu fun _=>zx (h _ _) id) k
 | .ext i e,_,_,_,_,_,_,x,h,k=>vd (fun _=>za hc.no e fun _ _=>zu fun _=>zj fun _=>zx (h _ _) id) k
 | .stv i a v,_,_,_,_,_,_,x,h,k=>Uq (fun _=>za hc.no v fun _ _=>zu fun _=>za hc.no a fun _ _=>zu fun _=>zj fun _=>h _ _) k
 | .sti o a v,_,_,_,_,_,_,x,h,k=>za hc.no v (fun _ _=>zu fun _=>za hc.no o fun _ _=>zu fun _=>za hc.no a fun _ _=>zu fun _=>vq fun _=>zj fun _=>zj fun _=>h _ _) k
 | .pop i,_,_,_,_,_,_,x,h,k=>vd (fun _=>zx (h _ _) id) k
 | .appR o e,_,_,_,_,_,_,x,h,k=>za hc.no o (fun _ _=>zu fun _=>vq fun _=>zx (za hc.no e fun _ _=>zu fun _=>Z7 fun _=>zx (h _ _) id) id) k
 | .popO t i,_,_,_,_,_,_,x,h,k=>vd (fun _=>zj fun _=>zj fun _=>h _ _) k
 | .popR t o,_,_,_,_,_,_,x,h,k=>za hc.no o (fun _ _=>zu fun _=>vq fun _=>Z7 fun _=>zj fun _=>zj fun _=>h _ _) k
 | .pass,_,_,_,_,_,_,x,h,k=>h _ _ k
 | .brk,_,_,_,_,_,_,x,h,k=>h _ _ k
 | .cnt,_,_,_,_,_,_,x,h,k=>h _ _ k
 | .frz i,_,_,_,_,_,_,x,h,k=>h _ _ k
 | .frk i,_,_,_,_,_,_,x,h,k=>Up (fun _ _=>h _ _) k
 | .rse c,_,_,_,_,_,_,x,h,k=>x _ _ k
 | .tri tb f es ce i hs,_,_,_,_,_,_,x,h,k=>zz hc.no es (fun _ _=>hc _ _ _ _ _ _ _ (fun _ _=>zx (zj fun _=>h _ _) id) fun _ _=>h _ _) k
 | .frr i,_,_,_,_,_,_,x,h,k=>U8 (fun _ _=>h _ _) k
theorem zW (hc:MonoX cx):∀ (cs:List C) {ex ex':Xp}{ρ:List Slot}{K K':Ko}{S:Store},(∀ c S,ex c S->ex' c S)->(∀ o S,K o S->K' o S)->wpCs cx ex w cs ρ K S->wpCs cx ex' w cs ρ K' S
 | [],_,_,_,_,_,_,x,h,k=>h _ _ k
 | c::cs,_,_,_,_,_,_,x,h,k=>VL hc c x (Ux (fun _ _=>zW hc cs x h) h) k
end
theorem Xg {V V':Po}(h:∀ x S,V x S->V' x S):∀ o S,told V o S->told V' o S:=by
 intro o S
 cases o <;> first | exact h _ _ | exact id
theorem z9 {F:Nat->Option Fn}:∀ k,MonoX (callX F w k)
 | 0=>fun _ _ _ _ _ _ _ _ _ h=>h
 | k+1=>fun ex ex' f ds V V' S hx h q=>zj (fun _ ⟨a,b⟩=>⟨a,zW (z9 k) _ hx (Xg h) b⟩) q
theorem Vq {F:Nat->Option Fn}(k:Nat):Mono (callW F w k):=(z9 k).no
end
theorem ZC (hc:Mono cf):∀ (es:List E) {ρ:List Slot}{W:List D->Store->Prop}{S:Store},wpEs cf ρ es W S->wpEs cf ρ es (fun ds S=>W ds S/\ds.length=es.length) S
 | [],_,_,_,h=>⟨h,rfl⟩
 | e::es,_,_,_,h=>za hc e (fun _ _=>zu fun _ q=>zz hc es (fun _ _ q=>⟨q.1,by rw [bC,q.2];rfl⟩) (ZC hc es q)) h
end
open PySem PySem.Spec PyProof.Rows L2
def Rdb (Γ:Gm) (H:Hp) (g:G):D->V->Prop
 | .tup ds,v=>∃ a vs,v=.ref a/\g.R a=some (.tup vs)/\Hass Γ g ds vs
 | .lst ds,v=>∃ a vs,v=.ref a/\H a=some (.lst vs)/\Hass Γ g ds vs
 | .dK ks ds,v=>∃ a vs,v=.ref a/\H a=some (.dK (ks.zip vs))/\ks.length=ds.length/\Hass Γ g ds vs
 | .dT ks ds,v=>∃ a vs,v=.ref a/\H a=some (.dT (ks.zip vs))/\ks.length=ds.length/\Hass Γ g ds vs
 | .non,v=>v=.non
 | .bl b,v=>v=.bl b
 | .int i,v=>v=.int i
 | .str x,v=>v=.str x
 | .ref _,v=>∃ a,v=.ref a
 | .fn f,v=>∃ a,Γ.fa f=some a/\v=.ref a
 | .scr ns,v=>∃ a,v=.ref a/\SqL Γ.K H a (ns.map V.int)
 | .ktp ds,v=>∃ a vs,v=.ref a/\KTup Γ.K a vs/\Hass Γ g ds vs
 | .kdc ps,v=>∃ a,v=.ref a/\KDic Γ.K a ps
 | .dF ks ds,v=>∃ a vs o,v=.ref a/\H a=some (.frz o (.dT (ks.zip vs)))/\ks.length=ds.length/\Hass Γ g ds vs
section
variable {Γ:Gm}{H H':Hp}{g g':G}{S:Store}{d:D}{v:V}{a:Addr}
theorem Jz (w:WOk Γ H g S) (h:Has Γ g d v):Rdb Γ H g (deref S d) v:=by
 cases d with
 | non=>exact h
 | bl=>exact h
 | int=>exact h
 | str=>exact h
 | fn f=>exact h
 | tup ds=>exact h
 | lst ds=>obtain ⟨a,vs,h1,h2,h3⟩:=h;exact ⟨a,vs,h1,w.rh _ _ h2,h3⟩
 | scr ns=>obtain ⟨a,h1,h2⟩:=h;exact ⟨a,h1,w.rh.seq h2⟩
 | dK ks ds=>obtain ⟨a,vs,h1,h2,h4,h3⟩:=h;exact ⟨a,vs,h1,w.rh _ _ h2,h4,h3⟩
 | dT ks ds=>obtain ⟨a,vs,h1,h2,h4,h3⟩:=h;exact ⟨a,vs,h1,w.rh _ _ h2,h4,h3⟩
 | ktp=>exact h
 | kdc=>exact h
 | dF ks ds=>obtain ⟨a,vs,o,h1,h2,h4,h3⟩:=h;exact ⟨a,vs,o,h1,w.rh _ _ h2,h4,h3⟩
 | ref k=>
  obtain ⟨a,h1,rfl⟩:=h
  have hk:k < S.length:=by rw [<- w.len];exact (Θ.mp h1).1
  have e:S[k]?=some S[k]:=ο hk
  have c:=w.cell k _ a e h1
  show Rdb Γ H g ((S[k]?).getD .non) (.ref a)
  rw [e]
  show Rdb Γ H g S[k] (.ref a)
  generalize S[k]=x at c
  cases x with
  | lst ds=>obtain ⟨vs,h1,h2⟩:=c;exact ⟨a,vs,rfl,h1,h2⟩
  | dK ks ds=>obtain ⟨vs,h1,h3,h2⟩:=c;exact ⟨a,vs,rfl,h1,h3,h2⟩
  | dT ks ds=>obtain ⟨vs,h1,h3,h2⟩:=c;exact ⟨a,vs,rfl,h1,h3,h2⟩
  | non=>exact c.elim
  | bl=>exact c.elim
  | int=>exact c.elim
  | str=>exact c.elim
  | tup=>exact c.elim
  | ref=>exact ⟨a,rfl⟩
  | fn=>exact c.elim
  | scr=>exact c.elim
  | ktp=>exact c.elim
  | kdc=>exact c.elim
  | dF=>exact c.elim
def Fin (Γ:Gm) (H:Hp) (g:G) (S:Store) (d:D) (fr:Bool) (Q:VK):Prop:=
 ∀ v H' g',Step H g H' g'->Same H H'->WOk Γ H' g' S->VOk Γ H d fr v H' g'->Q v H'
variable {Q:VK}
theorem zg (w:WOk Γ H g S) (q:Fin Γ H g S d false Q) (h:Has Γ g d v):Q v H:=q v H g (Step.refl H g) (Same.refl H) w h
theorem WOk.laid {o:HO}(w:WOk Γ H g S) (h:H a=none):WOk Γ (upd H a o) g S where
 rh:=fun b u q=>by
  have e:=w.rh b u q
  rw [zc (zf e h)];exact e
 len:=w.len
 nd:=w.nd
 off:=w.off
 cell:=fun k c b h1 h2=>(w.cell k c b h1 h2).mono (Le.refl g) fun o e=>by rw [zc (zf e h)];exact e
theorem WOk.notR (w:WOk Γ H g S) (h:H a=none):g.R a=none:=by
 cases q:g.R a with
 | none=>rfl
 | some o=>rw [w.rh a o q] at h;cases h
theorem WOk.notA (w:WOk Γ H g S) (h:H a=none):a ∉ g.α:=fun m=>by
 obtain ⟨k,hk,e⟩:=ig m
 have hk':k < S.length:=by rw [<- w.len];exact hk
 obtain ⟨o,ho,_⟩:=(w.cell k _ a (ο hk') (by rw [ο hk,e])).isMut
 rw [ho] at h;cases h
theorem zV {o:HO}(h:H a=none):Same H (upd H a o):=fun b u q=>by rw [zc (zf q h)];exact q
theorem jy {ds:List D}{vs:List V}(w:WOk Γ H g S) (q:Fin Γ H g S (.tup ds) false Q) (h:Hass Γ g ds vs) (ha:H a=none):Q (.ref a) (upd H a (.tup vs)):=by
 have hr:=w.notR ha
 refine q _ _ (g.put a (.tup vs)) ?_ (zV ha) ((w.laid ha).put zm hr (w.notA ha)) ⟨a,vs,rfl,zm,h.mono (Le.put hr)⟩
 exact (Step.of_same (zV ha) (Le.refl g) (fun _ h=>.inl h) fun _ h=>.inl h).put hr ha
theorem yI {ds:List D}{vs:List V}(w:WOk Γ H g S) (q:Fin Γ H g S (.lst ds) true Q) (h:Hass Γ g ds vs) (ha:H a=none):Q (.ref a) (upd H a (.lst vs)):=
 q _ _ g (Step.of_same (zV ha) (Le.refl g) (fun _ h=>.inl h) fun _ h=>.inl h) (zV ha) (w.laid ha) ⟨a,rfl,ha,w.notR ha,w.notA ha,vs,zm,h⟩
end
theorem JZ {n:Nat}(h:fits n=true):n < sizeLine:=Nat.lt_of_le_of_lt (of_decide_eq_true h) (by decide)
theorem yz {n:Nat}(h:fits n=true):n<=sizeLine:=gq (JZ h)
def RDo (Γ:Gm) (r:R2) (a b:D) (d:D) (fr:Bool):Prop:=
 ∀ (S:Store) (H:Hp) (g:G) (x y:V) (Q:VK),WOk Γ H g S->Rdb Γ H g a x->Rdb Γ H g b y->Fin Γ H g S d fr Q->r x y H Q
section
variable {X:Cx}{Γ:Gm}
def rCatS:R2:=fun x y H Q=>∃ l b xs zs,x=.ref l/\y=.ref b/\H l=some (.lst xs)/\H b=some (.lst zs)/\xs.length+zs.length<=sizeLine/\∀ p,H p=none->Q (.ref p) (upd H p (.lst (xs++zs)))
theorem QQ:OpR X (bM .Add) rCatS:=by
 intro pJ s σ H x y v u Q I rx ry h
 obtain ⟨l,b,xs,zs,rfl,rfl,hH,hB,hz,q⟩:=h
 cases rx
 cases ry
 obtain ⟨z,its,n,r,e⟩:=I.hok _ _ hH
 obtain ⟨z2,its2,n2,r2,e2⟩:=I.hok _ _ hB
 have hl:=r.length
 have hl2:=r2.length
 refine PySem.P.add_list e e2 ?_ (by rw [π,π];omega)
 have ea:its.toArray++its2.toArray=(its++its2).toArray:=by simp
 rw [ea]
 exact ⟨.ref _,_,I.lnew (t':=s.toks) (r.append r2) (by rw [ϊ];omega),rfl,q _ I.fresh⟩
theorem Yb {g:G}{ds:List D}{vs:List V}(h:Hass Γ g ds vs):∀ n:Nat,Hass Γ g (Ξ n ds).flatten (Ξ n vs).flatten
 | 0=>rfl
 | n+1=>by
  rw [bu,bu,cI,cI]
  exact h.app (Yb h n)
theorem ZF {xs:List V}{us:List δ}(h:Vals xs us):∀ n:Nat,Vals (Ξ n xs).flatten (Ξ n us).flatten
 | 0=>.nil
 | n+1=>by
  rw [bu,bu,cI,cI]
  exact h.append (ZF h n)
theorem Xz (us:List δ):∀ (n:Nat) (acc:List δ),List.foldl (fun x1 x2=>x1++x2) acc.toArray (Ξ n us.toArray)=(acc++(Ξ n us).flatten).toArray
 | 0,acc=>by simp
 | n+1,acc=>by
  rw [bu,eE,List.append_toArray,Xz us n,bu,cI,aJ]
def rRepS:R2:=fun x y H Q=>∃ l xs n,x=.ref l/\y=.int n/\H l=some (.lst xs)/\0<=n/\n < 2 ^ 20/\xs.length*n.toNat<=sizeLine/\∀ p,H p=none->Q (.ref p) (upd H p (.lst (Ξ n.toNat xs).flatten))
theorem QJ:OpR X (bM .Mult) rRepS:=by
 intro pJ s σ H x y v u Q I rx ry h
 obtain ⟨l,xs,k,rfl,rfl,hH,k0,k1,hz,q⟩:=h
 cases rx
 obtain ⟨t,rfl⟩:=ry
 obtain ⟨z,its,n,r,e⟩:=I.hok _ _ hH
 have hl:=r.length
 have hi:s.heap.get? l=some { cls:=.type "list",dict:=none,data:=.seq its.toArray n,slots:=#[] }:=e
 have hz':its.toArray.size*k.toNat<=2 ^ 24:=by
  rw [π,<- hl]
  rw [aF] at hz
  omega
 refine wpAny_binaryOp_repeat_ref (T:="list") (U:="int") (by decide) ⟨_,hi,rfl⟩ (fun s'=>typeIs_int s' k t) noFill_list_mul F.fills_int_mul F.slot_int_rmul repeat_list F.slot_int_index.lookup
  (oG F.slot_int_rmul (typeIs_int s k t) F.entry_int_rmul (F.args_int_rmul_2 _ _) (int___rmul___int_list k t l its.toArray n)
   ⟨hi,rfl,⟨_,hi,rfl⟩,oG F.slot_list_mul ⟨_,hi,rfl⟩ F.entry_list_mul (F.args_list_mul_2 _ _)
    (AutoListH.list___mul___list_int_3 l its.toArray n k t (by simp [Κ.List.listFitsIndex];omega) (by omega) (by simp [cL,sizeLine];rw [π] at hz';omega))
    ⟨hi,?_⟩⟩)
 have ea:List.foldl (fun x1 x2=>x1++x2) #[] (Ξ (if its.toArray.isEmpty=true then 0 else k.toNat) its.toArray)=((Ξ k.toNat its).flatten).toArray:=by
  cases its with
  | nil=>
   have:(Ξ k.toNat ([]:List δ)).flatten=[]:=by induction k.toNat with
    | zero=>rfl
    | succ n ih=>rw [bu,cI,ih];rfl
   rw [this];rfl
  | cons a l=>
   have:((a::l).toArray.isEmpty=true)=False:=by simp
   rw [if_neg (by rw [this];exact id)]
   have:=Xz (a::l) k.toNat []
   simpa using this
 rw [ea]
 exact ⟨.ref _,_,I.lnew (t':=s.toks) (ZF r _) (by
  have:(Ξ k.toNat xs).flatten.length=xs.length*k.toNat:=by
   rw [List.length_flatten,List.map_replicate,List.sum_replicate_nat,Nat.mul_comm]
  rw [this];exact hz),rfl,q _ I.fresh⟩
theorem xW {f:Int->Int->Option Int}{a b:D}{p:D×Bool}(h:num2 f a b=some p):∃ i j k,a=.int i/\b=.int j/\f i j=some k/\p=(.int k,false):=by
 cases a with
 | int i=>
  cases b with
  | int j=>
   obtain ⟨k,e,rfl⟩:=Ζ.mp (show (f i j).map (fun k=>(D.int k,false))=some p from h)
   exact ⟨i,j,k,rfl,rfl,e,rfl⟩
  | _=>cases h
 | _=>cases h
set_option tactic.hygienic true in
theorem zaQ {a b:D}{d:D}{fr:Bool}(hK:X.K=Γ.K) (h:addD a b=some (d,fr)):∃ r,OpR X (bM .Add) r/\RDo Γ r a b d fr:=by
 cases a with
 | int i=>
  cases b with
  | int j=>
   cases h
   exact ⟨_,zb2,fun S H g x y Q w hx hy q=>⟨_,_,hx,hy,zg w q rfl⟩⟩
  | _=>cases h
 | str s=>
  cases b with
  | str u=>
   have h:(if fits (s.length+u.length)=true then some (D.str (s++u),false) else none)=some (d,fr):=h
   split at h
   ·rename_i hf
    cases h
    exact ⟨_,YM,fun S H g x y Q w hx hy q=>⟨_,_,hx,hy,yz hf,zg w q rfl⟩⟩
   ·cases h
  | _=>cases h
 | tup s=>
  cases b with
  | tup u=>
   have h:(if fits (s.length+u.length)=true then some (D.tup (s++u),false) else none)=some (d,fr):=h
   split at h
   ·rename_i hf
    cases h
    refine ⟨_,QM.or Us,fun S H g x y Q w ⟨a,xs,e1,e2,e3⟩ ⟨b,ys,f1,f2,f3⟩ q=>?_⟩
    rw [hK]
    have h1:=e3.len
    have h2:=f3.len
    have hz:=yz hf
    by_cases hx:xs=[]
    ·subst hx
     refine .inr ⟨a,b,ys,e1,f1,SqT.of (w.rh _ _ e2),SqT.of (w.rh _ _ f2),?_⟩
     have e0:=du.mp h1.symm
     subst e0
     exact zg w q ⟨b,ys,rfl,f2,f3⟩
    ·refine .inl ⟨a,b,xs,ys,e1,f1,SqT.of (w.rh _ _ e2),SqT.of (w.rh _ _ f2),hx,by lia,fun z=>?_,fun _ p hp=>jy w q (e3.app f3) hp⟩
     subst z
     have e0:=du.mp h2.symm
     subst e0
     refine zg w q ⟨a,xs,rfl,e2,?_⟩
     rw [χ]
     exact e3
   ·cases h
  | _=>cases h
 | lst s=>
  cases b with
  | lst u=>
   have h:(if fits (s.length+u.length)=true then some (D.lst (s++u),true) else none)=some (d,fr):=h
   split at h
   ·rename_i hf
    cases h
    refine ⟨_,QQ,fun S H g x y Q w ⟨a,xs,e1,e2,e3⟩ ⟨b,ys,f1,f2,f3⟩ q=>?_⟩
    have h1:=e3.len
    have h2:=f3.len
    have hz:=yz hf
    exact ⟨a,b,xs,ys,e1,f1,e2,f2,by lia,fun p hp=>yI w q (e3.app f3) hp⟩
   ·cases h
  | _=>cases h
 | _=>cases h
set_option tactic.hygienic true in
theorem Q5 {a b:D}{d:D}{fr:Bool}(h:mulD a b=some (d,fr)):∃ r,OpR X (bM .Mult) r/\RDo Γ r a b d fr:=by
 cases a with
 | int i=>
  cases b with
  | int j=>
   have h:(if (zJ i||zJ j)=true then some (D.int (i*j),false) else none)=some (d,fr):=h
   split at h
   ·rename_i hf
    cases h
    refine ⟨_,zbW,fun S H g x y Q w hx hy q=>⟨_,_,hx,hy,?_,zg w q rfl⟩⟩
    simp only [zJ,mC,ε,decide_eq_true_eq] at hf
    exact hf
   ·cases h
  | _=>cases h
 | lst l=>
  cases b with
  | int n=>
   have h:(if (decide (0<=n)&&decide (n < 2 ^ 20)&&fits (l.length*n.toNat))=true then some (D.lst (Ξ n.toNat l).flatten,true) else none)=some (d,fr):=h
   split at h
   ·rename_i hf
    cases h
    simp only [ε,decide_eq_true_eq] at hf
    refine ⟨_,QJ,fun S H g x y Q w ⟨a,xs,e1,e2,e3⟩ hy q=>?_⟩
    have h1:=e3.len
    have hz:=yz hf.2
    exact ⟨a,xs,_,e1,hy,e2,hf.1.1,hf.1.2,by rw [h1];exact hz,fun p hp=>yI w q (Yb e3 _) hp⟩
   ·cases h
  | _=>cases h
 | _=>cases h
set_option tactic.hygienic true in
theorem zbT {op:mJ}{a b:D}{d:D}{fr:Bool}(hK:X.K=Γ.K) (h:opD op a b=some (d,fr)):∃ r,OpR X (bM op) r/\RDo Γ r a b d fr:=by
 cases op with
 | Add=>exact zaQ hK h
 | Mult=>exact Q5 h
 | Sub=>
  obtain ⟨i,j,k,rfl,rfl,e,e2⟩:=xW h
  cases e
  cases e2
  exact ⟨_,zbS,fun S H g x y Q w hx hy q=>⟨_,_,hx,hy,zg w q rfl⟩⟩
 | FloorDiv=>
  obtain ⟨i,j,k,rfl,rfl,e,e2⟩:=xW h
  cases e2
  split at e
  ·rename_i hf
   cases e
   refine ⟨_,Ur,fun S H g x y Q w hx hy q=>⟨_,_,hx,hy,?_,zg w q rfl⟩⟩
   simp only [ε,decide_eq_true_eq] at hf
   exact hf
  ·cases e
 | Mod=>
  obtain ⟨i,j,k,rfl,rfl,e,e2⟩:=xW h
  cases e2
  split at e
  ·rename_i hf
   cases e
   exact ⟨_,zbX,fun S H g x y Q w hx hy q=>⟨_,_,hx,hy,of_decide_eq_true hf,zg w q rfl⟩⟩
  ·cases e
 | Pow=>
  obtain ⟨i,j,k,rfl,rfl,e,e2⟩:=xW h
  cases e2
  split at e
  ·rename_i hf
   cases e
   refine ⟨_,zbU,fun S H g x y Q w hx hy q=>⟨_,_,hx,hy,?_,zg w q rfl⟩⟩
   simp only [zJ,ε,decide_eq_true_eq] at hf
   exact ⟨hf.1.1,hf.1.2,by omega⟩
  ·cases e
 | _=>cases h
end
open PySem PySem.Spec PyProof.Rows L2 SeqAt
section
variable {X:Cx}{pJ:List (Addr×Obj)}{σ:L2.St}{H:Hp}{s:μ}{Γ:Gm}{g:G}
theorem K1 (sr:Same g.R H) {a:Addr}{xs ys:List V}(h:g.R a=some (.tup xs)) (h':g.R a=some (.tup ys)):xs=ys:=by
 rw [h] at h';cases h';rfl
theorem Qn (sr:Same g.R H) {a:Addr}{xs ys:List V}(h:g.R a=some (.lst xs)) (h':g.R a=some (.lst ys)):xs=ys:=by
 rw [h] at h';cases h';rfl
theorem tl_ne (sr:Same g.R H) {a b:Addr}{xs ys:List V}(h:g.R a=some (.lst xs)) (h':g.R b=some (.tup ys)):a≠b:=by
 rintro rfl
 rw [h] at h';cases h'
mutual
theorem jz (I:Inv X pJ σ H s) (hK:X.K=Γ.K) (sr:Same g.R H):∀ (n:Nat) (a b:D) (x:V),okP n a=true->okP n b=true->Has Γ g a x->Has Γ g b x->eqP a b=true
 | n,.non,b,x,_,kb,ha,hb=>by
  cases (show x=.non from ha)
  cases b with
  | non=>rfl
  | bl=>cases (show V.non=_ from hb)
  | int=>cases (show V.non=_ from hb)
  | str=>cases (show V.non=_ from hb)
  | tup=>obtain ⟨_,_,h,_⟩:=hb;cases h
  | lst=>obtain ⟨_,_,h,_⟩:=hb;cases h
  | _=>cases n <;> exact nobE kb
 | n,.bl c,b,x,_,kb,ha,hb=>by
  cases (show x=.bl c from ha)
  cases b with
  | non=>cases (show V.bl c=_ from hb)
  | bl=>cases (show V.bl c=_ from hb);exact beq_self_eq_true c
  | int=>cases (show V.bl c=_ from hb)
  | str=>cases (show V.bl c=_ from hb)
  | tup=>obtain ⟨_,_,h,_⟩:=hb;cases h
  | lst=>obtain ⟨_,_,h,_⟩:=hb;cases h
  | _=>cases n <;> exact nobE kb
 | n,.int c,b,x,_,kb,ha,hb=>by
  cases (show x=.int c from ha)
  cases b with
  | non=>cases (show V.int c=_ from hb)
  | bl=>cases (show V.int c=_ from hb)
  | int=>cases (show V.int c=_ from hb);exact beq_self_eq_true c
  | str=>cases (show V.int c=_ from hb)
  | tup=>obtain ⟨_,_,h,_⟩:=hb;cases h
  | lst=>obtain ⟨_,_,h,_⟩:=hb;cases h
  | _=>cases n <;> exact nobE kb
 | n,.str c,b,x,_,kb,ha,hb=>by
  cases (show x=.str c from ha)
  cases b with
  | non=>cases (show V.str c=_ from hb)
  | bl=>cases (show V.str c=_ from hb)
  | int=>cases (show V.str c=_ from hb)
  | str=>cases (show V.str c=_ from hb);exact beq_self_eq_true c
  | tup=>obtain ⟨_,_,h,_⟩:=hb;cases h
  | lst=>obtain ⟨_,_,h,_⟩:=hb;cases h
  | _=>cases n <;> exact nobE kb
 | 0,.tup as,b,x,ka,_,_,_=>nobE ka
 | n+1,.tup as,b,x,ka,kb,⟨a,xs,h1,h2,h3⟩,hb=>by
  subst h1
  cases b with
  | non=>cases (show V.ref a=_ from hb)
  | bl=>cases (show V.ref a=_ from hb)
  | int=>cases (show V.ref a=_ from hb)
  | str=>cases (show V.ref a=_ from hb)
  | tup bs=>
   obtain ⟨a',ys,f1,f2,f3⟩:=hb
   cases f1
   have e:=K1 sr h2 f2
   subst e
   exact v8 I hK sr n as bs xs ka kb h3 f3
  | lst bs=>
   obtain ⟨a',ys,f1,f2,f3⟩:=hb
   cases f1
   exact absurd rfl (tl_ne sr f2 h2)
  | _=>exact nobE kb
 | 0,.lst as,b,x,ka,_,_,_=>nobE ka
 | n+1,.lst as,b,x,ka,kb,⟨a,xs,h1,h2,h3⟩,hb=>by
  subst h1
  cases b with
  | non=>cases (show V.ref a=_ from hb)
  | bl=>cases (show V.ref a=_ from hb)
  | int=>cases (show V.ref a=_ from hb)
  | str=>cases (show V.ref a=_ from hb)
  | tup bs=>
   obtain ⟨a',ys,f1,f2,f3⟩:=hb
   cases f1
   exact absurd rfl (tl_ne sr h2 f2)
  | lst bs=>
   obtain ⟨a',ys,f1,f2,f3⟩:=hb
   cases f1
   have e:=Qn sr h2 f2
   subst e
   exact v8 I hK sr n as bs xs ka kb h3 f3
  | _=>exact nobE kb
 | n,.dK _ _,b,x,ka,_,_,_=>by revert ka;cases n <;> exact nobE
 | n,.dT _ _,b,x,ka,_,_,_=>by revert ka;cases n <;> exact nobE
 | n,.ref _,b,x,ka,_,_,_=>by revert ka;cases n <;> exact nobE
 | n,.fn _,b,x,ka,_,_,_=>by revert ka;cases n <;> exact nobE
 | n,.scr _,b,x,ka,_,_,_=>by revert ka;cases n <;> exact nobE
 | n,.ktp _,b,x,ka,_,_,_=>by revert ka;cases n <;> exact nobE
 | n,.kdc _,b,x,ka,_,_,_=>by revert ka;cases n <;> exact nobE
 | n,.dF _ _,b,x,ka,_,_,_=>by revert ka;cases n <;> exact nobE
theorem v8 (I:Inv X pJ σ H s) (hK:X.K=Γ.K) (sr:Same g.R H):∀ (n:Nat) (as bs:List D) (xs:List V),okPs n as=true->okPs n bs=true->Hass Γ g as xs->Hass Γ g bs xs->eqPs as bs=true
 | n,[],bs,xs,_,_,ha,hb=>by
  cases (show xs=[] from ha)
  cases bs with
  | nil=>rfl
  | cons=>obtain ⟨_,_,h,_⟩:=hb;cases h
 | n,a::as,bs,xs,ka,kb,⟨v,r,h1,h2,h3⟩,hb=>by
  subst h1
  cases bs with
  | nil=>cases (show _=[] from hb)
  | cons b bs=>
   obtain ⟨v',r',f1,f2,f3⟩:=hb
   cases f1
   have ka':(okP n a&&okPs n as)=true:=ka
   have kb':(okP n b&&okPs n bs)=true:=kb
   rw [ε] at ka' kb'
   show (eqP a b&&eqPs as bs)=true
   rw [jz I hK sr n a b v ka'.1 kb'.1 h2 f2,v8 I hK sr n as bs r ka'.2 kb'.2 h3 f3]
   rfl
end
theorem vA:∀ (as bs:List D),as.length=bs.length->eqPs as bs=(ϵ as.length).all fun i=>eqP (as.getD i .non) (bs.getD i .non)
 | [],[],_=>rfl
 | a::as,b::bs,h=>by
  have ih:=vA as bs (by simpa using h)
  show (eqP a b&&eqPs as bs)=_
  rw [ih,bC,nR,ik,nW]
  rfl
 | [],_::_,h=>by simp at h
 | _::_,[],h=>by simp at h
theorem vz:∀ (as bs:List D),as.length≠bs.length->eqPs as bs=false
 | [],[],h=>absurd rfl h
 | a::as,b::bs,h=>by
  show (eqP a b&&eqPs as bs)=_
  rw [vz as bs (by simpa using h),gO]
 | [],_::_,h=>rfl
 | _::_,[],h=>rfl
theorem vp {as bs:List D}{xs ys:List V}{us ws:List δ}{n:Nat}{A:ϑ}(ka:okPs n as=true) (kb:okPs n bs=true) (ha:Hass Γ g as xs) (hb:Hass Γ g bs ys) (ra:Vals xs us) (rb:Vals ys ws)
  (ih:∀ (a b:D) (x y:V) (u v:δ),a∈as->okP n a=true->okP n b=true->Has Γ g a x->Has Γ g b y->RelV x u->RelV y v->EqAt A s u v (eqP a b)):
  ∀ (j:Nat) (h1:j < us.toArray.size) (h2:j < ws.toArray.size),EqAt A s us.toArray[j] ws.toArray[j] (eqP (as.getD j .non) (bs.getD j .non)):=by
 intro j h1 h2
 have l1:=ra.length
 have l2:=rb.length
 have l3:=ha.len
 have l4:=hb.len
 simp only [π] at h1 h2
 have k1:j < as.length:=by lia
 have k2:j < bs.length:=by lia
 obtain ⟨x,ex,hx⟩:=ha.get (ο k1)
 obtain ⟨y,ey,hy⟩:=hb.get (ο k2)
 obtain ⟨u,eu,ru⟩:=ra.get ex
 obtain ⟨v,ev,rv⟩:=rb.get ey
 have e1:us.toArray[j]'(by simpa using h1)=u:=by simpa [ο h1] using eu
 have e2:ws.toArray[j]'(by simpa using h2)=v:=by simpa [ο h2] using ev
 have g1:as.getD j .non=as[j]:=by simp [aH,k1]
 have g2:bs.getD j .non=bs[j]:=by simp [aH,k2]
 rw [e1,e2,g1,g2]
 have all:∀ (l:List D),okPs n l=true->∀ d∈l,okP n d=true:=by
  intro l
  induction l with
  | nil=>intro _ d hd;cases hd
  | cons c l il=>
   intro k d hd
   have k':(okP n c&&okPs n l)=true:=k
   rw [ε] at k'
   rcases Δ.mp hd with rfl | hd
   ·exact k'.1
   ·exact il k'.2 d hd
 exact ih _ _ x y u v (cV k1) (all as ka _ (cV k1)) (all bs kb _ (cV k2)) hx hy ru rv
theorem isT {a:Addr}{its:Array δ}{h:Heap}(p:iR h a its):h.IsTuple a its:=p
theorem units_in1 (A:ϑ):A.in1.units=A.units+1:=rfl
noncomputable def scD:D->Option V
 | .non=>some .non
 | .bl b=>some (.bl b)
 | .int i=>some (.int i)
 | .str x=>some (.str x)
 | _=>none
theorem yE {d:D}{w x:V}(h:scD d=some w) (hh:Has Γ g d x):x=w:=by
 cases d <;> first | cases h | skip
 all_goals exact hh
theorem wX {d:D}{w:V}(h:scD d=some w):flatV w=true:=by
 cases d <;> first | cases h | skip
 all_goals rfl
theorem Jt {a b:D}{x y:V}(h:scD a=some x) (h':scD b=some y):eqV x y=eqP a b:=by
 cases a <;> first | cases h | skip
 all_goals (cases b <;> first | cases h' | skip)
 all_goals rfl
theorem zK {n:Nat}{d:D}(h:okP n d=true):(∃ w,scD d=some w)\/(∃ m ds,n=m+1/\d=.tup ds/\okPs m ds=true)\/(∃ m ds,n=m+1/\d=.lst ds/\okPs m ds=true):=by
 cases d with
 | non=>exact .inl ⟨_,rfl⟩
 | bl=>exact .inl ⟨_,rfl⟩
 | int=>exact .inl ⟨_,rfl⟩
 | str=>exact .inl ⟨_,rfl⟩
 | tup ds=>cases n with
  | zero=>exact nobE h
  | succ m=>exact .inr (.inl ⟨m,ds,rfl,rfl,h⟩)
 | lst ds=>cases n with
  | zero=>exact nobE h
  | succ m=>exact .inr (.inr ⟨m,ds,rfl,rfl,h⟩)
 | _=>cases n <;> exact nobE h
section
variable {A:ϑ}{l:Addr}{its:Array δ}{w:V}{v:δ}{d:D}
theorem Vx (p:s.heap.IsTuple l its) (hu:A.units < aG) (h:scD d=some w) (r:RelV w v):EqAt A s (.ref l) v false:=by
 cases d with
 | non=>cases h;cases (show v=Β from r);exact EqAt.tuple_none p hu
 | bl b=>cases h;cases (show v=ύ b from r);exact EqAt.tuple_bool b p hu
 | int i=>cases h;obtain ⟨t,rfl⟩:=(show ∃ t,v=ϕ i t from r);exact EqAt.tuple_int i t p hu
 | str i=>cases h;obtain ⟨t,rfl⟩:=(show ∃ t,v=aY i t from r);exact EqAt.tuple_str i t p hu
 | _=>cases h
theorem Vy (p:s.heap.IsTuple l its) (hu:A.units < aG) (h:scD d=some w) (r:RelV w v):EqAt A s v (.ref l) false:=by
 cases d with
 | non=>cases h;cases (show v=Β from r);exact EqAt.none_tuple p hu
 | bl b=>cases h;cases (show v=ύ b from r);exact EqAt.bool_tuple b p hu
 | int i=>cases h;obtain ⟨t,rfl⟩:=(show ∃ t,v=ϕ i t from r);exact EqAt.int_tuple i t p hu
 | str i=>cases h;obtain ⟨t,rfl⟩:=(show ∃ t,v=aY i t from r);exact EqAt.str_tuple i t p hu
 | _=>cases h
theorem VB (p:s.heap.IsList l its) (hu:A.units < aG) (h:scD d=some w) (r:RelV w v):EqAt A s (.ref l) v false:=by
 cases d with
 | non=>cases h;cases (show v=Β from r);exact EqAt.list_none p hu
 | bl b=>cases h;cases (show v=ύ b from r);exact EqAt.list_bool b p hu
 | int i=>cases h;obtain ⟨t,rfl⟩:=(show ∃ t,v=ϕ i t from r);exact EqAt.list_int i t p hu
 | str i=>cases h;obtain ⟨t,rfl⟩:=(show ∃ t,v=aY i t from r);exact EqAt.list_str i t p hu
 | _=>cases h
theorem Vz (p:s.heap.IsList l its) (hu:A.units < aG) (h:scD d=some w) (r:RelV w v):EqAt A s v (.ref l) false:=by
 cases d with
 | non=>cases h;cases (show v=Β from r);exact EqAt.none_list p hu
 | bl b=>cases h;cases (show v=ύ b from r);exact EqAt.bool_list b p hu
 | int i=>cases h;obtain ⟨t,rfl⟩:=(show ∃ t,v=ϕ i t from r);exact EqAt.int_list i t p hu
 | str i=>cases h;obtain ⟨t,rfl⟩:=(show ∃ t,v=aY i t from r);exact EqAt.str_list i t p hu
 | _=>cases h
end
theorem zR {d:D}{w:V}{bs:List D}(h:scD d=some w):eqP d (.tup bs)=false/\eqP (.tup bs) d=false/\eqP d (.lst bs)=false/\eqP (.lst bs) d=false:=by
 cases d <;> first | cases h | skip
 all_goals exact ⟨rfl,rfl,rfl,rfl⟩
theorem JB {as bs:List D}{xs ys:List V}{us ws:List δ}(r1:Vals xs us) (r2:Vals ys ws) (h3:Hass Γ g as xs) (f3:Hass Γ g bs ys):
  ((ϵ (min us.toArray.size ws.toArray.size)).all (fun j=>eqP (as.getD j .non) (bs.getD j .non))&&us.toArray.size==ws.toArray.size)=eqPs as bs:=by
 have l1:=r1.length
 have l2:=r2.length
 have l3:=h3.len
 have l4:=f3.len
 simp only [π]
 by_cases hl:as.length=bs.length
 ·rw [vA as bs hl]
  have m1:us.length=as.length:=by lia
  have m2:ws.length=as.length:=by lia
  rw [m1,m2]
  simp
 ·rw [vz as bs hl]
  have:¬ us.length=ws.length:=by lia
  simp [this]
theorem JC {as bs:List D}{xs ys:List V}{us ws:List δ}{a b:Addr}{n:Nat}{A:ϑ}(ka:okPs n as=true) (kb:okPs n bs=true) (p1:PlainL s.heap a us.toArray) (p2:PlainL s.heap b ws.toArray) (r1:Vals xs us) (r2:Vals ys ws)
  (h3:Hass Γ g as xs) (f3:Hass Γ g bs ys) (hu:A.units < aG) (ih:∀ (a b:D) (x y:V) (u v:δ),a∈as->okP n a=true->okP n b=true->Has Γ g a x->Has Γ g b y->RelV x u->RelV y v->EqAt A.in1 s u v (eqP a b)):
  RcAt A s (.ref a) (.ref b) (eqPs as bs):=by
 have l1:=r1.length
 have l2:=r2.length
 have l3:=h3.len
 have l4:=f3.len
 by_cases hl:as.length=bs.length
 ·have k:=RcAt.lists p1.isList p2.isList (by simp only [π];lia) hu (vp (A:=A.in1) ka kb h3 f3 r1 r2 ih)
  have m1:us.toArray.size=as.length:=by simp only [π];lia
  rw [m1,<- vA as bs hl] at k
  exact k
 ·rw [vz as bs hl]
  exact RcAt.lists_lengths (A:=A) p1.isList p2.isList (by simp only [π,bne_iff_ne];lia) hu
theorem jA (I:Inv X pJ σ H s) (hK:X.K=Γ.K) (sr:Same g.R H):∀ (n:Nat) (a b:D) (x y:V) (u v:δ) (A:ϑ),A.units+n+1 < aG->okP n a=true->okP n b=true->Has Γ g a x->Has Γ g b y->RelV x u->RelV y v->EqAt A s u v (eqP a b):=by
 intro n
 induction n with
 | zero=>
  intro a b x y u v A hu ka kb ha hb ru rv
  rcases zK ka with ⟨w,hw⟩ | ⟨m,ds,e,_⟩ | ⟨m,ds,e,_⟩
  ·rcases zK kb with ⟨w',hw'⟩ | ⟨m,ds,e,_⟩ | ⟨m,ds,e,_⟩
   ·rw [yE hw ha] at ru
    rw [yE hw' hb] at rv
    rw [<- Jt hw hw']
    exact Km ru rv (wX hw) (wX hw')
   ·cases e
   ·cases e
  ·cases e
  ·cases e
 | succ n ih=>
  intro a b x y u v A hu ka kb ha hb ru rv
  have hu':A.units < aG:=by lia
  have hin:A.in1.units+n+1 < aG:=by rw [units_in1];lia
  rcases zK ka with ⟨w,hw⟩ | ⟨m,as,e,e1,kas⟩ | ⟨m,as,e,e1,kas⟩
  ·rcases zK kb with ⟨w',hw'⟩ | ⟨m,bs,e,e2,kbs⟩ | ⟨m,bs,e,e2,kbs⟩
   ·rw [yE hw ha] at ru
    rw [yE hw' hb] at rv
    rw [<- Jt hw hw']
    exact Km ru rv (wX hw) (wX hw')
   ·subst e2
    rw [yE hw ha] at ru
    obtain ⟨b,ys,rfl,f2,f3⟩:=hb
    cases rv
    obtain ⟨ws,r2,p2,_⟩:=I.tuple (SqT.of (sr _ _ f2))
    rw [(zR hw).1]
    exact Vy (isT p2) hu' hw ru
   ·subst e2
    rw [yE hw ha] at ru
    obtain ⟨b,ys,rfl,f2,f3⟩:=hb
    cases rv
    obtain ⟨ws,r2,p2,_⟩:=I.list (SqL.of (sr _ _ f2))
    rw [(zR hw).2.2.1]
    exact Vz p2.isList hu' hw ru
  ·subst e1
   cases e
   obtain ⟨a,xs,rfl,h2,h3⟩:=ha
   cases ru
   obtain ⟨us,r1,p1,_⟩:=I.tuple (SqT.of (sr _ _ h2))
   rcases zK kb with ⟨w',hw'⟩ | ⟨m,bs,e,e2,kbs⟩ | ⟨m,bs,e,e2,kbs⟩
   ·rw [yE hw' hb] at rv
    rw [(zR hw').2.1]
    exact Vx (isT p1) hu' hw' rv
   ·subst e2
    cases e
    obtain ⟨b,ys,rfl,f2,f3⟩:=hb
    cases rv
    by_cases e:a=b
    ·subst e
     have:=jz I hK sr (n+1) (.tup as) (.tup bs) (.ref a) ka kb ⟨a,xs,rfl,h2,h3⟩ ⟨a,ys,rfl,f2,f3⟩
     rw [this]
     exact EqAt.same _
    ·obtain ⟨ws,r2,p2,_⟩:=I.tuple (SqT.of (sr _ _ f2))
     have k:=RcAt.tuples (isT p1) (isT p2) hu' (vp (A:=A.in1) kas kbs h3 f3 r1 r2 fun a b x y u v _ ka kb ha hb ru rv=>ih a b x y u v A.in1 hin ka kb ha hb ru rv)
     rw [JB r1 r2 h3 f3] at k
     exact EqAt.of_refs e k
   ·subst e2
    cases e
    obtain ⟨b,ys,rfl,f2,f3⟩:=hb
    cases rv
    obtain ⟨ws,r2,p2,_⟩:=I.list (SqL.of (sr _ _ f2))
    exact EqAt.tuple_list (isT p1) p2.isList hu'
  ·subst e1
   cases e
   obtain ⟨a,xs,rfl,h2,h3⟩:=ha
   cases ru
   obtain ⟨us,r1,p1,_⟩:=I.list (SqL.of (sr _ _ h2))
   rcases zK kb with ⟨w',hw'⟩ | ⟨m,bs,e,e2,kbs⟩ | ⟨m,bs,e,e2,kbs⟩
   ·rw [yE hw' hb] at rv
    rw [(zR hw').2.2.2]
    exact VB p1.isList hu' hw' rv
   ·subst e2
    cases e
    obtain ⟨b,ys,rfl,f2,f3⟩:=hb
    cases rv
    obtain ⟨ws,r2,p2,_⟩:=I.tuple (SqT.of (sr _ _ f2))
    exact EqAt.list_tuple p1.isList (isT p2) hu'
   ·subst e2
    cases e
    obtain ⟨b,ys,rfl,f2,f3⟩:=hb
    cases rv
    by_cases e:a=b
    ·subst e
     have:=jz I hK sr (n+1) (.lst as) (.lst bs) (.ref a) ka kb ⟨a,xs,rfl,h2,h3⟩ ⟨a,ys,rfl,f2,f3⟩
     rw [this]
     exact EqAt.same _
    ·obtain ⟨ws,r2,p2,_⟩:=I.list (SqL.of (sr _ _ f2))
     exact EqAt.of_refs e (JC kas kbs p1 p2 r1 r2 h3 f3 hu' fun a b x y u v _ ka kb ha hb ru rv=>ih a b x y u v A.in1 hin ka kb ha hb ru rv)
end
section
variable {X:Cx}{pJ:List (Addr×Obj)}{σ:L2.St}{H:Hp}{s:μ}{Γ:Gm}{g:G}
section
variable {A:ϑ}{l:Addr}{its:Array δ}{w:V}{v:δ}{d:D}
theorem jV (p:s.heap.IsTuple l its) (hu:A.units < aG) (h:scD d=some w) (r:RelV w v):RcAt A s (.ref l) v false/\RcAt A s v (.ref l) false/\ϥ A s (.ref l) v true/\ϥ A s v (.ref l) true:=by
 cases d with
 | non=>cases h;cases (show v=Β from r);exact ⟨RcAt.tuple_none p hu,RcAt.none_tuple p hu,ϥ.tuple_none p hu,ϥ.none_tuple p hu⟩
 | bl b=>cases h;cases (show v=ύ b from r);exact ⟨RcAt.tuple_bool b p hu,RcAt.bool_tuple b p hu,ϥ.tuple_bool b p hu,ϥ.bool_tuple b p hu⟩
 | int i=>cases h;obtain ⟨t,rfl⟩:=(show ∃ t,v=ϕ i t from r);exact ⟨RcAt.tuple_int i t p hu,RcAt.int_tuple i t p hu,ϥ.tuple_int i t p hu,ϥ.int_tuple i t p hu⟩
 | str i=>cases h;obtain ⟨t,rfl⟩:=(show ∃ t,v=aY i t from r);exact ⟨RcAt.tuple_str i t p hu,RcAt.str_tuple i t p hu,ϥ.tuple_str i t p hu,ϥ.str_tuple i t p hu⟩
 | _=>cases h
theorem jW (p:s.heap.IsList l its) (hu:A.units < aG) (h:scD d=some w) (r:RelV w v):RcAt A s (.ref l) v false/\RcAt A s v (.ref l) false/\ϥ A s (.ref l) v true/\ϥ A s v (.ref l) true:=by
 cases d with
 | non=>cases h;cases (show v=Β from r);exact ⟨RcAt.list_none p hu,RcAt.none_list p hu,ϥ.list_none p hu,ϥ.none_list p hu⟩
 | bl b=>cases h;cases (show v=ύ b from r);exact ⟨RcAt.list_bool b p hu,RcAt.bool_list b p hu,ϥ.list_bool b p hu,ϥ.bool_list b p hu⟩
 | int i=>cases h;obtain ⟨t,rfl⟩:=(show ∃ t,v=ϕ i t from r);exact ⟨RcAt.list_int i t p hu,RcAt.int_list i t p hu,ϥ.list_int i t p hu,ϥ.int_list i t p hu⟩
 | str i=>cases h;obtain ⟨t,rfl⟩:=(show ∃ t,v=aY i t from r);exact ⟨RcAt.list_str i t p hu,RcAt.str_list i t p hu,ϥ.list_str i t p hu,ϥ.str_list i t p hu⟩
 | _=>cases h
theorem Uc {a b:D}{x y:V}{u v:δ}(h:scD a=some x) (h':scD b=some y) (r:RelV x u) (r':RelV y v):RcAt A s u v (eqP a b)/\ϥ A s u v (!eqP a b):=by
 cases a with
 | non=>
  cases h;cases (show u=Β from r)
  cases b with
  | non=>cases h';cases (show v=Β from r');exact ⟨RcAt.none_none,ϥ.none_none⟩
  | bl b=>cases h';cases (show v=ύ b from r');exact ⟨RcAt.none_bool _,ϥ.none_bool _⟩
  | int b=>cases h';obtain ⟨t,rfl⟩:=(show ∃ t,v=ϕ b t from r');exact ⟨RcAt.none_int _ _,ϥ.none_int _ _⟩
  | str b=>cases h';obtain ⟨t,rfl⟩:=(show ∃ t,v=aY b t from r');exact ⟨RcAt.none_str _ _,ϥ.none_str _ _⟩
  | _=>cases h'
 | bl a=>
  cases h;cases (show u=ύ a from r)
  cases b with
  | non=>cases h';cases (show v=Β from r');exact ⟨RcAt.bool_none _,ϥ.bool_none _⟩
  | bl b=>cases h';cases (show v=ύ b from r');exact ⟨RcAt.bool_bool _ _,ϥ.bool_bool _ _⟩
  | int b=>cases h';obtain ⟨t,rfl⟩:=(show ∃ t,v=ϕ b t from r');exact ⟨RcAt.bool_int _ _ _,ϥ.bool_int _ _ _⟩
  | str b=>cases h';obtain ⟨t,rfl⟩:=(show ∃ t,v=aY b t from r');exact ⟨RcAt.bool_str _ _ _,ϥ.bool_str _ _ _⟩
  | _=>cases h'
 | int a=>
  cases h;obtain ⟨t',rfl⟩:=(show ∃ t,u=ϕ a t from r)
  cases b with
  | non=>cases h';cases (show v=Β from r');exact ⟨RcAt.int_none _ _,ϥ.int_none _ _⟩
  | bl b=>cases h';cases (show v=ύ b from r');exact ⟨RcAt.int_bool _ _ _,ϥ.int_bool _ _ _⟩
  | int b=>cases h';obtain ⟨t,rfl⟩:=(show ∃ t,v=ϕ b t from r');exact ⟨RcAt.int_int _ _ _ _,ϥ.int_int _ _ _ _⟩
  | str b=>cases h';obtain ⟨t,rfl⟩:=(show ∃ t,v=aY b t from r');exact ⟨RcAt.int_str _ _ _ _,ϥ.int_str _ _ _ _⟩
  | _=>cases h'
 | str a=>
  cases h;obtain ⟨t',rfl⟩:=(show ∃ t,u=aY a t from r)
  cases b with
  | non=>cases h';cases (show v=Β from r');exact ⟨RcAt.str_none _ _,ϥ.str_none _ _⟩
  | bl b=>cases h';cases (show v=ύ b from r');exact ⟨RcAt.str_bool _ _ _,ϥ.str_bool _ _ _⟩
  | int b=>cases h';obtain ⟨t,rfl⟩:=(show ∃ t,v=ϕ b t from r');exact ⟨RcAt.str_int _ _ _ _,ϥ.str_int _ _ _ _⟩
  | str b=>cases h';obtain ⟨t,rfl⟩:=(show ∃ t,v=aY b t from r');exact ⟨RcAt.str_str _ _ _ _,ϥ.str_str _ _ _ _⟩
  | _=>cases h'
 | _=>cases h
end
theorem xV {d:D}{w x:V}(h:scD d=some w) (hh:Rdb Γ H g d x):x=w:=by
 cases d <;> first | cases h | skip
 all_goals exact hh
theorem rc_D (I:Inv X pJ σ H s) (hK:X.K=Γ.K) (sr:Same g.R H) (n:Nat) (a b:D) (x y:V) (u v:δ) (A:ϑ) (hu:A.units+n+1 < aG) (ka:okP n a=true) (kb:okP n b=true) (ha:Rdb Γ H g a x) (hb:Rdb Γ H g b y) (ru:RelV x u) (rv:RelV y v):
  RcAt A s u v (eqP a b)/\ϥ A s u v (!eqP a b):=by
 have hu':A.units < aG:=by lia
 rcases zK ka with ⟨w,hw⟩ | ⟨m,as,e,e1,kas⟩ | ⟨m,as,e,e1,kas⟩
 ·rcases zK kb with ⟨w',hw'⟩ | ⟨m,bs,e,e2,kbs⟩ | ⟨m,bs,e,e2,kbs⟩
  ·rw [xV hw ha] at ru
   rw [xV hw' hb] at rv
   exact Uc hw hw' ru rv
  ·subst e2
   rw [xV hw ha] at ru
   obtain ⟨b,ys,rfl,f2,f3⟩:=hb
   cases rv
   obtain ⟨ws,r2,p2,_⟩:=I.tuple (SqT.of (sr _ _ f2))
   rw [(zR hw).1]
   have k:=jV (A:=A) (isT p2) hu' hw ru
   exact ⟨k.2.1,k.2.2.2⟩
  ·subst e2
   rw [xV hw ha] at ru
   obtain ⟨b,ys,rfl,f2,f3⟩:=hb
   cases rv
   obtain ⟨ws,r2,p2,_⟩:=I.list (SqL.of f2)
   rw [(zR hw).2.2.1]
   have k:=jW (A:=A) p2.isList hu' hw ru
   exact ⟨k.2.1,k.2.2.2⟩
 ·subst e1
  cases e
  have hin:A.in1.units+m+1 < aG:=by rw [units_in1];lia
  obtain ⟨a,xs,rfl,h2,h3⟩:=ha
  cases ru
  obtain ⟨us,r1,p1,_⟩:=I.tuple (SqT.of (sr _ _ h2))
  rcases zK kb with ⟨w',hw'⟩ | ⟨m',bs,e,e2,kbs⟩ | ⟨m',bs,e,e2,kbs⟩
  ·rw [xV hw' hb] at rv
   rw [(zR hw').2.1]
   have k:=jV (A:=A) (isT p1) hu' hw' rv
   exact ⟨k.1,k.2.2.1⟩
  ·subst e2
   cases e
   obtain ⟨b,ys,rfl,f2,f3⟩:=hb
   cases rv
   obtain ⟨ws,r2,p2,_⟩:=I.tuple (SqT.of (sr _ _ f2))
   have it:=vp (A:=A.in1) kas kbs h3 f3 r1 r2 fun a b x y u v _ ka kb ha hb ru rv=>jA I hK sr m a b x y u v A.in1 hin ka kb ha hb ru rv
   have k1:=RcAt.tuples (isT p1) (isT p2) hu' it
   have k2:=ϥ.tuples (isT p1) (isT p2) hu' it
   rw [JB r1 r2 h3 f3] at k1 k2
   exact ⟨k1,k2⟩
  ·subst e2
   cases e
   obtain ⟨b,ys,rfl,f2,f3⟩:=hb
   cases rv
   obtain ⟨ws,r2,p2,_⟩:=I.list (SqL.of f2)
   exact ⟨RcAt.tuple_list (isT p1) p2.isList hu',ϥ.tuple_list (isT p1) p2.isList hu'⟩
 ·subst e1
  cases e
  have hin:A.in1.units+m+1 < aG:=by rw [units_in1];lia
  obtain ⟨a,xs,rfl,h2,h3⟩:=ha
  cases ru
  obtain ⟨us,r1,p1,_⟩:=I.list (SqL.of h2)
  rcases zK kb with ⟨w',hw'⟩ | ⟨m',bs,e,e2,kbs⟩ | ⟨m',bs,e,e2,kbs⟩
  ·rw [xV hw' hb] at rv
   rw [(zR hw').2.2.2]
   have k:=jW (A:=A) p1.isList hu' hw' rv
   exact ⟨k.1,k.2.2.1⟩
  ·subst e2
   cases e
   obtain ⟨b,ys,rfl,f2,f3⟩:=hb
   cases rv
   obtain ⟨ws,r2,p2,_⟩:=I.tuple (SqT.of (sr _ _ f2))
   exact ⟨RcAt.list_tuple p1.isList (isT p2) hu',ϥ.list_tuple p1.isList (isT p2) hu'⟩
  ·subst e2
   cases e
   obtain ⟨b,ys,rfl,f2,f3⟩:=hb
   cases rv
   obtain ⟨ws,r2,p2,_⟩:=I.list (SqL.of f2)
   have ih:∀ (a b:D) (x y:V) (u v:δ),a∈as->okP m a=true->okP m b=true->Has Γ g a x->Has Γ g b y->RelV x u->RelV y v->EqAt A.in1 s u v (eqP a b):=fun a b x y u v _ ka kb ha hb ru rv=>jA I hK sr m a b x y u v A.in1 hin ka kb ha hb ru rv
   refine ⟨JC kas kbs p1 p2 r1 r2 h3 f3 hu' ih,?_⟩
   have l1:=r1.length
   have l2:=r2.length
   have l3:=h3.len
   have l4:=f3.len
   show ϥ A s _ _ (!eqPs as bs)
   by_cases hl:as.length=bs.length
   ·have k:=ϥ.lists p1.isList p2.isList (by simp only [π];lia) hu' (vp (A:=A.in1) kas kbs h3 f3 r1 r2 ih)
    have m1:us.toArray.size=as.length:=by simp only [π];lia
    rw [m1,<- vA as bs hl] at k
    exact k
   ·rw [vz as bs hl]
    exact ϥ.lists_lengths (A:=A) p1.isList p2.isList (by simp only [π,bne_iff_ne];lia) hu'
end
def rDat (Γ:Gm) (a b:D) (z:D):R2:=fun x y H Q=>∃ g,Same g.R H/\Rdb Γ H g a x/\Rdb Γ H g b y/\∀ v,(∀ g,Has Γ g z v)->Q v H
theorem ZV {Γ:Gm}{a b:D}{c:Bool}:RDo Γ (rDat Γ a b (.bl c)) a b (.bl c) false:=fun S H g x y Q w hx hy q=>⟨g,w.rh,hx,hy,fun v hv=>zg w q (hv g)⟩
section
variable {X:Cx}{Γ:Gm}
theorem zb1 (hK:X.K=Γ.K) (hu:X.A.units+61 < aG) {a b:D}(ka:okP 60 a=true) (kb:okP 60 b=true):OpR X (ϔ .Eq) (rDat Γ a b (.bl (eqP a b))):=by
 intro pJ s σ H x y v u Q I rx ry ⟨g,sr,ha,hb,q⟩
 exact (rc_D I hK sr 60 a b x y v u X.A hu ka kb ha hb rx ry).1 X.prog X.w X.xe _ ⟨.bl _,H,I,rfl,q _ fun _=>rfl⟩
theorem zbV (hK:X.K=Γ.K) (hu:X.A.units+61 < aG) {a b:D}(ka:okP 60 a=true) (kb:okP 60 b=true):OpR X (ϔ .NotEq) (rDat Γ a b (.bl (!eqP a b))):=by
 intro pJ s σ H x y v u Q I rx ry ⟨g,sr,ha,hb,q⟩
 exact (rc_D I hK sr 60 a b x y v u X.A hu ka kb ha hb rx ry).2 X.prog X.w X.xe _ ⟨.bl _,H,I,rfl,q _ fun _=>rfl⟩
end
section
variable {Γ:Gm}{H:Hp}{g:G}
theorem uL {d:D}{x:V}(h:Rdb Γ H g d x):decide (x=.non)=isNone d:=by
 cases d with
 | non=>cases (show x=.non from h);rfl
 | bl=>cases (show x=.bl _ from h);rfl
 | int=>cases (show x=.int _ from h);rfl
 | str=>cases (show x=.str _ from h);rfl
 | tup=>obtain ⟨_,_,rfl,_⟩:=h;rfl
 | lst=>obtain ⟨_,_,rfl,_⟩:=h;rfl
 | dK=>obtain ⟨_,_,rfl,_⟩:=h;rfl
 | dT=>obtain ⟨_,_,rfl,_⟩:=h;rfl
 | ref=>obtain ⟨_,rfl⟩:=h;rfl
 | fn=>obtain ⟨_,_,rfl⟩:=h;rfl
 | scr=>obtain ⟨_,rfl,_⟩:=h;rfl
 | ktp=>obtain ⟨_,_,rfl,_⟩:=h;rfl
 | kdc=>obtain ⟨_,rfl,_⟩:=h;rfl
 | dF=>obtain ⟨_,_,_,rfl,_⟩:=h;rfl
theorem vh {κ:Type} [DecidableEq κ] (k:κ):∀ {ks:List κ}{ds:List D}{vs:List V},ks.length=ds.length->Hass Γ g ds vs ->
  (∀ d,lookK ks ds k=some d->∃ v,valV (ks.zip vs) k=some v/\Has Γ g d v)/\(lookK ks ds k=none->valV (ks.zip vs) k=none)
 | [],[],vs,_,h=>by
  refine ⟨fun d e=>?_,fun _=>?_⟩
  ·simp [lookK,findK] at e
  ·rfl
 | k'::ks,d'::ds,vs,hl,⟨v,r,e1,hv,hr⟩=>by
  subst e1
  have ih:=vh k (ks:=ks) (ds:=ds) (vs:=r) (by simpa using hl) hr
  show (∀ d,lookK (k'::ks) (d'::ds) k=some d->∃ v',valV ((k',v)::ks.zip r) k=some v'/\_)/\(_->valV ((k',v)::ks.zip r) k=none)
  by_cases e:k'=k
  ·have e2:lookK (k'::ks) (d'::ds) k=some d':=by simp [lookK,findK,e]
   rw [e2,wR (p:=(k',v)) e]
   exact ⟨fun d h=>⟨v,rfl,by cases h;exact hv⟩,fun h=>by cases h⟩
  ·have e2:lookK (k'::ks) (d'::ds) k=lookK ks ds k:=by
    simp only [lookK,findK,if_neg e]
    cases findK ks k <;> rfl
   rw [e2,wU (p:=(k',v)) e]
   exact ih
 | [],_::_,_,hl,_=>by simp at hl
 | _::_,[],_,hl,_=>by simp at hl
theorem zad {d:D}{k:Key}{x:V}(h:keyD d=some k) (hh:Rdb Γ H g d x):x=kV k:=by
 cases d <;> first | cases h | skip
 all_goals exact hh
theorem U3 {d:D}{k:Key}{x:V}(h:keyD d=some k) (hh:Has Γ g d x):x=kV k:=by
 cases d <;> first | cases h | skip
 all_goals exact hh
set_option tactic.hygienic true in
theorem vm:∀ {l:List D}{ks:List Key}{xs:List V},keysD l=some ks->Hass Γ g l xs->xs=ks.map kV
 | [],ks,xs,h,hh=>by
  cases (show some []=some ks from h)
  exact hh
 | d::l,ks,xs,h,⟨v,r,e,hv,hr⟩=>by
  subst e
  simp only [keysD] at h
  split at h
  ·rename_i k ks' e1 e2
   cases h
   rw [U3 e1 hv,vm e2 hr]
   rfl
  ·cases h
theorem Yl {S:Store}{c k:D}{o:Option D}{x y:V}(w:WOk Γ H g S) (h:dgetD c k=some o) (hc:Rdb Γ H g c x) (hk:Rdb Γ H g k y):
  ∃ a v,x=.ref a/\DGet H a y v/\IsD H a/\(∀ d,o=some d->∃ u,v=some u/\Has Γ g d u)/\(o=none->v=none):=by
 cases c with
 | dK ks ds=>
  obtain ⟨a,vs,rfl,h1,h2,h3⟩:=hc
  simp only [dgetD,Ζ] at h
  obtain ⟨k',e1,e2⟩:=h
  obtain ⟨z1,z2⟩:=vh k' h2 h3
  refine ⟨a,valV (ks.zip vs) k',rfl,.inl ⟨_,k',.inl h1,zad e1 hk,rfl⟩,.inl ⟨_,.inl h1⟩,fun d e=>?_,fun e=>?_⟩
  ·exact z1 d (e2.trans e)
  ·exact z2 (e2.trans e)
 | dT ks ds=>
  obtain ⟨a,vs,rfl,h1,h2,h3⟩:=hc
  cases k with
  | tup t=>
   obtain ⟨b,ys,rfl,f1,f2⟩:=hk
   simp only [dgetD,Ζ] at h
   obtain ⟨k',e1,e2⟩:=h
   obtain ⟨z1,z2⟩:=vh k' h2 h3
   have ey:=vm e1 f2
   refine ⟨a,valV (ks.zip vs) k',rfl,.inr ⟨_,k',b,.inl h1,rfl,by rw [<- ey];exact w.rh _ _ f1,rfl⟩,.inr ⟨_,.inl h1⟩,fun d e=>?_,fun e=>?_⟩
   ·exact z1 d (e2.trans e)
   ·exact z2 (e2.trans e)
  | _=>cases h
 | dF ks ds=>
  obtain ⟨a,vs,o,rfl,h1,h2,h3⟩:=hc
  cases k with
  | tup t=>
   obtain ⟨b,ys,rfl,f1,f2⟩:=hk
   simp only [dgetD,Ζ] at h
   obtain ⟨k',e1,e2⟩:=h
   obtain ⟨z1,z2⟩:=vh k' h2 h3
   have ey:=vm e1 f2
   refine ⟨a,valV (ks.zip vs) k',rfl,.inr ⟨_,k',b,.inr ⟨o,h1⟩,rfl,by rw [<- ey];exact w.rh _ _ f1,rfl⟩,.inr ⟨_,.inr ⟨o,h1⟩⟩,fun d e=>?_,fun e=>?_⟩
   ·exact z1 d (e2.trans e)
   ·exact z2 (e2.trans e)
  | _=>cases h
 | _=>cases h
end
section
variable {X:Cx}{Γ:Gm}
def rInD (neg:Bool):R2:=fun x y H Q=>∃ a o,y=.ref a/\DGet H a x o/\Q (.bl (if neg then !o.isSome else o.isSome)) H
theorem zb0 (hu:X.A.units+1 < aG):OpR X (ϔ .In) (rInD false):=by
 intro pJ s σ H x y v u Q I rx ry ⟨a,o,e,h,q⟩
 subst e
 cases ry
 exact d_in hu I h rx fun s' I'=>⟨.bl o.isSome,H,I',rfl,q⟩
theorem Wa (hu:X.A.units+1 < aG):OpR X (ϔ .NotIn) (rInD true):=by
 intro pJ s σ H x y v u Q I rx ry ⟨a,o,e,h,q⟩
 subst e
 cases ry
 exact zax hu I h rx fun s' I'=>⟨.bl (!o.isSome),H,I',rfl,q⟩
theorem sq_of {H:Hp}{g:G}{S:Store}{d:D}{l:List D}{x:V}(hK:X.K=Γ.K) (w:WOk Γ H g S) (h:seqD d=some l) (hd:Rdb Γ H g d x):∃ a xs,x=.ref a/\(SqL X.K H a xs\/SqT X.K H a xs)/\Hass Γ g l xs:=by
 cases d with
 | tup ds=>cases h;obtain ⟨a,vs,e,h1,h2⟩:=hd;exact ⟨a,vs,e,.inr (SqT.of (w.rh _ _ h1)),h2⟩
 | lst ds=>cases h;obtain ⟨a,vs,e,h1,h2⟩:=hd;exact ⟨a,vs,e,.inl (SqL.of h1),h2⟩
 | scr ns=>cases h;obtain ⟨a,e,h1⟩:=hd;exact ⟨a,_,e,.inl (by rw [hK];exact h1),Hass.ints⟩
 | ktp ds=>cases h;obtain ⟨a,vs,e,h1,h2⟩:=hd;exact ⟨a,vs,e,.inr (by rw [hK];exact .inr h1),h2⟩
 | _=>cases h
theorem zcx {H:Hp}{g:G}{a:D}{x:V}(h:isSc a=true) (hx:Rdb Γ H g a x):Has Γ g a x:=by
 cases a with
 | non | bl _ | int _ | str _ | tup _=>exact hx
 | _=>cases (show false=true from h)
theorem sc_ok {a:D}(h:isSc a=true):okP 59 a=true:=by
 cases a with
 | lst _=>cases (show false=true from h)
 | _=>exact h
noncomputable def memE (Γ:Gm) (g:G) (l:List D) (a:D) (w:δ):Bool:=@decide (∃ d∈l,∃ y,Has Γ g d y/\RelV y w/\eqP d a=true) (fD _)
theorem vf {g:G}{l:List D}{a:D}{w:δ}:memE Γ g l a w=true ↔ ∃ d∈l,∃ y,Has Γ g d y/\RelV y w/\eqP d a=true:=⟨@of_decide_eq_true _ (fD _),@decide_eq_true _ (fD _)⟩
theorem JX {g:G}:∀ {l:List D}{xs:List V}{us:List δ},Hass Γ g l xs->Vals xs us->∀ d∈l,∃ y w,w∈us/\Has Γ g d y/\RelV y w
 | [],_,_,_,_,d,hd=>by cases hd
 | c::l,_,_,⟨v,r,rfl,hc,hr⟩,.cons q t,d,hd=>by
  rcases Δ.mp hd with rfl | hd
  ·exact ⟨v,_,ι,hc,q⟩
  ·obtain ⟨y,w,h1,h2⟩:=JX hr t d hd
   exact ⟨y,w,θ _ h1,h2⟩
theorem Wr {g:G}:∀ {l:List D}{xs:List V}{us:List δ},Hass Γ g l xs->Vals xs us->∀ w∈us,∃ d∈l,∃ y,Has Γ g d y/\RelV y w
 | [],_,_,h,t,w,hw=>by
  cases (show _=[] from h)
  cases t
  cases hw
 | c::l,_,_,⟨v,r,rfl,hc,hr⟩,.cons q t,w,hw=>by
  rcases Δ.mp hw with rfl | hw
  ·exact ⟨c,ι,v,hc,q⟩
  ·obtain ⟨d,h1,h2⟩:=Wr hr t w hw
   exact ⟨d,θ _ h1,h2⟩
theorem vg {g:G}{l:List D}{a:D}{xs:List V}{us:List δ}(h:Hass Γ g l xs) (t:Vals xs us):us.toArray.any (memE Γ g l a)=l.any fun d=>eqP d a:=by
 rw [show us.toArray.any (memE Γ g l a)=us.any (memE Γ g l a) by simp,mD,dN,dN]
 constructor
 ·rintro ⟨w,_,e⟩
  obtain ⟨d,hd,_,_,_,q⟩:=vf.mp e
  exact ⟨d,hd,q⟩
 ·rintro ⟨d,hd,q⟩
  obtain ⟨y,w,h1,h2,h3⟩:=JX h t d hd
  exact ⟨w,h1,vf.mpr ⟨d,hd,y,h2,h3,q⟩⟩
theorem jn {pJ:List (Addr×Obj)}{σ:L2.St}{H:Hp}{s:μ}{g:G}{l:List D}{a:D}{x:V}{v:δ}{xs:List V}{us:List δ}(I:Inv X pJ σ H s) (hK:X.K=Γ.K) (sr:Same g.R H) (hu:X.A.units+61 < aG) (ka:isSc a=true) (kl:l.all isSc=true) (hx:Rdb Γ H g a x) (rx:RelV x v) (h:Hass Γ g l xs) (t:Vals xs us) (w:δ) (hw:w∈us.toArray):gR X.A.in1 s w v (memE Γ g l a w):=by
 have go:∀ d∈l,∀ y,Has Γ g d y->RelV y w->gR X.A.in1 s w v (eqP d a):=fun d hd y h1 h2=>jA I hK sr 59 d a y x w v _ (by rw [units_in1];omega) (sc_ok (aV.mp kl d hd)) (sc_ok ka) h1 (zcx ka hx) h2 rx
 cases e:memE Γ g l a w with
 | true=>
  obtain ⟨d,hd,y,h1,h2,q⟩:=vf.mp e
  rw [<- q]
  exact go d hd y h1 h2
 | false=>
  obtain ⟨d,hd,y,h1,h2⟩:=Wr h t w (by simpa using hw)
  have q:eqP d a=false:=lC.mpr fun q=>lC.mp e (vf.mpr ⟨d,hd,y,h1,h2,q⟩)
  rw [<- q]
  exact go d hd y h1 h2
theorem zcv {l:List D}{a b:D}{c:Bool}(hK:X.K=Γ.K) (hu:X.A.units+61 < aG) (hs:seqD b=some l) (h:memD l a=some c):(∃ r,OpR X (ϔ .In) r/\RDo Γ r a b (.bl c) false)/\∃ r,OpR X (ϔ .NotIn) r/\RDo Γ r a b (.bl (!c)) false:=by
 have h:(if (isSc a&&l.all isSc)=true then some (l.any fun y=>eqP y a) else none)=some c:=h
 by_cases hf:(isSc a&&l.all isSc)=true
 ·rw [if_pos hf] at h
  cases h
  rw [ε] at hf
  refine ⟨⟨fun x y H Q=>∃ g S,WOk Γ H g S/\Rdb Γ H g a x/\Rdb Γ H g b y/\∀ v,(∀ g,Has Γ g (.bl (l.any fun y=>eqP y a)) v)->Q v H,?_,fun S H g x y Q w hx hy q=>⟨g,S,w,hx,hy,fun v hv=>zg w q (hv g)⟩⟩,fun x y H Q=>∃ g S,WOk Γ H g S/\Rdb Γ H g a x/\Rdb Γ H g b y/\∀ v,(∀ g,Has Γ g (.bl (!l.any fun y=>eqP y a)) v)->Q v H,?_,fun S H g x y Q w hx hy q=>⟨g,S,w,hx,hy,fun v hv=>zg w q (hv g)⟩⟩
  all_goals
   intro pJ s σ H x y v u Q I rx ry ⟨g,S,w,hx,hy,q⟩
   obtain ⟨p,xs,e,hq,hh⟩:=sq_of hK w hs hy
   subst e
   cases ry
   rcases hq with hq | hq
  ·obtain ⟨its,r,pl,hz⟩:=I.list hq
   refine PySem.SeqAt.in_listAt (memE Γ g l a) pl.isList (jn I hK w.rh hu hf.1 hf.2 hx rx hh r) ⟨.bl _,H,I,rfl,?_⟩
   rw [vg hh r]
   exact q _ fun _=>rfl
  ·obtain ⟨its,r,pl,hz⟩:=I.tuple hq
   refine PySem.SeqAt.in_tupleAt (memE Γ g l a) pl (jn I hK w.rh hu hf.1 hf.2 hx rx hh r) ⟨.bl _,H,I,rfl,?_⟩
   rw [vg hh r]
   exact q _ fun _=>rfl
  ·obtain ⟨its,r,pl,hz⟩:=I.list hq
   refine PySem.SeqAt.notIn_listAt (memE Γ g l a) pl.isList (jn I hK w.rh hu hf.1 hf.2 hx rx hh r) ⟨.bl _,H,I,rfl,?_⟩
   rw [vg hh r]
   exact q _ fun _=>rfl
  ·obtain ⟨its,r,pl,hz⟩:=I.tuple hq
   refine PySem.SeqAt.notIn_tupleAt (memE Γ g l a) pl (jn I hK w.rh hu hf.1 hf.2 hx rx hh r) ⟨.bl _,H,I,rfl,?_⟩
   rw [vg hh r]
   exact q _ fun _=>rfl
 ·rw [if_neg hf] at h;cases h
theorem WW {a b:D}{neg:Bool}{o:Option D}(hu1:X.A.units+1 < aG) (e:dgetD b a=some o):RDo Γ (rInD neg) a b (.bl (if neg then !o.isSome else o.isSome)) false:=by
 intro S H g x y Q w hx hy q
 obtain ⟨p,v,e1,e2,_,e3,e4⟩:=Yl w e hy hx
 refine ⟨p,v,e1,e2,zg w q ?_⟩
 cases o with
 | none=>rw [e4 rfl];rfl
 | some d=>obtain ⟨z,hz,_⟩:=e3 d rfl;rw [hz];rfl
theorem jw {f:Int->Int->Bool}{a b:D}{c:Bool}(h:int2 f a b=some c):∃ i j,a=.int i/\b=.int j/\c=f i j:=by
 cases a with
 | int i=>
  cases b with
  | int j=>cases h;exact ⟨i,j,rfl,rfl,rfl⟩
  | _=>cases h
 | _=>cases h
theorem WX {a b:D}{c:Bool}(hK:X.K=Γ.K) (hu:X.A.units+61 < aG) (hu1:X.A.units+1 < aG) (h:inD a b=some c):(∃ r,OpR X (ϔ .In) r/\RDo Γ r a b (.bl c) false)/\∃ r,OpR X (ϔ .NotIn) r/\RDo Γ r a b (.bl (!c)) false:=by
 have sq:∀ l,seqD b=some l->memD l a=some c->(∃ r,OpR X (ϔ .In) r/\RDo Γ r a b (.bl c) false)/\∃ r,OpR X (ϔ .NotIn) r/\RDo Γ r a b (.bl (!c)) false:=fun l h1 h2=>zcv hK hu h1 h2
 have dc:(dgetD b a).map (·.isSome)=some c->(∃ r,OpR X (ϔ .In) r/\RDo Γ r a b (.bl c) false)/\∃ r,OpR X (ϔ .NotIn) r/\RDo Γ r a b (.bl (!c)) false:=fun h=>by
  obtain ⟨o,e,rfl⟩:=Ζ.mp h
  exact ⟨⟨_,zb0 hu1,WW (neg:=false) hu1 e⟩,_,Wa hu1,WW (neg:=true) hu1 e⟩
 cases b with
 | lst l=>exact sq l rfl h
 | tup l=>exact sq l rfl h
 | ktp l=>exact sq l rfl h
 | str y=>
  cases a with
  | str x=>
   cases h
   exact ⟨⟨_,Wc,fun S H g u v Q w hx hy q=>⟨x,y,hx,hy,zg w q rfl⟩⟩,_,j4,fun S H g u v Q w hx hy q=>⟨x,y,hx,hy,zg w q rfl⟩⟩
  | _=>cases h
 | dK ks ds=>exact dc h
 | dT ks ds=>exact dc h
 | dF ks ds=>exact dc h
 | _=>cases h
theorem WP {a b:D}{c:Bool}(h:isD a b=some c):(∃ r,OpR X (ϔ .Is) r/\RDo Γ r a b (.bl c) false)/\∃ r,OpR X (ϔ .IsNot) r/\RDo Γ r a b (.bl (!c)) false:=by
 cases b with
 | non=>
  cases h
  exact ⟨⟨_,zbY,fun S H g x y Q w hx hy q=>⟨hy,zg w q (by rw [uL hx];rfl)⟩⟩,_,QK,fun S H g x y Q w hx hy q=>⟨hy,zg w q (by rw [uL hx];rfl)⟩⟩
 | bl j=>
  cases a with
  | bl i=>
   cases h
   exact ⟨⟨_,zbZ,fun S H g x y Q w hx hy q=>⟨_,_,hx,hy,zg w q rfl⟩⟩,_,QL,fun S H g x y Q w hx hy q=>⟨_,_,hx,hy,zg w q rfl⟩⟩
  | _=>cases h
 | _=>cases h
theorem Kl {a b:D}{c:Bool}(h:eqD a b=some c):okP 60 a=true/\okP 60 b=true/\c=eqP a b:=by
 have h:(if (okP 60 a&&okP 60 b)=true then some (eqP a b) else none)=some c:=h
 by_cases hk:(okP 60 a&&okP 60 b)=true
 ·rw [if_pos hk] at h
  cases h
  rw [ε] at hk
  exact ⟨hk.1,hk.2,rfl⟩
 ·rw [if_neg hk] at h;cases h
theorem ints_of {g:G}:∀ {l:List D}{ns:List Int}{xs:List V},intsD l=some ns->Hass Γ g l xs->xs=ns.map V.int
 | [],ns,xs,h,hh=>by
  cases (show some []=some ns from h)
  exact hh
 | d::l,ns,xs,h,⟨v,r,e,hv,hr⟩=>by
  subst e
  cases d with
  | int i=>
   simp only [intsD,Ζ] at h
   obtain ⟨ms,e1,e2⟩:=h
   subst e2
   rw [show v=V.int i from hv,ints_of e1 hr]
   rfl
  | _=>cases h
theorem kv_mem {kvs:List (Key×V)}{vs:List (Key×δ)}(r:KV kvs vs):∀ p∈vs,∃ q∈kvs,q.1=p.1/\RelV q.2 p.2:=by
 unfold KV at r
 induction r with
 | nil=>intro p hp;cases hp
 | cons h t ih=>
  intro p hp
  rcases Δ.mp hp with rfl | hp
  ·exact ⟨_,ι,h⟩
  ·obtain ⟨q,hq,e⟩:=ih p hp
   exact ⟨q,θ _ hq,e⟩
theorem Y9:∀ {kvs:List (Key×V)},(kvs.map (·.1)).Nodup->∀ q∈kvs,valV kvs q.1=some q.2
 | [],_,q,hq=>by cases hq
 | p::r,h,q,hq=>by
  rw [dh,cu] at h
  rcases Δ.mp hq with rfl | hq
  ·exact wR rfl
  ·rw [wU fun e=>h.1 (by rw [e];exact ie hq)]
   exact Y9 h.2 q hq
theorem WY {A:ϑ}{s:μ}{kb:List (Key×δ)}:∀ (r:List (Key×δ)),(∀ p∈r,∃ i t t',p.2=ϕ i t/\gP kb p.1=some (.int i t'))->W.KeqHits A s kb r true
 | [],_=>.nil
 | (k,v)::r,h=>by
  obtain ⟨i,t,t',e1,e2⟩:=h (k,v) ι
  have e1:v=.int i t:=e1
  subst e1
  have q:=gR.int_int (A:=A) (s:=s) i t i t'
  rw [beq_self_eq_true] at q
  exact .hit (e:=true) (b:=true) e2 q (WY r fun p hp=>h p (θ _ hp))
def rNeD:R2:=fun x y H Q=>∃ a b kvs,x=.ref a/\y=.ref b/\Rd H a (.dK kvs)/\Rd H b (.dK kvs)/\(kvs.map (·.1)).Nodup/\(∀ p∈kvs,∃ i,p.2=V.int i)/\Q (.bl false) H
theorem Wb (hu:X.A.units < aG):OpR X (ϔ .NotEq) rNeD:=by
 intro pJ s σ H x y v u Q I rx ry ⟨a,b,kvs,e1,e2,ha,hb,hn,hi,q⟩
 subst e1 e2
 cases rx
 cases ry
 obtain ⟨_,sa,va,ra,da⟩:=dk_rd I.hok ha
 obtain ⟨_,sb,vb,rb,db⟩:=dk_rd I.hok hb
 refine W.keq_ne (r:=true) sa sb da db hu (fun _=>WY va fun p hp=>?_) ?_
 ·obtain ⟨z,hz,e1,e2⟩:=kv_mem ra p hp
  obtain ⟨i,e3⟩:=hi z hz
  rw [e3] at e2
  obtain ⟨t,e2⟩:=e2
  have rv:=rb.val z.1
  rw [Y9 hn z hz,e3,e1] at rv
  cases e4:gP vb p.1 with
  | none=>rw [e4] at rv;exact rv.elim
  | some w=>
   rw [e4] at rv
   obtain ⟨t',e5⟩:=(show RelV (.int i) w from rv)
   exact ⟨i,t,t',e2,by rw [e5]⟩
 ·rw [<- ra.length,<- rb.length,beq_self_eq_true]
  exact ⟨.bl false,H,I,rfl,q⟩
set_option tactic.hygienic true in
theorem zb7 {ks ks':List Key}{vs vs':List D}{c:Bool}(h:neD (.dK ks vs) (.dK ks' vs')=some c):RDo Γ rNeD (.dK ks vs) (.dK ks' vs') (.bl c) false:=by
 have h:(if (decide (ks=ks')&&decide ks.Nodup&&decide (intsD vs=intsD vs')&&(intsD vs).isSome)=true then some false else none)=some c:=h
 split at h
 ·rename_i hc
  cases h
  simp only [ε,decide_eq_true_eq] at hc
  obtain ⟨⟨⟨e1,hn⟩,e2⟩,e3⟩:=hc
  subst e1
  intro S H g x y Q w ⟨a,xs,hx,h1,h2,h3⟩ ⟨b,ys,hy,f1,f2,f3⟩ q
  obtain ⟨ns,e4⟩:=cY.mp e3
  have z1:=ints_of e4 h3
  have z2:=ints_of (e2.symm.trans e4) f3
  refine ⟨a,b,ks.zip (ns.map V.int),hx,hy,.inl (by rw [h1,z1]),.inl (by rw [f1,z2]),?_,fun p hp=>?_,zg w q rfl⟩
  ·rw [List.map_fst_zip (by rw [<- z1,h3.len,<- h2];exact ς _)]
   exact hn
  ·obtain ⟨i,_,e⟩:=ϭ.mp (d9 hp).2
   exact ⟨i,e.symm⟩
 ·cases h
theorem zaB {op:gj}{a b:D}{c:Bool}(hK:X.K=Γ.K) (hu:X.A.units+61 < aG) (h:cmpD op a b=some c):∃ r,OpR X (ϔ op) r/\RDo Γ r a b (.bl c) false:=by
 have hu1:X.A.units+1 < aG:=by lia
 cases op with
 | Eq=>
  obtain ⟨h1,h2,rfl⟩:=Kl h
  exact ⟨_,zb1 hK hu h1 h2,ZV⟩
 | NotEq=>
  have old:(eqD a b).map (!·)=some c->∃ r,OpR X (ϔ .NotEq) r/\RDo Γ r a b (.bl c) false:=fun h=>by
   obtain ⟨c',e,rfl⟩:=Ζ.mp h
   obtain ⟨h1,h2,rfl⟩:=Kl e
   exact ⟨_,zbV hK hu h1 h2,ZV⟩
  have h:neD a b=some c:=h
  cases a with
  | dK ks vs=>
   cases b with
   | dK ks' vs'=>exact ⟨_,Wb (by lia),zb7 h⟩
   | _=>exact old h
  | _=>exact old h
 | Lt=>obtain ⟨i,j,rfl,rfl,rfl⟩:=jw h;exact ⟨_,op_lt,fun S H g x y Q w hx hy q=>⟨_,_,hx,hy,zg w q rfl⟩⟩
 | LtE=>obtain ⟨i,j,rfl,rfl,rfl⟩:=jw h;exact ⟨_,op_le,fun S H g x y Q w hx hy q=>⟨_,_,hx,hy,zg w q rfl⟩⟩
 | Gt=>obtain ⟨i,j,rfl,rfl,rfl⟩:=jw h;exact ⟨_,op_gt,fun S H g x y Q w hx hy q=>⟨_,_,hx,hy,zg w q rfl⟩⟩
 | GtE=>obtain ⟨i,j,rfl,rfl,rfl⟩:=jw h;exact ⟨_,op_ge,fun S H g x y Q w hx hy q=>⟨_,_,hx,hy,zg w q rfl⟩⟩
 | Is=>exact (WP h).1
 | IsNot=>
  obtain ⟨c',e,rfl⟩:=Ζ.mp (show (isD a b).map (!·)=some c from h)
  exact (WP e).2
 | In=>exact (WX hK hu hu1 h).1
 | NotIn=>
  obtain ⟨c',e,rfl⟩:=Ζ.mp (show (inD a b).map (!·)=some c from h)
  exact (WX hK hu hu1 e).2
def rIxD:R2:=fun x y H Q=>∃ a v,x=.ref a/\DGet H a y (some v)/\Q v H
theorem Zh (hu:X.A.units+1 < aG):IxR X rIxD:=by
 intro value slice pJ s σ H x y v u Q I rx ry ⟨a,z,e,g,q⟩ hs
 subst e
 cases rx
 exact tail_any (Zk I g) PySem.F.slot_dict_getitem.lookup (Ve hu I g ry fun w' s' I' r'=>⟨z,H,I',r',q⟩) hs
theorem VD {g:G}{l:List D}{xs:List V}{i:Int}{d:D}(h:Hass Γ g l xs) (e:((ixN l.length i).bind fun k=>l[k]?)=some d):∃ v,atI xs i=some v/\Has Γ g d v:=by
 obtain ⟨k,e1,e2⟩:=ν.mp e
 obtain ⟨v,hv,hd⟩:=h.get e2
 refine ⟨v,?_,hd⟩
 unfold atI
 rw [h.len,e1]
 exact hv
set_option tactic.hygienic true in
theorem zci {a b d:D}(hK:X.K=Γ.K) (hu:X.A.units+1 < aG) (h:subD a b=some d):∃ r,IxR X r/\RDo Γ r a b d false:=by
 unfold subD at h
 split at h
 ·refine ⟨_,zcg,fun S H g x y Q w ⟨p,xs,e,h1,h2⟩ hy q=>?_⟩
  obtain ⟨v,e1,e2⟩:=VD h2 h
  exact ⟨p,xs,_,v,e,hy,SqT.of (w.rh _ _ h1),e1,zg w q e2⟩
 ·refine ⟨_,WF,fun S H g x y Q w ⟨p,xs,e,h1,h2⟩ hy q=>?_⟩
  obtain ⟨v,e1,e2⟩:=VD h2 h
  exact ⟨p,xs,_,v,e,hy,SqL.of h1,e1,zg w q e2⟩
 ·rename_i l i
  refine ⟨_,WF,fun S H g x y Q w ⟨p,e,h1⟩ hy q=>?_⟩
  have h':((ixN (l.map D.int).length i).bind fun k=>(l.map D.int)[k]?)=some d:=by
   rw [Ν]
   simpa [Ο] using h
  obtain ⟨v,e1,e2⟩:=VD (Hass.ints (Γ:=Γ) (g:=g)) h'
  exact ⟨p,_,_,v,e,hy,by rw [hK];exact h1,e1,zg w q e2⟩
 ·split at h
  ·rename_i hf
   obtain ⟨k,e1,e2⟩:=ν.mp h
   obtain ⟨c,e3,e4⟩:=Ζ.mp e2
   subst e4
   refine ⟨_,zch,fun S H g x y Q w hx hy q=>⟨_,_,c,hx,hy,yz hf,?_,zg w q rfl⟩⟩
   unfold atI
   have e1':ixN _ _=some k:=e1
   rw [e1']
   exact e3
  ·cases h
 ·obtain ⟨o,e1,e2⟩:=ν.mp h
  refine ⟨_,Zh hu,fun S H g x y Q w hx hy q=>?_⟩
  obtain ⟨p,v,f1,f2,_,f3,_⟩:=Yl w e1 hx hy
  obtain ⟨z,hz,hd⟩:=f3 d e2
  exact ⟨p,z,f1,by rw [<- hz];exact f2,zg w q hd⟩
 ·obtain ⟨o,e1,e2⟩:=ν.mp h
  refine ⟨_,Zh hu,fun S H g x y Q w hx hy q=>?_⟩
  obtain ⟨p,v,f1,f2,_,f3,_⟩:=Yl w e1 hx hy
  obtain ⟨z,hz,hd⟩:=f3 d e2
  exact ⟨p,z,f1,by rw [<- hz];exact f2,zg w q hd⟩
 ·obtain ⟨o,e1,e2⟩:=ν.mp h
  refine ⟨_,Zh hu,fun S H g x y Q w hx hy q=>?_⟩
  obtain ⟨p,v,f1,f2,_,f3,_⟩:=Yl w e1 hx hy
  obtain ⟨z,hz,hd⟩:=f3 d e2
  exact ⟨p,z,f1,by rw [<- hz];exact f2,zg w q hd⟩
 ·cases h
theorem Zm {g:G}{l:List D}{xs:List V}(lo hi:Option Int) (h:Hass Γ g l xs):Hass Γ g (cutD l lo hi) (cutV xs lo hi):=by
 unfold cutD cutV
 rw [h.len]
 exact (h.drop _).take _
def RDs (Γ:Gm) (r:V->Option Int->Option Int->Hp->VK->Prop) (a:D) (lo hi:Option Int) (d:D) (fr:Bool):Prop:=
 ∀ (S:Store) (H:Hp) (g:G) (x:V) (Q:VK),WOk Γ H g S->Rdb Γ H g a x->Fin Γ H g S d fr Q->r x lo hi H Q
def rSlS:V->Option Int->Option Int->Hp->VK->Prop:=fun x lo hi H Q=>∃ z,x=.str z/\z.length<=sizeLine/\Q (.str (iQ z lo hi)) H
theorem X8 {v:δ}{o:Option Int}(h:gW v o):∃ p:Option (Int×Tok),v=partValue p/\p.map (·.1)=o:=by
 cases h with
 | none=>exact ⟨none,rfl,rfl⟩
 | int i t=>exact ⟨some (i,t),rfl,rfl⟩
theorem zbc:SlR X rSlS:=by
 intro pJ s σ H x v vl vu lo hi sl Q I rx hs pl pu ⟨z,e,hz,q⟩
 subst e
 obtain ⟨t,rfl⟩:=rx
 obtain ⟨p,rfl,rfl⟩:=X8 pl
 obtain ⟨p',rfl,rfl⟩:=X8 pu
 refine ⟨"str",_,PySem.F.slot_str_getitem.lookup,typeIs_str _ _ _,wpAny_getItem_str_slice (l:=p) (u:=p') (st:=none) hs rfl ?_⟩
 exact post_val_or_str ⟨ϣ (Txt.slice_le z _ _) hz,fun t' k=>⟨.str (iQ z (p.map (·.1)) (p'.map (·.1))),H,I.tok _,⟨t',rfl⟩,q⟩⟩
set_option tactic.hygienic true in
theorem zbd {a d:D}{lo hi:Option Int}{fr:Bool}(hK:X.K=Γ.K) (h:slcD a lo hi=some (d,fr)):∃ r,SlR X r/\RDs Γ r a lo hi d fr:=by
 unfold slcD at h
 split at h
 ·rename_i l
  cases h
  refine ⟨_,zbb.or K3,fun S H g x Q w ⟨p,xs,e,h1,h2⟩ q=>?_⟩
  by_cases hw:HT.sIx xs.length 0 lo=0/\HT.sIx xs.length xs.length hi=xs.length
  ·refine .inr ⟨p,xs,e,SqT.of (w.rh _ _ h1),hw,zg w q ?_⟩
   have ec:cutD l lo hi=l:=by
    unfold cutD
    rw [<- h2.len,hw.1,hw.2,List.drop_zero,Nat.sub_zero,List.take_of_length_le (by rw [h2.len];exact ς _)]
   rw [ec]
   exact ⟨p,xs,rfl,h1,h2⟩
  ·exact .inl ⟨p,xs,e,SqT.of (w.rh _ _ h1),hw,fun b hb=>jy w q (Zm lo hi h2) hb⟩
 ·cases h
  exact ⟨_,Xq,fun S H g x Q w ⟨p,xs,e,h1,h2⟩ q=>⟨p,xs,e,SqL.of h1,fun b hb=>yI w q (Zm lo hi h2) hb⟩⟩
 ·cases h
  exact ⟨_,Xq,fun S H g x Q w ⟨p,e,h1⟩ q=>⟨p,_,e,by rw [hK];exact h1,fun b hb=>yI w q (Zm lo hi Hass.ints) hb⟩⟩
 ·split at h
  ·rename_i hf
   cases h
   exact ⟨_,zbc,fun S H g x Q w hx q=>⟨_,hx,yz hf,zg w q rfl⟩⟩
  ·cases h
 ·cases h
end
noncomputable def SetX (w:ϒ) (a:Addr) (ks:List Str):HO:=.ext fun h=>TS.Ts w h a (TS.ledW w) ks
theorem ZD:∀ {xs:List Str}{us:List δ},Vals (xs.map V.str) us->us.map TS.strV=xs/\∀ v∈us,TS.IsTx v
 | [],_,.nil=>⟨rfl,fun v h=>nomatch h⟩
 | x::xs,_,.cons r q=>by
  obtain ⟨t,rfl⟩:=r
  obtain ⟨h1,h2⟩:=ZD q
  refine ⟨by rw [dh,h1];rfl,fun v hv=>?_⟩
  rcases Δ.mp hv with rfl | hv
  ·exact ⟨x,t,rfl⟩
  ·exact h2 v hv
theorem ZJ:∀ {us:List δ},(∀ v∈us,TS.IsTx v)->Vals ((us.map TS.strV).map V.str) us
 | [],_=>.nil
 | u::us,h=>by
  obtain ⟨x,t,rfl⟩:=h u ι
  exact .cons ⟨t,rfl⟩ (ZJ fun v hv=>h v (θ _ hv))
theorem laidD {X:Cx}{pJ:List (Addr×Obj)}{σ:L2.St}{H:Hp}{s:μ}{h':Heap}{a:Addr}{o:HO}{t':Nat}{d':Drawn}(I:L2.Inv X pJ σ H s) (k:∀ b u,s.heap.get? b=some u->h'.get? b=some u) (hp:s.heap.objs.size<=a) (new:ObjOk X.prog X.w (upd H a o) h' a o):
  L2.Inv X pJ σ (upd H a o) { s with heap:=h',toks:=t',drawn:=d' }:=by
 have J:=I.laid (t':=t') k hp new
 exact ⟨J.ok,J.os,J.bare,J.base,J.loc,J.cell,J.free,J.freeC,J.pin,J.hok,J.len⟩
theorem Vp {X:Cx}(hc:X.calm=true):CallR X (.type "set") (fun xs H Q=>∃ p,∃ ks:List Str,xs=[.ref p]/\(SqL X.K H p (ks.map V.str)\/SqT X.K H p (ks.map V.str))/\ks.length < 4095/\∀ a,H a=none->Q (.ref a) (upd H a (SetX X.w a (TS.Z1 ks)))):=by
 intro pJ s σ H xs us Q I r ⟨p,ks,e,hq,hn,q⟩
 subst e
 obtain ⟨u,rfl,rx⟩:=vals1 r
 cases (show u=Α p from rx)
 have fin:∀ (its:List δ) {T:String}{OK:Heap->Prop}{Sx:Addr->Nat->Heap->Prop}{itO:Obj},Vals (ks.map V.str) its->TS.Row X.prog X.w T p its.toArray OK Sx itO->OK s.heap->ψ (Ι X.prog X.w) X.A (call (.type "set") [.ref p]) (EP X pJ σ Q) X.xe s:=fun its T OK Sx itO v R ok=>by
  obtain ⟨v1,v2⟩:=ZD v
  have lk:ks.length=its.length:=by rw [<- v1,Ν]
  refine TS.Jh (val:=ks) R (I.ok.hd hc) ok (by simpa using lk) (fun i v e x hx=>?_) (by simp;omega) fun h' tk z k=>?_
  ·rw [gA] at e
   rw [<- v1,Ο,e] at hx
   obtain ⟨y,t,rfl⟩:=v2 v (aB e)
   cases hx
   exact ⟨t,rfl⟩
  ·obtain ⟨es,ep,tb,st,pm⟩:=id z
   obtain ⟨o,ho,_⟩:=st.at_
   exact ⟨.ref s.heap.objs.size,_,I.laid (t':=tk) (o:=SetX X.w s.heap.objs.size (TS.Z1 ks)) k (ς _) ⟨z,⟨o,ho⟩,fun h1 h2 y kk=>y.keep kk⟩,rfl,q _ (I.hok.fresh (ς _))⟩
 rcases hq with hq | hq
 ·obtain ⟨its,v,pl,_⟩:=I.list hq
  exact fin its v (TS.rowL p its.toArray) pl.isList
 ·obtain ⟨its,v,pl,_⟩:=I.tuple hq
  exact fin its v (TS.rowT p its.toArray) (show s.heap.IsTuple p its.toArray from pl)
theorem qt {X:Cx}(hc:X.calm=true):CallR X (.builtin "sorted") (fun xs H Q=>∃ a,∃ ks:List Str,xs=[.ref a]/\H a=some (SetX X.w a ks)/\ks.length < 64 /\
  ∀ (ms:List Str) (l:Addr),ms.Perm ks->ms.Pairwise (fun x y=>TS.strB y x=false)->H l=none->Q (.ref l) (upd H l (.lst (ms.map V.str)))):=by
 intro pJ s σ H xs us Q I r ⟨a,ks,e,hq,hn,q⟩
 subst e
 obtain ⟨u,rfl,rx⟩:=vals1 r
 cases (show u=Α a from rx)
 obtain ⟨⟨es,ep,tb,st,pm⟩,_⟩:=(show ObjOk X.prog X.w H s.heap a (SetX X.w a ks) from I.hok a _ hq)
 have sz:es.size=ks.length:=by rw [<- pm.length_eq,Ν,Φ]
 refine TS.YC (I.ok.hd hc) st (by omega) fun vs out h' tk d pv k hg hk=>?_
 have tx:∀ v∈vs,TS.IsTx v:=fun v hv=>by
  obtain ⟨e,he,rfl⟩:=ϭ.mp (pv.mem_iff.mp hv)
  obtain ⟨x,t,rfl⟩:=st.tx e he
  exact ⟨x,t,rfl⟩
 have txo:∀ v∈out.toList,TS.IsTx v:=fun v hv=>tx v (k.1.mem_iff.mp hv)
 have e2:(h'.push (cF "list" vs.toArray 0)).get? h'.objs.size=some (cF "list" vs.toArray 0):=υ _ rfl
 obtain ⟨c,hc⟩:=sortedHeap_at (out:=out) e2
 have hc2:(gQ (h'.push (cF "list" vs.toArray 0)) h'.objs.size vs out).get? h'.objs.size=some { cls:=.type "list",dict:=none,data:=.seq out.toList.toArray c,slots:=#[] }:=by
  rw [hc,oK]
 have tot:(out.toList.map TS.strV).Perm ks:=by
  refine ((k.1.trans pv).map _).trans ?_
  rw [gh]
  refine cA.trans (cA.of_eq (oW fun e he=>?_)) pm
  obtain ⟨x,t,rfl⟩:=st.tx e he
  rfl
 have I2:=laidD I (t':=tk) (d':=d) (a:=h'.objs.size) (o:=.lst ((out.toList.map TS.strV).map V.str)) (h':=gQ (h'.push (cF "list" vs.toArray 0)) h'.objs.size vs out)
  (fun b o e=>by
   have lt:=ω (hk b o e)
   rw [sortedHeap_old (Υ lt) (by rw [lQ];exact dI lt)]
   exact η _ (hk b o e)) hg (show ObjOk X.prog X.w _ _ _ (.lst _) from ⟨by rw [Ν,tot.length_eq,aF];omega,out.toList,c,ZJ txo,hc2⟩)
 refine ⟨.ref h'.objs.size,_,I2,rfl,q _ _ tot ?_ (I.hok.fresh hg)⟩
 rw [pB]
 exact k.2
def Rdbs (Γ:Gm) (H:Hp) (g:G):List D->List V->Prop
 | [],vs=>vs=[]
 | d::ds,vs=>∃ v r,vs=v::r/\Rdb Γ H g d v/\Rdbs Γ H g ds r
theorem XF {Γ:Gm}{H:Hp}{g:G}{S:Store}(w:WOk Γ H g S):∀ {ds:List D}{vs:List V},Hass Γ g ds vs->Rdbs Γ H g (ds.map (deref S)) vs
 | [],_,h=>h
 | d::ds,_,⟨v,r,e,h1,h2⟩=>⟨v,r,e,Jz w h1,XF w h2⟩
def RDc (Γ:Gm) (r:List V->Hp->VK->Prop) (ds:List D) (d:D) (fr:Bool):Prop:=
 ∀ (S:Store) (H:Hp) (g:G) (xs:List V) (Q:VK),WOk Γ H g S->Rdbs Γ H g ds xs->Fin Γ H g S d fr Q->r xs H Q
section
variable {X:Cx}{Γ:Gm}
theorem rd1 {H:Hp}{g:G}{d:D}{xs:List V}(h:Rdbs Γ H g [d] xs):∃ v,xs=[v]/\Rdb Γ H g d v:=by
 obtain ⟨v,r,e,h1,h2⟩:=h
 cases (show r=[] from h2)
 exact ⟨v,e,h1⟩
theorem Vu {g:G}:∀ {l:List D}{ns:List Bool}{xs:List V},Vv l=some ns->Hass Γ g l xs->xs=ns.map V.bl
 | [],ns,xs,h,hh=>by
  cases (show some []=some ns from h)
  exact hh
 | d::l,ns,xs,h,⟨v,r,e,hv,hr⟩=>by
  subst e
  cases d with
  | bl i=>
   simp only [Vv,Ζ] at h
   obtain ⟨ms,e1,e2⟩:=h
   subst e2
   rw [show v=V.bl i from hv,Vu e1 hr]
   rfl
  | _=>cases h
noncomputable def biV:BI->δ
 | .len=>.builtin "len" | .abs=>.builtin "abs" | .int=>.type "int" | .str=>.type "str" | .tuple=>.type "tuple" | .list=>.type "list"
 | .sum=>.builtin "sum" | .all=>.builtin "all" | .any=>.builtin "any" | .isinst _=>.builtin "isinstance" | .min2=>.builtin "min" | .max2=>.builtin "max" | .sorted=>.builtin "sorted" | .repr=>.builtin "repr" | .dict=>.type "dict" | .sset=>.builtin "sorted" | .lset=>.builtin "len" | .trev=>.type "tuple"
noncomputable def isI:BI->Bool
 | .isinst _=>true
 | .sset=>true
 | .lset=>true
 | .trev=>true
 | _=>false
set_option tactic.hygienic true in
theorem Q9 {d0:D}{d:D}{fr:Bool}(hK:X.K=Γ.K) (h:lenD d0=some (d,fr)):∃ r,CallR X (.builtin "len") r/\RDc Γ r [d0] d fr:=by
 cases d0 with
 | tup l=>
  cases h
  refine ⟨_,yJ,fun S H g xs Q w hx q=>?_⟩
  obtain ⟨v,rfl,p,ys,rfl,h1,h2⟩:=rd1 hx
  exact ⟨p,ys,rfl,.inr (SqT.of (w.rh _ _ h1)),zg w q (by rw [h2.len];rfl)⟩
 | lst l=>
  cases h
  refine ⟨_,yJ,fun S H g xs Q w hx q=>?_⟩
  obtain ⟨v,rfl,p,ys,rfl,h1,h2⟩:=rd1 hx
  exact ⟨p,ys,rfl,.inl (SqL.of h1),zg w q (by rw [h2.len];rfl)⟩
 | scr l=>
  cases h
  refine ⟨_,yJ,fun S H g xs Q w hx q=>?_⟩
  obtain ⟨v,rfl,p,rfl,h1⟩:=rd1 hx
  exact ⟨p,_,rfl,.inl (by rw [hK];exact h1),zg w q (by rw [Ν];rfl)⟩
 | str x=>
  have h:(if fits x.length=true then some (D.int x.length,false) else none)=some (d,fr):=h
  split at h
  ·rename_i hf
   cases h
   refine ⟨_,qw,fun S H g xs Q w hx q=>?_⟩
   obtain ⟨v,rfl,hv⟩:=rd1 hx
   exact ⟨_,by rw [show v=_ from hv],yz hf,zg w q rfl⟩
  ·cases h
 | dK ks vs=>
  cases h
  refine ⟨fun xs H Q=>∃ d kvs,xs=[.ref d]/\Rd H d (.dK kvs)/\Q (.int kvs.length) H,?_,fun S H g xs Q w hx q=>?_⟩
  ·intro pJ s σ H xs us Q I r hh
   obtain ⟨d,kvs,rfl,hd,q⟩:=hh
   obtain ⟨u,rfl,ru⟩:=vals1 r
   cases (show u=Α d from ru)
   exact d_len I hd fun t s' I'=>⟨.int kvs.length,H,I',⟨t,rfl⟩,q⟩
  ·obtain ⟨v,rfl,p,ys,rfl,h1,h2,h3⟩:=rd1 hx
   refine ⟨p,_,rfl,.inl h1,zg w q ?_⟩
   rw [mz,h3.len,<- h2,Nat.min_self]
   rfl
 | _=>cases h
theorem Wv {d0:D}{l:List D}(h:lotD d0=some l):d0=.lst l\/d0=.tup l:=by
 cases d0 with
 | lst m=>cases h;exact .inl rfl
 | tup m=>cases h;exact .inr rfl
 | _=>cases h
theorem qM {g:G}:∀ {l:List D}{ns:List Str}{xs:List V},strsD l=some ns->Hass Γ g l xs->xs=ns.map V.str
 | [],ns,xs,h,hh=>by
  cases (show some []=some ns from h)
  exact hh
 | d::l,ns,xs,h,⟨v,r,e,hv,hr⟩=>by
  subst e
  cases d with
  | str i=>
   simp only [strsD,Ζ] at h
   obtain ⟨ms,e1,e2⟩:=h
   subst e2
   rw [show v=V.str i from hv,qM e1 hr]
   rfl
  | _=>cases h
theorem Z9 {g:G}:∀ ks:List Str,Hass Γ g (ks.map D.str) (ks.map V.str)
 | []=>rfl
 | x::ks=>⟨_,_,rfl,rfl,Z9 ks⟩
theorem v4 (k:Str):∀ l,(insS k l).Perm (k::l)
 | []=>bQ _
 | x::l=>by
  unfold insS
  split
  ·exact ((v4 k l).cons x).trans (cA.swap _ _ _)
  ·exact bQ _
theorem xU:∀ l,(sortS l).Perm l
 | []=>bQ _
 | k::l=>(v4 k (sortS l)).trans ((xU l).cons k)
abbrev LeS (x y:Str):Prop:=TS.strB y x=false
set_option tactic.hygienic true in
theorem WT (k:Str):∀ l,l.Pairwise LeS->(insS k l).Pairwise LeS
 | [],_=>List.pairwise_singleton _ _
 | x::l,h=>by
  obtain ⟨h1,h2⟩:=iB.mp h
  unfold insS
  split
  ·rename_i c
   refine iB.mpr ⟨fun y hy=>?_,WT k l h2⟩
   rcases Δ.mp ((v4 k l).mem_iff.mp hy) with rfl | hy
   ·exact dz (O:=TS.strO) c
   ·exact h1 y hy
  ·rename_i c
   have c:LeS k x:=by show TS.strB x k=false;revert c;show ¬ TS.strB x k=true->_;cases TS.strB x k <;> simp
   refine iB.mpr ⟨fun y hy=>?_,h⟩
   rcases Δ.mp hy with rfl | hy
   ·exact c
   ·exact cQ (O:=TS.strO) c (h1 y hy)
theorem u9:∀ l,(sortS l).Pairwise LeS
 | []=>mV
 | k::l=>WT k _ (u9 l)
theorem jO {l m:List Str}(h:m.Perm l) (k:m.Pairwise LeS):m=sortS l:=
 (h.trans (xU l).symm).eq_of_pairwise (fun a b _ _ h1 h2=>TS.Xk a b h2 h1) k (u9 l)
theorem rd2 {H:Hp}{g:G}{d e:D}{xs:List V}(h:Rdbs Γ H g [d,e] xs):∃ u v,xs=[u,v]/\Rdb Γ H g d u/\Rdb Γ H g e v:=by
 obtain ⟨v,r,e,h1,h2⟩:=h
 obtain ⟨u,rfl,h3⟩:=rd1 h2
 exact ⟨v,u,e,h1,h3⟩
theorem zaI {b:BI}{d0 d1 d:D}{fr:Bool}(hc:X.calm=true) (h:bi2 b d0 d1=some (d,fr)):∃ r,CallR X (biV b) r/\RDc Γ r [d0,d1] d fr:=by
 cases b with
 | min2=>
  obtain ⟨i,j,k,rfl,rfl,e,e2⟩:=xW (show num2 (fun i j=>some (if j < i then j else i)) d0 d1=some (d,fr) from h)
  cases e2
  cases e
  refine ⟨_,Vr hc,fun S H g xs Q w hx q=>?_⟩
  obtain ⟨u,v,rfl,h1,h2⟩:=rd2 hx
  exact ⟨i,j,by rw [show u=_ from h1,show v=_ from h2],zg w q rfl⟩
 | max2=>
  obtain ⟨i,j,k,rfl,rfl,e,e2⟩:=xW (show num2 (fun i j=>some (if j > i then j else i)) d0 d1=some (d,fr) from h)
  cases e2
  cases e
  refine ⟨_,Vs hc,fun S H g xs Q w hx q=>?_⟩
  obtain ⟨u,v,rfl,h1,h2⟩:=rd2 hx
  exact ⟨i,j,by rw [show u=_ from h1,show v=_ from h2],zg w q rfl⟩
 | _=>cases h
theorem zaJ {b:BI}{d0:D}{d:D}{fr:Bool}(hK:X.K=Γ.K) (hg:X.A.guards=some []) (hu:X.A.units+61 < aG) (hc:X.calm=true) (hi:isI b=false) (h:biD b [d0]=some (d,fr)):∃ r,CallR X (biV b) r/\RDc Γ r [d0] d fr:=by
 cases b with
 | len=>exact Q9 hK h
 | abs=>
  cases d0 with
  | int i=>
   cases h
   refine ⟨_,Jj,fun S H g xs Q w hx q=>?_⟩
   obtain ⟨v,rfl,hv⟩:=rd1 hx
   exact ⟨_,by rw [show v=_ from hv],zg w q rfl⟩
  | _=>cases h
 | int=>
  cases d0 with
  | bl b=>
   cases h
   refine ⟨_,qx,fun S H g xs Q w hx q=>?_⟩
   obtain ⟨v,rfl,hv⟩:=rd1 hx
   exact .inr ⟨_,by rw [show v=_ from hv],zg w q rfl⟩
  | int i=>
   cases h
   refine ⟨_,qx,fun S H g xs Q w hx q=>?_⟩
   obtain ⟨v,rfl,hv⟩:=rd1 hx
   exact .inl ⟨_,by rw [show v=_ from hv],zg w q rfl⟩
  | _=>cases h
 | tuple=>
  obtain ⟨l,e,e2⟩:=Ζ.mp (show (lotD d0).map (fun l=>(D.tup l,false))=some (d,fr) from h)
  cases e2
  refine ⟨_,jD,fun S H g xs Q w hx q=>?_⟩
  rcases Wv e with rfl | rfl
  ·obtain ⟨v,rfl,p,ys,rfl,h1,h2⟩:=rd1 hx
   exact ⟨p,ys,rfl,.inl ⟨SqL.of h1,fun l hl=>jy w q h2 hl⟩⟩
  ·obtain ⟨v,rfl,p,ys,rfl,h1,h2⟩:=rd1 hx
   exact ⟨p,ys,rfl,.inr ⟨SqT.of (w.rh _ _ h1),zg w q ⟨p,ys,rfl,h1,h2⟩⟩⟩
 | list=>
  obtain ⟨l,e,e2⟩:=Ζ.mp (show (lotD d0).map (fun l=>(D.lst l,true))=some (d,fr) from h)
  cases e2
  refine ⟨_,qu,fun S H g xs Q w hx q=>?_⟩
  rcases Wv e with rfl | rfl
  ·obtain ⟨v,rfl,p,ys,rfl,h1,h2⟩:=rd1 hx
   exact ⟨p,ys,rfl,.inl (SqL.of h1),fun l hl=>yI w q h2 hl⟩
  ·obtain ⟨v,rfl,p,ys,rfl,h1,h2⟩:=rd1 hx
   exact ⟨p,ys,rfl,.inr (SqT.of (w.rh _ _ h1)),fun l hl=>yI w q h2 hl⟩
 | sum=>cases h
 | all=>cases h
 | any=>cases h
 | isinst t=>cases hi
 | str=>cases h
 | min2=>cases h
 | max2=>cases h
 | sorted=>cases h
 | sset=>cases hi
 | lset=>cases hi
 | trev=>cases hi
 | repr=>cases h
 | dict=>cases h
theorem Ku {b:BI}{ds:List D}{d:D}{fr:Bool}(hK:X.K=Γ.K) (hg:X.A.guards=some []) (hu:X.A.units+61 < aG) (hc:X.calm=true) (hi:isI b=false) (h:biD b ds=some (d,fr)):∃ r,CallR X (biV b) r/\RDc Γ r ds d fr:=by
 match ds,h with
 | [],h=>cases h
 | [d0],h=>exact zaJ hK hg hu hc hi h
 | [d0,d1],h=>exact zaI hc h
 | _::_::_::_,h=>cases h
noncomputable def tyS:Ty->String
 | .int=>"int" | .bool=>"bool" | .str=>"str" | .tuple=>"tuple" | .list=>"list" | .dict=>"dict"
theorem zcs {t:Ty}{a:D}{c:Bool}(hK:X.K=Γ.K) (h:isTy t a=some c):
  ∃ r,CallR X (.builtin "isinstance") r/\∀ (S:Store) (H:Hp) (g:G) (x:V) (Q:VK),WOk Γ H g S->Rdb Γ H g a x->Q (.bl c) H->r [x,.ty (tyS t)] H Q:=by
 refine ⟨_,Zq,fun S H g x Q w hx q=>?_⟩
 have go:∀ ty,TyOf X.K H x (.type ty)->W.kitOne X.K (.type ty) (.type (tyS t))=some c->_:=fun ty h1 h2=>(⟨x,tyS t,.type ty,c,rfl,h1,h2,q⟩:∃ x' T t' b,[x,V.ty (tyS t)]=[x',.ty T]/\TyOf X.K H x' t'/\W.kitOne X.K t' (.type T)=some b/\Q (.bl b) H)
 cases a with
 | non=>cases h;cases (show x=.non from hx);exact go _ .non (by cases t <;> rfl)
 | bl b=>cases (show x=.bl b from hx);exact go _ (.bl b) (by cases t <;> exact h)
 | int b=>cases (show x=.int b from hx);exact go _ (.int b) (by cases t <;> exact h)
 | str b=>cases (show x=.str b from hx);exact go _ (.str b) (by cases t <;> exact h)
 | tup l=>obtain ⟨p,ys,rfl,h1,h2⟩:=hx;exact go _ (.tup (w.rh _ _ h1)) (by cases t <;> exact h)
 | lst l=>obtain ⟨p,ys,rfl,h1,h2⟩:=hx;exact go _ (.lst h1) (by cases t <;> exact h)
 | dK ks l=>obtain ⟨p,ys,rfl,h1,h2⟩:=hx;exact go _ (.dK h1) (by cases t <;> exact h)
 | _=>cases h
end
mutual
noncomputable def sameD:D->D->Bool
 | .non,.non=>true
 | .bl a,.bl b=>a==b
 | .int a,.int b=>a==b
 | .str a,.str b=>a==b
 | .tup a,.tup b=>jR a b
 | .ktp a,.ktp b=>jR a b
 | .fn a,.fn b=>a==b
 | .kdc a,.kdc b=>decide (a=b)
 | _,_=>false
noncomputable def jR:List D->List D->Bool
 | [],[]=>true
 | a::as,b::bs=>sameD a b&&jR as bs
 | _,_=>false
end
mutual
theorem ZR:∀ (a b:D),sameD a b=true->a=b
 | .non,b,h=>by cases b with | non=>rfl | _=>cases h
 | .bl a,b,h=>by cases b with | bl b=>rw [eq_of_beq (show (a==b)=true from h)] | _=>cases h
 | .int a,b,h=>by cases b with | int b=>rw [eq_of_beq (show (a==b)=true from h)] | _=>cases h
 | .str a,b,h=>by cases b with | str b=>rw [eq_of_beq (show (a==b)=true from h)] | _=>cases h
 | .tup a,b,h=>by cases b with | tup b=>rw [vG a b h] | _=>cases h
 | .ktp a,b,h=>by cases b with | ktp b=>rw [vG a b h] | _=>cases h
 | .fn a,b,h=>by cases b with | fn b=>rw [eq_of_beq (show (a==b)=true from h)] | _=>cases h
 | .kdc a,b,h=>by cases b with | kdc b=>rw [of_decide_eq_true (show decide (a=b)=true from h)] | _=>cases h
 | .lst _,b,h=>by cases b <;> cases h
 | .dK _ _,b,h=>by cases b <;> cases h
 | .dT _ _,b,h=>by cases b <;> cases h
 | .dF _ _,b,h=>by cases b <;> cases h
 | .ref _,b,h=>by cases b <;> cases h
 | .scr _,b,h=>by cases b <;> cases h
theorem vG:∀ (a b:List D),jR a b=true->a=b
 | [],[],_=>rfl
 | a::as,b::bs,h=>by
  have h':(sameD a b&&jR as bs)=true:=h
  rw [ε] at h'
  rw [ZR a b h'.1,vG as bs h'.2]
 | [],_::_,h=>by cases h
 | _::_,[],h=>by cases h
end
structure Cc where
 names:List (Str×Ϭ)
 N:List Str
 fn:Bool
noncomputable def visK:Option Ϭ->Bool
 | some .local=>true
 | some .cell=>true
 | some .free=>true
 | _=>false
noncomputable def gloK:Option Ϭ->Bool
 | some .globalImplicit=>true
 | _=>false
noncomputable def zH (x:Str):Bool:=!(x==("__debug__":Str))&&!(x==("__classdict__":Str))&&!(x==("__name__":Str))
noncomputable def wI:Expr->Bool
 | .Set _ _ _=>false
 | _=>true
noncomputable def notStar:Expr->Bool
 | .Starred _ _=>false
 | _=>true
noncomputable def biS:BI->Str
 | .len=>"len" | .abs=>"abs" | .int=>"int" | .str=>"str" | .tuple=>"tuple" | .list=>"list" | .sum=>"sum" | .all=>"all" | .any=>"any" | .isinst _=>"isinstance" | .min2=>"min" | .max2=>"max" | .sorted=>"sorted" | .repr=>"repr" | .dict=>"dict" | .sset=>"sorted" | .lset=>"len" | .trev=>"tuple"
noncomputable def tyN:Ty->Str
 | .int=>"int" | .bool=>"bool" | .str=>"str" | .tuple=>"tuple" | .list=>"list" | .dict=>"dict"
noncomputable def ym:List cW->Option (List Str)
 | []=>some []
 | ⟨some x,_,_⟩::r=>(ym r).map (x::·)
 | _=>none
noncomputable def relK (names:List (Str×Ϭ)):List (Str×Ϭ)->List (Str×Ϭ):=fun l=>l.map fun (n,k)=>if (k==.free&&names.lookup n==some .cell) then (n,.cell) else (n,k)
noncomputable def namesOf:List Expr->Option (List Str)
 | []=>some []
 | .Name x _::r=>(namesOf r).map (x::·)
 | _=>none
noncomputable def yr:Expr->Option (List Str)
 | .Name x _=>some [x]
 | .Tuple es _ _=>namesOf es
 | _=>none
noncomputable def tIs:T->List Nat
 | .one i=>[i]
 | .nst i is=>i::is
 | .tup is=>is
noncomputable def kZ:Expr->Bool
 | .Tuple _ _ _=>true
 | _=>false
noncomputable def zcu:T->Bool
 | .tup _=>true
 | .nst _ _=>true
 | _=>false
noncomputable def stoK (c:Cc) (x:Str):Bool:=match c.names.lookup x with
 | some .local=>true
 | some .cell=>c.fn
 | _=>false
noncomputable def isNst:T->Bool
 | .nst _ _=>true
 | _=>false
noncomputable def asNst:Expr->Option (Str×Pos×List Expr×Nat×Pos×Nat×Pos)
  | .Tuple es k p=>(match es with
    | a::r=>(match a with
      | .Name x q=>(match r with
        | b::z=>(match z with
          | []=>(match b with
            | .Tuple fs k2 p2=>some (x,q,fs,k2,p2,k,p)
            | _=>none)
          | _=>none)
        | _=>none)
      | _=>none)
    | _=>none)
  | _=>none
noncomputable def chkT (c:Cc) (t:T) (x:Expr):Bool:=if isNst t=true then (match asNst x with
  | some q=>(match namesOf q.2.2.1 with
    | some ns=>(q.1::ns).length==(tIs t).length&&((tIs t).zip (q.1::ns)).all fun p=>c.N[p.1]?==some p.2&&stoK c p.2
    | none=>false)
  | none=>false) else kZ x==zcu t&&(match yr x with
  | some ns=>ns.length==(tIs t).length&&((tIs t).zip ns).all fun p=>c.N[p.1]?==some p.2&&stoK c p.2
  | none=>false)
noncomputable def chkS (c:Cc) (sc:dD) (js:List Nat):Bool:=
 (sc.kind==.function)&&sc.names.all (fun y=>y.2 != .cell)&&sc.names.all (fun y=>y.2 != .local||sc.names.lookup y.1==some .local)&&sc.names.all (fun y=>y.2 != .free||sc.names.lookup y.1==some .free) &&
 sc.names.all (fun y=>y.2 != .free||c.names.lookup y.1==some .cell||c.names.lookup y.1==some .free) &&
 js.all fun j=>match c.N[j]? with
  | some y=>(c.names.lookup y==some .cell||c.names.lookup y==some .free)&&sc.names.lookup y==some .free
  | none=>false
noncomputable def inner (c:Cc) (sc:dD) (xs:List Str) (js:List Nat):Cc:=⟨relK c.names sc.names,xs++js.map (fun j=>c.N.getD j ""),false⟩
noncomputable def J9:Expr->Bool
 | .Tuple _ _ _=>true
 | _=>false
noncomputable def keyC:Key->Const->Bool
 | .inl i,.int j=>i==j
 | .inr s,.str t=>s==t
 | _,_=>false
noncomputable def chkDk:List Key->List (Option Expr)->Bool
 | [],[]=>true
 | k::ks,some (.Constant q _ _)::r=>keyC k q&&chkDk ks r
 | _,_=>false
noncomputable def sole {α:Type}:List α->Option α
  | a::r=>(match r with
    | []=>some a
    | _=>none)
  | _=>none
theorem vD {α:Type}{l:List α}{a:α}(h:sole l=some a):l=[a]:=by
 cases l with
 | nil=>cases h
 | cons b r=>
  cases r with
  | nil=>cases h;rfl
  | cons _ _=>cases h
noncomputable def asName:Expr->Option (Str×Pos)
 | .Name n p=>some (n,p)
 | _=>none
theorem zL {x:Expr}{q:Str×Pos}(h:asName x=some q):x=.Name q.1 q.2:=by
 cases x <;> first | (cases h;rfl) | cases h
noncomputable def asSub:Expr->Option (Expr×Expr×Pos)
 | .Subscript a b p=>some (a,b,p)
 | _=>none
noncomputable def asAtt:Expr->Option (Expr×Str×Pos)
 | .Attribute a m p=>some (a,m,p)
 | _=>none
theorem Jo {x:Expr}{q:Expr×Str×Pos}(h:asAtt x=some q):x=.Attribute q.1 q.2.1 q.2.2:=by
 cases x <;> first | (cases h;rfl) | cases h
noncomputable def yg {α:Type}:List α->Bool
 | []=>true
 | _=>false
theorem z8 {α:Type}{l:List α}(h:yg l=true):l=[]:=by
 cases l with
 | nil=>rfl
 | cons _ _=>cases h
noncomputable def isRev:Expr->Bool
  | .Slice l h st _=>l.isNone&&h.isNone&&(match st with
    | some (.UnaryOp op (.Constant k _ _) _)=>op==.USub&&(match k with
      | .int i=>i==1
      | _=>false)
    | _=>false)
  | _=>false
noncomputable def mtS:MT->Str
 | .get1=>"get" | .get2=>"get" | .index=>"index" | .join=>"join" | .split=>"split"
noncomputable def zbK:Expr->Bool
 | .Call _ _ _ _=>false
 | _=>true
noncomputable def zcQ:Expr->Bool
 | .Call _ (_::_) _ _=>true
 | x=>zbK x
noncomputable def XN:Expr->Bool
 | .Call _ _ _ _=>true
 | .List _ _=>true
 | .Dict _ _ _=>true
 | .BinOp _ _ _ _=>true
 | _=>false
noncomputable def wC:Expr->Option (Str×Expr)
 | .Call (.Name y _) [z] [] _=>some (y,z)
 | _=>none
mutual
noncomputable def chkE (B:Tb) (c:Cc):E->Expr->Bool
  | .var i,.Name x _=>c.N[i]?==some x&&visK (c.names.lookup x)&&zH x
  | .con d,.Constant k _ _=>match d,k with
    | .non,.none=>true
    | .bl a,.bool b=>a==b
    | .int a,.int b=>a==b
    | .str a,.str b=>a==b
    | _,_=>false
  | .glo n d,.Name x _=>(match B.consts[n]? with
    | some p=>p.1==x&&sameD p.2 d
    | none=>false)&&gloK (c.names.lookup x)&&zH x
  | .bin op a b,.BinOp x op' y _=>op==op'&&chkE B c a x&&chkE B c b y
  | .cmp op a b,.Compare x [op'] [y] _=>op==op'&&chkE B c a x&&chkE B c b y&&wI y
  | .not a,.UnaryOp op x _=>op==.Not&&chkE B c a x
  | .and a b,.BoolOp op (x::y::r) p=>op==.And&&chkE B c a x&&chkE B c b (.BoolOp .And (y::r) p)
  | .or a b,.BoolOp op (x::y::r) p=>op==.Or&&chkE B c a x&&chkE B c b (.BoolOp .Or (y::r) p)
  | .one a,.BoolOp op [x] _=>chkE B c a x
  | .ite t a b,.IfExp x y z _=>chkE B c t x&&chkE B c a y&&chkE B c b z
  | .tup es,.Tuple xs _ _=>chkEs B c es xs
  | .lst es,.List xs _=>chkEs B c es xs
  | .sub a i,.Subscript x y _=>chkE B c a x&&chkE B c i y
  | .slc a lo hi,.Subscript x (.Slice l h none _) _=>chkE B c a x&&chkO B c lo l&&chkO B c hi h
  | .bi b es,.Call (.Name x _) args [] _=>(match b with
    | .isinst t=>x==("isinstance":Str)&&B.bare.contains x&&B.bare.contains (tyN t)&&gloK (c.names.lookup x)&&(match es,args with
      | [e],[y,.Name z _]=>chkE B c e y&&notStar y&&z==tyN t&&gloK (c.names.lookup z)
      | _,_=>false)
    | .sset=>x==("sorted":Str)&&B.bare.contains x&&gloK (c.names.lookup x)&&(match es,args with
      | [e],[q]=>(match wC q with
        | some (y,z)=>y==("set":Str)&&B.bare.contains y&&gloK (c.names.lookup y)&&chkE B c e z&&notStar z
        | none=>false)
      | _,_=>false)
    | .lset=>false
    | .trev=>x==("tuple":Str)&&B.bare.contains x&&gloK (c.names.lookup x)&&(match es,args with
      | [e],[q]=>(match wC q with
        | some (y,z)=>y==("reversed":Str)&&B.bare.contains y&&gloK (c.names.lookup y)&&chkE B c e z&&notStar z
        | none=>false)
      | _,_=>false)
    | b=>x==biS b&&B.bare.contains x&&gloK (c.names.lookup x)&&chkEs B c es args&&!es.isEmpty)
  | .call f es,.Call (.Name x _) args [] _=>B.fns[f]?==some x&&gloK (c.names.lookup x)&&zH x&&chkEs B c es args&&!es.isEmpty
  | .callk f perm es,.Call (.Name x _) [] kws _=>B.fns[f]?==some x&&gloK (c.names.lookup x)&&zH x&&chkKs B c es kws&&(match ym kws,B.pars[f]? with
    | some ks,some ps=>perm.length==ps.length&&perm.all (· < ks.length)&&perm.map (fun i=>ks.getD i "")==ps&&ks.length==ps.length&&B.kws.contains (f,ks,perm)
    | _,_=>false)
  | .dk1 a b,.Dict keys vs _=>(match keys,vs with
    | [some k],[v]=>chkE B c a k&&chkE B c b v
    | _,_=>false)
  | .box e,x=>XN x&&chkE B c e x
  | .comp t js it ifs elt,.ListComp y [⟨tgt,iter,cs,k⟩] sc _=>k==0&&chkS c sc js&&chkI B c it tgt iter&&wI iter&&(match yr tgt with
    | some xs=>decide ((xs++js.map (fun j=>c.N.getD j "")).Nodup)&&nT t==xs.length&&tIs t==ϵ xs.length&&chkT (inner c sc xs js) t tgt&&chkE B (inner c sc xs js) elt y&&chkFs B (inner c sc xs js) ifs cs&&decide (ifs.length<=1)
    | none=>false)
  | _,_=>false
noncomputable def chkI (B:Tb) (c:Cc):E->Expr->Expr->Bool
 | .seq e,_,x=>chkE B c e x
 | .keys e,_,x=>chkE B c e x
 | .enum e,tg,.Call (.Name f _) [y] [] _=>J9 tg&&f==("enumerate":Str)&&B.bare.contains f&&gloK (c.names.lookup f)&&chkE B c e y&&notStar y
 | .rng none hi,_,.Call (.Name f _) [y] [] _=>f==("range":Str)&&B.bare.contains f&&gloK (c.names.lookup f)&&chkE B c hi y&&notStar y
 | .rng (some lo) hi,_,.Call (.Name f _) [x,y] [] _=>f==("range":Str)&&B.bare.contains f&&gloK (c.names.lookup f)&&chkE B c lo x&&notStar x&&chkE B c hi y&&notStar y
 | _,_,_=>false
noncomputable def chkEs (B:Tb) (c:Cc):List E->List Expr->Bool
 | [],[]=>true
 | e::es,x::xs=>chkE B c e x&&notStar x&&chkEs B c es xs
 | _,_=>false
noncomputable def chkFs (B:Tb) (c:Cc):List E->List Expr->Bool
 | [],[]=>true
 | e::es,x::xs=>chkE B c e x&&chkFs B c es xs
 | _,_=>false
noncomputable def chkO (B:Tb) (c:Cc):Option E->Option Expr->Bool
 | none,none=>true
 | some e,some x=>chkE B c e x
 | _,_=>false
noncomputable def chkKs (B:Tb) (c:Cc):List E->List cW->Bool
 | [],[]=>true
 | e::es,⟨some _,x,_⟩::xs=>chkE B c e x&&chkKs B c es xs
 | _,_=>false
end
theorem yM {x:Ϗ}{Q:Ϗ->Prop}(h:Λ x.ctorIdx 0=true) (f:∀ a0 a1 a2,Q (.BoolOp a0 a1 a2)):Q x:=by
 revert h
 cases x with
 | BoolOp a0 a1 a2=>exact fun _=>f a0 a1 a2
 | _=>exact nobE
theorem QX {x:Ϗ}{Q:Ϗ->Prop}(h:Λ x.ctorIdx 2=true) (f:∀ a0 a1 a2 a3,Q (.BinOp a0 a1 a2 a3)):Q x:=by
 revert h
 cases x with
 | BinOp a0 a1 a2 a3=>exact fun _=>f a0 a1 a2 a3
 | _=>exact nobE
theorem j5 {x:Ϗ}{Q:Ϗ->Prop}(h:Λ x.ctorIdx 3=true) (f:∀ a0 a1 a2,Q (.UnaryOp a0 a1 a2)):Q x:=by
 revert h
 cases x with
 | UnaryOp a0 a1 a2=>exact fun _=>f a0 a1 a2
 | _=>exact nobE
theorem QW {x:Ϗ}{Q:Ϗ->Prop}(h:Λ x.ctorIdx 5=true) (f:∀ a0 a1 a2 a3,Q (.IfExp a0 a1 a2 a3)):Q x:=by
 revert h
 cases x with
 | IfExp a0 a1 a2 a3=>exact fun _=>f a0 a1 a2 a3
 | _=>exact nobE
theorem zb4 {x:Ϗ}{Q:Ϗ->Prop}(h:Λ x.ctorIdx 6=true) (f:∀ a0 a1 a2,Q (.Dict a0 a1 a2)):Q x:=by
 revert h
 cases x with
 | Dict a0 a1 a2=>exact fun _=>f a0 a1 a2
 | _=>exact nobE
theorem uI {x:Ϗ}{Q:Ϗ->Prop}(h:Λ x.ctorIdx 8=true) (f:∀ a0 a1 a2 a3,Q (.ListComp a0 a1 a2 a3)):Q x:=by
 revert h
 cases x with
 | ListComp a0 a1 a2 a3=>exact fun _=>f a0 a1 a2 a3
 | _=>exact nobE
theorem Wg {x:Ϗ}{Q:Ϗ->Prop}(h:Λ x.ctorIdx 15=true) (f:∀ a0 a1 a2 a3,Q (.Compare a0 a1 a2 a3)):Q x:=by
 revert h
 cases x with
 | Compare a0 a1 a2 a3=>exact fun _=>f a0 a1 a2 a3
 | _=>exact nobE
theorem uK {x:Ϗ}{Q:Ϗ->Prop}(h:Λ x.ctorIdx 16=true) (f:∀ a0 a1 a2 a3,Q (.Call a0 a1 a2 a3)):Q x:=by
 revert h
 cases x with
 | Call a0 a1 a2 a3=>exact fun _=>f a0 a1 a2 a3
 | _=>exact nobE
theorem uJ {x:Ϗ}{Q:Ϗ->Prop}(h:Λ x.ctorIdx 19=true) (f:∀ a0 a1 a2,Q (.Constant a0 a1 a2)):Q x:=by
 revert h
 cases x with
 | Constant a0 a1 a2=>exact fun _=>f a0 a1 a2
 | _=>exact nobE
theorem QZ {x:Ϗ}{Q:Ϗ->Prop}(h:Λ x.ctorIdx 20=true) (f:∀ a0 a1 a2,Q (.Attribute a0 a1 a2)):Q x:=by
 revert h
 cases x with
 | Attribute a0 a1 a2=>exact fun _=>f a0 a1 a2
 | _=>exact nobE
theorem vO {x:Ϗ}{Q:Ϗ->Prop}(h:Λ x.ctorIdx 21=true) (f:∀ a0 a1 a2,Q (.Subscript a0 a1 a2)):Q x:=by
 revert h
 cases x with
 | Subscript a0 a1 a2=>exact fun _=>f a0 a1 a2
 | _=>exact nobE
theorem xG {x:Ϗ}{Q:Ϗ->Prop}(h:Λ x.ctorIdx 23=true) (f:∀ a0 a1,Q (.Name a0 a1)):Q x:=by
 revert h
 cases x with
 | Name a0 a1=>exact fun _=>f a0 a1
 | _=>exact nobE
theorem ofList {x:Ϗ}{Q:Ϗ->Prop}(h:Λ x.ctorIdx 24=true) (f:∀ a0 a1,Q (.List a0 a1)):Q x:=by
 revert h
 cases x with
 | List a0 a1=>exact fun _=>f a0 a1
 | _=>exact nobE
theorem QS {x:Ϗ}{Q:Ϗ->Prop}(h:Λ x.ctorIdx 25=true) (f:∀ a0 a1 a2,Q (.Tuple a0 a1 a2)):Q x:=by
 revert h
 cases x with
 | Tuple a0 a1 a2=>exact fun _=>f a0 a1 a2
 | _=>exact nobE
theorem QT {x:Ϗ}{Q:Ϗ->Prop}(h:Λ x.ctorIdx 26=true) (f:∀ a0 a1 a2 a3,Q (.Slice a0 a1 a2 a3)):Q x:=by
 revert h
 cases x with
 | Slice a0 a1 a2 a3=>exact fun _=>f a0 a1 a2 a3
 | _=>exact nobE
theorem Wf {x:ϴ}{Q:ϴ->Prop}(h:Λ x.ctorIdx 5=true) (f:∀ a0 a1 a2,Q (.Assign a0 a1 a2)):Q x:=by
 revert h
 cases x with
 | Assign a0 a1 a2=>exact fun _=>f a0 a1 a2
 | _=>exact nobE
theorem qT {x:ϴ}{Q:ϴ->Prop}(h:Λ x.ctorIdx 24=true) (f:∀ a0 a1,Q (.Expr a0 a1)):Q x:=by
 revert h
 cases x with
 | Expr a0 a1=>exact fun _=>f a0 a1
 | _=>exact nobE
theorem j6 {x:ϴ}{Q:ϴ->Prop}(h:Λ x.ctorIdx 3=true) (f:∀ a0 a1,Q (.Return a0 a1)):Q x:=by
 revert h
 cases x with
 | Return a0 a1=>exact fun _=>f a0 a1
 | _=>exact nobE
theorem ofSIf {x:ϴ}{Q:ϴ->Prop}(h:Λ x.ctorIdx 12=true) (f:∀ a0 a1 a2 a3,Q (.If a0 a1 a2 a3)):Q x:=by
 revert h
 cases x with
 | If a0 a1 a2 a3=>exact fun _=>f a0 a1 a2 a3
 | _=>exact nobE
theorem Uv {x:ϴ}{Q:ϴ->Prop}(h:Λ x.ctorIdx 11=true) (f:∀ a0 a1 a2 a3,Q (.While a0 a1 a2 a3)):Q x:=by
 revert h
 cases x with
 | While a0 a1 a2 a3=>exact fun _=>f a0 a1 a2 a3
 | _=>exact nobE
theorem zb3 {x:ϴ}{Q:ϴ->Prop}(h:Λ x.ctorIdx 9=true) (f:∀ a0 a1 a2 a3 a4,Q (.For a0 a1 a2 a3 a4)):Q x:=by
 revert h
 cases x with
 | For a0 a1 a2 a3 a4=>exact fun _=>f a0 a1 a2 a3 a4
 | _=>exact nobE
theorem QV {x:ϴ}{Q:ϴ->Prop}(h:Λ x.ctorIdx 25=true) (f:∀ a0,Q (.Pass a0)):Q x:=by
 revert h
 cases x with
 | Pass a0=>exact fun _=>f a0
 | _=>exact nobE
theorem Uw {x:ϴ}{Q:ϴ->Prop}(h:Λ x.ctorIdx 26=true) (f:∀ a0,Q (.Break a0)):Q x:=by
 revert h
 cases x with
 | Break a0=>exact fun _=>f a0
 | _=>exact nobE
theorem qU {x:ϴ}{Q:ϴ->Prop}(h:Λ x.ctorIdx 27=true) (f:∀ a0,Q (.Continue a0)):Q x:=by
 revert h
 cases x with
 | Continue a0=>exact fun _=>f a0
 | _=>exact nobE
structure EnvO (Γ:Gm) (Hz H:Hp) (g:G) (ρ:List Slot) (σ:L2.St):Prop where
 len:ρ.length=σ.length
 sh:∀ (i:Nat) (d:D),ρ[i]?=some (.sh d)->∃ v,σ[i]?=some (some v)/\Has Γ g d v
 ow:∀ (i:Nat) (d:D),ρ[i]?=some (.ow d)->∃ a,σ[i]?=some (some (.ref a))/\Hz a=none/\g.R a=none/\a ∉ g.α/\zM Γ H g a d/\isIns d=false
 inj:∀ (i j:Nat) (d e:D) (a:Addr),ρ[i]?=some (.ow d)->ρ[j]?=some (.ow e)->σ[i]?=some (some (.ref a))->σ[j]?=some (some (.ref a))->i=j
section
variable {Γ:Gm}{H H':Hp}{g g':G}{S:Store}{a:Addr}
theorem WOk.zO {o:HO}(w:WOk Γ H g S) (hr:g.R a=none) (ha:a ∉ g.α):WOk Γ (upd H a o) g S where
 rh:=fun b u q=>by
  have e:=w.rh b u q
  have:b≠a:=by rintro rfl;rw [hr] at q;cases q
  rw [zc this];exact e
 len:=w.len
 nd:=w.nd
 off:=w.off
 cell:=fun k c b h1 h2=>(w.cell k c b h1 h2).mono (Le.refl g) fun o e=>by
  have:b≠a:=by rintro rfl;exact ha (aB h2)
  rw [zc this];exact e
theorem Step.zO {o:HO}(s:Step H g H' g') (h:H a=none):Step H g (upd H' a o) g' where
 le:=s.le
 fr:=fun b u e n=>by rw [zc (zf e h)];exact s.fr b u e n
 ex:=fun b u e=>by rw [zc (zf e h)];exact s.ex b u e
 na:=s.na
 nr:=s.nr
theorem Step.kept {o:HO}(s:Step H g H' g') (h:H a=some o) (hr:g.R a=none) (ha:a ∉ g.α) (hm:MutF o:=by trivial):H' a=some o/\g'.R a=none/\a ∉ g'.α:=by
 refine ⟨s.fr a o h ha,?_,fun m=>?_⟩
 ·cases q:g'.R a with
  | none=>rfl
  | some u=>
   rcases s.nr a (by rw [q];simp) with z | z | z | ⟨xs,z⟩
   ·exact absurd hr z
   ·rw [h] at z;cases z
   ·exact absurd z ha
   ·rw [h] at z;cases z;exact hm.elim
 ·rcases s.na a m with z | z
  ·exact ha z
  ·rw [h] at z;cases z
end
section
variable {Γ:Gm}{Hz H H':Hp}{g g':G}{S:Store}{ρ:List Slot}{σ:L2.St}
theorem zp (env:EnvO Γ Hz H g ρ σ) (st:Step H g H' g'):EnvO Γ Hz H' g' ρ σ:=by
 refine ⟨env.len,fun i d h=>?_,fun i d h=>?_,env.inj⟩
 ·obtain ⟨v,h1,h2⟩:=env.sh i d h
  exact ⟨v,h1,h2.mono st.le⟩
 ·obtain ⟨a,h1,h2,h3,h4,h5,h6⟩:=env.ow i d h
  obtain ⟨o,ho,hm⟩:=h5.isMut
  obtain ⟨k1,k2,k3⟩:=st.kept ho h3 h4 hm
  exact ⟨a,h1,h2,k2,k3,h5.mono st.le fun o' z=>by rw [ho] at z;cases z;exact k1,h6⟩
def VN (Γ:Gm) (Hb:Hp) (x:Vl) (v:V) (H:Hp) (g:G):Prop:=match x.2 with
 | .st=>Has Γ g x.1 v
 | .fr=>∃ a,v=.ref a/\Hb a=none/\g.R a=none/\a ∉ g.α/\zM Γ H g a x.1
 | .bo=>∃ a,v=.ref a/\g.R a=none/\a ∉ g.α/\zM Γ H g a x.1
theorem VN.of {Hb:Hp}{d:D}{fr:Bool}{v:V}(h:VOk Γ Hb d fr v H g):VN Γ Hb (ofB (d,fr)) v H g:=by
 cases fr <;> exact h
theorem VN.back {H1:Hp}{g1:G}{x:Vl}{v:V}(h:VN Γ H1 x v H' g') (s:Step H g H1 g1):VN Γ H x v H' g':=by
 obtain ⟨d,k⟩:=x
 cases k with
 | fr=>
  obtain ⟨a,e,h0,r⟩:=h
  exact ⟨a,e,s.Z4 h0,r⟩
 | _=>exact h
theorem VN.step {Hb:Hp}{x:Vl}{v:V}(h:VN Γ Hb x v H g) (s:Step H g H' g'):VN Γ Hb x v H' g':=by
 obtain ⟨d,k⟩:=x
 cases k with
 | st=>exact (show Has Γ g d v from h).mono s.le
 | fr=>
  obtain ⟨a,e,h0,h1,h2,h3⟩:=h
  obtain ⟨o,ho,hm⟩:=h3.isMut
  obtain ⟨k1,k2,k3⟩:=s.kept ho h1 h2 hm
  exact ⟨a,e,h0,k2,k3,h3.mono s.le fun o' q=>by rw [ho] at q;cases q;exact k1⟩
 | bo=>
  obtain ⟨a,e,h1,h2,h3⟩:=h
  obtain ⟨o,ho,hm⟩:=h3.isMut
  obtain ⟨k1,k2,k3⟩:=s.kept ho h1 h2 hm
  exact ⟨a,e,k2,k3,h3.mono s.le fun o' q=>by rw [ho] at q;cases q;exact k1⟩
theorem Yo {a:Addr}{d:D}(hr:g.R a=none) (h:zM Γ H g a d):Rdb Γ H g (deref S d) (.ref a):=by
 cases d with
 | lst ds=>obtain ⟨vs,h1,h2⟩:=h;exact ⟨a,vs,rfl,h1,h2⟩
 | dK ks ds=>obtain ⟨vs,h1,h3,h2⟩:=h;exact ⟨a,vs,rfl,h1,h3,h2⟩
 | dT ks ds=>obtain ⟨vs,h1,h3,h2⟩:=h;exact ⟨a,vs,rfl,h1,h3,h2⟩
 | ref=>obtain ⟨o,h1,_⟩:=h;rw [hr] at h1;cases h1
 | _=>exact h.elim
theorem VN.rdb {Hb:Hp}{x:Vl}{v:V}(h:VN Γ Hb x v H g) (w:WOk Γ H g S):Rdb Γ H g (deref S x.1) v:=by
 obtain ⟨d,k⟩:=x
 cases k with
 | st=>exact Jz w h
 | fr=>obtain ⟨a,rfl,_,h1,_,h3⟩:=h;exact Yo h1 h3
 | bo=>obtain ⟨a,rfl,h1,_,h3⟩:=h;exact Yo h1 h3
theorem VN.sc {Hb:Hp}{d:D}{k:Kd}{v:V}(h:VN Γ Hb (d,k) v H g) (hc:∀ a,¬ zM Γ H g a d):Has Γ g d v:=by
 cases k with
 | st=>exact h
 | fr=>obtain ⟨a,_,_,_,_,h3⟩:=h;exact (hc a h3).elim
 | bo=>obtain ⟨a,_,_,_,h3⟩:=h;exact (hc a h3).elim
theorem VN.keep {x:Vl}{v:V}{Q:D->Prop}(h:VN Γ H x v H' g') (st:Step H g H' g') (w:WOk Γ H' g' S) (k:EV.keep x Q):∃ g2,Step H g H' g2/\WOk Γ H' g2 S/\Has Γ g2 x.1 v/\Q x.1:=by
 obtain ⟨d,kk⟩:=x
 cases kk with
 | st=>exact ⟨g',st,w,h,k⟩
 | fr=>
  obtain ⟨g2,a,b,c,_⟩:=freeze (fr:=true) st w h rfl
  exact ⟨g2,a,b,c,k⟩
 | bo=>exact k.elim
end
def TX (Γ:Gm) (cf:Cf) (e:E):TE:=fun σ H Q=>∃ ρ S V g Hz,wpE cf ρ e V S/\WOk Γ H g S/\EnvO Γ Hz H g ρ σ/\∀ x v H' g' S',Step H g H' g'->WOk Γ H' g' S'->VN Γ H x v H' g'->V x S'->Q v H'
def TB (Γ:Gm) (cf:Cf) (e:E):TT:=fun σ H Q=>∃ ρ S V g Hz,wpE cf ρ e V S/\WOk Γ H g S/\EnvO Γ Hz H g ρ σ/\∀ x H' g' S',Step H g H' g'->WOk Γ H' g' S'->V x S'->isB x.1 fun b=>Q b H'
def TXs (Γ:Gm) (cf:Cf) (es:List E):TA:=fun σ H Q=>∃ ρ S W g Hz,wpEs cf ρ es W S/\WOk Γ H g S/\EnvO Γ Hz H g ρ σ/\∀ ds vs H' g' S',Step H g H' g'->WOk Γ H' g' S'->Hass Γ g' ds vs->W ds S'->Q vs H'
def TXo (Γ:Gm) (cf:Cf) (o:Option E):TO:=fun σ H Q=>∃ ρ S W g Hz,wpO cf ρ o W S/\WOk Γ H g S/\EnvO Γ Hz H g ρ σ/\∀ i H' g' S',Step H g H' g'->WOk Γ H' g' S'->W i S'->Q i H'
section
variable {Γ:Gm}{cf:Cf}{σ:L2.St}{H:Hp}{P:Prop}
theorem goX {e:E}{Q:VK}(h:TX Γ cf e σ H Q) (f:∀ ρ S V g Hz,wpE cf ρ e V S->WOk Γ H g S->EnvO Γ Hz H g ρ σ->(∀ x v H' g' S',Step H g H' g'->WOk Γ H' g' S'->VN Γ H x v H' g'->V x S'->Q v H')->P):P:=
 let ⟨ρ,S,V,g,Hz,a,b,c,d⟩:=h;f ρ S V g Hz a b c d
theorem goB {e:E}{Q} (h:TB Γ cf e σ H Q) (f:∀ ρ S V g Hz,wpE cf ρ e V S->WOk Γ H g S->EnvO Γ Hz H g ρ σ->(∀ x H' g' S',Step H g H' g'->WOk Γ H' g' S'->V x S'->isB x.1 fun b=>Q b H')->P):P:=
 let ⟨ρ,S,V,g,Hz,a,b,c,d⟩:=h;f ρ S V g Hz a b c d
theorem goS {es:List E}{Q} (h:TXs Γ cf es σ H Q) (f:∀ ρ S W g Hz,wpEs cf ρ es W S->WOk Γ H g S->EnvO Γ Hz H g ρ σ->(∀ ds vs H' g' S',Step H g H' g'->WOk Γ H' g' S'->Hass Γ g' ds vs->W ds S'->Q vs H')->P):P:=
 let ⟨ρ,S,V,g,Hz,a,b,c,d⟩:=h;f ρ S V g Hz a b c d
theorem goO {o:Option E}{Q} (h:TXo Γ cf o σ H Q) (f:∀ ρ S W g Hz,wpO cf ρ o W S->WOk Γ H g S->EnvO Γ Hz H g ρ σ->(∀ i H' g' S',Step H g H' g'->WOk Γ H' g' S'->W i S'->Q i H')->P):P:=
 let ⟨ρ,S,V,g,Hz,a,b,c,d⟩:=h;f ρ S V g Hz a b c d
end
def rAny (X:Cx) (f:δ->δ->Sem δ):R2:=fun x y H Q=>∃ r,OpR X f r/\r x y H Q
theorem opAny {X:Cx}{f:δ->δ->Sem δ}:OpR X f (rAny X f):=fun pJ s σ H x y v u Q I rx ry ⟨_,h,q⟩=>h pJ s σ H x y v u Q I rx ry q
def ixAny (X:Cx):R2:=fun x y H Q=>∃ r,IxR X r/\r x y H Q
theorem zcj {X:Cx}:IxR X (ixAny X):=fun a b pJ s σ H x y v u Q I rx ry ⟨_,h,q⟩=>h a b pJ s σ H x y v u Q I rx ry q
def slAny (X:Cx):V->Option Int->Option Int->Hp->VK->Prop:=fun x l u H Q=>∃ r,SlR X r/\r x l u H Q
theorem zbe {X:Cx}:SlR X (slAny X):=fun pJ s σ H x v vl vu lo hi sl Q I rx hs pl pu ⟨_,h,q⟩=>h pJ s σ H x v vl vu lo hi sl Q I rx hs pl pu q
def clAny (X:Cx) (f:δ):List V->Hp->VK->Prop:=fun xs H Q=>∃ r,CallR X f r/\r xs H Q
theorem qm {X:Cx}{f:δ}:CallR X f (clAny X f):=fun pJ s σ H xs us Q I rv ⟨_,h,q⟩=>h pJ s σ H xs us Q I rv q
section
variable {X:Cx}{Γ:Gm}{cf:Cf}{x y z:Expr}{pos p:Pos}{a b c:E}
theorem s_var {i:Nat}{n:Str}(hN:X.N[i]?=some n) (hv:Vis X.env.scope n) (hd:(n==("__debug__":Str))=false) (hcd:(n==("__classdict__":Str))=false):PE X (.Name n pos) (TX Γ cf (.var i)):=by
 refine (uG hN hv hd hcd).imp fun σ H Q h0=>goX h0 fun ρ S V g Hz hw w env k=>?_
 have hw:sel ρ[i]? (fun d=>V (d,.st) S) (fun d=>V (d,.bo) S):=hw
 cases e:ρ[i]? with
 | none=>rw [e] at hw;exact hw.elim
 | some s=>
  rw [e] at hw
  cases s with
  | no=>exact hw.elim
  | sh d=>
   obtain ⟨v,h1,h2⟩:=env.sh i d e
   exact ⟨v,h1,k (d,.st) v H g S (Step.refl H g) w h2 hw⟩
  | ow d=>
   obtain ⟨a,h1,h2,h3,h4,h5,_⟩:=env.ow i d e
   exact ⟨_,h1,k (d,.bo) _ H g S (Step.refl H g) w ⟨a,rfl,h3,h4,h5⟩ hw⟩
theorem s_con {t:V}{d:D}{e:E}(h:PE X x (tC t)) (hd:∀ g,Has Γ g d t) (he:∀ ρ V S,wpE cf ρ e V S->V (d,.st) S):PE X x (TX Γ cf e):=h.imp fun σ H Q h0=>goX h0 fun ρ S V g Hz hw w env k=>k (d,.st) _ H g S (Step.refl H g) w (hd g) (he _ _ _ hw)
theorem two {G1:V->V->Hp->Prop}{σ:L2.St}{H:Hp}{ρ:List Slot}{S:Store}{g:G}{Hz:Hp}{W:Vl->Vl->Store->Prop}(hw:wpE cf ρ a (fun x S1=>wpE cf ρ b (fun y S2=>W x y S2) S1) S) (w:WOk Γ H g S) (env:EnvO Γ Hz H g ρ σ)
  (k:∀ x y u v H' g' S',Step H g H' g'->WOk Γ H' g' S'->VN Γ H x u H' g'->VN Γ H y v H' g'->W x y S'->G1 u v H'):TX Γ cf a σ H fun u H1=>TX Γ cf b σ H1 fun v H2=>G1 u v H2:=
 ⟨ρ,S,_,g,Hz,hw,w,env,fun x u H1 g1 S1 st1 w1 v1 h1=>⟨ρ,S1,_,g1,Hz,h1,w1,zp env st1,fun y v H2 g2 S2 st2 w2 v2 h2=>k x y u v H2 g2 S2 (st1.trans st2) w2 (v1.step st2) (v2.back st1) h2⟩⟩
theorem s_bin {op:mJ}(hK:X.K=Γ.K) (ha:PE X x (TX Γ cf a)) (hb:PE X y (TX Γ cf b)):PE X (.BinOp x op y pos) (TX Γ cf (.bin op a b)):=
 (pe_op opAny ha hb).imp fun σ H Q h0=>goX h0 fun ρ S V g Hz hw w env k=>two hw w env fun x y u v H' g' S' st w' vx vy h=>by
  have h:opt (opD op (deref S' x.1) (deref S' y.1)) (fun p=>V (ofB p) S'):=h
  cases eo:opD op (deref S' x.1) (deref S' y.1) with
  | none=>rw [eo] at h;exact h.elim
  | some p=>
   rw [eo] at h
   obtain ⟨r,h1,h2⟩:=zbT (X:=X) hK eo
   exact ⟨r,h1,h2 S' H' g' u v Q w' (vx.rdb w') (vy.rdb w') fun t H2 g2 st2 _ w2 vo=>k _ t H2 g2 S' (st.trans st2) w2 ((VN.of vo).back st) h⟩
theorem cmp2 {op:gj}{u v:V}{dx dy:Vl}{Hb H':Hp}{g':G}{S':Store}{Q:VK}{T:Bool->Prop}(hK:X.K=Γ.K) (hu:X.A.units+61 < aG) (w':WOk Γ H' g' S') (vx:VN Γ Hb dx u H' g') (vy:VN Γ Hb dy v H' g') (h:opt (cmpD op (deref S' dx.1) (deref S' dy.1)) T)
  (k:∀ r H2 g2,Step H' g' H2 g2->WOk Γ H2 g2 S'->T r->Q (.bl r) H2):rAny X (ϔ op) u v H' Q:=by
 cases eo:cmpD op (deref S' dx.1) (deref S' dy.1) with
 | none=>rw [eo] at h;exact h.elim
 | some r=>
  rw [eo] at h
  obtain ⟨r2,h1,h2⟩:=zaB (X:=X) hK hu eo
  refine ⟨r2,h1,h2 S' H' g' u v Q w' (vx.rdb w') (vy.rdb w') fun t H2 g2 st2 _ w2 vo=>?_⟩
  cases (show t=.bl r from vo)
  exact k r H2 g2 st2 w2 h
theorem s_cmp {op:gj}(hK:X.K=Γ.K) (hu:X.A.units+61 < aG) (ha:PE X x (TX Γ cf a)) (hb:PE X y (TX Γ cf b)) (hm:behindInMarks op y=false):PE X (.Compare x [op] [y] pos) (TX Γ cf (.cmp op a b))/\PT X (.Compare x [op] [y] pos) (TB Γ cf (.cmp op a b)):=
 ⟨(QG opAny ha hb hm).imp fun σ H Q h0=>goX h0 fun ρ S V g Hz hw w env k=>two hw w env fun x y u v H' g' S' st w' vx vy h=>cmp2 hK hu w' vx vy h fun r H2 g2 st2 w2 h=>k (.bl r,.st) _ H2 g2 S' (st.trans st2) w2 rfl h,
 (Qv opAny ha hb hm).imp fun σ H Q h0=>goB h0 fun ρ S V g Hz hw w env k=>two hw w env fun x y u v H' g' S' st w' vx vy h=>cmp2 hK hu w' vx vy h fun r H2 g2 st2 w2 h=>⟨r,rfl,k (.bl r,.st) H2 g2 S' (st.trans st2) w2 h⟩⟩
theorem xK {d:D}{Q:Bool->Prop}(h:isB d Q):∃ b,d=.bl b/\Q b:=by
 cases d with
 | bl b=>exact ⟨b,rfl,h⟩
 | _=>exact h.elim
theorem zct {d:D}{Q:Int->Prop}(h:isZ d Q):∃ b,d=.int b/\Q b:=by
 cases d with
 | int b=>exact ⟨b,rfl,h⟩
 | _=>exact h.elim
theorem VN.bl {Hb H:Hp}{g:G}{x:Vl}{v:V}{Q:Bool->Prop}(h:VN Γ Hb x v H g) (k:isB x.1 Q):∃ b,v=.bl b/\Q b:=by
 obtain ⟨d,kk⟩:=x
 obtain ⟨b,rfl,q⟩:=xK k
 exact ⟨b,h.sc fun _ z=>z.elim,q⟩
theorem VN.int {Hb H:Hp}{g:G}{x:Vl}{v:V}{Q:Int->Prop}(h:VN Γ Hb x v H g) (k:isZ x.1 Q):∃ b,v=.int b/\Q b:=by
 obtain ⟨d,kk⟩:=x
 obtain ⟨b,rfl,q⟩:=zct k
 exact ⟨b,h.sc fun _ z=>z.elim,q⟩
theorem zbi (h:PE X x (TX Γ cf a)) (he:∀ whole,iJ x X.env whole=(do let v <- whole;standAt x.pos;holding [v] (truthy v))):PT X x (TB Γ cf a):=
 (zbG h he).imp fun σ H Q h0=>goB h0 fun ρ S V g Hz hw w env k=>⟨ρ,S,_,g,Hz,hw,w,env,fun x v H' g' S' st w' vx h=>vx.bl (k x H' g' S' st w' h)⟩
theorem zbt (h:PT X x (TB Γ cf a)):PT X (.UnaryOp .Not x pos) (TB Γ cf (.not a)):=
 (zbH h).imp fun σ H Q h0=>goB h0 fun ρ S V g Hz hw w env k=>⟨ρ,S,_,g,Hz,hw,w,env,fun x H' g' S' st w' h=>by
  obtain ⟨b,e,q⟩:=xK h
  rw [e]
  exact k (.bl (!b),.st) H' g' S' st w' q⟩
theorem s_not (h:PE X x (TX Γ cf a)):PE X (.UnaryOp .Not x pos) (TX Γ cf (.not a)):=
 (JH h).imp fun σ H Q h0=>goX h0 fun ρ S V g Hz hw w env k=>⟨ρ,S,_,g,Hz,hw,w,env,fun x v H' g' S' st w' vx h=>by
  obtain ⟨b,e,q⟩:=vx.bl h
  exact ⟨b,e,k (.bl (!b),.st) _ H' g' S' st w' rfl q⟩⟩
end
section
variable {X:Cx}{Γ:Gm}{cf:Cf}{x y z:Expr}{pos p:Pos}{a b c:E}
theorem tx_go {σ:L2.St}{H H1:Hp}{g g1:G}{Q:VK}{ρ:List Slot}{V:Po}{S1:Store}{Hz:Hp}(st:Step H g H1 g1) (w1:WOk Γ H1 g1 S1) (env:EnvO Γ Hz H g ρ σ) (k:∀ x v H' g' S',Step H g H' g'->WOk Γ H' g' S'->VN Γ H x v H' g'->V x S'->Q v H') (hw:wpE cf ρ a V S1):TX Γ cf a σ H1 Q:=
 ⟨ρ,S1,V,g1,Hz,hw,w1,zp env st,fun y u H2 g2 S2 st2 w2 vy hy=>k y u H2 g2 S2 (st.trans st2) w2 (vy.back st) hy⟩
theorem tb_go {σ:L2.St}{H H1:Hp}{g g1:G}{Q:Bool->Hp->Prop}{ρ:List Slot}{V:Po}{S1:Store}{Hz:Hp}(st:Step H g H1 g1) (w1:WOk Γ H1 g1 S1) (env:EnvO Γ Hz H g ρ σ) (k:∀ x H' g' S',Step H g H' g'->WOk Γ H' g' S'->V x S'->isB x.1 fun b=>Q b H') (hw:wpE cf ρ a V S1):TB Γ cf a σ H1 Q:=
 ⟨ρ,S1,V,g1,Hz,hw,w1,zp env st,fun y H2 g2 S2 st2 w2 hy=>k y H2 g2 S2 (st.trans st2) w2 hy⟩
theorem s_and {rest:List Expr}(ha:PE X x (TX Γ cf a)) (hb:PE X (.BoolOp .And (y::rest) pos) (TX Γ cf b)):PE X (.BoolOp .And (x::y::rest) pos) (TX Γ cf (.and a b)):=
 (JM ha hb).imp fun σ H Q h0=>goX h0 fun ρ S V g Hz hw w env k=>⟨ρ,S,_,g,Hz,hw,w,env,fun x v H1 g1 S1 st w1 vx h=>by
  obtain ⟨r,e,q⟩:=vx.bl h
  refine ⟨r,e,?_⟩
  cases r with
  | false=>exact iteF (k (.bl false,.st) _ H1 g1 S1 st w1 rfl q)
  | true=>exact iteT (tx_go st w1 env k q)⟩
theorem s_or {rest:List Expr}(ha:PE X x (TX Γ cf a)) (hb:PE X (.BoolOp .Or (y::rest) pos) (TX Γ cf b)):PE X (.BoolOp .Or (x::y::rest) pos) (TX Γ cf (.or a b)):=
 (pe_or ha hb).imp fun σ H Q h0=>goX h0 fun ρ S V g Hz hw w env k=>⟨ρ,S,_,g,Hz,hw,w,env,fun x v H1 g1 S1 st w1 vx h=>by
  obtain ⟨r,e,q⟩:=vx.bl h
  refine ⟨r,e,?_⟩
  cases r with
  | true=>exact iteT (k (.bl true,.st) _ H1 g1 S1 st w1 rfl q)
  | false=>exact iteF (tx_go st w1 env k q)⟩
theorem PW.impE {t t':TT}(h:PW X x t) (i:∀ σ H Q,t' σ H Q->t σ H Q):PW X x t':=fun wh pJ s σ H Q I q=>h wh pJ s σ H Q I (i σ H Q q)
theorem zbz {rest:List Expr}(ha:PT X x (TB Γ cf a)) (hb:PW X (.BoolOp .And (y::rest) pos) (TB Γ cf b)):PW X (.BoolOp .And (x::y::rest) pos) (TB Γ cf (.and a b)):=
 PW.impE (zbF ha hb) fun σ H Q h0=>goB h0 fun ρ S V g Hz hw w env k=>⟨ρ,S,_,g,Hz,hw,w,env,fun x H1 g1 S1 st w1 h=>by
  obtain ⟨r,e,q⟩:=xK h
  rw [e]
  show (if r=true then _ else _)
  cases r with
  | false=>exact iteF (k (.bl false,.st) H1 g1 S1 st w1 q)
  | true=>exact iteT (tb_go st w1 env k q)⟩
theorem s_orW {rest:List Expr}(ha:PT X x (TB Γ cf a)) (hb:PW X (.BoolOp .Or (y::rest) pos) (TB Γ cf b)):PW X (.BoolOp .Or (x::y::rest) pos) (TB Γ cf (.or a b)):=
 PW.impE (pw_or ha hb) fun σ H Q h0=>goB h0 fun ρ S V g Hz hw w env k=>⟨ρ,S,_,g,Hz,hw,w,env,fun x H1 g1 S1 st w1 h=>by
  obtain ⟨r,e,q⟩:=xK h
  rw [e]
  show (if r=true then _ else _)
  cases r with
  | true=>exact iteT (k (.bl true,.st) H1 g1 S1 st w1 q)
  | false=>exact iteF (tb_go st w1 env k q)⟩
theorem Jv {op:nP}(h:PT X x (TB Γ cf a)):PW X (.BoolOp op [x] pos) (TB Γ cf (.one a)):=by
 cases op with
 | And=>exact Qq h
 | Or=>exact zbE h
theorem s_ite (hc:PT X x (TB Γ cf c)) (ha:PE X y (TX Γ cf a)) (hb:PE X z (TX Γ cf b)):PE X (.IfExp x y z pos) (TX Γ cf (.ite c a b)):=
 (Ul hc ha hb).imp fun σ H Q h0=>goX h0 fun ρ S V g Hz hw w env k=>⟨ρ,S,_,g,Hz,hw,w,env,fun x H1 g1 S1 st w1 h=>by
  obtain ⟨r,e,q⟩:=xK h
  rw [e]
  show (if r=true then _ else _)
  cases r with
  | true=>exact iteT (tx_go st w1 env k q)
  | false=>exact iteF (tx_go st w1 env k q)⟩
theorem zb (h:notStar x=true) (xs:List Expr) (env:Env):Ϣ (x::xs) env=(false,eval x env)::Ϣ xs env:=by
 cases x <;> first | rfl | cases h
theorem s_nil:PA X [] (TXs Γ cf []):=yx.imp fun σ H Q h0=>goS h0 fun ρ S W g Hz hw w env k=>k [] [] H g S (Step.refl H g) w rfl hw
theorem args_cons {es:List E}{σ:L2.St}{H:Hp}{Q:List V->Hp->Prop}(h:TXs Γ cf (a::es) σ H Q):TX Γ cf a σ H fun v H1=>TXs Γ cf es σ H1 fun vs H2=>Q (v::vs) H2:=by
 obtain ⟨ρ,S,W,g,Hz,hw,w,env,k⟩:=h
 refine ⟨ρ,S,_,g,Hz,hw,w,env,fun x v H1 g1 S1 st w1 vx h=>?_⟩
 obtain ⟨g2,st2,w2,hx,q⟩:=vx.keep st w1 h
 exact ⟨ρ,S1,_,g2,Hz,q,w2,zp env st2,fun ds vs H3 g3 S3 st3 w3 hs h3=>k (x.1::ds) _ H3 g3 S3 (st2.trans st3) w3 ⟨v,vs,rfl,hx.mono st3.le,hs⟩ h3⟩
theorem Jw {xs:List Expr}{es:List E}(hs:notStar x=true) (h1:PE X x (TX Γ cf a)) (h2:PA X xs (TXs Γ cf es)):PA X (x::xs) (TXs Γ cf (a::es)):=
 (zN h1 h2 (zb hs _ _)).imp fun σ H Q h=>args_cons h
theorem wB {r:Bool}{T:Prop}(h:tst r T False):r=true/\T:=by
 cases r with
 | true=>exact ⟨rfl,h⟩
 | false=>exact h.elim
theorem zQ {α:Type}{o:Option α}{Q:α->Prop}(h:opt o Q):∃ a,o=some a/\Q a:=by
 cases o with
 | some a=>exact ⟨a,rfl,h⟩
 | none=>exact h.elim
theorem s_tup {xs:List Expr}{es:List E}{kk:Nat}(h:PA X xs (TXs Γ cf es)):PE X (.Tuple xs kk pos) (TX Γ cf (.tup es)):=
 (zbN h).imp fun σ H Q h0=>goX h0 fun ρ S V g Hz hw w env k=>⟨ρ,S,_,g,Hz,hw,w,env,fun ds vs H1 g1 S1 st w1 hv h=>by
  obtain ⟨hf,q⟩:=wB h
  exact ⟨by rw [hv.len];exact yz hf,fun p hp=>jy (Q:=Q) w1 (fun v H2 g2 st2 _ w2 vo=>k (.tup ds,.st) v H2 g2 S1 (st.trans st2) w2 vo q) hv hp⟩⟩
theorem s_lst {xs:List Expr}{es:List E}(h:PA X xs (TXs Γ cf es)):PE X (.List xs pos) (TX Γ cf (.lst es)):=
 (zbP h).imp fun σ H Q h0=>goX h0 fun ρ S V g Hz hw w env k=>⟨ρ,S,_,g,Hz,hw,w,env,fun ds vs H1 g1 S1 st w1 hv h=>by
  obtain ⟨hf,q⟩:=wB h
  exact ⟨by rw [hv.len];exact yz hf,fun p hp=>yI (Q:=Q) w1 (fun v H2 g2 st2 _ w2 vo=>k (.lst ds,.fr) v H2 g2 S1 (st.trans st2) w2 ((VN.of (fr:=true) vo).back st) q) hv hp⟩⟩
set_option tactic.hygienic true in
theorem s_sub (hK:X.K=Γ.K) (hu:X.A.units+1 < aG) (ha:PE X x (TX Γ cf a)) (hb:PE X y (TX Γ cf b)) (hp:Zu y):PE X (.Subscript x y pos) (TX Γ cf (.sub a b)):=
 (pe_ix zcj ha hb hp).imp fun σ H Q h0=>goX h0 fun ρ S V g Hz hw w env k=>two (G1:=fun u v H'=>ixAny X u v H' Q) hw w env fun x y u v H' g' S' st w' vx vy h=>by
  obtain ⟨d,eo,q⟩:=zQ h
  obtain ⟨r,h1,h2⟩:=zci (X:=X) hK hu eo
  have e:deref S' y.1=y.1:=by
   cases hy:y.1 with
   | ref n=>
    rw [hy] at eo
    unfold subD at eo;split at eo <;> first | cases eo | (rename_i hh;cases hh) | skip
    all_goals (simp [dgetD,keyD] at eo)
   | _=>rfl
  have vb:=vy.rdb w'
  rw [e] at vb
  exact ⟨r,h1,h2 S' H' g' u v Q w' (vx.rdb w') vb fun t H2 g2 st2 _ w2 vo=>k (d,.st) t H2 g2 S' (st.trans st2) w2 vo q⟩
theorem s_poN:PO X none (TXo Γ cf none):=fun pJ s σ H Q I h0=>goO h0 fun ρ S W g Hz hw w env k=>QB pJ s σ H Q I (k none H g S (Step.refl H g) w hw)
theorem s_po (h:PE X x (TX Γ cf a)):PO X (some x) (TXo Γ cf (some a)):=fun pJ s σ H Q I h0=>goO h0 fun ρ S W g Hz hw w env k=>Qz h pJ s σ H Q I ⟨ρ,S,_,g,Hz,hw,w,env,fun x v H1 g1 S1 st w1 vx h=>by
 obtain ⟨i,e,q⟩:=vx.int h
 exact ⟨i,e,k (some i) H1 g1 S1 st w1 q⟩⟩
theorem s_slc {lo hi:Option Expr}{l u:Option E}{p2:Pos}(hK:X.K=Γ.K) (h:PE X x (TX Γ cf a)) (hl:PO X lo (TXo Γ cf l)) (hh:PO X hi (TXo Γ cf u)):PE X (.Subscript x (.Slice lo hi none p2) pos) (TX Γ cf (.slc a l u)):=
 (Uk zbe h hl hh).imp fun σ H Q h0=>goX h0 fun ρ S V g Hz hw w env k=>⟨ρ,S,_,g,Hz,hw,w,env,fun x v H1 g1 S1 st1 w1 vx h1=>⟨ρ,S1,_,g1,Hz,h1,w1,zp env st1,fun i H2 g2 S2 st2 w2 h2=>⟨ρ,S2,_,g2,Hz,h2,w2,zp env (st1.trans st2),fun j H3 g3 S3 st3 w3 h3=>by
  obtain ⟨⟨d,fr⟩,eo,q⟩:=zQ h3
  obtain ⟨r,r1,r2⟩:=zbd (X:=X) (Γ:=Γ) hK eo
  have st:=(st1.trans st2).trans st3
  exact ⟨r,r1,r2 S3 H3 g3 v Q w3 ((vx.step (st2.trans st3)).rdb w3) fun t H4 g4 st4 _ w4 vo=>k _ t H4 g4 S3 (st.trans st4) w4 ((VN.of vo).back st) q⟩⟩⟩⟩
end
end EV
namespace L2
open PySem PySem.Spec PyProof.Rows
noncomputable def cxG (X:Cx) (sc:dD) (cl:List (Str×Addr)) (xs:List Str) (js:List Nat) (C:Addr) (s3:μ) (H3:Hp) (fp:List Addr):Cx:=
 { X with N:=xs++js.map (fun j=>X.N.getD j ""),sy:=s3,Hz:=H3,env:=compEnvC sc cl C X.env,outer:=X.stack,stack:=X.stack,ex:=fp,fn:=fun _=>false,pn:=[],xe:=fun _ _=>False }
structure CompG (X:Cx) (sc:dD) (cl:List (Str×Addr)) (xs:List Str) (js:List Nat):Prop where
 clos:closureFor sc X.env=pure cl
 cell:∀ y∈sc.names,y.2≠.cell
 kind:sc.kind=.function
 names:∀ y∈sc.names,y.2=.local->sc.names.lookup y.1=some .local
 sub:∀ y c,cl.lookup y=some c->X.env.cells.lookup y=some c
 has:∀ y,((iY sc X.env).names.lookup y=some .cell\/(iY sc X.env).names.lookup y=some .free)->∃ c,cl.lookup y=some c
 free:∀ j∈js,∀ y,X.N[j]?=some y->Vis X.env.scope y/\X.env.kindOf y≠some .local/\(∃ c,cl.lookup y=some c)/\((iY sc X.env).names.lookup y=some .cell\/(iY sc X.env).names.lookup y=some .free)
 inN:∀ j∈js,j < X.N.length
section
variable {X:Cx}{pJ:List (Addr×Obj)}{σ:St}{H3:Hp}{s3:μ}{sc:dD}{cl:List (Str×Addr)}{xs:List Str}{js:List Nat}{fp:List Addr}{h1:Heap}{o:Obj}{tk:Nat}
theorem WR (I:Inv X pJ σ H3 s3) (K:CompG X sc cl xs js) (hns:h1.Ns s3.heap.objs.size fun _=>none) (hsb:ό s3.heap.objs.size (s3.heap.push o) h1)
  (hfp:∀ b∈fp,FpOk X pJ H3 b/\b < s3.heap.objs.size):
  Inv (cxG X sc cl xs js s3.heap.objs.size s3 H3 fp) [] (Ξ xs.length none++rows σ js) H3 { s3 with heap:=h1,toks:=tk }:=by
 have kept:∀ b u,s3.heap.get? b=some u->h1.get? b=some u:=fun b u e=>(hsb.2 b (Υ (ω e))).trans (η _ e)
 refine ⟨⟨I.ok.mod,K.kind,I.ok.glob,I.ok.blt,ς _,fun y z c e1 e2=>I.ok.inj y z c (K.sub _ _ e1) (K.sub _ _ e2),fun y hy=>K.has y hy,fun y c hf=>absurd (show false=true from hf) Τ,I.ok.hd,I.ok.frames,.inl rfl,
  fun b hb=>⟨Υ (hfp b hb).2,fun y c e=>(hfp b hb).1.2.2.2.2.1 y c (K.sub _ _ e)⟩,I.bs,ϣ I.ok.bsz I.sz,fun b o' e hb=>?_,fun b hb z=>?_,I.stack,I.u6⟩,
  rfl,I.bare,Un.kept kept,⟨_,hns,fun i y v e1 e2 e3=>?_⟩,fun y c e=>?_,I.hok.fresh (ς _),fun y c e=>I.freeC y c (K.sub _ _ e),fun p hp=>absurd (show p∈([]:List (Addr×Obj)) from hp) (by simp),I.hok.kept kept,?_⟩
 ·rcases (hfp b hb).1.2.2.2.1 with z | z
  ·exact I.ok.noex b o' e z
  ·exact absurd (ϋ (ω e) (ϣ I.ok.bsz z)) (bT _)
 ·rcases Δ.mp (I.ZL b z) with q | q
  ·exact (hfp b hb).1.2.1 q
  ·exact (hfp b hb).1.2.2.1 q
 ·by_cases hi:i < xs.length
  ·rw [ϖ (by simpa using hi),dw,if_pos hi] at e2
   cases e2
  ·have hi':xs.length<=i:=by lia
   have e1':(js.map fun j=>X.N.getD j "")[i - xs.length]?=some y:=by
    have q:(xs++js.map fun j=>X.N.getD j "")[i]?=some y:=e1
    rw [Ϝ hi'] at q
    exact q
   have e2':(rows σ js)[i - xs.length]?=some (some v):=by
    rw [Ϝ (by simpa using hi')] at e2
    simpa using e2
   generalize i - xs.length=i at e1' e2'
   rw [Ο] at e1'
   unfold rows at e2'
   rw [Ο] at e2'
   cases ej:js[i]? with
   | none=>rw [ej] at e1';cases e1'
   | some j=>
    rw [ej] at e1' e2'
    simp only [fX,ϯ.injEq] at e1' e2'
    have hj:=aB ej
    have hlt:=K.inN j hj
    have eN:X.N[j]?=some y:=by
     rw [<- e1',aH,ο hlt]
     rfl
    have eS:σ[j]?=some (some v):=by
     rw [aH] at e2'
     cases q:σ[j]? with
     | none=>rw [q] at e2';cases e2'
     | some z=>rw [q] at e2';simpa using e2'
    obtain ⟨hv,hnl,⟨c,hc⟩,hk⟩:=K.free j hj y eN
    obtain ⟨m,_,hl⟩:=I.loc
    obtain ⟨u,r,l⟩:=hl j y v eN eS hv
    refine ⟨u,r,?_⟩
    rcases l with ⟨k,_⟩ | ⟨k,c',e',z⟩
    ·exact absurd k hnl
    ·have:c'=c:=ϙ (e'.symm.trans (K.sub _ _ hc))
     subst this
     obtain ⟨oc,hoc,hd⟩:=z
     exact .inr ⟨hk,c',hc,oc,kept _ _ hoc,hd⟩
 ·obtain ⟨v,oc,hoc,hd⟩:=I.cell y c (K.sub _ _ e)
  exact ⟨v,oc,kept _ _ hoc,hd⟩
 ·simp [rows,cxG]
def PTs (X:Cx) (ifs:List Expr) (t:TT):Prop:=
 ∀ (pJ:List (Addr×Obj)) (s:μ) (σ:St) (H:Hp) (Q:Bool->Hp->Prop),Inv X pJ σ H s->t σ H Q ->
  ψ (Ι X.prog X.w) X.A (forIn ifs true fun c r=>if r=true then do let ok <- iJ c X.env (eval c X.env);pure (Ϸ ok) else pure (Ϸ r)) (TP X pJ σ Q) X.xe s
theorem Qu:PTs X [] (fun _ H Q=>Q true H):=fun _ _ _ H _ I h=>wpAny_tests_nil ⟨H,I,h⟩
theorem Qt {c:Expr}{t:TT}(h:PT X c t):PTs X [c] t:=fun pJ s σ H Q I q=>wpAny_tests_one (h pJ s σ H Q I q)
def uB (n:Nat) (js:List Nat) (wi:TI) (tg:TG) (tt:TT) (te:TE) (Qe:Addr->Hp->Prop):St->Hp->Prop:=fun σ H=>wi σ H fun J H1=>∀ D,H1 D=none ->
 ∃ W:Nat->Nat->List V->St->Hp->Prop,(∃ m,W 0 m [] (Ξ n none++rows σ js) (upd H1 D (.lst [])))/\∀ i m ys τ H2,W i m ys τ H2 ->
  (J.stop i H2/\Qe D H2)\/(J.go i H2/\∀ z H3,J.yld i H2 z H3->tg z τ H3 fun τ3 H3=>tt τ3 H3 fun b H4=>
   if b=true then te τ3 H4 fun v H5=>H5 D=some (.lst ys)/\ys.length < sizeLine/\∃ m',m' < m/\W (i+1) m' (ys++[v]) τ3 (upd H5 D (.lst (ys++[v])))
   else ∃ m',m' < m/\W (i+1) m' ys τ3 H4)
theorem qj {elt iter tgt:Expr}{ifs:List Expr}{pos pos':Pos}{wi:TI}{tg:TG}{tt:TT}{te:TE}{Qe:Addr->Hp->Prop}{use:Option (δ->Sem Unit)}{Q':VSP}{H:Hp}{s:μ}(hc:X.calm=true) (K:CompG X sc cl xs js) (hi:PI X tgt iter wi)
  (hg:∀ C s3 H3 fp,PG (cxG X sc cl xs js C s3 H3 fp) tgt tg) (ht:∀ C s3 H3 fp,PTs (cxG X sc cl xs js C s3 H3 fp) ifs tt) (he:∀ C s3 H3 fp,PE (cxG X sc cl xs js C s3 H3 fp) elt te) (hs:∀ v,bU iter X.env v=pure v)
  (I:Inv X pJ σ H s) (h:uB xs.length js wi tg tt te Qe σ H)
  (fin:∀ (D C:Addr) (s6:μ) (H5:Hp) (m:Str->Option δ),s6.heap.Ns C m->FpOk X pJ H5 C->(∀ h',ό C s6.heap h'->Inv X pJ σ H5 { s6 with heap:=h' })->Qe D H5->compPost (Ι X.prog X.w) X.A X.xe use Q' (.ref D) C (.ok .next) s6):
  ψ (Ι X.prog X.w) X.A (comprehension (.ListComp elt [⟨tgt,iter,ifs,0⟩] sc pos) sc X.env pos' (newList []) false (eval iter X.env) use) Q' X.xe s:=by
 refine wpAny_comprehension_free (use:=use) rfl hs K.clos K.kind K.names ?_
 refine thn (hi pJ s σ H _ I h) fun v s1 h1=>thn h1 fun itv s2 h2=>?_
 obtain ⟨it,fp,tn,J,H2,e,I2,T,st2,f2,h⟩:=h2
 subst e
 have hD:H2 s2.heap.objs.size=none:=I2.fresh
 obtain ⟨W,⟨m0,w0⟩,turn⟩:=h _ hD
 have I3:Inv X pJ σ (upd H2 s2.heap.objs.size (.lst [])) { s2 with heap:=s2.heap.push { cls:=.type "list",data:=.seq ([]:List δ).toArray },toks:=s2.toks }:=I2.lnew (its:=[]) .nil (ϡ _)
 have fpLt:∀ b∈fp,b < s2.heap.objs.size:=fun b hb=>let ⟨o,e,_⟩:=T.obj _ _ st2 b hb;ω e
 refine Ω (wpAny_newFunctionEnv K.cell (by intro y hy;simp at hy) (fun h₁ hns₁ hsb₁=>?_) K.kind)
 generalize hs3:({ s2 with heap:=s2.heap.push { cls:=.type "list",data:=.seq ([]:List δ).toArray },toks:=s2.toks }:μ)=s3 at I3
 have hs3':({ s2 with heap:=s2.heap.push { cls:=.type "list",data:=.seq ([]:List δ).toArray } }:μ)=s3:=hs3
 (try rw [hs3'] at hns₁);(try rw [hs3'] at hsb₁);(try rw [hs3'])
 have hsz:s3.heap.objs.size=s2.heap.objs.size+1:=by rw [<- hs3,dH]
 generalize hH3:upd H2 s2.heap.objs.size (.lst [])=H3 at I3 w0
 have fp3:∀ b∈fp,FpOk X pJ H3 b/\b < s3.heap.objs.size:=fun b hb=>by
  refine ⟨⟨?_,(f2 b hb).2⟩,by rw [hsz];exact dI (fpLt b hb)⟩
  rw [<- hH3,zc (Υ (fpLt b hb))]
  exact (f2 b hb).1
 have I4:=WR (tk:=s3.toks+([]:List (Str×δ)).length) I3 K hns₁ hsb₁ fp3
 have st4:tn 0 h₁:=T.keep _ _ _ st2 fun b hb o e=>(hsb₁.2 b (Υ (fp3 b hb).2)).trans (η _ (by rw [<- hs3];exact η _ e))
 have stat:∀ {H':Hp}{pl:List (Addr×Obj)},(∀ b∈fp,H' b=none)->(∀ p∈pl,p.1 ∉ fp)->∀ b∈fp,FpOk (cxG X sc cl xs js s3.heap.objs.size s3 H3 fp) pl H' b:=fun {H'} {pl} hn hp b hb=>
  ⟨hn b hb,Υ (fp3 b hb).2,fun z=>by
   rcases Δ.mp (I3.ZL b z) with q | q
   ·exact (f2 b hb).2.1 q
   ·exact (f2 b hb).2.2.1 q,.inl hb,fun y c e=>(f2 b hb).2.2.2.2.1 y c (K.sub _ _ e),fun p hp' z=>by
    have hp'':p∈pl:=by simpa [cxG] using hp'
    exact hp p hp'' (z ▸ hb)⟩
 have loop:∀ s4:μ,s4={ s3 with heap:=h₁,toks:=s3.toks+([]:List (Str×δ)).length } ->
   lg (Ι X.prog X.w) X.A (.compLoop (.ListComp elt [⟨tgt,iter,ifs,0⟩] sc pos) 0 (.ref it) (.ref s2.heap.objs.size) (compEnvC sc cl s3.heap.objs.size X.env))
    (compPost (Ι X.prog X.w) X.A X.xe use Q' (.ref s2.heap.objs.size) s3.heap.objs.size) s4:=by
  rintro s4 rfl
  refine codeAny_loop rfl (fun n s'=>∃ i ys τ H',Inv (cxG X sc cl xs js s3.heap.objs.size s3 H3 fp) [] τ H' s'/\tn i s'.heap/\(∀ b∈fp,H' b=none)/\W i n ys τ H') ?_ m0 ⟨0,[],_,H3,I4,st4,fun b hb=>(fp3 b hb).1.1,w0⟩
  rintro n s5 ⟨i,ys,τ,H5,I5,st5,fr5,w5⟩
  show ψ _ X.A ((compTurn (.ListComp elt [⟨tgt,iter,ifs,0⟩] sc pos) 0 (.ref it) (.ref s2.heap.objs.size) (compEnvC sc cl s3.heap.objs.size X.env)).onRaise (fun x=>do gD x (compEnvC sc cl s3.heap.objs.size X.env);theTreesLotGoes x)) _ _ s5
  refine wpAny_noted ?_
  rw [compTurn_list]
  refine γ (lH (γ ?_))
  rcases turn i n ys τ H5 w5 with ⟨stop,q⟩ | ⟨go,step⟩
  ·refine thn (T.done (cxG X sc cl xs js s3.heap.objs.size s3 H3 fp) rfl rfl rfl hc i [] s5 τ H5 _ I5 (stat fr5 (fun p hp=>absurd hp (by simp))) st5 stop) fun r s6 ⟨hr,I6⟩=>?_
   subst hr
   refine ζ ?_
   obtain ⟨m,hn,_⟩:=I6.loc
   refine fin _ _ s6 H5 m hn (I3.fpOk (ς _) I6.free) (fun h' sb=>?_) q
   have u:=(show Un (frs X.stack) fp H3 H5 s3.heap s6.heap from I6.base).sameBut sb (ς _)
   exact I3.call' (s':={ s6 with heap:=h' }) (ch:=fp) I6.os u (I6.hok.sameBut sb I6.free) I6.bare fun b hb=>⟨(f2 b hb).2.2.2.1,(f2 b hb).2.1,(f2 b hb).2.2.2.2.1,(f2 b hb).2.2.2.2.2⟩
  ·refine thn (T.item (cxG X sc cl xs js s3.heap.objs.size s3 H3 fp) rfl rfl rfl hc i [] s5 τ H5 _ I5 (stat fr5 (fun p hp=>absurd hp (by simp))) st5 go) fun r s6 ⟨u,hr,h6⟩=>?_
   subst hr
   refine γ (thn h6 fun _ s7 ⟨z,H7,I7,r7,y7,st7,fr7⟩=>?_)
   have I7':=I7.pinned (stat fr7 (fun p hp=>absurd hp (by simp))) (T.obj _ _ st7)
   have done:∀ {σ':St}{H':Hp}{s':μ}{ys':List V}{m':Nat},Inv (cxG X sc cl xs js s3.heap.objs.size s3 H3 fp) ([]++jY fp s7.heap) σ' H' s'->m' < n->W (i+1) m' ys' σ' H'->∃ m,m < n/\∃ i ys τ H',Inv (cxG X sc cl xs js s3.heap.objs.size s3 H3 fp) [] τ H' s'/\tn i s'.heap/\(∀ b∈fp,H' b=none)/\W i m ys τ H':=fun {σ' H' s' ys' m'} I' hm w'=>
    ⟨m',hm,i+1,ys',σ',H',I'.xm,T.keep _ _ _ st7 fun b hb o e=>(I'.pin (b,o) (Χ _ (Χ _ (yO hb e)))).1,fun b hb=>by
     obtain ⟨o,e,d⟩:=T.obj _ _ st7 b hb
     exact (I'.pin (b,o) (Χ _ (Χ _ (yO hb e)))).2.1,w'⟩
   refine γ (aN (hg _ _ _ _ _ s7 τ H7 z u _ I7' r7 (step z H7 y7)) (fun _ s8 ⟨σ8,H8,I8,q8⟩=>?_) fun _ _ z=>Ϥ z)
   refine γ (aN (ht _ _ _ _ _ s8 σ8 H8 _ I8 q8) (fun ok s9 ⟨H9,I9,q9⟩=>?_) fun _ _ z=>Ϥ z)
   cases ok with
   | false=>
    rw [if_neg Τ] at q9
    obtain ⟨m',hm,w9⟩:=q9
    exact ζ ⟨rfl,done I9 hm w9⟩
   | true=>
    rw [if_pos rfl] at q9
    refine γ (γ (aN (he _ _ _ _ _ s9 _ _ _ I9 q9) (fun v9 s10 ⟨x9,H10,I10,r9,q10⟩=>?_) fun _ _ z=>Ϥ z))
    obtain ⟨hD9,hlen,m',hm,w10⟩:=q10
    have ap:=j8 (X:=cxG X sc cl xs js s3.heap.objs.size s3 H3 fp) _ s10 _ H10 (.ref s2.heap.objs.size) [x9] (.ref s2.heap.objs.size) [v9] (fun _ H'=>H'=upd H10 s2.heap.objs.size (.lst (ys++[x9]))) I10 rfl (.cons r9 .nil) ⟨_,ys,x9,rfl,rfl,hD9,hlen,rfl⟩
    refine γ (aN ap (fun _ s11 ⟨_,H11,I11,_,e11⟩=>?_) fun _ _ z=>Ϥ z)
    subst e11
    exact ζ (ζ ⟨rfl,done I11 hm w10⟩)
 exact codeAny_compStart_list (loop _ rfl) (T.self _ 0 _ _ _ st4 (loop _ rfl))
theorem Uo {elt iter tgt:Expr}{ifs:List Expr}{pos:Pos}{wi:TI}{tg:TG}{tt:TT}{te:TE}(hc:X.calm=true) (K:CompG X sc cl xs js) (hi:PI X tgt iter wi)
  (hg:∀ C s3 H3 fp,PG (cxG X sc cl xs js C s3 H3 fp) tgt tg) (ht:∀ C s3 H3 fp,PTs (cxG X sc cl xs js C s3 H3 fp) ifs tt) (he:∀ C s3 H3 fp,PE (cxG X sc cl xs js C s3 H3 fp) elt te) (hs:∀ v,bU iter X.env v=pure v):
  PE X (.ListComp elt [⟨tgt,iter,ifs,0⟩] sc pos) (fun σ H Q=>uB xs.length js wi tg tt te (fun D H'=>Q (.ref D) H') σ H):=by
 intro pJ s σ H Q I h
 rw [eval_ListComp]
 exact qj (use:=none) (Q':=EP X pJ σ Q) hc K hi hg ht he hs I h fun D C s6 H5 m hn fp inv q=>⟨m,hn,fun h' sb=>⟨.ref D,H5,inv h' sb,rfl,q⟩⟩
theorem YH {elt iter tgt:Expr}{ifs:List Expr}{pos spos npos:Pos}{wi:TI}{tg:TG}{tt:TT}{te:TE}{n:Str}{i:Nat}(hc:X.calm=true) (K:CompG X sc cl xs js) (hi:PI X tgt iter wi)
  (hg:∀ C s3 H3 fp,PG (cxG X sc cl xs js C s3 H3 fp) tgt tg) (ht:∀ C s3 H3 fp,PTs (cxG X sc cl xs js C s3 H3 fp) ifs tt) (he:∀ C s3 H3 fp,PE (cxG X sc cl xs js C s3 H3 fp) elt te) (hs:∀ v,bU iter X.env v=pure v)
  (hp:PG X (.Name n npos) (gName i)) (hsw:gC (.ListComp elt [⟨tgt,iter,ifs,0⟩] sc pos) (some (.Name n npos)) spos.line X.env=pure true):
  PS X (.Assign [.Name n npos] (.ListComp elt [⟨tgt,iter,ifs,0⟩] sc pos) spos) (fun D σ H=>uB xs.length js wi tg tt te (fun Da H'=>D.nx (σ.set i (some (.ref Da))) H') σ H):=by
 intro pJ s σ H D I h
 rw [exec_Assign_Name_used _ _ _ _ hsw]
 refine γ (lH (γ ?_))
 show ψ _ X.A (do let _ <- comprehension (.ListComp elt [⟨tgt,iter,ifs,0⟩] sc pos) sc X.env _ (newList []) false (eval iter X.env) (some (lV (.Name n npos) X.env))) _ _ s
 refine γ (aN (qj (use:=some (lV (.Name n npos) X.env)) (Q':=fun _ s'=>SP X pJ D .next s') hc K hi hg ht he hs I h ?_) (fun _ s' q=>ζ (ζ q)) fun _ _ z=>z)
 intro Da C s6 H5 m hn fp inv q
 obtain ⟨oC,es,ep,hoC,hdC,hrC⟩:=id hn
 have I6:=inv s6.heap (gB C s6.heap)
 have I6':Inv X (pJ++[(C,oC)]) σ H5 { s6 with heap:=s6.heap }:=I6.qR fun p hp=>(Η.mp hp).elim (fun z=>I6.pin p (Χ _ z)) fun z=>by
  rw [ξ.mp z]
  exact ⟨hoC,fp.1,fp.2.1,fp.2.2.1,fun v e=>by rw [hdC] at e;cases e⟩
 show ψ _ X.A (lV (.Name n npos) X.env (.ref Da)) _ _ s6
 refine thn (hp _ s6 σ H5 (.ref Da) (.ref Da) _ I6' rfl q) fun _ s7 ⟨σ7,H7,I7,q7⟩=>?_
 have hC7:=(I7.pin (C,oC) (Χ _ (Χ _ (ξ.mpr rfl))))
 refine ⟨m,⟨oC,es,ep,hC7.1,hdC,hrC⟩,fun h' sb=>⟨σ7,H7,?_,q7⟩⟩
 have I8:Inv X pJ σ7 H7 s7:=I7.xm
 exact I8.turned (t':=s7.toks) (fun b o hb e=>(sb.2 b hb).trans e) hC7.2.1 fp.2.1 fp.2.2.2.1 fp.2.2.2.2.1 fun p hp=>fp.2.2.2.2.2 p hp
def CSet (X:Cx) (x:Expr) (t:TE):Prop:=∀ (n:Str) (npos spos:Pos) (i:Nat),PG X (.Name n npos) (gName i)->gC x (some (.Name n npos)) spos.line X.env=pure true ->
 PS X (.Assign [.Name n npos] x spos) (fun D σ H=>t σ H fun v H'=>D.nx (σ.set i (some v)) H')
theorem Jk {X:Cx}{x:Expr}{t t':TE}(h:PE X x t/\CSet X x t) (i:∀ σ H Q,t' σ H Q->t σ H Q):PE X x t'/\CSet X x t':=
 ⟨h.1.imp i,fun n np sp j hp hs=>(h.2 n np sp j hp hs).imp fun D σ H q=>i σ H _ q⟩
theorem Vg {elt iter tgt:Expr}{ifs:List Expr}{pos:Pos}{wi:TI}{tg:TG}{tt:TT}{te:TE}(hc:X.calm=true) (K:CompG X sc cl xs js) (hi:PI X tgt iter wi)
  (hg:∀ C s3 H3 fp,PG (cxG X sc cl xs js C s3 H3 fp) tgt tg) (ht:∀ C s3 H3 fp,PTs (cxG X sc cl xs js C s3 H3 fp) ifs tt) (he:∀ C s3 H3 fp,PE (cxG X sc cl xs js C s3 H3 fp) elt te) (hs:∀ v,bU iter X.env v=pure v):
  PE X (.ListComp elt [⟨tgt,iter,ifs,0⟩] sc pos) (fun σ H Q=>uB xs.length js wi tg tt te (fun D H'=>Q (.ref D) H') σ H)/\CSet X (.ListComp elt [⟨tgt,iter,ifs,0⟩] sc pos) (fun σ H Q=>uB xs.length js wi tg tt te (fun D H'=>Q (.ref D) H') σ H):=
 ⟨Uo hc K hi hg ht he hs,fun n np sp i hp hsw=>YH hc K hi hg ht he hs hp hsw⟩
end
structure Fly (h:Heap) (e T C:Addr):Prop where
 oe:∃ o vs,h.get? e=some o/\(o.cls=.ref C/\o.dict=none)/\o.data=.fields vs/\vs[1]?=some (.ref T)
 ne:T≠e
 ot:∃ o ts,h.get? T=some o/\o.data=.fields ts/\ts[3]?=some .none
structure Chg (fs ex:List Addr) (h h':Heap):Prop where
 keep:∀ b o,h.get? b=some o->b ∉ fs->b ∉ ex->h'.get? b=some o
 slot:∀ b o,h.get? b=some o->b ∉ ex->∃ sl,h'.get? b=some { o with slots:=sl }
 size:h.objs.size<=h'.objs.size
theorem Chg.mono {fs ex ex':List Addr}{h h':Heap}(c:Chg fs ex h h') (q:∀ b,b∈ex->b∈ex'):Chg fs ex' h h':=
 ⟨fun b o e n x=>c.keep b o e n fun z=>x (q b z),fun b o e x=>c.slot b o e fun z=>x (q b z),c.size⟩
theorem Chg.trans {fs ex:List Addr}{h h1 h2:Heap}(a:Chg fs ex h h1) (b:Chg fs ex h1 h2):Chg fs ex h h2:=
 ⟨fun c o e n x=>b.keep c o (a.keep c o e n x) n x,fun c o e x=>by
  obtain ⟨sl,e1⟩:=a.slot c o e x
  obtain ⟨sl',e2⟩:=b.slot c _ e1 x
  exact ⟨sl',e2⟩,ϣ a.size b.size⟩
theorem Chg.upd {fs:List Addr}{h:Heap}{a:Addr}(f:Obj->Obj):Chg fs [a] h (h.update a f):=
  ⟨fun b o e _ x=>by rw [bz _ _ (fun z=>x (by rw [z];exact ι))];exact e,
   fun b o e x=>⟨o.slots,by rw [bz _ _ (fun z=>x (by rw [z];exact ι))];exact e⟩,lG (Heap.size_after_update ..).symm⟩
theorem Chg.psh {fs ex:List Addr}{h:Heap}(o:Obj):Chg fs ex h (h.push o):=
 ⟨fun b u e _ _=>η _ e,fun b u e _=>⟨u.slots,η _ e⟩,by rw [dH];exact mq _⟩
section
variable {M:Model}{A:ϑ}{E:VSP}{s:μ}{base:Heap}{env:Env}{outer:List Env}{L e T C:Addr}{Q:Unit->μ->Prop}
theorem Yk {oe:Obj}{vs:Array δ}{head:δ}{had:Bool}(hfr:A.frames=some (env::outer)) (hl:s.heap.FunFrames base (env::outer)) (hf:env.frame=some L) (he:s.heap.get? e=some oe) (hc:oe.cls=.ref C/\oe.dict=none) (hd:oe.data=.fields vs) (hz:1 < vs.size)
  (h:∀ h' T,Chg (frs (env::outer)) [e] s.heap h'->s.heap.get? T=none->Fly h' e T C->Q () { s with heap:=h' }):
  ψ M A (do let a <- frameOf env;let pl <- entryPlaceOf L had;let b <- m6 head a .none (Ϯ L) .none pl;setField (.ref e) 1 b) (fun _ s'=>ψ M A (iW (.ref e) none) Q E s') E s:=by
 have nf:e ∉ frs (env::outer):=fun hm=>by
  obtain ⟨_,o,ho,q⟩:=hl.mem hm
  rw [he] at ho
  cases ho
  exact q vs hd
 refine γ (wpAny_frameOf_fun hfr hl hf fun h1 s1=>γ (wpAny_entryPlaceOf fun pl hp=>?_))
 unfold m6 newFields
 refine γ (Ω ?_ (hp.sizeOk5 _ _ _ _ _))
 have e1:h1.get? e=some oe:=(s1.2.1 e nf).trans he
 generalize hob:({ cls:=.type "traceback",dict:=none,data:=.fields ([head,.ref L,.none,Ϯ L,.none]++(if pl.isEmpty then Ξ 6 Β else pl)).toArray }:Obj)=ob
 have e2:=η (h:=h1) ob e1
 refine Ϟ e2 hd hz ?_
 have ne:h1.objs.size≠e:=cX (ω e1)
 have d3:=aX hd (·.setIfInBounds 1 (Α h1.objs.size))
 have e3:=ϫ (ϲ (·.setIfInBounds 1 (Α h1.objs.size))) e2 (cH d3)
 have t3:=(bz (h1.push ob) (ϲ (·.setIfInBounds 1 (Α h1.objs.size))) (d8 ne)).trans (υ h1 (by rw [<- hob];rfl))
 unfold iW
 refine γ (Ϧ e3 d3 (x:=.ref h1.objs.size) (by simp [hz]) ?_)
 rw [if_pos (show (Α h1.objs.size != Β)=true from by simp)]
 have dt:ob.data=.fields ([head,.ref L,.none,Ϯ L,.none]++(if pl.isEmpty then Ξ 6 Β else pl)).toArray:=by rw [<- hob]
 refine Ϟ t3 dt (by simp only [π,ϊ,bC,List.length_nil] <;> omega) (h _ h1.objs.size ?_ ?_ ?_)
 ·have c1:Chg (frs (env::outer)) [e,h1.objs.size] s.heap h1:=⟨fun b o q n _=>(s1.2.1 b n).trans q,fun b o q _=>s1.2.2 b o q,lG s1.1.symm⟩
  have c4:=((c1.trans (Chg.psh ob)).trans ((Chg.upd _).mono fun b q=>by rw [ξ.mp q];exact ι)).trans ((Chg.upd (h:=(h1.push ob).update e (ϲ (·.setIfInBounds 1 (Α h1.objs.size)))) (ϲ (·.setIfInBounds 3 ((none:Option Addr).elim Β fun f=>Ϯ f)))).mono fun b q=>by rw [ξ.mp q];exact θ _ ι)
  have nT:∀ b o,s.heap.get? b=some o->b≠h1.objs.size:=fun b o q z=>by
   have:=ω q
   rw [z,s1.1] at this
   exact bT _ this
  refine ⟨fun b o q n x=>c4.keep b o q n fun z=>?_,fun b o q x=>c4.slot b o q fun z=>?_,c4.size⟩
  ·rcases Δ.mp z with z | z
   ·exact x (by rw [z];exact ι)
   ·exact nT b o q (ξ.mp z)
  ·rcases Δ.mp z with z | z
   ·exact x (by rw [z];exact ι)
   ·exact nT b o q (ξ.mp z)
 ·exact gK (lG s1.1.symm)
 ·refine ⟨⟨_,_,(bz _ _ ne).trans e3,?_,d3,by simp [hz]⟩,ne,⟨_,_,ϫ _ t3 (cH (aX dt _)),aX dt _,?_⟩⟩
  ·rw [lE];exact ⟨hc.1,by obtain ⟨a,b,d,e⟩:=oe;cases d <;> exact hc.2⟩
  ·first | (simp;done) | (rcases hp with rfl | ⟨_,_,_,_,_,_,_,rfl⟩ <;> simp)
theorem YQ {oe:Obj}{vs:Array δ}(hfr:A.frames=some (env::outer)) (hl:s.heap.FunFrames base (env::outer)) (hf:env.frame=some L) (he:s.heap.get? e=some oe) (hc:oe.cls=.ref C/\oe.dict=none) (hd:oe.data=.fields vs) (h1:vs[1]?=some .none)
  (h:∀ h' T,Chg (frs (env::outer)) [e] s.heap h'->s.heap.get? T=none->Fly h' e T C->Q () { s with heap:=h' }):
  ψ M A (gD (.ref e) env) (fun _ s'=>ψ M A (iW (.ref e) none) Q E s') E s:=by
 unfold gD
 simp only [hf]
 refine γ (Ϧ he hd h1 ?_)
 rw [if_neg (by decide)]
 exact Yk hfr hl hf he hc hd (cO.mp h1).1 h
theorem Wj (hfr:A.frames=some (env::outer)) (hl:s.heap.FunFrames base (env::outer)) (hf:env.frame=some L) (F:Fly s.heap e T C)
  (h:∀ h' T',Chg (frs (env::outer)) [e,T] s.heap h'->s.heap.get? T'=none->Fly h' e T' C->Q () { s with heap:=h' }):
  ψ M A (gD (.ref e) env) (fun _ s'=>ψ M A (iW (.ref e) none) Q E s') E s:=by
 obtain ⟨⟨oe,vs,he,hc,hd,h1⟩,ne,⟨oT,ts,hT,dT,h3⟩⟩:=F
 unfold gD
 simp only [hf]
 refine γ (Ϧ he hd h1 ?_)
 rw [if_pos (show (Α T != Β)=true from by simp)]
 refine γ (Ϧ hT dT h3 ?_)
 rw [if_neg (show ¬ ((Β==Ϯ L)=true) from by simp [Ϯ])]
 refine γ (Ϟ hT dT (cO.mp h3).1 ?_)
 have other:∀ b,b≠T->(s.heap.update T (ϲ (·.setIfInBounds 3 Β))).get? b=s.heap.get? b:=fun b q=>bz _ _ (d8 q)
 refine Yk (s:={ s with heap:=s.heap.update T (ϲ (·.setIfInBounds 3 Β)) }) hfr (hl.of_keeps fun b o q n=>⟨o,(other b fun z=>?_).trans q,rfl⟩) hf ((other e (d8 ne)).trans he) hc hd (cO.mp h1).1 fun h' T' c n F=>h h' T' ?_ ?_ F
 ·rw [z,hT] at q
  cases q
  exact n ts dT
 ·exact ((Chg.upd _).mono fun b q=>by rw [ξ.mp q];exact θ _ ι).trans (c.mono fun b q=>by rw [ξ.mp q];exact ι)
 ·by_cases z:T'=T
  ·subst z
   have q:=ϫ (ϲ (·.setIfInBounds 3 Β)) hT (cH (aX dT _))
   have n':(s.heap.update T' (ϲ (·.setIfInBounds 3 Β))).get? T'=none:=n
   rw [q] at n'
   cases n'
  ·exact (other T' z).symm.trans n
end
theorem ObjOk.there {P:Μ}{w:ϒ}{H:Hp}{h:Heap}{a:Addr}{o:HO}(x:ObjOk P w H h a o):∃ ob,h.get? a=some ob:=by
 cases o with
 | lst xs=>obtain ⟨_,_,_,_,e⟩:=x;exact ⟨_,e⟩
 | tup xs=>obtain ⟨_,_,_,ob,e,_⟩:=x;exact ⟨_,e⟩
 | dK kvs=>obtain ⟨_,_,_,_,o,_,_,e,_⟩:=x;exact ⟨_,e⟩
 | dT kvs=>obtain ⟨_,_,_,_,o,_,_,e,_⟩:=x;exact ⟨_,e⟩
 | set S n=>obtain ⟨o,_,_,_,e,_⟩:=x;exact ⟨_,e⟩
 | ins C dx fs=>obtain ⟨_,_,_,e,_⟩:=x;exact ⟨_,e⟩
 | own y=>obtain ⟨_,e⟩:=x;exact ⟨_,e⟩
 | xd fs=>obtain ⟨_,⟨_,_,_,e,_⟩,_⟩:=x;exact ⟨_,e⟩
 | rng lo hi=>obtain ⟨_,_,_,e⟩:=x;exact ⟨_,e⟩
 | frz ob u=>obtain ⟨e,_⟩:=x;exact ⟨_,e⟩
 | tbl ps=>exact ⟨_,(show h.get? a=some _ from x)⟩
 | met f y=>exact ⟨_,(show h.get? a=some _ from x)⟩
 | ext φ=>obtain ⟨_,⟨_,e⟩,_⟩:=x;exact ⟨_,e⟩
theorem HOk.notIn {P:Μ}{w:ϒ}{H:Hp}{h:Heap}{a:Addr}(x:HOk P w H h) (n:h.get? a=none):H a=none:=by
 cases q:H a with
 | none=>rfl
 | some o=>
  obtain ⟨ob,e⟩:=(x a o q).there
  rw [n] at e
  cases e
theorem HOk.chg {P:Μ}{w:ϒ}{H:Hp}{h h':Heap}{fs ex:List Addr}(x:HOk P w H h) (c:Chg fs ex h h') (hf:∀ b∈fs,H b=none) (hx:∀ b∈ex,H b=none):HOk P w H h':=fun a o e=>
 (x a o e).stay (fun b u hb q=>by
  have hs:∃ v,H b=some v:=by
   rcases hb with rfl | hb
   ·exact ⟨_,e⟩
   ·exact ⟨_,hb⟩
  obtain ⟨v,hv⟩:=hs
  exact c.keep b u q (fun z=>by rw [hf b z] at hv;cases hv) fun z=>by rw [hx b z] at hv;cases hv) (fun _ q=>q) fun _ _ q=>q
theorem Un.chg {fs fs' ex:List Addr}{H H':Hp}{h h1 h2:Heap}(u:Un fs [] H H' h h1) (c:Chg fs' ex h1 h2) (hx:∀ b∈ex,h.get? b=none) (hf:∀ b∈fs',b∈fs\/h.get? b=none):Un fs [] H H' h h2:=by
 have nx:∀ b o,h.get? b=some o->b ∉ ex:=fun b o e z=>by rw [hx b z] at e;cases e
 refine ⟨fun b o e n hb z=>c.keep b o (u.keep b o e n hb z) (fun q=>(hf b q).elim hb fun w=>by rw [w] at e;cases e) (nx b o e),fun b o e n hb z=>?_,u.free,fun b o e z=>?_,u.tups,u.frzs,u.tbls⟩
 ·obtain ⟨sl,e1⟩:=u.slot b o e n hb z
  obtain ⟨sl',e2⟩:=c.slot b _ e1 (nx b o e)
  exact ⟨sl',e2⟩
 ·obtain ⟨o',e1⟩:=u.there b o e z
  obtain ⟨sl,e2⟩:=c.slot b o' e1 (nx b o e)
  exact ⟨_,e2⟩
def CX1 (P:Μ) (w:ϒ):CXT:=fun outer H s E e s'=>∃ (ea T C:Addr) (H':Hp),e=.ref ea/\Fly s'.heap ea T C/\(s.heap.get? ea=none/\s.heap.get? T=none)/\(H' ea=none/\H' T=none)/\s'.os=s.os/\gk s'.gens/\Un (frs outer) [] H H' s.heap s'.heap/\HOk P w H' s'.heap/\E e (some C) H'
section
variable {X:Cx}{pJ:List (Addr×Obj)}{σ:St}{H:Hp}{s:μ}{E E':XK}{W:VSP}
theorem vQ {fs:List Addr}{H H':Hp}{h h':Heap}{b:Addr}(u:Un fs [] H H' h h') (n:h'.get? b=none):h.get? b=none:=by
 cases q:h.get? b with
 | none=>rfl
 | some o=>
  obtain ⟨o',e⟩:=u.there b o q (by simp)
  rw [n] at e
  cases e
theorem W3 (hf:X.env.frame=some X.env.locals):frs (X.env::X.outer)=X.env.locals::X.fs:=by
 unfold frs
 rw [bV,hf]
 rfl
theorem zak (I:Inv X pJ σ H s) (hf:X.env.frame=some X.env.locals):∀ b∈frs (X.env::X.outer),b∈X.fs\/X.sy.heap.get? b=none:=fun b hb=>by
 rw [W3 hf] at hb
 rcases Δ.mp hb with rfl | hb
 ·exact .inr (gK I.ok.above)
 ·exact .inl hb
theorem leave_new {h':Heap}{ea C:Addr}{args:List δ}(hs:X.stack=X.env::X.outer) (hf:X.env.frame=some X.env.locals) (hex:X.ex=[]) (I:Inv X pJ σ H s) (m:gM s.heap h' ea (.ref C) args) (hE:E (.ref ea) (some C) H):
  ψ (Ι X.prog X.w) X.A (leaving X.env (.ref ea)) (fun _ s''=>CX1 X.prog X.w X.outer X.Hz X.sy E (.ref ea) s'') W { s with heap:=h' }:=by
 have u0:Un X.fs [] X.Hz H X.sy.heap s.heap:=by have:=I.base;rw [hex] at this;exact this
 obtain ⟨t,he,nt,ht⟩:=m.there
 have fr:=I.stack
 rw [hs] at fr
 have st:=I.ok.frames
 rw [hs] at st
 have back:∀ b,h'.get? b=none->s.heap.get? b=none:=fun b n=>by
  cases q:s.heap.get? b with
  | none=>rfl
  | some o=>rw [m.keeps b o q] at n;cases n
 unfold leaving
 refine γ (YQ (base:=X.base) (C:=C) st (fr.of_keeps fun b o q _=>⟨o,m.keeps b o q,rfl⟩) hf he ⟨rfl,rfl⟩ rfl rfl fun h2 T c nT F=>?_)
 have nT':=back T nT
 refine ⟨ea,T,C,H,rfl,F,⟨vQ u0 m.new,vQ u0 nT'⟩,⟨I.hok.notIn m.new,I.hok.notIn nT'⟩,I.os,I.bare,?_,?_,hE⟩
 ·refine (u0.trans (Un.kept m.keeps)).chg c (fun b hb=>?_) (zak I hf)
  rw [ξ.mp hb]
  exact vQ u0 m.new
 ·refine (I.hok.kept m.keeps).chg c (fun b hb=>?_) fun b hb=>?_
  ·rw [<- hs] at hb
   exact I.u6 b hb
  ·rw [ξ.mp hb]
   exact I.hok.notIn m.new
theorem Inv.thrown {e:δ}{s':μ}(I:Inv X pJ σ H s) (c:CX1 X.prog X.w X.stack H s E e s'):∃ (ea T C:Addr) (H':Hp),e=.ref ea/\Fly s'.heap ea T C/\(s.heap.get? ea=none/\s.heap.get? T=none)/\(H' ea=none/\H' T=none)/\Un (frs X.stack) [] H H' s.heap s'.heap/\Inv X pJ σ H' s'/\E e (some C) H':=by
 obtain ⟨ea,T,C,H',e1,F,n1,n2,os,bare,un,hok,h⟩:=c
 exact ⟨ea,T,C,H',e1,F,n1,n2,un,I.call' os un hok bare (fun b z=>absurd z (by simp)),h⟩
theorem Wl {e:δ}{s':μ}{R:Unit->μ->Prop}(hs:X.stack=X.env::X.outer) (hf:X.env.frame=some X.env.locals) (I:Inv X pJ σ H s) (cx:CX1 X.prog X.w X.stack H s E e s')
  (k:∀ (ea T C:Addr) (H':Hp) (h2:Heap),e=.ref ea->Fly h2 ea T C->s.heap.get? ea=none->s.heap.get? T=none->H' ea=none->H' T=none->Inv X pJ σ H' { s' with heap:=h2 }->E e (some C) H'->R () { s' with heap:=h2 }):
  ψ (Ι X.prog X.w) X.A (gD e X.env) (fun _ s2=>ψ (Ι X.prog X.w) X.A (iW e none) R W s2) W s':=by
 obtain ⟨ea,T,C,H',rfl,F,n1,n2,un,J,h⟩:=I.thrown cx
 have fr:=J.stack
 rw [hs] at fr
 have st:=I.ok.frames
 rw [hs] at st
 refine Wj (base:=X.base) (C:=C) st fr hf F fun h2 T' c nT F'=>?_
 have un2:Un (frs X.stack) [] H H' s.heap h2:=by
  refine un.chg c (fun b hb=>?_) fun b hb=>.inl (by rw [hs];exact hb)
  rcases Δ.mp hb with rfl | hb
  ·exact n1.1
  ·rw [ξ.mp hb]
   exact n1.2
 have hok2:HOk X.prog X.w H' h2:=by
  refine J.hok.chg c (fun b hb=>?_) fun b hb=>?_
  ·rw [<- hs] at hb
   exact J.u6 b hb
  ·rcases Δ.mp hb with rfl | hb
   ·exact n2.1
   ·rw [ξ.mp hb]
    exact n2.2
 have hT:s.heap.get? T'=none:=by
  cases q:s.heap.get? T' with
  | none=>rfl
  | some o=>
   obtain ⟨o',e'⟩:=un.there T' o q (by simp)
   have nT':s'.heap.get? T'=none:=nT
   rw [nT'] at e'
   cases e'
 exact k ea T' C H' h2 rfl F' n1.1 hT n2.1 (J.hok.notIn nT) (I.call' (s':={ s' with heap:=h2 }) (J.os.trans I.os.symm) un2 hok2 J.bare (fun b z=>absurd z (by simp))) h
end
open PySem PySem.Spec PySem.W PyProof.Rows
structure XCls (K:Frag) (C:Addr):Prop where
 ga:findIn K (.ref C) "__getattribute__"=some (some (.builtin "BaseException.__getattribute__"))
 gr:findIn K (.ref C) "__getattr__"=some none
 cl:findIn K (.ref C) "__class__"=some (some (.builtin "object.__class__"))
 mb:mroIn K C (.type "BaseException")=some true
 mo:mroIn K C (.type "object")=some true
 it:(clsIn K C).isSome=true
section
variable {prog:Μ}{w:ϒ}{A:ϑ}{E:VSP}{h:Heap}{g:Array iT}{d:Drawn}{t:Nat}{os:OsState}{a:Addr}{o:Obj}{K:Frag}{C:Addr}
theorem Ys {tk:Tok}{Q:PySem.Fin->μ->Prop}(X:K.In h) (c:XCls K C) (I:W.InstAt h a o C none) (hq:Q (.done (.ret (.ref C))) ⟨h,g,d,t,os⟩):
  ψ (Ι prog w) A (Κ.«object.__getattribute__» ⟨[.ref a,.str "__class__" tk],[]⟩) Q E ⟨h,g,d,t,os⟩:=by
 have hx:=I.at_
 have hc:=I.cls
 have f5:=F.typeOf_object_class
 have f6:=F.slot_gs_get.lookup
 have f7:=F.slot_gs_set.lookup
 have hT5:(⟨h,g,d,t,os⟩:μ).TypeIs (.builtin "object.__class__") "getset_descriptor":=F.typeOf_object_class
 repeat (any_goals (first | assumption | (with_reducible refine mF hx ?_;rw [hc]) | with_reducible refine (ph (M:=Ι prog w) X c.cl).at ?_ | wp_step))
 refine W.class_get (od:=none) X I c.mo ?_
 repeat (any_goals (first | assumption | wp_step))
theorem Yt {M:Model}{nameV:δ}{Q:Unit->μ->Prop}(X:K.In h) (c:XCls K C) (I:W.InstAt h a o C none) (hq:Q () ⟨h,g,d,t,os⟩):ψ M A (gF "BaseException.__getattribute__" ⟨[.ref a,nameV],[]⟩) Q E ⟨h,g,d,t,os⟩:=by
 have hk:builtinKind "BaseException.__getattribute__"=some .slot:=by decide +kernel
 have hsplit:splitId "BaseException.__getattribute__"=some ("BaseException","__getattribute__"):=by decide +kernel
 have ha:=F.args_bexc_ga (.ref a) nameV
 have hx:=I.at_
 have hc:=I.cls
 simp only [gF,hk,hsplit]
 refine γ ?_
 ·unfold isInstance
  repeat (first | (with_reducible refine mF hx ?_;rw [hc]) | with_reducible refine (looks_mroIn (M:=M) X c.mb).at ?_ | wp_step)
  exact hq
theorem Kw {tk:Tok}{Q:VSP}(X:K.In h) (c:XCls K C) (I:W.InstAt h a o C none) (hq:Q (.ref C) ⟨h,g,d,t,os⟩):ψ (Ι prog w) A (getAttrBy (.ref a) (.str "__class__" tk) false) Q E ⟨h,g,d,t,os⟩:=by
 have FB:=F.attr_ValueError
 have f3:=FB.ga.bind (.ref a)
 have hx:=I.at_
 have hc:=I.cls
 have hx2:(gZ "BaseException.__getattribute__"==gZ "object.__getattribute__")=false:=by decide +kernel
 have hx1:(onTheHeap (Α C)&&gZ "BaseException.__getattribute__"==gZ "object.__getattribute__")=false:=by rw [hx2];rfl
 repeat (any_goals (first | assumption | (with_reducible refine mF hx ?_;rw [hc]) | with_reducible refine (ph (M:=Ι prog w) X c.ga).at ?_ | with_reducible refine (ph (M:=Ι prog w) X c.gr).at ?_ | wp_step))
 refine codeAny_call_builtin FB.ga.plain F.entry_bexc_ga (Yt X c I (Ys X c I ?_))
 repeat (any_goals (first | assumption | wp_step))
theorem Y5 {Q:Option δ->μ->Prop}(X:K.In h) (c:XCls K C) (I:W.InstAt h a o C none) (hq:Q (some (.ref C)) ⟨h,g,d,t+1,os⟩):ψ (Ι prog w) A (getAttr? (.ref a) "__class__") Q E ⟨h,g,d,t,os⟩:=by
 unfold getAttr? getAttrBy?
 repeat (any_goals (first | assumption | with_reducible apply Kw X c I | wp_step))
set_option tactic.hygienic true in
theorem UW (c:XCls K C):W.KitX K (.ref a) (.ref C) (fun h=>W.InstAt h a o C none) where
 ty:=fun _ _ _ I=>I.type
 it:=fun _ _ X _=>by
  obtain ⟨cd,hcD⟩:=cY.mp c.it
  unfold clsIn at hcD
  split at hcD
  ·rename_i c' d' cd' sl' ho
   intro A' Q' E' s' k q
   unfold isType loadHead
   exact γ (wpAny_loadPart (k _ _ (X _ _ ho)) (ζ q))
  ·cases hcD
 ne:=fun h tp dd its n sl X htp=>by
  obtain ⟨cd,hcD⟩:=cY.mp c.it
  refine lC.mpr fun q=>?_
  have e:C=tp:=Α.inj (beq_iff_eq.mp q)
  subst e
  unfold clsIn at hcD
  split at hcD
  ·rename_i c' d' cd' sl' ho
   have z:=(X _ _ ho).symm.trans htp
   cases z
  ·cases hcD
 ca:=fun {_ _ _ _ _ s} X I k=>by obtain ⟨h,g,d,t,os⟩:=s;exact Y5 X c I k
end
section
variable {X:Cx}{pJ:List (Addr×Obj)}{σ σ':St}{H:Hp}{s:μ}{x:Str}{i:Nat}{ea C:Addr}{oe:Obj}
theorem Inv.locs {h':Heap}{m':Str->Option δ}{t':Nat}(I:Inv X pJ σ H s) (hn:h'.Ns X.env.locals m') (hs:ό X.env.locals s.heap h') (hl:σ'.length=σ.length)
  (hm:∀ (i:Nat) (x:Str) (v:V),X.N[i]?=some x->σ'[i]?=some (some v)->Vis X.env.scope x->∃ u,RelV v u/\Look X.env s.heap m' x u):Inv X pJ σ' H { s with heap:=h',toks:=t' }:=by
 obtain ⟨m,hn0,_⟩:=id I.loc
 obtain ⟨oL,_,_,hoL,_⟩:=id hn0
 have ab:∀ b o,X.sy.heap.get? b=some o->b≠X.env.locals:=fun b o e=>Υ (ϋ (ω e) I.ok.above)
 have ky:∀ b o,X.sy.heap.get? b=some o->h'.get? b=s.heap.get? b:=fun b o e=>hs.2 b (ab b o e)
 refine ⟨I.ok,I.os,I.bare,⟨fun b o e n hb hx=>(ky b o e).trans (I.base.keep b o e n hb hx),fun b o e n hb hx=>?_,I.base.free,fun b o e hx=>?_,I.base.tups,I.base.frzs,I.base.tbls⟩,⟨m',hn,fun i x v e1 e2 e3=>?_⟩,fun y c e=>?_,I.free,I.freeC,fun p hp=>?_,fun b ob e=>?_,hl.trans I.len⟩
 ·obtain ⟨sl,e1⟩:=I.base.slot b o e n hb hx
  exact ⟨sl,(ky b o e).trans e1⟩
 ·obtain ⟨o',e1⟩:=I.base.there b o e hx
  exact ⟨o',(ky b o e).trans e1⟩
 ·obtain ⟨u,r,q⟩:=hm i x v e1 e2 e3
  refine ⟨u,r,?_⟩
  rcases q with q | ⟨k,c,e,z⟩
  ·exact .inl q
  ·exact .inr ⟨k,c,e,z.sameBut hs (I.cne x c e)⟩
 ·obtain ⟨w',z⟩:=I.cell y c e
  exact ⟨w',z.sameBut hs (I.cne y c e)⟩
 ·obtain ⟨e,n,ne,nf,d⟩:=I.pin p hp
  exact ⟨(hs.2 p.1 ne).trans e,n,ne,nf,d⟩
 ·refine (I.hok b ob e).stay (fun c w' hc q=>(hs.2 c ?_).trans q) (fun _ q=>q) fun _ _ q=>q
  rintro rfl
  rcases hc with rfl | hc
  ·rw [I.free] at e;cases e
  ·rw [I.free] at hc;cases hc
theorem zaw {M:Model}{A:ϑ}{E:VSP}{pos:Pos}{Q:Unit->μ->Prop}(I:Inv X pJ σ H s) (hN:X.N.Nodup) (hi:X.N[i]?=some x) (hk:X.env.kindOf x=some .local)
  (h:∀ s',Inv X pJ (σ.set i none) H s'->Q () s'):ψ M A (do bindName X.env x .none;unbindBehindTheSuite X.env x pos) Q E s:=by
 have hk':X.env.scope.names.lookup x=some .local:=hk
 have hp:(X.env.scope.kind==.class||(X.env.scope.kind==.module&&X.env.locals != X.env.globals))=false:=by rw [I.ok.kind];rfl
 refine γ (wpAny_bindName ?_)
 obtain ⟨m,hn,hl⟩:=id I.loc
 refine wpAny_storeName_local hk hn (fun h1 hn1 hs1=>?_) hp
 unfold unbindBehindTheSuite
 refine wpAny_onRaise ?_
 unfold unbindName
 refine γ (wpAny_point (γ ?_))
 unfold deleteName
 simp only [hk,hp]
 rw [if_neg (by decide)]
 refine γ (wpAny_nsDel_keeps hn1 fun h2 v hn2 hs2=>?_)
 simp only [if_true,Option.isSome_some,nF,ak,if_false]
 refine ζ (wpAny_point (h _ ?_))
 refine I.locs hn2 (hs1.trans hs2) (by rw [ϱ]) fun j y v' e1 e2 e3=>?_
 by_cases hj:j=i
 ·subst hj
  by_cases q:j < σ.length
  ·rw [Ϛ q] at e2;cases e2
  ·rw [Ϲ (by rw [ϱ];omega)] at e2;cases e2
 ·rw [Ε (d8 hj)] at e2
  have hy:y≠x:=fun e=>hj (jk hN e1 (e ▸ hi))
  obtain ⟨u',r',q⟩:=hl j y v' e1 e2 e3
  refine ⟨u',r',?_⟩
  rcases q with ⟨k,e⟩ | q
  ·exact .inl ⟨k,by simp [hy,e]⟩
  ·exact .inr q
noncomputable def Cx.hnd (X:Cx) (ea:Addr) (oe:Obj):Cx:={ X with A:=X.A.mark (some (.ref ea)),calm:=false,pn:=(ea,oe)::X.pn,xe:=fun _ _=>False }
theorem Inv.hnd (I:Inv X pJ σ H s) (h1:s.heap.get? ea=some oe) (h2:H ea=none) (h3:ea≠X.env.locals) (h4:ea ∉ X.fs) (h5:∀ v,oe.data≠.cell v):Inv (X.hnd ea oe) pJ σ H s:=
 ⟨⟨I.ok.mod,I.ok.kind,I.ok.glob,I.ok.blt,I.ok.above,I.ok.inj,I.ok.has,I.ok.cab,(fun z=>nomatch z),I.ok.frames,I.ok.stk,I.ok.exf,I.ok.bs,I.ok.bsz,I.ok.noex,I.ok.exfs,I.ok.funs,I.ok.frf⟩,I.os,I.bare,I.base,I.loc,I.cell,I.free,I.freeC,
  fun p hp=>by
   rcases Δ.mp hp with rfl | hp
   ·exact ⟨h1,h2,h3,h4,h5⟩
   ·exact I.pin p hp,I.hok,I.len⟩
theorem Inv.unhnd (ok:X.Ok) (I:Inv (X.hnd ea oe) pJ σ H s):Inv X pJ σ H s:=
 ⟨ok,I.os,I.bare,I.base,I.loc,I.cell,I.free,I.freeC,fun p hp=>I.pin p (θ _ hp),I.hok,I.len⟩
theorem Ji {k:V}{u:δ}{b:Bool}(c:XCls X.K C) (hc:oe.cls=.ref C) (hd:oe.dict=none) (hn:notCls oe=true) (r:RelV k u) (hu:∀ u',RelV k u'->u'=u) (hk:kitOne X.K (.ref C) u=some b):CallR (X.hnd ea oe) (.builtin "isinstance") (fun xs H Q=>xs=[.ref ea,k]/\Q (.bl b) H):=by
 intro pJ s σ H xs us Q I rv ⟨e,q⟩
 subst e
 cases rv with
 | cons r1 rv=>
  cases rv with
  | cons r2 rv=>
   cases rv
   cases (show _=Α ea from r1)
   cases hu _ r2
   have p:=(I.pin (ea,oe) ι).1
   exact kia_one (K:=X.K) (UW (o:=oe) c) (show X.K.In s.heap from I.kIn) ⟨p,hc,hn,by rw [hd];trivial⟩ hk (fun z=>nomatch z) fun tk=>⟨.bl b,H,I.tok tk,rfl,q⟩
end
section
variable {X:Cx}{pJ:List (Addr×Obj)}{σ:St}{H:Hp}{s:μ}{C:Addr}{bmB:List δ}
set_option tactic.hygienic true in
theorem zap {K:Frag}{h:Heap}{newId:String}(X:K.In h) (q:excIn K C bmB newId=true):∃ bm N nm q bs hdct sn sub ab col dd k0 k1 k2 k3 k5 mN,h.get? C=some (excClassObj nm q C N bs bm hdct sn sub ab col dd k0 k1 k2 k3 k5 newId)/\h.Ns N mN/\mN "__init__"=none/\OwnTail h bmB bm:=by
 unfold excIn at q
 split at q
 ·rename_i dd cd sl ho
  split at q
  ·rename_i C' bm k0 k1 k2 k3 n k5 hm hs
   simp only [ε,beq_iff_eq,lB] at q
   obtain ⟨⟨⟨⟨⟨rfl,rfl⟩,hdel⟩,ht⟩,hok⟩,hni⟩:=q
   obtain ⟨nm,bs,mro,ns,qn,hd,sn,sub,ab,col,del⟩:=cd
   dsimp only at hm hdel hok hni
   subst hm hdel
   have hsl:sl=#[k0,k1,k2,k3,some (.builtin n),k5]:=by
    obtain ⟨l⟩:=sl
    simp only at hs
    rw [hs]
   subst hsl
   exact ⟨bm,ns,nm,qn,bs,hd,sn,sub,ab,col,dd,k0,k1,k2,k3,k5,_,X _ _ ho,.of_isNs (isNs_of_in X hok),nsMap_none_of_in X hok hni,tail_of_in X ht⟩
  ·cases q
 ·cases q
theorem Ud {x msg:Str}{j:Nat}{np cp p pos:Pos}{Q:Flow->μ->Prop}(I:Inv X pJ σ H s) (hc:X.calm=true) (hg:Gl X x) (hm:X.mg x=some (.ref C)) (hd:(x==("__debug__":Str))=false) (q:excIn X.K C veB "ValueError.__new__"=true)
  (h:∀ s1 h' ea args,Inv X pJ σ H s1->gM s1.heap h' ea (.ref C) args->X.xe (.ref ea) { s1 with heap:=h' }):
  ψ (Ι X.prog X.w) X.A (exec (.Raise (some (.Call (.Name x np) [.Constant (.str msg) j p] [] cp)) none pos) X.env) Q X.xe s:=by
 obtain ⟨bm,N,nm,q,bs,hdct,sn,sub,ab,col,dd,k0,k1,k2,k3,k5,mN,hC,hN,hni,T⟩:=zap I.ok.mod.kin q
 have FB:=F.excBase_ValueError
 refine wpAny_Raise_call_subT (C:=C) (nm:=nm) (q:=q) (N:=N) (bs:=bs) (bm:=bm) (hdct:=hdct) (sn:=sn) (sub:=sub) (ab:=ab) (col:=col) (dd:=dd) (k0:=k0) (k1:=k1) (k2:=k2) (k3:=k3) (k5:=k5) FB (mN:=mN) (T.hasType FB.hasBase) (I.ok.hd hc) rfl hni (xZ I hg hm ⟨rfl,?_⟩ hd)
 have hp:PA X [.Constant (.str msg) j p] _:=zN X4 yx
 refine oJ (thn (hp cp pJ s σ H (fun xs H'=>H'=H/\xs.length=1) I ⟨rfl,rfl⟩) fun vs s2 ⟨xs,H2,I2,r,e,hx⟩=>?_)
 subst e
 have hl:vs.length<=sizeLine:=by
  rw [<- r.length,hx];decide
 exact ⟨rfl,hl,I2.bk _ _ hC,hN.keeps I2.bk,T.keeps I2.bk,fun h' e m=>h s2 h' e vs I2 m⟩
end
end L2
namespace EV
open PySem PySem.Spec PyProof.Rows L2
structure KCls (Γ:Gm) (tb:List (List Nat)) (c:Nat) (C:Addr):Prop where
 ca:Γ.ca c=some C
 ex:W.excIn Γ.K C veB "ValueError.__new__"=true
 xc:XCls Γ.K C
 sub:∀ k Ck,Γ.ca k=some Ck->W.kitOne Γ.K (.ref C) (.ref Ck)=some (subT tb c k)
 ve:W.kitOne Γ.K (.ref C) (.type "ValueError")=some true
 em:∀ k Ck,Γ.ca k=some Ck->W.exmOne Γ.K (.ref C) (.ref Ck)=some (subT tb c k)
structure FnI (Γ:Gm) (B:Tb) (cf:Nat->Nat->Sp) (k:Nat) (P:Μ) (w:ϒ) (K:W.Frag) (mg:Str->Option δ) (base:Heap) (f:Nat) (x:Str):Prop where
 ex:∃ (a:Addr) (fd:bj) (ps:List Str),Γ.fa f=some a/\mg x=some (.ref a)/\W.keepIn K (.ref a)=true/\Binds K fd ps []/\B.pars[f]?=some ps/\FnOk P w K mg base (CX1 P w) k a fd ps (cf f ps.length) /\
  ∀ (ks:List Str) (perm:List Nat),perm.length=ps.length->(∀ i∈perm,i < ks.length)->perm.map (fun i=>ks.getD i "")=ps->ks.length=ps.length->(f,ks,perm)∈B.kws ->
   VG K fd ps ks (fun us ws=>if ws.length=ks.length then us++perm.map fun i=>ws.getD i .none else []) (fun vs zs=>if zs.length=ks.length then vs++perm.map fun i=>zs.getD i .non else [])
structure XOk (Γ:Gm) (B:Tb) (cf:Nat->Nat->Sp) (k:Nat) (X:Cx) (c:Cc):Prop where
 hK:X.K=Γ.K
 nm:X.env.scope.names=c.names
 kd:X.env.scope.kind=.function
 N:X.N=c.N
 nd:X.N.Nodup
 fn:c.fn=true->∀ x,X.fn x=true
 calm:X.calm=true
 room:Room k X.A
 cells:∀ x,(c.names.lookup x=some .cell\/c.names.lookup x=some .free)->∃ a,X.env.cells.lookup x=some a
 fns:∀ (f:Nat) (x:Str),B.fns[f]?=some x->FnI Γ B cf k X.prog X.w X.K X.mg X.base f x
 bare:∀ x∈B.bare,X.mg x=none
 consts:∀ (n:Nat) (x:Str) (d:D),B.consts[n]?=some (x,d)->∃ u v,X.mg x=some u/\RelV v u/\∀ g,Has Γ g d v
 fa:∀ (f:Nat) (a:Addr),Γ.fa f=some a->∃ x,B.fns[f]?=some x
 cl:∀ (c:Nat) (x:Str) (l:List Nat),B.cls[c]?=some (x,l)->∃ C,X.mg x=some (.ref C)/\KCls Γ (B.cls.map (·.2)) c C
 ca:∀ (c:Nat) (C:Addr),Γ.ca c=some C->∃ x l,B.cls[c]?=some (x,l)
section
variable {Γ:Gm}{B:Tb}{cf:Nat->Nat->Sp}{k:Nat}{X:Cx}{c:Cc}
theorem XOk.u61 (x:XOk Γ B cf k X c):X.A.units+61 < aG:=by have:=x.room.un;lia
theorem XOk.u1 (x:XOk Γ B cf k X c):X.A.units+1 < aG:=by have:=x.room.un;lia
theorem XOk.vis (x:XOk Γ B cf k X c) {n:Str}(h:visK (c.names.lookup n)=true):Vis X.env.scope n:=by
 unfold Vis
 rw [x.nm]
 cases q:c.names.lookup n with
 | none=>rw [q] at h;cases h
 | some kd=>rw [q] at h;cases kd <;> first | exact .inl rfl | exact .inr (.inl rfl) | exact .inr (.inr rfl) | cases h
theorem XOk.glob (x:XOk Γ B cf k X c) {n:Str}(h:gloK (c.names.lookup n)=true):Gl X n:=by
 unfold Gl iU
 rw [x.nm]
 cases q:c.names.lookup n with
 | none=>rw [q] at h;cases h
 | some kd=>rw [q] at h;cases kd <;> first | rfl | cases h
theorem zG {n:Str}(h:zH n=true):(n==("__debug__":Str))=false/\(n==("__classdict__":Str))=false/\n≠("__name__":Str):=by
 unfold zH at h
 simp only [ε,lB] at h
 exact ⟨h.1.1,h.1.2,by simpa using h.2⟩
theorem XOk.pg (x:XOk Γ B cf k X c) {i:Nat}{n:Str}{pos:Pos}(hi:c.N[i]?=some n) (hs:stoK c n=true):PG X (.Name n pos) (gName i):=by
 have hi':X.N[i]?=some n:=by rw [x.N];exact hi
 unfold stoK at hs
 cases q:c.names.lookup n with
 | none=>rw [q] at hs;cases hs
 | some kd=>
  rw [q] at hs
  have q':X.env.scope.names.lookup n=some kd:=by rw [x.nm];exact q
  cases kd with
  | «local»=>exact jh x.nd hi' (.inl q') (.inr q')
  | cell=>exact jh x.nd hi' (.inr q') (.inl (x.fn hs n))
  | _=>cases hs
def qb:List Nat->TGs
 | []=>gNil
 | i::is=>gCons (gName i) (qb is)
theorem XS (x:XOk Γ B cf k X c):∀ {es:List Expr}{ns:List Str}{is:List Nat},EV.namesOf es=some ns->ns.length=is.length->((is.zip ns).all fun p=>c.N[p.1]?==some p.2&&stoK c p.2)=true ->
  PGs X es (qb is)/\(bN es X.env).length=is.length/\(bN es X.env).findIdx? (·.1)=none
 | [],ns,is,h,hl,_=>by
  cases (show some []=some ns from h)
  cases is with
  | nil=>exact ⟨XX,rfl,rfl⟩
  | cons=>simp at hl
 | e::es,ns,is,h,hl,ha=>by
  cases e with
  | Name n pos=>
   simp only [EV.namesOf,Ζ] at h
   obtain ⟨r,h1,h2⟩:=h
   subst h2
   cases is with
   | nil=>simp at hl
   | cons i is=>
    simp only [eY,ik,ε] at ha
    obtain ⟨⟨ha1,ha2⟩,ha3⟩:=ha
    obtain ⟨g1,g2,g3⟩:=XS x h1 (by simpa using hl) ha3
    refine ⟨jg (x.pg (eq_of_beq ha1) ha2) g1,?_,?_⟩
    ·show (_::bN es X.env).length=_
     rw [bC,g2,bC]
    ·show List.findIdx? _ ((false,_)::bN es X.env)=none
     rw [List.findIdx?_cons]
     simp [g3]
  | _=>simp [EV.namesOf] at h
def tgOf (K:W.Frag):T->TG
 | .nst i is=>gTup K 2 (gCons (gName i) (gCons (gTup K is.length (qb is)) gNil))
 | .one i=>gName i
 | .tup is=>gTup K is.length (qb is)
theorem Yp {x:Expr}{q:Str×Pos×List Expr×Nat×Pos×Nat×Pos}(h:asNst x=some q):x=.Tuple [.Name q.1 q.2.1,.Tuple q.2.2.1 q.2.2.2.1 q.2.2.2.2.1] q.2.2.2.2.2.1 q.2.2.2.2.2.2:=by
 cases x with
 | Tuple es k p=>
  cases es with
  | nil=>cases h
  | cons a r=>
   cases a with
   | Name n pos=>
    cases r with
    | nil=>cases h
    | cons b z=>
     cases z with
     | cons _ _=>cases h
     | nil=>
      cases b with
      | Tuple fs k2 p2=>cases h;rfl
      | _=>cases h
   | _=>cases h
 | _=>cases h
theorem KN (x:XOk Γ B cf k X c) {t:T}{tgt:Expr}(hn:isNst t=true) (h:chkT c t tgt=true):PG X tgt (tgOf X.K t):=by
  cases t with
  | nst i is=>
    unfold chkT at h
    rw [if_pos hn] at h
    cases e:asNst tgt with
    | none=>rw [e] at h;cases h
    | some q=>
      rw [e] at h
      have h:(match namesOf q.2.2.1 with
        | some ns=>(q.1::ns).length==(i::is).length&&((i::is).zip (q.1::ns)).all fun p=>c.N[p.1]?==some p.2&&stoK c p.2
        | none=>false)=true:=h
      rw [Yp e]
      cases en:namesOf q.2.2.1 with
      | none=>rw [en] at h;cases h
      | some ns=>
        rw [en] at h
        simp only [eY,ik,ε] at h
        obtain ⟨h1,⟨h2,h3⟩,h4⟩:=h
        have h1:ns.length=is.length:=by simpa using h1
        obtain ⟨g1,g2,g3⟩:=XS x en h1 h4
        exact X3 x.calm (jg (x.pg (eq_of_beq h2) h3) (jg (X3 x.calm g1 g2 g3) XX)) rfl rfl
  | _=>cases hn
theorem Xh (x:XOk Γ B cf k X c) {t:T}{tgt:Expr}(h:chkT c t tgt=true):PG X tgt (tgOf X.K t):=by
 by_cases hnst:isNst t=true
 ·exact KN x hnst h
 unfold chkT at h
 rw [if_neg hnst] at h
 rw [ε] at h
 obtain ⟨h1,h2⟩:=h
 cases tgt with
 | Name n pos=>
  cases t with
  | one i=>
   simp only [yr,tIs,eY,List.zip_nil_right,ik,List.all_nil,iz,ε] at h2
   exact x.pg (eq_of_beq h2.2.1) h2.2.2
  | tup is=>cases h1
  | nst _ _=>exact absurd rfl hnst
 | Tuple es kk pos=>
  cases t with
  | one i=>cases h1
  | nst _ _=>exact absurd rfl hnst
  | tup is=>
   simp only [yr,tIs] at h2
   cases hn:EV.namesOf es with
   | none=>rw [hn] at h2;cases h2
   | some ns=>
    rw [hn] at h2
    simp only [ε,beq_iff_eq] at h2
    obtain ⟨g1,g2,g3⟩:=XS x hn h2.1 (by simpa using h2.2)
    exact X3 x.calm g1 g2 g3
 | _=>simp [yr] at h2
noncomputable def closL (cells:List (Str×Addr)):List (Str×Ϭ)->List (Str×Addr)->List (Str×Addr)
 | [],acc=>acc
 | (n,kd)::r,acc=>if (kd==aP)=true then closL cells r ((n,(cells.lookup n).getD 0)::acc) else closL cells r acc
theorem ud {env:Env}:∀ (names:List (Str×Ϭ)) (acc:List (Str×Addr)),(∀ y∈names,y.2=.free->∃ a,env.cells.lookup y.1=some a) ->
  (forIn names acc fun x cs=>match x with
   | (name,kind)=>if (kind==aP)=true then do let a <- cellOf env name;pure (Ϸ ((name,a)::cs)) else pure (Ϸ cs):Sem (List (Str×Addr)))=pure (closL env.cells names acc)
 | [],acc,_=>rfl
 | (n,kd)::r,acc,h=>by
  rw [List.forIn_cons]
  by_cases hk:(kd==aP)=true
  ·obtain ⟨a,ha⟩:=h (n,kd) ι (eq_of_beq hk)
   have ha:env.cells.lookup n=some a:=ha
   simp only [hk,if_true]
   have:cellOf env n=pure a:=by unfold cellOf;rw [ha]
   rw [this]
   simp only [pure_bind]
   rw [ud r _ fun y hy=>h y (θ _ hy)]
   simp [closL,hk,ha]
  ·simp only [hk]
   simp only [ak,if_false,pure_bind]
   rw [ud r _ fun y hy=>h y (θ _ hy)]
   simp [closL,hk]
theorem zaC {env:Env}{sc:dD}(h:∀ y∈sc.names,y.2=.free->∃ a,env.cells.lookup y.1=some a):closureFor sc env=pure (closL env.cells sc.names []):=by
 unfold closureFor
 have:=ud sc.names [] h
 first
  | exact (congrArg (fun z=>z >>= pure) this).trans (by simp)
  | (simp only [bind_pure];exact this)
  | exact this
theorem yq {cells:List (Str×Addr)}{y:Str}:∀ (names:List (Str×Ϭ)) (acc:List (Str×Addr)),(∀ z∈names,z.2=.free->∃ a,cells.lookup z.1=some a)->(∀ c,acc.lookup y=some c->cells.lookup y=some c) ->
  (∀ c,(closL cells names acc).lookup y=some c->cells.lookup y=some c)/\((y,aP)∈names\/(∃ c,acc.lookup y=some c)->∃ c,(closL cells names acc).lookup y=some c)
 | [],acc,_,h=>⟨h,fun q=>by
  rcases q with q | q
  ·cases q
  ·exact q⟩
 | (n,kd)::r,acc,hh,h=>by
  by_cases hk:(kd==aP)=true
  ·obtain ⟨a,ha⟩:=hh (n,kd) ι (eq_of_beq hk)
   have ha:cells.lookup n=some a:=ha
   have e:closL cells ((n,kd)::r) acc=closL cells r ((n,a)::acc):=by
    simp [closL,hk,ha]
   rw [e]
   obtain ⟨i1,i2⟩:=yq (y:=y) r ((n,a)::acc) (fun z hz=>hh z (θ _ hz)) (fun c q=>by
    rw [aC] at q
    cases hy:y==n with
    | true=>rw [hy] at q;cases q;rw [eq_of_beq hy];exact ha
    | false=>rw [hy] at q;exact h c q)
   refine ⟨i1,fun q=>i2 ?_⟩
   rcases q with q | ⟨c,q⟩
   ·rcases Δ.mp q with q | q
    ·right
     cases q
     exact ⟨a,List.lookup_cons_self⟩
    ·exact .inl q
   ·right
    rw [aC]
    cases hy:y==n with
    | true=>exact ⟨a,rfl⟩
    | false=>exact ⟨c,q⟩
  ·have e:closL cells ((n,kd)::r) acc=closL cells r acc:=by simp [closL,hk]
   rw [e]
   obtain ⟨i1,i2⟩:=yq (y:=y) r acc (fun z hz=>hh z (θ _ hz)) h
   refine ⟨i1,fun q=>i2 ?_⟩
   rcases q with q | q
   ·rcases Δ.mp q with q | q
    ·cases q;exact absurd rfl hk
    ·exact .inl q
   ·exact .inr q
theorem xn (x:XOk Γ B cf k X c) (sc:dD):(iY sc X.env).names=relK c.names sc.names:=by
 unfold iY relK
 simp only [x.kd,iU,x.nm]
 congr 1
 funext y
 have e:(nO==nO)=true:=rfl
 rw [e,iz]
theorem jU {names l:List (Str×Ϭ)}{y:Str}{kd:Ϭ}(hc:∀ z∈l,z.2≠.cell):(relK names l).lookup y=some kd->kd=.cell\/kd=.free->(y,aP)∈l:=by
 intro h hk
 induction l with
 | nil=>cases h
 | cons p l ih=>
  obtain ⟨n,q⟩:=p
  have hq:=hc (n,q) ι
  show (y,aP)∈(n,q)::l
  unfold relK at h
  rw [dh] at h
  by_cases e:(q==aP&&names.lookup n==some .cell)=true
  ·simp only [e,if_true] at h
   rw [aC] at h
   cases hy:y==n with
   | true=>
    rw [ε] at e
    rw [eq_of_beq hy,eq_of_beq e.1]
    exact ι
   | false=>
    rw [hy] at h
    exact θ _ (ih (fun z hz=>hc z (θ _ hz)) h)
  ·simp only [e,ak,if_false] at h
   rw [aC] at h
   cases hy:y==n with
   | true=>
    rw [hy] at h
    cases h
    rcases hk with hk | hk
    ·exact absurd hk hq
    ·rw [hk,eq_of_beq hy];exact ι
   | false=>
    rw [hy] at h
    exact θ _ (ih (fun z hz=>hc z (θ _ hz)) h)
theorem XD {names l:List (Str×Ϭ)}{y:Str}(h:l.lookup y=some .free):(relK names l).lookup y=some .cell\/(relK names l).lookup y=some .free:=by
 induction l with
 | nil=>cases h
 | cons p l ih=>
  obtain ⟨n,q⟩:=p
  rw [aC] at h
  unfold relK
  rw [dh]
  cases hy:y==n with
  | true=>
   rw [hy] at h
   cases h
   by_cases e:(aP==aP&&names.lookup n==some .cell)=true
   ·left
    simp only [e,if_true,aC,hy]
   ·right
    simp only [e,ak,if_false,aC,hy]
  | false=>
   rw [hy] at h
   have:=ih h
   by_cases e:(q==aP&&names.lookup n==some .cell)=true
   ·simp only [e,if_true,aC,hy];exact this
   ·simp only [e,ak,if_false,aC,hy];exact this
theorem Ym (x:XOk Γ B cf k X c) {sc:dD}{js:List Nat}{xs:List Str}(h:chkS c sc js=true):CompG X sc (closL X.env.cells sc.names []) xs js:=by
 unfold chkS at h
 simp only [ε,aV,beq_iff_eq] at h
 obtain ⟨⟨⟨⟨⟨h1,h2⟩,h3⟩,h4⟩,h5⟩,h6⟩:=h
 have hc:∀ y∈sc.names,y.2≠.cell:=fun y hy=>by simpa using h2 y hy
 have hcell:∀ y∈sc.names,y.2=.free->∃ a,X.env.cells.lookup y.1=some a:=fun y hy hf=>by
  have:=h5 y hy
  rw [hf] at this
  refine x.cells y.1 ?_
  simpa using this
 refine ⟨zaC hcell,hc,h1,fun y hy hl=>?_,fun y c' q=>(yq sc.names [] hcell (fun _ q=>by cases q)).1 c' q,fun y hy=>?_,fun j hj y hy=>?_,fun j hj=>?_⟩
 ·have:=h3 y hy
  rw [hl] at this
  simpa using this
 ·rw [xn x] at hy
  refine (yq sc.names [] hcell (fun _ q=>by cases q)).2 (.inl ?_)
  rcases hy with q | q
  ·exact jU hc q (.inl rfl)
  ·exact jU hc q (.inr rfl)
 ·have q:=h6 j hj
  rw [x.N] at hy
  rw [hy] at q
  simp only [ε,mC,beq_iff_eq] at q
  refine ⟨?_,?_,(yq sc.names [] hcell (fun _ q=>by cases q)).2 (.inl (bc q.2)),?_⟩
  ·unfold Vis
   rw [x.nm]
   rcases q.1 with z | z
   ·exact .inr (.inl z)
   ·exact .inr (.inr z)
  ·unfold iU
   rw [x.nm]
   rcases q.1 with z | z <;> rw [z] <;> decide
  ·rw [xn x]
   exact XD q.2
 ·have q:=h6 j hj
  cases e:c.N[j]? with
  | none=>rw [e] at q;cases q
  | some y=>rw [x.N];exact (Θ.mp e).1
theorem Y4 (x:XOk Γ B cf k X c) {sc:dD}{js:List Nat}{xs:List Str}(h:chkS c sc js=true) (hn:(xs++js.map (fun j=>c.N.getD j "")).Nodup) (C:Addr) (s3:μ) (H3:Hp) (fp:List Addr):
  XOk Γ B cf k (cxG X sc (closL X.env.cells sc.names []) xs js C s3 H3 fp) (inner c sc xs js):=by
 have K:=Ym (xs:=xs) x h
 refine ⟨x.hK,xn x sc,K.kind,by show xs++js.map (fun j=>X.N.getD j "")=_;rw [x.N];rfl,by show (xs++js.map (fun j=>X.N.getD j "")).Nodup;rw [x.N];exact hn,fun q=>absurd (show false=true from q) Τ,x.calm,x.room,fun y hy=>?_,x.fns,x.bare,x.consts,x.fa,x.cl,x.ca⟩
 have hy':(iY sc X.env).names.lookup y=some .cell\/(iY sc X.env).names.lookup y=some .free:=by rw [xn x];exact hy
 exact K.has y hy'
end
end EV
namespace L2
open PySem PySem.Spec PyProof.Rows
section
variable {X:Cx}{tg:Expr}
theorem zcl {pJ:List (Addr×Obj)}{σ:St}{H:Hp}{s:μ}{R:It->Hp->Prop}{a:Addr}(I:Inv X pJ σ H s) (h:((∃ xs,SqL X.K H a xs)/\R (Itl X.K a) H)\/((∃ xs,SqT X.K H a xs)/\R (Itt X.K a) H)):ψ (Ι X.prog X.w) X.A (iI (.ref a)) (PIE X pJ σ tg R) X.xe s:=by
 have fp:∀ b∈[s.heap.objs.size],FpOk X pJ H b:=fun b hb=>by
  rw [ξ.mp hb]
  exact I.fpOk (ς _) (I.hok.fresh (ς _))
 rcases h with ⟨⟨xs,hq⟩,q⟩ | ⟨⟨xs,hq⟩,q⟩
 ·obtain ⟨its,rv,p,hz⟩:=I.list hq
  exact gb p.isList ⟨s.heap.objs.size,[s.heap.objs.size],_,_,H,rfl,I.kept (t':=s.toks) fun b o e=>η _ e,Xc a _,⟨_,υ _ rfl,rfl,rfl⟩,fp,q⟩
 ·obtain ⟨its,rv,p,hz⟩:=I.tuple hq
  exact lM (show s.heap.IsTuple a its.toArray from p) ⟨s.heap.objs.size,[s.heap.objs.size],_,_,H,rfl,I.kept (t':=s.toks) fun b o e=>η _ e,Yx a _,⟨_,υ _ rfl,rfl,rfl⟩,fp,q⟩
noncomputable def Its (x:Str):It:=⟨fun i _=>i < x.cps.size,fun i H v H'=>H'=H/\∃ c,x.cps[i]?=some c/\v=.str ⟨#[c]⟩,fun i _=>x.cps.size<=i⟩
theorem Xb {P:Μ}{w:ϒ}{K:W.Frag}{tg:Expr}(x:Str) (t:Tok) (it:Addr):Turn P w K tg (Its x) [it] it (fun i h=>h.IsStrIter it "str_ascii_iterator" x t i) where
 mem:=by simp
 obj:=fun i h st b hb=>by
  have e:b=it:=by simpa using hb
  subst e
  obtain ⟨o,e,c,d⟩:=st
  exact ⟨o,e,fun v z=>by rw [d] at z;cases z⟩
 keep:=fun i h h' st k=>by
  obtain ⟨o,e,r⟩:=st
  exact ⟨o,k it (by simp) o e,r⟩
 item:=by
  intro X hP hw hK hc i pJ s σ H E I hf st hg
  subst hP hw hK
  obtain ⟨f0,f1,f2,f3,f4,f5⟩:=hf it (by simp)
  refine (Walks.strAscii (prog:=X.prog) (w:=X.w) (I.ok.hd hc) it x t).item i s _ _ hg st fun v h' tk hv st' kk=>?_
  obtain ⟨c,u,h1,rfl⟩:=hv
  have I1:Inv X pJ σ H { s with heap:=h',toks:=tk }:=I.turned (fun b o hb e=>kk b o (by simpa using hb) e) f0 f1 f3 f4 f5
  obtain ⟨o,e,c1,d⟩:=id st'
  exact ⟨_,rfl,go_of (s:={ s with heap:=h',toks:=tk }) e c1 d (by decide) ⟨.str ⟨#[c]⟩,H,I1,⟨u,rfl⟩,⟨rfl,c,h1,rfl⟩,st',fun b hb=>(hf b hb).1⟩⟩
 done:=by
  intro X hP hw hK hc i pJ s σ H E I hf st hg
  subst hP hw hK
  obtain ⟨f0,f1,f2,f3,f4,f5⟩:=hf it (by simp)
  have hg:x.cps.size<=i:=hg
  exact wpAny_pyNext_ascii_end (I.ok.hd hc) st (by simp [hg]) fun h' eb=>⟨rfl,I.turned (t':=s.toks) (fun b o hb e=>eb b o hb e) f0 f1 f3 f4 f5⟩
 self:=fun _ _ _ _ _ st h=>wpAny_pyIter_striter_ascii st h
theorem Xa {P:Μ}{w:ϒ}{K:W.Frag}{tg:Expr}(x:Str) (t:Tok) (it:Addr):Turn P w K tg (Its x) [it] it (fun i h=>h.IsStrIter it "str_iterator" x t i) where
 mem:=by simp
 obj:=fun i h st b hb=>by
  have e:b=it:=by simpa using hb
  subst e
  obtain ⟨o,e,c,d⟩:=st
  exact ⟨o,e,fun v z=>by rw [d] at z;cases z⟩
 keep:=fun i h h' st k=>by
  obtain ⟨o,e,r⟩:=st
  exact ⟨o,k it (by simp) o e,r⟩
 item:=by
  intro X hP hw hK hc i pJ s σ H E I hf st hg
  subst hP hw hK
  obtain ⟨f0,f1,f2,f3,f4,f5⟩:=hf it (by simp)
  refine (Walks.strWide (prog:=X.prog) (w:=X.w) (I.ok.hd hc) it x t).item i s _ _ hg st fun v h' tk hv st' kk=>?_
  obtain ⟨c,u,h1,rfl⟩:=hv
  have I1:Inv X pJ σ H { s with heap:=h',toks:=tk }:=I.turned (fun b o hb e=>kk b o (by simpa using hb) e) f0 f1 f3 f4 f5
  obtain ⟨o,e,c1,d⟩:=id st'
  exact ⟨_,rfl,go_of (s:={ s with heap:=h',toks:=tk }) e c1 d (by decide) ⟨.str ⟨#[c]⟩,H,I1,⟨u,rfl⟩,⟨rfl,c,h1,rfl⟩,st',fun b hb=>(hf b hb).1⟩⟩
 done:=by
  intro X hP hw hK hc i pJ s σ H E I hf st hg
  subst hP hw hK
  obtain ⟨f0,f1,f2,f3,f4,f5⟩:=hf it (by simp)
  have hg:x.cps.size<=i:=hg
  exact wpAny_pyNext_wide_end (I.ok.hd hc) st (by simp [hg]) fun h' eb=>⟨rfl,I.turned (t':=s.toks) (fun b o hb e=>eb b o hb e) f0 f1 f3 f4 f5⟩
 self:=fun _ _ _ _ _ st h=>wpAny_pyIter_striter_wide st h
theorem zag {pJ:List (Addr×Obj)}{σ:St}{H:Hp}{s:μ}{R:It->Hp->Prop}{z:Str}{t:Tok}(I:Inv X pJ σ H s) (h:R (Its z) H):ψ (Ι X.prog X.w) X.A (iI (.str z t)) (PIE X pJ σ tg R) X.xe s:=by
 have fp:∀ b∈[s.heap.objs.size],FpOk X pJ H b:=fun b hb=>by
  rw [ξ.mp hb]
  exact I.fpOk (ς _) (I.hok.fresh (ς _))
 cases ha:z.cps.all (· < 128) with
 | false=>exact wpAny_pyIter_wide ha ⟨s.heap.objs.size,[s.heap.objs.size],_,_,H,rfl,I.kept (t':=s.toks) fun b o e=>η _ e,Xa z t _,⟨_,υ _ rfl,rfl,rfl⟩,fp,h⟩
 | true=>exact wpAny_pyIter_ascii ha ⟨s.heap.objs.size,[s.heap.objs.size],_,_,H,rfl,I.kept (t':=s.toks) fun b o e=>η _ e,Xb z t _,⟨_,υ _ rfl,rfl,rfl⟩,fp,h⟩
theorem zbM {l:Expr}{tl:TE}(hl:PE X l tl):PI X tg l (fun σ H R=>tl σ H fun x H1=>(∃ a,x=.ref a/\(((∃ xs,SqL X.K H1 a xs)/\R (Itl X.K a) H1)\/((∃ xs,SqT X.K H1 a xs)/\R (Itt X.K a) H1)))\/∃ z,x=.str z/\R (Its z) H1):=by
 intro pJ s σ H R I h
 refine thn (hl pJ s σ H _ I h) fun v s1 ⟨x,H1,I1,r1,q⟩=>?_
 rcases q with ⟨a,e,q⟩ | ⟨z,e,q⟩
 ·subst e
  cases r1
  exact zcl I1 q
 ·subst e
  obtain ⟨t,rfl⟩:=r1
  exact zag I1 q
theorem Uj {a:Expr}{ta:TA}{p pos:Pos}{elts:List Expr}{kk:Nat}{tp:Pos}(hg:Gl X "enumerate") (hm:X.mg "enumerate"=none) (hv:cG "enumerate"=some (.type "enumerate")) (ha:PA X [a] ta) (hs:Ϣ [a] X.env=[(false,eval a X.env)]):
  PI X (.Tuple elts kk tp) (.Call (.Name "enumerate" p) [a] [] pos) (fun σ H R=>ta σ H fun vs H1=>∃ l,vs=[.ref l]/\(((∃ xs,SqL X.K H1 l xs)/\R (Ite X.K l) H1)\/((∃ xs,SqT X.K H1 l xs)/\R (Itet X.K l) H1))):=by
 intro pJ s σ H R I h
 refine Call_ (wJ I hg hm hv (ϸ (thn (ha pos pJ s σ H _ I h) fun us s1 ⟨vs,H1,I1,r1,q1⟩=>?_) hs rfl))
 obtain ⟨l,e,q1⟩:=q1
 subst e
 obtain ⟨u,rfl,ru⟩:=r1.one
 cases (show u=Α l from ru)
 have fp:∀ b∈[s1.heap.objs.size+1,s1.heap.objs.size],FpOk X pJ H1 b:=fun b hb=>by
  have hb':b=s1.heap.objs.size+1\/b=s1.heap.objs.size:=by simpa using hb
  rcases hb' with rfl | rfl
  ·exact I1.fpOk (by lia) (I1.hok.fresh (by lia))
  ·exact I1.fpOk (ς _) (I1.hok.fresh (ς _))
 rcases q1 with ⟨⟨xs,hq⟩,q⟩ | ⟨⟨xs,hq⟩,q⟩
 ·obtain ⟨its,rv,pl,hz⟩:=I1.list hq
  refine call_enumerate_list pl.isList fun h' he hit hsz hk=>?_
  have I2:Inv X pJ σ H1 { s1 with heap:=h' }:=I1.kept (t':=s1.toks) hk
  exact gf he ⟨_,[s1.heap.objs.size+1,s1.heap.objs.size],_,_,H1,rfl,I2,Xe l _ _ (Nat.succ_ne_self _),⟨⟨_,he⟩,hit⟩,fp,q⟩
 ·obtain ⟨its,rv,pl,hz⟩:=I1.tuple hq
  refine xN (show s1.heap.IsTuple l its.toArray from pl) fun h' he hit hsz hk=>?_
  have I2:Inv X pJ σ H1 { s1 with heap:=h' }:=I1.kept (t':=s1.toks) hk
  exact gf he ⟨_,[s1.heap.objs.size+1,s1.heap.objs.size],_,_,H1,rfl,I2,Yz l _ _ (Nat.succ_ne_self _),⟨⟨_,he⟩,hit⟩,fp,q⟩
end
end L2
namespace EV
open PySem PySem.Spec PyProof.Rows L2
section
variable {Γ:Gm}{Hz:Hp}{ρ:List Slot}
theorem zq {α:Type}{l:List α}{i j:Nat}{a b:α}:(l.set i a)[j]?=some b->(i=j/\i < l.length/\b=a)\/(i≠j/\l[j]?=some b):=by
 intro h
 by_cases e:i=j
 ·subst e
  by_cases hi:i < l.length
  ·rw [Ϛ hi] at h
   cases h
   exact .inl ⟨rfl,hi,rfl⟩
  ·rw [nu (by lia)] at h
   rw [Ϲ (by lia)] at h
   cases h
 ·rw [Ε e] at h
  exact .inr ⟨e,h⟩
theorem EnvO.setSh {H:Hp}{g:G}{σ:L2.St}{i:Nat}{d:D}{v:V}(env:EnvO Γ Hz H g ρ σ) (h:Has Γ g d v):EnvO Γ Hz H g (ρ.set i (.sh d)) (σ.set i (some v)):=by
 have hl:=env.len
 refine ⟨by simp [hl],fun j e q=>?_,fun j e q=>?_,fun j j' e e' a q1 q2 q3 q4=>?_⟩
 ·rcases zq q with ⟨rfl,h1,h2⟩ | ⟨h1,h2⟩
  ·cases h2
   exact ⟨v,Ϛ (by lia),h⟩
  ·obtain ⟨u,e1,e2⟩:=env.sh j e h2
   exact ⟨u,by rw [Ε h1];exact e1,e2⟩
 ·rcases zq q with ⟨rfl,h1,h2⟩ | ⟨h1,h2⟩
  ·cases h2
  ·obtain ⟨a,e1,e2⟩:=env.ow j e h2
   exact ⟨a,by rw [Ε h1];exact e1,e2⟩
 ·rcases zq q1 with ⟨rfl,h1,h2⟩ | ⟨h1,h2⟩
  ·cases h2
  ·rcases zq q2 with ⟨rfl,h3,h4⟩ | ⟨h3,h4⟩
   ·cases h4
   ·rw [Ε h1] at q3
    rw [Ε h3] at q4
    exact env.inj j j' e e' a h2 h4 q3 q4
theorem EnvO.setOw {H:Hp}{g:G}{σ:L2.St}{i:Nat}{d:D}{a:Addr}(env:EnvO Γ Hz H g ρ σ) (h0:Hz a=none) (hr:g.R a=none) (ha:a ∉ g.α) (hc:zM Γ H g a d) (hi:isIns d=false)
  (ne:∀ (j:Nat) (d':D),ρ[j]?=some (.ow d')->j≠i->σ[j]?≠some (some (.ref a))):EnvO Γ Hz H g (ρ.set i (.ow d)) (σ.set i (some (.ref a))):=by
 have hl:=env.len
 refine ⟨by simp [hl],fun j e q=>?_,fun j e q=>?_,fun j j' e e' b q1 q2 q3 q4=>?_⟩
 ·rcases zq q with ⟨rfl,h1,h2⟩ | ⟨h1,h2⟩
  ·cases h2
  ·obtain ⟨u,e1,e2⟩:=env.sh j e h2
   exact ⟨u,by rw [Ε h1];exact e1,e2⟩
 ·rcases zq q with ⟨rfl,h1,h2⟩ | ⟨h1,h2⟩
  ·cases h2
   exact ⟨a,Ϛ (by lia),h0,hr,ha,hc,hi⟩
  ·obtain ⟨b,e1,e2⟩:=env.ow j e h2
   exact ⟨b,by rw [Ε h1];exact e1,e2⟩
 ·rcases zq q1 with ⟨rfl,h1,h2⟩ | ⟨h1,h2⟩
  ·rcases zq q2 with ⟨rfl,h3,h4⟩ | ⟨h3,h4⟩
   ·rfl
   ·rw [Ϛ (by lia)] at q3
    cases q3
    rw [Ε h3] at q4
    exact absurd q4 (ne j' e' h4 (d8 h3))
  ·rcases zq q2 with ⟨rfl,h3,h4⟩ | ⟨h3,h4⟩
   ·rw [Ϛ (by lia)] at q4
    cases q4
    rw [Ε h1] at q3
    exact absurd q3 (ne j e h2 (d8 h1))
   ·rw [Ε h1] at q3
    rw [Ε h3] at q4
    exact env.inj j j' e e' b h2 h4 q3 q4
theorem v6 {Q:L2.St->Hp->Prop}{H:Hp}{g:G}:∀ {is:List Nat}{ds:List D}{vs:List V}{ρ:List Slot}{σ:L2.St},is.length=ds.length->Hass Γ g ds vs->EnvO Γ Hz H g ρ σ ->
  (∀ σ',EnvO Γ Hz H g ((is.zip ds).foldl (fun r p=>r.set p.1 (.sh p.2)) ρ) σ'->Q σ' H)->qb is vs σ H Q
 | [],[],vs,ρ,σ,_,h,env,q=>by
  cases (show vs=[] from h)
  exact ⟨rfl,q σ env⟩
 | i::is,d::ds,vs,ρ,σ,hl,⟨v,r,e,hd,hr⟩,env,q=>by
  subst e
  exact ⟨v,r,rfl,v6 (by simpa using hl) hr (env.setSh hd) q⟩
 | [],_::_,_,_,_,hl,_,_,_=>by simp at hl
 | _::_,[],_,_,_,hl,_,_,_=>by simp at hl
set_option tactic.hygienic true in
theorem u5 {K:W.Frag}{t:T}{ρ':List Slot}{H:Hp}{g:G}{σ:L2.St}{d:D}{fr:Bool}{v:V}{Q:L2.St->Hp->Prop}(hb:bindT ρ t (d,fr)=some ρ') (env:EnvO Γ Hz H g ρ σ) (sr:Same g.R H) (vo:VOk Γ Hz d fr v H g)
  (ne:fr=true->∀ (i:Nat) (d:D),ρ[i]?=some (.ow d)->σ[i]?≠some (some v)) (q:∀ σ',EnvO Γ Hz H g ρ' σ'->Q σ' H):tgOf K t v σ H Q:=by
 cases t with
 | one i=>
  simp only [bindT] at hb
  split at hb
  ·rename_i hc
   rw [ε] at hc
   have hi:isIns d=false:=by simpa using hc.2
   cases hb
   refine q _ ?_
   cases fr with
   | false=>exact env.setSh vo
   | true=>
    obtain ⟨a,e,h0,hr,ha,hcell⟩:=(show ∃ a,v=.ref a/\Hz a=none/\g.R a=none/\a ∉ g.α/\zM Γ H g a d from vo)
    subst e
    exact env.setOw h0 hr ha hcell hi fun j d' h _=>ne rfl j d' h
  ·cases hb
 | tup is=>
  cases d with
  | tup ds=>
   simp only [bindT] at hb
   split at hb
   ·rename_i hc
    cases hb
    have hv:Has Γ g (.tup ds) v:=by
     cases fr with
     | false=>exact vo
     | true=>obtain ⟨_,_,_,_,_,hc⟩:=(show ∃ a,v=.ref a/\Hz a=none/\g.R a=none/\a ∉ g.α/\zM Γ H g a (.tup ds) from vo);exact hc.elim
    obtain ⟨a,vs,rfl,h1,h2⟩:=hv
    exact ⟨a,vs,rfl,SqT.of (sr _ _ h1),by rw [h2.len,hc.1],v6 hc.1 h2 env q⟩
   ·cases hb
  | _=>simp [bindT] at hb
 | nst i is=>
  have hb:((nst2 d).bind fun p=>if i < ρ.length/\is.length=p.2.length/\is.Nodup/\is.all (· < ρ.length) then some ((is.zip p.2).foldl (fun r p=>r.set p.1 (.sh p.2)) (ρ.set i (.sh p.1))) else none)=some ρ':=by cases d <;> exact hb
  cases e:nst2 d with
  | none=>rw [e] at hb;cases hb
  | some p=>
   rw [e] at hb
   obtain ⟨y,ds⟩:=p
   have ed:=Q0 e
   subst ed
   have hb:(if i < ρ.length/\is.length=ds.length/\is.Nodup/\is.all (· < ρ.length) then some ((is.zip ds).foldl (fun r p=>r.set p.1 (.sh p.2)) (ρ.set i (.sh y))) else none)=some ρ':=hb
   by_cases hc:i < ρ.length/\is.length=ds.length/\is.Nodup/\is.all (· < ρ.length)
   ·rw [if_pos hc] at hb
    cases hb
    have hv:Has Γ g (.tup [y,.tup ds]) v:=by
     cases fr with
     | false=>exact vo
     | true=>obtain ⟨_,_,_,_,_,hc⟩:=(show ∃ a,v=.ref a/\Hz a=none/\g.R a=none/\a ∉ g.α/\zM Γ H g a (.tup [y,.tup ds]) from vo);exact hc.elim
    obtain ⟨a,vs,rfl,h1,h2⟩:=hv
    obtain ⟨u,u2,rfl,h3,h4⟩:=h2.two
    obtain ⟨b,ws,rfl,h5,h6⟩:=h4
    exact ⟨a,_,rfl,SqT.of (sr _ _ h1),rfl,u,_,rfl,.ref b,[],rfl,b,ws,rfl,SqT.of (sr _ _ h5),by rw [h6.len,hc.2.1],v6 hc.2.1 h6 (env.setSh h3) fun σ' env'=>⟨rfl,q σ' env'⟩⟩
   ·rw [if_neg hc] at hb;cases hb
end
structure ItOk (Γ:Gm) (J:It) (l:List D) (g:G):Prop where
 go:∀ (i:Nat) (H:Hp) (g':G),Le g g'->Same g'.R H->i < l.length->J.go i H
 stop:∀ (i:Nat) (H:Hp) (g':G),Le g g'->Same g'.R H->l.length<=i->J.stop i H
 yld:∀ (i:Nat) (H:Hp) (g':G) (S:Store) (z:V) (H':Hp) (d:D),Le g g'->WOk Γ H g' S->l[i]?=some d->J.yld i H z H'->∃ g2,Step H g' H' g2/\Same H H'/\WOk Γ H' g2 S/\Has Γ g2 d z
theorem yj:∀ (n:Nat) (l:List D),(enumD n l).length=l.length
 | _,[]=>rfl
 | n,d::l=>by show (enumD (n+1) l).length+1=_;rw [yj];rfl
theorem Yj:∀ (n:Nat) (l:List D) (i:Nat) (d:D),(enumD n l)[i]?=some d->∃ d0,l[i]?=some d0/\d=.tup [.int ((n+i:Nat):Int),d0]
 | _,[],i,d,h=>by simp [enumD] at h
 | n,x::l,0,d,h=>by
  have h:some (D.tup [.int n,x])=some d:=h
  cases h
  exact ⟨x,rfl,rfl⟩
 | n,x::l,i+1,d,h=>by
  have h:(enumD (n+1) l)[i]?=some d:=by simpa [enumD] using h
  obtain ⟨d0,e1,e2⟩:=Yj (n+1) l i d h
  refine ⟨d0,by simpa using e1,?_⟩
  rw [e2,show n+1+i=n+(i+1) by lia]
def TXi (Γ:Gm) (cf:Cf) (e:E):TI:=fun σ H Q=>∃ ρ S W g Hz,wpI cf ρ e W S/\WOk Γ H g S/\EnvO Γ Hz H g ρ σ/\∀ l J H' g' S',Step H g H' g'->WOk Γ H' g' S'->ItOk Γ J l g'->W l S'->Q J H'
def TXf (Γ:Gm) (cf:Cf) (es:List E):TT:=fun σ H Q=>∃ ρ S W g Hz,wpF cf ρ es W S/\WOk Γ H g S/\EnvO Γ Hz H g ρ σ/\∀ b H' g' S',Step H g H' g'->WOk Γ H' g' S'->W b S'->Q b H'
theorem goI {Γ:Gm}{cf:Cf}{σ:L2.St}{H:Hp}{P:Prop}{e:E}{Q} (h:TXi Γ cf e σ H Q) (f:∀ ρ S W g Hz,wpI cf ρ e W S->WOk Γ H g S->EnvO Γ Hz H g ρ σ->(∀ l J H' g' S',Step H g H' g'->WOk Γ H' g' S'->ItOk Γ J l g'->W l S'->Q J H')->P):P:=
 let ⟨ρ,S,V,g,Hz,a,b,c,d⟩:=h;f ρ S V g Hz a b c d
theorem goF {Γ:Gm}{cf:Cf}{σ:L2.St}{H:Hp}{P:Prop}{es:List E}{Q} (h:TXf Γ cf es σ H Q) (f:∀ ρ S W g Hz,wpF cf ρ es W S->WOk Γ H g S->EnvO Γ Hz H g ρ σ->(∀ b H' g' S',Step H g H' g'->WOk Γ H' g' S'->W b S'->Q b H')->P):P:=
 let ⟨ρ,S,V,g,Hz,a,b,c,d⟩:=h;f ρ S V g Hz a b c d
section
variable {X:Cx}{Γ:Gm}{S:Store}{x y z tgt:Expr}{pos p tp:Pos}{cf:Cf}{a b:E}{elts:List Expr}{kk:Nat}
theorem PI.imp {wi wi':TI}(h:PI X tgt x wi) (i:∀ σ H Q,wi' σ H Q->wi σ H Q):PI X tgt x wi':=fun pJ s σ H Q I q=>h pJ s σ H Q I (i σ H Q q)
theorem J8 {a:Addr}{vs:List V}{l:List D}{g:G}(h:∀ g',Le g g'->∀ H,Same g'.R H->SqL X.K H a vs) (hh:Hass Γ g l vs):ItOk Γ (Itl X.K a) l g where
 go:=fun i H g' le sr hi=>⟨vs,vs[i]'(by rw [hh.len];exact hi),h g' le H sr,by simp [hh.len,hi]⟩
 stop:=fun i H g' le sr hi=>⟨vs,h g' le H sr,by rw [hh.len];exact hi⟩
 yld:=fun i H g' S z H' d le w hd y=>by
  obtain ⟨e,y⟩:=y
  subst e
  obtain ⟨v,hv,hd'⟩:=hh.get hd
  have e2:=y vs (h g' le _ w.rh)
  rw [hv] at e2
  cases e2
  exact ⟨g',Step.refl _ _,Same.refl _,w,hd'.mono le⟩
theorem J2 {a:Addr}{vs:List V}{l:List D}{g:G}(h:∀ g',Le g g'->∀ H,Same g'.R H->SqT X.K H a vs) (hh:Hass Γ g l vs):ItOk Γ (Itt X.K a) l g where
 go:=fun i H g' le sr hi=>⟨vs,vs[i]'(by rw [hh.len];exact hi),h g' le H sr,by simp [hh.len,hi]⟩
 stop:=fun i H g' le sr hi=>⟨vs,h g' le H sr,by rw [hh.len];exact hi⟩
 yld:=fun i H g' S z H' d le w hd y=>by
  obtain ⟨e,y⟩:=y
  subst e
  obtain ⟨v,hv,hd'⟩:=hh.get hd
  have e2:=y vs (h g' le _ w.rh)
  rw [hv] at e2
  cases e2
  exact ⟨g',Step.refl _ _,Same.refl _,w,hd'.mono le⟩
theorem zck {z:Str}{g:G}:ItOk Γ (Its z) (z.cps.toList.map fun c=>D.str ⟨#[c]⟩) g where
 go:=fun i H g' le sr hi=>by
  show i < z.cps.size
  simpa using hi
 stop:=fun i H g' le sr hi=>by
  show z.cps.size<=i
  simpa using hi
 yld:=fun i H g' S v H' d le w hd y=>by
  obtain ⟨e,c,e1,e2⟩:=y
  subst e e2
  refine ⟨g',Step.refl _ _,Same.refl _,w,?_⟩
  rw [Ο,bH,e1] at hd
  cases hd
  rfl
theorem J7 {lo:Int}{n:Nat}{g:G}:ItOk Γ (Itr lo n) ((ϵ n).map fun (k:Nat)=>D.int (lo+(k:Int))) g where
 go:=fun i H g' le sr hi=>by
  show i < n
  simpa using hi
 stop:=fun i H g' le sr hi=>by
  show n<=i
  simpa using hi
 yld:=fun i H g' S z H' d le w hd y=>by
  obtain ⟨e,y⟩:=y
  subst e y
  refine ⟨g',Step.refl _ _,Same.refl _,w,?_⟩
  rw [Ο] at hd
  cases q:(ϵ n)[i]? with
  | none=>rw [q] at hd;cases hd
  | some j=>
   rw [q] at hd
   cases hd
   have:=(Θ.mp q).2
   simp at this
   subst this
   rfl
theorem Zv {l:List D}{vs:List V}{g g':G}{H:Hp}{i:Nat}{d:D}{a:Addr}{y:V}(hh:Hass Γ g l vs) (le:Le g g') (w:WOk Γ H g' S) (hd:(enumD 0 l)[i]?=some d) (ha:H a=none) (hy:vs[i]?=some y):
  ∃ g2,Step H g' (upd H a (.tup [.int i,y])) g2/\Same H (upd H a (.tup [.int i,y]))/\WOk Γ (upd H a (.tup [.int i,y])) g2 S/\Has Γ g2 d (.ref a):=by
 obtain ⟨d0,e1,e2⟩:=Yj 0 l i d hd
 obtain ⟨v,hv,hd'⟩:=hh.get e1
 rw [hy] at hv
 cases hv
 have hr:=w.notR ha
 refine ⟨g'.put a (.tup [.int i,y]),(Step.of_same (zV ha) (Le.refl g') (fun _ h=>.inl h) fun _ h=>.inl h).put hr ha,zV ha,(w.laid ha).put zm hr (w.notA ha),?_⟩
 rw [e2,show 0+i=i by lia]
 exact ⟨a,[.int i,y],rfl,zm,.int i,[y],rfl,rfl,y,[],rfl,(hd'.mono le).mono (Le.put hr),rfl⟩
theorem zcn {a:Addr}{vs:List V}{l:List D}{g:G}(h:∀ g',Le g g'->∀ H,Same g'.R H->SqL X.K H a vs) (hh:Hass Γ g l vs):ItOk Γ (Ite X.K a) (enumD 0 l) g where
 go:=fun i H g' le sr hi=>by
  rw [yj] at hi
  exact ⟨vs,vs[i]'(by rw [hh.len];exact hi),h g' le H sr,by simp [hh.len,hi]⟩
 stop:=fun i H g' le sr hi=>by
  rw [yj] at hi
  exact ⟨vs,h g' le H sr,by rw [hh.len];exact hi⟩
 yld:=fun i H g' S z H' d le w hd yy=>by
  obtain ⟨p,y,hp,rfl,rfl,hy⟩:=yy
  exact Zv hh le w hd hp (hy vs (h g' le _ w.rh))
theorem zcm {a:Addr}{vs:List V}{l:List D}{g:G}(h:∀ g',Le g g'->∀ H,Same g'.R H->SqT X.K H a vs) (hh:Hass Γ g l vs):ItOk Γ (Itet X.K a) (enumD 0 l) g where
 go:=fun i H g' le sr hi=>by
  rw [yj] at hi
  exact ⟨vs,vs[i]'(by rw [hh.len];exact hi),h g' le H sr,by simp [hh.len,hi]⟩
 stop:=fun i H g' le sr hi=>by
  rw [yj] at hi
  exact ⟨vs,h g' le H sr,by rw [hh.len];exact hi⟩
 yld:=fun i H g' S z H' d le w hd yy=>by
  obtain ⟨p,y,hp,rfl,rfl,hy⟩:=yy
  exact Zv hh le w hd hp (hy vs (h g' le _ w.rh))
theorem s_seq (hK:X.K=Γ.K) (h:PE X x (TX Γ cf a)):PI X tgt x (TXi Γ cf (.seq a)):=
 PI.imp (zbM h) fun σ H Q h0=>goI h0 fun ρ S W g Hz hw w env k=>⟨ρ,S,_,g,Hz,hw,w,env,fun x v H1 g1 S1 st w1 vx h=>by
  obtain ⟨g2,st2,w2,hx,q⟩:=vx.keep st w1 h
  obtain ⟨l,el,q⟩:=zQ q
  generalize x.1=d at *
  cases d with
  | lst l'=>
   cases el
   obtain ⟨a,vs,e1,h1,h2⟩:=hx
   exact .inl ⟨a,e1,.inl ⟨⟨vs,SqL.of (w2.rh _ _ h1)⟩,k _ _ H1 g2 S1 st2 w2 (J8 (fun g3 le H2 sr=>SqL.of (sr _ _ (le.rr _ _ h1))) h2) q⟩⟩
  | tup l'=>
   cases el
   obtain ⟨a,vs,e1,h1,h2⟩:=hx
   exact .inl ⟨a,e1,.inr ⟨⟨vs,SqT.of (w2.rh _ _ h1)⟩,k _ _ H1 g2 S1 st2 w2 (J2 (fun g3 le H2 sr=>SqT.of (sr _ _ (le.rr _ _ h1))) h2) q⟩⟩
  | scr ns=>
   cases el
   obtain ⟨a,e1,h1⟩:=hx
   exact .inl ⟨a,e1,.inl ⟨⟨_,by rw [hK];exact w2.rh.seq h1⟩,k _ _ H1 g2 S1 st2 w2 (J8 (fun g3 le H2 sr=>by rw [hK];exact sr.seq (le.rr.seq h1)) Hass.ints) q⟩⟩
  | str z=>
   cases el
   exact .inr ⟨z,hx,k _ _ H1 g2 S1 st2 w2 zck q⟩
  | ktp l'=>
   cases el
   obtain ⟨a,vs,e1,h1,h2⟩:=hx
   exact .inl ⟨a,e1,.inr ⟨⟨vs,by rw [hK];exact .inr h1⟩,k _ _ H1 g2 S1 st2 w2 (J2 (fun g3 le H2 sr=>by rw [hK];exact .inr h1) h2) q⟩⟩
  | _=>cases el⟩
theorem zbx (hK:X.K=Γ.K) (hg:Gl X "enumerate") (hm:X.mg "enumerate"=none) (hs:notStar x=true) (h:PE X x (TX Γ cf a)):PI X (.Tuple elts kk tp) (.Call (.Name "enumerate" p) [x] [] pos) (TXi Γ cf (.enum a)):=
 PI.imp (Uj hg hm rfl (zN h yx (zb hs _ _)) (zb hs _ _)) fun σ H Q h0=>goI h0 fun ρ S W g Hz hw w env k=>⟨ρ,S,_,g,Hz,hw,w,env,fun x v H1 g1 S1 st w1 vx h=>by
  obtain ⟨g2,st2,w2,hx,q⟩:=vx.keep st w1 h
  obtain ⟨l,el,q⟩:=zQ q
  generalize x.1=d at *
  cases d with
  | lst l'=>
   cases el
   obtain ⟨a,vs,e1,h1,h2⟩:=hx
   exact ⟨a,by rw [e1],.inl ⟨⟨vs,SqL.of (w2.rh _ _ h1)⟩,k _ _ H1 g2 S1 st2 w2 (zcn (fun g3 le H2 sr=>SqL.of (sr _ _ (le.rr _ _ h1))) h2) q⟩⟩
  | tup l'=>
   cases el
   obtain ⟨a,vs,e1,h1,h2⟩:=hx
   exact ⟨a,by rw [e1],.inr ⟨⟨vs,SqT.of (w2.rh _ _ h1)⟩,k _ _ H1 g2 S1 st2 w2 (zcm (fun g3 le H2 sr=>SqT.of (sr _ _ (le.rr _ _ h1))) h2) q⟩⟩
  | _=>cases el⟩
theorem zbo (hg:Gl X "range") (hm:X.mg "range"=none) (hs:notStar x=true) (h:PE X x (TX Γ cf a)):PI X tgt (.Call (.Name "range" p) [x] [] pos) (TXi Γ cf (.rng none a)):=
 PI.imp (XR hg hm (zN h yx (zb hs _ _)) (zb hs _ _)) fun σ H Q h0=>goI h0 fun ρ S W g Hz hw w env k=>⟨ρ,S,_,g,Hz,hw,w,env,fun x v H1 g1 S1 st w1 vx h=>by
  obtain ⟨j,e,q⟩:=vx.int h
  obtain ⟨hf,q⟩:=wB q
  rw [ε] at hf
  have h1:j.toNat<=1000000:=of_decide_eq_true hf.1
  have h2:-1000000<=j:=of_decide_eq_true hf.2
  refine ⟨j,by rw [e],by lia,by lia,k _ _ H1 g1 S1 st w1 ?_ q⟩
  have:=J7 (Γ:=Γ) (lo:=0) (n:=(j - 0).toNat) (g:=g1)
  rw [show (j - 0).toNat=j.toNat by lia] at this
  rw [show zZ 0 j=(ϵ j.toNat).map fun (k:Nat)=>D.int (0+(k:Int)) by unfold zZ;rw [show (j - 0).toNat=j.toNat by lia]]
  exact this⟩
theorem zbn (hg:Gl X "range") (hm:X.mg "range"=none) (hs:notStar x=true) (hs2:notStar y=true) (hl:PE X x (TX Γ cf a)) (h:PE X y (TX Γ cf b)):PI X tgt (.Call (.Name "range" p) [x,y] [] pos) (TXi Γ cf (.rng (some a) b)):=
 PI.imp (XQ hg hm (zN hl (zN h yx (zb hs2 _ _)) (zb hs _ _)) (by rw [zb hs,zb hs2];rfl) (zb hs2 _ _)) fun σ H Q h0=>goI h0 fun ρ S W g Hz hw w env k=>two (G1:=fun u v H'=>∃ i j:Int,[u,v]=[.int i,.int j]/\(-(2 ^ 62)<=i/\i < 2 ^ 62/\-(2 ^ 62)<=j/\j < 2 ^ 62)/\Q (Itr i (j - i).toNat) H') hw w env fun x y u v H' g' S' st w' vx vy h=>by
  obtain ⟨l,e,h⟩:=vx.int h
  obtain ⟨j,e2,h⟩:=vy.int h
  obtain ⟨hf,q⟩:=wB h
  simp only [ε,decide_eq_true_eq] at hf
  exact ⟨l,j,by rw [e,e2],⟨by omega,by omega,by omega,by omega⟩,k _ _ H' g' S' st w' J7 q⟩
theorem s_fn:PTs X [] (TXf Γ cf []):=fun pJ s σ H Q I h0=>goF h0 fun ρ S W g Hz hw w env k=>Qu pJ s σ H Q I (k true H g S (Step.refl H g) w hw)
theorem s_f1 (h:PT X x (TB Γ cf a)):PTs X [x] (TXf Γ cf [a]):=fun pJ s σ H Q I h0=>goF h0 fun ρ S W g Hz hw w env k=>Qt h pJ s σ H Q I ⟨ρ,S,_,g,Hz,hw,w,env,fun x H1 g1 S1 st w1 h=>by
 obtain ⟨b,e,q⟩:=xK h
 rw [e]
 exact k b H1 g1 S1 st w1 q⟩
end
theorem Ye {α β:Type}{f:α->β}:∀ (l:List (Nat×α)) (r:List β) (i:Nat),(∀ p∈l,p.1≠i)->(l.foldl (fun r p=>r.set p.1 (f p.2)) r)[i]?=r[i]?
 | [],_,_,_=>rfl
 | p::l,r,i,h=>by
  rw [eE,Ye l _ i fun q hq=>h q (θ _ hq),Ε (h p ι)]
theorem Yd {α β:Type}{f:α->β}:∀ (l:List (Nat×α)) (r:List β),(l.foldl (fun r p=>r.set p.1 (f p.2)) r).length=r.length
 | [],_=>rfl
 | p::l,r=>by rw [eE,Yd l,ϱ]
theorem YZ {ρ ρ':List Slot}{t:T}{d:D}(hn:isNst t=false) (h:bindT ρ t (d,false)=some ρ'):ρ'.length=ρ.length/\∀ i,i ∉ tIs t->ρ'[i]?=ρ[i]?:=by
 cases t with
 | one j=>
  simp only [bindT] at h
  split at h
  ·cases h
   exact ⟨by simp,fun i hi=>by rw [Ε];rintro rfl;exact hi (by simp [tIs])⟩
  ·cases h
 | tup is=>
  cases d with
  | tup ds=>
   simp only [bindT] at h
   split at h
   ·cases h
    refine ⟨Yd _ _,fun i hi=>Ye _ _ i fun p hp=>?_⟩
    rintro rfl
    obtain ⟨p1,p2⟩:=p
    exact hi (d9 hp).1
   ·cases h
  | _=>simp [bindT] at h
 | nst _ _=>cases hn
theorem v5 {ρ:List Slot}{t:T}{js:List Nat}{i:Nat}{s:Slot}(h:(inn ρ t js)[i]?=some s):s=.no\/(nT t<=i/\∃ j,js[i - nT t]?=some j/\ρ[j]?=some s):=by
 unfold inn at h
 by_cases hi:i < nT t
 ·rw [ϖ (by simpa using hi),dw,if_pos hi] at h
  cases h;exact .inl rfl
 ·rw [Ϝ (by simpa using lW hi),gw,Ο] at h
  cases e:js[i - nT t]? with
  | none=>rw [e] at h;cases h
  | some j=>
   rw [e] at h
   cases q:ρ[j]? with
   | none=>simp [q] at h;exact .inl h.symm
   | some z=>simp [q] at h;subst h;exact .inr ⟨by lia,j,rfl,q⟩
theorem wY {σ:L2.St}{js:List Nat}{n i j:Nat}{v:V}(hi:n<=i) (hj:js[i - n]?=some j) (h:σ[j]?=some (some v)):(Ξ n none++rows σ js)[i]?=some (some v):=by
 rw [Ϝ (by simpa using hi),gw]
 unfold rows
 rw [Ο,hj]
 simp [aH,h]
section
variable {Γ:Gm}{Hz H:Hp}{g:G}{ρ:List Slot}{σ τ:L2.St}{t:T}{js:List Nat}
theorem zaq (env:EnvO Γ Hz H g ρ σ) (hj:js.Nodup):EnvO Γ Hz H g (inn ρ t js) (Ξ (nT t) none++rows σ js):=by
 refine ⟨by simp [inn,rows],fun i d e=>?_,fun i d e=>?_,fun i j d e a h1 h2 h3 h4=>?_⟩
 ·rcases v5 e with q | ⟨hi,j,e1,e2⟩
  ·cases q
  ·obtain ⟨v,h1,h2⟩:=env.sh j d e2
   exact ⟨v,wY hi e1 h1,h2⟩
 ·rcases v5 e with q | ⟨hi,j,e1,e2⟩
  ·cases q
  ·obtain ⟨a,h1,h2⟩:=env.ow j d e2
   exact ⟨a,wY hi e1 h1,h2⟩
 ·rcases v5 h1 with q | ⟨hi,k,e1,e2⟩
  ·cases q
  rcases v5 h2 with q | ⟨hi',k',e1',e2'⟩
  ·cases q
  obtain ⟨b,q1,_⟩:=env.ow k d e2
  obtain ⟨b',q1',_⟩:=env.ow k' e e2'
  have z:=wY hi e1 q1
  have z':=wY hi' e1' q1'
  rw [h3] at z
  rw [h4] at z'
  cases z
  cases z'
  have hk:=env.inj k k' d e a e2 e2' q1 q1'
  subst hk
  have:=(pC (Θ.mp e1).1 hj).mp (e1.trans e1'.symm)
  lia
theorem Yh {ρ':List Slot}{d:D}(hn:isNst t=false) (hix:∀ i∈tIs t,i < nT t) (hs:bindT (inn ρ t js) t (d,false)=some ρ') (env:EnvO Γ Hz H g ρ' τ):EnvO Γ Hz H g (inn ρ t js) τ:=by
 obtain ⟨h1,h2⟩:=YZ hn hs
 have key:∀ i s,(inn ρ t js)[i]?=some s->s≠Slot.no->ρ'[i]?=some s:=fun i s e ne=>by
  rw [h2 i fun m=>?_]
  ·exact e
  ·rcases v5 e with q | ⟨hi,_⟩
   ·exact ne q
   ·have:=hix i m;lia
 exact ⟨h1.symm.trans env.len,fun i d e=>env.sh i d (key i _ e (by simp)),fun i d e=>env.ow i d (key i _ e (by simp)),fun i j d e a q1 q2 q3 q4=>env.inj i j d e a (key i _ q1 (by simp)) (key j _ q2 (by simp)) q3 q4⟩
end
section
variable {X:Cx}{Γ:Gm}{cf:Cf}{t:T}{js:List Nat}{it elt:E}{ifs:List E}
def cStep (cf:Cf) (ρ:List Slot) (t:T) (js:List Nat) (ifs:List E) (elt:E):D->(Option D->Store->Prop)->Store->Prop:=fun d K S=>opt (bindT (inn ρ t js) t (d,false)) fun ρ'=>wpF cf ρ' ifs (fun b S1=>tst b (wpE cf ρ' elt (fun x S2=>keep x fun d=>K (some d) S2) S1) (K none S1)) S
theorem Je {n:Nat}{Qe:Addr->Hp->Prop}{σ:L2.St}{H:Hp}{V:Po}{ρ:List Slot}{S:Store}{g:G}{Hz:Hp}(hn:isNst t=false) (hix:∀ i∈tIs t,i < nT t) (ht:nT t=n) (hjs:js.Nodup) (hw:wpE cf ρ (.comp t js it ifs elt) V S) (w:WOk Γ H g S) (env:EnvO Γ Hz H g ρ σ)
  (k:∀ ds Da H' g' S',Step H g H' g'->WOk Γ H' g' S'->VN Γ H (.lst ds,.fr) (.ref Da) H' g'->V (.lst ds,.fr) S'->Qe Da H'):uB n js (TXi Γ cf it) (tgOf X.K t) (TXf Γ cf ifs) (TX Γ cf elt) Qe σ H:=by
 subst ht
 refine ⟨ρ,S,_,g,Hz,hw,w,env,fun l J H1 g1 S1 st1 w1 hJ h1 Da hDa=>?_⟩
 have h1:walkW (cStep cf ρ t js ifs elt) l [] (fun ds S2=>V (.lst ds,.fr) S2) S1:=h1
 refine ⟨fun i m ys τ H2=>m=l.length - i/\i<=l.length/\∃ g2 S2 acc,Step H1 g1 H2 g2/\WOk Γ H2 g2 S2/\EnvO Γ (upd Hz Da (.lst [])) H2 g2 (inn ρ t js) τ/\H2 Da=some (.lst ys)/\g2.R Da=none/\Da ∉ g2.α/\Hass Γ g2 acc ys/\fits acc.length=true/\walkW (cStep cf ρ t js ifs elt) (l.drop i) acc (fun ds S2=>V (.lst ds,.fr) S2) S2,⟨_,rfl,ϡ _,g1,S1,[],?_⟩,?_⟩
 ·have st:=(Step.refl H1 g1).zO (o:=.lst []) hDa
  have e1:=zp (zaq (t:=t) env hjs) st1
  refine ⟨st,w1.laid hDa,zp ⟨e1.len,e1.sh,fun i d e=>?_,e1.inj⟩ st,zm,w1.notR hDa,w1.notA hDa,rfl,rfl,h1⟩
  obtain ⟨b,f1,f2,f3,f4,f5,f6⟩:=e1.ow i d e
  obtain ⟨o,ho,_⟩:=f5.isMut
  exact ⟨b,f1,by rw [zc (zf ho hDa)];exact f2,f3,f4,f5,f6⟩
 ·rintro i m ys τ H2 ⟨rfl,hi,g2,S2,acc,st2,w2,env2,hD2,hR2,hA2,hh2,hf2,hr2⟩
  by_cases hlt:i < l.length
  ·refine .inr ⟨hJ.go i H2 g2 st2.le w2.rh hlt,fun z H3 hy=>?_⟩
   obtain ⟨g3,st3,_,w3,hz⟩:=hJ.yld i H2 g2 S2 z H3 l[i] st2.le w2 (ο hlt) hy
   rw [fH hlt] at hr2
   obtain ⟨hD3,hR3,hA3⟩:=st3.kept hD2 hR2 hA2
   obtain ⟨ρ',es,hr3⟩:=zQ (show opt (bindT (inn ρ t js) t (l[i],false)) _ from hr2)
   refine u5 es (zp env2 st3) w3.rh (fr:=false) hz (fun h=>by cases h) fun τ3 env3=>⟨ρ',S2,_,g3,_,hr3,w3,env3,fun b H4 g4 S4 st4 w4 h4=>?_⟩
   obtain ⟨hD4,hR4,hA4⟩:=st4.kept hD3 hR3 hA3
   cases b with
   | false=>
    rw [if_neg Τ]
    exact ⟨l.length - (i+1),by omega,rfl,hlt,g4,S4,acc,(st2.trans st3).trans st4,w4,Yh hn hix es (zp env3 st4),hD4,hR4,hA4,hh2.mono (st3.le.trans st4.le),hf2,h4⟩
   | true=>
    rw [if_pos rfl]
    refine ⟨ρ',S4,_,g4,_,h4,w4,zp env3 st4,fun x v H5 g5 S5 st5 w5 vx h5=>?_⟩
    obtain ⟨g6,st6,w6,hx,q⟩:=vx.keep st5 w5 h5
    obtain ⟨hf,q⟩:=wB q
    obtain ⟨hD5,hR5,hA5⟩:=st6.kept hD4 hR4 hA4
    have st7:=(((st2.trans st3).trans st4).trans st6).zO (o:=.lst (ys++[v])) hDa
    have env6:=Yh hn hix es (zp (zp env3 st4) st6)
    refine ⟨hD5,by rw [hh2.len];exact JZ hf2,l.length - (i+1),by omega,rfl,hlt,g6,S5,acc++[x.1],st7,w6.zO hR5 hA5,?_,zm,hR5,hA5,(hh2.mono ((st3.le.trans st4.le).trans st6.le)).app (Hass.mk1 hx),by rw [ϊ];exact hf,q⟩
    refine ⟨env6.len,env6.sh,fun i d e=>?_,env6.inj⟩
    obtain ⟨b,f1,f2,f3,f4,f5,f6⟩:=env6.ow i d e
    have hb:b≠Da:=by
     rintro rfl
     rw [zm] at f2;cases f2
    exact ⟨b,f1,f2,f3,f4,f5.mono (Le.refl g6) fun o z=>by rw [zc hb];exact z,f6⟩
  ·have e:i=l.length:=by omega
   subst e
   refine .inl ⟨hJ.stop _ H2 g2 st2.le w2.rh (ς _),?_⟩
   rw [List.drop_length] at hr2
   exact k acc Da H2 g2 S2 (st1.trans st2) w2 ⟨Da,rfl,st1.Z4 hDa,hR2,hA2,ys,hD2,hh2⟩ hr2
end
end EV
namespace L2
open PySem PyProof PyProof.Rows PySem.W
variable {X:Cx}{x st:Expr}{te ts:TE}{p2 pos:Pos}
end L2
namespace EV
open PySem PySem.Spec PyProof.Rows L2
def spN (Γ:Gm) (cx:Xp->Cf) (f n:Nat):Sp:=fun vs H Q E=>vs.length=n/\∃ g ds S V ex,WOk Γ H g S/\Hass Γ g ds vs/\cx ex f ds V S/\(∀ x v H' g' S',Step H g H' g'->WOk Γ H' g' S'->VN Γ H x v H' g'->V x S'->Q v H')/\∀ c e C H' g' S',Step H g H' g'->WOk Γ H' g' S'->Γ.ca c=some C->ex c S'->E e (some C) H'
theorem pass1 {X:Cx}:qI (CX1 X.prog X.w) X E0:=fun _ _ _ _ _ _ _ ⟨_,_,_,_,_,_,_,_,_,_,_,_,h⟩=>h.elim
def CfN (B:Tb) (cf:Cf):Prop:=∀ f ds V S ps,B.pars[f]?=some ps->cf f ds V S->ds.length=ps.length
section
variable {X:Cx}{Γ:Gm}{B:Tb}{cx:Xp->Cf}{k:Nat}{c:Cc}{x y z:Expr}{pos p:Pos}{a:E}{es:List E}
theorem wy {xs:List Expr}{env:Env}{pos:Pos}(h:∀ x∈xs,notStar x=true):(fB pos (Ϣ xs env)).any (·.1)=false:=by
 induction xs with
 | nil=>rfl
 | cons a l ih=>
  rw [zb (h a ι)]
  show (false||(fB pos (Ϣ l env)).any (·.1))=false
  rw [ih fun z hz=>h z (θ _ hz)]
  rfl
set_option tactic.hygienic true in
theorem zaG (b:BI):cG (biS b)=some (biV b):=by
 cases b with
 | isinst q=>cases q <;> decide +kernel
 | _=>decide +kernel
theorem s_call {f:Nat}{n:Str}{xs:List Expr}(hcf:CfN B (cx noX)) (ok:XOk Γ B (spN Γ cx) k X c) (hf:B.fns[f]?=some n) (hg:Gl X n) (hdb:(n==("__debug__":Str))=false) (hs:∀ z∈x::xs,notStar z=true) (h:PA X (x::xs) (TXs Γ (cx noX) es)):PE X (.Call (.Name n p) (x::xs) [] pos) (TX Γ (cx noX) (.call f es)):=by
 obtain ⟨a,fd,ps,h1,h2,h3,h4,h5,h6,_⟩:=(ok.fns f n hf).ex
 refine (QH h6 ok.room hg h2 h3 h4 .nil pass1 h hdb (zb (hs x ι) _ _) (wy fun z hz=>hs z (θ _ hz))).imp fun σ H Q h0=>goX h0 fun ρ S V g Hz hw w env kk=>⟨ρ,S,_,g,Hz,hw,w,env,fun ds vs H1 g1 S1 st w1 hv hc=>?_⟩
 show spN Γ cx f ps.length (vs++[]) _ _ _
 rw [χ]
 exact ⟨by rw [hv.len];exact hcf f ds V S1 ps h5 hc,g1,ds,S1,V,noX,w1,hv,hc,fun x v H2 g2 S2 st2 w2 vx q=>kk x v H2 g2 S2 (st.trans st2) w2 (vx.back st) q,fun _ _ _ _ _ _ _ _ _ z=>z.elim⟩
theorem zbu:PK X [] (TXs Γ (cx noX) []):=fun pos pJ s σ H Q I h0=>goS h0 fun ρ S W g Hz hw w env kk=>zbL pos pJ s σ H Q I (kk [] [] H g S (Step.refl H g) w rfl hw)
theorem Qa {n:Str}{kp:Pos}{kws:List cW}(h1:PE X x (TX Γ (cx noX) a)) (h2:PK X kws (TXs Γ (cx noX) es)):PK X (⟨some n,x,kp⟩::kws) (TXs Γ (cx noX) (a::es)):=fun pos pJ s σ H Q I h=>QC h1 h2 pos pJ s σ H Q I (args_cons h)
theorem Ws {g:G}{ds ds':List D}{vs:List V}{perm:List Nat}(h:perm.mapM (fun i=>ds[i]?)=some ds') (hv:Hass Γ g ds vs):Hass Γ g ds' (perm.map fun i=>vs.getD i .non):=by
 induction perm generalizing ds' with
 | nil=>
  simp at h
  subst h
  rfl
 | cons i r ih=>
  rw [List.mapM_cons] at h
  cases e:ds[i]? with
  | none=>rw [e] at h;cases h
  | some d=>
   rw [e] at h
   simp only [Option.bind_eq_bind,o6] at h
   cases e2:r.mapM (fun i=>ds[i]?) with
   | none=>rw [e2] at h;cases h
   | some l=>
    rw [e2] at h
    cases h
    obtain ⟨v,hv',hd⟩:=hv.get e
    refine ⟨v,_,?_,hd,ih e2⟩
    simp [aH,hv']
theorem zac {kws:List cW}{ks:List Str}{env:Env}{pos:Pos}(h:ym kws=some ks):(c7 pos (aZ kws env)).all (·.1.isSome)=true/\(c7 pos (aZ kws env)).filterMap (·.1)=ks/\(c7 pos (aZ kws env)).any (·.1.isNone)=false:=by
 induction kws generalizing ks with
 | nil=>cases h;exact ⟨rfl,rfl,rfl⟩
 | cons q r ih=>
  obtain ⟨n,v,kp⟩:=q
  cases n with
  | none=>cases h
  | some n=>
   simp only [ym,Ζ] at h
   obtain ⟨l,h1,h2⟩:=h
   subst h2
   obtain ⟨i1,i2,i3⟩:=ih h1
   refine ⟨?_,?_,?_⟩
   ·show (true&&(c7 pos (aZ r env)).all (·.1.isSome))=true
    rw [i1];rfl
   ·show n::(c7 pos (aZ r env)).filterMap (·.1)=n::l
    rw [i2]
   ·show (false||(c7 pos (aZ r env)).any (·.1.isNone))=false
    rw [i3];rfl
theorem Qd {f:Nat}{n:Str}{kws:List cW}{ks ps:List Str}{perm:List Nat}(hm:Mono (cx noX)) (ok:XOk Γ B (spN Γ cx) k X c) (hf:B.fns[f]?=some n) (hg:Gl X n) (hdb:(n==("__debug__":Str))=false) (h:PK X kws (TXs Γ (cx noX) es))
  (hk:ym kws=some ks) (hp:B.pars[f]?=some ps) (h1:perm.length=ps.length) (h2:∀ i∈perm,i < ks.length) (h3:perm.map (fun i=>ks.getD i "")=ps) (h4:ks.length=ps.length) (h5:(f,ks,perm)∈B.kws) (h6:es.length=ks.length):PE X (.Call (.Name n p) [] kws pos) (TX Γ (cx noX) (.callk f perm es)):=by
 obtain ⟨a,fd,ps',g1,g2,g3,g4,g5,g6,g7⟩:=(ok.fns f n hf).ex
 have e5:ps'=ps:=ϙ (g5.symm.trans hp)
 subst e5
 obtain ⟨k1,k2,k3⟩:=zac (env:=X.env) (pos:=pos) hk
 refine (X6 g6 ok.room hg g2 g3 (g7 ks perm h1 h2 h3 h4 h5) pass1 h k1 k2 hdb (by rw [k3];rfl)).imp fun σ H Q h0=>goX h0 fun ρ S V g Hz hw w env kk=>⟨ρ,S,_,g,Hz,ZC hm es hw,w,env,fun ds vs H1 g1 S1 st w1 hv ⟨hc,hl⟩=>?_⟩
 obtain ⟨ds',em,hc⟩:=zQ hc
 have hz:vs.length=ks.length:=by rw [hv.len,hl,h6]
 show spN Γ cx f ps'.length (if vs.length=ks.length then []++perm.map fun i=>vs.getD i .non else []) _ _ _
 rw [if_pos hz,aL]
 exact ⟨by simp [h1],g1,ds',S1,V,noX,w1,Ws em hv,hc,fun x v H2 g2 S2 st2 w2 vx q=>kk x v H2 g2 S2 (st.trans st2) w2 (vx.back st) q,fun _ _ _ _ _ _ _ _ _ z=>z.elim⟩
theorem bi_pe {b:BI}{xs:List Expr}{t:TA}{e:E}(ok:XOk Γ B (spN Γ cx) k X c) (hg:Gl X (biS b)) (hm:X.mg (biS b)=none) (hs:∀ z∈x::xs,notStar z=true) (h:PA X (x::xs) t) (i:∀ σ H Q,TX Γ (cx noX) e σ H Q->t σ H fun vs H1=>clAny X (biV b) vs H1 Q):PE X (.Call (.Name (biS b) p) (x::xs) [] pos) (TX Γ (cx noX) e):=by
 have hn:biS b≠("__name__":Str):=by
  cases b with
  | isinst q=>cases q <;> decide
  | _=>decide
 have hdb:(biS b==("__debug__":Str))=false:=by
  cases b with
  | isinst q=>cases q <;> decide
  | _=>decide
 have he:=zb (hs x ι) xs X.env
 have hpl:=wy (pos:=pos) (env:=X.env) fun z hz=>hs z (θ _ hz)
 have bb:=zaG b
 cases hb:biV b with
 | builtin id=>rw [hb] at bb i;exact (wZ qm hg hm bb h hn hdb he hpl).imp i
 | type T=>rw [hb] at bb i;exact (j0 qm hg hm bb h hn hdb he hpl).imp i
 | _=>cases b <;> cases hb
theorem s_is {t:Ty}{pz:Pos}(ok:XOk Γ B (spN Γ cx) k X c) (hg:Gl X "isinstance") (hm:X.mg "isinstance"=none) (hgt:Gl X (tyN t)) (hmt:X.mg (tyN t)=none) (hs:notStar x=true) (h:PE X x (TX Γ (cx noX) a)):PE X (.Call (.Name "isinstance" p) [x,.Name (tyN t) pz] [] pos) (TX Γ (cx noX) (.bi (.isinst t) [a])):=by
 have hvt:cG (tyN t)=some (.type (tyS t)):=by cases t <;> decide +kernel
 have hn:tyN t≠("__name__":Str):=by cases t <;> decide
 have hdb:(tyN t==("__debug__":Str))=false:=by cases t <;> decide
 refine (wZ (id:="isinstance") qm hg hm (by decide +kernel) (zN h (zN (X7 (v:=.ty (tyS t)) hgt hmt hvt rfl hn hdb) yx rfl) (zb hs _ _)) (by decide) (by decide) (zb hs _ _) rfl).imp fun σ H Q h0=>goX h0 fun ρ S V g Hz hw w env kk=>⟨ρ,S,_,g,Hz,hw,w,env,fun x v H1 g1 S1 st w1 vx h1=>?_⟩
 obtain ⟨⟨d,fr⟩,eb,q⟩:=zQ h1
 have eb:(isTy t (deref S1 x.1)).map (fun b=>(D.bl b,false))=some (d,fr):=eb
 cases e2:isTy t (deref S1 x.1) with
 | none=>rw [e2] at eb;cases eb
 | some b=>
  rw [e2] at eb
  cases eb
  obtain ⟨r,r1,r2⟩:=zcs (X:=X) (Γ:=Γ) ok.hK e2
  exact ⟨r,r1,r2 S1 H1 g1 v Q w1 (vx.rdb w1) (kk (.bl b,.st) _ H1 g1 S1 st w1 rfl q)⟩
def PPd (X:Cx) (pos:Pos) (keys:List (Option Expr)) (vals:List Expr) (ks:List Key) (t:TA):Prop:=∃ trs,PPs X pos keys vals trs/\∀ σ H (Q:List (V×V)->Hp->Prop),t σ H (fun vs H'=>Q ((ks.zip vs).map fun kv=>(kV kv.1,kv.2)) H')->Xi trs σ H Q
theorem zbr:PPd X pos [] [] [] (TXs Γ (cx noX) []):=⟨[],Qy,fun σ H Q h0=>goS h0 fun ρ S W g Hz hw w env kk=>kk [] [] H g S (Step.refl H g) w rfl hw⟩
theorem K9 {q:Const}{n:Nat}{p:Pos}{kx:Key}{keys:List (Option Expr)}{vals:List Expr}{ks:List Key}(hk:PE X (.Constant q n p) (tC (kV kx))) (h1:PE X x (TX Γ (cx noX) a)) (h2:PPd X pos keys vals ks (TXs Γ (cx noX) es)):PPd X pos (some (.Constant q n p)::keys) (x::vals) (kx::ks) (TXs Γ (cx noX) (a::es)):=by
 obtain ⟨trs,hp,ht⟩:=h2
 refine ⟨_,Uh hk h1 hp,fun σ H Q h=>?_⟩
 obtain ⟨ρ,S,V,g,Hz,hw,w,env,kk⟩:=args_cons h
 exact ⟨ρ,S,V,g,Hz,hw,w,env,fun x v H1 g1 S1 st w1 vx q=>ht σ H1 _ (kk x v H1 g1 S1 st w1 vx q)⟩
theorem Qm {Γ:Gm}{g:G}:∀ {ds:List D}{vs:List V},Hass Γ g ds vs->Hass Γ g ds.reverse vs.reverse:=by
 intro ds
 induction ds with
 | nil=>
  intro vs h
  have e:vs=[]:=h
  subst e
  exact h
 | cons d ds ih=>
  intro vs h
  obtain ⟨v,r,rfl,h1,h2⟩:=h
  rw [fL,fL]
  exact Hass.app (ih h2) (Hass.mk1 h1)
end
open PySem.AutoSeq1 (wpAny_loadPart')
open PySem.MeetsSeq PySem.MeetsSeq2 PySem.MeetsSeq3 PySem.SeqAt PySem.SeqRoads2
theorem jQ {x z:Expr}{y:Str}(h:wC x=some (y,z)):∃ p pos,x=.Call (.Name y p) [z] [] pos:=by
 unfold wC at h
 split at h
 ·cases h;exact ⟨_,_,rfl⟩
 ·cases h
section
variable {X:Cx}{Γ:Gm}{cx:Xp->Cf}{B:Tb}{k:Nat}{c:Cc}{x y z:Expr}{pos p:Pos}{a b:E}
theorem zcA {H:Hp}{g:G}{S:Store}{d:D}{fr:Bool}{Q:VK}{a:Addr}{o:HO}(w:WOk Γ H g S) (q:Fin Γ H g S d fr Q) (ha:H a=none):Fin Γ (upd H a o) g S d fr Q:=fun v H' g' st sm w' vo=>
 q v H' g' ((Step.of_same (zV ha) (Le.refl g) (fun _ h=>.inl h) fun _ h=>.inl h).trans st) ((zV ha).trans sm) w' (by
  cases fr with
  | false=>exact vo
  | true=>
   obtain ⟨l,e,h1,h2⟩:=(show ∃ a',v=.ref a'/\upd H a o a'=none/\_ from vo)
   exact ⟨l,e,(zV ha).free h1,h2⟩)
theorem UT {d0:D}{ks:List Str}{H:Hp}{g:G}{S:Store}{v:V}(hK:X.K=Γ.K) (w:WOk Γ H g S) (h:(lotD d0).bind strsD=some ks) (hv:Rdb Γ H g d0 v):∃ p,v=.ref p/\(SqL X.K H p (ks.map V.str)\/SqT X.K H p (ks.map V.str)):=by
 obtain ⟨l,e1,e2⟩:=ν.mp h
 rcases Wv e1 with rfl | rfl
 ·obtain ⟨p,ys,rfl,h1,h2⟩:=hv
  exact ⟨p,rfl,.inl (by rw [<- qM e2 h2];exact SqL.of h1)⟩
 ·obtain ⟨p,ys,rfl,h1,h2⟩:=hv
  exact ⟨p,rfl,.inr (by rw [<- qM e2 h2];exact SqT.of (w.rh _ _ h1))⟩
theorem zbg {t:TE}(ok:XOk Γ B (spN Γ cx) k X c) (hg:Gl X "set") (hm:X.mg "set"=none) (hs:notStar z=true) (h:PE X z t):PE X (.Call (.Name "set" p) [z] [] pos) (fun σ H Q=>t σ H fun v H1=>clAny X (.type "set") [v] H1 Q):=
 (j0 qm hg hm (by decide +kernel) (zN h yx (zb hs _ _)) (by decide) (by decide) (zb hs _ _) rfl).imp fun _ _ _ q=>q
set_option tactic.hygienic true in
theorem zbj {p' pos':Pos}(ok:XOk Γ B (spN Γ cx) k X c) (hg:Gl X "set") (hm:X.mg "set"=none) (hg':Gl X "sorted") (hm':X.mg "sorted"=none) (hs:notStar z=true) (h:PE X z (TX Γ (cx noX) a)):
  PE X (.Call (.Name "sorted" p') [.Call (.Name "set" p) [z] [] pos] [] pos') (TX Γ (cx noX) (.bi .sset [a])):=by
 refine (wZ (id:="sorted") qm hg' hm' (by decide +kernel) (zN (zbg ok hg hm hs h) yx (zb rfl _ _)) (by decide) (by decide) (zb rfl _ _) rfl).imp fun σ H Q h0=>goX h0 fun ρ S V g Hz hw w env kk=>⟨ρ,S,_,g,Hz,hw,w,env,fun x v H1 g1 S1 st w1 vx h1=>?_⟩
 obtain ⟨⟨d,fr⟩,eb,q⟩:=zQ h1
 obtain ⟨ks,e1,e2⟩:=ν.mp (show ((lotD (deref S1 x.1)).bind strsD).bind _=some (d,fr) from eb)
 split at e2
 ·rename_i hl
  cases e2
  obtain ⟨l1,l2⟩:=ϛ.mp hl
  obtain ⟨p,rfl,sq⟩:=UT (X:=X) ok.hK w1 e1 (vx.rdb w1)
  refine ⟨_,Vp ok.calm,p,ks,rfl,sq,of_decide_eq_true l1,fun a ha=>⟨_,qt ok.calm,a,onesS ks,rfl,zm,of_decide_eq_true l2,fun ms l pm up hl=>?_⟩⟩
  refine yI (w1.laid ha) (zcA (d:=.lst ((sortS (onesS ks)).map D.str)) w1 (fun u H2 g2 st2 _ w2 vo=>kk _ u H2 g2 S1 (st.trans st2) w2 ((VN.of vo).back st) q) ha) ?_ hl
  rw [<- jO pm up]
  exact Z9 _
 ·cases e2
end
section
variable {prog:Μ}{w:ϒ}{A:ϑ}{E:VSP}{s:μ}
theorem JP:di "dict_itemiterator"=true:=by decide
theorem Wh {it d:Addr}{i ep:Nat}{es:Array cg}{od:Obj}{ok ov:δ}{Q:Option δ->μ->Prop}(hit:eO s.heap it d i es.size ep ok ov) (hod:s.heap.get? d=some od) (hdd:od.data=.dict es ep) (hlt:i < es.size)
  (hQ:∀ h',oY h' it d (i+1) es.size ep es[i].key es[i].val s.heap.objs.size->h'.get? s.heap.objs.size=some { cls:=.type "tuple",data:=.seq #[es[i].key,es[i].val] }->(∀ b o,b≠it->s.heap.get? b=some o->h'.get? b=some o) ->
   Q (some (.ref s.heap.objs.size)) { s with heap:=h' }):ψ (Ι prog w) A (dU (.ref it)) Q E s:=by
 obtain ⟨hp,g,dr,tk,os⟩:=s
 have hT:bO ⟨hp,g,dr,tk,os⟩ (.ref it) "dict_itemiterator":=⟨_,hit,rfl⟩
 have hil:it < hp.objs.size:=ω hit
 unfold dU
 refine γ (cP (ϗ (name:=b7 "__next__") hT F.slot_dict_itemiterator_next (ϓ F.slot_dict_itemiterator_next hT F.entry_dict_itemiterator_next ?_ (F.args_dict_itemiterator_next_1 _))))
 refine γ (ζ (γ (γ ?_)))
 first | refine γ (bY hT (ζ (γ (bZ hit rfl ?_)))) | refine γ (dq hT (ζ (γ (bZ hit rfl ?_))))
 simp only [JP,if_true]
 show ψ _ _ (if (Α d==Β)=true then _ else _) _ _ _
 rw [if_neg (by exact Τ)]
 refine γ (ζ (γ (dR hod hdd ?_)))
 rw [if_neg (by simp)]
 refine γ (ζ (γ (fj hod hdd ?_)))
 rw [if_neg (by simp)]
 refine ζ ?_
 simp only [show ¬ ((i:Int) < 0) from by omega,if_false,bR,ϟ hlt]
 refine γ ?_
 first | refine γ (bY hT (ζ (γ (dO hT ?_)))) | refine γ (dq hT (ζ (γ (dO hT ?_))))
 show ψ _ _ (setField (.ref it) 3 (Ϯ ((i:Int)+1)) >>= _) _ _ ⟨hp,g,dr,tk,os⟩
 refine γ (ϳ hit (by simp) fun h1 e1 (s1:ό it hp h1)=>?_)
 have f1:eO h1 it d (i+1) es.size ep ok ov:=by
  have z:((i+1:Nat):Int)=(i:Int)+1:=by omega
  unfold eO
  rw [z]
  simpa [Ϯ] using e1
 have hT1:bO ⟨h1,g,dr,tk,os⟩ (.ref it) "dict_itemiterator":=⟨_,f1,rfl⟩
 refine γ (aq (γ (dO hT1 (γ (dO hT1 ?_)))))
 show ψ _ _ (fQ (.ref it) 6 es[i].key es[i].val) _ _ ⟨h1,g,dr,tk,os⟩
 unfold fQ
 refine γ (iG ?_)
 have f2:eO (h1.push { cls:=.type "tuple",data:=.seq #[es[i].key,es[i].val] }) it d (i+1) es.size ep ok ov:=η _ f1
 have z1:h1.objs.size=hp.objs.size:=s1.1
 have t2:(h1.push { cls:=.type "tuple",data:=.seq #[es[i].key,es[i].val] }).get? hp.objs.size=some { cls:=.type "tuple",data:=.seq #[es[i].key,es[i].val] }:=by
  rw [<- z1]
  exact υ _ rfl
 have k2:∀ b o,b≠it->hp.get? b=some o->(h1.push { cls:=.type "tuple",data:=.seq #[es[i].key,es[i].val] }).get? b=some o:=fun b o hb e=>η _ (s1.extBut b o hb e)
 generalize h1.push { cls:=.type "tuple",data:=.seq #[es[i].key,es[i].val] }=h2 at f2 t2 k2
 show ψ _ _ (fG (.ref it) >>= _) _ _ ⟨h2,g,dr,tk,os⟩
 rw [z1]
 refine γ ?_
 unfold fG
 refine γ (Ϧ f2 rfl (x:=.none) rfl (ζ ?_))
 simp only [if_true]
 refine γ (Ϧ f2 rfl (x:=ok) rfl (γ (Ϧ f2 rfl (x:=ov) rfl (γ (ϳ f2 (by simp) fun h3 (f3:eO h3 it d (i+1) es.size ep es[i].key ov) (s3:ό it h2 h3)=>?_)))))
 refine γ (ϳ f3 (by simp) fun h4 (f4:eO h4 it d (i+1) es.size ep es[i].key es[i].val) (s4:ό it h3 h4)=>?_)
 refine γ (ϳ f4 (by simp) fun h5 (f5:oY h5 it d (i+1) es.size ep es[i].key es[i].val hp.objs.size) (s5:ό it h4 h5)=>?_)
 refine γ (ϳ f5 (by simp) fun h6 (f6:oY h6 it d (i+1) es.size ep es[i].key es[i].val hp.objs.size) (s6:ό it h5 h6)=>?_)
 have all:∀ b o,b≠it->h2.get? b=some o->h6.get? b=some o:=fun b o hb e=>s6.extBut b o hb (s5.extBut b o hb (s4.extBut b o hb (s3.extBut b o hb e)))
 exact γ (wpAny_letGo (ζ (ζ ⟨_,rfl,ζ (hQ h6 f6 (all _ _ (cX hil) t2) fun b o hb e=>all b o hb (k2 b o hb e))⟩)))
theorem Vc {it d:Addr}{i ep:Nat}{es:Array cg}{od:Obj}{ok ov:δ}{Q:Option δ->μ->Prop}(hh:A.handled=none) (hit:eO s.heap it d i es.size ep ok ov) (hod:s.heap.get? d=some od) (hdd:od.data=.dict es ep) (hge:es.size<=i)
  (hQ:∀ h',lY it s.heap h'->Q none { s with heap:=h' }):ψ (Ι prog w) A (dU (.ref it)) Q E s:=by
 have hT:s.TypeIs (.ref it) "dict_itemiterator":=⟨_,hit,rfl⟩
 unfold dU
 refine γ (cP (ϗ (name:=b7 "__next__") hT F.slot_dict_itemiterator_next (ϓ F.slot_dict_itemiterator_next hT F.entry_dict_itemiterator_next ?_ (F.args_dict_itemiterator_next_1 _))))
 refine γ (ζ (γ (γ ?_)))
 first | refine γ (bY hT (ζ (γ (bZ hit rfl ?_)))) | refine γ (dq hT (ζ (γ (bZ hit rfl ?_))))
 simp only [JP,if_true]
 show ψ _ _ (if (Α d==Β)=true then _ else _) _ _ s
 rw [if_neg (by exact Τ)]
 refine γ (ζ (γ (dR hod hdd ?_)))
 rw [if_neg (by simp)]
 refine γ (ζ (γ (fj hod hdd ?_)))
 rw [if_neg (by simp)]
 refine ζ ?_
 simp only [show ¬ ((i:Int) < 0) from by omega,if_false,bR,fZ hge]
 refine γ ?_
 first | refine γ (bY hT (ζ ?_)) | refine γ (dq hT (ζ ?_))
 show ψ _ _ (setField (.ref it) 2 .none >>= _) _ _ s
 refine γ (Ϟ hit rfl (by simp) ?_)
 show ψ _ _ (newExc (.type "StopIteration") [] >>= _) _ _ _
 refine γ ?_
 simp only [newExc,newTuple]
 refine γ (Ω (γ (m:=dW _ _) (aQ (a:=Β) (by first | rfl | (simp only [dW];rfl)) (Ω ?_ (by size_fits)))) (by size_fits))
 simp only [raiseNew]
 refine γ (lJ ?_)
 rw [show A.in1.handled=none from hh]
 refine γ (ζ (m7 ?_))
 have hx:=fun h' e=>hQ h' e
 refine γ (dj (T:="StopIteration") (b:=true) ⟨_,υ _ rfl,rfl⟩ iK (ζ (hx _ ?_)))
 exact ((aA ..).extBut.push _).push _
end
theorem Ja:entryFor table "dict_itemiterator.__iter__"=some Κ.«dict_keyiterator.__iter__»:=oF (id':="dict_keyiterator.__iter__") (by kernel_rfl) rfl (by decide +kernel) (by kernel_rfl)
noncomputable def Iti (a:Addr) (o:Obj) (es:Array cg) (kvs:List (List Key×V)):It:=
 ⟨fun i H=>H a=some (.frz o (.dT kvs))/\i < kvs.length,fun i H x H'=>∃ p kb k v,H p=none/\x=.ref p/\kvs[i]?=some (k,v)/\(es[i]?).map (·.key)=some (.ref kb)/\H kb=some (.tup (k.map kV))/\H'=upd H p (.tup [.ref kb,v]),fun i H=>H a=some (.frz o (.dT kvs))/\kvs.length<=i⟩
theorem uA {P:Μ}{w:ϒ}{K:W.Frag}{elts:List Expr}{kk:Nat}{pos:Pos}{a it:Addr}{o:Obj}{es:Array cg}{ep:Nat}{kvs:List (List Key×V)}(hdd:o.data=.dict es ep) (hsz:es.size=kvs.length):
  Turn P w K (.Tuple elts kk pos) (Iti a o es kvs) [it] it (fun i h=>∃ ok ov,eO h it a i es.size ep ok ov) where
 mem:=by simp
 obj:=fun i h st b hb=>by
  obtain ⟨ok,ov,he⟩:=st
  have e:b=it:=by simpa using hb
  subst e
  exact ⟨_,he,fun v z=>by
   have z':Ϫ _=Data.cell v:=z
   cases z'⟩
 keep:=fun i h h' st k=>by
  obtain ⟨ok,ov,he⟩:=st
  exact ⟨ok,ov,k it (by simp) _ he⟩
 item:=by
  intro X hP hw hK hc i pJ s σ H E I hf st hg
  subst hP hw hK
  obtain ⟨ok,ov,he⟩:=st
  obtain ⟨hH,hi⟩:=hg
  have f1:=hf it (by simp)
  have hT:H s.heap.objs.size=none:=I.hok.fresh (ς _)
  obtain ⟨ho,_,_,xs,rel,o',es',ep',g1,g2,g3,g4,_⟩:=(show ObjOk X.prog X.w H s.heap a (.frz o (.dT kvs)) from I.hok a _ hH)
  rw [ho] at g1
  cases g1
  rw [hdd] at g3
  cases g3
  have hlt:i < es.size:=by rw [hsz];exact hi
  obtain ⟨q,hq,r1,r2,r3⟩:=paired_get rel (ο hi)
  have hes:es[i]?=some (lU (eF (zP X.prog X.w)) q):=by
   rw [entry_at g4,hq]
   rfl
  have hes':es[i]=lU (eF (zP X.prog X.w)) q:=by
   rw [ϟ hlt] at hes
   exact ϙ hes
  refine Wh he ho hdd hlt fun h' hio hTp hk=>⟨_,rfl,?_⟩
  refine wpAny_letOwnedTupleGo_items hio fun h2 he2 hs2=>?_
  have kept:∀ b u,b ∉ [it]->s.heap.get? b=some u->h2.get? b=some u:=fun b u hb q=>(hs2.2 b fun z=>hb (by simp [z])).trans (hk b u (fun z=>hb (by simp [z])) q)
  have nT:∀ b u,s.heap.get? b=some u->b≠s.heap.objs.size:=fun b u q=>Υ (ω q)
  have htr:∀ b u,H b=some u->b ∉ [it]:=fun b u q hb=>by
   have hb':b=it:=by simpa using hb
   subst hb'
   rw [f1.1] at q;cases q
  have eT:h2.get? s.heap.objs.size=some { cls:=.type "tuple",data:=.seq #[es[i].key,es[i].val] }:=(hs2.2 _ (cX (ω he))).trans hTp
  have rk:RelV (.ref q.2.1) es[i].key:=by rw [hes'];exact rfl
  have rv:RelV kvs[i].2 es[i].val:=by rw [hes'];exact r3
  have hok:HOk X.prog X.w (upd H s.heap.objs.size (.tup [.ref q.2.1,kvs[i].2])) h2:=fun b u z=>by
   by_cases hb:b=s.heap.objs.size
   ·subst hb
    rw [zm] at z
    cases z
    exact ⟨by show 2<=sizeLine;decide,[es[i].key,es[i].val],.cons rk (.cons rv .nil),⟨_,eT,rfl,_,rfl⟩⟩
   ·rw [zc hb] at z
    refine (I.hok b u z).stay (fun c v hcv r=>kept c v ?_ r) (fun c r=>by rw [zc (zf r hT)];exact r) fun c ys r=>by rw [zc (zf r hT)];exact r
    rcases hcv with rfl | hcv
    ·exact htr _ _ z
    ·exact htr _ _ hcv
  refine ⟨.ref s.heap.objs.size,upd H s.heap.objs.size (.tup [.ref q.2.1,kvs[i].2]),?_,rfl,⟨_,q.2.1,kvs[i].1,kvs[i].2,hT,rfl,ο hi,by rw [hes];rfl,r2,rfl⟩,⟨_,_,he2⟩,fun b hb=>?_⟩
  ·refine Inv.step (s:=s) (H:=H) (h':=h2) (g':=s.gens) (d':=s.drawn) (t':=s.toks) (ch:=[it]) I (fun b hb=>?_) (fun b u _ _ hb q _=>kept b u hb q) (fun b u _ _ hb q _=>⟨u.slots,kept b u hb q⟩) (fun b u _ q n=>by rw [zc (nT b u q)];exact n) (fun b u hb q=>⟨u,kept b u hb q⟩)
    (fun b ys q=>by rw [zc (zf q hT)];exact q) (fun b u v q=>by rw [zc (zf q hT)];exact q) (fun b ps q=>⟨#[],by rw [zc (zf q hT),q];simp⟩) (fun m hm=>?_) hok I.bare
   ·have hb':b=it:=by simpa using hb
    subst hb'
    exact ⟨f1.2.2.2.1,f1.2.1,f1.2.2.2.2.1,f1.2.2.2.2.2⟩
   ·obtain ⟨u,es1,ep1,q,r⟩:=hm
    exact ⟨u,es1,ep1,kept _ u (fun hb=>by
     have hb':X.env.locals=it:=by simpa using hb
     exact f1.2.1 hb'.symm) q,r⟩
  ·have hb':b=it:=by simpa using hb
   subst hb'
   rw [zc (nT _ _ he)];exact f1.1
 done:=by
  intro X hP hw hK hc i pJ s σ H E I hf st hg
  subst hP hw hK
  obtain ⟨ok,ov,he⟩:=st
  obtain ⟨hH,hi⟩:=hg
  obtain ⟨f0,f1,f2,f3,f4,f5⟩:=hf it (by simp)
  obtain ⟨ho,_⟩:=(show ObjOk X.prog X.w H s.heap a (.frz o (.dT kvs)) from I.hok a _ hH)
  exact Vc (I.ok.hd hc) he ho hdd (by rw [hsz];exact hi) fun h' eb=>⟨rfl,I.turned (t':=s.toks) (fun b u hb q=>eb b u hb q) f0 f1 f3 f4 f5⟩
 self:=fun A i s Q E st h=>by
  obtain ⟨ok,ov,he⟩:=st
  have hT:s.TypeIs (.ref it) "dict_itemiterator":=⟨_,he,rfl⟩
  refine f9 hT F.slot_dict_itemiterator_iter (ϓ F.slot_dict_itemiterator_iter hT Ja ?_ (F.args_dict_itemiterator_iter_1 _))
  show ψ _ _ (ret (.ref it)) _ _ s
  exact ζ ⟨_,rfl,"dict_itemiterator",_,hT,F.slot_dict_itemiterator_next.lookup,h⟩
where
 paired_get:∀ {α β:Type}{R:α->β->Prop}{l:List α}{m:List β}{i:Nat}{x:α},eH R l m->l[i]?=some x->∃ y,m[i]?=some y/\R x y
  | _,_,_,_,_,0,_,.cons h _,e=>by
   simp at e
   subst e
   exact ⟨_,rfl,h⟩
  | _,_,_,_,_,i+1,_,.cons _ t,e=>by
   obtain ⟨y,h1,h2⟩:=uA.paired_get (i:=i) t (by simpa using e)
   exact ⟨y,by simpa using h1,h2⟩
  | _,_,_,_,_,_,_,.nil,e=>by simp at e
section
variable {X:Cx}{Γ:Gm}{S:Store}{cf:Cf}{a:E}{elts:List Expr}{kk:Nat}{ap cp tp:Pos}
theorem jx {g:G}:∀ k:List Key,Hass Γ g (k.map keyOf) (k.map kV)
 | []=>rfl
 | .inl i::k=>⟨_,_,rfl,rfl,jx k⟩
 | .inr i::k=>⟨_,_,rfl,rfl,jx k⟩
theorem V2 {H:Hp}{g:G}{a:Addr}{vs:List V}(w:WOk Γ H g S) (ha:H a=some (.tup vs)):∃ g',Step H g H g'/\WOk Γ H g' S/\g'.R a=some (.tup vs):=by
 cases e:g.R a with
 | some o=>
  have:=w.rh a o e
  rw [ha] at this
  cases this
  exact ⟨g,Step.refl H g,w,e⟩
 | none=>
  have na:a ∉ g.α:=fun m=>by
   obtain ⟨k,hk,e'⟩:=gJ.mp m
   have hk':k < S.length:=by rw [<- w.len];exact hk
   obtain ⟨o,ho,hm⟩:=(w.cell k _ a (ο hk') (by rw [ο hk,e'])).isMut
   rw [ha] at ho
   cases ho
   exact hm.elim
  refine ⟨g.put a (.tup vs),⟨Le.put e,fun _ _ h _=>h,fun _ o h=>⟨o,h⟩,fun _ h=>.inl h,fun b q=>?_⟩,w.put ha e na,zm⟩
  by_cases hb:b=a
  ·subst hb;exact .inr (.inr (.inr ⟨_,ha⟩))
  ·have q':upd g.R a (.tup vs) b≠none:=q
   rw [zc hb] at q'
   exact .inl q'
end
noncomputable def Itk (a:Addr) (o:Obj) (kvs:List (List Key×V)):It:=
 ⟨fun i H=>H a=some (.frz o (.dT kvs))/\i < kvs.length,fun i H x H'=>∃ kb k v,x=.ref kb/\kvs[i]?=some (k,v)/\H kb=some (.tup (k.map kV))/\H'=H,fun i H=>H a=some (.frz o (.dT kvs))/\kvs.length<=i⟩
theorem Xd {P:Μ}{w:ϒ}{K:W.Frag}{tg:Expr}{a it:Addr}{o:Obj}{es:Array cg}{ep:Nat}{kvs:List (List Key×V)}(hdd:o.data=.dict es ep) (hex:o.ExactDict) (hsz:es.size=kvs.length):
  Turn P w K tg (Itk a o kvs) [it] it (fun i h=>h.IsKeyIter it a i es.size ep/\i<=es.size) where
 mem:=by simp
 obj:=fun i h st b hb=>by
  have e:b=it:=by simpa using hb
  subst e
  obtain ⟨⟨o,e,c,d⟩,_⟩:=st
  exact ⟨o,e,fun v z=>by rw [d] at z;cases z⟩
 keep:=fun i h h' st k=>⟨st.1.at fun o e=>k it (by simp) o e,st.2⟩
 item:=by
  intro X hP hw hK hc i pJ s σ H E I hf st hg
  subst hP hw hK
  obtain ⟨st,_⟩:=st
  obtain ⟨hH,hi⟩:=hg
  obtain ⟨f0,f1,f2,f3,f4,f5⟩:=hf it (by simp)
  obtain ⟨ho,_,_,xs,rel,o',es',ep',g1,g2,g3,g4,_⟩:=(show ObjOk X.prog X.w H s.heap a (.frz o (.dT kvs)) from I.hok a _ hH)
  rw [ho] at g1
  cases g1
  rw [hdd] at g3
  cases g3
  have hlt:i < es.size:=by rw [hsz];exact hi
  obtain ⟨q,hq,r1,r2,r3⟩:=uA.paired_get rel (ο hi)
  have hes:es[i]?=some (lU (eF (zP X.prog X.w)) q):=by
   rw [entry_at g4,hq]
   rfl
  have hes':es[i]=lU (eF (zP X.prog X.w)) q:=by
   rw [ϟ hlt] at hes
   exact ϙ hes
  refine TS.UJ st ⟨o,ho,hex,hdd⟩ hlt fun h' st' sb=>?_
  have I1:Inv X pJ σ H { s with heap:=h' }:=I.turned (t':=s.toks) (fun b o hb e=>(sb.2 b hb).trans e) f0 f1 f3 f4 f5
  obtain ⟨o2,e2,c2,d2⟩:=id st'
  exact ⟨_,rfl,go_of (s:={ s with heap:=h' }) e2 c2 d2 (by decide) ⟨.ref q.2.1,H,I1,by rw [hes'];exact rfl,⟨q.2.1,kvs[i].1,kvs[i].2,rfl,ο hi,r2,rfl⟩,⟨st',hlt⟩,fun b hb=>(hf b hb).1⟩⟩
 done:=by
  intro X hP hw hK hc i pJ s σ H E I hf st hg
  subst hP hw hK
  obtain ⟨st,hle⟩:=st
  obtain ⟨hH,hi⟩:=hg
  obtain ⟨f0,f1,f2,f3,f4,f5⟩:=hf it (by simp)
  obtain ⟨ho,_⟩:=(show ObjOk X.prog X.w H s.heap a (.frz o (.dT kvs)) from I.hok a _ hH)
  have e:i=es.size:=by omega
  subst e
  exact TS.zat (I.ok.hd hc) st ⟨o,ho,hex,hdd⟩ fun h' eb=>⟨rfl,I.turned (t':=s.toks) (fun b o hb e=>eb b o hb e) f0 f1 f3 f4 f5⟩
 self:=fun _ _ _ _ _ st h=>wpAny_pyIter_keyiter st.1 h
section
variable {X:Cx}{tg:Expr}
theorem QD {l:Expr}{tl:TE}(hl:PE X l tl):PI X tg l (fun σ H R=>tl σ H fun v H=>∃ a o kvs,v=.ref a/\H a=some (.frz o (.dT kvs))/\R (Itk a o kvs) H):=by
 intro pJ s σ H R I h
 refine thn (hl pJ s σ H _ I h) fun v s1 ⟨x,H1,I1,r1,a,o,kvs,e1,hH,q⟩=>?_
 subst e1
 cases r1
 obtain ⟨ho,_,z2,xs,rel,o',es,ep,g1,g2,g3,g4,_⟩:=(show ObjOk X.prog X.w H1 s1.heap a (.frz o (.dT kvs)) from I1.hok a _ hH)
 rw [ho] at g1
 cases g1
 have hsz:es.size=kvs.length:=by
  have e1:=congrArg lX g4
  rw [Ν,<- mU rel] at e1
  simpa using e1
 refine TS.U4 z2 ⟨o,ho,g2,g3⟩ ?_
 refine ⟨s1.heap.objs.size,[s1.heap.objs.size],_,_,H1,rfl,I1.kept (t':=s1.toks) fun b o e=>η _ e,Xd g3 g2 hsz,⟨⟨_,υ _ rfl,rfl,rfl⟩,ϡ _⟩,fun b hb=>?_,q⟩
 have e:b=s1.heap.objs.size:=by simpa using hb
 subst e
 exact I1.fpOk (ς _) (I1.hok.fresh (ς _))
end
section
variable {X:Cx}{Γ:Gm}{S:Store}{cf:Cf}{a:E}{tgt x:Expr}
theorem zah {ad:Addr}{o:Obj}{ks:List (List Key)}{vs:List V}{g:G}(hl:ks.length=vs.length) (hr:g.R ad=some (.frz o (.dT (ks.zip vs)))):ItOk Γ (Itk ad o (ks.zip vs)) (ks.map fun k=>.tup (k.map keyOf)) g where
 go:=fun i H g' le sr hi=>⟨sr _ _ (le.rr _ _ hr),by rw [Ν] at hi;rw [mz];omega⟩
 stop:=fun i H g' le sr hi=>⟨sr _ _ (le.rr _ _ hr),by rw [Ν] at hi;rw [mz];omega⟩
 yld:=fun i H g' S z H' d le w hd y=>by
  obtain ⟨kb,k,v,rfl,e1,hkb,rfl⟩:=y
  obtain ⟨g1,s1,w1,r1⟩:=V2 w hkb
  refine ⟨g1,s1,Same.refl _,w1,?_⟩
  rw [List.getElem?_zip_eq_some] at e1
  rw [Ο,e1.1] at hd
  cases hd
  exact ⟨kb,_,rfl,r1,jx k⟩
theorem zbv (h:PE X x (TX Γ cf a)):PI X tgt x (TXi Γ cf (.keys a)):=
 PI.imp (QD h) fun σ H Q h0=>goI h0 fun ρ S W g Hz hw w env k=>⟨ρ,S,_,g,Hz,hw,w,env,fun x v H1 g1 S1 st w1 vx h=>by
  obtain ⟨g2,st2,w2,hx,q⟩:=vx.keep st w1 h
  obtain ⟨ks,ds,ed,q⟩:=WN q
  rw [ed] at hx
  obtain ⟨ad,vs,o,rfl,hr,hlen,hv⟩:=hx
  exact ⟨ad,o,ks.zip vs,rfl,w2.rh _ _ hr,k _ _ H1 g2 S1 st2 w2 (zah (by rw [hlen,hv.len]) hr) q⟩⟩
end
end EV
namespace L2
open PySem PySem.Spec PyProof.Rows
section
variable {prog:Μ}{w:ϒ}{A:ϑ}{E:VSP}{s:μ}
theorem sub_one {p:Sem δ×Sem δ}{Q:Addr->μ->Prop}(h:ψ (Ι prog w) A (evalPairs [p]) (fun vs s1=>∃ k v,vs=[(k,v)]/\ψ (Ι prog w) A (dictSet s.heap.objs.size k v) (fun _ s2=>Q s.heap.objs.size s2) E s1) E
   { s with heap:=s.heap.push { cls:=.type "dict",data:=.dict #[] } }):ψ (Ι prog w) A (subDict [p]) Q E s:=by
 unfold subDict
 refine γ (wpAny_alloc ?_)
 refine γ (aq ?_)
 rw [if_pos (show [p].length<=15 from (show 1<=15 by decide))]
 refine γ (aN h (fun vs s1 h1=>?_) fun _ _ e=>e)
 obtain ⟨k,v,rfl,q⟩:=h1
 refine aq ?_
 rw [List.forIn_cons]
 refine γ (γ ?_)
 refine γ (aN q (fun _ s2 q2=>?_) fun _ _ e=>e)
 refine ζ ?_
 dsimp only
 rw [List.forIn_nil]
 exact ζ (ζ (ζ q2))
end
variable {X:Cx}
def za4 (tk tv:TE):TE:=fun σ H Q=>∀ p,H p=none->tk σ (upd H p (.dT [])) fun x H1=>tv σ H1 fun y H2=>∃ b ks,x=.ref b/\H2 p=some (.dT [])/\H2 b=some (.tup (ks.map kV))/\Q (.ref p) (upd H2 p (.dT [(ks,y)]))
theorem Um {k v:Expr}{pos:Pos}{tk tv:TE}(hu:X.A.units+1 < aG) (hk:PE X k tk) (hv:PE X v tv):PE X (.Dict [some k] [v] pos) (za4 tk tv):=by
 intro pJ s σ H Q I q
 have hn:=I.hok.fresh (ς s.heap.objs.size)
 have I1:=I.laid (a:=s.heap.objs.size) (o:=.dT []) (h':=s.heap.push { cls:=.type "dict",data:=.dict #[] }) (t':=s.toks) (fun _ _ q=>η _ q) (ς _) (Jb s.heap I.big)
 have q:=q _ hn
 rw [arm_eval_Dict,zip_pairTrees [some k] [v] X.env pos rfl rfl,dictDisplay_pairs (pairTrees [some k] [v] X.env pos) (fun z=>by have:=pairTrees_length [some k] [v] X.env pos rfl rfl;rw [z] at this;cases this) (by rw [pairTrees_length [some k] [v] X.env pos rfl rfl];exact (show 1 < 17 by decide))]
 refine γ (lH (γ (sub_one (p:=_) ?_)))
 refine pairTrees_cons_walk (thn (hk pJ _ σ _ _ I1 q) fun u s1 ⟨x,H1,I1,rx,q1⟩=>thn (hv pJ s1 σ H1 _ I1 q1) fun w2 s2 ⟨y,H2,I2,ry,b,ks,ex,ep,eb,q2⟩=>pairTrees_nil_walk ⟨u,w2,rfl,?_⟩)
 subst ex
 cases (show u=Α b from rx)
 obtain ⟨z,hd,xs,rel,dd⟩:=dt_of I2.hok ep
 cases rel
 refine wpAny_dictSet_heap (hsz:=by decide) (show X.A.units < aG by omega) (kE I2.hok eb) dd fun h' dd' hs=>ζ ⟨.ref s.heap.objs.size,_,?_,rfl,q2⟩
 obtain ⟨o,es,ep',hq,h2,h3,h4,_,h5⟩:=dd'
 refine Vd I2 (by rw [ep];exact aR) hs ⟨o,hq⟩ ⟨show 1<=sizeLine by decide,hd,_,.cons ⟨rfl,?_,ry⟩ .nil,o,es,ep',hq,h2,h3,h4,h5⟩
 rw [zc (ne_of eb ep (fun z=>nomatch z))]
 exact eb
end L2
namespace EV
open PySem PySem.Spec PyProof.Rows L2
variable {X:Cx}{Γ:Gm}{cf:Cf}{a b:E}{k v:Expr}{pos:Pos}
theorem Qc (hu:X.A.units+1 < aG) (hk:PE X k (TX Γ cf a)) (hv:PE X v (TX Γ cf b)):PE X (.Dict [some k] [v] pos) (TX Γ cf (.dk1 a b)):=
 (Um hu hk hv).imp fun σ H Q h0=>goX h0 fun ρ S V g Hz hw w env kk p hp=>by
  have st0:=(Step.refl H g).zO (o:=.dT []) hp
  have h1:TXs Γ cf [a,b] σ (upd H p (.dT [])) fun vs H2=>∃ c ks y,vs=[.ref c,y]/\H2 p=some (.dT [])/\H2 c=some (.tup (ks.map kV))/\Q (.ref p) (upd H2 p (.dT [(ks,y)])):=by
   refine ⟨ρ,S,fun ds S1=>opt (dk1D ds) fun d=>V (d,.fr) S1,g,Hz,hw,w.laid hp,zp env st0,fun ds vs H2 g2 S2 st2 w2 h2 q=>?_⟩
   obtain ⟨d,ed,q⟩:=zQ q
   obtain ⟨k1,k2,k3⟩:=st2.kept zm (w.notR hp) (w.notA hp)
   match ds,ed,h2 with
   | [.tup t,e],ed,h2=>
    obtain ⟨ks,e1,rfl⟩:=Ζ.mp (show (keysD t).map (fun k=>D.dT [k] [e])=some d from ed)
    obtain ⟨u,u2,rfl,⟨c,ys,rfl,f1,f2⟩,h5⟩:=h2.two
    have ey:=vm e1 f2
    refine ⟨c,ks,u2,rfl,k1,by rw [<- ey];exact w2.rh _ _ f1,?_⟩
    exact kk (.dT [ks] [e],.fr) (.ref p) _ g2 S2 ((st0.trans st2).zO hp) (w2.zO k2 k3) ⟨p,rfl,hp,k2,k3,[u2],zm,rfl,u2,[],rfl,h5,rfl⟩ q
  obtain ⟨ρ1,S1,V1,g1,H1,hw1,w1,env1,kk1⟩:=args_cons h1
  refine ⟨ρ1,S1,V1,g1,H1,hw1,w1,env1,fun x v H2 g2 S2 st2 w2 vx q=>?_⟩
  obtain ⟨ρ3,S3,V3,g3,H3,hw3,w3,env3,kk3⟩:=args_cons (kk1 x v H2 g2 S2 st2 w2 vx q)
  refine ⟨ρ3,S3,V3,g3,H3,hw3,w3,env3,fun y u H4 g4 S4 st4 w4 vy q=>?_⟩
  obtain ⟨ρ5,S5,W5,g5,H5,hw5,w5,env5,kk5⟩:=kk3 y u H4 g4 S4 st4 w4 vy q
  obtain ⟨c,ks,y',e1,z1,z2,z3⟩:=kk5 [] [] H4 g5 S5 (Step.refl _ _) w5 rfl hw5
  cases e1
  exact ⟨c,ks,rfl,z1,z2,z3⟩
end EV
namespace TS
open PySem PyProof.Rows PySem.W
theorem zaa:lN (.type "list_reverseiterator") "__len__"=pure none:=by rw [fu,cR];kernel_rfl
theorem U5:lN (.type "list_reverseiterator") "__length_hint__"=pure (some (.builtin "list_reverseiterator.__length_hint__")):=by rw [fu,cR];kernel_rfl
section
variable {prog:Μ}{w:ϒ}{A:ϑ}{E:δ->μ->Prop}{s:μ}{I:Addr}{fp wr:List Addr}{G:Array iT->Array iT->Prop}{n:Nat}{P:Nat->δ->Prop}{St:Nat->μ->Prop}
theorem Zo {Q:List δ->μ->Prop}(W:WalksS prog w A.in1 I fp wr G n P St) (hT:∀ i s,St i s->s.TypeIs (.ref I) "list_reverseiterator") (hst:St 0 s) (hfp:∀ b∈fp,b < s.heap.objs.size) (hI:I∈fp) (hn:n<=sizeLine)
  (hQ:∀ s' acc,Moved wr G s s'->ItemsOf P acc n->Q acc.toList s'):ψ (Ι prog w) A (collect (.ref I)) Q E s:=by
 have nf:s.heap.objs.size ∉ fp:=fun m=>absurd (hfp _ m) (bT _)
 have nI:s.heap.objs.size≠I:=fun e=>nf (by rw [e];exact hI)
 unfold collect
 refine γ (n8 (bA lL ?_))
 rw [ao lK _]
 refine γ (m:=newList []) (Ω (ζ ⟨dC dg _,bA mR ?_⟩))
 rw [ao dg _]
 have st1:=W.frame 0 s (s.heap.push { cls:=.type "list",data:=.seq ([]:List δ).toArray }) s.toks hst (ς _) fun b _ o e=>η _ e
 have T1:=hT 0 _ st1
 show ψ _ A.in1 (Ϻ (.ref s.heap.objs.size) (.ref I) (.ref s.heap.objs.size)) _ _ _
 unfold Ϻ
 refine γ (bI T1 ?_)
 rw [if_neg (by rw [show cM (.ref s.heap.objs.size) (.ref I)=false by simp [cM,nI]];decide)]
 refine γ (W.self 0 _ _ _ st1 (γ (aq ?_)))
 unfold iy
 refine γ (nG T1 zaa ?_)
 show ψ _ A.in1 (specialOf (Α I) (b7 "__length_hint__") >>= _) _ _ _
 refine γ (nG T1 U5 ?_)
 (generalize hid:("list_reverseiterator.__length_hint__":String)=id0;wp_delta;rw [show splitId id0=some ("list_reverseiterator","__length_hint__") from by subst hid;decide +kernel];subst hid)
 refine γ (dj (b:=true) T1 (by rw [fU];kernel_rfl) (ζ ?_))
 rw [if_neg (by decide)]
 refine ζ ⟨dC mj _,codeAny_extend_loopS W hn _ nf _ n 0 _ _ _ rfl (ϡ _) st1 (υ _ rfl) (ItemsOf.nil P) fun s' acc c m hS' hacc=>?_⟩
 exact γ (wpAny_load hS' (ζ (hQ s' acc (Moved.drop_new (o:={ cls:=.type "list",data:=.seq ([]:List δ).toArray }) (tk:=s.toks) m (ς _)) hacc)))
theorem Xf {Q:δ->μ->Prop}(W:WalksS prog w A.in1.in1.in1 I fp wr G n P St) (hT:∀ i s,St i s->s.TypeIs (.ref I) "list_reverseiterator") (hst:St 0 s) (hfp:∀ b∈fp,b < s.heap.objs.size) (hI:I∈fp) (hn:n<=sizeLine)
  (hQ:∀ s' acc,Moved wr G s s'->ItemsOf P acc n->Q (.ref s'.heap.objs.size) { s' with heap:=s'.heap.push { cls:=.type "tuple",data:=.seq acc } }):ψ (Ι prog w) A (call (.type "tuple") [.ref I]) Q E s:=by
 refine callType_codes (Q₁:=fun obj s₁=>s₁.TypeIs obj "tuple"/\Q obj s₁) gn (PySem.F.typeCall_tuple_1 _) PySem.F.entry_object_init (nM ?_) fun obj s₁ h₁=>
  ⟨h₁.1,PySem.F.args_object_init_2 obj _,object_init_meets gn.init.lookup gn.made (by decide) prog w A.in1 _ s₁ ⟨h₁.1,rfl,h₁.2⟩⟩
 refine γ (m:=gF "tuple.__new__" ⟨[.type "tuple",.ref I],[]⟩) (aQ (PySem.F.newCall_tuple_1 _) (ζ ⟨dC mO _,bA PySem.F.entry_tuple_new ?_⟩))
 rw [ao mO _]
 have hsub:=sub_tuple_self
 have hinit:=init_tuple_lookup
 have hmh:=madeHere_tuple
 have T0:=hT 0 s hst
 wp_walk using bI T0,Zo W hT hst hfp hI hn
 intro s' acc m hacc
 show ψ _ _ (aK acc.toList.toArray >>= fun v=>ret v) _ _ _
 unfold aK
 rw [show acc.toList.toArray=acc by simp]
 exact γ (Ω (ζ ⟨⟨_,υ _ rfl,rfl⟩,hQ s' acc m hacc⟩) (show acc.size<=sizeLine by rw [hacc.1];exact hn))
end
end TS
namespace EV
open PySem PySem.Spec PyProof.Rows L2
theorem VR {xs:List V}{us:List δ}(h:Vals xs us):Vals xs.reverse us.reverse:=by
 induction h with
 | nil=>exact .nil
 | cons h t ih=>rw [fL,fL];exact ih.append (.cons h .nil)
section
variable {X:Cx}{z:Expr}{p p' pos pos':Pos}{t:TE}
theorem QF (hc:X.calm=true) (hg:Gl X "reversed") (hm:X.mg "reversed"=none) (hg':Gl X "tuple") (hm':X.mg "tuple"=none) (hs:notStar z=true) (h:PE X z t):
  PE X (.Call (.Name "tuple" p') [.Call (.Name "reversed" p) [z] [] pos] [] pos') (fun σ H Q=>t σ H fun v H1=>∃ l ys,v=.ref l/\SqL X.K H1 l ys/\∀ a,H1 a=none->Q (.ref a) (upd H1 a (.tup ys.reverse))):=by
 intro pJ s σ H Q I q
 refine bL (wJ I hg' hm' (u:=.type "tuple") (by decide +kernel) ?_ (by decide) (by decide))
 refine ϸ ?_ (zb rfl _ _) rfl
 rw [zb (x:=.Call (.Name "reversed" p) [z] [] pos) rfl]
 show ψ _ _ (spliced ((false,eval (.Call (.Name "reversed" p) [z] [] pos) X.env)::fB pos' (Ϣ [] X.env))) _ _ s
 refine ir (bL (wJ I hg hm (u:=.type "reversed") (by decide +kernel) ?_ (by decide) (by decide)))
 refine ϸ ?_ (zb hs _ _) rfl
 rw [zb hs]
 show ψ _ _ (spliced ((false,eval z X.env)::fB pos (Ϣ [] X.env))) _ _ s
 refine ir (thn (h pJ s σ H _ I q) fun u s1 ⟨x,H1,I1,r1,l,ys,e1,sq,q⟩=>iV ?_)
 subst e1
 cases r1
 obtain ⟨its,rv,pl,hz⟩:=I1.list sq
 have hlen:=rv.length
 refine call_reversed_list pl.isList (iV ?_)
 have hil:l < s1.heap.objs.size:=by obtain ⟨o,ho,_⟩:=pl.isList;exact ω ho
 have hh:X.A.handled=none:=I1.ok.hd hc
 have fr:=I1.hok.fresh (ς s1.heap.objs.size)
 have fp:=I1.fpOk (ς _) fr
 have W:=(Walks.listRev (prog:=X.prog) (w:=X.w) (A:=X.A.in1.in1.in1) (by simpa using hh) s1.heap.objs.size l (Υ hil) its.toArray).toS
 have hit:(s1.heap.push (revObj l ((its.toArray.size:Int) - 1))).IsRevIter s1.heap.objs.size l ((its.toArray.size:Int) - 1 - ((0:Nat):Int)):=⟨_,υ _ rfl,rfl,by simp [revObj]⟩
 refine TS.Xf W (fun i s st=>st.2.1.typeIs) ⟨ϡ _,hit,pl.isList.push _⟩ (fun b hb=>?_) (by simp) (by simp;omega) fun s' acc m hacc=>?_
 ·rcases Δ.mp hb with rfl | hb
  ·show _ < (s1.heap.push _).objs.size
   rw [lQ];exact fY _
  ·rw [ξ.mp hb]
   show _ < (s1.heap.push _).objs.size
   rw [lQ];exact dI hil
 ·obtain ⟨h2,g2,d2,t2,os2⟩:=s'
  have e1:g2=s1.gens:=m.gens
  have e2:d2=s1.drawn:=m.drawn
  have e3:os2=s1.os:=m.os
  subst e1 e2 e3
  obtain ⟨f0,f1,f2,f3,f4,f5⟩:=fp
  have I2:L2.Inv X pJ σ H1 { s1 with heap:=h2,toks:=t2 }:=I1.turned (t':=t2) (fun b o hb e=>m.heap b o (by simpa using hb) (η _ e)) f0 f1 f3 f4 f5
  have ea:acc.toList=its.reverse:=by
   apply lA
   intro j
   by_cases hj:j < acc.size
   ·have:=hacc.2 j _ (ϟ hj)
    have hn:acc.size=its.length:=by simpa using hacc.1
    rw [bH,ϟ hj,List.getElem?_reverse (by omega),<- this]
    simp
   ·have hn:acc.size=its.length:=by simpa using hacc.1
    rw [Ϲ (by rw [Φ];omega),Ϲ (by rw [oX];omega)]
  have rr:Vals ys.reverse acc.toList:=by rw [ea];exact VR rv
  have I3:=I2.laid (t':=t2) (a:=h2.objs.size) (o:=.tup ys.reverse) (h':=h2.push { cls:=.type "tuple",data:=.seq acc }) (fun b o e=>η _ e) (ς _)
   (show ObjOk X.prog X.w _ _ _ (.tup ys.reverse) from ⟨by rw [oX];exact hz,acc.toList,rr,by rw [oK];exact iR.new _ _⟩)
  exact ⟨.ref h2.objs.size,_,I3,rfl,q _ (I2.hok.fresh (ς _))⟩
end
section
variable {X:Cx}{Γ:Gm}{cx:Xp->Cf}{B:Tb}{k:Nat}{c:Cc}{z:Expr}{pos p p' pos':Pos}{a:E}
theorem zbh (ok:XOk Γ B (spN Γ cx) k X c) (hg:Gl X "reversed") (hm:X.mg "reversed"=none) (hg':Gl X "tuple") (hm':X.mg "tuple"=none) (hs:notStar z=true) (h:PE X z (TX Γ (cx noX) a)):
  PE X (.Call (.Name "tuple" p') [.Call (.Name "reversed" p) [z] [] pos] [] pos') (TX Γ (cx noX) (.bi .trev [a])):=by
 refine (QF ok.calm hg hm hg' hm' hs h).imp fun σ H Q h0=>goX h0 fun ρ S V g Hz hw w env kk=>⟨ρ,S,_,g,Hz,hw,w,env,fun x v H1 g1 S1 st w1 vx h1=>?_⟩
 obtain ⟨⟨d,fr⟩,eb,q⟩:=zQ h1
 have hr:=vx.rdb w1
 have eb:trevD (deref S1 x.1)=some (d,fr):=eb
 generalize deref S1 x.1=e at eb hr
 cases e with
 | lst l=>
  cases eb
  obtain ⟨p,ys,rfl,h2,h3⟩:=hr
  refine ⟨p,ys,rfl,SqL.of h2,fun t ht=>?_⟩
  have r1:=w1.notR ht
  refine kk (.tup l.reverse,.st) (.ref t) _ (g1.put t (.tup ys.reverse)) S1 (st.trans ((Step.of_same (zV ht) (Le.refl g1) (fun _ h=>.inl h) fun _ h=>.inl h).put r1 ht)) ((w1.laid ht).put zm r1 (w1.notA ht)) ?_ q
  exact ⟨t,ys.reverse,rfl,zm,(Qm h3).mono (Le.put r1)⟩
 | _=>cases eb
end
noncomputable def vY:Expr->Bool
 | .BoolOp _ _ _=>true
 | _=>false
section
variable {Γ:Gm}{B:Tb}{cx:Xp->Cf}{k:Nat}
theorem zbI {X:Cx}{x y z:Expr}{pos:Pos}{t a b:E}(hc:PT X x (TB Γ (cx noX) t)) (ha:PT X y (TB Γ (cx noX) a)) (hb:PT X z (TB Γ (cx noX) b)):PT X (.IfExp x y z pos) (TB Γ (cx noX) (.ite t a b)):=by
 intro pJ s σ H Q I ⟨ρ,S,V,g,Hz,hw,w,env,kk⟩
 have eq:iJ (.IfExp x y z pos) X.env (eval (.IfExp x y z pos) X.env)=(iJ x X.env (eval x X.env) >>= fun t=>if t=true then iJ y X.env (eval y X.env) else iJ z X.env (eval z X.env)):=rfl
 rw [eq]
 refine γ (thn (hc pJ s σ H (fun r H'=>if r=true then TB Γ (cx noX) a σ H' Q else TB Γ (cx noX) b σ H' Q) I ⟨ρ,S,_,g,Hz,hw,w,env,fun x H1 g1 S1 st w1 h=>?_⟩) fun r s1 ⟨H1,I1,q⟩=>?_)
 ·obtain ⟨r,e,q⟩:=xK h
  rw [e]
  show (if r=true then _ else _)
  cases r with
  | true=>exact iteT (tb_go st w1 env kk q)
  | false=>exact iteF (tb_go st w1 env kk q)
 ·cases r with
  | true=>rw [if_pos rfl] at q ⊢;exact ha pJ s1 σ H1 Q I1 q
  | false=>rw [if_neg Τ] at q ⊢;exact hb pJ s1 σ H1 Q I1 q
def SE (Γ:Gm) (B:Tb) (cx:Xp->Cf) (k:Nat) (e:E):Prop:=∀ (X:Cx) (c:Cc) (x:Expr),XOk Γ B (spN Γ cx) k X c->chkE B c e x=true->PE X x (TX Γ (cx noX) e)/\PT X x (TB Γ (cx noX) e)/\(vY x=true->PW X x (TB Γ (cx noX) e))
theorem only {X:Cx}{x:Expr}{e:E}(h:PE X x (TX Γ (cx noX) e)) (hn:vY x=false) (he:∀ whole,iJ x X.env whole=(do let v <- whole;standAt x.pos;holding [v] (truthy v))):PE X x (TX Γ (cx noX) e)/\PT X x (TB Γ (cx noX) e)/\(vY x=true->PW X x (TB Γ (cx noX) e)):=
 ⟨h,zbi h he,fun q=>by rw [hn] at q;cases q⟩
theorem none_of {X:Cx}{x:Expr}{e:E}(h:∀ ρ V S,¬ wpE (cx noX) ρ e V S):PE X x (TX Γ (cx noX) e)/\PT X x (TB Γ (cx noX) e)/\(vY x=true->PW X x (TB Γ (cx noX) e)):=
 ⟨fun _ _ _ _ _ _ ⟨_,_,_,_,_,q,_⟩=>(h _ _ _ q).elim,fun _ _ _ _ _ _ ⟨_,_,_,_,_,q,_⟩=>(h _ _ _ q).elim,fun _ _ _ _ _ _ _ _ ⟨_,_,_,_,_,q,_⟩=>(h _ _ _ q).elim⟩
theorem wW {c:Cc}:∀ {es:List E}{xs:List Expr},chkEs B c es xs=true->∀ z∈xs,notStar z=true
 | [],[],_=>fun z hz=>by cases hz
 | e::es,x::xs,h=>by
  have h:(chkE B c e x&&notStar x&&chkEs B c es xs)=true:=h
  rw [ε,ε] at h
  intro z hz
  rcases Δ.mp hz with rfl | hz
  ·exact h.1.2
  ·exact wW h.2 z hz
 | [],_::_,h=>nobE h
 | _::_,[],h=>nobE h
theorem Q3 {c:Cc}{lo hi st:Option Expr}{pos:Pos}:∀ (e:E),chkE B c e (.Slice lo hi st pos)=true->False
 | .box e,h=>nobE h
 | .var _,h=>nobE h
 | .con _,h=>nobE h
 | .glo _ _,h=>nobE h
 | .bin _ _ _,h=>nobE h
 | .neg _,h=>nobE h
 | .cmp _ _ _,h=>nobE h
 | .chn _ _ _ _ _,h=>nobE h
 | .not _,h=>nobE h
 | .and _ _,h=>nobE h
 | .or _ _,h=>nobE h
 | .ite _ _ _,h=>nobE h
 | .tup _,h=>nobE h
 | .lst _,h=>nobE h
 | .dic _ _ _,h=>nobE h
 | .sub _ _,h=>nobE h
 | .slc _ _ _,h=>nobE h
 | .bi _ _,h=>nobE h
 | .mth _ _ _,h=>nobE h
 | .call _ _,h=>nobE h
 | .callk _ _ _,h=>nobE h
 | .callv _ _,h=>nobE h
 | .comp _ _ _ _ _,h=>nobE h
 | .one _,h=>nobE h
 | .flip _,h=>nobE h
 | .dk1 _ _,h=>nobE h
 | .seq _,h=>nobE h
 | .rng _ _,h=>nobE h
 | .enum _,h=>nobE h
 | .zip _ _,h=>nobE h
 | .rev _,h=>nobE h
 | .dwn _,h=>nobE h
 | .keys _,h=>nobE h
 | .items _,h=>nobE h
theorem YK {c:Cc}{e:E}{y:Expr}(h:chkE B c e y=true):Zu y:=by
 cases y with
 | Slice lo hi st pos=>exact (Q3 e h).elim
 | _=>exact fun _ _=>rfl
theorem qe {iter:Expr}(h:wI iter=true) (env:Env) (v:δ):bU iter env v=pure v:=by
 cases iter <;> first | rfl | cases h
set_option tactic.hygienic true in
theorem zcF {X:Cx}{d:D}{q:Const}{n:Nat}{pos:Pos}{c:Cc}(h:chkE B c (.con d) (.Constant q n pos)=true):∃ t,PE X (.Constant q n pos) (tC t)/\∀ g,Has Γ g d t:=by
 cases q with
 | none=>cases d <;> first | exact ⟨_,zbO,fun _=>rfl⟩ | exact nobE h
 | bool b=>cases d <;> first | (rename_i b';have e:=eq_of_beq (show (b'==b)=true from h);subst e;exact ⟨_,pe_bl,fun _=>rfl⟩) | exact nobE h
 | int b=>cases d <;> first | (rename_i b';have e:=eq_of_beq (show (b'==b)=true from h);subst e;exact ⟨_,JL,fun _=>rfl⟩) | exact nobE h
 | str b=>cases d <;> first | (rename_i b';have e:=eq_of_beq (show (b'==b)=true from h);subst e;exact ⟨_,X4,fun _=>rfl⟩) | exact nobE h
 | _=>cases d <;> exact nobE h
theorem uQ {k0:Key}{ks:List Key}{keys:List (Option Expr)}(h:chkDk (k0::ks) keys=true):∃ q n p r,keys=some (.Constant q n p)::r/\(∀ X:Cx,PE X (.Constant q n p) (tC (kV k0)))/\chkDk ks r=true:=by
 cases keys with
 | nil=>exact nobE h
 | cons o r=>
  cases o with
  | none=>exact nobE h
  | some x=>
   have hb:Λ x.ctorIdx 19=true:=by revert h;cases x <;> first | exact non | exact fun _=>rfl
   revert h;apply uJ hb;clear hb;intro q n p h
   have h:(keyC k0 q&&chkDk ks r)=true:=h
   rw [ε] at h
   refine ⟨q,n,p,r,rfl,fun X=>?_,h.2⟩
   have h1:=h.1
   cases k0 with
   | inl i=>
    cases q with
    | int j=>rw [show i=j from eq_of_beq h1];exact JL
    | _=>exact nobE h1
   | inr i=>
    cases q with
    | str j=>rw [show i=j from eq_of_beq h1];exact X4
    | _=>exact nobE h1
theorem Vo:∀ {ks:List Key}{keys:List (Option Expr)},chkDk ks keys=true->ks.length=keys.length/\keys.all (·.isSome)=true
 | [],[],_=>⟨rfl,rfl⟩
 | [],_::_,h=>nobE h
 | k0::ks,keys,h=>by
  obtain ⟨q,n,p,r,rfl,_,hr⟩:=uQ h
  obtain ⟨a,b⟩:=Vo hr
  exact ⟨by simp [a],by simpa using b⟩
theorem Vn {c:Cc}:∀ {es:List E}{xs:List Expr},chkFs B c es xs=true->es.length=xs.length
 | [],[],_=>rfl
 | [],_::_,h=>nobE h
 | _::_,[],h=>nobE h
 | e::es,x::xs,h=>by
  have h:(chkE B c e x&&chkFs B c es xs)=true:=h
  rw [ε] at h
  simp [Vn h.2]
theorem z6 {a:Bool}(h:(a&&false)=true):False:=by
 rw [gO] at h
 cases h
theorem qp {c:Cc}:∀ {es:List E}{kws:List cW},chkKs B c es kws=true->es.length=kws.length
 | [],[],_=>rfl
 | [],_::_,h=>nobE h
 | _::_,[],h=>nobE h
 | e::es,⟨none,x,p⟩::kws,h=>nobE h
 | e::es,⟨some n,x,p⟩::kws,h=>by
  have h:(chkE B c e x&&chkKs B c es kws)=true:=h
  rw [ε] at h
  simp [qp h.2]
theorem vV:∀ {kws:List cW}{ks:List Str},ym kws=some ks->ks.length=kws.length
 | [],ks,h=>by cases h;rfl
 | ⟨none,x,p⟩::kws,ks,h=>by cases h
 | ⟨some n,x,p⟩::kws,ks,h=>by
  have h:(ym kws).map (n::·)=some ks:=h
  cases e:ym kws with
  | none=>rw [e] at h;cases h
  | some l=>
   rw [e] at h
   cases h
   simp [vV e]
def TXr (Γ:Gm) (cf:Cf):List E->TA
 | [e]=>fun σ H Q=>TX Γ cf e σ H fun v H1=>Q [v] H1
 | es=>TXs Γ cf es
theorem zU {b:BI}{n:Str}{c:Cc}{X:Cx}{es:List E}{args:List Expr}{p pos:Pos}(ok:XOk Γ B (spN Γ cx) k X c) (hi:isI b=false) (h:(n==biS b&&B.bare.contains n&&gloK (c.names.lookup n)&&chkEs B c es args&&!es.isEmpty)=true)
  (ih:chkEs B c es args=true->PA X args (TXr Γ (cx noX) es)):PE X (.Call (.Name n p) args [] pos) (TX Γ (cx noX) (.bi b es))/\PT X (.Call (.Name n p) args [] pos) (TB Γ (cx noX) (.bi b es))/\(vY (.Call (.Name n p) args [] pos)=true->PW X (.Call (.Name n p) args [] pos) (TB Γ (cx noX) (.bi b es))):=by
 simp only [ε] at h
 obtain ⟨⟨⟨⟨h1,h2⟩,h3⟩,h4⟩,h5⟩:=h
 have e1:=eq_of_beq h1
 subst e1
 refine only ?_ rfl fun _=>rfl
 have ih:=ih h4
 have hst:=wW h4
 cases args with
 | nil=>
  cases es with
  | nil=>cases h5
  | cons _ _=>exact nobE h4
 | cons x xs=>
  refine bi_pe ok (ok.glob h3) (ok.bare _ (ϐ.mp h2)) hst ih fun σ H Q h0=>goX h0 fun ρ S V g Hz hw w env kk=>?_
  match es,hw with
  | [],_=>cases h5
  | [e],hw=>exact ⟨ρ,S,_,g,Hz,hw,w,env,fun x v H1 g1 S1 st w1 vx h1=>by
   obtain ⟨⟨d,fr⟩,eb,q⟩:=zQ h1
   obtain ⟨r,r1,r2⟩:=Ku (X:=X) (Γ:=Γ) ok.hK ok.room.gd ok.u61 ok.calm hi eb
   exact ⟨r,r1,r2 S1 H1 g1 [v] Q w1 ⟨v,[],rfl,vx.rdb w1,rfl⟩ fun u H2 g2 st2 _ w2 vo=>kk _ u H2 g2 S1 (st.trans st2) w2 ((VN.of vo).back st) q⟩⟩
  | e1::e2::es,hw=>exact ⟨ρ,S,_,g,Hz,hw,w,env,fun ds vs H1 g1 S1 st w1 hv h1=>by
   obtain ⟨⟨d,fr⟩,eb,q⟩:=zQ h1
   obtain ⟨r,r1,r2⟩:=Ku (X:=X) (Γ:=Γ) ok.hK ok.room.gd ok.u61 ok.calm hi eb
   exact ⟨r,r1,r2 S1 H1 g1 vs Q w1 (XF w1 hv) fun u H2 g2 st2 _ w2 vo=>kk _ u H2 g2 S1 (st.trans st2) w2 ((VN.of vo).back st) q⟩⟩
theorem YX {f:Nat}{n:Str}{c:Cc}{X:Cx}{es:List E}{perm:List Nat}{kws:List cW}{p pos:Pos}(hm:Mono (cx noX)) (ok:XOk Γ B (spN Γ cx) k X c) (h:(B.fns[f]?==some n&&gloK (c.names.lookup n)&&zH n&&chkKs B c es kws&&(match ym kws,B.pars[f]? with
      | some ks,some ps=>perm.length==ps.length&&perm.all (· < ks.length)&&perm.map (fun i=>ks.getD i "")==ps&&ks.length==ps.length&&B.kws.contains (f,ks,perm)
      | _,_=>false))=true) (ih:chkKs B c es kws=true->PK X kws (TXs Γ (cx noX) es)):PE X (.Call (.Name n p) [] kws pos) (TX Γ (cx noX) (.callk f perm es)):=by
  simp only [ε] at h
  obtain ⟨⟨⟨⟨h1,h2⟩,h3⟩,h4⟩,h5⟩:=h
  cases hk:ym kws with
  | none=>rw [hk] at h5;cases h5
  | some ks=>
    cases hp:B.pars[f]? with
    | none=>rw [hk,hp] at h5;cases h5
    | some ps=>
      rw [hk,hp] at h5
      simp only [ε,beq_iff_eq,aV,decide_eq_true_eq] at h5
      obtain ⟨⟨⟨⟨g1,g2⟩,g3⟩,g4⟩,g5⟩:=h5
      exact Qd hm ok (eq_of_beq h1) (ok.glob h2) (zG h3).1 (ih h4) hk hp g1 g2 g3 g4 (ϐ.mp g5) (by rw [qp h4,vV hk])
theorem Jf {X:Cx}{c:Cc}{sc:dD}{js:List Nat}{xs:List Str}{t:T}{it elt:E}{ifs:List E}{cs:List Expr}{tgt iter y:Expr}{pos:Pos}(ok:XOk Γ B (spN Γ cx) k X c) (hs:chkS c sc js=true) (hn:wI iter=true) (nd:(xs++js.map (fun j=>c.N.getD j "")).Nodup)
  (hst:isNst t=false) (ht:nT t=xs.length) (hr:tIs t=ϵ xs.length) (hT:chkT (inner c sc xs js) t tgt=true) (hi:PI X tgt iter (TXi Γ (cx noX) it))
  (hz:∀ X,XOk Γ B (spN Γ cx) k X (inner c sc xs js)->PTs X cs (TXf Γ (cx noX) ifs)) (he:∀ X,XOk Γ B (spN Γ cx) k X (inner c sc xs js)->PE X y (TX Γ (cx noX) elt)):
  PE X (.ListComp y [⟨tgt,iter,cs,0⟩] sc pos) (TX Γ (cx noX) (.comp t js it ifs elt))/\CSet X (.ListComp y [⟨tgt,iter,cs,0⟩] sc pos) (TX Γ (cx noX) (.comp t js it ifs elt)):=by
 have okI:=fun C s3 H3 fp=>Y4 ok hs nd C s3 H3 fp
 refine Jk (Vg (xs:=xs) (tg:=tgOf X.K t) ok.calm (Ym ok hs) hi (fun C s3 H3 fp=>Xh (okI C s3 H3 fp) hT) (fun C s3 H3 fp=>hz _ (okI C s3 H3 fp)) (fun C s3 H3 fp=>he _ (okI C s3 H3 fp)) (qe hn X.env)) fun σ H Q h0=>goX h0 fun ρ S V g Hz hw w env kk=>?_
 refine Je (X:=X) (Qe:=fun D H'=>Q (.ref D) H') hst (fun i hi=>?_) ht ?_ hw w env fun ds Da H' g' S' st w' vx q=>kk _ _ H' g' S' st w' vx q
 ·rw [hr] at hi
  rw [ht]
  exact bG.mp hi
 ·exact nD.of_map _ (fun a b (h:c.N.getD a ""≠c.N.getD b "") e=>h (by rw [e])) (lw.mp nd).2.1
theorem ql {t:T}{js:List Nat}{it:E}{ifs:List E}{elt:E}{X:Cx}{c:Cc}{tgt iter y:Expr}{cs:List Expr}{kk:Int}{sc:dD}{pos:Pos}(hI:∀ X c tgt x,XOk Γ B (spN Γ cx) k X c->chkI B c it tgt x=true->PI X tgt x (TXi Γ (cx noX) it)) (hF:∀ X c xs,XOk Γ B (spN Γ cx) k X c->chkFs B c ifs xs=true->ifs.length<=1->PTs X xs (TXf Γ (cx noX) ifs)) (hE:∀ X c x,XOk Γ B (spN Γ cx) k X c->chkE B c elt x=true->PE X x (TX Γ (cx noX) elt))
    (ok:XOk Γ B (spN Γ cx) k X c) (h:chkE B c (.comp t js it ifs elt) (.ListComp y [⟨tgt,iter,cs,kk⟩] sc pos)=true):PE X (.ListComp y [⟨tgt,iter,cs,kk⟩] sc pos) (TX Γ (cx noX) (.comp t js it ifs elt))/\CSet X (.ListComp y [⟨tgt,iter,cs,kk⟩] sc pos) (TX Γ (cx noX) (.comp t js it ifs elt)):=by
  have h:(kk==0&&chkS c sc js&&chkI B c it tgt iter&&wI iter&&(match yr tgt with
    | some xs=>decide ((xs++js.map (fun j=>c.N.getD j "")).Nodup)&&nT t==xs.length&&tIs t==ϵ xs.length&&chkT (inner c sc xs js) t tgt&&chkE B (inner c sc xs js) elt y&&chkFs B (inner c sc xs js) ifs cs&&decide (ifs.length<=1)
    | none=>false))=true:=h
  simp only [ε] at h
  obtain ⟨⟨⟨⟨h1,h2⟩,h3⟩,h4⟩,h5⟩:=h
  have e1:=eq_of_beq h1
  subst e1
  cases ht:yr tgt with
  | none=>rw [ht] at h5;cases h5
  | some xs=>
    rw [ht] at h5
    simp only [ε] at h5
    obtain ⟨⟨⟨⟨⟨⟨h6,h7⟩,h8⟩,h9⟩,h10⟩,h11⟩,h12⟩:=h5
    have hst:isNst t=false:=by
      cases t with
      | nst i is=>
        exfalso
        cases q:asNst tgt with
        | none=>unfold chkT at h9;rw [if_pos (show isNst (.nst i is)=true from rfl),q] at h9;cases h9
        | some z=>rw [Yp q] at ht;cases ht
      | _=>rfl
    exact Jf ok h2 h4 (of_decide_eq_true h6) hst (eq_of_beq h7) (eq_of_beq h8) h9 (hI X c tgt iter ok h3) (fun X ok'=>hF X _ cs ok' h11 (of_decide_eq_true h12)) fun X ok'=>hE X _ y ok' h10
mutual
theorem sA (hcf:CfN B (cx noX)) (hm:Mono (cx noX)):∀ (e:E),SE Γ B cx k e
  | .var i=>fun X c x ok h=>by
    have hb:Λ x.ctorIdx 23=true:=by revert h;cases x <;> first | exact non | exact fun _=>rfl
    revert h;apply xG hb;clear hb;intro n pos h
    have h:(c.N[i]?==some n&&visK (c.names.lookup n)&&zH n)=true:=h
    rw [ε,ε] at h
    obtain ⟨h1,h2,_⟩:=zG h.2
    exact only (s_var (by rw [ok.N];exact eq_of_beq h.1.1) (ok.vis h.1.2) h1 h2) rfl fun _=>rfl
  | .con d=>fun X c x ok h=>by
    have hb:Λ x.ctorIdx 19=true:=by revert h;cases x <;> first | exact non | exact fun _=>rfl
    revert h;apply uJ hb;clear hb;intro q n pos h
    obtain ⟨t,h1,h2⟩:=zcF (Γ:=Γ) (X:=X) h
    exact only (s_con h1 h2 fun _ _ _ q=>q) rfl fun _=>rfl
  | .glo m d=>fun X c x ok h=>by
    have hb:Λ x.ctorIdx 23=true:=by revert h;cases x <;> first | exact non | exact fun _=>rfl
    revert h;apply xG hb;clear hb;intro n pos h
    have h:((match B.consts[m]? with
      | some p=>p.1==n&&sameD p.2 d
      | none=>false)&&gloK (c.names.lookup n)&&zH n)=true:=h
    rw [ε,ε] at h
    cases e:B.consts[m]? with
    | none=>rw [e] at h;cases h.1.1
    | some q=>
      rw [e] at h
      obtain ⟨y,d'⟩:=q
      have h1:(y==n&&sameD d' d)=true:=h.1.1
      rw [ε] at h1
      have e1:=eq_of_beq h1.1
      have e2:=ZR _ _ h1.2
      subst e1 e2
      obtain ⟨u,v,g1,g2,g3⟩:=ok.consts m y d' e
      exact only (s_con (X5 (ok.glob h.1.2) g1 g2 (zG h.2).1) g3 fun _ _ _ q=>q) rfl fun _=>rfl
  | .bin op a b=>fun X c x ok h=>by
    have hb:Λ x.ctorIdx 2=true:=by revert h;cases x <;> first | exact non | exact fun _=>rfl
    revert h;apply QX hb;clear hb;intro l op' r pos h
    have h:(op==op'&&chkE B c a l&&chkE B c b r)=true:=h
    rw [ε,ε] at h
    have e1:=eq_of_beq h.1.1
    subst e1
    exact only (s_bin ok.hK (sA hcf hm a X c l ok h.1.2).1 (sA hcf hm b X c r ok h.2).1) rfl fun _=>rfl
  | .neg a=>fun X c x ok h=>nobE h
  | .cmp op a b=>fun X c x ok h=>by
    have hb:Λ x.ctorIdx 15=true:=by revert h;cases x <;> first | exact non | exact fun _=>rfl
    revert h;apply Wg hb;clear hb;intro l ops rs pos h
    match ops,rs,h with
    | [op'],[r],h=>
      have h:(op==op'&&chkE B c a l&&chkE B c b r&&wI r)=true:=h
      rw [ε,ε,ε] at h
      have e1:=eq_of_beq h.1.1.1
      subst e1
      have hm':behindInMarks op r=false:=by cases r <;> first | rfl | cases h.2
      have:=s_cmp (pos:=pos) ok.hK ok.u61 (sA hcf hm a X c l ok h.1.1.2).1 (sA hcf hm b X c r ok h.1.2).1 hm'
      exact ⟨this.1,this.2,fun q=>by cases q⟩
    | [],_,h=>exact nobE h
    | [_],[],h=>exact nobE h
    | [_],_::_::_,h=>exact nobE h
    | _::_::_,_,h=>exact nobE h
  | .chn o1 o2 a b d=>fun X c x ok h=>nobE h
  | .not a=>fun X c x ok h=>by
    have hb:Λ x.ctorIdx 3=true:=by revert h;cases x <;> first | exact non | exact fun _=>rfl
    revert h;apply j5 hb;clear hb;intro op l pos h
    have h:(op==PySem.UnaryOp.Not&&chkE B c a l)=true:=h
    rw [ε] at h
    have e1:=eq_of_beq h.1
    subst e1
    obtain ⟨i1,i2,_⟩:=sA hcf hm a X c l ok h.2
    exact ⟨s_not i1,zbt i2,fun q=>by cases q⟩
  | .and a b=>fun X c x ok h=>by
    have hb:Λ x.ctorIdx 0=true:=by revert h;cases x <;> first | exact non | exact fun _=>rfl
    revert h;apply yM hb;clear hb;intro op vs pos h
    match vs,h with
    | l::r::rest,h=>
      have h:(op==nP.And&&chkE B c a l&&chkE B c b (.BoolOp .And (r::rest) pos))=true:=h
      rw [ε,ε] at h
      have e1:=eq_of_beq h.1.1
      subst e1
      obtain ⟨i1,i2,_⟩:=sA hcf hm a X c l ok h.1.2
      obtain ⟨j1,_,j3⟩:=sA hcf hm b X c _ ok h.2
      have w:=zbz i2 (j3 rfl)
      exact ⟨s_and i1 j1,w.pt,fun _=>w⟩
    | [],h=>exact nobE h
    | [_],h=>exact nobE h
  | .or a b=>fun X c x ok h=>by
    have hb:Λ x.ctorIdx 0=true:=by revert h;cases x <;> first | exact non | exact fun _=>rfl
    revert h;apply yM hb;clear hb;intro op vs pos h
    match vs,h with
    | l::r::rest,h=>
      have h:(op==nP.Or&&chkE B c a l&&chkE B c b (.BoolOp .Or (r::rest) pos))=true:=h
      rw [ε,ε] at h
      have e1:=eq_of_beq h.1.1
      subst e1
      obtain ⟨i1,i2,_⟩:=sA hcf hm a X c l ok h.1.2
      obtain ⟨j1,_,j3⟩:=sA hcf hm b X c _ ok h.2
      have w:=s_orW i2 (j3 rfl)
      exact ⟨s_or i1 j1,w.pt,fun _=>w⟩
    | [],h=>exact nobE h
    | [_],h=>exact nobE h
  | .one a=>fun X c x ok h=>by
    have hb:Λ x.ctorIdx 0=true:=by revert h;cases x <;> first | exact non | exact fun _=>rfl
    revert h;apply yM hb;clear hb;intro op vs pos h
    match vs,h with
    | [l],h=>
      obtain ⟨i1,i2,_⟩:=sA hcf hm a X c l ok (show chkE B c a l=true from h)
      exact ⟨JG i1,(Jv i2).pt,fun _=>Jv i2⟩
    | [],h=>exact nobE h
    | _::_::_,h=>exact nobE h
  | .ite t a b=>fun X c x ok h=>by
    have hb:Λ x.ctorIdx 5=true:=by revert h;cases x <;> first | exact non | exact fun _=>rfl
    revert h;apply QW hb;clear hb;intro l y z pos h
    have h:(chkE B c t l&&chkE B c a y&&chkE B c b z)=true:=h
    rw [ε,ε] at h
    obtain ⟨_,i2,_⟩:=sA hcf hm t X c l ok h.1.1
    obtain ⟨j1,j2,_⟩:=sA hcf hm a X c y ok h.1.2
    obtain ⟨k1,k2,_⟩:=sA hcf hm b X c z ok h.2
    exact ⟨s_ite i2 j1 k1,zbI i2 j2 k2,fun q=>by cases q⟩
  | .tup es=>fun X c x ok h=>by
    have hb:Λ x.ctorIdx 25=true:=by revert h;cases x <;> first | exact non | exact fun _=>rfl
    revert h;apply QS hb;clear hb;intro xs kk pos h
    exact only (s_tup (sEs hcf hm es X c xs ok h)) rfl fun _=>rfl
  | .lst es=>fun X c x ok h=>by
    have hb:Λ x.ctorIdx 24=true:=by revert h;cases x <;> first | exact non | exact fun _=>rfl
    revert h;apply ofList hb;clear hb;intro xs pos h
    exact only (s_lst (sEs hcf hm es X c xs ok h)) rfl fun _=>rfl
  | .sub a i=>fun X c x ok h=>by
    have hb:Λ x.ctorIdx 21=true:=by revert h;cases x <;> first | exact non | exact fun _=>rfl
    revert h;apply vO hb;clear hb;intro l y pos h
    have h:(chkE B c a l&&chkE B c i y)=true:=h
    rw [ε] at h
    exact only (s_sub ok.hK ok.u1 (sA hcf hm a X c l ok h.1).1 (sA hcf hm i X c y ok h.2).1 (YK h.2)) rfl fun _=>rfl
  | .slc a lo hi=>fun X c x ok h=>by
    have hb:Λ x.ctorIdx 21=true:=by revert h;cases x <;> first | exact non | exact fun _=>rfl
    revert h;apply vO hb;clear hb;intro l y pos h
    have hb:Λ y.ctorIdx 26=true:=by revert h;cases y <;> first | exact non | exact fun _=>rfl
    revert h;apply QT hb;clear hb;intro lo' hi' st p2 h
    cases st with
    | none=>
      have h:(chkE B c a l&&chkO B c lo lo'&&chkO B c hi hi')=true:=h
      rw [ε,ε] at h
      exact only (s_slc ok.hK (sA hcf hm a X c l ok h.1.1).1 (sO hcf hm lo X c lo' ok h.1.2) (sO hcf hm hi X c hi' ok h.2)) rfl fun _=>rfl
    | some _=>exact nobE h
  | .bi b es=>fun X c x ok h=>by
    have hb:Λ x.ctorIdx 16=true:=by revert h;cases x <;> first | exact non | exact fun _=>rfl
    revert h;apply uK hb;clear hb;intro f args kws pos h
    have hb:Λ f.ctorIdx 23=true:=by revert h;cases f <;> first | exact non | exact fun _=>rfl
    revert h;apply xG hb;clear hb;intro n p h
    cases kws with
    | nil=>
      cases b with
      | isinst t=>
        match es,args,h with
        | [],_,h=>exact (z6 (show (_&&false)=true from h)).elim
        | _::_::_,_,h=>exact (z6 (show (_&&false)=true from h)).elim
        | [_],[],h=>exact (z6 (show (_&&false)=true from h)).elim
        | [_],[_],h=>exact (z6 (show (_&&false)=true from h)).elim
        | [_],_::z::_::_,h=>cases z <;> exact (z6 (show (_&&false)=true from h)).elim
        | [e],[y,z],h=>
          cases z with
          | Name z pz=>
            have h:(n==("isinstance":Str)&&B.bare.contains n&&B.bare.contains (tyN t)&&gloK (c.names.lookup n)&&(chkE B c e y&&notStar y&&z==tyN t&&gloK (c.names.lookup z)))=true:=h
            simp only [ε] at h
            obtain ⟨⟨⟨⟨h1,h2⟩,h3⟩,h4⟩,⟨⟨h5,h6⟩,h7⟩,h8⟩:=h
            have e1:=eq_of_beq h1
            have e2:=eq_of_beq h7
            subst e1 e2
            exact only (s_is ok (ok.glob h4) (ok.bare _ (ϐ.mp h2)) (ok.glob h8) (ok.bare _ (ϐ.mp h3)) h6 (sA hcf hm e X c y ok h5).1) rfl fun _=>rfl
          | _=>exact (z6 (show (_&&false)=true from h)).elim
      | len=>exact zU ok rfl (show (n==biS .len&&B.bare.contains n&&gloK (c.names.lookup n)&&chkEs B c es args&&!es.isEmpty)=true from h) fun q=>sRs hcf hm es X c args ok q
      | abs=>exact zU ok rfl (show (n==biS .abs&&B.bare.contains n&&gloK (c.names.lookup n)&&chkEs B c es args&&!es.isEmpty)=true from h) fun q=>sRs hcf hm es X c args ok q
      | int=>exact zU ok rfl (show (n==biS .int&&B.bare.contains n&&gloK (c.names.lookup n)&&chkEs B c es args&&!es.isEmpty)=true from h) fun q=>sRs hcf hm es X c args ok q
      | str=>exact zU ok rfl (show (n==biS .str&&B.bare.contains n&&gloK (c.names.lookup n)&&chkEs B c es args&&!es.isEmpty)=true from h) fun q=>sRs hcf hm es X c args ok q
      | tuple=>exact zU ok rfl (show (n==biS .tuple&&B.bare.contains n&&gloK (c.names.lookup n)&&chkEs B c es args&&!es.isEmpty)=true from h) fun q=>sRs hcf hm es X c args ok q
      | list=>exact zU ok rfl (show (n==biS .list&&B.bare.contains n&&gloK (c.names.lookup n)&&chkEs B c es args&&!es.isEmpty)=true from h) fun q=>sRs hcf hm es X c args ok q
      | sum=>exact zU ok rfl (show (n==biS .sum&&B.bare.contains n&&gloK (c.names.lookup n)&&chkEs B c es args&&!es.isEmpty)=true from h) fun q=>sRs hcf hm es X c args ok q
      | all=>exact zU ok rfl (show (n==biS .all&&B.bare.contains n&&gloK (c.names.lookup n)&&chkEs B c es args&&!es.isEmpty)=true from h) fun q=>sRs hcf hm es X c args ok q
      | any=>exact zU ok rfl (show (n==biS .any&&B.bare.contains n&&gloK (c.names.lookup n)&&chkEs B c es args&&!es.isEmpty)=true from h) fun q=>sRs hcf hm es X c args ok q
      | min2=>exact zU ok rfl (show (n==biS .min2&&B.bare.contains n&&gloK (c.names.lookup n)&&chkEs B c es args&&!es.isEmpty)=true from h) fun q=>sRs hcf hm es X c args ok q
      | max2=>exact zU ok rfl (show (n==biS .max2&&B.bare.contains n&&gloK (c.names.lookup n)&&chkEs B c es args&&!es.isEmpty)=true from h) fun q=>sRs hcf hm es X c args ok q
      | sorted=>exact zU ok rfl (show (n==biS .sorted&&B.bare.contains n&&gloK (c.names.lookup n)&&chkEs B c es args&&!es.isEmpty)=true from h) fun q=>sRs hcf hm es X c args ok q
      | repr=>exact zU ok rfl (show (n==biS .repr&&B.bare.contains n&&gloK (c.names.lookup n)&&chkEs B c es args&&!es.isEmpty)=true from h) fun q=>sRs hcf hm es X c args ok q
      | dict=>exact zU ok rfl (show (n==biS .dict&&B.bare.contains n&&gloK (c.names.lookup n)&&chkEs B c es args&&!es.isEmpty)=true from h) fun q=>sRs hcf hm es X c args ok q
      | sset=>
        match es,args,h with
        | [],_,h=>exact (z6 (show (_&&false)=true from h)).elim
        | _::_::_,_,h=>exact (z6 (show (_&&false)=true from h)).elim
        | [_],[],h=>exact (z6 (show (_&&false)=true from h)).elim
        | [_],_::_::_,h=>exact (z6 (show (_&&false)=true from h)).elim
        | [e],[z],h=>
          have h9:(n==("sorted":Str)&&B.bare.contains n&&gloK (c.names.lookup n)&&(match wC z with
            | some (y,u)=>y==("set":Str)&&B.bare.contains y&&gloK (c.names.lookup y)&&chkE B c e u&&notStar u
            | none=>false))=true:=h
          cases hz:wC z with
          | none=>rw [hz] at h9;exact (z6 h9).elim
          | some q=>
            obtain ⟨y,u⟩:=q
            rw [hz] at h9
            obtain ⟨py,pu,rfl⟩:=jQ hz
            simp only [ε] at h9
            obtain ⟨⟨⟨h1,h2⟩,h3⟩,⟨⟨⟨h4,h5⟩,h6⟩,h7⟩,h8⟩:=h9
            have e1:=eq_of_beq h1
            have e2:=eq_of_beq h4
            subst e1 e2
            exact only (zbj ok (ok.glob h6) (ok.bare _ (ϐ.mp h5)) (ok.glob h3) (ok.bare _ (ϐ.mp h2)) h8 (sA hcf hm e X c u ok h7).1) rfl fun _=>rfl
      | lset=>exact nobE h
      | trev=>
        match es,args,h with
        | [],_,h=>exact (z6 (show (_&&false)=true from h)).elim
        | _::_::_,_,h=>exact (z6 (show (_&&false)=true from h)).elim
        | [_],[],h=>exact (z6 (show (_&&false)=true from h)).elim
        | [_],_::_::_,h=>exact (z6 (show (_&&false)=true from h)).elim
        | [e],[z],h=>
          have h9:(n==("tuple":Str)&&B.bare.contains n&&gloK (c.names.lookup n)&&(match wC z with
            | some (y,u)=>y==("reversed":Str)&&B.bare.contains y&&gloK (c.names.lookup y)&&chkE B c e u&&notStar u
            | none=>false))=true:=h
          cases hz:wC z with
          | none=>rw [hz] at h9;exact (z6 h9).elim
          | some q=>
            obtain ⟨y,u⟩:=q
            rw [hz] at h9
            obtain ⟨py,pu,rfl⟩:=jQ hz
            simp only [ε] at h9
            obtain ⟨⟨⟨h1,h2⟩,h3⟩,⟨⟨⟨h4,h5⟩,h6⟩,h7⟩,h8⟩:=h9
            have e1:=eq_of_beq h1
            have e2:=eq_of_beq h4
            subst e1 e2
            exact only (zbh ok (ok.glob h6) (ok.bare _ (ϐ.mp h5)) (ok.glob h3) (ok.bare _ (ϐ.mp h2)) h8 (sA hcf hm e X c u ok h7).1) rfl fun _=>rfl
    | cons _ _=>exact nobE h
  | .call f es=>fun X c x ok h=>by
    have hb:Λ x.ctorIdx 16=true:=by revert h;cases x <;> first | exact non | exact fun _=>rfl
    revert h;apply uK hb;clear hb;intro q args kws pos h
    have hb:Λ q.ctorIdx 23=true:=by revert h;cases q <;> first | exact non | exact fun _=>rfl
    revert h;apply xG hb;clear hb;intro n p h
    cases kws with
    | nil=>
      have h:(B.fns[f]?==some n&&gloK (c.names.lookup n)&&zH n&&chkEs B c es args&&!es.isEmpty)=true:=h
      simp only [ε] at h
      obtain ⟨⟨⟨⟨h1,h2⟩,h3⟩,h4⟩,h5⟩:=h
      cases args with
      | nil=>
        cases es with
        | nil=>cases h5
        | cons _ _=>exact nobE h4
      | cons y ys=>exact only (s_call hcf ok (eq_of_beq h1) (ok.glob h2) (zG h3).1 (wW h4) (sEs hcf hm es X c (y::ys) ok h4)) rfl fun _=>rfl
    | cons _ _=>exact nobE h
  | .callk f perm es=>fun X c x ok h=>by
    have hb:Λ x.ctorIdx 16=true:=by revert h;cases x <;> first | exact non | exact fun _=>rfl
    revert h;apply uK hb;clear hb;intro q args kws pos h
    have hb:Λ q.ctorIdx 23=true:=by revert h;cases q <;> first | exact non | exact fun _=>rfl
    revert h;apply xG hb;clear hb;intro n p h
    cases args with
    | nil=>
      refine only (YX hm ok ?_ fun q=>sKs hcf hm es X c kws ok q) rfl fun _=>rfl
      cases kws <;> exact h
    | cons _ _=>exact nobE h
  | .comp t js it ifs elt=>fun X c x ok h=>by
    have hb:Λ x.ctorIdx 8=true:=by revert h;cases x <;> first | exact non | exact fun _=>rfl
    revert h;apply uI hb;clear hb;intro y gens sc pos h
    match gens,h with
    | [⟨tgt,iter,cs,kk⟩],h=>exact only (ql (fun X c tgt x ok q=>sI hcf hm it X c tgt x ok q) (fun X c xs ok q l=>sFs hcf hm ifs X c xs ok q l) (fun X c x ok q=>(sA hcf hm elt X c x ok q).1) ok h).1 rfl fun _=>rfl
    | [],h=>exact nobE h
    | ⟨_,_,_,_⟩::⟨_,_,_,_⟩::_,h=>exact nobE h
  | .box e=>fun X c x ok h=>by
    have h:(XN x&&chkE B c e x)=true:=h
    rw [ε] at h
    have pe:PE X x (TX Γ (cx noX) (.box e)):=((sA hcf hm e X c x ok h.2).1).imp fun σ H Q ⟨ρ,S,V,g,Hz,hw,w,env,kk⟩=>⟨ρ,S,_,g,Hz,hw,w,env,fun y v H1 g1 S1 st w1 vx q=>by
      obtain ⟨d,k⟩:=y
      cases k with
      | fr=>
        obtain ⟨g2,s2,w2,h2⟩:=boxed st w1 vx
        exact kk (.ref S1.length,.st) v H1 g2 _ s2 w2 h2 q
      | _=>exact q.elim⟩
    have hp:=h.1
    cases x <;> first | exact only pe rfl fun _=>rfl | exact nobE hp
  | .dic tk ks es=>fun X c x ok h=>nobE h
  | .mth m o es=>fun X c x ok h=>nobE h
  | .flip e=>fun X c x ok h=>nobE h
  | .dk1 a b=>fun X c x ok h=>by
    have hb:Λ x.ctorIdx 6=true:=by revert h;cases x <;> first | exact non | exact fun _=>rfl
    revert h;apply zb4 hb;clear hb;intro keys vals pos h
    match keys,vals,h with
    | [some k],[v],h=>
      have h:(chkE B c a k&&chkE B c b v)=true:=h
      rw [ε] at h
      exact only (Qc (by have:=ok.u61;omega) (sA hcf hm a X c k ok h.1).1 (sA hcf hm b X c v ok h.2).1) rfl fun _=>rfl
  | .callv i es=>fun X c x ok h=>nobE h
  | .seq _=>fun X c x ok h=>none_of fun _ _ _ q=>q
  | .rng _ _=>fun X c x ok h=>none_of fun _ _ _ q=>q
  | .enum _=>fun X c x ok h=>none_of fun _ _ _ q=>q
  | .zip _ _=>fun X c x ok h=>none_of fun _ _ _ q=>q
  | .rev _=>fun X c x ok h=>none_of fun _ _ _ q=>q
  | .dwn _=>fun X c x ok h=>none_of fun _ _ _ q=>q
  | .keys _=>fun X c x ok h=>none_of fun _ _ _ q=>q
  | .items _=>fun X c x ok h=>none_of fun _ _ _ q=>q
theorem sRs (hcf:CfN B (cx noX)) (hm:Mono (cx noX)):∀ (es:List E) (X:Cx) (c:Cc) (xs:List Expr),XOk Γ B (spN Γ cx) k X c->chkEs B c es xs=true->PA X xs (TXr Γ (cx noX) es)
 | [],X,c,xs,ok,h=>by
  cases xs with
  | nil=>exact s_nil
  | cons _ _=>exact nobE h
 | [e],X,c,xs,ok,h=>by
  cases xs with
  | nil=>exact nobE h
  | cons x xs=>
   have h:(chkE B c e x&&notStar x&&chkEs B c [] xs)=true:=h
   rw [ε,ε] at h
   cases xs with
   | nil=>exact zN (sA hcf hm e X c x ok h.1.1).1 yx (zb h.1.2 _ _)
   | cons _ _=>exact nobE h.2
 | e::f::es,X,c,xs,ok,h=>by
  cases xs with
  | nil=>exact nobE h
  | cons x xs=>
   have h:(chkE B c e x&&notStar x&&chkEs B c (f::es) xs)=true:=h
   rw [ε,ε] at h
   exact Jw h.1.2 (sA hcf hm e X c x ok h.1.1).1 (sEs hcf hm (f::es) X c xs ok h.2)
theorem sEs (hcf:CfN B (cx noX)) (hm:Mono (cx noX)):∀ (es:List E) (X:Cx) (c:Cc) (xs:List Expr),XOk Γ B (spN Γ cx) k X c->chkEs B c es xs=true->PA X xs (TXs Γ (cx noX) es)
 | [],X,c,xs,ok,h=>by
  cases xs with
  | nil=>exact s_nil
  | cons _ _=>exact nobE h
 | e::es,X,c,xs,ok,h=>by
  cases xs with
  | nil=>exact nobE h
  | cons x xs=>
   have h:(chkE B c e x&&notStar x&&chkEs B c es xs)=true:=h
   rw [ε,ε] at h
   exact Jw h.1.2 (sA hcf hm e X c x ok h.1.1).1 (sEs hcf hm es X c xs ok h.2)
theorem sPs {pos:Pos}(hcf:CfN B (cx noX)) (hm:Mono (cx noX)):∀ (es:List E) (X:Cx) (c:Cc) (vals:List Expr) (ks:List Key) (keys:List (Option Expr)),XOk Γ B (spN Γ cx) k X c->chkFs B c es vals=true->chkDk ks keys=true->ks.length=es.length->PPd X pos keys vals ks (TXs Γ (cx noX) es)
 | [],X,c,vals,ks,keys,ok,h,hk,hl=>by
  cases vals with
  | cons _ _=>exact nobE h
  | nil=>
   cases ks with
   | cons _ _=>cases hl
   | nil=>
    cases keys with
    | cons _ _=>exact nobE hk
    | nil=>exact zbr
 | a::es,X,c,vals,ks,keys,ok,h,hk,hl=>by
  cases vals with
  | nil=>exact nobE h
  | cons x vals=>
   have h:(chkE B c a x&&chkFs B c es vals)=true:=h
   rw [ε] at h
   cases ks with
   | nil=>cases hl
   | cons k0 ks=>
    obtain ⟨q,n,p,r,rfl,hc,hr⟩:=uQ hk
    exact K9 (hc X) (sA hcf hm a X c x ok h.1).1 (sPs hcf hm es X c vals ks r ok h.2 hr (by simpa using hl))
theorem sKs (hcf:CfN B (cx noX)) (hm:Mono (cx noX)):∀ (es:List E) (X:Cx) (c:Cc) (kws:List cW),XOk Γ B (spN Γ cx) k X c->chkKs B c es kws=true->PK X kws (TXs Γ (cx noX) es)
 | [],X,c,xs,ok,h=>by
  cases xs with
  | nil=>exact zbu
  | cons _ _=>exact nobE h
 | e::es,X,c,xs,ok,h=>by
  cases xs with
  | nil=>exact nobE h
  | cons q xs=>
   obtain ⟨n,x,kp⟩:=q
   cases n with
   | none=>exact nobE h
   | some n=>
    have h:(chkE B c e x&&chkKs B c es xs)=true:=h
    rw [ε] at h
    exact Qa (sA hcf hm e X c x ok h.1).1 (sKs hcf hm es X c xs ok h.2)
theorem sI (hcf:CfN B (cx noX)) (hm:Mono (cx noX)):∀ (e:E) (X:Cx) (c:Cc) (tgt x:Expr),XOk Γ B (spN Γ cx) k X c->chkI B c e tgt x=true->PI X tgt x (TXi Γ (cx noX) e)
 | .seq e,X,c,tgt,x,ok,h=>s_seq ok.hK (sA hcf hm e X c x ok h).1
 | .keys e,X,c,tgt,x,ok,h=>zbv (sA hcf hm e X c x ok h).1
 | .rng none hi,X,c,tgt,x,ok,h=>by
  have hb:Λ x.ctorIdx 16=true:=by revert h;cases x <;> first | exact non | exact fun _=>rfl
  revert h;apply uK hb;clear hb;intro q args kws pos h
  have hb:Λ q.ctorIdx 23=true:=by revert h;cases q <;> first | exact non | exact fun _=>rfl
  revert h;apply xG hb;clear hb;intro n p h
  cases kws with
  | nil=>
   match args,h with
   | [y],h=>
    have h:(n==("range":Str)&&B.bare.contains n&&gloK (c.names.lookup n)&&chkE B c hi y&&notStar y)=true:=h
    simp only [ε] at h
    obtain ⟨⟨⟨⟨h1,h2⟩,h3⟩,h4⟩,h5⟩:=h
    have e1:=eq_of_beq h1
    subst e1
    exact zbo (ok.glob h3) (ok.bare _ (ϐ.mp h2)) h5 (sA hcf hm hi X c y ok h4).1
   | [],h=>exact nobE h
   | _::_::_,h=>exact nobE h
  | cons _ _=>rcases args with _ | ⟨_,_ | ⟨_,_ | ⟨_,_⟩⟩⟩ <;> exact nobE h
 | .rng (some lo) hi,X,c,tgt,x,ok,h=>by
  have hb:Λ x.ctorIdx 16=true:=by revert h;cases x <;> first | exact non | exact fun _=>rfl
  revert h;apply uK hb;clear hb;intro q args kws pos h
  have hb:Λ q.ctorIdx 23=true:=by revert h;cases q <;> first | exact non | exact fun _=>rfl
  revert h;apply xG hb;clear hb;intro n p h
  cases kws with
  | nil=>
   match args,h with
   | [x,y],h=>
    have h:(n==("range":Str)&&B.bare.contains n&&gloK (c.names.lookup n)&&chkE B c lo x&&notStar x&&chkE B c hi y&&notStar y)=true:=h
    simp only [ε] at h
    obtain ⟨⟨⟨⟨⟨⟨h1,h2⟩,h3⟩,h4⟩,h5⟩,h6⟩,h7⟩:=h
    have e1:=eq_of_beq h1
    subst e1
    exact zbn (ok.glob h3) (ok.bare _ (ϐ.mp h2)) h5 h7 (sA hcf hm lo X c x ok h4).1 (sA hcf hm hi X c y ok h6).1
   | [],h=>exact nobE h
   | [_],h=>exact nobE h
   | _::_::_::_,h=>exact nobE h
  | cons _ _=>rcases args with _ | ⟨_,_ | ⟨_,_ | ⟨_,_⟩⟩⟩ <;> exact nobE h
 | .enum e,X,c,tgt,x,ok,h=>by
  have hb:Λ x.ctorIdx 16=true:=by revert h;cases x <;> first | exact non | exact fun _=>rfl
  revert h;apply uK hb;clear hb;intro q args kws pos h
  have hb:Λ q.ctorIdx 23=true:=by revert h;cases q <;> first | exact non | exact fun _=>rfl
  revert h;apply xG hb;clear hb;intro n p h
  cases kws with
  | nil=>
   match args,h with
   | [y],h=>
    have h:(J9 tgt&&n==("enumerate":Str)&&B.bare.contains n&&gloK (c.names.lookup n)&&chkE B c e y&&notStar y)=true:=h
    simp only [ε] at h
    obtain ⟨⟨⟨⟨⟨h0,h1⟩,h2⟩,h3⟩,h4⟩,h5⟩:=h
    have e1:=eq_of_beq h1
    subst e1
    cases tgt with
    | Tuple elts kk tp=>exact zbx ok.hK (ok.glob h3) (ok.bare _ (ϐ.mp h2)) h5 (sA hcf hm e X c y ok h4).1
    | _=>exact nobE h0
   | [],h=>exact nobE h
   | _::_::_,h=>exact nobE h
  | cons _ _=>rcases args with _ | ⟨_,_ | ⟨_,_⟩⟩ <;> exact nobE h
 | .var _,X,c,tgt,x,ok,h=>nobE h
 | .con _,X,c,tgt,x,ok,h=>nobE h
 | .glo _ _,X,c,tgt,x,ok,h=>nobE h
 | .bin _ _ _,X,c,tgt,x,ok,h=>nobE h
 | .neg _,X,c,tgt,x,ok,h=>nobE h
 | .cmp _ _ _,X,c,tgt,x,ok,h=>nobE h
 | .chn _ _ _ _ _,X,c,tgt,x,ok,h=>nobE h
 | .not _,X,c,tgt,x,ok,h=>nobE h
 | .and _ _,X,c,tgt,x,ok,h=>nobE h
 | .or _ _,X,c,tgt,x,ok,h=>nobE h
 | .ite _ _ _,X,c,tgt,x,ok,h=>nobE h
 | .tup _,X,c,tgt,x,ok,h=>nobE h
 | .lst _,X,c,tgt,x,ok,h=>nobE h
 | .dic _ _ _,X,c,tgt,x,ok,h=>nobE h
 | .sub _ _,X,c,tgt,x,ok,h=>nobE h
 | .slc _ _ _,X,c,tgt,x,ok,h=>nobE h
 | .bi _ _,X,c,tgt,x,ok,h=>nobE h
 | .mth _ _ _,X,c,tgt,x,ok,h=>nobE h
 | .call _ _,X,c,tgt,x,ok,h=>nobE h
 | .callk _ _ _,X,c,tgt,x,ok,h=>nobE h
 | .callv _ _,X,c,tgt,x,ok,h=>nobE h
 | .comp _ _ _ _ _,X,c,tgt,x,ok,h=>nobE h
 | .box _,X,c,tgt,x,ok,h=>nobE h
 | .one _,X,c,tgt,x,ok,h=>nobE h
 | .flip _,X,c,tgt,x,ok,h=>nobE h
 | .dk1 _ _,X,c,tgt,x,ok,h=>nobE h
 | .zip _ _,X,c,tgt,x,ok,h=>nobE h
 | .dwn es,X,c,tgt,x,ok,h=>nobE h
 | .rev hi,X,c,tgt,x,ok,h=>nobE h
 | .items e,X,c,tgt,x,ok,h=>nobE h
theorem sFs (hcf:CfN B (cx noX)) (hm:Mono (cx noX)):∀ (es:List E) (X:Cx) (c:Cc) (xs:List Expr),XOk Γ B (spN Γ cx) k X c->chkFs B c es xs=true->es.length<=1->PTs X xs (TXf Γ (cx noX) es)
 | [],X,c,xs,ok,h,_=>by
  cases xs with
  | nil=>exact s_fn
  | cons _ _=>exact nobE h
 | [e],X,c,xs,ok,h,_=>by
  cases xs with
  | nil=>exact nobE h
  | cons x xs=>
   have h:(chkE B c e x&&chkFs B c [] xs)=true:=h
   rw [ε] at h
   cases xs with
   | nil=>exact s_f1 (sA hcf hm e X c x ok h.1).2.1
   | cons _ _=>cases (show false=true from h.2)
 | _::_::_,X,c,xs,ok,h,hl=>by
  exfalso
  simp at hl
theorem sO (hcf:CfN B (cx noX)) (hm:Mono (cx noX)):∀ (o:Option E) (X:Cx) (c:Cc) (x:Option Expr),XOk Γ B (spN Γ cx) k X c->chkO B c o x=true->PO X x (TXo Γ (cx noX) o)
 | none,X,c,x,ok,h=>by
  cases x with
  | none=>exact s_poN
  | some _=>exact nobE h
 | some o,X,c,x,ok,h=>by
  cases x with
  | none=>exact nobE h
  | some x=>exact s_po (sA hcf hm o X c x ok h).1
end
theorem sCS (hcf:CfN B (cx noX)) (hm:Mono (cx noX)) {t:T}{js:List Nat}{it:E}{ifs:List E}{elt:E}{X:Cx}{c:Cc}{x:Expr}(ok:XOk Γ B (spN Γ cx) k X c) (h:chkE B c (.comp t js it ifs elt) x=true):CSet X x (TX Γ (cx noX) (.comp t js it ifs elt)):=by
 have hb:Λ x.ctorIdx 8=true:=by revert h;cases x <;> first | exact non | exact fun _=>rfl
 revert h;apply uI hb;clear hb;intro y gens sc pos h
 match gens,h with
 | [⟨tgt,iter,cs,kk⟩],h=>exact (ql (sI hcf hm it) (sFs hcf hm ifs) (fun X c x ok q=>(sA hcf hm elt X c x ok q).1) ok h).2
 | [],h=>exact nobE h
 | ⟨_,_,_,_⟩::⟨_,_,_,_⟩::_,h=>exact nobE h
end
section
variable {X:Cx}{Γ:Gm}{Hz H:Hp}{gz g:G}{ρ:List Slot}{σ:L2.St}{S:Store}{x:Expr}{a:Addr}
theorem EnvO.updOw {i:Nat}{c c':D}{o':HO}(env:EnvO Γ Hz H g ρ σ) (hi:ρ[i]?=some (.ow c)) (ha:σ[i]?=some (some (.ref a))) (hc:zM Γ (upd H a o') g a c') (hin:isIns c'=false):EnvO Γ Hz (upd H a o') g (ρ.set i (.ow c')) σ:=by
 obtain ⟨a',e1,e2,e3,e4,e5,e6⟩:=env.ow i c hi
 rw [ha] at e1
 cases e1
 refine ⟨by rw [ϱ];exact env.len,fun j e q=>?_,fun j e q=>?_,fun j j' e e' b q1 q2 q3 q4=>?_⟩
 ·rcases zq q with ⟨rfl,h1,h2⟩ | ⟨h1,h2⟩
  ·cases h2
  ·exact env.sh j e h2
 ·rcases zq q with ⟨rfl,h1,h2⟩ | ⟨h1,h2⟩
  ·cases h2
   exact ⟨a,ha,e2,e3,e4,hc,hin⟩
  ·obtain ⟨b,f1,f2,f3,f4,f5,f6⟩:=env.ow j e h2
   have hb:b≠a:=by
    rintro rfl
    exact h1 (env.inj i j c e b hi h2 ha f1)
   exact ⟨b,f1,f2,f3,f4,f5.mono (Le.refl g) fun o z=>by rw [zc hb];exact z,f6⟩
 ·have ow:∀ {j:Nat}{e:D},(ρ.set i (Slot.ow c'))[j]?=some (.ow e)->∃ e,ρ[j]?=some (.ow e):=fun {j e} q=>by
   rcases zq q with ⟨rfl,h1,h2⟩ | ⟨h1,h2⟩
   ·exact ⟨c,hi⟩
   ·exact ⟨e,h2⟩
  obtain ⟨_,w1⟩:=ow q1
  obtain ⟨_,w2⟩:=ow q2
  exact env.inj j j' _ _ b w1 w2 q3 q4
theorem Step.Yn {H':Hp}{g':G}{o':HO}(s:Step H g H' g') (ha:a∈g'.α):Step H g (upd H' a o') g' where
 le:=s.le
 fr:=fun b u e n=>by
  have hb:b≠a:=by
   rintro rfl
   rcases s.na b ha with q | q
   ·exact n q
   ·rw [e] at q;cases q
  rw [zc hb];exact s.fr b u e n
 ex:=fun b u e=>by
  by_cases hb:b=a
  ·subst hb
   exact ⟨o',zm⟩
  ·rw [zc hb];exact s.ex b u e
 na:=s.na
 nr:=s.nr
theorem WOk.Yn {o':HO}{n:Nat}{c c':D}(w:WOk Γ H g S) (he:S[n]?=some c) (hg:gone c=false) (hn:g.α[n]?=some a) (hc:zM Γ (upd H a o') g a c'):WOk Γ (upd H a o') g (S.set n c') where
 rh:=fun b u q=>by
  have hb:b≠a:=by
   rintro rfl
   rw [w.off n c b he hn hg] at q;cases q
  rw [zc hb];exact w.rh b u q
 len:=by rw [ϱ];exact w.len
 nd:=w.nd
 off:=fun k d b h1 h2 h3=>by
  rcases zq h1 with ⟨rfl,z1,rfl⟩ | ⟨z1,z2⟩
  ·rw [hn] at h2
   cases h2
   exact w.off _ c _ he hn hg
  ·exact w.off k d b z2 h2 h3
 cell:=fun k c b h1 h2=>by
  rcases zq h1 with ⟨rfl,z1,rfl⟩ | ⟨z1,z2⟩
  ·rw [hn] at h2
   cases h2
   exact hc
  ·have hb:b≠a:=by
    rintro rfl
    exact z1 ((nodup_inj w.nd hn h2))
   exact (w.cell k c b z2 h2).mono (Le.refl g) fun o z=>by rw [zc hb];exact z
where
 nodup_inj:∀ {l:List Addr}{i j:Nat}{b:Addr},l.Nodup->l[i]?=some b->l[j]?=some b->i=j:=fun {l i j b} nd h1 h2=>by
  have hi:=(Θ.mp h1).1
  have hj:=(Θ.mp h2).1
  have e:l[i]?=l[j]?:=by rw [h1,h2]
  exact (pC hi nd).mp e
theorem size_of {n:Nat}(h:fits (n+1)=true):n < sizeLine:=by
 have:=yz h
 lia
theorem W7 {env:Env}{cpos:Pos}(hs:notStar x=true):((fB cpos (Ϣ [x] env)).all (fun x=>!x.1)&&(c7 cpos (aZ [] env)).all (fun x=>x.1.isSome)
  &&decide (([x]:List Expr).length+([]:List cW).length+(if ([]:List cW).isEmpty then 0 else 1) < 30))=true:=by
 rw [zb hs]
 rfl
end
structure EN (Γ:Gm) (Hz:Hp) (gz g:G) (E:Ends) (K:Ko):Prop where
 nx:∀ ρ σ H g' S,Step Hz gz H g'->Le g g'->WOk Γ H g' S->EnvO Γ Hz H g' ρ σ->K (.next ρ) S->E.nx σ H
 bk:∀ ρ σ H g' S,Step Hz gz H g'->Le g g'->WOk Γ H g' S->EnvO Γ Hz H g' ρ σ->K (.brk ρ) S->E.bk σ H
 ct:∀ ρ σ H g' S,Step Hz gz H g'->Le g g'->WOk Γ H g' S->EnvO Γ Hz H g' ρ σ->K (.cnt ρ) S->E.ct σ H
 rt:∀ d fr v H g' S,Step Hz gz H g'->Le g g'->WOk Γ H g' S->VOk Γ Hz d fr v H g'->K (.ret d fr) S->E.rt v H
theorem EN.le {Γ:Gm}{Hz:Hp}{gz g g1:G}{E:Ends}{K:Ko}(n:EN Γ Hz gz g E K) (le:Le g g1):EN Γ Hz gz g1 E K:=
 ⟨fun ρ σ H g' S st l=>n.nx ρ σ H g' S st (le.trans l),fun ρ σ H g' S st l=>n.bk ρ σ H g' S st (le.trans l),fun ρ σ H g' S st l=>n.ct ρ σ H g' S st (le.trans l),fun d fr v H g' S st l=>n.rt d fr v H g' S st (le.trans l)⟩
def TK (Γ:Gm) (Hz:Hp) (gz:G) (W:List Slot->Ko->Store->Prop):TS:=fun E σ H=>∃ ρ S K g,W ρ K S/\Step Hz gz H g/\WOk Γ H g S/\EnvO Γ Hz H g ρ σ/\EN Γ Hz gz g E K
theorem goK {Γ:Gm}{Hz:Hp}{gz:G}{W:List Slot->Ko->Store->Prop}{E:Ends}{σ:L2.St}{H:Hp}{P:Prop}(h:TK Γ Hz gz W E σ H) (f:∀ ρ S K g,W ρ K S->Step Hz gz H g->WOk Γ H g S->EnvO Γ Hz H g ρ σ->EN Γ Hz gz g E K->P):P:=
 let ⟨ρ,S,K,g,a,b,c,d,e⟩:=h;f ρ S K g a b c d e
abbrev TC (Γ:Gm) (cx:Xp->Cf) (ex:Xp) (w:Nat) (Hz:Hp) (gz:G) (c:C):TS:=TK Γ Hz gz (wpC cx ex w c)
abbrev TCs (Γ:Gm) (cx:Xp->Cf) (ex:Xp) (w:Nat) (Hz:Hp) (gz:G) (cs:List C):TS:=TK Γ Hz gz (wpCs cx ex w cs)
section
variable {X:Cx}{Γ:Gm}{cx:Xp->Cf}{ex:Xp}{w:Nat}{Hz:Hp}{gz:G}{st:Stmt}{sts aa bb:List Stmt}{x y z tgt o:Expr}{pos p spos:Pos}{e a b:E}{s:C}{ss A B:List C}
theorem zbs:PS X (.Pass pos) (TC Γ cx ex w Hz gz .pass):=Qx.imp fun E σ H h0=>goK h0 fun ρ S K g hw st wk env n=>n.nx ρ σ H g S st (Le.refl g) wk env hw
theorem s_brk:PS X (.Break pos) (TC Γ cx ex w Hz gz .brk):=Ug.imp fun E σ H h0=>goK h0 fun ρ S K g hw st wk env n=>n.bk ρ σ H g S st (Le.refl g) wk env hw
theorem s_cnt:PS X (.Continue pos) (TC Γ cx ex w Hz gz .cnt):=qQ.imp fun E σ H h0=>goK h0 fun ρ S K g hw st wk env n=>n.ct ρ σ H g S st (Le.refl g) wk env hw
theorem zbk:PSs X [] (TCs Γ cx ex w Hz gz []):=XH.imp fun E σ H h0=>goK h0 fun ρ S K g hw st wk env n=>n.nx ρ σ H g S st (Le.refl g) wk env hw
theorem K8 (h1:PS X st (TC Γ cx ex w Hz gz s)) (h2:PSs X sts (TCs Γ cx ex w Hz gz ss)):PSs X (st::sts) (TCs Γ cx ex w Hz gz (s::ss)):=
 (ZX h1 h2).imp fun E σ H h0=>goK h0 fun ρ S K g hw st wk env n=>⟨ρ,S,_,g,hw,st,wk,env,fun ρ' σ' H' g' S' st' le w' env' q=>⟨ρ',S',K,g',q,st',w',env',n.le le⟩,n.bk,n.ct,n.rt⟩
theorem zar {H:Hp}{g:G}{ρ:List Slot}{σ:L2.St}{S:Store}{i:Nat}(st:Step Hz gz H g) (wk:WOk Γ H g S) (env:EnvO Γ Hz H g ρ σ):∃ g',Step Hz gz H g'/\Le g g'/\WOk Γ H g' S/\EnvO Γ Hz H g' (ρ.set i (fz ((ρ[i]?).getD .no))) σ:=by
 have same:∀ s,ρ[i]?=some s->ρ.set i s=ρ:=fun s h=>by
  apply lA
  intro j
  by_cases hj:i=j
  ·subst hj;rw [Ϛ (Θ.mp h).1,h]
  ·rw [Ε hj]
 cases e:ρ[i]? with
 | none=>
  refine ⟨g,st,Le.refl g,wk,?_⟩
  rw [nu (List.getElem?_eq_none_iff.mp e)]
  exact env
 | some s=>
  cases s with
  | no=>exact ⟨g,st,Le.refl g,wk,by rw [show fz ((some Slot.no).getD .no)=.no from rfl,same _ e];exact env⟩
  | sh d=>exact ⟨g,st,Le.refl g,wk,by rw [show fz ((some (Slot.sh d)).getD .no)=.sh d from rfl,same _ e];exact env⟩
  | ow d=>
   obtain ⟨a,h1,h2,h3,h4,h5,h6⟩:=env.ow i d e
   obtain ⟨ob,ho,_⟩:=h5.isMut
   have le:Le g (g.put a ob):=Le.put h3
   refine ⟨g.put a ob,st.put h3 h2,le,wk.put ho h3 h4,by simp [env.len],fun j d' q=>?_,fun j d' q=>?_,fun j j' d1 d2 b q1 q2 q3 q4=>?_⟩
   ·rcases zq q with ⟨rfl,_,z⟩ | ⟨_,z⟩
    ·cases z
     exact ⟨.ref a,h1,uM h3 ho h5⟩
    ·obtain ⟨v,f1,f2⟩:=env.sh j d' z
     exact ⟨v,f1,f2.mono le⟩
   ·rcases zq q with ⟨rfl,_,z⟩ | ⟨hne,z⟩
    ·cases z
    ·obtain ⟨b,f1,f2,f3,f4,f5,f6⟩:=env.ow j d' z
     have hb:b≠a:=by
      rintro rfl
      exact hne (env.inj i j d d' b e z h1 f1)
     exact ⟨b,f1,f2,by show upd g.R a ob b=none;rw [zc hb];exact f3,f4,f5.mono le fun _ z=>z,f6⟩
   ·rcases zq q1 with ⟨_,_,z⟩ | ⟨_,z1⟩
    ·cases z
    rcases zq q2 with ⟨_,_,z⟩ | ⟨_,z2⟩
    ·cases z
    exact env.inj j j' d1 d2 b z1 z2 q3 q4
theorem zas {H:Hp}{g:G}{ρ:List Slot}{σ:L2.St}{S:Store}{i k:Nat}{l:List D}(st:Step Hz gz H g) (wk:WOk Γ H g S) (env:EnvO Γ Hz H g ρ σ) (hi:ρ[i]?=some (.sh (.ref k))) (hk:S[k]?=some (.lst l)):
  ∃ g',Step Hz gz H g'/\Le g g'/\WOk Γ H g' (S.set k (.ref k))/\EnvO Γ Hz H g' (ρ.set i (.sh (.lst l))) σ:=by
 obtain ⟨v,h1,a,ha,e⟩:=env.sh i _ hi
 subst e
 have hn:g.R a=none:=wk.off k _ a hk ha rfl
 obtain ⟨vs,ho,hv⟩:=wk.cell k _ a hk ha
 have le:Le g (g.put a (.lst vs)):=Le.put hn
 have hr:(g.put a (.lst vs)).R a=some (.lst vs):=zm
 refine ⟨g.put a (.lst vs),⟨st.le.trans le,st.fr,st.ex,st.na,fun b q=>?_⟩,le,⟨fun b u q=>?_,by rw [ϱ];exact wk.len,wk.nd,fun j c b q1 q2 q3=>?_,fun j c b q1 q2=>?_⟩,by simp [env.len],fun j d' q=>?_,fun j d' q=>?_,fun j j' d1 d2 b q1 q2 q3 q4=>?_⟩
 ·by_cases hb:b=a
  ·subst hb
   rcases st.na b (aB ha) with z | z
   ·exact .inr (.inr (.inl z))
   ·exact .inr (.inl z)
  ·have q':upd g.R a (.lst vs) b≠none:=q
   rw [zc hb] at q'
   exact st.nr b q'
 ·have q':upd g.R a (.lst vs) b=some u:=q
  by_cases hb:b=a
  ·subst hb
   rw [zm] at q'
   cases q'
   exact ho
  ·rw [zc hb] at q'
   exact wk.rh b u q'
 ·rcases zq q1 with ⟨rfl,_,z⟩ | ⟨hne,z⟩
  ·rw [z] at q3;cases q3
  ·show upd g.R a (.lst vs) b=none
   have hb:b≠a:=by
    rintro rfl
    exact hne (WOk.Yn.nodup_inj wk.nd ha q2)
   rw [zc hb]
   exact wk.off j c b z q2 q3
 ·rcases zq q1 with ⟨rfl,_,z⟩ | ⟨hne,z⟩
  ·have q2:g.α[k]?=some b:=q2
   rw [ha] at q2
   cases q2
   rw [z]
   exact ⟨_,hr,ho,aR⟩
  ·exact (wk.cell j c b z q2).mono le fun _ z=>z
 ·rcases zq q with ⟨rfl,_,z⟩ | ⟨_,z⟩
  ·cases z
   exact ⟨.ref a,h1,a,vs,rfl,hr,hv.mono le⟩
  ·obtain ⟨v,f1,f2⟩:=env.sh j d' z
   exact ⟨v,f1,f2.mono le⟩
 ·rcases zq q with ⟨rfl,_,z⟩ | ⟨hne,z⟩
  ·cases z
  ·obtain ⟨b,f1,f2,f3,f4,f5,f6⟩:=env.ow j d' z
   have hb:b≠a:=by
    rintro rfl
    exact f4 (aB ha)
   exact ⟨b,f1,f2,by show upd g.R a (.lst vs) b=none;rw [zc hb];exact f3,f4,f5.mono le fun _ z=>z,f6⟩
 ·rcases zq q1 with ⟨_,_,z⟩ | ⟨_,z1⟩
  ·cases z
  rcases zq q2 with ⟨_,_,z⟩ | ⟨_,z2⟩
  ·cases z
  exact env.inj j j' d1 d2 b z1 z2 q3 q4
theorem s_frr {i:Nat}(h2:PSs X sts (TCs Γ cx ex w Hz gz ss)):PSs X sts (TCs Γ cx ex w Hz gz (.frr i::ss)):=
 h2.imp fun E σ H h0=>goK h0 fun ρ S K g hw st wk env n=>by
  obtain ⟨k,l,e1,e2,hw⟩:=Kf hw
  obtain ⟨g',st',le,w',env'⟩:=zas st wk env e1 e2
  exact ⟨_,_,K,g',hw,st',w',env',n.le le⟩
theorem s_frz {i:Nat}(h2:PSs X sts (TCs Γ cx ex w Hz gz ss)):PSs X sts (TCs Γ cx ex w Hz gz (.frz i::ss)):=
 h2.imp fun E σ H h0=>goK h0 fun ρ S K g hw st wk env n=>by
  obtain ⟨g',st',le,w',env'⟩:=zar (i:=i) st wk env
  exact ⟨_,S,K,g',hw,st',w',env',n.le le⟩
theorem s_frk {i:Nat}(h2:PSs X sts (TCs Γ cx ex w Hz gz ss)):PSs X sts (TCs Γ cx ex w Hz gz (.frk i::ss)):=by
 intro pJ s σ H E I h0
 refine goK h0 fun ρ S K g hw st wk env n=>?_
 obtain ⟨ks,ds,e,hw⟩:=JQ hw
 obtain ⟨a,h1,h2',h3,h4,⟨vs,hH,hlen,hv⟩,h6⟩:=env.ow i _ e
 have hob:=(show ObjOk X.prog X.w H s.heap a (.dT (ks.zip vs)) from I.hok a _ hH)
 obtain ⟨_,_,_,_,o,_,_,g1,_⟩:=id hob
 have I4:=Vd (a:=a) (h':=s.heap) (t':=s.toks) (ob:=.frz o (.dT (ks.zip vs))) I (by rw [hH];exact aR) (gB a _) ⟨o,g1⟩
  ⟨g1,hob.stay (fun b u _ e=>e) (fun b e=>by
   have hb:b≠a:=by rintro rfl;rw [hH] at e;cases e
   rw [zc hb];exact e) fun b ys e=>by
   have hb:b≠a:=by rintro rfl;rw [hH] at e;cases e
   rw [zc hb];exact e⟩
 have le:Le g (g.put a (.frz o (.dT (ks.zip vs)))):=Le.put h3
 refine h2 pJ s σ _ E I4 ⟨_,S,K,g.put a (.frz o (.dT (ks.zip vs))),hw,(st.zO h2').put h3 h2',(wk.zO h3 h4).put zm h3 h4,⟨by simp [env.len],fun j d' q=>?_,fun j d' q=>?_,fun j j' d1 d2 b q1 q2 q3 q4=>?_⟩,n.le le⟩
 ·rcases zq q with ⟨rfl,_,z⟩ | ⟨_,z⟩
  ·cases z
   exact ⟨.ref a,h1,a,vs,o,rfl,zm,hlen,hv.mono le⟩
  ·obtain ⟨v,f1,f2⟩:=env.sh j d' z
   exact ⟨v,f1,f2.mono le⟩
 ·rcases zq q with ⟨rfl,_,z⟩ | ⟨hne,z⟩
  ·cases z
  ·obtain ⟨b,f1,f2,f3,f4,f5,f6⟩:=env.ow j d' z
   have hb:b≠a:=by
    rintro rfl
    exact hne (env.inj i j _ d' b e z h1 f1)
   exact ⟨b,f1,f2,by show upd g.R a _ b=none;rw [zc hb];exact f3,f4,f5.mono le fun _ z=>by rw [zc hb];exact z,f6⟩
 ·rcases zq q1 with ⟨_,_,z⟩ | ⟨_,z1⟩
  ·cases z
  rcases zq q2 with ⟨_,_,z⟩ | ⟨_,z2⟩
  ·cases z
  exact env.inj j j' d1 d2 b z1 z2 q3 q4
theorem zbw (h:PE X x (TX Γ (cx noX) e)) (hs:gC x none pos.line X.env=pure false):PS X (.Expr x pos) (TC Γ cx ex w Hz gz (.expr e)):=
 (qP h hs).imp fun E σ H h0=>goK h0 fun ρ S K g hw st wk env n=>⟨ρ,S,_,g,Hz,hw,wk,env,fun x v H1 g1 S1 s1 w1 vx q=>n.nx ρ σ H1 g1 S1 (st.trans s1) s1.le w1 (zp env s1) q⟩
theorem s_ret (hn:∀ i,e≠.var i) (h:PE X x (TX Γ (cx noX) e)):PS X (.Return (some x) pos) (TC Γ cx ex w Hz gz (.ret e)):=
 (JF h).imp fun E σ H h0=>goK h0 fun ρ S K g hw st wk env n=>by
  have hw:wpE (cx noX) ρ e (fun x S1=>retV x fun o=>K o S1) S:=by cases e <;> first | exact absurd rfl (hn _) | exact hw
  refine ⟨ρ,S,_,g,Hz,hw,wk,env,fun x v H1 g1 S1 s1 w1 vx q=>?_⟩
  obtain ⟨d,k⟩:=x
  cases k with
  | st=>exact n.rt d false v H1 g1 S1 (st.trans s1) s1.le w1 vx q
  | fr=>exact n.rt d true v H1 g1 S1 (st.trans s1) s1.le w1 (vx.back st) q
  | bo=>exact q.elim
theorem zbp {i:Nat}{n:Str}(hN:X.N[i]?=some n) (hv:Vis X.env.scope n) (hd:(n==("__debug__":Str))=false) (hcd:(n==("__classdict__":Str))=false):PS X (.Return (some (.Name n p)) pos) (TC Γ cx ex w Hz gz (.ret (.var i))):=
 (JF (uG hN hv hd hcd)).imp fun E σ H h0=>goK h0 fun ρ S K g hw st wk env n=>by
  have hw:sel ρ[i]? (fun d=>K (.ret d false) S) (fun d=>K (.ret d true) S):=hw
  cases e:ρ[i]? with
  | none=>rw [e] at hw;exact hw.elim
  | some s=>
   rw [e] at hw
   cases s with
   | no=>exact hw.elim
   | sh d=>
    obtain ⟨v,h1,h2⟩:=env.sh i d e
    exact ⟨v,h1,n.rt d false v H g S st (Le.refl g) wk h2 hw⟩
   | ow d=>
    obtain ⟨a,h1,h2,h3,h4,h5,h6⟩:=env.ow i d e
    exact ⟨.ref a,h1,n.rt d true _ H g S st (Le.refl g) wk ⟨a,rfl,h2,h3,h4,h5⟩ hw⟩
theorem zbq:PS X (.Return none pos) (TC Γ cx ex w Hz gz .retN):=Qw.imp fun E σ H h0=>goK h0 fun ρ S K g hw st wk env n=>n.rt .non false .non H g S st (Le.refl g) wk rfl hw
theorem s_if (h:PT X x (TB Γ (cx noX) e)) (ha:PSs X aa (TCs Γ cx ex w Hz gz A)) (hb:PSs X bb (TCs Γ cx ex w Hz gz B)):PS X (.If x aa bb pos) (TC Γ cx ex w Hz gz (.ite e A B)):=
 (ps_if h ha hb).imp fun E σ H h0=>goK h0 fun ρ S K g hw st wk env n=>⟨ρ,S,_,g,Hz,hw,wk,env,fun x H1 g1 S1 s1 w1 h=>by
  obtain ⟨r,e,q⟩:=xK h
  rw [e]
  show (if r=true then _ else _)
  cases r with
  | true=>exact iteT ⟨ρ,S1,K,g1,q,st.trans s1,w1,zp env s1,n.le s1.le⟩
  | false=>exact iteF ⟨ρ,S1,K,g1,q,st.trans s1,w1,zp env s1,n.le s1.le⟩⟩
theorem fresh_ne {H:Hp}{g:G}{ρ:List Slot}{σ:L2.St}{v:V}{d:D}{H1:Hp}{g1:G}(env:EnvO Γ Hz H g ρ σ) (vx:VN Γ H (d,.fr) v H1 g1):∀ (i:Nat) (d:D),ρ[i]?=some (.ow d)->σ[i]?≠some (some v):=fun i d' hi e=>by
 obtain ⟨a,rfl,h0,_⟩:=vx
 obtain ⟨b,f1,_,_,_,f5,_⟩:=env.ow i d' hi
 rw [f1] at e
 cases e
 obtain ⟨o,ho,_⟩:=f5.isMut
 rw [h0] at ho
 cases ho
theorem Xr {H H1:Hp}{g g1:G}{ρ ρ2:List Slot}{σ:L2.St}{S1:Store}{t:T}{x:Vl}{v:V}{E:Ends}{K:Ko}(st:Step Hz gz H g) (env:EnvO Γ Hz H g ρ σ) (n:EN Γ Hz gz g E K) (s1:Step H g H1 g1) (w1:WOk Γ H1 g1 S1) (vx:VN Γ H x v H1 g1) (hb:bindV ρ t x=some ρ2) (q:K (.next ρ2) S1):tgOf X.K t v σ H1 fun σ' H'=>E.nx σ' H':=by
 have env1:=zp env s1
 obtain ⟨d,k⟩:=x
 cases k with
 | st=>exact u5 (fr:=false) hb env1 w1.rh vx (fun h=>by cases h) fun σ' env'=>n.nx _ σ' H1 g1 S1 (st.trans s1) s1.le w1 env' q
 | fr=>exact u5 (fr:=true) hb env1 w1.rh (vx.back st) (fun _=>fresh_ne env vx) fun σ' env'=>n.nx _ σ' H1 g1 S1 (st.trans s1) s1.le w1 env' q
 | bo=>cases hb
noncomputable def noBox:E->Bool
 | .box _=>false
 | _=>true
theorem Js {ρ:List Slot}{t:T}{K:Ko}{S:Store}(hn:noBox e=true) (hw:wpC cx ex w (.set t e) ρ K S):wpE (cx noX) ρ e (fun x S1=>opt (bindV ρ t x) fun ρ2=>K (.next ρ2) S1) S:=by
 cases e <;> first | exact hw | cases hn
theorem s_set {t:T}(hn:noBox e=true) (h:PE X x (TX Γ (cx noX) e)) (hg:PG X tgt (tgOf X.K t)) (hs:eQ [tgt] x pos.line X.env=pure false) (hw:dB [tgt] x X.env=pure none) (ha:(bN [tgt] X.env).map (·.2)=[lV tgt X.env]):PS X (.Assign [tgt] x pos) (TC Γ cx ex w Hz gz (.set t e)):=
 (XJ h hg hs hw ha).imp fun E σ H h0=>goK h0 fun ρ S K g hw st wk env n=>⟨ρ,S,_,g,Hz,Js hn hw,wk,env,fun x v H1 g1 S1 s1 w1 vx q=>by
  obtain ⟨ρ2,hb,q⟩:=zQ q
  exact Xr (X:=X) st env n s1 w1 vx hb q⟩
theorem zbm {t:T}(h:PE X x (TX Γ (cx noX) e)) (hg:PG X tgt (tgOf X.K t)) (hs:eQ [tgt] x pos.line X.env=pure false) (hw:dB [tgt] x X.env=pure none) (ha:(bN [tgt] X.env).map (·.2)=[lV tgt X.env]):PS X (.Assign [tgt] x pos) (TC Γ cx ex w Hz gz (.set t (.box e))):=
 (XJ h hg hs hw ha).imp fun E σ H h0=>goK h0 fun ρ S K g hw st wk env n=>⟨ρ,S,_,g,Hz,hw,wk,env,fun x v H1 g1 S1 s1 w1 vx q=>by
  obtain ⟨d,k⟩:=x
  cases k with
  | fr=>
   obtain ⟨ρ2,hb,q⟩:=zQ q
   obtain ⟨g2,s2,w2,h2⟩:=boxed s1 w1 vx
   exact Xr (X:=X) (x:=(.ref S1.length,.st)) st env n s2 w2 h2 hb q
  | _=>exact q.elim⟩
theorem zbl {t:T}{js:List Nat}{it elt:E}{ifs:List E}{i:Nat}{n:Str}{np:Pos}(h:CSet X x (TX Γ (cx noX) (.comp t js it ifs elt))) (hp:PG X (.Name n np) (gName i)) (hsw:gC x (some (.Name n np)) pos.line X.env=pure true):PS X (.Assign [.Name n np] x pos) (TC Γ cx ex w Hz gz (.set (.one i) (.comp t js it ifs elt))):=
 (h n np pos i hp hsw).imp fun E σ H h0=>goK h0 fun ρ S K g hw st wk env n=>⟨ρ,S,_,g,Hz,Js rfl hw,wk,env,fun x v H1 g1 S1 s1 w1 vx q=>by
  obtain ⟨ρ2,hb,q⟩:=zQ q
  exact Xr (X:=X) (t:=.one i) st env n s1 w1 vx hb q⟩
theorem K7 (ht:PT X x (TB Γ (cx noX) e)) (hb:PSs X aa (TCs Γ cx ex w Hz gz A)) (hp:lr (Ι X.prog X.w) X.A X.env X.xe):PS X (.While x aa [] pos) (TC Γ cx ex w Hz gz (.whl e A)):=
 (Ue hp ht hb).imp fun E σ H h0=>goK h0 fun ρ S K g hw st wk env n=>by
  have hw:whlW (fun ρ=>wpE (cx noX) ρ e) (fun ρ=>wpCs cx ex w A ρ) w ρ K S:=hw
  refine ⟨fun m σ H=>∃ ρ S g1,whlW (fun ρ=>wpE (cx noX) ρ e) (fun ρ=>wpCs cx ex w A ρ) m ρ K S/\Step Hz gz H g1/\Le g g1/\WOk Γ H g1 S/\EnvO Γ Hz H g1 ρ σ,⟨w,ρ,S,g,hw,st,Le.refl g,wk,env⟩,?_⟩
  rintro m σ H ⟨ρ,S,g1,hw,st,le,wk,env⟩
  cases m with
  | zero=>exact hw.elim
  | succ m=>
   refine ⟨ρ,S,_,g1,Hz,hw,wk,env,fun x H2 g2 S2 s2 w2 h=>?_⟩
   obtain ⟨r,e,q⟩:=xK h
   rw [e]
   show (if r=true then _ else _)
   cases r with
   | false=>exact iteF (n.nx ρ σ H2 g2 S2 (st.trans s2) (le.trans s2.le) w2 (zp env s2) q)
   | true=>
    refine iteT ⟨fun σ' H'=>∃ ρ S g1,whlW (fun ρ=>wpE (cx noX) ρ _) (fun ρ=>wpCs cx ex w A ρ) m ρ K S/\Step Hz gz H' g1/\Le g g1/\WOk Γ H' g1 S/\EnvO Γ Hz H' g1 ρ σ',fun σ' H' q=>⟨m,fY m,q⟩,ρ,S2,_,g2,q,st.trans s2,w2,zp env s2,?_⟩
    have l2:=le.trans s2.le
    exact ⟨fun ρ' σ' H' g' S' st' l w' env' q=>⟨ρ',S',g',q,st',l2.trans l,w',env'⟩,fun ρ' σ' H' g' S' st' l w' env' q=>n.nx ρ' σ' H' g' S' st' (l2.trans l) w' env' q,fun ρ' σ' H' g' S' st' l w' env' q=>⟨ρ',S',g',q,st',l2.trans l,w',env'⟩,fun d fr v H' g' S' st' l w' vo q=>n.rt d fr v H' g' S' st' (l2.trans l) w' vo q⟩
theorem s_for {t:T}{it:E}(hi:PI X tgt x (TXi Γ (cx noX) it)) (hg:PG X tgt (tgOf X.K t)) (hb:PSs X aa (TCs Γ cx ex w Hz gz A)) (hp:lr (Ι X.prog X.w) X.A X.env X.xe) (hc:X.calm=true) (hs:∀ v,bU x X.env v=pure v):PS X (.For tgt x aa [] pos) (TC Γ cx ex w Hz gz (.forr t it A)):=
 (zbJ hp hc hi hg hb hs).imp fun E σ H h0=>goK h0 fun ρ S K g hw st wk env n=>⟨ρ,S,_,g,Hz,hw,wk,env,fun l J H1 g1 S1 s1 w1 hJ h1=>by
  refine ⟨fun i m σ H=>m=l.length - i/\i<=l.length/\∃ ρ S g2,forW t (fun ρ=>wpCs cx ex w A ρ) (l.drop i) ρ K S/\Step Hz gz H g2/\Le g1 g2/\WOk Γ H g2 S/\EnvO Γ Hz H g2 ρ σ,⟨_,rfl,ϡ _,ρ,S1,g1,h1,st.trans s1,Le.refl g1,w1,zp env s1⟩,?_⟩
  rintro i m σ H ⟨rfl,hi,ρ,S,g2,hw,st2,le,wk,env⟩
  by_cases hlt:i < l.length
  ·refine .inr ⟨hJ.go i H g2 le wk.rh hlt,fun σ' H'=>∃ ρ S g3,forW t (fun ρ=>wpCs cx ex w A ρ) (l.drop (i+1)) ρ K S/\Step Hz gz H' g3/\Le g1 g3/\WOk Γ H' g3 S/\EnvO Γ Hz H' g3 ρ σ',fun σ' H' q=>⟨l.length - (i+1),by omega,rfl,hlt,q⟩,fun z H3 hy=>?_⟩
   obtain ⟨g3,st3,_,w3,hz⟩:=hJ.yld i H g2 S z H3 l[i] le wk (ο hlt) hy
   rw [fH hlt] at hw
   obtain ⟨ρ',es,hw⟩:=zQ (show opt (bindT ρ t (l[i],false)) _ from hw)
   have l3:=le.trans st3.le
   have l4:=s1.le.trans l3
   refine u5 (fr:=false) es (zp env st3) w3.rh hz (fun h=>by cases h) fun σ3 env3=>⟨ρ',S,_,g3,hw,st2.trans st3,w3,env3,?_⟩
   exact ⟨fun ρ' σ' H' g' S' st' l w' env' q=>⟨ρ',S',g',q,st',l3.trans l,w',env'⟩,fun ρ' σ' H' g' S' st' l w' env' q=>n.nx ρ' σ' H' g' S' st' (l4.trans l) w' env' q,fun ρ' σ' H' g' S' st' l w' env' q=>⟨ρ',S',g',q,st',l3.trans l,w',env'⟩,fun d fr v H' g' S' st' l w' vo q=>n.rt d fr v H' g' S' st' (l4.trans l) w' vo q⟩
  ·have e:i=l.length:=by omega
   subst e
   rw [List.drop_length] at hw
   exact .inl ⟨hJ.stop _ H g2 le wk.rh (ς _),n.nx ρ σ H g2 S st2 (s1.le.trans le) wk env hw⟩⟩
theorem JR {s:Option Slot}{Q:List D->Prop}(h:owL s Q):∃ l,s=some (.ow (.lst l))/\Q l:=by
 cases s with
 | none=>exact h.elim
 | some s=>
  cases s with
  | ow d=>
   cases d with
   | lst l=>exact ⟨l,rfl,h⟩
   | _=>exact h.elim
  | _=>exact h.elim
section
variable {i:Nat}{n:Str}{apos cpos:Pos}
theorem s_app (hN:X.N[i]?=some n) (hv:Vis X.env.scope n) (hd:(n==("__debug__":Str))=false) (hcd:(n==("__classdict__":Str))=false) (hx:PE X x (TX Γ (cx noX) e)) (hs:notStar x=true) (hl:(apos.endLine==cpos.line)=true):
  PS X (.Expr (.Call (.Attribute (.Name n p) "append" apos) [x] [] cpos) pos) (TC Γ cx ex w Hz gz (.app i e)):=
 (qP (pe_bm mQ PySem.F.slot_list_append PySem.F.type_list_append j8 (uG hN hv hd hcd) (zN hx yx (zb hs _ _)) rfl (W7 hs) hl (zb hs _ _) rfl)).imp fun E σ H h0=>goK h0 fun ρ S K g hw st wk env n=>by
  obtain ⟨l,eo,hw⟩:=JR hw
  obtain ⟨a,h1,h2,h3,h4,h5,h6⟩:=env.ow i _ eo
  obtain ⟨vs,h7,h8⟩:=h5
  refine ⟨.ref a,h1,.inl ⟨rfl,vs,SqL.of h7⟩,ρ,S,_,g,Hz,hw,wk,env,fun x v H1 g1 S1 s1 w1 vx q=>?_⟩
  obtain ⟨g2,s2,w2,hx,q⟩:=vx.keep s1 w1 q
  obtain ⟨hf,q⟩:=wB q
  have env2:=zp env s2
  obtain ⟨k1,k2,k3⟩:=s2.kept h7 h3 h4
  refine ⟨a,vs,v,rfl,rfl,k1,by rw [h8.len];exact size_of hf,n.nx _ σ _ g2 S1 ((st.trans s2).zO h2) s2.le (w2.zO k2 k3) (env2.updOw (c':=.lst (l++[x.1])) eo h1 ⟨vs++[v],zm,(h8.mono s2.le).app (Hass.mk1 hx)⟩ rfl) q⟩
theorem s_ext (hN:X.N[i]?=some n) (hv:Vis X.env.scope n) (hd:(n==("__debug__":Str))=false) (hcd:(n==("__classdict__":Str))=false) (hx:PE X x (TX Γ (cx noX) e)) (hs:notStar x=true) (hl:(apos.endLine==cpos.line)=true):
  PS X (.Expr (.Call (.Attribute (.Name n p) "extend" apos) [x] [] cpos) pos) (TC Γ cx ex w Hz gz (.ext i e)):=
 (qP (pe_bm mQ PySem.F.slot_list_extend PySem.F.type_list_extend Q6 (uG hN hv hd hcd) (zN hx yx (zb hs _ _)) rfl (W7 hs) hl (zb hs _ _) rfl)).imp fun E σ H h0=>goK h0 fun ρ S K g hw st wk env n=>by
  obtain ⟨l,eo,hw⟩:=JR hw
  obtain ⟨a,h1,h2,h3,h4,h5,h6⟩:=env.ow i _ eo
  obtain ⟨vs,h7,h8⟩:=h5
  refine ⟨.ref a,h1,.inl ⟨rfl,vs,SqL.of h7⟩,ρ,S,_,g,Hz,hw,wk,env,fun x v H1 g1 S1 s1 w1 vx q0=>?_⟩
  obtain ⟨g2,s2,w2,hx,q1⟩:=vx.keep s1 w1 q0
  obtain ⟨m,em,q2⟩:=zQ q1
  obtain ⟨hf,q⟩:=wB q2
  clear q0 q1 q2
  have env2:=zp env s2
  obtain ⟨k1,k2,k3⟩:=s2.kept h7 h3 h4
  generalize x.1=d at *
  cases d with
  | lst m'=>
   cases em
   obtain ⟨b,zs,rfl,hb1,hb2⟩:=hx
   exact ⟨a,b,vs,zs,rfl,rfl,k1,.inl (w2.rh _ _ hb1),by rw [h8.len,hb2.len];exact yz hf,n.nx _ σ _ g2 S1 ((st.trans s2).zO h2) s2.le (w2.zO k2 k3) (env2.updOw (c':=.lst (l++m)) eo h1 ⟨vs++zs,zm,(h8.mono s2.le).app hb2⟩ rfl) q⟩
  | tup m'=>
   cases em
   obtain ⟨b,zs,rfl,hb1,hb2⟩:=hx
   exact ⟨a,b,vs,zs,rfl,rfl,k1,.inr (SqT.of (w2.rh _ _ hb1)),by rw [h8.len,hb2.len];exact yz hf,n.nx _ σ _ g2 S1 ((st.trans s2).zO h2) s2.le (w2.zO k2 k3) (env2.updOw (c':=.lst (l++m)) eo h1 ⟨vs++zs,zm,(h8.mono s2.le).app hb2⟩ rfl) q⟩
  | _=>cases em
end
end
noncomputable def stB:Option (Option V)->Option Bool
 | some (some (.bl b))=>some b
 | _=>none
theorem za9 {o:Option (Option V)}{b:Bool}(h:stB o=some b):o=some (some (.bl b)):=by
 unfold stB at h
 split at h
 ·cases h;rfl
 ·cases h
theorem zbf {o:Option Slot}{b:Bool}(h:slB o=some b):o=some (.sh (.bl b)):=by
 unfold slB at h
 split at h
 ·cases h;rfl
 ·cases h
theorem xf {tb:List (List Nat)}{c:Nat}{va va':Nat->Option Bool}(h:∀ j b,va j=some b->va' j=some b):∀ (x:HB) (b:Bool),hbV tb c va x=some b->hbV tb c va' x=some b
 | .is k,b,e=>e
 | .ve,b,e=>e
 | .var j,b,e=>h j b e
 | .one a,b,e=>xf h a b e
 | .not a,b,e=>by
  obtain ⟨x,e1,e2⟩:=Ζ.mp e
  exact Ζ.mpr ⟨x,xf h a x e1,e2⟩
 | .and a a',b,e=>by
  obtain ⟨x,e1,e2⟩:=ν.mp e
  refine ν.mpr ⟨x,xf h a x e1,?_⟩
  cases x with
  | true=>exact xf h a' b e2
  | false=>exact e2
 | .or a a',b,e=>by
  obtain ⟨x,e1,e2⟩:=ν.mp e
  refine ν.mpr ⟨x,xf h a x e1,?_⟩
  cases x with
  | true=>exact e2
  | false=>exact xf h a' b e2
noncomputable def hsS (tb:List (List Nat)) (c:Nat):List (Nat×HB)->L2.St->Option L2.St
 | [],σ=>some σ
 | p::r,σ=>(hbV tb c (fun j=>stB σ[j]?) p.2).bind fun b=>hsS tb c r (σ.set p.1 (some (.bl b)))
section
variable {Γ:Gm}{Hz H:Hp}{g:G}{ρ ρ':List Slot}{σ:L2.St}
theorem EnvO.put {j:Nat}{d:D}{v:V}(env:EnvO Γ Hz H g ρ σ) (hv:Has Γ g d v):EnvO Γ Hz H g (ρ.set j (.sh d)) (σ.set j (some v)):=by
 refine ⟨by rw [ϱ,ϱ];exact env.len,fun i e q=>?_,fun i e q=>?_,fun i i' e e' b q1 q2 q3 q4=>?_⟩
 ·rcases zq q with ⟨rfl,h1,h2⟩ | ⟨h1,h2⟩
  ·cases h2
   exact ⟨v,Ϛ (by rw [<- env.len];exact h1),hv⟩
  ·obtain ⟨u,e1,e2⟩:=env.sh i e h2
   exact ⟨u,by rw [Ε h1];exact e1,e2⟩
 ·rcases zq q with ⟨rfl,h1,h2⟩ | ⟨h1,h2⟩
  ·cases h2
  ·obtain ⟨a,e1,e2⟩:=env.ow i e h2
   exact ⟨a,by rw [Ε h1];exact e1,e2⟩
 ·have ne:∀ {i:Nat}{e:D},(ρ.set j (Slot.sh d))[i]?=some (.ow e)->j≠i/\ρ[i]?=some (.ow e):=fun {i e} q=>by
   rcases zq q with ⟨rfl,h1,h2⟩ | ⟨h1,h2⟩
   ·cases h2
   ·exact ⟨h1,h2⟩
  obtain ⟨n1,w1⟩:=ne q1
  obtain ⟨n2,w2⟩:=ne q2
  rw [Ε n1] at q3
  rw [Ε n2] at q4
  exact env.inj i i' e e' b w1 w2 q3 q4
theorem EnvO.no {j:Nat}{v:Option V}(env:EnvO Γ Hz H g ρ σ):EnvO Γ Hz H g (ρ.set j .no) (σ.set j v):=by
 have ne:∀ {i:Nat}{s:Slot},(ρ.set j Slot.no)[i]?=some s->s≠.no->j≠i/\ρ[i]?=some s:=fun {i s} q hs=>by
  rcases zq q with ⟨rfl,h1,h2⟩ | ⟨h1,h2⟩
  ·exact absurd h2.symm (fun z=>hs z.symm)
  ·exact ⟨h1,h2⟩
 refine ⟨by rw [ϱ,ϱ];exact env.len,fun i e q=>?_,fun i e q=>?_,fun i i' e e' b q1 q2 q3 q4=>?_⟩
 ·obtain ⟨n,w⟩:=ne q nofun
  rw [Ε n]
  exact env.sh i e w
 ·obtain ⟨n,w⟩:=ne q nofun
  rw [Ε n]
  exact env.ow i e w
 ·obtain ⟨n1,w1⟩:=ne q1 nofun
  obtain ⟨n2,w2⟩:=ne q2 nofun
  rw [Ε n1] at q3
  rw [Ε n2] at q4
  exact env.inj i i' e e' b w1 w2 q3 q4
theorem Ke {tb:List (List Nat)}{c:Nat}:∀ {hs:List (Nat×HB)}{ρ:List Slot}{σ:L2.St},EnvO Γ Hz H g ρ σ->hsR tb c hs ρ=some ρ'->∃ σ',hsS tb c hs σ=some σ'/\EnvO Γ Hz H g ρ' σ'
 | [],ρ,σ,env,e=>by cases e;exact ⟨σ,rfl,env⟩
 | p::r,ρ,σ,env,e=>by
  obtain ⟨b,e1,e2⟩:=ν.mp e
  split at e2
  ·obtain ⟨σ',e3,env'⟩:=Ke (env.put (j:=p.1) (d:=.bl b) (v:=.bl b) rfl) e2
   refine ⟨σ',ν.mpr ⟨b,xf (fun j b q=>?_) p.2 b e1,e3⟩,env'⟩
   obtain ⟨v,e4,e5⟩:=env.sh j _ (zbf q)
   rw [e4,show v=.bl b from e5]
   rfl
  ·cases e2
end
noncomputable def asIs:Expr->Option (Str×Pos×Str×Pos×Str×Pos×Pos)
  | .Call f as ks cp=>(asName f).bind fun q=>(match as with
    | [x,y]=>(asName x).bind fun a=>(asName y).bind fun b=>if yg ks=true then some (q.1,q.2,a.1,a.2,b.1,b.2,cp) else none
    | _=>none)
  | _=>none
set_option tactic.hygienic true in
theorem zaL {x:Expr}{q:Str×Pos×Str×Pos×Str×Pos×Pos}(h:asIs x=some q):x=.Call (.Name q.1 q.2.1) [.Name q.2.2.1 q.2.2.2.1,.Name q.2.2.2.2.1 q.2.2.2.2.2.1] [] q.2.2.2.2.2.2:=by
 cases x with
 | Call f as ks cp=>
  obtain ⟨r,e1,h⟩:=ν.mp (show (asName f).bind _=some q from h)
  match as,h with
  | [x,y],h=>
   obtain ⟨a,e2,h⟩:=ν.mp h
   obtain ⟨b,e3,h⟩:=ν.mp h
   split at h
   ·rename_i hn
    cases h
    rw [zL e1,zL e2,zL e3,z8 hn]
   ·cases h
  | [],h=>cases h
  | [_],h=>cases h
  | _::_::_::_,h=>cases h
 | _=>cases h
noncomputable def chkIs (B:Tb) (c:Cc) (i:Nat) (n:Str) (x:Expr):Bool:=match asIs x with
 | some q=>q.1==("isinstance":Str)&&B.bare.contains q.1&&gloK (c.names.lookup q.1)&&c.N[i]?==some q.2.2.1&&visK (c.names.lookup q.2.2.1)&&zH q.2.2.1&&q.2.2.2.2.1==n&&gloK (c.names.lookup n)&&zH n
 | none=>false
noncomputable def chkH (B:Tb) (c:Cc) (i:Nat):HB->Expr->Bool
  | .is k,x=>(match B.cls[k]? with
    | some p=>chkIs B c i p.1 x
    | none=>false)
  | .ve,x=>chkIs B c i "ValueError" x&&B.bare.contains ("ValueError":Str)
  | .var j,x=>(match asName x with
    | some q=>c.N[j]?==some q.1&&visK (c.names.lookup q.1)&&zH q.1
    | none=>false)
  | .not a,.UnaryOp op x _=>(match op with
    | .Not=>chkH B c i a x
    | _=>false)
  | .and a b,.BoolOp op vs p=>(match op,vs with
    | .And,x::y::r=>chkH B c i a x&&chkH B c i b (.BoolOp .And (y::r) p)
    | _,_=>false)
  | .or a b,.BoolOp op vs p=>(match op,vs with
    | .Or,x::y::r=>chkH B c i a x&&chkH B c i b (.BoolOp .Or (y::r) p)
    | _,_=>false)
  | .one a,.BoolOp _ vs _=>(match vs with
    | [x]=>chkH B c i a x
    | _=>false)
  | _,_=>false
noncomputable def hNoC:Expr->Bool
 | .Call _ _ _ _=>true
 | .BoolOp _ _ _=>true
 | .UnaryOp _ _ _=>true
 | .Name _ _=>true
 | _=>false
def tHB (tb:List (List Nat)) (cn i:Nat) (ea:Addr) (h:HB):TE:=fun σ H Q=>σ[i]?=some (some (.ref ea))/\∃ b,hbV tb cn (fun j=>stB σ[j]?) h=some b/\Q (.bl b) H
section
variable {Γ:Gm}{B:Tb}{sp:Nat->Nat->Sp}{k:Nat}{X:Cx}{c:Cc}{i cn:Nat}{ea C:Addr}{oe:Obj}
theorem JK {n:Str}{x:Expr}{v:V}{u:δ}{b:Bool}(ok:XOk Γ B sp k X c) (xc:XCls X.K C) (hc:oe.cls=.ref C) (hd:oe.dict=none) (hn:W.notCls oe=true) (h:chkIs B c i n x=true) (r:RelV v u) (hu:∀ u',RelV v u'->u'=u) (hk:W.kitOne X.K (.ref C) u=some b)
  (hp:∀ pos,PE (X.hnd ea oe) (.Name n pos) (tC v)):PE (X.hnd ea oe) x (fun σ H Q=>σ[i]?=some (some (.ref ea))/\Q (.bl b) H):=by
 unfold chkIs at h
 cases e:asIs x with
 | none=>rw [e] at h;cases h
 | some q=>
  rw [e] at h
  simp only [ε] at h
  obtain ⟨⟨⟨⟨⟨⟨⟨⟨h1,h2⟩,h3⟩,h4⟩,h5⟩,h6⟩,h7⟩,h8⟩,h9⟩:=h
  have ex:=zaL e
  obtain ⟨f,fp,a,ap,m,mp,cp⟩:=q
  dsimp only at h1 h2 h3 h4 h5 h6 h7 ex
  have e1:=eq_of_beq h1
  have e7:=eq_of_beq h7
  subst e1 e7 ex
  obtain ⟨p1,p2,p3⟩:=zG h6
  have hN:(X.hnd ea oe).N[i]?=some a:=by show X.N[i]?=some a;rw [ok.N];exact eq_of_beq h4
  refine (wZ (X:=X.hnd ea oe) (id:="isinstance") (Ji xc hc hd hn r hu hk) (show Gl X "isinstance" from ok.glob h3) (ok.bare _ (ϐ.mp h2)) (by decide +kernel) (zN (uG hN (show Vis X.env.scope a from ok.vis h5) p1 p2) (zN (hp mp) yx)) (by decide) (by decide)).imp fun σ H Q ⟨q1,q2⟩=>?_
  exact ⟨_,q1,rfl,q2⟩
theorem sH (ok:XOk Γ B sp k X c) (kc:KCls Γ (B.cls.map (·.2)) cn C) (hc:oe.cls=.ref C) (hd:oe.dict=none) (hn:W.notCls oe=true):∀ (h:HB) (x:Expr),chkH B c i h x=true->PE (X.hnd ea oe) x (tHB (B.cls.map (·.2)) cn i ea h)
  | .is m,x,h=>by
    have h:(match B.cls[m]? with
      | some p=>chkIs B c i p.1 x
      | none=>false)=true:=by cases x <;> exact h
    cases e:B.cls[m]? with
    | none=>rw [e] at h;cases h
    | some p=>
      rw [e] at h
      have h':chkIs B c i p.1 x=true:=h
      obtain ⟨Cm,hm,km⟩:=ok.cl m p.1 p.2 e
      have hg:gloK (c.names.lookup p.1)=true/\zH p.1=true:=by
        unfold chkIs at h'
        split at h'
        · simp only [ε] at h';exact ⟨h'.1.2,h'.2⟩
        · cases h'
      refine (JK (v:=.ref Cm) (u:=.ref Cm) ok (ok.hK ▸ kc.xc) hc hd hn h' rfl (fun u' r=>r) (ok.hK ▸ kc.sub m Cm km.ca) fun pos=>X5 (show Gl X p.1 from ok.glob hg.1) hm rfl (zG hg.2).1).imp fun σ H Q ⟨q1,b,q2,q3⟩=>⟨q1,?_⟩
      cases q2
      exact q3
  | .ve,x,h=>by
    have h:(chkIs B c i "ValueError" x&&B.bare.contains ("ValueError":Str))=true:=by cases x <;> exact h
    rw [ε] at h
    have hg:gloK (c.names.lookup ("ValueError":Str))=true:=by
      have h':=h.1
      unfold chkIs at h'
      split at h'
      · simp only [ε] at h';exact h'.1.2
      · cases h'
    refine (JK (v:=.ty "ValueError") (u:=.type "ValueError") ok (ok.hK ▸ kc.xc) hc hd hn h.1 rfl (fun u' r=>r) (ok.hK ▸ kc.ve) fun pos=>X7 (show Gl X "ValueError" from ok.glob hg) (ok.bare _ (ϐ.mp h.2)) (by decide +kernel) rfl (by decide) (by decide)).imp fun σ H Q ⟨q1,b,q2,q3⟩=>⟨q1,?_⟩
    cases q2
    exact q3
  | .var j,x,h=>by
    have h:(match asName x with
      | some q=>c.N[j]?==some q.1&&visK (c.names.lookup q.1)&&zH q.1
      | none=>false)=true:=by cases x <;> exact h
    cases e:asName x with
    | none=>rw [e] at h;cases h
    | some q=>
      rw [e] at h
      have h':(c.N[j]?==some q.1&&visK (c.names.lookup q.1)&&zH q.1)=true:=h
      have ex:=zL e
      subst ex
      rw [ε,ε] at h'
      obtain ⟨⟨h1,h2⟩,h3⟩:=h'
      obtain ⟨p1,p2,p3⟩:=zG h3
      refine (uG (X:=X.hnd ea oe) (by show X.N[j]?=some q.1;rw [ok.N];exact eq_of_beq h1) (show Vis X.env.scope q.1 from ok.vis h2) p1 p2).imp fun σ H Q ⟨q1,b,q2,q3⟩=>⟨_,za9 q2,q3⟩
  | .not a,x,h=>by
    have hb:Λ x.ctorIdx 3=true:=by revert h;cases x <;> first | exact non | exact fun _=>rfl
    revert h;apply j5 hb;clear hb;intro op x p h
    cases op with
    | Not=>
      refine (JH (sH ok kc hc hd hn a x h)).imp fun σ H Q ⟨q1,b,q2,q3⟩=>?_
      obtain ⟨y,e1,e2⟩:=Ζ.mp q2
      subst e2
      exact ⟨q1,y,e1,y,rfl,q3⟩
    | _=>exact nobE h
  | .and a b,x,h=>by
    have hb:Λ x.ctorIdx 0=true:=by revert h;cases x <;> first | exact non | exact fun _=>rfl
    revert h;apply yM hb;clear hb;intro op vs p h
    cases op with
    | Or=>exact nobE (by cases vs <;> exact h)
    | And=>
    cases vs with
    | nil=>exact nobE h
    | cons x vs=>
    cases vs with
    | nil=>exact nobE h
    | cons y r=>
    obtain ⟨h1,h2⟩:=ϛ.mp (show (chkH B c i a x&&chkH B c i b (.BoolOp .And (y::r) p))=true from h)
    refine (JM (sH ok kc hc hd hn a x h1) (sH ok kc hc hd hn b _ h2)).imp fun σ H Q ⟨q1,v,q2,q3⟩=>?_
    obtain ⟨z,e1,e2⟩:=ν.mp q2
    refine ⟨q1,z,e1,z,rfl,?_⟩
    cases z with
    | true=>exact iteT ⟨q1,v,e2,q3⟩
    | false=>cases e2;exact iteF q3
  | .or a b,x,h=>by
    have hb:Λ x.ctorIdx 0=true:=by revert h;cases x <;> first | exact non | exact fun _=>rfl
    revert h;apply yM hb;clear hb;intro op vs p h
    cases op with
    | And=>exact nobE (by cases vs <;> exact h)
    | Or=>
    cases vs with
    | nil=>exact nobE h
    | cons x vs=>
    cases vs with
    | nil=>exact nobE h
    | cons y r=>
    obtain ⟨h1,h2⟩:=ϛ.mp (show (chkH B c i a x&&chkH B c i b (.BoolOp .Or (y::r) p))=true from h)
    refine (pe_or (sH ok kc hc hd hn a x h1) (sH ok kc hc hd hn b _ h2)).imp fun σ H Q ⟨q1,v,q2,q3⟩=>?_
    obtain ⟨z,e1,e2⟩:=ν.mp q2
    refine ⟨q1,z,e1,z,rfl,?_⟩
    cases z with
    | true=>cases e2;exact iteT q3
    | false=>exact iteF ⟨q1,v,e2,q3⟩
  | .one a,x,h=>by
    have hb:Λ x.ctorIdx 0=true:=by revert h;cases x <;> first | exact non | exact fun _=>rfl
    revert h;apply yM hb;clear hb;intro op vs p h
    cases vs with
    | nil=>exact nobE h
    | cons x vs=>
    cases vs with
    | cons _ _=>exact nobE h
    | nil=>exact (JG (sH ok kc hc hd hn a x h)).imp fun σ H Q q=>q
termination_by structural h=>h
noncomputable def asAsg:Stmt->Option (List Expr×Expr×Pos)
 | .Assign ts x p=>some (ts,x,p)
 | _=>none
theorem Jp {st:Stmt}{q:List Expr×Expr×Pos}(h:asAsg st=some q):st=.Assign q.1 q.2.1 q.2.2:=by
 cases st <;> first | (cases h;rfl) | cases h
noncomputable def chkH1 (B:Tb) (c:Cc) (i:Nat) (p:Nat×HB) (st:Stmt):Bool:=match asAsg st with
  | some t=>(match (sole t.1).bind asName with
    | some q=>c.N[p.1]?==some q.1&&stoK c q.1&&!(p.1==i)&&chkH B c i p.2 t.2.1&&hNoC t.2.1
    | none=>false)
  | none=>false
noncomputable def chkHs (B:Tb) (c:Cc) (i:Nat):List (Nat×HB)->List Stmt->Bool
  | [],ss=>yg ss
  | p::r,ss=>(match ss with
    | []=>false
    | st::ss=>chkH1 B c i p st&&chkHs B c i r ss)
def tHS (tb:List (List Nat)) (cn i:Nat) (ea:Addr) (hs:List (Nat×HB)):TS:=fun D σ H=>σ[i]?=some (some (.ref ea))/\∃ σ',hsS tb cn hs σ=some σ'/\D.nx σ' H
theorem W2 {x:Expr}(h:hNoC x=true) (n:Str) (np:Pos) (l:Nat) (env:Env):eQ [.Name n np] x l env=pure false/\dB [.Name n np] x env=pure none:=by
 cases x <;> first | exact ⟨rfl,rfl⟩ | cases h
theorem sHs (ok:XOk Γ B sp k X c) (kc:KCls Γ (B.cls.map (·.2)) cn C) (hc:oe.cls=.ref C) (hd:oe.dict=none) (hn:W.notCls oe=true):∀ (hs:List (Nat×HB)) (ss:List Stmt),chkHs B c i hs ss=true->PSs (X.hnd ea oe) ss (tHS (B.cls.map (·.2)) cn i ea hs)
  | [],ss,h=>by
    cases z8 h
    exact XH.imp fun D σ H ⟨_,σ',e,q⟩=>by cases e;exact q
  | p::r,ss,h=>by
    cases ss with
    | nil=>exact nobE h
    | cons st ss=>
    obtain ⟨h0,h6⟩:=ϛ.mp (show (chkH1 B c i p st&&chkHs B c i r ss)=true from h)
    clear h
    unfold chkH1 at h0
    cases ea0:asAsg st with
    | none=>rw [ea0] at h0;exact nobE h0
    | some t=>
    rw [ea0] at h0
    cases Jp ea0
    obtain ⟨ts,x,ap⟩:=t
    have h:(match (sole ts).bind asName with
      | some q=>c.N[p.1]?==some q.1&&stoK c q.1&&!(p.1==i)&&chkH B c i p.2 x&&hNoC x
      | none=>false)=true:=h0
    cases e:(sole ts).bind asName with
    | none=>rw [e] at h;exact nobE h
    | some q=>
      rw [e] at h
      have h':(c.N[p.1]?==some q.1&&stoK c q.1&&!(p.1==i)&&chkH B c i p.2 x&&hNoC x)=true:=h
      simp only [ε] at h'
      obtain ⟨⟨⟨⟨h1,h2⟩,h3⟩,h4⟩,h5⟩:=h'
      obtain ⟨tg,e1,e2⟩:=ν.mp e
      have es:=vD e1
      have en:=zL e2
      subst es en
      have hi':(X.hnd ea oe).N[p.1]?=some q.1:=by show X.N[p.1]?=some q.1;rw [ok.N];exact eq_of_beq h1
      have hpg:PG (X.hnd ea oe) (.Name q.1 q.2) (gName p.1):=by
        unfold stoK at h2
        cases z:c.names.lookup q.1 with
        | none=>rw [z] at h2;cases h2
        | some kd=>
          rw [z] at h2
          have z':(X.hnd ea oe).env.scope.names.lookup q.1=some kd:=by show X.env.scope.names.lookup q.1=_;rw [ok.nm];exact z
          cases kd with
          | «local»=>exact jh (show X.N.Nodup from ok.nd) hi' (.inl z') (.inr z')
          | cell=>exact jh (show X.N.Nodup from ok.nd) hi' (.inr z') (.inl (ok.fn h2 q.1))
          | _=>cases h2
      obtain ⟨w1,w2⟩:=W2 h5 q.1 q.2 ap.line (X.hnd ea oe).env
      refine (ZX (XJ (sH ok kc hc hd hn p.2 x h4) hpg w1 w2 rfl) (sHs ok kc hc hd hn r ss h6)).imp fun D σ H ⟨q1,σ',q2,q3⟩=>?_
      obtain ⟨b,e3,e4⟩:=ν.mp q2
      refine ⟨q1,b,e3,?_,σ',e4,q3⟩
      rw [Ε (by simpa using h3)]
      exact q1
end
section
variable {Γ:Gm}{B:Tb}{cx:Xp->Cf}{ex:Xp}{k w:Nat}{X:Cx}{c:Cc}{Hz:Hp}{gz:G}{i ce f:Nat}{tb:List (List Nat)}{hs:List (Nat×HB)}{es:List E}
theorem s_rse {n msg:Str}{j cn:Nat}{l:List Nat}{np cp p pos:Pos}(ok:XOk Γ B (spN Γ cx) k X c) (hn:B.cls[cn]?=some (n,l)) (hg:Gl X n) (hd:(n==("__debug__":Str))=false)
  (xr:∀ pJ σ H s g S c C h' ea args,Inv X pJ σ H s->Step Hz gz H g->WOk Γ H g S->ex c S->Γ.ca c=some C->gM s.heap h' ea (.ref C) args->X.xe (.ref ea) { s with heap:=h' }):
  PS X (.Raise (some (.Call (.Name n np) [.Constant (.str msg) j p] [] cp)) none pos) (TC Γ cx ex w Hz gz (.rse cn)):=fun pJ s σ H D I h0=>goK h0 fun ρ S K g hw st wk env nn=>by
 obtain ⟨C,hm,kc⟩:=ok.cl cn n l hn
 exact Ud I ok.calm hg hm hd (ok.hK ▸ kc.ex) fun s1 h' ea args I1 m=>xr pJ σ H s1 g S cn C h' ea args I1 st wk hw kc.ca m
theorem s_tri {n nm cnm:Str}{l:List Nat}{x:Expr}{xs:List Expr}{fp cp ep cnp hp pos:Pos}{b0:Stmt}{suite:List Stmt}(ok:XOk Γ B (spN Γ cx) k X c) (sk:X.stack=X.env::X.outer) (fr:X.env.frame=some X.env.locals) (hcf:∀ ex,CfN B (cx ex)) (hf:B.fns[f]?=some n) (hg:Gl X n) (hdb:(n==("__debug__":Str))=false)
  (hst:∀ z∈x::xs,notStar z=true) (ha:∀ E,PA (X.wish E) (x::xs) (TXs Γ (cx noX) es)) (htb:tb=B.cls.map (·.2)) (hce:B.cls[ce]?=some (cnm,l)) (hgc:Gl X cnm) (hdc:(cnm==("__debug__":Str))=false)
  (hN:X.N[i]?=some nm) (hloc:X.env.kindOf nm=some .local) (hsu:chkHs B c i hs (b0::suite)=true):
  PS X (.Try [.Expr (.Call (.Name n fp) (x::xs) [] cp) ep] [.ExceptHandler (some (.Name cnm cnp)) (some nm) (b0::suite) hp] [] [] pos) (TC Γ cx ex w Hz gz (.tri tb f es ce i hs)):=by
 intro pJ s σ H D I h0
 refine goK h0 fun ρ S K g hw st wk env nn=>?_
 obtain ⟨a,fd,ps,f1,f2,f3,f4,f5,f6,_⟩:=(ok.fns f n hf).ex
 obtain ⟨Cc,hmc,kcc⟩:=ok.cl ce cnm l hce
 refine wpAny_Try_except ?_
 generalize hE2:(fun e s₁=>ψ (Ι X.prog X.w) X.A (gD e X.env) (fun _ s₂=>ψ (Ι X.prog X.w) X.A (iW e none) (fun _ s₃=>ψ (Ι X.prog X.w) X.A (handleBy e X.env [.ExceptHandler (some (.Name cnm cnp)) (some nm) (b0::suite) hp]) (SP X pJ D) X.xe s₃) X.xe s₂) X.xe s₁)=E2
 have I2:Inv (X.wish E2) pJ σ H s:=I.wish _
 refine wpAny_execs_cons (wpAny_Expr_any ?_ I.quiet rfl)
 refine bL (xZ I hg f2 ?_ hdb)
 refine PySem.W.callWith_K (h₀:=X.base) I.ok.mod.kin f3 (thn (ha E2 cp pJ s σ H (fun vs H1=>∃ ds g1 S1,Step H g H1 g1/\WOk Γ H1 g1 S1/\Hass Γ g1 ds vs/\cx (fun c S2=>tst (subT tb c ce) (opt (hsR tb c hs (ρ.set i .no)) fun ρ'=>K (.next (ρ'.set i .no)) S2) False) f ds (fun _ S2=>K (.next ρ) S2) S1) I2
  ⟨ρ,S,_,g,Hz,hw,wk,env,fun ds vs H1 g1 S1 st1 w1 hv hc=>⟨ds,g1,S1,st1,w1,hv,hc⟩⟩) fun us s1 ⟨vs,H1,I1,r,ds,g1,S1,st1,w1,hv,hc⟩=>⟨I1.kIn,?_⟩) (zb (hst x ι) _ _) (wy fun z hz=>hst z (θ _ hz))
 have hl:vs.length=ps.length:=by rw [hv.len];exact hcf _ f ds _ S1 ps f5 hc
 have hl':(us++[]).length=ps.length:=by rw [χ,<- r.length];exact hl
 have hb:=f4 s1 us I1.kIn hl'
 rw [χ] at hb
 refine oA (dX (f6.run X.A X.stack s1 H1 ⟨us,[]⟩ us vs (fun v H'=>∃ g2 S2,Step H1 g1 H' g2/\WOk Γ H' g2 S2/\K (.next ρ) S2)
  (fun e C H'=>∃ c g2 S2,Step H1 g1 H' g2/\WOk Γ H' g2 S2/\Γ.ca c=C/\tst (subT tb c ce) (opt (hsR tb c hs (ρ.set i .no)) fun ρ'=>K (.next (ρ'.set i .no)) S2) False) ok.room I1.env0 hb r
  ⟨hl,g1,ds,S1,_,_,w1,hv,hc,fun x v H' g' S' s2 w2 vx q=>⟨g',S',s2,w2,q⟩,fun c e C H' g' S' s2 w2 hca q=>⟨c,g',S',s2,w2,hca,q⟩⟩) fun r s' hq=>?_)
 cases r with
 | ok fl=>
  cases fl with
  | ret u=>
   obtain ⟨v,H',I',_,g2,S2,s2,w2,q⟩:=I1.after hq
   exact fc (fc ⟨σ,H',I'.yp,nn.nx ρ σ H' g2 S2 (st.trans (st1.trans s2)) (st1.le.trans s2.le) w2 (zp env (st1.trans s2)) q⟩)
  | next=>exact Ϥ hq
  | brk=>exact Ϥ hq
  | cont=>exact Ϥ hq
 | error e=>
  subst hE2
  have hq:CX1 X.prog X.w X.stack H1 s1 (fun e C H'=>∃ c g2 S2,Step H1 g1 H' g2/\WOk Γ H' g2 S2/\Γ.ca c=C/\tst (subT tb c ce) (opt (hsR tb c hs (ρ.set i .no)) fun ρ'=>K (.next (ρ'.set i .no)) S2) False) e s':=hq
  refine Wl (X:=X) (W:=X.xe) sk fr I1.yp hq fun ea T C H' h2 ee F n1 n2 n3 n4 J hE=>?_
  subst ee
  obtain ⟨cn,g2,S2,s2,w2,hca,hx⟩:=hE
  obtain ⟨hsub,hx⟩:=wB hx
  obtain ⟨ρ',eh,hK⟩:=zQ hx
  obtain ⟨x',l',ecl⟩:=ok.ca cn C hca
  obtain ⟨C',hm',kc⟩:=ok.cl cn x' l' ecl
  have eC:C'=C:=ϙ (kc.ca.symm.trans hca)
  subst eC
  obtain ⟨⟨oe,us',he,⟨hcl,hdi⟩,hd,h1⟩,ne,⟨oT,ts,hT,dT,h3⟩⟩:=F
  have hncl:PySem.W.notCls oe=true:=by unfold PySem.W.notCls;rw [hd]
  have hex1:∀ b o,s1.heap.get? b=some o->ea≠b:=fun b o q z=>by rw [<- z,n1] at q;cases q
  obtain ⟨m0,⟨oL,_,_,hoL,_⟩,_⟩:=id I1.loc
  have J3:Inv (X.hnd ea oe) pJ σ H' { s' with heap:=h2 }:=J.hnd he n3 (hex1 _ _ hoL) (fun z=>by
   have:=I1.yp.stack.mem (b:=ea) (by rw [sk,show (X.env::X.outer).filterMap (·.frame)=frs (X.env::X.outer) from rfl,W3 fr];exact θ _ z)
   obtain ⟨_,o,ho,_⟩:=this
   exact hex1 _ _ ho rfl) (fun v q=>by rw [hd] at q;cases q)
  show ψ (Ι X.prog X.w) X.A (handleBy (.ref ea) X.env _) (SP X pJ D) X.xe _
  refine wpAny_handleBy_cons (codeAny_handlers_test ?_) (by intro q;cases q)
  refine xZ (X:=X.hnd ea oe) J3 hgc hmc ?_ hdc
  have LT:PySem.W.Looks (Ι X.prog X.w) h2 (typeOf (.ref ea)) (.ref C'):=hcl ▸ (PySem.W.Looks.ld he).andThen .now
  have hem:=kc.em ce Cc kcc.ca
  rw [<- htb,hsub,<- ok.hK] at hem
  refine (PySem.W.exm_one (K:=X.K) J.kIn LT hem).at ?_
  show lg _ _ _ _ _
  refine codeAny_handlers_suite_as ?_
  refine wpAny_setFlight_none he hd h1 hT dT (cO.mp h3).1 ?_
  rw [show ({ s' with heap:=h2 }:μ).heap.update T (ϲ (·.setIfInBounds 3 .none))=h2 from Heap.update_setField_same h2 T oT ts 3 .none hT dT h3]
  refine ZK (X:=X.hnd ea oe) J3 (show X.N.Nodup from ok.nd) hN (.inl hloc) (v:=.ref ea) rfl (fun s4 J4=>?_) (.inr hloc)
  have env2:EnvO Γ Hz H' g2 (ρ.set i .no) (σ.set i (some (.ref ea))):=(zp env (st1.trans s2)).no
  obtain ⟨σ',eσ,env3⟩:=Ke env2 eh
  have hi:i < σ.length:=by rw [I.len];exact (Θ.mp hN).1
  rw [htb] at eσ
  refine aN (sHs (ea:=ea) ok kc hcl hdi hncl hs (b0::suite) hsu pJ s4 (σ.set i (some (.ref ea))) H' { nx:=fun σ5 H5=>σ5=σ'/\H5=H',rt:=fun _ _=>False } J4 ⟨Ϛ hi,σ',eσ,rfl,rfl⟩) (fun fl s5 q=>?_) fun _ _ z=>z.elim
  cases fl with
  | next=>
   obtain ⟨σ5,H5,J5,e5,e6⟩:=q
   subst e5 e6
   refine zaw (J5.unhnd I.ok) ok.nd hN hloc fun s6 J6=>⟨_,_,J6,nn.nx (ρ'.set i .no) _ _ g2 S2 (st.trans (st1.trans s2)) (st1.le.trans s2.le) w2 env3.no hK⟩
  | brk=>obtain ⟨_,_,_,z⟩:=q;exact z.elim
  | cont=>obtain ⟨_,_,_,z⟩:=q;exact z.elim
  | ret u=>obtain ⟨_,_,_,_,_,z⟩:=q;exact z.elim
end
noncomputable def qW:Expr->Bool
 | .ListComp _ _ _ _=>false
 | .SetComp _ _ _ _=>false
 | .DictComp _ _ _ _ _=>false
 | _=>true
noncomputable def ju:E->Bool
 | .comp _ _ _ _ _=>true
 | _=>false
noncomputable def vP:Expr->Bool
 | .Tuple _ _ _=>false
 | _=>true
noncomputable def uV (c:Cc) (n:Str) (np:Pos):Expr->Bool
 | .ListComp _ _ sc p=>c.names.lookup n==some .local&&np.line==p.line&&!(sc.names.any fun (m,k)=>m==n&&(k==.local||k==.cell))
 | _=>false
noncomputable def chkN (c:Cc) (i:Nat) (n:Str):Bool:=c.N[i]?==some n&&visK (c.names.lookup n)&&zH n
structure Meth where
 o:Expr
 m:Str
 ap:Pos
 x:Expr
 cp:Pos
noncomputable def Yq:Expr->Option Meth
 | .Call f args kws cp=>if yg kws=true then (asAtt f).bind fun q=>(sole args).map fun x=>⟨q.1,q.2.1,q.2.2,x,cp⟩ else none
 | _=>none
set_option tactic.hygienic true in
theorem VF {x:Expr}{q:Meth}(h:Yq x=some q):x=.Call (.Attribute q.o q.m q.ap) [q.x] [] q.cp:=by
 cases x with
 | Call f args kws cp=>
  have h:(if yg kws=true then (asAtt f).bind fun q=>(sole args).map fun x=>(⟨q.1,q.2.1,q.2.2,x,cp⟩:Meth) else none)=some q:=h
  split at h
  ·rename_i hn
   cases e1:asAtt f with
   | none=>rw [e1] at h;cases h
   | some z=>
    rw [e1] at h
    cases e2:sole args with
    | none=>rw [e2] at h;cases h
    | some y=>
     rw [e2] at h
     cases h
     rw [z8 hn,Jo e1,vD e2]
  ·cases h
 | _=>cases h
noncomputable def ww (B:Tb) (c:Cc) (name:Str) (i:Nat) (e:E) (x:Expr):Bool:=match Yq x with
  | some q=>(match asName q.o with
    | some r=>chkN c i r.1&&q.m==name&&chkE B c e q.x&&notStar q.x&&q.ap.endLine==q.cp.line
    | none=>false)
  | none=>false
theorem uP {B:Tb}{c:Cc}{name:Str}{i:Nat}{e:E}{x:Expr}(h:ww B c name i e x=true):∃ n np ap y cp,x=.Call (.Attribute (.Name n np) name ap) [y] [] cp/\chkN c i n=true/\chkE B c e y=true/\notStar y=true/\(ap.endLine==cp.line)=true:=by
  unfold ww at h
  cases e1:Yq x with
  | none=>rw [e1] at h;cases h
  | some q=>
    rw [e1] at h
    have h:(match asName q.o with
      | some r=>chkN c i r.1&&q.m==name&&chkE B c e q.x&&notStar q.x&&q.ap.endLine==q.cp.line
      | none=>false)=true:=h
    cases e2:asName q.o with
    | none=>rw [e2] at h;cases h
    | some r=>
      rw [e2] at h
      have h:(chkN c i r.1&&q.m==name&&chkE B c e q.x&&notStar q.x&&q.ap.endLine==q.cp.line)=true:=h
      simp only [ε] at h
      obtain ⟨⟨⟨⟨h1,h2⟩,h3⟩,h4⟩,h5⟩:=h
      refine ⟨r.1,r.2,q.ap,q.x,q.cp,?_,h1,h3,h4,h5⟩
      rw [VF e1,zL e2,eq_of_beq h2]
noncomputable def asM0:Expr->Option (Expr×Str×Pos×Pos)
  | .Call f as ks cp=>(match f with
    | .Attribute o m ap=>(match as with
      | []=>(match ks with
        | []=>some (o,m,ap,cp)
        | _=>none)
      | _=>none)
    | _=>none)
  | _=>none
noncomputable def zcR (c:Cc) (i:Nat) (x:Expr):Bool:=match asM0 x with
  | some q=>(match asName q.1 with
    | some r=>chkN c i r.1&&q.2.1==("pop":Str)&&q.2.2.1.endLine==q.2.2.2.line
    | none=>false)
  | none=>false
noncomputable def zcO (B:Tb) (c:Cc) (o e:E) (x:Expr):Bool:=match Yq x with
 | some q=>(asName q.o).isSome&&chkE B c o q.o&&q.m==("append":Str)&&chkE B c e q.x&&notStar q.x&&q.ap.endLine==q.cp.line
 | none=>false
noncomputable def zcN (B:Tb) (c:Cc) (o:E) (x:Expr):Bool:=match asM0 x with
 | some q=>(asName q.1).isSome&&chkE B c o q.1&&q.2.1==("pop":Str)&&q.2.2.1.endLine==q.2.2.2.line
 | none=>false
noncomputable def isNT:Expr->Bool
 | .Name _ _=>true
 | .Tuple _ _ _=>true
 | _=>false
noncomputable def asRx:Expr->Option Str
  | .Call f as ks _=>(asName f).bind fun q=>(match as with
    | [a]=>(match a with
      | .Constant k _ _=>(match k with
        | .str _=>if yg ks=true then some q.1 else none
        | _=>none)
      | _=>none)
    | _=>none)
  | _=>none
set_option tactic.hygienic true in
theorem zaK {x:Expr}{n:Str}(h:asRx x=some n):∃ np msg j p cp,x=.Call (.Name n np) [.Constant (.str msg) j p] [] cp:=by
 cases x with
 | Call f as ks cp=>
  obtain ⟨q,e1,h⟩:=ν.mp (show (asName f).bind _=some n from h)
  match as,h with
  | [a],h=>
   cases a with
   | Constant k j p=>
    cases k with
    | str m=>
     have h:(if yg ks=true then some q.1 else none)=some n:=h
     split at h
     ·rename_i hn
      cases h
      rw [zL e1,z8 hn]
      exact ⟨_,_,_,_,_,rfl⟩
     ·cases h
    | _=>cases h
   | _=>cases h
  | [],h=>cases h
  | _::_::_,h=>cases h
 | _=>cases h
noncomputable def asRse:Stmt->Option Str
 | .Raise e c _=>e.bind fun x=>if c.isNone=true then asRx x else none
 | _=>none
set_option tactic.hygienic true in
theorem Jm {st:Stmt}{n:Str}(h:asRse st=some n):∃ np msg j p cp pos,st=.Raise (some (.Call (.Name n np) [.Constant (.str msg) j p] [] cp)) none pos:=by
 cases st with
 | Raise e c pos=>
  obtain ⟨x,e1,h⟩:=ν.mp (show e.bind _=some n from h)
  split at h
  ·rename_i hc
   obtain ⟨np,msg,j,p,cp,rfl⟩:=zaK h
   cases c with
   | none=>subst e1;exact ⟨_,_,_,_,_,_,rfl⟩
   | some _=>cases hc
  ·cases h
 | _=>cases h
structure Tri where
 n:Str
 fp:Pos
 xs:List Expr
 cp:Pos
 ep:Pos
 cnm:Str
 cnp:Pos
 nm:Str
 ss:List Stmt
 hp:Pos
 pos:Pos
noncomputable def asH1:ExceptHandler->Option (Str×Pos×Str×List Stmt×Pos)
 | .ExceptHandler t n ss p=>t.bind fun t=>(asName t).bind fun q=>n.bind fun n=>some (q.1,q.2,n,ss,p)
noncomputable def asB1:Stmt->Option (Str×Pos×List Expr×Pos×Pos)
  | .Expr x ep=>(match x with
    | .Call f as ks cp=>(asName f).bind fun q=>if yg ks=true then some (q.1,q.2,as,cp,ep) else none
    | _=>none)
  | _=>none
noncomputable def asTri:Stmt->Option Tri
 | .Try b hs o f pos=>(sole b).bind fun b=>(asB1 b).bind fun q=>(sole hs).bind fun h=>(asH1 h).bind fun r=>if (yg o&&yg f)=true then some ⟨q.1,q.2.1,q.2.2.1,q.2.2.2.1,q.2.2.2.2,r.1,r.2.1,r.2.2.1,r.2.2.2.1,r.2.2.2.2,pos⟩ else none
 | _=>none
set_option tactic.hygienic true in
theorem zaM {s:Stmt}{q:Str×Pos×List Expr×Pos×Pos}(h:asB1 s=some q):s=.Expr (.Call (.Name q.1 q.2.1) q.2.2.1 [] q.2.2.2.1) q.2.2.2.2:=by
 cases s with
 | Expr x ep=>
  cases x with
  | Call f as ks cp=>
   obtain ⟨r,e1,h⟩:=ν.mp (show (asName f).bind _=some q from h)
   split at h
   ·rename_i hn
    cases h
    rw [zL e1,z8 hn]
   ·cases h
  | _=>cases h
 | _=>cases h
set_option tactic.hygienic true in
theorem Jl {s:Stmt}{t:Tri}(h:asTri s=some t):s=.Try [.Expr (.Call (.Name t.n t.fp) t.xs [] t.cp) t.ep] [.ExceptHandler (some (.Name t.cnm t.cnp)) (some t.nm) t.ss t.hp] [] [] t.pos:=by
 cases s with
 | Try b hs o f pos=>
  obtain ⟨b1,e1,h⟩:=ν.mp (show (sole b).bind _=some t from h)
  obtain ⟨q,e2,h⟩:=ν.mp h
  obtain ⟨h1,e3,h⟩:=ν.mp h
  obtain ⟨r,e4,h⟩:=ν.mp h
  split at h
  ·rename_i hn
   cases h
   rw [ε] at hn
   obtain ⟨ty,nm,ss,p⟩:=h1
   obtain ⟨ty,rfl,e4⟩:=ν.mp (show ty.bind _=some r from e4)
   obtain ⟨z,e5,e4⟩:=ν.mp e4
   obtain ⟨nm,rfl,e4⟩:=ν.mp e4
   cases e4
   rw [vD e1,zaM e2,vD e3,zL e5,z8 hn.1,z8 hn.2]
  ·cases h
 | _=>cases h
noncomputable def Vm (B:Tb) (c:Cc) (cn:Nat) (st:Stmt):Bool:=match asRse st with
 | some n=>(B.cls[cn]?).map (·.1)==some n&&gloK (c.names.lookup n)&&zH n
 | none=>false
noncomputable def Vk (B:Tb) (c:Cc) (tb:List (List Nat)) (f:Nat) (es:List E) (ce i:Nat) (hs:List (Nat×HB)) (st:Stmt):Bool:=match asTri st with
 | some t=>B.fns[f]?==some t.n&&gloK (c.names.lookup t.n)&&zH t.n&&chkEs B c es t.xs&&!es.isEmpty&&tb==B.cls.map (·.2)&&(B.cls[ce]?).map (·.1)==some t.cnm&&gloK (c.names.lookup t.cnm)&&zH t.cnm&&c.N[i]?==some t.nm&&c.names.lookup t.nm==some .local&&!t.ss.isEmpty&&chkHs B c i hs t.ss
 | none=>false
mutual
noncomputable def chkC (B:Tb) (c:Cc):C->Stmt->Bool
  | .set t e,.Assign ts x _=>(match sole ts with
    | some tg=>chkE B c e x&&chkT c t tg&&(match asName tg with
      | some q=>!uV c q.1 q.2 x||ju e
      | none=>kZ tg&&vP x)
    | none=>false)
  | .expr e,.Expr x _=>chkE B c e x&&qW x
  | .ret e,.Return v _=>(match v with
    | some x=>chkE B c e x
    | none=>false)
  | .retN,.Return v _=>v.isNone
  | .ite e a b,.If x aa bb _=>chkE B c e x&&chkCs B c a aa&&chkCs B c b bb
  | .whl e b,.While x bb r _=>chkE B c e x&&chkCs B c b bb&&yg r
  | .forr t it b,.For tgt x bb r _=>chkI B c it tgt x&&chkT c t tgt&&wI x&&chkCs B c b bb&&yg r
  | .app i e,.Expr x _=>ww B c "append" i e x
  | .ext i e,.Expr x _=>ww B c "extend" i e x
  | .rse cn,st=>Vm B c cn st
  | .tri tb f es ce i hs,st=>Vk B c tb f es ce i hs st
  | .pass,.Pass _=>true
  | .brk,.Break _=>true
  | .cnt,.Continue _=>true
  | _,_=>false
noncomputable def chkCs (B:Tb) (c:Cc):List C->List Stmt->Bool
 | .frz _::ss,xs=>chkCs B c ss xs
 | .frr _::ss,xs=>chkCs B c ss xs
 | .frk _::ss,xs=>chkCs B c ss xs
 | [],[]=>true
 | s::ss,x::xs=>chkC B c s x&&chkCs B c ss xs
 | _,_=>false
end
structure XSt (Γ:Gm) (B:Tb) (cx:Xp->Cf) (ex:Xp) (Hz:Hp) (gz:G) (k:Nat) (X:Cx) (c:Cc):Prop where
 ok:XOk Γ B (spN Γ cx) k X c
 fn:c.fn=true
 own:lr (Ι X.prog X.w) X.A X.env X.xe
 hcf:∀ ex,CfN B (cx ex)
 hm:MonoX cx
 sk:X.stack=X.env::X.outer
 fr:X.env.frame=some X.env.locals
 xr:∀ pJ σ H s g S c C h' ea args,Inv X pJ σ H s->Step Hz gz H g->WOk Γ H g S->ex c S->Γ.ca c=some C->gM s.heap h' ea (.ref C) args->X.xe (.ref ea) { s with heap:=h' }
section
variable {Γ:Gm}{B:Tb}{cx:Xp->Cf}{ex:Xp}{k w:Nat}{X:Cx}{c:Cc}{Hz:Hp}{gz:G}{x:Expr}{e:E}{n:Str}{pos np:Pos}{i:Nat}
theorem XSt.pe (ok:XSt Γ B cx ex Hz gz k X c) (h:chkE B c e x=true):PE X x (TX Γ (cx noX) e):=(sA (ok.hcf noX) ok.hm.no e X c x ok.ok h).1
theorem XSt.pt (ok:XSt Γ B cx ex Hz gz k X c) (h:chkE B c e x=true):PT X x (TB Γ (cx noX) e):=(sA (ok.hcf noX) ok.hm.no e X c x ok.ok h).2.1
theorem j7 (h:qW x=true) (t:Option Expr) (l:Nat) (env:Env):gC x t l env=pure false:=by
 cases x <;> first | rfl | cases h
theorem V4 (x:Expr) (es:List Expr) (kk:Nat) (p:Pos) (l:Nat) (env:Env):eQ [.Tuple es kk p] x l env=pure false:=by
 cases x <;> rfl
theorem qN (x:Expr) (n:Str) (p:Pos) (env:Env):dB [.Name n p] x env=pure none:=by
 cases x <;> rfl
theorem YB (h:vP x=true) (es:List Expr) (kk:Nat) (p:Pos) (env:Env):dB [.Tuple es kk p] x env=pure none:=by
 cases x <;> first | rfl | cases h
theorem noSC {y:Expr}{g:List Comprehension}{sc:dD}{p:Pos}(e:E) (h:chkE B c e (.SetComp y g sc p)=true):False:=by
 cases e with
 | box e=>exact nobE h
 | _=>exact nobE h
theorem noDC {y z:Expr}{g:List Comprehension}{sc:dD}{p:Pos}(e:E) (h:chkE B c e (.DictComp y z g sc p)=true):False:=by
 cases e with
 | box e=>exact nobE h
 | _=>exact nobE h
theorem Xj (ok:XOk Γ B (spN Γ cx) k X c) (hx:chkE B c e x=true) (l:Nat):gC x (some (.Name n np)) l X.env=pure (uV c n np x):=by
 have hk:X.env.kindOf n=c.names.lookup n:=by
  unfold iU
  rw [ok.nm]
 have hb:X.env.blockKind=.function:=by
  unfold Env.blockKind
  rw [ok.kd]
  rfl
 cases x with
 | ListComp y g sc p=>
  show pure (X.env.blockKind==.function&&X.env.kindOf n==some .local&&np.line==p.line&&!(sc.names.any fun (m,k)=>m==n&&(k==.local||k==.cell)))=(pure (c.names.lookup n==some .local&&np.line==p.line&&!(sc.names.any fun (m,k)=>m==n&&(k==.local||k==.cell))):Sem Bool)
  rw [hb,hk]
  rfl
 | SetComp y g sc p=>exact (noSC e hx).elim
 | DictComp y g a sc p=>exact (noDC e hx).elim
 | _=>rfl
theorem Ju (ok:XSt Γ B cx ex Hz gz k X c) {t:T}{tgt:Expr}(h1:chkE B c e x=true) (hpg:PG X tgt (tgOf X.K t)) (hs:eQ [tgt] x pos.line X.env=pure false) (hw:dB [tgt] x X.env=pure none) (ha:(bN [tgt] X.env).map (·.2)=[lV tgt X.env]):PS X (.Assign [tgt] x pos) (TC Γ cx ex w Hz gz (.set t e)):=by
 cases hn:noBox e with
 | true=>exact s_set hn (ok.pe h1) hpg hs hw ha
 | false=>
  cases e with
  | box e=>exact zbm (ok.pe (e:=e) (ε _ _ ▸ (show (XN x&&chkE B c e x)=true from h1)).2) hpg hs hw ha
  | _=>cases hn
theorem zby (ok:XSt Γ B cx ex Hz gz k X c) {t:T}{ts:List Expr}(h:chkC B c (.set t e) (.Assign ts x pos)=true):PS X (.Assign ts x pos) (TC Γ cx ex w Hz gz (.set t e)):=by
  have h:(match sole ts with
    | some tg=>chkE B c e x&&chkT c t tg&&(match asName tg with
      | some q=>!uV c q.1 q.2 x||ju e
      | none=>kZ tg&&vP x)
    | none=>false)=true:=h
  cases e1:sole ts with
  | none=>rw [e1] at h;cases h
  | some tg=>
    rw [e1] at h
    have et:=vD e1
    subst et
    have h:(chkE B c e x&&chkT c t tg&&(match asName tg with
      | some q=>!uV c q.1 q.2 x||ju e
      | none=>kZ tg&&vP x))=true:=h
    rw [ε,ε] at h
    obtain ⟨⟨h1,h2⟩,h3⟩:=h
    have hpg:=Xh ok.ok h2
    cases e2:asName tg with
    | some q=>
      rw [e2] at h3
      have et:=zL e2
      obtain ⟨n,np⟩:=q
      subst et
      have h3:(!uV c n np x||ju e)=true:=h3
      have hsw:=Xj (n:=n) (np:=np) ok.ok h1 pos.line
      cases ha:uV c n np x with
      | false=>
        rw [ha] at hsw
        exact Ju ok h1 hpg hsw (qN x n np X.env) rfl
      | true=>
        rw [ha] at h3 hsw
        cases e with
        | comp t' js it ifs elt=>
          cases t with
          | one i=>exact zbl (sCS (ok.hcf noX) ok.hm.no ok.ok h1) hpg hsw
          | tup is=>exact nobE h2
          | nst _ _=>exact nobE h2
        | _=>cases h3
    | none=>
      rw [e2] at h3
      have h3:(kZ tg&&vP x)=true:=h3
      rw [ε] at h3
      cases tg with
      | Tuple es kk p=>exact Ju ok h1 hpg (V4 x es kk p pos.line X.env) (YB h3.2 es kk p X.env) rfl
      | _=>cases h3.1
theorem s_rt (ok:XSt Γ B cx ex Hz gz k X c) (h:chkE B c e x=true):PS X (.Return (some x) pos) (TC Γ cx ex w Hz gz (.ret e)):=by
 by_cases hv:∃ i,e=.var i
 ·obtain ⟨i,rfl⟩:=hv
  have hb:Λ x.ctorIdx 23=true:=by revert h;cases x <;> first | exact non | exact fun _=>rfl
  revert h;apply xG hb;clear hb;intro n p h
  have h:(c.N[i]?==some n&&visK (c.names.lookup n)&&zH n)=true:=h
  simp only [ε] at h
  obtain ⟨q1,q2,_⟩:=zG h.2
  exact zbp (by rw [ok.ok.N];exact eq_of_beq h.1.1) (ok.ok.vis h.1.2) q1 q2
 ·exact s_ret (fun i q=>hv ⟨i,q⟩) (ok.pe h)
mutual
theorem sC (ok:XSt Γ B cx ex Hz gz k X c):∀ (s:C) (st:Stmt),chkC B c s st=true->PS X st (TC Γ cx ex w Hz gz s)
 | .set t e,st,h=>by
  have hb:Λ st.ctorIdx 5=true:=by revert h;cases st <;> first | exact non | exact fun _=>rfl
  revert h;apply Wf hb;clear hb;intro ts x pos h
  exact zby ok h
 | .expr e,st,h=>by
  have hb:Λ st.ctorIdx 24=true:=by revert h;cases st <;> first | exact non | exact fun _=>rfl
  revert h;apply qT hb;clear hb;intro x pos h
  have h:(chkE B c e x&&qW x)=true:=h
  simp only [ε] at h
  exact zbw (ok.pe h.1) (j7 h.2 none pos.line X.env)
 | .ret e,st,h=>by
  have hb:Λ st.ctorIdx 3=true:=by revert h;cases st <;> first | exact non | exact fun _=>rfl
  revert h;apply j6 hb;clear hb;intro v pos h
  cases v with
  | none=>exact nobE h
  | some x=>exact s_rt ok h
 | .retN,st,h=>by
  have hb:Λ st.ctorIdx 3=true:=by revert h;cases st <;> first | exact non | exact fun _=>rfl
  revert h;apply j6 hb;clear hb;intro v pos h
  cases v with
  | some x=>exact nobE h
  | none=>exact zbq
 | .ite e a b,st,h=>by
  have hb:Λ st.ctorIdx 12=true:=by revert h;cases st <;> first | exact non | exact fun _=>rfl
  revert h;apply ofSIf hb;clear hb;intro x aa bb pos h
  have h:(chkE B c e x&&chkCs B c a aa&&chkCs B c b bb)=true:=h
  simp only [ε] at h
  exact s_if (ok.pt h.1.1) (sCs ok a aa h.1.2) (sCs ok b bb h.2)
 | .whl e b,st,h=>by
  have hb:Λ st.ctorIdx 11=true:=by revert h;cases st <;> first | exact non | exact fun _=>rfl
  revert h;apply Uv hb;clear hb;intro x bb r pos h
  have h:(chkE B c e x&&chkCs B c b bb&&yg r)=true:=h
  simp only [ε] at h
  have hr:=z8 h.2
  subst hr
  exact K7 (ok.pt h.1.1) (sCs ok b bb h.1.2) ok.own
 | .forr t it b,st,h=>by
  have hb:Λ st.ctorIdx 9=true:=by revert h;cases st <;> first | exact non | exact fun _=>rfl
  revert h;apply zb3 hb;clear hb;intro tgt x bb r pos h
  have h:(chkI B c it tgt x&&chkT c t tgt&&wI x&&chkCs B c b bb&&yg r)=true:=h
  simp only [ε] at h
  obtain ⟨⟨⟨⟨h1,h2⟩,h3⟩,h4⟩,h5⟩:=h
  have hr:=z8 h5
  subst hr
  exact s_for (sI (ok.hcf noX) ok.hm.no it X c tgt x ok.ok h1) (Xh ok.ok h2) (sCs ok b bb h4) ok.own ok.ok.calm (qe h3 X.env)
 | .app i e,st,h=>by
  have hb:Λ st.ctorIdx 24=true:=by revert h;cases st <;> first | exact non | exact fun _=>rfl
  revert h;apply qT hb;clear hb;intro x pos h
  obtain ⟨n,np,ap,y,cp,rfl,h1,h3,h4,h5⟩:=uP (show ww B c "append" i e x=true from h)
  unfold chkN at h1
  simp only [ε] at h1
  obtain ⟨q1,q2,_⟩:=zG h1.2
  exact s_app (by rw [ok.ok.N];exact eq_of_beq h1.1.1) (ok.ok.vis h1.1.2) q1 q2 (ok.pe h3) h4 h5
 | .ext i e,st,h=>by
  have hb:Λ st.ctorIdx 24=true:=by revert h;cases st <;> first | exact non | exact fun _=>rfl
  revert h;apply qT hb;clear hb;intro x pos h
  obtain ⟨n,np,ap,y,cp,rfl,h1,h3,h4,h5⟩:=uP (show ww B c "extend" i e x=true from h)
  unfold chkN at h1
  simp only [ε] at h1
  obtain ⟨q1,q2,_⟩:=zG h1.2
  exact s_ext (by rw [ok.ok.N];exact eq_of_beq h1.1.1) (ok.ok.vis h1.1.2) q1 q2 (ok.pe h3) h4 h5
 | .stv i kx v,st,h=>nobE h
 | .sti o kx v,st,h=>nobE h
 | .appR o e,st,h=>nobE h
 | .pop i,st,h=>nobE h
 | .popO t i,st,h=>nobE h
 | .popR t o,st,h=>nobE h
 | .pass,st,h=>by
  have hb:Λ st.ctorIdx 25=true:=by revert h;cases st <;> first | exact non | exact fun _=>rfl
  revert h;apply QV hb;clear hb;intro pos h
  exact zbs
 | .brk,st,h=>by
  have hb:Λ st.ctorIdx 26=true:=by revert h;cases st <;> first | exact non | exact fun _=>rfl
  revert h;apply Uw hb;clear hb;intro pos h
  exact s_brk
 | .cnt,st,h=>by
  have hb:Λ st.ctorIdx 27=true:=by revert h;cases st <;> first | exact non | exact fun _=>rfl
  revert h;apply qU hb;clear hb;intro pos h
  exact s_cnt
 | .rse cn,st,h=>by
  have h:Vm B c cn st=true:=by cases st <;> exact h
  unfold Vm at h
  cases e:asRse st with
  | none=>rw [e] at h;cases h
  | some n=>
   rw [e] at h
   have h':((B.cls[cn]?).map (·.1)==some n&&gloK (c.names.lookup n)&&zH n)=true:=h
   rw [ε,ε] at h'
   obtain ⟨⟨h1,h2⟩,h3⟩:=h'
   obtain ⟨np,msg,j,p,cp,pos,rfl⟩:=Jm e
   obtain ⟨⟨n',l⟩,e1,e2⟩:=Ζ.mp (eq_of_beq h1)
   cases e2
   exact s_rse ok.ok e1 (ok.ok.glob h2) (zG h3).1 ok.xr
 | .tri tb f es ce i hs,st,h=>by
  have h:Vk B c tb f es ce i hs st=true:=by cases st <;> exact h
  unfold Vk at h
  cases e:asTri st with
  | none=>rw [e] at h;cases h
  | some t=>
   rw [e] at h
   have h':=h
   clear h
   simp only [ε] at h'
   obtain ⟨⟨⟨⟨⟨⟨⟨⟨⟨⟨⟨⟨h1,h2⟩,h3⟩,h4⟩,h5⟩,h6⟩,h7⟩,h8⟩,h9⟩,h10⟩,h11⟩,h12⟩,h13⟩:=h'
   rw [Jl e]
   obtain ⟨n,fp,xs,cp,ep,cnm,cnp,nm,ss,hp,pos⟩:=t
   dsimp only at h1 h2 h3 h4 h7 h8 h9 h10 h11 h12 h13 ⊢
   obtain ⟨⟨n',l⟩,e1,e2⟩:=Ζ.mp (eq_of_beq h7)
   cases e2
   cases xs with
   | nil=>
    cases es with
    | nil=>cases h5
    | cons _ _=>exact nobE h4
   | cons y ys=>
    cases ss with
    | nil=>cases h12
    | cons b0 ss=>
     have hl:X.env.kindOf nm=some .local:=by
      unfold iU
      rw [ok.ok.nm]
      exact eq_of_beq h11
     have okE:∀ E,XOk Γ B (spN Γ cx) k (X.wish E) c:=fun E=>⟨ok.ok.hK,ok.ok.nm,ok.ok.kd,ok.ok.N,ok.ok.nd,ok.ok.fn,ok.ok.calm,ok.ok.room,ok.ok.cells,ok.ok.fns,ok.ok.bare,ok.ok.consts,ok.ok.fa,ok.ok.cl,ok.ok.ca⟩
     exact s_tri ok.ok ok.sk ok.fr ok.hcf (eq_of_beq h1) (ok.ok.glob h2) (zG h3).1 (wW h4) (fun E=>sEs (ok.hcf noX) ok.hm.no es (X.wish E) c (y::ys) (okE E) h4) (eq_of_beq h6) e1 (ok.ok.glob h8) (zG h9).1 (by rw [ok.ok.N];exact eq_of_beq h10) hl h13
 | .frz _,st,h=>by revert h;cases st <;> exact nobE
 | .frr _,st,h=>by revert h;cases st <;> exact nobE
 | .frk _,st,h=>by revert h;cases st <;> exact nobE
theorem sCs (ok:XSt Γ B cx ex Hz gz k X c):∀ (ss:List C) (sts:List Stmt),chkCs B c ss sts=true->PSs X sts (TCs Γ cx ex w Hz gz ss)
 | [],sts,h=>by
  cases sts with
  | nil=>exact zbk
  | cons _ _=>exact nobE h
 | s::ss,sts,h=>by
  by_cases hf:∃ i,s=.frz i
  ·obtain ⟨i,rfl⟩:=hf
   exact s_frz (sCs ok ss sts (by cases sts <;> exact h))
  by_cases hr:∃ i,s=.frr i
  ·obtain ⟨i,rfl⟩:=hr
   exact s_frr (sCs ok ss sts (by cases sts <;> exact h))
  by_cases hk:∃ i,s=.frk i
  ·obtain ⟨i,rfl⟩:=hk
   exact s_frk (sCs ok ss sts (by cases sts <;> exact h))
  ·cases sts with
   | nil=>cases s <;> first | exact nobE h | exact absurd ⟨_,rfl⟩ hf | exact absurd ⟨_,rfl⟩ hr | exact absurd ⟨_,rfl⟩ hk
   | cons st sts=>
    have h:(chkC B c s st&&chkCs B c ss sts)=true:=by cases s <;> first | exact h | exact absurd ⟨_,rfl⟩ hf | exact absurd ⟨_,rfl⟩ hr | exact absurd ⟨_,rfl⟩ hk
    rw [ε] at h
    exact K8 (sC ok s st h.1) (sCs ok ss sts h.2)
end
end
theorem ln1 {α:Type}:∀ {l:List α},l.length=1->∃ a,l=[a]
 | [a],_=>⟨a,rfl⟩
theorem ln2 {α:Type}{l:List α}(h:l.length=2):∃ a0 a1,l=[a0,a1]:=by
 cases l with
 | nil=>cases h
 | cons a0 l=>
  obtain ⟨a1,rfl⟩:=ln1 (d7 h)
  exact ⟨a0,a1,rfl⟩
theorem ln3 {α:Type}{l:List α}(h:l.length=3):∃ a0 a1 a2,l=[a0,a1,a2]:=by
 cases l with
 | nil=>cases h
 | cons a0 l=>
  obtain ⟨a1,a2,rfl⟩:=ln2 (d7 h)
  exact ⟨a0,a1,a2,rfl⟩
theorem ln4 {α:Type}{l:List α}(h:l.length=4):∃ a0 a1 a2 a3,l=[a0,a1,a2,a3]:=by
 cases l with
 | nil=>cases h
 | cons a0 l=>
  obtain ⟨a1,a2,a3,rfl⟩:=ln3 (d7 h)
  exact ⟨a0,a1,a2,a3,rfl⟩
theorem ln5 {α:Type}{l:List α}(h:l.length=5):∃ a0 a1 a2 a3 a4,l=[a0,a1,a2,a3,a4]:=by
 cases l with
 | nil=>cases h
 | cons a0 l=>
  obtain ⟨a1,a2,a3,a4,rfl⟩:=ln4 (d7 h)
  exact ⟨a0,a1,a2,a3,a4,rfl⟩
theorem ln6 {α:Type}{l:List α}(h:l.length=6):∃ a0 a1 a2 a3 a4 a5,l=[a0,a1,a2,a3,a4,a5]:=by
 cases l with
 | nil=>cases h
 | cons a0 l=>
  obtain ⟨a1,a2,a3,a4,a5,rfl⟩:=ln5 (d7 h)
  exact ⟨a0,a1,a2,a3,a4,a5,rfl⟩
theorem ln7 {α:Type}{l:List α}(h:l.length=7):∃ a0 a1 a2 a3 a4 a5 a6,l=[a0,a1,a2,a3,a4,a5,a6]:=by
 cases l with
 | nil=>cases h
 | cons a0 l=>
  obtain ⟨a1,a2,a3,a4,a5,a6,rfl⟩:=ln6 (d7 h)
  exact ⟨a0,a1,a2,a3,a4,a5,a6,rfl⟩
noncomputable def fnsOf (rs:List Row):Nat->Option Fn:=fun i=>(rs[i]?).map (·.fn)
noncomputable def Xw (N ps:List Str) (sc:dD):Bool:=
 (sc.kind==.function)&&!sc.isCoroutine&&!sc.isGenerator&&decide N.Nodup&&(N.take ps.length==ps)&&ps.all (fun x=>sc.names.lookup x==some .local||sc.names.lookup x==some .cell)&&sc.names.all (fun y=>y.2 != .free)
theorem Xv {N ps:List Str}{sc:dD}(h:Xw N ps sc=true):jF N ps sc:=by
 unfold Xw at h
 simp only [ε,aV,mC,decide_eq_true_eq,lB,beq_iff_eq,bne_iff_ne] at h
 obtain ⟨⟨⟨⟨⟨⟨h1,h2⟩,h3⟩,h4⟩,h5⟩,h6⟩,h7⟩:=h
 exact ⟨h1,h2,h3,h4,h5,h6,h7⟩
structure RowOk (B:Tb) (r:Row):Prop where
 sc:Xw r.N r.ps (zA r.st)=true
 ck:chkCs B ⟨(zA r.st).names,r.N,true⟩ r.fn.body (zY r.st)=true
 np:r.fn.np=r.ps.length
 nv:r.fn.nv=r.N.length
 bd:∀ (kV doc pm:δ) (an:Option Addr) (cdv ct:δ) (us:List δ),us.length=r.ps.length->bindArgs (W.fnOf r.name r.name (yo r.st) (zY r.st) (zA r.st) .none kV doc pm an cdv ct) ⟨us,[]⟩=pure (r.ps.zip us)
def KwOk (rs:List Row) (q:Nat×List Str×List Nat):Prop:=q.2.1≠[]/\∀ r,rs[q.1]?=some r->∀ (kV doc pm:δ) (an:Option Addr) (cdv ct:δ) (ws:List δ),ws.length=q.2.1.length ->
 bindArgs (W.fnOf r.name r.name (yo r.st) (zY r.st) (zA r.st) .none kV doc pm an cdv ct) ⟨[],q.2.1.zip ws⟩=pure (r.ps.zip (q.2.2.map fun i=>ws.getD i .none))
structure DefAt (K:W.Frag) (x:Str) (st:Stmt):Prop where
 ex:∃ f fd,Fun K x x st f fd/\W.nsIn K Ψ x=some (some (.ref f))
theorem zcD {K:W.Frag}{x:Str}{st:Stmt}{f:Addr}{oc:δ}{od an:Option Addr}{osl:Array (Option δ)}{kV doc pm cdv ct:δ}(a:W.nsIn K Ψ x=some (some (.ref f)))
  (l:K.lookup f=some ⟨oc,od,.func (W.fnOf x x (yo st) (zY st) (zA st) .none kV doc pm an cdv ct),osl⟩) (c:W.codeIn K cdv x=true) (k:W.keepIn K (.ref f)=true):DefAt K x st:=⟨f,_,zcy l c k,a⟩
noncomputable def faOf (K:W.Frag) (r:Row):Option Addr:=open Classical in if h:∃ f,∃ fd,Fun K r.name r.name r.st f fd/\W.nsIn K Ψ r.name=some (some (.ref f)) then some (cJ h) else none
theorem W9 {K:W.Frag}{r:Row}(h:∃ f,∃ fd,Fun K r.name r.name r.st f fd/\W.nsIn K Ψ r.name=some (some (.ref f))):faOf K r=some (cJ h):=by
 unfold faOf
 exact dif_pos h
noncomputable def gmOf (K:W.Frag) (rs:List Row) (cs:List (Str×List Nat)):Gm where
 K:=K
 fa:=fun i=>(rs[i]?).bind (faOf K)
 ca:=fun c=>(cs[c]?).bind fun p=>caOf K p.1
def AllR {α:Type}(Q:α->Prop):List α->Prop
 | []=>True
 | a::r=>Q a/\AllR Q r
theorem AllR.at {α:Type}{Q:α->Prop}:∀ {l:List α}{i:Nat}{a:α},AllR Q l->l[i]?=some a->Q a
 | [],_,_,_,h=>by simp at h
 | b::r,0,a,⟨h,_⟩,e=>by simp at e;subst e;exact h
 | b::r,i+1,a,⟨_,h⟩,e=>AllR.at (i:=i) h (by simpa using e)
theorem AllR.mem {α:Type}{Q:α->Prop}:∀ {l:List α}{a:α},AllR Q l->a∈l->Q a
 | b::r,a,⟨h,t⟩,e=>by
  rcases Δ.mp e with rfl | q
  ·exact h
  ·exact AllR.mem t q
structure ModOk (K:W.Frag) (mg:Str->Option δ) (B:Tb) (rs:List Row):Prop where
 fns:B.fns=rs.map (·.name)
 pars:B.pars=rs.map (·.ps)
 rows:AllR (RowOk B) rs
 kws:AllR (KwOk rs) B.kws
 defs:AllR (fun r=>DefAt K r.name r.st) rs
 gl:∀ x u,W.nsIn K Ψ x=some u->mg x=u
 bare:∀ x∈B.bare,W.nsIn K Ψ x=some none
 consts:∀ (n:Nat) (x:Str) (d:D),B.consts[n]?=some (x,d)->∃ u v,W.nsIn K Ψ x=some (some u)/\RelV v u/\∀ g,Has (gmOf K rs B.cls) g d v
 cls:∀ (c:Nat) (x:Str) (l:List Nat),B.cls[c]?=some (x,l)->∃ C,W.nsIn K Ψ x=some (some (.ref C))/\KCls (gmOf K rs B.cls) (B.cls.map (·.2)) c C
section
variable {P:Μ}{w:ϒ}{K:W.Frag}{mg:Str->Option δ}{base:Heap}{B:Tb}{rs:List Row}
theorem cf_ok {F:Nat->Option Fn}{wh:Nat}(h:∀ f fn ps,F f=some fn->B.pars[f]?=some ps->fn.np=ps.length):∀ k ex,CfN B (callX F wh k ex)
 | 0,_=>fun _ _ _ _ _ _ q=>q.elim
 | k+1,_=>fun f ds V S ps hp q=>by
  obtain ⟨fn,e,hl,_⟩:=zQ q
  rw [hl,h f fn ps e hp]
theorem Xm {Γ:Gm}{H:Hp}{g:G}{fn:Fn}{N:List Str}{ds:List D}{vs:List V}(h:Hass Γ g ds vs) (hn:fn.nv=N.length):EnvO Γ H H g (entry fn ds) (L2.start N vs):=by
 have hl:=h.len
 have key:∀ (i:Nat) (s:Slot),(entry fn ds)[i]?=some s->(∃ d,ds[i]?=some d/\s=.sh d)\/s=.no:=by
  intro i s e
  unfold entry at e
  by_cases hi:i < ds.length
  ·rw [ϖ (by simpa using hi),Ο,ο hi] at e
   cases e
   exact .inl ⟨ds[i],ο hi,rfl⟩
  ·rw [Ϝ (by simpa using lW hi),dw] at e
   split at e
   ·cases e;exact .inr rfl
   ·cases e
 refine ⟨?_,fun i d e=>?_,fun i d e=>?_,fun i j d e a h1=>?_⟩
 ·unfold entry L2.start
  simp [hl,hn]
 ·rcases key i _ e with ⟨d',e1,e2⟩ | e2
  ·cases e2
   obtain ⟨v,q,hv⟩:=h.get e1
   refine ⟨v,?_,hv⟩
   unfold L2.start
   have hi:=(Θ.mp q).1
   rw [ϖ (by simpa using hi),Ο,q]
   rfl
  ·cases e2
 ·rcases key i _ e with ⟨d',e1,e2⟩ | e2 <;> cases e2
 ·rcases key i _ h1 with ⟨d',e1,e2⟩ | e2 <;> cases e2
theorem fn_e {wh k f:Nat}{r:Row}{fa:Addr}{fd:bj}(md:ModOk K mg B rs) (hr:rs[f]?=some r) (F:Fun K r.name r.name r.st fa fd) (ih:∀ (g:Nat) (x:Str),B.fns[g]?=some x->FnI (gmOf K rs B.cls) B (spN (gmOf K rs B.cls) (callX (fnsOf rs) wh k)) k P w K mg base g x):
  FnOk P w K mg base (CX1 P w) (k+1) fa fd r.ps (spN (gmOf K rs B.cls) (callX (fnsOf rs) wh (k+1)) f r.ps.length):=by
 have ro:=md.rows.at hr
 have sc:=Xv ro.sc
 have hcf:∀ ex,CfN B (callX (fnsOf rs) wh k ex):=cf_ok (fun f fn ps h1 h2=>by
  unfold fnsOf at h1
  rw [md.pars,Ο] at h2
  cases e:rs[f]? with
  | none=>rw [e] at h1;cases h1
  | some q=>
   rw [e] at h1 h2
   cases h1
   cases h2
   exact (md.rows.at e).np) k
 obtain ⟨oc,od,kV,doc,pm,an,cdv,ct,osl,rfl,lk,hcd⟩:=F.ex
 refine fn_of lk hcd sc (fun vs H Q E h=>h.1) fun A outer s H vs Q E hrm h=>?_
 obtain ⟨hl,g,ds,S,V,ex,wok,hh,hc,kk,kx⟩:=h
 obtain ⟨fn,e1,_,hc⟩:=zQ hc
 have e2:fnsOf rs f=some r.fn:=by
  unfold fnsOf
  rw [hr]
  rfl
 rw [e2] at e1
 cases e1
 refine ⟨TCs (gmOf K rs B.cls) (callX (fnsOf rs) wh k) ex wh H g r.fn.body,sCs (c:=⟨(zA r.st).names,r.N,true⟩) ⟨⟨rfl,rfl,sc.kind,rfl,sc.nd,fun _ _=>rfl,rfl,hrm,fun x hx=>?_,ih,fun x hx=>?_,fun n x d e=>?_,fun f a e=>?_,fun c x l e=>?_,fun c C e=>?_⟩,rfl,lr.leaving,hcf,z9 k,rfl,rfl,fun pJ σ H1 s1 g1 S1 c C h' ea args I st wo hex hca m=>L2.leave_new (X:=cxOf (CX1 P w) P w K mg base r.N r.name (zA r.st) fa cdv A outer s H E) rfl rfl rfl I m (kx c (.ref ea) C H1 g1 S1 st wo hca hex)⟩ r.fn.body (zY r.st) ro.ck,entry r.fn ds,S,_,g,hc,Step.refl H g,wok,Xm hh ro.nv,?_⟩
 ·rcases hx with hx | hx
  ·exact jC hx
  ·exact absurd rfl (sc.nofree _ (bc hx))
 ·exact md.gl x none (md.bare x hx)
 ·obtain ⟨u,v,e1,e2,e3⟩:=md.consts n x d e
  exact ⟨u,v,md.gl x (some u) e1,e2,e3⟩
 ·obtain ⟨r,er,_⟩:=ν.mp (show (rs[f]?).bind (faOf K)=some a from e)
  exact ⟨r.name,by rw [md.fns,Ο,er];rfl⟩
 ·obtain ⟨C,e1,e2⟩:=md.cls c x l e
  exact ⟨C,md.gl x _ e1,e2⟩
 ·obtain ⟨p,ep,_⟩:=ν.mp (show (B.cls[c]?).bind (fun p=>caOf K p.1)=some C from e)
  exact ⟨p.1,p.2,ep⟩
 ·exact ⟨fun ρ σ' H' g' S' st le w' env q=>kk (.non,.st) .non H' g' S' st w' rfl q,fun ρ σ' H' g' S' st le w' env q=>q.elim,fun ρ σ' H' g' S' st le w' env q=>q.elim,fun d fr v H' g' S' st le w' vo q=>kk (d,kd fr) v H' g' S' st w' (VN.of vo) q⟩
theorem fn_0 {f:Nat}{wh:Nat}{fa:Addr}{fd:bj}{ps:List Str}{Γ:Gm}{F:Nat->Option Fn}:FnOk P w K mg base (CX1 P w) 0 fa fd ps (spN Γ (callX F wh 0) f ps.length):=
 ⟨fun vs H Q E h=>h.1,fun A outer s H args us vs Q E hr he hb hv ⟨_,g,ds,S,V,_,_,_,hc,_⟩=>hc.elim⟩
theorem jM:∀ {zs:List V}{ws:List δ}(i:Nat),Vals zs ws->RelV (zs.getD i .non) (ws.getD i .none)
 | _,_,_,.nil=>rfl
 | _,_,0,.cons h _=>h
 | _,_,i+1,.cons _ t=>by
  have:=jM i t
  simpa using this
theorem ZG {zs:List V}{ws:List δ}(h:Vals zs ws):∀ (perm:List Nat),Vals (perm.map fun i=>zs.getD i .non) (perm.map fun i=>ws.getD i .none)
 | []=>.nil
 | i::r=>.cons (jM i h) (ZG h r)
theorem Kg {wh k:Nat}(md:ModOk K mg B rs) (h:∀ (f:Nat) (r:Row) (fa:Addr) (fd:bj),rs[f]?=some r->Fun K r.name r.name r.st fa fd->FnOk P w K mg base (CX1 P w) k fa fd r.ps (spN (gmOf K rs B.cls) (callX (fnsOf rs) wh k) f r.ps.length)):
  ∀ (f:Nat) (x:Str),B.fns[f]?=some x->FnI (gmOf K rs B.cls) B (spN (gmOf K rs B.cls) (callX (fnsOf rs) wh k)) k P w K mg base f x:=by
 intro f x hx
 rw [md.fns,Ο] at hx
 cases hr:rs[f]? with
 | none=>rw [hr] at hx;cases hx
 | some r=>
  rw [hr] at hx
  cases hx
  have da:∃ f,∃ fd,Fun K r.name r.name r.st f fd/\W.nsIn K Ψ r.name=some (some (.ref f)):=(md.defs.at hr).ex
  obtain ⟨fd,F,na⟩:=mW da
  have ro:=md.rows.at hr
  refine ⟨cJ da,fd,r.ps,?_,md.gl _ _ na,F.kp,F.binds ro.bd,?_,h f r _ fd hr F,fun ks perm h1 h2 h3 h4 h5=>?_⟩
  ·show (rs[f]?).bind (faOf K)=_
   rw [hr]
   exact W9 da
  ·rw [md.pars,Ο,hr]
   rfl
  ·have hk:=md.kws.mem h5
   obtain ⟨oc,od,kV,doc,pm,an,cdv,ct,osl,hfd,lk,hcd⟩:=F.ex
   refine ⟨fun s us ws _ hl=>?_,fun {vs us zs ws} r1 r2=>?_⟩
   ·have hl:(if ws.length=ks.length then us++perm.map fun i=>ws.getD i .none else []).length=r.ps.length:=hl
    show BindsTo s fd ⟨us,ks.zip ws⟩ (r.ps.zip (if ws.length=ks.length then us++perm.map fun i=>ws.getD i .none else []))
    by_cases hw:ws.length=ks.length
    ·rw [if_pos hw] at hl ⊢
     have hu:us=[]:=by
      cases us with
      | nil=>rfl
      | cons _ _=>simp at hl;lia
     subst hu
     rw [hfd]
     exact .of_eq (hk.2 r hr kV doc pm an cdv ct ws hw)
    ·rw [if_neg hw] at hl ⊢
     have h0:r.ps=[]:=du.mp hl.symm
     have hk0:ks=[]:=du.mp (by rw [h4,h0];rfl)
     exact absurd hk0 hk.1
   ·show Vals (if zs.length=ks.length then vs++perm.map fun i=>zs.getD i .non else []) (if ws.length=ks.length then us++perm.map fun i=>ws.getD i .none else [])
    rw [r2.length]
    split
    ·exact r1.append (ZG r2 perm)
    ·exact .nil
theorem Kv (wh:Nat) (md:ModOk K mg B rs):∀ (k f:Nat) (x:Str),B.fns[f]?=some x->FnI (gmOf K rs B.cls) B (spN (gmOf K rs B.cls) (callX (fnsOf rs) wh k)) k P w K mg base f x
 | 0=>Kg md fun f r fa fd hr F=>fn_0
 | k+1=>Kg md fun f r fa fd hr F=>fn_e md hr F (Kv wh md k)
end
structure Txt (K:W.Frag) (B:Tb) (rs:List Row):Prop where
 defs:AllR (fun r=>DefAt K r.name r.st) rs
 bare:AllR (fun x=>W.nsIn K Ψ x=some none) B.bare
 consts:∀ (n:Nat) (x:Str) (d:D),B.consts[n]?=some (x,d)->∃ u v,W.nsIn K Ψ x=some (some u)/\RelV v u/\∀ g,Has (gmOf K rs B.cls) g d v
 cls:∀ (c:Nat) (x:Str) (l:List Nat),B.cls[c]?=some (x,l)->∃ C,W.nsIn K Ψ x=some (some (.ref C))/\KCls (gmOf K rs B.cls) (B.cls.map (·.2)) c C
structure Tabs (B:Tb) (rs:List Row):Prop where
 fns:B.fns=rs.map (·.name)
 pars:B.pars=rs.map (·.ps)
 rows:AllR (RowOk B) rs
 kws:AllR (KwOk rs) B.kws
theorem zb8 {K:W.Frag}{B:Tb}{rs:List Row}{h:Heap}{mg:Str->Option δ}(t:Tabs B rs) (x:Txt K B rs) (X:K.In h) (N:h.Ns Ψ mg):ModOk K mg B rs where
 fns:=t.fns
 pars:=t.pars
 rows:=t.rows
 kws:=t.kws
 defs:=x.defs
 gl:=fun y u e=>by
  cases u with
  | none=>exact W.mg_none_of X N e
  | some v=>exact W.mg_of X N e
 bare:=fun y hy=>x.bare.mem hy
 consts:=x.consts
 cls:=x.cls
theorem zaD {K:W.Frag}{rs:List Row}{cs:List (Str×List Nat)}{x:Str}{i:Int}{t:Tok}(h:W.nsIn K Ψ x=some (some (.int i t))):∃ u v,W.nsIn K Ψ x=some (some u)/\RelV v u/\∀ g,Has (gmOf K rs cs) g (.int i) v:=⟨_,.int i,h,⟨t,rfl⟩,fun _=>rfl⟩
theorem zcI {K:W.Frag}{rs:List Row}{cs:List (Str×List Nat)}{i:Nat}{r:Row}(hr:rs[i]?=some r) (d:DefAt K r.name r.st):∃ u v,W.nsIn K Ψ r.name=some (some u)/\RelV v u/\∀ g,Has (gmOf K rs cs) g (.fn i) v:=by
 obtain ⟨fd,_,e⟩:=mW d.ex
 refine ⟨.ref (cJ d.ex),.ref (cJ d.ex),e,rfl,fun g=>⟨cJ d.ex,?_,rfl⟩⟩
 show (rs[i]?).bind (faOf K)=_
 rw [hr]
 exact W9 d.ex
theorem zaz {K:W.Frag}{rs:List Row}{cs:List (Str×List Nat)}{x i:Str}{t:Tok}(h:W.nsIn K Ψ x=some (some (.str i t))):∃ u v,W.nsIn K Ψ x=some (some u)/\RelV v u/\∀ g,Has (gmOf K rs cs) g (.str i) v:=⟨_,.str i,h,⟨t,rfl⟩,fun _=>rfl⟩
open PySem L2
mutual
theorem Yg:∀ (n:Nat) (d:D),okP n d=true->eqP d d=true
 | _,.non,_=>rfl
 | _,.bl b,_=>by cases b <;> rfl
 | _,.int i,_=>beq_self_eq_true i
 | _,.str x,_=>beq_self_eq_true x
 | 0,.tup _,h=>nobE h
 | n+1,.tup a,h=>v7 n a h
 | 0,.lst _,h=>nobE h
 | n+1,.lst a,h=>v7 n a h
 | 0,.dK _ _,h=>nobE h
 | n+1,.dK _ _,h=>nobE h
 | 0,.dT _ _,h=>nobE h
 | n+1,.dT _ _,h=>nobE h
 | 0,.ref _,h=>nobE h
 | n+1,.ref _,h=>nobE h
 | 0,.fn _,h=>nobE h
 | n+1,.fn _,h=>nobE h
 | 0,.scr _,h=>nobE h
 | n+1,.scr _,h=>nobE h
 | 0,.ktp _,h=>nobE h
 | n+1,.ktp _,h=>nobE h
 | 0,.kdc _,h=>nobE h
 | n+1,.kdc _,h=>nobE h
 | 0,.dF _ _,h=>nobE h
 | n+1,.dF _ _,h=>nobE h
theorem v7:∀ (n:Nat) (l:List D),okPs n l=true->eqPs l l=true
 | _,[],_=>rfl
 | n,d::l,h=>by
  have h':(okP n d&&okPs n l)=true:=h
  rw [ε] at h'
  show (eqP d d&&eqPs l l)=true
  rw [Yg n d h'.1,v7 n l h'.2];rfl
end
theorem Kc {n:Nat}{a:Int}(h0:0<=a) (h1:a < (n:Int)):idx n a=some a.toNat:=by
 show (if 0<=a then (if a < n then some a.toNat else none) else _)=_
 rw [if_pos h0,if_pos h1]
theorem j9 {i j:Int}(h:0 < j):opD .Mod (.int i) (.int j)=some (.int (i % j),false):=by
 show (if decide (0 < j)=true then some (i % j) else none).map (fun k=>(D.int k,false))=_
 rw [if_pos (decide_eq_true h)];rfl
theorem JW {i j:Int}(h:zJ i=true):opD .Mult (.int i) (.int j)=some (.int (i*j),false):=by
 show (if (zJ i||zJ j)=true then some (D.int (i*j),false) else none)=_
 rw [if_pos (by rw [h];rfl)]
theorem Wo {i j:Int}(h:zJ j=true):opD .Mult (.int i) (.int j)=some (.int (i*j),false):=by
 show (if (zJ i||zJ j)=true then some (D.int (i*j),false) else none)=_
 rw [if_pos (by rw [h,Bool.or_true])]
theorem ZP {i:Int}(h0:0<=i) (h1:i < 4294967296):zJ i=true:=by
 unfold zJ
 rw [decide_eq_true (by lia),decide_eq_true (by lia)];rfl
theorem fits_of {n:Nat}(h:n<=1000000):fits n=true:=decide_eq_true h
theorem Wu {l:List D}{a:Int}{d:D}(h0:0<=a) (h:l[a.toNat]?=some d):subD (.lst l) (.int a)=some d:=by
 show ((idx l.length a).bind fun k=>l[k]?)=_
 have:=(Θ.mp h).1
 rw [Kc h0 (by lia)]
 exact h
theorem zaW {l:List D}{a:Int}{d:D}(h0:0<=a) (h:l[a.toNat]?=some d):subD (.tup l) (.int a)=some d:=by
 show ((idx l.length a).bind fun k=>l[k]?)=_
 have:=(Θ.mp h).1
 rw [Kc h0 (by lia)]
 exact h
theorem jf {lo hi:Int}{d:D}(h:d∈zZ lo hi):∃ j,d=.int j/\lo<=j/\j < hi:=by
 unfold zZ at h
 obtain ⟨k,hk,e⟩:=ϭ.mp h
 have:=bG.mp hk
 exact ⟨lo+k,e.symm,by lia,by lia⟩
theorem qO (lo hi:Int):(zZ lo hi).length=(hi - lo).toNat:=by
 unfold zZ
 rw [Ν,fM]
theorem yt {n:Nat}:∀ {l:List D},(∀ d∈l,okP n d=true)->okPs n l=true
 | [],_=>rfl
 | d::l,h=>by
  show (okP n d&&okPs n l)=true
  rw [h d (ι ..),yt fun x hx=>h x (θ _ hx)];rfl
mutual
theorem jj:∀ (n m:Nat) (d:D),n<=m->okP n d=true->okP m d=true
 | 0,0,d,_,h=>h
 | n+1,0,d,q,h=>by lia
 | 0,m+1,.tup _,_,h=>nobE h
 | n+1,m+1,.tup a,q,h=>yG n m a (by lia) h
 | 0,m+1,.lst _,_,h=>nobE h
 | n+1,m+1,.lst a,q,h=>yG n m a (by lia) h
 | n,m+1,.non,_,h=>rfl
 | n,m+1,.bl _,_,h=>rfl
 | n,m+1,.int _,_,h=>rfl
 | n,m+1,.str _,_,h=>rfl
 | n,m+1,.dK _ _,_,h=>by revert h;cases n <;> exact nobE
 | n,m+1,.dT _ _,_,h=>by revert h;cases n <;> exact nobE
 | n,m+1,.ref _,_,h=>by revert h;cases n <;> exact nobE
 | n,m+1,.fn _,_,h=>by revert h;cases n <;> exact nobE
 | n,m+1,.scr _,_,h=>by revert h;cases n <;> exact nobE
 | n,m+1,.ktp _,_,h=>by revert h;cases n <;> exact nobE
 | n,m+1,.kdc _,_,h=>by revert h;cases n <;> exact nobE
 | n,m+1,.dF _ _,_,h=>by revert h;cases n <;> exact nobE
theorem yG:∀ (n m:Nat) (l:List D),n<=m->okPs n l=true->okPs m l=true
 | _,_,[],_,_=>rfl
 | n,m,d::l,q,h=>by
  have h':(okP n d&&okPs n l)=true:=h
  rw [ε] at h'
  show (okP m d&&okPs m l)=true
  rw [jj n m d q h'.1,yG n m l q h'.2];rfl
end
theorem eq_op {a b:D}(ha:okP 60 a=true) (hb:okP 60 b=true):cmpD .Eq a b=some (eqP a b):=by
 show (if (okP 60 a&&okP 60 b)=true then some (eqP a b) else none)=_
 rw [ha,hb];rfl
theorem ne_op {a b:D}(ha:okP 60 a=true) (hb:okP 60 b=true):cmpD .NotEq a b=some (!eqP a b):=by
 have e:cmpD .NotEq a b=(if (okP 60 a&&okP 60 b)=true then some (eqP a b) else none).map (!·):=by
  cases a with
  | dK=>exact nobE ha
  | _=>rfl
 rw [e,ha,hb];rfl
theorem yN {a:D}(ha:okP 60 a=true):cmpD .NotEq a a=some false:=by rw [ne_op ha ha,Yg 60 a ha];rfl
theorem zaP {a b:List D}(h:a.length+b.length<=1000000):opD .Add (.tup a) (.tup b)=some (.tup (a++b),false):=by
 show (if fits (a.length+b.length)=true then some (D.tup (a++b),false) else none)=_
 rw [if_pos (fits_of h)]
theorem uo {a b:List D}(h:a.length+b.length<=1000000):opD .Add (.lst a) (.lst b)=some (.lst (a++b),true):=by
 show (if fits (a.length+b.length)=true then some (D.lst (a++b),true) else none)=_
 rw [if_pos (fits_of h)]
theorem Kq {l:List D}{n:Nat}(h:n<=l.length):cutD l none (some (n:Int))=l.take n:=by
 unfold cutD
 rw [HT.Ua,HT.Qf,Nat.min_eq_left h];rfl
section
variable {α:Type}{F:Nat->Option Fn}{cf:Cf}{cx:Xp->Cf}{ex:Xp}{w k f:Nat}{ds:List D}{V V':Po}{S:Store}{K:Ko}{ρ:List Slot}{x:Vl}{d:D}{b:Bool}{l:List D}{c:C}{cs:List C}
theorem zE {o:Option α}{Q:α->Prop}{a:α}(h:o=some a) (q:Q a):opt o Q:=by subst h;exact q
theorem vN {o:Option (List Slot)}{Q:List Slot->Prop}{a:List Slot}(h:o=some a) (q:Q a):optS o Q:=by subst h;exact q
theorem opv_s {o:Option (D×Bool)}{Q:Vl->Prop}(h:o=some (d,false)) (q:Q (d,.st)):opV o Q:=by subst h;exact q
theorem opv_f {o:Option (D×Bool)}{Q:Vl->Prop}(h:o=some (d,true)) (q:Q (d,.fr)):opV o Q:=by subst h;exact q
theorem tst_T {T F:Prop}(h:b=true) (q:T):tst b T F:=by subst h;exact q
theorem tst_F {T F:Prop}(h:b=false) (q:F):tst b T F:=by subst h;exact q
theorem yD {T F:Prop}(t:b=true->T) (f:b=false->F):tst b T F:=by
 cases b with
 | true=>exact t rfl
 | false=>exact f rfl
theorem kp_s {Q:D->Prop}(h:x=(d,.st)) (q:Q d):keep x Q:=by subst h;exact q
theorem kp_f {Q:D->Prop}(h:x=(d,.fr)) (q:Q d):keep x Q:=by subst h;exact q
theorem bx_f {Q:D->Prop}(h:x=(d,.fr)) (q:Q d):boxd x Q:=by subst h;exact q
theorem rv_s {Q:O->Prop}(h:x=(d,.st)) (q:Q (.ret d false)):retV x Q:=by subst h;exact q
theorem rv_f {Q:O->Prop}(h:x=(d,.fr)) (q:Q (.ret d true)):retV x Q:=by subst h;exact q
theorem bl_mk {Q:Bool->Prop}(h:d=.bl b) (q:Q b):isB d Q:=by subst h;exact q
theorem zcr {Q:Nat->Prop}{f:Nat}(h:d=.fn f) (q:Q f):isF d Q:=by subst h;exact q
theorem zcq {Q:Int->Prop}{i:Int}(h:d=.int i) (q:Q i):isZ d Q:=by subst h;exact q
theorem sel_s {s:Option Slot}{P Q:D->Prop}(h:s=some (.sh d)) (q:P d):sel s P Q:=by subst h;exact q
theorem sel_o {s:Option Slot}{P Q:D->Prop}(h:s=some (.ow d)) (q:Q d):sel s P Q:=by subst h;exact q
theorem rdv_s {s:Option Slot}{Q:Vl->Prop}(h:s=some (.sh d)) (q:Q (d,.st)):rdV s Q:=by subst h;exact q
theorem rdv_o {s:Option Slot}{Q:Vl->Prop}(h:s=some (.ow d)) (q:Q (d,.bo)):rdV s Q:=by subst h;exact q
theorem zbQ {s:Option Slot}{Q:List D->Prop}(h:s=some (.ow (.lst l))) (q:Q l):owL s Q:=by subst h;exact q
theorem zbR {s:Option Slot}{Q:D->Prop}(h:s=some (.ow d)) (q:Q d):owD s Q:=by subst h;exact q
theorem zcJ {s:Option D}{Q:List D->Prop}(h:s=some (.lst l)) (q:Q l):isL s Q:=by subst h;exact q
theorem zcp {n:Nat}{Q:Nat->Prop}(h:d=.ref n) (q:Q n):isR d Q:=by subst h;exact q
theorem zaA (h:wpC cx ex w c ρ (nxt (fun ρ' S'=>wpCs cx ex w cs ρ' K S') K) S):wpCs cx ex w (c::cs) ρ K S:=h
theorem zcE (h:K (.next ρ) S):wpCs cx ex w [] ρ K S:=h
theorem KJ {g:List Slot->Store->Prop}(h:g ρ S):nxt g K (.next ρ) S:=h
theorem za0 {g:List Slot->Store->Prop}(h:K (.ret d b) S):nxt g K (.ret d b) S:=h
theorem za2 {g:List Slot->Store->Prop}(h:K (.brk ρ) S):nxt g K (.brk ρ) S:=h
theorem za1 {g:List Slot->Store->Prop}(h:K (.cnt ρ) S):nxt g K (.cnt ρ) S:=h
theorem to_s (h:V (d,.st) S):told V (.ret d false) S:=h
theorem to_f (h:V (d,.fr) S):told V (.ret d true) S:=h
theorem KH (h:V (.non,.st) S):told V (.next ρ) S:=h
theorem KD {I:List Slot->Store->Prop}(h:I ρ S):trn K I (.next ρ) S:=h
theorem zaY {I:List Slot->Store->Prop}(h:I ρ S):trn K I (.cnt ρ) S:=h
theorem zaZ {I:List Slot->Store->Prop}(h:K (.next ρ) S):trn K I (.brk ρ) S:=h
theorem zaX {I:List Slot->Store->Prop}(h:K (.ret d b) S):trn K I (.ret d b) S:=h
theorem wp_mono (h:callX F w k ex f ds V S) (q:∀ x S,V x S->V' x S):callX F w k ex f ds V' S:=(z9 k).no f ds V V' S q h
theorem zF {fn:Fn}{bd:List C}(hf:F f=some fn) (hl:ds.length=fn.np) (hb:fn.body=bd) (h:wpCs (callX F w k) ex w bd (entry fn ds) (told V) S):callX F w (k+1) ex f ds V S:=by
 show opt (F f) _
 rw [hf]
 exact ⟨hl,by rw [hb];exact h⟩
theorem wp_walk {t:T}{A:List C}(I:List D->List Slot->Store->Prop)
  (step:∀ d l ρ S,I (d::l) ρ S->optS (bindT ρ t (d,false)) fun ρ1=>wpCs (callX F w k) ex w A ρ1 (trn K (I l)) S)
  (fin:∀ ρ S,I [] ρ S->K (.next ρ) S):∀ (l:List D) (ρ:List Slot) (S:Store),I l ρ S->forW t (fun ρ=>wpCs (callX F w k) ex w A ρ) l ρ K S
 | [],ρ,S,h=>fin ρ S h
 | d::l,ρ,S,h=>zj (fun ρ1 q=>zW (z9 k) A (fun _ _=>id) (wV (fun ρ S=>wp_walk I step fin l ρ S) fun _ _=>id) q) (step d l ρ S h)
theorem Zw {e:E}{A:List C}(I:Nat->List Slot->Store->Prop)
  (step:∀ n ρ S,I n ρ S->wpE (callW F w k) ρ e (fun x S1=>isB x.1 fun b=>tst b (∃ m,n=m+1/\wpCs (callX F w k) ex w A ρ (trn K (I m)) S1) (K (.next ρ) S1)) S):
  ∀ (N n:Nat) (ρ:List Slot) (S:Store),n < N->I n ρ S->whlW (fun ρ=>wpX (callW F w k) ρ e) (fun ρ=>wpCs (callX F w k) ex w A ρ) N ρ K S
 | 0,n,ρ,S,hn,h=>absurd hn (Nat.not_lt_zero n)
 | N+1,n,ρ,S,hn,h=>za (Vq k) e (fun x S1=>yh fun b=>zx (fun ⟨m,e,q⟩=>zW (z9 k) A (fun _ _=>id) (wV (fun ρ S=>Zw I step N m ρ S (by lia)) fun _ _=>id) q) id) (step n ρ S h)
theorem e_var {i:Nat}:wpE cf ρ (.var i) V S=(rdV ρ[i]? fun x=>V x S):=rfl
theorem e_con {d:D}:wpE cf ρ (.con d) V S=(V (d,.st) S):=rfl
theorem e_glo {n:Nat}{d:D}:wpE cf ρ (.glo n d) V S=(V (d,.st) S):=rfl
theorem e_bin {op:mJ}{a:E}{b:E}:wpE cf ρ (.bin op a b) V S=(wpE cf ρ a (fun x S1=>wpE cf ρ b (fun y S2=>opV (opD op (deref S2 x.1) (deref S2 y.1)) fun x=>V x S2) S1) S):=rfl
theorem e_neg {a:E}:wpE cf ρ (.neg a) V S=(wpE cf ρ a (fun x S1=>isZ x.1 fun i=>V (.int (-i),.st) S1) S):=rfl
theorem e_cmp {op:gj}{a:E}{b:E}:wpE cf ρ (.cmp op a b) V S=(wpE cf ρ a (fun x S1=>wpE cf ρ b (fun y S2=>opt (cmpD op (deref S2 x.1) (deref S2 y.1)) fun r=>V (.bl r,.st) S2) S1) S):=rfl
theorem e_chn {o1:gj}{o2:gj}{a:E}{b:E}{c:E}:wpE cf ρ (.chn o1 o2 a b c) V S=(wpE cf ρ a (fun x S1=>wpE cf ρ b (fun y S2=>opt (cmpD o1 (deref S2 x.1) (deref S2 y.1)) fun r=>tst r (wpE cf ρ c (fun z S3=>opt (cmpD o2 (deref S3 y.1) (deref S3 z.1)) fun r=>V (.bl r,.st) S3) S2) (V (.bl false,.st) S2)) S1) S):=rfl
theorem e_not {a:E}:wpE cf ρ (.not a) V S=(wpE cf ρ a (fun x S1=>isB x.1 fun b=>V (.bl (!b),.st) S1) S):=rfl
theorem e_and {a:E}{b:E}:wpE cf ρ (.and a b) V S=(wpE cf ρ a (fun x S1=>isB x.1 fun r=>tst r (wpE cf ρ b V S1) (V (.bl false,.st) S1)) S):=rfl
theorem e_or {a:E}{b:E}:wpE cf ρ (.or a b) V S=(wpE cf ρ a (fun x S1=>isB x.1 fun r=>tst r (V (.bl true,.st) S1) (wpE cf ρ b V S1)) S):=rfl
theorem e_ite {c:E}{a:E}{b:E}:wpE cf ρ (.ite c a b) V S=(wpE cf ρ c (fun x S1=>isB x.1 fun r=>tst r (wpE cf ρ a V S1) (wpE cf ρ b V S1)) S):=rfl
theorem e_tup {es:List E}:wpE cf ρ (.tup es) V S=(wpEs cf ρ es (fun ds S1=>tst (fits ds.length) (V (.tup ds,.st) S1) False) S):=rfl
theorem e_lst {es:List E}:wpE cf ρ (.lst es) V S=(wpEs cf ρ es (fun ds S1=>tst (fits ds.length) (V (.lst ds,.fr) S1) False) S):=rfl
theorem e_dic {tk:Bool}{ks:List Key}{es:List E}:wpE cf ρ (.dic tk ks es) V S=(wpEs cf ρ es (fun ds S1=>tst (dicOk tk ks ds) (V (dicV tk ks ds,.fr) S1) False) S):=rfl
theorem e_sub {a:E}{i:E}:wpE cf ρ (.sub a i) V S=(wpE cf ρ a (fun x S1=>wpE cf ρ i (fun y S2=>opt (subD (deref S2 x.1) y.1) fun d=>V (d,.st) S2) S1) S):=rfl
theorem e_slc {a:E}{lo:Option E}{hi:Option E}:wpE cf ρ (.slc a lo hi) V S=(wpE cf ρ a (fun x S1=>wpO cf ρ lo (fun l S2=>wpO cf ρ hi (fun h S3=>opV (slcD (deref S3 x.1) l h) fun x=>V x S3) S2) S1) S):=rfl
theorem e_bi {b:BI}{e:E}:wpE cf ρ (.bi b [e]) V S=(wpE cf ρ e (fun x S1=>opV (biD b [deref S1 x.1]) fun x=>V x S1) S):=rfl
theorem e_bi2 {b:BI}{e e':E}:wpE cf ρ (.bi b [e,e']) V S=(wpEs cf ρ [e,e'] (fun ds S1=>opV (biD b (ds.map (deref S1))) fun x=>V x S1) S):=rfl
theorem e_mth {m:MT}{o:E}{es:List E}:wpE cf ρ (.mth m o es) V S=(wpE cf ρ o (fun x S1=>tst (mthK m (deref S1 x.1)) (wpEs cf ρ es (fun ds S2=>opV (mthD m (deref S2 x.1) ds) fun x=>V x S2) S1) False) S):=rfl
theorem Kp {f:Nat}{es:List E}:wpE cf ρ (.call f es) V S=(wpEs cf ρ es (fun ds S1=>cf f ds V S1) S):=rfl
theorem zav {f:Nat}{perm:List Nat}{es:List E}:wpE cf ρ (.callk f perm es) V S=(wpEs cf ρ es (fun ds S1=>opt (perm.mapM fun i=>ds[i]?) fun ds=>cf f ds V S1) S):=rfl
theorem e_box {e:E}:wpE cf ρ (.box e) V S=(wpE cf ρ e (fun x S1=>boxd x fun d=>V (.ref S1.length,.st) (S1++[d])) S):=rfl
theorem zau {i:Nat}{es:List E}:wpE cf ρ (.callv i es) V S=(rdV ρ[i]? fun x=>isF x.1 fun f=>wpEs cf ρ es (fun ds S1=>cf f ds V S1) S):=rfl
theorem e_one {e:E}:wpE cf ρ (.one e) V S=(wpE cf ρ e V S):=rfl
theorem zcB {e:E}:wpE cf ρ (.flip e) V S=(wpE cf ρ e (fun x S1=>opV (flipD (deref S1 x.1)) fun x=>V x S1) S):=rfl
theorem wp_lc {t:T}{js:List Nat}{it elt:E}{ifs:List E}(h:wpI cf ρ it (fun its S1=>walkW (cStep cf ρ t js ifs elt) its [] (fun ds S2=>V (.lst ds,.fr) S2) S1) S):wpE cf ρ (.comp t js it ifs elt) V S:=h
end
theorem Qs {ks:List Key}{vs:List D}{s:Str}{v:D}(h:hasK ks (.inr s)=false) (hl:ks.length+1<=1000000):putD (.dK ks vs) (.str s) v=some (.dK (ks++[.inr s]) (vs++[v])):=by
 show (if fits (ks.length+1)=true then some (D.dK (putKs ks vs (fO s) v).1 (putKs ks vs (fO s) v).2) else none)=_
 rw [if_pos (fits_of hl)]
 unfold putKs
 rw [h];rfl
theorem W4 {t:T}{b:List Slot->Ko->Store->Prop}{d:D}{l:List D}{ρ:List Slot}{K:Ko}{S:Store}(h:optS (bindT ρ t (d,false)) fun ρ1=>b ρ1 (trn K fun ρ' S'=>forW t b l ρ' K S') S):forW t b (d::l) ρ K S:=h
theorem zay (ns:List Int) (lo hi:Option Int):∃ ms:List Int,cutD (ns.map D.int) lo hi=ms.map D.int/\ms.length<=ns.length:=by
 unfold cutD
 rw [<- List.map_drop,<- nA]
 refine ⟨_,rfl,?_⟩
 rw [cU,dM]
 lia
theorem Xo {x k:Int}(h0:0 < k) (h1:k<=4294967296):zJ (x % k)=true:=ZP (cB _ (by lia)) (by have:=bJ x h0;lia)
theorem ZS {lo hi:Int}(h:lo < hi):zZ lo hi=.int lo::zZ (lo+1) hi:=by
 unfold zZ
 obtain ⟨m,hm⟩:∃ m,(hi - lo).toNat=m+1:=⟨(hi - lo).toNat - 1,by lia⟩
 have e:(hi - (lo+1)).toNat=m:=by lia
 rw [hm,e,nR,dh,gh]
 congr 1
 ·simp
 ·refine oW fun k _=>?_
  simp
  lia
theorem Ql {lo hi:Int}(h:hi<=lo):zZ lo hi=[]:=by
 unfold zZ
 rw [show (hi - lo).toNat=0 by lia];rfl
theorem om1 {a b K:Nat}(h:b<=K) (e:Nat.ble a b=true):a<=K:=ϣ (aj e) h
theorem om2 {a b K:Nat}(h:b<=K+1) (e:Nat.ble (a+1) b=true):a<=K:=Nat.le_of_succ_le_succ (ϣ (aj e) h)
theorem om3 {b K:Nat}(h:b<=K) (e:Nat.ble 1 b=true):K=K - 1+1:=(Nat.sub_add_cancel (ϣ (aj e) h)).symm
theorem frIn {h:Heap}:∀ (l:List Addr) (a:Addr) (o:Obj),(l.filterMap fun a=>(h.get? a).map fun o=>(a,o)).lookup a=some o->h.get? a=some o
 | [],a,o,e=>by cases e
 | b::l,a,o,e=>by
  rw [bV] at e
  cases q:h.get? b with
  | none=>rw [q] at e;exact frIn l a o e
  | some x=>
   rw [q] at e
   dsimp only [fX] at e
   rw [aC] at e
   cases hb:a==b with
   | true=>
    rw [hb] at e
    cases eq_of_beq hb
    exact q.trans e
   | false=>
    rw [hb] at e
    exact frIn l a o e
set_option tactic.hygienic true in
theorem Jd {K:W.Frag}{x:Str}{st:Stmt}(e:W8 K x=some (W.fnOf x x (yo st) (zY st) (zA st) .none .none .none .none none .none .none,true)):DefAt K x st:=by
 unfold W8 at e
 split at e
 ·rename_i f hf
  split at e
  ·rename_i oc od fd osl hl
   obtain ⟨e1,e2⟩:=lq (ϙ e)
   obtain ⟨c,k⟩:=ϛ.mp e2
   cases fd
   cases e1
   exact zcD hf hl c k
  ·cases e
 ·cases e
set_option tactic.hygienic true in
theorem KC {K:W.Frag}{a:Addr}{its:Array δ}(h:tupAt K a=some its):∃ o n,K.lookup a=some o/\o.cls=.type "tuple"/\o.data=.seq its n/\its.size<=sizeLine:=by
 obtain ⟨o,e1,e2⟩:=ν.mp h
 split at e2
 ·rename_i t js n c1 c2
  split at e2
  ·rename_i c
   cases e2
   obtain ⟨c3,c4⟩:=ϛ.mp c
   exact ⟨o,n,e1,by rw [c1,eq_of_beq c3],c2,ϣ (of_decide_eq_true c4) (by rw [aF];decide)⟩
  ·cases e2
 ·cases e2
theorem Zi:∀ (ds:List D) (vs:List δ),uN ds vs=true->∃ xs:List V,Vals xs vs/\∀ (Γ:Gm) (g:G),Hass Γ g ds xs
 | [],[],_=>⟨[],.nil,fun _ _=>rfl⟩
 | .str x::ds,.str y t::vs,h=>by
  obtain ⟨h1,h2⟩:=ϛ.mp (show (x==y&&uN ds vs)=true from h)
  obtain ⟨xs,v,k⟩:=Zi ds vs h2
  exact ⟨.str x::xs,.cons ⟨t,by rw [eq_of_beq h1]⟩ v,fun Γ g=>⟨_,_,rfl,rfl,k Γ g⟩⟩
 | .int x::ds,.int y t::vs,h=>by
  obtain ⟨h1,h2⟩:=ϛ.mp (show (x==y&&uN ds vs)=true from h)
  obtain ⟨xs,v,k⟩:=Zi ds vs h2
  exact ⟨.int x::xs,.cons ⟨t,by rw [eq_of_beq h1]⟩ v,fun Γ g=>⟨_,_,rfl,rfl,k Γ g⟩⟩
set_option tactic.hygienic true in
theorem zcC {K:W.Frag}{a:Addr}{ps:List (Str×Int)}(h:dicAt K a ps=true):KDic K a ps:=by
 obtain ⟨h1,h2⟩:=ϛ.mp h
 refine ⟨?_,fun h k=>W.kt_text_in k h2⟩
 split at h1
 ·rename_i o e
  obtain ⟨h3,h4⟩:=ϛ.mp h1
  split at h3
  ·rename_i t c
   exact ⟨o,e,by rw [c,eq_of_beq h3],Option.isNone_iff_eq_none.mp h4⟩
  ·cases h3
 ·cases h1
set_option tactic.hygienic true in
theorem zcH {K:W.Frag}{rs:List Row}{cs:List (Str×List Nat)}{c:Nat}{p:Str×List Nat}(hp:cs[c]?=some p) (h:clsOk K cs p=true):∃ C,W.nsIn K Ψ p.1=some (some (.ref C))/\KCls (gmOf K rs cs) (cs.map (·.2)) c C:=by
 unfold clsOk at h
 cases e:caOf K p.1 with
 | none=>rw [e] at h;cases h
 | some C=>
  rw [e] at h
  simp only [ε,beq_iff_eq,aV] at h
  obtain ⟨⟨⟨⟨⟨⟨⟨⟨h1,h2⟩,h3⟩,h4⟩,h5⟩,h6⟩,h7⟩,h8⟩,h9⟩:=h
  have hs:∀ k,subT (cs.map (·.2)) c k=p.2.contains k:=fun k=>by
   unfold subT
   rw [Ο,hp]
   rfl
  have hq:∀ k Ck,(gmOf K rs cs).ca k=some Ck->W.kitOne K (.ref C) (.ref Ck)=some (p.2.contains k)/\W.exmOne K (.ref C) (.ref Ck)=some (p.2.contains k):=fun k Ck hk=>by
   obtain ⟨q,e1,e2⟩:=ν.mp (show (cs[k]?).bind (fun p=>caOf K p.1)=some Ck from hk)
   have:=h9 k (bG.mpr (Θ.mp e1).1)
   rw [e1] at this
   dsimp only at this
   rw [e2] at this
   simp only [ε,beq_iff_eq] at this
   exact this
  refine ⟨C,?_,⟨?_,h1,⟨h2,h3,h4,h5,h6,h7⟩,fun k Ck hk=>by rw [hs];exact (hq k Ck hk).1,h8,fun k Ck hk=>by rw [hs];exact (hq k Ck hk).2⟩⟩
  ·unfold caOf at e
   split at e
   ·rename_i z;cases e;exact z
   ·cases e
  ·show (cs[c]?).bind (fun p=>caOf K p.1)=some C
   rw [hp];exact e
theorem xT {α β:Type}{f g:α->β}{Q:α->Prop}(h:∀ a,f a=g a->Q a):∀ {l:List α},l.map f=l.map g->AllR Q l
 | [],_=>trivial
 | a::l,e=>by
  obtain ⟨e1,e2⟩:=dG e
  exact ⟨h a e1,xT h e2⟩
set_option tactic.hygienic true in
theorem zcG {K:W.Frag}{rs:List Row}{cs:List (Str×List Nat)}{x:Str}{d:D}(hd:AllR (fun r=>DefAt K r.name r.st) rs) (e:conOk K rs x d=true):∃ u v,W.nsIn K Ψ x=some (some u)/\RelV v u/\∀ g,Has (gmOf K rs cs) g d v:=by
 cases d with
 | int i=>
  unfold conOk at e
  dsimp only at e
  split at e
  ·rename_i j t q
   cases eq_of_beq e
   exact zaD q
  ·cases e
 | str y=>
  unfold conOk at e
  dsimp only at e
  split at e
  ·rename_i j t q
   cases eq_of_beq e
   exact zaz q
  ·cases e
 | fn i=>
  unfold conOk at e
  dsimp only at e
  split at e
  ·rename_i r q
   cases eq_of_beq e
   exact zcI q (hd.at q)
  ·cases e
 | ktp ds=>
  unfold conOk at e
  dsimp only at e
  split at e
  ·rename_i a q
   split at e
   ·rename_i its z
    obtain ⟨o,n,z1,z2,z3,z4⟩:=KC z
    obtain ⟨xs,v,k⟩:=Zi _ _ e
    exact ⟨.ref a,.ref a,q,rfl,fun g=>⟨a,xs,rfl,⟨o,its,n,z1,z2,z3,z4,v⟩,k _ g⟩⟩
   ·cases e
  ·cases e
 | kdc ps=>
  unfold conOk at e
  dsimp only at e
  split at e
  ·rename_i a q
   exact ⟨.ref a,.ref a,q,rfl,fun g=>⟨a,rfl,zcC e⟩⟩
  ·cases e
 | _=>cases e
theorem zaU {K:W.Frag}{B:Tb}{rs:List Row}(e:seenT K B rs=wantT B rs):Txt K B rs:=by
 obtain ⟨e1,e2⟩:=lq e
 obtain ⟨e2,e3⟩:=lq e2
 obtain ⟨e3,e4⟩:=lq e3
 have hk:AllR (fun p=>clsOk K B.cls p=true) B.cls:=xT (fun p q=>q) e4
 have hd:AllR (fun r=>DefAt K r.name r.st) rs:=xT (fun r q=>Jd q) e1
 have hc:AllR (fun p:Str×D=>∃ u v,W.nsIn K Ψ p.1=some (some u)/\RelV v u/\∀ g,Has (gmOf K rs B.cls) g p.2 v) B.consts:=xT (fun p q=>zcG hd q) e3
 exact ⟨hd,xT (fun x q=>q) e2,fun n x d q=>hc.at q,fun c x l q=>zcH q (hk.at q)⟩
abbrev TxtIn (B:Tb) (rs:List Row) (h:Heap):Prop:=∃ K:W.Frag,K.In h/\Txt K B rs
theorem zaV {B:Tb}{rs:List Row}{n:Nat}(w:ϒ) (s:μ) (e:seenT (frOf s.heap n) B rs=wantT B rs):TxtIn B rs s.heap:=⟨frOf s.heap n,fun a o q=>frIn _ a o q,zaU e⟩
theorem walkH {l:W.OpenLaw}{q:Μ}{loose:List Str}{XP:(Str->Option δ)->Heap->Prop}{d:DefRec}{B:Tb}{rs:List Row}{f:Nat}{r:Row}{y:Str}{wh:Nat}(hn:l.most=some 63) (hdf:d.params.defaults=[])
  (hr:rs[f]?=some r) (hd:d.name=r.name) (hps:r.ps=[y]) (t:Tabs B rs)
  (run:∀ ns:List Int,ns.length<=63->callW (fnsOf rs) wh 60 f [.scr ns] (fun x _=>x.1=.bl true) []):W.WalkO q loose XP (fun _ h=>TxtIn B rs h) l.row.toRowW d [] (fun f vs=>PySem.call f vs):=by
 refine Att.Zr hn hdf fun w sy s₁ mg mb fa o pm cd doc a vs ns G Y ho hd' hcd hmg hobj hints hlen hg=>?_
 obtain ⟨K,KX,tx⟩:=Y
 obtain ⟨fa',fd,F,na⟩:=(tx.defs.at hr).ex
 rw [hd] at hmg
 have e:=hmg.symm.trans (W.mg_of KX G.T.g na)
 cases e
 have ro:=t.rows.at hr
 refine UV (CX:=CX1 l.prog w) (k:=60) (x:=y) (fd:=fd) (sp:=spN (gmOf K rs B.cls) (callX (fnsOf rs) wh 60) f 1) KX G.T.g G.T.b G.T.builtins G.T.nolimit hg hobj hints (ϣ hlen (by decide)) ⟨rfl,rfl,by decide,by decide⟩ (fun base KB NB=>?_) (fun s v=>?_) (fun H hO hS=>?_) fun H e s' ⟨_,_,_,_,_,_,_,_,_,_,_,_,z⟩=>z
 ·have md:=zb8 t tx KX G.T.g
  have:=fn_e (P:=l.prog) (w:=w) (base:=base) (wh:=wh) (k:=59) md hr F (Kv wh md 59)
  rw [hps] at this
  exact this
 ·obtain ⟨oc,od,kV,doc,pm,an,cdv,ct,osl,rfl,lk,hcd⟩:=F.ex
  have hb:=ro.bd kV doc pm an cdv ct [v] (by rw [hps];rfl)
  rw [hps] at hb
  exact .of_eq hb
 ·refine ⟨rfl,⟨H,[]⟩,[.scr ns],[],_,noX,⟨Same.refl H,rfl,gH,(fun k c b h1 _ _=>by cases h1),(fun k c b h1 _=>by cases h1)⟩,⟨.ref a,[],rfl,⟨a,rfl,hS⟩,rfl⟩,run ns hlen,fun x v H' g' S' _ _ vx q=>?_,fun _ _ _ _ _ _ _ _ _ z=>z.elim⟩
  obtain ⟨d,k⟩:=x
  cases (show d=.bl true from q)
  exact vx.sc fun _ z=>z.elim
noncomputable def drOf (s:Stmt):DefRec:=match s with
 | .FunctionDef n a b _ _ _ sc _ _ p=>⟨n,a,b,sc,p⟩
 | _=>⟨"",yo s,[],zA s,⟨0,0,0,0⟩⟩
theorem zcw {l:W.OpenLaw}{q:Μ}{loose:List Str}{d:DefRec}{B:Tb}{rs:List Row}{f:Nat}{r:Row}{y:Str}{wh:Nat}(N n:Nat) (ok:l.wellSaid=true)
  (left:W.LeftO l.prog q loose (fun s=>W.xlAt q [] s&&W.recOk [] s) (fun s=>seenT (frOf s.heap n) B rs) (fun _=>wantT B rs) N)
  (hdef:W.defOf q l.name=some (d,[])) (hp:l.prog.theDef l.name=some (d.params,d.body,d.scope)) (hk:W.kwWritten? d.params.kwonlyargs d.params.kw_defaults=some [])
  (okk:(W.chainsOk q&&W.opensWell l.prog&&(W.frees l.row.toRowW&&l.row.within.isEmpty))=true) (hb:l.prog.bare) (hw:l.row.toRowW.promised)
  (hn:l.most=some 63) (hdf:d.params.defaults=[]) (hr:rs[f]?=some r) (hd:d.name=r.name) (hps:r.ps=[y]) (t:Tabs B rs)
  (run:∀ ns:List Int,ns.length<=63->callW (fnsOf rs) wh 60 f [.scr ns] (fun x _=>x.1=.bl true) []):l.Holds:=
 W.holds_law ok fun said=>W.holds_open (r:=l.row) (q:=q) (loose:=loose) (XP:=W.XL q []) (YP:=fun _ h=>TxtIn B rs h) (N:=N) left (fun w s e=>zaV w s e) (fun w h h' Y k=>Y.elim fun K z=>⟨K,z.1.keeps k,z.2⟩)
  (fun s e=>W.xl_of s (ϛ.mp e).1) W.XL.keeps hdef hp hk (fun s e=>W.recFacts_of (ϛ.mp e).2) (Bool.or_true _) said okk hb hw (walkH hn hdf hr hd hps t run)
end EV
namespace Q03
open PySem PySem.Spec PyProof.Rows L2 EV
theorem Ze:RowOk B vJ:=⟨by decide +kernel,by decide +kernel,rfl,rfl,fun _ _ _ _ _ _ us hl=>by obtain ⟨a0,e⟩:=ln1 hl;subst e;rfl⟩
theorem WD:RowOk B jX:=⟨by decide +kernel,by decide +kernel,rfl,rfl,fun _ _ _ _ _ _ us hl=>by obtain ⟨a0,e⟩:=ln1 hl;subst e;rfl⟩
theorem YS:RowOk B uD:=⟨by decide +kernel,by decide +kernel,rfl,rfl,fun _ _ _ _ _ _ us hl=>by obtain ⟨a0,e⟩:=ln1 hl;subst e;rfl⟩
theorem Zc:RowOk B vH:=⟨by decide +kernel,by decide +kernel,rfl,rfl,fun _ _ _ _ _ _ us hl=>by obtain ⟨a0,e⟩:=ln1 hl;subst e;rfl⟩
theorem jo:RowOk B xq:=⟨by decide +kernel,by decide +kernel,rfl,rfl,fun _ _ _ _ _ _ us hl=>by obtain ⟨a0,e⟩:=ln1 hl;subst e;rfl⟩
theorem vX:RowOk B yF:=⟨by decide +kernel,by decide +kernel,rfl,rfl,fun _ _ _ _ _ _ us hl=>by obtain ⟨a0,e⟩:=ln1 hl;subst e;rfl⟩
theorem Zd:RowOk B vI:=⟨by decide +kernel,by decide +kernel,rfl,rfl,fun _ _ _ _ _ _ us hl=>by obtain ⟨a0,a1,e⟩:=ln2 hl;subst e;rfl⟩
theorem kO:RowOk B wG:=⟨by decide +kernel,by decide +kernel,rfl,rfl,fun _ _ _ _ _ _ us hl=>by obtain ⟨a0,a1,e⟩:=ln2 hl;subst e;rfl⟩
theorem Zg:RowOk B vL:=⟨by decide +kernel,by decide +kernel,rfl,rfl,fun _ _ _ _ _ _ us hl=>by obtain ⟨a0,a1,a2,e⟩:=ln3 hl;subst e;rfl⟩
theorem jq:RowOk B xu:=⟨by decide +kernel,by decide +kernel,rfl,rfl,fun _ _ _ _ _ _ us hl=>by obtain ⟨a0,a1,e⟩:=ln2 hl;subst e;rfl⟩
theorem YT:RowOk B uE:=⟨by decide +kernel,by decide +kernel,rfl,rfl,fun _ _ _ _ _ _ us hl=>by obtain ⟨a0,a1,a2,a3,e⟩:=ln4 hl;subst e;rfl⟩
theorem ux:RowOk B yS:=⟨by decide +kernel,by decide +kernel,rfl,rfl,fun _ _ _ _ _ _ us hl=>by obtain ⟨a0,a1,a2,e⟩:=ln3 hl;subst e;rfl⟩
theorem jt:RowOk B xF:=⟨by decide +kernel,by decide +kernel,rfl,rfl,fun _ _ _ _ _ _ us hl=>by obtain ⟨a0,a1,a2,a3,e⟩:=ln4 hl;subst e;rfl⟩
theorem Zf:RowOk B vK:=⟨by decide +kernel,by decide +kernel,rfl,rfl,fun _ _ _ _ _ _ us hl=>by obtain ⟨a0,a1,a2,a3,e⟩:=ln4 hl;subst e;rfl⟩
theorem YW:RowOk B uF:=⟨by decide +kernel,by decide +kernel,rfl,rfl,fun _ _ _ _ _ _ us hl=>by obtain ⟨a0,a1,a2,a3,a4,a5,a6,e⟩:=ln7 hl;subst e;rfl⟩
theorem kW:RowOk B wH:=⟨by decide +kernel,by decide +kernel,rfl,rfl,fun _ _ _ _ _ _ us hl=>by obtain ⟨a0,a1,a2,a3,a4,a5,a6,e⟩:=ln7 hl;subst e;rfl⟩
theorem jr:RowOk B xx:=⟨by decide +kernel,by decide +kernel,rfl,rfl,fun _ _ _ _ _ _ us hl=>by obtain ⟨a0,a1,a2,a3,a4,a5,a6,e⟩:=ln7 hl;subst e;rfl⟩
theorem kJ:RowOk B wF:=⟨by decide +kernel,by decide +kernel,rfl,rfl,fun _ _ _ _ _ _ us hl=>by obtain ⟨a0,a1,e⟩:=ln2 hl;subst e;rfl⟩
theorem uw:RowOk B yR:=⟨by decide +kernel,by decide +kernel,rfl,rfl,fun _ _ _ _ _ _ us hl=>by obtain ⟨a0,a1,a2,e⟩:=ln3 hl;subst e;rfl⟩
theorem kI:RowOk B wD:=⟨by decide +kernel,by decide +kernel,rfl,rfl,fun _ _ _ _ _ _ us hl=>by obtain ⟨a0,e⟩:=ln1 hl;subst e;rfl⟩
theorem wQ:RowOk B yw:=⟨by decide +kernel,by decide +kernel,rfl,rfl,fun _ _ _ _ _ _ us hl=>by obtain ⟨a0,e⟩:=ln1 hl;subst e;rfl⟩
theorem xH:RowOk B yf:=⟨by decide +kernel,by decide +kernel,rfl,rfl,fun _ _ _ _ _ _ us hl=>by obtain ⟨a0,e⟩:=ln1 hl;subst e;rfl⟩
theorem uv:RowOk B yQ:=⟨by decide +kernel,by decide +kernel,rfl,rfl,fun _ _ _ _ _ _ us hl=>by obtain ⟨a0,a1,e⟩:=ln2 hl;subst e;rfl⟩
theorem k_law:RowOk B r_law:=⟨by decide +kernel,by decide +kernel,rfl,rfl,fun _ _ _ _ _ _ us hl=>by obtain ⟨a0,e⟩:=ln1 hl;subst e;rfl⟩
theorem Qi:AllR (RowOk B) rs:=⟨Ze,WD,YS,Zc,jo,vX,Zd,kO,Zg,jq,YT,ux,jt,Zf,YW,kW,jr,kJ,uw,kI,wQ,xH,uv,k_law,aR⟩
theorem zcb:AllR (KwOk rs) B.kws:=⟨⟨by decide,fun r hr=>by
 cases hr
 exact fun _ _ _ _ _ _ us hl=>by obtain ⟨a0,e⟩:=ln1 hl;subst e;rfl⟩,⟨by decide,fun r hr=>by
 cases hr
 exact fun _ _ _ _ _ _ us hl=>by obtain ⟨a0,a1,e⟩:=ln2 hl;subst e;rfl⟩,aR⟩
theorem tabs:Tabs B rs:=⟨rfl,rfl,Qi,zcb⟩
noncomputable def wh:Nat:=600
noncomputable def F:=fnsOf rs
theorem qJ {k:Nat}{x0:D}{S:Store}{V:Po}{ex:Xp}(h:wpCs (callX F wh k) ex wh ug [.sh x0] (told V) S):callX F wh (k+1) ex 0 [x0] V S:=zF rfl rfl rfl h
theorem jH {k:Nat}{x0:D}{S:Store}{V:Po}{ex:Xp}(h:wpCs (callX F wh k) ex wh qH [.sh x0,.no,.no,.no] (told V) S):callX F wh (k+1) ex 1 [x0] V S:=zF rfl rfl rfl h
theorem Yv {k:Nat}{x0:D}{S:Store}{V:Po}{ex:Xp}(h:wpCs (callX F wh k) ex wh uR [.sh x0,.no,.no,.no] (told V) S):callX F wh (k+1) ex 2 [x0] V S:=zF rfl rfl rfl h
theorem yX {k:Nat}{x0:D}{S:Store}{V:Po}{ex:Xp}(h:wpCs (callX F wh k) ex wh ue [.sh x0] (told V) S):callX F wh (k+1) ex 3 [x0] V S:=zF rfl rfl rfl h
theorem xj {k:Nat}{x0:D}{S:Store}{V:Po}{ex:Xp}(h:wpCs (callX F wh k) ex wh xO [.sh x0,.no,.no] (told V) S):callX F wh (k+1) ex 4 [x0] V S:=zF rfl rfl rfl h
theorem zT {k:Nat}{x0:D}{S:Store}{V:Po}{ex:Xp}(h:wpCs (callX F wh k) ex wh yK [.sh x0] (told V) S):callX F wh (k+1) ex 5 [x0] V S:=zF rfl rfl rfl h
theorem vC {k:Nat}{x0 x1:D}{S:Store}{V:Po}{ex:Xp}(h:wpCs (callX F wh k) ex wh uf [.sh x0,.sh x1,.no] (told V) S):callX F wh (k+1) ex 6 [x0,x1] V S:=zF rfl rfl rfl h
theorem jK {k:Nat}{x0 x1:D}{S:Store}{V:Po}{ex:Xp}(h:wpCs (callX F wh k) ex wh yL [.sh x0,.sh x1,.no,.no,.no,.no] (told V) S):callX F wh (k+1) ex 7 [x0,x1] V S:=zF rfl rfl rfl h
theorem qL {k:Nat}{x0 x1 x2:D}{S:Store}{V:Po}{ex:Xp}(h:wpCs (callX F wh k) ex wh ul [.sh x0,.sh x1,.sh x2] (told V) S):callX F wh (k+1) ex 8 [x0,x1,x2] V S:=zF rfl rfl rfl h
theorem uX {k:Nat}{x0 x1:D}{S:Store}{V:Po}{ex:Xp}(h:wpCs (callX F wh k) ex wh xP [.sh x0,.sh x1,.no,.no,.no] (told V) S):callX F wh (k+1) ex 9 [x0,x1] V S:=zF rfl rfl rfl h
theorem uy {k:Nat}{x0 x1 x2 x3:D}{S:Store}{V:Po}{ex:Xp}(h:wpCs (callX F wh k) ex wh uT [.sh x0,.sh x1,.sh x2,.sh x3,.no,.no,.no] (told V) S):callX F wh (k+1) ex 10 [x0,x1,x2,x3] V S:=zF rfl rfl rfl h
theorem ut {k:Nat}{x0 x1 x2:D}{S:Store}{V:Po}{ex:Xp}(h:wpCs (callX F wh k) ex wh yW [.sh x0,.sh x1,.sh x2] (told V) S):callX F wh (k+1) ex 11 [x0,x1,x2] V S:=zF rfl rfl rfl h
theorem uZ {k:Nat}{x0 x1 x2 x3:D}{S:Store}{V:Po}{ex:Xp}(h:wpCs (callX F wh k) ex wh xR [.sh x0,.sh x1,.sh x2,.sh x3,.no,.no,.no,.no,.no,.no] (told V) S):callX F wh (k+1) ex 12 [x0,x1,x2,x3] V S:=zF rfl rfl rfl h
theorem qK {k:Nat}{x0 x1 x2 x3:D}{S:Store}{V:Po}{ex:Xp}(h:wpCs (callX F wh k) ex wh uh [.sh x0,.sh x1,.sh x2,.sh x3,.no,.no,.no,.no] (told V) S):callX F wh (k+1) ex 13 [x0,x1,x2,x3] V S:=zF rfl rfl rfl h
theorem Yw {k:Nat}{x0 x1 x2 x3 x4 x5 x6:D}{S:Store}{V:Po}{ex:Xp}(h:wpCs (callX F wh k) ex wh uU [.sh x0,.sh x1,.sh x2,.sh x3,.sh x4,.sh x5,.sh x6,.no,.no,.no,.no,.no,.no,.no] (told V) S):callX F wh (k+1) ex 14 [x0,x1,x2,x3,x4,x5,x6] V S:=zF rfl rfl rfl h
theorem wA {k:Nat}{x0 x1 x2 x3 x4 x5 x6:D}{S:Store}{V:Po}{ex:Xp}(h:wpCs (callX F wh k) ex wh wN [.sh x0,.sh x1,.sh x2,.sh x3,.sh x4,.sh x5,.sh x6,.no,.no,.no,.no,.no] (told V) S):callX F wh (k+1) ex 15 [x0,x1,x2,x3,x4,x5,x6] V S:=zF rfl rfl rfl h
theorem uY {k:Nat}{x0 x1 x2 x3 x4 x5 x6:D}{S:Store}{V:Po}{ex:Xp}(h:wpCs (callX F wh k) ex wh xQ [.sh x0,.sh x1,.sh x2,.sh x3,.sh x4,.sh x5,.sh x6,.no,.no,.no] (told V) S):callX F wh (k+1) ex 16 [x0,x1,x2,x3,x4,x5,x6] V S:=zF rfl rfl rfl h
theorem jJ {k:Nat}{x0 x1:D}{S:Store}{V:Po}{ex:Xp}(h:wpCs (callX F wh k) ex wh wM [.sh x0,.sh x1,.no,.no] (told V) S):callX F wh (k+1) ex 17 [x0,x1] V S:=zF rfl rfl rfl h
theorem ur {k:Nat}{x0 x1 x2:D}{S:Store}{V:Po}{ex:Xp}(h:wpCs (callX F wh k) ex wh yV [.sh x0,.sh x1,.sh x2,.no,.no,.no,.no,.no,.no,.no,.no,.no] (told V) S):callX F wh (k+1) ex 18 [x0,x1,x2] V S:=zF rfl rfl rfl h
theorem yd {k:Nat}{x0:D}{S:Store}{V:Po}{ex:Xp}(h:wpCs (callX F wh k) ex wh wL [.sh x0] (told V) S):callX F wh (k+1) ex 19 [x0] V S:=zF rfl rfl rfl h
theorem zr {k:Nat}{x0:D}{S:Store}{V:Po}{ex:Xp}(h:wpCs (callX F wh k) ex wh yC [.sh x0,.no,.no,.no,.no,.no,.no,.no,.no] (told V) S):callX F wh (k+1) ex 20 [x0] V S:=zF rfl rfl rfl h
theorem ye {k:Nat}{x0:D}{S:Store}{V:Po}{ex:Xp}(h:wpCs (callX F wh k) ex wh yl [.sh x0,.no,.no] (told V) S):callX F wh (k+1) ex 21 [x0] V S:=zF rfl rfl rfl h
theorem uq {k:Nat}{x0 x1:D}{S:Store}{V:Po}{ex:Xp}(h:wpCs (callX F wh k) ex wh yU [.sh x0,.sh x1,.no,.no,.no] (told V) S):callX F wh (k+1) ex 22 [x0,x1] V S:=zF rfl rfl rfl h
theorem w_law {k:Nat}{x0:D}{S:Store}{V:Po}{ex:Xp}(h:wpCs (callX F wh k) ex wh b_law [.sh x0,.no,.no,.no,.no,.no,.no,.no] (told V) S):callX F wh (k+1) ex 23 [x0] V S:=zF rfl rfl rfl h
end Q03
local macro_rules | `(tactic| omega) => `(tactic| first | decide | with_reducible exact EV.om1 ‹_› (by with_unfolding_all rfl) | with_reducible exact EV.om2 ‹_› (by with_unfolding_all rfl) | with_reducible exact EV.om3 ‹_› (by with_unfolding_all rfl) | lia | omega (config := {}))
open EV in
local macro_rules | `(tactic| infer_instance) => `(tactic| first
 | ((with_reducible apply rdv_s); (exact rfl))
 | ((with_reducible apply rdv_o); (exact rfl))
 | ((with_reducible apply sel_s); (exact rfl))
 | ((with_reducible apply sel_o); (exact rfl))
 | ((with_reducible apply kp_s); (exact rfl))
 | ((with_reducible apply kp_f); (exact rfl))
 | ((with_reducible apply opv_s); (first | exact rfl | exact zaP (by simp <;> omega) | exact Wo rfl | exact JW rfl | exact JW (Xo (by decide) (by decide))))
 | ((with_reducible apply opv_f); (exact rfl))
 | ((with_reducible apply zE); (first | exact Qs (by decide) (by decide) | exact rfl | exact zaW (by decide) rfl | exact Wu (by decide) rfl))
 | ((with_reducible apply vN); (exact rfl); (try simp only [List.foldl, List.zip, List.zipWith, fW, ak, if_true, if_false]))
 | ((with_reducible apply bl_mk); (exact rfl))
 | ((with_reducible apply zcq); (exact rfl))
 | ((with_reducible apply zcr); (exact rfl))
 | ((with_reducible apply tst_T); (first | with_reducible rfl | decide | (focus (simp only [isNone, deref, eqP, eqPs, beq_self_eq_true, nF, Bool.not_false, iz, Bool.true_and]; done)) | (dsimp only [deref]; decide) | (refine fits_of ?_; (try simp only [ϊ, Ν, bC, List.length_nil]) <;> omega)))
 | ((with_reducible apply tst_F); (first | with_reducible rfl | decide | (focus (simp only [isNone, deref, eqP, eqPs, beq_self_eq_true, nF, Bool.not_false, iz, Bool.true_and]; done)) | (dsimp only [deref]; decide)))
 | ((with_reducible apply bx_f); (exact rfl))
 | ((with_reducible apply rv_s); (exact rfl))
 | ((with_reducible apply rv_f); (exact rfl))
 | ((with_reducible apply zbQ); (exact rfl))
 | ((with_reducible apply zbR); (exact rfl))
 | ((with_reducible apply zcJ); (exact rfl))
 | ((with_reducible apply zcp); (exact rfl))
 | ((with_reducible apply zaA); (dsimp only [wpC, e_var, e_con, e_glo, e_bin, e_neg, e_cmp, e_chn, e_not, e_and, e_or, e_ite, e_tup, e_lst, e_dic, e_sub, e_slc, e_bi, e_bi2, e_mth, Kp, zav, zau, e_box, e_one, zcB, wpEs, wpO, wpF, wpI, fW, fz, List.getElem?_cons_zero, List.getElem?_cons_succ, Option.getD]))
 | (with_reducible apply zcE)
 | (with_reducible apply KJ)
 | (with_reducible apply za0)
 | (with_reducible apply za2)
 | (with_reducible apply za1)
 | (with_reducible apply to_s)
 | (with_reducible apply to_f)
 | (with_reducible apply KH)
 | (with_reducible apply KD)
 | (with_reducible apply zaY)
 | (with_reducible apply zaZ)
 | (with_reducible apply zaX))
local macro_rules | `(tactic| nofun) => `(tactic| (repeat infer_instance))
namespace Q03
open PySem L2 EV
abbrev Is (K f:Nat) (ds:List D) (v:Vl) (S:Store):Prop:=callW F wh K f ds (fun x S'=>x=v/\S'=S) S
abbrev Sm (K f:Nat) (ds:List D) (P:Vl->Prop) (S:Store):Prop:=callW F wh K f ds (fun x S'=>P x/\S'=S) S
section
variable {K f:Nat}{ds:List D}{S:Store}
theorem Is.go {v:Vl}{V:Po}(h:Is K f ds v S) (q:V v S):callW F wh K f ds V S:=wp_mono h (by rintro _ _ ⟨rfl,rfl⟩;exact q)
end
section
variable {K f:Nat}{ds:List D}{S:Store}
theorem Sm.go {P:Vl->Prop}{V:Po}(h:Sm K f ds P S) (q:∀ x,P x->V x S):callW F wh K f ds V S:=wp_mono h (by rintro x _ ⟨h1,rfl⟩;exact q x h1)
end
theorem up {n K:Nat}(h:n+1<=K):∃ k,n<=k/\K=k+1:=⟨K - 1,by omega,by omega⟩
noncomputable def menu:List Str:=["x","xy","set","abcdefgh","end","q"]
noncomputable def sgL:List Str:=["+","-","*","<","="]
noncomputable def chars (s:Str):List D:=s.cps.toList.map fun c=>.str ⟨#[c]⟩
noncomputable def wdB (s:Str):Bool:=decide (1<=s.length)&&decide (s.length<=8)&&decide ((chars s).length<=8)&&(chars s).all fun d=>match inD d (.str "abcdefghijklmnopqrstuvwxyz") with
 | some b=>b
 | none=>false
section
variable {K:Nat}{S:Store}
def In (n:Int):Prop:=0<=n/\n < 1000000007
end
inductive Fm:Nat->D->Prop where
 | nm {k:Nat}{s:Str}(h:s∈menu):Fm k (.str s)
 | num {k:Nat}{i:Int}(h:In i):Fm k (.int i)
 | op {k:Nat}{g:Str}{a b:D}(h:g∈sgL) (ha:Fm k a) (hb:Fm k b):Fm (k+1) (.tup [.str g,a,b])
theorem Fm.mono:∀ {k:Nat}{d:D},Fm k d->∀ {m:Nat},k<=m->Fm m d
 | _,_,.nm h,_,_=>.nm h
 | _,_,.num h,_,_=>.num h
 | k+1,_,.op h ha hb,m,q=>by
  obtain ⟨m,rfl⟩:∃ j,m=j+1:=⟨m - 1,by omega⟩
  exact .op h (ha.mono (by omega)) (hb.mono (by omega))
noncomputable def whoL:List Str:=["bank","b","ask","skyskysk"]
def NmO (d:D):Prop:=d=.non\/∃ s∈menu,d=.str s
inductive Brn (C:Str->Nat->Prop):D->Prop where
 | ask {n e:D}{w:Str}(hn:NmO n) (hw:w∈whoL) (he:Fm 3 e):Brn C (.tup [n,.str "ask",.str w,e])
 | call {n:D}{f:Str}{l:List D}(hn:NmO n) (hf:wdB f=true) (hc:C f l.length) (h3:l.length<=3) (he:∀ e∈l,Fm 3 e):Brn C (.tup [n,.str "call",.str f,.tup l])
inductive RwB (C:Str->Nat->Prop) (B:Bool->Nat->List D->Prop):Bool->Nat->D->Prop where
 | set {u:Bool}{s:Str}{e:D}(hs:s∈menu) (he:Fm 3 e):RwB C B u 1 (.tup [.str "set",.str s,e])
 | tell {u:Bool}{e:D}(he:Fm 3 e):RwB C B u 1 (.tup [.str "tell",e])
 | fail {u:Bool}{e:D}(he:Fm 3 e):RwB C B u 1 (.tup [.str "fail",e])
 | give {e:D}(he:Fm 3 e):RwB C B false 1 (.tup [.str "give",e])
 | want {u:Bool}{i:Int}{bs:List D}(h1:1<=i) (h2:i<=bs.length) (h4:bs.length<=4) (hb:∀ b∈bs,Brn C b):RwB C B u 1 (.tup [.str "want",.int i,.tup bs])
 | whl {u:Bool}{e:D}{a:Nat}{b:List D}(he:Fm 3 e) (hb:B u a b):RwB C B u (a+1) (.tup [.str "while",e,.tup b])
 | iff {u:Bool}{e:D}{a a':Nat}{b b':List D}(he:Fm 3 e) (hb:B u a b) (hb':B u a' b'):RwB C B u (a+a'+1) (.tup [.str "if",e,.tup b,.tup b'])
 | tri {u:Bool}{n:D}{a a':Nat}{b b':List D}(hn:NmO n) (hb:B u a b) (hb':B u a' b'):RwB C B u (a+a'+1) (.tup [.str "try",.tup b,n,.tup b'])
 | doo {u:Bool}{a a':Nat}{b b':List D}(hb:B u a b) (hb':B true a' b'):RwB C B u (a+a'+1) (.tup [.str "do",.tup b,.tup b'])
inductive Rws (R:Nat->D->Prop):Nat->List D->Prop where
 | nil:Rws R 0 []
 | cons {a m:Nat}{d:D}{l:List D}(h:R a d) (t:Rws R m l):Rws R (a+m) (d::l)
def Bk (C:Str->Nat->Prop):Nat->Bool->Nat->List D->Prop
 | 0,_,m,l=>l=[]/\m=0
 | n+1,u,m,l=>l.length<=8/\Rws (RwB C (Bk C n) u) m l
inductive Bls (B:Bool->Nat->List D->Prop) (u:Bool):Nat->List D->Prop where
 | nil:Bls B u 0 []
 | cons {v:Bool}{m n:Nat}{b l:List D}(hv:u=true->v=true) (hb:B v m b) (t:Bls B u n l):Bls B u (m+n) (.tup b::l)
noncomputable abbrev LS (ns:List Str):D:=.lst (ns.map D.str)
section
variable {C:Str->Nat->Prop}{B:Bool->Nat->List D->Prop}{u:Bool}{a:Nat}{d:D}{K:Nat}{S:Store}
theorem fm1 {e:D}(h:Fm 3 e):∀ x∈[e],Fm 3 x:=fun x hx=>by rw [ξ.mp hx];exact h
end
section
variable {C:Str->Nat->Prop}{B:Bool->Nat->List D->Prop}{u:Bool}{a:Nat}{d:D}{K:Nat}{S:Store}
theorem zbB (h:RwB C B u a d):1<=a:=by cases h <;> omega
end
section
variable {C:Str->Nat->Prop}{B:Bool->Nat->List D->Prop}{u:Bool}{a:Nat}{d:D}{K:Nat}{S:Store}
theorem Rws.len {R:Nat->D->Prop}(hR:∀ a d,R a d->1<=a) {m:Nat}{l:List D}(h:Rws R m l):l.length<=m:=by
 induction h with
 | nil=>exact ς _
 | cons h t ih=>have:=hR _ _ h;simp;omega
end
section
variable {C:Str->Nat->Prop}{B:Bool->Nat->List D->Prop}{u:Bool}{a:Nat}{d:D}{K:Nat}{S:Store}
theorem Rws.app {R:Nat->D->Prop}{m n:Nat}{l k:List D}(h:Rws R m l) (h':Rws R n k):Rws R (m+n) (l++k):=by
 induction h with
 | nil=>simpa using h'
 | cons h t ih=>rw [Nat.add_assoc];exact .cons h ih
end
noncomputable def er (t:Str) (ps:List Str) (b:List D):D:=.tup [.str t,.tup (ps.map D.str),.tup b]
structure ErOk (C:Str->Nat->Prop) (t:Str) (ps:List Str) (b:List D):Prop where
 wd:wdB t=true
 ps3:ps.length<=3
 psm:∀ s∈ps,s∈menu
 psn:ps.Nodup
 bk:∃ m,m<=24/\Bk C 4 false m b
noncomputable abbrev Er:=Str×List Str×List D
noncomputable def erD (p:Er):D:=er p.1 p.2.1 p.2.2
noncomputable def prD (es:List Er):D:=.tup (es.map erD)
noncomputable abbrev LI (xs:List Int):D:=.lst (xs.map D.int)
theorem at_ok {xs:List Int}(h:0 < xs.length) (a:Int):∃ v,subD (LI xs) (.int (a % ((xs.map D.int).length:Int)))=some (.int v):=by
 rw [Ν]
 have hp:(0:Int) < (xs.length:Int):=by omega
 have h0:=cB a (show (xs.length:Int)≠0 by omega)
 have h1:=bJ a hp
 refine ⟨xs[(a % (xs.length:Int)).toNat]'(by omega),Wu h0 ?_⟩
 rw [Ο,ο (by omega)];rfl
theorem len_pos {xs:List Int}(h:0 < xs.length):(0:Int) < ((xs.map D.int).length:Int):=by
 rw [Ν];omega
theorem xY {l:List D}{v:Int}(h0:0<=v) (h1:v < l.length):∃ d∈l,subD (.lst l) (.int v)=some d:=⟨l[v.toNat]'(by omega),cV _,Wu h0 (ο (by omega))⟩
theorem ZM (xs:List Int) (v:Int):xs.map D.int++[D.int v]=(xs++[v]).map D.int:=by rw [my];rfl
theorem wu {c l0:Int}{xs:List Int}{S:Store}{K:Nat}{V:Po}(hl:xs.length<=500) (q:∀ ys:List Int,ys.length=500->V (LI ys,.fr) S):
  wpCs (callX F wh K) noX wh (yL.drop 3) [.sh (.int c),.sh (.int 500),.ow (LI xs),.sh (.int l0),.no,.no] (told V) S:=by
 show wpCs _ _ _ [_,_] _ _ _
 nofun
 refine tst_T (by rw [Ν];simp [fits,LIM];omega) ?_
 refine wp_walk (fun rem ρ S'=>S'=S/\∃ (j:Int) (ys:List Int) (x4 x5:Slot),rem=zZ j 500/\j=ys.length/\j<=500/\ρ=[.sh (.int c),.sh (.int 500),.ow (LI ys),.sh (.int l0),x4,x5]) ?_ ?_ _ _ _ ⟨rfl,xs.length,xs,.no,.no,by rw [Ν],rfl,by omega,rfl⟩
 ·rintro d rem ρ S' ⟨rfl,j,ys,x4,x5,e1,hy,h500,rfl⟩
  by_cases hj:j < 500
  ·rw [ZS (by omega)] at e1
   cases e1
   nofun
   refine opv_s (Wo (ZP (by omega) (by omega))) ?_
   nofun
   rw [ZM]
   exact ⟨rfl,j+1,_,_,_,rfl,by rw [ϊ,hy];rfl,by omega,rfl⟩
  ·rw [Ql (by omega)] at e1
   cases e1
 ·rintro ρ S' ⟨rfl,j,ys,x4,x5,e1,hy,h500,rfl⟩
  nofun
  by_cases hj:j < 500
  ·rw [ZS (by omega)] at e1
   cases e1
  ·exact q ys (by omega)
theorem Jc {c:Int}{K:Nat}{S:Store}(hK:1<=K):Sm K 7 [.int c,.int 500] (fun x=>∃ ys:List Int,x=(LI ys,.fr)/\ys.length=500) S:=by
 obtain ⟨K,hk,rfl⟩:=up hK
 refine jK ?_
 nofun
 refine yD (fun h=>?_) (fun h=>?_)
 ·nofun
  refine Zw (fun n ρ S'=>S'=S/\∃ (ys:List Int) (l:Int),ys.length+n=500/\ρ=[.sh (.int c),.sh (.int 500),.ow (LI ys),.sh (.int l),.no,.no]) ?_ 600 500 _ _ (by decide) ⟨rfl,[],_,rfl,rfl⟩
  rintro n ρ S' ⟨rfl,ys,l,hn,rfl⟩
  simp only [wpE]
  nofun
  refine yD (fun h1=>?_) (fun h1=>?_)
  ·nofun
   refine yD (fun h2=>?_) (fun h2=>?_)
   ·have h2:=of_decide_eq_true h2
    rw [Ν] at h2
    refine ⟨n - 1,by omega,?_⟩
    nofun
    rw [ZM]
    exact ⟨rfl,_,_,by rw [ϊ];simp;omega,rfl⟩
   ·nofun
    exact wu (by omega) fun ys h=>⟨⟨ys,rfl,h⟩,rfl⟩
  ·nofun
   exact wu (by omega) fun ys h=>⟨⟨ys,rfl,h⟩,rfl⟩
 ·nofun
  exact wu (xs:=[]) (by decide) fun ys h=>⟨⟨ys,rfl,h⟩,rfl⟩
section
variable {xs:List Int}{K:Nat}{S:Store}
variable {ns:List Str}
def Dr (m:Int) (x:Vl):Prop:=∃ v:Int,x=(.int v,.st)/\0<=v/\v < m
end
section
variable {xs:List Int}{K:Nat}{S:Store}
variable {ns:List Str}
theorem zy {a m:Int}(hx:0 < xs.length) (hm:0 < m) (hK:1<=K):Sm K 8 [LI xs,.int a,.int m] (Dr m) S:=by
 obtain ⟨K,hk,rfl⟩:=up hK
 obtain ⟨v,e⟩:=at_ok hx a
 refine qL ?_
 nofun
 refine opv_s (j9 (len_pos hx)) ?_
 refine zE e ?_
 nofun
 refine opv_s (j9 hm) ?_
 nofun
 exact ⟨⟨_,rfl,cB _ (by omega),bJ _ hm⟩,rfl⟩
end
section
variable {xs:List Int}{K:Nat}{S:Store}
variable {ns:List Str}
theorem zb9 (x:Int):In (x % 1000000007):=⟨cB _ (by decide),bJ _ (by decide)⟩
end
section
variable {xs:List Int}{K:Nat}{S:Store}
variable {ns:List Str}
theorem Q8 {a:Int}(hx:0 < xs.length) (hK:1<=K):Sm K 9 [LI xs,.int a] (fun x=>∃ v,x=(.int v,.st)/\In v) S:=by
 obtain ⟨K,hk,rfl⟩:=up hK
 obtain ⟨v,e⟩:=at_ok hx a
 obtain ⟨v1,e1⟩:=at_ok hx (a+1)
 obtain ⟨v2,e2⟩:=at_ok hx (a+2)
 refine uX ?_
 nofun
 refine opv_s (j9 (len_pos hx)) ?_
 refine zE e ?_
 nofun
 refine opv_s (j9 (len_pos hx)) ?_
 refine zE e1 ?_
 nofun
 refine opv_s (j9 (len_pos hx)) ?_
 refine zE e2 ?_
 nofun
 have h0:=cB (v2 / 7) (show (3:Int)≠0 by decide)
 have h1:=bJ (v2 / 7) (show (0:Int) < 3 by decide)
 generalize hw:v2 / 7 % 3=w at *
 have hc:w=0\/w=1\/w=2:=by omega
 generalize v*10 ^ Int.toNat 6+v1=q
 have k5:=cB q (show (5:Int)≠0 by decide)
 have l5:=bJ q (show (0:Int) < 5 by decide)
 have k3:=cB q (show (3:Int)≠0 by decide)
 have l3:=bJ q (show (0:Int) < 3 by decide)
 rcases hc with rfl | rfl | rfl
 ·nofun
  exact ⟨⟨_,rfl,k5,by omega⟩,rfl⟩
 ·nofun
  exact ⟨⟨_,rfl,by omega,by omega⟩,rfl⟩
 ·nofun
  exact ⟨⟨_,rfl,zb9 _⟩,rfl⟩
end
section
variable {xs:List Int}{K:Nat}{S:Store}
variable {ns:List Str}
theorem sg_at {v:Int}(h0:0<=v) (h:v < 5):∃ s∈sgL,subD (.str "+-*<=") (.int v)=some (.str s):=by
 have hc:v=0\/v=1\/v=2\/v=3\/v=4:=by omega
 rcases hc with rfl | rfl | rfl | rfl | rfl
 ·exact ⟨"+",by simp [sgL],by with_unfolding_all rfl⟩
 ·exact ⟨"-",by simp [sgL],by with_unfolding_all rfl⟩
 ·exact ⟨"*",by simp [sgL],by with_unfolding_all rfl⟩
 ·exact ⟨"<",by simp [sgL],by with_unfolding_all rfl⟩
 ·exact ⟨"=",by simp [sgL],by with_unfolding_all rfl⟩
end
section
variable {xs:List Int}{K:Nat}{S:Store}
variable {ns:List Str}
def Ft (k:Nat) (x:Vl):Prop:=∃ e t,x=(.tup [e,.int t],.st)/\Fm k e
end
section
variable {xs:List Int}{K:Nat}{S:Store}
variable {ns:List Str}
structure NsOk (ns:List Str):Prop where
 pos:0 < ns.length
 six:ns.length<=6
 mem:∀ s∈ns,s∈menu
end
section
variable {xs:List Int}{K:Nat}{S:Store}
variable {ns:List Str}
theorem ns_at (o:NsOk ns) {v:Int}(h0:0<=v) (h1:v < ((ns.map D.str).length:Int)):∃ s∈menu,subD (LS ns) (.int v)=some (.str s):=by
 obtain ⟨d,hd,e⟩:=xY h0 h1
 obtain ⟨s,hs,rfl⟩:=ϭ.mp hd
 exact ⟨s,o.mem s hs,e⟩
end
section
variable {xs:List Int}{K:Nat}{S:Store}
variable {ns:List Str}
theorem JT (o:NsOk ns):(0:Int) < ((ns.map D.str).length:Int):=by have:=o.pos;rw [Ν];omega
end
section
variable {xs:List Int}{K:Nat}{S:Store}
variable {ns:List Str}
theorem ns_ne (o:NsOk ns):cmpD .NotEq (LS ns) (.lst [])=some true:=by
 have h:=o.pos
 cases ns with
 | nil=>cases h
 | cons s r=>
  have:okP 60 (LS (s::r))=true:=yt (n:=59) (l:=(s::r).map D.str) fun d hd=>by obtain ⟨_,_,rfl⟩:=ϭ.mp hd;rfl
  rw [ne_op this rfl];rfl
end
section
variable {xs:List Int}{K:Nat}{S:Store}
variable {ns:List Str}
theorem za7 (hx:0 < xs.length) (o:NsOk ns):∀ (k:Nat) (a:Int) (K:Nat) (S:Store),k+2<=K->Sm K 10 [LI xs,.int a,LS ns,.int k] (Ft k) S:=by
 have leaf:∀ (k:Nat) (a:Int) (K:Nat) (S:Store) (G:Ko),1<=K->(∀ e t,Fm k e->G (.ret (.tup [e,.int t]) false) S)->wpCs (callX F wh K) noX wh [.ite (.and (.cmp .NotEq (.var 2) (.lst [])) (.one (.cmp .Eq (.call 8 [(.var 0),(.bin .Add (.var 1) (.con (.int 1))),(.con (.int 2))]) (.con (.int 0))))) [.ret (.tup [(.sub (.var 2) (.call 8 [(.var 0),(.bin .Add (.var 1) (.con (.int 2))),(.bi .len [(.var 2)])])),(.bin .Add (.var 1) (.con (.int 5)))])] [],.ret (.tup [(.call 9 [(.var 0),(.bin .Add (.var 1) (.con (.int 2)))]),(.bin .Add (.var 1) (.con (.int 5)))])] [.sh (LI xs),.sh (.int a),.sh (LS ns),.sh (.int k),.no,.no,.no] G S:=by
  intro k a K S G hK hG
  nofun
  refine zE (ns_ne o) ?_
  nofun
  refine (zy hx (by decide) hK).go ?_
  rintro _ ⟨v,rfl,h0,h1⟩
  nofun
  refine yD (fun h=>?_) (fun h=>?_)
  ·nofun
   refine (zy hx (JT o) hK).go ?_
   rintro _ ⟨v,rfl,h0,h1⟩
   obtain ⟨s,hs,e⟩:=ns_at o h0 h1
   nofun
   refine zE e ?_
   nofun
   exact hG _ _ (.nm hs)
  ·nofun
   refine (Q8 hx hK).go ?_
   rintro _ ⟨v,rfl,hv⟩
   nofun
   exact hG _ _ (.num hv)
 intro k
 induction k with
 | zero=>
  intro a K S hK
  obtain ⟨K,hk,rfl⟩:=up hK
  refine uy ?_
  repeat first | exact leaf 0 a K S _ (by omega) (fun e t h=>⟨⟨e,t,rfl,h⟩,rfl⟩) | infer_instance
 | succ k ih=>
  intro a K S hK
  obtain ⟨K,hk,rfl⟩:=up hK
  refine uy ?_
  nofun
  refine tst_F (beq_false_of_ne (by omega)) ?_
  nofun
  refine (zy hx (by decide) (by omega)).go ?_
  rintro _ ⟨v,rfl,h0,h1⟩
  nofun
  refine yD (fun h=>?_) (fun h=>?_)
  ·repeat first | exact leaf (k+1) a K S _ (by omega) (fun e t h=>⟨⟨e,t,rfl,h⟩,rfl⟩) | infer_instance
  ·nofun
   rw [show ((k+1:Nat):Int) - 1=(k:Int) by omega]
   refine (ih _ K S hk).go ?_
   rintro _ ⟨e1,t1,rfl,o1⟩
   nofun
   rw [show ((k+1:Nat):Int) - 1=(k:Int) by omega]
   refine (ih _ K S hk).go ?_
   rintro _ ⟨e2,t2,rfl,o2⟩
   nofun
   refine (zy hx (by decide) (by omega)).go ?_
   rintro _ ⟨v,rfl,h0,h1⟩
   obtain ⟨g,hg,e⟩:=sg_at h0 h1
   nofun
   refine zE e ?_
   nofun
   exact ⟨⟨_,_,rfl,.op hg o1 o2⟩,rfl⟩
end
section
variable {xs:List Int}{K:Nat}{S:Store}
variable {ns:List Str}
theorem um {a:Int}(hx:0 < xs.length) (o:NsOk ns) (hK:6<=K):Sm K 11 [LI xs,.int a,LS ns] (Ft 3) S:=by
 obtain ⟨K,hk,rfl⟩:=up hK
 refine ut ?_
 nofun
 refine (zy hx (by decide) (by omega)).go ?_
 rintro _ ⟨v,rfl,h0,h1⟩
 obtain ⟨k,k3,e⟩:∃ k:Nat,k<=3/\subD (.lst [.int 0,.int 1,.int 1,.int 3]) (.int v)=some (.int k):=by
  have hc:v=0\/v=1\/v=2\/v=3:=by omega
  rcases hc with rfl | rfl | rfl | rfl
  ·exact ⟨0,by decide,rfl⟩
  ·exact ⟨1,by decide,rfl⟩
  ·exact ⟨1,by decide,rfl⟩
  ·exact ⟨3,by decide,rfl⟩
 nofun
 refine zE e ?_
 nofun
 refine (za7 hx o k _ K S (by omega)).go ?_
 rintro _ ⟨e,t,rfl,h⟩
 nofun
 exact ⟨⟨_,_,rfl,h.mono k3⟩,rfl⟩
end
noncomputable def hdD (h:Str×Nat):D:=.tup [.str h.1,.int (h.2:Int)]
noncomputable def hsD (hs:List (Str×Nat)):D:=.lst (hs.map hdD)
structure HsOk (C:Str->Nat->Prop) (hs:List (Str×Nat)):Prop where
 pos:0 < hs.length
 three:hs.length<=3
 ok:∀ h∈hs,C h.1 h.2/\wdB h.1=true/\h.2<=3
section
variable {C:Str->Nat->Prop}{xs:List Int}{ns:List Str}{hs:List (Str×Nat)}{K:Nat}{S:Store}{a:Int}
theorem Z2 (n:Nat) (l:List Str):okPs n (l.map D.str)=true:=yt fun d hd=>by
 obtain ⟨_,_,rfl⟩:=ϭ.mp hd
 cases n <;> rfl
end
section
variable {C:Str->Nat->Prop}{xs:List Int}{ns:List Str}{hs:List (Str×Nat)}{K:Nat}{S:Store}{a:Int}
theorem hs_ne (o:HsOk C hs):cmpD .Eq (hsD hs) (.lst [])=some false:=by
 have h:=o.pos
 cases hs with
 | nil=>cases h
 | cons s r=>
  have:okP 60 (hsD (s::r))=true:=yt (n:=59) (l:=(s::r).map hdD) fun d hd=>by obtain ⟨_,_,rfl⟩:=ϭ.mp hd;rfl
  rw [eq_op this rfl];rfl
end
section
variable {C:Str->Nat->Prop}{xs:List Int}{ns:List Str}{hs:List (Str×Nat)}{K:Nat}{S:Store}{a:Int}
theorem zb5 (o:NsOk ns) {v:Int}(h0:0<=v) (h1:v < 1+((ns.map D.str).length:Int)):∃ d,NmO d/\subD (.lst (.non::ns.map D.str)) (.int v)=some d:=by
 obtain ⟨d,hd,e⟩:=xY (l:=.non::ns.map D.str) h0 (by simp at h1 ⊢;omega)
 refine ⟨d,?_,e⟩
 rcases Δ.mp hd with rfl | hd
 ·exact .inl rfl
 ·obtain ⟨s,hs,rfl⟩:=ϭ.mp hd
  exact .inr ⟨s,o.mem s hs,rfl⟩
end
section
variable {C:Str->Nat->Prop}{xs:List Int}{ns:List Str}{hs:List (Str×Nat)}{K:Nat}{S:Store}{a:Int}
theorem Vt (hx:0 < xs.length) (o:NsOk ns) (oh:HsOk C hs) (hK:7<=K):Sm K 12 [LI xs,.int a,LS ns,hsD hs] (fun x=>∃ b t,x=(.tup [b,.int t],.st)/\Brn C b) S:=by
 obtain ⟨K,hk,rfl⟩:=up hK
 have six:=o.six
 have hp:(0:Int) < 1+((ns.map D.str).length:Int):=by omega
 refine uZ ?_
 nofun
 refine opv_f (uo (a:=[.non]) (by simp;omega)) ?_
 nofun
 refine (zy hx hp (by omega)).go ?_
 rintro _ ⟨v,rfl,h0,h1⟩
 obtain ⟨nm,hnm,e⟩:=zb5 o h0 h1
 nofun
 refine zE (show subD (.lst ([.non]++ns.map D.str)) (.int v)=some nm from e) ?_
 have ei:isIns nm=false:=rfl
 nofun
 refine zE (hs_ne oh) ?_
 nofun
 refine (zy hx (by decide) (by omega)).go ?_
 rintro _ ⟨v,rfl,h0,h1⟩
 nofun
 refine yD (fun h=>?_) (fun h=>?_)
 ·nofun
  refine (um hx o (by omega)).go ?_
  rintro _ ⟨e1,t1,rfl,o1⟩
  nofun
  refine (zy hx (by decide) (by omega)).go ?_
  rintro _ ⟨v,rfl,h0,h1⟩
  obtain ⟨d,hd,e⟩:=xY (l:=whoL.map D.str) h0 h1
  obtain ⟨w,hw,rfl⟩:=ϭ.mp hd
  nofun
  refine zE e ?_
  nofun
  exact ⟨⟨_,_,rfl,.ask hnm hw o1⟩,rfl⟩
 ·nofun
  refine (zy hx (by have:=oh.pos;simp;omega) (by omega)).go ?_
  rintro _ ⟨v,rfl,h0,h1⟩
  obtain ⟨d,hd,e⟩:=xY (l:=hs.map hdD) h0 h1
  obtain ⟨⟨f,c⟩,hh,rfl⟩:=ϭ.mp hd
  obtain ⟨hC,hw,h3⟩:=oh.ok _ hh
  have h3:c<=3:=h3
  nofun
  refine zE e ?_
  nofun
  refine tst_T (by simp [fits,LIM];omega) ?_
  refine wp_walk (fun l ρ S'=>S'=S/\∃ (gs:List D) (t:Int) (x5 x9:Slot),ρ=[.sh (LI xs),.sh (.int a),.sh (LS ns),.sh (hsD hs),.sh nm,x5,.sh (.int t),.sh (hdD (f,c)),.ow (.lst gs),x9]/\(∀ g∈gs,Fm 3 g)/\gs.length+l.length=c/\∀ d∈l,∃ j,d=D.int j) ?_ ?_ _ _ _
   ⟨rfl,[],_,.no,.no,rfl,by simp,by rw [qO];simp,fun d hd=>(jf hd).elim fun j q=>⟨j,q.1⟩⟩
  ·rintro d l ρ S' ⟨rfl,gs,t,x5,x9,rfl,hg,hl,hd⟩
   have hl:gs.length+(l.length+1)=c:=hl
   obtain ⟨j,rfl⟩:=hd d ι
   nofun
   refine (um hx o (by omega)).go ?_
   rintro _ ⟨e1,t1,rfl,o1⟩
   nofun
   exact ⟨rfl,_,_,_,_,rfl,fun g hg'=>(Η.mp hg').elim (hg g) (fm1 o1 g),by simp;omega,fun d hx=>hd d (θ _ hx)⟩
  ·rintro ρ S' ⟨rfl,gs,t,x5,x9,rfl,hg,hl,hd⟩
   have hl:gs.length=c:=by simpa using hl
   nofun
   exact ⟨⟨_,_,rfl,.call hnm hw (by rw [hl];exact hC) (by omega) hg⟩,rfl⟩
end
section
variable {C:Str->Nat->Prop}{xs:List Int}{ns:List Str}{hs:List (Str×Nat)}{K:Nat}{S:Store}{a:Int}
theorem VM (hx:0 < xs.length) (o:NsOk ns) (oh:HsOk C hs) (hK:8<=K):Sm K 13 [LI xs,.int a,LS ns,hsD hs] (fun x=>∃ i bs t,x=(.tup [.tup [.str "want",.int i,.tup bs],.int t],.st)/\1<=i/\i<=(bs.length:Int)/\bs.length<=4/\∀ b∈bs,Brn C b) S:=by
 obtain ⟨K,hk,rfl⟩:=up hK
 refine qK ?_
 nofun
 refine (zy hx (by decide) (by omega)).go ?_
 rintro _ ⟨v,rfl,h0,h1⟩
 nofun
 refine tst_T (by simp [fits,LIM];omega) ?_
 refine wp_walk (fun l ρ S'=>S'=S/\∃ (bs:List D) (t:Int) (x6 x7:Slot),ρ=[.sh (LI xs),.sh (.int a),.sh (LS ns),.sh (hsD hs),.ow (.lst bs),.sh (.int t),x6,x7]/\(∀ b∈bs,Brn C b)/\bs.length+l.length=(1+v).toNat/\∀ d∈l,∃ j,d=D.int j) ?_ ?_ _ _ _
  ⟨rfl,[],_,.no,.no,rfl,by simp,by rw [qO];simp,fun d hd=>(jf hd).elim fun j q=>⟨j,q.1⟩⟩
 ·rintro d l ρ S' ⟨rfl,bs,t,x6,x7,rfl,hb,hl,hd⟩
  have hl:bs.length+(l.length+1)=(1+v).toNat:=hl
  obtain ⟨j,rfl⟩:=hd d ι
  nofun
  refine (Vt hx o oh (by omega)).go ?_
  rintro _ ⟨b,t1,rfl,o1⟩
  nofun
  exact ⟨rfl,_,_,_,_,rfl,fun g hg'=>(Η.mp hg').elim (hb g) (fun e=>by rw [ξ.mp e];exact o1),by simp;omega,fun d hx=>hd d (θ _ hx)⟩
 ·rintro ρ S' ⟨rfl,bs,t,x6,x7,rfl,hb,hl,hd⟩
  have hl:bs.length=(1+v).toNat:=by simpa using hl
  nofun
  refine (zy hx (by omega) (by omega)).go ?_
  rintro _ ⟨w,rfl,w0,w1⟩
  nofun
  exact ⟨⟨_,_,_,rfl,by omega,by omega,by omega,hb⟩,rfl⟩
end
section
variable (C:Str->Nat->Prop) (xs:List Int) (ns:List Str) (hs:List (Str×Nat))
def BlkAt (n:Nat):Prop:=∀ (K:Nat) (S:Store) (a:Int) (lf:Nat) (u:Bool),lf<=24->2*n+10<=K->Sm K 15 [LI xs,.int a,.int (5 - (n:Int)),.int (lf:Int),.bl u,LS ns,hsD hs] (fun x=>∃ b t m l',x=(.tup [.tup b,.int t,.int ((l':Nat):Int)],.st)/\Bk C n u m b/\l'+m=lf) S
end
section
variable (C:Str->Nat->Prop) (xs:List Int) (ns:List Str) (hs:List (Str×Nat))
def RwAt (n:Nat):Prop:=∀ (K:Nat) (S:Store) (a:Int) (lf:Nat) (u:Bool),lf<=24->2*n+11<=K->Sm K 14 [LI xs,.int a,.int (4 - (n:Int)),.int (lf:Int),.bl u,LS ns,hsD hs] (fun x=>∃ r t m l',x=(.tup [r,.int t,.int ((l':Nat):Int)],.st)/\RwB C (Bk C n) u m r/\l'+m=lf+1) S
end
section
variable {C:Str->Nat->Prop}{xs:List Int}{ns:List Str}{hs:List (Str×Nat)}
theorem Qj (hx:0 < xs.length) (o:NsOk ns) (oh:HsOk C hs) {n:Nat}(hB:BlkAt C xs ns hs n):RwAt C xs ns hs n:=by
 intro K S a lf u hlf hK
 obtain ⟨K,hk,rfl⟩:=up hK
 have e4:(4 - (n:Int))+1=5 - (n:Int):=by omega
 refine Yw ?_
 nofun
 refine (zy hx (by decide) (by omega)).go ?_
 rintro _ ⟨v,rfl,h0,h1⟩
 nofun
 refine yD (fun h=>?_) (fun h=>?_)
 ·nofun
  refine (VM hx o oh (by omega)).go ?_
  rintro _ ⟨i,bs,t,rfl,i1,i2,i4,hb⟩
  nofun
  exact ⟨⟨_,_,1,lf,rfl,.want i1 i2 i4 hb,rfl⟩,rfl⟩
 have h7:v<=7:=by have:=of_decide_eq_false h;omega
 nofun
 refine (zy hx (JT o) (by omega)).go ?_
 rintro _ ⟨w,rfl,w0,w1⟩
 obtain ⟨s,hs',e⟩:=ns_at o w0 w1
 nofun
 refine zE e ?_
 nofun
 refine (um hx o (by omega)).go ?_
 rintro _ ⟨e1,t1,rfl,o1⟩
 have hc:v=0\/v=1\/v=2\/v=3\/v=4\/v=5\/v=6\/v=7:=by omega
 clear h h0 h1 h7
 rcases hc with rfl | rfl | rfl | rfl | rfl | rfl | rfl | rfl
 ·nofun
  exact ⟨⟨_,_,1,lf,rfl,.set hs' o1,rfl⟩,rfl⟩
 ·cases u
  ·nofun
   exact ⟨⟨_,_,1,lf,rfl,.tell o1,rfl⟩,rfl⟩
  ·nofun
   exact ⟨⟨_,_,1,lf,rfl,.tell o1,rfl⟩,rfl⟩
 ·cases u
  ·nofun
   exact ⟨⟨_,_,1,lf,rfl,.give o1,rfl⟩,rfl⟩
  ·nofun
   exact ⟨⟨_,_,1,lf,rfl,.tell o1,rfl⟩,rfl⟩
 ·cases u
  ·nofun
   exact ⟨⟨_,_,1,lf,rfl,.fail o1,rfl⟩,rfl⟩
  ·nofun
   exact ⟨⟨_,_,1,lf,rfl,.fail o1,rfl⟩,rfl⟩
 ·nofun
  rw [e4]
  refine (hB K S _ lf u hlf hk).go ?_
  rintro _ ⟨b,t,m,l',rfl,hb,hm⟩
  nofun
  exact ⟨⟨_,_,m+1,l',rfl,.whl o1 hb,by omega⟩,rfl⟩
 ·nofun
  rw [e4]
  refine (hB K S _ lf u hlf hk).go ?_
  rintro _ ⟨b,t,m,l',rfl,hb,hm⟩
  cases u <;>
  ·nofun
   rw [e4]
   refine (hB K S _ l' _ (by omega) hk).go ?_
   rintro _ ⟨b',t',m',l2,rfl,hb',hm'⟩
   nofun
   exact ⟨⟨_,_,m+m'+1,l2,rfl,.iff o1 hb hb',by omega⟩,rfl⟩
 ·nofun
  rw [e4]
  refine (hB K S _ lf u hlf hk).go ?_
  rintro _ ⟨b,t,m,l',rfl,hb,hm⟩
  cases u <;>
  ·nofun
   rw [e4]
   refine (hB K S _ l' _ (by omega) hk).go ?_
   rintro _ ⟨b',t',m',l2,rfl,hb',hm'⟩
   nofun
   refine (zy hx (by decide) (by omega)).go ?_
   rintro _ ⟨w,rfl,w0,w1⟩
   have q0:0<=w / 10:=by omega
   have q1:w / 10 < 2:=by omega
   obtain ⟨d,hd,e⟩:=xY (l:=[.str s,.non]) q0 q1
   have hd:NmO d:=by
    rcases Δ.mp hd with rfl | hd
    ·exact .inr ⟨s,hs',rfl⟩
    ·rw [ξ.mp hd];exact .inl rfl
   nofun
   refine zE e ?_
   nofun
   exact ⟨⟨_,_,m+m'+1,l2,rfl,.tri hd hb hb',by omega⟩,rfl⟩
 ·nofun
  rw [e4]
  refine (hB K S _ lf u hlf hk).go ?_
  rintro _ ⟨b,t,m,l',rfl,hb,hm⟩
  cases u <;>
  ·nofun
   rw [e4]
   refine (hB K S _ l' _ (by omega) hk).go ?_
   rintro _ ⟨b',t',m',l2,rfl,hb',hm'⟩
   nofun
   exact ⟨⟨_,_,m+m'+1,l2,rfl,.doo hb hb',by omega⟩,rfl⟩
end
section
variable {C:Str->Nat->Prop}{xs:List Int}{ns:List Str}{hs:List (Str×Nat)}
theorem Wt {v:Int}(h0:0<=v) (h1:v < 5):∃ i:Int,0<=i/\i<=8/\subD (.lst [.int 0,.int 1,.int 2,.int 3,.int 8]) (.int v)=some (.int i):=by
 have hc:v=0\/v=1\/v=2\/v=3\/v=4:=by omega
 rcases hc with rfl | rfl | rfl | rfl | rfl
 ·exact ⟨0,by decide,by decide,rfl⟩
 ·exact ⟨1,by decide,by decide,rfl⟩
 ·exact ⟨2,by decide,by decide,rfl⟩
 ·exact ⟨3,by decide,by decide,rfl⟩
 ·exact ⟨8,by decide,by decide,rfl⟩
end
section
variable {C:Str->Nat->Prop}{xs:List Int}{ns:List Str}{hs:List (Str×Nat)}
theorem zaH (hx:0 < xs.length) (o:NsOk ns) (oh:HsOk C hs):∀ (n:Nat),BlkAt C xs ns hs n:=by
 intro n
 induction n with
 | zero=>
  intro K S a lf u hlf hK
  obtain ⟨K,hk,rfl⟩:=up hK
  refine wA ?_
  nofun
  refine (zy hx (by decide) (by omega)).go ?_
  rintro _ ⟨v,rfl,h0,h1⟩
  obtain ⟨i,i0,i1,e⟩:=Wt h0 h1
  nofun
  refine zE e ?_
  nofun
  refine tst_T (by simp [fits,LIM];omega) ?_
  refine wp_walk (fun l ρ S'=>S'=S/\∃ x10,ρ=[.sh (LI xs),.sh (.int a),.sh (.int (5 - ((0:Nat):Int))),.sh (.int lf),.sh (.bl u),.sh (LS ns),.sh (hsD hs),.ow (.lst []),.sh (.int i),.sh (.int (a+1)),x10,.no]/\∀ d∈l,∃ j,d=D.int j) ?_ ?_ _ _ _ ⟨rfl,.no,rfl,fun d hd=>(jf hd).elim fun j q=>⟨j,q.1⟩⟩
  ·rintro d l ρ S' ⟨rfl,x10,rfl,hd⟩
   obtain ⟨j,rfl⟩:=hd d ι
   nofun
   refine yD (fun h=>?_) (fun h=>?_)
   ·nofun
    exact ⟨rfl,_,rfl,fun d hx=>hd d (θ _ hx)⟩
   ·nofun
    exact ⟨rfl,_,rfl,fun d hx=>hd d (θ _ hx)⟩
  ·rintro ρ S' ⟨rfl,x10,rfl,hd⟩
   nofun
   exact ⟨⟨_,_,0,lf,rfl,⟨rfl,rfl⟩,rfl⟩,rfl⟩
 | succ n ih=>
  intro K S a lf u hlf hK
  obtain ⟨K,hk,rfl⟩:=up hK
  have e4:5 - ((n+1:Nat):Int)=4 - (n:Int):=by omega
  rw [e4]
  refine wA ?_
  nofun
  refine (zy hx (by decide) (by omega)).go ?_
  rintro _ ⟨v,rfl,h0,h1⟩
  obtain ⟨i,i0,i1,e⟩:=Wt h0 h1
  nofun
  refine zE e ?_
  nofun
  refine tst_T (by simp [fits,LIM];omega) ?_
  refine wp_walk (fun l ρ S'=>S'=S/\∃ (rs:List D) (l' m:Nat) (t:Int) (x10 x11:Slot),ρ=[.sh (LI xs),.sh (.int a),.sh (.int (4 - (n:Int))),.sh (.int (l':Int)),.sh (.bl u),.sh (LS ns),.sh (hsD hs),.ow (.lst rs),.sh (.int i),.sh (.int t),x10,x11]/\Rws (RwB C (Bk C n) u) m rs/\l'+m=lf/\rs.length+l.length<=8/\∀ d∈l,∃ j,d=D.int j) ?_ ?_ _ _ _
   ⟨rfl,[],lf,0,_,.no,.no,rfl,.nil,rfl,by rw [qO];simp;omega,fun d hd=>(jf hd).elim fun j q=>⟨j,q.1⟩⟩
  ·rintro d l ρ S' ⟨rfl,rs,l',m,t,x10,x11,rfl,hr,hm,hl,hd⟩
   have hl:rs.length+(l.length+1)<=8:=hl
   have hd':=fun d hx=>hd d (θ _ hx)
   obtain ⟨j,rfl⟩:=hd d ι
   nofun
   refine yD (fun h=>?_) (fun h=>?_)
   ·have hp:0 < l':=by have:=of_decide_eq_true h;omega
    nofun
    refine tst_T (decide_eq_true (by omega)) ?_
    nofun
    rw [show (l':Int) - 1=((l' - 1:Nat):Int) by omega]
    refine (Qj hx o oh ih K S' _ (l' - 1) u (by omega) (by omega)).go ?_
    rintro _ ⟨r,t2,m2,l2,rfl,hr2,hm2⟩
    nofun
    exact ⟨rfl,_,l2,m+(m2+0),_,_,_,rfl,hr.app (.cons hr2 .nil),by omega,by simp;omega,hd'⟩
   ·nofun
    exact ⟨rfl,_,l',m,_,_,_,rfl,hr,hm,by omega,hd'⟩
  ·rintro ρ S' ⟨rfl,rs,l',m,t,x10,x11,rfl,hr,hm,hl,hd⟩
   nofun
   exact ⟨⟨_,_,m,l',rfl,⟨by simpa using hl,hr⟩,hm⟩,rfl⟩
end
section
variable {C:Str->Nat->Prop}{xs:List Int}{ns:List Str}{hs:List (Str×Nat)}
theorem Va (hx:0 < xs.length) (o:NsOk ns) (oh:HsOk C hs) {K:Nat}{S:Store}{a:Int}{t:Str}{ps:List Str}(hK:19<=K):Sm K 16 [LI xs,.int a,.str t,LS ps,LS ns,hsD hs,.int 24] (fun x=>∃ b p m,x=(.tup [er t ps b,.int p],.st)/\m<=24/\Bk C 4 false m b) S:=by
 obtain ⟨K,hk,rfl⟩:=up hK
 refine uY ?_
 nofun
 refine (zaH hx o oh 4 K S a 24 false (by decide) hk).go ?_
 rintro _ ⟨b,p,m,l',rfl,hb,hm⟩
 nofun
 exact ⟨⟨b,p,m,rfl,by omega,hb⟩,rfl⟩
end
inductive Al (R:D->D->Prop):List D->List D->Prop where
 | nil:Al R [] []
 | cons {x y:D}{l m:List D}(h:R x y) (t:Al R l m):Al R (x::l) (y::m)
theorem Vh {s:D->(Option D->Store->Prop)->Store->Prop}{V:List D->Store->Prop}{S:Store}{R:D->D->Prop}:∀ (xs acc:List D),acc.length+xs.length<=1000->(∀ x∈xs,∀ Q:Option D->Store->Prop,(∀ y,R x y->Q (some y) S)->s x Q S)->(∀ ys,Al R xs ys->V (acc++ys) S)->walkW s xs acc V S
 | [],acc,_,_,v=>by
  have:=v [] .nil
  rw [χ] at this
  exact this
 | x::xs,acc,hl,h,v=>by
  have hl:acc.length+(xs.length+1)<=1000:=hl
  refine h x ι _ fun y hy=>tst_T (fits_of (by omega)) (Vh xs (acc++[y]) (by simp;omega) (fun z hz=>h z (θ _ hz)) fun ys a=>?_)
  have:=v (y::ys) (.cons hy a)
  simpa using this
noncomputable def hdL:List Str:=["main","a","ab","end","mainpart","z","yy","errand"]
theorem hd_wd:∀ s∈hdL,wdB s=true:=by decide +kernel
structure HdOk (hs:List (Str×Nat)):Prop where
 pos:0 < hs.length
 three:hs.length<=3
 nd:(hs.map fun h=>h.1).Nodup
 ok:∀ h∈hs,h.1∈hdL/\h.2<=3
abbrev C0 (hs:List (Str×Nat)):Str->Nat->Prop:=fun f c=>(f,c)∈hs
theorem HdOk.hs {hs:List (Str×Nat)}(o:HdOk hs):HsOk (C0 hs) hs:=⟨o.pos,o.three,fun h hh=>⟨hh,hd_wd _ (o.ok h hh).1,(o.ok h hh).2⟩⟩
section
variable {xs:List Int}{K:Nat}{S:Store}
noncomputable def h3L:List (List Str):=[["main","a","ab"],["end","main","mainpart"],["z","yy","errand"]]
end
section
variable {xs:List Int}{K:Nat}{S:Store}
theorem Yr:∀ (n:Nat) (ws:List Str) (ys:List D),Al (fun x y=>∃ (s:Str) (k:Int) (c:Nat),x=.tup [.int k,.str s]/\y=hdD (s,c)/\c<=3) (enumD n (ws.map D.str)) ys->∃ hs:List (Str×Nat),ys=hs.map hdD/\hs.map (fun h=>h.1)=ws/\∀ h∈hs,h.2<=3
 | n,[],_,.nil=>⟨[],rfl,rfl,by simp⟩
 | n,w::ws,_,.cons ⟨s,k,c,e,h,hc⟩ t=>by
  obtain ⟨hs,e1,e2,e3⟩:=Yr (n+1) ws _ t
  have e:D.tup [.int n,.str w]=.tup [.int k,.str s]:=e
  cases e
  refine ⟨(w,c)::hs,by rw [h,e1];rfl,by rw [<- e2];rfl,fun h hh=>?_⟩
  rcases Δ.mp hh with rfl | hh
  ·exact hc
  ·exact e3 h hh
end
section
variable {xs:List Int}{K:Nat}{S:Store}
theorem Yi:∀ (n:Nat) (ws:List Str),∀ x∈enumD n (ws.map D.str),∃ (s:Str) (k:Int),x=.tup [.int k,.str s]
 | n,[],x,h=>by cases h
 | n,w::ws,x,h=>by
  rcases Δ.mp h with rfl | h
  ·exact ⟨w,n,rfl⟩
  ·exact Yi (n+1) ws x h
end
section
variable {xs:List Int}{K:Nat}{S:Store}
theorem yj:∀ (n:Nat) (ws:List Str),(enumD n (ws.map D.str)).length=ws.length
 | n,[]=>rfl
 | n,w::ws=>congrArg (·+1) (yj (n+1) ws)
end
section
variable {xs:List Int}{K:Nat}{S:Store}
theorem V0 {v:Int}(h0:0<=v) (h1:v < 3):∃ ws∈h3L,subD (.lst (h3L.map LS)) (.int v)=some (LS ws):=by
 obtain ⟨d,hd,e⟩:=xY (l:=h3L.map LS) h0 h1
 obtain ⟨ws,hw,rfl⟩:=ϭ.mp hd
 exact ⟨ws,hw,e⟩
end
section
variable {xs:List Int}{K:Nat}{S:Store}
theorem h3_ok:∀ ws∈h3L,ws.length=3/\ws.Nodup/\∀ s∈ws,s∈hdL:=by decide +kernel
end
section
variable {xs:List Int}{K:Nat}{S:Store}
theorem U7 (hx:0 < xs.length) (hK:2<=K):Sm K 17 [LI xs,.int 0] (fun x=>∃ hs,x=(hsD hs,.fr)/\HdOk hs) S:=by
 obtain ⟨K,hk,rfl⟩:=up hK
 refine jJ ?_
 nofun
 refine (zy hx (by decide) hk).go ?_
 rintro _ ⟨v,rfl,h0,h1⟩
 obtain ⟨ws,hw,e⟩:=V0 h0 h1
 obtain ⟨w3,wn,wm⟩:=h3_ok ws hw
 nofun
 refine zE e ?_
 nofun
 refine (zy hx (by decide) hk).go ?_
 rintro _ ⟨w,rfl,w0,w1⟩
 obtain ⟨j,hj,j1,j3⟩:∃ j:Nat,(1+w)=(j:Int)/\1<=j/\j<=3:=⟨(1+w).toNat,by omega,by omega,by omega⟩
 nofun
 rw [hj,Kq (by simp;omega),<- nA]
 nofun
 refine wp_lc ?_
 dsimp only [wpI,e_var]
 nofun
 refine Vh (R:=fun x y=>∃ (s:Str) (k:Int) (c:Nat),x=.tup [.int k,.str s]/\y=hdD (s,c)/\c<=3) _ [] (by rw [yj];simp;omega) (fun x hx' Q hQ=>?_) fun ys al=>?_
 ·obtain ⟨s,k,rfl⟩:=Yi _ _ x hx'
  refine vN rfl ?_
  dsimp only [wpF,e_tup,Kp,e_bin,e_con,wpEs,e_var,inn,nT,Ξ,lz,χ,fW]
  nofun
  refine (zy hx (by decide) hk).go ?_
  rintro _ ⟨c,rfl,c0,c1⟩
  nofun
  exact hQ _ ⟨s,k,c.toNat,rfl,by rw [hdD,Int.toNat_of_nonneg c0],by omega⟩
 ·obtain ⟨hs,rfl,e2,e3⟩:=Yr _ _ _ al
  have hl:hs.length=j:=by
   have:=congrArg lX e2
   simpa [w3,Nat.min_eq_left j3] using this
  nofun
  refine ⟨⟨hs,rfl,by omega,by omega,by rw [e2];exact wn.sublist (lu ..),fun h hh=>⟨wm _ ?_,e3 h hh⟩⟩,rfl⟩
  have:h.1∈ws.take j:=by rw [<- e2];exact ie (f:=fun h:Str×Nat=>h.1) hh
  exact oM this
end
structure EsOk (hs:List (Str×Nat)) (es:List Er):Prop where
 hd:HdOk hs
 eq:es.map (fun p=>(p.1,p.2.1.length))=hs
 ok:∀ p∈es,ErOk (C0 hs) p.1 p.2.1 p.2.2
noncomputable abbrev menuD:List D:=[.str "x",.str "xy",.str "set",.str "abcdefgh",.str "end",.str "q"]
theorem Kz {v:Int}(h0:0<=v) (h1:v < 6):∃ ns:List Str,opD .Add (.lst (cutD menuD (some v) none)) (.lst (cutD menuD none (some v)))=some (LS ns,true)/\cutD (ns.map D.str) none (some 6)=ns.map D.str/\NsOk ns/\ns.Nodup/\ns.length=6:=by
 have k:∀ ns:List Str,(decide ((0 < ns.length)/\ns.length<=6/\(∀ s∈ns,s∈menu))=true)->NsOk ns:=fun ns h=>⟨(of_decide_eq_true h).1,(of_decide_eq_true h).2.1,(of_decide_eq_true h).2.2⟩
 have hc:v=0\/v=1\/v=2\/v=3\/v=4\/v=5:=by omega
 rcases hc with rfl | rfl | rfl | rfl | rfl | rfl
 ·exact ⟨["x","xy","set","abcdefgh","end","q"],rfl,rfl,k _ (by decide +kernel),by decide +kernel,rfl⟩
 ·exact ⟨["xy","set","abcdefgh","end","q","x"],rfl,rfl,k _ (by decide +kernel),by decide +kernel,rfl⟩
 ·exact ⟨["set","abcdefgh","end","q","x","xy"],rfl,rfl,k _ (by decide +kernel),by decide +kernel,rfl⟩
 ·exact ⟨["abcdefgh","end","q","x","xy","set"],rfl,rfl,k _ (by decide +kernel),by decide +kernel,rfl⟩
 ·exact ⟨["end","q","x","xy","set","abcdefgh"],rfl,rfl,k _ (by decide +kernel),by decide +kernel,rfl⟩
 ·exact ⟨["q","x","xy","set","abcdefgh","end"],rfl,rfl,k _ (by decide +kernel),by decide +kernel,rfl⟩
section
variable {xs:List Int}{K:Nat}{S:Store}
theorem YJ (hx:0 < xs.length) (hK:20<=K):Sm K 18 [LI xs,.int 24,.int 6] (fun x=>∃ hs es,x=(prD es,.st)/\EsOk hs es) S:=by
 obtain ⟨K,hk,rfl⟩:=up hK
 refine ur ?_
 nofun
 refine (U7 hx (by omega)).go ?_
 rintro _ ⟨hs,rfl,o⟩
 have h3:=o.three
 nofun
 refine (zy hx (by decide) (by omega)).go ?_
 rintro _ ⟨v,rfl,h0,h1⟩
 obtain ⟨ns,e3,e4,on,nn,n6⟩:=Kz h0 h1
 nofun
 refine opv_f e3 ?_
 nofun
 rw [e4]
 refine wp_walk (fun l ρ S'=>S'=S/\∃ (es:List Er) (r:List (Str×Nat)) (t:Int) (x6 x9 x10 x11:Slot),l=r.map hdD/\es.map (fun p=>(p.1,p.2.1.length))++r=hs/\(x6=.ow (LS ns)\/x6=.sh (LS ns))/\ρ=[.sh (LI xs),.sh (.int 24),.sh (.int 6),.sh (hsD hs),.ow (.lst menuD),.sh (.int v),x6,.sh (.int t),.ow (.lst (es.map erD)),x9,x10,x11]/\∀ p∈es,ErOk (C0 hs) p.1 p.2.1 p.2.2) ?_ ?_ _ _ _
  ⟨rfl,[],hs,_,_,.no,.no,.no,rfl,rfl,.inl rfl,rfl,by simp⟩
 ·rintro d l ρ S' ⟨rfl,es,r,t,x6,x9,x10,x11,el,eh,h6,rfl,he⟩
  cases r with
  | nil=>cases el
  | cons h r=>
   obtain ⟨rfl,rfl⟩:=dG el
   obtain ⟨f,c⟩:=h
   have hm:(f,c)∈hs:=by rw [<- eh];exact Χ _ ι
   obtain ⟨hf,hc⟩:=o.ok _ hm
   have hc:c<=3:=hc
   have ec:cutD (ns.map D.str) none (some (c:Int))=(ns.take c).map D.str:=by
    rw [Kq (by simp;omega),<- nA]
   have hel:es.length+(r.length+1)<=3:=by
    have:=congrArg lX eh
    simp at this;omega
   rcases h6 with rfl | rfl <;>
   ·nofun
    rw [ec]
    refine (Va hx on o.hs (by omega)).go ?_
    rintro _ ⟨b,p,m,rfl,m24,hb⟩
    nofun
    refine ⟨rfl,es++[(f,ns.take c,b)],r,p,_,_,_,_,rfl,?_,.inr rfl,by rw [my];rfl,fun q hq=>?_⟩
    ·rw [<- eh];simp [n6];omega
    ·rcases Η.mp hq with hq | hq
     ·exact he q hq
     ·rw [ξ.mp hq]
      exact ⟨hd_wd f hf,by simp;omega,fun s hs=>on.mem s (oM hs),nn.sublist (lu ..),m,m24,hb⟩
 ·rintro ρ S' ⟨rfl,es,r,t,x6,x9,x10,x11,el,eh,h6,rfl,he⟩
  cases r with
  | cons=>cases el
  | nil=>
   rw [χ] at eh
   nofun
   exact ⟨⟨hs,es,rfl,o,eh,he⟩,rfl⟩
end
noncomputable def fw:Nat->D->List Str
 | _,.str s=>[s]
 | k+1,.tup [_,a,b]=>fw k a++fw k b
 | _,_=>[]
noncomputable def oS:D->List Str
 | .str s=>[s]
 | _=>[]
noncomputable def hS:D->List Str
 | .tup (n::_)=>oS n
 | _=>[]
noncomputable def tL:D->List D
 | .tup l=>l
 | _=>[]
noncomputable def bF:D->List D
 | .tup [_,.str k,_,x]=>if k="ask" then [x] else tL x
 | _=>[]
noncomputable def sn:D->List Str
 | .tup [.str w,x,y]=>if w="set" then oS x else if w="want" then (tL y).flatMap hS else []
 | .tup [.str w,_,x,_]=>if w="try" then oS x else []
 | _=>[]
noncomputable def fs:D->List D
 | .tup [_,e]=>[e]
 | .tup [.str w,x,y]=>if w="set" then [y] else if w="while" then [x] else if w="want" then (tL y).flatMap bF else []
 | .tup [.str w,x,_,_]=>if w="if" then [x] else []
 | _=>[]
noncomputable def bk:D->List (List D)
 | .tup [.str w,x,y]=>if w="while" then [tL y] else if w="do" then [tL x,tL y] else []
 | .tup [.str w,x,y,z]=>if w="if" then [tL y,tL z] else [tL x,tL z]
 | _=>[]
noncomputable def own (d:D):List Str:=sn d++(fs d).flatMap (fw 3)
noncomputable def ro:Nat->List D->List D
 | 0,_=>[]
 | n+1,l=>l.flatMap fun r=>r::(bk r).flatMap (ro n)
noncomputable def wb:Nat->List D->List Str
 | 0,_=>[]
 | n+1,l=>l.flatMap fun r=>own r++(bk r).flatMap (wb n)
theorem ro_wb:∀ (n:Nat) (l:List D),(ro n l).flatMap own=wb n l
 | 0,_=>rfl
 | n+1,l=>by
  show (l.flatMap fun r=>r::(bk r).flatMap (ro n)).flatMap own=l.flatMap fun r=>own r++(bk r).flatMap (wb n)
  rw [iC]
  congr 1
  funext r
  rw [Ϡ,iC]
  congr 2
  funext b
  exact ro_wb n b
theorem fw_ok:∀ {k:Nat}{d:D},Fm k d->(∀ s∈fw k d,s∈menu)/\(fw k d).length<=2 ^ k
 | k,_,.nm h=>by
  cases k <;> exact ⟨fun s hs=>by rw [ξ.mp hs];exact h,Nat.one_le_two_pow⟩
 | k,_,.num h=>by
  cases k <;> exact ⟨(fun s hs=>by cases hs),ϡ _⟩
 | k+1,_,.op h ha hb=>by
  obtain ⟨a1,a2⟩:=fw_ok ha
  obtain ⟨b1,b2⟩:=fw_ok hb
  refine ⟨fun s hs=>(Η.mp (show s∈fw k _++fw k _ from hs)).elim (a1 s) (b1 s),?_⟩
  show (fw k _++fw k _).length<=_
  rw [ϊ,Nat.pow_succ]
  omega
section
variable {C:Str->Nat->Prop}{B:Bool->Nat->List D->Prop}{u:Bool}{a:Nat}{d:D}{K:Nat}{S:Store}
theorem oS_ok (h:NmO d):(∀ s∈oS d,s∈menu)/\(oS d).length<=1:=by
 rcases h with rfl | ⟨s,hs,rfl⟩
 ·exact ⟨(fun s hs=>by cases hs),ϡ _⟩
 ·exact ⟨fun x hx=>by rw [ξ.mp hx];exact hs,ς _⟩
theorem xM {α:Type}{f:D->List α}{c:Nat}:∀ {l:List D},(∀ x∈l,(f x).length<=c)->(l.flatMap f).length<=c*l.length
 | [],_=>ϡ _
 | x::l,h=>by
  have h1:=h x ι
  have h2:=xM fun y hy=>h y (θ _ hy)
  rw [Ϡ,ϊ,bC,Nat.mul_succ]
  omega
theorem Kr (h:Brn C d):(∀ s∈hS d,s∈menu)/\(hS d).length<=1:=by
 cases h with
 | ask hn=>exact oS_ok hn
 | call hn=>exact oS_ok hn
theorem qy (h:Brn C d):(∀ e∈bF d,Fm 3 e)/\(bF d).length<=3:=by
 cases h with
 | @ask n e w hn hw he=>exact ⟨fun x hx=>by rw [ξ.mp (show x∈[e] from hx)];exact he,(by decide:1<=3)⟩
 | call hn hf hc h3 he=>exact ⟨he,h3⟩
theorem sn_ok (h:RwB C B u a d):(∀ s∈sn d,s∈menu)/\(sn d).length<=4:=by
 cases h with
 | @set _ s e hs he=>exact ⟨fun x hx=>by rw [ξ.mp (show x∈[s] from hx)];exact hs,(by decide:1<=4)⟩
 | tell | fail | give | whl | iff | doo=>exact ⟨(fun s hs=>by cases hs),ϡ _⟩
 | tri hn=>exact ⟨(oS_ok hn).1,ϣ (oS_ok hn).2 (by decide)⟩
 | @want _ i bs h1 h2 h4 hb=>
  refine ⟨fun s hs=>?_,?_⟩
  ·obtain ⟨x,hx,hs⟩:=aU.mp (show s∈bs.flatMap hS from hs)
   exact (Kr (hb x hx)).1 s hs
  ·have:=xM (f:=hS) (c:=1) fun x hx=>(Kr (hb x hx)).2
   show (bs.flatMap hS).length<=4
   omega
theorem fs_ok (h:RwB C B u a d):(∀ e∈fs d,Fm 3 e)/\(fs d).length<=12:=by
 cases h with
 | @set _ s e hs he=>exact ⟨fun x hx=>by rw [ξ.mp (show x∈[e] from hx)];exact he,(by decide:1<=12)⟩
 | @tell _ e he=>exact ⟨fun x hx=>by rw [ξ.mp (show x∈[e] from hx)];exact he,(by decide:1<=12)⟩
 | @fail _ e he=>exact ⟨fun x hx=>by rw [ξ.mp (show x∈[e] from hx)];exact he,(by decide:1<=12)⟩
 | @give e he=>exact ⟨fun x hx=>by rw [ξ.mp (show x∈[e] from hx)];exact he,(by decide:1<=12)⟩
 | @whl _ e _ _ he _=>exact ⟨fun x hx=>by rw [ξ.mp (show x∈[e] from hx)];exact he,(by decide:1<=12)⟩
 | @iff _ e _ _ _ _ he _ _=>exact ⟨fun x hx=>by rw [ξ.mp (show x∈[e] from hx)];exact he,(by decide:1<=12)⟩
 | tri | doo=>exact ⟨(fun s hs=>by cases hs),ϡ _⟩
 | @want _ i bs h1 h2 h4 hb=>
  refine ⟨fun s hs=>?_,?_⟩
  ·obtain ⟨x,hx,hs⟩:=aU.mp (show s∈bs.flatMap bF from hs)
   exact (qy (hb x hx)).1 s hs
  ·have:=xM (f:=bF) (c:=3) fun x hx=>(qy (hb x hx)).2
   show (bs.flatMap bF).length<=12
   omega
theorem JN (h:RwB C B u a d):(∀ s∈own d,s∈menu)/\(own d).length<=100:=by
 obtain ⟨s1,s2⟩:=sn_ok h
 obtain ⟨f1,f2⟩:=fs_ok h
 have hl:=xM (f:=fw 3) (c:=8) fun x hx=>(fw_ok (f1 x hx)).2
 refine ⟨fun s hs=>(Η.mp hs).elim (s1 s) fun q=>?_,?_⟩
 ·obtain ⟨e,he,hs⟩:=aU.mp q
  exact (fw_ok (f1 e he)).1 s hs
 ·unfold own
  rw [ϊ]
  omega
theorem bk_is (h:RwB C B u a d):∃ n,Bls B u n ((bk d).map D.tup)/\n+1=a/\(bk d).length<=2:=by
 cases h with
 | set | tell | fail | give | want=>exact ⟨0,.nil,rfl,aj rfl⟩
 | @whl _ e m b he hb=>exact ⟨_,.cons id hb .nil,rfl,aj rfl⟩
 | iff he hb hb'=>exact ⟨_,.cons id hb (.cons id hb' .nil),rfl,aj rfl⟩
 | tri he hb hb'=>exact ⟨_,.cons id hb (.cons id hb' .nil),rfl,aj rfl⟩
 | doo hb hb'=>exact ⟨_,.cons id hb (.cons (fun _=>rfl) hb' .nil),rfl,aj rfl⟩
end
section
variable {C:Str->Nat->Prop}{B:Bool->Nat->List D->Prop}{u:Bool}{a:Nat}{d:D}{K:Nat}{S:Store}
theorem Vw (h:RwB C B u a d) (hK:1<=K):Is K 0 [d] (.tup ((bk d).map D.tup),.st) S:=by
 obtain ⟨K,hk,rfl⟩:=up hK
 cases h <;>
 ·refine qJ ?_
  nofun
  exact ⟨rfl,rfl⟩
theorem uO {s:D->(Option D->Store->Prop)->Store->Prop}{V:List D->Store->Prop}{S:Store}(f:D->List Str):∀ (xs:List D) (acc:List Str),acc.length+xs.length<=1000->(∀ x∈xs,∀ Q:Option D->Store->Prop,(f x=[]->Q none S)->(∀ t,f x=[t]->Q (some (.str t)) S)->s x Q S) ->
  V ((acc++xs.flatMap f).map D.str) S->walkW s xs (acc.map D.str) V S
 | [],acc,_,_,v=>by
  rw [bD,χ] at v
  exact v
 | x::xs,acc,hl,h,v=>by
  have hl:acc.length+(xs.length+1)<=1000:=hl
  have h':=fun y hy=>h y (θ _ hy)
  refine h x ι _ (fun e=>?_) fun t e=>?_
  ·exact uO f xs acc (by omega) h' (by simpa [Ϡ,e] using v)
  ·refine tst_T (fits_of (by simp;omega)) ?_
   have:=uO (s:=s) (V:=V) (S:=S) f xs (acc++[t]) (by simp;omega) h' (by simpa [Ϡ,e] using v)
   simpa using this
theorem K4 (h:RwB C B u a d) (hK:1<=K):Is K 3 [d] (LS (sn d),.fr) S:=by
 obtain ⟨K,hk,rfl⟩:=up hK
 cases h with
 | set | tell | fail | give | whl | iff | doo=>
  refine yX ?_
  nofun
  exact ⟨rfl,rfl⟩
 | @tri _ n _ _ b b' hn=>
  refine yX ?_
  nofun
  refine wp_lc ?_
  dsimp only [wpI,e_sub,e_var,e_con,e_lst,wpEs]
  nofun
  refine uO oS [n] [] (by simp) (fun x hx Q h0 h1=>?_) ?_
  ·rw [ξ.mp hx] at h0 h1 ⊢
   refine vN rfl ?_
   dsimp only [wpF,e_cmp,e_con,e_var,inn,nT,Ξ,lz,χ,fW]
   rcases hn with rfl | ⟨s,hs,rfl⟩
   ·nofun
    exact h0 rfl
   ·nofun
    exact h1 s rfl
  ·nofun
   refine ⟨?_,rfl⟩
   show (D.lst _,Kd.fr)=(LS (oS n),Kd.fr)
   simp [LS]
 | @want _ i bs h1 h2 h4 hb=>
  refine yX ?_
  nofun
  refine wp_lc ?_
  dsimp only [wpI,e_sub,e_var,e_con]
  nofun
  refine uO hS bs [] (by simp;omega) (fun x hx Q h0 h1=>?_) ?_
  ·have h5:∃ n l,x=.tup (n::l)/\NmO n:=by
    cases hb x hx with
    | ask hn=>exact ⟨_,_,rfl,hn⟩
    | call hn=>exact ⟨_,_,rfl,hn⟩
   obtain ⟨n,l,rfl,hn⟩:=h5
   refine vN rfl ?_
   dsimp only [wpF,e_cmp,e_sub,e_con,e_var,inn,nT,Ξ,lz,χ,fW]
   rcases hn with rfl | ⟨s,hs,rfl⟩
   ·nofun
    exact h0 rfl
   ·nofun
    exact h1 s rfl
  ·nofun
   exact ⟨rfl,rfl⟩
theorem zal (h:RwB C B u a d) (hK:1<=K):Is K 4 [d] (.lst (fs d),.fr) S:=by
 obtain ⟨K,hk,rfl⟩:=up hK
 cases h with
 | set | tell | fail | give | whl | iff | tri | doo=>
  refine xj ?_
  nofun
  exact ⟨rfl,rfl⟩
 | @want _ i bs h1 h2 h4 hb=>
  refine xj ?_
  nofun
  refine wp_walk (fun l ρ S'=>S'=S/\∃ (es:List D) (x2:Slot),ρ=[.sh (.tup [.str "want",.int i,.tup bs]),.ow (.lst es),x2]/\es++l.flatMap bF=bs.flatMap bF/\(∀ b∈l,Brn C b)/\es.length+3*l.length<=12) ?_ ?_ _ _ _ ⟨rfl,[],.no,rfl,rfl,hb,by simp;omega⟩
  ·rintro d l ρ S' ⟨rfl,es,x2,rfl,hf,hb,hl⟩
   have hl:es.length+3*(l.length+1)<=12:=hl
   have hb':=fun b hx=>hb b (θ _ hx)
   rw [Ϡ] at hf
   have hd:=hb d ι
   have h3:=(qy hd).2
   cases hd with
   | @ask n e w hn hw he=>
    nofun
    exact ⟨rfl,_,_,rfl,by rw [aJ];exact hf,hb',by simp;omega⟩
   | @call n f l' hn hf' hc h3 he=>
    nofun
    exact ⟨rfl,_,_,rfl,by rw [aJ];exact hf,hb',by simp;omega⟩
  ·rintro ρ S' ⟨rfl,es,x2,rfl,hf,hb,hl⟩
   nofun
   rw [bD,χ] at hf
   exact ⟨by rw [hf];rfl,rfl⟩
theorem W6:∀ (k:Nat) (d:D),k<=3->Fm k d->∀ (K:Nat) (S:Store),k+1<=K->Is K 5 [d] (LS (fw k d),.fr) S:=by
 intro k
 induction k with
 | zero=>
  intro d _ h K S hK
  obtain ⟨K,hk,rfl⟩:=up hK
  cases h <;>
  ·refine zT ?_
   nofun
   exact ⟨rfl,rfl⟩
 | succ k ih=>
  intro d h3 h K S hK
  obtain ⟨K,hk,rfl⟩:=up hK
  have hq:2 ^ k<=2 ^ 3:=oV (by decide) (by omega)
  cases h with
  | nm h=>
   refine zT ?_
   nofun
   exact ⟨rfl,rfl⟩
  | num h=>
   refine zT ?_
   nofun
   exact ⟨rfl,rfl⟩
  | op h ha hb=>
   have l1:=(fw_ok ha).2
   have l2:=(fw_ok hb).2
   refine zT ?_
   nofun
   refine (ih _ (by omega) ha _ _ hk).go ?_
   nofun
   refine (ih _ (by omega) hb _ _ hk).go ?_
   refine opv_f (uo (by simp;omega)) ?_
   nofun
   refine ⟨?_,rfl⟩
   show (D.lst _,Kd.fr)=(LS (fw k _++fw k _),Kd.fr)
   simp [LS]
end
def Ar (C:Str->Nat->Prop) (r:D):Prop:=∃ n v a,RwB C (Bk C n) v a r
section
variable {C:Str->Nat->Prop}{u:Bool}{K:Nat}{S:Store}
theorem Bls.all {B:Bool->Nat->List D->Prop}{n:Nat}:∀ {l:List (List D)},Bls B u n (l.map D.tup)->∀ b∈l,∃ v m,m<=n/\B v m b
 | [],_,b,hb=>by cases hb
 | x::l,h,b,hb=>by
  cases h with
  | cons hv h t=>
   rcases Δ.mp hb with rfl | hb
   ·exact ⟨_,_,Nat.le_add_right ..,h⟩
   ·obtain ⟨v,m,h1,h2⟩:=Bls.all t b hb
    exact ⟨v,m,by omega,h2⟩
theorem Jy {B:Bool->Nat->List D->Prop}{f:List D->List D}(hf:∀ v m b,B v m b->(f b).length=m) {n:Nat}:∀ {l:List (List D)},Bls B u n (l.map D.tup)->(l.flatMap f).length=n
 | [],h=>by cases h;rfl
 | x::l,h=>by
  cases h with
  | cons hv h t=>
   rw [Ϡ,ϊ,hf _ _ _ h,Jy hf t]
theorem Jx {n:Nat}(ih:∀ (u:Bool) (m:Nat) (l:List D),Bk C n u m l->(ro n l).length=m/\∀ r∈ro n l,Ar C r) {m:Nat}{l:List D}(h:Rws (RwB C (Bk C n) u) m l):(l.flatMap fun r=>r::(bk r).flatMap (ro n)).length=m/\∀ r∈l.flatMap (fun r=>r::(bk r).flatMap (ro n)),Ar C r:=by
 induction h with
 | nil=>exact ⟨rfl,fun r hr=>by cases hr⟩
 | @cons a m d l h t ih2=>
  obtain ⟨i1,i2⟩:=ih2
  obtain ⟨q,b1,b2,_⟩:=bk_is h
  have hl:=Jy (f:=ro n) (fun v m b hb=>(ih v m b hb).1) b1
  refine ⟨?_,fun r hr=>?_⟩
  ·rw [Ϡ,ϊ,bC,hl,i1]
   omega
  ·rcases Η.mp (show r∈(d::(bk d).flatMap (ro n))++_ from hr) with hr | hr
   ·rcases Δ.mp hr with rfl | hr
    ·exact ⟨n,u,a,h⟩
    ·obtain ⟨b,hb,hr⟩:=aU.mp hr
     obtain ⟨v,m',_,hb'⟩:=Bls.all b1 b hb
     exact (ih v m' b hb').2 r hr
   ·exact i2 r hr
theorem jT:∀ (n:Nat) (u:Bool) (m:Nat) (l:List D),Bk C n u m l->(ro n l).length=m/\∀ r∈ro n l,Ar C r
 | 0,u,m,l,⟨h1,h2⟩=>by subst h1 h2;exact ⟨rfl,fun r hr=>by cases hr⟩
 | n+1,u,m,l,h=>Jx (jT n) h.2
theorem Xx:∀ (n m:Nat) (u:Bool) (l:List D),n<=4->m<=1000->Bk C n u m l->∀ (K:Nat) (S:Store),n+2<=K->Is K 1 [.tup l] (.lst (ro n l),.fr) S:=by
 intro n
 induction n with
 | zero=>
  rintro m u l h4 hm ⟨rfl,rfl⟩ K S hK
  obtain ⟨K,hk,rfl⟩:=up hK
  refine jH ?_
  nofun
  exact ⟨rfl,rfl⟩
 | succ n ih=>
  rintro m u l h4 hm ⟨h8,h⟩ K S hK
  obtain ⟨K,hk,rfl⟩:=up hK
  have hlen:=(Jx (jT n) h).1
  refine jH ?_
  nofun
  refine wp_walk (fun l' ρ S'=>S'=S/\∃ (rs:List D) (x2 x3:Slot) (m':Nat),ρ=[.sh (.tup l),.ow (.lst rs),x2,x3]/\rs++l'.flatMap (fun r=>r::(bk r).flatMap (ro n))=ro (n+1) l/\Rws (RwB C (Bk C n) u) m' l'/\rs.length+m'=m) ?_ ?_ _ _ _ ⟨rfl,[],.no,.no,m,rfl,rfl,h,by simp⟩
  ·rintro d l' ρ S' ⟨rfl,rs,x2,x3,m',rfl,hr,ht,hm'⟩
   cases ht with
   | @cons a m' _ _ h t=>
    have hp:=zbB h
    obtain ⟨q,b1,b2,_⟩:=bk_is h
    nofun
    refine (Vw h (by omega)).go ?_
    nofun
    rw [Ϡ] at hr
    refine wp_walk (fun b' ρ S''=>S''=S'/\∃ (rs':List D) (x3:Slot) (q':Nat) (bs:List (List D)),b'=bs.map D.tup/\ρ=[.sh (.tup l),.ow (.lst rs'),.sh d,x3]/\rs'++bs.flatMap (ro n)=rs++(d::(bk d).flatMap (ro n))/\Bls (Bk C n) u q' b'/\rs'.length+q'+m'=m) ?_ ?_ _ _ _ ⟨rfl,rs++[d],x3,q,bk d,rfl,rfl,by simp,b1,by simp;omega⟩
    ·rintro e b' ρ S'' ⟨rfl,rs',x3,q',bs,eb,rfl,hr',hb',he⟩
     cases bs with
     | nil=>cases eb
     | cons b bs=>
      obtain ⟨rfl,rfl⟩:=dG eb
      cases hb' with
      | @cons v p q' _ _ hv hb hb'=>
       have hlb:=(jT n v p b hb).1
       nofun
       refine (ih p v b (by omega) (by omega) hb _ _ hk).go ?_
       nofun
       refine ⟨rfl,_,_,q',bs,rfl,rfl,?_,hb',by simp [hlb];omega⟩
       rw [<- hr',Ϡ,aJ]
    ·rintro ρ S'' ⟨rfl,rs',x3,q',bs,eb,rfl,hr',hb',he⟩
     cases bs with
     | cons=>cases eb
     | nil=>
      cases hb'
      nofun
      refine ⟨rfl,rs',_,_,m',rfl,?_,t,by omega⟩
      rw [<- hr,<- aJ,<- hr',bD,χ]
  ·rintro ρ S' ⟨rfl,rs,x2,x3,m',rfl,hr,ht,hm'⟩
   cases ht
   nofun
   rw [bD,χ] at hr
   exact ⟨by rw [hr],rfl⟩
theorem wb_ok {n m:Nat}{l:List D}(h:Bk C n u m l):(∀ s∈wb n l,s∈menu)/\(wb n l).length<=100*m:=by
 obtain ⟨h1,h2⟩:=jT n u m l h
 rw [<- ro_wb]
 refine ⟨fun s hs=>?_,?_⟩
 ·obtain ⟨r,hr,hs⟩:=aU.mp hs
  obtain ⟨n',v,a,hw⟩:=h2 r hr
  exact (JN hw).1 s hs
 ·rw [<- h1]
  exact xM fun r hr=>by
   obtain ⟨n',v,a,hw⟩:=h2 r hr
   exact (JN hw).2
end
theorem strs_map:∀ ns:List Str,strsD (ns.map D.str)=some ns
 | []=>rfl
 | n::ns=>by
  show (strsD (ns.map D.str)).map (n::·)=_
  rw [strs_map ns];rfl
theorem Z0 (s:Str):∀ (ks l:List Str),s∈ks.foldl (fun l x=>if x∈l then l else l++[x]) l ↔ s∈l\/s∈ks
 | [],l=>by simp
 | k::ks,l=>by
  rw [eE,Z0 s ks]
  by_cases h:k∈l
  ·rw [if_pos h,Δ]
   exact ⟨fun q=>q.elim .inl fun z=>.inr (.inr z),fun q=>q.elim .inl fun z=>z.elim (fun e=>.inl (e ▸ h)) .inr⟩
  ·rw [if_neg h,Η,ξ,Δ,or_assoc]
theorem ZZ:∀ (ks l:List Str),l.Nodup->(ks.foldl (fun l x=>if x∈l then l else l++[x]) l).Nodup
 | [],l,h=>h
 | k::ks,l,h=>by
  rw [eE]
  refine ZZ ks _ ?_
  by_cases e:k∈l
  ·rw [if_pos e];exact h
  ·rw [if_neg e]
   refine lw.mpr ⟨h,cu.mpr ⟨List.not_mem_nil,gH⟩,fun a ha b hb q=>?_⟩
   rw [ξ.mp hb] at q
   exact e (q ▸ ha)
theorem jm {s:Str}{ks:List Str}:s∈onesS ks ↔ s∈ks:=by
 unfold onesS
 rw [Z0]
 exact ⟨fun h=>h.elim (fun z=>by cases z) id,.inr⟩
theorem jl (ks:List Str):(onesS ks).Nodup:=ZZ ks [] gH
theorem V8 {a b:List Str}(h:∀ s,s∈a ↔ s∈b) (ha:a.Nodup):sortS a=sortS (onesS b):=
 jO ((xU a).trans ((List.perm_ext_iff_of_nodup ha (jl b)).mpr fun s=>(h s).trans jm.symm)) (u9 a)
theorem Wm:∀ (a m:List Str),a.Nodup->(∀ s∈a,s∈m)->a.length<=m.length
 | [],m,_,_=>ϡ _
 | x::a,m,h,q=>by
  obtain ⟨h1,h2⟩:=cu.mp h
  have hx:=q x ι
  have:=Wm a (m.erase x) h2 fun s hs=>(List.mem_erase_of_ne (a:=s) (b:=x) fun e=>h1 (by rw [<- e];exact hs)).mpr (q s (θ _ hs))
  rw [List.length_erase_of_mem hx] at this
  have:0 < m.length:=List.length_pos_of_mem hx
  show a.length+1<=m.length
  omega
theorem Xn {ns:List Str}(h:∀ x∈ns,x∈menu) (hl:ns.length<=4000):biD .sset [LS ns]=some (LS (sortS (onesS ns)),true):=by
 show ssetD (LS ns)=_
 unfold ssetD
 have:=Wm (onesS ns) menu (jl ns) fun s hs=>h s (jm.mp hs)
 have hm:menu.length=6:=rfl
 rw [show (lotD (LS ns)).bind strsD=some ns from strs_map ns,o6,if_pos]
 rw [decide_eq_true (by omega),decide_eq_true (by omega)];rfl
section
variable {C:Str->Nat->Prop}{t:Str}{ps:List Str}{b:List D}{K:Nat}{S:Store}
noncomputable def nms (ps:List Str) (b:List D):D:=.tup ((sortS (onesS (ps++wb 4 b))).map D.str)
theorem zb6 (o:ErOk C t ps b):(∀ s∈ps++wb 4 b,s∈menu)/\(ps++wb 4 b).length<=2500:=by
 obtain ⟨m,hm,hb⟩:=o.bk
 obtain ⟨w1,w2⟩:=wb_ok hb
 have h3:=o.ps3
 exact ⟨fun s hs=>(Η.mp hs).elim (o.psm s) (w1 s),by rw [ϊ];omega⟩
theorem UL (o:ErOk C t ps b) (hK:7<=K):Is K 2 [er t ps b] (nms ps b,.st) S:=by
 obtain ⟨K,hk,rfl⟩:=up hK
 obtain ⟨m,hm,hb⟩:=o.bk
 have h3:=o.ps3
 obtain ⟨r1,r2⟩:=jT 4 false m b hb
 refine Yv (x0:=.tup _) ?_
 nofun
 refine (Xx 4 m false b (by decide) (by omega) hb _ _ (by omega)).go ?_
 nofun
 refine wp_walk (fun l ρ S'=>S'=S/\∃ (ns:List Str) (x2 x3:Slot),ρ=[.sh (er t ps b),.ow (LS ns),x2,x3]/\ns++l.flatMap own=ps++wb 4 b/\(∀ r∈l,Ar C r)/\ns.length+100*l.length<=2500) ?_ ?_ _ _ _ ⟨rfl,ps,.no,.no,rfl,by rw [ro_wb],r2,by omega⟩
 ·rintro d l ρ S' ⟨rfl,ns,x2,x3,rfl,hn,hr,hl⟩
  have hl:ns.length+100*(l.length+1)<=2500:=hl
  obtain ⟨n,v,a,h⟩:=hr d ι
  have s2:=(sn_ok h).2
  have f2:=(fs_ok h).2
  nofun
  refine (K4 h (by omega)).go ?_
  nofun
  refine (zal h (by omega)).go ?_
  nofun
  refine wp_walk (fun l' ρ S''=>S''=S'/\∃ (ms:List Str) (x3:Slot),ρ=[.sh (er t ps b),.ow (LS ms),.sh d,x3]/\ms++l'.flatMap (fw 3)=ns++own d/\(∀ e∈l',Fm 3 e)/\ms.length+8*l'.length+100*l.length<=2500) ?_ ?_ _ _ _ ⟨rfl,ns++sn d,x3,by simp [LS],by unfold own;rw [aJ],(fs_ok h).1,by simp;omega⟩
  ·rintro e l' ρ S'' ⟨rfl,ms,x3,rfl,hn',hf,hl'⟩
   have hl':ms.length+8*(l'.length+1)+100*l.length<=2500:=hl'
   have he:=hf e ι
   have:=(fw_ok he).2
   nofun
   refine (W6 3 e (by decide) he _ _ (by omega)).go ?_
   nofun
   exact ⟨rfl,ms++fw 3 e,.sh e,by simp [LS],by rw [<- hn',Ϡ,aJ],fun e he=>hf e (θ _ he),by simp;omega⟩
  ·rintro ρ S'' ⟨rfl,ms,x3,rfl,hn',hf,hl'⟩
   nofun
   rw [bD,χ] at hn'
   exact ⟨rfl,ms,_,_,rfl,by rw [hn',<- hn,Ϡ,aJ],fun r hx=>hr r (θ _ hx),by simpa using hl'⟩
 ·rintro ρ S' ⟨rfl,ns,x2,x3,rfl,hn,hr,hl⟩
  nofun
  rw [bD,χ] at hn
  obtain ⟨q1,q2⟩:=zb6 o
  rw [<- hn] at q1
  refine opv_f (Xn q1 (by simp at hl;omega)) ?_
  nofun
  exact ⟨by unfold nms;rw [<- hn],rfl⟩
end
section
variable {C:Str->Nat->Prop}{u:Bool}{a:Nat}{d:D}{K:Nat}{S:Store}
theorem yc:∀ (k:Nat) (d:D),k<=3->Fm k d->∀ (K:Nat) (S:Store),k+1<=K->Is K 19 [d] (LS (fw k d),.fr) S:=by
 intro k
 induction k with
 | zero=>
  intro d _ h K S hK
  obtain ⟨K,hk,rfl⟩:=up hK
  cases h <;>
  ·refine yd ?_
   nofun
   exact ⟨rfl,rfl⟩
 | succ k ih=>
  intro d h3 h K S hK
  obtain ⟨K,hk,rfl⟩:=up hK
  have hq:2 ^ k<=2 ^ 3:=oV (by decide) (by omega)
  cases h with
  | nm h=>
   refine yd ?_
   nofun
   exact ⟨rfl,rfl⟩
  | num h=>
   refine yd ?_
   nofun
   exact ⟨rfl,rfl⟩
  | op h ha hb=>
   have l1:=(fw_ok ha).2
   have l2:=(fw_ok hb).2
   refine yd ?_
   nofun
   refine (ih _ (by omega) ha _ _ hk).go ?_
   nofun
   refine (ih _ (by omega) hb _ _ hk).go ?_
   refine opv_f (uo (by simp;omega)) ?_
   nofun
   refine ⟨?_,rfl⟩
   show (D.lst _,Kd.fr)=(LS (fw k _++fw k _),Kd.fr)
   simp [LS]
def Wd (ws:List Str) (k:Nat) (x:Vl):Prop:=∃ ns:List Str,x=(LS ns,.fr)/\(∀ s,s∈ns ↔ s∈ws)/\ns.length<=100*k
def LB (C:Str->Nat->Prop) (n:Nat):Prop:=∀ (u:Bool) (m:Nat) (l:List D) (K:Nat) (S:Store),m<=24->Bk C n u m l->2*n+6<=K->Sm K 21 [.tup l] (Wd (wb n l) m) S
theorem yH {a b:List Str}(h:a.length+b.length<=10000):opD .Add (LS a) (LS b)=some (LS (a++b),true):=by
 rw [show LS (a++b)=.lst (a.map D.str++b.map D.str) by simp [LS]]
 exact uo (by simp;omega)
theorem Yu {i:Int}{bs:List D}(h4:bs.length<=4) (hb:∀ b∈bs,Brn C b) (hK:5<=K):Sm K 20 [.tup [.str "want",.int i,.tup bs]] (fun x=>∃ ns:List Str,x=(LS ns,.fr)/\(∀ s,s∈ns ↔ (∃ b∈bs,s∈hS b\/∃ e∈bF b,s∈fw 3 e))/\ns.length<=100) S:=by
 obtain ⟨K,hk,rfl⟩:=up hK
 refine zr (x0:=.tup _) ?_
 nofun
 refine wp_walk (fun l ρ S'=>S'=S/\∃ (ns:List Str) (dn:List D) (x1 x3 x4 x5 x6 x7 x8:Slot),ρ=[.sh (.tup [.str "want",.int i,.tup bs]),x1,.ow (LS ns),x3,x4,x5,x6,x7,x8]/\bs=dn++l/\(∀ s,s∈ns ↔ (∃ b∈dn,s∈hS b\/∃ e∈bF b,s∈fw 3 e))/\ns.length+25*l.length<=100) ?_ ?_ _ _ _ ⟨rfl,[],[],.no,.no,.no,.no,.no,.no,.no,rfl,rfl,by simp,by simp;omega⟩
 ·rintro d l ρ S' ⟨rfl,ns,dn,x1,x3,x4,x5,x6,x7,x8,rfl,eb,hn,hl⟩
  have hl:ns.length+25*(l.length+1)<=100:=hl
  have hd:=hb d (by rw [eb];exact Χ _ ι)
  obtain ⟨n,k,w,g,rfl,hno⟩:∃ n k w g,d=.tup [n,k,w,g]/\NmO n:=by
   cases hd with
   | ask hn=>exact ⟨_,_,_,_,rfl,hn⟩
   | call hn=>exact ⟨_,_,_,_,rfl,hn⟩
  have b3:=(qy hd).2
  have bf:=(qy hd).1
  nofun
  refine wp_lc ?_
  dsimp only [wpI,e_lst,e_var,wpEs]
  nofun
  refine uO oS [n] [] (by simp) (fun x hx Q h0 h1=>?_) ?_
  ·rw [ξ.mp hx] at h0 h1 ⊢
   refine vN rfl ?_
   dsimp only [wpF,e_cmp,e_con,e_var,inn,nT,Ξ,lz,χ,fW]
   rcases hno with rfl | ⟨s,hs,rfl⟩
   ·nofun
    exact h0 rfl
   ·nofun
    exact h1 s rfl
  ·have ho:=(oS_ok hno).2
   rw [aL,Ϡ,bD,χ]
   refine opv_f (yH (by omega)) ?_
   have key:∀ (Q:Ko) (ρr:List Slot) (es:List D),es=bF (.tup [n,k,w,g])->ρr=[.sh (.tup [.str "want",.int i,.tup bs]),x1,.ow (LS (ns++oS n)),.sh n,.sh k,.sh w,.sh g,x7,x8] ->
     (∀ ms x7,(∀ s,s∈ms ↔ s∈ns\/s∈hS (.tup [n,k,w,g])\/∃ e∈bF (.tup [n,k,w,g]),s∈fw 3 e)->ms.length<=ns.length+25->Q (.next [.sh (.tup [.str "want",.int i,.tup bs]),x1,.ow (LS ms),.sh n,.sh k,.sh w,.sh g,x7,x8]) S') ->
     forW (.one 7) (fun ρ=>wpCs (callX F wh K) noX wh [.set (.one 2) (.bin .Add (.var 2) (.call 19 [(.var 7)]))] ρ) es ρr Q S':=by
    intro Q ρr es ee er hQ
    subst er
    refine wp_walk (fun l' ρ S''=>S''=S'/\∃ (ms:List Str) (dn:List D) (x7:Slot),ρ=[.sh (.tup [.str "want",.int i,.tup bs]),x1,.ow (LS ms),.sh n,.sh k,.sh w,.sh g,x7,x8]/\es=dn++l'/\(∀ s,s∈ms ↔ s∈ns\/s∈oS n\/∃ e∈dn,s∈fw 3 e)/\ms.length+8*l'.length<=ns.length+25) ?_ ?_ _ _ _ ⟨rfl,ns++oS n,[],x7,rfl,rfl,by simp,by subst ee;simp;omega⟩
    ·rintro e l' ρ S'' ⟨rfl,ms,dn,x7,rfl,ed,hm,hl'⟩
     have hl':ms.length+8*(l'.length+1)<=ns.length+25:=hl'
     have he:Fm 3 e:=bf e (by rw [<- ee,ed];exact Χ _ ι)
     have:=(fw_ok he).2
     nofun
     refine (yc 3 e (by decide) he _ _ (by omega)).go ?_
     refine opv_f (yH (by omega)) ?_
     nofun
     refine ⟨rfl,ms++fw 3 e,dn++[e],.sh e,rfl,by rw [ed];simp,fun s=>?_,by simp;omega⟩
     rw [Η,hm]
     simp only [Η,ξ]
     refine ⟨fun q=>?_,fun q=>?_⟩
     ·rcases q with (q | q | ⟨e',h1,h2⟩) | q
      ·exact .inl q
      ·exact .inr (.inl q)
      ·exact .inr (.inr ⟨e',.inl h1,h2⟩)
      ·exact .inr (.inr ⟨e,.inr rfl,q⟩)
     ·rcases q with q | q | ⟨e',h1 | h1,h2⟩
      ·exact .inl (.inl q)
      ·exact .inl (.inr (.inl q))
      ·exact .inl (.inr (.inr ⟨e',h1,h2⟩))
      ·exact .inr (h1 ▸ h2)
    ·rintro ρ S'' ⟨rfl,ms,dn,x7,rfl,ed,hm,hl'⟩
     rw [χ] at ed
     refine hQ ms x7 (fun s=>?_) (by simpa using hl')
     rw [hm,<- ee,ed]
     rfl
   have fin:∀ (ms:List Str) (x7:Slot),(∀ s,s∈ms ↔ s∈ns\/s∈hS (.tup [n,k,w,g])\/∃ e∈bF (.tup [n,k,w,g]),s∈fw 3 e)->ms.length<=ns.length+25->S'=S'/\∃ (ns:List Str) (dn':List D) (y1 y3 y4 y5 y6 y7 y8:Slot),([.sh (.tup [.str "want",.int i,.tup bs]),x1,.ow (LS ms),.sh n,.sh k,.sh w,.sh g,x7,x8]:List Slot)=[.sh (.tup [.str "want",.int i,.tup bs]),y1,.ow (LS ns),y3,y4,y5,y6,y7,y8]/\bs=dn'++l/\(∀ s,s∈ns ↔ (∃ b∈dn',s∈hS b\/∃ e∈bF b,s∈fw 3 e))/\ns.length+25*l.length<=100:=by
    intro ms x7 hm hz
    refine ⟨rfl,ms,dn++[.tup [n,k,w,g]],_,_,_,_,_,_,_,rfl,by rw [eb];simp,fun s=>?_,by omega⟩
    rw [hm,hn]
    simp only [Η,ξ]
    refine ⟨fun q=>?_,fun q=>?_⟩
    ·rcases q with ⟨b,h1,h2⟩ | q
     ·exact ⟨b,.inl h1,h2⟩
     ·exact ⟨_,.inr rfl,q⟩
    ·rcases q with ⟨b,h1 | h1,h2⟩
     ·exact .inl ⟨b,h1,h2⟩
     ·exact .inr (h1 ▸ h2)
   cases hd with
   | @ask _ e wh' hn' hw he=>
    nofun
    refine key _ _ _ rfl rfl fun ms x7 hm hz=>?_
    nofun
    exact fin ms x7 hm hz
   | @call _ f l' hn' hf hc h3 he=>
    nofun
    refine key _ _ _ rfl rfl fun ms x7 hm hz=>?_
    nofun
    exact fin ms x7 hm hz
 ·rintro ρ S' ⟨rfl,ns,dn,x1,x3,x4,x5,x6,x7,x8,rfl,eb,hn,hl⟩
  nofun
  rw [χ] at eb
  subst eb
  exact ⟨⟨ns,rfl,hn,by simpa using hl⟩,rfl⟩
end
section
variable {C:Str->Nat->Prop}{u:Bool}{a:Nat}{d:D}{K:Nat}{S:Store}{n:Nat}
theorem wj {t:T}{b:List Slot->Ko->Store->Prop}{ρ:List Slot}{K:Ko}{S:Store}(h:K (.next ρ) S):forW t b [] ρ K S:=h
theorem Q7 (hB:LB C n) (h:RwB C (Bk C n) u a d) (ha:a<=24) (hK:2*n+7<=K):Sm K 20 [d] (Wd (own d++(bk d).flatMap (wb n)) a) S:=by
 cases h with
 | @want _ i bs h1 h2 h4 hb=>
  refine wp_mono (Yu h4 hb (by omega)) ?_
  rintro _ _ ⟨⟨ns,rfl,hn,hl⟩,rfl⟩
  refine ⟨⟨ns,rfl,fun s=>?_,by omega⟩,rfl⟩
  show _ ↔ s∈(bs.flatMap hS++(bs.flatMap bF).flatMap (fw 3))++[]
  rw [hn,χ,Η,aU,iC,aU]
  refine ⟨fun ⟨b,hb,q⟩=>q.elim (fun z=>.inl ⟨b,hb,z⟩) fun ⟨e,he,z⟩=>.inr ⟨b,hb,aU.mpr ⟨e,he,z⟩⟩,fun q=>?_⟩
  rcases q with ⟨b,hb,z⟩ | ⟨b,hb,z⟩
  ·exact ⟨b,hb,.inl z⟩
  ·exact ⟨b,hb,.inr (aU.mp z)⟩
 | @set _ s e hs he=>
  obtain ⟨K,hk,rfl⟩:=up hK
  have:=(fw_ok he).2
  refine zr ?_
  nofun
  refine (yc 3 e (by decide) he _ _ (by omega)).go ?_
  refine opv_f (yH (a:=[s]) (by simp;omega)) ?_
  nofun
  refine ⟨⟨[s]++fw 3 e,rfl,fun t=>?_,by simp;omega⟩,rfl⟩
  show _ ↔ t∈(([s]++(fw 3 e++[]))++[])
  rw [χ,χ]
 | @tell _ e he=>
  obtain ⟨K,hk,rfl⟩:=up hK
  have:=(fw_ok he).2
  refine zr ?_
  nofun
  refine (yc 3 e (by decide) he _ _ (by omega)).go ?_
  nofun
  refine wj ?_
  nofun
  refine ⟨⟨fw 3 e,rfl,fun t=>?_,by omega⟩,rfl⟩
  show _ ↔ t∈(([]++(fw 3 e++[]))++[])
  rw [χ,χ,aL]
 | @fail _ e he=>
  obtain ⟨K,hk,rfl⟩:=up hK
  have:=(fw_ok he).2
  refine zr ?_
  nofun
  refine (yc 3 e (by decide) he _ _ (by omega)).go ?_
  nofun
  refine wj ?_
  nofun
  refine ⟨⟨fw 3 e,rfl,fun t=>?_,by omega⟩,rfl⟩
  show _ ↔ t∈(([]++(fw 3 e++[]))++[])
  rw [χ,χ,aL]
 | @give e he=>
  obtain ⟨K,hk,rfl⟩:=up hK
  have:=(fw_ok he).2
  refine zr ?_
  nofun
  refine (yc 3 e (by decide) he _ _ (by omega)).go ?_
  nofun
  refine wj ?_
  nofun
  refine ⟨⟨fw 3 e,rfl,fun t=>?_,by omega⟩,rfl⟩
  show _ ↔ t∈(([]++(fw 3 e++[]))++[])
  rw [χ,χ,aL]
 | @whl _ e m b he hb=>
  obtain ⟨K,hk,rfl⟩:=up hK
  have:=(fw_ok he).2
  refine zr ?_
  nofun
  refine (yc 3 e (by decide) he _ _ (by omega)).go ?_
  nofun
  refine W4 ?_
  nofun
  refine (hB u m b _ _ (by omega) hb (by omega)).go ?_
  rintro _ ⟨ns,rfl,hn,hl⟩
  refine opv_f (yH (by omega)) ?_
  nofun
  refine wj ?_
  nofun
  refine ⟨⟨fw 3 e++ns,rfl,fun t=>?_,by simp;omega⟩,rfl⟩
  show _ ↔ t∈(([]++(fw 3 e++[]))++(wb n b++[]))
  rw [χ,χ,aL,Η,Η,hn]
 | @iff _ e m m' b b' he hb hb'=>
  obtain ⟨K,hk,rfl⟩:=up hK
  have:=(fw_ok he).2
  refine zr ?_
  nofun
  refine (yc 3 e (by decide) he _ _ (by omega)).go ?_
  nofun
  refine W4 ?_
  nofun
  refine (hB u m b _ _ (by omega) hb (by omega)).go ?_
  rintro _ ⟨ns,rfl,hn,hl⟩
  refine opv_f (yH (by omega)) ?_
  nofun
  refine W4 ?_
  nofun
  refine (hB u m' b' _ _ (by omega) hb' (by omega)).go ?_
  rintro _ ⟨ns',rfl,hn',hl'⟩
  refine opv_f (yH (by simp;omega)) ?_
  nofun
  refine wj ?_
  nofun
  refine ⟨⟨fw 3 e++ns++ns',rfl,fun t=>?_,by simp;omega⟩,rfl⟩
  show _ ↔ t∈(([]++(fw 3 e++[]))++(wb n b++(wb n b'++[])))
  rw [χ,χ,aL,Η,Η,Η,Η,hn,hn',or_assoc]
 | @doo _ m m' b b' hb hb'=>
  obtain ⟨K,hk,rfl⟩:=up hK
  refine zr ?_
  nofun
  refine (hB u m b _ _ (by omega) hb (by omega)).go ?_
  rintro _ ⟨ns,rfl,hn,hl⟩
  nofun
  refine (hB true m' b' _ _ (by omega) hb' (by omega)).go ?_
  rintro _ ⟨ns',rfl,hn',hl'⟩
  refine opv_f (yH (by omega)) ?_
  nofun
  refine ⟨⟨ns++ns',rfl,fun t=>?_,by simp;omega⟩,rfl⟩
  show _ ↔ t∈(([]++[])++(wb n b++(wb n b'++[])))
  rw [χ,χ,aL,Η,Η,hn,hn']
 | @tri _ q m m' b b' hq hb hb'=>
  obtain ⟨K,hk,rfl⟩:=up hK
  have ho:=(oS_ok hq).2
  refine zr ?_
  nofun
  refine wp_lc ?_
  dsimp only [wpI,e_sub,e_var,e_con,e_lst,wpEs]
  nofun
  refine uO oS [q] [] (by simp) (fun x hx Q h0 h1=>?_) ?_
  ·rw [ξ.mp hx] at h0 h1 ⊢
   refine vN rfl ?_
   dsimp only [wpF,e_cmp,e_con,e_var,inn,nT,Ξ,lz,χ,fW]
   rcases hq with rfl | ⟨s,hs,rfl⟩
   ·nofun
    exact h0 rfl
   ·nofun
    exact h1 s rfl
  ·rw [aL,Ϡ,bD,χ]
   nofun
   refine (hB u m b _ _ (by omega) hb (by omega)).go ?_
   rintro _ ⟨ns,rfl,hn,hl⟩
   refine opv_f (yH (by omega)) ?_
   nofun
   refine (hB u m' b' _ _ (by omega) hb' (by omega)).go ?_
   rintro _ ⟨ns',rfl,hn',hl'⟩
   refine opv_f (yH (by simp;omega)) ?_
   nofun
   refine ⟨⟨oS q++ns++ns',rfl,fun t=>?_,by simp;omega⟩,rfl⟩
   show _ ↔ t∈((oS q++[])++(wb n b++(wb n b'++[])))
   rw [χ,χ,Η,Η,Η,Η,hn,hn',or_assoc]
theorem Wx:∀ n,LB C n
 | 0=>by
  rintro u m l K S h24 ⟨rfl,rfl⟩ hK
  obtain ⟨K,hk,rfl⟩:=up (n:=5) (by omega)
  refine ye ?_
  nofun
  refine wj ?_
  nofun
  exact ⟨⟨[],rfl,fun s=>Iff.rfl,ϡ _⟩,rfl⟩
 | n+1=>by
  rintro u m l K S h24 ⟨h8,h⟩ hK
  obtain ⟨K,hk,rfl⟩:=up (n:=2*n+7) (by omega)
  refine ye ?_
  nofun
  refine wp_walk (fun l' ρ S'=>S'=S/\∃ (ns:List Str) (dn:List D) (x2:Slot) (m':Nat),ρ=[.sh (.tup l),.ow (LS ns),x2]/\l=dn++l'/\(∀ s,s∈ns ↔ s∈wb (n+1) dn)/\Rws (RwB C (Bk C n) u) m' l'/\ns.length+100*m'<=100*m/\m'<=m) ?_ ?_ _ _ _ ⟨rfl,[],[],.no,m,rfl,rfl,fun s=>Iff.rfl,h,by simp,ς _⟩
  ·rintro d l' ρ S' ⟨rfl,ns,dn,x2,m',rfl,ed,hn,ht,hl,hm⟩
   cases ht with
   | @cons a m' _ _ h t=>
    nofun
    refine (Q7 (Wx n) h (by omega) (by omega)).go ?_
    rintro _ ⟨ms,rfl,hm',hl'⟩
    refine opv_f (yH (by omega)) ?_
    nofun
    refine ⟨rfl,ns++ms,dn++[d],.sh d,m',rfl,by rw [ed];simp,fun s=>?_,t,by simp;omega,by omega⟩
    show _ ↔ s∈(dn++[d]).flatMap _
    rw [List.flatMap_append,Η,Η,hn,hm']
    simp [wb]
  ·rintro ρ S' ⟨rfl,ns,dn,x2,m',rfl,ed,hn,ht,hl,hm⟩
   rw [χ] at ed
   subst ed
   nofun
   exact ⟨⟨ns,rfl,hn,by omega⟩,rfl⟩
end
section
variable {C:Str->Nat->Prop}{B:Bool->Nat->List D->Prop}{u:Bool}{a:Nat}{d:D}{K:Nat}{S:Store}{n:Nat}
theorem qg:∀ {k:Nat}{d:D},Fm k d->okP k d=true
 | 0,_,.nm h=>rfl
 | _+1,_,.nm h=>rfl
 | 0,_,.num h=>rfl
 | _+1,_,.num h=>rfl
 | k+1,_,.op (g:=g) h ha hb=>by
  show (okP k (.str g)&&(okP k _&&(okP k _&&true)))=true
  rw [qg ha,qg hb]
  cases k <;> rfl
theorem qX (h:NmO d) (k:Nat):okP k d=true:=by
 rcases h with rfl | ⟨s,hs,rfl⟩ <;> cases k <;> rfl
theorem zaF (h:Brn C d):okP 5 d=true:=by
 cases h with
 | ask hn hw he=>
  show (okP 4 _&&(true&&(true&&(okP 4 _&&true))))=true
  rw [qX hn,jj 3 4 _ (by decide) (qg he)];rfl
 | @call n f l hn hf hc h3 he=>
  show (okP 4 _&&(true&&(true&&(okPs 3 l&&true))))=true
  rw [qX hn,yt fun e h=>qg (he e h)];rfl
theorem Qk {k:Nat}(hB:∀ v m b,B v m b->okPs (k+6) b=true) (h:RwB C B u a d):okP (k+8) d=true:=by
 have hf:∀ {e:D},Fm 3 e->okP (k+7) e=true:=fun he=>jj 3 (k+7) _ (by omega) (qg he)
 cases h with
 | set hs he | tell he | fail he | give he=>
  show okPs (k+7) _=true
  simp only [okPs,hf he,okP,dZ]
 | @want _ i bs h1 h2 h4 hb=>
  show okPs (k+7) _=true
  have:=yG 5 (k+6) bs (by omega) (yt fun b h=>zaF (hb b h))
  simp only [okPs,this,okP,dZ]
 | whl he hb=>
  show okPs (k+7) _=true
  simp only [okPs,hf he,okP,hB _ _ _ hb,dZ]
 | iff he hb hb'=>
  show okPs (k+7) _=true
  simp only [okPs,hf he,okP,hB _ _ _ hb,hB _ _ _ hb',dZ]
 | tri hn hb hb'=>
  show okPs (k+7) _=true
  simp only [okPs,qX hn,okP,hB _ _ _ hb,hB _ _ _ hb',dZ]
 | doo hb hb'=>
  show okPs (k+7) _=true
  simp only [okPs,okP,hB _ _ _ hb,hB _ _ _ hb',dZ]
theorem Qg {R:Nat->D->Prop}{m:Nat}{l:List D}(h:Rws R m l):∀ x∈l,∃ a,R a x:=by
 induction h with
 | nil=>intro x hx;cases hx
 | cons h t ih=>exact fun x hx=>(Δ.mp hx).elim (fun e=>e ▸ ⟨_,h⟩) (ih x)
theorem Ks:∀ (n:Nat) (u:Bool) (m:Nat) (l:List D),Bk C n u m l->okPs (2*n+6) l=true
 | 0,u,m,l,⟨h1,h2⟩=>by subst h1;rfl
 | n+1,u,m,l,h=>yt fun d hd=>by
  obtain ⟨a,ha⟩:=Qg h.2 d hd
  exact Qk (k:=2*n) (fun v m b hb=>Ks n v m b hb) ha
theorem Kh {t:Str}{ps:List Str}{b:List D}(o:ErOk C t ps b):okP 60 (er t ps b)=true:=by
 obtain ⟨m,hm,hb⟩:=o.bk
 have h1:=yG 14 58 b (by decide) (Ks 4 false m b hb)
 have h2:=Z2 58 ps
 show (true&&(okPs 58 (ps.map D.str)&&(okPs 58 b&&true)))=true
 rw [h1,h2];rfl
theorem Uu {es:List Er}{p:Er}(hp:p∈es) (nd:(es.map fun q=>q.1).Nodup) (hK:1<=K):Is K 6 [prD es,.str p.1] (erD p,.st) S:=by
 obtain ⟨K,hk,rfl⟩:=up hK
 refine vC (x0:=.tup _) ?_
 nofun
 refine wp_walk (fun l ρ S'=>S'=S/\∃ (es':List Er) (x2:Slot),l=es'.map erD/\p∈es'/\(∀ q∈es',q∈es)/\ρ=[.sh (prD es),.sh (.str p.1),x2]) ?_ ?_ _ _ _ ⟨rfl,es,.no,rfl,hp,fun q h=>h,rfl⟩
 ·rintro d l ρ S' ⟨rfl,es',x2,el,hp',hs,rfl⟩
  cases es' with
  | nil=>cases el
  | cons q es'=>
   obtain ⟨rfl,rfl⟩:=dG el
   nofun
   refine yD (fun e=>?_) (fun e=>?_)
   ·have e:q.1=p.1:=eq_of_beq e
    have:q=p:=by
     have hq:=hs q ι
     obtain ⟨i,hi,ei⟩:=gJ.mp hq
     obtain ⟨j,hj,ej⟩:=gJ.mp hp
     have:i=j:=(List.getElem_inj (xs:=es.map fun q=>q.1) (h₀:=by simpa using hi) (h₁:=by simpa using hj) nd).mp (by simp [ei,ej,e])
     subst this
     rw [<- ei,<- ej]
    subst this
    nofun
    exact ⟨rfl,rfl⟩
   ·nofun
    have e:q.1≠p.1:=fun z=>by rw [show eqP (deref S' (D.str q.1)) (deref S' (D.str p.1))=(q.1==p.1) from rfl,z,beq_self_eq_true] at e;cases e
    exact ⟨rfl,es',_,rfl,(Δ.mp hp').elim (fun z=>absurd (by rw [z]) e) id,fun q h=>hs q (θ _ h),rfl⟩
 ·rintro ρ S' ⟨rfl,es',x2,el,hp',hs,rfl⟩
  cases es' with
  | nil=>cases hp'
  | cons=>cases el
theorem Ut {es:List Er}{t:Str}{V:Po}{ex:Xp}(hn:∀ q∈es,q.1≠t) (hx:ex 2 S) (hK:1<=K):callX F wh K ex 6 [prD es,.str t] V S:=by
 obtain ⟨K,hk,rfl⟩:=up hK
 refine vC (x0:=.tup _) ?_
 nofun
 refine wp_walk (fun l ρ S'=>S'=S/\∃ (es':List Er) (x2:Slot),l=es'.map erD/\(∀ q∈es',q∈es)/\ρ=[.sh (prD es),.sh (.str t),x2]) ?_ ?_ _ _ _ ⟨rfl,es,.no,rfl,fun q h=>h,rfl⟩
 ·rintro d l ρ S' ⟨rfl,es',x2,el,hs,rfl⟩
  cases es' with
  | nil=>cases el
  | cons q es'=>
   obtain ⟨rfl,rfl⟩:=dG el
   nofun
   refine tst_F (beq_false_of_ne (hn q (hs q ι))) ?_
   nofun
   exact ⟨rfl,es',_,rfl,fun q h=>hs q (θ _ h),rfl⟩
 ·rintro ρ S' ⟨rfl,es',x2,el,hs,rfl⟩
  nofun
  exact hx
theorem YD {es:List Er}{t:Str}(hn:∀ q∈es,q.1≠t) (hK:2<=K):Is K 22 [prD es,.str t] (.bl true,.st) S:=by
 obtain ⟨K,hk,rfl⟩:=up hK
 refine uq (x0:=.tup _) ?_
 nofun
 refine Ut hn ?_ hk
 refine tst_T rfl (zE (a:=[.sh (prD es),.sh (.str t),.sh (.bl true),.no,.sh (.bl false)]) rfl ?_)
 nofun
 exact ⟨rfl,rfl⟩
end
theorem Uz (s:Str) (st:List Str):cmpD .NotIn (.str s) (LS st)=some (!decide (s∈st)):=by
 have h1:(st.map D.str).all isSc=true:=by
  rw [nW]
  exact aV.mpr fun _ _=>rfl
 have h2:((st.map D.str).any fun y=>eqP y (.str s))=decide (s∈st):=by
  rw [List.any_map]
  induction st with
  | nil=>rfl
  | cons a st ih=>
   rw [nC,ih (by rw [nW];exact aV.mpr fun _ _=>rfl)]
   show ((a==s)||decide (s∈st))=_
   by_cases e:a=s
   ·subst e;simp
   ·rw [beq_false_of_ne e,Bool.false_or]
    exact decide_eq_decide.mpr ⟨θ _,fun h=>(Δ.mp h).elim (fun z=>absurd z.symm e) id⟩
 show (memD (st.map D.str) (.str s)).map (!·)=_
 unfold memD
 rw [h1,if_pos (show (isSc (D.str s)&&true)=true from rfl),h2]
 rfl
theorem Vf {α:Type}{s:D->(Option D->Store->Prop)->Store->Prop}{V:List D->Store->Prop}{S:Store}(enc g:α->D):∀ (xs:List α) (acc:List D),acc.length+xs.length<=1000->(∀ x∈xs,∀ Q:Option D->Store->Prop,Q (some (g x)) S->s (enc x) Q S)->V (acc++xs.map g) S->walkW s (xs.map enc) acc V S
 | [],acc,_,_,v=>by
  rw [nU,χ] at v
  exact v
 | x::xs,acc,hl,h,v=>by
  refine h x ι _ ?_
  have hl:acc.length+(xs.length+1)<=1000:=hl
  refine tst_T (fits_of (by omega)) (Vf enc g xs (acc++[g x]) (by simp;omega) (fun y hy=>h y (θ _ hy)) ?_)
  simpa using v
section
variable {hs:List (Str×Nat)}{es:List Er}{b:List D}
theorem EsOk.len (o:EsOk hs es):es.length=hs.length:=by rw [<- o.eq,Ν]
end
theorem JV (l:List Str):okP 60 (.tup (l.map D.str))=true:=Z2 59 l
section
variable {C:Str->Nat->Prop}{t:Str}{ps:List Str}{b:List D}
theorem V9 (o:ErOk C t ps b) {ws:List Str}(h:∀ s,s∈ws ↔ s∈wb 4 b):D.tup ((sortS (onesS (ps++ws))).map D.str)=nms ps b:=by
 unfold nms
 rw [V8 (a:=onesS (ps++ws)) (b:=ps++wb 4 b) (fun s=>?_) (jl _)]
 rw [jm,Η,Η,h]
end
theorem law_wp:∀ ns:List Int,ns.length<=63->callW F wh 60 23 [.scr ns] (fun x _=>x.1=.bl true) []:=by
 intro ns h63
 obtain ⟨ms,em,hm⟩:=zay ns none (some 9)
 refine w_law ?_
 nofun
 rw [em]
 refine opv_f (uo (a:=[.int ns.length]) (by simp;omega)) ?_
 nofun
 refine wp_walk (fun l ρ S'=>∃ (x1 x2 x3 x4 x5 x6 x7:Slot),ρ=[.sh (.scr ns),x1,x2,x3,x4,x5,x6,x7]/\∀ d∈l,∃ j,d=D.int j) ?_ ?_ _ _ _
  ⟨.no,.no,.no,.no,.no,.no,.no,rfl,fun d hd=>?_⟩
 ·rintro d l ρ S ⟨x1,x2,x3,x4,x5,x6,x7,rfl,hd⟩
  have hd':=fun d hx=>hd d (θ _ hx)
  obtain ⟨j,rfl⟩:=hd d ι
  nofun
  refine (Jc (by decide)).go ?_
  rintro _ ⟨xs,rfl,hx⟩
  have hx:0 < xs.length:=by omega
  nofun
  refine (YJ hx (by decide)).go ?_
  rintro _ ⟨hs,es,rfl,o⟩
  have l3:es.length<=3:=by rw [o.len];exact o.hd.three
  have enm:es.map (fun q=>q.1)=hs.map (fun h=>h.1):=by rw [<- o.eq,gh];rfl
  have nd:(es.map fun q=>q.1).Nodup:=by rw [enm];exact o.hd.nd
  nofun
  refine wp_lc ?_
  dsimp only [wpI,e_var]
  refine rdv_s rfl ?_
  refine kp_s rfl ?_
  refine zE (show itrD (prD es)=some (es.map erD) from rfl) ?_
  refine Vf erD (fun p=>D.str p.1) es [] (by simp;omega) (fun p hp Q hQ=>?_) ?_
  ·refine vN rfl ?_
   dsimp only [wpF,e_sub,e_con,e_var,inn,nT,Ξ,lz,χ,fW]
   nofun
   exact hQ
  rw [aL,show es.map (fun p=>D.str p.1)=(es.map fun q=>q.1).map D.str by rw [gh];rfl]
  nofun
  refine wp_walk (fun l' ρ S'=>S'=S/\∃ (es':List Er) (x4 x5 x6:Slot),l'=es'.map erD/\(∀ q∈es',q∈es)/\ρ=[.sh (.scr ns),.sh (.int j),.sh (prD es),.ow (LS (es.map fun q=>q.1)),x4,x5,x6,x7]) ?_ ?_ _ _ _ ⟨rfl,es,x4,x5,x6,rfl,fun q h=>h,rfl⟩
  ·rintro d l' ρ S' ⟨rfl,es',x4,x5,x6,el,hs',rfl⟩
   cases es' with
   | nil=>cases el
   | cons p es'=>
    obtain ⟨rfl,rfl⟩:=dG el
    have hp:=hs' p ι
    have oe:=o.ok p hp
    have hs'':=fun q h=>hs' q (θ _ h)
    obtain ⟨m,hm24,hb⟩:=oe.bk
    have p3:=oe.ps3
    have n1:∀ S,Is 59 2 [erD p] (nms p.2.1 p.2.2,.st) S:=fun S=>UL oe (by decide)
    have f1:∀ S,Is 59 6 [prD es,.str p.1] (erD p,.st) S:=fun S=>Uu hp nd (by decide)
    nofun
    refine (n1 _).go ?_
    nofun
    refine (Wx 4 false m p.2.2 _ _ hm24 hb (by decide)).go ?_
    rintro _ ⟨ws,rfl,hw,hl⟩
    refine opv_f (yH (a:=p.2.1) (by omega)) ?_
    have hq:∀ s∈p.2.1++ws,s∈menu:=fun s hs=>(Η.mp hs).elim (oe.psm s) fun z=>(wb_ok hb).1 s ((hw s).mp z)
    nofun
    refine opv_f (Xn hq (by simp;omega)) ?_
    nofun
    refine zE (show cmpD .NotEq (nms p.2.1 p.2.2) (.tup ((sortS (onesS (p.2.1++ws))).map D.str))=some false by rw [V9 oe hw];exact yN (JV _)) ?_
    nofun
    refine (n1 _).go ?_
    refine zE (show cmpD .NotEq (nms p.2.1 p.2.2) (nms p.2.1 p.2.2)=some false from yN (JV _)) ?_
    nofun
    refine (f1 _).go ?_
    refine zE (show cmpD .NotEq (erD p) (erD p)=some false from yN (Kh oe)) ?_
    nofun
    refine (f1 _).go ?_
    refine zE (show cmpD .NotEq (erD p) (erD p)=some false from yN (Kh oe)) ?_
    nofun
    exact ⟨rfl,es',_,_,_,rfl,hs'',rfl⟩
  ·rintro ρ S' ⟨rfl,es',x4,x5,x6,el,hs',rfl⟩
   nofun
   refine wp_walk (fun l' ρ S''=>∃ (x7:Slot),ρ=[.sh (.scr ns),.sh (.int j),.sh (prD es),.ow (LS (es.map fun q=>q.1)),x4,x5,x6,x7]/\∀ d∈l',∃ s,d=D.str s) ?_ ?_ _ _ _
    ⟨_,rfl,fun d hd=>?_⟩
   ·rintro d l' ρ S'' ⟨x7,rfl,hb⟩
    have hb':=fun d hx=>hb d (θ _ hx)
    obtain ⟨s,rfl⟩:=hb d ι
    nofun
    refine zE (Uz s (es.map fun q:Er=>q.1)) ?_
    nofun
    refine yD (fun c=>?_) (fun c=>?_)
    ·have hn:∀ q∈es,q.1≠s:=fun q hq z=>by
      have:s∈es.map fun q=>q.1:=z ▸ ie (f:=fun q:Er=>q.1) hq
      rw [decide_eq_true this] at c
      cases c
     nofun
     refine (YD hn (by decide)).go ?_
     nofun
     exact ⟨_,rfl,hb'⟩
    ·nofun
     exact ⟨_,rfl,hb'⟩
   ·rintro ρ S'' ⟨x7,rfl,hb⟩
    nofun
    exact ⟨_,_,_,_,_,_,_,rfl,hd'⟩
   ·simp only [Δ,List.not_mem_nil,or_false] at hd
    rcases hd with rfl | rfl | rfl | rfl | rfl | rfl | rfl | rfl <;> exact ⟨_,rfl⟩
 ·rintro ρ S ⟨x1,x2,x3,x4,x5,x6,x7,rfl,hd⟩
  nofun
  exact rfl
 ·rcases Η.mp hd with hd | hd
  ·exact ⟨_,ξ.mp hd⟩
  ·obtain ⟨i,_,rfl⟩:=ϭ.mp hd
   exact ⟨i,rfl⟩
theorem run_law:∀ ns:List Int,ns.length<=63->callW (fnsOf rs) wh 60 23 [.scr ns] (fun x _=>x.1=.bl true) []:=law_wp
noncomputable def wK:PySem.DefRec:=EV.drOf (top 31)
end Q03
open PySem PySem.W PyProof.Rows
namespace Q03
set_option maxRecDepth 100000 in
set_option maxHeartbeats 0 in
theorem end_s : PySem.Challenge.rw_errandroom_k03_names_and_errands.wellSaid = true := by kernel_rfl
set_option maxRecDepth 100000 in
set_option maxHeartbeats 0 in
theorem end_a : W.defOf vU PySem.Challenge.rw_errandroom_k03_names_and_errands.name = some (wK, []) := by kernel_rfl
set_option maxRecDepth 100000 in
set_option maxHeartbeats 0 in
theorem end_b : PySem.Challenge.rw_errandroom_k03_names_and_errands.prog.theDef PySem.Challenge.rw_errandroom_k03_names_and_errands.name = some (wK.params, wK.body, wK.scope) := by kernel_rfl
set_option maxRecDepth 100000 in
set_option maxHeartbeats 0 in
theorem end_c : W.kwWritten? wK.params.kwonlyargs wK.params.kw_defaults = some [] := by kernel_rfl
set_option maxRecDepth 100000 in
set_option maxHeartbeats 0 in
theorem end_k : (W.chainsOk vU && W.opensWell PySem.Challenge.rw_errandroom_k03_names_and_errands.prog && (W.frees PySem.Challenge.rw_errandroom_k03_names_and_errands.row.toRowW && PySem.Challenge.rw_errandroom_k03_names_and_errands.row.within.isEmpty)) = true := by kernel_rfl
set_option maxRecDepth 100000 in
set_option maxHeartbeats 0 in
theorem end_e : wK.params.defaults = [] := by kernel_rfl
set_option maxRecDepth 100000 in
set_option maxHeartbeats 0 in
theorem end_h : PySem.Challenge.rw_errandroom_k03_names_and_errands.prog.bare := ⟨rfl, rfl, rfl, rfl, rfl, by decide +kernel⟩
set_option maxRecDepth 100000 in
set_option maxHeartbeats 0 in
theorem end_w : PySem.Challenge.rw_errandroom_k03_names_and_errands.row.toRowW.promised := by w_witness2
end Q03
set_option maxRecDepth 100000 in
set_option maxHeartbeats 0 in
theorem PySem.Challenge.cw_errandroom_k03_names_and_errands_holds : PySem.Challenge.rw_errandroom_k03_names_and_errands.Holds := by
 exact EV.zcw (q := Q03.vU) (loose := []) (d := Q03.wK) (B := Q03.B) (rs := Q03.rs) (f := 23) (r := Q03.r_law) (y := "script") (wh := Q03.wh) 8000 500 Q03.end_s Q03.zab Q03.end_a Q03.end_b Q03.end_c Q03.end_k Q03.end_h Q03.end_w rfl Q03.end_e rfl rfl rfl Q03.tabs Q03.run_law
