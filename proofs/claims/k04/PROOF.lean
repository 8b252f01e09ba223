import PyProof.Rows.All
import Wide.All
import OpenK.AllK
import Wide.FinOn
import Lean
import PyProof.EqAt
import PyProof.EqKinds
import PyProof.TupleCall
import PyProof.EnumMake
import PyProof.EnumIter
import PyProof.EnumFor
import PyProof.EnumStmt
import PyProof.WalksEnum
import KE.KRevIter
import PyProof.Rows.Range3
import PyProof.Rows.SortShell
import KE.KTops
import PyProof.Rows.SortRuns
import PyProof.Rows.SortKey
import KE.KSortTup
import PyProof.PureInt
import KE.KDictSum
import PyProof.Rows.SetFrom
import PyProof.SetKind
import PyProof.DictKinds
import PyProof.WalksMore
import PyProof.FactsAll.set_1
import PyProof.CollectWalk
import PyProof.CollectIter
import KE.KSortAsk
import PyProof.DictKeyH
import PyProof.ReprRoads
import PyProof.ListMulRoad
import PyProof.NeKinds
import KE.KEqDict
import PyProof.SumWalkG
import PyProof.Rows.SumGenD
import PyProof.CompMap
import PySem.Challenge.RW_errandroom_k04_programs_known
set_option Elab.async false
set_option linter.all false
set_option maxRecDepth 100000
set_option maxHeartbeats 4000000
set_option tactic.hygienic false
set_option backward.match.sparseCases false
set_option genSizeOfSpec false
set_option bootstrap.genMatcherCode false
set_option compiler.extract_closed false
open Array renaming length_toList -> Φ, toList_append -> ϭ, getElem?_toList -> bC, toList_reverse -> bK, toList_push -> cD, perm_iff_toList_perm -> cT, toList_extract -> eE, getElem?_eq_getElem -> fG, getElem?_eq_none -> nA, size_eq_one_iff -> nH, append_assoc -> oA, toList_zip -> oX, toList_map -> oY
open Bool renaming and_eq_true -> ζ, false_ne_true -> ϗ, and_eq_true_iff -> ϵ, false_eq_true -> bY, and_false -> gQ, and_true -> iz, or_eq_true -> lN, not_eq_true' -> oW
open Classical renaming choose -> cL, choose_spec -> my
open False renaming elim -> ak
open ForInStep renaming done -> Ϡ, yield -> ϥ
open Int renaming emod_lt_of_pos -> aq, emod_nonneg -> bh, toNat_natCast -> lA
open List renaming mem_cons_of_mem -> θ, mem_cons_self -> μ, size_toArray -> ξ, replicate -> ς, mem_singleton -> υ, getElem?_eq_getElem -> χ, getElem?_eq_some_iff -> Ζ, mem_cons -> Η, mem_append -> Λ, length_map -> Ν, mem_append_right -> Ρ, append_nil -> Υ, getElem?_map -> Ψ, getElem?_set_ne -> ϋ, append_assoc -> ό, length_append -> Ϗ, getElem?_append_left -> ϒ, getElem?_append_right -> ϖ, mem_map -> Ϛ, contains_iff_mem -> Ϣ, map_cons -> ϧ, range -> ϩ, pairwise_append -> ϳ, getElem?_set_self -> Ϸ, mem_of_getElem? -> au, lookup_cons -> aA, getD_eq_getElem?_getD -> aF, replicate_succ -> aG, length_take -> aM, Perm -> aN, nodup_append -> aV, map_append -> aW, set -> bu, mem_range -> bB, take_append_drop -> bF, nodup_cons -> bJ, mem_append_left -> bL, map -> bM, length_eq_zero_iff -> bQ, length_cons -> bR, zip_cons_cons -> bW, length_set -> b8, any_cons -> cj, all_cons -> cu, getElem?_eq_none -> cB, flatten_cons -> cJ, length_dropLast -> cV, getElem_mem -> cX, all_eq_true -> cY, extract_eq_take_drop -> cZ, drop_eq_getElem_cons -> c7, filterMap_cons -> dh, nil_append -> dz, foldl_cons -> dB, find?_cons -> dC, getElem?_replicate -> dF, take_of_length_le -> dN, drop_eq_nil_of_le -> dO, length_drop -> d7, mem_of_mem_take -> eG, of_mem_zip -> eQ, reverse_append -> eX, mem_map_of_mem -> eY, map_map -> fc, pairwise_iff_getElem -> fH, length_range -> fM, Pairwise -> fQ, mem_reverse -> fZ, any_eq_true -> f9, length_zip -> gw, pairwise_reverse -> gA, length_replicate -> gB, getElem?_toArray -> gC, nodup_nil -> gK, mem_of_mem_drop -> gM, mem_iff_getElem -> gO, drop_drop -> gP, getElem_of_mem -> ir, pairwise_cons -> iC, take_sublist -> iY, reverse_perm -> iZ, map_nil -> lg, ext_getElem? -> lq, length -> lL, length_nil -> lM, drop_zero -> mj, set_eq_of_length_le -> mX, map_take -> mY, getElem?_take_of_lt -> mZ, range_succ_eq_map -> nD, getElem?_dropLast -> nF, perm_append_comm -> nR, reverse_reverse -> nW, length_eraseIdx -> nY, map_congr_left -> ou, mem_filterMap -> oG, getElem?_drop -> oH, pairwise_map -> oU, getElem?_inj -> oV
open List.Pairwise renaming nil -> eO
open List.Perm renaming refl -> bw, trans -> iK
open List.cons renaming inj -> gD
open Nat renaming le_refl -> π, beq -> Μ, ne_of_lt -> ϊ, lt_of_lt_of_le -> ϐ, le_trans -> ϣ, zero_le -> bA, lt_irrefl -> cA, lt_succ_of_lt -> dX, zero_add -> gn, ne_of_gt -> gq, le_of_lt -> gr, le_of_ble_eq_true -> gH, succ -> lz, lt_succ_self -> lJ, le_of_not_lt -> lK, sub_self -> nP, add_zero -> nQ, lt_of_le_of_lt -> oR
open Nat.succ renaming inj -> eF
open Ne renaming symm -> fY
open Option renaming map_eq_some_iff -> Ι, bind_eq_some_iff -> ϡ, some -> Ϭ, map_some -> gf, isSome_map -> iB, bind_some -> iW, isSome_iff_exists -> lZ, getD_some -> oE, getD_none -> oF
open Option.some renaming inj -> ϛ
open Prod.mk renaming inj -> iV
open PyProof.Rows renaming wpS_bind -> ο, arrOf -> ψ, Keyed -> ω, wpS_pure -> Α, SortSt -> Κ, KeyOrd -> Ϝ, wpS_forRange -> ϫ, slot_tuple_getitem -> ϯ, wpS_mono -> aX, pendingOf -> bx, callWith_type1 -> bU, seqObj -> cH, wpS_modify -> dj, failedOf -> dG, SortKind -> dH, wpS_get -> dJ, elem' -> dY, reverseSlice' -> eZ, wpS_lift -> fU, listUpdate_at -> gm, sortedHeap -> gU, AllBare -> gZ, envOfC -> lG, mirror_perm -> mO, subscriptTail_builtinR -> oJ, listItems_at -> oK
open PyProof.Rows.F renaming plain_set_update_loop -> b7, entry_set_update_loop -> fP
open PyProof.Rows.KTD renaming datumAt -> gW
open PyProof.Rows.KeyOrd renaming kle_trans -> ϑ, kle_of_klt -> ϕ, kle_refl -> aR, kle_antisymm -> nU
open PyProof.Rows.SortSt renaming mk' -> ik
open PySem renaming Value -> δ, wpAny_bind -> ε, wpAny_pure -> ι, Shared -> ν, wpAny -> Θ, model -> Ξ, Program -> Τ, Builtin -> Ω, compareOp -> ώ, mainGlobals -> ϔ, Expr -> Ϙ, World -> ϝ, SetTable -> Ϟ, Around -> ϟ, starEach -> Ϥ, wpAny_newObj_type -> Ϩ, NameKind -> ϰ, wpAny_truthy_bool -> ϲ, Stmt -> ϸ, wpAny_call_entry -> Ϲ, sizeLine_eq -> Ϻ, cLine -> aj, wpAny_rule -> aB, wpAny_callSpecial?_slot -> aC, Spec -> aD, wpAny_setField -> aH, keywordEach -> aL, strKind -> aO, assignEach -> aP, wpAny_holding -> aU, wpAny_field -> aY, mem_of_lookup -> aZ, FuncData -> bj, rawInt -> bD, Keyword -> bG, binaryOp -> bI, wpAny_of_eq -> bN, foldedSetIterable -> bO, swappedStores -> bT, wpAny_typeOf -> cF, wpAny_mono -> cG, bootBuiltins -> cI, wpAny_passesOwn -> cQ, backToKw -> cR, swapsWithSole -> cU, wpAny_setState_of -> cW, sysModules -> dm, World -> dD, Scope -> dI, codeAny_builtin -> dM, wpAny_setField_rec -> dR, wpAny_Call_Name_kw -> dU, tupleKind_room_in1 -> dW, Paired -> d8, CmpOp -> eU, backTo -> eV, sliceBounds -> fj, codeAny_mono -> fJ, assign -> fV, wpAny_pyIter_list -> gh, wpAny_pyIter_enum -> gj, holding -> gk, swapsWith -> gF, PassesOwn -> gG, valueAt -> gR, IsPart -> gY, wpAny_ite_false -> g8, builtinLookup_eq_fast -> iu, wpAny_seqItems -> iD, storeSet -> iG, isTrue -> iH, isSubtype_type -> iI, tupleKind -> iM, treeTable -> iQ, relabel -> iR, getItem -> iT, wpAny_setEntries_of -> lu, wpAny_standAt -> lB, wpAny_attempt -> lC, plainId_quiet -> lD, wpAny_pyIter_tuple -> lE, pyIter -> lF, call_meets -> lH, codeAny -> lQ, Operator -> lU, wpAny_isInstance -> mC, wpAny_askSetting -> mD, pickOrder -> mF, noFill_tuple_add -> mG, unsupported -> mL, wpAny_loadPart' -> m5, wpAny_execs_nil -> m6, typeLookup_type -> m7, letOwnedTupleGo -> m8, importedModules -> m9, BoolOp -> nj, wpAny_newTuple -> nJ, wpAny_letOwnedTupleGo_enum -> nM, setAddHashedIn -> nO, seq_tuple_add -> nZ, attributeBase -> n8, concat_meets -> oM, call_meetsIn -> oN
open PySem.Around renaming under_plainId -> cP
open PySem.Builtin.List renaming listExtendWith -> bV, listTooLong -> cO, listSameRef -> lr
open PySem.Builtin.Slice renaming slicePlaces -> cg, sliceAdjust -> d9, sliceApplied -> iy
open PySem.Builtin.SmallTypes renaming nextOf -> gJ
open PySem.Builtin.Str renaming occurrences -> fu
open PySem.Builtin.Tuple renaming tupleExact -> cM, tupleItemsOf -> iw
open PySem.Calls renaming Name_function_global -> lV, callWith_builtin -> nu
open PySem.Challenge renaming rw_errandroom_k04_programs_known -> Χ, pw_errandroom_k04_programs_known -> ϱ
open PySem.Data renaming fields -> ϴ, seq -> fC
open PySem.Env renaming kindOf -> mK
open PySem.F renaming called_set -> aJ, slot_dict_get -> bZ, plainAttrs_list -> dw, args_tuple_add_2 -> fD, entry_tuple_add -> fK, args_dict_get_3 -> fL, slot_tuple_add -> fW, entry_dict_get -> fX, plain_list_iadd -> lW, plainAttrs_dict -> lX, plainAttrs_str -> mH, type_dict_get -> mU, slot_set_iter -> mV, plain_set_new -> mW
open PySem.Heap renaming get?_push_of_some -> η, lt_size -> Β, get?_push_size -> Δ, SameBut -> Ϫ, get?_update_self -> bH, get?_update_ne -> di, size_push -> fB, get?_update_other -> nG
open PySem.Heap.SameBut renaming update -> cC, refl -> mJ
open PySem.NameKind renaming free -> aK
open PySem.Obj renaming mapSeq -> bf, mapFields -> nq, data_mapFields -> oO
open PySem.Paired renaming length -> lY
open PySem.ScopeKind renaming function -> ni
open PySem.SeqAt renaming RcNeAt -> Ϧ, EqAt -> Ϯ
open PySem.SeqAt.EqAt renaming str_int -> mQ, int_str -> mR
open PySem.SetTable renaming below -> bz, grown -> cz, orStandIn -> nC
open PySem.SetTable.below renaming go -> lR
open PySem.Shared renaming TypeIs -> dg
open PySem.Str renaming ofString -> lw
open PySem.Txt renaming split -> fO, slice -> iJ
open PySem.Value renaming ref -> Ε, none -> Ο, bool -> ύ, type -> ϓ, int -> ϙ, str -> aQ, isStrOf -> dZ
open PySem.World renaming withFollow -> dq
open PySem.pickOrder renaming go -> lO
open Sum renaming inr -> cN, inl -> ig
open Sum.inr renaming inj -> iU
open True renaming intro -> ao
namespace L2
open PySem PySem.Spec PyProof.Rows
abbrev VSP:=δ->ν->Prop
abbrev Key:=Sum Int Str
noncomputable def yq (s:Stmt):Arguments:=match s with
 | .FunctionDef _ a _ _ _ _ _ _ _ _=>a
 | _=>{ posonlyargs:=[],args:=[],vararg:=none,kwonlyargs:=[],kw_defaults:=[],kwarg:=none,defaults:=[] }
noncomputable def zZ (s:Stmt):List Stmt:=match s with
 | .FunctionDef _ _ b _ _ _ _ _ _ _=>b
 | _=>[]
noncomputable def zE (s:Stmt):dI:=match s with
 | .FunctionDef _ _ _ _ _ _ sc _ _ _=>sc
 | _=>{ kind:=.function,names:=[],isGenerator:=false,isCoroutine:=false }
end L2
namespace EV
open PySem PySem.Spec PyProof.Rows L2
inductive D where
 | non | bl (b:Bool) | int (i:Int) | str (x:Str)
 | tup (ds:List D) | lst (ds:List D)
 | dK (ks:List Key) (ds:List D) | dT (ks:List (List Key)) (ds:List D)
 | ref (k:Nat) | fn (f:Nat) | scr (ns:List Int) | ktp (ds:List D) | kdc (ps:List (Str×Int))
 deriving Inhabited
inductive Ty where
 | int | bool | str | tuple | list | dict
 deriving DecidableEq
inductive BI where
 | len | abs | int | str | tuple | list | sum | all | any | isinst (t:Ty) | min2 | max2 | sorted | repr | dict | sset | lset
 deriving DecidableEq
inductive MT where
 | get1 | get2 | index | join | split
 deriving DecidableEq
inductive T where
 | one (i:Nat) | tup (is:List Nat) | nst (i:Nat) (is:List Nat)
 deriving DecidableEq
inductive E where
 | var (i:Nat) | con (d:D) | glo (n:Nat) (d:D)
 | bin (op:lU) (a b:E) | neg (a:E)
 | cmp (op:eU) (a b:E) | chn (o1 o2:eU) (a b c:E)
 | not (a:E) | and (a b:E) | or (a b:E)
 | ite (c a b:E)
 | tup (es:List E) | lst (es:List E) | dic (tk:Bool) (ks:List Key) (vs:List E)
 | sub (a i:E) | slc (a:E) (lo hi:Option E)
 | bi (b:BI) (es:List E) | mth (m:MT) (o:E) (es:List E)
 | call (f:Nat) (es:List E) | callk (f:Nat) (perm:List Nat) (es:List E) | callv (i:Nat) (es:List E)
 | comp (t:T) (js:List Nat) (it:E) (ifs:List E) (elt:E)
 | box (e:E) | one (e:E) | flip (e:E)
 | seq (e:E) | rng (lo:Option E) (hi:E) | enum (e:E) | zip (a b:E) | rev (e:E) | items (e:E) | dwn (es:List E)
inductive C where
 | set (t:T) (e:E)
 | expr (e:E)
 | ret (e:E) | retN
 | ite (c:E) (a b:List C)
 | whl (c:E) (b:List C)
 | forr (t:T) (it:E) (b:List C)
 | app (i:Nat) (e:E) | ext (i:Nat) (e:E)
 | stv (i:Nat) (k v:E) | sti (o k v:E) | appR (o e:E) | pop (i:Nat) | popR (t:T) (o:E) | popO (t:T) (i:Nat)
 | pass | brk | cnt | frz (i:Nat) | frr (i:Nat)
structure Fn where
 np:Nat
 nv:Nat
 body:List C
structure Tb where
 fns:List Str
 pars:List (List Str)
 consts:List (Str×D)
 bare:List Str
 kws:List (Nat×List Str×List Nat)
structure Row where
 name:Str
 st:Stmt
 ps:List Str
 N:List Str
 fn:Fn
noncomputable def frOf (h:Heap) (n:Nat):W.Frag:=(ϩ n).filterMap fun a=>(h.get? a).map fun o=>(a,o)
noncomputable def J6 (K:W.Frag) (x:Str):Option (bj×Bool):=match W.nsIn K ϔ x with
  | some (some (.ref f))=>(match K.lookup f with
     | some ⟨_,_,.func fd,_⟩=>some ({ fd with kwdefaults:=.none,doc:=.none,pyModule:=.none,annotations:=none,code:=.none,closureTuple:=.none },W.codeIn K fd.code x&&W.keepIn K (.ref f))
     | _=>none)
  | _=>none
noncomputable def jR:List D->List δ->Bool
 | [],[]=>true
 | .str x::ds,.str y _::vs=>x==y&&jR ds vs
 | .int i::ds,.int j _::vs=>i==j&&jR ds vs
 | _,_=>false
noncomputable def tupAt (K:W.Frag) (a:Addr):Option (Array δ):=(K.lookup a).bind fun o=>match o.cls,o.data with
 | .type t,.seq its _=>if (t=="tuple"&&decide (its.size<=1000))=true then some its else none
 | _,_=>none
noncomputable def dicAt (K:W.Frag) (a:Addr) (ps:List (Str×Int)):Bool:=(match K.lookup a with
  | some o=>(match o.cls with | .type t=>t=="dict" | _=>false)&&o.dict.isNone
  | none=>false)&&KTD.tabLook (KTD.datLooks fun b=>K.lookup b) (fun b=>K.lookup b) a (ps.map fun p=>(p.1,.flat (.int p.2)))
noncomputable def conOk (K:W.Frag) (rs:List Row) (x:Str):D->Bool
 | .int i=>(match W.nsIn K ϔ x with | some (some (.int j _))=>i==j | _=>false)
 | .str y=>(match W.nsIn K ϔ x with | some (some (.str z _))=>y==z | _=>false)
 | .fn i=>(match rs[i]? with | some r=>r.name==x | none=>false)
 | .ktp ds=>(match W.nsIn K ϔ x with | some (some (.ref a))=>(match tupAt K a with | some its=>jR ds its.toList | none=>false) | _=>false)
 | .kdc ps=>(match W.nsIn K ϔ x with | some (some (.ref a))=>dicAt K a ps | _=>false)
 | _=>false
noncomputable def seenT (K:W.Frag) (B:Tb) (rs:List Row):List (Option (bj×Bool))×List (Option (Option δ))×List Bool:=
 (rs.map fun r=>J6 K r.name,B.bare.map fun x=>W.nsIn K ϔ x,B.consts.map fun p=>conOk K rs p.1 p.2)
noncomputable def wantT (B:Tb) (rs:List Row):List (Option (bj×Bool))×List (Option (Option δ))×List Bool:=
 (rs.map fun r=>some (W.fnOf r.name r.name (yq r.st) (zZ r.st) (zE r.st) .none .none .none .none none .none .none,true),B.bare.map fun _=>some none,B.consts.map fun _=>true)
end EV
namespace Q04
open PySem PySem.Spec PyProof.Rows L2 EV
def top (i:Nat):Stmt:=ϱ.main.body.getD i (.Pass ⟨0,0,0,0⟩)
noncomputable abbrev jY:List C:=[.ret (.and (.bi (.isinst .int) [(.var 0)]) (.one (.not (.bi (.isinst .bool) [(.var 0)]))))]
noncomputable def jC:EV.Row:=⟨"is_whole",top 4,["one"],["one"],⟨1,1,jY⟩⟩
noncomputable abbrev jg:List C:=[.ret (.and (.call 0 [(.var 0)]) (.one (.chn .LtE .Lt (.con (.int 0)) (.var 0) (.glo 0 (.int 1000000007)))))]
noncomputable def uB:EV.Row:=⟨"is_number",top 5,["one"],["one"],⟨1,1,jg⟩⟩
noncomputable abbrev Yq:List C:=[.ret (.and (.bi (.isinst .str) [(.var 0)]) (.one (.cmp .In (.var 0) (.glo 1 (.ktp [(.str "+"),(.str "-"),(.str "*"),(.str "<"),(.str "=")])))))]
noncomputable def Zk:EV.Row:=⟨"is_sign",top 6,["one"],["one"],⟨1,1,Yq⟩⟩
noncomputable abbrev vR:List C:=[.ret (.call 4 [(.var 0),(.var 1),(.glo 2 (.int 3))])]
noncomputable def vH:EV.Row:=⟨"is_formula",top 7,["one","is_name"],["one","is_name"],⟨2,2,vR⟩⟩
noncomputable abbrev yg:List C:=[.ite (.or (.call 1 [(.var 0)]) (.one (.callv 1 [(.var 0)]))) [.ret (.con (.bl true))] [],.ite (.or (.cmp .Eq (.var 2) (.con (.int 0))) (.or (.not (.bi (.isinst .tuple) [(.var 0)])) (.or (.cmp .NotEq (.bi .len [(.var 0)]) (.con (.int 3))) (.one (.not (.call 2 [(.sub (.var 0) (.con (.int 0)))])))))) [.ret (.con (.bl false))] [],.ret (.and (.call 4 [(.sub (.var 0) (.con (.int 1))),(.var 1),(.bin .Sub (.var 2) (.con (.int 1)))]) (.one (.call 4 [(.sub (.var 0) (.con (.int 2))),(.var 1),(.bin .Sub (.var 2) (.con (.int 1)))])))]
noncomputable def ye:EV.Row:=⟨"is_formula_within",top 8,["one","is_name","deeper"],["one","is_name","deeper"],⟨3,3,yg⟩⟩
noncomputable abbrev Yo:List C:=[.ite (.or (.not (.bi (.isinst .str) [(.var 0)])) (.one (.not (.chn .LtE .LtE (.con (.int 1)) (.bi .len [(.var 0)]) (.glo 4 (.int 8)))))) [.ret (.con (.bl false))] [],.ret (.bi .all [(.comp (.one 0) [] (.seq (.var 0)) [] (.cmp .In (.var 0) (.glo 3 (.str "abcdefghijklmnopqrstuvwxyz"))))])]
noncomputable def Zi:EV.Row:=⟨"is_word",top 20,["one"],["one"],⟨1,1,Yo⟩⟩
noncomputable abbrev yE:List C:=[.ret (.or (.cmp .Is (.var 0) (.con .non)) (.one (.call 5 [(.var 0)])))]
noncomputable def yu:EV.Row:=⟨"is_word_or_none",top 21,["one"],["one"],⟨1,1,yE⟩⟩
noncomputable abbrev wK:List C:=[.ret (.and (.bi (.isinst .tuple) [(.var 0)]) (.one (.chn .LtE .LtE (.var 1) (.bi .len [(.var 0)]) (.var 2))))]
noncomputable def wu:EV.Row:=⟨"is_tuple_of",top 22,["one","least","most"],["one","least","most"],⟨3,3,wK⟩⟩
noncomputable abbrev je:List C:=[.ret (.and (.bi (.isinst .tuple) [(.var 0)]) (.and (.cmp .Gt (.bi .len [(.var 0)]) (.con (.int 0))) (.one (.bi (.isinst .str) [(.sub (.var 0) (.con (.int 0)))]))))]
noncomputable def uz:EV.Row:=⟨"is_worded",top 23,["one"],["one"],⟨1,1,je⟩⟩
noncomputable abbrev yG:List C:=[.ret (.call 3 [(.var 0),(.glo 13 (.fn 5))])]
noncomputable def yx:EV.Row:=⟨"is_name_formula",top 24,["one"],["one"],⟨1,1,yG⟩⟩
noncomputable abbrev vQ:List C:=[.ite (.not (.call 7 [(.var 0),(.con (.int 1)),(.glo 5 (.int 6))])) [.ret (.con (.bl false))] [],.set (.one 1) (.dic false [] []),.forr (.one 2) (.seq (.var 0)) [.ite (.or (.not (.call 11 [(.var 2)])) (.one (.cmp .In (.sub (.var 2) (.con (.int 0))) (.var 1)))) [.ret (.con (.bl false))] [],.stv 1 (.sub (.var 2) (.con (.int 0))) (.bi .len [(.sub (.var 2) (.con (.int 1)))])],.frz 1,.ret (.bi .all [(.comp (.one 0) [1] (.seq (.var 0)) [] (.call 13 [(.var 0),(.var 1)]))])]
noncomputable def vG:EV.Row:=⟨"is_program",top 25,["value"],["value","counts","errand"],⟨1,3,vQ⟩⟩
noncomputable abbrev Yr:List C:=[.ret (.and (.call 7 [(.var 0),(.con (.int 3)),(.con (.int 3))]) (.and (.call 5 [(.sub (.var 0) (.con (.int 0)))]) (.one (.call 12 [(.sub (.var 0) (.con (.int 1)))]))))]
noncomputable def Zm:EV.Row:=⟨"is_head",top 26,["errand"],["errand"],⟨1,1,Yr⟩⟩
noncomputable abbrev jf:List C:=[.ite (.or (.not (.call 7 [(.var 0),(.con (.int 0)),(.glo 6 (.int 3))])) (.one (.not (.bi .all [(.comp (.one 0) [] (.seq (.var 0)) [] (.call 5 [(.var 0)]))])))) [.ret (.con (.bl false))] [],.ret (.cmp .Eq (.bi .lset [(.var 0)]) (.bi .len [(.var 0)]))]
noncomputable def uA:EV.Row:=⟨"is_params",top 27,["params"],["params"],⟨1,1,jf⟩⟩
noncomputable abbrev Ys:List C:=[.set (.one 2) (.call 14 [(.sub (.var 0) (.con (.int 2)))]),.frz 2,.ite (.or (.cmp .Is (.var 2) (.con .non)) (.one (.not (.bi .all [(.comp (.one 0) [1] (.seq (.var 2)) [] (.call 17 [(.var 0),(.var 1)]))])))) [.ret (.con (.bl false))] [],.ite (.cmp .Gt (.bi .len [(.call 23 [(.var 0)])]) (.glo 9 (.int 6))) [.ret (.con (.bl false))] [],.frz 2,.ret (.not (.bi .any [(.comp (.one 0) [] (.seq (.var 2)) [(.cmp .Eq (.sub (.var 0) (.con (.int 0))) (.con (.str "do")))] (.call 20 [(.sub (.var 0) (.con (.int 2)))]))]))]
noncomputable def Zn:EV.Row:=⟨"is_body",top 28,["errand","counts"],["errand","counts","rows"],⟨2,3,Ys⟩⟩
noncomputable abbrev wJ:List C:=[.set (.one 1) (.lst []),.set (.one 2) (.lst [(.tup [(.var 0),(.con (.int 1))])]),.whl (.cmp .Gt (.bi .len [(.var 2)]) (.con (.int 0))) [.popO (.one 3) 2,.ite (.not (.call 15 [(.sub (.var 3) (.con (.int 0))),(.sub (.var 3) (.con (.int 1)))])) [.ret (.con .non)] [],.ext 1 (.sub (.var 3) (.con (.int 0))),.ite (.cmp .Gt (.bi .len [(.var 1)]) (.glo 8 (.int 24))) [.ret (.con .non)] [],.forr (.one 4) (.seq (.sub (.var 3) (.con (.int 0)))) [.ext 2 (.comp (.one 0) [3] (.seq (.call 21 [(.var 4)])) [] (.tup [(.var 0),(.bin .Add (.sub (.var 1) (.con (.int 1))) (.con (.int 1)))]))]],.ret (.var 1)]
noncomputable def wj:EV.Row:=⟨"shaped_rows",top 29,["block"],["block","rows","waiting","pair","row"],⟨1,5,wJ⟩⟩
noncomputable abbrev yF:List C:=[.set (.one 2) (.ite (.cmp .LtE (.var 1) (.glo 10 (.int 4))) (.glo 7 (.int 8)) (.con (.int 0))),.ret (.and (.call 7 [(.var 0),(.con (.int 0)),(.var 2)]) (.one (.bi .all [(.comp (.one 0) [] (.seq (.var 0)) [] (.call 16 [(.var 0)]))])))]
noncomputable def yw:EV.Row:=⟨"is_shaped_block",top 30,["block","deep"],["block","deep","most"],⟨2,3,yF⟩⟩
noncomputable abbrev xf:List C:=[.ret (.and (.call 8 [(.var 0)]) (.one (.cmp .Eq (.bi .len [(.var 0)]) (.mth .get2 (.glo 12 (.kdc [(("set":Str),(3:Int)),(("tell":Str),(2:Int)),(("give":Str),(2:Int)),(("fail":Str),(2:Int)),(("if":Str),(4:Int)),(("while":Str),(3:Int)),(("try":Str),(4:Int)),(("do":Str),(3:Int)),(("want":Str),(3:Int))])) [(.sub (.var 0) (.con (.int 0))),(.con (.int 0))]))))]
noncomputable def yR:EV.Row:=⟨"is_shaped_row",top 31,["row"],["row"],⟨1,1,xf⟩⟩
noncomputable abbrev W2:List C:=[.ite (.cmp .Eq (.sub (.var 0) (.con (.int 0))) (.con (.str "set"))) [.ret (.and (.call 5 [(.sub (.var 0) (.con (.int 1)))]) (.one (.call 9 [(.sub (.var 0) (.con (.int 2)))])))] [],.ite (.cmp .Eq (.sub (.var 0) (.con (.int 0))) (.con (.str "want"))) [.ret (.call 18 [(.sub (.var 0) (.con (.int 1))),(.sub (.var 0) (.con (.int 2))),(.var 1),(.glo 14 (.fn 6)),(.glo 15 (.fn 9))])] [],.ite (.cmp .Eq (.sub (.var 0) (.con (.int 0))) (.con (.str "try"))) [.ret (.call 6 [(.sub (.var 0) (.con (.int 2)))])] [],.ret (.or (.cmp .Eq (.sub (.var 0) (.con (.int 0))) (.con (.str "do"))) (.one (.call 9 [(.sub (.var 0) (.con (.int 1)))])))]
noncomputable def Wd:EV.Row:=⟨"is_row",top 32,["row","counts"],["row","counts"],⟨2,2,W2⟩⟩
noncomputable abbrev Yp:List C:=[.ite (.not (.call 7 [(.var 1),(.con (.int 1)),(.glo 11 (.int 4))])) [.ret (.con (.bl false))] [],.ite (.or (.not (.call 0 [(.var 0)])) (.one (.not (.chn .LtE .LtE (.con (.int 1)) (.var 0) (.bi .len [(.var 1)]))))) [.ret (.con (.bl false))] [],.ret (.bi .all [(.comp (.one 0) [2,3,4] (.seq (.var 1)) [] (.call 19 [(.var 0),(.var 1),(.var 2),(.var 3)]))])]
noncomputable def Zj:EV.Row:=⟨"is_want",top 33,["least","branches","counts","is_target","is_one"],["least","branches","counts","is_target","is_one"],⟨5,5,Yp⟩⟩
noncomputable abbrev jh:List C:=[.ite (.or (.not (.call 7 [(.var 0),(.con (.int 4)),(.con (.int 4))])) (.or (.not (.callv 2 [(.sub (.var 0) (.con (.int 0)))])) (.one (.not (.bi (.isinst .str) [(.sub (.var 0) (.con (.int 1)))]))))) [.ret (.con (.bl false))] [],.ite (.not (.call 5 [(.sub (.var 0) (.con (.int 2)))])) [.ret (.con (.bl false))] [],.ite (.cmp .Eq (.sub (.var 0) (.con (.int 1))) (.con (.str "ask"))) [.ret (.callv 3 [(.sub (.var 0) (.con (.int 3)))])] [],.ite (.or (.cmp .NotEq (.sub (.var 0) (.con (.int 1))) (.con (.str "call"))) (.one (.cmp .NotIn (.sub (.var 0) (.con (.int 2))) (.var 1)))) [.ret (.con (.bl false))] [],.set (.one 4) (.sub (.var 1) (.sub (.var 0) (.con (.int 2)))),.ret (.and (.call 7 [(.sub (.var 0) (.con (.int 3))),(.var 4),(.var 4)]) (.one (.bi .all [(.comp (.one 0) [3] (.seq (.sub (.var 0) (.con (.int 3)))) [] (.callv 1 [(.var 0)]))])))]
noncomputable def uC:EV.Row:=⟨"is_branch",top 34,["branch","counts","is_target","is_one"],["branch","counts","is_target","is_one","count"],⟨4,5,jh⟩⟩
noncomputable abbrev KD:List C:=[.ret (.bi .any [(.comp (.one 0) [] (.seq (.call 22 [(.var 0)])) [] (.cmp .Eq (.sub (.var 0) (.con (.int 0))) (.con (.str "give"))))])]
noncomputable def Uz:EV.Row:=⟨"gives",top 35,["block"],["block"],⟨1,1,KD⟩⟩
noncomputable abbrev ji:List C:=[.ite (.cmp .Eq (.sub (.var 0) (.con (.int 0))) (.con (.str "if"))) [.ret (.tup [(.sub (.var 0) (.con (.int 2))),(.sub (.var 0) (.con (.int 3)))])] [],.ite (.cmp .Eq (.sub (.var 0) (.con (.int 0))) (.con (.str "while"))) [.ret (.tup [(.sub (.var 0) (.con (.int 2)))])] [],.ite (.cmp .Eq (.sub (.var 0) (.con (.int 0))) (.con (.str "try"))) [.ret (.tup [(.sub (.var 0) (.con (.int 1))),(.sub (.var 0) (.con (.int 3)))])] [],.ite (.cmp .Eq (.sub (.var 0) (.con (.int 0))) (.con (.str "do"))) [.ret (.tup [(.sub (.var 0) (.con (.int 1))),(.sub (.var 0) (.con (.int 2)))])] [],.ret (.tup [])]
noncomputable def uD:EV.Row:=⟨"blocks_of",top 36,["row"],["row"],⟨1,1,ji⟩⟩
noncomputable abbrev Yn:List C:=[.set (.one 1) (.lst []),.forr (.one 2) (.seq (.var 0)) [.app 1 (.var 2),.forr (.one 3) (.seq (.call 21 [(.var 2)])) [.ext 1 (.call 22 [(.var 3)])]],.ret (.var 1)]
noncomputable def Zh:EV.Row:=⟨"rows_of",top 37,["block"],["block","rows","row","inner"],⟨1,4,Yn⟩⟩
noncomputable abbrev jX:List C:=[.set (.one 1) (.bi .list [(.sub (.var 0) (.con (.int 1)))]),.forr (.one 2) (.seq (.call 22 [(.sub (.var 0) (.con (.int 2)))])) [.ext 1 (.call 24 [(.var 2)]),.forr (.one 3) (.seq (.call 25 [(.var 2)])) [.ext 1 (.call 26 [(.var 3)])]],.frz 1,.ret (.bi .tuple [(.bi .sset [(.var 1)])])]
noncomputable def jB:EV.Row:=⟨"names_of",top 38,["errand"],["errand","names","row","one"],⟨1,4,jX⟩⟩
noncomputable abbrev jd:List C:=[.ite (.cmp .Eq (.sub (.var 0) (.con (.int 0))) (.con (.str "set"))) [.ret (.lst [(.sub (.var 0) (.con (.int 1)))])] [],.ite (.cmp .Eq (.sub (.var 0) (.con (.int 0))) (.con (.str "try"))) [.ret (.comp (.one 0) [] (.seq (.lst [(.sub (.var 0) (.con (.int 2)))])) [(.cmp .IsNot (.var 0) (.con .non))] (.var 0))] [],.ite (.cmp .Eq (.sub (.var 0) (.con (.int 0))) (.con (.str "want"))) [.ret (.comp (.one 0) [] (.seq (.sub (.var 0) (.con (.int 2)))) [(.cmp .IsNot (.sub (.var 0) (.con (.int 0))) (.con .non))] (.sub (.var 0) (.con (.int 0))))] [],.ret (.lst [])]
noncomputable def uw:EV.Row:=⟨"set_names",top 39,["row"],["row"],⟨1,1,jd⟩⟩
noncomputable abbrev wL:List C:=[.ite (.cmp .Eq (.sub (.var 0) (.con (.int 0))) (.con (.str "set"))) [.ret (.lst [(.sub (.var 0) (.con (.int 2)))])] [],.ite (.cmp .In (.sub (.var 0) (.con (.int 0))) (.tup [(.con (.str "tell")),(.con (.str "give")),(.con (.str "fail")),(.con (.str "if")),(.con (.str "while"))])) [.ret (.lst [(.sub (.var 0) (.con (.int 1)))])] [],.set (.one 1) (.lst []),.ite (.cmp .Eq (.sub (.var 0) (.con (.int 0))) (.con (.str "want"))) [.forr (.one 2) (.seq (.sub (.var 0) (.con (.int 2)))) [.ext 1 (.ite (.cmp .Eq (.sub (.var 2) (.con (.int 1))) (.con (.str "ask"))) (.lst [(.sub (.var 2) (.con (.int 3)))]) (.sub (.var 2) (.con (.int 3))))]] [],.ret (.var 1)]
noncomputable def ww:EV.Row:=⟨"formulas_of",top 40,["row"],["row","formulas","branch"],⟨1,3,wL⟩⟩
noncomputable abbrev xg:List C:=[.ite (.bi (.isinst .str) [(.var 0)]) [.ret (.lst [(.var 0)])] [],.ite (.bi (.isinst .tuple) [(.var 0)]) [.ret (.bin .Add (.call 26 [(.sub (.var 0) (.con (.int 1)))]) (.call 26 [(.sub (.var 0) (.con (.int 2)))]))] [],.ret (.lst [])]
noncomputable def yS:EV.Row:=⟨"formula_names",top 41,["one"],["one"],⟨1,1,xg⟩⟩
noncomputable abbrev xm:List C:=[.set (.one 2) (.lst []),.set (.one 3) (.bi .abs [(.var 0)]),.ite (.cmp .GtE (.var 3) (.bin .Pow (.con (.int 10)) (.con (.int 18)))) [.whl (.and (.cmp .Gt (.var 3) (.con (.int 0))) (.one (.cmp .Lt (.bi .len [(.var 2)]) (.var 1)))) [.app 2 (.bin .Mod (.var 3) (.bin .Pow (.con (.int 10)) (.con (.int 6)))),.set (.one 3) (.bin .FloorDiv (.var 3) (.bin .Pow (.con (.int 10)) (.con (.int 6))))]] [],.forr (.one 4) (.rng (some (.bi .len [(.var 2)])) (.var 1)) [.set (.one 5) (.bin .Mod (.bin .Add (.bin .Add (.bin .Add (.bin .Mult (.bin .Mod (.var 0) (.con (.int 1000000007))) (.con (.int 48271))) (.bin .Mult (.bin .Mult (.con (.int 977)) (.var 4)) (.var 4))) (.bin .Mult (.con (.int 131)) (.var 4))) (.con (.int 1))) (.con (.int 2147483647))),.set (.one 5) (.bin .Mod (.bin .Mult (.var 5) (.var 5)) (.con (.int 2147483647))),.app 2 (.bin .Mod (.bin .FloorDiv (.bin .Mod (.bin .Mult (.bin .Add (.var 5) (.bin .Mult (.con (.int 40692)) (.bin .Add (.var 4) (.con (.int 3))))) (.con (.int 69621))) (.con (.int 2147483629))) (.con (.int 8))) (.bin .Pow (.con (.int 10)) (.con (.int 6))))],.ret (.var 2)]
noncomputable def vK:EV.Row:=⟨"_law_draws",top 43,["cell","many"],["cell","many","found","left","k","one"],⟨2,6,xm⟩⟩
noncomputable abbrev jk:List C:=[.ret (.bin .Mod (.bin .FloorDiv (.sub (.var 0) (.bin .Mod (.var 1) (.bi .len [(.var 0)]))) (.con (.int 7))) (.var 2))]
noncomputable def uF:EV.Row:=⟨"_law_draw",top 44,["draws","at","many"],["draws","at","many"],⟨3,3,jk⟩⟩
noncomputable abbrev wM:List C:=[.set (.one 2) (.bi .len [(.var 0)]),.set (.one 3) (.bin .Mult (.sub (.var 0) (.bin .Mod (.var 1) (.var 2))) (.bin .Pow (.con (.int 10)) (.con (.int 6)))),.set (.one 3) (.bin .Add (.var 3) (.sub (.var 0) (.bin .Mod (.bin .Add (.var 1) (.con (.int 1))) (.var 2)))),.set (.one 4) (.bin .Mod (.bin .FloorDiv (.sub (.var 0) (.bin .Mod (.bin .Add (.var 1) (.con (.int 2))) (.var 2))) (.con (.int 7))) (.con (.int 3))),.ret (.sub (.lst [(.bin .Mod (.var 3) (.con (.int 5))),(.bin .Sub (.con (.int 1000000006)) (.bin .Mod (.var 3) (.con (.int 3)))),(.bin .Mod (.var 3) (.con (.int 1000000007)))]) (.var 4))]
noncomputable def wy:EV.Row:=⟨"_law_number",top 45,["draws","at"],["draws","at","many","far","way"],⟨2,5,wM⟩⟩
noncomputable abbrev jZ:List C:=[.ite (.or (.cmp .Eq (.var 3) (.con (.int 0))) (.one (.cmp .Eq (.call 28 [(.var 0),(.var 1),(.con (.int 4))]) (.con (.int 0))))) [.ite (.and (.cmp .NotEq (.var 2) (.lst [])) (.one (.cmp .Eq (.call 28 [(.var 0),(.bin .Add (.var 1) (.con (.int 1))),(.con (.int 2))]) (.con (.int 0))))) [.ret (.tup [(.sub (.var 2) (.call 28 [(.var 0),(.bin .Add (.var 1) (.con (.int 2))),(.bi .len [(.var 2)])])),(.bin .Add (.var 1) (.con (.int 5)))])] [],.ret (.tup [(.call 29 [(.var 0),(.bin .Add (.var 1) (.con (.int 2)))]),(.bin .Add (.var 1) (.con (.int 5)))])] [],.set (.tup [4,5]) (.call 30 [(.var 0),(.bin .Add (.var 1) (.con (.int 2))),(.var 2),(.bin .Sub (.var 3) (.con (.int 1)))]),.set (.tup [6,5]) (.call 30 [(.var 0),(.var 5),(.var 2),(.bin .Sub (.var 3) (.con (.int 1)))]),.ret (.tup [(.tup [(.sub (.con (.str "+-*<=")) (.call 28 [(.var 0),(.bin .Add (.var 1) (.con (.int 1))),(.con (.int 5))])),(.var 4),(.var 6)]),(.var 5)])]
noncomputable def jD:EV.Row:=⟨"_law_sum",top 46,["draws","at","names","deep"],["draws","at","names","deep","one","then","other"],⟨4,7,jZ⟩⟩
noncomputable abbrev xM:List C:=[.ret (.call 30 [(.var 0),(.bin .Add (.var 1) (.con (.int 1))),(.var 2),(.sub (.lst [(.con (.int 0)),(.con (.int 1)),(.con (.int 1)),(.con (.int 3))]) (.call 28 [(.var 0),(.var 1),(.con (.int 4))]))])]
noncomputable def xG:EV.Row:=⟨"_law_any_sum",top 47,["draws","at","names"],["draws","at","names"],⟨3,3,xM⟩⟩
noncomputable abbrev wO:List C:=[.set (.one 4) (.sub (.bin .Add (.lst [(.con .non)]) (.var 2)) (.call 28 [(.var 0),(.var 1),(.bin .Add (.con (.int 1)) (.bi .len [(.var 2)]))])),.ite (.or (.cmp .Eq (.var 3) (.lst [])) (.one (.cmp .Eq (.call 28 [(.var 0),(.bin .Add (.var 1) (.con (.int 1))),(.con (.int 2))]) (.con (.int 0))))) [.set (.tup [5,6]) (.call 31 [(.var 0),(.bin .Add (.var 1) (.con (.int 3))),(.var 2)]),.ret (.tup [(.tup [(.var 4),(.con (.str "ask")),(.sub (.lst [(.con (.str "bank")),(.con (.str "b")),(.con (.str "ask")),(.con (.str "skyskysk"))]) (.call 28 [(.var 0),(.bin .Add (.var 1) (.con (.int 2))),(.con (.int 4))])),(.var 5)]),(.var 6)])] [],.set (.one 7) (.sub (.var 3) (.call 28 [(.var 0),(.bin .Add (.var 1) (.con (.int 2))),(.bi .len [(.var 3)])])),.set (.one 6) (.bin .Add (.var 1) (.con (.int 3))),.set (.one 8) (.lst []),.forr (.one 9) (.rng none (.sub (.var 7) (.con (.int 1)))) [.set (.tup [5,6]) (.call 31 [(.var 0),(.var 6),(.var 2)]),.app 8 (.var 5)],.ret (.tup [(.tup [(.var 4),(.con (.str "call")),(.sub (.var 7) (.con (.int 0))),(.bi .tuple [(.var 8)])]),(.var 6)])]
noncomputable def wA:EV.Row:=⟨"_law_branch",top 48,["draws","at","names","heads"],["draws","at","names","heads","name","one","then","head","given","k"],⟨4,10,wO⟩⟩
noncomputable abbrev jj:List C:=[.set (.one 4) (.lst []),.set (.one 5) (.bin .Add (.var 1) (.con (.int 2))),.forr (.one 6) (.rng none (.bin .Add (.con (.int 1)) (.call 28 [(.var 0),(.var 1),(.con (.int 4))]))) [.set (.tup [7,5]) (.call 32 [(.var 0),(.var 5),(.var 2),(.var 3)]),.app 4 (.var 7)],.ret (.tup [(.tup [(.con (.str "want")),(.bin .Add (.con (.int 1)) (.call 28 [(.var 0),(.bin .Add (.var 1) (.con (.int 1))),(.bi .len [(.var 4)])])),(.bi .tuple [(.var 4)])]),(.var 5)])]
noncomputable def uE:EV.Row:=⟨"_law_want",top 49,["draws","at","names","heads"],["draws","at","names","heads","branches","then","k","branch"],⟨4,8,jj⟩⟩
noncomputable abbrev j0:List C:=[.set (.one 7) (.call 28 [(.var 0),(.var 1),(.con (.int 10))]),.ite (.cmp .Gt (.var 7) (.con (.int 7))) [.set (.tup [8,9]) (.call 33 [(.var 0),(.bin .Add (.var 1) (.con (.int 2))),(.var 5),(.var 6)]),.ret (.tup [(.var 8),(.var 9),(.var 3)])] [],.set (.one 10) (.sub (.var 5) (.call 28 [(.var 0),(.bin .Add (.var 1) (.con (.int 1))),(.bi .len [(.var 5)])])),.set (.tup [11,9]) (.call 31 [(.var 0),(.bin .Add (.var 1) (.con (.int 2))),(.var 5)]),.ite (.cmp .Eq (.var 7) (.con (.int 0))) [.ret (.tup [(.tup [(.con (.str "set")),(.var 10),(.var 11)]),(.var 9),(.var 3)])] [],.ite (.cmp .Lt (.var 7) (.con (.int 4))) [.ret (.tup [(.tup [(.sub (.lst [(.con (.str "tell")),(.sub (.lst [(.con (.str "give")),(.con (.str "tell"))]) (.bi .int [(.var 4)])),(.con (.str "fail"))]) (.bin .Sub (.var 7) (.con (.int 1)))),(.var 11)]),(.var 9),(.var 3)])] [],.set (.tup [12,9,3]) (.call 35 [(.var 0),(.var 9),(.bin .Add (.var 2) (.con (.int 1))),(.var 3),(.var 4),(.var 5),(.var 6)]),.ite (.cmp .Eq (.var 7) (.con (.int 4))) [.ret (.tup [(.tup [(.con (.str "while")),(.var 11),(.var 12)]),(.var 9),(.var 3)])] [],.set (.tup [13,9,3]) (.call 35 [(.var 0),(.var 9),(.bin .Add (.var 2) (.con (.int 1))),(.var 3),(.or (.var 4) (.one (.cmp .Eq (.var 7) (.con (.int 7))))),(.var 5),(.var 6)]),.ite (.cmp .Eq (.var 7) (.con (.int 5))) [.ret (.tup [(.tup [(.con (.str "if")),(.var 11),(.var 12),(.var 13)]),(.var 9),(.var 3)])] [],.ite (.cmp .Eq (.var 7) (.con (.int 6))) [.ret (.tup [(.tup [(.con (.str "try")),(.var 12),(.sub (.lst [(.var 10),(.con .non)]) (.bin .FloorDiv (.call 28 [(.var 0),(.var 1),(.con (.int 20))]) (.con (.int 10)))),(.var 13)]),(.var 9),(.var 3)])] [],.ret (.tup [(.tup [(.con (.str "do")),(.var 12),(.var 13)]),(.var 9),(.var 3)])]
noncomputable def jE:EV.Row:=⟨"_law_row",top 50,["draws","at","deep","left","undoing","names","heads"],["draws","at","deep","left","undoing","names","heads","way","row","then","name","one","block","other"],⟨7,14,j0⟩⟩
noncomputable abbrev vW:List C:=[.set (.one 7) (.lst []),.set (.one 8) (.sub (.lst [(.con (.int 0)),(.con (.int 1)),(.con (.int 2)),(.con (.int 3)),(.con (.int 8))]) (.call 28 [(.var 0),(.var 1),(.con (.int 5))])),.set (.one 9) (.bin .Add (.var 1) (.con (.int 1))),.forr (.one 10) (.rng none (.var 8)) [.ite (.and (.cmp .Gt (.var 3) (.con (.int 0))) (.one (.cmp .Lt (.var 2) (.con (.int 5))))) [.set (.tup [11,9,3]) (.call 34 [(.var 0),(.var 9),(.var 2),(.bin .Sub (.var 3) (.con (.int 1))),(.var 4),(.var 5),(.var 6)]),.app 7 (.var 11)] []],.ret (.tup [(.bi .tuple [(.var 7)]),(.var 9),(.var 3)])]
noncomputable def vL:EV.Row:=⟨"_law_block",top 51,["draws","at","deep","left","undoing","names","heads"],["draws","at","deep","left","undoing","names","heads","rows","many","then","k","row"],⟨7,12,vW⟩⟩
noncomputable abbrev wN:List C:=[.set (.tup [7,8,9]) (.call 35 [(.var 0),(.var 1),(.con (.int 1)),(.var 6),(.con (.bl false)),(.var 4),(.var 5)]),.ret (.tup [(.tup [(.var 2),(.bi .tuple [(.var 3)]),(.var 7)]),(.var 8)])]
noncomputable def wz:EV.Row:=⟨"_law_errand",top 52,["draws","at","name","params","names","heads","most"],["draws","at","name","params","names","heads","most","block","then","left"],⟨7,10,wN⟩⟩
noncomputable abbrev vV:List C:=[.set (.one 2) (.sub (.lst [(.lst [(.con (.str "main")),(.con (.str "a")),(.con (.str "ab"))]),(.lst [(.con (.str "end")),(.con (.str "main")),(.con (.str "mainpart"))]),(.lst [(.con (.str "z")),(.con (.str "yy")),(.con (.str "errand"))])]) (.call 28 [(.var 0),(.var 1),(.con (.int 3))])),.ret (.comp (.tup [0,1]) [0,1] (.enum (.slc (.var 2) none (some (.bin .Add (.con (.int 1)) (.call 28 [(.var 0),(.bin .Add (.var 1) (.con (.int 1))),(.con (.int 3))]))))) [] (.tup [(.var 1),(.call 28 [(.var 2),(.bin .Add (.bin .Add (.var 3) (.con (.int 2))) (.var 0)),(.con (.int 4))])]))]
noncomputable def vJ:EV.Row:=⟨"_law_heads",top 53,["draws","at"],["draws","at","names"],⟨2,3,vV⟩⟩
noncomputable abbrev xK:List C:=[.set (.one 3) (.call 37 [(.var 0),(.con (.int 0))]),.set (.one 4) (.lst [(.con (.str "x")),(.con (.str "xy")),(.con (.str "set")),(.con (.str "abcdefgh")),(.con (.str "end")),(.con (.str "q"))]),.set (.one 5) (.call 28 [(.var 0),(.con (.int 5)),(.con (.int 6))]),.set (.one 6) (.slc (.bin .Add (.slc (.var 4) (some (.var 5)) none) (.slc (.var 4) none (some (.var 5)))) none (some (.var 2))),.set (.one 7) (.con (.int 6)),.set (.one 8) (.lst []),.frz 3,.forr (.tup [9,10]) (.seq (.var 3)) [.frz 3,.frz 6,.set (.tup [11,7]) (.call 36 [(.var 0),(.var 7),(.var 9),(.slc (.var 6) none (some (.var 10))),(.var 6),(.var 3),(.var 1)]),.app 8 (.var 11)],.ret (.bi .tuple [(.var 8)])]
noncomputable def xF:EV.Row:=⟨"_law_program",top 54,["draws","most","many"],["draws","most","many","heads","menu","turn","names","then","errands","name","count","errand"],⟨3,12,xK⟩⟩
noncomputable abbrev vU:List C:=[.set (.one 4) (.lst []),.forr (.one 5) (.rng none (.var 3)) [.set (.one 6) (.tup [(.con (.str "+")),(.con (.int 1)),(.tup [(.con (.str "*")),(.sub (.var 2) (.bin .Mod (.var 5) (.bi .len [(.var 2)]))),(.tup [(.con (.str "<")),(.con (.int 2)),(.call 29 [(.var 0),(.bin .Add (.var 1) (.bin .Mult (.con (.int 3)) (.var 5)))])])])]),.app 4 (.sub (.lst [(.tup [(.con (.str "tell")),(.var 6)]),(.tup [(.con (.str "set")),(.sub (.var 2) (.bin .Mod (.bin .Add (.var 5) (.con (.int 1))) (.bi .len [(.var 2)]))),(.var 6)]),(.tup [(.con (.str "fail")),(.var 5)]),(.tup [(.con (.str "give")),(.var 6)])]) (.bin .Mod (.var 5) (.con (.int 4))))],.ret (.bi .tuple [(.var 4)])]
noncomputable def vI:EV.Row:=⟨"_law_plain",top 55,["draws","at","names","many"],["draws","at","names","many","rows","k","deep"],⟨4,7,vU⟩⟩
noncomputable abbrev xj:List C:=[.set (.one 3) (.lst [(.con (.str "x")),(.con (.str "xy")),(.con (.str "set")),(.con (.str "abcdefgh")),(.con (.str "end")),(.con (.str "q"))]),.set (.one 4) (.lst [(.tup [(.sub (.var 3) (.con (.int 0))),(.con (.str "ask")),(.con (.str "skyskysk")),(.tup [(.con (.str "=")),(.con (.int 1)),(.tup [(.con (.str "-")),(.con (.str "q")),(.tup [(.con (.str "+")),(.con (.int 0)),(.con (.int 1000000006))])])])]),(.tup [(.con .non),(.con (.str "ask")),(.con (.str "b")),(.con (.int 0))])]),.forr (.one 5) (.seq (.bin .Add (.lst [(.tup [(.var 1),(.con (.int 3))])]) (.slc (.var 2) none (some (.con (.int 1)))))) [.app 4 (.tup [(.sub (.var 3) (.con (.int 1))),(.con (.str "call")),(.sub (.var 5) (.con (.int 0))),(.bi .tuple [(.comp (.one 0) [] (.rng none (.sub (.var 5) (.con (.int 1)))) [] (.con (.str "end")))])])],.set (.one 6) (.tup [(.con (.str "try")),(.tup [(.tup [(.con (.str "do")),(.tup [(.tup [(.con (.str "while")),(.con (.int 0)),(.tup [(.tup [(.con (.str "set")),(.con (.str "x")),(.con (.int 1))])])])]),(.tup [])])]),(.con (.str "abcdefgh")),(.tup [])]),.frz 3,.set (.one 7) (.tup [(.con (.str "if")),(.con (.int 1)),(.call 39 [(.var 0),(.con (.int 0)),(.var 3),(.con (.int 8))]),(.call 39 [(.var 0),(.con (.int 9)),(.var 3),(.con (.int 5))])]),.frz 3,.set (.one 8) (.bin .Add (.tup [(.var 6),(.var 7),(.tup [(.con (.str "want")),(.bi .len [(.var 4)]),(.bi .tuple [(.var 4)])])]) (.call 39 [(.var 0),(.con (.int 20)),(.var 3),(.con (.int 5))])),.ret (.tup [(.var 1),(.tup [(.con (.str "xy")),(.con (.str "end")),(.con (.str "x"))]),(.var 8)])]
noncomputable def yU:EV.Row:=⟨"_law_greatest",top 56,["draws","name","heads"],["draws","name","heads","names","branches","head","deepest","first","rows"],⟨3,9,xj⟩⟩
noncomputable abbrev b_law:List C:=[.forr (.one 1) (.seq (.bin .Add (.lst [(.bi .len [(.var 0)])]) (.slc (.var 0) none (some (.con (.int 9)))))) [.set (.one 2) (.call 27 [(.var 1),(.con (.int 500))]),.frz 2,.set (.one 3) (.call 38 [(.var 2),(.con (.int 24)),(.con (.int 6))]),.frz 2,.set (.one 4) (.call 40 [(.var 2),(.con (.str "greatest")),(.comp (.one 0) [] (.seq (.var 3)) [] (.tup [(.sub (.var 0) (.con (.int 0))),(.bi .len [(.sub (.var 0) (.con (.int 1)))])]))]),.frz 2,.set (.one 5) (.comp (.one 0) [] (.rng none (.call 28 [(.var 2),(.con (.int 7)),(.con (.int 3))])) [] (.tup [(.bin .Add (.con (.str "e")) (.sub (.con (.str "abc")) (.var 0))),(.tup []),(.tup [])])),.ite (.or (.cmp .IsNot (.callk 10 [0] [(.var 3)]) (.con (.bl true))) (.one (.cmp .IsNot (.call 10 [(.bin .Add (.var 3) (.tup [(.var 4)]))]) (.con (.bl true))))) [.ret (.con (.bl false))] [],.ite (.or (.cmp .IsNot (.call 10 [(.bin .Add (.bin .Add (.tup [(.var 4)]) (.var 3)) (.bi .tuple [(.var 5)]))]) (.con (.bl true))) (.one (.cmp .IsNot (.call 10 [(.tup [(.tup [(.con (.str "e")),(.tup []),(.tup [])])])]) (.con (.bl true))))) [.ret (.con (.bl false))] [],.forr (.one 6) (.seq (.lst [(.bi .list [(.var 3)]),(.sub (.var 3) (.con (.int 0))),(.lst [(.var 3)]),(.tup [(.var 3)]),(.con .non),(.con (.int 0)),(.con (.int 1)),(.con (.bl true)),(.con (.str "")),(.con (.str "errand")),(.tup []),(.lst []),(.dic false [] [])])) [.ite (.cmp .IsNot (.call 10 [(.var 6)]) (.con (.bl false))) [.ret (.con (.bl false))] []]],.ret (.con (.bl true))]
noncomputable def r_law:EV.Row:=⟨"law",top 57,["script"],["script","cell","draws","program","greatest","empty","bad"],⟨1,7,b_law⟩⟩
noncomputable def rs:List EV.Row:=[jC,uB,Zk,vH,ye,Zi,yu,wu,uz,yx,vG,Zm,uA,Zn,wj,yw,yR,Wd,Zj,uC,Uz,uD,Zh,jB,uw,ww,yS,vK,uF,wy,jD,xG,wA,uE,jE,vL,wz,vJ,xF,vI,yU,r_law]
noncomputable def B:Tb:=⟨[("is_whole":Str),("is_number":Str),("is_sign":Str),("is_formula":Str),("is_formula_within":Str),("is_word":Str),("is_word_or_none":Str),("is_tuple_of":Str),("is_worded":Str),("is_name_formula":Str),("is_program":Str),("is_head":Str),("is_params":Str),("is_body":Str),("shaped_rows":Str),("is_shaped_block":Str),("is_shaped_row":Str),("is_row":Str),("is_want":Str),("is_branch":Str),("gives":Str),("blocks_of":Str),("rows_of":Str),("names_of":Str),("set_names":Str),("formulas_of":Str),("formula_names":Str),("_law_draws":Str),("_law_draw":Str),("_law_number":Str),("_law_sum":Str),("_law_any_sum":Str),("_law_branch":Str),("_law_want":Str),("_law_row":Str),("_law_block":Str),("_law_errand":Str),("_law_heads":Str),("_law_program":Str),("_law_plain":Str),("_law_greatest":Str),("law":Str)],[(["one"]:List Str),(["one"]:List Str),(["one"]:List Str),(["one","is_name"]:List Str),(["one","is_name","deeper"]:List Str),(["one"]:List Str),(["one"]:List Str),(["one","least","most"]:List Str),(["one"]:List Str),(["one"]:List Str),(["value"]:List Str),(["errand"]:List Str),(["params"]:List Str),(["errand","counts"]:List Str),(["block"]:List Str),(["block","deep"]:List Str),(["row"]:List Str),(["row","counts"]:List Str),(["least","branches","counts","is_target","is_one"]:List Str),(["branch","counts","is_target","is_one"]:List Str),(["block"]:List Str),(["row"]:List Str),(["block"]:List Str),(["errand"]:List Str),(["row"]:List Str),(["row"]:List Str),(["one"]:List Str),(["cell","many"]:List Str),(["draws","at","many"]:List Str),(["draws","at"]:List Str),(["draws","at","names","deep"]:List Str),(["draws","at","names"]:List Str),(["draws","at","names","heads"]:List Str),(["draws","at","names","heads"]:List Str),(["draws","at","deep","left","undoing","names","heads"]:List Str),(["draws","at","deep","left","undoing","names","heads"]:List Str),(["draws","at","name","params","names","heads","most"]:List Str),(["draws","at"]:List Str),(["draws","most","many"]:List Str),(["draws","at","names","many"]:List Str),(["draws","name","heads"]:List Str),(["script"]:List Str)],[("MODULUS",(.int 1000000007)),("SIGNS",(.ktp [(.str "+"),(.str "-"),(.str "*"),(.str "<"),(.str "=")])),("DEEPEST_TRIPLE",(.int 3)),("LETTERS",(.str "abcdefghijklmnopqrstuvwxyz")),("LONGEST_WORD",(.int 8)),("MOST_ERRANDS",(.int 6)),("MOST_PARAMS",(.int 3)),("MOST_ROWS_OF_BLOCK",(.int 8)),("MOST_ROWS_OF_ERRAND",(.int 24)),("MOST_NAMES",(.int 6)),("DEEPEST_ROW",(.int 4)),("MOST_BRANCHES",(.int 4)),("PARTS",(.kdc [(("set":Str),(3:Int)),(("tell":Str),(2:Int)),(("give":Str),(2:Int)),(("fail":Str),(2:Int)),(("if":Str),(4:Int)),(("while":Str),(3:Int)),(("try":Str),(4:Int)),(("do":Str),(3:Int)),(("want":Str),(3:Int))])),("is_word",(.fn 5)),("is_word_or_none",(.fn 6)),("is_name_formula",(.fn 9))],["abs","all","any","bool","enumerate","int","isinstance","len","list","range","set","sorted","str","tuple"],[(10,["value"],[0])]⟩
noncomputable def yK:PySem.Program:={ ϱ with main:={ ϱ.main with body:=(((ϱ.main.body).eraseIdx 42).eraseIdx 9).eraseIdx 0 } }
set_option maxRecDepth 100000 in
set_option maxHeartbeats 0 in
theorem YX (w:dD):(W.openEnds iQ Χ.prog (dq w "special-get-raises" false) 4000).map (fun s=>W.openSeen yK [("PARTS":Str)] (m9 Χ.prog.main.body) (fun s=>W.xlAt yK [] s&&W.recOk [] s) true s)=some (W.openGood yK [("PARTS":Str)]):=by kernel_rfl
set_option maxRecDepth 100000 in
set_option maxHeartbeats 0 in
theorem YW (w:dD):(W.openEnds iQ Χ.prog (dq w "special-get-raises" false) 4000).map (fun s=>EV.seenT (EV.frOf s.heap 400) B rs)=some (EV.wantT B rs):=by kernel_rfl
set_option maxRecDepth 100000 in
set_option maxHeartbeats 0 in
theorem Vr (w:dD):(W.openEnds iQ Χ.prog (dq w "special-get-raises" true) 4000).map (fun s=>W.openSeen yK [("PARTS":Str)] (m9 Χ.prog.main.body) (fun s=>W.xlAt yK [] s&&W.recOk [] s) true s)=some (W.openGood yK [("PARTS":Str)]):=by kernel_rfl
set_option maxRecDepth 100000 in
set_option maxHeartbeats 0 in
theorem Vq (w:dD):(W.openEnds iQ Χ.prog (dq w "special-get-raises" true) 4000).map (fun s=>EV.seenT (EV.frOf s.heap 400) B rs)=some (EV.wantT B rs):=by kernel_rfl
end Q04
namespace L2
open PySem PySem.Spec PyProof.Rows
noncomputable def keyIs:Key->δ->Bool
 | .inl k,v=>δ.isInt k v
 | .inr x,v=>dZ x v
noncomputable def keyH (w:ϝ):Key->Int
 | .inl k=>hashInt k
 | .inr x=>hashStr w x
theorem zH:∀ {k:Key}{v:δ},keyIs k v=true->(∃ i t,k=ig i/\v=ϙ i t)\/(∃ x t,k=cN x/\v=aQ x t)
 | .inl i,v,h=>by
  obtain ⟨t,e⟩:=δ.isInt_shape (k:=i) (v:=v) h
  exact .inl ⟨i,t,rfl,e⟩
 | .inr x,v,h=>by
  obtain ⟨t,e⟩:=δ.isStrOf_shape (x:=x) (v:=v) h
  exact .inr ⟨x,t,rfl,e⟩
theorem Jy (i:Int) (t:Tok):keyIs (.inl i) (.int i t)=true:=by simp [keyIs,δ.isInt]
theorem Jx (x:Str) (t:Tok):keyIs (.inr x) (.str x t)=true:=by simp [keyIs,dZ]
theorem zex (a b:Int):decide ((ig a:Key)=ig b)=(a==b):=by
 by_cases e:a=b
 ·subst e;simp
 ·have h:¬ (ig a:Key)=ig b:=fun q=>e (ig.inj q)
  rw [decide_eq_false h]
  exact (beq_eq_false_iff_ne.mpr e).symm
theorem zet (a b:Str):decide ((cN a:Key)=cN b)=decide (a=b):=by
 by_cases e:a=b
 ·subst e;simp
 ·have h:¬ (cN a:Key)=cN b:=fun q=>e (iU q)
  rw [decide_eq_false h,decide_eq_false e]
theorem zew (a:Int) (b:Str):decide ((ig a:Key)=cN b)=false:=decide_eq_false (fun q=>nomatch q)
theorem zeu (a:Str) (b:Int):decide ((cN a:Key)=ig b)=false:=decide_eq_false (fun q=>nomatch q)
noncomputable def zK (prog:Τ) (w:ϝ):PySem.KeyKind prog w Key where
 is:=keyIs
 hash:=keyH w
 inj:=fun v a b ha hb=>by
  rcases zH ha with ⟨i,t,rfl,rfl⟩ | ⟨x,t,rfl,rfl⟩
  ·rcases zH hb with ⟨j,u,rfl,e⟩ | ⟨y,u,rfl,e⟩
   ·injection e with e1 _;rw [e1]
   ·exact nomatch e
  ·rcases zH hb with ⟨j,u,rfl,e⟩ | ⟨y,u,rfl,e⟩
   ·exact nomatch e
   ·injection e with e1 _;rw [e1]
 byValue:=fun k v h=>by
  rcases zH h with ⟨i,t,rfl,rfl⟩ | ⟨x,t,rfl,rfl⟩ <;> rfl
 pyHash:=fun hv h=>by
  rcases zH hv with ⟨i,t,rfl,rfl⟩ | ⟨x,t,rfl,rfl⟩
  ·exact wpAny_pyHash_int h
  ·exact wpAny_pyHash_str h
 eqBool:=fun hu hv h=>by
  rcases zH hu with ⟨i,t,rfl,rfl⟩ | ⟨x,t,rfl,rfl⟩
  ·rcases zH hv with ⟨j,u,rfl,rfl⟩ | ⟨y,u,rfl,rfl⟩
   ·rw [zex] at h;exact wpAny_eqBool_int h
   ·rw [zew] at h;exact mR i t y u _ _ _ _ h
  ·rcases zH hv with ⟨j,u,rfl,rfl⟩ | ⟨y,u,rfl,rfl⟩
   ·rw [zeu] at h;exact mQ x t j u _ _ _ _ h
   ·rw [zet] at h;exact wpAny_eqBool_str h
 «strs»:=fun k x t v h=>by
  rcases zH h with ⟨i,u,rfl,e⟩ | ⟨y,u,rfl,e⟩
  ·exact nomatch e
  ·injection e with e1 _
   subst e1
   cases v <;> rfl
theorem YM (prog:Τ) (w:ϝ) (i:Int) (t:Tok):(zK prog w).is (.inl i) (.int i t)=true:=Jy i t
theorem YL (prog:Τ) (w:ϝ) (x:Str) (t:Tok):(zK prog w).is (.inr x) (.str x t)=true:=Jx x t
inductive V where
 | non | bl (b:Bool) | int (i:Int) | str (x:Str) | byt (b:Array UInt8) | flt (b:UInt64) | ref (a:Addr) | ty (n:String)
 deriving DecidableEq
def RelV:V->δ->Prop
 | .non,u=>u=Ο
 | .bl b,u=>u=ύ b
 | .int i,u=>∃ t,u=ϙ i t
 | .str x,u=>∃ t,u=aQ x t
 | .byt b,u=>∃ t,u=δ.bytes b t
 | .flt b,u=>∃ t,u=δ.float b t
 | .ref a,u=>u=Ε a
 | .ty n,u=>u=ϓ n
abbrev Vals:List V->List δ->Prop:=d8 RelV
theorem Vals.length {xs:List V}{us:List δ}(r:Vals xs us):xs.length=us.length:=lY r
theorem Vals.get:∀ {xs:List V}{us:List δ}{i:Nat}{x:V},Vals xs us->xs[i]?=some x->∃ u,us[i]?=some u/\RelV x u
 | _,_,_,_,.nil,e=>by simp at e
 | _,_,0,_,.cons r _,e=>by simp at e;subst e;exact ⟨_,rfl,r⟩
 | _,_,i+1,x,.cons _ t,e=>by
  obtain ⟨u,h1,h2⟩:=Vals.get (i:=i) (x:=x) t (by simpa using e)
  exact ⟨u,by simpa using h1,h2⟩
theorem Vals.set {x:V}{u:δ}(r:RelV x u):∀ {xs:List V}{us:List δ}(i:Nat),Vals xs us->Vals (xs.set i x) (us.set i u)
 | _,_,_,.nil=>.nil
 | _,_,0,.cons _ t=>.cons r t
 | _,_,i+1,.cons q t=>.cons q (Vals.set r i t)
theorem Vals.append:∀ {xs ys:List V}{us ws:List δ},Vals xs us->Vals ys ws->Vals (xs++ys) (us++ws)
 | _,_,_,_,.nil,s=>s
 | _,_,_,_,.cons r t,s=>.cons r (Vals.append t s)
theorem Vals.take:∀ {xs:List V}{us:List δ}(n:Nat),Vals xs us->Vals (xs.take n) (us.take n)
 | _,_,0,_=>.nil
 | _,_,_+1,.nil=>.nil
 | _,_,n+1,.cons r t=>.cons r (Vals.take n t)
theorem Vals.drop:∀ {xs:List V}{us:List δ}(n:Nat),Vals xs us->Vals (xs.drop n) (us.drop n)
 | _,_,0,r=>r
 | _,_,_+1,.nil=>.nil
 | _,_,n+1,.cons _ t=>Vals.drop n t
def RelO:Option V->Option δ->Prop
 | some v,some u=>RelV v u
 | none,none=>True
 | _,_=>False
def KV {κ:Type}:List (κ×V)->List (κ×δ)->Prop:=d8 fun (p:κ×V) (q:κ×δ)=>p.1=q.1/\RelV p.2 q.2
noncomputable def kV:Key->V
 | .inl i=>.int i
 | .inr x=>.str x
inductive HO where
 | lst (xs:List V)
 | tup (xs:List V)
 | dK (kvs:List (Key×V)) | dT (kvs:List (List Key×V))
 | set (S:Int->Bool) (n:Nat)
 | ins (C dx:Addr) (fs:List (Str×V))
 | own (x:Addr)
 | xd (fs:List (Str×V))
 | met (f x:Addr)
 | rng (lo hi:Int)
 | frz (o:Obj) (u:HO)
 | tbl (ps:Array δ)
 | ext (φ:Heap->Prop)
abbrev Hp:=Addr->Option HO
noncomputable def upd (H:Hp) (a:Addr) (o:HO):Hp:=fun b=>if b=a then some o else H b
theorem zj {H:Hp}{a:Addr}{o:HO}:upd H a o a=some o:=by unfold upd;rw [if_pos rfl]
theorem zf {H:Hp}{a b:Addr}{o:HO}(h:b≠a):upd H a o b=H b:=by unfold upd;rw [if_neg h]
theorem ne_of {H:Hp}{a b:Addr}{o u:HO}(h:H a=some o) (h':H b=some u) (d:o≠u):a≠b:=by
 intro e;subst e;rw [h] at h';exact d (ϛ h')
theorem zg {H:Hp}{a b:Addr}{o:HO}(h:H a=some o) (h':H b=none):a≠b:=by
 intro e;subst e;rw [h] at h';cases h'
section
variable (P:Τ) (w:ϝ)
def ObjOk (H:Hp) (h:Heap) (a:Addr):HO->Prop
 | .lst xs=>xs.length<=sizeLine/\∃ (its:List δ) (n:Nat),Vals xs its/\h.get? a=some { cls:=.type "list",data:=.seq its.toArray n }
 | .tup xs=>xs.length<=sizeLine/\∃ its:List δ,Vals xs its/\IsTup h a its.toArray
 | .dK kvs=>kvs.length<=sizeLine/\(a==dm)=false/\∃ vs,KV kvs vs/\h.DictOf (zK P w) a vs
 | .dT kvs=>kvs.length<=sizeLine/\(a==dm)=false/\∃ xs:List (List Key×Addr×δ),
   d8 (fun (p:List Key×V) (q:List Key×Addr×δ)=>p.1=q.1/\H q.2.1=some (.tup (p.1.map kV))/\RelV p.2 q.2.2) kvs xs /\
   ∃ o es ep,h.get? a=some o/\o.ExactDict/\o.data=.dict es ep/\es.toList=xs.map (entryOfKey (iM (zK P w)))/\(xs.map (·.1)).Nodup
 | .set S n=>h.SetOf (intKind P w) a S n
 | .ins C dx fs=>H dx=some (.own a)/\fs.length<=1000/\dx≠a/\h.get? a=some (W.instObj C dx) /\
   ∃ mA,h.Ns1 dx mA/\(∀ f,RelO (fs.lookup f) (mA f))/\PySem.Within mA (fs.map (·.1))
 | .own _=>∃ o,h.get? a=some o
 | .xd fs=>∃ mA,h.Ns1 a mA/\∀ f,RelO (fs.lookup f) (mA f)
 | .rng lo hi=>∃ t u v,h.get? a=some { cls:=.type "range",data:=.fields #[.int lo t,.int hi u,.int 1 v] }
 | .frz o u=>h.get? a=some o/\ObjOk H h a u
 | .tbl ps=>h.get? a=some { cls:=.none,data:=.fields ps }
 | .met f x=>h.get? a=some (W.methodObj (.ref f) (.ref x))
 | .ext φ=>φ h/\(∃ o,h.get? a=some o)/\∀ h1 h2:Heap,φ h1->(∀ o,h1.get? a=some o->h2.get? a=some o)->φ h2
def HOk (H:Hp) (h:Heap):Prop:=∀ a o,H a=some o->ObjOk P w H h a o
end
section
variable {P:Τ}{w:ϝ}{H H':Hp}{h h':Heap}{a:Addr}{o:HO}
theorem ObjOk.lt (x:ObjOk P w H h a o):a < h.objs.size:=by
 cases o with
 | lst xs=>obtain ⟨_,_,_,_,e⟩:=x;exact Β e
 | tup xs=>obtain ⟨_,_,_,p⟩:=x;exact p.lt
 | dK kvs=>obtain ⟨_,_,_,_,o,_,_,e,_⟩:=x;exact Β e
 | dT kvs=>obtain ⟨_,_,_,_,o,_,_,e,_⟩:=x;exact Β e
 | set S n=>obtain ⟨o,_,_,_,e,_⟩:=x;exact Β e
 | ins C dx fs=>obtain ⟨_,_,_,e,_⟩:=x;exact Β e
 | own y=>obtain ⟨_,e⟩:=x;exact Β e
 | xd fs=>obtain ⟨_,⟨_,_,_,e,_⟩,_⟩:=x;exact Β e
 | rng lo hi=>obtain ⟨_,_,_,e⟩:=x;exact Β e
 | frz ob u=>obtain ⟨e,_⟩:=x;exact Β e
 | tbl ps=>exact Β (show h.get? a=some _ from x)
 | met f y=>exact Β (show h.get? a=some _ from x)
 | ext φ=>obtain ⟨_,⟨_,e⟩,_⟩:=x;exact Β e
theorem d8.mapP {α β:Type}{F G:α->β->Prop}:∀ {l₁:List α}{l₂:List β},d8 F l₁ l₂->(∀ a b,F a b->G a b)->d8 G l₁ l₂
 | _,_,.nil,_=>.nil
 | _,_,.cons r t,f=>.cons (f _ _ r) (d8.mapP t f)
theorem ObjOk.stay (x:ObjOk P w H h a o) (k:∀ b u,(b=a\/H b=some (.own a))->h.get? b=some u->h'.get? b=some u)
  (ho:∀ b,H b=some (.own a)->H' b=some (.own a)) (ht:∀ b xs,H b=some (.tup xs)->H' b=some (.tup xs)):ObjOk P w H' h' a o:=by
 induction o with
 | lst xs=>obtain ⟨z,its,n,r,e⟩:=x;exact ⟨z,its,n,r,k _ _ (.inl rfl) e⟩
 | tup xs=>obtain ⟨z,its,r,ob,e,c⟩:=x;exact ⟨z,its,r,ob,k _ _ (.inl rfl) e,c⟩
 | dK kvs=>obtain ⟨z,y,vs,r,ob,es,ep,e,c⟩:=x;exact ⟨z,y,vs,r,ob,es,ep,k _ _ (.inl rfl) e,c⟩
 | dT kvs=>
  obtain ⟨z,y,xs,r,ob,es,ep,e,c⟩:=x
  exact ⟨z,y,xs,d8.mapP r fun p q z=>⟨z.1,ht _ _ z.2.1,z.2.2⟩,ob,es,ep,k _ _ (.inl rfl) e,c⟩
 | set S n=>obtain ⟨ob,es,ep,t,e,c⟩:=x;exact ⟨ob,es,ep,t,k _ _ (.inl rfl) e,c⟩
 | ins C dx fs=>
  obtain ⟨d,z,ne,e,mA,⟨od,es,ep,e2,c⟩,r⟩:=x
  exact ⟨ho _ d,z,ne,k _ _ (.inl rfl) e,mA,⟨od,es,ep,k _ _ (.inr d) e2,c⟩,r⟩
 | own y=>obtain ⟨ob,e⟩:=x;exact ⟨ob,k _ _ (.inl rfl) e⟩
 | xd fs=>obtain ⟨mA,⟨od,es,ep,e,c⟩,r⟩:=x;exact ⟨mA,⟨od,es,ep,k _ _ (.inl rfl) e,c⟩,r⟩
 | rng lo hi=>obtain ⟨t,u,v,e⟩:=x;exact ⟨t,u,v,k _ _ (.inl rfl) e⟩
 | frz ob u ih=>obtain ⟨e,q⟩:=x;exact ⟨k _ _ (.inl rfl) e,ih q⟩
 | tbl ps=>
  have e:h.get? a=some { cls:=.none,data:=.fields ps }:=x
  show h'.get? a=some { cls:=.none,data:=.fields ps }
  exact k a _ (.inl rfl) e
 | met f y=>
  have e:h.get? a=some (W.methodObj (.ref f) (.ref y)):=x
  show h'.get? a=some (W.methodObj (.ref f) (.ref y))
  exact k a _ (.inl rfl) e
 | ext φ=>obtain ⟨p,⟨o,e⟩,st⟩:=x;exact ⟨st _ _ p fun o q=>k _ _ (.inl rfl) q,⟨o,k _ _ (.inl rfl) e⟩,st⟩
theorem HOk.lt (x:HOk P w H h) (e:H a=some o):a < h.objs.size:=(x a o e).lt
theorem HOk.fresh (x:HOk P w H h) (e:h.objs.size<=a):H a=none:=by
 cases q:H a with
 | none=>rfl
 | some u=>exact absurd (ϐ (x.lt q) e) (cA _)
theorem HOk.kept (x:HOk P w H h) (k:∀ b u,h.get? b=some u->h'.get? b=some u):HOk P w H h':=fun a o e=>
 (x a o e).stay (fun b u _ q=>k b u q) (fun _ q=>q) fun _ _ q=>q
theorem HOk.laid (x:HOk P w H h) (k:∀ b u,h.get? b=some u->h'.get? b=some u) (hp:h.objs.size<=a) (new:ObjOk P w (upd H a o) h' a o):HOk P w (upd H a o) h':=fun b u e=>by
 have hn:=x.fresh hp
 by_cases hb:b=a
 ·subst hb;rw [zj] at e;cases e;exact new
 ·rw [zf hb] at e
  exact (x b u e).stay (fun c v _ q=>k c v q) (fun c q=>by rw [zf (zg q hn)];exact q) fun c xs q=>by rw [zf (zg q hn)];exact q
end
def Rd (H:Hp) (a:Addr) (u:HO):Prop:=H a=some u\/∃ o,H a=some (.frz o u)
theorem Rd.ok {P:Τ}{w:ϝ}{H:Hp}{h:Heap}{a:Addr}{u:HO}(r:Rd H a u) (x:HOk P w H h):ObjOk P w H h a u:=by
 rcases r with r | ⟨o,r⟩
 ·exact x a u r
 ·obtain ⟨_,q⟩:=x a _ r
  exact q
def Mut:Option HO->Prop
 | some (.lst _)=>True
 | some (.dK _)=>True
 | some (.dT _)=>True
 | some (.set _ _)=>True
 | some (.ins _ _ _)=>True
 | some (.ext _)=>True
 | _=>False
section
variable {P:Τ}{w:ϝ}{H:Hp}{h h':Heap}{x e:Addr}{o':HO}
theorem HOk.write (ok:HOk P w H h) (mu:Mut (H x)) (he:e=x\/H e=some (.own x)) (k:∀ b u,b≠e->h.get? b=some u->h'.get? b=some u) (heo:∃ u,h'.get? e=some u)
  (new:ObjOk P w (upd H x o') h' x o'):HOk P w (upd H x o') h':=fun b u q=>by
 have nown:∀ c y,H c=some (.own y)->c≠x:=fun c y r z=>by subst z;rw [r] at mu;exact mu
 have ntup:∀ c xs,H c=some (.tup xs)->c≠x:=fun c xs r z=>by subst z;rw [r] at mu;exact mu
 by_cases hb:b=x
 ·subst hb;rw [zj] at q;cases q;exact new
 ·rw [zf hb] at q
  by_cases hbe:b=e
  ·have q':H b=some (.own x):=by
    rcases he with z | z
    ·exact absurd (hbe.trans z) hb
    ·rw [hbe];exact z
   rw [q] at q';cases q'
   obtain ⟨v,hv⟩:=heo
   exact ⟨v,by rw [hbe];exact hv⟩
  ·refine (ok b u q).stay (fun c v hc r=>k c v ?_ r) (fun c r=>by rw [zf (nown c b r)];exact r) fun c xs r=>by rw [zf (ntup c xs r)];exact r
   rcases hc with rfl | hc
   ·exact hbe
   ·rintro rfl
    rcases he with z | z
    ·exact nown c b hc z
    ·rw [hc] at z;cases z;exact hb rfl
end
structure Un (fs ex:List Addr) (H H':Hp) (h h':Heap):Prop where
 keep:∀ b o,h.get? b=some o->H b=none->b ∉ fs->b ∉ ex->h'.get? b=some o
 slot:∀ b o,h.get? b=some o->H b=none->b∈fs->b ∉ ex->∃ sl,h'.get? b=some { o with slots:=sl }
 free:∀ b o,h.get? b=some o->H b=none->b ∉ ex->H' b=none
 there:∀ b o,h.get? b=some o->b ∉ ex->∃ o',h'.get? b=some o'
 tups:∀ b xs,H b=some (.tup xs)->H' b=some (.tup xs)
 frzs:∀ b o u,H b=some (.frz o u)->H' b=some (.frz o u)
 tbls:∀ b ps,H b=some (.tbl ps)->∃ more,H' b=some (.tbl (ps++more))
section
variable {fs fs' ex ex':List Addr}{H H1 H2:Hp}{h h1 h2 h':Heap}{a x e:Addr}{o:HO}
theorem Un.any (u:Un fs ex H H1 h h1) {b:Addr}{ob:Obj}(q:h.get? b=some ob) (n:H b=none) (hx:b ∉ ex):∃ sl,h1.get? b=some { ob with slots:=sl }:=by
 by_cases hb:b∈fs
 ·exact u.slot b ob q n hb hx
 ·exact ⟨ob.slots,u.keep b ob q n hb hx⟩
theorem Un.trans (a:Un fs ex H H1 h h1) (b:Un fs ex H1 H2 h1 h2):Un fs ex H H2 h h2 where
 keep:=fun c ob q n hc hx=>b.keep c ob (a.keep c ob q n hc hx) (a.free c ob q n hx) hc hx
 slot:=fun c ob q n hc hx=>by
  obtain ⟨sl,e1⟩:=a.slot c ob q n hc hx
  obtain ⟨sl',e2⟩:=b.slot c _ e1 (a.free c ob q n hx) hc hx
  exact ⟨sl',e2⟩
 free:=fun c ob q n hx=>by
  obtain ⟨o',e1⟩:=a.there c ob q hx
  exact b.free c o' e1 (a.free c ob q n hx) hx
 there:=fun c ob q hx=>by
  obtain ⟨o',e1⟩:=a.there c ob q hx
  exact b.there c o' e1 hx
 tups:=fun c xs q=>b.tups c xs (a.tups c xs q)
 frzs:=fun c ob xs q=>b.frzs c ob xs (a.frzs c ob xs q)
 tbls:=fun c ps q=>by
  obtain ⟨m1,e1⟩:=a.tbls c ps q
  obtain ⟨m2,e2⟩:=b.tbls c _ e1
  exact ⟨m1++m2,by rw [e2,oA]⟩
theorem Un.kept (k:∀ b u,h.get? b=some u->h'.get? b=some u):Un fs ex H H h h':=
 ⟨fun b ob q _ _ _=>k b ob q,fun b ob q _ _ _=>⟨ob.slots,k b ob q⟩,fun _ _ _ n _=>n,fun b ob q _=>⟨ob,k b ob q⟩,fun _ _ q=>q,fun _ _ _ q=>q,fun _ ps q=>⟨#[],by rw [q];simp⟩⟩
theorem Un.refl:Un fs ex H H h h:=Un.kept fun _ _ q=>q
theorem Un.laid (k:∀ b u,h.get? b=some u->h'.get? b=some u) (hp:h.objs.size<=a) (hn:H a=none):Un fs ex H (upd H a o) h h' where
 keep:=fun b u q _ _ _=>k b u q
 slot:=fun b u q _ _ _=>⟨u.slots,k b u q⟩
 free:=fun b u q n _=>by rw [zf (ϊ (ϐ (Β q) hp))];exact n
 there:=fun b u q _=>⟨u,k b u q⟩
 tups:=fun b xs q=>by rw [zf (zg q hn)];exact q
 frzs:=fun b u xs q=>by rw [zf (zg q hn)];exact q
 tbls:=fun b ps q=>⟨#[],by rw [zf (zg q hn),q];simp⟩
theorem Un.write (mu:Mut (H x)) (he:e=x\/H e=some (.own x)) (k:∀ b u,b≠e->h.get? b=some u->h'.get? b=some u) (heo:∃ u,h'.get? e=some u):Un fs ex H (upd H x o) h h':=by
 have hx:∀ b,H b=none->b≠x:=fun b n z=>by subst z;rw [n] at mu;exact mu
 have hb:∀ b,H b=none->b≠e:=fun b n z=>by
  subst z
  rcases he with r | r
  ·exact hx b n r
  ·rw [n] at r;cases r
 have hm:∀ b u,H b=some u->¬ Mut (some u)->b≠x:=fun b u q nm z=>by subst z;rw [q] at mu;exact nm mu
 refine ⟨fun b u q n _ _=>k b u (hb b n) q,fun b u q n _ _=>⟨u.slots,k b u (hb b n) q⟩,fun b u q n _=>by rw [zf (hx b n)];exact n,fun b u q _=>?_,
  fun b xs q=>by rw [zf (hm b _ q fun z=>z)];exact q,fun b u xs q=>by rw [zf (hm b _ q fun z=>z)];exact q,fun b ps q=>⟨#[],by rw [zf (hm b _ q fun z=>z),q];simp⟩⟩
 by_cases hbe:b=e
 ·subst hbe;exact heo
 ·exact ⟨u,k b u hbe q⟩
theorem Un.mono (u:Un fs ex H H1 h h1) (hs:∀ b∈fs,b∈fs') (hx:∀ b∈ex,b∈ex'):Un fs' ex' H H1 h h1:=
 ⟨fun b ob q n hb he=>u.keep b ob q n (fun z=>hb (hs b z)) fun z=>he (hx b z),fun _ _ q n _ he=>u.any q n fun z=>he (hx _ z),fun b ob q n he=>u.free b ob q n fun z=>he (hx b z),fun b ob q he=>u.there b ob q fun z=>he (hx b z),u.tups,u.frzs,u.tbls⟩
end
noncomputable def trk (h:Heap) (H:Hp):List Addr:=(ϩ h.objs.size).filter fun a=>(H a).isSome
noncomputable def hidT (h:Heap) (H:Hp):Heap:=W.hideAll h (trk h H)
theorem J0 (h:Heap) (H:Hp):(hidT h H).objs.size=h.objs.size:=W.hideAll_size _ _
theorem QT {h:Heap}{H:Hp}{b:Addr}{o:Obj}(e:h.get? b=some o) (n:H b=none):(hidT h H).get? b=some o:=
 W.hideAll_get _ e fun hm=>by
  have q:(H b).isSome=true:=(List.mem_filter.mp hm).2
  rw [n] at q;simp at q
theorem zb4 {h:Heap}{H:Hp}{b:Addr}{o:Obj}(e:(hidT h H).get? b=some o):h.get? b=some o/\H b=none:=by
 have e':h.get? b=some o:=W.of_hideAll (trk h H) e
 refine ⟨e',?_⟩
 cases q:H b with
 | none=>rfl
 | some x=>
  have hm:b∈trk h H:=List.mem_filter.mpr ⟨bB.mpr (Β e'),by simp [q]⟩
  have z:(hidT h H).get? b=none:=W.hideAll_none (trk h H) hm
  rw [z] at e;cases e
noncomputable def zcT (g h:Heap) (L:Addr):List (Addr×Obj):=(ϩ h.objs.size).filterMap fun a=>if a=L\/(g.get? a).isSome=true then none else (h.get? a).map fun o=>(a,o)
noncomputable def rest (g h:Heap) (L d:Addr):List (Addr×Obj):=(zcT g h L).filter fun p=>decide (p.1≠d)
structure Mod (K:W.Frag) (mg:Str->Option δ) (base:Heap):Prop where
 kin:K.In base
 glob:base.Ns ϔ mg
 blt:∃ mb,base.Ns builtinsNs mb/\∀ x:Str,x≠"__name__"->mb x=cI x
 nolimit:base.NoLimit
structure Cx where
 prog:Τ
 w:ϝ
 K:W.Frag
 mg:Str->Option δ
 base:Heap
 A:ϟ
 N:List Str
 sw:ν
 Hz:Hp
 env:Env
 outer:List Env
 stack:List Env
 ex:List Addr
 fn:Str->Bool
 calm:Bool
 pn:List (Addr×Obj)
 xe:δ->ν->Prop
noncomputable def frs (l:List Env):List Addr:=l.filterMap (·.frame)
noncomputable abbrev Cx.fs (X:Cx):List Addr:=frs X.outer
def Vis (sc:dI) (x:Str):Prop:=sc.names.lookup x=some .local\/sc.names.lookup x=some .cell\/sc.names.lookup x=some .free
def Loc (sc:dI) (x:Str):Prop:=sc.names.lookup x=some .local\/sc.names.lookup x=some .cell
def Look (env:Env) (h:Heap) (m:Str->Option δ) (x:Str) (u:δ):Prop:=
 (env.kindOf x=some .local/\m x=some u)\/((env.kindOf x=some .cell\/env.kindOf x=some .free)/\∃ c,env.cells.lookup x=some c/\h.IsCell c (some u))
structure Cx.Ok (X:Cx):Prop where
 mod:Mod X.K X.mg X.base
 kind:X.env.scope.kind=.function
 glob:X.env.globals=ϔ
 blt:X.env.builtins=builtinsNs
 above:X.sw.heap.objs.size<=X.env.locals
 inj:∀ x y c,X.env.cells.lookup x=some c->X.env.cells.lookup y=some c->x=y
 has:∀ x,(X.env.kindOf x=some .cell\/X.env.kindOf x=some .free)->∃ c,X.env.cells.lookup x=some c
 cab:∀ x c,X.fn x=true->X.env.cells.lookup x=some c->X.sw.heap.objs.size<=c
 hd:X.calm=true->X.A.handled=none
 frames:X.A.frames=some X.stack
 stk:X.stack=X.outer\/(X.stack=X.env::X.outer/\X.env.frame=some X.env.locals)
 exf:∀ b∈X.ex,b≠X.env.locals/\∀ x c,X.env.cells.lookup x=some c->c≠b
 bs:∀ b o,X.base.get? b=some o->X.sw.heap.get? b=some o/\X.Hz b=none
 bsz:X.base.objs.size<=X.sw.heap.objs.size
 noex:∀ b o,X.base.get? b=some o->b ∉ X.ex
 exfs:∀ b∈X.ex,b ∉ X.fs
 funs:X.sw.heap.FunFrames X.base X.outer
 frf:∀ b∈X.fs,X.Hz b=none
structure Inv (X:Cx) (pJ:List (Addr×Obj)) (σ:List (Option V)) (H:Hp) (s:ν):Prop where
 ok:X.Ok
 os:s.os=X.sw.os
 bare:gZ s.gens
 base:Un X.fs X.ex X.Hz H X.sw.heap s.heap
 loc:∃ m,s.heap.Ns X.env.locals m/\∀ (i:Nat) (x:Str) (v:V),X.N[i]?=some x->σ[i]?=some (some v)->Vis X.env.scope x->∃ u,RelV v u/\Look X.env s.heap m x u
 cell:∀ x c,X.env.cells.lookup x=some c->∃ v,s.heap.IsCell c v
 free:H X.env.locals=none
 freeC:∀ x c,X.env.cells.lookup x=some c->H c=none
 pin:∀ p∈X.pn++pJ,s.heap.get? p.1=some p.2/\H p.1=none/\p.1≠X.env.locals/\p.1 ∉ X.fs/\∀ v,p.2.data≠.cell v
 hok:HOk X.prog X.w H s.heap
 len:σ.length=X.N.length
section
variable {X:Cx}{pJ:List (Addr×Obj)}{σ:List (Option V)}{H H':Hp}{s:ν}{h':Heap}
theorem Cx.Ok.nofr (ok:X.Ok) {b:Addr}{o:Obj}(e:X.base.get? b=some o):b ∉ X.fs:=fun hb=>by
 have:=(ok.funs.mem hb).1
 rw [e] at this;cases this
theorem Inv.bs (I:Inv X pJ σ H s):∀ b o,X.base.get? b=some o->s.heap.get? b=some o/\H b=none:=fun b o e=>
 ⟨I.base.keep b o (I.ok.bs b o e).1 (I.ok.bs b o e).2 (I.ok.nofr e) (I.ok.noex b o e),I.base.free b o (I.ok.bs b o e).1 (I.ok.bs b o e).2 (I.ok.noex b o e)⟩
theorem Inv.bk (I:Inv X pJ σ H s):∀ b o,X.base.get? b=some o->s.heap.get? b=some o:=fun b o e=>(I.bs b o e).1
theorem Inv.mod (I:Inv X pJ σ H s):Mod X.K X.mg X.base:=I.ok.mod
theorem Inv.kIn (I:Inv X pJ σ H s):X.K.In s.heap:=I.ok.mod.kin.keeps I.bk
theorem Inv.fr (I:Inv X pJ σ H s):∃ m,Fr X.base X.env.locals s.heap m:=
 let ⟨m,hn,_⟩:=I.loc
 ⟨m,hn,I.bk,ϣ I.ok.bsz I.ok.above⟩
theorem Inv.lt (I:Inv X pJ σ H s):X.env.locals < s.heap.objs.size:=let ⟨_,hn,_⟩:=I.loc;hn.lt
theorem Inv.sz (I:Inv X pJ σ H s):X.sw.heap.objs.size<=s.heap.objs.size:=ϣ I.ok.above (gr I.lt)
theorem Inv.nofs (I:Inv X pJ σ H s) {a:Addr}(h:s.heap.objs.size<=a):a ∉ X.fs:=fun hb=>by
 obtain ⟨_,o,ho,_⟩:=I.ok.funs.mem hb
 exact absurd (ϐ (Β ho) (ϣ I.sz h)) (cA _)
theorem Inv.cne (I:Inv X pJ σ H s):∀ x c,X.env.cells.lookup x=some c->c≠X.env.locals:=fun x c e z=>by
 obtain ⟨v,o,ho,hd⟩:=I.cell x c e
 obtain ⟨m,⟨o',es,ep,ho',hd',_⟩,_⟩:=I.loc
 rw [z,ho'] at ho;cases ho;rw [hd'] at hd;cases hd
theorem Inv.funs (I:Inv X pJ σ H s):s.heap.FunFrames X.base X.outer:=by
 have all:∀ (l:List Env),(∀ b∈frs l,b∈X.fs)->X.sw.heap.FunFrames X.base l->s.heap.FunFrames X.base l:=by
  intro l
  induction l with
  | nil=>intro _ _;trivial
  | cons env r ih=>
   intro hs hl
   obtain ⟨hk,⟨L,o,hf,hn,ho,hd⟩,hr⟩:=hl
   have hL:L∈X.fs:=hs L (by unfold frs;rw [dh,hf];exact μ)
   obtain ⟨sl,e⟩:=I.base.slot L o ho (I.ok.frf L hL) hL fun z=>I.ok.exfs L z hL
   exact ⟨hk,⟨L,_,hf,hn,e,hd⟩,ih (fun b hb=>hs b (by unfold frs;rw [dh,hf];exact θ _ hb)) hr⟩
 exact all X.outer (fun _ hb=>hb) I.ok.funs
theorem Inv.stack (I:Inv X pJ σ H s):s.heap.FunFrames X.base X.stack:=by
 rcases I.ok.stk with e | ⟨e,hf⟩
 ·rw [e];exact I.funs
 ·rw [e]
  obtain ⟨m,hn,_⟩:=I.loc
  refine .cons (by rw [I.ok.kind];decide) hf hn ?_ I.funs
  exact Heap.get?_none_of_le (ϣ I.ok.bsz I.ok.above)
theorem Inv.XS (I:Inv X pJ σ H s):∀ b∈frs X.stack,b∈X.env.locals::X.fs:=fun b hb=>by
 rcases I.ok.stk with e | ⟨e,hf⟩
 ·rw [e] at hb;exact θ _ hb
 ·rw [e] at hb
  unfold frs at hb
  rw [dh,hf] at hb
  exact hb
theorem Inv.Ue (I:Inv X pJ σ H s):∀ b∈frs X.stack,H b=none:=fun b hb=>by
 rcases Η.mp (I.XS b hb) with e | hb
 ·rw [e];exact I.free
 ·obtain ⟨_,o,ho,_⟩:=I.ok.funs.mem hb
  exact I.base.free b o ho (I.ok.frf b hb) fun z=>I.ok.exfs b z hb
theorem Inv.step {g':Array GenState}{t':Nat}{d':Drawn}{ch:List Addr}(I:Inv X pJ σ H s)
  (hch:∀ b∈ch,(b∈X.ex\/X.sw.heap.objs.size<=b)/\b≠X.env.locals/\(∀ x c,X.env.cells.lookup x=some c->c≠b)/\∀ p∈X.pn++pJ,p.1≠b)
  (keep:∀ b o,b≠X.env.locals->b ∉ X.fs->b ∉ ch->s.heap.get? b=some o->H b=none->h'.get? b=some o)
  (slot:∀ b o,b≠X.env.locals->b∈X.fs->b ∉ ch->s.heap.get? b=some o->H b=none->∃ sl,h'.get? b=some { o with slots:=sl }) (free:∀ b o,b ∉ ch->s.heap.get? b=some o->H b=none->H' b=none)
  (there:∀ b o,b ∉ ch->s.heap.get? b=some o->∃ o',h'.get? b=some o')
  (tups:∀ b xs,H b=some (.tup xs)->H' b=some (.tup xs)) (frzs:∀ b o u,H b=some (.frz o u)->H' b=some (.frz o u)) (tbls:∀ b ps,H b=some (.tbl ps)->∃ more,H' b=some (.tbl (ps++more)))
  (ns:∀ m,s.heap.Ns X.env.locals m->h'.Ns X.env.locals m) (hok:HOk X.prog X.w H' h') (hg:gZ g'):
  Inv X pJ σ H' { s with heap:=h',gens:=g',drawn:=d',toks:=t' }:=by
 have neL:∀ b o,X.sw.heap.get? b=some o->b≠X.env.locals:=fun b o e=>ϊ (ϐ (Β e) I.ok.above)
 have neC:∀ b o,X.sw.heap.get? b=some o->b ∉ X.ex->b ∉ ch:=fun b o e hx hb=>by
  rcases (hch b hb).1 with z | z
  ·exact hx z
  ·exact absurd (ϐ (Β e) z) (cA _)
 have cellK:∀ x c,X.env.cells.lookup x=some c->∀ v,s.heap.IsCell c v->h'.IsCell c v:=fun x c e v ⟨o,ho,hd⟩=>by
  have nch:c ∉ ch:=fun z=>(hch c z).2.2.1 x c e rfl
  by_cases hc:c∈X.fs
  ·obtain ⟨sl,q⟩:=slot c o (I.cne x c e) hc nch ho (I.freeC x c e)
   exact ⟨_,q,hd⟩
  ·exact ⟨o,keep c o (I.cne x c e) hc nch ho (I.freeC x c e),hd⟩
 refine ⟨I.ok,I.os,hg,⟨fun b o e n hb hx=>?_,fun b o e n hb hx=>?_,fun b o e n hx=>?_,fun b o e hx=>?_,fun b xs e=>tups b xs (I.base.tups b xs e),fun b o xs e=>frzs b o xs (I.base.frzs b o xs e),fun b ps e=>?_⟩,?_,fun x c e=>?_,?_,fun x c e=>?_,fun p hp=>?_,hok,I.len⟩
 ·exact keep b o (neL b o e) hb (neC b o e hx) (I.base.keep b o e n hb hx) (I.base.free b o e n hx)
 ·obtain ⟨sl,e1⟩:=I.base.slot b o e n hb hx
  obtain ⟨sl',e2⟩:=slot b _ (neL b o e) hb (neC b o e hx) e1 (I.base.free b o e n hx)
  exact ⟨sl',e2⟩
 ·obtain ⟨o',e1⟩:=I.base.there b o e hx
  exact free b o' (neC b o e hx) e1 (I.base.free b o e n hx)
 ·obtain ⟨o',e1⟩:=I.base.there b o e hx
  exact there b o' (neC b o e hx) e1
 ·obtain ⟨m1,e1⟩:=I.base.tbls b ps e
  obtain ⟨m2,e2⟩:=tbls b _ e1
  exact ⟨m1++m2,by rw [e2,oA]⟩
 ·obtain ⟨m,hn,hl⟩:=I.loc
  refine ⟨m,ns m hn,fun i x v e1 e2 e3=>?_⟩
  obtain ⟨u,r,l⟩:=hl i x v e1 e2 e3
  refine ⟨u,r,?_⟩
  rcases l with l | ⟨k,c,e,z⟩
  ·exact .inl l
  ·exact .inr ⟨k,c,e,cellK x c e _ z⟩
 ·obtain ⟨v,z⟩:=I.cell x c e
  exact ⟨v,cellK x c e v z⟩
 ·obtain ⟨m,⟨o,_,_,ho,_⟩,_⟩:=I.loc
  exact free _ o (fun z=>(hch _ z).2.1 rfl) ho I.free
 ·obtain ⟨v,o,ho,hd⟩:=I.cell x c e
  exact free c o (fun z=>(hch c z).2.2.1 x c e rfl) ho (I.freeC x c e)
 ·obtain ⟨e,n,ne,nf,d⟩:=I.pin p hp
  have nch:p.1 ∉ ch:=fun z=>(hch p.1 z).2.2.2 p hp rfl
  exact ⟨keep p.1 p.2 ne nf nch e n,free p.1 p.2 nch e n,ne,nf,d⟩
theorem Inv.un {t':Nat}(I:Inv X pJ σ H s) (u:Un X.fs [] H H' s.heap h') (hok:HOk X.prog X.w H' h'):Inv X pJ σ H' { s with heap:=h',toks:=t' }:=by
 obtain ⟨m,⟨o,es,ep,ho,r⟩,_⟩:=id I.loc
 obtain ⟨sl,hL⟩:=u.any ho I.free (by simp)
 exact I.step (g':=s.gens) (d':=s.drawn) (ch:=[]) (fun _ z=>nomatch z) (fun b o _ hb _ e n=>u.keep b o e n hb (by simp)) (fun b o _ hb _ e n=>u.slot b o e n hb (by simp)) (fun b o _ e n=>u.free b o e n (by simp)) (fun b o _ e=>u.there b o e (by simp)) u.tups u.frzs u.tbls (fun m' hm=>by
  obtain ⟨o',es',ep',ho',r'⟩:=hm
  rw [ho] at ho';cases ho'
  exact ⟨_,es',ep',hL,r'⟩) hok I.bare
theorem Inv.call {g':Array GenState}{t':Nat}{d':Drawn}{ch:List Addr}(I:Inv X pJ σ H s) (u:Un (frs X.stack) ch H H' s.heap h') (hok:HOk X.prog X.w H' h') (hg:gZ g')
  (hch:∀ b∈ch,(b∈X.ex\/X.sw.heap.objs.size<=b)/\b≠X.env.locals/\(∀ x c,X.env.cells.lookup x=some c->c≠b)/\∀ p∈X.pn++pJ,p.1≠b):
  Inv X pJ σ H' { s with heap:=h',gens:=g',drawn:=d',toks:=t' }:=by
 obtain ⟨m,⟨o,es,ep,ho,r⟩,_⟩:=id I.loc
 obtain ⟨sl,hL⟩:=u.any ho I.free fun z=>(hch _ z).2.1 rfl
 exact I.step (ch:=ch) hch (fun b o hL hb hc e n=>u.keep b o e n (fun z=>(Η.mp (I.XS b z)).elim hL hb) hc) (fun b o _ _ hc e n=>u.any e n hc) (fun b o hc e n=>u.free b o e n hc) (fun b o hc e=>u.there b o e hc) u.tups u.frzs u.tbls (fun m' hm=>by
  obtain ⟨o',es',ep',ho',r'⟩:=hm
  rw [ho] at ho';cases ho'
  exact ⟨_,es',ep',hL,r'⟩) hok hg
theorem Inv.turned {t':Nat}{it:Addr}(I:Inv X pJ σ H s) (k:∀ b o,b≠it->s.heap.get? b=some o->h'.get? b=some o) (hn:H it=none) (hL:it≠X.env.locals)
  (h1:it∈X.ex\/X.sw.heap.objs.size<=it) (h2:∀ x c,X.env.cells.lookup x=some c->c≠it) (h3:∀ p∈X.pn++pJ,p.1≠it):Inv X pJ σ H { s with heap:=h',toks:=t' }:=by
 have nit:∀ b u,H b=some u->b≠it:=fun b u e z=>by rw [z,hn] at e;cases e
 refine I.step (g':=s.gens) (d':=s.drawn) (ch:=[it]) (fun b hb=>?_) (fun b o _ _ hc e _=>k b o (fun z=>hc (by simp [z])) e) (fun b o _ _ hc e _=>⟨o.slots,k b o (fun z=>hc (by simp [z])) e⟩) (fun _ _ _ _ n=>n)
  (fun b o hc e=>⟨o,k b o (fun z=>hc (by simp [z])) e⟩) (fun _ _ e=>e) (fun _ _ _ e=>e) (fun b ps e=>⟨#[],by rw [e];simp⟩) (fun m hm=>?_) (fun b u e=>?_) I.bare
 ·have e:b=it:=by simpa using hb
  subst e
  exact ⟨h1,hL,h2,h3⟩
 ·obtain ⟨o,es,ep,ho,r⟩:=hm
  exact ⟨o,es,ep,k _ o (fY hL) ho,r⟩
 ·refine (I.hok b u e).stay (fun c v hc q=>k c v ?_ q) (fun _ q=>q) fun _ _ q=>q
  rcases hc with z | z
  ·rw [z];exact nit b u e
  ·exact nit c _ z
theorem Inv.tok (I:Inv X pJ σ H s) (t:Nat):Inv X pJ σ H { s with toks:=t }:=I.un (h':=s.heap) (t':=t) Un.refl I.hok
theorem Inv.kept {t':Nat}(I:Inv X pJ σ H s) (k:∀ b u,s.heap.get? b=some u->h'.get? b=some u):Inv X pJ σ H { s with heap:=h',toks:=t' }:=I.un (Un.kept k) (I.hok.kept k)
theorem Inv.laid {a:Addr}{o:HO}{t':Nat}(I:Inv X pJ σ H s) (k:∀ b u,s.heap.get? b=some u->h'.get? b=some u) (hp:s.heap.objs.size<=a) (new:ObjOk X.prog X.w (upd H a o) h' a o):
  Inv X pJ σ (upd H a o) { s with heap:=h',toks:=t' }:=I.un (Un.laid k hp (I.hok.fresh hp)) (I.hok.laid k hp new)
theorem Inv.write {x e:Addr}{o:HO}{t':Nat}(I:Inv X pJ σ H s) (mu:Mut (H x)) (he:e=x\/H e=some (.own x)) (k:∀ b u,b≠e->s.heap.get? b=some u->h'.get? b=some u) (heo:∃ u,h'.get? e=some u)
  (new:ObjOk X.prog X.w (upd H x o) h' x o):Inv X pJ σ (upd H x o) { s with heap:=h',toks:=t' }:=I.un (Un.write mu he k heo) (I.hok.write mu he k heo new)
theorem Inv.YC {pins':List (Addr×Obj)}(I:Inv X pJ σ H s) (h:∀ p∈pins',s.heap.get? p.1=some p.2/\H p.1=none/\p.1≠X.env.locals/\p.1 ∉ X.fs/\∀ v,p.2.data≠.cell v):Inv X pins' σ H s:=
 ⟨I.ok,I.os,I.bare,I.base,I.loc,I.cell,I.free,I.freeC,fun p hp=>(Λ.mp hp).elim (fun z=>I.pin p (bL _ z)) (h p),I.hok,I.len⟩
theorem Wl {N:List Str}(hN:N.Nodup) {i j:Nat}{x:Str}(a:N[i]?=some x) (b:N[j]?=some x):i=j:=by
 obtain ⟨h1,e1⟩:=Ζ.mp a
 obtain ⟨h2,e2⟩:=Ζ.mp b
 exact (List.getElem_inj hN).mp (e1.trans e2.symm)
theorem Ud {M:Model}{A:ϟ}{E:VSP}{i:Nat}{x:Str}{v:V}{u:δ}{Q:Unit->ν->Prop}(I:Inv X pJ σ H s) (hN:X.N.Nodup) (hi:X.N[i]?=some x) (hx:Loc X.env.scope x) (r:RelV v u)
  (h:∀ s',Inv X pJ (σ.set i (some v)) H s'->(∃ a,Ϫ a s.heap s'.heap/\(a=X.env.locals\/X.env.cells.lookup x=some a))->Q () s') (hf:X.fn x=true\/X.env.scope.names.lookup x=some .local:=by first | exact .inl rfl | exact .inr rfl | assumption):Θ M A (storeName X.env x u) Q E s:=by
 obtain ⟨m,hn,hl⟩:=id I.loc
 have hcls:(X.env.scope.kind==.class||(X.env.scope.kind==.module&&X.env.locals != X.env.globals))=false:=by rw [I.ok.kind];rfl
 have hiσ:i < σ.length:=by rw [I.len];exact (Ζ.mp hi).1
 have cne:=I.cne
 have tracked:∀ {a:Addr}{h':Heap},(∃ o,s.heap.get? a=some o/\H a=none)->Ϫ a s.heap h'->HOk X.prog X.w H h':=fun {a h'} ha hs b ob e=>by
  obtain ⟨_,_,hfree⟩:=ha
  refine (I.hok b ob e).stay (fun c w' hc q=>(hs.2 c ?_).trans q) (fun _ q=>q) fun _ _ q=>q
  rintro rfl
  rcases hc with rfl | hc
  ·rw [hfree] at e;cases e
  ·rw [hfree] at hc;cases hc
 rcases hx with hk | hk
 ·refine wpAny_storeName_local hk hn (fun h' hn' hs=>?_) hcls
  obtain ⟨oL,_,_,hoL,_⟩:=id hn
  refine h _ ⟨I.ok,I.os,I.bare,⟨fun b o e n hb hx=>?_,fun b o e n hb hx=>?_,I.base.free,fun b o e hx=>?_,I.base.tups,I.base.frzs,I.base.tbls⟩,⟨_,hn',fun j y v' e1 e2 e3=>?_⟩,fun y c e=>?_,I.free,I.freeC,fun p hp=>?_,tracked ⟨oL,hoL,I.free⟩ hs,by simpa using I.len⟩ ⟨_,hs,.inl rfl⟩
  ·exact (hs.2 b (ϊ (ϐ (Β e) I.ok.above))).trans (I.base.keep b o e n hb hx)
  ·obtain ⟨sl,e1⟩:=I.base.slot b o e n hb hx
   exact ⟨sl,(hs.2 b (ϊ (ϐ (Β e) I.ok.above))).trans e1⟩
  ·obtain ⟨o',e1⟩:=I.base.there b o e hx
   exact ⟨o',(hs.2 b (ϊ (ϐ (Β e) I.ok.above))).trans e1⟩
  ·by_cases hj:j=i
   ·subst hj
    rw [hi] at e1;cases e1
    rw [Ϸ hiσ] at e2
    cases e2
    exact ⟨u,r,.inl ⟨hk,by simp⟩⟩
   ·rw [ϋ (fY hj)] at e2
    obtain ⟨u',r',q⟩:=hl j y v' e1 e2 e3
    refine ⟨u',r',?_⟩
    rcases q with ⟨k,e⟩ | ⟨k,c,e,z⟩
    ·refine .inl ⟨k,?_⟩
     have:y≠x:=fun e=>hj (Wl hN e1 (e ▸ hi))
     simp [this,e]
    ·exact .inr ⟨k,c,e,z.sameBut hs (cne y c e)⟩
  ·obtain ⟨w',z⟩:=I.cell y c e
   exact ⟨w',z.sameBut hs (cne y c e)⟩
  ·obtain ⟨e,n,ne,nf,d⟩:=I.pin p hp
   exact ⟨(hs.2 p.1 ne).trans e,n,ne,nf,d⟩
 ·have hfn:X.fn x=true:=by
   rcases hf with z | z
   ·exact z
   ·rw [z] at hk;cases hk
  obtain ⟨c,hc⟩:=I.ok.has x (.inl hk)
  obtain ⟨w',z⟩:=I.cell x c hc
  refine wpAny_storeName_cell I.ok.kind hk hc z (fun h' hc' hs=>?_)
  obtain ⟨oc,hoc,hocd⟩:=id z
  refine h { s with heap:=h' } ⟨I.ok,I.os,I.bare,⟨fun b o e n hb hx=>?_,fun b o e n hb hx=>?_,I.base.free,fun b o e hx=>?_,I.base.tups,I.base.frzs,I.base.tbls⟩,⟨m,hn.sameBut hs (fY (cne x c hc)),fun j y v' e1 e2 e3=>?_⟩,fun y c' e=>?_,I.free,I.freeC,fun p hp=>?_,tracked ⟨oc,hoc,I.freeC x c hc⟩ hs,by simpa using I.len⟩ ⟨c,hs,.inr hc⟩
  ·exact (hs.2 b (ϊ (ϐ (Β e) (I.ok.cab x c hfn hc)))).trans (I.base.keep b o e n hb hx)
  ·obtain ⟨sl,e1⟩:=I.base.slot b o e n hb hx
   exact ⟨sl,(hs.2 b (ϊ (ϐ (Β e) (I.ok.cab x c hfn hc)))).trans e1⟩
  ·obtain ⟨o',e1⟩:=I.base.there b o e hx
   exact ⟨o',(hs.2 b (ϊ (ϐ (Β e) (I.ok.cab x c hfn hc)))).trans e1⟩
  ·by_cases hj:j=i
   ·subst hj
    rw [hi] at e1;cases e1
    rw [Ϸ hiσ] at e2
    cases e2
    exact ⟨u,r,.inr ⟨.inl hk,c,hc,hc'⟩⟩
   ·rw [ϋ (fY hj)] at e2
    obtain ⟨u',r',q⟩:=hl j y v' e1 e2 e3
    refine ⟨u',r',?_⟩
    rcases q with q | ⟨k,c',e,z'⟩
    ·exact .inl q
    ·refine .inr ⟨k,c',e,z'.sameBut hs ?_⟩
     rintro rfl
     exact hj (Wl hN e1 (I.ok.inj _ _ _ e hc ▸ hi))
  ·by_cases hcc:c'=c
   ·subst hcc;exact ⟨_,hc'⟩
   ·obtain ⟨w2,z2⟩:=I.cell y c' e
    exact ⟨w2,z2.sameBut hs hcc⟩
  ·obtain ⟨e,n,ne,nf,d⟩:=I.pin p hp
   refine ⟨(hs.2 p.1 ?_).trans e,n,ne,nf,d⟩
   intro q
   rw [q,hoc] at e
   have q':oc=p.2:=ϛ e
   exact d w' (by rw [<- q'];exact hocd)
theorem Qc {M:Model}{A:ϟ}{E:VSP}{i:Nat}{x:Str}{v:V}{u:δ}{Q:Unit->ν->Prop}(I:Inv X pJ σ H s) (hN:X.N.Nodup) (hi:X.N[i]?=some x) (hx:Loc X.env.scope x) (r:RelV v u)
  (h:∀ s',Inv X pJ (σ.set i (some v)) H s'->Q () s') (hf:X.fn x=true\/X.env.scope.names.lookup x=some .local:=by first | exact .inl rfl | exact .inr rfl | assumption):Θ M A (storeName X.env x u) Q E s:=
 Ud I hN hi hx r (fun s' I' _=>h s' I') hf
theorem Inv.call' {s':ν}{ch:List Addr}(I:Inv X pJ σ H s) (ho:s'.os=s.os) (u:Un (frs X.stack) ch H H' s.heap s'.heap) (hok:HOk X.prog X.w H' s'.heap) (hg:gZ s'.gens)
  (hch:∀ b∈ch,(b∈X.ex\/X.sw.heap.objs.size<=b)/\b≠X.env.locals/\(∀ x c,X.env.cells.lookup x=some c->c≠b)/\∀ p∈X.pn++pJ,p.1≠b):Inv X pJ σ H' s':=by
 obtain ⟨h',g',d',t',o'⟩:=s'
 have e:o'=s.os:=ho
 subst e
 exact I.call (g':=g') (t':=t') (d':=d') u hok hg hch
end
abbrev XK:=δ->Option Addr->Hp->Prop
abbrev St:=List (Option V)
abbrev VK:=V->Hp->Prop
abbrev TE:=St->Hp->VK->Prop
abbrev TT:=St->Hp->(Bool->Hp->Prop)->Prop
abbrev TA:=St->Hp->(List V->Hp->Prop)->Prop
structure Ends where
 nx:St->Hp->Prop
 rt:VK
 bk:St->Hp->Prop:=fun _ _=>False
 ct:St->Hp->Prop:=fun _ _=>False
abbrev TS:=Ends->St->Hp->Prop
def EP (X:Cx) (pJ:List (Addr×Obj)) (σ:St) (Q:VK) (u:δ) (s':ν):Prop:=∃ v H',Inv X pJ σ H' s'/\RelV v u/\Q v H'
def TP (X:Cx) (pJ:List (Addr×Obj)) (σ:St) (Q:Bool->Hp->Prop) (b:Bool) (s':ν):Prop:=∃ H',Inv X pJ σ H' s'/\Q b H'
def AP (X:Cx) (pJ:List (Addr×Obj)) (σ:St) (Q:List V->Hp->Prop) (us:List δ) (s':ν):Prop:=∃ vs H',Inv X pJ σ H' s'/\Vals vs us/\Q vs H'
def SP (X:Cx) (pJ:List (Addr×Obj)) (D:Ends) (f:Flow) (s':ν):Prop:=
 match f with
 | .next=>∃ σ' H',Inv X pJ σ' H' s'/\D.nx σ' H'
 | .brk=>∃ σ' H',Inv X pJ σ' H' s'/\D.bk σ' H'
 | .cont=>∃ σ' H',Inv X pJ σ' H' s'/\D.ct σ' H'
 | .ret u=>∃ v σ' H',Inv X pJ σ' H' s'/\RelV v u/\D.rt v H'
def PE (X:Cx) (e:Expr) (t:TE):Prop:=
 ∀ (pJ:List (Addr×Obj)) (s:ν) (σ:St) (H:Hp) (Q:VK),Inv X pJ σ H s->t σ H Q->Θ (Ξ X.prog X.w) X.A (eval e X.env) (EP X pJ σ Q) X.xe s
def PT (X:Cx) (e:Expr) (t:TT):Prop:=
 ∀ (pJ:List (Addr×Obj)) (s:ν) (σ:St) (H:Hp) (Q:Bool->Hp->Prop),Inv X pJ σ H s->t σ H Q->Θ (Ξ X.prog X.w) X.A (iH e X.env (eval e X.env)) (TP X pJ σ Q) X.xe s
def PW (X:Cx) (e:Expr) (t:TT):Prop:=
 ∀ (whole:Sem δ) (pJ:List (Addr×Obj)) (s:ν) (σ:St) (H:Hp) (Q:Bool->Hp->Prop),Inv X pJ σ H s->t σ H Q->Θ (Ξ X.prog X.w) X.A (iH e X.env whole) (TP X pJ σ Q) X.xe s
theorem PW.pt {X:Cx}{e:Expr}{t:TT}(h:PW X e t):PT X e t:=h _
def PA (X:Cx) (es:List Expr) (t:TA):Prop:=
 ∀ (pos:Pos) (pJ:List (Addr×Obj)) (s:ν) (σ:St) (H:Hp) (Q:List V->Hp->Prop),Inv X pJ σ H s->t σ H Q->Θ (Ξ X.prog X.w) X.A (spliced (eV pos (Ϥ es X.env))) (AP X pJ σ Q) X.xe s
def PS (X:Cx) (st:Stmt) (t:TS):Prop:=
 ∀ (pJ:List (Addr×Obj)) (s:ν) (σ:St) (H:Hp) (D:Ends),Inv X pJ σ H s->t D σ H->Θ (Ξ X.prog X.w) X.A (exec st X.env) (SP X pJ D) X.xe s
def PSs (X:Cx) (st:List Stmt) (t:TS):Prop:=
 ∀ (pJ:List (Addr×Obj)) (s:ν) (σ:St) (H:Hp) (D:Ends),Inv X pJ σ H s->t D σ H->Θ (Ξ X.prog X.w) X.A (execs st X.env) (SP X pJ D) X.xe s
theorem thn {α:Type}{t:Sem α}{Q Q':α->ν->Prop}{M:Model}{A:ϟ}{E:VSP}{s:ν}(h:Θ M A t Q E s) (hQ:∀ a s,Q a s->Q' a s):Θ M A t Q' E s:=cG h hQ fun _ _ x=>x
section
variable {X:Cx}
theorem bin {a b:Expr}{ta tb:TE}(ha:PE X a ta) (hb:PE X b tb) {pJ:List (Addr×Obj)}{s:ν}{σ:St}{H:Hp}{R:V->V->Hp->Prop}(I:Inv X pJ σ H s) (h:ta σ H fun x H1=>tb σ H1 fun y H2=>R x y H2)
  {α:Type}{Q:α->ν->Prop}{f:δ->δ->Sem α}
  (hf:∀ v u s2 x y H2,Inv X pJ σ H2 s2->RelV x v->RelV y u->R x y H2->Θ (Ξ X.prog X.w) X.A (f v u) Q X.xe s2):
  Θ (Ξ X.prog X.w) X.A (eval a X.env) (fun v s₁=>Θ (Ξ X.prog X.w) X.A (eval b X.env) (fun u s₂=>Θ (Ξ X.prog X.w) X.A (f v u) Q X.xe s₂) X.xe s₁) X.xe s:=by
 refine thn (ha pJ s σ H _ I h) fun v s1 ⟨x,H1,I1,r1,q1⟩=>?_
 refine thn (hb pJ s1 σ H1 _ I1 q1) fun u s2 ⟨y,H2,I2,r2,q2⟩=>?_
 exact hf v u s2 x y H2 I2 r1 r2 q2
def tVar (i:Nat):TE:=fun σ H Q=>∃ v,σ[i]?=some (some v)/\Q v H
def tC (v:V):TE:=fun _ H Q=>Q v H
theorem jG {i:Nat}{x:Str}{pos:Pos}(hN:X.N[i]?=some x) (hv:Vis X.env.scope x) (hd:(x==("__debug__":Str))=false:=by decide) (hcd:(x==("__classdict__":Str))=false:=by decide):PE X (.Name x pos) (tVar i):=by
 intro pJ s σ H Q I h
 obtain ⟨v,e,h⟩:=h
 obtain ⟨m,hn,hl⟩:=I.loc
 obtain ⟨u,r,l⟩:=hl i x v hN e hv
 have fin:EP X pJ σ Q u s:=⟨v,H,I,r,h⟩
 rcases l with ⟨hk,hm⟩ | ⟨hk,c,hc,hcell⟩
 ·exact wpAny_Name (wpAny_loadName_local I.ok.kind hk hn hm fin) hd
 ·rcases hk with hk | hk
  ·exact wpAny_Name (wpAny_loadName_cell I.ok.kind hk hc hcell fin) hd
  ·exact wpAny_Name (wpAny_loadName_free I.ok.kind hk hc hcell fin hcd) hd
theorem zaD {i j pos}:PE X (.Constant (.int i) j pos) (tC (.int i)):=fun _ _ _ H _ I h=>wpAny_Constant_int ⟨.int i,H,I.tok _,⟨_,rfl⟩,h⟩
theorem pe_bl {b j pos}:PE X (.Constant (.bool b) j pos) (tC (.bl b)):=fun _ _ _ H _ I h=>Constant_bool ⟨.bl b,H,I,rfl,h⟩
theorem zdV {j pos}:PE X (.Constant .none j pos) (tC .non):=fun _ _ _ H _ I h=>Constant_none ⟨.non,H,I,rfl,h⟩
theorem zaC {x j pos}:PE X (.Constant (.str x) j pos) (tC (.str x)):=fun _ _ _ H _ I h=>Calls.Constant_str ⟨.str x,H,I.tok _,⟨_,rfl⟩,h⟩
def Gl (X:Cx) (x:Str):Prop:=X.env.kindOf x=some .globalImplicit
theorem YZ {E:VSP}{pJ:List (Addr×Obj)}{s:ν}{σ:St}{H:Hp}{x:Str}{u:δ}{pos:Pos}{Q:VSP}(I:Inv X pJ σ H s) (hg:Gl X x) (hm:X.mg x=some u) (h:Q u s)
  (hd:(x==("__debug__":Str))=false:=by decide):Θ (Ξ X.prog X.w) X.A (eval (.Name x pos) X.env) Q E s:=
 lV I.ok.kind hg (Calls.loadGlobal_global (by rw [I.ok.glob];exact I.mod.glob.keeps I.bk) hm h) hd
theorem jM {E:VSP}{pJ:List (Addr×Obj)}{s:ν}{σ:St}{H:Hp}{x:Str}{u:δ}{pos:Pos}{Q:VSP}(I:Inv X pJ σ H s) (hg:Gl X x) (hm:X.mg x=none) (hv:cI x=some u) (h:Q u s)
  (hn:x≠"__name__":=by decide) (hd:(x==("__debug__":Str))=false:=by decide):Θ (Ξ X.prog X.w) X.A (eval (.Name x pos) X.env) Q E s:=by
 obtain ⟨mb,h1,h2⟩:=I.mod.blt
 exact lV I.ok.kind hg (Calls.loadGlobal_builtin (by rw [I.ok.glob];exact I.mod.glob.keeps I.bk) hm (by rw [I.ok.blt];exact h1.keeps I.bk) ((h2 x hn).trans hv) h) hd
theorem zbS {x:Str}{v:V}{u:δ}{pos:Pos}(hg:Gl X x) (hm:X.mg x=some u) (r:RelV v u) (hd:(x==("__debug__":Str))=false:=by decide):PE X (.Name x pos) (tC v):=
 fun _ _ _ H _ I h=>YZ I hg hm ⟨v,H,I,r,h⟩ hd
theorem zbW {x:Str}{v:V}{u:δ}{pos:Pos}(hg:Gl X x) (hm:X.mg x=none) (hv:cI x=some u) (r:RelV v u) (hn:x≠"__name__":=by decide) (hd:(x==("__debug__":Str))=false:=by decide):PE X (.Name x pos) (tC v):=
 fun _ _ _ H _ I h=>jM I hg hm hv ⟨v,H,I,r,h⟩ hn hd
variable {a b:Expr}{ta tb:TE}{pos:Pos}
def PC (X:Cx) (op:eU) (a b:Expr) (t:TE):Prop:=
 ∀ (pJ:List (Addr×Obj)) (s:ν) (σ:St) (H:Hp) (Q:VK),Inv X pJ σ H s->t σ H Q ->
  Θ (Ξ X.prog X.w) X.A (eval a X.env) (fun v s₁=>Θ (Ξ X.prog X.w) X.A (eval b X.env) (fun u s₂=>Θ (Ξ X.prog X.w) X.A (ώ op v u) (EP X pJ σ Q) X.xe s₂) X.xe s₁) X.xe s
theorem QL (b:Expr) {op:eU}(h:op≠.In) (h2:op≠.NotIn):behindInMarks op b=false:=by
 have e1:(op==eU.In)=false:=by cases op <;> first | rfl | exact absurd rfl h
 have e2:(op==eU.NotIn)=false:=by cases op <;> first | rfl | exact absurd rfl h2
 cases b <;> simp [behindInMarks,e1,e2]
def tB (t:TE):TT:=fun σ H Q=>t σ H fun x H1=>∃ c,x=.bl c/\Q c H1
theorem zfb {op:eU}{t:TE}(h:PC X op a b t) (h1:behindInMarks op b=false:=by first | exact QL _ (by decide) (by decide) | rfl):PT X (.Compare a [op] [b] pos) (tB t):=by
 intro pJ s σ H Q I hw
 refine wpAny_isTrue_Compare1 (thn (h pJ s σ H _ I hw) fun v s1 h1=>thn h1 fun u s2 h2=>thn h2 fun c s3 ⟨x,H1,I1,r1,q1⟩=>?_) h1
 obtain ⟨d,rfl,q⟩:=q1
 cases r1
 exact ϲ ⟨H1,I1,q⟩
theorem zdK {e:Expr}{t:TE}(h:PE X e t) (he:∀ whole,iH e X.env whole=(do let v <- whole;standAt e.pos;gk [v] (truthy v)):=by intro _;rfl):PT X e (tB t):=by
 intro pJ s σ H Q I hw
 refine isTrue_plain (thn (h pJ s σ H _ I hw) fun v s1 ⟨x,H1,I1,r1,q1⟩=>?_) (he _)
 obtain ⟨d,rfl,q⟩:=q1
 cases r1
 exact ϲ ⟨H1,I1,q⟩
variable {tA tB':TT}{rest:List Expr}
def tAnd (t u:TT):TT:=fun σ H Q=>t σ H fun c H1=>if c=true then u σ H1 Q else Q false H1
def tOr (t u:TT):TT:=fun σ H Q=>t σ H fun c H1=>if c=true then Q true H1 else u σ H1 Q
def tNot (t:TT):TT:=fun σ H Q=>t σ H fun c H1=>Q (!c) H1
theorem zbH (ha:PT X a tA):PW X (.BoolOp .And [a] pos) tA:=by
 intro wh pJ s σ H Q I h
 refine isTrue_and (thn (ha pJ s σ H Q I h) fun c s1 e=>?_)
 cases c with
 | true=>exact isTrue_and_nil e
 | false=>exact e
theorem zdI (ha:PT X a tA):PW X (.BoolOp .Or [a] pos) tA:=by
 intro wh pJ s σ H Q I h
 refine isTrue_or (thn (ha pJ s σ H Q I h) fun c s1 e=>?_)
 cases c with
 | false=>exact isTrue_or_nil e
 | true=>exact e
theorem zdJ (ha:PT X a tA) (hb:PW X (.BoolOp .And (b::rest) pos) tB'):PW X (.BoolOp .And (a::b::rest) pos) (tAnd tA tB'):=by
 intro wh pJ s σ H Q I h
 refine isTrue_and (thn (ha pJ s σ H _ I h) fun c s1 ⟨H1,I1,q1⟩=>?_)
 cases c with
 | true=>exact hb wh pJ s1 σ H1 Q I1 q1
 | false=>exact ⟨H1,I1,q1⟩
theorem pw_or (ha:PT X a tA) (hb:PW X (.BoolOp .Or (b::rest) pos) tB'):PW X (.BoolOp .Or (a::b::rest) pos) (tOr tA tB'):=by
 intro wh pJ s σ H Q I h
 refine isTrue_or (thn (ha pJ s σ H _ I h) fun c s1 ⟨H1,I1,q1⟩=>?_)
 cases c with
 | true=>exact ⟨H1,I1,q1⟩
 | false=>exact hb wh pJ s1 σ H1 Q I1 q1
theorem zdL (ha:PT X a tA):PT X (.UnaryOp .Not a pos) (tNot tA):=by
 intro pJ s σ H Q I h
 exact isTrue_not (ha pJ s σ H (fun c H1=>Q (!c) H1) I h)
def tAndV (ta tb:TE):TE:=fun σ H Q=>ta σ H fun x H1=>∃ c,x=.bl c/\if c=true then tb σ H1 Q else Q (.bl false) H1
def tOrV (ta tb:TE):TE:=fun σ H Q=>ta σ H fun x H1=>∃ c,x=.bl c/\if c=true then Q (.bl true) H1 else tb σ H1 Q
def tNotV (ta:TE):TE:=fun σ H Q=>ta σ H fun x H1=>∃ c,x=.bl c/\Q (.bl (!c)) H1
theorem zdT {op} {t:TE}(h:PE X a t):PE X (.BoolOp op [a] pos) t:=fun pJ s σ H Q I hw=>BoolOp_one (h pJ s σ H Q I hw)
theorem zdY (ha:PE X a ta) (hb:PE X (.BoolOp .And (b::rest) pos) tb):PE X (.BoolOp .And (a::b::rest) pos) (tAndV ta tb):=by
 intro pJ s σ H Q I h
 refine BoolOp_and (thn (ha pJ s σ H _ I h) fun v s1 ⟨x,H1,I1,r1,q1⟩=>?_)
 obtain ⟨c,rfl,q1⟩:=q1
 cases r1
 refine ϲ ?_
 cases c with
 | true=>exact hb pJ s1 σ H1 Q I1 q1
 | false=>exact ⟨.bl false,H1,I1,rfl,q1⟩
theorem pe_or (ha:PE X a ta) (hb:PE X (.BoolOp .Or (b::rest) pos) tb):PE X (.BoolOp .Or (a::b::rest) pos) (tOrV ta tb):=by
 intro pJ s σ H Q I h
 refine BoolOp_or (thn (ha pJ s σ H _ I h) fun v s1 ⟨x,H1,I1,r1,q1⟩=>?_)
 obtain ⟨c,rfl,q1⟩:=q1
 cases r1
 refine ϲ ?_
 cases c with
 | false=>exact hb pJ s1 σ H1 Q I1 q1
 | true=>exact ⟨.bl true,H1,I1,rfl,q1⟩
theorem zdU (ha:PE X a ta):PE X (.UnaryOp .Not a pos) (tNotV ta):=by
 intro pJ s σ H Q I h
 refine UnaryOp_ (thn (ha pJ s σ H _ I h) fun v s1 ⟨x,H1,I1,r1,q1⟩=>?_)
 obtain ⟨c,rfl,q1⟩:=q1
 cases r1
 exact not_of (ϲ ⟨.bl (!c),H1,I1,rfl,q1⟩)
def tIf (t:TT) (ta tb:TE):TE:=fun σ H Q=>t σ H fun c H1=>if c=true then ta σ H1 Q else tb σ H1 Q
theorem Qv {c:Expr}(hc:PT X c tA) (ha:PE X a ta) (hb:PE X b tb):PE X (.IfExp c a b pos) (tIf tA ta tb):=by
 intro pJ s σ H Q I h
 refine wpAny_IfExp (thn (hc pJ s σ H _ I h) fun d s1 ⟨H1,I1,q1⟩=>?_)
 cases d with
 | true=>exact ha pJ s1 σ H1 Q I1 q1
 | false=>exact hb pJ s1 σ H1 Q I1 q1
end
def SqL (K:W.Frag) (H:Hp) (a:Addr) (xs:List V):Prop:=
 Rd H a (.lst xs) \/
  ∃ (o:Obj) (its:Array δ) (n:Nat),K.lookup a=some o/\o.cls=.type "list"/\o.dict=none/\o.data=.seq its n/\its.size<=sizeLine/\Vals xs its.toList
def SqT (K:W.Frag) (H:Hp) (a:Addr) (xs:List V):Prop:=
 Rd H a (.tup xs) \/
  ∃ (o:Obj) (its:Array δ) (n:Nat),K.lookup a=some o/\o.cls=.type "tuple"/\o.data=.seq its n/\its.size<=sizeLine/\Vals xs its.toList
noncomputable def absV:δ->Option V
 | .none=>some .non
 | .bool b=>some (.bl b)
 | .int i _=>some (.int i)
 | .str x _=>some (.str x)
 | .bytes b _=>some (.byt b)
 | .float b _=>some (.flt b)
 | .ref a=>some (.ref a)
 | .type n=>some (.ty n)
 | _=>none
theorem RelV.abs {x:V}{u:δ}(r:RelV x u):absV u=some x:=by
 cases x with
 | non=>cases r;rfl
 | bl _=>cases r;rfl
 | int _=>obtain ⟨t,rfl⟩:=r;rfl
 | str _=>obtain ⟨t,rfl⟩:=r;rfl
 | byt _=>obtain ⟨t,rfl⟩:=r;rfl
 | flt _=>obtain ⟨t,rfl⟩:=r;rfl
 | ref _=>cases r;rfl
 | ty _=>cases r;rfl
theorem RelV.inj {x y:V}{u:δ}(r:RelV x u) (q:RelV y u):x=y:=ϛ (r.abs.symm.trans q.abs)
theorem Vals.inj:∀ {xs ys:List V}{us:List δ},Vals xs us->Vals ys us->xs=ys
 | _,_,_,.nil,.nil=>rfl
 | _,_,_,.cons r t,.cons r' t'=>by rw [r.inj r',Vals.inj t t']
section
variable {X:Cx}{pJ:List (Addr×Obj)}{σ:St}{H:Hp}{s:ν}{a:Addr}{xs ys:List V}
theorem SqL.of {K:W.Frag}(h:H a=some (.lst xs)):SqL K H a xs:=.inl (.inl h)
theorem SqT.of {K:W.Frag}(h:H a=some (.tup xs)):SqT K H a xs:=.inl (.inl h)
theorem Inv.list (I:Inv X pJ σ H s) (h:SqL X.K H a xs):∃ its:List δ,Vals xs its/\PlainL s.heap a its.toArray/\xs.length<=sizeLine:=by
 rcases h with h | ⟨o,its,n,hk,hc,hd,hs,hz,r⟩
 ·obtain ⟨z,its,n,r,e⟩:=h.ok I.hok
  exact ⟨its,r,⟨_,n,e,rfl,rfl,rfl⟩,z⟩
 ·refine ⟨its.toList,r,⟨o,n,I.kIn a o hk,hc,hd,by simpa using hs⟩,?_⟩
  have e:=r.length
  simp only [Φ] at e
  lia
theorem Inv.tuple (I:Inv X pJ σ H s) (h:SqT X.K H a xs):∃ its:List δ,Vals xs its/\IsTup s.heap a its.toArray/\xs.length<=sizeLine:=by
 rcases h with h | ⟨o,its,n,hk,hc,hs,hz,r⟩
 ·obtain ⟨z,its,r,p⟩:=h.ok I.hok
  exact ⟨its,r,p,z⟩
 ·refine ⟨its.toList,r,⟨o,I.kIn a o hk,hc,n,by simpa using hs⟩,?_⟩
  have e:=r.length
  simp only [Φ] at e
  lia
theorem Inv.Wt (I:Inv X pJ σ H s) (h:SqL X.K H a xs) (h':SqL X.K H a ys):xs=ys:=by
 obtain ⟨its,r,⟨o,n,e,_,_,d⟩,_⟩:=I.list h
 obtain ⟨its',r',⟨o',n',e',_,_,d'⟩,_⟩:=I.list h'
 rw [e] at e';cases e'
 rw [d] at d'
 injection d' with d1 _
 have:its=its':=by simpa using congrArg Array.toList d1
 subst this
 exact r.inj r'
theorem Inv.qZ (I:Inv X pJ σ H s) (h:SqT X.K H a xs) (h':SqT X.K H a ys):xs=ys:=by
 obtain ⟨its,r,⟨o,e,_,n,d⟩,_⟩:=I.tuple h
 obtain ⟨its',r',⟨o',e',_,n',d'⟩,_⟩:=I.tuple h'
 rw [e] at e';cases e'
 rw [d] at d'
 injection d' with d1 _
 have:its=its':=by simpa using congrArg Array.toList d1
 subst this
 exact r.inj r'
end
noncomputable abbrev Cx.wish (X:Cx) (E:VSP):Cx:={ X with xe:=E }
noncomputable abbrev Cx.nox (X:Cx):Cx:=X.wish fun _ _=>False
theorem Cx.Ok.wish {X:Cx}(ok:X.Ok) (E:VSP):(X.wish E).Ok:=
 ⟨ok.mod,ok.kind,ok.glob,ok.blt,ok.above,ok.inj,ok.has,ok.cab,ok.hd,ok.frames,ok.stk,ok.exf,ok.bs,ok.bsz,ok.noex,ok.exfs,ok.funs,ok.frf⟩
theorem Cx.Ok.vC {X:Cx}{E:VSP}(ok:(X.wish E).Ok):X.Ok:=
 ⟨ok.mod,ok.kind,ok.glob,ok.blt,ok.above,ok.inj,ok.has,ok.cab,ok.hd,ok.frames,ok.stk,ok.exf,ok.bs,ok.bsz,ok.noex,ok.exfs,ok.funs,ok.frf⟩
section
variable {X:Cx}{pJ:List (Addr×Obj)}{σ:St}{H:Hp}{s:ν}{E:VSP}
theorem Inv.wish (I:Inv X pJ σ H s) (E:VSP):Inv (X.wish E) pJ σ H s:=⟨I.ok.wish E,I.os,I.bare,I.base,I.loc,I.cell,I.free,I.freeC,I.pin,I.hok,I.len⟩
theorem Inv.vC (I:Inv (X.wish E) pJ σ H s):Inv X pJ σ H s:=⟨I.ok.vC,I.os,I.bare,I.base,I.loc,I.cell,I.free,I.freeC,I.pin,I.hok,I.len⟩
theorem SP.vC {D:Ends}{f:Flow}{s':ν}(h:SP (X.wish E) pJ D f s'):SP X pJ D f s':=by
 cases f with
 | next=>obtain ⟨σ',H',I,q⟩:=h;exact ⟨σ',H',I.vC,q⟩
 | brk=>obtain ⟨σ',H',I,q⟩:=h;exact ⟨σ',H',I.vC,q⟩
 | cont=>obtain ⟨σ',H',I,q⟩:=h;exact ⟨σ',H',I.vC,q⟩
 | ret u=>obtain ⟨v,σ',H',I,r,q⟩:=h;exact ⟨v,σ',H',I.vC,r,q⟩
theorem PSs.nox {st:List Stmt}{t:TS}(h:PSs X.nox st t):PSs X st t:=fun pJ s σ H D I hw=>
 cG (h pJ s σ H D (I.wish _) hw) (fun _ _ q=>q.vC) fun _ _ z=>ak z
end
section
variable {X:Cx}{st:Stmt}{rest:List Stmt}{t u:TS}{e:Expr}{te:TE}{pos:Pos}
def tNext:TS:=fun D σ H=>D.nx σ H
def tSeq (t u:TS):TS:=fun D σ H=>t { D with nx:=u D } σ H
theorem zbL:PSs X [] tNext:=fun _ _ σ H _ I h=>m6 ⟨σ,H,I,h⟩
theorem Qn (h1:PS X st t) (h2:PSs X rest u):PSs X (st::rest) (tSeq t u):=by
 intro pJ s σ H D I h
 refine wpAny_execs_cons (thn (h1 pJ s σ H { D with nx:=u D } I h) fun f s1 q=>?_)
 cases f with
 | next=>
  obtain ⟨σ',H',I',q⟩:=q
  exact h2 pJ s1 σ' H' D I' q
 | ret v=>exact q
 | brk=>exact q
 | cont=>exact q
def zde:TS:=fun D σ H=>D.bk σ H
def tCont:TS:=fun D σ H=>D.ct σ H
theorem zbN:PS X (.Pass pos) tNext:=fun _ _ σ H _ I h=>wpAny_Pass ⟨σ,H,I,h⟩
theorem Qp:PS X (.Break pos) zde:=fun _ _ σ H _ I h=>wpAny_Break ⟨σ,H,I,h⟩
theorem YB:PS X (.Continue pos) tCont:=fun _ _ σ H _ I h=>wpAny_Continue ⟨σ,H,I,h⟩
theorem Inv.quiet {pJ:List (Addr×Obj)}{σ:St}{H:Hp}{s:ν}(I:Inv X pJ σ H s):interactive X.env=false:=by simp [interactive,I.ok.kind]
def tDrop (te:TE):TS:=fun D σ H=>te σ H fun _ H1=>D.nx σ H1
theorem Yz (he:PE X e te) (hs:gF e none pos.line X.env=pure false:=by rfl):PS X (.Expr e pos) (tDrop te):=by
 intro pJ s σ H D I h
 exact wpAny_Expr_any (thn (he pJ s σ H _ I h) fun v s1 ⟨x,H1,I1,r1,q1⟩=>⟨σ,H1,I1,q1⟩) I.quiet hs
def tRet (te:TE):TS:=fun D σ H=>te σ H D.rt
theorem zaB (he:PE X e te):PS X (.Return (some e) pos) (tRet te):=by
 intro pJ s σ H D I h
 exact wpAny_Return_some (thn (he pJ s σ H _ I h) fun v s1 ⟨x,H1,I1,r1,q1⟩=>⟨x,σ,H1,I1,r1,q1⟩)
def tRetN:TS:=fun D _ H=>D.rt .non H
theorem zbM:PS X (.Return none pos) tRetN:=fun _ _ σ H _ I h=>wpAny_Return_none ⟨.non,σ,H,I,rfl,h⟩
def tIfS (c:TT) (t u:TS):TS:=fun D σ H=>c σ H fun b H1=>if b=true then t D σ H1 else u D σ H1
theorem ps_if {c:Expr}{a b:List Stmt}{tc:TT}(hc:PT X c tc) (ha:PSs X a t) (hb:PSs X b u):PS X (.If c a b pos) (tIfS tc t u):=by
 intro pJ s σ H D I h
 refine wpAny_If (thn (hc pJ s σ H _ I h) fun d s1 ⟨H1,I1,q1⟩=>?_)
 cases d with
 | true=>exact ha pJ s1 σ H1 D I1 q1
 | false=>exact hb pJ s1 σ H1 D I1 q1
end
abbrev TG:=V->St->Hp->(St->Hp->Prop)->Prop
abbrev TGs:=List V->St->Hp->(St->Hp->Prop)->Prop
def PG (X:Cx) (target:Expr) (t:TG):Prop:=
 ∀ (pJ:List (Addr×Obj)) (s:ν) (σ:St) (H:Hp) (v:V) (u:δ) (Q:St->Hp->Prop),Inv X pJ σ H s->RelV v u->t v σ H Q ->
  Θ (Ξ X.prog X.w) X.A (fV target X.env u) (fun _ s'=>∃ σ' H',Inv X pJ σ' H' s'/\Q σ' H') X.xe s
def PGs (X:Cx) (ts:List Expr) (t:TGs):Prop:=
 ∀ (pJ:List (Addr×Obj)) (s:ν) (σ:St) (H:Hp) (vs:List V) (us:List δ) (Q:St->Hp->Prop),Inv X pJ σ H s->Vals vs us->t vs σ H Q ->
  Θ (Ξ X.prog X.w) X.A (assignInOrder ((aP ts X.env).map (·.2)) us) (fun _ s'=>∃ σ' H',Inv X pJ σ' H' s'/\Q σ' H') X.xe s
abbrev TSet:=V->V->V->Hp->(Hp->Prop)->Prop
def PSet (X:Cx) (t:TSet):Prop:=
 ∀ (pJ:List (Addr×Obj)) (s:ν) (σ:St) (H:Hp) (o i v:V) (ov iv u:δ) (Q:Hp->Prop),Inv X pJ σ H s->RelV o ov->RelV i iv->RelV v u->t o i v H Q ->
  Θ (Ξ X.prog X.w) X.A (setItem ov iv u) (fun _ s'=>∃ H',Inv X pJ σ H' s'/\Q H') X.xe s
section
variable {X:Cx}{pos:Pos}
def gName (i:Nat):TG:=fun v σ H Q=>Q (σ.set i (some v)) H
theorem U4 {i:Nat}{x:Str}(hN:X.N.Nodup) (hi:X.N[i]?=some x) (hx:Loc X.env.scope x) (hf:X.fn x=true\/X.env.scope.names.lookup x=some .local:=by first | exact .inl rfl | exact .inr rfl | assumption):PG X (.Name x pos) (gName i):=by
 intro pJ s σ H v u Q I r h
 exact wpAny_assign_Name (Qc I hN hi hx r (fun s' I'=>⟨_,H,I',h⟩) hf)
def gNil:TGs:=fun vs σ H Q=>vs=[]/\Q σ H
def gCons (t:TG) (u:TGs):TGs:=fun vs σ H Q=>∃ v r,vs=v::r/\t v σ H fun σ' H'=>u r σ' H' Q
theorem U0:PGs X [] gNil:=by
 intro pJ s σ H vs us Q I r h
 obtain ⟨e,h⟩:=h
 subst e
 cases r
 exact assignInOrder_nil ⟨σ,H,I,h⟩
theorem kY {e:Expr}{es:List Expr}{t:TG}{u:TGs}(h1:PG X e t) (h2:PGs X es u)
  (hs:(aP (e::es) X.env).map (·.2)=fV e X.env::(aP es X.env).map (·.2):=by rfl):PGs X (e::es) (gCons t u):=by
 intro pJ s σ H vs us Q I r h
 obtain ⟨v,vr,e1,h⟩:=h
 subst e1
 cases r with
 | cons r rr=>
  rw [hs]
  refine assignInOrder_cons (thn (h1 pJ s σ H _ _ _ I r h) fun _ s1 ⟨σ1,H1,I1,q1⟩=>?_)
  exact h2 pJ s1 σ1 H1 _ _ Q I1 rr q1
def gTup (K:W.Frag) (n:Nat) (t:TGs):TG:=fun v σ H Q=>∃ a xs,v=.ref a/\SqT K H a xs/\xs.length=n/\t xs σ H Q
theorem U3 {es:List Expr}{k:Nat}{t:TGs}{n:Nat}(hc:X.calm=true) (h:PGs X es t)
  (hn:(aP es X.env).length=n:=by rfl) (hst:(aP es X.env).findIdx? (·.1)=none:=by rfl):PG X (.Tuple es k pos) (gTup X.K n t):=by
 intro pJ s σ H v u Q I r hw
 obtain ⟨a,xs,e1,hq,hl,hw⟩:=hw
 subst e1
 cases r
 obtain ⟨its,rv,ht,hz⟩:=I.tuple hq
 refine assign_Tuple_tuple (I.ok.hd hc) ht (by simp [hn,<- hl,rv.length]) hst fun h' hx=>?_
 have I1:Inv X pJ σ H { s with heap:=h' }:=I.kept (t':=s.toks) fun b o e=>hx b o (ϊ (Β e)) e
 exact h pJ _ σ H xs _ Q I1 (by simpa using rv) hw
def gSub (to ti:TE) (t:TSet):TG:=fun v σ H Q=>to σ H fun o H1=>ti σ H1 fun i H2=>t o i v H2 fun H3=>Q σ H3
theorem zdR {o i:Expr}{to ti:TE}{t:TSet}(ho:PE X o to) (hi:PE X i ti) (hs:PSet X t)
  (ha:∀ v,fV (.Subscript o i pos) X.env v=(do
   let ov <- gk [v] (eval o X.env)
   let iv <- gk [v,ov] (eval i X.env)
   standAt pos
   gk [v,ov,iv] (setItem ov iv v)
   release [v,ov,iv] []):=by intro _;rfl):PG X (.Subscript o i pos) (gSub to ti t):=by
 intro pJ s σ H v u Q I r h
 rw [ha]
 refine ε (aU (thn (ho pJ s σ H _ I h) fun ov s1 ⟨x,H1,I1,r1,q1⟩=>?_))
 refine ε (aU (thn (hi pJ s1 σ H1 _ I1 q1) fun iv s2 ⟨y,H2,I2,r2,q2⟩=>?_))
 refine ε (lB (ε (aU (thn (hs pJ s2 σ H2 x y v ov iv u _ I2 r1 r2 r q2) fun _ s3 ⟨H3,I3,q3⟩=>?_))))
 exact wpAny_release ⟨σ,H3,I3,q3⟩
def tAsg (te:TE) (g:TG):TS:=fun D σ H=>te σ H fun x H1=>g x σ H1 D.nx
theorem Wf {tg e:Expr}{te:TE}{g:TG}(he:PE X e te) (hg:PG X tg g) (hs:cU [tg] e pos.line X.env=pure false:=by rfl) (hw:bT [tg] e X.env=pure none:=by rfl)
  (h1:(aP [tg] X.env).map (·.2)=[fV tg X.env]:=by rfl):PS X (.Assign [tg] e pos) (tAsg te g):=by
 intro pJ s σ H D I h
 refine wpAny_Assign_stores (thn (he pJ s σ H _ I h) fun v s1 ⟨x,H1,I1,r1,q1⟩=>?_) hs hw
 rw [h1]
 exact thn (hg pJ s1 σ H1 x v _ I1 r1 q1) fun _ s2 q=>q
end
section
variable {X:Cx}{pos:Pos}
def zda (c:TT) (tb:TS):TS:=fun D σ H=>∃ W:Nat->St->Hp->Prop,(∃ m,W m σ H)/\∀ m σ H,W m σ H ->
 c σ H fun b H1=>if b=true then ∃ N:St->Hp->Prop,(∀ σ' H',N σ' H'->∃ m',m' < m/\W m' σ' H')/\tb { D with nx:=N,ct:=N,bk:=D.nx } σ H1 else D.nx σ H1
theorem Qo {c:Expr}{body:List Stmt}{tc:TT}{tb:TS}(hp:gG (Ξ X.prog X.w) X.A X.env X.xe) (hc:PT X c tc) (hb:PSs X body tb):PS X (.While c body [] pos) (zda tc tb):=by
 intro pJ s σ H D I h
 obtain ⟨W,⟨m0,w0⟩,turn⟩:=h
 refine wpAny_While (codeAny_whileLoop (fun n s'=>∃ σ' H',Inv X pJ σ' H' s'/\W n σ' H') ?_ m0 ⟨σ,H,I,w0⟩)
 rintro n s1 ⟨σ1,H1,I1,w1⟩
 refine cQ hp (thn (hc pJ s1 σ1 H1 _ I1 (turn n σ1 H1 w1)) fun b s2 ⟨H2,I2,q2⟩=>?_)
 cases b with
 | true=>
  obtain ⟨N,hN,q2⟩:=q2
  rw [if_pos rfl]
  refine cQ hp (thn (hb pJ s2 σ1 H2 _ I2 q2) fun f s3 q3=>?_)
  cases f with
  | next=>
   obtain ⟨σ3,H3,I3,n3⟩:=q3
   obtain ⟨m',hm,w3⟩:=hN σ3 H3 n3
   exact ⟨m',hm,σ3,H3,I3,w3⟩
  | cont=>
   obtain ⟨σ3,H3,I3,n3⟩:=q3
   obtain ⟨m',hm,w3⟩:=hN σ3 H3 n3
   exact ⟨m',hm,σ3,H3,I3,w3⟩
  | brk=>exact q3
  | ret v=>exact q3
 | false=>
  rw [if_neg ϗ]
  exact m6 ⟨σ1,H2,I2,q2⟩
end
structure It where
 go:Nat->Hp->Prop
 yld:Nat->Hp->V->Hp->Prop
 stop:Nat->Hp->Prop
def FpOk (X:Cx) (pJ:List (Addr×Obj)) (H:Hp) (b:Addr):Prop:=
 H b=none/\b≠X.env.locals/\b ∉ X.fs/\(b∈X.ex\/X.sw.heap.objs.size<=b)/\(∀ x c,X.env.cells.lookup x=some c->c≠b)/\∀ p∈X.pn++pJ,p.1≠b
theorem Inv.fpOk {X:Cx}{pJ:List (Addr×Obj)}{σ:St}{H H':Hp}{s:ν}{b:Addr}(I:Inv X pJ σ H s) (hb:s.heap.objs.size<=b) (hn:H' b=none):FpOk X pJ H' b:=by
 refine ⟨hn,gq (ϐ I.lt hb),I.nofs hb,.inr (ϣ I.sz hb),fun x c e z=>?_,fun p hp z=>?_⟩
 ·obtain ⟨v,q⟩:=I.cell x c e
  exact absurd (ϐ q.lt (by rw [z];exact hb)) (cA _)
 ·exact absurd (ϐ (Β (I.pin p hp).1) (by rw [z];exact hb)) (cA _)
structure Turn (P:Τ) (w:ϝ) (K:W.Frag) (tg:Expr) (J:It) (fp:List Addr) (it:Addr) (tn:Nat->Heap->Prop):Prop where
 mem:it∈fp
 obj:∀ i h,tn i h->∀ b∈fp,∃ o,h.get? b=some o/\∀ v,o.data≠.cell v
 keep:∀ i h h',tn i h->(∀ b∈fp,∀ o,h.get? b=some o->h'.get? b=some o)->tn i h'
 item:∀ (X:Cx),X.prog=P->X.w=w->X.K=K->X.calm=true->∀ (i:Nat) (pJ:List (Addr×Obj)) (s:ν) (σ:St) (H:Hp) (E:VSP),Inv X pJ σ H s->(∀ b∈fp,FpOk X pJ H b)->tn i s.heap->J.go i H ->
  Θ (Ξ P w) X.A (pyNext (.ref it)) (fun r s1=>∃ u,r=some u /\
   Θ (Ξ P w) X.A (m8 tg (.ref it) u) (fun _ s2=>∃ x H',Inv X pJ σ H' s2/\RelV x u/\J.yld i H x H'/\tn (i+1) s2.heap/\∀ b∈fp,H' b=none) E s1) E s
 done:∀ (X:Cx),X.prog=P->X.w=w->X.K=K->X.calm=true->∀ (i:Nat) (pJ:List (Addr×Obj)) (s:ν) (σ:St) (H:Hp) (E:VSP),Inv X pJ σ H s->(∀ b∈fp,FpOk X pJ H b)->tn i s.heap->J.stop i H ->
  Θ (Ξ P w) X.A (pyNext (.ref it)) (fun r s1=>r=none/\Inv X pJ σ H s1) E s
 self:∀ (A:ϟ) (i:Nat) (s:ν) (Q:VSP) (E:VSP),tn i s.heap->Q (.ref it) s->Θ (Ξ P w) A (lF (.ref it)) Q E s
abbrev TI:=St->Hp->(It->Hp->Prop)->Prop
def PIE (X:Cx) (pJ:List (Addr×Obj)) (σ:St) (tg:Expr) (R:It->Hp->Prop) (itv:δ) (s2:ν):Prop:=
 ∃ (it:Addr) (fp:List Addr) (tn:Nat->Heap->Prop) (J:It) (H':Hp),itv=.ref it/\Inv X pJ σ H' s2/\Turn X.prog X.w X.K tg J fp it tn/\tn 0 s2.heap/\(∀ b∈fp,FpOk X pJ H' b)/\R J H'
def PI (X:Cx) (tg iter:Expr) (wi:TI):Prop:=
 ∀ (pJ:List (Addr×Obj)) (s:ν) (σ:St) (H:Hp) (R:It->Hp->Prop),Inv X pJ σ H s->wi σ H R ->
  Θ (Ξ X.prog X.w) X.A (eval iter X.env) (fun v s1=>Θ (Ξ X.prog X.w) X.A (lF v) (PIE X pJ σ tg R) X.xe s1) X.xe s
theorem go_of {M:Model}{A:ϟ}{E:VSP}{s:ν}{tg:Expr}{it:Addr}{u:δ}{o:Obj}{n:String}{vs:Array δ}{Q:Unit->ν->Prop}(ho:s.heap.get? it=some o) (hc:o.cls=.type n) (hd:o.data=.fields vs)
    (hn:["enumerate","zip","dict_itemiterator","dict_reverseitemiterator","odict_iterator","itertools.zip_longest","itertools.pairwise"].contains n=false) (hQ:Q () s):Θ M A (m8 tg (.ref it) u) Q E s:=by
  unfold m8
  cases tg <;> first
    | exact ι hQ
    | (cases u <;> first
        | exact ι hQ
        | (refine ε (wpAny_load ho ?_)
           rw [hc,hd]
           show Θ M A (if (["enumerate","zip","dict_itemiterator","dict_reverseitemiterator","odict_iterator","itertools.zip_longest","itertools.pairwise"].contains n&&vs[0]?==some (bD _))=true then _ else _) Q E s
           rw [if_neg (by intro h;rw [hn,Bool.false_and] at h;cases h)]
           exact ι hQ))
noncomputable def Itl (K:W.Frag) (a:Addr):It:=
 ⟨fun i H=>∃ xs x,SqL K H a xs/\xs[i]?=some x,fun i H x H'=>H'=H/\∀ xs,SqL K H a xs->xs[i]?=some x,fun i H=>∃ xs,SqL K H a xs/\xs.length<=i⟩
noncomputable def Itt (K:W.Frag) (a:Addr):It:=
 ⟨fun i H=>∃ xs x,SqT K H a xs/\xs[i]?=some x,fun i H x H'=>H'=H/\∀ xs,SqT K H a xs->xs[i]?=some x,fun i H=>∃ xs,SqT K H a xs/\xs.length<=i⟩
noncomputable def Itr (lo:Int) (n:Nat):It:=⟨fun i _=>i < n,fun i H x H'=>H'=H/\x=.int (lo+i),fun i _=>n<=i⟩
theorem V6 {P:Τ}{w:ϝ}{K:W.Frag}{tg:Expr}(a it:Addr):Turn P w K tg (Itl K a) [it] it (fun i h=>h.IsListIter it a i) where
 mem:=by simp
 obj:=fun i h st b hb=>by
  have e:b=it:=by simpa using hb
  subst e
  obtain ⟨o,e,c,d⟩:=st
  exact ⟨o,e,fun v z=>by rw [d] at z;cases z⟩
 keep:=fun i h h' st k=>st.at fun o e=>k it (by simp) o e
 item:=by
  intro X hP hw hK hc i pJ s σ H E I hf st hg
  subst hP hw hK
  obtain ⟨xs,x,hq,hx⟩:=hg
  obtain ⟨its,rv,p,hz⟩:=I.list hq
  obtain ⟨u,hu,ru⟩:=rv.get hx
  obtain ⟨f0,f1,f2,f3,f4,f5⟩:=hf it (by simp)
  refine wpAny_pyNext_list_item st p.isList (x:=u) (by simpa using hu) fun h' st' sb=>?_
  have I1:Inv X pJ σ H { s with heap:=h' }:=I.turned (t':=s.toks) (fun b o hb e=>(sb.2 b hb).trans e) f0 f1 f3 f4 f5
  obtain ⟨o,e,c,d⟩:=id st'
  exact ⟨u,rfl,go_of (s:={ s with heap:=h' }) e c d (by decide) ⟨x,H,I1,ru,⟨rfl,fun ys hy=>by rw [I.Wt hy hq];exact hx⟩,st',fun b hb=>(hf b hb).1⟩⟩
 done:=by
  intro X hP hw hK hc i pJ s σ H E I hf st hg
  subst hP hw hK
  obtain ⟨xs,hq,hx⟩:=hg
  obtain ⟨its,rv,p,hz⟩:=I.list hq
  obtain ⟨f0,f1,f2,f3,f4,f5⟩:=hf it (by simp)
  have hl:=rv.length
  exact wpAny_pyNext_list_end (I.ok.hd hc) st p.isList (by simp;lia) fun h' eb=>⟨rfl,I.turned (t':=s.toks) (fun b o hb e=>eb b o hb e) f0 f1 f3 f4 f5⟩
 self:=fun _ _ _ _ _ st h=>wpAny_pyIter_listiter st h
theorem W9 {P:Τ}{w:ϝ}{K:W.Frag}{tg:Expr}(a it:Addr):Turn P w K tg (Itt K a) [it] it (fun i h=>h.IsTupleIter it a i) where
 mem:=by simp
 obj:=fun i h st b hb=>by
  have e:b=it:=by simpa using hb
  subst e
  obtain ⟨o,e,c,d⟩:=st
  exact ⟨o,e,fun v z=>by rw [d] at z;cases z⟩
 keep:=fun i h h' st k=>st.at fun o e=>k it (by simp) o e
 item:=by
  intro X hP hw hK hc i pJ s σ H E I hf st hg
  subst hP hw hK
  obtain ⟨xs,x,hq,hx⟩:=hg
  obtain ⟨its,rv,p,hz⟩:=I.tuple hq
  obtain ⟨u,hu,ru⟩:=rv.get hx
  obtain ⟨f0,f1,f2,f3,f4,f5⟩:=hf it (by simp)
  refine wpAny_pyNext_tuple_item st (show s.heap.IsTuple a its.toArray from p) (x:=u) (by simpa using hu) fun h' st' sb=>?_
  have I1:Inv X pJ σ H { s with heap:=h' }:=I.turned (t':=s.toks) (fun b o hb e=>(sb.2 b hb).trans e) f0 f1 f3 f4 f5
  obtain ⟨o,e,c,d⟩:=id st'
  exact ⟨u,rfl,go_of (s:={ s with heap:=h' }) e c d (by decide) ⟨x,H,I1,ru,⟨rfl,fun ys hy=>by rw [I.qZ hy hq];exact hx⟩,st',fun b hb=>(hf b hb).1⟩⟩
 done:=by
  intro X hP hw hK hc i pJ s σ H E I hf st hg
  subst hP hw hK
  obtain ⟨xs,hq,hx⟩:=hg
  obtain ⟨its,rv,p,hz⟩:=I.tuple hq
  obtain ⟨f0,f1,f2,f3,f4,f5⟩:=hf it (by simp)
  have hl:=rv.length
  exact wpAny_pyNext_tuple_end (I.ok.hd hc) st (show s.heap.IsTuple a its.toArray from p) (by simp;lia) fun h' eb=>⟨rfl,I.turned (t':=s.toks) (fun b o hb e=>eb b o hb e) f0 f1 f3 f4 f5⟩
 self:=fun _ _ _ _ _ st h=>wpAny_pyIter_tupleiter st h
theorem Va {P:Τ}{w:ϝ}{K:PySem.W.Frag}{tg:Expr}(it:Addr) (lo:Int) (n:Nat):Turn P w K tg (Itr lo n) [it] it (fun i h=>IsRangeIter h it (lo+(i:Nat)*1) ((n:Int) - (i:Nat)) 1) where
 mem:=by simp
 obj:=fun i h st b hb=>by
  have e:b=it:=by simpa using hb
  subst e
  exact ⟨_,st,fun v z=>by
   have z':ϴ _=Data.cell v:=z
   cases z'⟩
 keep:=fun i h h' st k=>k it (by simp) _ st
 item:=by
  intro X hP hw hK hc i pJ s σ H E I hf st hg
  subst hP hw hK
  obtain ⟨f0,f1,f2,f3,f4,f5⟩:=hf it (by simp)
  have W:=Walks.range (prog:=X.prog) (w:=X.w) (I.ok.hd hc) it lo 1 n
  refine W.item i s _ _ hg st fun v h' tk hv st' kk=>?_
  obtain ⟨t,rfl⟩:=hv
  have I1:Inv X pJ σ H { s with heap:=h',toks:=tk }:=I.turned (fun b o hb e=>kk b o (by simpa using hb) e) f0 f1 f3 f4 f5
  refine ⟨_,rfl,go_of (s:={ s with heap:=h',toks:=tk }) (n:="range_iterator") st' rfl rfl (by decide) ⟨.int (lo+i),H,I1,⟨t,?_⟩,⟨rfl,rfl⟩,st',fun b hb=>(hf b hb).1⟩⟩
  rw [Int.mul_one]
 done:=by
  intro X hP hw hK hc i pJ s σ H E I hf st hg
  subst hP hw hK
  obtain ⟨f0,f1,f2,f3,f4,f5⟩:=hf it (by simp)
  exact wpAny_pyNext_range_end (I.ok.hd hc) st (by have:n<=i:=hg;lia) fun h' eb=>⟨rfl,I.turned (t':=s.toks) (fun b o hb e=>eb b o hb e) f0 f1 f3 f4 f5⟩
 self:=fun _ _ _ _ _ st h=>wpAny_pyIter_rangeiter st h
section
variable {X:Cx}{tg:Expr}
theorem Wc {pJ:List (Addr×Obj)}{σ:St}{H:Hp}{s:ν}{R:It->Hp->Prop}{E:VSP}{lo hi:Int}{t u v:Tok}{tk:Nat}(I:Inv X pJ σ H s) (h1:-(2 ^ 62)<=lo) (h2:lo < 2 ^ 62) (h3:-(2 ^ 62)<=hi) (h4:hi < 2 ^ 62)
  (q:R (Itr lo (hi - lo).toNat) H):Θ (Ξ X.prog X.w) X.A (lF (.ref s.heap.objs.size)) (PIE X pJ σ tg R) E { s with heap:=s.heap.push { cls:=.type "range",data:=.fields #[.int lo t,.int hi u,.int 1 v] },toks:=tk }:=by
 refine wpAny_pyIter_range (IsRange.new ..) (small_one h1 h2 h3 h4) ?_
 have I1:Inv X pJ σ H { s with heap:=s.heap.push { cls:=.type "range",data:=.fields #[.int lo t,.int hi u,.int 1 v] },toks:=tk }:=I.kept fun b o e=>η _ e
 refine ⟨(s.heap.push { cls:=.type "range",data:=.fields #[.int lo t,.int hi u,.int 1 v] }).objs.size,[(s.heap.push { cls:=.type "range",data:=.fields #[.int lo t,.int hi u,.int 1 v] }).objs.size],_,_,H,rfl,
  I1.kept (t':=tk) fun b o e=>η _ e,Va _ lo (hi - lo).toNat,?_,fun b hb=>?_,q⟩
 ·have e1:lo+((0:Nat):Int)*1=lo:=by simp
  have e2:(((hi - lo).toNat:Nat):Int) - ((0:Nat):Int)=Ω.Range.rangeSize lo hi 1:=by rw [rangeSize_one];split <;> lia
  show IsRangeIter _ _ (lo+((0:Nat):Int)*1) ((((hi - lo).toNat:Nat):Int) - ((0:Nat):Int)) 1
  rw [e1,e2]
  exact Δ _ rfl
 ·have e:b=(s.heap.push { cls:=.type "range",data:=.fields #[.int lo t,.int hi u,.int 1 v] }).objs.size:=by simpa using hb
  subst e
  exact I1.fpOk (π _) (I1.hok.fresh (π _))
def iRng1 (ta:TA):TI:=fun σ H R=>ta σ H fun vs H1=>∃ j:Int,vs=[.int j]/\-(2 ^ 62)<=j/\j < 2 ^ 62/\R (Itr 0 j.toNat) H1
def iRng2 (ta:TA):TI:=fun σ H R=>ta σ H fun vs H1=>∃ i j:Int,vs=[.int i,.int j]/\(-(2 ^ 62)<=i/\i < 2 ^ 62/\-(2 ^ 62)<=j/\j < 2 ^ 62)/\R (Itr i (j - i).toNat) H1
theorem UV {a:Expr}{ta:TA}{p pos:Pos}(hg:Gl X "range") (hm:X.mg "range"=none) (ha:PA X [a] ta) (hs:Ϥ [a] X.env=[(false,eval a X.env)]:=by rfl):PI X tg (.Call (.Name "range" p) [a] [] pos) (iRng1 ta):=by
 intro pJ s σ H R I h
 refine Call_ (jM I hg hm boot_range (bU (thn (ha pos pJ s σ H _ I h) fun us s1 ⟨vs,H1,I1,r1,q1⟩=>?_) hs rfl))
 obtain ⟨j,e,q1,q2,q⟩:=q1
 subst e
 cases r1 with
 | cons r rr=>
  cases rr
  obtain ⟨t,rfl⟩:=r
  exact call_range_1 (Wc I1 (by lia) (by lia) q1 q2 (by simpa using q))
theorem UT {a b:Expr}{ta:TA}{p pos:Pos}(hg:Gl X "range") (hm:X.mg "range"=none) (ha:PA X [a,b] ta) (hs:Ϥ [a,b] X.env=[(false,eval a X.env),(false,eval b X.env)]:=by rfl) (hs2:Ϥ [b] X.env=[(false,eval b X.env)]:=by rfl):
  PI X tg (.Call (.Name "range" p) [a,b] [] pos) (iRng2 ta):=by
 intro pJ s σ H R I h
 refine Call_ (jM I hg hm boot_range (bU (thn (ha pos pJ s σ H _ I h) fun us s1 ⟨vs,H1,I1,r1,q1⟩=>?_) (by rw [hs,hs2]) (by rw [hs2];rfl)))
 obtain ⟨i,j,e,⟨q1,q2,q3,q4⟩,q⟩:=q1
 subst e
 cases r1 with
 | cons r rr=>
  cases rr with
  | cons r' rr=>
   cases rr
   obtain ⟨t,rfl⟩:=r
   obtain ⟨t',rfl⟩:=r'
   exact call_range_2 (Wc I1 q1 q2 q3 q4 q)
def tFor (wi:TI) (g:TG) (tb:TS):TS:=fun D σ H=>wi σ H fun J H1=>∃ W:Nat->Nat->St->Hp->Prop,(∃ m,W 0 m σ H1)/\∀ i m σ H,W i m σ H ->
 (J.stop i H/\D.nx σ H)\/(J.go i H/\∃ N:St->Hp->Prop,(∀ σ' H',N σ' H'->∃ m',m' < m/\W (i+1) m' σ' H')/\∀ x H',J.yld i H x H'->g x σ H' fun σ2 H2=>tb { D with nx:=N,ct:=N,bk:=D.nx } σ2 H2)
noncomputable def Zr (fp:List Addr) (h:Heap):List (Addr×Obj):=fp.filterMap fun b=>(h.get? b).map fun o=>(b,o)
theorem xq {fp:List Addr}{h:Heap}{b:Addr}{o:Obj}(hb:b∈fp) (e:h.get? b=some o):(b,o)∈Zr fp h:=oG.mpr ⟨b,hb,by rw [e];rfl⟩
theorem Jd {fp:List Addr}{h:Heap}{p:Addr×Obj}(hp:p∈Zr fp h):p.1∈fp/\h.get? p.1=some p.2:=by
 obtain ⟨b,hb,e⟩:=oG.mp hp
 cases q:h.get? b with
 | none=>rw [q] at e;cases e
 | some o=>
  rw [q] at e
  have e':(b,o)=p:=ϛ e
  subst e'
  exact ⟨hb,q⟩
theorem Inv.pinned {pJ:List (Addr×Obj)}{σ:St}{H:Hp}{s:ν}{fp:List Addr}(I:Inv X pJ σ H s) (hf:∀ b∈fp,FpOk X pJ H b) (ho:∀ b∈fp,∃ o,s.heap.get? b=some o/\∀ v,o.data≠.cell v):Inv X (pJ++Zr fp s.heap) σ H s:=
 I.YC fun p hp=>(Λ.mp hp).elim (fun z=>I.pin p (Ρ _ z)) fun z=>by
  obtain ⟨hb,e⟩:=Jd z
  obtain ⟨f0,f1,f2,_⟩:=hf p.1 hb
  obtain ⟨o,e',d⟩:=ho p.1 hb
  rw [e] at e';cases e'
  exact ⟨e,f0,f1,f2,d⟩
theorem Inv.xY {pJ pl:List (Addr×Obj)}{σ:St}{H:Hp}{s:ν}(I:Inv X (pJ++pl) σ H s):Inv X pJ σ H s:=I.YC fun p hp=>I.pin p (Ρ _ (bL _ hp))
theorem zdN {iter:Expr}{body:List Stmt}{wi:TI}{g:TG}{tb:TS}{pos:Pos}(hp:gG (Ξ X.prog X.w) X.A X.env X.xe) (hc:X.calm=true) (hi:PI X tg iter wi) (hg:PG X tg g) (hb:PSs X body tb)
  (hs:∀ x,bO iter X.env x=pure x:=by intro _;rfl):PS X (.For tg iter body [] pos) (tFor wi g tb):=by
 intro pJ s σ H D I h
 refine wpAny_For (thn (hi pJ s σ H _ I h) fun v s1 h1=>thn h1 fun itv s2 h2=>?_) hs
 obtain ⟨it,fp,tn,J,H2,e,I2,T,st2,f2,W,⟨m0,w0⟩,turn⟩:=h2
 subst e
 have stat:∀ {H':Hp},(∀ b∈fp,H' b=none)->∀ b∈fp,FpOk X pJ H' b:=fun hn b hb=>⟨hn b hb,(f2 b hb).2⟩
 refine codeAny_forLoop_any (fun n s'=>∃ i σ' H',Inv X pJ σ' H' s'/\tn i s'.heap/\(∀ b∈fp,H' b=none)/\W i n σ' H') ?_ m0 ⟨0,σ,H2,I2,st2,fun b hb=>(f2 b hb).1,w0⟩
 rintro n s3 ⟨i,σ3,H3,I3,st3,fr3,w3⟩
 rcases turn i n σ3 H3 w3 with ⟨stop,qn⟩ | ⟨go,N,hN,step⟩
 ·refine cQ hp (thn (T.done X rfl rfl rfl hc i pJ s3 σ3 H3 X.xe I3 (stat fr3) st3 stop) fun r s4 ⟨hr,I4⟩=>?_)
  subst hr
  exact m6 ⟨σ3,H3,I4,qn⟩
 ·refine cQ hp (thn (T.item X rfl rfl rfl hc i pJ s3 σ3 H3 X.xe I3 (stat fr3) st3 go) fun r s4 ⟨u,hr,h4⟩=>?_)
  subst hr
  refine cQ hp (thn h4 fun _ s5 ⟨x,H5,I5,r5,y5,st5,fr5⟩=>?_)
  have I5':=I5.pinned (stat fr5) (T.obj _ _ st5)
  refine cQ hp (thn (hg _ s5 σ3 H5 x u _ I5' r5 (step x H5 y5)) fun _ s6 ⟨σ6,H6,I6,q6⟩=>?_)
  refine cQ hp (thn (hb _ s6 σ6 H6 _ I6 q6) fun f s7 q7=>?_)
  have again:∀ {σ7:St}{H7:Hp},Inv X (pJ++Zr fp s5.heap) σ7 H7 s7->N σ7 H7->∃ m,m < n/\∃ i σ' H',Inv X pJ σ' H' s7/\tn i s7.heap/\(∀ b∈fp,H' b=none)/\W i m σ' H':=fun {σ7 H7} I7 n7=>by
   obtain ⟨m',hm,w7⟩:=hN σ7 H7 n7
   refine ⟨m',hm,i+1,σ7,H7,I7.xY,T.keep _ _ _ st5 fun b hb o e=>(I7.pin (b,o) (Ρ _ (Ρ _ (xq hb e)))).1,fun b hb=>?_,w7⟩
   obtain ⟨o,e,d⟩:=T.obj _ _ st5 b hb
   exact (I7.pin (b,o) (Ρ _ (Ρ _ (xq hb e)))).2.1
  cases f with
  | next=>obtain ⟨σ7,H7,I7,n7⟩:=q7;exact again I7 n7
  | cont=>obtain ⟨σ7,H7,I7,n7⟩:=q7;exact again I7 n7
  | brk=>obtain ⟨σ7,H7,I7,q7⟩:=q7;exact ⟨σ7,H7,I7.xY,q7⟩
  | ret v=>obtain ⟨x7,σ7,H7,I7,r7,q7⟩:=q7;exact ⟨x7,σ7,H7,I7.xY,r7,q7⟩
end
abbrev R2:=V->V->Hp->VK->Prop
def OpR (X:Cx) (f:δ->δ->Sem δ) (r:R2):Prop:=
 ∀ (pJ:List (Addr×Obj)) (s:ν) (σ:St) (H:Hp) (x y:V) (v u:δ) (Q:VK),Inv X pJ σ H s->RelV x v->RelV y u->r x y H Q ->
  Θ (Ξ X.prog X.w) X.A (f v u) (EP X pJ σ Q) X.xe s
def CallR (X:Cx) (f:δ) (r:List V->Hp->VK->Prop):Prop:=
 ∀ (pJ:List (Addr×Obj)) (s:ν) (σ:St) (H:Hp) (xs:List V) (us:List δ) (Q:VK),Inv X pJ σ H s->Vals xs us->r xs H Q ->
  Θ (Ξ X.prog X.w) X.A (call f us) (EP X pJ σ Q) X.xe s
def tOp (r:R2) (ta tb:TE):TE:=fun σ H Q=>ta σ H fun x H1=>tb σ H1 fun y H2=>r x y H2 Q
def rI (C:Int->Int->Prop) (g:Int->Int->V):R2:=fun x y H Q=>∃ i j,x=.int i/\y=.int j/\C i j/\Q (g i j) H
def rI0 (g:Int->Int->V):R2:=fun x y H Q=>∃ i j,x=.int i/\y=.int j/\Q (g i j) H
section
variable {X:Cx}{a b c:Expr}{ta tb tc:TE}{pos:Pos}
theorem binT (ha:PE X a ta) (hb:PE X b tb) {pJ:List (Addr×Obj)}{s:ν}{σ:St}{H:Hp}{R:V->V->Hp->Prop}(I:Inv X pJ σ H s)
  (h:ta σ H fun x H1=>tb σ H1 fun y H2=>R x y H2) {Q:VSP}{f:δ->δ->Sem δ}
  (hf:∀ v u s2 x y H2,Inv X pJ σ H2 s2->RelV x v->RelV y u->R x y H2->Θ (Ξ X.prog X.w) X.A (f v u) Q X.xe s2):
  Θ (Ξ X.prog X.w) X.A (eval a X.env) (fun v s₁=>Θ (Ξ X.prog X.w) X.A (eval b X.env) (fun u s₂=>Θ (Ξ X.prog X.w) X.A (f v u) Q X.xe s₂) X.xe s₁) X.xe s:=by
 refine thn (ha pJ s σ H _ I h) fun v s1 ⟨x,H1,I1,r1,q1⟩=>?_
 refine thn (hb pJ s1 σ H1 _ I1 q1) fun u s2 ⟨y,H2,I2,r2,q2⟩=>?_
 exact hf v u s2 x y H2 I2 r1 r2 q2
theorem pe_op {op:lU}{r:R2}(ho:OpR X (bI op) r) (ha:PE X a ta) (hb:PE X b tb):PE X (.BinOp a op b pos) (tOp r ta tb):=by
 intro pJ s σ H Q I h
 exact wpAny_BinOp (binT ha hb I h fun v u s2 x y H2 I2 rx ry q=>ho pJ s2 σ H2 x y v u Q I2 rx ry q)
theorem opI {f:δ->δ->Sem δ}{C:Int->Int->Prop}{g:Int->Int->Int}
  (rule:∀ (i j:Int) (t u:Tok) (s:ν) (Q:VSP) (E:VSP),C i j->Q (.int (g i j) s.toks) { s with toks:=s.toks+1 }->Θ (Ξ X.prog X.w) X.A (f (.int i t) (.int j u)) Q E s):
  OpR X f (rI C fun i j=>.int (g i j)):=by
 intro pJ s σ H x y v u Q I rx ry h
 obtain ⟨i,j,rfl,rfl,hc,q⟩:=h
 obtain ⟨t,rfl⟩:=rx
 obtain ⟨t',rfl⟩:=ry
 exact rule i j t t' s _ _ hc ⟨.int (g i j),H,I.tok _,⟨_,rfl⟩,q⟩
theorem opI0 {f:δ->δ->Sem δ}{g:Int->Int->Int}
  (rule:∀ (i j:Int) (t u:Tok) (s:ν) (Q:VSP) (E:VSP),Q (.int (g i j) s.toks) { s with toks:=s.toks+1 }->Θ (Ξ X.prog X.w) X.A (f (.int i t) (.int j u)) Q E s):
  OpR X f (rI0 fun i j=>.int (g i j)):=by
 intro pJ s σ H x y v u Q I rx ry h
 obtain ⟨i,j,rfl,rfl,q⟩:=h
 obtain ⟨t,rfl⟩:=rx
 obtain ⟨t',rfl⟩:=ry
 exact rule i j t t' s _ _ ⟨.int (g i j),H,I.tok _,⟨_,rfl⟩,q⟩
theorem opB0 {f:δ->δ->Sem δ}{g:Int->Int->Bool}
  (rule:∀ (i j:Int) (t u:Tok) (s:ν) (Q:VSP) (E:VSP),Q (.bool (g i j)) s->Θ (Ξ X.prog X.w) X.A (f (.int i t) (.int j u)) Q E s):
  OpR X f (rI0 fun i j=>.bl (g i j)):=by
 intro pJ s σ H x y v u Q I rx ry h
 obtain ⟨i,j,rfl,rfl,q⟩:=h
 obtain ⟨t,rfl⟩:=rx
 obtain ⟨t',rfl⟩:=ry
 exact rule i j t t' s _ _ ⟨.bl (g i j),H,I,rfl,q⟩
def CPow (i j:Int):Prop:=0<=j/\j<=1000000/\i.natAbs < 2 ^ 64
def CMul (i j:Int):Prop:=(-(2 ^ 64) < i/\i < 2 ^ 64)\/(-(2 ^ 64) < j/\j < 2 ^ 64)
theorem CMul.ok {i j:Int}(h:CMul i j):IntMulOk i j:=by
 rcases h with ⟨h1,h2⟩ | ⟨h1,h2⟩
 ·exact .of_left (intBits_le_64 h1 h2)
 ·exact .of_right (intBits_le_64 h1 h2)
theorem zec:OpR X (bI .Add) (rI0 fun i j=>.int (i+j)):=opI0 fun _ _ _ _ _ _ _ q=>add_int q
theorem zd2:OpR X (bI .Sub) (rI0 fun i j=>.int (i - j)):=opI0 fun _ _ _ _ _ _ _ q=>sub_int q
theorem zd6:OpR X (bI .Mult) (rI CMul fun i j=>.int (i*j)):=opI fun _ _ _ _ _ _ _ hc q=>mul_int q hc.ok
theorem zd7:OpR X (bI .Mod) (rI (fun _ j=>0 < j) fun i j=>.int (i % j)):=opI fun i j _ _ _ _ _ hc q=>by
 have h1:(0:Int) < j:=hc
 exact mod_int' (by lia) (by rw [Int.fmod_eq_emod_of_nonneg i (by lia)];exact q)
theorem zd4:OpR X (bI .Pow) (rI CPow fun i j=>.int (i ^ j.toNat)):=opI fun _ _ _ _ _ _ _ hc q=>pow_int_small hc.1 hc.2.1 hc.2.2 q
end
section
variable {X:Cx}{a b c:Expr}{ta tb tc:TE}{pos:Pos}
theorem Z1 {pJ:List (Addr×Obj)}{σ:St}{H:Hp}{s:ν}{Q:VK}{k k':Bool}(I:Inv X pJ σ H s) (q:Q (.bl k) H) (e:k=k'):EP X pJ σ Q (.bool k') s:=by
 subst e
 exact ⟨.bl k,H,I,rfl,q⟩
theorem op_lt:OpR X (ώ .Lt) (rI0 fun i j=>.bl (decide (i < j))):=opB0 fun _ _ _ _ _ _ _ q=>lt_int q
theorem op_le:OpR X (ώ .LtE) (rI0 fun i j=>.bl (decide (i<=j))):=opB0 fun _ _ _ _ _ _ _ q=>le_int q
theorem op_gt:OpR X (ώ .Gt) (rI0 fun i j=>.bl (decide (j < i))):=opB0 fun _ _ _ _ _ _ _ q=>gt_int q
theorem op_ge:OpR X (ώ .GtE) (rI0 fun i j=>.bl (decide (j<=i))):=opB0 fun _ _ _ _ _ _ _ q=>ge_int q
theorem Ja:OpR X (ώ .In) (fun x y H Q=>∃ i j,x=.str i/\y=.str j/\Q (.bl (!(fu j i 0 j.length 1).isEmpty)) H):=by
 intro pJ s σ H x y v u Q I rx ry h
 obtain ⟨i,j,rfl,rfl,q⟩:=h
 obtain ⟨t,rfl⟩:=rx
 obtain ⟨t',rfl⟩:=ry
 exact in_str (Z1 I q rfl)
theorem zd8:OpR X (ώ .Is) (fun x y H Q=>y=.non/\Q (.bl (decide (x=.non))) H):=by
 intro pJ s σ H x y v u Q I rx ry h
 obtain ⟨rfl,q⟩:=h
 cases ry
 refine is_none_gen (Z1 I q ?_)
 cases x <;> first
  | (cases rx;rfl)
  | (obtain ⟨t,rfl⟩:=rx;rfl)
theorem zbZ:OpR X (ώ .IsNot) (fun x y H Q=>y=.non/\Q (.bl (!decide (x=.non))) H):=by
 intro pJ s σ H x y v u Q I rx ry h
 obtain ⟨rfl,q⟩:=h
 cases ry
 refine isnot_none_gen (Z1 I q ?_)
 cases x <;> first
  | (cases rx;rfl)
  | (obtain ⟨t,rfl⟩:=rx;rfl)
theorem OpR.or {f:δ->δ->Sem δ}{r r':R2}(h:OpR X f r) (h':OpR X f r'):OpR X f (fun x y H Q=>r x y H Q\/r' x y H Q):=by
 intro pJ s σ H x y v u Q I rx ry q
 rcases q with q | q
 ·exact h pJ s σ H x y v u Q I rx ry q
 ·exact h' pJ s σ H x y v u Q I rx ry q
theorem zbU {op:eU}{r:R2}(ho:OpR X (ώ op) r) (ha:PE X a ta) (hb:PE X b tb) (hm:behindInMarks op b=false):PE X (.Compare a [op] [b] pos) (tOp r ta tb):=by
 intro pJ s σ H Q I h
 exact wpAny_Compare1 (binT ha hb I h fun v u s2 x y H2 I2 rx ry q=>ho pJ s2 σ H2 x y v u Q I2 rx ry q) hm
def tTest (t:TE):TT:=fun σ H Q=>t σ H fun x H'=>∃ k,x=.bl k/\Q k H'
theorem zbK {op:eU}{r:R2}(ho:OpR X (ώ op) r) (ha:PE X a ta) (hb:PE X b tb) (hm:behindInMarks op b=false):PT X (.Compare a [op] [b] pos) (tTest (tOp r ta tb)):=by
 intro pJ s σ H Q I h
 refine wpAny_isTrue_Compare1 (thn (ha pJ s σ H _ I h) fun v s1 ⟨x,H1,I1,r1,q1⟩=>thn (hb pJ s1 σ H1 _ I1 q1) fun u s2 ⟨y,H2,I2,r2,q2⟩=>
  thn (ho pJ s2 σ H2 x y v u _ I2 r1 r2 q2) fun c s3 ⟨z,H3,I3,r3,k,e,q3⟩=>?_) hm
 subst e
 cases r3
 exact ϲ ⟨H3,I3,q3⟩
def Ua (r r':R2) (ta tb tc:TE):TE:=fun σ H Q=>ta σ H fun x H1=>tb σ H1 fun y H2=>r x y H2 fun z H3=>∃ k,z=.bl k /\
 (if k=true then tc σ H3 fun w' H4=>r' y w' H4 Q else Q (.bl false) H3)
theorem Qz {op op':eU}{r r':R2}(ho:OpR X (ώ op) r) (ho':OpR X (ώ op') r') (ha:PE X a ta) (hb:PE X b tb) (hc:PE X c tc)
  (hm:lastMarks [op,op'] [b,c]=false:=by with_unfolding_all rfl):PE X (.Compare a [op,op'] [b,c] pos) (Ua r r' ta tb tc):=by
 intro pJ s σ H Q I h
 refine Compare_chain (thn (ha pJ s σ H _ I h) fun v s1 ⟨x,H1,I1,r1,q1⟩=>chain_link (thn (hb pJ s1 σ H1 _ I1 q1) fun u s2 ⟨y,H2,I2,r2,q2⟩=>
  thn (ho pJ s2 σ H2 x y v u _ I2 r1 r2 q2) fun d s3 ⟨z,H3,I3,r3,k,e,q3⟩=>?_)) hm
 subst e
 cases r3
 refine ϲ ?_
 cases k with
 | false=>exact ite_ff ⟨.bl false,H3,I3,rfl,q3⟩
 | true=>exact ite_tt (chain_last (thn (hc pJ s3 σ H3 _ I3 q3) fun w' s4 ⟨z',H4,I4,r4,q4⟩=>ho' pJ s4 σ H4 y z' u w' Q I4 r2 r4 q4))
theorem Qm {op op':eU}{r r':R2}(ho:OpR X (ώ op) r) (ho':OpR X (ώ op') r') (ha:PE X a ta) (hb:PE X b tb) (hc:PE X c tc)
  (hm:lastMarks [op,op'] [b,c]=false:=by with_unfolding_all rfl):PT X (.Compare a [op,op'] [b,c] pos) (tTest (Ua r r' ta tb tc)):=by
 intro pJ s σ H Q I h
 refine isTrue_chain (thn (ha pJ s σ H _ I h) fun v s1 ⟨x,H1,I1,r1,q1⟩=>test_link (thn (hb pJ s1 σ H1 _ I1 q1) fun u s2 ⟨y,H2,I2,r2,q2⟩=>
  thn (ho pJ s2 σ H2 x y v u _ I2 r1 r2 q2) fun d s3 ⟨z,H3,I3,r3,k,e,q3⟩=>?_)) hm
 subst e
 cases r3
 refine ϲ ?_
 cases k with
 | false=>
  obtain ⟨k',e',q'⟩:=q3
  cases e'
  exact ite_ff ⟨H3,I3,q'⟩
 | true=>
  refine ite_tt (test_last (thn (hc pJ s3 σ H3 _ I3 q3) fun w' s4 ⟨z',H4,I4,r4,q4⟩=>thn (ho' pJ s4 σ H4 y z' u w' _ I4 r2 r4 q4) fun d' s5 ⟨z2,H5,I5,r5,k2,e2,q5⟩=>?_))
  subst e2
  cases r5
  exact ϲ ⟨H5,I5,q5⟩
theorem jL:(sizeLine:Nat) < 2 ^ 63:=by rw [Ϻ];decide
theorem Vn:OpR X (bI .Add) (fun x y H Q=>∃ i j,x=.str i/\y=.str j/\i.length+j.length<=sizeLine/\Q (.str (i++j)) H):=by
 intro pJ s σ H x y v u Q I rx ry h
 obtain ⟨i,j,rfl,rfl,hz,q⟩:=h
 obtain ⟨t,rfl⟩:=rx
 obtain ⟨t',rfl⟩:=ry
 exact add_str (fun t' tk=>⟨.str (i++j),H,I.tok _,⟨_,rfl⟩,q⟩) hz
theorem vals1 {x:V}{us:List δ}(r:Vals [x] us):∃ u,us=[u]/\RelV x u:=by
 cases r with
 | cons r1 r2=>cases r2;exact ⟨_,rfl,r1⟩
theorem vals2 {x y:V}{us:List δ}(r:Vals [x,y] us):∃ u w',us=[u,w']/\RelV x u/\RelV y w':=by
 cases r with
 | cons r1 r2=>
  cases r2 with
  | cons r3 r4=>cases r4;exact ⟨_,_,rfl,r1,r3⟩
theorem zae:CallR X (.builtin "abs") (fun xs H Q=>∃ i,xs=[.int i]/\Q (.int (if i < 0 then -i else i)) H):=by
 intro pJ s σ H xs us Q I r h
 obtain ⟨i,rfl,q⟩:=h
 obtain ⟨u,rfl,t,rfl⟩:=vals1 r
 exact call_abs_int fun u tk=>⟨.int (if i < 0 then -i else i),H,I.tok _,⟨_,rfl⟩,q⟩
theorem Kv (hc:X.calm=true):CallR X (.builtin "max") (fun xs H Q=>∃ i j,xs=[.int i,.int j]/\Q (.int (if j > i then j else i)) H):=by
 intro pJ s σ H xs us Q I r h
 obtain ⟨i,j,rfl,q⟩:=h
 obtain ⟨u,w',rfl,⟨t,rfl⟩,⟨t',rfl⟩⟩:=vals2 r
 refine max_two_ints (I.ok.hd hc) fun h' tk k=>⟨_,H,I.kept k,?_,q⟩
 by_cases hj:j > i
 ·rw [if_pos hj,if_pos hj];exact ⟨_,rfl⟩
 ·rw [if_neg hj,if_neg hj];exact ⟨_,rfl⟩
theorem Ku (hc:X.calm=true):CallR X (.builtin "min") (fun xs H Q=>∃ i j,xs=[.int i,.int j]/\Q (.int (if j < i then j else i)) H):=by
 intro pJ s σ H xs us Q I r h
 obtain ⟨i,j,rfl,q⟩:=h
 obtain ⟨u,w',rfl,⟨t,rfl⟩,⟨t',rfl⟩⟩:=vals2 r
 refine min_two_ints (I.ok.hd hc) fun h' tk k=>⟨_,H,I.kept k,?_,q⟩
 by_cases hj:j < i
 ·rw [if_pos hj,if_pos hj];exact ⟨_,rfl⟩
 ·rw [if_neg hj,if_neg hj];exact ⟨_,rfl⟩
theorem Yg:CallR X (.type "int") (fun xs H Q=>(∃ i,xs=[.int i]/\Q (.int i) H)\/∃ k,xs=[.bl k]/\Q (.int (if k then 1 else 0)) H):=by
 intro pJ s σ H xs us Q I r h
 rcases h with ⟨i,rfl,q⟩ | ⟨k,rfl,q⟩
 ·obtain ⟨u,rfl,t,rfl⟩:=vals1 r
  exact call_int_int ⟨.int i,H,I,⟨_,rfl⟩,q⟩
 ·obtain ⟨u,rfl,r1⟩:=vals1 r
  cases r1
  exact call_int_bool ⟨.int (if k then 1 else 0),H,I.tok _,⟨_,rfl⟩,q⟩
end
structure ObjM (h:Heap) (x dx C:Addr) (mA:Str->Option δ):Prop where
 obj:h.get? x=some (W.instObj C dx)
 ns:h.Ns1 dx mA
 ne:dx≠x
set_option tactic.hygienic true in
theorem Ju {h:Heap}{dx:Addr}{mA:Str->Option δ}(n:h.Ns1 dx mA):∃ od,h.get? dx=some od/\∀ name,W.lookIn name od=some (mA name):=by
 obtain ⟨o,es,ep,ho,hd,hk,_,hm⟩:=n
 refine ⟨o,ho,fun name=>?_⟩
 have e:=hm name
 unfold nsFind findBy at e
 rw [<- Array.find?_toList] at e
 unfold W.lookIn
 rw [hd]
 dsimp only
 split
 ·rename_i y q
  rw [q] at e
  exact congrArg some e
 ·rename_i q
  rw [q] at e
  have a:es.toList.any (·.refKey)=false:=by
   rw [List.any_eq_false]
   intro y hy
   obtain ⟨z,t,hkey⟩:=hk y (Array.mem_toList_iff.mp hy)
   simp [DictEntry.refKey,hkey]
  have a':¬ es.toList.any (·.refKey)=true:=by rw [a];exact ϗ
  rw [if_neg a']
  exact congrArg some e
theorem ObjM.look {h:Heap}{x dx C:Addr}{mA:Str->Option δ}(I:ObjM h x dx C mA):∃ od,W.InstAt h x (W.instObj C dx) C (some od)/\∀ name,W.lookIn name od=some (mA name):=
 let ⟨od,ho,hl⟩:=Ju I.ns
 ⟨od,⟨I.obj,rfl,rfl,ho⟩,hl⟩
theorem RelO.some_of {v:V}{o:Option δ}(r:RelO (some v) o):∃ u,o=some u/\RelV v u:=by
 cases o with
 | none=>exact (show False from r).elim
 | some u=>exact ⟨u,rfl,r⟩
section
variable {P:Τ}{w:ϝ}{H H':Hp}{h h':Heap}{a C dx:Addr}{fs fs':List (Str×V)}
theorem zcs (hok:HOk P w H h) (e:H a=some (.ins C dx fs)):∃ mA,ObjM h a dx C mA/\(∀ f,RelO (fs.lookup f) (mA f))/\PySem.Within mA (fs.map (·.1))/\fs.length<=1000/\H dx=some (.own a):=by
 obtain ⟨d,z,ne,ob,mA,n,r,q⟩:=(show ObjOk P w H h a (.ins C dx fs) from hok a _ e)
 exact ⟨mA,⟨ob,n,ne⟩,r,q,z,d⟩
end
structure Cls (K:W.Frag) (C:Addr):Prop where
 pg:W.plainGet K C Str.empty=true
 hd:W.hasDictIn K C=true
 po:W.plainOver K C=true
 sa:W.findIn K (.ref C) "__setattr__"=some (some (.builtin "object.__setattr__"))
theorem Cls.get {K:W.Frag}{C:Addr}(c:Cls K C) (f:Str):W.plainGet K C f=true:=c.pg
section
variable {X:Cx}{pJ:List (Addr×Obj)}{σ:St}{H:Hp}{s:ν}{A:ϟ}{E:VSP}{Q:VSP}{c:δ}{b:Bool}
inductive TyOf (K:W.Frag) (H:Hp):V->δ->Prop where
 | non:TyOf K H .non (.type "NoneType")
 | bl (x:Bool):TyOf K H (.bl x) (.type "bool")
 | int (i:Int):TyOf K H (.int i) (.type "int")
 | str (x:Str):TyOf K H (.str x) (.type "str")
 | flt (x:UInt64):TyOf K H (.flt x) (.type "float")
 | lst {a:Addr}{xs:List V}(e:H a=some (.lst xs)):TyOf K H (.ref a) (.type "list")
 | frz {a:Addr}{o:Obj}{xs:List V}(e:H a=some (.frz o (.lst xs))):TyOf K H (.ref a) (.type "list")
 | tup {a:Addr}{xs:List V}(e:H a=some (.tup xs)):TyOf K H (.ref a) (.type "tuple")
 | dK {a:Addr}{kvs:List (Key×V)}(e:H a=some (.dK kvs)):TyOf K H (.ref a) (.type "dict")
 | dT {a:Addr}{kvs:List (List Key×V)}(e:H a=some (.dT kvs)):TyOf K H (.ref a) (.type "dict")
 | ins {a C dx:Addr}{fs:List (Str×V)}(e:H a=some (.ins C dx fs)) (cl:Cls K C) (ha:W.findIn K (.ref C) "__class__"=some (some (.builtin "object.__class__")))
   (hn:W.specialIn K (.builtin "object.__class__") "__get__"=some (some (.builtin "getset_descriptor.__get__"))) (htk:W.takesIn K (.builtin "object.__class__")=some true)
   (hm:W.mroIn K C (.type "object")=some true):TyOf K H (.ref a) (.ref C)
theorem JN {x:V}{u t:δ}(I:Inv X pJ σ H s) (rx:RelV x u) (ty:TyOf X.K H x t) (e:W.kitOne X.K t c=some b) (h:∀ tk,Q (.bool b) { s with toks:=tk }):
  Θ (Ξ X.prog X.w) A (call (.builtin "isinstance") [u,c]) Q E s:=by
 cases ty with
 | non=>cases (show u=Ο from rx);exact W.kia_one W.kitx_none I.kIn ao e (fun z=>nomatch z) h
 | bl y=>cases (show u=ύ y from rx);exact W.kia_one W.kitx_bool I.kIn ao e (fun z=>nomatch z) h
 | int i=>obtain ⟨t,q⟩:=(show ∃ t,u=ϙ i t from rx);cases q;exact W.kia_one W.kitx_int I.kIn ao e (fun z=>nomatch z) h
 | str y=>obtain ⟨t,q⟩:=(show ∃ t,u=aQ y t from rx);cases q;exact W.kia_one W.kitx_str I.kIn ao e (fun z=>nomatch z) h
 | flt y=>obtain ⟨t,q⟩:=(show ∃ t,u=δ.float y t from rx);cases q;exact W.kia_one W.kitx_float I.kIn ao e (fun z=>nomatch z) h
 | @lst a xs ea=>
  cases (show u=Ε a from rx)
  obtain ⟨_,_,n,_,h1⟩:=(show ObjOk X.prog X.w H s.heap a (.lst xs) from I.hok a _ ea)
  exact W.kia_one W.kitx_list I.kIn ⟨_,h1,rfl⟩ e (fun z=>nomatch z) h
 | @frz a ob xs ea=>
  cases (show u=Ε a from rx)
  obtain ⟨_,_,_,n,_,h1⟩:=(show ObjOk X.prog X.w H s.heap a (.frz ob (.lst xs)) from I.hok a _ ea)
  exact W.kia_one W.kitx_list I.kIn ⟨_,h1,rfl⟩ e (fun z=>nomatch z) h
 | @tup a xs ea=>
  cases (show u=Ε a from rx)
  obtain ⟨_,_,_,p⟩:=(show ObjOk X.prog X.w H s.heap a (.tup xs) from I.hok a _ ea)
  obtain ⟨o,h1,h2,_⟩:=p
  exact W.kia_one W.kitx_tuple I.kIn ⟨o,h1,h2⟩ e (fun z=>nomatch z) h
 | @dK a kvs ea=>
  cases (show u=Ε a from rx)
  obtain ⟨_,_,vs,_,p⟩:=(show ObjOk X.prog X.w H s.heap a (.dK kvs) from I.hok a _ ea)
  obtain ⟨o,es,ep,h1,h2,_⟩:=p
  exact W.kia_one W.kitx_dict I.kIn ⟨o,h1,h2.1⟩ e (fun z=>nomatch z) h
 | @dT a kvs ea=>
  cases (show u=Ε a from rx)
  obtain ⟨_,_,xs,_,o,es,ep,h1,h2,_⟩:=(show ObjOk X.prog X.w H s.heap a (.dT kvs) from I.hok a _ ea)
  exact W.kia_one W.kitx_dict I.kIn ⟨o,h1,h2.1⟩ e (fun z=>nomatch z) h
 | @ins a C dx fs ea cl ha hn htk hm=>
  cases (show u=Ε a from rx)
  obtain ⟨mA,O,_⟩:=zcs I.hok ea
  obtain ⟨od,J,_⟩:=O.look
  exact W.kia_one (W.kitx_own (cl.get _) cl.hd ha hn htk hm) I.kIn J e (fun z=>nomatch z) h
end
structure Room (k:Nat) (A:ϟ):Prop where
 hd:A.handled=none
 gd:A.guards=some []
 dp:A.depth+3*k+5 < recursionLimit
 un:A.units+16*k+200 < aj
theorem Room.mono {j k:Nat}{A:ϟ}(r:Room k A) (h:j<=k):Room j A:=⟨r.hd,r.gd,by have:=r.dp;lia,by have:=r.un;lia⟩
theorem Room.deeper {k:Nat}{A:ϟ}(r:Room (k+1) A) (env:Env):Room k (A.deeper env):=
 ⟨r.hd,r.gd,by have:=r.dp;show A.depth+1+3*k+5 < _;lia,by have:=r.un;show A.units+3+16*k+200 < _;lia⟩
theorem Room.in1 {k:Nat}{A:ϟ}(r:Room (k+1) A):Room k A.in1:=
 ⟨r.hd,r.gd,by have:=r.dp;show A.depth+3*k+5 < _;lia,by have:=r.un;show A.units+1+16*k+200 < _;lia⟩
theorem Room.depth {k:Nat}{A:ϟ}(r:Room k A):A.depth < recursionLimit:=by have:=r.dp;lia
theorem Room.units {k:Nat}{A:ϟ}(r:Room k A):A.units+64 < aj:=by have:=r.un;lia
def tNil:TA:=fun _ H Q=>Q [] H
def tCons (ta:TE) (tr:TA):TA:=fun σ H Q=>ta σ H fun x H1=>tr σ H1 fun xs H2=>Q (x::xs) H2
section
variable {X:Cx}{e:Expr}{es:List Expr}{te:TE}{t:TA}{pos:Pos}
theorem yV:PA X [] tNil:=fun _ _ _ _ H Q I h=>Calls.spliced_nil ⟨[],H,I,.nil,h⟩
theorem zV (ha:PE X e te) (hr:PA X es t) (hs:Ϥ (e::es) X.env=(false,eval e X.env)::Ϥ es X.env:=by rfl):PA X (e::es) (tCons te t):=by
 intro pos pJ s σ H Q I h
 rw [hs]
 show Θ _ _ (spliced ((false,eval e X.env)::eV pos (Ϥ es X.env))) _ _ s
 refine Calls.spliced_cons (thn (ha pJ s σ H _ I h) fun u s1 ⟨x,H1,I1,r1,q1⟩=>?_)
 exact thn (hr pos pJ s1 σ H1 _ I1 q1) fun us s2 ⟨xs,H2,I2,r2,q2⟩=>⟨x::xs,H2,I2,.cons r1 r2,q2⟩
def tTup (t:TA):TE:=fun σ H Q=>t σ H fun xs H1=>xs.length<=sizeLine/\∀ p,H1 p=none->Q (.ref p) (upd H1 p (.tup xs))
def tLst (t:TA):TE:=fun σ H Q=>t σ H fun xs H1=>xs.length<=sizeLine/\∀ p,H1 p=none->Q (.ref p) (upd H1 p (.lst xs))
theorem zdS {x1} (h:PA X es t):PE X (.Tuple es x1 pos) (tTup t):=by
 intro pJ s σ H Q I hq
 refine wpAny_Tuple_spliced (thn (h pos pJ s σ H _ I hq) fun us s1 ⟨xs,H1,I1,r,z,q⟩=>⟨by rw [<- r.length];exact z,?_⟩)
 have hf:H1 s1.heap.objs.size=none:=I1.hok.fresh (π _)
 refine ⟨.ref s1.heap.objs.size,upd H1 s1.heap.objs.size (.tup xs),I1.laid (t':=s1.toks) (fun b u e=>η _ e) (π _) ?_,rfl,q _ hf⟩
 exact ⟨z,us,r,⟨_,Δ _ rfl,rfl,_,rfl⟩⟩
theorem zdW (h:PA X es t):PE X (.List es pos) (tLst t):=by
 intro pJ s σ H Q I hq
 refine wpAny_List_spliced (thn (h pos pJ s σ H _ I hq) fun us s1 ⟨xs,H1,I1,r,z,q⟩=>⟨by rw [<- r.length];exact z,?_⟩)
 have hf:H1 s1.heap.objs.size=none:=I1.hok.fresh (π _)
 refine ⟨.ref s1.heap.objs.size,upd H1 s1.heap.objs.size (.lst xs),I1.laid (t':=s1.toks) (fun b u e=>η _ e) (π _) ?_,rfl,q _ hf⟩
 exact ⟨z,us,0,r,Δ _ rfl⟩
end
abbrev Sp:=List V->Hp->VK->XK->Prop
abbrev CXT:=List Env->Hp->ν->XK->δ->ν->Prop
structure Env0 (P:Τ) (w:ϝ) (K:W.Frag) (mg:Str->Option δ) (base:Heap) (A:ϟ) (outer:List Env) (s:ν) (H:Hp):Prop where
 frames:A.frames=some outer
 mod:Mod K mg base
 bs:∀ b o,base.get? b=some o->s.heap.get? b=some o/\H b=none
 bsz:base.objs.size<=s.heap.objs.size
 funs:s.heap.FunFrames base outer
 frf:∀ b∈frs outer,H b=none
 hok:HOk P w H s.heap
 bare:gZ s.gens
def CE (outer:List Env) (P:Τ) (w:ϝ) (H:Hp) (s:ν) (Q:VK) (u:δ) (s':ν):Prop:=
 ∃ v H',s'.os=s.os/\gZ s'.gens/\Un (frs outer) [] H H' s.heap s'.heap/\HOk P w H' s'.heap/\RelV v u/\Q v H'
def CR (CX:CXT) (outer:List Env) (P:Τ) (w:ϝ) (H:Hp) (s:ν) (Q:VK) (E:XK) (r:Result) (s':ν):Prop:=
 match r with
 | .ok (.ret u)=>CE outer P w H s Q u s'
 | .ok _=>False
 | .error e=>CX outer H s E e s'
structure FnOk (P:Τ) (w:ϝ) (K:W.Frag) (mg:Str->Option δ) (base:Heap) (CX:CXT) (k:Nat) (f:Addr) (fd:bj) (ps:List Str) (sp:Sp):Prop where
 len:∀ vs H Q E,sp vs H Q E->vs.length=ps.length
 run:∀ (A:ϟ) (outer:List Env) (s:ν) (H:Hp) (args:Args) (us:List δ) (vs:List V) (Q:VK) (E:XK),Room k A->Env0 P w K mg base A outer s H->BindsTo s fd args (ps.zip us)->Vals vs us->sp vs H Q E ->
  lQ (Ξ P w) A (.call (.ref f) args) (CR CX outer P w H s Q E) s
theorem FnOk.mono {P:Τ}{w:ϝ}{K:W.Frag}{mg:Str->Option δ}{base:Heap}{CX:CXT}{j k:Nat}{f:Addr}{fd:bj}{ps:List Str}{sp:Sp}(F:FnOk P w K mg base CX j f fd ps sp) (h:j<=k):
  FnOk P w K mg base CX k f fd ps sp:=⟨F.len,fun A outer s H args us vs Q E hr=>F.run A outer s H args us vs Q E (hr.mono h)⟩
theorem Env0.in1 {P:Τ}{w:ϝ}{K:W.Frag}{mg:Str->Option δ}{base:Heap}{A:ϟ}{outer:List Env}{s:ν}{H:Hp}(e:Env0 P w K mg base A outer s H):
  Env0 P w K mg base A.in1 outer s H:=⟨e.frames,e.mod,e.bs,e.bsz,e.funs,e.frf,e.hok,e.bare⟩
section
variable {X:Cx}{pJ:List (Addr×Obj)}{σ:St}{H:Hp}{s s':ν}
theorem Inv.env0 (I:Inv X pJ σ H s):Env0 X.prog X.w X.K X.mg X.base X.A X.stack s H:=
 ⟨I.ok.frames,I.ok.mod,I.bs,ϣ I.ok.bsz I.sz,I.stack,I.Ue,I.hok,I.bare⟩
theorem Inv.after {Q:VK}{u:δ}(I:Inv X pJ σ H s) (h:CE X.stack X.prog X.w H s Q u s'):EP X pJ σ Q u s':=by
 obtain ⟨v,H',os,bare,un,hok,r,q⟩:=h
 obtain ⟨hh,g,d,t,os'⟩:=s'
 obtain rfl:os'=s.os:=os
 exact ⟨v,H',I.call (h':=hh) (g':=g) (d':=d) (t':=t) (ch:=[]) un hok bare (fun b z=>absurd z (by simp)),r,q⟩
end
def tCall (sp:Sp) (dvs:List V) (E:XK) (t:TA):TE:=fun σ H Q=>t σ H fun vs H1=>sp (vs++dvs) H1 Q E
def Binds (K:W.Frag) (fd:bj) (ps:List Str) (ds:List δ):Prop:=
 ∀ (s:ν) (us:List δ),K.In s.heap->(us++ds).length=ps.length->BindsTo s fd ⟨us,[]⟩ (ps.zip (us++ds))
theorem Binds.all {K:W.Frag}{fd:bj}{ps:List Str}(h:∀ us:List δ,us.length=ps.length->bindArgs fd ⟨us,[]⟩=pure (ps.zip us)):Binds K fd ps []:=fun s us _ hl=>by
 rw [Υ] at hl ⊢
 exact .of_eq (h us hl)
def Yt (CX:CXT) (X:Cx) (E:XK):Prop:=∀ (pJ:List (Addr×Obj)) (σ:St) (H:Hp) (s:ν) (e:δ) (s':ν),Inv X pJ σ H s->CX X.stack H s E e s'->X.xe e s'
section
variable {X:Cx}{CX:CXT}{k:Nat}{f C:Addr}{fd:bj}{ps:List Str}{sp:Sp}{dvs:List V}{ds:List δ}{E:XK}{x m:Str}{p pos apos:Pos}{e o:Expr}{es:List Expr}{ta:TE}{t:TA}
theorem zax {pJ:List (Addr×Obj)}{σ:St}{H:Hp}{s:ν}{Q:VK}{us:List δ}{vs:List V}(F:FnOk X.prog X.w X.K X.mg X.base CX k f fd ps sp) (hr:Room k X.A) (hb:Binds X.K fd ps ds) (hd:Vals dvs ds) (hx:Yt CX X E)
  (I:Inv X pJ σ H s) (r:Vals vs us) (h:sp (vs++dvs) H Q E):Θ (Ξ X.prog X.w) X.A (call (.ref f) us) (EP X pJ σ Q) X.xe s:=by
 have r2:Vals (vs++dvs) (us++ds):=r.append hd
 have hl:(us++ds).length=ps.length:=by rw [<- r2.length];exact F.len _ _ _ _ h
 refine wpAny_call (fJ (F.run X.A X.stack s H ⟨us,[]⟩ (us++ds) (vs++dvs) Q E hr I.env0 (hb s us I.kIn hl) r2 h) fun r s' hq=>?_)
 cases r with
 | error e=>exact hx pJ σ H s e s' I hq
 | ok fl=>
  cases fl with
  | ret u=>exact I.after hq
  | next=>exact ak hq
  | brk=>exact ak hq
  | cont=>exact ak hq
theorem zbV (F:FnOk X.prog X.w X.K X.mg X.base CX k f fd ps sp) (hr:Room k X.A) (hg:Gl X x) (hm:X.mg x=some (.ref f)) (hk:W.keepIn X.K (.ref f)=true) (hb:Binds X.K fd ps ds) (hd:Vals dvs ds) (hx:Yt CX X E)
  (ha:PA X (e::es) t) (hdb:(x==("__debug__":Str))=false:=by decide) (he:Ϥ (e::es) X.env=(false,eval e X.env)::Ϥ es X.env:=by rfl) (hpl:(eV pos (Ϥ es X.env)).any (·.1)=false:=by rfl):
  PE X (.Call (.Name x p) (e::es) [] pos) (tCall sp dvs E t):=by
 intro pJ s σ H Q I h
 refine dU (YZ I hg hm ?_ hdb)
 refine W.callWith_K (h₀:=X.base) I.ok.mod.kin hk (thn (ha pos pJ s σ H _ I h) fun us s1 ⟨vs,H1,I1,r,q⟩=>⟨I1.kIn,?_⟩) he hpl
 exact zax F hr hb hd hx I1 r q
end
def PK (X:Cx) (kws:List bG) (t:TA):Prop:=
 ∀ (pos:Pos) (pJ:List (Addr×Obj)) (s:ν) (σ:St) (H:Hp) (Q:List V->Hp->Prop),Inv X pJ σ H s->t σ H Q->Θ (Ξ X.prog X.w) X.A (evalAll ((cR pos (aL kws X.env)).map (·.2))) (AP X pJ σ Q) X.xe s
section
variable {X:Cx}{CX:CXT}{k:Nat}{f C:Addr}{fd:bj}{ps ks:List Str}{sp:Sp}{E:XK}{x m:Str}{p pos apos kpos:Pos}{e o:Expr}{es:List Expr}{kws:List bG}{te ta:TE}{t tk:TA}{nm:Option Str}
theorem zdP:PK X [] tNil:=fun _ _ _ _ H Q I h=>wpAny_evalAll_nil ⟨[],H,I,.nil,h⟩
theorem zbR (ha:PE X e te) (hr:PK X kws t):PK X (⟨nm,e,kpos⟩::kws) (tCons te t):=by
 intro pos pJ s σ H Q I h
 show Θ _ _ (evalAll ((do let v <- eval e X.env;standAt pos;pure v)::(cR pos (aL kws X.env)).map (·.2))) _ _ s
 refine wpAny_evalAll_cons (ε (thn (ha pJ s σ H _ I h) fun u s1 ⟨x,H1,I1,r1,q1⟩=>ε (lB (ι ?_))))
 exact thn (hr pos pJ s1 σ H1 _ I1 q1) fun us s2 ⟨xs,H2,I2,r2,q2⟩=>⟨x::xs,H2,I2,.cons r1 r2,q2⟩
structure K1 (K:W.Frag) (fd:bj) (ps ks:List Str) (g:List δ->List δ->List δ) (gV:List V->List V->List V):Prop where
 to:∀ (s:ν) (us ws:List δ),K.In s.heap->(g us ws).length=ps.length->BindsTo s fd ⟨us,ks.zip ws⟩ (ps.zip (g us ws))
 rel:∀ {vs:List V}{us:List δ}{zs:List V}{ws:List δ},Vals vs us->Vals zs ws->Vals (gV vs zs) (g us ws)
def zdd (sp:Sp) (gV:List V->List V->List V) (E:XK) (t tk:TA):TE:=fun σ H Q=>t σ H fun vs H1=>tk σ H1 fun zs H2=>sp (gV vs zs) H2 Q E
variable {g:List δ->List δ->List δ}{gV:List V->List V->List V}
theorem zbB {pJ:List (Addr×Obj)}{σ:St}{H:Hp}{s:ν}{Q:VK}{us ws:List δ}{vs zs:List V}(F:FnOk X.prog X.w X.K X.mg X.base CX k f fd ps sp) (hr:Room k X.A) (hb:K1 X.K fd ps ks g gV) (hx:Yt CX X E)
  (I:Inv X pJ σ H s) (r:Vals vs us) (rz:Vals zs ws) (h:sp (gV vs zs) H Q E):Θ (Ξ X.prog X.w) X.A (call (.ref f) us (ks.zip ws)) (EP X pJ σ Q) X.xe s:=by
 have r2:=hb.rel r rz
 have hl:(g us ws).length=ps.length:=by rw [<- r2.length];exact F.len _ _ _ _ h
 refine wpAny_call (fJ (F.run X.A X.stack s H ⟨us,ks.zip ws⟩ (g us ws) (gV vs zs) Q E hr I.env0 (hb.to s us ws I.kIn hl) r2 h) fun r s' hq=>?_)
 cases r with
 | error e=>exact hx pJ σ H s e s' I hq
 | ok fl=>
  cases fl with
  | ret u=>exact I.after hq
  | next=>exact ak hq
  | brk=>exact ak hq
  | cont=>exact ak hq
end
structure qM (N P:List Str) (sc:dI):Prop where
 kind:sc.kind=.function
 co:sc.isCoroutine=false
 gen:sc.isGenerator=false
 nd:N.Nodup
 pre:N.take P.length=P
 par:∀ x∈P,sc.names.lookup x=some .local\/sc.names.lookup x=some .cell
 nofree:∀ y∈sc.names,y.2≠.free
theorem Yj {kindOf:Str->Option ϰ}{x:Str}:∀ {binds:List (Str×δ)}{m:Str->Option δ},(∀ v,(x,v) ∉ binds)->bindL kindOf binds m x=m x
 | [],_,_=>rfl
 | (n,v)::r,m,h=>by
  unfold bindL
  rw [Yj fun w hw=>h w (θ _ hw)]
  split
  ·have:x≠n:=by rintro rfl;exact h v μ
   simp [this]
  ·rfl
theorem Yl {kindOf:Str->Option ϰ}{x:Str}:∀ {binds:List (Str×δ)}{m:Str->Option δ},(∀ v,(x,v) ∉ binds)->bindC kindOf binds m x=m x
 | [],_,_=>rfl
 | (n,v)::r,m,h=>by
  unfold bindC
  rw [Yl fun w hw=>h w (θ _ hw)]
  split
  ·rfl
  ·have:x≠n:=by rintro rfl;exact h v μ
   simp [this]
theorem Yk {kindOf:Str->Option ϰ}{x:Str}{v:δ}:∀ {P:List Str}{vs:List δ}{i:Nat}{m:Str->Option δ},P.Nodup->P[i]?=some x->vs[i]?=some v->kindOf x=some .local ->
  bindL kindOf (P.zip vs) m x=some v
 | [],_,_,_,_,h,_,_=>by simp at h
 | _::_,[],_,_,_,_,h,_=>by simp at h
 | p::P,w::vs,0,m,nd,h1,h2,hk=>by
  simp at h1 h2;subst h1;subst h2
  show bindL kindOf ((p,w)::P.zip vs) m p=_
  unfold bindL
  rw [Yj fun v hv=>(bJ.mp nd).1 (eQ hv).1,if_pos hk]
  simp
 | p::P,w::vs,i+1,m,nd,h1,h2,hk=>by
  show bindL kindOf ((p,w)::P.zip vs) m x=_
  unfold bindL
  exact Yk (i:=i) (bJ.mp nd).2 (by simpa using h1) (by simpa using h2) hk
theorem Ym {kindOf:Str->Option ϰ}{x:Str}{v:δ}:∀ {P:List Str}{vs:List δ}{i:Nat}{m:Str->Option δ},P.Nodup->P[i]?=some x->vs[i]?=some v->kindOf x≠some .local ->
  bindC kindOf (P.zip vs) m x=some v
 | [],_,_,_,_,h,_,_=>by simp at h
 | _::_,[],_,_,_,_,h,_=>by simp at h
 | p::P,w::vs,0,m,nd,h1,h2,hk=>by
  simp at h1 h2;subst h1;subst h2
  show bindC kindOf ((p,w)::P.zip vs) m p=_
  unfold bindC
  rw [Yl fun v hv=>(bJ.mp nd).1 (eQ hv).1,if_neg hk]
  simp
 | p::P,w::vs,i+1,m,nd,h1,h2,hk=>by
  show bindC kindOf ((p,w)::P.zip vs) m x=_
  unfold bindC
  exact Ym (i:=i) (bJ.mp nd).2 (by simpa using h1) (by simpa using h2) hk
noncomputable def start (N:List Str) (vs:List V):St:=vs.map some++ς (N.length - vs.length) none
noncomputable def cxOf (CX:CXT) (P:Τ) (w:ϝ) (K:W.Frag) (mg:Str->Option δ) (base:Heap) (N:List Str) (qual:Str) (scope:dI) (f:Addr) (cd:δ) (A:ϟ) (outer:List Env) (s:ν) (H:Hp) (E:XK):Cx where
 prog:=P
 w:=w
 K:=K
 mg:=mg
 base:=base
 A:=A.deeper (lG qual scope s.heap.objs.size f cd)
 N:=N
 sw:=s
 Hz:=H
 env:=lG qual scope s.heap.objs.size f cd
 outer:=outer
 stack:=lG qual scope s.heap.objs.size f cd::outer
 ex:=[]
 calm:=true
 fn:=fun _=>true
 pn:=[]
 xe:=fun e s'=>Θ (Ξ P w) (A.deeper (lG qual scope s.heap.objs.size f cd)) (leaving (lG qual scope s.heap.objs.size f cd) e) (fun _ s''=>CX outer H s E e s'') (fun e' s''=>CX outer H s E e' s'') s'
theorem qI {sc:dI}{n:Nat}{x:Str}(h:sc.names.lookup x=some .cell):∃ c,(cellsFrom n sc.names []).lookup x=some c:=by
 have q:=W.cellsFrom_some sc.names n [] (.inl h)
 exact lZ.mp q
theorem JR {CX:CXT}{P:Τ}{w:ϝ}{K:W.Frag}{mg:Str->Option δ}{base:Heap}{N ps:List Str}{qual:Str}{scope:dI}{f:Addr}{cd:δ}{A:ϟ}{outer:List Env}{s s1:ν}{H:Hp}{E:XK}{us:List δ}{vs:List V}
  (S:qM N ps scope) (hd:A.handled=none) (e0:Env0 P w K mg base A outer s H) (hl:vs.length=ps.length) (r:Vals vs us)
  (x:InCallC s s.heap.objs.size (bindL (lG qual scope s.heap.objs.size f cd).kindOf (ps.zip us) fun _=>none) (cellsFrom (s.heap.objs.size+1) scope.names []) (bindC (lG qual scope s.heap.objs.size f cd).kindOf (ps.zip us) fun _=>none) s1):
  Inv (cxOf CX P w K mg base N qual scope f cd A outer s H E) [] (start N vs) H s1:=by
 have hpl:ps.length<=N.length:=by have:=congrArg lL S.pre;rw [aM] at this;lia
 obtain ⟨h1,tk,rfl,hk⟩:=x.done
 have noA:∀ b:Addr,b ∉ (cxOf CX P w K mg base N qual scope f cd A outer s H E).ex:=fun b z=>absurd (show b∈([]:List Addr) from z) (by simp)
 refine ⟨⟨e0.mod,S.kind,rfl,rfl,π _,fun y z c h1 h2=>?_,fun y hy=>?_,fun y c _ h=>?_,fun _=>hd,ϟ.frames_deeper e0.frames,.inr ⟨rfl,rfl⟩,fun b z=>absurd z (noA b),e0.bs,e0.bsz,fun b _ _=>noA b,fun b z=>absurd z (noA b),e0.funs,e0.frf⟩,
  rfl,e0.bare,Un.kept hk,⟨_,x.toInCall.ns,fun i y v h1 h2 h3=>?_⟩,fun y c h=>⟨_,x.cell y c h⟩,e0.hok.fresh (π _),fun y c h=>?_,fun p hp=>absurd (show p∈([]:List (Addr×Obj)) from hp) (by simp),e0.hok.kept hk,?_⟩
 ·exact name_of_addr x.apart (aZ h1) (aZ h2)
 ·have hy:scope.names.lookup y=some .cell\/scope.names.lookup y=some .free:=hy
  rcases hy with hy | hy
  ·exact qI hy
  ·exact absurd rfl (S.nofree _ (aZ hy))
 ·exact gr (x.above y c (aZ h))
 ·have hi:i < vs.length:=by
   unfold start at h2
   by_cases hi:i < vs.length
   ·exact hi
   ·rw [ϖ (by simpa using hi)] at h2
    rw [dF] at h2
    split at h2 <;> cases h2
  have ha:vs[i]?=some v:=by
   unfold start at h2
   rw [ϒ (by simpa using hi),Ψ] at h2
   cases e:vs[i]? with
   | none=>rw [e] at h2;cases h2
   | some a=>rw [e] at h2;cases h2;rfl
  obtain ⟨u,hu,rv⟩:=r.get ha
  have hp:ps[i]?=some y:=by
   rw [<- S.pre,mZ (by lia)];exact h1
  have ndP:ps.Nodup:=by rw [<- S.pre];exact S.nd.sublist (iY _ _)
  refine ⟨u,rv,?_⟩
  rcases S.par y (au hp) with k | k
  ·exact .inl ⟨k,Yk ndP hp hu k⟩
  ·obtain ⟨c,e⟩:=qI (n:=s.heap.objs.size+1) k
   refine .inr ⟨.inl k,c,e,?_⟩
   have q:=x.cell y c e
   rw [Ym ndP hp hu (by show scope.names.lookup y≠_;rw [k];decide)] at q
   exact q
 ·exact e0.hok.fresh (gr (x.above y c (aZ h)))
 ·unfold start
  show _=N.length
  rw [Ϗ,Ν,gB]
  lia
theorem fn_of {CX:CXT}{P:Τ}{w:ϝ}{K:W.Frag}{mg:Str->Option δ}{base:Heap}{k:Nat}{f:Addr}{name qual:Str}{params:Arguments}{body:List Stmt}{scope:dI}{dV kV doc pm cdv ct oc:δ}{an od:Option Addr}
  {osl:Array (Option δ)}{N ps:List Str}{sp:Sp}(lk:K.lookup f=some ⟨oc,od,.func (W.fnOf name qual params body scope dV kV doc pm an cdv ct),osl⟩) (hcd:W.codeIn K cdv qual=true) (S:qM N ps scope)
  (len:∀ vs H Q E,sp vs H Q E->vs.length=ps.length)
  (hbody:∀ (A:ϟ) (outer:List Env) (s:ν) (H:Hp) (vs:List V) (Q:VK) (E:XK),Room k (A.deeper (lG qual scope s.heap.objs.size f cdv))->sp vs H Q E ->
   ∃ t,PSs (cxOf CX P w K mg base N qual scope f cdv A outer s H E) body t/\t { nx:=fun _ H'=>Q .non H',rt:=Q } (start N vs) H):
  FnOk P w K mg base CX (k+1) f (W.fnOf name qual params body scope dV kV doc pm an cdv ct) ps sp:=by
 refine ⟨len,fun A outer s H args us vs Q E hr e0 hb r hsp=>?_⟩
 have hl:=len _ _ _ _ hsp
 have KX:K.In s.heap:=e0.mod.kin.keeps fun b o e=>(e0.bs b o e).1
 have lim:s.heap.NoLimit:=e0.mod.nolimit.keeps fun b o e=>(e0.bs b o e).1
 have hkind:∀ y∈ps.zip us,scope.names.lookup y.1=some .local\/(scope.names.lookup y.1=some .cell/\((cellsFrom (s.heap.objs.size+1) scope.names []).lookup y.1).isSome=true):=fun ⟨n,v⟩ hy=>by
  rcases S.par n (eQ hy).1 with q | q
  ·exact .inl q
  ·exact .inr ⟨q,W.cellsFrom_some _ _ _ (.inl q)⟩
 refine codeAny_call_function hr.depth (KX _ _ lk) rfl S.co S.gen rfl (W.codeRec_of KX hcd) (hb _ _ _ _ ?_)
 refine wpAny_newFunctionEnv_cells S.kind hkind fun env he s1 x=>?_
 subst he
 refine ⟨lim.keeps x.toInCall.keep,codeAny_func ?_⟩
 obtain ⟨t,ht,hq⟩:=hbody A outer s H vs Q E (hr.deeper _) hsp
 have I:Inv (cxOf CX P w K mg base N qual scope f cdv A outer s H E) [] (start N vs) H s1:=JR S hr.hd e0 hl r x
 refine cG (ht [] s1 (start N vs) H _ I hq) (fun fl s' hs=>?_) fun e s' hs=>hs
 have fin:∀ {σ':St}{H':Hp}{v:V}{u:δ},Inv (cxOf CX P w K mg base N qual scope f cdv A outer s H E) [] σ' H' s'->RelV v u->Q v H'->CE outer P w H s Q u s':=
  fun {σ' H' v u} J rv q=>⟨v,H',J.os,J.bare,J.base,J.hok,rv,q⟩
 cases fl with
 | ret u=>
  obtain ⟨v,σ',H',J,rv,q⟩:=hs
  exact fin J rv q
 | next=>
  obtain ⟨σ',H',J,q⟩:=hs
  exact fin (v:=V.non) (u:=Ο) J rfl q
 | brk=>
  obtain ⟨_,_,_,q⟩:=hs
  exact ak q
 | cont=>
  obtain ⟨_,_,_,q⟩:=hs
  exact ak q
section
variable {X:Cx}{x:Str}{p pos:Pos}{e:Expr}{es:List Expr}{t:TA}{id T:String}{r:List V->Hp->VK->Prop}
def tCB (r:List V->Hp->VK->Prop) (t:TA):TE:=fun σ H Q=>t σ H fun vs H1=>r vs H1 Q
theorem v5 (hc:CallR X (.builtin id) r) (hg:Gl X x) (hm:X.mg x=none) (hv:cI x=some (.builtin id)) (ha:PA X (e::es) t) (hn:x≠"__name__":=by decide) (hdb:(x==("__debug__":Str))=false:=by decide)
  (he:Ϥ (e::es) X.env=(false,eval e X.env)::Ϥ es X.env:=by rfl) (hpl:(eV pos (Ϥ es X.env)).any (·.1)=false:=by rfl):PE X (.Call (.Name x p) (e::es) [] pos) (tCB r t):=by
 intro pJ s σ H Q I h
 refine dU (jM I hg hm hv ?_ hn hdb)
 exact PyProof.Rows.callWith_builtin1 (thn (ha pos pJ s σ H _ I h) fun us s1 ⟨vs,H1,I1,r1,q1⟩=>hc pJ s1 σ H1 vs us Q I1 r1 q1) he hpl
theorem Zu (hc:CallR X (.type T) r) (hg:Gl X x) (hm:X.mg x=none) (hv:cI x=some (.type T)) (ha:PA X (e::es) t) (hn:x≠"__name__":=by decide) (hdb:(x==("__debug__":Str))=false:=by decide)
  (he:Ϥ (e::es) X.env=(false,eval e X.env)::Ϥ es X.env:=by rfl) (hpl:(eV pos (Ϥ es X.env)).any (·.1)=false:=by rfl):PE X (.Call (.Name x p) (e::es) [] pos) (tCB r t):=by
 intro pJ s σ H Q I h
 refine dU (jM I hg hm hv ?_ hn hdb)
 exact bU (thn (ha pos pJ s σ H _ I h) fun us s1 ⟨vs,H1,I1,r1,q1⟩=>hc pJ s1 σ H1 vs us Q I1 r1 q1) he hpl
end
end L2
namespace HT
open PySem PyProof.Rows
section
open PySem.SeqAt
open PySem.AutoSeq1 (wpAny_loadPart')
open PySem.MeetsSeq PySem.MeetsSeq2 PySem.MeetsSeq3
end
section
variable {prog:Τ}{w:ϝ}{A:ϟ}{E:δ->ν->Prop}{s:ν}
theorem zcL {t b:Addr}{vs ws:List δ}{Q:δ->ν->Prop}(ht:IsTup s.heap t vs.toArray) (hb:IsTup s.heap b ws.toArray) (hv:vs≠[])
  (h1:ws=[]->Q (.ref t) s) (h2:ws≠[]->Q (.ref s.heap.objs.size) { s with heap:=s.heap.push { cls:=.type "tuple",data:=.seq (vs++ws).toArray } })
  (hsz:vs.length+ws.length<=sizeLine):Θ (Ξ prog w) A (bI .Add (.ref t) (.ref b)) Q E s:=by
 obtain ⟨⟨cls,dd,data,sl⟩,ho,hc,n,hd⟩:=id ht
 obtain ⟨⟨cls2,dd2,data2,sl2⟩,ho2,hc2,n2,hd2⟩:=id hb
 simp only at hc hd hc2 hd2
 subst hc hd hc2 hd2
 have e:vs.toArray++ws.toArray=(vs++ws).toArray:=by simp
 by_cases hw:ws=[]
 ·exact oM ⟨_,ho,rfl⟩ ⟨_,ho2,rfl⟩ mG nZ fW fK (fD _ _)
   (tuple_addW1 t b vs.toArray ws.toArray n n2 dd dd2 sl sl2 (by simpa using hv) (by simp [hw])) ⟨ho,ho2,h1 hw⟩
 ·refine oM ⟨_,ho,rfl⟩ ⟨_,ho2,rfl⟩ mG nZ fW fK (fD _ _)
   (tuple_addW2 t b vs.toArray ws.toArray n n2 dd dd2 sl sl2 (by simpa using hv) (by simpa using hw) (by rw [ξ,ξ];exact hsz)) ⟨ho,ho2,?_⟩
  rw [e]
  exact h2 hw
noncomputable def sIx (n d:Nat):Option Int->Nat
 | none=>d
 | some v=>if v < 0 then (v+(n:Int)).toNat else min v.toNat n
theorem Qi (n d:Nat):sIx n d none=d:=rfl
theorem zbA (n d k:Nat):sIx n d (some (k:Int))=min k n:=by
 show (if (k:Int) < 0 then ((k:Int)+(n:Int)).toNat else min (k:Int).toNat n)=min k n
 rw [if_neg (by omega),lA]
theorem zdF (n d:Nat) (hd:d<=n) (o:Option Int):sIx n d o<=n:=by
 cases o with
 | none=>exact hd
 | some v=>
  show (if v < 0 then (v+(n:Int)).toNat else min v.toNat n)<=n
  by_cases hv:v < 0
  ·rw [if_pos hv];omega
  ·rw [if_neg hv];exact Nat.min_le_right _ _
theorem Kq (v:Int) (n d:Nat):(if v < 0 then max (v+(n:Int)) 0 else min v (n:Int))=((sIx n d (some v):Nat):Int):=by
 show (if v < 0 then max (v+(n:Int)) 0 else min v (n:Int))=(((if v < 0 then (v+(n:Int)).toNat else min v.toNat n):Nat):Int)
 by_cases hv:v < 0
 ·simp only [if_pos hv];omega
 ·simp only [if_neg hv];omega
theorem VB (lo hi:Option Int) (n:Nat):d9 lo hi 1 (n:Int)=(((sIx n 0 lo:Nat):Int),((sIx n n hi:Nat):Int)):=by
 have h1:¬ ((1:Int) < 0):=by omega
 unfold d9
 simp only [h1,if_false]
 refine Prod.ext ?_ ?_
 ·cases lo with
  | none=>rfl
  | some v=>exact Kq v n 0
 ·cases hi with
  | none=>rfl
  | some v=>exact Kq v n n
theorem Vm (i j:Nat):cg (i:Int) (j:Int) 1=j - i:=by
 unfold cg
 have h1:(1:Int) > 0:=by omega
 simp only [h1,if_true,Int.ediv_one]
 split <;> omega
theorem jA {v:δ}{o:Option Int}{Q:Option Int->ν->Prop}(p:gY v o) (h:Q o s):Θ (Ξ prog w) A (Ω.Slice.slicePartIndex v) Q E s:=by
 cases p with
 | none=>exact slicePart_none h
 | int i t=>exact slicePart_int h
theorem yN {sl:Addr}{vl vu:δ}{lo hi:Option Int}{n:Nat}{Q:Int×Int×Nat->ν->Prop}(hs:s.heap.IsSliceOf sl vl vu .none) (pl:gY vl lo) (pu:gY vu hi)
  (h:Q (((sIx n 0 lo:Nat):Int),1,sIx n n hi - sIx n 0 lo) s):Θ (Ξ prog w) A (iy (.ref sl) (pure (n:Int))) Q E s:=by
 obtain ⟨os,hos,hcs,hds⟩:=id hs
 unfold iy Ω.Slice.sliceFields
 refine ε (ε (aY hos hds (x:=vl) rfl (ε (aY hos hds (x:=vu) rfl (ε (aY hos hds (x:=.none) rfl (ι ?_)))))))
 refine ε (slicePart_none ?_)
 show Θ _ _ (if ((1:Int)==0)=true then _ else _) _ _ s
 rw [if_neg (by decide)]
 refine ε (jA pl (ε (jA pu (ε (ι ?_)))))
 show Θ _ _ (match d9 lo hi 1 (n:Int) with | (lo,hi)=>pure (lo,(1:Int),cg lo hi 1)) _ _ s
 rw [VB lo hi n]
 show Θ _ _ (pure (((sIx n 0 lo:Nat):Int),(1:Int),cg ((sIx n 0 lo:Nat):Int) ((sIx n n hi:Nat):Int) 1)) _ _ s
 rw [Vm]
 exact ι h
theorem Qs (xs:Array δ) (i k:Nat):((ϩ k).filterMap fun (m:Nat)=>xs[((i:Int)+(m:Int)*1).toNat]?).toArray=((xs.toList.drop i).take k).toArray:=by
 have e:(fun (m:Nat)=>xs[((i:Int)+(m:Int)*1).toNat]?)=fun m=>xs[i+m]?:=by
  funext m
  have:((i:Int)+(m:Int)*1).toNat=i+m:=by omega
  rw [this]
 rw [e]
 have:=pick_run xs i k
 rw [List.filterMap_map] at this
 have e2:((fun x=>xs[x]?)∘fun x=>i+x)=fun m=>xs[i+m]?:=rfl
 rw [e2] at this
 rw [this]
theorem vm {t sl:Addr}{items:Array δ}{vl vu:δ}{lo hi:Option Int}{Q:δ->ν->Prop}(ht:IsTup s.heap t items) (hs:s.heap.IsSliceOf sl vl vu .none) (pl:gY vl lo) (pu:gY vu hi)
  (hw:¬ (sIx items.size 0 lo=0/\sIx items.size items.size hi=items.size))
  (h:Q (.ref s.heap.objs.size) { s with heap:=s.heap.push { cls:=.type "tuple",data:=.seq ((items.toList.drop (sIx items.size 0 lo)).take (sIx items.size items.size hi - sIx items.size 0 lo)).toArray } })
  (hsz:items.size<=sizeLine):Θ (Ξ prog w) A (iT (.ref t) (.ref sl)) Q E s:=by
 have htake:sizeOk (.seq ((items.toList.drop (sIx items.size 0 lo)).take (sIx items.size items.size hi - sIx items.size 0 lo)).toArray):=by
  show ((items.toList.drop (sIx items.size 0 lo)).take (sIx items.size items.size hi - sIx items.size 0 lo)).toArray.size<=sizeLine
  rw [ξ,aM,d7,Φ]
  omega
 have hj:sIx items.size items.size hi<=items.size:=zdF _ _ (π _) hi
 obtain ⟨os,hos,hcs,hds⟩:=id hs
 have hTs:s.TypeIs (.ref sl) "slice":=⟨os,hos,hcs⟩
 unfold iT
 try with_reducible refine aU ?_
 first | refine ε (ι ?_) | skip
 refine ε (wpAny_sequenceKey ht.typeIs (by decide) ?_)
 refine ε (aC (name:=lw "__getitem__") ht.typeIs ϯ
  (Ϲ ϯ ht.typeIs entry_tuple_getitem ?_ (args_tuple_getitem _ _)))
 show Θ _ _ (iw (.ref t) >>= _) _ _ s
 refine ε (tupleItemsOf_ ht ?_)
 refine ε (cF hTs ?_)
 rw [if_pos (by decide)]
 refine ε (yN hs pl pu ?_)
 have hno:¬ ((((sIx items.size 0 lo:Nat):Int)==0&&(1:Int)==1&&(sIx items.size items.size hi - sIx items.size 0 lo)==items.size)=true):=by
  intro q
  rw [ζ,ζ] at q
  have q1:((sIx items.size 0 lo:Nat):Int)=0:=eq_of_beq q.1.1
  have q2:sIx items.size items.size hi - sIx items.size 0 lo=items.size:=eq_of_beq q.2
  exact hw ⟨by omega,by omega⟩
 show Θ _ _ (if (((sIx items.size 0 lo:Nat):Int)==0&&(1:Int)==1&&(sIx items.size items.size hi - sIx items.size 0 lo)==items.size)=true then _ else _) _ _ s
 rw [if_neg hno,Qs]
 first
  | exact ε (m:=cM _) (Ϩ (ι ⟨_,rfl,ι h⟩) htake)
  | exact ε (m:=cM _) (Ϩ (ε (ι (ι ⟨_,rfl,ι h⟩))) htake)
  | exact ε (ε (m:=cM _) (Ϩ (ι (ι ⟨_,rfl,ι h⟩)) htake))
  | exact ε (ε (m:=cM _) (Ϩ (ι ⟨_,rfl,ι h⟩) htake))
end
end HT
namespace L2
open PySem PySem.Spec PyProof.Rows
abbrev TO:=St->Hp->(Option Int->Hp->Prop)->Prop
def PO (X:Cx) (e:Option Expr) (t:TO):Prop:=
 ∀ (pJ:List (Addr×Obj)) (s:ν) (σ:St) (H:Hp) (Q:Option Int->Hp->Prop),Inv X pJ σ H s->t σ H Q ->
  Θ (Ξ X.prog X.w) X.A (evalPart e X.env) (fun u s'=>∃ o H',Inv X pJ σ H' s'/\gY u o/\Q o H') X.xe s
def zbg:TO:=fun _ H Q=>Q none H
def tPart (t:TE):TO:=fun σ H Q=>t σ H fun x H1=>∃ i,x=.int i/\Q (some i) H1
section
variable {X:Cx}{e:Expr}{te:TE}{lo hi:Option Expr}{tl th:TO}{pos p2:Pos}
theorem zbQ:PO X none zbg:=by
 intro pJ s σ H Q I h
 rw [evalPart_none]
 exact ι ⟨none,H,I,.none,h⟩
theorem zbP (h:PE X e te):PO X (some e) (tPart te):=by
 intro pJ s σ H Q I hw
 rw [evalPart_some]
 refine thn (h pJ s σ H _ I hw) fun u s1 ⟨x,H1,I1,r1,q1⟩=>?_
 obtain ⟨i,rfl,q⟩:=q1
 obtain ⟨t,rfl⟩:=r1
 exact ⟨some i,H1,I1,.int i t,q⟩
def SlR (X:Cx) (r:V->Option Int->Option Int->Hp->VK->Prop):Prop:=
 ∀ (pJ:List (Addr×Obj)) (s:ν) (σ:St) (H:Hp) (x:V) (v vl vu:δ) (lo hi:Option Int) (sl:Addr) (Q:VK),Inv X pJ σ H s->RelV x v->s.heap.IsSliceOf sl vl vu .none->gY vl lo->gY vu hi->r x lo hi H Q ->
  ∃ T id,typeLookup (.type T) "__getitem__"=pure (some (.builtin id))/\s.TypeIs v T/\Θ (Ξ X.prog X.w) X.A (iT v (.ref sl)) (EP X pJ σ Q) X.xe s
theorem SlR.or {r r':V->Option Int->Option Int->Hp->VK->Prop}(h:SlR X r) (h':SlR X r'):SlR X (fun x lo hi H Q=>r x lo hi H Q\/r' x lo hi H Q):=by
 intro pJ s σ H x v vl vu lo hi sl Q I rx hs pl pu q
 rcases q with q | q
 ·exact h pJ s σ H x v vl vu lo hi sl Q I rx hs pl pu q
 ·exact h' pJ s σ H x v vl vu lo hi sl Q I rx hs pl pu q
def tSl (r:V->Option Int->Option Int->Hp->VK->Prop) (te:TE) (tl th:TO):TE:=fun σ H Q=>te σ H fun x H1=>tl σ H1 fun l H2=>th σ H2 fun u H3=>r x l u H3 Q
theorem Qu {r:V->Option Int->Option Int->Hp->VK->Prop}(hr:SlR X r) (he:PE X e te) (hl:PO X lo tl) (hu:PO X hi th):PE X (.Subscript e (.Slice lo hi none p2) pos) (tSl r te tl th):=by
 intro pJ s σ H Q I h
 refine Subscript_ (thn (he pJ s σ H _ I h) fun v s1 ⟨x,H1,I1,r1,q1⟩=>?_)
 refine wpAny_Slice (thn (hl pJ s1 σ H1 _ I1 q1) fun vl s2 ⟨l,H2,I2,pl,q2⟩=>thn (hu pJ s2 σ H2 _ I2 q2) fun vu s3 ⟨u,H3,I3,pu,q3⟩=>?_)
 rw [evalPart_none]
 refine ι ?_
 have I4:Inv X pJ σ H3 { s3 with heap:=s3.heap.push { cls:=.type "slice",data:=.fields #[vl,vu,.none] } }:=I3.kept (t':=s3.toks) fun b ob q=>η _ q
 obtain ⟨T,id,hT,ht,hg⟩:=hr pJ { s3 with heap:=s3.heap.push { cls:=.type "slice",data:=.fields #[vl,vu,.none] } } σ H3 x v vl vu l u s3.heap.objs.size Q I4 r1 (Heap.IsSliceOf.new ..) pl pu q3
 show Θ (Ξ X.prog X.w) X.A (subscriptTail e (.Slice lo hi none p2) v (.ref s3.heap.objs.size)) (EP X pJ σ Q) X.xe { s3 with heap:=s3.heap.push { cls:=.type "slice",data:=.fields #[vl,vu,.none] } }
 exact tail_any (ops:=[.ref s3.heap.objs.size,v]) ht hT hg (by with_unfolding_all rfl)
noncomputable def cutV (xs:List V) (lo hi:Option Int):List V:=(xs.drop (HT.sIx xs.length 0 lo)).take (HT.sIx xs.length xs.length hi - HT.sIx xs.length 0 lo)
theorem u5 (xs:List V) (lo hi:Option Int):(cutV xs lo hi).length<=xs.length:=by
 unfold cutV
 rw [aM,d7]
 lia
def rSlT (K:W.Frag):V->Option Int->Option Int->Hp->VK->Prop:=fun x lo hi H Q=>∃ a xs,x=.ref a/\SqT K H a xs /\
 ¬ (HT.sIx xs.length 0 lo=0/\HT.sIx xs.length xs.length hi=xs.length)/\∀ p,H p=none->Q (.ref p) (upd H p (.tup (cutV xs lo hi)))
theorem zdh:SlR X (rSlT X.K):=by
 intro pJ s σ H x v vl vu lo hi sl Q I rx hs pl pu h
 obtain ⟨a,xs,rfl,hx,hw,q⟩:=h
 cases rx
 obtain ⟨its,r,ht,hz⟩:=I.tuple hx
 have hlen:its.toArray.size=xs.length:=by rw [ξ];exact r.length.symm
 refine ⟨"tuple",_,ϯ.lookup,ht.typeIs,?_⟩
 refine HT.vm ht hs pl pu (by rw [hlen];exact hw) ?_ (by rw [hlen];exact hz)
 rw [hlen]
 refine ⟨.ref s.heap.objs.size,_,I.laid (t':=s.toks) (o:=.tup (cutV xs lo hi)) (fun b ob q=>η _ q) (π _) ?_,rfl,q _ (I.hok.fresh (π _))⟩
 exact ⟨ϣ (u5 xs lo hi) hz,_,(r.drop (HT.sIx xs.length 0 lo)).take (HT.sIx xs.length xs.length hi - HT.sIx xs.length 0 lo),IsTup.new _ _⟩
def rCatT (K:W.Frag):R2:=fun x y H Q=>∃ a b xs ys,x=.ref a/\y=.ref b/\SqT K H a xs/\SqT K H b ys/\xs≠[]/\xs.length+ys.length<=sizeLine /\
 (ys=[]->Q (.ref a) H)/\(ys≠[]->∀ p,H p=none->Q (.ref p) (upd H p (.tup (xs++ys))))
theorem Vals.YK {xs:List V}{us:List δ}(r:Vals xs us):us=[] ↔ xs=[]:=by
 cases r with
 | nil=>simp
 | cons _ _=>simp
theorem zb1:OpR X (bI .Add) (rCatT X.K):=by
 intro pJ s σ H x y v u Q I rx ry h
 obtain ⟨a,b,xs,ys,rfl,rfl,ha,hb,hx,hz,q1,q2⟩:=h
 cases rx
 cases ry
 obtain ⟨its,r1,p1,_⟩:=I.tuple ha
 obtain ⟨its2,r2,p2,_⟩:=I.tuple hb
 refine HT.zcL p1 p2 (fun z=>hx (r1.YK.mp z)) (fun z=>⟨.ref a,H,I,rfl,q1 (r2.YK.mp z)⟩) (fun z=>?_) (by rw [<- r1.length,<- r2.length];exact hz)
 refine ⟨.ref s.heap.objs.size,_,I.laid (t':=s.toks) (o:=.tup (xs++ys)) (fun b ob q=>η _ q) (π _) ?_,rfl,q2 (fun w=>z (r2.YK.mpr w)) _ (I.hok.fresh (π _))⟩
 exact ⟨by rw [Ϗ];exact hz,_,r1.append r2,IsTup.new _ _⟩
end
noncomputable def ixN (n:Nat) (i:Int):Option Nat:=if 0<=i then (if i < n then some i.toNat else none) else if -(n:Int)<=i then some (i+n).toNat else none
noncomputable def atI {α:Type}(xs:List α) (i:Int):Option α:=(ixN xs.length i).bind fun j=>xs[j]?
theorem JM {n:Nat}{i:Int}{j:Nat}(h:ixN n i=some j):seqIndex? i n=some j/\j < n/\-(n:Int)<=i/\i < n:=by
 unfold ixN at h
 by_cases h0:0<=i
 ·rw [if_pos h0] at h
  by_cases h1:i < n
  ·rw [if_pos h1] at h
   have e:i.toNat=j:=ϛ h
   exact ⟨by rw [seqIndex_of h0 h1,e],by lia,by lia,h1⟩
  ·rw [if_neg h1] at h;cases h
 ·rw [if_neg h0] at h
  by_cases h1:-(n:Int)<=i
  ·rw [if_pos h1] at h
   have e:(i+n).toNat=j:=ϛ h
   exact ⟨by rw [seqIndex_neg (by lia) h1,e],by lia,h1,by lia⟩
  ·rw [if_neg h1] at h;cases h
theorem Xp {α:Type}{xs:List α}{i:Int}{v:α}(h:atI xs i=some v):∃ j,seqIndex? i xs.length=some j/\xs[j]?=some v/\j < xs.length/\-(xs.length:Int)<=i/\i < xs.length:=by
 unfold atI at h
 cases e:ixN xs.length i with
 | none=>rw [e] at h;cases h
 | some j=>
  rw [e] at h
  obtain ⟨h1,h2,h3,h4⟩:=JM e
  exact ⟨j,h1,h,h2,h3,h4⟩
def Xr (b:Expr):Prop:=∀ o i,subscripted b false o i=operate [o,i] (iT o i)
def IxR (X:Cx) (r:R2):Prop:=
 ∀ (value slice:Expr) (pJ:List (Addr×Obj)) (s:ν) (σ:St) (H:Hp) (x y:V) (v u:δ) (Q:VK),Inv X pJ σ H s->RelV x v->RelV y u->r x y H Q ->
  subscripted slice false v u=operate [v,u] (iT v u)->Θ (Ξ X.prog X.w) X.A (subscriptTail value slice v u) (EP X pJ σ Q) X.xe s
def MtR (X:Cx) (id:String) (r:V->List V->Hp->VK->Prop):Prop:=
 ∀ (pJ:List (Addr×Obj)) (s:ν) (σ:St) (H:Hp) (x:V) (xs:List V) (v:δ) (us:List δ) (Q:VK),Inv X pJ σ H s->RelV x v->Vals xs us->r x xs H Q ->
  Θ (Ξ X.prog X.w) X.A (call (.builtin id) (v::us)) (EP X pJ σ Q) X.xe s
section
variable {X:Cx}{a b:Expr}{ta tb:TE}{pos:Pos}
theorem IxR.or {r r':R2}(h:IxR X r) (h':IxR X r'):IxR X (fun x y H Q=>r x y H Q\/r' x y H Q):=by
 intro value slice pJ s σ H x y v u Q I rx ry q hs
 rcases q with q | q
 ·exact h value slice pJ s σ H x y v u Q I rx ry q hs
 ·exact h' value slice pJ s σ H x y v u Q I rx ry q hs
theorem MtR.or {id:String}{r r':V->List V->Hp->VK->Prop}(h:MtR X id r) (h':MtR X id r'):MtR X id (fun x xs H Q=>r x xs H Q\/r' x xs H Q):=by
 intro pJ s σ H x xs v us Q I rx rs q
 rcases q with q | q
 ·exact h pJ s σ H x xs v us Q I rx rs q
 ·exact h' pJ s σ H x xs v us Q I rx rs q
theorem pe_ix {r:R2}(hr:IxR X r) (ha:PE X a ta) (hb:PE X b tb) (hs:Xr b):PE X (.Subscript a b pos) (tOp r ta tb):=by
 intro pJ s σ H Q I h
 exact Subscript_ (binT ha hb I h fun v u s2 x y H2 I2 rx ry q=>hr a b pJ s2 σ H2 x y v u Q I2 rx ry q (hs _ _))
def rIxL (K:W.Frag):R2:=fun x y H Q=>∃ p xs i v,x=.ref p/\y=.int i/\SqL K H p xs/\atI xs i=some v/\Q v H
def rIxT (K:W.Frag):R2:=fun x y H Q=>∃ p xs i v,x=.ref p/\y=.int i/\SqT K H p xs/\atI xs i=some v/\Q v H
def rIxS:R2:=fun x y H Q=>∃ z i c,x=.str z/\y=.int i/\z.length<=sizeLine/\atI z.cps.toList i=some c/\Q (.str ⟨#[c]⟩) H
theorem JK:IxR X (rIxL X.K):=by
 intro value slice pJ s σ H x y v u Q I rx ry h hs
 obtain ⟨p,xs,i,z,rfl,rfl,hq,he,q⟩:=h
 cases rx
 obtain ⟨t,rfl⟩:=ry
 obtain ⟨its,r,pl,hz⟩:=I.list hq
 obtain ⟨j,h1,h2,h3,h4,h5⟩:=Xp he
 obtain ⟨w,ew,rw'⟩:=r.get h2
 have hl:=r.length
 have hn:=jL
 have fin:EP X pJ σ Q w s:=⟨z,H,I,rw',q⟩
 by_cases h0:0<=i
 ·have hj:i.toNat=j:=by
   rw [seqIndex_of h0 h5] at h1
   exact ϛ h1
  exact item_listR pl.isList h0 (by lia) (by rw [hj];simpa using ew) fin hs
 ·have hj:(i+(its.toArray.size:Int)).toNat=j:=by
   rw [seqIndex_neg (by lia) h4] at h1
   rw [ξ,<- hl]
   exact ϛ h1
  exact oJ (x:=w) pl.isList.typeIs slot_list_getitem.lookup
   (wpAny_getItem_list_neg (Q:=fun r s'=>r=w/\EP X pJ σ Q r s') pl.isList (by lia) (by rw [ξ] <;> lia) (by lia) (by rw [hj];simpa using ew) ⟨rfl,fin⟩) hs
theorem zey:IxR X (rIxT X.K):=by
 intro value slice pJ s σ H x y v u Q I rx ry h hs
 obtain ⟨p,xs,i,z,rfl,rfl,hq,he,q⟩:=h
 cases rx
 obtain ⟨t,rfl⟩:=ry
 obtain ⟨its,r,pl,hz⟩:=I.tuple hq
 obtain ⟨j,h1,h2,h3,h4,h5⟩:=Xp he
 obtain ⟨w,ew,rw'⟩:=r.get h2
 have hl:=r.length
 have hn:=jL
 have fin:EP X pJ σ Q w s:=⟨z,H,I,rw',q⟩
 exact oJ (x:=w) pl.typeIs slot_tuple_getitem.lookup
  (getItem_tuple (j:=j) (Q:=fun r s'=>r=w/\EP X pJ σ Q r s') pl (by lia) (by lia) (by rw [ξ,<- hl];exact h1) (by simpa using ew) ⟨rfl,fin⟩) hs
theorem zez:IxR X rIxS:=by
 intro value slice pJ s σ H x y v u Q I rx ry h hs
 obtain ⟨z,i,c,rfl,rfl,hz,he,q⟩:=h
 obtain ⟨t,rfl⟩:=rx
 obtain ⟨t',rfl⟩:=ry
 obtain ⟨j,h1,h2,h3,h4,h5⟩:=Xp he
 have hl:z.cps.toList.length=z.length:=by simp [Str.length]
 rw [hl] at h1 h4 h5
 have hn:=jL
 exact tail_any (typeIs_str s z t) slot_str_getitem.lookup (getItem_str (c:=c) (by
  have e1:decide (i < -(2 ^ 63:Int))=false:=decide_eq_false (by lia)
  have e2:decide (i >= 2 ^ 63)=false:=decide_eq_false (by lia)
  rw [e1,e2,Bool.or_false]) (by rw [h1];simpa using h2) ⟨.str ⟨#[c]⟩,H,I.tok _,⟨_,rfl⟩,q⟩) hs
theorem Vp (its:List δ) (n j:Nat) (u:δ):bf (·.setIfInBounds j u) { cls:=.type "list",data:=.seq its.toArray n }={ cls:=.type "list",data:=.seq (its.set j u).toArray n }:=by
 simp [bf]
theorem Inv.lst {pJ:List (Addr×Obj)}{σ:St}{H:Hp}{s:ν}{p:Addr}{xs:List V}(I:Inv X pJ σ H s) (h:H p=some (.lst xs)):
  ∃ (its:List δ) (n:Nat),Vals xs its/\s.heap.get? p=some { cls:=.type "list",data:=.seq its.toArray n }/\xs.length<=sizeLine:=by
 obtain ⟨z,its,n,r,e⟩:=I.hok p _ h
 exact ⟨its,n,r,e,z⟩
theorem Inv.zep {pJ:List (Addr×Obj)}{σ:St}{H:Hp}{s:ν}{p:Addr}{xs ys:List V}{its its':List δ}{n n':Nat}{f:Obj->Obj}(I:Inv X pJ σ H s) (h:H p=some (.lst xs))
  (ho:s.heap.get? p=some { cls:=.type "list",data:=.seq its.toArray n }) (hf:f { cls:=.type "list",data:=.seq its.toArray n }={ cls:=.type "list",data:=.seq its'.toArray n' }) (r:Vals ys its') (hz:ys.length<=sizeLine) (t:Nat):
  Inv X pJ σ (upd H p (.lst ys)) { s with heap:=s.heap.update p f,toks:=t }:=by
 have e:(s.heap.update p f).get? p=some { cls:=.type "list",data:=.seq its'.toArray n' }:=by
  rw [bH f ho (by rw [hf] <;> rfl),hf]
 refine I.write (x:=p) (e:=p) (by rw [h];trivial) (.inl rfl) (fun b u hb q=>(nG _ _ (fY hb)).trans q) ⟨_,e⟩ ?_
 exact ⟨hz,its',n',r,e⟩
def rSetL:V->V->V->Hp->(Hp->Prop)->Prop:=fun o i v H Q=>∃ p xs k j,o=.ref p/\i=.int k/\H p=some (.lst xs)/\ixN xs.length k=some j/\Q (upd H p (.lst (xs.set j v)))
theorem set_list:PSet X rSetL:=by
 intro pJ s σ H o i v ov iv u Q I ro ri rv h
 obtain ⟨p,xs,k,j,rfl,rfl,hp,hj,q⟩:=h
 cases ro
 obtain ⟨t,rfl⟩:=ri
 obtain ⟨its,n,r,ho,hz⟩:=I.lst hp
 obtain ⟨h1,h2,h3,h4⟩:=JM hj
 have hl:=r.length
 have hn:=jL
 have I':Inv X pJ σ (upd H p (.lst (xs.set j v))) { s with heap:=s.heap.update p (bf (·.setIfInBounds j u)) }:=
  I.zep hp ho (Vp its n j u) (r.set rv j) (by rw [b8];exact hz) s.toks
 by_cases h0:0<=k
 ·have hk:k.toNat=j:=by
   rw [seqIndex_of h0 h4] at h1
   exact ϛ h1
  exact W.ki_setAt ho h0 (by lia) (by rw [ξ,<- hl];exact h4) (by rw [hk];exact ⟨_,I',q⟩)
 ·have hk:(k+(its.toArray.size:Int)).toNat=j:=by
   rw [seqIndex_neg (by lia) h3] at h1
   rw [ξ,<- hl]
   exact ϛ h1
  exact W.ki_setBack ho (by lia) (by rw [ξ,<- hl];exact h3) (by lia) (by rw [hk];exact ⟨_,I',q⟩)
theorem Za (lo hi:Option Int) (n:Nat):(fj lo hi none n).1=((HT.sIx n 0 lo:Nat):Int)/\(fj lo hi none n).2.1=((HT.sIx n n hi:Nat):Int)/\(fj lo hi none n).2.2=1:=by
 refine ⟨?_,?_,rfl⟩
 ·cases lo with
  | none=>simp [fj,HT.sIx]
  | some i=>
   simp only [fj,HT.sIx,oF,show (1:Int) > 0 by decide,if_true]
   by_cases h:i < 0
   ·simp only [h,if_true] <;> lia
   ·simp only [h,if_false] <;> lia
 ·cases hi with
  | none=>simp [fj,HT.sIx]
  | some i=>
   simp only [fj,HT.sIx,oF,show (1:Int) > 0 by decide,if_true]
   by_cases h:i < 0
   ·simp only [h,if_true] <;> lia
   ·simp only [h,if_false] <;> lia
theorem kE (its:List δ) (lo hi:Option Int):slicePick its.toArray lo hi none=((its.drop (HT.sIx its.length 0 lo)).take (HT.sIx its.length its.length hi - HT.sIx its.length 0 lo)).toArray:=by
 obtain ⟨h1,h2,h3⟩:=Za lo hi its.toArray.size
 unfold slicePick
 rw [h1,h2,h3]
 simp only [sliceRange_one,pick_run,ξ] <;> rfl
def rSlL (K:W.Frag):V->Option Int->Option Int->Hp->VK->Prop:=fun x lo hi H Q=>∃ a xs,x=.ref a/\SqL K H a xs/\∀ p,H p=none->Q (.ref p) (upd H p (.lst (cutV xs lo hi)))
theorem Uj:SlR X (rSlL X.K):=by
 intro pJ s σ H x v vl vu lo hi sl Q I rx hs pl pu h
 obtain ⟨a,xs,rfl,hx,q⟩:=h
 cases rx
 obtain ⟨its,r,ht,hz⟩:=I.list hx
 have hlen:=r.length
 refine ⟨"list",_,slot_list_getitem.lookup,ht.isList.typeIs,?_⟩
 refine wpAny_getItem_list_slice ht.isList hs pl pu .none (by simp) ?_ (by rw [ξ] <;> lia)
 rw [kE,<- hlen]
 refine ⟨.ref s.heap.objs.size,_,I.laid (t':=s.toks) (o:=.lst (cutV xs lo hi)) (fun b ob q=>η _ q) (π _) ?_,rfl,q _ (I.hok.fresh (π _))⟩
 exact ⟨ϣ (u5 xs lo hi) hz,_,0,(r.drop (HT.sIx xs.length 0 lo)).take (HT.sIx xs.length xs.length hi - HT.sIx xs.length 0 lo),Δ _ rfl⟩
noncomputable def flatV:V->Bool
 | .non=>true
 | .bl _=>true
 | .int _=>true
 | .str _=>true
 | _=>false
noncomputable def eqV:V->V->Bool
 | .non,.non=>true
 | .bl a,.bl b=>a==b
 | .bl a,.int b=>(if a then 1 else 0)==b
 | .int a,.bl b=>a==(if b then 1 else 0)
 | .int a,.int b=>a==b
 | .str a,.str b=>a==b
 | _,_=>false
theorem J9 {A:ϟ}{s:ν}{y x:V}{u v:δ}(ry:RelV y u) (rx:RelV x v) (fy:flatV y=true) (fx:flatV x=true):Ϯ A s u v (eqV y x):=by
 cases y with
 | non=>
  cases ry
  cases x with
  | non=>cases rx;exact Ϯ.same _
  | bl b=>cases rx;exact Ϯ.none_bool b
  | int b=>obtain ⟨t,rfl⟩:=rx;exact Ϯ.none_int b t
  | str b=>obtain ⟨t,rfl⟩:=rx;exact Ϯ.none_str b t
  | _=>exact absurd (show false=true from fx) ϗ
 | bl a=>
  cases ry
  cases x with
  | non=>cases rx;exact Ϯ.bool_none a
  | bl b=>cases rx;exact Ϯ.bool_bool a b
  | int b=>obtain ⟨t,rfl⟩:=rx;exact Ϯ.bool_int a b t
  | str b=>obtain ⟨t,rfl⟩:=rx;exact Ϯ.bool_str a b t
  | _=>exact absurd (show false=true from fx) ϗ
 | int a=>
  obtain ⟨t',rfl⟩:=ry
  cases x with
  | non=>cases rx;exact Ϯ.int_none a t'
  | bl b=>cases rx;exact Ϯ.int_bool a t' b
  | int b=>obtain ⟨t,rfl⟩:=rx;exact Ϯ.int_int a t' b t
  | str b=>obtain ⟨t,rfl⟩:=rx;exact mR a t' b t
  | _=>exact absurd (show false=true from fx) ϗ
 | str a=>
  obtain ⟨t',rfl⟩:=ry
  cases x with
  | non=>cases rx;exact Ϯ.str_none a t'
  | bl b=>cases rx;exact Ϯ.str_bool a t' b
  | int b=>obtain ⟨t,rfl⟩:=rx;exact mQ a t' b t
  | str b=>obtain ⟨t,rfl⟩:=rx;exact Ϯ.str_str a t' b t
  | _=>exact absurd (show false=true from fx) ϗ
 | _=>exact absurd (show false=true from fy) ϗ
noncomputable def eqU (x:V) (u:δ):Bool:=match u with
 | .none=>eqV .non x
 | .bool b=>eqV (.bl b) x
 | .int i _=>eqV (.int i) x
 | .str z _=>eqV (.str z) x
 | _=>false
theorem za0 {x y:V}{u:δ}(r:RelV y u) (f:flatV y=true):eqU x u=eqV y x:=by
 cases y with
 | non=>cases r;rfl
 | bl b=>cases r;rfl
 | int i=>obtain ⟨t,rfl⟩:=r;rfl
 | str z=>obtain ⟨t,rfl⟩:=r;rfl
 | _=>exact absurd (show false=true from f) ϗ
theorem jm {x:V}:∀ {xs:List V}{us:List δ},Vals xs us->xs.all flatV=true->us.any (eqU x)=xs.any fun y=>eqV y x
 | _,_,.nil,_=>rfl
 | y::xs,u::us,.cons r t,f=>by
  rw [cu,ζ] at f
  rw [cj,cj,za0 r f.1,jm t f.2]
theorem wC {A:ϟ}{s:ν}{x:V}{v:δ}(rx:RelV x v) (fx:flatV x=true):∀ {xs:List V}{us:List δ},Vals xs us->xs.all flatV=true->∀ u∈us,Ϯ A s u v (eqU x u)
 | _,_,.nil,_=>fun u hu=>by cases hu
 | y::xs,u::us,.cons r t,f=>fun u' hu=>by
  rw [cu,ζ] at f
  rcases Η.mp hu with rfl | hu
  ·rw [za0 r f.1];exact J9 r rx f.1 fx
  ·exact wC rx fx t f.2 u' hu
noncomputable def inV (x:V) (xs:List V):Bool:=xs.any fun y=>eqV y x
def rIn (K:W.Frag) (neg:Bool):R2:=fun x y H Q=>∃ p xs,y=.ref p/\(SqL K H p xs\/SqT K H p xs)/\flatV x=true/\xs.all flatV=true/\Q (.bl (if neg then !inV x xs else inV x xs)) H
theorem Jb:OpR X (ώ .In) (rIn X.K false):=by
 intro pJ s σ H x y v u Q I rx ry h
 obtain ⟨p,xs,rfl,hq,fx,fs,q⟩:=h
 cases ry
 rcases hq with hq | hq
 ·obtain ⟨its,r,pl,hz⟩:=I.list hq
  refine SeqAt.in_listAt (eqU x) pl.isList (fun w hw=>wC rx fx r fs w (by simpa using hw)) ⟨.bl _,H,I,rfl,?_⟩
  rw [show its.toArray.any (eqU x)=its.any (eqU x) by simp,jm r fs]
  exact q
 ·obtain ⟨its,r,pl,hz⟩:=I.tuple hq
  refine SeqAt.in_tupleAt (eqU x) pl (fun w hw=>wC rx fx r fs w (by simpa using hw)) ⟨.bl _,H,I,rfl,?_⟩
  rw [show its.toArray.any (eqU x)=its.any (eqU x) by simp,jm r fs]
  exact q
theorem Zw:OpR X (ώ .NotIn) (rIn X.K true):=by
 intro pJ s σ H x y v u Q I rx ry h
 obtain ⟨p,xs,rfl,hq,fx,fs,q⟩:=h
 cases ry
 rcases hq with hq | hq
 ·obtain ⟨its,r,pl,hz⟩:=I.list hq
  refine SeqAt.notIn_listAt (eqU x) pl.isList (fun w hw=>wC rx fx r fs w (by simpa using hw)) ⟨.bl _,H,I,rfl,?_⟩
  rw [show its.toArray.any (eqU x)=its.any (eqU x) by simp,jm r fs]
  exact q
 ·obtain ⟨its,r,pl,hz⟩:=I.tuple hq
  refine SeqAt.notIn_tupleAt (eqU x) pl (fun w hw=>wC rx fx r fs w (by simpa using hw)) ⟨.bl _,H,I,rfl,?_⟩
  rw [show its.toArray.any (eqU x)=its.any (eqU x) by simp,jm r fs]
  exact q
theorem Zv:OpR X (ώ .NotIn) (fun x y H Q=>∃ i j,x=.str i/\y=.str j/\Q (.bl (!(!(fu j i 0 j.length 1).isEmpty))) H):=by
 intro pJ s σ H x y v u Q I rx ry h
 obtain ⟨i,j,rfl,rfl,q⟩:=h
 obtain ⟨t,rfl⟩:=rx
 obtain ⟨t',rfl⟩:=ry
 exact notIn_str ⟨.bl _,H,I,rfl,q⟩
theorem yZ:CallR X (.builtin "len") (fun xs H Q=>∃ p ys,xs=[.ref p]/\(SqL X.K H p ys\/SqT X.K H p ys)/\Q (.int ys.length) H):=by
 intro pJ s σ H xs us Q I r h
 obtain ⟨p,ys,rfl,hq,q⟩:=h
 obtain ⟨u,rfl,rx⟩:=vals1 r
 cases rx
 have hn:=jL
 rcases hq with hq | hq
 ·obtain ⟨its,r',pl,hz⟩:=I.list hq
  have hlen:=r'.length
  exact Calls.call_len_list pl.isList (by simp only [ξ] <;> lia) ⟨.int ys.length,H,I.tok _,⟨s.toks+1,by rw [ξ,hlen]⟩,q⟩
 ·obtain ⟨its,r',pl,hz⟩:=I.tuple hq
  have hlen:=r'.length
  exact len_tuple pl (by simp only [ξ] <;> lia) ⟨.int ys.length,H,I.tok _,⟨s.toks+1,by rw [ξ,hlen]⟩,q⟩
theorem Ye:CallR X (.builtin "len") (fun xs H Q=>∃ z,xs=[.str z]/\z.length<=sizeLine/\Q (.int z.length) H):=by
 intro pJ s σ H xs us Q I r h
 obtain ⟨z,rfl,hz,q⟩:=h
 obtain ⟨u,rfl,t,rfl⟩:=vals1 r
 have hn:=jL
 exact len_str (by lia) ⟨.int z.length,H,I.tok _,⟨_,rfl⟩,q⟩
theorem CallR.or {f:δ}{r r':List V->Hp->VK->Prop}(h:CallR X f r) (h':CallR X f r'):CallR X f (fun xs H Q=>r xs H Q\/r' xs H Q):=by
 intro pJ s σ H xs us Q I rs q
 rcases q with q | q
 ·exact h pJ s σ H xs us Q I rs q
 ·exact h' pJ s σ H xs us Q I rs q
theorem Yd:CallR X (.type "list") (fun xs H Q=>∃ p ys,xs=[.ref p]/\(SqL X.K H p ys\/SqT X.K H p ys)/\∀ l,H l=none->Q (.ref l) (upd H l (.lst ys))):=by
 intro pJ s σ H xs us Q I r h
 obtain ⟨p,ys,rfl,hq,q⟩:=h
 obtain ⟨u,rfl,rx⟩:=vals1 r
 cases rx
 have fin:∀ (its:List δ),Vals ys its->ys.length<=sizeLine->∀ (h':Heap) (c':Nat),(∀ b o',s.heap.get? b=some o'->h'.get? b=some o') ->
   h'.get? s.heap.objs.size=some { cls:=.type "list",dict:=none,data:=.seq its.toArray c',slots:=#[] }->EP X pJ σ Q (.ref s.heap.objs.size) { s with heap:=h' }:=fun its r' hz h' c' kp e=>
  ⟨.ref s.heap.objs.size,_,I.laid (t':=s.toks) kp (π _) (show ObjOk X.prog X.w _ h' _ (.lst ys) from ⟨hz,its,c',r',e⟩),rfl,q _ (I.hok.fresh (π _))⟩
 rcases hq with hq | hq
 ·obtain ⟨its,r',pl,hz⟩:=I.list hq
  have hlen:=r'.length
  obtain ⟨o,ho,hc,n,hd⟩:=pl.isList
  exact call_list_seq p (.inl rfl) ho hc hd (fun h' c' kp e=>fin its r' hz h' c' kp e) (by simp only [ξ] <;> lia)
 ·obtain ⟨its,r',pl,hz⟩:=I.tuple hq
  have hlen:=r'.length
  obtain ⟨o,ho,hc,n,hd⟩:=pl
  exact call_list_seq p (.inr rfl) ho hc hd (fun h' c' kp e=>fin its r' hz h' c' kp e) (by simp only [ξ] <;> lia)
theorem qJ:CallR X (.type "tuple") (fun xs H Q=>∃ p ys,xs=[.ref p]/\((SqL X.K H p ys/\∀ l,H l=none->Q (.ref l) (upd H l (.tup ys)))\/(SqT X.K H p ys/\Q (.ref p) H))):=by
 intro pJ s σ H xs us Q I r h
 obtain ⟨p,ys,rfl,h⟩:=h
 obtain ⟨u,rfl,rx⟩:=vals1 r
 cases rx
 rcases h with ⟨hq,q⟩ | ⟨hq,q⟩
 ·obtain ⟨its,r',pl,hz⟩:=I.list hq
  have hlen:=r'.length
  refine call_tuple_list pl.isList (fun h' kp=>?_) (by simp only [ξ] <;> lia)
  have I1:Inv X pJ σ H { s with heap:=h' }:=I.kept (t':=s.toks) kp
  have I2:Inv X pJ σ (upd H h'.objs.size (.tup ys)) { s with heap:=h'.push { cls:=.type "tuple",data:=.seq its.toArray } }:=
   I1.laid (t':=s.toks) (fun b o e=>η _ e) (π _) (show ObjOk X.prog X.w _ _ _ (.tup ys) from ⟨hz,its,r',IsTup.new _ _⟩)
  exact ⟨.ref h'.objs.size,_,I2,rfl,q _ (I1.hok.fresh (π _))⟩
 ·obtain ⟨its,r',pl,hz⟩:=I.tuple hq
  exact call_tuple_same pl ⟨.ref p,H,I,rfl,q⟩
def tyV (K:W.Frag) (T:String) (x:V) (H:Hp):Prop:=match x with
 | .str _=>T="str"
 | .int _=>T="int"
 | .ref p=>(T="list"/\∃ xs,SqL K H p xs)\/(∃ o,K.lookup p=some o/\o.cls=.type T/\o.dict=none) \/
   (T="dict"/\((∃ kvs,H p=some (.dK kvs))\/∃ kvs,H p=some (.dT kvs)))\/(T="set"/\∃ S n,H p=some (.set S n))
 | _=>False
theorem zao {pJ:List (Addr×Obj)}{σ:St}{H:Hp}{s:ν}{T:String}{x:V}{v:δ}(I:Inv X pJ σ H s) (r:RelV x v) (ty:tyV X.K T x H):
  s.TypeIs v T/\∀ a,v=.ref a->∃ ob,s.heap.get? a=some ob/\ob.dict=none:=by
 cases x with
 | str z=>
  obtain ⟨t,rfl⟩:=r
  cases (show T="str" from ty)
  exact ⟨typeIs_str s z t,fun _ e=>nomatch e⟩
 | int i=>
  obtain ⟨t,rfl⟩:=r
  cases (show T="int" from ty)
  exact ⟨typeIs_int s i t,fun _ e=>nomatch e⟩
 | ref p=>
  cases r
  rcases ty with ⟨rfl,xs,hq⟩ | ⟨o,hk,hc,hd⟩ | ⟨rfl,hk⟩ | ⟨rfl,S,n,hk⟩
  ·obtain ⟨its,_,pl,_⟩:=I.list hq
   refine ⟨pl.isList.typeIs,fun a e=>?_⟩
   cases e
   obtain ⟨o,n,e,c,hd,_⟩:=pl
   exact ⟨o,e,hd⟩
  ·refine ⟨⟨o,I.kIn p o hk,hc⟩,fun a e=>?_⟩
   cases e
   exact ⟨o,I.kIn _ o hk,hd⟩
  ·have z:∃ o,s.heap.get? p=some o/\o.ExactDict:=by
    rcases hk with ⟨kvs,hk⟩ | ⟨kvs,hk⟩
    ·obtain ⟨_,_,_,_,o,_,_,e,ex,_⟩:=I.hok p _ hk
     exact ⟨o,e,ex⟩
    ·obtain ⟨_,_,_,_,o,_,_,e,ex,_⟩:=I.hok p _ hk
     exact ⟨o,e,ex⟩
   obtain ⟨o,e,ex⟩:=z
   refine ⟨⟨o,e,ex.1⟩,fun a e2=>?_⟩
   cases e2
   exact ⟨o,e,ex.2.1⟩
  ·obtain ⟨o,_,_,_,e,ex,_⟩:=I.hok p _ hk
   refine ⟨⟨o,e,ex.1⟩,fun a e2=>?_⟩
   cases e2
   exact ⟨o,e,ex.2.1⟩
 | _=>exact ak ty
def tBM0 (K:W.Frag) (T:String) (r:V->List V->Hp->VK->Prop) (to:TE):TE:=fun σ H Q=>to σ H fun x H1=>tyV K T x H1/\r x [] H1 Q
def tBM (K:W.Frag) (T:String) (r:V->List V->Hp->VK->Prop) (to:TE) (t:TA):TE:=fun σ H Q=>to σ H fun x H1=>tyV K T x H1/\t σ H1 fun xs H2=>r x xs H2 Q
variable {o e:Expr}{es:List Expr}{to:TE}{t:TA}{name:Str}{apos cpos:Pos}{T id:String}{r:V->List V->Hp->VK->Prop}
theorem zdX (pa:PlainAttrs T) (slot:Slot T name id) (hty:typeOf (.builtin id)=pure (.type "method_descriptor")) (hm:MtR X id r) (ho:PE X o to)
  (hbase:n8 o name X.env (eval o X.env)=eval o X.env:=by rfl) (hline:(apos.endLine==cpos.line)=true:=by rfl):PE X (.Call (.Attribute o name apos) [] [] cpos) (tBM0 X.K T r to):=by
 intro pJ s σ H Q I h
 refine wpAny_Call_method0_late hbase hline (thn (ho pJ s σ H _ I h) fun v s1 ⟨x,H1,I1,r1,ty,q1⟩=>?_)
 obtain ⟨h1,h2⟩:=zao I1 r1 ty
 exact ⟨T,id,pa,slot,hty,h1,h2,nu rfl (PySem.evalArgs_none (hm pJ s1 σ H1 x [] v [] Q I1 r1 .nil q1))⟩
theorem pe_bm (pa:PlainAttrs T) (slot:Slot T name id) (hty:typeOf (.builtin id)=pure (.type "method_descriptor")) (hm:MtR X id r) (ho:PE X o to) (ha:PA X (e::es) t)
  (hbase:n8 o name X.env (eval o X.env)=eval o X.env:=by rfl)
  (hfew:((eV cpos (Ϥ (e::es) X.env)).all (fun x=>!x.1)&&(cR cpos (aL [] X.env)).all (fun x=>x.1.isSome)
  &&decide ((e::es).length+([]:List bG).length+(if ([]:List bG).isEmpty then 0 else 1) < 30))=true:=by rfl)
  (hline:(apos.endLine==cpos.line)=true:=by rfl) (hs:Ϥ (e::es) X.env=(false,eval e X.env)::Ϥ es X.env:=by rfl) (hplain:(eV cpos (Ϥ es X.env)).any (·.1)=false:=by rfl):
  PE X (.Call (.Attribute o name apos) (e::es) [] cpos) (tBM X.K T r to t):=by
 intro pJ s σ H Q I h
 refine wpAny_Call_method_late hbase hfew hline rfl (thn (ho pJ s σ H _ I h) fun v s1 ⟨x,H1,I1,r1,ty,q1⟩=>?_)
 obtain ⟨h1,h2⟩:=zao I1 r1 ty
 refine ⟨T,id,pa,slot,hty,h1,h2,?_⟩
 have hA:=ha cpos pJ s1 σ H1 _ I1 q1
 rw [hs] at hA ⊢
 refine nu (by show (false||(eV cpos (Ϥ es X.env)).any (·.1))=false;rw [hplain] <;> rfl) (Calls.evalArgs_plain ?_)
 exact thn hA fun us s2 ⟨vs,H2,I2,r2,q2⟩=>hm pJ s2 σ H2 x vs v us Q I2 r1 r2 q2
end
def MtM (X:Cx) (id:String) (r:V->List V->Hp->VK->Prop):Prop:=
 ∀ (pJ:List (Addr×Obj)) (s:ν) (σ:St) (H:Hp) (x:V) (xs:List V) (v:δ) (us:List δ) (Q:VK),Inv X pJ σ H s->RelV x v->Vals xs us->r x xs H Q ->
  Θ (Ξ X.prog X.w) X.A (call (.builtin id) (v::us)) (EP X pJ σ Q) X.xe s
theorem Vals.one:∀ {x:V}{us:List δ},Vals [x] us->∃ u,us=[u]/\RelV x u
 | _,_,.cons r .nil=>⟨_,rfl,r⟩
theorem Vals.two:∀ {x y:V}{us:List δ},Vals [x,y] us->∃ u v,us=[u,v]/\RelV x u/\RelV y v
 | _,_,_,.cons r (.cons q .nil)=>⟨_,_,rfl,r,q⟩
theorem Vals.zero:∀ {us:List δ},Vals [] us->us=[]
 | _,.nil=>rfl
theorem Vals.dropLast {xs:List V}{us:List δ}(h:Vals xs us):Vals xs.dropLast us.dropLast:=by
 induction h with
 | nil=>exact .nil
 | cons r t ih=>
  cases t with
  | nil=>exact .nil
  | cons q t'=>exact .cons r ih
theorem Vx {α:Type}(l:List α):l.eraseIdx (l.length - 1)=l.dropLast:=by
 induction l with
 | nil=>rfl
 | cons a r ih=>
  cases r with
  | nil=>rfl
  | cons b r=>
   have e:(a::b::r).length - 1=((b::r).length - 1)+1:=by
    have h1:(a::b::r).length=r.length+2:=rfl
    have h2:(b::r).length=r.length+1:=rfl
    lia
   rw [e,List.eraseIdx_cons_succ,ih]
   all_goals rfl
section
variable {X:Cx}{pJ:List (Addr×Obj)}{σ:St}{H:Hp}{s:ν}{l b:Addr}{xs ys zs:List V}
theorem Inv.lset {its its':List δ}{n:Nat}{f:Array δ->Array δ}{t':Nat}(I:Inv X pJ σ H s) (hH:H l=some (.lst xs))
  (e:s.heap.get? l=some { cls:=.type "list",data:=.seq its.toArray n }) (hf:f its.toArray=its'.toArray) (hv:Vals ys its') (hz:ys.length<=sizeLine):
  Inv X pJ σ (upd H l (.lst ys)) { s with heap:=s.heap.update l (bf f),toks:=t' }:=by
 have q:=PySem.IsL.update e f
 rw [hf] at q
 refine I.write (x:=l) (e:=l) (by rw [hH];exact trivial) (.inl rfl) (fun b' u hb hu=>(nG s.heap (bf f) (fY hb)).trans hu) ⟨_,q⟩ ?_
 exact ⟨hz,its',_,hv,q⟩
theorem Inv.lnew {its:List δ}{t':Nat}(I:Inv X pJ σ H s) (hv:Vals ys its) (hz:ys.length<=sizeLine):
  Inv X pJ σ (upd H s.heap.objs.size (.lst ys)) { s with heap:=s.heap.push { cls:=.type "list",data:=.seq its.toArray },toks:=t' }:=
 I.laid (fun _ _ q=>η _ q) (π _) ⟨hz,its,0,hv,Δ _ rfl⟩
theorem Inv.fresh (I:Inv X pJ σ H s):H s.heap.objs.size=none:=I.hok.fresh (π _)
theorem Inv.lstM (I:Inv X pJ σ H s) (hH:H l=some (.lst xs)):xs.length<=sizeLine/\∃ (its:List δ) (n:Nat),Vals xs its/\xs.length=its.length/\s.heap.get? l=some { cls:=.type "list",data:=.seq its.toArray n }:=by
 obtain ⟨z,its,n,r,e⟩:=I.hok l _ hH
 exact ⟨z,its,n,r,r.length,e⟩
theorem Wi {n:Nat}(h:n<=sizeLine):cO n=false:=by
 unfold cO
 exact decide_eq_false (by lia)
end
section
variable {X:Cx}
def zbG:V->List V->Hp->VK->Prop:=fun x vs H Q=>∃ l xs y,x=.ref l/\vs=[y]/\H l=some (.lst xs)/\xs.length < sizeLine/\Q .non (upd H l (.lst (xs++[y])))
theorem ZC:MtM X "list.append" zbG:=by
 intro pJ s σ H x vs v us Q I rx rv h
 obtain ⟨l,xs,y,rfl,rfl,hH,hz,q⟩:=h
 cases rx
 obtain ⟨u,rfl,ru⟩:=rv.one
 obtain ⟨z,its,n,r,hl,e⟩:=I.lstM hH
 refine lH F.slot_list_append ⟨_,e,rfl⟩ F.entry_list_append (F.args_list_append_2 _ _) (PySem.list_append l its.toArray n u (by rw [ξ];lia)) ⟨e,?_⟩
 refine ⟨.non,_,I.lset (its':=its++[u]) hH e (by simp) (r.append (.cons ru .nil)) ?_,rfl,q⟩
 rw [Ϗ,List.length_singleton]
 lia
def zbF:V->List V->Hp->VK->Prop:=fun x vs H Q=>∃ l b xs zs,x=.ref l/\vs=[.ref b]/\H l=some (.lst xs)/\H b=some (.lst zs)/\xs.length+zs.length<=sizeLine/\Q .non (upd H l (.lst (xs++zs)))
theorem Jl:MtM X "list.extend" zbF:=by
 intro pJ s σ H x vs v us Q I rx rv h
 obtain ⟨l,b,xs,zs,rfl,rfl,hH,hB,hz,q⟩:=h
 cases rx
 obtain ⟨u,rfl,ru⟩:=rv.one
 cases ru
 obtain ⟨z,its,n,r,hl,e⟩:=I.lstM hH
 obtain ⟨z2,its2,n2,r2,hl2,e2⟩:=I.lstM hB
 have hsz:its.toArray.size+its2.toArray.size<=sizeLine:=by rw [ξ,ξ];lia
 have hlong:¬ (!its.toArray.isEmpty&&cO (its.toArray.size+its2.toArray.size))=true:=by
  rw [Wi hsz,gQ]
  exact ϗ
 refine lH F.slot_list_extend ⟨_,e,rfl⟩ F.entry_list_extend (F.args_list_extend_2 _ _)
  (AutoSeq1.list_extend_list_list_0 l its.toArray n b its2.toArray n2 hlong (by rw [ξ];lia) (by lia)) ⟨e,e2,?_⟩
 refine ⟨.non,_,I.lset (its':=its++its2) hH e (by simp) (r.append r2) ?_,rfl,q⟩
 rw [Ϗ]
 lia
def rPop:V->List V->Hp->VK->Prop:=fun x vs H Q=>∃ l xs y,x=.ref l/\vs=[]/\H l=some (.lst xs)/\xs[xs.length - 1]?=some y/\Q y (upd H l (.lst xs.dropLast))
theorem zek:MtM X "list.pop" rPop:=by
 intro pJ s σ H x vs v us Q I rx rv h
 obtain ⟨l,xs,y,rfl,rfl,hH,hy,q⟩:=h
 cases rx
 have hus:=rv.zero
 subst hus
 obtain ⟨z,its,n,r,hl,e⟩:=I.lstM hH
 obtain ⟨u,hu,ru⟩:=r.get hy
 have hy':its.toArray[its.toArray.size - 1]?=some u:=by
  show its.toArray[its.length - 1]?=some u
  rw [<- bC,<- hl]
  exact hu
 refine lH F.slot_list_pop ⟨_,e,rfl⟩ F.entry_list_pop (F.args_list_pop_1 _) (MeetsSeq.list_pop_last l its.toArray n u hy' (by rw [ξ];lia)) ⟨e,?_⟩
 refine ⟨y,_,I.lset (its':=its.dropLast) hH e ?_ r.dropLast ?_,ru,q⟩
 ·show its.toArray.eraseIdxIfInBounds (its.toArray.size - 1)=its.dropLast.toArray
  rw [ξ,List.eraseIdxIfInBounds_toArray,Vx]
 ·rw [cV]
  lia
end
end L2
namespace Att
open PySem PySem.W PySem.Calls PyProof.Rows
theorem uU {P:Params}{h:Heap}:∀ (ns:List Int) (vs:List δ),WellAll P h vs (ns.map WData.int)->IntsAre vs ns:=by
 intro ns
 induction ns with
 | nil=>
  intro vs w
  rw [lg] at w
  cases w
  exact .nil
 | cons n ns ih=>
  intro vs w
  rw [ϧ] at w
  cases w with
  | cons a b=>
   cases a
   exact .cons _ _ (ih _ b)
theorem Um {l:OpenLaw}{n:Nat}(hn:l.most=some n) {P:Params}{h:Heap}{args:List WData}{vals:List δ}
  (hpre:l.row.toRowW.claim.pre args=true) (hwl:WellAll P h vals args):
  ∃ a vs ns,vals=[Ε a]/\args=[WData.list (ns.map WData.int)]/\h.get? a=some { cls:=.type "list",data:=.seq vs.toArray }/\IntsAre vs ns/\ns.length<=n:=by
 have hsh:WShape.hasAll [] args [.list .int]=true:=(pre_splitW hpre).1
 have hc:l.pre.holds [] { args:=args }=true:=(pre_splitW hpre).2
 obtain ⟨d,r,rfl,h1,h2⟩:=hasAllW_cons hsh
 obtain rfl:=hasAllW_nil h2
 obtain ⟨xs,rfl,h3⟩:=hasW_list h1
 obtain ⟨ns,rfl⟩:=items_int h3
 have hlen:ns.length<=n:=by
  unfold OpenLaw.pre at hc
  have h4:(WTm.not (.lt (.lit (.int (n:Int))) (.len (.arg 0)))).holds [] { args:=[.list (ns.map .int)] }=true:=by
   have h4:=(holds_andW hc).1
   rw [hn] at h4
   exact h4
  have h5:=condW_of h4 (w_not (w_lt w_lit (w_len_list (w_arg rfl))))
  rw [Ν] at h5
  refine lK fun q=>?_
  have q':(n:Int) < ((ns.length:Nat):Int):=by omega
  first
   | (rw [decide_eq_true q'] at h5;exact absurd h5 (by decide))
   | (simp at h5;omega)
 cases hwl with
 | cons w1 w2=>
  cases w2
  cases w1 with
  | list ho hall=>exact ⟨_,_,ns,rfl,rfl,ho,uU ns _ hall,hlen⟩
theorem UJ (l:OpenLaw) (args:List WData):l.row.toRowW.claim.post args (.bool true) args=true:=
 postW_of (r:=l.row.toRowW) (X:=(true==true))
  (show WShape.has [] (.bool true) .bool=true by first | rfl | decide | simp [WShape.has,WShape.arms,WShape.armsAll])
  (show (WTm.eq .res (.lit (.bool true))).value [] { args:=args,res:=some (.bool true),after:=args }=some (.bool (true==true)) from w_eq_bool (w_res rfl) w_lit) rfl
theorem Xo {l:OpenLaw}{n:Nat}{q:Τ}{loose:List Str}{XP:(Str->Option δ)->Heap->Prop}{YP:ϝ->Heap->Prop}{d:DefRec}
  (hn:l.most=some n) (hdf:d.params.defaults=[])
  (call:∀ (w:ϝ) (sw s₁:ν) (mg mb:Str->Option δ) (fa:Addr) (o:Obj) (pm cd doc:δ) (a:Addr) (vs:List δ) (ns:List Int),
   Ground q loose [] XP w sw mg mb s₁.heap->YP w s₁.heap ->
   s₁.heap.get? fa=some o->o.data=.func (docDef d.name d.params d.body d.scope pm cd doc)->s₁.heap.CodeRec cd d.name->mg d.name=some (.ref fa) ->
   s₁.heap.get? a=some { cls:=.type "list",data:=.seq vs.toArray }->IntsAre vs ns->ns.length<=n->s₁.gens=#[] ->
   lQ (Ξ l.prog w) callerA (.call (.ref fa) ⟨[.ref a],[]⟩) (fun r s'=>r=.ok (.ret (.bool true))/\OldK s₁.heap s'.heap/\s'.os=s₁.os/\gZ s'.gens) s₁):
  WalkO q loose XP YP l.row.toRowW d [] (fun f vs=>PySem.call f vs):=by
 intro w sw s₁ mg mb G Y fa o pm cd doc dV kV ho hd hcd hD hmg hg args vals as hpre hlay hrd hwl hlo
 obtain rfl:dV=.none:=Dflts.none hD hdf
 obtain rfl:kV=.none:=Dflts.noKw hD
 obtain ⟨a,vs,ns,rfl,rfl,hobj,hints,hlen⟩:=Um hn hpre hwl
 refine enter_call (fJ (call w sw s₁ mg mb fa o pm cd doc a vs ns G Y ho (fd_plain hd) hcd hmg hobj hints hlen hg) fun r s' hq=>?_)
 obtain ⟨rfl,h2,h3,h4⟩:=hq
 exact ⟨.inl ⟨.bool true,.bool true,[],rfl,fun _=>rfl,.bool true,UJ l _,fun _=>⟨eO,fun _ hm=>(nomatch hm)⟩⟩,h2,h3,h4⟩
end Att
namespace L2
open PySem PySem.Spec PyProof.Rows
theorem qX:∀ {vs:List δ}{ns:List Int},IntsAre vs ns->Vals (ns.map V.int) vs
 | _,_,.nil=>.nil
 | _,_,.cons n t h=>.cons ⟨t,rfl⟩ (qX h)
def Only (H:Hp):Prop:=∀ b,H b=none\/∃ o xs,H b=some (.frz o (.lst xs))
theorem QQ {P:Τ}{w:ϝ}{K:W.Frag}{mg mb:Str->Option δ}{CX:CXT}{k:Nat}{fa a:Addr}{fd:bj}{x:Str}{sp:Sp}{s₁:ν}{vs:List δ}{ns:List Int}
  (KX:K.In s₁.heap) (hns:s₁.heap.Ns ϔ mg) (hb:s₁.heap.Ns builtinsNs mb) (hbb:∀ x:Str,x≠"__name__"->mb x=cI x) (hlim:s₁.heap.NoLimit) (hg:s₁.gens=#[])
  (ha:s₁.heap.get? a=some { cls:=.type "list",data:=.seq vs.toArray }) (hi:IntsAre vs ns) (hl:ns.length<=sizeLine) (hr:Room k callerA)
  (F:∀ base:Heap,K.In base->base.Ns ϔ mg->FnOk P w K mg base CX k fa fd [x] sp) (hbind:∀ (s:ν) (u:δ),BindsTo s fd ⟨[u],[]⟩ [(x,u)])
  (hsp:∀ H:Hp,Only H->SqL K H a (ns.map V.int)->sp [.ref a] H (fun v _=>v=.bl true) fun _ _ _=>False)
  (hCX:∀ H e s',CX [] H s₁ (fun _ _ _=>False) e s'->False):
  lQ (Ξ P w) callerA (.call (.ref fa) ⟨[.ref a],[]⟩) (fun r s'=>r=.ok (.ret (.bool true))/\OldK s₁.heap s'.heap/\s'.os=s₁.os/\gZ s'.gens) s₁:=by
 have rv:=qX hi
 have lenV:=hi.length
 have core:∀ H:Hp,Only H->SqL K H a (ns.map V.int)->HOk P w H s₁.heap->(∀ b,H b≠none->b=a)->(H a≠none->K.lookup a=none) ->
   lQ (Ξ P w) callerA (.call (.ref fa) ⟨[.ref a],[]⟩) (fun r s'=>r=.ok (.ret (.bool true))/\OldK s₁.heap s'.heap/\s'.os=s₁.os/\gZ s'.gens) s₁:=by
  intro H hO hS hok hA hK
  have qL:∀ {b:Addr}{o:Obj},s₁.heap.get? b=some o->H b=none->(hidT s₁.heap H).get? b=some o:=fun e n=>QT e n
  have noA:∀ {b:Addr}{o:Obj}{es:Array DictEntry}{ep:Nat},s₁.heap.get? b=some o->o.data=.dict es ep->H b=none:=fun {b o es ep} e d=>by
   cases q:H b with
   | none=>rfl
   | some u=>
    have e':b=a:=hA b (by rw [q];simp)
    subst e'
    rw [ha] at e;cases e
    have d':fC vs.toArray _=Data.dict es ep:=d
    cases d'
  have nsK:∀ {b:Addr}{m:Str->Option δ},s₁.heap.Ns b m->(hidT s₁.heap H).Ns b m:=fun {b m} ⟨o,es,ep,e,d,r⟩=>⟨o,es,ep,qL e (noA e d),d,r⟩
  have hKb:K.In (hidT s₁.heap H):=fun b o e=>qL (KX b o e) (by
   cases q:H b with
   | none=>rfl
   | some u=>
    have e':b=a:=hA b (by rw [q];simp)
    subst e'
    rw [hK (by rw [q];simp)] at e;cases e)
  have hM:Mod K mg (hidT s₁.heap H):=⟨hKb,nsK hns,⟨mb,nsK hb,hbb⟩,let ⟨mc,h1,h2⟩:=hlim;⟨mc,nsK h1,h2⟩⟩
  have e0:Env0 P w K mg (hidT s₁.heap H) callerA [] s₁ H:=⟨rfl,hM,fun b o e=>zb4 e,Nat.le_of_eq (J0 _ _),trivial,fun b hb=>absurd (show b∈([]:List Addr) from hb) (by simp),hok,.of_eq hg⟩
  refine fJ ((F _ hKb (nsK hns)).run callerA [] s₁ H ⟨[.ref a],[]⟩ [.ref a] [.ref a] _ _ hr e0 (hbind s₁ (.ref a)) (.cons rfl .nil) (hsp H hO hS)) fun r s' h=>?_
  cases r with
  | error e=>exact (hCX H e s' h).elim
  | ok fl=>
   cases fl with
   | next=>exact ak h
   | brk=>exact ak h
   | cont=>exact ak h
   | ret u=>
    obtain ⟨v,H',os,bare,un,hok',r',q⟩:=h
    have q':v=.bl true:=q
    subst q'
    obtain rfl:u=ύ true:=r'
    refine ⟨rfl,OldK.of_keep fun b o e=>?_,os,bare⟩
    cases q:H b with
    | none=>exact un.keep b o e q (by intro z;exact absurd (show b∈([]:List Addr) from z) (by simp)) (by simp)
    | some u=>
     rcases hO b with z | ⟨ob,xs,z⟩
     ·rw [q] at z;cases z
     ·have z2:=un.frzs b ob _ z
      obtain ⟨e1,_⟩:=hok b _ z
      obtain ⟨e2,_⟩:=hok' b _ z2
      rw [e] at e1;cases e1
      exact e2
 cases hk:K.lookup a with
 | some o=>
  have e:=KX a o hk
  rw [ha] at e
  cases e
  refine core (fun _=>none) (fun _=>.inl rfl) (.inr ⟨_,vs.toArray,_,hk,rfl,rfl,rfl,by rw [ξ,lenV];exact hl,by simpa using rv⟩) (fun b u z=>by have z':(none:Option HO)=some u:=z;cases z') (fun b z=>absurd rfl z) fun z=>absurd rfl z
 | none=>
  refine core (fun b=>if b=a then some (.frz { cls:=.type "list",data:=.seq vs.toArray } (.lst (ns.map V.int))) else none) (fun b=>?_) (.inl (.inr ⟨{ cls:=.type "list",data:=.seq vs.toArray },if_pos rfl⟩)) (fun b u z=>?_) (fun b z=>?_) fun _=>hk
  ·by_cases hb:b=a
   ·exact .inr ⟨_,_,if_pos hb⟩
   ·exact .inl (if_neg hb)
  ·by_cases hb:b=a
   ·have z':=(if_pos hb).symm.trans z
    cases z'
    subst hb
    exact ⟨ha,by rw [Ν];exact hl,vs,_,rv,ha⟩
   ·have z':=(if_neg hb).symm.trans z
    cases z'
  ·by_cases hb:b=a
   ·exact hb
   ·exact absurd (if_neg hb) z
abbrev CX0:CXT:=fun _ _ _ _ _ _=>False
abbrev E0:XK:=fun _ _ _=>False
theorem pass0 {X:Cx}:Yt CX0 X E0:=fun _ _ _ _ _ _ _ h=>h.elim
structure Fun (K:W.Frag) (x qual:Str) (st:Stmt) (f:Addr) (fd:bj):Prop where
 ex:∃ (oc:δ) (od:Option Addr) (kV doc pm:δ) (an:Option Addr) (cdv ct:δ) (osl:Array (Option δ)),
  fd=W.fnOf x qual (yq st) (zZ st) (zE st) .none kV doc pm an cdv ct/\K.lookup f=some ⟨oc,od,.func fd,osl⟩/\W.codeIn K cdv qual=true
 kp:W.keepIn K (.ref f)=true
section
variable {P:Τ}{w:ϝ}{K:W.Frag}{mg:Str->Option δ}{base:Heap}
theorem Fun.ok {x qual:Str}{st:Stmt}{f:Addr}{fd:bj}{N ps:List Str}{k:Nat}{sp:Sp}(F:Fun K x qual st f fd) (S:qM N ps (zE st)) (len:∀ vs H Q E,sp vs H Q E->vs.length=ps.length)
  (hbody:∀ (cdv:δ) (A:ϟ) (outer:List Env) (s:ν) (H:Hp) (vs:List V) (Q:VK) (E:XK),Room k (A.deeper (lG qual (zE st) s.heap.objs.size f cdv))->sp vs H Q E ->
   ∃ t,PSs (cxOf CX0 P w K mg base N qual (zE st) f cdv A outer s H E).nox (zZ st) t/\t { nx:=fun _ H'=>Q .non H',rt:=Q } (start N vs) H):FnOk P w K mg base CX0 (k+1) f fd ps sp:=by
 obtain ⟨oc,od,kV,doc,pm,an,cdv,ct,osl,rfl,lk,hcd⟩:=F.ex
 refine fn_of lk hcd S len fun A outer s H vs Q E hr hsp=>?_
 obtain ⟨t,h,q⟩:=hbody cdv A outer s H vs Q E hr hsp
 exact ⟨t,h.nox,q⟩
theorem Fun.binds {x qual:Str}{st:Stmt}{f:Addr}{fd:bj}{ps:List Str}(F:Fun K x qual st f fd)
  (h:∀ (kV doc pm:δ) (an:Option Addr) (cdv ct:δ) (us:List δ),us.length=ps.length->bindArgs (W.fnOf x qual (yq st) (zZ st) (zE st) .none kV doc pm an cdv ct) ⟨us,[]⟩=pure (ps.zip us)):Binds K fd ps []:=by
 obtain ⟨oc,od,kV,doc,pm,an,cdv,ct,osl,rfl,lk,hcd⟩:=F.ex
 exact .all (h kV doc pm an cdv ct)
theorem zeQ {x qual:Str}{st:Stmt}{f:Addr}{oc:δ}{od an:Option Addr}{osl:Array (Option δ)}{kV doc pm cdv ct:δ}(l:K.lookup f=some ⟨oc,od,.func (W.fnOf x qual (yq st) (zZ st) (zE st) .none kV doc pm an cdv ct),osl⟩)
  (c:W.codeIn K cdv qual=true) (k:W.keepIn K (.ref f)=true):Fun K x qual st f (W.fnOf x qual (yq st) (zZ st) (zE st) .none kV doc pm an cdv ct):=⟨⟨oc,od,kV,doc,pm,an,cdv,ct,osl,rfl,l,c⟩,k⟩
end
theorem iteF {A B:Prop}(h:B):if false=true then A else B:=by
 rw [if_neg ϗ]
 exact h
theorem iteT {A B:Prop}(h:A):if true=true then A else B:=by
 rw [if_pos rfl]
 exact h
def Same (H H':Hp):Prop:=∀ b o,H b=some o->H' b=some o
theorem Same.refl (H:Hp):Same H H:=fun _ _ h=>h
theorem Same.trans {H H1 H2:Hp}(a:Same H H1) (b:Same H1 H2):Same H H2:=fun c o h=>b c o (a c o h)
theorem Same.free {H H':Hp}(e:Same H H') {l:Addr}(h:H' l=Option.none):H l=Option.none:=by
 cases q:H l with
 | none=>rfl
 | some o=>
  rw [e l o q] at h
  cases h
theorem Same.seq {K:W.Frag}{H H':Hp}{a:Addr}{xs:List V}(e:Same H H') (h:SqL K H a xs):SqL K H' a xs:=by
 rcases h with (h | ⟨o,h⟩) | h
 ·exact .inl (.inl (e _ _ h))
 ·exact .inl (.inr ⟨o,e _ _ h⟩)
 ·exact .inr h
theorem wY {prog:Τ}{w:ϝ}{A:ϟ}{E:VSP}{s:ν}{it l:Addr}{i:Nat}{items:Array δ}{x:δ}{Q:VSP}(hit:s.heap.IsTupleIter it l i) (hl:s.heap.IsTuple l items) (hx:items[i]?=some x)
  (hQ:∀ h':Heap,h'.IsTupleIter it l (i+1)->Ϫ it s.heap h'->Q x { s with heap:=h' }):Θ (Ξ prog w) A (gJ (.ref it)) Q E s:=by
 obtain ⟨o,ho,hc,hd⟩:=id hit
 obtain ⟨ol,hol,left,nl,hdl⟩:=hl
 refine ε (aC hit.typeIs F.slot_tuple_iterator_next (Ϲ F.slot_tuple_iterator_next hit.typeIs F.entry_tuple_iterator_next ?_ (F.args_tuple_iterator_next_1 (.ref it))))
 refine ε ?_
 rw [show slotArgs "__next__" 0 { pos:=[Ε it] }=pure (Ε it,[]) from rfl]
 refine ι ?_
 refine ε (aY ho hd rfl ?_)
 refine ε (aY ho hd rfl ?_)
 refine ε (iD hol hdl ?_)
 have hx':items[((i:Int)).toNat]?=some x:=hx
 simp only [hx']
 refine ε (aH ho hd (by simp) (ι ⟨x,rfl,ι (hQ _ ⟨_,bH _ ho (Obj.isFreed_of_fields (oO hd _)),(Obj.cls_mapFields o _).trans hc,?_⟩ (cC s.heap it _))⟩))
 rw [oO hd]
 simp [bD]
theorem vX {prog:Τ}{w:ϝ}{A:ϟ}{E:VSP}{s:ν}{it l:Addr}{i:Nat}{items:Array δ}{Q:VSP}(hh:A.handled=none) (hit:s.heap.IsTupleIter it l i) (hl:s.heap.IsTuple l items) (hx:items[i]?=none)
  (hE:∀ (h':Heap) (e:Addr),Heap.ExtBut it s.heap h'->(∃ o,h'.get? e=some o/\o.cls=ϓ "StopIteration")->E (Ε e) { s with heap:=h' }):Θ (Ξ prog w) A (gJ (.ref it)) Q E s:=by
 obtain ⟨o,ho,hc,hd⟩:=id hit
 obtain ⟨ol,hol,left,nl,hdl⟩:=hl
 refine ε (aC hit.typeIs F.slot_tuple_iterator_next (Ϲ F.slot_tuple_iterator_next hit.typeIs F.entry_tuple_iterator_next ?_ (F.args_tuple_iterator_next_1 (.ref it))))
 refine ε ?_
 rw [show slotArgs "__next__" 0 { pos:=[Ε it] }=pure (Ε it,[]) from rfl]
 refine ι ?_
 refine ε (aY ho hd rfl ?_)
 refine ε (aY ho hd rfl ?_)
 refine ε (iD hol hdl ?_)
 have hx':items[((i:Int)).toNat]?=none:=hx
 simp only [hx']
 refine ε (aB (ε (aH ho hd (by simp) ?_)))
 refine ε ?_
 refine ε (Ϩ ?_)
 refine ε (bN rfl (Ϩ ?_))
 refine ε (wpAny_handled ?_)
 rw [show A.in1.handled=none from hh]
 refine wpAny_throw (hE _ _ (fun b o' hb hg=>?_) ⟨_,Δ _ rfl,rfl⟩)
 ·exact η _ (η _ (by rw [(cC s.heap it _).2 b hb];exact hg))
theorem qD {prog:Τ}{w:ϝ}{A:ϟ}{E:VSP}{s:ν}{e it l:Addr}{i:Nat}{items:Array δ}{x old:δ}{Q:VSP}(he:IsEnum s.heap e it (i:Int) old) (hit:s.heap.IsTupleIter it l i) (hl:s.heap.IsTuple l items) (hx:items[i]?=some x) (hne:e≠it)
  (hQ:∀ h':Heap,IsEnumOut h' e it ((i:Int)+1) x s.heap.objs.size->h'.IsTupleIter it l (i+1)->h'.get? s.heap.objs.size=some { cls:=ϓ "tuple",data:=fC #[ϙ (i:Int) s.toks,x] }->h'.objs.size=s.heap.objs.size+1 ->
   (∀ (b:Addr) (o:Obj),b≠e->b≠it->s.heap.get? b=some o->h'.get? b=some o)->Q (Ε s.heap.objs.size) { heap:=h',gens:=s.gens,drawn:=s.drawn,toks:=s.toks+1,os:=s.os }):
  Θ (Ξ prog w) A (Ω.«enumerate.__next__» { pos:=[Ε e] }) (fun fin s'=>∃ v,fin=Fin.done (Flow.ret v)/\Q v s') E s:=by
 obtain ⟨hp,gs,dr,tk,os⟩:=s
 dsimp only at *
 refine ε ?_
 rw [show slotArgs "__next__" 0 { pos:=[Ε e] }=pure (Ε e,[]) from rfl]
 refine ι ?_
 refine ε (aY he rfl rfl ?_)
 refine ε (wY hit hl hx fun h1 hit1 sb1=>?_)
 have he1:IsEnum h1 e it (i:Int) old:=(sb1.2 e hne).trans he
 refine ε (aY he1 rfl rfl ?_)
 refine ε (aY he1 rfl rfl ?_)
 rw [if_pos (by rfl)]
 refine ε (wpAny_mkInt ?_)
 refine ε (dR he1 (by simp) fun h2 he2 sb2=>?_)
 have he2:h2.get? e=some { cls:=ϓ "enumerate",data:=ϴ #[Ο,ύ false,Ε it,bD ((i:Int)+1),Ο,old] }:=by simpa using he2
 refine ε (dR he2 (by simp) fun h3 he3 sb3=>?_)
 have he3:h3.get? e=some { cls:=ϓ "enumerate",data:=ϴ #[Ο,ύ false,Ε it,bD ((i:Int)+1),Ο,old] }:=by simpa using he3
 have z1:h1.objs.size=hp.objs.size:=sb1.1
 have z2:h2.objs.size=h1.objs.size:=sb2.1
 have z3:h3.objs.size=h2.objs.size:=sb3.1
 refine ε (nJ ?_ (by rw [Ϻ];simp))
 dsimp only
 have he4:=η { cls:=ϓ "tuple",data:=fC [ϙ (↑i) tk,x].toArray } he3
 have t4:(h3.push { cls:=ϓ "tuple",data:=fC [ϙ (↑i) tk,x].toArray }).get? h3.objs.size=some { cls:=ϓ "tuple",data:=fC [ϙ (↑i) tk,x].toArray }:=Δ _ rfl
 have z4:(h3.push { cls:=ϓ "tuple",data:=fC [ϙ (↑i) tk,x].toArray }).objs.size=h3.objs.size+1:=fB _ _
 have k4:∀ (b:Addr) (o:Obj),h3.get? b=some o->(h3.push { cls:=ϓ "tuple",data:=fC [ϙ (↑i) tk,x].toArray }).get? b=some o:=fun b o h=>η _ h
 generalize h3.push { cls:=ϓ "tuple",data:=fC [ϙ (↑i) tk,x].toArray }=h4 at *
 refine ε ?_
 refine ε (aY he4 rfl rfl ?_)
 refine ι ?_
 refine ε (aB (ε (aY he4 rfl rfl ?_)))
 refine ε (dR he4 (by simp) fun h5 he5 sb5=>?_)
 have he5:h5.get? e=some { cls:=ϓ "enumerate",data:=ϴ #[Ο,ύ false,Ε it,bD ((i:Int)+1),Ο,x] }:=by simpa using he5
 refine ε ?_
 refine ε (dR he5 (by simp) fun h6 he6 sb6=>?_)
 have he6:h6.get? e=some { cls:=ϓ "enumerate",data:=ϴ #[bD (h3.objs.size:Int),ύ false,Ε it,bD ((i:Int)+1),Ο,x] }:=by simpa using he6
 refine dR he6 (by simp) fun h7 he7 sb7=>?_
 have he7:h7.get? e=some { cls:=ϓ "enumerate",data:=ϴ #[bD (h3.objs.size:Int),ύ false,Ε it,bD ((i:Int)+1),Ο,x] }:=by simpa using he7
 refine ε (wpAny_letGo ?_)
 have hs:h3.objs.size=hp.objs.size:=by lia
 have lt:∀ {h:Heap}{b:Addr}{o:Obj},h.get? b=some o->b < h.objs.size:=fun h=>Β h
 have hep:e≠h3.objs.size:=ϊ (lt he3)
 have back:∀ b:Addr,b≠e->h7.get? b=h4.get? b:=fun b hb=>(sb7.2 b hb).trans ((sb6.2 b hb).trans (sb5.2 b hb))
 have z7:h7.objs.size=h4.objs.size:=sb7.1.trans (sb6.1.trans sb5.1)
 refine ι ⟨_,rfl,?_⟩
 rw [hs] at he7 t4 hep ⊢
 refine hQ h7 he7 ?_ ?_ (by lia) fun b o hb hb' hg=>?_
 ·obtain ⟨o,ho,hr⟩:=id hit1
  refine ⟨o,?_,hr⟩
  rw [back it (fun q=>hne q.symm)]
  exact k4 it o ((sb3.2 it (fun q=>hne q.symm)).trans ((sb2.2 it (fun q=>hne q.symm)).trans ho))
 ·rw [back _ (fun q=>hep q.symm)]
  exact t4
 ·rw [back b hb]
  exact k4 b o ((sb3.2 b hb).trans ((sb2.2 b hb).trans ((sb1.2 b hb').trans hg)))
theorem uG {prog:Τ}{w:ϝ}{A:ϟ}{E:VSP}{s:ν}{e it l:Addr}{i:Nat}{items:Array δ}{x old:δ}{Q:Option δ->ν->Prop}(he:IsEnum s.heap e it (i:Int) old) (hit:s.heap.IsTupleIter it l i) (hl:s.heap.IsTuple l items) (hx:items[i]?=some x) (hne:e≠it)
  (hQ:∀ h':Heap,IsEnumOut h' e it ((i:Int)+1) x s.heap.objs.size->h'.IsTupleIter it l (i+1)->h'.get? s.heap.objs.size=some { cls:=ϓ "tuple",data:=fC #[ϙ (i:Int) s.toks,x] }->h'.objs.size=s.heap.objs.size+1 ->
   (∀ (b:Addr) (o:Obj),b≠e->b≠it->s.heap.get? b=some o->h'.get? b=some o)->Q (some (Ε s.heap.objs.size)) { heap:=h',gens:=s.gens,drawn:=s.drawn,toks:=s.toks+1,os:=s.os }):
  Θ (Ξ prog w) A (pyNext (.ref e)) Q E s:=by
 have ty:dg s (.ref e) "enumerate":=⟨_,he,rfl⟩
 refine ε (lC (aC ty F.slot_enumerate_next (Ϲ F.slot_enumerate_next ty F.entry_enumerate_next (qD he hit hl hx hne fun h' a b c d f=>?_) (F.args_enumerate_next_1 _))))
 exact ι (hQ h' a b c d f)
theorem xP {prog:Τ}{w:ϝ}{A:ϟ}{E:VSP}{s:ν}{e it l:Addr}{i:Nat}{items:Array δ}{old:δ}{Q:Option δ->ν->Prop}(hh:A.handled=none) (he:IsEnum s.heap e it (i:Int) old) (hit:s.heap.IsTupleIter it l i) (hl:s.heap.IsTuple l items) (hx:items[i]?=none)
  (hQ:∀ h':Heap,Heap.ExtBut it s.heap h'->Q none { s with heap:=h' }):Θ (Ξ prog w) A (pyNext (.ref e)) Q E s:=by
 have ty:dg s (.ref e) "enumerate":=⟨_,he,rfl⟩
 refine ε (lC (aC ty F.slot_enumerate_next (Ϲ F.slot_enumerate_next ty F.entry_enumerate_next ?_ (F.args_enumerate_next_1 _))))
 refine ε ?_
 rw [show slotArgs "__next__" 0 { pos:=[Ε e] }=pure (Ε e,[]) from rfl]
 refine ι ?_
 refine ε (aY he rfl rfl ?_)
 refine ε (vX (by exact hh) hit hl hx fun h' e' ext ⟨o,ho,hc⟩=>?_)
 refine ε (mC (T:="StopIteration") (b:=true) ⟨o,ho,hc⟩ isSubtype_stop ?_)
 exact ι (hQ h' ext)
set_option tactic.hygienic true in
theorem uL (l:Addr) (items:Array δ):Meets (Ω.«enumerate.__new__» { pos:=[ϓ "enumerate",Ε l] }) fun x R s=>
  s.heap.IsTuple l items/\R (Except.ok (Flow.ret (Ε (s.heap.push { cls:=ϓ "tuple_iterator",data:=ϴ #[Ε l,ϙ 0 0] }).objs.size)))
   { heap:=(s.heap.push { cls:=ϓ "tuple_iterator",data:=ϴ #[Ε l,ϙ 0 0] }).push { cls:=ϓ "enumerate",data:=ϴ #[Ο,ύ false,Ε s.heap.objs.size,bD 0,Ο,Ο] },gens:=s.gens,drawn:=s.drawn,toks:=s.toks,os:=s.os }:=
 Meets.of_wp fun prog w A R s h=>by
  obtain ⟨hp,g,d,tk,os⟩:=s
  obtain ⟨hl,h⟩:=h
  have hsub:=sub_enumerate
  refine ε ?_
  refine ε ?_
  refine ι ?_
  refine g8 rfl ?_
  refine ε (bN hsub ?_)
  refine g8 rfl ?_
  refine ι ?_
  refine wpAny_ite_true rfl ?_
  refine ε ?_
  refine ε (wpAny_stack_any fun st=>?_)
  refine ι ?_
  have fin:Θ (Ξ prog w) A.in1 (lF (Ε l) >>= fun it=>Ω.SmallTypes.newRecord (ϓ "enumerate") (Ω.SmallTypes.ownedTupleFields++[it,bD 0,Ο,Ο]) >>= fun v=>ret v)
    (fun fin s'=>∃ v,fin=Fin.done (Flow.ret v)/\R (Except.ok (Flow.ret v)) s') (fun e s'=>R (Except.error e) s') { heap:=hp,gens:=g,drawn:=d,toks:=tk,os:=os }:=
   by
   refine ε (lE hl ?_)
   refine ε ?_
   refine Ϩ (T:="enumerate") (data:=ϴ #[Ο,ύ false,Ε hp.objs.size,bD 0,Ο,Ο]) (dict:=none) ?_
   exact ι ⟨_,rfl,h⟩
  split
  ·rename_i c _ _ _ _ _
   generalize (c==ϓ "enumerate")=b
   cases b with
   | true=>exact wpAny_ite_true rfl (ε (bN rfl fin))
   | false=>exact g8 rfl (ε (bN rfl fin))
  ·exact g8 rfl (ε (bN rfl fin))
theorem wH {prog:Τ}{w:ϝ}{A:ϟ}{E:VSP}{s:ν}{l:Addr}{items:Array δ}{Q:VSP}(hl:s.heap.IsTuple l items)
  (h:∀ h':Heap,IsEnum h' (s.heap.objs.size+1) s.heap.objs.size 0 Ο->h'.IsTupleIter s.heap.objs.size l 0->h'.objs.size=s.heap.objs.size+2->(∀ (b:Addr) (o:Obj),s.heap.get? b=some o->h'.get? b=some o)->Q (Ε (s.heap.objs.size+1)) { s with heap:=h' }):
  Θ (Ξ prog w) A (call (ϓ "enumerate") [Ε l]) Q E s:=by
 have hz:=fB s.heap { cls:=ϓ "tuple_iterator",data:=ϴ #[Ε l,ϙ 0 0] }
 refine callType_new F.called_enumerate (by decide) (F.typeCall_enumerate_1 (Ε l)) (F.newCall_enumerate_1 (Ε l)) (fun obj=>F.args_object_init_2 obj (Ε l)) F.entry_enumerate_new (uL l items) ⟨hl,?_⟩
 have he:=Δ (s.heap.push { cls:=ϓ "tuple_iterator",data:=ϴ #[Ε l,ϙ 0 0] }) (o:={ cls:=ϓ "enumerate",data:=ϴ #[Ο,ύ false,Ε s.heap.objs.size,bD 0,Ο,Ο] }) rfl
 have hi:=η { cls:=ϓ "enumerate",data:=ϴ #[Ο,ύ false,Ε s.heap.objs.size,bD 0,Ο,Ο] } (Δ s.heap (o:={ cls:=ϓ "tuple_iterator",data:=ϴ #[Ε l,ϙ 0 0] }) rfl)
 have hz2:=fB (s.heap.push { cls:=ϓ "tuple_iterator",data:=ϴ #[Ε l,ϙ 0 0] }) { cls:=ϓ "enumerate",data:=ϴ #[Ο,ύ false,Ε s.heap.objs.size,bD 0,Ο,Ο] }
 show dg _ _ "enumerate"/\_
 rw [hz] at he ⊢
 exact ⟨⟨_,he,rfl⟩,h _ he ⟨_,hi,rfl,rfl⟩ (by rw [hz2,hz]) fun b o hb=>η _ (η _ hb)⟩
noncomputable def Ite (K:W.Frag) (l:Addr):It:=
 ⟨fun i H=>∃ xs x,SqL K H l xs/\xs[i]?=some x,fun i H x H'=>∃ p y,H p=none/\x=.ref p/\H'=upd H p (.tup [.int i,y])/\∀ xs,SqL K H l xs->xs[i]?=some y,fun i H=>∃ xs,SqL K H l xs/\xs.length<=i⟩
theorem V7 {P:Τ}{w:ϝ}{K:W.Frag}{elts:List Expr}{kk:Nat}{pos:Pos}(l e it:Addr) (hne:e≠it):
  Turn P w K (.Tuple elts kk pos) (Ite K l) [e,it] e (fun i h=>(∃ old,IsEnum h e it i old)/\h.IsListIter it l i) where
 mem:=by simp
 obj:=fun i h st b hb=>by
  obtain ⟨⟨old,he⟩,hit⟩:=st
  have hb':b=e\/b=it:=by simpa using hb
  rcases hb' with rfl | rfl
  ·exact ⟨_,he,fun v z=>by cases z⟩
  ·obtain ⟨o,q,c,d⟩:=hit
   exact ⟨o,q,fun v z=>by rw [d] at z;cases z⟩
 keep:=fun i h h' st k=>by
  obtain ⟨⟨old,he⟩,hit⟩:=st
  exact ⟨⟨old,k e (by simp) _ he⟩,hit.at fun o q=>k it (by simp) o q⟩
 item:=by
  intro X hP hw hK hc i pJ s σ H E I hf st hg
  subst hP hw hK
  obtain ⟨⟨old,he⟩,hit⟩:=st
  obtain ⟨xs,x,hq,hx⟩:=hg
  obtain ⟨its,rv,p,hz⟩:=I.list hq
  obtain ⟨u,hu,ru⟩:=rv.get hx
  have f1:=hf e (by simp)
  have f2:=hf it (by simp)
  have hT:H s.heap.objs.size=none:=I.hok.fresh (π _)
  refine wpAny_pyNext_enum_item he hit p.isList (x:=u) (by simpa using hu) hne fun h' ho hit' hTp hsz hk=>⟨_,rfl,?_⟩
  refine nM ho fun h2 he2 hs2=>?_
  have kept:∀ b o,b ∉ [e,it]->s.heap.get? b=some o->h2.get? b=some o:=fun b o hb q=>(hs2.2 b fun z=>hb (by simp [z])).trans (hk b o (fun z=>hb (by simp [z])) (fun z=>hb (by simp [z])) q)
  have nT:∀ b o,s.heap.get? b=some o->b≠s.heap.objs.size:=fun b o q=>ϊ (Β q)
  have htr:∀ b o,H b=some o->b ∉ [e,it]:=fun b o q hb=>by
   have hb':b=e\/b=it:=by simpa using hb
   rcases hb' with rfl | rfl
   ·rw [f1.1] at q;cases q
   ·rw [f2.1] at q;cases q
  have eT:h2.get? s.heap.objs.size=some { cls:=.type "tuple",data:=.seq #[.int i s.toks,u] }:=(hs2.2 _ (gq (Β he))).trans hTp
  have hok:HOk X.prog X.w (upd H s.heap.objs.size (.tup [.int i,x])) h2:=fun b o q=>by
   by_cases hb:b=s.heap.objs.size
   ·subst hb
    rw [zj] at q
    cases q
    exact ⟨by show 2<=sizeLine;decide,[.int i s.toks,u],.cons ⟨_,rfl⟩ (.cons ru .nil),⟨_,eT,rfl,_,rfl⟩⟩
   ·rw [zf hb] at q
    refine (I.hok b o q).stay (fun c v hcv r=>kept c v ?_ r) (fun c r=>by rw [zf (zg r hT)];exact r) fun c ys r=>by rw [zf (zg r hT)];exact r
    rcases hcv with rfl | hcv
    ·exact htr _ _ q
    ·exact htr _ _ hcv
  refine ⟨.ref s.heap.objs.size,upd H s.heap.objs.size (.tup [.int i,x]),?_,rfl,⟨_,x,hT,rfl,rfl,fun ys hy=>by rw [I.Wt hy hq];exact hx⟩,⟨⟨u,by simpa using he2⟩,hit'.at fun o q=>(hs2.2 it hne.symm).trans q⟩,fun b hb=>?_⟩
  ·refine Inv.step (s:=s) (H:=H) (h':=h2) (g':=s.gens) (d':=s.drawn) (t':=s.toks+1) (ch:=[e,it]) I (fun b hb=>?_) (fun b o _ _ hb q _=>kept b o hb q) (fun b o _ _ hb q _=>⟨o.slots,kept b o hb q⟩) (fun b o _ q n=>by rw [zf (nT b o q)];exact n) (fun b o hb q=>⟨o,kept b o hb q⟩)
    (fun b ys q=>by rw [zf (zg q hT)];exact q) (fun b o v q=>by rw [zf (zg q hT)];exact q) (fun b ps q=>⟨#[],by rw [zf (zg q hT),q];simp⟩) (fun m hm=>?_) hok I.bare
   ·have hb':b=e\/b=it:=by simpa using hb
    rcases hb' with rfl | rfl
    ·exact ⟨f1.2.2.2.1,f1.2.1,f1.2.2.2.2.1,f1.2.2.2.2.2⟩
    ·exact ⟨f2.2.2.2.1,f2.2.1,f2.2.2.2.2.1,f2.2.2.2.2.2⟩
   ·obtain ⟨o,es,ep,q,r⟩:=hm
    exact ⟨o,es,ep,kept _ o (fun hb=>by
     have hb':X.env.locals=e\/X.env.locals=it:=by simpa using hb
     rcases hb' with z | z
     ·exact f1.2.1 z.symm
     ·exact f2.2.1 z.symm) q,r⟩
  ·have hb':b=e\/b=it:=by simpa using hb
   rcases hb' with rfl | rfl
   ·rw [zf (nT _ _ he)];exact f1.1
   ·obtain ⟨o,q,_⟩:=hit
    rw [zf (nT _ _ q)];exact f2.1
 done:=by
  intro X hP hw hK hc i pJ s σ H E I hf st hg
  subst hP hw hK
  obtain ⟨⟨old,he⟩,hit⟩:=st
  obtain ⟨xs,hq,hx⟩:=hg
  obtain ⟨its,rv,p,hz⟩:=I.list hq
  obtain ⟨f0,f1,f2,f3,f4,f5⟩:=hf it (by simp)
  have hl:=rv.length
  exact wpAny_pyNext_enum_end (I.ok.hd hc) he hit p.isList (by simp;lia) fun h' eb=>⟨rfl,I.turned (t':=s.toks) (fun b o hb q=>eb b o hb q) f0 f1 f3 f4 f5⟩
 self:=fun A i s Q E st h=>by
  obtain ⟨⟨old,he⟩,_⟩:=st
  exact gj he h
noncomputable def Itet (K:W.Frag) (l:Addr):It:=
 ⟨fun i H=>∃ xs x,SqT K H l xs/\xs[i]?=some x,fun i H x H'=>∃ p y,H p=none/\x=.ref p/\H'=upd H p (.tup [.int i,y])/\∀ xs,SqT K H l xs->xs[i]?=some y,fun i H=>∃ xs,SqT K H l xs/\xs.length<=i⟩
theorem Vb {P:Τ}{w:ϝ}{K:W.Frag}{elts:List Expr}{kk:Nat}{pos:Pos}(l e it:Addr) (hne:e≠it):
  Turn P w K (.Tuple elts kk pos) (Itet K l) [e,it] e (fun i h=>(∃ old,IsEnum h e it i old)/\h.IsTupleIter it l i) where
 mem:=by simp
 obj:=fun i h st b hb=>by
  obtain ⟨⟨old,he⟩,hit⟩:=st
  have hb':b=e\/b=it:=by simpa using hb
  rcases hb' with rfl | rfl
  ·exact ⟨_,he,fun v z=>by cases z⟩
  ·obtain ⟨o,q,c,d⟩:=hit
   exact ⟨o,q,fun v z=>by rw [d] at z;cases z⟩
 keep:=fun i h h' st k=>by
  obtain ⟨⟨old,he⟩,hit⟩:=st
  exact ⟨⟨old,k e (by simp) _ he⟩,hit.at fun o q=>k it (by simp) o q⟩
 item:=by
  intro X hP hw hK hc i pJ s σ H E I hf st hg
  subst hP hw hK
  obtain ⟨⟨old,he⟩,hit⟩:=st
  obtain ⟨xs,x,hq,hx⟩:=hg
  obtain ⟨its,rv,p,hz⟩:=I.tuple hq
  obtain ⟨u,hu,ru⟩:=rv.get hx
  have f1:=hf e (by simp)
  have f2:=hf it (by simp)
  have hT:H s.heap.objs.size=none:=I.hok.fresh (π _)
  refine uG he hit (show s.heap.IsTuple l its.toArray from p) (x:=u) (by simpa using hu) hne fun h' ho hit' hTp hsz hk=>⟨_,rfl,?_⟩
  refine nM ho fun h2 he2 hs2=>?_
  have kept:∀ b o,b ∉ [e,it]->s.heap.get? b=some o->h2.get? b=some o:=fun b o hb q=>(hs2.2 b fun z=>hb (by simp [z])).trans (hk b o (fun z=>hb (by simp [z])) (fun z=>hb (by simp [z])) q)
  have nT:∀ b o,s.heap.get? b=some o->b≠s.heap.objs.size:=fun b o q=>ϊ (Β q)
  have htr:∀ b o,H b=some o->b ∉ [e,it]:=fun b o q hb=>by
   have hb':b=e\/b=it:=by simpa using hb
   rcases hb' with rfl | rfl
   ·rw [f1.1] at q;cases q
   ·rw [f2.1] at q;cases q
  have eT:h2.get? s.heap.objs.size=some { cls:=.type "tuple",data:=.seq #[.int i s.toks,u] }:=(hs2.2 _ (gq (Β he))).trans hTp
  have hok:HOk X.prog X.w (upd H s.heap.objs.size (.tup [.int i,x])) h2:=fun b o q=>by
   by_cases hb:b=s.heap.objs.size
   ·subst hb
    rw [zj] at q
    cases q
    exact ⟨by show 2<=sizeLine;decide,[.int i s.toks,u],.cons ⟨_,rfl⟩ (.cons ru .nil),⟨_,eT,rfl,_,rfl⟩⟩
   ·rw [zf hb] at q
    refine (I.hok b o q).stay (fun c v hcv r=>kept c v ?_ r) (fun c r=>by rw [zf (zg r hT)];exact r) fun c ys r=>by rw [zf (zg r hT)];exact r
    rcases hcv with rfl | hcv
    ·exact htr _ _ q
    ·exact htr _ _ hcv
  refine ⟨.ref s.heap.objs.size,upd H s.heap.objs.size (.tup [.int i,x]),?_,rfl,⟨_,x,hT,rfl,rfl,fun ys hy=>by rw [I.qZ hy hq];exact hx⟩,⟨⟨u,by simpa using he2⟩,hit'.at fun o q=>(hs2.2 it hne.symm).trans q⟩,fun b hb=>?_⟩
  ·refine Inv.step (s:=s) (H:=H) (h':=h2) (g':=s.gens) (d':=s.drawn) (t':=s.toks+1) (ch:=[e,it]) I (fun b hb=>?_) (fun b o _ _ hb q _=>kept b o hb q) (fun b o _ _ hb q _=>⟨o.slots,kept b o hb q⟩) (fun b o _ q n=>by rw [zf (nT b o q)];exact n) (fun b o hb q=>⟨o,kept b o hb q⟩)
    (fun b ys q=>by rw [zf (zg q hT)];exact q) (fun b o v q=>by rw [zf (zg q hT)];exact q) (fun b ps q=>⟨#[],by rw [zf (zg q hT),q];simp⟩) (fun m hm=>?_) hok I.bare
   ·have hb':b=e\/b=it:=by simpa using hb
    rcases hb' with rfl | rfl
    ·exact ⟨f1.2.2.2.1,f1.2.1,f1.2.2.2.2.1,f1.2.2.2.2.2⟩
    ·exact ⟨f2.2.2.2.1,f2.2.1,f2.2.2.2.2.1,f2.2.2.2.2.2⟩
   ·obtain ⟨o,es,ep,q,r⟩:=hm
    exact ⟨o,es,ep,kept _ o (fun hb=>by
     have hb':X.env.locals=e\/X.env.locals=it:=by simpa using hb
     rcases hb' with z | z
     ·exact f1.2.1 z.symm
     ·exact f2.2.1 z.symm) q,r⟩
  ·have hb':b=e\/b=it:=by simpa using hb
   rcases hb' with rfl | rfl
   ·rw [zf (nT _ _ he)];exact f1.1
   ·obtain ⟨o,q,_⟩:=hit
    rw [zf (nT _ _ q)];exact f2.1
 done:=by
  intro X hP hw hK hc i pJ s σ H E I hf st hg
  subst hP hw hK
  obtain ⟨⟨old,he⟩,hit⟩:=st
  obtain ⟨xs,hq,hx⟩:=hg
  obtain ⟨its,rv,p,hz⟩:=I.tuple hq
  obtain ⟨f0,f1,f2,f3,f4,f5⟩:=hf it (by simp)
  have hl:=rv.length
  exact xP (I.ok.hd hc) he hit (show s.heap.IsTuple l its.toArray from p) (by simp;lia) fun h' eb=>⟨rfl,I.turned (t':=s.toks) (fun b o hb q=>eb b o hb q) f0 f1 f3 f4 f5⟩
 self:=fun A i s Q E st h=>by
  obtain ⟨⟨old,he⟩,_⟩:=st
  exact gj he h
section
variable {κ:Type} [DecidableEq κ]
noncomputable def valV (kvs:List (κ×V)) (k:κ):Option V:=(kvs.find? fun kv=>decide (kv.1=k)).map (·.2)
noncomputable def putK (kvs:List (κ×V)) (k:κ) (v:V):List (κ×V):=
 if (kvs.any fun kv=>decide (kv.1=k))=true then kvs.map (fun kv=>if kv.1=k then (kv.1,v) else kv) else kvs++[(k,v)]
noncomputable def dropK (kvs:List (κ×V)) (k:κ):List (κ×V):=kvs.filter fun kv=>decide (kv.1≠k)
theorem xW {p:κ×V}{r:List (κ×V)}{k:κ}(e:p.1=k):valV (p::r) k=some p.2:=by simp [valV,dC,e]
theorem xX {p:κ×V}{r:List (κ×V)}{k:κ}(e:¬ p.1=k):valV (p::r) k=valV r k:=by simp [valV,dC,e]
theorem XJ (k:κ):∀ kvs:List (κ×V),(kvs.any fun kv=>decide (kv.1=k))=(valV kvs k).isSome
 | []=>rfl
 | p::r=>by
  rw [cj]
  by_cases e:p.1=k
  ·simp only [xW e,decide_eq_true e,Bool.true_or,Option.isSome_some]
  ·rw [xX e,decide_eq_false e,Bool.false_or];exact XJ k r
theorem xQ (kvs:List (κ×V)) (k:κ) (v:V):(putK kvs k v).length<=kvs.length+1:=by
 unfold putK
 split
 ·rw [Ν];lia
 ·rw [Ϗ,bR,lM];lia
theorem RelO.yW {o:Option V}{u:Option δ}(r:RelO o u):o.isSome=u.isSome:=by
 cases o with
 | none=>cases u with
  | none=>rfl
  | some _=>exact (show False from r).elim
 | some _=>cases u with
  | none=>exact (show False from r).elim
  | some _=>rfl
theorem RelO.getD {o:Option V}{u:Option δ}{d:V}{d':δ}(r:RelO o u) (rd:RelV d d'):RelV (o.getD d) (u.getD d'):=by
 cases o with
 | none=>cases u with
  | none=>exact rd
  | some _=>exact (show False from r).elim
 | some _=>cases u with
  | none=>exact (show False from r).elim
  | some _=>exact r
theorem KV.val {kvs:List (κ×V)}{vs:List (κ×δ)}(r:KV kvs vs) (k:κ):RelO (valV kvs k) (gR vs k):=by
 unfold KV at r
 induction r with
 | nil=>exact ao
 | @cons p q ps qs h t ih=>
  obtain ⟨h1,h2⟩:=h
  by_cases e:p.1=k
  ·have e':q.1=k:=h1.symm.trans e
   have b:gR (q::qs) k=some q.2:=by simp [gR,dC,e']
   rw [xW e,b];exact h2
  ·have e':¬ q.1=k:=fun z=>e (h1.trans z)
   have b:gR (q::qs) k=gR qs k:=by simp [gR,dC,e']
   rw [xX e,b];exact ih
theorem KV.any {kvs:List (κ×V)}{vs:List (κ×δ)}(r:KV kvs vs) (k:κ):(kvs.any fun kv=>decide (kv.1=k))=vs.any fun kv=>decide (kv.1=k):=by
 unfold KV at r
 induction r with
 | nil=>rfl
 | cons h t ih=>rw [cj,cj,ih,h.1]
theorem KV.repl {kvs:List (κ×V)}{vs:List (κ×δ)}(r:KV kvs vs) (k:κ) {y:V}{u:δ}(ry:RelV y u):
  KV (kvs.map fun kv=>if kv.1=k then (kv.1,y) else kv) (vs.map fun kv=>if kv.1=k then (kv.1,u) else kv):=by
 unfold KV at r ⊢
 induction r with
 | nil=>exact .nil
 | @cons p q ps qs h t ih=>
  rw [ϧ,ϧ]
  refine .cons ?_ ih
  obtain ⟨h1,h2⟩:=h
  by_cases e:p.1=k
  ·rw [if_pos e,if_pos (h1.symm.trans e)];exact ⟨h1,ry⟩
  ·rw [if_neg e,if_neg (fun z=>e (h1.trans z))];exact ⟨h1,h2⟩
theorem KV.put {kvs:List (κ×V)}{vs:List (κ×δ)}(r:KV kvs vs) (k:κ) {y:V}{u:δ}(ry:RelV y u):KV (putK kvs k y) (stored vs k u):=by
 unfold putK stored
 rw [r.any k]
 by_cases e:(vs.any fun kv=>decide (kv.1=k))=true
 ·rw [if_pos e,if_pos e];exact r.repl k ry
 ·rw [if_neg e,if_neg e];exact d8.snoc r ⟨rfl,ry⟩
theorem KV.drop {kvs:List (κ×V)}{vs:List (κ×δ)}(r:KV kvs vs) (k:κ):KV (dropK kvs k) (without vs k):=by
 unfold KV at r ⊢
 unfold dropK without
 induction r with
 | nil=>exact .nil
 | @cons p q ps qs h t ih=>
  obtain ⟨h1,h2⟩:=h
  rw [List.filter_cons,List.filter_cons]
  by_cases e:p.1=k
  ·have a:¬ decide (p.1≠k)=true:=by simp [e]
   have b:¬ decide (q.1≠k)=true:=by simp [h1.symm.trans e]
   rw [if_neg a,if_neg b];exact ih
  ·have e':¬ q.1=k:=fun z=>e (h1.trans z)
   have a:decide (p.1≠k)=true:=by simp [e]
   have b:decide (q.1≠k)=true:=by simp [e']
   rw [if_pos a,if_pos b];exact .cons ⟨h1,h2⟩ ih
theorem KV.length {kvs:List (κ×V)}{vs:List (κ×δ)}(r:KV kvs vs):kvs.length=vs.length:=lY r
end
theorem kV_is {P:Τ}{w:ϝ}{k:Key}{u:δ}(r:RelV (kV k) u):(zK P w).is k u=true:=by
 cases k with
 | inl i=>obtain ⟨t,e⟩:=(show ∃ t,u=ϙ i t from r);subst e;exact YM P w i t
 | inr x=>obtain ⟨t,e⟩:=(show ∃ t,u=aQ x t from r);subst e;exact YL P w x t
theorem ZS {P:Τ}{w:ϝ}:∀ {ks:List Key}{us:List δ},Vals (ks.map kV) us->ItemsAre (zK P w) ks us
 | [],_,r=>by rw [lg] at r;cases r;exact .nil
 | k::ks,_,r=>by
  rw [ϧ] at r
  cases r with
  | cons h t=>exact .cons (kV_is h) (ZS t)
abbrev KT (H:Hp):List (List Key×V)->List (List Key×Addr×δ)->Prop:=d8 fun p q=>p.1=q.1/\H q.2.1=some (.tup (p.1.map kV))/\RelV p.2 q.2.2
theorem KT.val {H:Hp}{kvs:List (List Key×V)}{xs:List (List Key×Addr×δ)}(r:KT H kvs xs) (k:List Key):RelO (valV kvs k) ((atKey xs k).map (·.2)):=by
 induction r with
 | nil=>exact ao
 | @cons p q ps qs h t ih=>
  obtain ⟨h1,_,h2⟩:=h
  by_cases e:p.1=k
  ·have e':q.1=k:=h1.symm.trans e
   have b:atKey (q::qs) k=some q.2:=by simp [atKey,dC,e']
   rw [xW e,b];exact h2
  ·have e':¬ q.1=k:=fun z=>e (h1.trans z)
   have b:atKey (q::qs) k=atKey qs k:=by simp [atKey,dC,e']
   rw [xX e,b];exact ih
theorem KT.repl {H:Hp}{kvs:List (List Key×V)}{xs:List (List Key×Addr×δ)}(r:KT H kvs xs) (k:List Key) {y:V}{u:δ}(ry:RelV y u):
  KT H (kvs.map fun kv=>if kv.1=k then (kv.1,y) else kv) (xs.map (putAt k u)):=by
 induction r with
 | nil=>exact .nil
 | @cons p q ps qs h t ih=>
  rw [ϧ,ϧ]
  refine .cons ?_ ih
  obtain ⟨h1,h2,h3⟩:=h
  unfold putAt
  by_cases e:p.1=k
  ·rw [if_pos e,if_pos (h1.symm.trans e)];exact ⟨h1,h2,ry⟩
  ·rw [if_neg e,if_neg (fun z=>e (h1.trans z))];exact ⟨h1,h2,h3⟩
theorem KT.put {H:Hp}{kvs:List (List Key×V)}{xs:List (List Key×Addr×δ)}(r:KT H kvs xs) (k:List Key) {b:Addr}{y:V}{u:δ}(hb:H b=some (.tup (k.map kV))) (ry:RelV y u):
  KT H (putK kvs k y) (storedH xs k b u):=by
 have e:(kvs.any fun kv=>decide (kv.1=k))=(atKey xs k).isSome:=by
  rw [XJ,(r.val k).yW,iB]
 unfold putK storedH
 rw [e]
 by_cases q:(atKey xs k).isSome=true
 ·rw [if_pos q,if_pos q];exact r.repl k ry
 ·rw [if_neg q,if_neg q];exact d8.snoc r ⟨rfl,hb,ry⟩
theorem KT.keeps {H H':Hp}{kvs:List (List Key×V)}{xs:List (List Key×Addr×δ)}(r:KT H kvs xs) (ht:∀ b ys,H b=some (.tup ys)->H' b=some (.tup ys)):KT H' kvs xs:=
 d8.mapP r fun _ _ z=>⟨z.1,ht _ _ z.2.1,z.2.2⟩
section
variable {P:Τ}{w:ϝ}{H:Hp}{h:Heap}{a:Addr}
theorem rd_of {u:HO}(ok:HOk P w H h) (e:Rd H a u):ObjOk P w H h a u:=e.ok ok
theorem dk_rd {kvs:List (Key×V)}(ok:HOk P w H h) (e:Rd H a (.dK kvs)):kvs.length<=sizeLine/\(a==dm)=false/\∃ vs,KV kvs vs/\h.DictOf (zK P w) a vs:=
 show ObjOk P w H h a (.dK kvs) from rd_of ok e
theorem dk_of {kvs:List (Key×V)}(ok:HOk P w H h) (e:H a=some (.dK kvs)):kvs.length<=sizeLine/\(a==dm)=false/\∃ vs,KV kvs vs/\h.DictOf (zK P w) a vs:=dk_rd ok (.inl e)
theorem jN {ks:List Key}(ok:HOk P w H h) (e:H a=some (.tup (ks.map kV))):(iM (zK P w)).is h ks a:=by
 obtain ⟨_,its,r,o,h1,h2,n,h3⟩:=(show ObjOk P w H h a (.tup (ks.map kV)) from ok a _ e)
 exact ⟨o,its.toArray,n,h1,h2,h3,by simpa using ZS r⟩
theorem dt_rd {kvs:List (List Key×V)}(ok:HOk P w H h) (e:Rd H a (.dT kvs)):kvs.length<=sizeLine/\(a==dm)=false /\
  ∃ xs,KT H kvs xs/\h.DictOfH (iM (zK P w)) a xs:=by
 obtain ⟨z,y,xs,r,o,es,ep,h1,h2,h3,h4,h5⟩:=(show ObjOk P w H h a (.dT kvs) from rd_of ok e)
 refine ⟨z,y,xs,r,o,es,ep,h1,h2,h3,h4,fun x hx=>?_,h5⟩
 have all:∀ {l:List (List Key×V)}{m:List (List Key×Addr×δ)},KT H l m->∀ x∈m,(iM (zK P w)).is h x.1 x.2.1:=by
  intro l m q
  induction q with
  | nil=>intro x hx;exact nomatch hx
  | @cons p q ps qs hq t ih=>
   intro x hx
   rcases Η.mp hx with e | hx
   ·subst e
    exact jN ok (by rw [<- hq.1];exact hq.2.1)
   ·exact ih x hx
 exact all r x hx
theorem dt_of {kvs:List (List Key×V)}(ok:HOk P w H h) (e:H a=some (.dT kvs)):kvs.length<=sizeLine/\(a==dm)=false /\
  ∃ xs,KT H kvs xs/\h.DictOfH (iM (zK P w)) a xs:=dt_rd ok (.inl e)
end
def DGet (H:Hp) (a:Addr) (y:V) (r:Option V):Prop:=
 (∃ kvs k,Rd H a (.dK kvs)/\y=kV k/\r=valV kvs k)\/∃ kvs k b,Rd H a (.dT kvs)/\y=.ref b/\H b=some (.tup (k.map kV))/\r=valV kvs k
def DPut (H:Hp) (a:Addr) (y v:V) (H':Hp):Prop:=
 (∃ kvs k,H a=some (.dK kvs)/\y=kV k/\kvs.length < sizeLine/\H'=upd H a (.dK (putK kvs k v))) \/
 ∃ kvs k b,H a=some (.dT kvs)/\y=.ref b/\H b=some (.tup (k.map kV))/\kvs.length < sizeLine/\H'=upd H a (.dT (putK kvs k v))
theorem DGet.k {H:Hp}{a:Addr}{kvs:List (Key×V)}{k:Key}(e:H a=some (.dK kvs)):DGet H a (kV k) (valV kvs k):=.inl ⟨kvs,k,.inl e,rfl,rfl⟩
theorem DGet.t {H:Hp}{a b:Addr}{kvs:List (List Key×V)}{k:List Key}(e:H a=some (.dT kvs)) (eb:H b=some (.tup (k.map kV))):DGet H a (.ref b) (valV kvs k):=.inr ⟨kvs,k,b,.inl e,rfl,eb,rfl⟩
theorem DPut.k {H:Hp}{a:Addr}{kvs:List (Key×V)}{k:Key}{v:V}(e:H a=some (.dK kvs)) (hl:kvs.length < sizeLine):DPut H a (kV k) v (upd H a (.dK (putK kvs k v))):=.inl ⟨kvs,k,e,rfl,hl,rfl⟩
theorem DPut.t {H:Hp}{a b:Addr}{kvs:List (List Key×V)}{k:List Key}{v:V}(e:H a=some (.dT kvs)) (eb:H b=some (.tup (k.map kV))) (hl:kvs.length < sizeLine):
  DPut H a (.ref b) v (upd H a (.dT (putK kvs k v))):=.inr ⟨kvs,k,b,e,rfl,eb,hl,rfl⟩
section
variable {X:Cx}{pJ:List (Addr×Obj)}{σ:St}{H:Hp}{s:ν}{a:Addr}{y v:V}{u r:δ}{o:Option V}{A:ϟ}{E:VSP}
theorem Inv.big (I:Inv X pJ σ H s):dm < s.heap.objs.size:=by
 have h:ϔ < s.heap.objs.size:=(I.mod.glob.keeps I.bk).lt
 exact Nat.lt_trans (by decide) h
theorem Kg {Q:VSP}(hu:A.units+1 < aj) (I:Inv X pJ σ H s) (g:DGet H a y (some v)) (ry:RelV y u) (h:∀ w' s',Inv X pJ σ H s'->RelV v w'->Q w' s'):
  Θ (Ξ X.prog X.w) A (iT (.ref a) u) Q E s:=by
 rcases g with ⟨kvs,k,e,ey,l⟩ | ⟨kvs,k,b,e,ey,eb,l⟩
 ·subst ey
  obtain ⟨z,hd,vs,rel,dd⟩:=dk_rd I.hok e
  obtain ⟨w',hw,rw'⟩:=RelO.some_of (v:=v) (o:=gR vs k) (by rw [l];exact rel.val k)
  exact wpAny_getItem_of (kV_is ry) dd.mapOf hw (h w' _ (I.tok _) rw')
 ·subst ey
  cases (show u=Ε b from ry)
  obtain ⟨z,hd,xs,rel,dd⟩:=dt_rd I.hok e
  obtain ⟨w',hw,rw'⟩:=RelO.some_of (v:=v) (o:=(atKey xs k).map (·.2)) (by rw [l];exact rel.val k)
  obtain ⟨p,hp,hp2⟩:=Ι.mp hw
  refine wpAny_getItem_heap (dW hu) (jN I.hok eb) dd hp ?_
  rw [hp2]
  exact h w' _ (I.tok _) rw'
theorem d_in {Q:VSP}(hu:A.units+1 < aj) (I:Inv X pJ σ H s) (g:DGet H a y o) (ry:RelV y u) (h:∀ s',Inv X pJ σ H s'->Q (.bool o.isSome) s'):
  Θ (Ξ X.prog X.w) A (ώ .In u (.ref a)) Q E s:=by
 rcases g with ⟨kvs,k,e,ey,l⟩ | ⟨kvs,k,b,e,ey,eb,l⟩
 ·subst ey
  obtain ⟨z,hd,vs,rel,dd⟩:=dk_rd I.hok e
  refine wpAny_in_of (kV_is ry) hd dd.mapOf ?_
  rw [<- (rel.val k).yW,<- l]
  exact h _ (I.tok _)
 ·subst ey
  cases (show u=Ε b from ry)
  obtain ⟨z,hd,xs,rel,dd⟩:=dt_rd I.hok e
  refine wpAny_in_heap (dW hu) (jN I.hok eb) hd dd ?_
  have q:=(rel.val k).yW
  rw [iB] at q
  rw [<- q,<- l]
  exact h _ (I.tok _)
theorem zcE {Q:VSP}(hu:A.units+1 < aj) (I:Inv X pJ σ H s) (g:DGet H a y o) (ry:RelV y u) (h:∀ s',Inv X pJ σ H s'->Q (.bool (!o.isSome)) s'):
  Θ (Ξ X.prog X.w) A (ώ .NotIn u (.ref a)) Q E s:=by
 rcases g with ⟨kvs,k,e,ey,l⟩ | ⟨kvs,k,b,e,ey,eb,l⟩
 ·subst ey
  obtain ⟨z,hd,vs,rel,dd⟩:=dk_rd I.hok e
  refine wpAny_notIn_of (kV_is ry) hd dd.mapOf ?_
  rw [<- (rel.val k).yW,<- l]
  exact h _ (I.tok _)
 ·subst ey
  cases (show u=Ε b from ry)
  obtain ⟨z,hd,xs,rel,dd⟩:=dt_rd I.hok e
  refine wpAny_notIn_heap (dW hu) (jN I.hok eb) hd dd ?_
  have q:=(rel.val k).yW
  rw [iB] at q
  rw [<- q,<- l]
  exact h _ (I.tok _)
theorem Xi {h':Heap}{t':Nat}{ob:HO}(I:Inv X pJ σ H s) (mu:Mut (H a)) (hs:Ϫ a s.heap h') (he:∃ q,h'.get? a=some q) (new:ObjOk X.prog X.w (upd H a ob) h' a ob):
  Inv X pJ σ (upd H a ob) { s with heap:=h',toks:=t' }:=
 I.write (x:=a) (e:=a) mu (.inl rfl) (fun b q hb z=>(hs.2 b hb).trans z) he new
theorem za2 {P:Τ}{w:ϝ}{H':Hp}{h':Heap}{kvs:List (Key×V)}{vs:List (Key×δ)}(z:kvs.length<=sizeLine) (hd:(a==dm)=false) (rel:KV kvs vs) (dd:h'.DictOf (zK P w) a vs):
  ObjOk P w H' h' a (.dK kvs):=⟨z,hd,vs,rel,dd⟩
theorem Kf {H':Hp}{Q:Unit->ν->Prop}(hu:A.units+1 < aj) (I:Inv X pJ σ H s) (g:DPut H a y v H') (ry:RelV y u) (rv:RelV v r) (h:∀ s',Inv X pJ σ H' s'->Q () s'):
  Θ (Ξ X.prog X.w) A (setItem (.ref a) u r) Q E s:=by
 rcases g with ⟨kvs,k,e,ey,l,eH⟩ | ⟨kvs,k,b,e,ey,eb,l,eH⟩
 ·subst ey eH
  obtain ⟨z,hd,vs,rel,dd⟩:=dk_of I.hok e
  have hz:vs.length<=sizeLine:=by rw [<- rel.length];exact z
  have hl:(putK kvs k v).length<=sizeLine:=by have:=xQ kvs k v;lia
  refine wpAny_setItem_pairs (hsz:=hz) (kV_is ry) dd fun h' dd' hs=>h _ ?_
  have he:∃ q,h'.get? a=some q:=let ⟨q,_,_,hq,_⟩:=dd';⟨q,hq⟩
  exact Xi I (by rw [e];exact ao) hs he (za2 hl hd (rel.put k rv) dd')
 ·subst ey eH
  cases (show u=Ε b from ry)
  obtain ⟨z,hd,xs,rel,dd⟩:=dt_of I.hok e
  have hz:xs.length<=sizeLine:=by rw [<- lY rel];exact z
  have hl:(putK kvs k v).length<=sizeLine:=by have:=xQ kvs k v;lia
  refine wpAny_setItem_heap (hsz:=hz) (dW hu) (jN I.hok eb) dd fun h' dd' hs=>h _ ?_
  obtain ⟨q,es,ep,hq,h2,h3,h4,_,h5⟩:=dd'
  refine Xi I (by rw [e];exact ao) hs ⟨q,hq⟩ ⟨hl,hd,_,(rel.put k eb rv).keeps fun c ys ec=>?_,q,es,ep,hq,h2,h3,h4,h5⟩
  rw [zf (ne_of ec e (fun z=>nomatch z))]
  exact ec
end
section
variable {X:Cx}{pJ:List (Addr×Obj)}{σ:St}{H:Hp}{s:ν}{a:Addr}{kvs:List (Key×V)}{k:Key}{u:δ}{A:ϟ}{E:VSP}
theorem d_len {Q:VSP}(I:Inv X pJ σ H s) (e:Rd H a (.dK kvs)) (h:∀ t s',Inv X pJ σ H s'->Q (.int kvs.length t) s'):Θ (Ξ X.prog X.w) A (call (.builtin "len") [.ref a]) Q E s:=by
 obtain ⟨z,hd,vs,rel,dd⟩:=dk_rd I.hok e
 refine call_len_dict hd dd (by rw [<- rel.length];rw [Ϻ] at z;lia) ?_
 rw [<- rel.length]
 exact h _ _ (I.tok _)
end
theorem Xh {X:Cx}{pJ:List (Addr×Obj)}{σ:St}{H:Hp}{s:ν}{a:Addr}{y:V}{o:Option V}(I:Inv X pJ σ H s) (g:DGet H a y o):s.TypeIs (.ref a) "dict":=by
 rcases g with ⟨kvs,k,e,_,_⟩ | ⟨kvs,k,b,e,_,_,_⟩
 ·obtain ⟨_,_,vs,_,dd⟩:=dk_rd I.hok e
  exact dd.typeIs
 ·obtain ⟨_,_,xs,_,dd⟩:=dt_rd I.hok e
  exact dd.typeIs
theorem WT {P:Τ}{w:ϝ}{H:Hp}(h:Heap) (hb:dm < h.objs.size):ObjOk P w H (h.push { cls:=.type "dict",data:=.dict #[] }) h.objs.size (.dK []):=
 ⟨bA _,beq_eq_false_iff_ne.mpr (fY (ϊ hb)),[],.nil,Heap.DictOf.new h⟩
theorem Q5 {P:Τ}{w:ϝ}{H:Hp}(h:Heap) (hb:dm < h.objs.size):ObjOk P w H (h.push { cls:=.type "dict",data:=.dict #[] }) h.objs.size (.dT []):=
 ⟨bA _,beq_eq_false_iff_ne.mpr (fY (ϊ hb)),[],.nil,_,#[],0,Δ _ rfl,⟨rfl,rfl,rfl⟩,rfl,rfl,gK⟩
def zdc:TE:=fun _ H Q=>∀ p,H p=none->Q (.ref p) (upd H p (.dK []))
def zdb:TE:=fun _ H Q=>∀ p,H p=none->Q (.ref p) (upd H p (.dT []))
section
variable {X:Cx}{pos:Pos}
theorem Qx:PE X (.Dict [] [] pos) zdc:=fun pJ s σ H Q I h=>
 wpAny_Dict_empty ⟨.ref s.heap.objs.size,_,I.laid (a:=s.heap.objs.size) (o:=.dK []) (t':=s.toks) (fun _ _ q=>η _ q) (π _) (WT s.heap I.big),rfl,h _ (I.hok.fresh (π _))⟩
theorem Qw:PE X (.Dict [] [] pos) zdb:=fun pJ s σ H Q I h=>
 wpAny_Dict_empty ⟨.ref s.heap.objs.size,_,I.laid (a:=s.heap.objs.size) (o:=.dT []) (t':=s.toks) (fun _ _ q=>η _ q) (π _) (Q5 s.heap I.big),rfl,h _ (I.hok.fresh (π _))⟩
end
def XQ:List (TE×TE)->St->Hp->(List (V×V)->Hp->Prop)->Prop
 | [],_,H,Q=>Q [] H
 | (tk,tv)::r,σ,H,Q=>tk σ H fun x H1=>tv σ H1 fun y H2=>XQ r σ H2 fun ps H3=>Q ((x,y)::ps) H3
abbrev VV:List (V×V)->List (δ×δ)->Prop:=d8 fun p q=>RelV p.1 q.1/\RelV p.2 q.2
def PPs (X:Cx) (pos:Pos) (keys:List (Option Expr)) (values:List Expr) (trs:List (TE×TE)):Prop:=
 ∀ (pJ:List (Addr×Obj)) (s:ν) (σ:St) (H:Hp) (Q:List (V×V)->Hp->Prop),Inv X pJ σ H s->XQ trs σ H Q ->
  Θ (Ξ X.prog X.w) X.A (evalPairs (pairTrees keys values X.env pos)) (fun vs s'=>∃ ps H',Inv X pJ σ H' s'/\VV ps vs/\Q ps H') X.xe s
theorem zbO {X:Cx}{pos:Pos}:PPs X pos [] [] []:=fun pJ s σ H Q I h=>pairTrees_nil_walk ⟨[],H,I,.nil,h⟩
theorem Qq {X:Cx}{pos:Pos}{k v:Expr}{ks:List (Option Expr)}{vs:List Expr}{tk tv:TE}{trs:List (TE×TE)}(hk:PE X k tk) (hv:PE X v tv) (hr:PPs X pos ks vs trs):
  PPs X pos (some k::ks) (v::vs) ((tk,tv)::trs):=fun pJ s σ H Q I h=>
 pairTrees_cons_walk (thn (hk pJ s σ H _ I h) fun u s1 ⟨x,H1,I1,rx,q1⟩=>thn (hv pJ s1 σ H1 _ I1 q1) fun w2 s2 ⟨y,H2,I2,ry,q2⟩=>
  thn (hr pJ s2 σ H2 _ I2 q2) fun ws s3 ⟨ps,H3,I3,rel,q3⟩=>⟨(x,y)::ps,H3,I3,.cons ⟨rx,ry⟩ rel,q3⟩)
noncomputable def vN (kvs more:List (Key×V)):List (Key×V):=more.foldl (fun acc kv=>putK acc kv.1 kv.2) kvs
theorem KV.merge:∀ {more:List (Key×V)}{rs:List (Key×δ)}{kvs:List (Key×V)}{vs:List (Key×δ)},KV more rs->KV kvs vs->KV (vN kvs more) (merged vs rs):=by
 intro more rs kvs vs r
 unfold KV at r
 induction r generalizing kvs vs with
 | nil=>intro q;exact q
 | @cons p q ps qs h t ih=>
  intro r0
  have e:KV (putK kvs p.1 p.2) (stored vs q.1 q.2):=by
   have:=r0.put p.1 h.2
   rw [<- h.1];exact this
  exact ih e
theorem wD:∀ (more kvs:List (Key×V)),(vN kvs more).length<=kvs.length+more.length
 | [],kvs=>by show kvs.length<=kvs.length+0;lia
 | p::r,kvs=>by
  have h1:=wD r (putK kvs p.1 p.2)
  have h2:=xQ kvs p.1 p.2
  show (vN (putK kvs p.1 p.2) r).length<=_
  rw [bR];lia
theorem jW {P:Τ}{w:ϝ}:∀ {kvs:List (Key×V)}{ws:List (δ×δ)},VV (kvs.map fun kv=>(kV kv.1,kv.2)) ws->∃ rs,Carries (zK P w) ws rs/\KV kvs rs
 | [],_,r=>by rw [lg] at r;cases r;exact ⟨[],ao,.nil⟩
 | p::kvs,_,r=>by
  rw [ϧ] at r
  cases r with
  | @cons a b as bs h t=>
   obtain ⟨rs,c,q⟩:=jW (P:=P) (w:=w) t
   obtain ⟨b1,b2⟩:=b
   exact ⟨(p.1,b2)::rs,⟨kV_is h.1,rfl,c⟩,.cons ⟨rfl,h.2⟩ q⟩
def tDisp (trs:List (TE×TE)):TE:=fun σ H Q=>∀ p,H p=none->XQ trs σ (upd H p (.dK [])) fun ps H2=>H2 p=some (.dK [])/\∃ kvs:List (Key×V),ps=kvs.map (fun kv=>(kV kv.1,kv.2))/\kvs.length<=15/\Q (.ref p) (upd H2 p (.dK (vN [] kvs)))
theorem zbT {X:Cx}{pos:Pos}{keys:List (Option Expr)}{values:List Expr}{trs:List (TE×TE)}(h:PPs X pos keys values trs) (hall:keys.all (·.isSome)=true) (hl:keys.length=values.length) (h0:keys≠[])
  (h15:keys.length<=15):PE X (.Dict keys values pos) (tDisp trs):=by
 intro pJ s σ H Q I q
 have hn:=I.hok.fresh (π s.heap.objs.size)
 have I1:=I.laid (a:=s.heap.objs.size) (o:=.dK []) (h':=s.heap.push { cls:=.type "dict",data:=.dict #[] }) (t':=s.toks) (fun _ _ q=>η _ q) (π _) (WT s.heap I.big)
 refine wpAny_Dict_walk (knd:=zK X.prog X.w) hall hl h0 h15 (thn (h pJ _ σ _ _ I1 (q _ hn)) fun ws s2 ⟨ps,H2,I2,rel,e,kvs,ep,lk,q2⟩=>?_)
 subst ep
 obtain ⟨rs,c,rk⟩:=jW (P:=X.prog) (w:=X.w) rel
 obtain ⟨z,hd,vs0,r0,dd⟩:=dk_of I2.hok e
 cases r0
 refine ⟨rs,c,dd,fun h' dd' hs=>⟨.ref s.heap.objs.size,_,?_,rfl,q2⟩⟩
 have hz:(vN [] kvs).length<=sizeLine:=by
  have h1:=wD kvs []
  rw [lM] at h1
  rw [Ϻ];lia
 have he:∃ q,h'.get? s.heap.objs.size=some q:=let ⟨q,_,_,hq,_⟩:=dd';⟨q,hq⟩
 exact Xi I2 (by rw [e];exact ao) hs he (za2 hz hd (rk.merge .nil) dd')
def IsD (H:Hp) (a:Addr):Prop:=(∃ kvs,Rd H a (.dK kvs))\/∃ kvs,Rd H a (.dT kvs)
section
variable {X:Cx}{pJ:List (Addr×Obj)}{σ:St}{H:Hp}{s:ν}{a:Addr}{y d:V}{u r:δ}{o:Option V}{A:ϟ}{E:VSP}
theorem zeY {Q:VSP}(hu:A.units+1 < aj) (I:Inv X pJ σ H s) (g:DGet H a y o) (ry:RelV y u) (rd:RelV d r) (h:∀ w' s',Inv X pJ σ H s'->RelV (o.getD d) w'->Q w' s'):
  Θ (Ξ X.prog X.w) A (call (.builtin "dict.get") [.ref a,u,r]) Q E s:=by
 rcases g with ⟨kvs,k,e,ey,l⟩ | ⟨kvs,k,b,e,ey,eb,l⟩
 ·subst ey
  obtain ⟨z,hd,vs,rel,dd⟩:=dk_rd I.hok e
  refine oN bZ dd.typeIs fX (fL _ _ _) (meets_dict_get_default (zK X.prog X.w) a (kV_is ry) hd r) ⟨_,dd.mapOf,h _ _ (I.tok _) ?_⟩
  rw [l]
  exact (rel.val k).getD rd
 ·subst ey
  cases (show u=Ε b from ry)
  obtain ⟨z,hd,xs,rel,dd⟩:=dt_rd I.hok e
  refine oN bZ dd.typeIs fX (fL _ _ _) (meetsH_dict_get_default (iM (zK X.prog X.w)) a b hd r) ⟨dW hu,k,xs,jN I.hok eb,dd,h _ _ (I.tok _) ?_⟩
  rw [l]
  exact (rel.val k).getD rd
end
section
variable {X:Cx}
def rExt2 (K:W.Frag):V->List V->Hp->VK->Prop:=fun x vs H Q=>∃ l b xs zs,x=.ref l/\vs=[.ref b]/\H l=some (.lst xs)/\(H b=some (.lst zs)\/SqT K H b zs)/\xs.length+zs.length<=sizeLine/\Q .non (upd H l (.lst (xs++zs)))
theorem zci:MtM X "list.extend" (rExt2 X.K):=by
 intro pJ s σ H x vs v us Q I rx rv h
 obtain ⟨l,b,xs,zs,e1,e2,hH,hB,hz,q⟩:=h
 rcases hB with hB | hB
 ·exact Jl pJ s σ H x vs v us Q I rx rv ⟨l,b,xs,zs,e1,e2,hH,hB,hz,q⟩
 ·subst e1 e2
  cases rx
  obtain ⟨u,rfl,ru⟩:=rv.one
  cases ru
  obtain ⟨z,its,n,r,hl,e⟩:=I.lstM hH
  obtain ⟨its2,r2,⟨o,ho,hc,n2,hd⟩,z2⟩:=I.tuple hB
  have l1:=r.length
  have l2:=r2.length
  have hsz:its.toArray.size+its2.toArray.size<=sizeLine:=by rw [ξ,ξ];omega
  refine Ϲ F.slot_list_extend ⟨_,e,rfl⟩ F.entry_list_extend ?_ (F.args_list_extend_2 _ _)
  show Θ _ _ (bV (.ref l) (.ref b) .none) _ _ _
  unfold bV
  refine ε (cF (T:="tuple") ⟨o,ho,hc⟩ ?_)
  rw [if_pos (by simp)]
  refine ε (oK ho hd (ε (oK e rfl ?_)))
  rw [if_neg (by rw [Wi hsz,gQ];exact ϗ)]
  refine ε (gm e rfl (ι ⟨_,rfl,?_⟩) (by rw [ξ];omega) (by rw [Array.size_append];omega))
  refine ⟨.non,_,I.lset (f:=fun x=>x++its2.toArray) (its':=its++its2) (t':=s.toks) hH e (by simp) (r.append r2) ?_,rfl,q⟩
  rw [Ϗ]
  omega
end
theorem PE.imp {X:Cx}{e:Expr}{t t':TE}(h:PE X e t) (i:∀ σ H Q,t' σ H Q->t σ H Q):PE X e t':=fun pJ s σ H Q I q=>h pJ s σ H Q I (i σ H Q q)
theorem PT.imp {X:Cx}{e:Expr}{t t':TT}(h:PT X e t) (i:∀ σ H Q,t' σ H Q->t σ H Q):PT X e t':=fun pJ s σ H Q I q=>h pJ s σ H Q I (i σ H Q q)
theorem PA.imp {X:Cx}{e:List Expr}{t t':TA}(h:PA X e t) (i:∀ σ H Q,t' σ H Q->t σ H Q):PA X e t':=fun pos pJ s σ H Q I q=>h pos pJ s σ H Q I (i σ H Q q)
theorem PS.imp {X:Cx}{e:Stmt}{t t':TS}(h:PS X e t) (i:∀ D σ H,t' D σ H->t D σ H):PS X e t':=fun pJ s σ H D I q=>h pJ s σ H D I (i D σ H q)
theorem PSs.imp {X:Cx}{e:List Stmt}{t t':TS}(h:PSs X e t) (i:∀ D σ H,t' D σ H->t D σ H):PSs X e t':=fun pJ s σ H D I q=>h pJ s σ H D I (i D σ H q)
section
variable {fs ex:List Addr}{H H1:Hp}{h h1 h':Heap}{C:Addr}
theorem Un.sameBut (u:Un fs ex H H1 h h1) (sb:Ϫ C h1 h') (hC:h.objs.size<=C):Un fs ex H H1 h h':=by
 have ne:∀ b o,h.get? b=some o->b≠C:=fun b o e=>ϊ (ϐ (Β e) hC)
 refine ⟨fun b o e n hb hx=>(sb.2 b (ne b o e)).trans (u.keep b o e n hb hx),fun b o e n hb hx=>?_,u.free,fun b o e hx=>?_,u.tups,u.frzs,u.tbls⟩
 ·obtain ⟨sl,q⟩:=u.slot b o e n hb hx
  exact ⟨sl,(sb.2 b (ne b o e)).trans q⟩
 ·obtain ⟨o',q⟩:=u.there b o e hx
  exact ⟨o',(sb.2 b (ne b o e)).trans q⟩
theorem HOk.sameBut {P:Τ}{w:ϝ}(x:HOk P w H h) (sb:Ϫ C h h') (hC:H C=none):HOk P w H h':=fun b o e=>by
 refine (x b o e).stay (fun c v hc q=>(sb.2 c ?_).trans q) (fun _ q=>q) fun _ _ q=>q
 rintro rfl
 rcases hc with rfl | hc
 ·rw [hC] at e;cases e
 ·rw [hC] at hc;cases hc
end
noncomputable def rows (σ:St) (js:List Nat):St:=js.map fun j=>σ.getD j none
section
variable {X:Cx}
theorem Xn:CallR X (.builtin "isinstance") (fun xs H Q=>∃ x T t b,xs=[x,.ty T]/\TyOf X.K H x t/\W.kitOne X.K t (.type T)=some b/\Q (.bl b) H):=by
 intro pJ s σ H vs us Q I rv h
 obtain ⟨x,T,t,b,rfl,ty,e,q⟩:=h
 obtain ⟨u,v,rfl,ru,rt⟩:=rv.two
 cases (show v=ϓ T from rt)
 exact JN I ru ty e fun tk=>⟨.bl b,H,I.tok tk,rfl,q⟩
theorem zd9:OpR X (ώ .Is) (fun x y H Q=>∃ a b,x=.bl a/\y=.bl b/\Q (.bl (a==b)) H):=by
 intro pJ s σ H x y v u Q I rx ry h
 obtain ⟨a,b,rfl,rfl,q⟩:=h
 cases rx
 cases ry
 exact is_bool (Z1 I q rfl)
theorem zb0:OpR X (ώ .IsNot) (fun x y H Q=>∃ a b,x=.bl a/\y=.bl b/\Q (.bl (a != b)) H):=by
 intro pJ s σ H x y v u Q I rx ry h
 obtain ⟨a,b,rfl,rfl,q⟩:=h
 cases rx
 cases ry
 exact isnot_bool (Z1 I q rfl)
def CDivW (_ j:Int):Prop:=0 < j/\j < 2 ^ 64
theorem QD:OpR X (bI .FloorDiv) (rI CDivW fun i j=>.int (i / j)):=opI fun i j _ _ _ _ _ hc q=>by
 have e:i.fdiv j=i / j:=Int.fdiv_eq_ediv_of_nonneg _ (Int.le_of_lt hc.1)
 refine floordiv_int (by have:=hc.1;lia) (by rw [e];exact q) (.inl (PyProof.noPylong_of_log2 ?_))
 have h1:j.natAbs < 2 ^ 64:=by have:=hc.2;have:=hc.1;lia
 by_cases h0:j.natAbs=0
 ·rw [h0];decide
 ·have:=(Nat.log2_lt h0).mpr h1
  lia
theorem valsB:∀ {bs:List Bool}{us:List δ},Vals (bs.map V.bl) us->us=bs.map ύ
 | [],_,.nil=>rfl
 | b::bs,_,.cons r t=>by
  cases (show _=ύ b from r)
  rw [valsB t]
  rfl
theorem Vh (bs:List Bool):((ϩ bs.length).all fun i=>(bs[i]?).getD true)=bs.all id:=by
 rw [Bool.eq_iff_iff,cY,cY]
 constructor
 ·intro h b hb
  obtain ⟨i,hi,rfl⟩:=ir hb
  have:=h i (bB.mpr hi)
  simpa [χ hi] using this
 ·intro h i hi
  have hi':=bB.mp hi
  have:=h _ (cX hi')
  simpa [χ hi'] using this
theorem Vg (bs:List Bool):((ϩ bs.length).any fun i=>(bs[i]?).getD false)=bs.any id:=by
 rw [Bool.eq_iff_iff,f9,f9]
 constructor
 ·rintro ⟨i,hi,e⟩
  have hi':=bB.mp hi
  exact ⟨_,cX hi',by simpa [χ hi'] using e⟩
 ·rintro ⟨b,hb,e⟩
  obtain ⟨i,hi,rfl⟩:=ir hb
  exact ⟨i,bB.mpr hi,by simpa [χ hi] using e⟩
theorem zad (hc:X.calm=true):CallR X (.builtin "all") (fun xs H Q=>∃ (p:Addr) (bs:List Bool),xs=[.ref p]/\SqL X.K H p (bs.map V.bl)/\Q (.bl (bs.all id)) H):=by
 intro pJ s σ H vs us Q I rv h
 obtain ⟨p,bs,rfl,hq,q⟩:=h
 obtain ⟨u,rfl,ru⟩:=rv.one
 cases (show u=Ε p from ru)
 obtain ⟨its,rv,hp,hz⟩:=I.list hq
 obtain rfl:=valsB rv
 have hl:=hp.isList
 have hlt:p < s.heap.objs.size:=by obtain ⟨_,e,_⟩:=hl;exact Β e
 have hh:X.A.handled=none:=I.ok.hd hc
 refine call_all_walk (gh hl ?_)
 refine ⟨s.heap.objs.size,[s.heap.objs.size,p],[s.heap.objs.size],(bs.map ύ).toArray.size,_,_,fun i=>(bs[i]?).getD true,rfl,Walks.list (A:=X.A.in1) hh _ p (ϊ hlt) (bs.map ύ).toArray,
  ⟨⟨_,Δ _ rfl,rfl,rfl⟩,hl.push _⟩,fun i v s' Q' E' hP hQ=>?_,fun h' tk hk=>?_⟩
 ·have hP':(bs.map ύ)[i]?=some v:=by simpa using hP
  rw [Ψ] at hP'
  cases e:bs[i]? with
  | none=>rw [e] at hP';cases hP'
  | some b=>
   rw [e] at hP'
   cases hP'
   simp only [e,oE] at hQ
   exact ϲ hQ
 ·have e:((ϩ (bs.map ύ).toArray.size).all fun i=>(bs[i]?).getD true)=bs.all id:=by
   rw [ξ,Ν];exact Vh bs
  rw [e]
  exact ⟨.bl _,H,I.kept (LSm.kept_iter hk),rfl,q⟩
theorem zac (hc:X.calm=true):CallR X (.builtin "any") (fun xs H Q=>∃ (p:Addr) (bs:List Bool),xs=[.ref p]/\SqL X.K H p (bs.map V.bl)/\Q (.bl (bs.any id)) H):=by
 intro pJ s σ H vs us Q I rv h
 obtain ⟨p,bs,rfl,hq,q⟩:=h
 obtain ⟨u,rfl,ru⟩:=rv.one
 cases (show u=Ε p from ru)
 obtain ⟨its,rv,hp,hz⟩:=I.list hq
 obtain rfl:=valsB rv
 have hl:=hp.isList
 have hlt:p < s.heap.objs.size:=by obtain ⟨_,e,_⟩:=hl;exact Β e
 have hh:X.A.handled=none:=I.ok.hd hc
 refine call_any_walk (gh hl ?_)
 refine ⟨s.heap.objs.size,[s.heap.objs.size,p],[s.heap.objs.size],(bs.map ύ).toArray.size,_,_,fun i=>(bs[i]?).getD false,rfl,Walks.list (A:=X.A.in1) hh _ p (ϊ hlt) (bs.map ύ).toArray,
  ⟨⟨_,Δ _ rfl,rfl,rfl⟩,hl.push _⟩,fun i v s' Q' E' hP hQ=>?_,fun h' tk hk=>?_⟩
 ·have hP':(bs.map ύ)[i]?=some v:=by simpa using hP
  rw [Ψ] at hP'
  cases e:bs[i]? with
  | none=>rw [e] at hP';cases hP'
  | some b=>
   rw [e] at hP'
   cases hP'
   simp only [e,oE] at hQ
   exact ϲ hQ
 ·have e:((ϩ (bs.map ύ).toArray.size).any fun i=>(bs[i]?).getD false)=bs.any id:=by
   rw [ξ,Ν];exact Vg bs
  rw [e]
  exact ⟨.bl _,H,I.kept (LSm.kept_iter hk),rfl,q⟩
theorem U5 {CX:CXT}{k:Nat}{f:Addr}{fd:bj}{ps ks:List Str}{sp:Sp}{E:XK}{x:Str}{p pos:Pos}{kws:List bG}{tk:TA}{g:List δ->List δ->List δ}{gV:List V->List V->List V}
  (F:FnOk X.prog X.w X.K X.mg X.base CX k f fd ps sp) (hr:Room k X.A) (hg:Gl X x) (hm:X.mg x=some (.ref f)) (hk:W.keepIn X.K (.ref f)=true) (hb:K1 X.K fd ps ks g gV) (hx:Yt CX X E)
  (hkw:PK X kws tk) (hall:(cR pos (aL kws X.env)).all (·.1.isSome)=true:=by rfl) (hks:(cR pos (aL kws X.env)).filterMap (·.1)=ks:=by rfl)
  (hdb:(x==("__debug__":Str))=false:=by decide) (hpl:((eV pos (Ϥ [] X.env)).any (·.1)||(cR pos (aL kws X.env)).any (·.1.isNone))=false:=by rfl):
  PE X (.Call (.Name x p) [] kws pos) (zdd sp gV E tNil tk):=by
 intro pJ s σ H Q I h
 refine dU (YZ I hg hm ?_ hdb)
 refine W.callWith_KW0 (h₀:=X.base) I.ok.mod.kin hk hall (thn (hkw pos pJ s σ H _ I h) fun ws s2 ⟨zs,H2,I2,rz,q2⟩=>⟨I2.kIn,?_⟩) hpl
 rw [hks]
 exact zbB (us:=[]) (vs:=[]) F hr hb hx I2 .nil rz q2
end
end L2
namespace HT
open PySem PyProof.Rows
open PySem.SeqAt
open PySem.AutoSeq1 (wpAny_loadPart')
open PySem.MeetsSeq PySem.MeetsSeq2 PySem.MeetsSeq3
section
variable {prog:Τ}{w:ϝ}{A:ϟ}{E:δ->ν->Prop}{s:ν}
theorem zaa {t b:Addr}{ws:List δ}{Q:δ->ν->Prop}(ht:IsTup s.heap t ([]:List δ).toArray) (hb:IsTup s.heap b ws.toArray)
  (h:Q (.ref b) s):Θ (Ξ prog w) A (bI .Add (.ref t) (.ref b)) Q E s:=by
 obtain ⟨⟨cls,dd,data,sl⟩,ho,hc,n,hd⟩:=id ht
 obtain ⟨⟨cls2,dd2,data2,sl2⟩,ho2,hc2,n2,hd2⟩:=id hb
 simp only at hc hd hc2 hd2
 subst hc hd hc2 hd2
 exact oM ⟨_,ho,rfl⟩ ⟨_,ho2,rfl⟩ mG nZ fW fK (fD _ _)
   (tuple_addW0 t b ([]:List δ).toArray ws.toArray n n2 dd dd2 sl sl2 (by simp)) ⟨ho,ho2,h⟩
theorem xT {t sl:Addr}{items:Array δ}{vl vu:δ}{lo hi:Option Int}{Q:δ->ν->Prop}(ht:IsTup s.heap t items) (hs:s.heap.IsSliceOf sl vl vu .none) (pl:gY vl lo) (pu:gY vu hi)
  (hw:sIx items.size 0 lo=0/\sIx items.size items.size hi=items.size) (h:Q (.ref t) s):Θ (Ξ prog w) A (iT (.ref t) (.ref sl)) Q E s:=by
 obtain ⟨os,hos,hcs,hds⟩:=id hs
 have hTs:s.TypeIs (.ref sl) "slice":=⟨os,hos,hcs⟩
 unfold iT
 try with_reducible refine aU ?_
 first | refine ε (ι ?_) | skip
 refine ε (wpAny_sequenceKey ht.typeIs (by decide) ?_)
 refine ε (aC (name:=lw "__getitem__") ht.typeIs ϯ
  (Ϲ ϯ ht.typeIs entry_tuple_getitem ?_ (args_tuple_getitem _ _)))
 show Θ _ _ (iw (.ref t) >>= _) _ _ s
 refine ε (tupleItemsOf_ ht ?_)
 refine ε (cF hTs ?_)
 rw [if_pos (by decide)]
 refine ε (yN hs pl pu ?_)
 have hyes:(((sIx items.size 0 lo:Nat):Int)==0&&(1:Int)==1&&(sIx items.size items.size hi - sIx items.size 0 lo)==items.size)=true:=by
  rw [hw.1,hw.2]
  simp
 show Θ _ _ (if (((sIx items.size 0 lo:Nat):Int)==0&&(1:Int)==1&&(sIx items.size items.size hi - sIx items.size 0 lo)==items.size)=true then _ else _) _ _ s
 rw [if_pos hyes]
 unfold Ω.Tuple.tupleIsExact
 first
  | (refine ε (ε (cF ht.typeIs (ι ?_)));rw [if_pos (by decide)];exact ε (aB (ι ⟨_,rfl,ι h⟩)))
  | (refine ε (ε (cF ht.typeIs (ι ?_)));rw [if_pos (by decide)];exact ε (aB (ε (ι (ι ⟨_,rfl,ι h⟩)))))
  | (refine ε (ε (ε (cF ht.typeIs (ι ?_))));rw [if_pos (by decide)];exact ε (aB (ι (ι ⟨_,rfl,ι h⟩))))
  | (refine ε (ε (cF ht.typeIs (ι ?_)));rw [if_pos (by decide)];trace_state;done)
end
end HT
namespace L2
open PySem PySem.Spec PyProof.Rows
section
variable {X:Cx}
def zdH (K:W.Frag):R2:=fun x y H Q=>∃ a b ys,x=.ref a/\y=.ref b/\SqT K H a []/\SqT K H b ys/\Q (.ref b) H
theorem QF:OpR X (bI .Add) (zdH X.K):=by
 intro pJ s σ H x y v u Q I rx ry h
 obtain ⟨a,b,ys,rfl,rfl,ha,hb,q⟩:=h
 cases rx
 cases ry
 obtain ⟨its,r1,p1,_⟩:=I.tuple ha
 obtain ⟨its2,r2,p2,_⟩:=I.tuple hb
 cases r1
 exact HT.zaa p1 p2 ⟨.ref b,H,I,rfl,q⟩
def rSlW (K:W.Frag):V->Option Int->Option Int->Hp->VK->Prop:=fun x lo hi H Q=>∃ a xs,x=.ref a/\SqT K H a xs/\(HT.sIx xs.length 0 lo=0/\HT.sIx xs.length xs.length hi=xs.length)/\Q (.ref a) H
theorem zbm:SlR X (rSlW X.K):=by
 intro pJ s σ H x v vl vu lo hi sl Q I rx hs pl pu h
 obtain ⟨a,xs,rfl,hx,hw,q⟩:=h
 cases rx
 obtain ⟨its,r,ht,hz⟩:=I.tuple hx
 have hlen:its.toArray.size=xs.length:=by rw [ξ];exact r.length.symm
 refine ⟨"tuple",_,ϯ.lookup,ht.typeIs,?_⟩
 exact HT.xT ht hs pl pu (by rw [hlen];exact hw) ⟨.ref a,H,I,rfl,q⟩
end
end L2
namespace EV
open PySem PySem.Spec PyProof.Rows L2
noncomputable abbrev Store:=List D
structure Gm where
 K:W.Frag
 fa:Nat->Option Addr
 ca:Nat->Option Addr
structure G where
 R:Hp
 α:List Addr
def KTup (K:W.Frag) (a:Addr) (xs:List V):Prop:=∃ (o:Obj) (its:Array δ) (n:Nat),K.lookup a=some o/\o.cls=.type "tuple"/\o.data=.seq its n/\its.size<=sizeLine/\Vals xs its.toList
def KDic (K:W.Frag) (a:Addr) (ps:List (Str×Int)):Prop:=(∃ o,K.lookup a=some o/\o.cls=.type "dict"/\o.dict=none)/\∀ h:Heap,K.In h->KTD.TextTab h a (ps.map fun p=>(p.1,.flat (.int p.2)))
mutual
def Has (Γ:Gm) (g:G):D->V->Prop
 | .non,v=>v=.non
 | .bl b,v=>v=.bl b
 | .int i,v=>v=.int i
 | .str x,v=>v=.str x
 | .tup ds,v=>∃ a vs,v=.ref a/\g.R a=some (.tup vs)/\Hass Γ g ds vs
 | .lst ds,v=>∃ a vs,v=.ref a/\g.R a=some (.lst vs)/\Hass Γ g ds vs
 | .dK ks ds,v=>∃ a vs,v=.ref a/\g.R a=some (.dK (ks.zip vs))/\ks.length=ds.length/\Hass Γ g ds vs
 | .dT ks ds,v=>∃ a vs,v=.ref a/\g.R a=some (.dT (ks.zip vs))/\ks.length=ds.length/\Hass Γ g ds vs
 | .ref k,v=>∃ a,g.α[k]?=some a/\v=.ref a
 | .fn f,v=>∃ a,Γ.fa f=some a/\v=.ref a
 | .scr ns,v=>∃ a,v=.ref a/\SqL Γ.K g.R a (ns.map V.int)
 | .ktp ds,v=>∃ a vs,v=.ref a/\KTup Γ.K a vs/\Hass Γ g ds vs
 | .kdc ps,v=>∃ a,v=.ref a/\KDic Γ.K a ps
def Hass (Γ:Gm) (g:G):List D->List V->Prop
 | [],vs=>vs=[]
 | d::ds,vs=>∃ v r,vs=v::r/\Has Γ g d v/\Hass Γ g ds r
end
structure Le (g g':G):Prop where
 rr:Same g.R g'.R
 aa:∀ (k:Nat) (a:Addr),g.α[k]?=some a->g'.α[k]?=some a
theorem Le.refl (g:G):Le g g:=⟨Same.refl _,fun _ _ h=>h⟩
theorem Le.trans {g g1 g2:G}(a:Le g g1) (b:Le g1 g2):Le g g2:=⟨a.rr.trans b.rr,fun k c h=>b.aa k c (a.aa k c h)⟩
mutual
theorem Wz {Γ:Gm}{g g':G}(e:Le g g'):∀ (d:D) (v:V),Has Γ g d v->Has Γ g' d v
 | .non,_,h=>h
 | .bl _,_,h=>h
 | .int _,_,h=>h
 | .str _,_,h=>h
 | .tup ds,_,⟨a,vs,h1,h2,h3⟩=>⟨a,vs,h1,e.rr _ _ h2,yf e ds vs h3⟩
 | .lst ds,_,⟨a,vs,h1,h2,h3⟩=>⟨a,vs,h1,e.rr _ _ h2,yf e ds vs h3⟩
 | .dK ks ds,_,⟨a,vs,h1,h2,h4,h3⟩=>⟨a,vs,h1,e.rr _ _ h2,h4,yf e ds vs h3⟩
 | .dT ks ds,_,⟨a,vs,h1,h2,h4,h3⟩=>⟨a,vs,h1,e.rr _ _ h2,h4,yf e ds vs h3⟩
 | .ref k,_,⟨a,h1,h2⟩=>⟨a,e.aa _ _ h1,h2⟩
 | .fn f,_,h=>h
 | .scr _,_,⟨a,h1,h2⟩=>⟨a,h1,e.rr.seq h2⟩
 | .ktp ds,_,⟨a,vs,h1,h2,h3⟩=>⟨a,vs,h1,h2,yf e ds vs h3⟩
 | .kdc _,_,h=>h
theorem yf {Γ:Gm}{g g':G}(e:Le g g'):∀ (ds:List D) (vs:List V),Hass Γ g ds vs->Hass Γ g' ds vs
 | [],_,h=>h
 | d::ds,_,⟨v,r,h1,h2,h3⟩=>⟨v,r,h1,Wz e d v h2,yf e ds r h3⟩
end
theorem Has.mono {Γ:Gm}{g g':G}{d:D}{v:V}(h:Has Γ g d v) (e:Le g g'):Has Γ g' d v:=Wz e d v h
theorem Hass.mono {Γ:Gm}{g g':G}{d:List D}{v:List V}(h:Hass Γ g d v) (e:Le g g'):Hass Γ g' d v:=yf e d v h
section
variable {Γ:Gm}{g:G}
theorem Hass.len:∀ {ds:List D}{vs:List V},Hass Γ g ds vs->vs.length=ds.length
 | [],_,h=>by cases (show _=[] from h);rfl
 | d::ds,_,⟨v,r,h1,_,h3⟩=>by subst h1;simp [Hass.len h3]
theorem Hass.get:∀ {ds:List D}{vs:List V}{i:Nat}{d:D},Hass Γ g ds vs->ds[i]?=some d->∃ v,vs[i]?=some v/\Has Γ g d v
 | [],_,_,_,_,e=>by simp at e
 | d::ds,_,0,_,⟨v,r,h1,h2,_⟩,e=>by subst h1;simp at e;subst e;exact ⟨v,rfl,h2⟩
 | d::ds,_,i+1,_,⟨v,r,h1,_,h3⟩,e=>by
  subst h1
  obtain ⟨u,q,hu⟩:=Hass.get (i:=i) h3 (by simpa using e)
  exact ⟨u,by simpa using q,hu⟩
theorem Hass.of:∀ {ds:List D}{vs:List V},vs.length=ds.length->(∀ (i:Nat) (d:D) (v:V),ds[i]?=some d->vs[i]?=some v->Has Γ g d v)->Hass Γ g ds vs
 | [],[],_,_=>rfl
 | d::ds,v::vs,hl,h=>⟨v,vs,rfl,h 0 d v rfl rfl,Hass.of (by simpa using hl) fun i d v e1 e2=>h (i+1) d v (by simpa using e1) (by simpa using e2)⟩
 | [],_::_,hl,_=>by simp at hl
 | _::_,[],hl,_=>by simp at hl
theorem Hass.one {d:D}{vs:List V}(h:Hass Γ g [d] vs):∃ v,vs=[v]/\Has Γ g d v:=by
 obtain ⟨v,r,e,hd,hr⟩:=h
 cases (show r=[] from hr)
 exact ⟨v,e,hd⟩
theorem Hass.two {d e:D}{vs:List V}(h:Hass Γ g [d,e] vs):∃ v u,vs=[v,u]/\Has Γ g d v/\Has Γ g e u:=by
 obtain ⟨v,r,e1,hd,hr⟩:=h
 obtain ⟨u,e2,he⟩:=Hass.one hr
 subst e2
 exact ⟨v,u,e1,hd,he⟩
theorem Hass.mk1 {d:D}{v:V}(h:Has Γ g d v):Hass Γ g [d] [v]:=⟨v,[],rfl,h,rfl⟩
theorem Hass.app:∀ {ds es:List D}{vs us:List V},Hass Γ g ds vs->Hass Γ g es us->Hass Γ g (ds++es) (vs++us)
 | [],_,_,_,h,k=>by cases (show _=[] from h);exact k
 | d::ds,_,_,_,⟨v,r,h1,h2,h3⟩,k=>by subst h1;exact ⟨v,_,rfl,h2,Hass.app h3 k⟩
theorem Hass.drop {ds:List D}{vs:List V}(n:Nat) (h:Hass Γ g ds vs):Hass Γ g (ds.drop n) (vs.drop n):=by
 refine Hass.of (by rw [d7,d7,h.len]) fun i d v e1 e2=>?_
 rw [oH] at e1 e2
 obtain ⟨u,q,hu⟩:=h.get e1
 rw [q] at e2
 cases e2
 exact hu
theorem Hass.take {ds:List D}{vs:List V}(n:Nat) (h:Hass Γ g ds vs):Hass Γ g (ds.take n) (vs.take n):=by
 refine Hass.of (by rw [aM,aM,h.len]) fun i d v e1 e2=>?_
 rw [List.getElem?_take] at e1 e2
 split at e1
 ·rename_i hi
  rw [if_pos hi] at e2
  obtain ⟨u,q,hu⟩:=h.get e1
  rw [q] at e2
  cases e2
  exact hu
 ·cases e1
theorem Hass.set {ds:List D}{vs:List V}{d:D}{v:V}(n:Nat) (h:Hass Γ g ds vs) (hd:Has Γ g d v):Hass Γ g (ds.set n d) (vs.set n v):=by
 refine Hass.of (by rw [b8,b8,h.len]) fun i d' v' e1 e2=>?_
 rw [List.getElem?_set] at e1 e2
 split at e1
 ·rename_i hi
  rw [if_pos hi] at e2
  split at e1
  ·split at e2
   ·cases e1;cases e2;exact hd
   ·cases e2
  ·cases e1
 ·rename_i hi
  rw [if_neg hi] at e2
  obtain ⟨u,q,hu⟩:=h.get e1
  rw [q] at e2
  cases e2
  exact hu
theorem Hass.ints:∀ {ns:List Int},Hass Γ g (ns.map D.int) (ns.map V.int)
 | []=>rfl
 | _::_=>⟨_,_,rfl,rfl,Hass.ints⟩
end
def MutF:HO->Prop
 | .frz _ _=>True
 | o=>Mut (some o)
def zM (Γ:Gm) (H:Hp) (g:G) (a:Addr):D->Prop
 | .lst ds=>∃ vs,H a=some (.lst vs)/\Hass Γ g ds vs
 | .dK ks ds=>∃ vs,H a=some (.dK (ks.zip vs))/\ks.length=ds.length/\Hass Γ g ds vs
 | .dT ks ds=>∃ vs,H a=some (.dT (ks.zip vs))/\ks.length=ds.length/\Hass Γ g ds vs
 | .ref _=>∃ o,g.R a=some o/\H a=some o/\MutF o
 | _=>False
noncomputable def gone:D->Bool
 | .ref _=>true
 | _=>false
theorem zM.mono {Γ:Gm}{H H':Hp}{g g':G}{a:Addr}{c:D}(h:zM Γ H g a c) (e:Le g g') (hh:∀ o,H a=some o->H' a=some o):zM Γ H' g' a c:=by
 cases c with
 | lst ds=>obtain ⟨vs,h1,h2⟩:=h;exact ⟨vs,hh _ h1,h2.mono e⟩
 | dK ks ds=>obtain ⟨vs,h1,h3,h2⟩:=h;exact ⟨vs,hh _ h1,h3,h2.mono e⟩
 | dT ks ds=>obtain ⟨vs,h1,h3,h2⟩:=h;exact ⟨vs,hh _ h1,h3,h2.mono e⟩
 | non=>exact h
 | bl=>exact h
 | int=>exact h
 | str=>exact h
 | tup=>exact h
 | ref=>obtain ⟨o,h1,h2,h3⟩:=h;exact ⟨o,e.rr _ _ h1,hh _ h2,h3⟩
 | fn=>exact h
 | scr=>exact h
 | ktp=>exact h
 | kdc=>exact h
theorem zM.isMut {Γ:Gm}{H:Hp}{g:G}{a:Addr}{c:D}(h:zM Γ H g a c):∃ o,H a=some o/\MutF o:=by
 cases c with
 | lst ds=>obtain ⟨vs,h1,h2⟩:=h;exact ⟨_,h1,ao⟩
 | dK ks ds=>obtain ⟨vs,h1,h3,h2⟩:=h;exact ⟨_,h1,ao⟩
 | dT ks ds=>obtain ⟨vs,h1,h3,h2⟩:=h;exact ⟨_,h1,ao⟩
 | non=>exact h.elim
 | bl=>exact h.elim
 | int=>exact h.elim
 | str=>exact h.elim
 | tup=>exact h.elim
 | ref=>obtain ⟨o,h1,h2,h3⟩:=h;exact ⟨o,h2,h3⟩
 | fn=>exact h.elim
 | scr=>exact h.elim
 | ktp=>exact h.elim
 | kdc=>exact h.elim
structure WOk (Γ:Gm) (H:Hp) (g:G) (S:Store):Prop where
 rh:Same g.R H
 len:g.α.length=S.length
 nd:g.α.Nodup
 off:∀ (k:Nat) (c:D) (a:Addr),S[k]?=some c->g.α[k]?=some a->gone c=false->g.R a=none
 cell:∀ (k:Nat) (c:D) (a:Addr),S[k]?=some c->g.α[k]?=some a->zM Γ H g a c
structure Step (H:Hp) (g:G) (H':Hp) (g':G):Prop where
 le:Le g g'
 fr:∀ a o,H a=some o->a ∉ g.α->H' a=some o
 ex:∀ a o,H a=some o->∃ o',H' a=some o'
 na:∀ a∈g'.α,a∈g.α\/H a=none
 nr:∀ a,g'.R a≠none->g.R a≠none\/H a=none\/a∈g.α\/∃ xs,H a=some (.tup xs)
theorem Step.refl (H:Hp) (g:G):Step H g H g:=⟨Le.refl g,fun _ _ h _=>h,fun _ o h=>⟨o,h⟩,fun _ h=>.inl h,fun _ h=>.inl h⟩
theorem Step.Wj {H H':Hp}{g g':G}(s:Step H g H' g') {a:Addr}(h:H' a=none):H a=none:=by
 cases q:H a with
 | none=>rfl
 | some o=>
  obtain ⟨o',e⟩:=s.ex a o q
  rw [e] at h;cases h
theorem Step.trans {H H1 H2:Hp}{g g1 g2:G}(a:Step H g H1 g1) (b:Step H1 g1 H2 g2):Step H g H2 g2 where
 le:=a.le.trans b.le
 fr:=fun x o h n=>b.fr x o (a.fr x o h n) fun m=>by
  rcases a.na x m with q | q
  ·exact n q
  ·rw [h] at q;cases q
 ex:=fun x o h=>let ⟨o1,h1⟩:=a.ex x o h;b.ex x o1 h1
 na:=fun x m=>by
  rcases b.na x m with q | q
  ·exact a.na x q
  ·exact .inr (a.Wj q)
 nr:=fun x m=>by
  rcases b.nr x m with q | q | q | ⟨xs,q⟩
  ·exact a.nr x q
  ·exact .inr (.inl (a.Wj q))
  ·rcases a.na x q with q | q
   ·exact .inr (.inr (.inl q))
   ·exact .inr (.inl q)
  ·by_cases hx:x∈g.α
   ·exact .inr (.inr (.inl hx))
   ·cases e:H x with
    | none=>exact .inr (.inl rfl)
    | some o=>
     have:=a.fr x o e hx
     rw [q] at this
     cases this
     exact .inr (.inr (.inr ⟨xs,rfl⟩))
theorem Step.of_same {H H':Hp}{g g':G}(s:Same H H') (le:Le g g') (na:∀ a∈g'.α,a∈g.α\/H a=none) (nr:∀ a,g'.R a≠none->g.R a≠none\/H a=none):Step H g H' g':=
 ⟨le,fun a o h _=>s a o h,fun a o h=>⟨o,s a o h⟩,na,fun a h=>(nr a h).imp id .inl⟩
def VOk (Γ:Gm) (H:Hp) (d:D) (fr:Bool) (v:V) (H':Hp) (g':G):Prop:=
 if fr=true then ∃ a,v=.ref a/\H a=none/\g'.R a=none/\a ∉ g'.α/\zM Γ H' g' a d else Has Γ g' d v
noncomputable def G.put (g:G) (a:Addr) (o:HO):G:={ g with R:=upd g.R a o }
noncomputable def G.cell (g:G) (a:Addr):G:={ g with α:=g.α++[a] }
theorem Le.put {g:G}{a:Addr}{o:HO}(h:g.R a=none):Le g (g.put a o):=⟨fun b u q=>by
 show upd g.R a o b=some u
 rw [zf (zg q h)];exact q,fun _ _ q=>q⟩
theorem Le.cell {g:G}{a:Addr}:Le g (g.cell a):=⟨Same.refl _,fun k b q=>by
 show (g.α++[a])[k]?=some b
 rw [ϒ (Ζ.mp q).1];exact q⟩
section
variable {Γ:Gm}{H H':Hp}{g g':G}{S:Store}{d:D}{v:V}{a:Addr}
theorem WOk.put {o:HO}(w:WOk Γ H g S) (h:H a=some o) (hn:g.R a=none) (ha:a ∉ g.α):WOk Γ H (g.put a o) S where
 rh:=fun b u q=>by
  by_cases hb:b=a
  ·subst hb
   have q':upd g.R b o b=some u:=q
   rw [zj] at q'
   cases q'
   exact h
  ·have q':upd g.R a o b=some u:=q
   rw [zf hb] at q'
   exact w.rh b u q'
 len:=w.len
 nd:=w.nd
 off:=fun k c b h1 h2 h3=>by
  show upd g.R a o b=none
  have hne:b≠a:=by
   rintro rfl
   exact ha (au h2)
  rw [zf hne]
  exact w.off k c b h1 h2 h3
 cell:=fun k c b h1 h2=>(w.cell k c b h1 h2).mono (Le.put hn) fun _ q=>q
theorem Step.put {o:HO}(s:Step H g H' g') (hn:g'.R a=none) (h:H a=none):Step H g H' (g'.put a o) where
 le:=s.le.trans (Le.put hn)
 fr:=s.fr
 ex:=s.ex
 na:=s.na
 nr:=fun b q=>by
  by_cases hb:b=a
  ·subst hb;exact .inr (.inl h)
  ·have q':upd g'.R a o b≠none:=q
   rw [zf hb] at q'
   exact s.nr b q'
theorem jQ {o:HO}(hn:g.R a=none) (ho:H a=some o) (h:zM Γ H g a d):Has Γ (g.put a o) d (.ref a):=by
 have le:Le g (g.put a o):=Le.put hn
 have hr:(g.put a o).R a=some o:=zj
 cases d with
 | lst ds=>obtain ⟨vs,h1,h2⟩:=h;rw [h1] at ho;cases ho;exact ⟨a,vs,rfl,hr,h2.mono le⟩
 | dK ks ds=>obtain ⟨vs,h1,h3,h2⟩:=h;rw [h1] at ho;cases ho;exact ⟨a,vs,rfl,hr,h3,h2.mono le⟩
 | dT ks ds=>obtain ⟨vs,h1,h3,h2⟩:=h;rw [h1] at ho;cases ho;exact ⟨a,vs,rfl,hr,h3,h2.mono le⟩
 | non=>exact h.elim
 | bl=>exact h.elim
 | int=>exact h.elim
 | str=>exact h.elim
 | tup=>exact h.elim
 | ref=>obtain ⟨o,h1,_⟩:=h;rw [hn] at h1;cases h1
 | fn=>exact h.elim
 | scr=>exact h.elim
 | ktp=>exact h.elim
 | kdc=>exact h.elim
@[simp] noncomputable def isIns:D->Bool:=fun _=>false
theorem freeze {fr:Bool}(s:Step H g H' g') (w:WOk Γ H' g' S) (h:VOk Γ H d fr v H' g') (hi:isIns d=false):∃ g2,Step H g H' g2/\WOk Γ H' g2 S/\Has Γ g2 d v/\Le g' g2:=by
 cases fr with
 | false=>exact ⟨g',s,w,h,Le.refl _⟩
 | true=>
  obtain ⟨a,rfl,h0,hn,ha,hc⟩:=(show ∃ a,v=.ref a/\H a=none/\g'.R a=none/\a ∉ g'.α/\zM Γ H' g' a d from h)
  obtain ⟨o,ho,_⟩:=hc.isMut
  exact ⟨g'.put a o,s.put hn h0,w.put ho hn ha,jQ hn ho hc,Le.put hn⟩
theorem boxed (s:Step H g H' g') (w:WOk Γ H' g' S) (h:VOk Γ H d true v H' g'):∃ g2,Step H g H' g2/\WOk Γ H' g2 (S++[d])/\Has Γ g2 (.ref S.length) v:=by
 obtain ⟨a,rfl,h0,hn,ha,hc⟩:=(show ∃ a,v=.ref a/\H a=none/\g'.R a=none/\a ∉ g'.α/\zM Γ H' g' a d from h)
 refine ⟨g'.cell a,⟨s.le.trans Le.cell,s.fr,s.ex,fun b hb=>?_,s.nr⟩,⟨w.rh,?_,?_,fun k c b h1 h2 h3=>?_,fun k c b h1 h2=>?_⟩,a,?_,rfl⟩
 ·rcases Λ.mp hb with q | q
  ·exact s.na b q
  ·rw [υ.mp q];exact .inr h0
 ·show (g'.α++[a]).length=(S++[d]).length
  simp [w.len]
 ·show (g'.α++[a]).Nodup
  exact nd_snocA w.nd ha
 ·have h2':(g'.α++[a])[k]?=some b:=h2
  by_cases hk:k < S.length
  ·rw [ϒ hk] at h1
   rw [ϒ (by rw [w.len];exact hk)] at h2'
   exact w.off k c b h1 h2' h3
  ·rw [ϖ (by rw [w.len];lia)] at h2'
   have:=au h2'
   rw [υ.mp this];exact hn
 ·have h2':(g'.α++[a])[k]?=some b:=h2
  by_cases hk:k < S.length
  ·rw [ϒ hk] at h1
   rw [ϒ (by rw [w.len];exact hk)] at h2'
   exact (w.cell k c b h1 h2').mono Le.cell fun _ q=>q
  ·rw [ϖ (by lia)] at h1
   rw [ϖ (by rw [w.len];lia)] at h2'
   have e0:k - S.length=0:=by
    cases q:k - S.length with
    | zero=>rfl
    | succ n=>rw [q] at h1;simp at h1
   rw [e0] at h1
   rw [w.len,e0] at h2'
   simp at h1 h2'
   subst h1 h2'
   exact hc.mono Le.cell fun _ q=>q
 ·show (g'.α++[a])[S.length]?=some a
  rw [<- w.len]
  simp
where
 nd_snocA:∀ {l:List Addr}{k:Addr},l.Nodup->¬ k∈l->(l++[k]).Nodup:=fun {l k} h hk=>by
  rw [aV]
  exact ⟨h,by simp,fun x hx y hy=>by rw [υ.mp hy];rintro rfl;exact hk hx⟩
end
end EV
namespace TS
open PySem PyProof.Rows
set_option backward.match.sparseCases true
variable {O:Ϝ}{key:ω->O.α}{G:ω->Prop}{kd:dH}{M:Model}{A:ϟ}{E:δ->ν->Prop}{s:ν}
section
def LtOk (O:Ϝ) (key:ω->O.α) (G:ω->Prop) (kd:dH) (M:Model) (A:ϟ) (E:δ->ν->Prop) (s:ν):Prop:=
 ∀ (x y:ω) (st:Κ) (Q:Option Bool->Κ->Prop),G x->G y->kindOf st=kd->Q (some (O.blt (key x) (key y))) st->wpS M A E s (lt' x y) Q st
noncomputable def dk:ω:=(.none,.none)
noncomputable def kk (key:ω->O.α) (xs:Array ω) (i:Nat):O.α:=key (xs[i]?.getD dk)
def Srt (key:ω->O.α) (xs:Array ω) (lo hi:Nat):Prop:=∀ i j,lo<=i->i<=j->j < hi->O.kle (kk key xs i) (kk key xs j)
structure Bs (G:ω->Prop) (kd:dH) (az:Array ω) (p:Array (Nat×Nat×Nat)) (st:Κ):Prop where
 perm:(ψ st).Perm az
 good:∀ x∈az.toList,G x
 kind:kindOf st=kd
 failed:dG st=none
 pend:bx st=p
variable {az:Array ω}{p:Array (Nat×Nat×Nat)}
theorem Bs.size {st:Κ}(h:Bs G kd az p st):(ψ st).size=az.size:=h.perm.size_eq
theorem Bs.set {st:Κ}(h:Bs G kd az p st) {xs:Array ω}(q:xs.Perm (ψ st)):Bs G kd az p (setArr st xs):=⟨q.trans h.perm,h.good,h.kind,h.failed,h.pend⟩
theorem Bs.item {st:Κ}(h:Bs G kd az p st) {i:Nat}(hi:i < az.size):∃ x,(ψ st)[i]?=some x/\G x/\kk key (ψ st) i=key x:=by
 have hi':i < (ψ st).size:=by rw [h.size];exact hi
 have e:(ψ st)[i]?=some (ψ st)[i]:=getElem?_pos _ i hi'
 refine ⟨(ψ st)[i],e,h.good _ ((cT.mp h.perm).mem_iff.mp (by simp)),?_⟩
 unfold kk;rw [e];rfl
theorem zy {arr:Array ω}{i:Nat}{x:ω}{Q:ω->Κ->Prop}{st:Κ}(e:arr[i]?=some x) (h:Q x st):wpS M A E s (dY arr i) Q st:=by
 rw [elem'_eq,e];exact Α h
theorem wp_at (L:LtOk O key G kd M A E s) {st:Κ}(h:Bs G kd az p st) {i j:Nat}(hi:i < az.size) (hj:j < az.size) {Q:Option Bool->Κ->Prop}
  (q:Q (some (O.blt (kk key (ψ st) i) (kk key (ψ st) j))) st):wpS M A E s (ltAt' i j) Q st:=by
 obtain ⟨x,e1,g1,k1⟩:=h.item (key:=key) hi
 obtain ⟨y,e2,g2,k2⟩:=h.item (key:=key) hj
 rw [ltAt'_eq]
 refine ο (dJ (ο (zy e1 (ο (zy e2 (L x y st Q g1 g2 h.kind ?_))))))
 rw [<- k1,<- k2];exact q
theorem Xv {st:Κ}{i j:Nat}{Q:Unit->Κ->Prop}(h:Q () (setArr st (mirror (ψ st) i j ((j - i) / 2)))):wpS M A E s (eZ i j) Q st:=by
 rw [reverseSlice'_eq];exact dj h
theorem kk_of {xs ys:Array ω}{i j:Nat}(h:xs[i]?=ys[j]?):kk key xs i=kk key ys j:=by unfold kk;rw [h]
theorem uN {xs:Array ω}{i j:Nat}(hj:j<=xs.size) (k:Nat):kk key (mirror xs i j ((j - i) / 2)) k=if i<=k/\k < j then kk key xs (i+j - 1 - k) else kk key xs k:=by
 have e:=getElem?_mirror_all (i:=i) hj k
 split
 ·rename_i h;rw [if_pos h] at e;exact kk_of e
 ·rename_i h;rw [if_neg h] at e;exact kk_of e
theorem Wm {xs:Array ω}{i j k:Nat}(hj:j<=xs.size) (hk:k < i):(mirror xs i j ((j - i) / 2))[k]?=xs[k]?:=by
 rw [getElem?_mirror_all hj,if_neg (by lia)]
theorem Y0 {xs:Array ω}{i j:Nat}(hj:j<=xs.size) (h:∀ k,i<=k->k < j->kk key xs k=kk key xs (j - 1)) (k:Nat):kk key (mirror xs i j ((j - i) / 2)) k=kk key xs k:=by
 rw [uN hj]
 split
 ·rename_i q
  exact (h _ (by omega) (by omega)).trans (h k q.1 q.2).symm
 ·rfl
theorem Srt.one {xs:Array ω}{lo:Nat}:Srt key xs lo (lo+1):=fun i j h1 h2 h3=>by
 obtain rfl:i=j:=by lia
 exact aR _
theorem Srt.more {xs:Array ω}{lo n:Nat}(h:Srt key xs lo (lo+n)) (h1:1<=n) (k:O.kle (kk key xs (lo+n - 1)) (kk key xs (lo+n))):Srt key xs lo (lo+(n+1)):=fun i j a b c=>by
 by_cases e:j < lo+n
 ·exact h i j a b e
 ·obtain rfl:j=lo+n:=by lia
  by_cases e:i=lo+n
  ·subst e;exact aR _
  ·exact ϑ (h i (lo+n - 1) a (by lia) (by lia)) k
theorem zam (L:LtOk O key G kd M A E s) {st:Κ}(b:Bs G kd az p st) {lo a nrem:Nat}(h1:1<=a) (ha:a<=nrem) (h2:lo+nrem<=az.size) (hs:Srt key (ψ st) lo (lo+a)) {Q:Option (Option Nat)×Nat->Κ->Prop}
  (q:∀ n,a<=n->n<=nrem->Srt key (ψ st) lo (lo+n)->(n=nrem\/O.klt (kk key (ψ st) (lo+n)) (kk key (ψ st) (lo+n - 1)))->Q (none,n) st):
  wpS M A E s (forIn [a:nrem] ((none,a):Option (Option Nat)×Nat) fun _ c=>do
   let x <- ltAt' (lo+c.2) (lo+c.2 - 1)
   match x with
   | some smaller=>if smaller=true then pure (Ϡ (none,c.2)) else pure (ϥ (none,c.2+1))
   | _=>pure (Ϡ (some none,c.2))) Q st:=by
 refine ϫ (I:=fun x c st'=>st'=st/\c=(none,x)/\Srt key (ψ st) lo (lo+x)) ?_ ?_ ⟨rfl,rfl,hs⟩
 ·rintro x c st' hx hn ⟨rfl,rfl,hs⟩
  dsimp only
  refine ο (wp_at L b (by lia) (by lia) ?_)
  cases hl:O.blt (kk key (ψ st') (lo+x)) (kk key (ψ st') (lo+x - 1)) with
  | true=>exact Α (q x hx (by lia) hs (.inr hl))
  | false=>exact Α ⟨rfl,rfl,hs.more (by lia) hl⟩
 ·rintro c st' ⟨rfl,rfl,hs⟩
  rw [show max a nrem=nrem by lia] at hs ⊢
  exact q nrem ha (π _) hs (.inl rfl)
def Fal (key:ω->O.α) (xs:Array ω) (lo hi:Nat):Prop:=∀ i j,lo<=i->i<=j->j < hi->O.kle (kk key xs j) (kk key xs i)
theorem Fal.more {xs:Array ω}{lo n:Nat}(h:Fal key xs lo (lo+n)) (h1:1<=n) (k:O.kle (kk key xs (lo+n)) (kk key xs (lo+n - 1))):Fal key xs lo (lo+(n+1)):=fun i j a b c=>by
 by_cases e:j < lo+n
 ·exact h i j a b e
 ·obtain rfl:j=lo+n:=by lia
  by_cases e:i=lo+n
  ·subst e;exact aR _
  ·exact ϑ k (h i (lo+n - 1) a (by lia) (by lia))
theorem Fal.same {xs ys:Array ω}{lo hi:Nat}(h:Fal key xs lo hi) (e:∀ k,kk key ys k=kk key xs k):Fal key ys lo hi:=fun i j a b c=>by rw [e,e];exact h i j a b c
theorem VH (L:LtOk O key G kd M A E s) {st:Κ}(b:Bs G kd az p st) {lo n nrem:Nat}(h1:1<=n) (hn:n<=nrem) (h2:lo+nrem<=az.size) (hs:Fal key (ψ st) lo (lo+n)) {Q:Option Nat->Κ->Prop}
  (q:∀ m st',Bs G kd az p st'->1<=m->m<=nrem->Srt key (ψ st') lo (lo+m)->(∀ k,k < lo->(ψ st')[k]?=(ψ st)[k]?)->Q (some m) st'):
  wpS M A E s (do
   eZ lo (lo+n)
   let c <- forIn [n:nrem] ((none,n):Option (Option Nat)×Nat) fun _ c=>do
    let x <- ltAt' (lo+c.2) (lo+c.2 - 1)
    match x with
    | some smaller=>if smaller=true then pure (Ϡ (none,c.2)) else pure (ϥ (none,c.2+1))
    | _=>pure (Ϡ (some none,c.2))
   match c.1 with
   | some r=>pure r
   | none=>pure (some c.2)) Q st:=by
 have hz:lo+n<=(ψ st).size:=by rw [b.size];lia
 refine ο (Xv ?_)
 have b':=b.set (mO (ψ st) lo (lo+n) ((lo+n - lo) / 2))
 refine ο (zam L b' h1 hn h2 ?_ fun m m1 m2 ms _=>Α (q m _ b' (by lia) m2 ms fun k hk=>Wm hz hk))
 intro i j a b c
 show O.kle (kk key (mirror (ψ st) lo (lo+n) ((lo+n - lo) / 2)) i) (kk key (mirror (ψ st) lo (lo+n) ((lo+n - lo) / 2)) j)
 rw [uN hz,uN hz,if_pos (by lia),if_pos (by lia)]
 exact hs _ _ (by lia) (by lia) (by lia)
end
section
variable {az:Array ω}{p:Array (Nat×Nat×Nat)}
theorem VL (L:LtOk O key G kd M A E s) {st:Κ}(b:Bs G kd az p st) {lo n nrem:Nat}(h1:1<=n) (hn:n<=nrem) (h2:lo+nrem<=az.size) (hs:Fal key (ψ st) lo (lo+n)) {Q:Option Nat->Κ->Prop}
  (q:∀ m st',Bs G kd az p st'->1<=m->m<=nrem->Srt key (ψ st') lo (lo+m)->(∀ k,k < lo->(ψ st')[k]?=(ψ st)[k]?)->Q (some m) st'):
  wpS M A E s (do
   let c <- forIn [n:nrem] ((none,n,0):Option (Option Nat)×Nat×Nat) fun _ c=>do
    let x <- ltAt' (lo+c.2.1) (lo+c.2.1 - 1)
    match x with
    | some smaller=>
     if smaller=true then
      if c.2.2 > 0 then do
       let _ <- eZ (lo+c.2.1 - (c.2.2+1)) (lo+c.2.1)
       pure (ϥ (none,c.2.1+1,0))
      else pure (ϥ (none,c.2.1+1,0))
     else do
      let x <- ltAt' (lo+c.2.1 - 1) (lo+c.2.1)
      match x with
      | some larger=>if larger=true then pure (Ϡ (none,c.2.1,c.2.2)) else pure (ϥ (none,c.2.1+1,c.2.2+1))
      | _=>pure (Ϡ (some none,c.2.1,c.2.2))
    | _=>pure (Ϡ (some none,c.2.1,c.2.2))
   match c.1 with
   | some r=>pure r
   | none=>
    if c.2.2 > 0 then do
     let _ <- eZ (lo+c.2.1 - (c.2.2+1)) (lo+c.2.1)
     do
      eZ lo (lo+c.2.1)
      let c <- forIn [c.2.1:nrem] ((none,c.2.1):Option (Option Nat)×Nat) fun _ c=>do
       let x <- ltAt' (lo+c.2) (lo+c.2 - 1)
       match x with
       | some smaller=>if smaller=true then pure (Ϡ (none,c.2)) else pure (ϥ (none,c.2+1))
       | _=>pure (Ϡ (some none,c.2))
      match c.1 with
      | some r=>pure r
      | none=>pure (some c.2)
    else do
     eZ lo (lo+c.2.1)
     let c <- forIn [c.2.1:nrem] ((none,c.2.1):Option (Option Nat)×Nat) fun _ c=>do
      let x <- ltAt' (lo+c.2) (lo+c.2 - 1)
      match x with
      | some smaller=>if smaller=true then pure (Ϡ (none,c.2)) else pure (ϥ (none,c.2+1))
      | _=>pure (Ϡ (some none,c.2))
     match c.1 with
     | some r=>pure r
     | none=>pure (some c.2)) Q st:=by
 refine ο (aX (ϫ (I:=fun x c st'=>∃ e,c=(none,x,e)/\Bs G kd az p st'/\Fal key (ψ st') lo (lo+x)/\e+1<=x/\(∀ i,lo+x - (e+1)<=i->i < lo+x->kk key (ψ st') i=kk key (ψ st') (lo+x - 1))/\∀ k,k < lo->(ψ st')[k]?=(ψ st)[k]?)
  (Q:=fun c st'=>∃ m e,c=(none,m,e)/\n<=m/\m<=nrem/\Bs G kd az p st'/\Fal key (ψ st') lo (lo+m)/\e+1<=m/\(∀ i,lo+m - (e+1)<=i->i < lo+m->kk key (ψ st') i=kk key (ψ st') (lo+m - 1))/\∀ k,k < lo->(ψ st')[k]?=(ψ st)[k]?) ?_ ?_ ⟨0,rfl,b,hs,by lia,fun i h1 h2=>by congr 1;lia,fun _ _=>rfl⟩) ?_)
 ·rintro x c st' hx hn ⟨e,rfl,b',f',he,hq,hk⟩
  dsimp only
  have hz:lo+x<=(ψ st').size:=by rw [b'.size];lia
  refine ο (wp_at L b' (by lia) (by lia) ?_)
  cases hl:O.blt (kk key (ψ st') (lo+x)) (kk key (ψ st') (lo+x - 1)) with
  | true=>
   have f2:=f'.more (by lia) (ϕ hl)
   dsimp only
   rw [if_pos rfl]
   by_cases he0:e > 0
   ·rw [if_pos he0]
    have same:=Y0 (key:=key) hz hq
    exact ο (Xv (Α ⟨0,rfl,b'.set (mO _ _ _ _),f2.same same,by lia,fun i h1 h2=>by congr 1;lia,fun k h=>(Wm hz (by lia)).trans (hk k h)⟩))
   ·rw [if_neg he0]
    exact Α ⟨0,rfl,b',f2,by lia,fun i h1 h2=>by congr 1;lia,hk⟩
  | false=>
   dsimp only
   rw [if_neg (by decide)]
   refine ο (wp_at L b' (by lia) (by lia) ?_)
   cases hg:O.blt (kk key (ψ st') (lo+x - 1)) (kk key (ψ st') (lo+x)) with
   | true=>exact Α ⟨x,e,rfl,hx,by lia,b',f',he,hq,hk⟩
   | false=>
    have eq:kk key (ψ st') (lo+x)=kk key (ψ st') (lo+x - 1):=nU hg hl
    refine Α ⟨e+1,rfl,b',f'.more (by lia) hg,by lia,fun i h1 h2=>?_,hk⟩
    rw [show lo+(x+1) - 1=lo+x by lia,eq]
    by_cases hi:i=lo+x
    ·rw [hi];exact eq
    ·exact hq i (by lia) (by lia)
 ·rintro c st' ⟨e,rfl,b',f',he,hq,hk⟩
  rw [show max n nrem=nrem by lia] at f' he hq ⊢
  exact ⟨nrem,e,rfl,hn,π _,b',f',he,hq,hk⟩
 ·rintro c st' ⟨m,e,rfl,m1,m2,b',f',he,hq,hk⟩
  dsimp only
  have hz:lo+m<=(ψ st').size:=by rw [b'.size];lia
  by_cases he0:e > 0
  ·rw [if_pos he0]
   have same:=Y0 (key:=key) hz hq
   refine ο (Xv (VH L (b'.set (mO _ _ _ _)) (by lia) m2 h2 (f'.same same) fun m' st2 b2 a1 a2 a3 a4=>q m' st2 b2 a1 a2 a3 fun k h=>?_))
   exact (a4 k h).trans ((Wm hz (by lia)).trans (hk k h))
  ·rw [if_neg he0]
   exact VH L b' (by lia) m2 h2 f' fun m' st2 b2 a1 a2 a3 a4=>q m' st2 b2 a1 a2 a3 fun k h=>(a4 k h).trans (hk k h)
theorem wp_eq {α:Type}{m m':StateT Κ Sem α}{Q:α->Κ->Prop}{st:Κ}(e:m'=m) (h:wpS M A E s m Q st):wpS M A E s m' Q st:=e ▸ h
theorem bd {α β:Type}{m m':StateT Κ Sem α}{f f':α->StateT Κ Sem β}(e:m=m') (h:∀ a,f a=f' a):(m >>= f)=(m' >>= f'):=by
 rw [e,funext h]
theorem Xw (L:LtOk O key G kd M A E s) {st:Κ}(b:Bs G kd az p st) {lo nrem:Nat}(h1:1<=nrem) (h2:lo+nrem<=az.size) {Q:Option Nat->Κ->Prop}
  (q:∀ m st',Bs G kd az p st'->1<=m->m<=nrem->Srt key (ψ st') lo (lo+m)->(∀ k,k < lo->(ψ st')[k]?=(ψ st)[k]?)->Q (some m) st'):wpS M A E s (countRun' lo nrem) Q st:=by
 rw [countRun'_eq]
 refine ο (zam L b (π 1) h1 h2 Srt.one fun n n1 n2 hs ho=>?_)
 dsimp only
 by_cases hn:n=nrem
 ·rw [if_pos (by simpa using hn)]
  exact Α (q n st b n1 n2 hs fun _ _=>rfl)
 ·rw [if_neg (by simpa using hn)]
  have hlt:=ho.resolve_left hn
  have hz:lo+n<=(ψ st).size:=by rw [b.size];lia
  by_cases hg:n > 1
  ·rw [if_pos hg]
   refine ο (wp_at L b (by lia) (by lia) ?_)
   cases hr:O.blt (kk key (ψ st) lo) (kk key (ψ st) (lo+n - 1)) with
   | true=>exact Α (q n st b n1 n2 hs fun _ _=>rfl)
   | false=>
    dsimp only
    rw [if_neg (by decide)]
    have all:∀ k,lo<=k->k < lo+n->kk key (ψ st) k=kk key (ψ st) (lo+n - 1):=fun k a c=>
     nU (hs k (lo+n - 1) a (by lia) (by lia)) (ϑ hr (hs lo k (π _) a c))
    have same:=Y0 (key:=key) hz all
    have f0:Fal key (ψ st) lo (lo+(n+1)):=fun i j a c d=>by
     by_cases e:j < lo+n
     ·rw [all i a (by lia),all j (by lia) e];exact aR _
     ·obtain rfl:j=lo+n:=by lia
      by_cases e:i=lo+n
      ·rw [e];exact aR _
      ·rw [all i a (by lia)];exact ϕ hlt
    refine ο (Xv ?_)
    refine ο (fU (aB ⟨rfl,?_⟩))
    refine wp_eq ?e (VL L (b.set (mO _ _ _ _)) (by lia) (by lia) h2 (f0.same same) fun m' st2 b2 a1 a2 a3 a4=>q m' st2 b2 a1 a2 a3 fun k h=>(a4 k h).trans (Wm hz h))
    case e=>
     refine bd rfl fun c=>?_
     obtain ⟨r,n',e'⟩:=c
     cases r with
     | some r=>rfl
     | none=>
      dsimp only
      split
      ·refine bd rfl fun _=>bd rfl fun _=>bd rfl fun c=>?_
       obtain ⟨r,_⟩:=c
       cases r <;> rfl
      ·refine bd rfl fun _=>bd rfl fun c=>?_
       obtain ⟨r,_⟩:=c
       cases r <;> rfl
  ·rw [if_neg hg]
   obtain rfl:n=1:=by lia
   refine ο (fU (aB ⟨rfl,?_⟩))
   refine wp_eq ?e (VL L b (n:=1+1) (by lia) (by lia) h2 (fun i j a c d=>?_) q)
   case e=>
    refine bd rfl fun c=>?_
    obtain ⟨r,n',e'⟩:=c
    cases r with
    | some r=>rfl
    | none=>
     dsimp only
     split
     ·refine bd rfl fun _=>bd rfl fun _=>bd rfl fun c=>?_
      obtain ⟨r,_⟩:=c
      cases r <;> rfl
     ·refine bd rfl fun _=>bd rfl fun c=>?_
      obtain ⟨r,_⟩:=c
      cases r <;> rfl
   by_cases e:i=j
   ·rw [e];exact aR _
   ·obtain rfl:i=lo:=by lia
    obtain rfl:j=i+1:=by lia
    exact ϕ hlt
end
section
variable {az:Array ω}{p:Array (Nat×Nat×Nat)}
theorem ZJ {xs:Array ω}{src d:Nat}(hs:src < xs.size) (hd:d<=src) (k:Nat):kk key (bubble xs src d) k=if k=src - d then kk key xs src else if src - d < k/\k<=src then kk key xs (k - 1) else kk key xs k:=by
 have e:=getElem?_bubble hs d hd k
 split
 ·rename_i h;rw [if_pos h] at e;exact kk_of e
 ·rename_i h
  rw [if_neg h] at e
  split
  ·rename_i h;rw [if_pos h] at e;exact kk_of e
  ·rename_i h;rw [if_neg h] at e;exact kk_of e
theorem zak (L:LtOk O key G kd M A E s) {st:Κ}(b:Bs G kd az p st) {lo n ok:Nat}(h1:1<=ok) (hok:ok<=n) (h2:lo+n<=az.size) (hs:Srt key (ψ st) lo (lo+ok)) {Q:Bool->Κ->Prop}
  (q:∀ st',Bs G kd az p st'->Srt key (ψ st') lo (lo+n)->(∀ k,k < lo->(ψ st')[k]?=(ψ st)[k]?)->Q true st'):wpS M A E s (binarySort' lo n ok) Q st:=by
 rw [binarySort'_eq]
 refine ο (aX (ϫ (I:=fun k c st'=>c=(none,())/\Bs G kd az p st'/\Srt key (ψ st') lo (lo+k)/\∀ k,k < lo->(ψ st')[k]?=(ψ st)[k]?)
  (Q:=fun c st'=>c=(none,())/\Bs G kd az p st'/\Srt key (ψ st') lo (lo+n)/\∀ k,k < lo->(ψ st')[k]?=(ψ st)[k]?) ?_ ?_ ⟨rfl,b,by rw [show max ok 1=ok by lia];exact hs,fun _ _=>rfl⟩) ?_)
 ·rintro k c st' hk hkn ⟨rfl,b',hs',hq⟩
  have hz:lo+k < (ψ st').size:=by rw [b'.size];lia
  dsimp only
  refine ο (aX (ϫ (I:=fun x c st2=>st2=st'/\∃ l r,c=(none,l,r)/\l<=r/\r<=k/\r - l<=k - x/\(∀ i,i < l->O.kle (kk key (ψ st') (lo+i)) (kk key (ψ st') (lo+k)))/\∀ i,r<=i->i < k->O.kle (kk key (ψ st') (lo+k)) (kk key (ψ st') (lo+i)))
   (Q:=fun c st2=>st2=st'/\∃ l r,c=(none,l,r)/\l<=k/\(∀ i,i < l->O.kle (kk key (ψ st') (lo+i)) (kk key (ψ st') (lo+k)))/\∀ i,l<=i->i < k->O.kle (kk key (ψ st') (lo+k)) (kk key (ψ st') (lo+i))) ?_ ?_ ⟨rfl,0,k,rfl,by lia,by lia,by lia,fun i hi=>by lia,fun i h1 h2=>by lia⟩) ?_)
  ·rintro x c st2 _ hx ⟨rfl,l,r,rfl,hlr,hrk,hm,hlo,hhi⟩
   dsimp only
   by_cases hg:l >= r
   ·rw [if_pos hg]
    obtain rfl:l=r:=by lia
    exact Α ⟨rfl,l,l,rfl,hrk,hlo,hhi⟩
   ·rw [if_neg hg]
    refine ο (wp_at L b' (by lia) (by lia) ?_)
    cases hl:O.blt (kk key (ψ st2) (lo+k)) (kk key (ψ st2) (lo+(l+r) / 2)) with
    | true=>exact Α ⟨rfl,l,(l+r) / 2,rfl,by lia,by lia,by lia,hlo,fun i h1 h2=>ϑ (ϕ hl) (hs' _ _ (by lia) (by lia) (by lia))⟩
    | false=>exact Α ⟨rfl,(l+r) / 2+1,r,rfl,by lia,by lia,by lia,fun i h1=>ϑ (hs' (lo+i) (lo+(l+r) / 2) (by lia) (by lia) (by lia)) hl,hhi⟩
  ·rintro c st2 ⟨rfl,l,r,rfl,hlr,hrk,hm,hlo,hhi⟩
   obtain rfl:l=r:=by lia
   exact ⟨rfl,l,l,rfl,hrk,hlo,hhi⟩
  ·rintro c st2 ⟨rfl,l,r,rfl,hlk,hlo,hhi⟩
   dsimp only
   rw [moveDown'_eq]
   refine ο (dj (Α ⟨rfl,b'.set (bubble_perm _ _ _),fun i j h1 h2 h3=>?_,fun i hi=>?_⟩))
   ·show O.kle (kk key (bubble (ψ st2) (lo+k) (lo+k - (lo+l))) i) (kk key (bubble (ψ st2) (lo+k) (lo+k - (lo+l))) j)
    rw [ZJ hz (by lia),ZJ hz (by lia),show lo+k - (lo+k - (lo+l))=lo+l by lia]
    have lo':∀ i,lo<=i->i < lo+l->O.kle (kk key (ψ st2) i) (kk key (ψ st2) (lo+k)):=fun i a c=>by
     have:=hlo (i - lo) (by lia)
     rwa [show lo+(i - lo)=i by lia] at this
    have hi':∀ i,lo+l<=i->i < lo+k->O.kle (kk key (ψ st2) (lo+k)) (kk key (ψ st2) i):=fun i a c=>by
     have:=hhi (i - lo) (by lia) (by lia)
     rwa [show lo+(i - lo)=i by lia] at this
    repeat' split
    all_goals first
     | (exfalso;lia)
     | exact aR _
     | exact lo' _ (by lia) (by lia)
     | exact hi' _ (by lia) (by lia)
     | exact hs' _ _ (by lia) (by lia) (by lia)
   ·refine Eq.trans ?_ (hq i hi)
    show (bubble (ψ st2) (lo+k) (lo+k - (lo+l)))[i]?=_
    rw [getElem?_bubble hz _ (by lia),if_neg (by lia),if_neg (by lia)]
 ·rintro c st' ⟨hc,b',hs',hq⟩
  rw [show max (max ok 1) n=n by lia] at hs'
  exact ⟨hc,b',hs',hq⟩
 ·rintro c st' ⟨rfl,b',hs',hq⟩
  exact Α (q st' b' hs' hq)
end
noncomputable def yp:Bool->ω->Array ω->Nat->Nat->Nat->StateT Κ Sem (Option Nat):=sortPriv% PySem.Builtin.gallop
noncomputable def bey (left:Bool) (key:ω) (arr:Array ω) (base i:Nat):StateT Κ Sem (Option Bool):=do
 let x <- dY arr (base+i)
 if left then lt' x key else return (<- lt' key x).map (!·)
theorem Vw (left:Bool) (key:ω) (arr:Array ω) (base n hint:Nat):yp left key arr base n hint=(do
 let mut near:=0
 let mut ofs:=1
 let mut lo:=0
 let mut hi:=0
 let some right <- bey left key arr base hint | return none
 if right then
  let most:=n - hint
  for _ in [0:n] do
   if ofs >= most then break
   let some more <- bey left key arr base (hint+ofs) | return none
   if !more then break
   near:=ofs
   ofs:=2*ofs+1
  lo:=hint+near+1
  hi:=hint+min ofs most
 else
  let most:=hint+1
  for _ in [0:n] do
   if ofs >= most then break
   let some found <- bey left key arr base (hint - ofs) | return none
   if found then break
   near:=ofs
   ofs:=2*ofs+1
  lo:=hint+1 - min ofs most
  hi:=hint - near
 for _ in [0:n] do
  if lo >= hi then break
  let m:=lo+(hi - lo) / 2
  let some more <- bey left key arr base m | return none
  if more then lo:=m+1 else hi:=m
 return some hi):=rfl
section
variable {st:Κ}
theorem VJ {left:Bool}{x:ω}{arr:Array ω}{base n:Nat}(B:Nat->Bool) (hB:∀ i,i < n->∀ Q:Option Bool->Κ->Prop,Q (some (B i)) st->wpS M A E s (bey left x arr base i) Q st)
  (mono:∀ i j,i<=j->j < n->B j=true->B i=true) {lo hi:Nat}(h1:lo<=hi) (h2:hi<=n) (t:∀ i,i < lo->B i=true) (f:∀ i,hi<=i->i < n->B i=false) {Q:Option (Option Nat)×Nat×Nat->Κ->Prop}
  (q:∀ k,k<=n->(∀ i,i < k->B i=true)->(∀ i,k<=i->i < n->B i=false)->Q (none,k,k) st):
  wpS M A E s (forIn [0:n] ((none,lo,hi):Option (Option Nat)×Nat×Nat) fun _ c=>
   if c.2.1 >= c.2.2 then pure (Ϡ (none,c.2.1,c.2.2))
   else do
    let r <- bey left x arr base (c.2.1+(c.2.2 - c.2.1) / 2)
    match r with
    | some more=>if more=true then pure (ϥ (none,c.2.1+(c.2.2 - c.2.1) / 2+1,c.2.2)) else pure (ϥ (none,c.2.1,c.2.1+(c.2.2 - c.2.1) / 2))
    | _=>pure (Ϡ (some none,c.2.1,c.2.2))) Q st:=by
 refine ϫ (I:=fun y c st'=>st'=st/\∃ lo hi,c=(none,lo,hi)/\lo<=hi/\hi<=n/\hi - lo<=n - y/\(∀ i,i < lo->B i=true)/\∀ i,hi<=i->i < n->B i=false) ?_ ?_ ⟨rfl,lo,hi,rfl,h1,h2,by lia,t,f⟩
 ·rintro y c st' _ hy ⟨rfl,lo,hi,rfl,h1,h2,h3,t,f⟩
  dsimp only
  by_cases hg:lo >= hi
  ·rw [if_pos hg]
   obtain rfl:lo=hi:=by lia
   exact Α (q lo h2 t f)
  ·rw [if_neg hg]
   refine ο (hB _ (by lia) _ ?_)
   cases hb:B (lo+(hi - lo) / 2) with
   | true=>exact Α ⟨rfl,lo+(hi - lo) / 2+1,hi,rfl,by lia,h2,by lia,fun i hi=>mono i _ (by lia) (by lia) hb,f⟩
   | false=>
    refine Α ⟨rfl,lo,lo+(hi - lo) / 2,rfl,by lia,by lia,by lia,t,fun i h4 h5=>?_⟩
    cases hi':B i with
    | false=>rfl
    | true=>rw [mono _ i h4 h5 hi'] at hb;cases hb
 ·rintro c st' ⟨rfl,lo,hi,rfl,h1,h2,h3,t,f⟩
  obtain rfl:lo=hi:=by lia
  exact q lo h2 t f
theorem zaj {left:Bool}{x:ω}{arr:Array ω}{base n hint:Nat}(B:Nat->Bool) (hB:∀ i,i < n->∀ Q:Option Bool->Κ->Prop,Q (some (B i)) st->wpS M A E s (bey left x arr base i) Q st)
  (mono:∀ i j,i<=j->j < n->B j=true->B i=true) (hh:hint < n) {Q:Option Nat->Κ->Prop}(q:∀ k,k<=n->(∀ i,i < k->B i=true)->(∀ i,k<=i->i < n->B i=false)->Q (some k) st):wpS M A E s (yp left x arr base n hint) Q st:=by
 rw [Vw]
 refine ο (hB hint hh _ ?_)
 have up:∀ j,j < n->B j=true->∀ i,i < j+1->B i=true:=fun j h1 h2 i h3=>mono i j (by omega) h1 h2
 have dn:∀ j,j < n->B j=false->∀ i,j<=i->i < n->B i=false:=fun j h1 h2 i h3 h4=>by
  cases e:B i with
  | false=>rfl
  | true=>rw [mono j i h3 h4 e] at h2;cases h2
 cases hr:B hint with
 | true=>
  dsimp only
  rw [if_pos rfl]
  refine ο (aX (ϫ (I:=fun y c st'=>st'=st/\∃ near ofs,c=(none,near,ofs)/\near < ofs/\y < ofs/\hint+near < n/\B (hint+near)=true)
   (Q:=fun c st'=>st'=st/\∃ near ofs,c=(none,near,ofs)/\near < ofs/\hint+near < n/\B (hint+near)=true/\(n - hint<=ofs\/hint+ofs < n/\B (hint+ofs)=false)) ?_ ?_ ⟨rfl,0,1,rfl,by omega,by omega,by omega,hr⟩) ?_)
  ·rintro y c st' _ hy ⟨rfl,near,ofs,rfl,h1,h2,h3,h4⟩
   dsimp only
   by_cases hg:ofs >= n - hint
   ·rw [if_pos hg]
    exact Α ⟨rfl,near,ofs,rfl,h1,h3,h4,.inl hg⟩
   ·rw [if_neg hg]
    refine ο (hB _ (by omega) _ ?_)
    cases hb:B (hint+ofs) with
    | true=>exact Α ⟨rfl,ofs,2*ofs+1,rfl,by omega,by omega,by omega,hb⟩
    | false=>exact Α ⟨rfl,near,ofs,rfl,h1,h3,h4,.inr ⟨by omega,hb⟩⟩
  ·rintro c st' ⟨rfl,near,ofs,rfl,h1,h2,h3,h4⟩
   exact ⟨rfl,near,ofs,rfl,h1,h3,h4,.inl (by omega)⟩
  ·rintro c st' ⟨rfl,near,ofs,rfl,h1,h3,h4,h5⟩
   dsimp only
   refine ο (VJ B hB mono (by omega) (by omega) (fun i hi=>up _ h3 h4 i (by omega)) (fun i h6 h7=>?_) fun k k1 k2 k3=>Α (q k k1 k2 k3))
   rcases h5 with h5 | ⟨h5,h8⟩
   ·omega
   ·exact dn _ h5 h8 i (by omega) h7
 | false=>
  dsimp only
  rw [if_neg (by decide)]
  refine ο (aX (ϫ (I:=fun y c st'=>st'=st/\∃ near ofs,c=(none,near,ofs)/\near < ofs/\y < ofs/\near<=hint/\B (hint - near)=false)
   (Q:=fun c st'=>st'=st/\∃ near ofs,c=(none,near,ofs)/\near < ofs/\near<=hint/\B (hint - near)=false/\(hint+1<=ofs\/ofs<=hint/\B (hint - ofs)=true)) ?_ ?_ ⟨rfl,0,1,rfl,by omega,by omega,by omega,hr⟩) ?_)
  ·rintro y c st' _ hy ⟨rfl,near,ofs,rfl,h1,h2,h3,h4⟩
   dsimp only
   by_cases hg:ofs >= hint+1
   ·rw [if_pos hg]
    exact Α ⟨rfl,near,ofs,rfl,h1,h3,h4,.inl hg⟩
   ·rw [if_neg hg]
    refine ο (hB _ (by omega) _ ?_)
    cases hb:B (hint - ofs) with
    | true=>exact Α ⟨rfl,near,ofs,rfl,h1,h3,h4,.inr ⟨by omega,hb⟩⟩
    | false=>exact Α ⟨rfl,ofs,2*ofs+1,rfl,by omega,by omega,by omega,hb⟩
  ·rintro c st' ⟨rfl,near,ofs,rfl,h1,h2,h3,h4⟩
   exact ⟨rfl,near,ofs,rfl,h1,h3,h4,.inl (by omega)⟩
  ·rintro c st' ⟨rfl,near,ofs,rfl,h1,h3,h4,h5⟩
   dsimp only
   refine ο (VJ B hB mono (by omega) (by omega) (fun i hi=>?_) (fun i h6 h7=>dn _ (by omega) h4 i h6 h7) fun k k1 k2 k3=>Α (q k k1 k2 k3))
   rcases h5 with h5 | ⟨h5,h8⟩
   ·omega
   ·exact up _ (by omega) h8 i (by omega)
end
section
structure Sd (kd:dH) (ar:Array ω) (pd:Array (Nat×Nat×Nat)) (st:Κ):Prop where
 kind:kindOf st=kd
 failed:dG st=none
 arr:ψ st=ar
 pend:bx st=pd
variable {ar:Array ω}{pd:Array (Nat×Nat×Nat)}
theorem zal (L:LtOk O key G kd M A E s) {st:Κ}(d:Sd kd ar pd st) {left:Bool}{x y:ω}{arr:Array ω}{base i:Nat}(gx:G x) (e:arr[base+i]?=some y) (gy:G y) {Q:Option Bool->Κ->Prop}
  (q:Q (some (if left then O.blt (key y) (key x) else !O.blt (key x) (key y))) st):wpS M A E s (bey left x arr base i) Q st:=by
 unfold bey
 refine ο (zy e ?_)
 cases left with
 | true=>exact L y x st Q gy gx d.kind q
 | false=>exact ο (L x y st _ gx gy d.kind (Α q))
theorem wp_gR (L:LtOk O key G kd M A E s) {st:Κ}(d:Sd kd ar pd st) {x:ω}{arr:Array ω}{base n hint:Nat}(gx:G x) (hg:∀ y∈arr.toList,G y) (hn:base+n<=arr.size) (hh:hint < n) (hs:Srt key arr base (base+n)) {Q:Option Nat->Κ->Prop}
  (q:∀ k,k<=n->(∀ i,base<=i->i < base+k->O.kle (kk key arr i) (key x))->(∀ i,base+k<=i->i < base+n->O.klt (key x) (kk key arr i))->Q (some k) st):wpS M A E s (yp false x arr base n hint) Q st:=by
 refine zaj (fun i=>!O.blt (key x) (kk key arr (base+i))) (fun i hi Q' q'=>?_) (fun i j h1 h2 h3=>?_) hh fun k k1 k2 k3=>q k k1 (fun i h1 h2=>?_) fun i h1 h2=>?_
 ·have hi':base+i < arr.size:=by lia
  have e:=getElem?_pos arr (base+i) hi'
  refine zal L d gx e (hg _ (by simp)) ?_
  unfold kk at q'
  rw [e] at q'
  exact q'
 ·have h3:O.blt (key x) (kk key arr (base+j))=false:=by revert h3;cases O.blt (key x) (kk key arr (base+j)) <;> simp
  have:O.kle (kk key arr (base+i)) (key x):=ϑ (hs _ _ (by lia) (by lia) (by lia)) h3
  show (!O.blt (key x) (kk key arr (base+i)))=true
  rw [show O.blt (key x) (kk key arr (base+i))=false from this];rfl
 ·have:=k2 (i - base) (by lia)
  rw [show base+(i - base)=i by lia] at this
  show O.blt (key x) (kk key arr i)=false
  revert this;cases O.blt (key x) (kk key arr i) <;> simp
 ·have:=k3 (i - base) (by lia) (by lia)
  rw [show base+(i - base)=i by lia] at this
  show O.blt (key x) (kk key arr i)=true
  revert this;cases O.blt (key x) (kk key arr i) <;> simp
theorem wp_gL (L:LtOk O key G kd M A E s) {st:Κ}(d:Sd kd ar pd st) {x:ω}{arr:Array ω}{base n hint:Nat}(gx:G x) (hg:∀ y∈arr.toList,G y) (hn:base+n<=arr.size) (hh:hint < n) (hs:Srt key arr base (base+n)) {Q:Option Nat->Κ->Prop}
  (q:∀ k,k<=n->(∀ i,base<=i->i < base+k->O.klt (kk key arr i) (key x))->(∀ i,base+k<=i->i < base+n->O.kle (key x) (kk key arr i))->Q (some k) st):wpS M A E s (yp true x arr base n hint) Q st:=by
 refine zaj (fun i=>O.blt (kk key arr (base+i)) (key x)) (fun i hi Q' q'=>?_) (fun i j h1 h2 h3=>?_) hh fun k k1 k2 k3=>q k k1 (fun i h1 h2=>?_) fun i h1 h2=>?_
 ·have hi':base+i < arr.size:=by lia
  have e:=getElem?_pos arr (base+i) hi'
  refine zal L d gx e (hg _ (by simp)) ?_
  unfold kk at q'
  rw [e] at q'
  exact q'
 ·exact Ϝ.klt_of_kle_of_klt (hs _ _ (by lia) (by lia) (by lia)) h3
 ·have:=k2 (i - base) (by lia)
  rwa [show base+(i - base)=i by lia] at this
 ·have:=k3 (i - base) (by lia) (by lia)
  rwa [show base+(i - base)=i by lia] at this
abbrev Up (key:ω->O.α) (l:List ω):Prop:=l.Pairwise fun x y=>O.kle (key x) (key y)
abbrev Le2 (key:ω->O.α) (l m:List ω):Prop:=∀ x∈l,∀ y∈m,O.kle (key x) (key y)
structure Mg (key:ω->O.α) (L X P Y:List ω):Prop where
 x:Up key X
 p:Up key P
 y:Up key Y
 xp:Le2 key X P
 xy:Le2 key X Y
 all:(X++P++Y).Perm L
def Ok (key:ω->O.α) (L:List ω) (r:Array ω):Prop:=Up key r.toList/\r.toList.Perm L
variable {L X P P1 P2 Y Y1 Y2:List ω}
theorem zan (h:Up key (P1++P2)):Up key P1/\Up key P2/\Le2 key P1 P2:=by
 have:=ϳ.mp h
 exact ⟨this.1,this.2.1,this.2.2⟩
theorem Mg.takeA (m:Mg key L X (P1++P2) Y) (h:Le2 key P1 Y):Mg key L (X++P1) P2 Y:=by
 obtain ⟨p1,p2,p3⟩:=zan m.p
 refine ⟨ϳ.mpr ⟨m.x,p1,fun a ha b hb=>m.xp a ha b (bL _ hb)⟩,p2,m.y,fun a ha b hb=>?_,fun a ha b hb=>?_,?_⟩
 ·rcases Λ.mp ha with ha | ha
  ·exact m.xp a ha b (Ρ _ hb)
  ·exact p3 a ha b hb
 ·rcases Λ.mp ha with ha | ha
  ·exact m.xy a ha b hb
  ·exact h a ha b hb
 ·have:=m.all
  rwa [<- ό X] at this
theorem Mg.takeB (m:Mg key L X P (Y1++Y2)) (h:Le2 key Y1 P):Mg key L (X++Y1) P Y2:=by
 obtain ⟨p1,p2,p3⟩:=zan m.y
 refine ⟨ϳ.mpr ⟨m.x,p1,fun a ha b hb=>m.xy a ha b (bL _ hb)⟩,m.p,p2,fun a ha b hb=>?_,fun a ha b hb=>?_,?_⟩
 ·rcases Λ.mp ha with ha | ha
  ·exact m.xp a ha b hb
  ·exact h a ha b hb
 ·rcases Λ.mp ha with ha | ha
  ·exact m.xy a ha b (Ρ _ hb)
  ·exact p3 a ha b hb
 ·refine iK ?_ m.all
  rw [ό X Y1 P,ό X P (Y1++Y2),ό X (Y1++P) Y2,<- ό P Y1 Y2]
  exact (nR.append_right Y2).append_left X
theorem Mg.endB (m:Mg key L X P Y) (h:Le2 key Y P) {r:Array ω}(e:r.toList=X++Y++P):Ok key L r:=by
 refine ⟨?_,?_⟩
 ·rw [e]
  exact ϳ.mpr ⟨ϳ.mpr ⟨m.x,m.y,m.xy⟩,m.p,fun a ha b hb=>by
   rcases Λ.mp ha with ha | ha
   ·exact m.xp a ha b hb
   ·exact h a ha b hb⟩
 ·rw [e,ό]
  refine iK ?_ m.all
  rw [ό]
  exact nR.append_left X
theorem Mg.endA (m:Mg key L X P Y) (h:Le2 key P Y) {r:Array ω}(e:r.toList=X++P++Y):Ok key L r:=by
 refine ⟨?_,by rw [e];exact m.all⟩
 rw [e]
 exact ϳ.mpr ⟨ϳ.mpr ⟨m.x,m.p,m.xp⟩,m.y,fun a ha b hb=>by
  rcases Λ.mp ha with ha | ha
  ·exact m.xy a ha b hb
  ·exact h a ha b hb⟩
end
noncomputable def qe:Array ω->Array ω->StateT Κ Sem (Array ω):=sortPriv% PySem.Builtin.mergeLo
noncomputable def setG (g:Nat):StateT Κ Sem Unit:=modify fun st=>ik (kindOf st) (ψ st) (bx st) g (dG st)
noncomputable abbrev R6:=Option (Array ω)×Array ω×Nat×Nat×Nat×Nat×Nat
noncomputable abbrev R5:=Option (Array ω)×Array ω×Nat×Nat×Nat×Nat
section
variable (a b o:Array ω) (i j mg ac bc:Nat)
noncomputable def l4:StateT Κ Sem (ForInStep R6):=do
 let x <- dY a i
 if i+1+1==a.size then pure (.done (some (o.push x++b.extract j b.size++a.extract (i+1) a.size),o.push x,i+1,j,mg,ac,bc))
 else if ac < 7&&bc < 7 then pure (.done (none,o.push x,i+1,j,mg,ac,bc))
 else pure (.yield (none,o.push x,i+1,j,mg,ac,bc))
noncomputable def l3:StateT Κ Sem (ForInStep R6):=do
 let x <- dY a i
 let r <- yp true x b j (b.size - j) 0
 match r with
 | some k=>
  if k > 0 then
   if j+k==b.size then pure (.done (some (o++b.extract j (j+k)++a.extract i a.size++b.extract (j+k) b.size),o++b.extract j (j+k),i,j+k,mg,ac,k))
   else l4 a b (o++b.extract j (j+k)) i (j+k) mg ac k
  else l4 a b o i j mg ac k
 | _=>pure (.done (some (o++a.extract i a.size++b.extract j b.size),o,i,j,mg,ac,bc))
noncomputable def l2:StateT Κ Sem (ForInStep R6):=do
 let x <- dY b j
 if j+1==b.size then pure (.done (some (o.push x++a.extract i a.size++b.extract (j+1) b.size),o.push x,i,j+1,mg,ac,bc))
 else l3 a b (o.push x) i (j+1) mg ac bc
noncomputable def l1:StateT Κ Sem (ForInStep R6):=do
 setG mg
 let x <- dY b j
 let r <- yp false x a i (a.size - i) 0
 match r with
 | some k=>
  if k > 0 then
   if i+k+1==a.size then pure (.done (some (o++a.extract i (i+k)++b.extract j b.size++a.extract (i+k) a.size),o++a.extract i (i+k),i+k,j,mg,k,bc))
   else if i+k==a.size then pure (.done (some (o++a.extract i (i+k)++a.extract (i+k) a.size++b.extract j b.size),o++a.extract i (i+k),i+k,j,mg,k,bc))
   else l2 a b (o++a.extract i (i+k)) (i+k) j mg k bc
  else l2 a b o i j mg k bc
 | _=>pure (.done (some (o++a.extract i a.size++b.extract j b.size),o,i,j,mg,ac,bc))
noncomputable def l0:StateT Κ Sem (ForInStep R6):=if mg > 1 then l1 a b o i j (mg - 1) ac bc else l1 a b o i j mg ac bc
noncomputable def lo1:StateT Κ Sem (ForInStep R5):=do
 let y <- dY b j
 let x <- dY a i
 let r <- lt' y x
 match r with
 | some w=>
  if w then do
   let y <- dY b j
   if j+1==b.size then pure (.done (some (o.push y++a.extract i a.size++b.extract (j+1) b.size),o.push y,i,j+1,0,bc+1))
   else if bc+1 >= mg then pure (.done (none,o.push y,i,j+1,0,bc+1))
   else pure (.yield (none,o.push y,i,j+1,0,bc+1))
  else do
   let x <- dY a i
   if i+1+1==a.size then pure (.done (some (o.push x++b.extract j b.size++a.extract (i+1) a.size),o.push x,i+1,j,ac+1,0))
   else if ac+1 >= mg then pure (.done (none,o.push x,i+1,j,ac+1,0))
   else pure (.yield (none,o.push x,i+1,j,ac+1,0))
 | _=>pure (.done (some (o++a.extract i a.size++b.extract j b.size),o,i,j,ac,bc))
end
theorem ie {α:Type}{c:Prop} [Decidable c] {x y y':StateT Κ Sem α}(h:y=y'):(if c then x else y)=(if c then x else y'):=by rw [h]
theorem fi {β:Type}{r:Std.Legacy.Range}{i:β}{f f':Nat->β->StateT Κ Sem (ForInStep β)}(h:∀ x c,f x c=f' x c):forIn r i f=forIn r i f':=by
 rw [show f=f' from funext fun x=>funext fun c=>h x c]
theorem YQ (a b:Array ω):qe a b=(do
 rule "list.sort.merge-lo"
 let most:=a.size+b.size
 let y <- dY b 0
 if 1==b.size then return #[y]++a.extract 0 a.size++b.extract 1 b.size
 if 0+1==a.size then return #[y]++b.extract 1 b.size++a.extract 0 a.size
 let st <- get
 let c <- forIn [0:most] ((none,#[y],0,1,gallopOf st):Option (Array ω)×Array ω×Nat×Nat×Nat) fun _ c=>do
  let d <- forIn [0:most] ((none,c.2.1,c.2.2.1,c.2.2.2.1,0,0):R5) fun _ d=>lo1 a b d.2.1 d.2.2.1 d.2.2.2.1 c.2.2.2.2 d.2.2.2.2.1 d.2.2.2.2.2
  match d.1 with
  | some r=>pure (Ϡ (some r,d.2.1,d.2.2.1,d.2.2.2.1,c.2.2.2.2))
  | none=>do
   liftM (rule "list.sort.gallop")
   let f <- forIn [0:most] ((none,d.2.1,d.2.2.1,d.2.2.2.1,c.2.2.2.2+1,d.2.2.2.2.1,d.2.2.2.2.2):R6) fun _ f=>l0 a b f.2.1 f.2.2.1 f.2.2.2.1 f.2.2.2.2.1 f.2.2.2.2.2.1 f.2.2.2.2.2.2
   match f.1 with
   | some r=>pure (Ϡ (some r,f.2.1,f.2.2.1,f.2.2.2.1,f.2.2.2.2.1))
   | none=>do
    setG (f.2.2.2.2.1+1)
    pure (ϥ (none,f.2.1,f.2.2.1,f.2.2.2.1,f.2.2.2.2.1+1))
 match c.1 with
 | some r=>pure r
 | none=>mL "internal:list.sort.merge-bound"):=by
 refine bd rfl fun _=>bd rfl fun y=>ie (ie (bd rfl fun st=>bd (fi fun _ c=>bd rfl fun d=>?_) fun c=>?_))
 ·obtain ⟨r,d⟩:=d
  cases r with
  | some r=>rfl
  | none=>
   refine bd rfl fun _=>bd rfl fun f=>?_
   obtain ⟨r,f⟩:=f
   cases r <;> rfl
 ·obtain ⟨r,c⟩:=c
  cases r <;> rfl
section
variable {ar:Array ω}{pd:Array (Nat×Nat×Nat)}
theorem vP (a:Array ω) (i k:Nat):(a.extract i (i+k)).toList=(a.toList.drop i).take k:=by
 rw [eE,cZ,show i+k - i=k by lia]
theorem Z2 (a:Array ω) (i:Nat):(a.extract i a.size).toList=a.toList.drop i:=by
 rw [eE,cZ,dN (by simp)]
theorem Xg {a:Array ω}{i:Nat}{x:ω}(e:a[i]?=some x):a.toList.drop i=x::a.toList.drop (i+1):=by
 have h:i < a.size:=by
  rcases Nat.lt_or_ge i a.size with h | h
  ·exact h
  ·rw [nA h] at e;cases e
 have e2:a[i]=x:=by rw [getElem?_pos a i h] at e;exact ϛ e
 rw [c7 (by simpa using h)]
 simp [e2]
theorem zL {a:Array ω}{i:Nat}(h:i < a.size):∃ x,a[i]?=some x/\x∈a.toList/\kk key a i=key x:=by
 have e:=getElem?_pos a i h
 exact ⟨_,e,by simp,by unfold kk;rw [e];rfl⟩
theorem ZG {a:Array ω}{i:Nat}{x:ω}(h:x∈a.toList.drop i):∃ t,i<=t/\t < a.size/\kk key a t=key x:=by
 obtain ⟨t,ht,e⟩:=gO.mp h
 have ht':i+t < a.size:=by simp at ht;lia
 refine ⟨i+t,by lia,ht',?_⟩
 unfold kk
 rw [getElem?_pos a (i+t) ht',<- e]
 simp
theorem Wo {a:Array ω}{i k:Nat}{x:ω}(h:x∈(a.toList.drop i).take k):∃ t,i<=t/\t < i+k/\t < a.size/\kk key a t=key x:=by
 obtain ⟨t,ht,e⟩:=gO.mp h
 have ht1:t < k/\i+t < a.size:=by simp at ht;lia
 refine ⟨i+t,by lia,by lia,ht1.2,?_⟩
 unfold kk
 rw [getElem?_pos a (i+t) ht1.2,<- e]
 simp
theorem yt {a:Array ω}(h:Up key a.toList) {i n:Nat}(hn:i+n<=a.size):Srt key a i (i+n):=fun t u h1 h2 h3=>by
 by_cases e:t=u
 ·rw [e];exact aR _
 ·have:=fH.mp h t u (by simp;lia) (by simp;lia) (by lia)
  unfold kk
  rw [getElem?_pos a t (by lia),getElem?_pos a u (by lia)]
  simpa using this
structure Pr (key:ω->O.α) (G:ω->Prop) (a b:Array ω):Prop where
 ga:∀ x∈a.toList,G x
 gb:∀ x∈b.toList,G x
 sa:Up key a.toList
 sb:Up key b.toList
 last:∀ i x,i+1=a.size->a[i]?=some x->∀ y∈b.toList,O.kle (key y) (key x)
structure In (key:ω->O.α) (a b:Array ω) (R:Nat) (o:Array ω) (i j:Nat):Prop where
 m:Mg key (a.toList++b.toList) o.toList (a.toList.drop i) (b.toList.drop j)
 hi:i+1 < a.size
 hj:j < b.size
 r:a.size - i+(b.size - j)<=R
variable {a b o:Array ω}{i j R:Nat}
theorem qF (p:Pr key G a b) (m:Mg key (a.toList++b.toList) o.toList (a.toList.drop i) (b.toList.drop j)) (e:i+1=a.size):Ok key (a.toList++b.toList) (o++b.extract j b.size++a.extract i a.size):=by
 refine m.endB (fun y hy x hx=>?_) (by rw [ϭ,ϭ,Z2,Z2])
 obtain ⟨z,e1,e2,e3⟩:=zL (key:=key) (a:=a) (i:=i) (by lia)
 rw [Xg e1,dO (by simp;lia),υ] at hx
 subst hx
 exact p.last i x e e1 y (gM hy)
theorem u0 (m:Mg key (a.toList++b.toList) o.toList (a.toList.drop i) (b.toList.drop j)) (e:j=b.size\/i=a.size):Ok key (a.toList++b.toList) (o++a.extract i a.size++b.extract j b.size):=by
 refine m.endA (fun x hx y hy=>?_) (by rw [ϭ,ϭ,Z2,Z2])
 rcases e with e | e
 ·rw [dO (by simp;lia)] at hy;cases hy
 ·rw [dO (by simp;lia)] at hx;cases hx
theorem pushB (m:Mg key (a.toList++b.toList) o.toList (a.toList.drop i) (b.toList.drop j)) {y:ω}(e:b[j]?=some y) (h:∀ t,i<=t->t < a.size->O.kle (key y) (kk key a t)):Mg key (a.toList++b.toList) (o.push y).toList (a.toList.drop i) (b.toList.drop (j+1)):=by
 rw [Xg e] at m
 rw [cD]
 refine Mg.takeB (Y1:=[y]) m fun u hu v hv=>?_
 rw [υ.mp hu]
 obtain ⟨t,t1,t2,t3⟩:=ZG (key:=key) hv
 rw [<- t3];exact h t t1 t2
theorem pushA (m:Mg key (a.toList++b.toList) o.toList (a.toList.drop i) (b.toList.drop j)) {x:ω}(e:a[i]?=some x) (h:∀ t,j<=t->t < b.size->O.kle (key x) (kk key b t)):Mg key (a.toList++b.toList) (o.push x).toList (a.toList.drop (i+1)) (b.toList.drop j):=by
 rw [Xg e] at m
 rw [cD]
 refine Mg.takeA (P1:=[x]) m fun u hu v hv=>?_
 rw [υ.mp hu]
 obtain ⟨t,t1,t2,t3⟩:=ZG (key:=key) hv
 rw [<- t3];exact h t t1 t2
theorem cutA (m:Mg key (a.toList++b.toList) o.toList (a.toList.drop i) (b.toList.drop j)) {k:Nat}(h:∀ t u,i<=t->t < i+k->t < a.size->j<=u->u < b.size->O.kle (kk key a t) (kk key b u)):Mg key (a.toList++b.toList) (o++a.extract i (i+k)).toList (a.toList.drop (i+k)) (b.toList.drop j):=by
 rw [ϭ,vP,<- gP]
 refine Mg.takeA (by rw [bF];exact m) fun u hu v hv=>?_
 obtain ⟨t,t1,t2,t3,t4⟩:=Wo (key:=key) hu
 obtain ⟨w,w1,w2,w3⟩:=ZG (key:=key) hv
 rw [<- t4,<- w3];exact h t w t1 t2 t3 w1 w2
theorem cutB (m:Mg key (a.toList++b.toList) o.toList (a.toList.drop i) (b.toList.drop j)) {k:Nat}(h:∀ t u,j<=t->t < j+k->t < b.size->i<=u->u < a.size->O.kle (kk key b t) (kk key a u)):Mg key (a.toList++b.toList) (o++b.extract j (j+k)).toList (a.toList.drop i) (b.toList.drop (j+k)):=by
 rw [ϭ,vP,<- gP]
 refine Mg.takeB (by rw [bF];exact m) fun u hu v hv=>?_
 obtain ⟨t,t1,t2,t3,t4⟩:=Wo (key:=key) hu
 obtain ⟨w,w1,w2,w3⟩:=ZG (key:=key) hv
 rw [<- t4,<- w3];exact h t w t1 t2 t3 w1 w2
end
section
variable {ar:Array ω}{pd:Array (Nat×Nat×Nat)}{a b o:Array ω}{i j R:Nat}
theorem kI {st:Κ}(d:Sd kd ar pd st) {g:Nat}{Q:Unit->Κ->Prop}(q:∀ st',Sd kd ar pd st'->Q () st'):wpS M A E s (setG g) Q st:=by
 unfold setG
 exact dj (q _ ⟨d.kind,d.failed,d.arr,d.pend⟩)
def Nx (key:ω->O.α) (kd:dH) (ar:Array ω) (pd:Array (Nat×Nat×Nat)) (a b:Array ω) (R:Nat) (c:ForInStep R6) (st:Κ):Prop:=
 Sd kd ar pd st/\((∃ r z,c=.done (some r,z)/\Ok key (a.toList++b.toList) r)\/∃ o i j mg ac bc,In key a b R o i j/\(c=.done (none,o,i,j,mg,ac,bc)\/c=.yield (none,o,i,j,mg,ac,bc)))
theorem l4_ok (p:Pr key G a b) {st:Κ}(d:Sd kd ar pd st) {mg ac bc:Nat}(m:Mg key (a.toList++b.toList) o.toList (a.toList.drop i) (b.toList.drop j)) (hi:i+1 < a.size) (hj:j < b.size) (hr:a.size - i+(b.size - j)<=R+1) (h:∀ t,j<=t->t < b.size->O.kle (kk key a i) (kk key b t)):
  wpS M A E s (l4 a b o i j mg ac bc) (Nx key kd ar pd a b R) st:=by
 obtain ⟨x,e1,e2,e3⟩:=zL (key:=key) (a:=a) (i:=i) (by lia)
 have m2:=pushA m e1 fun t t1 t2=>by rw [<- e3];exact h t t1 t2
 unfold l4
 refine ο (zy e1 ?_)
 by_cases h1:i+1+1=a.size
 ·rw [if_pos (by simpa using h1)]
  exact Α ⟨d,.inl ⟨_,_,rfl,qF p m2 h1⟩⟩
 ·rw [if_neg (by simpa using h1)]
  have n:In key a b R (o.push x) (i+1) j:=⟨m2,by lia,hj,by lia⟩
  split
  ·exact Α ⟨d,.inr ⟨_,_,_,_,_,_,n,.inl rfl⟩⟩
  ·exact Α ⟨d,.inr ⟨_,_,_,_,_,_,n,.inr rfl⟩⟩
theorem l3_ok (L:LtOk O key G kd M A E s) (p:Pr key G a b) {st:Κ}(d:Sd kd ar pd st) {mg ac bc:Nat}(m:Mg key (a.toList++b.toList) o.toList (a.toList.drop i) (b.toList.drop j)) (hi:i+1 < a.size) (hj:j < b.size) (hr:a.size - i+(b.size - j)<=R+1):
  wpS M A E s (l3 a b o i j mg ac bc) (Nx key kd ar pd a b R) st:=by
 obtain ⟨x,e1,e2,e3⟩:=zL (key:=key) (a:=a) (i:=i) (by lia)
 have sa:=yt p.sa (i:=i) (n:=a.size - i) (by lia)
 unfold l3
 refine ο (zy e1 (ο (wp_gL L d (p.ga x e2) p.gb (by lia) (by lia) (yt p.sb (by lia)) fun k k1 k2 k3=>?_)))
 rw [show j+(b.size - j)=b.size by lia] at k3
 dsimp only
 by_cases h0:k > 0
 ·rw [if_pos h0]
  have m2:=cutB m (k:=k) fun t u t1 t2 t3 u1 u2=>ϑ (ϕ (k2 t t1 t2)) (by rw [<- e3];exact sa i u (π _) u1 (by lia))
  by_cases h1:j+k=b.size
  ·rw [if_pos (by simpa using h1)]
   exact Α ⟨d,.inl ⟨_,_,rfl,u0 m2 (.inl h1)⟩⟩
  ·rw [if_neg (by simpa using h1)]
   exact l4_ok p d m2 hi (by lia) (by lia) fun t t1 t2=>by rw [e3];exact k3 t t1 t2
 ·rw [if_neg h0]
  exact l4_ok p d m hi hj hr fun t t1 t2=>by rw [e3];exact k3 t (by lia) t2
theorem l2_ok (L:LtOk O key G kd M A E s) (p:Pr key G a b) {st:Κ}(d:Sd kd ar pd st) {mg ac bc:Nat}(m:Mg key (a.toList++b.toList) o.toList (a.toList.drop i) (b.toList.drop j)) (hi:i+1 < a.size) (hj:j < b.size) (hr:a.size - i+(b.size - j)<=R+2) (h:∀ t,i<=t->t < a.size->O.kle (kk key b j) (kk key a t)):
  wpS M A E s (l2 a b o i j mg ac bc) (Nx key kd ar pd a b R) st:=by
 obtain ⟨y,e1,e2,e3⟩:=zL (key:=key) (a:=b) (i:=j) hj
 have m2:=pushB m e1 fun t t1 t2=>by rw [<- e3];exact h t t1 t2
 unfold l2
 refine ο (zy e1 ?_)
 by_cases h1:j+1=b.size
 ·rw [if_pos (by simpa using h1)]
  exact Α ⟨d,.inl ⟨_,_,rfl,u0 m2 (.inl h1)⟩⟩
 ·rw [if_neg (by simpa using h1)]
  exact l3_ok L p d m2 hi (by lia) (by lia)
theorem l1_ok (L:LtOk O key G kd M A E s) (p:Pr key G a b) {st:Κ}(d:Sd kd ar pd st) {mg ac bc:Nat}(n:In key a b (R+2) o i j):wpS M A E s (l1 a b o i j mg ac bc) (Nx key kd ar pd a b R) st:=by
 obtain ⟨m,hi,hj,hr⟩:=n
 obtain ⟨y,e1,e2,e3⟩:=zL (key:=key) (a:=b) (i:=j) hj
 have sb:=yt p.sb (i:=j) (n:=b.size - j) (by lia)
 unfold l1
 refine ο (kI d fun st d=>ο (zy e1 (ο (wp_gR L d (p.gb y e2) p.ga (by lia) (by lia) (yt p.sa (by lia)) fun k k1 k2 k3=>?_))))
 rw [show i+(a.size - i)=a.size by lia] at k3
 dsimp only
 by_cases h0:k > 0
 ·rw [if_pos h0]
  have m2:=cutA m (k:=k) fun t u t1 t2 t3 u1 u2=>ϑ (k2 t t1 t2) (by rw [<- e3];exact sb j u (π _) u1 (by lia))
  by_cases h1:i+k+1=a.size
  ·rw [if_pos (by simpa using h1)]
   exact Α ⟨d,.inl ⟨_,_,rfl,qF p m2 h1⟩⟩
  ·rw [if_neg (by simpa using h1)]
   by_cases h2:i+k=a.size
   ·rw [if_pos (by simpa using h2)]
    exact Α ⟨d,.inl ⟨_,_,rfl,u0 m2 (.inr h2)⟩⟩
   ·rw [if_neg (by simpa using h2)]
    exact l2_ok L p d m2 (by lia) hj (by lia) fun t t1 t2=>by rw [e3];exact ϕ (k3 t t1 t2)
 ·rw [if_neg h0]
  exact l2_ok L p d m hi hj hr fun t t1 t2=>by rw [e3];exact ϕ (k3 t (by lia) t2)
theorem l0_ok (L:LtOk O key G kd M A E s) (p:Pr key G a b) {st:Κ}(d:Sd kd ar pd st) {mg ac bc:Nat}(n:In key a b (R+2) o i j):wpS M A E s (l0 a b o i j mg ac bc) (Nx key kd ar pd a b R) st:=by
 unfold l0
 split <;> exact l1_ok L p d n
def N1 (key:ω->O.α) (kd:dH) (ar:Array ω) (pd:Array (Nat×Nat×Nat)) (a b:Array ω) (R:Nat) (c:ForInStep R5) (st:Κ):Prop:=
 Sd kd ar pd st/\((∃ r z,c=.done (some r,z)/\Ok key (a.toList++b.toList) r)\/∃ o i j ac bc,In key a b R o i j/\(c=.done (none,o,i,j,ac,bc)\/c=.yield (none,o,i,j,ac,bc)))
theorem zeq (L:LtOk O key G kd M A E s) (p:Pr key G a b) {st:Κ}(d:Sd kd ar pd st) {mg ac bc:Nat}(n:In key a b (R+1) o i j):wpS M A E s (lo1 a b o i j mg ac bc) (N1 key kd ar pd a b R) st:=by
 obtain ⟨m,hi,hj,hr⟩:=n
 obtain ⟨y,e1,e2,e3⟩:=zL (key:=key) (a:=b) (i:=j) hj
 obtain ⟨x,f1,f2,f3⟩:=zL (key:=key) (a:=a) (i:=i) (by omega)
 have sb:=yt p.sb (i:=j) (n:=b.size - j) (by omega)
 have sa:=yt p.sa (i:=i) (n:=a.size - i) (by omega)
 unfold lo1
 refine ο (zy e1 (ο (zy f1 (ο (L y x st _ (p.gb y e2) (p.ga x f2) d.kind ?_)))))
 dsimp only
 cases hb:O.blt (key y) (key x) with
 | true=>
  rw [if_pos rfl]
  refine ο (zy e1 ?_)
  have m2:=pushB m e1 fun t t1 t2=>ϑ (ϕ hb) (by rw [<- f3];exact sa i t (π _) t1 (by omega))
  by_cases h1:j+1=b.size
  ·rw [if_pos (by simpa using h1)]
   exact Α ⟨d,.inl ⟨_,_,rfl,u0 m2 (.inl h1)⟩⟩
  ·rw [if_neg (by simpa using h1)]
   have n:In key a b R (o.push y) i (j+1):=⟨m2,hi,by omega,by omega⟩
   split
   ·exact Α ⟨d,.inr ⟨_,_,_,_,_,n,.inl rfl⟩⟩
   ·exact Α ⟨d,.inr ⟨_,_,_,_,_,n,.inr rfl⟩⟩
 | false=>
  rw [if_neg (by decide)]
  refine ο (zy f1 ?_)
  have m2:=pushA m f1 fun t t1 t2=>ϑ hb (by rw [<- e3];exact sb j t (π _) t1 (by omega))
  by_cases h1:i+1+1=a.size
  ·rw [if_pos (by simpa using h1)]
   exact Α ⟨d,.inl ⟨_,_,rfl,qF p m2 h1⟩⟩
  ·rw [if_neg (by simpa using h1)]
   have n:In key a b R (o.push x) (i+1) j:=⟨m2,by omega,hj,by omega⟩
   split
   ·exact Α ⟨d,.inr ⟨_,_,_,_,_,n,.inl rfl⟩⟩
   ·exact Α ⟨d,.inr ⟨_,_,_,_,_,n,.inr rfl⟩⟩
end
section
variable {ar:Array ω}{pd:Array (Nat×Nat×Nat)}{a b o:Array ω}{i j R R':Nat}
theorem In.mono (n:In key a b R o i j) (h:R<=R'):In key a b R' o i j:=⟨n.m,n.hi,n.hj,ϣ n.r h⟩
theorem In.big (n:In key a b R o i j):3<=R:=by
 have:=n.hi;have:=n.hj;have:=n.r
 lia
theorem zcY (L:LtOk O key G kd M A E s) (p:Pr key G a b) {st:Κ}(d:Sd kd ar pd st) (ha:1<=a.size) (hb:1<=b.size) (h0:∀ t,t < a.size->O.kle (kk key b 0) (kk key a t)) {Q:Array ω->Κ->Prop}
  (q:∀ r st',Sd kd ar pd st'->Ok key (a.toList++b.toList) r->Q r st'):wpS M A E s (qe a b) Q st:=by
 obtain ⟨y,e1,e2,e3⟩:=zL (key:=key) (a:=b) (i:=0) hb
 have m0:Mg key (a.toList++b.toList) (#[]:Array ω).toList (a.toList.drop 0) (b.toList.drop 0):=
  ⟨eO,p.sa,p.sb,(fun x h=>nomatch h),(fun x h=>nomatch h),bw _⟩
 have m1:=pushB m0 e1 fun t _ t2=>by rw [<- e3];exact h0 t t2
 rw [YQ]
 refine ο (fU (aB ⟨rfl,?_⟩))
 refine ο (zy e1 ?_)
 by_cases h1:1=b.size
 ·rw [if_pos (by simpa using h1)]
  exact Α (q _ _ d (u0 (o:=#[y]) (i:=0) (j:=1) m1 (.inl h1)))
 rw [if_neg (by simpa using h1)]
 by_cases h2:0+1=a.size
 ·rw [if_pos (by simpa using h2)]
  exact Α (q _ _ d (qF (o:=#[y]) (i:=0) (j:=1) p m1 h2))
 rw [if_neg (by simpa using h2)]
 refine ο (dJ ?_)
 refine ο (aX (ϫ (I:=fun x c st'=>Sd kd ar pd st'/\∃ o i j mg,c=(none,o,i,j,mg)/\In key a b (a.size+b.size - x) o i j) (Q:=fun c st'=>Sd kd ar pd st'/\∃ r z,c=(some r,z)/\Ok key (a.toList++b.toList) r) ?_ ?_ ⟨d,#[y],0,1,_,rfl,⟨m1,by omega,by omega,by omega⟩⟩) ?_)
 ·rintro x c st1 _ hx ⟨d1,o,i,j,mg,rfl,n⟩
  dsimp only
  have hR:=n.big
  generalize hRR:a.size+b.size - x=R at n hR
  refine ο (aX (ϫ (I:=fun _ c st'=>Sd kd ar pd st'/\∃ o i j ac bc,c=(none,o,i,j,ac,bc)/\In key a b R o i j) (Q:=fun c st'=>Sd kd ar pd st'/\((∃ r z,c=(some r,z)/\Ok key (a.toList++b.toList) r)\/∃ o i j ac bc,c=(none,o,i,j,ac,bc)/\In key a b R o i j)) ?_ ?_ ⟨d1,o,i,j,0,0,rfl,n⟩) ?_)
  ·rintro _ c st2 _ _ ⟨d2,o,i,j,ac,bc,rfl,n⟩
   refine aX (zeq (R:=R - 1) L p d2 (n.mono (by omega))) ?_
   rintro f st3 ⟨d3,⟨r,z,rfl,ok⟩ | ⟨o,i,j,ac,bc,n,rfl | rfl⟩⟩
   ·exact ⟨d3,.inl ⟨r,z,rfl,ok⟩⟩
   ·exact ⟨d3,.inr ⟨o,i,j,ac,bc,rfl,n.mono (by omega)⟩⟩
   ·exact ⟨d3,o,i,j,ac,bc,rfl,n.mono (by omega)⟩
  ·rintro c st2 ⟨d2,h⟩
   exact ⟨d2,.inr h⟩
  ·rintro c st2 ⟨d2,⟨r,z,rfl,ok⟩ | ⟨o,i,j,ac,bc,rfl,n⟩⟩
   ·exact Α ⟨d2,r,_,rfl,ok⟩
   ·dsimp only
    refine ο (fU (aB ⟨rfl,?_⟩))
    refine ο (aX (ϫ (I:=fun y c st'=>Sd kd ar pd st'/\∃ o i j mg ac bc,c=(none,o,i,j,mg,ac,bc)/\In key a b (if y=0 then R else R - 1) o i j) (Q:=fun c st'=>Sd kd ar pd st'/\((∃ r z,c=(some r,z)/\Ok key (a.toList++b.toList) r)\/∃ o i j mg ac bc,c=(none,o,i,j,mg,ac,bc)/\In key a b (R - 1) o i j)) ?_ ?_ ⟨d2,o,i,j,_,_,_,rfl,n⟩) ?_)
    ·rintro y c st3 _ _ ⟨d3,o,i,j,mg,ac,bc,rfl,n⟩
     have nb:=n.big
     have hle:(if y=0 then R else R - 1)<=R:=by split <;> omega
     rw [if_neg (by omega:¬ y+1=0)]
     refine aX (l0_ok (R:=(if y=0 then R else R - 1) - 2) L p d3 (n.mono (by omega))) ?_
     rintro f st4 ⟨d4,⟨r,z,rfl,ok⟩ | ⟨o,i,j,mg,ac,bc,n,rfl | rfl⟩⟩
     ·exact ⟨d4,.inl ⟨r,z,rfl,ok⟩⟩
     ·exact ⟨d4,.inr ⟨o,i,j,mg,ac,bc,rfl,n.mono (by omega)⟩⟩
     ·exact ⟨d4,o,i,j,mg,ac,bc,rfl,n.mono (by omega)⟩
    ·rintro c st3 ⟨d3,o,i,j,mg,ac,bc,rfl,n⟩
     rw [if_neg (by omega:¬ max 0 (a.size+b.size)=0)] at n
     exact ⟨d3,.inr ⟨o,i,j,mg,ac,bc,rfl,n⟩⟩
    ·rintro c st3 ⟨d3,⟨r,z,rfl,ok⟩ | ⟨o,i,j,mg,ac,bc,rfl,n⟩⟩
     ·exact Α ⟨d3,r,_,rfl,ok⟩
     ·dsimp only
      refine ο (kI d3 fun st4 d4=>Α ⟨d4,o,i,j,_,rfl,n.mono (by omega)⟩)
 ·rintro c st1 ⟨d1,o,i,j,mg,rfl,n⟩
  have:=n.big
  omega
 ·rintro c st1 ⟨d1,r,z,rfl,ok⟩
  exact Α (q r st1 d1 ok)
end
noncomputable def qg:Array ω->Array ω->StateT Κ Sem (Array ω):=sortPriv% PySem.Builtin.mergeHi
noncomputable abbrev H6:=Option (Array ω)×Nat×Nat×Array ω×Nat×Nat×Nat
noncomputable abbrev H5:=Option (Array ω)×Nat×Nat×Array ω×Nat×Nat
section
variable (a b o:Array ω) (i j mg ac bc:Nat)
noncomputable abbrev dn:Array ω:=a.extract 0 i++b.extract 0 j++o.reverse
noncomputable abbrev fb:Array ω:=b.extract 0 j++a.extract 0 i++o.reverse
noncomputable def h4:StateT Κ Sem (ForInStep H6):=do
 let x <- dY a (i - 1)
 if i - 1==0 then pure (.done (some (dn a b (o.push x) (i - 1) j),i - 1,j,o.push x,mg,ac,bc))
 else if ac < 7&&bc < 7 then pure (.done (none,i - 1,j,o.push x,mg,ac,bc))
 else pure (.yield (none,i - 1,j,o.push x,mg,ac,bc))
noncomputable def h3:StateT Κ Sem (ForInStep H6):=do
 let x <- dY a (i - 1)
 let r <- yp true x b 0 j (j - 1)
 match r with
 | some t=>
  if j - t > 0 then
   if t==1 then pure (.done (some (fb a b (o++(b.extract t j).reverse) i t),i,t,o++(b.extract t j).reverse,mg,ac,j - t))
   else if t==0 then pure (.done (some (dn a b (o++(b.extract t j).reverse) i t),i,t,o++(b.extract t j).reverse,mg,ac,j - t))
   else h4 a b (o++(b.extract t j).reverse) i t mg ac (j - t)
  else h4 a b o i j mg ac (j - t)
 | _=>pure (.done (some (dn a b o i j),i,j,o,mg,ac,bc))
noncomputable def h2:StateT Κ Sem (ForInStep H6):=do
 let y <- dY b (j - 1)
 if j - 1==1 then pure (.done (some (fb a b (o.push y) i (j - 1)),i,j - 1,o.push y,mg,ac,bc))
 else h3 a b (o.push y) i (j - 1) mg ac bc
noncomputable def h1:StateT Κ Sem (ForInStep H6):=do
 setG mg
 let y <- dY b (j - 1)
 let r <- yp false y a 0 i (i - 1)
 match r with
 | some t=>
  if i - t > 0 then
   if t==0 then pure (.done (some (dn a b (o++(a.extract t i).reverse) t j),t,j,o++(a.extract t i).reverse,mg,i - t,bc))
   else h2 a b (o++(a.extract t i).reverse) t j mg (i - t) bc
  else h2 a b o i j mg (i - t) bc
 | _=>pure (.done (some (dn a b o i j),i,j,o,mg,ac,bc))
noncomputable def h0:StateT Κ Sem (ForInStep H6):=if mg > 1 then h1 a b o i j (mg - 1) ac bc else h1 a b o i j mg ac bc
noncomputable def hi1:StateT Κ Sem (ForInStep H5):=do
 let y <- dY b (j - 1)
 let x <- dY a (i - 1)
 let r <- lt' y x
 match r with
 | some w=>
  if w then do
   let x <- dY a (i - 1)
   if i - 1==0 then pure (.done (some (dn a b (o.push x) (i - 1) j),i - 1,j,o.push x,ac+1,0))
   else if ac+1 >= mg then pure (.done (none,i - 1,j,o.push x,ac+1,0))
   else pure (.yield (none,i - 1,j,o.push x,ac+1,0))
  else do
   let y <- dY b (j - 1)
   if j - 1==1 then pure (.done (some (fb a b (o.push y) i (j - 1)),i,j - 1,o.push y,0,bc+1))
   else if bc+1 >= mg then pure (.done (none,i,j - 1,o.push y,0,bc+1))
   else pure (.yield (none,i,j - 1,o.push y,0,bc+1))
 | _=>pure (.done (some (dn a b o i j),i,j,o,ac,bc))
end
theorem YS (a b:Array ω):qg a b=(do
 rule "list.sort.merge-hi"
 let most:=a.size+b.size
 let x <- dY a (a.size - 1)
 if a.size - 1==0 then return dn a b #[x] (a.size - 1) b.size
 if b.size==1 then return fb a b #[x] (a.size - 1) b.size
 let st <- get
 let c <- forIn [0:most] ((none,a.size - 1,b.size,#[x],gallopOf st):Option (Array ω)×Nat×Nat×Array ω×Nat) fun _ c=>do
  let d <- forIn [0:most] ((none,c.2.1,c.2.2.1,c.2.2.2.1,0,0):H5) fun _ d=>hi1 a b d.2.2.2.1 d.2.1 d.2.2.1 c.2.2.2.2 d.2.2.2.2.1 d.2.2.2.2.2
  match d.1 with
  | some r=>pure (Ϡ (some r,d.2.1,d.2.2.1,d.2.2.2.1,c.2.2.2.2))
  | none=>do
   liftM (rule "list.sort.gallop")
   let f <- forIn [0:most] ((none,d.2.1,d.2.2.1,d.2.2.2.1,c.2.2.2.2+1,d.2.2.2.2.1,d.2.2.2.2.2):H6) fun _ f=>h0 a b f.2.2.2.1 f.2.1 f.2.2.1 f.2.2.2.2.1 f.2.2.2.2.2.1 f.2.2.2.2.2.2
   match f.1 with
   | some r=>pure (Ϡ (some r,f.2.1,f.2.2.1,f.2.2.2.1,f.2.2.2.2.1))
   | none=>do
    setG (f.2.2.2.2.1+1)
    pure (ϥ (none,f.2.1,f.2.2.1,f.2.2.2.1,f.2.2.2.2.1+1))
 match c.1 with
 | some r=>pure r
 | none=>mL "internal:list.sort.merge-bound"):=by
 refine bd rfl fun _=>bd rfl fun y=>ie (ie (bd rfl fun st=>bd (fi fun _ c=>bd rfl fun d=>?_) fun c=>?_))
 ·obtain ⟨r,d⟩:=d
  cases r with
  | some r=>rfl
  | none=>
   refine bd rfl fun _=>bd rfl fun f=>?_
   obtain ⟨r,f⟩:=f
   cases r <;> rfl
 ·obtain ⟨r,c⟩:=c
  cases r <;> rfl
noncomputable def du (O:Ϝ):Ϝ:=⟨O.α,fun x y=>O.blt y x,O.irrefl,fun a b c h1 h2=>O.trans c b a h2 h1,fun a b c h=>(O.negTrans c b a h).symm,fun a b h1 h2=>O.total a b h2 h1⟩
section
variable {ar:Array ω}{pd:Array (Nat×Nat×Nat)}{a b o:Array ω}{i j R:Nat}{L:List ω}
abbrev Mh (key:ω->O.α) (L:List ω) (a b o:Array ω) (i j:Nat):Prop:=Mg (O:=du O) key L o.toList (a.toList.take i).reverse (b.toList.take j).reverse
theorem vO {i:Nat}{x:ω}(h:x∈(a.toList.take i).reverse):∃ t,t < i/\t < a.size/\kk key a t=key x:=by
 rw [fZ] at h
 obtain ⟨t,ht,e⟩:=gO.mp h
 have ht1:t < i/\t < a.size:=by simp at ht;lia
 refine ⟨t,ht1.1,ht1.2,?_⟩
 unfold kk
 rw [getElem?_pos a t ht1.2,<- e]
 simp
theorem Xe (a:Array ω) (i:Nat):(a.extract 0 i).toList=a.toList.take i:=by
 rw [eE,cZ,mj,Nat.sub_zero]
theorem V9 {i:Nat}{x:ω}(h:1<=i) (e:a[i - 1]?=some x):(a.toList.take i).reverse=x::(a.toList.take (i - 1)).reverse:=by
 obtain ⟨i,rfl⟩:∃ k,i=k+1:=⟨i - 1,by lia⟩
 have e:a[i]?=some x:=e
 have e2:a.toList[i]?=some x:=by simpa using e
 rw [List.take_succ,e2,eX]
 rfl
theorem zaq {i t:Nat}(h:t<=i):(a.toList.take i).reverse=(a.extract t i).reverse.toList++(a.toList.take t).reverse:=by
 rw [bK,eE,cZ,<- eX]
 congr 1
 have:=bF t (a.toList.take i)
 rw [List.take_take,show min t i=t by lia,List.drop_take] at this
 exact this.symm
theorem Jp {i t:Nat}{x:ω}(h:t<=i) (hx:x∈(a.extract t i).reverse.toList):∃ u,t<=u/\u < i/\u < a.size/\kk key a u=key x:=by
 rw [bK,fZ,show i=t+(i - t) by lia,vP] at hx
 obtain ⟨u,u1,u2,u3,u4⟩:=Wo (key:=key) hx
 exact ⟨u,u1,by lia,u3,u4⟩
theorem Mh.fin {r:Array ω}(h:Up (O:=du O) key r.toList.reverse/\r.toList.reverse.Perm L):Ok key L r:=
 ⟨(gA.mp h.1).imp fun h=>h,(iZ _).symm.trans h.2⟩
theorem endD (m:Mh key L a b o i j) (e:i=0\/j=0):Ok key L (dn a b o i j):=by
 refine Mh.fin (r:=dn a b o i j) ?_
 have:=m.endB (r:=(dn a b o i j).reverse) (fun y hy x hx=>by
  rcases e with rfl | rfl
  ·rw [List.take_zero] at hx;cases hx
  ·rw [List.take_zero] at hy;cases hy) (by
  simp only [bK,ϭ,Xe,eX,nW,ό])
 rw [<- bK];exact this
theorem endF (m:Mh key L a b o i j) (h:∀ t u,t < i->t < a.size->u < j->u < b.size->O.kle (kk key b u) (kk key a t)):Ok key L (fb a b o i j):=by
 refine Mh.fin (r:=fb a b o i j) ?_
 have:=m.endA (r:=(fb a b o i j).reverse) (fun x hx y hy=>by
  obtain ⟨t,t1,t2,t3⟩:=vO (key:=key) hx
  obtain ⟨u,u1,u2,u3⟩:=vO (key:=key) hy
  rw [<- t3,<- u3]
  exact h t u t1 t2 u1 u2) (by
  simp only [bK,ϭ,Xe,eX,nW,ό])
 rw [<- bK];exact this
theorem puA (m:Mh key L a b o i j) (h1:1<=i) {x:ω}(e:a[i - 1]?=some x) (h:∀ t,t < j->t < b.size->O.kle (kk key b t) (key x)):Mh key L a b (o.push x) (i - 1) j:=by
 unfold Mh at m ⊢
 rw [V9 h1 e] at m
 rw [cD]
 refine Mg.takeA (P1:=[x]) m fun u hu v hv=>?_
 rw [υ.mp hu]
 obtain ⟨t,t1,t2,t3⟩:=vO (key:=key) hv
 rw [<- t3];exact h t t1 t2
theorem puB (m:Mh key L a b o i j) (h1:1<=j) {y:ω}(e:b[j - 1]?=some y) (h:∀ t,t < i->t < a.size->O.kle (kk key a t) (key y)):Mh key L a b (o.push y) i (j - 1):=by
 unfold Mh at m ⊢
 rw [V9 h1 e] at m
 rw [cD]
 refine Mg.takeB (Y1:=[y]) m fun u hu v hv=>?_
 rw [υ.mp hu]
 obtain ⟨t,t1,t2,t3⟩:=vO (key:=key) hv
 rw [<- t3];exact h t t1 t2
theorem ctA (m:Mh key L a b o i j) {t:Nat}(ht:t<=i) (h:∀ u v,t<=u->u < i->u < a.size->v < j->v < b.size->O.kle (kk key b v) (kk key a u)):Mh key L a b (o++(a.extract t i).reverse) t j:=by
 unfold Mh at m ⊢
 rw [zaq ht] at m
 rw [ϭ]
 refine Mg.takeA m fun u hu v hv=>?_
 obtain ⟨t,t1,t2,t3,t4⟩:=Jp (key:=key) ht hu
 obtain ⟨w,w1,w2,w3⟩:=vO (key:=key) hv
 rw [<- t4,<- w3];exact h t w t1 t2 t3 w1 w2
theorem ctB (m:Mh key L a b o i j) {t:Nat}(ht:t<=j) (h:∀ u v,t<=u->u < j->u < b.size->v < i->v < a.size->O.kle (kk key a v) (kk key b u)):Mh key L a b (o++(b.extract t j).reverse) i t:=by
 unfold Mh at m ⊢
 rw [zaq ht] at m
 rw [ϭ]
 refine Mg.takeB m fun u hu v hv=>?_
 obtain ⟨t,t1,t2,t3,t4⟩:=Jp (key:=key) ht hu
 obtain ⟨w,w1,w2,w3⟩:=vO (key:=key) hv
 rw [<- t4,<- w3];exact h t w t1 t2 t3 w1 w2
end
section
variable {ar:Array ω}{pd:Array (Nat×Nat×Nat)}{a b o:Array ω}{i j R R':Nat}
structure Ph (key:ω->O.α) (G:ω->Prop) (a b:Array ω):Prop where
 ga:∀ x∈a.toList,G x
 gb:∀ x∈b.toList,G x
 sa:Up key a.toList
 sb:Up key b.toList
 first:∀ t,t < a.size->O.kle (kk key b 0) (kk key a t)
structure Ih (key:ω->O.α) (a b:Array ω) (R:Nat) (o:Array ω) (i j:Nat):Prop where
 m:Mh key (a.toList++b.toList) a b o i j
 i1:1<=i
 j2:2<=j
 hi:i<=a.size
 hj:j<=b.size
 r:i+j<=R
theorem Ih.mono (n:Ih key a b R o i j) (h:R<=R'):Ih key a b R' o i j:=⟨n.m,n.i1,n.j2,n.hi,n.hj,ϣ n.r h⟩
theorem Ih.big (n:Ih key a b R o i j):3<=R:=by
 have:=n.i1;have:=n.j2;have:=n.r
 lia
theorem endFb (p:Ph key G a b) (m:Mh key (a.toList++b.toList) a b o i 1):Ok key (a.toList++b.toList) (fb a b o i 1):=
 endF m fun t u t1 t2 u1 u2=>by
  obtain rfl:u=0:=by lia
  exact p.first t t2
def Hx (key:ω->O.α) (kd:dH) (ar:Array ω) (pd:Array (Nat×Nat×Nat)) (a b:Array ω) (R:Nat) (c:ForInStep H6) (st:Κ):Prop:=
 Sd kd ar pd st/\((∃ r z,c=.done (some r,z)/\Ok key (a.toList++b.toList) r)\/∃ o i j mg ac bc,Ih key a b R o i j/\(c=.done (none,i,j,o,mg,ac,bc)\/c=.yield (none,i,j,o,mg,ac,bc)))
theorem h4_ok {st:Κ}(d:Sd kd ar pd st) {mg ac bc:Nat}(m:Mh key (a.toList++b.toList) a b o i j) (i1:1<=i) (j2:2<=j) (hi:i<=a.size) (hj:j<=b.size) (hr:i+j<=R+1) (h:∀ t,t < j->t < b.size->O.kle (kk key b t) (kk key a (i - 1))):
  wpS M A E s (h4 a b o i j mg ac bc) (Hx key kd ar pd a b R) st:=by
 obtain ⟨x,e1,e2,e3⟩:=zL (key:=key) (a:=a) (i:=i - 1) (by lia)
 have m2:=puA m i1 e1 fun t t1 t2=>by rw [<- e3];exact h t t1 t2
 unfold h4
 refine ο (zy e1 ?_)
 by_cases h1:i - 1=0
 ·rw [if_pos (by simpa using h1)]
  exact Α ⟨d,.inl ⟨_,_,rfl,endD m2 (.inl h1)⟩⟩
 ·rw [if_neg (by simpa using h1)]
  have n:Ih key a b R (o.push x) (i - 1) j:=⟨m2,by lia,j2,by lia,hj,by lia⟩
  split
  ·exact Α ⟨d,.inr ⟨_,_,_,_,_,_,n,.inl rfl⟩⟩
  ·exact Α ⟨d,.inr ⟨_,_,_,_,_,_,n,.inr rfl⟩⟩
theorem h3_ok (L:LtOk O key G kd M A E s) (p:Ph key G a b) {st:Κ}(d:Sd kd ar pd st) {mg ac bc:Nat}(m:Mh key (a.toList++b.toList) a b o i j) (i1:1<=i) (j2:2<=j) (hi:i<=a.size) (hj:j<=b.size) (hr:i+j<=R+1):
  wpS M A E s (h3 a b o i j mg ac bc) (Hx key kd ar pd a b R) st:=by
 obtain ⟨x,e1,e2,e3⟩:=zL (key:=key) (a:=a) (i:=i - 1) (by lia)
 have sa:=yt p.sa (i:=0) (n:=a.size) (by lia)
 unfold h3
 refine ο (zy e1 (ο (wp_gL L d (p.ga x e2) p.gb (by lia) (by lia) (yt p.sb (by lia)) fun t k1 k2 k3=>?_)))
 dsimp only
 by_cases h0:j - t > 0
 ·rw [if_pos h0]
  have m2:=ctB m (t:=t) k1 fun u v t1 t2 t3 v1 v2=>ϑ (by rw [<- e3];exact sa v (i - 1) (by lia) (by lia) (by lia)) (k3 u (by lia) (by lia))
  by_cases h1:t=1
  ·subst h1
   rw [if_pos (by decide)]
   exact Α ⟨d,.inl ⟨_,_,rfl,endFb p m2⟩⟩
  ·rw [if_neg (by simpa using h1)]
   by_cases h2:t=0
   ·rw [if_pos (by simpa using h2)]
    exact Α ⟨d,.inl ⟨_,_,rfl,endD m2 (.inr h2)⟩⟩
   ·rw [if_neg (by simpa using h2)]
    exact h4_ok d m2 i1 (by lia) hi (by lia) (by lia) fun u t1 t2=>by rw [e3];exact ϕ (k2 u (by lia) (by lia))
 ·rw [if_neg h0]
  exact h4_ok d m i1 j2 hi hj hr fun u t1 t2=>by rw [e3];exact ϕ (k2 u (by lia) (by lia))
theorem h2_ok (L:LtOk O key G kd M A E s) (p:Ph key G a b) {st:Κ}(d:Sd kd ar pd st) {mg ac bc:Nat}(m:Mh key (a.toList++b.toList) a b o i j) (i1:1<=i) (j2:2<=j) (hi:i<=a.size) (hj:j<=b.size) (hr:i+j<=R+2) (h:∀ t,t < i->t < a.size->O.kle (kk key a t) (kk key b (j - 1))):
  wpS M A E s (h2 a b o i j mg ac bc) (Hx key kd ar pd a b R) st:=by
 obtain ⟨y,e1,e2,e3⟩:=zL (key:=key) (a:=b) (i:=j - 1) (by lia)
 have m2:=puB m (by lia) e1 fun t t1 t2=>by rw [<- e3];exact h t t1 t2
 unfold h2
 refine ο (zy e1 ?_)
 by_cases h1:j - 1=1
 ·rw [if_pos (by simpa using h1)]
  rw [h1] at m2 ⊢
  exact Α ⟨d,.inl ⟨_,_,rfl,endFb p m2⟩⟩
 ·rw [if_neg (by simpa using h1)]
  exact h3_ok L p d m2 i1 (by lia) hi (by lia) (by lia)
theorem h1_ok (L:LtOk O key G kd M A E s) (p:Ph key G a b) {st:Κ}(d:Sd kd ar pd st) {mg ac bc:Nat}(n:Ih key a b (R+2) o i j):wpS M A E s (h1 a b o i j mg ac bc) (Hx key kd ar pd a b R) st:=by
 obtain ⟨m,i1,j2,hi,hj,hr⟩:=n
 obtain ⟨y,e1,e2,e3⟩:=zL (key:=key) (a:=b) (i:=j - 1) (by lia)
 have sb:=yt p.sb (i:=0) (n:=b.size) (by lia)
 unfold h1
 refine ο (kI d fun st d=>ο (zy e1 (ο (wp_gR L d (p.gb y e2) p.ga (by lia) (by lia) (yt p.sa (by lia)) fun t k1 k2 k3=>?_))))
 dsimp only
 by_cases h0:i - t > 0
 ·rw [if_pos h0]
  have m2:=ctA m (t:=t) k1 fun u v t1 t2 t3 v1 v2=>ϑ (by rw [<- e3];exact sb v (j - 1) (by lia) (by lia) (by lia)) (ϕ (k3 u (by lia) (by lia)))
  by_cases h1:t=0
  ·rw [if_pos (by simpa using h1)]
   exact Α ⟨d,.inl ⟨_,_,rfl,endD m2 (.inl h1)⟩⟩
  ·rw [if_neg (by simpa using h1)]
   exact h2_ok L p d m2 (by lia) j2 (by lia) hj (by lia) fun u t1 t2=>by rw [e3];exact k2 u (by lia) (by lia)
 ·rw [if_neg h0]
  exact h2_ok L p d m i1 j2 hi hj hr fun u t1 t2=>by rw [e3];exact k2 u (by lia) (by lia)
theorem h0_ok (L:LtOk O key G kd M A E s) (p:Ph key G a b) {st:Κ}(d:Sd kd ar pd st) {mg ac bc:Nat}(n:Ih key a b (R+2) o i j):wpS M A E s (h0 a b o i j mg ac bc) (Hx key kd ar pd a b R) st:=by
 unfold h0
 split <;> exact h1_ok L p d n
def H1 (key:ω->O.α) (kd:dH) (ar:Array ω) (pd:Array (Nat×Nat×Nat)) (a b:Array ω) (R:Nat) (c:ForInStep H5) (st:Κ):Prop:=
 Sd kd ar pd st/\((∃ r z,c=.done (some r,z)/\Ok key (a.toList++b.toList) r)\/∃ o i j ac bc,Ih key a b R o i j/\(c=.done (none,i,j,o,ac,bc)\/c=.yield (none,i,j,o,ac,bc)))
theorem zeP (L:LtOk O key G kd M A E s) (p:Ph key G a b) {st:Κ}(d:Sd kd ar pd st) {mg ac bc:Nat}(n:Ih key a b (R+1) o i j):wpS M A E s (hi1 a b o i j mg ac bc) (H1 key kd ar pd a b R) st:=by
 obtain ⟨m,i1,j2,hi,hj,hr⟩:=n
 obtain ⟨y,e1,e2,e3⟩:=zL (key:=key) (a:=b) (i:=j - 1) (by omega)
 obtain ⟨x,f1,f2,f3⟩:=zL (key:=key) (a:=a) (i:=i - 1) (by omega)
 have sb:=yt p.sb (i:=0) (n:=b.size) (by omega)
 have sa:=yt p.sa (i:=0) (n:=a.size) (by omega)
 unfold hi1
 refine ο (zy e1 (ο (zy f1 (ο (L y x st _ (p.gb y e2) (p.ga x f2) d.kind ?_)))))
 dsimp only
 cases hb:O.blt (key y) (key x) with
 | true=>
  rw [if_pos rfl]
  refine ο (zy f1 ?_)
  have m2:=puA m i1 f1 fun t t1 t2=>ϑ (by rw [<- e3];exact sb t (j - 1) (by omega) (by omega) (by omega)) (ϕ hb)
  by_cases h1:i - 1=0
  ·rw [if_pos (by simpa using h1)]
   exact Α ⟨d,.inl ⟨_,_,rfl,endD m2 (.inl h1)⟩⟩
  ·rw [if_neg (by simpa using h1)]
   have n:Ih key a b R (o.push x) (i - 1) j:=⟨m2,by omega,j2,by omega,hj,by omega⟩
   split
   ·exact Α ⟨d,.inr ⟨_,_,_,_,_,n,.inl rfl⟩⟩
   ·exact Α ⟨d,.inr ⟨_,_,_,_,_,n,.inr rfl⟩⟩
 | false=>
  rw [if_neg (by decide)]
  refine ο (zy e1 ?_)
  have m2:=puB m (by omega) e1 fun t t1 t2=>ϑ (by rw [<- f3];exact sa t (i - 1) (by omega) (by omega) (by omega)) hb
  by_cases h1:j - 1=1
  ·rw [if_pos (by simpa using h1)]
   rw [h1] at m2 ⊢
   exact Α ⟨d,.inl ⟨_,_,rfl,endFb p m2⟩⟩
  ·rw [if_neg (by simpa using h1)]
   have n:Ih key a b R (o.push y) i (j - 1):=⟨m2,i1,by omega,hi,by omega,by omega⟩
   split
   ·exact Α ⟨d,.inr ⟨_,_,_,_,_,n,.inl rfl⟩⟩
   ·exact Α ⟨d,.inr ⟨_,_,_,_,_,n,.inr rfl⟩⟩
end
section
variable {ar:Array ω}{pd:Array (Nat×Nat×Nat)}{a b o:Array ω}{i j R R':Nat}
theorem zcZ (L:LtOk O key G kd M A E s) (p:Ph key G a b) {st:Κ}(d:Sd kd ar pd st) (ha:1<=a.size) (hb:1<=b.size) (hz:∀ t,t < b.size->O.kle (kk key b t) (kk key a (a.size - 1))) {Q:Array ω->Κ->Prop}
  (q:∀ r st',Sd kd ar pd st'->Ok key (a.toList++b.toList) r->Q r st'):wpS M A E s (qg a b) Q st:=by
 obtain ⟨x,e1,e2,e3⟩:=zL (key:=key) (a:=a) (i:=a.size - 1) (by omega)
 have m0:Mh key (a.toList++b.toList) a b (#[]:Array ω) a.size b.size:=by
  unfold Mh
  rw [dN (by simp),dN (by simp)]
  refine ⟨eO,gA.mpr (p.sa.imp fun h=>h),gA.mpr (p.sb.imp fun h=>h),(fun x h=>nomatch h),(fun x h=>nomatch h),?_⟩
  show (a.toList.reverse++b.toList.reverse).Perm _
  exact aN.append (iZ _) (iZ _)
 have m1:=puA m0 ha e1 fun t _ t2=>by rw [<- e3];exact hz t t2
 rw [YS]
 refine ο (fU (aB ⟨rfl,?_⟩))
 refine ο (zy e1 ?_)
 by_cases h1:a.size - 1=0
 ·rw [if_pos (by simpa using h1)]
  exact Α (q _ _ d (endD (o:=#[x]) m1 (.inl h1)))
 rw [if_neg (by simpa using h1)]
 by_cases h2:b.size=1
 ·rw [if_pos (by simpa using h2)]
  have m1':Mh key (a.toList++b.toList) a b #[x] (a.size - 1) b.size:=m1
  rw [h2] at m1' ⊢
  exact Α (q _ _ d (endFb p m1'))
 rw [if_neg (by simpa using h2)]
 refine ο (dJ ?_)
 refine ο (aX (ϫ (I:=fun x c st'=>Sd kd ar pd st'/\∃ o i j mg,c=(none,i,j,o,mg)/\Ih key a b (a.size+b.size - x) o i j) (Q:=fun c st'=>Sd kd ar pd st'/\∃ r z,c=(some r,z)/\Ok key (a.toList++b.toList) r) ?_ ?_ ⟨d,#[x],a.size - 1,b.size,_,rfl,⟨m1,by omega,by omega,by omega,π _,by omega⟩⟩) ?_)
 ·rintro x c st1 _ hx ⟨d1,o,i,j,mg,rfl,n⟩
  dsimp only
  have hR:=n.big
  generalize hRR:a.size+b.size - x=R at n hR
  refine ο (aX (ϫ (I:=fun _ c st'=>Sd kd ar pd st'/\∃ o i j ac bc,c=(none,i,j,o,ac,bc)/\Ih key a b R o i j) (Q:=fun c st'=>Sd kd ar pd st'/\((∃ r z,c=(some r,z)/\Ok key (a.toList++b.toList) r)\/∃ o i j ac bc,c=(none,i,j,o,ac,bc)/\Ih key a b R o i j)) ?_ ?_ ⟨d1,o,i,j,0,0,rfl,n⟩) ?_)
  ·rintro _ c st2 _ _ ⟨d2,o,i,j,ac,bc,rfl,n⟩
   refine aX (zeP (R:=R - 1) L p d2 (n.mono (by omega))) ?_
   rintro f st3 ⟨d3,⟨r,z,rfl,ok⟩ | ⟨o,i,j,ac,bc,n,rfl | rfl⟩⟩
   ·exact ⟨d3,.inl ⟨r,z,rfl,ok⟩⟩
   ·exact ⟨d3,.inr ⟨o,i,j,ac,bc,rfl,n.mono (by omega)⟩⟩
   ·exact ⟨d3,o,i,j,ac,bc,rfl,n.mono (by omega)⟩
  ·rintro c st2 ⟨d2,h⟩
   exact ⟨d2,.inr h⟩
  ·rintro c st2 ⟨d2,⟨r,z,rfl,ok⟩ | ⟨o,i,j,ac,bc,rfl,n⟩⟩
   ·exact Α ⟨d2,r,_,rfl,ok⟩
   ·dsimp only
    refine ο (fU (aB ⟨rfl,?_⟩))
    refine ο (aX (ϫ (I:=fun y c st'=>Sd kd ar pd st'/\∃ o i j mg ac bc,c=(none,i,j,o,mg,ac,bc)/\Ih key a b (if y=0 then R else R - 1) o i j) (Q:=fun c st'=>Sd kd ar pd st'/\((∃ r z,c=(some r,z)/\Ok key (a.toList++b.toList) r)\/∃ o i j mg ac bc,c=(none,i,j,o,mg,ac,bc)/\Ih key a b (R - 1) o i j)) ?_ ?_ ⟨d2,o,i,j,_,_,_,rfl,n⟩) ?_)
    ·rintro y c st3 _ _ ⟨d3,o,i,j,mg,ac,bc,rfl,n⟩
     have nb:=n.big
     have hle:(if y=0 then R else R - 1)<=R:=by split <;> omega
     rw [if_neg (by omega:¬ y+1=0)]
     refine aX (h0_ok (R:=(if y=0 then R else R - 1) - 2) L p d3 (n.mono (by omega))) ?_
     rintro f st4 ⟨d4,⟨r,z,rfl,ok⟩ | ⟨o,i,j,mg,ac,bc,n,rfl | rfl⟩⟩
     ·exact ⟨d4,.inl ⟨r,z,rfl,ok⟩⟩
     ·exact ⟨d4,.inr ⟨o,i,j,mg,ac,bc,rfl,n.mono (by omega)⟩⟩
     ·exact ⟨d4,o,i,j,mg,ac,bc,rfl,n.mono (by omega)⟩
    ·rintro c st3 ⟨d3,o,i,j,mg,ac,bc,rfl,n⟩
     rw [if_neg (by omega:¬ max 0 (a.size+b.size)=0)] at n
     exact ⟨d3,.inr ⟨o,i,j,mg,ac,bc,rfl,n⟩⟩
    ·rintro c st3 ⟨d3,⟨r,z,rfl,ok⟩ | ⟨o,i,j,mg,ac,bc,rfl,n⟩⟩
     ·exact Α ⟨d3,r,_,rfl,ok⟩
     ·dsimp only
      refine ο (kI d3 fun st4 d4=>Α ⟨d4,o,i,j,_,rfl,n.mono (by omega)⟩)
 ·rintro c st1 ⟨d1,o,i,j,mg,rfl,n⟩
  have:=n.big
  omega
 ·rintro c st1 ⟨d1,r,z,rfl,ok⟩
  exact Α (q r st1 d1 ok)
end
noncomputable def wb (n:Nat) (r:Array ω) (a:Array ω):Array ω:=r.toList.zipIdx.foldl (fun a (p,j)=>a.setIfInBounds (n+j) p) a
theorem wb_at (n:Nat):∀ (l:List ω) (m:Nat) (a:Array ω),n+m+l.length<=a.size->∀ t,((l.zipIdx m).foldl (fun a (p,j)=>a.setIfInBounds (n+j) p) a)[t]?=if n+m<=t/\t < n+m+l.length then l[t - (n+m)]? else a[t]?
 | [],m,a,h,t=>by
  rw [if_neg (by simp)];rfl
 | x::l,m,a,h,t=>by
  have h':n+m+(l.length+1)<=a.size:=h
  rw [List.zipIdx_cons,dB,wb_at n l (m+1) _ (by simp;lia) t]
  show (if n+(m+1)<=t/\t < n+(m+1)+l.length then l[t - (n+(m+1))]? else (a.setIfInBounds (n+m) x)[t]?)=if n+m<=t/\t < n+m+(l.length+1) then (x::l)[t - (n+m)]? else a[t]?
  by_cases h1:t=n+m
  ·subst h1
   rw [if_neg (by lia),if_pos (by lia),nP,Array.getElem?_setIfInBounds_self_of_lt (by lia)]
   rfl
  ·rw [Array.getElem?_setIfInBounds_ne (by lia)]
   by_cases h2:n+(m+1)<=t/\t < n+(m+1)+l.length
   ·rw [if_pos h2,if_pos (by lia),show t - (n+m)=t - (n+(m+1))+1 by lia]
    rfl
   ·rw [if_neg h2,if_neg (by lia)]
theorem za7 {n:Nat}{r a:Array ω}(h:n+r.size<=a.size):(wb n r a).toList=a.toList.take n++r.toList++a.toList.drop (n+r.size):=by
 apply lq
 intro t
 have e:=wb_at n r.toList 0 a (by simpa using h) t
 rw [nQ] at e
 have e1:(wb n r a).toList[t]?=(wb n r a)[t]?:=by simp
 rw [e1]
 refine e.trans ?_
 have hl:r.toList.length=r.size:=by simp
 have ha:a.toList.length=a.size:=by simp
 rw [hl]
 by_cases h1:t < n
 ·rw [if_neg (by lia),ό,ϒ (by rw [aM];lia),mZ h1]
  simp
 ·rw [ό,ϖ (by rw [aM];lia),aM,show min n a.toList.length=n by lia]
  by_cases h2:t < n+r.size
  ·rw [if_pos (by lia),ϒ (by lia)]
  ·rw [if_neg (by lia),ϖ (by lia),oH,hl,show n+r.size+(t - n - r.size)=t by lia]
   simp
noncomputable def Wn (i:Nat):StateT Κ Sem Bool:=mergeAt' i
theorem YT (i:Nat):Wn i=(do
 let s <- get
 let (some (u,m,pw),some (v,n,_)):=((bx s)[i]?,(bx s)[i+1]?) | mL "internal:list.sort.pending"
 set (ik (kindOf s) (ψ s) (((bx s).setIfInBounds i (u,m+n,pw)).eraseIdxIfInBounds (i+1)) (gallopOf s) (dG s))
 let some k <- yp false (<- dY (ψ s) v) (ψ s) u m 0 | return false
 let (u,m):=(u+k,m - k)
 if m==0 then return true
 let some n <- yp true (<- dY (ψ s) (u+m - 1)) (ψ s) v n (n - 1) | return false
 if n==0 then return true
 let x:=(ψ s).extract u v
 let y:=(ψ s).extract v (v+n)
 let z <- if m<=n then qe x y else qg x y
 modify fun s=>setArr s (wb u z (ψ s))
 return (dG (<- get)).isNone):=rfl
section
variable {az:Array ω}
theorem zcX {st st':Κ}{Q:PUnit->Κ->Prop}(h:Q ⟨⟩ st'):wpS M A E s (set st':StateT Κ Sem PUnit) Q st:=by
 unfold wpS;rw [StateT.run_set];exact ι ⟨rfl,h⟩
theorem kk_ex {a:Array ω}{lo hi t:Nat}(h:t < hi - lo) (hh:hi<=a.size):kk key (a.extract lo hi) t=kk key a (lo+t):=by
 refine kk_of ?_
 rw [Array.getElem?_extract,if_pos (by lia)]
theorem XX {a:Array ω}{lo hi:Nat}(h:Srt key a lo hi) (hh:hi<=a.size):Up key (a.extract lo hi).toList:=by
 refine fH.mpr fun i j h1 h2 h3=>?_
 have h2':j < hi - lo:=by simp at h2;lia
 have e1:=kk_ex (key:=key) (a:=a) (lo:=lo) (hi:=hi) (t:=i) (by lia) hh
 have e2:=kk_ex (key:=key) (a:=a) (lo:=lo) (hi:=hi) (t:=j) h2' hh
 have k1:kk key (a.extract lo hi) i=key ((a.extract lo hi).toList[i]):=by
  unfold kk;rw [getElem?_pos _ i (by simp;lia)];simp
 have k2:kk key (a.extract lo hi) j=key ((a.extract lo hi).toList[j]):=by
  unfold kk;rw [getElem?_pos _ j (by simp;lia)];simp
 rw [<- k1,<- k2,e1,e2]
 exact h _ _ (by lia) (by lia) (by lia)
theorem Jo {a:Array ω}{lo hi:Nat}{x:ω}(h:x∈(a.extract lo hi).toList) (hl:lo<=hi):∃ t,lo<=t/\t < hi/\t < a.size/\kk key a t=key x:=by
 rw [show hi=lo+(hi - lo) by omega,vP] at h
 obtain ⟨t,t1,t2,t3,t4⟩:=Wo (key:=key) h
 exact ⟨t,t1,by omega,t3,t4⟩
theorem zeT {n m pw w2:Nat}:((#[(0,n,pw),(n,m,w2)]:Array (Nat×Nat×Nat)).setIfInBounds 0 (0,n+m,pw)).eraseIdxIfInBounds (0+1)=#[(0,n+m,pw)]:=by
 simp [Array.eraseIdxIfInBounds,Array.setIfInBounds]
theorem zc0 (L:LtOk O key G kd M A E s) {st:Κ}{n m pw w2:Nat}(b:Bs G kd az #[(0,n,pw),(n,m,w2)] st) (h1:1<=n) (h2:1<=m) (hn:n+m=az.size) (s1:Srt key (ψ st) 0 n) (s2:Srt key (ψ st) n (n+m)) {Q:Bool->Κ->Prop}
  (q:∀ st',Bs G kd az #[(0,n+m,pw)] st'->Srt key (ψ st') 0 az.size->Q true st'):wpS M A E s (mergeAt' 0) Q st:=by
 have hz:=b.size
 have ga:∀ x∈(ψ st).toList,G x:=fun x hx=>b.good x ((cT.mp b.perm).mem_iff.mp hx)
 show wpS M A E s (Wn 0) Q st
 rw [YT]
 refine ο (dJ ?_)
 rw [b.pend]
 rw [show (#[(0,n,pw),(n,m,w2)]:Array (Nat×Nat×Nat))[0]?=some (0,n,pw) from rfl,show (#[(0,n,pw),(n,m,w2)]:Array (Nat×Nat×Nat))[0+1]?=some (n,m,w2) from rfl]
 dsimp only
 rw [zeT]
 refine ο (zcX ?_)
 have d:Sd kd (ψ st) #[(0,n+m,pw)] (ik (kindOf st) (ψ st) #[(0,n+m,pw)] (gallopOf st) (dG st)):=⟨b.kind,b.failed,rfl,rfl⟩
 have bb:∀ st',Sd kd (ψ st) #[(0,n+m,pw)] st'->Bs G kd az #[(0,n+m,pw)] st':=fun st' d=>⟨by rw [d.arr];exact b.perm,b.good,d.kind,d.failed,d.pend⟩
 obtain ⟨y,e1,e2,e3⟩:=zL (key:=key) (a:=ψ st) (i:=n) (by lia)
 refine ο (zy e1 (ο (wp_gR L d (ga y e2) ga (by lia) (by lia) (by rw [gn];exact s1) fun k k1 k2 k3=>?_)))
 rw [<- e3] at k2 k3
 dsimp only
 rw [gn]
 by_cases h3:n - k=0
 ·rw [if_pos (by simpa using h3)]
  refine Α (q _ (bb _ d) fun i j a c e=>?_)
  by_cases hj:j < n
  ·exact s1 i j a c hj
  ·by_cases hi:i < n
   ·exact ϑ (k2 i (by lia) (by lia)) (s2 n j (π _) (by lia) (by lia))
   ·exact s2 i j (by lia) c (by lia)
 ·rw [if_neg (by simpa using h3)]
  obtain ⟨x,f1,f2,f3⟩:=zL (key:=key) (a:=ψ st) (i:=n - 1) (by lia)
  have f1':(ψ st)[k+(n - k) - 1]?=some x:=by rw [show k+(n - k) - 1=n - 1 by lia];exact f1
  refine ο (zy f1' (ο (wp_gL L d (ga x f2) ga (by lia) (by lia) s2 fun l l1 l2 l3=>?_)))
  rw [<- f3] at l2 l3
  dsimp only
  by_cases h4:l=0
  ·subst h4
   rw [if_pos (by decide)]
   refine Α (q _ (bb _ d) fun i j a c e=>?_)
   by_cases hj:j < n
   ·exact s1 i j a c hj
   ·by_cases hi:i < n
    ·exact ϑ (s1 i (n - 1) (by lia) (by lia) (by lia)) (l3 j (by lia) (by lia))
    ·exact s2 i j (by lia) c (by lia)
  ·rw [if_neg (by simpa using h4)]
   have sx:((ψ st).extract k n).size=n - k:=by simp;lia
   have sy:((ψ st).extract n (n+l)).size=l:=by simp;lia
   have gx:∀ z∈((ψ st).extract k n).toList,G z:=fun z hz=>by
    rw [show n=k+(n - k) by lia,vP] at hz
    exact ga z (gM (eG hz))
   have gy:∀ z∈((ψ st).extract n (n+l)).toList,G z:=fun z hz=>by
    rw [vP] at hz
    exact ga z (gM (eG hz))
   have ux:=XX (key:=key) (a:=ψ st) (lo:=k) (hi:=n) (fun i j a c e=>s1 i j (by lia) c e) (by lia)
   have uy:=XX (key:=key) (a:=ψ st) (lo:=n) (hi:=n+l) (fun i j a c e=>s2 i j a c (by lia)) (by lia)
   have fin:∀ (z:Array ω) (st':Κ),Sd kd (ψ st) #[(0,n+m,pw)] st'->Ok key (((ψ st).extract k n).toList++((ψ st).extract n (n+l)).toList) z->wpS M A E s (do
     modify fun s=>setArr s (wb k z (ψ s))
     return (dG (<- get)).isNone) Q st':=by
    intro z st' d' ok
    have zs:z.size=n - k+l:=by
     have:=ok.2.length_eq
     rw [Ϗ] at this
     simp at this
     lia
    have wl:=za7 (n:=k) (r:=z) (a:=ψ st) (by lia)
    rw [show k+z.size=n+l by lia] at wl
    have split:(ψ st).toList=(ψ st).toList.take k++((ψ st).extract k n).toList++((ψ st).extract n (n+l)).toList++(ψ st).toList.drop (n+l):=by
     rw [show (ψ st).extract k n=(ψ st).extract k (k+(n - k)) by rw [show k+(n - k)=n by lia],vP,vP,ό,<- gP,bF,ό,show (ψ st).toList.drop n=((ψ st).toList.drop k).drop (n - k) by rw [gP,show k+(n - k)=n by lia],bF,bF]
    refine ο (dj (ο (dJ ?_)))
    show wpS M A E s (pure (dG st').isNone) Q _
    rw [d'.failed]
    refine Α (q _ ?_ ?_)
    ·refine ⟨?_,b.good,d'.kind,d'.failed,d'.pend⟩
     show (wb k z (ψ st')).Perm az
     rw [d'.arr]
     refine Array.Perm.trans ?_ b.perm
     refine cT.mpr ?_
     rw [wl]
     conv=>rhs;rw [split]
     rw [ό,ό,ό]
     refine aN.append_left _ ?_
     rw [<- ό _ _ ((ψ st).toList.drop (n+l))]
     exact ok.2.append_right _
    ·show Srt key (wb k z (ψ st')) 0 az.size
     rw [d'.arr]
     have hsz:(wb k z (ψ st)).size=az.size:=by
      have:=congrArg lL wl
      simp at this
      lia
     have up:Up key (wb k z (ψ st)).toList:=by
      rw [wl]
      have uT:=XX (key:=key) (a:=ψ st) (lo:=0) (hi:=k) (fun i j a c e=>s1 i j a c (by lia)) (by lia)
      rw [Xe] at uT
      have uW:=XX (key:=key) (a:=ψ st) (lo:=n+l) (hi:=(ψ st).size) (fun i j a c e=>s2 i j (by lia) c (by lia)) (π _)
      rw [Z2] at uW
      have low:∀ t u,t < k->k<=u->u < n+m->O.kle (kk key (ψ st) t) (kk key (ψ st) u):=fun t u a c e=>by
       by_cases hu:u < n
       ·exact s1 t u (by lia) (by lia) hu
       ·exact ϑ (k2 t (by lia) (by lia)) (s2 n u (π _) (by lia) e)
      have high:∀ t u,k<=t->t < n+l->n+l<=u->u < n+m->O.kle (kk key (ψ st) t) (kk key (ψ st) u):=fun t u a c e f=>by
       by_cases ht:t < n
       ·exact ϑ (s1 t (n - 1) (by lia) (by lia) (by lia)) (l3 u e f)
       ·exact s2 t u (by lia) (by lia) f
      have mz:∀ v∈z.toList,∃ t,k<=t/\t < n+l/\kk key (ψ st) t=key v:=fun v hv=>by
       rcases Λ.mp (ok.2.mem_iff.mp hv) with h | h
       ·obtain ⟨t,t1,t2,t3,t4⟩:=Jo (key:=key) h (by lia)
        exact ⟨t,t1,by lia,t4⟩
       ·obtain ⟨t,t1,t2,t3,t4⟩:=Jo (key:=key) h (by lia)
        exact ⟨t,by lia,t2,t4⟩
      refine ϳ.mpr ⟨ϳ.mpr ⟨uT,ok.1,fun u hu v hv=>?_⟩,uW,fun u hu v hv=>?_⟩
      ·obtain ⟨t,t1,t2,t3⟩:=vO (key:=key) (fZ.mpr hu)
       obtain ⟨w,w1,w2,w3⟩:=mz v hv
       rw [<- t3,<- w3]
       exact low t w t1 w1 (by lia)
      ·obtain ⟨w,w1,w2,w3⟩:=ZG (key:=key) hv
       rcases Λ.mp hu with h | h
       ·obtain ⟨t,t1,t2,t3⟩:=vO (key:=key) (fZ.mpr h)
        rw [<- t3,<- w3]
        exact low t w t1 (by lia) (by lia)
       ·obtain ⟨t,t1,t2,t3⟩:=mz u h
        rw [<- t3,<- w3]
        exact high t w t1 t2 w1 (by lia)
     have:=yt up (i:=0) (n:=az.size) (by lia)
     rwa [gn] at this
   by_cases h5:n - k<=l
   ·rw [if_pos h5]
    refine ο (zcY L ⟨gx,gy,ux,uy,fun i u hi hu v hv=>?_⟩ d (by lia) (by lia) (fun t ht=>?_) fun z st' d' ok=>fin z st' d' ok)
    ·have e:=kk_ex (key:=key) (a:=ψ st) (lo:=k) (hi:=n) (t:=i) (by lia) (by lia)
     have:kk key ((ψ st).extract k n) i=key u:=by unfold kk;rw [hu];rfl
     rw [<- this,e,show k+i=n - 1 by lia]
     obtain ⟨t,t1,t2,t3,t4⟩:=Jo (key:=key) hv (by lia)
     rw [<- t4]
     exact ϕ (l2 t t1 t2)
    ·rw [kk_ex (by lia) (by lia),kk_ex (by lia) (by lia),nQ]
     exact ϕ (k3 _ (by lia) (by lia))
   ·rw [if_neg h5]
    refine ο (zcZ L ⟨gx,gy,ux,uy,fun t ht=>?_⟩ d (by lia) (by lia) (fun t ht=>?_) fun z st' d' ok=>fin z st' d' ok)
    ·rw [kk_ex (by lia) (by lia),kk_ex (by lia) (by lia),nQ]
     exact ϕ (k3 _ (by lia) (by lia))
    ·rw [kk_ex (by lia) (by lia),kk_ex (by lia) (by lia),sx,show k+(n - k - 1)=n - 1 by lia]
     exact ϕ (l2 _ (by lia) (by lia))
end
section
variable {az:Array ω}
theorem Jw {n:Nat}(h2:2<=n) (h:n < 128):∃ r,minRun' n n 0=r/\1<=r/\r<=n/\n<=2*r:=by
 obtain ⟨f,rfl⟩:∃ f,n=f+2:=⟨n - 2,by lia⟩
 refine ⟨_,rfl,?_⟩
 rw [show minRun' (f+2) (f+2) 0=if f+2 < 64 then f+2+0 else minRun' (f+1) ((f+2) / 2) (max 0 ((f+2) % 2)) from rfl]
 by_cases h1:f+2 < 64
 ·rw [if_pos h1];lia
 ·rw [if_neg h1,show minRun' (f+1) ((f+2) / 2) (max 0 ((f+2) % 2))=if (f+2) / 2 < 64 then (f+2) / 2+max 0 ((f+2) % 2) else minRun' f ((f+2) / 2 / 2) (max (max 0 ((f+2) % 2)) ((f+2) / 2 % 2)) from rfl,if_pos (by lia)]
  lia
def Rn (key:ω->O.α) (G:ω->Prop) (kd:dH) (az:Array ω) (r lo:Nat) (st:Κ):Prop:=
 (lo=0/\Bs G kd az #[] st)\/(1<=lo/\(r<=lo\/lo=az.size)/\Bs G kd az #[(0,lo,0)] st/\Srt key (ψ st) 0 lo) \/
 (lo=az.size/\∃ n m pw,1<=n/\1<=m/\n+m=az.size/\Bs G kd az #[(0,n,pw),(n,m,0)] st/\Srt key (ψ st) 0 n/\Srt key (ψ st) n (n+m))
theorem za6 (L:LtOk O key G kd M A E s) {st:Κ}(b:Bs G kd az #[] st) (h2:2<=az.size) (h128:az.size < 128) {Q:Unit->Κ->Prop}
  (q:∀ st',(ψ st').Perm az->dG st'=none->Srt key (ψ st') 0 az.size->Q () st'):wpS M A E s sortRuns' Q st:=by
 obtain ⟨r,hr,r1,r2,r3⟩:=Jw h2 h128
 rw [sortRuns'_eq]
 refine ο (dJ ?_)
 dsimp only
 rw [b.size,hr]
 refine ο (aX (ϫ (I:=fun x c st'=>∃ lo,c=(none,lo)/\lo<=az.size/\(lo=az.size\/x<=lo)/\Rn key G kd az r lo st') (Q:=fun c st'=>c=(none,az.size)/\Rn key G kd az r az.size st') ?_ ?_ ⟨0,rfl,by lia,.inr (π _),.inl ⟨rfl,b⟩⟩) ?_)
 ·rintro x c st1 _ hx ⟨lo,rfl,hlo,hp,rn⟩
  dsimp only
  by_cases hg:lo >= az.size
  ·rw [if_pos hg]
   obtain rfl:lo=az.size:=by lia
   exact Α ⟨rfl,rn⟩
  ·rw [if_neg hg]
   rcases rn with ⟨rfl,b1⟩ | ⟨l1,l2,b1,s1⟩ | ⟨e,_⟩
   ·refine ο (Xw L b1 (by lia) (by lia) fun m st2 b2 m1 m2 ms _=>?_)
    dsimp only
    by_cases hm:m < r
    ·rw [if_pos hm]
     refine ο (fU (aB ⟨rfl,?_⟩))
     refine ο (zak L b2 m1 (by lia) (by lia) ms fun st3 b3 ss _=>?_)
     rw [if_neg (by decide)]
     refine ο (dJ ?_)
     rw [show (bx st3)=#[] from b3.pend,show (#[]:Array (Nat×Nat×Nat)).back?=none from rfl]
     refine ο (dj (Α ⟨0+min (az.size - 0) r,rfl,by lia,.inr (by lia),.inr (.inl ⟨by lia,by lia,⟨b3.perm,b3.good,b3.kind,b3.failed,?_⟩,ss⟩)⟩))
     show (bx st3).push _=_
     rw [b3.pend,gn];rfl
    ·rw [if_neg hm]
     refine ο (dJ ?_)
     rw [show (bx st2)=#[] from b2.pend,show (#[]:Array (Nat×Nat×Nat)).back?=none from rfl]
     refine ο (dj (Α ⟨0+m,rfl,by lia,.inr (by lia),.inr (.inl ⟨by lia,by lia,⟨b2.perm,b2.good,b2.kind,b2.failed,?_⟩,ms⟩)⟩))
     show (bx st2).push _=_
     rw [b2.pend,gn];rfl
   ·have same:∀ st',(∀ k,k < lo->(ψ st')[k]?=(ψ st1)[k]?)->Srt key (ψ st') 0 lo:=fun st' h i j a c e=>by
     rw [kk_of (h i (by lia)),kk_of (h j e)];exact s1 i j a c e
    refine ο (Xw L b1 (by lia) (by lia) fun m st2 b2 m1 m2 ms mq=>?_)
    dsimp only
    by_cases hm:m < r
    ·rw [if_pos hm]
     refine ο (fU (aB ⟨rfl,?_⟩))
     refine ο (zak L b2 m1 (by lia) (by lia) ms fun st3 b3 t2 bq=>?_)
     have t1:=same st3 fun k hk=>(bq k hk).trans (mq k hk)
     rw [if_neg (by decide)]
     refine ο (dJ ?_)
     rw [show (bx st3)=#[(0,lo,0)] from b3.pend,show (#[(0,lo,0)]:Array (Nat×Nat×Nat)).back?=some (0,lo,0) from rfl]
     dsimp only
     refine ο (aX (ϫ (I:=fun _ c st'=>c=(none,())/\st'=st3) (Q:=fun c st'=>c=(none,())/\st'=st3) ?_ (fun _ _ h=>h) ⟨rfl,rfl⟩) ?_)
     ·rintro _ c st' _ _ ⟨rfl,rfl⟩
      refine ο (dJ ?_)
      rw [b3.pend]
      exact Α ⟨rfl,rfl⟩
     ·rintro c st' ⟨rfl,rfl⟩
      refine ο (dj (ο (dj (Α ⟨lo+min (az.size - lo) r,rfl,by lia,.inl (by lia),.inr (.inr ⟨by lia,lo,min (az.size - lo) r,power' az.size (2*0+lo) (2*0+lo+lo+min (az.size - lo) r) az.size,by lia,by lia,by lia,⟨b3.perm,b3.good,b3.kind,b3.failed,?_⟩,?_,?_⟩)⟩))))
      ·show (((bx st').modify ((bx st').size - 1) _).push _)=_
       rw [b3.pend]
       rfl
      ·exact t1
      ·exact t2
    ·rw [if_neg hm]
     have t1:=same st2 mq
     have t2:=ms
     refine ο (dJ ?_)
     rw [show (bx st2)=#[(0,lo,0)] from b2.pend,show (#[(0,lo,0)]:Array (Nat×Nat×Nat)).back?=some (0,lo,0) from rfl]
     dsimp only
     refine ο (aX (ϫ (I:=fun _ c st'=>c=(none,())/\st'=st2) (Q:=fun c st'=>c=(none,())/\st'=st2) ?_ (fun _ _ h=>h) ⟨rfl,rfl⟩) ?_)
     ·rintro _ c st' _ _ ⟨rfl,rfl⟩
      refine ο (dJ ?_)
      rw [b2.pend]
      exact Α ⟨rfl,rfl⟩
     ·rintro c st' ⟨rfl,rfl⟩
      refine ο (dj (ο (dj (Α ⟨lo+m,rfl,by lia,.inl (by lia),.inr (.inr ⟨by lia,lo,m,power' az.size (2*0+lo) (2*0+lo+lo+m) az.size,by lia,by lia,by lia,⟨b2.perm,b2.good,b2.kind,b2.failed,?_⟩,?_,?_⟩)⟩))))
      ·show (((bx st').modify ((bx st').size - 1) _).push _)=_
       rw [b2.pend]
       rfl
      ·exact t1
      ·exact t2
   ·lia
 ·rintro c st1 ⟨lo,rfl,hlo,hp,rn⟩
  obtain rfl:lo=az.size:=by lia
  exact ⟨rfl,rn⟩
 ·rintro c st1 ⟨rfl,rn⟩
  dsimp only
  refine ο (aX (ϫ (I:=fun y c st'=>c=(none,())/\((y=0/\Rn key G kd az r az.size st')\/∃ p,p.size<=1/\Bs G kd az p st'/\Srt key (ψ st') 0 az.size)) (Q:=fun c st'=>c=(none,())/\∃ p,p.size<=1/\Bs G kd az p st'/\Srt key (ψ st') 0 az.size) ?_ ?_ ⟨rfl,.inl ⟨rfl,rn⟩⟩) ?_)
  ·rintro y c st2 _ hy ⟨rfl,h⟩
   refine ο (dJ ?_)
   have h':(∃ p,p.size<=1/\Bs G kd az p st2/\Srt key (ψ st2) 0 az.size)\/∃ n m pw,1<=n/\1<=m/\n+m=az.size/\Bs G kd az #[(0,n,pw),(n,m,0)] st2/\Srt key (ψ st2) 0 n/\Srt key (ψ st2) n (n+m):=by
    rcases h with ⟨_,⟨h,_⟩ | ⟨_,_,b,s⟩ | ⟨_,h⟩⟩ | h
    ·lia
    ·exact .inl ⟨_,π _,b,s⟩
    ·exact .inr h
    ·exact .inl h
   rcases h' with ⟨p,hp,b,s⟩ | ⟨n,m,pw,n1,m1,hn,b,s1,s2⟩
   ·rw [b.pend,if_pos hp]
    exact Α ⟨rfl,p,hp,b,s⟩
   ·rw [b.pend,if_neg (by show ¬ 2<=1;decide)]
    refine ο (zc0 L b n1 m1 hn s1 s2 fun st3 b3 s3=>?_)
    exact Α ⟨rfl,.inr ⟨_,π _,b3,s3⟩⟩
  ·rintro c st2 ⟨hc,⟨h,_⟩ | h⟩
   ·lia
   ·exact ⟨hc,h⟩
  ·rintro c st2 ⟨rfl,p,hp,b,hs⟩
   exact Α (q st2 b.perm b.failed hs)
end
def IntsV:List δ->List Int->Prop
 | [],[]=>True
 | v::vs,n::ns=>(∃ t,v=.int n t)/\IntsV vs ns
 | _,_=>False
section
variable {prog:Τ}{w:ϝ}{kz:δ->List Int}
structure Tu (kz:δ->List Int) (h:Heap) (v:δ):Prop where
 it:∃ b o xs m,v=.ref b/\h.get? b=some o/\o.cls=.type "tuple"/\o.data=.seq xs m/\IntsV xs.toList (kz v)
 ne:kz v≠[]
theorem Tu.keep {h h':Heap}{v:δ}(t:Tu kz h v) (k:∀ b o,v=.ref b->h.get? b=some o->h'.get? b=some o):Tu kz h' v:=by
 obtain ⟨⟨b,o,xs,m,e1,e2,e3,e4,e5⟩,n⟩:=t
 exact ⟨⟨b,o,xs,m,e1,k b o e1 e2,e3,e4,e5⟩,n⟩
theorem tups {h:Heap}:∀ (vs:List δ),(∀ v∈vs,Tu kz h v)->∃ fs,fs.length=vs.length/\W.KatTups h vs fs/\∀ v∈fs,∃ n t,v=ϙ n t
 | [],_=>⟨[],rfl,W.KatTups.nil,fun v h=>nomatch h⟩
 | v::vs,hv=>by
  obtain ⟨fs,e,t,q⟩:=tups vs fun u hu=>hv u (θ _ hu)
  obtain ⟨⟨b,o,xs,m,e1,e2,e3,e4,e5⟩,n⟩:=hv v μ
  obtain ⟨k,ks,hk⟩:=List.exists_cons_of_ne_nil n
  rw [hk] at e5
  cases hx:xs.toList with
  | nil=>rw [hx] at e5;exact e5.elim
  | cons u us=>
   rw [hx] at e5
   obtain ⟨⟨t',e6⟩,_⟩:=e5
   have h0:xs[0]?=some u:=by
    have:xs.toList[0]?=some u:=by rw [hx];rfl
    simpa using this
   subst e1
   refine ⟨u::fs,by simp [e],W.KatTups.cons e2 e3 e4 h0 t,fun v hv=>?_⟩
   rcases Η.mp hv with rfl | hv
   ·exact ⟨k,t',e6⟩
   ·exact q v hv
theorem j5:∀ (vs:List δ),vs.zip vs=vs.map fun v=>(v,v)
 | []=>rfl
 | v::vs=>by rw [bW,j5 vs];rfl
def vA (O:Ϝ) (kz:δ->O.α) (vs out:List δ):Prop:=out.Perm vs/\out.Pairwise fun x y=>O.blt (kz y) (kz x)=false
theorem jH {O:Ϝ}{kz:δ->O.α}{vs:List δ}{st:Κ}(h:(ψ st).Perm (vs.toArray.zip vs.toArray)) (hs:Srt (O:=O) (fun x=>kz x.1) (ψ st) 0 (vs.toArray.zip vs.toArray).size):vA O kz vs ((ψ st).map (·.2)).toList:=by
 have hz:(vs.toArray.zip vs.toArray).toList=vs.map fun v=>(v,v):=by
  rw [oX]
  exact j5 vs
 have p:=cT.mp h
 rw [hz] at p
 have same:∀ x∈(ψ st).toList,x.1=x.2:=fun x hx=>by
  obtain ⟨v,_,rfl⟩:=Ϛ.mp (p.mem_iff.mp hx)
  rfl
 refine ⟨?_,?_⟩
 ·rw [oY]
  have:=p.map (fun x:ω=>x.2)
  rwa [fc,show ((fun x:ω=>x.2)∘fun v=>(v,v))=(id:δ->δ) from rfl,List.map_id] at this
 ·rw [oY,oU]
  refine fH.mpr fun i j h1 h2 h3=>?_
  have hsz:(ψ st).size=(vs.toArray.zip vs.toArray).size:=h.size_eq
  have hj:j < (ψ st).size:=by simpa using h2
  have:=hs i j (bA _) (by omega) (by omega)
  unfold kk at this
  rw [getElem?_pos (ψ st) i (by omega),getElem?_pos (ψ st) j hj] at this
  have e1:=same (ψ st)[i] (by simp)
  have e2:=same (ψ st)[j] (by simp)
  have h4:O.blt (kz (ψ st)[j].1) (kz (ψ st)[i].1)=false:=this
  rw [e1,e2] at h4
  simpa using h4
theorem Qf {O:Ϝ}{kz:δ->O.α}{kd:dH}{a:Addr}{vs:List δ}{n:Nat}{P:Fin->ν->Prop}(ho:s.heap.get? a=some (cH "list" vs.toArray n)) (h128:vs.length < 128)
  (hk:∀ h',2<=vs.length->(∀ b o,b≠a->s.heap.get? b=some o->h'.get? b=some o)->(∀ Q:dH->ν->Prop,Q kd { s with heap:=h' }->Θ (Ξ prog w) A (keyKind' vs.toArray) Q E { s with heap:=h' })/\LtOk O (fun x=>kz x.1) (fun x=>∃ v∈vs,x=(v,v)) kd (Ξ prog w) A E { s with heap:=h' })
  (h:∀ out:Array δ,vA O kz vs out.toList->P (.done (.ret .none)) { s with heap:=gU s.heap a vs out }):Θ (Ξ prog w) A (Ω.«list.sort» ⟨[.ref a],[]⟩) P E s:=by
 have ha:a < s.heap.objs.size:=Β ho
 have hsl:vs.length<=sizeLine:=by rw [Ϻ];lia
 obtain ⟨e1,ho1⟩:∃ e1,(s.heap.update a (bf fun _=>#[])).get? a=some (cH "list" #[] e1):=⟨_,get?_update_seq ho (fun _=>#[])⟩
 rw [list_sort_plain]
 refine ε (oK ho rfl (ε (gm ho rfl (ε (seqEpoch_at ho1 rfl (ε (nJ (ε (wpAny_newList (aU ?_) (bA _))) (by simpa using hsl))))) (by simpa using hsl) (bA _))))
 have ho6:(((s.heap.update a (bf fun _=>#[])).push (cH "tuple" vs.toArray 0)).push (cH "list" #[] 0)).get? a=some (cH "list" #[] e1):=
  η _ (η _ ho1)
 have kp:∀ b o,b≠a->s.heap.get? b=some o->(((s.heap.update a (bf fun _=>#[])).push (cH "tuple" vs.toArray 0)).push (cH "list" #[] 0)).get? b=some o:=fun b o hb e=>
  η _ (η _ (by rw [di _ _ _ _ hb];exact e))
 show Θ (Ξ prog w) A _ P E { s with heap:=((s.heap.update a (bf fun _=>#[])).push (cH "tuple" vs.toArray 0)).push (cH "list" #[] 0) }
 have tail:∀ st':Κ,vA O kz vs ((ψ st').map (·.2)).toList->((ψ st').map (·.2)).size=vs.length->dG st'=none->Θ (Ξ prog w) A (do
   let touched:=(<- seqEpoch a) != e1
   Ω.List.listUpdate (.ref a) fun _=>(ψ st').map (·.2)
   if let some e:=dG st' then rule "list.sort.comparison-raised";throw e
   if touched then rule "list.sort.modified";raiseError "ValueError" "list modified during sort"
   ret .none) P E { s with heap:=((s.heap.update a (bf fun _=>#[])).push (cH "tuple" vs.toArray 0)).push (cH "list" #[] 0) }:=fun st' k z f=>by
  refine ε (seqEpoch_at ho6 rfl (ε (gm ho6 rfl ?_ (bA _) (by lia))))
  rw [f]
  simp only [bne_self_eq_false,bY,if_false]
  exact ι (h _ k)
 have pz:(vs.toArray.zip vs.toArray).size=vs.length:=by simp
 by_cases h2:vs.toArray.size < 2
 ·rw [if_pos h2,if_pos h2]
  refine ε (ι ?_)
  dsimp only
  rw [StateT.run_pure]
  refine ε (ι ?_)
  refine tail (ik general' (vs.toArray.zip vs.toArray) #[] 7 none) (jH (Array.Perm.refl _) fun i j a c e=>?_) (by rw [Array.size_map];exact pz) rfl
  have h2':vs.length < 2:=by simpa using h2
  obtain rfl:i=j:=by lia
  exact aR _
 ·have h2':2<=vs.length:=by simpa using h2
  rw [if_neg h2,if_neg h2]
  obtain ⟨k1,L⟩:=hk _ h2' kp
  refine ε (k1 _ ?_)
  have B:Bs (fun x=>∃ v∈vs,x=(v,v)) kd (vs.toArray.zip vs.toArray) #[] (ik kd (vs.toArray.zip vs.toArray) #[] 7 none):=⟨Array.Perm.refl _,fun x hx=>by
   rw [oX,show vs.toArray.toList=vs from rfl,j5] at hx
   obtain ⟨v,hm,rfl⟩:=Ϛ.mp hx
   exact ⟨v,hm,rfl⟩,rfl,rfl,rfl⟩
  refine ε (cG (za6 (Q:=fun _ st'=>(ψ st').Perm (vs.toArray.zip vs.toArray)/\dG st'=none/\Srt (O:=O) (fun x=>kz x.1) (ψ st') 0 (vs.toArray.zip vs.toArray).size) L B (by lia) (by lia) fun st' a1 a2 a3=>⟨a1,a2,a3⟩) ?_ fun _ _ e=>e)
  rintro ⟨⟨⟩,st'⟩ s' ⟨rfl,a1,a2,a3⟩
  exact tail st' (jH a1 a3) (by rw [Array.size_map,a1.size_eq];exact pz) a2
end
noncomputable def txOf:Int×δ->Str
 | (_,.str x _)=>x
 | _=>⟨#[]⟩
section
variable {prog:Τ}{w:ϝ}
def Tx (w:ϝ) (e:Int×δ):Prop:=∃ x t,e=(hashStr w x,aQ x t)
structure St (w:ϝ) (h:Heap) (a:Addr) (led:Bool) (es:Array (Int×δ)) (ep:Nat) (tb:Ϟ):Prop where
 at_:∃ o,h.get? a=some o/\o.ExactSet/\o.data=.set es ep tb
 tx:∀ e∈es.toList,Tx w e
 fit:tb.fits es.size=true
 led_:tb.led=led
 pl:es.size=0\/tb.plain=false
def Ts (w:ϝ) (h:Heap) (a:Addr) (led:Bool) (ks:List Str):Prop:=∃ es ep tb,St w h a led es ep tb/\(es.toList.map txOf).Perm ks
theorem St.el {h:Heap}{a:Addr}{led:Bool}{es:Array (Int×δ)}{ep:Nat}{tb:Ϟ}(z:∀ e∈es.toList,Tx w e):ElemsOf (aO prog w) es.toList:=fun e he=>by
 obtain ⟨x,t,rfl⟩:=z e he
 exact ⟨⟨x,by simp [aO,dZ],rfl⟩,rfl⟩
theorem zcd (t:Ϟ) (es:Array (Int×δ)) (h:Int) (x:δ):(layNew t es h x).2.1.led=t.led:=by
 unfold layNew
 split
 ·show (nC _ _).led=t.led
  unfold nC
  split <;> rfl
 ·rfl
set_option tactic.hygienic true in
theorem Uv (t:Ϟ) (es:Array (Int×δ)) (n:Nat):(relayAll t es n).2.1.led=t.led/\(t.plain=false->(relayAll t es n).2.1.plain=false):=by
 unfold relayAll
 split
 ·rename_i t' o e
  have k:t'.led=t.led/\t'.plain=t.plain:=by
   unfold Ϟ.relaid Ϟ.laid at e
   obtain ⟨ow,_,e2⟩:=ϡ.mp e
   cases e2
   exact ⟨rfl,rfl⟩
  dsimp only
  split
  ·exact ⟨k.1,fun h=>k.2.trans h⟩
  ·exact ⟨rfl,fun _=>rfl⟩
 ·exact ⟨rfl,fun _=>rfl⟩
theorem zaA {h:Heap}{a:Addr}{o:Obj}{es es':Array (Int×δ)}{ep:Nat}{t t':Ϟ}(ho:h.get? a=some o) (hx:o.ExactSet) (hd:o.data=.set es ep t):
  ∃ u,(h.update a (Obj.putSet es' t')).get? a=some u/\u.ExactSet/\u.data=.set es' (ep+1) t':=by
 have k:=bH (Obj.putSet es' t') ho (by rw [putSet_of es' t' hd];rfl)
 rw [putSet_of es' t' hd] at k
 exact ⟨_,k,hx,rfl⟩
noncomputable def addK (ks:List Str) (x:Str):List Str:=if x∈ks then ks else ks++[x]
theorem zcw {x:Str}:∀ {l:List (Int×δ)},(∀ e∈l,Tx w e)->((l.findIdx? fun e=>(aO prog w).is x e.2).isSome=true ↔ x∈l.map txOf):=by
 intro l h
 rw [List.findIdx?_isSome,f9,Ϛ]
 constructor
 ·rintro ⟨e,h1,h2⟩
  obtain ⟨y,t,rfl⟩:=h e h1
  exact ⟨_,h1,by simpa [aO,dZ,txOf] using h2⟩
 ·rintro ⟨e,h1,h2⟩
  obtain ⟨y,t,rfl⟩:=h e h1
  exact ⟨_,h1,by simpa [aO,dZ,txOf] using h2⟩
theorem ze6 {a:Addr}{led:Bool}{ks:List Str}{x:Str}{t:Tok}{Q:Bool->ν->Prop}(hS:Ts w s.heap a led ks) (hn:ks.length+1 < 4096)
  (q:∀ (b:Bool) (h':Heap),Ϫ a s.heap h'->Ts w h' a led (addK ks x)->Q b { s with heap:=h' }):Θ (Ξ prog w) A (setAddHashed a (.str x t) (hashStr w x)) Q E s:=by
 obtain ⟨es,ep,tb,⟨⟨o,ho,hx,hd⟩,tx,fit,l1,pl⟩,pm⟩:=hS
 have hel:ElemsOf (aO prog w) es.toList:=St.el (h:=s.heap) (a:=a) (led:=led) (ep:=ep) (tb:=tb) tx
 have sz:es.size=ks.length:=by rw [<- Φ,<- pm.length_eq,Ν]
 have key:(aO prog w).is x (.str x t)=true:=by simp [aO,dZ]
 unfold setAddHashed nO
 refine aU (ε (cW ho hd fit ?_))
 dsimp only
 rw [byScan_of (knd:=aO prog w) rfl (by rw [sz];show _ < 4096;omega) hel]
 rw [if_pos rfl]
 unfold setAddByScan
 refine ε (ε (aB (ε (wpAny_setScan_of (knd:=aO prog w) (k:=x) key ho hd fit hel ?_))))
 have fi:=zcw (prog:=prog) (w:=w) (x:=x) tx
 cases hr:List.findIdx? (fun e=>(aO prog w).is x e.2) es.toList with
 | some j=>
  rw [hr] at fi
  have m:x∈ks:=pm.mem_iff.mp (fi.mp rfl)
  refine ι (ι ?_)
  have k:=q false s.heap (mJ a s.heap) ⟨es,ep,tb,⟨⟨o,ho,hx,hd⟩,tx,fit,l1,pl⟩,by rw [addK,if_pos m];exact pm⟩
  exact k
 | none=>
  rw [hr] at fi
  have m:x ∉ ks:=fun m=>by cases fi.mpr (pm.mem_iff.mpr m)
  dsimp only
  have p1:=layNew_perm tb es (hashStr w x) (.str x t)
  have p2:=layNew_fits tb es (hashStr w x) (.str x t)
  have p3:=zcd tb es (hashStr w x) (.str x t)
  show Θ _ _ (match layNew tb es (hashStr w x) (.str x t) with | (es,t,wd,gave)=>_) _ _ _
  generalize layNew tb es (hashStr w x) (.str x t)=L at p1 p2 p3 ⊢
  obtain ⟨e1,t1,wd,gv⟩:=L
  dsimp only at p1 p2 p3 ⊢
  rw [cD] at p1
  have tx1:∀ e∈e1.toList,Tx w e:=fun e he=>by
   rcases Λ.mp (p1.mem_iff.mp he) with he | he
   ·exact tx e he
   ·rw [υ] at he;exact ⟨x,t,he⟩
  have sz1:e1.size=ks.length+1:=by rw [<- Φ,p1.length_eq,Ϗ,Φ,sz];rfl
  have pm1:(e1.toList.map txOf).Perm (addK ks x):=by
   rw [addK,if_neg m]
   refine (p1.map txOf).trans ?_
   rw [aW]
   exact pm.append (bw _)
  have tail:∀ (t2:Ϟ) (Q:Bool->ν->Prop),t2.fits e1.size=true->t2.led=led->t2.plain=false->(∀ (h':Heap),Ϫ a s.heap h'->Ts w h' a led (addK ks x)->Q true { s with heap:=h' }) ->
    Θ (Ξ prog w) A (do
     iG a e1 t2
     if (!wd&&t2.tooFull)=true then
      match relayAll t2 e1 (cz e1.size) with
      | (es,t,gave)=>do
       (match gave with | true=>rule "set.scan.the-table-gave-way" | false=>pure ())
       iG a es t
       pure (some true)
     else pure (some true)) (fun r s'=>∃ b,r=some b/\Q b s') E s:=fun t2 Q f2 l2 q2 q=>by
   refine ε (wpAny_storeSet_of ho hd ?_ (by rw [sz1,Ϻ];omega))
   obtain ⟨u,hu,hux,hud⟩:=zaA (es':=e1) (t':=t2) ho hx hd
   split
   ·have r1:=relayAll_perm t2 e1 (cz e1.size)
    have r2:=relayAll_fits t2 e1 (cz e1.size)
    have r3:=Uv t2 e1 (cz e1.size)
    generalize relayAll t2 e1 (cz e1.size)=R at r1 r2 r3 ⊢
    obtain ⟨e2,t3,g2⟩:=R
    dsimp only at r1 r2 r3 ⊢
    have sz2:e2.size=e1.size:=by rw [<- Φ,r1.length_eq,Φ]
    obtain ⟨v,hv,hvx,hvd⟩:=zaA (es':=e2) (t':=t3) hu hux hud
    have fin:Θ (Ξ prog w) A (do iG a e2 t3;pure (some true)) (fun r s'=>∃ b,r=some b/\Q b s') E { s with heap:=s.heap.update a (Obj.putSet e1 t2) }:=
     ε (wpAny_storeSet_of hu hud (ι ⟨true,rfl,q _ ((cC _ a _).trans (cC _ a _))
      ⟨e2,_,t3,⟨⟨v,hv,hvx,hvd⟩,fun e he=>tx1 e (r1.mem_iff.mp he),r2,r3.1.trans l2,.inr (r3.2 q2)⟩,(r1.map txOf).trans pm1⟩⟩) (by rw [sz2,sz1,Ϻ];omega))
    cases g2 with
    | true=>exact ε (aB fin)
    | false=>exact ε (ι fin)
   ·exact ι ⟨true,rfl,q _ (cC _ a _) ⟨e1,_,t2,⟨⟨u,hu,hux,hud⟩,tx1,f2,l2,.inr q2⟩,pm1⟩⟩
  have go:∀ (t2:Ϟ),t2.fits e1.size=true->t2.led=led->t2.plain=false->Θ (Ξ prog w) A (do
     iG a e1 t2
     if (!wd&&t2.tooFull)=true then
      match relayAll t2 e1 (cz e1.size) with
      | (es,t,gave)=>do
       (match gave with | true=>rule "set.scan.the-table-gave-way" | false=>pure ())
       iG a es t
       pure (some true)
     else pure (some true)) (fun r s'=>Θ (Ξ prog w) A (match r with | some added=>pure added | none=>nO a (.str x t) (hashStr w x) 99999) Q E s') E s:=fun t2 f l p=>
   cG (tail t2 (fun b s'=>Q b s') f l p fun h' a1 a2=>q true h' a1 a2) (fun r s' ⟨b,e,k⟩=>by rw [e];exact ι k) fun _ _ e=>e
  have mid:Θ (Ξ prog w) A (do
     let byValue <- if t1.plain then hashByValue 8 (.str x t) else pure true
     let t2:=if byValue then t1 else { t1 with plain:=false }
     iG a e1 t2
     if (!wd&&t2.tooFull)=true then
      match relayAll t2 e1 (cz e1.size) with
      | (es,t,gave)=>do
       (match gave with | true=>rule "set.scan.the-table-gave-way" | false=>pure ())
       iG a es t
       pure (some true)
     else pure (some true)) (fun r s'=>Θ (Ξ prog w) A (match r with | some added=>pure added | none=>nO a (.str x t) (hashStr w x) 99999) Q E s') E s:=by
   cases hp:t1.plain with
   | true=>
    rw [if_pos rfl]
    refine ε (ι ?_)
    exact go { t1 with plain:=false } (Ϟ.fits_plain_off p2) (p3.trans l1) rfl
   | false=>
    rw [if_neg (by simp)]
    refine ε (ι ?_)
    exact go t1 p2 (p3.trans l1) hp
  cases gv with
  | true=>exact ε (aB mid)
  | false=>exact ε (ι mid)
end
section
variable {prog:Τ}{w:ϝ}
noncomputable def ledW (w:ϝ):Bool:=!(w.params.followText "set-order")
noncomputable def set0 (w:ϝ):Obj:={ cls:=.type "set",dict:=none,data:=.set #[] 0 (.fresh 0 0 (ledW w)) }
theorem ts0 {h:Heap}{a:Addr}(ho:h.get? a=some (set0 w)):Ts w h a (ledW w) []:=
 ⟨#[],0,_,⟨⟨_,ho,⟨rfl,rfl,rfl⟩,rfl⟩,(fun e he=>nomatch he),rfl,rfl,.inl rfl⟩,bw _⟩
theorem Ts.keep {h h':Heap}{a:Addr}{led:Bool}{ks:List Str}(t:Ts w h a led ks) (k:∀ o,h.get? a=some o->h'.get? a=some o):Ts w h' a led ks:=by
 obtain ⟨es,ep,tb,⟨⟨o,ho,r⟩,x1,x2,x3,x4⟩,pm⟩:=t
 exact ⟨es,ep,tb,⟨⟨o,k o ho,r⟩,x1,x2,x3,x4⟩,pm⟩
noncomputable def Wh (ks:List Str):List Str:=ks.foldl addK []
theorem zcW (ks:List Str) (x:Str):(addK ks x).length<=ks.length+1:=by
 unfold addK;split <;> simp
theorem zbp (a:δ) {Q₁:δ->ν->Prop}(h:Q₁ (.ref s.heap.objs.size) { s with heap:=s.heap.push (set0 w) }):
  lQ (Ξ prog w) A (.call (.builtin "set.__new__") ⟨[.type "set",a],[]⟩) (wants Q₁ E) s:=by
 refine codeAny_of_tree ?_
 show Θ _ A.in1 (do checkBuiltinCall "set.__new__" ⟨[.type "set",a],[]⟩;again (.builtin "set.__new__" ⟨[.type "set",a],[]⟩)) _ _ s
 refine ε (bN (PySem.F.newCall_set_1 a) (ι ⟨lD mW _,dM PySem.F.entry_set_new ?_⟩))
 rw [cP mW _]
 unfold Ω.«set.__new__» Ω.Frozenset.newClass
 have hsub:=sub_set_self
 obtain ⟨hp,g,d,tk,os⟩:=s
 dsimp only
 wp_walk
 refine mD (ι ?_)
 dsimp only
 simp only [newObj]
 exact ε (wpAny_alloc (ι (ι h)))
theorem zcy {R:Result->ν->Prop}{I:Addr}{fp wr:List Addr}{G:Array GenState->Array GenState->Prop}{n:Nat}{P:Nat->δ->Prop}{Sx:Nat->ν->Prop}
  (W:WalksS prog w A.in1 I fp wr G n P Sx) (S:Addr) (hS:S ∉ fp) {led:Bool}{val:List Str}(hv:val.length=n) (hP:∀ i v,P i v->∀ x,val[i]?=some x->∃ t,v=.str x t) (hb:n+1 < 4096):
  ∀ (k:Nat) (ks:List Str) (s:ν),k<=n->ks.length<=n - k->Sx (n - k) s->Ts w s.heap S led ks ->
   (∀ s',Moved (S::wr) G s s'->Ts w s'.heap S led ((val.drop (n - k)).foldl addK ks)->R (.ok (.ret .none)) s') ->
   lQ (Ξ prog w) A (.builtin "set.update.loop" ⟨[.ref S,.ref I],[]⟩) R s:=by
 have nw:S ∉ wr:=fun h=>hS (W.sub _ h)
 have sub:∀ b∈wr,b∈S::wr:=fun b hb=>θ _ hb
 intro k
 induction k with
 | zero=>
  intro ks s _ _ st hs r
  refine dM fP ?_
  rw [cP b7 _]
  refine ε (W.done s _ _ st fun s' m=>ι (r s' (m.mono sub) ?_))
  rw [dO (by omega)]
  exact hs.keep fun o e=>m.heap S o nw e
 | succ k ih=>
  intro ks s hk hl st hs r
  obtain ⟨x,hx⟩:∃ x,val[n - (k+1)]?=some x:=⟨val[n - (k+1)]'(by omega),χ _⟩
  have dr:val.drop (n - (k+1))=x::val.drop (n - k):=by
   rw [c7 (by omega),show n - (k+1)+1=n - k by omega]
   rw [χ (by omega)] at hx
   rw [ϛ hx]
  refine dM fP ?_
  rw [cP b7 _]
  refine ε (W.item _ s _ _ (by omega) st fun v s' hp st' m=>?_)
  obtain ⟨t,rfl⟩:=hP _ v hp x hx
  have hs':=hs.keep (h':=s'.heap) fun o e=>m.heap S o nw e
  refine ε (aU ?_)
  unfold setAdd
  refine aU (ε (wpAny_pyHash_str (x:=x) (ze6 (s:={ s' with toks:=s'.toks+1 }) hs' (by omega) fun b h' sb hs2=>?_)))
  rw [show n - (k+1)+1=n - k by omega] at st'
  refine ι ⟨lD b7 _,ih (addK ks x) _ (by omega) (by have:=zcW ks x;omega) (W.frame _ s' _ _ st' (Nat.le_succ _) fun b hb o e=>?_) hs2 fun s2 m2 z=>?_⟩
  ·rw [sb.2 b (fun h:b=S=>hS (by rw [<- h];exact hb))];exact e
  ·refine r s2 (Moved.trans W.gtrans ((m.mono sub).then_heap (Nat.le_succ _) fun b o hb e=>?_) m2) (by rw [dr];exact z)
   rw [sb.2 b (fun h:b=S=>hb (by rw [h];exact μ))];exact e
end
section
variable {prog:Τ}{w:ϝ}
structure Row (prog:Τ) (w:ϝ) (T:String) (l:Addr) (its:Array δ) (OK:Heap->Prop) (Sx:Addr->Nat->Heap->Prop) (itO:Obj):Prop where
 there:∀ h,OK h->∃ o,h.get? l=some o/\o.cls=.type T
 keep:∀ h h',OK h->(∀ o,h.get? l=some o->h'.get? l=some o)->OK h'
 it:∀ {A:ϟ}{E:δ->ν->Prop}{s:ν}{Q:δ->ν->Prop},OK s.heap->Q (.ref s.heap.objs.size) { s with heap:=s.heap.push itO }->Θ (Ξ prog w) A (lF (.ref l)) Q E s
 wk:∀ {A:ϟ}(I:Addr),A.handled=none->l≠I->Walks prog w A I [I,l] [I] its.size (fun i v=>its[i]?=some v) (Sx I)
 st:∀ h,OK h->Sx h.objs.size 0 (h.push itO)
 n1:isSubtype (.type T) (.type "set")=pure false
 n2:isSubtype (.type T) (.type "frozenset")=pure false
 n3:(ϓ T==ϓ "dict")=false
theorem rowL (l:Addr) (its:Array δ):Row prog w "list" l its (fun h=>h.IsList l its) (fun I i h=>h.IsListIter I l i/\h.IsList l its) { cls:=.type "list_iterator",data:=.fields #[.ref l,.int 0 0] } where
 there:=fun h ⟨o,e,c,_⟩=>⟨o,e,c⟩
 keep:=fun h h' ⟨o,e,r⟩ k=>⟨o,k o e,r⟩
 it:=fun h q=>gh h q
 wk:=fun I hh hn=>Walks.list hh I l hn its
 st:=fun h k=>⟨⟨_,Δ _ rfl,rfl,rfl⟩,k.push _⟩
 n1:=PySem.F.sub_list_set
 n2:=PySem.F.sub_list_frozenset
 n3:=by decide
theorem rowT (l:Addr) (its:Array δ):Row prog w "tuple" l its (fun h=>h.IsTuple l its) (fun I i h=>h.IsTupleIter I l i/\h.IsTuple l its) { cls:=.type "tuple_iterator",data:=.fields #[.ref l,.int 0 0] } where
 there:=fun h ⟨o,e,c,_⟩=>⟨o,e,c⟩
 keep:=fun h h' ⟨o,e,r⟩ k=>⟨o,k o e,r⟩
 it:=fun h q=>lE h q
 wk:=fun I hh hn=>Walks.tuple hh I l hn its
 st:=fun h ⟨o,e,r⟩=>⟨⟨_,Δ _ rfl,rfl,rfl⟩,⟨o,η _ e,r⟩⟩
 n1:=by rw [iI];kernel_rfl
 n2:=by rw [iI];kernel_rfl
 n3:=by decide
theorem zab {T:String}{l:Addr}{its:Array δ}{OK:Heap->Prop}{Sx:Addr->Nat->Heap->Prop}{itO:Obj}{val:List Str}{Q:δ->ν->Prop}(R:Row prog w T l its OK Sx itO) (hh:A.handled=none) (hl:OK s.heap)
  (hv:val.length=its.size) (hP:∀ (i:Nat) (v:δ),its[i]?=some v->∀ x,val[i]?=some x->∃ t,v=.str x t) (hb:its.size+1 < 4096)
  (h:∀ (h':Heap) (tk:Nat),Ts w h' s.heap.objs.size (ledW w) (Wh val)->(∀ b o,s.heap.get? b=some o->h'.get? b=some o)->Q (.ref s.heap.objs.size) { s with heap:=h',toks:=tk }):
  Θ (Ξ prog w) A (call (.type "set") [.ref l]) Q E s:=by
 obtain ⟨c,tl,hmro⟩:=aJ.mro
 have hmade:=aJ.made
 have hsub:=aJ.sub
 refine wpAny_call (codeAny_of_tree ?_)
 show Θ _ _ (callAny (.type "set") _) _ _ _
 refine ι ⟨Code.quiet_builtin _ (by decide +kernel),dM PySem.F.entry_type_call ?_⟩
 rw [ϟ.under_plain (weight_type_call_type "set" [.ref l] []) rfl]
 have h1:=aJ.notType
 have h2:=aJ.canCreate
 have hct:=PySem.F.typeCall_set_1 (.ref l)
 repeat (any_goals (first | assumption | wp_step))
 refine fJ (zbp (.ref l) (E:=E) (Q₁:=fun ob s1=>ob=.ref s.heap.objs.size/\s1={ s with heap:=s.heap.push (set0 w) }) ⟨rfl,rfl⟩) fun r s1 hr=>?_
 cases r with
 | error e=>exact hr
 | ok fl=>
  cases fl with
  | ret ob=>
   obtain ⟨rfl,rfl⟩:=hr
   have hS:(s.heap.push (set0 w)).get? s.heap.objs.size=some (set0 w):=Δ _ rfl
   have hT:dg { s with heap:=s.heap.push (set0 w) } (.ref s.heap.objs.size) "set":=⟨_,hS,rfl⟩
   have hli:=aJ.init.lookup
   have hbi:=aJ.init.bind (.ref s.heap.objs.size)
   repeat (any_goals (first | assumption | wp_step))
   refine fJ (codeAny_call_builtin (R:=wants (fun r s2=>r=.none/\∃ h' tk,s2={ s with heap:=h',toks:=tk }/\Ts w h' s.heap.objs.size (ledW w) (Wh val)/\∀ b o,s.heap.get? b=some o->h'.get? b=some o) E)
    aJ.init.plain PySem.F.entry_set_init (check_set_init_1 hT ?_)) fun r2 s2 hr2=>?_
   ·obtain ⟨ol,hol,hcl⟩:=R.there _ hl
    have lt:=Β hol
    have hol':(s.heap.push (set0 w)).get? l=some ol:=η _ hol
    have ok1:OK (s.heap.push (set0 w)):=R.keep _ _ hl fun o e=>η _ e
    have k1:=R.n1
    have k2:=R.n2
    have k3:=R.n3
    have hty:dg { s with heap:=s.heap.push (set0 w) } (.ref l) T:=⟨_,hol',hcl⟩
    unfold Ω.«set.__init__» noKeywords Ω.Frozenset.updateFrom
    generalize hPI:lF=PI
    wp_walk
    subst hPI
    have hh3:A.in1.in1.in1.handled=none:=by simp [hh]
    have sz:(s.heap.push (set0 w)).objs.size=s.heap.objs.size+1:=by rw [fB]
    have ne:l≠(s.heap.push (set0 w)).objs.size:=by rw [sz];exact ϊ (dX lt)
    refine R.it (s:={ s with heap:=s.heap.push (set0 w) }) ok1 (ε (wpAny_runValue (zcy (led:=ledW w) (val:=val) (R.wk _ hh3 ne).toS s.heap.objs.size ?_ hv hP hb its.size [] _ (π _) (bA _) ?_ ?_ fun s' m z=>?_)))
    ·rw [sz]
     intro hm
     rcases Η.mp hm with e | hm
     ·exact ϊ (lJ _) e
     ·rw [υ] at hm;exact gq lt hm
    ·rw [nP];exact R.st _ ok1
    ·exact ts0 (η _ hS)
    ·rw [nP,mj] at z
     obtain ⟨h',g',d',tk',os'⟩:=s'
     have e1:g'=s.gens:=m.gens
     have e2:d'=s.drawn:=m.drawn
     have e3:os'=s.os:=m.os
     subst e1 e2 e3
     refine ι (ι ⟨rfl,h',tk',rfl,z,fun b o e=>?_⟩)
     have lb:=Β e
     refine m.heap b o ?_ (η _ (η _ e))
     rw [sz]
     intro hm
     rcases Η.mp hm with e | hm
     ·exact ϊ lb e
     ·rw [υ] at hm;exact ϊ (dX lb) hm
   ·cases r2 with
    | error e=>exact hr2
    | ok fl2=>
     cases fl2 with
     | ret r=>
      obtain ⟨rfl,h',tk,rfl,z,hk⟩:=hr2
      repeat (any_goals (first | assumption | wp_step))
      exact h _ _ z hk
     | _=>exact hr2.elim
  | _=>exact hr.elim
end
section
variable {prog:Τ}{w:ϝ}
theorem Kr {src:Source}{n:Nat}{Q:Nat->ν->Prop}(hn:n≠0) (q:∀ i d,i < n->Q i { s with drawn:=d }):Θ (Ξ prog w) A (choose src n) Q E s:=by
 intro Γ p h
 exact ⟨hn,q _ _ (Nat.mod_lt _ (Nat.pos_of_ne_zero hn))⟩
theorem kZ {α:Type}:∀ (xs:List α) (i:Nat) (hi:i < xs.length),(xs[i]::xs.eraseIdx i).Perm xs
 | x::xs,0,_=>bw _
 | x::xs,i+1,hi=>(aN.swap _ _ _).trans ((kZ xs i (by simpa using hi)).cons x)
theorem zA {α:Type}(n:Nat):∀ (xs:List α) (s:ν) {Q:List α->ν->Prop},xs.length=n->(∀ ys d,ys.Perm xs->Q ys { s with drawn:=d })->Θ (Ξ prog w) A (drawOrder n xs) Q E s:=by
 induction n with
 | zero=>
  intro xs s Q h q
  cases xs with
  | nil=>exact ι (q [] s.drawn (bw _))
  | cons x xs=>cases h
 | succ n ih=>
  intro xs s Q h q
  cases xs with
  | nil=>cases h
  | cons x xs=>
   show Θ _ _ (choose .order (x::xs).length >>= _) _ _ _
   refine ε (Kr (by simp) fun i d hi=>?_)
   rw [χ hi]
   refine ε (ih _ _ (by rw [nY,if_pos hi];simp at h;simp [h]) fun ys d' p=>ι ?_)
   refine q _ d' ((p.cons _).trans ?_)
   exact kZ _ _ hi
end
theorem km:Slot "set_iterator" "__next__" "set_iterator.__next__":=
 .of (owner:="set_iterator") (n:="__next__") (by rw [m7,iu];kernel_rfl) (by decide +kernel) (by decide +kernel) (by decide +kernel)
  (by first | exact .inl (by decide +kernel) | exact .inr (by decide +kernel)) (by rw [iI];kernel_rfl)
theorem Q4:entryFor table "set_iterator.__next__"=some Ω.«set_iterator.__next__»:=entryFor_of_fast (by kernel_rfl)
theorem zcS (a:δ):argsOk "set_iterator.__next__" ⟨[a],[]⟩:=by unfold argsOk;kernel_rfl
theorem Xf:entryFor table "set.__iter__"=some Ω.«frozenset.__iter__»:=entryFor_alias (id':="frozenset.__iter__") (by kernel_rfl) rfl (by decide +kernel) (by kernel_rfl)
section
variable {prog:Τ}{w:ϝ}
theorem zbj {P:Fin->ν->Prop}(hh:A.handled=none) (q:∀ (e:δ) (h':Heap),(∀ b o,s.heap.get? b=some o->h'.get? b=some o)->dg { s with heap:=h' } e "StopIteration"->E e { s with heap:=h' }):
  Θ (Ξ prog w) A (do raiseNew (<- newExc (.type "StopIteration") []):Sem Fin) P E s:=by
 refine ε ?_
 simp only [newExc,newTuple]
 refine ε (Ϩ ?_ (by size_fits))
 refine ε (m:=firstArgMember _ _) (bN (a:=Ο) (by first | rfl | (simp only [firstArgMember];rfl)) ?_)
 refine Ϩ ?_ (by size_fits)
 simp only [raiseNew]
 refine ε (wpAny_handled ?_)
 rw [hh]
 exact ε (ι (wpAny_throw (q (.ref _) _ (fun b o e=>η _ (η _ e)) ⟨_,Δ _ rfl,rfl⟩)))
theorem Jj {I:Addr}{Q:Option δ->ν->Prop}(hT:s.TypeIs (.ref I) "set_iterator")
  (h:Θ (Ξ prog w) A.in1 (Ω.«set_iterator.__next__» ⟨[.ref I],[]⟩) (fun f s'=>∃ x,f=.done (.ret x)/\Q (some x) s') (fun e s'=>s'.TypeIs e "StopIteration"/\Q none s') s):Θ (Ξ prog w) A (pyNext (.ref I)) Q E s:=by
 unfold pyNext
 refine ε (lC (aC (name:=lw "__next__") hT km (Ϲ km hT Q4 (cG h (fun f s' k=>?_) fun e s' k=>?_) (zcS _))))
 ·obtain ⟨x,rfl,k⟩:=k
  exact ⟨x,rfl,ι k⟩
 ·exact ε (mC (T:="StopIteration") (b:=true) k.1 isSubtype_stop (ι k.2))
noncomputable def SI (f:δ) (i n ep:Nat) (a:Addr):Obj:={ cls:=.type "set_iterator",data:=.fields #[f,.int i 0,.ref a,.int n 0,.int ep 0] }
def Fst (w:ϝ) (h:Heap) (I a tp:Addr) (es:Array (Int×δ)) (ep:Nat) (tb:Ϟ) (ord:List (Int×δ)) (i:Nat) (f:δ):Prop:=
 (w.params.followText "set-order"=true/\(∃ k:Nat,f=.int k 0)/\ord=(mF (w.params.setOrder a ep) es).toList) \/
 (w.params.followText "set-order"=false/\∃ (js:List Nat),f=.ref tp/\tp≠I/\(∃ o n,h.get? tp=some o/\o.data=.seq (js.map fun j:Nat=>ϙ j 0).toArray n)/\js.length=ord.length/\∀ (k:Nat) j,js[k]?=some j->es[j]?=ord[k]?) \/
 (w.params.followText "set-order"=false/\es.size<=1/\tb.led=true/\ord=es.toList/\f=.int (if i=0 then 0 else tb.place.getD 0 0+1:Nat) 0)
theorem Zt {α:Type}(nx:Nat->Nat):∀ (n k:Nat) (l:List α) (out:Array α),l.length=n->(lO nx n k l out).toList.Perm (out.toList++l)
 | 0,k,[],out,_=>by simp [lO]
 | n+1,k,x::l,out,h=>by
  unfold lO
  have hi:nx k % (x::l).length < (x::l).length:=Nat.mod_lt _ (by simp)
  rw [χ hi]
  dsimp only
  refine (Zt nx n (k+1) _ _ (by rw [nY,if_pos hi];simp at h;simp [h])).trans ?_
  rw [cD,ό]
  exact (kZ _ _ hi).append_left _
end
section
variable {prog:Τ}{w:ϝ}{I a tp:Addr}{led:Bool}{es:Array (Int×δ)}{ep:Nat}{tb:Ϟ}{ord:List (Int×δ)}{i:Nat}{f:δ}
structure Wk (w:ϝ) (h:Heap) (I a tp:Addr) (led:Bool) (es:Array (Int×δ)) (ep:Nat) (tb:Ϟ) (ord:List (Int×δ)) (i:Nat):Prop where
 ne:a≠I
 st:St w h a led es ep tb
 it:∃ f,h.get? I=some (SI f i es.size ep a)/\Fst w h I a tp es ep tb ord i f
theorem jw {h:Heap}{o:Obj}{vs:Array δ}{k:Nat}{x:δ}(ho:h.get? I=some { cls:=.type "set_iterator",data:=.fields vs }):
  (h.update I (nq (·.setIfInBounds k x))).get? I=some { cls:=.type "set_iterator",data:=.fields (vs.setIfInBounds k x) }:=
 bH _ ho rfl
theorem qK {Q:Bool->ν->Prop}(q:Q (w.params.followText "set-order") s):Θ (Ξ prog w) A setsByText Q E s:=ε (mD (ι q))
theorem Jf {Q:Option (δ×Nat)->ν->Prop}{n:Nat}(st:St w s.heap a led es ep tb) (c:w.params.followText "set-order"=true) (q:Q ((mF (w.params.setOrder a ep) es)[i]?.map fun e=>(e.2,n)) s):Θ (Ξ prog w) A (setNext a n i ep) Q E s:=by
 obtain ⟨⟨so,so1,so2,so3⟩,tx,fit,l1,pl⟩:=st
 unfold setNext
 refine ε (cW so1 so3 fit (ε (qK ?_)))
 rw [c,if_pos rfl,if_neg (by simp)]
 unfold setWalk
 refine ε (ε (cW so1 so3 fit (ε (qK ?_))))
 rw [c,if_pos rfl]
 exact ε (mD (ι (ι q)))
theorem zaF {Q:Option (δ×Nat)->ν->Prop}{n:Nat}(st:St w s.heap a led es ep tb) (c:w.params.followText "set-order"=false) (c2:es.size<=1) (c3:tb.led=true)
  (q:Q (match es[bz tb.place n]?,tb.place[bz tb.place n]? with | some (_,x),some j=>some (x,j+1) | _,_=>none) s):Θ (Ξ prog w) A (setNext a n i ep) Q E s:=by
 obtain ⟨⟨so,so1,so2,so3⟩,tx,fit,l1,pl⟩:=st
 unfold setNext
 refine ε (cW so1 so3 fit (ε (qK ?_)))
 rw [c,if_neg (by simp)]
 show Θ _ _ (if (!tb.plain&&decide (es.size > 1))=true then _ else _) _ _ _
 rw [if_neg (by simp;omega)]
 refine ε (bN (a:=()) ?_ (ι q))
 show (if (!tb.led&&!es.isEmpty)=true then mL "set:maker-not-led" else pure ())=pure ()
 rw [c3];rfl
theorem QK {Q:δ->ν->Prop}{n:Nat}{x:Int×δ}(st:St w s.heap a led es ep tb) (e:es[n]?=some x) (q:Q x.2 s):Θ (Ξ prog w) A (setNextDrawn a n ep) Q E s:=by
 obtain ⟨⟨so,so1,so2,so3⟩,tx,fit,l1,pl⟩:=st
 unfold setNextDrawn
 refine ε (cW so1 so3 fit ?_)
 dsimp only
 rw [if_neg (by simp),e]
 exact ι q
theorem next_item {Q:Option δ->ν->Prop}{x:Int×δ}(k:Wk w s.heap I a tp led es ep tb ord i) (hx:ord[i]?=some x)
  (q:∀ h',(∀ b o,b≠I->s.heap.get? b=some o->h'.get? b=some o)->Wk w h' I a tp led es ep tb ord (i+1)->Q (some x.2) { s with heap:=h' }):Θ (Ξ prog w) A (pyNext (.ref I)) Q E s:=by
 obtain ⟨ne,st,f,ho,fs⟩:=k
 obtain ⟨⟨so,so1,so2,so3⟩,tx,fit,l1,pl⟩:=id st
 refine Jj ⟨_,ho,rfl⟩ ?_
 unfold Ω.«set_iterator.__next__»
 refine ε (bN (a:=(Ε I,[])) rfl (ε (wpAny_fieldsOf ho rfl ?_)))
 dsimp only
 refine ε (lu so1 so3 fit ?_)
 rw [if_neg (by simp)]
 have keepS:∀ {h':Heap},(∀ b o,b≠I->s.heap.get? b=some o->h'.get? b=some o)->St w h' a led es ep tb:=fun kk=>⟨⟨so,kk a so ne so1,so2,so3⟩,tx,fit,l1,pl⟩
 have kk1:∀ {y:Nat}{z:δ}{h:Heap},(∀ b o,b≠I->s.heap.get? b=some o->h.get? b=some o)->∀ b o,b≠I->s.heap.get? b=some o->(h.update I (nq (·.setIfInBounds y z))).get? b=some o:=fun hk b o hb e=>by
  rw [di _ _ _ _ hb];exact hk b o hb e
 have kk0:∀ b o,b≠I->s.heap.get? b=some o->s.heap.get? b=some o:=fun _ _ _ e=>e
 rcases fs with ⟨c1,⟨k,rfl⟩,c3⟩ | ⟨c1,js,rfl,c2,⟨o,n,c3,c4⟩,c5,c6⟩ | ⟨c1,c2,c3,c4,rfl⟩
 ·refine ε (Jf (i:=i) (n:=k) (ep:=ep) st c1 ?_)
  rw [<- bC,<- c3,hx]
  dsimp only [gf]
  have e1:=jw (o:=so) (k:=0) (x:=bD (k:Nat)) ho
  refine ε (aH ho rfl (by simp) (ε (aH e1 rfl (by simp) (ι ⟨_,rfl,q _ (kk1 (kk1 kk0)) ⟨ne,keepS (kk1 (kk1 kk0)),_,?_,.inl ⟨c1,⟨k,rfl⟩,c3⟩⟩⟩))))
  rw [jw (o:=so) e1]
  simp [SI,bD]
 ·refine ε (iD c3 c4 ?_)
  have hj:∃ j,js[i]?=some j:=by
   have:i < js.length:=by rw [c5];exact (Ζ.mp hx).1
   exact ⟨_,χ this⟩
  obtain ⟨j,hj⟩:=hj
  dsimp only
  rw [lA,gC,Ψ,hj]
  dsimp only [gf]
  refine ε (QK (n:=j) (ep:=ep) st (by rw [c6 i j hj];exact hx) (ε (aH ho rfl (by simp) (ι ⟨_,rfl,q _ (kk1 kk0) ⟨ne,keepS (kk1 kk0),_,?_,.inr (.inl ⟨c1,js,rfl,c2,⟨o,n,kk1 kk0 tp o c2 c3,c4⟩,c5,c6⟩)⟩⟩))))
  rw [jw (o:=so) ho]
  simp [SI,bD]
 ·subst c4
  have i0:i=0:=by have:=(Ζ.mp hx).1;rw [Φ] at this;omega
  subst i0
  have p1:tb.place.size=1:=by
   have:=(Ζ.mp hx).1
   rw [Φ] at this
   have f:=fit
   unfold Ϟ.fits at f
   simp only [ζ,beq_iff_eq] at f
   omega
  obtain ⟨j,pj⟩:∃ j,tb.place=#[j]:=nH.mp p1
  obtain ⟨x1,x2⟩:=x
  refine ε (zaF (n:=0) (i:=0) (ep:=ep) st c1 c2 c3 ?_)
  rw [pj]
  have b0:bz #[j] 0=0:=by simp [bz,lR]
  rw [b0,<- bC,hx,show (#[j]:Array Nat)[0]?=some j from rfl]
  dsimp only
  have e1:=jw (o:=so) (k:=0) (x:=bD (j+1:Nat)) ho
  refine ε (aH ho rfl (by simp) (ε (aH e1 rfl (by simp) (ι ⟨_,rfl,q _ (kk1 (kk1 kk0)) ⟨ne,keepS (kk1 (kk1 kk0)),_,?_,.inr (.inr ⟨c1,c2,c3,rfl,rfl⟩)⟩⟩))))
  rw [jw (o:=so) e1,pj]
  simp [SI,bD]
end
section
variable {prog:Τ}{w:ϝ}{I a tp:Addr}{led:Bool}{es:Array (Int×δ)}{ep:Nat}{tb:Ϟ}{ord:List (Int×δ)}{i:Nat}{f:δ}
theorem next_end {Q:Option δ->ν->Prop}(hh:A.handled=none) (k:Wk w s.heap I a tp led es ep tb ord ord.length) (hp:ord.Perm es.toList)
  (q:∀ h',(∀ b o,b≠I->s.heap.get? b=some o->h'.get? b=some o)->Q none { s with heap:=h' }):Θ (Ξ prog w) A (pyNext (.ref I)) Q E s:=by
 obtain ⟨ne,st,f,ho,fs⟩:=k
 obtain ⟨⟨so,so1,so2,so3⟩,tx,fit,l1,pl⟩:=id st
 have sz:ord.length=es.size:=by rw [hp.length_eq,Φ]
 refine Jj ⟨_,ho,rfl⟩ ?_
 unfold Ω.«set_iterator.__next__»
 refine ε (bN (a:=(Ε I,[])) rfl (ε (wpAny_fieldsOf ho rfl ?_)))
 dsimp only
 refine ε (lu so1 so3 fit ?_)
 rw [if_neg (by simp)]
 have kk1:∀ {y:Nat}{z:δ}{h:Heap},(∀ b o,b≠I->s.heap.get? b=some o->h.get? b=some o)->∀ b o,b≠I->s.heap.get? b=some o->(h.update I (nq (·.setIfInBounds y z))).get? b=some o:=fun hk b o hb e=>by
  rw [di _ _ _ _ hb];exact hk b o hb e
 have kk0:∀ b o,b≠I->s.heap.get? b=some o->s.heap.get? b=some o:=fun _ _ _ e=>e
 have fin:∀ (h:Heap) (P:Fin->ν->Prop),(∀ b o,b≠I->s.heap.get? b=some o->h.get? b=some o)->Θ (Ξ prog w) A.in1 (do raiseNew (<- newExc (.type "StopIteration") []):Sem Fin) P (fun e s'=>s'.TypeIs e "StopIteration"/\Q none s') { s with heap:=h }:=fun h P hk=>
  zbj (s:={ s with heap:=h }) (by simpa using hh) fun e h' k1 k2=>⟨k2,q h' fun b o hb e=>k1 b o (hk b o hb e)⟩
 rcases fs with ⟨c1,⟨k,rfl⟩,c3⟩ | ⟨c1,js,rfl,c2,⟨o,n,c3,c4⟩,c5,c6⟩ | ⟨c1,c2,c3,c4,rfl⟩
 ·refine ε (Jf (i:=ord.length) (n:=k) (ep:=ep) st c1 ?_)
  rw [<- bC,<- c3,cB (π _)]
  dsimp only [Option.map_none]
  exact ε (aH ho rfl (by simp) (fin _ _ (kk1 kk0)))
 ·refine ε (iD c3 c4 ?_)
  dsimp only
  rw [lA,gC,Ψ,cB (by rw [c5];exact π _)]
  dsimp only [Option.map_none]
  have e1:=jw (o:=so) (k:=0) (x:=bD 0) ho
  exact ε (aH ho rfl (by simp) (ε (aH e1 rfl (by simp) (fin _ _ (kk1 (kk1 kk0))))))
 ·subst c4
  have ft:tb.place.size=es.size:=by
   have f:=fit
   unfold Ϟ.fits at f
   simp only [ζ,beq_iff_eq] at f
   exact f.1
  obtain ⟨n,hn,hb⟩:∃ n:Nat,(if es.toList.length=0 then 0 else tb.place.getD 0 0+1:Nat)=n/\es.size<=bz tb.place n:=by
   refine ⟨_,rfl,?_⟩
   rcases Nat.lt_or_ge 0 es.size with h | h
   ·have p1:tb.place.size=1:=by omega
    obtain ⟨j,pj⟩:∃ j,tb.place=#[j]:=nH.mp p1
    rw [if_neg (by rw [Φ];omega),pj]
    have b1:bz #[j] (j+1)=1:=by simp [bz,lR]
    have b2:(#[j]:Array Nat).getD 0 0=j:=rfl
    rw [b2,b1];omega
   ·omega
  rw [hn]
  refine ε (zaF (n:=n) (i:=es.toList.length) (ep:=ep) st c1 c2 c3 ?_)
  rw [nA hb]
  dsimp only
  exact ε (aH ho rfl (by simp) (fin _ _ (kk1 kk0)))
theorem Wk.keep {h h':Heap}(k:Wk w h I a tp led es ep tb ord i) (kk:∀ b∈[I,a,tp],∀ o,h.get? b=some o->h'.get? b=some o):Wk w h' I a tp led es ep tb ord i:=by
 obtain ⟨ne,⟨⟨so,so1,so2⟩,z1,z2,z3,z4⟩,f,ho,fs⟩:=k
 refine ⟨ne,⟨⟨so,kk a (by simp) so so1,so2⟩,z1,z2,z3,z4⟩,f,kk _ (by simp) _ ho,?_⟩
 rcases fs with c | ⟨c1,js,c2,c3,⟨o,n,c4,c5⟩,c6⟩ | c
 ·exact .inl c
 ·exact .inr (.inl ⟨c1,js,c2,c3,⟨o,n,kk _ (by simp) _ c4,c5⟩,c6⟩)
 ·exact .inr (.inr c)
set_option tactic.hygienic true in
theorem zcp {Q:δ->ν->Prop}(st:St w s.heap a (ledW w) es ep tb) (hz:es.size<=sizeLine) (q:∀ (ord:List (Int×δ)) (I tp:Addr) (h':Heap) (d:Drawn),ord.Perm es.toList->(∀ b o,s.heap.get? b=some o->h'.get? b=some o)->s.heap.get? I=none->(tp=a\/s.heap.get? tp=none)->Wk w h' I a tp (ledW w) es ep tb ord 0->Q (.ref I) { s with heap:=h',drawn:=d }):
  Θ (Ξ prog w) A (lF (.ref a)) Q E s:=by
 obtain ⟨⟨so,so1,so2,so3⟩,tx,fit,l1,pl⟩:=id st
 have hT:s.TypeIs (.ref a) "set":=⟨_,so1,so2.1⟩
 refine wpAny_pyIter_slot hT mV (Ϲ mV hT Xf ?_ (PySem.F.args_set_iter_1 _))
 unfold Ω.«frozenset.__iter__» Ω.Frozenset.slot0 Ω.Frozenset.sizeOf setDrawn
 refine ε (bN (a:=a) rfl (ε (ε (lu so1 so3 fit (ι ?_)))))
 refine ε (ε (cW so1 so3 fit (ε (qK (ι ?_)))))
 have nI:∀ {h:Heap},s.heap.objs.size<=h.objs.size->s.heap.get? h.objs.size=none:=fun {h} hl=>by
  cases e:s.heap.get? h.objs.size with
  | none=>rfl
  | some o=>exact absurd (Β e) (Nat.not_lt.mpr hl)
 have na:∀ {h:Heap},s.heap.objs.size<=h.objs.size->a≠h.objs.size:=fun {h} hl e=>cA _ (ϐ (e ▸ Β so1) hl)
 have fin:∀ (f:δ) (tp:Addr) (ord:List (Int×δ)) (h:Heap) (d:Drawn),s.heap.objs.size<=h.objs.size->(∀ b o,s.heap.get? b=some o->h.get? b=some o)->ord.Perm es.toList->(tp=a\/s.heap.get? tp=none)->Fst w (h.push (SI f 0 es.size ep a)) h.objs.size a tp es ep tb ord 0 f ->
   Θ (Ξ prog w) A.in1 (do ret (<- newFields "set_iterator" [f,bD 0,.ref a,bD es.size,bD (<- setEpoch a)])) (fun f' s'=>∃ v,f'=.done (.ret v)/\∃ T u,s'.TypeIs v T/\typeLookup (.type T) (lw "__next__")=pure (some u)/\Q v s') E { s with heap:=h,drawn:=d }:=by
  intro f tp ord h d hl hk pm ht fs
  refine ε (wpAny_setEpoch_of (hk a so so1) so3 fit (ε (Ϩ (ι ⟨_,rfl,"set_iterator",_,⟨_,Δ _ rfl,rfl⟩,km.lookup,?_⟩))))
  refine q ord h.objs.size tp (h.push (SI f 0 es.size ep a)) d pm (fun b o e=>η _ (hk b o e)) (nI hl) ht ⟨na hl,⟨⟨so,η _ (hk a so so1),so2,so3⟩,tx,fit,l1,pl⟩,f,Δ _ rfl,fs⟩
 cases c:w.params.followText "set-order" with
 | true=>
  show Θ _ _ (if (!true&&(!tb.plain&&decide (es.size > 1)))=true then _ else _) _ _ _
  rw [if_neg (by simp)]
  refine ε (ι (fin (bD 0) a _ s.heap s.drawn (π _) (fun _ _ e=>e) ?_ (.inl rfl) (.inl ⟨c,⟨0,rfl⟩,rfl⟩)))
  exact Zt _ _ _ _ _ (Φ ..)
 | false=>
  show Θ _ _ (if (!false&&(!tb.plain&&decide (es.size > 1)))=true then _ else _) _ _ _
  split
  ·rename_i g
   refine ε (zA _ _ _ (fM ..) fun js d pj=>ε (nJ ?_ (by rw [Ν,pj.length_eq,fM];exact hz)))
   have lj:js.length=es.size:=by rw [pj.length_eq,fM]
   have jb:∀ j∈js,j < es.size:=fun j hj=>bB.mp (pj.mem_iff.mp hj)
   have om:∀ js:List Nat,(∀ j∈js,j < es.size)->(js.filterMap (es[·]?)).length=js.length/\∀ (k:Nat) (j:Nat),js[k]?=some j->es[j]?=(js.filterMap (es[·]?))[k]?:=by
    intro js
    induction js with
    | nil=>exact fun _=>⟨rfl,fun k j h=>by simp at h⟩
    | cons x js ih=>
     intro hb
     obtain ⟨h1,h2⟩:=ih fun j hj=>hb j (θ _ hj)
     have hx:es[x]?=some (es[x]'(hb x μ)):=fG _
     rw [dh,hx]
     refine ⟨by simp [h1],fun k j h=>?_⟩
     cases k with
     | zero=>cases (ϛ h);rw [hx];rfl
     | succ k=>exact h2 k j h
   obtain ⟨o1,o2⟩:=om js jb
   refine fin (.ref s.heap.objs.size) s.heap.objs.size (js.filterMap (es[·]?)) _ d (by rw [size_push'];exact Nat.le_succ _) (fun b o e=>η _ e) ?_ (.inr (nI (π _))) (.inr (.inl ⟨c,js,rfl,?_,⟨_,_,η _ (Δ _ rfl),rfl⟩,o1.symm,o2⟩))
   ·refine (pj.filterMap _).trans ?_
    rw [show (fun x=>es[x]?)=fun i=>es[i]? from rfl,filterMap_getElem?_range]
   ·rw [size_push'];exact ϊ (lJ _)
  ·rename_i g
   refine ε (ι (fin (bD 0) a es.toList s.heap s.drawn (π _) (fun _ _ e=>e) (bw _) (.inl rfl) (.inr (.inr ⟨c,?_,?_,rfl,rfl⟩))))
   ·rcases pl with p | p
    ·omega
    ·rw [p] at g;simp at g;omega
   ·rw [l1,ledW,c];rfl
end
theorem X7:Slot "set_iterator" "__iter__" "set_iterator.__iter__":=
 .of (owner:="set_iterator") (n:="__iter__") (by rw [m7,iu];kernel_rfl) (by decide +kernel) (by decide +kernel) (by decide +kernel)
  (by first | exact .inl (by decide +kernel) | exact .inr (by decide +kernel)) (by rw [iI];kernel_rfl)
theorem Ka:entryFor table "set_iterator.__iter__"=some Ω.«dict_keyiterator.__iter__»:=entryFor_alias (id':="dict_keyiterator.__iter__") (by kernel_rfl) rfl (by decide +kernel) (by kernel_rfl)
theorem zai (a:δ):argsOk "set_iterator.__iter__" ⟨[a],[]⟩:=by unfold argsOk;kernel_rfl
theorem zbq:typeLookup (.type "set") "__len__"=pure (some (.builtin "set.__len__")):=by rw [m7,iu];kernel_rfl
section
variable {prog:Τ}{w:ϝ}{I a tp:Addr}{led:Bool}{es:Array (Int×δ)}{ep:Nat}{tb:Ϟ}{ord:List (Int×δ)}{i:Nat}{f:δ}
theorem K8 (hh:A.handled=none) (hp:ord.Perm es.toList):Walks prog w A I [I,a,tp] [I] ord.length (fun i v=>(ord.map (·.2))[i]?=some v) (fun i h=>Wk w h I a tp led es ep tb ord i) where
 sub:=fun b hb=>by simp at hb;simp [hb]
 frame:=fun _ _ _ st hk=>st.keep hk
 item:=fun i s Q E hi st hQ=>next_item (x:=ord[i]) st (χ hi) fun h' k st'=>hQ _ h' s.toks (by simp [hi]) st' fun b o hb e=>k b o (by simpa using hb) e
 done:=fun s Q E st hQ=>next_end hh st hp fun h' k=>hQ h' s.toks fun b o hb e=>k b o (by simpa using hb) e
 self:=fun i s Q E st hQ=>by
  obtain ⟨f,ho,_⟩:=st.it
  have hT:s.TypeIs (.ref I) "set_iterator":=⟨_,ho,rfl⟩
  refine wpAny_pyIter_slot hT X7 (Ϲ X7 hT Ka ?_ (zai _))
  exact ι ⟨_,rfl,"set_iterator",_,hT,km.lookup,hQ⟩
theorem Xm {R:List δ->ν->Prop}(hh:A.handled=none) (st:St w s.heap a (ledW w) es ep tb) (hz:es.size < 4096)
  (h:∀ (ord:List (Int×δ)) (h':Heap) (tk:Nat) (d:Drawn),ord.Perm es.toList->s.heap.objs.size<=h'.objs.size->(∀ b o,s.heap.get? b=some o->h'.get? b=some o)->R (ord.map (·.2)) { s with heap:=h',toks:=tk,drawn:=d }):Θ (Ξ prog w) A (collect (.ref a)) R E s:=by
 obtain ⟨⟨so,so1,so2,so3⟩,z1,z2,z3,z4⟩:=id st
 have hn:es.size<=sizeLine:=by rw [Ϻ];omega
 have lt:=Β so1
 unfold collect
 refine ε (wpAny_runValue (dM PySem.F.entry_proto_collect ?_))
 rw [cP PySem.F.plain_proto_collect _]
 show Θ _ A.in1 (newList [] >>= fun l=>again (.builtin "list.__iadd__" ⟨[l,.ref a],[]⟩)) _ _ s
 refine ε (Ϩ (ι ⟨lD lW _,dM PySem.F.entry_list_iadd ?_⟩))
 rw [cP lW _]
 show Θ _ A.in1 (bV (.ref s.heap.objs.size) (.ref a) (.ref s.heap.objs.size)) _ _ _
 generalize h1e:s.heap.push { cls:=.type "list",data:=.seq ([]:List δ).toArray }=h1
 have k1:∀ b o,s.heap.get? b=some o->h1.get? b=some o:=fun b o e=>by rw [<- h1e];exact η _ e
 have hS:h1.get? s.heap.objs.size=some { cls:=.type "list",data:=.seq #[] }:=by rw [<- h1e];exact Δ _ rfl
 have st1:St w h1 a (ledW w) es ep tb:=⟨⟨so,k1 a so so1,so2,so3⟩,z1,z2,z3,z4⟩
 have hT:∀ (h:Heap) (d:Drawn),(∀ b o,h1.get? b=some o->h.get? b=some o)->dg { s with heap:=h,drawn:=d } (.ref a) "set":=fun h d k=>⟨so,k a so (k1 a so so1),so2.1⟩
 have nSa:s.heap.objs.size≠a:=gq lt
 unfold bV
 refine ε (cF (hT h1 s.drawn fun _ _ e=>e) ?_)
 have e1:lr (.ref s.heap.objs.size) (.ref a)=false:=by simp [lr,nSa]
 rw [if_neg (by rw [e1];decide)]
 refine ε (zcp (s:={ s with heap:=h1 }) st1 hn fun ord I tp h2 d pm k2 nI nt wk=>?_)
 refine ε (aU ?_)
 unfold Ω.List.listLengthHint
 refine ε (wpAny_specialOf (hT h2 d k2) zbq ?_)
 (generalize hid:("set.__len__":String)=id0;wp_delta;rw [show splitId id0=some ("set","__len__") from by subst hid;decide +kernel];subst hid)
 refine ε (mC (b:=true) (hT h2 d k2) sub_set_self ?_)
 rw [if_neg (by simp),if_pos (by decide +kernel)]
 refine ε (cF (hT h2 d k2) (ι ?_))
 rw [if_pos (by decide +kernel)]
 have nIS:I≠s.heap.objs.size:=fun e=>by rw [e] at nI;have nI:h1.get? _=none:=nI;rw [hS] at nI;cases nI
 have ntS:tp≠s.heap.objs.size:=fun e=>by
  rcases nt with z | z
  ·exact nSa (e.symm.trans z)
  ·rw [e] at z;have z:h1.get? _=none:=z;rw [hS] at z;cases z
 have hSf:s.heap.objs.size ∉ [I,a,tp]:=fun hm=>by
  rcases Η.mp hm with z | hm
  ·exact nIS z.symm
  ·rcases Η.mp hm with z | hm
   ·exact nSa z
   ·exact ntS (υ.mp hm).symm
 have hS2:=k2 _ _ hS
 have hS3:=bH (bf (·.push Ο)) hS2 rfl
 have hS4:=bH (bf (·.pop)) hS3 rfl
 refine ε (aB (ε ?_))
 unfold Ω.List.listTouch
 refine ε (gm hS2 rfl (gm hS3 rfl ?_ (by rw [Ϻ];decide) (by rw [Ϻ];decide)) (by rw [Ϻ];decide) (by rw [Ϻ];decide))
 have kk:∀ b o,b≠s.heap.objs.size->h2.get? b=some o->((h2.update s.heap.objs.size (bf (·.push Ο))).update s.heap.objs.size (bf (·.pop))).get? b=some o:=fun b o hb e=>by
  rw [di _ _ _ _ hb,di _ _ _ _ hb];exact e
 refine ι ⟨lD PySem.F.plain_extend_loop _,codeAny_extend_loopS (K8 (led:=ledW w) (es:=es) (ep:=ep) (tb:=tb) (tp:=tp) (a:=a) (by simpa using hh) pm).toS (by rw [pm.length_eq,Φ];exact hn) s.heap.objs.size hSf _ ord.length 0 _ #[] _ rfl (bA _)
  (wk.keep fun b hb o e=>kk b o (fun z=>hSf (z ▸ hb)) e) hS4 (ItemsOf.nil _) fun s' acc c m hS' hacc=>?_⟩
 refine ε (wpAny_load hS' (ι ?_))
 have ea:acc.toList=ord.map (·.2):=by
  apply lq
  intro j
  by_cases hj:j < acc.size
  ·rw [bC,fG hj,hacc.2 j _ (fG hj)]
  ·rw [cB (by rw [Φ];omega),cB (by rw [Ν,<- hacc.1];omega)]
 obtain ⟨h',g',d',tk',os'⟩:=s'
 have g1:g'=s.gens:=m.gens
 have g2:d'=d:=m.drawn
 have g3:os'=s.os:=m.os
 subst g1 g2 g3
 rw [ea]
 refine h ord h' tk' d' pm ?_ fun b o e=>?_
 ·have:=Β hS'
  exact gr this
 ·have hb:b≠s.heap.objs.size:=ϊ (Β e)
  refine m.heap b o (fun hm=>?_) (kk b o hb (k2 b o (k1 b o e)))
  rcases Η.mp hm with z | hm
  ·exact hb z
  ·rw [υ.mp hm] at e
   have nI:h1.get? I=none:=nI
   rw [k1 _ _ e] at nI;cases nI
end
noncomputable def strB (x y:Str):Bool:=decide (x.cps.toList < y.cps.toList)
theorem zbi (x:Str):strB x x=false:=decide_eq_false (List.lt_irrefl _)
theorem zdg (x y z:Str) (h:strB x y=true) (k:strB y z=true):strB x z=true:=decide_eq_true (List.lt_trans (of_decide_eq_true h) (of_decide_eq_true k))
theorem zbh (x y z:Str) (h:strB x z=true):strB x y=true\/strB y z=true:=by
 by_cases k:x.cps.toList < y.cps.toList
 ·exact .inl (decide_eq_true k)
 ·right
  have k:y.cps.toList<=x.cps.toList:=List.not_lt.mp k
  exact decide_eq_true (List.lt_of_le_of_lt k (of_decide_eq_true h))
theorem Uc (x y:Str) (h:strB x y=false) (k:strB y x=false):x=y:=by
 have h1:y.cps.toList<=x.cps.toList:=List.not_lt.mp (of_decide_eq_false h)
 have h2:x.cps.toList<=y.cps.toList:=List.not_lt.mp (of_decide_eq_false k)
 have e:=List.le_antisymm h2 h1
 obtain ⟨⟨l⟩⟩:=x
 obtain ⟨⟨m⟩⟩:=y
 cases (show l=m from e)
 rfl
noncomputable def strO:Ϝ:=⟨Str,strB,zbi,zdg,zbh,Uc⟩
noncomputable def strV:δ->Str
 | .str x _=>x
 | _=>⟨#[]⟩
def IsTx (v:δ):Prop:=∃ x t,v=.str x t
section
variable {prog:Τ}{w:ϝ}
theorem zeo {G:ω->Prop}(hg:∀ x,G x->IsTx x.1):LtOk strO (fun x=>strV x.1) G oneType' (Ξ prog w) A E s:=by
 intro x y st Q gx gy hk q
 obtain ⟨a,t,e1⟩:=hg x gx
 obtain ⟨b,u,f1⟩:=hg y gy
 rw [lt'_eq]
 refine ο (dJ ?_)
 have q:Q (some (strB (strV x.1) (strV y.1))) st:=q
 rw [e1,f1] at q
 rw [hk,e1,f1]
 exact ο (fU (lC (W.kas_lt_str ⟨rfl,Α q⟩)))
theorem QR {vs:List δ}(h2:2<=vs.length) (hv:∀ v∈vs,IsTx v) {Q:dH->ν->Prop}(q:Q oneType' s):Θ (Ξ prog w) A (keyKind' vs.toArray) Q E s:=
 W.kas_kind (T:=.type "str") h2 (fun v hm=>by
  obtain ⟨x,t,rfl⟩:=hv v hm
  exact fun _ _ _ _ _ q=>ι q) (by decide +kernel) (by decide +kernel) q
theorem Qd {a:Addr}{vs:List δ}{n:Nat}{P:Fin->ν->Prop}(ho:s.heap.get? a=some (cH "list" vs.toArray n)) (hv:∀ v∈vs,IsTx v) (h128:vs.length < 128)
  (h:∀ out:Array δ,vA strO strV vs out.toList->P (.done (.ret .none)) { s with heap:=gU s.heap a vs out }):Θ (Ξ prog w) A (Ω.«list.sort» ⟨[.ref a],[]⟩) P E s:=by
 refine Qf (O:=strO) (kz:=strV) (kd:=oneType') ho h128 (fun h' h2 kp=>⟨fun Q q=>QR (s:={ s with heap:=h' }) h2 hv q,zeo fun x hx=>?_⟩) h
 obtain ⟨v,hm,rfl⟩:=hx
 exact hv v hm
theorem zcx {vs:List δ}{Q:δ->ν->Prop}(hv:∀ v∈vs,IsTx v) (h128:vs.length < 128)
  (h:∀ out:Array δ,vA strO strV vs out.toList->Q (.ref s.heap.objs.size) { s with heap:=gU (s.heap.push (cH "list" vs.toArray 0)) s.heap.objs.size vs out }):
  Θ (Ξ prog w) A (do
   let l <- newList vs
   let _ <- gk [l] (call (.builtin "list.sort") [l])
   ret l) (fun f s'=>∃ v,f=.done (.ret v)/\Q v s') E s:=by
 have hsl:vs.length<=sizeLine:=by rw [Ϻ];omega
 refine ε (wpAny_newList ?_ (by simpa using hsl))
 have e2:(s.heap.push (cH "list" vs.toArray 0)).get? s.heap.objs.size=some (cH "list" vs.toArray 0):=Δ _ rfl
 refine ε (aU (Ϲ slot_list_sort ⟨_,e2,rfl⟩ entry_list_sort (Qd (s:={ s with heap:=s.heap.push (cH "list" vs.toArray 0) }) e2 hv h128 fun out k=>⟨_,rfl,ι ⟨_,rfl,h out k⟩⟩) (args_list_sort _)))
theorem Ve {a:Addr}{es:Array (Int×δ)}{ep:Nat}{tb:Ϟ}{Q:δ->ν->Prop}(hh:A.handled=none) (st:St w s.heap a (ledW w) es ep tb) (h128:es.size < 128)
  (h:∀ (vs:List δ) (out:Array δ) (h':Heap) (tk:Nat) (d:Drawn),vs.Perm (es.toList.map (·.2))->vA strO strV vs out.toList->s.heap.objs.size<=h'.objs.size->(∀ b o,s.heap.get? b=some o->h'.get? b=some o) ->
   Q (.ref h'.objs.size) { s with heap:=gU (h'.push (cH "list" vs.toArray 0)) h'.objs.size vs out,toks:=tk,drawn:=d }):
  Θ (Ξ prog w) A (call (.builtin "sorted") [.ref a]) Q E s:=by
 refine Calls.call_function_entry kind_sorted plain_sorted entry_sorted (args_sorted1 _) ?_
 unfold Ω.«sorted»
 refine ε (m:=checkCount "sorted" 1 1 _) (ι (ε (Xm (by simpa using hh) st (by omega) fun ord h' tk d pm hg hk=>?_)))
 refine zcx (s:={ s with heap:=h',toks:=tk,drawn:=d }) (fun v hv=>?_) (by rw [Ν,pm.length_eq,Φ];exact h128) fun out k=>h _ out h' tk d (pm.map _) k hg hk
 obtain ⟨e,he,rfl⟩:=Ϛ.mp hv
 obtain ⟨x,t,rfl⟩:=st.tx e (pm.mem_iff.mp he)
 exact ⟨x,t,rfl⟩
end
open PySem PyProof.Rows PySem.W
section
variable {prog:Τ}{w:ϝ}
def Raw (h:Heap) (d:Addr) (es:Array DictEntry) (ep:Nat):Prop:=∃ o,h.get? d=some o/\o.ExactDict/\o.data=.dict es ep
theorem Raw.keep {h h':Heap}{d:Addr}{ep:Nat}{es:Array DictEntry}(hm:Raw h d es ep) (k:∀ o,h.get? d=some o->h'.get? d=some o):Raw h' d es ep:=let ⟨o,ho,r⟩:=hm;⟨o,k o ho,r⟩
end
end TS
namespace EV
open PySem L2
theorem non (h:false=true):false=true:=h
theorem nobE {p:Prop}(h:false=true):p:=nomatch h
noncomputable def LIM:Nat:=1000000
noncomputable def fits (n:Nat):Bool:=n<=LIM
noncomputable def zP (i:Int):Bool:=decide (-(2 ^ 64) < i)&&decide (i < 2 ^ 64)
noncomputable def addD:D->D->Option (D×Bool)
 | .int i,.int j=>some (.int (i+j),false)
 | .str x,.str y=>if fits (x.length+y.length) then some (.str (x++y),false) else none
 | .tup a,.tup b=>if fits (a.length+b.length) then some (.tup (a++b),false) else none
 | .lst a,.lst b=>if fits (a.length+b.length) then some (.lst (a++b),true) else none
 | _,_=>none
noncomputable def mulD:D->D->Option (D×Bool)
 | .int i,.int j=>if zP i||zP j then some (.int (i*j),false) else none
 | .lst l,.int n=>if decide (0<=n)&&decide (n < 2 ^ 20)&&fits (l.length*n.toNat) then some (.lst (ς n.toNat l).flatten,true) else none
 | _,_=>none
noncomputable def num2 (f:Int->Int->Option Int):D->D->Option (D×Bool)
 | .int i,.int j=>(f i j).map fun k=>(.int k,false)
 | _,_=>none
noncomputable def opD (op:lU) (a b:D):Option (D×Bool):=match op with
 | .Add=>addD a b
 | .Sub=>num2 (fun i j=>some (i - j)) a b
 | .Mult=>mulD a b
 | .FloorDiv=>num2 (fun i j=>if decide (0 < j)&&decide (j < 2 ^ 64) then some (i / j) else none) a b
 | .Mod=>num2 (fun i j=>if decide (0 < j) then some (i % j) else none) a b
 | .Pow=>num2 (fun i j=>if decide (0<=j)&&decide (j<=1000000)&&zP i then some (i ^ j.toNat) else none) a b
 | _=>none
mutual
noncomputable def eqP:D->D->Bool
 | .non,.non=>true
 | .bl a,.bl b=>a==b
 | .bl a,.int j=>(if a then 1 else 0)==j
 | .int i,.bl b=>i==(if b then 1 else 0)
 | .int a,.int b=>a==b
 | .str a,.str b=>a==b
 | .tup a,.tup b=>eqPs a b
 | .lst a,.lst b=>eqPs a b
 | _,_=>false
noncomputable def eqPs:List D->List D->Bool
 | [],[]=>true
 | a::as,b::bs=>eqP a b&&eqPs as bs
 | _,_=>false
end
mutual
noncomputable def okP:Nat->D->Bool
 | _,.non=>true
 | _,.bl _=>true
 | _,.int _=>true
 | _,.str _=>true
 | 0,.tup _=>false
 | n+1,.tup a=>okPs n a
 | 0,.lst _=>false
 | n+1,.lst a=>okPs n a
 | _,_=>false
noncomputable def okPs:Nat->List D->Bool
 | _,[]=>true
 | n,a::as=>okP n a&&okPs n as
end
noncomputable def eqD (a b:D):Option Bool:=if okP 60 a&&okP 60 b then some (eqP a b) else none
noncomputable def keyD:D->Option Key
 | .int i=>some (.inl i)
 | .str x=>some (.inr x)
 | _=>none
noncomputable def keysD:List D->Option (List Key)
 | []=>some []
 | d::ds=>match keyD d,keysD ds with
  | some k,some ks=>some (k::ks)
  | _,_=>none
noncomputable def findK {κ:Type} [DecidableEq κ]:List κ->κ->Option Nat
 | [],_=>none
 | k::ks,x=>if k=x then some 0 else (findK ks x).map (·+1)
noncomputable def lookK {κ:Type} [DecidableEq κ] (ks:List κ) (ds:List D) (k:κ):Option D:=(findK ks k).bind fun i=>ds[i]?
noncomputable def mapK {κ α:Type} [DecidableEq κ]:List κ->List α->κ->α->List α
 | k::ks,d::ds,x,y=>(if k=x then y else d)::mapK ks ds x y
 | _,ds,_,_=>ds
noncomputable def hasK {κ:Type} [DecidableEq κ] (ks:List κ) (k:κ):Bool:=ks.any fun x=>decide (x=k)
noncomputable def putKs {κ α:Type} [DecidableEq κ] (ks:List κ) (ds:List α) (k:κ) (d:α):List κ×List α:=
 if hasK ks k=true then (ks,mapK ks ds k d) else (ks++[k],ds++[d])
noncomputable def isNone:D->Bool
 | .non=>true
 | _=>false
noncomputable def dgetD:D->D->Option (Option D)
 | .dK ks ds,k=>(keyD k).map (lookK ks ds)
 | .dT ks ds,.tup t=>(keysD t).map (lookK ks ds)
 | _,_=>none
noncomputable def isSc:D->Bool
 | .non=>true
 | .bl _=>true
 | .int _=>true
 | .str _=>true
 | _=>false
noncomputable def memD (l:List D) (d:D):Option Bool:=if isSc d&&l.all isSc then some (l.any fun y=>eqP y d) else none
noncomputable def deref (S:Store):D->D
 | .ref k=>(S[k]?).getD .non
 | d=>d
noncomputable def int2 (f:Int->Int->Bool):D->D->Option Bool
 | .int i,.int j=>some (f i j)
 | _,_=>none
noncomputable def isD (a:D):D->Option Bool
  | .non=>some (isNone a)
  | .bl b=>(match a with
    | .bl a=>some (a==b)
    | _=>none)
  | _=>none
noncomputable def inD (a:D):D->Option Bool
  | .lst l=>memD l a
  | .tup l=>memD l a
  | .ktp l=>memD l a
  | .str y=>(match a with
    | .str x=>some (!(fu y x 0 y.length 1).isEmpty)
    | _=>none)
  | .dK ks ds=>(dgetD (.dK ks ds) a).map (·.isSome)
  | .dT ks ds=>(dgetD (.dT ks ds) a).map (·.isSome)
  | _=>none
noncomputable def intsD:List D->Option (List Int)
 | []=>some []
 | .int i::r=>(intsD r).map (i::·)
 | _::_=>none
noncomputable def neD:D->D->Option Bool
 | .dK ks vs,.dK ks' vs'=>if decide (ks=ks')&&decide ks.Nodup&&decide (intsD vs=intsD vs')&&(intsD vs).isSome then some false else none
 | a,b=>(eqD a b).map (!·)
noncomputable def cmpD (op:eU) (a b:D):Option Bool:=match op with
 | .Eq=>eqD a b
 | .NotEq=>neD a b
 | .Lt=>int2 (fun i j=>decide (i < j)) a b
 | .LtE=>int2 (fun i j=>decide (i<=j)) a b
 | .Gt=>int2 (fun i j=>decide (j < i)) a b
 | .GtE=>int2 (fun i j=>decide (j<=i)) a b
 | .Is=>isD a b
 | .IsNot=>(isD a b).map (!·)
 | .In=>inD a b
 | .NotIn=>(inD a b).map (!·)
noncomputable abbrev idx (n:Nat) (i:Int):Option Nat:=ixN n i
noncomputable def subD:D->D->Option D
 | .tup l,.int i=>(idx l.length i).bind fun k=>l[k]?
 | .lst l,.int i=>(idx l.length i).bind fun k=>l[k]?
 | .scr l,.int i=>(idx l.length i).bind fun k=>(l[k]?).map D.int
 | .str x,.int i=>if fits x.length then (idx x.cps.toList.length i).bind fun k=>(x.cps.toList[k]?).map fun c=>.str ⟨#[c]⟩ else none
 | .dK ks ds,k=>(dgetD (.dK ks ds) k).bind id
 | .dT ks ds,k=>(dgetD (.dT ks ds) k).bind id
 | _,_=>none
noncomputable def cutD (l:List D) (lo hi:Option Int):List D:=(l.drop (HT.sIx l.length 0 lo)).take (HT.sIx l.length l.length hi - HT.sIx l.length 0 lo)
noncomputable def slcD (d:D) (lo hi:Option Int):Option (D×Bool):=
 match d with
 | .tup l=>some (.tup (cutD l lo hi),false)
 | .lst l=>some (.lst (cutD l lo hi),true)
 | .scr l=>some (.lst (cutD (l.map D.int) lo hi),true)
 | .str x=>if fits x.length then some (.str (iJ x lo hi),false) else none
 | _=>none
noncomputable def flipD:D->Option (D×Bool)
 | .lst l=>some (.lst l.reverse,true)
 | .tup l=>some (.tup l.reverse,false)
 | _=>none
noncomputable def wI:List D->Option (List Bool)
 | []=>some []
 | .bl b::r=>(wI r).map (b::·)
 | _::_=>none
noncomputable def isTy:Ty->D->Option Bool
 | t,.int _=>some (t==.int)
 | t,.bl _=>some (t==.bool||t==.int)
 | t,.str _=>some (t==.str)
 | t,.tup _=>some (t==.tuple)
 | t,.lst _=>some (t==.list)
 | t,.dK _ _=>some (t==.dict)
 | t,.non=>some false
 | _,_=>none
noncomputable def seqD:D->Option (List D)
 | .tup l=>some l
 | .lst l=>some l
 | .scr l=>some (l.map D.int)
 | .ktp l=>some l
 | _=>none
noncomputable def itrD:D->Option (List D)
 | .str x=>some (x.cps.toList.map fun c=>.str ⟨#[c]⟩)
 | d=>seqD d
noncomputable def lenD:D->Option (D×Bool)
 | .tup l=>some (.int l.length,false)
 | .lst l=>some (.int l.length,false)
 | .scr l=>some (.int l.length,false)
 | .str x=>if fits x.length then some (.int x.length,false) else none
 | .dK ks _=>some (.int ks.length,false)
 | _=>none
noncomputable def absD:D->Option (D×Bool)
 | .int i=>some (.int (if i < 0 then -i else i),false)
 | _=>none
noncomputable def intOf:D->Option (D×Bool)
 | .bl b=>some (.int (if b then 1 else 0),false)
 | .int i=>some (.int i,false)
 | _=>none
noncomputable def lotD:D->Option (List D)
 | .lst l=>some l
 | .tup l=>some l
 | _=>none
noncomputable def onL (f:List D->Option D):D->Option (D×Bool)
 | .lst l=>(f l).map fun d=>(d,false)
 | _=>none
mutual
noncomputable def pyD:Nat->D->Option PyData
 | _,.int i=>if decide (i.natAbs.log2 < 1920) then some (.int i) else none
 | _,.str x=>some (.str x)
 | n+1,.tup l=>(pyDs n l).map .tuple
 | _,_=>none
noncomputable def pyDs:Nat->List D->Option (List PyData)
 | _,[]=>some []
 | n,d::l=>(pyD n d).bind fun a=>(pyDs n l).map (a::·)
end
noncomputable def reprD (d:D):Option (D×Bool):=(pyD 40 d).bind fun p=>if fits p.shown.length then some (.str p.shown,false) else none
noncomputable def lexL:List Int->List Int->Bool
 | [],[]=>false
 | [],_::_=>true
 | _::_,[]=>false
 | a::x,b::y=>if a=b then lexL x y else decide (a < b)
noncomputable def insL (k:List Int):List (List Int)->List (List Int)
 | []=>[k]
 | x::l=>if lexL x k then x::insL k l else k::x::l
noncomputable def sortL:List (List Int)->List (List Int)
 | []=>[]
 | k::l=>insL k (sortL l)
noncomputable def zaS:List D->Option (List (List Int))
 | []=>some []
 | .tup l::r=>(intsD l).bind fun k=>if k.isEmpty then none else (zaS r).map (k::·)
 | _::_=>none
noncomputable def tupI (k:List Int):D:=.tup (k.map D.int)
noncomputable def keyOf:Key->D
 | .inl i=>.int i
 | .inr x=>.str x
noncomputable def zaN:List (List Key)->List D->List D
 | k::ks,d::ds=>.tup [.tup (k.map keyOf),d]::zaN ks ds
 | _,_=>[]
noncomputable def kInts:List Key->Option (List Int)
 | []=>some []
 | .inl i::r=>(kInts r).map (i::·)
 | _::_=>none
noncomputable def zaM:List (List Key)->Option (List (List Int))
 | []=>some []
 | k::r=>(kInts k).bind fun n=>if n.isEmpty then none else (zaM r).map (n::·)
noncomputable def srtD:D->Option (D×Bool)
 | .dT ks _=>(zaM ks).bind fun ks=>if decide (ks.length < 128) then some (.lst ((sortL ks).map tupI),true) else none
 | .lst l=>(zaS l).bind fun ks=>if decide (ks.length < 128) then some (.lst ((sortL ks).map tupI),true) else none
 | _=>none
noncomputable def strL (x y:Str):Bool:=decide (x.cps.toList < y.cps.toList)
noncomputable def insS (k:Str):List Str->List Str
 | []=>[k]
 | x::l=>if strL x k then x::insS k l else k::x::l
noncomputable def sortS:List Str->List Str
 | []=>[]
 | k::l=>insS k (sortS l)
noncomputable def onesS (ks:List Str):List Str:=ks.foldl (fun l x=>if x∈l then l else l++[x]) []
noncomputable def copD:D->Option (D×Bool)
 | .dK ks vs=>some (.dK ks vs,true)
 | _=>none
noncomputable def strsD:List D->Option (List Str)
 | []=>some []
 | .str x::r=>(strsD r).map (x::·)
 | _::_=>none
noncomputable def ssetD (d:D):Option (D×Bool):=((lotD d).bind strsD).bind fun ks=>if (decide (ks.length < 4095)&&decide ((onesS ks).length < 128))=true then some (.lst ((sortS (onesS ks)).map D.str),true) else none
noncomputable def lsetD (d:D):Option (D×Bool):=((lotD d).bind strsD).bind fun ks=>if decide (ks.length < 4095)=true then some (.int (onesS ks).length,false) else none
noncomputable def srtX:D->Option (D×Bool)
 | .lst (.str x::l)=>(strsD l).bind fun ks=>if decide (ks.length < 127)=true then some (.lst ((sortS (x::ks)).map D.str),true) else none
 | d=>srtD d
noncomputable def strD:D->Option (D×Bool)
 | .int i=>if decide (i.natAbs.log2 < 1920) then some (.str (toString i),false) else none
 | .str x=>some (.str x,false)
 | _=>none
noncomputable def joinD (x:Str) (d:D):Option (D×Bool):=((lotD d).bind strsD).bind fun ys=>if fits ((ys.map (·.length)).sum+ys.length*x.length) then some (.str (PySem.Txt.join x ys),false) else none
noncomputable def ze9 (x:Str):D->Option (D×Bool)
 | .str y=>if (!(y.length==0)&&fits x.length&&fits (fO x y).length)=true then some (.lst ((fO x y).map D.str),true) else none
 | _=>none
noncomputable def bi2:BI->D->D->Option (D×Bool)
 | .min2,d,e=>num2 (fun i j=>some (if j < i then j else i)) d e
 | .max2,d,e=>num2 (fun i j=>some (if j > i then j else i)) d e
 | _,_,_=>none
noncomputable def biD (b:BI) (ds:List D):Option (D×Bool):=match ds with
  | [d]=>(match b with
    | .len=>lenD d
    | .abs=>absD d
    | .int=>intOf d
    | .tuple=>(lotD d).map fun l=>(.tup l,false)
    | .list=>(lotD d).map fun l=>(.lst l,true)
    | .all=>onL (fun l=>(wI l).map fun bs=>.bl (bs.all id)) d
    | .any=>onL (fun l=>(wI l).map fun bs=>.bl (bs.any id)) d
    | .isinst t=>(isTy t d).map fun b=>(.bl b,false)
    | .sset=>ssetD d
    | .lset=>lsetD d
    | _=>none)
  | [d,e]=>bi2 b d e
  | _=>none
noncomputable def idxD:List D->D->Option Nat
 | [],_=>none
 | d::ds,x=>if eqP d x=true then some 0 else (idxD ds x).map (·+1)
noncomputable def mthK:MT->D->Bool
 | .get2,.dK _ _=>true
 | .get2,.dT _ _=>true
 | .get2,.kdc _=>true
 | _,_=>false
noncomputable def kgetD (ps:List (Str×Int)):D->D->Option (D×Bool)
 | .str k,x=>some (((PyProof.Rows.KTD.datumAt k ps).map D.int).getD x,false)
 | _,_=>none
noncomputable def mthD:MT->D->List D->Option (D×Bool)
 | .get2,.kdc ps,[k,x]=>kgetD ps k x
 | .get2,d,[k,x]=>(dgetD d k).map fun o=>(o.getD x,false)
 | _,_,_=>none
noncomputable def nT:T->Nat
 | .one _=>1
 | .nst _ is=>1+is.length
 | .tup is=>is.length
noncomputable def enumD:Nat->List D->List D
 | _,[]=>[]
 | n,d::ds=>.tup [.int n,d]::enumD (n+1) ds
noncomputable def enumS:D->Option (List D)
 | .tup l=>some l
 | .lst l=>some l
 | _=>none
noncomputable def zN (lo hi:Int):List D:=(ϩ (hi - lo).toNat).map fun (k:Nat)=>.int (lo+(k:Int))
noncomputable def dwnD:List D->Option (List D)
 | [.int i,.int j,.int k]=>if (decide (k=-1)&&decide (-1000000<=i)&&decide (i<=1000000)&&decide (-1000000<=j)&&decide (j<=1000000))=true then some (zN (j+1) (i+1)).reverse else none
 | _=>none
noncomputable def dicOk (tk:Bool) (ks:List Key) (ds:List D):Bool:=decide (ks.length=ds.length)&&decide ks.Nodup&&decide (ks.length<=15)&&(!tk||ks.isEmpty)
inductive Slot where
 | no | sh (d:D) | ow (d:D)
 deriving Inhabited
inductive O where
 | next (ρ:List Slot) | ret (d:D) (fr:Bool) | brk (ρ:List Slot) | cnt (ρ:List Slot)
noncomputable def nst2:D->Option (D×List D)
  | .tup l=>(match l with
    | x::r=>(match r with
      | y::z=>(match z with
        | []=>(match y with
          | .tup ds=>some (x,ds)
          | _=>none)
        | _=>none)
      | _=>none)
    | _=>none)
  | _=>none
theorem zcb {d:D}{p:D×List D}(h:nst2 d=some p):d=.tup [p.1,.tup p.2]:=by
 cases d with
 | tup l=>
  cases l with
  | nil=>cases h
  | cons x r=>
   cases r with
   | nil=>cases h
   | cons y z=>
    cases z with
    | cons _ _=>cases h
    | nil=>
     cases y with
     | tup ds=>cases h;rfl
     | _=>cases h
 | _=>cases h
noncomputable def bindT (ρ:List Slot):T->D×Bool->Option (List Slot)
 | .one i,(d,fr)=>if i < ρ.length&&!isIns d then some (ρ.set i (if fr=true then .ow d else .sh d)) else none
 | .tup is,(.tup ds,_)=>if is.length=ds.length/\is.Nodup/\is.all (· < ρ.length) then some ((is.zip ds).foldl (fun r p=>r.set p.1 (.sh p.2)) ρ) else none
 | .nst i is,(d,_)=>(nst2 d).bind fun p=>if i < ρ.length/\is.length=p.2.length/\is.Nodup/\is.all (· < ρ.length) then some ((is.zip p.2).foldl (fun r p=>r.set p.1 (.sh p.2)) (ρ.set i (.sh p.1))) else none
 | _,_=>none
noncomputable def putD:D->D->D->Option D
 | .lst l,.int i,d=>(idx l.length i).map fun k=>.lst (l.set k d)
 | .dK ks ds,k,d=>(keyD k).bind fun k=>if fits (ks.length+1) then some (let p:=putKs ks ds k d;.dK p.1 p.2) else none
 | .dT ks ds,.tup t,d=>(keysD t).bind fun k=>if fits (ks.length+1) then some (let p:=putKs ks ds k d;.dT p.1 p.2) else none
 | _,_,_=>none
noncomputable def isLst:Option D->Bool
 | some (.lst _)=>true
 | _=>false
noncomputable def extD:D->Option (List D)
 | .lst l=>some l
 | .tup l=>some l
 | _=>none
noncomputable def entry (fn:Fn) (ds:List D):List Slot:=ds.map Slot.sh++ς (fn.nv - ds.length) Slot.no
inductive Kd where
 | st | fr | bo
noncomputable abbrev Vl:=D×Kd
abbrev Po:=Vl->Store->Prop
abbrev Cf:=Nat->List D->Po->Store->Prop
noncomputable def kd:Bool->Kd
 | true=>.fr
 | false=>.st
noncomputable def ofB (p:D×Bool):Vl:=(p.1,kd p.2)
def opt {α:Type}:Option α->(α->Prop)->Prop
 | some a,Q=>Q a
 | none,_=>False
def opV (o:Option (D×Bool)) (Q:Vl->Prop):Prop:=opt o fun p=>Q (ofB p)
def optS:Option (List Slot)->(List Slot->Prop)->Prop:=opt
def tst:Bool->Prop->Prop->Prop
 | true,T,_=>T
 | false,_,F=>F
def isB:D->(Bool->Prop)->Prop
 | .bl b,Q=>Q b
 | _,_=>False
def isF:D->(Nat->Prop)->Prop
 | .fn f,Q=>Q f
 | _,_=>False
def isZ:D->(Int->Prop)->Prop
 | .int i,Q=>Q i
 | _,_=>False
def keep:Vl->(D->Prop)->Prop
 | (d,.st),Q=>Q d
 | (d,.fr),Q=>Q d
 | _,_=>False
def sel:Option Slot->(D->Prop)->(D->Prop)->Prop
 | some (.sh d),Q,_=>Q d
 | some (.ow d),_,Q=>Q d
 | _,_,_=>False
def rdV (s:Option Slot) (Q:Vl->Prop):Prop:=sel s (fun d=>Q (d,.st)) (fun d=>Q (d,.bo))
def boxd:Vl->(D->Prop)->Prop
 | (d,.fr),Q=>Q d
 | _,_=>False
def walkW (step:D->(Option D->Store->Prop)->Store->Prop):List D->List D->(List D->Store->Prop)->Store->Prop
 | [],acc,V,S=>V acc S
 | d::ds,acc,V,S=>step d (fun o S1=>match o with
  | some x=>tst (fits (acc.length+1)) (walkW step ds (acc++[x]) V S1) False
  | none=>walkW step ds acc V S1) S
noncomputable def inn (ρ:List Slot) (t:T) (js:List Nat):List Slot:=ς (nT t) .no++js.map fun j=>(ρ[j]?).getD .no
noncomputable def dicV (tk:Bool) (ks:List Key) (ds:List D):D:=if tk=true then .dT [] [] else .dK ks ds
def isR:D->(Nat->Prop)->Prop
 | .ref n,Q=>Q n
 | _,_=>False
def isDT:Option D->(List (List Key)->List D->Prop)->Prop
 | some (.dT ks ds),Q=>Q ks ds
 | _,_=>False
theorem zcr {s:Option D}{Q:List (List Key)->List D->Prop}(h:isDT s Q):∃ ks ds,s=some (.dT ks ds)/\Q ks ds:=by
 cases s with
 | none=>exact h.elim
 | some s=>
  cases s with
  | dT ks ds=>exact ⟨ks,ds,rfl,h⟩
  | _=>exact h.elim
theorem zeG {s:Option D}{ks:List (List Key)}{ds:List D}{Q:List (List Key)->List D->Prop}(h:s=some (.dT ks ds)) (q:Q ks ds):isDT s Q:=by subst h;exact q
mutual
def wpE (cf:Cf) (ρ:List Slot):E->Po->Store->Prop
 | .var i,V,S=>rdV ρ[i]? fun x=>V x S
 | .con d,V,S=>V (d,.st) S
 | .glo _ d,V,S=>V (d,.st) S
 | .bin op a b,V,S=>wpE cf ρ a (fun x S1=>wpE cf ρ b (fun y S2=>opV (opD op (deref S2 x.1) (deref S2 y.1)) fun x=>V x S2) S1) S
 | .neg a,V,S=>wpE cf ρ a (fun x S1=>isZ x.1 fun i=>V (.int (-i),.st) S1) S
 | .cmp op a b,V,S=>wpE cf ρ a (fun x S1=>wpE cf ρ b (fun y S2=>opt (cmpD op (deref S2 x.1) (deref S2 y.1)) fun r=>V (.bl r,.st) S2) S1) S
 | .chn o1 o2 a b c,V,S=>wpE cf ρ a (fun x S1=>wpE cf ρ b (fun y S2=>opt (cmpD o1 (deref S2 x.1) (deref S2 y.1)) fun r=>tst r (wpE cf ρ c (fun z S3=>opt (cmpD o2 (deref S3 y.1) (deref S3 z.1)) fun r=>V (.bl r,.st) S3) S2) (V (.bl false,.st) S2)) S1) S
 | .not a,V,S=>wpE cf ρ a (fun x S1=>isB x.1 fun b=>V (.bl (!b),.st) S1) S
 | .and a b,V,S=>wpE cf ρ a (fun x S1=>isB x.1 fun r=>tst r (wpE cf ρ b V S1) (V (.bl false,.st) S1)) S
 | .or a b,V,S=>wpE cf ρ a (fun x S1=>isB x.1 fun r=>tst r (V (.bl true,.st) S1) (wpE cf ρ b V S1)) S
 | .ite c a b,V,S=>wpE cf ρ c (fun x S1=>isB x.1 fun r=>tst r (wpE cf ρ a V S1) (wpE cf ρ b V S1)) S
 | .tup es,V,S=>wpEs cf ρ es (fun ds S1=>tst (fits ds.length) (V (.tup ds,.st) S1) False) S
 | .lst es,V,S=>wpEs cf ρ es (fun ds S1=>tst (fits ds.length) (V (.lst ds,.fr) S1) False) S
 | .dic tk ks es,V,S=>wpEs cf ρ es (fun ds S1=>tst (dicOk tk ks ds) (V (dicV tk ks ds,.fr) S1) False) S
 | .sub a i,V,S=>wpE cf ρ a (fun x S1=>wpE cf ρ i (fun y S2=>opt (subD (deref S2 x.1) y.1) fun d=>V (d,.st) S2) S1) S
 | .slc a lo hi,V,S=>wpE cf ρ a (fun x S1=>wpO cf ρ lo (fun l S2=>wpO cf ρ hi (fun h S3=>opV (slcD (deref S3 x.1) l h) fun x=>V x S3) S2) S1) S
 | .bi b [e],V,S=>wpE cf ρ e (fun x S1=>opV (biD b [deref S1 x.1]) fun x=>V x S1) S
 | .bi b es,V,S=>wpEs cf ρ es (fun ds S1=>opV (biD b (ds.map (deref S1))) fun x=>V x S1) S
 | .mth m o es,V,S=>wpE cf ρ o (fun x S1=>tst (mthK m (deref S1 x.1)) (wpEs cf ρ es (fun ds S2=>opV (mthD m (deref S2 x.1) ds) fun x=>V x S2) S1) False) S
 | .call f es,V,S=>wpEs cf ρ es (fun ds S1=>cf f ds V S1) S
 | .callk f perm es,V,S=>wpEs cf ρ es (fun ds S1=>opt (perm.mapM fun i=>ds[i]?) fun ds=>cf f ds V S1) S
 | .comp t js it ifs elt,V,S=>wpI cf ρ it (fun its S1=>walkW (fun d K S=>optS (bindT (inn ρ t js) t (d,false)) fun ρ'=>wpF cf ρ' ifs (fun b S1=>tst b (wpE cf ρ' elt (fun x S2=>keep x fun d=>K (some d) S2) S1) (K none S1)) S) its [] (fun ds S2=>V (.lst ds,.fr) S2) S1) S
 | .box e,V,S=>wpE cf ρ e (fun x S1=>boxd x fun d=>V (.ref S1.length,.st) (S1++[d])) S
 | .callv i es,V,S=>rdV ρ[i]? fun x=>isF x.1 fun f=>wpEs cf ρ es (fun ds S1=>cf f ds V S1) S
 | .one e,V,S=>wpE cf ρ e V S
 | .flip e,V,S=>wpE cf ρ e (fun x S1=>opV (flipD (deref S1 x.1)) fun x=>V x S1) S
 | _,_,_=>False
def wpEs (cf:Cf) (ρ:List Slot):List E->(List D->Store->Prop)->Store->Prop
 | [],W,S=>W [] S
 | e::es,W,S=>wpE cf ρ e (fun x S1=>keep x fun d=>wpEs cf ρ es (fun ds S2=>W (d::ds) S2) S1) S
def wpO (cf:Cf) (ρ:List Slot):Option E->(Option Int->Store->Prop)->Store->Prop
 | none,W,S=>W none S
 | some e,W,S=>wpE cf ρ e (fun x S1=>isZ x.1 fun i=>W (some i) S1) S
def wpF (cf:Cf) (ρ:List Slot):List E->(Bool->Store->Prop)->Store->Prop
 | [],W,S=>W true S
 | [e],W,S=>wpE cf ρ e (fun x S1=>isB x.1 fun b=>W b S1) S
 | _,_,_=>False
def wpI (cf:Cf) (ρ:List Slot):E->(List D->Store->Prop)->Store->Prop
 | .dwn es,W,S=>wpEs cf ρ es (fun ds S1=>opt (dwnD ds) fun l=>W l S1) S
 | .rev hi,W,S=>wpE cf ρ hi (fun x S1=>isZ x.1 fun h=>tst (fits h.toNat&&decide (-1000000<=h)) (W (zN 0 h).reverse S1) False) S
 | .rng none hi,W,S=>wpE cf ρ hi (fun x S1=>isZ x.1 fun h=>tst (fits h.toNat&&decide (-1000000<=h)) (W (zN 0 h) S1) False) S
 | .rng (some lo) hi,W,S=>wpE cf ρ lo (fun y S1=>wpE cf ρ hi (fun x S2=>isZ y.1 fun l=>isZ x.1 fun h=>tst (fits (h - l).toNat&&decide (-1000000<=h)&&decide (-1000000<=l)&&decide (h<=1000000)&&decide (l<=1000000)) (W (zN l h) S2) False) S1) S
 | .enum e,W,S=>wpE cf ρ e (fun x S1=>keep x fun d=>opt (enumS d) fun l=>W (enumD 0 l) S1) S
 | .seq e,W,S=>wpE cf ρ e (fun x S1=>keep x fun d=>opt (itrD d) fun l=>W l S1) S
 | .items e,W,S=>wpE cf ρ e (fun x S1=>keep x fun r=>isR r fun k=>isDT S1[k]? fun ks ds=>W (zaN ks ds) (S1.set k (.ref k))) S
 | _,_,_=>False
end
def wpX (cf:Cf) (ρ:List Slot) (e:E) (V:Po) (S:Store):Prop:=wpE cf ρ e V S
noncomputable def bindV (ρ:List Slot) (t:T):Vl->Option (List Slot)
 | (d,.st)=>bindT ρ t (d,false)
 | (d,.fr)=>bindT ρ t (d,true)
 | _=>none
def retV:Vl->(O->Prop)->Prop
 | (d,.st),K=>K (.ret d false)
 | (d,.fr),K=>K (.ret d true)
 | _,_=>False
def owL:Option Slot->(List D->Prop)->Prop
 | some (.ow (.lst l)),Q=>Q l
 | _,_=>False
def owD:Option Slot->(D->Prop)->Prop
 | some (.ow d),Q=>Q d
 | _,_=>False
def frW:Option Slot->Store->(Nat->List D->Prop)->Prop
  | some (.sh (.ref k)),S,Q=>(match S[k]? with
    | some (.lst l)=>Q k l
    | _=>False)
  | _,_,_=>False
theorem zaW {s:Option Slot}{S:Store}{Q:Nat->List D->Prop}(h:frW s S Q):∃ k l,s=some (.sh (.ref k))/\S[k]?=some (.lst l)/\Q k l:=by
 unfold frW at h
 split at h
 ·split at h
  ·rename_i e;exact ⟨_,_,rfl,e,h⟩
  ·exact h.elim
 ·exact h.elim
theorem zeR {k:Nat}{l:List D}{S:Store}{Q:Nat->List D->Prop}(h:S[k]?=some (.lst l)) (q:Q k l):frW (some (.sh (.ref k))) S Q:=by
  show (match S[k]? with
    | some (.lst l)=>Q k l
    | _=>False)
  rw [h];exact q
def isL:Option D->(List D->Prop)->Prop
 | some (.lst l),Q=>Q l
 | _,_=>False
noncomputable def fz:Slot->Slot
 | .ow d=>.sh d
 | s=>s
abbrev Ko:=O->Store->Prop
def nxt (f:List Slot->Store->Prop) (K:Ko):Ko
 | .next ρ,S=>f ρ S
 | o,S=>K o S
def trn (K:Ko) (I:List Slot->Store->Prop):Ko
 | .next ρ,S=>I ρ S
 | .cnt ρ,S=>I ρ S
 | .brk ρ,S=>K (.next ρ) S
 | .ret d fr,S=>K (.ret d fr) S
def forW (t:T) (b:List Slot->Ko->Store->Prop):List D->List Slot->Ko->Store->Prop
 | [],ρ,K,S=>K (.next ρ) S
 | d::l,ρ,K,S=>optS (bindT ρ t (d,false)) fun ρ1=>b ρ1 (trn K fun ρ' S'=>forW t b l ρ' K S') S
def whlW (c:List Slot->Po->Store->Prop) (b:List Slot->Ko->Store->Prop):Nat->List Slot->Ko->Store->Prop
 | 0,_,_,_=>False
 | n+1,ρ,K,S=>c ρ (fun x S1=>isB x.1 fun r=>tst r (b ρ (trn K fun ρ' S'=>whlW c b n ρ' K S') S1) (K (.next ρ) S1)) S
mutual
def wpC (cf:Cf) (w:Nat):C->List Slot->Ko->Store->Prop
 | .set t (.box e),ρ,K,S=>wpE cf ρ e (fun x S1=>boxd x fun d=>optS (bindT ρ t (.ref S1.length,false)) fun ρ2=>K (.next ρ2) (S1++[d])) S
 | .set t e,ρ,K,S=>wpE cf ρ e (fun x S1=>optS (bindV ρ t x) fun ρ2=>K (.next ρ2) S1) S
 | .expr e,ρ,K,S=>wpE cf ρ e (fun _ S1=>K (.next ρ) S1) S
 | .ret (.var i),ρ,K,S=>sel ρ[i]? (fun d=>K (.ret d false) S) (fun d=>K (.ret d true) S)
 | .ret e,ρ,K,S=>wpE cf ρ e (fun x S1=>retV x fun o=>K o S1) S
 | .retN,ρ,K,S=>K (.ret .non false) S
 | .ite e A B,ρ,K,S=>wpE cf ρ e (fun x S1=>isB x.1 fun b=>tst b (wpCs cf w A ρ K S1) (wpCs cf w B ρ K S1)) S
 | .whl e A,ρ,K,S=>whlW (fun ρ=>wpX cf ρ e) (fun ρ=>wpCs cf w A ρ) w ρ K S
 | .forr t it A,ρ,K,S=>wpI cf ρ it (fun l S1=>forW t (fun ρ=>wpCs cf w A ρ) l ρ K S1) S
 | .app i e,ρ,K,S=>owL ρ[i]? fun l=>wpE cf ρ e (fun x S1=>keep x fun d=>tst (fits (l.length+1)) (K (.next (ρ.set i (.ow (.lst (l++[d]))))) S1) False) S
 | .ext i e,ρ,K,S=>owL ρ[i]? fun l=>wpE cf ρ e (fun x S1=>keep x fun d=>opt (extD d) fun m=>tst (fits (l.length+m.length)) (K (.next (ρ.set i (.ow (.lst (l++m))))) S1) False) S
 | .stv i k v,ρ,K,S=>owD ρ[i]? fun c=>wpE cf ρ v (fun x S1=>keep x fun d=>wpE cf ρ k (fun y S2=>keep y fun e=>opt (putD c e d) fun c'=>K (.next (ρ.set i (.ow c'))) S2) S1) S
 | .sti o k v,ρ,K,S=>wpE cf ρ v (fun x S1=>keep x fun d=>wpE cf ρ o (fun z S2=>keep z fun r=>wpE cf ρ k (fun y S3=>keep y fun e=>isR r fun n=>opt S3[n]? fun c=>opt (putD c e d) fun c'=>K (.next ρ) (S3.set n c')) S2) S1) S
 | .pop i,ρ,K,S=>owL ρ[i]? fun l=>tst (!l.isEmpty) (K (.next (ρ.set i (.ow (.lst l.dropLast)))) S) False
 | .appR o e,ρ,K,S=>wpE cf ρ o (fun z S1=>keep z fun r=>isR r fun n=>tst (isLst S1[n]?) (wpE cf ρ e (fun x S2=>keep x fun d=>isL S2[n]? fun l=>tst (fits (l.length+1)) (K (.next ρ) (S2.set n (.lst (l++[d])))) False) S1) False) S
 | .popO t i,ρ,K,S=>owL ρ[i]? fun l=>opt l.getLast? fun d=>optS (bindT (ρ.set i (.ow (.lst l.dropLast))) t (d,false)) fun ρ2=>K (.next ρ2) S
 | .popR t o,ρ,K,S=>wpE cf ρ o (fun z S1=>keep z fun r=>isR r fun n=>isL S1[n]? fun l=>opt l.getLast? fun d=>optS (bindT ρ t (d,false)) fun ρ2=>K (.next ρ2) (S1.set n (.lst l.dropLast))) S
 | .pass,ρ,K,S=>K (.next ρ) S
 | .brk,ρ,K,S=>K (.brk ρ) S
 | .cnt,ρ,K,S=>K (.cnt ρ) S
 | .frz i,ρ,K,S=>K (.next (ρ.set i (fz ((ρ[i]?).getD .no)))) S
 | .frr i,ρ,K,S=>frW ρ[i]? S fun k l=>K (.next (ρ.set i (.sh (.lst l)))) (S.set k (.ref k))
def wpCs (cf:Cf) (w:Nat):List C->List Slot->Ko->Store->Prop
 | [],ρ,K,S=>K (.next ρ) S
 | c::cs,ρ,K,S=>wpC cf w c ρ (nxt (fun ρ' S'=>wpCs cf w cs ρ' K S') K) S
end
def told (V:Po):Ko
 | .ret d fr,S=>V (d,kd fr) S
 | .next _,S=>V (.non,.st) S
 | _,_=>False
def callW (F:Nat->Option Fn) (w:Nat):Nat->Cf
 | 0=>fun _ _ _ _=>False
 | k+1=>fun f ds V S=>opt (F f) fun fn=>ds.length=fn.np/\wpCs (callW F w k) w fn.body (entry fn ds) (told V) S
section
theorem zm {α:Type}{o:Option α}{P Q:α->Prop}(h:∀ a,P a->Q a):opt o P->opt o Q:=by
 cases o with
 | some a=>exact h a
 | none=>exact id
theorem zr {b:Bool}{P P' Q Q':Prop}(h:P->P') (k:Q->Q'):tst b P Q->tst b P' Q':=by
 cases b with
 | true=>exact h
 | false=>exact k
theorem yl {d:D}{P Q:Bool->Prop}(h:∀ a,P a->Q a):isB d P->isB d Q:=by
 cases d <;> first | exact h _ | exact id
theorem Ww {d:D}{P Q:Nat->Prop}(h:∀ a,P a->Q a):isF d P->isF d Q:=by
 cases d <;> first | exact h _ | exact id
theorem xr {d:D}{P Q:Int->Prop}(h:∀ a,P a->Q a):isZ d P->isZ d Q:=by
 cases d <;> first | exact h _ | exact id
theorem zu {x:Vl}{P Q:D->Prop}(h:∀ a,P a->Q a):keep x P->keep x Q:=by
 obtain ⟨d,k⟩:=x
 cases k <;> first | exact h _ | exact id
theorem Yh {x:Vl}{P Q:D->Prop}(h:∀ a,P a->Q a):boxd x P->boxd x Q:=by
 obtain ⟨d,k⟩:=x
 cases k <;> first | exact h _ | exact id
theorem kJ {s:Option Slot}{P P' Q Q':D->Prop}(h:∀ a,P a->P' a) (k:∀ a,Q a->Q' a):sel s P Q->sel s P' Q':=by
 cases s with
 | none=>exact id
 | some s=>cases s <;> first | exact h _ | exact k _ | exact id
theorem ug {s:D->(Option D->Store->Prop)->Store->Prop}(hs:∀ d K K' S,(∀ o S,K o S->K' o S)->s d K S->s d K' S):∀ {l acc:List D}{V V':List D->Store->Prop}{S:Store},(∀ a S,V a S->V' a S)->walkW s l acc V S->walkW s l acc V' S
 | [],_,_,_,_,h=>h _ _
 | d::l,acc,V,V',S,h=>hs d _ _ S fun o S1=>by
  cases o with
  | some x=>exact zr (ug hs h) id
  | none=>exact ug hs h
def Mono (cf:Cf):Prop:=∀ f ds (V V':Po) S,(∀ x S,V x S->V' x S)->cf f ds V S->cf f ds V' S
variable {cf:Cf}
theorem v8 {s:D}{P Q:Nat->Prop}(h:∀ a,P a->Q a):isR s P->isR s Q:=by
 cases s <;> first | exact h _ | exact id
theorem JP {s:Option D}{P Q:List (List Key)->List D->Prop}(h:∀ a b,P a b->Q a b) (p:isDT s P):isDT s Q:=by
 obtain ⟨ks,ds,e,q⟩:=zcr p
 exact zeG e (h _ _ q)
mutual
theorem za (hc:Mono cf):∀ (e:E) {ρ:List Slot}{V V':Po}{S:Store},(∀ x S,V x S->V' x S)->wpE cf ρ e V S->wpE cf ρ e V' S
 | .var i,_,_,_,_,h,k=>kJ (fun _=>h _ _) (fun _=>h _ _) k
 | .con d,_,_,_,_,h,k=>h _ _ k
 | .glo _ d,_,_,_,_,h,k=>h _ _ k
 | .bin op a b,_,_,_,_,h,k=>za hc a (fun _ _=>za hc b fun _ _=>zm fun _=>h _ _) k
 | .neg a,_,_,_,_,h,k=>za hc a (fun _ _=>xr fun _=>h _ _) k
 | .cmp op a b,_,_,_,_,h,k=>za hc a (fun _ _=>za hc b fun _ _=>zm fun _=>h _ _) k
 | .chn o1 o2 a b c,_,_,_,_,h,k=>za hc a (fun _ _=>za hc b fun _ _=>zm fun _=>zr (za hc c fun _ _=>zm fun _=>h _ _) (h _ _)) k
 | .not a,_,_,_,_,h,k=>za hc a (fun _ _=>yl fun _=>h _ _) k
 | .and a b,_,_,_,_,h,k=>za hc a (fun _ _=>yl fun _=>zr (za hc b h) (h _ _)) k
 | .or a b,_,_,_,_,h,k=>za hc a (fun _ _=>yl fun _=>zr (h _ _) (za hc b h)) k
 | .ite c a b,_,_,_,_,h,k=>za hc c (fun _ _=>yl fun _=>zr (za hc a h) (za hc b h)) k
 | .tup es,_,_,_,_,h,k=>zB hc es (fun _ _=>zr (h _ _) id) k
 | .lst es,_,_,_,_,h,k=>zB hc es (fun _ _=>zr (h _ _) id) k
 | .dic _ _ es,_,_,_,_,h,k=>zB hc es (fun _ _=>zr (h _ _) id) k
 | .sub a b,_,_,_,_,h,k=>za hc a (fun _ _=>za hc b fun _ _=>zm fun _=>h _ _) k
 | .slc a l u,_,_,_,_,h,k=>za hc a (fun _ _=>Xx hc l fun _ _=>Xx hc u fun _ _=>zm fun _=>h _ _) k
 | .bi b [],_,_,_,_,h,k=>zB hc [] (fun _ _=>zm fun _=>h _ _) k
 | .bi b [e],_,_,_,_,h,k=>za hc e (fun _ _=>zm fun _=>h _ _) k
 | .bi b (e::f::es),_,_,_,_,h,k=>zB hc (e::f::es) (fun _ _=>zm fun _=>h _ _) k
 | .mth m o es,_,_,_,_,h,k=>za hc o (fun _ _=>zr (zB hc es fun _ _=>zm fun _=>h _ _) id) k
 | .call f es,_,_,_,_,h,k=>zB hc es (fun _ _=>hc _ _ _ _ _ h) k
 | .callk f p es,_,_,_,_,h,k=>zB hc es (fun _ _=>zm fun _=>hc _ _ _ _ _ h) k
 | .comp t js it ifs elt,ρ,V,V',S,h,k=>by
  refine Xy hc it (fun its S1 q=>?_) k
  refine ug ?_ ?_ q
  ·intro d K K' S q
   exact zm fun ρ'=>K3 hc ifs fun b S1=>zr (za hc elt fun x S2=>zu fun d=>q _ _) (q _ _)
  ·exact fun ds S2=>h _ _
 | .box e,_,_,_,_,h,k=>za hc e (fun _ _=>Yh fun _=>h _ _) k
 | .one e,_,_,_,_,h,k=>za hc e h k
 | .flip e,_,_,_,_,h,k=>za hc e (fun _ _=>zm fun _=>h _ _) k
 | .callv i es,_,_,_,_,h,k=>kJ (fun _=>Ww fun _=>zB hc es fun _ _=>hc _ _ _ _ _ h) (fun _=>Ww fun _=>zB hc es fun _ _=>hc _ _ _ _ _ h) k
 | .seq _,_,_,_,_,_,k=>k
 | .rng _ _,_,_,_,_,_,k=>k
 | .enum _,_,_,_,_,_,k=>k
 | .zip _ _,_,_,_,_,_,k=>k
 | .rev _,_,_,_,_,_,k=>k
 | .dwn _,_,_,_,_,_,k=>k
 | .items _,_,_,_,_,_,k=>k
theorem zB (hc:Mono cf):∀ (es:List E) {ρ:List Slot}{V V':List D->Store->Prop}{S:Store},(∀ x S,V x S->V' x S)->wpEs cf ρ es V S->wpEs cf ρ es V' S
 | [],_,_,_,_,h,k=>h _ _ k
 | e::es,_,_,_,_,h,k=>za hc e (fun _ _=>zu fun _=>zB hc es fun _ _=>h _ _) k
theorem Xx (hc:Mono cf):∀ (o:Option E) {ρ:List Slot}{V V':Option Int->Store->Prop}{S:Store},(∀ x S,V x S->V' x S)->wpO cf ρ o V S->wpO cf ρ o V' S
 | none,_,_,_,_,h,k=>h _ _ k
 | some e,_,_,_,_,h,k=>za hc e (fun _ _=>xr fun _=>h _ _) k
theorem K3 (hc:Mono cf):∀ (es:List E) {ρ:List Slot}{V V':Bool->Store->Prop}{S:Store},(∀ x S,V x S->V' x S)->wpF cf ρ es V S->wpF cf ρ es V' S
 | [],_,_,_,_,h,k=>h _ _ k
 | [e],_,_,_,_,h,k=>za hc e (fun _ _=>yl fun _=>h _ _) k
 | _::_::_,_,_,_,_,_,k=>k
theorem Xy (hc:Mono cf):∀ (e:E) {ρ:List Slot}{V V':List D->Store->Prop}{S:Store},(∀ x S,V x S->V' x S)->wpI cf ρ e V S->wpI cf ρ e V' S
 | .rng none e,_,_,_,_,h,k=>za hc e (fun _ _=>xr fun _=>zr (h _ _) id) k
 | .rng (some a) e,_,_,_,_,h,k=>za hc a (fun _ _=>za hc e fun _ _=>xr fun _=>xr fun _=>zr (h _ _) id) k
 | .enum e,_,_,_,_,h,k=>za hc e (fun _ _=>zu fun _=>zm fun _=>h _ _) k
 | .seq e,_,_,_,_,h,k=>za hc e (fun _ _=>zu fun _=>zm fun _=>h _ _) k
 | .var _,_,_,_,_,_,k=>k
 | .con _,_,_,_,_,_,k=>k
 | .glo _ _,_,_,_,_,_,k=>k
 | .bin _ _ _,_,_,_,_,_,k=>k
 | .neg _,_,_,_,_,_,k=>k
 | .cmp _ _ _,_,_,_,_,_,k=>k
 | .chn _ _ _ _ _,_,_,_,_,_,k=>k
 | .not _,_,_,_,_,_,k=>k
 | .and _ _,_,_,_,_,_,k=>k
 | .or _ _,_,_,_,_,_,k=>k
 | .ite _ _ _,_,_,_,_,_,k=>k
 | .tup _,_,_,_,_,_,k=>k
 | .lst _,_,_,_,_,_,k=>k
 | .dic _ _ _,_,_,_,_,_,k=>k
 | .sub _ _,_,_,_,_,_,k=>k
 | .slc _ _ _,_,_,_,_,_,k=>k
 | .bi _ _,_,_,_,_,_,k=>k
 | .mth _ _ _,_,_,_,_,_,k=>k
 | .call _ _,_,_,_,_,_,k=>k
 | .callk _ _ _,_,_,_,_,_,k=>k
 | .callv _ _,_,_,_,_,_,k=>k
 | .comp _ _ _ _ _,_,_,_,_,_,k=>k
 | .box _,_,_,_,_,_,k=>k
 | .one _,_,_,_,_,_,k=>k
 | .flip _,_,_,_,_,_,k=>k
 | .zip _ _,_,_,_,_,_,k=>k
 | .dwn es,_,_,_,_,h,k=>zB hc es (fun _ _=>zm fun _=>h _ _) k
 | .rev e,_,_,_,_,h,k=>za hc e (fun _ _=>xr fun _=>zr (h _ _) id) k
 | .items e,_,_,_,_,h,k=>za hc e (fun _ _=>zu fun _=>v8 fun _=>JP fun _ _=>h _ _) k
end
theorem Q3 {s:Option Slot}{S:Store}{P Q:Nat->List D->Prop}(h:∀ k l,P k l->Q k l) (p:frW s S P):frW s S Q:=by
 obtain ⟨k,l,rfl,e,q⟩:=zaW p
 exact zeR e (h k l q)
theorem v6 {s:Option Slot}{P Q:List D->Prop}(h:∀ a,P a->Q a):owL s P->owL s Q:=by
 cases s with
 | none=>exact id
 | some s=>
  cases s with
  | ow d=>cases d <;> first | exact h _ | exact id
  | _=>exact id
theorem QC {s:Option Slot}{P Q:D->Prop}(h:∀ a,P a->Q a):owD s P->owD s Q:=by
 cases s with
 | none=>exact id
 | some s=>cases s <;> first | exact h _ | exact id
theorem Wv {s:Option D}{P Q:List D->Prop}(h:∀ a,P a->Q a):isL s P->isL s Q:=by
 cases s with
 | none=>exact id
 | some s=>cases s <;> first | exact h _ | exact id
theorem Ut {x:Vl}{P Q:O->Prop}(h:∀ a,P a->Q a):retV x P->retV x Q:=by
 obtain ⟨d,k⟩:=x
 cases k <;> first | exact h _ | exact id
def Km (b:List Slot->Ko->Store->Prop):Prop:=∀ ρ (K K':Ko) S,(∀ o S,K o S->K' o S)->b ρ K S->b ρ K' S
theorem QJ {f f':List Slot->Store->Prop}{K K':Ko}(h:∀ ρ S,f ρ S->f' ρ S) (k:∀ o S,K o S->K' o S):∀ o S,nxt f K o S->nxt f' K' o S:=by
 intro o S
 cases o <;> first | exact h _ _ | exact k _ _
theorem vY {f f':List Slot->Store->Prop}{K K':Ko}(h:∀ ρ S,f ρ S->f' ρ S) (k:∀ o S,K o S->K' o S):∀ o S,trn K f o S->trn K' f' o S:=by
 intro o S
 cases o <;> first | exact h _ _ | exact k _ _
theorem ZZ {t:T}{b:List Slot->Ko->Store->Prop}(hb:Km b) {K K':Ko}(k:∀ o S,K o S->K' o S):∀ {l:List D}{ρ:List Slot}{S:Store},forW t b l ρ K S->forW t b l ρ K' S
 | [],_,_,h=>k _ _ h
 | d::l,_,_,h=>zm (fun _=>hb _ _ _ _ (vY (fun _ _=>ZZ hb k) k)) h
theorem qO {c:List Slot->Po->Store->Prop}{b:List Slot->Ko->Store->Prop}(hc:∀ ρ (V V':Po) S,(∀ x S,V x S->V' x S)->c ρ V S->c ρ V' S) (hb:Km b) {K K':Ko}(k:∀ o S,K o S->K' o S):∀ {n:Nat}{ρ:List Slot}{S:Store},whlW c b n ρ K S->whlW c b n ρ K' S
 | 0,_,_,h=>h
 | n+1,_,_,h=>hc _ _ _ _ (fun _ _=>yl fun _=>zr (hb _ _ _ _ (vY (fun _ _=>qO hc hb k) k)) (k _ _)) h
variable {w:Nat}
theorem Qj (hc:Mono cf) (e:E) {ρ:List Slot}{K K':Ko}{S:Store}(h:∀ o S,K o S->K' o S) (k:wpC cf w (.ret e) ρ K S):wpC cf w (.ret e) ρ K' S:=by
 cases e <;> first | exact kJ (fun _=>h _ _) (fun _=>h _ _) k | exact za hc _ (fun _ _=>Ut fun _=>h _ _) k
theorem Qh (hc:Mono cf) (t:T) (e:E) {ρ:List Slot}{K K':Ko}{S:Store}(h:∀ o S,K o S->K' o S) (k:wpC cf w (.set t e) ρ K S):wpC cf w (.set t e) ρ K' S:=by
 cases e <;> first | exact za hc _ (fun _ _=>zm fun _=>h _ _) k | exact za hc _ (fun _ _=>Yh fun _=>zm fun _=>h _ _) k
mutual
theorem K4 (hc:Mono cf):∀ (c:C) {ρ:List Slot}{K K':Ko}{S:Store},(∀ o S,K o S->K' o S)->wpC cf w c ρ K S->wpC cf w c ρ K' S
 | .set t e,_,_,_,_,h,k=>Qh hc t e h k
 | .expr e,_,_,_,_,h,k=>za hc e (fun _ _=>h _ _) k
 | .ret e,_,_,_,_,h,k=>Qj hc e h k
 | .retN,_,_,_,_,h,k=>h _ _ k
 | .ite e A B,_,_,_,_,h,k=>za hc e (fun _ _=>yl fun _=>zr (zY hc A h) (zY hc B h)) k
 | .whl e A,ρ,K,K',S,h,k=>by
  have k:whlW (fun ρ=>wpE cf ρ e) (fun ρ=>wpCs cf w A ρ) w ρ K S:=k
  refine qO ?_ ?_ h k
  ·exact fun ρ V V' S q=>za hc e q
  ·exact fun ρ V V' S q=>zY hc A q
 | .forr t it A,ρ,K,K',S,h,k=>by
  refine Xy hc it (fun l S1 q=>?_) k
  refine ZZ ?_ h q
  exact fun ρ V V' S q=>zY hc A q
 | .app i e,_,_,_,_,h,k=>v6 (fun _=>za hc e fun _ _=>zu fun _=>zr (h _ _) id) k
 | .ext i e,_,_,_,_,h,k=>v6 (fun _=>za hc e fun _ _=>zu fun _=>zm fun _=>zr (h _ _) id) k
 | .stv i a v,_,_,_,_,h,k=>QC (fun _=>za hc v fun _ _=>zu fun _=>za hc a fun _ _=>zu fun _=>zm fun _=>h _ _) k
 | .sti o a v,_,_,_,_,h,k=>za hc v (fun _ _=>zu fun _=>za hc o fun _ _=>zu fun _=>za hc a fun _ _=>zu fun _=>v8 fun _=>zm fun _=>zm fun _=>h _ _) k
 | .pop i,_,_,_,_,h,k=>v6 (fun _=>zr (h _ _) id) k
 | .appR o e,_,_,_,_,h,k=>za hc o (fun _ _=>zu fun _=>v8 fun _=>zr (za hc e fun _ _=>zu fun _=>Wv fun _=>zr (h _ _) id) id) k
 | .popO t i,_,_,_,_,h,k=>v6 (fun _=>zm fun _=>zm fun _=>h _ _) k
 | .popR t o,_,_,_,_,h,k=>za hc o (fun _ _=>zu fun _=>v8 fun _=>Wv fun _=>zm fun _=>zm fun _=>h _ _) k
 | .pass,_,_,_,_,h,k=>h _ _ k
 | .brk,_,_,_,_,h,k=>h _ _ k
 | .cnt,_,_,_,_,h,k=>h _ _ k
 | .frz i,_,_,_,_,h,k=>h _ _ k
 | .frr i,_,_,_,_,h,k=>Q3 (fun _ _=>h _ _) k
theorem zY (hc:Mono cf):∀ (cs:List C) {ρ:List Slot}{K K':Ko}{S:Store},(∀ o S,K o S->K' o S)->wpCs cf w cs ρ K S->wpCs cf w cs ρ K' S
 | [],_,_,_,_,h,k=>h _ _ k
 | c::cs,_,_,_,_,h,k=>K4 hc c (QJ (fun _ _=>zY hc cs h) h) k
end
theorem V8 {V V':Po}(h:∀ x S,V x S->V' x S):∀ o S,told V o S->told V' o S:=by
 intro o S
 cases o <;> first | exact h _ _ | exact id
theorem yC {F:Nat->Option Fn}:∀ k,Mono (callW F w k)
 | 0=>fun _ _ _ _ _ _ h=>h
 | k+1=>fun f ds V V' S h q=>zm (fun _ ⟨a,b⟩=>⟨a,zY (yC k) _ (V8 h) b⟩) q
theorem Xz (hc:Mono cf):∀ (es:List E) {ρ:List Slot}{W:List D->Store->Prop}{S:Store},wpEs cf ρ es W S->wpEs cf ρ es (fun ds S=>W ds S/\ds.length=es.length) S
 | [],_,_,_,h=>⟨h,rfl⟩
 | e::es,_,_,_,h=>za hc e (fun _ _=>zu fun _ q=>zB hc es (fun _ _ q=>⟨q.1,by rw [bR,q.2];rfl⟩) (Xz hc es q)) h
end
open PySem PySem.Spec PyProof.Rows L2
def Rdb (Γ:Gm) (H:Hp) (g:G):D->V->Prop
 | .tup ds,v=>∃ a vs,v=.ref a/\g.R a=some (.tup vs)/\Hass Γ g ds vs
 | .lst ds,v=>∃ a vs,v=.ref a/\H a=some (.lst vs)/\Hass Γ g ds vs
 | .dK ks ds,v=>∃ a vs,v=.ref a/\H a=some (.dK (ks.zip vs))/\ks.length=ds.length/\Hass Γ g ds vs
 | .dT ks ds,v=>∃ a vs,v=.ref a/\H a=some (.dT (ks.zip vs))/\ks.length=ds.length/\Hass Γ g ds vs
 | .non,v=>v=.non
 | .bl b,v=>v=.bl b
 | .int i,v=>v=.int i
 | .str x,v=>v=.str x
 | .ref _,v=>∃ a,v=.ref a
 | .fn f,v=>∃ a,Γ.fa f=some a/\v=.ref a
 | .scr ns,v=>∃ a,v=.ref a/\SqL Γ.K H a (ns.map V.int)
 | .ktp ds,v=>∃ a vs,v=.ref a/\KTup Γ.K a vs/\Hass Γ g ds vs
 | .kdc ps,v=>∃ a,v=.ref a/\KDic Γ.K a ps
section
variable {Γ:Gm}{H H':Hp}{g g':G}{S:Store}{d:D}{v:V}{a:Addr}
theorem Uy (w:WOk Γ H g S) (h:Has Γ g d v):Rdb Γ H g (deref S d) v:=by
 cases d with
 | non=>exact h
 | bl=>exact h
 | int=>exact h
 | str=>exact h
 | fn f=>exact h
 | tup ds=>exact h
 | lst ds=>obtain ⟨a,vs,h1,h2,h3⟩:=h;exact ⟨a,vs,h1,w.rh _ _ h2,h3⟩
 | scr ns=>obtain ⟨a,h1,h2⟩:=h;exact ⟨a,h1,w.rh.seq h2⟩
 | dK ks ds=>obtain ⟨a,vs,h1,h2,h4,h3⟩:=h;exact ⟨a,vs,h1,w.rh _ _ h2,h4,h3⟩
 | dT ks ds=>obtain ⟨a,vs,h1,h2,h4,h3⟩:=h;exact ⟨a,vs,h1,w.rh _ _ h2,h4,h3⟩
 | ktp=>exact h
 | kdc=>exact h
 | ref k=>
  obtain ⟨a,h1,rfl⟩:=h
  have hk:k < S.length:=by rw [<- w.len];exact (Ζ.mp h1).1
  have e:S[k]?=some S[k]:=χ hk
  have c:=w.cell k _ a e h1
  show Rdb Γ H g ((S[k]?).getD .non) (.ref a)
  rw [e]
  show Rdb Γ H g S[k] (.ref a)
  generalize S[k]=x at c
  cases x with
  | lst ds=>obtain ⟨vs,h1,h2⟩:=c;exact ⟨a,vs,rfl,h1,h2⟩
  | dK ks ds=>obtain ⟨vs,h1,h3,h2⟩:=c;exact ⟨a,vs,rfl,h1,h3,h2⟩
  | dT ks ds=>obtain ⟨vs,h1,h3,h2⟩:=c;exact ⟨a,vs,rfl,h1,h3,h2⟩
  | non=>exact c.elim
  | bl=>exact c.elim
  | int=>exact c.elim
  | str=>exact c.elim
  | tup=>exact c.elim
  | ref=>exact ⟨a,rfl⟩
  | fn=>exact c.elim
  | scr=>exact c.elim
  | ktp=>exact c.elim
  | kdc=>exact c.elim
def Fin (Γ:Gm) (H:Hp) (g:G) (S:Store) (d:D) (fr:Bool) (Q:VK):Prop:=
 ∀ v H' g',Step H g H' g'->Same H H'->WOk Γ H' g' S->VOk Γ H d fr v H' g'->Q v H'
variable {Q:VK}
theorem zc (w:WOk Γ H g S) (q:Fin Γ H g S d false Q) (h:Has Γ g d v):Q v H:=q v H g (Step.refl H g) (Same.refl H) w h
theorem WOk.laid {o:HO}(w:WOk Γ H g S) (h:H a=none):WOk Γ (upd H a o) g S where
 rh:=fun b u q=>by
  have e:=w.rh b u q
  rw [zf (zg e h)];exact e
 len:=w.len
 nd:=w.nd
 off:=w.off
 cell:=fun k c b h1 h2=>(w.cell k c b h1 h2).mono (Le.refl g) fun o e=>by rw [zf (zg e h)];exact e
theorem WOk.notR (w:WOk Γ H g S) (h:H a=none):g.R a=none:=by
 cases q:g.R a with
 | none=>rfl
 | some o=>rw [w.rh a o q] at h;cases h
theorem WOk.notA (w:WOk Γ H g S) (h:H a=none):a ∉ g.α:=fun m=>by
 obtain ⟨k,hk,e⟩:=ir m
 have hk':k < S.length:=by rw [<- w.len];exact hk
 obtain ⟨o,ho,_⟩:=(w.cell k _ a (χ hk') (by rw [χ hk,e])).isMut
 rw [ho] at h;cases h
theorem yc {o:HO}(h:H a=none):Same H (upd H a o):=fun b u q=>by rw [zf (zg q h)];exact q
theorem qz {ds:List D}{vs:List V}(w:WOk Γ H g S) (q:Fin Γ H g S (.tup ds) false Q) (h:Hass Γ g ds vs) (ha:H a=none):Q (.ref a) (upd H a (.tup vs)):=by
 have hr:=w.notR ha
 refine q _ _ (g.put a (.tup vs)) ?_ (yc ha) ((w.laid ha).put zj hr (w.notA ha)) ⟨a,vs,rfl,zj,h.mono (Le.put hr)⟩
 exact (Step.of_same (yc ha) (Le.refl g) (fun _ h=>.inl h) fun _ h=>.inl h).put hr ha
theorem yX {ds:List D}{vs:List V}(w:WOk Γ H g S) (q:Fin Γ H g S (.lst ds) true Q) (h:Hass Γ g ds vs) (ha:H a=none):Q (.ref a) (upd H a (.lst vs)):=
 q _ _ g (Step.of_same (yc ha) (Le.refl g) (fun _ h=>.inl h) fun _ h=>.inl h) (yc ha) (w.laid ha) ⟨a,rfl,ha,w.notR ha,w.notA ha,vs,zj,h⟩
end
theorem zaL {n:Nat}(h:fits n=true):n < sizeLine:=oR (of_decide_eq_true h) (by decide)
theorem yO {n:Nat}(h:fits n=true):n<=sizeLine:=gr (zaL h)
def RDo (Γ:Gm) (r:R2) (a b:D) (d:D) (fr:Bool):Prop:=
 ∀ (S:Store) (H:Hp) (g:G) (x y:V) (Q:VK),WOk Γ H g S->Rdb Γ H g a x->Rdb Γ H g b y->Fin Γ H g S d fr Q->r x y H Q
section
variable {X:Cx}{Γ:Gm}
def rCatS:R2:=fun x y H Q=>∃ l b xs zs,x=.ref l/\y=.ref b/\H l=some (.lst xs)/\H b=some (.lst zs)/\xs.length+zs.length<=sizeLine/\∀ p,H p=none->Q (.ref p) (upd H p (.lst (xs++zs)))
theorem zb2:OpR X (bI .Add) rCatS:=by
 intro pJ s σ H x y v u Q I rx ry h
 obtain ⟨l,b,xs,zs,rfl,rfl,hH,hB,hz,q⟩:=h
 cases rx
 cases ry
 obtain ⟨z,its,n,r,e⟩:=I.hok _ _ hH
 obtain ⟨z2,its2,n2,r2,e2⟩:=I.hok _ _ hB
 have hl:=r.length
 have hl2:=r2.length
 refine PySem.P.add_list e e2 ?_ (by rw [ξ,ξ];omega)
 have ea:its.toArray++its2.toArray=(its++its2).toArray:=by simp
 rw [ea]
 exact ⟨.ref _,_,I.lnew (t':=s.toks) (r.append r2) (by rw [Ϗ];omega),rfl,q _ I.fresh⟩
theorem Wy {g:G}{ds:List D}{vs:List V}(h:Hass Γ g ds vs):∀ n:Nat,Hass Γ g (ς n ds).flatten (ς n vs).flatten
 | 0=>rfl
 | n+1=>by
  rw [aG,aG,cJ,cJ]
  exact h.app (Wy h n)
theorem XF {xs:List V}{us:List δ}(h:Vals xs us):∀ n:Nat,Vals (ς n xs).flatten (ς n us).flatten
 | 0=>.nil
 | n+1=>by
  rw [aG,aG,cJ,cJ]
  exact h.append (XF h n)
theorem Uu (us:List δ):∀ (n:Nat) (acc:List δ),List.foldl (fun x1 x2=>x1++x2) acc.toArray (ς n us.toArray)=(acc++(ς n us).flatten).toArray
 | 0,acc=>by simp
 | n+1,acc=>by
  rw [aG,dB,List.append_toArray,Uu us n,aG,cJ,ό]
def rRepS:R2:=fun x y H Q=>∃ l xs n,x=.ref l/\y=.int n/\H l=some (.lst xs)/\0<=n/\n < 2 ^ 20/\xs.length*n.toNat<=sizeLine/\∀ p,H p=none->Q (.ref p) (upd H p (.lst (ς n.toNat xs).flatten))
theorem zbY:OpR X (bI .Mult) rRepS:=by
 intro pJ s σ H x y v u Q I rx ry h
 obtain ⟨l,xs,k,rfl,rfl,hH,k0,k1,hz,q⟩:=h
 cases rx
 obtain ⟨t,rfl⟩:=ry
 obtain ⟨z,its,n,r,e⟩:=I.hok _ _ hH
 have hl:=r.length
 have hi:s.heap.get? l=some { cls:=.type "list",dict:=none,data:=.seq its.toArray n,slots:=#[] }:=e
 have hz':its.toArray.size*k.toNat<=2 ^ 24:=by
  rw [ξ,<- hl]
  rw [Ϻ] at hz
  omega
 refine wpAny_binaryOp_repeat_ref (T:="list") (U:="int") (by decide) ⟨_,hi,rfl⟩ (fun s'=>typeIs_int s' k t) noFill_list_mul F.fills_int_mul F.slot_int_rmul repeat_list F.slot_int_index.lookup
  (lH F.slot_int_rmul (typeIs_int s k t) F.entry_int_rmul (F.args_int_rmul_2 _ _) (int___rmul___int_list k t l its.toArray n)
   ⟨hi,rfl,⟨_,hi,rfl⟩,lH F.slot_list_mul ⟨_,hi,rfl⟩ F.entry_list_mul (F.args_list_mul_2 _ _)
    (AutoListH.list___mul___list_int_3 l its.toArray n k t (by simp [Ω.List.listFitsIndex];omega) (by omega) (by simp [cO,sizeLine];rw [ξ] at hz';omega))
    ⟨hi,?_⟩⟩)
 have ea:List.foldl (fun x1 x2=>x1++x2) #[] (ς (if its.toArray.isEmpty=true then 0 else k.toNat) its.toArray)=((ς k.toNat its).flatten).toArray:=by
  cases its with
  | nil=>
   have:(ς k.toNat ([]:List δ)).flatten=[]:=by induction k.toNat with
    | zero=>rfl
    | succ n ih=>rw [aG,cJ,ih];rfl
   rw [this];rfl
  | cons a l=>
   have:((a::l).toArray.isEmpty=true)=False:=by simp
   rw [if_neg (by rw [this];exact id)]
   have:=Uu (a::l) k.toNat []
   simpa using this
 rw [ea]
 exact ⟨.ref _,_,I.lnew (t':=s.toks) (XF r _) (by
  have:(ς k.toNat xs).flatten.length=xs.length*k.toNat:=by
   rw [List.length_flatten,List.map_replicate,List.sum_replicate_nat,Nat.mul_comm]
  rw [this];exact hz),rfl,q _ I.fresh⟩
theorem wX {f:Int->Int->Option Int}{a b:D}{p:D×Bool}(h:num2 f a b=some p):∃ i j k,a=.int i/\b=.int j/\f i j=some k/\p=(.int k,false):=by
 cases a with
 | int i=>
  cases b with
  | int j=>
   obtain ⟨k,e,rfl⟩:=Ι.mp (show (f i j).map (fun k=>(D.int k,false))=some p from h)
   exact ⟨i,j,k,rfl,rfl,e,rfl⟩
  | _=>cases h
 | _=>cases h
theorem zcV {a b:D}{d:D}{fr:Bool}(hK:X.K=Γ.K) (h:addD a b=some (d,fr)):∃ r,OpR X (bI .Add) r/\RDo Γ r a b d fr:=by
 cases a with
 | int i=>
  cases b with
  | int j=>
   cases h
   exact ⟨_,zec,fun S H g x y Q w hx hy q=>⟨_,_,hx,hy,zc w q rfl⟩⟩
  | _=>cases h
 | str s=>
  cases b with
  | str u=>
   have h:(if fits (s.length+u.length)=true then some (D.str (s++u),false) else none)=some (d,fr):=h
   split at h
   ·rename_i hf
    cases h
    exact ⟨_,Vn,fun S H g x y Q w hx hy q=>⟨_,_,hx,hy,yO hf,zc w q rfl⟩⟩
   ·cases h
  | _=>cases h
 | tup s=>
  cases b with
  | tup u=>
   have h:(if fits (s.length+u.length)=true then some (D.tup (s++u),false) else none)=some (d,fr):=h
   split at h
   ·rename_i hf
    cases h
    refine ⟨_,zb1.or QF,fun S H g x y Q w ⟨a,xs,e1,e2,e3⟩ ⟨b,ys,f1,f2,f3⟩ q=>?_⟩
    rw [hK]
    have h1:=e3.len
    have h2:=f3.len
    have hz:=yO hf
    by_cases hx:xs=[]
    ·subst hx
     refine .inr ⟨a,b,ys,e1,f1,SqT.of (w.rh _ _ e2),SqT.of (w.rh _ _ f2),?_⟩
     have e0:=bQ.mp h1.symm
     subst e0
     exact zc w q ⟨b,ys,rfl,f2,f3⟩
    ·refine .inl ⟨a,b,xs,ys,e1,f1,SqT.of (w.rh _ _ e2),SqT.of (w.rh _ _ f2),hx,by lia,fun z=>?_,fun _ p hp=>qz w q (e3.app f3) hp⟩
     subst z
     have e0:=bQ.mp h2.symm
     subst e0
     refine zc w q ⟨a,xs,rfl,e2,?_⟩
     rw [Υ]
     exact e3
   ·cases h
  | _=>cases h
 | lst s=>
  cases b with
  | lst u=>
   have h:(if fits (s.length+u.length)=true then some (D.lst (s++u),true) else none)=some (d,fr):=h
   split at h
   ·rename_i hf
    cases h
    refine ⟨_,zb2,fun S H g x y Q w ⟨a,xs,e1,e2,e3⟩ ⟨b,ys,f1,f2,f3⟩ q=>?_⟩
    have h1:=e3.len
    have h2:=f3.len
    have hz:=yO hf
    exact ⟨a,b,xs,ys,e1,f1,e2,f2,by lia,fun p hp=>yX w q (e3.app f3) hp⟩
   ·cases h
  | _=>cases h
 | _=>cases h
theorem zce {a b:D}{d:D}{fr:Bool}(h:mulD a b=some (d,fr)):∃ r,OpR X (bI .Mult) r/\RDo Γ r a b d fr:=by
 cases a with
 | int i=>
  cases b with
  | int j=>
   have h:(if (zP i||zP j)=true then some (D.int (i*j),false) else none)=some (d,fr):=h
   split at h
   ·rename_i hf
    cases h
    refine ⟨_,zd6,fun S H g x y Q w hx hy q=>⟨_,_,hx,hy,?_,zc w q rfl⟩⟩
    simp only [zP,lN,ζ,decide_eq_true_eq] at hf
    exact hf
   ·cases h
  | _=>cases h
 | lst l=>
  cases b with
  | int n=>
   have h:(if (decide (0<=n)&&decide (n < 2 ^ 20)&&fits (l.length*n.toNat))=true then some (D.lst (ς n.toNat l).flatten,true) else none)=some (d,fr):=h
   split at h
   ·rename_i hf
    cases h
    simp only [ζ,decide_eq_true_eq] at hf
    refine ⟨_,zbY,fun S H g x y Q w ⟨a,xs,e1,e2,e3⟩ hy q=>?_⟩
    have h1:=e3.len
    have hz:=yO hf.2
    exact ⟨a,xs,_,e1,hy,e2,hf.1.1,hf.1.2,by rw [h1];exact hz,fun p hp=>yX w q (Wy e3 _) hp⟩
   ·cases h
  | _=>cases h
 | _=>cases h
theorem zd3 {op:lU}{a b:D}{d:D}{fr:Bool}(hK:X.K=Γ.K) (h:opD op a b=some (d,fr)):∃ r,OpR X (bI op) r/\RDo Γ r a b d fr:=by
 cases op with
 | Add=>exact zcV hK h
 | Mult=>exact zce h
 | Sub=>
  obtain ⟨i,j,k,rfl,rfl,e,e2⟩:=wX h
  cases e
  cases e2
  exact ⟨_,zd2,fun S H g x y Q w hx hy q=>⟨_,_,hx,hy,zc w q rfl⟩⟩
 | FloorDiv=>
  obtain ⟨i,j,k,rfl,rfl,e,e2⟩:=wX h
  cases e2
  split at e
  ·rename_i hf
   cases e
   refine ⟨_,QD,fun S H g x y Q w hx hy q=>⟨_,_,hx,hy,?_,zc w q rfl⟩⟩
   simp only [ζ,decide_eq_true_eq] at hf
   exact hf
  ·cases e
 | Mod=>
  obtain ⟨i,j,k,rfl,rfl,e,e2⟩:=wX h
  cases e2
  split at e
  ·rename_i hf
   cases e
   exact ⟨_,zd7,fun S H g x y Q w hx hy q=>⟨_,_,hx,hy,of_decide_eq_true hf,zc w q rfl⟩⟩
  ·cases e
 | Pow=>
  obtain ⟨i,j,k,rfl,rfl,e,e2⟩:=wX h
  cases e2
  split at e
  ·rename_i hf
   cases e
   refine ⟨_,zd4,fun S H g x y Q w hx hy q=>⟨_,_,hx,hy,?_,zc w q rfl⟩⟩
   simp only [zP,ζ,decide_eq_true_eq] at hf
   exact ⟨hf.1.1,hf.1.2,by omega⟩
  ·cases e
 | _=>cases h
end
open PySem PySem.Spec PyProof.Rows L2 SeqAt
section
variable {X:Cx}{pJ:List (Addr×Obj)}{σ:L2.St}{H:Hp}{s:ν}{Γ:Gm}{g:G}
theorem zbl (sr:Same g.R H) {a:Addr}{xs ys:List V}(h:g.R a=some (.tup xs)) (h':g.R a=some (.tup ys)):xs=ys:=by
 rw [h] at h';cases h';rfl
theorem zbE (sr:Same g.R H) {a:Addr}{xs ys:List V}(h:g.R a=some (.lst xs)) (h':g.R a=some (.lst ys)):xs=ys:=by
 rw [h] at h';cases h';rfl
theorem tl_ne (sr:Same g.R H) {a b:Addr}{xs ys:List V}(h:g.R a=some (.lst xs)) (h':g.R b=some (.tup ys)):a≠b:=by
 rintro rfl
 rw [h] at h';cases h'
mutual
theorem qC (I:Inv X pJ σ H s) (hK:X.K=Γ.K) (sr:Same g.R H):∀ (n:Nat) (a b:D) (x:V),okP n a=true->okP n b=true->Has Γ g a x->Has Γ g b x->eqP a b=true
 | n,.non,b,x,_,kb,ha,hb=>by
  cases (show x=.non from ha)
  cases b with
  | non=>rfl
  | bl=>cases (show V.non=_ from hb)
  | int=>cases (show V.non=_ from hb)
  | str=>cases (show V.non=_ from hb)
  | tup=>obtain ⟨_,_,h,_⟩:=hb;cases h
  | lst=>obtain ⟨_,_,h,_⟩:=hb;cases h
  | _=>cases n <;> exact nobE kb
 | n,.bl c,b,x,_,kb,ha,hb=>by
  cases (show x=.bl c from ha)
  cases b with
  | non=>cases (show V.bl c=_ from hb)
  | bl=>cases (show V.bl c=_ from hb);exact beq_self_eq_true c
  | int=>cases (show V.bl c=_ from hb)
  | str=>cases (show V.bl c=_ from hb)
  | tup=>obtain ⟨_,_,h,_⟩:=hb;cases h
  | lst=>obtain ⟨_,_,h,_⟩:=hb;cases h
  | _=>cases n <;> exact nobE kb
 | n,.int c,b,x,_,kb,ha,hb=>by
  cases (show x=.int c from ha)
  cases b with
  | non=>cases (show V.int c=_ from hb)
  | bl=>cases (show V.int c=_ from hb)
  | int=>cases (show V.int c=_ from hb);exact beq_self_eq_true c
  | str=>cases (show V.int c=_ from hb)
  | tup=>obtain ⟨_,_,h,_⟩:=hb;cases h
  | lst=>obtain ⟨_,_,h,_⟩:=hb;cases h
  | _=>cases n <;> exact nobE kb
 | n,.str c,b,x,_,kb,ha,hb=>by
  cases (show x=.str c from ha)
  cases b with
  | non=>cases (show V.str c=_ from hb)
  | bl=>cases (show V.str c=_ from hb)
  | int=>cases (show V.str c=_ from hb)
  | str=>cases (show V.str c=_ from hb);exact beq_self_eq_true c
  | tup=>obtain ⟨_,_,h,_⟩:=hb;cases h
  | lst=>obtain ⟨_,_,h,_⟩:=hb;cases h
  | _=>cases n <;> exact nobE kb
 | 0,.tup as,b,x,ka,_,_,_=>nobE ka
 | n+1,.tup as,b,x,ka,kb,⟨a,xs,h1,h2,h3⟩,hb=>by
  subst h1
  cases b with
  | non=>cases (show V.ref a=_ from hb)
  | bl=>cases (show V.ref a=_ from hb)
  | int=>cases (show V.ref a=_ from hb)
  | str=>cases (show V.ref a=_ from hb)
  | tup bs=>
   obtain ⟨a',ys,f1,f2,f3⟩:=hb
   cases f1
   have e:=zbl sr h2 f2
   subst e
   exact uZ I hK sr n as bs xs ka kb h3 f3
  | lst bs=>
   obtain ⟨a',ys,f1,f2,f3⟩:=hb
   cases f1
   exact absurd rfl (tl_ne sr f2 h2)
  | _=>exact nobE kb
 | 0,.lst as,b,x,ka,_,_,_=>nobE ka
 | n+1,.lst as,b,x,ka,kb,⟨a,xs,h1,h2,h3⟩,hb=>by
  subst h1
  cases b with
  | non=>cases (show V.ref a=_ from hb)
  | bl=>cases (show V.ref a=_ from hb)
  | int=>cases (show V.ref a=_ from hb)
  | str=>cases (show V.ref a=_ from hb)
  | tup bs=>
   obtain ⟨a',ys,f1,f2,f3⟩:=hb
   cases f1
   exact absurd rfl (tl_ne sr h2 f2)
  | lst bs=>
   obtain ⟨a',ys,f1,f2,f3⟩:=hb
   cases f1
   have e:=zbE sr h2 f2
   subst e
   exact uZ I hK sr n as bs xs ka kb h3 f3
  | _=>exact nobE kb
 | n,.dK _ _,b,x,ka,_,_,_=>by revert ka;cases n <;> exact nobE
 | n,.dT _ _,b,x,ka,_,_,_=>by revert ka;cases n <;> exact nobE
 | n,.ref _,b,x,ka,_,_,_=>by revert ka;cases n <;> exact nobE
 | n,.fn _,b,x,ka,_,_,_=>by revert ka;cases n <;> exact nobE
 | n,.scr _,b,x,ka,_,_,_=>by revert ka;cases n <;> exact nobE
 | n,.ktp _,b,x,ka,_,_,_=>by revert ka;cases n <;> exact nobE
 | n,.kdc _,b,x,ka,_,_,_=>by revert ka;cases n <;> exact nobE
theorem uZ (I:Inv X pJ σ H s) (hK:X.K=Γ.K) (sr:Same g.R H):∀ (n:Nat) (as bs:List D) (xs:List V),okPs n as=true->okPs n bs=true->Hass Γ g as xs->Hass Γ g bs xs->eqPs as bs=true
 | n,[],bs,xs,_,_,ha,hb=>by
  cases (show xs=[] from ha)
  cases bs with
  | nil=>rfl
  | cons=>obtain ⟨_,_,h,_⟩:=hb;cases h
 | n,a::as,bs,xs,ka,kb,⟨v,r,h1,h2,h3⟩,hb=>by
  subst h1
  cases bs with
  | nil=>cases (show _=[] from hb)
  | cons b bs=>
   obtain ⟨v',r',f1,f2,f3⟩:=hb
   cases f1
   have ka':(okP n a&&okPs n as)=true:=ka
   have kb':(okP n b&&okPs n bs)=true:=kb
   rw [ζ] at ka' kb'
   show (eqP a b&&eqPs as bs)=true
   rw [qC I hK sr n a b v ka'.1 kb'.1 h2 f2,uZ I hK sr n as bs r ka'.2 kb'.2 h3 f3]
   rfl
end
theorem ue:∀ (as bs:List D),as.length=bs.length->eqPs as bs=(ϩ as.length).all fun i=>eqP (as.getD i .non) (bs.getD i .non)
 | [],[],_=>rfl
 | a::as,b::bs,h=>by
  have ih:=ue as bs (by simpa using h)
  show (eqP a b&&eqPs as bs)=_
  rw [ih,bR,nD,cu,List.all_map]
  rfl
 | [],_::_,h=>by simp at h
 | _::_,[],h=>by simp at h
theorem ud:∀ (as bs:List D),as.length≠bs.length->eqPs as bs=false
 | [],[],h=>absurd rfl h
 | a::as,b::bs,h=>by
  show (eqP a b&&eqPs as bs)=_
  rw [ud as bs (by simpa using h),gQ]
 | [],_::_,h=>rfl
 | _::_,[],h=>rfl
theorem v7 {as bs:List D}{xs ys:List V}{us ws:List δ}{n:Nat}{A:ϟ}(ka:okPs n as=true) (kb:okPs n bs=true) (ha:Hass Γ g as xs) (hb:Hass Γ g bs ys) (ra:Vals xs us) (rb:Vals ys ws)
  (ih:∀ (a b:D) (x y:V) (u v:δ),a∈as->okP n a=true->okP n b=true->Has Γ g a x->Has Γ g b y->RelV x u->RelV y v->EqAt A s u v (eqP a b)):
  ∀ (j:Nat) (h1:j < us.toArray.size) (h2:j < ws.toArray.size),EqAt A s us.toArray[j] ws.toArray[j] (eqP (as.getD j .non) (bs.getD j .non)):=by
 intro j h1 h2
 have l1:=ra.length
 have l2:=rb.length
 have l3:=ha.len
 have l4:=hb.len
 simp only [ξ] at h1 h2
 have k1:j < as.length:=by lia
 have k2:j < bs.length:=by lia
 obtain ⟨x,ex,hx⟩:=ha.get (χ k1)
 obtain ⟨y,ey,hy⟩:=hb.get (χ k2)
 obtain ⟨u,eu,ru⟩:=ra.get ex
 obtain ⟨v,ev,rv⟩:=rb.get ey
 have e1:us.toArray[j]'(by simpa using h1)=u:=by simpa [χ h1] using eu
 have e2:ws.toArray[j]'(by simpa using h2)=v:=by simpa [χ h2] using ev
 have g1:as.getD j .non=as[j]:=by simp [aF,k1]
 have g2:bs.getD j .non=bs[j]:=by simp [aF,k2]
 rw [e1,e2,g1,g2]
 have all:∀ (l:List D),okPs n l=true->∀ d∈l,okP n d=true:=by
  intro l
  induction l with
  | nil=>intro _ d hd;cases hd
  | cons c l il=>
   intro k d hd
   have k':(okP n c&&okPs n l)=true:=k
   rw [ζ] at k'
   rcases Η.mp hd with rfl | hd
   ·exact k'.1
   ·exact il k'.2 d hd
 exact ih _ _ x y u v (cX k1) (all as ka _ (cX k1)) (all bs kb _ (cX k2)) hx hy ru rv
theorem isT {a:Addr}{its:Array δ}{h:Heap}(p:IsTup h a its):h.IsTuple a its:=p
theorem units_in1 (A:ϟ):A.in1.units=A.units+1:=rfl
noncomputable def scD:D->Option V
 | .non=>some .non
 | .bl b=>some (.bl b)
 | .int i=>some (.int i)
 | .str x=>some (.str x)
 | _=>none
theorem yJ {d:D}{w x:V}(h:scD d=some w) (hh:Has Γ g d x):x=w:=by
 cases d <;> first | cases h | skip
 all_goals exact hh
theorem xn {d:D}{w:V}(h:scD d=some w):flatV w=true:=by
 cases d <;> first | cases h | skip
 all_goals rfl
theorem Ur {a b:D}{x y:V}(h:scD a=some x) (h':scD b=some y):eqV x y=eqP a b:=by
 cases a <;> first | cases h | skip
 all_goals (cases b <;> first | cases h' | skip)
 all_goals rfl
theorem zQ {n:Nat}{d:D}(h:okP n d=true):(∃ w,scD d=some w)\/(∃ m ds,n=m+1/\d=.tup ds/\okPs m ds=true)\/(∃ m ds,n=m+1/\d=.lst ds/\okPs m ds=true):=by
 cases d with
 | non=>exact .inl ⟨_,rfl⟩
 | bl=>exact .inl ⟨_,rfl⟩
 | int=>exact .inl ⟨_,rfl⟩
 | str=>exact .inl ⟨_,rfl⟩
 | tup ds=>cases n with
  | zero=>exact nobE h
  | succ m=>exact .inr (.inl ⟨m,ds,rfl,rfl,h⟩)
 | lst ds=>cases n with
  | zero=>exact nobE h
  | succ m=>exact .inr (.inr ⟨m,ds,rfl,rfl,h⟩)
 | _=>cases n <;> exact nobE h
section
variable {A:ϟ}{l:Addr}{its:Array δ}{w:V}{v:δ}{d:D}
theorem KH (p:s.heap.IsTuple l its) (hu:A.units < aj) (h:scD d=some w) (r:RelV w v):EqAt A s (.ref l) v false:=by
 cases d with
 | non=>cases h;cases (show v=Ο from r);exact EqAt.tuple_none p hu
 | bl b=>cases h;cases (show v=ύ b from r);exact EqAt.tuple_bool b p hu
 | int i=>cases h;obtain ⟨t,rfl⟩:=(show ∃ t,v=ϙ i t from r);exact EqAt.tuple_int i t p hu
 | str i=>cases h;obtain ⟨t,rfl⟩:=(show ∃ t,v=aQ i t from r);exact EqAt.tuple_str i t p hu
 | _=>cases h
theorem KJ (p:s.heap.IsTuple l its) (hu:A.units < aj) (h:scD d=some w) (r:RelV w v):EqAt A s v (.ref l) false:=by
 cases d with
 | non=>cases h;cases (show v=Ο from r);exact EqAt.none_tuple p hu
 | bl b=>cases h;cases (show v=ύ b from r);exact EqAt.bool_tuple b p hu
 | int i=>cases h;obtain ⟨t,rfl⟩:=(show ∃ t,v=ϙ i t from r);exact EqAt.int_tuple i t p hu
 | str i=>cases h;obtain ⟨t,rfl⟩:=(show ∃ t,v=aQ i t from r);exact EqAt.str_tuple i t p hu
 | _=>cases h
theorem KQ (p:s.heap.IsList l its) (hu:A.units < aj) (h:scD d=some w) (r:RelV w v):EqAt A s (.ref l) v false:=by
 cases d with
 | non=>cases h;cases (show v=Ο from r);exact EqAt.list_none p hu
 | bl b=>cases h;cases (show v=ύ b from r);exact EqAt.list_bool b p hu
 | int i=>cases h;obtain ⟨t,rfl⟩:=(show ∃ t,v=ϙ i t from r);exact EqAt.list_int i t p hu
 | str i=>cases h;obtain ⟨t,rfl⟩:=(show ∃ t,v=aQ i t from r);exact EqAt.list_str i t p hu
 | _=>cases h
theorem KN (p:s.heap.IsList l its) (hu:A.units < aj) (h:scD d=some w) (r:RelV w v):EqAt A s v (.ref l) false:=by
 cases d with
 | non=>cases h;cases (show v=Ο from r);exact EqAt.none_list p hu
 | bl b=>cases h;cases (show v=ύ b from r);exact EqAt.bool_list b p hu
 | int i=>cases h;obtain ⟨t,rfl⟩:=(show ∃ t,v=ϙ i t from r);exact EqAt.int_list i t p hu
 | str i=>cases h;obtain ⟨t,rfl⟩:=(show ∃ t,v=aQ i t from r);exact EqAt.str_list i t p hu
 | _=>cases h
end
theorem zR {d:D}{w:V}{bs:List D}(h:scD d=some w):eqP d (.tup bs)=false/\eqP (.tup bs) d=false/\eqP d (.lst bs)=false/\eqP (.lst bs) d=false:=by
 cases d <;> first | cases h | skip
 all_goals exact ⟨rfl,rfl,rfl,rfl⟩
theorem zay {as bs:List D}{xs ys:List V}{us ws:List δ}(r1:Vals xs us) (r2:Vals ys ws) (h3:Hass Γ g as xs) (f3:Hass Γ g bs ys):
  ((ϩ (min us.toArray.size ws.toArray.size)).all (fun j=>eqP (as.getD j .non) (bs.getD j .non))&&us.toArray.size==ws.toArray.size)=eqPs as bs:=by
 have l1:=r1.length
 have l2:=r2.length
 have l3:=h3.len
 have l4:=f3.len
 simp only [ξ]
 by_cases hl:as.length=bs.length
 ·rw [ue as bs hl]
  have m1:us.length=as.length:=by lia
  have m2:ws.length=as.length:=by lia
  rw [m1,m2]
  simp
 ·rw [ud as bs hl]
  have:¬ us.length=ws.length:=by lia
  simp [this]
theorem zaz {as bs:List D}{xs ys:List V}{us ws:List δ}{a b:Addr}{n:Nat}{A:ϟ}(ka:okPs n as=true) (kb:okPs n bs=true) (p1:PlainL s.heap a us.toArray) (p2:PlainL s.heap b ws.toArray) (r1:Vals xs us) (r2:Vals ys ws)
  (h3:Hass Γ g as xs) (f3:Hass Γ g bs ys) (hu:A.units < aj) (ih:∀ (a b:D) (x y:V) (u v:δ),a∈as->okP n a=true->okP n b=true->Has Γ g a x->Has Γ g b y->RelV x u->RelV y v->EqAt A.in1 s u v (eqP a b)):
  RcAt A s (.ref a) (.ref b) (eqPs as bs):=by
 have l1:=r1.length
 have l2:=r2.length
 have l3:=h3.len
 have l4:=f3.len
 by_cases hl:as.length=bs.length
 ·have k:=RcAt.lists p1.isList p2.isList (by simp only [ξ];lia) hu (v7 (A:=A.in1) ka kb h3 f3 r1 r2 ih)
  have m1:us.toArray.size=as.length:=by simp only [ξ];lia
  rw [m1,<- ue as bs hl] at k
  exact k
 ·rw [ud as bs hl]
  exact RcAt.lists_lengths (A:=A) p1.isList p2.isList (by simp only [ξ,bne_iff_ne];lia) hu
theorem WN (I:Inv X pJ σ H s) (hK:X.K=Γ.K) (sr:Same g.R H):∀ (n:Nat) (a b:D) (x y:V) (u v:δ) (A:ϟ),A.units+n+1 < aj->okP n a=true->okP n b=true->Has Γ g a x->Has Γ g b y->RelV x u->RelV y v->EqAt A s u v (eqP a b):=by
 intro n
 induction n with
 | zero=>
  intro a b x y u v A hu ka kb ha hb ru rv
  rcases zQ ka with ⟨w,hw⟩ | ⟨m,ds,e,_⟩ | ⟨m,ds,e,_⟩
  ·rcases zQ kb with ⟨w',hw'⟩ | ⟨m,ds,e,_⟩ | ⟨m,ds,e,_⟩
   ·rw [yJ hw ha] at ru
    rw [yJ hw' hb] at rv
    rw [<- Ur hw hw']
    exact J9 ru rv (xn hw) (xn hw')
   ·cases e
   ·cases e
  ·cases e
  ·cases e
 | succ n ih=>
  intro a b x y u v A hu ka kb ha hb ru rv
  have hu':A.units < aj:=by lia
  have hin:A.in1.units+n+1 < aj:=by rw [units_in1];lia
  rcases zQ ka with ⟨w,hw⟩ | ⟨m,as,e,e1,kas⟩ | ⟨m,as,e,e1,kas⟩
  ·rcases zQ kb with ⟨w',hw'⟩ | ⟨m,bs,e,e2,kbs⟩ | ⟨m,bs,e,e2,kbs⟩
   ·rw [yJ hw ha] at ru
    rw [yJ hw' hb] at rv
    rw [<- Ur hw hw']
    exact J9 ru rv (xn hw) (xn hw')
   ·subst e2
    rw [yJ hw ha] at ru
    obtain ⟨b,ys,rfl,f2,f3⟩:=hb
    cases rv
    obtain ⟨ws,r2,p2,_⟩:=I.tuple (SqT.of (sr _ _ f2))
    rw [(zR hw).1]
    exact KJ (isT p2) hu' hw ru
   ·subst e2
    rw [yJ hw ha] at ru
    obtain ⟨b,ys,rfl,f2,f3⟩:=hb
    cases rv
    obtain ⟨ws,r2,p2,_⟩:=I.list (SqL.of (sr _ _ f2))
    rw [(zR hw).2.2.1]
    exact KN p2.isList hu' hw ru
  ·subst e1
   cases e
   obtain ⟨a,xs,rfl,h2,h3⟩:=ha
   cases ru
   obtain ⟨us,r1,p1,_⟩:=I.tuple (SqT.of (sr _ _ h2))
   rcases zQ kb with ⟨w',hw'⟩ | ⟨m,bs,e,e2,kbs⟩ | ⟨m,bs,e,e2,kbs⟩
   ·rw [yJ hw' hb] at rv
    rw [(zR hw').2.1]
    exact KH (isT p1) hu' hw' rv
   ·subst e2
    cases e
    obtain ⟨b,ys,rfl,f2,f3⟩:=hb
    cases rv
    by_cases e:a=b
    ·subst e
     have:=qC I hK sr (n+1) (.tup as) (.tup bs) (.ref a) ka kb ⟨a,xs,rfl,h2,h3⟩ ⟨a,ys,rfl,f2,f3⟩
     rw [this]
     exact EqAt.same _
    ·obtain ⟨ws,r2,p2,_⟩:=I.tuple (SqT.of (sr _ _ f2))
     have k:=RcAt.tuples (isT p1) (isT p2) hu' (v7 (A:=A.in1) kas kbs h3 f3 r1 r2 fun a b x y u v _ ka kb ha hb ru rv=>ih a b x y u v A.in1 hin ka kb ha hb ru rv)
     rw [zay r1 r2 h3 f3] at k
     exact EqAt.of_refs e k
   ·subst e2
    cases e
    obtain ⟨b,ys,rfl,f2,f3⟩:=hb
    cases rv
    obtain ⟨ws,r2,p2,_⟩:=I.list (SqL.of (sr _ _ f2))
    exact EqAt.tuple_list (isT p1) p2.isList hu'
  ·subst e1
   cases e
   obtain ⟨a,xs,rfl,h2,h3⟩:=ha
   cases ru
   obtain ⟨us,r1,p1,_⟩:=I.list (SqL.of (sr _ _ h2))
   rcases zQ kb with ⟨w',hw'⟩ | ⟨m,bs,e,e2,kbs⟩ | ⟨m,bs,e,e2,kbs⟩
   ·rw [yJ hw' hb] at rv
    rw [(zR hw').2.2.2]
    exact KQ p1.isList hu' hw' rv
   ·subst e2
    cases e
    obtain ⟨b,ys,rfl,f2,f3⟩:=hb
    cases rv
    obtain ⟨ws,r2,p2,_⟩:=I.tuple (SqT.of (sr _ _ f2))
    exact EqAt.list_tuple p1.isList (isT p2) hu'
   ·subst e2
    cases e
    obtain ⟨b,ys,rfl,f2,f3⟩:=hb
    cases rv
    by_cases e:a=b
    ·subst e
     have:=qC I hK sr (n+1) (.lst as) (.lst bs) (.ref a) ka kb ⟨a,xs,rfl,h2,h3⟩ ⟨a,ys,rfl,f2,f3⟩
     rw [this]
     exact EqAt.same _
    ·obtain ⟨ws,r2,p2,_⟩:=I.list (SqL.of (sr _ _ f2))
     exact EqAt.of_refs e (zaz kas kbs p1 p2 r1 r2 h3 f3 hu' fun a b x y u v _ ka kb ha hb ru rv=>ih a b x y u v A.in1 hin ka kb ha hb ru rv)
end
section
variable {X:Cx}{pJ:List (Addr×Obj)}{σ:L2.St}{H:Hp}{s:ν}{Γ:Gm}{g:G}
section
variable {A:ϟ}{l:Addr}{its:Array δ}{w:V}{v:δ}{d:D}
theorem Zf (p:s.heap.IsTuple l its) (hu:A.units < aj) (h:scD d=some w) (r:RelV w v):RcAt A s (.ref l) v false/\RcAt A s v (.ref l) false/\Ϧ A s (.ref l) v true/\Ϧ A s v (.ref l) true:=by
 cases d with
 | non=>cases h;cases (show v=Ο from r);exact ⟨RcAt.tuple_none p hu,RcAt.none_tuple p hu,Ϧ.tuple_none p hu,Ϧ.none_tuple p hu⟩
 | bl b=>cases h;cases (show v=ύ b from r);exact ⟨RcAt.tuple_bool b p hu,RcAt.bool_tuple b p hu,Ϧ.tuple_bool b p hu,Ϧ.bool_tuple b p hu⟩
 | int i=>cases h;obtain ⟨t,rfl⟩:=(show ∃ t,v=ϙ i t from r);exact ⟨RcAt.tuple_int i t p hu,RcAt.int_tuple i t p hu,Ϧ.tuple_int i t p hu,Ϧ.int_tuple i t p hu⟩
 | str i=>cases h;obtain ⟨t,rfl⟩:=(show ∃ t,v=aQ i t from r);exact ⟨RcAt.tuple_str i t p hu,RcAt.str_tuple i t p hu,Ϧ.tuple_str i t p hu,Ϧ.str_tuple i t p hu⟩
 | _=>cases h
theorem Zg (p:s.heap.IsList l its) (hu:A.units < aj) (h:scD d=some w) (r:RelV w v):RcAt A s (.ref l) v false/\RcAt A s v (.ref l) false/\Ϧ A s (.ref l) v true/\Ϧ A s v (.ref l) true:=by
 cases d with
 | non=>cases h;cases (show v=Ο from r);exact ⟨RcAt.list_none p hu,RcAt.none_list p hu,Ϧ.list_none p hu,Ϧ.none_list p hu⟩
 | bl b=>cases h;cases (show v=ύ b from r);exact ⟨RcAt.list_bool b p hu,RcAt.bool_list b p hu,Ϧ.list_bool b p hu,Ϧ.bool_list b p hu⟩
 | int i=>cases h;obtain ⟨t,rfl⟩:=(show ∃ t,v=ϙ i t from r);exact ⟨RcAt.list_int i t p hu,RcAt.int_list i t p hu,Ϧ.list_int i t p hu,Ϧ.int_list i t p hu⟩
 | str i=>cases h;obtain ⟨t,rfl⟩:=(show ∃ t,v=aQ i t from r);exact ⟨RcAt.list_str i t p hu,RcAt.str_list i t p hu,Ϧ.list_str i t p hu,Ϧ.str_list i t p hu⟩
 | _=>cases h
theorem Qk {a b:D}{x y:V}{u v:δ}(h:scD a=some x) (h':scD b=some y) (r:RelV x u) (r':RelV y v):RcAt A s u v (eqP a b)/\Ϧ A s u v (!eqP a b):=by
 cases a with
 | non=>
  cases h;cases (show u=Ο from r)
  cases b with
  | non=>cases h';cases (show v=Ο from r');exact ⟨RcAt.none_none,Ϧ.none_none⟩
  | bl b=>cases h';cases (show v=ύ b from r');exact ⟨RcAt.none_bool _,Ϧ.none_bool _⟩
  | int b=>cases h';obtain ⟨t,rfl⟩:=(show ∃ t,v=ϙ b t from r');exact ⟨RcAt.none_int _ _,Ϧ.none_int _ _⟩
  | str b=>cases h';obtain ⟨t,rfl⟩:=(show ∃ t,v=aQ b t from r');exact ⟨RcAt.none_str _ _,Ϧ.none_str _ _⟩
  | _=>cases h'
 | bl a=>
  cases h;cases (show u=ύ a from r)
  cases b with
  | non=>cases h';cases (show v=Ο from r');exact ⟨RcAt.bool_none _,Ϧ.bool_none _⟩
  | bl b=>cases h';cases (show v=ύ b from r');exact ⟨RcAt.bool_bool _ _,Ϧ.bool_bool _ _⟩
  | int b=>cases h';obtain ⟨t,rfl⟩:=(show ∃ t,v=ϙ b t from r');exact ⟨RcAt.bool_int _ _ _,Ϧ.bool_int _ _ _⟩
  | str b=>cases h';obtain ⟨t,rfl⟩:=(show ∃ t,v=aQ b t from r');exact ⟨RcAt.bool_str _ _ _,Ϧ.bool_str _ _ _⟩
  | _=>cases h'
 | int a=>
  cases h;obtain ⟨t',rfl⟩:=(show ∃ t,u=ϙ a t from r)
  cases b with
  | non=>cases h';cases (show v=Ο from r');exact ⟨RcAt.int_none _ _,Ϧ.int_none _ _⟩
  | bl b=>cases h';cases (show v=ύ b from r');exact ⟨RcAt.int_bool _ _ _,Ϧ.int_bool _ _ _⟩
  | int b=>cases h';obtain ⟨t,rfl⟩:=(show ∃ t,v=ϙ b t from r');exact ⟨RcAt.int_int _ _ _ _,Ϧ.int_int _ _ _ _⟩
  | str b=>cases h';obtain ⟨t,rfl⟩:=(show ∃ t,v=aQ b t from r');exact ⟨RcAt.int_str _ _ _ _,Ϧ.int_str _ _ _ _⟩
  | _=>cases h'
 | str a=>
  cases h;obtain ⟨t',rfl⟩:=(show ∃ t,u=aQ a t from r)
  cases b with
  | non=>cases h';cases (show v=Ο from r');exact ⟨RcAt.str_none _ _,Ϧ.str_none _ _⟩
  | bl b=>cases h';cases (show v=ύ b from r');exact ⟨RcAt.str_bool _ _ _,Ϧ.str_bool _ _ _⟩
  | int b=>cases h';obtain ⟨t,rfl⟩:=(show ∃ t,v=ϙ b t from r');exact ⟨RcAt.str_int _ _ _ _,Ϧ.str_int _ _ _ _⟩
  | str b=>cases h';obtain ⟨t,rfl⟩:=(show ∃ t,v=aQ b t from r');exact ⟨RcAt.str_str _ _ _ _,Ϧ.str_str _ _ _ _⟩
  | _=>cases h'
 | _=>cases h
end
theorem xO {d:D}{w x:V}(h:scD d=some w) (hh:Rdb Γ H g d x):x=w:=by
 cases d <;> first | cases h | skip
 all_goals exact hh
theorem rc_D (I:Inv X pJ σ H s) (hK:X.K=Γ.K) (sr:Same g.R H) (n:Nat) (a b:D) (x y:V) (u v:δ) (A:ϟ) (hu:A.units+n+1 < aj) (ka:okP n a=true) (kb:okP n b=true) (ha:Rdb Γ H g a x) (hb:Rdb Γ H g b y) (ru:RelV x u) (rv:RelV y v):
  RcAt A s u v (eqP a b)/\Ϧ A s u v (!eqP a b):=by
 have hu':A.units < aj:=by lia
 rcases zQ ka with ⟨w,hw⟩ | ⟨m,as,e,e1,kas⟩ | ⟨m,as,e,e1,kas⟩
 ·rcases zQ kb with ⟨w',hw'⟩ | ⟨m,bs,e,e2,kbs⟩ | ⟨m,bs,e,e2,kbs⟩
  ·rw [xO hw ha] at ru
   rw [xO hw' hb] at rv
   exact Qk hw hw' ru rv
  ·subst e2
   rw [xO hw ha] at ru
   obtain ⟨b,ys,rfl,f2,f3⟩:=hb
   cases rv
   obtain ⟨ws,r2,p2,_⟩:=I.tuple (SqT.of (sr _ _ f2))
   rw [(zR hw).1]
   have k:=Zf (A:=A) (isT p2) hu' hw ru
   exact ⟨k.2.1,k.2.2.2⟩
  ·subst e2
   rw [xO hw ha] at ru
   obtain ⟨b,ys,rfl,f2,f3⟩:=hb
   cases rv
   obtain ⟨ws,r2,p2,_⟩:=I.list (SqL.of f2)
   rw [(zR hw).2.2.1]
   have k:=Zg (A:=A) p2.isList hu' hw ru
   exact ⟨k.2.1,k.2.2.2⟩
 ·subst e1
  cases e
  have hin:A.in1.units+m+1 < aj:=by rw [units_in1];lia
  obtain ⟨a,xs,rfl,h2,h3⟩:=ha
  cases ru
  obtain ⟨us,r1,p1,_⟩:=I.tuple (SqT.of (sr _ _ h2))
  rcases zQ kb with ⟨w',hw'⟩ | ⟨m',bs,e,e2,kbs⟩ | ⟨m',bs,e,e2,kbs⟩
  ·rw [xO hw' hb] at rv
   rw [(zR hw').2.1]
   have k:=Zf (A:=A) (isT p1) hu' hw' rv
   exact ⟨k.1,k.2.2.1⟩
  ·subst e2
   cases e
   obtain ⟨b,ys,rfl,f2,f3⟩:=hb
   cases rv
   obtain ⟨ws,r2,p2,_⟩:=I.tuple (SqT.of (sr _ _ f2))
   have it:=v7 (A:=A.in1) kas kbs h3 f3 r1 r2 fun a b x y u v _ ka kb ha hb ru rv=>WN I hK sr m a b x y u v A.in1 hin ka kb ha hb ru rv
   have k1:=RcAt.tuples (isT p1) (isT p2) hu' it
   have k2:=Ϧ.tuples (isT p1) (isT p2) hu' it
   rw [zay r1 r2 h3 f3] at k1 k2
   exact ⟨k1,k2⟩
  ·subst e2
   cases e
   obtain ⟨b,ys,rfl,f2,f3⟩:=hb
   cases rv
   obtain ⟨ws,r2,p2,_⟩:=I.list (SqL.of f2)
   exact ⟨RcAt.tuple_list (isT p1) p2.isList hu',Ϧ.tuple_list (isT p1) p2.isList hu'⟩
 ·subst e1
  cases e
  have hin:A.in1.units+m+1 < aj:=by rw [units_in1];lia
  obtain ⟨a,xs,rfl,h2,h3⟩:=ha
  cases ru
  obtain ⟨us,r1,p1,_⟩:=I.list (SqL.of h2)
  rcases zQ kb with ⟨w',hw'⟩ | ⟨m',bs,e,e2,kbs⟩ | ⟨m',bs,e,e2,kbs⟩
  ·rw [xO hw' hb] at rv
   rw [(zR hw').2.2.2]
   have k:=Zg (A:=A) p1.isList hu' hw' rv
   exact ⟨k.1,k.2.2.1⟩
  ·subst e2
   cases e
   obtain ⟨b,ys,rfl,f2,f3⟩:=hb
   cases rv
   obtain ⟨ws,r2,p2,_⟩:=I.tuple (SqT.of (sr _ _ f2))
   exact ⟨RcAt.list_tuple p1.isList (isT p2) hu',Ϧ.list_tuple p1.isList (isT p2) hu'⟩
  ·subst e2
   cases e
   obtain ⟨b,ys,rfl,f2,f3⟩:=hb
   cases rv
   obtain ⟨ws,r2,p2,_⟩:=I.list (SqL.of f2)
   have ih:∀ (a b:D) (x y:V) (u v:δ),a∈as->okP m a=true->okP m b=true->Has Γ g a x->Has Γ g b y->RelV x u->RelV y v->EqAt A.in1 s u v (eqP a b):=fun a b x y u v _ ka kb ha hb ru rv=>WN I hK sr m a b x y u v A.in1 hin ka kb ha hb ru rv
   refine ⟨zaz kas kbs p1 p2 r1 r2 h3 f3 hu' ih,?_⟩
   have l1:=r1.length
   have l2:=r2.length
   have l3:=h3.len
   have l4:=f3.len
   show Ϧ A s _ _ (!eqPs as bs)
   by_cases hl:as.length=bs.length
   ·have k:=Ϧ.lists p1.isList p2.isList (by simp only [ξ];lia) hu' (v7 (A:=A.in1) kas kbs h3 f3 r1 r2 ih)
    have m1:us.toArray.size=as.length:=by simp only [ξ];lia
    rw [m1,<- ue as bs hl] at k
    exact k
   ·rw [ud as bs hl]
    exact Ϧ.lists_lengths (A:=A) p1.isList p2.isList (by simp only [ξ,bne_iff_ne];lia) hu'
end
def rDat (Γ:Gm) (a b:D) (z:D):R2:=fun x y H Q=>∃ g,Same g.R H/\Rdb Γ H g a x/\Rdb Γ H g b y/\∀ v,(∀ g,Has Γ g z v)->Q v H
theorem Wb {Γ:Gm}{a b:D}{c:Bool}:RDo Γ (rDat Γ a b (.bl c)) a b (.bl c) false:=fun S H g x y Q w hx hy q=>⟨g,w.rh,hx,hy,fun v hv=>zc w q (hv g)⟩
section
variable {X:Cx}{Γ:Gm}
theorem zeb (hK:X.K=Γ.K) (hu:X.A.units+61 < aj) {a b:D}(ka:okP 60 a=true) (kb:okP 60 b=true):OpR X (ώ .Eq) (rDat Γ a b (.bl (eqP a b))):=by
 intro pJ s σ H x y v u Q I rx ry ⟨g,sr,ha,hb,q⟩
 exact (rc_D I hK sr 60 a b x y v u X.A hu ka kb ha hb rx ry).1 X.prog X.w X.xe _ ⟨.bl _,H,I,rfl,q _ fun _=>rfl⟩
theorem zd5 (hK:X.K=Γ.K) (hu:X.A.units+61 < aj) {a b:D}(ka:okP 60 a=true) (kb:okP 60 b=true):OpR X (ώ .NotEq) (rDat Γ a b (.bl (!eqP a b))):=by
 intro pJ s σ H x y v u Q I rx ry ⟨g,sr,ha,hb,q⟩
 exact (rc_D I hK sr 60 a b x y v u X.A hu ka kb ha hb rx ry).2 X.prog X.w X.xe _ ⟨.bl _,H,I,rfl,q _ fun _=>rfl⟩
end
section
variable {Γ:Gm}{H:Hp}{g:G}
theorem jO {d:D}{x:V}(h:Rdb Γ H g d x):decide (x=.non)=isNone d:=by
 cases d with
 | non=>cases (show x=.non from h);rfl
 | bl=>cases (show x=.bl _ from h);rfl
 | int=>cases (show x=.int _ from h);rfl
 | str=>cases (show x=.str _ from h);rfl
 | tup=>obtain ⟨_,_,rfl,_⟩:=h;rfl
 | lst=>obtain ⟨_,_,rfl,_⟩:=h;rfl
 | dK=>obtain ⟨_,_,rfl,_⟩:=h;rfl
 | dT=>obtain ⟨_,_,rfl,_⟩:=h;rfl
 | ref=>obtain ⟨_,rfl⟩:=h;rfl
 | fn=>obtain ⟨_,_,rfl⟩:=h;rfl
 | scr=>obtain ⟨_,rfl,_⟩:=h;rfl
 | ktp=>obtain ⟨_,_,rfl,_⟩:=h;rfl
 | kdc=>obtain ⟨_,rfl,_⟩:=h;rfl
theorem zdl {l:List D}{xs:List V}(hl:l.all isSc=true) (h:Hass Γ g l xs):xs.all flatV=true/\∀ d w,scD d=some w->inV w xs=l.any fun y=>eqP y d:=by
 induction l generalizing xs with
 | nil=>cases (show xs=[] from h);exact ⟨rfl,fun _ _ _=>rfl⟩
 | cons c l ih=>
  obtain ⟨v,r,rfl,hc,hr⟩:=h
  rw [cu,ζ] at hl
  obtain ⟨h1,h2⟩:=ih hl.2 hr
  have hs:∃ w,scD c=some w:=by
   cases c <;> first | exact ⟨_,rfl⟩ | cases (show false=true from hl.1)
  obtain ⟨w,hw⟩:=hs
  have e:=yJ hw hc
  subst e
  refine ⟨by rw [cu,xn hw,h1];rfl,fun d w' hw'=>?_⟩
  show (List.any (v::r) _)=_
  rw [cj,cj,<- h2 d w' hw',Ur hw hw']
  rfl
theorem sc_of {d:D}(h:isSc d=true):∃ w,scD d=some w:=by
 cases d <;> first | exact ⟨_,rfl⟩ | exact nobE h
theorem qi {κ:Type} [DecidableEq κ] (k:κ):∀ {ks:List κ}{ds:List D}{vs:List V},ks.length=ds.length->Hass Γ g ds vs ->
  (∀ d,lookK ks ds k=some d->∃ v,valV (ks.zip vs) k=some v/\Has Γ g d v)/\(lookK ks ds k=none->valV (ks.zip vs) k=none)
 | [],[],vs,_,h=>by
  refine ⟨fun d e=>?_,fun _=>?_⟩
  ·simp [lookK,findK] at e
  ·rfl
 | k'::ks,d'::ds,vs,hl,⟨v,r,e1,hv,hr⟩=>by
  subst e1
  have ih:=qi k (ks:=ks) (ds:=ds) (vs:=r) (by simpa using hl) hr
  show (∀ d,lookK (k'::ks) (d'::ds) k=some d->∃ v',valV ((k',v)::ks.zip r) k=some v'/\_)/\(_->valV ((k',v)::ks.zip r) k=none)
  by_cases e:k'=k
  ·have e2:lookK (k'::ks) (d'::ds) k=some d':=by simp [lookK,findK,e]
   rw [e2,xW (p:=(k',v)) e]
   exact ⟨fun d h=>⟨v,rfl,by cases h;exact hv⟩,fun h=>by cases h⟩
  ·have e2:lookK (k'::ks) (d'::ds) k=lookK ks ds k:=by
    simp only [lookK,findK,if_neg e]
    cases findK ks k <;> rfl
   rw [e2,xX (p:=(k',v)) e]
   exact ih
 | [],_::_,_,hl,_=>by simp at hl
 | _::_,[],_,hl,_=>by simp at hl
theorem zcn {d:D}{k:Key}{x:V}(h:keyD d=some k) (hh:Rdb Γ H g d x):x=kV k:=by
 cases d <;> first | cases h | skip
 all_goals exact hh
theorem Wu {d:D}{k:Key}{x:V}(h:keyD d=some k) (hh:Has Γ g d x):x=kV k:=by
 cases d <;> first | cases h | skip
 all_goals exact hh
set_option tactic.hygienic true in
theorem qj:∀ {l:List D}{ks:List Key}{xs:List V},keysD l=some ks->Hass Γ g l xs->xs=ks.map kV
 | [],ks,xs,h,hh=>by
  cases (show some []=some ks from h)
  exact hh
 | d::l,ks,xs,h,⟨v,r,e,hv,hr⟩=>by
  subst e
  simp only [keysD] at h
  split at h
  ·rename_i k ks' e1 e2
   cases h
   rw [Wu e1 hv,qj e2 hr]
   rfl
  ·cases h
theorem WW {S:Store}{c k:D}{o:Option D}{x y:V}(w:WOk Γ H g S) (h:dgetD c k=some o) (hc:Rdb Γ H g c x) (hk:Rdb Γ H g k y):
  ∃ a v,x=.ref a/\DGet H a y v/\IsD H a/\(∀ d,o=some d->∃ u,v=some u/\Has Γ g d u)/\(o=none->v=none):=by
 cases c with
 | dK ks ds=>
  obtain ⟨a,vs,rfl,h1,h2,h3⟩:=hc
  simp only [dgetD,Ι] at h
  obtain ⟨k',e1,e2⟩:=h
  obtain ⟨z1,z2⟩:=qi k' h2 h3
  refine ⟨a,valV (ks.zip vs) k',rfl,.inl ⟨_,k',.inl h1,zcn e1 hk,rfl⟩,.inl ⟨_,.inl h1⟩,fun d e=>?_,fun e=>?_⟩
  ·exact z1 d (e2.trans e)
  ·exact z2 (e2.trans e)
 | dT ks ds=>
  obtain ⟨a,vs,rfl,h1,h2,h3⟩:=hc
  cases k with
  | tup t=>
   obtain ⟨b,ys,rfl,f1,f2⟩:=hk
   simp only [dgetD,Ι] at h
   obtain ⟨k',e1,e2⟩:=h
   obtain ⟨z1,z2⟩:=qi k' h2 h3
   have ey:=qj e1 f2
   refine ⟨a,valV (ks.zip vs) k',rfl,.inr ⟨_,k',b,.inl h1,rfl,by rw [<- ey];exact w.rh _ _ f1,rfl⟩,.inr ⟨_,.inl h1⟩,fun d e=>?_,fun e=>?_⟩
   ·exact z1 d (e2.trans e)
   ·exact z2 (e2.trans e)
  | _=>cases h
 | _=>cases h
end
section
variable {X:Cx}{Γ:Gm}
def rInD (neg:Bool):R2:=fun x y H Q=>∃ a o,y=.ref a/\DGet H a x o/\Q (.bl (if neg then !o.isSome else o.isSome)) H
theorem zea (hu:X.A.units+1 < aj):OpR X (ώ .In) (rInD false):=by
 intro pJ s σ H x y v u Q I rx ry ⟨a,o,e,h,q⟩
 subst e
 cases ry
 exact d_in hu I h rx fun s' I'=>⟨.bl o.isSome,H,I',rfl,q⟩
theorem U8 (hu:X.A.units+1 < aj):OpR X (ώ .NotIn) (rInD true):=by
 intro pJ s σ H x y v u Q I rx ry ⟨a,o,e,h,q⟩
 subst e
 cases ry
 exact zcE hu I h rx fun s' I'=>⟨.bl (!o.isSome),H,I',rfl,q⟩
theorem sq_of {H:Hp}{g:G}{S:Store}{d:D}{l:List D}{x:V}(hK:X.K=Γ.K) (w:WOk Γ H g S) (h:seqD d=some l) (hd:Rdb Γ H g d x):∃ a xs,x=.ref a/\(SqL X.K H a xs\/SqT X.K H a xs)/\Hass Γ g l xs:=by
 cases d with
 | tup ds=>cases h;obtain ⟨a,vs,e,h1,h2⟩:=hd;exact ⟨a,vs,e,.inr (SqT.of (w.rh _ _ h1)),h2⟩
 | lst ds=>cases h;obtain ⟨a,vs,e,h1,h2⟩:=hd;exact ⟨a,vs,e,.inl (SqL.of h1),h2⟩
 | scr ns=>cases h;obtain ⟨a,e,h1⟩:=hd;exact ⟨a,_,e,.inl (by rw [hK];exact h1),Hass.ints⟩
 | ktp ds=>cases h;obtain ⟨a,vs,e,h1,h2⟩:=hd;exact ⟨a,vs,e,.inr (by rw [hK];exact .inr h1),h2⟩
 | _=>cases h
theorem zaT {l:List D}{a b:D}{c:Bool}(hK:X.K=Γ.K) (hs:seqD b=some l) (h:memD l a=some c):RDo Γ (rIn X.K false) a b (.bl c) false/\RDo Γ (rIn X.K true) a b (.bl (!c)) false:=by
 simp only [memD] at h
 split at h
 ·rename_i hf
  cases h
  rw [ζ] at hf
  obtain ⟨wa,ea⟩:=sc_of hf.1
  refine ⟨fun S H g x y Q w hx hy q=>?_,fun S H g x y Q w hx hy q=>?_⟩
  all_goals
   obtain ⟨p,xs,e,hq,hh⟩:=sq_of hK w hs hy
   obtain ⟨f1,f2⟩:=zdl hf.2 hh
   have ex:=xO ea hx
   subst ex
   refine ⟨p,xs,e,hq,xn ea,f1,zc w q ?_⟩
   rw [f2 a x ea]
   rfl
 ·cases h
theorem JW {a b:D}{neg:Bool}{o:Option D}(hu1:X.A.units+1 < aj) (e:dgetD b a=some o):RDo Γ (rInD neg) a b (.bl (if neg then !o.isSome else o.isSome)) false:=by
 intro S H g x y Q w hx hy q
 obtain ⟨p,v,e1,e2,_,e3,e4⟩:=WW w e hy hx
 refine ⟨p,v,e1,e2,zc w q ?_⟩
 cases o with
 | none=>rw [e4 rfl];rfl
 | some d=>obtain ⟨z,hz,_⟩:=e3 d rfl;rw [hz];rfl
theorem qy {f:Int->Int->Bool}{a b:D}{c:Bool}(h:int2 f a b=some c):∃ i j,a=.int i/\b=.int j/\c=f i j:=by
 cases a with
 | int i=>
  cases b with
  | int j=>cases h;exact ⟨i,j,rfl,rfl,rfl⟩
  | _=>cases h
 | _=>cases h
theorem JX {a b:D}{c:Bool}(hK:X.K=Γ.K) (hu1:X.A.units+1 < aj) (h:inD a b=some c):(∃ r,OpR X (ώ .In) r/\RDo Γ r a b (.bl c) false)/\∃ r,OpR X (ώ .NotIn) r/\RDo Γ r a b (.bl (!c)) false:=by
 have sq:∀ l,seqD b=some l->memD l a=some c->(∃ r,OpR X (ώ .In) r/\RDo Γ r a b (.bl c) false)/\∃ r,OpR X (ώ .NotIn) r/\RDo Γ r a b (.bl (!c)) false:=fun l h1 h2=>⟨⟨_,Jb,(zaT hK h1 h2).1⟩,_,Zw,(zaT hK h1 h2).2⟩
 have dc:(dgetD b a).map (·.isSome)=some c->(∃ r,OpR X (ώ .In) r/\RDo Γ r a b (.bl c) false)/\∃ r,OpR X (ώ .NotIn) r/\RDo Γ r a b (.bl (!c)) false:=fun h=>by
  obtain ⟨o,e,rfl⟩:=Ι.mp h
  exact ⟨⟨_,zea hu1,JW (neg:=false) hu1 e⟩,_,U8 hu1,JW (neg:=true) hu1 e⟩
 cases b with
 | lst l=>exact sq l rfl h
 | tup l=>exact sq l rfl h
 | ktp l=>exact sq l rfl h
 | str y=>
  cases a with
  | str x=>
   cases h
   exact ⟨⟨_,Ja,fun S H g u v Q w hx hy q=>⟨x,y,hx,hy,zc w q rfl⟩⟩,_,Zv,fun S H g u v Q w hx hy q=>⟨x,y,hx,hy,zc w q rfl⟩⟩
  | _=>cases h
 | dK ks ds=>exact dc h
 | dT ks ds=>exact dc h
 | _=>cases h
theorem JQ {a b:D}{c:Bool}(h:isD a b=some c):(∃ r,OpR X (ώ .Is) r/\RDo Γ r a b (.bl c) false)/\∃ r,OpR X (ώ .IsNot) r/\RDo Γ r a b (.bl (!c)) false:=by
 cases b with
 | non=>
  cases h
  exact ⟨⟨_,zd8,fun S H g x y Q w hx hy q=>⟨hy,zc w q (by rw [jO hx];rfl)⟩⟩,_,zbZ,fun S H g x y Q w hx hy q=>⟨hy,zc w q (by rw [jO hx];rfl)⟩⟩
 | bl j=>
  cases a with
  | bl i=>
   cases h
   exact ⟨⟨_,zd9,fun S H g x y Q w hx hy q=>⟨_,_,hx,hy,zc w q rfl⟩⟩,_,zb0,fun S H g x y Q w hx hy q=>⟨_,_,hx,hy,zc w q rfl⟩⟩
  | _=>cases h
 | _=>cases h
theorem za1 {a b:D}{c:Bool}(h:eqD a b=some c):okP 60 a=true/\okP 60 b=true/\c=eqP a b:=by
 have h:(if (okP 60 a&&okP 60 b)=true then some (eqP a b) else none)=some c:=h
 by_cases hk:(okP 60 a&&okP 60 b)=true
 ·rw [if_pos hk] at h
  cases h
  rw [ζ] at hk
  exact ⟨hk.1,hk.2,rfl⟩
 ·rw [if_neg hk] at h;cases h
theorem ints_of {g:G}:∀ {l:List D}{ns:List Int}{xs:List V},intsD l=some ns->Hass Γ g l xs->xs=ns.map V.int
 | [],ns,xs,h,hh=>by
  cases (show some []=some ns from h)
  exact hh
 | d::l,ns,xs,h,⟨v,r,e,hv,hr⟩=>by
  subst e
  cases d with
  | int i=>
   simp only [intsD,Ι] at h
   obtain ⟨ms,e1,e2⟩:=h
   subst e2
   rw [show v=V.int i from hv,ints_of e1 hr]
   rfl
  | _=>cases h
theorem kv_mem {kvs:List (Key×V)}{vs:List (Key×δ)}(r:KV kvs vs):∀ p∈vs,∃ q∈kvs,q.1=p.1/\RelV q.2 p.2:=by
 unfold KV at r
 induction r with
 | nil=>intro p hp;cases hp
 | cons h t ih=>
  intro p hp
  rcases Η.mp hp with rfl | hp
  ·exact ⟨_,μ,h⟩
  ·obtain ⟨q,hq,e⟩:=ih p hp
   exact ⟨q,θ _ hq,e⟩
theorem V3:∀ {kvs:List (Key×V)},(kvs.map (·.1)).Nodup->∀ q∈kvs,valV kvs q.1=some q.2
 | [],_,q,hq=>by cases hq
 | p::r,h,q,hq=>by
  rw [ϧ,bJ] at h
  rcases Η.mp hq with rfl | hq
  ·exact xW rfl
  ·rw [xX fun e=>h.1 (by rw [e];exact eY hq)]
   exact V3 h.2 q hq
theorem JZ {A:ϟ}{s:ν}{kb:List (Key×δ)}:∀ (r:List (Key×δ)),(∀ p∈r,∃ i t t',p.2=ϙ i t/\gR kb p.1=some (.int i t'))->W.KeqHits A s kb r true
 | [],_=>.nil
 | (k,v)::r,h=>by
  obtain ⟨i,t,t',e1,e2⟩:=h (k,v) μ
  have e1:v=.int i t:=e1
  subst e1
  have q:=PySem.SeqAt.EqAt.int_int (A:=A) (s:=s) i t i t'
  rw [beq_self_eq_true] at q
  exact .hit (e:=true) (b:=true) e2 q (JZ r fun p hp=>h p (θ _ hp))
def rNeD:R2:=fun x y H Q=>∃ a b kvs,x=.ref a/\y=.ref b/\Rd H a (.dK kvs)/\Rd H b (.dK kvs)/\(kvs.map (·.1)).Nodup/\(∀ p∈kvs,∃ i,p.2=V.int i)/\Q (.bl false) H
theorem U9 (hu:X.A.units < aj):OpR X (ώ .NotEq) rNeD:=by
 intro pJ s σ H x y v u Q I rx ry ⟨a,b,kvs,e1,e2,ha,hb,hn,hi,q⟩
 subst e1 e2
 cases rx
 cases ry
 obtain ⟨_,sa,va,ra,da⟩:=dk_rd I.hok ha
 obtain ⟨_,sb,vb,rb,db⟩:=dk_rd I.hok hb
 refine W.keq_ne (r:=true) sa sb da db hu (fun _=>JZ va fun p hp=>?_) ?_
 ·obtain ⟨z,hz,e1,e2⟩:=kv_mem ra p hp
  obtain ⟨i,e3⟩:=hi z hz
  rw [e3] at e2
  obtain ⟨t,e2⟩:=e2
  have rv:=rb.val z.1
  rw [V3 hn z hz,e3,e1] at rv
  cases e4:gR vb p.1 with
  | none=>rw [e4] at rv;exact rv.elim
  | some w=>
   rw [e4] at rv
   obtain ⟨t',e5⟩:=(show RelV (.int i) w from rv)
   exact ⟨i,t,t',e2,by rw [e5]⟩
 ·rw [<- ra.length,<- rb.length,beq_self_eq_true]
  exact ⟨.bl false,H,I,rfl,q⟩
theorem zeh {ks ks':List Key}{vs vs':List D}{c:Bool}(h:neD (.dK ks vs) (.dK ks' vs')=some c):RDo Γ rNeD (.dK ks vs) (.dK ks' vs') (.bl c) false:=by
 have h:(if (decide (ks=ks')&&decide ks.Nodup&&decide (intsD vs=intsD vs')&&(intsD vs).isSome)=true then some false else none)=some c:=h
 split at h
 ·rename_i hc
  cases h
  simp only [ζ,decide_eq_true_eq] at hc
  obtain ⟨⟨⟨e1,hn⟩,e2⟩,e3⟩:=hc
  subst e1
  intro S H g x y Q w ⟨a,xs,hx,h1,h2,h3⟩ ⟨b,ys,hy,f1,f2,f3⟩ q
  obtain ⟨ns,e4⟩:=lZ.mp e3
  have z1:=ints_of e4 h3
  have z2:=ints_of (e2.symm.trans e4) f3
  refine ⟨a,b,ks.zip (ns.map V.int),hx,hy,.inl (by rw [h1,z1]),.inl (by rw [f1,z2]),?_,fun p hp=>?_,zc w q rfl⟩
  ·rw [List.map_fst_zip (by rw [<- z1,h3.len,<- h2];exact π _)]
   exact hn
  ·obtain ⟨i,_,e⟩:=Ϛ.mp (eQ hp).2
   exact ⟨i,e.symm⟩
 ·cases h
theorem zcI {op:eU}{a b:D}{c:Bool}(hK:X.K=Γ.K) (hu:X.A.units+61 < aj) (h:cmpD op a b=some c):∃ r,OpR X (ώ op) r/\RDo Γ r a b (.bl c) false:=by
 have hu1:X.A.units+1 < aj:=by lia
 cases op with
 | Eq=>
  obtain ⟨h1,h2,rfl⟩:=za1 h
  exact ⟨_,zeb hK hu h1 h2,Wb⟩
 | NotEq=>
  have old:(eqD a b).map (!·)=some c->∃ r,OpR X (ώ .NotEq) r/\RDo Γ r a b (.bl c) false:=fun h=>by
   obtain ⟨c',e,rfl⟩:=Ι.mp h
   obtain ⟨h1,h2,rfl⟩:=za1 e
   exact ⟨_,zd5 hK hu h1 h2,Wb⟩
  have h:neD a b=some c:=h
  cases a with
  | dK ks vs=>
   cases b with
   | dK ks' vs'=>exact ⟨_,U9 (by lia),zeh h⟩
   | _=>exact old h
  | _=>exact old h
 | Lt=>obtain ⟨i,j,rfl,rfl,rfl⟩:=qy h;exact ⟨_,op_lt,fun S H g x y Q w hx hy q=>⟨_,_,hx,hy,zc w q rfl⟩⟩
 | LtE=>obtain ⟨i,j,rfl,rfl,rfl⟩:=qy h;exact ⟨_,op_le,fun S H g x y Q w hx hy q=>⟨_,_,hx,hy,zc w q rfl⟩⟩
 | Gt=>obtain ⟨i,j,rfl,rfl,rfl⟩:=qy h;exact ⟨_,op_gt,fun S H g x y Q w hx hy q=>⟨_,_,hx,hy,zc w q rfl⟩⟩
 | GtE=>obtain ⟨i,j,rfl,rfl,rfl⟩:=qy h;exact ⟨_,op_ge,fun S H g x y Q w hx hy q=>⟨_,_,hx,hy,zc w q rfl⟩⟩
 | Is=>exact (JQ h).1
 | IsNot=>
  obtain ⟨c',e,rfl⟩:=Ι.mp (show (isD a b).map (!·)=some c from h)
  exact (JQ e).2
 | In=>exact (JX hK hu1 h).1
 | NotIn=>
  obtain ⟨c',e,rfl⟩:=Ι.mp (show (inD a b).map (!·)=some c from h)
  exact (JX hK hu1 e).2
def rIxD:R2:=fun x y H Q=>∃ a v,x=.ref a/\DGet H a y (some v)/\Q v H
theorem JL (hu:X.A.units+1 < aj):IxR X rIxD:=by
 intro value slice pJ s σ H x y v u Q I rx ry ⟨a,z,e,g,q⟩ hs
 subst e
 cases rx
 exact tail_any (Xh I g) PySem.F.slot_dict_getitem.lookup (Kg hu I g ry fun w' s' I' r'=>⟨z,H,I',r',q⟩) hs
theorem KR {g:G}{l:List D}{xs:List V}{i:Int}{d:D}(h:Hass Γ g l xs) (e:((ixN l.length i).bind fun k=>l[k]?)=some d):∃ v,atI xs i=some v/\Has Γ g d v:=by
 obtain ⟨k,e1,e2⟩:=ϡ.mp e
 obtain ⟨v,hv,hd⟩:=h.get e2
 refine ⟨v,?_,hd⟩
 unfold atI
 rw [h.len,e1]
 exact hv
set_option tactic.hygienic true in
theorem zeA {a b d:D}(hK:X.K=Γ.K) (hu:X.A.units+1 < aj) (h:subD a b=some d):∃ r,IxR X r/\RDo Γ r a b d false:=by
 unfold subD at h
 split at h
 ·refine ⟨_,zey,fun S H g x y Q w ⟨p,xs,e,h1,h2⟩ hy q=>?_⟩
  obtain ⟨v,e1,e2⟩:=KR h2 h
  exact ⟨p,xs,_,v,e,hy,SqT.of (w.rh _ _ h1),e1,zc w q e2⟩
 ·refine ⟨_,JK,fun S H g x y Q w ⟨p,xs,e,h1,h2⟩ hy q=>?_⟩
  obtain ⟨v,e1,e2⟩:=KR h2 h
  exact ⟨p,xs,_,v,e,hy,SqL.of h1,e1,zc w q e2⟩
 ·rename_i l i
  refine ⟨_,JK,fun S H g x y Q w ⟨p,e,h1⟩ hy q=>?_⟩
  have h':((ixN (l.map D.int).length i).bind fun k=>(l.map D.int)[k]?)=some d:=by
   rw [Ν]
   simpa [Ψ] using h
  obtain ⟨v,e1,e2⟩:=KR (Hass.ints (Γ:=Γ) (g:=g)) h'
  exact ⟨p,_,_,v,e,hy,by rw [hK];exact h1,e1,zc w q e2⟩
 ·split at h
  ·rename_i hf
   obtain ⟨k,e1,e2⟩:=ϡ.mp h
   obtain ⟨c,e3,e4⟩:=Ι.mp e2
   subst e4
   refine ⟨_,zez,fun S H g x y Q w hx hy q=>⟨_,_,c,hx,hy,yO hf,?_,zc w q rfl⟩⟩
   unfold atI
   have e1':ixN _ _=some k:=e1
   rw [e1']
   exact e3
  ·cases h
 ·obtain ⟨o,e1,e2⟩:=ϡ.mp h
  refine ⟨_,JL hu,fun S H g x y Q w hx hy q=>?_⟩
  obtain ⟨p,v,f1,f2,_,f3,_⟩:=WW w e1 hx hy
  obtain ⟨z,hz,hd⟩:=f3 d e2
  exact ⟨p,z,f1,by rw [<- hz];exact f2,zc w q hd⟩
 ·obtain ⟨o,e1,e2⟩:=ϡ.mp h
  refine ⟨_,JL hu,fun S H g x y Q w hx hy q=>?_⟩
  obtain ⟨p,v,f1,f2,_,f3,_⟩:=WW w e1 hx hy
  obtain ⟨z,hz,hd⟩:=f3 d e2
  exact ⟨p,z,f1,by rw [<- hz];exact f2,zc w q hd⟩
 ·cases h
theorem Xj {g:G}{l:List D}{xs:List V}(lo hi:Option Int) (h:Hass Γ g l xs):Hass Γ g (cutD l lo hi) (cutV xs lo hi):=by
 unfold cutD cutV
 rw [h.len]
 exact (h.drop _).take _
def RDs (Γ:Gm) (r:V->Option Int->Option Int->Hp->VK->Prop) (a:D) (lo hi:Option Int) (d:D) (fr:Bool):Prop:=
 ∀ (S:Store) (H:Hp) (g:G) (x:V) (Q:VK),WOk Γ H g S->Rdb Γ H g a x->Fin Γ H g S d fr Q->r x lo hi H Q
def rSlS:V->Option Int->Option Int->Hp->VK->Prop:=fun x lo hi H Q=>∃ z,x=.str z/\z.length<=sizeLine/\Q (.str (iJ z lo hi)) H
theorem U6 {v:δ}{o:Option Int}(h:gY v o):∃ p:Option (Int×Tok),v=partValue p/\p.map (·.1)=o:=by
 cases h with
 | none=>exact ⟨none,rfl,rfl⟩
 | int i t=>exact ⟨some (i,t),rfl,rfl⟩
theorem zdi:SlR X rSlS:=by
 intro pJ s σ H x v vl vu lo hi sl Q I rx hs pl pu ⟨z,e,hz,q⟩
 subst e
 obtain ⟨t,rfl⟩:=rx
 obtain ⟨p,rfl,rfl⟩:=U6 pl
 obtain ⟨p',rfl,rfl⟩:=U6 pu
 refine ⟨"str",_,PySem.F.slot_str_getitem.lookup,typeIs_str _ _ _,wpAny_getItem_str_slice (l:=p) (u:=p') (st:=none) hs rfl ?_⟩
 exact post_val_or_str ⟨ϣ (Txt.slice_le z _ _) hz,fun t' k=>⟨.str (iJ z (p.map (·.1)) (p'.map (·.1))),H,I.tok _,⟨t',rfl⟩,q⟩⟩
set_option tactic.hygienic true in
theorem zdj {a d:D}{lo hi:Option Int}{fr:Bool}(hK:X.K=Γ.K) (h:slcD a lo hi=some (d,fr)):∃ r,SlR X r/\RDs Γ r a lo hi d fr:=by
 unfold slcD at h
 split at h
 ·rename_i l
  cases h
  refine ⟨_,zdh.or zbm,fun S H g x Q w ⟨p,xs,e,h1,h2⟩ q=>?_⟩
  by_cases hw:HT.sIx xs.length 0 lo=0/\HT.sIx xs.length xs.length hi=xs.length
  ·refine .inr ⟨p,xs,e,SqT.of (w.rh _ _ h1),hw,zc w q ?_⟩
   have ec:cutD l lo hi=l:=by
    unfold cutD
    rw [<- h2.len,hw.1,hw.2,mj,Nat.sub_zero,dN (by rw [h2.len];exact π _)]
   rw [ec]
   exact ⟨p,xs,rfl,h1,h2⟩
  ·exact .inl ⟨p,xs,e,SqT.of (w.rh _ _ h1),hw,fun b hb=>qz w q (Xj lo hi h2) hb⟩
 ·cases h
  exact ⟨_,Uj,fun S H g x Q w ⟨p,xs,e,h1,h2⟩ q=>⟨p,xs,e,SqL.of h1,fun b hb=>yX w q (Xj lo hi h2) hb⟩⟩
 ·cases h
  exact ⟨_,Uj,fun S H g x Q w ⟨p,e,h1⟩ q=>⟨p,_,e,by rw [hK];exact h1,fun b hb=>yX w q (Xj lo hi Hass.ints) hb⟩⟩
 ·split at h
  ·rename_i hf
   cases h
   exact ⟨_,zdi,fun S H g x Q w hx q=>⟨_,hx,yO hf,zc w q rfl⟩⟩
  ·cases h
 ·cases h
end
noncomputable def SetX (w:ϝ) (a:Addr) (ks:List Str):HO:=.ext fun h=>TS.Ts w h a (TS.ledW w) ks
theorem XD:∀ {xs:List Str}{us:List δ},Vals (xs.map V.str) us->us.map TS.strV=xs/\∀ v∈us,TS.IsTx v
 | [],_,.nil=>⟨rfl,fun v h=>nomatch h⟩
 | x::xs,_,.cons r q=>by
  obtain ⟨t,rfl⟩:=r
  obtain ⟨h1,h2⟩:=XD q
  refine ⟨by rw [ϧ,h1];rfl,fun v hv=>?_⟩
  rcases Η.mp hv with rfl | hv
  ·exact ⟨x,t,rfl⟩
  ·exact h2 v hv
theorem XM:∀ {us:List δ},(∀ v∈us,TS.IsTx v)->Vals ((us.map TS.strV).map V.str) us
 | [],_=>.nil
 | u::us,h=>by
  obtain ⟨x,t,rfl⟩:=h u μ
  exact .cons ⟨t,rfl⟩ (XM fun v hv=>h v (θ _ hv))
theorem laidD {X:Cx}{pJ:List (Addr×Obj)}{σ:L2.St}{H:Hp}{s:ν}{h':Heap}{a:Addr}{o:HO}{t':Nat}{d':Drawn}(I:L2.Inv X pJ σ H s) (k:∀ b u,s.heap.get? b=some u->h'.get? b=some u) (hp:s.heap.objs.size<=a) (new:ObjOk X.prog X.w (upd H a o) h' a o):
  L2.Inv X pJ σ (upd H a o) { s with heap:=h',toks:=t',drawn:=d' }:=by
 have J:=I.laid (t':=t') k hp new
 exact ⟨J.ok,J.os,J.bare,J.base,J.loc,J.cell,J.free,J.freeC,J.pin,J.hok,J.len⟩
theorem Yc {X:Cx}(hc:X.calm=true):CallR X (.type "set") (fun xs H Q=>∃ p,∃ ks:List Str,xs=[.ref p]/\(SqL X.K H p (ks.map V.str)\/SqT X.K H p (ks.map V.str))/\ks.length < 4095/\∀ a,H a=none->Q (.ref a) (upd H a (SetX X.w a (TS.Wh ks)))):=by
 intro pJ s σ H xs us Q I r ⟨p,ks,e,hq,hn,q⟩
 subst e
 obtain ⟨u,rfl,rx⟩:=vals1 r
 cases (show u=Ε p from rx)
 have fin:∀ (its:List δ) {T:String}{OK:Heap->Prop}{Sx:Addr->Nat->Heap->Prop}{itO:Obj},Vals (ks.map V.str) its->TS.Row X.prog X.w T p its.toArray OK Sx itO->OK s.heap->Θ (Ξ X.prog X.w) X.A (call (.type "set") [.ref p]) (EP X pJ σ Q) X.xe s:=fun its T OK Sx itO v R ok=>by
  obtain ⟨v1,v2⟩:=XD v
  have lk:ks.length=its.length:=by rw [<- v1,Ν]
  refine TS.zab (val:=ks) R (I.ok.hd hc) ok (by simpa using lk) (fun i v e x hx=>?_) (by simp;omega) fun h' tk z k=>?_
  ·rw [gC] at e
   rw [<- v1,Ψ,e] at hx
   obtain ⟨y,t,rfl⟩:=v2 v (au e)
   cases hx
   exact ⟨t,rfl⟩
  ·obtain ⟨es,ep,tb,st,pm⟩:=id z
   obtain ⟨o,ho,_⟩:=st.at_
   exact ⟨.ref s.heap.objs.size,_,I.laid (t':=tk) (o:=SetX X.w s.heap.objs.size (TS.Wh ks)) k (π _) ⟨z,⟨o,ho⟩,fun h1 h2 y kk=>y.keep kk⟩,rfl,q _ (I.hok.fresh (π _))⟩
 rcases hq with hq | hq
 ·obtain ⟨its,v,pl,_⟩:=I.list hq
  exact fin its v (TS.rowL p its.toArray) pl.isList
 ·obtain ⟨its,v,pl,_⟩:=I.tuple hq
  exact fin its v (TS.rowT p its.toArray) (show s.heap.IsTuple p its.toArray from pl)
theorem Yb {X:Cx}(hc:X.calm=true):CallR X (.builtin "sorted") (fun xs H Q=>∃ a,∃ ks:List Str,xs=[.ref a]/\H a=some (SetX X.w a ks)/\ks.length < 128 /\
  ∀ (ms:List Str) (l:Addr),ms.Perm ks->ms.Pairwise (fun x y=>TS.strB y x=false)->H l=none->Q (.ref l) (upd H l (.lst (ms.map V.str)))):=by
 intro pJ s σ H xs us Q I r ⟨a,ks,e,hq,hn,q⟩
 subst e
 obtain ⟨u,rfl,rx⟩:=vals1 r
 cases (show u=Ε a from rx)
 obtain ⟨⟨es,ep,tb,st,pm⟩,_⟩:=(show ObjOk X.prog X.w H s.heap a (SetX X.w a ks) from I.hok a _ hq)
 have sz:es.size=ks.length:=by rw [<- pm.length_eq,Ν,Φ]
 refine TS.Ve (I.ok.hd hc) st (by omega) fun vs out h' tk d pv k hg hk=>?_
 have tx:∀ v∈vs,TS.IsTx v:=fun v hv=>by
  obtain ⟨e,he,rfl⟩:=Ϛ.mp (pv.mem_iff.mp hv)
  obtain ⟨x,t,rfl⟩:=st.tx e he
  exact ⟨x,t,rfl⟩
 have txo:∀ v∈out.toList,TS.IsTx v:=fun v hv=>tx v (k.1.mem_iff.mp hv)
 have e2:(h'.push (cH "list" vs.toArray 0)).get? h'.objs.size=some (cH "list" vs.toArray 0):=Δ _ rfl
 obtain ⟨c,hc⟩:=sortedHeap_at (out:=out) e2
 have hc2:(gU (h'.push (cH "list" vs.toArray 0)) h'.objs.size vs out).get? h'.objs.size=some { cls:=.type "list",dict:=none,data:=.seq out.toList.toArray c,slots:=#[] }:=by
  rw [hc,Array.toArray_toList]
 have tot:(out.toList.map TS.strV).Perm ks:=by
  refine ((k.1.trans pv).map _).trans ?_
  rw [fc]
  refine iK (aN.of_eq (ou fun e he=>?_)) pm
  obtain ⟨x,t,rfl⟩:=st.tx e he
  rfl
 have I2:=laidD I (t':=tk) (d':=d) (a:=h'.objs.size) (o:=.lst ((out.toList.map TS.strV).map V.str)) (h':=gU (h'.push (cH "list" vs.toArray 0)) h'.objs.size vs out)
  (fun b o e=>by
   have lt:=Β (hk b o e)
   rw [sortedHeap_old (ϊ lt) (by rw [size_push'];exact dX lt)]
   exact η _ (hk b o e)) hg (show ObjOk X.prog X.w _ _ _ (.lst _) from ⟨by rw [Ν,tot.length_eq,Ϻ];omega,out.toList,c,XM txo,hc2⟩)
 refine ⟨.ref h'.objs.size,_,I2,rfl,q _ _ tot ?_ (I.hok.fresh hg)⟩
 rw [oU]
 exact k.2
theorem Kw {X:Cx}:CallR X (.builtin "len") (fun xs H Q=>∃ a,∃ ks:List Str,xs=[.ref a]/\H a=some (SetX X.w a ks)/\ks.length < 4096/\Q (.int ks.length) H):=by
 intro pJ s σ H xs us Q I r ⟨a,ks,e,hq,hn,q⟩
 subst e
 obtain ⟨u,rfl,rx⟩:=vals1 r
 cases (show u=Ε a from rx)
 obtain ⟨⟨es,ep,tb,st,pm⟩,_⟩:=(show ObjOk X.prog X.w H s.heap a (SetX X.w a ks) from I.hok a _ hq)
 obtain ⟨o,ho,hx,hd⟩:=st.at_
 have sz:es.size=ks.length:=by rw [<- pm.length_eq,Ν,Φ]
 refine call_len_set ho hx hd st.fit (by omega) ⟨.int ks.length,H,I.tok _,⟨_,by rw [sz]⟩,q⟩
def Rdbs (Γ:Gm) (H:Hp) (g:G):List D->List V->Prop
 | [],vs=>vs=[]
 | d::ds,vs=>∃ v r,vs=v::r/\Rdb Γ H g d v/\Rdbs Γ H g ds r
theorem Ux {Γ:Gm}{H:Hp}{g:G}{S:Store}(w:WOk Γ H g S):∀ {ds:List D}{vs:List V},Hass Γ g ds vs->Rdbs Γ H g (ds.map (deref S)) vs
 | [],_,h=>h
 | d::ds,_,⟨v,r,e,h1,h2⟩=>⟨v,r,e,Uy w h1,Ux w h2⟩
def RDc (Γ:Gm) (r:List V->Hp->VK->Prop) (ds:List D) (d:D) (fr:Bool):Prop:=
 ∀ (S:Store) (H:Hp) (g:G) (xs:List V) (Q:VK),WOk Γ H g S->Rdbs Γ H g ds xs->Fin Γ H g S d fr Q->r xs H Q
section
variable {X:Cx}{Γ:Gm}
theorem rd1 {H:Hp}{g:G}{d:D}{xs:List V}(h:Rdbs Γ H g [d] xs):∃ v,xs=[v]/\Rdb Γ H g d v:=by
 obtain ⟨v,r,e,h1,h2⟩:=h
 cases (show r=[] from h2)
 exact ⟨v,e,h1⟩
theorem jc {g:G}:∀ {l:List D}{ns:List Bool}{xs:List V},wI l=some ns->Hass Γ g l xs->xs=ns.map V.bl
 | [],ns,xs,h,hh=>by
  cases (show some []=some ns from h)
  exact hh
 | d::l,ns,xs,h,⟨v,r,e,hv,hr⟩=>by
  subst e
  cases d with
  | bl i=>
   simp only [wI,Ι] at h
   obtain ⟨ms,e1,e2⟩:=h
   subst e2
   rw [show v=V.bl i from hv,jc e1 hr]
   rfl
  | _=>cases h
noncomputable def biV:BI->δ
 | .len=>.builtin "len" | .abs=>.builtin "abs" | .int=>.type "int" | .str=>.type "str" | .tuple=>.type "tuple" | .list=>.type "list"
 | .sum=>.builtin "sum" | .all=>.builtin "all" | .any=>.builtin "any" | .isinst _=>.builtin "isinstance" | .min2=>.builtin "min" | .max2=>.builtin "max" | .sorted=>.builtin "sorted" | .repr=>.builtin "repr" | .dict=>.type "dict" | .sset=>.builtin "sorted" | .lset=>.builtin "len"
noncomputable def isI:BI->Bool
 | .isinst _=>true
 | .sset=>true
 | .lset=>true
 | _=>false
theorem zck {d0:D}{d:D}{fr:Bool}(hK:X.K=Γ.K) (h:lenD d0=some (d,fr)):∃ r,CallR X (.builtin "len") r/\RDc Γ r [d0] d fr:=by
 cases d0 with
 | tup l=>
  cases h
  refine ⟨_,yZ,fun S H g xs Q w hx q=>?_⟩
  obtain ⟨v,rfl,p,ys,rfl,h1,h2⟩:=rd1 hx
  exact ⟨p,ys,rfl,.inr (SqT.of (w.rh _ _ h1)),zc w q (by rw [h2.len];rfl)⟩
 | lst l=>
  cases h
  refine ⟨_,yZ,fun S H g xs Q w hx q=>?_⟩
  obtain ⟨v,rfl,p,ys,rfl,h1,h2⟩:=rd1 hx
  exact ⟨p,ys,rfl,.inl (SqL.of h1),zc w q (by rw [h2.len];rfl)⟩
 | scr l=>
  cases h
  refine ⟨_,yZ,fun S H g xs Q w hx q=>?_⟩
  obtain ⟨v,rfl,p,rfl,h1⟩:=rd1 hx
  exact ⟨p,_,rfl,.inl (by rw [hK];exact h1),zc w q (by rw [Ν];rfl)⟩
 | str x=>
  have h:(if fits x.length=true then some (D.int x.length,false) else none)=some (d,fr):=h
  split at h
  ·rename_i hf
   cases h
   refine ⟨_,Ye,fun S H g xs Q w hx q=>?_⟩
   obtain ⟨v,rfl,hv⟩:=rd1 hx
   exact ⟨_,by rw [show v=_ from hv],yO hf,zc w q rfl⟩
  ·cases h
 | dK ks vs=>
  cases h
  refine ⟨fun xs H Q=>∃ d kvs,xs=[.ref d]/\Rd H d (.dK kvs)/\Q (.int kvs.length) H,?_,fun S H g xs Q w hx q=>?_⟩
  ·intro pJ s σ H xs us Q I r hh
   obtain ⟨d,kvs,rfl,hd,q⟩:=hh
   obtain ⟨u,rfl,ru⟩:=vals1 r
   cases (show u=Ε d from ru)
   exact d_len I hd fun t s' I'=>⟨.int kvs.length,H,I',⟨t,rfl⟩,q⟩
  ·obtain ⟨v,rfl,p,ys,rfl,h1,h2,h3⟩:=rd1 hx
   refine ⟨p,_,rfl,.inl h1,zc w q ?_⟩
   rw [gw,h3.len,<- h2,Nat.min_self]
   rfl
 | _=>cases h
theorem zaE {f:List D->Option D}{d0:D}{p:D×Bool}(h:onL f d0=some p):∃ l d,d0=.lst l/\f l=some d/\p=(d,false):=by
 cases d0 with
 | lst l=>
  obtain ⟨d,e,rfl⟩:=Ι.mp (show (f l).map (fun d=>(d,false))=some p from h)
  exact ⟨l,d,rfl,e,rfl⟩
 | _=>cases h
theorem Jt {d0:D}{l:List D}(h:lotD d0=some l):d0=.lst l\/d0=.tup l:=by
 cases d0 with
 | lst m=>cases h;exact .inl rfl
 | tup m=>cases h;exact .inr rfl
 | _=>cases h
theorem Yy {g:G}:∀ {l:List D}{ns:List Str}{xs:List V},strsD l=some ns->Hass Γ g l xs->xs=ns.map V.str
 | [],ns,xs,h,hh=>by
  cases (show some []=some ns from h)
  exact hh
 | d::l,ns,xs,h,⟨v,r,e,hv,hr⟩=>by
  subst e
  cases d with
  | str i=>
   simp only [strsD,Ι] at h
   obtain ⟨ms,e1,e2⟩:=h
   subst e2
   rw [show v=V.str i from hv,Yy e1 hr]
   rfl
  | _=>cases h
theorem Wx {g:G}:∀ ks:List Str,Hass Γ g (ks.map D.str) (ks.map V.str)
 | []=>rfl
 | x::ks=>⟨_,_,rfl,rfl,Wx ks⟩
theorem uV (k:Str):∀ l,(insS k l).Perm (k::l)
 | []=>bw _
 | x::l=>by
  unfold insS
  split
  ·exact ((uV k l).cons x).trans (aN.swap _ _ _)
  ·exact bw _
theorem jz:∀ l,(sortS l).Perm l
 | []=>bw _
 | k::l=>(uV k (sortS l)).trans ((jz l).cons k)
abbrev LeS (x y:Str):Prop:=TS.strB y x=false
theorem JV (k:Str):∀ l,l.Pairwise LeS->(insS k l).Pairwise LeS
 | [],_=>List.pairwise_singleton _ _
 | x::l,h=>by
  obtain ⟨h1,h2⟩:=iC.mp h
  unfold insS
  split
  ·rename_i c
   refine iC.mpr ⟨fun y hy=>?_,JV k l h2⟩
   rcases Η.mp ((uV k l).mem_iff.mp hy) with rfl | hy
   ·exact ϕ (O:=TS.strO) c
   ·exact h1 y hy
  ·rename_i c
   have c:LeS k x:=by show TS.strB x k=false;revert c;show ¬ TS.strB x k=true->_;cases TS.strB x k <;> simp
   refine iC.mpr ⟨fun y hy=>?_,h⟩
   rcases Η.mp hy with rfl | hy
   ·exact c
   ·exact ϑ (O:=TS.strO) c (h1 y hy)
theorem X4:∀ l,(sortS l).Pairwise LeS
 | []=>eO
 | k::l=>JV k _ (X4 l)
theorem Uh {l m:List Str}(h:m.Perm l) (k:m.Pairwise LeS):m=sortS l:=
 (h.trans (jz l).symm).eq_of_pairwise (fun a b _ _ h1 h2=>TS.Uc a b h2 h1) k (X4 l)
theorem rd2 {H:Hp}{g:G}{d e:D}{xs:List V}(h:Rdbs Γ H g [d,e] xs):∃ u v,xs=[u,v]/\Rdb Γ H g d u/\Rdb Γ H g e v:=by
 obtain ⟨v,r,e,h1,h2⟩:=h
 obtain ⟨u,rfl,h3⟩:=rd1 h2
 exact ⟨v,u,e,h1,h3⟩
theorem zcP {b:BI}{d0 d1 d:D}{fr:Bool}(hc:X.calm=true) (h:bi2 b d0 d1=some (d,fr)):∃ r,CallR X (biV b) r/\RDc Γ r [d0,d1] d fr:=by
 cases b with
 | min2=>
  obtain ⟨i,j,k,rfl,rfl,e,e2⟩:=wX (show num2 (fun i j=>some (if j < i then j else i)) d0 d1=some (d,fr) from h)
  cases e2
  cases e
  refine ⟨_,Ku hc,fun S H g xs Q w hx q=>?_⟩
  obtain ⟨u,v,rfl,h1,h2⟩:=rd2 hx
  exact ⟨i,j,by rw [show u=_ from h1,show v=_ from h2],zc w q rfl⟩
 | max2=>
  obtain ⟨i,j,k,rfl,rfl,e,e2⟩:=wX (show num2 (fun i j=>some (if j > i then j else i)) d0 d1=some (d,fr) from h)
  cases e2
  cases e
  refine ⟨_,Kv hc,fun S H g xs Q w hx q=>?_⟩
  obtain ⟨u,v,rfl,h1,h2⟩:=rd2 hx
  exact ⟨i,j,by rw [show u=_ from h1,show v=_ from h2],zc w q rfl⟩
 | _=>cases h
theorem zcQ {b:BI}{d0:D}{d:D}{fr:Bool}(hK:X.K=Γ.K) (hg:X.A.guards=some []) (hu:X.A.units+61 < aj) (hc:X.calm=true) (hi:isI b=false) (h:biD b [d0]=some (d,fr)):∃ r,CallR X (biV b) r/\RDc Γ r [d0] d fr:=by
 cases b with
 | len=>exact zck hK h
 | abs=>
  cases d0 with
  | int i=>
   cases h
   refine ⟨_,zae,fun S H g xs Q w hx q=>?_⟩
   obtain ⟨v,rfl,hv⟩:=rd1 hx
   exact ⟨_,by rw [show v=_ from hv],zc w q rfl⟩
  | _=>cases h
 | int=>
  cases d0 with
  | bl b=>
   cases h
   refine ⟨_,Yg,fun S H g xs Q w hx q=>?_⟩
   obtain ⟨v,rfl,hv⟩:=rd1 hx
   exact .inr ⟨_,by rw [show v=_ from hv],zc w q rfl⟩
  | int i=>
   cases h
   refine ⟨_,Yg,fun S H g xs Q w hx q=>?_⟩
   obtain ⟨v,rfl,hv⟩:=rd1 hx
   exact .inl ⟨_,by rw [show v=_ from hv],zc w q rfl⟩
  | _=>cases h
 | tuple=>
  obtain ⟨l,e,e2⟩:=Ι.mp (show (lotD d0).map (fun l=>(D.tup l,false))=some (d,fr) from h)
  cases e2
  refine ⟨_,qJ,fun S H g xs Q w hx q=>?_⟩
  rcases Jt e with rfl | rfl
  ·obtain ⟨v,rfl,p,ys,rfl,h1,h2⟩:=rd1 hx
   exact ⟨p,ys,rfl,.inl ⟨SqL.of h1,fun l hl=>qz w q h2 hl⟩⟩
  ·obtain ⟨v,rfl,p,ys,rfl,h1,h2⟩:=rd1 hx
   exact ⟨p,ys,rfl,.inr ⟨SqT.of (w.rh _ _ h1),zc w q ⟨p,ys,rfl,h1,h2⟩⟩⟩
 | list=>
  obtain ⟨l,e,e2⟩:=Ι.mp (show (lotD d0).map (fun l=>(D.lst l,true))=some (d,fr) from h)
  cases e2
  refine ⟨_,Yd,fun S H g xs Q w hx q=>?_⟩
  rcases Jt e with rfl | rfl
  ·obtain ⟨v,rfl,p,ys,rfl,h1,h2⟩:=rd1 hx
   exact ⟨p,ys,rfl,.inl (SqL.of h1),fun l hl=>yX w q h2 hl⟩
  ·obtain ⟨v,rfl,p,ys,rfl,h1,h2⟩:=rd1 hx
   exact ⟨p,ys,rfl,.inr (SqT.of (w.rh _ _ h1)),fun l hl=>yX w q h2 hl⟩
 | sum=>cases h
 | all=>
  obtain ⟨l,z,rfl,e,e2⟩:=zaE h
  cases e2
  obtain ⟨ns,e3,rfl⟩:=Ι.mp e
  refine ⟨_,zad hc,fun S H g xs Q w hx q=>?_⟩
  obtain ⟨v,rfl,p,ys,rfl,h1,h2⟩:=rd1 hx
  exact ⟨p,ns,rfl,by rw [<- jc e3 h2];exact SqL.of h1,zc w q rfl⟩
 | any=>
  obtain ⟨l,z,rfl,e,e2⟩:=zaE h
  cases e2
  obtain ⟨ns,e3,rfl⟩:=Ι.mp e
  refine ⟨_,zac hc,fun S H g xs Q w hx q=>?_⟩
  obtain ⟨v,rfl,p,ys,rfl,h1,h2⟩:=rd1 hx
  exact ⟨p,ns,rfl,by rw [<- jc e3 h2];exact SqL.of h1,zc w q rfl⟩
 | isinst t=>cases hi
 | str=>cases h
 | min2=>cases h
 | max2=>cases h
 | sorted=>cases h
 | sset=>cases hi
 | lset=>cases hi
 | repr=>cases h
 | dict=>cases h
theorem za4 {b:BI}{ds:List D}{d:D}{fr:Bool}(hK:X.K=Γ.K) (hg:X.A.guards=some []) (hu:X.A.units+61 < aj) (hc:X.calm=true) (hi:isI b=false) (h:biD b ds=some (d,fr)):∃ r,CallR X (biV b) r/\RDc Γ r ds d fr:=by
 match ds,h with
 | [],h=>cases h
 | [d0],h=>exact zcQ hK hg hu hc hi h
 | [d0,d1],h=>exact zcP hc h
 | _::_::_::_,h=>cases h
noncomputable def tyS:Ty->String
 | .int=>"int" | .bool=>"bool" | .str=>"str" | .tuple=>"tuple" | .list=>"list" | .dict=>"dict"
theorem zeK {t:Ty}{a:D}{c:Bool}(hK:X.K=Γ.K) (h:isTy t a=some c):
  ∃ r,CallR X (.builtin "isinstance") r/\∀ (S:Store) (H:Hp) (g:G) (x:V) (Q:VK),WOk Γ H g S->Rdb Γ H g a x->Q (.bl c) H->r [x,.ty (tyS t)] H Q:=by
 refine ⟨_,Xn,fun S H g x Q w hx q=>?_⟩
 have go:∀ ty,TyOf X.K H x (.type ty)->W.kitOne X.K (.type ty) (.type (tyS t))=some c->_:=fun ty h1 h2=>(⟨x,tyS t,.type ty,c,rfl,h1,h2,q⟩:∃ x' T t' b,[x,V.ty (tyS t)]=[x',.ty T]/\TyOf X.K H x' t'/\W.kitOne X.K t' (.type T)=some b/\Q (.bl b) H)
 cases a with
 | non=>cases h;cases (show x=.non from hx);exact go _ .non (by cases t <;> rfl)
 | bl b=>cases (show x=.bl b from hx);exact go _ (.bl b) (by cases t <;> exact h)
 | int b=>cases (show x=.int b from hx);exact go _ (.int b) (by cases t <;> exact h)
 | str b=>cases (show x=.str b from hx);exact go _ (.str b) (by cases t <;> exact h)
 | tup l=>obtain ⟨p,ys,rfl,h1,h2⟩:=hx;exact go _ (.tup (w.rh _ _ h1)) (by cases t <;> exact h)
 | lst l=>obtain ⟨p,ys,rfl,h1,h2⟩:=hx;exact go _ (.lst h1) (by cases t <;> exact h)
 | dK ks l=>obtain ⟨p,ys,rfl,h1,h2⟩:=hx;exact go _ (.dK h1) (by cases t <;> exact h)
 | _=>cases h
end
mutual
noncomputable def sameD:D->D->Bool
 | .non,.non=>true
 | .bl a,.bl b=>a==b
 | .int a,.int b=>a==b
 | .str a,.str b=>a==b
 | .tup a,.tup b=>Zc a b
 | .ktp a,.ktp b=>Zc a b
 | .fn a,.fn b=>a==b
 | .kdc a,.kdc b=>decide (a=b)
 | _,_=>false
noncomputable def Zc:List D->List D->Bool
 | [],[]=>true
 | a::as,b::bs=>sameD a b&&Zc as bs
 | _,_=>false
end
mutual
theorem X8:∀ (a b:D),sameD a b=true->a=b
 | .non,b,h=>by cases b with | non=>rfl | _=>cases h
 | .bl a,b,h=>by cases b with | bl b=>rw [eq_of_beq (show (a==b)=true from h)] | _=>cases h
 | .int a,b,h=>by cases b with | int b=>rw [eq_of_beq (show (a==b)=true from h)] | _=>cases h
 | .str a,b,h=>by cases b with | str b=>rw [eq_of_beq (show (a==b)=true from h)] | _=>cases h
 | .tup a,b,h=>by cases b with | tup b=>rw [ut a b h] | _=>cases h
 | .ktp a,b,h=>by cases b with | ktp b=>rw [ut a b h] | _=>cases h
 | .fn a,b,h=>by cases b with | fn b=>rw [eq_of_beq (show (a==b)=true from h)] | _=>cases h
 | .kdc a,b,h=>by cases b with | kdc b=>rw [of_decide_eq_true (show decide (a=b)=true from h)] | _=>cases h
 | .lst _,b,h=>by cases b <;> cases h
 | .dK _ _,b,h=>by cases b <;> cases h
 | .dT _ _,b,h=>by cases b <;> cases h
 | .ref _,b,h=>by cases b <;> cases h
 | .scr _,b,h=>by cases b <;> cases h
theorem ut:∀ (a b:List D),Zc a b=true->a=b
 | [],[],_=>rfl
 | a::as,b::bs,h=>by
  have h':(sameD a b&&Zc as bs)=true:=h
  rw [ζ] at h'
  rw [X8 a b h'.1,ut as bs h'.2]
 | [],_::_,h=>by cases h
 | _::_,[],h=>by cases h
end
structure Cc where
 names:List (Str×ϰ)
 N:List Str
 fn:Bool
noncomputable def visK:Option ϰ->Bool
 | some .local=>true
 | some .cell=>true
 | some .free=>true
 | _=>false
noncomputable def gloK:Option ϰ->Bool
 | some .globalImplicit=>true
 | _=>false
noncomputable def yj (x:Str):Bool:=!(x==("__debug__":Str))&&!(x==("__classdict__":Str))&&!(x==("__name__":Str))
noncomputable def xJ:Expr->Bool
 | .Set _ _ _=>false
 | _=>true
noncomputable def notStar:Expr->Bool
 | .Starred _ _=>false
 | _=>true
noncomputable def biS:BI->Str
 | .len=>"len" | .abs=>"abs" | .int=>"int" | .str=>"str" | .tuple=>"tuple" | .list=>"list" | .sum=>"sum" | .all=>"all" | .any=>"any" | .isinst _=>"isinstance" | .min2=>"min" | .max2=>"max" | .sorted=>"sorted" | .repr=>"repr" | .dict=>"dict" | .sset=>"sorted" | .lset=>"len"
noncomputable def tyN:Ty->Str
 | .int=>"int" | .bool=>"bool" | .str=>"str" | .tuple=>"tuple" | .list=>"list" | .dict=>"dict"
noncomputable def yo:List bG->Option (List Str)
 | []=>some []
 | ⟨some x,_,_⟩::r=>(yo r).map (x::·)
 | _=>none
noncomputable def relK (names:List (Str×ϰ)):List (Str×ϰ)->List (Str×ϰ):=fun l=>l.map fun (n,k)=>if (k==.free&&names.lookup n==some .cell) then (n,.cell) else (n,k)
noncomputable def namesOf:List Expr->Option (List Str)
 | []=>some []
 | .Name x _::r=>(namesOf r).map (x::·)
 | _=>none
noncomputable def yI:Expr->Option (List Str)
 | .Name x _=>some [x]
 | .Tuple es _ _=>namesOf es
 | _=>none
noncomputable def tIs:T->List Nat
 | .one i=>[i]
 | .nst i is=>i::is
 | .tup is=>is
noncomputable def ZV:Expr->Bool
 | .Tuple _ _ _=>true
 | _=>false
noncomputable def zeM:T->Bool
 | .tup _=>true
 | .nst _ _=>true
 | _=>false
noncomputable def stoK (c:Cc) (x:Str):Bool:=match c.names.lookup x with
 | some .local=>true
 | some .cell=>c.fn
 | _=>false
noncomputable def isNst:T->Bool
 | .nst _ _=>true
 | _=>false
noncomputable def asNst:Expr->Option (Str×Pos×List Expr×Nat×Pos×Nat×Pos)
  | .Tuple es k p=>(match es with
    | a::r=>(match a with
      | .Name x q=>(match r with
        | b::z=>(match z with
          | []=>(match b with
            | .Tuple fs k2 p2=>some (x,q,fs,k2,p2,k,p)
            | _=>none)
          | _=>none)
        | _=>none)
      | _=>none)
    | _=>none)
  | _=>none
noncomputable def chkT (c:Cc) (t:T) (x:Expr):Bool:=if isNst t=true then (match asNst x with
  | some q=>(match namesOf q.2.2.1 with
    | some ns=>(q.1::ns).length==(tIs t).length&&((tIs t).zip (q.1::ns)).all fun p=>c.N[p.1]?==some p.2&&stoK c p.2
    | none=>false)
  | none=>false) else ZV x==zeM t&&(match yI x with
  | some ns=>ns.length==(tIs t).length&&((tIs t).zip ns).all fun p=>c.N[p.1]?==some p.2&&stoK c p.2
  | none=>false)
noncomputable def chkS (c:Cc) (sc:dI) (js:List Nat):Bool:=
 (sc.kind==.function)&&sc.names.all (fun y=>y.2 != .cell)&&sc.names.all (fun y=>y.2 != .local||sc.names.lookup y.1==some .local)&&sc.names.all (fun y=>y.2 != .free||sc.names.lookup y.1==some .free) &&
 sc.names.all (fun y=>y.2 != .free||c.names.lookup y.1==some .cell||c.names.lookup y.1==some .free) &&
 js.all fun j=>match c.N[j]? with
  | some y=>(c.names.lookup y==some .cell||c.names.lookup y==some .free)&&sc.names.lookup y==some .free
  | none=>false
noncomputable def inner (c:Cc) (sc:dI) (xs:List Str) (js:List Nat):Cc:=⟨relK c.names sc.names,xs++js.map (fun j=>c.N.getD j ""),false⟩
noncomputable def zaR:Expr->Bool
 | .Tuple _ _ _=>true
 | _=>false
noncomputable def keyC:Key->Const->Bool
 | .inl i,.int j=>i==j
 | .inr s,.str t=>s==t
 | _,_=>false
noncomputable def chkDk:List Key->List (Option Expr)->Bool
 | [],[]=>true
 | k::ks,some (.Constant q _ _)::r=>keyC k q&&chkDk ks r
 | _,_=>false
noncomputable def sole {α:Type}:List α->Option α
  | a::r=>(match r with
    | []=>some a
    | _=>none)
  | _=>none
theorem kj {α:Type}{l:List α}{a:α}(h:sole l=some a):l=[a]:=by
 cases l with
 | nil=>cases h
 | cons b r=>
  cases r with
  | nil=>cases h;rfl
  | cons _ _=>cases h
noncomputable def asName:Expr->Option (Str×Pos)
 | .Name n p=>some (n,p)
 | _=>none
theorem wQ {x:Expr}{q:Str×Pos}(h:asName x=some q):x=.Name q.1 q.2:=by
 cases x <;> first | (cases h;rfl) | cases h
noncomputable def asSub:Expr->Option (Expr×Expr×Pos)
 | .Subscript a b p=>some (a,b,p)
 | _=>none
theorem zah {x:Expr}{q:Expr×Expr×Pos}(h:asSub x=some q):x=.Subscript q.1 q.2.1 q.2.2:=by
 cases x <;> first | (cases h;rfl) | cases h
noncomputable def asAtt:Expr->Option (Expr×Str×Pos)
 | .Attribute a m p=>some (a,m,p)
 | _=>none
theorem W5 {x:Expr}{q:Expr×Str×Pos}(h:asAtt x=some q):x=.Attribute q.1 q.2.1 q.2.2:=by
 cases x <;> first | (cases h;rfl) | cases h
noncomputable def wF {α:Type}:List α->Bool
 | []=>true
 | _=>false
theorem uc {α:Type}{l:List α}(h:wF l=true):l=[]:=by
 cases l with
 | nil=>rfl
 | cons _ _=>cases h
noncomputable def isRev:Expr->Bool
  | .Slice l h st _=>l.isNone&&h.isNone&&(match st with
    | some (.UnaryOp op (.Constant k _ _) _)=>op==.USub&&(match k with
      | .int i=>i==1
      | _=>false)
    | _=>false)
  | _=>false
noncomputable def mtS:MT->Str
 | .get1=>"get" | .get2=>"get" | .index=>"index" | .join=>"join" | .split=>"split"
noncomputable def zdO:Expr->Bool
 | .Call _ _ _ _=>false
 | _=>true
noncomputable def Zq:Expr->Bool
 | .Call _ (_::_) _ _=>true
 | x=>zdO x
noncomputable def UL:Expr->Bool
 | .Call _ _ _ _=>true
 | .List _ _=>true
 | .Dict _ _ _=>true
 | .BinOp _ _ _ _=>true
 | _=>false
noncomputable def vD:Expr->Option (Str×Expr)
 | .Call (.Name y _) [z] [] _=>some (y,z)
 | _=>none
mutual
noncomputable def chkE (B:Tb) (c:Cc):E->Expr->Bool
  | .var i,.Name x _=>c.N[i]?==some x&&visK (c.names.lookup x)&&yj x
  | .con d,.Constant k _ _=>match d,k with
    | .non,.none=>true
    | .bl a,.bool b=>a==b
    | .int a,.int b=>a==b
    | .str a,.str b=>a==b
    | _,_=>false
  | .glo n d,.Name x _=>(match B.consts[n]? with
    | some p=>p.1==x&&sameD p.2 d
    | none=>false)&&gloK (c.names.lookup x)&&yj x
  | .bin op a b,.BinOp x op' y _=>op==op'&&chkE B c a x&&chkE B c b y
  | .cmp op a b,.Compare x [op'] [y] _=>op==op'&&chkE B c a x&&chkE B c b y&&xJ y
  | .chn o1 o2 a b d,.Compare x [p1,p2] [y,z] _=>o1==p1&&o2==p2&&chkE B c a x&&chkE B c b y&&chkE B c d z&&xJ z
  | .not a,.UnaryOp op x _=>op==.Not&&chkE B c a x
  | .and a b,.BoolOp op (x::y::r) p=>op==.And&&chkE B c a x&&chkE B c b (.BoolOp .And (y::r) p)
  | .or a b,.BoolOp op (x::y::r) p=>op==.Or&&chkE B c a x&&chkE B c b (.BoolOp .Or (y::r) p)
  | .one a,.BoolOp op [x] _=>chkE B c a x
  | .ite t a b,.IfExp x y z _=>chkE B c t x&&chkE B c a y&&chkE B c b z
  | .tup es,.Tuple xs _ _=>chkEs B c es xs
  | .lst es,.List xs _=>chkEs B c es xs
  | .dic tk ks es,.Dict keys vs _=>chkDk ks keys&&chkFs B c es vs&&decide (ks.length=es.length)&&decide (ks.length<=15)
  | .sub a i,.Subscript x y _=>chkE B c a x&&chkE B c i y
  | .slc a lo hi,.Subscript x (.Slice l h none _) _=>chkE B c a x&&chkO B c lo l&&chkO B c hi h
  | .bi b es,.Call (.Name x _) args [] _=>(match b with
    | .isinst t=>x==("isinstance":Str)&&B.bare.contains x&&B.bare.contains (tyN t)&&gloK (c.names.lookup x)&&(match es,args with
      | [e],[y,.Name z _]=>chkE B c e y&&notStar y&&z==tyN t&&gloK (c.names.lookup z)
      | _,_=>false)
    | .sset=>x==("sorted":Str)&&B.bare.contains x&&gloK (c.names.lookup x)&&(match es,args with
      | [e],[q]=>(match vD q with
        | some (y,z)=>y==("set":Str)&&B.bare.contains y&&gloK (c.names.lookup y)&&chkE B c e z&&notStar z
        | none=>false)
      | _,_=>false)
    | .lset=>x==("len":Str)&&B.bare.contains x&&gloK (c.names.lookup x)&&(match es,args with
      | [e],[q]=>(match vD q with
        | some (y,z)=>y==("set":Str)&&B.bare.contains y&&gloK (c.names.lookup y)&&chkE B c e z&&notStar z
        | none=>false)
      | _,_=>false)
    | b=>x==biS b&&B.bare.contains x&&gloK (c.names.lookup x)&&chkEs B c es args&&!es.isEmpty)
  | .call f es,.Call (.Name x _) args [] _=>B.fns[f]?==some x&&gloK (c.names.lookup x)&&yj x&&chkEs B c es args&&!es.isEmpty
  | .callk f perm es,.Call (.Name x _) [] kws _=>B.fns[f]?==some x&&gloK (c.names.lookup x)&&yj x&&chkKs B c es kws&&(match yo kws,B.pars[f]? with
    | some ks,some ps=>perm.length==ps.length&&perm.all (· < ks.length)&&perm.map (fun i=>ks.getD i "")==ps&&ks.length==ps.length&&B.kws.contains (f,ks,perm)
    | _,_=>false)
  | .callv i es,.Call (.Name x _) args [] _=>c.N[i]?==some x&&visK (c.names.lookup x)&&yj x&&chkEs B c es args&&!es.isEmpty
  | .mth m o es,.Call f args kws cp=>(match asAtt f with
    | some q=>q.2.1==mtS m&&chkE B c o q.1&&chkEs B c es args&&wF kws&&q.2.2.endLine==cp.line&&Zq q.1&&decide (1<=es.length)&&decide (es.length<=9)
    | none=>false)
  | .box e,x=>UL x&&chkE B c e x
  | .comp t js it ifs elt,.ListComp y [⟨tgt,iter,cs,k⟩] sc _=>k==0&&chkS c sc js&&chkI B c it tgt iter&&xJ iter&&(match yI tgt with
    | some xs=>decide ((xs++js.map (fun j=>c.N.getD j "")).Nodup)&&nT t==xs.length&&tIs t==ϩ xs.length&&chkT (inner c sc xs js) t tgt&&chkE B (inner c sc xs js) elt y&&chkFs B (inner c sc xs js) ifs cs&&decide (ifs.length<=1)
    | none=>false)
  | _,_=>false
noncomputable def chkI (B:Tb) (c:Cc):E->Expr->Expr->Bool
 | .seq e,_,x=>chkE B c e x
 | .enum e,tg,.Call (.Name f _) [y] [] _=>zaR tg&&f==("enumerate":Str)&&B.bare.contains f&&gloK (c.names.lookup f)&&chkE B c e y&&notStar y
 | .rng none hi,_,.Call (.Name f _) [y] [] _=>f==("range":Str)&&B.bare.contains f&&gloK (c.names.lookup f)&&chkE B c hi y&&notStar y
 | .rng (some lo) hi,_,.Call (.Name f _) [x,y] [] _=>f==("range":Str)&&B.bare.contains f&&gloK (c.names.lookup f)&&chkE B c lo x&&notStar x&&chkE B c hi y&&notStar y
 | _,_,_=>false
noncomputable def chkEs (B:Tb) (c:Cc):List E->List Expr->Bool
 | [],[]=>true
 | e::es,x::xs=>chkE B c e x&&notStar x&&chkEs B c es xs
 | _,_=>false
noncomputable def chkFs (B:Tb) (c:Cc):List E->List Expr->Bool
 | [],[]=>true
 | e::es,x::xs=>chkE B c e x&&chkFs B c es xs
 | _,_=>false
noncomputable def chkO (B:Tb) (c:Cc):Option E->Option Expr->Bool
 | none,none=>true
 | some e,some x=>chkE B c e x
 | _,_=>false
noncomputable def chkKs (B:Tb) (c:Cc):List E->List bG->Bool
 | [],[]=>true
 | e::es,⟨some _,x,_⟩::xs=>chkE B c e x&&chkKs B c es xs
 | _,_=>false
end
theorem qd {x:Ϙ}{Q:Ϙ->Prop}(h:Μ x.ctorIdx 0=true) (f:∀ a0 a1 a2,Q (.BoolOp a0 a1 a2)):Q x:=by
 revert h
 cases x with
 | BoolOp a0 a1 a2=>exact fun _=>f a0 a1 a2
 | _=>exact nobE
theorem zb9 {x:Ϙ}{Q:Ϙ->Prop}(h:Μ x.ctorIdx 2=true) (f:∀ a0 a1 a2 a3,Q (.BinOp a0 a1 a2 a3)):Q x:=by
 revert h
 cases x with
 | BinOp a0 a1 a2 a3=>exact fun _=>f a0 a1 a2 a3
 | _=>exact nobE
theorem Je {x:Ϙ}{Q:Ϙ->Prop}(h:Μ x.ctorIdx 3=true) (f:∀ a0 a1 a2,Q (.UnaryOp a0 a1 a2)):Q x:=by
 revert h
 cases x with
 | UnaryOp a0 a1 a2=>exact fun _=>f a0 a1 a2
 | _=>exact nobE
theorem zb8 {x:Ϙ}{Q:Ϙ->Prop}(h:Μ x.ctorIdx 5=true) (f:∀ a0 a1 a2 a3,Q (.IfExp a0 a1 a2 a3)):Q x:=by
 revert h
 cases x with
 | IfExp a0 a1 a2 a3=>exact fun _=>f a0 a1 a2 a3
 | _=>exact nobE
theorem zee {x:Ϙ}{Q:Ϙ->Prop}(h:Μ x.ctorIdx 6=true) (f:∀ a0 a1 a2,Q (.Dict a0 a1 a2)):Q x:=by
 revert h
 cases x with
 | Dict a0 a1 a2=>exact fun _=>f a0 a1 a2
 | _=>exact nobE
theorem jJ {x:Ϙ}{Q:Ϙ->Prop}(h:Μ x.ctorIdx 8=true) (f:∀ a0 a1 a2 a3,Q (.ListComp a0 a1 a2 a3)):Q x:=by
 revert h
 cases x with
 | ListComp a0 a1 a2 a3=>exact fun _=>f a0 a1 a2 a3
 | _=>exact nobE
theorem Zz {x:Ϙ}{Q:Ϙ->Prop}(h:Μ x.ctorIdx 15=true) (f:∀ a0 a1 a2 a3,Q (.Compare a0 a1 a2 a3)):Q x:=by
 revert h
 cases x with
 | Compare a0 a1 a2 a3=>exact fun _=>f a0 a1 a2 a3
 | _=>exact nobE
theorem wB {x:Ϙ}{Q:Ϙ->Prop}(h:Μ x.ctorIdx 16=true) (f:∀ a0 a1 a2 a3,Q (.Call a0 a1 a2 a3)):Q x:=by
 revert h
 cases x with
 | Call a0 a1 a2 a3=>exact fun _=>f a0 a1 a2 a3
 | _=>exact nobE
theorem jK {x:Ϙ}{Q:Ϙ->Prop}(h:Μ x.ctorIdx 19=true) (f:∀ a0 a1 a2,Q (.Constant a0 a1 a2)):Q x:=by
 revert h
 cases x with
 | Constant a0 a1 a2=>exact fun _=>f a0 a1 a2
 | _=>exact nobE
theorem YH {x:Ϙ}{Q:Ϙ->Prop}(h:Μ x.ctorIdx 20=true) (f:∀ a0 a1 a2,Q (.Attribute a0 a1 a2)):Q x:=by
 revert h
 cases x with
 | Attribute a0 a1 a2=>exact fun _=>f a0 a1 a2
 | _=>exact nobE
theorem uH {x:Ϙ}{Q:Ϙ->Prop}(h:Μ x.ctorIdx 21=true) (f:∀ a0 a1 a2,Q (.Subscript a0 a1 a2)):Q x:=by
 revert h
 cases x with
 | Subscript a0 a1 a2=>exact fun _=>f a0 a1 a2
 | _=>exact nobE
theorem xH {x:Ϙ}{Q:Ϙ->Prop}(h:Μ x.ctorIdx 23=true) (f:∀ a0 a1,Q (.Name a0 a1)):Q x:=by
 revert h
 cases x with
 | Name a0 a1=>exact fun _=>f a0 a1
 | _=>exact nobE
theorem ofList {x:Ϙ}{Q:Ϙ->Prop}(h:Μ x.ctorIdx 24=true) (f:∀ a0 a1,Q (.List a0 a1)):Q x:=by
 revert h
 cases x with
 | List a0 a1=>exact fun _=>f a0 a1
 | _=>exact nobE
theorem zb5 {x:Ϙ}{Q:Ϙ->Prop}(h:Μ x.ctorIdx 25=true) (f:∀ a0 a1 a2,Q (.Tuple a0 a1 a2)):Q x:=by
 revert h
 cases x with
 | Tuple a0 a1 a2=>exact fun _=>f a0 a1 a2
 | _=>exact nobE
theorem zb6 {x:Ϙ}{Q:Ϙ->Prop}(h:Μ x.ctorIdx 26=true) (f:∀ a0 a1 a2 a3,Q (.Slice a0 a1 a2 a3)):Q x:=by
 revert h
 cases x with
 | Slice a0 a1 a2 a3=>exact fun _=>f a0 a1 a2 a3
 | _=>exact nobE
theorem uI {x:ϸ}{Q:ϸ->Prop}(h:Μ x.ctorIdx 5=true) (f:∀ a0 a1 a2,Q (.Assign a0 a1 a2)):Q x:=by
 revert h
 cases x with
 | Assign a0 a1 a2=>exact fun _=>f a0 a1 a2
 | _=>exact nobE
theorem YF {x:ϸ}{Q:ϸ->Prop}(h:Μ x.ctorIdx 24=true) (f:∀ a0 a1,Q (.Expr a0 a1)):Q x:=by
 revert h
 cases x with
 | Expr a0 a1=>exact fun _=>f a0 a1
 | _=>exact nobE
theorem Zy {x:ϸ}{Q:ϸ->Prop}(h:Μ x.ctorIdx 3=true) (f:∀ a0 a1,Q (.Return a0 a1)):Q x:=by
 revert h
 cases x with
 | Return a0 a1=>exact fun _=>f a0 a1
 | _=>exact nobE
theorem ofSIf {x:ϸ}{Q:ϸ->Prop}(h:Μ x.ctorIdx 12=true) (f:∀ a0 a1 a2 a3,Q (.If a0 a1 a2 a3)):Q x:=by
 revert h
 cases x with
 | If a0 a1 a2 a3=>exact fun _=>f a0 a1 a2 a3
 | _=>exact nobE
theorem QG {x:ϸ}{Q:ϸ->Prop}(h:Μ x.ctorIdx 11=true) (f:∀ a0 a1 a2 a3,Q (.While a0 a1 a2 a3)):Q x:=by
 revert h
 cases x with
 | While a0 a1 a2 a3=>exact fun _=>f a0 a1 a2 a3
 | _=>exact nobE
theorem zed {x:ϸ}{Q:ϸ->Prop}(h:Μ x.ctorIdx 9=true) (f:∀ a0 a1 a2 a3 a4,Q (.For a0 a1 a2 a3 a4)):Q x:=by
 revert h
 cases x with
 | For a0 a1 a2 a3 a4=>exact fun _=>f a0 a1 a2 a3 a4
 | _=>exact nobE
theorem zb7 {x:ϸ}{Q:ϸ->Prop}(h:Μ x.ctorIdx 25=true) (f:∀ a0,Q (.Pass a0)):Q x:=by
 revert h
 cases x with
 | Pass a0=>exact fun _=>f a0
 | _=>exact nobE
theorem QH {x:ϸ}{Q:ϸ->Prop}(h:Μ x.ctorIdx 26=true) (f:∀ a0,Q (.Break a0)):Q x:=by
 revert h
 cases x with
 | Break a0=>exact fun _=>f a0
 | _=>exact nobE
theorem YG {x:ϸ}{Q:ϸ->Prop}(h:Μ x.ctorIdx 27=true) (f:∀ a0,Q (.Continue a0)):Q x:=by
 revert h
 cases x with
 | Continue a0=>exact fun _=>f a0
 | _=>exact nobE
structure EnvO (Γ:Gm) (Hz H:Hp) (g:G) (ρ:List Slot) (σ:L2.St):Prop where
 len:ρ.length=σ.length
 sh:∀ (i:Nat) (d:D),ρ[i]?=some (.sh d)->∃ v,σ[i]?=some (some v)/\Has Γ g d v
 ow:∀ (i:Nat) (d:D),ρ[i]?=some (.ow d)->∃ a,σ[i]?=some (some (.ref a))/\Hz a=none/\g.R a=none/\a ∉ g.α/\zM Γ H g a d/\isIns d=false
 inj:∀ (i j:Nat) (d e:D) (a:Addr),ρ[i]?=some (.ow d)->ρ[j]?=some (.ow e)->σ[i]?=some (some (.ref a))->σ[j]?=some (some (.ref a))->i=j
section
variable {Γ:Gm}{H H':Hp}{g g':G}{S:Store}{a:Addr}
theorem WOk.zG {o:HO}(w:WOk Γ H g S) (hr:g.R a=none) (ha:a ∉ g.α):WOk Γ (upd H a o) g S where
 rh:=fun b u q=>by
  have e:=w.rh b u q
  have:b≠a:=by rintro rfl;rw [hr] at q;cases q
  rw [zf this];exact e
 len:=w.len
 nd:=w.nd
 off:=w.off
 cell:=fun k c b h1 h2=>(w.cell k c b h1 h2).mono (Le.refl g) fun o e=>by
  have:b≠a:=by rintro rfl;exact ha (au h2)
  rw [zf this];exact e
theorem Step.zG {o:HO}(s:Step H g H' g') (h:H a=none):Step H g (upd H' a o) g' where
 le:=s.le
 fr:=fun b u e n=>by rw [zf (zg e h)];exact s.fr b u e n
 ex:=fun b u e=>by rw [zf (zg e h)];exact s.ex b u e
 na:=s.na
 nr:=s.nr
theorem Step.kept {o:HO}(s:Step H g H' g') (h:H a=some o) (hr:g.R a=none) (ha:a ∉ g.α) (hm:MutF o:=by trivial):H' a=some o/\g'.R a=none/\a ∉ g'.α:=by
 refine ⟨s.fr a o h ha,?_,fun m=>?_⟩
 ·cases q:g'.R a with
  | none=>rfl
  | some u=>
   rcases s.nr a (by rw [q];simp) with z | z | z | ⟨xs,z⟩
   ·exact absurd hr z
   ·rw [h] at z;cases z
   ·exact absurd z ha
   ·rw [h] at z;cases z;exact hm.elim
 ·rcases s.na a m with z | z
  ·exact ha z
  ·rw [h] at z;cases z
end
section
variable {Γ:Gm}{Hz H H':Hp}{g g':G}{S:Store}{ρ:List Slot}{σ:L2.St}
theorem zp (env:EnvO Γ Hz H g ρ σ) (st:Step H g H' g'):EnvO Γ Hz H' g' ρ σ:=by
 refine ⟨env.len,fun i d h=>?_,fun i d h=>?_,env.inj⟩
 ·obtain ⟨v,h1,h2⟩:=env.sh i d h
  exact ⟨v,h1,h2.mono st.le⟩
 ·obtain ⟨a,h1,h2,h3,h4,h5,h6⟩:=env.ow i d h
  obtain ⟨o,ho,hm⟩:=h5.isMut
  obtain ⟨k1,k2,k3⟩:=st.kept ho h3 h4 hm
  exact ⟨a,h1,h2,k2,k3,h5.mono st.le fun o' z=>by rw [ho] at z;cases z;exact k1,h6⟩
def VN (Γ:Gm) (Hb:Hp) (x:Vl) (v:V) (H:Hp) (g:G):Prop:=match x.2 with
 | .st=>Has Γ g x.1 v
 | .fr=>∃ a,v=.ref a/\Hb a=none/\g.R a=none/\a ∉ g.α/\zM Γ H g a x.1
 | .bo=>∃ a,v=.ref a/\g.R a=none/\a ∉ g.α/\zM Γ H g a x.1
theorem VN.of {Hb:Hp}{d:D}{fr:Bool}{v:V}(h:VOk Γ Hb d fr v H g):VN Γ Hb (ofB (d,fr)) v H g:=by
 cases fr <;> exact h
theorem VN.back {H1:Hp}{g1:G}{x:Vl}{v:V}(h:VN Γ H1 x v H' g') (s:Step H g H1 g1):VN Γ H x v H' g':=by
 obtain ⟨d,k⟩:=x
 cases k with
 | fr=>
  obtain ⟨a,e,h0,r⟩:=h
  exact ⟨a,e,s.Wj h0,r⟩
 | _=>exact h
theorem VN.step {Hb:Hp}{x:Vl}{v:V}(h:VN Γ Hb x v H g) (s:Step H g H' g'):VN Γ Hb x v H' g':=by
 obtain ⟨d,k⟩:=x
 cases k with
 | st=>exact (show Has Γ g d v from h).mono s.le
 | fr=>
  obtain ⟨a,e,h0,h1,h2,h3⟩:=h
  obtain ⟨o,ho,hm⟩:=h3.isMut
  obtain ⟨k1,k2,k3⟩:=s.kept ho h1 h2 hm
  exact ⟨a,e,h0,k2,k3,h3.mono s.le fun o' q=>by rw [ho] at q;cases q;exact k1⟩
 | bo=>
  obtain ⟨a,e,h1,h2,h3⟩:=h
  obtain ⟨o,ho,hm⟩:=h3.isMut
  obtain ⟨k1,k2,k3⟩:=s.kept ho h1 h2 hm
  exact ⟨a,e,k2,k3,h3.mono s.le fun o' q=>by rw [ho] at q;cases q;exact k1⟩
theorem W0 {a:Addr}{d:D}(hr:g.R a=none) (h:zM Γ H g a d):Rdb Γ H g (deref S d) (.ref a):=by
 cases d with
 | lst ds=>obtain ⟨vs,h1,h2⟩:=h;exact ⟨a,vs,rfl,h1,h2⟩
 | dK ks ds=>obtain ⟨vs,h1,h3,h2⟩:=h;exact ⟨a,vs,rfl,h1,h3,h2⟩
 | dT ks ds=>obtain ⟨vs,h1,h3,h2⟩:=h;exact ⟨a,vs,rfl,h1,h3,h2⟩
 | ref=>obtain ⟨o,h1,_⟩:=h;rw [hr] at h1;cases h1
 | _=>exact h.elim
theorem VN.rdb {Hb:Hp}{x:Vl}{v:V}(h:VN Γ Hb x v H g) (w:WOk Γ H g S):Rdb Γ H g (deref S x.1) v:=by
 obtain ⟨d,k⟩:=x
 cases k with
 | st=>exact Uy w h
 | fr=>obtain ⟨a,rfl,_,h1,_,h3⟩:=h;exact W0 h1 h3
 | bo=>obtain ⟨a,rfl,h1,_,h3⟩:=h;exact W0 h1 h3
theorem VN.sc {Hb:Hp}{d:D}{k:Kd}{v:V}(h:VN Γ Hb (d,k) v H g) (hc:∀ a,¬ zM Γ H g a d):Has Γ g d v:=by
 cases k with
 | st=>exact h
 | fr=>obtain ⟨a,_,_,_,_,h3⟩:=h;exact (hc a h3).elim
 | bo=>obtain ⟨a,_,_,_,h3⟩:=h;exact (hc a h3).elim
theorem VN.keep {x:Vl}{v:V}{Q:D->Prop}(h:VN Γ H x v H' g') (st:Step H g H' g') (w:WOk Γ H' g' S) (k:EV.keep x Q):∃ g2,Step H g H' g2/\WOk Γ H' g2 S/\Has Γ g2 x.1 v/\Q x.1:=by
 obtain ⟨d,kk⟩:=x
 cases kk with
 | st=>exact ⟨g',st,w,h,k⟩
 | fr=>
  obtain ⟨g2,a,b,c,_⟩:=freeze (fr:=true) st w h rfl
  exact ⟨g2,a,b,c,k⟩
 | bo=>exact k.elim
end
def TX (Γ:Gm) (cf:Cf) (e:E):TE:=fun σ H Q=>∃ ρ S V g Hz,wpE cf ρ e V S/\WOk Γ H g S/\EnvO Γ Hz H g ρ σ/\∀ x v H' g' S',Step H g H' g'->WOk Γ H' g' S'->VN Γ H x v H' g'->V x S'->Q v H'
def TB (Γ:Gm) (cf:Cf) (e:E):TT:=fun σ H Q=>∃ ρ S V g Hz,wpE cf ρ e V S/\WOk Γ H g S/\EnvO Γ Hz H g ρ σ/\∀ x H' g' S',Step H g H' g'->WOk Γ H' g' S'->V x S'->isB x.1 fun b=>Q b H'
def TXs (Γ:Gm) (cf:Cf) (es:List E):TA:=fun σ H Q=>∃ ρ S W g Hz,wpEs cf ρ es W S/\WOk Γ H g S/\EnvO Γ Hz H g ρ σ/\∀ ds vs H' g' S',Step H g H' g'->WOk Γ H' g' S'->Hass Γ g' ds vs->W ds S'->Q vs H'
def TXo (Γ:Gm) (cf:Cf) (o:Option E):TO:=fun σ H Q=>∃ ρ S W g Hz,wpO cf ρ o W S/\WOk Γ H g S/\EnvO Γ Hz H g ρ σ/\∀ i H' g' S',Step H g H' g'->WOk Γ H' g' S'->W i S'->Q i H'
section
variable {Γ:Gm}{cf:Cf}{σ:L2.St}{H:Hp}{P:Prop}
theorem goX {e:E}{Q:VK}(h:TX Γ cf e σ H Q) (f:∀ ρ S V g Hz,wpE cf ρ e V S->WOk Γ H g S->EnvO Γ Hz H g ρ σ->(∀ x v H' g' S',Step H g H' g'->WOk Γ H' g' S'->VN Γ H x v H' g'->V x S'->Q v H')->P):P:=
 let ⟨ρ,S,V,g,Hz,a,b,c,d⟩:=h;f ρ S V g Hz a b c d
theorem goB {e:E}{Q} (h:TB Γ cf e σ H Q) (f:∀ ρ S V g Hz,wpE cf ρ e V S->WOk Γ H g S->EnvO Γ Hz H g ρ σ->(∀ x H' g' S',Step H g H' g'->WOk Γ H' g' S'->V x S'->isB x.1 fun b=>Q b H')->P):P:=
 let ⟨ρ,S,V,g,Hz,a,b,c,d⟩:=h;f ρ S V g Hz a b c d
theorem goS {es:List E}{Q} (h:TXs Γ cf es σ H Q) (f:∀ ρ S W g Hz,wpEs cf ρ es W S->WOk Γ H g S->EnvO Γ Hz H g ρ σ->(∀ ds vs H' g' S',Step H g H' g'->WOk Γ H' g' S'->Hass Γ g' ds vs->W ds S'->Q vs H')->P):P:=
 let ⟨ρ,S,V,g,Hz,a,b,c,d⟩:=h;f ρ S V g Hz a b c d
theorem goO {o:Option E}{Q} (h:TXo Γ cf o σ H Q) (f:∀ ρ S W g Hz,wpO cf ρ o W S->WOk Γ H g S->EnvO Γ Hz H g ρ σ->(∀ i H' g' S',Step H g H' g'->WOk Γ H' g' S'->W i S'->Q i H')->P):P:=
 let ⟨ρ,S,V,g,Hz,a,b,c,d⟩:=h;f ρ S V g Hz a b c d
end
def rAny (X:Cx) (f:δ->δ->Sem δ):R2:=fun x y H Q=>∃ r,OpR X f r/\r x y H Q
theorem opAny {X:Cx}{f:δ->δ->Sem δ}:OpR X f (rAny X f):=fun pJ s σ H x y v u Q I rx ry ⟨_,h,q⟩=>h pJ s σ H x y v u Q I rx ry q
def ixAny (X:Cx):R2:=fun x y H Q=>∃ r,IxR X r/\r x y H Q
theorem zeB {X:Cx}:IxR X (ixAny X):=fun a b pJ s σ H x y v u Q I rx ry ⟨_,h,q⟩=>h a b pJ s σ H x y v u Q I rx ry q
def slAny (X:Cx):V->Option Int->Option Int->Hp->VK->Prop:=fun x l u H Q=>∃ r,SlR X r/\r x l u H Q
theorem zdk {X:Cx}:SlR X (slAny X):=fun pJ s σ H x v vl vu lo hi sl Q I rx hs pl pu ⟨_,h,q⟩=>h pJ s σ H x v vl vu lo hi sl Q I rx hs pl pu q
def clAny (X:Cx) (f:δ):List V->Hp->VK->Prop:=fun xs H Q=>∃ r,CallR X f r/\r xs H Q
theorem jT {X:Cx}{f:δ}:CallR X f (clAny X f):=fun pJ s σ H xs us Q I rv ⟨_,h,q⟩=>h pJ s σ H xs us Q I rv q
section
variable {X:Cx}{Γ:Gm}{cf:Cf}{x y z:Expr}{pos p:Pos}{a b c:E}
theorem s_var {i:Nat}{n:Str}(hN:X.N[i]?=some n) (hv:Vis X.env.scope n) (hd:(n==("__debug__":Str))=false) (hcd:(n==("__classdict__":Str))=false):PE X (.Name n pos) (TX Γ cf (.var i)):=by
 refine (jG hN hv hd hcd).imp fun σ H Q h0=>goX h0 fun ρ S V g Hz hw w env k=>?_
 have hw:sel ρ[i]? (fun d=>V (d,.st) S) (fun d=>V (d,.bo) S):=hw
 cases e:ρ[i]? with
 | none=>rw [e] at hw;exact hw.elim
 | some s=>
  rw [e] at hw
  cases s with
  | no=>exact hw.elim
  | sh d=>
   obtain ⟨v,h1,h2⟩:=env.sh i d e
   exact ⟨v,h1,k (d,.st) v H g S (Step.refl H g) w h2 hw⟩
  | ow d=>
   obtain ⟨a,h1,h2,h3,h4,h5,_⟩:=env.ow i d e
   exact ⟨_,h1,k (d,.bo) _ H g S (Step.refl H g) w ⟨a,rfl,h3,h4,h5⟩ hw⟩
theorem s_con {t:V}{d:D}{e:E}(h:PE X x (tC t)) (hd:∀ g,Has Γ g d t) (he:∀ ρ V S,wpE cf ρ e V S->V (d,.st) S):PE X x (TX Γ cf e):=h.imp fun σ H Q h0=>goX h0 fun ρ S V g Hz hw w env k=>k (d,.st) _ H g S (Step.refl H g) w (hd g) (he _ _ _ hw)
theorem two {G1:V->V->Hp->Prop}{σ:L2.St}{H:Hp}{ρ:List Slot}{S:Store}{g:G}{Hz:Hp}{W:Vl->Vl->Store->Prop}(hw:wpE cf ρ a (fun x S1=>wpE cf ρ b (fun y S2=>W x y S2) S1) S) (w:WOk Γ H g S) (env:EnvO Γ Hz H g ρ σ)
  (k:∀ x y u v H' g' S',Step H g H' g'->WOk Γ H' g' S'->VN Γ H x u H' g'->VN Γ H y v H' g'->W x y S'->G1 u v H'):TX Γ cf a σ H fun u H1=>TX Γ cf b σ H1 fun v H2=>G1 u v H2:=
 ⟨ρ,S,_,g,Hz,hw,w,env,fun x u H1 g1 S1 st1 w1 v1 h1=>⟨ρ,S1,_,g1,Hz,h1,w1,zp env st1,fun y v H2 g2 S2 st2 w2 v2 h2=>k x y u v H2 g2 S2 (st1.trans st2) w2 (v1.step st2) (v2.back st1) h2⟩⟩
theorem s_bin {op:lU}(hK:X.K=Γ.K) (ha:PE X x (TX Γ cf a)) (hb:PE X y (TX Γ cf b)):PE X (.BinOp x op y pos) (TX Γ cf (.bin op a b)):=
 (pe_op opAny ha hb).imp fun σ H Q h0=>goX h0 fun ρ S V g Hz hw w env k=>two hw w env fun x y u v H' g' S' st w' vx vy h=>by
  have h:opt (opD op (deref S' x.1) (deref S' y.1)) (fun p=>V (ofB p) S'):=h
  cases eo:opD op (deref S' x.1) (deref S' y.1) with
  | none=>rw [eo] at h;exact h.elim
  | some p=>
   rw [eo] at h
   obtain ⟨r,h1,h2⟩:=zd3 (X:=X) hK eo
   exact ⟨r,h1,h2 S' H' g' u v Q w' (vx.rdb w') (vy.rdb w') fun t H2 g2 st2 _ w2 vo=>k _ t H2 g2 S' (st.trans st2) w2 ((VN.of vo).back st) h⟩
theorem cmp2 {op:eU}{u v:V}{dx dy:Vl}{Hb H':Hp}{g':G}{S':Store}{Q:VK}{T:Bool->Prop}(hK:X.K=Γ.K) (hu:X.A.units+61 < aj) (w':WOk Γ H' g' S') (vx:VN Γ Hb dx u H' g') (vy:VN Γ Hb dy v H' g') (h:opt (cmpD op (deref S' dx.1) (deref S' dy.1)) T)
  (k:∀ r H2 g2,Step H' g' H2 g2->WOk Γ H2 g2 S'->T r->Q (.bl r) H2):rAny X (ώ op) u v H' Q:=by
 cases eo:cmpD op (deref S' dx.1) (deref S' dy.1) with
 | none=>rw [eo] at h;exact h.elim
 | some r=>
  rw [eo] at h
  obtain ⟨r2,h1,h2⟩:=zcI (X:=X) hK hu eo
  refine ⟨r2,h1,h2 S' H' g' u v Q w' (vx.rdb w') (vy.rdb w') fun t H2 g2 st2 _ w2 vo=>?_⟩
  cases (show t=.bl r from vo)
  exact k r H2 g2 st2 w2 h
theorem s_cmp {op:eU}(hK:X.K=Γ.K) (hu:X.A.units+61 < aj) (ha:PE X x (TX Γ cf a)) (hb:PE X y (TX Γ cf b)) (hm:behindInMarks op y=false):PE X (.Compare x [op] [y] pos) (TX Γ cf (.cmp op a b))/\PT X (.Compare x [op] [y] pos) (TB Γ cf (.cmp op a b)):=
 ⟨(zbU opAny ha hb hm).imp fun σ H Q h0=>goX h0 fun ρ S V g Hz hw w env k=>two hw w env fun x y u v H' g' S' st w' vx vy h=>cmp2 hK hu w' vx vy h fun r H2 g2 st2 w2 h=>k (.bl r,.st) _ H2 g2 S' (st.trans st2) w2 rfl h,
 (zbK opAny ha hb hm).imp fun σ H Q h0=>goB h0 fun ρ S V g Hz hw w env k=>two hw w env fun x y u v H' g' S' st w' vx vy h=>cmp2 hK hu w' vx vy h fun r H2 g2 st2 w2 h=>⟨r,rfl,k (.bl r,.st) H2 g2 S' (st.trans st2) w2 h⟩⟩
theorem chn3 {o1 o2:eU}{σ:L2.St}{H:Hp}{Q:VK}{ρ:List Slot}{S:Store}{g:G}{Hz:Hp}{V:Po}(hK:X.K=Γ.K) (hu:X.A.units+61 < aj) (hw:wpE cf ρ (.chn o1 o2 a b c) V S) (w:WOk Γ H g S) (env:EnvO Γ Hz H g ρ σ)
  (k:∀ r H' g' S',Step H g H' g'->WOk Γ H' g' S'->V (.bl r,.st) S'->Q (.bl r) H'):Ua (rAny X (ώ o1)) (rAny X (ώ o2)) (TX Γ cf a) (TX Γ cf b) (TX Γ cf c) σ H Q:=
 two hw w env fun x y u v H' g' S' st w' vx vy h=>cmp2 hK hu w' vx vy h fun r H2 g2 st2 w2 h=>⟨r,rfl,by
  cases r with
  | false=>exact iteF (k false H2 g2 S' (st.trans st2) w2 h)
  | true=>exact iteT ⟨ρ,S',_,g2,Hz,h,w2,zp env (st.trans st2),fun z t H3 g3 S3 st3 w3 vz h3=>cmp2 hK hu w3 (vy.step (st2.trans st3)) (vz.back (st.trans st2)) h3 fun r H4 g4 st4 w4 h4=>k r H4 g4 S3 (((st.trans st2).trans st3).trans st4) w4 h4⟩⟩
theorem s_chn {o1 o2:eU}(hK:X.K=Γ.K) (hu:X.A.units+61 < aj) (ha:PE X x (TX Γ cf a)) (hb:PE X y (TX Γ cf b)) (hc:PE X z (TX Γ cf c)) (hm:lastMarks [o1,o2] [y,z]=false):PE X (.Compare x [o1,o2] [y,z] pos) (TX Γ cf (.chn o1 o2 a b c))/\PT X (.Compare x [o1,o2] [y,z] pos) (TB Γ cf (.chn o1 o2 a b c)):=
 ⟨(Qz opAny opAny ha hb hc hm).imp fun σ H Q h0=>goX h0 fun ρ S V g Hz hw w env k=>chn3 hK hu hw w env fun r H' g' S' st w' h=>k (.bl r,.st) _ H' g' S' st w' rfl h,
 (Qm opAny opAny ha hb hc hm).imp fun σ H Q h0=>goB h0 fun ρ S V g Hz hw w env k=>chn3 hK hu hw w env fun r H' g' S' st w' h=>⟨r,rfl,k _ H' g' S' st w' h⟩⟩
theorem wG {d:D}{Q:Bool->Prop}(h:isB d Q):∃ b,d=.bl b/\Q b:=by
 cases d with
 | bl b=>exact ⟨b,rfl,h⟩
 | _=>exact h.elim
theorem zeL {d:D}{Q:Int->Prop}(h:isZ d Q):∃ b,d=.int b/\Q b:=by
 cases d with
 | int b=>exact ⟨b,rfl,h⟩
 | _=>exact h.elim
theorem VN.bl {Hb H:Hp}{g:G}{x:Vl}{v:V}{Q:Bool->Prop}(h:VN Γ Hb x v H g) (k:isB x.1 Q):∃ b,v=.bl b/\Q b:=by
 obtain ⟨d,kk⟩:=x
 obtain ⟨b,rfl,q⟩:=wG k
 exact ⟨b,h.sc fun _ z=>z.elim,q⟩
theorem VN.int {Hb H:Hp}{g:G}{x:Vl}{v:V}{Q:Int->Prop}(h:VN Γ Hb x v H g) (k:isZ x.1 Q):∃ b,v=.int b/\Q b:=by
 obtain ⟨d,kk⟩:=x
 obtain ⟨b,rfl,q⟩:=zeL k
 exact ⟨b,h.sc fun _ z=>z.elim,q⟩
theorem zdm (h:PE X x (TX Γ cf a)) (he:∀ whole,iH x X.env whole=(do let v <- whole;standAt x.pos;gk [v] (truthy v))):PT X x (TB Γ cf a):=
 (zdK h he).imp fun σ H Q h0=>goB h0 fun ρ S V g Hz hw w env k=>⟨ρ,S,_,g,Hz,hw,w,env,fun x v H' g' S' st w' vx h=>vx.bl (k x H' g' S' st w' h)⟩
theorem zdx (h:PT X x (TB Γ cf a)):PT X (.UnaryOp .Not x pos) (TB Γ cf (.not a)):=
 (zdL h).imp fun σ H Q h0=>goB h0 fun ρ S V g Hz hw w env k=>⟨ρ,S,_,g,Hz,hw,w,env,fun x H' g' S' st w' h=>by
  obtain ⟨b,e,q⟩:=wG h
  rw [e]
  exact k (.bl (!b),.st) H' g' S' st w' q⟩
theorem s_not (h:PE X x (TX Γ cf a)):PE X (.UnaryOp .Not x pos) (TX Γ cf (.not a)):=
 (zdU h).imp fun σ H Q h0=>goX h0 fun ρ S V g Hz hw w env k=>⟨ρ,S,_,g,Hz,hw,w,env,fun x v H' g' S' st w' vx h=>by
  obtain ⟨b,e,q⟩:=vx.bl h
  exact ⟨b,e,k (.bl (!b),.st) _ H' g' S' st w' rfl q⟩⟩
end
section
variable {X:Cx}{Γ:Gm}{cf:Cf}{x y z:Expr}{pos p:Pos}{a b c:E}
theorem tx_go {σ:L2.St}{H H1:Hp}{g g1:G}{Q:VK}{ρ:List Slot}{V:Po}{S1:Store}{Hz:Hp}(st:Step H g H1 g1) (w1:WOk Γ H1 g1 S1) (env:EnvO Γ Hz H g ρ σ) (k:∀ x v H' g' S',Step H g H' g'->WOk Γ H' g' S'->VN Γ H x v H' g'->V x S'->Q v H') (hw:wpE cf ρ a V S1):TX Γ cf a σ H1 Q:=
 ⟨ρ,S1,V,g1,Hz,hw,w1,zp env st,fun y u H2 g2 S2 st2 w2 vy hy=>k y u H2 g2 S2 (st.trans st2) w2 (vy.back st) hy⟩
theorem tb_go {σ:L2.St}{H H1:Hp}{g g1:G}{Q:Bool->Hp->Prop}{ρ:List Slot}{V:Po}{S1:Store}{Hz:Hp}(st:Step H g H1 g1) (w1:WOk Γ H1 g1 S1) (env:EnvO Γ Hz H g ρ σ) (k:∀ x H' g' S',Step H g H' g'->WOk Γ H' g' S'->V x S'->isB x.1 fun b=>Q b H') (hw:wpE cf ρ a V S1):TB Γ cf a σ H1 Q:=
 ⟨ρ,S1,V,g1,Hz,hw,w1,zp env st,fun y H2 g2 S2 st2 w2 hy=>k y H2 g2 S2 (st.trans st2) w2 hy⟩
theorem s_and {rest:List Expr}(ha:PE X x (TX Γ cf a)) (hb:PE X (.BoolOp .And (y::rest) pos) (TX Γ cf b)):PE X (.BoolOp .And (x::y::rest) pos) (TX Γ cf (.and a b)):=
 (zdY ha hb).imp fun σ H Q h0=>goX h0 fun ρ S V g Hz hw w env k=>⟨ρ,S,_,g,Hz,hw,w,env,fun x v H1 g1 S1 st w1 vx h=>by
  obtain ⟨r,e,q⟩:=vx.bl h
  refine ⟨r,e,?_⟩
  cases r with
  | false=>exact iteF (k (.bl false,.st) _ H1 g1 S1 st w1 rfl q)
  | true=>exact iteT (tx_go st w1 env k q)⟩
theorem s_or {rest:List Expr}(ha:PE X x (TX Γ cf a)) (hb:PE X (.BoolOp .Or (y::rest) pos) (TX Γ cf b)):PE X (.BoolOp .Or (x::y::rest) pos) (TX Γ cf (.or a b)):=
 (pe_or ha hb).imp fun σ H Q h0=>goX h0 fun ρ S V g Hz hw w env k=>⟨ρ,S,_,g,Hz,hw,w,env,fun x v H1 g1 S1 st w1 vx h=>by
  obtain ⟨r,e,q⟩:=vx.bl h
  refine ⟨r,e,?_⟩
  cases r with
  | true=>exact iteT (k (.bl true,.st) _ H1 g1 S1 st w1 rfl q)
  | false=>exact iteF (tx_go st w1 env k q)⟩
theorem PW.impE {t t':TT}(h:PW X x t) (i:∀ σ H Q,t' σ H Q->t σ H Q):PW X x t':=fun wh pJ s σ H Q I q=>h wh pJ s σ H Q I (i σ H Q q)
theorem zdE {rest:List Expr}(ha:PT X x (TB Γ cf a)) (hb:PW X (.BoolOp .And (y::rest) pos) (TB Γ cf b)):PW X (.BoolOp .And (x::y::rest) pos) (TB Γ cf (.and a b)):=
 PW.impE (zdJ ha hb) fun σ H Q h0=>goB h0 fun ρ S V g Hz hw w env k=>⟨ρ,S,_,g,Hz,hw,w,env,fun x H1 g1 S1 st w1 h=>by
  obtain ⟨r,e,q⟩:=wG h
  rw [e]
  show (if r=true then _ else _)
  cases r with
  | false=>exact iteF (k (.bl false,.st) H1 g1 S1 st w1 q)
  | true=>exact iteT (tb_go st w1 env k q)⟩
theorem s_orW {rest:List Expr}(ha:PT X x (TB Γ cf a)) (hb:PW X (.BoolOp .Or (y::rest) pos) (TB Γ cf b)):PW X (.BoolOp .Or (x::y::rest) pos) (TB Γ cf (.or a b)):=
 PW.impE (pw_or ha hb) fun σ H Q h0=>goB h0 fun ρ S V g Hz hw w env k=>⟨ρ,S,_,g,Hz,hw,w,env,fun x H1 g1 S1 st w1 h=>by
  obtain ⟨r,e,q⟩:=wG h
  rw [e]
  show (if r=true then _ else _)
  cases r with
  | true=>exact iteT (k (.bl true,.st) H1 g1 S1 st w1 q)
  | false=>exact iteF (tb_go st w1 env k q)⟩
theorem zav {op:nj}(h:PT X x (TB Γ cf a)):PW X (.BoolOp op [x] pos) (TB Γ cf (.one a)):=by
 cases op with
 | And=>exact zbH h
 | Or=>exact zdI h
theorem s_ite (hc:PT X x (TB Γ cf c)) (ha:PE X y (TX Γ cf a)) (hb:PE X z (TX Γ cf b)):PE X (.IfExp x y z pos) (TX Γ cf (.ite c a b)):=
 (Qv hc ha hb).imp fun σ H Q h0=>goX h0 fun ρ S V g Hz hw w env k=>⟨ρ,S,_,g,Hz,hw,w,env,fun x H1 g1 S1 st w1 h=>by
  obtain ⟨r,e,q⟩:=wG h
  rw [e]
  show (if r=true then _ else _)
  cases r with
  | true=>exact iteT (tx_go st w1 env k q)
  | false=>exact iteF (tx_go st w1 env k q)⟩
theorem zb (h:notStar x=true) (xs:List Expr) (env:Env):Ϥ (x::xs) env=(false,eval x env)::Ϥ xs env:=by
 cases x <;> first | rfl | cases h
theorem s_nil:PA X [] (TXs Γ cf []):=yV.imp fun σ H Q h0=>goS h0 fun ρ S W g Hz hw w env k=>k [] [] H g S (Step.refl H g) w rfl hw
theorem args_cons {es:List E}{σ:L2.St}{H:Hp}{Q:List V->Hp->Prop}(h:TXs Γ cf (a::es) σ H Q):TX Γ cf a σ H fun v H1=>TXs Γ cf es σ H1 fun vs H2=>Q (v::vs) H2:=by
 obtain ⟨ρ,S,W,g,Hz,hw,w,env,k⟩:=h
 refine ⟨ρ,S,_,g,Hz,hw,w,env,fun x v H1 g1 S1 st w1 vx h=>?_⟩
 obtain ⟨g2,st2,w2,hx,q⟩:=vx.keep st w1 h
 exact ⟨ρ,S1,_,g2,Hz,q,w2,zp env st2,fun ds vs H3 g3 S3 st3 w3 hs h3=>k (x.1::ds) _ H3 g3 S3 (st2.trans st3) w3 ⟨v,vs,rfl,hx.mono st3.le,hs⟩ h3⟩
theorem zaw {xs:List Expr}{es:List E}(hs:notStar x=true) (h1:PE X x (TX Γ cf a)) (h2:PA X xs (TXs Γ cf es)):PA X (x::xs) (TXs Γ cf (a::es)):=
 (zV h1 h2 (zb hs _ _)).imp fun σ H Q h=>args_cons h
theorem xu {r:Bool}{T:Prop}(h:tst r T False):r=true/\T:=by
 cases r with
 | true=>exact ⟨rfl,h⟩
 | false=>exact h.elim
theorem zO {α:Type}{o:Option α}{Q:α->Prop}(h:opt o Q):∃ a,o=some a/\Q a:=by
 cases o with
 | some a=>exact ⟨a,rfl,h⟩
 | none=>exact h.elim
theorem s_tup {xs:List Expr}{es:List E}{kk:Nat}(h:PA X xs (TXs Γ cf es)):PE X (.Tuple xs kk pos) (TX Γ cf (.tup es)):=
 (zdS h).imp fun σ H Q h0=>goX h0 fun ρ S V g Hz hw w env k=>⟨ρ,S,_,g,Hz,hw,w,env,fun ds vs H1 g1 S1 st w1 hv h=>by
  obtain ⟨hf,q⟩:=xu h
  exact ⟨by rw [hv.len];exact yO hf,fun p hp=>qz (Q:=Q) w1 (fun v H2 g2 st2 _ w2 vo=>k (.tup ds,.st) v H2 g2 S1 (st.trans st2) w2 vo q) hv hp⟩⟩
theorem s_lst {xs:List Expr}{es:List E}(h:PA X xs (TXs Γ cf es)):PE X (.List xs pos) (TX Γ cf (.lst es)):=
 (zdW h).imp fun σ H Q h0=>goX h0 fun ρ S V g Hz hw w env k=>⟨ρ,S,_,g,Hz,hw,w,env,fun ds vs H1 g1 S1 st w1 hv h=>by
  obtain ⟨hf,q⟩:=xu h
  exact ⟨by rw [hv.len];exact yO hf,fun p hp=>yX (Q:=Q) w1 (fun v H2 g2 st2 _ w2 vo=>k (.lst ds,.fr) v H2 g2 S1 (st.trans st2) w2 ((VN.of (fr:=true) vo).back st) q) hv hp⟩⟩
theorem s_sub (hK:X.K=Γ.K) (hu:X.A.units+1 < aj) (ha:PE X x (TX Γ cf a)) (hb:PE X y (TX Γ cf b)) (hp:Xr y):PE X (.Subscript x y pos) (TX Γ cf (.sub a b)):=
 (pe_ix zeB ha hb hp).imp fun σ H Q h0=>goX h0 fun ρ S V g Hz hw w env k=>two (G1:=fun u v H'=>ixAny X u v H' Q) hw w env fun x y u v H' g' S' st w' vx vy h=>by
  obtain ⟨d,eo,q⟩:=zO h
  obtain ⟨r,h1,h2⟩:=zeA (X:=X) hK hu eo
  have e:deref S' y.1=y.1:=by
   cases hy:y.1 with
   | ref n=>
    rw [hy] at eo
    unfold subD at eo;split at eo <;> first | cases eo | (rename_i hh;cases hh) | skip
    all_goals (simp [dgetD,keyD] at eo)
   | _=>rfl
  have vb:=vy.rdb w'
  rw [e] at vb
  exact ⟨r,h1,h2 S' H' g' u v Q w' (vx.rdb w') vb fun t H2 g2 st2 _ w2 vo=>k (d,.st) t H2 g2 S' (st.trans st2) w2 vo q⟩
theorem s_poN:PO X none (TXo Γ cf none):=fun pJ s σ H Q I h0=>goO h0 fun ρ S W g Hz hw w env k=>zbQ pJ s σ H Q I (k none H g S (Step.refl H g) w hw)
theorem s_po (h:PE X x (TX Γ cf a)):PO X (some x) (TXo Γ cf (some a)):=fun pJ s σ H Q I h0=>goO h0 fun ρ S W g Hz hw w env k=>zbP h pJ s σ H Q I ⟨ρ,S,_,g,Hz,hw,w,env,fun x v H1 g1 S1 st w1 vx h=>by
 obtain ⟨i,e,q⟩:=vx.int h
 exact ⟨i,e,k (some i) H1 g1 S1 st w1 q⟩⟩
theorem s_slc {lo hi:Option Expr}{l u:Option E}{p2:Pos}(hK:X.K=Γ.K) (h:PE X x (TX Γ cf a)) (hl:PO X lo (TXo Γ cf l)) (hh:PO X hi (TXo Γ cf u)):PE X (.Subscript x (.Slice lo hi none p2) pos) (TX Γ cf (.slc a l u)):=
 (Qu zdk h hl hh).imp fun σ H Q h0=>goX h0 fun ρ S V g Hz hw w env k=>⟨ρ,S,_,g,Hz,hw,w,env,fun x v H1 g1 S1 st1 w1 vx h1=>⟨ρ,S1,_,g1,Hz,h1,w1,zp env st1,fun i H2 g2 S2 st2 w2 h2=>⟨ρ,S2,_,g2,Hz,h2,w2,zp env (st1.trans st2),fun j H3 g3 S3 st3 w3 h3=>by
  obtain ⟨⟨d,fr⟩,eo,q⟩:=zO h3
  obtain ⟨r,r1,r2⟩:=zdj (X:=X) (Γ:=Γ) hK eo
  have st:=(st1.trans st2).trans st3
  exact ⟨r,r1,r2 S3 H3 g3 v Q w3 ((vx.step (st2.trans st3)).rdb w3) fun t H4 g4 st4 _ w4 vo=>k _ t H4 g4 S3 (st.trans st4) w4 ((VN.of vo).back st) q⟩⟩⟩⟩
end
end EV
namespace L2
open PySem PySem.Spec PyProof.Rows
noncomputable def cxG (X:Cx) (sc:dI) (cl:List (Str×Addr)) (xs:List Str) (js:List Nat) (C:Addr) (s3:ν) (H3:Hp) (fp:List Addr):Cx:=
 { X with N:=xs++js.map (fun j=>X.N.getD j ""),sw:=s3,Hz:=H3,env:=compEnvC sc cl C X.env,outer:=X.stack,stack:=X.stack,ex:=fp,fn:=fun _=>false,pn:=[],xe:=fun _ _=>False }
structure CompG (X:Cx) (sc:dI) (cl:List (Str×Addr)) (xs:List Str) (js:List Nat):Prop where
 clos:closureFor sc X.env=pure cl
 cell:∀ y∈sc.names,y.2≠.cell
 kind:sc.kind=.function
 names:∀ y∈sc.names,y.2=.local->sc.names.lookup y.1=some .local
 sub:∀ y c,cl.lookup y=some c->X.env.cells.lookup y=some c
 has:∀ y,((iR sc X.env).names.lookup y=some .cell\/(iR sc X.env).names.lookup y=some .free)->∃ c,cl.lookup y=some c
 free:∀ j∈js,∀ y,X.N[j]?=some y->Vis X.env.scope y/\X.env.kindOf y≠some .local/\(∃ c,cl.lookup y=some c)/\((iR sc X.env).names.lookup y=some .cell\/(iR sc X.env).names.lookup y=some .free)
 inN:∀ j∈js,j < X.N.length
section
variable {X:Cx}{pJ:List (Addr×Obj)}{σ:St}{H3:Hp}{s3:ν}{sc:dI}{cl:List (Str×Addr)}{xs:List Str}{js:List Nat}{fp:List Addr}{h1:Heap}{o:Obj}{tk:Nat}
theorem JS (I:Inv X pJ σ H3 s3) (K:CompG X sc cl xs js) (hns:h1.Ns s3.heap.objs.size fun _=>none) (hsb:Ϫ s3.heap.objs.size (s3.heap.push o) h1)
  (hfp:∀ b∈fp,FpOk X pJ H3 b/\b < s3.heap.objs.size):
  Inv (cxG X sc cl xs js s3.heap.objs.size s3 H3 fp) [] (ς xs.length none++rows σ js) H3 { s3 with heap:=h1,toks:=tk }:=by
 have kept:∀ b u,s3.heap.get? b=some u->h1.get? b=some u:=fun b u e=>(hsb.2 b (ϊ (Β e))).trans (η _ e)
 refine ⟨⟨I.ok.mod,K.kind,I.ok.glob,I.ok.blt,π _,fun y z c e1 e2=>I.ok.inj y z c (K.sub _ _ e1) (K.sub _ _ e2),fun y hy=>K.has y hy,fun y c hf=>absurd (show false=true from hf) ϗ,I.ok.hd,I.ok.frames,.inl rfl,
  fun b hb=>⟨ϊ (hfp b hb).2,fun y c e=>(hfp b hb).1.2.2.2.2.1 y c (K.sub _ _ e)⟩,I.bs,ϣ I.ok.bsz I.sz,fun b o' e hb=>?_,fun b hb z=>?_,I.stack,I.Ue⟩,
  rfl,I.bare,Un.kept kept,⟨_,hns,fun i y v e1 e2 e3=>?_⟩,fun y c e=>?_,I.hok.fresh (π _),fun y c e=>I.freeC y c (K.sub _ _ e),fun p hp=>absurd (show p∈([]:List (Addr×Obj)) from hp) (by simp),I.hok.kept kept,?_⟩
 ·rcases (hfp b hb).1.2.2.2.1 with z | z
  ·exact I.ok.noex b o' e z
  ·exact absurd (ϐ (Β e) (ϣ I.ok.bsz z)) (cA _)
 ·rcases Η.mp (I.XS b z) with q | q
  ·exact (hfp b hb).1.2.1 q
  ·exact (hfp b hb).1.2.2.1 q
 ·by_cases hi:i < xs.length
  ·rw [ϒ (by simpa using hi),dF,if_pos hi] at e2
   cases e2
  ·have hi':xs.length<=i:=by lia
   have e1':(js.map fun j=>X.N.getD j "")[i - xs.length]?=some y:=by
    have q:(xs++js.map fun j=>X.N.getD j "")[i]?=some y:=e1
    rw [ϖ hi'] at q
    exact q
   have e2':(rows σ js)[i - xs.length]?=some (some v):=by
    rw [ϖ (by simpa using hi')] at e2
    simpa using e2
   generalize i - xs.length=i at e1' e2'
   rw [Ψ] at e1'
   unfold rows at e2'
   rw [Ψ] at e2'
   cases ej:js[i]? with
   | none=>rw [ej] at e1';cases e1'
   | some j=>
    rw [ej] at e1' e2'
    simp only [gf,Ϭ.injEq] at e1' e2'
    have hj:=au ej
    have hlt:=K.inN j hj
    have eN:X.N[j]?=some y:=by
     rw [<- e1',aF,χ hlt]
     rfl
    have eS:σ[j]?=some (some v):=by
     rw [aF] at e2'
     cases q:σ[j]? with
     | none=>rw [q] at e2';cases e2'
     | some z=>rw [q] at e2';simpa using e2'
    obtain ⟨hv,hnl,⟨c,hc⟩,hk⟩:=K.free j hj y eN
    obtain ⟨m,_,hl⟩:=I.loc
    obtain ⟨u,r,l⟩:=hl j y v eN eS hv
    refine ⟨u,r,?_⟩
    rcases l with ⟨k,_⟩ | ⟨k,c',e',z⟩
    ·exact absurd k hnl
    ·have:c'=c:=ϛ (e'.symm.trans (K.sub _ _ hc))
     subst this
     obtain ⟨oc,hoc,hd⟩:=z
     exact .inr ⟨hk,c',hc,oc,kept _ _ hoc,hd⟩
 ·obtain ⟨v,oc,hoc,hd⟩:=I.cell y c (K.sub _ _ e)
  exact ⟨v,oc,kept _ _ hoc,hd⟩
 ·simp [rows,cxG]
def PTs (X:Cx) (ifs:List Expr) (t:TT):Prop:=
 ∀ (pJ:List (Addr×Obj)) (s:ν) (σ:St) (H:Hp) (Q:Bool->Hp->Prop),Inv X pJ σ H s->t σ H Q ->
  Θ (Ξ X.prog X.w) X.A (forIn ifs true fun c r=>if r=true then do let ok <- iH c X.env (eval c X.env);pure (ϥ ok) else pure (ϥ r)) (TP X pJ σ Q) X.xe s
theorem zbJ:PTs X [] (fun _ H Q=>Q true H):=fun _ _ _ H _ I h=>wpAny_tests_nil ⟨H,I,h⟩
theorem zbI {c:Expr}{t:TT}(h:PT X c t):PTs X [c] t:=fun pJ s σ H Q I q=>wpAny_tests_one (h pJ s σ H Q I q)
def jx (n:Nat) (js:List Nat) (wi:TI) (tg:TG) (tt:TT) (te:TE) (Qe:Addr->Hp->Prop):St->Hp->Prop:=fun σ H=>wi σ H fun J H1=>∀ D,H1 D=none ->
 ∃ W:Nat->Nat->List V->St->Hp->Prop,(∃ m,W 0 m [] (ς n none++rows σ js) (upd H1 D (.lst [])))/\∀ i m ys τ H2,W i m ys τ H2 ->
  (J.stop i H2/\Qe D H2)\/(J.go i H2/\∀ z H3,J.yld i H2 z H3->tg z τ H3 fun τ3 H3=>tt τ3 H3 fun b H4=>
   if b=true then te τ3 H4 fun v H5=>H5 D=some (.lst ys)/\ys.length < sizeLine/\∃ m',m' < m/\W (i+1) m' (ys++[v]) τ3 (upd H5 D (.lst (ys++[v])))
   else ∃ m',m' < m/\W (i+1) m' ys τ3 H4)
theorem Z3 {elt iter tgt:Expr}{ifs:List Expr}{pos pos':Pos}{wi:TI}{tg:TG}{tt:TT}{te:TE}{Qe:Addr->Hp->Prop}{use:Option (δ->Sem Unit)}{Q':VSP}{H:Hp}{s:ν}(hc:X.calm=true) (K:CompG X sc cl xs js) (hi:PI X tgt iter wi)
  (hg:∀ C s3 H3 fp,PG (cxG X sc cl xs js C s3 H3 fp) tgt tg) (ht:∀ C s3 H3 fp,PTs (cxG X sc cl xs js C s3 H3 fp) ifs tt) (he:∀ C s3 H3 fp,PE (cxG X sc cl xs js C s3 H3 fp) elt te) (hs:∀ v,bO iter X.env v=pure v)
  (I:Inv X pJ σ H s) (h:jx xs.length js wi tg tt te Qe σ H)
  (fin:∀ (D C:Addr) (s6:ν) (H5:Hp) (m:Str->Option δ),s6.heap.Ns C m->FpOk X pJ H5 C->(∀ h',Ϫ C s6.heap h'->Inv X pJ σ H5 { s6 with heap:=h' })->Qe D H5->compPost (Ξ X.prog X.w) X.A X.xe use Q' (.ref D) C (.ok .next) s6):
  Θ (Ξ X.prog X.w) X.A (comprehension (.ListComp elt [⟨tgt,iter,ifs,0⟩] sc pos) sc X.env pos' (newList []) false (eval iter X.env) use) Q' X.xe s:=by
 refine wpAny_comprehension_free (use:=use) rfl hs K.clos K.kind K.names ?_
 refine thn (hi pJ s σ H _ I h) fun v s1 h1=>thn h1 fun itv s2 h2=>?_
 obtain ⟨it,fp,tn,J,H2,e,I2,T,st2,f2,h⟩:=h2
 subst e
 have hD:H2 s2.heap.objs.size=none:=I2.fresh
 obtain ⟨W,⟨m0,w0⟩,turn⟩:=h _ hD
 have I3:Inv X pJ σ (upd H2 s2.heap.objs.size (.lst [])) { s2 with heap:=s2.heap.push { cls:=.type "list",data:=.seq ([]:List δ).toArray },toks:=s2.toks }:=I2.lnew (its:=[]) .nil (bA _)
 have fpLt:∀ b∈fp,b < s2.heap.objs.size:=fun b hb=>let ⟨o,e,_⟩:=T.obj _ _ st2 b hb;Β e
 refine Ϩ (wpAny_newFunctionEnv K.cell (by intro y hy;simp at hy) (fun h₁ hns₁ hsb₁=>?_) K.kind)
 generalize hs3:({ s2 with heap:=s2.heap.push { cls:=.type "list",data:=.seq ([]:List δ).toArray },toks:=s2.toks }:ν)=s3 at I3
 have hs3':({ s2 with heap:=s2.heap.push { cls:=.type "list",data:=.seq ([]:List δ).toArray } }:ν)=s3:=hs3
 (try rw [hs3'] at hns₁);(try rw [hs3'] at hsb₁);(try rw [hs3'])
 have hsz:s3.heap.objs.size=s2.heap.objs.size+1:=by rw [<- hs3,fB]
 generalize hH3:upd H2 s2.heap.objs.size (.lst [])=H3 at I3 w0
 have fp3:∀ b∈fp,FpOk X pJ H3 b/\b < s3.heap.objs.size:=fun b hb=>by
  refine ⟨⟨?_,(f2 b hb).2⟩,by rw [hsz];exact dX (fpLt b hb)⟩
  rw [<- hH3,zf (ϊ (fpLt b hb))]
  exact (f2 b hb).1
 have I4:=JS (tk:=s3.toks+([]:List (Str×δ)).length) I3 K hns₁ hsb₁ fp3
 have st4:tn 0 h₁:=T.keep _ _ _ st2 fun b hb o e=>(hsb₁.2 b (ϊ (fp3 b hb).2)).trans (η _ (by rw [<- hs3];exact η _ e))
 have stat:∀ {H':Hp}{pl:List (Addr×Obj)},(∀ b∈fp,H' b=none)->(∀ p∈pl,p.1 ∉ fp)->∀ b∈fp,FpOk (cxG X sc cl xs js s3.heap.objs.size s3 H3 fp) pl H' b:=fun {H'} {pl} hn hp b hb=>
  ⟨hn b hb,ϊ (fp3 b hb).2,fun z=>by
   rcases Η.mp (I3.XS b z) with q | q
   ·exact (f2 b hb).2.1 q
   ·exact (f2 b hb).2.2.1 q,.inl hb,fun y c e=>(f2 b hb).2.2.2.2.1 y c (K.sub _ _ e),fun p hp' z=>by
    have hp'':p∈pl:=by simpa [cxG] using hp'
    exact hp p hp'' (z ▸ hb)⟩
 have loop:∀ s4:ν,s4={ s3 with heap:=h₁,toks:=s3.toks+([]:List (Str×δ)).length } ->
   lQ (Ξ X.prog X.w) X.A (.compLoop (.ListComp elt [⟨tgt,iter,ifs,0⟩] sc pos) 0 (.ref it) (.ref s2.heap.objs.size) (compEnvC sc cl s3.heap.objs.size X.env))
    (compPost (Ξ X.prog X.w) X.A X.xe use Q' (.ref s2.heap.objs.size) s3.heap.objs.size) s4:=by
  rintro s4 rfl
  refine codeAny_loop rfl (fun n s'=>∃ i ys τ H',Inv (cxG X sc cl xs js s3.heap.objs.size s3 H3 fp) [] τ H' s'/\tn i s'.heap/\(∀ b∈fp,H' b=none)/\W i n ys τ H') ?_ m0 ⟨0,[],_,H3,I4,st4,fun b hb=>(fp3 b hb).1.1,w0⟩
  rintro n s5 ⟨i,ys,τ,H5,I5,st5,fr5,w5⟩
  show Θ _ X.A ((compTurn (.ListComp elt [⟨tgt,iter,ifs,0⟩] sc pos) 0 (.ref it) (.ref s2.heap.objs.size) (compEnvC sc cl s3.heap.objs.size X.env)).onRaise (fun x=>do noteFrame x (compEnvC sc cl s3.heap.objs.size X.env);theTreesLotGoes x)) _ _ s5
  refine wpAny_noted ?_
  rw [compTurn_list]
  refine ε (lB (ε ?_))
  rcases turn i n ys τ H5 w5 with ⟨stop,q⟩ | ⟨go,step⟩
  ·refine thn (T.done (cxG X sc cl xs js s3.heap.objs.size s3 H3 fp) rfl rfl rfl hc i [] s5 τ H5 _ I5 (stat fr5 (fun p hp=>absurd hp (by simp))) st5 stop) fun r s6 ⟨hr,I6⟩=>?_
   subst hr
   refine ι ?_
   obtain ⟨m,hn,_⟩:=I6.loc
   refine fin _ _ s6 H5 m hn (I3.fpOk (π _) I6.free) (fun h' sb=>?_) q
   have u:=(show Un (frs X.stack) fp H3 H5 s3.heap s6.heap from I6.base).sameBut sb (π _)
   exact I3.call' (s':={ s6 with heap:=h' }) (ch:=fp) I6.os u (I6.hok.sameBut sb I6.free) I6.bare fun b hb=>⟨(f2 b hb).2.2.2.1,(f2 b hb).2.1,(f2 b hb).2.2.2.2.1,(f2 b hb).2.2.2.2.2⟩
  ·refine thn (T.item (cxG X sc cl xs js s3.heap.objs.size s3 H3 fp) rfl rfl rfl hc i [] s5 τ H5 _ I5 (stat fr5 (fun p hp=>absurd hp (by simp))) st5 go) fun r s6 ⟨u,hr,h6⟩=>?_
   subst hr
   refine ε (thn h6 fun _ s7 ⟨z,H7,I7,r7,y7,st7,fr7⟩=>?_)
   have I7':=I7.pinned (stat fr7 (fun p hp=>absurd hp (by simp))) (T.obj _ _ st7)
   have done:∀ {σ':St}{H':Hp}{s':ν}{ys':List V}{m':Nat},Inv (cxG X sc cl xs js s3.heap.objs.size s3 H3 fp) ([]++Zr fp s7.heap) σ' H' s'->m' < n->W (i+1) m' ys' σ' H'->∃ m,m < n/\∃ i ys τ H',Inv (cxG X sc cl xs js s3.heap.objs.size s3 H3 fp) [] τ H' s'/\tn i s'.heap/\(∀ b∈fp,H' b=none)/\W i m ys τ H':=fun {σ' H' s' ys' m'} I' hm w'=>
    ⟨m',hm,i+1,ys',σ',H',I'.xY,T.keep _ _ _ st7 fun b hb o e=>(I'.pin (b,o) (Ρ _ (Ρ _ (xq hb e)))).1,fun b hb=>by
     obtain ⟨o,e,d⟩:=T.obj _ _ st7 b hb
     exact (I'.pin (b,o) (Ρ _ (Ρ _ (xq hb e)))).2.1,w'⟩
   refine ε (cG (hg _ _ _ _ _ s7 τ H7 z u _ I7' r7 (step z H7 y7)) (fun _ s8 ⟨σ8,H8,I8,q8⟩=>?_) fun _ _ z=>ak z)
   refine ε (cG (ht _ _ _ _ _ s8 σ8 H8 _ I8 q8) (fun ok s9 ⟨H9,I9,q9⟩=>?_) fun _ _ z=>ak z)
   cases ok with
   | false=>
    rw [if_neg ϗ] at q9
    obtain ⟨m',hm,w9⟩:=q9
    exact ι ⟨rfl,done I9 hm w9⟩
   | true=>
    rw [if_pos rfl] at q9
    refine ε (ε (cG (he _ _ _ _ _ s9 _ _ _ I9 q9) (fun v9 s10 ⟨x9,H10,I10,r9,q10⟩=>?_) fun _ _ z=>ak z))
    obtain ⟨hD9,hlen,m',hm,w10⟩:=q10
    have ap:=ZC (X:=cxG X sc cl xs js s3.heap.objs.size s3 H3 fp) _ s10 _ H10 (.ref s2.heap.objs.size) [x9] (.ref s2.heap.objs.size) [v9] (fun _ H'=>H'=upd H10 s2.heap.objs.size (.lst (ys++[x9]))) I10 rfl (.cons r9 .nil) ⟨_,ys,x9,rfl,rfl,hD9,hlen,rfl⟩
    refine ε (cG ap (fun _ s11 ⟨_,H11,I11,_,e11⟩=>?_) fun _ _ z=>ak z)
    subst e11
    exact ι (ι ⟨rfl,done I11 hm w10⟩)
 exact codeAny_compStart_list (loop _ rfl) (T.self _ 0 _ _ _ st4 (loop _ rfl))
theorem Qy {elt iter tgt:Expr}{ifs:List Expr}{pos:Pos}{wi:TI}{tg:TG}{tt:TT}{te:TE}(hc:X.calm=true) (K:CompG X sc cl xs js) (hi:PI X tgt iter wi)
  (hg:∀ C s3 H3 fp,PG (cxG X sc cl xs js C s3 H3 fp) tgt tg) (ht:∀ C s3 H3 fp,PTs (cxG X sc cl xs js C s3 H3 fp) ifs tt) (he:∀ C s3 H3 fp,PE (cxG X sc cl xs js C s3 H3 fp) elt te) (hs:∀ v,bO iter X.env v=pure v):
  PE X (.ListComp elt [⟨tgt,iter,ifs,0⟩] sc pos) (fun σ H Q=>jx xs.length js wi tg tt te (fun D H'=>Q (.ref D) H') σ H):=by
 intro pJ s σ H Q I h
 rw [eval_ListComp]
 exact Z3 (use:=none) (Q':=EP X pJ σ Q) hc K hi hg ht he hs I h fun D C s6 H5 m hn fp inv q=>⟨m,hn,fun h' sb=>⟨.ref D,H5,inv h' sb,rfl,q⟩⟩
theorem Vi {elt iter tgt:Expr}{ifs:List Expr}{pos spos npos:Pos}{wi:TI}{tg:TG}{tt:TT}{te:TE}{n:Str}{i:Nat}(hc:X.calm=true) (K:CompG X sc cl xs js) (hi:PI X tgt iter wi)
  (hg:∀ C s3 H3 fp,PG (cxG X sc cl xs js C s3 H3 fp) tgt tg) (ht:∀ C s3 H3 fp,PTs (cxG X sc cl xs js C s3 H3 fp) ifs tt) (he:∀ C s3 H3 fp,PE (cxG X sc cl xs js C s3 H3 fp) elt te) (hs:∀ v,bO iter X.env v=pure v)
  (hp:PG X (.Name n npos) (gName i)) (hsw:gF (.ListComp elt [⟨tgt,iter,ifs,0⟩] sc pos) (some (.Name n npos)) spos.line X.env=pure true):
  PS X (.Assign [.Name n npos] (.ListComp elt [⟨tgt,iter,ifs,0⟩] sc pos) spos) (fun D σ H=>jx xs.length js wi tg tt te (fun Da H'=>D.nx (σ.set i (some (.ref Da))) H') σ H):=by
 intro pJ s σ H D I h
 rw [exec_Assign_Name_used _ _ _ _ hsw]
 refine ε (lB (ε ?_))
 show Θ _ X.A (do let _ <- comprehension (.ListComp elt [⟨tgt,iter,ifs,0⟩] sc pos) sc X.env _ (newList []) false (eval iter X.env) (some (fV (.Name n npos) X.env))) _ _ s
 refine ε (cG (Z3 (use:=some (fV (.Name n npos) X.env)) (Q':=fun _ s'=>SP X pJ D .next s') hc K hi hg ht he hs I h ?_) (fun _ s' q=>ι (ι q)) fun _ _ z=>z)
 intro Da C s6 H5 m hn fp inv q
 obtain ⟨oC,es,ep,hoC,hdC,hrC⟩:=id hn
 have I6:=inv s6.heap (mJ C s6.heap)
 have I6':Inv X (pJ++[(C,oC)]) σ H5 { s6 with heap:=s6.heap }:=I6.YC fun p hp=>(Λ.mp hp).elim (fun z=>I6.pin p (Ρ _ z)) fun z=>by
  rw [υ.mp z]
  exact ⟨hoC,fp.1,fp.2.1,fp.2.2.1,fun v e=>by rw [hdC] at e;cases e⟩
 show Θ _ X.A (fV (.Name n npos) X.env (.ref Da)) _ _ s6
 refine thn (hp _ s6 σ H5 (.ref Da) (.ref Da) _ I6' rfl q) fun _ s7 ⟨σ7,H7,I7,q7⟩=>?_
 have hC7:=(I7.pin (C,oC) (Ρ _ (Ρ _ (υ.mpr rfl))))
 refine ⟨m,⟨oC,es,ep,hC7.1,hdC,hrC⟩,fun h' sb=>⟨σ7,H7,?_,q7⟩⟩
 have I8:Inv X pJ σ7 H7 s7:=I7.xY
 exact I8.turned (t':=s7.toks) (fun b o hb e=>(sb.2 b hb).trans e) hC7.2.1 fp.2.1 fp.2.2.2.1 fp.2.2.2.2.1 fun p hp=>fp.2.2.2.2.2 p hp
def CSet (X:Cx) (x:Expr) (t:TE):Prop:=∀ (n:Str) (npos spos:Pos) (i:Nat),PG X (.Name n npos) (gName i)->gF x (some (.Name n npos)) spos.line X.env=pure true ->
 PS X (.Assign [.Name n npos] x spos) (fun D σ H=>t σ H fun v H'=>D.nx (σ.set i (some v)) H')
theorem zaf {X:Cx}{x:Expr}{t t':TE}(h:PE X x t/\CSet X x t) (i:∀ σ H Q,t' σ H Q->t σ H Q):PE X x t'/\CSet X x t':=
 ⟨h.1.imp i,fun n np sp j hp hs=>(h.2 n np sp j hp hs).imp fun D σ H q=>i σ H _ q⟩
theorem Kl {elt iter tgt:Expr}{ifs:List Expr}{pos:Pos}{wi:TI}{tg:TG}{tt:TT}{te:TE}(hc:X.calm=true) (K:CompG X sc cl xs js) (hi:PI X tgt iter wi)
  (hg:∀ C s3 H3 fp,PG (cxG X sc cl xs js C s3 H3 fp) tgt tg) (ht:∀ C s3 H3 fp,PTs (cxG X sc cl xs js C s3 H3 fp) ifs tt) (he:∀ C s3 H3 fp,PE (cxG X sc cl xs js C s3 H3 fp) elt te) (hs:∀ v,bO iter X.env v=pure v):
  PE X (.ListComp elt [⟨tgt,iter,ifs,0⟩] sc pos) (fun σ H Q=>jx xs.length js wi tg tt te (fun D H'=>Q (.ref D) H') σ H)/\CSet X (.ListComp elt [⟨tgt,iter,ifs,0⟩] sc pos) (fun σ H Q=>jx xs.length js wi tg tt te (fun D H'=>Q (.ref D) H') σ H):=
 ⟨Qy hc K hi hg ht he hs,fun n np sp i hp hsw=>Vi hc K hi hg ht he hs hp hsw⟩
end
end L2
namespace EV
open PySem PySem.Spec PyProof.Rows L2
structure FnI (Γ:Gm) (B:Tb) (cf:Nat->Nat->Sp) (k:Nat) (P:Τ) (w:ϝ) (K:W.Frag) (mg:Str->Option δ) (base:Heap) (f:Nat) (x:Str):Prop where
 ex:∃ (a:Addr) (fd:bj) (ps:List Str),Γ.fa f=some a/\mg x=some (.ref a)/\W.keepIn K (.ref a)=true/\Binds K fd ps []/\B.pars[f]?=some ps/\FnOk P w K mg base CX0 k a fd ps (cf f ps.length) /\
  ∀ (ks:List Str) (perm:List Nat),perm.length=ps.length->(∀ i∈perm,i < ks.length)->perm.map (fun i=>ks.getD i "")=ps->ks.length=ps.length->(f,ks,perm)∈B.kws ->
   K1 K fd ps ks (fun us ws=>if ws.length=ks.length then us++perm.map fun i=>ws.getD i .none else []) (fun vs zs=>if zs.length=ks.length then vs++perm.map fun i=>zs.getD i .non else [])
structure XOk (Γ:Gm) (B:Tb) (cf:Nat->Nat->Sp) (k:Nat) (X:Cx) (c:Cc):Prop where
 hK:X.K=Γ.K
 nm:X.env.scope.names=c.names
 kd:X.env.scope.kind=.function
 N:X.N=c.N
 nd:X.N.Nodup
 fn:c.fn=true->∀ x,X.fn x=true
 calm:X.calm=true
 room:Room k X.A
 cells:∀ x,(c.names.lookup x=some .cell\/c.names.lookup x=some .free)->∃ a,X.env.cells.lookup x=some a
 fns:∀ (f:Nat) (x:Str),B.fns[f]?=some x->FnI Γ B cf k X.prog X.w X.K X.mg X.base f x
 bare:∀ x∈B.bare,X.mg x=none
 consts:∀ (n:Nat) (x:Str) (d:D),B.consts[n]?=some (x,d)->∃ u v,X.mg x=some u/\RelV v u/\∀ g,Has Γ g d v
 fa:∀ (f:Nat) (a:Addr),Γ.fa f=some a->∃ x,B.fns[f]?=some x
section
variable {Γ:Gm}{B:Tb}{cf:Nat->Nat->Sp}{k:Nat}{X:Cx}{c:Cc}
theorem XOk.u61 (x:XOk Γ B cf k X c):X.A.units+61 < aj:=by have:=x.room.un;lia
theorem XOk.u1 (x:XOk Γ B cf k X c):X.A.units+1 < aj:=by have:=x.room.un;lia
theorem XOk.vis (x:XOk Γ B cf k X c) {n:Str}(h:visK (c.names.lookup n)=true):Vis X.env.scope n:=by
 unfold Vis
 rw [x.nm]
 cases q:c.names.lookup n with
 | none=>rw [q] at h;cases h
 | some kd=>rw [q] at h;cases kd <;> first | exact .inl rfl | exact .inr (.inl rfl) | exact .inr (.inr rfl) | cases h
theorem XOk.glob (x:XOk Γ B cf k X c) {n:Str}(h:gloK (c.names.lookup n)=true):Gl X n:=by
 unfold Gl mK
 rw [x.nm]
 cases q:c.names.lookup n with
 | none=>rw [q] at h;cases h
 | some kd=>rw [q] at h;cases kd <;> first | rfl | cases h
theorem zX {n:Str}(h:yj n=true):(n==("__debug__":Str))=false/\(n==("__classdict__":Str))=false/\n≠("__name__":Str):=by
 unfold yj at h
 simp only [ζ,oW] at h
 exact ⟨h.1.1,h.1.2,by simpa using h.2⟩
theorem XOk.pg (x:XOk Γ B cf k X c) {i:Nat}{n:Str}{pos:Pos}(hi:c.N[i]?=some n) (hs:stoK c n=true):PG X (.Name n pos) (gName i):=by
 have hi':X.N[i]?=some n:=by rw [x.N];exact hi
 unfold stoK at hs
 cases q:c.names.lookup n with
 | none=>rw [q] at hs;cases hs
 | some kd=>
  rw [q] at hs
  have q':X.env.scope.names.lookup n=some kd:=by rw [x.nm];exact q
  cases kd with
  | «local»=>exact U4 x.nd hi' (.inl q') (.inr q')
  | cell=>exact U4 x.nd hi' (.inr q') (.inl (x.fn hs n))
  | _=>cases hs
def ZX:List Nat->TGs
 | []=>gNil
 | i::is=>gCons (gName i) (ZX is)
theorem UW (x:XOk Γ B cf k X c):∀ {es:List Expr}{ns:List Str}{is:List Nat},EV.namesOf es=some ns->ns.length=is.length->((is.zip ns).all fun p=>c.N[p.1]?==some p.2&&stoK c p.2)=true ->
  PGs X es (ZX is)/\(aP es X.env).length=is.length/\(aP es X.env).findIdx? (·.1)=none
 | [],ns,is,h,hl,_=>by
  cases (show some []=some ns from h)
  cases is with
  | nil=>exact ⟨U0,rfl,rfl⟩
  | cons=>simp at hl
 | e::es,ns,is,h,hl,ha=>by
  cases e with
  | Name n pos=>
   simp only [EV.namesOf,Ι] at h
   obtain ⟨r,h1,h2⟩:=h
   subst h2
   cases is with
   | nil=>simp at hl
   | cons i is=>
    simp only [bW,cu,ζ] at ha
    obtain ⟨⟨ha1,ha2⟩,ha3⟩:=ha
    obtain ⟨g1,g2,g3⟩:=UW x h1 (by simpa using hl) ha3
    refine ⟨kY (x.pg (eq_of_beq ha1) ha2) g1,?_,?_⟩
    ·show (_::aP es X.env).length=_
     rw [bR,g2,bR]
    ·show List.findIdx? _ ((false,_)::aP es X.env)=none
     rw [List.findIdx?_cons]
     simp [g3]
  | _=>simp [EV.namesOf] at h
def tgOf (K:W.Frag):T->TG
 | .nst i is=>gTup K 2 (gCons (gName i) (gCons (gTup K is.length (ZX is)) gNil))
 | .one i=>gName i
 | .tup is=>gTup K is.length (ZX is)
theorem W3 {x:Expr}{q:Str×Pos×List Expr×Nat×Pos×Nat×Pos}(h:asNst x=some q):x=.Tuple [.Name q.1 q.2.1,.Tuple q.2.2.1 q.2.2.2.1 q.2.2.2.2.1] q.2.2.2.2.2.1 q.2.2.2.2.2.2:=by
 cases x with
 | Tuple es k p=>
  cases es with
  | nil=>cases h
  | cons a r=>
   cases a with
   | Name n pos=>
    cases r with
    | nil=>cases h
    | cons b z=>
     cases z with
     | cons _ _=>cases h
     | nil=>
      cases b with
      | Tuple fs k2 p2=>cases h;rfl
      | _=>cases h
   | _=>cases h
 | _=>cases h
theorem zbf (x:XOk Γ B cf k X c) {t:T}{tgt:Expr}(hn:isNst t=true) (h:chkT c t tgt=true):PG X tgt (tgOf X.K t):=by
  cases t with
  | nst i is=>
    unfold chkT at h
    rw [if_pos hn] at h
    cases e:asNst tgt with
    | none=>rw [e] at h;cases h
    | some q=>
      rw [e] at h
      have h:(match namesOf q.2.2.1 with
        | some ns=>(q.1::ns).length==(i::is).length&&((i::is).zip (q.1::ns)).all fun p=>c.N[p.1]?==some p.2&&stoK c p.2
        | none=>false)=true:=h
      rw [W3 e]
      cases en:namesOf q.2.2.1 with
      | none=>rw [en] at h;cases h
      | some ns=>
        rw [en] at h
        simp only [bW,cu,ζ] at h
        obtain ⟨h1,⟨h2,h3⟩,h4⟩:=h
        have h1:ns.length=is.length:=by simpa using h1
        obtain ⟨g1,g2,g3⟩:=UW x en h1 h4
        exact U3 x.calm (kY (x.pg (eq_of_beq h2) h3) (kY (U3 x.calm g1 g2 g3) U0)) rfl rfl
  | _=>cases hn
theorem XN (x:XOk Γ B cf k X c) {t:T}{tgt:Expr}(h:chkT c t tgt=true):PG X tgt (tgOf X.K t):=by
 by_cases hnst:isNst t=true
 ·exact zbf x hnst h
 unfold chkT at h
 rw [if_neg hnst] at h
 rw [ζ] at h
 obtain ⟨h1,h2⟩:=h
 cases tgt with
 | Name n pos=>
  cases t with
  | one i=>
   simp only [yI,tIs,bW,List.zip_nil_right,cu,List.all_nil,iz,ζ] at h2
   exact x.pg (eq_of_beq h2.2.1) h2.2.2
  | tup is=>cases h1
  | nst _ _=>exact absurd rfl hnst
 | Tuple es kk pos=>
  cases t with
  | one i=>cases h1
  | nst _ _=>exact absurd rfl hnst
  | tup is=>
   simp only [yI,tIs] at h2
   cases hn:EV.namesOf es with
   | none=>rw [hn] at h2;cases h2
   | some ns=>
    rw [hn] at h2
    simp only [ζ,beq_iff_eq] at h2
    obtain ⟨g1,g2,g3⟩:=UW x hn h2.1 (by simpa using h2.2)
    exact U3 x.calm g1 g2 g3
 | _=>simp [yI] at h2
noncomputable def closL (cells:List (Str×Addr)):List (Str×ϰ)->List (Str×Addr)->List (Str×Addr)
 | [],acc=>acc
 | (n,kd)::r,acc=>if (kd==aK)=true then closL cells r ((n,(cells.lookup n).getD 0)::acc) else closL cells r acc
theorem u6 {env:Env}:∀ (names:List (Str×ϰ)) (acc:List (Str×Addr)),(∀ y∈names,y.2=.free->∃ a,env.cells.lookup y.1=some a) ->
  (forIn names acc fun x cs=>match x with
   | (name,kind)=>if (kind==aK)=true then do let a <- cellOf env name;pure (ϥ ((name,a)::cs)) else pure (ϥ cs):Sem (List (Str×Addr)))=pure (closL env.cells names acc)
 | [],acc,_=>rfl
 | (n,kd)::r,acc,h=>by
  rw [List.forIn_cons]
  by_cases hk:(kd==aK)=true
  ·obtain ⟨a,ha⟩:=h (n,kd) μ (eq_of_beq hk)
   have ha:env.cells.lookup n=some a:=ha
   simp only [hk,if_true]
   have:cellOf env n=pure a:=by unfold cellOf;rw [ha]
   rw [this]
   simp only [pure_bind]
   rw [u6 r _ fun y hy=>h y (θ _ hy)]
   simp [closL,hk,ha]
  ·simp only [hk]
   simp only [bY,if_false,pure_bind]
   rw [u6 r _ fun y hy=>h y (θ _ hy)]
   simp [closL,hk]
theorem zcJ {env:Env}{sc:dI}(h:∀ y∈sc.names,y.2=.free->∃ a,env.cells.lookup y.1=some a):closureFor sc env=pure (closL env.cells sc.names []):=by
 unfold closureFor
 have:=u6 sc.names [] h
 first
  | exact (congrArg (fun z=>z >>= pure) this).trans (by simp)
  | (simp only [bind_pure];exact this)
  | exact this
theorem yz {cells:List (Str×Addr)}{y:Str}:∀ (names:List (Str×ϰ)) (acc:List (Str×Addr)),(∀ z∈names,z.2=.free->∃ a,cells.lookup z.1=some a)->(∀ c,acc.lookup y=some c->cells.lookup y=some c) ->
  (∀ c,(closL cells names acc).lookup y=some c->cells.lookup y=some c)/\((y,aK)∈names\/(∃ c,acc.lookup y=some c)->∃ c,(closL cells names acc).lookup y=some c)
 | [],acc,_,h=>⟨h,fun q=>by
  rcases q with q | q
  ·cases q
  ·exact q⟩
 | (n,kd)::r,acc,hh,h=>by
  by_cases hk:(kd==aK)=true
  ·obtain ⟨a,ha⟩:=hh (n,kd) μ (eq_of_beq hk)
   have ha:cells.lookup n=some a:=ha
   have e:closL cells ((n,kd)::r) acc=closL cells r ((n,a)::acc):=by
    simp [closL,hk,ha]
   rw [e]
   obtain ⟨i1,i2⟩:=yz (y:=y) r ((n,a)::acc) (fun z hz=>hh z (θ _ hz)) (fun c q=>by
    rw [aA] at q
    cases hy:y==n with
    | true=>rw [hy] at q;cases q;rw [eq_of_beq hy];exact ha
    | false=>rw [hy] at q;exact h c q)
   refine ⟨i1,fun q=>i2 ?_⟩
   rcases q with q | ⟨c,q⟩
   ·rcases Η.mp q with q | q
    ·right
     cases q
     exact ⟨a,List.lookup_cons_self⟩
    ·exact .inl q
   ·right
    rw [aA]
    cases hy:y==n with
    | true=>exact ⟨a,rfl⟩
    | false=>exact ⟨c,q⟩
  ·have e:closL cells ((n,kd)::r) acc=closL cells r acc:=by simp [closL,hk]
   rw [e]
   obtain ⟨i1,i2⟩:=yz (y:=y) r acc (fun z hz=>hh z (θ _ hz)) h
   refine ⟨i1,fun q=>i2 ?_⟩
   rcases q with q | q
   ·rcases Η.mp q with q | q
    ·cases q;exact absurd rfl hk
    ·exact .inl q
   ·exact .inr q
theorem wg (x:XOk Γ B cf k X c) (sc:dI):(iR sc X.env).names=relK c.names sc.names:=by
 unfold iR relK
 simp only [x.kd,mK,x.nm]
 congr 1
 funext y
 have e:(ni==ni)=true:=rfl
 rw [e,iz]
theorem Ze {names l:List (Str×ϰ)}{y:Str}{kd:ϰ}(hc:∀ z∈l,z.2≠.cell):(relK names l).lookup y=some kd->kd=.cell\/kd=.free->(y,aK)∈l:=by
 intro h hk
 induction l with
 | nil=>cases h
 | cons p l ih=>
  obtain ⟨n,q⟩:=p
  have hq:=hc (n,q) μ
  show (y,aK)∈(n,q)::l
  unfold relK at h
  rw [ϧ] at h
  by_cases e:(q==aK&&names.lookup n==some .cell)=true
  ·simp only [e,if_true] at h
   rw [aA] at h
   cases hy:y==n with
   | true=>
    rw [ζ] at e
    rw [eq_of_beq hy,eq_of_beq e.1]
    exact μ
   | false=>
    rw [hy] at h
    exact θ _ (ih (fun z hz=>hc z (θ _ hz)) h)
  ·simp only [e,bY,if_false] at h
   rw [aA] at h
   cases hy:y==n with
   | true=>
    rw [hy] at h
    cases h
    rcases hk with hk | hk
    ·exact absurd hk hq
    ·rw [hk,eq_of_beq hy];exact μ
   | false=>
    rw [hy] at h
    exact θ _ (ih (fun z hz=>hc z (θ _ hz)) h)
theorem Uw {names l:List (Str×ϰ)}{y:Str}(h:l.lookup y=some .free):(relK names l).lookup y=some .cell\/(relK names l).lookup y=some .free:=by
 induction l with
 | nil=>cases h
 | cons p l ih=>
  obtain ⟨n,q⟩:=p
  rw [aA] at h
  unfold relK
  rw [ϧ]
  cases hy:y==n with
  | true=>
   rw [hy] at h
   cases h
   by_cases e:(aK==aK&&names.lookup n==some .cell)=true
   ·left
    simp only [e,if_true,aA,hy]
   ·right
    simp only [e,bY,if_false,aA,hy]
  | false=>
   rw [hy] at h
   have:=ih h
   by_cases e:(q==aK&&names.lookup n==some .cell)=true
   ·simp only [e,if_true,aA,hy];exact this
   ·simp only [e,bY,if_false,aA,hy];exact this
theorem WX (x:XOk Γ B cf k X c) {sc:dI}{js:List Nat}{xs:List Str}(h:chkS c sc js=true):CompG X sc (closL X.env.cells sc.names []) xs js:=by
 unfold chkS at h
 simp only [ζ,cY,beq_iff_eq] at h
 obtain ⟨⟨⟨⟨⟨h1,h2⟩,h3⟩,h4⟩,h5⟩,h6⟩:=h
 have hc:∀ y∈sc.names,y.2≠.cell:=fun y hy=>by simpa using h2 y hy
 have hcell:∀ y∈sc.names,y.2=.free->∃ a,X.env.cells.lookup y.1=some a:=fun y hy hf=>by
  have:=h5 y hy
  rw [hf] at this
  refine x.cells y.1 ?_
  simpa using this
 refine ⟨zcJ hcell,hc,h1,fun y hy hl=>?_,fun y c' q=>(yz sc.names [] hcell (fun _ q=>by cases q)).1 c' q,fun y hy=>?_,fun j hj y hy=>?_,fun j hj=>?_⟩
 ·have:=h3 y hy
  rw [hl] at this
  simpa using this
 ·rw [wg x] at hy
  refine (yz sc.names [] hcell (fun _ q=>by cases q)).2 (.inl ?_)
  rcases hy with q | q
  ·exact Ze hc q (.inl rfl)
  ·exact Ze hc q (.inr rfl)
 ·have q:=h6 j hj
  rw [x.N] at hy
  rw [hy] at q
  simp only [ζ,lN,beq_iff_eq] at q
  refine ⟨?_,?_,(yz sc.names [] hcell (fun _ q=>by cases q)).2 (.inl (aZ q.2)),?_⟩
  ·unfold Vis
   rw [x.nm]
   rcases q.1 with z | z
   ·exact .inr (.inl z)
   ·exact .inr (.inr z)
  ·unfold mK
   rw [x.nm]
   rcases q.1 with z | z <;> rw [z] <;> decide
  ·rw [wg x]
   exact Uw q.2
 ·have q:=h6 j hj
  cases e:c.N[j]? with
  | none=>rw [e] at q;cases q
  | some y=>rw [x.N];exact (Ζ.mp e).1
theorem VG (x:XOk Γ B cf k X c) {sc:dI}{js:List Nat}{xs:List Str}(h:chkS c sc js=true) (hn:(xs++js.map (fun j=>c.N.getD j "")).Nodup) (C:Addr) (s3:ν) (H3:Hp) (fp:List Addr):
  XOk Γ B cf k (cxG X sc (closL X.env.cells sc.names []) xs js C s3 H3 fp) (inner c sc xs js):=by
 have K:=WX (xs:=xs) x h
 refine ⟨x.hK,wg x sc,K.kind,by show xs++js.map (fun j=>X.N.getD j "")=_;rw [x.N];rfl,by show (xs++js.map (fun j=>X.N.getD j "")).Nodup;rw [x.N];exact hn,fun q=>absurd (show false=true from q) ϗ,x.calm,x.room,fun y hy=>?_,x.fns,x.bare,x.consts,x.fa⟩
 have hy':(iR sc X.env).names.lookup y=some .cell\/(iR sc X.env).names.lookup y=some .free:=by rw [wg x];exact hy
 exact K.has y hy'
end
end EV
namespace L2
open PySem PySem.Spec PyProof.Rows
section
variable {X:Cx}{tg:Expr}
theorem zeD {pJ:List (Addr×Obj)}{σ:St}{H:Hp}{s:ν}{R:It->Hp->Prop}{a:Addr}(I:Inv X pJ σ H s) (h:((∃ xs,SqL X.K H a xs)/\R (Itl X.K a) H)\/((∃ xs,SqT X.K H a xs)/\R (Itt X.K a) H)):Θ (Ξ X.prog X.w) X.A (lF (.ref a)) (PIE X pJ σ tg R) X.xe s:=by
 have fp:∀ b∈[s.heap.objs.size],FpOk X pJ H b:=fun b hb=>by
  rw [υ.mp hb]
  exact I.fpOk (π _) (I.hok.fresh (π _))
 rcases h with ⟨⟨xs,hq⟩,q⟩ | ⟨⟨xs,hq⟩,q⟩
 ·obtain ⟨its,rv,p,hz⟩:=I.list hq
  exact gh p.isList ⟨s.heap.objs.size,[s.heap.objs.size],_,_,H,rfl,I.kept (t':=s.toks) fun b o e=>η _ e,V6 a _,⟨_,Δ _ rfl,rfl,rfl⟩,fp,q⟩
 ·obtain ⟨its,rv,p,hz⟩:=I.tuple hq
  exact lE (show s.heap.IsTuple a its.toArray from p) ⟨s.heap.objs.size,[s.heap.objs.size],_,_,H,rfl,I.kept (t':=s.toks) fun b o e=>η _ e,W9 a _,⟨_,Δ _ rfl,rfl,rfl⟩,fp,q⟩
noncomputable def Its (x:Str):It:=⟨fun i _=>i < x.cps.size,fun i H v H'=>H'=H/\∃ c,x.cps[i]?=some c/\v=.str ⟨#[c]⟩,fun i _=>x.cps.size<=i⟩
theorem V5 {P:Τ}{w:ϝ}{K:W.Frag}{tg:Expr}(x:Str) (t:Tok) (it:Addr):Turn P w K tg (Its x) [it] it (fun i h=>h.IsStrIter it "str_ascii_iterator" x t i) where
 mem:=by simp
 obj:=fun i h st b hb=>by
  have e:b=it:=by simpa using hb
  subst e
  obtain ⟨o,e,c,d⟩:=st
  exact ⟨o,e,fun v z=>by rw [d] at z;cases z⟩
 keep:=fun i h h' st k=>by
  obtain ⟨o,e,r⟩:=st
  exact ⟨o,k it (by simp) o e,r⟩
 item:=by
  intro X hP hw hK hc i pJ s σ H E I hf st hg
  subst hP hw hK
  obtain ⟨f0,f1,f2,f3,f4,f5⟩:=hf it (by simp)
  refine (Walks.strAscii (prog:=X.prog) (w:=X.w) (I.ok.hd hc) it x t).item i s _ _ hg st fun v h' tk hv st' kk=>?_
  obtain ⟨c,u,h1,rfl⟩:=hv
  have I1:Inv X pJ σ H { s with heap:=h',toks:=tk }:=I.turned (fun b o hb e=>kk b o (by simpa using hb) e) f0 f1 f3 f4 f5
  obtain ⟨o,e,c1,d⟩:=id st'
  exact ⟨_,rfl,go_of (s:={ s with heap:=h',toks:=tk }) e c1 d (by decide) ⟨.str ⟨#[c]⟩,H,I1,⟨u,rfl⟩,⟨rfl,c,h1,rfl⟩,st',fun b hb=>(hf b hb).1⟩⟩
 done:=by
  intro X hP hw hK hc i pJ s σ H E I hf st hg
  subst hP hw hK
  obtain ⟨f0,f1,f2,f3,f4,f5⟩:=hf it (by simp)
  have hg:x.cps.size<=i:=hg
  exact wpAny_pyNext_ascii_end (I.ok.hd hc) st (by simp [hg]) fun h' eb=>⟨rfl,I.turned (t':=s.toks) (fun b o hb e=>eb b o hb e) f0 f1 f3 f4 f5⟩
 self:=fun _ _ _ _ _ st h=>wpAny_pyIter_striter_ascii st h
theorem V4 {P:Τ}{w:ϝ}{K:W.Frag}{tg:Expr}(x:Str) (t:Tok) (it:Addr):Turn P w K tg (Its x) [it] it (fun i h=>h.IsStrIter it "str_iterator" x t i) where
 mem:=by simp
 obj:=fun i h st b hb=>by
  have e:b=it:=by simpa using hb
  subst e
  obtain ⟨o,e,c,d⟩:=st
  exact ⟨o,e,fun v z=>by rw [d] at z;cases z⟩
 keep:=fun i h h' st k=>by
  obtain ⟨o,e,r⟩:=st
  exact ⟨o,k it (by simp) o e,r⟩
 item:=by
  intro X hP hw hK hc i pJ s σ H E I hf st hg
  subst hP hw hK
  obtain ⟨f0,f1,f2,f3,f4,f5⟩:=hf it (by simp)
  refine (Walks.strWide (prog:=X.prog) (w:=X.w) (I.ok.hd hc) it x t).item i s _ _ hg st fun v h' tk hv st' kk=>?_
  obtain ⟨c,u,h1,rfl⟩:=hv
  have I1:Inv X pJ σ H { s with heap:=h',toks:=tk }:=I.turned (fun b o hb e=>kk b o (by simpa using hb) e) f0 f1 f3 f4 f5
  obtain ⟨o,e,c1,d⟩:=id st'
  exact ⟨_,rfl,go_of (s:={ s with heap:=h',toks:=tk }) e c1 d (by decide) ⟨.str ⟨#[c]⟩,H,I1,⟨u,rfl⟩,⟨rfl,c,h1,rfl⟩,st',fun b hb=>(hf b hb).1⟩⟩
 done:=by
  intro X hP hw hK hc i pJ s σ H E I hf st hg
  subst hP hw hK
  obtain ⟨f0,f1,f2,f3,f4,f5⟩:=hf it (by simp)
  have hg:x.cps.size<=i:=hg
  exact wpAny_pyNext_wide_end (I.ok.hd hc) st (by simp [hg]) fun h' eb=>⟨rfl,I.turned (t':=s.toks) (fun b o hb e=>eb b o hb e) f0 f1 f3 f4 f5⟩
 self:=fun _ _ _ _ _ st h=>wpAny_pyIter_striter_wide st h
theorem zcq {pJ:List (Addr×Obj)}{σ:St}{H:Hp}{s:ν}{R:It->Hp->Prop}{z:Str}{t:Tok}(I:Inv X pJ σ H s) (h:R (Its z) H):Θ (Ξ X.prog X.w) X.A (lF (.str z t)) (PIE X pJ σ tg R) X.xe s:=by
 have fp:∀ b∈[s.heap.objs.size],FpOk X pJ H b:=fun b hb=>by
  rw [υ.mp hb]
  exact I.fpOk (π _) (I.hok.fresh (π _))
 cases ha:z.cps.all (· < 128) with
 | false=>exact wpAny_pyIter_wide ha ⟨s.heap.objs.size,[s.heap.objs.size],_,_,H,rfl,I.kept (t':=s.toks) fun b o e=>η _ e,V4 z t _,⟨_,Δ _ rfl,rfl,rfl⟩,fp,h⟩
 | true=>exact wpAny_pyIter_ascii ha ⟨s.heap.objs.size,[s.heap.objs.size],_,_,H,rfl,I.kept (t':=s.toks) fun b o e=>η _ e,V5 z t _,⟨_,Δ _ rfl,rfl,rfl⟩,fp,h⟩
theorem zdQ {l:Expr}{tl:TE}(hl:PE X l tl):PI X tg l (fun σ H R=>tl σ H fun x H1=>(∃ a,x=.ref a/\(((∃ xs,SqL X.K H1 a xs)/\R (Itl X.K a) H1)\/((∃ xs,SqT X.K H1 a xs)/\R (Itt X.K a) H1)))\/∃ z,x=.str z/\R (Its z) H1):=by
 intro pJ s σ H R I h
 refine thn (hl pJ s σ H _ I h) fun v s1 ⟨x,H1,I1,r1,q⟩=>?_
 rcases q with ⟨a,e,q⟩ | ⟨z,e,q⟩
 ·subst e
  cases r1
  exact zeD I1 q
 ·subst e
  obtain ⟨t,rfl⟩:=r1
  exact zcq I1 q
theorem Qt {a:Expr}{ta:TA}{p pos:Pos}{elts:List Expr}{kk:Nat}{tp:Pos}(hg:Gl X "enumerate") (hm:X.mg "enumerate"=none) (hv:cI "enumerate"=some (.type "enumerate")) (ha:PA X [a] ta) (hs:Ϥ [a] X.env=[(false,eval a X.env)]):
  PI X (.Tuple elts kk tp) (.Call (.Name "enumerate" p) [a] [] pos) (fun σ H R=>ta σ H fun vs H1=>∃ l,vs=[.ref l]/\(((∃ xs,SqL X.K H1 l xs)/\R (Ite X.K l) H1)\/((∃ xs,SqT X.K H1 l xs)/\R (Itet X.K l) H1))):=by
 intro pJ s σ H R I h
 refine Call_ (jM I hg hm hv (bU (thn (ha pos pJ s σ H _ I h) fun us s1 ⟨vs,H1,I1,r1,q1⟩=>?_) hs rfl))
 obtain ⟨l,e,q1⟩:=q1
 subst e
 obtain ⟨u,rfl,ru⟩:=r1.one
 cases (show u=Ε l from ru)
 have fp:∀ b∈[s1.heap.objs.size+1,s1.heap.objs.size],FpOk X pJ H1 b:=fun b hb=>by
  have hb':b=s1.heap.objs.size+1\/b=s1.heap.objs.size:=by simpa using hb
  rcases hb' with rfl | rfl
  ·exact I1.fpOk (by lia) (I1.hok.fresh (by lia))
  ·exact I1.fpOk (π _) (I1.hok.fresh (π _))
 rcases q1 with ⟨⟨xs,hq⟩,q⟩ | ⟨⟨xs,hq⟩,q⟩
 ·obtain ⟨its,rv,pl,hz⟩:=I1.list hq
  refine call_enumerate_list pl.isList fun h' he hit hsz hk=>?_
  have I2:Inv X pJ σ H1 { s1 with heap:=h' }:=I1.kept (t':=s1.toks) hk
  exact gj he ⟨_,[s1.heap.objs.size+1,s1.heap.objs.size],_,_,H1,rfl,I2,V7 l _ _ (Nat.succ_ne_self _),⟨⟨_,he⟩,hit⟩,fp,q⟩
 ·obtain ⟨its,rv,pl,hz⟩:=I1.tuple hq
  refine wH (show s1.heap.IsTuple l its.toArray from pl) fun h' he hit hsz hk=>?_
  have I2:Inv X pJ σ H1 { s1 with heap:=h' }:=I1.kept (t':=s1.toks) hk
  exact gj he ⟨_,[s1.heap.objs.size+1,s1.heap.objs.size],_,_,H1,rfl,I2,Vb l _ _ (Nat.succ_ne_self _),⟨⟨_,he⟩,hit⟩,fp,q⟩
end
end L2
namespace EV
open PySem PySem.Spec PyProof.Rows L2
section
variable {Γ:Gm}{Hz:Hp}{ρ:List Slot}
theorem zx {α:Type}{l:List α}{i j:Nat}{a b:α}:(l.set i a)[j]?=some b->(i=j/\i < l.length/\b=a)\/(i≠j/\l[j]?=some b):=by
 intro h
 by_cases e:i=j
 ·subst e
  by_cases hi:i < l.length
  ·rw [Ϸ hi] at h
   cases h
   exact .inl ⟨rfl,hi,rfl⟩
  ·rw [mX (by lia)] at h
   rw [cB (by lia)] at h
   cases h
 ·rw [ϋ e] at h
  exact .inr ⟨e,h⟩
theorem EnvO.setSh {H:Hp}{g:G}{σ:L2.St}{i:Nat}{d:D}{v:V}(env:EnvO Γ Hz H g ρ σ) (h:Has Γ g d v):EnvO Γ Hz H g (ρ.set i (.sh d)) (σ.set i (some v)):=by
 have hl:=env.len
 refine ⟨by simp [hl],fun j e q=>?_,fun j e q=>?_,fun j j' e e' a q1 q2 q3 q4=>?_⟩
 ·rcases zx q with ⟨rfl,h1,h2⟩ | ⟨h1,h2⟩
  ·cases h2
   exact ⟨v,Ϸ (by lia),h⟩
  ·obtain ⟨u,e1,e2⟩:=env.sh j e h2
   exact ⟨u,by rw [ϋ h1];exact e1,e2⟩
 ·rcases zx q with ⟨rfl,h1,h2⟩ | ⟨h1,h2⟩
  ·cases h2
  ·obtain ⟨a,e1,e2⟩:=env.ow j e h2
   exact ⟨a,by rw [ϋ h1];exact e1,e2⟩
 ·rcases zx q1 with ⟨rfl,h1,h2⟩ | ⟨h1,h2⟩
  ·cases h2
  ·rcases zx q2 with ⟨rfl,h3,h4⟩ | ⟨h3,h4⟩
   ·cases h4
   ·rw [ϋ h1] at q3
    rw [ϋ h3] at q4
    exact env.inj j j' e e' a h2 h4 q3 q4
theorem EnvO.setOw {H:Hp}{g:G}{σ:L2.St}{i:Nat}{d:D}{a:Addr}(env:EnvO Γ Hz H g ρ σ) (h0:Hz a=none) (hr:g.R a=none) (ha:a ∉ g.α) (hc:zM Γ H g a d) (hi:isIns d=false)
  (ne:∀ (j:Nat) (d':D),ρ[j]?=some (.ow d')->j≠i->σ[j]?≠some (some (.ref a))):EnvO Γ Hz H g (ρ.set i (.ow d)) (σ.set i (some (.ref a))):=by
 have hl:=env.len
 refine ⟨by simp [hl],fun j e q=>?_,fun j e q=>?_,fun j j' e e' b q1 q2 q3 q4=>?_⟩
 ·rcases zx q with ⟨rfl,h1,h2⟩ | ⟨h1,h2⟩
  ·cases h2
  ·obtain ⟨u,e1,e2⟩:=env.sh j e h2
   exact ⟨u,by rw [ϋ h1];exact e1,e2⟩
 ·rcases zx q with ⟨rfl,h1,h2⟩ | ⟨h1,h2⟩
  ·cases h2
   exact ⟨a,Ϸ (by lia),h0,hr,ha,hc,hi⟩
  ·obtain ⟨b,e1,e2⟩:=env.ow j e h2
   exact ⟨b,by rw [ϋ h1];exact e1,e2⟩
 ·rcases zx q1 with ⟨rfl,h1,h2⟩ | ⟨h1,h2⟩
  ·rcases zx q2 with ⟨rfl,h3,h4⟩ | ⟨h3,h4⟩
   ·rfl
   ·rw [Ϸ (by lia)] at q3
    cases q3
    rw [ϋ h3] at q4
    exact absurd q4 (ne j' e' h4 (fY h3))
  ·rcases zx q2 with ⟨rfl,h3,h4⟩ | ⟨h3,h4⟩
   ·rw [Ϸ (by lia)] at q4
    cases q4
    rw [ϋ h1] at q3
    exact absurd q3 (ne j e h2 (fY h1))
   ·rw [ϋ h1] at q3
    rw [ϋ h3] at q4
    exact env.inj j j' e e' b h2 h4 q3 q4
theorem uY {Q:L2.St->Hp->Prop}{H:Hp}{g:G}:∀ {is:List Nat}{ds:List D}{vs:List V}{ρ:List Slot}{σ:L2.St},is.length=ds.length->Hass Γ g ds vs->EnvO Γ Hz H g ρ σ ->
  (∀ σ',EnvO Γ Hz H g ((is.zip ds).foldl (fun r p=>r.set p.1 (.sh p.2)) ρ) σ'->Q σ' H)->ZX is vs σ H Q
 | [],[],vs,ρ,σ,_,h,env,q=>by
  cases (show vs=[] from h)
  exact ⟨rfl,q σ env⟩
 | i::is,d::ds,vs,ρ,σ,hl,⟨v,r,e,hd,hr⟩,env,q=>by
  subst e
  exact ⟨v,r,rfl,uY (by simpa using hl) hr (env.setSh hd) q⟩
 | [],_::_,_,_,_,hl,_,_,_=>by simp at hl
 | _::_,[],_,_,_,hl,_,_,_=>by simp at hl
theorem uq {K:W.Frag}{t:T}{ρ':List Slot}{H:Hp}{g:G}{σ:L2.St}{d:D}{fr:Bool}{v:V}{Q:L2.St->Hp->Prop}(hb:bindT ρ t (d,fr)=some ρ') (env:EnvO Γ Hz H g ρ σ) (sr:Same g.R H) (vo:VOk Γ Hz d fr v H g)
  (ne:fr=true->∀ (i:Nat) (d:D),ρ[i]?=some (.ow d)->σ[i]?≠some (some v)) (q:∀ σ',EnvO Γ Hz H g ρ' σ'->Q σ' H):tgOf K t v σ H Q:=by
 cases t with
 | one i=>
  simp only [bindT] at hb
  split at hb
  ·rename_i hc
   rw [ζ] at hc
   have hi:isIns d=false:=by simpa using hc.2
   cases hb
   refine q _ ?_
   cases fr with
   | false=>exact env.setSh vo
   | true=>
    obtain ⟨a,e,h0,hr,ha,hcell⟩:=(show ∃ a,v=.ref a/\Hz a=none/\g.R a=none/\a ∉ g.α/\zM Γ H g a d from vo)
    subst e
    exact env.setOw h0 hr ha hcell hi fun j d' h _=>ne rfl j d' h
  ·cases hb
 | tup is=>
  cases d with
  | tup ds=>
   simp only [bindT] at hb
   split at hb
   ·rename_i hc
    cases hb
    have hv:Has Γ g (.tup ds) v:=by
     cases fr with
     | false=>exact vo
     | true=>obtain ⟨_,_,_,_,_,hc⟩:=(show ∃ a,v=.ref a/\Hz a=none/\g.R a=none/\a ∉ g.α/\zM Γ H g a (.tup ds) from vo);exact hc.elim
    obtain ⟨a,vs,rfl,h1,h2⟩:=hv
    exact ⟨a,vs,rfl,SqT.of (sr _ _ h1),by rw [h2.len,hc.1],uY hc.1 h2 env q⟩
   ·cases hb
  | _=>simp [bindT] at hb
 | nst i is=>
  have hb:((nst2 d).bind fun p=>if i < ρ.length/\is.length=p.2.length/\is.Nodup/\is.all (· < ρ.length) then some ((is.zip p.2).foldl (fun r p=>r.set p.1 (.sh p.2)) (ρ.set i (.sh p.1))) else none)=some ρ':=by cases d <;> exact hb
  cases e:nst2 d with
  | none=>rw [e] at hb;cases hb
  | some p=>
   rw [e] at hb
   obtain ⟨y,ds⟩:=p
   have ed:=zcb e
   subst ed
   have hb:(if i < ρ.length/\is.length=ds.length/\is.Nodup/\is.all (· < ρ.length) then some ((is.zip ds).foldl (fun r p=>r.set p.1 (.sh p.2)) (ρ.set i (.sh y))) else none)=some ρ':=hb
   by_cases hc:i < ρ.length/\is.length=ds.length/\is.Nodup/\is.all (· < ρ.length)
   ·rw [if_pos hc] at hb
    cases hb
    have hv:Has Γ g (.tup [y,.tup ds]) v:=by
     cases fr with
     | false=>exact vo
     | true=>obtain ⟨_,_,_,_,_,hc⟩:=(show ∃ a,v=.ref a/\Hz a=none/\g.R a=none/\a ∉ g.α/\zM Γ H g a (.tup [y,.tup ds]) from vo);exact hc.elim
    obtain ⟨a,vs,rfl,h1,h2⟩:=hv
    obtain ⟨u,u2,rfl,h3,h4⟩:=h2.two
    obtain ⟨b,ws,rfl,h5,h6⟩:=h4
    exact ⟨a,_,rfl,SqT.of (sr _ _ h1),rfl,u,_,rfl,.ref b,[],rfl,b,ws,rfl,SqT.of (sr _ _ h5),by rw [h6.len,hc.2.1],uY hc.2.1 h6 (env.setSh h3) fun σ' env'=>⟨rfl,q σ' env'⟩⟩
   ·rw [if_neg hc] at hb;cases hb
end
structure ItOk (Γ:Gm) (J:It) (l:List D) (g:G):Prop where
 go:∀ (i:Nat) (H:Hp) (g':G),Le g g'->Same g'.R H->i < l.length->J.go i H
 stop:∀ (i:Nat) (H:Hp) (g':G),Le g g'->Same g'.R H->l.length<=i->J.stop i H
 yld:∀ (i:Nat) (H:Hp) (g':G) (S:Store) (z:V) (H':Hp) (d:D),Le g g'->WOk Γ H g' S->l[i]?=some d->J.yld i H z H'->∃ g2,Step H g' H' g2/\Same H H'/\WOk Γ H' g2 S/\Has Γ g2 d z
theorem ym:∀ (n:Nat) (l:List D),(enumD n l).length=l.length
 | _,[]=>rfl
 | n,d::l=>by show (enumD (n+1) l).length+1=_;rw [ym];rfl
theorem WR:∀ (n:Nat) (l:List D) (i:Nat) (d:D),(enumD n l)[i]?=some d->∃ d0,l[i]?=some d0/\d=.tup [.int ((n+i:Nat):Int),d0]
 | _,[],i,d,h=>by simp [enumD] at h
 | n,x::l,0,d,h=>by
  have h:some (D.tup [.int n,x])=some d:=h
  cases h
  exact ⟨x,rfl,rfl⟩
 | n,x::l,i+1,d,h=>by
  have h:(enumD (n+1) l)[i]?=some d:=by simpa [enumD] using h
  obtain ⟨d0,e1,e2⟩:=WR (n+1) l i d h
  refine ⟨d0,by simpa using e1,?_⟩
  rw [e2,show n+1+i=n+(i+1) by lia]
def TXi (Γ:Gm) (cf:Cf) (e:E):TI:=fun σ H Q=>∃ ρ S W g Hz,wpI cf ρ e W S/\WOk Γ H g S/\EnvO Γ Hz H g ρ σ/\∀ l J H' g' S',Step H g H' g'->WOk Γ H' g' S'->ItOk Γ J l g'->W l S'->Q J H'
def TXf (Γ:Gm) (cf:Cf) (es:List E):TT:=fun σ H Q=>∃ ρ S W g Hz,wpF cf ρ es W S/\WOk Γ H g S/\EnvO Γ Hz H g ρ σ/\∀ b H' g' S',Step H g H' g'->WOk Γ H' g' S'->W b S'->Q b H'
theorem goI {Γ:Gm}{cf:Cf}{σ:L2.St}{H:Hp}{P:Prop}{e:E}{Q} (h:TXi Γ cf e σ H Q) (f:∀ ρ S W g Hz,wpI cf ρ e W S->WOk Γ H g S->EnvO Γ Hz H g ρ σ->(∀ l J H' g' S',Step H g H' g'->WOk Γ H' g' S'->ItOk Γ J l g'->W l S'->Q J H')->P):P:=
 let ⟨ρ,S,V,g,Hz,a,b,c,d⟩:=h;f ρ S V g Hz a b c d
theorem goF {Γ:Gm}{cf:Cf}{σ:L2.St}{H:Hp}{P:Prop}{es:List E}{Q} (h:TXf Γ cf es σ H Q) (f:∀ ρ S W g Hz,wpF cf ρ es W S->WOk Γ H g S->EnvO Γ Hz H g ρ σ->(∀ b H' g' S',Step H g H' g'->WOk Γ H' g' S'->W b S'->Q b H')->P):P:=
 let ⟨ρ,S,V,g,Hz,a,b,c,d⟩:=h;f ρ S V g Hz a b c d
section
variable {X:Cx}{Γ:Gm}{S:Store}{x y z tgt:Expr}{pos p tp:Pos}{cf:Cf}{a b:E}{elts:List Expr}{kk:Nat}
theorem PI.imp {wi wi':TI}(h:PI X tgt x wi) (i:∀ σ H Q,wi' σ H Q->wi σ H Q):PI X tgt x wi':=fun pJ s σ H Q I q=>h pJ s σ H Q I (i σ H Q q)
theorem zaQ {a:Addr}{vs:List V}{l:List D}{g:G}(h:∀ g',Le g g'->∀ H,Same g'.R H->SqL X.K H a vs) (hh:Hass Γ g l vs):ItOk Γ (Itl X.K a) l g where
 go:=fun i H g' le sr hi=>⟨vs,vs[i]'(by rw [hh.len];exact hi),h g' le H sr,by simp [hh.len,hi]⟩
 stop:=fun i H g' le sr hi=>⟨vs,h g' le H sr,by rw [hh.len];exact hi⟩
 yld:=fun i H g' S z H' d le w hd y=>by
  obtain ⟨e,y⟩:=y
  subst e
  obtain ⟨v,hv,hd'⟩:=hh.get hd
  have e2:=y vs (h g' le _ w.rh)
  rw [hv] at e2
  cases e2
  exact ⟨g',Step.refl _ _,Same.refl _,w,hd'.mono le⟩
theorem zaO {a:Addr}{vs:List V}{l:List D}{g:G}(h:∀ g',Le g g'->∀ H,Same g'.R H->SqT X.K H a vs) (hh:Hass Γ g l vs):ItOk Γ (Itt X.K a) l g where
 go:=fun i H g' le sr hi=>⟨vs,vs[i]'(by rw [hh.len];exact hi),h g' le H sr,by simp [hh.len,hi]⟩
 stop:=fun i H g' le sr hi=>⟨vs,h g' le H sr,by rw [hh.len];exact hi⟩
 yld:=fun i H g' S z H' d le w hd y=>by
  obtain ⟨e,y⟩:=y
  subst e
  obtain ⟨v,hv,hd'⟩:=hh.get hd
  have e2:=y vs (h g' le _ w.rh)
  rw [hv] at e2
  cases e2
  exact ⟨g',Step.refl _ _,Same.refl _,w,hd'.mono le⟩
theorem zeC {z:Str}{g:G}:ItOk Γ (Its z) (z.cps.toList.map fun c=>D.str ⟨#[c]⟩) g where
 go:=fun i H g' le sr hi=>by
  show i < z.cps.size
  simpa using hi
 stop:=fun i H g' le sr hi=>by
  show z.cps.size<=i
  simpa using hi
 yld:=fun i H g' S v H' d le w hd y=>by
  obtain ⟨e,c,e1,e2⟩:=y
  subst e e2
  refine ⟨g',Step.refl _ _,Same.refl _,w,?_⟩
  rw [Ψ,bC,e1] at hd
  cases hd
  rfl
theorem zaP {lo:Int}{n:Nat}{g:G}:ItOk Γ (Itr lo n) ((ϩ n).map fun (k:Nat)=>D.int (lo+(k:Int))) g where
 go:=fun i H g' le sr hi=>by
  show i < n
  simpa using hi
 stop:=fun i H g' le sr hi=>by
  show n<=i
  simpa using hi
 yld:=fun i H g' S z H' d le w hd y=>by
  obtain ⟨e,y⟩:=y
  subst e y
  refine ⟨g',Step.refl _ _,Same.refl _,w,?_⟩
  rw [Ψ] at hd
  cases q:(ϩ n)[i]? with
  | none=>rw [q] at hd;cases hd
  | some j=>
   rw [q] at hd
   cases hd
   have:=(Ζ.mp q).2
   simp at this
   subst this
   rfl
theorem Xu {l:List D}{vs:List V}{g g':G}{H:Hp}{i:Nat}{d:D}{a:Addr}{y:V}(hh:Hass Γ g l vs) (le:Le g g') (w:WOk Γ H g' S) (hd:(enumD 0 l)[i]?=some d) (ha:H a=none) (hy:vs[i]?=some y):
  ∃ g2,Step H g' (upd H a (.tup [.int i,y])) g2/\Same H (upd H a (.tup [.int i,y]))/\WOk Γ (upd H a (.tup [.int i,y])) g2 S/\Has Γ g2 d (.ref a):=by
 obtain ⟨d0,e1,e2⟩:=WR 0 l i d hd
 obtain ⟨v,hv,hd'⟩:=hh.get e1
 rw [hy] at hv
 cases hv
 have hr:=w.notR ha
 refine ⟨g'.put a (.tup [.int i,y]),(Step.of_same (yc ha) (Le.refl g') (fun _ h=>.inl h) fun _ h=>.inl h).put hr ha,yc ha,(w.laid ha).put zj hr (w.notA ha),?_⟩
 rw [e2,show 0+i=i by lia]
 exact ⟨a,[.int i,y],rfl,zj,.int i,[y],rfl,rfl,y,[],rfl,(hd'.mono le).mono (Le.put hr),rfl⟩
theorem zeF {a:Addr}{vs:List V}{l:List D}{g:G}(h:∀ g',Le g g'->∀ H,Same g'.R H->SqL X.K H a vs) (hh:Hass Γ g l vs):ItOk Γ (Ite X.K a) (enumD 0 l) g where
 go:=fun i H g' le sr hi=>by
  rw [ym] at hi
  exact ⟨vs,vs[i]'(by rw [hh.len];exact hi),h g' le H sr,by simp [hh.len,hi]⟩
 stop:=fun i H g' le sr hi=>by
  rw [ym] at hi
  exact ⟨vs,h g' le H sr,by rw [hh.len];exact hi⟩
 yld:=fun i H g' S z H' d le w hd yy=>by
  obtain ⟨p,y,hp,rfl,rfl,hy⟩:=yy
  exact Xu hh le w hd hp (hy vs (h g' le _ w.rh))
theorem zeE {a:Addr}{vs:List V}{l:List D}{g:G}(h:∀ g',Le g g'->∀ H,Same g'.R H->SqT X.K H a vs) (hh:Hass Γ g l vs):ItOk Γ (Itet X.K a) (enumD 0 l) g where
 go:=fun i H g' le sr hi=>by
  rw [ym] at hi
  exact ⟨vs,vs[i]'(by rw [hh.len];exact hi),h g' le H sr,by simp [hh.len,hi]⟩
 stop:=fun i H g' le sr hi=>by
  rw [ym] at hi
  exact ⟨vs,h g' le H sr,by rw [hh.len];exact hi⟩
 yld:=fun i H g' S z H' d le w hd yy=>by
  obtain ⟨p,y,hp,rfl,rfl,hy⟩:=yy
  exact Xu hh le w hd hp (hy vs (h g' le _ w.rh))
theorem s_seq (hK:X.K=Γ.K) (h:PE X x (TX Γ cf a)):PI X tgt x (TXi Γ cf (.seq a)):=
 PI.imp (zdQ h) fun σ H Q h0=>goI h0 fun ρ S W g Hz hw w env k=>⟨ρ,S,_,g,Hz,hw,w,env,fun x v H1 g1 S1 st w1 vx h=>by
  obtain ⟨g2,st2,w2,hx,q⟩:=vx.keep st w1 h
  obtain ⟨l,el,q⟩:=zO q
  generalize x.1=d at *
  cases d with
  | lst l'=>
   cases el
   obtain ⟨a,vs,e1,h1,h2⟩:=hx
   exact .inl ⟨a,e1,.inl ⟨⟨vs,SqL.of (w2.rh _ _ h1)⟩,k _ _ H1 g2 S1 st2 w2 (zaQ (fun g3 le H2 sr=>SqL.of (sr _ _ (le.rr _ _ h1))) h2) q⟩⟩
  | tup l'=>
   cases el
   obtain ⟨a,vs,e1,h1,h2⟩:=hx
   exact .inl ⟨a,e1,.inr ⟨⟨vs,SqT.of (w2.rh _ _ h1)⟩,k _ _ H1 g2 S1 st2 w2 (zaO (fun g3 le H2 sr=>SqT.of (sr _ _ (le.rr _ _ h1))) h2) q⟩⟩
  | scr ns=>
   cases el
   obtain ⟨a,e1,h1⟩:=hx
   exact .inl ⟨a,e1,.inl ⟨⟨_,by rw [hK];exact w2.rh.seq h1⟩,k _ _ H1 g2 S1 st2 w2 (zaQ (fun g3 le H2 sr=>by rw [hK];exact sr.seq (le.rr.seq h1)) Hass.ints) q⟩⟩
  | str z=>
   cases el
   exact .inr ⟨z,hx,k _ _ H1 g2 S1 st2 w2 zeC q⟩
  | ktp l'=>
   cases el
   obtain ⟨a,vs,e1,h1,h2⟩:=hx
   exact .inl ⟨a,e1,.inr ⟨⟨vs,by rw [hK];exact .inr h1⟩,k _ _ H1 g2 S1 st2 w2 (zaO (fun g3 le H2 sr=>by rw [hK];exact .inr h1) h2) q⟩⟩
  | _=>cases el⟩
theorem zdB (hK:X.K=Γ.K) (hg:Gl X "enumerate") (hm:X.mg "enumerate"=none) (hs:notStar x=true) (h:PE X x (TX Γ cf a)):PI X (.Tuple elts kk tp) (.Call (.Name "enumerate" p) [x] [] pos) (TXi Γ cf (.enum a)):=
 PI.imp (Qt hg hm rfl (zV h yV (zb hs _ _)) (zb hs _ _)) fun σ H Q h0=>goI h0 fun ρ S W g Hz hw w env k=>⟨ρ,S,_,g,Hz,hw,w,env,fun x v H1 g1 S1 st w1 vx h=>by
  obtain ⟨g2,st2,w2,hx,q⟩:=vx.keep st w1 h
  obtain ⟨l,el,q⟩:=zO q
  generalize x.1=d at *
  cases d with
  | lst l'=>
   cases el
   obtain ⟨a,vs,e1,h1,h2⟩:=hx
   exact ⟨a,by rw [e1],.inl ⟨⟨vs,SqL.of (w2.rh _ _ h1)⟩,k _ _ H1 g2 S1 st2 w2 (zeF (fun g3 le H2 sr=>SqL.of (sr _ _ (le.rr _ _ h1))) h2) q⟩⟩
  | tup l'=>
   cases el
   obtain ⟨a,vs,e1,h1,h2⟩:=hx
   exact ⟨a,by rw [e1],.inr ⟨⟨vs,SqT.of (w2.rh _ _ h1)⟩,k _ _ H1 g2 S1 st2 w2 (zeE (fun g3 le H2 sr=>SqT.of (sr _ _ (le.rr _ _ h1))) h2) q⟩⟩
  | _=>cases el⟩
theorem zds (hg:Gl X "range") (hm:X.mg "range"=none) (hs:notStar x=true) (h:PE X x (TX Γ cf a)):PI X tgt (.Call (.Name "range" p) [x] [] pos) (TXi Γ cf (.rng none a)):=
 PI.imp (UV hg hm (zV h yV (zb hs _ _)) (zb hs _ _)) fun σ H Q h0=>goI h0 fun ρ S W g Hz hw w env k=>⟨ρ,S,_,g,Hz,hw,w,env,fun x v H1 g1 S1 st w1 vx h=>by
  obtain ⟨j,e,q⟩:=vx.int h
  obtain ⟨hf,q⟩:=xu q
  rw [ζ] at hf
  have h1:j.toNat<=1000000:=of_decide_eq_true hf.1
  have h2:-1000000<=j:=of_decide_eq_true hf.2
  refine ⟨j,by rw [e],by lia,by lia,k _ _ H1 g1 S1 st w1 ?_ q⟩
  have:=zaP (Γ:=Γ) (lo:=0) (n:=(j - 0).toNat) (g:=g1)
  rw [show (j - 0).toNat=j.toNat by lia] at this
  rw [show zN 0 j=(ϩ j.toNat).map fun (k:Nat)=>D.int (0+(k:Int)) by unfold zN;rw [show (j - 0).toNat=j.toNat by lia]]
  exact this⟩
theorem zdr (hg:Gl X "range") (hm:X.mg "range"=none) (hs:notStar x=true) (hs2:notStar y=true) (hl:PE X x (TX Γ cf a)) (h:PE X y (TX Γ cf b)):PI X tgt (.Call (.Name "range" p) [x,y] [] pos) (TXi Γ cf (.rng (some a) b)):=
 PI.imp (UT hg hm (zV hl (zV h yV (zb hs2 _ _)) (zb hs _ _)) (by rw [zb hs,zb hs2];rfl) (zb hs2 _ _)) fun σ H Q h0=>goI h0 fun ρ S W g Hz hw w env k=>two (G1:=fun u v H'=>∃ i j:Int,[u,v]=[.int i,.int j]/\(-(2 ^ 62)<=i/\i < 2 ^ 62/\-(2 ^ 62)<=j/\j < 2 ^ 62)/\Q (Itr i (j - i).toNat) H') hw w env fun x y u v H' g' S' st w' vx vy h=>by
  obtain ⟨l,e,h⟩:=vx.int h
  obtain ⟨j,e2,h⟩:=vy.int h
  obtain ⟨hf,q⟩:=xu h
  simp only [ζ,decide_eq_true_eq] at hf
  exact ⟨l,j,by rw [e,e2],⟨by omega,by omega,by omega,by omega⟩,k _ _ H' g' S' st w' zaP q⟩
theorem s_fn:PTs X [] (TXf Γ cf []):=fun pJ s σ H Q I h0=>goF h0 fun ρ S W g Hz hw w env k=>zbJ pJ s σ H Q I (k true H g S (Step.refl H g) w hw)
theorem s_f1 (h:PT X x (TB Γ cf a)):PTs X [x] (TXf Γ cf [a]):=fun pJ s σ H Q I h0=>goF h0 fun ρ S W g Hz hw w env k=>zbI h pJ s σ H Q I ⟨ρ,S,_,g,Hz,hw,w,env,fun x H1 g1 S1 st w1 h=>by
 obtain ⟨b,e,q⟩:=wG h
 rw [e]
 exact k b H1 g1 S1 st w1 q⟩
end
theorem WL {α β:Type}{f:α->β}:∀ (l:List (Nat×α)) (r:List β) (i:Nat),(∀ p∈l,p.1≠i)->(l.foldl (fun r p=>r.set p.1 (f p.2)) r)[i]?=r[i]?
 | [],_,_,_=>rfl
 | p::l,r,i,h=>by
  rw [dB,WL l _ i fun q hq=>h q (θ _ hq),ϋ (h p μ)]
theorem WK {α β:Type}{f:α->β}:∀ (l:List (Nat×α)) (r:List β),(l.foldl (fun r p=>r.set p.1 (f p.2)) r).length=r.length
 | [],_=>rfl
 | p::l,r=>by rw [dB,WK l,b8]
theorem Vz {ρ ρ':List Slot}{t:T}{d:D}(hn:isNst t=false) (h:bindT ρ t (d,false)=some ρ'):ρ'.length=ρ.length/\∀ i,i ∉ tIs t->ρ'[i]?=ρ[i]?:=by
 cases t with
 | one j=>
  simp only [bindT] at h
  split at h
  ·cases h
   exact ⟨by simp,fun i hi=>by rw [ϋ];rintro rfl;exact hi (by simp [tIs])⟩
  ·cases h
 | tup is=>
  cases d with
  | tup ds=>
   simp only [bindT] at h
   split at h
   ·cases h
    refine ⟨WK _ _,fun i hi=>WL _ _ i fun p hp=>?_⟩
    rintro rfl
    obtain ⟨p1,p2⟩:=p
    exact hi (eQ hp).1
   ·cases h
  | _=>simp [bindT] at h
 | nst _ _=>cases hn
theorem uX {ρ:List Slot}{t:T}{js:List Nat}{i:Nat}{s:Slot}(h:(inn ρ t js)[i]?=some s):s=.no\/(nT t<=i/\∃ j,js[i - nT t]?=some j/\ρ[j]?=some s):=by
 unfold inn at h
 by_cases hi:i < nT t
 ·rw [ϒ (by simpa using hi),dF,if_pos hi] at h
  cases h;exact .inl rfl
 ·rw [ϖ (by simpa using lK hi),gB,Ψ] at h
  cases e:js[i - nT t]? with
  | none=>rw [e] at h;cases h
  | some j=>
   rw [e] at h
   cases q:ρ[j]? with
   | none=>simp [q] at h;exact .inl h.symm
   | some z=>simp [q] at h;subst h;exact .inr ⟨by lia,j,rfl,q⟩
theorem vZ {σ:L2.St}{js:List Nat}{n i j:Nat}{v:V}(hi:n<=i) (hj:js[i - n]?=some j) (h:σ[j]?=some (some v)):(ς n none++rows σ js)[i]?=some (some v):=by
 rw [ϖ (by simpa using hi),gB]
 unfold rows
 rw [Ψ,hj]
 simp [aF,h]
section
variable {Γ:Gm}{Hz H:Hp}{g:G}{ρ:List Slot}{σ τ:L2.St}{t:T}{js:List Nat}
theorem zcA (env:EnvO Γ Hz H g ρ σ) (hj:js.Nodup):EnvO Γ Hz H g (inn ρ t js) (ς (nT t) none++rows σ js):=by
 refine ⟨by simp [inn,rows],fun i d e=>?_,fun i d e=>?_,fun i j d e a h1 h2 h3 h4=>?_⟩
 ·rcases uX e with q | ⟨hi,j,e1,e2⟩
  ·cases q
  ·obtain ⟨v,h1,h2⟩:=env.sh j d e2
   exact ⟨v,vZ hi e1 h1,h2⟩
 ·rcases uX e with q | ⟨hi,j,e1,e2⟩
  ·cases q
  ·obtain ⟨a,h1,h2⟩:=env.ow j d e2
   exact ⟨a,vZ hi e1 h1,h2⟩
 ·rcases uX h1 with q | ⟨hi,k,e1,e2⟩
  ·cases q
  rcases uX h2 with q | ⟨hi',k',e1',e2'⟩
  ·cases q
  obtain ⟨b,q1,_⟩:=env.ow k d e2
  obtain ⟨b',q1',_⟩:=env.ow k' e e2'
  have z:=vZ hi e1 q1
  have z':=vZ hi' e1' q1'
  rw [h3] at z
  rw [h4] at z'
  cases z
  cases z'
  have hk:=env.inj k k' d e a e2 e2' q1 q1'
  subst hk
  have:=(oV (Ζ.mp e1).1 hj).mp (e1.trans e1'.symm)
  lia
theorem WP {ρ':List Slot}{d:D}(hn:isNst t=false) (hix:∀ i∈tIs t,i < nT t) (hs:bindT (inn ρ t js) t (d,false)=some ρ') (env:EnvO Γ Hz H g ρ' τ):EnvO Γ Hz H g (inn ρ t js) τ:=by
 obtain ⟨h1,h2⟩:=Vz hn hs
 have key:∀ i s,(inn ρ t js)[i]?=some s->s≠Slot.no->ρ'[i]?=some s:=fun i s e ne=>by
  rw [h2 i fun m=>?_]
  ·exact e
  ·rcases uX e with q | ⟨hi,_⟩
   ·exact ne q
   ·have:=hix i m;lia
 exact ⟨h1.symm.trans env.len,fun i d e=>env.sh i d (key i _ e (by simp)),fun i d e=>env.ow i d (key i _ e (by simp)),fun i j d e a q1 q2 q3 q4=>env.inj i j d e a (key i _ q1 (by simp)) (key j _ q2 (by simp)) q3 q4⟩
end
section
variable {X:Cx}{Γ:Gm}{cf:Cf}{t:T}{js:List Nat}{it elt:E}{ifs:List E}
def cStep (cf:Cf) (ρ:List Slot) (t:T) (js:List Nat) (ifs:List E) (elt:E):D->(Option D->Store->Prop)->Store->Prop:=fun d K S=>opt (bindT (inn ρ t js) t (d,false)) fun ρ'=>wpF cf ρ' ifs (fun b S1=>tst b (wpE cf ρ' elt (fun x S2=>keep x fun d=>K (some d) S2) S1) (K none S1)) S
theorem Q8 {n:Nat}{Qe:Addr->Hp->Prop}{σ:L2.St}{H:Hp}{V:Po}{ρ:List Slot}{S:Store}{g:G}{Hz:Hp}(hn:isNst t=false) (hix:∀ i∈tIs t,i < nT t) (ht:nT t=n) (hjs:js.Nodup) (hw:wpE cf ρ (.comp t js it ifs elt) V S) (w:WOk Γ H g S) (env:EnvO Γ Hz H g ρ σ)
  (k:∀ ds Da H' g' S',Step H g H' g'->WOk Γ H' g' S'->VN Γ H (.lst ds,.fr) (.ref Da) H' g'->V (.lst ds,.fr) S'->Qe Da H'):jx n js (TXi Γ cf it) (tgOf X.K t) (TXf Γ cf ifs) (TX Γ cf elt) Qe σ H:=by
 subst ht
 refine ⟨ρ,S,_,g,Hz,hw,w,env,fun l J H1 g1 S1 st1 w1 hJ h1 Da hDa=>?_⟩
 have h1:walkW (cStep cf ρ t js ifs elt) l [] (fun ds S2=>V (.lst ds,.fr) S2) S1:=h1
 refine ⟨fun i m ys τ H2=>m=l.length - i/\i<=l.length/\∃ g2 S2 acc,Step H1 g1 H2 g2/\WOk Γ H2 g2 S2/\EnvO Γ (upd Hz Da (.lst [])) H2 g2 (inn ρ t js) τ/\H2 Da=some (.lst ys)/\g2.R Da=none/\Da ∉ g2.α/\Hass Γ g2 acc ys/\fits acc.length=true/\walkW (cStep cf ρ t js ifs elt) (l.drop i) acc (fun ds S2=>V (.lst ds,.fr) S2) S2,⟨_,rfl,bA _,g1,S1,[],?_⟩,?_⟩
 ·have st:=(Step.refl H1 g1).zG (o:=.lst []) hDa
  have e1:=zp (zcA (t:=t) env hjs) st1
  refine ⟨st,w1.laid hDa,zp ⟨e1.len,e1.sh,fun i d e=>?_,e1.inj⟩ st,zj,w1.notR hDa,w1.notA hDa,rfl,rfl,h1⟩
  obtain ⟨b,f1,f2,f3,f4,f5,f6⟩:=e1.ow i d e
  obtain ⟨o,ho,_⟩:=f5.isMut
  exact ⟨b,f1,by rw [zf (zg ho hDa)];exact f2,f3,f4,f5,f6⟩
 ·rintro i m ys τ H2 ⟨rfl,hi,g2,S2,acc,st2,w2,env2,hD2,hR2,hA2,hh2,hf2,hr2⟩
  by_cases hlt:i < l.length
  ·refine .inr ⟨hJ.go i H2 g2 st2.le w2.rh hlt,fun z H3 hy=>?_⟩
   obtain ⟨g3,st3,_,w3,hz⟩:=hJ.yld i H2 g2 S2 z H3 l[i] st2.le w2 (χ hlt) hy
   rw [c7 hlt] at hr2
   obtain ⟨hD3,hR3,hA3⟩:=st3.kept hD2 hR2 hA2
   obtain ⟨ρ',es,hr3⟩:=zO (show opt (bindT (inn ρ t js) t (l[i],false)) _ from hr2)
   refine uq es (zp env2 st3) w3.rh (fr:=false) hz (fun h=>by cases h) fun τ3 env3=>⟨ρ',S2,_,g3,_,hr3,w3,env3,fun b H4 g4 S4 st4 w4 h4=>?_⟩
   obtain ⟨hD4,hR4,hA4⟩:=st4.kept hD3 hR3 hA3
   cases b with
   | false=>
    rw [if_neg ϗ]
    exact ⟨l.length - (i+1),by omega,rfl,hlt,g4,S4,acc,(st2.trans st3).trans st4,w4,WP hn hix es (zp env3 st4),hD4,hR4,hA4,hh2.mono (st3.le.trans st4.le),hf2,h4⟩
   | true=>
    rw [if_pos rfl]
    refine ⟨ρ',S4,_,g4,_,h4,w4,zp env3 st4,fun x v H5 g5 S5 st5 w5 vx h5=>?_⟩
    obtain ⟨g6,st6,w6,hx,q⟩:=vx.keep st5 w5 h5
    obtain ⟨hf,q⟩:=xu q
    obtain ⟨hD5,hR5,hA5⟩:=st6.kept hD4 hR4 hA4
    have st7:=(((st2.trans st3).trans st4).trans st6).zG (o:=.lst (ys++[v])) hDa
    have env6:=WP hn hix es (zp (zp env3 st4) st6)
    refine ⟨hD5,by rw [hh2.len];exact zaL hf2,l.length - (i+1),by omega,rfl,hlt,g6,S5,acc++[x.1],st7,w6.zG hR5 hA5,?_,zj,hR5,hA5,(hh2.mono ((st3.le.trans st4.le).trans st6.le)).app (Hass.mk1 hx),by rw [Ϗ];exact hf,q⟩
    refine ⟨env6.len,env6.sh,fun i d e=>?_,env6.inj⟩
    obtain ⟨b,f1,f2,f3,f4,f5,f6⟩:=env6.ow i d e
    have hb:b≠Da:=by
     rintro rfl
     rw [zj] at f2;cases f2
    exact ⟨b,f1,f2,f3,f4,f5.mono (Le.refl g6) fun o z=>by rw [zf hb];exact z,f6⟩
  ·have e:i=l.length:=by omega
   subst e
   refine .inl ⟨hJ.stop _ H2 g2 st2.le w2.rh (π _),?_⟩
   rw [List.drop_length] at hr2
   exact k acc Da H2 g2 S2 (st1.trans st2) w2 ⟨Da,rfl,st1.Wj hDa,hR2,hA2,ys,hD2,hh2⟩ hr2
end
end EV
namespace L2
open PySem PyProof PyProof.Rows PySem.W
variable {X:Cx}{x st:Expr}{te ts:TE}{p2 pos:Pos}
end L2
namespace EV
open PySem PySem.Spec PyProof.Rows L2
def spN (Γ:Gm) (cf:Cf) (f n:Nat):Sp:=fun vs H Q _=>vs.length=n/\∃ g ds S V,WOk Γ H g S/\Hass Γ g ds vs/\cf f ds V S/\∀ x v H' g' S',Step H g H' g'->WOk Γ H' g' S'->VN Γ H x v H' g'->V x S'->Q v H'
def CfN (B:Tb) (cf:Cf):Prop:=∀ f ds V S ps,B.pars[f]?=some ps->cf f ds V S->ds.length=ps.length
theorem ZF:∀ (kvs acc:List (Key×V)),(acc++kvs).map (·.1) |>.Nodup->vN acc kvs=acc++kvs
 | [],acc,_=>by simp [vN]
 | p::r,acc,h=>by
  have hn:¬ (acc.any fun kv=>decide (kv.1=p.1))=true:=by
   intro q
   rw [f9] at q
   obtain ⟨kv,hm,he⟩:=q
   have he:=of_decide_eq_true he
   rw [aW,aV] at h
   exact h.2.2 kv.1 (eY hm) p.1 (by simp) he
  have e:putK acc p.1 p.2=acc++[p]:=by
   unfold putK
   rw [if_neg hn]
  show vN (putK acc p.1 p.2) r=_
  rw [e,ZF r (acc++[p]) (by simpa using h)]
  simp
section
variable {X:Cx}{Γ:Gm}{B:Tb}{cf:Cf}{k:Nat}{c:Cc}{x y z:Expr}{pos p:Pos}{a:E}{es:List E}
theorem yD {xs:List Expr}{env:Env}{pos:Pos}(h:∀ x∈xs,notStar x=true):(eV pos (Ϥ xs env)).any (·.1)=false:=by
 induction xs with
 | nil=>rfl
 | cons a l ih=>
  rw [zb (h a μ)]
  show (false||(eV pos (Ϥ l env)).any (·.1))=false
  rw [ih fun z hz=>h z (θ _ hz)]
  rfl
set_option tactic.hygienic true in
theorem zcM (b:BI):cI (biS b)=some (biV b):=by
 cases b with
 | isinst q=>cases q <;> decide +kernel
 | _=>decide +kernel
theorem s_call {f:Nat}{n:Str}{xs:List Expr}(hcf:CfN B cf) (ok:XOk Γ B (spN Γ cf) k X c) (hf:B.fns[f]?=some n) (hg:Gl X n) (hdb:(n==("__debug__":Str))=false) (hs:∀ z∈x::xs,notStar z=true) (h:PA X (x::xs) (TXs Γ cf es)):PE X (.Call (.Name n p) (x::xs) [] pos) (TX Γ cf (.call f es)):=by
 obtain ⟨a,fd,ps,h1,h2,h3,h4,h5,h6,_⟩:=(ok.fns f n hf).ex
 refine (zbV h6 ok.room hg h2 h3 h4 .nil pass0 h hdb (zb (hs x μ) _ _) (yD fun z hz=>hs z (θ _ hz))).imp fun σ H Q h0=>goX h0 fun ρ S V g Hz hw w env kk=>⟨ρ,S,_,g,Hz,hw,w,env,fun ds vs H1 g1 S1 st w1 hv hc=>?_⟩
 show spN Γ cf f ps.length (vs++[]) _ _ _
 rw [Υ]
 exact ⟨by rw [hv.len];exact hcf f ds V S1 ps h5 hc,g1,ds,S1,V,w1,hv,hc,fun x v H2 g2 S2 st2 w2 vx q=>kk x v H2 g2 S2 (st.trans st2) w2 (vx.back st) q⟩
theorem zeN {d:D}{Q:Nat->Prop}(h:isF d Q):∃ f,d=.fn f/\Q f:=by
 cases d with
 | fn f=>exact ⟨f,rfl,h⟩
 | _=>exact h.elim
theorem QB {n:Str}{xs:List Expr}{te:TE}{t:TA}(he:PE X (.Name n p) te) (ha:PA X (x::xs) t) (hs:Ϥ (x::xs) X.env=(false,eval x X.env)::Ϥ xs X.env) (hpl:(eV pos (Ϥ xs X.env)).any (·.1)=false):
  PE X (.Call (.Name n p) (x::xs) [] pos) (fun σ H Q=>te σ H fun v H1=>∃ f k fd ps sp,v=.ref f/\W.keepIn X.K (.ref f)=true/\FnOk X.prog X.w X.K X.mg X.base CX0 k f fd ps sp/\Room k X.A/\Binds X.K fd ps []/\t σ H1 fun vs H2=>sp (vs++[]) H2 Q E0):=by
 intro pJ s σ H Q I h
 refine dU (thn (he pJ s σ H _ I h) fun u s1 ⟨v,H1,I1,r,f,k,fd,ps,sp,ev,hk,F,hr,hb,q⟩=>?_)
 subst ev
 cases (show u=Ε f from r)
 refine W.callWith_K (h₀:=X.base) I1.ok.mod.kin hk (thn (ha pos pJ s1 σ H1 _ I1 q) fun us s2 ⟨vs,H2,I2,r2,q2⟩=>⟨I2.kIn,?_⟩) hs hpl
 exact zax F hr hb .nil pass0 I2 r2 q2
theorem zby {i:Nat}{n:Str}{xs:List Expr}(hcf:CfN B cf) (ok:XOk Γ B (spN Γ cf) k X c) (hN:X.N[i]?=some n) (hv:Vis X.env.scope n) (hd:(n==("__debug__":Str))=false) (hcd:(n==("__classdict__":Str))=false) (hs:∀ z∈x::xs,notStar z=true) (h:PA X (x::xs) (TXs Γ cf es)):PE X (.Call (.Name n p) (x::xs) [] pos) (TX Γ cf (.callv i es)):=by
 refine (QB (s_var (cf:=cf) (Γ:=Γ) hN hv hd hcd) h (zb (hs x μ) _ _) (yD fun z hz=>hs z (θ _ hz))).imp fun σ H Q h0=>goX h0 fun ρ S V g Hz hw w env kk=>⟨ρ,S,(fun y S1=>isF y.1 fun f=>wpEs cf ρ es (fun ds S2=>cf f ds V S2) S1),g,Hz,hw,w,env,fun y v H1 g1 S1 st w1 vx h1=>?_⟩
 obtain ⟨f,ef,h1⟩:=zeN h1
 have hr:=vx.rdb w1
 rw [ef] at hr
 obtain ⟨a,ea,rfl⟩:=hr
 obtain ⟨m,hm⟩:=ok.fa f a ea
 obtain ⟨a',fd,ps,g1',g2,g3,g4,g5,g6,_⟩:=(ok.fns f m hm).ex
 have eq:a'=a:=ϛ (g1'.symm.trans ea)
 subst eq
 refine ⟨a',k,fd,ps,spN Γ cf f ps.length,rfl,g3,g6,ok.room,g4,ρ,S1,_,g1,Hz,h1,w1,zp env st,fun ds vs H2 g2 S2 st2 w2 hv hc=>?_⟩
 show spN Γ cf f ps.length (vs++[]) _ _ _
 rw [Υ]
 exact ⟨by rw [hv.len];exact hcf f ds V S2 ps g5 hc,g2,ds,S2,V,w2,hv,hc,fun x v H3 g3 S3 st3 w3 vx q=>kk x v H3 g3 S3 ((st.trans st2).trans st3) w3 (vx.back (st.trans st2)) q⟩
theorem zdz:PK X [] (TXs Γ cf []):=fun pos pJ s σ H Q I h0=>goS h0 fun ρ S W g Hz hw w env kk=>zdP pos pJ s σ H Q I (kk [] [] H g S (Step.refl H g) w rfl hw)
theorem zbv {n:Str}{kp:Pos}{kws:List bG}(h1:PE X x (TX Γ cf a)) (h2:PK X kws (TXs Γ cf es)):PK X (⟨some n,x,kp⟩::kws) (TXs Γ cf (a::es)):=fun pos pJ s σ H Q I h=>zbR h1 h2 pos pJ s σ H Q I (args_cons h)
theorem Jq {g:G}{ds ds':List D}{vs:List V}{perm:List Nat}(h:perm.mapM (fun i=>ds[i]?)=some ds') (hv:Hass Γ g ds vs):Hass Γ g ds' (perm.map fun i=>vs.getD i .non):=by
 induction perm generalizing ds' with
 | nil=>
  simp at h
  subst h
  rfl
 | cons i r ih=>
  rw [List.mapM_cons] at h
  cases e:ds[i]? with
  | none=>rw [e] at h;cases h
  | some d=>
   rw [e] at h
   simp only [Option.bind_eq_bind,iW] at h
   cases e2:r.mapM (fun i=>ds[i]?) with
   | none=>rw [e2] at h;cases h
   | some l=>
    rw [e2] at h
    cases h
    obtain ⟨v,hv',hd⟩:=hv.get e
    refine ⟨v,_,?_,hd,ih e2⟩
    simp [aF,hv']
theorem zcm {kws:List bG}{ks:List Str}{env:Env}{pos:Pos}(h:yo kws=some ks):(cR pos (aL kws env)).all (·.1.isSome)=true/\(cR pos (aL kws env)).filterMap (·.1)=ks/\(cR pos (aL kws env)).any (·.1.isNone)=false:=by
 induction kws generalizing ks with
 | nil=>cases h;exact ⟨rfl,rfl,rfl⟩
 | cons q r ih=>
  obtain ⟨n,v,kp⟩:=q
  cases n with
  | none=>cases h
  | some n=>
   simp only [yo,Ι] at h
   obtain ⟨l,h1,h2⟩:=h
   subst h2
   obtain ⟨i1,i2,i3⟩:=ih h1
   refine ⟨?_,?_,?_⟩
   ·show (true&&(cR pos (aL r env)).all (·.1.isSome))=true
    rw [i1];rfl
   ·show n::(cR pos (aL r env)).filterMap (·.1)=n::l
    rw [i2]
   ·show (false||(cR pos (aL r env)).any (·.1.isNone))=false
    rw [i3];rfl
theorem zbz {f:Nat}{n:Str}{kws:List bG}{ks ps:List Str}{perm:List Nat}(hm:Mono cf) (ok:XOk Γ B (spN Γ cf) k X c) (hf:B.fns[f]?=some n) (hg:Gl X n) (hdb:(n==("__debug__":Str))=false) (h:PK X kws (TXs Γ cf es))
  (hk:yo kws=some ks) (hp:B.pars[f]?=some ps) (h1:perm.length=ps.length) (h2:∀ i∈perm,i < ks.length) (h3:perm.map (fun i=>ks.getD i "")=ps) (h4:ks.length=ps.length) (h5:(f,ks,perm)∈B.kws) (h6:es.length=ks.length):PE X (.Call (.Name n p) [] kws pos) (TX Γ cf (.callk f perm es)):=by
 obtain ⟨a,fd,ps',g1,g2,g3,g4,g5,g6,g7⟩:=(ok.fns f n hf).ex
 have e5:ps'=ps:=ϛ (g5.symm.trans hp)
 subst e5
 obtain ⟨k1,k2,k3⟩:=zcm (env:=X.env) (pos:=pos) hk
 refine (U5 g6 ok.room hg g2 g3 (g7 ks perm h1 h2 h3 h4 h5) pass0 h k1 k2 hdb (by rw [k3];rfl)).imp fun σ H Q h0=>goX h0 fun ρ S V g Hz hw w env kk=>⟨ρ,S,_,g,Hz,Xz hm es hw,w,env,fun ds vs H1 g1 S1 st w1 hv ⟨hc,hl⟩=>?_⟩
 obtain ⟨ds',em,hc⟩:=zO hc
 have hz:vs.length=ks.length:=by rw [hv.len,hl,h6]
 show spN Γ cf f ps'.length (if vs.length=ks.length then []++perm.map fun i=>vs.getD i .non else []) _ _ _
 rw [if_pos hz,dz]
 exact ⟨by simp [h1],g1,ds',S1,V,w1,Jq em hv,hc,fun x v H2 g2 S2 st2 w2 vx q=>kk x v H2 g2 S2 (st.trans st2) w2 (vx.back st) q⟩
theorem bi_pe {b:BI}{xs:List Expr}{t:TA}{e:E}(ok:XOk Γ B (spN Γ cf) k X c) (hg:Gl X (biS b)) (hm:X.mg (biS b)=none) (hs:∀ z∈x::xs,notStar z=true) (h:PA X (x::xs) t) (i:∀ σ H Q,TX Γ cf e σ H Q->t σ H fun vs H1=>clAny X (biV b) vs H1 Q):PE X (.Call (.Name (biS b) p) (x::xs) [] pos) (TX Γ cf e):=by
 have hn:biS b≠("__name__":Str):=by
  cases b with
  | isinst q=>cases q <;> decide
  | _=>decide
 have hdb:(biS b==("__debug__":Str))=false:=by
  cases b with
  | isinst q=>cases q <;> decide
  | _=>decide
 have he:=zb (hs x μ) xs X.env
 have hpl:=yD (pos:=pos) (env:=X.env) fun z hz=>hs z (θ _ hz)
 have bb:=zcM b
 cases hb:biV b with
 | builtin id=>rw [hb] at bb i;exact (v5 jT hg hm bb h hn hdb he hpl).imp i
 | type T=>rw [hb] at bb i;exact (Zu jT hg hm bb h hn hdb he hpl).imp i
 | _=>cases b <;> cases hb
theorem s_is {t:Ty}{pz:Pos}(ok:XOk Γ B (spN Γ cf) k X c) (hg:Gl X "isinstance") (hm:X.mg "isinstance"=none) (hgt:Gl X (tyN t)) (hmt:X.mg (tyN t)=none) (hs:notStar x=true) (h:PE X x (TX Γ cf a)):PE X (.Call (.Name "isinstance" p) [x,.Name (tyN t) pz] [] pos) (TX Γ cf (.bi (.isinst t) [a])):=by
 have hvt:cI (tyN t)=some (.type (tyS t)):=by cases t <;> decide +kernel
 have hn:tyN t≠("__name__":Str):=by cases t <;> decide
 have hdb:(tyN t==("__debug__":Str))=false:=by cases t <;> decide
 refine (v5 (id:="isinstance") jT hg hm (by decide +kernel) (zV h (zV (zbW (v:=.ty (tyS t)) hgt hmt hvt rfl hn hdb) yV rfl) (zb hs _ _)) (by decide) (by decide) (zb hs _ _) rfl).imp fun σ H Q h0=>goX h0 fun ρ S V g Hz hw w env kk=>⟨ρ,S,_,g,Hz,hw,w,env,fun x v H1 g1 S1 st w1 vx h1=>?_⟩
 obtain ⟨⟨d,fr⟩,eb,q⟩:=zO h1
 have eb:(isTy t (deref S1 x.1)).map (fun b=>(D.bl b,false))=some (d,fr):=eb
 cases e2:isTy t (deref S1 x.1) with
 | none=>rw [e2] at eb;cases eb
 | some b=>
  rw [e2] at eb
  cases eb
  obtain ⟨r,r1,r2⟩:=zeK (X:=X) (Γ:=Γ) ok.hK e2
  exact ⟨r,r1,r2 S1 H1 g1 v Q w1 (vx.rdb w1) (kk (.bl b,.st) _ H1 g1 S1 st w1 rfl q)⟩
def PPd (X:Cx) (pos:Pos) (keys:List (Option Expr)) (vals:List Expr) (ks:List Key) (t:TA):Prop:=∃ trs,PPs X pos keys vals trs/\∀ σ H (Q:List (V×V)->Hp->Prop),t σ H (fun vs H'=>Q ((ks.zip vs).map fun kv=>(kV kv.1,kv.2)) H')->XQ trs σ H Q
theorem zdv:PPd X pos [] [] [] (TXs Γ cf []):=⟨[],zbO,fun σ H Q h0=>goS h0 fun ρ S W g Hz hw w env kk=>kk [] [] H g S (Step.refl H g) w rfl hw⟩
theorem zbu {q:Const}{n:Nat}{p:Pos}{kx:Key}{keys:List (Option Expr)}{vals:List Expr}{ks:List Key}(hk:PE X (.Constant q n p) (tC (kV kx))) (h1:PE X x (TX Γ cf a)) (h2:PPd X pos keys vals ks (TXs Γ cf es)):PPd X pos (some (.Constant q n p)::keys) (x::vals) (kx::ks) (TXs Γ cf (a::es)):=by
 obtain ⟨trs,hp,ht⟩:=h2
 refine ⟨_,Qq hk h1 hp,fun σ H Q h=>?_⟩
 obtain ⟨ρ,S,V,g,Hz,hw,w,env,kk⟩:=args_cons h
 exact ⟨ρ,S,V,g,Hz,hw,w,env,fun x v H1 g1 S1 st w1 vx q=>ht σ H1 _ (kk x v H1 g1 S1 st w1 vx q)⟩
theorem zdC {keys:List (Option Expr)}{vals:List Expr}{ks:List Key}(h:PPd X pos keys vals ks (TXs Γ cf es)) (hall:keys.all (·.isSome)=true) (hl:keys.length=vals.length) (h0:keys≠[]) (h15:keys.length<=15):PE X (.Dict keys vals pos) (TX Γ cf (.dic false ks es)):=by
 obtain ⟨trs,hp,ht⟩:=h
 refine (zbT hp hall hl h0 h15).imp fun σ H Q h0=>goX h0 fun ρ S V g Hz hw w env kk p hp=>ht σ _ _ ?_
 have st0:=(Step.refl H g).zG (o:=.dK []) hp
 refine ⟨ρ,S,_,g,Hz,hw,w.laid hp,zp env st0,fun ds vs H2 g2 S2 st2 w2 h2 q=>?_⟩
 obtain ⟨hd,q⟩:=xu q
 unfold dicOk at hd
 simp only [ζ,decide_eq_true_eq] at hd
 obtain ⟨⟨⟨hk,hn⟩,hz⟩,_⟩:=hd
 obtain ⟨k1,k2,k3⟩:=st2.kept zj (w.notR hp) (w.notA hp)
 have el:ks.length=vs.length:=by rw [h2.len];exact hk
 refine ⟨k1,ks.zip vs,rfl,by rw [gw];lia,?_⟩
 rw [ZF _ [] (by
  rw [dz,List.map_fst_zip (by lia)]
  exact hn)]
 exact kk (.dK ks ds,.fr) (.ref p) _ g2 S2 ((st0.trans st2).zG hp) (w2.zG k2 k3) ⟨p,rfl,hp,k2,k3,vs,zj,hk,h2⟩ q
theorem zbx:PE X (.Dict [] [] pos) (TX Γ cf (.dic false [] [])):=Qx.imp fun σ H Q h0=>goX h0 fun ρ S V g Hz hw w env kk p hp=>
 kk (.dK [] [],.fr) (.ref p) _ g S ((Step.refl H g).zG hp) (w.laid hp) ⟨p,rfl,hp,w.notR hp,w.notA hp,[],zj,rfl,rfl⟩ hw
theorem zbw {ks:List Key}:PE X (.Dict [] [] pos) (TX Γ cf (.dic true [] [])):=Qw.imp fun σ H Q h0=>goX h0 fun ρ S V g Hz hw w env kk p hp=>
 kk (.dT [] [],.fr) (.ref p) _ g S ((Step.refl H g).zG hp) (w.laid hp) ⟨p,rfl,hp,w.notR hp,w.notA hp,[],zj,rfl,rfl⟩ hw
end
open PySem.AutoSeq1 (wpAny_loadPart')
open PySem.MeetsSeq PySem.MeetsSeq2 PySem.MeetsSeq3 PySem.SeqAt PySem.SeqRoads2
section
variable {X:Cx}{Γ:Gm}{S:Store}{x y:Expr}{pos:Pos}
def rIxOf (Γ:Gm) (ds:List D) (d:D) (j:Nat):V->List V->Hp->VK->Prop:=fun x xs H Q=>∃ g v,Same g.R H/\Rdb Γ H g (.lst ds) x/\xs=[v]/\Has Γ g d v/\Q (.int j) H
def rGet1:V->List V->Hp->VK->Prop:=fun x xs H Q=>∃ a y v,x=.ref a/\xs=[y]/\DGet H a y v/\Q (v.getD .non) H
def rGet2:V->List V->Hp->VK->Prop:=fun x xs H Q=>∃ a y z v,x=.ref a/\xs=[y,z]/\DGet H a y v/\Q (v.getD z) H
def rKGet (K:W.Frag):V->List V->Hp->VK->Prop:=fun x xs H Q=>∃ a k z ps,x=.ref a/\xs=[.str k,z]/\KDic K a ps/\(∀ i,gW k ps=some i->Q (.int i) H)/\(gW k ps=none->Q z H)
theorem datum_int {k:Str}:∀ ps:List (Str×Int),gW k (ps.map fun p=>(p.1,KTD.Dat.flat (.int p.2)))=(gW k ps).map fun i=>KTD.Dat.flat (.int i)
 | []=>rfl
 | p::ps=>by
  have ih:=datum_int (k:=k) ps
  simp only [ϧ,gW]
  split
  ·rfl
  ·exact ih
theorem zcg:MtR X "dict.get" (rKGet X.K):=by
 rintro pJ s σ H x xs v us Q I rx rv ⟨a,k,z,ps,rfl,rfl,⟨_,kd⟩,q1,q2⟩
 cases rx
 obtain ⟨u,u2,rfl,⟨t,rfl⟩,ru2⟩:=rv.two
 have T:KTD.Here s.heap s.heap a _:=⟨kd s.heap I.kIn,fun _ _ e=>e⟩
 refine oN bZ T.typeIs fX (fL _ _ _) KTD.meets_get2 ⟨T,fun d v e hv=>?_,fun e=>?_⟩
 ·rw [datum_int] at e
  obtain ⟨i,e1,rfl⟩:=Ι.mp e
  obtain ⟨t,rfl⟩:=(show ∃ t,v=ϙ i t from PyProof.V.Flat.int_inv hv)
  exact ⟨.int i,H,I.tok _,⟨t,rfl⟩,q1 i e1⟩
 ·rw [datum_int,Option.map_eq_none_iff] at e
  exact ⟨z,H,I.tok _,ru2,q2 e⟩
theorem zch (hu:X.A.units+1 < aj):MtR X "dict.get" rGet2:=by
 rintro pJ s σ H x xs v us Q I rx rv ⟨a,y,z,o,rfl,rfl,g,q⟩
 cases rx
 obtain ⟨u,u2,rfl,ru,ru2⟩:=rv.two
 exact zeY hu I g ru ru2 fun w s' I' r'=>⟨_,H,I',r',q⟩
def rJoin (K:W.Frag):V->List V->Hp->VK->Prop:=fun x xs H Q=>∃ z a ys,x=.str z/\xs=[.ref a]/\(SqL K H a (ys.map V.str)\/SqT K H a (ys.map V.str))/\(ys.map (·.length)).sum+ys.length*z.length<=16777216/\Q (.str (PySem.Txt.join z ys)) H
theorem QX {g:G}:∀ (l:List Str),Hass Γ g (l.map D.str) (l.map V.str)
 | []=>rfl
 | x::l=>⟨.str x,_,rfl,rfl,QX l⟩
def zfa:V->List V->Hp->VK->Prop:=fun x xs H Q=>∃ z y,x=.str z/\xs=[.str y]/\(y.length==0)=false/\z.length<=sizeLine/\(fO z y).length<=sizeLine/\∀ p,H p=none->Q (.ref p) (upd H p (.lst ((fO z y).map V.str)))
theorem zcu {c k:D}{o:Option D}(h:dgetD c k=some o) (S:Store):deref S k=k:=by
 cases k <;> first | rfl | (cases c <;> cases h)
def RDm (Γ:Gm) (r:V->List V->Hp->VK->Prop) (d0:D) (ds:List D) (d:D) (fr:Bool):Prop:=
 ∀ S H g x xs Q,WOk Γ H g S->Rdb Γ H g d0 x->Hass Γ g ds xs->Fin Γ H g S d fr Q->r x xs H Q
noncomputable def mtT:MT->String
 | .index=>"list"
 | .get1=>"dict"
 | .get2=>"dict"
 | _=>"str"
noncomputable def mtI:MT->String
 | .index=>"list.index"
 | .get1=>"dict.get"
 | .get2=>"dict.get"
 | .join=>"str.join"
 | .split=>"str.split"
theorem Jz {d1:D}(hK:X.K=Γ.K) (h:mthK .get1 d1=true\/mthK .get2 d1=true) {H:Hp}{g:G}{v:V}(hr:Rdb Γ H g d1 v):tyV X.K "dict" v H:=by
 cases d1 with
 | dK ks ds=>
  obtain ⟨a,vs,rfl,h1,_⟩:=hr
  exact .inr (.inr (.inl ⟨rfl,.inl ⟨_,h1⟩⟩))
 | dT ks ds=>
  obtain ⟨a,vs,rfl,h1,_⟩:=hr
  exact .inr (.inr (.inl ⟨rfl,.inr ⟨_,h1⟩⟩))
 | kdc ps=>
  obtain ⟨a,rfl,⟨o,h1⟩,_⟩:=hr
  exact .inr (.inl ⟨o,by rw [hK];exact h1⟩)
 | _=>rcases h with h | h <;> cases h
theorem zei {m:MT}{d0:D}{ds:List D}{d:D}{fr:Bool}(hK:X.K=Γ.K) (hu:X.A.units+61 < aj) (h:mthD m d0 ds=some (d,fr)):∃ r,MtR X (mtI m) r/\RDm Γ r d0 ds d fr:=by
 have hu1:X.A.units+1 < aj:=by lia
 cases m with
 | index=>cases d0 <;> (rcases ds with _ | ⟨_,_ | ⟨_,_ | ⟨_,_⟩⟩⟩ <;> cases h)
 | get1=>cases d0 <;> (rcases ds with _ | ⟨_,_ | ⟨_,_ | ⟨_,_⟩⟩⟩ <;> cases h)
 | get2=>
  match ds,h with
  | [],h=>cases d0 <;> cases h
  | [_],h=>cases d0 <;> cases h
  | _::_::_::_,h=>cases d0 <;> cases h
  | [kk,xx],h=>
   have hh:(∃ ps,d0=.kdc ps/\kgetD ps kk xx=some (d,fr))\/(dgetD d0 kk).map (fun o=>(o.getD xx,false))=some (d,fr):=by
    cases d0 with
    | kdc ps=>exact .inl ⟨ps,rfl,h⟩
    | _=>exact .inr h
   rcases hh with ⟨ps,rfl,h⟩ | h
   ·cases kk with
    | str x=>
     cases h
     refine ⟨_,zcg,fun S H g y ys Q w h1 h2 q=>?_⟩
     obtain ⟨u,u2,rfl,h3,h5⟩:=h2.two
     cases (show u=.str x from h3)
     obtain ⟨a,rfl,h6⟩:=h1
     refine ⟨a,x,u2,ps,rfl,rfl,by rw [hK];exact h6,fun i e=>?_,fun e=>?_⟩
     ·rw [e] at q;exact zc w q rfl
     ·rw [e] at q;exact zc w q h5
    | _=>cases h
   cases e:dgetD d0 kk with
   | none=>rw [e] at h;cases h
   | some o=>
    rw [e] at h
    cases h
    refine ⟨_,zch hu1,fun S H g y ys Q w h1 h2 q=>?_⟩
    obtain ⟨u,u2,rfl,h3,h5⟩:=h2.two
    have h4:=Uy w h3
    rw [zcu e S] at h4
    obtain ⟨a,v,rfl,g1,g2,g3,g4⟩:=WW w e h1 h4
    refine ⟨a,u,u2,v,rfl,rfl,g1,?_⟩
    cases o with
    | none=>rw [g4 rfl];exact zc w q h5
    | some d=>
     obtain ⟨z,rfl,hz⟩:=g3 d rfl
     exact zc w q hz
 | join=>cases d0 <;> (rcases ds with _ | ⟨_,_ | ⟨_,_ | ⟨_,_⟩⟩⟩ <;> cases h)
 | split=>cases d0 <;> (rcases ds with _ | ⟨_,_ | ⟨_,_ | ⟨_,_⟩⟩⟩ <;> cases h)
theorem qL {env:Env}{name:Str}{s0:Sem δ}(h:Zq x=true):n8 x name env s0=s0:=by
 cases x with
 | Call f args kws p=>
  cases args with
  | nil=>cases h
  | cons a l=>cases f <;> rfl
 | _=>rfl
theorem zcz {xs:List Expr}{env:Env}{cpos:Pos}(hs:∀ z∈xs,notStar z=true) (hl:xs.length<=9):((eV cpos (Ϥ xs env)).all (fun x=>!x.1)&&(cR cpos (aL [] env)).all (fun x=>x.1.isSome)
  &&decide (xs.length+([]:List bG).length+(if ([]:List bG).isEmpty then 0 else 1) < 30))=true:=by
 have h1:(eV cpos (Ϥ xs env)).all (fun x=>!x.1)=true:=by
  have:=yD (pos:=cpos) (env:=env) hs
  rw [List.all_eq_not_any_not]
  simpa using this
 rw [h1,decide_eq_true (show xs.length+([]:List bG).length+(if ([]:List bG).isEmpty then 0 else 1) < 30 from (by simp;lia))]
 rfl
theorem zcf (m:MT):PlainAttrs (mtT m)/\PySem.Slot (mtT m) (mtS m) (mtI m)/\typeOf (.builtin (mtI m))=pure (.type "method_descriptor"):=by
 cases m with
 | index=>exact ⟨dw,PySem.F.slot_list_index,PySem.F.type_list_index⟩
 | get1=>exact ⟨lX,bZ,mU⟩
 | get2=>exact ⟨lX,bZ,mU⟩
 | join=>exact ⟨mH,PySem.F.slot_str_join,PySem.F.type_str_join⟩
 | split=>exact ⟨mH,PySem.F.slot_str_split,PySem.F.type_str_split⟩
theorem mt_kd {m:MT}{d1:D}(hK:X.K=Γ.K) (h:mthK m d1=true) {H:Hp}{g:G}{v:V}(hr:Rdb Γ H g d1 v):tyV X.K (mtT m) v H:=by
 cases m with
 | index=>cases d1 <;> cases h
 | get1=>exact Jz hK (.inl h) hr
 | get2=>exact Jz hK (.inr h) hr
 | join=>
  cases d1 with
  | str x=>cases (show v=.str x from hr);exact rfl
  | _=>cases h
 | split=>
  cases d1 with
  | str x=>cases (show v=.str x from hr);exact rfl
  | _=>cases h
def mtAny (X:Cx) (id:String):V->List V->Hp->VK->Prop:=fun x xs H Q=>∃ r,MtR X id r/\r x xs H Q
theorem zel {id:String}:MtR X id (mtAny X id):=fun pJ s σ H x xs v us Q I rx rv ⟨_,h,q⟩=>h pJ s σ H x xs v us Q I rx rv q
theorem s_mth {B:Tb}{cf:Cf}{k:Nat}{c:Cc}{a:E}{es:List E}{m:MT}{ys:List Expr}{apos cpos:Pos}(ok:XOk Γ B (spN Γ cf) k X c) (ha:PE X x (TX Γ cf a)) (hs:∀ z∈y::ys,notStar z=true) (hb:PA X (y::ys) (TXs Γ cf es)) (hl:(apos.endLine==cpos.line)=true) (hp:Zq x=true) (h9:(y::ys).length<=9):
  PE X (.Call (.Attribute x (mtS m) apos) (y::ys) [] cpos) (TX Γ cf (.mth m a es)):=by
 obtain ⟨m1,m2,m3⟩:=zcf m
 refine (pe_bm m1 m2 m3 zel ha hb (qL hp) (zcz hs h9) hl (zb (hs y μ) ys X.env) (yD fun z hz=>hs z (θ _ hz))).imp fun σ H Q h0=>goX h0 fun ρ S V g Hz hw w env kk=>⟨ρ,S,_,g,Hz,hw,w,env,fun x v H1 g1 S1 st w1 vx h1=>?_⟩
 obtain ⟨hk,h1⟩:=xu h1
 refine ⟨mt_kd ok.hK hk (vx.rdb w1),ρ,S1,_,g1,Hz,h1,w1,zp env st,fun ds vs H2 g2 S2 st2 w2 hv h2=>?_⟩
 obtain ⟨⟨d,fr⟩,eb,q⟩:=zO h2
 obtain ⟨r,r1,r2⟩:=zei (X:=X) ok.hK ok.u61 eb
 exact ⟨r,r1,r2 S2 H2 g2 v vs Q w2 ((vx.step st2).rdb w2) hv fun u H3 g3 st3 _ w3 vo=>kk _ u H3 g3 S2 ((st.trans st2).trans st3) w3 ((VN.of vo).back (st.trans st2)) q⟩
end
theorem Jc:∀ (ks l:List Str),(ks.foldl (fun l x=>if x∈l then l else l++[x]) l).length<=l.length+ks.length
 | [],l=>π _
 | k::ks,l=>by
  refine ϣ (Jc ks _) ?_
  dsimp only
  split
  ·simp
  ·simp;omega
theorem zb3 (ks:List Str):(onesS ks).length<=ks.length:=by have:=Jc ks [];simpa [onesS] using this
theorem Zb {x z:Expr}{y:Str}(h:vD x=some (y,z)):∃ p pos,x=.Call (.Name y p) [z] [] pos:=by
 unfold vD at h
 split at h
 ·cases h;exact ⟨_,_,rfl⟩
 ·cases h
section
variable {X:Cx}{Γ:Gm}{cf:Cf}{B:Tb}{k:Nat}{c:Cc}{x y z:Expr}{pos p:Pos}{a b:E}
theorem zaY {H:Hp}{g:G}{S:Store}{d:D}{fr:Bool}{Q:VK}{a:Addr}{o:HO}(w:WOk Γ H g S) (q:Fin Γ H g S d fr Q) (ha:H a=none):Fin Γ (upd H a o) g S d fr Q:=fun v H' g' st sm w' vo=>
 q v H' g' ((Step.of_same (yc ha) (Le.refl g) (fun _ h=>.inl h) fun _ h=>.inl h).trans st) ((yc ha).trans sm) w' (by
  cases fr with
  | false=>exact vo
  | true=>
   obtain ⟨l,e,h1,h2⟩:=(show ∃ a',v=.ref a'/\upd H a o a'=none/\_ from vo)
   exact ⟨l,e,(yc ha).free h1,h2⟩)
theorem Wr {d0:D}{ks:List Str}{H:Hp}{g:G}{S:Store}{v:V}(hK:X.K=Γ.K) (w:WOk Γ H g S) (h:(lotD d0).bind strsD=some ks) (hv:Rdb Γ H g d0 v):∃ p,v=.ref p/\(SqL X.K H p (ks.map V.str)\/SqT X.K H p (ks.map V.str)):=by
 obtain ⟨l,e1,e2⟩:=ϡ.mp h
 rcases Jt e1 with rfl | rfl
 ·obtain ⟨p,ys,rfl,h1,h2⟩:=hv
  exact ⟨p,rfl,.inl (by rw [<- Yy e2 h2];exact SqL.of h1)⟩
 ·obtain ⟨p,ys,rfl,h1,h2⟩:=hv
  exact ⟨p,rfl,.inr (by rw [<- Yy e2 h2];exact SqT.of (w.rh _ _ h1))⟩
theorem zar {t:TE}(ok:XOk Γ B (spN Γ cf) k X c) (hg:Gl X "set") (hm:X.mg "set"=none) (hs:notStar z=true) (h:PE X z t):PE X (.Call (.Name "set" p) [z] [] pos) (fun σ H Q=>t σ H fun v H1=>clAny X (.type "set") [v] H1 Q):=
 (Zu jT hg hm (by decide +kernel) (zV h yV (zb hs _ _)) (by decide) (by decide) (zb hs _ _) rfl).imp fun _ _ _ q=>q
set_option tactic.hygienic true in
theorem zdn {p' pos':Pos}(ok:XOk Γ B (spN Γ cf) k X c) (hg:Gl X "set") (hm:X.mg "set"=none) (hg':Gl X "sorted") (hm':X.mg "sorted"=none) (hs:notStar z=true) (h:PE X z (TX Γ cf a)):
  PE X (.Call (.Name "sorted" p') [.Call (.Name "set" p) [z] [] pos] [] pos') (TX Γ cf (.bi .sset [a])):=by
 refine (v5 (id:="sorted") jT hg' hm' (by decide +kernel) (zV (zar ok hg hm hs h) yV (zb rfl _ _)) (by decide) (by decide) (zb rfl _ _) rfl).imp fun σ H Q h0=>goX h0 fun ρ S V g Hz hw w env kk=>⟨ρ,S,_,g,Hz,hw,w,env,fun x v H1 g1 S1 st w1 vx h1=>?_⟩
 obtain ⟨⟨d,fr⟩,eb,q⟩:=zO h1
 obtain ⟨ks,e1,e2⟩:=ϡ.mp (show ((lotD (deref S1 x.1)).bind strsD).bind _=some (d,fr) from eb)
 split at e2
 ·rename_i hl
  cases e2
  obtain ⟨l1,l2⟩:=ϵ.mp hl
  obtain ⟨p,rfl,sq⟩:=Wr (X:=X) ok.hK w1 e1 (vx.rdb w1)
  refine ⟨_,Yc ok.calm,p,ks,rfl,sq,of_decide_eq_true l1,fun a ha=>⟨_,Yb ok.calm,a,onesS ks,rfl,zj,of_decide_eq_true l2,fun ms l pm up hl=>?_⟩⟩
  refine yX (w1.laid ha) (zaY (d:=.lst ((sortS (onesS ks)).map D.str)) w1 (fun u H2 g2 st2 _ w2 vo=>kk _ u H2 g2 S1 (st.trans st2) w2 ((VN.of vo).back st) q) ha) ?_ hl
  rw [<- Uh pm up]
  exact Wx _
 ·cases e2
set_option tactic.hygienic true in
theorem zdy {p' pos':Pos}(ok:XOk Γ B (spN Γ cf) k X c) (hg:Gl X "set") (hm:X.mg "set"=none) (hg':Gl X "len") (hm':X.mg "len"=none) (hs:notStar z=true) (h:PE X z (TX Γ cf a)):
  PE X (.Call (.Name "len" p') [.Call (.Name "set" p) [z] [] pos] [] pos') (TX Γ cf (.bi .lset [a])):=by
 refine (v5 (id:="len") jT hg' hm' (by decide +kernel) (zV (zar ok hg hm hs h) yV (zb rfl _ _)) (by decide) (by decide) (zb rfl _ _) rfl).imp fun σ H Q h0=>goX h0 fun ρ S V g Hz hw w env kk=>⟨ρ,S,_,g,Hz,hw,w,env,fun x v H1 g1 S1 st w1 vx h1=>?_⟩
 obtain ⟨⟨d,fr⟩,eb,q⟩:=zO h1
 obtain ⟨ks,e1,e2⟩:=ϡ.mp (show ((lotD (deref S1 x.1)).bind strsD).bind _=some (d,fr) from eb)
 split at e2
 ·rename_i hl
  cases e2
  obtain ⟨p,rfl,sq⟩:=Wr (X:=X) ok.hK w1 e1 (vx.rdb w1)
  refine ⟨_,Yc ok.calm,p,ks,rfl,sq,of_decide_eq_true hl,fun a ha=>⟨_,Kw,a,onesS ks,rfl,zj,?_,?_⟩⟩
  ·exact oR (zb3 ks) (dX (of_decide_eq_true hl))
  ·exact zc (w1.laid ha) (zaY (d:=.int (onesS ks).length) w1 (fun u H2 g2 st2 _ w2 vo=>kk _ u H2 g2 S1 (st.trans st2) w2 ((VN.of vo).back st) q) ha) rfl
 ·cases e2
end
noncomputable def uR:Expr->Bool
 | .BoolOp _ _ _=>true
 | _=>false
section
variable {Γ:Gm}{B:Tb}{cf:Cf}{k:Nat}
theorem zdM {X:Cx}{x y z:Expr}{pos:Pos}{t a b:E}(hc:PT X x (TB Γ cf t)) (ha:PT X y (TB Γ cf a)) (hb:PT X z (TB Γ cf b)):PT X (.IfExp x y z pos) (TB Γ cf (.ite t a b)):=by
 intro pJ s σ H Q I ⟨ρ,S,V,g,Hz,hw,w,env,kk⟩
 have eq:iH (.IfExp x y z pos) X.env (eval (.IfExp x y z pos) X.env)=(iH x X.env (eval x X.env) >>= fun t=>if t=true then iH y X.env (eval y X.env) else iH z X.env (eval z X.env)):=rfl
 rw [eq]
 refine ε (thn (hc pJ s σ H (fun r H'=>if r=true then TB Γ cf a σ H' Q else TB Γ cf b σ H' Q) I ⟨ρ,S,_,g,Hz,hw,w,env,fun x H1 g1 S1 st w1 h=>?_⟩) fun r s1 ⟨H1,I1,q⟩=>?_)
 ·obtain ⟨r,e,q⟩:=wG h
  rw [e]
  show (if r=true then _ else _)
  cases r with
  | true=>exact iteT (tb_go st w1 env kk q)
  | false=>exact iteF (tb_go st w1 env kk q)
 ·cases r with
  | true=>rw [if_pos rfl] at q ⊢;exact ha pJ s1 σ H1 Q I1 q
  | false=>rw [if_neg ϗ] at q ⊢;exact hb pJ s1 σ H1 Q I1 q
def SE (Γ:Gm) (B:Tb) (cf:Cf) (k:Nat) (e:E):Prop:=∀ (X:Cx) (c:Cc) (x:Expr),XOk Γ B (spN Γ cf) k X c->chkE B c e x=true->PE X x (TX Γ cf e)/\PT X x (TB Γ cf e)/\(uR x=true->PW X x (TB Γ cf e))
theorem only {X:Cx}{x:Expr}{e:E}(h:PE X x (TX Γ cf e)) (hn:uR x=false) (he:∀ whole,iH x X.env whole=(do let v <- whole;standAt x.pos;gk [v] (truthy v))):PE X x (TX Γ cf e)/\PT X x (TB Γ cf e)/\(uR x=true->PW X x (TB Γ cf e)):=
 ⟨h,zdm h he,fun q=>by rw [hn] at q;cases q⟩
theorem none_of {X:Cx}{x:Expr}{e:E}(h:∀ ρ V S,¬ wpE cf ρ e V S):PE X x (TX Γ cf e)/\PT X x (TB Γ cf e)/\(uR x=true->PW X x (TB Γ cf e)):=
 ⟨fun _ _ _ _ _ _ ⟨_,_,_,_,_,q,_⟩=>(h _ _ _ q).elim,fun _ _ _ _ _ _ ⟨_,_,_,_,_,q,_⟩=>(h _ _ _ q).elim,fun _ _ _ _ _ _ _ _ ⟨_,_,_,_,_,q,_⟩=>(h _ _ _ q).elim⟩
theorem xZ {c:Cc}:∀ {es:List E}{xs:List Expr},chkEs B c es xs=true->∀ z∈xs,notStar z=true
 | [],[],_=>fun z hz=>by cases hz
 | e::es,x::xs,h=>by
  have h:(chkE B c e x&&notStar x&&chkEs B c es xs)=true:=h
  rw [ζ,ζ] at h
  intro z hz
  rcases Η.mp hz with rfl | hz
  ·exact h.1.2
  ·exact xZ h.2 z hz
 | [],_::_,h=>nobE h
 | _::_,[],h=>nobE h
theorem Jh {c:Cc}{lo hi st:Option Expr}{pos:Pos}:∀ (e:E),chkE B c e (.Slice lo hi st pos)=true->False
 | .box e,h=>nobE h
 | .var _,h=>nobE h
 | .con _,h=>nobE h
 | .glo _ _,h=>nobE h
 | .bin _ _ _,h=>nobE h
 | .neg _,h=>nobE h
 | .cmp _ _ _,h=>nobE h
 | .chn _ _ _ _ _,h=>nobE h
 | .not _,h=>nobE h
 | .and _ _,h=>nobE h
 | .or _ _,h=>nobE h
 | .ite _ _ _,h=>nobE h
 | .tup _,h=>nobE h
 | .lst _,h=>nobE h
 | .dic _ _ _,h=>nobE h
 | .sub _ _,h=>nobE h
 | .slc _ _ _,h=>nobE h
 | .bi _ _,h=>nobE h
 | .mth _ _ _,h=>nobE h
 | .call _ _,h=>nobE h
 | .callk _ _ _,h=>nobE h
 | .callv _ _,h=>nobE h
 | .comp _ _ _ _ _,h=>nobE h
 | .one _,h=>nobE h
 | .flip _,h=>nobE h
 | .seq _,h=>nobE h
 | .rng _ _,h=>nobE h
 | .enum _,h=>nobE h
 | .zip _ _,h=>nobE h
 | .rev _,h=>nobE h
 | .dwn _,h=>nobE h
 | .items _,h=>nobE h
theorem Vk {c:Cc}{e:E}{y:Expr}(h:chkE B c e y=true):Xr y:=by
 cases y with
 | Slice lo hi st pos=>exact (Jh e h).elim
 | _=>exact fun _ _=>rfl
theorem Z0 {iter:Expr}(h:xJ iter=true) (env:Env) (v:δ):bO iter env v=pure v:=by
 cases iter <;> first | rfl | cases h
set_option tactic.hygienic true in
theorem ze0 {X:Cx}{d:D}{q:Const}{n:Nat}{pos:Pos}{c:Cc}(h:chkE B c (.con d) (.Constant q n pos)=true):∃ t,PE X (.Constant q n pos) (tC t)/\∀ g,Has Γ g d t:=by
 cases q with
 | none=>cases d <;> first | exact ⟨_,zdV,fun _=>rfl⟩ | exact nobE h
 | bool b=>cases d <;> first | (rename_i b';have e:=eq_of_beq (show (b'==b)=true from h);subst e;exact ⟨_,pe_bl,fun _=>rfl⟩) | exact nobE h
 | int b=>cases d <;> first | (rename_i b';have e:=eq_of_beq (show (b'==b)=true from h);subst e;exact ⟨_,zaD,fun _=>rfl⟩) | exact nobE h
 | str b=>cases d <;> first | (rename_i b';have e:=eq_of_beq (show (b'==b)=true from h);subst e;exact ⟨_,zaC,fun _=>rfl⟩) | exact nobE h
 | _=>cases d <;> exact nobE h
theorem jV {k0:Key}{ks:List Key}{keys:List (Option Expr)}(h:chkDk (k0::ks) keys=true):∃ q n p r,keys=some (.Constant q n p)::r/\(∀ X:Cx,PE X (.Constant q n p) (tC (kV k0)))/\chkDk ks r=true:=by
 cases keys with
 | nil=>exact nobE h
 | cons o r=>
  cases o with
  | none=>exact nobE h
  | some x=>
   have hb:Μ x.ctorIdx 19=true:=by revert h;cases x <;> first | exact non | exact fun _=>rfl
   revert h;apply jK hb;clear hb;intro q n p h
   have h:(keyC k0 q&&chkDk ks r)=true:=h
   rw [ζ] at h
   refine ⟨q,n,p,r,rfl,fun X=>?_,h.2⟩
   have h1:=h.1
   cases k0 with
   | inl i=>
    cases q with
    | int j=>rw [show i=j from eq_of_beq h1];exact zaD
    | _=>exact nobE h1
   | inr i=>
    cases q with
    | str j=>rw [show i=j from eq_of_beq h1];exact zaC
    | _=>exact nobE h1
theorem Z9:∀ {ks:List Key}{keys:List (Option Expr)},chkDk ks keys=true->ks.length=keys.length/\keys.all (·.isSome)=true
 | [],[],_=>⟨rfl,rfl⟩
 | [],_::_,h=>nobE h
 | k0::ks,keys,h=>by
  obtain ⟨q,n,p,r,rfl,_,hr⟩:=jV h
  obtain ⟨a,b⟩:=Z9 hr
  exact ⟨by simp [a],by simpa using b⟩
theorem Z7 {c:Cc}:∀ {es:List E}{xs:List Expr},chkFs B c es xs=true->es.length=xs.length
 | [],[],_=>rfl
 | [],_::_,h=>nobE h
 | _::_,[],h=>nobE h
 | e::es,x::xs,h=>by
  have h:(chkE B c e x&&chkFs B c es xs)=true:=h
  rw [ζ] at h
  simp [Z7 h.2]
theorem z6 {a:Bool}(h:(a&&false)=true):False:=by
 rw [gQ] at h
 cases h
theorem Z8 {c:Cc}:∀ {es:List E}{xs:List Expr},chkEs B c es xs=true->es.length=xs.length
 | [],[],_=>rfl
 | [],_::_,h=>nobE h
 | _::_,[],h=>nobE h
 | e::es,x::xs,h=>by
  have h:(chkE B c e x&&notStar x&&chkEs B c es xs)=true:=h
  rw [ζ] at h
  simp [Z8 h.2]
theorem zej {c:Cc}{m:MT}{o:E}{es:List E}{f:Expr}{args:List Expr}{kws:List bG}{pos:Pos}(h:chkE B c (.mth m o es) (.Call f args kws pos)=true):
    ∃ w ap y ys,f=.Attribute w (mtS m) ap/\args=y::ys/\kws=[]/\chkE B c o w=true/\chkEs B c es (y::ys)=true/\(ap.endLine==pos.line)=true/\Zq w=true/\(y::ys).length<=9:=by
  have h:(match asAtt f with
    | some q=>q.2.1==mtS m&&chkE B c o q.1&&chkEs B c es args&&wF kws&&q.2.2.endLine==pos.line&&Zq q.1&&decide (1<=es.length)&&decide (es.length<=9)
    | none=>false)=true:=h
  cases e:asAtt f with
  | none=>rw [e] at h;cases h
  | some q=>
    rw [e] at h
    simp only [ζ,decide_eq_true_eq] at h
    obtain ⟨⟨⟨⟨⟨⟨⟨h1,h2⟩,h3⟩,h4⟩,h5⟩,h6⟩,h7⟩,h8⟩:=h
    have hl:=Z8 h3
    cases args with
    | nil=>simp at hl;simp [hl] at h7
    | cons y ys=>
      refine ⟨q.1,q.2.2,y,ys,?_,rfl,uc h4,h2,h3,h5,h6,by lia⟩
      rw [W5 e,eq_of_beq h1]
theorem Z6 {c:Cc}:∀ {es:List E}{kws:List bG},chkKs B c es kws=true->es.length=kws.length
 | [],[],_=>rfl
 | [],_::_,h=>nobE h
 | _::_,[],h=>nobE h
 | e::es,⟨none,x,p⟩::kws,h=>nobE h
 | e::es,⟨some n,x,p⟩::kws,h=>by
  have h:(chkE B c e x&&chkKs B c es kws)=true:=h
  rw [ζ] at h
  simp [Z6 h.2]
theorem uM:∀ {kws:List bG}{ks:List Str},yo kws=some ks->ks.length=kws.length
 | [],ks,h=>by cases h;rfl
 | ⟨none,x,p⟩::kws,ks,h=>by cases h
 | ⟨some n,x,p⟩::kws,ks,h=>by
  have h:(yo kws).map (n::·)=some ks:=h
  cases e:yo kws with
  | none=>rw [e] at h;cases h
  | some l=>
   rw [e] at h
   cases h
   simp [uM e]
def TXr (Γ:Gm) (cf:Cf):List E->TA
 | [e]=>fun σ H Q=>TX Γ cf e σ H fun v H1=>Q [v] H1
 | es=>TXs Γ cf es
theorem zU {b:BI}{n:Str}{c:Cc}{X:Cx}{es:List E}{args:List Expr}{p pos:Pos}(ok:XOk Γ B (spN Γ cf) k X c) (hi:isI b=false) (h:(n==biS b&&B.bare.contains n&&gloK (c.names.lookup n)&&chkEs B c es args&&!es.isEmpty)=true)
  (ih:chkEs B c es args=true->PA X args (TXr Γ cf es)):PE X (.Call (.Name n p) args [] pos) (TX Γ cf (.bi b es))/\PT X (.Call (.Name n p) args [] pos) (TB Γ cf (.bi b es))/\(uR (.Call (.Name n p) args [] pos)=true->PW X (.Call (.Name n p) args [] pos) (TB Γ cf (.bi b es))):=by
 simp only [ζ] at h
 obtain ⟨⟨⟨⟨h1,h2⟩,h3⟩,h4⟩,h5⟩:=h
 have e1:=eq_of_beq h1
 subst e1
 refine only ?_ rfl fun _=>rfl
 have ih:=ih h4
 have hst:=xZ h4
 cases args with
 | nil=>
  cases es with
  | nil=>cases h5
  | cons _ _=>exact nobE h4
 | cons x xs=>
  refine bi_pe ok (ok.glob h3) (ok.bare _ (Ϣ.mp h2)) hst ih fun σ H Q h0=>goX h0 fun ρ S V g Hz hw w env kk=>?_
  match es,hw with
  | [],_=>cases h5
  | [e],hw=>exact ⟨ρ,S,_,g,Hz,hw,w,env,fun x v H1 g1 S1 st w1 vx h1=>by
   obtain ⟨⟨d,fr⟩,eb,q⟩:=zO h1
   obtain ⟨r,r1,r2⟩:=za4 (X:=X) (Γ:=Γ) ok.hK ok.room.gd ok.u61 ok.calm hi eb
   exact ⟨r,r1,r2 S1 H1 g1 [v] Q w1 ⟨v,[],rfl,vx.rdb w1,rfl⟩ fun u H2 g2 st2 _ w2 vo=>kk _ u H2 g2 S1 (st.trans st2) w2 ((VN.of vo).back st) q⟩⟩
  | e1::e2::es,hw=>exact ⟨ρ,S,_,g,Hz,hw,w,env,fun ds vs H1 g1 S1 st w1 hv h1=>by
   obtain ⟨⟨d,fr⟩,eb,q⟩:=zO h1
   obtain ⟨r,r1,r2⟩:=za4 (X:=X) (Γ:=Γ) ok.hK ok.room.gd ok.u61 ok.calm hi eb
   exact ⟨r,r1,r2 S1 H1 g1 vs Q w1 (Ux w1 hv) fun u H2 g2 st2 _ w2 vo=>kk _ u H2 g2 S1 (st.trans st2) w2 ((VN.of vo).back st) q⟩⟩
theorem Vy {f:Nat}{n:Str}{c:Cc}{X:Cx}{es:List E}{perm:List Nat}{kws:List bG}{p pos:Pos}(hm:Mono cf) (ok:XOk Γ B (spN Γ cf) k X c) (h:(B.fns[f]?==some n&&gloK (c.names.lookup n)&&yj n&&chkKs B c es kws&&(match yo kws,B.pars[f]? with
      | some ks,some ps=>perm.length==ps.length&&perm.all (· < ks.length)&&perm.map (fun i=>ks.getD i "")==ps&&ks.length==ps.length&&B.kws.contains (f,ks,perm)
      | _,_=>false))=true) (ih:chkKs B c es kws=true->PK X kws (TXs Γ cf es)):PE X (.Call (.Name n p) [] kws pos) (TX Γ cf (.callk f perm es)):=by
  simp only [ζ] at h
  obtain ⟨⟨⟨⟨h1,h2⟩,h3⟩,h4⟩,h5⟩:=h
  cases hk:yo kws with
  | none=>rw [hk] at h5;cases h5
  | some ks=>
    cases hp:B.pars[f]? with
    | none=>rw [hk,hp] at h5;cases h5
    | some ps=>
      rw [hk,hp] at h5
      simp only [ζ,beq_iff_eq,cY,decide_eq_true_eq] at h5
      obtain ⟨⟨⟨⟨g1,g2⟩,g3⟩,g4⟩,g5⟩:=h5
      exact zbz hm ok (eq_of_beq h1) (ok.glob h2) (zX h3).1 (ih h4) hk hp g1 g2 g3 g4 (Ϣ.mp g5) (by rw [Z6 h4,uM hk])
theorem Q9 {X:Cx}{c:Cc}{sc:dI}{js:List Nat}{xs:List Str}{t:T}{it elt:E}{ifs:List E}{cs:List Expr}{tgt iter y:Expr}{pos:Pos}(ok:XOk Γ B (spN Γ cf) k X c) (hs:chkS c sc js=true) (hn:xJ iter=true) (nd:(xs++js.map (fun j=>c.N.getD j "")).Nodup)
  (hst:isNst t=false) (ht:nT t=xs.length) (hr:tIs t=ϩ xs.length) (hT:chkT (inner c sc xs js) t tgt=true) (hi:PI X tgt iter (TXi Γ cf it))
  (hz:∀ X,XOk Γ B (spN Γ cf) k X (inner c sc xs js)->PTs X cs (TXf Γ cf ifs)) (he:∀ X,XOk Γ B (spN Γ cf) k X (inner c sc xs js)->PE X y (TX Γ cf elt)):
  PE X (.ListComp y [⟨tgt,iter,cs,0⟩] sc pos) (TX Γ cf (.comp t js it ifs elt))/\CSet X (.ListComp y [⟨tgt,iter,cs,0⟩] sc pos) (TX Γ cf (.comp t js it ifs elt)):=by
 have okI:=fun C s3 H3 fp=>VG ok hs nd C s3 H3 fp
 refine zaf (Kl (xs:=xs) (tg:=tgOf X.K t) ok.calm (WX ok hs) hi (fun C s3 H3 fp=>XN (okI C s3 H3 fp) hT) (fun C s3 H3 fp=>hz _ (okI C s3 H3 fp)) (fun C s3 H3 fp=>he _ (okI C s3 H3 fp)) (Z0 hn X.env)) fun σ H Q h0=>goX h0 fun ρ S V g Hz hw w env kk=>?_
 refine Q8 (X:=X) (Qe:=fun D H'=>Q (.ref D) H') hst (fun i hi=>?_) ht ?_ hw w env fun ds Da H' g' S' st w' vx q=>kk _ _ H' g' S' st w' vx q
 ·rw [hr] at hi
  rw [ht]
  exact bB.mp hi
 ·exact fQ.of_map _ (fun a b (h:c.N.getD a ""≠c.N.getD b "") e=>h (by rw [e])) (aV.mp nd).2.1
theorem Z4 {t:T}{js:List Nat}{it:E}{ifs:List E}{elt:E}{X:Cx}{c:Cc}{tgt iter y:Expr}{cs:List Expr}{kk:Int}{sc:dI}{pos:Pos}(hI:∀ X c tgt x,XOk Γ B (spN Γ cf) k X c->chkI B c it tgt x=true->PI X tgt x (TXi Γ cf it)) (hF:∀ X c xs,XOk Γ B (spN Γ cf) k X c->chkFs B c ifs xs=true->ifs.length<=1->PTs X xs (TXf Γ cf ifs)) (hE:∀ X c x,XOk Γ B (spN Γ cf) k X c->chkE B c elt x=true->PE X x (TX Γ cf elt))
    (ok:XOk Γ B (spN Γ cf) k X c) (h:chkE B c (.comp t js it ifs elt) (.ListComp y [⟨tgt,iter,cs,kk⟩] sc pos)=true):PE X (.ListComp y [⟨tgt,iter,cs,kk⟩] sc pos) (TX Γ cf (.comp t js it ifs elt))/\CSet X (.ListComp y [⟨tgt,iter,cs,kk⟩] sc pos) (TX Γ cf (.comp t js it ifs elt)):=by
  have h:(kk==0&&chkS c sc js&&chkI B c it tgt iter&&xJ iter&&(match yI tgt with
    | some xs=>decide ((xs++js.map (fun j=>c.N.getD j "")).Nodup)&&nT t==xs.length&&tIs t==ϩ xs.length&&chkT (inner c sc xs js) t tgt&&chkE B (inner c sc xs js) elt y&&chkFs B (inner c sc xs js) ifs cs&&decide (ifs.length<=1)
    | none=>false))=true:=h
  simp only [ζ] at h
  obtain ⟨⟨⟨⟨h1,h2⟩,h3⟩,h4⟩,h5⟩:=h
  have e1:=eq_of_beq h1
  subst e1
  cases ht:yI tgt with
  | none=>rw [ht] at h5;cases h5
  | some xs=>
    rw [ht] at h5
    simp only [ζ] at h5
    obtain ⟨⟨⟨⟨⟨⟨h6,h7⟩,h8⟩,h9⟩,h10⟩,h11⟩,h12⟩:=h5
    have hst:isNst t=false:=by
      cases t with
      | nst i is=>
        exfalso
        cases q:asNst tgt with
        | none=>unfold chkT at h9;rw [if_pos (show isNst (.nst i is)=true from rfl),q] at h9;cases h9
        | some z=>rw [W3 q] at ht;cases ht
      | _=>rfl
    exact Q9 ok h2 h4 (of_decide_eq_true h6) hst (eq_of_beq h7) (eq_of_beq h8) h9 (hI X c tgt iter ok h3) (fun X ok'=>hF X _ cs ok' h11 (of_decide_eq_true h12)) fun X ok'=>hE X _ y ok' h10
mutual
theorem sA (hcf:CfN B cf) (hm:Mono cf):∀ (e:E),SE Γ B cf k e
  | .var i=>fun X c x ok h=>by
    have hb:Μ x.ctorIdx 23=true:=by revert h;cases x <;> first | exact non | exact fun _=>rfl
    revert h;apply xH hb;clear hb;intro n pos h
    have h:(c.N[i]?==some n&&visK (c.names.lookup n)&&yj n)=true:=h
    rw [ζ,ζ] at h
    obtain ⟨h1,h2,_⟩:=zX h.2
    exact only (s_var (by rw [ok.N];exact eq_of_beq h.1.1) (ok.vis h.1.2) h1 h2) rfl fun _=>rfl
  | .con d=>fun X c x ok h=>by
    have hb:Μ x.ctorIdx 19=true:=by revert h;cases x <;> first | exact non | exact fun _=>rfl
    revert h;apply jK hb;clear hb;intro q n pos h
    obtain ⟨t,h1,h2⟩:=ze0 (Γ:=Γ) (X:=X) h
    exact only (s_con h1 h2 fun _ _ _ q=>q) rfl fun _=>rfl
  | .glo m d=>fun X c x ok h=>by
    have hb:Μ x.ctorIdx 23=true:=by revert h;cases x <;> first | exact non | exact fun _=>rfl
    revert h;apply xH hb;clear hb;intro n pos h
    have h:((match B.consts[m]? with
      | some p=>p.1==n&&sameD p.2 d
      | none=>false)&&gloK (c.names.lookup n)&&yj n)=true:=h
    rw [ζ,ζ] at h
    cases e:B.consts[m]? with
    | none=>rw [e] at h;cases h.1.1
    | some q=>
      rw [e] at h
      obtain ⟨y,d'⟩:=q
      have h1:(y==n&&sameD d' d)=true:=h.1.1
      rw [ζ] at h1
      have e1:=eq_of_beq h1.1
      have e2:=X8 _ _ h1.2
      subst e1 e2
      obtain ⟨u,v,g1,g2,g3⟩:=ok.consts m y d' e
      exact only (s_con (zbS (ok.glob h.1.2) g1 g2 (zX h.2).1) g3 fun _ _ _ q=>q) rfl fun _=>rfl
  | .bin op a b=>fun X c x ok h=>by
    have hb:Μ x.ctorIdx 2=true:=by revert h;cases x <;> first | exact non | exact fun _=>rfl
    revert h;apply zb9 hb;clear hb;intro l op' r pos h
    have h:(op==op'&&chkE B c a l&&chkE B c b r)=true:=h
    rw [ζ,ζ] at h
    have e1:=eq_of_beq h.1.1
    subst e1
    exact only (s_bin ok.hK (sA hcf hm a X c l ok h.1.2).1 (sA hcf hm b X c r ok h.2).1) rfl fun _=>rfl
  | .neg a=>fun X c x ok h=>nobE h
  | .cmp op a b=>fun X c x ok h=>by
    have hb:Μ x.ctorIdx 15=true:=by revert h;cases x <;> first | exact non | exact fun _=>rfl
    revert h;apply Zz hb;clear hb;intro l ops rs pos h
    match ops,rs,h with
    | [op'],[r],h=>
      have h:(op==op'&&chkE B c a l&&chkE B c b r&&xJ r)=true:=h
      rw [ζ,ζ,ζ] at h
      have e1:=eq_of_beq h.1.1.1
      subst e1
      have hm':behindInMarks op r=false:=by cases r <;> first | rfl | cases h.2
      have:=s_cmp (pos:=pos) ok.hK ok.u61 (sA hcf hm a X c l ok h.1.1.2).1 (sA hcf hm b X c r ok h.1.2).1 hm'
      exact ⟨this.1,this.2,fun q=>by cases q⟩
    | [],_,h=>exact nobE h
    | [_],[],h=>exact nobE h
    | [_],_::_::_,h=>exact nobE h
    | _::_::_,_,h=>exact nobE h
  | .chn o1 o2 a b d=>fun X c x ok h=>by
    have hb:Μ x.ctorIdx 15=true:=by revert h;cases x <;> first | exact non | exact fun _=>rfl
    revert h;apply Zz hb;clear hb;intro l ops rs pos h
    match ops,rs,h with
    | [p1,p2],[r1,r2],h=>
      have h:(o1==p1&&o2==p2&&chkE B c a l&&chkE B c b r1&&chkE B c d r2&&xJ r2)=true:=h
      simp only [ζ] at h
      obtain ⟨⟨⟨⟨⟨h1,h2⟩,h3⟩,h4⟩,h5⟩,h6⟩:=h
      have e1:=eq_of_beq h1
      have e2:=eq_of_beq h2
      subst e1 e2
      have hm':lastMarks [o1,o2] [r1,r2]=false:=by cases r2 <;> first | rfl | cases h6
      have:=s_chn (pos:=pos) ok.hK ok.u61 (sA hcf hm a X c l ok h3).1 (sA hcf hm b X c r1 ok h4).1 (sA hcf hm d X c r2 ok h5).1 hm'
      exact ⟨this.1,this.2,fun q=>by cases q⟩
    | [],_,h=>exact nobE h
    | [_],_,h=>exact nobE h
    | [_,_],[],h=>exact nobE h
    | [_,_],[_],h=>exact nobE h
    | [_,_],_::_::_::_,h=>exact nobE h
    | _::_::_::_,_,h=>exact nobE h
  | .not a=>fun X c x ok h=>by
    have hb:Μ x.ctorIdx 3=true:=by revert h;cases x <;> first | exact non | exact fun _=>rfl
    revert h;apply Je hb;clear hb;intro op l pos h
    have h:(op==PySem.UnaryOp.Not&&chkE B c a l)=true:=h
    rw [ζ] at h
    have e1:=eq_of_beq h.1
    subst e1
    obtain ⟨i1,i2,_⟩:=sA hcf hm a X c l ok h.2
    exact ⟨s_not i1,zdx i2,fun q=>by cases q⟩
  | .and a b=>fun X c x ok h=>by
    have hb:Μ x.ctorIdx 0=true:=by revert h;cases x <;> first | exact non | exact fun _=>rfl
    revert h;apply qd hb;clear hb;intro op vs pos h
    match vs,h with
    | l::r::rest,h=>
      have h:(op==nj.And&&chkE B c a l&&chkE B c b (.BoolOp .And (r::rest) pos))=true:=h
      rw [ζ,ζ] at h
      have e1:=eq_of_beq h.1.1
      subst e1
      obtain ⟨i1,i2,_⟩:=sA hcf hm a X c l ok h.1.2
      obtain ⟨j1,_,j3⟩:=sA hcf hm b X c _ ok h.2
      have w:=zdE i2 (j3 rfl)
      exact ⟨s_and i1 j1,w.pt,fun _=>w⟩
    | [],h=>exact nobE h
    | [_],h=>exact nobE h
  | .or a b=>fun X c x ok h=>by
    have hb:Μ x.ctorIdx 0=true:=by revert h;cases x <;> first | exact non | exact fun _=>rfl
    revert h;apply qd hb;clear hb;intro op vs pos h
    match vs,h with
    | l::r::rest,h=>
      have h:(op==nj.Or&&chkE B c a l&&chkE B c b (.BoolOp .Or (r::rest) pos))=true:=h
      rw [ζ,ζ] at h
      have e1:=eq_of_beq h.1.1
      subst e1
      obtain ⟨i1,i2,_⟩:=sA hcf hm a X c l ok h.1.2
      obtain ⟨j1,_,j3⟩:=sA hcf hm b X c _ ok h.2
      have w:=s_orW i2 (j3 rfl)
      exact ⟨s_or i1 j1,w.pt,fun _=>w⟩
    | [],h=>exact nobE h
    | [_],h=>exact nobE h
  | .one a=>fun X c x ok h=>by
    have hb:Μ x.ctorIdx 0=true:=by revert h;cases x <;> first | exact non | exact fun _=>rfl
    revert h;apply qd hb;clear hb;intro op vs pos h
    match vs,h with
    | [l],h=>
      obtain ⟨i1,i2,_⟩:=sA hcf hm a X c l ok (show chkE B c a l=true from h)
      exact ⟨zdT i1,(zav i2).pt,fun _=>zav i2⟩
    | [],h=>exact nobE h
    | _::_::_,h=>exact nobE h
  | .ite t a b=>fun X c x ok h=>by
    have hb:Μ x.ctorIdx 5=true:=by revert h;cases x <;> first | exact non | exact fun _=>rfl
    revert h;apply zb8 hb;clear hb;intro l y z pos h
    have h:(chkE B c t l&&chkE B c a y&&chkE B c b z)=true:=h
    rw [ζ,ζ] at h
    obtain ⟨_,i2,_⟩:=sA hcf hm t X c l ok h.1.1
    obtain ⟨j1,j2,_⟩:=sA hcf hm a X c y ok h.1.2
    obtain ⟨k1,k2,_⟩:=sA hcf hm b X c z ok h.2
    exact ⟨s_ite i2 j1 k1,zdM i2 j2 k2,fun q=>by cases q⟩
  | .tup es=>fun X c x ok h=>by
    have hb:Μ x.ctorIdx 25=true:=by revert h;cases x <;> first | exact non | exact fun _=>rfl
    revert h;apply zb5 hb;clear hb;intro xs kk pos h
    exact only (s_tup (sEs hcf hm es X c xs ok h)) rfl fun _=>rfl
  | .lst es=>fun X c x ok h=>by
    have hb:Μ x.ctorIdx 24=true:=by revert h;cases x <;> first | exact non | exact fun _=>rfl
    revert h;apply ofList hb;clear hb;intro xs pos h
    exact only (s_lst (sEs hcf hm es X c xs ok h)) rfl fun _=>rfl
  | .sub a i=>fun X c x ok h=>by
    have hb:Μ x.ctorIdx 21=true:=by revert h;cases x <;> first | exact non | exact fun _=>rfl
    revert h;apply uH hb;clear hb;intro l y pos h
    have h:(chkE B c a l&&chkE B c i y)=true:=h
    rw [ζ] at h
    exact only (s_sub ok.hK ok.u1 (sA hcf hm a X c l ok h.1).1 (sA hcf hm i X c y ok h.2).1 (Vk h.2)) rfl fun _=>rfl
  | .slc a lo hi=>fun X c x ok h=>by
    have hb:Μ x.ctorIdx 21=true:=by revert h;cases x <;> first | exact non | exact fun _=>rfl
    revert h;apply uH hb;clear hb;intro l y pos h
    have hb:Μ y.ctorIdx 26=true:=by revert h;cases y <;> first | exact non | exact fun _=>rfl
    revert h;apply zb6 hb;clear hb;intro lo' hi' st p2 h
    cases st with
    | none=>
      have h:(chkE B c a l&&chkO B c lo lo'&&chkO B c hi hi')=true:=h
      rw [ζ,ζ] at h
      exact only (s_slc ok.hK (sA hcf hm a X c l ok h.1.1).1 (sO hcf hm lo X c lo' ok h.1.2) (sO hcf hm hi X c hi' ok h.2)) rfl fun _=>rfl
    | some _=>exact nobE h
  | .bi b es=>fun X c x ok h=>by
    have hb:Μ x.ctorIdx 16=true:=by revert h;cases x <;> first | exact non | exact fun _=>rfl
    revert h;apply wB hb;clear hb;intro f args kws pos h
    have hb:Μ f.ctorIdx 23=true:=by revert h;cases f <;> first | exact non | exact fun _=>rfl
    revert h;apply xH hb;clear hb;intro n p h
    cases kws with
    | nil=>
      cases b with
      | isinst t=>
        match es,args,h with
        | [],_,h=>exact (z6 (show (_&&false)=true from h)).elim
        | _::_::_,_,h=>exact (z6 (show (_&&false)=true from h)).elim
        | [_],[],h=>exact (z6 (show (_&&false)=true from h)).elim
        | [_],[_],h=>exact (z6 (show (_&&false)=true from h)).elim
        | [_],_::z::_::_,h=>cases z <;> exact (z6 (show (_&&false)=true from h)).elim
        | [e],[y,z],h=>
          cases z with
          | Name z pz=>
            have h:(n==("isinstance":Str)&&B.bare.contains n&&B.bare.contains (tyN t)&&gloK (c.names.lookup n)&&(chkE B c e y&&notStar y&&z==tyN t&&gloK (c.names.lookup z)))=true:=h
            simp only [ζ] at h
            obtain ⟨⟨⟨⟨h1,h2⟩,h3⟩,h4⟩,⟨⟨h5,h6⟩,h7⟩,h8⟩:=h
            have e1:=eq_of_beq h1
            have e2:=eq_of_beq h7
            subst e1 e2
            exact only (s_is ok (ok.glob h4) (ok.bare _ (Ϣ.mp h2)) (ok.glob h8) (ok.bare _ (Ϣ.mp h3)) h6 (sA hcf hm e X c y ok h5).1) rfl fun _=>rfl
          | _=>exact (z6 (show (_&&false)=true from h)).elim
      | len=>exact zU ok rfl (show (n==biS .len&&B.bare.contains n&&gloK (c.names.lookup n)&&chkEs B c es args&&!es.isEmpty)=true from h) fun q=>sRs hcf hm es X c args ok q
      | abs=>exact zU ok rfl (show (n==biS .abs&&B.bare.contains n&&gloK (c.names.lookup n)&&chkEs B c es args&&!es.isEmpty)=true from h) fun q=>sRs hcf hm es X c args ok q
      | int=>exact zU ok rfl (show (n==biS .int&&B.bare.contains n&&gloK (c.names.lookup n)&&chkEs B c es args&&!es.isEmpty)=true from h) fun q=>sRs hcf hm es X c args ok q
      | str=>exact zU ok rfl (show (n==biS .str&&B.bare.contains n&&gloK (c.names.lookup n)&&chkEs B c es args&&!es.isEmpty)=true from h) fun q=>sRs hcf hm es X c args ok q
      | tuple=>exact zU ok rfl (show (n==biS .tuple&&B.bare.contains n&&gloK (c.names.lookup n)&&chkEs B c es args&&!es.isEmpty)=true from h) fun q=>sRs hcf hm es X c args ok q
      | list=>exact zU ok rfl (show (n==biS .list&&B.bare.contains n&&gloK (c.names.lookup n)&&chkEs B c es args&&!es.isEmpty)=true from h) fun q=>sRs hcf hm es X c args ok q
      | sum=>exact zU ok rfl (show (n==biS .sum&&B.bare.contains n&&gloK (c.names.lookup n)&&chkEs B c es args&&!es.isEmpty)=true from h) fun q=>sRs hcf hm es X c args ok q
      | all=>exact zU ok rfl (show (n==biS .all&&B.bare.contains n&&gloK (c.names.lookup n)&&chkEs B c es args&&!es.isEmpty)=true from h) fun q=>sRs hcf hm es X c args ok q
      | any=>exact zU ok rfl (show (n==biS .any&&B.bare.contains n&&gloK (c.names.lookup n)&&chkEs B c es args&&!es.isEmpty)=true from h) fun q=>sRs hcf hm es X c args ok q
      | min2=>exact zU ok rfl (show (n==biS .min2&&B.bare.contains n&&gloK (c.names.lookup n)&&chkEs B c es args&&!es.isEmpty)=true from h) fun q=>sRs hcf hm es X c args ok q
      | max2=>exact zU ok rfl (show (n==biS .max2&&B.bare.contains n&&gloK (c.names.lookup n)&&chkEs B c es args&&!es.isEmpty)=true from h) fun q=>sRs hcf hm es X c args ok q
      | sorted=>exact zU ok rfl (show (n==biS .sorted&&B.bare.contains n&&gloK (c.names.lookup n)&&chkEs B c es args&&!es.isEmpty)=true from h) fun q=>sRs hcf hm es X c args ok q
      | repr=>exact zU ok rfl (show (n==biS .repr&&B.bare.contains n&&gloK (c.names.lookup n)&&chkEs B c es args&&!es.isEmpty)=true from h) fun q=>sRs hcf hm es X c args ok q
      | dict=>exact zU ok rfl (show (n==biS .dict&&B.bare.contains n&&gloK (c.names.lookup n)&&chkEs B c es args&&!es.isEmpty)=true from h) fun q=>sRs hcf hm es X c args ok q
      | sset=>
        match es,args,h with
        | [],_,h=>exact (z6 (show (_&&false)=true from h)).elim
        | _::_::_,_,h=>exact (z6 (show (_&&false)=true from h)).elim
        | [_],[],h=>exact (z6 (show (_&&false)=true from h)).elim
        | [_],_::_::_,h=>exact (z6 (show (_&&false)=true from h)).elim
        | [e],[z],h=>
          have h9:(n==("sorted":Str)&&B.bare.contains n&&gloK (c.names.lookup n)&&(match vD z with
            | some (y,u)=>y==("set":Str)&&B.bare.contains y&&gloK (c.names.lookup y)&&chkE B c e u&&notStar u
            | none=>false))=true:=h
          cases hz:vD z with
          | none=>rw [hz] at h9;exact (z6 h9).elim
          | some q=>
            obtain ⟨y,u⟩:=q
            rw [hz] at h9
            obtain ⟨py,pu,rfl⟩:=Zb hz
            simp only [ζ] at h9
            obtain ⟨⟨⟨h1,h2⟩,h3⟩,⟨⟨⟨h4,h5⟩,h6⟩,h7⟩,h8⟩:=h9
            have e1:=eq_of_beq h1
            have e2:=eq_of_beq h4
            subst e1 e2
            exact only (zdn ok (ok.glob h6) (ok.bare _ (Ϣ.mp h5)) (ok.glob h3) (ok.bare _ (Ϣ.mp h2)) h8 (sA hcf hm e X c u ok h7).1) rfl fun _=>rfl
      | lset=>
        match es,args,h with
        | [],_,h=>exact (z6 (show (_&&false)=true from h)).elim
        | _::_::_,_,h=>exact (z6 (show (_&&false)=true from h)).elim
        | [_],[],h=>exact (z6 (show (_&&false)=true from h)).elim
        | [_],_::_::_,h=>exact (z6 (show (_&&false)=true from h)).elim
        | [e],[z],h=>
          have h9:(n==("len":Str)&&B.bare.contains n&&gloK (c.names.lookup n)&&(match vD z with
            | some (y,u)=>y==("set":Str)&&B.bare.contains y&&gloK (c.names.lookup y)&&chkE B c e u&&notStar u
            | none=>false))=true:=h
          cases hz:vD z with
          | none=>rw [hz] at h9;exact (z6 h9).elim
          | some q=>
            obtain ⟨y,u⟩:=q
            rw [hz] at h9
            obtain ⟨py,pu,rfl⟩:=Zb hz
            simp only [ζ] at h9
            obtain ⟨⟨⟨h1,h2⟩,h3⟩,⟨⟨⟨h4,h5⟩,h6⟩,h7⟩,h8⟩:=h9
            have e1:=eq_of_beq h1
            have e2:=eq_of_beq h4
            subst e1 e2
            exact only (zdy ok (ok.glob h6) (ok.bare _ (Ϣ.mp h5)) (ok.glob h3) (ok.bare _ (Ϣ.mp h2)) h8 (sA hcf hm e X c u ok h7).1) rfl fun _=>rfl
    | cons _ _=>exact nobE h
  | .call f es=>fun X c x ok h=>by
    have hb:Μ x.ctorIdx 16=true:=by revert h;cases x <;> first | exact non | exact fun _=>rfl
    revert h;apply wB hb;clear hb;intro q args kws pos h
    have hb:Μ q.ctorIdx 23=true:=by revert h;cases q <;> first | exact non | exact fun _=>rfl
    revert h;apply xH hb;clear hb;intro n p h
    cases kws with
    | nil=>
      have h:(B.fns[f]?==some n&&gloK (c.names.lookup n)&&yj n&&chkEs B c es args&&!es.isEmpty)=true:=h
      simp only [ζ] at h
      obtain ⟨⟨⟨⟨h1,h2⟩,h3⟩,h4⟩,h5⟩:=h
      cases args with
      | nil=>
        cases es with
        | nil=>cases h5
        | cons _ _=>exact nobE h4
      | cons y ys=>exact only (s_call hcf ok (eq_of_beq h1) (ok.glob h2) (zX h3).1 (xZ h4) (sEs hcf hm es X c (y::ys) ok h4)) rfl fun _=>rfl
    | cons _ _=>exact nobE h
  | .callk f perm es=>fun X c x ok h=>by
    have hb:Μ x.ctorIdx 16=true:=by revert h;cases x <;> first | exact non | exact fun _=>rfl
    revert h;apply wB hb;clear hb;intro q args kws pos h
    have hb:Μ q.ctorIdx 23=true:=by revert h;cases q <;> first | exact non | exact fun _=>rfl
    revert h;apply xH hb;clear hb;intro n p h
    cases args with
    | nil=>
      refine only (Vy hm ok ?_ fun q=>sKs hcf hm es X c kws ok q) rfl fun _=>rfl
      cases kws <;> exact h
    | cons _ _=>exact nobE h
  | .comp t js it ifs elt=>fun X c x ok h=>by
    have hb:Μ x.ctorIdx 8=true:=by revert h;cases x <;> first | exact non | exact fun _=>rfl
    revert h;apply jJ hb;clear hb;intro y gens sc pos h
    match gens,h with
    | [⟨tgt,iter,cs,kk⟩],h=>exact only (Z4 (fun X c tgt x ok q=>sI hcf hm it X c tgt x ok q) (fun X c xs ok q l=>sFs hcf hm ifs X c xs ok q l) (fun X c x ok q=>(sA hcf hm elt X c x ok q).1) ok h).1 rfl fun _=>rfl
    | [],h=>exact nobE h
    | ⟨_,_,_,_⟩::⟨_,_,_,_⟩::_,h=>exact nobE h
  | .box e=>fun X c x ok h=>by
    have h:(UL x&&chkE B c e x)=true:=h
    rw [ζ] at h
    have pe:PE X x (TX Γ cf (.box e)):=((sA hcf hm e X c x ok h.2).1).imp fun σ H Q ⟨ρ,S,V,g,Hz,hw,w,env,kk⟩=>⟨ρ,S,_,g,Hz,hw,w,env,fun y v H1 g1 S1 st w1 vx q=>by
      obtain ⟨d,k⟩:=y
      cases k with
      | fr=>
        obtain ⟨g2,s2,w2,h2⟩:=boxed st w1 vx
        exact kk (.ref S1.length,.st) v H1 g2 _ s2 w2 h2 q
      | _=>exact q.elim⟩
    have hp:=h.1
    cases x <;> first | exact only pe rfl fun _=>rfl | exact nobE hp
  | .dic tk ks es=>fun X c x ok h=>by
    have hb:Μ x.ctorIdx 6=true:=by revert h;cases x <;> first | exact non | exact fun _=>rfl
    revert h;apply zee hb;clear hb;intro keys vals pos h
    have h:(chkDk ks keys&&chkFs B c es vals&&decide (ks.length=es.length)&&decide (ks.length<=15))=true:=h
    simp only [ζ,decide_eq_true_eq] at h
    obtain ⟨⟨⟨h1,h2⟩,h3⟩,h4⟩:=h
    refine only ?_ rfl fun _=>rfl
    cases ks with
    | nil=>
      cases keys with
      | cons _ _=>exact nobE h1
      | nil=>
        cases es with
        | cons _ _=>cases h3
        | nil=>
          cases vals with
          | cons _ _=>exact nobE h2
          | nil=>
            cases tk with
            | true=>exact zbw (ks:=[])
            | false=>exact zbx
    | cons k0 ks=>
      have hps:=sPs (pos:=pos) hcf hm es X c vals (k0::ks) keys ok h2 h1 h3
      obtain ⟨l1,l2⟩:=Z9 h1
      have l3:=Z7 h2
      have hd:=zdC hps l2 (by rw [<- l1,h3,l3]) (fun z=>by rw [z] at l1;cases l1) (by rw [<- l1];exact h4)
      cases tk with
      | false=>exact hd
      | true=>exact hd.imp fun σ H Q ⟨ρ,S,V,g,Hz,hw,w,env,kk⟩=>⟨ρ,S,V,g,Hz,zB hm es (fun ds S1 q=>by
        obtain ⟨hq,_⟩:=xu q
        unfold dicOk at hq
        simp at hq) hw,w,env,kk⟩
  | .mth m o es=>fun X c x ok h=>by
    have hb:Μ x.ctorIdx 16=true:=by revert h;cases x <;> first | exact non | exact fun _=>rfl
    revert h;apply wB hb;clear hb;intro f args kws pos h
    obtain ⟨w,ap,y,ys,rfl,rfl,rfl,h1,h2,h3,h4,h5⟩:=zej h
    exact only (s_mth ok (sA hcf hm o X c w ok h1).1 (xZ h2) (sEs hcf hm es X c (y::ys) ok h2) h3 h4 h5) rfl fun _=>rfl
  | .flip e=>fun X c x ok h=>nobE h
  | .callv i es=>fun X c x ok h=>by
    have hb:Μ x.ctorIdx 16=true:=by revert h;cases x <;> first | exact non | exact fun _=>rfl
    revert h;apply wB hb;clear hb;intro q args kws pos h
    have hb:Μ q.ctorIdx 23=true:=by revert h;cases q <;> first | exact non | exact fun _=>rfl
    revert h;apply xH hb;clear hb;intro n p h
    cases kws with
    | nil=>
      have h:(c.N[i]?==some n&&visK (c.names.lookup n)&&yj n&&chkEs B c es args&&!es.isEmpty)=true:=h
      simp only [ζ] at h
      obtain ⟨⟨⟨⟨h1,h2⟩,h3⟩,h4⟩,h5⟩:=h
      obtain ⟨p1,p2,_⟩:=zX h3
      cases args with
      | nil=>
        cases es with
        | nil=>cases h5
        | cons _ _=>exact nobE h4
      | cons y ys=>exact only (zby hcf ok (by rw [ok.N];exact eq_of_beq h1) (ok.vis h2) p1 p2 (xZ h4) (sEs hcf hm es X c (y::ys) ok h4)) rfl fun _=>rfl
    | cons _ _=>exact nobE h
  | .seq _=>fun X c x ok h=>none_of fun _ _ _ q=>q
  | .rng _ _=>fun X c x ok h=>none_of fun _ _ _ q=>q
  | .enum _=>fun X c x ok h=>none_of fun _ _ _ q=>q
  | .zip _ _=>fun X c x ok h=>none_of fun _ _ _ q=>q
  | .rev _=>fun X c x ok h=>none_of fun _ _ _ q=>q
  | .dwn _=>fun X c x ok h=>none_of fun _ _ _ q=>q
  | .items _=>fun X c x ok h=>none_of fun _ _ _ q=>q
theorem sRs (hcf:CfN B cf) (hm:Mono cf):∀ (es:List E) (X:Cx) (c:Cc) (xs:List Expr),XOk Γ B (spN Γ cf) k X c->chkEs B c es xs=true->PA X xs (TXr Γ cf es)
 | [],X,c,xs,ok,h=>by
  cases xs with
  | nil=>exact s_nil
  | cons _ _=>exact nobE h
 | [e],X,c,xs,ok,h=>by
  cases xs with
  | nil=>exact nobE h
  | cons x xs=>
   have h:(chkE B c e x&&notStar x&&chkEs B c [] xs)=true:=h
   rw [ζ,ζ] at h
   cases xs with
   | nil=>exact zV (sA hcf hm e X c x ok h.1.1).1 yV (zb h.1.2 _ _)
   | cons _ _=>exact nobE h.2
 | e::f::es,X,c,xs,ok,h=>by
  cases xs with
  | nil=>exact nobE h
  | cons x xs=>
   have h:(chkE B c e x&&notStar x&&chkEs B c (f::es) xs)=true:=h
   rw [ζ,ζ] at h
   exact zaw h.1.2 (sA hcf hm e X c x ok h.1.1).1 (sEs hcf hm (f::es) X c xs ok h.2)
theorem sEs (hcf:CfN B cf) (hm:Mono cf):∀ (es:List E) (X:Cx) (c:Cc) (xs:List Expr),XOk Γ B (spN Γ cf) k X c->chkEs B c es xs=true->PA X xs (TXs Γ cf es)
 | [],X,c,xs,ok,h=>by
  cases xs with
  | nil=>exact s_nil
  | cons _ _=>exact nobE h
 | e::es,X,c,xs,ok,h=>by
  cases xs with
  | nil=>exact nobE h
  | cons x xs=>
   have h:(chkE B c e x&&notStar x&&chkEs B c es xs)=true:=h
   rw [ζ,ζ] at h
   exact zaw h.1.2 (sA hcf hm e X c x ok h.1.1).1 (sEs hcf hm es X c xs ok h.2)
theorem sPs {pos:Pos}(hcf:CfN B cf) (hm:Mono cf):∀ (es:List E) (X:Cx) (c:Cc) (vals:List Expr) (ks:List Key) (keys:List (Option Expr)),XOk Γ B (spN Γ cf) k X c->chkFs B c es vals=true->chkDk ks keys=true->ks.length=es.length->PPd X pos keys vals ks (TXs Γ cf es)
 | [],X,c,vals,ks,keys,ok,h,hk,hl=>by
  cases vals with
  | cons _ _=>exact nobE h
  | nil=>
   cases ks with
   | cons _ _=>cases hl
   | nil=>
    cases keys with
    | cons _ _=>exact nobE hk
    | nil=>exact zdv
 | a::es,X,c,vals,ks,keys,ok,h,hk,hl=>by
  cases vals with
  | nil=>exact nobE h
  | cons x vals=>
   have h:(chkE B c a x&&chkFs B c es vals)=true:=h
   rw [ζ] at h
   cases ks with
   | nil=>cases hl
   | cons k0 ks=>
    obtain ⟨q,n,p,r,rfl,hc,hr⟩:=jV hk
    exact zbu (hc X) (sA hcf hm a X c x ok h.1).1 (sPs hcf hm es X c vals ks r ok h.2 hr (by simpa using hl))
theorem sKs (hcf:CfN B cf) (hm:Mono cf):∀ (es:List E) (X:Cx) (c:Cc) (kws:List bG),XOk Γ B (spN Γ cf) k X c->chkKs B c es kws=true->PK X kws (TXs Γ cf es)
 | [],X,c,xs,ok,h=>by
  cases xs with
  | nil=>exact zdz
  | cons _ _=>exact nobE h
 | e::es,X,c,xs,ok,h=>by
  cases xs with
  | nil=>exact nobE h
  | cons q xs=>
   obtain ⟨n,x,kp⟩:=q
   cases n with
   | none=>exact nobE h
   | some n=>
    have h:(chkE B c e x&&chkKs B c es xs)=true:=h
    rw [ζ] at h
    exact zbv (sA hcf hm e X c x ok h.1).1 (sKs hcf hm es X c xs ok h.2)
theorem sI (hcf:CfN B cf) (hm:Mono cf):∀ (e:E) (X:Cx) (c:Cc) (tgt x:Expr),XOk Γ B (spN Γ cf) k X c->chkI B c e tgt x=true->PI X tgt x (TXi Γ cf e)
 | .seq e,X,c,tgt,x,ok,h=>s_seq ok.hK (sA hcf hm e X c x ok h).1
 | .rng none hi,X,c,tgt,x,ok,h=>by
  have hb:Μ x.ctorIdx 16=true:=by revert h;cases x <;> first | exact non | exact fun _=>rfl
  revert h;apply wB hb;clear hb;intro q args kws pos h
  have hb:Μ q.ctorIdx 23=true:=by revert h;cases q <;> first | exact non | exact fun _=>rfl
  revert h;apply xH hb;clear hb;intro n p h
  cases kws with
  | nil=>
   match args,h with
   | [y],h=>
    have h:(n==("range":Str)&&B.bare.contains n&&gloK (c.names.lookup n)&&chkE B c hi y&&notStar y)=true:=h
    simp only [ζ] at h
    obtain ⟨⟨⟨⟨h1,h2⟩,h3⟩,h4⟩,h5⟩:=h
    have e1:=eq_of_beq h1
    subst e1
    exact zds (ok.glob h3) (ok.bare _ (Ϣ.mp h2)) h5 (sA hcf hm hi X c y ok h4).1
   | [],h=>exact nobE h
   | _::_::_,h=>exact nobE h
  | cons _ _=>rcases args with _ | ⟨_,_ | ⟨_,_ | ⟨_,_⟩⟩⟩ <;> exact nobE h
 | .rng (some lo) hi,X,c,tgt,x,ok,h=>by
  have hb:Μ x.ctorIdx 16=true:=by revert h;cases x <;> first | exact non | exact fun _=>rfl
  revert h;apply wB hb;clear hb;intro q args kws pos h
  have hb:Μ q.ctorIdx 23=true:=by revert h;cases q <;> first | exact non | exact fun _=>rfl
  revert h;apply xH hb;clear hb;intro n p h
  cases kws with
  | nil=>
   match args,h with
   | [x,y],h=>
    have h:(n==("range":Str)&&B.bare.contains n&&gloK (c.names.lookup n)&&chkE B c lo x&&notStar x&&chkE B c hi y&&notStar y)=true:=h
    simp only [ζ] at h
    obtain ⟨⟨⟨⟨⟨⟨h1,h2⟩,h3⟩,h4⟩,h5⟩,h6⟩,h7⟩:=h
    have e1:=eq_of_beq h1
    subst e1
    exact zdr (ok.glob h3) (ok.bare _ (Ϣ.mp h2)) h5 h7 (sA hcf hm lo X c x ok h4).1 (sA hcf hm hi X c y ok h6).1
   | [],h=>exact nobE h
   | [_],h=>exact nobE h
   | _::_::_::_,h=>exact nobE h
  | cons _ _=>rcases args with _ | ⟨_,_ | ⟨_,_ | ⟨_,_⟩⟩⟩ <;> exact nobE h
 | .enum e,X,c,tgt,x,ok,h=>by
  have hb:Μ x.ctorIdx 16=true:=by revert h;cases x <;> first | exact non | exact fun _=>rfl
  revert h;apply wB hb;clear hb;intro q args kws pos h
  have hb:Μ q.ctorIdx 23=true:=by revert h;cases q <;> first | exact non | exact fun _=>rfl
  revert h;apply xH hb;clear hb;intro n p h
  cases kws with
  | nil=>
   match args,h with
   | [y],h=>
    have h:(zaR tgt&&n==("enumerate":Str)&&B.bare.contains n&&gloK (c.names.lookup n)&&chkE B c e y&&notStar y)=true:=h
    simp only [ζ] at h
    obtain ⟨⟨⟨⟨⟨h0,h1⟩,h2⟩,h3⟩,h4⟩,h5⟩:=h
    have e1:=eq_of_beq h1
    subst e1
    cases tgt with
    | Tuple elts kk tp=>exact zdB ok.hK (ok.glob h3) (ok.bare _ (Ϣ.mp h2)) h5 (sA hcf hm e X c y ok h4).1
    | _=>exact nobE h0
   | [],h=>exact nobE h
   | _::_::_,h=>exact nobE h
  | cons _ _=>rcases args with _ | ⟨_,_ | ⟨_,_⟩⟩ <;> exact nobE h
 | .var _,X,c,tgt,x,ok,h=>nobE h
 | .con _,X,c,tgt,x,ok,h=>nobE h
 | .glo _ _,X,c,tgt,x,ok,h=>nobE h
 | .bin _ _ _,X,c,tgt,x,ok,h=>nobE h
 | .neg _,X,c,tgt,x,ok,h=>nobE h
 | .cmp _ _ _,X,c,tgt,x,ok,h=>nobE h
 | .chn _ _ _ _ _,X,c,tgt,x,ok,h=>nobE h
 | .not _,X,c,tgt,x,ok,h=>nobE h
 | .and _ _,X,c,tgt,x,ok,h=>nobE h
 | .or _ _,X,c,tgt,x,ok,h=>nobE h
 | .ite _ _ _,X,c,tgt,x,ok,h=>nobE h
 | .tup _,X,c,tgt,x,ok,h=>nobE h
 | .lst _,X,c,tgt,x,ok,h=>nobE h
 | .dic _ _ _,X,c,tgt,x,ok,h=>nobE h
 | .sub _ _,X,c,tgt,x,ok,h=>nobE h
 | .slc _ _ _,X,c,tgt,x,ok,h=>nobE h
 | .bi _ _,X,c,tgt,x,ok,h=>nobE h
 | .mth _ _ _,X,c,tgt,x,ok,h=>nobE h
 | .call _ _,X,c,tgt,x,ok,h=>nobE h
 | .callk _ _ _,X,c,tgt,x,ok,h=>nobE h
 | .callv _ _,X,c,tgt,x,ok,h=>nobE h
 | .comp _ _ _ _ _,X,c,tgt,x,ok,h=>nobE h
 | .box _,X,c,tgt,x,ok,h=>nobE h
 | .one _,X,c,tgt,x,ok,h=>nobE h
 | .flip _,X,c,tgt,x,ok,h=>nobE h
 | .zip _ _,X,c,tgt,x,ok,h=>nobE h
 | .dwn es,X,c,tgt,x,ok,h=>nobE h
 | .rev hi,X,c,tgt,x,ok,h=>nobE h
 | .items e,X,c,tgt,x,ok,h=>nobE h
theorem sFs (hcf:CfN B cf) (hm:Mono cf):∀ (es:List E) (X:Cx) (c:Cc) (xs:List Expr),XOk Γ B (spN Γ cf) k X c->chkFs B c es xs=true->es.length<=1->PTs X xs (TXf Γ cf es)
 | [],X,c,xs,ok,h,_=>by
  cases xs with
  | nil=>exact s_fn
  | cons _ _=>exact nobE h
 | [e],X,c,xs,ok,h,_=>by
  cases xs with
  | nil=>exact nobE h
  | cons x xs=>
   have h:(chkE B c e x&&chkFs B c [] xs)=true:=h
   rw [ζ] at h
   cases xs with
   | nil=>exact s_f1 (sA hcf hm e X c x ok h.1).2.1
   | cons _ _=>cases (show false=true from h.2)
 | _::_::_,X,c,xs,ok,h,hl=>by
  exfalso
  simp at hl
theorem sO (hcf:CfN B cf) (hm:Mono cf):∀ (o:Option E) (X:Cx) (c:Cc) (x:Option Expr),XOk Γ B (spN Γ cf) k X c->chkO B c o x=true->PO X x (TXo Γ cf o)
 | none,X,c,x,ok,h=>by
  cases x with
  | none=>exact s_poN
  | some _=>exact nobE h
 | some o,X,c,x,ok,h=>by
  cases x with
  | none=>exact nobE h
  | some x=>exact s_po (sA hcf hm o X c x ok h).1
end
theorem sCS (hcf:CfN B cf) (hm:Mono cf) {t:T}{js:List Nat}{it:E}{ifs:List E}{elt:E}{X:Cx}{c:Cc}{x:Expr}(ok:XOk Γ B (spN Γ cf) k X c) (h:chkE B c (.comp t js it ifs elt) x=true):CSet X x (TX Γ cf (.comp t js it ifs elt)):=by
 have hb:Μ x.ctorIdx 8=true:=by revert h;cases x <;> first | exact non | exact fun _=>rfl
 revert h;apply jJ hb;clear hb;intro y gens sc pos h
 match gens,h with
 | [⟨tgt,iter,cs,kk⟩],h=>exact (Z4 (sI hcf hm it) (sFs hcf hm ifs) (fun X c x ok q=>(sA hcf hm elt X c x ok q).1) ok h).2
 | [],h=>exact nobE h
 | ⟨_,_,_,_⟩::⟨_,_,_,_⟩::_,h=>exact nobE h
end
section
variable {X:Cx}{Γ:Gm}{Hz H:Hp}{gz g:G}{ρ:List Slot}{σ:L2.St}{S:Store}{x:Expr}{a:Addr}
theorem EnvO.updOw {i:Nat}{c c':D}{o':HO}(env:EnvO Γ Hz H g ρ σ) (hi:ρ[i]?=some (.ow c)) (ha:σ[i]?=some (some (.ref a))) (hc:zM Γ (upd H a o') g a c') (hin:isIns c'=false):EnvO Γ Hz (upd H a o') g (ρ.set i (.ow c')) σ:=by
 obtain ⟨a',e1,e2,e3,e4,e5,e6⟩:=env.ow i c hi
 rw [ha] at e1
 cases e1
 refine ⟨by rw [b8];exact env.len,fun j e q=>?_,fun j e q=>?_,fun j j' e e' b q1 q2 q3 q4=>?_⟩
 ·rcases zx q with ⟨rfl,h1,h2⟩ | ⟨h1,h2⟩
  ·cases h2
  ·exact env.sh j e h2
 ·rcases zx q with ⟨rfl,h1,h2⟩ | ⟨h1,h2⟩
  ·cases h2
   exact ⟨a,ha,e2,e3,e4,hc,hin⟩
  ·obtain ⟨b,f1,f2,f3,f4,f5,f6⟩:=env.ow j e h2
   have hb:b≠a:=by
    rintro rfl
    exact h1 (env.inj i j c e b hi h2 ha f1)
   exact ⟨b,f1,f2,f3,f4,f5.mono (Le.refl g) fun o z=>by rw [zf hb];exact z,f6⟩
 ·have ow:∀ {j:Nat}{e:D},(ρ.set i (Slot.ow c'))[j]?=some (.ow e)->∃ e,ρ[j]?=some (.ow e):=fun {j e} q=>by
   rcases zx q with ⟨rfl,h1,h2⟩ | ⟨h1,h2⟩
   ·exact ⟨c,hi⟩
   ·exact ⟨e,h2⟩
  obtain ⟨_,w1⟩:=ow q1
  obtain ⟨_,w2⟩:=ow q2
  exact env.inj j j' _ _ b w1 w2 q3 q4
theorem Step.WY {H':Hp}{g':G}{o':HO}(s:Step H g H' g') (ha:a∈g'.α):Step H g (upd H' a o') g' where
 le:=s.le
 fr:=fun b u e n=>by
  have hb:b≠a:=by
   rintro rfl
   rcases s.na b ha with q | q
   ·exact n q
   ·rw [e] at q;cases q
  rw [zf hb];exact s.fr b u e n
 ex:=fun b u e=>by
  by_cases hb:b=a
  ·subst hb
   exact ⟨o',zj⟩
  ·rw [zf hb];exact s.ex b u e
 na:=s.na
 nr:=s.nr
theorem WOk.WY {o':HO}{n:Nat}{c c':D}(w:WOk Γ H g S) (he:S[n]?=some c) (hg:gone c=false) (hn:g.α[n]?=some a) (hc:zM Γ (upd H a o') g a c'):WOk Γ (upd H a o') g (S.set n c') where
 rh:=fun b u q=>by
  have hb:b≠a:=by
   rintro rfl
   rw [w.off n c b he hn hg] at q;cases q
  rw [zf hb];exact w.rh b u q
 len:=by rw [b8];exact w.len
 nd:=w.nd
 off:=fun k d b h1 h2 h3=>by
  rcases zx h1 with ⟨rfl,z1,rfl⟩ | ⟨z1,z2⟩
  ·rw [hn] at h2
   cases h2
   exact w.off _ c _ he hn hg
  ·exact w.off k d b z2 h2 h3
 cell:=fun k c b h1 h2=>by
  rcases zx h1 with ⟨rfl,z1,rfl⟩ | ⟨z1,z2⟩
  ·rw [hn] at h2
   cases h2
   exact hc
  ·have hb:b≠a:=by
    rintro rfl
    exact z1 ((nodup_inj w.nd hn h2))
   exact (w.cell k c b z2 h2).mono (Le.refl g) fun o z=>by rw [zf hb];exact z
where
 nodup_inj:∀ {l:List Addr}{i j:Nat}{b:Addr},l.Nodup->l[i]?=some b->l[j]?=some b->i=j:=fun {l i j b} nd h1 h2=>by
  have hi:=(Ζ.mp h1).1
  have hj:=(Ζ.mp h2).1
  have e:l[i]?=l[j]?:=by rw [h1,h2]
  exact (oV hi nd).mp e
theorem size_of {n:Nat}(h:fits (n+1)=true):n < sizeLine:=by
 have:=yO h
 lia
theorem J5 {env:Env}{cpos:Pos}(hs:notStar x=true):((eV cpos (Ϥ [x] env)).all (fun x=>!x.1)&&(cR cpos (aL [] env)).all (fun x=>x.1.isSome)
  &&decide (([x]:List Expr).length+([]:List bG).length+(if ([]:List bG).isEmpty then 0 else 1) < 30))=true:=by
 rw [zb hs]
 rfl
theorem QZ {ds:List D}{vs:List V}(h:Hass Γ g ds vs):Hass Γ g ds.dropLast vs.dropLast:=by
 have hl:=h.len
 refine Hass.of (by rw [cV,cV,hl]) fun j d v e1 e2=>?_
 have hj:j < ds.dropLast.length:=(Ζ.mp e1).1
 rw [cV] at hj
 rw [nF,if_pos hj] at e1
 rw [nF,if_pos (by rw [hl];exact hj)] at e2
 obtain ⟨u,e3,e4⟩:=h.get e1
 rw [e3] at e2
 cases e2
 exact e4
end
section
variable {κ:Type} [DecidableEq κ]
theorem Wq {α:Type}:∀ (ks:List κ) (ds:List α) (k:κ) (d:α),(mapK ks ds k d).length=ds.length
 | [],ds,_,_=>by cases ds <;> rfl
 | _::_,[],_,_=>rfl
 | a::ks,b::ds,k,d=>by simp [mapK,Wq ks ds k d]
theorem VF:∀ (ks:List κ) (vs:List V) (k:κ),ks.length=vs.length->((ks.zip vs).any fun kv=>decide (kv.1=k))=hasK ks k
 | [],[],_,_=>rfl
 | a::ks,v::vs,k,h=>by
  have:=VF ks vs k (by simpa using h)
  unfold hasK at this ⊢
  simp only [bW,cj,this]
 | [],_::_,_,h=>by simp at h
 | _::_,[],_,h=>by simp at h
theorem VD:∀ (ks:List κ) (vs:List V) (k:κ) (v:V),(ks.zip vs).map (fun kv=>if kv.1=k then (kv.1,v) else kv)=ks.zip (mapK ks vs k v)
 | [],vs,_,_=>by cases vs <;> rfl
 | _::_,[],_,_=>rfl
 | a::ks,u::vs,k,v=>by
  have:=VD ks vs k v
  simp only [bW,ϧ,this,mapK]
  by_cases h:a=k
  ·simp [h]
  ·simp [h]
theorem We {ks:List κ}{vs:List V}{k:κ}{v:V}(h:ks.length=vs.length):putK (ks.zip vs) k v=(putKs ks vs k v).1.zip (putKs ks vs k v).2:=by
 unfold putK putKs
 rw [VF ks vs k h]
 by_cases q:hasK ks k=true
 ·rw [if_pos q,if_pos q,VD]
 ·rw [if_neg q,if_neg q]
  simp [List.zip_append h]
theorem Zo {α:Type}{ks:List κ}{ds:List α}{k:κ}{d:α}(h:ks.length=ds.length):(putKs ks ds k d).1.length=(putKs ks ds k d).2.length:=by
 unfold putKs
 split
 ·simp [Wq,h]
 ·simp [h]
theorem ZW {Γ:Gm}{g:G}:∀ {ks:List κ}{ds:List D}{vs:List V}{k:κ}{d:D}{v:V},Hass Γ g ds vs->Has Γ g d v->Hass Γ g (mapK ks ds k d) (mapK ks vs k v)
 | [],ds,vs,_,_,_,h,_=>by
  have e1:mapK ([]:List κ) ds=fun _ _=>ds:=by funext a b;cases ds <;> rfl
  have e2:mapK ([]:List κ) vs=fun _ _=>vs:=by funext a b;cases vs <;> rfl
  rw [e1,e2]
  exact h
 | _::_,[],vs,_,_,_,h,_=>by
  cases (show vs=[] from h)
  exact rfl
 | a::ks,b::ds,_,k,d,v,⟨u,r,e,h1,h2⟩,hd=>by
  subst e
  refine ⟨if a=k then v else u,mapK ks r k v,rfl,?_,ZW h2 hd⟩
  split
  ·exact hd
  ·exact h1
theorem jP {Γ:Gm}{g:G}{ks:List κ}{ds:List D}{vs:List V}{k:κ}{d:D}{v:V}(h:Hass Γ g ds vs) (hd:Has Γ g d v):Hass Γ g (putKs ks ds k d).2 (putKs ks vs k v).2:=by
 unfold putKs
 split
 ·exact ZW h hd
 ·exact h.app (Hass.mk1 hd)
theorem jF {α β:Type}{ks:List κ}{ds:List α}{es:List β}{k:κ}{d:α}{e:β}:(putKs ks ds k d).1=(putKs ks es k e).1:=by
 unfold putKs
 split <;> rfl
end
def rSetU:TSet:=fun o i v H Q=>rSetL o i v H Q\/∃ a H',o=.ref a/\DPut H a i v H'/\Q H'
theorem zbr {X:Cx}(hu:X.A.units+1 < aj):PSet X rSetU:=by
 intro pJ s σ H o i v ov iv u Q I r1 r2 r3 h
 rcases h with h | ⟨a,H',rfl,hp,q⟩
 ·exact set_list pJ s σ H o i v ov iv u Q I r1 r2 r3 h
 ·cases r1
  exact Kf hu I hp r2 r3 fun s' I'=>⟨H',I',q⟩
theorem Ql {Γ:Gm}{H:Hp}{g:G}{a:Addr}{c c' kd d:D}{vk vd:V}(h:putD c kd d=some c') (hc:zM Γ H g a c) (sm:Same g.R H) (hk:Has Γ g kd vk) (hd:Has Γ g d vd):
    ∃ o',(∀ Q:Hp->Prop,Q (upd H a o')->rSetU (.ref a) vk vd H Q)/\zM Γ (upd H a o') g a c'/\isIns c'=false:=by
  cases c with
  | lst l=>
   cases kd with
   | int i=>
    have h:(idx l.length i).map (fun k=>D.lst (l.set k d))=some c':=h
    cases e:idx l.length i with
    | none=>rw [e] at h;cases h
    | some j=>
      rw [e] at h
      cases h
      obtain ⟨vs,h1,h2⟩:=hc
      cases (show vk=.int i from hk)
      refine ⟨.lst (vs.set j vd),fun Q q=>.inl ⟨a,vs,i,j,rfl,rfl,h1,by rw [h2.len];exact e,q⟩,⟨_,zj,h2.set j hd⟩,rfl⟩
   | _=>cases h
  | dK ks ds=>
    have h:(keyD kd).bind (fun k=>if fits (ks.length+1) then some (let p:=putKs ks ds k d;D.dK p.1 p.2) else none)=some c':=by
      cases kd <;> exact h
    cases e:keyD kd with
    | none=>rw [e] at h;cases h
    | some k=>
      rw [e] at h
      have h:(if fits (ks.length+1)=true then some (D.dK (putKs ks ds k d).1 (putKs ks ds k d).2) else none)=some c':=h
      split at h
      · rename_i hf
        cases h
        obtain ⟨vs,h1,h2,h3⟩:=hc
        have ek:=Wu e hk
        subst ek
        have el:ks.length=vs.length:=by rw [h3.len];exact h2
        refine ⟨.dK ((putKs ks vs k vd).1.zip (putKs ks vs k vd).2),fun Q q=>.inr ⟨a,_,rfl,DPut.k h1 (by rw [gw];have:=size_of hf;lia),?_⟩,⟨_,?_,Zo h2,jP h3 hd⟩,rfl⟩
        · rw [We el]
          exact q
        · rw [zj,jF (ds:=ds) (es:=vs) (d:=d) (e:=vd)]
      · cases h
  | dT ks ds=>
   cases kd with
   | tup t=>
    have h:(keysD t).bind (fun k=>if fits (ks.length+1) then some (let p:=putKs ks ds k d;D.dT p.1 p.2) else none)=some c':=h
    cases e:keysD t with
    | none=>rw [e] at h;cases h
    | some k=>
      rw [e] at h
      have h:(if fits (ks.length+1)=true then some (D.dT (putKs ks ds k d).1 (putKs ks ds k d).2) else none)=some c':=h
      split at h
      · rename_i hf
        cases h
        obtain ⟨vs,h1,h2,h3⟩:=hc
        obtain ⟨b,us,rfl,h4,h5⟩:=hk
        have ek:=qj e h5
        subst ek
        have el:ks.length=vs.length:=by rw [h3.len];exact h2
        refine ⟨.dT ((putKs ks vs k vd).1.zip (putKs ks vs k vd).2),fun Q q=>.inr ⟨a,_,rfl,DPut.t h1 (sm _ _ h4) (by rw [gw];have:=size_of hf;lia),?_⟩,⟨_,?_,Zo h2,jP h3 hd⟩,rfl⟩
        · rw [We el]
          exact q
        · rw [zj,jF (ds:=ds) (es:=vs) (d:=d) (e:=vd)]
      · cases h
   | _=>cases h
  | _=>cases h
structure EN (Γ:Gm) (Hz:Hp) (gz g:G) (E:Ends) (K:Ko):Prop where
 nx:∀ ρ σ H g' S,Step Hz gz H g'->Le g g'->WOk Γ H g' S->EnvO Γ Hz H g' ρ σ->K (.next ρ) S->E.nx σ H
 bk:∀ ρ σ H g' S,Step Hz gz H g'->Le g g'->WOk Γ H g' S->EnvO Γ Hz H g' ρ σ->K (.brk ρ) S->E.bk σ H
 ct:∀ ρ σ H g' S,Step Hz gz H g'->Le g g'->WOk Γ H g' S->EnvO Γ Hz H g' ρ σ->K (.cnt ρ) S->E.ct σ H
 rt:∀ d fr v H g' S,Step Hz gz H g'->Le g g'->WOk Γ H g' S->VOk Γ Hz d fr v H g'->K (.ret d fr) S->E.rt v H
theorem EN.le {Γ:Gm}{Hz:Hp}{gz g g1:G}{E:Ends}{K:Ko}(n:EN Γ Hz gz g E K) (le:Le g g1):EN Γ Hz gz g1 E K:=
 ⟨fun ρ σ H g' S st l=>n.nx ρ σ H g' S st (le.trans l),fun ρ σ H g' S st l=>n.bk ρ σ H g' S st (le.trans l),fun ρ σ H g' S st l=>n.ct ρ σ H g' S st (le.trans l),fun d fr v H g' S st l=>n.rt d fr v H g' S st (le.trans l)⟩
def TK (Γ:Gm) (Hz:Hp) (gz:G) (W:List Slot->Ko->Store->Prop):TS:=fun E σ H=>∃ ρ S K g,W ρ K S/\Step Hz gz H g/\WOk Γ H g S/\EnvO Γ Hz H g ρ σ/\EN Γ Hz gz g E K
theorem goK {Γ:Gm}{Hz:Hp}{gz:G}{W:List Slot->Ko->Store->Prop}{E:Ends}{σ:L2.St}{H:Hp}{P:Prop}(h:TK Γ Hz gz W E σ H) (f:∀ ρ S K g,W ρ K S->Step Hz gz H g->WOk Γ H g S->EnvO Γ Hz H g ρ σ->EN Γ Hz gz g E K->P):P:=
 let ⟨ρ,S,K,g,a,b,c,d,e⟩:=h;f ρ S K g a b c d e
abbrev TC (Γ:Gm) (cf:Cf) (w:Nat) (Hz:Hp) (gz:G) (c:C):TS:=TK Γ Hz gz (wpC cf w c)
abbrev TCs (Γ:Gm) (cf:Cf) (w:Nat) (Hz:Hp) (gz:G) (cs:List C):TS:=TK Γ Hz gz (wpCs cf w cs)
section
variable {X:Cx}{Γ:Gm}{cf:Cf}{w:Nat}{Hz:Hp}{gz:G}{st:Stmt}{sts aa bb:List Stmt}{x y z tgt o:Expr}{pos p spos:Pos}{e a b:E}{s:C}{ss A B:List C}
theorem Vc {i:Expr}(h:∀ lo hi st p,i≠.Slice lo hi st p) (v:δ) (env:Env):fV (.Subscript o i pos) env v=(do
   let ov <- gk [v] (eval o env)
   let iv <- gk [v,ov] (eval i env)
   standAt pos
   gk [v,ov,iv] (setItem ov iv v)
   release [v,ov,iv] []):=by
 cases i <;> first | rfl | exact absurd rfl (h _ _ _ _)
theorem zdw:PS X (.Pass pos) (TC Γ cf w Hz gz .pass):=zbN.imp fun E σ H h0=>goK h0 fun ρ S K g hw st wk env n=>n.nx ρ σ H g S st (Le.refl g) wk env hw
theorem s_brk:PS X (.Break pos) (TC Γ cf w Hz gz .brk):=Qp.imp fun E σ H h0=>goK h0 fun ρ S K g hw st wk env n=>n.bk ρ σ H g S st (Le.refl g) wk env hw
theorem s_cnt:PS X (.Continue pos) (TC Γ cf w Hz gz .cnt):=YB.imp fun E σ H h0=>goK h0 fun ρ S K g hw st wk env n=>n.ct ρ σ H g S st (Le.refl g) wk env hw
theorem zdo:PSs X [] (TCs Γ cf w Hz gz []):=zbL.imp fun E σ H h0=>goK h0 fun ρ S K g hw st wk env n=>n.nx ρ σ H g S st (Le.refl g) wk env hw
theorem zbt (h1:PS X st (TC Γ cf w Hz gz s)) (h2:PSs X sts (TCs Γ cf w Hz gz ss)):PSs X (st::sts) (TCs Γ cf w Hz gz (s::ss)):=
 (Qn h1 h2).imp fun E σ H h0=>goK h0 fun ρ S K g hw st wk env n=>⟨ρ,S,_,g,hw,st,wk,env,fun ρ' σ' H' g' S' st' le w' env' q=>⟨ρ',S',K,g',q,st',w',env',n.le le⟩,n.bk,n.ct,n.rt⟩
theorem zcB {H:Hp}{g:G}{ρ:List Slot}{σ:L2.St}{S:Store}{i:Nat}(st:Step Hz gz H g) (wk:WOk Γ H g S) (env:EnvO Γ Hz H g ρ σ):∃ g',Step Hz gz H g'/\Le g g'/\WOk Γ H g' S/\EnvO Γ Hz H g' (ρ.set i (fz ((ρ[i]?).getD .no))) σ:=by
 have same:∀ s,ρ[i]?=some s->ρ.set i s=ρ:=fun s h=>by
  apply lq
  intro j
  by_cases hj:i=j
  ·subst hj;rw [Ϸ (Ζ.mp h).1,h]
  ·rw [ϋ hj]
 cases e:ρ[i]? with
 | none=>
  refine ⟨g,st,Le.refl g,wk,?_⟩
  rw [mX (List.getElem?_eq_none_iff.mp e)]
  exact env
 | some s=>
  cases s with
  | no=>exact ⟨g,st,Le.refl g,wk,by rw [show fz ((some Slot.no).getD .no)=.no from rfl,same _ e];exact env⟩
  | sh d=>exact ⟨g,st,Le.refl g,wk,by rw [show fz ((some (Slot.sh d)).getD .no)=.sh d from rfl,same _ e];exact env⟩
  | ow d=>
   obtain ⟨a,h1,h2,h3,h4,h5,h6⟩:=env.ow i d e
   obtain ⟨ob,ho,_⟩:=h5.isMut
   have le:Le g (g.put a ob):=Le.put h3
   refine ⟨g.put a ob,st.put h3 h2,le,wk.put ho h3 h4,by simp [env.len],fun j d' q=>?_,fun j d' q=>?_,fun j j' d1 d2 b q1 q2 q3 q4=>?_⟩
   ·rcases zx q with ⟨rfl,_,z⟩ | ⟨_,z⟩
    ·cases z
     exact ⟨.ref a,h1,jQ h3 ho h5⟩
    ·obtain ⟨v,f1,f2⟩:=env.sh j d' z
     exact ⟨v,f1,f2.mono le⟩
   ·rcases zx q with ⟨rfl,_,z⟩ | ⟨hne,z⟩
    ·cases z
    ·obtain ⟨b,f1,f2,f3,f4,f5,f6⟩:=env.ow j d' z
     have hb:b≠a:=by
      rintro rfl
      exact hne (env.inj i j d d' b e z h1 f1)
     exact ⟨b,f1,f2,by show upd g.R a ob b=none;rw [zf hb];exact f3,f4,f5.mono le fun _ z=>z,f6⟩
   ·rcases zx q1 with ⟨_,_,z⟩ | ⟨_,z1⟩
    ·cases z
    rcases zx q2 with ⟨_,_,z⟩ | ⟨_,z2⟩
    ·cases z
    exact env.inj j j' d1 d2 b z1 z2 q3 q4
theorem zcC {H:Hp}{g:G}{ρ:List Slot}{σ:L2.St}{S:Store}{i k:Nat}{l:List D}(st:Step Hz gz H g) (wk:WOk Γ H g S) (env:EnvO Γ Hz H g ρ σ) (hi:ρ[i]?=some (.sh (.ref k))) (hk:S[k]?=some (.lst l)):
  ∃ g',Step Hz gz H g'/\Le g g'/\WOk Γ H g' (S.set k (.ref k))/\EnvO Γ Hz H g' (ρ.set i (.sh (.lst l))) σ:=by
 obtain ⟨v,h1,a,ha,e⟩:=env.sh i _ hi
 subst e
 have hn:g.R a=none:=wk.off k _ a hk ha rfl
 obtain ⟨vs,ho,hv⟩:=wk.cell k _ a hk ha
 have le:Le g (g.put a (.lst vs)):=Le.put hn
 have hr:(g.put a (.lst vs)).R a=some (.lst vs):=zj
 refine ⟨g.put a (.lst vs),⟨st.le.trans le,st.fr,st.ex,st.na,fun b q=>?_⟩,le,⟨fun b u q=>?_,by rw [b8];exact wk.len,wk.nd,fun j c b q1 q2 q3=>?_,fun j c b q1 q2=>?_⟩,by simp [env.len],fun j d' q=>?_,fun j d' q=>?_,fun j j' d1 d2 b q1 q2 q3 q4=>?_⟩
 ·by_cases hb:b=a
  ·subst hb
   rcases st.na b (au ha) with z | z
   ·exact .inr (.inr (.inl z))
   ·exact .inr (.inl z)
  ·have q':upd g.R a (.lst vs) b≠none:=q
   rw [zf hb] at q'
   exact st.nr b q'
 ·have q':upd g.R a (.lst vs) b=some u:=q
  by_cases hb:b=a
  ·subst hb
   rw [zj] at q'
   cases q'
   exact ho
  ·rw [zf hb] at q'
   exact wk.rh b u q'
 ·rcases zx q1 with ⟨rfl,_,z⟩ | ⟨hne,z⟩
  ·rw [z] at q3;cases q3
  ·show upd g.R a (.lst vs) b=none
   have hb:b≠a:=by
    rintro rfl
    exact hne (WOk.WY.nodup_inj wk.nd ha q2)
   rw [zf hb]
   exact wk.off j c b z q2 q3
 ·rcases zx q1 with ⟨rfl,_,z⟩ | ⟨hne,z⟩
  ·have q2:g.α[k]?=some b:=q2
   rw [ha] at q2
   cases q2
   rw [z]
   exact ⟨_,hr,ho,ao⟩
  ·exact (wk.cell j c b z q2).mono le fun _ z=>z
 ·rcases zx q with ⟨rfl,_,z⟩ | ⟨_,z⟩
  ·cases z
   exact ⟨.ref a,h1,a,vs,rfl,hr,hv.mono le⟩
  ·obtain ⟨v,f1,f2⟩:=env.sh j d' z
   exact ⟨v,f1,f2.mono le⟩
 ·rcases zx q with ⟨rfl,_,z⟩ | ⟨hne,z⟩
  ·cases z
  ·obtain ⟨b,f1,f2,f3,f4,f5,f6⟩:=env.ow j d' z
   have hb:b≠a:=by
    rintro rfl
    exact f4 (au ha)
   exact ⟨b,f1,f2,by show upd g.R a (.lst vs) b=none;rw [zf hb];exact f3,f4,f5.mono le fun _ z=>z,f6⟩
 ·rcases zx q1 with ⟨_,_,z⟩ | ⟨_,z1⟩
  ·cases z
  rcases zx q2 with ⟨_,_,z⟩ | ⟨_,z2⟩
  ·cases z
  exact env.inj j j' d1 d2 b z1 z2 q3 q4
theorem s_frr {i:Nat}(h2:PSs X sts (TCs Γ cf w Hz gz ss)):PSs X sts (TCs Γ cf w Hz gz (.frr i::ss)):=
 h2.imp fun E σ H h0=>goK h0 fun ρ S K g hw st wk env n=>by
  obtain ⟨k,l,e1,e2,hw⟩:=zaW hw
  obtain ⟨g',st',le,w',env'⟩:=zcC st wk env e1 e2
  exact ⟨_,_,K,g',hw,st',w',env',n.le le⟩
theorem s_frz {i:Nat}(h2:PSs X sts (TCs Γ cf w Hz gz ss)):PSs X sts (TCs Γ cf w Hz gz (.frz i::ss)):=
 h2.imp fun E σ H h0=>goK h0 fun ρ S K g hw st wk env n=>by
  obtain ⟨g',st',le,w',env'⟩:=zcB (i:=i) st wk env
  exact ⟨_,S,K,g',hw,st',w',env',n.le le⟩
theorem zdA (h:PE X x (TX Γ cf e)) (hs:gF x none pos.line X.env=pure false):PS X (.Expr x pos) (TC Γ cf w Hz gz (.expr e)):=
 (Yz h hs).imp fun E σ H h0=>goK h0 fun ρ S K g hw st wk env n=>⟨ρ,S,_,g,Hz,hw,wk,env,fun x v H1 g1 S1 s1 w1 vx q=>n.nx ρ σ H1 g1 S1 (st.trans s1) s1.le w1 (zp env s1) q⟩
theorem s_ret (hn:∀ i,e≠.var i) (h:PE X x (TX Γ cf e)):PS X (.Return (some x) pos) (TC Γ cf w Hz gz (.ret e)):=
 (zaB h).imp fun E σ H h0=>goK h0 fun ρ S K g hw st wk env n=>by
  have hw:wpE cf ρ e (fun x S1=>retV x fun o=>K o S1) S:=by cases e <;> first | exact absurd rfl (hn _) | exact hw
  refine ⟨ρ,S,_,g,Hz,hw,wk,env,fun x v H1 g1 S1 s1 w1 vx q=>?_⟩
  obtain ⟨d,k⟩:=x
  cases k with
  | st=>exact n.rt d false v H1 g1 S1 (st.trans s1) s1.le w1 vx q
  | fr=>exact n.rt d true v H1 g1 S1 (st.trans s1) s1.le w1 (vx.back st) q
  | bo=>exact q.elim
theorem zdt {i:Nat}{n:Str}(hN:X.N[i]?=some n) (hv:Vis X.env.scope n) (hd:(n==("__debug__":Str))=false) (hcd:(n==("__classdict__":Str))=false):PS X (.Return (some (.Name n p)) pos) (TC Γ cf w Hz gz (.ret (.var i))):=
 (zaB (jG hN hv hd hcd)).imp fun E σ H h0=>goK h0 fun ρ S K g hw st wk env n=>by
  have hw:sel ρ[i]? (fun d=>K (.ret d false) S) (fun d=>K (.ret d true) S):=hw
  cases e:ρ[i]? with
  | none=>rw [e] at hw;exact hw.elim
  | some s=>
   rw [e] at hw
   cases s with
   | no=>exact hw.elim
   | sh d=>
    obtain ⟨v,h1,h2⟩:=env.sh i d e
    exact ⟨v,h1,n.rt d false v H g S st (Le.refl g) wk h2 hw⟩
   | ow d=>
    obtain ⟨a,h1,h2,h3,h4,h5,h6⟩:=env.ow i d e
    exact ⟨.ref a,h1,n.rt d true _ H g S st (Le.refl g) wk ⟨a,rfl,h2,h3,h4,h5⟩ hw⟩
theorem zdu:PS X (.Return none pos) (TC Γ cf w Hz gz .retN):=zbM.imp fun E σ H h0=>goK h0 fun ρ S K g hw st wk env n=>n.rt .non false .non H g S st (Le.refl g) wk rfl hw
theorem s_if (h:PT X x (TB Γ cf e)) (ha:PSs X aa (TCs Γ cf w Hz gz A)) (hb:PSs X bb (TCs Γ cf w Hz gz B)):PS X (.If x aa bb pos) (TC Γ cf w Hz gz (.ite e A B)):=
 (ps_if h ha hb).imp fun E σ H h0=>goK h0 fun ρ S K g hw st wk env n=>⟨ρ,S,_,g,Hz,hw,wk,env,fun x H1 g1 S1 s1 w1 h=>by
  obtain ⟨r,e,q⟩:=wG h
  rw [e]
  show (if r=true then _ else _)
  cases r with
  | true=>exact iteT ⟨ρ,S1,K,g1,q,st.trans s1,w1,zp env s1,n.le s1.le⟩
  | false=>exact iteF ⟨ρ,S1,K,g1,q,st.trans s1,w1,zp env s1,n.le s1.le⟩⟩
theorem fresh_ne {H:Hp}{g:G}{ρ:List Slot}{σ:L2.St}{v:V}{d:D}{H1:Hp}{g1:G}(env:EnvO Γ Hz H g ρ σ) (vx:VN Γ H (d,.fr) v H1 g1):∀ (i:Nat) (d:D),ρ[i]?=some (.ow d)->σ[i]?≠some (some v):=fun i d' hi e=>by
 obtain ⟨a,rfl,h0,_⟩:=vx
 obtain ⟨b,f1,_,_,_,f5,_⟩:=env.ow i d' hi
 rw [f1] at e
 cases e
 obtain ⟨o,ho,_⟩:=f5.isMut
 rw [h0] at ho
 cases ho
theorem Ul {H H1:Hp}{g g1:G}{ρ ρ2:List Slot}{σ:L2.St}{S1:Store}{t:T}{x:Vl}{v:V}{E:Ends}{K:Ko}(st:Step Hz gz H g) (env:EnvO Γ Hz H g ρ σ) (n:EN Γ Hz gz g E K) (s1:Step H g H1 g1) (w1:WOk Γ H1 g1 S1) (vx:VN Γ H x v H1 g1) (hb:bindV ρ t x=some ρ2) (q:K (.next ρ2) S1):tgOf X.K t v σ H1 fun σ' H'=>E.nx σ' H':=by
 have env1:=zp env s1
 obtain ⟨d,k⟩:=x
 cases k with
 | st=>exact uq (fr:=false) hb env1 w1.rh vx (fun h=>by cases h) fun σ' env'=>n.nx _ σ' H1 g1 S1 (st.trans s1) s1.le w1 env' q
 | fr=>exact uq (fr:=true) hb env1 w1.rh (vx.back st) (fun _=>fresh_ne env vx) fun σ' env'=>n.nx _ σ' H1 g1 S1 (st.trans s1) s1.le w1 env' q
 | bo=>cases hb
noncomputable def noBox:E->Bool
 | .box _=>false
 | _=>true
theorem zas {ρ:List Slot}{t:T}{K:Ko}{S:Store}(hn:noBox e=true) (hw:wpC cf w (.set t e) ρ K S):wpE cf ρ e (fun x S1=>opt (bindV ρ t x) fun ρ2=>K (.next ρ2) S1) S:=by
 cases e <;> first | exact hw | cases hn
theorem s_set {t:T}(hn:noBox e=true) (h:PE X x (TX Γ cf e)) (hg:PG X tgt (tgOf X.K t)) (hs:cU [tgt] x pos.line X.env=pure false) (hw:bT [tgt] x X.env=pure none) (ha:(aP [tgt] X.env).map (·.2)=[fV tgt X.env]):PS X (.Assign [tgt] x pos) (TC Γ cf w Hz gz (.set t e)):=
 (Wf h hg hs hw ha).imp fun E σ H h0=>goK h0 fun ρ S K g hw st wk env n=>⟨ρ,S,_,g,Hz,zas hn hw,wk,env,fun x v H1 g1 S1 s1 w1 vx q=>by
  obtain ⟨ρ2,hb,q⟩:=zO q
  exact Ul (X:=X) st env n s1 w1 vx hb q⟩
theorem zdq {t:T}(h:PE X x (TX Γ cf e)) (hg:PG X tgt (tgOf X.K t)) (hs:cU [tgt] x pos.line X.env=pure false) (hw:bT [tgt] x X.env=pure none) (ha:(aP [tgt] X.env).map (·.2)=[fV tgt X.env]):PS X (.Assign [tgt] x pos) (TC Γ cf w Hz gz (.set t (.box e))):=
 (Wf h hg hs hw ha).imp fun E σ H h0=>goK h0 fun ρ S K g hw st wk env n=>⟨ρ,S,_,g,Hz,hw,wk,env,fun x v H1 g1 S1 s1 w1 vx q=>by
  obtain ⟨d,k⟩:=x
  cases k with
  | fr=>
   obtain ⟨ρ2,hb,q⟩:=zO q
   obtain ⟨g2,s2,w2,h2⟩:=boxed s1 w1 vx
   exact Ul (X:=X) (x:=(.ref S1.length,.st)) st env n s2 w2 h2 hb q
  | _=>exact q.elim⟩
theorem zdp {t:T}{js:List Nat}{it elt:E}{ifs:List E}{i:Nat}{n:Str}{np:Pos}(h:CSet X x (TX Γ cf (.comp t js it ifs elt))) (hp:PG X (.Name n np) (gName i)) (hsw:gF x (some (.Name n np)) pos.line X.env=pure true):PS X (.Assign [.Name n np] x pos) (TC Γ cf w Hz gz (.set (.one i) (.comp t js it ifs elt))):=
 (h n np pos i hp hsw).imp fun E σ H h0=>goK h0 fun ρ S K g hw st wk env n=>⟨ρ,S,_,g,Hz,zas rfl hw,wk,env,fun x v H1 g1 S1 s1 w1 vx q=>by
  obtain ⟨ρ2,hb,q⟩:=zO q
  exact Ul (X:=X) (t:=.one i) st env n s1 w1 vx hb q⟩
theorem zbs (ht:PT X x (TB Γ cf e)) (hb:PSs X aa (TCs Γ cf w Hz gz A)) (hp:gG (Ξ X.prog X.w) X.A X.env X.xe):PS X (.While x aa [] pos) (TC Γ cf w Hz gz (.whl e A)):=
 (Qo hp ht hb).imp fun E σ H h0=>goK h0 fun ρ S K g hw st wk env n=>by
  have hw:whlW (fun ρ=>wpE cf ρ e) (fun ρ=>wpCs cf w A ρ) w ρ K S:=hw
  refine ⟨fun m σ H=>∃ ρ S g1,whlW (fun ρ=>wpE cf ρ e) (fun ρ=>wpCs cf w A ρ) m ρ K S/\Step Hz gz H g1/\Le g g1/\WOk Γ H g1 S/\EnvO Γ Hz H g1 ρ σ,⟨w,ρ,S,g,hw,st,Le.refl g,wk,env⟩,?_⟩
  rintro m σ H ⟨ρ,S,g1,hw,st,le,wk,env⟩
  cases m with
  | zero=>exact hw.elim
  | succ m=>
   refine ⟨ρ,S,_,g1,Hz,hw,wk,env,fun x H2 g2 S2 s2 w2 h=>?_⟩
   obtain ⟨r,e,q⟩:=wG h
   rw [e]
   show (if r=true then _ else _)
   cases r with
   | false=>exact iteF (n.nx ρ σ H2 g2 S2 (st.trans s2) (le.trans s2.le) w2 (zp env s2) q)
   | true=>
    refine iteT ⟨fun σ' H'=>∃ ρ S g1,whlW (fun ρ=>wpE cf ρ _) (fun ρ=>wpCs cf w A ρ) m ρ K S/\Step Hz gz H' g1/\Le g g1/\WOk Γ H' g1 S/\EnvO Γ Hz H' g1 ρ σ',fun σ' H' q=>⟨m,lJ m,q⟩,ρ,S2,_,g2,q,st.trans s2,w2,zp env s2,?_⟩
    have l2:=le.trans s2.le
    exact ⟨fun ρ' σ' H' g' S' st' l w' env' q=>⟨ρ',S',g',q,st',l2.trans l,w',env'⟩,fun ρ' σ' H' g' S' st' l w' env' q=>n.nx ρ' σ' H' g' S' st' (l2.trans l) w' env' q,fun ρ' σ' H' g' S' st' l w' env' q=>⟨ρ',S',g',q,st',l2.trans l,w',env'⟩,fun d fr v H' g' S' st' l w' vo q=>n.rt d fr v H' g' S' st' (l2.trans l) w' vo q⟩
theorem s_for {t:T}{it:E}(hi:PI X tgt x (TXi Γ cf it)) (hg:PG X tgt (tgOf X.K t)) (hb:PSs X aa (TCs Γ cf w Hz gz A)) (hp:gG (Ξ X.prog X.w) X.A X.env X.xe) (hc:X.calm=true) (hs:∀ v,bO x X.env v=pure v):PS X (.For tgt x aa [] pos) (TC Γ cf w Hz gz (.forr t it A)):=
 (zdN hp hc hi hg hb hs).imp fun E σ H h0=>goK h0 fun ρ S K g hw st wk env n=>⟨ρ,S,_,g,Hz,hw,wk,env,fun l J H1 g1 S1 s1 w1 hJ h1=>by
  refine ⟨fun i m σ H=>m=l.length - i/\i<=l.length/\∃ ρ S g2,forW t (fun ρ=>wpCs cf w A ρ) (l.drop i) ρ K S/\Step Hz gz H g2/\Le g1 g2/\WOk Γ H g2 S/\EnvO Γ Hz H g2 ρ σ,⟨_,rfl,bA _,ρ,S1,g1,h1,st.trans s1,Le.refl g1,w1,zp env s1⟩,?_⟩
  rintro i m σ H ⟨rfl,hi,ρ,S,g2,hw,st2,le,wk,env⟩
  by_cases hlt:i < l.length
  ·refine .inr ⟨hJ.go i H g2 le wk.rh hlt,fun σ' H'=>∃ ρ S g3,forW t (fun ρ=>wpCs cf w A ρ) (l.drop (i+1)) ρ K S/\Step Hz gz H' g3/\Le g1 g3/\WOk Γ H' g3 S/\EnvO Γ Hz H' g3 ρ σ',fun σ' H' q=>⟨l.length - (i+1),by omega,rfl,hlt,q⟩,fun z H3 hy=>?_⟩
   obtain ⟨g3,st3,_,w3,hz⟩:=hJ.yld i H g2 S z H3 l[i] le wk (χ hlt) hy
   rw [c7 hlt] at hw
   obtain ⟨ρ',es,hw⟩:=zO (show opt (bindT ρ t (l[i],false)) _ from hw)
   have l3:=le.trans st3.le
   have l4:=s1.le.trans l3
   refine uq (fr:=false) es (zp env st3) w3.rh hz (fun h=>by cases h) fun σ3 env3=>⟨ρ',S,_,g3,hw,st2.trans st3,w3,env3,?_⟩
   exact ⟨fun ρ' σ' H' g' S' st' l w' env' q=>⟨ρ',S',g',q,st',l3.trans l,w',env'⟩,fun ρ' σ' H' g' S' st' l w' env' q=>n.nx ρ' σ' H' g' S' st' (l4.trans l) w' env' q,fun ρ' σ' H' g' S' st' l w' env' q=>⟨ρ',S',g',q,st',l3.trans l,w',env'⟩,fun d fr v H' g' S' st' l w' vo q=>n.rt d fr v H' g' S' st' (l4.trans l) w' vo q⟩
  ·have e:i=l.length:=by omega
   subst e
   rw [List.drop_length] at hw
   exact .inl ⟨hJ.stop _ H g2 le wk.rh (π _),n.nx ρ σ H g2 S st2 (s1.le.trans le) wk env hw⟩⟩
theorem U7 {s:Option Slot}{Q:List D->Prop}(h:owL s Q):∃ l,s=some (.ow (.lst l))/\Q l:=by
 cases s with
 | none=>exact h.elim
 | some s=>
  cases s with
  | ow d=>
   cases d with
   | lst l=>exact ⟨l,rfl,h⟩
   | _=>exact h.elim
  | _=>exact h.elim
theorem zd1 {s:Option Slot}{Q:D->Prop}(h:owD s Q):∃ l,s=some (.ow l)/\Q l:=by
 cases s with
 | none=>exact h.elim
 | some s=>
  cases s with
  | ow d=>exact ⟨d,rfl,h⟩
  | _=>exact h.elim
section
variable {i:Nat}{n:Str}{apos cpos:Pos}
theorem s_app (hN:X.N[i]?=some n) (hv:Vis X.env.scope n) (hd:(n==("__debug__":Str))=false) (hcd:(n==("__classdict__":Str))=false) (hx:PE X x (TX Γ cf e)) (hs:notStar x=true) (hl:(apos.endLine==cpos.line)=true):
  PS X (.Expr (.Call (.Attribute (.Name n p) "append" apos) [x] [] cpos) pos) (TC Γ cf w Hz gz (.app i e)):=
 (Yz (pe_bm dw PySem.F.slot_list_append PySem.F.type_list_append ZC (jG hN hv hd hcd) (zV hx yV (zb hs _ _)) rfl (J5 hs) hl (zb hs _ _) rfl)).imp fun E σ H h0=>goK h0 fun ρ S K g hw st wk env n=>by
  obtain ⟨l,eo,hw⟩:=U7 hw
  obtain ⟨a,h1,h2,h3,h4,h5,h6⟩:=env.ow i _ eo
  obtain ⟨vs,h7,h8⟩:=h5
  refine ⟨.ref a,h1,.inl ⟨rfl,vs,SqL.of h7⟩,ρ,S,_,g,Hz,hw,wk,env,fun x v H1 g1 S1 s1 w1 vx q=>?_⟩
  obtain ⟨g2,s2,w2,hx,q⟩:=vx.keep s1 w1 q
  obtain ⟨hf,q⟩:=xu q
  have env2:=zp env s2
  obtain ⟨k1,k2,k3⟩:=s2.kept h7 h3 h4
  refine ⟨a,vs,v,rfl,rfl,k1,by rw [h8.len];exact size_of hf,n.nx _ σ _ g2 S1 ((st.trans s2).zG h2) s2.le (w2.zG k2 k3) (env2.updOw (c':=.lst (l++[x.1])) eo h1 ⟨vs++[v],zj,(h8.mono s2.le).app (Hass.mk1 hx)⟩ rfl) q⟩
theorem s_ext (hN:X.N[i]?=some n) (hv:Vis X.env.scope n) (hd:(n==("__debug__":Str))=false) (hcd:(n==("__classdict__":Str))=false) (hx:PE X x (TX Γ cf e)) (hs:notStar x=true) (hl:(apos.endLine==cpos.line)=true):
  PS X (.Expr (.Call (.Attribute (.Name n p) "extend" apos) [x] [] cpos) pos) (TC Γ cf w Hz gz (.ext i e)):=
 (Yz (pe_bm dw PySem.F.slot_list_extend PySem.F.type_list_extend zci (jG hN hv hd hcd) (zV hx yV (zb hs _ _)) rfl (J5 hs) hl (zb hs _ _) rfl)).imp fun E σ H h0=>goK h0 fun ρ S K g hw st wk env n=>by
  obtain ⟨l,eo,hw⟩:=U7 hw
  obtain ⟨a,h1,h2,h3,h4,h5,h6⟩:=env.ow i _ eo
  obtain ⟨vs,h7,h8⟩:=h5
  refine ⟨.ref a,h1,.inl ⟨rfl,vs,SqL.of h7⟩,ρ,S,_,g,Hz,hw,wk,env,fun x v H1 g1 S1 s1 w1 vx q0=>?_⟩
  obtain ⟨g2,s2,w2,hx,q1⟩:=vx.keep s1 w1 q0
  obtain ⟨m,em,q2⟩:=zO q1
  obtain ⟨hf,q⟩:=xu q2
  clear q0 q1 q2
  have env2:=zp env s2
  obtain ⟨k1,k2,k3⟩:=s2.kept h7 h3 h4
  generalize x.1=d at *
  cases d with
  | lst m'=>
   cases em
   obtain ⟨b,zs,rfl,hb1,hb2⟩:=hx
   exact ⟨a,b,vs,zs,rfl,rfl,k1,.inl (w2.rh _ _ hb1),by rw [h8.len,hb2.len];exact yO hf,n.nx _ σ _ g2 S1 ((st.trans s2).zG h2) s2.le (w2.zG k2 k3) (env2.updOw (c':=.lst (l++m)) eo h1 ⟨vs++zs,zj,(h8.mono s2.le).app hb2⟩ rfl) q⟩
  | tup m'=>
   cases em
   obtain ⟨b,zs,rfl,hb1,hb2⟩:=hx
   exact ⟨a,b,vs,zs,rfl,rfl,k1,.inr (SqT.of (w2.rh _ _ hb1)),by rw [h8.len,hb2.len];exact yO hf,n.nx _ σ _ g2 S1 ((st.trans s2).zG h2) s2.le (w2.zG k2 k3) (env2.updOw (c':=.lst (l++m)) eo h1 ⟨vs++zs,zj,(h8.mono s2.le).app hb2⟩ rfl) q⟩
  | _=>cases em
theorem zau {t:T}(hN:X.N[i]?=some n) (hv:Vis X.env.scope n) (hd:(n==("__debug__":Str))=false) (hcd:(n==("__classdict__":Str))=false) (hl:(apos.endLine==cpos.line)=true) (hg:PG X tgt (tgOf X.K t)) (hs:cU [tgt] (.Call (.Attribute (.Name n p) "pop" apos) [] [] cpos) pos.line X.env=pure false) (hw:bT [tgt] (.Call (.Attribute (.Name n p) "pop" apos) [] [] cpos) X.env=pure none) (ha:(aP [tgt] X.env).map (·.2)=[fV tgt X.env]):
  PS X (.Assign [tgt] (.Call (.Attribute (.Name n p) "pop" apos) [] [] cpos) pos) (TC Γ cf w Hz gz (.popO t i)):=
 (Wf (zdX dw PySem.F.slot_list_pop PySem.F.type_list_pop zek (jG hN hv hd hcd) rfl hl) hg hs hw ha).imp fun E σ H h0=>goK h0 fun ρ S K g hw st wk env n=>by
  obtain ⟨l,eo,hw⟩:=U7 hw
  obtain ⟨d,eg,q⟩:=zO hw
  obtain ⟨ρ2,eb,q⟩:=zO q
  obtain ⟨a,h1,h2,h3,h4,h5,h6⟩:=env.ow i _ eo
  obtain ⟨vs,h7,h8⟩:=h5
  have hn:=h8.len
  rw [List.getLast?_eq_getElem?] at eg
  obtain ⟨y,hy,hh⟩:=h8.get eg
  have w2:=wk.zG (o:=.lst vs.dropLast) h3 h4
  exact ⟨.ref a,h1,.inl ⟨rfl,vs,SqL.of h7⟩,a,vs,y,rfl,rfl,h7,by rw [hn];exact hy,uq (fr:=false) eb (env.updOw (c':=.lst l.dropLast) eo h1 ⟨vs.dropLast,zj,QZ h8⟩ rfl) w2.rh hh (fun h=>by cases h) fun σ' env'=>n.nx _ σ' _ g S (st.zG h2) (Le.refl g) w2 env' q⟩
theorem s_stv {ix:Expr}{ke ve:E}(hu:X.A.units+1 < aj) (hN:X.N[i]?=some n) (hv:Vis X.env.scope n) (hd:(n==("__debug__":Str))=false) (hcd:(n==("__classdict__":Str))=false) (hx:PE X x (TX Γ cf ve)) (hi:PE X ix (TX Γ cf ke)) (hns:∀ lo hi st p,ix≠.Slice lo hi st p)
  (hs:cU [.Subscript (.Name n p) ix pos] x spos.line X.env=pure false) (hw:bT [.Subscript (.Name n p) ix pos] x X.env=pure none) (ha:(aP [.Subscript (.Name n p) ix pos] X.env).map (·.2)=[fV (.Subscript (.Name n p) ix pos) X.env]):
  PS X (.Assign [.Subscript (.Name n p) ix pos] x spos) (TC Γ cf w Hz gz (.stv i ke ve)):=
 (Wf hx (zdR (jG hN hv hd hcd) hi (zbr hu) (fun v=>Vc hns v X.env)) hs hw ha).imp fun E σ H h0=>goK h0 fun ρ S K g hw st wk env n=>by
  obtain ⟨c,eo,hw⟩:=zd1 hw
  obtain ⟨a,h1,h2,h3,h4,h5,h6⟩:=env.ow i _ eo
  refine ⟨ρ,S,_,g,Hz,hw,wk,env,fun x v H1 g1 S1 s1 w1 vx q=>?_⟩
  obtain ⟨g2,s2,w2,hx,q⟩:=vx.keep s1 w1 q
  refine ⟨.ref a,h1,ρ,S1,_,g2,Hz,q,w2,zp env s2,fun y u H3 g3 S3 s3 w3 vy q=>?_⟩
  obtain ⟨g4,s4,w4,hy,q⟩:=vy.keep s3 w3 q
  obtain ⟨c',ep,q⟩:=zO q
  have s5:=s2.trans s4
  have env4:=zp env s5
  obtain ⟨a',f1,f2,f3,f4,f5,f6⟩:=env4.ow i _ eo
  rw [h1] at f1
  cases f1
  obtain ⟨o',b1,b2,b3⟩:=Ql ep f5 w4.rh hy (hx.mono s4.le)
  exact b1 _ (n.nx _ σ _ g4 S3 ((st.trans s5).zG h2) s5.le (w4.zG f3 f4) (env4.updOw eo h1 b2 b3) q)
end
end
noncomputable def YJ:Expr->Bool
 | .ListComp _ _ _ _=>false
 | .SetComp _ _ _ _=>false
 | .DictComp _ _ _ _ _=>false
 | _=>true
noncomputable def qx:E->Bool
 | .comp _ _ _ _ _=>true
 | _=>false
noncomputable def uJ:Expr->Bool
 | .Tuple _ _ _=>false
 | _=>true
noncomputable def j4 (c:Cc) (n:Str) (np:Pos):Expr->Bool
 | .ListComp _ _ sc p=>c.names.lookup n==some .local&&np.line==p.line&&!(sc.names.any fun (m,k)=>m==n&&(k==.local||k==.cell))
 | _=>false
noncomputable def chkN (c:Cc) (i:Nat) (n:Str):Bool:=c.N[i]?==some n&&visK (c.names.lookup n)&&yj n
structure Meth where
 o:Expr
 m:Str
 ap:Pos
 x:Expr
 cp:Pos
noncomputable def W4:Expr->Option Meth
 | .Call f args kws cp=>if wF kws=true then (asAtt f).bind fun q=>(sole args).map fun x=>⟨q.1,q.2.1,q.2.2,x,cp⟩ else none
 | _=>none
theorem KY {x:Expr}{q:Meth}(h:W4 x=some q):x=.Call (.Attribute q.o q.m q.ap) [q.x] [] q.cp:=by
 cases x with
 | Call f args kws cp=>
  have h:(if wF kws=true then (asAtt f).bind fun q=>(sole args).map fun x=>(⟨q.1,q.2.1,q.2.2,x,cp⟩:Meth) else none)=some q:=h
  split at h
  ·rename_i hn
   cases e1:asAtt f with
   | none=>rw [e1] at h;cases h
   | some z=>
    rw [e1] at h
    cases e2:sole args with
    | none=>rw [e2] at h;cases h
    | some y=>
     rw [e2] at h
     cases h
     rw [uc hn,W5 e1,kj e2]
  ·cases h
 | _=>cases h
noncomputable def vq (B:Tb) (c:Cc) (name:Str) (i:Nat) (e:E) (x:Expr):Bool:=match W4 x with
  | some q=>(match asName q.o with
    | some r=>chkN c i r.1&&q.m==name&&chkE B c e q.x&&notStar q.x&&q.ap.endLine==q.cp.line
    | none=>false)
  | none=>false
theorem jU {B:Tb}{c:Cc}{name:Str}{i:Nat}{e:E}{x:Expr}(h:vq B c name i e x=true):∃ n np ap y cp,x=.Call (.Attribute (.Name n np) name ap) [y] [] cp/\chkN c i n=true/\chkE B c e y=true/\notStar y=true/\(ap.endLine==cp.line)=true:=by
  unfold vq at h
  cases e1:W4 x with
  | none=>rw [e1] at h;cases h
  | some q=>
    rw [e1] at h
    have h:(match asName q.o with
      | some r=>chkN c i r.1&&q.m==name&&chkE B c e q.x&&notStar q.x&&q.ap.endLine==q.cp.line
      | none=>false)=true:=h
    cases e2:asName q.o with
    | none=>rw [e2] at h;cases h
    | some r=>
      rw [e2] at h
      have h:(chkN c i r.1&&q.m==name&&chkE B c e q.x&&notStar q.x&&q.ap.endLine==q.cp.line)=true:=h
      simp only [ζ] at h
      obtain ⟨⟨⟨⟨h1,h2⟩,h3⟩,h4⟩,h5⟩:=h
      refine ⟨r.1,r.2,q.ap,q.x,q.cp,?_,h1,h3,h4,h5⟩
      rw [KY e1,wQ e2,eq_of_beq h2]
noncomputable def asM0:Expr->Option (Expr×Str×Pos×Pos)
  | .Call f as ks cp=>(match f with
    | .Attribute o m ap=>(match as with
      | []=>(match ks with
        | []=>some (o,m,ap,cp)
        | _=>none)
      | _=>none)
    | _=>none)
  | _=>none
theorem zcR {x:Expr}{q:Expr×Str×Pos×Pos}(h:asM0 x=some q):x=.Call (.Attribute q.1 q.2.1 q.2.2.1) [] [] q.2.2.2:=by
 have hb:Μ x.ctorIdx 16=true:=by revert h;cases x <;> first | exact fun _=>rfl | (intro h;cases h)
 revert h;apply wB hb;clear hb;intro f as ks cp h
 have hb:Μ f.ctorIdx 20=true:=by revert h;cases f <;> first | exact fun _=>rfl | (intro h;cases h)
 revert h;apply YH hb;clear hb;intro o m ap h
 cases as with
 | cons _ _=>cases h
 | nil=>
  cases ks with
  | cons _ _=>cases h
  | nil=>cases h;rfl
noncomputable def Z5 (c:Cc) (i:Nat) (x:Expr):Bool:=match asM0 x with
  | some q=>(match asName q.1 with
    | some r=>chkN c i r.1&&q.2.1==("pop":Str)&&q.2.2.1.endLine==q.2.2.2.line
    | none=>false)
  | none=>false
theorem Ks {c:Cc}{i:Nat}{x:Expr}(h:Z5 c i x=true):∃ n np ap cp,x=.Call (.Attribute (.Name n np) "pop" ap) [] [] cp/\chkN c i n=true/\(ap.endLine==cp.line)=true:=by
  unfold Z5 at h
  cases e1:asM0 x with
  | none=>rw [e1] at h;cases h
  | some q=>
    rw [e1] at h
    have h:(match asName q.1 with
      | some r=>chkN c i r.1&&q.2.1==("pop":Str)&&q.2.2.1.endLine==q.2.2.2.line
      | none=>false)=true:=h
    cases e2:asName q.1 with
    | none=>rw [e2] at h;cases h
    | some r=>
      rw [e2] at h
      have h:(chkN c i r.1&&q.2.1==("pop":Str)&&q.2.2.1.endLine==q.2.2.2.line)=true:=h
      rw [ζ,ζ] at h
      refine ⟨r.1,r.2,q.2.2.1,q.2.2.2,?_,h.1.1,h.2⟩
      rw [zcR e1,wQ e2,eq_of_beq h.1.2]
noncomputable def ze8 (B:Tb) (c:Cc) (o e:E) (x:Expr):Bool:=match W4 x with
 | some q=>(asName q.o).isSome&&chkE B c o q.o&&q.m==("append":Str)&&chkE B c e q.x&&notStar q.x&&q.ap.endLine==q.cp.line
 | none=>false
noncomputable def ze7 (B:Tb) (c:Cc) (o:E) (x:Expr):Bool:=match asM0 x with
 | some q=>(asName q.1).isSome&&chkE B c o q.1&&q.2.1==("pop":Str)&&q.2.2.1.endLine==q.2.2.2.line
 | none=>false
noncomputable def isNT:Expr->Bool
 | .Name _ _=>true
 | .Tuple _ _ _=>true
 | _=>false
mutual
noncomputable def chkC (B:Tb) (c:Cc):C->Stmt->Bool
  | .set t e,.Assign ts x _=>(match sole ts with
    | some tg=>chkE B c e x&&chkT c t tg&&(match asName tg with
      | some q=>!j4 c q.1 q.2 x||qx e
      | none=>ZV tg&&uJ x)
    | none=>false)
  | .expr e,.Expr x _=>chkE B c e x&&YJ x
  | .ret e,.Return v _=>(match v with
    | some x=>chkE B c e x
    | none=>false)
  | .retN,.Return v _=>v.isNone
  | .ite e a b,.If x aa bb _=>chkE B c e x&&chkCs B c a aa&&chkCs B c b bb
  | .whl e b,.While x bb r _=>chkE B c e x&&chkCs B c b bb&&wF r
  | .forr t it b,.For tgt x bb r _=>chkI B c it tgt x&&chkT c t tgt&&xJ x&&chkCs B c b bb&&wF r
  | .app i e,.Expr x _=>vq B c "append" i e x
  | .ext i e,.Expr x _=>vq B c "extend" i e x
  | .popO t i,.Assign ts x _=>(match sole ts with
    | some tg=>chkT c t tg&&isNT tg&&Z5 c i x
    | none=>false)
  | .stv i k v,.Assign ts x _=>(match (sole ts).bind asSub with
    | some q=>(match asName q.1 with
      | some r=>chkN c i r.1&&chkE B c k q.2.1&&chkE B c v x
      | none=>false)
    | none=>false)
  | .pass,.Pass _=>true
  | .brk,.Break _=>true
  | .cnt,.Continue _=>true
  | _,_=>false
noncomputable def chkCs (B:Tb) (c:Cc):List C->List Stmt->Bool
 | .frz _::ss,xs=>chkCs B c ss xs
 | .frr _::ss,xs=>chkCs B c ss xs
 | [],[]=>true
 | s::ss,x::xs=>chkC B c s x&&chkCs B c ss xs
 | _,_=>false
end
structure XSt (Γ:Gm) (B:Tb) (cf:Cf) (k:Nat) (X:Cx) (c:Cc):Prop where
 ok:XOk Γ B (spN Γ cf) k X c
 fn:c.fn=true
 own:gG (Ξ X.prog X.w) X.A X.env X.xe
 hcf:CfN B cf
 hm:Mono cf
section
variable {Γ:Gm}{B:Tb}{cf:Cf}{k w:Nat}{X:Cx}{c:Cc}{Hz:Hp}{gz:G}{x:Expr}{e:E}{n:Str}{pos np:Pos}{i:Nat}
theorem XSt.pe (ok:XSt Γ B cf k X c) (h:chkE B c e x=true):PE X x (TX Γ cf e):=(sA ok.hcf ok.hm e X c x ok.ok h).1
theorem XSt.pt (ok:XSt Γ B cf k X c) (h:chkE B c e x=true):PT X x (TB Γ cf e):=(sA ok.hcf ok.hm e X c x ok.ok h).2.1
theorem noSl {y:Expr}(h:chkE B c e y=true):∀ lo hi st p,y≠.Slice lo hi st p:=fun lo hi st p q=>by
 subst q
 exact Jh e h
theorem vM (h:YJ x=true) (t:Option Expr) (l:Nat) (env:Env):gF x t l env=pure false:=by
 cases x <;> first | rfl | cases h
theorem Qa (x o y:Expr) (p:Pos) (l:Nat) (env:Env):cU [.Subscript o y p] x l env=pure false:=by
 cases x <;> rfl
theorem XR (x:Expr) (es:List Expr) (kk:Nat) (p:Pos) (l:Nat) (env:Env):cU [.Tuple es kk p] x l env=pure false:=by
 cases x <;> rfl
theorem Vd (x o y:Expr) (p:Pos) (env:Env):bT [.Subscript o y p] x env=pure none:=by
 cases x <;> rfl
theorem ur (x:Expr) (n:Str) (p:Pos) (env:Env):bT [.Name n p] x env=pure none:=by
 cases x <;> rfl
theorem jy (h:uJ x=true) (es:List Expr) (kk:Nat) (p:Pos) (env:Env):bT [.Tuple es kk p] x env=pure none:=by
 cases x <;> first | rfl | cases h
theorem noSC {y:Expr}{g:List Comprehension}{sc:dI}{p:Pos}(e:E) (h:chkE B c e (.SetComp y g sc p)=true):False:=by
 cases e with
 | box e=>exact nobE h
 | _=>exact nobE h
theorem noDC {y z:Expr}{g:List Comprehension}{sc:dI}{p:Pos}(e:E) (h:chkE B c e (.DictComp y z g sc p)=true):False:=by
 cases e with
 | box e=>exact nobE h
 | _=>exact nobE h
theorem Ub (ok:XOk Γ B (spN Γ cf) k X c) (hx:chkE B c e x=true) (l:Nat):gF x (some (.Name n np)) l X.env=pure (j4 c n np x):=by
 have hk:X.env.kindOf n=c.names.lookup n:=by
  unfold mK
  rw [ok.nm]
 have hb:X.env.blockKind=.function:=by
  unfold Env.blockKind
  rw [ok.kd]
  rfl
 cases x with
 | ListComp y g sc p=>
  show pure (X.env.blockKind==.function&&X.env.kindOf n==some .local&&np.line==p.line&&!(sc.names.any fun (m,k)=>m==n&&(k==.local||k==.cell)))=(pure (c.names.lookup n==some .local&&np.line==p.line&&!(sc.names.any fun (m,k)=>m==n&&(k==.local||k==.cell))):Sem Bool)
  rw [hb,hk]
  rfl
 | SetComp y g sc p=>exact (noSC e hx).elim
 | DictComp y g a sc p=>exact (noDC e hx).elim
 | _=>rfl
theorem zat (ok:XSt Γ B cf k X c) {t:T}{tgt:Expr}(h1:chkE B c e x=true) (hpg:PG X tgt (tgOf X.K t)) (hs:cU [tgt] x pos.line X.env=pure false) (hw:bT [tgt] x X.env=pure none) (ha:(aP [tgt] X.env).map (·.2)=[fV tgt X.env]):PS X (.Assign [tgt] x pos) (TC Γ cf w Hz gz (.set t e)):=by
 cases hn:noBox e with
 | true=>exact s_set hn (ok.pe h1) hpg hs hw ha
 | false=>
  cases e with
  | box e=>exact zdq (ok.pe (e:=e) (ζ _ _ ▸ (show (UL x&&chkE B c e x)=true from h1)).2) hpg hs hw ha
  | _=>cases hn
theorem zdD (ok:XSt Γ B cf k X c) {t:T}{ts:List Expr}(h:chkC B c (.set t e) (.Assign ts x pos)=true):PS X (.Assign ts x pos) (TC Γ cf w Hz gz (.set t e)):=by
  have h:(match sole ts with
    | some tg=>chkE B c e x&&chkT c t tg&&(match asName tg with
      | some q=>!j4 c q.1 q.2 x||qx e
      | none=>ZV tg&&uJ x)
    | none=>false)=true:=h
  cases e1:sole ts with
  | none=>rw [e1] at h;cases h
  | some tg=>
    rw [e1] at h
    have et:=kj e1
    subst et
    have h:(chkE B c e x&&chkT c t tg&&(match asName tg with
      | some q=>!j4 c q.1 q.2 x||qx e
      | none=>ZV tg&&uJ x))=true:=h
    rw [ζ,ζ] at h
    obtain ⟨⟨h1,h2⟩,h3⟩:=h
    have hpg:=XN ok.ok h2
    cases e2:asName tg with
    | some q=>
      rw [e2] at h3
      have et:=wQ e2
      obtain ⟨n,np⟩:=q
      subst et
      have h3:(!j4 c n np x||qx e)=true:=h3
      have hsw:=Ub (n:=n) (np:=np) ok.ok h1 pos.line
      cases ha:j4 c n np x with
      | false=>
        rw [ha] at hsw
        exact zat ok h1 hpg hsw (ur x n np X.env) rfl
      | true=>
        rw [ha] at h3 hsw
        cases e with
        | comp t' js it ifs elt=>
          cases t with
          | one i=>exact zdp (sCS ok.hcf ok.hm ok.ok h1) hpg hsw
          | tup is=>exact nobE h2
          | nst _ _=>exact nobE h2
        | _=>cases h3
    | none=>
      rw [e2] at h3
      have h3:(ZV tg&&uJ x)=true:=h3
      rw [ζ] at h3
      cases tg with
      | Tuple es kk p=>exact zat ok h1 hpg (XR x es kk p pos.line X.env) (jy h3.2 es kk p X.env) rfl
      | _=>cases h3.1
theorem s_rt (ok:XSt Γ B cf k X c) (h:chkE B c e x=true):PS X (.Return (some x) pos) (TC Γ cf w Hz gz (.ret e)):=by
 by_cases hv:∃ i,e=.var i
 ·obtain ⟨i,rfl⟩:=hv
  have hb:Μ x.ctorIdx 23=true:=by revert h;cases x <;> first | exact non | exact fun _=>rfl
  revert h;apply xH hb;clear hb;intro n p h
  have h:(c.N[i]?==some n&&visK (c.names.lookup n)&&yj n)=true:=h
  simp only [ζ] at h
  obtain ⟨q1,q2,_⟩:=zX h.2
  exact zdt (by rw [ok.ok.N];exact eq_of_beq h.1.1) (ok.ok.vis h.1.2) q1 q2
 ·exact s_ret (fun i q=>hv ⟨i,q⟩) (ok.pe h)
theorem zag {ts:List Expr}{q:Expr×Expr×Pos}(h:(sole ts).bind asSub=some q):ts=[.Subscript q.1 q.2.1 q.2.2]:=by
 cases e1:sole ts with
 | none=>rw [e1] at h;cases h
 | some tg=>
  rw [e1] at h
  rw [kj e1,zah h]
theorem s_st1 (ok:XSt Γ B cf k X c) {kx v:E}{ts:List Expr}(h:chkC B c (.stv i kx v) (.Assign ts x pos)=true):PS X (.Assign ts x pos) (TC Γ cf w Hz gz (.stv i kx v)):=by
  have h:(match (sole ts).bind asSub with
    | some q=>(match asName q.1 with
      | some r=>chkN c i r.1&&chkE B c kx q.2.1&&chkE B c v x
      | none=>false)
    | none=>false)=true:=h
  cases e2:(sole ts).bind asSub with
  | none=>rw [e2] at h;cases h
  | some q=>
    rw [e2] at h
    have et:=zag e2
    subst et
    obtain ⟨o,y,sp⟩:=q
    have h:(match asName o with
      | some r=>chkN c i r.1&&chkE B c kx y&&chkE B c v x
      | none=>false)=true:=h
    cases e3:asName o with
    | none=>rw [e3] at h;cases h
    | some r=>
      rw [e3] at h
      have et:=wQ e3
      subst et
      obtain ⟨n,np⟩:=r
      have h:(chkN c i n&&chkE B c kx y&&chkE B c v x)=true:=h
      unfold chkN at h
      simp only [ζ] at h
      obtain ⟨⟨h1,h2⟩,h3⟩:=h
      obtain ⟨q1,q2,_⟩:=zX h1.2
      exact s_stv ok.ok.u1 (by rw [ok.ok.N];exact eq_of_beq h1.1.1) (ok.ok.vis h1.1.2) q1 q2 (ok.pe h3) (ok.pe h2) (noSl h2) (Qa x _ y sp pos.line X.env) (Vd x _ y sp X.env) rfl
mutual
theorem sC (ok:XSt Γ B cf k X c):∀ (s:C) (st:Stmt),chkC B c s st=true->PS X st (TC Γ cf w Hz gz s)
  | .set t e,st,h=>by
    have hb:Μ st.ctorIdx 5=true:=by revert h;cases st <;> first | exact non | exact fun _=>rfl
    revert h;apply uI hb;clear hb;intro ts x pos h
    exact zdD ok h
  | .expr e,st,h=>by
    have hb:Μ st.ctorIdx 24=true:=by revert h;cases st <;> first | exact non | exact fun _=>rfl
    revert h;apply YF hb;clear hb;intro x pos h
    have h:(chkE B c e x&&YJ x)=true:=h
    simp only [ζ] at h
    exact zdA (ok.pe h.1) (vM h.2 none pos.line X.env)
  | .ret e,st,h=>by
    have hb:Μ st.ctorIdx 3=true:=by revert h;cases st <;> first | exact non | exact fun _=>rfl
    revert h;apply Zy hb;clear hb;intro v pos h
    cases v with
    | none=>exact nobE h
    | some x=>exact s_rt ok h
  | .retN,st,h=>by
    have hb:Μ st.ctorIdx 3=true:=by revert h;cases st <;> first | exact non | exact fun _=>rfl
    revert h;apply Zy hb;clear hb;intro v pos h
    cases v with
    | some x=>exact nobE h
    | none=>exact zdu
  | .ite e a b,st,h=>by
    have hb:Μ st.ctorIdx 12=true:=by revert h;cases st <;> first | exact non | exact fun _=>rfl
    revert h;apply ofSIf hb;clear hb;intro x aa bb pos h
    have h:(chkE B c e x&&chkCs B c a aa&&chkCs B c b bb)=true:=h
    simp only [ζ] at h
    exact s_if (ok.pt h.1.1) (sCs ok a aa h.1.2) (sCs ok b bb h.2)
  | .whl e b,st,h=>by
    have hb:Μ st.ctorIdx 11=true:=by revert h;cases st <;> first | exact non | exact fun _=>rfl
    revert h;apply QG hb;clear hb;intro x bb r pos h
    have h:(chkE B c e x&&chkCs B c b bb&&wF r)=true:=h
    simp only [ζ] at h
    have hr:=uc h.2
    subst hr
    exact zbs (ok.pt h.1.1) (sCs ok b bb h.1.2) ok.own
  | .forr t it b,st,h=>by
    have hb:Μ st.ctorIdx 9=true:=by revert h;cases st <;> first | exact non | exact fun _=>rfl
    revert h;apply zed hb;clear hb;intro tgt x bb r pos h
    have h:(chkI B c it tgt x&&chkT c t tgt&&xJ x&&chkCs B c b bb&&wF r)=true:=h
    simp only [ζ] at h
    obtain ⟨⟨⟨⟨h1,h2⟩,h3⟩,h4⟩,h5⟩:=h
    have hr:=uc h5
    subst hr
    exact s_for (sI ok.hcf ok.hm it X c tgt x ok.ok h1) (XN ok.ok h2) (sCs ok b bb h4) ok.own ok.ok.calm (Z0 h3 X.env)
  | .app i e,st,h=>by
    have hb:Μ st.ctorIdx 24=true:=by revert h;cases st <;> first | exact non | exact fun _=>rfl
    revert h;apply YF hb;clear hb;intro x pos h
    obtain ⟨n,np,ap,y,cp,rfl,h1,h3,h4,h5⟩:=jU (show vq B c "append" i e x=true from h)
    unfold chkN at h1
    simp only [ζ] at h1
    obtain ⟨q1,q2,_⟩:=zX h1.2
    exact s_app (by rw [ok.ok.N];exact eq_of_beq h1.1.1) (ok.ok.vis h1.1.2) q1 q2 (ok.pe h3) h4 h5
  | .ext i e,st,h=>by
    have hb:Μ st.ctorIdx 24=true:=by revert h;cases st <;> first | exact non | exact fun _=>rfl
    revert h;apply YF hb;clear hb;intro x pos h
    obtain ⟨n,np,ap,y,cp,rfl,h1,h3,h4,h5⟩:=jU (show vq B c "extend" i e x=true from h)
    unfold chkN at h1
    simp only [ζ] at h1
    obtain ⟨q1,q2,_⟩:=zX h1.2
    exact s_ext (by rw [ok.ok.N];exact eq_of_beq h1.1.1) (ok.ok.vis h1.1.2) q1 q2 (ok.pe h3) h4 h5
  | .stv i kx v,st,h=>by
    have hb:Μ st.ctorIdx 5=true:=by revert h;cases st <;> first | exact non | exact fun _=>rfl
    revert h;apply uI hb;clear hb;intro ts x pos h
    exact s_st1 ok h
  | .sti o kx v,st,h=>nobE h
  | .appR o e,st,h=>nobE h
  | .pop i,st,h=>nobE h
  | .popO t i,st,h=>by
    have hb:Μ st.ctorIdx 5=true:=by revert h;cases st <;> first | exact non | exact fun _=>rfl
    revert h;apply uI hb;clear hb;intro ts x pos h
    have h:(match sole ts with
      | some tg=>chkT c t tg&&isNT tg&&Z5 c i x
      | none=>false)=true:=h
    cases e1:sole ts with
    | none=>rw [e1] at h;cases h
    | some tg=>
      rw [e1] at h
      have et:=kj e1
      subst et
      have h:(chkT c t tg&&isNT tg&&Z5 c i x)=true:=h
      rw [ζ,ζ] at h
      obtain ⟨⟨h2,h3⟩,h0⟩:=h
      obtain ⟨n,np,ap,cp,rfl,h1,h5⟩:=Ks h0
      unfold chkN at h1
      simp only [ζ] at h1
      obtain ⟨q1,q2,_⟩:=zX h1.2
      have hpg:=XN ok.ok h2
      have hN:X.N[i]?=some n:=by rw [ok.ok.N];exact eq_of_beq h1.1.1
      cases tg with
      | Tuple es kk p=>exact zau hN (ok.ok.vis h1.1.2) q1 q2 h5 hpg (XR _ es kk p pos.line X.env) (jy rfl es kk p X.env) rfl
      | Name m p=>exact zau hN (ok.ok.vis h1.1.2) q1 q2 h5 hpg (vM (x:=.Call (.Attribute (.Name n np) "pop" ap) [] [] cp) rfl (some (.Name m p)) pos.line X.env) (ur _ _ _ _) rfl
      | _=>cases h3
  | .popR t o,st,h=>nobE h
  | .pass,st,h=>by
    have hb:Μ st.ctorIdx 25=true:=by revert h;cases st <;> first | exact non | exact fun _=>rfl
    revert h;apply zb7 hb;clear hb;intro pos h
    exact zdw
  | .brk,st,h=>by
    have hb:Μ st.ctorIdx 26=true:=by revert h;cases st <;> first | exact non | exact fun _=>rfl
    revert h;apply QH hb;clear hb;intro pos h
    exact s_brk
  | .cnt,st,h=>by
    have hb:Μ st.ctorIdx 27=true:=by revert h;cases st <;> first | exact non | exact fun _=>rfl
    revert h;apply YG hb;clear hb;intro pos h
    exact s_cnt
  | .frz _,st,h=>by revert h;cases st <;> exact nobE
  | .frr _,st,h=>by revert h;cases st <;> exact nobE
theorem sCs (ok:XSt Γ B cf k X c):∀ (ss:List C) (sts:List Stmt),chkCs B c ss sts=true->PSs X sts (TCs Γ cf w Hz gz ss)
 | [],sts,h=>by
  cases sts with
  | nil=>exact zdo
  | cons _ _=>exact nobE h
 | s::ss,sts,h=>by
  by_cases hf:∃ i,s=.frz i
  ·obtain ⟨i,rfl⟩:=hf
   exact s_frz (sCs ok ss sts (by cases sts <;> exact h))
  by_cases hr:∃ i,s=.frr i
  ·obtain ⟨i,rfl⟩:=hr
   exact s_frr (sCs ok ss sts (by cases sts <;> exact h))
  ·cases sts with
   | nil=>cases s <;> first | exact nobE h | exact absurd ⟨_,rfl⟩ hf | exact absurd ⟨_,rfl⟩ hr
   | cons st sts=>
    have h:(chkC B c s st&&chkCs B c ss sts)=true:=by cases s <;> first | exact h | exact absurd ⟨_,rfl⟩ hf | exact absurd ⟨_,rfl⟩ hr
    rw [ζ] at h
    exact zbt (sC ok s st h.1) (sCs ok ss sts h.2)
end
end
theorem ln1 {α:Type}:∀ {l:List α},l.length=1->∃ a,l=[a]
 | [a],_=>⟨a,rfl⟩
theorem ln2 {α:Type}{l:List α}(h:l.length=2):∃ a0 a1,l=[a0,a1]:=by
 cases l with
 | nil=>cases h
 | cons a0 l=>
  obtain ⟨a1,rfl⟩:=ln1 (eF h)
  exact ⟨a0,a1,rfl⟩
theorem ln3 {α:Type}{l:List α}(h:l.length=3):∃ a0 a1 a2,l=[a0,a1,a2]:=by
 cases l with
 | nil=>cases h
 | cons a0 l=>
  obtain ⟨a1,a2,rfl⟩:=ln2 (eF h)
  exact ⟨a0,a1,a2,rfl⟩
theorem ln4 {α:Type}{l:List α}(h:l.length=4):∃ a0 a1 a2 a3,l=[a0,a1,a2,a3]:=by
 cases l with
 | nil=>cases h
 | cons a0 l=>
  obtain ⟨a1,a2,a3,rfl⟩:=ln3 (eF h)
  exact ⟨a0,a1,a2,a3,rfl⟩
theorem ln5 {α:Type}{l:List α}(h:l.length=5):∃ a0 a1 a2 a3 a4,l=[a0,a1,a2,a3,a4]:=by
 cases l with
 | nil=>cases h
 | cons a0 l=>
  obtain ⟨a1,a2,a3,a4,rfl⟩:=ln4 (eF h)
  exact ⟨a0,a1,a2,a3,a4,rfl⟩
theorem ln6 {α:Type}{l:List α}(h:l.length=6):∃ a0 a1 a2 a3 a4 a5,l=[a0,a1,a2,a3,a4,a5]:=by
 cases l with
 | nil=>cases h
 | cons a0 l=>
  obtain ⟨a1,a2,a3,a4,a5,rfl⟩:=ln5 (eF h)
  exact ⟨a0,a1,a2,a3,a4,a5,rfl⟩
theorem ln7 {α:Type}{l:List α}(h:l.length=7):∃ a0 a1 a2 a3 a4 a5 a6,l=[a0,a1,a2,a3,a4,a5,a6]:=by
 cases l with
 | nil=>cases h
 | cons a0 l=>
  obtain ⟨a1,a2,a3,a4,a5,a6,rfl⟩:=ln6 (eF h)
  exact ⟨a0,a1,a2,a3,a4,a5,a6,rfl⟩
noncomputable def fnsOf (rs:List Row):Nat->Option Fn:=fun i=>(rs[i]?).map (·.fn)
noncomputable def Uq (N ps:List Str) (sc:dI):Bool:=
 (sc.kind==.function)&&!sc.isCoroutine&&!sc.isGenerator&&decide N.Nodup&&(N.take ps.length==ps)&&ps.all (fun x=>sc.names.lookup x==some .local||sc.names.lookup x==some .cell)&&sc.names.all (fun y=>y.2 != .free)
theorem Uo {N ps:List Str}{sc:dI}(h:Uq N ps sc=true):qM N ps sc:=by
 unfold Uq at h
 simp only [ζ,cY,lN,decide_eq_true_eq,oW,beq_iff_eq,bne_iff_ne] at h
 obtain ⟨⟨⟨⟨⟨⟨h1,h2⟩,h3⟩,h4⟩,h5⟩,h6⟩,h7⟩:=h
 exact ⟨h1,h2,h3,h4,h5,h6,h7⟩
structure RowOk (B:Tb) (r:Row):Prop where
 sc:Uq r.N r.ps (zE r.st)=true
 ck:chkCs B ⟨(zE r.st).names,r.N,true⟩ r.fn.body (zZ r.st)=true
 np:r.fn.np=r.ps.length
 nv:r.fn.nv=r.N.length
 bd:∀ (kV doc pm:δ) (an:Option Addr) (cdv ct:δ) (us:List δ),us.length=r.ps.length->bindArgs (W.fnOf r.name r.name (yq r.st) (zZ r.st) (zE r.st) .none kV doc pm an cdv ct) ⟨us,[]⟩=pure (r.ps.zip us)
def KwOk (rs:List Row) (q:Nat×List Str×List Nat):Prop:=q.2.1≠[]/\∀ r,rs[q.1]?=some r->∀ (kV doc pm:δ) (an:Option Addr) (cdv ct:δ) (ws:List δ),ws.length=q.2.1.length ->
 bindArgs (W.fnOf r.name r.name (yq r.st) (zZ r.st) (zE r.st) .none kV doc pm an cdv ct) ⟨[],q.2.1.zip ws⟩=pure (r.ps.zip (q.2.2.map fun i=>ws.getD i .none))
structure DefAt (K:W.Frag) (x:Str) (st:Stmt):Prop where
 ex:∃ f fd,Fun K x x st f fd/\W.nsIn K ϔ x=some (some (.ref f))
theorem zeX {K:W.Frag}{x:Str}{st:Stmt}{f:Addr}{oc:δ}{od an:Option Addr}{osl:Array (Option δ)}{kV doc pm cdv ct:δ}(a:W.nsIn K ϔ x=some (some (.ref f)))
  (l:K.lookup f=some ⟨oc,od,.func (W.fnOf x x (yq st) (zZ st) (zE st) .none kV doc pm an cdv ct),osl⟩) (c:W.codeIn K cdv x=true) (k:W.keepIn K (.ref f)=true):DefAt K x st:=⟨f,_,zeQ l c k,a⟩
noncomputable def faOf (K:W.Frag) (r:Row):Option Addr:=open Classical in if h:∃ f,∃ fd,Fun K r.name r.name r.st f fd/\W.nsIn K ϔ r.name=some (some (.ref f)) then some (cL h) else none
theorem J7 {K:W.Frag}{r:Row}(h:∃ f,∃ fd,Fun K r.name r.name r.st f fd/\W.nsIn K ϔ r.name=some (some (.ref f))):faOf K r=some (cL h):=by
 unfold faOf
 exact dif_pos h
noncomputable def gmOf (K:W.Frag) (rs:List Row):Gm where
 K:=K
 fa:=fun i=>(rs[i]?).bind (faOf K)
 ca:=fun _=>none
def AllR {α:Type}(Q:α->Prop):List α->Prop
 | []=>True
 | a::r=>Q a/\AllR Q r
theorem AllR.at {α:Type}{Q:α->Prop}:∀ {l:List α}{i:Nat}{a:α},AllR Q l->l[i]?=some a->Q a
 | [],_,_,_,h=>by simp at h
 | b::r,0,a,⟨h,_⟩,e=>by simp at e;subst e;exact h
 | b::r,i+1,a,⟨_,h⟩,e=>AllR.at (i:=i) h (by simpa using e)
theorem AllR.mem {α:Type}{Q:α->Prop}:∀ {l:List α}{a:α},AllR Q l->a∈l->Q a
 | b::r,a,⟨h,t⟩,e=>by
  rcases Η.mp e with rfl | q
  ·exact h
  ·exact AllR.mem t q
structure ModOk (K:W.Frag) (mg:Str->Option δ) (B:Tb) (rs:List Row):Prop where
 fns:B.fns=rs.map (·.name)
 pars:B.pars=rs.map (·.ps)
 rows:AllR (RowOk B) rs
 kws:AllR (KwOk rs) B.kws
 defs:AllR (fun r=>DefAt K r.name r.st) rs
 gl:∀ x u,W.nsIn K ϔ x=some u->mg x=u
 bare:∀ x∈B.bare,W.nsIn K ϔ x=some none
 consts:∀ (n:Nat) (x:Str) (d:D),B.consts[n]?=some (x,d)->∃ u v,W.nsIn K ϔ x=some (some u)/\RelV v u/\∀ g,Has (gmOf K rs) g d v
section
variable {P:Τ}{w:ϝ}{K:W.Frag}{mg:Str->Option δ}{base:Heap}{B:Tb}{rs:List Row}
theorem cf_ok {F:Nat->Option Fn}{wh:Nat}(h:∀ f fn ps,F f=some fn->B.pars[f]?=some ps->fn.np=ps.length):∀ k,CfN B (callW F wh k)
 | 0=>fun _ _ _ _ _ _ q=>q.elim
 | k+1=>fun f ds V S ps hp q=>by
  obtain ⟨fn,e,hl,_⟩:=zO q
  rw [hl,h f fn ps e hp]
theorem Ug {Γ:Gm}{H:Hp}{g:G}{fn:Fn}{N:List Str}{ds:List D}{vs:List V}(h:Hass Γ g ds vs) (hn:fn.nv=N.length):EnvO Γ H H g (entry fn ds) (L2.start N vs):=by
 have hl:=h.len
 have key:∀ (i:Nat) (s:Slot),(entry fn ds)[i]?=some s->(∃ d,ds[i]?=some d/\s=.sh d)\/s=.no:=by
  intro i s e
  unfold entry at e
  by_cases hi:i < ds.length
  ·rw [ϒ (by simpa using hi),Ψ,χ hi] at e
   cases e
   exact .inl ⟨ds[i],χ hi,rfl⟩
  ·rw [ϖ (by simpa using lK hi),dF] at e
   split at e
   ·cases e;exact .inr rfl
   ·cases e
 refine ⟨?_,fun i d e=>?_,fun i d e=>?_,fun i j d e a h1=>?_⟩
 ·unfold entry L2.start
  simp [hl,hn]
 ·rcases key i _ e with ⟨d',e1,e2⟩ | e2
  ·cases e2
   obtain ⟨v,q,hv⟩:=h.get e1
   refine ⟨v,?_,hv⟩
   unfold L2.start
   have hi:=(Ζ.mp q).1
   rw [ϒ (by simpa using hi),Ψ,q]
   rfl
  ·cases e2
 ·rcases key i _ e with ⟨d',e1,e2⟩ | e2 <;> cases e2
 ·rcases key i _ h1 with ⟨d',e1,e2⟩ | e2 <;> cases e2
theorem zbX {X:Cx}(h:X.xe=fun _ _=>False):gG (Ξ X.prog X.w) X.A X.env X.xe:=by
 rw [h]
 exact gG.never
theorem fn_e {wh k f:Nat}{r:Row}{fa:Addr}{fd:bj}(md:ModOk K mg B rs) (hr:rs[f]?=some r) (F:Fun K r.name r.name r.st fa fd) (ih:∀ (g:Nat) (x:Str),B.fns[g]?=some x->FnI (gmOf K rs) B (spN (gmOf K rs) (callW (fnsOf rs) wh k)) k P w K mg base g x):
  FnOk P w K mg base CX0 (k+1) fa fd r.ps (spN (gmOf K rs) (callW (fnsOf rs) wh (k+1)) f r.ps.length):=by
 have ro:=md.rows.at hr
 have sc:=Uo ro.sc
 have hcf:CfN B (callW (fnsOf rs) wh k):=cf_ok (fun f fn ps h1 h2=>by
  unfold fnsOf at h1
  rw [md.pars,Ψ] at h2
  cases e:rs[f]? with
  | none=>rw [e] at h1;cases h1
  | some q=>
   rw [e] at h1 h2
   cases h1
   cases h2
   exact (md.rows.at e).np) k
 refine F.ok sc (fun vs H Q E h=>h.1) fun cdv A outer s H vs Q E hrm h=>?_
 obtain ⟨hl,g,ds,S,V,wok,hh,hc,kk⟩:=h
 obtain ⟨fn,e1,_,hc⟩:=zO hc
 have e2:fnsOf rs f=some r.fn:=by
  unfold fnsOf
  rw [hr]
  rfl
 rw [e2] at e1
 cases e1
 refine ⟨TCs (gmOf K rs) (callW (fnsOf rs) wh k) wh H g r.fn.body,sCs (c:=⟨(zE r.st).names,r.N,true⟩) ⟨⟨rfl,rfl,sc.kind,rfl,sc.nd,fun _ _=>rfl,rfl,hrm,fun x hx=>?_,ih,fun x hx=>?_,fun n x d e=>?_,fun f a e=>?_⟩,rfl,zbX rfl,hcf,yC k⟩ r.fn.body (zZ r.st) ro.ck,entry r.fn ds,S,_,g,hc,Step.refl H g,wok,Ug hh ro.nv,?_⟩
 ·rcases hx with hx | hx
  ·exact qI hx
  ·exact absurd rfl (sc.nofree _ (aZ hx))
 ·exact md.gl x none (md.bare x hx)
 ·obtain ⟨u,v,e1,e2,e3⟩:=md.consts n x d e
  exact ⟨u,v,md.gl x (some u) e1,e2,e3⟩
 ·obtain ⟨r,er,_⟩:=ϡ.mp (show (rs[f]?).bind (faOf K)=some a from e)
  exact ⟨r.name,by rw [md.fns,Ψ,er];rfl⟩
 ·exact ⟨fun ρ σ' H' g' S' st le w' env q=>kk (.non,.st) .non H' g' S' st w' rfl q,fun ρ σ' H' g' S' st le w' env q=>q.elim,fun ρ σ' H' g' S' st le w' env q=>q.elim,fun d fr v H' g' S' st le w' vo q=>kk (d,kd fr) v H' g' S' st w' (VN.of vo) q⟩
theorem fn_0 {f:Nat}{wh:Nat}{fa:Addr}{fd:bj}{ps:List Str}{Γ:Gm}{F:Nat->Option Fn}:FnOk P w K mg base CX0 0 fa fd ps (spN Γ (callW F wh 0) f ps.length):=
 ⟨fun vs H Q E h=>h.1,fun A outer s H args us vs Q E hr he hb hv ⟨_,g,ds,S,V,_,_,hc,_⟩=>hc.elim⟩
theorem qY:∀ {zs:List V}{ws:List δ}(i:Nat),Vals zs ws->RelV (zs.getD i .non) (ws.getD i .none)
 | _,_,_,.nil=>rfl
 | _,_,0,.cons h _=>h
 | _,_,i+1,.cons _ t=>by
  have:=qY i t
  simpa using this
theorem XH {zs:List V}{ws:List δ}(h:Vals zs ws):∀ (perm:List Nat),Vals (perm.map fun i=>zs.getD i .non) (perm.map fun i=>ws.getD i .none)
 | []=>.nil
 | i::r=>.cons (qY i h) (XH h r)
theorem zaX {wh k:Nat}(md:ModOk K mg B rs) (h:∀ (f:Nat) (r:Row) (fa:Addr) (fd:bj),rs[f]?=some r->Fun K r.name r.name r.st fa fd->FnOk P w K mg base CX0 k fa fd r.ps (spN (gmOf K rs) (callW (fnsOf rs) wh k) f r.ps.length)):
  ∀ (f:Nat) (x:Str),B.fns[f]?=some x->FnI (gmOf K rs) B (spN (gmOf K rs) (callW (fnsOf rs) wh k)) k P w K mg base f x:=by
 intro f x hx
 rw [md.fns,Ψ] at hx
 cases hr:rs[f]? with
 | none=>rw [hr] at hx;cases hx
 | some r=>
  rw [hr] at hx
  cases hx
  have da:∃ f,∃ fd,Fun K r.name r.name r.st f fd/\W.nsIn K ϔ r.name=some (some (.ref f)):=(md.defs.at hr).ex
  obtain ⟨fd,F,na⟩:=my da
  have ro:=md.rows.at hr
  refine ⟨cL da,fd,r.ps,?_,md.gl _ _ na,F.kp,F.binds ro.bd,?_,h f r _ fd hr F,fun ks perm h1 h2 h3 h4 h5=>?_⟩
  ·show (rs[f]?).bind (faOf K)=_
   rw [hr]
   exact J7 da
  ·rw [md.pars,Ψ,hr]
   rfl
  ·have hk:=md.kws.mem h5
   obtain ⟨oc,od,kV,doc,pm,an,cdv,ct,osl,hfd,lk,hcd⟩:=F.ex
   refine ⟨fun s us ws _ hl=>?_,fun {vs us zs ws} r1 r2=>?_⟩
   ·have hl:(if ws.length=ks.length then us++perm.map fun i=>ws.getD i .none else []).length=r.ps.length:=hl
    show BindsTo s fd ⟨us,ks.zip ws⟩ (r.ps.zip (if ws.length=ks.length then us++perm.map fun i=>ws.getD i .none else []))
    by_cases hw:ws.length=ks.length
    ·rw [if_pos hw] at hl ⊢
     have hu:us=[]:=by
      cases us with
      | nil=>rfl
      | cons _ _=>simp at hl;lia
     subst hu
     rw [hfd]
     exact .of_eq (hk.2 r hr kV doc pm an cdv ct ws hw)
    ·rw [if_neg hw] at hl ⊢
     have h0:r.ps=[]:=bQ.mp hl.symm
     have hk0:ks=[]:=bQ.mp (by rw [h4,h0];rfl)
     exact absurd hk0 hk.1
   ·show Vals (if zs.length=ks.length then vs++perm.map fun i=>zs.getD i .non else []) (if ws.length=ks.length then us++perm.map fun i=>ws.getD i .none else [])
    rw [r2.length]
    split
    ·exact r1.append (XH r2 perm)
    ·exact .nil
theorem za5 (wh:Nat) (md:ModOk K mg B rs):∀ (k f:Nat) (x:Str),B.fns[f]?=some x->FnI (gmOf K rs) B (spN (gmOf K rs) (callW (fnsOf rs) wh k)) k P w K mg base f x
 | 0=>zaX md fun f r fa fd hr F=>fn_0
 | k+1=>zaX md fun f r fa fd hr F=>fn_e md hr F (za5 wh md k)
end
structure Txt (K:W.Frag) (B:Tb) (rs:List Row):Prop where
 defs:AllR (fun r=>DefAt K r.name r.st) rs
 bare:AllR (fun x=>W.nsIn K ϔ x=some none) B.bare
 consts:∀ (n:Nat) (x:Str) (d:D),B.consts[n]?=some (x,d)->∃ u v,W.nsIn K ϔ x=some (some u)/\RelV v u/\∀ g,Has (gmOf K rs) g d v
structure Tabs (B:Tb) (rs:List Row):Prop where
 fns:B.fns=rs.map (·.name)
 pars:B.pars=rs.map (·.ps)
 rows:AllR (RowOk B) rs
 kws:AllR (KwOk rs) B.kws
theorem zem {K:W.Frag}{B:Tb}{rs:List Row}{h:Heap}{mg:Str->Option δ}(t:Tabs B rs) (x:Txt K B rs) (X:K.In h) (N:h.Ns ϔ mg):ModOk K mg B rs where
 fns:=t.fns
 pars:=t.pars
 rows:=t.rows
 kws:=t.kws
 defs:=x.defs
 gl:=fun y u e=>by
  cases u with
  | none=>exact W.mg_none_of X N e
  | some v=>exact W.mg_of X N e
 bare:=fun y hy=>x.bare.mem hy
 consts:=x.consts
theorem zcK {K:W.Frag}{rs:List Row}{x:Str}{i:Int}{t:Tok}(h:W.nsIn K ϔ x=some (some (.int i t))):∃ u v,W.nsIn K ϔ x=some (some u)/\RelV v u/\∀ g,Has (gmOf K rs) g (.int i) v:=⟨_,.int i,h,⟨t,rfl⟩,fun _=>rfl⟩
theorem ze2 {K:W.Frag}{rs:List Row}{i:Nat}{r:Row}(hr:rs[i]?=some r) (d:DefAt K r.name r.st):∃ u v,W.nsIn K ϔ r.name=some (some u)/\RelV v u/\∀ g,Has (gmOf K rs) g (.fn i) v:=by
 obtain ⟨fd,_,e⟩:=my d.ex
 refine ⟨.ref (cL d.ex),.ref (cL d.ex),e,rfl,fun g=>⟨cL d.ex,?_,rfl⟩⟩
 show (rs[i]?).bind (faOf K)=_
 rw [hr]
 exact J7 d.ex
theorem zcG {K:W.Frag}{rs:List Row}{x i:Str}{t:Tok}(h:W.nsIn K ϔ x=some (some (.str i t))):∃ u v,W.nsIn K ϔ x=some (some u)/\RelV v u/\∀ g,Has (gmOf K rs) g (.str i) v:=⟨_,.str i,h,⟨t,rfl⟩,fun _=>rfl⟩
open PySem L2
theorem zaU {n:Nat}{a:Int}(h0:0<=a) (h1:a < (n:Int)):idx n a=some a.toNat:=by
 show (if 0<=a then (if a < n then some a.toNat else none) else _)=_
 rw [if_pos h0,if_pos h1]
theorem ZD {i j:Int}(h:0 < j):opD .Mod (.int i) (.int j)=some (.int (i % j),false):=by
 show (if decide (0 < j)=true then some (i % j) else none).map (fun k=>(D.int k,false))=_
 rw [if_pos (decide_eq_true h)];rfl
theorem zaK {i j:Int}(h:zP i=true):opD .Mult (.int i) (.int j)=some (.int (i*j),false):=by
 show (if (zP i||zP j)=true then some (D.int (i*j),false) else none)=_
 rw [if_pos (by rw [h];rfl)]
theorem Jk {i j:Int}(h:zP j=true):opD .Mult (.int i) (.int j)=some (.int (i*j),false):=by
 show (if (zP i||zP j)=true then some (D.int (i*j),false) else none)=_
 rw [if_pos (by rw [h,Bool.or_true])]
theorem X6 {i:Int}(h0:0<=i) (h1:i < 4294967296):zP i=true:=by
 unfold zP
 rw [decide_eq_true (by lia),decide_eq_true (by lia)];rfl
theorem fits_of {n:Nat}(h:n<=1000000):fits n=true:=decide_eq_true h
theorem Js {l:List D}{a:Int}{d:D}(h0:0<=a) (h:l[a.toNat]?=some d):subD (.lst l) (.int a)=some d:=by
 show ((idx l.length a).bind fun k=>l[k]?)=_
 have:=(Ζ.mp h).1
 rw [zaU h0 (by lia)]
 exact h
theorem zap {l:List D}{a:Int}{d:D}(h0:0<=a) (h:l[a.toNat]?=some d):subD (.tup l) (.int a)=some d:=by
 show ((idx l.length a).bind fun k=>l[k]?)=_
 have:=(Ζ.mp h).1
 rw [zaU h0 (by lia)]
 exact h
theorem wW {lo hi:Int}{d:D}(h:d∈zN lo hi):∃ j,d=.int j/\lo<=j/\j < hi:=by
 unfold zN at h
 obtain ⟨k,hk,e⟩:=Ϛ.mp h
 have:=bB.mp hk
 exact ⟨lo+k,e.symm,by lia,by lia⟩
theorem uv (lo hi:Int):(zN lo hi).length=(hi - lo).toNat:=by
 unfold zN
 rw [Ν,fM]
theorem qb {n:Nat}:∀ {l:List D},(∀ d∈l,okP n d=true)->okPs n l=true
 | [],_=>rfl
 | d::l,h=>by
  show (okP n d&&okPs n l)=true
  rw [h d (μ ..),qb fun x hx=>h x (θ _ hx)];rfl
theorem eq_op {a b:D}(ha:okP 60 a=true) (hb:okP 60 b=true):cmpD .Eq a b=some (eqP a b):=by
 show (if (okP 60 a&&okP 60 b)=true then some (eqP a b) else none)=_
 rw [ha,hb];rfl
theorem ne_op {a b:D}(ha:okP 60 a=true) (hb:okP 60 b=true):cmpD .NotEq a b=some (!eqP a b):=by
 have e:cmpD .NotEq a b=(if (okP 60 a&&okP 60 b)=true then some (eqP a b) else none).map (!·):=by
  cases a with
  | dK=>exact nobE ha
  | _=>rfl
 rw [e,ha,hb];rfl
theorem zcU {a b:List D}(h:a.length+b.length<=1000000):opD .Add (.tup a) (.tup b)=some (.tup (a++b),false):=by
 show (if fits (a.length+b.length)=true then some (D.tup (a++b),false) else none)=_
 rw [if_pos (fits_of h)]
theorem Xq {a b:List D}(h:a.length+b.length<=1000000):opD .Add (.lst a) (.lst b)=some (.lst (a++b),true):=by
 show (if fits (a.length+b.length)=true then some (D.lst (a++b),true) else none)=_
 rw [if_pos (fits_of h)]
theorem Kh {l:List D}{n:Nat}(h:n<=l.length):cutD l none (some (n:Int))=l.take n:=by
 unfold cutD
 rw [HT.Qi,HT.zbA,Nat.min_eq_left h];rfl
section
variable {α:Type}{F:Nat->Option Fn}{cf:Cf}{w k f:Nat}{ds:List D}{V V':Po}{S:Store}{K:Ko}{ρ:List Slot}{x:Vl}{d:D}{b:Bool}{l:List D}{c:C}{cs:List C}
theorem zF {o:Option α}{Q:α->Prop}{a:α}(h:o=some a) (q:Q a):opt o Q:=by subst h;exact q
theorem zT {o:Option (List Slot)}{Q:List Slot->Prop}{a:List Slot}(h:o=some a) (q:Q a):optS o Q:=by subst h;exact q
theorem opv_s {o:Option (D×Bool)}{Q:Vl->Prop}(h:o=some (d,false)) (q:Q (d,.st)):opV o Q:=by subst h;exact q
theorem opv_f {o:Option (D×Bool)}{Q:Vl->Prop}(h:o=some (d,true)) (q:Q (d,.fr)):opV o Q:=by subst h;exact q
theorem tst_T {T F:Prop}(h:b=true) (q:T):tst b T F:=by subst h;exact q
theorem tst_F {T F:Prop}(h:b=false) (q:F):tst b T F:=by subst h;exact q
theorem yM {T F:Prop}(t:b=true->T) (f:b=false->F):tst b T F:=by
 cases b with
 | true=>exact t rfl
 | false=>exact f rfl
theorem kp_s {Q:D->Prop}(h:x=(d,.st)) (q:Q d):keep x Q:=by subst h;exact q
theorem kp_f {Q:D->Prop}(h:x=(d,.fr)) (q:Q d):keep x Q:=by subst h;exact q
theorem bx_f {Q:D->Prop}(h:x=(d,.fr)) (q:Q d):boxd x Q:=by subst h;exact q
theorem rv_s {Q:O->Prop}(h:x=(d,.st)) (q:Q (.ret d false)):retV x Q:=by subst h;exact q
theorem rv_f {Q:O->Prop}(h:x=(d,.fr)) (q:Q (.ret d true)):retV x Q:=by subst h;exact q
theorem bl_mk {Q:Bool->Prop}(h:d=.bl b) (q:Q b):isB d Q:=by subst h;exact q
theorem zeJ {Q:Nat->Prop}{f:Nat}(h:d=.fn f) (q:Q f):isF d Q:=by subst h;exact q
theorem zeI {Q:Int->Prop}{i:Int}(h:d=.int i) (q:Q i):isZ d Q:=by subst h;exact q
theorem sel_s {s:Option Slot}{P Q:D->Prop}(h:s=some (.sh d)) (q:P d):sel s P Q:=by subst h;exact q
theorem sel_o {s:Option Slot}{P Q:D->Prop}(h:s=some (.ow d)) (q:Q d):sel s P Q:=by subst h;exact q
theorem rdv_s {s:Option Slot}{Q:Vl->Prop}(h:s=some (.sh d)) (q:Q (d,.st)):rdV s Q:=by subst h;exact q
theorem rdv_o {s:Option Slot}{Q:Vl->Prop}(h:s=some (.ow d)) (q:Q (d,.bo)):rdV s Q:=by subst h;exact q
theorem zdZ {s:Option Slot}{Q:List D->Prop}(h:s=some (.ow (.lst l))) (q:Q l):owL s Q:=by subst h;exact q
theorem zd0 {s:Option Slot}{Q:D->Prop}(h:s=some (.ow d)) (q:Q d):owD s Q:=by subst h;exact q
theorem ze3 {s:Option D}{Q:List D->Prop}(h:s=some (.lst l)) (q:Q l):isL s Q:=by subst h;exact q
theorem zeH {n:Nat}{Q:Nat->Prop}(h:d=.ref n) (q:Q n):isR d Q:=by subst h;exact q
theorem zcH (h:wpC cf w c ρ (nxt (fun ρ' S'=>wpCs cf w cs ρ' K S') K) S):wpCs cf w (c::cs) ρ K S:=h
theorem zeZ (h:K (.next ρ) S):wpCs cf w [] ρ K S:=h
theorem zbe {g:List Slot->Store->Prop}(h:g ρ S):nxt g K (.next ρ) S:=h
theorem zc7 {g:List Slot->Store->Prop}(h:K (.ret d b) S):nxt g K (.ret d b) S:=h
theorem zc9 {g:List Slot->Store->Prop}(h:K (.brk ρ) S):nxt g K (.brk ρ) S:=h
theorem zc8 {g:List Slot->Store->Prop}(h:K (.cnt ρ) S):nxt g K (.cnt ρ) S:=h
theorem to_s (h:V (d,.st) S):told V (.ret d false) S:=h
theorem to_f (h:V (d,.fr) S):told V (.ret d true) S:=h
theorem zbd (h:V (.non,.st) S):told V (.next ρ) S:=h
theorem zbc {I:List Slot->Store->Prop}(h:I ρ S):trn K I (.next ρ) S:=h
theorem zc5 {I:List Slot->Store->Prop}(h:I ρ S):trn K I (.cnt ρ) S:=h
theorem zc6 {I:List Slot->Store->Prop}(h:K (.next ρ) S):trn K I (.brk ρ) S:=h
theorem zc4 {I:List Slot->Store->Prop}(h:K (.ret d b) S):trn K I (.ret d b) S:=h
theorem wp_mono (h:callW F w k f ds V S) (q:∀ x S,V x S->V' x S):callW F w k f ds V' S:=yC k f ds V V' S q h
theorem zq {fn:Fn}{bd:List C}(hf:F f=some fn) (hl:ds.length=fn.np) (hb:fn.body=bd) (h:wpCs (callW F w k) w bd (entry fn ds) (told V) S):callW F w (k+1) f ds V S:=by
 show opt (F f) _
 rw [hf]
 exact ⟨hl,by rw [hb];exact h⟩
theorem wp_walk {t:T}{A:List C}(I:List D->List Slot->Store->Prop)
  (step:∀ d l ρ S,I (d::l) ρ S->optS (bindT ρ t (d,false)) fun ρ1=>wpCs (callW F w k) w A ρ1 (trn K (I l)) S)
  (fin:∀ ρ S,I [] ρ S->K (.next ρ) S):∀ (l:List D) (ρ:List Slot) (S:Store),I l ρ S->forW t (fun ρ=>wpCs (callW F w k) w A ρ) l ρ K S
 | [],ρ,S,h=>fin ρ S h
 | d::l,ρ,S,h=>zm (fun ρ1 q=>zY (yC k) A (vY (fun ρ S=>wp_walk I step fin l ρ S) fun _ _=>id) q) (step d l ρ S h)
theorem j6 {e:E}{A:List C}(I:Nat->List Slot->Store->Prop)
  (step:∀ n ρ S,I n ρ S->wpE (callW F w k) ρ e (fun x S1=>isB x.1 fun b=>tst b (∃ m,n=m+1/\wpCs (callW F w k) w A ρ (trn K (I m)) S1) (K (.next ρ) S1)) S):
  ∀ (N n:Nat) (ρ:List Slot) (S:Store),n < N->I n ρ S->whlW (fun ρ=>wpX (callW F w k) ρ e) (fun ρ=>wpCs (callW F w k) w A ρ) N ρ K S
 | 0,n,ρ,S,hn,h=>absurd hn (Nat.not_lt_zero n)
 | N+1,n,ρ,S,hn,h=>za (yC k) e (fun x S1=>yl fun b=>zr (fun ⟨m,e,q⟩=>zY (yC k) A (vY (fun ρ S=>j6 I step N m ρ S (by lia)) fun _ _=>id) q) id) (step n ρ S h)
theorem e_var {i:Nat}:wpE cf ρ (.var i) V S=(rdV ρ[i]? fun x=>V x S):=rfl
theorem e_con {d:D}:wpE cf ρ (.con d) V S=(V (d,.st) S):=rfl
theorem e_glo {n:Nat}{d:D}:wpE cf ρ (.glo n d) V S=(V (d,.st) S):=rfl
theorem e_bin {op:lU}{a:E}{b:E}:wpE cf ρ (.bin op a b) V S=(wpE cf ρ a (fun x S1=>wpE cf ρ b (fun y S2=>opV (opD op (deref S2 x.1) (deref S2 y.1)) fun x=>V x S2) S1) S):=rfl
theorem e_neg {a:E}:wpE cf ρ (.neg a) V S=(wpE cf ρ a (fun x S1=>isZ x.1 fun i=>V (.int (-i),.st) S1) S):=rfl
theorem e_cmp {op:eU}{a:E}{b:E}:wpE cf ρ (.cmp op a b) V S=(wpE cf ρ a (fun x S1=>wpE cf ρ b (fun y S2=>opt (cmpD op (deref S2 x.1) (deref S2 y.1)) fun r=>V (.bl r,.st) S2) S1) S):=rfl
theorem e_chn {o1:eU}{o2:eU}{a:E}{b:E}{c:E}:wpE cf ρ (.chn o1 o2 a b c) V S=(wpE cf ρ a (fun x S1=>wpE cf ρ b (fun y S2=>opt (cmpD o1 (deref S2 x.1) (deref S2 y.1)) fun r=>tst r (wpE cf ρ c (fun z S3=>opt (cmpD o2 (deref S3 y.1) (deref S3 z.1)) fun r=>V (.bl r,.st) S3) S2) (V (.bl false,.st) S2)) S1) S):=rfl
theorem e_not {a:E}:wpE cf ρ (.not a) V S=(wpE cf ρ a (fun x S1=>isB x.1 fun b=>V (.bl (!b),.st) S1) S):=rfl
theorem e_and {a:E}{b:E}:wpE cf ρ (.and a b) V S=(wpE cf ρ a (fun x S1=>isB x.1 fun r=>tst r (wpE cf ρ b V S1) (V (.bl false,.st) S1)) S):=rfl
theorem e_or {a:E}{b:E}:wpE cf ρ (.or a b) V S=(wpE cf ρ a (fun x S1=>isB x.1 fun r=>tst r (V (.bl true,.st) S1) (wpE cf ρ b V S1)) S):=rfl
theorem e_ite {c:E}{a:E}{b:E}:wpE cf ρ (.ite c a b) V S=(wpE cf ρ c (fun x S1=>isB x.1 fun r=>tst r (wpE cf ρ a V S1) (wpE cf ρ b V S1)) S):=rfl
theorem e_tup {es:List E}:wpE cf ρ (.tup es) V S=(wpEs cf ρ es (fun ds S1=>tst (fits ds.length) (V (.tup ds,.st) S1) False) S):=rfl
theorem e_lst {es:List E}:wpE cf ρ (.lst es) V S=(wpEs cf ρ es (fun ds S1=>tst (fits ds.length) (V (.lst ds,.fr) S1) False) S):=rfl
theorem e_dic {tk:Bool}{ks:List Key}{es:List E}:wpE cf ρ (.dic tk ks es) V S=(wpEs cf ρ es (fun ds S1=>tst (dicOk tk ks ds) (V (dicV tk ks ds,.fr) S1) False) S):=rfl
theorem e_sub {a:E}{i:E}:wpE cf ρ (.sub a i) V S=(wpE cf ρ a (fun x S1=>wpE cf ρ i (fun y S2=>opt (subD (deref S2 x.1) y.1) fun d=>V (d,.st) S2) S1) S):=rfl
theorem e_slc {a:E}{lo:Option E}{hi:Option E}:wpE cf ρ (.slc a lo hi) V S=(wpE cf ρ a (fun x S1=>wpO cf ρ lo (fun l S2=>wpO cf ρ hi (fun h S3=>opV (slcD (deref S3 x.1) l h) fun x=>V x S3) S2) S1) S):=rfl
theorem e_bi {b:BI}{e:E}:wpE cf ρ (.bi b [e]) V S=(wpE cf ρ e (fun x S1=>opV (biD b [deref S1 x.1]) fun x=>V x S1) S):=rfl
theorem e_bi2 {b:BI}{e e':E}:wpE cf ρ (.bi b [e,e']) V S=(wpEs cf ρ [e,e'] (fun ds S1=>opV (biD b (ds.map (deref S1))) fun x=>V x S1) S):=rfl
theorem e_mth {m:MT}{o:E}{es:List E}:wpE cf ρ (.mth m o es) V S=(wpE cf ρ o (fun x S1=>tst (mthK m (deref S1 x.1)) (wpEs cf ρ es (fun ds S2=>opV (mthD m (deref S2 x.1) ds) fun x=>V x S2) S1) False) S):=rfl
theorem yP {f:Nat}{es:List E}:wpE cf ρ (.call f es) V S=(wpEs cf ρ es (fun ds S1=>cf f ds V S1) S):=rfl
theorem zcD {f:Nat}{perm:List Nat}{es:List E}:wpE cf ρ (.callk f perm es) V S=(wpEs cf ρ es (fun ds S1=>opt (perm.mapM fun i=>ds[i]?) fun ds=>cf f ds V S1) S):=rfl
theorem e_box {e:E}:wpE cf ρ (.box e) V S=(wpE cf ρ e (fun x S1=>boxd x fun d=>V (.ref S1.length,.st) (S1++[d])) S):=rfl
theorem Ke {i:Nat}{es:List E}:wpE cf ρ (.callv i es) V S=(rdV ρ[i]? fun x=>isF x.1 fun f=>wpEs cf ρ es (fun ds S1=>cf f ds V S1) S):=rfl
theorem e_one {e:E}:wpE cf ρ (.one e) V S=(wpE cf ρ e V S):=rfl
theorem zeV {e:E}:wpE cf ρ (.flip e) V S=(wpE cf ρ e (fun x S1=>opV (flipD (deref S1 x.1)) fun x=>V x S1) S):=rfl
theorem wp_lc {t:T}{js:List Nat}{it elt:E}{ifs:List E}(h:wpI cf ρ it (fun its S1=>walkW (cStep cf ρ t js ifs elt) its [] (fun ds S2=>V (.lst ds,.fr) S2) S1) S):wpE cf ρ (.comp t js it ifs elt) V S:=h
end
theorem UG {ks:List Key}{vs:List D}{s:Str}{v:D}(h:hasK ks (.inr s)=false) (hl:ks.length+1<=1000000):putD (.dK ks vs) (.str s) v=some (.dK (ks++[.inr s]) (vs++[v])):=by
 show (if fits (ks.length+1)=true then some (D.dK (putKs ks vs (cN s) v).1 (putKs ks vs (cN s) v).2) else none)=_
 rw [if_pos (fits_of hl)]
 unfold putKs
 rw [h];rfl
theorem J2 {t:T}{b:List Slot->Ko->Store->Prop}{d:D}{l:List D}{ρ:List Slot}{K:Ko}{S:Store}(h:optS (bindT ρ t (d,false)) fun ρ1=>b ρ1 (trn K fun ρ' S'=>forW t b l ρ' K S') S):forW t b (d::l) ρ K S:=h
theorem zcF (ns:List Int) (lo hi:Option Int):∃ ms:List Int,cutD (ns.map D.int) lo hi=ms.map D.int/\ms.length<=ns.length:=by
 unfold cutD
 rw [<- List.map_drop,<- mY]
 refine ⟨_,rfl,?_⟩
 rw [aM,d7]
 lia
theorem Ui {x k:Int}(h0:0 < k) (h1:k<=4294967296):zP (x % k)=true:=X6 (bh _ (by lia)) (by have:=aq x h0;lia)
theorem v4 {lo hi:Int}(h:lo < hi):zN lo hi=.int lo::zN (lo+1) hi:=by
 unfold zN
 obtain ⟨m,hm⟩:∃ m,(hi - lo).toNat=m+1:=⟨(hi - lo).toNat - 1,by lia⟩
 have e:(hi - (lo+1)).toNat=m:=by lia
 rw [hm,e,nD,ϧ,fc]
 congr 1
 ·simp
 ·refine ou fun k _=>?_
  simp
  lia
theorem Us {lo hi:Int}(h:hi<=lo):zN lo hi=[]:=by
 unfold zN
 rw [show (hi - lo).toNat=0 by lia];rfl
theorem om1 {a b K:Nat}(h:b<=K) (e:Nat.ble a b=true):a<=K:=ϣ (gH e) h
theorem om2 {a b K:Nat}(h:b<=K+1) (e:Nat.ble (a+1) b=true):a<=K:=Nat.le_of_succ_le_succ (ϣ (gH e) h)
theorem om3 {b K:Nat}(h:b<=K) (e:Nat.ble 1 b=true):K=K - 1+1:=(Nat.sub_add_cancel (ϣ (gH e) h)).symm
theorem frIn {h:Heap}:∀ (l:List Addr) (a:Addr) (o:Obj),(l.filterMap fun a=>(h.get? a).map fun o=>(a,o)).lookup a=some o->h.get? a=some o
 | [],a,o,e=>by cases e
 | b::l,a,o,e=>by
  rw [dh] at e
  cases q:h.get? b with
  | none=>rw [q] at e;exact frIn l a o e
  | some x=>
   rw [q] at e
   dsimp only [gf] at e
   rw [aA] at e
   cases hb:a==b with
   | true=>
    rw [hb] at e
    cases eq_of_beq hb
    exact q.trans e
   | false=>
    rw [hb] at e
    exact frIn l a o e
set_option tactic.hygienic true in
theorem Q7 {K:W.Frag}{x:Str}{st:Stmt}(e:J6 K x=some (W.fnOf x x (yq st) (zZ st) (zE st) .none .none .none .none none .none .none,true)):DefAt K x st:=by
 unfold J6 at e
 split at e
 ·rename_i f hf
  split at e
  ·rename_i oc od fd osl hl
   obtain ⟨e1,e2⟩:=iV (ϛ e)
   obtain ⟨c,k⟩:=ϵ.mp e2
   cases fd
   cases e1
   exact zeX hf hl c k
  ·cases e
 ·cases e
set_option tactic.hygienic true in
theorem zbb {K:W.Frag}{a:Addr}{its:Array δ}(h:tupAt K a=some its):∃ o n,K.lookup a=some o/\o.cls=.type "tuple"/\o.data=.seq its n/\its.size<=sizeLine:=by
 obtain ⟨o,e1,e2⟩:=ϡ.mp h
 split at e2
 ·rename_i t js n c1 c2
  split at e2
  ·rename_i c
   cases e2
   obtain ⟨c3,c4⟩:=ϵ.mp c
   exact ⟨o,n,e1,by rw [c1,eq_of_beq c3],c2,ϣ (of_decide_eq_true c4) (by rw [Ϻ];decide)⟩
  ·cases e2
 ·cases e2
theorem Xd:∀ (ds:List D) (vs:List δ),jR ds vs=true->∃ xs:List V,Vals xs vs/\∀ (Γ:Gm) (g:G),Hass Γ g ds xs
 | [],[],_=>⟨[],.nil,fun _ _=>rfl⟩
 | .str x::ds,.str y t::vs,h=>by
  obtain ⟨h1,h2⟩:=ϵ.mp (show (x==y&&jR ds vs)=true from h)
  obtain ⟨xs,v,k⟩:=Xd ds vs h2
  exact ⟨.str x::xs,.cons ⟨t,by rw [eq_of_beq h1]⟩ v,fun Γ g=>⟨_,_,rfl,rfl,k Γ g⟩⟩
 | .int x::ds,.int y t::vs,h=>by
  obtain ⟨h1,h2⟩:=ϵ.mp (show (x==y&&jR ds vs)=true from h)
  obtain ⟨xs,v,k⟩:=Xd ds vs h2
  exact ⟨.int x::xs,.cons ⟨t,by rw [eq_of_beq h1]⟩ v,fun Γ g=>⟨_,_,rfl,rfl,k Γ g⟩⟩
set_option tactic.hygienic true in
theorem zeW {K:W.Frag}{a:Addr}{ps:List (Str×Int)}(h:dicAt K a ps=true):KDic K a ps:=by
 obtain ⟨h1,h2⟩:=ϵ.mp h
 refine ⟨?_,fun h k=>W.kt_text_in k h2⟩
 split at h1
 ·rename_i o e
  obtain ⟨h3,h4⟩:=ϵ.mp h1
  split at h3
  ·rename_i t c
   exact ⟨o,e,by rw [c,eq_of_beq h3],Option.isNone_iff_eq_none.mp h4⟩
  ·cases h3
 ·cases h1
theorem uf {α β:Type}{f g:α->β}{Q:α->Prop}(h:∀ a,f a=g a->Q a):∀ {l:List α},l.map f=l.map g->AllR Q l
 | [],_=>trivial
 | a::l,e=>by
  obtain ⟨e1,e2⟩:=gD e
  exact ⟨h a e1,uf h e2⟩
set_option tactic.hygienic true in
theorem ze1 {K:W.Frag}{rs:List Row}{x:Str}{d:D}(hd:AllR (fun r=>DefAt K r.name r.st) rs) (e:conOk K rs x d=true):∃ u v,W.nsIn K ϔ x=some (some u)/\RelV v u/\∀ g,Has (gmOf K rs) g d v:=by
 cases d with
 | int i=>
  unfold conOk at e
  dsimp only at e
  split at e
  ·rename_i j t q
   cases eq_of_beq e
   exact zcK q
  ·cases e
 | str y=>
  unfold conOk at e
  dsimp only at e
  split at e
  ·rename_i j t q
   cases eq_of_beq e
   exact zcG q
  ·cases e
 | fn i=>
  unfold conOk at e
  dsimp only at e
  split at e
  ·rename_i r q
   cases eq_of_beq e
   exact ze2 q (hd.at q)
  ·cases e
 | ktp ds=>
  unfold conOk at e
  dsimp only at e
  split at e
  ·rename_i a q
   split at e
   ·rename_i its z
    obtain ⟨o,n,z1,z2,z3,z4⟩:=zbb z
    obtain ⟨xs,v,k⟩:=Xd _ _ e
    exact ⟨.ref a,.ref a,q,rfl,fun g=>⟨a,xs,rfl,⟨o,its,n,z1,z2,z3,z4,v⟩,k _ g⟩⟩
   ·cases e
  ·cases e
 | kdc ps=>
  unfold conOk at e
  dsimp only at e
  split at e
  ·rename_i a q
   exact ⟨.ref a,.ref a,q,rfl,fun g=>⟨a,rfl,zeW e⟩⟩
  ·cases e
 | _=>cases e
theorem zc2 {K:W.Frag}{B:Tb}{rs:List Row}(e:seenT K B rs=wantT B rs):Txt K B rs:=by
 obtain ⟨e1,e2⟩:=iV e
 obtain ⟨e2,e3⟩:=iV e2
 have hd:AllR (fun r=>DefAt K r.name r.st) rs:=uf (fun r q=>Q7 q) e1
 have hc:AllR (fun p:Str×D=>∃ u v,W.nsIn K ϔ p.1=some (some u)/\RelV v u/\∀ g,Has (gmOf K rs) g p.2 v) B.consts:=uf (fun p q=>ze1 hd q) e3
 exact ⟨hd,uf (fun x q=>q) e2,fun n x d q=>hc.at q⟩
abbrev TxtIn (B:Tb) (rs:List Row) (h:Heap):Prop:=∃ K:W.Frag,K.In h/\Txt K B rs
theorem zc3 {B:Tb}{rs:List Row}{n:Nat}(w:ϝ) (s:ν) (e:seenT (frOf s.heap n) B rs=wantT B rs):TxtIn B rs s.heap:=⟨frOf s.heap n,fun a o q=>frIn _ a o q,zc2 e⟩
theorem walkH {l:W.OpenLaw}{q:Τ}{loose:List Str}{XP:(Str->Option δ)->Heap->Prop}{d:DefRec}{B:Tb}{rs:List Row}{f:Nat}{r:Row}{y:Str}{wh:Nat}(hn:l.most=some 63) (hdf:d.params.defaults=[])
  (hr:rs[f]?=some r) (hd:d.name=r.name) (hps:r.ps=[y]) (t:Tabs B rs)
  (run:∀ ns:List Int,ns.length<=63->callW (fnsOf rs) wh 60 f [.scr ns] (fun x _=>x.1=.bl true) []):W.WalkO q loose XP (fun _ h=>TxtIn B rs h) l.row.toRowW d [] (fun f vs=>PySem.call f vs):=by
 refine Att.Xo hn hdf fun w sw s₁ mg mb fa o pm cd doc a vs ns G Y ho hd' hcd hmg hobj hints hlen hg=>?_
 obtain ⟨K,KX,tx⟩:=Y
 obtain ⟨fa',fd,F,na⟩:=(tx.defs.at hr).ex
 rw [hd] at hmg
 have e:=hmg.symm.trans (W.mg_of KX G.T.g na)
 cases e
 have ro:=t.rows.at hr
 refine QQ (CX:=CX0) (k:=60) (x:=y) (fd:=fd) (sp:=spN (gmOf K rs) (callW (fnsOf rs) wh 60) f 1) KX G.T.g G.T.b G.T.builtins G.T.nolimit hg hobj hints (ϣ hlen (by decide)) ⟨rfl,rfl,by decide,by decide⟩ (fun base KB NB=>?_) (fun s v=>?_) (fun H hO hS=>?_) fun H e s' z=>z
 ·have md:=zem t tx KX G.T.g
  have:=fn_e (P:=l.prog) (w:=w) (base:=base) (wh:=wh) (k:=59) md hr F (za5 wh md 59)
  rw [hps] at this
  exact this
 ·obtain ⟨oc,od,kV,doc,pm,an,cdv,ct,osl,rfl,lk,hcd⟩:=F.ex
  have hb:=ro.bd kV doc pm an cdv ct [v] (by rw [hps];rfl)
  rw [hps] at hb
  exact .of_eq hb
 ·refine ⟨rfl,⟨H,[]⟩,[.scr ns],[],_,⟨Same.refl H,rfl,gK,(fun k c b h1 _ _=>by cases h1),(fun k c b h1 _=>by cases h1)⟩,⟨.ref a,[],rfl,⟨a,rfl,hS⟩,rfl⟩,run ns hlen,fun x v H' g' S' _ _ vx q=>?_⟩
  obtain ⟨d,k⟩:=x
  cases (show d=.bl true from q)
  exact vx.sc fun _ z=>z.elim
theorem left2 {α β γ:Type}{o:Option γ}{f:γ->α}{g:γ->β}{a:α}{b:β}(h1:o.map f=some a) (h2:o.map g=some b):o.map (fun s=>(f s,g s))=some (a,b):=by
 cases o with
 | none=>cases h1
 | some s=>cases h1;cases h2;rfl
theorem left4 {p q:Τ}{loose:List Str}{Xt:ν->Bool}{α:Type}{Yf:ν->α}{y:α}{N:Nat}(row:String)
  (h:∀ (b:Bool) (w:ϝ),(W.openEnds iQ p (w.withFollow row b) N).map (fun s=>W.openSeen q loose (m9 p.main.body) Xt true s)=some (W.openGood q loose))
  (h2:∀ (b:Bool) (w:ϝ),(W.openEnds iQ p (w.withFollow row b) N).map Yf=some y):W.LeftO p q loose Xt Yf (fun _=>y) N:=fun w=>by
 have a:=left2 (h (w.params.followText row) w) (h2 (w.params.followText row) w)
 rw [ϝ.withFollow_self w row] at a
 exact a
noncomputable def drOf (s:Stmt):DefRec:=match s with
 | .FunctionDef n a b _ _ _ sc _ _ p=>⟨n,a,b,sc,p⟩
 | _=>⟨"",yq s,[],zE s,⟨0,0,0,0⟩⟩
theorem zeO {l:W.OpenLaw}{q:Τ}{loose:List Str}{d:DefRec}{B:Tb}{rs:List Row}{f:Nat}{r:Row}{y:Str}{wh:Nat}(N n:Nat) (ok:l.wellSaid=true)
  (left:W.LeftO l.prog q loose (fun s=>W.xlAt q [] s&&W.recOk [] s) (fun s=>seenT (frOf s.heap n) B rs) (fun _=>wantT B rs) N)
  (hdef:W.defOf q l.name=some (d,[])) (hp:l.prog.theDef l.name=some (d.params,d.body,d.scope)) (hk:W.kwWritten? d.params.kwonlyargs d.params.kw_defaults=some [])
  (okk:(W.chainsOk q&&W.opensWell l.prog&&(W.frees l.row.toRowW&&l.row.within.isEmpty))=true) (hb:l.prog.bare) (hw:l.row.toRowW.promised)
  (hn:l.most=some 63) (hdf:d.params.defaults=[]) (hr:rs[f]?=some r) (hd:d.name=r.name) (hps:r.ps=[y]) (t:Tabs B rs)
  (run:∀ ns:List Int,ns.length<=63->callW (fnsOf rs) wh 60 f [.scr ns] (fun x _=>x.1=.bl true) []):l.Holds:=
 W.holds_law ok fun said=>W.holds_open (r:=l.row) (q:=q) (loose:=loose) (XP:=W.XL q []) (YP:=fun _ h=>TxtIn B rs h) (N:=N) left (fun w s e=>zc3 w s e) (fun w h h' Y k=>Y.elim fun K z=>⟨K,z.1.keeps k,z.2⟩)
  (fun s e=>W.xl_of s (ϵ.mp e).1) W.XL.keeps hdef hp hk (fun s e=>W.recFacts_of (ϵ.mp e).2) (Bool.or_true _) said okk hb hw (walkH hn hdf hr hd hps t run)
end EV
namespace Q04
open PySem PySem.Spec PyProof.Rows L2 EV
theorem zcl:W.LeftO Χ.prog yK [("PARTS":Str)] (fun s=>W.xlAt yK [] s&&W.recOk [] s) (fun s=>EV.seenT (EV.frOf s.heap 400) B rs) (fun _=>EV.wantT B rs) 4000:=EV.left4 "special-get-raises" (fun b w=>by
 cases b
 ·exact YX w
 ·exact Vr w) (fun b w=>by
 cases b
 ·exact YW w
 ·exact Vq w)
theorem Vt:RowOk B jC:=⟨by decide +kernel,by decide +kernel,rfl,rfl,fun _ _ _ _ _ _ us hl=>by obtain ⟨a0,e⟩:=ln1 hl;subst e;rfl⟩
theorem Y7:RowOk B uB:=⟨by decide +kernel,by decide +kernel,rfl,rfl,fun _ _ _ _ _ _ us hl=>by obtain ⟨a0,e⟩:=ln1 hl;subst e;rfl⟩
theorem JF:RowOk B Zk:=⟨by decide +kernel,by decide +kernel,rfl,rfl,fun _ _ _ _ _ _ us hl=>by obtain ⟨a0,e⟩:=ln1 hl;subst e;rfl⟩
theorem ZL:RowOk B vH:=⟨by decide +kernel,by decide +kernel,rfl,rfl,fun _ _ _ _ _ _ us hl=>by obtain ⟨a0,a1,e⟩:=ln2 hl;subst e;rfl⟩
theorem xR:RowOk B ye:=⟨by decide +kernel,by decide +kernel,rfl,rfl,fun _ _ _ _ _ _ us hl=>by obtain ⟨a0,a1,a2,e⟩:=ln3 hl;subst e;rfl⟩
theorem JC:RowOk B Zi:=⟨by decide +kernel,by decide +kernel,rfl,rfl,fun _ _ _ _ _ _ us hl=>by obtain ⟨a0,e⟩:=ln1 hl;subst e;rfl⟩
theorem vf:RowOk B yu:=⟨by decide +kernel,by decide +kernel,rfl,rfl,fun _ _ _ _ _ _ us hl=>by obtain ⟨a0,e⟩:=ln1 hl;subst e;rfl⟩
theorem qm:RowOk B wu:=⟨by decide +kernel,by decide +kernel,rfl,rfl,fun _ _ _ _ _ _ us hl=>by obtain ⟨a0,a1,a2,e⟩:=ln3 hl;subst e;rfl⟩
theorem Y5:RowOk B uz:=⟨by decide +kernel,by decide +kernel,rfl,rfl,fun _ _ _ _ _ _ us hl=>by obtain ⟨a0,e⟩:=ln1 hl;subst e;rfl⟩
theorem vh:RowOk B yx:=⟨by decide +kernel,by decide +kernel,rfl,rfl,fun _ _ _ _ _ _ us hl=>by obtain ⟨a0,e⟩:=ln1 hl;subst e;rfl⟩
theorem ZK:RowOk B vG:=⟨by decide +kernel,by decide +kernel,rfl,rfl,fun _ _ _ _ _ _ us hl=>by obtain ⟨a0,e⟩:=ln1 hl;subst e;rfl⟩
theorem JG:RowOk B Zm:=⟨by decide +kernel,by decide +kernel,rfl,rfl,fun _ _ _ _ _ _ us hl=>by obtain ⟨a0,e⟩:=ln1 hl;subst e;rfl⟩
theorem Y6:RowOk B uA:=⟨by decide +kernel,by decide +kernel,rfl,rfl,fun _ _ _ _ _ _ us hl=>by obtain ⟨a0,e⟩:=ln1 hl;subst e;rfl⟩
theorem JH:RowOk B Zn:=⟨by decide +kernel,by decide +kernel,rfl,rfl,fun _ _ _ _ _ _ us hl=>by obtain ⟨a0,a1,e⟩:=ln2 hl;subst e;rfl⟩
theorem ql:RowOk B wj:=⟨by decide +kernel,by decide +kernel,rfl,rfl,fun _ _ _ _ _ _ us hl=>by obtain ⟨a0,e⟩:=ln1 hl;subst e;rfl⟩
theorem vg:RowOk B yw:=⟨by decide +kernel,by decide +kernel,rfl,rfl,fun _ _ _ _ _ _ us hl=>by obtain ⟨a0,a1,e⟩:=ln2 hl;subst e;rfl⟩
theorem uO:RowOk B yR:=⟨by decide +kernel,by decide +kernel,rfl,rfl,fun _ _ _ _ _ _ us hl=>by obtain ⟨a0,e⟩:=ln1 hl;subst e;rfl⟩
theorem QS:RowOk B Wd:=⟨by decide +kernel,by decide +kernel,rfl,rfl,fun _ _ _ _ _ _ us hl=>by obtain ⟨a0,a1,e⟩:=ln2 hl;subst e;rfl⟩
theorem JD:RowOk B Zj:=⟨by decide +kernel,by decide +kernel,rfl,rfl,fun _ _ _ _ _ _ us hl=>by obtain ⟨a0,a1,a2,a3,a4,e⟩:=ln5 hl;subst e;rfl⟩
theorem Y8:RowOk B uC:=⟨by decide +kernel,by decide +kernel,rfl,rfl,fun _ _ _ _ _ _ us hl=>by obtain ⟨a0,a1,a2,a3,e⟩:=ln4 hl;subst e;rfl⟩
theorem zco:RowOk B Uz:=⟨by decide +kernel,by decide +kernel,rfl,rfl,fun _ _ _ _ _ _ us hl=>by obtain ⟨a0,e⟩:=ln1 hl;subst e;rfl⟩
theorem Y9:RowOk B uD:=⟨by decide +kernel,by decide +kernel,rfl,rfl,fun _ _ _ _ _ _ us hl=>by obtain ⟨a0,e⟩:=ln1 hl;subst e;rfl⟩
theorem JB:RowOk B Zh:=⟨by decide +kernel,by decide +kernel,rfl,rfl,fun _ _ _ _ _ _ us hl=>by obtain ⟨a0,e⟩:=ln1 hl;subst e;rfl⟩
theorem Vs:RowOk B jB:=⟨by decide +kernel,by decide +kernel,rfl,rfl,fun _ _ _ _ _ _ us hl=>by obtain ⟨a0,e⟩:=ln1 hl;subst e;rfl⟩
theorem Y4:RowOk B uw:=⟨by decide +kernel,by decide +kernel,rfl,rfl,fun _ _ _ _ _ _ us hl=>by obtain ⟨a0,e⟩:=ln1 hl;subst e;rfl⟩
theorem qp:RowOk B ww:=⟨by decide +kernel,by decide +kernel,rfl,rfl,fun _ _ _ _ _ _ us hl=>by obtain ⟨a0,e⟩:=ln1 hl;subst e;rfl⟩
theorem uP:RowOk B yS:=⟨by decide +kernel,by decide +kernel,rfl,rfl,fun _ _ _ _ _ _ us hl=>by obtain ⟨a0,e⟩:=ln1 hl;subst e;rfl⟩
theorem ZQ:RowOk B vK:=⟨by decide +kernel,by decide +kernel,rfl,rfl,fun _ _ _ _ _ _ us hl=>by obtain ⟨a0,a1,e⟩:=ln2 hl;subst e;rfl⟩
theorem Xb:RowOk B uF:=⟨by decide +kernel,by decide +kernel,rfl,rfl,fun _ _ _ _ _ _ us hl=>by obtain ⟨a0,a1,a2,e⟩:=ln3 hl;subst e;rfl⟩
theorem qt:RowOk B wy:=⟨by decide +kernel,by decide +kernel,rfl,rfl,fun _ _ _ _ _ _ us hl=>by obtain ⟨a0,a1,e⟩:=ln2 hl;subst e;rfl⟩
theorem Vu:RowOk B jD:=⟨by decide +kernel,by decide +kernel,rfl,rfl,fun _ _ _ _ _ _ us hl=>by obtain ⟨a0,a1,a2,a3,e⟩:=ln4 hl;subst e;rfl⟩
theorem jt:RowOk B xG:=⟨by decide +kernel,by decide +kernel,rfl,rfl,fun _ _ _ _ _ _ us hl=>by obtain ⟨a0,a1,a2,e⟩:=ln3 hl;subst e;rfl⟩
theorem qw:RowOk B wA:=⟨by decide +kernel,by decide +kernel,rfl,rfl,fun _ _ _ _ _ _ us hl=>by obtain ⟨a0,a1,a2,a3,e⟩:=ln4 hl;subst e;rfl⟩
theorem Xa:RowOk B uE:=⟨by decide +kernel,by decide +kernel,rfl,rfl,fun _ _ _ _ _ _ us hl=>by obtain ⟨a0,a1,a2,a3,e⟩:=ln4 hl;subst e;rfl⟩
theorem Vv:RowOk B jE:=⟨by decide +kernel,by decide +kernel,rfl,rfl,fun _ _ _ _ _ _ us hl=>by obtain ⟨a0,a1,a2,a3,a4,a5,a6,e⟩:=ln7 hl;subst e;rfl⟩
theorem ZR:RowOk B vL:=⟨by decide +kernel,by decide +kernel,rfl,rfl,fun _ _ _ _ _ _ us hl=>by obtain ⟨a0,a1,a2,a3,a4,a5,a6,e⟩:=ln7 hl;subst e;rfl⟩
theorem qu:RowOk B wz:=⟨by decide +kernel,by decide +kernel,rfl,rfl,fun _ _ _ _ _ _ us hl=>by obtain ⟨a0,a1,a2,a3,a4,a5,a6,e⟩:=ln7 hl;subst e;rfl⟩
theorem ZP:RowOk B vJ:=⟨by decide +kernel,by decide +kernel,rfl,rfl,fun _ _ _ _ _ _ us hl=>by obtain ⟨a0,a1,e⟩:=ln2 hl;subst e;rfl⟩
theorem jr:RowOk B xF:=⟨by decide +kernel,by decide +kernel,rfl,rfl,fun _ _ _ _ _ _ us hl=>by obtain ⟨a0,a1,a2,e⟩:=ln3 hl;subst e;rfl⟩
theorem ZM:RowOk B vI:=⟨by decide +kernel,by decide +kernel,rfl,rfl,fun _ _ _ _ _ _ us hl=>by obtain ⟨a0,a1,a2,a3,e⟩:=ln4 hl;subst e;rfl⟩
theorem uQ:RowOk B yU:=⟨by decide +kernel,by decide +kernel,rfl,rfl,fun _ _ _ _ _ _ us hl=>by obtain ⟨a0,a1,a2,e⟩:=ln3 hl;subst e;rfl⟩
theorem k_law:RowOk B r_law:=⟨by decide +kernel,by decide +kernel,rfl,rfl,fun _ _ _ _ _ _ us hl=>by obtain ⟨a0,e⟩:=ln1 hl;subst e;rfl⟩
theorem zbC:AllR (RowOk B) rs:=⟨Vt,Y7,JF,ZL,xR,JC,vf,qm,Y5,vh,ZK,JG,Y6,JH,ql,vg,uO,QS,JD,Y8,zco,Y9,JB,Vs,Y4,qp,uP,ZQ,Xb,qt,Vu,jt,qw,Xa,Vv,ZR,qu,ZP,jr,ZM,uQ,k_law,ao⟩
theorem zes:AllR (KwOk rs) B.kws:=⟨⟨by decide,fun r hr=>by
 cases hr
 exact fun _ _ _ _ _ _ us hl=>by obtain ⟨a0,e⟩:=ln1 hl;subst e;rfl⟩,ao⟩
theorem tabs:Tabs B rs:=⟨rfl,rfl,zbC,zes⟩
noncomputable def wh:Nat:=600
noncomputable def F:=fnsOf rs
theorem wR {k:Nat}{x0:D}{S:Store}{V:Po}(h:wpCs (callW F wh k) wh jY [.sh x0] (told V) S):callW F wh (k+1) 0 [x0] V S:=zq rfl rfl rfl h
theorem xN {k:Nat}{x0:D}{S:Store}{V:Po}(h:wpCs (callW F wh k) wh jg [.sh x0] (told V) S):callW F wh (k+1) 1 [x0] V S:=zq rfl rfl rfl h
theorem V1 {k:Nat}{x0:D}{S:Store}{V:Po}(h:wpCs (callW F wh k) wh Yq [.sh x0] (told V) S):callW F wh (k+1) 2 [x0] V S:=zq rfl rfl rfl h
theorem qR {k:Nat}{x0 x1:D}{S:Store}{V:Po}(h:wpCs (callW F wh k) wh vR [.sh x0,.sh x1] (told V) S):callW F wh (k+1) 3 [x0,x1] V S:=zq rfl rfl rfl h
theorem zz {k:Nat}{x0 x1 x2:D}{S:Store}{V:Po}(h:wpCs (callW F wh k) wh yg [.sh x0,.sh x1,.sh x2] (told V) S):callW F wh (k+1) 4 [x0,x1,x2] V S:=zq rfl rfl rfl h
theorem qQ {k:Nat}{x0:D}{S:Store}{V:Po}(h:wpCs (callW F wh k) wh Yo [.sh x0] (told V) S):callW F wh (k+1) 5 [x0] V S:=zq rfl rfl rfl h
theorem yr {k:Nat}{x0:D}{S:Store}{V:Po}(h:wpCs (callW F wh k) wh yE [.sh x0] (told V) S):callW F wh (k+1) 6 [x0] V S:=zq rfl rfl rfl h
theorem z8 {k:Nat}{x0 x1 x2:D}{S:Store}{V:Po}(h:wpCs (callW F wh k) wh wK [.sh x0,.sh x1,.sh x2] (told V) S):callW F wh (k+1) 7 [x0,x1,x2] V S:=zq rfl rfl rfl h
theorem Yu {k:Nat}{x0:D}{S:Store}{V:Po}(h:wpCs (callW F wh k) wh je [.sh x0] (told V) S):callW F wh (k+1) 8 [x0] V S:=zq rfl rfl rfl h
theorem wV {k:Nat}{x0:D}{S:Store}{V:Po}(h:wpCs (callW F wh k) wh yG [.sh x0] (told V) S):callW F wh (k+1) 9 [x0] V S:=zq rfl rfl rfl h
theorem yh {k:Nat}{x0:D}{S:Store}{V:Po}(h:wpCs (callW F wh k) wh vQ [.sh x0,.no,.no] (told V) S):callW F wh (k+1) 10 [x0] V S:=zq rfl rfl rfl h
theorem ul {k:Nat}{x0:D}{S:Store}{V:Po}(h:wpCs (callW F wh k) wh Yr [.sh x0] (told V) S):callW F wh (k+1) 11 [x0] V S:=zq rfl rfl rfl h
theorem Yv {k:Nat}{x0:D}{S:Store}{V:Po}(h:wpCs (callW F wh k) wh jf [.sh x0] (told V) S):callW F wh (k+1) 12 [x0] V S:=zq rfl rfl rfl h
theorem V2 {k:Nat}{x0 x1:D}{S:Store}{V:Po}(h:wpCs (callW F wh k) wh Ys [.sh x0,.sh x1,.no] (told V) S):callW F wh (k+1) 13 [x0,x1] V S:=zq rfl rfl rfl h
theorem j7 {k:Nat}{x0:D}{S:Store}{V:Po}(h:wpCs (callW F wh k) wh wJ [.sh x0,.no,.no,.no,.no] (told V) S):callW F wh (k+1) 14 [x0] V S:=zq rfl rfl rfl h
theorem wU {k:Nat}{x0 x1:D}{S:Store}{V:Po}(h:wpCs (callW F wh k) wh yF [.sh x0,.sh x1,.no] (told V) S):callW F wh (k+1) 15 [x0,x1] V S:=zq rfl rfl rfl h
theorem uh {k:Nat}{x0:D}{S:Store}{V:Po}(h:wpCs (callW F wh k) wh xf [.sh x0] (told V) S):callW F wh (k+1) 16 [x0] V S:=zq rfl rfl rfl h
theorem xV {k:Nat}{x0 x1:D}{S:Store}{V:Po}(h:wpCs (callW F wh k) wh W2 [.sh x0,.sh x1] (told V) S):callW F wh (k+1) 17 [x0,x1] V S:=zq rfl rfl rfl h
theorem V0 {k:Nat}{x0 x1 x2 x3 x4:D}{S:Store}{V:Po}(h:wpCs (callW F wh k) wh Yp [.sh x0,.sh x1,.sh x2,.sh x3,.sh x4] (told V) S):callW F wh (k+1) 18 [x0,x1,x2,x3,x4] V S:=zq rfl rfl rfl h
theorem um {k:Nat}{x0 x1 x2 x3:D}{S:Store}{V:Po}(h:wpCs (callW F wh k) wh jh [.sh x0,.sh x1,.sh x2,.sh x3,.no] (told V) S):callW F wh (k+1) 19 [x0,x1,x2,x3] V S:=zq rfl rfl rfl h
theorem za9 {k:Nat}{x0:D}{S:Store}{V:Po}(h:wpCs (callW F wh k) wh KD [.sh x0] (told V) S):callW F wh (k+1) 20 [x0] V S:=zq rfl rfl rfl h
theorem yd {k:Nat}{x0:D}{S:Store}{V:Po}(h:wpCs (callW F wh k) wh ji [.sh x0] (told V) S):callW F wh (k+1) 21 [x0] V S:=zq rfl rfl rfl h
theorem qP {k:Nat}{x0:D}{S:Store}{V:Po}(h:wpCs (callW F wh k) wh Yn [.sh x0,.no,.no,.no] (told V) S):callW F wh (k+1) 22 [x0] V S:=zq rfl rfl rfl h
theorem W7 {k:Nat}{x0:D}{S:Store}{V:Po}(h:wpCs (callW F wh k) wh jX [.sh x0,.no,.no,.no] (told V) S):callW F wh (k+1) 23 [x0] V S:=zq rfl rfl rfl h
theorem yH {k:Nat}{x0:D}{S:Store}{V:Po}(h:wpCs (callW F wh k) wh jd [.sh x0] (told V) S):callW F wh (k+1) 24 [x0] V S:=zq rfl rfl rfl h
theorem z9 {k:Nat}{x0:D}{S:Store}{V:Po}(h:wpCs (callW F wh k) wh wL [.sh x0,.no,.no] (told V) S):callW F wh (k+1) 25 [x0] V S:=zq rfl rfl rfl h
theorem zJ {k:Nat}{x0:D}{S:Store}{V:Po}(h:wpCs (callW F wh k) wh xg [.sh x0] (told V) S):callW F wh (k+1) 26 [x0] V S:=zq rfl rfl rfl h
theorem qW {k:Nat}{x0 x1:D}{S:Store}{V:Po}(h:wpCs (callW F wh k) wh xm [.sh x0,.sh x1,.no,.no,.no,.no] (told V) S):callW F wh (k+1) 27 [x0,x1] V S:=zq rfl rfl rfl h
theorem Yx {k:Nat}{x0 x1 x2:D}{S:Store}{V:Po}(h:wpCs (callW F wh k) wh jk [.sh x0,.sh x1,.sh x2] (told V) S):callW F wh (k+1) 28 [x0,x1,x2] V S:=zq rfl rfl rfl h
theorem j8 {k:Nat}{x0 x1:D}{S:Store}{V:Po}(h:wpCs (callW F wh k) wh wM [.sh x0,.sh x1,.no,.no,.no] (told V) S):callW F wh (k+1) 29 [x0,x1] V S:=zq rfl rfl rfl h
theorem ju {k:Nat}{x0 x1 x2 x3:D}{S:Store}{V:Po}(h:wpCs (callW F wh k) wh jZ [.sh x0,.sh x1,.sh x2,.sh x3,.no,.no,.no] (told V) S):callW F wh (k+1) 30 [x0,x1,x2,x3] V S:=zq rfl rfl rfl h
theorem jq {k:Nat}{x0 x1 x2:D}{S:Store}{V:Po}(h:wpCs (callW F wh k) wh xM [.sh x0,.sh x1,.sh x2] (told V) S):callW F wh (k+1) 31 [x0,x1,x2] V S:=zq rfl rfl rfl h
theorem kh {k:Nat}{x0 x1 x2 x3:D}{S:Store}{V:Po}(h:wpCs (callW F wh k) wh wO [.sh x0,.sh x1,.sh x2,.sh x3,.no,.no,.no,.no,.no,.no] (told V) S):callW F wh (k+1) 32 [x0,x1,x2,x3] V S:=zq rfl rfl rfl h
theorem Yw {k:Nat}{x0 x1 x2 x3:D}{S:Store}{V:Po}(h:wpCs (callW F wh k) wh jj [.sh x0,.sh x1,.sh x2,.sh x3,.no,.no,.no,.no] (told V) S):callW F wh (k+1) 33 [x0,x1,x2,x3] V S:=zq rfl rfl rfl h
theorem W8 {k:Nat}{x0 x1 x2 x3 x4 x5 x6:D}{S:Store}{V:Po}(h:wpCs (callW F wh k) wh j0 [.sh x0,.sh x1,.sh x2,.sh x3,.sh x4,.sh x5,.sh x6,.no,.no,.no,.no,.no,.no,.no] (told V) S):callW F wh (k+1) 34 [x0,x1,x2,x3,x4,x5,x6] V S:=zq rfl rfl rfl h
theorem vB {k:Nat}{x0 x1 x2 x3 x4 x5 x6:D}{S:Store}{V:Po}(h:wpCs (callW F wh k) wh vW [.sh x0,.sh x1,.sh x2,.sh x3,.sh x4,.sh x5,.sh x6,.no,.no,.no,.no,.no] (told V) S):callW F wh (k+1) 35 [x0,x1,x2,x3,x4,x5,x6] V S:=zq rfl rfl rfl h
theorem j9 {k:Nat}{x0 x1 x2 x3 x4 x5 x6:D}{S:Store}{V:Po}(h:wpCs (callW F wh k) wh wN [.sh x0,.sh x1,.sh x2,.sh x3,.sh x4,.sh x5,.sh x6,.no,.no,.no] (told V) S):callW F wh (k+1) 36 [x0,x1,x2,x3,x4,x5,x6] V S:=zq rfl rfl rfl h
theorem qU {k:Nat}{x0 x1:D}{S:Store}{V:Po}(h:wpCs (callW F wh k) wh vV [.sh x0,.sh x1,.no] (told V) S):callW F wh (k+1) 37 [x0,x1] V S:=zq rfl rfl rfl h
theorem jo {k:Nat}{x0 x1 x2:D}{S:Store}{V:Po}(h:wpCs (callW F wh k) wh xK [.sh x0,.sh x1,.sh x2,.no,.no,.no,.no,.no,.no,.no,.no,.no] (told V) S):callW F wh (k+1) 38 [x0,x1,x2] V S:=zq rfl rfl rfl h
theorem qT {k:Nat}{x0 x1 x2 x3:D}{S:Store}{V:Po}(h:wpCs (callW F wh k) wh vU [.sh x0,.sh x1,.sh x2,.sh x3,.no,.no,.no] (told V) S):callW F wh (k+1) 39 [x0,x1,x2,x3] V S:=zq rfl rfl rfl h
theorem uo {k:Nat}{x0 x1 x2:D}{S:Store}{V:Po}(h:wpCs (callW F wh k) wh xj [.sh x0,.sh x1,.sh x2,.no,.no,.no,.no,.no,.no] (told V) S):callW F wh (k+1) 40 [x0,x1,x2] V S:=zq rfl rfl rfl h
theorem w_law {k:Nat}{x0:D}{S:Store}{V:Po}(h:wpCs (callW F wh k) wh b_law [.sh x0,.no,.no,.no,.no,.no,.no] (told V) S):callW F wh (k+1) 41 [x0] V S:=zq rfl rfl rfl h
end Q04
local macro_rules | `(tactic| omega) => `(tactic| first | decide | with_reducible exact EV.om1 ‹_› (by with_unfolding_all rfl) | with_reducible exact EV.om2 ‹_› (by with_unfolding_all rfl) | with_reducible exact EV.om3 ‹_› (by with_unfolding_all rfl) | lia | omega (config := {}))
open EV in
local macro_rules | `(tactic| infer_instance) => `(tactic| first
 | ((with_reducible apply rdv_s); (exact rfl))
 | ((with_reducible apply rdv_o); (exact rfl))
 | ((with_reducible apply sel_s); (exact rfl))
 | ((with_reducible apply sel_o); (exact rfl))
 | ((with_reducible apply kp_s); (exact rfl))
 | ((with_reducible apply kp_f); (exact rfl))
 | ((with_reducible apply opv_s); (first | exact rfl | exact zcU (by simp <;> omega) | exact Jk rfl | exact zaK rfl | exact zaK (Ui (by decide) (by decide))))
 | ((with_reducible apply opv_f); (exact rfl))
 | ((with_reducible apply zF); (first | exact UG (by decide) (by decide) | exact rfl | exact zap (by decide) rfl | exact Js (by decide) rfl))
 | ((with_reducible apply zT); (exact rfl); (try simp only [List.foldl, List.zip, List.zipWith, bu, bY, if_true, if_false]))
 | ((with_reducible apply bl_mk); (exact rfl))
 | ((with_reducible apply zeI); (exact rfl))
 | ((with_reducible apply zeJ); (exact rfl))
 | ((with_reducible apply tst_T); (first | with_reducible rfl | decide | (focus (simp only [isNone, deref, eqP, eqPs, beq_self_eq_true, Bool.not_true, Bool.not_false, iz, Bool.true_and]; done)) | (dsimp only [deref]; decide) | (refine fits_of ?_; (try simp only [Ϗ, Ν, bR, lM]) <;> omega)))
 | ((with_reducible apply tst_F); (first | with_reducible rfl | decide | (focus (simp only [isNone, deref, eqP, eqPs, beq_self_eq_true, Bool.not_true, Bool.not_false, iz, Bool.true_and]; done)) | (dsimp only [deref]; decide)))
 | ((with_reducible apply bx_f); (exact rfl))
 | ((with_reducible apply rv_s); (exact rfl))
 | ((with_reducible apply rv_f); (exact rfl))
 | ((with_reducible apply zdZ); (exact rfl))
 | ((with_reducible apply zd0); (exact rfl))
 | ((with_reducible apply ze3); (exact rfl))
 | ((with_reducible apply zeH); (exact rfl))
 | ((with_reducible apply zcH); (dsimp only [wpC, e_var, e_con, e_glo, e_bin, e_neg, e_cmp, e_chn, e_not, e_and, e_or, e_ite, e_tup, e_lst, e_dic, e_sub, e_slc, e_bi, e_bi2, e_mth, yP, zcD, Ke, e_box, e_one, zeV, wpEs, wpO, wpF, wpI, bu, fz, List.getElem?_cons_zero, List.getElem?_cons_succ, Option.getD]))
 | (with_reducible apply zeZ)
 | (with_reducible apply zbe)
 | (with_reducible apply zc7)
 | (with_reducible apply zc9)
 | (with_reducible apply zc8)
 | (with_reducible apply to_s)
 | (with_reducible apply to_f)
 | (with_reducible apply zbd)
 | (with_reducible apply zbc)
 | (with_reducible apply zc5)
 | (with_reducible apply zc6)
 | (with_reducible apply zc4))
local macro_rules | `(tactic| nofun) => `(tactic| (repeat infer_instance))
namespace Q04
open PySem L2 EV
abbrev Is (K f:Nat) (ds:List D) (v:Vl) (S:Store):Prop:=callW F wh K f ds (fun x S'=>x=v/\S'=S) S
abbrev Sm (K f:Nat) (ds:List D) (P:Vl->Prop) (S:Store):Prop:=callW F wh K f ds (fun x S'=>P x/\S'=S) S
noncomputable abbrev yes:Vl:=(.bl true,.st)
noncomputable abbrev noo:Vl:=(.bl false,.st)
section
variable {K f:Nat}{ds:List D}{S:Store}
theorem Is.go {v:Vl}{V:Po}(h:Is K f ds v S) (q:V v S):callW F wh K f ds V S:=wp_mono h (by rintro _ _ ⟨rfl,rfl⟩;exact q)
theorem Sm.go {P:Vl->Prop}{V:Po}(h:Sm K f ds P S) (q:∀ x,P x->V x S):callW F wh K f ds V S:=wp_mono h (by rintro x _ ⟨h1,rfl⟩;exact q x h1)
end
theorem bt {b:Bool}(h:b=true):(D.bl b,Kd.st)=yes:=by rw [h]
theorem nt {b:Bool}(h:b=true):(!b)=false:=by rw [h];rfl
theorem up {n K:Nat}(h:n+1<=K):∃ k,n<=k/\K=k+1:=⟨K - 1,by omega,by omega⟩
theorem yL {s:D->(Option D->Store->Prop)->Store->Prop}{V:List D->Store->Prop}{S:Store}(d:D):∀ (xs acc:List D),acc.length+xs.length<=1000->(∀ x∈xs,∀ Q:Option D->Store->Prop,Q (some d) S->s x Q S)->V (acc++ς xs.length d) S->walkW s xs acc V S
 | [],acc,_,_,v=>by
  rw [show acc++ς ([]:List D).length d=acc by simp] at v
  exact v
 | x::xs,acc,hl,h,v=>by
  refine h x μ _ ?_
  have hl:acc.length+(xs.length+1)<=1000:=hl
  refine tst_T (fits_of (by omega)) (yL d xs (acc++[d]) (by simp;omega) (fun y hy=>h y (θ _ hy)) ?_)
  simpa [aG] using v
theorem u9 (b:Bool):∀ n,wI (ς n (.bl b))=some (ς n b)
 | 0=>rfl
 | n+1=>by
  show (wI (ς n (.bl b))).map (b::·)=_
  rw [u9 b n];rfl
theorem xU (n:Nat):biD .all [.lst (ς n (.bl true))]=some (.bl true,false):=by
 show ((wI (ς n (.bl true))).map fun bs=>D.bl (bs.all id)).map _=_
 rw [u9]
 simp
theorem KZ (n:Nat):biD .any [.lst (ς n (.bl false))]=some (.bl false,false):=by
 show ((wI (ς n (.bl false))).map fun bs=>D.bl (bs.any id)).map _=_
 rw [u9]
 simp
noncomputable def menu:List Str:=["x","xy","set","abcdefgh","end","q"]
noncomputable def sgL:List Str:=["+","-","*","<","="]
noncomputable def chars (s:Str):List D:=s.cps.toList.map fun c=>.str ⟨#[c]⟩
noncomputable def wdB (s:Str):Bool:=decide (1<=s.length)&&decide (s.length<=8)&&decide ((chars s).length<=8)&&(chars s).all fun d=>match inD d (.str "abcdefghijklmnopqrstuvwxyz") with
 | some b=>b
 | none=>false
theorem uK:∀ s∈menu,wdB s=true:=by decide +kernel
section
variable {K:Nat}{S:Store}
theorem yQ {s:Str}(h:wdB s=true) (hK:1<=K):Is K 5 [.str s] yes S:=by
 obtain ⟨K,hk,rfl⟩:=up hK
 unfold wdB at h
 simp only [ζ,decide_eq_true_eq] at h
 obtain ⟨⟨⟨h1,h2⟩,h3⟩,h4⟩:=h
 refine qQ ?_
 have e:biD .len [.str s]=some (.int s.length,false):=by
  show (if fits s.length=true then _ else _)=_
  rw [if_pos (fits_of (by omega))]
 nofun
 refine opv_s e ?_
 nofun
 refine tst_T (decide_eq_true (by omega)) ?_
 nofun
 refine tst_F (nt (decide_eq_true (show (s.length:Int)<=8 by omega))) ?_
 nofun
 refine wp_lc ?_
 dsimp only [wpI,e_var]
 nofun
 refine yL (.bl true) (chars s) [] (by simp;omega) (fun x hx Q hQ=>?_) ?_
 ·refine zT rfl ?_
  dsimp only [wpF,e_cmp,e_glo,e_var,inn,nT,ς,bM,Υ,bu]
  have h5:=cY.mp h4 x hx
  obtain ⟨c,_,rfl⟩:=Ϛ.mp hx
  nofun
  rw [show (!_)=true from h5]
  exact hQ
 ·refine opv_s (xU _) ?_
  nofun
  exact ⟨rfl,rfl⟩
theorem XC {l:List D}(hK:1<=K):Is K 5 [.tup l] noo S:=by
 obtain ⟨K,hk,rfl⟩:=up hK
 refine qQ ?_
 nofun
 exact ⟨rfl,rfl⟩
theorem qN {i:Int}(hK:1<=K):Is K 0 [.int i] yes S:=by
 obtain ⟨K,hk,rfl⟩:=up hK
 refine wR ?_
 nofun
 exact ⟨rfl,rfl⟩
theorem VR {s:Str}(hK:1<=K):Is K 0 [.str s] noo S:=by
 obtain ⟨K,hk,rfl⟩:=up hK
 refine wR ?_
 nofun
 exact ⟨rfl,rfl⟩
theorem VP {s:List D}(hK:1<=K):Is K 0 [.tup s] noo S:=by
 obtain ⟨K,hk,rfl⟩:=up hK
 refine wR ?_
 nofun
 exact ⟨rfl,rfl⟩
def In (n:Int):Prop:=0<=n/\n < 1000000007
theorem zaG {i:Int}(h:In i) (hK:2<=K):Is K 1 [.int i] yes S:=by
 obtain ⟨K,hk,rfl⟩:=up hK
 refine xN ?_
 nofun
 refine (qN hk).go ?_
 nofun
 refine tst_T (decide_eq_true h.1) ?_
 nofun
 exact ⟨bt (decide_eq_true h.2),rfl⟩
theorem Jg {s:Str}(hK:2<=K):Is K 1 [.str s] noo S:=by
 obtain ⟨K,hk,rfl⟩:=up hK
 refine xN ?_
 nofun
 refine (VR hk).go ?_
 nofun
 exact ⟨rfl,rfl⟩
theorem zca {s:List D}(hK:2<=K):Is K 1 [.tup s] noo S:=by
 obtain ⟨K,hk,rfl⟩:=up hK
 refine xN ?_
 nofun
 refine (VP hk).go ?_
 nofun
 exact ⟨rfl,rfl⟩
theorem zbn {g:Str}(h:g∈sgL) (hK:1<=K):Is K 2 [.str g] yes S:=by
 obtain ⟨K,hk,rfl⟩:=up hK
 refine V1 ?_
 have e:∀ g∈sgL,([(.str "+"),(.str "-"),(.str "*"),(.str "<"),(.str "=")].any fun y=>eqP y (.str g))=true:=by decide +kernel
 nofun
 exact ⟨congrArg (fun b=>(D.bl b,Kd.st)) (e g h),rfl⟩
end
inductive Fm:Nat->D->Prop where
 | nm {k:Nat}{s:Str}(h:s∈menu):Fm k (.str s)
 | num {k:Nat}{i:Int}(h:In i):Fm k (.int i)
 | op {k:Nat}{g:Str}{a b:D}(h:g∈sgL) (ha:Fm k a) (hb:Fm k b):Fm (k+1) (.tup [.str g,a,b])
theorem zeS:∀ (k:Nat) (d:D),Fm k d->∀ (K:Nat) (S:Store),k+3<=K->Is K 4 [d,.fn 5,.int k] yes S:=by
 intro k
 induction k with
 | zero=>
  intro d h K S hK
  obtain ⟨K,hk,rfl⟩:=up hK
  cases h with
  | nm h=>
   refine zz ?_
   nofun
   refine (Jg (by omega)).go ?_
   nofun
   refine (yQ (uK _ h) (by omega)).go ?_
   nofun
   exact ⟨rfl,rfl⟩
  | num h=>
   refine zz ?_
   nofun
   refine (zaG h (by omega)).go ?_
   nofun
   exact ⟨rfl,rfl⟩
 | succ k ih=>
  intro d h K S hK
  obtain ⟨K,hk,rfl⟩:=up hK
  have hK2:2<=K:=by omega
  cases h with
  | nm h=>
   refine zz ?_
   nofun
   refine (Jg hK2).go ?_
   nofun
   refine (yQ (uK _ h) (by omega)).go ?_
   nofun
   exact ⟨rfl,rfl⟩
  | num h=>
   refine zz ?_
   nofun
   refine (zaG h hK2).go ?_
   nofun
   exact ⟨rfl,rfl⟩
  | op h ha hb=>
   have e:((k+1:Nat):Int) - 1=(k:Int):=by omega
   have z:eqP (.int ((k+1:Nat):Int)) (.int 0)=false:=by
    show (((k+1:Nat):Int)==0)=false
    exact beq_eq_false_iff_ne.mpr (by omega)
   refine zz (x0:=.tup _) ?_
   nofun
   refine (zca hK2).go ?_
   nofun
   refine (XC (by omega)).go ?_
   nofun
   refine tst_F z ?_
   nofun
   refine (zbn h (by omega)).go ?_
   nofun
   rw [e]
   refine (ih _ ha _ _ (by omega)).go ?_
   nofun
   rw [e]
   refine (ih _ hb _ _ (by omega)).go ?_
   nofun
   exact ⟨rfl,rfl⟩
theorem Fm.mono:∀ {k:Nat}{d:D},Fm k d->∀ {m:Nat},k<=m->Fm m d
 | _,_,.nm h,_,_=>.nm h
 | _,_,.num h,_,_=>.num h
 | k+1,_,.op h ha hb,m,q=>by
  obtain ⟨m,rfl⟩:∃ j,m=j+1:=⟨m - 1,by omega⟩
  exact .op h (ha.mono (by omega)) (hb.mono (by omega))
section
variable {K:Nat}{S:Store}
theorem WM {d:D}(h:Fm 3 d) (hK:8<=K):Is K 9 [d] yes S:=by
 obtain ⟨K,hk,rfl⟩:=up hK
 refine wV ?_
 nofun
 obtain ⟨K,hk,rfl⟩:=up hk
 refine qR ?_
 nofun
 refine (zeS 3 d h _ _ (by omega)).go ?_
 nofun
 exact ⟨rfl,rfl⟩
theorem K6 (hK:2<=K):Is K 6 [.non] yes S:=by
 obtain ⟨K,hk,rfl⟩:=up hK
 refine yr ?_
 nofun
 exact ⟨rfl,rfl⟩
theorem K5 {s:Str}(h:wdB s=true) (hK:2<=K):Is K 6 [.str s] yes S:=by
 obtain ⟨K,hk,rfl⟩:=up hK
 refine yr ?_
 nofun
 refine (yQ h hk).go ?_
 nofun
 exact ⟨rfl,rfl⟩
theorem zW {l:List D}{a b:Int}(h1:a<=l.length) (h2:(l.length:Int)<=b) (hK:1<=K):Is K 7 [.tup l,.int a,.int b] yes S:=by
 obtain ⟨K,hk,rfl⟩:=up hK
 refine z8 ?_
 nofun
 refine tst_T (decide_eq_true h1) ?_
 nofun
 exact ⟨bt (decide_eq_true h2),rfl⟩
theorem VM {s:Str}{l:List D}(hK:1<=K):Is K 8 [.tup (.str s::l)] yes S:=by
 obtain ⟨K,hk,rfl⟩:=up hK
 refine Yu ?_
 nofun
 refine tst_T (decide_eq_true (by simp)) ?_
 nofun
 exact ⟨rfl,rfl⟩
end
noncomputable def whoL:List Str:=["bank","b","ask","skyskysk"]
theorem zc1:∀ s∈whoL,wdB s=true:=by decide +kernel
def NmO (d:D):Prop:=d=.non\/∃ s∈menu,d=.str s
inductive Brn (C:Str->Nat->Prop):D->Prop where
 | ask {n e:D}{w:Str}(hn:NmO n) (hw:w∈whoL) (he:Fm 3 e):Brn C (.tup [n,.str "ask",.str w,e])
 | call {n:D}{f:Str}{l:List D}(hn:NmO n) (hf:wdB f=true) (hc:C f l.length) (h3:l.length<=3) (he:∀ e∈l,Fm 3 e):Brn C (.tup [n,.str "call",.str f,.tup l])
inductive RwB (C:Str->Nat->Prop) (B:Bool->Nat->List D->Prop):Bool->Nat->D->Prop where
 | set {u:Bool}{s:Str}{e:D}(hs:s∈menu) (he:Fm 3 e):RwB C B u 1 (.tup [.str "set",.str s,e])
 | tell {u:Bool}{e:D}(he:Fm 3 e):RwB C B u 1 (.tup [.str "tell",e])
 | fail {u:Bool}{e:D}(he:Fm 3 e):RwB C B u 1 (.tup [.str "fail",e])
 | give {e:D}(he:Fm 3 e):RwB C B false 1 (.tup [.str "give",e])
 | want {u:Bool}{i:Int}{bs:List D}(h1:1<=i) (h2:i<=bs.length) (h4:bs.length<=4) (hb:∀ b∈bs,Brn C b):RwB C B u 1 (.tup [.str "want",.int i,.tup bs])
 | whl {u:Bool}{e:D}{a:Nat}{b:List D}(he:Fm 3 e) (hb:B u a b):RwB C B u (a+1) (.tup [.str "while",e,.tup b])
 | iff {u:Bool}{e:D}{a a':Nat}{b b':List D}(he:Fm 3 e) (hb:B u a b) (hb':B u a' b'):RwB C B u (a+a'+1) (.tup [.str "if",e,.tup b,.tup b'])
 | tri {u:Bool}{n:D}{a a':Nat}{b b':List D}(hn:NmO n) (hb:B u a b) (hb':B u a' b'):RwB C B u (a+a'+1) (.tup [.str "try",.tup b,n,.tup b'])
 | doo {u:Bool}{a a':Nat}{b b':List D}(hb:B u a b) (hb':B true a' b'):RwB C B u (a+a'+1) (.tup [.str "do",.tup b,.tup b'])
inductive Rws (R:Nat->D->Prop):Nat->List D->Prop where
 | nil:Rws R 0 []
 | cons {a m:Nat}{d:D}{l:List D}(h:R a d) (t:Rws R m l):Rws R (a+m) (d::l)
def Bk (C:Str->Nat->Prop):Nat->Bool->Nat->List D->Prop
 | 0,_,m,l=>l=[]/\m=0
 | n+1,u,m,l=>l.length<=8/\Rws (RwB C (Bk C n) u) m l
inductive Bls (B:Bool->Nat->List D->Prop) (u:Bool):Nat->List D->Prop where
 | nil:Bls B u 0 []
 | cons {v:Bool}{m n:Nat}{b l:List D}(hv:u=true->v=true) (hb:B v m b) (t:Bls B u n l):Bls B u (m+n) (.tup b::l)
section
variable {C:Str->Nat->Prop}{B:Bool->Nat->List D->Prop}{u:Bool}{a:Nat}{d:D}{K:Nat}{S:Store}
theorem Qg (h:RwB C B u a d) (hK:2<=K):Is K 16 [d] yes S:=by
 obtain ⟨K,hk,rfl⟩:=up hK
 cases h <;>
 ·refine uh ?_
  nofun
  refine (VM hk).go ?_
  nofun
  exact ⟨rfl,rfl⟩
theorem Yi (h:RwB C B u a d) (hK:1<=K):Sm K 21 [d] (fun x=>∃ l n,x=(.tup l,.st)/\Bls B u n l/\n+1=a/\l.length<=2) S:=by
 obtain ⟨K,hk,rfl⟩:=up hK
 cases h with
 | set | tell | fail | give | want=>
  refine yd ?_
  nofun
  exact ⟨⟨_,_,rfl,.nil,rfl,by decide⟩,rfl⟩
 | whl he hb=>
  refine yd ?_
  nofun
  exact ⟨⟨_,_,rfl,.cons id hb .nil,rfl,by simp⟩,rfl⟩
 | iff he hb hb'=>
  refine yd ?_
  nofun
  exact ⟨⟨_,_,rfl,.cons id hb (.cons id hb' .nil),rfl,by simp⟩,rfl⟩
 | tri he hb hb'=>
  refine yd ?_
  nofun
  exact ⟨⟨_,_,rfl,.cons id hb (.cons id hb' .nil),rfl,by simp⟩,rfl⟩
 | doo hb hb'=>
  refine yd ?_
  nofun
  exact ⟨⟨_,_,rfl,.cons id hb (.cons (fun _=>rfl) hb' .nil),rfl,by simp⟩,rfl⟩
theorem Ji (h:NmO d) (hK:2<=K):Is K 6 [d] yes S:=by
 rcases h with rfl | ⟨s,hs,rfl⟩
 ·exact K6 hK
 ·exact K5 (uK s hs) hK
def CtOk (C:Str->Nat->Prop) (ks:List Key) (vs:List D):Prop:=∀ f c,C f c->lookK ks vs (.inr f)=some (.int (c:Int))
variable {ks:List Key}{vs:List D}
theorem ze4 (hc:CtOk C ks vs) (h:Brn C d) (hK:9<=K):Is K 19 [d,.dK ks vs,.fn 6,.fn 9] yes S:=by
 obtain ⟨K,hk,rfl⟩:=up hK
 cases h with
 | ask hn hw he=>
  refine um (x0:=.tup _) (x1:=.dK ks vs) (x2:=.fn 6) (x3:=.fn 9) ?_
  nofun
  refine (zW (by simp) (by simp) (by omega)).go ?_
  nofun
  refine (Ji hn (by omega)).go ?_
  nofun
  refine (yQ (zc1 _ hw) (by omega)).go ?_
  nofun
  refine (WM he (by omega)).go ?_
  nofun
  exact ⟨rfl,rfl⟩
 | @call n f l hn hf hcf h3 he=>
  have e:=hc _ _ hcf
  refine um (x0:=.tup _) (x1:=.dK ks vs) (x2:=.fn 6) (x3:=.fn 9) ?_
  nofun
  refine (zW (by simp) (by simp) (by omega)).go ?_
  nofun
  refine (Ji hn (by omega)).go ?_
  nofun
  refine (yQ hf (by omega)).go ?_
  nofun
  refine tst_F (by show (!(lookK ks vs (.inr f)).isSome)=false;rw [e];rfl) ?_
  nofun
  refine zF (show subD (.dK ks vs) (.str f)=some (.int (l.length:Int)) from e) ?_
  nofun
  refine (zW (Int.le_refl _) (Int.le_refl _) (by omega)).go ?_
  nofun
  refine wp_lc ?_
  dsimp only [wpI,e_sub,e_var,e_con]
  nofun
  refine yL (.bl true) l [] (by simp;omega) (fun x hx Q hQ=>?_) ?_
  ·refine zT rfl ?_
   dsimp only [wpF,Ke,wpEs,e_var,inn,nT,ς,bM,Υ,bu]
   nofun
   refine (WM (he x hx) (by omega)).go ?_
   nofun
   exact hQ
  ·refine opv_s (xU _) ?_
   nofun
   exact ⟨rfl,rfl⟩
theorem za8 {i:Int}{bs:List D}(hc:CtOk C ks vs) (h1:1<=i) (h2:i<=bs.length) (h4:bs.length<=4) (hb:∀ b∈bs,Brn C b) (hK:10<=K):Is K 18 [.int i,.tup bs,.dK ks vs,.fn 6,.fn 9] yes S:=by
 obtain ⟨K,hk,rfl⟩:=up hK
 refine V0 ?_
 nofun
 refine (zW (by omega) (by omega) (by omega)).go ?_
 nofun
 refine (qN (by omega)).go ?_
 nofun
 refine tst_T (decide_eq_true h1) ?_
 nofun
 refine tst_F (nt (decide_eq_true h2)) ?_
 nofun
 refine wp_lc ?_
 dsimp only [wpI,e_var]
 nofun
 refine yL (.bl true) bs [] (by simp;omega) (fun x hx Q hQ=>?_) ?_
 ·refine zT rfl ?_
  dsimp only [wpF,yP,wpEs,e_var,inn,nT,ς,bM,Υ,bu]
  nofun
  refine (ze4 hc (hb x hx) (by omega)).go ?_
  nofun
  exact hQ
 ·refine opv_s (xU _) ?_
  nofun
  exact ⟨rfl,rfl⟩
theorem zdG (hc:CtOk C ks vs) (h:RwB C B u a d) (hK:11<=K):Is K 17 [d,.dK ks vs] yes S:=by
 obtain ⟨K,hk,rfl⟩:=up hK
 cases h with
 | set hs he=>
  refine xV ?_
  nofun
  refine (yQ (uK _ hs) (by omega)).go ?_
  nofun
  refine (WM he (by omega)).go ?_
  nofun
  exact ⟨rfl,rfl⟩
 | tell he | fail he | give he | whl he | iff he=>
  refine xV ?_
  nofun
  refine (WM he (by omega)).go ?_
  nofun
  exact ⟨rfl,rfl⟩
 | want h1 h2 h4 hb=>
  refine xV ?_
  nofun
  refine (za8 hc h1 h2 h4 hb (by omega)).go ?_
  nofun
  exact ⟨rfl,rfl⟩
 | tri hn=>
  refine xV ?_
  nofun
  refine (Ji hn (by omega)).go ?_
  nofun
  exact ⟨rfl,rfl⟩
 | doo=>
  refine xV ?_
  nofun
  exact ⟨rfl,rfl⟩
end
noncomputable abbrev LS (ns:List Str):D:=.lst (ns.map D.str)
def Mn (k:Nat) (x:Vl):Prop:=∃ ns:List Str,x=(LS ns,.fr)/\(∀ s∈ns,s∈menu)/\ns.length<=k
section
variable {C:Str->Nat->Prop}{B:Bool->Nat->List D->Prop}{u:Bool}{a:Nat}{d:D}{K:Nat}{S:Store}
theorem mem1 {s:Str}(h:s∈menu):∀ x∈[s],x∈menu:=fun x hx=>by rw [υ.mp hx];exact h
theorem qH {s:D->(Option D->Store->Prop)->Store->Prop}{V:List D->Store->Prop}{S:Store}:∀ (xs:List D) (acc:List Str),acc.length+xs.length<=1000->(∀ s∈acc,s∈menu)->(∀ x∈xs,∀ Q:Option D->Store->Prop,Q none S->(∀ t∈menu,Q (some (.str t)) S)->s x Q S) ->
  (∀ ns:List Str,(∀ s∈ns,s∈menu)->ns.length<=acc.length+xs.length->V (ns.map D.str) S)->walkW s xs (acc.map D.str) V S
 | [],acc,_,ha,_,v=>v acc ha (Nat.le_add_right ..)
 | x::xs,acc,hl,ha,h,v=>by
  have hl:acc.length+(xs.length+1)<=1000:=hl
  refine h x μ _ ?_ fun t ht=>?_
  ·exact qH xs acc (by omega) ha (fun y hy=>h y (θ _ hy)) fun ns h1 h2=>v ns h1 (by simp;omega)
  ·refine tst_T (fits_of (by simp;omega)) ?_
   have:=qH (s:=s) (V:=V) (S:=S) xs (acc++[t]) (by simp;omega) (fun s hs=>(Λ.mp hs).elim (ha s) (mem1 ht s)) (fun y hy=>h y (θ _ hy)) fun ns h1 h2=>v ns h1 (by simp at h2 ⊢;omega)
   simpa using this
theorem zbo (h:RwB C B u a d) (hK:1<=K):Sm K 24 [d] (Mn 4) S:=by
 obtain ⟨K,hk,rfl⟩:=up hK
 cases h with
 | @set _ s e hs he=>
  refine yH ?_
  nofun
  exact ⟨⟨[s],rfl,mem1 hs,by simp⟩,rfl⟩
 | tell | fail | give | whl | iff | doo=>
  refine yH ?_
  nofun
  exact ⟨⟨[],rfl,by simp,by simp⟩,rfl⟩
 | tri hn=>
  refine yH ?_
  nofun
  refine wp_lc ?_
  dsimp only [wpI,e_sub,e_var,e_con,e_lst,wpEs]
  nofun
  refine qH [_] [] (by simp) (by simp) (fun x hx Q h0 h1=>?_) fun ns h1 h2=>?_
  ·rw [υ.mp hx]
   refine zT rfl ?_
   dsimp only [wpF,e_cmp,e_con,e_var,inn,nT,ς,bM,Υ,bu]
   rcases hn with rfl | ⟨s,hs,rfl⟩
   ·nofun
    exact h0
   ·nofun
    exact h1 s hs
  ·nofun
   exact ⟨⟨ns,rfl,h1,by simp at h2;omega⟩,rfl⟩
 | @want _ i bs h1 h2 h4 hb=>
  refine yH ?_
  nofun
  refine wp_lc ?_
  dsimp only [wpI,e_sub,e_var,e_con]
  nofun
  refine qH bs [] (by simp;omega) (by simp) (fun x hx Q h0 h1=>?_) fun ns h1 h2=>?_
  ·have h5:∃ n l,x=.tup (n::l)/\NmO n:=by
    cases hb x hx with
    | ask hn=>exact ⟨_,_,rfl,hn⟩
    | call hn=>exact ⟨_,_,rfl,hn⟩
   obtain ⟨n,l,rfl,hn⟩:=h5
   refine zT rfl ?_
   dsimp only [wpF,e_cmp,e_sub,e_con,e_var,inn,nT,ς,bM,Υ,bu]
   rcases hn with rfl | ⟨s,hs,rfl⟩
   ·nofun
    exact h0
   ·nofun
    exact h1 s hs
  ·nofun
   exact ⟨⟨ns,rfl,h1,by simp at h2;omega⟩,rfl⟩
def Fms (k:Nat) (x:Vl):Prop:=∃ l,x=(.lst l,.fr)/\(∀ e∈l,Fm 3 e)/\l.length<=k
theorem fm1 {e:D}(h:Fm 3 e):∀ x∈[e],Fm 3 x:=fun x hx=>by rw [υ.mp hx];exact h
theorem zcv (h:RwB C B u a d) (hK:1<=K):Sm K 25 [d] (Fms 12) S:=by
 obtain ⟨K,hk,rfl⟩:=up hK
 cases h with
 | set hs he | tell he | fail he | give he | whl he | iff he=>
  refine z9 ?_
  nofun
  exact ⟨⟨_,rfl,fm1 he,by simp⟩,rfl⟩
 | tri hn=>
  refine z9 ?_
  nofun
  exact ⟨⟨[],rfl,by simp,by simp⟩,rfl⟩
 | doo=>
  refine z9 ?_
  nofun
  exact ⟨⟨[],rfl,by simp,by simp⟩,rfl⟩
 | @want _ i bs h1 h2 h4 hb=>
  refine z9 ?_
  nofun
  refine wp_walk (fun l ρ S'=>S'=S/\∃ (fs:List D) (x2:Slot),ρ=[.sh (.tup [.str "want",.int i,.tup bs]),.ow (.lst fs),x2]/\(∀ e∈fs,Fm 3 e)/\(∀ b∈l,Brn C b)/\fs.length+3*l.length<=12) ?_ ?_ _ _ _ ⟨rfl,[],.no,rfl,by simp,hb,by simp;omega⟩
  ·rintro d l ρ S' ⟨rfl,fs,x2,rfl,hf,hb,hl⟩
   have hl:fs.length+3*(l.length+1)<=12:=hl
   have hb':=fun b hx=>hb b (θ _ hx)
   cases hb d μ with
   | ask hn hw he=>
    nofun
    exact ⟨rfl,_,_,rfl,fun e he'=>(Λ.mp he').elim (hf e) (fm1 he e),hb',by simp;omega⟩
   | call hn hf' hc h3 he=>
    nofun
    exact ⟨rfl,_,_,rfl,fun e he'=>(Λ.mp he').elim (hf e) (he e),hb',by simp;omega⟩
  ·rintro ρ S' ⟨rfl,fs,x2,rfl,hf,hb,hl⟩
   nofun
   exact ⟨⟨fs,rfl,hf,by simpa using hl⟩,rfl⟩
theorem J3:∀ (k:Nat) (d:D),k<=3->Fm k d->∀ (K:Nat) (S:Store),k+1<=K->Sm K 26 [d] (Mn (2 ^ k)) S:=by
 intro k
 induction k with
 | zero=>
  intro d _ h K S hK
  obtain ⟨K,hk,rfl⟩:=up hK
  cases h with
  | @nm _ s h=>
   refine zJ ?_
   nofun
   exact ⟨⟨[s],rfl,mem1 h,by simp⟩,rfl⟩
  | num h=>
   refine zJ ?_
   nofun
   exact ⟨⟨[],rfl,by simp,by simp⟩,rfl⟩
 | succ k ih=>
  intro d h3 h K S hK
  obtain ⟨K,hk,rfl⟩:=up hK
  have hp:1<=2 ^ k:=Nat.one_le_two_pow
  have hq:2 ^ k<=2 ^ 3:=Nat.pow_le_pow_right (by decide) (by omega)
  have hr:2 ^ (k+1)=2 ^ k+2 ^ k:=by rw [Nat.pow_succ];omega
  cases h with
  | @nm _ s h=>
   refine zJ ?_
   nofun
   exact ⟨⟨[s],rfl,mem1 h,by simp;omega⟩,rfl⟩
  | num h=>
   refine zJ ?_
   nofun
   exact ⟨⟨[],rfl,by simp,by simp⟩,rfl⟩
  | op h ha hb=>
   refine zJ ?_
   nofun
   refine (ih _ (by omega) ha _ _ hk).go ?_
   rintro _ ⟨n1,rfl,m1,l1⟩
   nofun
   refine (ih _ (by omega) hb _ _ hk).go ?_
   rintro _ ⟨n2,rfl,m2,l2⟩
   refine opv_f (Xq (by simp;omega)) ?_
   nofun
   exact ⟨⟨n1++n2,by simp [LS],fun s hs=>(Λ.mp hs).elim (m1 s) (m2 s),by simp;omega⟩,rfl⟩
end
def Ar (C:Str->Nat->Prop) (u:Bool) (r:D):Prop:=∃ n v a,(u=true->v=true)/\n<=4/\a<=1000/\RwB C (Bk C n) v a r
section
variable {C:Str->Nat->Prop}{B:Bool->Nat->List D->Prop}{u:Bool}{a:Nat}{d:D}{K:Nat}{S:Store}
theorem Wa (h:RwB C B u a d):1<=a:=by cases h <;> omega
theorem Rws.len {R:Nat->D->Prop}(hR:∀ a d,R a d->1<=a) {m:Nat}{l:List D}(h:Rws R m l):l.length<=m:=by
 induction h with
 | nil=>exact π _
 | cons h t ih=>have:=hR _ _ h;simp;omega
theorem Rws.app {R:Nat->D->Prop}{m n:Nat}{l k:List D}(h:Rws R m l) (h':Rws R n k):Rws R (m+n) (l++k):=by
 induction h with
 | nil=>simpa using h'
 | cons h t ih=>rw [Nat.add_assoc];exact .cons h ih
theorem Rws.mem {R:Nat->D->Prop}{m:Nat}{l:List D}(h:Rws R m l):∀ x∈l,∃ a,a<=m/\R a x:=by
 induction h with
 | nil=>intro x hx;cases hx
 | cons h t ih=>exact fun x hx=>(Η.mp hx).elim (fun e=>e ▸ ⟨_,Nat.le_add_right ..,h⟩) (fun hx=>(ih x hx).elim fun a q=>⟨a,ϣ q.1 (Nat.le_add_left ..),q.2⟩)
theorem Rws.last {R:Nat->D->Prop}{m:Nat}{l:List D}(h:Rws R m l) (hl:0 < l.length):∃ a n d,l.getLast?=some d/\R a d/\Rws R n l.dropLast/\m=a+n:=by
 induction h with
 | nil=>exact absurd hl (cA 0)
 | @cons a m d l h t ih=>
  cases l with
  | nil=>cases t;exact ⟨a,0,d,rfl,h,.nil,rfl⟩
  | cons e l=>
   obtain ⟨b,n,x,h1,h2,h3,h4⟩:=ih (by simp)
   exact ⟨b,a+n,x,by simpa using h1,h2,.cons h h3,by omega⟩
theorem za3 {n m:Nat}{l:List D}(h:Bk C n u m l):l.length<=m/\l.length<=8:=by
 cases n with
 | zero=>obtain ⟨rfl,rfl⟩:=h;exact ⟨π _,by decide⟩
 | succ n=>exact ⟨Rws.len (fun _ _=>Wa) h.2,h.1⟩
theorem Zd:∀ (n m:Nat) (u:Bool) (l:List D),n<=4->m<=1000->Bk C n u m l->∀ (K:Nat) (S:Store),n+2<=K->Sm K 22 [.tup l] (fun x=>∃ rs,x=(.lst rs,.fr)/\rs.length=m/\∀ r∈rs,Ar C u r) S:=by
 intro n
 induction n with
 | zero=>
  rintro m u l h4 hm ⟨rfl,rfl⟩ K S hK
  obtain ⟨K,hk,rfl⟩:=up hK
  refine qP ?_
  nofun
  exact ⟨⟨[],rfl,rfl,by simp⟩,rfl⟩
 | succ n ih=>
  rintro m u l h4 hm ⟨h8,h⟩ K S hK
  obtain ⟨K,hk,rfl⟩:=up hK
  refine qP ?_
  nofun
  refine wp_walk (fun l' ρ S'=>S'=S/\∃ (rs:List D) (x2 x3:Slot) (m':Nat),ρ=[.sh (.tup l),.ow (.lst rs),x2,x3]/\(∀ r∈rs,Ar C u r)/\Rws (RwB C (Bk C n) u) m' l'/\rs.length+m'=m) ?_ ?_ _ _ _ ⟨rfl,[],.no,.no,m,rfl,by simp,h,by simp⟩
  ·rintro d l' ρ S' ⟨rfl,rs,x2,x3,m',rfl,hr,ht,hm'⟩
   cases ht with
   | @cons a m' _ _ h t=>
    have hp:=Wa h
    nofun
    refine (Yi h (by omega)).go ?_
    rintro _ ⟨bl,q,rfl,hb,rfl,_⟩
    nofun
    refine wp_walk (fun b' ρ S''=>S''=S'/\∃ (rs':List D) (x3:Slot) (q':Nat),ρ=[.sh (.tup l),.ow (.lst rs'),.sh d,x3]/\(∀ r∈rs',Ar C u r)/\Bls (Bk C n) u q' b'/\rs'.length+q'+m'=m) ?_ ?_ _ _ _ ⟨rfl,rs++[d],x3,q,rfl,fun r hr'=>(Λ.mp hr').elim (hr r) (fun e=>by rw [υ.mp e];exact ⟨n,u,_,id,by omega,by omega,h⟩),hb,by simp;omega⟩
    ·rintro e b' ρ S'' ⟨rfl,rs',x3,q',rfl,hr',hb',he⟩
     cases hb' with
     | @cons v p q' b _ hv hb hb'=>
      nofun
      refine (ih p v b (by omega) (by omega) hb _ _ hk).go ?_
      rintro _ ⟨rs2,rfl,hl2,hr2⟩
      nofun
      refine ⟨rfl,_,_,q',rfl,fun r hx=>(Λ.mp hx).elim (hr' r) (fun e=>?_),hb',by simp;omega⟩
      obtain ⟨n2,v2,a2,h1,h2,h3,h4⟩:=hr2 r e
      exact ⟨n2,v2,a2,fun e=>h1 (hv e),h2,h3,h4⟩
    ·rintro ρ S'' ⟨rfl,rs',x3,q',rfl,hr',hb',he⟩
     cases hb'
     nofun
     exact ⟨rfl,rs',_,_,m',rfl,hr',t,by omega⟩
  ·rintro ρ S' ⟨rfl,rs,x2,x3,m',rfl,hr,ht,hm'⟩
   cases ht
   nofun
   exact ⟨⟨rs,rfl,by omega,hr⟩,rfl⟩
theorem zcc (h:Ar C true d):∃ w l,d=.tup (.str w::l)/\eqP (.str w) (.str "give")=false:=by
 obtain ⟨n,v,a,hv,_,_,h⟩:=h
 cases hv rfl
 cases h <;> exact ⟨_,_,rfl,by decide⟩
theorem Q0 {n m:Nat}{l:List D}(h4:n<=4) (hm:m<=1000) (h:Bk C n true m l) (hK:n+3<=K):Is K 20 [.tup l] noo S:=by
 obtain ⟨K,hk,rfl⟩:=up hK
 refine za9 ?_
 nofun
 refine wp_lc ?_
 dsimp only [wpI,yP,wpEs,e_var]
 nofun
 refine (Zd n m true l h4 hm h _ _ hk).go ?_
 rintro _ ⟨rs,rfl,hl,hr⟩
 nofun
 refine yL (.bl false) rs [] (by simp;omega) (fun x hx Q hQ=>?_) ?_
 ·obtain ⟨w,r,rfl,hw⟩:=zcc (hr x hx)
  refine zT rfl ?_
  dsimp only [wpF,e_cmp,e_sub,e_con,e_var,inn,nT,ς,bM,Υ,bu]
  nofun
  have hQ':Q (some (D.bl (eqP (.str w) (.str "give")))) S:=by rw [hw];exact hQ
  exact hQ'
 ·refine opv_s (KZ _) ?_
  nofun
  exact ⟨rfl,rfl⟩
end
theorem qG {s:D->(Option D->Store->Prop)->Store->Prop}{V:List D->Store->Prop}{S:Store}(f:D->D):∀ (xs acc:List D),acc.length+xs.length<=1000->(∀ x∈xs,∀ Q:Option D->Store->Prop,Q (some (f x)) S->s x Q S)->V (acc++xs.map f) S->walkW s xs acc V S
 | [],acc,_,_,v=>by
  rw [show acc++([]:List D).map f=acc by simp] at v
  exact v
 | x::xs,acc,hl,h,v=>by
  refine h x μ _ ?_
  have hl:acc.length+(xs.length+1)<=1000:=hl
  refine tst_T (fits_of (by omega)) (qG f xs (acc++[f x]) (by simp;omega) (fun y hy=>h y (θ _ hy)) ?_)
  simpa using v
section
variable {C:Str->Nat->Prop}{B:Bool->Nat->List D->Prop}{u:Bool}{a:Nat}{d:D}{K:Nat}{S:Store}
theorem Vf {n m:Nat}{l:List D}(h:Bk C n u m l) (h4:n<=4) (hK:3<=K):Is K 15 [.tup l,.int (5 - (n:Int))] yes S:=by
 obtain ⟨K,hk,rfl⟩:=up hK
 refine wU ?_
 have hl:=za3 h
 cases n with
 | zero=>
  obtain ⟨rfl,rfl⟩:=h
  nofun
  refine (zW (by simp) (by simp) (by omega)).go ?_
  nofun
  refine wp_lc ?_
  dsimp only [wpI,e_var]
  nofun
  exact ⟨rfl,rfl⟩
 | succ n=>
  have hr:=h.2.mem
  nofun
  refine tst_T (decide_eq_true (by omega)) ?_
  nofun
  refine (zW (by omega) (by omega) (by omega)).go ?_
  nofun
  refine wp_lc ?_
  dsimp only [wpI,e_var]
  nofun
  refine yL (.bl true) l [] (by simp;omega) (fun x hx Q hQ=>?_) ?_
  ·obtain ⟨a,_,hx⟩:=hr x hx
   refine zT rfl ?_
   dsimp only [wpF,yP,wpEs,e_var,inn,nT,ς,bM,Υ,bu]
   nofun
   refine (Qg hx (by omega)).go ?_
   nofun
   exact hQ
  ·refine opv_s (xU _) ?_
   nofun
   exact ⟨rfl,rfl⟩
def Pr (C:Str->Nat->Prop) (m:Nat) (d:D):Prop:=∃ (k:Nat) (v:Bool) (b:List D),k<=4/\d=.tup [.tup b,.int (5 - (k:Int))]/\Bk C k v m b
theorem ze5 {k q:Nat}(hk:k<=4) {l:List D}(h:Bls (Bk C k) u q l):Rws (Pr C) q (l.map fun x=>.tup [x,.int (5 - (k:Int))]):=by
 induction h with
 | nil=>exact .nil
 | cons hv hb t ih=>exact .cons ⟨k,_,_,hk,rfl,hb⟩ ih
theorem Uk {m:Nat}{l:List D}(h:Bk C 4 u m l) (hm:m<=24) (hK:4<=K):Sm K 14 [.tup l] (fun x=>∃ rs,x=(.lst rs,.fr)/\rs.length<=24/\∀ r∈rs,Ar C false r) S:=by
 obtain ⟨K,hk,rfl⟩:=up hK
 refine j7 ?_
 nofun
 refine j6 (fun n ρ S'=>S'=S/\∃ (rs ps:List D) (x3 x4:Slot) (M:Nat),ρ=[.sh (.tup l),.ow (.lst rs),.ow (.lst ps),x3,x4]/\(∀ r∈rs,Ar C false r)/\Rws (Pr C) M ps/\rs.length+M<=24/\2*M+ps.length<=n/\n<=49) ?_ _ 49 _ _ (by decide)
  ⟨rfl,[],[.tup [.tup l,.int 1]],.no,.no,m,rfl,by simp,.cons (m:=0) ⟨4,u,l,by decide,rfl,h⟩ .nil,by simpa using hm,by simp;omega,by decide⟩
 rintro n ρ S' ⟨rfl,rs,ps,x3,x4,M,rfl,hr,hp,hM,hn,hN⟩
 simp only [wpE]
 nofun
 refine yM (fun hl=>?_) (fun hl=>?_)
 ·have hl:0 < ps.length:=by have:=of_decide_eq_true hl;omega
  obtain ⟨a,M',d,e1,⟨k,v,b,hk4,rfl,hb⟩,e3,rfl⟩:=hp.last hl
  have hd:ps.dropLast.length=ps.length - 1:=cV
  have hbl:=za3 hb
  refine ⟨n - 1,by omega,?_⟩
  nofun
  refine zF e1 ?_
  nofun
  refine (Vf hb hk4 (by omega)).go ?_
  nofun
  refine tst_F (decide_eq_false (by simp;omega)) ?_
  nofun
  cases k with
  | zero=>
   obtain ⟨rfl,rfl⟩:=hb
   nofun
   exact ⟨rfl,_,_,_,_,M',rfl,by simpa using hr,e3,by simp;omega,by omega,by omega⟩
  | succ k=>
   have hrow:=hb.2.mem
   refine wp_walk (fun l' ρ S''=>S''=S'/\∃ (ps':List D) (x4:Slot) (M2 c:Nat),ρ=[.sh (.tup l),.ow (.lst (rs++b)),.ow (.lst ps'),.sh (.tup [.tup b,.int (5 - ((k+1:Nat):Int))]),x4]/\Rws (Pr C) M2 ps'/\Rws (RwB C (Bk C k) v) c l'/\rs.length+b.length+M2+c<=24+l'.length/\2*M2+ps'.length+2*c<=n - 1) ?_ ?_ _ _ _
    ⟨rfl,_,_,M',a,rfl,e3,hb.2,by omega,by omega⟩
   ·rintro d l' ρ S'' ⟨rfl,ps',x4,M2,c,rfl,hp',ht,h1,h2⟩
    cases ht with
    | @cons c1 c _ _ h t=>
     have hp1:=Wa h
     have hle:=Rws.len (fun _ _=>Wa) t
     have h1:rs.length+b.length+M2+(c1+c)<=24+(l'.length+1):=h1
     nofun
     refine wp_lc ?_
     dsimp only [wpI,yP,wpEs,e_var]
     nofun
     refine (Yi h (by omega)).go ?_
     rintro _ ⟨bl,q,rfl,hb2,rfl,hbl2⟩
     nofun
     refine qG (fun x=>.tup [x,.int (5 - (k:Int))]) bl [] (by simp;omega) (fun x hx Q hQ=>?_) ?_
     ·refine zT rfl ?_
      dsimp only [wpF,e_tup,e_bin,e_sub,e_con,wpEs,e_var,inn,nT,ς,bM,Υ,bu]
      nofun
      rw [show (5 - ((k+1:Nat):Int))+1=5 - (k:Int) by omega]
      exact hQ
     ·rw [dz]
      nofun
      exact ⟨rfl,_,_,M2+q,c,rfl,hp'.app (ze5 (by omega) hb2),t,by omega,by simp;omega⟩
   ·rintro ρ S'' ⟨rfl,ps',x4,M2,c,rfl,hp',ht,h1,h2⟩
    cases ht
    nofun
    refine ⟨rfl,_,_,_,_,M2,rfl,fun r hx=>(Λ.mp hx).elim (hr r) (fun e=>?_),hp',by simp at h1 ⊢;omega,by omega,by omega⟩
    obtain ⟨a',ha,h⟩:=hrow r e
    exact ⟨k,v,a',nofun,by omega,by omega,h⟩
 ·nofun
  exact ⟨⟨rs,rfl,by omega,hr⟩,rfl⟩
end
theorem Xk {s:D->(Option D->Store->Prop)->Store->Prop}{V:List D->Store->Prop}{S:Store}:∀ (xs:List D) (n:Nat),n+xs.length<=1000->(∀ x∈xs,∀ Q:Option D->Store->Prop,Q none S->Q (some (.bl false)) S->s x Q S)->(∀ n,V (ς n (.bl false)) S)->walkW s xs (ς n (.bl false)) V S
 | [],n,_,_,v=>v n
 | x::xs,n,hl,h,v=>by
  have hl:n+(xs.length+1)<=1000:=hl
  have h':=fun y hy=>h y (θ _ hy)
  refine h x μ _ (Xk xs n (by omega) h' v) ?_
  refine tst_T (fits_of (by simp;omega)) ?_
  rw [<- List.replicate_succ']
  exact Xk xs (n+1) (by omega) h' v
theorem zaJ:∀ {l m:List Str},l.Nodup->(∀ x∈l,x∈m)->l.length<=m.length
 | [],m,_,_=>bA _
 | x::l,m,hn,hs=>by
  obtain ⟨h1,h2⟩:=bJ.mp hn
  have hx:=hs x μ
  have:=zaJ (l:=l) (m:=m.erase x) h2 fun y hy=>(List.mem_erase_of_ne (fun (e:y=x)=>h1 (by rw [<- e];exact hy))).mpr (hs y (θ _ hy))
  rw [List.length_erase_of_mem hx] at this
  have:=List.length_pos_of_mem hx
  simp;omega
theorem YD:∀ (ks acc:List Str),acc.Nodup->(∀ x∈acc,x∈menu)->(∀ x∈ks,x∈menu)->(ks.foldl (fun l x=>if x∈l then l else l++[x]) acc).Nodup/\∀ x∈ks.foldl (fun l x=>if x∈l then l else l++[x]) acc,x∈menu
 | [],acc,h1,h2,_=>⟨h1,h2⟩
 | k::ks,acc,h1,h2,h3=>by
  rw [dB]
  have h4:=fun x hx=>h3 x (θ _ hx)
  by_cases h:k∈acc
  ·rw [if_pos h];exact YD ks acc h1 h2 h4
  ·rw [if_neg h]
   refine YD ks _ ?_ (fun x hx=>(Λ.mp hx).elim (h2 x) (fun e=>by rw [υ.mp e];exact h3 k μ)) h4
   rw [aV]
   exact ⟨h1,by simp,fun a ha b hb e=>h (by rw [<- υ.mp hb,<- e];exact ha)⟩
theorem Wg {ks:List Str}(h:∀ x∈ks,x∈menu):(onesS ks).length<=6:=by
 obtain ⟨h1,h2⟩:=YD ks [] gK (by simp) h
 exact zaJ (m:=menu) h1 h2
theorem Zx:∀ (ks acc:List Str),(acc++ks).Nodup->ks.foldl (fun l x=>if x∈l then l else l++[x]) acc=acc++ks
 | [],acc,_=>by simp
 | k::ks,acc,h=>by
  rw [dB,if_neg (fun hk=>by
   rw [aV] at h
   exact h.2.2 k hk k μ rfl),Zx ks _ (by simpa using h)]
  simp
theorem JT (k:Str):∀ l:List Str,(insS k l).length=l.length+1
 | []=>rfl
 | x::l=>by
  unfold insS
  split
  ·simp [JT k l]
  ·rfl
theorem X3:∀ l:List Str,(sortS l).length=l.length
 | []=>rfl
 | k::l=>by
  show (insS k (sortS l)).length=_
  rw [JT,X3 l];rfl
theorem strs_map:∀ ns:List Str,strsD (ns.map D.str)=some ns
 | []=>rfl
 | n::ns=>by
  show (strsD (ns.map D.str)).map (n::·)=_
  rw [strs_map ns];rfl
theorem zbk {ns:List Str}(h:∀ x∈ns,x∈menu) (hl:ns.length<=4000):biD .sset [LS ns]=some (.lst ((sortS (onesS ns)).map D.str),true):=by
 show ssetD (LS ns)=_
 unfold ssetD
 have:=Wg h
 rw [show (lotD (LS ns)).bind strsD=some ns from strs_map ns,iW,if_pos]
 rw [decide_eq_true (by omega),decide_eq_true (by omega)];rfl
noncomputable def er (t:Str) (ps:List Str) (b:List D):D:=.tup [.str t,.tup (ps.map D.str),.tup b]
structure ErOk (C:Str->Nat->Prop) (t:Str) (ps:List Str) (b:List D):Prop where
 wd:wdB t=true
 ps3:ps.length<=3
 psm:∀ s∈ps,s∈menu
 psn:ps.Nodup
 bk:∃ m,m<=24/\Bk C 4 false m b
section
variable {C:Str->Nat->Prop}{t:Str}{ps:List Str}{b:List D}{K:Nat}{S:Store}
theorem QM (o:ErOk C t ps b) (hK:7<=K):Sm K 23 [er t ps b] (fun x=>∃ l:List D,x=(.tup l,.st)/\l.length<=6) S:=by
 obtain ⟨K,hk,rfl⟩:=up hK
 obtain ⟨m,hm,hb⟩:=o.bk
 have h3:=o.ps3
 refine W7 (x0:=.tup _) ?_
 nofun
 refine (Zd 4 m false b (by decide) (by omega) hb _ _ (by omega)).go ?_
 rintro _ ⟨rs,rfl,hl,hr⟩
 nofun
 refine wp_walk (fun l ρ S'=>S'=S/\∃ (ns:List Str) (x2 x3:Slot),ρ=[.sh (er t ps b),.ow (LS ns),x2,x3]/\(∀ s∈ns,s∈menu)/\(∀ r∈l,Ar C false r)/\ns.length+100*l.length<=2500) ?_ ?_ _ _ _ ⟨rfl,ps,.no,.no,rfl,o.psm,hr,by omega⟩
 ·rintro d l ρ S' ⟨rfl,ns,x2,x3,rfl,hn,hr,hl⟩
  have hl:ns.length+100*(l.length+1)<=2500:=hl
  obtain ⟨n,v,a,_,_,_,h⟩:=hr d μ
  nofun
  refine (zbo h (by omega)).go ?_
  rintro _ ⟨n1,rfl,m1,l1⟩
  nofun
  refine (zcv h (by omega)).go ?_
  rintro _ ⟨fs,rfl,hf,lf⟩
  nofun
  refine wp_walk (fun l' ρ S''=>S''=S'/\∃ (ns:List Str) (x3:Slot),ρ=[.sh (er t ps b),.ow (LS ns),.sh d,x3]/\(∀ s∈ns,s∈menu)/\(∀ e∈l',Fm 3 e)/\ns.length+8*l'.length+100*l.length<=2500) ?_ ?_ _ _ _ ⟨rfl,ns++n1,x3,by simp [LS],fun s hs=>(Λ.mp hs).elim (hn s) (m1 s),hf,by simp;omega⟩
  ·rintro e l' ρ S'' ⟨rfl,ns,x3,rfl,hn,hf,hl'⟩
   have hl':ns.length+8*(l'.length+1)+100*l.length<=2500:=hl'
   nofun
   refine (J3 3 e (by decide) (hf e μ) _ _ (by omega)).go ?_
   rintro _ ⟨n2,rfl,m2,l2⟩
   nofun
   exact ⟨rfl,ns++n2,.sh e,by simp [LS],fun s hs=>(Λ.mp hs).elim (hn s) (m2 s),fun e he=>hf e (θ _ he),by simp;omega⟩
  ·rintro ρ S'' ⟨rfl,ns,x3,rfl,hn,hf,hl'⟩
   nofun
   exact ⟨rfl,ns,_,_,rfl,hn,fun r hx=>hr r (θ _ hx),by simpa using hl'⟩
 ·rintro ρ S' ⟨rfl,ns,x2,x3,rfl,hn,hr,hl⟩
  nofun
  refine opv_f (zbk hn (by simp at hl;omega)) ?_
  nofun
  exact ⟨⟨_,rfl,by rw [Ν,X3];exact Wg hn⟩,rfl⟩
theorem zct (o:ErOk C t ps b) (hK:3<=K):Is K 11 [er t ps b] yes S:=by
 obtain ⟨K,hk,rfl⟩:=up hK
 have h3:=o.ps3
 refine ul (x0:=.tup _) ?_
 nofun
 refine (zW (by simp) (by simp) (by omega)).go ?_
 nofun
 refine (yQ o.wd (by omega)).go ?_
 nofun
 obtain ⟨K,hk,rfl⟩:=up hk
 refine Yv ?_
 nofun
 refine (zW (by omega) (by simp;omega) (by omega)).go ?_
 nofun
 refine wp_lc ?_
 dsimp only [wpI,e_var]
 nofun
 refine yL (.bl true) (ps.map D.str) [] (by simp;omega) (fun x hx Q hQ=>?_) ?_
 ·obtain ⟨s,hs,rfl⟩:=Ϛ.mp hx
  refine zT rfl ?_
  dsimp only [wpF,yP,wpEs,e_var,inn,nT,ς,bM,Υ,bu]
  nofun
  refine (yQ (uK s (o.psm s hs)) (by omega)).go ?_
  nofun
  exact hQ
 ·refine opv_s (xU _) ?_
  have e:biD .lset [.tup (ps.map D.str)]=some (.int ((ps.map D.str).length:Int),false):=by
   show lsetD (.tup (ps.map D.str))=_
   unfold lsetD
   rw [show (lotD (.tup (ps.map D.str))).bind strsD=some ps from strs_map ps,iW,if_pos (decide_eq_true (by omega))]
   have:=Zx ps [] (by simpa using o.psn)
   rw [show onesS ps=ps by simpa [onesS] using this,Ν]
  nofun
  refine opv_s e ?_
  nofun
  exact ⟨bt (beq_self_eq_true _),rfl⟩
variable {ks:List Key}{vs:List D}
theorem zcN (hc:CtOk C ks vs) (o:ErOk C t ps b) (hK:12<=K):Is K 13 [er t ps b,.dK ks vs] yes S:=by
 obtain ⟨K,hk,rfl⟩:=up hK
 obtain ⟨m,hm,hb⟩:=o.bk
 refine V2 (x0:=.tup _) ?_
 nofun
 refine (Uk hb hm (by omega)).go ?_
 rintro _ ⟨rs,rfl,hl,hr⟩
 nofun
 refine wp_lc ?_
 dsimp only [wpI,e_var]
 nofun
 refine yL (.bl true) rs [] (by simp;omega) (fun x hx Q hQ=>?_) ?_
 ·obtain ⟨n,v,a,_,_,_,h⟩:=hr x hx
  refine zT rfl ?_
  dsimp only [wpF,yP,wpEs,e_var,inn,nT,ς,bM,Υ,bu]
  nofun
  refine (zdG hc h (by omega)).go ?_
  nofun
  exact hQ
 ·refine opv_s (xU _) ?_
  nofun
  refine (QM o (by omega)).go ?_
  rintro _ ⟨l,rfl,l6⟩
  nofun
  refine tst_F (decide_eq_false (by omega)) ?_
  nofun
  refine wp_lc ?_
  dsimp only [wpI,e_var]
  nofun
  refine Xk rs 0 (by omega) (fun x hx Q h0 h1=>?_) fun n=>?_
  ·obtain ⟨n,v,a,_,hn4,ha,h⟩:=hr x hx
   cases h with
   | set | tell | fail | give | want | whl | iff | tri=>
    refine zT rfl ?_
    dsimp only [wpF,e_cmp,e_sub,e_con,e_var,inn,nT,ς,bM,Υ,bu]
    nofun
    exact h0
   | doo hb1 hb2=>
    refine zT rfl ?_
    dsimp only [wpF,e_cmp,e_sub,e_con,e_var,yP,wpEs,inn,nT,ς,bM,Υ,bu]
    nofun
    refine (Q0 hn4 (by omega) hb2 (by omega)).go ?_
    nofun
    exact h1
  ·refine opv_s (KZ _) ?_
   nofun
   exact ⟨rfl,rfl⟩
end
noncomputable abbrev Er:=Str×List Str×List D
noncomputable def erD (p:Er):D:=er p.1 p.2.1 p.2.2
noncomputable def kOf (es:List Er):List Key:=es.map fun p=>.inr p.1
noncomputable def vOf (es:List Er):List D:=es.map fun p=>.int (p.2.1.length:Int)
noncomputable def prD (es:List Er):D:=.tup (es.map erD)
structure PgOk (C:Str->Nat->Prop) (es:List Er):Prop where
 len1:1<=es.length
 len6:es.length<=6
 nd:(es.map fun p=>p.1).Nodup
 ok:∀ p∈es,ErOk C p.1 p.2.1 p.2.2
 ct:∀ f c,C f c->∃ p∈es,p.1=f/\p.2.1.length=c
theorem find_none {t:Str}:∀ {es:List Er},t ∉ es.map (fun p=>p.1)->findK (kOf es) (.inr t)=none
 | [],_=>rfl
 | p::es,h=>by
  show (if (cN p.1:Key)=.inr t then some 0 else (findK (kOf es) (.inr t)).map (·+1))=none
  rw [if_neg (fun e=>h (by rw [<- iU e];exact μ)),find_none (fun q=>h (θ _ q))]
  rfl
theorem Ws {f:Str}:∀ {es:List Er}{p:Er},(es.map fun p=>p.1).Nodup->p∈es->p.1=f->lookK (kOf es) (vOf es) (.inr f)=some (.int (p.2.1.length:Int))
 | [],_,_,h,_=>by cases h
 | q::es,p,hn,h,e=>by
  obtain ⟨h1,h2⟩:=bJ.mp hn
  show (if (cN q.1:Key)=.inr f then some 0 else (findK (kOf es) (.inr f)).map (·+1)).bind (fun i=>(vOf (q::es))[i]?)=_
  rcases Η.mp h with rfl | h
  ·rw [if_pos (by rw [e])];rfl
  ·rw [if_neg (fun z=>h1 (by show q.1∈_;rw [iU z,<- e];exact eY (f:=fun p:Er=>p.1) h))]
   have:=Ws (f:=f) h2 h e
   unfold lookK at this
   cases q:findK (kOf es) (.inr f) with
   | none=>rw [q] at this;cases this
   | some i=>rw [q] at this;exact this
theorem zaV {t:Str}:∀ {es:List Er},t ∉ es.map (fun p=>p.1)->hasK (kOf es) (.inr t)=false
 | [],_=>rfl
 | p::es,h=>by
  show (decide ((cN p.1:Key)=.inr t)||hasK (kOf es) (.inr t))=false
  rw [decide_eq_false (fun e=>h (by rw [<- iU e];exact μ)),zaV (fun q=>h (θ _ q))]
  rfl
section
variable {C:Str->Nat->Prop}{es:List Er}{K:Nat}{S:Store}
theorem kO (o:PgOk C es) (hK:13<=K):Is K 10 [prD es] yes S:=by
 obtain ⟨K,hk,rfl⟩:=up hK
 have l1:=o.len1
 have l6:=o.len6
 refine yh (x0:=.tup _) ?_
 nofun
 refine (zW (by simp;omega) (by simp;omega) (by omega)).go ?_
 nofun
 refine wp_walk (fun l ρ S'=>S'=S/\∃ (dn r:List Er) (x2:Slot),l=r.map erD/\dn++r=es/\ρ=[.sh (prD es),.ow (.dK (kOf dn) (vOf dn)),x2]) ?_ ?_ _ _ _ ⟨rfl,[],es,.no,rfl,rfl,rfl⟩
 ·rintro d l ρ S' ⟨rfl,dn,r,x2,el,rfl,rfl⟩
  cases r with
  | nil=>cases el
  | cons p r=>
   obtain ⟨rfl,rfl⟩:=gD el
   obtain ⟨t,ps,b⟩:=p
   have op:=o.ok (t,ps,b) (Ρ _ μ)
   have hn:t ∉ dn.map (fun p=>p.1):=by
    have:=o.nd
    rw [aW,aV] at this
    exact fun h=>this.2.2 t h t μ rfl
   have hd:dn.length<=6:=by simp at l6;omega
   have hdl:(kOf dn).length<=6:=by simp [kOf];exact hd
   nofun
   refine (zct op (by omega)).go ?_
   nofun
   refine tst_F (by show ((findK (kOf dn) (.inr t)).bind _).isSome=false;rw [find_none hn];rfl) ?_
   nofun
   refine zF (UG (zaV hn) (by omega)) ?_
   nofun
   exact ⟨rfl,dn++[(t,ps,b)],r,.sh (erD (t,ps,b)),rfl,by simp,by simp [kOf,vOf]⟩
 ·rintro ρ S' ⟨rfl,dn,r,x2,el,rfl,rfl⟩
  cases r with
  | cons p r=>cases el
  | nil=>
   rw [Υ] at o ⊢
   have hc:CtOk C (kOf dn) (vOf dn):=fun f c h=>by
    obtain ⟨p,hp,e1,e2⟩:=o.ct f c h
    rw [Ws o.nd hp e1,e2]
   nofun
   refine wp_lc ?_
   dsimp only [wpI,e_var]
   nofun
   refine yL (.bl true) (dn.map erD) [] (by have:=o.len6;simp;omega) (fun x hx Q hQ=>?_) ?_
   ·obtain ⟨p,hp,rfl⟩:=Ϛ.mp hx
    refine zT rfl ?_
    dsimp only [wpF,yP,wpEs,e_var,inn,nT,ς,bM,Υ,bu]
    nofun
    refine (zcN hc (o.ok p hp) (by omega)).go ?_
    nofun
    exact hQ
   ·refine opv_s (xU _) ?_
    nofun
    exact ⟨rfl,rfl⟩
theorem ntup {d:D}{a b:Int}(hd:∀ S,deref S d=d) (h:isTy .tuple d=some false) (hK:1<=K):Is K 7 [d,.int a,.int b] noo S:=by
 obtain ⟨K,hk,rfl⟩:=up hK
 refine z8 ?_
 nofun
 refine opv_s (d:=.bl false) (by rw [hd];show (isTy .tuple d).map _=_;rw [h];rfl) ?_
 nofun
 exact ⟨rfl,rfl⟩
theorem zef {d:D}(hd:∀ S,deref S d=d) (h:isTy .tuple d=some false) (hK:2<=K):Is K 10 [d] noo S:=by
 obtain ⟨K,hk,rfl⟩:=up hK
 refine yh ?_
 nofun
 refine (ntup hd h hk).go ?_
 nofun
 exact ⟨rfl,rfl⟩
theorem zaI {d:D}{l:List D}(hl:l.length < 6) (hd:∀ K S,2<=K->Is K 11 [d] noo S) (hK:3<=K):Is K 10 [.tup (d::l)] noo S:=by
 obtain ⟨K,hk,rfl⟩:=up hK
 refine yh ?_
 nofun
 refine (zW (by simp;omega) (by simp;omega) (by omega)).go ?_
 nofun
 refine J2 ?_
 nofun
 refine (hd _ _ (by omega)).go ?_
 nofun
 exact ⟨rfl,rfl⟩
theorem QW {t:Str}(hK:2<=K):Is K 11 [.str t] noo S:=by
 obtain ⟨K,hk,rfl⟩:=up hK
 refine ul ?_
 nofun
 refine (ntup (fun _=>rfl) rfl hk).go ?_
 nofun
 exact ⟨rfl,rfl⟩
theorem J1 (h1:1<=es.length) (hK:2<=K):Is K 11 [prD es] noo S:=by
 obtain ⟨K,hk,rfl⟩:=up hK
 refine ul (x0:=.tup _) ?_
 nofun
 obtain ⟨K,hk,rfl⟩:=up hk
 refine z8 ?_
 nofun
 refine yM (fun h=>?_) (fun h=>?_)
 ·nofun
  refine yM (fun h'=>?_) (fun h'=>?_)
  ·cases es with
   | nil=>cases h1
   | cons p es=>
    nofun
    refine (XC (by omega)).go ?_
    nofun
    exact ⟨rfl,rfl⟩
  ·nofun
   exact ⟨rfl,rfl⟩
 ·nofun
  exact ⟨rfl,rfl⟩
theorem Vo (hK:2<=K):Is K 10 [.tup []] noo S:=by
 obtain ⟨K,hk,rfl⟩:=up hK
 refine yh ?_
 nofun
 obtain ⟨K,hk,rfl⟩:=up hk
 refine z8 ?_
 nofun
 exact ⟨rfl,rfl⟩
end
noncomputable abbrev LI (xs:List Int):D:=.lst (xs.map D.int)
theorem at_ok {xs:List Int}(h:0 < xs.length) (a:Int):∃ v,subD (LI xs) (.int (a % ((xs.map D.int).length:Int)))=some (.int v):=by
 rw [Ν]
 have hp:(0:Int) < (xs.length:Int):=by omega
 have h0:=bh a (show (xs.length:Int)≠0 by omega)
 have h1:=aq a hp
 refine ⟨xs[(a % (xs.length:Int)).toNat]'(by omega),Js h0 ?_⟩
 rw [Ψ,χ (by omega)];rfl
theorem len_pos {xs:List Int}(h:0 < xs.length):(0:Int) < ((xs.map D.int).length:Int):=by
 rw [Ν];omega
theorem wZ {l:List D}{v:Int}(h0:0<=v) (h1:v < l.length):∃ d∈l,subD (.lst l) (.int v)=some d:=⟨l[v.toNat]'(by omega),cX _,Js h0 (χ (by omega))⟩
theorem X5 (xs:List Int) (v:Int):xs.map D.int++[D.int v]=(xs++[v]).map D.int:=by rw [aW];rfl
theorem vp {c l0:Int}{xs:List Int}{S:Store}{K:Nat}{V:Po}(hl:xs.length<=500) (q:∀ ys:List Int,ys.length=500->V (LI ys,.fr) S):
  wpCs (callW F wh K) wh (xm.drop 3) [.sh (.int c),.sh (.int 500),.ow (LI xs),.sh (.int l0),.no,.no] (told V) S:=by
 show wpCs _ _ [_,_] _ _ _
 nofun
 refine tst_T (by rw [Ν];simp [fits,LIM];omega) ?_
 refine wp_walk (fun rem ρ S'=>S'=S/\∃ (j:Int) (ys:List Int) (x4 x5:Slot),rem=zN j 500/\j=ys.length/\j<=500/\ρ=[.sh (.int c),.sh (.int 500),.ow (LI ys),.sh (.int l0),x4,x5]) ?_ ?_ _ _ _ ⟨rfl,xs.length,xs,.no,.no,by rw [Ν],rfl,by omega,rfl⟩
 ·rintro d rem ρ S' ⟨rfl,j,ys,x4,x5,e1,hy,h500,rfl⟩
  by_cases hj:j < 500
  ·rw [v4 (by omega)] at e1
   cases e1
   nofun
   refine opv_s (Jk (X6 (by omega) (by omega))) ?_
   nofun
   rw [X5]
   exact ⟨rfl,j+1,_,_,_,rfl,by rw [Ϗ,hy];rfl,by omega,rfl⟩
  ·rw [Us (by omega)] at e1
   cases e1
 ·rintro ρ S' ⟨rfl,j,ys,x4,x5,e1,hy,h500,rfl⟩
  nofun
  by_cases hj:j < 500
  ·rw [v4 (by omega)] at e1
   cases e1
  ·exact q ys (by omega)
theorem Q6 {c:Int}{K:Nat}{S:Store}(hK:1<=K):Sm K 27 [.int c,.int 500] (fun x=>∃ ys:List Int,x=(LI ys,.fr)/\ys.length=500) S:=by
 obtain ⟨K,hk,rfl⟩:=up hK
 refine qW ?_
 nofun
 refine yM (fun h=>?_) (fun h=>?_)
 ·nofun
  refine j6 (fun n ρ S'=>S'=S/\∃ (ys:List Int) (l:Int),ys.length+n=500/\ρ=[.sh (.int c),.sh (.int 500),.ow (LI ys),.sh (.int l),.no,.no]) ?_ 600 500 _ _ (by decide) ⟨rfl,[],_,rfl,rfl⟩
  rintro n ρ S' ⟨rfl,ys,l,hn,rfl⟩
  simp only [wpE]
  nofun
  refine yM (fun h1=>?_) (fun h1=>?_)
  ·nofun
   refine yM (fun h2=>?_) (fun h2=>?_)
   ·have h2:=of_decide_eq_true h2
    rw [Ν] at h2
    refine ⟨n - 1,by omega,?_⟩
    nofun
    rw [X5]
    exact ⟨rfl,_,_,by rw [Ϗ];simp;omega,rfl⟩
   ·nofun
    exact vp (by omega) fun ys h=>⟨⟨ys,rfl,h⟩,rfl⟩
  ·nofun
   exact vp (by omega) fun ys h=>⟨⟨ys,rfl,h⟩,rfl⟩
 ·nofun
  exact vp (xs:=[]) (by decide) fun ys h=>⟨⟨ys,rfl,h⟩,rfl⟩
section
variable {xs:List Int}{K:Nat}{S:Store}
def Dr (m:Int) (x:Vl):Prop:=∃ v:Int,x=(.int v,.st)/\0<=v/\v < m
theorem zA {a m:Int}(hx:0 < xs.length) (hm:0 < m) (hK:1<=K):Sm K 28 [LI xs,.int a,.int m] (Dr m) S:=by
 obtain ⟨K,hk,rfl⟩:=up hK
 obtain ⟨v,e⟩:=at_ok hx a
 refine Yx ?_
 nofun
 refine opv_s (ZD (len_pos hx)) ?_
 refine zF e ?_
 nofun
 refine opv_s (ZD hm) ?_
 nofun
 exact ⟨⟨_,rfl,bh _ (by omega),aq _ hm⟩,rfl⟩
theorem zen (x:Int):In (x % 1000000007):=⟨bh _ (by decide),aq _ (by decide)⟩
theorem Jv {a:Int}(hx:0 < xs.length) (hK:1<=K):Sm K 29 [LI xs,.int a] (fun x=>∃ v,x=(.int v,.st)/\In v) S:=by
 obtain ⟨K,hk,rfl⟩:=up hK
 obtain ⟨v,e⟩:=at_ok hx a
 obtain ⟨v1,e1⟩:=at_ok hx (a+1)
 obtain ⟨v2,e2⟩:=at_ok hx (a+2)
 refine j8 ?_
 nofun
 refine opv_s (ZD (len_pos hx)) ?_
 refine zF e ?_
 nofun
 refine opv_s (ZD (len_pos hx)) ?_
 refine zF e1 ?_
 nofun
 refine opv_s (ZD (len_pos hx)) ?_
 refine zF e2 ?_
 nofun
 have h0:=bh (v2 / 7) (show (3:Int)≠0 by decide)
 have h1:=aq (v2 / 7) (show (0:Int) < 3 by decide)
 generalize hw:v2 / 7 % 3=w at *
 have hc:w=0\/w=1\/w=2:=by omega
 generalize v*10 ^ Int.toNat 6+v1=q
 have k5:=bh q (show (5:Int)≠0 by decide)
 have l5:=aq q (show (0:Int) < 5 by decide)
 have k3:=bh q (show (3:Int)≠0 by decide)
 have l3:=aq q (show (0:Int) < 3 by decide)
 rcases hc with rfl | rfl | rfl
 ·nofun
  exact ⟨⟨_,rfl,k5,by omega⟩,rfl⟩
 ·nofun
  exact ⟨⟨_,rfl,by omega,by omega⟩,rfl⟩
 ·nofun
  exact ⟨⟨_,rfl,zen _⟩,rfl⟩
theorem sg_at {v:Int}(h0:0<=v) (h:v < 5):∃ s∈sgL,subD (.str "+-*<=") (.int v)=some (.str s):=by
 have hc:v=0\/v=1\/v=2\/v=3\/v=4:=by omega
 rcases hc with rfl | rfl | rfl | rfl | rfl
 ·exact ⟨"+",by simp [sgL],by with_unfolding_all rfl⟩
 ·exact ⟨"-",by simp [sgL],by with_unfolding_all rfl⟩
 ·exact ⟨"*",by simp [sgL],by with_unfolding_all rfl⟩
 ·exact ⟨"<",by simp [sgL],by with_unfolding_all rfl⟩
 ·exact ⟨"=",by simp [sgL],by with_unfolding_all rfl⟩
variable {ns:List Str}
def Ft (k:Nat) (x:Vl):Prop:=∃ e t,x=(.tup [e,.int t],.st)/\Fm k e
structure NsOk (ns:List Str):Prop where
 pos:0 < ns.length
 six:ns.length<=6
 mem:∀ s∈ns,s∈menu
theorem ns_at (o:NsOk ns) {v:Int}(h0:0<=v) (h1:v < ((ns.map D.str).length:Int)):∃ s∈menu,subD (LS ns) (.int v)=some (.str s):=by
 obtain ⟨d,hd,e⟩:=wZ h0 h1
 obtain ⟨s,hs,rfl⟩:=Ϛ.mp hd
 exact ⟨s,o.mem s hs,e⟩
theorem zaH (o:NsOk ns):(0:Int) < ((ns.map D.str).length:Int):=by have:=o.pos;rw [Ν];omega
theorem ns_ne (o:NsOk ns):cmpD .NotEq (LS ns) (.lst [])=some true:=by
 have h:=o.pos
 cases ns with
 | nil=>cases h
 | cons s r=>
  have:okP 60 (LS (s::r))=true:=qb (n:=59) (l:=(s::r).map D.str) fun d hd=>by obtain ⟨_,_,rfl⟩:=Ϛ.mp hd;rfl
  rw [ne_op this rfl];rfl
theorem zdf (hx:0 < xs.length) (o:NsOk ns):∀ (k:Nat) (a:Int) (K:Nat) (S:Store),k+2<=K->Sm K 30 [LI xs,.int a,LS ns,.int k] (Ft k) S:=by
 have leaf:∀ (k:Nat) (a:Int) (K:Nat) (S:Store) (G:Ko),1<=K->(∀ e t,Fm k e->G (.ret (.tup [e,.int t]) false) S)->wpCs (callW F wh K) wh [.ite (.and (.cmp .NotEq (.var 2) (.lst [])) (.one (.cmp .Eq (.call 28 [(.var 0),(.bin .Add (.var 1) (.con (.int 1))),(.con (.int 2))]) (.con (.int 0))))) [.ret (.tup [(.sub (.var 2) (.call 28 [(.var 0),(.bin .Add (.var 1) (.con (.int 2))),(.bi .len [(.var 2)])])),(.bin .Add (.var 1) (.con (.int 5)))])] [],.ret (.tup [(.call 29 [(.var 0),(.bin .Add (.var 1) (.con (.int 2)))]),(.bin .Add (.var 1) (.con (.int 5)))])] [.sh (LI xs),.sh (.int a),.sh (LS ns),.sh (.int k),.no,.no,.no] G S:=by
  intro k a K S G hK hG
  nofun
  refine zF (ns_ne o) ?_
  nofun
  refine (zA hx (by decide) hK).go ?_
  rintro _ ⟨v,rfl,h0,h1⟩
  nofun
  refine yM (fun h=>?_) (fun h=>?_)
  ·nofun
   refine (zA hx (zaH o) hK).go ?_
   rintro _ ⟨v,rfl,h0,h1⟩
   obtain ⟨s,hs,e⟩:=ns_at o h0 h1
   nofun
   refine zF e ?_
   nofun
   exact hG _ _ (.nm hs)
  ·nofun
   refine (Jv hx hK).go ?_
   rintro _ ⟨v,rfl,hv⟩
   nofun
   exact hG _ _ (.num hv)
 intro k
 induction k with
 | zero=>
  intro a K S hK
  obtain ⟨K,hk,rfl⟩:=up hK
  refine ju ?_
  repeat first | exact leaf 0 a K S _ (by omega) (fun e t h=>⟨⟨e,t,rfl,h⟩,rfl⟩) | infer_instance
 | succ k ih=>
  intro a K S hK
  obtain ⟨K,hk,rfl⟩:=up hK
  refine ju ?_
  nofun
  refine tst_F (beq_false_of_ne (by omega)) ?_
  nofun
  refine (zA hx (by decide) (by omega)).go ?_
  rintro _ ⟨v,rfl,h0,h1⟩
  nofun
  refine yM (fun h=>?_) (fun h=>?_)
  ·repeat first | exact leaf (k+1) a K S _ (by omega) (fun e t h=>⟨⟨e,t,rfl,h⟩,rfl⟩) | infer_instance
  ·nofun
   rw [show ((k+1:Nat):Int) - 1=(k:Int) by omega]
   refine (ih _ K S hk).go ?_
   rintro _ ⟨e1,t1,rfl,o1⟩
   nofun
   rw [show ((k+1:Nat):Int) - 1=(k:Int) by omega]
   refine (ih _ K S hk).go ?_
   rintro _ ⟨e2,t2,rfl,o2⟩
   nofun
   refine (zA hx (by decide) (by omega)).go ?_
   rintro _ ⟨v,rfl,h0,h1⟩
   obtain ⟨g,hg,e⟩:=sg_at h0 h1
   nofun
   refine zF e ?_
   nofun
   exact ⟨⟨_,_,rfl,.op hg o1 o2⟩,rfl⟩
theorem jl {a:Int}(hx:0 < xs.length) (o:NsOk ns) (hK:6<=K):Sm K 31 [LI xs,.int a,LS ns] (Ft 3) S:=by
 obtain ⟨K,hk,rfl⟩:=up hK
 refine jq ?_
 nofun
 refine (zA hx (by decide) (by omega)).go ?_
 rintro _ ⟨v,rfl,h0,h1⟩
 obtain ⟨k,k3,e⟩:∃ k:Nat,k<=3/\subD (.lst [.int 0,.int 1,.int 1,.int 3]) (.int v)=some (.int k):=by
  have hc:v=0\/v=1\/v=2\/v=3:=by omega
  rcases hc with rfl | rfl | rfl | rfl
  ·exact ⟨0,by decide,rfl⟩
  ·exact ⟨1,by decide,rfl⟩
  ·exact ⟨1,by decide,rfl⟩
  ·exact ⟨3,by decide,rfl⟩
 nofun
 refine zF e ?_
 nofun
 refine (zdf hx o k _ K S (by omega)).go ?_
 rintro _ ⟨e,t,rfl,h⟩
 nofun
 exact ⟨⟨_,_,rfl,h.mono k3⟩,rfl⟩
end
noncomputable def hdD (h:Str×Nat):D:=.tup [.str h.1,.int (h.2:Int)]
noncomputable def hsD (hs:List (Str×Nat)):D:=.lst (hs.map hdD)
structure HsOk (C:Str->Nat->Prop) (hs:List (Str×Nat)):Prop where
 pos:0 < hs.length
 three:hs.length<=3
 ok:∀ h∈hs,C h.1 h.2/\wdB h.1=true/\h.2<=3
section
variable {C:Str->Nat->Prop}{xs:List Int}{ns:List Str}{hs:List (Str×Nat)}{K:Nat}{S:Store}{a:Int}
theorem hs_ne (o:HsOk C hs):cmpD .Eq (hsD hs) (.lst [])=some false:=by
 have h:=o.pos
 cases hs with
 | nil=>cases h
 | cons s r=>
  have:okP 60 (hsD (s::r))=true:=qb (n:=59) (l:=(s::r).map hdD) fun d hd=>by obtain ⟨_,_,rfl⟩:=Ϛ.mp hd;rfl
  rw [eq_op this rfl];rfl
theorem zeg (o:NsOk ns) {v:Int}(h0:0<=v) (h1:v < 1+((ns.map D.str).length:Int)):∃ d,NmO d/\subD (.lst (.non::ns.map D.str)) (.int v)=some d:=by
 obtain ⟨d,hd,e⟩:=wZ (l:=.non::ns.map D.str) h0 (by simp at h1 ⊢;omega)
 refine ⟨d,?_,e⟩
 rcases Η.mp hd with rfl | hd
 ·exact .inl rfl
 ·obtain ⟨s,hs,rfl⟩:=Ϛ.mp hd
  exact .inr ⟨s,o.mem s hs,rfl⟩
theorem Ky (hx:0 < xs.length) (o:NsOk ns) (oh:HsOk C hs) (hK:7<=K):Sm K 32 [LI xs,.int a,LS ns,hsD hs] (fun x=>∃ b t,x=(.tup [b,.int t],.st)/\Brn C b) S:=by
 obtain ⟨K,hk,rfl⟩:=up hK
 have six:=o.six
 have hp:(0:Int) < 1+((ns.map D.str).length:Int):=by omega
 refine kh ?_
 nofun
 refine opv_f (Xq (a:=[.non]) (by simp;omega)) ?_
 nofun
 refine (zA hx hp (by omega)).go ?_
 rintro _ ⟨v,rfl,h0,h1⟩
 obtain ⟨nm,hnm,e⟩:=zeg o h0 h1
 nofun
 refine zF (show subD (.lst ([.non]++ns.map D.str)) (.int v)=some nm from e) ?_
 have ei:isIns nm=false:=rfl
 nofun
 refine zF (hs_ne oh) ?_
 nofun
 refine (zA hx (by decide) (by omega)).go ?_
 rintro _ ⟨v,rfl,h0,h1⟩
 nofun
 refine yM (fun h=>?_) (fun h=>?_)
 ·nofun
  refine (jl hx o (by omega)).go ?_
  rintro _ ⟨e1,t1,rfl,o1⟩
  nofun
  refine (zA hx (by decide) (by omega)).go ?_
  rintro _ ⟨v,rfl,h0,h1⟩
  obtain ⟨d,hd,e⟩:=wZ (l:=whoL.map D.str) h0 h1
  obtain ⟨w,hw,rfl⟩:=Ϛ.mp hd
  nofun
  refine zF e ?_
  nofun
  exact ⟨⟨_,_,rfl,.ask hnm hw o1⟩,rfl⟩
 ·nofun
  refine (zA hx (by have:=oh.pos;simp;omega) (by omega)).go ?_
  rintro _ ⟨v,rfl,h0,h1⟩
  obtain ⟨d,hd,e⟩:=wZ (l:=hs.map hdD) h0 h1
  obtain ⟨⟨f,c⟩,hh,rfl⟩:=Ϛ.mp hd
  obtain ⟨hC,hw,h3⟩:=oh.ok _ hh
  have h3:c<=3:=h3
  nofun
  refine zF e ?_
  nofun
  refine tst_T (by simp [fits,LIM];omega) ?_
  refine wp_walk (fun l ρ S'=>S'=S/\∃ (gs:List D) (t:Int) (x5 x9:Slot),ρ=[.sh (LI xs),.sh (.int a),.sh (LS ns),.sh (hsD hs),.sh nm,x5,.sh (.int t),.sh (hdD (f,c)),.ow (.lst gs),x9]/\(∀ g∈gs,Fm 3 g)/\gs.length+l.length=c/\∀ d∈l,∃ j,d=D.int j) ?_ ?_ _ _ _
   ⟨rfl,[],_,.no,.no,rfl,by simp,by rw [uv];simp,fun d hd=>(wW hd).elim fun j q=>⟨j,q.1⟩⟩
  ·rintro d l ρ S' ⟨rfl,gs,t,x5,x9,rfl,hg,hl,hd⟩
   have hl:gs.length+(l.length+1)=c:=hl
   obtain ⟨j,rfl⟩:=hd d μ
   nofun
   refine (jl hx o (by omega)).go ?_
   rintro _ ⟨e1,t1,rfl,o1⟩
   nofun
   exact ⟨rfl,_,_,_,_,rfl,fun g hg'=>(Λ.mp hg').elim (hg g) (fm1 o1 g),by simp;omega,fun d hx=>hd d (θ _ hx)⟩
  ·rintro ρ S' ⟨rfl,gs,t,x5,x9,rfl,hg,hl,hd⟩
   have hl:gs.length=c:=by simpa using hl
   nofun
   exact ⟨⟨_,_,rfl,.call hnm hw (by rw [hl];exact hC) (by omega) hg⟩,rfl⟩
theorem K7 (hx:0 < xs.length) (o:NsOk ns) (oh:HsOk C hs) (hK:8<=K):Sm K 33 [LI xs,.int a,LS ns,hsD hs] (fun x=>∃ i bs t,x=(.tup [.tup [.str "want",.int i,.tup bs],.int t],.st)/\1<=i/\i<=(bs.length:Int)/\bs.length<=4/\∀ b∈bs,Brn C b) S:=by
 obtain ⟨K,hk,rfl⟩:=up hK
 refine Yw ?_
 nofun
 refine (zA hx (by decide) (by omega)).go ?_
 rintro _ ⟨v,rfl,h0,h1⟩
 nofun
 refine tst_T (by simp [fits,LIM];omega) ?_
 refine wp_walk (fun l ρ S'=>S'=S/\∃ (bs:List D) (t:Int) (x6 x7:Slot),ρ=[.sh (LI xs),.sh (.int a),.sh (LS ns),.sh (hsD hs),.ow (.lst bs),.sh (.int t),x6,x7]/\(∀ b∈bs,Brn C b)/\bs.length+l.length=(1+v).toNat/\∀ d∈l,∃ j,d=D.int j) ?_ ?_ _ _ _
  ⟨rfl,[],_,.no,.no,rfl,by simp,by rw [uv];simp,fun d hd=>(wW hd).elim fun j q=>⟨j,q.1⟩⟩
 ·rintro d l ρ S' ⟨rfl,bs,t,x6,x7,rfl,hb,hl,hd⟩
  have hl:bs.length+(l.length+1)=(1+v).toNat:=hl
  obtain ⟨j,rfl⟩:=hd d μ
  nofun
  refine (Ky hx o oh (by omega)).go ?_
  rintro _ ⟨b,t1,rfl,o1⟩
  nofun
  exact ⟨rfl,_,_,_,_,rfl,fun g hg'=>(Λ.mp hg').elim (hb g) (fun e=>by rw [υ.mp e];exact o1),by simp;omega,fun d hx=>hd d (θ _ hx)⟩
 ·rintro ρ S' ⟨rfl,bs,t,x6,x7,rfl,hb,hl,hd⟩
  have hl:bs.length=(1+v).toNat:=by simpa using hl
  nofun
  refine (zA hx (by omega) (by omega)).go ?_
  rintro _ ⟨w,rfl,w0,w1⟩
  nofun
  exact ⟨⟨_,_,_,rfl,by omega,by omega,by omega,hb⟩,rfl⟩
end
section
variable (C:Str->Nat->Prop) (xs:List Int) (ns:List Str) (hs:List (Str×Nat))
def BlkAt (n:Nat):Prop:=∀ (K:Nat) (S:Store) (a:Int) (lf:Nat) (u:Bool),lf<=24->2*n+10<=K->Sm K 35 [LI xs,.int a,.int (5 - (n:Int)),.int (lf:Int),.bl u,LS ns,hsD hs] (fun x=>∃ b t m l',x=(.tup [.tup b,.int t,.int ((l':Nat):Int)],.st)/\Bk C n u m b/\l'+m=lf) S
def RwAt (n:Nat):Prop:=∀ (K:Nat) (S:Store) (a:Int) (lf:Nat) (u:Bool),lf<=24->2*n+11<=K->Sm K 34 [LI xs,.int a,.int (4 - (n:Int)),.int (lf:Int),.bl u,LS ns,hsD hs] (fun x=>∃ r t m l',x=(.tup [r,.int t,.int ((l':Nat):Int)],.st)/\RwB C (Bk C n) u m r/\l'+m=lf+1) S
end
section
variable {C:Str->Nat->Prop}{xs:List Int}{ns:List Str}{hs:List (Str×Nat)}
theorem zbD (hx:0 < xs.length) (o:NsOk ns) (oh:HsOk C hs) {n:Nat}(hB:BlkAt C xs ns hs n):RwAt C xs ns hs n:=by
 intro K S a lf u hlf hK
 obtain ⟨K,hk,rfl⟩:=up hK
 have e4:(4 - (n:Int))+1=5 - (n:Int):=by omega
 refine W8 ?_
 nofun
 refine (zA hx (by decide) (by omega)).go ?_
 rintro _ ⟨v,rfl,h0,h1⟩
 nofun
 refine yM (fun h=>?_) (fun h=>?_)
 ·nofun
  refine (K7 hx o oh (by omega)).go ?_
  rintro _ ⟨i,bs,t,rfl,i1,i2,i4,hb⟩
  nofun
  exact ⟨⟨_,_,1,lf,rfl,.want i1 i2 i4 hb,rfl⟩,rfl⟩
 have h7:v<=7:=by have:=of_decide_eq_false h;omega
 nofun
 refine (zA hx (zaH o) (by omega)).go ?_
 rintro _ ⟨w,rfl,w0,w1⟩
 obtain ⟨s,hs',e⟩:=ns_at o w0 w1
 nofun
 refine zF e ?_
 nofun
 refine (jl hx o (by omega)).go ?_
 rintro _ ⟨e1,t1,rfl,o1⟩
 have hc:v=0\/v=1\/v=2\/v=3\/v=4\/v=5\/v=6\/v=7:=by omega
 clear h h0 h1 h7
 rcases hc with rfl | rfl | rfl | rfl | rfl | rfl | rfl | rfl
 ·nofun
  exact ⟨⟨_,_,1,lf,rfl,.set hs' o1,rfl⟩,rfl⟩
 ·cases u
  ·nofun
   exact ⟨⟨_,_,1,lf,rfl,.tell o1,rfl⟩,rfl⟩
  ·nofun
   exact ⟨⟨_,_,1,lf,rfl,.tell o1,rfl⟩,rfl⟩
 ·cases u
  ·nofun
   exact ⟨⟨_,_,1,lf,rfl,.give o1,rfl⟩,rfl⟩
  ·nofun
   exact ⟨⟨_,_,1,lf,rfl,.tell o1,rfl⟩,rfl⟩
 ·cases u
  ·nofun
   exact ⟨⟨_,_,1,lf,rfl,.fail o1,rfl⟩,rfl⟩
  ·nofun
   exact ⟨⟨_,_,1,lf,rfl,.fail o1,rfl⟩,rfl⟩
 ·nofun
  rw [e4]
  refine (hB K S _ lf u hlf hk).go ?_
  rintro _ ⟨b,t,m,l',rfl,hb,hm⟩
  nofun
  exact ⟨⟨_,_,m+1,l',rfl,.whl o1 hb,by omega⟩,rfl⟩
 ·nofun
  rw [e4]
  refine (hB K S _ lf u hlf hk).go ?_
  rintro _ ⟨b,t,m,l',rfl,hb,hm⟩
  cases u <;>
  ·nofun
   rw [e4]
   refine (hB K S _ l' _ (by omega) hk).go ?_
   rintro _ ⟨b',t',m',l2,rfl,hb',hm'⟩
   nofun
   exact ⟨⟨_,_,m+m'+1,l2,rfl,.iff o1 hb hb',by omega⟩,rfl⟩
 ·nofun
  rw [e4]
  refine (hB K S _ lf u hlf hk).go ?_
  rintro _ ⟨b,t,m,l',rfl,hb,hm⟩
  cases u <;>
  ·nofun
   rw [e4]
   refine (hB K S _ l' _ (by omega) hk).go ?_
   rintro _ ⟨b',t',m',l2,rfl,hb',hm'⟩
   nofun
   refine (zA hx (by decide) (by omega)).go ?_
   rintro _ ⟨w,rfl,w0,w1⟩
   have q0:0<=w / 10:=by omega
   have q1:w / 10 < 2:=by omega
   obtain ⟨d,hd,e⟩:=wZ (l:=[.str s,.non]) q0 q1
   have hd:NmO d:=by
    rcases Η.mp hd with rfl | hd
    ·exact .inr ⟨s,hs',rfl⟩
    ·rw [υ.mp hd];exact .inl rfl
   nofun
   refine zF e ?_
   nofun
   exact ⟨⟨_,_,m+m'+1,l2,rfl,.tri hd hb hb',by omega⟩,rfl⟩
 ·nofun
  rw [e4]
  refine (hB K S _ lf u hlf hk).go ?_
  rintro _ ⟨b,t,m,l',rfl,hb,hm⟩
  cases u <;>
  ·nofun
   rw [e4]
   refine (hB K S _ l' _ (by omega) hk).go ?_
   rintro _ ⟨b',t',m',l2,rfl,hb',hm'⟩
   nofun
   exact ⟨⟨_,_,m+m'+1,l2,rfl,.doo hb hb',by omega⟩,rfl⟩
theorem Jr {v:Int}(h0:0<=v) (h1:v < 5):∃ i:Int,0<=i/\i<=8/\subD (.lst [.int 0,.int 1,.int 2,.int 3,.int 8]) (.int v)=some (.int i):=by
 have hc:v=0\/v=1\/v=2\/v=3\/v=4:=by omega
 rcases hc with rfl | rfl | rfl | rfl | rfl
 ·exact ⟨0,by decide,by decide,rfl⟩
 ·exact ⟨1,by decide,by decide,rfl⟩
 ·exact ⟨2,by decide,by decide,rfl⟩
 ·exact ⟨3,by decide,by decide,rfl⟩
 ·exact ⟨8,by decide,by decide,rfl⟩
theorem zcO (hx:0 < xs.length) (o:NsOk ns) (oh:HsOk C hs):∀ (n:Nat),BlkAt C xs ns hs n:=by
 intro n
 induction n with
 | zero=>
  intro K S a lf u hlf hK
  obtain ⟨K,hk,rfl⟩:=up hK
  refine vB ?_
  nofun
  refine (zA hx (by decide) (by omega)).go ?_
  rintro _ ⟨v,rfl,h0,h1⟩
  obtain ⟨i,i0,i1,e⟩:=Jr h0 h1
  nofun
  refine zF e ?_
  nofun
  refine tst_T (by simp [fits,LIM];omega) ?_
  refine wp_walk (fun l ρ S'=>S'=S/\∃ x10,ρ=[.sh (LI xs),.sh (.int a),.sh (.int (5 - ((0:Nat):Int))),.sh (.int lf),.sh (.bl u),.sh (LS ns),.sh (hsD hs),.ow (.lst []),.sh (.int i),.sh (.int (a+1)),x10,.no]/\∀ d∈l,∃ j,d=D.int j) ?_ ?_ _ _ _ ⟨rfl,.no,rfl,fun d hd=>(wW hd).elim fun j q=>⟨j,q.1⟩⟩
  ·rintro d l ρ S' ⟨rfl,x10,rfl,hd⟩
   obtain ⟨j,rfl⟩:=hd d μ
   nofun
   refine yM (fun h=>?_) (fun h=>?_)
   ·nofun
    exact ⟨rfl,_,rfl,fun d hx=>hd d (θ _ hx)⟩
   ·nofun
    exact ⟨rfl,_,rfl,fun d hx=>hd d (θ _ hx)⟩
  ·rintro ρ S' ⟨rfl,x10,rfl,hd⟩
   nofun
   exact ⟨⟨_,_,0,lf,rfl,⟨rfl,rfl⟩,rfl⟩,rfl⟩
 | succ n ih=>
  intro K S a lf u hlf hK
  obtain ⟨K,hk,rfl⟩:=up hK
  have e4:5 - ((n+1:Nat):Int)=4 - (n:Int):=by omega
  rw [e4]
  refine vB ?_
  nofun
  refine (zA hx (by decide) (by omega)).go ?_
  rintro _ ⟨v,rfl,h0,h1⟩
  obtain ⟨i,i0,i1,e⟩:=Jr h0 h1
  nofun
  refine zF e ?_
  nofun
  refine tst_T (by simp [fits,LIM];omega) ?_
  refine wp_walk (fun l ρ S'=>S'=S/\∃ (rs:List D) (l' m:Nat) (t:Int) (x10 x11:Slot),ρ=[.sh (LI xs),.sh (.int a),.sh (.int (4 - (n:Int))),.sh (.int (l':Int)),.sh (.bl u),.sh (LS ns),.sh (hsD hs),.ow (.lst rs),.sh (.int i),.sh (.int t),x10,x11]/\Rws (RwB C (Bk C n) u) m rs/\l'+m=lf/\rs.length+l.length<=8/\∀ d∈l,∃ j,d=D.int j) ?_ ?_ _ _ _
   ⟨rfl,[],lf,0,_,.no,.no,rfl,.nil,rfl,by rw [uv];simp;omega,fun d hd=>(wW hd).elim fun j q=>⟨j,q.1⟩⟩
  ·rintro d l ρ S' ⟨rfl,rs,l',m,t,x10,x11,rfl,hr,hm,hl,hd⟩
   have hl:rs.length+(l.length+1)<=8:=hl
   have hd':=fun d hx=>hd d (θ _ hx)
   obtain ⟨j,rfl⟩:=hd d μ
   nofun
   refine yM (fun h=>?_) (fun h=>?_)
   ·have hp:0 < l':=by have:=of_decide_eq_true h;omega
    nofun
    refine tst_T (decide_eq_true (by omega)) ?_
    nofun
    rw [show (l':Int) - 1=((l' - 1:Nat):Int) by omega]
    refine (zbD hx o oh ih K S' _ (l' - 1) u (by omega) (by omega)).go ?_
    rintro _ ⟨r,t2,m2,l2,rfl,hr2,hm2⟩
    nofun
    exact ⟨rfl,_,l2,m+(m2+0),_,_,_,rfl,hr.app (.cons hr2 .nil),by omega,by simp;omega,hd'⟩
   ·nofun
    exact ⟨rfl,_,l',m,_,_,_,rfl,hr,hm,by omega,hd'⟩
  ·rintro ρ S' ⟨rfl,rs,l',m,t,x10,x11,rfl,hr,hm,hl,hd⟩
   nofun
   exact ⟨⟨_,_,m,l',rfl,⟨by simpa using hl,hr⟩,hm⟩,rfl⟩
theorem J8 (hx:0 < xs.length) (o:NsOk ns) (oh:HsOk C hs) {K:Nat}{S:Store}{a:Int}{t:Str}{ps:List Str}(hK:19<=K):Sm K 36 [LI xs,.int a,.str t,LS ps,LS ns,hsD hs,.int 24] (fun x=>∃ b p m,x=(.tup [er t ps b,.int p],.st)/\m<=24/\Bk C 4 false m b) S:=by
 obtain ⟨K,hk,rfl⟩:=up hK
 refine j9 ?_
 nofun
 refine (zcO hx o oh 4 K S a 24 false (by decide) hk).go ?_
 rintro _ ⟨b,p,m,l',rfl,hb,hm⟩
 nofun
 exact ⟨⟨b,p,m,rfl,by omega,hb⟩,rfl⟩
end
section
variable {C C':Str->Nat->Prop}
theorem Brn.mono (h:∀ f c,C f c->C' f c) {d:D}:Brn C d->Brn C' d
 | .ask a b c=>.ask a b c
 | .call a b c d e=>.call a b (h _ _ c) d e
theorem RwB.mono (h:∀ f c,C f c->C' f c) {B B':Bool->Nat->List D->Prop}(hB:∀ u m l,B u m l->B' u m l) {u:Bool}{a:Nat}{d:D}:RwB C B u a d->RwB C' B' u a d
 | .set a b=>.set a b
 | .tell a=>.tell a
 | .fail a=>.fail a
 | .give a=>.give a
 | .want a b c d=>.want a b c fun x hx=>(d x hx).mono h
 | .whl a b=>.whl a (hB _ _ _ b)
 | .iff a b c=>.iff a (hB _ _ _ b) (hB _ _ _ c)
 | .tri a b c=>.tri a (hB _ _ _ b) (hB _ _ _ c)
 | .doo a b=>.doo (hB _ _ _ a) (hB _ _ _ b)
theorem Rws.imp {R R':Nat->D->Prop}(h:∀ a d,R a d->R' a d) {m:Nat}{l:List D}(r:Rws R m l):Rws R' m l:=by
 induction r with
 | nil=>exact .nil
 | cons x t ih=>exact .cons (h _ _ x) ih
theorem Bk.mono (h:∀ f c,C f c->C' f c):∀ {n:Nat}{u:Bool}{m:Nat}{l:List D},Bk C n u m l->Bk C' n u m l
 | 0,_,_,_,q=>q
 | n+1,_,_,_,q=>⟨q.1,q.2.imp fun _ _=>RwB.mono h fun _ _ _=>Bk.mono h⟩
theorem ErOk.mono (h:∀ f c,C f c->C' f c) {t:Str}{ps:List Str}{b:List D}(o:ErOk C t ps b):ErOk C' t ps b:=⟨o.wd,o.ps3,o.psm,o.psn,o.bk.elim fun m q=>⟨m,q.1,q.2.mono h⟩⟩
end
inductive Al (R:D->D->Prop):List D->List D->Prop where
 | nil:Al R [] []
 | cons {x y:D}{l m:List D}(h:R x y) (t:Al R l m):Al R (x::l) (y::m)
theorem Kp {s:D->(Option D->Store->Prop)->Store->Prop}{V:List D->Store->Prop}{S:Store}{R:D->D->Prop}:∀ (xs acc:List D),acc.length+xs.length<=1000->(∀ x∈xs,∀ Q:Option D->Store->Prop,(∀ y,R x y->Q (some y) S)->s x Q S)->(∀ ys,Al R xs ys->V (acc++ys) S)->walkW s xs acc V S
 | [],acc,_,_,v=>by
  have:=v [] .nil
  rw [Υ] at this
  exact this
 | x::xs,acc,hl,h,v=>by
  have hl:acc.length+(xs.length+1)<=1000:=hl
  refine h x μ _ fun y hy=>tst_T (fits_of (by omega)) (Kp xs (acc++[y]) (by simp;omega) (fun z hz=>h z (θ _ hz)) fun ys a=>?_)
  have:=v (y::ys) (.cons hy a)
  simpa using this
noncomputable def hdL:List Str:=["main","a","ab","end","mainpart","z","yy","errand"]
theorem hd_wd:∀ s∈hdL,wdB s=true:=by decide +kernel
structure HdOk (hs:List (Str×Nat)):Prop where
 pos:0 < hs.length
 three:hs.length<=3
 nd:(hs.map fun h=>h.1).Nodup
 ok:∀ h∈hs,h.1∈hdL/\h.2<=3
abbrev C0 (hs:List (Str×Nat)):Str->Nat->Prop:=fun f c=>(f,c)∈hs
theorem HdOk.hs {hs:List (Str×Nat)}(o:HdOk hs):HsOk (C0 hs) hs:=⟨o.pos,o.three,fun h hh=>⟨hh,hd_wd _ (o.ok h hh).1,(o.ok h hh).2⟩⟩
section
variable {xs:List Int}{K:Nat}{S:Store}
noncomputable def h3L:List (List Str):=[["main","a","ab"],["end","main","mainpart"],["z","yy","errand"]]
theorem W6:∀ (n:Nat) (ws:List Str) (ys:List D),Al (fun x y=>∃ (s:Str) (k:Int) (c:Nat),x=.tup [.int k,.str s]/\y=hdD (s,c)/\c<=3) (enumD n (ws.map D.str)) ys->∃ hs:List (Str×Nat),ys=hs.map hdD/\hs.map (fun h=>h.1)=ws/\∀ h∈hs,h.2<=3
 | n,[],_,.nil=>⟨[],rfl,rfl,by simp⟩
 | n,w::ws,_,.cons ⟨s,k,c,e,h,hc⟩ t=>by
  obtain ⟨hs,e1,e2,e3⟩:=W6 (n+1) ws _ t
  have e:D.tup [.int n,.str w]=.tup [.int k,.str s]:=e
  cases e
  refine ⟨(w,c)::hs,by rw [h,e1];rfl,by rw [<- e2];rfl,fun h hh=>?_⟩
  rcases Η.mp hh with rfl | hh
  ·exact hc
  ·exact e3 h hh
theorem WQ:∀ (n:Nat) (ws:List Str),∀ x∈enumD n (ws.map D.str),∃ (s:Str) (k:Int),x=.tup [.int k,.str s]
 | n,[],x,h=>by cases h
 | n,w::ws,x,h=>by
  rcases Η.mp h with rfl | h
  ·exact ⟨w,n,rfl⟩
  ·exact WQ (n+1) ws x h
theorem ym:∀ (n:Nat) (ws:List Str),(enumD n (ws.map D.str)).length=ws.length
 | n,[]=>rfl
 | n,w::ws=>congrArg (·+1) (ym (n+1) ws)
theorem K9 {v:Int}(h0:0<=v) (h1:v < 3):∃ ws∈h3L,subD (.lst (h3L.map LS)) (.int v)=some (LS ws):=by
 obtain ⟨d,hd,e⟩:=wZ (l:=h3L.map LS) h0 h1
 obtain ⟨ws,hw,rfl⟩:=Ϛ.mp hd
 exact ⟨ws,hw,e⟩
theorem h3_ok:∀ ws∈h3L,ws.length=3/\ws.Nodup/\∀ s∈ws,s∈hdL:=by decide +kernel
theorem QV (hx:0 < xs.length) (hK:2<=K):Sm K 37 [LI xs,.int 0] (fun x=>∃ hs,x=(hsD hs,.fr)/\HdOk hs) S:=by
 obtain ⟨K,hk,rfl⟩:=up hK
 refine qU ?_
 nofun
 refine (zA hx (by decide) hk).go ?_
 rintro _ ⟨v,rfl,h0,h1⟩
 obtain ⟨ws,hw,e⟩:=K9 h0 h1
 obtain ⟨w3,wn,wm⟩:=h3_ok ws hw
 nofun
 refine zF e ?_
 nofun
 refine wp_lc ?_
 dsimp only [wpI,e_slc,e_var,wpO,e_bin,e_con,yP,wpEs]
 nofun
 refine (zA hx (by decide) hk).go ?_
 rintro _ ⟨w,rfl,w0,w1⟩
 obtain ⟨j,hj,j1,j3⟩:∃ j:Nat,(1+w)=(j:Int)/\1<=j/\j<=3:=⟨(1+w).toNat,by omega,by omega,by omega⟩
 nofun
 rw [hj,Kh (by simp;omega),<- mY]
 nofun
 refine Kp (R:=fun x y=>∃ (s:Str) (k:Int) (c:Nat),x=.tup [.int k,.str s]/\y=hdD (s,c)/\c<=3) _ [] (by rw [ym];simp;omega) (fun x hx' Q hQ=>?_) fun ys al=>?_
 ·obtain ⟨s,k,rfl⟩:=WQ _ _ x hx'
  refine zT rfl ?_
  dsimp only [wpF,e_tup,yP,e_bin,e_con,wpEs,e_var,inn,nT,ς,bM,Υ,bu]
  nofun
  refine (zA hx (by decide) hk).go ?_
  rintro _ ⟨c,rfl,c0,c1⟩
  nofun
  exact hQ _ ⟨s,k,c.toNat,rfl,by rw [hdD,Int.toNat_of_nonneg c0],by omega⟩
 ·obtain ⟨hs,rfl,e2,e3⟩:=W6 _ _ _ al
  have hl:hs.length=j:=by
   have:=congrArg lL e2
   simpa [w3,Nat.min_eq_left j3] using this
  nofun
  refine ⟨⟨hs,rfl,by omega,by omega,by rw [e2];exact wn.sublist (iY ..),fun h hh=>⟨wm _ ?_,e3 h hh⟩⟩,rfl⟩
  have:h.1∈ws.take j:=by rw [<- e2];exact eY (f:=fun h:Str×Nat=>h.1) hh
  exact eG this
end
structure EsOk (hs:List (Str×Nat)) (es:List Er):Prop where
 hd:HdOk hs
 eq:es.map (fun p=>(p.1,p.2.1.length))=hs
 ok:∀ p∈es,ErOk (C0 hs) p.1 p.2.1 p.2.2
noncomputable abbrev menuD:List D:=[.str "x",.str "xy",.str "set",.str "abcdefgh",.str "end",.str "q"]
theorem zba {v:Int}(h0:0<=v) (h1:v < 6):∃ ns:List Str,opD .Add (.lst (cutD menuD (some v) none)) (.lst (cutD menuD none (some v)))=some (LS ns,true)/\cutD (ns.map D.str) none (some 6)=ns.map D.str/\NsOk ns/\ns.Nodup/\ns.length=6:=by
 have k:∀ ns:List Str,(decide ((0 < ns.length)/\ns.length<=6/\(∀ s∈ns,s∈menu))=true)->NsOk ns:=fun ns h=>⟨(of_decide_eq_true h).1,(of_decide_eq_true h).2.1,(of_decide_eq_true h).2.2⟩
 have hc:v=0\/v=1\/v=2\/v=3\/v=4\/v=5:=by omega
 rcases hc with rfl | rfl | rfl | rfl | rfl | rfl
 ·exact ⟨["x","xy","set","abcdefgh","end","q"],rfl,rfl,k _ (by decide +kernel),by decide +kernel,rfl⟩
 ·exact ⟨["xy","set","abcdefgh","end","q","x"],rfl,rfl,k _ (by decide +kernel),by decide +kernel,rfl⟩
 ·exact ⟨["set","abcdefgh","end","q","x","xy"],rfl,rfl,k _ (by decide +kernel),by decide +kernel,rfl⟩
 ·exact ⟨["abcdefgh","end","q","x","xy","set"],rfl,rfl,k _ (by decide +kernel),by decide +kernel,rfl⟩
 ·exact ⟨["end","q","x","xy","set","abcdefgh"],rfl,rfl,k _ (by decide +kernel),by decide +kernel,rfl⟩
 ·exact ⟨["q","x","xy","set","abcdefgh","end"],rfl,rfl,k _ (by decide +kernel),by decide +kernel,rfl⟩
section
variable {xs:List Int}{K:Nat}{S:Store}
theorem Vj (hx:0 < xs.length) (hK:20<=K):Sm K 38 [LI xs,.int 24,.int 6] (fun x=>∃ hs es,x=(prD es,.st)/\EsOk hs es) S:=by
 obtain ⟨K,hk,rfl⟩:=up hK
 refine jo ?_
 nofun
 refine (QV hx (by omega)).go ?_
 rintro _ ⟨hs,rfl,o⟩
 have h3:=o.three
 nofun
 refine (zA hx (by decide) (by omega)).go ?_
 rintro _ ⟨v,rfl,h0,h1⟩
 obtain ⟨ns,e3,e4,on,nn,n6⟩:=zba h0 h1
 nofun
 refine opv_f e3 ?_
 nofun
 rw [e4]
 refine wp_walk (fun l ρ S'=>S'=S/\∃ (es:List Er) (r:List (Str×Nat)) (t:Int) (x6 x9 x10 x11:Slot),l=r.map hdD/\es.map (fun p=>(p.1,p.2.1.length))++r=hs/\(x6=.ow (LS ns)\/x6=.sh (LS ns))/\ρ=[.sh (LI xs),.sh (.int 24),.sh (.int 6),.sh (hsD hs),.ow (.lst menuD),.sh (.int v),x6,.sh (.int t),.ow (.lst (es.map erD)),x9,x10,x11]/\∀ p∈es,ErOk (C0 hs) p.1 p.2.1 p.2.2) ?_ ?_ _ _ _
  ⟨rfl,[],hs,_,_,.no,.no,.no,rfl,rfl,.inl rfl,rfl,by simp⟩
 ·rintro d l ρ S' ⟨rfl,es,r,t,x6,x9,x10,x11,el,eh,h6,rfl,he⟩
  cases r with
  | nil=>cases el
  | cons h r=>
   obtain ⟨rfl,rfl⟩:=gD el
   obtain ⟨f,c⟩:=h
   have hm:(f,c)∈hs:=by rw [<- eh];exact Ρ _ μ
   obtain ⟨hf,hc⟩:=o.ok _ hm
   have hc:c<=3:=hc
   have ec:cutD (ns.map D.str) none (some (c:Int))=(ns.take c).map D.str:=by
    rw [Kh (by simp;omega),<- mY]
   have hel:es.length+(r.length+1)<=3:=by
    have:=congrArg lL eh
    simp at this;omega
   rcases h6 with rfl | rfl <;>
   ·nofun
    rw [ec]
    refine (J8 hx on o.hs (by omega)).go ?_
    rintro _ ⟨b,p,m,rfl,m24,hb⟩
    nofun
    refine ⟨rfl,es++[(f,ns.take c,b)],r,p,_,_,_,_,rfl,?_,.inr rfl,by rw [aW];rfl,fun q hq=>?_⟩
    ·rw [<- eh];simp [n6];omega
    ·rcases Λ.mp hq with hq | hq
     ·exact he q hq
     ·rw [υ.mp hq]
      exact ⟨hd_wd f hf,by simp;omega,fun s hs=>on.mem s (eG hs),nn.sublist (iY ..),m,m24,hb⟩
 ·rintro ρ S' ⟨rfl,es,r,t,x6,x9,x10,x11,el,eh,h6,rfl,he⟩
  cases r with
  | cons=>cases el
  | nil=>
   rw [Υ] at eh
   nofun
   exact ⟨⟨hs,es,rfl,o,eh,he⟩,rfl⟩
theorem J4 {i:Int}(h0:0<=i) (h1:i < 1000000007) {k:Nat}:Fm k (.int i):=.num ⟨h0,h1⟩
theorem zcj:NsOk menu:=⟨by decide,by decide,fun s h=>h⟩
theorem Jm (j:Int):∃ s∈menu,subD (LS menu) (.int (j % 6))=some (.str s):=ns_at zcj (bh _ (by decide)) (aq _ (by decide))
theorem kW {C:Str->Nat->Prop}{B:Bool->Nat->List D->Prop}{a:Int}{n:Nat}(hx:0 < xs.length) (hn:n<=8) (hK:2<=K):Sm K 39 [LI xs,.int a,LS menu,.int n] (fun x=>∃ rs,x=(.tup rs,.st)/\rs.length=n/\Rws (RwB C B false) n rs) S:=by
 obtain ⟨K,hk,rfl⟩:=up hK
 refine qT ?_
 nofun
 refine tst_T (by simp [fits,LIM];omega) ?_
 refine wp_walk (fun l ρ S'=>S'=S/\∃ (j:Int) (rs:List D) (x5 x6:Slot),l=zN j n/\j=rs.length/\j<=n/\ρ=[.sh (LI xs),.sh (.int a),.sh (LS menu),.sh (.int n),.ow (.lst rs),x5,x6]/\Rws (RwB C B false) rs.length rs) ?_ ?_ _ _ _ ⟨rfl,0,[],.no,.no,rfl,rfl,by omega,rfl,.nil⟩
 ·rintro d l ρ S' ⟨rfl,j,rs,x5,x6,el,hj,jn,rfl,hr⟩
  by_cases hlt:j < (n:Int)
  ·rw [v4 hlt] at el
   obtain ⟨rfl,rfl⟩:=gD el
   obtain ⟨s,hs,e⟩:=Jm j
   obtain ⟨s',hs',e'⟩:=Jm (j+1)
   nofun
   refine zF e ?_
   nofun
   refine (Jv hx hk).go ?_
   rintro _ ⟨v,rfl,hv⟩
   have hf:Fm 3 (.tup [.str "+",.int 1,.tup [.str "*",.str s,.tup [.str "<",.int 2,.int v]]]):=.op (by simp [sgL]) (J4 (by decide) (by decide)) (.op (by simp [sgL]) (.nm hs) (.op (by simp [sgL]) (J4 (by decide) (by decide)) (.num hv)))
   nofun
   refine zF e' ?_
   nofun
   have q0:=bh j (show (4:Int)≠0 by decide)
   have q1:=aq j (show (0:Int) < 4 by decide)
   generalize j % 4=w at q0 q1 ⊢
   have hc:w=0\/w=1\/w=2\/w=3:=by omega
   rcases hc with rfl | rfl | rfl | rfl
   ·nofun
    exact ⟨rfl,j+1,_,_,_,rfl,by simp;omega,by omega,rfl,by rw [Ϗ];exact hr.app (.cons (m:=0) (.tell hf) .nil)⟩
   ·nofun
    exact ⟨rfl,j+1,_,_,_,rfl,by simp;omega,by omega,rfl,by rw [Ϗ];exact hr.app (.cons (m:=0) (.set hs' hf) .nil)⟩
   ·nofun
    exact ⟨rfl,j+1,_,_,_,rfl,by simp;omega,by omega,rfl,by rw [Ϗ];exact hr.app (.cons (m:=0) (.fail (J4 (by omega) (by omega))) .nil)⟩
   ·nofun
    exact ⟨rfl,j+1,_,_,_,rfl,by simp;omega,by omega,rfl,by rw [Ϗ];exact hr.app (.cons (m:=0) (.give hf) .nil)⟩
  ·rw [Us (by omega)] at el
   cases el
 ·rintro ρ S' ⟨rfl,j,rs,x5,x6,el,hj,jn,rfl,hr⟩
  by_cases hlt:j < (n:Int)
  ·rw [v4 hlt] at el;cases el
  ·have hl:rs.length=n:=by omega
   rw [hl] at hr
   nofun
   exact ⟨⟨rs,rfl,hl,hr⟩,rfl⟩
end
theorem Xl {α:Type}{s:D->(Option D->Store->Prop)->Store->Prop}{V:List D->Store->Prop}{S:Store}(enc g:α->D):∀ (xs:List α) (acc:List D),acc.length+xs.length<=1000->(∀ x∈xs,∀ Q:Option D->Store->Prop,Q (some (g x)) S->s (enc x) Q S)->V (acc++xs.map g) S->walkW s (xs.map enc) acc V S
 | [],acc,_,_,v=>by
  rw [lg,Υ] at v
  exact v
 | x::xs,acc,hl,h,v=>by
  refine h x μ _ ?_
  have hl:acc.length+(xs.length+1)<=1000:=hl
  refine tst_T (fits_of (by omega)) (Xl enc g xs (acc++[g x]) (by simp;omega) (fun y hy=>h y (θ _ hy)) ?_)
  simpa using v
def C1 (hs:List (Str×Nat)):Str->Nat->Prop:=fun f c=>(f,c)∈hs\/(f="greatest"/\c=3)
theorem KC {C:Str->Nat->Prop}{n:Nat}{u:Bool}:Bk C (n+1) u 0 []:=⟨by simp,.nil⟩
theorem Kz {C:Str->Nat->Prop}{n:Nat}{u:Bool}{m:Nat}{d:D}(h:RwB C (Bk C n) u m d):Bk C (n+1) u m [d]:=⟨by simp,.cons (m:=0) h .nil⟩
section
variable {xs:List Int}{K:Nat}{S:Store}{hs:List (Str×Nat)}
theorem WD:wdB "greatest"=true:=by decide +kernel
theorem Kc {c:Nat}:∀ e∈(zN 0 (c:Int)).map (fun _=>D.str "end"),Fm 3 e:=fun e he=>by
 obtain ⟨_,_,rfl⟩:=Ϛ.mp he
 exact .nm (by simp [menu])
theorem Xc (hx:0 < xs.length) (o:HdOk hs) (hK:3<=K):Sm K 40 [LI xs,.str "greatest",hsD hs] (fun x=>∃ b,x=(er "greatest" ["xy","end","x"] b,.st)/\ErOk (C1 hs) "greatest" ["xy","end","x"] b) S:=by
 obtain ⟨K,hk,rfl⟩:=up hK
 obtain ⟨⟨f,c⟩,r,rfl⟩:∃ h r,hs=h::r:=by
  have:=o.pos
  cases hs with
  | nil=>cases this
  | cons h r=>exact ⟨h,r,rfl⟩
 obtain ⟨hf,hc⟩:=o.ok (f,c) μ
 have hc:c<=3:=hc
 have e:cutD (((f,c)::r).map hdD) none (some 1)=[hdD (f,c)]:=Kh (n:=1) (by simp)
 refine uo ?_
 nofun
 rw [e]
 nofun
 refine J2 ?_
 nofun
 refine wp_lc ?_
 dsimp only [wpI,e_sub,e_var,e_con]
 nofun
 refine qG (fun _=>.str "end") (zN 0 3) [] (by decide) (fun x hx Q hQ=>?_) ?_
 ·obtain ⟨j,rfl,_⟩:=wW hx
  refine zT rfl ?_
  dsimp only [wpF,e_con]
  nofun
  exact hQ
 nofun
 refine J2 ?_
 nofun
 refine wp_lc ?_
 dsimp only [wpI,e_sub,e_var,e_con]
 nofun
 refine tst_T (by simp [fits,LIM];omega) ?_
 refine qG (fun _=>.str "end") (zN 0 (c:Int)) [] (by rw [uv];simp;omega) (fun x hx Q hQ=>?_) ?_
 ·obtain ⟨j,rfl,_⟩:=wW hx
  refine zT rfl ?_
  dsimp only [wpF,e_con]
  nofun
  exact hQ
 nofun
 refine (kW (C:=C1 ((f,c)::r)) (B:=Bk (C1 ((f,c)::r)) 2) (n:=8) hx (by decide) hk).go ?_
 rintro _ ⟨r1,rfl,n1,h1⟩
 nofun
 refine (kW (C:=C1 ((f,c)::r)) (B:=Bk (C1 ((f,c)::r)) 2) (n:=5) hx (by decide) hk).go ?_
 rintro _ ⟨r2,rfl,n2,h2⟩
 nofun
 refine (kW (C:=C1 ((f,c)::r)) (B:=Bk (C1 ((f,c)::r)) 3) (n:=5) hx (by decide) hk).go ?_
 rintro _ ⟨r3,rfl,n3,h3⟩
 nofun
 refine ⟨⟨_,rfl,WD,by decide,by decide,by decide,24,by decide,by simp;omega,?_⟩,rfl⟩
 have m0 {s:Str}(h:s∈menu):NmO (.str s):=.inr ⟨s,h,rfl⟩
 have z (i:Int) (h0:0<=i) (h1:i < 1000000007) (k:Nat):Fm k (.int i):=.num ⟨h0,h1⟩
 refine .cons (a:=4) (m:=20) (.tri (a:=3) (a':=0) (m0 (by simp [menu])) (Kz (.doo (a:=2) (a':=0) (Kz (.whl (a:=1) (z 0 (by decide) (by decide) _) (Kz (.set (by simp [menu]) (z 1 (by decide) (by decide) _))))) KC)) KC) ?_
 refine .cons (a:=14) (m:=6) (.iff (a:=8) (a':=5) (z 1 (by decide) (by decide) _) ⟨by omega,h1⟩ ⟨by omega,h2⟩) ?_
 refine .cons (a:=1) (m:=5) (.want (by simp) (by simp) (by simp) fun b hb=>?_) h3
 rcases Η.mp hb with rfl | hb
 ·exact .ask (m0 (by simp [menu])) (by simp [whoL]) (.op (by simp [sgL]) (z 1 (by decide) (by decide) _) (.op (by simp [sgL]) (.nm (by simp [menu])) (.op (by simp [sgL]) (z 0 (by decide) (by decide) _) (z _ (by decide) (by decide) _))))
 rcases Η.mp hb with rfl | hb
 ·exact .ask (.inl rfl) (by simp [whoL]) (z 0 (by decide) (by decide) _)
 rcases Η.mp hb with rfl | hb
 ·exact .call (m0 (by simp [menu])) WD (.inr ⟨rfl,rfl⟩) (by decide) (Kc (c:=3))
 rw [υ.mp hb]
 have hl:([]++(zN 0 (c:Int)).map (fun _=>D.str "end")).length=c:=by rw [dz,Ν,uv];simp
 exact .call (m0 (by simp [menu])) (hd_wd f hf) (.inl (by rw [hl];exact μ)) (by omega) Kc
end
noncomputable def nmE (k:Nat):Str:=["ea","eb","ec"].getD k "e"
noncomputable def ems (n:Nat):List Er:=(ϩ n).map fun k=>(nmE k,[],[])
theorem zeU:∀ n∈[0,1,2],((ems n).map fun p=>p.1).Nodup/\(ems n).length=n/\∀ p∈ems n,wdB p.1=true/\p.1 ∉ hdL/\p.1≠"greatest"/\p.2.1=[]/\p.2.2.length=0:=by
 intro n hn
 rcases Η.mp hn with rfl | hn
 ·exact ⟨by decide,rfl,fun p hp=>by cases hp⟩
 rcases Η.mp hn with rfl | hn
 ·refine ⟨by decide,rfl,fun p hp=>?_⟩
  rw [υ.mp hp]
  exact ⟨by decide +kernel,by decide +kernel,by decide +kernel,rfl,rfl⟩
 rw [υ.mp hn]
 refine ⟨by decide +kernel,rfl,fun p hp=>?_⟩
 rcases Η.mp hp with rfl | hp
 ·exact ⟨by decide +kernel,by decide +kernel,by decide +kernel,rfl,rfl⟩
 ·rw [υ.mp hp]
  exact ⟨by decide +kernel,by decide +kernel,by decide +kernel,rfl,rfl⟩
theorem zaZ {C:Str->Nat->Prop}{t:Str}(h:wdB t=true):ErOk C t [] []:=⟨h,by decide,by simp,gK,0,by decide,KC⟩
section
variable {hs:List (Str×Nat)}{es:List Er}{b:List D}
theorem EsOk.len (o:EsOk hs es):es.length=hs.length:=by rw [<- o.eq,Ν]
theorem EsOk.nms (o:EsOk hs es):es.map (fun p=>p.1)=hs.map fun h=>h.1:=by rw [<- o.eq,fc];rfl
theorem EsOk.at (o:EsOk hs es) {f:Str}{c:Nat}(h:(f,c)∈hs):∃ p∈es,p.1=f/\p.2.1.length=c:=by
 rw [<- o.eq] at h
 obtain ⟨p,hp,e⟩:=Ϛ.mp h
 obtain ⟨rfl,rfl⟩:=iV e
 exact ⟨p,hp,rfl,rfl⟩
theorem EsOk.nm (o:EsOk hs es) {s:Str}(h:s∈es.map fun p=>p.1):s∈hdL:=by
 rw [o.nms] at h
 obtain ⟨x,hx,rfl⟩:=Ϛ.mp h
 exact (o.hd.ok x hx).1
theorem pgA (o:EsOk hs es):PgOk (C0 hs) es:=⟨by rw [o.len];exact o.hd.pos,by rw [o.len];have:=o.hd.three;omega,by rw [o.nms];exact o.hd.nd,o.ok,fun f c h=>o.at h⟩
theorem WF:("greatest":Str) ∉ hdL:=by decide +kernel
noncomputable abbrev gE (b:List D):Er:=("greatest",["xy","end","x"],b)
theorem pgB (o:EsOk hs es) (g:ErOk (C1 hs) "greatest" ["xy","end","x"] b):PgOk (C1 hs) (es++[gE b]):=by
 have l:=o.len
 have l3:=o.hd.three
 refine ⟨by simp,by simp;omega,?_,fun p hp=>?_,fun f c h=>?_⟩
 ·rw [aW,aV]
  refine ⟨by rw [o.nms];exact o.hd.nd,by simp,fun s h1 t h2 e=>WF ?_⟩
  have:t="greatest":=υ.mp h2
  rw [<- this,<- e]
  exact o.nm h1
 ·rcases Λ.mp hp with hp | hp
  ·exact (o.ok p hp).mono fun f c h=>.inl h
  ·rw [υ.mp hp];exact g
 ·rcases h with h | ⟨rfl,rfl⟩
  ·obtain ⟨p,hp,q⟩:=o.at h
   exact ⟨p,bL _ hp,q⟩
  ·exact ⟨gE b,Ρ _ μ,rfl,rfl⟩
theorem pgC (o:EsOk hs es) (g:ErOk (C1 hs) "greatest" ["xy","end","x"] b) {n:Nat}(hn:n∈[0,1,2]):PgOk (C1 hs) (gE b::(es++ems n)):=by
 have l:=o.len
 have l3:=o.hd.three
 obtain ⟨m1,m2,m3⟩:=zeU n hn
 have hn2:n<=2:=by simp at hn;omega
 refine ⟨by simp,by simp [m2];omega,?_,fun p hp=>?_,fun f c h=>?_⟩
 ·rw [ϧ,bJ,aW,aV]
  refine ⟨fun h=>?_,by rw [o.nms];exact o.hd.nd,m1,fun s h1 t h2 e=>?_⟩
  ·rcases Λ.mp h with h | h
   ·exact WF (o.nm h)
   ·obtain ⟨p,hp,e⟩:=Ϛ.mp h
    exact (m3 p hp).2.2.1 e
  ·obtain ⟨p,hp,e2⟩:=Ϛ.mp h2
   refine (m3 p hp).2.1 ?_
   have e2:p.1=t:=e2
   rw [e2,<- e]
   exact o.nm h1
 ·rcases Η.mp hp with rfl | hp
  ·exact g
  rcases Λ.mp hp with hp | hp
  ·exact (o.ok p hp).mono fun f c h=>.inl h
  ·obtain ⟨k1,_,_,k2,k3⟩:=m3 p hp
   rw [k2,bQ.mp k3]
   exact zaZ k1
 ·rcases h with h | ⟨rfl,rfl⟩
  ·obtain ⟨p,hp,q⟩:=o.at h
   exact ⟨p,θ _ (bL _ hp),q⟩
  ·exact ⟨gE b,μ,rfl,rfl⟩
theorem pgD:PgOk (fun _ _=>False) [("e",[],[])]:=⟨by decide,by decide,by simp,fun p hp=>by rw [υ.mp hp];exact zaZ (by decide +kernel),fun _ _ h=>h.elim⟩
end
def NoPg (d:D):Prop:=∀ (K:Nat) (S:Store),3<=K->Is K 10 [d] noo S
theorem nopg {d:D}(hd:∀ S,deref S d=d) (h:isTy .tuple d=some false):NoPg d:=fun _ _ hK=>zef hd h (by omega)
theorem bads {hs:List (Str×Nat)}{es:List Er}{p:Er}(o:EsOk hs es):∀ d∈[D.lst (es.map erD),erD p,.lst [prD es],.tup [prD es],.non,.int 0,.int 1,.bl true,.str "",.str "errand",.tup [],.lst [],dicV false [] []],NoPg d:=by
 have h1:1<=es.length:=by rw [o.len];exact o.hd.pos
 have q1:NoPg (erD p):=fun K S hK=>zaI (by simp) (fun K S hK=>QW hK) hK
 have q2:NoPg (.tup [prD es]):=fun K S hK=>zaI (by simp) (fun K S hK=>J1 h1 hK) hK
 have q3:NoPg (.tup []):=fun K S hK=>Vo (by omega)
 simp only [List.forall_mem_cons]
 exact ⟨nopg (fun _=>rfl) rfl,q1,nopg (fun _=>rfl) rfl,q2,nopg (fun _=>rfl) rfl,nopg (fun _=>rfl) rfl,nopg (fun _=>rfl) rfl,nopg (fun _=>rfl) rfl,nopg (fun _=>rfl) rfl,nopg (fun _=>rfl) rfl,q3,nopg (fun _=>rfl) rfl,nopg (fun _=>rfl) rfl,by simp⟩
theorem e_at:∀ k∈[0,1],∃ c:Str,subD (.str "abc") (.int (0+(k:Nat)))=some (.str c)/\opD .Add (.str "e") (.str c)=some (.str (nmE k),false):=by
 intro k hk
 rcases Η.mp hk with rfl | hk
 ·exact ⟨"a",by with_unfolding_all rfl,by with_unfolding_all rfl⟩
 ·rw [υ.mp hk]
  exact ⟨"b",by with_unfolding_all rfl,by with_unfolding_all rfl⟩
theorem law_wp:∀ ns:List Int,ns.length<=63->callW F wh 60 41 [.scr ns] (fun x _=>x.1=.bl true) []:=by
 intro ns h63
 obtain ⟨ms,em,hm⟩:=zcF ns none (some 9)
 refine w_law ?_
 nofun
 rw [em]
 refine opv_f (Xq (a:=[.int ns.length]) (by simp;omega)) ?_
 nofun
 refine wp_walk (fun l ρ S'=>∃ (x1 x2 x3 x4 x5 x6:Slot),ρ=[.sh (.scr ns),x1,x2,x3,x4,x5,x6]/\∀ d∈l,∃ j,d=D.int j) ?_ ?_ _ _ _
  ⟨.no,.no,.no,.no,.no,.no,rfl,fun d hd=>?_⟩
 ·rintro d l ρ S ⟨x1,x2,x3,x4,x5,x6,rfl,hd⟩
  have hd':=fun d hx=>hd d (θ _ hx)
  obtain ⟨j,rfl⟩:=hd d μ
  nofun
  refine (Q6 (by decide)).go ?_
  rintro _ ⟨xs,rfl,hx⟩
  have hx:0 < xs.length:=by omega
  nofun
  refine (Vj hx (by decide)).go ?_
  rintro _ ⟨hs,es,rfl,o⟩
  have l3:es.length<=3:=by rw [o.len];exact o.hd.three
  have l1:1<=es.length:=by rw [o.len];exact o.hd.pos
  nofun
  refine wp_lc ?_
  dsimp only [wpI,e_var]
  refine rdv_s rfl ?_
  refine kp_s rfl ?_
  refine zF (show itrD (prD es)=some (es.map erD) from rfl) ?_
  refine Xl erD (fun p=>hdD (p.1,p.2.1.length)) es [] (by simp;omega) (fun p hp Q hQ=>?_) ?_
  ·refine zT rfl ?_
   dsimp only [wpF,e_tup,e_sub,e_bi,e_con,wpEs,e_var,inn,nT,ς,bM,Υ,bu]
   nofun
   rw [Ν]
   exact hQ
  have eh:es.map (fun p=>hdD (p.1,p.2.1.length))=hs.map hdD:=by rw [<- o.eq,fc];rfl
  rw [dz,eh]
  nofun
  refine (Xc hx o.hd (by decide)).go ?_
  rintro _ ⟨b,rfl,g⟩
  nofun
  refine wp_lc ?_
  dsimp only [wpI,yP,wpEs,e_var,e_con]
  nofun
  refine (zA hx (by decide) (by decide)).go ?_
  rintro _ ⟨v,rfl,v0,v1⟩
  nofun
  refine tst_T (by simp [fits,LIM];omega) ?_
  have hv:v.toNat∈[0,1,2]:=by simp;omega
  have e0:zN 0 v=(ϩ v.toNat).map fun (k:Nat)=>D.int (0+(k:Int)):=by show (ϩ (v - 0).toNat).map _=_;rw [Int.sub_zero]
  rw [e0]
  refine Xl (fun (k:Nat)=>D.int (0+(k:Int))) (fun k=>erD (nmE k,[],[])) _ [] (by simp;omega) (fun k hk Q hQ=>?_) ?_
  ·have hk:=bB.mp hk
   obtain ⟨c,e1,e2⟩:=e_at k (by simp;omega)
   refine zT rfl ?_
   dsimp only [wpF,e_tup,e_sub,e_bin,e_con,wpEs,e_var,inn,nT,ς,bM,Υ,bu]
   nofun
   refine zF e1 ?_
   nofun
   refine opv_s e2 ?_
   nofun
   exact hQ
  rw [dz,show (ϩ v.toNat).map (fun k=>erD (nmE k,[],[]))=(ems v.toNat).map erD by rw [ems,fc];rfl]
  have el:(ems v.toNat).length<=2:=by simp [ems];omega
  have pB:∀ S,Is 59 10 [.tup (es.map erD++[erD (gE b)])] yes S:=fun S=>by
   rw [show es.map erD++[erD (gE b)]=(es++[gE b]).map erD by rw [aW];rfl]
   exact kO (pgB o g) (by decide)
  have pC:∀ S,Is 59 10 [.tup ([erD (gE b)]++es.map erD++(ems v.toNat).map erD)] yes S:=fun S=>by
   rw [show [erD (gE b)]++es.map erD++(ems v.toNat).map erD=(gE b::(es++ems v.toNat)).map erD by rw [ϧ,aW];rfl]
   exact kO (pgC o g hv) (by decide)
  nofun
  refine (kO (pgA o) (by decide)).go ?_
  nofun
  refine (pB _).go ?_
  nofun
  refine (pC _).go ?_
  nofun
  refine (kO pgD (by decide)).go ?_
  obtain ⟨p,r,er⟩:∃ p r,es=p::r:=by
   cases es with
   | nil=>cases l1
   | cons p r=>exact ⟨p,r,rfl⟩
  have ep:subD (prD es) (.int 0)=some (erD p):=by rw [er];exact zap (l:=(p::r).map erD) (by decide) rfl
  nofun
  refine zF ep ?_
  nofun
  refine wp_walk (fun l' ρ S'=>∃ (x6:Slot),ρ=[.sh (.scr ns),.sh (.int j),.sh (LI xs),.sh (prD es),.sh (erD (gE b)),.ow (.lst ((ems v.toNat).map erD)),x6]/\∀ d∈l',NoPg d) ?_ ?_ _ _ _
   ⟨_,rfl,bads o⟩
  ·rintro d l' ρ S ⟨x6,rfl,hb⟩
   have hb':=fun d hx=>hb d (θ _ hx)
   nofun
   refine (hb d μ _ _ (by decide)).go ?_
   nofun
   exact ⟨_,rfl,hb'⟩
  ·rintro ρ S ⟨x6,rfl,hb⟩
   nofun
   exact ⟨_,_,_,_,_,_,rfl,hd'⟩
 ·rintro ρ S ⟨x1,x2,x3,x4,x5,x6,rfl,hd⟩
  nofun
  exact rfl
 ·rcases Λ.mp hd with hd | hd
  ·exact ⟨_,υ.mp hd⟩
  ·obtain ⟨i,_,rfl⟩:=Ϛ.mp hd
   exact ⟨i,rfl⟩
theorem run_law:∀ ns:List Int,ns.length<=63->callW (fnsOf rs) wh 60 41 [.scr ns] (fun x _=>x.1=.bl true) []:=law_wp
noncomputable def zer:PySem.DefRec:=EV.drOf (top 57)
end Q04
open PySem PySem.W PyProof.Rows
set_option maxRecDepth 100000 in
set_option maxHeartbeats 0 in
theorem PySem.Challenge.cw_errandroom_k04_programs_known_holds : PySem.Challenge.rw_errandroom_k04_programs_known.Holds := by
 refine EV.zeO (q := Q04.yK) (loose := [("PARTS" : Str)]) (d := Q04.zer) (B := Q04.B) (rs := Q04.rs) (f := 41) (r := Q04.r_law) (y := "script") (wh := Q04.wh) 4000 400 ?s ?l ?a ?b ?c ?k ⟨rfl, rfl, rfl, rfl, rfl, by decide +kernel⟩ ?w rfl ?e rfl ?g rfl Q04.tabs Q04.run_law
 case s => kernel_rfl
 case l => exact Q04.zcl
 case a => kernel_rfl
 case b => kernel_rfl
 case c => kernel_rfl
 case k => kernel_rfl
 case w => w_witness2
 case e => kernel_rfl
 case g => kernel_rfl
