import PyProof.Rows.All
import Wide.All
import OpenK.AllK
import Wide.FinOn
import Lean
import PyProof.EqAt
import PyProof.EqKinds
import PyProof.TupleCall
import KE.KLam
import PyProof.EnumMake
import PyProof.EnumIter
import PyProof.EnumFor
import PyProof.EnumStmt
import PyProof.WalksEnum
import PyProof.ZipIter
import KE.KRevIter
import PyProof.Rows.Range3
import PyProof.Rows.SortShell
import KE.KTops
import PyProof.Rows.SortRuns
import PyProof.Rows.SortKey
import KE.KSortTup
import PyProof.PureInt
import KE.KDictSum
import PyProof.Rows.SetFrom
import PyProof.SetKind
import PyProof.DictKinds
import PyProof.WalksMore
import PyProof.FactsAll.set_1
import PyProof.CollectWalk
import PyProof.CollectIter
import KE.KSortAsk
import PyProof.TupleKey
import PyProof.DictKeyH
import PyProof.ReprRoads
import PyProof.ListMulRoad
import PyProof.NeKinds
import KE.KEqDict
import KE.KIntText
import PyProof.SumWalkG
import PyProof.Rows.SumGenD
import PyProof.CompMap
import PyProof.RaisesMany
import PyProof.RulesAs
import PyProof.ExcClass2
import PyProof.ExcArgsOwn
import PyProof.IsiBase
import PyProof.ExcAttrAll.ValueError
import PyProof.ExcBaseAll.ValueError
import OpenK.KDescr
import OpenK.KOwn
import KE.KIsAll
import PyProof.NsDelKeeps
import KE.KTryMore
import PyProof.TupleOfGen
import PyProof.ListRange
import PySem.Challenge.RW_errandroom_k20_rings_and_names
set_option Elab.async false
set_option linter.all false
set_option maxRecDepth 100000
set_option maxHeartbeats 0
set_option tactic.hygienic false
set_option backward.match.sparseCases false
set_option genSizeOfSpec false
set_option bootstrap.genMatcherCode false
set_option compiler.extract_closed false
open Array renaming length_toList -> ύ, getElem_toList -> bx, getElem?_eq_getElem -> bV, getElem?_toList -> cU, getElem?_eq_some_iff -> dm, perm_iff_toList_perm -> m7, append_assoc -> pF, toList_push -> pO, toList_zip -> p8, toList_map -> rA
open Bool renaming and_eq_true -> ε, false_ne_true -> Μ, and_eq_true_iff -> ϣ, false_eq_true -> bQ, eq_iff_iff -> cR, not_eq_true' -> d7, or_eq_true -> fG, eq_false_iff -> gq, true_and -> gB, and_false -> iI, false_or -> lr, and_true -> lu, not_false -> nu, not_true -> oh
open Classical renaming byContradiction -> ao, propDecidable -> aG, choose -> bL, choose_spec -> dY
open False renaming elim -> ϟ
open ForInStep renaming yield -> aF, done -> aR
open Int renaming toNat_natCast -> cj, emod_lt_of_pos -> dW, emod_nonneg -> fJ, lt_add_one_of_le -> pD
open List renaming mem_cons_of_mem -> ι, mem_cons_self -> ξ, getElem?_eq_getElem -> π, mem_singleton -> υ, getElem?_eq_some_iff -> χ, length_map -> ψ, size_toArray -> ω, replicate -> Α, mem_cons -> Ε, getElem?_set_ne -> Ζ, length_append -> Ξ, append_nil -> Ο, getElem?_map -> Ρ, mem_append -> ϋ, range -> ό, getElem?_set_self -> Ϗ, mem_of_getElem? -> ϑ, getElem?_append_left -> ϖ, getElem?_append_right -> Ϙ, nil_append -> Ϛ, mem_range -> Ϝ, mem_append_right -> ϝ, lookup_cons -> Ϡ, all_eq_true -> ϡ, length_set -> ϥ, map_cons -> ϧ, contains_iff_mem -> Ϩ, length_range -> ϭ, length_cons -> ϱ, mem_map -> Ϲ, map_append -> ak, cons_append -> aq, replicate_succ -> aC, getElem_mem -> aN, getElem?_cons_zero -> aO, getElem?_cons_succ -> aQ, getD_eq_getElem?_getD -> aW, nodup_cons -> aY, getElem?_eq_none -> bh, zip_cons_cons -> bu, length_eq_zero_iff -> bD, getElem?_replicate -> bF, map -> bM, any_eq_true -> bN, mem_iff_getElem? -> bR, getElem?_zip_eq_some -> bW, nodup_append -> b7, flatten_cons -> b8, Pairwise -> cz, filterMap_cons -> cD, set -> cG, length_take -> dz, length_drop -> dB, Perm -> dC, pairwise_iff_getElem -> dG, drop_eq_getElem_cons -> dH, of_mem_zip -> dO, find?_cons -> dR, length_replicate -> eQ, not_mem_nil -> eX, any_cons -> fu, all_cons -> fB, length_nil -> fD, getElem_of_mem -> fH, map_map -> fL, all_map -> fM, pairwise_cons -> fU, mem_or_eq_of_mem_set -> f9, pairwise_map -> gm, append_assoc -> gn, filter_cons -> gK, take_of_length_le -> gU, map_nil -> gW, length_zip -> ig, foldl_cons -> ik, getElem?_toArray -> iu, drop -> iQ, mem_filterMap -> lz, take -> mz, mem_filter -> mR, nodup_nil -> nq, set_eq_of_length_le -> n8, pairwise_singleton -> oJ, pairwise_lt_range -> oM, drop_eq_nil_of_le -> oN, mem_append_left -> o9, length_eraseIdx -> ph, mergeSort_perm -> pB, getElem?_range -> pC, map_replicate -> pI, lookup_append -> pM, getElem_range -> pN, take_sublist -> pX, reverse_cons -> pY, getElem?_inj -> pZ, ext_getElem? -> p6, any_eq_false -> p7
open List.Pairwise renaming nil -> ir, imp_of_mem -> lG, sublist -> mC
open List.Perm renaming refl -> cT
open Nat renaming le_refl -> Β, beq -> Υ, ne_of_lt -> Φ, lt_of_lt_of_le -> Ω, le_trans -> Ϧ, zero_le -> ϴ, le_of_lt -> cg, lt_irrefl -> cA, ne_of_gt -> cN, lt_succ_of_lt -> eE, lt_succ_self -> fj, lt_or_ge -> g8, le_of_eq -> ie, le_of_ble_eq_true -> iz, le_succ -> iM, zero_add -> lY, le_of_not_lt -> mL, not_lt_zero -> m5, lt_trans -> o4, le_of_succ_le_succ -> o5
open Nat.succ renaming inj -> iY
open Ne renaming symm -> bT
open Option renaming bind_eq_some_iff -> ν, map_eq_some_iff -> ο, some -> ϫ, getD -> eU, isSome_iff_exists -> fZ, map_some -> gO, isSome_map -> lw, bind_some -> lR, isNone_iff_eq_none -> mZ, isSome_some -> o8, getD_some -> pG, getD_none -> pH
open Option.some renaming inj -> ϕ
open Prod renaming mk -> lO
open Prod.mk renaming inj -> eO
open PyProof.Rows renaming arrOf -> ϊ, wpS_bind -> Ϫ, slot_tuple_getitem -> ϲ, SortSt -> aL, wpS_pure -> aZ, Keyed -> bI, KeyOrd -> bJ, seqObj -> cX, callWith_type1 -> eG, reverseSlice' -> fK, wpS_forRange -> gb, AllBare -> gY, listUpdate_at -> gZ, sortedHeap -> iK, SortKind -> lE, envOfC -> mH, pendingOf -> nF, mirror_perm -> nR, wpS_modify -> oR, subscriptTail_builtinR -> pP, listItems_at -> pR
open PyProof.Rows.F renaming plain_set_update_loop -> cO, entry_set_update_loop -> gA
open PyProof.Rows.KTD renaming datumAt -> iR
open PyProof.Rows.KeyOrd renaming kle_refl -> bU, kle_trans -> du, kle_of_klt -> dX, kle_antisymm -> o6
open PyProof.Rows.LSm renaming kept_iter -> oK
open PySem renaming Value -> δ, wpAny_bind -> ζ, wpAny_pure -> θ, Shared -> μ, SetTable -> Η, wpAny -> Λ, model -> Ν, Program -> Τ, mainGlobals -> Ψ, Builtin -> ώ, mem_of_lookup -> ϐ, World -> ϓ, compareOp -> ϔ, Around -> ϙ, Expr -> ϛ, NameKind -> Ϣ, Spec -> Ϥ, wpAny_newObj_type -> Ϯ, starEach -> ϰ, wpAny_setField -> Ϸ, cLine -> ϸ, wpAny_field -> au, Stmt -> aA, wpAny_call_entry -> aD, wpAny_truthy_bool -> aH, sizeLine_eq -> aJ, rawInt -> aK, Scope -> aM, wpAny_callSpecial?_slot -> aU, wpAny_mono -> bc, keywordEach -> bj, intKind -> bw, assignEach -> bz, Arguments -> bA, wpAny_holding -> bC, Keyword -> bG, FuncData -> bK, wpAny_Call_Name_kw -> bY, binaryOp -> bZ, wpAny_of_eq -> cB, foldedSetIterable -> cC, wpAny_rule -> cH, swappedStores -> cI, wpAny_typeOf -> cW, codeAny_mono -> cY, bootBuiltins -> cZ, wpAny_passesOwn -> di, backToKw -> dj, swapsWithSole -> dq, wpAny_setState_of -> dw, sysModules -> dM, World -> dU, codeAny_builtin -> dZ, wpAny_setField_rec -> d8, tupleKind_room_in1 -> d9, cellsFrom -> eF, wpAny_pyIter_list -> eY, Paired -> fc, sliceBounds -> fO, wpAny_execs_nil -> fV, backTo -> fW, codeAny -> gf, builtinsNs -> gC, bindArgs -> gD, assign -> gF, wpAny_pyIter_enum -> gP, relabel -> gQ, holding -> gR, swapsWith -> iw, noteFrame -> iy, CmpOp -> iB, wpAny_call -> iJ, IsPart -> iT, wpAny_ite_false -> iU, builtinLookup_eq_fast -> iZ, wpAny_seqItems -> lA, storeSet -> lB, isTrue -> lC, isSubtype_type -> lD, Operator -> lF, tupleKind -> lJ, treeTable -> lK, setFlight -> lL, getItem -> lM, PassesOwn -> lQ, wpAny_setEntries_of -> lV, wpAny_standAt -> lZ, wpAny_attempt -> mj, plainId_quiet -> mq, behindInMarks -> my, wpAny_pyIter_tuple -> mF, pyIter -> mG, closureFor -> mJ, wpAny_loadPart_at -> mU, valueAt -> mV, wpAny_isInstance -> nA, wpAny_askSetting -> nC, pickOrder -> nD, noFill_tuple_add -> nG, checkBuiltinCall -> nH, DictEntry -> nQ, wpAny_loadPart' -> ou, typeLookup_type -> oA, letOwnedTupleGo -> oE, importedModules -> oF, BoolOp -> oH, wpAny_newTuple -> oU, wpAny_letOwnedTupleGo_enum -> oV, setAddHashedIn -> oW, newFunctionEnv -> oX, defaultsOf -> oY, call_meets -> oZ, seq_tuple_add -> pA, concat_meets -> pU, call_meetsIn -> pW
open PySem.Around renaming under_plainId -> dh, frames_deeper -> oO
open PySem.Builtin.List renaming listExtendWith -> cJ, listTooLong -> dg, listSameRef -> lU
open PySem.Builtin.Slice renaming slicePlaces -> cQ, sliceAdjust -> fC, sliceApplied -> lq
open PySem.Builtin.SmallTypes renaming nextOf -> iC
open PySem.Builtin.Str renaming occurrences -> fQ
open PySem.Builtin.Tuple renaming tupleExact -> c7, tupleItemsOf -> lg
open PySem.Calls renaming Name_function_global -> m6, evalArgs_plain -> o7
open PySem.Challenge renaming rw_errandroom_k20_rings_and_names -> ς, pw_errandroom_k20_rings_and_names -> ϳ
open PySem.Data renaming fields -> aj, seq -> gM
open PySem.EntryCells renaming newEntry -> nO
open PySem.Env renaming kindOf -> lH
open PySem.F renaming called_set -> bf, slot_dict_get -> cL, args_tuple_add_2 -> fX, plainAttrs_list -> gh, entry_tuple_add -> gj, args_dict_get_3 -> gk, slot_tuple_add -> gG, plainAttrs_str -> gH, entry_dict_get -> gJ, plain_list_iadd -> m9, plainAttrs_dict -> ni, type_dict_get -> nY, slot_set_iter -> nZ, plain_set_new -> n6
open PySem.Heap renaming get?_push_of_some -> η, lt_size -> Δ, get?_push_size -> Θ, SameBut -> ϩ, get?_update_self -> ϵ, get?_update_other -> aX, size_push -> bO, get?_update_ne -> dJ, get?_none_of_le -> iG, MadeExcOf -> iH
open PySem.Heap.SameBut renaming update -> cV, refl -> nM
open PySem.NameKind renaming free -> Ϭ
open PySem.Obj renaming mapFields -> aV, mapSeq -> bH, data_mapFields -> cM, isFreed_of_fields -> eV
open PySem.Paired renaming length -> nj
open PySem.ScopeKind renaming function -> oG
open PySem.SeqAt renaming RcNeAt -> ϯ, EqAt -> Ϻ, EqAt -> fP, notIn_tupleAt -> lN, notIn_listAt -> lX, in_tupleAt -> mK, in_listAt -> mQ
open PySem.SeqAt.EqAt renaming str_int -> nU, int_str -> nW
open PySem.SetTable renaming below -> Χ, grown -> cu, orStandIn -> iD, insertAt -> iW, fits -> mO, has -> m8
open PySem.SetTable.below renaming go -> eZ
open PySem.SetTable.probe renaming go -> mY
open PySem.Shared renaming TypeIs -> dI
open PySem.Str renaming ofString -> lW
open PySem.Txt renaming slice -> gw
open PySem.Value renaming ref -> Ι, none -> Κ, bool -> ϒ, type -> ϗ, int -> Ϟ, str -> bB, isInt -> fY, builtin -> iV, isStrOf -> nJ
open PySem.W renaming looks_findIn -> pQ
open PySem.Walks renaming list -> mX
open PySem.World renaming withFollow -> dN
open PySem.pickOrder renaming go -> mW
open Sum renaming inr -> cF, inl -> dD
open True renaming intro -> aB
namespace L2
open PySem PySem.Spec PyProof.Rows
abbrev VSP:=δ->μ->Prop
abbrev Key:=Sum Int Str
noncomputable def yQ (s:Stmt):bA:=match s with
 | .FunctionDef _ a _ _ _ _ _ _ _ _=>a
 | _=>{ posonlyargs:=[],args:=[],vararg:=none,kwonlyargs:=[],kw_defaults:=[],kwarg:=none,defaults:=[] }
noncomputable def yt (s:Stmt):List Stmt:=match s with
 | .FunctionDef _ _ b _ _ _ _ _ _ _=>b
 | _=>[]
noncomputable def zG (s:Stmt):aM:=match s with
 | .FunctionDef _ _ _ _ _ _ sc _ _ _=>sc
 | _=>{ kind:=.function,names:=[],isGenerator:=false,isCoroutine:=false }
noncomputable abbrev veB:List δ:=[.type "ValueError",.type "Exception",.type "BaseException",.type "object"]
end L2
namespace EV
open PySem PySem.Spec PyProof.Rows L2
inductive D where
 | non | bl (b:Bool) | int (i:Int) | str (x:Str)
 | tup (ds:List D) | lst (ds:List D)
 | dK (ks:List Key) (ds:List D) | dT (ks:List (List Key)) (ds:List D)
 | ref (k:Nat) | fn (f:Nat) | scr (ns:List Int) | ktp (ds:List D) | kdc (ps:List (Str×Int)) | dF (ks:List (List Key)) (ds:List D)
 | ins (c:Str) (ns:List Str) (ds:List D)
 | lam (f:Nat) (ds:List D) | tab (n:Nat)
 deriving Inhabited
inductive Ty where
 | int | bool | str | tuple | list | dict
 deriving DecidableEq
inductive BI where
 | len | abs | int | str | tuple | list | sum | all | any | isinst (t:Ty) | min2 | max2 | sorted | repr | dict | sset | lset | trev | lrng | lrng2
 deriving DecidableEq
inductive MT where
 | get1 | get2 | index | join | split | sidx
 deriving DecidableEq
inductive T where
 | one (i:Nat) | tup (is:List Nat) | nst (i:Nat) (is:List Nat)
 deriving DecidableEq
inductive E where
 | var (i:Nat) | con (d:D) | glo (n:Nat) (d:D)
 | bin (op:lF) (a b:E) | neg (a:E)
 | cmp (op:iB) (a b:E) | chn (o1 o2:iB) (a b c:E)
 | not (a:E) | and (a b:E) | or (a b:E)
 | ite (c a b:E)
 | tup (es:List E) | lst (es:List E) | dic (tk:Bool) (ks:List Key) (vs:List E)
 | sub (a i:E) | slc (a:E) (lo hi:Option E)
 | bi (b:BI) (es:List E) | mth (m:MT) (o:E) (es:List E)
 | call (f:Nat) (es:List E) | callk (f:Nat) (perm:List Nat) (es:List E) | callv (i:Nat) (es:List E)
 | comp (t:T) (js:List Nat) (it:E) (ifs:List E) (elt:E)
 | box (e:E) | one (e:E) | flip (e:E) | dk1 (a b:E)
 | seq (e:E) | rng (lo:Option E) (hi:E) | enum (e:E) | zip (a b:E) | rev (e:E) | items (e:E) | dwn (es:List E) | keys (e:E)
 | att (cs:List Str) (o:E) (f:Str) | met (ms:List (Str×Nat)) (o:E) (m:Str) (es:List E) | mk (c:Str) (f:Nat) (es:List E)
 | lam (f p:Nat) (js:List Nat) | cvl (i:Nat) (es:List E) | fgt (e:E)
inductive HB where
 | is (k:Nat) | isT (ks:List Nat) | ve | var (j:Nat) | not (a:HB) | and (a b:HB) | or (a b:HB) | one (a:HB)
inductive C where
 | set (t:T) (e:E)
 | expr (e:E)
 | ret (e:E) | retN
 | ite (c:E) (a b:List C)
 | whl (c:E) (b:List C)
 | forr (t:T) (it:E) (b:List C)
 | app (i:Nat) (e:E) | ext (i:Nat) (e:E)
 | stv (i:Nat) (k v:E) | sti (o k v:E) | appR (o e:E) | pop (i:Nat) | popR (t:T) (o:E) | popO (t:T) (i:Nat)
 | pass | brk | cnt | frz (i:Nat) | frr (i:Nat) | frk (i:Nat)
 | rse (c:Nat) | tri (tb:List (List Nat)) (f:Nat) (es:List E) (c i:Nat) (hs:List (Nat×HB))
 | lin (i:Nat) (es:List E)
 | stx (i f:Nat) (es:List E) | sw2 (i j:Nat) (a b:E)
 | trx (tb:List (List Nat)) (j f:Nat) (es:List E) (c i:Nat) (h:HB) (a b:List D) (els:List C)
 | rtx (f:Nat) (es:List E) | trl (tb:List (List Nat)) (j c i:Nat) (hs:List HB) (k l:Nat)
 | sta (cs:List Str) (o:E) (f:Str) (e:E) | aua (cs:List Str) (o:E) (f:Str) (op:lF) (e:E)
structure Fn where
 np:Nat
 nv:Nat
 body:List C
structure Ob where
 name:Str
 fields:List Str
 meths:List (Str×Nat)
structure LamR where
 ps:List Str
 fs:List Str
 g:Str
 gi:Nat
structure Tb where
 fns:List Str
 pars:List (List Str)
 consts:List (Str×D)
 bare:List Str
 kws:List (Nat×List Str×List Nat)
 cls:List (Str×List Nat)
 obs:List Ob:=[]
 lams:List LamR:=[]
 tabs:List Str:=[]
 stor:List Str:=[]
structure Row where
 name:Str
 st:Stmt
 ps:List Str
 N:List Str
 fn:Fn
noncomputable def frOf (h:Heap) (n:Nat):W.Frag:=(ό n).filterMap λa=>(h.get? a).map λo=>(a,o)
noncomputable def dotted (x:Str):Bool:=x.cps.contains 46
noncomputable def clOf (x:Str):Str:=⟨(x.cps.toList.takeWhile λc=>c != 46).toArray⟩
noncomputable def snOf (x:Str):Str:=⟨((x.cps.toList.dropWhile λc=>c != 46).drop 1).toArray⟩
noncomputable def nmOf (x:Str):Str:=if dotted x=true then snOf x else x
noncomputable def caOf (K:W.Frag) (x:Str):Option Addr:=match W.nsIn K Ψ x with
 | some (some (.ref C))=>some C
 | _=>none
noncomputable def atN (K:W.Frag) (x:Str):Option (Option δ):=if dotted x=true then (match caOf K (clOf x) with
  | some C=>W.findIn K (.ref C) (snOf x)
  | none=>none) else W.nsIn K Ψ x
noncomputable def tbAt (K:W.Frag) (x:Str):Option (Addr×Addr):=match atN K x with
  | some (some (.ref f))=>(match K.lookup f with
    | some ⟨_,_,.func fd,_⟩=>(match fd.code with
      | .ref c=>(match K.lookup c with
        | some ⟨_,_,.fields vs,_⟩=>(match vs.getD 11 .none with
          | .ref P=>some (c,P)
          | _=>none)
        | _=>none)
      | _=>none)
    | _=>none)
  | _=>none
noncomputable def zhn:δ->Bool
 | .str _ _=>true
 | _=>false
noncomputable def zcD:δ->Bool
 | .int _ _=>true
 | _=>false
noncomputable def zek:δ->Bool
 | .bool _=>true
 | _=>false
noncomputable def cdO (c P:Addr):Option Obj->Bool
 | some ⟨cl,_,.fields vs,_⟩=>cl==.type "code"&&vs[11]?==some (.ref P)&&zhn (vs.getD 18 .none)&&zcD (vs.getD 7 .none)&&zek (vs.getD 9 .none)&&zcD (vs.getD 10 .none)
 | _=>false
noncomputable def bmO:Option Obj->Bool
 | some ⟨cl,some d,.plain,_⟩=>cl==.type "module"&&d==gC
 | _=>false
noncomputable def cdOk (K:W.Frag) (c P:Addr):Bool:=cdO c P (K.lookup c)&&c != P&&P != Ψ&&(match caOf K "__builtins__" with
  | some bm=>bm != gC&&bm != Ψ&&bm != P&&bmO (K.lookup bm)
  | none=>false)
noncomputable def Q8 (K:W.Frag) (x:Str):Option (bK×Bool):=match atN K x with
  | some (some (.ref f))=>(match K.lookup f with
     | some ⟨_,_,.func fd,_⟩=>some ({ fd with kwdefaults:=.none,doc:=.none,pyModule:=.none,annotations:=none,code:=.none,closureTuple:=.none },W.codeIn K fd.code x&&W.keepIn K (.ref f))
     | _=>none)
  | _=>none
noncomputable def qw:List D->List δ->Bool
 | [],[]=>true
 | .str x::ds,.str y _::vs=>x==y&&qw ds vs
 | .int i::ds,.int j _::vs=>i==j&&qw ds vs
 | _,_=>false
noncomputable def zfi (K:W.Frag) (a:Addr):Option (Array δ):=(K.lookup a).bind λo=>match o.cls,o.data with
 | .type t,.seq its _=>if (t=="tuple"&&decide (its.size<=1000))=true then some its else none
 | _,_=>none
noncomputable def zhL (K:W.Frag) (a:Addr) (ps:List (Str×Int)):Bool:=(match K.lookup a with
  | some o=>(match o.cls with | .type t=>t=="dict" | _=>false)&&o.dict.isNone
  | none=>false)&&KTD.tabLook (KTD.datLooks λb=>K.lookup b) (λb=>K.lookup b) a (ps.map λp=>(p.1,.flat (.int p.2)))
noncomputable def WN (K:W.Frag) (rs:List Row) (x:Str):D->Bool
 | .int i=>(match W.nsIn K Ψ x with | some (some (.int j _))=>i==j | _=>false)
 | .str y=>(match W.nsIn K Ψ x with | some (some (.str z _))=>y==z | _=>false)
 | .fn i=>(match rs[i]? with | some r=>r.name==x&&!dotted x | none=>false)
 | .ktp ds=>(match W.nsIn K Ψ x with | some (some (.ref a))=>(match zfi K a with | some its=>qw ds its.toList | none=>false) | _=>false)
 | .kdc ps=>(match W.nsIn K Ψ x with | some (some (.ref a))=>zhL K a ps | _=>false)
 | _=>false
noncomputable def zbR (K:W.Frag) (cs:List (Str×List Nat)) (p:Str×List Nat):Bool:=match caOf K p.1 with
  | some C=>W.excIn K C veB "ValueError.__new__"&&W.findIn K (.ref C) "__getattribute__"==some (some (.builtin "BaseException.__getattribute__"))&&W.findIn K (.ref C) "__getattr__"==some none&&W.findIn K (.ref C) "__class__"==some (some (.builtin "object.__class__"))
   &&W.mroIn K C (.type "BaseException")==some true&&W.mroIn K C (.type "object")==some true&&(W.clsIn K C).isSome&&W.kitOne K (.ref C) (.type "ValueError")==some true
   &&(ό cs.length).all λk=>match cs[k]? with
      | some q=>(match caOf K q.1 with
        | some Ck=>W.kitOne K (.ref C) (.ref Ck)==some (p.2.contains k)&&W.exmOne K (.ref C) (.ref Ck)==some (p.2.contains k)
        | none=>false)
      | none=>false
  | none=>false
noncomputable def obOk (K:W.Frag) (rs:List Row) (o:Ob):Bool:=match caOf K o.name with
  | some C=>W.plainGet K C Str.empty&&W.hasDictIn K C&&W.plainOver K C&&W.findIn K (.ref C) "__setattr__"==some (some (.builtin "object.__setattr__"))
   &&o.fields.all (λf=>W.findIn K (.ref C) f==some none)&&(!(o.meths.any λq=>q.1==("__init__":Str))||(W.makesIn K C&&W.keepIn K (.ref C)))
   &&o.meths.all λq=>match rs[q.2]? with
      | some r=>(match atN K r.name with
        | some (some (.ref a))=>W.findIn K (.ref C) q.1==some (some (.ref a))&&W.isFn K (.ref a)&&W.keepIn K (.ref a)
        | _=>false)
      | none=>false
  | none=>false
noncomputable def cutK (K:W.Frag) (B:Tb):W.Frag:=match B.tabs with
 | []=>K
 | _=>K.filter λp=>!(B.tabs.filterMap λx=>(tbAt K x).map (·.2)).contains p.1
noncomputable def psOf (K:W.Frag) (B:Tb):List Addr:=B.tabs.map λx=>((tbAt K x).getD (0,0)).2
noncomputable def tabE:Option Obj->Bool
 | some ⟨.none,none,.fields vs,sl⟩=>vs==#[]&&sl==#[]
 | _=>false
noncomputable def Z4 (K0 K:W.Frag) (x:Str):Bool:=match tbAt K x with
 | some q=>cdOk K q.1 q.2&&tabE (K0.lookup q.2)&&(K.lookup q.2).isNone
 | none=>false
noncomputable def zfG (K0 K:W.Frag) (B:Tb) (rs:List Row):List (Option (bK×Bool))×List (Option (Option δ))×List Bool×List Bool×List Bool×List Bool×Bool:=
 (rs.map λr=>Q8 K r.name,B.bare.map λx=>W.nsIn K Ψ x,B.consts.map λp=>WN K rs p.1 p.2,B.cls.map λp=>zbR K B.cls p,B.obs.map λo=>obOk K rs o,B.tabs.map λx=>Z4 K0 K x,decide (psOf K B).Nodup)
noncomputable def JT (K:W.Frag) (B:Tb) (rs:List Row):List (Option (bK×Bool))×List (Option (Option δ))×List Bool×List Bool×List Bool×List Bool×Bool:=zfG K (cutK K B) B rs
noncomputable def Uj (B:Tb) (rs:List Row):List (Option (bK×Bool))×List (Option (Option δ))×List Bool×List Bool×List Bool×List Bool×Bool:=
 (rs.map λr=>some (W.fnOf (nmOf r.name) r.name (yQ r.st) (yt r.st) (zG r.st) .none .none .none .none none .none .none,true),B.bare.map λ_=>some none,B.consts.map λ_=>true,B.cls.map λ_=>true,B.obs.map λ_=>true,B.tabs.map λ_=>true,true)
noncomputable def drOf (s:Stmt):DefRec:=match s with
 | .FunctionDef n a b _ _ _ sc _ _ p=>⟨n,a,b,sc,p⟩
 | _=>⟨"",yQ s,[],zG s,⟨0,0,0,0⟩⟩
end EV
local macro_rules | `(⇑$n:num) => `(EV.E.var $n)
local macro_rules | `(↥$n:num) => `(EV.E.con (EV.D.int $n)) | `(↥$s:str) => `(EV.E.con (EV.D.str $s))
namespace Q20
open PySem PySem.Spec PyProof.Rows L2 EV
def top (i:Nat):Stmt:=ϳ.main.body.getD i (.Pass ⟨0,0,0,0⟩)
noncomputable abbrev qG:List C:=[.ret (.and (.bi (.isinst .int) [⇑0]) (.one (.not (.bi (.isinst .bool) [⇑0]))))]
noncomputable def kI:EV.Row:=⟨"is_whole",top 10,["one"],["one"],⟨1,1,qG⟩⟩
noncomputable abbrev jO:List C:=[.ret (.and (.call 0 [⇑0]) (.one (.chn .LtE .Lt ↥0 ⇑0 (.glo 0 (.int 1000000007)))))]
noncomputable def jf:EV.Row:=⟨"is_number",top 11,["one"],["one"],⟨1,1,jO⟩⟩
noncomputable abbrev zay:List C:=[.ret (.and (.bi (.isinst .str) [⇑0]) (.one (.cmp .In ⇑0 (.glo 1 (.ktp [(.str "+"),(.str "-"),(.str "*"),(.str "<"),(.str "=")])))))]
noncomputable def Yj:EV.Row:=⟨"is_sign",top 12,["one"],["one"],⟨1,1,zay⟩⟩
noncomputable abbrev uz:List C:=[.ret (.call 4 [⇑0,⇑1,(.glo 2 (.int 3))])]
noncomputable def uq:EV.Row:=⟨"is_formula",top 13,["one","is_name"],["one","is_name"],⟨2,2,uz⟩⟩
noncomputable abbrev yL:List C:=[.ite (.or (.call 1 [⇑0]) (.one (.cvl 1 [⇑0]))) [.ret (.con (.bl true))] [],.ite (.or (.cmp .Eq ⇑2 ↥0) (.or (.not (.bi (.isinst .tuple) [⇑0])) (.or (.cmp .NotEq (.bi .len [⇑0]) ↥3) (.one (.not (.call 2 [(.sub ⇑0 ↥0)])))))) [.ret (.con (.bl false))] [],.ret (.and (.call 4 [(.sub ⇑0 ↥1),⇑1,(.bin .Sub ⇑2 ↥1)]) (.one (.call 4 [(.sub ⇑0 ↥2),⇑1,(.bin .Sub ⇑2 ↥1)])))]
noncomputable def yG:EV.Row:=⟨"is_formula_within",top 14,["one","is_name","deeper"],["one","is_name","deeper"],⟨3,3,yL⟩⟩
noncomputable abbrev Xu:List C:=[.ite (.or (.not (.bi (.isinst .str) [⇑0])) (.one (.not (.chn .LtE .LtE ↥1 (.bi .len [⇑0]) (.glo 4 (.int 8)))))) [.ret (.con (.bl false))] [],.ret (.bi .all [(.comp (.one 0) [] (.seq ⇑0) [] (.cmp .In ⇑0 (.glo 3 (.str "abcdefghijklmnopqrstuvwxyz"))))])]
noncomputable def Yh:EV.Row:=⟨"is_word",top 19,["one"],["one"],⟨1,1,Xu⟩⟩
noncomputable abbrev vN:List C:=[.ret (.and (.bi (.isinst .tuple) [⇑0]) (.one (.chn .LtE .LtE ⇑1 (.bi .len [⇑0]) ⇑2)))]
noncomputable def vh:EV.Row:=⟨"is_tuple_of",top 20,["one","least","most"],["one","least","most"],⟨3,3,vN⟩⟩
noncomputable abbrev jN:List C:=[.ret (.and (.bi (.isinst .tuple) [⇑0]) (.and (.cmp .Gt (.bi .len [⇑0]) ↥0) (.one (.bi (.isinst .str) [(.sub ⇑0 ↥0)]))))]
noncomputable def je:EV.Row:=⟨"is_worded",top 21,["one"],["one"],⟨1,1,jN⟩⟩
noncomputable abbrev Xv:List C:=[.ite (.not (.call 6 [⇑1,↥1,(.glo 5 (.int 4))])) [.ret (.con (.bl false))] [],.ite (.or (.not (.call 0 [⇑0])) (.one (.not (.chn .LtE .LtE ↥1 ⇑0 (.bi .len [⇑1]))))) [.ret (.con (.bl false))] [],.ret (.bi .all [(.comp (.one 0) [2,3,4] (.seq ⇑1) [] (.call 9 [⇑0,⇑1,⇑2,⇑3]))])]
noncomputable def Yi:EV.Row:=⟨"is_want",top 22,["least","branches","counts","is_target","is_one"],["least","branches","counts","is_target","is_one"],⟨5,5,Xv⟩⟩
noncomputable abbrev jP:List C:=[.ite (.or (.not (.call 6 [⇑0,↥4,↥4])) (.or (.not (.cvl 2 [(.sub ⇑0 ↥0)])) (.one (.not (.bi (.isinst .str) [(.sub ⇑0 ↥1)]))))) [.ret (.con (.bl false))] [],.ite (.not (.call 5 [(.sub ⇑0 ↥2)])) [.ret (.con (.bl false))] [],.ite (.cmp .Eq (.sub ⇑0 ↥1) ↥"ask") [.ret (.cvl 3 [(.sub ⇑0 ↥3)])] [],.ite (.or (.cmp .NotEq (.sub ⇑0 ↥1) ↥"call") (.one (.cmp .NotIn (.sub ⇑0 ↥2) ⇑1))) [.ret (.con (.bl false))] [],.set (.one 4) (.sub ⇑1 (.sub ⇑0 ↥2)),.ret (.and (.call 6 [(.sub ⇑0 ↥3),⇑4,⇑4]) (.one (.bi .all [(.comp (.one 0) [3] (.seq (.sub ⇑0 ↥3)) [] (.cvl 1 [⇑0]))])))]
noncomputable def jg:EV.Row:=⟨"is_branch",top 23,["branch","counts","is_target","is_one"],["branch","counts","is_target","is_one","count"],⟨4,5,jP⟩⟩
noncomputable abbrev vO:List C:=[.ite (.not (.call 6 [⇑0,↥1,(.glo 6 (.int 6))])) [.ret (.con (.bl false))] [],.set (.one 1) (.dic false [] []),.forr (.one 2) (.seq ⇑0) [.ite (.or (.not (.call 11 [⇑2])) (.one (.cmp .In (.sub ⇑2 ↥0) ⇑1))) [.ret (.con (.bl false))] [],.stv 1 (.sub ⇑2 ↥0) (.sub ⇑2 ↥1)],.frz 1,.ret (.bi .all [(.comp (.one 0) [1] (.seq ⇑0) [] (.call 16 [(.sub ⇑0 ↥3),(.sub ⇑0 ↥2),⇑1]))])]
noncomputable def vp:EV.Row:=⟨"is_machines",top 34,["value"],["value","counts","machine"],⟨1,3,vO⟩⟩
noncomputable abbrev Xy:List C:=[.ite (.or (.not (.call 6 [⇑0,↥4,↥4])) (.one (.not (.call 5 [(.sub ⇑0 ↥0)])))) [.ret (.con (.bl false))] [],.ite (.or (.not (.call 12 [(.sub ⇑0 ↥2),(.bin .Add (.glo 7 (.int 32)) ↥1)])) (.one (.not (.call 12 [(.sub ⇑0 ↥1),(.bin .Add (.glo 8 (.int 3)) ↥1)])))) [.ret (.con (.bl false))] [],.ret (.cmp .LtE (.sub ⇑0 ↥1) (.sub ⇑0 ↥2))]
noncomputable def Yl:EV.Row:=⟨"is_head",top 35,["machine"],["machine"],⟨1,1,Xy⟩⟩
noncomputable abbrev qH:List C:=[.ret (.and (.call 0 [⇑0]) (.one (.chn .LtE .Lt ↥0 ⇑0 ⇑1)))]
noncomputable def kJ:EV.Row:=⟨"is_below",top 36,["one","bound"],["one","bound"],⟨2,2,qH⟩⟩
noncomputable abbrev yO:List C:=[.ret (.or (.cmp .Is ⇑0 (.con .non)) (.one (.call 12 [⇑0,⇑1])))]
noncomputable def yM:EV.Row:=⟨"is_below_or_none",top 37,["one","bound"],["one","bound"],⟨2,2,yO⟩⟩
noncomputable abbrev yZ:List C:=[.ret (.call 3 [⇑0,(.lam 40 0 [1])])]
noncomputable def yU:EV.Row:=⟨"is_slot_formula",top 38,["one","slots"],["one","slots"],⟨2,2,yZ⟩⟩
noncomputable abbrev wH:List C:=[.ite (.or (.not (.call 6 [⇑0,↥2,↥2])) (.one (.not (.bi (.isinst .str) [(.sub ⇑0 ↥0)])))) [.ret (.con (.bl false))] [],.ret (.and (.cmp .Eq (.sub ⇑0 ↥0) ↥"slot") (.one (.call 12 [(.sub ⇑0 ↥1),⇑1])))]
noncomputable def wB:EV.Row:=⟨"is_slot_leaf",top 39,["leaf","slots"],["leaf","slots"],⟨2,2,wH⟩⟩
noncomputable abbrev jQ:List C:=[.ite (.not (.call 6 [⇑0,↥1,(.glo 9 (.int 160))])) [.ret (.con (.bl false))] [],.ite (.not (.bi .all [(.comp (.one 0) [1,2,0] (.seq ⇑0) [] (.call 17 [⇑0,⇑1,(.bi .len [⇑3]),⇑2]))])) [.ret (.con (.bl false))] [],.ret (.not (.call 24 [⇑0]))]
noncomputable def jh:EV.Row:=⟨"are_rooms",top 40,["rooms","slots","counts"],["rooms","slots","counts"],⟨3,3,jQ⟩⟩
noncomputable abbrev Xx:List C:=[.ite (.or (.not (.call 6 [⇑0,↥4,↥4])) (.one (.not (.call 6 [(.sub ⇑0 ↥0),↥0,(.glo 10 (.int 60))])))) [.ret (.con (.bl false))] [],.ite (.not (.bi .all [(.comp (.one 0) [1] (.seq (.sub ⇑0 ↥0)) [] (.call 18 [⇑0,⇑1]))])) [.ret (.con (.bl false))] [],.ret (.and (.call 19 [(.sub ⇑0 ↥1),⇑1,⇑2,⇑3]) (.and (.call 21 [(.sub ⇑0 ↥2),⇑1,⇑2]) (.one (.call 22 [(.sub ⇑0 ↥3),⇑2]))))]
noncomputable def Yk:EV.Row:=⟨"is_room",top 41,["room","slots","many","counts"],["room","slots","many","counts"],⟨4,4,Xx⟩⟩
noncomputable abbrev ZQ:List C:=[.ite (.or (.not (.call 7 [⇑0])) (.one (.cmp .NotEq (.bi .len [⇑0]) (.mth .get2 (.glo 13 (.kdc [(("put":Str),(3:Int)),(("tell":Str),(2:Int)),(("mark":Str),(3:Int))])) [(.sub ⇑0 ↥0),↥0])))) [.ret (.con (.bl false))] [],.ite (.cmp .Eq (.sub ⇑0 ↥0) ↥"put") [.ret (.and (.call 12 [(.sub ⇑0 ↥1),⇑1]) (.one (.call 14 [(.sub ⇑0 ↥2),⇑1])))] [],.ite (.cmp .Eq (.sub ⇑0 ↥0) ↥"tell") [.ret (.call 14 [(.sub ⇑0 ↥1),⇑1])] [],.ret (.and (.bi (.isinst .str) [(.sub ⇑0 ↥1)]) (.and (.cmp .In (.sub ⇑0 ↥1) (.glo 12 (.ktp [(.str "do"),(.str "done"),(.str "undo"),(.str "undone")]))) (.one (.call 12 [(.sub ⇑0 ↥2),(.glo 11 (.int 24))]))))]
noncomputable def vm:EV.Row:=⟨"is_room_row",top 42,["row","slots"],["row","slots"],⟨2,2,ZQ⟩⟩
noncomputable abbrev XC:List C:=[.ite (.or (.not (.call 7 [⇑0])) (.one (.cmp .NotEq (.bi .len [⇑0]) (.mth .get2 (.glo 14 (.kdc [(("go":Str),(2:Int)),(("fork":Str),(4:Int)),(("round":Str),(2:Int)),(("give":Str),(2:Int)),(("fail":Str),(2:Int)),(("out":Str),(2:Int)),(("want":Str),(4:Int))])) [(.sub ⇑0 ↥0),↥0])))) [.ret (.con (.bl false))] [],.ite (.cmp .In (.sub ⇑0 ↥0) (.tup [↥"go",↥"round"])) [.ret (.call 12 [(.sub ⇑0 ↥1),⇑2])] [],.ite (.cmp .Eq (.sub ⇑0 ↥0) ↥"out") [.ret (.call 12 [(.sub ⇑0 ↥1),⇑1])] [],.ite (.cmp .Eq (.sub ⇑0 ↥0) ↥"want") [.ret (.and (.call 12 [(.sub ⇑0 ↥3),⇑2]) (.one (.call 20 [⇑0,⇑1,⇑3])))] [],.ite (.not (.call 14 [(.sub ⇑0 ↥1),⇑1])) [.ret (.con (.bl false))] [],.ret (.or (.cmp .NotEq (.sub ⇑0 ↥0) ↥"fork") (.one (.and (.call 12 [(.sub ⇑0 ↥2),⇑2]) (.one (.call 12 [(.sub ⇑0 ↥3),⇑2])))))]
noncomputable def Yn:EV.Row:=⟨"is_door",top 43,["door","slots","many","counts"],["door","slots","many","counts"],⟨4,4,XC⟩⟩
noncomputable abbrev wG:List C:=[.ret (.call 8 [(.sub ⇑0 ↥1),(.sub ⇑0 ↥2),⇑2,(.lam 41 1 [1]),(.lam 42 1 [1])])]
noncomputable def wA:EV.Row:=⟨"is_slot_want",top 44,["door","slots","counts"],["door","slots","counts"],⟨3,3,wG⟩⟩
noncomputable abbrev Xz:List C:=[.ite (.cmp .Is ⇑0 (.con .non)) [.ret (.con (.bl true))] [],.ret (.and (.call 6 [⇑0,↥2,↥2]) (.and (.call 13 [(.sub ⇑0 ↥0),⇑1]) (.one (.call 12 [(.sub ⇑0 ↥1),⇑2]))))]
noncomputable def Ym:EV.Row:=⟨"is_fall",top 45,["fall","slots","many"],["fall","slots","many"],⟨3,3,Xz⟩⟩
noncomputable abbrev Uc:List C:=[.ite (.bi (.isinst .str) [⇑0]) [.ret (.cmp .Eq ⇑0 ↥"shut")] [],.ret (.call 13 [⇑0,⇑1])]
noncomputable def Vk:EV.Row:=⟨"is_off",top 46,["off","many"],["off","many"],⟨2,2,Uc⟩⟩
noncomputable abbrev zz:List C:=[.set (.one 1) (.lst []),.set (.one 2) (.sub (.sub ⇑0 ↥1) ↥0),.ite (.cmp .Eq ⇑2 ↥"go") [.app 1 (.sub (.sub ⇑0 ↥1) ↥1)] [],.ite (.cmp .Eq ⇑2 ↥"fork") [.ext 1 (.slc (.sub ⇑0 ↥1) (some ↥2) none)] [],.ite (.and (.cmp .In ⇑2 (.tup [↥"fail",↥"round",↥"want",↥"out"])) (.one (.cmp .IsNot (.sub ⇑0 ↥2) (.con .non)))) [.app 1 (.sub (.sub ⇑0 ↥2) ↥1)] [],.ite (.and (.cmp .In ⇑2 (.tup [↥"want",↥"out"])) (.one (.call 0 [(.sub ⇑0 ↥3)]))) [.app 1 (.sub ⇑0 ↥3)] [],.ret ⇑1]
noncomputable def yF:EV.Row:=⟨"leads_in_the_hour",top 47,["room"],["room","leads","word"],⟨1,3,zz⟩⟩
noncomputable abbrev qI:List C:=[.set (.one 1) (.dic false [] []),.set (.one 2) (.con (.bl true)),.whl ⇑2 [.set (.one 2) (.con (.bl false)),.forr (.tup [3,4]) (.enum ⇑0) [.ite (.and (.cmp .NotIn ⇑3 ⇑1) (.one (.bi .all [(.comp (.one 0) [1] (.seq (.call 23 [⇑4])) [] (.cmp .In ⇑0 ⇑1))]))) [.stv 1 ⇑3 (.con (.bl true)),.set (.one 2) (.con (.bl true))] []]],.ret (.cmp .Lt (.bi .len [⇑1]) (.bi .len [⇑0]))]
noncomputable def kO:EV.Row:=⟨"has_ring",top 48,["rooms"],["rooms","ending","grown","number","room"],⟨1,5,qI⟩⟩
noncomputable abbrev uy:List C:=[.forr (.one 2) (.seq ⇑0) [.ite (.cmp .Eq (.sub ⇑2 ↥0) ⇑1) [.ret ⇑2] []],.rse 2]
noncomputable def uo:EV.Row:=⟨"machine_of",top 49,["machines","name"],["machines","name","machine"],⟨2,3,uy⟩⟩
noncomputable abbrev vP:List C:=[.set (.one 1) (.lst []),.set (.one 2) (.bi .abs [⇑0]),.ite (.cmp .GtE ⇑2 (.bin .Pow ↥10 ↥18)) [.whl (.and (.cmp .Gt ⇑2 ↥0) (.one (.cmp .Lt (.bi .len [⇑1]) ↥60))) [.app 1 (.bin .Mod ⇑2 (.bin .Pow ↥10 ↥6)),.set (.one 2) (.bin .FloorDiv ⇑2 (.bin .Pow ↥10 ↥6))],.ret ⇑1] [],.forr (.one 3) (.rng none ↥9) [.set (.one 4) (.bin .Mod (.bin .Add (.bin .Add (.bin .Mult ⇑0 ↥48271) (.bin .Mult ↥977 ⇑3)) ↥1) ↥2147483647),.set (.one 4) (.bin .Mod (.bin .Mult ⇑4 ⇑4) ↥2147483647),.app 1 (.bin .Mod (.bin .FloorDiv (.bin .Mod (.bin .Mult (.bin .Add ⇑4 (.bin .Mult ↥40692 (.bin .Add ⇑3 ↥3))) ↥69621) ↥2147483629) ↥8) (.bin .Pow ↥10 ↥6))],.ret ⇑1]
noncomputable def vq:EV.Row:=⟨"_law_row_of",top 51,["_law_cell"],["_law_cell","_law_found","_law_left","_law_k","_law_one"],⟨1,5,vP⟩⟩
noncomputable abbrev qJ:List C:=[.set (.one 1) (.lst []),.forr (.one 2) (.seq (.slc ⇑0 none (some ↥63))) [.set (.one 1) (.bin .Add ⇑1 (.call 26 [⇑2]))],.set (.one 3) (.bin .Mod (.bin .Add ↥7919 (.bin .Mult ↥40693 (.bi .sum [⇑1]))) ↥2147483629),.whl (.cmp .Lt (.bi .len [⇑1]) ↥40) [.set (.one 3) (.bin .Mod (.bin .Add (.bin .Mult ⇑3 ⇑3) ↥40692) ↥2147483629),.app 1 (.bin .Mod (.bin .FloorDiv ⇑3 ↥8) (.bin .Pow ↥10 ↥6))],.frz 1,.ret (.dic false [.inr "row",.inr "at"] [⇑1,↥0])]
noncomputable def kW:EV.Row:=⟨"_law_pot",top 52,["_law_script"],["_law_script","_law_found","_law_cell","_law_more"],⟨1,4,qJ⟩⟩
noncomputable abbrev jR:List C:=[.set (.one 2) (.sub ⇑0 ↥"row"),.set (.one 3) (.sub ⇑0 ↥"at"),.sti ⇑0 ↥"at" (.bin .Add ⇑3 ↥1),.set (.one 4) (.bin .FloorDiv ⇑3 (.bi .len [⇑2])),.ret (.bin .Mod (.bin .Add (.bin .FloorDiv (.sub ⇑2 (.bin .Mod ⇑3 (.bi .len [⇑2]))) ↥7) (.bin .Mult (.bin .Mult ↥31 ⇑4) ⇑4)) ⇑1)]
noncomputable def ji:EV.Row:=⟨"_law_take",top 53,["_law_pot_here","_law_many"],["_law_pot_here","_law_many","_law_row","_law_at","_law_turn"],⟨2,5,jR⟩⟩
noncomputable abbrev vQ:List C:=[.ret (.sub ⇑1 (.call 28 [⇑0,(.bi .len [⇑1])]))]
noncomputable def vA:EV.Row:=⟨"_law_one_of",top 54,["_law_pot_here","_law_some"],["_law_pot_here","_law_some"],⟨2,2,vQ⟩⟩
noncomputable abbrev wJ:List C:=[.set (.one 1) ↥"none",.trl [[0],[1,0],[2,0],[3,0],[4,0]] 0 0 2 [(.is 2),(.is 1),(.is 3),(.is 4),.ve] 3 1,.ret (.cmp .Eq ⇑1 (.lst [(.con (.bl true)),(.con (.bl false)),(.con (.bl false)),(.con (.bl false)),(.con (.bl true))]))]
noncomputable def wC:EV.Row:=⟨"_law_refused",top 55,["_law_do"],["_law_do","_law_found","_law_e","_law_kinds"],⟨1,4,wJ⟩⟩
noncomputable abbrev xW:List C:=[.set (.one 2) (.call 28 [⇑0,↥8]),.set (.one 3) (.call 28 [⇑0,⇑1]),.set (.one 4) (.call 28 [⇑0,⇑1]),.ret (.sub (.lst [(.tup [↥"go",⇑3]),(.tup [↥"fork",↥1,⇑3,⇑4]),(.tup [↥"round",⇑3]),(.tup [↥"give",↥0]),(.tup [↥"fail",↥2]),(.tup [↥"out",↥0]),(.tup [↥"want",↥1,(.tup [(.tup [(.con .non),↥"ask",↥"b",↥0])]),⇑3]),(.tup [↥"give",(.tup [↥"slot",↥0])])]) ⇑2)]
noncomputable def xP:EV.Row:=⟨"_law_any_door",top 56,["_law_pot_here","_law_rooms"],["_law_pot_here","_law_rooms","_law_way","_law_to","_law_next"],⟨2,5,xW⟩⟩
noncomputable abbrev xV:List C:=[.set (.one 2) (.call 31 [⇑0,⇑1]),.set (.one 3) (.call 29 [⇑0,(.lst [(.con .non),(.con .non),(.tup [(.con .non),(.call 28 [⇑0,⇑1])]),(.tup [↥0,(.call 28 [⇑0,⇑1])])])]),.set (.one 4) (.call 29 [⇑0,(.lst [(.con .non),↥"shut",(.con .non),(.call 28 [⇑0,⇑1])])]),.ret (.tup [(.tup []),⇑2,⇑3,⇑4])]
noncomputable def xO:EV.Row:=⟨"_law_any_room",top 57,["_law_pot_here","_law_rooms"],["_law_pot_here","_law_rooms","_law_door_here","_law_fall","_law_off"],⟨2,5,xV⟩⟩
noncomputable abbrev zK:List C:=[.set (.tup [1,2,3,4]) ⇑0,.set (.one 5) (.sub ⇑2 ↥0),.set (.one 6) (.comp (.one 0) [2] (.seq (.mth .get2 (.dic false [.inr "go",.inr "fork"] [(.lst [↥1]),(.lst [↥2,↥3])]) [⇑5,(.lst [])])) [] (.sub ⇑1 ⇑0)),.ite (.and (.cmp .In ⇑5 (.lst [↥"fail",↥"round",↥"want",↥"out"])) (.one (.cmp .IsNot ⇑3 (.con .non)))) [.app 6 (.sub ⇑3 ↥1)] [],.ite (.and (.cmp .In ⇑5 (.lst [↥"want",↥"out"])) (.one (.bi (.isinst .int) [⇑4]))) [.app 6 ⇑4] [],.ret ⇑6]
noncomputable def wD:EV.Row:=⟨"_law_at_once",top 58,["_law_room_here"],["_law_room_here","_law_rows_here","_law_door_here","_law_fall","_law_off","_law_word","_law_found"],⟨1,7,zK⟩⟩
noncomputable abbrev xf:List C:=[.set (.one 2) (.call 33 [(.sub ⇑0 ⇑1)]),.forr (.one 3) (.rng none (.bi .len [⇑0])) [.set (.one 4) (.lst []),.frz 2,.forr (.one 5) (.seq ⇑2) [.set (.one 4) (.bin .Add ⇑4 (.call 33 [(.sub ⇑0 ⇑5)]))],.set (.one 2) (.bi .sset [(.bin .Add ⇑2 ⇑4)])],.ret (.cmp .In ⇑1 ⇑2)]
noncomputable def yV:EV.Row:=⟨"_law_comes_back",top 59,["_law_rooms_here","_law_start"],["_law_rooms_here","_law_start","_law_met","_law_k","_law_more","_law_number"],⟨2,6,xf⟩⟩
noncomputable abbrev yz:List C:=[.set (.one 1) (.lst []),.forr (.one 2) (.seq (.slc (.lst [↥"ab",↥"a",↥"abc",↥"b"]) none (some (.bin .Add ↥1 (.call 28 [⇑0,↥4]))))) [.set (.one 3) (.bin .Add ↥1 (.call 28 [⇑0,↥12])),.app 1 (.tup [⇑2,(.call 28 [⇑0,↥2]),(.bin .Add ↥1 (.call 28 [⇑0,↥3])),(.bi .tuple [(.comp (.one 0) [0,3] (.rng none ⇑3) [] (.call 32 [⇑1,⇑2]))])])],.ret (.bi .tuple [⇑1])]
noncomputable def yx:EV.Row:=⟨"_law_some_machines",top 60,["_law_pot_here"],["_law_pot_here","_law_found","_law_name","_law_rooms"],⟨1,4,yz⟩⟩
noncomputable abbrev uA:List C:=[.forr (.one 1) (.seq ⇑0) [.ite (.cmp .NotEq (.call 25 [⇑0,(.sub ⇑1 ↥0)]) ⇑1) [.ret (.con (.bl false))] [],.ite (.cmp .NotEq (.callk 25 [1,0] [(.sub ⇑1 ↥0),⇑0]) ⇑1) [.ret (.con (.bl false))] [],.forr (.one 2) (.seq (.lst [(.bin .Add (.sub ⇑1 ↥0) ↥"x"),(.slc (.sub ⇑1 ↥0) none (some (.neg ↥1))),↥"q"])) [.ite (.and (.cmp .NotIn ⇑2 (.comp (.one 0) [] (.seq ⇑0) [] (.sub ⇑0 ↥0))) (.one (.not (.fgt (.call 30 [(.lam 43 2 [0,2])]))))) [.ret (.con (.bl false))] []]],.ret (.con (.bl true))]
noncomputable def ur:EV.Row:=⟨"_law_named",top 61,["_law_machines_here"],["_law_machines_here","_law_one","_law_name"],⟨1,3,uA⟩⟩
noncomputable abbrev jT:List C:=[.set (.one 3) (.tup [↥"want",↥1,(.tup [(.tup [(.con .non),↥"ask",↥"b",↥0])]),⇑2]),.ret (.call 29 [⇑0,(.lst [(.tup [(.tup []),(.tup [↥"go",⇑1]),(.tup [(.con .non),⇑2]),⇑2]),(.tup [(.tup []),(.tup [↥"fork",↥1,⇑2,⇑1]),(.con .non),⇑1]),(.tup [(.tup []),(.tup [↥"fail",↥2]),(.tup [↥0,⇑1]),⇑2]),(.tup [(.tup []),(.tup [↥"round",⇑2]),(.tup [(.con .non),⇑1]),(.con .non)]),(.tup [(.tup []),⇑3,(.tup [↥0,⇑1]),↥"shut"]),(.tup [(.tup []),⇑3,(.con .non),⇑1]),(.tup [(.tup []),(.tup [↥"out",↥0]),(.con .non),⇑1]),(.tup [(.tup []),(.tup [↥"out",↥0]),(.tup [(.con .non),⇑1]),(.con .non)])])])]
noncomputable def jj:EV.Row:=⟨"_law_link",top 62,["_law_pot_here","_law_to","_law_other"],["_law_pot_here","_law_to","_law_other","_law_want"],⟨3,4,jT⟩⟩
noncomputable abbrev yf:List C:=[.set (.one 2) (.call 29 [⇑0,(.lst [↥13,↥13,↥17,↥17,↥41,↥41,↥41,↥157])]),.set (.one 3) (.bin .Add ↥1 (.call 28 [⇑0,(.bin .Sub ⇑2 ↥1)])),.set (.one 4) (.comp (.one 0) [2,3] (.rng none ⇑2) [] (.bin .Mod (.bin .Add ↥3 (.bin .Mult ⇑0 ⇑2)) ⇑1)),.set (.one 5) (.bin .Mult (.lst [(.tup [(.tup []),(.tup [↥"give",↥0]),(.tup [(.con .non),↥0]),↥0])]) ⇑2),.forr (.one 6) (.rng none (.bin .Sub ⇑2 ↥1)) [.stv 5 (.sub ⇑4 ⇑6) (.call 37 [⇑0,(.sub ⇑4 (.bin .Add ⇑6 ↥1)),(.sub ⇑4 (.neg ↥1))])],.ite ⇑1 [.set (.one 7) (.sub ⇑4 (.call 28 [⇑0,⇑2])),.stv 5 (.sub ⇑4 (.neg ↥1)) (.call 37 [⇑0,⇑7,(.sub ⇑4 (.neg ↥1))])] [.ite (.cmp .Eq (.call 28 [⇑0,↥2]) ↥0) [.stv 5 (.sub ⇑4 (.neg ↥1)) (.tup [(.tup []),(.tup [↥"round",(.sub ⇑4 ↥0)]),(.con .non),(.sub ⇑4 ↥0)])] []],.ret (.tup [(.tup [↥"b",↥0,↥0,(.tup [(.tup [(.tup []),(.tup [↥"give",↥0]),(.con .non),(.con .non)])])]),(.tup [↥"ring",↥0,↥1,(.bi .tuple [⇑5])])])]
noncomputable def ut:EV.Row:=⟨"_law_chain",top 63,["_law_pot_here","_law_closed"],["_law_pot_here","_law_closed","_law_many","_law_step","_law_places","_law_rooms","_law_k","_law_back"],⟨2,8,yf⟩⟩
noncomputable abbrev zh1:List C:=[.set (.one 1) (.box (.call 27 [⇑0])),.forr (.one 2) (.rng none (.bin .Add ↥4 (.bi .min2 [↥16,(.bi .len [⇑0])]))) [.set (.one 3) (.call 35 [⇑1]),.set (.one 4) (.comp (.one 0) [] (.seq ⇑3) [(.bi .any [(.comp (.one 0) [0] (.rng none (.bi .len [(.sub ⇑0 ↥3)])) [] (.call 34 [(.sub ⇑1 ↥3),⇑0]))])] (.sub ⇑0 ↥0)),.set (.one 5) (.call 10 [⇑3]),.ite (.or (.not (.bi (.isinst .bool) [⇑5])) (.one (.cmp .NotEq ⇑5 (.cmp .Eq ⇑4 (.lst []))))) [.ret (.con (.bl false))] [],.ite (.and ⇑5 (.one (.not (.call 36 [⇑3])))) [.ret (.con (.bl false))] [],.ite (.cmp .Eq (.bin .Mod ⇑2 ↥8) ↥0) [.set (.one 6) (.cmp .Eq (.call 28 [⇑1,↥2]) ↥1),.set (.one 5) (.call 10 [(.call 38 [⇑1,⇑6])]),.ite (.or (.not (.bi (.isinst .bool) [⇑5])) (.one (.cmp .Eq ⇑5 ⇑6))) [.ret (.con (.bl false))] []] []],.ret (.con (.bl true))]
noncomputable def zdp:EV.Row:=⟨"law",top 64,["_law_script"],["_law_script","_law_pot_here","_law_round","_law_machines_here","_law_rings","_law_found","_law_closed"],⟨1,7,zh1⟩⟩
noncomputable def rs:List EV.Row:=[kI,jf,Yj,uq,yG,Yh,vh,je,Yi,jg,vp,Yl,kJ,yM,yU,wB,jh,Yk,vm,Yn,wA,Ym,Vk,yF,kO,uo,vq,kW,ji,vA,wC,xP,xO,wD,yV,yx,ur,jj,ut,zdp]
noncomputable def B:Tb:=⟨[("is_whole":Str),("is_number":Str),("is_sign":Str),("is_formula":Str),("is_formula_within":Str),("is_word":Str),("is_tuple_of":Str),("is_worded":Str),("is_want":Str),("is_branch":Str),("is_machines":Str),("is_head":Str),("is_below":Str),("is_below_or_none":Str),("is_slot_formula":Str),("is_slot_leaf":Str),("are_rooms":Str),("is_room":Str),("is_room_row":Str),("is_door":Str),("is_slot_want":Str),("is_fall":Str),("is_off":Str),("leads_in_the_hour":Str),("has_ring":Str),("machine_of":Str),("_law_row_of":Str),("_law_pot":Str),("_law_take":Str),("_law_one_of":Str),("_law_refused":Str),("_law_any_door":Str),("_law_any_room":Str),("_law_at_once":Str),("_law_comes_back":Str),("_law_some_machines":Str),("_law_named":Str),("_law_link":Str),("_law_chain":Str),("law":Str)],[(["one"]:List Str),(["one"]:List Str),(["one"]:List Str),(["one","is_name"]:List Str),(["one","is_name","deeper"]:List Str),(["one"]:List Str),(["one","least","most"]:List Str),(["one"]:List Str),(["least","branches","counts","is_target","is_one"]:List Str),(["branch","counts","is_target","is_one"]:List Str),(["value"]:List Str),(["machine"]:List Str),(["one","bound"]:List Str),(["one","bound"]:List Str),(["one","slots"]:List Str),(["leaf","slots"]:List Str),(["rooms","slots","counts"]:List Str),(["room","slots","many","counts"]:List Str),(["row","slots"]:List Str),(["door","slots","many","counts"]:List Str),(["door","slots","counts"]:List Str),(["fall","slots","many"]:List Str),(["off","many"]:List Str),(["room"]:List Str),(["rooms"]:List Str),(["machines","name"]:List Str),(["_law_cell"]:List Str),(["_law_script"]:List Str),(["_law_pot_here","_law_many"]:List Str),(["_law_pot_here","_law_some"]:List Str),(["_law_do"]:List Str),(["_law_pot_here","_law_rooms"]:List Str),(["_law_pot_here","_law_rooms"]:List Str),(["_law_room_here"]:List Str),(["_law_rooms_here","_law_start"]:List Str),(["_law_pot_here"]:List Str),(["_law_machines_here"]:List Str),(["_law_pot_here","_law_to","_law_other"]:List Str),(["_law_pot_here","_law_closed"]:List Str),(["_law_script"]:List Str)],[("MODULUS",(.int 1000000007)),("SIGNS",(.ktp [(.str "+"),(.str "-"),(.str "*"),(.str "<"),(.str "=")])),("DEEPEST_TRIPLE",(.int 3)),("LETTERS",(.str "abcdefghijklmnopqrstuvwxyz")),("LONGEST_WORD",(.int 8)),("MOST_BRANCHES",(.int 4)),("MOST_MACHINES",(.int 6)),("MOST_SLOTS",(.int 32)),("MOST_HANDED",(.int 3)),("MOST_ROOMS",(.int 160)),("MOST_ROWS",(.int 60)),("MOST_DOS",(.int 24)),("MARKS",(.ktp [(.str "do"),(.str "done"),(.str "undo"),(.str "undone")])),("ROW_PARTS",(.kdc [(("put":Str),(3:Int)),(("tell":Str),(2:Int)),(("mark":Str),(3:Int))])),("DOOR_PARTS",(.kdc [(("go":Str),(2:Int)),(("fork":Str),(4:Int)),(("round":Str),(2:Int)),(("give":Str),(2:Int)),(("fail":Str),(2:Int)),(("out":Str),(2:Int)),(("want":Str),(4:Int))]))],["ValueError","abs","all","any","bool","enumerate","int","isinstance","len","min","range","set","sorted","str","sum","tuple"],[(25,["name","machines"],[1,0])],[("ErrandError",[0]),("NoText",[1,0]),("NoErrand",[2,0]),("TooMany",[3,0]),("NoRow",[4,0])],[],[⟨["leaf"],["slots"],"is_slot_leaf",15⟩,⟨["target"],["slots"],"is_below_or_none",13⟩,⟨["one"],["slots"],"is_slot_formula",14⟩,⟨[],["_law_machines_here","_law_name"],"machine_of",25⟩],["is_slot_formula","is_slot_want","_law_named"],["_law_named"]⟩
noncomputable def yJ:PySem.Program:={ ϳ with main:={ ϳ.main with body:=(((((ϳ.main.body).eraseIdx 50).eraseIdx 24).eraseIdx 15).eraseIdx 6).eraseIdx 0 } }
theorem Wm (w:dU):(W.openEnds lK ς.prog (dN w "special-get-raises" false) 4000).map (λs=>W.openSeen yJ [("ROW_PARTS":Str),("DOOR_PARTS":Str)] (oF ς.prog.main.body) (λs=>W.xlAt yJ [] s&&W.recOk [] s) true s)=some (W.openGood yJ [("ROW_PARTS":Str),("DOOR_PARTS":Str)]):=by kernel_rfl
theorem Wl (w:dU):(W.openEnds lK ς.prog (dN w "special-get-raises" false) 4000).map (λs=>EV.JT (EV.frOf s.heap 400) B rs)=some (EV.Uj B rs):=by kernel_rfl
theorem UW (w:dU):(W.openEnds lK ς.prog (dN w "special-get-raises" true) 4000).map (λs=>W.openSeen yJ [("ROW_PARTS":Str),("DOOR_PARTS":Str)] (oF ς.prog.main.body) (λs=>W.xlAt yJ [] s&&W.recOk [] s) true s)=some (W.openGood yJ [("ROW_PARTS":Str),("DOOR_PARTS":Str)]):=by kernel_rfl
theorem UV (w:dU):(W.openEnds lK ς.prog (dN w "special-get-raises" true) 4000).map (λs=>EV.JT (EV.frOf s.heap 400) B rs)=some (EV.Uj B rs):=by kernel_rfl
noncomputable def ux:PySem.DefRec:=EV.drOf (top 64)
theorem zjB:ς.wellSaid=true:=by kernel_rfl
theorem zjH:W.defOf yJ ς.name=some (ux,[]):=by kernel_rfl
theorem zjG:ς.prog.theDef ς.name=some (ux.params,ux.body,ux.scope):=by kernel_rfl
theorem zjF:W.kwWritten? ux.params.kwonlyargs ux.params.kw_defaults=some []:=by kernel_rfl
theorem zjC:(W.chainsOk yJ&&W.opensWell ς.prog&&(W.frees ς.row.toRowW&&ς.row.within.isEmpty))=true:=by kernel_rfl
theorem zjE:ux.params.defaults=[]:=by kernel_rfl
theorem zjD:ς.prog.bare:=⟨rfl,rfl,rfl,rfl,rfl,by decide +kernel⟩
theorem zjA:ς.row.toRowW.promised:=by w_witness2
end Q20
namespace L2
open PySem PySem.Spec PyProof.Rows
noncomputable def U0:Key->δ->Bool
 | .inl k,v=>fY k v
 | .inr x,v=>nJ x v
noncomputable def keyH (w:ϓ):Key->Int
 | .inl k=>hashInt k
 | .inr x=>hashStr w x
theorem zN:∀ {k:Key}{v:δ},U0 k v=true->(∃ i t,k=dD i/\v=Ϟ i t)\/(∃ x t,k=cF x/\v=bB x t)
 | .inl i,v,h=>by obtain ⟨t,e⟩:=δ.isInt_shape (k:=i) (v:=v) h;exact .inl ⟨i,t,rfl,e⟩
 | .inr x,v,h=>by obtain ⟨t,e⟩:=δ.isStrOf_shape (x:=x) (v:=v) h;exact .inr ⟨x,t,rfl,e⟩
theorem Qs (i:Int) (t:Tok):U0 (.inl i) (.int i t)=true:=by simp [U0,fY]
theorem Qq (x:Str) (t:Tok):U0 (.inr x) (.str x t)=true:=by simp [U0,nJ]
theorem zg4 (a b:Int):decide ((dD a:Key)=dD b)=(a==b):=by
 by_cases e:a=b
 ·subst e;simp
 ·have h:¬ (dD a:Key)=dD b:=λq=>e (dD.inj q)
  rw [decide_eq_false h];exact (beq_eq_false_iff_ne.mpr e).symm
theorem zg1 (a b:Str):decide ((cF a:Key)=cF b)=decide (a=b):=by
 by_cases e:a=b
 ·subst e;simp
 ·have h:¬ (cF a:Key)=cF b:=λq=>e (cF.inj q)
  rw [decide_eq_false h,decide_eq_false e]
theorem zg3 (a:Int) (b:Str):decide ((dD a:Key)=cF b)=false:=decide_eq_false (λq=>nomatch q)
theorem zg2 (a:Str) (b:Int):decide ((cF a:Key)=dD b)=false:=decide_eq_false (λq=>nomatch q)
noncomputable def zW (prog:Τ) (w:ϓ):PySem.KeyKind prog w Key where
 is:=U0
 hash:=keyH w
 inj:=λv a b ha hb=>by
  rcases zN ha with ⟨i,t,rfl,rfl⟩ | ⟨x,t,rfl,rfl⟩
  ·rcases zN hb with ⟨j,u,rfl,e⟩ | ⟨y,u,rfl,e⟩
   ·injection e with e1 _;rw [e1]
   ·exact nomatch e
  ·rcases zN hb with ⟨j,u,rfl,e⟩ | ⟨y,u,rfl,e⟩
   ·exact nomatch e
   ·injection e with e1 _;rw [e1]
 byValue:=λk v h=>by rcases zN h with ⟨i,t,rfl,rfl⟩ | ⟨x,t,rfl,rfl⟩ <;> rfl
 pyHash:=λhv h=>by
  rcases zN hv with ⟨i,t,rfl,rfl⟩ | ⟨x,t,rfl,rfl⟩
  ·exact wpAny_pyHash_int h
  ·exact wpAny_pyHash_str h
 eqBool:=λhu hv h=>by
  rcases zN hu with ⟨i,t,rfl,rfl⟩ | ⟨x,t,rfl,rfl⟩
  ·rcases zN hv with ⟨j,u,rfl,rfl⟩ | ⟨y,u,rfl,rfl⟩
   ·rw [zg4] at h;exact wpAny_eqBool_int h
   ·rw [zg3] at h;exact nW i t y u _ _ _ _ h
  ·rcases zN hv with ⟨j,u,rfl,rfl⟩ | ⟨y,u,rfl,rfl⟩
   ·rw [zg2] at h;exact nU x t j u _ _ _ _ h
   ·rw [zg1] at h;exact wpAny_eqBool_str h
 «strs»:=λk x t v h=>by
  rcases zN h with ⟨i,u,rfl,e⟩ | ⟨y,u,rfl,e⟩
  ·exact nomatch e
  ·injection e with e1 _
   subst e1;cases v <;> rfl
theorem Wh (prog:Τ) (w:ϓ) (i:Int) (t:Tok):(zW prog w).is (.inl i) (.int i t)=true:=Qs i t
theorem Wg (prog:Τ) (w:ϓ) (x:Str) (t:Tok):(zW prog w).is (.inr x) (.str x t)=true:=Qq x t
inductive V where
 | non | bl (b:Bool) | int (i:Int) | str (x:Str) | byt (b:Array UInt8) | flt (b:UInt64) | ref (a:Addr) | ty (n:String)
 deriving DecidableEq
def RelV:V->δ->Prop
 | .non,u=>u=Κ
 | .bl b,u=>u=ϒ b
 | .int i,u=>∃ t,u=Ϟ i t
 | .str x,u=>∃ t,u=bB x t
 | .byt b,u=>∃ t,u=δ.bytes b t
 | .flt b,u=>∃ t,u=δ.float b t
 | .ref a,u=>u=Ι a
 | .ty n,u=>u=ϗ n
abbrev Vals:List V->List δ->Prop:=fc RelV
theorem Vals.length {xs:List V}{us:List δ}(r:Vals xs us):xs.length=us.length:=nj r
theorem Vals.get:∀ {xs:List V}{us:List δ}{i:Nat}{x:V},Vals xs us->xs[i]?=some x->∃ u,us[i]?=some u/\RelV x u
 | _,_,_,_,.nil,e=>by simp at e
 | _,_,0,_,.cons r _,e=>by simp at e;subst e;exact ⟨_,rfl,r⟩
 | _,_,i+1,x,.cons _ t,e=>by obtain ⟨u,h1,h2⟩:=Vals.get (i:=i) (x:=x) t (by simpa using e);exact ⟨u,by simpa using h1,h2⟩
theorem Vals.set {x:V}{u:δ}(r:RelV x u):∀ {xs:List V}{us:List δ}(i:Nat),Vals xs us->Vals (xs.set i x) (us.set i u)
 | _,_,_,.nil=>.nil
 | _,_,0,.cons _ t=>.cons r t
 | _,_,i+1,.cons q t=>.cons q (Vals.set r i t)
theorem Vals.append:∀ {xs ys:List V}{us ws:List δ},Vals xs us->Vals ys ws->Vals (xs++ys) (us++ws)
 | _,_,_,_,.nil,s=>s
 | _,_,_,_,.cons r t,s=>.cons r (Vals.append t s)
theorem Vals.take:∀ {xs:List V}{us:List δ}(n:Nat),Vals xs us->Vals (xs.take n) (us.take n)
 | _,_,0,_=>.nil
 | _,_,_+1,.nil=>.nil
 | _,_,n+1,.cons r t=>.cons r (Vals.take n t)
theorem Vals.drop:∀ {xs:List V}{us:List δ}(n:Nat),Vals xs us->Vals (xs.drop n) (us.drop n)
 | _,_,0,r=>r
 | _,_,_+1,.nil=>.nil
 | _,_,n+1,.cons _ t=>Vals.drop n t
def RelO:Option V->Option δ->Prop
 | some v,some u=>RelV v u
 | none,none=>True
 | _,_=>False
def KV {κ:Type}:List (κ×V)->List (κ×δ)->Prop:=fc λ(p:κ×V) (q:κ×δ)=>p.1=q.1/\RelV p.2 q.2
noncomputable def kV:Key->V
 | .inl i=>.int i
 | .inr x=>.str x
inductive HO where
 | lst (xs:List V)
 | tup (xs:List V)
 | dK (kvs:List (Key×V)) | dT (kvs:List (List Key×V))
 | set (S:Int->Bool) (n:Nat)
 | ins (C dx:Addr) (fs:List (Str×V))
 | own (x:Addr)
 | xd (fs:List (Str×V))
 | met (f x:Addr)
 | rng (lo hi:Int)
 | frz (o:Obj) (u:HO)
 | tbl (ps:Array δ)
 | ext (φ:Heap->Prop)
abbrev Hp:=Addr->Option HO
noncomputable def upd (H:Hp) (a:Addr) (o:HO):Hp:=λb=>if b=a then some o else H b
theorem zr {H:Hp}{a:Addr}{o:HO}:upd H a o a=some o:=by unfold upd;rw [if_pos rfl]
theorem zc {H:Hp}{a b:Addr}{o:HO}(h:b≠a):upd H a o b=H b:=by unfold upd;rw [if_neg h]
theorem zjo {H:Hp}{a b:Addr}{o u:HO}(h:H a=some o) (h':H b=some u) (d:o≠u):a≠b:=by intro e;subst e;rw [h] at h';exact d (ϕ h')
theorem zq {H:Hp}{a b:Addr}{o:HO}(h:H a=some o) (h':H b=none):a≠b:=by intro e;subst e;rw [h] at h';cases h'
section
variable (P:Τ) (w:ϓ)
def zY (H:Hp) (h:Heap) (a:Addr):HO->Prop
 | .lst xs=>xs.length<=sizeLine/\∃ (its:List δ) (n:Nat),Vals xs its/\h.get? a=some { cls:=.type "list",data:=.seq its.toArray n }
 | .tup xs=>xs.length<=sizeLine/\∃ its:List δ,Vals xs its/\IsTup h a its.toArray
 | .dK kvs=>kvs.length<=sizeLine/\(a==dM)=false/\∃ vs,KV kvs vs/\h.DictOf (zW P w) a vs
 | .dT kvs=>kvs.length<=sizeLine/\(a==dM)=false/\∃ xs:List (List Key×Addr×δ),
   fc (λ(p:List Key×V) (q:List Key×Addr×δ)=>p.1=q.1/\H q.2.1=some (.tup (p.1.map kV))/\RelV p.2 q.2.2) kvs xs /\
   ∃ o es ep,h.get? a=some o/\o.ExactDict/\o.data=.dict es ep/\es.toList=xs.map (entryOfKey (lJ (zW P w)))/\(xs.map (·.1)).Nodup
 | .set S n=>h.SetOf (intKind P w) a S n
 | .ins C dx fs=>H dx=some (.own a)/\fs.length<=1000/\dx≠a/\h.get? a=some (W.instObj C dx) /\
   ∃ mA,h.Ns1 dx mA/\(∀ f,RelO (fs.lookup f) (mA f))/\PySem.Within mA (fs.map (·.1))
 | .own _=>∃ o,h.get? a=some o
 | .xd fs=>∃ mA,h.Ns1 a mA/\∀ f,RelO (fs.lookup f) (mA f)
 | .rng lo hi=>∃ t u v,h.get? a=some { cls:=.type "range",data:=.fields #[.int lo t,.int hi u,.int 1 v] }
 | .frz o u=>h.get? a=some o/\zY H h a u
 | .tbl ps=>h.get? a=some { cls:=.none,data:=.fields ps }
 | .met f x=>h.get? a=some (W.methodObj (.ref f) (.ref x))
 | .ext φ=>φ h/\(∃ o,h.get? a=some o)/\∀ h1 h2:Heap,φ h1->(∀ o,h1.get? a=some o->h2.get? a=some o)->φ h2
def HOk (H:Hp) (h:Heap):Prop:=∀ a o,H a=some o->zY P w H h a o
end
section
variable {P:Τ}{w:ϓ}{H H':Hp}{h h':Heap}{a:Addr}{o:HO}
theorem zY.lt (x:zY P w H h a o):a < h.objs.size:=by
 cases o with
 | lst xs=>obtain ⟨_,_,_,_,e⟩:=x;exact Δ e
 | tup xs=>obtain ⟨_,_,_,p⟩:=x;exact p.lt
 | dK kvs=>obtain ⟨_,_,_,_,o,_,_,e,_⟩:=x;exact Δ e
 | dT kvs=>obtain ⟨_,_,_,_,o,_,_,e,_⟩:=x;exact Δ e
 | set S n=>obtain ⟨o,_,_,_,e,_⟩:=x;exact Δ e
 | ins C dx fs=>obtain ⟨_,_,_,e,_⟩:=x;exact Δ e
 | own y=>obtain ⟨_,e⟩:=x;exact Δ e
 | xd fs=>obtain ⟨_,⟨_,_,_,e,_⟩,_⟩:=x;exact Δ e
 | rng lo hi=>obtain ⟨_,_,_,e⟩:=x;exact Δ e
 | frz ob u=>obtain ⟨e,_⟩:=x;exact Δ e
 | tbl ps=>exact Δ (show h.get? a=some _ from x)
 | met f y=>exact Δ (show h.get? a=some _ from x)
 | ext φ=>obtain ⟨_,⟨_,e⟩,_⟩:=x;exact Δ e
theorem fc.mapP {α β:Type}{F G:α->β->Prop}:∀ {l₁:List α}{l₂:List β},fc F l₁ l₂->(∀ a b,F a b->G a b)->fc G l₁ l₂
 | _,_,.nil,_=>.nil
 | _,_,.cons r t,f=>.cons (f _ _ r) (fc.mapP t f)
theorem zY.stay (x:zY P w H h a o) (k:∀ b u,(b=a\/H b=some (.own a))->h.get? b=some u->h'.get? b=some u)
  (ho:∀ b,H b=some (.own a)->H' b=some (.own a)) (ht:∀ b xs,H b=some (.tup xs)->H' b=some (.tup xs)):zY P w H' h' a o:=by
 induction o with
 | lst xs=>obtain ⟨z,its,n,r,e⟩:=x;exact ⟨z,its,n,r,k _ _ (.inl rfl) e⟩
 | tup xs=>obtain ⟨z,its,r,ob,e,c⟩:=x;exact ⟨z,its,r,ob,k _ _ (.inl rfl) e,c⟩
 | dK kvs=>obtain ⟨z,y,vs,r,ob,es,ep,e,c⟩:=x;exact ⟨z,y,vs,r,ob,es,ep,k _ _ (.inl rfl) e,c⟩
 | dT kvs=>
  obtain ⟨z,y,xs,r,ob,es,ep,e,c⟩:=x;exact ⟨z,y,xs,fc.mapP r λp q z=>⟨z.1,ht _ _ z.2.1,z.2.2⟩,ob,es,ep,k _ _ (.inl rfl) e,c⟩
 | set S n=>obtain ⟨ob,es,ep,t,e,c⟩:=x;exact ⟨ob,es,ep,t,k _ _ (.inl rfl) e,c⟩
 | ins C dx fs=>
  obtain ⟨d,z,ne,e,mA,⟨od,es,ep,e2,c⟩,r⟩:=x;exact ⟨ho _ d,z,ne,k _ _ (.inl rfl) e,mA,⟨od,es,ep,k _ _ (.inr d) e2,c⟩,r⟩
 | own y=>obtain ⟨ob,e⟩:=x;exact ⟨ob,k _ _ (.inl rfl) e⟩
 | xd fs=>obtain ⟨mA,⟨od,es,ep,e,c⟩,r⟩:=x;exact ⟨mA,⟨od,es,ep,k _ _ (.inl rfl) e,c⟩,r⟩
 | rng lo hi=>obtain ⟨t,u,v,e⟩:=x;exact ⟨t,u,v,k _ _ (.inl rfl) e⟩
 | frz ob u ih=>obtain ⟨e,q⟩:=x;exact ⟨k _ _ (.inl rfl) e,ih q⟩
 | tbl ps=>
  have e:h.get? a=some { cls:=.none,data:=.fields ps }:=x;show h'.get? a=some { cls:=.none,data:=.fields ps }
  exact k a _ (.inl rfl) e
 | met f y=>
  have e:h.get? a=some (W.methodObj (.ref f) (.ref y)):=x;show h'.get? a=some (W.methodObj (.ref f) (.ref y))
  exact k a _ (.inl rfl) e
 | ext φ=>obtain ⟨p,⟨o,e⟩,st⟩:=x;exact ⟨st _ _ p λo q=>k _ _ (.inl rfl) q,⟨o,k _ _ (.inl rfl) e⟩,st⟩
theorem HOk.lt (x:HOk P w H h) (e:H a=some o):a < h.objs.size:=(x a o e).lt
theorem HOk.fresh (x:HOk P w H h) (e:h.objs.size<=a):H a=none:=by
 cases q:H a with
 | none=>rfl
 | some u=>exact absurd (Ω (x.lt q) e) (cA _)
theorem HOk.kept (x:HOk P w H h) (k:∀ b u,h.get? b=some u->h'.get? b=some u):HOk P w H h':=λa o e=>
 (x a o e).stay (λb u _ q=>k b u q) (λ_ q=>q) λ_ _ q=>q
theorem HOk.laid (x:HOk P w H h) (k:∀ b u,h.get? b=some u->h'.get? b=some u) (hp:h.objs.size<=a) (new:zY P w (upd H a o) h' a o):HOk P w (upd H a o) h':=λb u e=>by
 have hn:=x.fresh hp;by_cases hb:b=a
 ·subst hb;rw [zr] at e;cases e;exact new
 ·rw [zc hb] at e;exact (x b u e).stay (λc v _ q=>k c v q) (λc q=>by rw [zc (zq q hn)];exact q) λc xs q=>by rw [zc (zq q hn)];exact q
end
def Rd (H:Hp) (a:Addr) (u:HO):Prop:=H a=some u\/∃ o,H a=some (.frz o u)
theorem Rd.ok {P:Τ}{w:ϓ}{H:Hp}{h:Heap}{a:Addr}{u:HO}(r:Rd H a u) (x:HOk P w H h):zY P w H h a u:=by
 rcases r with r | ⟨o,r⟩
 ·exact x a u r
 ·obtain ⟨_,q⟩:=x a _ r;exact q
def Mut:Option HO->Prop
 | some (.lst _)=>True
 | some (.dK _)=>True
 | some (.dT _)=>True
 | some (.set _ _)=>True
 | some (.ins _ _ _)=>True
 | some (.ext _)=>True
 | _=>False
section
variable {P:Τ}{w:ϓ}{H:Hp}{h h':Heap}{x e:Addr}{o':HO}
theorem HOk.write (ok:HOk P w H h) (mu:Mut (H x)) (he:e=x\/H e=some (.own x)) (k:∀ b u,b≠e->h.get? b=some u->h'.get? b=some u) (heo:∃ u,h'.get? e=some u)
  (new:zY P w (upd H x o') h' x o'):HOk P w (upd H x o') h':=λb u q=>by
 have nown:∀ c y,H c=some (.own y)->c≠x:=λc y r z=>by subst z;rw [r] at mu;exact mu
 have ntup:∀ c xs,H c=some (.tup xs)->c≠x:=λc xs r z=>by subst z;rw [r] at mu;exact mu
 by_cases hb:b=x
 ·subst hb;rw [zr] at q;cases q;exact new
 ·rw [zc hb] at q;by_cases hbe:b=e
  ·have q':H b=some (.own x):=by
    rcases he with z | z
    ·exact absurd (hbe.trans z) hb
    ·rw [hbe];exact z
   rw [q] at q';cases q';obtain ⟨v,hv⟩:=heo;exact ⟨v,by rw [hbe];exact hv⟩
  ·refine (ok b u q).stay (λc v hc r=>k c v ?_ r) (λc r=>by rw [zc (nown c b r)];exact r) λc xs r=>by rw [zc (ntup c xs r)];exact r
   rcases hc with rfl | hc
   ·exact hbe
   ·rintro rfl;rcases he with z | z
    ·exact nown c b hc z
    ·rw [hc] at z;cases z;exact hb rfl
end
structure Un (fs ex:List Addr) (H H':Hp) (h h':Heap):Prop where
 keep:∀ b o,h.get? b=some o->H b=none->b ∉ fs->b ∉ ex->h'.get? b=some o
 slot:∀ b o,h.get? b=some o->H b=none->b∈fs->b ∉ ex->∃ sl,h'.get? b=some { o with slots:=sl }
 free:∀ b o,h.get? b=some o->H b=none->b ∉ ex->H' b=none
 there:∀ b o,h.get? b=some o->b ∉ ex->∃ o',h'.get? b=some o'
 tups:∀ b xs,H b=some (.tup xs)->H' b=some (.tup xs)
 frzs:∀ b o u,H b=some (.frz o u)->H' b=some (.frz o u)
 tbls:∀ b ps,H b=some (.tbl ps)->∃ more,H' b=some (.tbl (ps++more))
section
variable {fs fs' ex ex':List Addr}{H H1 H2:Hp}{h h1 h2 h':Heap}{a x e:Addr}{o:HO}
theorem Un.any (u:Un fs ex H H1 h h1) {b:Addr}{ob:Obj}(q:h.get? b=some ob) (n:H b=none) (hx:b ∉ ex):∃ sl,h1.get? b=some { ob with slots:=sl }:=by
 by_cases hb:b∈fs
 ·exact u.slot b ob q n hb hx
 ·exact ⟨ob.slots,u.keep b ob q n hb hx⟩
theorem Un.trans (a:Un fs ex H H1 h h1) (b:Un fs ex H1 H2 h1 h2):Un fs ex H H2 h h2 where
 keep:=λc ob q n hc hx=>b.keep c ob (a.keep c ob q n hc hx) (a.free c ob q n hx) hc hx
 slot:=λc ob q n hc hx=>by obtain ⟨sl,e1⟩:=a.slot c ob q n hc hx;obtain ⟨sl',e2⟩:=b.slot c _ e1 (a.free c ob q n hx) hc hx;exact ⟨sl',e2⟩
 free:=λc ob q n hx=>by obtain ⟨o',e1⟩:=a.there c ob q hx;exact b.free c o' e1 (a.free c ob q n hx) hx
 there:=λc ob q hx=>by obtain ⟨o',e1⟩:=a.there c ob q hx;exact b.there c o' e1 hx
 tups:=λc xs q=>b.tups c xs (a.tups c xs q)
 frzs:=λc ob xs q=>b.frzs c ob xs (a.frzs c ob xs q)
 tbls:=λc ps q=>by obtain ⟨m1,e1⟩:=a.tbls c ps q;obtain ⟨m2,e2⟩:=b.tbls c _ e1;exact ⟨m1++m2,by rw [e2,pF]⟩
theorem Un.kept (k:∀ b u,h.get? b=some u->h'.get? b=some u):Un fs ex H H h h':=
 ⟨λb ob q _ _ _=>k b ob q,λb ob q _ _ _=>⟨ob.slots,k b ob q⟩,λ_ _ _ n _=>n,λb ob q _=>⟨ob,k b ob q⟩,λ_ _ q=>q,λ_ _ _ q=>q,λ_ ps q=>⟨#[],by rw [q];simp⟩⟩
theorem Un.refl:Un fs ex H H h h:=Un.kept λ_ _ q=>q
theorem Un.laid (k:∀ b u,h.get? b=some u->h'.get? b=some u) (hp:h.objs.size<=a) (hn:H a=none):Un fs ex H (upd H a o) h h' where
 keep:=λb u q _ _ _=>k b u q
 slot:=λb u q _ _ _=>⟨u.slots,k b u q⟩
 free:=λb u q n _=>by rw [zc (Φ (Ω (Δ q) hp))];exact n
 there:=λb u q _=>⟨u,k b u q⟩
 tups:=λb xs q=>by rw [zc (zq q hn)];exact q
 frzs:=λb u xs q=>by rw [zc (zq q hn)];exact q
 tbls:=λb ps q=>⟨#[],by rw [zc (zq q hn),q];simp⟩
theorem Un.write (mu:Mut (H x)) (he:e=x\/H e=some (.own x)) (k:∀ b u,b≠e->h.get? b=some u->h'.get? b=some u) (heo:∃ u,h'.get? e=some u):Un fs ex H (upd H x o) h h':=by
 have hx:∀ b,H b=none->b≠x:=λb n z=>by subst z;rw [n] at mu;exact mu
 have hb:∀ b,H b=none->b≠e:=λb n z=>by
  subst z;rcases he with r | r
  ·exact hx b n r
  ·rw [n] at r;cases r
 have hm:∀ b u,H b=some u->¬ Mut (some u)->b≠x:=λb u q nm z=>by subst z;rw [q] at mu;exact nm mu
 refine ⟨λb u q n _ _=>k b u (hb b n) q,λb u q n _ _=>⟨u.slots,k b u (hb b n) q⟩,λb u q n _=>by rw [zc (hx b n)];exact n,λb u q _=>?_,
  λb xs q=>by rw [zc (hm b _ q λz=>z)];exact q,λb u xs q=>by rw [zc (hm b _ q λz=>z)];exact q,λb ps q=>⟨#[],by rw [zc (hm b _ q λz=>z),q];simp⟩⟩
 by_cases hbe:b=e
 ·subst hbe;exact heo
 ·exact ⟨u,k b u hbe q⟩
end
noncomputable def trk (h:Heap) (H:Hp):List Addr:=(ό h.objs.size).filter λa=>(H a).isSome
noncomputable def hidT (h:Heap) (H:Hp):Heap:=W.hideAll h (trk h H)
theorem QV (h:Heap) (H:Hp):(hidT h H).objs.size=h.objs.size:=W.hideAll_size _ _
theorem VP {h:Heap}{H:Hp}{b:Addr}{o:Obj}(e:h.get? b=some o) (n:H b=none):(hidT h H).get? b=some o:=
 W.hideAll_get _ e λhm=>by have q:(H b).isSome=true:=(mR.mp hm).2;rw [n] at q;simp at q
theorem zdP {h:Heap}{H:Hp}{b:Addr}{o:Obj}(e:(hidT h H).get? b=some o):h.get? b=some o/\H b=none:=by
 have e':h.get? b=some o:=W.of_hideAll (trk h H) e;refine ⟨e',?_⟩;cases q:H b with
 | none=>rfl
 | some x=>
  have hm:b∈trk h H:=mR.mpr ⟨Ϝ.mpr (Δ e'),by simp [q]⟩;have z:(hidT h H).get? b=none:=W.hideAll_none (trk h H) hm;rw [z] at e;cases e
noncomputable def ze0 (g h:Heap) (L:Addr):List (Addr×Obj):=(ό h.objs.size).filterMap λa=>if a=L\/(g.get? a).isSome=true then none else (h.get? a).map λo=>(a,o)
noncomputable def rest (g h:Heap) (L d:Addr):List (Addr×Obj):=(ze0 g h L).filter λp=>decide (p.1≠d)
structure Mod (K:W.Frag) (mg:Str->Option δ) (base:Heap):Prop where
 kin:K.In base
 glob:base.Ns Ψ mg
 blt:∃ mb,base.Ns gC mb/\∀ x:Str,x≠"__name__"->mb x=cZ x
 nolimit:base.NoLimit
structure Cx where
 prog:Τ
 w:ϓ
 K:W.Frag
 mg:Str->Option δ
 base:Heap
 A:ϙ
 N:List Str
 sy:μ
 Hz:Hp
 env:Env
 outer:List Env
 stack:List Env
 ex:List Addr
 fn:Str->Bool
 calm:Bool
 pn:List (Addr×Obj)
 xe:δ->μ->Prop
noncomputable def frs (l:List Env):List Addr:=l.filterMap (·.frame)
noncomputable abbrev Cx.fs (X:Cx):List Addr:=frs X.outer
def Vis (sc:aM) (x:Str):Prop:=sc.names.lookup x=some .local\/sc.names.lookup x=some .cell\/sc.names.lookup x=some .free
def Loc (sc:aM) (x:Str):Prop:=sc.names.lookup x=some .local\/sc.names.lookup x=some .cell
def Look (env:Env) (h:Heap) (m:Str->Option δ) (x:Str) (u:δ):Prop:=
 (env.kindOf x=some .local/\m x=some u)\/((env.kindOf x=some .cell\/env.kindOf x=some .free)/\∃ c,env.cells.lookup x=some c/\h.IsCell c (some u))
structure Cx.Ok (X:Cx):Prop where
 mod:Mod X.K X.mg X.base
 kind:X.env.scope.kind=.function
 glob:X.env.globals=Ψ
 blt:X.env.builtins=gC
 above:X.sy.heap.objs.size<=X.env.locals
 inj:∀ x y c,X.env.cells.lookup x=some c->X.env.cells.lookup y=some c->x=y
 has:∀ x,(X.env.kindOf x=some .cell\/X.env.kindOf x=some .free)->∃ c,X.env.cells.lookup x=some c
 cab:∀ x c,X.fn x=true->X.env.cells.lookup x=some c->X.sy.heap.objs.size<=c
 hd:X.calm=true->X.A.handled=none
 frames:X.A.frames=some X.stack
 stk:X.stack=X.outer\/(X.stack=X.env::X.outer/\X.env.frame=some X.env.locals)
 exf:∀ b∈X.ex,b≠X.env.locals/\∀ x c,X.env.cells.lookup x=some c->c≠b
 bs:∀ b o,X.base.get? b=some o->X.sy.heap.get? b=some o/\X.Hz b=none
 bsz:X.base.objs.size<=X.sy.heap.objs.size
 noex:∀ b o,X.base.get? b=some o->b ∉ X.ex
 exfs:∀ b∈X.ex,b ∉ X.fs
 funs:X.sy.heap.FunFrames X.base X.outer
 frf:∀ b∈X.fs,X.Hz b=none
structure Inv (X:Cx) (pJ:List (Addr×Obj)) (σ:List (Option V)) (H:Hp) (s:μ):Prop where
 ok:X.Ok
 os:s.os=X.sy.os
 bare:gY s.gens
 base:Un X.fs X.ex X.Hz H X.sy.heap s.heap
 loc:∃ m,s.heap.Ns X.env.locals m/\∀ (i:Nat) (x:Str) (v:V),X.N[i]?=some x->σ[i]?=some (some v)->Vis X.env.scope x->∃ u,RelV v u/\Look X.env s.heap m x u
 cell:∀ x c,X.env.cells.lookup x=some c->∃ v,s.heap.IsCell c v
 free:H X.env.locals=none
 freeC:∀ x c,X.env.cells.lookup x=some c->H c=none\/(X.fn x=false/\∃ o,H c=some (.frz o (.ext λ_=>True)))
 pin:∀ p∈X.pn++pJ,s.heap.get? p.1=some p.2/\H p.1=none/\p.1≠X.env.locals/\p.1 ∉ X.fs/\∀ v,p.2.data≠.cell v
 hok:HOk X.prog X.w H s.heap
 len:σ.length=X.N.length
section
variable {X:Cx}{pJ:List (Addr×Obj)}{σ:List (Option V)}{H H':Hp}{s:μ}{h':Heap}
theorem Cx.Ok.nofr (ok:X.Ok) {b:Addr}{o:Obj}(e:X.base.get? b=some o):b ∉ X.fs:=λhb=>by have:=(ok.funs.mem hb).1;rw [e] at this;cases this
theorem Inv.bs (I:Inv X pJ σ H s):∀ b o,X.base.get? b=some o->s.heap.get? b=some o/\H b=none:=λb o e=>
 ⟨I.base.keep b o (I.ok.bs b o e).1 (I.ok.bs b o e).2 (I.ok.nofr e) (I.ok.noex b o e),I.base.free b o (I.ok.bs b o e).1 (I.ok.bs b o e).2 (I.ok.noex b o e)⟩
theorem Inv.bk (I:Inv X pJ σ H s):∀ b o,X.base.get? b=some o->s.heap.get? b=some o:=λb o e=>(I.bs b o e).1
theorem Inv.mod (I:Inv X pJ σ H s):Mod X.K X.mg X.base:=I.ok.mod
theorem Inv.kIn (I:Inv X pJ σ H s):X.K.In s.heap:=I.ok.mod.kin.keeps I.bk
theorem Inv.fr (I:Inv X pJ σ H s):∃ m,Fr X.base X.env.locals s.heap m:=
 let ⟨m,hn,_⟩:=I.loc
 ⟨m,hn,I.bk,Ϧ I.ok.bsz I.ok.above⟩
theorem Inv.lt (I:Inv X pJ σ H s):X.env.locals < s.heap.objs.size:=let ⟨_,hn,_⟩:=I.loc;hn.lt
theorem Inv.sz (I:Inv X pJ σ H s):X.sy.heap.objs.size<=s.heap.objs.size:=Ϧ I.ok.above (cg I.lt)
theorem Inv.nofs (I:Inv X pJ σ H s) {a:Addr}(h:s.heap.objs.size<=a):a ∉ X.fs:=λhb=>by obtain ⟨_,o,ho,_⟩:=I.ok.funs.mem hb;exact absurd (Ω (Δ ho) (Ϧ I.sz h)) (cA _)
theorem Inv.cne (I:Inv X pJ σ H s):∀ x c,X.env.cells.lookup x=some c->c≠X.env.locals:=λx c e z=>by obtain ⟨v,o,ho,hd⟩:=I.cell x c e;obtain ⟨m,⟨o',es,ep,ho',hd',_⟩,_⟩:=I.loc;rw [z,ho'] at ho;cases ho;rw [hd'] at hd;cases hd
theorem Inv.funs (I:Inv X pJ σ H s):s.heap.FunFrames X.base X.outer:=by
 have all:∀ (l:List Env),(∀ b∈frs l,b∈X.fs)->X.sy.heap.FunFrames X.base l->s.heap.FunFrames X.base l:=by
  intro l
  induction l with
  | nil=>intro _ _;trivial
  | cons env r ih=>
   intro hs hl;obtain ⟨hk,⟨L,o,hf,hn,ho,hd⟩,hr⟩:=hl;have hL:L∈X.fs:=hs L (by unfold frs;rw [cD,hf];exact ξ);obtain ⟨sl,e⟩:=I.base.slot L o ho (I.ok.frf L hL) hL λz=>I.ok.exfs L z hL
   exact ⟨hk,⟨L,_,hf,hn,e,hd⟩,ih (λb hb=>hs b (by unfold frs;rw [cD,hf];exact ι _ hb)) hr⟩
 exact all X.outer (λ_ hb=>hb) I.ok.funs
theorem Inv.stack (I:Inv X pJ σ H s):s.heap.FunFrames X.base X.stack:=by
 rcases I.ok.stk with e | ⟨e,hf⟩
 ·rw [e];exact I.funs
 ·rw [e];obtain ⟨m,hn,_⟩:=I.loc;refine .cons (by rw [I.ok.kind];decide) hf hn ?_ I.funs;exact iG (Ϧ I.ok.bsz I.ok.above)
theorem Inv.Z6 (I:Inv X pJ σ H s):∀ b∈frs X.stack,b∈X.env.locals::X.fs:=λb hb=>by
 rcases I.ok.stk with e | ⟨e,hf⟩
 ·rw [e] at hb;exact ι _ hb
 ·rw [e] at hb;unfold frs at hb;rw [cD,hf] at hb;exact hb
theorem Inv.vU (I:Inv X pJ σ H s):∀ b∈frs X.stack,H b=none:=λb hb=>by
 rcases Ε.mp (I.Z6 b hb) with e | hb
 ·rw [e];exact I.free
 ·obtain ⟨_,o,ho,_⟩:=I.ok.funs.mem hb;exact I.base.free b o ho (I.ok.frf b hb) λz=>I.ok.exfs b z hb
theorem Inv.step {g':Array GenState}{t':Nat}{d':Drawn}{ch:List Addr}(I:Inv X pJ σ H s)
  (hch:∀ b∈ch,(b∈X.ex\/X.sy.heap.objs.size<=b)/\b≠X.env.locals/\(∀ x c,X.env.cells.lookup x=some c->c≠b)/\∀ p∈X.pn++pJ,p.1≠b)
  (keep:∀ b o,b≠X.env.locals->b ∉ X.fs->b ∉ ch->s.heap.get? b=some o->H b=none->h'.get? b=some o)
  (slot:∀ b o,b≠X.env.locals->b∈X.fs->b ∉ ch->s.heap.get? b=some o->H b=none->∃ sl,h'.get? b=some { o with slots:=sl }) (free:∀ b o,b ∉ ch->s.heap.get? b=some o->H b=none->H' b=none)
  (there:∀ b o,b ∉ ch->s.heap.get? b=some o->∃ o',h'.get? b=some o')
  (tups:∀ b xs,H b=some (.tup xs)->H' b=some (.tup xs)) (frzs:∀ b o u,H b=some (.frz o u)->H' b=some (.frz o u)) (tbls:∀ b ps,H b=some (.tbl ps)->∃ more,H' b=some (.tbl (ps++more)))
  (ns:∀ m,s.heap.Ns X.env.locals m->h'.Ns X.env.locals m) (hok:HOk X.prog X.w H' h') (hg:gY g'):
  Inv X pJ σ H' { s with heap:=h',gens:=g',drawn:=d',toks:=t' }:=by
 have neL:∀ b o,X.sy.heap.get? b=some o->b≠X.env.locals:=λb o e=>Φ (Ω (Δ e) I.ok.above)
 have neC:∀ b o,X.sy.heap.get? b=some o->b ∉ X.ex->b ∉ ch:=λb o e hx hb=>by
  rcases (hch b hb).1 with z | z
  ·exact hx z
  ·exact absurd (Ω (Δ e) z) (cA _)
 have cellK:∀ x c,X.env.cells.lookup x=some c->∀ v,s.heap.IsCell c v->h'.IsCell c v:=λx c e v ⟨o,ho,hd⟩=>by
  have nch:c ∉ ch:=λz=>(hch c z).2.2.1 x c e rfl
  rcases I.freeC x c e with hfr | ⟨_,o1,hfz⟩
  rotate_left
  ·have e1:=(I.hok c _ hfz).1;rw [ho] at e1;cases e1;exact ⟨o,(hok c _ (frzs c _ _ hfz)).1,hd⟩
  by_cases hc:c∈X.fs
  ·obtain ⟨sl,q⟩:=slot c o (I.cne x c e) hc nch ho hfr;exact ⟨_,q,hd⟩
  ·exact ⟨o,keep c o (I.cne x c e) hc nch ho hfr,hd⟩
 refine ⟨I.ok,I.os,hg,⟨λb o e n hb hx=>?_,λb o e n hb hx=>?_,λb o e n hx=>?_,λb o e hx=>?_,λb xs e=>tups b xs (I.base.tups b xs e),λb o xs e=>frzs b o xs (I.base.frzs b o xs e),λb ps e=>?_⟩,?_,λx c e=>?_,?_,λx c e=>?_,λp hp=>?_,hok,I.len⟩
 ·exact keep b o (neL b o e) hb (neC b o e hx) (I.base.keep b o e n hb hx) (I.base.free b o e n hx)
 ·obtain ⟨sl,e1⟩:=I.base.slot b o e n hb hx;obtain ⟨sl',e2⟩:=slot b _ (neL b o e) hb (neC b o e hx) e1 (I.base.free b o e n hx);exact ⟨sl',e2⟩
 ·obtain ⟨o',e1⟩:=I.base.there b o e hx;exact free b o' (neC b o e hx) e1 (I.base.free b o e n hx)
 ·obtain ⟨o',e1⟩:=I.base.there b o e hx;exact there b o' (neC b o e hx) e1
 ·obtain ⟨m1,e1⟩:=I.base.tbls b ps e;obtain ⟨m2,e2⟩:=tbls b _ e1;exact ⟨m1++m2,by rw [e2,pF]⟩
 ·obtain ⟨m,hn,hl⟩:=I.loc;refine ⟨m,ns m hn,λi x v e1 e2 e3=>?_⟩;obtain ⟨u,r,l⟩:=hl i x v e1 e2 e3;refine ⟨u,r,?_⟩;rcases l with l | ⟨k,c,e,z⟩
  ·exact .inl l
  ·exact .inr ⟨k,c,e,cellK x c e _ z⟩
 ·obtain ⟨v,z⟩:=I.cell x c e;exact ⟨v,cellK x c e v z⟩
 ·obtain ⟨m,⟨o,_,_,ho,_⟩,_⟩:=I.loc;exact free _ o (λz=>(hch _ z).2.1 rfl) ho I.free
 ·obtain ⟨v,o,ho,hd⟩:=I.cell x c e;rcases I.freeC x c e with hfr | ⟨hf,o1,hfz⟩
  ·exact .inl (free c o (λz=>(hch c z).2.2.1 x c e rfl) ho hfr)
  ·exact .inr ⟨hf,o1,frzs c _ _ hfz⟩
 ·obtain ⟨e,n,ne,nf,d⟩:=I.pin p hp;have nch:p.1 ∉ ch:=λz=>(hch p.1 z).2.2.2 p hp rfl
  exact ⟨keep p.1 p.2 ne nf nch e n,free p.1 p.2 nch e n,ne,nf,d⟩
theorem Inv.un {t':Nat}(I:Inv X pJ σ H s) (u:Un X.fs [] H H' s.heap h') (hok:HOk X.prog X.w H' h'):Inv X pJ σ H' { s with heap:=h',toks:=t' }:=by
 obtain ⟨m,⟨o,es,ep,ho,r⟩,_⟩:=id I.loc;obtain ⟨sl,hL⟩:=u.any ho I.free (by simp)
 exact I.step (g':=s.gens) (d':=s.drawn) (ch:=[]) (λ_ z=>nomatch z) (λb o _ hb _ e n=>u.keep b o e n hb (by simp)) (λb o _ hb _ e n=>u.slot b o e n hb (by simp)) (λb o _ e n=>u.free b o e n (by simp)) (λb o _ e=>u.there b o e (by simp)) u.tups u.frzs u.tbls (λm' hm=>by
  obtain ⟨o',es',ep',ho',r'⟩:=hm;rw [ho] at ho';cases ho'
  exact ⟨_,es',ep',hL,r'⟩) hok I.bare
theorem Inv.call {g':Array GenState}{t':Nat}{d':Drawn}{ch:List Addr}(I:Inv X pJ σ H s) (u:Un (frs X.stack) ch H H' s.heap h') (hok:HOk X.prog X.w H' h') (hg:gY g')
  (hch:∀ b∈ch,(b∈X.ex\/X.sy.heap.objs.size<=b)/\b≠X.env.locals/\(∀ x c,X.env.cells.lookup x=some c->c≠b)/\∀ p∈X.pn++pJ,p.1≠b):
  Inv X pJ σ H' { s with heap:=h',gens:=g',drawn:=d',toks:=t' }:=by
 obtain ⟨m,⟨o,es,ep,ho,r⟩,_⟩:=id I.loc;obtain ⟨sl,hL⟩:=u.any ho I.free λz=>(hch _ z).2.1 rfl
 exact I.step (ch:=ch) hch (λb o hL hb hc e n=>u.keep b o e n (λz=>(Ε.mp (I.Z6 b z)).elim hL hb) hc) (λb o _ _ hc e n=>u.any e n hc) (λb o hc e n=>u.free b o e n hc) (λb o hc e=>u.there b o e hc) u.tups u.frzs u.tbls (λm' hm=>by
  obtain ⟨o',es',ep',ho',r'⟩:=hm;rw [ho] at ho';cases ho'
  exact ⟨_,es',ep',hL,r'⟩) hok hg
theorem Inv.turned {t':Nat}{it:Addr}(I:Inv X pJ σ H s) (k:∀ b o,b≠it->s.heap.get? b=some o->h'.get? b=some o) (hn:H it=none) (hL:it≠X.env.locals)
  (h1:it∈X.ex\/X.sy.heap.objs.size<=it) (h2:∀ x c,X.env.cells.lookup x=some c->c≠it) (h3:∀ p∈X.pn++pJ,p.1≠it):Inv X pJ σ H { s with heap:=h',toks:=t' }:=by
 have nit:∀ b u,H b=some u->b≠it:=λb u e z=>by rw [z,hn] at e;cases e
 refine I.step (g':=s.gens) (d':=s.drawn) (ch:=[it]) (λb hb=>?_) (λb o _ _ hc e _=>k b o (λz=>hc (by simp [z])) e) (λb o _ _ hc e _=>⟨o.slots,k b o (λz=>hc (by simp [z])) e⟩) (λ_ _ _ _ n=>n)
  (λb o hc e=>⟨o,k b o (λz=>hc (by simp [z])) e⟩) (λ_ _ e=>e) (λ_ _ _ e=>e) (λb ps e=>⟨#[],by rw [e];simp⟩) (λm hm=>?_) (λb u e=>?_) I.bare
 ·have e:b=it:=by simpa using hb
  subst e;exact ⟨h1,hL,h2,h3⟩
 ·obtain ⟨o,es,ep,ho,r⟩:=hm;exact ⟨o,es,ep,k _ o (bT hL) ho,r⟩
 ·refine (I.hok b u e).stay (λc v hc q=>k c v ?_ q) (λ_ q=>q) λ_ _ q=>q
  rcases hc with z | z
  ·rw [z];exact nit b u e
  ·exact nit c _ z
theorem Inv.tok (I:Inv X pJ σ H s) (t:Nat):Inv X pJ σ H { s with toks:=t }:=I.un (h':=s.heap) (t':=t) Un.refl I.hok
theorem Inv.kept {t':Nat}(I:Inv X pJ σ H s) (k:∀ b u,s.heap.get? b=some u->h'.get? b=some u):Inv X pJ σ H { s with heap:=h',toks:=t' }:=I.un (Un.kept k) (I.hok.kept k)
theorem Inv.laid {a:Addr}{o:HO}{t':Nat}(I:Inv X pJ σ H s) (k:∀ b u,s.heap.get? b=some u->h'.get? b=some u) (hp:s.heap.objs.size<=a) (new:zY X.prog X.w (upd H a o) h' a o):
  Inv X pJ σ (upd H a o) { s with heap:=h',toks:=t' }:=I.un (Un.laid k hp (I.hok.fresh hp)) (I.hok.laid k hp new)
theorem Inv.write {x e:Addr}{o:HO}{t':Nat}(I:Inv X pJ σ H s) (mu:Mut (H x)) (he:e=x\/H e=some (.own x)) (k:∀ b u,b≠e->s.heap.get? b=some u->h'.get? b=some u) (heo:∃ u,h'.get? e=some u)
  (new:zY X.prog X.w (upd H x o) h' x o):Inv X pJ σ (upd H x o) { s with heap:=h',toks:=t' }:=I.un (Un.write mu he k heo) (I.hok.write mu he k heo new)
theorem Inv.X7 {pins':List (Addr×Obj)}(I:Inv X pJ σ H s) (h:∀ p∈pins',s.heap.get? p.1=some p.2/\H p.1=none/\p.1≠X.env.locals/\p.1 ∉ X.fs/\∀ v,p.2.data≠.cell v):Inv X pins' σ H s:=
 ⟨I.ok,I.os,I.bare,I.base,I.loc,I.cell,I.free,I.freeC,λp hp=>(ϋ.mp hp).elim (λz=>I.pin p (o9 _ z)) (h p),I.hok,I.len⟩
theorem Zc {N:List Str}(hN:N.Nodup) {i j:Nat}{x:Str}(a:N[i]?=some x) (b:N[j]?=some x):i=j:=by obtain ⟨h1,e1⟩:=χ.mp a;obtain ⟨h2,e2⟩:=χ.mp b;exact (List.getElem_inj hN).mp (e1.trans e2.symm)
theorem JK {M:Model}{A:ϙ}{E:VSP}{i:Nat}{x:Str}{v:V}{u:δ}{Q:Unit->μ->Prop}(I:Inv X pJ σ H s) (hN:X.N.Nodup) (hi:X.N[i]?=some x) (hx:Loc X.env.scope x) (r:RelV v u)
  (h:∀ s',Inv X pJ (σ.set i (some v)) H s'->(∃ a,ϩ a s.heap s'.heap/\(a=X.env.locals\/X.env.cells.lookup x=some a))->Q () s') (hf:X.fn x=true\/X.env.scope.names.lookup x=some .local:=by first | exact .inl rfl | exact .inr rfl | assumption):Λ M A (storeName X.env x u) Q E s:=by
 obtain ⟨m,hn,hl⟩:=id I.loc;have hcls:(X.env.scope.kind==.class||(X.env.scope.kind==.module&&X.env.locals != X.env.globals))=false:=by rw [I.ok.kind];rfl
 have hiσ:i < σ.length:=by rw [I.len];exact (χ.mp hi).1
 have cne:=I.cne;have tracked:∀ {a:Addr}{h':Heap},(∃ o,s.heap.get? a=some o/\H a=none)->ϩ a s.heap h'->HOk X.prog X.w H h':=λ{a h'} ha hs b ob e=>by
  obtain ⟨_,_,hfree⟩:=ha;refine (I.hok b ob e).stay (λc w' hc q=>(hs.2 c ?_).trans q) (λ_ q=>q) λ_ _ q=>q
  rintro rfl;rcases hc with rfl | hc
  ·rw [hfree] at e;cases e
  ·rw [hfree] at hc;cases hc
 rcases hx with hk | hk
 ·refine wpAny_storeName_local hk hn (λh' hn' hs=>?_) hcls;obtain ⟨oL,_,_,hoL,_⟩:=id hn;refine h _ ⟨I.ok,I.os,I.bare,⟨λb o e n hb hx=>?_,λb o e n hb hx=>?_,I.base.free,λb o e hx=>?_,I.base.tups,I.base.frzs,I.base.tbls⟩,⟨_,hn',λj y v' e1 e2 e3=>?_⟩,λy c e=>?_,I.free,I.freeC,λp hp=>?_,tracked ⟨oL,hoL,I.free⟩ hs,by simpa using I.len⟩ ⟨_,hs,.inl rfl⟩
  ·exact (hs.2 b (Φ (Ω (Δ e) I.ok.above))).trans (I.base.keep b o e n hb hx)
  ·obtain ⟨sl,e1⟩:=I.base.slot b o e n hb hx;exact ⟨sl,(hs.2 b (Φ (Ω (Δ e) I.ok.above))).trans e1⟩
  ·obtain ⟨o',e1⟩:=I.base.there b o e hx;exact ⟨o',(hs.2 b (Φ (Ω (Δ e) I.ok.above))).trans e1⟩
  ·by_cases hj:j=i
   ·subst hj;rw [hi] at e1;cases e1;rw [Ϗ hiσ] at e2;cases e2;exact ⟨u,r,.inl ⟨hk,by simp⟩⟩
   ·rw [Ζ (bT hj)] at e2;obtain ⟨u',r',q⟩:=hl j y v' e1 e2 e3;refine ⟨u',r',?_⟩;rcases q with ⟨k,e⟩ | ⟨k,c,e,z⟩
    ·refine .inl ⟨k,?_⟩;have:y≠x:=λe=>hj (Zc hN e1 (e ▸ hi))
     simp [this,e]
    ·exact .inr ⟨k,c,e,z.sameBut hs (cne y c e)⟩
  ·obtain ⟨w',z⟩:=I.cell y c e;exact ⟨w',z.sameBut hs (cne y c e)⟩
  ·obtain ⟨e,n,ne,nf,d⟩:=I.pin p hp;exact ⟨(hs.2 p.1 ne).trans e,n,ne,nf,d⟩
 ·have hfn:X.fn x=true:=by
   rcases hf with z | z
   ·exact z
   ·rw [z] at hk;cases hk
  obtain ⟨c,hc⟩:=I.ok.has x (.inl hk);obtain ⟨w',z⟩:=I.cell x c hc;refine wpAny_storeName_cell I.ok.kind hk hc z (λh' hc' hs=>?_);obtain ⟨oc,hoc,hocd⟩:=id z;refine h { s with heap:=h' } ⟨I.ok,I.os,I.bare,⟨λb o e n hb hx=>?_,λb o e n hb hx=>?_,I.base.free,λb o e hx=>?_,I.base.tups,I.base.frzs,I.base.tbls⟩,⟨m,hn.sameBut hs (bT (cne x c hc)),λj y v' e1 e2 e3=>?_⟩,λy c' e=>?_,I.free,I.freeC,λp hp=>?_,tracked ⟨oc,hoc,(I.freeC x c hc).resolve_right λz=>by rw [hfn] at z;cases z.1⟩ hs,by simpa using I.len⟩ ⟨c,hs,.inr hc⟩
  ·exact (hs.2 b (Φ (Ω (Δ e) (I.ok.cab x c hfn hc)))).trans (I.base.keep b o e n hb hx)
  ·obtain ⟨sl,e1⟩:=I.base.slot b o e n hb hx;exact ⟨sl,(hs.2 b (Φ (Ω (Δ e) (I.ok.cab x c hfn hc)))).trans e1⟩
  ·obtain ⟨o',e1⟩:=I.base.there b o e hx;exact ⟨o',(hs.2 b (Φ (Ω (Δ e) (I.ok.cab x c hfn hc)))).trans e1⟩
  ·by_cases hj:j=i
   ·subst hj;rw [hi] at e1;cases e1;rw [Ϗ hiσ] at e2;cases e2;exact ⟨u,r,.inr ⟨.inl hk,c,hc,hc'⟩⟩
   ·rw [Ζ (bT hj)] at e2;obtain ⟨u',r',q⟩:=hl j y v' e1 e2 e3;refine ⟨u',r',?_⟩;rcases q with q | ⟨k,c',e,z'⟩
    ·exact .inl q
    ·refine .inr ⟨k,c',e,z'.sameBut hs ?_⟩;rintro rfl;exact hj (Zc hN e1 (I.ok.inj _ _ _ e hc ▸ hi))
  ·by_cases hcc:c'=c
   ·subst hcc;exact ⟨_,hc'⟩
   ·obtain ⟨w2,z2⟩:=I.cell y c' e;exact ⟨w2,z2.sameBut hs hcc⟩
  ·obtain ⟨e,n,ne,nf,d⟩:=I.pin p hp;refine ⟨(hs.2 p.1 ?_).trans e,n,ne,nf,d⟩;intro q;rw [q,hoc] at e;have q':oc=p.2:=ϕ e;exact d w' (by rw [<- q'];exact hocd)
theorem Ve {M:Model}{A:ϙ}{E:VSP}{i:Nat}{x:Str}{v:V}{u:δ}{Q:Unit->μ->Prop}(I:Inv X pJ σ H s) (hN:X.N.Nodup) (hi:X.N[i]?=some x) (hx:Loc X.env.scope x) (r:RelV v u)
  (h:∀ s',Inv X pJ (σ.set i (some v)) H s'->Q () s') (hf:X.fn x=true\/X.env.scope.names.lookup x=some .local:=by first | exact .inl rfl | exact .inr rfl | assumption):Λ M A (storeName X.env x u) Q E s:=
 JK I hN hi hx r (λs' I' _=>h s' I') hf
theorem Inv.call' {s':μ}{ch:List Addr}(I:Inv X pJ σ H s) (ho:s'.os=s.os) (u:Un (frs X.stack) ch H H' s.heap s'.heap) (hok:HOk X.prog X.w H' s'.heap) (hg:gY s'.gens)
  (hch:∀ b∈ch,(b∈X.ex\/X.sy.heap.objs.size<=b)/\b≠X.env.locals/\(∀ x c,X.env.cells.lookup x=some c->c≠b)/\∀ p∈X.pn++pJ,p.1≠b):Inv X pJ σ H' s':=by obtain ⟨h',g',d',t',o'⟩:=s';have e:o'=s.os:=ho;subst e;exact I.call (g':=g') (t':=t') (d':=d') u hok hg hch
end
abbrev XK:=δ->Option Addr->Hp->Prop
abbrev St:=List (Option V)
abbrev VK:=V->Hp->Prop
abbrev TE:=St->Hp->VK->Prop
abbrev TT:=St->Hp->(Bool->Hp->Prop)->Prop
abbrev TA:=St->Hp->(List V->Hp->Prop)->Prop
structure Ends where
 nx:St->Hp->Prop
 rt:VK
 bk:St->Hp->Prop:=λ_ _=>False
 ct:St->Hp->Prop:=λ_ _=>False
abbrev TS:=Ends->St->Hp->Prop
def EP (X:Cx) (pJ:List (Addr×Obj)) (σ:St) (Q:VK) (u:δ) (s':μ):Prop:=∃ v H',Inv X pJ σ H' s'/\RelV v u/\Q v H'
def TP (X:Cx) (pJ:List (Addr×Obj)) (σ:St) (Q:Bool->Hp->Prop) (b:Bool) (s':μ):Prop:=∃ H',Inv X pJ σ H' s'/\Q b H'
def AP (X:Cx) (pJ:List (Addr×Obj)) (σ:St) (Q:List V->Hp->Prop) (us:List δ) (s':μ):Prop:=∃ vs H',Inv X pJ σ H' s'/\Vals vs us/\Q vs H'
def SP (X:Cx) (pJ:List (Addr×Obj)) (D:Ends) (f:Flow) (s':μ):Prop:=
 match f with
 | .next=>∃ σ' H',Inv X pJ σ' H' s'/\D.nx σ' H'
 | .brk=>∃ σ' H',Inv X pJ σ' H' s'/\D.bk σ' H'
 | .cont=>∃ σ' H',Inv X pJ σ' H' s'/\D.ct σ' H'
 | .ret u=>∃ v σ' H',Inv X pJ σ' H' s'/\RelV v u/\D.rt v H'
def PE (X:Cx) (e:Expr) (t:TE):Prop:=
 ∀ (pJ:List (Addr×Obj)) (s:μ) (σ:St) (H:Hp) (Q:VK),Inv X pJ σ H s->t σ H Q->Λ (Ν X.prog X.w) X.A (eval e X.env) (EP X pJ σ Q) X.xe s
def PT (X:Cx) (e:Expr) (t:TT):Prop:=
 ∀ (pJ:List (Addr×Obj)) (s:μ) (σ:St) (H:Hp) (Q:Bool->Hp->Prop),Inv X pJ σ H s->t σ H Q->Λ (Ν X.prog X.w) X.A (lC e X.env (eval e X.env)) (TP X pJ σ Q) X.xe s
def PW (X:Cx) (e:Expr) (t:TT):Prop:=
 ∀ (whole:Sem δ) (pJ:List (Addr×Obj)) (s:μ) (σ:St) (H:Hp) (Q:Bool->Hp->Prop),Inv X pJ σ H s->t σ H Q->Λ (Ν X.prog X.w) X.A (lC e X.env whole) (TP X pJ σ Q) X.xe s
theorem PW.pt {X:Cx}{e:Expr}{t:TT}(h:PW X e t):PT X e t:=h _
def PA (X:Cx) (es:List Expr) (t:TA):Prop:=
 ∀ (pos:Pos) (pJ:List (Addr×Obj)) (s:μ) (σ:St) (H:Hp) (Q:List V->Hp->Prop),Inv X pJ σ H s->t σ H Q->Λ (Ν X.prog X.w) X.A (spliced (fW pos (ϰ es X.env))) (AP X pJ σ Q) X.xe s
def PS (X:Cx) (st:Stmt) (t:TS):Prop:=
 ∀ (pJ:List (Addr×Obj)) (s:μ) (σ:St) (H:Hp) (D:Ends),Inv X pJ σ H s->t D σ H->Λ (Ν X.prog X.w) X.A (exec st X.env) (SP X pJ D) X.xe s
def PSs (X:Cx) (st:List Stmt) (t:TS):Prop:=
 ∀ (pJ:List (Addr×Obj)) (s:μ) (σ:St) (H:Hp) (D:Ends),Inv X pJ σ H s->t D σ H->Λ (Ν X.prog X.w) X.A (execs st X.env) (SP X pJ D) X.xe s
theorem thn {α:Type}{t:Sem α}{Q Q':α->μ->Prop}{M:Model}{A:ϙ}{E:VSP}{s:μ}(h:Λ M A t Q E s) (hQ:∀ a s,Q a s->Q' a s):Λ M A t Q' E s:=bc h hQ λ_ _ x=>x
section
variable {X:Cx}
theorem bin {a b:Expr}{ta tb:TE}(ha:PE X a ta) (hb:PE X b tb) {pJ:List (Addr×Obj)}{s:μ}{σ:St}{H:Hp}{R:V->V->Hp->Prop}(I:Inv X pJ σ H s) (h:ta σ H λx H1=>tb σ H1 λy H2=>R x y H2)
  {α:Type}{Q:α->μ->Prop}{f:δ->δ->Sem α}
  (hf:∀ v u s2 x y H2,Inv X pJ σ H2 s2->RelV x v->RelV y u->R x y H2->Λ (Ν X.prog X.w) X.A (f v u) Q X.xe s2):
  Λ (Ν X.prog X.w) X.A (eval a X.env) (λv s₁=>Λ (Ν X.prog X.w) X.A (eval b X.env) (λu s₂=>Λ (Ν X.prog X.w) X.A (f v u) Q X.xe s₂) X.xe s₁) X.xe s:=by
 refine thn (ha pJ s σ H _ I h) λv s1 ⟨x,H1,I1,r1,q1⟩=>?_
 refine thn (hb pJ s1 σ H1 _ I1 q1) λu s2 ⟨y,H2,I2,r2,q2⟩=>?_
 exact hf v u s2 x y H2 I2 r1 r2 q2
def tVar (i:Nat):TE:=λσ H Q=>∃ v,σ[i]?=some (some v)/\Q v H
def tC (v:V):TE:=λ_ H Q=>Q v H
theorem jl {i:Nat}{x:Str}{pos:Pos}(hN:X.N[i]?=some x) (hv:Vis X.env.scope x) (hd:(x==("__debug__":Str))=false:=by decide) (hcd:(x==("__classdict__":Str))=false:=by decide):PE X (.Name x pos) (tVar i):=by
 intro pJ s σ H Q I h;obtain ⟨v,e,h⟩:=h;obtain ⟨m,hn,hl⟩:=I.loc;obtain ⟨u,r,l⟩:=hl i x v hN e hv;have fin:EP X pJ σ Q u s:=⟨v,H,I,r,h⟩
 rcases l with ⟨hk,hm⟩ | ⟨hk,c,hc,hcell⟩
 ·exact wpAny_Name (wpAny_loadName_local I.ok.kind hk hn hm fin) hd
 ·rcases hk with hk | hk
  ·exact wpAny_Name (wpAny_loadName_cell I.ok.kind hk hc hcell fin) hd
  ·exact wpAny_Name (wpAny_loadName_free I.ok.kind hk hc hcell fin hcd) hd
theorem zcr {i j pos}:PE X (.Constant (.int i) j pos) (tC (.int i)):=λ_ _ _ H _ I h=>wpAny_Constant_int ⟨.int i,H,I.tok _,⟨_,rfl⟩,h⟩
theorem zjd {b j pos}:PE X (.Constant (.bool b) j pos) (tC (.bl b)):=λ_ _ _ H _ I h=>Constant_bool ⟨.bl b,H,I,rfl,h⟩
theorem zgq {j pos}:PE X (.Constant .none j pos) (tC .non):=λ_ _ _ H _ I h=>Constant_none ⟨.non,H,I,rfl,h⟩
theorem Kv {x j pos}:PE X (.Constant (.str x) j pos) (tC (.str x)):=λ_ _ _ H _ I h=>Calls.Constant_str ⟨.str x,H,I.tok _,⟨_,rfl⟩,h⟩
def Gl (X:Cx) (x:Str):Prop:=X.env.kindOf x=some .globalImplicit
theorem vY {E:VSP}{pJ:List (Addr×Obj)}{s:μ}{σ:St}{H:Hp}{x:Str}{u:δ}{pos:Pos}{Q:VSP}(I:Inv X pJ σ H s) (hg:Gl X x) (hm:X.mg x=some u) (h:Q u s)
  (hd:(x==("__debug__":Str))=false:=by decide):Λ (Ν X.prog X.w) X.A (eval (.Name x pos) X.env) Q E s:=
 m6 I.ok.kind hg (Calls.loadGlobal_global (by rw [I.ok.glob];exact I.mod.glob.keeps I.bk) hm h) hd
theorem YG {E:VSP}{pJ:List (Addr×Obj)}{s:μ}{σ:St}{H:Hp}{x:Str}{u:δ}{pos:Pos}{Q:VSP}(I:Inv X pJ σ H s) (hg:Gl X x) (hm:X.mg x=none) (hv:cZ x=some u) (h:Q u s)
  (hn:x≠"__name__":=by decide) (hd:(x==("__debug__":Str))=false:=by decide):Λ (Ν X.prog X.w) X.A (eval (.Name x pos) X.env) Q E s:=by obtain ⟨mb,h1,h2⟩:=I.mod.blt;exact m6 I.ok.kind hg (Calls.loadGlobal_builtin (by rw [I.ok.glob];exact I.mod.glob.keeps I.bk) hm (by rw [I.ok.blt];exact h1.keeps I.bk) ((h2 x hn).trans hv) h) hd
theorem Kw {x:Str}{v:V}{u:δ}{pos:Pos}(hg:Gl X x) (hm:X.mg x=some u) (r:RelV v u) (hd:(x==("__debug__":Str))=false:=by decide):PE X (.Name x pos) (tC v):=
 λ_ _ _ H _ I h=>vY I hg hm ⟨v,H,I,r,h⟩ hd
theorem Kz {x:Str}{v:V}{u:δ}{pos:Pos}(hg:Gl X x) (hm:X.mg x=none) (hv:cZ x=some u) (r:RelV v u) (hn:x≠"__name__":=by decide) (hd:(x==("__debug__":Str))=false:=by decide):PE X (.Name x pos) (tC v):=
 λ_ _ _ H _ I h=>YG I hg hm hv ⟨v,H,I,r,h⟩ hn hd
variable {a b:Expr}{ta tb:TE}{pos:Pos}
def tB (t:TE):TT:=λσ H Q=>t σ H λx H1=>∃ c,x=.bl c/\Q c H1
theorem zgd {e:Expr}{t:TE}(h:PE X e t) (he:∀ whole,lC e X.env whole=(do let v <- whole;standAt e.pos;gR [v] (truthy v)):=by intro _;rfl):PT X e (tB t):=by intro pJ s σ H Q I hw;refine isTrue_plain (thn (h pJ s σ H _ I hw) λv s1 ⟨x,H1,I1,r1,q1⟩=>?_) (he _);obtain ⟨d,rfl,q⟩:=q1;cases r1;exact aH ⟨H1,I1,q⟩
variable {tA tB':TT}{rest:List Expr}
def tAnd (t u:TT):TT:=λσ H Q=>t σ H λc H1=>if c=true then u σ H1 Q else Q false H1
def tOr (t u:TT):TT:=λσ H Q=>t σ H λc H1=>if c=true then Q true H1 else u σ H1 Q
def tNot (t:TT):TT:=λσ H Q=>t σ H λc H1=>Q (!c) H1
theorem zds (ha:PT X a tA):PW X (.BoolOp .And [a] pos) tA:=by
 intro wh pJ s σ H Q I h;refine isTrue_and (thn (ha pJ s σ H Q I h) λc s1 e=>?_);cases c with
 | true=>exact isTrue_and_nil e
 | false=>exact e
theorem zgb (ha:PT X a tA):PW X (.BoolOp .Or [a] pos) tA:=by
 intro wh pJ s σ H Q I h;refine isTrue_or (thn (ha pJ s σ H Q I h) λc s1 e=>?_);cases c with
 | false=>exact isTrue_or_nil e
 | true=>exact e
theorem zgc (ha:PT X a tA) (hb:PW X (.BoolOp .And (b::rest) pos) tB'):PW X (.BoolOp .And (a::b::rest) pos) (tAnd tA tB'):=by
 intro wh pJ s σ H Q I h;refine isTrue_and (thn (ha pJ s σ H _ I h) λc s1 ⟨H1,I1,q1⟩=>?_);cases c with
 | true=>exact hb wh pJ s1 σ H1 Q I1 q1
 | false=>exact ⟨H1,I1,q1⟩
theorem zi7 (ha:PT X a tA) (hb:PW X (.BoolOp .Or (b::rest) pos) tB'):PW X (.BoolOp .Or (a::b::rest) pos) (tOr tA tB'):=by
 intro wh pJ s σ H Q I h;refine isTrue_or (thn (ha pJ s σ H _ I h) λc s1 ⟨H1,I1,q1⟩=>?_);cases c with
 | true=>exact ⟨H1,I1,q1⟩
 | false=>exact hb wh pJ s1 σ H1 Q I1 q1
theorem zge (ha:PT X a tA):PT X (.UnaryOp .Not a pos) (tNot tA):=by intro pJ s σ H Q I h;exact isTrue_not (ha pJ s σ H (λc H1=>Q (!c) H1) I h)
def zil (ta tb:TE):TE:=λσ H Q=>ta σ H λx H1=>∃ c,x=.bl c/\if c=true then tb σ H1 Q else Q (.bl false) H1
def tOrV (ta tb:TE):TE:=λσ H Q=>ta σ H λx H1=>∃ c,x=.bl c/\if c=true then Q (.bl true) H1 else tb σ H1 Q
def zig (ta:TE):TE:=λσ H Q=>ta σ H λx H1=>∃ c,x=.bl c/\Q (.bl (!c)) H1
theorem zgo {op} {t:TE}(h:PE X a t):PE X (.BoolOp op [a] pos) t:=λpJ s σ H Q I hw=>BoolOp_one (h pJ s σ H Q I hw)
theorem zgr (ha:PE X a ta) (hb:PE X (.BoolOp .And (b::rest) pos) tb):PE X (.BoolOp .And (a::b::rest) pos) (zil ta tb):=by
 intro pJ s σ H Q I h;refine BoolOp_and (thn (ha pJ s σ H _ I h) λv s1 ⟨x,H1,I1,r1,q1⟩=>?_);obtain ⟨c,rfl,q1⟩:=q1;cases r1;refine aH ?_;cases c with
 | true=>exact hb pJ s1 σ H1 Q I1 q1
 | false=>exact ⟨.bl false,H1,I1,rfl,q1⟩
theorem zja (ha:PE X a ta) (hb:PE X (.BoolOp .Or (b::rest) pos) tb):PE X (.BoolOp .Or (a::b::rest) pos) (tOrV ta tb):=by
 intro pJ s σ H Q I h;refine BoolOp_or (thn (ha pJ s σ H _ I h) λv s1 ⟨x,H1,I1,r1,q1⟩=>?_);obtain ⟨c,rfl,q1⟩:=q1;cases r1;refine aH ?_;cases c with
 | false=>exact hb pJ s1 σ H1 Q I1 q1
 | true=>exact ⟨.bl true,H1,I1,rfl,q1⟩
theorem zgp (ha:PE X a ta):PE X (.UnaryOp .Not a pos) (zig ta):=by intro pJ s σ H Q I h;refine UnaryOp_ (thn (ha pJ s σ H _ I h) λv s1 ⟨x,H1,I1,r1,q1⟩=>?_);obtain ⟨c,rfl,q1⟩:=q1;cases r1;exact not_of (aH ⟨.bl (!c),H1,I1,rfl,q1⟩)
def tIf (t:TT) (ta tb:TE):TE:=λσ H Q=>t σ H λc H1=>if c=true then ta σ H1 Q else tb σ H1 Q
theorem zbh {c:Expr}(hc:PT X c tA) (ha:PE X a ta) (hb:PE X b tb):PE X (.IfExp c a b pos) (tIf tA ta tb):=by
 intro pJ s σ H Q I h;refine wpAny_IfExp (thn (hc pJ s σ H _ I h) λd s1 ⟨H1,I1,q1⟩=>?_);cases d with
 | true=>exact ha pJ s1 σ H1 Q I1 q1
 | false=>exact hb pJ s1 σ H1 Q I1 q1
end
def SqL (K:W.Frag) (H:Hp) (a:Addr) (xs:List V):Prop:=
 Rd H a (.lst xs) \/
  ∃ (o:Obj) (its:Array δ) (n:Nat),K.lookup a=some o/\o.cls=.type "list"/\o.dict=none/\o.data=.seq its n/\its.size<=sizeLine/\Vals xs its.toList
def SqT (K:W.Frag) (H:Hp) (a:Addr) (xs:List V):Prop:=
 Rd H a (.tup xs) \/
  ∃ (o:Obj) (its:Array δ) (n:Nat),K.lookup a=some o/\o.cls=.type "tuple"/\o.data=.seq its n/\its.size<=sizeLine/\Vals xs its.toList
noncomputable def absV:δ->Option V
 | .none=>some .non
 | .bool b=>some (.bl b)
 | .int i _=>some (.int i)
 | .str x _=>some (.str x)
 | .bytes b _=>some (.byt b)
 | .float b _=>some (.flt b)
 | .ref a=>some (.ref a)
 | .type n=>some (.ty n)
 | _=>none
theorem RelV.abs {x:V}{u:δ}(r:RelV x u):absV u=some x:=by
 cases x with
 | non=>cases r;rfl
 | bl _=>cases r;rfl
 | int _=>obtain ⟨t,rfl⟩:=r;rfl
 | str _=>obtain ⟨t,rfl⟩:=r;rfl
 | byt _=>obtain ⟨t,rfl⟩:=r;rfl
 | flt _=>obtain ⟨t,rfl⟩:=r;rfl
 | ref _=>cases r;rfl
 | ty _=>cases r;rfl
theorem RelV.inj {x y:V}{u:δ}(r:RelV x u) (q:RelV y u):x=y:=ϕ (r.abs.symm.trans q.abs)
theorem Vals.inj:∀ {xs ys:List V}{us:List δ},Vals xs us->Vals ys us->xs=ys
 | _,_,_,.nil,.nil=>rfl
 | _,_,_,.cons r t,.cons r' t'=>by rw [r.inj r',Vals.inj t t']
section
variable {X:Cx}{pJ:List (Addr×Obj)}{σ:St}{H:Hp}{s:μ}{a:Addr}{xs ys:List V}
theorem SqL.of {K:W.Frag}(h:H a=some (.lst xs)):SqL K H a xs:=.inl (.inl h)
theorem SqT.of {K:W.Frag}(h:H a=some (.tup xs)):SqT K H a xs:=.inl (.inl h)
theorem Inv.list (I:Inv X pJ σ H s) (h:SqL X.K H a xs):∃ its:List δ,Vals xs its/\PlainL s.heap a its.toArray/\xs.length<=sizeLine:=by
 rcases h with h | ⟨o,its,n,hk,hc,hd,hs,hz,r⟩
 ·obtain ⟨z,its,n,r,e⟩:=h.ok I.hok;exact ⟨its,r,⟨_,n,e,rfl,rfl,rfl⟩,z⟩
 ·refine ⟨its.toList,r,⟨o,n,I.kIn a o hk,hc,hd,by simpa using hs⟩,?_⟩;have e:=r.length;simp only [ύ] at e;lia
theorem Inv.tuple (I:Inv X pJ σ H s) (h:SqT X.K H a xs):∃ its:List δ,Vals xs its/\IsTup s.heap a its.toArray/\xs.length<=sizeLine:=by
 rcases h with h | ⟨o,its,n,hk,hc,hs,hz,r⟩
 ·obtain ⟨z,its,r,p⟩:=h.ok I.hok;exact ⟨its,r,p,z⟩
 ·refine ⟨its.toList,r,⟨o,I.kIn a o hk,hc,n,by simpa using hs⟩,?_⟩;have e:=r.length;simp only [ύ] at e;lia
theorem Inv.Vz (I:Inv X pJ σ H s) (h:SqL X.K H a xs) (h':SqL X.K H a ys):xs=ys:=by
 obtain ⟨its,r,⟨o,n,e,_,_,d⟩,_⟩:=I.list h;obtain ⟨its',r',⟨o',n',e',_,_,d'⟩,_⟩:=I.list h';rw [e] at e';cases e';rw [d] at d'
 injection d' with d1 _
 have:its=its':=by simpa using congrArg Array.toList d1
 subst this;exact r.inj r'
theorem Inv.Z2 (I:Inv X pJ σ H s) (h:SqT X.K H a xs) (h':SqT X.K H a ys):xs=ys:=by
 obtain ⟨its,r,⟨o,e,_,n,d⟩,_⟩:=I.tuple h;obtain ⟨its',r',⟨o',e',_,n',d'⟩,_⟩:=I.tuple h';rw [e] at e';cases e';rw [d] at d'
 injection d' with d1 _
 have:its=its':=by simpa using congrArg Array.toList d1
 subst this;exact r.inj r'
end
noncomputable abbrev Cx.wish (X:Cx) (E:VSP):Cx:={ X with xe:=E }
noncomputable abbrev Cx.nox (X:Cx):Cx:=X.wish λ_ _=>False
theorem Cx.Ok.wish {X:Cx}(ok:X.Ok) (E:VSP):(X.wish E).Ok:=
 ⟨ok.mod,ok.kind,ok.glob,ok.blt,ok.above,ok.inj,ok.has,ok.cab,ok.hd,ok.frames,ok.stk,ok.exf,ok.bs,ok.bsz,ok.noex,ok.exfs,ok.funs,ok.frf⟩
theorem Cx.Ok.yw {X:Cx}{E:VSP}(ok:(X.wish E).Ok):X.Ok:=
 ⟨ok.mod,ok.kind,ok.glob,ok.blt,ok.above,ok.inj,ok.has,ok.cab,ok.hd,ok.frames,ok.stk,ok.exf,ok.bs,ok.bsz,ok.noex,ok.exfs,ok.funs,ok.frf⟩
section
variable {X:Cx}{pJ:List (Addr×Obj)}{σ:St}{H:Hp}{s:μ}{E:VSP}
theorem Inv.wish (I:Inv X pJ σ H s) (E:VSP):Inv (X.wish E) pJ σ H s:=⟨I.ok.wish E,I.os,I.bare,I.base,I.loc,I.cell,I.free,I.freeC,I.pin,I.hok,I.len⟩
theorem Inv.yw (I:Inv (X.wish E) pJ σ H s):Inv X pJ σ H s:=⟨I.ok.yw,I.os,I.bare,I.base,I.loc,I.cell,I.free,I.freeC,I.pin,I.hok,I.len⟩
theorem SP.yw {D:Ends}{f:Flow}{s':μ}(h:SP (X.wish E) pJ D f s'):SP X pJ D f s':=by
 cases f with
 | next=>obtain ⟨σ',H',I,q⟩:=h;exact ⟨σ',H',I.yw,q⟩
 | brk=>obtain ⟨σ',H',I,q⟩:=h;exact ⟨σ',H',I.yw,q⟩
 | cont=>obtain ⟨σ',H',I,q⟩:=h;exact ⟨σ',H',I.yw,q⟩
 | ret u=>obtain ⟨v,σ',H',I,r,q⟩:=h;exact ⟨v,σ',H',I.yw,r,q⟩
theorem PE.nox {e:Expr}{t:TE}(h:PE X.nox e t):PE X e t:=λpJ s σ H Q I hw=>
 bc (h pJ s σ H Q (I.wish _) hw) (λ_ _ ⟨v,H',I',r,q⟩=>⟨v,H',I'.yw,r,q⟩) λ_ _ z=>ϟ z
theorem PT.nox {e:Expr}{t:TT}(h:PT X.nox e t):PT X e t:=λpJ s σ H Q I hw=>
 bc (h pJ s σ H Q (I.wish _) hw) (λ_ _ ⟨H',I',q⟩=>⟨H',I'.yw,q⟩) λ_ _ z=>ϟ z
theorem PSs.nox {st:List Stmt}{t:TS}(h:PSs X.nox st t):PSs X st t:=λpJ s σ H D I hw=>
 bc (h pJ s σ H D (I.wish _) hw) (λ_ _ q=>q.yw) λ_ _ z=>ϟ z
end
section
variable {X:Cx}{st:Stmt}{rest:List Stmt}{t u:TS}{e:Expr}{te:TE}{pos:Pos}
def zft:TS:=λD σ H=>D.nx σ H
def tSeq (t u:TS):TS:=λD σ H=>t { D with nx:=u D } σ H
theorem Kg:PSs X [] zft:=λ_ _ σ H _ I h=>fV ⟨σ,H,I,h⟩
theorem qY (h1:PS X st t) (h2:PSs X rest u):PSs X (st::rest) (tSeq t u):=by
 intro pJ s σ H D I h;refine wpAny_execs_cons (thn (h1 pJ s σ H { D with nx:=u D } I h) λf s1 q=>?_);cases f with
 | next=>
  obtain ⟨σ',H',I',q⟩:=q;exact h2 pJ s1 σ' H' D I' q
 | ret v=>exact q
 | brk=>exact q
 | cont=>exact q
def zfy:TS:=λD σ H=>D.bk σ H
def zij:TS:=λD σ H=>D.ct σ H
theorem zdy:PS X (.Pass pos) zft:=λ_ _ σ H _ I h=>wpAny_Pass ⟨σ,H,I,h⟩
theorem zbb:PS X (.Break pos) zfy:=λ_ _ σ H _ I h=>wpAny_Break ⟨σ,H,I,h⟩
theorem X6:PS X (.Continue pos) zij:=λ_ _ σ H _ I h=>wpAny_Continue ⟨σ,H,I,h⟩
theorem Inv.quiet {pJ:List (Addr×Obj)}{σ:St}{H:Hp}{s:μ}(I:Inv X pJ σ H s):interactive X.env=false:=by simp [interactive,I.ok.kind]
def zih (te:TE):TS:=λD σ H=>te σ H λ_ H1=>D.nx σ H1
theorem X5 (he:PE X e te) (hs:iw e none pos.line X.env=pure false:=by rfl):PS X (.Expr e pos) (zih te):=by intro pJ s σ H D I h;exact wpAny_Expr_any (thn (he pJ s σ H _ I h) λv s1 ⟨x,H1,I1,r1,q1⟩=>⟨σ,H1,I1,q1⟩) I.quiet hs
def tRet (te:TE):TS:=λD σ H=>te σ H D.rt
theorem zcn (he:PE X e te):PS X (.Return (some e) pos) (tRet te):=by intro pJ s σ H D I h;exact wpAny_Return_some (thn (he pJ s σ H _ I h) λv s1 ⟨x,H1,I1,r1,q1⟩=>⟨x,σ,H1,I1,r1,q1⟩)
def zie:TS:=λD _ H=>D.rt .non H
theorem zdx:PS X (.Return none pos) zie:=λ_ _ σ H _ I h=>wpAny_Return_none ⟨.non,σ,H,I,rfl,h⟩
def tIfS (c:TT) (t u:TS):TS:=λD σ H=>c σ H λb H1=>if b=true then t D σ H1 else u D σ H1
theorem zi8 {c:Expr}{a b:List Stmt}{tc:TT}(hc:PT X c tc) (ha:PSs X a t) (hb:PSs X b u):PS X (.If c a b pos) (tIfS tc t u):=by
 intro pJ s σ H D I h;refine wpAny_If (thn (hc pJ s σ H _ I h) λd s1 ⟨H1,I1,q1⟩=>?_);cases d with
 | true=>exact ha pJ s1 σ H1 D I1 q1
 | false=>exact hb pJ s1 σ H1 D I1 q1
end
abbrev TG:=V->St->Hp->(St->Hp->Prop)->Prop
abbrev TGs:=List V->St->Hp->(St->Hp->Prop)->Prop
def PG (X:Cx) (target:Expr) (t:TG):Prop:=
 ∀ (pJ:List (Addr×Obj)) (s:μ) (σ:St) (H:Hp) (v:V) (u:δ) (Q:St->Hp->Prop),Inv X pJ σ H s->RelV v u->t v σ H Q ->
  Λ (Ν X.prog X.w) X.A (gF target X.env u) (λ_ s'=>∃ σ' H',Inv X pJ σ' H' s'/\Q σ' H') X.xe s
def PGs (X:Cx) (ts:List Expr) (t:TGs):Prop:=
 ∀ (pJ:List (Addr×Obj)) (s:μ) (σ:St) (H:Hp) (vs:List V) (us:List δ) (Q:St->Hp->Prop),Inv X pJ σ H s->Vals vs us->t vs σ H Q ->
  Λ (Ν X.prog X.w) X.A (assignInOrder ((bz ts X.env).map (·.2)) us) (λ_ s'=>∃ σ' H',Inv X pJ σ' H' s'/\Q σ' H') X.xe s
abbrev TSet:=V->V->V->Hp->(Hp->Prop)->Prop
def PSet (X:Cx) (t:TSet):Prop:=
 ∀ (pJ:List (Addr×Obj)) (s:μ) (σ:St) (H:Hp) (o i v:V) (ov iv u:δ) (Q:Hp->Prop),Inv X pJ σ H s->RelV o ov->RelV i iv->RelV v u->t o i v H Q ->
  Λ (Ν X.prog X.w) X.A (setItem ov iv u) (λ_ s'=>∃ H',Inv X pJ σ H' s'/\Q H') X.xe s
section
variable {X:Cx}{pos:Pos}
def Zr (i:Nat):TG:=λv σ H Q=>Q (σ.set i (some v)) H
theorem X8 {i:Nat}{x:Str}(hN:X.N.Nodup) (hi:X.N[i]?=some x) (hx:Loc X.env.scope x) (hf:X.fn x=true\/X.env.scope.names.lookup x=some .local:=by first | exact .inl rfl | exact .inr rfl | assumption):PG X (.Name x pos) (Zr i):=by intro pJ s σ H v u Q I r h;exact wpAny_assign_Name (Ve I hN hi hx r (λs' I'=>⟨_,H,I',h⟩) hf)
def gNil:TGs:=λvs σ H Q=>vs=[]/\Q σ H
def zbG (t:TG) (u:TGs):TGs:=λvs σ H Q=>∃ v r,vs=v::r/\t v σ H λσ' H'=>u r σ' H' Q
theorem Ks:PGs X [] gNil:=by intro pJ s σ H vs us Q I r h;obtain ⟨e,h⟩:=h;subst e;cases r;exact assignInOrder_nil ⟨σ,H,I,h⟩
theorem qZ {e:Expr}{es:List Expr}{t:TG}{u:TGs}(h1:PG X e t) (h2:PGs X es u)
  (hs:(bz (e::es) X.env).map (·.2)=gF e X.env::(bz es X.env).map (·.2):=by rfl):PGs X (e::es) (zbG t u):=by
 intro pJ s σ H vs us Q I r h;obtain ⟨v,vr,e1,h⟩:=h;subst e1;cases r with
 | cons r rr=>
  rw [hs];refine assignInOrder_cons (thn (h1 pJ s σ H _ _ _ I r h) λ_ s1 ⟨σ1,H1,I1,q1⟩=>?_);exact h2 pJ s1 σ1 H1 _ _ Q I1 rr q1
def gTup (K:W.Frag) (n:Nat) (t:TGs):TG:=λv σ H Q=>∃ a xs,v=.ref a/\SqT K H a xs/\xs.length=n/\t xs σ H Q
theorem Ku {es:List Expr}{k:Nat}{t:TGs}{n:Nat}(hc:X.calm=true) (h:PGs X es t)
  (hn:(bz es X.env).length=n:=by rfl) (hst:(bz es X.env).findIdx? (·.1)=none:=by rfl):PG X (.Tuple es k pos) (gTup X.K n t):=by
 intro pJ s σ H v u Q I r hw;obtain ⟨a,xs,e1,hq,hl,hw⟩:=hw;subst e1;cases r;obtain ⟨its,rv,ht,hz⟩:=I.tuple hq;refine assign_Tuple_tuple (I.ok.hd hc) ht (by simp [hn,<- hl,rv.length]) hst λh' hx=>?_
 have I1:Inv X pJ σ H { s with heap:=h' }:=I.kept (t':=s.toks) λb o e=>hx b o (Φ (Δ e)) e
 exact h pJ _ σ H xs _ Q I1 (by simpa using rv) hw
def gSub (to ti:TE) (t:TSet):TG:=λv σ H Q=>to σ H λo H1=>ti σ H1 λi H2=>t o i v H2 λH3=>Q σ H3
theorem zco {o i:Expr}{to ti:TE}{t:TSet}(ho:PE X o to) (hi:PE X i ti) (hs:PSet X t)
  (ha:∀ v,gF (.Subscript o i pos) X.env v=(do
   let ov <- gR [v] (eval o X.env)
   let iv <- gR [v,ov] (eval i X.env)
   standAt pos
   gR [v,ov,iv] (setItem ov iv v)
   release [v,ov,iv] []):=by intro _;rfl):PG X (.Subscript o i pos) (gSub to ti t):=by intro pJ s σ H v u Q I r h;rw [ha];refine ζ (bC (thn (ho pJ s σ H _ I h) λov s1 ⟨x,H1,I1,r1,q1⟩=>?_));refine ζ (bC (thn (hi pJ s1 σ H1 _ I1 q1) λiv s2 ⟨y,H2,I2,r2,q2⟩=>?_));refine ζ (lZ (ζ (bC (thn (hs pJ s2 σ H2 x y v ov iv u _ I2 r1 r2 r q2) λ_ s3 ⟨H3,I3,q3⟩=>?_))));exact wpAny_release ⟨σ,H3,I3,q3⟩
def tAsg (te:TE) (g:TG):TS:=λD σ H=>te σ H λx H1=>g x σ H1 D.nx
theorem kZ {tg e:Expr}{te:TE}{g:TG}(he:PE X e te) (hg:PG X tg g) (hs:dq [tg] e pos.line X.env=pure false:=by rfl) (hw:cI [tg] e X.env=pure none:=by rfl)
  (h1:(bz [tg] X.env).map (·.2)=[gF tg X.env]:=by rfl):PS X (.Assign [tg] e pos) (tAsg te g):=by intro pJ s σ H D I h;refine wpAny_Assign_stores (thn (he pJ s σ H _ I h) λv s1 ⟨x,H1,I1,r1,q1⟩=>?_) hs hw;rw [h1];exact thn (hg pJ s1 σ H1 x v _ I1 r1 q1) λ_ s2 q=>q
def zfr (c:TT) (tb:TS):TS:=λD σ H=>∃ W:Nat->St->Hp->Prop,(∃ m,W m σ H)/\∀ m σ H,W m σ H ->
 c σ H λb H1=>if b=true then ∃ N:St->Hp->Prop,(∀ σ' H',N σ' H'->∃ m',m' < m/\W m' σ' H')/\tb { D with nx:=N,ct:=N,bk:=D.nx } σ H1 else D.nx σ H1
theorem zba {c:Expr}{body:List Stmt}{tc:TT}{tb:TS}(hp:lQ (Ν X.prog X.w) X.A X.env X.xe) (hc:PT X c tc) (hb:PSs X body tb):PS X (.While c body [] pos) (zfr tc tb):=by
 intro pJ s σ H D I h;obtain ⟨W,⟨m0,w0⟩,turn⟩:=h;refine wpAny_While (codeAny_whileLoop (λn s'=>∃ σ' H',Inv X pJ σ' H' s'/\W n σ' H') ?_ m0 ⟨σ,H,I,w0⟩);rintro n s1 ⟨σ1,H1,I1,w1⟩;refine di hp (thn (hc pJ s1 σ1 H1 _ I1 (turn n σ1 H1 w1)) λb s2 ⟨H2,I2,q2⟩=>?_);cases b with
 | true=>
  obtain ⟨N,hN,q2⟩:=q2;rw [if_pos rfl];refine di hp (thn (hb pJ s2 σ1 H2 _ I2 q2) λf s3 q3=>?_);cases f with
  | next=>
   obtain ⟨σ3,H3,I3,n3⟩:=q3;obtain ⟨m',hm,w3⟩:=hN σ3 H3 n3;exact ⟨m',hm,σ3,H3,I3,w3⟩
  | cont=>
   obtain ⟨σ3,H3,I3,n3⟩:=q3;obtain ⟨m',hm,w3⟩:=hN σ3 H3 n3;exact ⟨m',hm,σ3,H3,I3,w3⟩
  | brk=>exact q3
  | ret v=>exact q3
 | false=>
  rw [if_neg Μ];exact fV ⟨σ1,H2,I2,q2⟩
end
structure It where
 go:Nat->Hp->Prop
 yld:Nat->Hp->V->Hp->Prop
 stop:Nat->Hp->Prop
def FpOk (X:Cx) (pJ:List (Addr×Obj)) (H:Hp) (b:Addr):Prop:=
 H b=none/\b≠X.env.locals/\b ∉ X.fs/\(b∈X.ex\/X.sy.heap.objs.size<=b)/\(∀ x c,X.env.cells.lookup x=some c->c≠b)/\∀ p∈X.pn++pJ,p.1≠b
theorem Inv.fpOk {X:Cx}{pJ:List (Addr×Obj)}{σ:St}{H H':Hp}{s:μ}{b:Addr}(I:Inv X pJ σ H s) (hb:s.heap.objs.size<=b) (hn:H' b=none):FpOk X pJ H' b:=by
 refine ⟨hn,cN (Ω I.lt hb),I.nofs hb,.inr (Ϧ I.sz hb),λx c e z=>?_,λp hp z=>?_⟩
 ·obtain ⟨v,q⟩:=I.cell x c e;exact absurd (Ω q.lt (by rw [z];exact hb)) (cA _)
 ·exact absurd (Ω (Δ (I.pin p hp).1) (by rw [z];exact hb)) (cA _)
structure Turn (P:Τ) (w:ϓ) (K:W.Frag) (tg:Expr) (J:It) (fp:List Addr) (it:Addr) (tn:Nat->Heap->Prop):Prop where
 mem:it∈fp
 obj:∀ i h,tn i h->∀ b∈fp,∃ o,h.get? b=some o/\∀ v,o.data≠.cell v
 keep:∀ i h h',tn i h->(∀ b∈fp,∀ o,h.get? b=some o->h'.get? b=some o)->tn i h'
 item:∀ (X:Cx),X.prog=P->X.w=w->X.K=K->X.calm=true->∀ (i:Nat) (pJ:List (Addr×Obj)) (s:μ) (σ:St) (H:Hp) (E:VSP),Inv X pJ σ H s->(∀ b∈fp,FpOk X pJ H b)->tn i s.heap->J.go i H ->
  Λ (Ν P w) X.A (pyNext (.ref it)) (λr s1=>∃ u,r=some u /\
   Λ (Ν P w) X.A (oE tg (.ref it) u) (λ_ s2=>∃ x H',Inv X pJ σ H' s2/\RelV x u/\J.yld i H x H'/\tn (i+1) s2.heap/\∀ b∈fp,H' b=none) E s1) E s
 done:∀ (X:Cx),X.prog=P->X.w=w->X.K=K->X.calm=true->∀ (i:Nat) (pJ:List (Addr×Obj)) (s:μ) (σ:St) (H:Hp) (E:VSP),Inv X pJ σ H s->(∀ b∈fp,FpOk X pJ H b)->tn i s.heap->J.stop i H ->
  Λ (Ν P w) X.A (pyNext (.ref it)) (λr s1=>r=none/\Inv X pJ σ H s1) E s
 self:∀ (A:ϙ) (i:Nat) (s:μ) (Q:VSP) (E:VSP),tn i s.heap->Q (.ref it) s->Λ (Ν P w) A (mG (.ref it)) Q E s
abbrev TI:=St->Hp->(It->Hp->Prop)->Prop
def PIE (X:Cx) (pJ:List (Addr×Obj)) (σ:St) (tg:Expr) (R:It->Hp->Prop) (itv:δ) (s2:μ):Prop:=
 ∃ (it:Addr) (fp:List Addr) (tn:Nat->Heap->Prop) (J:It) (H':Hp),itv=.ref it/\Inv X pJ σ H' s2/\Turn X.prog X.w X.K tg J fp it tn/\tn 0 s2.heap/\(∀ b∈fp,FpOk X pJ H' b)/\R J H'
def PI (X:Cx) (tg iter:Expr) (wi:TI):Prop:=
 ∀ (pJ:List (Addr×Obj)) (s:μ) (σ:St) (H:Hp) (R:It->Hp->Prop),Inv X pJ σ H s->wi σ H R ->
  Λ (Ν X.prog X.w) X.A (eval iter X.env) (λv s1=>Λ (Ν X.prog X.w) X.A (mG v) (PIE X pJ σ tg R) X.xe s1) X.xe s
theorem QZ {M:Model}{A:ϙ}{E:VSP}{s:μ}{tg:Expr}{it:Addr}{u:δ}{o:Obj}{n:String}{vs:Array δ}{Q:Unit->μ->Prop}(ho:s.heap.get? it=some o) (hc:o.cls=.type n) (hd:o.data=.fields vs)
    (hn:["enumerate","zip","dict_itemiterator","dict_reverseitemiterator","odict_iterator","itertools.zip_longest","itertools.pairwise"].contains n=false) (hQ:Q () s):Λ M A (oE tg (.ref it) u) Q E s:=by
  unfold oE;cases tg <;> first
    | exact θ hQ
    | (cases u <;> first
        | exact θ hQ
        | (refine ζ (wpAny_load ho ?_)
           rw [hc,hd];show Λ M A (if (["enumerate","zip","dict_itemiterator","dict_reverseitemiterator","odict_iterator","itertools.zip_longest","itertools.pairwise"].contains n&&vs[0]?==some (aK _))=true then _ else _) Q E s
           rw [if_neg (by intro h;rw [hn,Bool.false_and] at h;cases h)]
           exact θ hQ))
noncomputable def Itl (K:W.Frag) (a:Addr):It:=
 ⟨λi H=>∃ xs x,SqL K H a xs/\xs[i]?=some x,λi H x H'=>H'=H/\∀ xs,SqL K H a xs->xs[i]?=some x,λi H=>∃ xs,SqL K H a xs/\xs.length<=i⟩
noncomputable def Itt (K:W.Frag) (a:Addr):It:=
 ⟨λi H=>∃ xs x,SqT K H a xs/\xs[i]?=some x,λi H x H'=>H'=H/\∀ xs,SqT K H a xs->xs[i]?=some x,λi H=>∃ xs,SqT K H a xs/\xs.length<=i⟩
noncomputable def Itr (lo:Int) (n:Nat):It:=⟨λi _=>i < n,λi H x H'=>H'=H/\x=.int (lo+i),λi _=>n<=i⟩
theorem Jx {P:Τ}{w:ϓ}{K:W.Frag}{tg:Expr}(a it:Addr):Turn P w K tg (Itl K a) [it] it (λi h=>h.IsListIter it a i) where
 mem:=by simp
 obj:=λi h st b hb=>by
  have e:b=it:=by simpa using hb
  subst e;obtain ⟨o,e,c,d⟩:=st;exact ⟨o,e,λv z=>by rw [d] at z;cases z⟩
 keep:=λi h h' st k=>st.at λo e=>k it (by simp) o e
 item:=by
  intro X hP hw hK hc i pJ s σ H E I hf st hg;subst hP hw hK;obtain ⟨xs,x,hq,hx⟩:=hg;obtain ⟨its,rv,p,hz⟩:=I.list hq;obtain ⟨u,hu,ru⟩:=rv.get hx;obtain ⟨f0,f1,f2,f3,f4,f5⟩:=hf it (by simp);refine wpAny_pyNext_list_item st p.isList (x:=u) (by simpa using hu) λh' st' sb=>?_
  have I1:Inv X pJ σ H { s with heap:=h' }:=I.turned (t':=s.toks) (λb o hb e=>(sb.2 b hb).trans e) f0 f1 f3 f4 f5;obtain ⟨o,e,c,d⟩:=id st';exact ⟨u,rfl,QZ (s:={ s with heap:=h' }) e c d (by decide) ⟨x,H,I1,ru,⟨rfl,λys hy=>by rw [I.Vz hy hq];exact hx⟩,st',λb hb=>(hf b hb).1⟩⟩
 done:=by intro X hP hw hK hc i pJ s σ H E I hf st hg;subst hP hw hK;obtain ⟨xs,hq,hx⟩:=hg;obtain ⟨its,rv,p,hz⟩:=I.list hq;obtain ⟨f0,f1,f2,f3,f4,f5⟩:=hf it (by simp);have hl:=rv.length;exact wpAny_pyNext_list_end (I.ok.hd hc) st p.isList (by simp;lia) λh' eb=>⟨rfl,I.turned (t':=s.toks) (λb o hb e=>eb b o hb e) f0 f1 f3 f4 f5⟩
 self:=λ_ _ _ _ _ st h=>wpAny_pyIter_listiter st h
theorem Uo {P:Τ}{w:ϓ}{K:W.Frag}{tg:Expr}(a it:Addr):Turn P w K tg (Itt K a) [it] it (λi h=>h.IsTupleIter it a i) where
 mem:=by simp
 obj:=λi h st b hb=>by
  have e:b=it:=by simpa using hb
  subst e;obtain ⟨o,e,c,d⟩:=st;exact ⟨o,e,λv z=>by rw [d] at z;cases z⟩
 keep:=λi h h' st k=>st.at λo e=>k it (by simp) o e
 item:=by
  intro X hP hw hK hc i pJ s σ H E I hf st hg;subst hP hw hK;obtain ⟨xs,x,hq,hx⟩:=hg;obtain ⟨its,rv,p,hz⟩:=I.tuple hq;obtain ⟨u,hu,ru⟩:=rv.get hx;obtain ⟨f0,f1,f2,f3,f4,f5⟩:=hf it (by simp);refine wpAny_pyNext_tuple_item st (show s.heap.IsTuple a its.toArray from p) (x:=u) (by simpa using hu) λh' st' sb=>?_
  have I1:Inv X pJ σ H { s with heap:=h' }:=I.turned (t':=s.toks) (λb o hb e=>(sb.2 b hb).trans e) f0 f1 f3 f4 f5;obtain ⟨o,e,c,d⟩:=id st';exact ⟨u,rfl,QZ (s:={ s with heap:=h' }) e c d (by decide) ⟨x,H,I1,ru,⟨rfl,λys hy=>by rw [I.Z2 hy hq];exact hx⟩,st',λb hb=>(hf b hb).1⟩⟩
 done:=by intro X hP hw hK hc i pJ s σ H E I hf st hg;subst hP hw hK;obtain ⟨xs,hq,hx⟩:=hg;obtain ⟨its,rv,p,hz⟩:=I.tuple hq;obtain ⟨f0,f1,f2,f3,f4,f5⟩:=hf it (by simp);have hl:=rv.length;exact wpAny_pyNext_tuple_end (I.ok.hd hc) st (show s.heap.IsTuple a its.toArray from p) (by simp;lia) λh' eb=>⟨rfl,I.turned (t':=s.toks) (λb o hb e=>eb b o hb e) f0 f1 f3 f4 f5⟩
 self:=λ_ _ _ _ _ st h=>wpAny_pyIter_tupleiter st h
theorem Uq {P:Τ}{w:ϓ}{K:PySem.W.Frag}{tg:Expr}(it:Addr) (lo:Int) (n:Nat):Turn P w K tg (Itr lo n) [it] it (λi h=>IsRangeIter h it (lo+(i:Nat)*1) ((n:Int) - (i:Nat)) 1) where
 mem:=by simp
 obj:=λi h st b hb=>by
  have e:b=it:=by simpa using hb
  subst e
  exact ⟨_,st,λv z=>by
   have z':aj _=Data.cell v:=z
   cases z'⟩
 keep:=λi h h' st k=>k it (by simp) _ st
 item:=by
  intro X hP hw hK hc i pJ s σ H E I hf st hg;subst hP hw hK;obtain ⟨f0,f1,f2,f3,f4,f5⟩:=hf it (by simp);have W:=Walks.range (prog:=X.prog) (w:=X.w) (I.ok.hd hc) it lo 1 n;refine W.item i s _ _ hg st λv h' tk hv st' kk=>?_
  obtain ⟨t,rfl⟩:=hv;have I1:Inv X pJ σ H { s with heap:=h',toks:=tk }:=I.turned (λb o hb e=>kk b o (by simpa using hb) e) f0 f1 f3 f4 f5;refine ⟨_,rfl,QZ (s:={ s with heap:=h',toks:=tk }) (n:="range_iterator") st' rfl rfl (by decide) ⟨.int (lo+i),H,I1,⟨t,?_⟩,⟨rfl,rfl⟩,st',λb hb=>(hf b hb).1⟩⟩;rw [Int.mul_one]
 done:=by intro X hP hw hK hc i pJ s σ H E I hf st hg;subst hP hw hK;obtain ⟨f0,f1,f2,f3,f4,f5⟩:=hf it (by simp);exact wpAny_pyNext_range_end (I.ok.hd hc) st (by have:n<=i:=hg;lia) λh' eb=>⟨rfl,I.turned (t':=s.toks) (λb o hb e=>eb b o hb e) f0 f1 f3 f4 f5⟩
 self:=λ_ _ _ _ _ st h=>wpAny_pyIter_rangeiter st h
section
variable {X:Cx}{tg:Expr}
theorem za6 {pJ:List (Addr×Obj)}{σ:St}{H:Hp}{s:μ}{R:It->Hp->Prop}{E:VSP}{lo hi:Int}{t u v:Tok}{tk:Nat}(I:Inv X pJ σ H s) (h1:-(2 ^ 62)<=lo) (h2:lo < 2 ^ 62) (h3:-(2 ^ 62)<=hi) (h4:hi < 2 ^ 62)
  (q:R (Itr lo (hi - lo).toNat) H):Λ (Ν X.prog X.w) X.A (mG (.ref s.heap.objs.size)) (PIE X pJ σ tg R) E { s with heap:=s.heap.push { cls:=.type "range",data:=.fields #[.int lo t,.int hi u,.int 1 v] },toks:=tk }:=by
 refine wpAny_pyIter_range (IsRange.new ..) (small_one h1 h2 h3 h4) ?_;have I1:Inv X pJ σ H { s with heap:=s.heap.push { cls:=.type "range",data:=.fields #[.int lo t,.int hi u,.int 1 v] },toks:=tk }:=I.kept λb o e=>η _ e
 refine ⟨(s.heap.push { cls:=.type "range",data:=.fields #[.int lo t,.int hi u,.int 1 v] }).objs.size,[(s.heap.push { cls:=.type "range",data:=.fields #[.int lo t,.int hi u,.int 1 v] }).objs.size],_,_,H,rfl,
  I1.kept (t':=tk) λb o e=>η _ e,Uq _ lo (hi - lo).toNat,?_,λb hb=>?_,q⟩
 ·have e1:lo+((0:Nat):Int)*1=lo:=by simp
  have e2:(((hi - lo).toNat:Nat):Int) - ((0:Nat):Int)=ώ.Range.rangeSize lo hi 1:=by rw [rangeSize_one];split <;> lia
  show IsRangeIter _ _ (lo+((0:Nat):Int)*1) ((((hi - lo).toNat:Nat):Int) - ((0:Nat):Int)) 1
  rw [e1,e2];exact Θ _ rfl
 ·have e:b=(s.heap.push { cls:=.type "range",data:=.fields #[.int lo t,.int hi u,.int 1 v] }).objs.size:=by simpa using hb
  subst e;exact I1.fpOk (Β _) (I1.hok.fresh (Β _))
def zjy (ta:TA):TI:=λσ H R=>ta σ H λvs H1=>∃ j:Int,vs=[.int j]/\-(2 ^ 62)<=j/\j < 2 ^ 62/\R (Itr 0 j.toNat) H1
theorem Kq {a:Expr}{ta:TA}{p pos:Pos}(hg:Gl X "range") (hm:X.mg "range"=none) (ha:PA X [a] ta) (hs:ϰ [a] X.env=[(false,eval a X.env)]:=by rfl):PI X tg (.Call (.Name "range" p) [a] [] pos) (zjy ta):=by
 intro pJ s σ H R I h;refine Call_ (YG I hg hm boot_range (eG (thn (ha pos pJ s σ H _ I h) λus s1 ⟨vs,H1,I1,r1,q1⟩=>?_) hs rfl));obtain ⟨j,e,q1,q2,q⟩:=q1;subst e;cases r1 with
 | cons r rr=>
  cases rr;obtain ⟨t,rfl⟩:=r;exact call_range_1 (za6 I1 (by lia) (by lia) q1 q2 (by simpa using q))
def tFor (wi:TI) (g:TG) (tb:TS):TS:=λD σ H=>wi σ H λJ H1=>∃ W:Nat->Nat->St->Hp->Prop,(∃ m,W 0 m σ H1)/\∀ i m σ H,W i m σ H ->
 (J.stop i H/\D.nx σ H)\/(J.go i H/\∃ N:St->Hp->Prop,(∀ σ' H',N σ' H'->∃ m',m' < m/\W (i+1) m' σ' H')/\∀ x H',J.yld i H x H'->g x σ H' λσ2 H2=>tb { D with nx:=N,ct:=N,bk:=D.nx } σ2 H2)
noncomputable def Yr (fp:List Addr) (h:Heap):List (Addr×Obj):=fp.filterMap λb=>(h.get? b).map λo=>(b,o)
theorem xZ {fp:List Addr}{h:Heap}{b:Addr}{o:Obj}(hb:b∈fp) (e:h.get? b=some o):(b,o)∈Yr fp h:=lz.mpr ⟨b,hb,by rw [e];rfl⟩
theorem KY {fp:List Addr}{h:Heap}{p:Addr×Obj}(hp:p∈Yr fp h):p.1∈fp/\h.get? p.1=some p.2:=by
 obtain ⟨b,hb,e⟩:=lz.mp hp;cases q:h.get? b with
 | none=>rw [q] at e;cases e
 | some o=>
  rw [q] at e;have e':(b,o)=p:=ϕ e;subst e';exact ⟨hb,q⟩
theorem Inv.pinned {pJ:List (Addr×Obj)}{σ:St}{H:Hp}{s:μ}{fp:List Addr}(I:Inv X pJ σ H s) (hf:∀ b∈fp,FpOk X pJ H b) (ho:∀ b∈fp,∃ o,s.heap.get? b=some o/\∀ v,o.data≠.cell v):Inv X (pJ++Yr fp s.heap) σ H s:=
 I.X7 λp hp=>(ϋ.mp hp).elim (λz=>I.pin p (ϝ _ z)) λz=>by obtain ⟨hb,e⟩:=KY z;obtain ⟨f0,f1,f2,_⟩:=hf p.1 hb;obtain ⟨o,e',d⟩:=ho p.1 hb;rw [e] at e';cases e';exact ⟨e,f0,f1,f2,d⟩
theorem Inv.wY {pJ pl:List (Addr×Obj)}{σ:St}{H:Hp}{s:μ}(I:Inv X (pJ++pl) σ H s):Inv X pJ σ H s:=I.X7 λp hp=>I.pin p (ϝ _ (o9 _ hp))
theorem zgg {iter:Expr}{body:List Stmt}{wi:TI}{g:TG}{tb:TS}{pos:Pos}(hp:lQ (Ν X.prog X.w) X.A X.env X.xe) (hc:X.calm=true) (hi:PI X tg iter wi) (hg:PG X tg g) (hb:PSs X body tb)
  (hs:∀ x,cC iter X.env x=pure x:=by intro _;rfl):PS X (.For tg iter body [] pos) (tFor wi g tb):=by
 intro pJ s σ H D I h;refine wpAny_For (thn (hi pJ s σ H _ I h) λv s1 h1=>thn h1 λitv s2 h2=>?_) hs;obtain ⟨it,fp,tn,J,H2,e,I2,T,st2,f2,W,⟨m0,w0⟩,turn⟩:=h2;subst e;have stat:∀ {H':Hp},(∀ b∈fp,H' b=none)->∀ b∈fp,FpOk X pJ H' b:=λhn b hb=>⟨hn b hb,(f2 b hb).2⟩
 refine codeAny_forLoop_any (λn s'=>∃ i σ' H',Inv X pJ σ' H' s'/\tn i s'.heap/\(∀ b∈fp,H' b=none)/\W i n σ' H') ?_ m0 ⟨0,σ,H2,I2,st2,λb hb=>(f2 b hb).1,w0⟩;rintro n s3 ⟨i,σ3,H3,I3,st3,fr3,w3⟩;rcases turn i n σ3 H3 w3 with ⟨stop,qn⟩ | ⟨go,N,hN,step⟩
 ·refine di hp (thn (T.done X rfl rfl rfl hc i pJ s3 σ3 H3 X.xe I3 (stat fr3) st3 stop) λr s4 ⟨hr,I4⟩=>?_);subst hr;exact fV ⟨σ3,H3,I4,qn⟩
 ·refine di hp (thn (T.item X rfl rfl rfl hc i pJ s3 σ3 H3 X.xe I3 (stat fr3) st3 go) λr s4 ⟨u,hr,h4⟩=>?_);subst hr;refine di hp (thn h4 λ_ s5 ⟨x,H5,I5,r5,y5,st5,fr5⟩=>?_);have I5':=I5.pinned (stat fr5) (T.obj _ _ st5);refine di hp (thn (hg _ s5 σ3 H5 x u _ I5' r5 (step x H5 y5)) λ_ s6 ⟨σ6,H6,I6,q6⟩=>?_);refine di hp (thn (hb _ s6 σ6 H6 _ I6 q6) λf s7 q7=>?_);have again:∀ {σ7:St}{H7:Hp},Inv X (pJ++Yr fp s5.heap) σ7 H7 s7->N σ7 H7->∃ m,m < n/\∃ i σ' H',Inv X pJ σ' H' s7/\tn i s7.heap/\(∀ b∈fp,H' b=none)/\W i m σ' H':=λ{σ7 H7} I7 n7=>by obtain ⟨m',hm,w7⟩:=hN σ7 H7 n7;refine ⟨m',hm,i+1,σ7,H7,I7.wY,T.keep _ _ _ st5 λb hb o e=>(I7.pin (b,o) (ϝ _ (ϝ _ (xZ hb e)))).1,λb hb=>?_,w7⟩;obtain ⟨o,e,d⟩:=T.obj _ _ st5 b hb;exact (I7.pin (b,o) (ϝ _ (ϝ _ (xZ hb e)))).2.1
  cases f with
  | next=>obtain ⟨σ7,H7,I7,n7⟩:=q7;exact again I7 n7
  | cont=>obtain ⟨σ7,H7,I7,n7⟩:=q7;exact again I7 n7
  | brk=>obtain ⟨σ7,H7,I7,q7⟩:=q7;exact ⟨σ7,H7,I7.wY,q7⟩
  | ret v=>obtain ⟨x7,σ7,H7,I7,r7,q7⟩:=q7;exact ⟨x7,σ7,H7,I7.wY,r7,q7⟩
end
abbrev R2:=V->V->Hp->VK->Prop
def OpR (X:Cx) (f:δ->δ->Sem δ) (r:R2):Prop:=
 ∀ (pJ:List (Addr×Obj)) (s:μ) (σ:St) (H:Hp) (x y:V) (v u:δ) (Q:VK),Inv X pJ σ H s->RelV x v->RelV y u->r x y H Q ->
  Λ (Ν X.prog X.w) X.A (f v u) (EP X pJ σ Q) X.xe s
def UnR (X:Cx) (f:δ->Sem δ) (r:V->Hp->VK->Prop):Prop:=
 ∀ (pJ:List (Addr×Obj)) (s:μ) (σ:St) (H:Hp) (x:V) (v:δ) (Q:VK),Inv X pJ σ H s->RelV x v->r x H Q ->
  Λ (Ν X.prog X.w) X.A (f v) (EP X pJ σ Q) X.xe s
def yu (X:Cx) (f:δ) (r:List V->Hp->VK->Prop):Prop:=
 ∀ (pJ:List (Addr×Obj)) (s:μ) (σ:St) (H:Hp) (xs:List V) (us:List δ) (Q:VK),Inv X pJ σ H s->Vals xs us->r xs H Q ->
  Λ (Ν X.prog X.w) X.A (call f us) (EP X pJ σ Q) X.xe s
def tOp (r:R2) (ta tb:TE):TE:=λσ H Q=>ta σ H λx H1=>tb σ H1 λy H2=>r x y H2 Q
def tUn (r:V->Hp->VK->Prop) (ta:TE):TE:=λσ H Q=>ta σ H λx H1=>r x H1 Q
def rI (C:Int->Int->Prop) (g:Int->Int->V):R2:=λx y H Q=>∃ i j,x=.int i/\y=.int j/\C i j/\Q (g i j) H
def rI0 (g:Int->Int->V):R2:=λx y H Q=>∃ i j,x=.int i/\y=.int j/\Q (g i j) H
def rU (g:Int->V):V->Hp->VK->Prop:=λx H Q=>∃ i,x=.int i/\Q (g i) H
section
variable {X:Cx}{a b c:Expr}{ta tb tc:TE}{pos:Pos}
theorem binT (ha:PE X a ta) (hb:PE X b tb) {pJ:List (Addr×Obj)}{s:μ}{σ:St}{H:Hp}{R:V->V->Hp->Prop}(I:Inv X pJ σ H s)
  (h:ta σ H λx H1=>tb σ H1 λy H2=>R x y H2) {Q:VSP}{f:δ->δ->Sem δ}
  (hf:∀ v u s2 x y H2,Inv X pJ σ H2 s2->RelV x v->RelV y u->R x y H2->Λ (Ν X.prog X.w) X.A (f v u) Q X.xe s2):
  Λ (Ν X.prog X.w) X.A (eval a X.env) (λv s₁=>Λ (Ν X.prog X.w) X.A (eval b X.env) (λu s₂=>Λ (Ν X.prog X.w) X.A (f v u) Q X.xe s₂) X.xe s₁) X.xe s:=by
 refine thn (ha pJ s σ H _ I h) λv s1 ⟨x,H1,I1,r1,q1⟩=>?_
 refine thn (hb pJ s1 σ H1 _ I1 q1) λu s2 ⟨y,H2,I2,r2,q2⟩=>?_
 exact hf v u s2 x y H2 I2 r1 r2 q2
theorem zjb {op:lF}{r:R2}(ho:OpR X (bZ op) r) (ha:PE X a ta) (hb:PE X b tb):PE X (.BinOp a op b pos) (tOp r ta tb):=by intro pJ s σ H Q I h;exact wpAny_BinOp (binT ha hb I h λv u s2 x y H2 I2 rx ry q=>ho pJ s2 σ H2 x y v u Q I2 rx ry q)
theorem zi9 {op:UnaryOp}{r:V->Hp->VK->Prop}(ho:UnR X (unaryOp op) r) (ha:PE X a ta):PE X (.UnaryOp op a pos) (tUn r ta):=by intro pJ s σ H Q I h;exact UnaryOp_ (thn (ha pJ s σ H _ I h) λv s1 ⟨x,H1,I1,r1,q1⟩=>ho pJ s1 σ H1 x v Q I1 r1 q1)
theorem opI {f:δ->δ->Sem δ}{C:Int->Int->Prop}{g:Int->Int->Int}
  (rule:∀ (i j:Int) (t u:Tok) (s:μ) (Q:VSP) (E:VSP),C i j->Q (.int (g i j) s.toks) { s with toks:=s.toks+1 }->Λ (Ν X.prog X.w) X.A (f (.int i t) (.int j u)) Q E s):
  OpR X f (rI C λi j=>.int (g i j)):=by intro pJ s σ H x y v u Q I rx ry h;obtain ⟨i,j,rfl,rfl,hc,q⟩:=h;obtain ⟨t,rfl⟩:=rx;obtain ⟨t',rfl⟩:=ry;exact rule i j t t' s _ _ hc ⟨.int (g i j),H,I.tok _,⟨_,rfl⟩,q⟩
theorem opI0 {f:δ->δ->Sem δ}{g:Int->Int->Int}
  (rule:∀ (i j:Int) (t u:Tok) (s:μ) (Q:VSP) (E:VSP),Q (.int (g i j) s.toks) { s with toks:=s.toks+1 }->Λ (Ν X.prog X.w) X.A (f (.int i t) (.int j u)) Q E s):
  OpR X f (rI0 λi j=>.int (g i j)):=by intro pJ s σ H x y v u Q I rx ry h;obtain ⟨i,j,rfl,rfl,q⟩:=h;obtain ⟨t,rfl⟩:=rx;obtain ⟨t',rfl⟩:=ry;exact rule i j t t' s _ _ ⟨.int (g i j),H,I.tok _,⟨_,rfl⟩,q⟩
theorem opB0 {f:δ->δ->Sem δ}{g:Int->Int->Bool}
  (rule:∀ (i j:Int) (t u:Tok) (s:μ) (Q:VSP) (E:VSP),Q (.bool (g i j)) s->Λ (Ν X.prog X.w) X.A (f (.int i t) (.int j u)) Q E s):
  OpR X f (rI0 λi j=>.bl (g i j)):=by intro pJ s σ H x y v u Q I rx ry h;obtain ⟨i,j,rfl,rfl,q⟩:=h;obtain ⟨t,rfl⟩:=rx;obtain ⟨t',rfl⟩:=ry;exact rule i j t t' s _ _ ⟨.bl (g i j),H,I,rfl,q⟩
def CPow (i j:Int):Prop:=0<=j/\j<=1000000/\i.natAbs < 2 ^ 64
def CMul (i j:Int):Prop:=(-(2 ^ 64) < i/\i < 2 ^ 64)\/(-(2 ^ 64) < j/\j < 2 ^ 64)
theorem CMul.ok {i j:Int}(h:CMul i j):IntMulOk i j:=by
 rcases h with ⟨h1,h2⟩ | ⟨h1,h2⟩
 ·exact .of_left (intBits_le_64 h1 h2)
 ·exact .of_right (intBits_le_64 h1 h2)
theorem zgF:OpR X (bZ .Add) (rI0 λi j=>.int (i+j)):=opI0 λ_ _ _ _ _ _ _ q=>add_int q
theorem zgv:OpR X (bZ .Sub) (rI0 λi j=>.int (i - j)):=opI0 λ_ _ _ _ _ _ _ q=>sub_int q
theorem zgz:OpR X (bZ .Mult) (rI CMul λi j=>.int (i*j)):=opI λ_ _ _ _ _ _ _ hc q=>mul_int q hc.ok
theorem zgA:OpR X (bZ .Mod) (rI (λ_ j=>0 < j) λi j=>.int (i % j)):=opI λi j _ _ _ _ _ hc q=>by have h1:(0:Int) < j:=hc;exact mod_int' (by lia) (by rw [Int.fmod_eq_emod_of_nonneg i (by lia)];exact q)
theorem zgx:OpR X (bZ .Pow) (rI CPow λi j=>.int (i ^ j.toNat)):=opI λ_ _ _ _ _ _ _ hc q=>pow_int_small hc.1 hc.2.1 hc.2.2 q
theorem unI {f:δ->Sem δ}{g:Int->Int}
  (rule:∀ (i:Int) (t:Tok) (s:μ) (Q:VSP) (E:VSP),Q (.int (g i) s.toks) { s with toks:=s.toks+1 }->Λ (Ν X.prog X.w) X.A (f (.int i t)) Q E s):
  UnR X f (rU λi=>.int (g i)):=by intro pJ s σ H x v Q I rx h;obtain ⟨i,rfl,q⟩:=h;obtain ⟨t,rfl⟩:=rx;exact rule i t s _ _ ⟨.int (g i),H,I.tok _,⟨_,rfl⟩,q⟩
theorem zfe:UnR X (unaryOp .USub) (rU λi=>.int (-i)):=unI λ_ _ _ _ _ q=>neg_int q
theorem Y6 {pJ:List (Addr×Obj)}{σ:St}{H:Hp}{s:μ}{Q:VK}{k k':Bool}(I:Inv X pJ σ H s) (q:Q (.bl k) H) (e:k=k'):EP X pJ σ Q (.bool k') s:=by subst e;exact ⟨.bl k,H,I,rfl,q⟩
theorem zjf:OpR X (ϔ .Lt) (rI0 λi j=>.bl (decide (i < j))):=opB0 λ_ _ _ _ _ _ _ q=>lt_int q
theorem zjg:OpR X (ϔ .LtE) (rI0 λi j=>.bl (decide (i<=j))):=opB0 λ_ _ _ _ _ _ _ q=>le_int q
theorem zjh:OpR X (ϔ .Gt) (rI0 λi j=>.bl (decide (j < i))):=opB0 λ_ _ _ _ _ _ _ q=>gt_int q
theorem zji:OpR X (ϔ .GtE) (rI0 λi j=>.bl (decide (j<=i))):=opB0 λ_ _ _ _ _ _ _ q=>ge_int q
theorem KN:OpR X (ϔ .In) (λx y H Q=>∃ i j,x=.str i/\y=.str j/\Q (.bl (!(fQ j i 0 j.length 1).isEmpty)) H):=by intro pJ s σ H x y v u Q I rx ry h;obtain ⟨i,j,rfl,rfl,q⟩:=h;obtain ⟨t,rfl⟩:=rx;obtain ⟨t',rfl⟩:=ry;exact in_str (Y6 I q rfl)
theorem zgB:OpR X (ϔ .Is) (λx y H Q=>y=.non/\Q (.bl (decide (x=.non))) H):=by
 intro pJ s σ H x y v u Q I rx ry h;obtain ⟨rfl,q⟩:=h;cases ry;refine is_none_gen (Y6 I q ?_);cases x <;> first
  | (cases rx;rfl)
  | (obtain ⟨t,rfl⟩:=rx;rfl)
theorem zdL:OpR X (ϔ .IsNot) (λx y H Q=>y=.non/\Q (.bl (!decide (x=.non))) H):=by
 intro pJ s σ H x y v u Q I rx ry h;obtain ⟨rfl,q⟩:=h;cases ry;refine isnot_none_gen (Y6 I q ?_);cases x <;> first
  | (cases rx;rfl)
  | (obtain ⟨t,rfl⟩:=rx;rfl)
theorem OpR.or {f:δ->δ->Sem δ}{r r':R2}(h:OpR X f r) (h':OpR X f r'):OpR X f (λx y H Q=>r x y H Q\/r' x y H Q):=by
 intro pJ s σ H x y v u Q I rx ry q;rcases q with q | q
 ·exact h pJ s σ H x y v u Q I rx ry q
 ·exact h' pJ s σ H x y v u Q I rx ry q
theorem zdG {op:iB}{r:R2}(ho:OpR X (ϔ op) r) (ha:PE X a ta) (hb:PE X b tb) (hm:my op b=false):PE X (.Compare a [op] [b] pos) (tOp r ta tb):=by intro pJ s σ H Q I h;exact wpAny_Compare1 (binT ha hb I h λv u s2 x y H2 I2 rx ry q=>ho pJ s2 σ H2 x y v u Q I2 rx ry q) hm
def zfs (t:TE):TT:=λσ H Q=>t σ H λx H'=>∃ k,x=.bl k/\Q k H'
theorem zdw {op:iB}{r:R2}(ho:OpR X (ϔ op) r) (ha:PE X a ta) (hb:PE X b tb) (hm:my op b=false):PT X (.Compare a [op] [b] pos) (zfs (tOp r ta tb)):=by
 intro pJ s σ H Q I h
 refine wpAny_isTrue_Compare1 (thn (ha pJ s σ H _ I h) λv s1 ⟨x,H1,I1,r1,q1⟩=>thn (hb pJ s1 σ H1 _ I1 q1) λu s2 ⟨y,H2,I2,r2,q2⟩=>
  thn (ho pJ s2 σ H2 x y v u _ I2 r1 r2 q2) λc s3 ⟨z,H3,I3,r3,k,e,q3⟩=>?_) hm
 subst e;cases r3;exact aH ⟨H3,I3,q3⟩
def JG (r r':R2) (ta tb tc:TE):TE:=λσ H Q=>ta σ H λx H1=>tb σ H1 λy H2=>r x y H2 λz H3=>∃ k,z=.bl k /\
 (if k=true then tc σ H3 λw' H4=>r' y w' H4 Q else Q (.bl false) H3)
theorem zbl {op op':iB}{r r':R2}(ho:OpR X (ϔ op) r) (ho':OpR X (ϔ op') r') (ha:PE X a ta) (hb:PE X b tb) (hc:PE X c tc)
  (hm:lastMarks [op,op'] [b,c]=false:=by with_unfolding_all rfl):PE X (.Compare a [op,op'] [b,c] pos) (JG r r' ta tb tc):=by
 intro pJ s σ H Q I h
 refine Compare_chain (thn (ha pJ s σ H _ I h) λv s1 ⟨x,H1,I1,r1,q1⟩=>chain_link (thn (hb pJ s1 σ H1 _ I1 q1) λu s2 ⟨y,H2,I2,r2,q2⟩=>
  thn (ho pJ s2 σ H2 x y v u _ I2 r1 r2 q2) λd s3 ⟨z,H3,I3,r3,k,e,q3⟩=>?_)) hm
 subst e;cases r3;refine aH ?_;cases k with
 | false=>exact ite_ff ⟨.bl false,H3,I3,rfl,q3⟩
 | true=>exact ite_tt (chain_last (thn (hc pJ s3 σ H3 _ I3 q3) λw' s4 ⟨z',H4,I4,r4,q4⟩=>ho' pJ s4 σ H4 y z' u w' Q I4 r2 r4 q4))
theorem za9 {op op':iB}{r r':R2}(ho:OpR X (ϔ op) r) (ho':OpR X (ϔ op') r') (ha:PE X a ta) (hb:PE X b tb) (hc:PE X c tc)
  (hm:lastMarks [op,op'] [b,c]=false:=by with_unfolding_all rfl):PT X (.Compare a [op,op'] [b,c] pos) (zfs (JG r r' ta tb tc)):=by
 intro pJ s σ H Q I h
 refine isTrue_chain (thn (ha pJ s σ H _ I h) λv s1 ⟨x,H1,I1,r1,q1⟩=>test_link (thn (hb pJ s1 σ H1 _ I1 q1) λu s2 ⟨y,H2,I2,r2,q2⟩=>
  thn (ho pJ s2 σ H2 x y v u _ I2 r1 r2 q2) λd s3 ⟨z,H3,I3,r3,k,e,q3⟩=>?_)) hm
 subst e;cases r3;refine aH ?_;cases k with
 | false=>
  obtain ⟨k',e',q'⟩:=q3;cases e';exact ite_ff ⟨H3,I3,q'⟩
 | true=>
  refine ite_tt (test_last (thn (hc pJ s3 σ H3 _ I3 q3) λw' s4 ⟨z',H4,I4,r4,q4⟩=>thn (ho' pJ s4 σ H4 y z' u w' _ I4 r2 r4 q4) λd' s5 ⟨z2,H5,I5,r5,k2,e2,q5⟩=>?_));subst e2;cases r5;exact aH ⟨H5,I5,q5⟩
theorem qi:(sizeLine:Nat) < 2 ^ 63:=by rw [aJ];decide
theorem UJ:OpR X (bZ .Add) (λx y H Q=>∃ i j,x=.str i/\y=.str j/\i.length+j.length<=sizeLine/\Q (.str (i++j)) H):=by intro pJ s σ H x y v u Q I rx ry h;obtain ⟨i,j,rfl,rfl,hz,q⟩:=h;obtain ⟨t,rfl⟩:=rx;obtain ⟨t',rfl⟩:=ry;exact add_str (λt' tk=>⟨.str (i++j),H,I.tok _,⟨_,rfl⟩,q⟩) hz
theorem vals1 {x:V}{us:List δ}(r:Vals [x] us):∃ u,us=[u]/\RelV x u:=by
 cases r with
 | cons r1 r2=>cases r2;exact ⟨_,rfl,r1⟩
theorem vals2 {x y:V}{us:List δ}(r:Vals [x,y] us):∃ u w',us=[u,w']/\RelV x u/\RelV y w':=by
 cases r with
 | cons r1 r2=>
  cases r2 with
  | cons r3 r4=>cases r4;exact ⟨_,_,rfl,r1,r3⟩
theorem zbZ:yu X (.builtin "abs") (λxs H Q=>∃ i,xs=[.int i]/\Q (.int (if i < 0 then -i else i)) H):=by intro pJ s σ H xs us Q I r h;obtain ⟨i,rfl,q⟩:=h;obtain ⟨u,rfl,t,rfl⟩:=vals1 r;exact call_abs_int λu tk=>⟨.int (if i < 0 then -i else i),H,I.tok _,⟨_,rfl⟩,q⟩
theorem zav (hc:X.calm=true):yu X (.builtin "min") (λxs H Q=>∃ i j,xs=[.int i,.int j]/\Q (.int (if j < i then j else i)) H):=by
 intro pJ s σ H xs us Q I r h;obtain ⟨i,j,rfl,q⟩:=h;obtain ⟨u,w',rfl,⟨t,rfl⟩,⟨t',rfl⟩⟩:=vals2 r;refine min_two_ints (I.ok.hd hc) λh' tk k=>⟨_,H,I.kept k,?_,q⟩
 by_cases hj:j < i
 ·rw [if_pos hj,if_pos hj];exact ⟨_,rfl⟩
 ·rw [if_neg hj,if_neg hj];exact ⟨_,rfl⟩
end
structure ObjM (h:Heap) (x dx C:Addr) (mA:Str->Option δ):Prop where
 obj:h.get? x=some (W.instObj C dx)
 ns:h.Ns1 dx mA
 ne:dx≠x
set_option tactic.hygienic true in
theorem Qf {h:Heap}{dx:Addr}{mA:Str->Option δ}(n:h.Ns1 dx mA):∃ od,h.get? dx=some od/\∀ name,W.lookIn name od=some (mA name):=by
 obtain ⟨o,es,ep,ho,hd,hk,_,hm⟩:=n;refine ⟨o,ho,λname=>?_⟩;have e:=hm name;unfold nsFind findBy at e;rw [<- Array.find?_toList] at e;unfold W.lookIn;rw [hd];dsimp only;split
 ·rename_i y q
  rw [q] at e;exact congrArg some e
 ·rename_i q
  rw [q] at e;have a:es.toList.any (·.refKey)=false:=by rw [p7];intro y hy;obtain ⟨z,t,hkey⟩:=hk y (Array.mem_toList_iff.mp hy);simp [nQ.refKey,hkey]
  have a':¬ es.toList.any (·.refKey)=true:=by rw [a];exact Μ
  rw [if_neg a'];exact congrArg some e
theorem ObjM.look {h:Heap}{x dx C:Addr}{mA:Str->Option δ}(I:ObjM h x dx C mA):∃ od,W.InstAt h x (W.instObj C dx) C (some od)/\∀ name,W.lookIn name od=some (mA name):=
 let ⟨od,ho,hl⟩:=Qf I.ns
 ⟨od,⟨I.obj,rfl,rfl,ho⟩,hl⟩
theorem RelO.some_of {v:V}{o:Option δ}(r:RelO (some v) o):∃ u,o=some u/\RelV v u:=by
 cases o with
 | none=>exact (show False from r).elim
 | some u=>exact ⟨u,rfl,r⟩
section
variable {P:Τ}{w:ϓ}{H H':Hp}{h h':Heap}{a C dx:Addr}{fs fs':List (Str×V)}
theorem zem (hok:HOk P w H h) (e:H a=some (.ins C dx fs)):∃ mA,ObjM h a dx C mA/\(∀ f,RelO (fs.lookup f) (mA f))/\PySem.Within mA (fs.map (·.1))/\fs.length<=1000/\H dx=some (.own a):=by
 obtain ⟨d,z,ne,ob,mA,n,r,q⟩:=(show zY P w H h a (.ins C dx fs) from hok a _ e)
 exact ⟨mA,⟨ob,n,ne⟩,r,q,z,d⟩
end
structure Cls (K:W.Frag) (C:Addr):Prop where
 pg:W.plainGet K C Str.empty=true
 hd:W.hasDictIn K C=true
 po:W.plainOver K C=true
 sa:W.findIn K (.ref C) "__setattr__"=some (some (.builtin "object.__setattr__"))
theorem Cls.get {K:W.Frag}{C:Addr}(c:Cls K C) (f:Str):W.plainGet K C f=true:=c.pg
def zh7 (K:W.Frag) (C:Addr) (f:Str):Prop:=W.findIn K (.ref C) f=some none
structure Meth (K:W.Frag) (C:Addr) (m:Str) (f:Addr):Prop where
 at_:W.findIn K (.ref C) m=some (some (.ref f))
 fn:W.isFn K (.ref f)=true
 kp:W.keepIn K (.ref f)=true
section
variable {X:Cx}{pJ:List (Addr×Obj)}{σ:St}{H:Hp}{s:μ}{A:ϙ}{E:VSP}{Q:VSP}{c:δ}{b:Bool}
inductive TyOf (K:W.Frag) (H:Hp):V->δ->Prop where
 | non:TyOf K H .non (.type "NoneType")
 | bl (x:Bool):TyOf K H (.bl x) (.type "bool")
 | int (i:Int):TyOf K H (.int i) (.type "int")
 | str (x:Str):TyOf K H (.str x) (.type "str")
 | flt (x:UInt64):TyOf K H (.flt x) (.type "float")
 | lst {a:Addr}{xs:List V}(e:H a=some (.lst xs)):TyOf K H (.ref a) (.type "list")
 | frz {a:Addr}{o:Obj}{xs:List V}(e:H a=some (.frz o (.lst xs))):TyOf K H (.ref a) (.type "list")
 | tup {a:Addr}{xs:List V}(e:H a=some (.tup xs)):TyOf K H (.ref a) (.type "tuple")
 | dK {a:Addr}{kvs:List (Key×V)}(e:H a=some (.dK kvs)):TyOf K H (.ref a) (.type "dict")
 | dT {a:Addr}{kvs:List (List Key×V)}(e:H a=some (.dT kvs)):TyOf K H (.ref a) (.type "dict")
 | ins {a C dx:Addr}{fs:List (Str×V)}(e:H a=some (.ins C dx fs)) (cl:Cls K C) (ha:W.findIn K (.ref C) "__class__"=some (some (.builtin "object.__class__")))
   (hn:W.specialIn K (.builtin "object.__class__") "__get__"=some (some (.builtin "getset_descriptor.__get__"))) (htk:W.takesIn K (.builtin "object.__class__")=some true)
   (hm:W.mroIn K C (.type "object")=some true):TyOf K H (.ref a) (.ref C)
theorem QG {x:V}{u t:δ}(I:Inv X pJ σ H s) (rx:RelV x u) (ty:TyOf X.K H x t) (e:W.kitOne X.K t c=some b) (h:∀ tk,Q (.bool b) { s with toks:=tk }):
  Λ (Ν X.prog X.w) A (call (.builtin "isinstance") [u,c]) Q E s:=by
 cases ty with
 | non=>cases (show u=Κ from rx);exact W.kia_one W.kitx_none I.kIn aB e (λz=>nomatch z) h
 | bl y=>cases (show u=ϒ y from rx);exact W.kia_one W.kitx_bool I.kIn aB e (λz=>nomatch z) h
 | int i=>obtain ⟨t,q⟩:=(show ∃ t,u=Ϟ i t from rx);cases q;exact W.kia_one W.kitx_int I.kIn aB e (λz=>nomatch z) h
 | str y=>obtain ⟨t,q⟩:=(show ∃ t,u=bB y t from rx);cases q;exact W.kia_one W.kitx_str I.kIn aB e (λz=>nomatch z) h
 | flt y=>obtain ⟨t,q⟩:=(show ∃ t,u=δ.float y t from rx);cases q;exact W.kia_one W.kitx_float I.kIn aB e (λz=>nomatch z) h
 | @lst a xs ea=>
  cases (show u=Ι a from rx);obtain ⟨_,_,n,_,h1⟩:=(show zY X.prog X.w H s.heap a (.lst xs) from I.hok a _ ea)
  exact W.kia_one W.kitx_list I.kIn ⟨_,h1,rfl⟩ e (λz=>nomatch z) h
 | @frz a ob xs ea=>
  cases (show u=Ι a from rx);obtain ⟨_,_,_,n,_,h1⟩:=(show zY X.prog X.w H s.heap a (.frz ob (.lst xs)) from I.hok a _ ea)
  exact W.kia_one W.kitx_list I.kIn ⟨_,h1,rfl⟩ e (λz=>nomatch z) h
 | @tup a xs ea=>
  cases (show u=Ι a from rx);obtain ⟨_,_,_,p⟩:=(show zY X.prog X.w H s.heap a (.tup xs) from I.hok a _ ea)
  obtain ⟨o,h1,h2,_⟩:=p;exact W.kia_one W.kitx_tuple I.kIn ⟨o,h1,h2⟩ e (λz=>nomatch z) h
 | @dK a kvs ea=>
  cases (show u=Ι a from rx);obtain ⟨_,_,vs,_,p⟩:=(show zY X.prog X.w H s.heap a (.dK kvs) from I.hok a _ ea)
  obtain ⟨o,es,ep,h1,h2,_⟩:=p;exact W.kia_one W.kitx_dict I.kIn ⟨o,h1,h2.1⟩ e (λz=>nomatch z) h
 | @dT a kvs ea=>
  cases (show u=Ι a from rx);obtain ⟨_,_,xs,_,o,es,ep,h1,h2,_⟩:=(show zY X.prog X.w H s.heap a (.dT kvs) from I.hok a _ ea)
  exact W.kia_one W.kitx_dict I.kIn ⟨o,h1,h2.1⟩ e (λz=>nomatch z) h
 | @ins a C dx fs ea cl ha hn htk hm=>
  cases (show u=Ι a from rx);obtain ⟨mA,O,_⟩:=zem I.hok ea;obtain ⟨od,J,_⟩:=O.look;exact W.kia_one (W.kitx_own (cl.get _) cl.hd ha hn htk hm) I.kIn J e (λz=>nomatch z) h
end
structure Room (k:Nat) (A:ϙ):Prop where
 hd:A.handled=none
 gd:A.guards=some []
 dp:A.depth+3*k+5 < recursionLimit
 un:A.units+16*k+200 < ϸ
theorem Room.mono {j k:Nat}{A:ϙ}(r:Room k A) (h:j<=k):Room j A:=⟨r.hd,r.gd,by have:=r.dp;lia,by have:=r.un;lia⟩
theorem Room.deeper {k:Nat}{A:ϙ}(r:Room (k+1) A) (env:Env):Room k (A.deeper env):=
 ⟨r.hd,r.gd,by have:=r.dp;show A.depth+1+3*k+5 < _;lia,by have:=r.un;show A.units+3+16*k+200 < _;lia⟩
theorem Room.in1 {k:Nat}{A:ϙ}(r:Room (k+1) A):Room k A.in1:=
 ⟨r.hd,r.gd,by have:=r.dp;show A.depth+3*k+5 < _;lia,by have:=r.un;show A.units+1+16*k+200 < _;lia⟩
theorem Room.depth {k:Nat}{A:ϙ}(r:Room k A):A.depth < recursionLimit:=by have:=r.dp;lia
theorem Room.units {k:Nat}{A:ϙ}(r:Room k A):A.units+64 < ϸ:=by have:=r.un;lia
def tNil:TA:=λ_ H Q=>Q [] H
def zfw (ta:TE) (tr:TA):TA:=λσ H Q=>ta σ H λx H1=>tr σ H1 λxs H2=>Q (x::xs) H2
section
variable {X:Cx}{e:Expr}{es:List Expr}{te:TE}{t:TA}{pos:Pos}
theorem xH:PA X [] tNil:=λ_ _ _ _ H Q I h=>Calls.spliced_nil ⟨[],H,I,.nil,h⟩
theorem yl (ha:PE X e te) (hr:PA X es t) (hs:ϰ (e::es) X.env=(false,eval e X.env)::ϰ es X.env:=by rfl):PA X (e::es) (zfw te t):=by
 intro pos pJ s σ H Q I h;rw [hs];show Λ _ _ (spliced ((false,eval e X.env)::fW pos (ϰ es X.env))) _ _ s
 refine Calls.spliced_cons (thn (ha pJ s σ H _ I h) λu s1 ⟨x,H1,I1,r1,q1⟩=>?_);exact thn (hr pos pJ s1 σ H1 _ I1 q1) λus s2 ⟨xs,H2,I2,r2,q2⟩=>⟨x::xs,H2,I2,.cons r1 r2,q2⟩
def tTup (t:TA):TE:=λσ H Q=>t σ H λxs H1=>xs.length<=sizeLine/\∀ p,H1 p=none->Q (.ref p) (upd H1 p (.tup xs))
def tLst (t:TA):TE:=λσ H Q=>t σ H λxs H1=>xs.length<=sizeLine/\∀ p,H1 p=none->Q (.ref p) (upd H1 p (.lst xs))
theorem zgn {x1} (h:PA X es t):PE X (.Tuple es x1 pos) (tTup t):=by intro pJ s σ H Q I hq;refine wpAny_Tuple_spliced (thn (h pos pJ s σ H _ I hq) λus s1 ⟨xs,H1,I1,r,z,q⟩=>⟨by rw [<- r.length];exact z,?_⟩);have hf:H1 s1.heap.objs.size=none:=I1.hok.fresh (Β _);refine ⟨.ref s1.heap.objs.size,upd H1 s1.heap.objs.size (.tup xs),I1.laid (t':=s1.toks) (λb u e=>η _ e) (Β _) ?_,rfl,q _ hf⟩;exact ⟨z,us,r,⟨_,Θ _ rfl,rfl,_,rfl⟩⟩
theorem zcp (h:PA X es t):PE X (.List es pos) (tLst t):=by intro pJ s σ H Q I hq;refine wpAny_List_spliced (thn (h pos pJ s σ H _ I hq) λus s1 ⟨xs,H1,I1,r,z,q⟩=>⟨by rw [<- r.length];exact z,?_⟩);have hf:H1 s1.heap.objs.size=none:=I1.hok.fresh (Β _);refine ⟨.ref s1.heap.objs.size,upd H1 s1.heap.objs.size (.lst xs),I1.laid (t':=s1.toks) (λb u e=>η _ e) (Β _) ?_,rfl,q _ hf⟩;exact ⟨z,us,0,r,Θ _ rfl⟩
end
abbrev Sp:=List V->Hp->VK->XK->Prop
abbrev CXT:=List Env->Hp->μ->XK->δ->μ->Prop
structure Env0 (P:Τ) (w:ϓ) (K:W.Frag) (mg:Str->Option δ) (base:Heap) (A:ϙ) (outer:List Env) (s:μ) (H:Hp):Prop where
 frames:A.frames=some outer
 mod:Mod K mg base
 bs:∀ b o,base.get? b=some o->s.heap.get? b=some o/\H b=none
 bsz:base.objs.size<=s.heap.objs.size
 funs:s.heap.FunFrames base outer
 frf:∀ b∈frs outer,H b=none
 hok:HOk P w H s.heap
 bare:gY s.gens
def CE (outer:List Env) (P:Τ) (w:ϓ) (H:Hp) (s:μ) (Q:VK) (u:δ) (s':μ):Prop:=
 ∃ v H',s'.os=s.os/\gY s'.gens/\Un (frs outer) [] H H' s.heap s'.heap/\HOk P w H' s'.heap/\RelV v u/\Q v H'
def CR (CX:CXT) (outer:List Env) (P:Τ) (w:ϓ) (H:Hp) (s:μ) (Q:VK) (E:XK) (r:Result) (s':μ):Prop:=
 match r with
 | .ok (.ret u)=>CE outer P w H s Q u s'
 | .ok _=>False
 | .error e=>CX outer H s E e s'
structure FnOk (P:Τ) (w:ϓ) (K:W.Frag) (mg:Str->Option δ) (base:Heap) (CX:CXT) (k:Nat) (f:Addr) (fd:bK) (ps:List Str) (sp:Sp):Prop where
 len:∀ vs H Q E,sp vs H Q E->vs.length=ps.length
 run:∀ (A:ϙ) (outer:List Env) (s:μ) (H:Hp) (args:Args) (us:List δ) (vs:List V) (Q:VK) (E:XK),Room k A->Env0 P w K mg base A outer s H->BindsTo s fd args (ps.zip us)->Vals vs us->sp vs H Q E ->
  gf (Ν P w) A (.call (.ref f) args) (CR CX outer P w H s Q E) s
theorem Env0.in1 {P:Τ}{w:ϓ}{K:W.Frag}{mg:Str->Option δ}{base:Heap}{A:ϙ}{outer:List Env}{s:μ}{H:Hp}(e:Env0 P w K mg base A outer s H):
  Env0 P w K mg base A.in1 outer s H:=⟨e.frames,e.mod,e.bs,e.bsz,e.funs,e.frf,e.hok,e.bare⟩
section
variable {X:Cx}{pJ:List (Addr×Obj)}{σ:St}{H:Hp}{s s':μ}
theorem Inv.env0 (I:Inv X pJ σ H s):Env0 X.prog X.w X.K X.mg X.base X.A X.stack s H:=
 ⟨I.ok.frames,I.ok.mod,I.bs,Ϧ I.ok.bsz I.sz,I.stack,I.vU,I.hok,I.bare⟩
theorem Inv.after {Q:VK}{u:δ}(I:Inv X pJ σ H s) (h:CE X.stack X.prog X.w H s Q u s'):EP X pJ σ Q u s':=by obtain ⟨v,H',os,bare,un,hok,r,q⟩:=h;obtain ⟨hh,g,d,t,os'⟩:=s';obtain rfl:os'=s.os:=os;exact ⟨v,H',I.call (h':=hh) (g':=g) (d':=d) (t':=t) (ch:=[]) un hok bare (λb z=>absurd z (by simp)),r,q⟩
end
def zik (sp:Sp) (dvs:List V) (E:XK) (t:TA):TE:=λσ H Q=>t σ H λvs H1=>sp (vs++dvs) H1 Q E
def Binds (K:W.Frag) (fd:bK) (ps:List Str) (ds:List δ):Prop:=
 ∀ (s:μ) (us:List δ),K.In s.heap->(us++ds).length=ps.length->BindsTo s fd ⟨us,[]⟩ (ps.zip (us++ds))
theorem Binds.all {K:W.Frag}{fd:bK}{ps:List Str}(h:∀ us:List δ,us.length=ps.length->gD fd ⟨us,[]⟩=pure (ps.zip us)):Binds K fd ps []:=λs us _ hl=>by rw [Ο] at hl ⊢;exact .of_eq (h us hl)
def XH (CX:CXT) (X:Cx) (E:XK):Prop:=∀ (pJ:List (Addr×Obj)) (σ:St) (H:Hp) (s:μ) (e:δ) (s':μ),Inv X pJ σ H s->CX X.stack H s E e s'->X.xe e s'
section
variable {X:Cx}{CX:CXT}{k:Nat}{f C:Addr}{fd:bK}{ps:List Str}{sp:Sp}{dvs:List V}{ds:List δ}{E:XK}{x m:Str}{p pos apos:Pos}{e o:Expr}{es:List Expr}{ta:TE}{t:TA}
theorem zf3 {pJ:List (Addr×Obj)}{σ:St}{H:Hp}{s:μ}{Q:VK}{us:List δ}{vs:List V}(F:FnOk X.prog X.w X.K X.mg X.base CX k f fd ps sp) (hr:Room k X.A) (hb:Binds X.K fd ps ds) (hd:Vals dvs ds) (hx:XH CX X E)
  (I:Inv X pJ σ H s) (r:Vals vs us) (h:sp (vs++dvs) H Q E):Λ (Ν X.prog X.w) X.A (call (.ref f) us) (EP X pJ σ Q) X.xe s:=by
 have r2:Vals (vs++dvs) (us++ds):=r.append hd;have hl:(us++ds).length=ps.length:=by rw [<- r2.length];exact F.len _ _ _ _ h
 refine iJ (cY (F.run X.A X.stack s H ⟨us,[]⟩ (us++ds) (vs++dvs) Q E hr I.env0 (hb s us I.kIn hl) r2 h) λr s' hq=>?_);cases r with
 | error e=>exact hx pJ σ H s e s' I hq
 | ok fl=>
  cases fl with
  | ret u=>exact I.after hq
  | next=>exact ϟ hq
  | brk=>exact ϟ hq
  | cont=>exact ϟ hq
theorem zdH (F:FnOk X.prog X.w X.K X.mg X.base CX k f fd ps sp) (hr:Room k X.A) (hg:Gl X x) (hm:X.mg x=some (.ref f)) (hk:W.keepIn X.K (.ref f)=true) (hb:Binds X.K fd ps ds) (hd:Vals dvs ds) (hx:XH CX X E)
  (ha:PA X (e::es) t) (hdb:(x==("__debug__":Str))=false:=by decide) (he:ϰ (e::es) X.env=(false,eval e X.env)::ϰ es X.env:=by rfl) (hpl:(fW pos (ϰ es X.env)).any (·.1)=false:=by rfl):
  PE X (.Call (.Name x p) (e::es) [] pos) (zik sp dvs E t):=by intro pJ s σ H Q I h;refine bY (vY I hg hm ?_ hdb);refine W.callWith_K (h₀:=X.base) I.ok.mod.kin hk (thn (ha pos pJ s σ H _ I h) λus s1 ⟨vs,H1,I1,r,q⟩=>⟨I1.kIn,?_⟩) he hpl;exact zf3 F hr hb hd hx I1 r q
structure Mk (K:W.Frag) (C f:Addr):Prop where
 makes:W.makesIn K C=true
 init:W.findIn K (.ref C) "__init__"=some (some (.ref f))
 fn:W.isFn K (.ref f)=true
 kp:W.keepIn K (.ref C)=true
end
def PK (X:Cx) (kws:List bG) (t:TA):Prop:=
 ∀ (pos:Pos) (pJ:List (Addr×Obj)) (s:μ) (σ:St) (H:Hp) (Q:List V->Hp->Prop),Inv X pJ σ H s->t σ H Q->Λ (Ν X.prog X.w) X.A (evalAll ((dj pos (bj kws X.env)).map (·.2))) (AP X pJ σ Q) X.xe s
section
variable {X:Cx}{CX:CXT}{k:Nat}{f C:Addr}{fd:bK}{ps ks:List Str}{sp:Sp}{E:XK}{x m:Str}{p pos apos kpos:Pos}{e o:Expr}{es:List Expr}{kws:List bG}{te ta:TE}{t tk:TA}{nm:Option Str}
theorem zgl:PK X [] tNil:=λ_ _ _ _ H Q I h=>wpAny_evalAll_nil ⟨[],H,I,.nil,h⟩
theorem zdE (ha:PE X e te) (hr:PK X kws t):PK X (⟨nm,e,kpos⟩::kws) (zfw te t):=by
 intro pos pJ s σ H Q I h;show Λ _ _ (evalAll ((do let v <- eval e X.env;standAt pos;pure v)::(dj pos (bj kws X.env)).map (·.2))) _ _ s
 refine wpAny_evalAll_cons (ζ (thn (ha pJ s σ H _ I h) λu s1 ⟨x,H1,I1,r1,q1⟩=>ζ (lZ (θ ?_))));exact thn (hr pos pJ s1 σ H1 _ I1 q1) λus s2 ⟨xs,H2,I2,r2,q2⟩=>⟨x::xs,H2,I2,.cons r1 r2,q2⟩
structure zaK (K:W.Frag) (fd:bK) (ps ks:List Str) (g:List δ->List δ->List δ) (gV:List V->List V->List V):Prop where
 to:∀ (s:μ) (us ws:List δ),K.In s.heap->(g us ws).length=ps.length->BindsTo s fd ⟨us,ks.zip ws⟩ (ps.zip (g us ws))
 rel:∀ {vs:List V}{us:List δ}{zs:List V}{ws:List δ},Vals vs us->Vals zs ws->Vals (gV vs zs) (g us ws)
def zfx (sp:Sp) (gV:List V->List V->List V) (E:XK) (t tk:TA):TE:=λσ H Q=>t σ H λvs H1=>tk σ H1 λzs H2=>sp (gV vs zs) H2 Q E
variable {g:List δ->List δ->List δ}{gV:List V->List V->List V}
theorem zdi {pJ:List (Addr×Obj)}{σ:St}{H:Hp}{s:μ}{Q:VK}{us ws:List δ}{vs zs:List V}(F:FnOk X.prog X.w X.K X.mg X.base CX k f fd ps sp) (hr:Room k X.A) (hb:zaK X.K fd ps ks g gV) (hx:XH CX X E)
  (I:Inv X pJ σ H s) (r:Vals vs us) (rz:Vals zs ws) (h:sp (gV vs zs) H Q E):Λ (Ν X.prog X.w) X.A (call (.ref f) us (ks.zip ws)) (EP X pJ σ Q) X.xe s:=by
 have r2:=hb.rel r rz;have hl:(g us ws).length=ps.length:=by rw [<- r2.length];exact F.len _ _ _ _ h
 refine iJ (cY (F.run X.A X.stack s H ⟨us,ks.zip ws⟩ (g us ws) (gV vs zs) Q E hr I.env0 (hb.to s us ws I.kIn hl) r2 h) λr s' hq=>?_);cases r with
 | error e=>exact hx pJ σ H s e s' I hq
 | ok fl=>
  cases fl with
  | ret u=>exact I.after hq
  | next=>exact ϟ hq
  | brk=>exact ϟ hq
  | cont=>exact ϟ hq
end
structure ZV (N P:List Str) (sc:aM):Prop where
 kind:sc.kind=.function
 co:sc.isCoroutine=false
 gen:sc.isGenerator=false
 nd:N.Nodup
 pre:N.take P.length=P
 par:∀ x∈P,sc.names.lookup x=some .local\/sc.names.lookup x=some .cell
 nofree:∀ y∈sc.names,y.2≠.free
theorem Xn {kindOf:Str->Option Ϣ}{x:Str}:∀ {binds:List (Str×δ)}{m:Str->Option δ},(∀ v,(x,v) ∉ binds)->bindL kindOf binds m x=m x
 | [],_,_=>rfl
 | (n,v)::r,m,h=>by
  unfold bindL;rw [Xn λw hw=>h w (ι _ hw)];split
  ·have:x≠n:=by rintro rfl;exact h v ξ
   simp [this]
  ·rfl
theorem Xq {kindOf:Str->Option Ϣ}{x:Str}:∀ {binds:List (Str×δ)}{m:Str->Option δ},(∀ v,(x,v) ∉ binds)->bindC kindOf binds m x=m x
 | [],_,_=>rfl
 | (n,v)::r,m,h=>by
  unfold bindC;rw [Xq λw hw=>h w (ι _ hw)];split
  ·rfl
  ·have:x≠n:=by rintro rfl;exact h v ξ
   simp [this]
theorem Xo {kindOf:Str->Option Ϣ}{x:Str}{v:δ}:∀ {P:List Str}{vs:List δ}{i:Nat}{m:Str->Option δ},P.Nodup->P[i]?=some x->vs[i]?=some v->kindOf x=some .local ->
  bindL kindOf (P.zip vs) m x=some v
 | [],_,_,_,_,h,_,_=>by simp at h
 | _::_,[],_,_,_,_,h,_=>by simp at h
 | p::P,w::vs,0,m,nd,h1,h2,hk=>by
  simp at h1 h2;subst h1;subst h2;show bindL kindOf ((p,w)::P.zip vs) m p=_
  unfold bindL;rw [Xn λv hv=>(aY.mp nd).1 (dO hv).1,if_pos hk];simp
 | p::P,w::vs,i+1,m,nd,h1,h2,hk=>by
  show bindL kindOf ((p,w)::P.zip vs) m x=_
  unfold bindL;exact Xo (i:=i) (aY.mp nd).2 (by simpa using h1) (by simpa using h2) hk
theorem Xr {kindOf:Str->Option Ϣ}{x:Str}{v:δ}:∀ {P:List Str}{vs:List δ}{i:Nat}{m:Str->Option δ},P.Nodup->P[i]?=some x->vs[i]?=some v->kindOf x≠some .local ->
  bindC kindOf (P.zip vs) m x=some v
 | [],_,_,_,_,h,_,_=>by simp at h
 | _::_,[],_,_,_,_,h,_=>by simp at h
 | p::P,w::vs,0,m,nd,h1,h2,hk=>by
  simp at h1 h2;subst h1;subst h2;show bindC kindOf ((p,w)::P.zip vs) m p=_
  unfold bindC;rw [Xq λv hv=>(aY.mp nd).1 (dO hv).1,if_neg hk];simp
 | p::P,w::vs,i+1,m,nd,h1,h2,hk=>by
  show bindC kindOf ((p,w)::P.zip vs) m x=_
  unfold bindC;exact Xr (i:=i) (aY.mp nd).2 (by simpa using h1) (by simpa using h2) hk
noncomputable def start (N:List Str) (vs:List V):St:=vs.map some++Α (N.length - vs.length) none
noncomputable def cxOf (CX:CXT) (P:Τ) (w:ϓ) (K:W.Frag) (mg:Str->Option δ) (base:Heap) (N:List Str) (qual:Str) (scope:aM) (f:Addr) (cd:δ) (A:ϙ) (outer:List Env) (s:μ) (H:Hp) (E:XK) (ro:Str->Bool:=λ_=>false):Cx where
 prog:=P
 w:=w
 K:=K
 mg:=mg
 base:=base
 A:=A.deeper (mH qual scope s.heap.objs.size f cd)
 N:=N
 sy:=s
 Hz:=H
 env:=mH qual scope s.heap.objs.size f cd
 outer:=outer
 stack:=mH qual scope s.heap.objs.size f cd::outer
 ex:=[]
 calm:=true
 fn:=λx=>!ro x
 pn:=[]
 xe:=λe s'=>Λ (Ν P w) (A.deeper (mH qual scope s.heap.objs.size f cd)) (leaving (mH qual scope s.heap.objs.size f cd) e) (λ_ s''=>CX outer H s E e s'') (λe' s''=>CX outer H s E e' s'') s'
theorem vL {sc:aM}{n:Nat}{x:Str}(h:sc.names.lookup x=some .cell):∃ c,(eF n sc.names []).lookup x=some c:=by have q:=W.cellsFrom_some sc.names n [] (.inl h);exact fZ.mp q
theorem QK {ro:Str->Bool}{CX:CXT}{P:Τ}{w:ϓ}{K:W.Frag}{mg:Str->Option δ}{base:Heap}{N ps:List Str}{qual:Str}{scope:aM}{f:Addr}{cd:δ}{A:ϙ}{outer:List Env}{s s1:μ}{H:Hp}{E:XK}{us:List δ}{vs:List V}
  (S:ZV N ps scope) (hd:A.handled=none) (e0:Env0 P w K mg base A outer s H) (hl:vs.length=ps.length) (r:Vals vs us)
  (x:InCallC s s.heap.objs.size (bindL (mH qual scope s.heap.objs.size f cd).kindOf (ps.zip us) λ_=>none) (eF (s.heap.objs.size+1) scope.names []) (bindC (mH qual scope s.heap.objs.size f cd).kindOf (ps.zip us) λ_=>none) s1):
  Inv (cxOf CX P w K mg base N qual scope f cd A outer s H E ro) [] (start N vs) H s1:=by
 have hpl:ps.length<=N.length:=by have:=congrArg List.length S.pre;rw [dz] at this;lia
 obtain ⟨h1,tk,rfl,hk⟩:=x.done;have noA:∀ b:Addr,b ∉ (cxOf CX P w K mg base N qual scope f cd A outer s H E ro).ex:=λb z=>absurd (show b∈([]:List Addr) from z) (by simp)
 refine ⟨⟨e0.mod,S.kind,rfl,rfl,Β _,λy z c h1 h2=>?_,λy hy=>?_,λy c _ h=>?_,λ_=>hd,oO e0.frames,.inr ⟨rfl,rfl⟩,λb z=>absurd z (noA b),e0.bs,e0.bsz,λb _ _=>noA b,λb z=>absurd z (noA b),e0.funs,e0.frf⟩,
  rfl,e0.bare,Un.kept hk,⟨_,x.toInCall.ns,λi y v h1 h2 h3=>?_⟩,λy c h=>⟨_,x.cell y c h⟩,e0.hok.fresh (Β _),λy c h=>?_,λp hp=>absurd (show p∈([]:List (Addr×Obj)) from hp) (by simp),e0.hok.kept hk,?_⟩
 ·exact name_of_addr x.apart (ϐ h1) (ϐ h2)
 ·have hy:scope.names.lookup y=some .cell\/scope.names.lookup y=some .free:=hy;rcases hy with hy | hy
  ·exact vL hy
  ·exact absurd rfl (S.nofree _ (ϐ hy))
 ·exact cg (x.above y c (ϐ h))
 ·have hi:i < vs.length:=by
   unfold start at h2;by_cases hi:i < vs.length
   ·exact hi
   ·rw [Ϙ (by simpa using hi)] at h2;rw [bF] at h2;split at h2 <;> cases h2
  have ha:vs[i]?=some v:=by
   unfold start at h2;rw [ϖ (by simpa using hi),Ρ] at h2;cases e:vs[i]? with
   | none=>rw [e] at h2;cases h2
   | some a=>rw [e] at h2;cases h2;rfl
  obtain ⟨u,hu,rv⟩:=r.get ha;have hp:ps[i]?=some y:=by rw [<- S.pre,List.getElem?_take_of_lt (by lia)];exact h1
  have ndP:ps.Nodup:=by rw [<- S.pre];exact S.nd.sublist (pX _ _)
  refine ⟨u,rv,?_⟩;rcases S.par y (ϑ hp) with k | k
  ·exact .inl ⟨k,Xo ndP hp hu k⟩
  ·obtain ⟨c,e⟩:=vL (n:=s.heap.objs.size+1) k;refine .inr ⟨.inl k,c,e,?_⟩;have q:=x.cell y c e;rw [Xr ndP hp hu (by show scope.names.lookup y≠_;rw [k];decide)] at q;exact q
 ·exact .inl <| e0.hok.fresh (cg (x.above y c (ϐ h)))
 ·unfold start;show _=N.length
  rw [Ξ,ψ,eQ];lia
theorem zhx {ro:Str->Bool}{CX:CXT}{P:Τ}{w:ϓ}{K:W.Frag}{mg:Str->Option δ}{base:Heap}{k:Nat}{f:Addr}{name qual:Str}{params:bA}{body:List Stmt}{scope:aM}{dV kV doc pm cdv ct oc:δ}{an od:Option Addr}
  {osl:Array (Option δ)}{N ps:List Str}{sp:Sp}(lk:K.lookup f=some ⟨oc,od,.func (W.fnOf name qual params body scope dV kV doc pm an cdv ct),osl⟩) (hcd:W.codeIn K cdv qual=true) (S:ZV N ps scope)
  (len:∀ vs H Q E,sp vs H Q E->vs.length=ps.length)
  (hbody:∀ (A:ϙ) (outer:List Env) (s:μ) (H:Hp) (vs:List V) (Q:VK) (E:XK),Room k (A.deeper (mH qual scope s.heap.objs.size f cdv))->sp vs H Q E ->
   ∃ t,PSs (cxOf CX P w K mg base N qual scope f cdv A outer s H E ro) body t/\t { nx:=λ_ H'=>Q .non H',rt:=Q } (start N vs) H):
  FnOk P w K mg base CX (k+1) f (W.fnOf name qual params body scope dV kV doc pm an cdv ct) ps sp:=by
 refine ⟨len,λA outer s H args us vs Q E hr e0 hb r hsp=>?_⟩;have hl:=len _ _ _ _ hsp;have KX:K.In s.heap:=e0.mod.kin.keeps λb o e=>(e0.bs b o e).1
 have lim:s.heap.NoLimit:=e0.mod.nolimit.keeps λb o e=>(e0.bs b o e).1
 have hkind:∀ y∈ps.zip us,scope.names.lookup y.1=some .local\/(scope.names.lookup y.1=some .cell/\((eF (s.heap.objs.size+1) scope.names []).lookup y.1).isSome=true):=λ⟨n,v⟩ hy=>by
  rcases S.par n (dO hy).1 with q | q
  ·exact .inl q
  ·exact .inr ⟨q,W.cellsFrom_some _ _ _ (.inl q)⟩
 refine codeAny_call_function hr.depth (KX _ _ lk) rfl S.co S.gen rfl (W.codeRec_of KX hcd) (hb _ _ _ _ ?_);refine wpAny_newFunctionEnv_cells S.kind hkind λenv he s1 x=>?_
 subst he;refine ⟨lim.keeps x.toInCall.keep,codeAny_func ?_⟩;obtain ⟨t,ht,hq⟩:=hbody A outer s H vs Q E (hr.deeper _) hsp;have I:Inv (cxOf CX P w K mg base N qual scope f cdv A outer s H E ro) [] (start N vs) H s1:=QK S hr.hd e0 hl r x;refine bc (ht [] s1 (start N vs) H _ I hq) (λfl s' hs=>?_) λe s' hs=>hs
 have fin:∀ {σ':St}{H':Hp}{v:V}{u:δ},Inv (cxOf CX P w K mg base N qual scope f cdv A outer s H E ro) [] σ' H' s'->RelV v u->Q v H'->CE outer P w H s Q u s':=
  λ{σ' H' v u} J rv q=>⟨v,H',J.os,J.bare,J.base,J.hok,rv,q⟩
 cases fl with
 | ret u=>
  obtain ⟨v,σ',H',J,rv,q⟩:=hs;exact fin J rv q
 | next=>
  obtain ⟨σ',H',J,q⟩:=hs;exact fin (v:=V.non) (u:=Κ) J rfl q
 | brk=>
  obtain ⟨_,_,_,q⟩:=hs;exact ϟ q
 | cont=>
  obtain ⟨_,_,_,q⟩:=hs;exact ϟ q
section
variable {X:Cx}{x:Str}{p pos:Pos}{e:Expr}{es:List Expr}{t:TA}{id T:String}{r:List V->Hp->VK->Prop}
def tCB (r:List V->Hp->VK->Prop) (t:TA):TE:=λσ H Q=>t σ H λvs H1=>r vs H1 Q
theorem uN (hc:yu X (.builtin id) r) (hg:Gl X x) (hm:X.mg x=none) (hv:cZ x=some (.builtin id)) (ha:PA X (e::es) t) (hn:x≠"__name__":=by decide) (hdb:(x==("__debug__":Str))=false:=by decide)
  (he:ϰ (e::es) X.env=(false,eval e X.env)::ϰ es X.env:=by rfl) (hpl:(fW pos (ϰ es X.env)).any (·.1)=false:=by rfl):PE X (.Call (.Name x p) (e::es) [] pos) (tCB r t):=by intro pJ s σ H Q I h;refine bY (YG I hg hm hv ?_ hn hdb);exact PyProof.Rows.callWith_builtin1 (thn (ha pos pJ s σ H _ I h) λus s1 ⟨vs,H1,I1,r1,q1⟩=>hc pJ s1 σ H1 vs us Q I1 r1 q1) he hpl
theorem Yt (hc:yu X (.type T) r) (hg:Gl X x) (hm:X.mg x=none) (hv:cZ x=some (.type T)) (ha:PA X (e::es) t) (hn:x≠"__name__":=by decide) (hdb:(x==("__debug__":Str))=false:=by decide)
  (he:ϰ (e::es) X.env=(false,eval e X.env)::ϰ es X.env:=by rfl) (hpl:(fW pos (ϰ es X.env)).any (·.1)=false:=by rfl):PE X (.Call (.Name x p) (e::es) [] pos) (tCB r t):=by intro pJ s σ H Q I h;refine bY (YG I hg hm hv ?_ hn hdb);exact eG (thn (ha pos pJ s σ H _ I h) λus s1 ⟨vs,H1,I1,r1,q1⟩=>hc pJ s1 σ H1 vs us Q I1 r1 q1) he hpl
end
end L2
namespace HT
open PySem PyProof.Rows
section
open PySem.SeqAt
open PySem.AutoSeq1 (wpAny_loadPart')
open PySem.MeetsSeq PySem.MeetsSeq2 PySem.MeetsSeq3
end
section
variable {prog:Τ}{w:ϓ}{A:ϙ}{E:δ->μ->Prop}{s:μ}
theorem zeJ {t b:Addr}{vs ws:List δ}{Q:δ->μ->Prop}(ht:IsTup s.heap t vs.toArray) (hb:IsTup s.heap b ws.toArray) (hv:vs≠[])
  (h1:ws=[]->Q (.ref t) s) (h2:ws≠[]->Q (.ref s.heap.objs.size) { s with heap:=s.heap.push { cls:=.type "tuple",data:=.seq (vs++ws).toArray } })
  (hsz:vs.length+ws.length<=sizeLine):Λ (Ν prog w) A (bZ .Add (.ref t) (.ref b)) Q E s:=by
 obtain ⟨⟨cls,dd,data,sl⟩,ho,hc,n,hd⟩:=id ht;obtain ⟨⟨cls2,dd2,data2,sl2⟩,ho2,hc2,n2,hd2⟩:=id hb;simp only at hc hd hc2 hd2;subst hc hd hc2 hd2;have e:vs.toArray++ws.toArray=(vs++ws).toArray:=by simp
 by_cases hw:ws=[]
 ·exact pU ⟨_,ho,rfl⟩ ⟨_,ho2,rfl⟩ nG pA gG gj (fX _ _)
   (tuple_addW1 t b vs.toArray ws.toArray n n2 dd dd2 sl sl2 (by simpa using hv) (by simp [hw])) ⟨ho,ho2,h1 hw⟩
 ·refine pU ⟨_,ho,rfl⟩ ⟨_,ho2,rfl⟩ nG pA gG gj (fX _ _)
   (tuple_addW2 t b vs.toArray ws.toArray n n2 dd dd2 sl sl2 (by simpa using hv) (by simpa using hw) (by rw [ω,ω];exact hsz)) ⟨ho,ho2,?_⟩
  rw [e];exact h2 hw
noncomputable def sIx (n d:Nat):Option Int->Nat
 | none=>d
 | some v=>if v < 0 then (v+(n:Int)).toNat else min v.toNat n
theorem zf2 (n d:Nat) (hd:d<=n) (o:Option Int):sIx n d o<=n:=by
 cases o with
 | none=>exact hd
 | some v=>
  show (if v < 0 then (v+(n:Int)).toNat else min v.toNat n)<=n
  by_cases hv:v < 0
  ·rw [if_pos hv];omega
  ·rw [if_neg hv];exact Nat.min_le_right _ _
theorem zak (v:Int) (n d:Nat):(if v < 0 then max (v+(n:Int)) 0 else min v (n:Int))=((sIx n d (some v):Nat):Int):=by
 show (if v < 0 then max (v+(n:Int)) 0 else min v (n:Int))=(((if v < 0 then (v+(n:Int)).toNat else min v.toNat n):Nat):Int)
 by_cases hv:v < 0
 ·simp only [if_pos hv];omega
 ·simp only [if_neg hv];omega
theorem Jf (lo hi:Option Int) (n:Nat):fC lo hi 1 (n:Int)=(((sIx n 0 lo:Nat):Int),((sIx n n hi:Nat):Int)):=by
 have h1:¬ ((1:Int) < 0):=by omega
 unfold fC;simp only [h1,if_false];refine Prod.ext ?_ ?_
 ·cases lo with
  | none=>rfl
  | some v=>exact zak v n 0
 ·cases hi with
  | none=>rfl
  | some v=>exact zak v n n
theorem Uz (i j:Nat):cQ (i:Int) (j:Int) 1=j - i:=by
 unfold cQ;have h1:(1:Int) > 0:=by omega
 simp only [h1,if_true,Int.ediv_one];split <;> omega
theorem kE {v:δ}{o:Option Int}{Q:Option Int->μ->Prop}(p:iT v o) (h:Q o s):Λ (Ν prog w) A (ώ.Slice.slicePartIndex v) Q E s:=by
 cases p with
 | none=>exact slicePart_none h
 | int i t=>exact slicePart_int h
theorem xG {sl:Addr}{vl vu:δ}{lo hi:Option Int}{n:Nat}{Q:Int×Int×Nat->μ->Prop}(hs:s.heap.IsSliceOf sl vl vu .none) (pl:iT vl lo) (pu:iT vu hi)
  (h:Q (((sIx n 0 lo:Nat):Int),1,sIx n n hi - sIx n 0 lo) s):Λ (Ν prog w) A (lq (.ref sl) (pure (n:Int))) Q E s:=by
 obtain ⟨os,hos,hcs,hds⟩:=id hs;unfold lq ώ.Slice.sliceFields;refine ζ (ζ (au hos hds (x:=vl) rfl (ζ (au hos hds (x:=vu) rfl (ζ (au hos hds (x:=.none) rfl (θ ?_)))))));refine ζ (slicePart_none ?_);show Λ _ _ (if ((1:Int)==0)=true then _ else _) _ _ s
 rw [if_neg (by decide)];refine ζ (kE pl (ζ (kE pu (ζ (θ ?_)))));show Λ _ _ (match fC lo hi 1 (n:Int) with | (lo,hi)=>pure (lo,(1:Int),cQ lo hi 1)) _ _ s
 rw [Jf lo hi n];show Λ _ _ (pure (((sIx n 0 lo:Nat):Int),(1:Int),cQ ((sIx n 0 lo:Nat):Int) ((sIx n n hi:Nat):Int) 1)) _ _ s
 rw [Uz];exact θ h
theorem zbe (xs:Array δ) (i k:Nat):((ό k).filterMap λ(m:Nat)=>xs[((i:Int)+(m:Int)*1).toNat]?).toArray=((xs.toList.drop i).take k).toArray:=by
 have e:(λ(m:Nat)=>xs[((i:Int)+(m:Int)*1).toNat]?)=λm=>xs[i+m]?:=by
  funext m
  have:((i:Int)+(m:Int)*1).toNat=i+m:=by omega
  rw [this]
 rw [e];have:=pick_run xs i k;rw [List.filterMap_map] at this;have e2:((λx=>xs[x]?)∘λx=>i+x)=λm=>xs[i+m]?:=rfl
 rw [e2] at this;rw [this]
theorem v5 {t sl:Addr}{items:Array δ}{vl vu:δ}{lo hi:Option Int}{Q:δ->μ->Prop}(ht:IsTup s.heap t items) (hs:s.heap.IsSliceOf sl vl vu .none) (pl:iT vl lo) (pu:iT vu hi)
  (hw:¬ (sIx items.size 0 lo=0/\sIx items.size items.size hi=items.size))
  (h:Q (.ref s.heap.objs.size) { s with heap:=s.heap.push { cls:=.type "tuple",data:=.seq ((items.toList.drop (sIx items.size 0 lo)).take (sIx items.size items.size hi - sIx items.size 0 lo)).toArray } })
  (hsz:items.size<=sizeLine):Λ (Ν prog w) A (lM (.ref t) (.ref sl)) Q E s:=by
 have htake:sizeOk (.seq ((items.toList.drop (sIx items.size 0 lo)).take (sIx items.size items.size hi - sIx items.size 0 lo)).toArray):=by
  show ((items.toList.drop (sIx items.size 0 lo)).take (sIx items.size items.size hi - sIx items.size 0 lo)).toArray.size<=sizeLine
  rw [ω,dz,dB,ύ];omega
 have hj:sIx items.size items.size hi<=items.size:=zf2 _ _ (Β _) hi;obtain ⟨os,hos,hcs,hds⟩:=id hs;have hTs:s.TypeIs (.ref sl) "slice":=⟨os,hos,hcs⟩
 unfold lM
 try with_reducible refine bC ?_
 first | refine ζ (θ ?_) | skip
 refine ζ (wpAny_sequenceKey ht.typeIs (by decide) ?_)
 refine ζ (aU (name:=lW "__getitem__") ht.typeIs ϲ
  (aD ϲ ht.typeIs entry_tuple_getitem ?_ (args_tuple_getitem _ _)))
 show Λ _ _ (lg (.ref t) >>= _) _ _ s
 refine ζ (tupleItemsOf_ ht ?_);refine ζ (cW hTs ?_);rw [if_pos (by decide)];refine ζ (xG hs pl pu ?_);have hno:¬ ((((sIx items.size 0 lo:Nat):Int)==0&&(1:Int)==1&&(sIx items.size items.size hi - sIx items.size 0 lo)==items.size)=true):=by intro q;rw [ε,ε] at q;have q1:((sIx items.size 0 lo:Nat):Int)=0:=eq_of_beq q.1.1;have q2:sIx items.size items.size hi - sIx items.size 0 lo=items.size:=eq_of_beq q.2;exact hw ⟨by omega,by omega⟩
 show Λ _ _ (if (((sIx items.size 0 lo:Nat):Int)==0&&(1:Int)==1&&(sIx items.size items.size hi - sIx items.size 0 lo)==items.size)=true then _ else _) _ _ s
 rw [if_neg hno,zbe]
 first
  | exact ζ (m:=c7 _) (Ϯ (θ ⟨_,rfl,θ h⟩) htake)
  | exact ζ (m:=c7 _) (Ϯ (ζ (θ (θ ⟨_,rfl,θ h⟩))) htake)
  | exact ζ (ζ (m:=c7 _) (Ϯ (θ (θ ⟨_,rfl,θ h⟩)) htake))
  | exact ζ (ζ (m:=c7 _) (Ϯ (θ ⟨_,rfl,θ h⟩) htake))
end
end HT
namespace L2
open PySem PySem.Spec PyProof.Rows
abbrev TO:=St->Hp->(Option Int->Hp->Prop)->Prop
def PO (X:Cx) (e:Option Expr) (t:TO):Prop:=
 ∀ (pJ:List (Addr×Obj)) (s:μ) (σ:St) (H:Hp) (Q:Option Int->Hp->Prop),Inv X pJ σ H s->t σ H Q ->
  Λ (Ν X.prog X.w) X.A (evalPart e X.env) (λu s'=>∃ o H',Inv X pJ σ H' s'/\iT u o/\Q o H') X.xe s
def zc2:TO:=λ_ H Q=>Q none H
def zif (t:TE):TO:=λσ H Q=>t σ H λx H1=>∃ i,x=.int i/\Q (some i) H1
section
variable {X:Cx}{e:Expr}{te:TE}{lo hi:Option Expr}{tl th:TO}{pos p2:Pos}
theorem zdB:PO X none zc2:=by intro pJ s σ H Q I h;rw [evalPart_none];exact θ ⟨none,H,I,.none,h⟩
theorem zdA (h:PE X e te):PO X (some e) (zif te):=by
 intro pJ s σ H Q I hw;rw [evalPart_some];refine thn (h pJ s σ H _ I hw) λu s1 ⟨x,H1,I1,r1,q1⟩=>?_
 obtain ⟨i,rfl,q⟩:=q1;obtain ⟨t,rfl⟩:=r1;exact ⟨some i,H1,I1,.int i t,q⟩
def SlR (X:Cx) (r:V->Option Int->Option Int->Hp->VK->Prop):Prop:=
 ∀ (pJ:List (Addr×Obj)) (s:μ) (σ:St) (H:Hp) (x:V) (v vl vu:δ) (lo hi:Option Int) (sl:Addr) (Q:VK),Inv X pJ σ H s->RelV x v->s.heap.IsSliceOf sl vl vu .none->iT vl lo->iT vu hi->r x lo hi H Q ->
  ∃ T id,typeLookup (.type T) "__getitem__"=pure (some (.builtin id))/\s.TypeIs v T/\Λ (Ν X.prog X.w) X.A (lM v (.ref sl)) (EP X pJ σ Q) X.xe s
theorem SlR.or {r r':V->Option Int->Option Int->Hp->VK->Prop}(h:SlR X r) (h':SlR X r'):SlR X (λx lo hi H Q=>r x lo hi H Q\/r' x lo hi H Q):=by
 intro pJ s σ H x v vl vu lo hi sl Q I rx hs pl pu q;rcases q with q | q
 ·exact h pJ s σ H x v vl vu lo hi sl Q I rx hs pl pu q
 ·exact h' pJ s σ H x v vl vu lo hi sl Q I rx hs pl pu q
def tSl (r:V->Option Int->Option Int->Hp->VK->Prop) (te:TE) (tl th:TO):TE:=λσ H Q=>te σ H λx H1=>tl σ H1 λl H2=>th σ H2 λu H3=>r x l u H3 Q
theorem zbg {r:V->Option Int->Option Int->Hp->VK->Prop}(hr:SlR X r) (he:PE X e te) (hl:PO X lo tl) (hu:PO X hi th):PE X (.Subscript e (.Slice lo hi none p2) pos) (tSl r te tl th):=by
 intro pJ s σ H Q I h;refine Subscript_ (thn (he pJ s σ H _ I h) λv s1 ⟨x,H1,I1,r1,q1⟩=>?_);refine wpAny_Slice (thn (hl pJ s1 σ H1 _ I1 q1) λvl s2 ⟨l,H2,I2,pl,q2⟩=>thn (hu pJ s2 σ H2 _ I2 q2) λvu s3 ⟨u,H3,I3,pu,q3⟩=>?_);rw [evalPart_none];refine θ ?_;have I4:Inv X pJ σ H3 { s3 with heap:=s3.heap.push { cls:=.type "slice",data:=.fields #[vl,vu,.none] } }:=I3.kept (t':=s3.toks) λb ob q=>η _ q
 obtain ⟨T,id,hT,ht,hg⟩:=hr pJ { s3 with heap:=s3.heap.push { cls:=.type "slice",data:=.fields #[vl,vu,.none] } } σ H3 x v vl vu l u s3.heap.objs.size Q I4 r1 (Heap.IsSliceOf.new ..) pl pu q3;show Λ (Ν X.prog X.w) X.A (subscriptTail e (.Slice lo hi none p2) v (.ref s3.heap.objs.size)) (EP X pJ σ Q) X.xe { s3 with heap:=s3.heap.push { cls:=.type "slice",data:=.fields #[vl,vu,.none] } }
 exact tail_any (ops:=[.ref s3.heap.objs.size,v]) ht hT hg (by with_unfolding_all rfl)
noncomputable def cutV (xs:List V) (lo hi:Option Int):List V:=(xs.drop (HT.sIx xs.length 0 lo)).take (HT.sIx xs.length xs.length hi - HT.sIx xs.length 0 lo)
theorem jJ (xs:List V) (lo hi:Option Int):(cutV xs lo hi).length<=xs.length:=by unfold cutV;rw [dz,dB];lia
def rSlT (K:W.Frag):V->Option Int->Option Int->Hp->VK->Prop:=λx lo hi H Q=>∃ a xs,x=.ref a/\SqT K H a xs /\
 ¬ (HT.sIx xs.length 0 lo=0/\HT.sIx xs.length xs.length hi=xs.length)/\∀ p,H p=none->Q (.ref p) (upd H p (.tup (cutV xs lo hi)))
theorem zfB:SlR X (rSlT X.K):=by
 intro pJ s σ H x v vl vu lo hi sl Q I rx hs pl pu h;obtain ⟨a,xs,rfl,hx,hw,q⟩:=h;cases rx;obtain ⟨its,r,ht,hz⟩:=I.tuple hx;have hlen:its.toArray.size=xs.length:=by rw [ω];exact r.length.symm
 refine ⟨"tuple",_,ϲ.lookup,ht.typeIs,?_⟩;refine HT.v5 ht hs pl pu (by rw [hlen];exact hw) ?_ (by rw [hlen];exact hz);rw [hlen];refine ⟨.ref s.heap.objs.size,_,I.laid (t':=s.toks) (o:=.tup (cutV xs lo hi)) (λb ob q=>η _ q) (Β _) ?_,rfl,q _ (I.hok.fresh (Β _))⟩;exact ⟨Ϧ (jJ xs lo hi) hz,_,(r.drop (HT.sIx xs.length 0 lo)).take (HT.sIx xs.length xs.length hi - HT.sIx xs.length 0 lo),IsTup.new _ _⟩
def zi5 (K:W.Frag):R2:=λx y H Q=>∃ a b xs ys,x=.ref a/\y=.ref b/\SqT K H a xs/\SqT K H b ys/\xs≠[]/\xs.length+ys.length<=sizeLine /\
 (ys=[]->Q (.ref a) H)/\(ys≠[]->∀ p,H p=none->Q (.ref p) (upd H p (.tup (xs++ys))))
theorem Vals.Wf {xs:List V}{us:List δ}(r:Vals xs us):us=[] ↔ xs=[]:=by
 cases r with
 | nil=>simp
 | cons _ _=>simp
theorem zdN:OpR X (bZ .Add) (zi5 X.K):=by intro pJ s σ H x y v u Q I rx ry h;obtain ⟨a,b,xs,ys,rfl,rfl,ha,hb,hx,hz,q1,q2⟩:=h;cases rx;cases ry;obtain ⟨its,r1,p1,_⟩:=I.tuple ha;obtain ⟨its2,r2,p2,_⟩:=I.tuple hb;refine HT.zeJ p1 p2 (λz=>hx (r1.Wf.mp z)) (λz=>⟨.ref a,H,I,rfl,q1 (r2.Wf.mp z)⟩) (λz=>?_) (by rw [<- r1.length,<- r2.length];exact hz);refine ⟨.ref s.heap.objs.size,_,I.laid (t':=s.toks) (o:=.tup (xs++ys)) (λb ob q=>η _ q) (Β _) ?_,rfl,q2 (λw=>z (r2.Wf.mpr w)) _ (I.hok.fresh (Β _))⟩;exact ⟨by rw [Ξ];exact hz,_,r1.append r2,IsTup.new _ _⟩
end
noncomputable def ixN (n:Nat) (i:Int):Option Nat:=if 0<=i then (if i < n then some i.toNat else none) else if -(n:Int)<=i then some (i+n).toNat else none
noncomputable def atI {α:Type}(xs:List α) (i:Int):Option α:=(ixN xs.length i).bind λj=>xs[j]?
theorem QF {n:Nat}{i:Int}{j:Nat}(h:ixN n i=some j):seqIndex? i n=some j/\j < n/\-(n:Int)<=i/\i < n:=by
 unfold ixN at h;by_cases h0:0<=i
 ·rw [if_pos h0] at h;by_cases h1:i < n
  ·rw [if_pos h1] at h;have e:i.toNat=j:=ϕ h;exact ⟨by rw [seqIndex_of h0 h1,e],by lia,by lia,h1⟩
  ·rw [if_neg h1] at h;cases h
 ·rw [if_neg h0] at h;by_cases h1:-(n:Int)<=i
  ·rw [if_pos h1] at h;have e:(i+n).toNat=j:=ϕ h;exact ⟨by rw [seqIndex_neg (by lia) h1,e],by lia,h1,by lia⟩
  ·rw [if_neg h1] at h;cases h
theorem WX {α:Type}{xs:List α}{i:Int}{v:α}(h:atI xs i=some v):∃ j,seqIndex? i xs.length=some j/\xs[j]?=some v/\j < xs.length/\-(xs.length:Int)<=i/\i < xs.length:=by
 unfold atI at h;cases e:ixN xs.length i with
 | none=>rw [e] at h;cases h
 | some j=>
  rw [e] at h;obtain ⟨h1,h2,h3,h4⟩:=QF e;exact ⟨j,h1,h,h2,h3,h4⟩
def W2 (b:Expr):Prop:=∀ o i,subscripted b false o i=operate [o,i] (lM o i)
def IxR (X:Cx) (r:R2):Prop:=
 ∀ (value slice:Expr) (pJ:List (Addr×Obj)) (s:μ) (σ:St) (H:Hp) (x y:V) (v u:δ) (Q:VK),Inv X pJ σ H s->RelV x v->RelV y u->r x y H Q ->
  subscripted slice false v u=operate [v,u] (lM v u)->Λ (Ν X.prog X.w) X.A (subscriptTail value slice v u) (EP X pJ σ Q) X.xe s
def MtR (X:Cx) (id:String) (r:V->List V->Hp->VK->Prop):Prop:=
 ∀ (pJ:List (Addr×Obj)) (s:μ) (σ:St) (H:Hp) (x:V) (xs:List V) (v:δ) (us:List δ) (Q:VK),Inv X pJ σ H s->RelV x v->Vals xs us->r x xs H Q ->
  Λ (Ν X.prog X.w) X.A (call (.builtin id) (v::us)) (EP X pJ σ Q) X.xe s
section
variable {X:Cx}{a b:Expr}{ta tb:TE}{pos:Pos}
theorem IxR.or {r r':R2}(h:IxR X r) (h':IxR X r'):IxR X (λx y H Q=>r x y H Q\/r' x y H Q):=by
 intro value slice pJ s σ H x y v u Q I rx ry q hs;rcases q with q | q
 ·exact h value slice pJ s σ H x y v u Q I rx ry q hs
 ·exact h' value slice pJ s σ H x y v u Q I rx ry q hs
theorem MtR.or {id:String}{r r':V->List V->Hp->VK->Prop}(h:MtR X id r) (h':MtR X id r'):MtR X id (λx xs H Q=>r x xs H Q\/r' x xs H Q):=by
 intro pJ s σ H x xs v us Q I rx rs q;rcases q with q | q
 ·exact h pJ s σ H x xs v us Q I rx rs q
 ·exact h' pJ s σ H x xs v us Q I rx rs q
theorem zjc {r:R2}(hr:IxR X r) (ha:PE X a ta) (hb:PE X b tb) (hs:W2 b):PE X (.Subscript a b pos) (tOp r ta tb):=by intro pJ s σ H Q I h;exact Subscript_ (binT ha hb I h λv u s2 x y H2 I2 rx ry q=>hr a b pJ s2 σ H2 x y v u Q I2 rx ry q (hs _ _))
def rIxL (K:W.Frag):R2:=λx y H Q=>∃ p xs i v,x=.ref p/\y=.int i/\SqL K H p xs/\atI xs i=some v/\Q v H
def rIxT (K:W.Frag):R2:=λx y H Q=>∃ p xs i v,x=.ref p/\y=.int i/\SqT K H p xs/\atI xs i=some v/\Q v H
def rIxS:R2:=λx y H Q=>∃ z i c,x=.str z/\y=.int i/\z.length<=sizeLine/\atI z.cps.toList i=some c/\Q (.str ⟨#[c]⟩) H
theorem QD:IxR X (rIxL X.K):=by
 intro value slice pJ s σ H x y v u Q I rx ry h hs;obtain ⟨p,xs,i,z,rfl,rfl,hq,he,q⟩:=h;cases rx;obtain ⟨t,rfl⟩:=ry;obtain ⟨its,r,pl,hz⟩:=I.list hq;obtain ⟨j,h1,h2,h3,h4,h5⟩:=WX he;obtain ⟨w,ew,rw'⟩:=r.get h2;have hl:=r.length;have hn:=qi;have fin:EP X pJ σ Q w s:=⟨z,H,I,rw',q⟩
 by_cases h0:0<=i
 ·have hj:i.toNat=j:=by rw [seqIndex_of h0 h5] at h1;exact ϕ h1
  exact item_listR pl.isList h0 (by lia) (by rw [hj];simpa using ew) fin hs
 ·have hj:(i+(its.toArray.size:Int)).toNat=j:=by rw [seqIndex_neg (by lia) h4] at h1;rw [ω,<- hl];exact ϕ h1
  exact pP (x:=w) pl.isList.typeIs slot_list_getitem.lookup
   (wpAny_getItem_list_neg (Q:=λr s'=>r=w/\EP X pJ σ Q r s') pl.isList (by lia) (by rw [ω] <;> lia) (by lia) (by rw [hj];simpa using ew) ⟨rfl,fin⟩) hs
theorem zg5:IxR X (rIxT X.K):=by
 intro value slice pJ s σ H x y v u Q I rx ry h hs;obtain ⟨p,xs,i,z,rfl,rfl,hq,he,q⟩:=h;cases rx;obtain ⟨t,rfl⟩:=ry;obtain ⟨its,r,pl,hz⟩:=I.tuple hq;obtain ⟨j,h1,h2,h3,h4,h5⟩:=WX he;obtain ⟨w,ew,rw'⟩:=r.get h2;have hl:=r.length;have hn:=qi;have fin:EP X pJ σ Q w s:=⟨z,H,I,rw',q⟩
 exact pP (x:=w) pl.typeIs slot_tuple_getitem.lookup
  (getItem_tuple (j:=j) (Q:=λr s'=>r=w/\EP X pJ σ Q r s') pl (by lia) (by lia) (by rw [ω,<- hl];exact h1) (by simpa using ew) ⟨rfl,fin⟩) hs
theorem zg6:IxR X rIxS:=by
 intro value slice pJ s σ H x y v u Q I rx ry h hs;obtain ⟨z,i,c,rfl,rfl,hz,he,q⟩:=h;obtain ⟨t,rfl⟩:=rx;obtain ⟨t',rfl⟩:=ry;obtain ⟨j,h1,h2,h3,h4,h5⟩:=WX he;have hl:z.cps.toList.length=z.length:=by simp [Str.length]
 rw [hl] at h1 h4 h5;have hn:=qi
 exact tail_any (typeIs_str s z t) slot_str_getitem.lookup (getItem_str (c:=c) (by
  have e1:decide (i < -(2 ^ 63:Int))=false:=decide_eq_false (by lia);have e2:decide (i >= 2 ^ 63)=false:=decide_eq_false (by lia)
  rw [e1,e2,Bool.or_false]) (by rw [h1];simpa using h2) ⟨.str ⟨#[c]⟩,H,I.tok _,⟨_,rfl⟩,q⟩) hs
theorem UT (its:List δ) (n j:Nat) (u:δ):bH (·.setIfInBounds j u) { cls:=.type "list",data:=.seq its.toArray n }={ cls:=.type "list",data:=.seq (its.set j u).toArray n }:=by simp [bH]
theorem Inv.lst {pJ:List (Addr×Obj)}{σ:St}{H:Hp}{s:μ}{p:Addr}{xs:List V}(I:Inv X pJ σ H s) (h:H p=some (.lst xs)):
  ∃ (its:List δ) (n:Nat),Vals xs its/\s.heap.get? p=some { cls:=.type "list",data:=.seq its.toArray n }/\xs.length<=sizeLine:=by obtain ⟨z,its,n,r,e⟩:=I.hok p _ h;exact ⟨its,n,r,e,z⟩
theorem Inv.zgQ {pJ:List (Addr×Obj)}{σ:St}{H:Hp}{s:μ}{p:Addr}{xs ys:List V}{its its':List δ}{n n':Nat}{f:Obj->Obj}(I:Inv X pJ σ H s) (h:H p=some (.lst xs))
  (ho:s.heap.get? p=some { cls:=.type "list",data:=.seq its.toArray n }) (hf:f { cls:=.type "list",data:=.seq its.toArray n }={ cls:=.type "list",data:=.seq its'.toArray n' }) (r:Vals ys its') (hz:ys.length<=sizeLine) (t:Nat):
  Inv X pJ σ (upd H p (.lst ys)) { s with heap:=s.heap.update p f,toks:=t }:=by
 have e:(s.heap.update p f).get? p=some { cls:=.type "list",data:=.seq its'.toArray n' }:=by rw [ϵ f ho (by rw [hf] <;> rfl),hf]
 refine I.write (x:=p) (e:=p) (by rw [h];trivial) (.inl rfl) (λb u hb q=>(aX _ _ (bT hb)).trans q) ⟨_,e⟩ ?_;exact ⟨hz,its',n',r,e⟩
def zf9:V->V->V->Hp->(Hp->Prop)->Prop:=λo i v H Q=>∃ p xs k j,o=.ref p/\i=.int k/\H p=some (.lst xs)/\ixN xs.length k=some j/\Q (upd H p (.lst (xs.set j v)))
theorem set_list:PSet X zf9:=by
 intro pJ s σ H o i v ov iv u Q I ro ri rv h;obtain ⟨p,xs,k,j,rfl,rfl,hp,hj,q⟩:=h;cases ro;obtain ⟨t,rfl⟩:=ri;obtain ⟨its,n,r,ho,hz⟩:=I.lst hp;obtain ⟨h1,h2,h3,h4⟩:=QF hj;have hl:=r.length;have hn:=qi;have I':Inv X pJ σ (upd H p (.lst (xs.set j v))) { s with heap:=s.heap.update p (bH (·.setIfInBounds j u)) }:=
  I.zgQ hp ho (UT its n j u) (r.set rv j) (by rw [ϥ];exact hz) s.toks
 by_cases h0:0<=k
 ·have hk:k.toNat=j:=by rw [seqIndex_of h0 h4] at h1;exact ϕ h1
  exact W.ki_setAt ho h0 (by lia) (by rw [ω,<- hl];exact h4) (by rw [hk];exact ⟨_,I',q⟩)
 ·have hk:(k+(its.toArray.size:Int)).toNat=j:=by rw [seqIndex_neg (by lia) h3] at h1;rw [ω,<- hl];exact ϕ h1
  exact W.ki_setBack ho (by lia) (by rw [ω,<- hl];exact h3) (by lia) (by rw [hk];exact ⟨_,I',q⟩)
theorem Z8 (lo hi:Option Int) (n:Nat):(fO lo hi none n).1=((HT.sIx n 0 lo:Nat):Int)/\(fO lo hi none n).2.1=((HT.sIx n n hi:Nat):Int)/\(fO lo hi none n).2.2=1:=by
 refine ⟨?_,?_,rfl⟩
 ·cases lo with
  | none=>simp [fO,HT.sIx]
  | some i=>
   simp only [fO,HT.sIx,pH,show (1:Int) > 0 by decide,if_true];by_cases h:i < 0
   ·simp only [h,if_true] <;> lia
   ·simp only [h,if_false] <;> lia
 ·cases hi with
  | none=>simp [fO,HT.sIx]
  | some i=>
   simp only [fO,HT.sIx,pH,show (1:Int) > 0 by decide,if_true];by_cases h:i < 0
   ·simp only [h,if_true] <;> lia
   ·simp only [h,if_false] <;> lia
theorem qW (its:List δ) (lo hi:Option Int):slicePick its.toArray lo hi none=((its.drop (HT.sIx its.length 0 lo)).take (HT.sIx its.length its.length hi - HT.sIx its.length 0 lo)).toArray:=by obtain ⟨h1,h2,h3⟩:=Z8 lo hi its.toArray.size;unfold slicePick;rw [h1,h2,h3];simp only [sliceRange_one,pick_run,ω] <;> rfl
def rSlL (K:W.Frag):V->Option Int->Option Int->Hp->VK->Prop:=λx lo hi H Q=>∃ a xs,x=.ref a/\SqL K H a xs/\∀ p,H p=none->Q (.ref p) (upd H p (.lst (cutV xs lo hi)))
theorem JN:SlR X (rSlL X.K):=by intro pJ s σ H x v vl vu lo hi sl Q I rx hs pl pu h;obtain ⟨a,xs,rfl,hx,q⟩:=h;cases rx;obtain ⟨its,r,ht,hz⟩:=I.list hx;have hlen:=r.length;refine ⟨"list",_,slot_list_getitem.lookup,ht.isList.typeIs,?_⟩;refine wpAny_getItem_list_slice ht.isList hs pl pu .none (by simp) ?_ (by rw [ω] <;> lia);rw [qW,<- hlen];refine ⟨.ref s.heap.objs.size,_,I.laid (t':=s.toks) (o:=.lst (cutV xs lo hi)) (λb ob q=>η _ q) (Β _) ?_,rfl,q _ (I.hok.fresh (Β _))⟩;exact ⟨Ϧ (jJ xs lo hi) hz,_,0,(r.drop (HT.sIx xs.length 0 lo)).take (HT.sIx xs.length xs.length hi - HT.sIx xs.length 0 lo),Θ _ rfl⟩
noncomputable def zep:V->Bool
 | .non=>true
 | .bl _=>true
 | .int _=>true
 | .str _=>true
 | _=>false
noncomputable def eqV:V->V->Bool
 | .non,.non=>true
 | .bl a,.bl b=>a==b
 | .bl a,.int b=>(if a then 1 else 0)==b
 | .int a,.bl b=>a==(if b then 1 else 0)
 | .int a,.int b=>a==b
 | .str a,.str b=>a==b
 | _,_=>false
theorem zcI {A:ϙ}{s:μ}{y x:V}{u v:δ}(ry:RelV y u) (rx:RelV x v) (fy:zep y=true) (fx:zep x=true):Ϻ A s u v (eqV y x):=by
 cases y with
 | non=>
  cases ry;cases x with
  | non=>cases rx;exact Ϻ.same _
  | bl b=>cases rx;exact Ϻ.none_bool b
  | int b=>obtain ⟨t,rfl⟩:=rx;exact Ϻ.none_int b t
  | str b=>obtain ⟨t,rfl⟩:=rx;exact Ϻ.none_str b t
  | _=>exact absurd (show false=true from fx) Μ
 | bl a=>
  cases ry;cases x with
  | non=>cases rx;exact Ϻ.bool_none a
  | bl b=>cases rx;exact Ϻ.bool_bool a b
  | int b=>obtain ⟨t,rfl⟩:=rx;exact Ϻ.bool_int a b t
  | str b=>obtain ⟨t,rfl⟩:=rx;exact Ϻ.bool_str a b t
  | _=>exact absurd (show false=true from fx) Μ
 | int a=>
  obtain ⟨t',rfl⟩:=ry;cases x with
  | non=>cases rx;exact Ϻ.int_none a t'
  | bl b=>cases rx;exact Ϻ.int_bool a t' b
  | int b=>obtain ⟨t,rfl⟩:=rx;exact Ϻ.int_int a t' b t
  | str b=>obtain ⟨t,rfl⟩:=rx;exact nW a t' b t
  | _=>exact absurd (show false=true from fx) Μ
 | str a=>
  obtain ⟨t',rfl⟩:=ry;cases x with
  | non=>cases rx;exact Ϻ.str_none a t'
  | bl b=>cases rx;exact Ϻ.str_bool a t' b
  | int b=>obtain ⟨t,rfl⟩:=rx;exact nU a t' b t
  | str b=>obtain ⟨t,rfl⟩:=rx;exact Ϻ.str_str a t' b t
  | _=>exact absurd (show false=true from fx) Μ
 | _=>exact absurd (show false=true from fy) Μ
theorem Yu:OpR X (ϔ .NotIn) (λx y H Q=>∃ i j,x=.str i/\y=.str j/\Q (.bl (!(!(fQ j i 0 j.length 1).isEmpty))) H):=by intro pJ s σ H x y v u Q I rx ry h;obtain ⟨i,j,rfl,rfl,q⟩:=h;obtain ⟨t,rfl⟩:=rx;obtain ⟨t',rfl⟩:=ry;exact notIn_str ⟨.bl _,H,I,rfl,q⟩
theorem xT:yu X (.builtin "len") (λxs H Q=>∃ p ys,xs=[.ref p]/\(SqL X.K H p ys\/SqT X.K H p ys)/\Q (.int ys.length) H):=by
 intro pJ s σ H xs us Q I r h;obtain ⟨p,ys,rfl,hq,q⟩:=h;obtain ⟨u,rfl,rx⟩:=vals1 r;cases rx;have hn:=qi;rcases hq with hq | hq
 ·obtain ⟨its,r',pl,hz⟩:=I.list hq;have hlen:=r'.length;exact Calls.call_len_list pl.isList (by simp only [ω] <;> lia) ⟨.int ys.length,H,I.tok _,⟨s.toks+1,by rw [ω,hlen]⟩,q⟩
 ·obtain ⟨its,r',pl,hz⟩:=I.tuple hq;have hlen:=r'.length;exact len_tuple pl (by simp only [ω] <;> lia) ⟨.int ys.length,H,I.tok _,⟨s.toks+1,by rw [ω,hlen]⟩,q⟩
theorem Xj:yu X (.builtin "len") (λxs H Q=>∃ z,xs=[.str z]/\z.length<=sizeLine/\Q (.int z.length) H):=by intro pJ s σ H xs us Q I r h;obtain ⟨z,rfl,hz,q⟩:=h;obtain ⟨u,rfl,t,rfl⟩:=vals1 r;have hn:=qi;exact len_str (by lia) ⟨.int z.length,H,I.tok _,⟨_,rfl⟩,q⟩
theorem yu.or {f:δ}{r r':List V->Hp->VK->Prop}(h:yu X f r) (h':yu X f r'):yu X f (λxs H Q=>r xs H Q\/r' xs H Q):=by
 intro pJ s σ H xs us Q I rs q;rcases q with q | q
 ·exact h pJ s σ H xs us Q I rs q
 ·exact h' pJ s σ H xs us Q I rs q
theorem ZL:yu X (.type "tuple") (λxs H Q=>∃ p ys,xs=[.ref p]/\((SqL X.K H p ys/\∀ l,H l=none->Q (.ref l) (upd H l (.tup ys)))\/(SqT X.K H p ys/\Q (.ref p) H))):=by
 intro pJ s σ H xs us Q I r h;obtain ⟨p,ys,rfl,h⟩:=h;obtain ⟨u,rfl,rx⟩:=vals1 r;cases rx;rcases h with ⟨hq,q⟩ | ⟨hq,q⟩
 ·obtain ⟨its,r',pl,hz⟩:=I.list hq;have hlen:=r'.length;refine call_tuple_list pl.isList (λh' kp=>?_) (by simp only [ω] <;> lia);have I1:Inv X pJ σ H { s with heap:=h' }:=I.kept (t':=s.toks) kp;have I2:Inv X pJ σ (upd H h'.objs.size (.tup ys)) { s with heap:=h'.push { cls:=.type "tuple",data:=.seq its.toArray } }:=
   I1.laid (t':=s.toks) (λb o e=>η _ e) (Β _) (show zY X.prog X.w _ _ _ (.tup ys) from ⟨hz,its,r',IsTup.new _ _⟩)
  exact ⟨.ref h'.objs.size,_,I2,rfl,q _ (I1.hok.fresh (Β _))⟩
 ·obtain ⟨its,r',pl,hz⟩:=I.tuple hq;exact call_tuple_same pl ⟨.ref p,H,I,rfl,q⟩
def tyV (K:W.Frag) (T:String) (x:V) (H:Hp):Prop:=match x with
 | .str _=>T="str"
 | .int _=>T="int"
 | .ref p=>(T="list"/\∃ xs,SqL K H p xs)\/(∃ o,K.lookup p=some o/\o.cls=.type T/\o.dict=none) \/
   (T="dict"/\((∃ kvs,H p=some (.dK kvs))\/∃ kvs,H p=some (.dT kvs)))\/(T="set"/\∃ S n,H p=some (.set S n))
 | _=>False
theorem zff {pJ:List (Addr×Obj)}{σ:St}{H:Hp}{s:μ}{T:String}{x:V}{v:δ}(I:Inv X pJ σ H s) (r:RelV x v) (ty:tyV X.K T x H):
  s.TypeIs v T/\∀ a,v=.ref a->∃ ob,s.heap.get? a=some ob/\ob.dict=none:=by
 cases x with
 | str z=>
  obtain ⟨t,rfl⟩:=r;cases (show T="str" from ty);exact ⟨typeIs_str s z t,λ_ e=>nomatch e⟩
 | int i=>
  obtain ⟨t,rfl⟩:=r;cases (show T="int" from ty);exact ⟨typeIs_int s i t,λ_ e=>nomatch e⟩
 | ref p=>
  cases r;rcases ty with ⟨rfl,xs,hq⟩ | ⟨o,hk,hc,hd⟩ | ⟨rfl,hk⟩ | ⟨rfl,S,n,hk⟩
  ·obtain ⟨its,_,pl,_⟩:=I.list hq;refine ⟨pl.isList.typeIs,λa e=>?_⟩;cases e;obtain ⟨o,n,e,c,hd,_⟩:=pl;exact ⟨o,e,hd⟩
  ·refine ⟨⟨o,I.kIn p o hk,hc⟩,λa e=>?_⟩;cases e;exact ⟨o,I.kIn _ o hk,hd⟩
  ·have z:∃ o,s.heap.get? p=some o/\o.ExactDict:=by
    rcases hk with ⟨kvs,hk⟩ | ⟨kvs,hk⟩
    ·obtain ⟨_,_,_,_,o,_,_,e,ex,_⟩:=I.hok p _ hk;exact ⟨o,e,ex⟩
    ·obtain ⟨_,_,_,_,o,_,_,e,ex,_⟩:=I.hok p _ hk;exact ⟨o,e,ex⟩
   obtain ⟨o,e,ex⟩:=z;refine ⟨⟨o,e,ex.1⟩,λa e2=>?_⟩;cases e2;exact ⟨o,e,ex.2.1⟩
  ·obtain ⟨o,_,_,_,e,ex,_⟩:=I.hok p _ hk;refine ⟨⟨o,e,ex.1⟩,λa e2=>?_⟩;cases e2;exact ⟨o,e,ex.2.1⟩
 | _=>exact ϟ ty
def tBM (K:W.Frag) (T:String) (r:V->List V->Hp->VK->Prop) (to:TE) (t:TA):TE:=λσ H Q=>to σ H λx H1=>tyV K T x H1/\t σ H1 λxs H2=>r x xs H2 Q
variable {o e:Expr}{es:List Expr}{to:TE}{t:TA}{name:Str}{apos cpos:Pos}{T id:String}{r:V->List V->Hp->VK->Prop}
theorem zdI (pa:PlainAttrs T) (slot:Slot T name id) (hty:typeOf (.builtin id)=pure (.type "method_descriptor")) (hm:MtR X id r) (ho:PE X o to) (ha:PA X (e::es) t)
  (hbase:attributeBase o name X.env (eval o X.env)=eval o X.env:=by rfl)
  (hfew:((fW cpos (ϰ (e::es) X.env)).all (λx=>!x.1)&&(dj cpos (bj [] X.env)).all (λx=>x.1.isSome)
  &&decide ((e::es).length+([]:List bG).length+(if ([]:List bG).isEmpty then 0 else 1) < 30))=true:=by rfl)
  (hline:(apos.endLine==cpos.line)=true:=by rfl) (hs:ϰ (e::es) X.env=(false,eval e X.env)::ϰ es X.env:=by rfl) (hplain:(fW cpos (ϰ es X.env)).any (·.1)=false:=by rfl):
  PE X (.Call (.Attribute o name apos) (e::es) [] cpos) (tBM X.K T r to t):=by intro pJ s σ H Q I h;refine wpAny_Call_method_late hbase hfew hline rfl (thn (ho pJ s σ H _ I h) λv s1 ⟨x,H1,I1,r1,ty,q1⟩=>?_);obtain ⟨h1,h2⟩:=zff I1 r1 ty;refine ⟨T,id,pa,slot,hty,h1,h2,?_⟩;have hA:=ha cpos pJ s1 σ H1 _ I1 q1;rw [hs] at hA ⊢;refine Calls.callWith_builtin (by show (false||(fW cpos (ϰ es X.env)).any (·.1))=false;rw [hplain] <;> rfl) (o7 ?_);exact thn hA λus s2 ⟨vs,H2,I2,r2,q2⟩=>hm pJ s2 σ H2 x vs v us Q I2 r1 r2 q2
end
def MtM (X:Cx) (id:String) (r:V->List V->Hp->VK->Prop):Prop:=
 ∀ (pJ:List (Addr×Obj)) (s:μ) (σ:St) (H:Hp) (x:V) (xs:List V) (v:δ) (us:List δ) (Q:VK),Inv X pJ σ H s->RelV x v->Vals xs us->r x xs H Q ->
  Λ (Ν X.prog X.w) X.A (call (.builtin id) (v::us)) (EP X pJ σ Q) X.xe s
theorem Vals.one:∀ {x:V}{us:List δ},Vals [x] us->∃ u,us=[u]/\RelV x u
 | _,_,.cons r .nil=>⟨_,rfl,r⟩
theorem Vals.two:∀ {x y:V}{us:List δ},Vals [x,y] us->∃ u v,us=[u,v]/\RelV x u/\RelV y v
 | _,_,_,.cons r (.cons q .nil)=>⟨_,_,rfl,r,q⟩
section
variable {X:Cx}{pJ:List (Addr×Obj)}{σ:St}{H:Hp}{s:μ}{l b:Addr}{xs ys zs:List V}
theorem Inv.lset {its its':List δ}{n:Nat}{f:Array δ->Array δ}{t':Nat}(I:Inv X pJ σ H s) (hH:H l=some (.lst xs))
  (e:s.heap.get? l=some { cls:=.type "list",data:=.seq its.toArray n }) (hf:f its.toArray=its'.toArray) (hv:Vals ys its') (hz:ys.length<=sizeLine):
  Inv X pJ σ (upd H l (.lst ys)) { s with heap:=s.heap.update l (bH f),toks:=t' }:=by have q:=PySem.IsL.update e f;rw [hf] at q;refine I.write (x:=l) (e:=l) (by rw [hH];exact trivial) (.inl rfl) (λb' u hb hu=>(aX s.heap (bH f) (bT hb)).trans hu) ⟨_,q⟩ ?_;exact ⟨hz,its',_,hv,q⟩
theorem Inv.lnew {its:List δ}{t':Nat}(I:Inv X pJ σ H s) (hv:Vals ys its) (hz:ys.length<=sizeLine):
  Inv X pJ σ (upd H s.heap.objs.size (.lst ys)) { s with heap:=s.heap.push { cls:=.type "list",data:=.seq its.toArray },toks:=t' }:=
 I.laid (λ_ _ q=>η _ q) (Β _) ⟨hz,its,0,hv,Θ _ rfl⟩
theorem Inv.fresh (I:Inv X pJ σ H s):H s.heap.objs.size=none:=I.hok.fresh (Β _)
theorem Inv.lstM (I:Inv X pJ σ H s) (hH:H l=some (.lst xs)):xs.length<=sizeLine/\∃ (its:List δ) (n:Nat),Vals xs its/\xs.length=its.length/\s.heap.get? l=some { cls:=.type "list",data:=.seq its.toArray n }:=by obtain ⟨z,its,n,r,e⟩:=I.hok l _ hH;exact ⟨z,its,n,r,r.length,e⟩
theorem Vr {n:Nat}(h:n<=sizeLine):dg n=false:=by unfold dg;exact decide_eq_false (by lia)
end
section
variable {X:Cx}
def zdr:V->List V->Hp->VK->Prop:=λx vs H Q=>∃ l xs y,x=.ref l/\vs=[y]/\H l=some (.lst xs)/\xs.length < sizeLine/\Q .non (upd H l (.lst (xs++[y])))
theorem YC:MtM X "list.append" zdr:=by intro pJ s σ H x vs v us Q I rx rv h;obtain ⟨l,xs,y,rfl,rfl,hH,hz,q⟩:=h;cases rx;obtain ⟨u,rfl,ru⟩:=rv.one;obtain ⟨z,its,n,r,hl,e⟩:=I.lstM hH;refine oZ F.slot_list_append ⟨_,e,rfl⟩ F.entry_list_append (F.args_list_append_2 _ _) (PySem.list_append l its.toArray n u (by rw [ω];lia)) ⟨e,?_⟩;refine ⟨.non,_,I.lset (its':=its++[u]) hH e (by simp) (r.append (.cons ru .nil)) ?_,rfl,q⟩;rw [Ξ,List.length_singleton];lia
def zdq:V->List V->Hp->VK->Prop:=λx vs H Q=>∃ l b xs zs,x=.ref l/\vs=[.ref b]/\H l=some (.lst xs)/\H b=some (.lst zs)/\xs.length+zs.length<=sizeLine/\Q .non (upd H l (.lst (xs++zs)))
theorem K9:MtM X "list.extend" zdq:=by
 intro pJ s σ H x vs v us Q I rx rv h;obtain ⟨l,b,xs,zs,rfl,rfl,hH,hB,hz,q⟩:=h;cases rx;obtain ⟨u,rfl,ru⟩:=rv.one;cases ru;obtain ⟨z,its,n,r,hl,e⟩:=I.lstM hH;obtain ⟨z2,its2,n2,r2,hl2,e2⟩:=I.lstM hB;have hsz:its.toArray.size+its2.toArray.size<=sizeLine:=by rw [ω,ω];lia
 have hlong:¬ (!its.toArray.isEmpty&&dg (its.toArray.size+its2.toArray.size))=true:=by rw [Vr hsz,iI];exact Μ
 refine oZ F.slot_list_extend ⟨_,e,rfl⟩ F.entry_list_extend (F.args_list_extend_2 _ _)
  (AutoSeq1.list_extend_list_list_0 l its.toArray n b its2.toArray n2 hlong (by rw [ω];lia) (by lia)) ⟨e,e2,?_⟩
 refine ⟨.non,_,I.lset (its':=its++its2) hH e (by simp) (r.append r2) ?_,rfl,q⟩;rw [Ξ];lia
end
end L2
namespace Att
open PySem PySem.W PySem.Calls PyProof.Rows
theorem jz {P:Params}{h:Heap}:∀ (ns:List Int) (vs:List δ),WellAll P h vs (ns.map WData.int)->IntsAre vs ns:=by
 intro ns
 induction ns with
 | nil=>
  intro vs w;rw [gW] at w;cases w;exact .nil
 | cons n ns ih=>
  intro vs w;rw [ϧ] at w;cases w with
  | cons a b=>
   cases a;exact .cons _ _ (ih _ b)
theorem JV {l:OpenLaw}{n:Nat}(hn:l.most=some n) {P:Params}{h:Heap}{args:List WData}{vals:List δ}
  (hpre:l.row.toRowW.claim.pre args=true) (hwl:WellAll P h vals args):
  ∃ a vs ns,vals=[Ι a]/\args=[WData.list (ns.map WData.int)]/\h.get? a=some { cls:=.type "list",data:=.seq vs.toArray }/\IntsAre vs ns/\ns.length<=n:=by
 have hsh:WShape.hasAll [] args [.list .int]=true:=(pre_splitW hpre).1;have hc:l.pre.holds [] { args:=args }=true:=(pre_splitW hpre).2;obtain ⟨d,r,rfl,h1,h2⟩:=hasAllW_cons hsh;obtain rfl:=hasAllW_nil h2;obtain ⟨xs,rfl,h3⟩:=hasW_list h1;obtain ⟨ns,rfl⟩:=items_int h3;have hlen:ns.length<=n:=by
  unfold OpenLaw.pre at hc;have h4:(WTm.not (.lt (.lit (.int (n:Int))) (.len (.arg 0)))).holds [] { args:=[.list (ns.map .int)] }=true:=by have h4:=(holds_andW hc).1;rw [hn] at h4;exact h4
  have h5:=condW_of h4 (w_not (w_lt w_lit (w_len_list (w_arg rfl))));rw [ψ] at h5;refine mL λq=>?_
  have q':(n:Int) < ((ns.length:Nat):Int):=by omega
  first
   | (rw [decide_eq_true q'] at h5;exact absurd h5 (by decide))
   | (simp at h5;omega)
 cases hwl with
 | cons w1 w2=>
  cases w2;cases w1 with
  | list ho hall=>exact ⟨_,_,ns,rfl,rfl,ho,jz ns _ hall,hlen⟩
theorem Kl (l:OpenLaw) (args:List WData):l.row.toRowW.claim.post args (.bool true) args=true:=
 postW_of (r:=l.row.toRowW) (X:=(true==true))
  (show WShape.has [] (.bool true) .bool=true by first | rfl | decide | simp [WShape.has,WShape.arms,WShape.armsAll])
  (show (WTm.eq .res (.lit (.bool true))).value [] { args:=args,res:=some (.bool true),after:=args }=some (.bool (true==true)) from w_eq_bool (w_res rfl) w_lit) rfl
theorem WW {l:OpenLaw}{n:Nat}{q:Τ}{loose:List Str}{XP:(Str->Option δ)->Heap->Prop}{YP:ϓ->Heap->Prop}{d:DefRec}
  (hn:l.most=some n) (hdf:d.params.defaults=[])
  (call:∀ (w:ϓ) (sy s₁:μ) (mg mb:Str->Option δ) (fa:Addr) (o:Obj) (pm cd doc:δ) (a:Addr) (vs:List δ) (ns:List Int),
   Ground q loose [] XP w sy mg mb s₁.heap->YP w s₁.heap ->
   s₁.heap.get? fa=some o->o.data=.func (docDef d.name d.params d.body d.scope pm cd doc)->s₁.heap.CodeRec cd d.name->mg d.name=some (.ref fa) ->
   s₁.heap.get? a=some { cls:=.type "list",data:=.seq vs.toArray }->IntsAre vs ns->ns.length<=n->s₁.gens=#[] ->
   gf (Ν l.prog w) callerA (.call (.ref fa) ⟨[.ref a],[]⟩) (λr s'=>r=.ok (.ret (.bool true))/\OldK s₁.heap s'.heap/\s'.os=s₁.os/\gY s'.gens) s₁):
  WalkO q loose XP YP l.row.toRowW d [] (λf vs=>PySem.call f vs):=by intro w sy s₁ mg mb G Y fa o pm cd doc dV kV ho hd hcd hD hmg hg args vals as hpre hlay hrd hwl hlo;obtain rfl:dV=.none:=Dflts.none hD hdf;obtain rfl:kV=.none:=Dflts.noKw hD;obtain ⟨a,vs,ns,rfl,rfl,hobj,hints,hlen⟩:=JV hn hpre hwl;refine enter_call (cY (call w sy s₁ mg mb fa o pm cd doc a vs ns G Y ho (fd_plain hd) hcd hmg hobj hints hlen hg) λr s' hq=>?_);obtain ⟨rfl,h2,h3,h4⟩:=hq;exact ⟨.inl ⟨.bool true,.bool true,[],rfl,λ_=>rfl,.bool true,Kl l _,λ_=>⟨ir,λ_ hm=>(nomatch hm)⟩⟩,h2,h3,h4⟩
end Att
namespace L2
open PySem PySem.Spec PyProof.Rows
theorem Z0:∀ {vs:List δ}{ns:List Int},IntsAre vs ns->Vals (ns.map V.int) vs
 | _,_,.nil=>.nil
 | _,_,.cons n t h=>.cons ⟨t,rfl⟩ (Z0 h)
abbrev CX0:CXT:=λ_ _ _ _ _ _=>False
abbrev E0:XK:=λ_ _ _=>False
structure Fun (K:W.Frag) (x qual:Str) (st:Stmt) (f:Addr) (fd:bK):Prop where
 ex:∃ (oc:δ) (od:Option Addr) (kV doc pm:δ) (an:Option Addr) (cdv ct:δ) (osl:Array (Option δ)),
  fd=W.fnOf x qual (yQ st) (yt st) (zG st) .none kV doc pm an cdv ct/\K.lookup f=some ⟨oc,od,.func fd,osl⟩/\W.codeIn K cdv qual=true
 kp:W.keepIn K (.ref f)=true
section
variable {P:Τ}{w:ϓ}{K:W.Frag}{mg:Str->Option δ}{base:Heap}
theorem Fun.ok {x qual:Str}{st:Stmt}{f:Addr}{fd:bK}{N ps:List Str}{k:Nat}{sp:Sp}(F:Fun K x qual st f fd) (S:ZV N ps (zG st)) (len:∀ vs H Q E,sp vs H Q E->vs.length=ps.length)
  (hbody:∀ (cdv:δ) (A:ϙ) (outer:List Env) (s:μ) (H:Hp) (vs:List V) (Q:VK) (E:XK),Room k (A.deeper (mH qual (zG st) s.heap.objs.size f cdv))->sp vs H Q E ->
   ∃ t,PSs (cxOf CX0 P w K mg base N qual (zG st) f cdv A outer s H E).nox (yt st) t/\t { nx:=λ_ H'=>Q .non H',rt:=Q } (start N vs) H):FnOk P w K mg base CX0 (k+1) f fd ps sp:=by
 obtain ⟨oc,od,kV,doc,pm,an,cdv,ct,osl,rfl,lk,hcd⟩:=F.ex;refine zhx (ro:=λ_=>false) lk hcd S len λA outer s H vs Q E hr hsp=>?_
 obtain ⟨t,h,q⟩:=hbody cdv A outer s H vs Q E hr hsp;exact ⟨t,h.nox,q⟩
theorem Fun.binds {x qual:Str}{st:Stmt}{f:Addr}{fd:bK}{ps:List Str}(F:Fun K x qual st f fd)
  (h:∀ (kV doc pm:δ) (an:Option Addr) (cdv ct:δ) (us:List δ),us.length=ps.length->gD (W.fnOf x qual (yQ st) (yt st) (zG st) .none kV doc pm an cdv ct) ⟨us,[]⟩=pure (ps.zip us)):Binds K fd ps []:=by obtain ⟨oc,od,kV,doc,pm,an,cdv,ct,osl,rfl,lk,hcd⟩:=F.ex;exact .all (h kV doc pm an cdv ct)
theorem zhv {x qual:Str}{st:Stmt}{f:Addr}{oc:δ}{od an:Option Addr}{osl:Array (Option δ)}{kV doc pm cdv ct:δ}(l:K.lookup f=some ⟨oc,od,.func (W.fnOf x qual (yQ st) (yt st) (zG st) .none kV doc pm an cdv ct),osl⟩)
  (c:W.codeIn K cdv qual=true) (k:W.keepIn K (.ref f)=true):Fun K x qual st f (W.fnOf x qual (yQ st) (yt st) (zG st) .none kV doc pm an cdv ct):=⟨⟨oc,od,kV,doc,pm,an,cdv,ct,osl,rfl,l,c⟩,k⟩
end
theorem iteF {A B:Prop}(h:B):if false=true then A else B:=by rw [if_neg Μ];exact h
theorem iteT {A B:Prop}(h:A):if true=true then A else B:=by rw [if_pos rfl];exact h
def Same (H H':Hp):Prop:=∀ b o,H b=some o->H' b=some o
theorem Same.refl (H:Hp):Same H H:=λ_ _ h=>h
theorem Same.trans {H H1 H2:Hp}(a:Same H H1) (b:Same H1 H2):Same H H2:=λc o h=>b c o (a c o h)
theorem Same.free {H H':Hp}(e:Same H H') {l:Addr}(h:H' l=Option.none):H l=Option.none:=by
 cases q:H l with
 | none=>rfl
 | some o=>
  rw [e l o q] at h;cases h
theorem Same.seq {K:W.Frag}{H H':Hp}{a:Addr}{xs:List V}(e:Same H H') (h:SqL K H a xs):SqL K H' a xs:=by
 rcases h with (h | ⟨o,h⟩) | h
 ·exact .inl (.inl (e _ _ h))
 ·exact .inl (.inr ⟨o,e _ _ h⟩)
 ·exact .inr h
section
variable {X:Cx}{pJ:List (Addr×Obj)}{σ:St}{H:Hp}{s:μ}
noncomputable abbrev kn (o:Obj):HO:=.frz o (.ext λ_=>True)
theorem zbB {P:Τ}{w:ϓ}{H:Hp}{h:Heap}{a:Addr}{o:Obj}(e:h.get? a=some o):zY P w H h a (kn o):=⟨e,trivial,⟨o,e⟩,λ_ _ _ _=>trivial⟩
theorem Inv.known {x:Str}{c:Addr}{o:Obj}(I:Inv X pJ σ H s) (hc:X.env.cells.lookup x=some c) (hf:X.fn x=false) (hz:X.sy.heap.objs.size<=c) (e:s.heap.get? c=some o) (hn:H c=none):Inv X pJ σ (upd H c (kn o)) s:=by
 have ne:∀ b u,H b=some u->b≠c:=λb u q z=>by rw [z,hn] at q;cases q
 have up:∀ b u,H b=some u->upd H c (kn o) b=some u:=λb u q=>by rw [zc (ne b u q)];exact q
 obtain ⟨v,o',eo,hd⟩:=I.cell x c hc;rw [e] at eo;cases eo;refine ⟨I.ok,I.os,I.bare,⟨I.base.keep,I.base.slot,λb ob q n hx=>?_,I.base.there,λb xs q=>up _ _ (I.base.tups b xs q),λb ob u q=>up _ _ (I.base.frzs b ob u q),λb ps q=>?_⟩,I.loc,I.cell,?_,λy d q=>?_,λp hp=>?_,λb u q=>?_,I.len⟩
 ·rw [zc (Φ (Ω (Δ q) hz))];exact I.base.free b ob q n hx
 ·obtain ⟨m,q1⟩:=I.base.tbls b ps q;exact ⟨m,up _ _ q1⟩
 ·rw [zc (bT (I.cne x c hc))];exact I.free
 ·by_cases hd:d=c
  ·subst hd;cases I.ok.inj _ _ _ q hc;exact .inr ⟨hf,o,zr⟩
  ·rw [zc hd];exact I.freeC y d q
 ·obtain ⟨q1,q2,q3,q4,q5⟩:=I.pin p hp;have:p.1≠c:=λz=>by rw [z,e] at q1;exact q5 v (by rw [<- ϕ q1];exact hd)
  exact ⟨q1,by rw [zc this];exact q2,q3,q4,q5⟩
 ·by_cases hb:b=c
  ·subst hb;rw [zr] at q;cases q;exact zbB e
  ·rw [zc hb] at q;exact (I.hok b u q).stay (λ_ _ _ r=>r) (λd r=>up _ _ r) λd xs r=>up _ _ r
end
open PySem PySem.Spec PySem.W PyProof.Rows
inductive Trp (R:δ->Prop):List δ->Prop
 | nil:Trp R []
 | cons {i j:Int}{t u:Tok}{c:δ}{l:List δ}(r:R c) (h:Trp R l):Trp R (.int i t::.int j u::c::l)
section
variable {R R':δ->Prop}{l:List δ}
theorem Trp.ok (h:Trp R l):TriplesOk l:=by
 induction h with
 | nil=>trivial
 | cons r h ih=>exact ih
theorem Trp.at {pos:Pos}{cv:δ}(h:Trp R l) (e:codeAmong pos l=some cv):R cv:=by
 induction h with
 | nil=>cases e
 | cons r h ih=>
  rw [codeAmong.eq_1] at e;split at e
  ·cases e;exact r
  ·exact ih e
theorem Trp.snoc {i j:Int}{t u:Tok}{c:δ}(h:Trp R l) (r:R c):Trp R (l++[.int i t,.int j u,c]):=by
 induction h with
 | nil=>exact .cons r .nil
 | cons r h ih=>exact .cons r ih
theorem Trp.mono (h:Trp R l) (m:∀ c,R c->R' c):Trp R' l:=by
 induction h with
 | nil=>exact .nil
 | cons r h ih=>exact .cons (m _ r) ih
end
def zj0 (q:Str) (o:Obj):Prop:=∃ vs t,o.data=.fields vs/\vs[1]?=some (.str q t)
def yg (H:Hp) (q:Str) (v:δ):Prop:=∃ c o,v=.ref c/\H c=some (kn o)/\zj0 q o
theorem yg.rec_ {P:Τ}{w:ϓ}{H:Hp}{h:Heap}{q:Str}{v:δ}(x:yg H q v) (hok:HOk P w H h):h.CodeRec v q:=by obtain ⟨c,o,e1,e2,vs,t,e3,e4⟩:=x;exact ⟨c,o,vs,t,e1,(hok c _ e2).1,e3,e4⟩
def TabOk (H:Hp) (P:Addr) (q:Str):Prop:=∃ ps,H P=some (.tbl ps)/\Trp (yg H q) ps.toList
noncomputable abbrev lamO (q:Str) (params:bA) (body:Expr) (sc:aM) (cl:List (Str×Addr)) (pm cv ct:δ):Obj:={ cls:=.type "function",data:=.func (kla_fn "<lambda>" q params body sc cl pm cv ct) }
structure ze5 (H:Hp) (h:Heap) (P:Addr) (q:Str) (params:bA) (body:Expr) (sc:aM) (cl:List (Str×Addr)) (a:Addr) (H':Hp):Prop where
 fn:∃ pm cv ct,H' a=some (kn (lamO q params body sc cl pm cv ct))/\yg H' q cv
 tab:TabOk H' P q
 old:∀ b u,H b=some u->b≠P->H' b=some u
 new:∀ b,H b=none->H' b≠none->h.objs.size<=b
 fresh:H a=none
section
variable {X:Cx}{pJ:List (Addr×Obj)}{σ:St}{H:Hp}{s:μ}
theorem Inv.lam {params:bA}{body:Expr}{sc:aM}{pos:Pos}{cc P:Addr}{cl:List (Str×Addr)}{Q:VSP}{E:VSP}(I:Inv X pJ σ H s)
  (hd:oY params X.env=([],[])) (hcl:mJ sc X.env=pure cl) (hco:X.env.code=.ref cc) (hh:CodeHd s.heap cc P) (hT:TabOk H P (X.env.qual++"<lambda>")) (hg:Ψ≠P) (hb:s.heap.BuiltinsAt X.mg P)
  (q:∀ a H' s',Inv X pJ σ H' s'->ze5 H s.heap P (X.env.qual++"<lambda>") params body sc cl a H'->Q (.ref a) s'):Λ (Ν X.prog X.w) X.A (eval (.Lambda params body sc pos) X.env) Q E s:=by
 obtain ⟨ps,hP,tr⟩:=hT;have hPs:=I.hok P _ hP;have hns:s.heap.Ns Ψ X.mg:=I.mod.glob.keeps I.bk;refine kla_eval hd ?_;cases hc:codeAmong pos ps.toList with
 | some cv=>
  refine kla_makeFunctionHit hcl I.ok.glob hns hco hh hPs tr.ok hc hb λct h' tk k hz=>?_
  have k2:∀ b u,s.heap.get? b=some u->(h'.push (lamO (X.env.qual++"<lambda>") params body sc cl ((X.mg "__name__").getD .none) cv ct)).get? b=some u:=λb u e=>η _ (k b u e)
  have hf:H h'.objs.size=none:=I.hok.fresh hz;have up:∀ b u,H b=some u->upd H h'.objs.size (kn (lamO (X.env.qual++"<lambda>") params body sc cl ((X.mg "__name__").getD .none) cv ct)) b=some u:=λb u e=>by rw [zc (zq e hf)];exact e
  have cm:∀ v,yg H (X.env.qual++"<lambda>") v->yg (upd H h'.objs.size (kn (lamO (X.env.qual++"<lambda>") params body sc cl ((X.mg "__name__").getD .none) cv ct))) (X.env.qual++"<lambda>") v:=λv ⟨c,o,e1,e2,e3⟩=>⟨c,o,e1,up _ _ e2,e3⟩
  refine q _ _ _ (I.laid (a:=h'.objs.size) (t':=tk) k2 hz (zbB (Θ _ rfl))) ⟨⟨_,cv,ct,zr,cm _ (tr.at hc)⟩,⟨ps,up _ _ hP,tr.mono cm⟩,λb u e _=>up b u e,λb e n=>?_,hf⟩;by_cases hba:b=h'.objs.size
  ·rw [hba];exact hz
  ·rw [zc hba] at n;exact absurd e n
 | none=>
  refine kla_makeFunction hcl I.ok.glob hns hco hh hPs tr.ok hc hg hb λc ct h' tk ext h1 h2 cr hP2=>?_
  obtain ⟨_,oc,vs,t,ec,hoc,ed,ev⟩:=cr;cases ec;generalize hps:ps++#[aK (pos.line:Int),aK (pos.col:Int),Ι c]=ps2 at hP2;generalize hO:kla_obj "<lambda>" (X.env.qual++"<lambda>") params body sc cl ((X.mg "__name__").getD .none) c ct=O;have hOf:O.isFreed=false:=by rw [<- hO];rfl
  have hz:s.heap.objs.size<=h'.objs.size:=Ϧ h1 (cg h2);have nc:H c=none:=I.hok.fresh h1;have na:H h'.objs.size=none:=I.hok.fresh hz;have neP:∀ b,H b=none->b≠P:=λb e z=>by rw [z,hP] at e;cases e
  have cP:c≠P:=neP c nc;have aP:h'.objs.size≠P:=neP _ na;have ac:h'.objs.size≠c:=cN h2;generalize hH:upd (upd (upd H P (.tbl ps2)) c (kn oc)) h'.objs.size (kn O)=H2;have Ha:H2 h'.objs.size=some (kn O):=by rw [<- hH];exact zr
  have Hc:H2 c=some (kn oc):=by rw [<- hH,zc (bT ac)];exact zr
  have HP:H2 P=some (.tbl ps2):=by rw [<- hH,zc (bT aP),zc (bT cP)];exact zr
  have Ho:∀ b,b≠P->b≠c->b≠h'.objs.size->H2 b=H b:=λb n1 n2 n3=>by rw [<- hH,zc n3,zc n2,zc n1]
  have up:∀ b u,H b=some u->b≠P->H2 b=some u:=λb u e n=>(Ho b n (zq e nc) (zq e na)).trans e
  have k2:∀ b o,b≠P->s.heap.get? b=some o->(h'.push O).get? b=some o:=λb o n e=>η _ (ext b o n e)
  have kp:∀ b o,s.heap.get? b=some o->H b=none->(h'.push O).get? b=some o:=λb o e n=>k2 b o (neP b n) e
  have hP3:(h'.push O).get? P=some { cls:=.none,data:=.fields ps2 }:=η _ hP2;have hok:HOk X.prog X.w H2 (h'.push O):=λb u e=>by
   by_cases n3:b=h'.objs.size
   ·subst n3;rw [Ha] at e;cases e;exact zbB (Θ _ hOf)
   by_cases n2:b=c
   ·subst n2;rw [Hc] at e;cases e;exact zbB (η _ hoc)
   by_cases n1:b=P
   ·subst n1;rw [HP] at e;cases e;exact hP3
   ·rw [Ho b n1 n2 n3] at e;refine (I.hok b u e).stay (λd v hd q=>?_) (λd q=>up _ _ q λz=>?_) λd xs q=>up _ _ q λz=>?_
    ·refine k2 d v ?_ q;rcases hd with rfl | hd
     ·exact n1
     ·intro z;rw [z,hP] at hd;cases hd
    ·rw [z,hP] at q;cases q
    ·rw [z,hP] at q;cases q
  have J:Inv X pJ σ H2 { s with heap:=h'.push O,gens:=s.gens,drawn:=s.drawn,toks:=tk }:=by
   refine I.step (ch:=[]) (λ_ z=>nomatch z) (λb o _ _ _ e n=>kp b o e n) (λb o _ _ _ e n=>⟨o.slots,kp b o e n⟩) (λb o _ e n=>?_) (λb o _ e=>?_) (λb xs q=>up _ _ q λz=>?_) (λb o u q=>up _ _ q λz=>?_) (λb qs q0=>?_) (λm hm=>?_) hok I.bare
   ·have hl:=Δ e;exact (Ho b (neP b n) (Φ (Ω hl h1)) (Φ (Ω hl hz))).trans n
   ·by_cases n:b=P
    ·exact ⟨_,by rw [n];exact hP3⟩
    ·exact ⟨o,k2 b o n e⟩
   ·rw [z,hP] at q;cases q
   ·rw [z,hP] at q;cases q
   ·by_cases n:b=P
    ·subst n;rw [hP] at q0;cases q0;exact ⟨_,by rw [HP,<- hps]⟩
    ·exact ⟨#[],by rw [up _ _ q0 n];simp⟩
   ·obtain ⟨o,es,ep,ho,r⟩:=hm;exact ⟨o,es,ep,kp _ o ho I.free,r⟩
  have cm:∀ v,yg H (X.env.qual++"<lambda>") v->yg H2 (X.env.qual++"<lambda>") v:=λv ⟨d,o,e1,e2,e3⟩=>⟨d,o,e1,up _ _ e2 (λz=>by rw [z,hP] at e2;cases e2),e3⟩
  have cn:yg H2 (X.env.qual++"<lambda>") (.ref c):=⟨c,oc,rfl,Hc,vs,t,ed,ev⟩
  refine q _ _ _ J ⟨⟨_,.ref c,ct,by rw [Ha,<- hO],cn⟩,⟨ps2,HP,?_⟩,up,λb e n=>?_,na⟩
  ·rw [<- hps,Array.toList_append];exact (tr.mono cm).snoc cn
  ·by_cases n3:b=h'.objs.size
   ·rw [n3];exact hz
   by_cases n2:b=c
   ·rw [n2];exact h1
   ·rw [Ho b (neP b e) n2 n3] at n;exact absurd e n
end
noncomputable def cxL (P:Τ) (w:ϓ) (K:W.Frag) (mg:Str->Option δ) (base:Heap) (N:List Str) (q:Str) (sc:aM) (a:Addr) (cv:δ) (cl:List (Str×Addr)) (A:ϙ) (outer:List Env) (s:μ) (H:Hp):Cx where
 prog:=P
 w:=w
 K:=K
 mg:=mg
 base:=base
 A:=A.deeper (envX q sc s.heap.objs.size a cv cl)
 N:=N
 sy:=s
 Hz:=H
 env:=envX q sc s.heap.objs.size a cv cl
 outer:=outer
 stack:=envX q sc s.heap.objs.size a cv cl::outer
 ex:=[]
 fn:=λ_=>false
 calm:=true
 pn:=[]
 xe:=λ_ _=>False
structure ZS (ps fs:List Str) (sc:aM):Prop where
 kind:sc.kind=.function
 co:sc.isCoroutine=false
 gen:sc.isGenerator=false
 cell:∀ y∈sc.names,y.2≠.cell
 par:∀ x∈ps,sc.names.lookup x=some .local
 fre:∀ x∈fs,sc.names.lookup x=some .free
 all:∀ x,sc.names.lookup x=some .free->x∈fs
 nd:(ps++fs).Nodup
def Cap (H:Hp) (cl:List (Str×Addr)) (x:Str) (w:V):Prop:=∃ c o u,cl.lookup x=some c/\H c=some (kn o)/\o.data=.cell (some u)/\RelV w u
structure Clo (H:Hp) (cl:List (Str×Addr)) (fs:List Str) (ws:List V):Prop where
 len:fs.length=ws.length
 cap:∀ (j:Nat) (x:Str) (w:V),fs[j]?=some x->ws[j]?=some w->Cap H cl x w
 sub:∀ x c,cl.lookup x=some c->x∈fs
 inj:∀ x y c,cl.lookup x=some c->cl.lookup y=some c->x=y
theorem Clo.has {H:Hp}{cl:List (Str×Addr)}{fs:List Str}{ws:List V}(h:Clo H cl fs ws) {x:Str}(hx:x∈fs):∃ w,Cap H cl x w:=by
 obtain ⟨j,hj⟩:=bR.mp hx;have hl:j < ws.length:=by rw [<- h.len];exact (χ.mp hj).1
 exact ⟨ws[j],h.cap j x _ hj (π hl)⟩
theorem Vx:∀ {ps:List Str}{us:List δ}{i:Nat}{x:Str}{u:δ},ps.Nodup->ps[i]?=some x->us[i]?=some u->(ps.zip us).reverse.lookup x=some u
 | [],_,_,_,_,_,h,_=>by simp at h
 | _::_,[],_,_,_,_,_,h=>by simp at h
 | p::ps,v::us,0,x,u,nd,h1,h2=>by
  simp at h1 h2;subst h1 h2;rw [bu,pY,pM];have:(ps.zip us).reverse.lookup p=none:=by rw [List.lookup_eq_none_iff];rintro ⟨a,b⟩ hm;have:=(dO (List.mem_reverse.mp hm)).1;simp only [bne_iff_ne,ne_eq];rintro rfl;exact (aY.mp nd).1 this
  rw [this];simp
 | p::ps,v::us,i+1,x,u,nd,h1,h2=>by rw [bu,pY,pM,Vx (aY.mp nd).2 (by simpa using h1) (by simpa using h2)];rfl
section
variable {P:Τ}{w:ϓ}{K:W.Frag}{mg:Str->Option δ}{base:Heap}{ps fs:List Str}{q:Str}{sc:aM}{a:Addr}{cv:δ}{cl:List (Str×Addr)}{A:ϙ}{outer:List Env}{s:μ}{H:Hp}{us:List δ}{vs ws:List V}{h1:Heap}{tk:Nat}{o:Obj}
theorem zel (S:ZS ps fs sc) (hd:A.handled=none) (e0:Env0 P w K mg base A outer s H) (C:Clo H cl fs ws) (hl:vs.length=ps.length) (r:Vals vs us)
  (hns:h1.Ns s.heap.objs.size λx=>(ps.zip us).reverse.lookup x) (hsb:ϩ s.heap.objs.size (s.heap.push o) h1):Inv (cxL P w K mg base (ps++fs) q sc a cv cl A outer s H) [] ((vs++ws).map some) H { s with heap:=h1,toks:=tk }:=by
 have kept:∀ b u,s.heap.get? b=some u->h1.get? b=some u:=λb u e=>(hsb.2 b (Φ (Δ e))).trans (η _ e)
 have noA:∀ b:Addr,b ∉ ([]:List Addr):=λb z=>(nomatch z)
 have hok:=e0.hok.kept kept
 refine ⟨⟨e0.mod,S.kind,rfl,rfl,Β _,C.inj,λy hy=>?_,λy c z=>(nomatch z),λ_=>hd,oO e0.frames,.inr ⟨rfl,rfl⟩,λb z=>absurd z (noA b),e0.bs,e0.bsz,λb _ _=>noA b,λb z=>absurd z (noA b),e0.funs,e0.frf⟩,
  rfl,e0.bare,Un.kept kept,⟨_,hns,λi y v e1 e2 e3=>?_⟩,λy c e=>?_,e0.hok.fresh (Β _),λy c e=>?_,λp hp=>absurd (show p∈([]:List (Addr×Obj)) from hp) (by simp),hok,?_⟩
 ·have hy:sc.names.lookup y=some .cell\/sc.names.lookup y=some .free:=hy;rcases hy with hy | hy
  ·exact absurd rfl (S.cell _ (ϐ hy))
  ·obtain ⟨_,c,_,_,e,_⟩:=C.has (S.all y hy);exact ⟨c,e⟩
 ·have e1:(ps++fs)[i]?=some y:=e1;have e2:(vs++ws)[i]?=some v:=by
   rw [Ρ] at e2;cases q:(vs++ws)[i]? with
   | none=>rw [q] at e2;cases e2
   | some z=>rw [q] at e2;cases e2;rfl
  by_cases hi:i < ps.length
  ·rw [ϖ hi] at e1;rw [ϖ (by omega)] at e2;obtain ⟨u,hu,rv⟩:=r.get e2;exact ⟨u,rv,.inl ⟨S.par y (ϑ e1),Vx (b7.mp S.nd).1 e1 hu⟩⟩
  ·rw [Ϙ (by omega)] at e1;rw [Ϙ (by omega),hl] at e2;obtain ⟨c,ob,u,f1,f2,f3,f4⟩:=C.cap _ _ _ e1 e2;exact ⟨u,f4,.inr ⟨.inr (S.fre y (ϑ e1)),c,f1,ob,(hok c _ f2).1,f3⟩⟩
 ·obtain ⟨_,c',ob,u,f1,f2,f3,f4⟩:=C.has (C.sub y c e);have:c'=c:=ϕ (f1.symm.trans e);subst this;exact ⟨_,ob,(hok _ _ f2).1,f3⟩
 ·obtain ⟨_,c',ob,u,f1,f2,f3,f4⟩:=C.has (C.sub y c e);have:c'=c:=ϕ (f1.symm.trans e);subst this;exact .inr ⟨rfl,ob,f2⟩
 ·show ((vs++ws).map some).length=(ps++fs).length
  rw [ψ,Ξ,Ξ,hl,C.len]
theorem zec {CX:CXT}{params:bA}{body:Expr}{pm ct:δ}{Q:VK}{E:XK}{k:Nat}(S:ZS ps fs sc) (hr:Room (k+1) A) (e0:Env0 P w K mg base A outer s H)
  (ha:H a=some (kn (lamO q params body sc cl pm cv ct))) (hc:yg H q cv) (C:Clo H cl fs ws) (hl:vs.length=ps.length) (r:Vals vs us)
  (hb:gD (kla_fn "<lambda>" q params body sc cl pm cv ct) ⟨us,[]⟩=pure (ps.zip us))
  (hbody:∀ s1,Room k (A.deeper (envX q sc s.heap.objs.size a cv cl))->Inv (cxL P w K mg base (ps++fs) q sc a cv cl A outer s H) [] ((vs++ws).map some) H s1 ->
   Λ (Ν P w) (A.deeper (envX q sc s.heap.objs.size a cv cl)) (eval body (envX q sc s.heap.objs.size a cv cl)) (λu s'=>∃ x H',Inv (cxL P w K mg base (ps++fs) q sc a cv cl A outer s H) [] ((vs++ws).map some) H' s'/\RelV x u/\Q x H')
    (λe s'=>Λ (Ν P w) (A.deeper (envX q sc s.heap.objs.size a cv cl)) (leaving (envX q sc s.heap.objs.size a cv cl) e) (λ_ s''=>CX outer H s E e s'') (λe' s''=>CX outer H s E e' s'') s') s1):
  gf (Ν P w) A (.call (.ref a) ⟨us,[]⟩) (CR CX outer P w H s Q E) s:=by
 have lim:s.heap.NoLimit:=e0.mod.nolimit.keeps λb o e=>(e0.bs b o e).1
 refine kla_callFunE hr.depth (e0.hok a _ ha).1 rfl S.co S.gen rfl (hc.rec_ e0.hok) ?_;rw [hb];refine θ ?_;refine wpAny_newFunctionEnv S.cell (λx hx=>S.par _ (dO hx).1) (λh1 hns hsb=>?_) S.kind;have kept:∀ b u,s.heap.get? b=some u->h1.get? b=some u:=λb u e=>(hsb.2 b (Φ (Δ e))).trans (η _ e)
 refine ⟨lim.keeps kept,kla_codeExpr ?_⟩;have I:=zel (q:=q) (a:=a) (cv:=cv) (tk:=s.toks+(ps.zip us).length) S hr.hd e0 C hl r hns hsb;refine bc (hbody _ (hr.deeper _) I) (λv s' hs=>?_) λe s' hs=>hs
 obtain ⟨x,H',J,rv,hq⟩:=hs;exact ⟨x,H',J.os,J.bare,J.base,J.hok,rv,hq⟩
end
section
variable {X:Cx}{pJ:List (Addr×Obj)}{σ:St}{s:μ}
def CapX (X:Cx) (H:Hp) (x:Str) (w:V):Prop:=∃ c o u,X.env.cells.lookup x=some c/\H c=some (kn o)/\o.data=.cell (some u)/\RelV w u
theorem Inv.knows (hz:∀ x c,X.env.cells.lookup x=some c->X.sy.heap.objs.size<=c):∀ (L:List (Nat×Str×V)) {H:Hp},Inv X pJ σ H s->(∀ t∈L,X.N[t.1]?=some t.2.1/\σ[t.1]?=some (some t.2.2)/\X.fn t.2.1=false/\X.env.scope.names.lookup t.2.1=some .cell) ->
  ∃ H1,Inv X pJ σ H1 s/\(∀ b u,H b=some u->H1 b=some u)/\(∀ b,H1 b≠none->H b≠none\/∃ x,X.env.cells.lookup x=some b)/\∀ t∈L,CapX X H1 t.2.1 t.2.2
 | [],H,I,_=>⟨H,I,λ_ _ e=>e,λ_ e=>.inl e,λ_ z=>nomatch z⟩
 | (j,x,v)::L,H,I,h=>by
  obtain ⟨e1,e2,hf,hk⟩:=h (j,x,v) ξ;obtain ⟨m,_,hl⟩:=id I.loc;obtain ⟨u,rv,lk⟩:=hl j x v e1 e2 (.inr (.inl hk));rcases lk with ⟨k,_⟩ | ⟨_,c,hc,o,eo,ed⟩
  ·have k:X.env.scope.names.lookup x=some .local:=k;rw [hk] at k;cases k
  have go:∃ H0,Inv X pJ σ H0 s/\(∀ b u,H b=some u->H0 b=some u)/\(∀ b,H0 b≠none->H b≠none\/∃ x,X.env.cells.lookup x=some b)/\H0 c=some (kn o):=by
   rcases I.freeC x c hc with hn | ⟨_,o',ho⟩
   ·refine ⟨upd H c (kn o),I.known hc hf (hz x c hc) eo hn,λb u e=>by rw [zc (zq e hn)];exact e,λb e=>?_,zr⟩;by_cases hb:b=c
    ·exact .inr ⟨x,by rw [hb];exact hc⟩
    ·rw [zc hb] at e;exact .inl e
   ·have:=(I.hok c _ ho).1;rw [eo] at this;cases this;exact ⟨H,I,λ_ _ e=>e,λ_ e=>.inl e,ho⟩
  obtain ⟨H0,I0,s0,n0,k0⟩:=go;obtain ⟨H1,I1,s1,n1,k1⟩:=Inv.knows hz L I0 λt ht=>h t (ι _ ht)
  refine ⟨H1,I1,λb u e=>s1 b u (s0 b u e),λb e=>?_,λt ht=>?_⟩
  ·rcases n1 b e with z | z
   ·exact n0 b z
   ·exact .inr z
  ·rcases Ε.mp ht with rfl | ht
   ·exact ⟨c,o,u,hc,s1 _ _ k0,ed,rv⟩
   ·exact k1 t ht
end
theorem vW {prog:Τ}{w:ϓ}{A:ϙ}{E:VSP}{s:μ}{it l:Addr}{i:Nat}{items:Array δ}{x:δ}{Q:VSP}(hit:s.heap.IsTupleIter it l i) (hl:s.heap.IsTuple l items) (hx:items[i]?=some x)
  (hQ:∀ h':Heap,h'.IsTupleIter it l (i+1)->ϩ it s.heap h'->Q x { s with heap:=h' }):Λ (Ν prog w) A (iC (.ref it)) Q E s:=by obtain ⟨o,ho,hc,hd⟩:=id hit;obtain ⟨ol,hol,left,nl,hdl⟩:=hl;refine ζ (aU hit.typeIs F.slot_tuple_iterator_next (aD F.slot_tuple_iterator_next hit.typeIs F.entry_tuple_iterator_next ?_ (F.args_tuple_iterator_next_1 (.ref it))));refine ζ ?_;rw [show slotArgs "__next__" 0 { pos:=[Ι it] }=pure (Ι it,[]) from rfl];refine θ ?_;refine ζ (au ho hd rfl ?_);refine ζ (au ho hd rfl ?_);refine ζ (lA hol hdl ?_);have hx':items[((i:Int)).toNat]?=some x:=hx;simp only [hx'];refine ζ (Ϸ ho hd (by simp) (θ ⟨x,rfl,θ (hQ _ ⟨_,ϵ _ ho (eV (cM hd _)),(Obj.cls_mapFields o _).trans hc,?_⟩ (cV s.heap it _))⟩));rw [cM hd];simp [aK]
theorem uB {prog:Τ}{w:ϓ}{A:ϙ}{E:VSP}{s:μ}{it l:Addr}{i:Nat}{items:Array δ}{Q:VSP}(hh:A.handled=none) (hit:s.heap.IsTupleIter it l i) (hl:s.heap.IsTuple l items) (hx:items[i]?=none)
  (hE:∀ (h':Heap) (e:Addr),Heap.ExtBut it s.heap h'->(∃ o,h'.get? e=some o/\o.cls=ϗ "StopIteration")->E (Ι e) { s with heap:=h' }):Λ (Ν prog w) A (iC (.ref it)) Q E s:=by
 obtain ⟨o,ho,hc,hd⟩:=id hit;obtain ⟨ol,hol,left,nl,hdl⟩:=hl;refine ζ (aU hit.typeIs F.slot_tuple_iterator_next (aD F.slot_tuple_iterator_next hit.typeIs F.entry_tuple_iterator_next ?_ (F.args_tuple_iterator_next_1 (.ref it))));refine ζ ?_;rw [show slotArgs "__next__" 0 { pos:=[Ι it] }=pure (Ι it,[]) from rfl];refine θ ?_;refine ζ (au ho hd rfl ?_);refine ζ (au ho hd rfl ?_);refine ζ (lA hol hdl ?_);have hx':items[((i:Int)).toNat]?=none:=hx;simp only [hx'];refine ζ (cH (ζ (Ϸ ho hd (by simp) ?_)));refine ζ ?_;refine ζ (Ϯ ?_);refine ζ (cB rfl (Ϯ ?_));refine ζ (wpAny_handled ?_);rw [show A.in1.handled=none from hh];refine wpAny_throw (hE _ _ (λb o' hb hg=>?_) ⟨_,Θ _ rfl,rfl⟩)
 ·exact η _ (η _ (by rw [(cV s.heap it _).2 b hb];exact hg))
theorem Zw {prog:Τ}{w:ϓ}{A:ϙ}{E:VSP}{s:μ}{e it l:Addr}{i:Nat}{items:Array δ}{x old:δ}{Q:VSP}(he:IsEnum s.heap e it (i:Int) old) (hit:s.heap.IsTupleIter it l i) (hl:s.heap.IsTuple l items) (hx:items[i]?=some x) (hne:e≠it)
  (hQ:∀ h':Heap,IsEnumOut h' e it ((i:Int)+1) x s.heap.objs.size->h'.IsTupleIter it l (i+1)->h'.get? s.heap.objs.size=some { cls:=ϗ "tuple",data:=gM #[Ϟ (i:Int) s.toks,x] }->h'.objs.size=s.heap.objs.size+1 ->
   (∀ (b:Addr) (o:Obj),b≠e->b≠it->s.heap.get? b=some o->h'.get? b=some o)->Q (Ι s.heap.objs.size) { heap:=h',gens:=s.gens,drawn:=s.drawn,toks:=s.toks+1,os:=s.os }):
  Λ (Ν prog w) A (ώ.«enumerate.__next__» { pos:=[Ι e] }) (λfin s'=>∃ v,fin=Fin.done (Flow.ret v)/\Q v s') E s:=by
 obtain ⟨hp,gs,dr,tk,os⟩:=s;dsimp only at *;refine ζ ?_;rw [show slotArgs "__next__" 0 { pos:=[Ι e] }=pure (Ι e,[]) from rfl];refine θ ?_;refine ζ (au he rfl rfl ?_);refine ζ (vW hit hl hx λh1 hit1 sb1=>?_);have he1:IsEnum h1 e it (i:Int) old:=(sb1.2 e hne).trans he;refine ζ (au he1 rfl rfl ?_);refine ζ (au he1 rfl rfl ?_);rw [if_pos (by rfl)];refine ζ (wpAny_mkInt ?_);refine ζ (d8 he1 (by simp) λh2 he2 sb2=>?_);have he2:h2.get? e=some { cls:=ϗ "enumerate",data:=aj #[Κ,ϒ false,Ι it,aK ((i:Int)+1),Κ,old] }:=by simpa using he2
 refine ζ (d8 he2 (by simp) λh3 he3 sb3=>?_);have he3:h3.get? e=some { cls:=ϗ "enumerate",data:=aj #[Κ,ϒ false,Ι it,aK ((i:Int)+1),Κ,old] }:=by simpa using he3
 have z1:h1.objs.size=hp.objs.size:=sb1.1;have z2:h2.objs.size=h1.objs.size:=sb2.1;have z3:h3.objs.size=h2.objs.size:=sb3.1;refine ζ (oU ?_ (by rw [aJ];simp));dsimp only;have he4:=η { cls:=ϗ "tuple",data:=gM [Ϟ (↑i) tk,x].toArray } he3;have t4:(h3.push { cls:=ϗ "tuple",data:=gM [Ϟ (↑i) tk,x].toArray }).get? h3.objs.size=some { cls:=ϗ "tuple",data:=gM [Ϟ (↑i) tk,x].toArray }:=Θ _ rfl;have z4:(h3.push { cls:=ϗ "tuple",data:=gM [Ϟ (↑i) tk,x].toArray }).objs.size=h3.objs.size+1:=bO _ _;have k4:∀ (b:Addr) (o:Obj),h3.get? b=some o->(h3.push { cls:=ϗ "tuple",data:=gM [Ϟ (↑i) tk,x].toArray }).get? b=some o:=λb o h=>η _ h
 generalize h3.push { cls:=ϗ "tuple",data:=gM [Ϟ (↑i) tk,x].toArray }=h4 at *;refine ζ ?_;refine ζ (au he4 rfl rfl ?_);refine θ ?_;refine ζ (cH (ζ (au he4 rfl rfl ?_)));refine ζ (d8 he4 (by simp) λh5 he5 sb5=>?_);have he5:h5.get? e=some { cls:=ϗ "enumerate",data:=aj #[Κ,ϒ false,Ι it,aK ((i:Int)+1),Κ,x] }:=by simpa using he5
 refine ζ ?_;refine ζ (d8 he5 (by simp) λh6 he6 sb6=>?_);have he6:h6.get? e=some { cls:=ϗ "enumerate",data:=aj #[aK (h3.objs.size:Int),ϒ false,Ι it,aK ((i:Int)+1),Κ,x] }:=by simpa using he6
 refine d8 he6 (by simp) λh7 he7 sb7=>?_
 have he7:h7.get? e=some { cls:=ϗ "enumerate",data:=aj #[aK (h3.objs.size:Int),ϒ false,Ι it,aK ((i:Int)+1),Κ,x] }:=by simpa using he7
 refine ζ (wpAny_letGo ?_);have hs:h3.objs.size=hp.objs.size:=by lia
 have lt:∀ {h:Heap}{b:Addr}{o:Obj},h.get? b=some o->b < h.objs.size:=λh=>Δ h
 have hep:e≠h3.objs.size:=Φ (lt he3);have back:∀ b:Addr,b≠e->h7.get? b=h4.get? b:=λb hb=>(sb7.2 b hb).trans ((sb6.2 b hb).trans (sb5.2 b hb))
 have z7:h7.objs.size=h4.objs.size:=sb7.1.trans (sb6.1.trans sb5.1);refine θ ⟨_,rfl,?_⟩;rw [hs] at he7 t4 hep ⊢;refine hQ h7 he7 ?_ ?_ (by lia) λb o hb hb' hg=>?_
 ·obtain ⟨o,ho,hr⟩:=id hit1;refine ⟨o,?_,hr⟩;rw [back it (λq=>hne q.symm)];exact k4 it o ((sb3.2 it (λq=>hne q.symm)).trans ((sb2.2 it (λq=>hne q.symm)).trans ho))
 ·rw [back _ (λq=>hep q.symm)];exact t4
 ·rw [back b hb];exact k4 b o ((sb3.2 b hb).trans ((sb2.2 b hb).trans ((sb1.2 b hb').trans hg)))
theorem jk {prog:Τ}{w:ϓ}{A:ϙ}{E:VSP}{s:μ}{e it l:Addr}{i:Nat}{items:Array δ}{x old:δ}{Q:Option δ->μ->Prop}(he:IsEnum s.heap e it (i:Int) old) (hit:s.heap.IsTupleIter it l i) (hl:s.heap.IsTuple l items) (hx:items[i]?=some x) (hne:e≠it)
  (hQ:∀ h':Heap,IsEnumOut h' e it ((i:Int)+1) x s.heap.objs.size->h'.IsTupleIter it l (i+1)->h'.get? s.heap.objs.size=some { cls:=ϗ "tuple",data:=gM #[Ϟ (i:Int) s.toks,x] }->h'.objs.size=s.heap.objs.size+1 ->
   (∀ (b:Addr) (o:Obj),b≠e->b≠it->s.heap.get? b=some o->h'.get? b=some o)->Q (some (Ι s.heap.objs.size)) { heap:=h',gens:=s.gens,drawn:=s.drawn,toks:=s.toks+1,os:=s.os }):
  Λ (Ν prog w) A (pyNext (.ref e)) Q E s:=by
 have ty:dI s (.ref e) "enumerate":=⟨_,he,rfl⟩
 refine ζ (mj (aU ty F.slot_enumerate_next (aD F.slot_enumerate_next ty F.entry_enumerate_next (Zw he hit hl hx hne λh' a b c d f=>?_) (F.args_enumerate_next_1 _))));exact θ (hQ h' a b c d f)
theorem wM {prog:Τ}{w:ϓ}{A:ϙ}{E:VSP}{s:μ}{e it l:Addr}{i:Nat}{items:Array δ}{old:δ}{Q:Option δ->μ->Prop}(hh:A.handled=none) (he:IsEnum s.heap e it (i:Int) old) (hit:s.heap.IsTupleIter it l i) (hl:s.heap.IsTuple l items) (hx:items[i]?=none)
  (hQ:∀ h':Heap,Heap.ExtBut it s.heap h'->Q none { s with heap:=h' }):Λ (Ν prog w) A (pyNext (.ref e)) Q E s:=by
 have ty:dI s (.ref e) "enumerate":=⟨_,he,rfl⟩
 refine ζ (mj (aU ty F.slot_enumerate_next (aD F.slot_enumerate_next ty F.entry_enumerate_next ?_ (F.args_enumerate_next_1 _))));refine ζ ?_;rw [show slotArgs "__next__" 0 { pos:=[Ι e] }=pure (Ι e,[]) from rfl];refine θ ?_;refine ζ (au he rfl rfl ?_);refine ζ (uB (by exact hh) hit hl hx λh' e' ext ⟨o,ho,hc⟩=>?_);refine ζ (nA (T:="StopIteration") (b:=true) ⟨o,ho,hc⟩ isSubtype_stop ?_);exact θ (hQ h' ext)
set_option tactic.hygienic true in
theorem jr (l:Addr) (items:Array δ):Meets (ώ.«enumerate.__new__» { pos:=[ϗ "enumerate",Ι l] }) λx R s=>
  s.heap.IsTuple l items/\R (Except.ok (Flow.ret (Ι (s.heap.push { cls:=ϗ "tuple_iterator",data:=aj #[Ι l,Ϟ 0 0] }).objs.size)))
   { heap:=(s.heap.push { cls:=ϗ "tuple_iterator",data:=aj #[Ι l,Ϟ 0 0] }).push { cls:=ϗ "enumerate",data:=aj #[Κ,ϒ false,Ι s.heap.objs.size,aK 0,Κ,Κ] },gens:=s.gens,drawn:=s.drawn,toks:=s.toks,os:=s.os }:=
 Meets.of_wp λprog w A R s h=>by
  obtain ⟨hp,g,d,tk,os⟩:=s;obtain ⟨hl,h⟩:=h;have hsub:=sub_enumerate;refine ζ ?_;refine ζ ?_;refine θ ?_;refine iU rfl ?_;refine ζ (cB hsub ?_);refine iU rfl ?_;refine θ ?_;refine wpAny_ite_true rfl ?_;refine ζ ?_;refine ζ (wpAny_stack_any λst=>?_);refine θ ?_;have fin:Λ (Ν prog w) A.in1 (mG (Ι l) >>= λit=>ώ.SmallTypes.newRecord (ϗ "enumerate") (ώ.SmallTypes.ownedTupleFields++[it,aK 0,Κ,Κ]) >>= λv=>ret v)
    (λfin s'=>∃ v,fin=Fin.done (Flow.ret v)/\R (Except.ok (Flow.ret v)) s') (λe s'=>R (Except.error e) s') { heap:=hp,gens:=g,drawn:=d,toks:=tk,os:=os }:=
   by
   refine ζ (mF hl ?_);refine ζ ?_;refine Ϯ (T:="enumerate") (data:=aj #[Κ,ϒ false,Ι hp.objs.size,aK 0,Κ,Κ]) (dict:=none) ?_;exact θ ⟨_,rfl,h⟩
  split
  ·rename_i c _ _ _ _ _
   generalize (c==ϗ "enumerate")=b;cases b with
   | true=>exact wpAny_ite_true rfl (ζ (cB rfl fin))
   | false=>exact iU rfl (ζ (cB rfl fin))
  ·exact iU rfl (ζ (cB rfl fin))
theorem vM {prog:Τ}{w:ϓ}{A:ϙ}{E:VSP}{s:μ}{l:Addr}{items:Array δ}{Q:VSP}(hl:s.heap.IsTuple l items)
  (h:∀ h':Heap,IsEnum h' (s.heap.objs.size+1) s.heap.objs.size 0 Κ->h'.IsTupleIter s.heap.objs.size l 0->h'.objs.size=s.heap.objs.size+2->(∀ (b:Addr) (o:Obj),s.heap.get? b=some o->h'.get? b=some o)->Q (Ι (s.heap.objs.size+1)) { s with heap:=h' }):
  Λ (Ν prog w) A (call (ϗ "enumerate") [Ι l]) Q E s:=by
 have hz:=bO s.heap { cls:=ϗ "tuple_iterator",data:=aj #[Ι l,Ϟ 0 0] };refine callType_new F.called_enumerate (by decide) (F.typeCall_enumerate_1 (Ι l)) (F.newCall_enumerate_1 (Ι l)) (λobj=>F.args_object_init_2 obj (Ι l)) F.entry_enumerate_new (jr l items) ⟨hl,?_⟩;have he:=Θ (s.heap.push { cls:=ϗ "tuple_iterator",data:=aj #[Ι l,Ϟ 0 0] }) (o:={ cls:=ϗ "enumerate",data:=aj #[Κ,ϒ false,Ι s.heap.objs.size,aK 0,Κ,Κ] }) rfl;have hi:=η { cls:=ϗ "enumerate",data:=aj #[Κ,ϒ false,Ι s.heap.objs.size,aK 0,Κ,Κ] } (Θ s.heap (o:={ cls:=ϗ "tuple_iterator",data:=aj #[Ι l,Ϟ 0 0] }) rfl);have hz2:=bO (s.heap.push { cls:=ϗ "tuple_iterator",data:=aj #[Ι l,Ϟ 0 0] }) { cls:=ϗ "enumerate",data:=aj #[Κ,ϒ false,Ι s.heap.objs.size,aK 0,Κ,Κ] };show dI _ _ "enumerate"/\_
 rw [hz] at he ⊢;exact ⟨⟨_,he,rfl⟩,h _ he ⟨_,hi,rfl,rfl⟩ (by rw [hz2,hz]) λb o hb=>η _ (η _ hb)⟩
noncomputable def Ite (K:W.Frag) (l:Addr):It:=
 ⟨λi H=>∃ xs x,SqL K H l xs/\xs[i]?=some x,λi H x H'=>∃ p y,H p=none/\x=.ref p/\H'=upd H p (.tup [.int i,y])/\∀ xs,SqL K H l xs->xs[i]?=some y,λi H=>∃ xs,SqL K H l xs/\xs.length<=i⟩
theorem Jy {P:Τ}{w:ϓ}{K:W.Frag}{elts:List Expr}{kk:Nat}{pos:Pos}(l e it:Addr) (hne:e≠it):
  Turn P w K (.Tuple elts kk pos) (Ite K l) [e,it] e (λi h=>(∃ old,IsEnum h e it i old)/\h.IsListIter it l i) where
 mem:=by simp
 obj:=λi h st b hb=>by
  obtain ⟨⟨old,he⟩,hit⟩:=st;have hb':b=e\/b=it:=by simpa using hb
  rcases hb' with rfl | rfl
  ·exact ⟨_,he,λv z=>by cases z⟩
  ·obtain ⟨o,q,c,d⟩:=hit;exact ⟨o,q,λv z=>by rw [d] at z;cases z⟩
 keep:=λi h h' st k=>by obtain ⟨⟨old,he⟩,hit⟩:=st;exact ⟨⟨old,k e (by simp) _ he⟩,hit.at λo q=>k it (by simp) o q⟩
 item:=by
  intro X hP hw hK hc i pJ s σ H E I hf st hg;subst hP hw hK;obtain ⟨⟨old,he⟩,hit⟩:=st;obtain ⟨xs,x,hq,hx⟩:=hg;obtain ⟨its,rv,p,hz⟩:=I.list hq;obtain ⟨u,hu,ru⟩:=rv.get hx;have f1:=hf e (by simp);have f2:=hf it (by simp);have hT:H s.heap.objs.size=none:=I.hok.fresh (Β _);refine wpAny_pyNext_enum_item he hit p.isList (x:=u) (by simpa using hu) hne λh' ho hit' hTp hsz hk=>⟨_,rfl,?_⟩
  refine oV ho λh2 he2 hs2=>?_
  have kept:∀ b o,b ∉ [e,it]->s.heap.get? b=some o->h2.get? b=some o:=λb o hb q=>(hs2.2 b λz=>hb (by simp [z])).trans (hk b o (λz=>hb (by simp [z])) (λz=>hb (by simp [z])) q)
  have nT:∀ b o,s.heap.get? b=some o->b≠s.heap.objs.size:=λb o q=>Φ (Δ q)
  have htr:∀ b o,H b=some o->b ∉ [e,it]:=λb o q hb=>by
   have hb':b=e\/b=it:=by simpa using hb
   rcases hb' with rfl | rfl
   ·rw [f1.1] at q;cases q
   ·rw [f2.1] at q;cases q
  have eT:h2.get? s.heap.objs.size=some { cls:=.type "tuple",data:=.seq #[.int i s.toks,u] }:=(hs2.2 _ (cN (Δ he))).trans hTp;have hok:HOk X.prog X.w (upd H s.heap.objs.size (.tup [.int i,x])) h2:=λb o q=>by
   by_cases hb:b=s.heap.objs.size
   ·subst hb;rw [zr] at q;cases q;exact ⟨by show 2<=sizeLine;decide,[.int i s.toks,u],.cons ⟨_,rfl⟩ (.cons ru .nil),⟨_,eT,rfl,_,rfl⟩⟩
   ·rw [zc hb] at q;refine (I.hok b o q).stay (λc v hcv r=>kept c v ?_ r) (λc r=>by rw [zc (zq r hT)];exact r) λc ys r=>by rw [zc (zq r hT)];exact r
    rcases hcv with rfl | hcv
    ·exact htr _ _ q
    ·exact htr _ _ hcv
  refine ⟨.ref s.heap.objs.size,upd H s.heap.objs.size (.tup [.int i,x]),?_,rfl,⟨_,x,hT,rfl,rfl,λys hy=>by rw [I.Vz hy hq];exact hx⟩,⟨⟨u,by simpa using he2⟩,hit'.at λo q=>(hs2.2 it hne.symm).trans q⟩,λb hb=>?_⟩
  ·refine Inv.step (s:=s) (H:=H) (h':=h2) (g':=s.gens) (d':=s.drawn) (t':=s.toks+1) (ch:=[e,it]) I (λb hb=>?_) (λb o _ _ hb q _=>kept b o hb q) (λb o _ _ hb q _=>⟨o.slots,kept b o hb q⟩) (λb o _ q n=>by rw [zc (nT b o q)];exact n) (λb o hb q=>⟨o,kept b o hb q⟩)
    (λb ys q=>by rw [zc (zq q hT)];exact q) (λb o v q=>by rw [zc (zq q hT)];exact q) (λb ps q=>⟨#[],by rw [zc (zq q hT),q];simp⟩) (λm hm=>?_) hok I.bare
   ·have hb':b=e\/b=it:=by simpa using hb
    rcases hb' with rfl | rfl
    ·exact ⟨f1.2.2.2.1,f1.2.1,f1.2.2.2.2.1,f1.2.2.2.2.2⟩
    ·exact ⟨f2.2.2.2.1,f2.2.1,f2.2.2.2.2.1,f2.2.2.2.2.2⟩
   ·obtain ⟨o,es,ep,q,r⟩:=hm
    exact ⟨o,es,ep,kept _ o (λhb=>by
     have hb':X.env.locals=e\/X.env.locals=it:=by simpa using hb
     rcases hb' with z | z
     ·exact f1.2.1 z.symm
     ·exact f2.2.1 z.symm) q,r⟩
  ·have hb':b=e\/b=it:=by simpa using hb
   rcases hb' with rfl | rfl
   ·rw [zc (nT _ _ he)];exact f1.1
   ·obtain ⟨o,q,_⟩:=hit;rw [zc (nT _ _ q)];exact f2.1
 done:=by intro X hP hw hK hc i pJ s σ H E I hf st hg;subst hP hw hK;obtain ⟨⟨old,he⟩,hit⟩:=st;obtain ⟨xs,hq,hx⟩:=hg;obtain ⟨its,rv,p,hz⟩:=I.list hq;obtain ⟨f0,f1,f2,f3,f4,f5⟩:=hf it (by simp);have hl:=rv.length;exact wpAny_pyNext_enum_end (I.ok.hd hc) he hit p.isList (by simp;lia) λh' eb=>⟨rfl,I.turned (t':=s.toks) (λb o hb q=>eb b o hb q) f0 f1 f3 f4 f5⟩
 self:=λA i s Q E st h=>by obtain ⟨⟨old,he⟩,_⟩:=st;exact gP he h
noncomputable def Itet (K:W.Frag) (l:Addr):It:=
 ⟨λi H=>∃ xs x,SqT K H l xs/\xs[i]?=some x,λi H x H'=>∃ p y,H p=none/\x=.ref p/\H'=upd H p (.tup [.int i,y])/\∀ xs,SqT K H l xs->xs[i]?=some y,λi H=>∃ xs,SqT K H l xs/\xs.length<=i⟩
theorem Ur {P:Τ}{w:ϓ}{K:W.Frag}{elts:List Expr}{kk:Nat}{pos:Pos}(l e it:Addr) (hne:e≠it):
  Turn P w K (.Tuple elts kk pos) (Itet K l) [e,it] e (λi h=>(∃ old,IsEnum h e it i old)/\h.IsTupleIter it l i) where
 mem:=by simp
 obj:=λi h st b hb=>by
  obtain ⟨⟨old,he⟩,hit⟩:=st;have hb':b=e\/b=it:=by simpa using hb
  rcases hb' with rfl | rfl
  ·exact ⟨_,he,λv z=>by cases z⟩
  ·obtain ⟨o,q,c,d⟩:=hit;exact ⟨o,q,λv z=>by rw [d] at z;cases z⟩
 keep:=λi h h' st k=>by obtain ⟨⟨old,he⟩,hit⟩:=st;exact ⟨⟨old,k e (by simp) _ he⟩,hit.at λo q=>k it (by simp) o q⟩
 item:=by
  intro X hP hw hK hc i pJ s σ H E I hf st hg;subst hP hw hK;obtain ⟨⟨old,he⟩,hit⟩:=st;obtain ⟨xs,x,hq,hx⟩:=hg;obtain ⟨its,rv,p,hz⟩:=I.tuple hq;obtain ⟨u,hu,ru⟩:=rv.get hx;have f1:=hf e (by simp);have f2:=hf it (by simp);have hT:H s.heap.objs.size=none:=I.hok.fresh (Β _);refine jk he hit (show s.heap.IsTuple l its.toArray from p) (x:=u) (by simpa using hu) hne λh' ho hit' hTp hsz hk=>⟨_,rfl,?_⟩
  refine oV ho λh2 he2 hs2=>?_
  have kept:∀ b o,b ∉ [e,it]->s.heap.get? b=some o->h2.get? b=some o:=λb o hb q=>(hs2.2 b λz=>hb (by simp [z])).trans (hk b o (λz=>hb (by simp [z])) (λz=>hb (by simp [z])) q)
  have nT:∀ b o,s.heap.get? b=some o->b≠s.heap.objs.size:=λb o q=>Φ (Δ q)
  have htr:∀ b o,H b=some o->b ∉ [e,it]:=λb o q hb=>by
   have hb':b=e\/b=it:=by simpa using hb
   rcases hb' with rfl | rfl
   ·rw [f1.1] at q;cases q
   ·rw [f2.1] at q;cases q
  have eT:h2.get? s.heap.objs.size=some { cls:=.type "tuple",data:=.seq #[.int i s.toks,u] }:=(hs2.2 _ (cN (Δ he))).trans hTp;have hok:HOk X.prog X.w (upd H s.heap.objs.size (.tup [.int i,x])) h2:=λb o q=>by
   by_cases hb:b=s.heap.objs.size
   ·subst hb;rw [zr] at q;cases q;exact ⟨by show 2<=sizeLine;decide,[.int i s.toks,u],.cons ⟨_,rfl⟩ (.cons ru .nil),⟨_,eT,rfl,_,rfl⟩⟩
   ·rw [zc hb] at q;refine (I.hok b o q).stay (λc v hcv r=>kept c v ?_ r) (λc r=>by rw [zc (zq r hT)];exact r) λc ys r=>by rw [zc (zq r hT)];exact r
    rcases hcv with rfl | hcv
    ·exact htr _ _ q
    ·exact htr _ _ hcv
  refine ⟨.ref s.heap.objs.size,upd H s.heap.objs.size (.tup [.int i,x]),?_,rfl,⟨_,x,hT,rfl,rfl,λys hy=>by rw [I.Z2 hy hq];exact hx⟩,⟨⟨u,by simpa using he2⟩,hit'.at λo q=>(hs2.2 it hne.symm).trans q⟩,λb hb=>?_⟩
  ·refine Inv.step (s:=s) (H:=H) (h':=h2) (g':=s.gens) (d':=s.drawn) (t':=s.toks+1) (ch:=[e,it]) I (λb hb=>?_) (λb o _ _ hb q _=>kept b o hb q) (λb o _ _ hb q _=>⟨o.slots,kept b o hb q⟩) (λb o _ q n=>by rw [zc (nT b o q)];exact n) (λb o hb q=>⟨o,kept b o hb q⟩)
    (λb ys q=>by rw [zc (zq q hT)];exact q) (λb o v q=>by rw [zc (zq q hT)];exact q) (λb ps q=>⟨#[],by rw [zc (zq q hT),q];simp⟩) (λm hm=>?_) hok I.bare
   ·have hb':b=e\/b=it:=by simpa using hb
    rcases hb' with rfl | rfl
    ·exact ⟨f1.2.2.2.1,f1.2.1,f1.2.2.2.2.1,f1.2.2.2.2.2⟩
    ·exact ⟨f2.2.2.2.1,f2.2.1,f2.2.2.2.2.1,f2.2.2.2.2.2⟩
   ·obtain ⟨o,es,ep,q,r⟩:=hm
    exact ⟨o,es,ep,kept _ o (λhb=>by
     have hb':X.env.locals=e\/X.env.locals=it:=by simpa using hb
     rcases hb' with z | z
     ·exact f1.2.1 z.symm
     ·exact f2.2.1 z.symm) q,r⟩
  ·have hb':b=e\/b=it:=by simpa using hb
   rcases hb' with rfl | rfl
   ·rw [zc (nT _ _ he)];exact f1.1
   ·obtain ⟨o,q,_⟩:=hit;rw [zc (nT _ _ q)];exact f2.1
 done:=by intro X hP hw hK hc i pJ s σ H E I hf st hg;subst hP hw hK;obtain ⟨⟨old,he⟩,hit⟩:=st;obtain ⟨xs,hq,hx⟩:=hg;obtain ⟨its,rv,p,hz⟩:=I.tuple hq;obtain ⟨f0,f1,f2,f3,f4,f5⟩:=hf it (by simp);have hl:=rv.length;exact wM (I.ok.hd hc) he hit (show s.heap.IsTuple l its.toArray from p) (by simp;lia) λh' eb=>⟨rfl,I.turned (t':=s.toks) (λb o hb q=>eb b o hb q) f0 f1 f3 f4 f5⟩
 self:=λA i s Q E st h=>by obtain ⟨⟨old,he⟩,_⟩:=st;exact gP he h
def TIt (h:Heap) (i l:Addr) (k:Nat) (xs:Array δ):Prop:=h.IsTupleIter i l k/\h.IsTuple l xs
theorem TIt.kp {h h':Heap}{i l z:Addr}{k:Nat}{xs:Array δ}(t:TIt h i l k xs) (e:Heap.ExtBut z h h') (a:i≠z) (b:l≠z):TIt h' i l k xs:=by obtain ⟨⟨o,o1,o2⟩,p,p1,p2⟩:=t;exact ⟨⟨o,e i o a o1,o2⟩,p,e l p b p1,p2⟩
theorem TIt.it {h h':Heap}{i l:Addr}{k m:Nat}{xs:Array δ}(t:TIt h i l k xs) (hi:h'.IsTupleIter i l m) (e:ϩ i h h') (b:l≠i):TIt h' i l m xs:=by obtain ⟨_,p,p1,p2⟩:=t;exact ⟨hi,p,e.extBut l p b p1,p2⟩
section
variable {prog:Τ}{w:ϓ}{A:ϙ}{E:VSP}{s:μ}{z TI TO i1 i2 l1 l2:Addr}{k1 k2:Nat}{xs ys:Array δ}{x y a b:δ}
end
section
variable {X:Cx}{elts:List Expr}{kk:Nat}{tp:Pos}
end
section
variable {κ:Type} [DecidableEq κ]
noncomputable def valV (kvs:List (κ×V)) (k:κ):Option V:=(kvs.find? λkv=>decide (kv.1=k)).map (·.2)
noncomputable def putK (kvs:List (κ×V)) (k:κ) (v:V):List (κ×V):=
 if (kvs.any λkv=>decide (kv.1=k))=true then kvs.map (λkv=>if kv.1=k then (kv.1,v) else kv) else kvs++[(k,v)]
noncomputable def zhH (kvs:List (κ×V)) (k:κ):List (κ×V):=kvs.filter λkv=>decide (kv.1≠k)
theorem uG {p:κ×V}{r:List (κ×V)}{k:κ}(e:p.1=k):valV (p::r) k=some p.2:=by simp [valV,dR,e]
theorem uH {p:κ×V}{r:List (κ×V)}{k:κ}(e:¬ p.1=k):valV (p::r) k=valV r k:=by simp [valV,dR,e]
theorem Vb (k:κ):∀ kvs:List (κ×V),(kvs.any λkv=>decide (kv.1=k))=(valV kvs k).isSome
 | []=>rfl
 | p::r=>by
  rw [fu];by_cases e:p.1=k
  ·simp only [uG e,decide_eq_true e,Bool.true_or,o8]
  ·rw [uH e,decide_eq_false e,lr];exact Vb k r
theorem wO (kvs:List (κ×V)) (k:κ) (v:V):(putK kvs k v).length<=kvs.length+1:=by
 unfold putK;split
 ·rw [ψ];lia
 ·rw [Ξ,ϱ,fD];lia
theorem RelO.xQ {o:Option V}{u:Option δ}(r:RelO o u):o.isSome=u.isSome:=by
 cases o with
 | none=>cases u with
  | none=>rfl
  | some _=>exact (show False from r).elim
 | some _=>cases u with
  | none=>exact (show False from r).elim
  | some _=>rfl
theorem RelO.getD {o:Option V}{u:Option δ}{d:V}{d':δ}(r:RelO o u) (rd:RelV d d'):RelV (o.getD d) (u.getD d'):=by
 cases o with
 | none=>cases u with
  | none=>exact rd
  | some _=>exact (show False from r).elim
 | some _=>cases u with
  | none=>exact (show False from r).elim
  | some _=>exact r
theorem KV.val {kvs:List (κ×V)}{vs:List (κ×δ)}(r:KV kvs vs) (k:κ):RelO (valV kvs k) (mV vs k):=by
 unfold KV at r
 induction r with
 | nil=>exact aB
 | @cons p q ps qs h t ih=>
  obtain ⟨h1,h2⟩:=h;by_cases e:p.1=k
  ·have e':q.1=k:=h1.symm.trans e;have b:mV (q::qs) k=some q.2:=by simp [mV,dR,e']
   rw [uG e,b];exact h2
  ·have e':¬ q.1=k:=λz=>e (h1.trans z)
   have b:mV (q::qs) k=mV qs k:=by simp [mV,dR,e']
   rw [uH e,b];exact ih
theorem KV.any {kvs:List (κ×V)}{vs:List (κ×δ)}(r:KV kvs vs) (k:κ):(kvs.any λkv=>decide (kv.1=k))=vs.any λkv=>decide (kv.1=k):=by
 unfold KV at r
 induction r with
 | nil=>rfl
 | cons h t ih=>rw [fu,fu,ih,h.1]
theorem KV.repl {kvs:List (κ×V)}{vs:List (κ×δ)}(r:KV kvs vs) (k:κ) {y:V}{u:δ}(ry:RelV y u):
  KV (kvs.map λkv=>if kv.1=k then (kv.1,y) else kv) (vs.map λkv=>if kv.1=k then (kv.1,u) else kv):=by
 unfold KV at r ⊢
 induction r with
 | nil=>exact .nil
 | @cons p q ps qs h t ih=>
  rw [ϧ,ϧ];refine .cons ?_ ih;obtain ⟨h1,h2⟩:=h;by_cases e:p.1=k
  ·rw [if_pos e,if_pos (h1.symm.trans e)];exact ⟨h1,ry⟩
  ·rw [if_neg e,if_neg (λz=>e (h1.trans z))];exact ⟨h1,h2⟩
theorem KV.put {kvs:List (κ×V)}{vs:List (κ×δ)}(r:KV kvs vs) (k:κ) {y:V}{u:δ}(ry:RelV y u):KV (putK kvs k y) (stored vs k u):=by
 unfold putK stored;rw [r.any k];by_cases e:(vs.any λkv=>decide (kv.1=k))=true
 ·rw [if_pos e,if_pos e];exact r.repl k ry
 ·rw [if_neg e,if_neg e];exact fc.snoc r ⟨rfl,ry⟩
theorem KV.drop {kvs:List (κ×V)}{vs:List (κ×δ)}(r:KV kvs vs) (k:κ):KV (zhH kvs k) (without vs k):=by
 unfold KV at r ⊢;unfold zhH without
 induction r with
 | nil=>exact .nil
 | @cons p q ps qs h t ih=>
  obtain ⟨h1,h2⟩:=h;rw [gK,gK];by_cases e:p.1=k
  ·have a:¬ decide (p.1≠k)=true:=by simp [e]
   have b:¬ decide (q.1≠k)=true:=by simp [h1.symm.trans e]
   rw [if_neg a,if_neg b];exact ih
  ·have e':¬ q.1=k:=λz=>e (h1.trans z)
   have a:decide (p.1≠k)=true:=by simp [e]
   have b:decide (q.1≠k)=true:=by simp [e']
   rw [if_pos a,if_pos b];exact .cons ⟨h1,h2⟩ ih
theorem KV.length {kvs:List (κ×V)}{vs:List (κ×δ)}(r:KV kvs vs):kvs.length=vs.length:=nj r
end
theorem Wv {P:Τ}{w:ϓ}{k:Key}{u:δ}(r:RelV (kV k) u):(zW P w).is k u=true:=by
 cases k with
 | inl i=>obtain ⟨t,e⟩:=(show ∃ t,u=Ϟ i t from r);subst e;exact Wh P w i t
 | inr x=>obtain ⟨t,e⟩:=(show ∃ t,u=bB x t from r);subst e;exact Wg P w x t
theorem YQ {P:Τ}{w:ϓ}:∀ {ks:List Key}{us:List δ},Vals (ks.map kV) us->ItemsAre (zW P w) ks us
 | [],_,r=>by rw [gW] at r;cases r;exact .nil
 | k::ks,_,r=>by
  rw [ϧ] at r;cases r with
  | cons h t=>exact .cons (Wv h) (YQ t)
abbrev KT (H:Hp):List (List Key×V)->List (List Key×Addr×δ)->Prop:=fc λp q=>p.1=q.1/\H q.2.1=some (.tup (p.1.map kV))/\RelV p.2 q.2.2
theorem KT.val {H:Hp}{kvs:List (List Key×V)}{xs:List (List Key×Addr×δ)}(r:KT H kvs xs) (k:List Key):RelO (valV kvs k) ((atKey xs k).map (·.2)):=by
 induction r with
 | nil=>exact aB
 | @cons p q ps qs h t ih=>
  obtain ⟨h1,_,h2⟩:=h;by_cases e:p.1=k
  ·have e':q.1=k:=h1.symm.trans e;have b:atKey (q::qs) k=some q.2:=by simp [atKey,dR,e']
   rw [uG e,b];exact h2
  ·have e':¬ q.1=k:=λz=>e (h1.trans z)
   have b:atKey (q::qs) k=atKey qs k:=by simp [atKey,dR,e']
   rw [uH e,b];exact ih
theorem KT.repl {H:Hp}{kvs:List (List Key×V)}{xs:List (List Key×Addr×δ)}(r:KT H kvs xs) (k:List Key) {y:V}{u:δ}(ry:RelV y u):
  KT H (kvs.map λkv=>if kv.1=k then (kv.1,y) else kv) (xs.map (putAt k u)):=by
 induction r with
 | nil=>exact .nil
 | @cons p q ps qs h t ih=>
  rw [ϧ,ϧ];refine .cons ?_ ih;obtain ⟨h1,h2,h3⟩:=h;unfold putAt;by_cases e:p.1=k
  ·rw [if_pos e,if_pos (h1.symm.trans e)];exact ⟨h1,h2,ry⟩
  ·rw [if_neg e,if_neg (λz=>e (h1.trans z))];exact ⟨h1,h2,h3⟩
theorem KT.put {H:Hp}{kvs:List (List Key×V)}{xs:List (List Key×Addr×δ)}(r:KT H kvs xs) (k:List Key) {b:Addr}{y:V}{u:δ}(hb:H b=some (.tup (k.map kV))) (ry:RelV y u):
  KT H (putK kvs k y) (storedH xs k b u):=by
 have e:(kvs.any λkv=>decide (kv.1=k))=(atKey xs k).isSome:=by rw [Vb,(r.val k).xQ,lw]
 unfold putK storedH;rw [e];by_cases q:(atKey xs k).isSome=true
 ·rw [if_pos q,if_pos q];exact r.repl k ry
 ·rw [if_neg q,if_neg q];exact fc.snoc r ⟨rfl,hb,ry⟩
theorem KT.keeps {H H':Hp}{kvs:List (List Key×V)}{xs:List (List Key×Addr×δ)}(r:KT H kvs xs) (ht:∀ b ys,H b=some (.tup ys)->H' b=some (.tup ys)):KT H' kvs xs:=
 fc.mapP r λ_ _ z=>⟨z.1,ht _ _ z.2.1,z.2.2⟩
section
variable {P:Τ}{w:ϓ}{H:Hp}{h:Heap}{a:Addr}
theorem zf7 {u:HO}(ok:HOk P w H h) (e:Rd H a u):zY P w H h a u:=e.ok ok
theorem WF {kvs:List (Key×V)}(ok:HOk P w H h) (e:Rd H a (.dK kvs)):kvs.length<=sizeLine/\(a==dM)=false/\∃ vs,KV kvs vs/\h.DictOf (zW P w) a vs:=
 show zY P w H h a (.dK kvs) from zf7 ok e
theorem zhJ {kvs:List (Key×V)}(ok:HOk P w H h) (e:H a=some (.dK kvs)):kvs.length<=sizeLine/\(a==dM)=false/\∃ vs,KV kvs vs/\h.DictOf (zW P w) a vs:=WF ok (.inl e)
theorem qm {ks:List Key}(ok:HOk P w H h) (e:H a=some (.tup (ks.map kV))):(lJ (zW P w)).is h ks a:=by
 obtain ⟨_,its,r,o,h1,h2,n,h3⟩:=(show zY P w H h a (.tup (ks.map kV)) from ok a _ e)
 exact ⟨o,its.toArray,n,h1,h2,h3,by simpa using YQ r⟩
theorem Ja {kvs:List (List Key×V)}(ok:HOk P w H h) (e:Rd H a (.dT kvs)):kvs.length<=sizeLine/\(a==dM)=false /\
  ∃ xs,KT H kvs xs/\h.DictOfH (lJ (zW P w)) a xs:=by
 obtain ⟨z,y,xs,r,o,es,ep,h1,h2,h3,h4,h5⟩:=(show zY P w H h a (.dT kvs) from zf7 ok e)
 refine ⟨z,y,xs,r,o,es,ep,h1,h2,h3,h4,λx hx=>?_,h5⟩;have all:∀ {l:List (List Key×V)}{m:List (List Key×Addr×δ)},KT H l m->∀ x∈m,(lJ (zW P w)).is h x.1 x.2.1:=by
  intro l m q
  induction q with
  | nil=>intro x hx;exact nomatch hx
  | @cons p q ps qs hq t ih=>
   intro x hx;rcases Ε.mp hx with e | hx
   ·subst e;exact qm ok (by rw [<- hq.1];exact hq.2.1)
   ·exact ih x hx
 exact all r x hx
theorem zjU {kvs:List (List Key×V)}(ok:HOk P w H h) (e:H a=some (.dT kvs)):kvs.length<=sizeLine/\(a==dM)=false /\
  ∃ xs,KT H kvs xs/\h.DictOfH (lJ (zW P w)) a xs:=Ja ok (.inl e)
end
def DGet (H:Hp) (a:Addr) (y:V) (r:Option V):Prop:=
 (∃ kvs k,Rd H a (.dK kvs)/\y=kV k/\r=valV kvs k)\/∃ kvs k b,Rd H a (.dT kvs)/\y=.ref b/\H b=some (.tup (k.map kV))/\r=valV kvs k
def DPut (H:Hp) (a:Addr) (y v:V) (H':Hp):Prop:=
 (∃ kvs k,H a=some (.dK kvs)/\y=kV k/\kvs.length < sizeLine/\H'=upd H a (.dK (putK kvs k v))) \/
 ∃ kvs k b,H a=some (.dT kvs)/\y=.ref b/\H b=some (.tup (k.map kV))/\kvs.length < sizeLine/\H'=upd H a (.dT (putK kvs k v))
theorem DGet.k {H:Hp}{a:Addr}{kvs:List (Key×V)}{k:Key}(e:H a=some (.dK kvs)):DGet H a (kV k) (valV kvs k):=.inl ⟨kvs,k,.inl e,rfl,rfl⟩
theorem DGet.t {H:Hp}{a b:Addr}{kvs:List (List Key×V)}{k:List Key}(e:H a=some (.dT kvs)) (eb:H b=some (.tup (k.map kV))):DGet H a (.ref b) (valV kvs k):=.inr ⟨kvs,k,b,.inl e,rfl,eb,rfl⟩
theorem DPut.k {H:Hp}{a:Addr}{kvs:List (Key×V)}{k:Key}{v:V}(e:H a=some (.dK kvs)) (hl:kvs.length < sizeLine):DPut H a (kV k) v (upd H a (.dK (putK kvs k v))):=.inl ⟨kvs,k,e,rfl,hl,rfl⟩
theorem DPut.t {H:Hp}{a b:Addr}{kvs:List (List Key×V)}{k:List Key}{v:V}(e:H a=some (.dT kvs)) (eb:H b=some (.tup (k.map kV))) (hl:kvs.length < sizeLine):
  DPut H a (.ref b) v (upd H a (.dT (putK kvs k v))):=.inr ⟨kvs,k,b,e,rfl,eb,hl,rfl⟩
section
variable {X:Cx}{pJ:List (Addr×Obj)}{σ:St}{H:Hp}{s:μ}{a:Addr}{y v:V}{u r:δ}{o:Option V}{A:ϙ}{E:VSP}
theorem Inv.big (I:Inv X pJ σ H s):dM < s.heap.objs.size:=by have h:Ψ < s.heap.objs.size:=(I.mod.glob.keeps I.bk).lt;exact o4 (by decide) h
theorem zaf {Q:VSP}(hu:A.units+1 < ϸ) (I:Inv X pJ σ H s) (g:DGet H a y (some v)) (ry:RelV y u) (h:∀ w' s',Inv X pJ σ H s'->RelV v w'->Q w' s'):
  Λ (Ν X.prog X.w) A (lM (.ref a) u) Q E s:=by
 rcases g with ⟨kvs,k,e,ey,l⟩ | ⟨kvs,k,b,e,ey,eb,l⟩
 ·subst ey;obtain ⟨z,hd,vs,rel,dd⟩:=WF I.hok e;obtain ⟨w',hw,rw'⟩:=RelO.some_of (v:=v) (o:=mV vs k) (by rw [l];exact rel.val k);exact wpAny_getItem_of (Wv ry) dd.mapOf hw (h w' _ (I.tok _) rw')
 ·subst ey;cases (show u=Ι b from ry);obtain ⟨z,hd,xs,rel,dd⟩:=Ja I.hok e;obtain ⟨w',hw,rw'⟩:=RelO.some_of (v:=v) (o:=(atKey xs k).map (·.2)) (by rw [l];exact rel.val k);obtain ⟨p,hp,hp2⟩:=ο.mp hw;refine wpAny_getItem_heap (d9 hu) (qm I.hok eb) dd hp ?_;rw [hp2];exact h w' _ (I.tok _) rw'
theorem d_in {Q:VSP}(hu:A.units+1 < ϸ) (I:Inv X pJ σ H s) (g:DGet H a y o) (ry:RelV y u) (h:∀ s',Inv X pJ σ H s'->Q (.bool o.isSome) s'):
  Λ (Ν X.prog X.w) A (ϔ .In u (.ref a)) Q E s:=by
 rcases g with ⟨kvs,k,e,ey,l⟩ | ⟨kvs,k,b,e,ey,eb,l⟩
 ·subst ey;obtain ⟨z,hd,vs,rel,dd⟩:=WF I.hok e;refine wpAny_in_of (Wv ry) hd dd.mapOf ?_;rw [<- (rel.val k).xQ,<- l];exact h _ (I.tok _)
 ·subst ey;cases (show u=Ι b from ry);obtain ⟨z,hd,xs,rel,dd⟩:=Ja I.hok e;refine wpAny_in_heap (d9 hu) (qm I.hok eb) hd dd ?_;have q:=(rel.val k).xQ;rw [lw] at q;rw [<- q,<- l];exact h _ (I.tok _)
theorem zeB {Q:VSP}(hu:A.units+1 < ϸ) (I:Inv X pJ σ H s) (g:DGet H a y o) (ry:RelV y u) (h:∀ s',Inv X pJ σ H s'->Q (.bool (!o.isSome)) s'):
  Λ (Ν X.prog X.w) A (ϔ .NotIn u (.ref a)) Q E s:=by
 rcases g with ⟨kvs,k,e,ey,l⟩ | ⟨kvs,k,b,e,ey,eb,l⟩
 ·subst ey;obtain ⟨z,hd,vs,rel,dd⟩:=WF I.hok e;refine wpAny_notIn_of (Wv ry) hd dd.mapOf ?_;rw [<- (rel.val k).xQ,<- l];exact h _ (I.tok _)
 ·subst ey;cases (show u=Ι b from ry);obtain ⟨z,hd,xs,rel,dd⟩:=Ja I.hok e;refine wpAny_notIn_heap (d9 hu) (qm I.hok eb) hd dd ?_;have q:=(rel.val k).xQ;rw [lw] at q;rw [<- q,<- l];exact h _ (I.tok _)
theorem WL {h':Heap}{t':Nat}{ob:HO}(I:Inv X pJ σ H s) (mu:Mut (H a)) (hs:ϩ a s.heap h') (he:∃ q,h'.get? a=some q) (new:zY X.prog X.w (upd H a ob) h' a ob):
  Inv X pJ σ (upd H a ob) { s with heap:=h',toks:=t' }:=
 I.write (x:=a) (e:=a) mu (.inl rfl) (λb q hb z=>(hs.2 b hb).trans z) he new
theorem zcJ {P:Τ}{w:ϓ}{H':Hp}{h':Heap}{kvs:List (Key×V)}{vs:List (Key×δ)}(z:kvs.length<=sizeLine) (hd:(a==dM)=false) (rel:KV kvs vs) (dd:h'.DictOf (zW P w) a vs):
  zY P w H' h' a (.dK kvs):=⟨z,hd,vs,rel,dd⟩
theorem zae {H':Hp}{Q:Unit->μ->Prop}(hu:A.units+1 < ϸ) (I:Inv X pJ σ H s) (g:DPut H a y v H') (ry:RelV y u) (rv:RelV v r) (h:∀ s',Inv X pJ σ H' s'->Q () s'):
  Λ (Ν X.prog X.w) A (setItem (.ref a) u r) Q E s:=by
 rcases g with ⟨kvs,k,e,ey,l,eH⟩ | ⟨kvs,k,b,e,ey,eb,l,eH⟩
 ·subst ey eH;obtain ⟨z,hd,vs,rel,dd⟩:=zhJ I.hok e;have hz:vs.length<=sizeLine:=by rw [<- rel.length];exact z
  have hl:(putK kvs k v).length<=sizeLine:=by have:=wO kvs k v;lia
  refine wpAny_setItem_pairs (hsz:=hz) (Wv ry) dd λh' dd' hs=>h _ ?_
  have he:∃ q,h'.get? a=some q:=let ⟨q,_,_,hq,_⟩:=dd';⟨q,hq⟩
  exact WL I (by rw [e];exact aB) hs he (zcJ hl hd (rel.put k rv) dd')
 ·subst ey eH;cases (show u=Ι b from ry);obtain ⟨z,hd,xs,rel,dd⟩:=zjU I.hok e;have hz:xs.length<=sizeLine:=by rw [<- nj rel];exact z
  have hl:(putK kvs k v).length<=sizeLine:=by have:=wO kvs k v;lia
  refine wpAny_setItem_heap (hsz:=hz) (d9 hu) (qm I.hok eb) dd λh' dd' hs=>h _ ?_
  obtain ⟨q,es,ep,hq,h2,h3,h4,_,h5⟩:=dd';refine WL I (by rw [e];exact aB) hs ⟨q,hq⟩ ⟨hl,hd,_,(rel.put k eb rv).keeps λc ys ec=>?_,q,es,ep,hq,h2,h3,h4,h5⟩;rw [zc (zjo ec e (λz=>nomatch z))];exact ec
end
section
variable {X:Cx}{pJ:List (Addr×Obj)}{σ:St}{H:Hp}{s:μ}{a:Addr}{kvs:List (Key×V)}{k:Key}{u:δ}{A:ϙ}{E:VSP}
theorem zjV {Q:VSP}(I:Inv X pJ σ H s) (e:Rd H a (.dK kvs)) (h:∀ t s',Inv X pJ σ H s'->Q (.int kvs.length t) s'):Λ (Ν X.prog X.w) A (call (.builtin "len") [.ref a]) Q E s:=by obtain ⟨z,hd,vs,rel,dd⟩:=WF I.hok e;refine call_len_dict hd dd (by rw [<- rel.length];rw [aJ] at z;lia) ?_;rw [<- rel.length];exact h _ _ (I.tok _)
end
theorem WK {X:Cx}{pJ:List (Addr×Obj)}{σ:St}{H:Hp}{s:μ}{a:Addr}{y:V}{o:Option V}(I:Inv X pJ σ H s) (g:DGet H a y o):s.TypeIs (.ref a) "dict":=by
 rcases g with ⟨kvs,k,e,_,_⟩ | ⟨kvs,k,b,e,_,_,_⟩
 ·obtain ⟨_,_,vs,_,dd⟩:=WF I.hok e;exact dd.typeIs
 ·obtain ⟨_,_,xs,_,dd⟩:=Ja I.hok e;exact dd.typeIs
theorem Ua {P:Τ}{w:ϓ}{H:Hp}(h:Heap) (hb:dM < h.objs.size):zY P w H (h.push { cls:=.type "dict",data:=.dict #[] }) h.objs.size (.dK []):=
 ⟨ϴ _,beq_eq_false_iff_ne.mpr (bT (Φ hb)),[],.nil,Heap.DictOf.new h⟩
theorem zbK {P:Τ}{w:ϓ}{H:Hp}(h:Heap) (hb:dM < h.objs.size):zY P w H (h.push { cls:=.type "dict",data:=.dict #[] }) h.objs.size (.dT []):=
 ⟨ϴ _,beq_eq_false_iff_ne.mpr (bT (Φ hb)),[],.nil,_,#[],0,Θ _ rfl,⟨rfl,rfl,rfl⟩,rfl,rfl,nq⟩
def zfv:TE:=λ_ H Q=>∀ p,H p=none->Q (.ref p) (upd H p (.dK []))
def zfu:TE:=λ_ H Q=>∀ p,H p=none->Q (.ref p) (upd H p (.dT []))
section
variable {X:Cx}{pos:Pos}
theorem zbj:PE X (.Dict [] [] pos) zfv:=λpJ s σ H Q I h=>
 wpAny_Dict_empty ⟨.ref s.heap.objs.size,_,I.laid (a:=s.heap.objs.size) (o:=.dK []) (t':=s.toks) (λ_ _ q=>η _ q) (Β _) (Ua s.heap I.big),rfl,h _ (I.hok.fresh (Β _))⟩
theorem zbi:PE X (.Dict [] [] pos) zfu:=λpJ s σ H Q I h=>
 wpAny_Dict_empty ⟨.ref s.heap.objs.size,_,I.laid (a:=s.heap.objs.size) (o:=.dT []) (t':=s.toks) (λ_ _ q=>η _ q) (Β _) (zbK s.heap I.big),rfl,h _ (I.hok.fresh (Β _))⟩
end
def Vc:List (TE×TE)->St->Hp->(List (V×V)->Hp->Prop)->Prop
 | [],_,H,Q=>Q [] H
 | (tk,tv)::r,σ,H,Q=>tk σ H λx H1=>tv σ H1 λy H2=>Vc r σ H2 λps H3=>Q ((x,y)::ps) H3
abbrev VV:List (V×V)->List (δ×δ)->Prop:=fc λp q=>RelV p.1 q.1/\RelV p.2 q.2
def PPs (X:Cx) (pos:Pos) (keys:List (Option Expr)) (values:List Expr) (trs:List (TE×TE)):Prop:=
 ∀ (pJ:List (Addr×Obj)) (s:μ) (σ:St) (H:Hp) (Q:List (V×V)->Hp->Prop),Inv X pJ σ H s->Vc trs σ H Q ->
  Λ (Ν X.prog X.w) X.A (evalPairs (pairTrees keys values X.env pos)) (λvs s'=>∃ ps H',Inv X pJ σ H' s'/\VV ps vs/\Q ps H') X.xe s
theorem zdz {X:Cx}{pos:Pos}:PPs X pos [] [] []:=λpJ s σ H Q I h=>pairTrees_nil_walk ⟨[],H,I,.nil,h⟩
theorem zbc {X:Cx}{pos:Pos}{k v:Expr}{ks:List (Option Expr)}{vs:List Expr}{tk tv:TE}{trs:List (TE×TE)}(hk:PE X k tk) (hv:PE X v tv) (hr:PPs X pos ks vs trs):
  PPs X pos (some k::ks) (v::vs) ((tk,tv)::trs):=λpJ s σ H Q I h=>
 pairTrees_cons_walk (thn (hk pJ s σ H _ I h) λu s1 ⟨x,H1,I1,rx,q1⟩=>thn (hv pJ s1 σ H1 _ I1 q1) λw2 s2 ⟨y,H2,I2,ry,q2⟩=>
  thn (hr pJ s2 σ H2 _ I2 q2) λws s3 ⟨ps,H3,I3,rel,q3⟩=>⟨(x,y)::ps,H3,I3,.cons ⟨rx,ry⟩ rel,q3⟩)
noncomputable def uw (kvs more:List (Key×V)):List (Key×V):=more.foldl (λacc kv=>putK acc kv.1 kv.2) kvs
theorem KV.merge:∀ {more:List (Key×V)}{rs:List (Key×δ)}{kvs:List (Key×V)}{vs:List (Key×δ)},KV more rs->KV kvs vs->KV (uw kvs more) (merged vs rs):=by
 intro more rs kvs vs r;unfold KV at r
 induction r generalizing kvs vs with
 | nil=>intro q;exact q
 | @cons p q ps qs h t ih=>
  intro r0;have e:KV (putK kvs p.1 p.2) (stored vs q.1 q.2):=by have:=r0.put p.1 h.2;rw [<- h.1];exact this
  exact ih e
theorem vD:∀ (more kvs:List (Key×V)),(uw kvs more).length<=kvs.length+more.length
 | [],kvs=>by show kvs.length<=kvs.length+0;lia
 | p::r,kvs=>by
  have h1:=vD r (putK kvs p.1 p.2);have h2:=wO kvs p.1 p.2;show (uw (putK kvs p.1 p.2) r).length<=_
  rw [ϱ];lia
theorem qD {P:Τ}{w:ϓ}:∀ {kvs:List (Key×V)}{ws:List (δ×δ)},VV (kvs.map λkv=>(kV kv.1,kv.2)) ws->∃ rs,Carries (zW P w) ws rs/\KV kvs rs
 | [],_,r=>by rw [gW] at r;cases r;exact ⟨[],aB,.nil⟩
 | p::kvs,_,r=>by
  rw [ϧ] at r;cases r with
  | @cons a b as bs h t=>
   obtain ⟨rs,c,q⟩:=qD (P:=P) (w:=w) t;obtain ⟨b1,b2⟩:=b;exact ⟨(p.1,b2)::rs,⟨Wv h.1,rfl,c⟩,.cons ⟨rfl,h.2⟩ q⟩
def zii (trs:List (TE×TE)):TE:=λσ H Q=>∀ p,H p=none->Vc trs σ (upd H p (.dK [])) λps H2=>H2 p=some (.dK [])/\∃ kvs:List (Key×V),ps=kvs.map (λkv=>(kV kv.1,kv.2))/\kvs.length<=15/\Q (.ref p) (upd H2 p (.dK (uw [] kvs)))
theorem zdF {X:Cx}{pos:Pos}{keys:List (Option Expr)}{values:List Expr}{trs:List (TE×TE)}(h:PPs X pos keys values trs) (hall:keys.all (·.isSome)=true) (hl:keys.length=values.length) (h0:keys≠[])
  (h15:keys.length<=15):PE X (.Dict keys values pos) (zii trs):=by
 intro pJ s σ H Q I q;have hn:=I.hok.fresh (Β s.heap.objs.size);have I1:=I.laid (a:=s.heap.objs.size) (o:=.dK []) (h':=s.heap.push { cls:=.type "dict",data:=.dict #[] }) (t':=s.toks) (λ_ _ q=>η _ q) (Β _) (Ua s.heap I.big);refine wpAny_Dict_walk (knd:=zW X.prog X.w) hall hl h0 h15 (thn (h pJ _ σ _ _ I1 (q _ hn)) λws s2 ⟨ps,H2,I2,rel,e,kvs,ep,lk,q2⟩=>?_);subst ep;obtain ⟨rs,c,rk⟩:=qD (P:=X.prog) (w:=X.w) rel;obtain ⟨z,hd,vs0,r0,dd⟩:=zhJ I2.hok e;cases r0;refine ⟨rs,c,dd,λh' dd' hs=>⟨.ref s.heap.objs.size,_,?_,rfl,q2⟩⟩;have hz:(uw [] kvs).length<=sizeLine:=by have h1:=vD kvs [];rw [fD] at h1;rw [aJ];lia
 have he:∃ q,h'.get? s.heap.objs.size=some q:=let ⟨q,_,_,hq,_⟩:=dd';⟨q,hq⟩
 exact WL I2 (by rw [e];exact aB) hs he (zcJ hz hd (rk.merge .nil) dd')
def IsD (H:Hp) (a:Addr):Prop:=(∃ kvs,Rd H a (.dK kvs))\/∃ kvs,Rd H a (.dT kvs)
section
variable {X:Cx}{pJ:List (Addr×Obj)}{σ:St}{H:Hp}{s:μ}{a:Addr}{y d:V}{u r:δ}{o:Option V}{A:ϙ}{E:VSP}
theorem zhN {Q:VSP}(hu:A.units+1 < ϸ) (I:Inv X pJ σ H s) (g:DGet H a y o) (ry:RelV y u) (rd:RelV d r) (h:∀ w' s',Inv X pJ σ H s'->RelV (o.getD d) w'->Q w' s'):
  Λ (Ν X.prog X.w) A (call (.builtin "dict.get") [.ref a,u,r]) Q E s:=by
 rcases g with ⟨kvs,k,e,ey,l⟩ | ⟨kvs,k,b,e,ey,eb,l⟩
 ·subst ey;obtain ⟨z,hd,vs,rel,dd⟩:=WF I.hok e;refine pW cL dd.typeIs gJ (gk _ _ _) (meets_dict_get_default (zW X.prog X.w) a (Wv ry) hd r) ⟨_,dd.mapOf,h _ _ (I.tok _) ?_⟩;rw [l];exact (rel.val k).getD rd
 ·subst ey;cases (show u=Ι b from ry);obtain ⟨z,hd,xs,rel,dd⟩:=Ja I.hok e;refine pW cL dd.typeIs gJ (gk _ _ _) (meetsH_dict_get_default (lJ (zW X.prog X.w)) a b hd r) ⟨d9 hu,k,xs,qm I.hok eb,dd,h _ _ (I.tok _) ?_⟩;rw [l];exact (rel.val k).getD rd
end
end L2
namespace EV
open PySem PySem.Spec PyProof.Rows L2
theorem W9 {xs:List V}{us:List δ}(h:Vals xs us):∀ n:Nat,Vals (Α n xs).flatten (Α n us).flatten
 | 0=>.nil
 | n+1=>by rw [aC,aC,b8,b8];exact h.append (W9 h n)
theorem J7 (us:List δ):∀ (n:Nat) (acc:List δ),List.foldl (λx1 x2=>x1++x2) acc.toArray (Α n us.toArray)=(acc++(Α n us).flatten).toArray
 | 0,acc=>by simp
 | n+1,acc=>by rw [aC,ik,List.append_toArray,J7 us n,aC,b8,gn]
end EV
namespace L2
open PySem PySem.Spec PyProof.Rows
section
open EV
variable {prog:Τ}{w:ϓ}{A:ϙ}{E:VSP}{s:μ}
variable {X:Cx}
end
section
variable {X:Cx}
def zi4 (K:W.Frag):V->List V->Hp->VK->Prop:=λx vs H Q=>∃ l b xs zs,x=.ref l/\vs=[.ref b]/\H l=some (.lst xs)/\(H b=some (.lst zs)\/SqT K H b zs)/\xs.length+zs.length<=sizeLine/\Q .non (upd H l (.lst (xs++zs)))
theorem zd7:MtM X "list.extend" (zi4 X.K):=by
 intro pJ s σ H x vs v us Q I rx rv h;obtain ⟨l,b,xs,zs,e1,e2,hH,hB,hz,q⟩:=h;rcases hB with hB | hB
 ·exact K9 pJ s σ H x vs v us Q I rx rv ⟨l,b,xs,zs,e1,e2,hH,hB,hz,q⟩
 ·subst e1 e2;cases rx;obtain ⟨u,rfl,ru⟩:=rv.one;cases ru;obtain ⟨z,its,n,r,hl,e⟩:=I.lstM hH;obtain ⟨its2,r2,⟨o,ho,hc,n2,hd⟩,z2⟩:=I.tuple hB;have l1:=r.length;have l2:=r2.length;have hsz:its.toArray.size+its2.toArray.size<=sizeLine:=by rw [ω,ω];omega
  refine aD F.slot_list_extend ⟨_,e,rfl⟩ F.entry_list_extend ?_ (F.args_list_extend_2 _ _);show Λ _ _ (cJ (.ref l) (.ref b) .none) _ _ _
  unfold cJ;refine ζ (cW (T:="tuple") ⟨o,ho,hc⟩ ?_);rw [if_pos (by simp)];refine ζ (pR ho hd (ζ (pR e rfl ?_)));rw [if_neg (by rw [Vr hsz,iI];exact Μ)];refine ζ (gZ e rfl (θ ⟨_,rfl,?_⟩) (by rw [ω];omega) (by rw [Array.size_append];omega));refine ⟨.non,_,I.lset (f:=λx=>x++its2.toArray) (its':=its++its2) (t':=s.toks) hH e (by simp) (r.append r2) ?_,rfl,q⟩;rw [Ξ];omega
end
theorem PE.imp {X:Cx}{e:Expr}{t t':TE}(h:PE X e t) (i:∀ σ H Q,t' σ H Q->t σ H Q):PE X e t':=λpJ s σ H Q I q=>h pJ s σ H Q I (i σ H Q q)
theorem PT.imp {X:Cx}{e:Expr}{t t':TT}(h:PT X e t) (i:∀ σ H Q,t' σ H Q->t σ H Q):PT X e t':=λpJ s σ H Q I q=>h pJ s σ H Q I (i σ H Q q)
theorem PA.imp {X:Cx}{e:List Expr}{t t':TA}(h:PA X e t) (i:∀ σ H Q,t' σ H Q->t σ H Q):PA X e t':=λpos pJ s σ H Q I q=>h pos pJ s σ H Q I (i σ H Q q)
theorem PS.imp {X:Cx}{e:Stmt}{t t':TS}(h:PS X e t) (i:∀ D σ H,t' D σ H->t D σ H):PS X e t':=λpJ s σ H D I q=>h pJ s σ H D I (i D σ H q)
theorem PSs.imp {X:Cx}{e:List Stmt}{t t':TS}(h:PSs X e t) (i:∀ D σ H,t' D σ H->t D σ H):PSs X e t':=λpJ s σ H D I q=>h pJ s σ H D I (i D σ H q)
section
variable {fs ex:List Addr}{H H1:Hp}{h h1 h':Heap}{C:Addr}
theorem Un.sameBut (u:Un fs ex H H1 h h1) (sb:ϩ C h1 h') (hC:h.objs.size<=C):Un fs ex H H1 h h':=by
 have ne:∀ b o,h.get? b=some o->b≠C:=λb o e=>Φ (Ω (Δ e) hC)
 refine ⟨λb o e n hb hx=>(sb.2 b (ne b o e)).trans (u.keep b o e n hb hx),λb o e n hb hx=>?_,u.free,λb o e hx=>?_,u.tups,u.frzs,u.tbls⟩
 ·obtain ⟨sl,q⟩:=u.slot b o e n hb hx;exact ⟨sl,(sb.2 b (ne b o e)).trans q⟩
 ·obtain ⟨o',q⟩:=u.there b o e hx;exact ⟨o',(sb.2 b (ne b o e)).trans q⟩
theorem HOk.sameBut {P:Τ}{w:ϓ}(x:HOk P w H h) (sb:ϩ C h h') (hC:H C=none):HOk P w H h':=λb o e=>by
 refine (x b o e).stay (λc v hc q=>(sb.2 c ?_).trans q) (λ_ q=>q) λ_ _ q=>q
 rintro rfl;rcases hc with rfl | hc
 ·rw [hC] at e;cases e
 ·rw [hC] at hc;cases hc
end
noncomputable def rows (σ:St) (js:List Nat):St:=js.map λj=>σ.getD j none
section
variable {X:Cx}
theorem WT:yu X (.builtin "isinstance") (λxs H Q=>∃ x T t b,xs=[x,.ty T]/\TyOf X.K H x t/\W.kitOne X.K t (.type T)=some b/\Q (.bl b) H):=by intro pJ s σ H vs us Q I rv h;obtain ⟨x,T,t,b,rfl,ty,e,q⟩:=h;obtain ⟨u,v,rfl,ru,rt⟩:=rv.two;cases (show v=ϗ T from rt);exact QG I ru ty e λtk=>⟨.bl b,H,I.tok tk,rfl,q⟩
theorem zgC:OpR X (ϔ .Is) (λx y H Q=>∃ a b,x=.bl a/\y=.bl b/\Q (.bl (a==b)) H):=by intro pJ s σ H x y v u Q I rx ry h;obtain ⟨a,b,rfl,rfl,q⟩:=h;cases rx;cases ry;exact is_bool (Y6 I q rfl)
theorem zdM:OpR X (ϔ .IsNot) (λx y H Q=>∃ a b,x=.bl a/\y=.bl b/\Q (.bl (a != b)) H):=by intro pJ s σ H x y v u Q I rx ry h;obtain ⟨a,b,rfl,rfl,q⟩:=h;cases rx;cases ry;exact isnot_bool (Y6 I q rfl)
def zj1 (_ j:Int):Prop:=0 < j/\j < 2 ^ 64
theorem zbn:OpR X (bZ .FloorDiv) (rI zj1 λi j=>.int (i / j)):=opI λi j _ _ _ _ _ hc q=>by
 have e:i.fdiv j=i / j:=Int.fdiv_eq_ediv_of_nonneg _ (Int.le_of_lt hc.1);refine floordiv_int (by have:=hc.1;lia) (by rw [e];exact q) (.inl (PyProof.noPylong_of_log2 ?_));have h1:j.natAbs < 2 ^ 64:=by have:=hc.2;have:=hc.1;lia
 by_cases h0:j.natAbs=0
 ·rw [h0];decide
 ·have:=(Nat.log2_lt h0).mpr h1;lia
theorem zcS:∀ {bs:List Bool}{us:List δ},Vals (bs.map V.bl) us->us=bs.map ϒ
 | [],_,.nil=>rfl
 | b::bs,_,.cons r t=>by cases (show _=ϒ b from r);rw [zcS t];rfl
theorem Uw (bs:List Bool):((ό bs.length).all λi=>(bs[i]?).getD true)=bs.all id:=by
 rw [cR,ϡ,ϡ];constructor
 ·intro h b hb;obtain ⟨i,hi,rfl⟩:=fH hb;have:=h i (Ϝ.mpr hi);simpa [π hi] using this
 ·intro h i hi;have hi':=Ϝ.mp hi;have:=h _ (aN hi');simpa [π hi'] using this
theorem Uv (bs:List Bool):((ό bs.length).any λi=>(bs[i]?).getD false)=bs.any id:=by
 rw [cR,bN,bN];constructor
 ·rintro ⟨i,hi,e⟩;have hi':=Ϝ.mp hi;exact ⟨_,aN hi',by simpa [π hi'] using e⟩
 ·rintro ⟨b,hb,e⟩;obtain ⟨i,hi,rfl⟩:=fH hb;exact ⟨i,Ϝ.mpr hi,by simpa [π hi] using e⟩
theorem zbY (hc:X.calm=true):yu X (.builtin "all") (λxs H Q=>∃ (p:Addr) (bs:List Bool),xs=[.ref p]/\SqL X.K H p (bs.map V.bl)/\Q (.bl (bs.all id)) H):=by
 intro pJ s σ H vs us Q I rv h;obtain ⟨p,bs,rfl,hq,q⟩:=h;obtain ⟨u,rfl,ru⟩:=rv.one;cases (show u=Ι p from ru);obtain ⟨its,rv,hp,hz⟩:=I.list hq;obtain rfl:=zcS rv;have hl:=hp.isList;have hlt:p < s.heap.objs.size:=by obtain ⟨_,e,_⟩:=hl;exact Δ e
 have hh:X.A.handled=none:=I.ok.hd hc;refine call_all_walk (eY hl ?_)
 refine ⟨s.heap.objs.size,[s.heap.objs.size,p],[s.heap.objs.size],(bs.map ϒ).toArray.size,_,_,λi=>(bs[i]?).getD true,rfl,mX (A:=X.A.in1) hh _ p (Φ hlt) (bs.map ϒ).toArray,
  ⟨⟨_,Θ _ rfl,rfl,rfl⟩,hl.push _⟩,λi v s' Q' E' hP hQ=>?_,λh' tk hk=>?_⟩
 ·have hP':(bs.map ϒ)[i]?=some v:=by simpa using hP
  rw [Ρ] at hP';cases e:bs[i]? with
  | none=>rw [e] at hP';cases hP'
  | some b=>
   rw [e] at hP';cases hP';simp only [e,pG] at hQ;exact aH hQ
 ·have e:((ό (bs.map ϒ).toArray.size).all λi=>(bs[i]?).getD true)=bs.all id:=by rw [ω,ψ];exact Uw bs
  rw [e];exact ⟨.bl _,H,I.kept (oK hk),rfl,q⟩
theorem zbX (hc:X.calm=true):yu X (.builtin "any") (λxs H Q=>∃ (p:Addr) (bs:List Bool),xs=[.ref p]/\SqL X.K H p (bs.map V.bl)/\Q (.bl (bs.any id)) H):=by
 intro pJ s σ H vs us Q I rv h;obtain ⟨p,bs,rfl,hq,q⟩:=h;obtain ⟨u,rfl,ru⟩:=rv.one;cases (show u=Ι p from ru);obtain ⟨its,rv,hp,hz⟩:=I.list hq;obtain rfl:=zcS rv;have hl:=hp.isList;have hlt:p < s.heap.objs.size:=by obtain ⟨_,e,_⟩:=hl;exact Δ e
 have hh:X.A.handled=none:=I.ok.hd hc;refine call_any_walk (eY hl ?_)
 refine ⟨s.heap.objs.size,[s.heap.objs.size,p],[s.heap.objs.size],(bs.map ϒ).toArray.size,_,_,λi=>(bs[i]?).getD false,rfl,mX (A:=X.A.in1) hh _ p (Φ hlt) (bs.map ϒ).toArray,
  ⟨⟨_,Θ _ rfl,rfl,rfl⟩,hl.push _⟩,λi v s' Q' E' hP hQ=>?_,λh' tk hk=>?_⟩
 ·have hP':(bs.map ϒ)[i]?=some v:=by simpa using hP
  rw [Ρ] at hP';cases e:bs[i]? with
  | none=>rw [e] at hP';cases hP'
  | some b=>
   rw [e] at hP';cases hP';simp only [e,pG] at hQ;exact aH hQ
 ·have e:((ό (bs.map ϒ).toArray.size).any λi=>(bs[i]?).getD false)=bs.any id:=by rw [ω,ψ];exact Uv bs
  rw [e];exact ⟨.bl _,H,I.kept (oK hk),rfl,q⟩
theorem Ky {CX:CXT}{k:Nat}{f:Addr}{fd:bK}{ps ks:List Str}{sp:Sp}{E:XK}{x:Str}{p pos:Pos}{kws:List bG}{tk:TA}{g:List δ->List δ->List δ}{gV:List V->List V->List V}
  (F:FnOk X.prog X.w X.K X.mg X.base CX k f fd ps sp) (hr:Room k X.A) (hg:Gl X x) (hm:X.mg x=some (.ref f)) (hk:W.keepIn X.K (.ref f)=true) (hb:zaK X.K fd ps ks g gV) (hx:XH CX X E)
  (hkw:PK X kws tk) (hall:(dj pos (bj kws X.env)).all (·.1.isSome)=true:=by rfl) (hks:(dj pos (bj kws X.env)).filterMap (·.1)=ks:=by rfl)
  (hdb:(x==("__debug__":Str))=false:=by decide) (hpl:((fW pos (ϰ [] X.env)).any (·.1)||(dj pos (bj kws X.env)).any (·.1.isNone))=false:=by rfl):
  PE X (.Call (.Name x p) [] kws pos) (zfx sp gV E tNil tk):=by intro pJ s σ H Q I h;refine bY (vY I hg hm ?_ hdb);refine W.callWith_KW0 (h₀:=X.base) I.ok.mod.kin hk hall (thn (hkw pos pJ s σ H _ I h) λws s2 ⟨zs,H2,I2,rz,q2⟩=>⟨I2.kIn,?_⟩) hpl;rw [hks];exact zdi (us:=[]) (vs:=[]) F hr hb hx I2 .nil rz q2
end
end L2
namespace HT
open PySem PyProof.Rows
open PySem.SeqAt
open PySem.AutoSeq1 (wpAny_loadPart')
open PySem.MeetsSeq PySem.MeetsSeq2 PySem.MeetsSeq3
section
variable {prog:Τ}{w:ϓ}{A:ϙ}{E:δ->μ->Prop}{s:μ}
theorem zbV {t b:Addr}{ws:List δ}{Q:δ->μ->Prop}(ht:IsTup s.heap t ([]:List δ).toArray) (hb:IsTup s.heap b ws.toArray)
  (h:Q (.ref b) s):Λ (Ν prog w) A (bZ .Add (.ref t) (.ref b)) Q E s:=by
 obtain ⟨⟨cls,dd,data,sl⟩,ho,hc,n,hd⟩:=id ht;obtain ⟨⟨cls2,dd2,data2,sl2⟩,ho2,hc2,n2,hd2⟩:=id hb;simp only at hc hd hc2 hd2;subst hc hd hc2 hd2;exact pU ⟨_,ho,rfl⟩ ⟨_,ho2,rfl⟩ nG pA gG gj (fX _ _)
   (tuple_addW0 t b ([]:List δ).toArray ws.toArray n n2 dd dd2 sl sl2 (by simp)) ⟨ho,ho2,h⟩
theorem wV {t sl:Addr}{items:Array δ}{vl vu:δ}{lo hi:Option Int}{Q:δ->μ->Prop}(ht:IsTup s.heap t items) (hs:s.heap.IsSliceOf sl vl vu .none) (pl:iT vl lo) (pu:iT vu hi)
  (hw:sIx items.size 0 lo=0/\sIx items.size items.size hi=items.size) (h:Q (.ref t) s):Λ (Ν prog w) A (lM (.ref t) (.ref sl)) Q E s:=by
 obtain ⟨os,hos,hcs,hds⟩:=id hs;have hTs:s.TypeIs (.ref sl) "slice":=⟨os,hos,hcs⟩
 unfold lM
 try with_reducible refine bC ?_
 first | refine ζ (θ ?_) | skip
 refine ζ (wpAny_sequenceKey ht.typeIs (by decide) ?_)
 refine ζ (aU (name:=lW "__getitem__") ht.typeIs ϲ
  (aD ϲ ht.typeIs entry_tuple_getitem ?_ (args_tuple_getitem _ _)))
 show Λ _ _ (lg (.ref t) >>= _) _ _ s
 refine ζ (tupleItemsOf_ ht ?_);refine ζ (cW hTs ?_);rw [if_pos (by decide)];refine ζ (xG hs pl pu ?_);have hyes:(((sIx items.size 0 lo:Nat):Int)==0&&(1:Int)==1&&(sIx items.size items.size hi - sIx items.size 0 lo)==items.size)=true:=by rw [hw.1,hw.2];simp
 show Λ _ _ (if (((sIx items.size 0 lo:Nat):Int)==0&&(1:Int)==1&&(sIx items.size items.size hi - sIx items.size 0 lo)==items.size)=true then _ else _) _ _ s
 rw [if_pos hyes];unfold ώ.Tuple.tupleIsExact
 first
  | (refine ζ (ζ (cW ht.typeIs (θ ?_)));rw [if_pos (by decide)];exact ζ (cH (θ ⟨_,rfl,θ h⟩)))
  | (refine ζ (ζ (cW ht.typeIs (θ ?_)));rw [if_pos (by decide)];exact ζ (cH (ζ (θ (θ ⟨_,rfl,θ h⟩)))))
  | (refine ζ (ζ (ζ (cW ht.typeIs (θ ?_))));rw [if_pos (by decide)];exact ζ (cH (θ (θ ⟨_,rfl,θ h⟩))))
  | (refine ζ (ζ (cW ht.typeIs (θ ?_)));rw [if_pos (by decide)];trace_state;done)
end
end HT
namespace L2
open PySem PySem.Spec PyProof.Rows
section
variable {X:Cx}
def zga (K:W.Frag):R2:=λx y H Q=>∃ a b ys,x=.ref a/\y=.ref b/\SqT K H a []/\SqT K H b ys/\Q (.ref b) H
theorem zbo:OpR X (bZ .Add) (zga X.K):=by intro pJ s σ H x y v u Q I rx ry h;obtain ⟨a,b,ys,rfl,rfl,ha,hb,q⟩:=h;cases rx;cases ry;obtain ⟨its,r1,p1,_⟩:=I.tuple ha;obtain ⟨its2,r2,p2,_⟩:=I.tuple hb;cases r1;exact HT.zbV p1 p2 ⟨.ref b,H,I,rfl,q⟩
def rSlW (K:W.Frag):V->Option Int->Option Int->Hp->VK->Prop:=λx lo hi H Q=>∃ a xs,x=.ref a/\SqT K H a xs/\(HT.sIx xs.length 0 lo=0/\HT.sIx xs.length xs.length hi=xs.length)/\Q (.ref a) H
theorem zc6:SlR X (rSlW X.K):=by
 intro pJ s σ H x v vl vu lo hi sl Q I rx hs pl pu h;obtain ⟨a,xs,rfl,hx,hw,q⟩:=h;cases rx;obtain ⟨its,r,ht,hz⟩:=I.tuple hx;have hlen:its.toArray.size=xs.length:=by rw [ω];exact r.length.symm
 refine ⟨"tuple",_,ϲ.lookup,ht.typeIs,?_⟩;exact HT.wV ht hs pl pu (by rw [hlen];exact hw) ⟨.ref a,H,I,rfl,q⟩
end
end L2
namespace EV
open PySem PySem.Spec PyProof.Rows L2
noncomputable abbrev Store:=List D
structure Gm where
 K:W.Frag
 fa:Nat->Option Addr
 ca:Nat->Option Addr
 la:Nat->Str->bA->Expr->aM->List Str->Prop
 ta:Nat->Option (Addr×Str)
structure G where
 R:Hp
 α:List Addr
def KTup (K:W.Frag) (a:Addr) (xs:List V):Prop:=∃ (o:Obj) (its:Array δ) (n:Nat),K.lookup a=some o/\o.cls=.type "tuple"/\o.data=.seq its n/\its.size<=sizeLine/\Vals xs its.toList
def KDic (K:W.Frag) (a:Addr) (ps:List (Str×Int)):Prop:=(∃ o,K.lookup a=some o/\o.cls=.type "dict"/\o.dict=none)/\∀ h:Heap,K.In h->KTD.TextTab h a (ps.map λp=>(p.1,.flat (.int p.2)))
mutual
def Has (Γ:Gm) (g:G):D->V->Prop
 | .non,v=>v=.non
 | .bl b,v=>v=.bl b
 | .int i,v=>v=.int i
 | .str x,v=>v=.str x
 | .tup ds,v=>∃ a vs,v=.ref a/\g.R a=some (.tup vs)/\Hass Γ g ds vs
 | .lst ds,v=>∃ a vs,v=.ref a/\g.R a=some (.lst vs)/\Hass Γ g ds vs
 | .dK ks ds,v=>∃ a vs,v=.ref a/\g.R a=some (.dK (ks.zip vs))/\ks.length=ds.length/\Hass Γ g ds vs
 | .dT ks ds,v=>∃ a vs,v=.ref a/\g.R a=some (.dT (ks.zip vs))/\ks.length=ds.length/\Hass Γ g ds vs
 | .ref k,v=>∃ a,g.α[k]?=some a/\v=.ref a
 | .fn f,v=>∃ a,Γ.fa f=some a/\v=.ref a
 | .scr ns,v=>∃ a,v=.ref a/\SqL Γ.K g.R a (ns.map V.int)
 | .ktp ds,v=>∃ a vs,v=.ref a/\KTup Γ.K a vs/\Hass Γ g ds vs
 | .kdc ps,v=>∃ a,v=.ref a/\KDic Γ.K a ps
 | .dF ks ds,v=>∃ a vs o,v=.ref a/\g.R a=some (.frz o (.dT (ks.zip vs)))/\ks.length=ds.length/\Hass Γ g ds vs
 | .ins c ns ds,v=>∃ a C dx vs,v=.ref a/\caOf Γ.K c=some C/\g.R a=some (.ins C dx (ns.zip vs))/\ns.length=ds.length/\Hass Γ g ds vs
 | .lam f ds,v=>∃ a q pr b sc cl pm cv ct fs ws,v=.ref a/\g.R a=some (kn (lamO q pr b sc cl pm cv ct))/\yg g.R q cv/\Clo g.R cl fs ws/\Γ.la f q pr b sc fs/\Hass Γ g ds ws
 | .tab n,v=>∃ a q ps,v=.ref a/\Γ.ta n=some (a,q)/\g.R a=some (.tbl ps)/\Trp (yg g.R q) ps.toList
def Hass (Γ:Gm) (g:G):List D->List V->Prop
 | [],vs=>vs=[]
 | d::ds,vs=>∃ v r,vs=v::r/\Has Γ g d v/\Hass Γ g ds r
end
theorem yX {R R':Hp}{q:Str}{v:δ}(e:Same R R') (h:yg R q v):yg R' q v:=by obtain ⟨c,o,h1,h2,h3⟩:=h;exact ⟨c,o,h1,e _ _ h2,h3⟩
theorem ZF {R R':Hp}{cl:List (Str×Addr)}{fs:List Str}{ws:List V}(e:Same R R') (h:Clo R cl fs ws):Clo R' cl fs ws:=
 ⟨h.len,λj x w h1 h2=>by
  obtain ⟨c,o,u,f1,f2,f3⟩:=h.cap j x w h1 h2
  exact ⟨c,o,u,f1,e _ _ f2,f3⟩,h.sub,h.inj⟩
structure Le (g g':G):Prop where
 rr:Same g.R g'.R
 aa:∀ (k:Nat) (a:Addr),g.α[k]?=some a->g'.α[k]?=some a
theorem Le.refl (g:G):Le g g:=⟨Same.refl _,λ_ _ h=>h⟩
theorem Le.trans {g g1 g2:G}(a:Le g g1) (b:Le g1 g2):Le g g2:=⟨a.rr.trans b.rr,λk c h=>b.aa k c (a.aa k c h)⟩
mutual
theorem V0 {Γ:Gm}{g g':G}(e:Le g g'):∀ (d:D) (v:V),Has Γ g d v->Has Γ g' d v
 | .non,_,h=>h
 | .bl _,_,h=>h
 | .int _,_,h=>h
 | .str _,_,h=>h
 | .tup ds,_,⟨a,vs,h1,h2,h3⟩=>⟨a,vs,h1,e.rr _ _ h2,z8 e ds vs h3⟩
 | .lst ds,_,⟨a,vs,h1,h2,h3⟩=>⟨a,vs,h1,e.rr _ _ h2,z8 e ds vs h3⟩
 | .dK ks ds,_,⟨a,vs,h1,h2,h4,h3⟩=>⟨a,vs,h1,e.rr _ _ h2,h4,z8 e ds vs h3⟩
 | .dT ks ds,_,⟨a,vs,h1,h2,h4,h3⟩=>⟨a,vs,h1,e.rr _ _ h2,h4,z8 e ds vs h3⟩
 | .ref k,_,⟨a,h1,h2⟩=>⟨a,e.aa _ _ h1,h2⟩
 | .fn f,_,h=>h
 | .scr _,_,⟨a,h1,h2⟩=>⟨a,h1,e.rr.seq h2⟩
 | .ktp ds,_,⟨a,vs,h1,h2,h3⟩=>⟨a,vs,h1,h2,z8 e ds vs h3⟩
 | .kdc _,_,h=>h
 | .dF ks ds,_,⟨a,vs,o,h1,h2,h4,h3⟩=>⟨a,vs,o,h1,e.rr _ _ h2,h4,z8 e ds vs h3⟩
 | .ins c ns ds,_,⟨a,C,dx,vs,h1,h0,h2,h4,h3⟩=>⟨a,C,dx,vs,h1,h0,e.rr _ _ h2,h4,z8 e ds vs h3⟩
 | .lam f ds,_,h=>by obtain ⟨a,q,pr,b,sc,cl,pm,cv,ct,fs,ws,h1,h2,h3,h4,h5,h6⟩:=h;exact ⟨a,q,pr,b,sc,cl,pm,cv,ct,fs,ws,h1,e.rr _ _ h2,yX e.rr h3,ZF e.rr h4,h5,z8 e ds ws h6⟩
 | .tab n,_,h=>by obtain ⟨a,q,ps,h1,h0,h2,h3⟩:=h;exact ⟨a,q,ps,h1,h0,e.rr _ _ h2,h3.mono λ_=>yX e.rr⟩
theorem z8 {Γ:Gm}{g g':G}(e:Le g g'):∀ (ds:List D) (vs:List V),Hass Γ g ds vs->Hass Γ g' ds vs
 | [],_,h=>h
 | d::ds,_,⟨v,r,h1,h2,h3⟩=>⟨v,r,h1,V0 e d v h2,z8 e ds r h3⟩
end
theorem Has.mono {Γ:Gm}{g g':G}{d:D}{v:V}(h:Has Γ g d v) (e:Le g g'):Has Γ g' d v:=V0 e d v h
theorem Hass.mono {Γ:Gm}{g g':G}{d:List D}{v:List V}(h:Hass Γ g d v) (e:Le g g'):Hass Γ g' d v:=z8 e d v h
mutual
@[simp] noncomputable def noM:D->Bool
 | .tup ds=>noMs ds
 | .lst _=>false
 | .dK _ _=>false
 | .dT _ _=>false
 | .dF _ _=>false
 | .ins _ _ _=>false
 | .lam _ _=>false
 | .tab _=>false
 | .scr _=>false
 | .ref _=>false
 | .ktp ds=>noMs ds
 | _=>true
@[simp] noncomputable def noMs:List D->Bool
 | []=>true
 | d::ds=>noM d&&noMs ds
end
structure LeT (K:W.Frag) (g g':G):Prop where
 tt:∀ a xs,g.R a=some (.tup xs)->g'.R a=some (.tup xs)
mutual
theorem YX {Γ:Gm}{g g':G}(e:LeT Γ.K g g'):∀ (d:D) (v:V),noM d=true->Has Γ g d v->Has Γ g' d v
 | .non,_,_,h=>h
 | .bl _,_,_,h=>h
 | .int _,_,_,h=>h
 | .str _,_,_,h=>h
 | .tup ds,_,n,⟨a,vs,h1,h2,h3⟩=>⟨a,vs,h1,e.tt _ _ h2,wj e ds vs n h3⟩
 | .lst ds,_,n,_=>absurd (show false=true from n) Μ
 | .dK ks ds,_,n,_=>absurd (show false=true from n) Μ
 | .dT ks ds,_,n,_=>absurd (show false=true from n) Μ
 | .ref k,_,n,_=>absurd (show false=true from n) Μ
 | .fn f,_,_,h=>h
 | .scr _,_,n,_=>absurd (show false=true from n) Μ
 | .ktp ds,_,n,⟨a,vs,h1,h2,h3⟩=>⟨a,vs,h1,h2,wj e ds vs n h3⟩
 | .kdc _,_,_,h=>h
 | .dF ks ds,_,n,_=>absurd (show false=true from n) Μ
 | .ins _ _ _,_,n,_=>absurd (show false=true from n) Μ
 | .lam _ _,_,n,_=>absurd (show false=true from n) Μ
 | .tab _,_,n,_=>absurd (show false=true from n) Μ
theorem wj {Γ:Gm}{g g':G}(e:LeT Γ.K g g'):∀ (ds:List D) (vs:List V),noMs ds=true->Hass Γ g ds vs->Hass Γ g' ds vs
 | [],_,_,h=>h
 | d::ds,_,n,⟨v,r,h1,h2,h3⟩=>by have n':(noM d&&noMs ds)=true:=n;rw [ε] at n';exact ⟨v,r,h1,YX e d v n'.1 h2,wj e ds r n'.2 h3⟩
end
section
variable {Γ:Gm}{g:G}
theorem Hass.len:∀ {ds:List D}{vs:List V},Hass Γ g ds vs->vs.length=ds.length
 | [],_,h=>by cases (show _=[] from h);rfl
 | d::ds,_,⟨v,r,h1,_,h3⟩=>by subst h1;simp [Hass.len h3]
theorem Hass.get:∀ {ds:List D}{vs:List V}{i:Nat}{d:D},Hass Γ g ds vs->ds[i]?=some d->∃ v,vs[i]?=some v/\Has Γ g d v
 | [],_,_,_,_,e=>by simp at e
 | d::ds,_,0,_,⟨v,r,h1,h2,_⟩,e=>by subst h1;simp at e;subst e;exact ⟨v,rfl,h2⟩
 | d::ds,_,i+1,_,⟨v,r,h1,_,h3⟩,e=>by subst h1;obtain ⟨u,q,hu⟩:=Hass.get (i:=i) h3 (by simpa using e);exact ⟨u,by simpa using q,hu⟩
theorem Hass.of:∀ {ds:List D}{vs:List V},vs.length=ds.length->(∀ (i:Nat) (d:D) (v:V),ds[i]?=some d->vs[i]?=some v->Has Γ g d v)->Hass Γ g ds vs
 | [],[],_,_=>rfl
 | d::ds,v::vs,hl,h=>⟨v,vs,rfl,h 0 d v rfl rfl,Hass.of (by simpa using hl) λi d v e1 e2=>h (i+1) d v (by simpa using e1) (by simpa using e2)⟩
 | [],_::_,hl,_=>by simp at hl
 | _::_,[],hl,_=>by simp at hl
theorem Hass.one {d:D}{vs:List V}(h:Hass Γ g [d] vs):∃ v,vs=[v]/\Has Γ g d v:=by obtain ⟨v,r,e,hd,hr⟩:=h;cases (show r=[] from hr);exact ⟨v,e,hd⟩
theorem Hass.two {d e:D}{vs:List V}(h:Hass Γ g [d,e] vs):∃ v u,vs=[v,u]/\Has Γ g d v/\Has Γ g e u:=by obtain ⟨v,r,e1,hd,hr⟩:=h;obtain ⟨u,e2,he⟩:=Hass.one hr;subst e2;exact ⟨v,u,e1,hd,he⟩
theorem Hass.mk1 {d:D}{v:V}(h:Has Γ g d v):Hass Γ g [d] [v]:=⟨v,[],rfl,h,rfl⟩
theorem Hass.app:∀ {ds es:List D}{vs us:List V},Hass Γ g ds vs->Hass Γ g es us->Hass Γ g (ds++es) (vs++us)
 | [],_,_,_,h,k=>by cases (show _=[] from h);exact k
 | d::ds,_,_,_,⟨v,r,h1,h2,h3⟩,k=>by subst h1;exact ⟨v,_,rfl,h2,Hass.app h3 k⟩
theorem Hass.drop {ds:List D}{vs:List V}(n:Nat) (h:Hass Γ g ds vs):Hass Γ g (ds.drop n) (vs.drop n):=by
 refine Hass.of (by rw [dB,dB,h.len]) λi d v e1 e2=>?_
 rw [List.getElem?_drop] at e1 e2;obtain ⟨u,q,hu⟩:=h.get e1;rw [q] at e2;cases e2;exact hu
set_option tactic.hygienic true in
theorem Hass.take {ds:List D}{vs:List V}(n:Nat) (h:Hass Γ g ds vs):Hass Γ g (ds.take n) (vs.take n):=by
 refine Hass.of (by rw [dz,dz,h.len]) λi d v e1 e2=>?_
 rw [List.getElem?_take] at e1 e2;split at e1
 ·rename_i hi
  rw [if_pos hi] at e2;obtain ⟨u,q,hu⟩:=h.get e1;rw [q] at e2;cases e2;exact hu
 ·cases e1
set_option tactic.hygienic true in
theorem Hass.set {ds:List D}{vs:List V}{d:D}{v:V}(n:Nat) (h:Hass Γ g ds vs) (hd:Has Γ g d v):Hass Γ g (ds.set n d) (vs.set n v):=by
 refine Hass.of (by rw [ϥ,ϥ,h.len]) λi d' v' e1 e2=>?_
 rw [List.getElem?_set] at e1 e2;split at e1
 ·rename_i hi
  rw [if_pos hi] at e2;split at e1
  ·split at e2
   ·cases e1;cases e2;exact hd
   ·cases e2
  ·cases e1
 ·rename_i hi
  rw [if_neg hi] at e2;obtain ⟨u,q,hu⟩:=h.get e1;rw [q] at e2;cases e2;exact hu
theorem Hass.ints:∀ {ns:List Int},Hass Γ g (ns.map D.int) (ns.map V.int)
 | []=>rfl
 | _::_=>⟨_,_,rfl,rfl,Hass.ints⟩
end
def MutF:HO->Prop
 | .frz _ _=>True
 | .tbl _=>True
 | o=>Mut (some o)
def zP (Γ:Gm) (H:Hp) (g:G) (a:Addr):D->Prop
 | .lst ds=>∃ vs,H a=some (.lst vs)/\Hass Γ g ds vs
 | .dK ks ds=>∃ vs,H a=some (.dK (ks.zip vs))/\ks.length=ds.length/\Hass Γ g ds vs
 | .dT ks ds=>∃ vs,H a=some (.dT (ks.zip vs))/\ks.length=ds.length/\Hass Γ g ds vs
 | .ref _=>∃ o,g.R a=some o/\H a=some o/\MutF o
 | .ins c ns ds=>∃ C dx vs,caOf Γ.K c=some C/\H a=some (.ins C dx (ns.zip vs))/\ns.length=ds.length/\Hass Γ g ds vs
 | .tab n=>∃ q ps,Γ.ta n=some (a,q)/\H a=some (.tbl ps)/\Trp (yg g.R q) ps.toList
 | _=>False
noncomputable def gone:D->Bool
 | .ref _=>true
 | _=>false
theorem zP.mono {Γ:Gm}{H H':Hp}{g g':G}{a:Addr}{c:D}(h:zP Γ H g a c) (e:Le g g') (hh:∀ o,H a=some o->H' a=some o):zP Γ H' g' a c:=by
 cases c with
 | lst ds=>obtain ⟨vs,h1,h2⟩:=h;exact ⟨vs,hh _ h1,h2.mono e⟩
 | dK ks ds=>obtain ⟨vs,h1,h3,h2⟩:=h;exact ⟨vs,hh _ h1,h3,h2.mono e⟩
 | dT ks ds=>obtain ⟨vs,h1,h3,h2⟩:=h;exact ⟨vs,hh _ h1,h3,h2.mono e⟩
 | non=>exact h
 | bl=>exact h
 | int=>exact h
 | str=>exact h
 | tup=>exact h
 | ref=>obtain ⟨o,h1,h2,h3⟩:=h;exact ⟨o,e.rr _ _ h1,hh _ h2,h3⟩
 | fn=>exact h
 | scr=>exact h
 | ktp=>exact h
 | kdc=>exact h
 | dF=>exact h
 | ins=>obtain ⟨C,dx,vs,h0,h1,h3,h2⟩:=h;exact ⟨C,dx,vs,h0,hh _ h1,h3,h2.mono e⟩
 | lam=>exact h
 | tab=>obtain ⟨q,ps,h0,h1,h2⟩:=h;exact ⟨q,ps,h0,hh _ h1,h2.mono λ_=>yX e.rr⟩
theorem zP.U9 {Γ:Gm}{H:Hp}{g:G}{a:Addr}{c:D}(h:zP Γ H g a c):∃ o,H a=some o/\MutF o:=by
 cases c with
 | lst ds=>obtain ⟨vs,h1,h2⟩:=h;exact ⟨_,h1,aB⟩
 | dK ks ds=>obtain ⟨vs,h1,h3,h2⟩:=h;exact ⟨_,h1,aB⟩
 | dT ks ds=>obtain ⟨vs,h1,h3,h2⟩:=h;exact ⟨_,h1,aB⟩
 | non=>exact h.elim
 | bl=>exact h.elim
 | int=>exact h.elim
 | str=>exact h.elim
 | tup=>exact h.elim
 | ref=>obtain ⟨o,h1,h2,h3⟩:=h;exact ⟨o,h2,h3⟩
 | fn=>exact h.elim
 | scr=>exact h.elim
 | ktp=>exact h.elim
 | kdc=>exact h.elim
 | dF=>exact h.elim
 | ins=>obtain ⟨C,dx,vs,h0,h1,h3,h2⟩:=h;exact ⟨_,h1,aB⟩
 | lam=>exact h.elim
 | tab=>obtain ⟨q,ps,h0,h1,h2⟩:=h;exact ⟨_,h1,aB⟩
structure WOk (Γ:Gm) (H:Hp) (g:G) (S:Store):Prop where
 rh:Same g.R H
 len:g.α.length=S.length
 nd:g.α.Nodup
 off:∀ (k:Nat) (c:D) (a:Addr),S[k]?=some c->g.α[k]?=some a->gone c=false->g.R a=none
 cell:∀ (k:Nat) (c:D) (a:Addr),S[k]?=some c->g.α[k]?=some a->zP Γ H g a c
noncomputable def fixB:HO->Bool
 | .tup _=>true
 | .frz _ _=>true
 | _=>false
theorem zP.VG {Γ:Gm}{H:Hp}{g:G}{a:Addr}{c:D}(h:zP Γ H g a c) (hr:g.R a=none):∃ o,H a=some o/\fixB o=false:=by
 cases c with
 | lst ds=>obtain ⟨vs,h1,h2⟩:=h;exact ⟨_,h1,rfl⟩
 | dK ks ds=>obtain ⟨vs,h1,h2⟩:=h;exact ⟨_,h1,rfl⟩
 | dT ks ds=>obtain ⟨vs,h1,h2⟩:=h;exact ⟨_,h1,rfl⟩
 | ref=>obtain ⟨o,h1,_⟩:=h;rw [hr] at h1;cases h1
 | ins=>obtain ⟨C,dx,vs,h0,h1,_⟩:=h;exact ⟨_,h1,rfl⟩
 | tab=>obtain ⟨q,ps,h0,h1,_⟩:=h;exact ⟨_,h1,rfl⟩
 | _=>exact h.elim
structure Step (H:Hp) (g:G) (H':Hp) (g':G):Prop where
 le:Le g g'
 fr:∀ a o,H a=some o->a ∉ g.α->H' a=some o
 ex:∀ a o,H a=some o->∃ o',H' a=some o'
 na:∀ a∈g'.α,a∈g.α\/H a=none
 nr:∀ a,g'.R a≠none->g.R a≠none\/H a=none\/a∈g.α\/∃ o,H a=some o/\fixB o=true
theorem Step.refl (H:Hp) (g:G):Step H g H g:=⟨Le.refl g,λ_ _ h _=>h,λ_ o h=>⟨o,h⟩,λ_ h=>.inl h,λ_ h=>.inl h⟩
theorem Step.Vs {H H':Hp}{g g':G}(s:Step H g H' g') {a:Addr}(h:H' a=none):H a=none:=by
 cases q:H a with
 | none=>rfl
 | some o=>
  obtain ⟨o',e⟩:=s.ex a o q;rw [e] at h;cases h
theorem Step.trans {H H1 H2:Hp}{g g1 g2:G}(a:Step H g H1 g1) (b:Step H1 g1 H2 g2):Step H g H2 g2 where
 le:=a.le.trans b.le
 fr:=λx o h n=>b.fr x o (a.fr x o h n) λm=>by
  rcases a.na x m with q | q
  ·exact n q
  ·rw [h] at q;cases q
 ex:=λx o h=>let ⟨o1,h1⟩:=a.ex x o h;b.ex x o1 h1
 na:=λx m=>by
  rcases b.na x m with q | q
  ·exact a.na x q
  ·exact .inr (a.Vs q)
 nr:=λx m=>by
  rcases b.nr x m with q | q | q | ⟨xs,q,qf⟩
  ·exact a.nr x q
  ·exact .inr (.inl (a.Vs q))
  ·rcases a.na x q with q | q
   ·exact .inr (.inr (.inl q))
   ·exact .inr (.inl q)
  ·by_cases hx:x∈g.α
   ·exact .inr (.inr (.inl hx))
   ·cases e:H x with
    | none=>exact .inr (.inl rfl)
    | some o=>
     have:=a.fr x o e hx;rw [q] at this;cases this;exact .inr (.inr (.inr ⟨_,rfl,qf⟩))
theorem Step.of_same {H H':Hp}{g g':G}(s:Same H H') (le:Le g g') (na:∀ a∈g'.α,a∈g.α\/H a=none) (nr:∀ a,g'.R a≠none->g.R a≠none\/H a=none):Step H g H' g':=
 ⟨le,λa o h _=>s a o h,λa o h=>⟨o,s a o h⟩,na,λa h=>(nr a h).imp id .inl⟩
def VOk (Γ:Gm) (H:Hp) (d:D) (fr:Bool) (v:V) (H':Hp) (g':G):Prop:=
 if fr=true then ∃ a,v=.ref a/\H a=none/\g'.R a=none/\a ∉ g'.α/\zP Γ H' g' a d else Has Γ g' d v
noncomputable def G.put (g:G) (a:Addr) (o:HO):G:={ g with R:=upd g.R a o }
noncomputable def G.cell (g:G) (a:Addr):G:={ g with α:=g.α++[a] }
theorem Le.put {g:G}{a:Addr}{o:HO}(h:g.R a=none):Le g (g.put a o):=⟨λb u q=>by
 show upd g.R a o b=some u
 rw [zc (zq q h)];exact q,λ_ _ q=>q⟩
theorem Le.cell {g:G}{a:Addr}:Le g (g.cell a):=⟨Same.refl _,λk b q=>by
 show (g.α++[a])[k]?=some b
 rw [ϖ (χ.mp q).1];exact q⟩
section
variable {Γ:Gm}{H H':Hp}{g g':G}{S:Store}{d:D}{v:V}{a:Addr}
theorem WOk.put {o:HO}(w:WOk Γ H g S) (h:H a=some o) (hn:g.R a=none) (ha:a ∉ g.α):WOk Γ H (g.put a o) S where
 rh:=λb u q=>by
  by_cases hb:b=a
  ·subst hb;have q':upd g.R b o b=some u:=q;rw [zr] at q';cases q';exact h
  ·have q':upd g.R a o b=some u:=q;rw [zc hb] at q';exact w.rh b u q'
 len:=w.len
 nd:=w.nd
 off:=λk c b h1 h2 h3=>by
  show upd g.R a o b=none
  have hne:b≠a:=by rintro rfl;exact ha (ϑ h2)
  rw [zc hne];exact w.off k c b h1 h2 h3
 cell:=λk c b h1 h2=>(w.cell k c b h1 h2).mono (Le.put hn) λ_ q=>q
theorem Step.put {o:HO}(s:Step H g H' g') (hn:g'.R a=none) (h:H a=none):Step H g H' (g'.put a o) where
 le:=s.le.trans (Le.put hn)
 fr:=s.fr
 ex:=s.ex
 na:=s.na
 nr:=λb q=>by
  by_cases hb:b=a
  ·subst hb;exact .inr (.inl h)
  ·have q':upd g'.R a o b≠none:=q;rw [zc hb] at q';exact s.nr b q'
theorem qu {o:HO}(hn:g.R a=none) (ho:H a=some o) (h:zP Γ H g a d):Has Γ (g.put a o) d (.ref a):=by
 have le:Le g (g.put a o):=Le.put hn;have hr:(g.put a o).R a=some o:=zr;cases d with
 | lst ds=>obtain ⟨vs,h1,h2⟩:=h;rw [h1] at ho;cases ho;exact ⟨a,vs,rfl,hr,h2.mono le⟩
 | dK ks ds=>obtain ⟨vs,h1,h3,h2⟩:=h;rw [h1] at ho;cases ho;exact ⟨a,vs,rfl,hr,h3,h2.mono le⟩
 | dT ks ds=>obtain ⟨vs,h1,h3,h2⟩:=h;rw [h1] at ho;cases ho;exact ⟨a,vs,rfl,hr,h3,h2.mono le⟩
 | non=>exact h.elim
 | bl=>exact h.elim
 | int=>exact h.elim
 | str=>exact h.elim
 | tup=>exact h.elim
 | ref=>obtain ⟨o,h1,_⟩:=h;rw [hn] at h1;cases h1
 | fn=>exact h.elim
 | scr=>exact h.elim
 | ktp=>exact h.elim
 | kdc=>exact h.elim
 | dF=>exact h.elim
 | ins=>obtain ⟨C,dx,vs,h0,h1,h3,h2⟩:=h;rw [h1] at ho;cases ho;exact ⟨a,C,dx,vs,rfl,h0,hr,h3,h2.mono le⟩
 | lam=>exact h.elim
 | tab=>obtain ⟨q,ps,h0,h1,h2⟩:=h;rw [h1] at ho;cases ho;exact ⟨a,q,ps,rfl,h0,hr,h2.mono λ_=>yX le.rr⟩
@[simp] noncomputable def Wx:D->Bool:=λ_=>false
theorem freeze {fr:Bool}(s:Step H g H' g') (w:WOk Γ H' g' S) (h:VOk Γ H d fr v H' g') (hi:Wx d=false):∃ g2,Step H g H' g2/\WOk Γ H' g2 S/\Has Γ g2 d v/\Le g' g2:=by
 cases fr with
 | false=>exact ⟨g',s,w,h,Le.refl _⟩
 | true=>
  obtain ⟨a,rfl,h0,hn,ha,hc⟩:=(show ∃ a,v=.ref a/\H a=none/\g'.R a=none/\a ∉ g'.α/\zP Γ H' g' a d from h)
  obtain ⟨o,ho,_⟩:=hc.U9;exact ⟨g'.put a o,s.put hn h0,w.put ho hn ha,qu hn ho hc,Le.put hn⟩
theorem zhZ (s:Step H g H' g') (w:WOk Γ H' g' S) (h:VOk Γ H d true v H' g'):∃ g2,Step H g H' g2/\WOk Γ H' g2 (S++[d])/\Has Γ g2 (.ref S.length) v:=by
 obtain ⟨a,rfl,h0,hn,ha,hc⟩:=(show ∃ a,v=.ref a/\H a=none/\g'.R a=none/\a ∉ g'.α/\zP Γ H' g' a d from h)
 refine ⟨g'.cell a,⟨s.le.trans Le.cell,s.fr,s.ex,λb hb=>?_,s.nr⟩,⟨w.rh,?_,?_,λk c b h1 h2 h3=>?_,λk c b h1 h2=>?_⟩,a,?_,rfl⟩
 ·rcases ϋ.mp hb with q | q
  ·exact s.na b q
  ·rw [υ.mp q];exact .inr h0
 ·show (g'.α++[a]).length=(S++[d]).length
  simp [w.len]
 ·show (g'.α++[a]).Nodup
  exact nd_snocA w.nd ha
 ·have h2':(g'.α++[a])[k]?=some b:=h2;by_cases hk:k < S.length
  ·rw [ϖ hk] at h1;rw [ϖ (by rw [w.len];exact hk)] at h2';exact w.off k c b h1 h2' h3
  ·rw [Ϙ (by rw [w.len];lia)] at h2';have:=ϑ h2';rw [υ.mp this];exact hn
 ·have h2':(g'.α++[a])[k]?=some b:=h2;by_cases hk:k < S.length
  ·rw [ϖ hk] at h1;rw [ϖ (by rw [w.len];exact hk)] at h2';exact (w.cell k c b h1 h2').mono Le.cell λ_ q=>q
  ·rw [Ϙ (by lia)] at h1;rw [Ϙ (by rw [w.len];lia)] at h2';have e0:k - S.length=0:=by
    cases q:k - S.length with
    | zero=>rfl
    | succ n=>rw [q] at h1;simp at h1
   rw [e0] at h1;rw [w.len,e0] at h2';simp at h1 h2';subst h1 h2';exact hc.mono Le.cell λ_ q=>q
 ·show (g'.α++[a])[S.length]?=some a
  rw [<- w.len];simp
where
 nd_snocA:∀ {l:List Addr}{k:Addr},l.Nodup->¬ k∈l->(l++[k]).Nodup:=λ{l k} h hk=>by rw [b7];exact ⟨h,by simp,λx hx y hy=>by rw [υ.mp hy];rintro rfl;exact hk hx⟩
end
end EV
namespace TS
open PySem PyProof.Rows
set_option backward.match.sparseCases true
variable {O:bJ}{key:bI->O.α}{G:bI->Prop}{kd:lE}{M:Model}{A:ϙ}{E:δ->μ->Prop}{s:μ}
section
def LtOk (O:bJ) (key:bI->O.α) (G:bI->Prop) (kd:lE) (M:Model) (A:ϙ) (E:δ->μ->Prop) (s:μ):Prop:=
 ∀ (x y:bI) (st:aL) (Q:Option Bool->aL->Prop),G x->G y->kindOf st=kd->Q (some (O.blt (key x) (key y))) st->wpS M A E s (lt' x y) Q st
noncomputable def dk:bI:=(.none,.none)
noncomputable def kk (key:bI->O.α) (xs:Array bI) (i:Nat):O.α:=key (xs[i]?.getD dk)
def Srt (key:bI->O.α) (xs:Array bI) (lo hi:Nat):Prop:=∀ i j,lo<=i->i<=j->j < hi->O.kle (kk key xs i) (kk key xs j)
structure Bs (G:bI->Prop) (kd:lE) (az:Array bI) (p:Array (Nat×Nat×Nat)) (st:aL):Prop where
 perm:(ϊ st).Perm az
 good:∀ x∈az.toList,G x
 kind:kindOf st=kd
 failed:failedOf st=none
 pend:nF st=p
variable {az:Array bI}{p:Array (Nat×Nat×Nat)}
theorem Bs.size {st:aL}(h:Bs G kd az p st):(ϊ st).size=az.size:=h.perm.size_eq
theorem Bs.set {st:aL}(h:Bs G kd az p st) {xs:Array bI}(q:xs.Perm (ϊ st)):Bs G kd az p (setArr st xs):=⟨q.trans h.perm,h.good,h.kind,h.failed,h.pend⟩
theorem Bs.item {st:aL}(h:Bs G kd az p st) {i:Nat}(hi:i < az.size):∃ x,(ϊ st)[i]?=some x/\G x/\kk key (ϊ st) i=key x:=by
 have hi':i < (ϊ st).size:=by rw [h.size];exact hi
 have e:(ϊ st)[i]?=some (ϊ st)[i]:=getElem?_pos _ i hi';refine ⟨(ϊ st)[i],e,h.good _ ((m7.mp h.perm).mem_iff.mp (by simp)),?_⟩;unfold kk;rw [e];rfl
theorem Jm {arr:Array bI}{i:Nat}{x:bI}{Q:bI->aL->Prop}{st:aL}(e:arr[i]?=some x) (h:Q x st):wpS M A E s (elem' arr i) Q st:=by rw [elem'_eq,e];exact aZ h
theorem wp_at (L:LtOk O key G kd M A E s) {st:aL}(h:Bs G kd az p st) {i j:Nat}(hi:i < az.size) (hj:j < az.size) {Q:Option Bool->aL->Prop}
  (q:Q (some (O.blt (kk key (ϊ st) i) (kk key (ϊ st) j))) st):wpS M A E s (ltAt' i j) Q st:=by obtain ⟨x,e1,g1,k1⟩:=h.item (key:=key) hi;obtain ⟨y,e2,g2,k2⟩:=h.item (key:=key) hj;rw [ltAt'_eq];refine Ϫ (wpS_get (Ϫ (Jm e1 (Ϫ (Jm e2 (L x y st Q g1 g2 h.kind ?_))))));rw [<- k1,<- k2];exact q
theorem W5 {st:aL}{i j:Nat}{Q:Unit->aL->Prop}(h:Q () (setArr st (mirror (ϊ st) i j ((j - i) / 2)))):wpS M A E s (fK i j) Q st:=by rw [reverseSlice'_eq];exact oR h
theorem Qp {xs ys:Array bI}{i j:Nat}(h:xs[i]?=ys[j]?):kk key xs i=kk key ys j:=by unfold kk;rw [h]
set_option tactic.hygienic true in
theorem ju {xs:Array bI}{i j:Nat}(hj:j<=xs.size) (k:Nat):kk key (mirror xs i j ((j - i) / 2)) k=if i<=k/\k < j then kk key xs (i+j - 1 - k) else kk key xs k:=by
 have e:=getElem?_mirror_all (i:=i) hj k;split
 ·rename_i h;rw [if_pos h] at e;exact Qp e
 ·rename_i h;rw [if_neg h] at e;exact Qp e
theorem Vt {xs:Array bI}{i j k:Nat}(hj:j<=xs.size) (hk:k < i):(mirror xs i j ((j - i) / 2))[k]?=xs[k]?:=by rw [getElem?_mirror_all hj,if_neg (by lia)]
set_option tactic.hygienic true in
theorem Wn {xs:Array bI}{i j:Nat}(hj:j<=xs.size) (h:∀ k,i<=k->k < j->kk key xs k=kk key xs (j - 1)) (k:Nat):kk key (mirror xs i j ((j - i) / 2)) k=kk key xs k:=by
 rw [ju hj];split
 ·rename_i q
  exact (h _ (by omega) (by omega)).trans (h k q.1 q.2).symm
 ·rfl
theorem Srt.one {xs:Array bI}{lo:Nat}:Srt key xs lo (lo+1):=λi j h1 h2 h3=>by
 obtain rfl:i=j:=by lia
 exact bU _
theorem Srt.more {xs:Array bI}{lo n:Nat}(h:Srt key xs lo (lo+n)) (h1:1<=n) (k:O.kle (kk key xs (lo+n - 1)) (kk key xs (lo+n))):Srt key xs lo (lo+(n+1)):=λi j a b c=>by
 by_cases e:j < lo+n
 ·exact h i j a b e
 ·obtain rfl:j=lo+n:=by lia
  by_cases e:i=lo+n
  ·subst e;exact bU _
  ·exact du (h i (lo+n - 1) a (by lia) (by lia)) k
theorem zcb (L:LtOk O key G kd M A E s) {st:aL}(b:Bs G kd az p st) {lo a nrem:Nat}(h1:1<=a) (ha:a<=nrem) (h2:lo+nrem<=az.size) (hs:Srt key (ϊ st) lo (lo+a)) {Q:Option (Option Nat)×Nat->aL->Prop}
  (q:∀ n,a<=n->n<=nrem->Srt key (ϊ st) lo (lo+n)->(n=nrem\/O.klt (kk key (ϊ st) (lo+n)) (kk key (ϊ st) (lo+n - 1)))->Q (none,n) st):
  wpS M A E s (forIn [a:nrem] ((none,a):Option (Option Nat)×Nat) λ_ c=>do
   let x <- ltAt' (lo+c.2) (lo+c.2 - 1)
   match x with
   | some smaller=>if smaller=true then pure (aR (none,c.2)) else pure (aF (none,c.2+1))
   | _=>pure (aR (some none,c.2))) Q st:=by
 refine gb (I:=λx c st'=>st'=st/\c=(none,x)/\Srt key (ϊ st) lo (lo+x)) ?_ ?_ ⟨rfl,rfl,hs⟩
 ·rintro x c st' hx hn ⟨rfl,rfl,hs⟩;dsimp only;refine Ϫ (wp_at L b (by lia) (by lia) ?_);cases hl:O.blt (kk key (ϊ st') (lo+x)) (kk key (ϊ st') (lo+x - 1)) with
  | true=>exact aZ (q x hx (by lia) hs (.inr hl))
  | false=>exact aZ ⟨rfl,rfl,hs.more (by lia) hl⟩
 ·rintro c st' ⟨rfl,rfl,hs⟩;rw [show max a nrem=nrem by lia] at hs ⊢;exact q nrem ha (Β _) hs (.inl rfl)
def Fal (key:bI->O.α) (xs:Array bI) (lo hi:Nat):Prop:=∀ i j,lo<=i->i<=j->j < hi->O.kle (kk key xs j) (kk key xs i)
theorem Fal.more {xs:Array bI}{lo n:Nat}(h:Fal key xs lo (lo+n)) (h1:1<=n) (k:O.kle (kk key xs (lo+n)) (kk key xs (lo+n - 1))):Fal key xs lo (lo+(n+1)):=λi j a b c=>by
 by_cases e:j < lo+n
 ·exact h i j a b e
 ·obtain rfl:j=lo+n:=by lia
  by_cases e:i=lo+n
  ·subst e;exact bU _
  ·exact du k (h i (lo+n - 1) a (by lia) (by lia))
theorem Fal.same {xs ys:Array bI}{lo hi:Nat}(h:Fal key xs lo hi) (e:∀ k,kk key ys k=kk key xs k):Fal key ys lo hi:=λi j a b c=>by rw [e,e];exact h i j a b c
theorem Jk (L:LtOk O key G kd M A E s) {st:aL}(b:Bs G kd az p st) {lo n nrem:Nat}(h1:1<=n) (hn:n<=nrem) (h2:lo+nrem<=az.size) (hs:Fal key (ϊ st) lo (lo+n)) {Q:Option Nat->aL->Prop}
  (q:∀ m st',Bs G kd az p st'->1<=m->m<=nrem->Srt key (ϊ st') lo (lo+m)->(∀ k,k < lo->(ϊ st')[k]?=(ϊ st)[k]?)->Q (some m) st'):
  wpS M A E s (do
   fK lo (lo+n)
   let c <- forIn [n:nrem] ((none,n):Option (Option Nat)×Nat) λ_ c=>do
    let x <- ltAt' (lo+c.2) (lo+c.2 - 1)
    match x with
    | some smaller=>if smaller=true then pure (aR (none,c.2)) else pure (aF (none,c.2+1))
    | _=>pure (aR (some none,c.2))
   match c.1 with
   | some r=>pure r
   | none=>pure (some c.2)) Q st:=by
 have hz:lo+n<=(ϊ st).size:=by rw [b.size];lia
 refine Ϫ (W5 ?_);have b':=b.set (nR (ϊ st) lo (lo+n) ((lo+n - lo) / 2));refine Ϫ (zcb L b' h1 hn h2 ?_ λm m1 m2 ms _=>aZ (q m _ b' (by lia) m2 ms λk hk=>Vt hz hk));intro i j a b c;show O.kle (kk key (mirror (ϊ st) lo (lo+n) ((lo+n - lo) / 2)) i) (kk key (mirror (ϊ st) lo (lo+n) ((lo+n - lo) / 2)) j)
 rw [ju hz,ju hz,if_pos (by lia),if_pos (by lia)];exact hs _ _ (by lia) (by lia) (by lia)
end
section
variable {az:Array bI}{p:Array (Nat×Nat×Nat)}
theorem Jl (L:LtOk O key G kd M A E s) {st:aL}(b:Bs G kd az p st) {lo n nrem:Nat}(h1:1<=n) (hn:n<=nrem) (h2:lo+nrem<=az.size) (hs:Fal key (ϊ st) lo (lo+n)) {Q:Option Nat->aL->Prop}
  (q:∀ m st',Bs G kd az p st'->1<=m->m<=nrem->Srt key (ϊ st') lo (lo+m)->(∀ k,k < lo->(ϊ st')[k]?=(ϊ st)[k]?)->Q (some m) st'):
  wpS M A E s (do
   let c <- forIn [n:nrem] ((none,n,0):Option (Option Nat)×Nat×Nat) λ_ c=>do
    let x <- ltAt' (lo+c.2.1) (lo+c.2.1 - 1)
    match x with
    | some smaller=>
     if smaller=true then
      if c.2.2 > 0 then do
       let _ <- fK (lo+c.2.1 - (c.2.2+1)) (lo+c.2.1)
       pure (aF (none,c.2.1+1,0))
      else pure (aF (none,c.2.1+1,0))
     else do
      let x <- ltAt' (lo+c.2.1 - 1) (lo+c.2.1)
      match x with
      | some larger=>if larger=true then pure (aR (none,c.2.1,c.2.2)) else pure (aF (none,c.2.1+1,c.2.2+1))
      | _=>pure (aR (some none,c.2.1,c.2.2))
    | _=>pure (aR (some none,c.2.1,c.2.2))
   match c.1 with
   | some r=>pure r
   | none=>
    if c.2.2 > 0 then do
     let _ <- fK (lo+c.2.1 - (c.2.2+1)) (lo+c.2.1)
     do
      fK lo (lo+c.2.1)
      let c <- forIn [c.2.1:nrem] ((none,c.2.1):Option (Option Nat)×Nat) λ_ c=>do
       let x <- ltAt' (lo+c.2) (lo+c.2 - 1)
       match x with
       | some smaller=>if smaller=true then pure (aR (none,c.2)) else pure (aF (none,c.2+1))
       | _=>pure (aR (some none,c.2))
      match c.1 with
      | some r=>pure r
      | none=>pure (some c.2)
    else do
     fK lo (lo+c.2.1)
     let c <- forIn [c.2.1:nrem] ((none,c.2.1):Option (Option Nat)×Nat) λ_ c=>do
      let x <- ltAt' (lo+c.2) (lo+c.2 - 1)
      match x with
      | some smaller=>if smaller=true then pure (aR (none,c.2)) else pure (aF (none,c.2+1))
      | _=>pure (aR (some none,c.2))
     match c.1 with
     | some r=>pure r
     | none=>pure (some c.2)) Q st:=by
 refine Ϫ (wpS_mono (gb (I:=λx c st'=>∃ e,c=(none,x,e)/\Bs G kd az p st'/\Fal key (ϊ st') lo (lo+x)/\e+1<=x/\(∀ i,lo+x - (e+1)<=i->i < lo+x->kk key (ϊ st') i=kk key (ϊ st') (lo+x - 1))/\∀ k,k < lo->(ϊ st')[k]?=(ϊ st)[k]?)
  (Q:=λc st'=>∃ m e,c=(none,m,e)/\n<=m/\m<=nrem/\Bs G kd az p st'/\Fal key (ϊ st') lo (lo+m)/\e+1<=m/\(∀ i,lo+m - (e+1)<=i->i < lo+m->kk key (ϊ st') i=kk key (ϊ st') (lo+m - 1))/\∀ k,k < lo->(ϊ st')[k]?=(ϊ st)[k]?) ?_ ?_ ⟨0,rfl,b,hs,by lia,λi h1 h2=>by congr 1;lia,λ_ _=>rfl⟩) ?_)
 ·rintro x c st' hx hn ⟨e,rfl,b',f',he,hq,hk⟩;dsimp only;have hz:lo+x<=(ϊ st').size:=by rw [b'.size];lia
  refine Ϫ (wp_at L b' (by lia) (by lia) ?_);cases hl:O.blt (kk key (ϊ st') (lo+x)) (kk key (ϊ st') (lo+x - 1)) with
  | true=>
   have f2:=f'.more (by lia) (dX hl);dsimp only;rw [if_pos rfl];by_cases he0:e > 0
   ·rw [if_pos he0];have same:=Wn (key:=key) hz hq;exact Ϫ (W5 (aZ ⟨0,rfl,b'.set (nR _ _ _ _),f2.same same,by lia,λi h1 h2=>by congr 1;lia,λk h=>(Vt hz (by lia)).trans (hk k h)⟩))
   ·rw [if_neg he0];exact aZ ⟨0,rfl,b',f2,by lia,λi h1 h2=>by congr 1;lia,hk⟩
  | false=>
   dsimp only;rw [if_neg (by decide)];refine Ϫ (wp_at L b' (by lia) (by lia) ?_);cases hg:O.blt (kk key (ϊ st') (lo+x - 1)) (kk key (ϊ st') (lo+x)) with
   | true=>exact aZ ⟨x,e,rfl,hx,by lia,b',f',he,hq,hk⟩
   | false=>
    have eq:kk key (ϊ st') (lo+x)=kk key (ϊ st') (lo+x - 1):=o6 hg hl;refine aZ ⟨e+1,rfl,b',f'.more (by lia) hg,by lia,λi h1 h2=>?_,hk⟩;rw [show lo+(x+1) - 1=lo+x by lia,eq];by_cases hi:i=lo+x
    ·rw [hi];exact eq
    ·exact hq i (by lia) (by lia)
 ·rintro c st' ⟨e,rfl,b',f',he,hq,hk⟩;rw [show max n nrem=nrem by lia] at f' he hq ⊢;exact ⟨nrem,e,rfl,hn,Β _,b',f',he,hq,hk⟩
 ·rintro c st' ⟨m,e,rfl,m1,m2,b',f',he,hq,hk⟩;dsimp only;have hz:lo+m<=(ϊ st').size:=by rw [b'.size];lia
  by_cases he0:e > 0
  ·rw [if_pos he0];have same:=Wn (key:=key) hz hq;refine Ϫ (W5 (Jk L (b'.set (nR _ _ _ _)) (by lia) m2 h2 (f'.same same) λm' st2 b2 a1 a2 a3 a4=>q m' st2 b2 a1 a2 a3 λk h=>?_));exact (a4 k h).trans ((Vt hz (by lia)).trans (hk k h))
  ·rw [if_neg he0];exact Jk L b' (by lia) m2 h2 f' λm' st2 b2 a1 a2 a3 a4=>q m' st2 b2 a1 a2 a3 λk h=>(a4 k h).trans (hk k h)
theorem ze6 {α:Type}{m m':StateT aL Sem α}{Q:α->aL->Prop}{st:aL}(e:m'=m) (h:wpS M A E s m Q st):wpS M A E s m' Q st:=e ▸ h
theorem bd {α β:Type}{m m':StateT aL Sem α}{f f':α->StateT aL Sem β}(e:m=m') (h:∀ a,f a=f' a):(m >>= f)=(m' >>= f'):=by rw [e,funext h]
theorem zaL (L:LtOk O key G kd M A E s) {st:aL}(b:Bs G kd az p st) {lo nrem:Nat}(h1:1<=nrem) (h2:lo+nrem<=az.size) {Q:Option Nat->aL->Prop}
  (q:∀ m st',Bs G kd az p st'->1<=m->m<=nrem->Srt key (ϊ st') lo (lo+m)->(∀ k,k < lo->(ϊ st')[k]?=(ϊ st)[k]?)->Q (some m) st'):wpS M A E s (countRun' lo nrem) Q st:=by
 rw [countRun'_eq];refine Ϫ (zcb L b (Β 1) h1 h2 Srt.one λn n1 n2 hs ho=>?_);dsimp only;by_cases hn:n=nrem
 ·rw [if_pos (by simpa using hn)];exact aZ (q n st b n1 n2 hs λ_ _=>rfl)
 ·rw [if_neg (by simpa using hn)];have hlt:=ho.resolve_left hn;have hz:lo+n<=(ϊ st).size:=by rw [b.size];lia
  by_cases hg:n > 1
  ·rw [if_pos hg];refine Ϫ (wp_at L b (by lia) (by lia) ?_);cases hr:O.blt (kk key (ϊ st) lo) (kk key (ϊ st) (lo+n - 1)) with
   | true=>exact aZ (q n st b n1 n2 hs λ_ _=>rfl)
   | false=>
    dsimp only;rw [if_neg (by decide)];have all:∀ k,lo<=k->k < lo+n->kk key (ϊ st) k=kk key (ϊ st) (lo+n - 1):=λk a c=>
     o6 (hs k (lo+n - 1) a (by lia) (by lia)) (du hr (hs lo k (Β _) a c))
    have same:=Wn (key:=key) hz all;have f0:Fal key (ϊ st) lo (lo+(n+1)):=λi j a c d=>by
     by_cases e:j < lo+n
     ·rw [all i a (by lia),all j (by lia) e];exact bU _
     ·obtain rfl:j=lo+n:=by lia
      by_cases e:i=lo+n
      ·rw [e];exact bU _
      ·rw [all i a (by lia)];exact dX hlt
    refine Ϫ (W5 ?_);refine Ϫ (wpS_lift (cH ⟨rfl,?_⟩));refine ze6 ?e (Jl L (b.set (nR _ _ _ _)) (by lia) (by lia) h2 (f0.same same) λm' st2 b2 a1 a2 a3 a4=>q m' st2 b2 a1 a2 a3 λk h=>(a4 k h).trans (Vt hz h))
    case e=>
     refine bd rfl λc=>?_
     obtain ⟨r,n',e'⟩:=c;cases r with
     | some r=>rfl
     | none=>
      dsimp only;split
      ·refine bd rfl λ_=>bd rfl λ_=>bd rfl λc=>?_
       obtain ⟨r,_⟩:=c;cases r <;> rfl
      ·refine bd rfl λ_=>bd rfl λc=>?_
       obtain ⟨r,_⟩:=c;cases r <;> rfl
  ·rw [if_neg hg];obtain rfl:n=1:=by lia
   refine Ϫ (wpS_lift (cH ⟨rfl,?_⟩));refine ze6 ?e (Jl L b (n:=1+1) (by lia) (by lia) h2 (λi j a c d=>?_) q)
   case e=>
    refine bd rfl λc=>?_
    obtain ⟨r,n',e'⟩:=c;cases r with
    | some r=>rfl
    | none=>
     dsimp only;split
     ·refine bd rfl λ_=>bd rfl λ_=>bd rfl λc=>?_
      obtain ⟨r,_⟩:=c;cases r <;> rfl
     ·refine bd rfl λ_=>bd rfl λc=>?_
      obtain ⟨r,_⟩:=c;cases r <;> rfl
   by_cases e:i=j
   ·rw [e];exact bU _
   ·obtain rfl:i=lo:=by lia
    obtain rfl:j=i+1:=by lia
    exact dX hlt
set_option tactic.hygienic true in
theorem YH {xs:Array bI}{src d:Nat}(hs:src < xs.size) (hd:d<=src) (k:Nat):kk key (bubble xs src d) k=if k=src - d then kk key xs src else if src - d < k/\k<=src then kk key xs (k - 1) else kk key xs k:=by
 have e:=getElem?_bubble hs d hd k;split
 ·rename_i h;rw [if_pos h] at e;exact Qp e
 ·rename_i h
  rw [if_neg h] at e;split
  ·rename_i h;rw [if_pos h] at e;exact Qp e
  ·rename_i h;rw [if_neg h] at e;exact Qp e
theorem ze7 (L:LtOk O key G kd M A E s) {st:aL}(b:Bs G kd az p st) {lo n ok:Nat}(h1:1<=ok) (hok:ok<=n) (h2:lo+n<=az.size) (hs:Srt key (ϊ st) lo (lo+ok)) {Q:Bool->aL->Prop}
  (q:∀ st',Bs G kd az p st'->Srt key (ϊ st') lo (lo+n)->(∀ k,k < lo->(ϊ st')[k]?=(ϊ st)[k]?)->Q true st'):wpS M A E s (binarySort' lo n ok) Q st:=by
 rw [binarySort'_eq]
 refine Ϫ (wpS_mono (gb (I:=λk c st'=>c=(none,())/\Bs G kd az p st'/\Srt key (ϊ st') lo (lo+k)/\∀ k,k < lo->(ϊ st')[k]?=(ϊ st)[k]?)
  (Q:=λc st'=>c=(none,())/\Bs G kd az p st'/\Srt key (ϊ st') lo (lo+n)/\∀ k,k < lo->(ϊ st')[k]?=(ϊ st)[k]?) ?_ ?_ ⟨rfl,b,by rw [show max ok 1=ok by lia];exact hs,λ_ _=>rfl⟩) ?_)
 ·rintro k c st' hk hkn ⟨rfl,b',hs',hq⟩;have hz:lo+k < (ϊ st').size:=by rw [b'.size];lia
  dsimp only
  refine Ϫ (wpS_mono (gb (I:=λx c st2=>st2=st'/\∃ l r,c=(none,l,r)/\l<=r/\r<=k/\r - l<=k - x/\(∀ i,i < l->O.kle (kk key (ϊ st') (lo+i)) (kk key (ϊ st') (lo+k)))/\∀ i,r<=i->i < k->O.kle (kk key (ϊ st') (lo+k)) (kk key (ϊ st') (lo+i)))
   (Q:=λc st2=>st2=st'/\∃ l r,c=(none,l,r)/\l<=k/\(∀ i,i < l->O.kle (kk key (ϊ st') (lo+i)) (kk key (ϊ st') (lo+k)))/\∀ i,l<=i->i < k->O.kle (kk key (ϊ st') (lo+k)) (kk key (ϊ st') (lo+i))) ?_ ?_ ⟨rfl,0,k,rfl,by lia,by lia,by lia,λi hi=>by lia,λi h1 h2=>by lia⟩) ?_)
  ·rintro x c st2 _ hx ⟨rfl,l,r,rfl,hlr,hrk,hm,hlo,hhi⟩;dsimp only;by_cases hg:l >= r
   ·rw [if_pos hg];obtain rfl:l=r:=by lia
    exact aZ ⟨rfl,l,l,rfl,hrk,hlo,hhi⟩
   ·rw [if_neg hg];refine Ϫ (wp_at L b' (by lia) (by lia) ?_);cases hl:O.blt (kk key (ϊ st2) (lo+k)) (kk key (ϊ st2) (lo+(l+r) / 2)) with
    | true=>exact aZ ⟨rfl,l,(l+r) / 2,rfl,by lia,by lia,by lia,hlo,λi h1 h2=>du (dX hl) (hs' _ _ (by lia) (by lia) (by lia))⟩
    | false=>exact aZ ⟨rfl,(l+r) / 2+1,r,rfl,by lia,by lia,by lia,λi h1=>du (hs' (lo+i) (lo+(l+r) / 2) (by lia) (by lia) (by lia)) hl,hhi⟩
  ·rintro c st2 ⟨rfl,l,r,rfl,hlr,hrk,hm,hlo,hhi⟩;obtain rfl:l=r:=by lia
   exact ⟨rfl,l,l,rfl,hrk,hlo,hhi⟩
  ·rintro c st2 ⟨rfl,l,r,rfl,hlk,hlo,hhi⟩;dsimp only;rw [moveDown'_eq];refine Ϫ (oR (aZ ⟨rfl,b'.set (bubble_perm _ _ _),λi j h1 h2 h3=>?_,λi hi=>?_⟩))
   ·show O.kle (kk key (bubble (ϊ st2) (lo+k) (lo+k - (lo+l))) i) (kk key (bubble (ϊ st2) (lo+k) (lo+k - (lo+l))) j)
    rw [YH hz (by lia),YH hz (by lia),show lo+k - (lo+k - (lo+l))=lo+l by lia];have lo':∀ i,lo<=i->i < lo+l->O.kle (kk key (ϊ st2) i) (kk key (ϊ st2) (lo+k)):=λi a c=>by
     have:=hlo (i - lo) (by lia)
     rwa [show lo+(i - lo)=i by lia] at this
    have hi':∀ i,lo+l<=i->i < lo+k->O.kle (kk key (ϊ st2) (lo+k)) (kk key (ϊ st2) i):=λi a c=>by
     have:=hhi (i - lo) (by lia) (by lia)
     rwa [show lo+(i - lo)=i by lia] at this
    repeat' split
    all_goals first
     | (exfalso;lia)
     | exact bU _
     | exact lo' _ (by lia) (by lia)
     | exact hi' _ (by lia) (by lia)
     | exact hs' _ _ (by lia) (by lia) (by lia)
   ·refine Eq.trans ?_ (hq i hi);show (bubble (ϊ st2) (lo+k) (lo+k - (lo+l)))[i]?=_
    rw [getElem?_bubble hz _ (by lia),if_neg (by lia),if_neg (by lia)]
 ·rintro c st' ⟨hc,b',hs',hq⟩;rw [show max (max ok 1) n=n by lia] at hs';exact ⟨hc,b',hs',hq⟩
 ·rintro c st' ⟨rfl,b',hs',hq⟩;exact aZ (q st' b' hs' hq)
end
section
variable {az:Array bI}
def Rn (key:bI->O.α) (G:bI->Prop) (kd:lE) (az:Array bI) (lo:Nat) (st:aL):Prop:=
 (lo=0/\Bs G kd az #[] st)\/(lo=az.size/\Bs G kd az #[(0,lo,0)] st/\Srt key (ϊ st) 0 lo)
theorem zcN (L:LtOk O key G kd M A E s) {st:aL}(b:Bs G kd az #[] st) (h2:2<=az.size) (h64:az.size < 64) {Q:Unit->aL->Prop}
  (q:∀ st',(ϊ st').Perm az->failedOf st'=none->Srt key (ϊ st') 0 az.size->Q () st'):wpS M A E s sortRuns' Q st:=by
 have hr:minRun' az.size az.size 0=az.size:=by
  obtain ⟨f,e⟩:∃ f,az.size=f+1:=⟨az.size - 1,by lia⟩
  rw [e,minRun'_succ,if_pos (by lia),Nat.add_zero]
 rw [sortRuns'_eq];refine Ϫ (wpS_get ?_);dsimp only;rw [b.size,hr];refine Ϫ (wpS_mono (gb (I:=λx c st'=>∃ lo,c=(none,lo)/\lo<=az.size/\(lo=az.size\/x<=lo)/\Rn key G kd az lo st') (Q:=λc st'=>c=(none,az.size)/\Rn key G kd az az.size st') ?_ ?_ ⟨0,rfl,by lia,.inr (Β _),.inl ⟨rfl,b⟩⟩) ?_)
 ·rintro x c st1 _ hx ⟨lo,rfl,hlo,hp,rn⟩;dsimp only;by_cases hg:lo >= az.size
  ·rw [if_pos hg];obtain rfl:lo=az.size:=by lia
   exact aZ ⟨rfl,rn⟩
  ·rw [if_neg hg];rcases rn with ⟨rfl,b1⟩ | ⟨e,_⟩
   ·refine Ϫ (zaL L b1 (by lia) (by lia) λm st2 b2 m1 m2 ms _=>?_);dsimp only;by_cases hm:m < az.size
    ·rw [if_pos hm];refine Ϫ (wpS_lift (cH ⟨rfl,?_⟩));refine Ϫ (ze7 L b2 m1 (by lia) (by lia) ms λst3 b3 ss _=>?_);rw [if_neg (by decide)];refine Ϫ (wpS_get ?_);rw [show (nF st3)=#[] from b3.pend,show (#[]:Array (Nat×Nat×Nat)).back?=none from rfl];refine Ϫ (oR (aZ ⟨0+min (az.size - 0) az.size,rfl,by lia,.inl (by lia),.inr ⟨by lia,⟨b3.perm,b3.good,b3.kind,b3.failed,?_⟩,ss⟩⟩));show (nF st3).push _=_
     rw [b3.pend,lY];rfl
    ·rw [if_neg hm];refine Ϫ (wpS_get ?_);rw [show (nF st2)=#[] from b2.pend,show (#[]:Array (Nat×Nat×Nat)).back?=none from rfl];refine Ϫ (oR (aZ ⟨0+m,rfl,by lia,.inl (by lia),.inr ⟨by lia,⟨b2.perm,b2.good,b2.kind,b2.failed,?_⟩,ms⟩⟩));show (nF st2).push _=_
     rw [b2.pend,lY];rfl
   ·lia
 ·rintro c st1 ⟨lo,rfl,hlo,hp,rn⟩;obtain rfl:lo=az.size:=by lia
  exact ⟨rfl,rn⟩
 ·rintro c st1 ⟨rfl,rn⟩;dsimp only;obtain ⟨b1,hs⟩:Bs G kd az #[(0,az.size,0)] st1/\Srt key (ϊ st1) 0 az.size:=by
   rcases rn with ⟨h,_⟩ | ⟨_,h1,h3⟩
   ·lia
   ·exact ⟨h1,h3⟩
  refine Ϫ (wpS_mono (gb (I:=λy c st'=>c=(none,())/\st'=st1) (Q:=λc st'=>c=(none,())/\st'=st1) ?_ (λ_ _ h=>h) ⟨rfl,rfl⟩) ?_)
  ·rintro y c st2 _ hy ⟨rfl,rfl⟩;refine Ϫ (wpS_get ?_);rw [b1.pend,if_pos (show (#[(0,az.size,0)]:Array (Nat×Nat×Nat)).size<=1 from Β 1)];exact aZ ⟨rfl,rfl⟩
  ·rintro c st2 ⟨rfl,rfl⟩;exact aZ (q st2 b1.perm b1.failed hs)
end
noncomputable def lexB:List Int->List Int->Bool
 | [],[]=>false
 | [],_::_=>true
 | _::_,[]=>false
 | a::x,b::y=>if a=b then lexB x y else decide (a < b)
theorem Qj:∀ x,lexB x x=false
 | []=>rfl
 | a::x=>by unfold lexB;rw [if_pos rfl];exact Qj x
theorem zcy:∀ x y z,lexB x y=true->lexB y z=true->lexB x z=true
 | [],[],z,h,_=>by cases h
 | [],_::_,[],_,h=>by cases h
 | [],_::_,_::_,_,_=>rfl
 | _::_,[],z,h,_=>by cases h
 | _::_,_::_,[],_,h=>by cases h
 | a::x,b::y,c::z,h,k=>by
  unfold lexB at h k ⊢;by_cases h1:a=b
  ·rw [if_pos h1] at h;subst h1;by_cases h2:a=c
   ·rw [if_pos h2] at k ⊢;exact zcy x y z h k
   ·rw [if_neg h2] at k ⊢;exact k
  ·rw [if_neg h1] at h;have h:=of_decide_eq_true h;by_cases h2:b=c
   ·subst h2;rw [if_neg h1];exact decide_eq_true h
   ·rw [if_neg h2] at k;have k:=of_decide_eq_true k;rw [if_neg (by omega)];exact decide_eq_true (by omega)
theorem Qi:∀ x y z,lexB x z=true->lexB x y=true\/lexB y z=true
 | [],[],z,h=>.inr h
 | [],_::_,z,h=>.inl rfl
 | _::_,y,[],h=>by cases h
 | _::_,[],_::_,h=>.inr rfl
 | a::x,b::y,c::z,h=>by
  unfold lexB at h ⊢;by_cases h1:a=b
  ·subst h1;by_cases h2:a=c
   ·rw [if_pos h2] at h;rw [if_pos rfl,if_pos h2];exact Qi x y z h
   ·rw [if_neg h2] at h;right;rw [if_neg h2];exact h
  ·rw [if_neg h1];by_cases h2:a=c
   ·by_cases h3:a < b
    ·exact .inl (decide_eq_true h3)
    ·right;rw [if_neg (by lia)];exact decide_eq_true (by lia)
   ·rw [if_neg h2] at h;have h:=of_decide_eq_true h;by_cases h3:a < b
    ·exact .inl (decide_eq_true h3)
    ·right;rw [if_neg (by lia)];exact decide_eq_true (by lia)
theorem Qh:∀ x y,lexB x y=false->lexB y x=false->x=y
 | [],[],_,_=>rfl
 | [],_::_,h,_=>by cases h
 | _::_,[],_,h=>by cases h
 | a::x,b::y,h,k=>by
  unfold lexB at h k;by_cases h1:a=b
  ·subst h1;rw [if_pos rfl] at h k;rw [Qh x y h k]
  ·rw [if_neg h1] at h;rw [if_neg (λe=>h1 e.symm)] at k;have h:=of_decide_eq_false h;have k:=of_decide_eq_false k;omega
noncomputable def lexO:bJ:=⟨List Int,lexB,Qj,zcy,Qi,Qh⟩
def zh8:List δ->List Int->Prop
 | [],[]=>True
 | v::vs,n::ns=>(∃ t,v=.int n t)/\zh8 vs ns
 | _,_=>False
section
variable {prog:Τ}{w:ϓ}{kz:δ->List Int}
structure Tu (kz:δ->List Int) (h:Heap) (v:δ):Prop where
 it:∃ b o xs m,v=.ref b/\h.get? b=some o/\o.cls=.type "tuple"/\o.data=.seq xs m/\zh8 xs.toList (kz v)
theorem Tu.keep {h h':Heap}{v:δ}(t:Tu kz h v) (k:∀ b o,v=.ref b->h.get? b=some o->h'.get? b=some o):Tu kz h' v:=by obtain ⟨⟨b,o,xs,m,e1,e2,e3,e4,e5⟩⟩:=t;exact ⟨⟨b,o,xs,m,e1,k b o e1 e2,e3,e4,e5⟩⟩
theorem qL:∀ (vs:List δ),vs.zip vs=vs.map λv=>(v,v)
 | []=>rfl
 | v::vs=>by rw [bu,qL vs];rfl
def uf (O:bJ) (kz:δ->O.α) (vs out:List δ):Prop:=out.Perm vs/\out.Pairwise λx y=>O.blt (kz y) (kz x)=false
theorem qb {O:bJ}{kz:δ->O.α}{vs:List δ}{st:aL}(h:(ϊ st).Perm (vs.toArray.zip vs.toArray)) (hs:Srt (O:=O) (λx=>kz x.1) (ϊ st) 0 (vs.toArray.zip vs.toArray).size):uf O kz vs ((ϊ st).map (·.2)).toList:=by
 have hz:(vs.toArray.zip vs.toArray).toList=vs.map λv=>(v,v):=by rw [p8];exact qL vs
 have p:=m7.mp h;rw [hz] at p;have same:∀ x∈(ϊ st).toList,x.1=x.2:=λx hx=>by obtain ⟨v,_,rfl⟩:=Ϲ.mp (p.mem_iff.mp hx);rfl
 refine ⟨?_,?_⟩
 ·rw [rA];have:=p.map (λx:bI=>x.2)
  rwa [fL,show ((λx:bI=>x.2)∘λv=>(v,v))=(id:δ->δ) from rfl,List.map_id] at this
 ·rw [rA,gm];refine dG.mpr λi j h1 h2 h3=>?_
  have hsz:(ϊ st).size=(vs.toArray.zip vs.toArray).size:=h.size_eq;have hj:j < (ϊ st).size:=by simpa using h2
  have:=hs i j (ϴ _) (by omega) (by omega);unfold kk at this;rw [getElem?_pos (ϊ st) i (by omega),getElem?_pos (ϊ st) j hj] at this;have e1:=same (ϊ st)[i] (by simp);have e2:=same (ϊ st)[j] (by simp);have h4:O.blt (kz (ϊ st)[j].1) (kz (ϊ st)[i].1)=false:=this;rw [e1,e2] at h4;simpa using h4
theorem zaY {O:bJ}{kz:δ->O.α}{kd:lE}{a:Addr}{vs:List δ}{n:Nat}{P:Fin->μ->Prop}(ho:s.heap.get? a=some (cX "list" vs.toArray n)) (h128:vs.length < 64)
  (hk:∀ h',2<=vs.length->(∀ b o,b≠a->s.heap.get? b=some o->h'.get? b=some o)->(∀ Q:lE->μ->Prop,Q kd { s with heap:=h' }->Λ (Ν prog w) A (keyKind' vs.toArray) Q E { s with heap:=h' })/\LtOk O (λx=>kz x.1) (λx=>∃ v∈vs,x=(v,v)) kd (Ν prog w) A E { s with heap:=h' })
  (h:∀ out:Array δ,uf O kz vs out.toList->P (.done (.ret .none)) { s with heap:=iK s.heap a vs out }):Λ (Ν prog w) A (ώ.«list.sort» ⟨[.ref a],[]⟩) P E s:=by
 have ha:a < s.heap.objs.size:=Δ ho;have hsl:vs.length<=sizeLine:=by rw [aJ];lia
 obtain ⟨e1,ho1⟩:∃ e1,(s.heap.update a (bH λ_=>#[])).get? a=some (cX "list" #[] e1):=⟨_,get?_update_seq ho (λ_=>#[])⟩
 rw [list_sort_plain];refine ζ (pR ho rfl (ζ (gZ ho rfl (ζ (seqEpoch_at ho1 rfl (ζ (oU (ζ (wpAny_newList (bC ?_) (ϴ _))) (by simpa using hsl))))) (by simpa using hsl) (ϴ _))));have ho6:(((s.heap.update a (bH λ_=>#[])).push (cX "tuple" vs.toArray 0)).push (cX "list" #[] 0)).get? a=some (cX "list" #[] e1):=
  η _ (η _ ho1)
 have kp:∀ b o,b≠a->s.heap.get? b=some o->(((s.heap.update a (bH λ_=>#[])).push (cX "tuple" vs.toArray 0)).push (cX "list" #[] 0)).get? b=some o:=λb o hb e=>
  η _ (η _ (by rw [dJ _ _ _ _ hb];exact e))
 show Λ (Ν prog w) A _ P E { s with heap:=((s.heap.update a (bH λ_=>#[])).push (cX "tuple" vs.toArray 0)).push (cX "list" #[] 0) }
 have tail:∀ st':aL,uf O kz vs ((ϊ st').map (·.2)).toList->((ϊ st').map (·.2)).size=vs.length->failedOf st'=none->Λ (Ν prog w) A (do
   let touched:=(<- seqEpoch a) != e1
   ώ.List.listUpdate (.ref a) λ_=>(ϊ st').map (·.2)
   if let some e:=failedOf st' then rule "list.sort.comparison-raised";throw e
   if touched then rule "list.sort.modified";raiseError "ValueError" "list modified during sort"
   ret .none) P E { s with heap:=((s.heap.update a (bH λ_=>#[])).push (cX "tuple" vs.toArray 0)).push (cX "list" #[] 0) }:=λst' k z f=>by refine ζ (seqEpoch_at ho6 rfl (ζ (gZ ho6 rfl ?_ (ϴ _) (by lia))));rw [f];simp only [bne_self_eq_false,bQ,if_false];exact θ (h _ k)
 have pz:(vs.toArray.zip vs.toArray).size=vs.length:=by simp
 by_cases h2:vs.toArray.size < 2
 ·rw [if_pos h2,if_pos h2];refine ζ (θ ?_);dsimp only;rw [StateT.run_pure];refine ζ (θ ?_);refine tail (aL.mk' general' (vs.toArray.zip vs.toArray) #[] 7 none) (qb (Array.Perm.refl _) λi j a c e=>?_) (by rw [Array.size_map];exact pz) rfl;have h2':vs.length < 2:=by simpa using h2
  obtain rfl:i=j:=by lia
  exact bU _
 ·have h2':2<=vs.length:=by simpa using h2
  rw [if_neg h2,if_neg h2];obtain ⟨k1,L⟩:=hk _ h2' kp;refine ζ (k1 _ ?_)
  have B:Bs (λx=>∃ v∈vs,x=(v,v)) kd (vs.toArray.zip vs.toArray) #[] (aL.mk' kd (vs.toArray.zip vs.toArray) #[] 7 none):=⟨Array.Perm.refl _,λx hx=>by
   rw [p8,show vs.toArray.toList=vs from rfl,qL] at hx;obtain ⟨v,hm,rfl⟩:=Ϲ.mp hx
   exact ⟨v,hm,rfl⟩,rfl,rfl,rfl⟩
  refine ζ (bc (zcN (Q:=λ_ st'=>(ϊ st').Perm (vs.toArray.zip vs.toArray)/\failedOf st'=none/\Srt (O:=O) (λx=>kz x.1) (ϊ st') 0 (vs.toArray.zip vs.toArray).size) L B (by lia) (by lia) λst' a1 a2 a3=>⟨a1,a2,a3⟩) ?_ λ_ _ e=>e);rintro ⟨⟨⟩,st'⟩ s' ⟨rfl,a1,a2,a3⟩;exact tail st' (qb a1 a3) (by rw [Array.size_map,a1.size_eq];exact pz) a2
end
theorem sub_len:∀ {xs ys:List Nat},xs.Nodup->(∀ x∈xs,x∈ys)->xs.length<=ys.length
 | [],ys,_,_=>ϴ _
 | x::xs,ys,n,h=>by
  have hx:=h x ξ;have:=sub_len (xs:=xs) (ys:=ys.erase x) (aY.mp n).2 λy hy=>(List.mem_erase_of_ne (a:=y) (b:=x) λe=>(aY.mp n).1 (by rw [<- e];exact hy)).mpr (h y (ι _ hy))
  rw [List.length_erase_of_mem hx] at this;have:=List.length_pos_of_mem hx;simp only [ϱ];omega
section
variable {t:Η}
theorem QX (j:Nat):m8 #[] j=false:=by unfold m8;simp
theorem zaZ {j:Nat}(hd:t.dummies=#[]):t.slot j=.empty\/∃ i,t.slot j=.live i:=by
 unfold Η.slot;dsimp only;split
 ·exact .inr ⟨_,rfl⟩
 ·rw [hd,QX];exact .inl rfl
end
def Up (l:List Nat):Prop:=l.Pairwise (· < ·)
theorem ZP {xs:Array Nat}{j:Nat}(up:Up xs.toList):∀ (f lo hi:Nat),hi<=xs.size->lo<=hi->hi - lo<=f->(∀ i (h:i < xs.size),i < lo->xs[i] < j)->(∀ i (h:i < xs.size),hi<=i->j<=xs[i]) ->
  eZ xs j f lo hi<=xs.size/\(∀ i (h:i < xs.size),i < eZ xs j f lo hi->xs[i] < j)/\∀ i (h:i < xs.size),eZ xs j f lo hi<=i->j<=xs[i]
 | 0,lo,hi,h1,h2,h3,h4,h5=>by
  obtain rfl:lo=hi:=by omega
  exact ⟨h1,h4,h5⟩
 | f+1,lo,hi,h1,h2,h3,h4,h5=>by
  unfold eZ;by_cases c:lo < hi
  ·rw [if_pos c];dsimp only;have hm:(lo+hi) / 2 < xs.size:=by omega
   have eg:xs.getD ((lo+hi) / 2) j=xs[(lo+hi) / 2]:=by simp [Array.getD,hm]
   have pw:=dG.mp up;rw [eg];by_cases c2:xs[(lo+hi) / 2] < j
   ·rw [if_pos c2];refine ZP up f _ _ h1 (by omega) (by omega) (λi hi' l=>?_) h5;rcases g8 i ((lo+hi) / 2) with q | q
    ·have:=pw i ((lo+hi) / 2) (by simpa using hi') (by simpa using hm) q;simp only [bx] at this;omega
    ·obtain rfl:i=(lo+hi) / 2:=by omega
     exact c2
   ·rw [if_neg c2];refine ZP up f _ _ (by omega) (by omega) (by omega) h4 (λi hi' l=>?_);rcases g8 ((lo+hi) / 2) i with q | q
    ·have:=pw ((lo+hi) / 2) i (by simpa using hm) (by simpa using hi') q;simp only [bx] at this;omega
    ·obtain rfl:i=(lo+hi) / 2:=by omega
     omega
  ·rw [if_neg c];obtain rfl:lo=hi:=by omega
   exact ⟨h1,h4,h5⟩
theorem uZ {xs:Array Nat}{j:Nat}(up:Up xs.toList):Χ xs j<=xs.size/\(∀ i (h:i < xs.size),i < Χ xs j->xs[i] < j)/\∀ i (h:i < xs.size),Χ xs j<=i->j<=xs[i]:=
 ZP up _ _ _ (Β _) (ϴ _) (by omega) (λi _ h=>absurd h (by omega)) λi h l=>absurd h (by omega)
theorem Je {xs:Array Nat}(up:Up xs.toList) {m:Nat}(h:m < xs.size):Χ xs (xs[m]+1)=m+1:=by
 obtain ⟨k1,k2,k3⟩:=uZ (j:=xs[m]+1) up;have pw:=dG.mp up;have a1:¬ Χ xs (xs[m]+1)<=m:=λl=>by have:=k3 m h l;omega
 have a2:¬ m+1 < Χ xs (xs[m]+1):=λl=>by have q:=k2 (m+1) (by omega) l;have:=pw m (m+1) (by simpa using h) (by simp;omega) (by omega);simp only [bx] at this;omega
 omega
theorem Jd {xs:Array Nat}(up:Up xs.toList):Χ xs 0=0:=by
 obtain ⟨k1,k2,k3⟩:=uZ (j:=0) up;cases e:Χ xs 0 with
 | zero=>rfl
 | succ n=>rw [e] at k1 k2;exact absurd (k2 0 (by omega) (by omega)) (by omega)
noncomputable def slotAt (p:Array Nat):Nat->Nat
 | 0=>0
 | i+1=>p.getD i 0+1
theorem qF {xs:Array Nat}(up:Up xs.toList):∀ {i:Nat},i<=xs.size->Χ xs (slotAt xs i)=i
 | 0,_=>Jd up
 | i+1,h=>by
  have e:slotAt xs (i+1)=xs[i]+1:=by simp [slotAt,Array.getD,Nat.lt_of_succ_le h]
  rw [e];exact Je up h
theorem zcd {l:List Nat}(h:l.length<=1):Up l:=by
 match l,h with
 | [],_=>exact ir
 | [a],_=>exact oJ _ _
theorem zbF {α:Type}(xs:Array α) (p:Nat) (x:α):(iW xs p x).toList=xs.toList.take p++x::xs.toList.drop p:=by unfold iW;have e:xs.toList.take (xs.size - p+p)=xs.toList:=gU (by simp;omega);simp [Array.toList_extract,List.extract_eq_drop_take];exact gU (by simp)
theorem QM {xs:Array Nat}{j:Nat}(up:Up xs.toList) (hj:j ∉ xs.toList):Up (iW xs (Χ xs j) j).toList:=by
 obtain ⟨k1,k2,k3⟩:=uZ (j:=j) up;rw [zbF];have a1:∀ x∈xs.toList.take (Χ xs j),x < j:=λx hx=>by obtain ⟨i,hi,rfl⟩:=List.mem_take_iff_getElem.mp hx;simp only [bx];exact k2 i (by have:=hi;simp at this;omega) (by have:=hi;simp at this;omega)
 have a2:∀ x∈xs.toList.drop (Χ xs j),j < x:=λx hx=>by
  have hm:x∈xs.toList:=List.mem_of_mem_drop hx;obtain ⟨i,hi,rfl⟩:=List.mem_drop_iff_getElem.mp hx;simp only [bx] at hm ⊢;have hb:Χ xs j+i < xs.size:=by have:=hi;simp at this;omega
  have k:=k3 (Χ xs j+i) hb (by omega);rcases g8 j (xs[Χ xs j+i]'hb) with q | q
  ·exact q
  ·have e:xs[Χ xs j+i]'hb=j:=Nat.le_antisymm q k;rw [e] at hm;exact absurd hm hj
 refine List.pairwise_append.mpr ⟨mC (pX _ _) up,fU.mpr ⟨a2,mC (List.drop_sublist _ _) up⟩,λa ha b hb=>?_⟩;rcases Ε.mp hb with rfl | hb
 ·exact a1 a ha
 ·have:=a1 a ha;have:=a2 b hb;omega
theorem zab {t:Η}{j:Nat}(up:Up t.place.toList) (h:t.slot j=.empty):j ∉ t.place.toList:=λhm=>by
 obtain ⟨k1,k2,k3⟩:=uZ (j:=j) up;obtain ⟨i,hi,e⟩:=fH hm;simp only [bx] at e;have hi':i < t.place.size:=by simpa using hi
 have a:Χ t.place j<=i:=by
  rcases g8 i (Χ t.place j) with q | q
  ·have:=k2 i hi' q;omega
  ·exact q
 have b:i<=Χ t.place j:=by
  rcases g8 (Χ t.place j) i with q | q
  ·have:=k3 (Χ t.place j) (by omega) (Β _);have:=dG.mp up (Χ t.place j) i (by simp;omega) hi q;simp only [bx] at this;omega
  ·exact q
 have c:Χ t.place j=i:=by omega
 unfold Η.slot at h;dsimp only at h;rw [c,bV hi',e] at h;rw [if_pos (beq_self_eq_true _)] at h;cases h
noncomputable def txOf:Int×δ->Str
 | (_,.str x _)=>x
 | _=>⟨#[]⟩
section
variable {prog:Τ}{w:ϓ}
def Tx (w:ϓ) (e:Int×δ):Prop:=∃ x t,e=(hashStr w x,bB x t)
structure Sg (P:Int×δ->Prop) (w:ϓ) (h:Heap) (a:Addr) (led:Bool) (es:Array (Int×δ)) (ep:Nat) (tb:Η):Prop where
 at_:∃ o,h.get? a=some o/\o.ExactSet/\o.data=.set es ep tb
 tx:∀ e∈es.toList,P e
 fit:tb.fits es.size=true
 led_:tb.led=led
 pl:es.size=0\/tb.plain=false\/Up tb.place.toList
abbrev St (w:ϓ) (h:Heap) (a:Addr) (led:Bool) (es:Array (Int×δ)) (ep:Nat) (tb:Η):Prop:=Sg (Tx w) w h a led es ep tb
def Ts (w:ϓ) (h:Heap) (a:Addr) (led:Bool) (ks:List Str):Prop:=∃ es ep tb,St w h a led es ep tb/\(es.toList.map txOf).Perm ks
theorem St.el {h:Heap}{a:Addr}{led:Bool}{es:Array (Int×δ)}{ep:Nat}{tb:Η}(z:∀ e∈es.toList,Tx w e):ElemsOf (PySem.strKind prog w) es.toList:=λe he=>by obtain ⟨x,t,rfl⟩:=z e he;exact ⟨⟨x,by simp [PySem.strKind,nJ],rfl⟩,rfl⟩
theorem zdZ (t:Η) (es:Array (Int×δ)) (h:Int) (x:δ):(layNew t es h x).2.1.led=t.led:=by
 unfold layNew;split
 ·show (iD _ _).led=t.led
  unfold iD;split <;> rfl
 ·rfl
set_option tactic.hygienic true in
theorem J8 (t:Η) (es:Array (Int×δ)) (n:Nat):(relayAll t es n).2.1.led=t.led/\(t.plain=false->(relayAll t es n).2.1.plain=false):=by
 unfold relayAll;split
 ·rename_i t' o e
  have k:t'.led=t.led/\t'.plain=t.plain:=by unfold Η.relaid Η.laid at e;obtain ⟨ow,_,e2⟩:=ν.mp e;cases e2;exact ⟨rfl,rfl⟩
  dsimp only;split
  ·exact ⟨k.1,λh=>k.2.trans h⟩
  ·exact ⟨rfl,λ_=>rfl⟩
 ·exact ⟨rfl,λ_=>rfl⟩
theorem Yo {h:Heap}{a:Addr}{o:Obj}{es es':Array (Int×δ)}{ep:Nat}{t t':Η}(ho:h.get? a=some o) (hx:o.ExactSet) (hd:o.data=.set es ep t):
  ∃ u,(h.update a (Obj.putSet es' t')).get? a=some u/\u.ExactSet/\u.data=.set es' (ep+1) t':=by have k:=ϵ (Obj.putSet es' t') ho (by rw [putSet_of es' t' hd];rfl);rw [putSet_of es' t' hd] at k;exact ⟨_,k,hx,rfl⟩
noncomputable def ledW (w:ϓ):Bool:=!(w.params.followText "set-order")
noncomputable def set0 (w:ϓ):Obj:={ cls:=.type "set",dict:=none,data:=.set #[] 0 (.fresh 0 0 (ledW w)) }
theorem Ts.keep {h h':Heap}{a:Addr}{led:Bool}{ks:List Str}(t:Ts w h a led ks) (k:∀ o,h.get? a=some o->h'.get? a=some o):Ts w h' a led ks:=by obtain ⟨es,ep,tb,⟨⟨o,ho,r⟩,x1,x2,x3,x4⟩,pm⟩:=t;exact ⟨es,ep,tb,⟨⟨o,k o ho,r⟩,x1,x2,x3,x4⟩,pm⟩
theorem zc7 (a:δ) {Q₁:δ->μ->Prop}(h:Q₁ (.ref s.heap.objs.size) { s with heap:=s.heap.push (set0 w) }):
  gf (Ν prog w) A (.call (.builtin "set.__new__") ⟨[.type "set",a],[]⟩) (wants Q₁ E) s:=by
 refine codeAny_of_tree ?_;show Λ _ A.in1 (do nH "set.__new__" ⟨[.type "set",a],[]⟩;again (.builtin "set.__new__" ⟨[.type "set",a],[]⟩)) _ _ s
 refine ζ (cB (PySem.F.newCall_set_1 a) (θ ⟨mq n6 _,dZ PySem.F.entry_set_new ?_⟩));rw [dh n6 _];unfold ώ.«set.__new__» ώ.Frozenset.newClass;have hsub:=sub_set_self;obtain ⟨hp,g,d,tk,os⟩:=s;dsimp only
 wp_walk
 refine nC (θ ?_);dsimp only;simp only [newObj];exact ζ (wpAny_alloc (θ (θ h)))
structure Row (prog:Τ) (w:ϓ) (T:String) (l:Addr) (its:Array δ) (OK:Heap->Prop) (Sx:Addr->Nat->Heap->Prop) (itO:Obj):Prop where
 there:∀ h,OK h->∃ o,h.get? l=some o/\o.cls=.type T
 keep:∀ h h',OK h->(∀ o,h.get? l=some o->h'.get? l=some o)->OK h'
 it:∀ {A:ϙ}{E:δ->μ->Prop}{s:μ}{Q:δ->μ->Prop},OK s.heap->Q (.ref s.heap.objs.size) { s with heap:=s.heap.push itO }->Λ (Ν prog w) A (mG (.ref l)) Q E s
 wk:∀ {A:ϙ}(I:Addr),A.handled=none->l≠I->Walks prog w A I [I,l] [I] its.size (λi v=>its[i]?=some v) (Sx I)
 st:∀ h,OK h->Sx h.objs.size 0 (h.push itO)
 n1:isSubtype (.type T) (.type "set")=pure false
 n2:isSubtype (.type T) (.type "frozenset")=pure false
 n3:(ϗ T==ϗ "dict")=false
theorem rowL (l:Addr) (its:Array δ):Row prog w "list" l its (λh=>h.IsList l its) (λI i h=>h.IsListIter I l i/\h.IsList l its) { cls:=.type "list_iterator",data:=.fields #[.ref l,.int 0 0] } where
 there:=λh ⟨o,e,c,_⟩=>⟨o,e,c⟩
 keep:=λh h' ⟨o,e,r⟩ k=>⟨o,k o e,r⟩
 it:=λh q=>eY h q
 wk:=λI hh hn=>mX hh I l hn its
 st:=λh k=>⟨⟨_,Θ _ rfl,rfl,rfl⟩,k.push _⟩
 n1:=PySem.F.sub_list_set
 n2:=PySem.F.sub_list_frozenset
 n3:=by decide
theorem rowT (l:Addr) (its:Array δ):Row prog w "tuple" l its (λh=>h.IsTuple l its) (λI i h=>h.IsTupleIter I l i/\h.IsTuple l its) { cls:=.type "tuple_iterator",data:=.fields #[.ref l,.int 0 0] } where
 there:=λh ⟨o,e,c,_⟩=>⟨o,e,c⟩
 keep:=λh h' ⟨o,e,r⟩ k=>⟨o,k o e,r⟩
 it:=λh q=>mF h q
 wk:=λI hh hn=>Walks.tuple hh I l hn its
 st:=λh ⟨o,e,r⟩=>⟨⟨_,Θ _ rfl,rfl,rfl⟩,⟨o,η _ e,r⟩⟩
 n1:=by rw [lD];kernel_rfl
 n2:=by rw [lD];kernel_rfl
 n3:=by decide
theorem zat {T:String}{l:Addr}{its:Array δ}{OK:Heap->Prop}{Sx:Addr->Nat->Heap->Prop}{itO:Obj}{Z:Heap->Prop}{Q:δ->μ->Prop}(R:Row prog w T l its OK Sx itO) (hh:A.handled=none) (hl:OK s.heap)
  (hf:∀ (s1:μ) (R':Result->μ->Prop),(∀ b o,s.heap.get? b=some o->s1.heap.get? b=some o)->s1.heap.get? s.heap.objs.size=some (set0 w) ->
   Walks prog w A.in1.in1.in1 (s.heap.push (set0 w)).objs.size [(s.heap.push (set0 w)).objs.size,l] [(s.heap.push (set0 w)).objs.size] its.size (λi v=>its[i]?=some v) (Sx (s.heap.push (set0 w)).objs.size) ->
   s.heap.objs.size ∉ [(s.heap.push (set0 w)).objs.size,l]->Sx (s.heap.push (set0 w)).objs.size 0 s1.heap->(∀ s',Moved (s.heap.objs.size::[(s.heap.push (set0 w)).objs.size]) (λa b=>b=a) s1 s'->Z s'.heap->R' (.ok (.ret .none)) s') ->
   gf (Ν prog w) A.in1.in1 (.builtin "set.update.loop" ⟨[.ref s.heap.objs.size,.ref (s.heap.push (set0 w)).objs.size],[]⟩) R' s1)
  (h:∀ (h':Heap) (tk:Nat),Z h'->(∀ b o,s.heap.get? b=some o->h'.get? b=some o)->Q (.ref s.heap.objs.size) { s with heap:=h',toks:=tk }):
  Λ (Ν prog w) A (call (.type "set") [.ref l]) Q E s:=by
 obtain ⟨c,tl,hmro⟩:=bf.mro;have hmade:=bf.made;have hsub:=bf.sub;refine iJ (codeAny_of_tree ?_);show Λ _ _ (callAny (.type "set") _) _ _ _
 refine θ ⟨Code.quiet_builtin _ (by decide +kernel),dZ PySem.F.entry_type_call ?_⟩;rw [ϙ.under_plain (weight_type_call_type "set" [.ref l] []) rfl];have h1:=bf.notType;have h2:=bf.canCreate;have hct:=PySem.F.typeCall_set_1 (.ref l)
 repeat (any_goals (first | assumption | wp_step))
 refine cY (zc7 (.ref l) (E:=E) (Q₁:=λob s1=>ob=.ref s.heap.objs.size/\s1={ s with heap:=s.heap.push (set0 w) }) ⟨rfl,rfl⟩) λr s1 hr=>?_
 cases r with
 | error e=>exact hr
 | ok fl=>
  cases fl with
  | ret ob=>
   obtain ⟨rfl,rfl⟩:=hr;have hS:(s.heap.push (set0 w)).get? s.heap.objs.size=some (set0 w):=Θ _ rfl;have hT:dI { s with heap:=s.heap.push (set0 w) } (.ref s.heap.objs.size) "set":=⟨_,hS,rfl⟩
   have hli:=bf.init.lookup;have hbi:=bf.init.bind (.ref s.heap.objs.size)
   repeat (any_goals (first | assumption | wp_step))
   refine cY (codeAny_call_builtin (R:=wants (λr s2=>r=.none/\∃ h' tk,s2={ s with heap:=h',toks:=tk }/\Z h'/\∀ b o,s.heap.get? b=some o->h'.get? b=some o) E)
    bf.init.plain PySem.F.entry_set_init (check_set_init_1 hT ?_)) λr2 s2 hr2=>?_
   ·obtain ⟨ol,hol,hcl⟩:=R.there _ hl;have lt:=Δ hol;have hol':(s.heap.push (set0 w)).get? l=some ol:=η _ hol;have ok1:OK (s.heap.push (set0 w)):=R.keep _ _ hl λo e=>η _ e
    have k1:=R.n1;have k2:=R.n2;have k3:=R.n3;have hty:dI { s with heap:=s.heap.push (set0 w) } (.ref l) T:=⟨_,hol',hcl⟩
    unfold ώ.«set.__init__» noKeywords ώ.Frozenset.updateFrom;generalize hPI:mG=PI
    wp_walk
    subst hPI;have hh3:A.in1.in1.in1.handled=none:=by simp [hh]
    have sz:(s.heap.push (set0 w)).objs.size=s.heap.objs.size+1:=by rw [bO]
    have ne:l≠(s.heap.push (set0 w)).objs.size:=by rw [sz];exact Φ (eE lt)
    refine R.it (s:={ s with heap:=s.heap.push (set0 w) }) ok1 (ζ (wpAny_runValue (hf _ _ (λb o e=>η _ (η _ e)) (η _ hS) (R.wk _ hh3 ne) ?_ (R.st _ ok1) λs' m z=>?_)))
    ·rw [sz];intro hm;rcases Ε.mp hm with e | hm
     ·exact Φ (fj _) e
     ·rw [υ] at hm;exact cN lt hm
    ·skip
     obtain ⟨h',g',d',tk',os'⟩:=s';have e1:g'=s.gens:=m.gens;have e2:d'=s.drawn:=m.drawn;have e3:os'=s.os:=m.os;subst e1 e2 e3;refine θ (θ ⟨rfl,h',tk',rfl,z,λb o e=>?_⟩);have lb:=Δ e;refine m.heap b o ?_ (η _ (η _ e));rw [sz];intro hm;rcases Ε.mp hm with e | hm
     ·exact Φ lb e
     ·rw [υ] at hm;exact Φ (eE lb) hm
   ·cases r2 with
    | error e=>exact hr2
    | ok fl2=>
     cases fl2 with
     | ret r=>
      obtain ⟨rfl,h',tk,rfl,z,hk⟩:=hr2
      repeat (any_goals (first | assumption | wp_step))
      exact h _ _ z hk
     | _=>exact hr2.elim
  | _=>exact hr.elim
theorem zal {src:Source}{n:Nat}{Q:Nat->μ->Prop}(hn:n≠0) (q:∀ i d,i < n->Q i { s with drawn:=d }):Λ (Ν prog w) A (choose src n) Q E s:=by intro Γ p h;exact ⟨hn,q _ _ (Nat.mod_lt _ (Nat.pos_of_ne_zero hn))⟩
theorem Za {α:Type}:∀ (xs:List α) (i:Nat) (hi:i < xs.length),(xs[i]::xs.eraseIdx i).Perm xs
 | x::xs,0,_=>cT _
 | x::xs,i+1,hi=>(dC.swap _ _ _).trans ((Za xs i (by simpa using hi)).cons x)
theorem zez {α:Type}(n:Nat):∀ (xs:List α) (s:μ) {Q:List α->μ->Prop},xs.length=n->(∀ ys d,ys.Perm xs->Q ys { s with drawn:=d })->Λ (Ν prog w) A (drawOrder n xs) Q E s:=by
 induction n with
 | zero=>
  intro xs s Q h q;cases xs with
  | nil=>exact θ (q [] s.drawn (cT _))
  | cons x xs=>cases h
 | succ n ih=>
  intro xs s Q h q;cases xs with
  | nil=>cases h
  | cons x xs=>
   show Λ _ _ (choose .order (x::xs).length >>= _) _ _ _
   refine ζ (zal (by simp) λi d hi=>?_);rw [π hi];refine ζ (ih _ _ (by rw [ph,if_pos hi];simp at h;simp [h]) λys d' p=>θ ?_);refine q _ d' ((p.cons _).trans ?_);exact Za _ _ hi
end
theorem qU:Slot "set_iterator" "__next__" "set_iterator.__next__":=
 .of (owner:="set_iterator") (n:="__next__") (by rw [oA,iZ];kernel_rfl) (by decide +kernel) (by decide +kernel) (by decide +kernel)
  (by first | exact .inl (by decide +kernel) | exact .inr (by decide +kernel)) (by rw [lD];kernel_rfl)
theorem zbJ:entryFor table "set_iterator.__next__"=some ώ.«set_iterator.__next__»:=entryFor_of_fast (by kernel_rfl)
theorem zeY (a:δ):argsOk "set_iterator.__next__" ⟨[a],[]⟩:=by unfold argsOk;kernel_rfl
theorem WD:entryFor table "set.__iter__"=some ώ.«frozenset.__iter__»:=entryFor_alias (id':="frozenset.__iter__") (by kernel_rfl) rfl (by decide +kernel) (by kernel_rfl)
section
variable {prog:Τ}{w:ϓ}
theorem zc3 {P:Fin->μ->Prop}(hh:A.handled=none) (q:∀ (e:δ) (h':Heap),(∀ b o,s.heap.get? b=some o->h'.get? b=some o)->dI { s with heap:=h' } e "StopIteration"->E e { s with heap:=h' }):
  Λ (Ν prog w) A (do raiseNew (<- newExc (.type "StopIteration") []):Sem Fin) P E s:=by refine ζ ?_;simp only [newExc,newTuple];refine ζ (Ϯ ?_ (by size_fits));refine ζ (m:=firstArgMember _ _) (cB (a:=Κ) (by first | rfl | (simp only [firstArgMember];rfl)) ?_);refine Ϯ ?_ (by size_fits);simp only [raiseNew];refine ζ (wpAny_handled ?_);rw [hh];exact ζ (θ (wpAny_throw (q (.ref _) _ (λb o e=>η _ (η _ e)) ⟨_,Θ _ rfl,rfl⟩)))
theorem K6 {I:Addr}{Q:Option δ->μ->Prop}(hT:s.TypeIs (.ref I) "set_iterator")
  (h:Λ (Ν prog w) A.in1 (ώ.«set_iterator.__next__» ⟨[.ref I],[]⟩) (λf s'=>∃ x,f=.done (.ret x)/\Q (some x) s') (λe s'=>s'.TypeIs e "StopIteration"/\Q none s') s):Λ (Ν prog w) A (pyNext (.ref I)) Q E s:=by
 unfold pyNext;refine ζ (mj (aU (name:=lW "__next__") hT qU (aD qU hT zbJ (bc h (λf s' k=>?_) λe s' k=>?_) (zeY _))))
 ·obtain ⟨x,rfl,k⟩:=k;exact ⟨x,rfl,θ k⟩
 ·exact ζ (nA (T:="StopIteration") (b:=true) k.1 isSubtype_stop (θ k.2))
noncomputable def SI (f:δ) (i n ep:Nat) (a:Addr):Obj:={ cls:=.type "set_iterator",data:=.fields #[f,.int i 0,.ref a,.int n 0,.int ep 0] }
def Fst (w:ϓ) (h:Heap) (I a tp:Addr) (es:Array (Int×δ)) (ep:Nat) (tb:Η) (ord:List (Int×δ)) (i:Nat) (f:δ):Prop:=
 (w.params.followText "set-order"=true/\(∃ k:Nat,f=.int k 0)/\ord=(nD (w.params.setOrder a ep) es).toList) \/
 (w.params.followText "set-order"=false/\∃ (js:List Nat),f=.ref tp/\tp≠I/\(∃ o n,h.get? tp=some o/\o.data=.seq (js.map λj:Nat=>Ϟ j 0).toArray n)/\js.length=ord.length/\∀ (k:Nat) j,js[k]?=some j->es[j]?=ord[k]?) \/
 (w.params.followText "set-order"=false/\((!tb.plain&&decide (es.size > 1))=false/\Up tb.place.toList)/\tb.led=true/\ord=es.toList/\f=.int (slotAt tb.place i:Nat) 0)
theorem Ys {α:Type}(nx:Nat->Nat):∀ (n k:Nat) (l:List α) (out:Array α),l.length=n->(mW nx n k l out).toList.Perm (out.toList++l)
 | 0,k,[],out,_=>by simp [mW]
 | n+1,k,x::l,out,h=>by unfold mW;have hi:nx k % (x::l).length < (x::l).length:=Nat.mod_lt _ (by simp);rw [π hi];dsimp only;refine (Ys nx n (k+1) _ _ (by rw [ph,if_pos hi];simp at h;simp [h])).trans ?_;rw [pO,gn];exact (Za _ _ hi).append_left _
end
section
variable {P:Int×δ->Prop}{prog:Τ}{w:ϓ}{I a tp:Addr}{led:Bool}{es:Array (Int×δ)}{ep:Nat}{tb:Η}{ord:List (Int×δ)}{i:Nat}{f:δ}
structure Wk (P:Int×δ->Prop) (w:ϓ) (h:Heap) (I a tp:Addr) (led:Bool) (es:Array (Int×δ)) (ep:Nat) (tb:Η) (ord:List (Int×δ)) (i:Nat):Prop where
 ne:a≠I
 st:Sg P w h a led es ep tb
 it:∃ f,h.get? I=some (SI f i es.size ep a)/\Fst w h I a tp es ep tb ord i f
theorem j8 {h:Heap}{o:Obj}{vs:Array δ}{k:Nat}{x:δ}(ho:h.get? I=some { cls:=.type "set_iterator",data:=.fields vs }):
  (h.update I (aV (·.setIfInBounds k x))).get? I=some { cls:=.type "set_iterator",data:=.fields (vs.setIfInBounds k x) }:=
 ϵ _ ho rfl
theorem ZM {Q:Bool->μ->Prop}(q:Q (w.params.followText "set-order") s):Λ (Ν prog w) A setsByText Q E s:=ζ (nC (θ q))
theorem KZ {Q:Option (δ×Nat)->μ->Prop}{n:Nat}(st:Sg P w s.heap a led es ep tb) (c:w.params.followText "set-order"=true) (q:Q ((nD (w.params.setOrder a ep) es)[i]?.map λe=>(e.2,n)) s):Λ (Ν prog w) A (setNext a n i ep) Q E s:=by obtain ⟨⟨so,so1,so2,so3⟩,tx,fit,l1,pl⟩:=st;unfold setNext;refine ζ (dw so1 so3 fit (ζ (ZM ?_)));rw [c,if_pos rfl,if_neg (by simp)];unfold setWalk;refine ζ (ζ (dw so1 so3 fit (ζ (ZM ?_))));rw [c,if_pos rfl];exact ζ (nC (θ (θ q)))
theorem zcu {Q:Option (δ×Nat)->μ->Prop}{n:Nat}(st:Sg P w s.heap a led es ep tb) (c:w.params.followText "set-order"=false) (c2:(!tb.plain&&decide (es.size > 1))=false) (c3:tb.led=true)
  (q:Q (match es[Χ tb.place n]?,tb.place[Χ tb.place n]? with | some (_,x),some j=>some (x,j+1) | _,_=>none) s):Λ (Ν prog w) A (setNext a n i ep) Q E s:=by
 obtain ⟨⟨so,so1,so2,so3⟩,tx,fit,l1,pl⟩:=st;unfold setNext;refine ζ (dw so1 so3 fit (ζ (ZM ?_)));rw [c,if_neg (by simp)];show Λ _ _ (if (!tb.plain&&decide (es.size > 1))=true then _ else _) _ _ _
 rw [c2,if_neg (by decide)];refine ζ (cB (a:=()) ?_ (θ q));show (if (!tb.led&&!es.isEmpty)=true then unsupported "set:maker-not-led" else pure ())=pure ()
 rw [c3];rfl
theorem zbt {Q:δ->μ->Prop}{n:Nat}{x:Int×δ}(st:Sg P w s.heap a led es ep tb) (e:es[n]?=some x) (q:Q x.2 s):Λ (Ν prog w) A (setNextDrawn a n ep) Q E s:=by obtain ⟨⟨so,so1,so2,so3⟩,tx,fit,l1,pl⟩:=st;unfold setNextDrawn;refine ζ (dw so1 so3 fit ?_);dsimp only;rw [if_neg (by simp),e];exact θ q
theorem next_item {Q:Option δ->μ->Prop}{x:Int×δ}(k:Wk P w s.heap I a tp led es ep tb ord i) (hx:ord[i]?=some x)
  (q:∀ h',(∀ b o,b≠I->s.heap.get? b=some o->h'.get? b=some o)->Wk P w h' I a tp led es ep tb ord (i+1)->Q (some x.2) { s with heap:=h' }):Λ (Ν prog w) A (pyNext (.ref I)) Q E s:=by
 obtain ⟨ne,st,f,ho,fs⟩:=k;obtain ⟨⟨so,so1,so2,so3⟩,tx,fit,l1,pl⟩:=id st;refine K6 ⟨_,ho,rfl⟩ ?_;unfold ώ.«set_iterator.__next__»;refine ζ (cB (a:=(Ι I,[])) rfl (ζ (wpAny_fieldsOf ho rfl ?_)));dsimp only;refine ζ (lV so1 so3 fit ?_);rw [if_neg (by simp)];have keepS:∀ {h':Heap},(∀ b o,b≠I->s.heap.get? b=some o->h'.get? b=some o)->Sg P w h' a led es ep tb:=λkk=>⟨⟨so,kk a so ne so1,so2,so3⟩,tx,fit,l1,pl⟩
 have kk1:∀ {y:Nat}{z:δ}{h:Heap},(∀ b o,b≠I->s.heap.get? b=some o->h.get? b=some o)->∀ b o,b≠I->s.heap.get? b=some o->(h.update I (aV (·.setIfInBounds y z))).get? b=some o:=λhk b o hb e=>by rw [dJ _ _ _ _ hb];exact hk b o hb e
 have kk0:∀ b o,b≠I->s.heap.get? b=some o->s.heap.get? b=some o:=λ_ _ _ e=>e
 rcases fs with ⟨c1,⟨k,rfl⟩,c3⟩ | ⟨c1,js,rfl,c2,⟨o,n,c3,c4⟩,c5,c6⟩ | ⟨c1,c2,c3,c4,rfl⟩
 ·refine ζ (KZ (i:=i) (n:=k) (ep:=ep) st c1 ?_);rw [<- cU,<- c3,hx];dsimp only [gO];have e1:=j8 (o:=so) (k:=0) (x:=aK (k:Nat)) ho;refine ζ (Ϸ ho rfl (by simp) (ζ (Ϸ e1 rfl (by simp) (θ ⟨_,rfl,q _ (kk1 (kk1 kk0)) ⟨ne,keepS (kk1 (kk1 kk0)),_,?_,.inl ⟨c1,⟨k,rfl⟩,c3⟩⟩⟩))));rw [j8 (o:=so) e1];simp [SI,aK]
 ·refine ζ (lA c3 c4 ?_);have hj:∃ j,js[i]?=some j:=by
   have:i < js.length:=by rw [c5];exact (χ.mp hx).1
   exact ⟨_,π this⟩
  obtain ⟨j,hj⟩:=hj;dsimp only;rw [cj,iu,Ρ,hj];dsimp only [gO];refine ζ (zbt (n:=j) (ep:=ep) st (by rw [c6 i j hj];exact hx) (ζ (Ϸ ho rfl (by simp) (θ ⟨_,rfl,q _ (kk1 kk0) ⟨ne,keepS (kk1 kk0),_,?_,.inr (.inl ⟨c1,js,rfl,c2,⟨o,n,kk1 kk0 tp o c2 c3,c4⟩,c5,c6⟩)⟩⟩))));rw [j8 (o:=so) ho];simp [SI,aK]
 ·subst c4;have hi:i < es.size:=by have:=(χ.mp hx).1;rwa [ύ] at this
  have p1:tb.place.size=es.size:=by have f:=fit;unfold mO at f;simp only [ε,beq_iff_eq] at f;exact f.1
  have hi':i < tb.place.size:=by omega
  obtain ⟨x1,x2⟩:=x;refine ζ (zcu (n:=slotAt tb.place i) (i:=i) (ep:=ep) st c1 c2.1 c3 ?_);rw [qF c2.2 (cg hi'),<- cU,hx,bV hi'];dsimp only;have e1:=j8 (o:=so) (k:=0) (x:=aK (tb.place[i]+1:Nat)) ho;refine ζ (Ϸ ho rfl (by simp) (ζ (Ϸ e1 rfl (by simp) (θ ⟨_,rfl,q _ (kk1 (kk1 kk0)) ⟨ne,keepS (kk1 (kk1 kk0)),_,?_,.inr (.inr ⟨c1,c2,c3,rfl,rfl⟩)⟩⟩))));rw [j8 (o:=so) e1];simp [SI,aK,slotAt,Array.getD,hi']
theorem next_end {Q:Option δ->μ->Prop}(hh:A.handled=none) (k:Wk P w s.heap I a tp led es ep tb ord ord.length) (hp:ord.Perm es.toList)
  (q:∀ h',(∀ b o,b≠I->s.heap.get? b=some o->h'.get? b=some o)->Q none { s with heap:=h' }):Λ (Ν prog w) A (pyNext (.ref I)) Q E s:=by
 obtain ⟨ne,st,f,ho,fs⟩:=k;obtain ⟨⟨so,so1,so2,so3⟩,tx,fit,l1,pl⟩:=id st;have sz:ord.length=es.size:=by rw [hp.length_eq,ύ]
 refine K6 ⟨_,ho,rfl⟩ ?_;unfold ώ.«set_iterator.__next__»;refine ζ (cB (a:=(Ι I,[])) rfl (ζ (wpAny_fieldsOf ho rfl ?_)));dsimp only;refine ζ (lV so1 so3 fit ?_);rw [if_neg (by simp)];have kk1:∀ {y:Nat}{z:δ}{h:Heap},(∀ b o,b≠I->s.heap.get? b=some o->h.get? b=some o)->∀ b o,b≠I->s.heap.get? b=some o->(h.update I (aV (·.setIfInBounds y z))).get? b=some o:=λhk b o hb e=>by rw [dJ _ _ _ _ hb];exact hk b o hb e
 have kk0:∀ b o,b≠I->s.heap.get? b=some o->s.heap.get? b=some o:=λ_ _ _ e=>e
 have fin:∀ (h:Heap) (P:Fin->μ->Prop),(∀ b o,b≠I->s.heap.get? b=some o->h.get? b=some o)->Λ (Ν prog w) A.in1 (do raiseNew (<- newExc (.type "StopIteration") []):Sem Fin) P (λe s'=>s'.TypeIs e "StopIteration"/\Q none s') { s with heap:=h }:=λh P hk=>
  zc3 (s:={ s with heap:=h }) (by simpa using hh) λe h' k1 k2=>⟨k2,q h' λb o hb e=>k1 b o (hk b o hb e)⟩
 rcases fs with ⟨c1,⟨k,rfl⟩,c3⟩ | ⟨c1,js,rfl,c2,⟨o,n,c3,c4⟩,c5,c6⟩ | ⟨c1,c2,c3,c4,rfl⟩
 ·refine ζ (KZ (i:=ord.length) (n:=k) (ep:=ep) st c1 ?_);rw [<- cU,<- c3,bh (Β _)];dsimp only [Option.map_none];exact ζ (Ϸ ho rfl (by simp) (fin _ _ (kk1 kk0)))
 ·refine ζ (lA c3 c4 ?_);dsimp only;rw [cj,iu,Ρ,bh (by rw [c5];exact Β _)];dsimp only [Option.map_none];have e1:=j8 (o:=so) (k:=0) (x:=aK 0) ho;exact ζ (Ϸ ho rfl (by simp) (ζ (Ϸ e1 rfl (by simp) (fin _ _ (kk1 (kk1 kk0))))))
 ·subst c4;have ft:tb.place.size=es.size:=by have f:=fit;unfold mO at f;simp only [ε,beq_iff_eq] at f;exact f.1
  refine ζ (zcu (n:=slotAt tb.place es.toList.length) (i:=es.toList.length) (ep:=ep) st c1 c2.1 c3 ?_);have hb:es.size<=Χ tb.place (slotAt tb.place es.toList.length):=by rw [ύ,<- ft,qF c2.2 (Β _)];exact Β _
  rw [Array.getElem?_eq_none hb];dsimp only;exact ζ (Ϸ ho rfl (by simp) (fin _ _ (kk1 kk0)))
theorem Wk.keep {h h':Heap}(k:Wk P w h I a tp led es ep tb ord i) (kk:∀ b∈[I,a,tp],∀ o,h.get? b=some o->h'.get? b=some o):Wk P w h' I a tp led es ep tb ord i:=by
 obtain ⟨ne,⟨⟨so,so1,so2⟩,z1,z2,z3,z4⟩,f,ho,fs⟩:=k;refine ⟨ne,⟨⟨so,kk a (by simp) so so1,so2⟩,z1,z2,z3,z4⟩,f,kk _ (by simp) _ ho,?_⟩;rcases fs with c | ⟨c1,js,c2,c3,⟨o,n,c4,c5⟩,c6⟩ | c
 ·exact .inl c
 ·exact .inr (.inl ⟨c1,js,c2,c3,⟨o,n,kk _ (by simp) _ c4,c5⟩,c6⟩)
 ·exact .inr (.inr c)
set_option tactic.hygienic true in
theorem zeg {Q:δ->μ->Prop}(st:Sg P w s.heap a (ledW w) es ep tb) (hz:es.size<=sizeLine) (q:∀ (ord:List (Int×δ)) (I tp:Addr) (h':Heap) (d:Drawn),ord.Perm es.toList->(∀ b o,s.heap.get? b=some o->h'.get? b=some o)->s.heap.get? I=none->(tp=a\/s.heap.get? tp=none)->Wk P w h' I a tp (ledW w) es ep tb ord 0->Q (.ref I) { s with heap:=h',drawn:=d }):
  Λ (Ν prog w) A (mG (.ref a)) Q E s:=by
 obtain ⟨⟨so,so1,so2,so3⟩,tx,fit,l1,pl⟩:=id st;have hT:s.TypeIs (.ref a) "set":=⟨_,so1,so2.1⟩
 refine wpAny_pyIter_slot hT nZ (aD nZ hT WD ?_ (PySem.F.args_set_iter_1 _));unfold ώ.«frozenset.__iter__» ώ.Frozenset.slot0 ώ.Frozenset.sizeOf setDrawn;refine ζ (cB (a:=a) rfl (ζ (ζ (lV so1 so3 fit (θ ?_)))));refine ζ (ζ (dw so1 so3 fit (ζ (ZM (θ ?_)))));have nI:∀ {h:Heap},s.heap.objs.size<=h.objs.size->s.heap.get? h.objs.size=none:=λ{h} hl=>by
  cases e:s.heap.get? h.objs.size with
  | none=>rfl
  | some o=>exact absurd (Δ e) (Nat.not_lt.mpr hl)
 have na:∀ {h:Heap},s.heap.objs.size<=h.objs.size->a≠h.objs.size:=λ{h} hl e=>cA _ (Ω (e ▸ Δ so1) hl)
 have fin:∀ (f:δ) (tp:Addr) (ord:List (Int×δ)) (h:Heap) (d:Drawn),s.heap.objs.size<=h.objs.size->(∀ b o,s.heap.get? b=some o->h.get? b=some o)->ord.Perm es.toList->(tp=a\/s.heap.get? tp=none)->Fst w (h.push (SI f 0 es.size ep a)) h.objs.size a tp es ep tb ord 0 f ->
   Λ (Ν prog w) A.in1 (do ret (<- newFields "set_iterator" [f,aK 0,.ref a,aK es.size,aK (<- setEpoch a)])) (λf' s'=>∃ v,f'=.done (.ret v)/\∃ T u,s'.TypeIs v T/\typeLookup (.type T) (lW "__next__")=pure (some u)/\Q v s') E { s with heap:=h,drawn:=d }:=by intro f tp ord h d hl hk pm ht fs;refine ζ (wpAny_setEpoch_of (hk a so so1) so3 fit (ζ (Ϯ (θ ⟨_,rfl,"set_iterator",_,⟨_,Θ _ rfl,rfl⟩,qU.lookup,?_⟩))));refine q ord h.objs.size tp (h.push (SI f 0 es.size ep a)) d pm (λb o e=>η _ (hk b o e)) (nI hl) ht ⟨na hl,⟨⟨so,η _ (hk a so so1),so2,so3⟩,tx,fit,l1,pl⟩,f,Θ _ rfl,fs⟩
 cases c:w.params.followText "set-order" with
 | true=>
  show Λ _ _ (if (!true&&(!tb.plain&&decide (es.size > 1)))=true then _ else _) _ _ _
  rw [if_neg (by simp)];refine ζ (θ (fin (aK 0) a _ s.heap s.drawn (Β _) (λ_ _ e=>e) ?_ (.inl rfl) (.inl ⟨c,⟨0,rfl⟩,rfl⟩)));exact Ys _ _ _ _ _ (ύ ..)
 | false=>
  show Λ _ _ (if (!false&&(!tb.plain&&decide (es.size > 1)))=true then _ else _) _ _ _
  split
  ·rename_i g
   refine ζ (zez _ _ _ (ϭ ..) λjs d pj=>ζ (oU ?_ (by rw [ψ,pj.length_eq,ϭ];exact hz)));have lj:js.length=es.size:=by rw [pj.length_eq,ϭ]
   have jb:∀ j∈js,j < es.size:=λj hj=>Ϝ.mp (pj.mem_iff.mp hj)
   have om:∀ js:List Nat,(∀ j∈js,j < es.size)->(js.filterMap (es[·]?)).length=js.length/\∀ (k:Nat) (j:Nat),js[k]?=some j->es[j]?=(js.filterMap (es[·]?))[k]?:=by
    intro js
    induction js with
    | nil=>exact λ_=>⟨rfl,λk j h=>by simp at h⟩
    | cons x js ih=>
     intro hb;obtain ⟨h1,h2⟩:=ih λj hj=>hb j (ι _ hj)
     have hx:es[x]?=some (es[x]'(hb x ξ)):=bV _;rw [cD,hx];refine ⟨by simp [h1],λk j h=>?_⟩;cases k with
     | zero=>cases (ϕ h);rw [hx];rfl
     | succ k=>exact h2 k j h
   obtain ⟨o1,o2⟩:=om js jb;refine fin (.ref s.heap.objs.size) s.heap.objs.size (js.filterMap (es[·]?)) _ d (by rw [size_push'];exact iM _) (λb o e=>η _ e) ?_ (.inr (nI (Β _))) (.inr (.inl ⟨c,js,rfl,?_,⟨_,_,η _ (Θ _ rfl),rfl⟩,o1.symm,o2⟩))
   ·refine (pj.filterMap _).trans ?_;rw [show (λx=>es[x]?)=λi=>es[i]? from rfl,filterMap_getElem?_range]
   ·rw [size_push'];exact Φ (fj _)
  ·rename_i g
   refine ζ (θ (fin (aK 0) a es.toList s.heap s.drawn (Β _) (λ_ _ e=>e) (cT _) (.inl rfl) (.inr (.inr ⟨c,?_,?_,rfl,rfl⟩))))
   ·have ft:tb.place.size=es.size:=by have f:=fit;unfold mO at f;simp only [ε,beq_iff_eq] at f;exact f.1
    have g':(!tb.plain&&decide (es.size > 1))=false:=by rw [nu,gB] at g;exact gq.mpr g
    refine ⟨g',?_⟩;rcases pl with p | p | p
    ·exact zcd (by rw [ύ];omega)
    ·rw [p] at g';simp at g';exact zcd (by rw [ύ];omega)
    ·exact p
   ·rw [l1,ledW,c];rfl
end
theorem Vf:Slot "set_iterator" "__iter__" "set_iterator.__iter__":=
 .of (owner:="set_iterator") (n:="__iter__") (by rw [oA,iZ];kernel_rfl) (by decide +kernel) (by decide +kernel) (by decide +kernel)
  (by first | exact .inl (by decide +kernel) | exact .inr (by decide +kernel)) (by rw [lD];kernel_rfl)
theorem zaa:entryFor table "set_iterator.__iter__"=some ώ.«dict_keyiterator.__iter__»:=entryFor_alias (id':="dict_keyiterator.__iter__") (by kernel_rfl) rfl (by decide +kernel) (by kernel_rfl)
theorem zb8 (a:δ):argsOk "set_iterator.__iter__" ⟨[a],[]⟩:=by unfold argsOk;kernel_rfl
theorem zc8:typeLookup (.type "set") "__len__"=pure (some (.builtin "set.__len__")):=by rw [oA,iZ];kernel_rfl
section
variable {P:Int×δ->Prop}{prog:Τ}{w:ϓ}{I a tp:Addr}{led:Bool}{es:Array (Int×δ)}{ep:Nat}{tb:Η}{ord:List (Int×δ)}{i:Nat}{f:δ}
theorem zaQ (hh:A.handled=none) (hp:ord.Perm es.toList):Walks prog w A I [I,a,tp] [I] ord.length (λi v=>(ord.map (·.2))[i]?=some v) (λi h=>Wk P w h I a tp led es ep tb ord i) where
 sub:=λb hb=>by simp at hb;simp [hb]
 frame:=λ_ _ _ st hk=>st.keep hk
 item:=λi s Q E hi st hQ=>next_item (x:=ord[i]) st (π hi) λh' k st'=>hQ _ h' s.toks (by simp [hi]) st' λb o hb e=>k b o (by simpa using hb) e
 done:=λs Q E st hQ=>next_end hh st hp λh' k=>hQ h' s.toks λb o hb e=>k b o (by simpa using hb) e
 self:=λi s Q E st hQ=>by
  obtain ⟨f,ho,_⟩:=st.it;have hT:s.TypeIs (.ref I) "set_iterator":=⟨_,ho,rfl⟩
  refine wpAny_pyIter_slot hT Vf (aD Vf hT zaa ?_ (zb8 _));exact θ ⟨_,rfl,"set_iterator",_,hT,qU.lookup,hQ⟩
theorem WP {R:List δ->μ->Prop}(hh:A.handled=none) (st:Sg P w s.heap a (ledW w) es ep tb) (hz:es.size < 4096)
  (h:∀ (ord:List (Int×δ)) (h':Heap) (tk:Nat) (d:Drawn),ord.Perm es.toList->s.heap.objs.size<=h'.objs.size->(∀ b o,s.heap.get? b=some o->h'.get? b=some o)->R (ord.map (·.2)) { s with heap:=h',toks:=tk,drawn:=d }):Λ (Ν prog w) A (collect (.ref a)) R E s:=by
 obtain ⟨⟨so,so1,so2,so3⟩,z1,z2,z3,z4⟩:=id st;have hn:es.size<=sizeLine:=by rw [aJ];omega
 have lt:=Δ so1;unfold collect;refine ζ (wpAny_runValue (dZ PySem.F.entry_proto_collect ?_));rw [dh PySem.F.plain_proto_collect _];show Λ _ A.in1 (newList [] >>= λl=>again (.builtin "list.__iadd__" ⟨[l,.ref a],[]⟩)) _ _ s
 refine ζ (Ϯ (θ ⟨mq m9 _,dZ PySem.F.entry_list_iadd ?_⟩));rw [dh m9 _];show Λ _ A.in1 (cJ (.ref s.heap.objs.size) (.ref a) (.ref s.heap.objs.size)) _ _ _
 generalize h1e:s.heap.push { cls:=.type "list",data:=.seq ([]:List δ).toArray }=h1;have k1:∀ b o,s.heap.get? b=some o->h1.get? b=some o:=λb o e=>by rw [<- h1e];exact η _ e
 have hS:h1.get? s.heap.objs.size=some { cls:=.type "list",data:=.seq #[] }:=by rw [<- h1e];exact Θ _ rfl
 have st1:Sg P w h1 a (ledW w) es ep tb:=⟨⟨so,k1 a so so1,so2,so3⟩,z1,z2,z3,z4⟩
 have hT:∀ (h:Heap) (d:Drawn),(∀ b o,h1.get? b=some o->h.get? b=some o)->dI { s with heap:=h,drawn:=d } (.ref a) "set":=λh d k=>⟨so,k a so (k1 a so so1),so2.1⟩
 have nSa:s.heap.objs.size≠a:=cN lt;unfold cJ;refine ζ (cW (hT h1 s.drawn λ_ _ e=>e) ?_);have e1:lU (.ref s.heap.objs.size) (.ref a)=false:=by simp [lU,nSa]
 rw [if_neg (by rw [e1];decide)];refine ζ (zeg (s:={ s with heap:=h1 }) st1 hn λord I tp h2 d pm k2 nI nt wk=>?_);refine ζ (bC ?_);unfold ώ.List.listLengthHint;refine ζ (wpAny_specialOf (hT h2 d k2) zc8 ?_)
 (generalize hid:("set.__len__":String)=id0;wp_delta;rw [show splitId id0=some ("set","__len__") from by subst hid;decide +kernel];subst hid)
 refine ζ (nA (b:=true) (hT h2 d k2) sub_set_self ?_);rw [if_neg (by simp),if_pos (by decide +kernel)];refine ζ (cW (hT h2 d k2) (θ ?_));rw [if_pos (by decide +kernel)];have nIS:I≠s.heap.objs.size:=λe=>by rw [e] at nI;have nI:h1.get? _=none:=nI;rw [hS] at nI;cases nI
 have ntS:tp≠s.heap.objs.size:=λe=>by
  rcases nt with z | z
  ·exact nSa (e.symm.trans z)
  ·rw [e] at z;have z:h1.get? _=none:=z;rw [hS] at z;cases z
 have hSf:s.heap.objs.size ∉ [I,a,tp]:=λhm=>by
  rcases Ε.mp hm with z | hm
  ·exact nIS z.symm
  ·rcases Ε.mp hm with z | hm
   ·exact nSa z
   ·exact ntS (υ.mp hm).symm
 have hS2:=k2 _ _ hS;have hS3:=ϵ (bH (·.push Κ)) hS2 rfl;have hS4:=ϵ (bH (·.pop)) hS3 rfl;refine ζ (cH (ζ ?_));unfold ώ.List.listTouch;refine ζ (gZ hS2 rfl (gZ hS3 rfl ?_ (by rw [aJ];decide) (by rw [aJ];decide)) (by rw [aJ];decide) (by rw [aJ];decide));have kk:∀ b o,b≠s.heap.objs.size->h2.get? b=some o->((h2.update s.heap.objs.size (bH (·.push Κ))).update s.heap.objs.size (bH (·.pop))).get? b=some o:=λb o hb e=>by rw [dJ _ _ _ _ hb,dJ _ _ _ _ hb];exact e
 refine θ ⟨mq PySem.F.plain_extend_loop _,codeAny_extend_loopS (zaQ (led:=ledW w) (es:=es) (ep:=ep) (tb:=tb) (tp:=tp) (a:=a) (by simpa using hh) pm).toS (by rw [pm.length_eq,ύ];exact hn) s.heap.objs.size hSf _ ord.length 0 _ #[] _ rfl (ϴ _)
  (wk.keep λb hb o e=>kk b o (λz=>hSf (z ▸ hb)) e) hS4 (ItemsOf.nil _) λs' acc c m hS' hacc=>?_⟩
 refine ζ (wpAny_load hS' (θ ?_));have ea:acc.toList=ord.map (·.2):=by
  apply p6;intro j;by_cases hj:j < acc.size
  ·rw [cU,bV hj,hacc.2 j _ (bV hj)]
  ·rw [bh (by rw [ύ];omega),bh (by rw [ψ,<- hacc.1];omega)]
 obtain ⟨h',g',d',tk',os'⟩:=s';have g1:g'=s.gens:=m.gens;have g2:d'=d:=m.drawn;have g3:os'=s.os:=m.os;subst g1 g2 g3;rw [ea];refine h ord h' tk' d' pm ?_ λb o e=>?_
 ·have:=Δ hS';exact cg this
 ·have hb:b≠s.heap.objs.size:=Φ (Δ e);refine m.heap b o (λhm=>?_) (kk b o hb (k2 b o (k1 b o e)));rcases Ε.mp hm with z | hm
  ·exact hb z
  ·rw [υ.mp hm] at e;have nI:h1.get? I=none:=nI;rw [k1 _ _ e] at nI;cases nI
end
noncomputable def ixOf:Int×δ->Int
 | (_,.int x _)=>x
 | _=>0
def Ix (e:Int×δ):Prop:=∃ x t,e=(hashInt x,Ϟ x t)
def Pl (t:Η):Prop:=t.plain=false\/Up t.place.toList/\t.dummies=#[]
theorem Pl.pl {t:Η}{n:Nat}(h:Pl t):n=0\/t.plain=false\/Up t.place.toList:=.inr (h.imp id And.left)
theorem Vo {t:Η}{hs:Nat->Int}{h:Int}(hd:t.dummies=#[]) {j:Nat}{d:Option Nat}:∀ (f:Nat) (p:Η.Probe),p.dummy=none->mY t hs h f p=some (.empty j d)->t.slot j=.empty/\d=none
 | 0,p,_,e=>nomatch e
 | f+1,p,hp,e=>by
  have ad:(t.advance p).dummy=none:=by
   unfold Η.advance;split
   ·exact hp
   ·exact hp
  unfold mY at e;rcases zaZ (j:=p.j) hd with q | ⟨i,q⟩
  ·rw [q] at e;cases e;exact ⟨q,hp⟩
  ·rw [q] at e;dsimp only at e;split at e
   ·cases e
   ·exact Vo hd f _ ad e
theorem uJ (t:Η) (n:Nat):Pl (t.standIn n):=.inl rfl
theorem zje {t:Η}(h:Pl t) (n:Nat):Pl (t.orStandIn n):=by
 unfold iD;split
 ·exact h
 ·exact uJ _ _
set_option tactic.hygienic true in
theorem zgI {t:Η}(es:Array (Int×δ)) (h:Int) (x:δ) (hp:Pl t):Pl (layNew t es h x).2.1:=by
 unfold layNew;split
 ·rename_i sl wd e
  refine zje ?_ _;rcases hp with q | ⟨up,hd⟩
  ·exact .inl q
  unfold Η.freeSlot at e;split at e
  ·rename_i j d e2
   obtain ⟨f1,rfl⟩:=Vo hd _ _ rfl e2;cases e;refine .inr ⟨QM up (zab up f1),?_⟩;show (if m8 t.dummies j then _ else t.dummies)=_
   rw [hd,QX];rfl
  ·cases e
 ·exact uJ _ _
set_option tactic.hygienic true in
theorem za4 (t:Η) (es:Array (Int×δ)) (n:Nat):Pl (relayAll t es n).2.1:=by
 unfold relayAll;split
 ·rename_i t' o e
  dsimp only;split
  ·unfold Η.relaid Η.laid at e;obtain ⟨ow,_,e2⟩:=ν.mp e;cases e2;refine .inr ⟨?_,rfl⟩;show Up (bM _ _)
   unfold Up;rw [List.map_filterMap,List.pairwise_filterMap];refine cz.imp ?_ oM;intro a b hab x hx y hy;obtain ⟨z,h1,h2⟩:=ο.mp hx;obtain ⟨z',h3,h4⟩:=ο.mp h1;obtain ⟨u,h5,h6⟩:=ο.mp hy;obtain ⟨u',h7,h8⟩:=ο.mp h5;subst h2 h4 h6 h8;exact hab
  ·exact uJ _ _
 ·exact uJ _ _
noncomputable def addI (ks:List Int) (x:Int):List Int:=if x∈ks then ks else ks++[x]
section
variable {prog:Τ}{w:ϓ}
def Ti (w:ϓ) (h:Heap) (a:Addr) (led:Bool) (ks:List Int):Prop:=∃ es ep tb,Sg Ix w h a led es ep tb/\Pl tb/\(es.toList.map ixOf).Perm ks
theorem zbH {x:Int}:∀ {l:List (Int×δ)},(∀ e∈l,Ix e)->((l.findIdx? λe=>(bw prog w).is x e.2).isSome=true ↔ x∈l.map ixOf):=by
 intro l h;rw [List.findIdx?_isSome,bN,Ϲ];constructor
 ·rintro ⟨e,h1,h2⟩;obtain ⟨y,t,rfl⟩:=h e h1;exact ⟨_,h1,by simpa [bw,fY,ixOf] using h2⟩
 ·rintro ⟨e,h1,h2⟩;obtain ⟨y,t,rfl⟩:=h e h1;exact ⟨_,h1,by simpa [bw,fY,ixOf] using h2⟩
theorem add_int {a:Addr}{led:Bool}{ks:List Int}{x:Int}{t:Tok}{Q:Bool->μ->Prop}(hS:Ti w s.heap a led ks) (hn:ks.length+1 < 4096)
  (q:∀ (b:Bool) (h':Heap),ϩ a s.heap h'->Ti w h' a led (addI ks x)->Q b { s with heap:=h' }):Λ (Ν prog w) A (setAddHashed a (.int x t) (hashInt x)) Q E s:=by
 obtain ⟨es,ep,tb,⟨⟨o,ho,hx,hd⟩,tx,fit,l1,pl⟩,pq,pm⟩:=hS;have hel:ElemsOf (bw prog w) es.toList:=λe he=>by obtain ⟨x,t,rfl⟩:=tx e he;exact ⟨⟨x,by simp [bw,fY],rfl⟩,rfl⟩
 have sz:es.size=ks.length:=by rw [<- ύ,<- pm.length_eq,ψ]
 have key:(bw prog w).is x (.int x t)=true:=by simp [bw,fY]
 unfold setAddHashed oW;refine bC (ζ (dw ho hd fit ?_));dsimp only;rw [byScan_of (knd:=bw prog w) rfl (by rw [sz];show _ < 4096;omega) hel];rw [if_pos rfl];unfold setAddByScan;refine ζ (ζ (cH (ζ (wpAny_setScan_of (knd:=bw prog w) (k:=x) key ho hd fit hel ?_))));have fi:=zbH (prog:=prog) (w:=w) (x:=x) tx;cases hr:List.findIdx? (λe=>(bw prog w).is x e.2) es.toList with
 | some j=>
  rw [hr] at fi;have m:x∈ks:=pm.mem_iff.mp (fi.mp rfl);refine θ (θ ?_);have k:=q false s.heap (nM a s.heap) ⟨es,ep,tb,⟨⟨o,ho,hx,hd⟩,tx,fit,l1,pl⟩,pq,by rw [addI,if_pos m];exact pm⟩;exact k
 | none=>
  rw [hr] at fi;have m:x ∉ ks:=λm=>by cases fi.mpr (pm.mem_iff.mpr m)
  dsimp only;have p1:=layNew_perm tb es (hashInt x) (.int x t);have p2:=layNew_fits tb es (hashInt x) (.int x t);have p3:=zdZ tb es (hashInt x) (.int x t);have p4:=zgI es (hashInt x) (.int x t) pq;show Λ _ _ (match layNew tb es (hashInt x) (.int x t) with | (es,t,wd,gave)=>_) _ _ _
  generalize layNew tb es (hashInt x) (.int x t)=L at p1 p2 p3 p4 ⊢;obtain ⟨e1,t1,wd,gv⟩:=L;dsimp only at p1 p2 p3 p4 ⊢;rw [pO] at p1;have tx1:∀ e∈e1.toList,Ix e:=λe he=>by
   rcases ϋ.mp (p1.mem_iff.mp he) with he | he
   ·exact tx e he
   ·rw [υ] at he;exact ⟨x,t,he⟩
  have sz1:e1.size=ks.length+1:=by rw [<- ύ,p1.length_eq,Ξ,ύ,sz];rfl
  have pm1:(e1.toList.map ixOf).Perm (addI ks x):=by rw [addI,if_neg m];refine (p1.map ixOf).trans ?_;rw [ak];exact pm.append (cT _)
  have tail:∀ (t2:Η) (Q:Bool->μ->Prop),t2.fits e1.size=true->t2.led=led->Pl t2->(∀ (h':Heap),ϩ a s.heap h'->Ti w h' a led (addI ks x)->Q true { s with heap:=h' }) ->
    Λ (Ν prog w) A (do
     lB a e1 t2
     if (!wd&&t2.tooFull)=true then
      match relayAll t2 e1 (cu e1.size) with
      | (es,t,gave)=>do
       (match gave with | true=>rule "set.scan.the-table-gave-way" | false=>pure ())
       lB a es t
       pure (some true)
     else pure (some true)) (λr s'=>∃ b,r=some b/\Q b s') E s:=λt2 Q f2 l2 q2 q=>by
   refine ζ (wpAny_storeSet_of ho hd ?_ (by rw [sz1,aJ];omega));obtain ⟨u,hu,hux,hud⟩:=Yo (es':=e1) (t':=t2) ho hx hd;split
   ·have r1:=relayAll_perm t2 e1 (cu e1.size);have r2:=relayAll_fits t2 e1 (cu e1.size);have r3:=J8 t2 e1 (cu e1.size);have r4:=za4 t2 e1 (cu e1.size);generalize relayAll t2 e1 (cu e1.size)=R at r1 r2 r3 r4 ⊢;obtain ⟨e2,t3,g2⟩:=R;dsimp only at r1 r2 r3 r4 ⊢;have sz2:e2.size=e1.size:=by rw [<- ύ,r1.length_eq,ύ]
    obtain ⟨v,hv,hvx,hvd⟩:=Yo (es':=e2) (t':=t3) hu hux hud;have fin:Λ (Ν prog w) A (do lB a e2 t3;pure (some true)) (λr s'=>∃ b,r=some b/\Q b s') E { s with heap:=s.heap.update a (Obj.putSet e1 t2) }:=
     ζ (wpAny_storeSet_of hu hud (θ ⟨true,rfl,q _ ((cV _ a _).trans (cV _ a _))
      ⟨e2,_,t3,⟨⟨v,hv,hvx,hvd⟩,λe he=>tx1 e (r1.mem_iff.mp he),r2,r3.1.trans l2,r4.pl⟩,r4,(r1.map ixOf).trans pm1⟩⟩) (by rw [sz2,sz1,aJ];omega))
    cases g2 with
    | true=>exact ζ (cH fin)
    | false=>exact ζ (θ fin)
   ·exact θ ⟨true,rfl,q _ (cV _ a _) ⟨e1,_,t2,⟨⟨u,hu,hux,hud⟩,tx1,f2,l2,q2.pl⟩,q2,pm1⟩⟩
  have go:∀ (t2:Η),t2.fits e1.size=true->t2.led=led->Pl t2->Λ (Ν prog w) A (do
     lB a e1 t2
     if (!wd&&t2.tooFull)=true then
      match relayAll t2 e1 (cu e1.size) with
      | (es,t,gave)=>do
       (match gave with | true=>rule "set.scan.the-table-gave-way" | false=>pure ())
       lB a es t
       pure (some true)
     else pure (some true)) (λr s'=>Λ (Ν prog w) A (match r with | some added=>pure added | none=>oW a (.int x t) (hashInt x) 99999) Q E s') E s:=λt2 f l p=>
   bc (tail t2 (λb s'=>Q b s') f l p λh' a1 a2=>q true h' a1 a2) (λr s' ⟨b,e,k⟩=>by rw [e];exact θ k) λ_ _ e=>e
  have mid:Λ (Ν prog w) A (do
     let byValue <- if t1.plain then hashByValue 8 (.int x t) else pure true
     let t2:=if byValue then t1 else { t1 with plain:=false }
     lB a e1 t2
     if (!wd&&t2.tooFull)=true then
      match relayAll t2 e1 (cu e1.size) with
      | (es,t,gave)=>do
       (match gave with | true=>rule "set.scan.the-table-gave-way" | false=>pure ())
       lB a es t
       pure (some true)
     else pure (some true)) (λr s'=>Λ (Ν prog w) A (match r with | some added=>pure added | none=>oW a (.int x t) (hashInt x) 99999) Q E s') E s:=by
   cases hp:t1.plain with
   | true=>
    rw [if_pos rfl];refine ζ (θ ?_);exact go t1 p2 (p3.trans l1) p4
   | false=>
    rw [if_neg (by simp)];refine ζ (θ ?_);exact go t1 p2 (p3.trans l1) p4
  cases gv with
  | true=>exact ζ (cH mid)
  | false=>exact ζ (θ mid)
theorem ti0 {h:Heap}{a:Addr}(ho:h.get? a=some (set0 w)):Ti w h a (ledW w) []:=
 ⟨#[],0,_,⟨⟨_,ho,⟨rfl,rfl,rfl⟩,rfl⟩,(λe he=>nomatch he),rfl,rfl,.inl rfl⟩,.inr ⟨ir,rfl⟩,cT _⟩
theorem Ti.keep {h h':Heap}{a:Addr}{led:Bool}{ks:List Int}(t:Ti w h a led ks) (k:∀ o,h.get? a=some o->h'.get? a=some o):Ti w h' a led ks:=by obtain ⟨es,ep,tb,⟨⟨o,ho,r⟩,x1,x2,x3,x4⟩,pm⟩:=t;exact ⟨es,ep,tb,⟨⟨o,k o ho,r⟩,x1,x2,x3,x4⟩,pm⟩
noncomputable def Vq (ks:List Int):List Int:=ks.foldl addI []
theorem ze3 (ks:List Int) (x:Int):(addI ks x).length<=ks.length+1:=by unfold addI;split <;> simp
theorem zbI {R:Result->μ->Prop}{I:Addr}{fp wr:List Addr}{G:Array GenState->Array GenState->Prop}{n:Nat}{P:Nat->δ->Prop}{Sx:Nat->μ->Prop}
  (W:WalksS prog w A.in1 I fp wr G n P Sx) (S:Addr) (hS:S ∉ fp) {led:Bool}{val:List Int}(hv:val.length=n) (hP:∀ i v,P i v->∀ x,val[i]?=some x->∃ t,v=.int x t) (hb:n+1 < 4096):
  ∀ (k:Nat) (ks:List Int) (s:μ),k<=n->ks.length<=n - k->Sx (n - k) s->Ti w s.heap S led ks ->
   (∀ s',Moved (S::wr) G s s'->Ti w s'.heap S led ((val.drop (n - k)).foldl addI ks)->R (.ok (.ret .none)) s') ->
   gf (Ν prog w) A (.builtin "set.update.loop" ⟨[.ref S,.ref I],[]⟩) R s:=by
 have nw:S ∉ wr:=λh=>hS (W.sub _ h)
 have sub:∀ b∈wr,b∈S::wr:=λb hb=>ι _ hb
 intro k
 induction k with
 | zero=>
  intro ks s _ _ st hs r;refine dZ gA ?_;rw [dh cO _];refine ζ (W.done s _ _ st λs' m=>θ (r s' (m.mono sub) ?_));rw [oN (by omega)];exact hs.keep λo e=>m.heap S o nw e
 | succ k ih=>
  intro ks s hk hl st hs r;obtain ⟨x,hx⟩:∃ x,val[n - (k+1)]?=some x:=⟨val[n - (k+1)]'(by omega),π _⟩
  have dr:val.drop (n - (k+1))=x::val.drop (n - k):=by rw [dH (by omega),show n - (k+1)+1=n - k by omega];rw [π (by omega)] at hx;rw [ϕ hx]
  refine dZ gA ?_;rw [dh cO _];refine ζ (W.item _ s _ _ (by omega) st λv s' hp st' m=>?_);obtain ⟨t,rfl⟩:=hP _ v hp x hx;have hs':=hs.keep (h':=s'.heap) λo e=>m.heap S o nw e
  refine ζ (bC ?_);unfold setAdd;refine bC (ζ (wpAny_pyHash_int (k:=x) (add_int (s:={ s' with toks:=s'.toks+1 }) hs' (by omega) λb h' sb hs2=>?_)));rw [show n - (k+1)+1=n - k by omega] at st';refine θ ⟨mq cO _,ih (addI ks x) _ (by omega) (by have:=ze3 ks x;omega) (W.frame _ s' _ _ st' (iM _) λb hb o e=>?_) hs2 λs2 m2 z=>?_⟩
  ·rw [sb.2 b (λh:b=S=>hS (by rw [<- h];exact hb))];exact e
  ·refine r s2 (Moved.trans W.gtrans ((m.mono sub).then_heap (iM _) λb o hb e=>?_) m2) (by rw [dr];exact z);rw [sb.2 b (λh:b=S=>hb (by rw [h];exact ξ))];exact e
theorem zar {T:String}{l:Addr}{its:Array δ}{OK:Heap->Prop}{Sx:Addr->Nat->Heap->Prop}{itO:Obj}{val:List Int}{Q:δ->μ->Prop}(R:Row prog w T l its OK Sx itO) (hh:A.handled=none) (hl:OK s.heap)
  (hv:val.length=its.size) (hP:∀ (i:Nat) (v:δ),its[i]?=some v->∀ x,val[i]?=some x->∃ t,v=.int x t) (hb:its.size+1 < 4096)
  (h:∀ (h':Heap) (tk:Nat),Ti w h' s.heap.objs.size (ledW w) (Vq val)->(∀ b o,s.heap.get? b=some o->h'.get? b=some o)->Q (.ref s.heap.objs.size) { s with heap:=h',toks:=tk }):
  Λ (Ν prog w) A (call (.type "set") [.ref l]) Q E s:=
 zat (Z:=λh'=>Ti w h' s.heap.objs.size (ledW w) (Vq val)) R hh hl (λs1 R' _ hS wk no st fin=>zbI (led:=ledW w) (val:=val) wk.toS s.heap.objs.size no hv hP hb its.size [] _ (Β _) (ϴ _) (by rw [Nat.sub_self];exact st) (ti0 hS) λs' m z=>fin s' m (by rw [Nat.sub_self,List.drop_zero] at z;exact z)) h
noncomputable def intO:bJ:=⟨Int,λx y=>decide (x < y),λx=>by simp,λx y z h k=>by simp at *;omega,λx y z h=>by simp at *;omega,λx y h k=>by simp at *;omega⟩
noncomputable def intV:δ->Int
 | .int x _=>x
 | _=>0
def IsIx (v:δ):Prop:=∃ x t,v=.int x t
theorem lt_int {G:bI->Prop}(hg:∀ x,G x->IsIx x.1):LtOk intO (λx=>intV x.1) G oneType' (Ν prog w) A E s:=by intro x y st Q gx gy hk q;obtain ⟨a,t,e1⟩:=hg x gx;obtain ⟨b,u,f1⟩:=hg y gy;rw [lt'_eq];refine Ϫ (wpS_get ?_);have q:Q (some (decide (intV x.1 < intV y.1))) st:=q;rw [e1,f1] at q;rw [hk,e1,f1];exact Ϫ (wpS_lift (mj (by rw [PyProof.Rows.keyLt'_oneType];exact oneLt_int ⟨rfl,aZ q⟩)))
theorem zbD {vs:List δ}(h2:2<=vs.length) (hv:∀ v∈vs,IsIx v) {Q:lE->μ->Prop}(q:Q oneType' s):Λ (Ν prog w) A (keyKind' vs.toArray) Q E s:=
 W.kas_kind (T:=.type "int") h2 (λv hm=>by
  obtain ⟨x,t,rfl⟩:=hv v hm
  exact λ_ _ _ _ _ q=>θ q) (by decide +kernel) (by decide +kernel) q
theorem zaX {a:Addr}{vs:List δ}{n:Nat}{P:Fin->μ->Prop}(ho:s.heap.get? a=some (cX "list" vs.toArray n)) (hv:∀ v∈vs,IsIx v) (h128:vs.length < 64)
  (h:∀ out:Array δ,uf intO intV vs out.toList->P (.done (.ret .none)) { s with heap:=iK s.heap a vs out }):Λ (Ν prog w) A (ώ.«list.sort» ⟨[.ref a],[]⟩) P E s:=by refine zaY (O:=intO) (kz:=intV) (kd:=oneType') ho h128 (λh' h2 kp=>⟨λQ q=>zbD (s:={ s with heap:=h' }) h2 hv q,lt_int λx hx=>?_⟩) h;obtain ⟨v,hm,rfl⟩:=hx;exact hv v hm
theorem zeq {vs:List δ}{Q:δ->μ->Prop}(hv:∀ v∈vs,IsIx v) (h128:vs.length < 64)
  (h:∀ out:Array δ,uf intO intV vs out.toList->Q (.ref s.heap.objs.size) { s with heap:=iK (s.heap.push (cX "list" vs.toArray 0)) s.heap.objs.size vs out }):
  Λ (Ν prog w) A (do
   let l <- newList vs
   let _ <- gR [l] (call (.builtin "list.sort") [l])
   ret l) (λf s'=>∃ v,f=.done (.ret v)/\Q v s') E s:=by
 have hsl:vs.length<=sizeLine:=by rw [aJ];omega
 refine ζ (wpAny_newList ?_ (by simpa using hsl));have e2:(s.heap.push (cX "list" vs.toArray 0)).get? s.heap.objs.size=some (cX "list" vs.toArray 0):=Θ _ rfl;refine ζ (bC (aD slot_list_sort ⟨_,e2,rfl⟩ entry_list_sort (zaX (s:={ s with heap:=s.heap.push (cX "list" vs.toArray 0) }) e2 hv h128 λout k=>⟨_,rfl,θ ⟨_,rfl,h out k⟩⟩) (args_list_sort _)))
theorem X4 {a:Addr}{es:Array (Int×δ)}{ep:Nat}{tb:Η}{Q:δ->μ->Prop}(hh:A.handled=none) (st:Sg Ix w s.heap a (ledW w) es ep tb) (h128:es.size < 64)
  (h:∀ (vs:List δ) (out:Array δ) (h':Heap) (tk:Nat) (d:Drawn),vs.Perm (es.toList.map (·.2))->uf intO intV vs out.toList->s.heap.objs.size<=h'.objs.size->(∀ b o,s.heap.get? b=some o->h'.get? b=some o) ->
   Q (.ref h'.objs.size) { s with heap:=iK (h'.push (cX "list" vs.toArray 0)) h'.objs.size vs out,toks:=tk,drawn:=d }):
  Λ (Ν prog w) A (call (.builtin "sorted") [.ref a]) Q E s:=by
 refine Calls.call_function_entry kind_sorted plain_sorted entry_sorted (args_sorted1 _) ?_;unfold ώ.«sorted»;refine ζ (m:=checkCount "sorted" 1 1 _) (θ (ζ (WP (by simpa using hh) st (by omega) λord h' tk d pm hg hk=>?_)));refine zeq (s:={ s with heap:=h',toks:=tk,drawn:=d }) (λv hv=>?_) (by rw [ψ,pm.length_eq,ύ];exact h128) λout k=>h _ out h' tk d (pm.map _) k hg hk
 obtain ⟨e,he,rfl⟩:=Ϲ.mp hv;obtain ⟨x,t,rfl⟩:=st.tx e (pm.mem_iff.mp he);exact ⟨x,t,rfl⟩
abbrev Tk (prog:Τ) (w:ϓ) (h:Heap) (k:List Int) (b:Addr):Prop:=IsTupleKey (bw prog w) h k b
theorem Tk.keep {h h':Heap}{k:List Int}{b:Addr}(x:Tk prog w h k b) (kk:∀ o,h.get? b=some o->h'.get? b=some o):Tk prog w h' k b:=by obtain ⟨o,its,n,ho,r⟩:=x;exact ⟨o,its,n,kk o ho,r⟩
def Sv (w:ϓ) (h:Heap) (a:Addr) (led:Bool) (bs:List Addr):Prop:=
 ∃ es ep tb,Sg (λ_=>True) w h a led es ep tb/\(es.toList.map (·.2)).Perm (bs.map Ι)/\tb.dummies=#[]/\Up tb.place.toList/\(tb.mask=7/\es.size<=4\/es.size=5)
theorem Sv.keep {h h':Heap}{a:Addr}{led:Bool}{bs:List Addr}(t:Sv w h a led bs) (k:∀ o,h.get? a=some o->h'.get? a=some o):Sv w h' a led bs:=by obtain ⟨es,ep,tb,⟨⟨o,ho,r⟩,x1,x2,x3,x4⟩,pm⟩:=t;exact ⟨es,ep,tb,⟨⟨o,k o ho,r⟩,x1,x2,x3,x4⟩,pm⟩
end
open PySem PyProof.Rows PySem.W
section
variable {prog:Τ}{w:ϓ}
def Raw (h:Heap) (d:Addr) (es:Array nQ) (ep:Nat):Prop:=∃ o,h.get? d=some o/\o.ExactDict/\o.data=.dict es ep
theorem Raw.typeIs {d:Addr}{ep:Nat}{es:Array nQ}(hm:Raw s.heap d es ep):s.TypeIs (.ref d) "dict":=let ⟨o,ho,hc,_⟩:=hm;⟨o,ho,hc.1⟩
theorem Raw.keep {h h':Heap}{d:Addr}{ep:Nat}{es:Array nQ}(hm:Raw h d es ep) (k:∀ o,h.get? d=some o->h'.get? d=some o):Raw h' d es ep:=let ⟨o,ho,r⟩:=hm;⟨o,k o ho,r⟩
end
end TS
namespace EV
open PySem L2
theorem non (h:false=true):false=true:=h
theorem nobE {p:Prop}(h:false=true):p:=nomatch h
noncomputable def LIM:Nat:=1000000
noncomputable def fits (n:Nat):Bool:=n<=LIM
noncomputable def zX (i:Int):Bool:=decide (-(2 ^ 64) < i)&&decide (i < 2 ^ 64)
noncomputable def addD:D->D->Option (D×Bool)
 | .int i,.int j=>some (.int (i+j),false)
 | .str x,.str y=>if fits (x.length+y.length) then some (.str (x++y),false) else none
 | .tup a,.tup b=>if fits (a.length+b.length) then some (.tup (a++b),false) else none
 | .lst a,.lst b=>if fits (a.length+b.length) then some (.lst (a++b),true) else none
 | _,_=>none
noncomputable def mulD:D->D->Option (D×Bool)
 | .int i,.int j=>if zX i||zX j then some (.int (i*j),false) else none
 | .lst l,.int n=>if decide (0<=n)&&decide (n < 2 ^ 20)&&fits (l.length*n.toNat) then some (.lst (Α n.toNat l).flatten,true) else none
 | _,_=>none
noncomputable def num2 (f:Int->Int->Option Int):D->D->Option (D×Bool)
 | .int i,.int j=>(f i j).map λk=>(.int k,false)
 | _,_=>none
noncomputable def opD (op:lF) (a b:D):Option (D×Bool):=match op with
 | .Add=>addD a b
 | .Sub=>num2 (λi j=>some (i - j)) a b
 | .Mult=>mulD a b
 | .FloorDiv=>num2 (λi j=>if decide (0 < j)&&decide (j < 2 ^ 64) then some (i / j) else none) a b
 | .Mod=>num2 (λi j=>if decide (0 < j) then some (i % j) else none) a b
 | .Pow=>num2 (λi j=>if decide (0<=j)&&decide (j<=1000000)&&zX i then some (i ^ j.toNat) else none) a b
 | _=>none
mutual
noncomputable def eqP:D->D->Bool
 | .non,.non=>true
 | .bl a,.bl b=>a==b
 | .bl a,.int j=>(if a then 1 else 0)==j
 | .int i,.bl b=>i==(if b then 1 else 0)
 | .int a,.int b=>a==b
 | .str a,.str b=>a==b
 | .tup a,.tup b=>eqPs a b
 | .lst a,.lst b=>eqPs a b
 | _,_=>false
noncomputable def eqPs:List D->List D->Bool
 | [],[]=>true
 | a::as,b::bs=>eqP a b&&eqPs as bs
 | _,_=>false
end
mutual
noncomputable def okP:Nat->D->Bool
 | _,.non=>true
 | _,.bl _=>true
 | _,.int _=>true
 | _,.str _=>true
 | 0,.tup _=>false
 | n+1,.tup a=>okPs n a
 | 0,.lst _=>false
 | n+1,.lst a=>okPs n a
 | _,_=>false
noncomputable def okPs:Nat->List D->Bool
 | _,[]=>true
 | n,a::as=>okP n a&&okPs n as
end
noncomputable def eqD (a b:D):Option Bool:=if okP 60 a&&okP 60 b then some (eqP a b) else none
noncomputable def keyD:D->Option Key
 | .int i=>some (.inl i)
 | .str x=>some (.inr x)
 | _=>none
noncomputable def Zg:List D->Option (List Key)
 | []=>some []
 | d::ds=>match keyD d,Zg ds with
  | some k,some ks=>some (k::ks)
  | _,_=>none
noncomputable def jE {κ:Type} [DecidableEq κ]:List κ->κ->Option Nat
 | [],_=>none
 | k::ks,x=>if k=x then some 0 else (jE ks x).map (·+1)
noncomputable def yW {κ:Type} [DecidableEq κ] (ks:List κ) (ds:List D) (k:κ):Option D:=(jE ks k).bind λi=>ds[i]?
noncomputable def mapK {κ α:Type} [DecidableEq κ]:List κ->List α->κ->α->List α
 | k::ks,d::ds,x,y=>(if k=x then y else d)::mapK ks ds x y
 | _,ds,_,_=>ds
noncomputable def hasK {κ:Type} [DecidableEq κ] (ks:List κ) (k:κ):Bool:=ks.any λx=>decide (x=k)
noncomputable def yh {κ α:Type} [DecidableEq κ] (ks:List κ) (ds:List α) (k:κ) (d:α):List κ×List α:=
 if hasK ks k=true then (ks,mapK ks ds k d) else (ks++[k],ds++[d])
noncomputable def isNone:D->Bool
 | .non=>true
 | _=>false
noncomputable def xR:D->D->Option (Option D)
 | .dK ks ds,k=>(keyD k).map (yW ks ds)
 | .dT ks ds,.tup t=>(Zg t).map (yW ks ds)
 | .dF ks ds,.tup t=>(Zg t).map (yW ks ds)
 | _,_=>none
noncomputable def isSc:D->Bool
 | .lst _=>false
 | d=>okP 59 d
noncomputable def isStr:D->Bool
 | .str _=>true
 | _=>false
noncomputable def isLs:D->Bool
 | .lst _=>true
 | _=>false
noncomputable def memD (l:List D) (d:D):Option Bool:=if isSc d&&l.all isSc then some (l.any λy=>eqP y d) else if isLs d&&l.all isStr then some false else none
noncomputable def zE (S:Store):D->D
 | .ref k=>(S[k]?).getD .non
 | d=>d
noncomputable def int2 (f:Int->Int->Bool):D->D->Option Bool
 | .int i,.int j=>some (f i j)
 | _,_=>none
noncomputable def isD (a:D):D->Option Bool
  | .non=>some (isNone a)
  | .bl b=>(match a with
    | .bl a=>some (a==b)
    | _=>none)
  | _=>none
noncomputable def inD (a:D):D->Option Bool
  | .lst l=>memD l a
  | .tup l=>memD l a
  | .ktp l=>memD l a
  | .str y=>(match a with
    | .str x=>some (!(fQ y x 0 y.length 1).isEmpty)
    | _=>none)
  | .dK ks ds=>(xR (.dK ks ds) a).map (·.isSome)
  | .dT ks ds=>(xR (.dT ks ds) a).map (·.isSome)
  | .dF ks ds=>(xR (.dF ks ds) a).map (·.isSome)
  | _=>none
noncomputable def uC:List D->Option (List Int)
 | []=>some []
 | .int i::r=>(uC r).map (i::·)
 | _::_=>none
noncomputable def neD:D->D->Option Bool
 | a,b=>(eqD a b).map (!·)
noncomputable def cmpD (op:iB) (a b:D):Option Bool:=match op with
 | .Eq=>eqD a b
 | .NotEq=>neD a b
 | .Lt=>int2 (λi j=>decide (i < j)) a b
 | .LtE=>int2 (λi j=>decide (i<=j)) a b
 | .Gt=>int2 (λi j=>decide (j < i)) a b
 | .GtE=>int2 (λi j=>decide (j<=i)) a b
 | .Is=>isD a b
 | .IsNot=>(isD a b).map (!·)
 | .In=>inD a b
 | .NotIn=>(inD a b).map (!·)
noncomputable abbrev idx (n:Nat) (i:Int):Option Nat:=ixN n i
noncomputable def subD:D->D->Option D
 | .tup l,.int i=>(idx l.length i).bind λk=>l[k]?
 | .lst l,.int i=>(idx l.length i).bind λk=>l[k]?
 | .scr l,.int i=>(idx l.length i).bind λk=>(l[k]?).map D.int
 | .str x,.int i=>if fits x.length then (idx x.cps.toList.length i).bind λk=>(x.cps.toList[k]?).map λc=>.str ⟨#[c]⟩ else none
 | .dK ks ds,k=>(xR (.dK ks ds) k).bind id
 | .dT ks ds,k=>(xR (.dT ks ds) k).bind id
 | .dF ks ds,k=>(xR (.dF ks ds) k).bind id
 | _,_=>none
noncomputable def cutD (l:List D) (lo hi:Option Int):List D:=(l.drop (HT.sIx l.length 0 lo)).take (HT.sIx l.length l.length hi - HT.sIx l.length 0 lo)
noncomputable def slcD (d:D) (lo hi:Option Int):Option (D×Bool):=
 match d with
 | .tup l=>some (.tup (cutD l lo hi),false)
 | .lst l=>some (.lst (cutD l lo hi),true)
 | .scr l=>some (.lst (cutD (l.map D.int) lo hi),true)
 | .str x=>if fits x.length then some (.str (gw x lo hi),false) else none
 | _=>none
noncomputable def insD (l:List D):List D->Option (List D)
 | [.int j,d]=>if (decide (0<=j)&&decide (j<=l.length)&&fits (l.length+1))=true then some (l.take j.toNat++d::l.drop j.toNat) else none
 | _=>none
noncomputable def dk1D:List D->Option D
 | [.tup t,v]=>(Zg t).map λk=>.dT [k] [v]
 | _=>none
noncomputable def zhy:D->Option (D×Bool)
 | .lst l=>some (.lst l.reverse,true)
 | .tup l=>some (.tup l.reverse,false)
 | _=>none
noncomputable def xK:List D->Option (List Bool)
 | []=>some []
 | .bl b::r=>(xK r).map (b::·)
 | _::_=>none
noncomputable def isTy:Ty->D->Option Bool
 | t,.int _=>some (t==.int)
 | t,.bl _=>some (t==.bool||t==.int)
 | t,.str _=>some (t==.str)
 | t,.tup _=>some (t==.tuple)
 | t,.lst _=>some (t==.list)
 | t,.dK _ _=>some (t==.dict)
 | t,.non=>some false
 | _,_=>none
noncomputable def seqD:D->Option (List D)
 | .tup l=>some l
 | .lst l=>some l
 | .scr l=>some (l.map D.int)
 | .ktp l=>some l
 | _=>none
noncomputable def itrD:D->Option (List D)
 | .str x=>some (x.cps.toList.map λc=>.str ⟨#[c]⟩)
 | d=>seqD d
noncomputable def lenD:D->Option (D×Bool)
 | .tup l=>some (.int l.length,false)
 | .lst l=>some (.int l.length,false)
 | .scr l=>some (.int l.length,false)
 | .str x=>if fits x.length then some (.int x.length,false) else none
 | .dK ks _=>some (.int ks.length,false)
 | _=>none
noncomputable def absD:D->Option (D×Bool)
 | .int i=>some (.int (if i < 0 then -i else i),false)
 | _=>none
noncomputable def lotD:D->Option (List D)
 | .lst l=>some l
 | .tup l=>some l
 | _=>none
noncomputable def onL (f:List D->Option D):D->Option (D×Bool)
 | .lst l=>(f l).map λd=>(d,false)
 | _=>none
noncomputable def lexL:List Int->List Int->Bool
 | [],[]=>false
 | [],_::_=>true
 | _::_,[]=>false
 | a::x,b::y=>if a=b then lexL x y else decide (a < b)
noncomputable def insL (k:List Int):List (List Int)->List (List Int)
 | []=>[k]
 | x::l=>if lexL x k then x::insL k l else k::x::l
noncomputable def keyOf:Key->D
 | .inl i=>.int i
 | .inr x=>.str x
noncomputable def zcz:List (List Key)->List D->List D
 | k::ks,d::ds=>.tup [.tup (k.map keyOf),d]::zcz ks ds
 | _,_=>[]
noncomputable def wN (ks:List Int):List Int:=ks.foldl (λl x=>if x∈l then l else l++[x]) []
noncomputable def sortI (l:List Int):List Int:=l.mergeSort λa b=>decide (a<=b)
noncomputable def zaW (d:D):Option (D×Bool):=((lotD d).bind uC).bind λks=>if (decide (ks.length < 4095)&&decide ((wN ks).length < 64))=true then some (.lst ((sortI (wN ks)).map D.int),true) else none
noncomputable def Ut (d:D):Option (D×Bool):=zaW d
noncomputable def zZ (lo hi:Int):List D:=(ό (hi - lo).toNat).map λ(k:Nat)=>.int (lo+(k:Int))
noncomputable def lrgD:D->D->Option (D×Bool)
 | .int i,.int j=>if (decide (-1000000<=i)&&decide (i<=1000000)&&decide (-1000000<=j)&&decide (j<=1000000))=true then some (.lst (zZ i j),true) else none
 | _,_=>none
noncomputable def bi2:BI->D->D->Option (D×Bool)
 | .min2,d,e=>num2 (λi j=>some (if j < i then j else i)) d e
 | .lrng2,d,e=>lrgD d e
 | _,_,_=>none
noncomputable def biD (b:BI) (ds:List D):Option (D×Bool):=match ds with
  | [d]=>(match b with
    | .len=>lenD d
    | .abs=>absD d
    | .tuple=>(lotD d).map λl=>(.tup l,false)
    | .sum=>onL (λl=>(uC l).map λns=>.int ns.sum) d
    | .all=>onL (λl=>(xK l).map λbs=>.bl (bs.all id)) d
    | .any=>onL (λl=>(xK l).map λbs=>.bl (bs.any id)) d
    | .isinst t=>(isTy t d).map λb=>(.bl b,false)
    | .sset=>Ut d
    | .lrng=>lrgD (.int 0) d
    | _=>none)
  | [d,e]=>bi2 b d e
  | _=>none
noncomputable def mthK:MT->D->Bool
 | .get2,.dK _ _=>true
 | .get2,.dT _ _=>true
 | .get2,.kdc _=>true
 | _,_=>false
noncomputable def zg0 (ps:List (Str×Int)):D->D->Option (D×Bool)
 | .str k,x=>some (((PyProof.Rows.KTD.datumAt k ps).map D.int).getD x,false)
 | _,_=>none
noncomputable def mthD:MT->D->List D->Option (D×Bool)
 | .index,_,_=>none
 | .get1,_,_=>none
 | .get2,.kdc ps,[k,x]=>zg0 ps k x
 | .get2,d,[k,x]=>(xR d k).map λo=>(o.getD x,false)
 | .join,_,_=>none
 | .split,_,_=>none
 | _,_,_=>none
noncomputable def nT:T->Nat
 | .one _=>1
 | .nst _ is=>1+is.length
 | .tup is=>is.length
noncomputable def vK:Nat->List D->List D
 | _,[]=>[]
 | n,d::ds=>.tup [.int n,d]::vK (n+1) ds
noncomputable def zjz:D->Option (List D)
 | .tup l=>some l
 | .lst l=>some l
 | _=>none
noncomputable def pairD:List D->List D->List D
 | a::as,b::bs=>.tup [a,b]::pairD as bs
 | _,_=>[]
noncomputable def tup2:D->D->Option (List D)
 | .tup a,.tup b=>some (pairD a b)
 | _,_=>none
noncomputable def dwnD:List D->Option (List D)
 | [.int i,.int j,.int k]=>if (decide (k=-1)&&decide (-1000000<=i)&&decide (i<=1000000)&&decide (-1000000<=j)&&decide (j<=1000000))=true then some (zZ (j+1) (i+1)).reverse else none
 | _=>none
noncomputable def zbL (tk:Bool) (ks:List Key) (ds:List D):Bool:=decide (ks.length=ds.length)&&decide ks.Nodup&&decide (ks.length<=15)&&(!tk||ks.isEmpty)
inductive Slot where
 | no | sh (d:D) | ow (d:D)
 deriving Inhabited
inductive O where
 | next (ρ:List Slot) | ret (d:D) (fr:Bool) | brk (ρ:List Slot) | cnt (ρ:List Slot)
noncomputable def nst2:D->Option (D×List D)
  | .tup l=>(match l with
    | x::r=>(match r with
      | y::z=>(match z with
        | []=>(match y with
          | .tup ds=>some (x,ds)
          | _=>none)
        | _=>none)
      | _=>none)
    | _=>none)
  | _=>none
theorem zdV {d:D}{p:D×List D}(h:nst2 d=some p):d=.tup [p.1,.tup p.2]:=by
 cases d with
 | tup l=>
  cases l with
  | nil=>cases h
  | cons x r=>
   cases r with
   | nil=>cases h
   | cons y z=>
    cases z with
    | cons _ _=>cases h
    | nil=>
     cases y with
     | tup ds=>cases h;rfl
     | _=>cases h
 | _=>cases h
noncomputable def yK (ρ:List Slot):T->D×Bool->Option (List Slot)
 | .one i,(d,fr)=>if i < ρ.length&&!Wx d then some (ρ.set i (if fr=true then .ow d else .sh d)) else none
 | .tup is,(.tup ds,_)=>if is.length=ds.length/\is.Nodup/\is.all (· < ρ.length) then some ((is.zip ds).foldl (λr p=>r.set p.1 (.sh p.2)) ρ) else none
 | .nst i is,(d,_)=>(nst2 d).bind λp=>if i < ρ.length/\is.length=p.2.length/\is.Nodup/\is.all (· < ρ.length) then some ((is.zip p.2).foldl (λr p=>r.set p.1 (.sh p.2)) (ρ.set i (.sh p.1))) else none
 | _,_=>none
noncomputable def putD:D->D->D->Option D
 | .lst l,.int i,d=>(idx l.length i).map λk=>.lst (l.set k d)
 | .dK ks ds,k,d=>(keyD k).bind λk=>if fits (ks.length+1) then some (let p:=yh ks ds k d;.dK p.1 p.2) else none
 | .dT ks ds,.tup t,d=>(Zg t).bind λk=>if fits (ks.length+1) then some (let p:=yh ks ds k d;.dT p.1 p.2) else none
 | _,_,_=>none
noncomputable def zjx:Option D->Bool
 | some (.lst _)=>true
 | _=>false
noncomputable def extD:D->Option (List D)
 | .lst l=>some l
 | .tup l=>some l
 | _=>none
noncomputable def entry (fn:Fn) (ds:List D):List Slot:=ds.map Slot.sh++Α (fn.nv - ds.length) Slot.no
inductive Kd where
 | st | fr | bo
noncomputable abbrev Vl:=D×Kd
abbrev Po:=Vl->Store->Prop
abbrev Cf:=Nat->List D->Po->Store->Prop
noncomputable def kd:Bool->Kd
 | true=>.fr
 | false=>.st
noncomputable def ofB (p:D×Bool):Vl:=(p.1,kd p.2)
def opt {α:Type}:Option α->(α->Prop)->Prop
 | some a,Q=>Q a
 | none,_=>False
def opV (o:Option (D×Bool)) (Q:Vl->Prop):Prop:=opt o λp=>Q (ofB p)
def optS:Option (List Slot)->(List Slot->Prop)->Prop:=opt
def tst:Bool->Prop->Prop->Prop
 | true,T,_=>T
 | false,_,F=>F
def isB:D->(Bool->Prop)->Prop
 | .bl b,Q=>Q b
 | _,_=>False
def isF:D->(Nat->Prop)->Prop
 | .fn f,Q=>Q f
 | _,_=>False
def isLm:D->(Nat->List D->Prop)->Prop
 | .lam f cs,Q=>Q f cs
 | _,_=>False
def U8 (p:Nat):Option D->Prop->Prop
 | some (.tab n),P=>n=p/\P
 | _,_=>False
noncomputable def shs (ρ:List Slot):List Nat->Option (List D)
 | []=>some []
 | j::js=>match ρ[j]? with
  | some (.sh d)=>(shs ρ js).map (d::·)
  | _=>none
noncomputable def fgV:D->Bool
 | .lst xs=>noMs xs
 | d=>noM d
noncomputable def fgC:D->Bool
 | .tab _=>true
 | .dK _ ds=>ds.all fgV
 | _=>false
theorem Ww {d:D}{Q:Nat->List D->Prop}(h:isLm d Q):∃ f cs,d=.lam f cs/\Q f cs:=by
 cases d with
 | lam f cs=>exact ⟨f,cs,rfl,h⟩
 | _=>exact h.elim
theorem VF {p:Nat}{o:Option D}{P:Prop}(h:U8 p o P):o=some (.tab p)/\P:=by
 cases o with
 | none=>exact h.elim
 | some d=>
  cases d with
  | tab q=>obtain ⟨rfl,h⟩:=h;exact ⟨rfl,h⟩
  | _=>exact h.elim
def isZ:D->(Int->Prop)->Prop
 | .int i,Q=>Q i
 | _,_=>False
def keep:Vl->(D->Prop)->Prop
 | (d,.st),Q=>Q d
 | (d,.fr),Q=>Q d
 | _,_=>False
def sel:Option Slot->(D->Prop)->(D->Prop)->Prop
 | some (.sh d),Q,_=>Q d
 | some (.ow d),_,Q=>Q d
 | _,_,_=>False
def rdV (s:Option Slot) (Q:Vl->Prop):Prop:=sel s (λd=>Q (d,.st)) (λd=>Q (d,.bo))
def boxd:Vl->(D->Prop)->Prop
 | (d,.fr),Q=>Q d
 | _,_=>False
def xj (step:D->(Option D->Store->Prop)->Store->Prop):List D->List D->(List D->Store->Prop)->Store->Prop
 | [],acc,V,S=>V acc S
 | d::ds,acc,V,S=>step d (λo S1=>match o with
  | some x=>tst (fits (acc.length+1)) (xj step ds (acc++[x]) V S1) False
  | none=>xj step ds acc V S1) S
noncomputable def inn (ρ:List Slot) (t:T) (js:List Nat):List Slot:=Α (nT t) .no++js.map λj=>(ρ[j]?).getD .no
noncomputable def dicV (tk:Bool) (ks:List Key) (ds:List D):D:=if tk=true then .dT [] [] else .dK ks ds
def isR:D->(Nat->Prop)->Prop
 | .ref n,Q=>Q n
 | _,_=>False
def isDT:Option D->(List (List Key)->List D->Prop)->Prop
 | some (.dT ks ds),Q=>Q ks ds
 | _,_=>False
theorem zei {s:Option D}{Q:List (List Key)->List D->Prop}(h:isDT s Q):∃ ks ds,s=some (.dT ks ds)/\Q ks ds:=by
 cases s with
 | none=>exact h.elim
 | some s=>
  cases s with
  | dT ks ds=>exact ⟨ks,ds,rfl,h⟩
  | _=>exact h.elim
theorem zhg {s:Option D}{ks:List (List Key)}{ds:List D}{Q:List (List Key)->List D->Prop}(h:s=some (.dT ks ds)) (q:Q ks ds):isDT s Q:=by subst h;exact q
mutual
def wpE (cf:Cf) (ρ:List Slot):E->Po->Store->Prop
 | .var i,V,S=>rdV ρ[i]? λx=>V x S
 | .con d,V,S=>V (d,.st) S
 | .glo _ d,V,S=>V (d,.st) S
 | .bin op a b,V,S=>wpE cf ρ a (λx S1=>wpE cf ρ b (λy S2=>opV (opD op (zE S2 x.1) (zE S2 y.1)) λx=>V x S2) S1) S
 | .neg a,V,S=>wpE cf ρ a (λx S1=>isZ x.1 λi=>V (.int (-i),.st) S1) S
 | .cmp op a b,V,S=>wpE cf ρ a (λx S1=>wpE cf ρ b (λy S2=>opt (cmpD op (zE S2 x.1) (zE S2 y.1)) λr=>V (.bl r,.st) S2) S1) S
 | .chn o1 o2 a b c,V,S=>wpE cf ρ a (λx S1=>wpE cf ρ b (λy S2=>opt (cmpD o1 (zE S2 x.1) (zE S2 y.1)) λr=>tst r (wpE cf ρ c (λz S3=>opt (cmpD o2 (zE S3 y.1) (zE S3 z.1)) λr=>V (.bl r,.st) S3) S2) (V (.bl false,.st) S2)) S1) S
 | .not a,V,S=>wpE cf ρ a (λx S1=>isB x.1 λb=>V (.bl (!b),.st) S1) S
 | .and a b,V,S=>wpE cf ρ a (λx S1=>isB x.1 λr=>tst r (wpE cf ρ b V S1) (V (.bl false,.st) S1)) S
 | .or a b,V,S=>wpE cf ρ a (λx S1=>isB x.1 λr=>tst r (V (.bl true,.st) S1) (wpE cf ρ b V S1)) S
 | .ite c a b,V,S=>wpE cf ρ c (λx S1=>isB x.1 λr=>tst r (wpE cf ρ a V S1) (wpE cf ρ b V S1)) S
 | .tup es,V,S=>wpEs cf ρ es (λds S1=>tst (fits ds.length) (V (.tup ds,.st) S1) False) S
 | .lst es,V,S=>wpEs cf ρ es (λds S1=>tst (fits ds.length) (V (.lst ds,.fr) S1) False) S
 | .dic tk ks es,V,S=>wpEs cf ρ es (λds S1=>tst (zbL tk ks ds) (V (dicV tk ks ds,.fr) S1) False) S
 | .sub a i,V,S=>wpE cf ρ a (λx S1=>wpE cf ρ i (λy S2=>opt (subD (zE S2 x.1) y.1) λd=>V (d,.st) S2) S1) S
 | .slc a lo hi,V,S=>wpE cf ρ a (λx S1=>wpO cf ρ lo (λl S2=>wpO cf ρ hi (λh S3=>opV (slcD (zE S3 x.1) l h) λx=>V x S3) S2) S1) S
 | .bi b [e],V,S=>wpE cf ρ e (λx S1=>opV (biD b [zE S1 x.1]) λx=>V x S1) S
 | .bi b es,V,S=>wpEs cf ρ es (λds S1=>opV (biD b (ds.map (zE S1))) λx=>V x S1) S
 | .mth m o es,V,S=>wpE cf ρ o (λx S1=>tst (mthK m (zE S1 x.1)) (wpEs cf ρ es (λds S2=>opV (mthD m (zE S2 x.1) ds) λx=>V x S2) S1) False) S
 | .call f es,V,S=>wpEs cf ρ es (λds S1=>cf f ds V S1) S
 | .callk f perm es,V,S=>wpEs cf ρ es (λds S1=>opt (perm.mapM λi=>ds[i]?) λds=>cf f ds V S1) S
 | .comp t js it ifs elt,V,S=>wpI cf ρ it (λits S1=>xj (λd K S=>optS (yK (inn ρ t js) t (d,false)) λρ'=>wpF cf ρ' ifs (λb S1=>tst b (wpE cf ρ' elt (λx S2=>keep x λd=>K (some d) S2) S1) (K none S1)) S) its [] (λds S2=>V (.lst ds,.fr) S2) S1) S
 | .box e,V,S=>wpE cf ρ e (λx S1=>boxd x λd=>V (.ref S1.length,.st) (S1++[d])) S
 | .callv i es,V,S=>rdV ρ[i]? λx=>isF x.1 λf=>wpEs cf ρ es (λds S1=>cf f ds V S1) S
 | .one e,V,S=>wpE cf ρ e V S
 | .dk1 a b,V,S=>wpE cf ρ a (λx S1=>keep x λd=>wpE cf ρ b (λy S2=>keep y λe=>opt (dk1D [d,e]) λr=>V (r,.fr) S2) S1) S
 | .flip e,V,S=>wpE cf ρ e (λx S1=>opV (zhy (zE S1 x.1)) λx=>V x S1) S
 | .lam f p js,V,S=>U8 p S[p]? (opt (shs ρ js) λds=>V (.lam f ds,.st) S)
 | .fgt e,V,S=>wpE cf ρ e (λx S1=>V x S1/\S1.all fgC=true/\∃ b,x=(.bl b,.st)) S
 | .cvl i es,V,S=>rdV ρ[i]? λx=>isLm x.1 λf cs=>wpEs cf ρ es (λds S1=>cf f (ds++cs) V S1) S
 | _,_,_=>False
def wpEs (cf:Cf) (ρ:List Slot):List E->(List D->Store->Prop)->Store->Prop
 | [],W,S=>W [] S
 | e::es,W,S=>wpE cf ρ e (λx S1=>keep x λd=>wpEs cf ρ es (λds S2=>W (d::ds) S2) S1) S
def wpO (cf:Cf) (ρ:List Slot):Option E->(Option Int->Store->Prop)->Store->Prop
 | none,W,S=>W none S
 | some e,W,S=>wpE cf ρ e (λx S1=>isZ x.1 λi=>W (some i) S1) S
def wpF (cf:Cf) (ρ:List Slot):List E->(Bool->Store->Prop)->Store->Prop
 | [],W,S=>W true S
 | [e],W,S=>wpE cf ρ e (λx S1=>isB x.1 λb=>W b S1) S
 | _,_,_=>False
def wpI (cf:Cf) (ρ:List Slot):E->(List D->Store->Prop)->Store->Prop
 | .dwn es,W,S=>wpEs cf ρ es (λds S1=>opt (dwnD ds) λl=>W l S1) S
 | .rev hi,W,S=>wpE cf ρ hi (λx S1=>isZ x.1 λh=>tst (fits h.toNat&&decide (-1000000<=h)) (W (zZ 0 h).reverse S1) False) S
 | .rng none hi,W,S=>wpE cf ρ hi (λx S1=>isZ x.1 λh=>tst (fits h.toNat&&decide (-1000000<=h)) (W (zZ 0 h) S1) False) S
 | .rng (some lo) hi,W,S=>wpE cf ρ lo (λy S1=>wpE cf ρ hi (λx S2=>isZ y.1 λl=>isZ x.1 λh=>tst (fits (h - l).toNat&&decide (-1000000<=h)&&decide (-1000000<=l)&&decide (h<=1000000)&&decide (l<=1000000)) (W (zZ l h) S2) False) S1) S
 | .enum e,W,S=>wpE cf ρ e (λx S1=>keep x λd=>opt (zjz d) λl=>W (vK 0 l) S1) S
 | .seq e,W,S=>wpE cf ρ e (λx S1=>keep x λd=>opt (itrD d) λl=>W l S1) S
 | .zip a b,W,S=>wpE cf ρ a (λx S1=>keep x λd=>wpE cf ρ b (λy S2=>keep y λe=>opt (tup2 d e) λl=>W l S2) S1) S
 | .items e,W,S=>wpE cf ρ e (λx S1=>keep x λr=>isR r λk=>isDT S1[k]? λks ds=>W (zcz ks ds) (S1.set k (.ref k))) S
 | _,_,_=>False
end
def wpX (cf:Cf) (ρ:List Slot) (e:E) (V:Po) (S:Store):Prop:=wpE cf ρ e V S
noncomputable def zax (ρ:List Slot) (t:T):Vl->Option (List Slot)
 | (d,.st)=>yK ρ t (d,false)
 | (d,.fr)=>yK ρ t (d,true)
 | _=>none
def retV:Vl->(O->Prop)->Prop
 | (d,.st),K=>K (.ret d false)
 | (d,.fr),K=>K (.ret d true)
 | _,_=>False
def owL:Option Slot->(List D->Prop)->Prop
 | some (.ow (.lst l)),Q=>Q l
 | _,_=>False
def owD:Option Slot->(D->Prop)->Prop
 | some (.ow d),Q=>Q d
 | _,_=>False
def isL:Option D->(List D->Prop)->Prop
 | some (.lst l),Q=>Q l
 | _,_=>False
noncomputable def fz:Slot->Slot
 | .ow d=>.sh d
 | s=>s
abbrev Ko:=O->Store->Prop
def nxt (f:List Slot->Store->Prop) (K:Ko):Ko
 | .next ρ,S=>f ρ S
 | o,S=>K o S
def trn (K:Ko) (I:List Slot->Store->Prop):Ko
 | .next ρ,S=>I ρ S
 | .cnt ρ,S=>I ρ S
 | .brk ρ,S=>K (.next ρ) S
 | .ret d fr,S=>K (.ret d fr) S
def forW (t:T) (b:List Slot->Ko->Store->Prop):List D->List Slot->Ko->Store->Prop
 | [],ρ,K,S=>K (.next ρ) S
 | d::l,ρ,K,S=>optS (yK ρ t (d,false)) λρ1=>b ρ1 (trn K λρ' S'=>forW t b l ρ' K S') S
def whlW (c:List Slot->Po->Store->Prop) (b:List Slot->Ko->Store->Prop):Nat->List Slot->Ko->Store->Prop
 | 0,_,_,_=>False
 | n+1,ρ,K,S=>c ρ (λx S1=>isB x.1 λr=>tst r (b ρ (trn K λρ' S'=>whlW c b n ρ' K S') S1) (K (.next ρ) S1)) S
abbrev Xp:=Nat->Store->Prop
noncomputable def noX:Xp:=λ_ _=>False
noncomputable def subT (tb:List (List Nat)) (c k:Nat):Bool:=match tb[c]? with
 | some l=>l.contains k
 | none=>false
noncomputable def hbV (tb:List (List Nat)) (c:Nat) (va:Nat->Option Bool):HB->Option Bool
 | .is k=>some (subT tb c k)
 | .isT ks=>some (ks.any λk=>subT tb c k)
 | .ve=>some true
 | .var j=>va j
 | .not a=>(hbV tb c va a).map (!·)
 | .and a b=>(hbV tb c va a).bind λx=>if x=true then hbV tb c va b else some false
 | .or a b=>(hbV tb c va a).bind λx=>if x=true then some true else hbV tb c va b
 | .one a=>hbV tb c va a
noncomputable def hbsV (tb:List (List Nat)) (c:Nat):List HB->Option (List D)
 | []=>some []
 | h::r=>(hbV tb c (λ_=>none) h).bind λb=>(hbsV tb c r).map (.bl b::·)
mutual
def wpC (cx:Xp->Cf) (ex:Xp) (w:Nat):C->List Slot->Ko->Store->Prop
 | .set t (.box e),ρ,K,S=>wpE (cx noX) ρ e (λx S1=>boxd x λd=>optS (yK ρ t (.ref S1.length,false)) λρ2=>K (.next ρ2) (S1++[d])) S
 | .set t e,ρ,K,S=>wpE (cx noX) ρ e (λx S1=>optS (zax ρ t x) λρ2=>K (.next ρ2) S1) S
 | .expr e,ρ,K,S=>wpE (cx noX) ρ e (λ_ S1=>K (.next ρ) S1) S
 | .ret (.var i),ρ,K,S=>sel ρ[i]? (λd=>K (.ret d false) S) (λd=>K (.ret d true) S)
 | .ret e,ρ,K,S=>wpE (cx noX) ρ e (λx S1=>retV x λo=>K o S1) S
 | .retN,ρ,K,S=>K (.ret .non false) S
 | .ite e A B,ρ,K,S=>wpE (cx noX) ρ e (λx S1=>isB x.1 λb=>tst b (wpCs cx ex w A ρ K S1) (wpCs cx ex w B ρ K S1)) S
 | .whl e A,ρ,K,S=>whlW (λρ=>wpX (cx noX) ρ e) (λρ=>wpCs cx ex w A ρ) w ρ K S
 | .forr t it A,ρ,K,S=>wpI (cx noX) ρ it (λl S1=>forW t (λρ=>wpCs cx ex w A ρ) l ρ K S1) S
 | .app i e,ρ,K,S=>owL ρ[i]? λl=>wpE (cx noX) ρ e (λx S1=>keep x λd=>tst (fits (l.length+1)) (K (.next (ρ.set i (.ow (.lst (l++[d]))))) S1) False) S
 | .ext i e,ρ,K,S=>owL ρ[i]? λl=>wpE (cx noX) ρ e (λx S1=>keep x λd=>opt (extD d) λm=>tst (fits (l.length+m.length)) (K (.next (ρ.set i (.ow (.lst (l++m))))) S1) False) S
 | .stv i k v,ρ,K,S=>owD ρ[i]? λc=>wpE (cx noX) ρ v (λx S1=>keep x λd=>wpE (cx noX) ρ k (λy S2=>keep y λe=>opt (putD c e d) λc'=>K (.next (ρ.set i (.ow c'))) S2) S1) S
 | .sti o k v,ρ,K,S=>wpE (cx noX) ρ v (λx S1=>keep x λd=>wpE (cx noX) ρ o (λz S2=>keep z λr=>wpE (cx noX) ρ k (λy S3=>keep y λe=>isR r λn=>opt S3[n]? λc=>opt (putD c e d) λc'=>K (.next ρ) (S3.set n c')) S2) S1) S
 | .pop i,ρ,K,S=>owL ρ[i]? λl=>tst (!l.isEmpty) (K (.next (ρ.set i (.ow (.lst l.dropLast)))) S) False
 | .appR o e,ρ,K,S=>wpE (cx noX) ρ o (λz S1=>keep z λr=>isR r λn=>tst (zjx S1[n]?) (wpE (cx noX) ρ e (λx S2=>keep x λd=>isL S2[n]? λl=>tst (fits (l.length+1)) (K (.next ρ) (S2.set n (.lst (l++[d])))) False) S1) False) S
 | .popO t i,ρ,K,S=>owL ρ[i]? λl=>opt l.getLast? λd=>optS (yK (ρ.set i (.ow (.lst l.dropLast))) t (d,false)) λρ2=>K (.next ρ2) S
 | .popR t o,ρ,K,S=>wpE (cx noX) ρ o (λz S1=>keep z λr=>isR r λn=>isL S1[n]? λl=>opt l.getLast? λd=>optS (yK ρ t (d,false)) λρ2=>K (.next ρ2) (S1.set n (.lst l.dropLast))) S
 | .pass,ρ,K,S=>K (.next ρ) S
 | .brk,ρ,K,S=>K (.brk ρ) S
 | .cnt,ρ,K,S=>K (.cnt ρ) S
 | .frz i,ρ,K,S=>K (.next (ρ.set i (fz ((ρ[i]?).getD .no)))) S
 | .frk _,_,_,_=>False
 | .sta _ _ _ _,_,_,_=>False
 | .aua _ _ _ _ _,_,_,_=>False
 | .lin i es,ρ,K,S=>owL ρ[i]? λl=>wpEs (cx noX) ρ es (λds S1=>opt (insD l ds) λm=>K (.next (ρ.set i (.ow (.lst m)))) S1) S
 | .rse c,_,_,S=>ex c S
 | .stx i f es,ρ,K,S=>wpEs (cx noX) ρ es (λds S1=>cx ex f ds (λx S2=>optS (zax ρ (.one i) x) λρ2=>K (.next ρ2) S2) S1) S
 | .rtx f es,ρ,K,S=>wpEs (cx noX) ρ es (λds S1=>cx ex f ds (λx S2=>retV x λo=>K o S2) S1) S
 | .trl tb j ce i hs k l,ρ,K,S=>rdV ρ[j]? λx=>isLm x.1 λf cs=>cx (λc S2=>tst (subT tb c ce) (opt (hbsV tb c hs) λbs=>K (.next ((((ρ.set i .no).set k .no).set l (.sh (.lst bs))).set i .no)) S2) False) f cs (λ_ S2=>K (.next ρ) S2) S
 | .sw2 i j a b,ρ,K,S=>wpE (cx noX) ρ a (λx S1=>keep x λd=>wpE (cx noX) ρ b (λy S2=>keep y λe=>optS (yK ρ (.tup [i,j]) (.tup [d,e],false)) λρ2=>K (.next ρ2) S2) S1) S
 | .trx tb j f es ce i h a b els,ρ,K,S=>wpEs (cx noX) ρ es (λds S1=>cx (λc S2=>tst (subT tb c ce) (opt (hbV tb c (λ_=>none) h) λr=>K (.ret (.tup (if r=true then a else b)) false) S2) False) f ds (λx S2=>optS (zax ρ (.one j) x) λρ2=>wpCs cx ex w els ρ2 K S2) S1) S
 | .tri _ _ _ _ _ _,_,_,_=>False
 | .frr _,_,_,_=>False
def wpCs (cx:Xp->Cf) (ex:Xp) (w:Nat):List C->List Slot->Ko->Store->Prop
 | [],ρ,K,S=>K (.next ρ) S
 | c::cs,ρ,K,S=>wpC cx ex w c ρ (nxt (λρ' S'=>wpCs cx ex w cs ρ' K S') K) S
end
def told (V:Po):Ko
 | .ret d fr,S=>V (d,kd fr) S
 | .next _,S=>V (.non,.st) S
 | _,_=>False
def zb (F:Nat->Option Fn) (w:Nat):Nat->Xp->Cf
 | 0=>λ_ _ _ _ _=>False
 | k+1=>λex f ds V S=>opt (F f) λfn=>ds.length=fn.np/\wpCs (zb F w k) ex w fn.body (entry fn ds) (told V) S
abbrev ue (F:Nat->Option Fn) (w k:Nat):Cf:=zb F w k noX
section
theorem zg {α:Type}{o:Option α}{P Q:α->Prop}(h:∀ a,P a->Q a):opt o P->opt o Q:=by
 cases o with
 | some a=>exact h a
 | none=>exact id
theorem zB {b:Bool}{P P' Q Q':Prop}(h:P->P') (k:Q->Q'):tst b P Q->tst b P' Q':=by
 cases b with
 | true=>exact h
 | false=>exact k
theorem yN {d:D}{P Q:Bool->Prop}(h:∀ a,P a->Q a):isB d P->isB d Q:=by cases d <;> first | exact h _ | exact id
theorem vH {d:D}{P Q:Nat->List D->Prop}(h:∀ a b,P a b->Q a b):isLm d P->isLm d Q:=λk=>by obtain ⟨f,cs,rfl,q⟩:=Ww k;exact h _ _ q
theorem U7 {p:Nat}{o:Option D}{P Q:Prop}(h:P->Q):U8 p o P->U8 p o Q:=λk=>by obtain ⟨rfl,z⟩:=VF k;exact ⟨rfl,h z⟩
theorem VJ {d:D}{P Q:Nat->Prop}(h:∀ a,P a->Q a):isF d P->isF d Q:=by cases d <;> first | exact h _ | exact id
theorem wg {d:D}{P Q:Int->Prop}(h:∀ a,P a->Q a):isZ d P->isZ d Q:=by cases d <;> first | exact h _ | exact id
theorem zx {x:Vl}{P Q:D->Prop}(h:∀ a,P a->Q a):keep x P->keep x Q:=by obtain ⟨d,k⟩:=x;cases k <;> first | exact h _ | exact id
theorem Xl {x:Vl}{P Q:D->Prop}(h:∀ a,P a->Q a):boxd x P->boxd x Q:=by obtain ⟨d,k⟩:=x;cases k <;> first | exact h _ | exact id
theorem vg {s:Option Slot}{P P' Q Q':D->Prop}(h:∀ a,P a->P' a) (k:∀ a,Q a->Q' a):sel s P Q->sel s P' Q':=by
 cases s with
 | none=>exact id
 | some s=>cases s <;> first | exact h _ | exact k _ | exact id
theorem u5 {s:D->(Option D->Store->Prop)->Store->Prop}(hs:∀ d K K' S,(∀ o S,K o S->K' o S)->s d K S->s d K' S):∀ {l acc:List D}{V V':List D->Store->Prop}{S:Store},(∀ a S,V a S->V' a S)->xj s l acc V S->xj s l acc V' S
 | [],_,_,_,_,h=>h _ _
 | d::l,acc,V,V',S,h=>hs d _ _ S λo S1=>by
  cases o with
  | some x=>exact zB (u5 hs h) id
  | none=>exact u5 hs h
def Mono (cf:Cf):Prop:=∀ f ds (V V':Po) S,(∀ x S,V x S->V' x S)->cf f ds V S->cf f ds V' S
variable {cf:Cf}
theorem uW {s:D}{P Q:Nat->Prop}(h:∀ a,P a->Q a):isR s P->isR s Q:=by cases s <;> first | exact h _ | exact id
theorem QH {s:Option D}{P Q:List (List Key)->List D->Prop}(h:∀ a b,P a b->Q a b) (p:isDT s P):isDT s Q:=by obtain ⟨ks,ds,e,q⟩:=zei p;exact zhg e (h _ _ q)
mutual
theorem za (hc:Mono cf):∀ (e:E) {ρ:List Slot}{V V':Po}{S:Store},(∀ x S,V x S->V' x S)->wpE cf ρ e V S->wpE cf ρ e V' S
 | .var i,_,_,_,_,h,k=>vg (λ_=>h _ _) (λ_=>h _ _) k
 | .con d,_,_,_,_,h,k=>h _ _ k
 | .glo _ d,_,_,_,_,h,k=>h _ _ k
 | .bin op a b,_,_,_,_,h,k=>za hc a (λ_ _=>za hc b λ_ _=>zg λ_=>h _ _) k
 | .neg a,_,_,_,_,h,k=>za hc a (λ_ _=>wg λ_=>h _ _) k
 | .cmp op a b,_,_,_,_,h,k=>za hc a (λ_ _=>za hc b λ_ _=>zg λ_=>h _ _) k
 | .chn o1 o2 a b c,_,_,_,_,h,k=>za hc a (λ_ _=>za hc b λ_ _=>zg λ_=>zB (za hc c λ_ _=>zg λ_=>h _ _) (h _ _)) k
 | .not a,_,_,_,_,h,k=>za hc a (λ_ _=>yN λ_=>h _ _) k
 | .and a b,_,_,_,_,h,k=>za hc a (λ_ _=>yN λ_=>zB (za hc b h) (h _ _)) k
 | .or a b,_,_,_,_,h,k=>za hc a (λ_ _=>yN λ_=>zB (h _ _) (za hc b h)) k
 | .ite c a b,_,_,_,_,h,k=>za hc c (λ_ _=>yN λ_=>zB (za hc a h) (za hc b h)) k
 | .tup es,_,_,_,_,h,k=>zA hc es (λ_ _=>zB (h _ _) id) k
 | .lst es,_,_,_,_,h,k=>zA hc es (λ_ _=>zB (h _ _) id) k
 | .dic _ _ es,_,_,_,_,h,k=>zA hc es (λ_ _=>zB (h _ _) id) k
 | .sub a b,_,_,_,_,h,k=>za hc a (λ_ _=>za hc b λ_ _=>zg λ_=>h _ _) k
 | .slc a l u,_,_,_,_,h,k=>za hc a (λ_ _=>W6 hc l λ_ _=>W6 hc u λ_ _=>zg λ_=>h _ _) k
 | .bi b [],_,_,_,_,h,k=>zA hc [] (λ_ _=>zg λ_=>h _ _) k
 | .bi b [e],_,_,_,_,h,k=>za hc e (λ_ _=>zg λ_=>h _ _) k
 | .bi b (e::f::es),_,_,_,_,h,k=>zA hc (e::f::es) (λ_ _=>zg λ_=>h _ _) k
 | .mth m o es,_,_,_,_,h,k=>za hc o (λ_ _=>zB (zA hc es λ_ _=>zg λ_=>h _ _) id) k
 | .call f es,_,_,_,_,h,k=>zA hc es (λ_ _=>hc _ _ _ _ _ h) k
 | .callk f p es,_,_,_,_,h,k=>zA hc es (λ_ _=>zg λ_=>hc _ _ _ _ _ h) k
 | .comp t js it ifs elt,ρ,V,V',S,h,k=>by
  refine W7 hc it (λits S1 q=>?_) k;refine u5 ?_ ?_ q
  ·intro d K K' S q;exact zg λρ'=>zaM hc ifs λb S1=>zB (za hc elt λx S2=>zx λd=>q _ _) (q _ _)
  ·exact λds S2=>h _ _
 | .box e,_,_,_,_,h,k=>za hc e (λ_ _=>Xl λ_=>h _ _) k
 | .one e,_,_,_,_,h,k=>za hc e h k
 | .flip e,_,_,_,_,h,k=>za hc e (λ_ _=>zg λ_=>h _ _) k
 | .dk1 a b,_,_,_,_,h,k=>za hc a (λ_ _=>zx λ_=>za hc b λ_ _=>zx λ_=>zg λ_=>h _ _) k
 | .callv i es,_,_,_,_,h,k=>vg (λ_=>VJ λ_=>zA hc es λ_ _=>hc _ _ _ _ _ h) (λ_=>VJ λ_=>zA hc es λ_ _=>hc _ _ _ _ _ h) k
 | .att _ _ _,_,_,_,_,_,k=>k
 | .met _ _ _ _,_,_,_,_,_,k=>k
 | .mk _ _ _,_,_,_,_,_,k=>k
 | .lam _ _ _,_,_,_,_,h,k=>U7 (zg λ_=>h _ _) k
 | .fgt e,_,_,_,_,h,k=>za hc e (λ_ _ q=>⟨h _ _ q.1,q.2⟩) k
 | .cvl i es,_,_,_,_,h,k=>vg (λ_=>vH λ_ _=>zA hc es λ_ _=>hc _ _ _ _ _ h) (λ_=>vH λ_ _=>zA hc es λ_ _=>hc _ _ _ _ _ h) k
 | .seq _,_,_,_,_,_,k=>k
 | .rng _ _,_,_,_,_,_,k=>k
 | .enum _,_,_,_,_,_,k=>k
 | .zip _ _,_,_,_,_,_,k=>k
 | .rev _,_,_,_,_,_,k=>k
 | .dwn _,_,_,_,_,_,k=>k
 | .items _,_,_,_,_,_,k=>k
theorem zA (hc:Mono cf):∀ (es:List E) {ρ:List Slot}{V V':List D->Store->Prop}{S:Store},(∀ x S,V x S->V' x S)->wpEs cf ρ es V S->wpEs cf ρ es V' S
 | [],_,_,_,_,h,k=>h _ _ k
 | e::es,_,_,_,_,h,k=>za hc e (λ_ _=>zx λ_=>zA hc es λ_ _=>h _ _) k
theorem W6 (hc:Mono cf):∀ (o:Option E) {ρ:List Slot}{V V':Option Int->Store->Prop}{S:Store},(∀ x S,V x S->V' x S)->wpO cf ρ o V S->wpO cf ρ o V' S
 | none,_,_,_,_,h,k=>h _ _ k
 | some e,_,_,_,_,h,k=>za hc e (λ_ _=>wg λ_=>h _ _) k
theorem zaM (hc:Mono cf):∀ (es:List E) {ρ:List Slot}{V V':Bool->Store->Prop}{S:Store},(∀ x S,V x S->V' x S)->wpF cf ρ es V S->wpF cf ρ es V' S
 | [],_,_,_,_,h,k=>h _ _ k
 | [e],_,_,_,_,h,k=>za hc e (λ_ _=>yN λ_=>h _ _) k
 | _::_::_,_,_,_,_,_,k=>k
theorem W7 (hc:Mono cf):∀ (e:E) {ρ:List Slot}{V V':List D->Store->Prop}{S:Store},(∀ x S,V x S->V' x S)->wpI cf ρ e V S->wpI cf ρ e V' S
 | .rng none e,_,_,_,_,h,k=>za hc e (λ_ _=>wg λ_=>zB (h _ _) id) k
 | .rng (some a) e,_,_,_,_,h,k=>za hc a (λ_ _=>za hc e λ_ _=>wg λ_=>wg λ_=>zB (h _ _) id) k
 | .enum e,_,_,_,_,h,k=>za hc e (λ_ _=>zx λ_=>zg λ_=>h _ _) k
 | .seq e,_,_,_,_,h,k=>za hc e (λ_ _=>zx λ_=>zg λ_=>h _ _) k
 | .var _,_,_,_,_,_,k=>k
 | .con _,_,_,_,_,_,k=>k
 | .glo _ _,_,_,_,_,_,k=>k
 | .bin _ _ _,_,_,_,_,_,k=>k
 | .neg _,_,_,_,_,_,k=>k
 | .cmp _ _ _,_,_,_,_,_,k=>k
 | .chn _ _ _ _ _,_,_,_,_,_,k=>k
 | .not _,_,_,_,_,_,k=>k
 | .and _ _,_,_,_,_,_,k=>k
 | .or _ _,_,_,_,_,_,k=>k
 | .ite _ _ _,_,_,_,_,_,k=>k
 | .tup _,_,_,_,_,_,k=>k
 | .lst _,_,_,_,_,_,k=>k
 | .dic _ _ _,_,_,_,_,_,k=>k
 | .sub _ _,_,_,_,_,_,k=>k
 | .slc _ _ _,_,_,_,_,_,k=>k
 | .bi _ _,_,_,_,_,_,k=>k
 | .mth _ _ _,_,_,_,_,_,k=>k
 | .call _ _,_,_,_,_,_,k=>k
 | .callk _ _ _,_,_,_,_,_,k=>k
 | .callv _ _,_,_,_,_,_,k=>k
 | .comp _ _ _ _ _,_,_,_,_,_,k=>k
 | .box _,_,_,_,_,_,k=>k
 | .one _,_,_,_,_,_,k=>k
 | .flip _,_,_,_,_,_,k=>k
 | .dk1 _ _,_,_,_,_,_,k=>k
 | .att _ _ _,_,_,_,_,_,k=>k
 | .met _ _ _ _,_,_,_,_,_,k=>k
 | .mk _ _ _,_,_,_,_,_,k=>k
 | .lam _ _ _,_,_,_,_,_,k=>k
 | .cvl _ _,_,_,_,_,_,k=>k
 | .fgt _,_,_,_,_,_,k=>k
 | .zip a b,_,_,_,_,h,k=>za hc a (λ_ _=>zx λ_=>za hc b λ_ _=>zx λ_=>zg λ_=>h _ _) k
 | .dwn es,_,_,_,_,h,k=>zA hc es (λ_ _=>zg λ_=>h _ _) k
 | .rev e,_,_,_,_,h,k=>za hc e (λ_ _=>wg λ_=>zB (h _ _) id) k
 | .keys _,_,_,_,_,_,k=>k
 | .items e,_,_,_,_,h,k=>za hc e (λ_ _=>zx λ_=>uW λ_=>QH λ_ _=>h _ _) k
end
theorem vB {s:Option Slot}{P Q:List D->Prop}(h:∀ a,P a->Q a):owL s P->owL s Q:=by
 cases s with
 | none=>exact id
 | some s=>
  cases s with
  | ow d=>cases d <;> first | exact h _ | exact id
  | _=>exact id
theorem zbm {s:Option Slot}{P Q:D->Prop}(h:∀ a,P a->Q a):owD s P->owD s Q:=by
 cases s with
 | none=>exact id
 | some s=>cases s <;> first | exact h _ | exact id
theorem VH {s:Option D}{P Q:List D->Prop}(h:∀ a,P a->Q a):isL s P->isL s Q:=by
 cases s with
 | none=>exact id
 | some s=>cases s <;> first | exact h _ | exact id
theorem Yb {x:Vl}{P Q:O->Prop}(h:∀ a,P a->Q a):retV x P->retV x Q:=by obtain ⟨d,k⟩:=x;cases k <;> first | exact h _ | exact id
theorem zbs {f f':List Slot->Store->Prop}{K K':Ko}(h:∀ ρ S,f ρ S->f' ρ S) (k:∀ o S,K o S->K' o S):∀ o S,nxt f K o S->nxt f' K' o S:=by intro o S;cases o <;> first | exact h _ _ | exact k _ _
theorem uI {f f':List Slot->Store->Prop}{K K':Ko}(h:∀ ρ S,f ρ S->f' ρ S) (k:∀ o S,K o S->K' o S):∀ o S,trn K f o S->trn K' f' o S:=by intro o S;cases o <;> first | exact h _ _ | exact k _ _
theorem Y0 {t:T}{b b':List Slot->Ko->Store->Prop}(hb:∀ ρ (V V':Ko) S,(∀ x S,V x S->V' x S)->b ρ V S->b' ρ V' S) {K K':Ko}(k:∀ o S,K o S->K' o S):∀ {l:List D}{ρ:List Slot}{S:Store},forW t b l ρ K S->forW t b' l ρ K' S
 | [],_,_,h=>k _ _ h
 | d::l,_,_,h=>zg (λ_=>hb _ _ _ _ (uI (λ_ _=>Y0 hb k) k)) h
theorem ZW {c:List Slot->Po->Store->Prop}{b b':List Slot->Ko->Store->Prop}(hc:∀ ρ (V V':Po) S,(∀ x S,V x S->V' x S)->c ρ V S->c ρ V' S) (hb:∀ ρ (V V':Ko) S,(∀ x S,V x S->V' x S)->b ρ V S->b' ρ V' S) {K K':Ko}(k:∀ o S,K o S->K' o S):∀ {n:Nat}{ρ:List Slot}{S:Store},whlW c b n ρ K S->whlW c b' n ρ K' S
 | 0,_,_,h=>h
 | n+1,_,_,h=>hc _ _ _ _ (λ_ _=>yN λ_=>zB (hb _ _ _ _ (uI (λ_ _=>ZW hc hb k) k)) (k _ _)) h
variable {w:Nat}
def XJ (cx:Xp->Cf):Prop:=∀ ex ex' f ds V V' S,(∀ c S,ex c S->ex' c S)->(∀ x S,V x S->V' x S)->cx ex f ds V S->cx ex' f ds V' S
theorem XJ.no {cx:Xp->Cf}(h:XJ cx) {ex:Xp}:Mono (cx ex):=λf ds V V' S q k=>h ex ex f ds V V' S (λ_ _=>id) q k
section
variable {cx:Xp->Cf}{w:Nat}
theorem za3 (hc:XJ cx) (e:E) {ex ex':Xp}{ρ:List Slot}{K K':Ko}{S:Store}(h:∀ o S,K o S->K' o S) (k:wpC cx ex w (.ret e) ρ K S):wpC cx ex' w (.ret e) ρ K' S:=by cases e <;> first | exact vg (λ_=>h _ _) (λ_=>h _ _) k | exact za hc.no _ (λ_ _=>Yb λ_=>h _ _) k
theorem za0 (hc:XJ cx) (t:T) (e:E) {ex ex':Xp}{ρ:List Slot}{K K':Ko}{S:Store}(h:∀ o S,K o S->K' o S) (k:wpC cx ex w (.set t e) ρ K S):wpC cx ex' w (.set t e) ρ K' S:=by cases e <;> first | exact za hc.no _ (λ_ _=>zg λ_=>h _ _) k | exact za hc.no _ (λ_ _=>Xl λ_=>zg λ_=>h _ _) k
mutual
theorem zaN (hc:XJ cx):∀ (c:C) {ex ex':Xp}{ρ:List Slot}{K K':Ko}{S:Store},(∀ c S,ex c S->ex' c S)->(∀ o S,K o S->K' o S)->wpC cx ex w c ρ K S->wpC cx ex' w c ρ K' S
 | .set t e,_,_,_,_,_,_,x,h,k=>za0 hc t e h (ex:=_) (ex':=_) k
 | .expr e,_,_,_,_,_,_,x,h,k=>za hc.no e (λ_ _=>h _ _) k
 | .ret e,_,_,_,_,_,_,x,h,k=>za3 hc e h (ex:=_) (ex':=_) k
 | .retN,_,_,_,_,_,_,x,h,k=>h _ _ k
 | .ite e A B,_,_,_,_,_,_,x,h,k=>za hc.no e (λ_ _=>yN λ_=>zB (yj hc A x h) (yj hc B x h)) k
 | .whl e A,ex,ex',ρ,K,K',S,x,h,k=>by
  have k:whlW (λρ=>wpE (cx noX) ρ e) (λρ=>wpCs cx ex w A ρ) w ρ K S:=k;refine ZW ?_ ?_ h k
  ·exact λρ V V' S q=>za hc.no e q
  ·exact λρ V V' S q=>yj hc A x q
 | .forr t it A,ex,ex',ρ,K,K',S,x,h,k=>by refine W7 hc.no it (λl S1 q=>?_) k;refine Y0 ?_ h q;exact λρ V V' S q=>yj hc A x q
 | .app i e,_,_,_,_,_,_,x,h,k=>vB (λ_=>za hc.no e λ_ _=>zx λ_=>zB (h _ _) id) k
 | .ext i e,_,_,_,_,_,_,x,h,k=>vB (λ_=>za hc.no e λ_ _=>zx λ_=>zg λ_=>zB (h _ _) id) k
 | .stv i a v,_,_,_,_,_,_,x,h,k=>zbm (λ_=>za hc.no v λ_ _=>zx λ_=>za hc.no a λ_ _=>zx λ_=>zg λ_=>h _ _) k
 | .sti o a v,_,_,_,_,_,_,x,h,k=>za hc.no v (λ_ _=>zx λ_=>za hc.no o λ_ _=>zx λ_=>za hc.no a λ_ _=>zx λ_=>uW λ_=>zg λ_=>zg λ_=>h _ _) k
 | .pop i,_,_,_,_,_,_,x,h,k=>vB (λ_=>zB (h _ _) id) k
 | .appR o e,_,_,_,_,_,_,x,h,k=>za hc.no o (λ_ _=>zx λ_=>uW λ_=>zB (za hc.no e λ_ _=>zx λ_=>VH λ_=>zB (h _ _) id) id) k
 | .popO t i,_,_,_,_,_,_,x,h,k=>vB (λ_=>zg λ_=>zg λ_=>h _ _) k
 | .popR t o,_,_,_,_,_,_,x,h,k=>za hc.no o (λ_ _=>zx λ_=>uW λ_=>VH λ_=>zg λ_=>zg λ_=>h _ _) k
 | .pass,_,_,_,_,_,_,x,h,k=>h _ _ k
 | .brk,_,_,_,_,_,_,x,h,k=>h _ _ k
 | .cnt,_,_,_,_,_,_,x,h,k=>h _ _ k
 | .frz i,_,_,_,_,_,_,x,h,k=>h _ _ k
 | .frk _,_,_,_,_,_,_,x,h,k=>k
 | .sta _ _ _ _,_,_,_,_,_,_,x,h,k=>k
 | .aua _ _ _ _ _,_,_,_,_,_,_,x,h,k=>k
 | .lin i es,_,_,_,_,_,_,x,h,k=>vB (λ_=>zA hc.no es λ_ _=>zg λ_=>h _ _) k
 | .rse c,_,_,_,_,_,_,x,h,k=>x _ _ k
 | .stx i f es,_,_,_,_,_,_,x,h,k=>zA hc.no es (λ_ _=>hc _ _ _ _ _ _ _ x λ_ _=>zg λ_=>h _ _) k
 | .rtx f es,_,_,_,_,_,_,x,h,k=>zA hc.no es (λ_ _=>hc _ _ _ _ _ _ _ x λ_ _=>Yb λ_=>h _ _) k
 | .trl tb j ce i hs k l,_,_,_,_,_,_,x,h,q=>vg (λ_=>vH λ_ _=>hc _ _ _ _ _ _ _ (λ_ _=>zB (zg λ_=>h _ _) id) λ_=>h _) (λ_=>vH λ_ _=>hc _ _ _ _ _ _ _ (λ_ _=>zB (zg λ_=>h _ _) id) λ_=>h _) q
 | .sw2 i j a b,_,_,_,_,_,_,x,h,k=>za hc.no a (λ_ _=>zx λ_=>za hc.no b λ_ _=>zx λ_=>zg λ_=>h _ _) k
 | .trx tb j f es ce i hb a b els,_,_,_,_,_,_,x,h,k=>zA hc.no es (λ_ _=>hc _ _ _ _ _ _ _ (λ_ _=>zB (zg λ_=>h _ _) id) λ_ _=>zg λ_=>yj hc els x h) k
 | .tri _ _ _ _ _ _,_,_,_,_,_,_,x,h,k=>k
 | .frr _,_,_,_,_,_,_,x,h,k=>k
theorem yj (hc:XJ cx):∀ (cs:List C) {ex ex':Xp}{ρ:List Slot}{K K':Ko}{S:Store},(∀ c S,ex c S->ex' c S)->(∀ o S,K o S->K' o S)->wpCs cx ex w cs ρ K S->wpCs cx ex' w cs ρ K' S
 | [],_,_,_,_,_,_,x,h,k=>h _ _ k
 | c::cs,_,_,_,_,_,_,x,h,k=>zaN hc c x (zbs (λ_ _=>yj hc cs x h) h) k
end
theorem JB {V V':Po}(h:∀ x S,V x S->V' x S):∀ o S,told V o S->told V' o S:=by intro o S;cases o <;> first | exact h _ _ | exact id
theorem yC {F:Nat->Option Fn}:∀ k,XJ (zb F w k)
 | 0=>λ_ _ _ _ _ _ _ _ _ h=>h
 | k+1=>λex ex' f ds V V' S hx h q=>zg (λ_ ⟨a,b⟩=>⟨a,yj (yC k) _ hx (JB h) b⟩) q
theorem zau {F:Nat->Option Fn}(k:Nat):Mono (ue F w k):=(yC k).no
end
theorem W8 (hc:Mono cf):∀ (es:List E) {ρ:List Slot}{W:List D->Store->Prop}{S:Store},wpEs cf ρ es W S->wpEs cf ρ es (λds S=>W ds S/\ds.length=es.length) S
 | [],_,_,_,h=>⟨h,rfl⟩
 | e::es,_,_,_,h=>za hc e (λ_ _=>zx λ_ q=>zA hc es (λ_ _ q=>⟨q.1,by rw [ϱ,q.2];rfl⟩) (W8 hc es q)) h
end
open PySem PySem.Spec PyProof.Rows L2
def Rdb (Γ:Gm) (H:Hp) (g:G):D->V->Prop
 | .tup ds,v=>∃ a vs,v=.ref a/\g.R a=some (.tup vs)/\Hass Γ g ds vs
 | .lst ds,v=>∃ a vs,v=.ref a/\H a=some (.lst vs)/\Hass Γ g ds vs
 | .dK ks ds,v=>∃ a vs,v=.ref a/\H a=some (.dK (ks.zip vs))/\ks.length=ds.length/\Hass Γ g ds vs
 | .dT ks ds,v=>∃ a vs,v=.ref a/\H a=some (.dT (ks.zip vs))/\ks.length=ds.length/\Hass Γ g ds vs
 | .non,v=>v=.non
 | .bl b,v=>v=.bl b
 | .int i,v=>v=.int i
 | .str x,v=>v=.str x
 | .ref _,v=>∃ a,v=.ref a
 | .fn f,v=>∃ a,Γ.fa f=some a/\v=.ref a
 | .scr ns,v=>∃ a,v=.ref a/\SqL Γ.K H a (ns.map V.int)
 | .ktp ds,v=>∃ a vs,v=.ref a/\KTup Γ.K a vs/\Hass Γ g ds vs
 | .kdc ps,v=>∃ a,v=.ref a/\KDic Γ.K a ps
 | .dF ks ds,v=>∃ a vs o,v=.ref a/\H a=some (.frz o (.dT (ks.zip vs)))/\ks.length=ds.length/\Hass Γ g ds vs
 | .ins _ _ _,v=>∃ a,v=.ref a
 | .lam f ds,v=>Has Γ g (.lam f ds) v
 | .tab _,v=>∃ a,v=.ref a
section
variable {Γ:Gm}{H H':Hp}{g g':G}{S:Store}{d:D}{v:V}{a:Addr}
theorem Ke (w:WOk Γ H g S) (h:Has Γ g d v):Rdb Γ H g (zE S d) v:=by
 cases d with
 | non=>exact h
 | bl=>exact h
 | int=>exact h
 | str=>exact h
 | fn f=>exact h
 | tup ds=>exact h
 | lst ds=>obtain ⟨a,vs,h1,h2,h3⟩:=h;exact ⟨a,vs,h1,w.rh _ _ h2,h3⟩
 | scr ns=>obtain ⟨a,h1,h2⟩:=h;exact ⟨a,h1,w.rh.seq h2⟩
 | dK ks ds=>obtain ⟨a,vs,h1,h2,h4,h3⟩:=h;exact ⟨a,vs,h1,w.rh _ _ h2,h4,h3⟩
 | dT ks ds=>obtain ⟨a,vs,h1,h2,h4,h3⟩:=h;exact ⟨a,vs,h1,w.rh _ _ h2,h4,h3⟩
 | ktp=>exact h
 | kdc=>exact h
 | dF ks ds=>obtain ⟨a,vs,o,h1,h2,h4,h3⟩:=h;exact ⟨a,vs,o,h1,w.rh _ _ h2,h4,h3⟩
 | ins=>obtain ⟨a,_,_,_,h1,_⟩:=h;exact ⟨a,h1⟩
 | lam=>exact h
 | tab=>obtain ⟨a,_,_,h1,_⟩:=h;exact ⟨a,h1⟩
 | ref k=>
  obtain ⟨a,h1,rfl⟩:=h;have hk:k < S.length:=by rw [<- w.len];exact (χ.mp h1).1
  have e:S[k]?=some S[k]:=π hk;have c:=w.cell k _ a e h1;show Rdb Γ H g ((S[k]?).getD .non) (.ref a)
  rw [e];show Rdb Γ H g S[k] (.ref a)
  generalize S[k]=x at c;cases x with
  | lst ds=>obtain ⟨vs,h1,h2⟩:=c;exact ⟨a,vs,rfl,h1,h2⟩
  | dK ks ds=>obtain ⟨vs,h1,h3,h2⟩:=c;exact ⟨a,vs,rfl,h1,h3,h2⟩
  | dT ks ds=>obtain ⟨vs,h1,h3,h2⟩:=c;exact ⟨a,vs,rfl,h1,h3,h2⟩
  | non=>exact c.elim
  | bl=>exact c.elim
  | int=>exact c.elim
  | str=>exact c.elim
  | tup=>exact c.elim
  | ref=>exact ⟨a,rfl⟩
  | fn=>exact c.elim
  | scr=>exact c.elim
  | ktp=>exact c.elim
  | kdc=>exact c.elim
  | dF=>exact c.elim
  | ins=>exact ⟨a,rfl⟩
  | lam=>exact c.elim
  | tab=>exact ⟨a,rfl⟩
def Fin (Γ:Gm) (H:Hp) (g:G) (S:Store) (d:D) (fr:Bool) (Q:VK):Prop:=
 ∀ v H' g',Step H g H' g'->Same H H'->WOk Γ H' g' S->VOk Γ H d fr v H' g'->Q v H'
variable {Q:VK}
theorem zp (w:WOk Γ H g S) (q:Fin Γ H g S d false Q) (h:Has Γ g d v):Q v H:=q v H g (Step.refl H g) (Same.refl H) w h
theorem WOk.laid {o:HO}(w:WOk Γ H g S) (h:H a=none):WOk Γ (upd H a o) g S where
 rh:=λb u q=>by have e:=w.rh b u q;rw [zc (zq e h)];exact e
 len:=w.len
 nd:=w.nd
 off:=w.off
 cell:=λk c b h1 h2=>(w.cell k c b h1 h2).mono (Le.refl g) λo e=>by rw [zc (zq e h)];exact e
theorem WOk.notR (w:WOk Γ H g S) (h:H a=none):g.R a=none:=by
 cases q:g.R a with
 | none=>rfl
 | some o=>rw [w.rh a o q] at h;cases h
theorem WOk.notA (w:WOk Γ H g S) (h:H a=none):a ∉ g.α:=λm=>by
 obtain ⟨k,hk,e⟩:=fH m;have hk':k < S.length:=by rw [<- w.len];exact hk
 obtain ⟨o,ho,_⟩:=(w.cell k _ a (π hk') (by rw [π hk,e])).U9;rw [ho] at h;cases h
theorem yp {o:HO}(h:H a=none):Same H (upd H a o):=λb u q=>by rw [zc (zq q h)];exact q
theorem Zt {ds:List D}{vs:List V}(w:WOk Γ H g S) (q:Fin Γ H g S (.tup ds) false Q) (h:Hass Γ g ds vs) (ha:H a=none):Q (.ref a) (upd H a (.tup vs)):=by have hr:=w.notR ha;refine q _ _ (g.put a (.tup vs)) ?_ (yp ha) ((w.laid ha).put zr hr (w.notA ha)) ⟨a,vs,rfl,zr,h.mono (Le.put hr)⟩;exact (Step.of_same (yp ha) (Le.refl g) (λ_ h=>.inl h) λ_ h=>.inl h).put hr ha
theorem v6 {ds:List D}{vs:List V}(w:WOk Γ H g S) (q:Fin Γ H g S (.lst ds) true Q) (h:Hass Γ g ds vs) (ha:H a=none):Q (.ref a) (upd H a (.lst vs)):=
 q _ _ g (Step.of_same (yp ha) (Le.refl g) (λ_ h=>.inl h) λ_ h=>.inl h) (yp ha) (w.laid ha) ⟨a,rfl,ha,w.notR ha,w.notA ha,vs,zr,h⟩
end
theorem zcx {n:Nat}(h:fits n=true):n < sizeLine:=Nat.lt_of_le_of_lt (of_decide_eq_true h) (by decide)
theorem xJ {n:Nat}(h:fits n=true):n<=sizeLine:=cg (zcx h)
def RDo (Γ:Gm) (r:R2) (a b:D) (d:D) (fr:Bool):Prop:=
 ∀ (S:Store) (H:Hp) (g:G) (x y:V) (Q:VK),WOk Γ H g S->Rdb Γ H g a x->Rdb Γ H g b y->Fin Γ H g S d fr Q->r x y H Q
section
variable {X:Cx}{Γ:Gm}
def zi6:R2:=λx y H Q=>∃ l b xs zs,x=.ref l/\y=.ref b/\H l=some (.lst xs)/\H b=some (.lst zs)/\xs.length+zs.length<=sizeLine/\∀ p,H p=none->Q (.ref p) (upd H p (.lst (xs++zs)))
theorem zdO:OpR X (bZ .Add) zi6:=by
 intro pJ s σ H x y v u Q I rx ry h;obtain ⟨l,b,xs,zs,rfl,rfl,hH,hB,hz,q⟩:=h;cases rx;cases ry;obtain ⟨z,its,n,r,e⟩:=I.hok _ _ hH;obtain ⟨z2,its2,n2,r2,e2⟩:=I.hok _ _ hB;have hl:=r.length;have hl2:=r2.length;refine PySem.P.add_list e e2 ?_ (by rw [ω,ω];omega);have ea:its.toArray++its2.toArray=(its++its2).toArray:=by simp
 rw [ea];exact ⟨.ref _,_,I.lnew (t':=s.toks) (r.append r2) (by rw [Ξ];omega),rfl,q _ I.fresh⟩
theorem VR {g:G}{ds:List D}{vs:List V}(h:Hass Γ g ds vs):∀ n:Nat,Hass Γ g (Α n ds).flatten (Α n vs).flatten
 | 0=>rfl
 | n+1=>by rw [aC,aC,b8,b8];exact h.app (VR h n)
def zi1:R2:=λx y H Q=>∃ l xs n,x=.ref l/\y=.int n/\H l=some (.lst xs)/\0<=n/\n < 2 ^ 20/\xs.length*n.toNat<=sizeLine/\∀ p,H p=none->Q (.ref p) (upd H p (.lst (Α n.toNat xs).flatten))
theorem zdK:OpR X (bZ .Mult) zi1:=by
 intro pJ s σ H x y v u Q I rx ry h;obtain ⟨l,xs,k,rfl,rfl,hH,k0,k1,hz,q⟩:=h;cases rx;obtain ⟨t,rfl⟩:=ry;obtain ⟨z,its,n,r,e⟩:=I.hok _ _ hH;have hl:=r.length;have hi:s.heap.get? l=some { cls:=.type "list",dict:=none,data:=.seq its.toArray n,slots:=#[] }:=e;have hz':its.toArray.size*k.toNat<=2 ^ 24:=by rw [ω,<- hl];rw [aJ] at hz;omega
 refine wpAny_binaryOp_repeat_ref (T:="list") (U:="int") (by decide) ⟨_,hi,rfl⟩ (λs'=>typeIs_int s' k t) noFill_list_mul F.fills_int_mul F.slot_int_rmul repeat_list F.slot_int_index.lookup
  (oZ F.slot_int_rmul (typeIs_int s k t) F.entry_int_rmul (F.args_int_rmul_2 _ _) (int___rmul___int_list k t l its.toArray n)
   ⟨hi,rfl,⟨_,hi,rfl⟩,oZ F.slot_list_mul ⟨_,hi,rfl⟩ F.entry_list_mul (F.args_list_mul_2 _ _)
    (AutoListH.list___mul___list_int_3 l its.toArray n k t (by simp [ώ.List.listFitsIndex];omega) (by omega) (by simp [dg,sizeLine];rw [ω] at hz';omega))
    ⟨hi,?_⟩⟩)
 have ea:List.foldl (λx1 x2=>x1++x2) #[] (Α (if its.toArray.isEmpty=true then 0 else k.toNat) its.toArray)=((Α k.toNat its).flatten).toArray:=by
  cases its with
  | nil=>
   have:(Α k.toNat ([]:List δ)).flatten=[]:=by induction k.toNat with
    | zero=>rfl
    | succ n ih=>rw [aC,b8,ih];rfl
   rw [this];rfl
  | cons a l=>
   have:((a::l).toArray.isEmpty=true)=False:=by simp
   rw [if_neg (by rw [this];exact id)];have:=J7 (a::l) k.toNat [];simpa using this
 rw [ea]
 exact ⟨.ref _,_,I.lnew (t':=s.toks) (W9 r _) (by
  have:(Α k.toNat xs).flatten.length=xs.length*k.toNat:=by rw [List.length_flatten,pI,List.sum_replicate_nat,Nat.mul_comm]
  rw [this];exact hz),rfl,q _ I.fresh⟩
theorem jo {f:Int->Int->Option Int}{a b:D}{p:D×Bool}(h:num2 f a b=some p):∃ i j k,a=.int i/\b=.int j/\f i j=some k/\p=(.int k,false):=by
 cases a with
 | int i=>
  cases b with
  | int j=>
   obtain ⟨k,e,rfl⟩:=ο.mp (show (f i j).map (λk=>(D.int k,false))=some p from h);exact ⟨i,j,k,rfl,rfl,e,rfl⟩
  | _=>cases h
 | _=>cases h
set_option tactic.hygienic true in
theorem ze2 {a b:D}{d:D}{fr:Bool}(hK:X.K=Γ.K) (h:addD a b=some (d,fr)):∃ r,OpR X (bZ .Add) r/\RDo Γ r a b d fr:=by
 cases a with
 | int i=>
  cases b with
  | int j=>
   cases h;exact ⟨_,zgF,λS H g x y Q w hx hy q=>⟨_,_,hx,hy,zp w q rfl⟩⟩
  | _=>cases h
 | str s=>
  cases b with
  | str u=>
   have h:(if fits (s.length+u.length)=true then some (D.str (s++u),false) else none)=some (d,fr):=h;split at h
   ·rename_i hf
    cases h;exact ⟨_,UJ,λS H g x y Q w hx hy q=>⟨_,_,hx,hy,xJ hf,zp w q rfl⟩⟩
   ·cases h
  | _=>cases h
 | tup s=>
  cases b with
  | tup u=>
   have h:(if fits (s.length+u.length)=true then some (D.tup (s++u),false) else none)=some (d,fr):=h;split at h
   ·rename_i hf
    cases h;refine ⟨_,zdN.or zbo,λS H g x y Q w ⟨a,xs,e1,e2,e3⟩ ⟨b,ys,f1,f2,f3⟩ q=>?_⟩;rw [hK];have h1:=e3.len;have h2:=f3.len;have hz:=xJ hf;by_cases hx:xs=[]
    ·subst hx;refine .inr ⟨a,b,ys,e1,f1,SqT.of (w.rh _ _ e2),SqT.of (w.rh _ _ f2),?_⟩;have e0:=bD.mp h1.symm;subst e0;exact zp w q ⟨b,ys,rfl,f2,f3⟩
    ·refine .inl ⟨a,b,xs,ys,e1,f1,SqT.of (w.rh _ _ e2),SqT.of (w.rh _ _ f2),hx,by lia,λz=>?_,λ_ p hp=>Zt w q (e3.app f3) hp⟩;subst z;have e0:=bD.mp h2.symm;subst e0;refine zp w q ⟨a,xs,rfl,e2,?_⟩;rw [Ο];exact e3
   ·cases h
  | _=>cases h
 | lst s=>
  cases b with
  | lst u=>
   have h:(if fits (s.length+u.length)=true then some (D.lst (s++u),true) else none)=some (d,fr):=h;split at h
   ·rename_i hf
    cases h;refine ⟨_,zdO,λS H g x y Q w ⟨a,xs,e1,e2,e3⟩ ⟨b,ys,f1,f2,f3⟩ q=>?_⟩;have h1:=e3.len;have h2:=f3.len;have hz:=xJ hf;exact ⟨a,b,xs,ys,e1,f1,e2,f2,by lia,λp hp=>v6 w q (e3.app f3) hp⟩
   ·cases h
  | _=>cases h
 | _=>cases h
set_option tactic.hygienic true in
theorem zd3 {a b:D}{d:D}{fr:Bool}(h:mulD a b=some (d,fr)):∃ r,OpR X (bZ .Mult) r/\RDo Γ r a b d fr:=by
 cases a with
 | int i=>
  cases b with
  | int j=>
   have h:(if (zX i||zX j)=true then some (D.int (i*j),false) else none)=some (d,fr):=h;split at h
   ·rename_i hf
    cases h;refine ⟨_,zgz,λS H g x y Q w hx hy q=>⟨_,_,hx,hy,?_,zp w q rfl⟩⟩;simp only [zX,fG,ε,decide_eq_true_eq] at hf;exact hf
   ·cases h
  | _=>cases h
 | lst l=>
  cases b with
  | int n=>
   have h:(if (decide (0<=n)&&decide (n < 2 ^ 20)&&fits (l.length*n.toNat))=true then some (D.lst (Α n.toNat l).flatten,true) else none)=some (d,fr):=h;split at h
   ·rename_i hf
    cases h;simp only [ε,decide_eq_true_eq] at hf;refine ⟨_,zdK,λS H g x y Q w ⟨a,xs,e1,e2,e3⟩ hy q=>?_⟩;have h1:=e3.len;have hz:=xJ hf.2;exact ⟨a,xs,_,e1,hy,e2,hf.1.1,hf.1.2,by rw [h1];exact hz,λp hp=>v6 w q (VR e3 _) hp⟩
   ·cases h
  | _=>cases h
 | _=>cases h
set_option tactic.hygienic true in
theorem zgw {op:lF}{a b:D}{d:D}{fr:Bool}(hK:X.K=Γ.K) (h:opD op a b=some (d,fr)):∃ r,OpR X (bZ op) r/\RDo Γ r a b d fr:=by
 cases op with
 | Add=>exact ze2 hK h
 | Mult=>exact zd3 h
 | Sub=>
  obtain ⟨i,j,k,rfl,rfl,e,e2⟩:=jo h;cases e;cases e2;exact ⟨_,zgv,λS H g x y Q w hx hy q=>⟨_,_,hx,hy,zp w q rfl⟩⟩
 | FloorDiv=>
  obtain ⟨i,j,k,rfl,rfl,e,e2⟩:=jo h;cases e2;split at e
  ·rename_i hf
   cases e;refine ⟨_,zbn,λS H g x y Q w hx hy q=>⟨_,_,hx,hy,?_,zp w q rfl⟩⟩;simp only [ε,decide_eq_true_eq] at hf;exact hf
  ·cases e
 | Mod=>
  obtain ⟨i,j,k,rfl,rfl,e,e2⟩:=jo h;cases e2;split at e
  ·rename_i hf
   cases e;exact ⟨_,zgA,λS H g x y Q w hx hy q=>⟨_,_,hx,hy,of_decide_eq_true hf,zp w q rfl⟩⟩
  ·cases e
 | Pow=>
  obtain ⟨i,j,k,rfl,rfl,e,e2⟩:=jo h;cases e2;split at e
  ·rename_i hf
   cases e;refine ⟨_,zgx,λS H g x y Q w hx hy q=>⟨_,_,hx,hy,?_,zp w q rfl⟩⟩;simp only [zX,ε,decide_eq_true_eq] at hf;exact ⟨hf.1.1,hf.1.2,by omega⟩
  ·cases e
 | _=>cases h
end
open PySem PySem.Spec PyProof.Rows L2 SeqAt
section
variable {X:Cx}{pJ:List (Addr×Obj)}{σ:L2.St}{H:Hp}{s:μ}{Γ:Gm}{g:G}
theorem zc4 (sr:Same g.R H) {a:Addr}{xs ys:List V}(h:g.R a=some (.tup xs)) (h':g.R a=some (.tup ys)):xs=ys:=by rw [h] at h';cases h';rfl
theorem zdo (sr:Same g.R H) {a:Addr}{xs ys:List V}(h:g.R a=some (.lst xs)) (h':g.R a=some (.lst ys)):xs=ys:=by rw [h] at h';cases h';rfl
theorem zfm (sr:Same g.R H) {a b:Addr}{xs ys:List V}(h:g.R a=some (.lst xs)) (h':g.R b=some (.tup ys)):a≠b:=by rintro rfl;rw [h] at h';cases h'
mutual
theorem Zu (I:Inv X pJ σ H s) (hK:X.K=Γ.K) (sr:Same g.R H):∀ (n:Nat) (a b:D) (x:V),okP n a=true->okP n b=true->Has Γ g a x->Has Γ g b x->eqP a b=true
 | n,.non,b,x,_,kb,ha,hb=>by
  cases (show x=.non from ha);cases b with
  | non=>rfl
  | bl=>cases (show V.non=_ from hb)
  | int=>cases (show V.non=_ from hb)
  | str=>cases (show V.non=_ from hb)
  | tup=>obtain ⟨_,_,h,_⟩:=hb;cases h
  | lst=>obtain ⟨_,_,h,_⟩:=hb;cases h
  | _=>cases n <;> exact nobE kb
 | n,.bl c,b,x,_,kb,ha,hb=>by
  cases (show x=.bl c from ha);cases b with
  | non=>cases (show V.bl c=_ from hb)
  | bl=>cases (show V.bl c=_ from hb);exact beq_self_eq_true c
  | int=>cases (show V.bl c=_ from hb)
  | str=>cases (show V.bl c=_ from hb)
  | tup=>obtain ⟨_,_,h,_⟩:=hb;cases h
  | lst=>obtain ⟨_,_,h,_⟩:=hb;cases h
  | _=>cases n <;> exact nobE kb
 | n,.int c,b,x,_,kb,ha,hb=>by
  cases (show x=.int c from ha);cases b with
  | non=>cases (show V.int c=_ from hb)
  | bl=>cases (show V.int c=_ from hb)
  | int=>cases (show V.int c=_ from hb);exact beq_self_eq_true c
  | str=>cases (show V.int c=_ from hb)
  | tup=>obtain ⟨_,_,h,_⟩:=hb;cases h
  | lst=>obtain ⟨_,_,h,_⟩:=hb;cases h
  | _=>cases n <;> exact nobE kb
 | n,.str c,b,x,_,kb,ha,hb=>by
  cases (show x=.str c from ha);cases b with
  | non=>cases (show V.str c=_ from hb)
  | bl=>cases (show V.str c=_ from hb)
  | int=>cases (show V.str c=_ from hb)
  | str=>cases (show V.str c=_ from hb);exact beq_self_eq_true c
  | tup=>obtain ⟨_,_,h,_⟩:=hb;cases h
  | lst=>obtain ⟨_,_,h,_⟩:=hb;cases h
  | _=>cases n <;> exact nobE kb
 | 0,.tup as,b,x,ka,_,_,_=>nobE ka
 | n+1,.tup as,b,x,ka,kb,⟨a,xs,h1,h2,h3⟩,hb=>by
  subst h1;cases b with
  | non=>cases (show V.ref a=_ from hb)
  | bl=>cases (show V.ref a=_ from hb)
  | int=>cases (show V.ref a=_ from hb)
  | str=>cases (show V.ref a=_ from hb)
  | tup bs=>
   obtain ⟨a',ys,f1,f2,f3⟩:=hb;cases f1;have e:=zc4 sr h2 f2;subst e;exact jG I hK sr n as bs xs ka kb h3 f3
  | lst bs=>
   obtain ⟨a',ys,f1,f2,f3⟩:=hb;cases f1;exact absurd rfl (zfm sr f2 h2)
  | _=>exact nobE kb
 | 0,.lst as,b,x,ka,_,_,_=>nobE ka
 | n+1,.lst as,b,x,ka,kb,⟨a,xs,h1,h2,h3⟩,hb=>by
  subst h1;cases b with
  | non=>cases (show V.ref a=_ from hb)
  | bl=>cases (show V.ref a=_ from hb)
  | int=>cases (show V.ref a=_ from hb)
  | str=>cases (show V.ref a=_ from hb)
  | tup bs=>
   obtain ⟨a',ys,f1,f2,f3⟩:=hb;cases f1;exact absurd rfl (zfm sr h2 f2)
  | lst bs=>
   obtain ⟨a',ys,f1,f2,f3⟩:=hb;cases f1;have e:=zdo sr h2 f2;subst e;exact jG I hK sr n as bs xs ka kb h3 f3
  | _=>exact nobE kb
 | n,.dK _ _,b,x,ka,_,_,_=>by revert ka;cases n <;> exact nobE
 | n,.dT _ _,b,x,ka,_,_,_=>by revert ka;cases n <;> exact nobE
 | n,.ref _,b,x,ka,_,_,_=>by revert ka;cases n <;> exact nobE
 | n,.fn _,b,x,ka,_,_,_=>by revert ka;cases n <;> exact nobE
 | n,.scr _,b,x,ka,_,_,_=>by revert ka;cases n <;> exact nobE
 | n,.ktp _,b,x,ka,_,_,_=>by revert ka;cases n <;> exact nobE
 | n,.kdc _,b,x,ka,_,_,_=>by revert ka;cases n <;> exact nobE
 | n,.dF _ _,b,x,ka,_,_,_=>by revert ka;cases n <;> exact nobE
 | n,.ins _ _ _,b,x,ka,_,_,_=>by revert ka;cases n <;> exact nobE
 | n,.lam _ _,b,x,ka,_,_,_=>by revert ka;cases n <;> exact nobE
 | n,.tab _,b,x,ka,_,_,_=>by revert ka;cases n <;> exact nobE
theorem jG (I:Inv X pJ σ H s) (hK:X.K=Γ.K) (sr:Same g.R H):∀ (n:Nat) (as bs:List D) (xs:List V),okPs n as=true->okPs n bs=true->Hass Γ g as xs->Hass Γ g bs xs->eqPs as bs=true
 | n,[],bs,xs,_,_,ha,hb=>by
  cases (show xs=[] from ha);cases bs with
  | nil=>rfl
  | cons=>obtain ⟨_,_,h,_⟩:=hb;cases h
 | n,a::as,bs,xs,ka,kb,⟨v,r,h1,h2,h3⟩,hb=>by
  subst h1;cases bs with
  | nil=>cases (show _=[] from hb)
  | cons b bs=>
   obtain ⟨v',r',f1,f2,f3⟩:=hb;cases f1;have ka':(okP n a&&okPs n as)=true:=ka;have kb':(okP n b&&okPs n bs)=true:=kb;rw [ε] at ka' kb';show (eqP a b&&eqPs as bs)=true
   rw [Zu I hK sr n a b v ka'.1 kb'.1 h2 f2,jG I hK sr n as bs r ka'.2 kb'.2 h3 f3];rfl
end
theorem uY:∀ (as bs:List D),as.length=bs.length->eqPs as bs=(ό as.length).all λi=>eqP (as.getD i .non) (bs.getD i .non)
 | [],[],_=>rfl
 | a::as,b::bs,h=>by
  have ih:=uY as bs (by simpa using h);show (eqP a b&&eqPs as bs)=_
  rw [ih,ϱ,List.range_succ_eq_map,fB,fM];rfl
 | [],_::_,h=>by simp at h
 | _::_,[],h=>by simp at h
theorem uX:∀ (as bs:List D),as.length≠bs.length->eqPs as bs=false
 | [],[],h=>absurd rfl h
 | a::as,b::bs,h=>by
  show (eqP a b&&eqPs as bs)=_
  rw [uX as bs (by simpa using h),iI]
 | [],_::_,h=>rfl
 | _::_,[],h=>rfl
theorem uV {as bs:List D}{xs ys:List V}{us ws:List δ}{n:Nat}{A:ϙ}(ka:okPs n as=true) (kb:okPs n bs=true) (ha:Hass Γ g as xs) (hb:Hass Γ g bs ys) (ra:Vals xs us) (rb:Vals ys ws)
  (ih:∀ (a b:D) (x y:V) (u v:δ),a∈as->okP n a=true->okP n b=true->Has Γ g a x->Has Γ g b y->RelV x u->RelV y v->EqAt A s u v (eqP a b)):
  ∀ (j:Nat) (h1:j < us.toArray.size) (h2:j < ws.toArray.size),EqAt A s us.toArray[j] ws.toArray[j] (eqP (as.getD j .non) (bs.getD j .non)):=by
 intro j h1 h2;have l1:=ra.length;have l2:=rb.length;have l3:=ha.len;have l4:=hb.len;simp only [ω] at h1 h2;have k1:j < as.length:=by lia
 have k2:j < bs.length:=by lia
 obtain ⟨x,ex,hx⟩:=ha.get (π k1);obtain ⟨y,ey,hy⟩:=hb.get (π k2);obtain ⟨u,eu,ru⟩:=ra.get ex;obtain ⟨v,ev,rv⟩:=rb.get ey;have e1:us.toArray[j]'(by simpa using h1)=u:=by simpa [π h1] using eu
 have e2:ws.toArray[j]'(by simpa using h2)=v:=by simpa [π h2] using ev
 have g1:as.getD j .non=as[j]:=by simp [aW,k1]
 have g2:bs.getD j .non=bs[j]:=by simp [aW,k2]
 rw [e1,e2,g1,g2];have all:∀ (l:List D),okPs n l=true->∀ d∈l,okP n d=true:=by
  intro l
  induction l with
  | nil=>intro _ d hd;cases hd
  | cons c l il=>
   intro k d hd;have k':(okP n c&&okPs n l)=true:=k;rw [ε] at k';rcases Ε.mp hd with rfl | hd
   ·exact k'.1
   ·exact il k'.2 d hd
 exact ih _ _ x y u v (aN k1) (all as ka _ (aN k1)) (all bs kb _ (aN k2)) hx hy ru rv
theorem isT {a:Addr}{its:Array δ}{h:Heap}(p:IsTup h a its):h.IsTuple a its:=p
theorem units_in1 (A:ϙ):A.in1.units=A.units+1:=rfl
noncomputable def scD:D->Option V
 | .non=>some .non
 | .bl b=>some (.bl b)
 | .int i=>some (.int i)
 | .str x=>some (.str x)
 | _=>none
theorem xN {d:D}{w x:V}(h:scD d=some w) (hh:Has Γ g d x):x=w:=by
 cases d <;> first | cases h | skip
 all_goals exact hh
theorem uL {d:D}{w:V}(h:scD d=some w):zep w=true:=by
 cases d <;> first | cases h | skip
 all_goals rfl
theorem zch {a b:D}{x y:V}(h:scD a=some x) (h':scD b=some y):eqV x y=eqP a b:=by
 cases a <;> first | cases h | skip
 all_goals (cases b <;> first | cases h' | skip)
 all_goals rfl
theorem z6 {n:Nat}{d:D}(h:okP n d=true):(∃ w,scD d=some w)\/(∃ m ds,n=m+1/\d=.tup ds/\okPs m ds=true)\/(∃ m ds,n=m+1/\d=.lst ds/\okPs m ds=true):=by
 cases d with
 | non=>exact .inl ⟨_,rfl⟩
 | bl=>exact .inl ⟨_,rfl⟩
 | int=>exact .inl ⟨_,rfl⟩
 | str=>exact .inl ⟨_,rfl⟩
 | tup ds=>cases n with
  | zero=>exact nobE h
  | succ m=>exact .inr (.inl ⟨m,ds,rfl,rfl,h⟩)
 | lst ds=>cases n with
  | zero=>exact nobE h
  | succ m=>exact .inr (.inr ⟨m,ds,rfl,rfl,h⟩)
 | _=>cases n <;> exact nobE h
section
variable {A:ϙ}{l:Addr}{its:Array δ}{w:V}{v:δ}{d:D}
theorem zaz (p:s.heap.IsTuple l its) (hu:A.units < ϸ) (h:scD d=some w) (r:RelV w v):EqAt A s (.ref l) v false:=by
 cases d with
 | non=>cases h;cases (show v=Κ from r);exact EqAt.tuple_none p hu
 | bl b=>cases h;cases (show v=ϒ b from r);exact EqAt.tuple_bool b p hu
 | int i=>cases h;obtain ⟨t,rfl⟩:=(show ∃ t,v=Ϟ i t from r);exact EqAt.tuple_int i t p hu
 | str i=>cases h;obtain ⟨t,rfl⟩:=(show ∃ t,v=bB i t from r);exact EqAt.tuple_str i t p hu
 | _=>cases h
theorem zaA (p:s.heap.IsTuple l its) (hu:A.units < ϸ) (h:scD d=some w) (r:RelV w v):EqAt A s v (.ref l) false:=by
 cases d with
 | non=>cases h;cases (show v=Κ from r);exact EqAt.none_tuple p hu
 | bl b=>cases h;cases (show v=ϒ b from r);exact EqAt.bool_tuple b p hu
 | int i=>cases h;obtain ⟨t,rfl⟩:=(show ∃ t,v=Ϟ i t from r);exact EqAt.int_tuple i t p hu
 | str i=>cases h;obtain ⟨t,rfl⟩:=(show ∃ t,v=bB i t from r);exact EqAt.str_tuple i t p hu
 | _=>cases h
theorem zaC (p:s.heap.IsList l its) (hu:A.units < ϸ) (h:scD d=some w) (r:RelV w v):EqAt A s (.ref l) v false:=by
 cases d with
 | non=>cases h;cases (show v=Κ from r);exact EqAt.list_none p hu
 | bl b=>cases h;cases (show v=ϒ b from r);exact EqAt.list_bool b p hu
 | int i=>cases h;obtain ⟨t,rfl⟩:=(show ∃ t,v=Ϟ i t from r);exact EqAt.list_int i t p hu
 | str i=>cases h;obtain ⟨t,rfl⟩:=(show ∃ t,v=bB i t from r);exact EqAt.list_str i t p hu
 | _=>cases h
theorem zaB (p:s.heap.IsList l its) (hu:A.units < ϸ) (h:scD d=some w) (r:RelV w v):EqAt A s v (.ref l) false:=by
 cases d with
 | non=>cases h;cases (show v=Κ from r);exact EqAt.none_list p hu
 | bl b=>cases h;cases (show v=ϒ b from r);exact EqAt.bool_list b p hu
 | int i=>cases h;obtain ⟨t,rfl⟩:=(show ∃ t,v=Ϟ i t from r);exact EqAt.int_list i t p hu
 | str i=>cases h;obtain ⟨t,rfl⟩:=(show ∃ t,v=bB i t from r);exact EqAt.str_list i t p hu
 | _=>cases h
end
theorem yd {d:D}{w:V}{bs:List D}(h:scD d=some w):eqP d (.tup bs)=false/\eqP (.tup bs) d=false/\eqP d (.lst bs)=false/\eqP (.lst bs) d=false:=by
 cases d <;> first | cases h | skip
 all_goals exact ⟨rfl,rfl,rfl,rfl⟩
theorem zcl {as bs:List D}{xs ys:List V}{us ws:List δ}(r1:Vals xs us) (r2:Vals ys ws) (h3:Hass Γ g as xs) (f3:Hass Γ g bs ys):
  ((ό (min us.toArray.size ws.toArray.size)).all (λj=>eqP (as.getD j .non) (bs.getD j .non))&&us.toArray.size==ws.toArray.size)=eqPs as bs:=by
 have l1:=r1.length;have l2:=r2.length;have l3:=h3.len;have l4:=f3.len;simp only [ω];by_cases hl:as.length=bs.length
 ·rw [uY as bs hl];have m1:us.length=as.length:=by lia
  have m2:ws.length=as.length:=by lia
  rw [m1,m2];simp
 ·rw [uX as bs hl];have:¬ us.length=ws.length:=by lia
  simp [this]
theorem zcm {as bs:List D}{xs ys:List V}{us ws:List δ}{a b:Addr}{n:Nat}{A:ϙ}(ka:okPs n as=true) (kb:okPs n bs=true) (p1:PlainL s.heap a us.toArray) (p2:PlainL s.heap b ws.toArray) (r1:Vals xs us) (r2:Vals ys ws)
  (h3:Hass Γ g as xs) (f3:Hass Γ g bs ys) (hu:A.units < ϸ) (ih:∀ (a b:D) (x y:V) (u v:δ),a∈as->okP n a=true->okP n b=true->Has Γ g a x->Has Γ g b y->RelV x u->RelV y v->EqAt A.in1 s u v (eqP a b)):
  RcAt A s (.ref a) (.ref b) (eqPs as bs):=by
 have l1:=r1.length;have l2:=r2.length;have l3:=h3.len;have l4:=f3.len;by_cases hl:as.length=bs.length
 ·have k:=RcAt.lists p1.isList p2.isList (by simp only [ω];lia) hu (uV (A:=A.in1) ka kb h3 f3 r1 r2 ih);have m1:us.toArray.size=as.length:=by simp only [ω];lia
  rw [m1,<- uY as bs hl] at k;exact k
 ·rw [uX as bs hl];exact RcAt.lists_lengths (A:=A) p1.isList p2.isList (by simp only [ω,bne_iff_ne];lia) hu
theorem Zv (I:Inv X pJ σ H s) (hK:X.K=Γ.K) (sr:Same g.R H):∀ (n:Nat) (a b:D) (x y:V) (u v:δ) (A:ϙ),A.units+n+1 < ϸ->okP n a=true->okP n b=true->Has Γ g a x->Has Γ g b y->RelV x u->RelV y v->EqAt A s u v (eqP a b):=by
 intro n
 induction n with
 | zero=>
  intro a b x y u v A hu ka kb ha hb ru rv;rcases z6 ka with ⟨w,hw⟩ | ⟨m,ds,e,_⟩ | ⟨m,ds,e,_⟩
  ·rcases z6 kb with ⟨w',hw'⟩ | ⟨m,ds,e,_⟩ | ⟨m,ds,e,_⟩
   ·rw [xN hw ha] at ru;rw [xN hw' hb] at rv;rw [<- zch hw hw'];exact zcI ru rv (uL hw) (uL hw')
   ·cases e
   ·cases e
  ·cases e
  ·cases e
 | succ n ih=>
  intro a b x y u v A hu ka kb ha hb ru rv;have hu':A.units < ϸ:=by lia
  have hin:A.in1.units+n+1 < ϸ:=by rw [units_in1];lia
  rcases z6 ka with ⟨w,hw⟩ | ⟨m,as,e,e1,kas⟩ | ⟨m,as,e,e1,kas⟩
  ·rcases z6 kb with ⟨w',hw'⟩ | ⟨m,bs,e,e2,kbs⟩ | ⟨m,bs,e,e2,kbs⟩
   ·rw [xN hw ha] at ru;rw [xN hw' hb] at rv;rw [<- zch hw hw'];exact zcI ru rv (uL hw) (uL hw')
   ·subst e2;rw [xN hw ha] at ru;obtain ⟨b,ys,rfl,f2,f3⟩:=hb;cases rv;obtain ⟨ws,r2,p2,_⟩:=I.tuple (SqT.of (sr _ _ f2));rw [(yd hw).1];exact zaA (isT p2) hu' hw ru
   ·subst e2;rw [xN hw ha] at ru;obtain ⟨b,ys,rfl,f2,f3⟩:=hb;cases rv;obtain ⟨ws,r2,p2,_⟩:=I.list (SqL.of (sr _ _ f2));rw [(yd hw).2.2.1];exact zaB p2.isList hu' hw ru
  ·subst e1;cases e;obtain ⟨a,xs,rfl,h2,h3⟩:=ha;cases ru;obtain ⟨us,r1,p1,_⟩:=I.tuple (SqT.of (sr _ _ h2));rcases z6 kb with ⟨w',hw'⟩ | ⟨m,bs,e,e2,kbs⟩ | ⟨m,bs,e,e2,kbs⟩
   ·rw [xN hw' hb] at rv;rw [(yd hw').2.1];exact zaz (isT p1) hu' hw' rv
   ·subst e2;cases e;obtain ⟨b,ys,rfl,f2,f3⟩:=hb;cases rv;by_cases e:a=b
    ·subst e;have:=Zu I hK sr (n+1) (.tup as) (.tup bs) (.ref a) ka kb ⟨a,xs,rfl,h2,h3⟩ ⟨a,ys,rfl,f2,f3⟩;rw [this];exact EqAt.same _
    ·obtain ⟨ws,r2,p2,_⟩:=I.tuple (SqT.of (sr _ _ f2));have k:=RcAt.tuples (isT p1) (isT p2) hu' (uV (A:=A.in1) kas kbs h3 f3 r1 r2 λa b x y u v _ ka kb ha hb ru rv=>ih a b x y u v A.in1 hin ka kb ha hb ru rv);rw [zcl r1 r2 h3 f3] at k;exact EqAt.of_refs e k
   ·subst e2;cases e;obtain ⟨b,ys,rfl,f2,f3⟩:=hb;cases rv;obtain ⟨ws,r2,p2,_⟩:=I.list (SqL.of (sr _ _ f2));exact EqAt.tuple_list (isT p1) p2.isList hu'
  ·subst e1;cases e;obtain ⟨a,xs,rfl,h2,h3⟩:=ha;cases ru;obtain ⟨us,r1,p1,_⟩:=I.list (SqL.of (sr _ _ h2));rcases z6 kb with ⟨w',hw'⟩ | ⟨m,bs,e,e2,kbs⟩ | ⟨m,bs,e,e2,kbs⟩
   ·rw [xN hw' hb] at rv;rw [(yd hw').2.2.2];exact zaC p1.isList hu' hw' rv
   ·subst e2;cases e;obtain ⟨b,ys,rfl,f2,f3⟩:=hb;cases rv;obtain ⟨ws,r2,p2,_⟩:=I.tuple (SqT.of (sr _ _ f2));exact EqAt.list_tuple p1.isList (isT p2) hu'
   ·subst e2;cases e;obtain ⟨b,ys,rfl,f2,f3⟩:=hb;cases rv;by_cases e:a=b
    ·subst e;have:=Zu I hK sr (n+1) (.lst as) (.lst bs) (.ref a) ka kb ⟨a,xs,rfl,h2,h3⟩ ⟨a,ys,rfl,f2,f3⟩;rw [this];exact EqAt.same _
    ·obtain ⟨ws,r2,p2,_⟩:=I.list (SqL.of (sr _ _ f2));exact EqAt.of_refs e (zcm kas kbs p1 p2 r1 r2 h3 f3 hu' λa b x y u v _ ka kb ha hb ru rv=>ih a b x y u v A.in1 hin ka kb ha hb ru rv)
end
section
variable {X:Cx}{pJ:List (Addr×Obj)}{σ:L2.St}{H:Hp}{s:μ}{Γ:Gm}{g:G}
section
variable {A:ϙ}{l:Addr}{its:Array δ}{w:V}{v:δ}{d:D}
theorem Ye (p:s.heap.IsTuple l its) (hu:A.units < ϸ) (h:scD d=some w) (r:RelV w v):RcAt A s (.ref l) v false/\RcAt A s v (.ref l) false/\ϯ A s (.ref l) v true/\ϯ A s v (.ref l) true:=by
 cases d with
 | non=>cases h;cases (show v=Κ from r);exact ⟨RcAt.tuple_none p hu,RcAt.none_tuple p hu,ϯ.tuple_none p hu,ϯ.none_tuple p hu⟩
 | bl b=>cases h;cases (show v=ϒ b from r);exact ⟨RcAt.tuple_bool b p hu,RcAt.bool_tuple b p hu,ϯ.tuple_bool b p hu,ϯ.bool_tuple b p hu⟩
 | int i=>cases h;obtain ⟨t,rfl⟩:=(show ∃ t,v=Ϟ i t from r);exact ⟨RcAt.tuple_int i t p hu,RcAt.int_tuple i t p hu,ϯ.tuple_int i t p hu,ϯ.int_tuple i t p hu⟩
 | str i=>cases h;obtain ⟨t,rfl⟩:=(show ∃ t,v=bB i t from r);exact ⟨RcAt.tuple_str i t p hu,RcAt.str_tuple i t p hu,ϯ.tuple_str i t p hu,ϯ.str_tuple i t p hu⟩
 | _=>cases h
theorem Yg (p:s.heap.IsList l its) (hu:A.units < ϸ) (h:scD d=some w) (r:RelV w v):RcAt A s (.ref l) v false/\RcAt A s v (.ref l) false/\ϯ A s (.ref l) v true/\ϯ A s v (.ref l) true:=by
 cases d with
 | non=>cases h;cases (show v=Κ from r);exact ⟨RcAt.list_none p hu,RcAt.none_list p hu,ϯ.list_none p hu,ϯ.none_list p hu⟩
 | bl b=>cases h;cases (show v=ϒ b from r);exact ⟨RcAt.list_bool b p hu,RcAt.bool_list b p hu,ϯ.list_bool b p hu,ϯ.bool_list b p hu⟩
 | int i=>cases h;obtain ⟨t,rfl⟩:=(show ∃ t,v=Ϟ i t from r);exact ⟨RcAt.list_int i t p hu,RcAt.int_list i t p hu,ϯ.list_int i t p hu,ϯ.int_list i t p hu⟩
 | str i=>cases h;obtain ⟨t,rfl⟩:=(show ∃ t,v=bB i t from r);exact ⟨RcAt.list_str i t p hu,RcAt.str_list i t p hu,ϯ.list_str i t p hu,ϯ.str_list i t p hu⟩
 | _=>cases h
theorem za5 {a b:D}{x y:V}{u v:δ}(h:scD a=some x) (h':scD b=some y) (r:RelV x u) (r':RelV y v):RcAt A s u v (eqP a b)/\ϯ A s u v (!eqP a b):=by
 cases a with
 | non=>
  cases h;cases (show u=Κ from r);cases b with
  | non=>cases h';cases (show v=Κ from r');exact ⟨RcAt.none_none,ϯ.none_none⟩
  | bl b=>cases h';cases (show v=ϒ b from r');exact ⟨RcAt.none_bool _,ϯ.none_bool _⟩
  | int b=>cases h';obtain ⟨t,rfl⟩:=(show ∃ t,v=Ϟ b t from r');exact ⟨RcAt.none_int _ _,ϯ.none_int _ _⟩
  | str b=>cases h';obtain ⟨t,rfl⟩:=(show ∃ t,v=bB b t from r');exact ⟨RcAt.none_str _ _,ϯ.none_str _ _⟩
  | _=>cases h'
 | bl a=>
  cases h;cases (show u=ϒ a from r);cases b with
  | non=>cases h';cases (show v=Κ from r');exact ⟨RcAt.bool_none _,ϯ.bool_none _⟩
  | bl b=>cases h';cases (show v=ϒ b from r');exact ⟨RcAt.bool_bool _ _,ϯ.bool_bool _ _⟩
  | int b=>cases h';obtain ⟨t,rfl⟩:=(show ∃ t,v=Ϟ b t from r');exact ⟨RcAt.bool_int _ _ _,ϯ.bool_int _ _ _⟩
  | str b=>cases h';obtain ⟨t,rfl⟩:=(show ∃ t,v=bB b t from r');exact ⟨RcAt.bool_str _ _ _,ϯ.bool_str _ _ _⟩
  | _=>cases h'
 | int a=>
  cases h;obtain ⟨t',rfl⟩:=(show ∃ t,u=Ϟ a t from r)
  cases b with
  | non=>cases h';cases (show v=Κ from r');exact ⟨RcAt.int_none _ _,ϯ.int_none _ _⟩
  | bl b=>cases h';cases (show v=ϒ b from r');exact ⟨RcAt.int_bool _ _ _,ϯ.int_bool _ _ _⟩
  | int b=>cases h';obtain ⟨t,rfl⟩:=(show ∃ t,v=Ϟ b t from r');exact ⟨RcAt.int_int _ _ _ _,ϯ.int_int _ _ _ _⟩
  | str b=>cases h';obtain ⟨t,rfl⟩:=(show ∃ t,v=bB b t from r');exact ⟨RcAt.int_str _ _ _ _,ϯ.int_str _ _ _ _⟩
  | _=>cases h'
 | str a=>
  cases h;obtain ⟨t',rfl⟩:=(show ∃ t,u=bB a t from r)
  cases b with
  | non=>cases h';cases (show v=Κ from r');exact ⟨RcAt.str_none _ _,ϯ.str_none _ _⟩
  | bl b=>cases h';cases (show v=ϒ b from r');exact ⟨RcAt.str_bool _ _ _,ϯ.str_bool _ _ _⟩
  | int b=>cases h';obtain ⟨t,rfl⟩:=(show ∃ t,v=Ϟ b t from r');exact ⟨RcAt.str_int _ _ _ _,ϯ.str_int _ _ _ _⟩
  | str b=>cases h';obtain ⟨t,rfl⟩:=(show ∃ t,v=bB b t from r');exact ⟨RcAt.str_str _ _ _ _,ϯ.str_str _ _ _ _⟩
  | _=>cases h'
 | _=>cases h
end
theorem vV {d:D}{w x:V}(h:scD d=some w) (hh:Rdb Γ H g d x):x=w:=by
 cases d <;> first | cases h | skip
 all_goals exact hh
theorem rc_D (I:Inv X pJ σ H s) (hK:X.K=Γ.K) (sr:Same g.R H) (n:Nat) (a b:D) (x y:V) (u v:δ) (A:ϙ) (hu:A.units+n+1 < ϸ) (ka:okP n a=true) (kb:okP n b=true) (ha:Rdb Γ H g a x) (hb:Rdb Γ H g b y) (ru:RelV x u) (rv:RelV y v):
  RcAt A s u v (eqP a b)/\ϯ A s u v (!eqP a b):=by
 have hu':A.units < ϸ:=by lia
 rcases z6 ka with ⟨w,hw⟩ | ⟨m,as,e,e1,kas⟩ | ⟨m,as,e,e1,kas⟩
 ·rcases z6 kb with ⟨w',hw'⟩ | ⟨m,bs,e,e2,kbs⟩ | ⟨m,bs,e,e2,kbs⟩
  ·rw [vV hw ha] at ru;rw [vV hw' hb] at rv;exact za5 hw hw' ru rv
  ·subst e2;rw [vV hw ha] at ru;obtain ⟨b,ys,rfl,f2,f3⟩:=hb;cases rv;obtain ⟨ws,r2,p2,_⟩:=I.tuple (SqT.of (sr _ _ f2));rw [(yd hw).1];have k:=Ye (A:=A) (isT p2) hu' hw ru;exact ⟨k.2.1,k.2.2.2⟩
  ·subst e2;rw [vV hw ha] at ru;obtain ⟨b,ys,rfl,f2,f3⟩:=hb;cases rv;obtain ⟨ws,r2,p2,_⟩:=I.list (SqL.of f2);rw [(yd hw).2.2.1];have k:=Yg (A:=A) p2.isList hu' hw ru;exact ⟨k.2.1,k.2.2.2⟩
 ·subst e1;cases e;have hin:A.in1.units+m+1 < ϸ:=by rw [units_in1];lia
  obtain ⟨a,xs,rfl,h2,h3⟩:=ha;cases ru;obtain ⟨us,r1,p1,_⟩:=I.tuple (SqT.of (sr _ _ h2));rcases z6 kb with ⟨w',hw'⟩ | ⟨m',bs,e,e2,kbs⟩ | ⟨m',bs,e,e2,kbs⟩
  ·rw [vV hw' hb] at rv;rw [(yd hw').2.1];have k:=Ye (A:=A) (isT p1) hu' hw' rv;exact ⟨k.1,k.2.2.1⟩
  ·subst e2;cases e;obtain ⟨b,ys,rfl,f2,f3⟩:=hb;cases rv;obtain ⟨ws,r2,p2,_⟩:=I.tuple (SqT.of (sr _ _ f2));have it:=uV (A:=A.in1) kas kbs h3 f3 r1 r2 λa b x y u v _ ka kb ha hb ru rv=>Zv I hK sr m a b x y u v A.in1 hin ka kb ha hb ru rv
   have k1:=RcAt.tuples (isT p1) (isT p2) hu' it;have k2:=ϯ.tuples (isT p1) (isT p2) hu' it;rw [zcl r1 r2 h3 f3] at k1 k2;exact ⟨k1,k2⟩
  ·subst e2;cases e;obtain ⟨b,ys,rfl,f2,f3⟩:=hb;cases rv;obtain ⟨ws,r2,p2,_⟩:=I.list (SqL.of f2);exact ⟨RcAt.tuple_list (isT p1) p2.isList hu',ϯ.tuple_list (isT p1) p2.isList hu'⟩
 ·subst e1;cases e;have hin:A.in1.units+m+1 < ϸ:=by rw [units_in1];lia
  obtain ⟨a,xs,rfl,h2,h3⟩:=ha;cases ru;obtain ⟨us,r1,p1,_⟩:=I.list (SqL.of h2);rcases z6 kb with ⟨w',hw'⟩ | ⟨m',bs,e,e2,kbs⟩ | ⟨m',bs,e,e2,kbs⟩
  ·rw [vV hw' hb] at rv;rw [(yd hw').2.2.2];have k:=Yg (A:=A) p1.isList hu' hw' rv;exact ⟨k.1,k.2.2.1⟩
  ·subst e2;cases e;obtain ⟨b,ys,rfl,f2,f3⟩:=hb;cases rv;obtain ⟨ws,r2,p2,_⟩:=I.tuple (SqT.of (sr _ _ f2));exact ⟨RcAt.list_tuple p1.isList (isT p2) hu',ϯ.list_tuple p1.isList (isT p2) hu'⟩
  ·subst e2;cases e;obtain ⟨b,ys,rfl,f2,f3⟩:=hb;cases rv;obtain ⟨ws,r2,p2,_⟩:=I.list (SqL.of f2);have ih:∀ (a b:D) (x y:V) (u v:δ),a∈as->okP m a=true->okP m b=true->Has Γ g a x->Has Γ g b y->RelV x u->RelV y v->EqAt A.in1 s u v (eqP a b):=λa b x y u v _ ka kb ha hb ru rv=>Zv I hK sr m a b x y u v A.in1 hin ka kb ha hb ru rv
   refine ⟨zcm kas kbs p1 p2 r1 r2 h3 f3 hu' ih,?_⟩;have l1:=r1.length;have l2:=r2.length;have l3:=h3.len;have l4:=f3.len;show ϯ A s _ _ (!eqPs as bs)
   by_cases hl:as.length=bs.length
   ·have k:=ϯ.lists p1.isList p2.isList (by simp only [ω];lia) hu' (uV (A:=A.in1) kas kbs h3 f3 r1 r2 ih);have m1:us.toArray.size=as.length:=by simp only [ω];lia
    rw [m1,<- uY as bs hl] at k;exact k
   ·rw [uX as bs hl];exact ϯ.lists_lengths (A:=A) p1.isList p2.isList (by simp only [ω,bne_iff_ne];lia) hu'
end
def rDat (Γ:Gm) (a b:D) (z:D):R2:=λx y H Q=>∃ g,Same g.R H/\Rdb Γ H g a x/\Rdb Γ H g b y/\∀ v,(∀ g,Has Γ g z v)->Q v H
theorem Vj {Γ:Gm}{a b:D}{c:Bool}:RDo Γ (rDat Γ a b (.bl c)) a b (.bl c) false:=λS H g x y Q w hx hy q=>⟨g,w.rh,hx,hy,λv hv=>zp w q (hv g)⟩
section
variable {X:Cx}{Γ:Gm}
theorem zgE (hK:X.K=Γ.K) (hu:X.A.units+61 < ϸ) {a b:D}(ka:okP 60 a=true) (kb:okP 60 b=true):OpR X (ϔ .Eq) (rDat Γ a b (.bl (eqP a b))):=by intro pJ s σ H x y v u Q I rx ry ⟨g,sr,ha,hb,q⟩;exact (rc_D I hK sr 60 a b x y v u X.A hu ka kb ha hb rx ry).1 X.prog X.w X.xe _ ⟨.bl _,H,I,rfl,q _ λ_=>rfl⟩
theorem zgy (hK:X.K=Γ.K) (hu:X.A.units+61 < ϸ) {a b:D}(ka:okP 60 a=true) (kb:okP 60 b=true):OpR X (ϔ .NotEq) (rDat Γ a b (.bl (!eqP a b))):=by intro pJ s σ H x y v u Q I rx ry ⟨g,sr,ha,hb,q⟩;exact (rc_D I hK sr 60 a b x y v u X.A hu ka kb ha hb rx ry).2 X.prog X.w X.xe _ ⟨.bl _,H,I,rfl,q _ λ_=>rfl⟩
end
section
variable {Γ:Gm}{H:Hp}{g:G}
theorem qp {d:D}{x:V}(h:Rdb Γ H g d x):decide (x=.non)=isNone d:=by
 cases d with
 | non=>cases (show x=.non from h);rfl
 | bl=>cases (show x=.bl _ from h);rfl
 | int=>cases (show x=.int _ from h);rfl
 | str=>cases (show x=.str _ from h);rfl
 | tup=>obtain ⟨_,_,rfl,_⟩:=h;rfl
 | lst=>obtain ⟨_,_,rfl,_⟩:=h;rfl
 | dK=>obtain ⟨_,_,rfl,_⟩:=h;rfl
 | dT=>obtain ⟨_,_,rfl,_⟩:=h;rfl
 | ref=>obtain ⟨_,rfl⟩:=h;rfl
 | fn=>obtain ⟨_,_,rfl⟩:=h;rfl
 | scr=>obtain ⟨_,rfl,_⟩:=h;rfl
 | ktp=>obtain ⟨_,_,rfl,_⟩:=h;rfl
 | kdc=>obtain ⟨_,rfl,_⟩:=h;rfl
 | dF=>obtain ⟨_,_,_,rfl,_⟩:=h;rfl
 | ins=>obtain ⟨_,rfl⟩:=h;rfl
 | lam=>obtain ⟨_,_,_,_,_,_,_,_,_,_,_,rfl,_⟩:=h;rfl
 | tab=>obtain ⟨_,rfl⟩:=h;rfl
theorem uQ {κ:Type} [DecidableEq κ] (k:κ):∀ {ks:List κ}{ds:List D}{vs:List V},ks.length=ds.length->Hass Γ g ds vs ->
  (∀ d,yW ks ds k=some d->∃ v,valV (ks.zip vs) k=some v/\Has Γ g d v)/\(yW ks ds k=none->valV (ks.zip vs) k=none)
 | [],[],vs,_,h=>by
  refine ⟨λd e=>?_,λ_=>?_⟩
  ·simp [yW,jE] at e
  ·rfl
 | k'::ks,d'::ds,vs,hl,⟨v,r,e1,hv,hr⟩=>by
  subst e1;have ih:=uQ k (ks:=ks) (ds:=ds) (vs:=r) (by simpa using hl) hr;show (∀ d,yW (k'::ks) (d'::ds) k=some d->∃ v',valV ((k',v)::ks.zip r) k=some v'/\_)/\(_->valV ((k',v)::ks.zip r) k=none)
  by_cases e:k'=k
  ·have e2:yW (k'::ks) (d'::ds) k=some d':=by simp [yW,jE,e]
   rw [e2,uG (p:=(k',v)) e];exact ⟨λd h=>⟨v,rfl,by cases h;exact hv⟩,λh=>by cases h⟩
  ·have e2:yW (k'::ks) (d'::ds) k=yW ks ds k:=by simp only [yW,jE,if_neg e];cases jE ks k <;> rfl
   rw [e2,uH (p:=(k',v)) e];exact ih
 | [],_::_,_,hl,_=>by simp at hl
 | _::_,[],_,hl,_=>by simp at hl
theorem zee {d:D}{k:Key}{x:V}(h:keyD d=some k) (hh:Rdb Γ H g d x):x=kV k:=by
 cases d <;> first | cases h | skip
 all_goals exact hh
theorem VB {d:D}{k:Key}{x:V}(h:keyD d=some k) (hh:Has Γ g d x):x=kV k:=by
 cases d <;> first | cases h | skip
 all_goals exact hh
set_option tactic.hygienic true in
theorem uU:∀ {l:List D}{ks:List Key}{xs:List V},Zg l=some ks->Hass Γ g l xs->xs=ks.map kV
 | [],ks,xs,h,hh=>by cases (show some []=some ks from h);exact hh
 | d::l,ks,xs,h,⟨v,r,e,hv,hr⟩=>by
  subst e;simp only [Zg] at h;split at h
  ·rename_i k ks' e1 e2
   cases h;rw [VB e1 hv,uU e2 hr];rfl
  ·cases h
theorem zad {S:Store}{c k:D}{o:Option D}{x y:V}(w:WOk Γ H g S) (h:xR c k=some o) (hc:Rdb Γ H g c x) (hk:Rdb Γ H g k y):
  ∃ a v,x=.ref a/\DGet H a y v/\IsD H a/\(∀ d,o=some d->∃ u,v=some u/\Has Γ g d u)/\(o=none->v=none):=by
 cases c with
 | dK ks ds=>
  obtain ⟨a,vs,rfl,h1,h2,h3⟩:=hc;simp only [xR,ο] at h;obtain ⟨k',e1,e2⟩:=h;obtain ⟨z1,z2⟩:=uQ k' h2 h3;refine ⟨a,valV (ks.zip vs) k',rfl,.inl ⟨_,k',.inl h1,zee e1 hk,rfl⟩,.inl ⟨_,.inl h1⟩,λd e=>?_,λe=>?_⟩
  ·exact z1 d (e2.trans e)
  ·exact z2 (e2.trans e)
 | dT ks ds=>
  obtain ⟨a,vs,rfl,h1,h2,h3⟩:=hc;cases k with
  | tup t=>
   obtain ⟨b,ys,rfl,f1,f2⟩:=hk;simp only [xR,ο] at h;obtain ⟨k',e1,e2⟩:=h;obtain ⟨z1,z2⟩:=uQ k' h2 h3;have ey:=uU e1 f2;refine ⟨a,valV (ks.zip vs) k',rfl,.inr ⟨_,k',b,.inl h1,rfl,by rw [<- ey];exact w.rh _ _ f1,rfl⟩,.inr ⟨_,.inl h1⟩,λd e=>?_,λe=>?_⟩
   ·exact z1 d (e2.trans e)
   ·exact z2 (e2.trans e)
  | _=>cases h
 | dF ks ds=>
  obtain ⟨a,vs,o,rfl,h1,h2,h3⟩:=hc;cases k with
  | tup t=>
   obtain ⟨b,ys,rfl,f1,f2⟩:=hk;simp only [xR,ο] at h;obtain ⟨k',e1,e2⟩:=h;obtain ⟨z1,z2⟩:=uQ k' h2 h3;have ey:=uU e1 f2;refine ⟨a,valV (ks.zip vs) k',rfl,.inr ⟨_,k',b,.inr ⟨o,h1⟩,rfl,by rw [<- ey];exact w.rh _ _ f1,rfl⟩,.inr ⟨_,.inr ⟨o,h1⟩⟩,λd e=>?_,λe=>?_⟩
   ·exact z1 d (e2.trans e)
   ·exact z2 (e2.trans e)
  | _=>cases h
 | _=>cases h
end
section
variable {X:Cx}{Γ:Gm}
def rInD (neg:Bool):R2:=λx y H Q=>∃ a o,y=.ref a/\DGet H a x o/\Q (.bl (if neg then !o.isSome else o.isSome)) H
theorem zgD (hu:X.A.units+1 < ϸ):OpR X (ϔ .In) (rInD false):=by intro pJ s σ H x y v u Q I rx ry ⟨a,o,e,h,q⟩;subst e;cases ry;exact d_in hu I h rx λs' I'=>⟨.bl o.isSome,H,I',rfl,q⟩
theorem KJ (hu:X.A.units+1 < ϸ):OpR X (ϔ .NotIn) (rInD true):=by intro pJ s σ H x y v u Q I rx ry ⟨a,o,e,h,q⟩;subst e;cases ry;exact zeB hu I h rx λs' I'=>⟨.bl (!o.isSome),H,I',rfl,q⟩
theorem zfA {H:Hp}{g:G}{S:Store}{d:D}{l:List D}{x:V}(hK:X.K=Γ.K) (w:WOk Γ H g S) (h:seqD d=some l) (hd:Rdb Γ H g d x):∃ a xs,x=.ref a/\(SqL X.K H a xs\/SqT X.K H a xs)/\Hass Γ g l xs:=by
 cases d with
 | tup ds=>cases h;obtain ⟨a,vs,e,h1,h2⟩:=hd;exact ⟨a,vs,e,.inr (SqT.of (w.rh _ _ h1)),h2⟩
 | lst ds=>cases h;obtain ⟨a,vs,e,h1,h2⟩:=hd;exact ⟨a,vs,e,.inl (SqL.of h1),h2⟩
 | scr ns=>cases h;obtain ⟨a,e,h1⟩:=hd;exact ⟨a,_,e,.inl (by rw [hK];exact h1),Hass.ints⟩
 | ktp ds=>cases h;obtain ⟨a,vs,e,h1,h2⟩:=hd;exact ⟨a,vs,e,.inr (by rw [hK];exact .inr h1),h2⟩
 | _=>cases h
theorem zht {H:Hp}{g:G}{a:D}{x:V}(h:isSc a=true) (hx:Rdb Γ H g a x):Has Γ g a x:=by
 cases a with
 | non | bl _ | int _ | str _ | tup _=>exact hx
 | _=>cases (show false=true from h)
theorem zfH {a:D}(h:isSc a=true):okP 59 a=true:=by
 cases a with
 | lst _=>cases (show false=true from h)
 | _=>exact h
noncomputable def memE (Γ:Gm) (g:G) (l:List D) (a:D) (w:δ):Bool:=@decide (∃ d∈l,∃ y,Has Γ g d y/\RelV y w/\eqP d a=true) (aG _)
theorem uO {g:G}{l:List D}{a:D}{w:δ}:memE Γ g l a w=true ↔ ∃ d∈l,∃ y,Has Γ g d y/\RelV y w/\eqP d a=true:=⟨@of_decide_eq_true _ (aG _),@decide_eq_true _ (aG _)⟩
theorem zcv {g:G}:∀ {l:List D}{xs:List V}{us:List δ},Hass Γ g l xs->Vals xs us->∀ d∈l,∃ y w,w∈us/\Has Γ g d y/\RelV y w
 | [],_,_,_,_,d,hd=>by cases hd
 | c::l,_,_,⟨v,r,rfl,hc,hr⟩,.cons q t,d,hd=>by
  rcases Ε.mp hd with rfl | hd
  ·exact ⟨v,_,ξ,hc,q⟩
  ·obtain ⟨y,w,h1,h2⟩:=zcv hr t d hd;exact ⟨y,w,ι _ h1,h2⟩
theorem Wj {g:G}:∀ {l:List D}{xs:List V}{us:List δ},Hass Γ g l xs->Vals xs us->∀ w∈us,∃ d∈l,∃ y,Has Γ g d y/\RelV y w
 | [],_,_,h,t,w,hw=>by cases (show _=[] from h);cases t;cases hw
 | c::l,_,_,⟨v,r,rfl,hc,hr⟩,.cons q t,w,hw=>by
  rcases Ε.mp hw with rfl | hw
  ·exact ⟨c,ξ,v,hc,q⟩
  ·obtain ⟨d,h1,h2⟩:=Wj hr t w hw;exact ⟨d,ι _ h1,h2⟩
theorem uP {g:G}{l:List D}{a:D}{xs:List V}{us:List δ}(h:Hass Γ g l xs) (t:Vals xs us):us.toArray.any (memE Γ g l a)=l.any λd=>eqP d a:=by
 rw [show us.toArray.any (memE Γ g l a)=us.any (memE Γ g l a) by simp,cR,bN,bN];constructor
 ·rintro ⟨w,_,e⟩;obtain ⟨d,hd,_,_,_,q⟩:=uO.mp e;exact ⟨d,hd,q⟩
 ·rintro ⟨d,hd,q⟩;obtain ⟨y,w,h1,h2,h3⟩:=zcv h t d hd;exact ⟨w,h1,uO.mpr ⟨d,hd,y,h2,h3,q⟩⟩
theorem Zd {pJ:List (Addr×Obj)}{σ:L2.St}{H:Hp}{s:μ}{g:G}{l:List D}{a:D}{x:V}{v:δ}{xs:List V}{us:List δ}(I:Inv X pJ σ H s) (hK:X.K=Γ.K) (sr:Same g.R H) (hu:X.A.units+61 < ϸ) (ka:isSc a=true) (kl:l.all isSc=true) (hx:Rdb Γ H g a x) (rx:RelV x v) (h:Hass Γ g l xs) (t:Vals xs us) (w:δ) (hw:w∈us.toArray):fP X.A.in1 s w v (memE Γ g l a w):=by
 have go:∀ d∈l,∀ y,Has Γ g d y->RelV y w->fP X.A.in1 s w v (eqP d a):=λd hd y h1 h2=>Zv I hK sr 59 d a y x w v _ (by rw [units_in1];omega) (zfH (ϡ.mp kl d hd)) (zfH ka) h1 (zht ka hx) h2 rx
 cases e:memE Γ g l a w with
 | true=>
  obtain ⟨d,hd,y,h1,h2,q⟩:=uO.mp e;rw [<- q];exact go d hd y h1 h2
 | false=>
  obtain ⟨d,hd,y,h1,h2⟩:=Wj h t w (by simpa using hw);have q:eqP d a=false:=gq.mpr λq=>gq.mp e (uO.mpr ⟨d,hd,y,h1,h2,q⟩)
  rw [<- q];exact go d hd y h1 h2
theorem Vw {pJ:List (Addr×Obj)}{σ:L2.St}{H:Hp}{s:μ}{g:G}{l m:List D}{x:V}{v:δ}(I:Inv X pJ σ H s) (hu:X.A.units+61 < ϸ) (kl:l.all isStr=true) (hx:Rdb Γ H g (.lst m) x) (rx:RelV x v):∀ {xs:List V}{us:List δ},Hass Γ g l xs->Vals xs us->∀ w∈us.toArray,fP X.A.in1 s w v ((λ_=>false) w):=by
 intro xs us h t w hw;obtain ⟨d,hd,y,h1,h2⟩:=Wj h t w (by simpa using hw);have hs:=ϡ.mp kl d hd;obtain ⟨p,ys,rfl,hp,_⟩:=hx;cases rx;obtain ⟨its,r,pl,hz⟩:=I.list (SqL.of hp);cases d with
 | str z=>
  cases (show y=.str z from h1);obtain ⟨t,rfl⟩:=h2;exact fP.str_list z t pl.isList (by rw [units_in1];omega)
 | _=>cases hs
theorem zen {l m:List D}{b:D}(hK:X.K=Γ.K) (hu:X.A.units+61 < ϸ) (hs:seqD b=some l) (kl:l.all isStr=true):(∃ r,OpR X (ϔ .In) r/\RDo Γ r (.lst m) b (.bl false) false)/\∃ r,OpR X (ϔ .NotIn) r/\RDo Γ r (.lst m) b (.bl true) false:=by
 refine ⟨⟨λx y H Q=>∃ g S,WOk Γ H g S/\Rdb Γ H g (.lst m) x/\Rdb Γ H g b y/\∀ v,(∀ g,Has Γ g (.bl false) v)->Q v H,?_,λS H g x y Q w hx hy q=>⟨g,S,w,hx,hy,λv hv=>zp w q (hv g)⟩⟩,λx y H Q=>∃ g S,WOk Γ H g S/\Rdb Γ H g (.lst m) x/\Rdb Γ H g b y/\∀ v,(∀ g,Has Γ g (.bl true) v)->Q v H,?_,λS H g x y Q w hx hy q=>⟨g,S,w,hx,hy,λv hv=>zp w q (hv g)⟩⟩
 all_goals
  intro pJ s σ H x y v u Q I rx ry ⟨g,S,w,hx,hy,q⟩;obtain ⟨p,xs,e,hq,hh⟩:=zfA hK w hs hy;subst e;cases ry;have no:∀ us:List δ,us.toArray.any (λ_=>false)=false:=λus=>by simp
  rcases hq with hq | hq
 ·obtain ⟨its,r,pl,hz⟩:=I.list hq;refine mQ (λ_=>false) pl.isList (Vw I hu kl hx rx hh r) ⟨.bl _,H,I,rfl,?_⟩;rw [no];exact q _ λ_=>rfl
 ·obtain ⟨its,r,pl,hz⟩:=I.tuple hq;refine mK (λ_=>false) pl (Vw I hu kl hx rx hh r) ⟨.bl _,H,I,rfl,?_⟩;rw [no];exact q _ λ_=>rfl
 ·obtain ⟨its,r,pl,hz⟩:=I.list hq;refine lX (λ_=>false) pl.isList (Vw I hu kl hx rx hh r) ⟨.bl _,H,I,rfl,?_⟩;rw [no];exact q _ λ_=>rfl
 ·obtain ⟨its,r,pl,hz⟩:=I.tuple hq;refine lN (λ_=>false) pl (Vw I hu kl hx rx hh r) ⟨.bl _,H,I,rfl,?_⟩;rw [no];exact q _ λ_=>rfl
set_option tactic.hygienic true in
theorem zhq {l:List D}{a b:D}{c:Bool}(hK:X.K=Γ.K) (hu:X.A.units+61 < ϸ) (hs:seqD b=some l) (h:memD l a=some c):(∃ r,OpR X (ϔ .In) r/\RDo Γ r a b (.bl c) false)/\∃ r,OpR X (ϔ .NotIn) r/\RDo Γ r a b (.bl (!c)) false:=by
 have h:(if (isSc a&&l.all isSc)=true then some (l.any λy=>eqP y a) else if (isLs a&&l.all isStr)=true then some false else none)=some c:=h;by_cases hf:(isSc a&&l.all isSc)=true
 ·rw [if_pos hf] at h;cases h;rw [ε] at hf;refine ⟨⟨λx y H Q=>∃ g S,WOk Γ H g S/\Rdb Γ H g a x/\Rdb Γ H g b y/\∀ v,(∀ g,Has Γ g (.bl (l.any λy=>eqP y a)) v)->Q v H,?_,λS H g x y Q w hx hy q=>⟨g,S,w,hx,hy,λv hv=>zp w q (hv g)⟩⟩,λx y H Q=>∃ g S,WOk Γ H g S/\Rdb Γ H g a x/\Rdb Γ H g b y/\∀ v,(∀ g,Has Γ g (.bl (!l.any λy=>eqP y a)) v)->Q v H,?_,λS H g x y Q w hx hy q=>⟨g,S,w,hx,hy,λv hv=>zp w q (hv g)⟩⟩
  all_goals
   intro pJ s σ H x y v u Q I rx ry ⟨g,S,w,hx,hy,q⟩;obtain ⟨p,xs,e,hq,hh⟩:=zfA hK w hs hy;subst e;cases ry;rcases hq with hq | hq
  ·obtain ⟨its,r,pl,hz⟩:=I.list hq;refine mQ (memE Γ g l a) pl.isList (Zd I hK w.rh hu hf.1 hf.2 hx rx hh r) ⟨.bl _,H,I,rfl,?_⟩;rw [uP hh r];exact q _ λ_=>rfl
  ·obtain ⟨its,r,pl,hz⟩:=I.tuple hq;refine mK (memE Γ g l a) pl (Zd I hK w.rh hu hf.1 hf.2 hx rx hh r) ⟨.bl _,H,I,rfl,?_⟩;rw [uP hh r];exact q _ λ_=>rfl
  ·obtain ⟨its,r,pl,hz⟩:=I.list hq;refine lX (memE Γ g l a) pl.isList (Zd I hK w.rh hu hf.1 hf.2 hx rx hh r) ⟨.bl _,H,I,rfl,?_⟩;rw [uP hh r];exact q _ λ_=>rfl
  ·obtain ⟨its,r,pl,hz⟩:=I.tuple hq;refine lN (memE Γ g l a) pl (Zd I hK w.rh hu hf.1 hf.2 hx rx hh r) ⟨.bl _,H,I,rfl,?_⟩;rw [uP hh r];exact q _ λ_=>rfl
 ·rw [if_neg hf] at h;split at h
  ·rename_i hl
   cases h;rw [ε] at hl;cases a with
   | lst m=>exact zen hK hu hs hl.2
   | _=>cases hl.1
  ·cases h
theorem QR {a b:D}{neg:Bool}{o:Option D}(hu1:X.A.units+1 < ϸ) (e:xR b a=some o):RDo Γ (rInD neg) a b (.bl (if neg then !o.isSome else o.isSome)) false:=by
 intro S H g x y Q w hx hy q;obtain ⟨p,v,e1,e2,_,e3,e4⟩:=zad w e hy hx;refine ⟨p,v,e1,e2,zp w q ?_⟩;cases o with
 | none=>rw [e4 rfl];rfl
 | some d=>obtain ⟨z,hz,_⟩:=e3 d rfl;rw [hz];rfl
theorem Zq {f:Int->Int->Bool}{a b:D}{c:Bool}(h:int2 f a b=some c):∃ i j,a=.int i/\b=.int j/\c=f i j:=by
 cases a with
 | int i=>
  cases b with
  | int j=>cases h;exact ⟨i,j,rfl,rfl,rfl⟩
  | _=>cases h
 | _=>cases h
theorem QS {a b:D}{c:Bool}(hK:X.K=Γ.K) (hu:X.A.units+61 < ϸ) (hu1:X.A.units+1 < ϸ) (h:inD a b=some c):(∃ r,OpR X (ϔ .In) r/\RDo Γ r a b (.bl c) false)/\∃ r,OpR X (ϔ .NotIn) r/\RDo Γ r a b (.bl (!c)) false:=by
 have sq:∀ l,seqD b=some l->memD l a=some c->(∃ r,OpR X (ϔ .In) r/\RDo Γ r a b (.bl c) false)/\∃ r,OpR X (ϔ .NotIn) r/\RDo Γ r a b (.bl (!c)) false:=λl h1 h2=>zhq hK hu h1 h2
 have dc:(xR b a).map (·.isSome)=some c->(∃ r,OpR X (ϔ .In) r/\RDo Γ r a b (.bl c) false)/\∃ r,OpR X (ϔ .NotIn) r/\RDo Γ r a b (.bl (!c)) false:=λh=>by obtain ⟨o,e,rfl⟩:=ο.mp h;exact ⟨⟨_,zgD hu1,QR (neg:=false) hu1 e⟩,_,KJ hu1,QR (neg:=true) hu1 e⟩
 cases b with
 | lst l=>exact sq l rfl h
 | tup l=>exact sq l rfl h
 | ktp l=>exact sq l rfl h
 | str y=>
  cases a with
  | str x=>
   cases h;exact ⟨⟨_,KN,λS H g u v Q w hx hy q=>⟨x,y,hx,hy,zp w q rfl⟩⟩,_,Yu,λS H g u v Q w hx hy q=>⟨x,y,hx,hy,zp w q rfl⟩⟩
  | _=>cases h
 | dK ks ds=>exact dc h
 | dT ks ds=>exact dc h
 | dF ks ds=>exact dc h
 | _=>cases h
theorem QJ {a b:D}{c:Bool}(h:isD a b=some c):(∃ r,OpR X (ϔ .Is) r/\RDo Γ r a b (.bl c) false)/\∃ r,OpR X (ϔ .IsNot) r/\RDo Γ r a b (.bl (!c)) false:=by
 cases b with
 | non=>
  cases h;exact ⟨⟨_,zgB,λS H g x y Q w hx hy q=>⟨hy,zp w q (by rw [qp hx];rfl)⟩⟩,_,zdL,λS H g x y Q w hx hy q=>⟨hy,zp w q (by rw [qp hx];rfl)⟩⟩
 | bl j=>
  cases a with
  | bl i=>
   cases h;exact ⟨⟨_,zgC,λS H g x y Q w hx hy q=>⟨_,_,hx,hy,zp w q rfl⟩⟩,_,zdM,λS H g x y Q w hx hy q=>⟨_,_,hx,hy,zp w q rfl⟩⟩
  | _=>cases h
 | _=>cases h
theorem zcH {a b:D}{c:Bool}(h:eqD a b=some c):okP 60 a=true/\okP 60 b=true/\c=eqP a b:=by
 have h:(if (okP 60 a&&okP 60 b)=true then some (eqP a b) else none)=some c:=h;by_cases hk:(okP 60 a&&okP 60 b)=true
 ·rw [if_pos hk] at h;cases h;rw [ε] at hk;exact ⟨hk.1,hk.2,rfl⟩
 ·rw [if_neg hk] at h;cases h
theorem ints_of {g:G}:∀ {l:List D}{ns:List Int}{xs:List V},uC l=some ns->Hass Γ g l xs->xs=ns.map V.int
 | [],ns,xs,h,hh=>by cases (show some []=some ns from h);exact hh
 | d::l,ns,xs,h,⟨v,r,e,hv,hr⟩=>by
  subst e;cases d with
  | int i=>
   simp only [uC,ο] at h;obtain ⟨ms,e1,e2⟩:=h;subst e2;rw [show v=V.int i from hv,ints_of e1 hr];rfl
  | _=>cases h
theorem zeF {op:iB}{a b:D}{c:Bool}(hK:X.K=Γ.K) (hu:X.A.units+61 < ϸ) (h:cmpD op a b=some c):∃ r,OpR X (ϔ op) r/\RDo Γ r a b (.bl c) false:=by
 have hu1:X.A.units+1 < ϸ:=by lia
 cases op with
 | Eq=>
  obtain ⟨h1,h2,rfl⟩:=zcH h;exact ⟨_,zgE hK hu h1 h2,Vj⟩
 | NotEq=>
  have old:(eqD a b).map (!·)=some c->∃ r,OpR X (ϔ .NotEq) r/\RDo Γ r a b (.bl c) false:=λh=>by obtain ⟨c',e,rfl⟩:=ο.mp h;obtain ⟨h1,h2,rfl⟩:=zcH e;exact ⟨_,zgy hK hu h1 h2,Vj⟩
  have h:neD a b=some c:=h;exact old h
 | Lt=>obtain ⟨i,j,rfl,rfl,rfl⟩:=Zq h;exact ⟨_,zjf,λS H g x y Q w hx hy q=>⟨_,_,hx,hy,zp w q rfl⟩⟩
 | LtE=>obtain ⟨i,j,rfl,rfl,rfl⟩:=Zq h;exact ⟨_,zjg,λS H g x y Q w hx hy q=>⟨_,_,hx,hy,zp w q rfl⟩⟩
 | Gt=>obtain ⟨i,j,rfl,rfl,rfl⟩:=Zq h;exact ⟨_,zjh,λS H g x y Q w hx hy q=>⟨_,_,hx,hy,zp w q rfl⟩⟩
 | GtE=>obtain ⟨i,j,rfl,rfl,rfl⟩:=Zq h;exact ⟨_,zji,λS H g x y Q w hx hy q=>⟨_,_,hx,hy,zp w q rfl⟩⟩
 | Is=>exact (QJ h).1
 | IsNot=>
  obtain ⟨c',e,rfl⟩:=ο.mp (show (isD a b).map (!·)=some c from h);exact (QJ e).2
 | In=>exact (QS hK hu hu1 h).1
 | NotIn=>
  obtain ⟨c',e,rfl⟩:=ο.mp (show (inD a b).map (!·)=some c from h);exact (QS hK hu hu1 e).2
def rIxD:R2:=λx y H Q=>∃ a v,x=.ref a/\DGet H a y (some v)/\Q v H
theorem zef (hu:X.A.units+1 < ϸ):IxR X rIxD:=by intro value slice pJ s σ H x y v u Q I rx ry ⟨a,z,e,g,q⟩ hs;subst e;cases rx;exact tail_any (WK I g) PySem.F.slot_dict_getitem.lookup (zaf hu I g ry λw' s' I' r'=>⟨z,H,I',r',q⟩) hs
theorem zaD {g:G}{l:List D}{xs:List V}{i:Int}{d:D}(h:Hass Γ g l xs) (e:((ixN l.length i).bind λk=>l[k]?)=some d):∃ v,atI xs i=some v/\Has Γ g d v:=by obtain ⟨k,e1,e2⟩:=ν.mp e;obtain ⟨v,hv,hd⟩:=h.get e2;refine ⟨v,?_,hd⟩;unfold atI;rw [h.len,e1];exact hv
theorem VD {a b d:D}(hu:X.A.units+1 < ϸ) (h:(xR a b).bind id=some d):∃ r,IxR X r/\RDo Γ r a b d false:=by obtain ⟨o,e1,e2⟩:=ν.mp h;refine ⟨_,zef hu,λS H g x y Q w hx hy q=>?_⟩;obtain ⟨p,v,f1,f2,_,f3,_⟩:=zad w e1 hx hy;obtain ⟨z,hz,hd⟩:=f3 d e2;exact ⟨p,z,f1,by rw [<- hz];exact f2,zp w q hd⟩
set_option tactic.hygienic true in
theorem zg8 {a d:D}{i:Int}(hK:X.K=Γ.K) (hu:X.A.units+1 < ϸ) (h:subD a (.int i)=some d):∃ r,IxR X r/\RDo Γ r a (.int i) d false:=by
 cases a with
 | tup l=>
  refine ⟨_,zg5,λS H g x y Q w ⟨p,xs,e,h1,h2⟩ hy q=>?_⟩;obtain ⟨v,e1,e2⟩:=zaD h2 h;exact ⟨p,xs,_,v,e,hy,SqT.of (w.rh _ _ h1),e1,zp w q e2⟩
 | lst l=>
  refine ⟨_,QD,λS H g x y Q w ⟨p,xs,e,h1,h2⟩ hy q=>?_⟩;obtain ⟨v,e1,e2⟩:=zaD h2 h;exact ⟨p,xs,_,v,e,hy,SqL.of h1,e1,zp w q e2⟩
 | scr l=>
  refine ⟨_,QD,λS H g x y Q w ⟨p,e,h1⟩ hy q=>?_⟩;have h:(idx l.length i).bind (λk=>(l[k]?).map D.int)=some d:=h;have h':((ixN (l.map D.int).length i).bind λk=>(l.map D.int)[k]?)=some d:=by rw [ψ];simpa [Ρ] using h
  obtain ⟨v,e1,e2⟩:=zaD (Hass.ints (Γ:=Γ) (g:=g)) h';exact ⟨p,_,_,v,e,hy,by rw [hK];exact h1,e1,zp w q e2⟩
 | str x=>
  have h:(if fits x.length then (idx x.cps.toList.length i).bind λk=>(x.cps.toList[k]?).map λc=>D.str ⟨#[c]⟩ else none)=some d:=h;split at h
  ·rename_i hf
   obtain ⟨k,e1,e2⟩:=ν.mp h;obtain ⟨c,e3,e4⟩:=ο.mp e2;subst e4;refine ⟨_,zg6,λS H g x y Q w hx hy q=>⟨_,_,c,hx,hy,xJ hf,?_,zp w q rfl⟩⟩;unfold atI;have e1':ixN _ _=some k:=e1;rw [e1'];exact e3
  ·cases h
 | dK ks ds=>exact VD hu h
 | dT ks ds=>exact VD hu h
 | dF ks ds=>exact VD hu h
 | _=>cases h
set_option tactic.hygienic true in
theorem zg7 {a b d:D}(hK:X.K=Γ.K) (hu:X.A.units+1 < ϸ) (h:subD a b=some d):∃ r,IxR X r/\RDo Γ r a b d false:=by
 cases b with
 | int i=>exact zg8 hK hu h
 | _=>cases a <;> first | exact VD hu h | cases h
theorem WM {g:G}{l:List D}{xs:List V}(lo hi:Option Int) (h:Hass Γ g l xs):Hass Γ g (cutD l lo hi) (cutV xs lo hi):=by unfold cutD cutV;rw [h.len];exact (h.drop _).take _
def RDs (Γ:Gm) (r:V->Option Int->Option Int->Hp->VK->Prop) (a:D) (lo hi:Option Int) (d:D) (fr:Bool):Prop:=
 ∀ (S:Store) (H:Hp) (g:G) (x:V) (Q:VK),WOk Γ H g S->Rdb Γ H g a x->Fin Γ H g S d fr Q->r x lo hi H Q
def rSlS:V->Option Int->Option Int->Hp->VK->Prop:=λx lo hi H Q=>∃ z,x=.str z/\z.length<=sizeLine/\Q (.str (gw z lo hi)) H
theorem KC {v:δ}{o:Option Int}(h:iT v o):∃ p:Option (Int×Tok),v=partValue p/\p.map (·.1)=o:=by
 cases h with
 | none=>exact ⟨none,rfl,rfl⟩
 | int i t=>exact ⟨some (i,t),rfl,rfl⟩
theorem zfC:SlR X rSlS:=by intro pJ s σ H x v vl vu lo hi sl Q I rx hs pl pu ⟨z,e,hz,q⟩;subst e;obtain ⟨t,rfl⟩:=rx;obtain ⟨p,rfl,rfl⟩:=KC pl;obtain ⟨p',rfl,rfl⟩:=KC pu;refine ⟨"str",_,PySem.F.slot_str_getitem.lookup,typeIs_str _ _ _,wpAny_getItem_str_slice (l:=p) (u:=p') (st:=none) hs rfl ?_⟩;exact post_val_or_str ⟨Ϧ (Txt.slice_le z _ _) hz,λt' k=>⟨.str (gw z (p.map (·.1)) (p'.map (·.1))),H,I.tok _,⟨t',rfl⟩,q⟩⟩
set_option tactic.hygienic true in
theorem zfD {a d:D}{lo hi:Option Int}{fr:Bool}(hK:X.K=Γ.K) (h:slcD a lo hi=some (d,fr)):∃ r,SlR X r/\RDs Γ r a lo hi d fr:=by
 unfold slcD at h;split at h
 ·rename_i l
  cases h;refine ⟨_,zfB.or zc6,λS H g x Q w ⟨p,xs,e,h1,h2⟩ q=>?_⟩;by_cases hw:HT.sIx xs.length 0 lo=0/\HT.sIx xs.length xs.length hi=xs.length
  ·refine .inr ⟨p,xs,e,SqT.of (w.rh _ _ h1),hw,zp w q ?_⟩;have ec:cutD l lo hi=l:=by unfold cutD;rw [<- h2.len,hw.1,hw.2,List.drop_zero,Nat.sub_zero,gU (by rw [h2.len];exact Β _)]
   rw [ec];exact ⟨p,xs,rfl,h1,h2⟩
  ·exact .inl ⟨p,xs,e,SqT.of (w.rh _ _ h1),hw,λb hb=>Zt w q (WM lo hi h2) hb⟩
 ·cases h;exact ⟨_,JN,λS H g x Q w ⟨p,xs,e,h1,h2⟩ q=>⟨p,xs,e,SqL.of h1,λb hb=>v6 w q (WM lo hi h2) hb⟩⟩
 ·cases h;exact ⟨_,JN,λS H g x Q w ⟨p,e,h1⟩ q=>⟨p,_,e,by rw [hK];exact h1,λb hb=>v6 w q (WM lo hi Hass.ints) hb⟩⟩
 ·split at h
  ·rename_i hf
   cases h;exact ⟨_,zfC,λS H g x Q w hx q=>⟨_,hx,xJ hf,zp w q rfl⟩⟩
  ·cases h
 ·cases h
end
noncomputable def vr:V->δ
 | .ref a=>.ref a
 | _=>.none
theorem Zf:∀ x y,lexL x y=TS.lexB x y
 | [],[]=>rfl
 | [],_::_=>rfl
 | _::_,[]=>rfl
 | a::x,b::y=>by unfold lexL TS.lexB;rw [Zf x y]
theorem VM (k:List Int):∀ l,(insL k l).Perm (k::l)
 | []=>cT _
 | x::l=>by
  unfold insL;split
  ·exact ((VM k l).cons x).trans (dC.swap _ _ _)
  ·exact cT _
abbrev LeL (x y:List Int):Prop:=TS.lexB y x=false
theorem zgS {x y z:List Int}(h:LeL x y) (k:LeL y z):LeL x z:=du (O:=TS.lexO) h k
set_option tactic.hygienic true in
theorem QM (k:List Int):∀ l,l.Pairwise LeL->(insL k l).Pairwise LeL
 | [],_=>oJ _ _
 | x::l,h=>by
  obtain ⟨h1,h2⟩:=fU.mp h;unfold insL;split
  ·rename_i c
   rw [Zf] at c;refine fU.mpr ⟨λy hy=>?_,QM k l h2⟩;rcases Ε.mp ((VM k l).mem_iff.mp hy) with rfl | hy
   ·exact dX (O:=TS.lexO) c
   ·exact h1 y hy
  ·rename_i c
   rw [Zf] at c;have c:LeL k x:=by show TS.lexB x k=false;revert c;cases TS.lexB x k <;> simp
   refine fU.mpr ⟨λy hy=>?_,h⟩;rcases Ε.mp hy with rfl | hy
   ·exact c
   ·exact zgS c (h1 y hy)
theorem VL:∀ {l:List D}{k:List Int},uC l=some k->l=k.map D.int
 | [],k,h=>by cases h;rfl
 | .int i::r,k,h=>by obtain ⟨j,e,rfl⟩:=ο.mp (show (uC r).map (i::·)=some k from h);rw [VL e];rfl
theorem jC {Γ:Gm}{g:G}:∀ {k:List Int}{vs:List V},Hass Γ g (k.map D.int) vs->vs=k.map V.int
 | [],_,h=>h
 | n::k,_,⟨v,r,e,h1,h2⟩=>by rw [e,show v=V.int n from h1,jC h2];rfl
theorem zju {X:Cx}{pJ:List (Addr×Obj)}{σ:L2.St}{H:Hp}{s:μ}{h':Heap}{a:Addr}{o:HO}{t':Nat}{d':Drawn}(I:L2.Inv X pJ σ H s) (k:∀ b u,s.heap.get? b=some u->h'.get? b=some u) (hp:s.heap.objs.size<=a) (new:zY X.prog X.w (upd H a o) h' a o):
  L2.Inv X pJ σ (upd H a o) { s with heap:=h',toks:=t',drawn:=d' }:=by have J:=I.laid (t':=t') k hp new;exact ⟨J.ok,J.os,J.bare,J.base,J.loc,J.cell,J.free,J.freeC,J.pin,J.hok,J.len⟩
noncomputable def SetI (w:ϓ) (a:Addr) (ks:List Int):HO:=.ext λh=>TS.Ti w h a (TS.ledW w) ks
theorem Ju:∀ {xs:List Int}{us:List δ},Vals (xs.map V.int) us->us.map TS.intV=xs/\∀ v∈us,TS.IsIx v
 | [],_,.nil=>⟨rfl,λv h=>nomatch h⟩
 | x::xs,_,.cons r q=>by
  obtain ⟨t,rfl⟩:=r;obtain ⟨h1,h2⟩:=Ju q;refine ⟨by rw [ϧ,h1];rfl,λv hv=>?_⟩;rcases Ε.mp hv with rfl | hv
  ·exact ⟨x,t,rfl⟩
  ·exact h2 v hv
theorem QC:∀ {us:List δ},(∀ v∈us,TS.IsIx v)->Vals ((us.map TS.intV).map V.int) us
 | [],_=>.nil
 | u::us,h=>by obtain ⟨x,t,rfl⟩:=h u ξ;exact .cons ⟨t,rfl⟩ (QC λv hv=>h v (ι _ hv))
theorem zas {X:Cx}(hc:X.calm=true):yu X (.type "set") (λxs H Q=>∃ p,∃ ks:List Int,xs=[.ref p]/\(SqL X.K H p (ks.map V.int)\/SqT X.K H p (ks.map V.int))/\ks.length < 4095/\∀ a,H a=none->Q (.ref a) (upd H a (SetI X.w a (TS.Vq ks)))):=by
 intro pJ s σ H xs us Q I r ⟨p,ks,e,hq,hn,q⟩;subst e;obtain ⟨u,rfl,rx⟩:=vals1 r;cases (show u=Ι p from rx);have fin:∀ (its:List δ) {T:String}{OK:Heap->Prop}{Sx:Addr->Nat->Heap->Prop}{itO:Obj},Vals (ks.map V.int) its->TS.Row X.prog X.w T p its.toArray OK Sx itO->OK s.heap->Λ (Ν X.prog X.w) X.A (call (.type "set") [.ref p]) (EP X pJ σ Q) X.xe s:=λits T OK Sx itO v R ok=>by
  obtain ⟨v1,v2⟩:=Ju v;have lk:ks.length=its.length:=by rw [<- v1,ψ]
  refine TS.zar (val:=ks) R (I.ok.hd hc) ok (by simpa using lk) (λi v e x hx=>?_) (by simp;omega) λh' tk z k=>?_
  ·rw [iu] at e;rw [<- v1,Ρ,e] at hx;obtain ⟨y,t,rfl⟩:=v2 v (ϑ e);cases hx;exact ⟨t,rfl⟩
  ·obtain ⟨es,ep,tb,st,_,pm⟩:=id z;obtain ⟨o,ho,_⟩:=st.at_;exact ⟨.ref s.heap.objs.size,_,I.laid (t':=tk) (o:=SetI X.w s.heap.objs.size (TS.Vq ks)) k (Β _) ⟨z,⟨o,ho⟩,λh1 h2 y kk=>y.keep kk⟩,rfl,q _ (I.hok.fresh (Β _))⟩
 rcases hq with hq | hq
 ·obtain ⟨its,v,pl,_⟩:=I.list hq;exact fin its v (TS.rowL p its.toArray) pl.isList
 ·obtain ⟨its,v,pl,_⟩:=I.tuple hq;exact fin its v (TS.rowT p its.toArray) (show s.heap.IsTuple p its.toArray from pl)
theorem Xi {X:Cx}(hc:X.calm=true):yu X (.builtin "sorted") (λxs H Q=>∃ a,∃ ks:List Int,xs=[.ref a]/\H a=some (SetI X.w a ks)/\ks.length < 64 /\
  ∀ (ms:List Int) (l:Addr),ms.Perm ks->ms.Pairwise (λx y=>decide (y < x)=false)->H l=none->Q (.ref l) (upd H l (.lst (ms.map V.int)))):=by
 intro pJ s σ H xs us Q I r ⟨a,ks,e,hq,hn,q⟩;subst e;obtain ⟨u,rfl,rx⟩:=vals1 r;cases (show u=Ι a from rx);obtain ⟨⟨es,ep,tb,st,_,pm⟩,_⟩:=(show zY X.prog X.w H s.heap a (SetI X.w a ks) from I.hok a _ hq)
 have sz:es.size=ks.length:=by rw [<- pm.length_eq,ψ,ύ]
 refine TS.X4 (I.ok.hd hc) st (by omega) λvs out h' tk d pv k hg hk=>?_
 have tx:∀ v∈vs,TS.IsIx v:=λv hv=>by obtain ⟨e,he,rfl⟩:=Ϲ.mp (pv.mem_iff.mp hv);obtain ⟨x,t,rfl⟩:=st.tx e he;exact ⟨x,t,rfl⟩
 have txo:∀ v∈out.toList,TS.IsIx v:=λv hv=>tx v (k.1.mem_iff.mp hv)
 have e2:(h'.push (cX "list" vs.toArray 0)).get? h'.objs.size=some (cX "list" vs.toArray 0):=Θ _ rfl;obtain ⟨c,hc⟩:=sortedHeap_at (out:=out) e2;have hc2:(iK (h'.push (cX "list" vs.toArray 0)) h'.objs.size vs out).get? h'.objs.size=some { cls:=.type "list",dict:=none,data:=.seq out.toList.toArray c,slots:=#[] }:=by rw [hc,Array.toArray_toList]
 have tot:(out.toList.map TS.intV).Perm ks:=by refine ((k.1.trans pv).map _).trans ?_;rw [fL];refine dC.trans (dC.of_eq (List.map_congr_left λe he=>?_)) pm;obtain ⟨x,t,rfl⟩:=st.tx e he;rfl
 have I2:=zju I (t':=tk) (d':=d) (a:=h'.objs.size) (o:=.lst ((out.toList.map TS.intV).map V.int)) (h':=iK (h'.push (cX "list" vs.toArray 0)) h'.objs.size vs out)
  (λb o e=>by
   have lt:=Δ (hk b o e);rw [sortedHeap_old (Φ lt) (by rw [size_push'];exact eE lt)]
   exact η _ (hk b o e)) hg (show zY X.prog X.w _ _ _ (.lst _) from ⟨by rw [ψ,tot.length_eq,aJ];omega,out.toList,c,QC txo,hc2⟩)
 refine ⟨.ref h'.objs.size,_,I2,rfl,q _ _ tot ?_ (I.hok.fresh hg)⟩;rw [gm];exact k.2
theorem JL {l m:List Int}(h:m.Perm l) (k:m.Pairwise (λx y=>decide (y < x)=false)):m=sortI l:=
 (h.trans (pB l _).symm).eq_of_pairwise (le:=λa b=>a<=b) (λa b _ _ h1 h2=>by omega) (k.imp λh=>by simpa using h) ((List.pairwise_mergeSort (le:=λa b=>decide (a<=b)) (λa b c h1 h2=>by simp at *;omega) (λa b=>by simp;omega) l).imp λh=>by simpa using h)
def Rdbs (Γ:Gm) (H:Hp) (g:G):List D->List V->Prop
 | [],vs=>vs=[]
 | d::ds,vs=>∃ v r,vs=v::r/\Rdb Γ H g d v/\Rdbs Γ H g ds r
theorem Ka {Γ:Gm}{H:Hp}{g:G}{S:Store}(w:WOk Γ H g S):∀ {ds:List D}{vs:List V},Hass Γ g ds vs->Rdbs Γ H g (ds.map (zE S)) vs
 | [],_,h=>h
 | d::ds,_,⟨v,r,e,h1,h2⟩=>⟨v,r,e,Ke w h1,Ka w h2⟩
def RDc (Γ:Gm) (r:List V->Hp->VK->Prop) (ds:List D) (d:D) (fr:Bool):Prop:=
 ∀ (S:Store) (H:Hp) (g:G) (xs:List V) (Q:VK),WOk Γ H g S->Rdbs Γ H g ds xs->Fin Γ H g S d fr Q->r xs H Q
section
variable {X:Cx}{Γ:Gm}
theorem rd1 {H:Hp}{g:G}{d:D}{xs:List V}(h:Rdbs Γ H g [d] xs):∃ v,xs=[v]/\Rdb Γ H g d v:=by obtain ⟨v,r,e,h1,h2⟩:=h;cases (show r=[] from h2);exact ⟨v,e,h1⟩
theorem zfd:∀ {ns:List Int}{us:List δ},Vals (ns.map V.int) us->∀ (i:Nat) (v:δ),us[i]?=some v->∃ t,v=Ϟ (ns.getD i 0) t
 | [],_,.nil,i,v,h=>by simp at h
 | n::ns,_,.cons r q,0,v,h=>by obtain ⟨t,rfl⟩:=r;simp at h;exact ⟨t,h.symm⟩
 | n::ns,_,.cons r q,i+1,v,h=>by have:=zfd q i v (by simpa using h);simpa using this
theorem zaq (hc:X.calm=true):yu X (.builtin "sum") (λxs H Q=>∃ (p:Addr) (ns:List Int),xs=[.ref p]/\SqL X.K H p (ns.map V.int)/\Q (.int ns.sum) H):=by
 intro pJ s σ H vs us Q I rv h;obtain ⟨p,ns,rfl,hq,q⟩:=h;obtain ⟨u,rfl,ru⟩:=rv.one;cases (show u=Ι p from ru);obtain ⟨its,rv,hp,hz⟩:=I.list hq;have hl:=hp.isList;have hlt:p < s.heap.objs.size:=by obtain ⟨_,e,_⟩:=hl;exact Δ e
 have hh:X.A.handled=none:=I.ok.hd hc;have hlen:=rv.length;rw [ψ] at hlen;refine call_sum_walkG (eY hl ?_)
 refine ⟨s.heap.objs.size,[s.heap.objs.size,p],[s.heap.objs.size],its.toArray.size,_,_,λi=>ns.getD i 0,rfl,mX (A:=X.A.in1) hh _ p (Φ hlt) its.toArray,
  ⟨⟨_,Θ _ rfl,rfl,rfl⟩,hl.push _⟩,λb hb=>?_,λi v hP=>?_,λh' tk t' hk=>?_⟩
 ·rcases Ε.mp hb with rfl | hb
  ·show _ < (s.heap.push _).objs.size
   rw [bO];exact fj _
  ·rw [υ.mp hb];show _ < (s.heap.push _).objs.size
   rw [bO];exact eE hlt
 ·exact zfd rv i v (by simpa using hP)
 ·refine ⟨.int ns.sum,H,I.kept (oK hk),⟨t',?_⟩,q⟩;rw [preSum_getD,ω,<- hlen,List.take_length]
theorem jM {g:G}:∀ {l:List D}{ns:List Bool}{xs:List V},xK l=some ns->Hass Γ g l xs->xs=ns.map V.bl
 | [],ns,xs,h,hh=>by cases (show some []=some ns from h);exact hh
 | d::l,ns,xs,h,⟨v,r,e,hv,hr⟩=>by
  subst e;cases d with
  | bl i=>
   simp only [xK,ο] at h;obtain ⟨ms,e1,e2⟩:=h;subst e2;rw [show v=V.bl i from hv,jM e1 hr];rfl
  | _=>cases h
noncomputable def biV:BI->δ
 | .len=>.builtin "len" | .abs=>.builtin "abs" | .int=>.type "int" | .str=>.type "str" | .tuple=>.type "tuple" | .list=>.type "list"
 | .sum=>.builtin "sum" | .all=>.builtin "all" | .any=>.builtin "any" | .isinst _=>.builtin "isinstance" | .min2=>.builtin "min" | .max2=>.builtin "max" | .sorted=>.builtin "sorted" | .repr=>.builtin "repr" | .dict=>.type "dict" | .sset=>.builtin "sorted" | .lset=>.builtin "len" | .trev=>.type "tuple" | .lrng=>.type "list" | .lrng2=>.type "list"
noncomputable def isI:BI->Bool
 | .isinst _=>true
 | .sset=>true
 | .lset=>true
 | .trev=>true
 | .lrng=>true
 | .lrng2=>true
 | _=>false
set_option tactic.hygienic true in
theorem zd8 {d0:D}{d:D}{fr:Bool}(hK:X.K=Γ.K) (h:lenD d0=some (d,fr)):∃ r,yu X (.builtin "len") r/\RDc Γ r [d0] d fr:=by
 cases d0 with
 | tup l=>
  cases h;refine ⟨_,xT,λS H g xs Q w hx q=>?_⟩;obtain ⟨v,rfl,p,ys,rfl,h1,h2⟩:=rd1 hx;exact ⟨p,ys,rfl,.inr (SqT.of (w.rh _ _ h1)),zp w q (by rw [h2.len];rfl)⟩
 | lst l=>
  cases h;refine ⟨_,xT,λS H g xs Q w hx q=>?_⟩;obtain ⟨v,rfl,p,ys,rfl,h1,h2⟩:=rd1 hx;exact ⟨p,ys,rfl,.inl (SqL.of h1),zp w q (by rw [h2.len];rfl)⟩
 | scr l=>
  cases h;refine ⟨_,xT,λS H g xs Q w hx q=>?_⟩;obtain ⟨v,rfl,p,rfl,h1⟩:=rd1 hx;exact ⟨p,_,rfl,.inl (by rw [hK];exact h1),zp w q (by rw [ψ];rfl)⟩
 | str x=>
  have h:(if fits x.length=true then some (D.int x.length,false) else none)=some (d,fr):=h;split at h
  ·rename_i hf
   cases h;refine ⟨_,Xj,λS H g xs Q w hx q=>?_⟩;obtain ⟨v,rfl,hv⟩:=rd1 hx;exact ⟨_,by rw [show v=_ from hv],xJ hf,zp w q rfl⟩
  ·cases h
 | dK ks vs=>
  cases h;refine ⟨λxs H Q=>∃ d kvs,xs=[.ref d]/\Rd H d (.dK kvs)/\Q (.int kvs.length) H,?_,λS H g xs Q w hx q=>?_⟩
  ·intro pJ s σ H xs us Q I r hh;obtain ⟨d,kvs,rfl,hd,q⟩:=hh;obtain ⟨u,rfl,ru⟩:=vals1 r;cases (show u=Ι d from ru);exact zjV I hd λt s' I'=>⟨.int kvs.length,H,I',⟨t,rfl⟩,q⟩
  ·obtain ⟨v,rfl,p,ys,rfl,h1,h2,h3⟩:=rd1 hx;refine ⟨p,_,rfl,.inl h1,zp w q ?_⟩;rw [ig,h3.len,<- h2,Nat.min_self];rfl
 | _=>cases h
theorem KQ {f:List D->Option D}{d0:D}{p:D×Bool}(h:onL f d0=some p):∃ l d,d0=.lst l/\f l=some d/\p=(d,false):=by
 cases d0 with
 | lst l=>
  obtain ⟨d,e,rfl⟩:=ο.mp (show (f l).map (λd=>(d,false))=some p from h);exact ⟨l,d,rfl,e,rfl⟩
 | _=>cases h
theorem zcw {d0:D}{l:List D}(h:lotD d0=some l):d0=.lst l\/d0=.tup l:=by
 cases d0 with
 | lst m=>cases h;exact .inl rfl
 | tup m=>cases h;exact .inr rfl
 | _=>cases h
theorem rd2 {H:Hp}{g:G}{d e:D}{xs:List V}(h:Rdbs Γ H g [d,e] xs):∃ u v,xs=[u,v]/\Rdb Γ H g d u/\Rdb Γ H g e v:=by obtain ⟨v,r,e,h1,h2⟩:=h;obtain ⟨u,rfl,h3⟩:=rd1 h2;exact ⟨v,u,e,h1,h3⟩
theorem zeM {b:BI}{d0 d1 d:D}{fr:Bool}(hc:X.calm=true) (hi:isI b=false) (h:bi2 b d0 d1=some (d,fr)):∃ r,yu X (biV b) r/\RDc Γ r [d0,d1] d fr:=by
 cases b with
 | min2=>
  obtain ⟨i,j,k,rfl,rfl,e,e2⟩:=jo (show num2 (λi j=>some (if j < i then j else i)) d0 d1=some (d,fr) from h);cases e2;cases e;refine ⟨_,zav hc,λS H g xs Q w hx q=>?_⟩;obtain ⟨u,v,rfl,h1,h2⟩:=rd2 hx;exact ⟨i,j,by rw [show u=_ from h1,show v=_ from h2],zp w q rfl⟩
 | lrng2=>cases hi
 | _=>cases h
theorem zeN {b:BI}{d0:D}{d:D}{fr:Bool}(hK:X.K=Γ.K) (hg:X.A.guards=some []) (hu:X.A.units+61 < ϸ) (hc:X.calm=true) (hi:isI b=false) (h:biD b [d0]=some (d,fr)):∃ r,yu X (biV b) r/\RDc Γ r [d0] d fr:=by
 cases b with
 | len=>exact zd8 hK h
 | abs=>
  cases d0 with
  | int i=>
   cases h;refine ⟨_,zbZ,λS H g xs Q w hx q=>?_⟩;obtain ⟨v,rfl,hv⟩:=rd1 hx;exact ⟨_,by rw [show v=_ from hv],zp w q rfl⟩
  | _=>cases h
 | int=>cases h
 | tuple=>
  obtain ⟨l,e,e2⟩:=ο.mp (show (lotD d0).map (λl=>(D.tup l,false))=some (d,fr) from h);cases e2;refine ⟨_,ZL,λS H g xs Q w hx q=>?_⟩;rcases zcw e with rfl | rfl
  ·obtain ⟨v,rfl,p,ys,rfl,h1,h2⟩:=rd1 hx;exact ⟨p,ys,rfl,.inl ⟨SqL.of h1,λl hl=>Zt w q h2 hl⟩⟩
  ·obtain ⟨v,rfl,p,ys,rfl,h1,h2⟩:=rd1 hx;exact ⟨p,ys,rfl,.inr ⟨SqT.of (w.rh _ _ h1),zp w q ⟨p,ys,rfl,h1,h2⟩⟩⟩
 | list=>cases h
 | sum=>
  obtain ⟨l,z,rfl,e,e2⟩:=KQ h;cases e2;obtain ⟨ns,e3,rfl⟩:=ο.mp e;refine ⟨_,zaq hc,λS H g xs Q w hx q=>?_⟩;obtain ⟨v,rfl,p,ys,rfl,h1,h2⟩:=rd1 hx;exact ⟨p,ns,rfl,by rw [<- ints_of e3 h2];exact SqL.of h1,zp w q rfl⟩
 | all=>
  obtain ⟨l,z,rfl,e,e2⟩:=KQ h;cases e2;obtain ⟨ns,e3,rfl⟩:=ο.mp e;refine ⟨_,zbY hc,λS H g xs Q w hx q=>?_⟩;obtain ⟨v,rfl,p,ys,rfl,h1,h2⟩:=rd1 hx;exact ⟨p,ns,rfl,by rw [<- jM e3 h2];exact SqL.of h1,zp w q rfl⟩
 | any=>
  obtain ⟨l,z,rfl,e,e2⟩:=KQ h;cases e2;obtain ⟨ns,e3,rfl⟩:=ο.mp e;refine ⟨_,zbX hc,λS H g xs Q w hx q=>?_⟩;obtain ⟨v,rfl,p,ys,rfl,h1,h2⟩:=rd1 hx;exact ⟨p,ns,rfl,by rw [<- jM e3 h2];exact SqL.of h1,zp w q rfl⟩
 | isinst t=>cases hi
 | str=>cases h
 | min2=>cases h
 | max2=>cases h
 | sorted=>cases h
 | sset=>cases hi
 | lset=>cases hi
 | trev=>cases hi
 | lrng=>cases hi
 | lrng2=>cases hi
 | repr=>cases h
 | dict=>cases h
theorem zcK {b:BI}{ds:List D}{d:D}{fr:Bool}(hK:X.K=Γ.K) (hg:X.A.guards=some []) (hu:X.A.units+61 < ϸ) (hc:X.calm=true) (hi:isI b=false) (h:biD b ds=some (d,fr)):∃ r,yu X (biV b) r/\RDc Γ r ds d fr:=by
 match ds,h with
 | [],h=>cases h
 | [d0],h=>exact zeN hK hg hu hc hi h
 | [d0,d1],h=>exact zeM hc hi h
 | _::_::_::_,h=>cases h
noncomputable def tyS:Ty->String
 | .int=>"int" | .bool=>"bool" | .str=>"str" | .tuple=>"tuple" | .list=>"list" | .dict=>"dict"
theorem zhk {t:Ty}{a:D}{c:Bool}(hK:X.K=Γ.K) (h:isTy t a=some c):
  ∃ r,yu X (.builtin "isinstance") r/\∀ (S:Store) (H:Hp) (g:G) (x:V) (Q:VK),WOk Γ H g S->Rdb Γ H g a x->Q (.bl c) H->r [x,.ty (tyS t)] H Q:=by
 refine ⟨_,WT,λS H g x Q w hx q=>?_⟩;have go:∀ ty,TyOf X.K H x (.type ty)->W.kitOne X.K (.type ty) (.type (tyS t))=some c->_:=λty h1 h2=>(⟨x,tyS t,.type ty,c,rfl,h1,h2,q⟩:∃ x' T t' b,[x,V.ty (tyS t)]=[x',.ty T]/\TyOf X.K H x' t'/\W.kitOne X.K t' (.type T)=some b/\Q (.bl b) H)
 cases a with
 | non=>cases h;cases (show x=.non from hx);exact go _ .non (by cases t <;> rfl)
 | bl b=>cases (show x=.bl b from hx);exact go _ (.bl b) (by cases t <;> exact h)
 | int b=>cases (show x=.int b from hx);exact go _ (.int b) (by cases t <;> exact h)
 | str b=>cases (show x=.str b from hx);exact go _ (.str b) (by cases t <;> exact h)
 | tup l=>obtain ⟨p,ys,rfl,h1,h2⟩:=hx;exact go _ (.tup (w.rh _ _ h1)) (by cases t <;> exact h)
 | lst l=>obtain ⟨p,ys,rfl,h1,h2⟩:=hx;exact go _ (.lst h1) (by cases t <;> exact h)
 | dK ks l=>obtain ⟨p,ys,rfl,h1,h2⟩:=hx;exact go _ (.dK h1) (by cases t <;> exact h)
 | _=>cases h
end
mutual
noncomputable def Uu:D->D->Bool
 | .non,.non=>true
 | .bl a,.bl b=>a==b
 | .int a,.int b=>a==b
 | .str a,.str b=>a==b
 | .tup a,.tup b=>Z9 a b
 | .ktp a,.ktp b=>Z9 a b
 | .fn a,.fn b=>a==b
 | .kdc a,.kdc b=>decide (a=b)
 | _,_=>false
noncomputable def Z9:List D->List D->Bool
 | [],[]=>true
 | a::as,b::bs=>Uu a b&&Z9 as bs
 | _,_=>false
end
mutual
theorem Vh:∀ (a b:D),Uu a b=true->a=b
 | .non,b,h=>by cases b with | non=>rfl | _=>cases h
 | .bl a,b,h=>by cases b with | bl b=>rw [eq_of_beq (show (a==b)=true from h)] | _=>cases h
 | .int a,b,h=>by cases b with | int b=>rw [eq_of_beq (show (a==b)=true from h)] | _=>cases h
 | .str a,b,h=>by cases b with | str b=>rw [eq_of_beq (show (a==b)=true from h)] | _=>cases h
 | .tup a,b,h=>by cases b with | tup b=>rw [jd a b h] | _=>cases h
 | .ktp a,b,h=>by cases b with | ktp b=>rw [jd a b h] | _=>cases h
 | .fn a,b,h=>by cases b with | fn b=>rw [eq_of_beq (show (a==b)=true from h)] | _=>cases h
 | .kdc a,b,h=>by cases b with | kdc b=>rw [of_decide_eq_true (show decide (a=b)=true from h)] | _=>cases h
 | .lst _,b,h=>by cases b <;> cases h
 | .dK _ _,b,h=>by cases b <;> cases h
 | .dT _ _,b,h=>by cases b <;> cases h
 | .dF _ _,b,h=>by cases b <;> cases h
 | .ins _ _ _,b,h=>by cases b <;> cases h
 | .lam _ _,b,h=>by cases b <;> cases h
 | .tab _,b,h=>by cases b <;> cases h
 | .ref _,b,h=>by cases b <;> cases h
 | .scr _,b,h=>by cases b <;> cases h
theorem jd:∀ (a b:List D),Z9 a b=true->a=b
 | [],[],_=>rfl
 | a::as,b::bs,h=>by have h':(Uu a b&&Z9 as bs)=true:=h;rw [ε] at h';rw [Vh a b h'.1,jd as bs h'.2]
 | [],_::_,h=>by cases h
 | _::_,[],h=>by cases h
end
structure Cc where
 names:List (Str×Ϣ)
 N:List Str
 fn:Bool
 tb:Option Nat
noncomputable def visK:Option Ϣ->Bool
 | some .local=>true
 | some .cell=>true
 | some .free=>true
 | _=>false
noncomputable def gloK:Option Ϣ->Bool
 | some .globalImplicit=>true
 | _=>false
noncomputable def zJ (x:Str):Bool:=!(x==("__debug__":Str))&&!(x==("__classdict__":Str))&&!(x==("__name__":Str))&&!dotted x
noncomputable def wF:Expr->Bool
 | .Set _ _ _=>false
 | _=>true
noncomputable def notStar:Expr->Bool
 | .Starred _ _=>false
 | _=>true
noncomputable def biS:BI->Str
 | .len=>"len" | .abs=>"abs" | .int=>"int" | .str=>"str" | .tuple=>"tuple" | .list=>"list" | .sum=>"sum" | .all=>"all" | .any=>"any" | .isinst _=>"isinstance" | .min2=>"min" | .max2=>"max" | .sorted=>"sorted" | .repr=>"repr" | .dict=>"dict" | .sset=>"sorted" | .lset=>"len" | .trev=>"tuple" | .lrng=>"list" | .lrng2=>"list"
noncomputable def tyN:Ty->Str
 | .int=>"int" | .bool=>"bool" | .str=>"str" | .tuple=>"tuple" | .list=>"list" | .dict=>"dict"
noncomputable def yP:List bG->Option (List Str)
 | []=>some []
 | ⟨some x,_,_⟩::r=>(yP r).map (x::·)
 | _=>none
noncomputable def relK (names:List (Str×Ϣ)):List (Str×Ϣ)->List (Str×Ϣ):=λl=>l.map λ(n,k)=>if (k==.free&&names.lookup n==some .cell) then (n,.cell) else (n,k)
noncomputable def namesOf:List Expr->Option (List Str)
 | []=>some []
 | .Name x _::r=>(namesOf r).map (x::·)
 | _=>none
noncomputable def xm:Expr->Option (List Str)
 | .Name x _=>some [x]
 | .Tuple es _ _=>namesOf es
 | _=>none
noncomputable def tIs:T->List Nat
 | .one i=>[i]
 | .nst i is=>i::is
 | .tup is=>is
noncomputable def YS:Expr->Bool
 | .Tuple _ _ _=>true
 | _=>false
noncomputable def zhm:T->Bool
 | .tup _=>true
 | .nst _ _=>true
 | _=>false
noncomputable def stoK (c:Cc) (x:Str):Bool:=match c.names.lookup x with
 | some .local=>true
 | some .cell=>c.fn
 | _=>false
noncomputable def Zn:T->Bool
 | .nst _ _=>true
 | _=>false
noncomputable def zb4:Expr->Option (Str×Pos×List Expr×Nat×Pos×Nat×Pos)
  | .Tuple es k p=>(match es with
    | a::r=>(match a with
      | .Name x q=>(match r with
        | b::z=>(match z with
          | []=>(match b with
            | .Tuple fs k2 p2=>some (x,q,fs,k2,p2,k,p)
            | _=>none)
          | _=>none)
        | _=>none)
      | _=>none)
    | _=>none)
  | _=>none
noncomputable def chkT (c:Cc) (t:T) (x:Expr):Bool:=if Zn t=true then (match zb4 x with
  | some q=>(match namesOf q.2.2.1 with
    | some ns=>(q.1::ns).length==(tIs t).length&&((tIs t).zip (q.1::ns)).all λp=>c.N[p.1]?==some p.2&&stoK c p.2
    | none=>false)
  | none=>false) else YS x==zhm t&&(match xm x with
  | some ns=>ns.length==(tIs t).length&&((tIs t).zip ns).all λp=>c.N[p.1]?==some p.2&&stoK c p.2
  | none=>false)
noncomputable def zhp:List Nat->Bool
 | []=>true
 | _=>false
noncomputable def chkS (c:Cc) (sc:aM) (js:List Nat):Bool:=
 (sc.kind==.function)&&sc.names.all (λy=>y.2 != .cell)&&sc.names.all (λy=>y.2 != .local||sc.names.lookup y.1==some .local)&&sc.names.all (λy=>y.2 != .free||sc.names.lookup y.1==some .free) &&
 sc.names.all (λy=>y.2 != .free||c.names.lookup y.1==some .cell||c.names.lookup y.1==some .free) &&
 js.all λj=>match c.N[j]? with
  | some y=>(c.names.lookup y==some .cell||c.names.lookup y==some .free)&&sc.names.lookup y==some .free
  | none=>false
noncomputable def zan (sc:aM) (js:List Nat):Bool:=sc.names.any (λy=>y.2==.cell)&&(sc.kind==.function)&&sc.names.all (λy=>y.2 != .local||sc.names.lookup y.1==some .local)&&sc.names.all (λy=>y.2 != .free)&&zhp js
noncomputable def inner (c:Cc) (sc:aM) (xs:List Str) (js:List Nat):Cc:=⟨relK c.names sc.names,xs++js.map (λj=>c.N.getD j ""),sc.names.any (λy=>y.2==.cell),none⟩
noncomputable def zcC:Expr->Bool
 | .Tuple _ _ _=>true
 | _=>false
noncomputable def keyC:Key->Const->Bool
 | .inl i,.int j=>i==j
 | .inr s,.str t=>s==t
 | _,_=>false
noncomputable def Xh:List Key->List (Option Expr)->Bool
 | [],[]=>true
 | k::ks,some (.Constant q _ _)::r=>keyC k q&&Xh ks r
 | _,_=>false
noncomputable def sole {α:Type}:List α->Option α
  | a::r=>(match r with
    | []=>some a
    | _=>none)
  | _=>none
theorem wL {α:Type}{l:List α}{a:α}(h:sole l=some a):l=[a]:=by
 cases l with
 | nil=>cases h
 | cons b r=>
  cases r with
  | nil=>cases h;rfl
  | cons _ _=>cases h
noncomputable def asName:Expr->Option (Str×Pos)
 | .Name n p=>some (n,p)
 | _=>none
theorem zM {x:Expr}{q:Str×Pos}(h:asName x=some q):x=.Name q.1 q.2:=by cases x <;> first | (cases h;rfl) | cases h
noncomputable def XF:Expr->Option (Expr×Expr×Pos)
 | .Subscript a b p=>some (a,b,p)
 | _=>none
theorem zb2 {x:Expr}{q:Expr×Expr×Pos}(h:XF x=some q):x=.Subscript q.1 q.2.1 q.2.2:=by cases x <;> first | (cases h;rfl) | cases h
noncomputable def WY:Expr->Option (Expr×Str×Pos)
 | .Attribute a m p=>some (a,m,p)
 | _=>none
theorem Ug {x:Expr}{q:Expr×Str×Pos}(h:WY x=some q):x=.Attribute q.1 q.2.1 q.2.2:=by cases x <;> first | (cases h;rfl) | cases h
noncomputable def yo {α:Type}:List α->Bool
 | []=>true
 | _=>false
theorem z9 {α:Type}{l:List α}(h:yo l=true):l=[]:=by
 cases l with
 | nil=>rfl
 | cons _ _=>cases h
noncomputable def zh2:Expr->Option (Expr×List Expr×List bG×Pos)
 | .Call f as ks p=>some (f,as,ks,p)
 | _=>none
theorem zb6 {x:Expr}{q:Expr×List Expr×List bG×Pos}(h:zh2 x=some q):x=.Call q.1 q.2.1 q.2.2.1 q.2.2.2:=by cases x <;> first | (cases h;rfl) | cases h
noncomputable def asCN (x:Expr):Option (Str×Pos×List Expr×Pos):=(zh2 x).bind λc=>(asName c.1).bind λq=>if yo c.2.2.1=true then some (q.1,q.2,c.2.1,c.2.2.2) else none
set_option tactic.hygienic true in
theorem zaH {x:Expr}{q:Str×Pos×List Expr×Pos}(h:asCN x=some q):x=.Call (.Name q.1 q.2.1) q.2.2.1 [] q.2.2.2:=by
 obtain ⟨c,e1,h⟩:=ν.mp h;obtain ⟨r,e2,h⟩:=ν.mp h;split at h
 ·rename_i hn
  cases h;rw [zb6 e1,zM e2,z9 hn]
 ·cases h
noncomputable def nmsE:List Expr->Option (List Str)
 | []=>some []
 | x::xs=>(asName x).bind λq=>(nmsE xs).map (q.1::·)
noncomputable def mtS:MT->Str
 | .get1=>"get" | .get2=>"get" | .sidx=>"index" | .index=>"index" | .join=>"join" | .split=>"split"
noncomputable def zgi:Expr->Bool
 | .Call _ _ _ _=>false
 | _=>true
noncomputable def Yq:Expr->Bool
 | .Call _ (_::_) _ _=>true
 | x=>zgi x
noncomputable def Km:Expr->Bool
 | .Call _ _ _ _=>true
 | .List _ _=>true
 | .Dict _ _ _=>true
 | .BinOp _ _ _ _=>true
 | _=>false
noncomputable def Vg (x:Expr):Option (Str×Expr):=(asCN x).bind λq=>(sole q.2.2.1).map λz=>(q.1,z)
noncomputable def parB (ps:List Str):bA->Bool
 | ⟨[],as,none,[],[],none,[]⟩=>as.map (·.arg)==ps&&decide (as.length<=1)
 | _=>false
noncomputable def bodB (r:LamR) (b:Expr):Bool:=match asCN b with
 | some q=>q.1==r.g&&nmsE q.2.2.1==some (r.ps++r.fs)&&!q.2.2.1.isEmpty
 | none=>false
noncomputable def lscB (r:LamR) (sc:aM):Bool:=
 (sc.kind==.function)&&!sc.isCoroutine&&!sc.isGenerator&&sc.names.all (λy=>y.2 != .cell)&&r.ps.all (λx=>sc.names.lookup x==some .local)&&r.fs.all (λx=>sc.names.lookup x==some .free)&&sc.names.all (λy=>y.2 != .free||r.fs.contains y.1)&&decide (r.ps++r.fs).Nodup&&gloK (sc.names.lookup r.g)&&(r.ps++r.fs).all zJ&&zJ r.g
noncomputable def lamB (r:LamR) (pr:bA) (b:Expr) (sc:aM):Bool:=parB r.ps pr&&bodB r b&&lscB r sc
noncomputable def chkL (B:Tb) (c:Cc) (f p:Nat) (js:List Nat) (pr:bA) (b:Expr) (sc:aM):Bool:=!c.fn&&c.tb==some p&&decide (B.fns.length<=f)&&(match B.lams[f - B.fns.length]? with
  | some r=>lamB r pr b sc&&B.fns[r.gi]?==some r.g&&js.length==r.fs.length&&(js.zip r.fs).all (λq=>c.N[q.1]?==some q.2&&c.names.lookup q.2==some .cell)
  | none=>false)
noncomputable def zej:Expr->Bool
 | .Call _ _ _ _=>true
 | _=>false
mutual
noncomputable def chkE (B:Tb) (c:Cc):E->Expr->Bool
  | .var i,.Name x _=>c.N[i]?==some x&&visK (c.names.lookup x)&&zJ x
  | .con d,.Constant k _ _=>match d,k with
    | .non,.none=>true
    | .bl a,.bool b=>a==b
    | .int a,.int b=>a==b
    | .str a,.str b=>a==b
    | _,_=>false
  | .glo n d,.Name x _=>(match B.consts[n]? with
    | some p=>p.1==x&&Uu p.2 d
    | none=>false)&&gloK (c.names.lookup x)&&zJ x
  | .bin op a b,.BinOp x op' y _=>op==op'&&chkE B c a x&&chkE B c b y
  | .neg a,.UnaryOp op x _=>op==.USub&&chkE B c a x
  | .cmp op a b,.Compare x [op'] [y] _=>op==op'&&chkE B c a x&&chkE B c b y&&wF y
  | .chn o1 o2 a b d,.Compare x [p1,p2] [y,z] _=>o1==p1&&o2==p2&&chkE B c a x&&chkE B c b y&&chkE B c d z&&wF z
  | .not a,.UnaryOp op x _=>op==.Not&&chkE B c a x
  | .and a b,.BoolOp op (x::y::r) p=>op==.And&&chkE B c a x&&chkE B c b (.BoolOp .And (y::r) p)
  | .or a b,.BoolOp op (x::y::r) p=>op==.Or&&chkE B c a x&&chkE B c b (.BoolOp .Or (y::r) p)
  | .one a,.BoolOp op [x] _=>chkE B c a x
  | .ite t a b,.IfExp x y z _=>chkE B c t x&&chkE B c a y&&chkE B c b z
  | .tup es,.Tuple xs _ _=>zT B c es xs
  | .lst es,.List xs _=>zT B c es xs
  | .dic tk ks es,.Dict keys vs _=>Xh ks keys&&uD B c es vs&&decide (ks.length=es.length)&&decide (ks.length<=15)
  | .sub a i,.Subscript x y _=>chkE B c a x&&chkE B c i y
  | .slc a lo hi,.Subscript x (.Slice l h none _) _=>chkE B c a x&&chkO B c lo l&&chkO B c hi h
  | .bi b es,.Call (.Name x _) args [] _=>(match b with
    | .isinst t=>x==("isinstance":Str)&&B.bare.contains x&&B.bare.contains (tyN t)&&gloK (c.names.lookup x)&&(match es,args with
      | [e],[y,.Name z _]=>chkE B c e y&&notStar y&&z==tyN t&&gloK (c.names.lookup z)
      | _,_=>false)
    | .sset=>x==("sorted":Str)&&B.bare.contains x&&gloK (c.names.lookup x)&&(match es,args with
      | [e],[q]=>(match Vg q with
        | some (y,z)=>y==("set":Str)&&B.bare.contains y&&gloK (c.names.lookup y)&&chkE B c e z&&notStar z
        | none=>false)
      | _,_=>false)
    | .lset=>false
    | .trev=>false
    | .lrng=>false
    | .lrng2=>false
    | b=>x==biS b&&B.bare.contains x&&gloK (c.names.lookup x)&&zT B c es args&&!es.isEmpty)
  | .call f es,.Call (.Name x _) args [] _=>B.fns[f]?==some x&&gloK (c.names.lookup x)&&zJ x&&zT B c es args&&!es.isEmpty
  | .callk f perm es,.Call (.Name x _) [] kws _=>B.fns[f]?==some x&&gloK (c.names.lookup x)&&zJ x&&Xd B c es kws&&(match yP kws,B.pars[f]? with
    | some ks,some ps=>perm.length==ps.length&&perm.all (· < ks.length)&&perm.map (λi=>ks.getD i "")==ps&&ks.length==ps.length&&B.kws.contains (f,ks,perm)
    | _,_=>false)
  | .mth m o es,.Call f args kws cp=>(match WY f with
    | some q=>q.2.1==mtS m&&chkE B c o q.1&&zT B c es args&&yo kws&&q.2.2.endLine==cp.line&&Yq q.1&&decide (1<=es.length)&&decide (es.length<=9)
    | none=>false)
  | .lam f p js,.Lambda pr b sc _=>chkL B c f p js pr b sc
  | .cvl i es,.Call (.Name x _) args [] _=>c.N[i]?==some x&&visK (c.names.lookup x)&&zJ x&&zT B c es args&&!es.isEmpty
  | .fgt e,x=>zej x&&c.fn&&chkE B ⟨c.names,c.N,false,c.tb⟩ e x
  | .box e,x=>Km x&&chkE B c e x
  | .comp t js it ifs elt,.ListComp y [⟨tgt,iter,cs,k⟩] sc _=>k==0&&(chkS c sc js||zan sc js)&&chkI B c it tgt iter&&wF iter&&(match xm tgt with
    | some xs=>decide ((xs++js.map (λj=>c.N.getD j "")).Nodup)&&nT t==xs.length&&tIs t==ό xs.length&&chkT (inner c sc xs js) t tgt&&chkE B (inner c sc xs js) elt y&&uD B (inner c sc xs js) ifs cs&&decide (ifs.length<=1)
    | none=>false)
  | _,_=>false
noncomputable def chkI (B:Tb) (c:Cc):E->Expr->Expr->Bool
 | .seq e,_,x=>chkE B c e x
 | .keys e,_,x=>chkE B c e x
 | .enum e,tg,.Call (.Name f _) [y] [] _=>zcC tg&&f==("enumerate":Str)&&B.bare.contains f&&gloK (c.names.lookup f)&&chkE B c e y&&notStar y
 | .rng none hi,_,.Call (.Name f _) [y] [] _=>f==("range":Str)&&B.bare.contains f&&gloK (c.names.lookup f)&&chkE B c hi y&&notStar y
 | _,_,_=>false
noncomputable def zT (B:Tb) (c:Cc):List E->List Expr->Bool
 | [],[]=>true
 | e::es,x::xs=>chkE B c e x&&notStar x&&zT B c es xs
 | _,_=>false
noncomputable def uD (B:Tb) (c:Cc):List E->List Expr->Bool
 | [],[]=>true
 | e::es,x::xs=>chkE B c e x&&uD B c es xs
 | _,_=>false
noncomputable def chkO (B:Tb) (c:Cc):Option E->Option Expr->Bool
 | none,none=>true
 | some e,some x=>chkE B c e x
 | _,_=>false
noncomputable def Xd (B:Tb) (c:Cc):List E->List bG->Bool
 | [],[]=>true
 | e::es,⟨some _,x,_⟩::xs=>chkE B c e x&&Xd B c es xs
 | _,_=>false
end
theorem Zb {x:ϛ}{Q:ϛ->Prop}(h:Υ x.ctorIdx 0=true) (f:∀ a0 a1 a2,Q (.BoolOp a0 a1 a2)):Q x:=by
 revert h;cases x with
 | BoolOp a0 a1 a2=>exact λ_=>f a0 a1 a2
 | _=>exact nobE
theorem zdU {x:ϛ}{Q:ϛ->Prop}(h:Υ x.ctorIdx 2=true) (f:∀ a0 a1 a2 a3,Q (.BinOp a0 a1 a2 a3)):Q x:=by
 revert h;cases x with
 | BinOp a0 a1 a2 a3=>exact λ_=>f a0 a1 a2 a3
 | _=>exact nobE
theorem Yv {x:ϛ}{Q:ϛ->Prop}(h:Υ x.ctorIdx 3=true) (f:∀ a0 a1 a2,Q (.UnaryOp a0 a1 a2)):Q x:=by
 revert h;cases x with
 | UnaryOp a0 a1 a2=>exact λ_=>f a0 a1 a2
 | _=>exact nobE
theorem zbr {x:ϛ}{Q:ϛ->Prop}(h:Υ x.ctorIdx 4=true) (f:∀ a0 a1 a2 a3,Q (.Lambda a0 a1 a2 a3)):Q x:=by
 revert h;cases x with
 | Lambda a0 a1 a2 a3=>exact λ_=>f a0 a1 a2 a3
 | _=>exact nobE
theorem zdT {x:ϛ}{Q:ϛ->Prop}(h:Υ x.ctorIdx 5=true) (f:∀ a0 a1 a2 a3,Q (.IfExp a0 a1 a2 a3)):Q x:=by
 revert h;cases x with
 | IfExp a0 a1 a2 a3=>exact λ_=>f a0 a1 a2 a3
 | _=>exact nobE
theorem zgH {x:ϛ}{Q:ϛ->Prop}(h:Υ x.ctorIdx 6=true) (f:∀ a0 a1 a2,Q (.Dict a0 a1 a2)):Q x:=by
 revert h;cases x with
 | Dict a0 a1 a2=>exact λ_=>f a0 a1 a2
 | _=>exact nobE
theorem qd {x:ϛ}{Q:ϛ->Prop}(h:Υ x.ctorIdx 8=true) (f:∀ a0 a1 a2 a3,Q (.ListComp a0 a1 a2 a3)):Q x:=by
 revert h;cases x with
 | ListComp a0 a1 a2 a3=>exact λ_=>f a0 a1 a2 a3
 | _=>exact nobE
theorem Yx {x:ϛ}{Q:ϛ->Prop}(h:Υ x.ctorIdx 15=true) (f:∀ a0 a1 a2 a3,Q (.Compare a0 a1 a2 a3)):Q x:=by
 revert h;cases x with
 | Compare a0 a1 a2 a3=>exact λ_=>f a0 a1 a2 a3
 | _=>exact nobE
theorem uv {x:ϛ}{Q:ϛ->Prop}(h:Υ x.ctorIdx 16=true) (f:∀ a0 a1 a2 a3,Q (.Call a0 a1 a2 a3)):Q x:=by
 revert h;cases x with
 | Call a0 a1 a2 a3=>exact λ_=>f a0 a1 a2 a3
 | _=>exact nobE
theorem qe {x:ϛ}{Q:ϛ->Prop}(h:Υ x.ctorIdx 19=true) (f:∀ a0 a1 a2,Q (.Constant a0 a1 a2)):Q x:=by
 revert h;cases x with
 | Constant a0 a1 a2=>exact λ_=>f a0 a1 a2
 | _=>exact nobE
theorem jm {x:ϛ}{Q:ϛ->Prop}(h:Υ x.ctorIdx 21=true) (f:∀ a0 a1 a2,Q (.Subscript a0 a1 a2)):Q x:=by
 revert h;cases x with
 | Subscript a0 a1 a2=>exact λ_=>f a0 a1 a2
 | _=>exact nobE
theorem vC {x:ϛ}{Q:ϛ->Prop}(h:Υ x.ctorIdx 23=true) (f:∀ a0 a1,Q (.Name a0 a1)):Q x:=by
 revert h;cases x with
 | Name a0 a1=>exact λ_=>f a0 a1
 | _=>exact nobE
theorem ofList {x:ϛ}{Q:ϛ->Prop}(h:Υ x.ctorIdx 24=true) (f:∀ a0 a1,Q (.List a0 a1)):Q x:=by
 revert h;cases x with
 | List a0 a1=>exact λ_=>f a0 a1
 | _=>exact nobE
theorem zdQ {x:ϛ}{Q:ϛ->Prop}(h:Υ x.ctorIdx 25=true) (f:∀ a0 a1 a2,Q (.Tuple a0 a1 a2)):Q x:=by
 revert h;cases x with
 | Tuple a0 a1 a2=>exact λ_=>f a0 a1 a2
 | _=>exact nobE
theorem zdR {x:ϛ}{Q:ϛ->Prop}(h:Υ x.ctorIdx 26=true) (f:∀ a0 a1 a2 a3,Q (.Slice a0 a1 a2 a3)):Q x:=by
 revert h;cases x with
 | Slice a0 a1 a2 a3=>exact λ_=>f a0 a1 a2 a3
 | _=>exact nobE
theorem jn {x:aA}{Q:aA->Prop}(h:Υ x.ctorIdx 5=true) (f:∀ a0 a1 a2,Q (.Assign a0 a1 a2)):Q x:=by
 revert h;cases x with
 | Assign a0 a1 a2=>exact λ_=>f a0 a1 a2
 | _=>exact nobE
theorem Wc {x:aA}{Q:aA->Prop}(h:Υ x.ctorIdx 24=true) (f:∀ a0 a1,Q (.Expr a0 a1)):Q x:=by
 revert h;cases x with
 | Expr a0 a1=>exact λ_=>f a0 a1
 | _=>exact nobE
theorem Yw {x:aA}{Q:aA->Prop}(h:Υ x.ctorIdx 3=true) (f:∀ a0 a1,Q (.Return a0 a1)):Q x:=by
 revert h;cases x with
 | Return a0 a1=>exact λ_=>f a0 a1
 | _=>exact nobE
theorem zjk {x:aA}{Q:aA->Prop}(h:Υ x.ctorIdx 12=true) (f:∀ a0 a1 a2 a3,Q (.If a0 a1 a2 a3)):Q x:=by
 revert h;cases x with
 | If a0 a1 a2 a3=>exact λ_=>f a0 a1 a2 a3
 | _=>exact nobE
theorem zbp {x:aA}{Q:aA->Prop}(h:Υ x.ctorIdx 11=true) (f:∀ a0 a1 a2 a3,Q (.While a0 a1 a2 a3)):Q x:=by
 revert h;cases x with
 | While a0 a1 a2 a3=>exact λ_=>f a0 a1 a2 a3
 | _=>exact nobE
theorem zgG {x:aA}{Q:aA->Prop}(h:Υ x.ctorIdx 9=true) (f:∀ a0 a1 a2 a3 a4,Q (.For a0 a1 a2 a3 a4)):Q x:=by
 revert h;cases x with
 | For a0 a1 a2 a3 a4=>exact λ_=>f a0 a1 a2 a3 a4
 | _=>exact nobE
theorem zdS {x:aA}{Q:aA->Prop}(h:Υ x.ctorIdx 25=true) (f:∀ a0,Q (.Pass a0)):Q x:=by
 revert h;cases x with
 | Pass a0=>exact λ_=>f a0
 | _=>exact nobE
theorem zbq {x:aA}{Q:aA->Prop}(h:Υ x.ctorIdx 26=true) (f:∀ a0,Q (.Break a0)):Q x:=by
 revert h;cases x with
 | Break a0=>exact λ_=>f a0
 | _=>exact nobE
theorem Wd {x:aA}{Q:aA->Prop}(h:Υ x.ctorIdx 27=true) (f:∀ a0,Q (.Continue a0)):Q x:=by
 revert h;cases x with
 | Continue a0=>exact λ_=>f a0
 | _=>exact nobE
structure EnvO (Γ:Gm) (Hz H:Hp) (g:G) (ρ:List Slot) (σ:L2.St):Prop where
 len:ρ.length=σ.length
 sh:∀ (i:Nat) (d:D),ρ[i]?=some (.sh d)->∃ v,σ[i]?=some (some v)/\Has Γ g d v
 ow:∀ (i:Nat) (d:D),ρ[i]?=some (.ow d)->∃ a,σ[i]?=some (some (.ref a))/\Hz a=none/\g.R a=none/\a ∉ g.α/\zP Γ H g a d/\Wx d=false
 inj:∀ (i j:Nat) (d e:D) (a:Addr),ρ[i]?=some (.ow d)->ρ[j]?=some (.ow e)->σ[i]?=some (some (.ref a))->σ[j]?=some (some (.ref a))->i=j
section
variable {Γ:Gm}{H H':Hp}{g g':G}{S:Store}{a:Addr}
theorem WOk.zV {o:HO}(w:WOk Γ H g S) (hr:g.R a=none) (ha:a ∉ g.α):WOk Γ (upd H a o) g S where
 rh:=λb u q=>by
  have e:=w.rh b u q;have:b≠a:=by rintro rfl;rw [hr] at q;cases q
  rw [zc this];exact e
 len:=w.len
 nd:=w.nd
 off:=w.off
 cell:=λk c b h1 h2=>(w.cell k c b h1 h2).mono (Le.refl g) λo e=>by
  have:b≠a:=by rintro rfl;exact ha (ϑ h2)
  rw [zc this];exact e
theorem Step.zV {o:HO}(s:Step H g H' g') (h:H a=none):Step H g (upd H' a o) g' where
 le:=s.le
 fr:=λb u e n=>by rw [zc (zq e h)];exact s.fr b u e n
 ex:=λb u e=>by rw [zc (zq e h)];exact s.ex b u e
 na:=s.na
 nr:=s.nr
theorem Step.kept {o:HO}(s:Step H g H' g') (h:H a=some o) (hr:g.R a=none) (ha:a ∉ g.α) (hm:fixB o=false:=by rfl):H' a=some o/\g'.R a=none/\a ∉ g'.α:=by
 refine ⟨s.fr a o h ha,?_,λm=>?_⟩
 ·cases q:g'.R a with
  | none=>rfl
  | some u=>
   rcases s.nr a (by rw [q];simp) with z | z | z | ⟨xs,z,zf⟩
   ·exact absurd hr z
   ·rw [h] at z;cases z
   ·exact absurd z ha
   ·rw [h] at z;cases z;rw [hm] at zf;cases zf
 ·rcases s.na a m with z | z
  ·exact ha z
  ·rw [h] at z;cases z
end
section
variable {Γ:Gm}{Hz H H':Hp}{g g':G}{S:Store}{ρ:List Slot}{σ:L2.St}
theorem zu (env:EnvO Γ Hz H g ρ σ) (st:Step H g H' g'):EnvO Γ Hz H' g' ρ σ:=by
 refine ⟨env.len,λi d h=>?_,λi d h=>?_,env.inj⟩
 ·obtain ⟨v,h1,h2⟩:=env.sh i d h;exact ⟨v,h1,h2.mono st.le⟩
 ·obtain ⟨a,h1,h2,h3,h4,h5,h6⟩:=env.ow i d h;obtain ⟨o,ho,hm⟩:=h5.VG h3;obtain ⟨k1,k2,k3⟩:=st.kept ho h3 h4 hm;exact ⟨a,h1,h2,k2,k3,h5.mono st.le λo' z=>by rw [ho] at z;cases z;exact k1,h6⟩
def VN (Γ:Gm) (Hb:Hp) (x:Vl) (v:V) (H:Hp) (g:G):Prop:=match x.2 with
 | .st=>Has Γ g x.1 v
 | .fr=>∃ a,v=.ref a/\Hb a=none/\g.R a=none/\a ∉ g.α/\zP Γ H g a x.1
 | .bo=>∃ a,v=.ref a/\g.R a=none/\a ∉ g.α/\zP Γ H g a x.1
theorem VN.of {Hb:Hp}{d:D}{fr:Bool}{v:V}(h:VOk Γ Hb d fr v H g):VN Γ Hb (ofB (d,fr)) v H g:=by cases fr <;> exact h
theorem VN.back {H1:Hp}{g1:G}{x:Vl}{v:V}(h:VN Γ H1 x v H' g') (s:Step H g H1 g1):VN Γ H x v H' g':=by
 obtain ⟨d,k⟩:=x;cases k with
 | fr=>
  obtain ⟨a,e,h0,r⟩:=h;exact ⟨a,e,s.Vs h0,r⟩
 | _=>exact h
theorem VN.step {Hb:Hp}{x:Vl}{v:V}(h:VN Γ Hb x v H g) (s:Step H g H' g'):VN Γ Hb x v H' g':=by
 obtain ⟨d,k⟩:=x;cases k with
 | st=>exact (show Has Γ g d v from h).mono s.le
 | fr=>
  obtain ⟨a,e,h0,h1,h2,h3⟩:=h;obtain ⟨o,ho,hm⟩:=h3.VG h1;obtain ⟨k1,k2,k3⟩:=s.kept ho h1 h2 hm;exact ⟨a,e,h0,k2,k3,h3.mono s.le λo' q=>by rw [ho] at q;cases q;exact k1⟩
 | bo=>
  obtain ⟨a,e,h1,h2,h3⟩:=h;obtain ⟨o,ho,hm⟩:=h3.VG h1;obtain ⟨k1,k2,k3⟩:=s.kept ho h1 h2 hm;exact ⟨a,e,k2,k3,h3.mono s.le λo' q=>by rw [ho] at q;cases q;exact k1⟩
theorem Ub {a:Addr}{d:D}(hr:g.R a=none) (h:zP Γ H g a d):Rdb Γ H g (zE S d) (.ref a):=by
 cases d with
 | lst ds=>obtain ⟨vs,h1,h2⟩:=h;exact ⟨a,vs,rfl,h1,h2⟩
 | dK ks ds=>obtain ⟨vs,h1,h3,h2⟩:=h;exact ⟨a,vs,rfl,h1,h3,h2⟩
 | dT ks ds=>obtain ⟨vs,h1,h3,h2⟩:=h;exact ⟨a,vs,rfl,h1,h3,h2⟩
 | ref=>obtain ⟨o,h1,_⟩:=h;rw [hr] at h1;cases h1
 | ins=>exact ⟨a,rfl⟩
 | tab=>exact ⟨a,rfl⟩
 | _=>exact h.elim
theorem VN.rdb {Hb:Hp}{x:Vl}{v:V}(h:VN Γ Hb x v H g) (w:WOk Γ H g S):Rdb Γ H g (zE S x.1) v:=by
 obtain ⟨d,k⟩:=x;cases k with
 | st=>exact Ke w h
 | fr=>obtain ⟨a,rfl,_,h1,_,h3⟩:=h;exact Ub h1 h3
 | bo=>obtain ⟨a,rfl,h1,_,h3⟩:=h;exact Ub h1 h3
theorem VN.sc {Hb:Hp}{d:D}{k:Kd}{v:V}(h:VN Γ Hb (d,k) v H g) (hc:∀ a,¬ zP Γ H g a d):Has Γ g d v:=by
 cases k with
 | st=>exact h
 | fr=>obtain ⟨a,_,_,_,_,h3⟩:=h;exact (hc a h3).elim
 | bo=>obtain ⟨a,_,_,_,h3⟩:=h;exact (hc a h3).elim
theorem VN.keep {x:Vl}{v:V}{Q:D->Prop}(h:VN Γ H x v H' g') (st:Step H g H' g') (w:WOk Γ H' g' S) (k:EV.keep x Q):∃ g2,Step H g H' g2/\WOk Γ H' g2 S/\Has Γ g2 x.1 v/\Q x.1:=by
 obtain ⟨d,kk⟩:=x;cases kk with
 | st=>exact ⟨g',st,w,h,k⟩
 | fr=>
  obtain ⟨g2,a,b,c,_⟩:=freeze (fr:=true) st w h rfl;exact ⟨g2,a,b,c,k⟩
 | bo=>exact k.elim
end
def TX (Γ:Gm) (cf:Cf) (e:E):TE:=λσ H Q=>∃ ρ S V g Hz,wpE cf ρ e V S/\WOk Γ H g S/\EnvO Γ Hz H g ρ σ/\∀ x v H' g' S',Step H g H' g'->WOk Γ H' g' S'->VN Γ H x v H' g'->V x S'->Q v H'
def TB (Γ:Gm) (cf:Cf) (e:E):TT:=λσ H Q=>∃ ρ S V g Hz,wpE cf ρ e V S/\WOk Γ H g S/\EnvO Γ Hz H g ρ σ/\∀ x H' g' S',Step H g H' g'->WOk Γ H' g' S'->V x S'->isB x.1 λb=>Q b H'
def TXs (Γ:Gm) (cf:Cf) (es:List E):TA:=λσ H Q=>∃ ρ S W g Hz,wpEs cf ρ es W S/\WOk Γ H g S/\EnvO Γ Hz H g ρ σ/\∀ ds vs H' g' S',Step H g H' g'->WOk Γ H' g' S'->Hass Γ g' ds vs->W ds S'->Q vs H'
def TXo (Γ:Gm) (cf:Cf) (o:Option E):TO:=λσ H Q=>∃ ρ S W g Hz,wpO cf ρ o W S/\WOk Γ H g S/\EnvO Γ Hz H g ρ σ/\∀ i H' g' S',Step H g H' g'->WOk Γ H' g' S'->W i S'->Q i H'
section
variable {Γ:Gm}{cf:Cf}{σ:L2.St}{H:Hp}{P:Prop}
theorem goX {e:E}{Q:VK}(h:TX Γ cf e σ H Q) (f:∀ ρ S V g Hz,wpE cf ρ e V S->WOk Γ H g S->EnvO Γ Hz H g ρ σ->(∀ x v H' g' S',Step H g H' g'->WOk Γ H' g' S'->VN Γ H x v H' g'->V x S'->Q v H')->P):P:=
 let ⟨ρ,S,V,g,Hz,a,b,c,d⟩:=h;f ρ S V g Hz a b c d
theorem goB {e:E}{Q} (h:TB Γ cf e σ H Q) (f:∀ ρ S V g Hz,wpE cf ρ e V S->WOk Γ H g S->EnvO Γ Hz H g ρ σ->(∀ x H' g' S',Step H g H' g'->WOk Γ H' g' S'->V x S'->isB x.1 λb=>Q b H')->P):P:=
 let ⟨ρ,S,V,g,Hz,a,b,c,d⟩:=h;f ρ S V g Hz a b c d
theorem goS {es:List E}{Q} (h:TXs Γ cf es σ H Q) (f:∀ ρ S W g Hz,wpEs cf ρ es W S->WOk Γ H g S->EnvO Γ Hz H g ρ σ->(∀ ds vs H' g' S',Step H g H' g'->WOk Γ H' g' S'->Hass Γ g' ds vs->W ds S'->Q vs H')->P):P:=
 let ⟨ρ,S,V,g,Hz,a,b,c,d⟩:=h;f ρ S V g Hz a b c d
theorem goO {o:Option E}{Q} (h:TXo Γ cf o σ H Q) (f:∀ ρ S W g Hz,wpO cf ρ o W S->WOk Γ H g S->EnvO Γ Hz H g ρ σ->(∀ i H' g' S',Step H g H' g'->WOk Γ H' g' S'->W i S'->Q i H')->P):P:=
 let ⟨ρ,S,V,g,Hz,a,b,c,d⟩:=h;f ρ S V g Hz a b c d
end
def rAny (X:Cx) (f:δ->δ->Sem δ):R2:=λx y H Q=>∃ r,OpR X f r/\r x y H Q
theorem Wa {X:Cx}{f:δ->δ->Sem δ}:OpR X f (rAny X f):=λpJ s σ H x y v u Q I rx ry ⟨_,h,q⟩=>h pJ s σ H x y v u Q I rx ry q
def zha (X:Cx):R2:=λx y H Q=>∃ r,IxR X r/\r x y H Q
theorem zg9 {X:Cx}:IxR X (zha X):=λa b pJ s σ H x y v u Q I rx ry ⟨_,h,q⟩=>h a b pJ s σ H x y v u Q I rx ry q
def zim (X:Cx):V->Option Int->Option Int->Hp->VK->Prop:=λx l u H Q=>∃ r,SlR X r/\r x l u H Q
theorem zfE {X:Cx}:SlR X (zim X):=λpJ s σ H x v vl vu lo hi sl Q I rx hs pl pu ⟨_,h,q⟩=>h pJ s σ H x v vl vu lo hi sl Q I rx hs pl pu q
def zeG (X:Cx) (f:δ):List V->Hp->VK->Prop:=λxs H Q=>∃ r,yu X f r/\r xs H Q
theorem Xb {X:Cx}{f:δ}:yu X f (zeG X f):=λpJ s σ H xs us Q I rv ⟨_,h,q⟩=>h pJ s σ H xs us Q I rv q
section
variable {X:Cx}{Γ:Gm}{cf:Cf}{x y z:Expr}{pos p:Pos}{a b c:E}
theorem za1 {i:Nat}{n:Str}(hN:X.N[i]?=some n) (hv:Vis X.env.scope n) (hd:(n==("__debug__":Str))=false) (hcd:(n==("__classdict__":Str))=false):PE X (.Name n pos) (TX Γ cf (.var i)):=by
 refine (jl hN hv hd hcd).imp λσ H Q h0=>goX h0 λρ S V g Hz hw w env k=>?_
 have hw:sel ρ[i]? (λd=>V (d,.st) S) (λd=>V (d,.bo) S):=hw;cases e:ρ[i]? with
 | none=>rw [e] at hw;exact hw.elim
 | some s=>
  rw [e] at hw;cases s with
  | no=>exact hw.elim
  | sh d=>
   obtain ⟨v,h1,h2⟩:=env.sh i d e;exact ⟨v,h1,k (d,.st) v H g S (Step.refl H g) w h2 hw⟩
  | ow d=>
   obtain ⟨a,h1,h2,h3,h4,h5,_⟩:=env.ow i d e;exact ⟨_,h1,k (d,.bo) _ H g S (Step.refl H g) w ⟨a,rfl,h3,h4,h5⟩ hw⟩
theorem zfZ {t:V}{d:D}{e:E}(h:PE X x (tC t)) (hd:∀ g,Has Γ g d t) (he:∀ ρ V S,wpE cf ρ e V S->V (d,.st) S):PE X x (TX Γ cf e):=h.imp λσ H Q h0=>goX h0 λρ S V g Hz hw w env k=>k (d,.st) _ H g S (Step.refl H g) w (hd g) (he _ _ _ hw)
theorem two {G1:V->V->Hp->Prop}{σ:L2.St}{H:Hp}{ρ:List Slot}{S:Store}{g:G}{Hz:Hp}{W:Vl->Vl->Store->Prop}(hw:wpE cf ρ a (λx S1=>wpE cf ρ b (λy S2=>W x y S2) S1) S) (w:WOk Γ H g S) (env:EnvO Γ Hz H g ρ σ)
  (k:∀ x y u v H' g' S',Step H g H' g'->WOk Γ H' g' S'->VN Γ H x u H' g'->VN Γ H y v H' g'->W x y S'->G1 u v H'):TX Γ cf a σ H λu H1=>TX Γ cf b σ H1 λv H2=>G1 u v H2:=
 ⟨ρ,S,_,g,Hz,hw,w,env,λx u H1 g1 S1 st1 w1 v1 h1=>⟨ρ,S1,_,g1,Hz,h1,w1,zu env st1,λy v H2 g2 S2 st2 w2 v2 h2=>k x y u v H2 g2 S2 (st1.trans st2) w2 (v1.step st2) (v2.back st1) h2⟩⟩
theorem ziU {op:lF}(hK:X.K=Γ.K) (ha:PE X x (TX Γ cf a)) (hb:PE X y (TX Γ cf b)):PE X (.BinOp x op y pos) (TX Γ cf (.bin op a b)):=
 (zjb Wa ha hb).imp λσ H Q h0=>goX h0 λρ S V g Hz hw w env k=>two hw w env λx y u v H' g' S' st w' vx vy h=>by
  have h:opt (opD op (zE S' x.1) (zE S' y.1)) (λp=>V (ofB p) S'):=h;cases eo:opD op (zE S' x.1) (zE S' y.1) with
  | none=>rw [eo] at h;exact h.elim
  | some p=>
   rw [eo] at h;obtain ⟨r,h1,h2⟩:=zgw (X:=X) hK eo;exact ⟨r,h1,h2 S' H' g' u v Q w' (vx.rdb w') (vy.rdb w') λt H2 g2 st2 _ w2 vo=>k _ t H2 g2 S' (st.trans st2) w2 ((VN.of vo).back st) h⟩
theorem cmp2 {op:iB}{u v:V}{dx dy:Vl}{Hb H':Hp}{g':G}{S':Store}{Q:VK}{T:Bool->Prop}(hK:X.K=Γ.K) (hu:X.A.units+61 < ϸ) (w':WOk Γ H' g' S') (vx:VN Γ Hb dx u H' g') (vy:VN Γ Hb dy v H' g') (h:opt (cmpD op (zE S' dx.1) (zE S' dy.1)) T)
  (k:∀ r H2 g2,Step H' g' H2 g2->WOk Γ H2 g2 S'->T r->Q (.bl r) H2):rAny X (ϔ op) u v H' Q:=by
 cases eo:cmpD op (zE S' dx.1) (zE S' dy.1) with
 | none=>rw [eo] at h;exact h.elim
 | some r=>
  rw [eo] at h;obtain ⟨r2,h1,h2⟩:=zeF (X:=X) hK hu eo;refine ⟨r2,h1,h2 S' H' g' u v Q w' (vx.rdb w') (vy.rdb w') λt H2 g2 st2 _ w2 vo=>?_⟩;cases (show t=.bl r from vo);exact k r H2 g2 st2 w2 h
theorem ziR {op:iB}(hK:X.K=Γ.K) (hu:X.A.units+61 < ϸ) (ha:PE X x (TX Γ cf a)) (hb:PE X y (TX Γ cf b)) (hm:my op y=false):PE X (.Compare x [op] [y] pos) (TX Γ cf (.cmp op a b))/\PT X (.Compare x [op] [y] pos) (TB Γ cf (.cmp op a b)):=
 ⟨(zdG Wa ha hb hm).imp λσ H Q h0=>goX h0 λρ S V g Hz hw w env k=>two hw w env λx y u v H' g' S' st w' vx vy h=>cmp2 hK hu w' vx vy h λr H2 g2 st2 w2 h=>k (.bl r,.st) _ H2 g2 S' (st.trans st2) w2 rfl h,
 (zdw Wa ha hb hm).imp λσ H Q h0=>goB h0 λρ S V g Hz hw w env k=>two hw w env λx y u v H' g' S' st w' vx vy h=>cmp2 hK hu w' vx vy h λr H2 g2 st2 w2 h=>⟨r,rfl,k (.bl r,.st) H2 g2 S' (st.trans st2) w2 h⟩⟩
theorem chn3 {o1 o2:iB}{σ:L2.St}{H:Hp}{Q:VK}{ρ:List Slot}{S:Store}{g:G}{Hz:Hp}{V:Po}(hK:X.K=Γ.K) (hu:X.A.units+61 < ϸ) (hw:wpE cf ρ (.chn o1 o2 a b c) V S) (w:WOk Γ H g S) (env:EnvO Γ Hz H g ρ σ)
  (k:∀ r H' g' S',Step H g H' g'->WOk Γ H' g' S'->V (.bl r,.st) S'->Q (.bl r) H'):JG (rAny X (ϔ o1)) (rAny X (ϔ o2)) (TX Γ cf a) (TX Γ cf b) (TX Γ cf c) σ H Q:=
 two hw w env λx y u v H' g' S' st w' vx vy h=>cmp2 hK hu w' vx vy h λr H2 g2 st2 w2 h=>⟨r,rfl,by
  cases r with
  | false=>exact iteF (k false H2 g2 S' (st.trans st2) w2 h)
  | true=>exact iteT ⟨ρ,S',_,g2,Hz,h,w2,zu env (st.trans st2),λz t H3 g3 S3 st3 w3 vz h3=>cmp2 hK hu w3 (vy.step (st2.trans st3)) (vz.back (st.trans st2)) h3 λr H4 g4 st4 w4 h4=>k r H4 g4 S3 (((st.trans st2).trans st3).trans st4) w4 h4⟩⟩
theorem ziS {o1 o2:iB}(hK:X.K=Γ.K) (hu:X.A.units+61 < ϸ) (ha:PE X x (TX Γ cf a)) (hb:PE X y (TX Γ cf b)) (hc:PE X z (TX Γ cf c)) (hm:lastMarks [o1,o2] [y,z]=false):PE X (.Compare x [o1,o2] [y,z] pos) (TX Γ cf (.chn o1 o2 a b c))/\PT X (.Compare x [o1,o2] [y,z] pos) (TB Γ cf (.chn o1 o2 a b c)):=
 ⟨(zbl Wa Wa ha hb hc hm).imp λσ H Q h0=>goX h0 λρ S V g Hz hw w env k=>chn3 hK hu hw w env λr H' g' S' st w' h=>k (.bl r,.st) _ H' g' S' st w' rfl h,
 (za9 Wa Wa ha hb hc hm).imp λσ H Q h0=>goB h0 λρ S V g Hz hw w env k=>chn3 hK hu hw w env λr H' g' S' st w' h=>⟨r,rfl,k _ H' g' S' st w' h⟩⟩
theorem vI {d:D}{Q:Bool->Prop}(h:isB d Q):∃ b,d=.bl b/\Q b:=by
 cases d with
 | bl b=>exact ⟨b,rfl,h⟩
 | _=>exact h.elim
theorem zhl {d:D}{Q:Int->Prop}(h:isZ d Q):∃ b,d=.int b/\Q b:=by
 cases d with
 | int b=>exact ⟨b,rfl,h⟩
 | _=>exact h.elim
theorem VN.bl {Hb H:Hp}{g:G}{x:Vl}{v:V}{Q:Bool->Prop}(h:VN Γ Hb x v H g) (k:isB x.1 Q):∃ b,v=.bl b/\Q b:=by obtain ⟨d,kk⟩:=x;obtain ⟨b,rfl,q⟩:=vI k;exact ⟨b,h.sc λ_ z=>z.elim,q⟩
theorem VN.int {Hb H:Hp}{g:G}{x:Vl}{v:V}{Q:Int->Prop}(h:VN Γ Hb x v H g) (k:isZ x.1 Q):∃ b,v=.int b/\Q b:=by obtain ⟨d,kk⟩:=x;obtain ⟨b,rfl,q⟩:=zhl k;exact ⟨b,h.sc λ_ z=>z.elim,q⟩
theorem ziG (h:PE X x (TX Γ cf a)):PE X (.UnaryOp .USub x pos) (TX Γ cf (.neg a)):=
 (zi9 zfe h).imp λσ H Q h0=>goX h0 λρ S V g Hz hw w env k=>⟨ρ,S,_,g,Hz,hw,w,env,λx v H' g' S' st w' vx h=>by
  obtain ⟨i,e,q⟩:=vx.int h
  exact ⟨i,e,k (.int (-i),.st) _ H' g' S' st w' rfl q⟩⟩
theorem zfI (h:PE X x (TX Γ cf a)) (he:∀ whole,lC x X.env whole=(do let v <- whole;standAt x.pos;gR [v] (truthy v))):PT X x (TB Γ cf a):=
 (zgd h he).imp λσ H Q h0=>goB h0 λρ S V g Hz hw w env k=>⟨ρ,S,_,g,Hz,hw,w,env,λx v H' g' S' st w' vx h=>vx.bl (k x H' g' S' st w' h)⟩
theorem zfS (h:PT X x (TB Γ cf a)):PT X (.UnaryOp .Not x pos) (TB Γ cf (.not a)):=
 (zge h).imp λσ H Q h0=>goB h0 λρ S V g Hz hw w env k=>⟨ρ,S,_,g,Hz,hw,w,env,λx H' g' S' st w' h=>by
  obtain ⟨b,e,q⟩:=vI h;rw [e]
  exact k (.bl (!b),.st) H' g' S' st w' q⟩
theorem ziF (h:PE X x (TX Γ cf a)):PE X (.UnaryOp .Not x pos) (TX Γ cf (.not a)):=
 (zgp h).imp λσ H Q h0=>goX h0 λρ S V g Hz hw w env k=>⟨ρ,S,_,g,Hz,hw,w,env,λx v H' g' S' st w' vx h=>by
  obtain ⟨b,e,q⟩:=vx.bl h
  exact ⟨b,e,k (.bl (!b),.st) _ H' g' S' st w' rfl q⟩⟩
theorem zaT {σ:L2.St}{H H1:Hp}{g g1:G}{Q:VK}{ρ:List Slot}{V:Po}{S1:Store}{Hz:Hp}(st:Step H g H1 g1) (w1:WOk Γ H1 g1 S1) (env:EnvO Γ Hz H g ρ σ) (k:∀ x v H' g' S',Step H g H' g'->WOk Γ H' g' S'->VN Γ H x v H' g'->V x S'->Q v H') (hw:wpE cf ρ a V S1):TX Γ cf a σ H1 Q:=
 ⟨ρ,S1,V,g1,Hz,hw,w1,zu env st,λy u H2 g2 S2 st2 w2 vy hy=>k y u H2 g2 S2 (st.trans st2) w2 (vy.back st) hy⟩
theorem zaU {σ:L2.St}{H H1:Hp}{g g1:G}{Q:Bool->Hp->Prop}{ρ:List Slot}{V:Po}{S1:Store}{Hz:Hp}(st:Step H g H1 g1) (w1:WOk Γ H1 g1 S1) (env:EnvO Γ Hz H g ρ σ) (k:∀ x H' g' S',Step H g H' g'->WOk Γ H' g' S'->V x S'->isB x.1 λb=>Q b H') (hw:wpE cf ρ a V S1):TB Γ cf a σ H1 Q:=
 ⟨ρ,S1,V,g1,Hz,hw,w1,zu env st,λy H2 g2 S2 st2 w2 hy=>k y H2 g2 S2 (st.trans st2) w2 hy⟩
theorem ziW {rest:List Expr}(ha:PE X x (TX Γ cf a)) (hb:PE X (.BoolOp .And (y::rest) pos) (TX Γ cf b)):PE X (.BoolOp .And (x::y::rest) pos) (TX Γ cf (.and a b)):=
 (zgr ha hb).imp λσ H Q h0=>goX h0 λρ S V g Hz hw w env k=>⟨ρ,S,_,g,Hz,hw,w,env,λx v H1 g1 S1 st w1 vx h=>by
  obtain ⟨r,e,q⟩:=vx.bl h;refine ⟨r,e,?_⟩;cases r with
  | false=>exact iteF (k (.bl false,.st) _ H1 g1 S1 st w1 rfl q)
  | true=>exact iteT (zaT st w1 env k q)⟩
theorem s_or {rest:List Expr}(ha:PE X x (TX Γ cf a)) (hb:PE X (.BoolOp .Or (y::rest) pos) (TX Γ cf b)):PE X (.BoolOp .Or (x::y::rest) pos) (TX Γ cf (.or a b)):=
 (zja ha hb).imp λσ H Q h0=>goX h0 λρ S V g Hz hw w env k=>⟨ρ,S,_,g,Hz,hw,w,env,λx v H1 g1 S1 st w1 vx h=>by
  obtain ⟨r,e,q⟩:=vx.bl h;refine ⟨r,e,?_⟩;cases r with
  | true=>exact iteT (k (.bl true,.st) _ H1 g1 S1 st w1 rfl q)
  | false=>exact iteF (zaT st w1 env k q)⟩
theorem PW.impE {t t':TT}(h:PW X x t) (i:∀ σ H Q,t' σ H Q->t σ H Q):PW X x t':=λwh pJ s σ H Q I q=>h wh pJ s σ H Q I (i σ H Q q)
theorem zf1 {rest:List Expr}(ha:PT X x (TB Γ cf a)) (hb:PW X (.BoolOp .And (y::rest) pos) (TB Γ cf b)):PW X (.BoolOp .And (x::y::rest) pos) (TB Γ cf (.and a b)):=
 PW.impE (zgc ha hb) λσ H Q h0=>goB h0 λρ S V g Hz hw w env k=>⟨ρ,S,_,g,Hz,hw,w,env,λx H1 g1 S1 st w1 h=>by
  obtain ⟨r,e,q⟩:=vI h;rw [e];show (if r=true then _ else _)
  cases r with
  | false=>exact iteF (k (.bl false,.st) H1 g1 S1 st w1 q)
  | true=>exact iteT (zaU st w1 env k q)⟩
theorem ziE {rest:List Expr}(ha:PT X x (TB Γ cf a)) (hb:PW X (.BoolOp .Or (y::rest) pos) (TB Γ cf b)):PW X (.BoolOp .Or (x::y::rest) pos) (TB Γ cf (.or a b)):=
 PW.impE (zi7 ha hb) λσ H Q h0=>goB h0 λρ S V g Hz hw w env k=>⟨ρ,S,_,g,Hz,hw,w,env,λx H1 g1 S1 st w1 h=>by
  obtain ⟨r,e,q⟩:=vI h;rw [e];show (if r=true then _ else _)
  cases r with
  | true=>exact iteT (k (.bl true,.st) H1 g1 S1 st w1 q)
  | false=>exact iteF (zaU st w1 env k q)⟩
theorem zcj {op:oH}(h:PT X x (TB Γ cf a)):PW X (.BoolOp op [x] pos) (TB Γ cf (.one a)):=by
 cases op with
 | And=>exact zds h
 | Or=>exact zgb h
theorem ziK (hc:PT X x (TB Γ cf c)) (ha:PE X y (TX Γ cf a)) (hb:PE X z (TX Γ cf b)):PE X (.IfExp x y z pos) (TX Γ cf (.ite c a b)):=
 (zbh hc ha hb).imp λσ H Q h0=>goX h0 λρ S V g Hz hw w env k=>⟨ρ,S,_,g,Hz,hw,w,env,λx H1 g1 S1 st w1 h=>by
  obtain ⟨r,e,q⟩:=vI h;rw [e];show (if r=true then _ else _)
  cases r with
  | true=>exact iteT (zaT st w1 env k q)
  | false=>exact iteF (zaT st w1 env k q)⟩
theorem zj (h:notStar x=true) (xs:List Expr) (env:Env):ϰ (x::xs) env=(false,eval x env)::ϰ xs env:=by cases x <;> first | rfl | cases h
theorem zdd:PA X [] (TXs Γ cf []):=xH.imp λσ H Q h0=>goS h0 λρ S W g Hz hw w env k=>k [] [] H g S (Step.refl H g) w rfl hw
theorem args_cons {es:List E}{σ:L2.St}{H:Hp}{Q:List V->Hp->Prop}(h:TXs Γ cf (a::es) σ H Q):TX Γ cf a σ H λv H1=>TXs Γ cf es σ H1 λvs H2=>Q (v::vs) H2:=by obtain ⟨ρ,S,W,g,Hz,hw,w,env,k⟩:=h;refine ⟨ρ,S,_,g,Hz,hw,w,env,λx v H1 g1 S1 st w1 vx h=>?_⟩;obtain ⟨g2,st2,w2,hx,q⟩:=vx.keep st w1 h;exact ⟨ρ,S1,_,g2,Hz,q,w2,zu env st2,λds vs H3 g3 S3 st3 w3 hs h3=>k (x.1::ds) _ H3 g3 S3 (st2.trans st3) w3 ⟨v,vs,rfl,hx.mono st3.le,hs⟩ h3⟩
theorem JZ {xs:List Expr}{es:List E}(hs:notStar x=true) (h1:PE X x (TX Γ cf a)) (h2:PA X xs (TXs Γ cf es)):PA X (x::xs) (TXs Γ cf (a::es)):=
 (yl h1 h2 (zj hs _ _)).imp λσ H Q h=>args_cons h
theorem wz {r:Bool}{T:Prop}(h:tst r T False):r=true/\T:=by
 cases r with
 | true=>exact ⟨rfl,h⟩
 | false=>exact h.elim
theorem zQ {α:Type}{o:Option α}{Q:α->Prop}(h:opt o Q):∃ a,o=some a/\Q a:=by
 cases o with
 | some a=>exact ⟨a,rfl,h⟩
 | none=>exact h.elim
theorem zir {xs:List Expr}{es:List E}{kk:Nat}(h:PA X xs (TXs Γ cf es)):PE X (.Tuple xs kk pos) (TX Γ cf (.tup es)):=
 (zgn h).imp λσ H Q h0=>goX h0 λρ S V g Hz hw w env k=>⟨ρ,S,_,g,Hz,hw,w,env,λds vs H1 g1 S1 st w1 hv h=>by
  obtain ⟨hf,q⟩:=wz h
  exact ⟨by rw [hv.len];exact xJ hf,λp hp=>Zt (Q:=Q) w1 (λv H2 g2 st2 _ w2 vo=>k (.tup ds,.st) v H2 g2 S1 (st.trans st2) w2 vo q) hv hp⟩⟩
theorem ziI {xs:List Expr}{es:List E}(h:PA X xs (TXs Γ cf es)):PE X (.List xs pos) (TX Γ cf (.lst es)):=
 (zcp h).imp λσ H Q h0=>goX h0 λρ S V g Hz hw w env k=>⟨ρ,S,_,g,Hz,hw,w,env,λds vs H1 g1 S1 st w1 hv h=>by
  obtain ⟨hf,q⟩:=wz h
  exact ⟨by rw [hv.len];exact xJ hf,λp hp=>v6 (Q:=Q) w1 (λv H2 g2 st2 _ w2 vo=>k (.lst ds,.fr) v H2 g2 S1 (st.trans st2) w2 ((VN.of (fr:=true) vo).back st) q) hv hp⟩⟩
theorem zit (hK:X.K=Γ.K) (hu:X.A.units+1 < ϸ) (ha:PE X x (TX Γ cf a)) (hb:PE X y (TX Γ cf b)) (hp:W2 y):PE X (.Subscript x y pos) (TX Γ cf (.sub a b)):=
 (zjc zg9 ha hb hp).imp λσ H Q h0=>goX h0 λρ S V g Hz hw w env k=>two (G1:=λu v H'=>zha X u v H' Q) hw w env λx y u v H' g' S' st w' vx vy h=>by
  obtain ⟨d,eo,q⟩:=zQ h;obtain ⟨r,h1,h2⟩:=zg7 (X:=X) hK hu eo;have e:zE S' y.1=y.1:=by
   cases hy:y.1 with
   | ref n=>
    rw [hy] at eo;generalize zE S' x.1=a0 at eo;cases a0 <;> cases eo
   | _=>rfl
  have vb:=vy.rdb w';rw [e] at vb;exact ⟨r,h1,h2 S' H' g' u v Q w' (vx.rdb w') vb λt H2 g2 st2 _ w2 vo=>k (d,.st) t H2 g2 S' (st.trans st2) w2 vo q⟩
theorem ziD:PO X none (TXo Γ cf none):=λpJ s σ H Q I h0=>goO h0 λρ S W g Hz hw w env k=>zdB pJ s σ H Q I (k none H g S (Step.refl H g) w hw)
theorem s_po (h:PE X x (TX Γ cf a)):PO X (some x) (TXo Γ cf (some a)):=λpJ s σ H Q I h0=>goO h0 λρ S W g Hz hw w env k=>zdA h pJ s σ H Q I ⟨ρ,S,_,g,Hz,hw,w,env,λx v H1 g1 S1 st w1 vx h=>by
 obtain ⟨i,e,q⟩:=vx.int h
 exact ⟨i,e,k (some i) H1 g1 S1 st w1 q⟩⟩
theorem ziy {lo hi:Option Expr}{l u:Option E}{p2:Pos}(hK:X.K=Γ.K) (h:PE X x (TX Γ cf a)) (hl:PO X lo (TXo Γ cf l)) (hh:PO X hi (TXo Γ cf u)):PE X (.Subscript x (.Slice lo hi none p2) pos) (TX Γ cf (.slc a l u)):=
 (zbg zfE h hl hh).imp λσ H Q h0=>goX h0 λρ S V g Hz hw w env k=>⟨ρ,S,_,g,Hz,hw,w,env,λx v H1 g1 S1 st1 w1 vx h1=>⟨ρ,S1,_,g1,Hz,h1,w1,zu env st1,λi H2 g2 S2 st2 w2 h2=>⟨ρ,S2,_,g2,Hz,h2,w2,zu env (st1.trans st2),λj H3 g3 S3 st3 w3 h3=>by
  obtain ⟨⟨d,fr⟩,eo,q⟩:=zQ h3;obtain ⟨r,r1,r2⟩:=zfD (X:=X) (Γ:=Γ) hK eo;have st:=(st1.trans st2).trans st3
  exact ⟨r,r1,r2 S3 H3 g3 v Q w3 ((vx.step (st2.trans st3)).rdb w3) λt H4 g4 st4 _ w4 vo=>k _ t H4 g4 S3 (st.trans st4) w4 ((VN.of vo).back st) q⟩⟩⟩⟩
end
end EV
namespace L2
open PySem PySem.Spec PyProof.Rows
noncomputable def cxG (X:Cx) (sc:aM) (ce:Addr->List (Str×Addr)) (b:Bool) (xs:List Str) (js:List Nat) (C:Addr) (s3:μ) (H3:Hp) (fp:List Addr):Cx:=
 { X with N:=xs++js.map (λj=>X.N.getD j ""),sy:=s3,Hz:=H3,env:=compEnvC sc (ce C) C X.env,outer:=X.stack,stack:=X.stack,ex:=fp,fn:=λ_=>b,pn:=[],xe:=λ_ _=>False }
structure W3 (X:Cx) (sc:aM) (cl:List (Str×Addr)) (ce:Addr->List (Str×Addr)) (b:Bool) (xs:List Str) (js:List Nat):Prop where
 clos:mJ sc X.env=pure cl
 kind:sc.kind=.function
 names:∀ y∈sc.names,y.2=.local->sc.names.lookup y.1=some .local
 cne:∀ C y c,(ce C).lookup y=some c->X.env.cells.lookup y=some c\/C < c
 start:∀ {pJ:List (Addr×Obj)}{σ:St}{H3:Hp}{s3:μ}{fp:List Addr}{Q:Env->μ->Prop},Inv X pJ σ H3 s3->(∀ b∈fp,FpOk X pJ H3 b/\b < s3.heap.objs.size) ->
  (∀ s4,(∀ b u,s3.heap.get? b=some u->s4.heap.get? b=some u)->Inv (cxG X sc ce b xs js s3.heap.objs.size s3 H3 fp) [] (Α xs.length none++rows σ js) H3 s4->Q (newEnv sc s3.heap.objs.size X.env.globals (ce s3.heap.objs.size) X.env.qual none .none (some X.env) gC) s4) ->
  Λ (Ν X.prog X.w) X.A (oX sc X.env.globals cl [] X.env.qual none .none (some X.env)) Q X.xe s3
structure zca (X:Cx) (sc:aM) (cl:List (Str×Addr)) (js:List Nat):Prop where
 clos:mJ sc X.env=pure cl
 cell:∀ y∈sc.names,y.2≠.cell
 kind:sc.kind=.function
 names:∀ y∈sc.names,y.2=.local->sc.names.lookup y.1=some .local
 sub:∀ y c,cl.lookup y=some c->X.env.cells.lookup y=some c
 has:∀ y,((gQ sc X.env).names.lookup y=some .cell\/(gQ sc X.env).names.lookup y=some .free)->∃ c,cl.lookup y=some c
 free:∀ j∈js,∀ y,X.N[j]?=some y->Vis X.env.scope y/\X.env.kindOf y≠some .local/\(∃ c,cl.lookup y=some c)/\((gQ sc X.env).names.lookup y=some .cell\/(gQ sc X.env).names.lookup y=some .free)
 inN:∀ j∈js,j < X.N.length
theorem ZJ {x:Str}{c:Addr}:∀ (names:List (Str×Ϣ)) (n:Nat) (acc:List (Str×Addr)),(eF (n+1) names acc).lookup x=some c->n < c\/acc.lookup x=some c
 | [],n,acc,h=>.inr h
 | (y,kd)::r,n,acc,h=>by
  unfold eF at h;split at h
  ·rcases ZJ r (n+1) _ h with z | z
   ·exact .inl (by omega)
   ·rw [Ϡ] at z;split at z
    ·cases z;exact .inl (fj _)
    ·exact .inr z
  ·exact ZJ r _ _ h
section
variable {X:Cx}{pJ:List (Addr×Obj)}{σ:St}{H3:Hp}{s3:μ}{sc:aM}{cl:List (Str×Addr)}{xs:List Str}{js:List Nat}{fp:List Addr}{h1:Heap}{o:Obj}{tk:Nat}
theorem QL (I:Inv X pJ σ H3 s3) (K:zca X sc cl js) (hns:h1.Ns s3.heap.objs.size λ_=>none) (hsb:ϩ s3.heap.objs.size (s3.heap.push o) h1)
  (hfp:∀ b∈fp,FpOk X pJ H3 b/\b < s3.heap.objs.size):
  Inv (cxG X sc (λ_=>cl) false xs js s3.heap.objs.size s3 H3 fp) [] (Α xs.length none++rows σ js) H3 { s3 with heap:=h1,toks:=tk }:=by
 have kept:∀ b u,s3.heap.get? b=some u->h1.get? b=some u:=λb u e=>(hsb.2 b (Φ (Δ e))).trans (η _ e)
 refine ⟨⟨I.ok.mod,K.kind,I.ok.glob,I.ok.blt,Β _,λy z c e1 e2=>I.ok.inj y z c (K.sub _ _ e1) (K.sub _ _ e2),λy hy=>K.has y hy,λy c hf=>absurd (show false=true from hf) Μ,I.ok.hd,I.ok.frames,.inl rfl,
  λb hb=>⟨Φ (hfp b hb).2,λy c e=>(hfp b hb).1.2.2.2.2.1 y c (K.sub _ _ e)⟩,I.bs,Ϧ I.ok.bsz I.sz,λb o' e hb=>?_,λb hb z=>?_,I.stack,I.vU⟩,
  rfl,I.bare,Un.kept kept,⟨_,hns,λi y v e1 e2 e3=>?_⟩,λy c e=>?_,I.hok.fresh (Β _),λy c e=>(I.freeC y c (K.sub _ _ e)).imp id λz=>⟨rfl,z.2⟩,λp hp=>absurd (show p∈([]:List (Addr×Obj)) from hp) (by simp),I.hok.kept kept,?_⟩
 ·rcases (hfp b hb).1.2.2.2.1 with z | z
  ·exact I.ok.noex b o' e z
  ·exact absurd (Ω (Δ e) (Ϧ I.ok.bsz z)) (cA _)
 ·rcases Ε.mp (I.Z6 b z) with q | q
  ·exact (hfp b hb).1.2.1 q
  ·exact (hfp b hb).1.2.2.1 q
 ·by_cases hi:i < xs.length
  ·rw [ϖ (by simpa using hi),bF,if_pos hi] at e2;cases e2
  ·have hi':xs.length<=i:=by lia
   have e1':(js.map λj=>X.N.getD j "")[i - xs.length]?=some y:=by have q:(xs++js.map λj=>X.N.getD j "")[i]?=some y:=e1;rw [Ϙ hi'] at q;exact q
   have e2':(rows σ js)[i - xs.length]?=some (some v):=by rw [Ϙ (by simpa using hi')] at e2;simpa using e2
   generalize i - xs.length=i at e1' e2';rw [Ρ] at e1';unfold rows at e2';rw [Ρ] at e2';cases ej:js[i]? with
   | none=>rw [ej] at e1';cases e1'
   | some j=>
    rw [ej] at e1' e2';simp only [gO,ϫ.injEq] at e1' e2';have hj:=ϑ ej;have hlt:=K.inN j hj;have eN:X.N[j]?=some y:=by rw [<- e1',aW,π hlt];rfl
    have eS:σ[j]?=some (some v):=by
     rw [aW] at e2';cases q:σ[j]? with
     | none=>rw [q] at e2';cases e2'
     | some z=>rw [q] at e2';simpa using e2'
    obtain ⟨hv,hnl,⟨c,hc⟩,hk⟩:=K.free j hj y eN;obtain ⟨m,_,hl⟩:=I.loc;obtain ⟨u,r,l⟩:=hl j y v eN eS hv;refine ⟨u,r,?_⟩;rcases l with ⟨k,_⟩ | ⟨k,c',e',z⟩
    ·exact absurd k hnl
    ·have:c'=c:=ϕ (e'.symm.trans (K.sub _ _ hc));subst this;obtain ⟨oc,hoc,hd⟩:=z;exact .inr ⟨hk,c',hc,oc,kept _ _ hoc,hd⟩
 ·obtain ⟨v,oc,hoc,hd⟩:=I.cell y c (K.sub _ _ e);exact ⟨v,oc,kept _ _ hoc,hd⟩
 ·simp [rows,cxG]
theorem zca.g (K:zca X sc cl js):W3 X sc cl (λ_=>cl) false xs js:=⟨K.clos,K.kind,K.names,λ_ y c e=>.inl (K.sub y c e),λI hfp q=>wpAny_newFunctionEnv K.cell (by intro y hy;simp at hy) (λh₁ hns₁ hsb₁=>q _ (λb u e=>(hsb₁.2 b (Φ (Δ e))).trans (η _ e)) (QL I K hns₁ hsb₁ hfp)) K.kind⟩
theorem K7 {M:Model}{A:ϙ}{E:VSP}{s:μ}{env:Env}{globals:Addr}{qual:Str}{Q:Env->μ->Prop}
  (hQ:∀ s',InCallC s s.heap.objs.size (λ_=>none) (eF (s.heap.objs.size+1) sc.names []) (λ_=>none) s'->Q (newEnv sc s.heap.objs.size globals (eF (s.heap.objs.size+1) sc.names []) qual none .none (some env) gC) s'):
  Λ M A (oX sc globals [] [] qual none .none (some env)) Q E s:=by
 obtain ⟨dd,hdd⟩:∃ o:Obj,o={ cls:=.type "dict",data:=.dict #[] }:=⟨_,rfl⟩
 have top:(s.heap.push dd).objs.size=s.heap.objs.size+1:=bO ..;have own:=cellsFrom_ok sc.names (s.heap.push dd) (s.heap.objs.size+1) [] ⟨λ_ _ z=>(nomatch z),.nil⟩ (ie top.symm);have kp:=λb o (e:s.heap.get? b=some o)=>pushCells_keeps sc.names (s.heap.push dd) b o (η dd e)
 have nsd:=(Heap.Ns.new s.heap (.type "dict")).keeps (hdd ▸ pushCells_keeps sc.names (s.heap.push dd));rw [top] at own;unfold oX;refine ζ (wpAny_alloc (ζ ?_));refine wpAny_layCells _ (λx k l=>by cases q:k==Ϣ.cell <;> simp [q]) _ _ _ _ ?_;subst hdd;refine ζ (θ (θ ?_));have fin:=hQ { s with heap:=pushCells (s.heap.push { cls:=.type "dict",data:=.dict #[] }) sc.names } ⟨⟨⟨_,s.toks,rfl⟩,nsd,kp,Β _⟩,λx c e=>(own.empty x c (mem_of_lookup e)).1,own.apart,λx c e=>(own.empty x c e).2⟩;rw [<- top] at fin;exact fin
theorem zbN (hk:sc.kind=.function) (hn:∀ y∈sc.names,y.2=.local->sc.names.lookup y.1=some .local) (hf:∀ y∈sc.names,y.2≠.free) (hh:∀ y,((gQ sc X.env).names.lookup y=some .cell\/(gQ sc X.env).names.lookup y=some .free)->sc.names.lookup y=some .cell):
  W3 X sc [] (λC=>eF (C+1) sc.names []) true xs []:=by
 refine ⟨closureFor_none hf,hk,hn,λC y c e=>?_,λ{pJ σ H3 s3 fp Q} I hfp q=>K7 λs4 x=>?_⟩
 ·rcases ZJ _ _ _ e with z | z
  ·exact .inr z
  ·cases z
 obtain ⟨h1,tk,rfl,kept⟩:=x.done;refine q _ kept ?_
 refine ⟨⟨I.ok.mod,hk,I.ok.glob,I.ok.blt,Β _,λy z c e1 e2=>name_of_addr x.apart (ϐ e1) (ϐ e2),λy hy=>vL (hh y hy),λy c _ e=>cg (x.above y c (ϐ e)),I.ok.hd,I.ok.frames,.inl rfl,
  λb hb=>⟨Φ (hfp b hb).2,λy c e=>cN (o4 (hfp b hb).2 (x.above y c (ϐ e)))⟩,I.bs,Ϧ I.ok.bsz I.sz,λb o' e hb=>?_,λb hb z=>?_,I.stack,I.vU⟩,
  rfl,I.bare,Un.kept kept,⟨_,x.toInCall.ns,λi y v e1 e2 e3=>?_⟩,λy c e=>⟨_,x.cell y c e⟩,I.hok.fresh (Β _),λy c e=>.inl (I.hok.fresh (cg (x.above y c (ϐ e)))),λp hp=>absurd (show p∈([]:List (Addr×Obj)) from hp) (by simp),I.hok.kept kept,?_⟩
 ·rcases (hfp b hb).1.2.2.2.1 with z | z
  ·exact I.ok.noex b o' e z
  ·exact absurd (Ω (Δ e) (Ϧ I.ok.bsz z)) (cA _)
 ·rcases Ε.mp (I.Z6 b z) with q | q
  ·exact (hfp b hb).1.2.1 q
  ·exact (hfp b hb).1.2.2.1 q
 ·have e2:(Α xs.length (none:Option V))[i]?=some (some v):=by simpa [rows] using e2
  rw [bF] at e2;split at e2 <;> cases e2
 ·simp [rows,cxG]
variable {ce:Addr->List (Str×Addr)}{ob:Bool}
def PTs (X:Cx) (ifs:List Expr) (t:TT):Prop:=
 ∀ (pJ:List (Addr×Obj)) (s:μ) (σ:St) (H:Hp) (Q:Bool->Hp->Prop),Inv X pJ σ H s->t σ H Q ->
  Λ (Ν X.prog X.w) X.A (forIn ifs true λc r=>if r=true then do let ok <- lC c X.env (eval c X.env);pure (aF ok) else pure (aF r)) (TP X pJ σ Q) X.xe s
theorem zdv:PTs X [] (λ_ H Q=>Q true H):=λ_ _ _ H _ I h=>wpAny_tests_nil ⟨H,I,h⟩
theorem zdu {c:Expr}{t:TT}(h:PT X c t):PTs X [c] t:=λpJ s σ H Q I q=>wpAny_tests_one (h pJ s σ H Q I q)
def j9 (n:Nat) (js:List Nat) (wi:TI) (tg:TG) (tt:TT) (te:TE) (Qe:Addr->Hp->Prop):St->Hp->Prop:=λσ H=>wi σ H λJ H1=>∀ D,H1 D=none ->
 ∃ W:Nat->Nat->List V->St->Hp->Prop,(∃ m,W 0 m [] (Α n none++rows σ js) (upd H1 D (.lst [])))/\∀ i m ys τ H2,W i m ys τ H2 ->
  (J.stop i H2/\Qe D H2)\/(J.go i H2/\∀ z H3,J.yld i H2 z H3->tg z τ H3 λτ3 H3=>tt τ3 H3 λb H4=>
   if b=true then te τ3 H4 λv H5=>H5 D=some (.lst ys)/\ys.length < sizeLine/\∃ m',m' < m/\W (i+1) m' (ys++[v]) τ3 (upd H5 D (.lst (ys++[v])))
   else ∃ m',m' < m/\W (i+1) m' ys τ3 H4)
theorem Y9 {elt iter tgt:Expr}{ifs:List Expr}{pos pos':Pos}{wi:TI}{tg:TG}{tt:TT}{te:TE}{Qe:Addr->Hp->Prop}{use:Option (δ->Sem Unit)}{Q':VSP}{H:Hp}{s:μ}(hc:X.calm=true) (K:W3 X sc cl ce ob xs js) (hi:PI X tgt iter wi)
  (hg:∀ C s3 H3 fp,PG (cxG X sc ce ob xs js C s3 H3 fp) tgt tg) (ht:∀ C s3 H3 fp,PTs (cxG X sc ce ob xs js C s3 H3 fp) ifs tt) (he:∀ C s3 H3 fp,PE (cxG X sc ce ob xs js C s3 H3 fp) elt te) (hs:∀ v,cC iter X.env v=pure v)
  (I:Inv X pJ σ H s) (h:j9 xs.length js wi tg tt te Qe σ H)
  (fin:∀ (D C:Addr) (s6:μ) (H5:Hp) (m:Str->Option δ),s6.heap.Ns C m->FpOk X pJ H5 C->(∀ h',ϩ C s6.heap h'->Inv X pJ σ H5 { s6 with heap:=h' })->Qe D H5->compPost (Ν X.prog X.w) X.A X.xe use Q' (.ref D) C (.ok .next) s6):
  Λ (Ν X.prog X.w) X.A (comprehension (.ListComp elt [⟨tgt,iter,ifs,0⟩] sc pos) sc X.env pos' (newList []) false (eval iter X.env) use) Q' X.xe s:=by
 refine wpAny_comprehension_free (use:=use) rfl hs K.clos K.kind K.names ?_;refine thn (hi pJ s σ H _ I h) λv s1 h1=>thn h1 λitv s2 h2=>?_
 obtain ⟨it,fp,tn,J,H2,e,I2,T,st2,f2,h⟩:=h2;subst e;have hD:H2 s2.heap.objs.size=none:=I2.fresh;obtain ⟨W,⟨m0,w0⟩,turn⟩:=h _ hD;have I3:Inv X pJ σ (upd H2 s2.heap.objs.size (.lst [])) { s2 with heap:=s2.heap.push { cls:=.type "list",data:=.seq ([]:List δ).toArray },toks:=s2.toks }:=I2.lnew (its:=[]) .nil (ϴ _);have fpLt:∀ b∈fp,b < s2.heap.objs.size:=λb hb=>let ⟨o,e,_⟩:=T.obj _ _ st2 b hb;Δ e
 refine Ϯ ?_;generalize hs3:({ s2 with heap:=s2.heap.push { cls:=.type "list",data:=.seq ([]:List δ).toArray },toks:=s2.toks }:μ)=s3 at I3;have hs3':({ s2 with heap:=s2.heap.push { cls:=.type "list",data:=.seq ([]:List δ).toArray } }:μ)=s3:=hs3
 try rw [hs3']
 have hsz:s3.heap.objs.size=s2.heap.objs.size+1:=by rw [<- hs3,bO]
 generalize hH3:upd H2 s2.heap.objs.size (.lst [])=H3 at I3 w0;have fp3:∀ b∈fp,FpOk X pJ H3 b/\b < s3.heap.objs.size:=λb hb=>by refine ⟨⟨?_,(f2 b hb).2⟩,by rw [hsz];exact eE (fpLt b hb)⟩;rw [<- hH3,zc (Φ (fpLt b hb))];exact (f2 b hb).1
 refine K.start I3 fp3 λs4 kept I4=>?_
 have st4:tn 0 s4.heap:=T.keep _ _ _ st2 λb hb o e=>kept _ _ (by rw [<- hs3];exact η _ e)
 have stat:∀ {H':Hp}{pl:List (Addr×Obj)},(∀ b∈fp,H' b=none)->(∀ p∈pl,p.1 ∉ fp)->∀ b∈fp,FpOk (cxG X sc ce ob xs js s3.heap.objs.size s3 H3 fp) pl H' b:=λ{H'} {pl} hn hp b hb=>
  ⟨hn b hb,Φ (fp3 b hb).2,λz=>by
   rcases Ε.mp (I3.Z6 b z) with q | q
   ·exact (f2 b hb).2.1 q
   ·exact (f2 b hb).2.2.1 q,.inl hb,λy c e=>(K.cne _ y c e).elim ((f2 b hb).2.2.2.2.1 y c) λz=>cN (o4 (fp3 b hb).2 z),λp hp' z=>by
    have hp'':p∈pl:=by simpa [cxG] using hp'
    exact hp p hp'' (z ▸ hb)⟩
 have loop:
   gf (Ν X.prog X.w) X.A (.compLoop (.ListComp elt [⟨tgt,iter,ifs,0⟩] sc pos) 0 (.ref it) (.ref s2.heap.objs.size) (compEnvC sc (ce s3.heap.objs.size) s3.heap.objs.size X.env))
    (compPost (Ν X.prog X.w) X.A X.xe use Q' (.ref s2.heap.objs.size) s3.heap.objs.size) s4:=by
  refine codeAny_loop rfl (λn s'=>∃ i ys τ H',Inv (cxG X sc ce ob xs js s3.heap.objs.size s3 H3 fp) [] τ H' s'/\tn i s'.heap/\(∀ b∈fp,H' b=none)/\W i n ys τ H') ?_ m0 ⟨0,[],_,H3,I4,st4,λb hb=>(fp3 b hb).1.1,w0⟩;rintro n s5 ⟨i,ys,τ,H5,I5,st5,fr5,w5⟩;show Λ _ X.A ((compTurn (.ListComp elt [⟨tgt,iter,ifs,0⟩] sc pos) 0 (.ref it) (.ref s2.heap.objs.size) (compEnvC sc (ce s3.heap.objs.size) s3.heap.objs.size X.env)).onRaise (λx=>do iy x (compEnvC sc (ce s3.heap.objs.size) s3.heap.objs.size X.env);theTreesLotGoes x)) _ _ s5
  refine wpAny_noted ?_;rw [compTurn_list];refine ζ (lZ (ζ ?_));rcases turn i n ys τ H5 w5 with ⟨stop,q⟩ | ⟨go,step⟩
  ·refine thn (T.done (cxG X sc ce ob xs js s3.heap.objs.size s3 H3 fp) rfl rfl rfl hc i [] s5 τ H5 _ I5 (stat fr5 (λp hp=>absurd hp (by simp))) st5 stop) λr s6 ⟨hr,I6⟩=>?_
   subst hr;refine θ ?_;obtain ⟨m,hn,_⟩:=I6.loc;refine fin _ _ s6 H5 m hn (I3.fpOk (Β _) I6.free) (λh' sb=>?_) q;have u:=(show Un (frs X.stack) fp H3 H5 s3.heap s6.heap from I6.base).sameBut sb (Β _);exact I3.call' (s':={ s6 with heap:=h' }) (ch:=fp) I6.os u (I6.hok.sameBut sb I6.free) I6.bare λb hb=>⟨(f2 b hb).2.2.2.1,(f2 b hb).2.1,(f2 b hb).2.2.2.2.1,(f2 b hb).2.2.2.2.2⟩
  ·refine thn (T.item (cxG X sc ce ob xs js s3.heap.objs.size s3 H3 fp) rfl rfl rfl hc i [] s5 τ H5 _ I5 (stat fr5 (λp hp=>absurd hp (by simp))) st5 go) λr s6 ⟨u,hr,h6⟩=>?_
   subst hr;refine ζ (thn h6 λ_ s7 ⟨z,H7,I7,r7,y7,st7,fr7⟩=>?_);have I7':=I7.pinned (stat fr7 (λp hp=>absurd hp (by simp))) (T.obj _ _ st7);have done:∀ {σ':St}{H':Hp}{s':μ}{ys':List V}{m':Nat},Inv (cxG X sc ce ob xs js s3.heap.objs.size s3 H3 fp) ([]++Yr fp s7.heap) σ' H' s'->m' < n->W (i+1) m' ys' σ' H'->∃ m,m < n/\∃ i ys τ H',Inv (cxG X sc ce ob xs js s3.heap.objs.size s3 H3 fp) [] τ H' s'/\tn i s'.heap/\(∀ b∈fp,H' b=none)/\W i m ys τ H':=λ{σ' H' s' ys' m'} I' hm w'=>
    ⟨m',hm,i+1,ys',σ',H',I'.wY,T.keep _ _ _ st7 λb hb o e=>(I'.pin (b,o) (ϝ _ (ϝ _ (xZ hb e)))).1,λb hb=>by
     obtain ⟨o,e,d⟩:=T.obj _ _ st7 b hb
     exact (I'.pin (b,o) (ϝ _ (ϝ _ (xZ hb e)))).2.1,w'⟩
   refine ζ (bc (hg _ _ _ _ _ s7 τ H7 z u _ I7' r7 (step z H7 y7)) (λ_ s8 ⟨σ8,H8,I8,q8⟩=>?_) λ_ _ z=>ϟ z);refine ζ (bc (ht _ _ _ _ _ s8 σ8 H8 _ I8 q8) (λok s9 ⟨H9,I9,q9⟩=>?_) λ_ _ z=>ϟ z);cases ok with
   | false=>
    rw [if_neg Μ] at q9;obtain ⟨m',hm,w9⟩:=q9;exact θ ⟨rfl,done I9 hm w9⟩
   | true=>
    rw [if_pos rfl] at q9;refine ζ (ζ (bc (he _ _ _ _ _ s9 _ _ _ I9 q9) (λv9 s10 ⟨x9,H10,I10,r9,q10⟩=>?_) λ_ _ z=>ϟ z));obtain ⟨hD9,hlen,m',hm,w10⟩:=q10;have ap:=YC (X:=cxG X sc ce ob xs js s3.heap.objs.size s3 H3 fp) _ s10 _ H10 (.ref s2.heap.objs.size) [x9] (.ref s2.heap.objs.size) [v9] (λ_ H'=>H'=upd H10 s2.heap.objs.size (.lst (ys++[x9]))) I10 rfl (.cons r9 .nil) ⟨_,ys,x9,rfl,rfl,hD9,hlen,rfl⟩;refine ζ (bc ap (λ_ s11 ⟨_,H11,I11,_,e11⟩=>?_) λ_ _ z=>ϟ z);subst e11;exact θ (θ ⟨rfl,done I11 hm w10⟩)
 exact codeAny_compStart_list loop (T.self _ 0 _ _ _ st4 loop)
theorem zbk {elt iter tgt:Expr}{ifs:List Expr}{pos:Pos}{wi:TI}{tg:TG}{tt:TT}{te:TE}(hc:X.calm=true) (K:W3 X sc cl ce ob xs js) (hi:PI X tgt iter wi)
  (hg:∀ C s3 H3 fp,PG (cxG X sc ce ob xs js C s3 H3 fp) tgt tg) (ht:∀ C s3 H3 fp,PTs (cxG X sc ce ob xs js C s3 H3 fp) ifs tt) (he:∀ C s3 H3 fp,PE (cxG X sc ce ob xs js C s3 H3 fp) elt te) (hs:∀ v,cC iter X.env v=pure v):
  PE X (.ListComp elt [⟨tgt,iter,ifs,0⟩] sc pos) (λσ H Q=>j9 xs.length js wi tg tt te (λD H'=>Q (.ref D) H') σ H):=by intro pJ s σ H Q I h;rw [eval_ListComp];exact Y9 (use:=none) (Q':=EP X pJ σ Q) hc K hi hg ht he hs I h λD C s6 H5 m hn fp inv q=>⟨m,hn,λh' sb=>⟨.ref D,H5,inv h' sb,rfl,q⟩⟩
theorem Ux {elt iter tgt:Expr}{ifs:List Expr}{pos spos npos:Pos}{wi:TI}{tg:TG}{tt:TT}{te:TE}{n:Str}{i:Nat}(hc:X.calm=true) (K:W3 X sc cl ce ob xs js) (hi:PI X tgt iter wi)
  (hg:∀ C s3 H3 fp,PG (cxG X sc ce ob xs js C s3 H3 fp) tgt tg) (ht:∀ C s3 H3 fp,PTs (cxG X sc ce ob xs js C s3 H3 fp) ifs tt) (he:∀ C s3 H3 fp,PE (cxG X sc ce ob xs js C s3 H3 fp) elt te) (hs:∀ v,cC iter X.env v=pure v)
  (hp:PG X (.Name n npos) (Zr i)) (hsw:iw (.ListComp elt [⟨tgt,iter,ifs,0⟩] sc pos) (some (.Name n npos)) spos.line X.env=pure true):
  PS X (.Assign [.Name n npos] (.ListComp elt [⟨tgt,iter,ifs,0⟩] sc pos) spos) (λD σ H=>j9 xs.length js wi tg tt te (λDa H'=>D.nx (σ.set i (some (.ref Da))) H') σ H):=by
 intro pJ s σ H D I h;rw [exec_Assign_Name_used _ _ _ _ hsw];refine ζ (lZ (ζ ?_));show Λ _ X.A (do let _ <- comprehension (.ListComp elt [⟨tgt,iter,ifs,0⟩] sc pos) sc X.env _ (newList []) false (eval iter X.env) (some (gF (.Name n npos) X.env))) _ _ s
 refine ζ (bc (Y9 (use:=some (gF (.Name n npos) X.env)) (Q':=λ_ s'=>SP X pJ D .next s') hc K hi hg ht he hs I h ?_) (λ_ s' q=>θ (θ q)) λ_ _ z=>z);intro Da C s6 H5 m hn fp inv q;obtain ⟨oC,es,ep,hoC,hdC,hrC⟩:=id hn;have I6:=inv s6.heap (nM C s6.heap);have I6':Inv X (pJ++[(C,oC)]) σ H5 { s6 with heap:=s6.heap }:=I6.X7 λp hp=>(ϋ.mp hp).elim (λz=>I6.pin p (ϝ _ z)) λz=>by rw [υ.mp z];exact ⟨hoC,fp.1,fp.2.1,fp.2.2.1,λv e=>by rw [hdC] at e;cases e⟩
 show Λ _ X.A (gF (.Name n npos) X.env (.ref Da)) _ _ s6
 refine thn (hp _ s6 σ H5 (.ref Da) (.ref Da) _ I6' rfl q) λ_ s7 ⟨σ7,H7,I7,q7⟩=>?_
 have hC7:=(I7.pin (C,oC) (ϝ _ (ϝ _ (υ.mpr rfl))))
 refine ⟨m,⟨oC,es,ep,hC7.1,hdC,hrC⟩,λh' sb=>⟨σ7,H7,?_,q7⟩⟩;have I8:Inv X pJ σ7 H7 s7:=I7.wY;exact I8.turned (t':=s7.toks) (λb o hb e=>(sb.2 b hb).trans e) hC7.2.1 fp.2.1 fp.2.2.2.1 fp.2.2.2.2.1 λp hp=>fp.2.2.2.2.2 p hp
def CSet (X:Cx) (x:Expr) (t:TE):Prop:=∀ (n:Str) (npos spos:Pos) (i:Nat),PG X (.Name n npos) (Zr i)->iw x (some (.Name n npos)) spos.line X.env=pure true ->
 PS X (.Assign [.Name n npos] x spos) (λD σ H=>t σ H λv H'=>D.nx (σ.set i (some v)) H')
theorem zb0 {X:Cx}{x:Expr}{t t':TE}(h:PE X x t/\CSet X x t) (i:∀ σ H Q,t' σ H Q->t σ H Q):PE X x t'/\CSet X x t':=
 ⟨h.1.imp i,λn np sp j hp hs=>(h.2 n np sp j hp hs).imp λD σ H q=>i σ H _ q⟩
theorem zah {elt iter tgt:Expr}{ifs:List Expr}{pos:Pos}{wi:TI}{tg:TG}{tt:TT}{te:TE}(hc:X.calm=true) (K:W3 X sc cl ce ob xs js) (hi:PI X tgt iter wi)
  (hg:∀ C s3 H3 fp,PG (cxG X sc ce ob xs js C s3 H3 fp) tgt tg) (ht:∀ C s3 H3 fp,PTs (cxG X sc ce ob xs js C s3 H3 fp) ifs tt) (he:∀ C s3 H3 fp,PE (cxG X sc ce ob xs js C s3 H3 fp) elt te) (hs:∀ v,cC iter X.env v=pure v):
  PE X (.ListComp elt [⟨tgt,iter,ifs,0⟩] sc pos) (λσ H Q=>j9 xs.length js wi tg tt te (λD H'=>Q (.ref D) H') σ H)/\CSet X (.ListComp elt [⟨tgt,iter,ifs,0⟩] sc pos) (λσ H Q=>j9 xs.length js wi tg tt te (λD H'=>Q (.ref D) H') σ H):=
 ⟨zbk hc K hi hg ht he hs,λn np sp i hp hsw=>Ux hc K hi hg ht he hs hp hsw⟩
end
structure Fly (h:Heap) (e T C:Addr):Prop where
 oe:∃ o vs,h.get? e=some o/\(o.cls=.ref C/\o.dict=none)/\o.data=.fields vs/\vs[1]?=some (.ref T)
 ne:T≠e
 ot:∃ o ts,h.get? T=some o/\o.data=.fields ts/\ts[3]?=some .none
structure Chg (fs ex:List Addr) (h h':Heap):Prop where
 keep:∀ b o,h.get? b=some o->b ∉ fs->b ∉ ex->h'.get? b=some o
 slot:∀ b o,h.get? b=some o->b ∉ ex->∃ sl,h'.get? b=some { o with slots:=sl }
 size:h.objs.size<=h'.objs.size
theorem Chg.mono {fs ex ex':List Addr}{h h':Heap}(c:Chg fs ex h h') (q:∀ b,b∈ex->b∈ex'):Chg fs ex' h h':=
 ⟨λb o e n x=>c.keep b o e n λz=>x (q b z),λb o e x=>c.slot b o e λz=>x (q b z),c.size⟩
theorem Chg.trans {fs ex:List Addr}{h h1 h2:Heap}(a:Chg fs ex h h1) (b:Chg fs ex h1 h2):Chg fs ex h h2:=
 ⟨λc o e n x=>b.keep c o (a.keep c o e n x) n x,λc o e x=>by
  obtain ⟨sl,e1⟩:=a.slot c o e x;obtain ⟨sl',e2⟩:=b.slot c _ e1 x
  exact ⟨sl',e2⟩,Ϧ a.size b.size⟩
theorem Chg.upd {fs:List Addr}{h:Heap}{a:Addr}(f:Obj->Obj):Chg fs [a] h (h.update a f):=
  ⟨λb o e _ x=>by rw [aX _ _ (λz=>x (by rw [z];exact ξ))];exact e,
   λb o e x=>⟨o.slots,by rw [aX _ _ (λz=>x (by rw [z];exact ξ))];exact e⟩,ie (Heap.size_after_update ..).symm⟩
theorem Chg.psh {fs ex:List Addr}{h:Heap}(o:Obj):Chg fs ex h (h.push o):=
 ⟨λb u e _ _=>η _ e,λb u e _=>⟨u.slots,η _ e⟩,by rw [bO];exact iM _⟩
section
variable {M:Model}{A:ϙ}{E:VSP}{s:μ}{base:Heap}{env:Env}{outer:List Env}{L e T C:Addr}{Q:Unit->μ->Prop}
theorem V9 {oe:Obj}{vs:Array δ}{head:δ}{had:Bool}(hfr:A.frames=some (env::outer)) (hl:s.heap.FunFrames base (env::outer)) (hf:env.frame=some L) (he:s.heap.get? e=some oe) (hc:oe.cls=.ref C/\oe.dict=none) (hd:oe.data=.fields vs) (hz:1 < vs.size)
  (h:∀ h' T,Chg (frs (env::outer)) [e] s.heap h'->s.heap.get? T=none->Fly h' e T C->Q () { s with heap:=h' }):
  Λ M A (do let a <- frameOf env;let pl <- entryPlaceOf L had;let b <- nO head a .none (aK L) .none pl;setField (.ref e) 1 b) (λ_ s'=>Λ M A (lL (.ref e) none) Q E s') E s:=by
 have nf:e ∉ frs (env::outer):=λhm=>by obtain ⟨_,o,ho,q⟩:=hl.mem hm;rw [he] at ho;cases ho;exact q vs hd
 refine ζ (wpAny_frameOf_fun hfr hl hf λh1 s1=>ζ (wpAny_entryPlaceOf λpl hp=>?_));unfold nO newFields;refine ζ (Ϯ ?_ (hp.sizeOk5 _ _ _ _ _));have e1:h1.get? e=some oe:=(s1.2.1 e nf).trans he;generalize hob:({ cls:=.type "traceback",dict:=none,data:=.fields ([head,.ref L,.none,aK L,.none]++(if pl.isEmpty then Α 6 Κ else pl)).toArray }:Obj)=ob;have e2:=η (h:=h1) ob e1;refine Ϸ e2 hd hz ?_;have ne:h1.objs.size≠e:=cN (Δ e1);have d3:=cM hd (·.setIfInBounds 1 (Ι h1.objs.size));have e3:=ϵ (aV (·.setIfInBounds 1 (Ι h1.objs.size))) e2 (eV d3);have t3:=(aX (h1.push ob) (aV (·.setIfInBounds 1 (Ι h1.objs.size))) (bT ne)).trans (Θ h1 (by rw [<- hob];rfl));unfold lL;refine ζ (au e3 d3 (x:=.ref h1.objs.size) (by simp [hz]) ?_);rw [if_pos (show (Ι h1.objs.size != Κ)=true from by simp)];have dt:ob.data=.fields ([head,.ref L,.none,aK L,.none]++(if pl.isEmpty then Α 6 Κ else pl)).toArray:=by rw [<- hob]
 refine Ϸ t3 dt (by simp only [ω,Ξ,ϱ,fD] <;> omega) (h _ h1.objs.size ?_ ?_ ?_)
 ·have c1:Chg (frs (env::outer)) [e,h1.objs.size] s.heap h1:=⟨λb o q n _=>(s1.2.1 b n).trans q,λb o q _=>s1.2.2 b o q,ie s1.1.symm⟩
  have c4:=((c1.trans (Chg.psh ob)).trans ((Chg.upd _).mono λb q=>by rw [υ.mp q];exact ξ)).trans ((Chg.upd (h:=(h1.push ob).update e (aV (·.setIfInBounds 1 (Ι h1.objs.size)))) (aV (·.setIfInBounds 3 ((none:Option Addr).elim Κ λf=>aK f)))).mono λb q=>by rw [υ.mp q];exact ι _ ξ);have nT:∀ b o,s.heap.get? b=some o->b≠h1.objs.size:=λb o q z=>by have:=Δ q;rw [z,s1.1] at this;exact cA _ this
  refine ⟨λb o q n x=>c4.keep b o q n λz=>?_,λb o q x=>c4.slot b o q λz=>?_,c4.size⟩
  ·rcases Ε.mp z with z | z
   ·exact x (by rw [z];exact ξ)
   ·exact nT b o q (υ.mp z)
  ·rcases Ε.mp z with z | z
   ·exact x (by rw [z];exact ξ)
   ·exact nT b o q (υ.mp z)
 ·exact iG (ie s1.1.symm)
 ·refine ⟨⟨_,_,(aX _ _ ne).trans e3,?_,d3,by simp [hz]⟩,ne,⟨_,_,ϵ _ t3 (eV (cM dt _)),cM dt _,?_⟩⟩
  ·rw [Obj.cls_mapFields];exact ⟨hc.1,by obtain ⟨a,b,d,e⟩:=oe;cases d <;> exact hc.2⟩
  ·first | (simp;done) | (rcases hp with rfl | ⟨_,_,_,_,_,_,_,rfl⟩ <;> simp)
theorem UL {oe:Obj}{vs:Array δ}(hfr:A.frames=some (env::outer)) (hl:s.heap.FunFrames base (env::outer)) (hf:env.frame=some L) (he:s.heap.get? e=some oe) (hc:oe.cls=.ref C/\oe.dict=none) (hd:oe.data=.fields vs) (h1:vs[1]?=some .none)
  (h:∀ h' T,Chg (frs (env::outer)) [e] s.heap h'->s.heap.get? T=none->Fly h' e T C->Q () { s with heap:=h' }):
  Λ M A (iy (.ref e) env) (λ_ s'=>Λ M A (lL (.ref e) none) Q E s') E s:=by unfold iy;simp only [hf];refine ζ (au he hd h1 ?_);rw [if_neg (by decide)];exact V9 hfr hl hf he hc hd (dm.mp h1).1 h
theorem Yy (hfr:A.frames=some (env::outer)) (hl:s.heap.FunFrames base (env::outer)) (hf:env.frame=some L) (F:Fly s.heap e T C)
  (h:∀ h' T',Chg (frs (env::outer)) [e,T] s.heap h'->s.heap.get? T'=none->Fly h' e T' C->Q () { s with heap:=h' }):
  Λ M A (iy (.ref e) env) (λ_ s'=>Λ M A (lL (.ref e) none) Q E s') E s:=by
 obtain ⟨⟨oe,vs,he,hc,hd,h1⟩,ne,⟨oT,ts,hT,dT,h3⟩⟩:=F;unfold iy;simp only [hf];refine ζ (au he hd h1 ?_);rw [if_pos (show (Ι T != Κ)=true from by simp)];refine ζ (au hT dT h3 ?_);rw [if_neg (show ¬ ((Κ==aK L)=true) from by simp [aK])];refine ζ (Ϸ hT dT (dm.mp h3).1 ?_);have other:∀ b,b≠T->(s.heap.update T (aV (·.setIfInBounds 3 Κ))).get? b=s.heap.get? b:=λb q=>aX _ _ (bT q)
 refine V9 (s:={ s with heap:=s.heap.update T (aV (·.setIfInBounds 3 Κ)) }) hfr (hl.of_keeps λb o q n=>⟨o,(other b λz=>?_).trans q,rfl⟩) hf ((other e (bT ne)).trans he) hc hd (dm.mp h1).1 λh' T' c n F=>h h' T' ?_ ?_ F
 ·rw [z,hT] at q;cases q;exact n ts dT
 ·exact ((Chg.upd _).mono λb q=>by rw [υ.mp q];exact ι _ ξ).trans (c.mono λb q=>by rw [υ.mp q];exact ξ)
 ·by_cases z:T'=T
  ·subst z;have q:=ϵ (aV (·.setIfInBounds 3 Κ)) hT (eV (cM dT _));have n':(s.heap.update T' (aV (·.setIfInBounds 3 Κ))).get? T'=none:=n;rw [q] at n';cases n'
  ·exact (other T' z).symm.trans n
end
theorem zY.there {P:Τ}{w:ϓ}{H:Hp}{h:Heap}{a:Addr}{o:HO}(x:zY P w H h a o):∃ ob,h.get? a=some ob:=by
 cases o with
 | lst xs=>obtain ⟨_,_,_,_,e⟩:=x;exact ⟨_,e⟩
 | tup xs=>obtain ⟨_,_,_,ob,e,_⟩:=x;exact ⟨_,e⟩
 | dK kvs=>obtain ⟨_,_,_,_,o,_,_,e,_⟩:=x;exact ⟨_,e⟩
 | dT kvs=>obtain ⟨_,_,_,_,o,_,_,e,_⟩:=x;exact ⟨_,e⟩
 | set S n=>obtain ⟨o,_,_,_,e,_⟩:=x;exact ⟨_,e⟩
 | ins C dx fs=>obtain ⟨_,_,_,e,_⟩:=x;exact ⟨_,e⟩
 | own y=>obtain ⟨_,e⟩:=x;exact ⟨_,e⟩
 | xd fs=>obtain ⟨_,⟨_,_,_,e,_⟩,_⟩:=x;exact ⟨_,e⟩
 | rng lo hi=>obtain ⟨_,_,_,e⟩:=x;exact ⟨_,e⟩
 | frz ob u=>obtain ⟨e,_⟩:=x;exact ⟨_,e⟩
 | tbl ps=>exact ⟨_,(show h.get? a=some _ from x)⟩
 | met f y=>exact ⟨_,(show h.get? a=some _ from x)⟩
 | ext φ=>obtain ⟨_,⟨_,e⟩,_⟩:=x;exact ⟨_,e⟩
theorem HOk.K3 {P:Τ}{w:ϓ}{H:Hp}{h:Heap}{a:Addr}(x:HOk P w H h) (n:h.get? a=none):H a=none:=by
 cases q:H a with
 | none=>rfl
 | some o=>
  obtain ⟨ob,e⟩:=(x a o q).there;rw [n] at e;cases e
theorem HOk.chg {P:Τ}{w:ϓ}{H:Hp}{h h':Heap}{fs ex:List Addr}(x:HOk P w H h) (c:Chg fs ex h h') (hf:∀ b∈fs,H b=none) (hx:∀ b∈ex,H b=none):HOk P w H h':=λa o e=>
 (x a o e).stay (λb u hb q=>by
  have hs:∃ v,H b=some v:=by
   rcases hb with rfl | hb
   ·exact ⟨_,e⟩
   ·exact ⟨_,hb⟩
  obtain ⟨v,hv⟩:=hs
  exact c.keep b u q (λz=>by rw [hf b z] at hv;cases hv) λz=>by rw [hx b z] at hv;cases hv) (λ_ q=>q) λ_ _ q=>q
theorem Un.chg {fs fs' ex:List Addr}{H H':Hp}{h h1 h2:Heap}(u:Un fs [] H H' h h1) (c:Chg fs' ex h1 h2) (hx:∀ b∈ex,h.get? b=none) (hf:∀ b∈fs',b∈fs\/h.get? b=none):Un fs [] H H' h h2:=by
 have nx:∀ b o,h.get? b=some o->b ∉ ex:=λb o e z=>by rw [hx b z] at e;cases e
 refine ⟨λb o e n hb z=>c.keep b o (u.keep b o e n hb z) (λq=>(hf b q).elim hb λw=>by rw [w] at e;cases e) (nx b o e),λb o e n hb z=>?_,u.free,λb o e z=>?_,u.tups,u.frzs,u.tbls⟩
 ·obtain ⟨sl,e1⟩:=u.slot b o e n hb z;obtain ⟨sl',e2⟩:=c.slot b _ e1 (nx b o e);exact ⟨sl',e2⟩
 ·obtain ⟨o',e1⟩:=u.there b o e z;obtain ⟨sl,e2⟩:=c.slot b o' e1 (nx b o e);exact ⟨_,e2⟩
def CX1 (P:Τ) (w:ϓ):CXT:=λouter H s E e s'=>∃ (ea T C:Addr) (H':Hp),e=.ref ea/\Fly s'.heap ea T C/\(s.heap.get? ea=none/\s.heap.get? T=none)/\(H' ea=none/\H' T=none)/\s'.os=s.os/\gY s'.gens/\Un (frs outer) [] H H' s.heap s'.heap/\HOk P w H' s'.heap/\E e (some C) H'
section
variable {X:Cx}{pJ:List (Addr×Obj)}{σ:St}{H:Hp}{s:μ}{E E':XK}{W:VSP}
theorem yI {fs:List Addr}{H H':Hp}{h h':Heap}{b:Addr}(u:Un fs [] H H' h h') (n:h'.get? b=none):h.get? b=none:=by
 cases q:h.get? b with
 | none=>rfl
 | some o=>
  obtain ⟨o',e⟩:=u.there b o q (by simp);rw [n] at e;cases e
theorem Q3 (hf:X.env.frame=some X.env.locals):frs (X.env::X.outer)=X.env.locals::X.fs:=by unfold frs;rw [cD,hf];rfl
theorem Q0 (I:Inv X pJ σ H s) (hf:X.env.frame=some X.env.locals):∀ b∈frs (X.env::X.outer),b∈X.fs\/X.sy.heap.get? b=none:=λb hb=>by
 rw [Q3 hf] at hb;rcases Ε.mp hb with rfl | hb
 ·exact .inr (iG I.ok.above)
 ·exact .inl hb
theorem leave_new {h':Heap}{ea C:Addr}{args:List δ}(hs:X.stack=X.env::X.outer) (hf:X.env.frame=some X.env.locals) (hex:X.ex=[]) (I:Inv X pJ σ H s) (m:iH s.heap h' ea (.ref C) args) (hE:E (.ref ea) (some C) H):
  Λ (Ν X.prog X.w) X.A (leaving X.env (.ref ea)) (λ_ s''=>CX1 X.prog X.w X.outer X.Hz X.sy E (.ref ea) s'') W { s with heap:=h' }:=by
 have u0:Un X.fs [] X.Hz H X.sy.heap s.heap:=by have:=I.base;rw [hex] at this;exact this
 obtain ⟨t,he,nt,ht⟩:=m.there;have fr:=I.stack;rw [hs] at fr;have st:=I.ok.frames;rw [hs] at st;have back:∀ b,h'.get? b=none->s.heap.get? b=none:=λb n=>by
  cases q:s.heap.get? b with
  | none=>rfl
  | some o=>rw [m.keeps b o q] at n;cases n
 unfold leaving;refine ζ (UL (base:=X.base) (C:=C) st (fr.of_keeps λb o q _=>⟨o,m.keeps b o q,rfl⟩) hf he ⟨rfl,rfl⟩ rfl rfl λh2 T c nT F=>?_);have nT':=back T nT;refine ⟨ea,T,C,H,rfl,F,⟨yI u0 m.new,yI u0 nT'⟩,⟨I.hok.K3 m.new,I.hok.K3 nT'⟩,I.os,I.bare,?_,?_,hE⟩
 ·refine (u0.trans (Un.kept m.keeps)).chg c (λb hb=>?_) (Q0 I hf);rw [υ.mp hb];exact yI u0 m.new
 ·refine (I.hok.kept m.keeps).chg c (λb hb=>?_) λb hb=>?_
  ·rw [<- hs] at hb;exact I.vU b hb
  ·rw [υ.mp hb];exact I.hok.K3 m.new
theorem Inv.thrown {e:δ}{s':μ}(I:Inv X pJ σ H s) (c:CX1 X.prog X.w X.stack H s E e s'):∃ (ea T C:Addr) (H':Hp),e=.ref ea/\Fly s'.heap ea T C/\(s.heap.get? ea=none/\s.heap.get? T=none)/\(H' ea=none/\H' T=none)/\Un (frs X.stack) [] H H' s.heap s'.heap/\Inv X pJ σ H' s'/\E e (some C) H':=by obtain ⟨ea,T,C,H',e1,F,n1,n2,os,bare,un,hok,h⟩:=c;exact ⟨ea,T,C,H',e1,F,n1,n2,un,I.call' os un hok bare (λb z=>absurd z (by simp)),h⟩
theorem qj {e:δ}{s':μ}(hs:X.stack=X.env::X.outer) (hf:X.env.frame=some X.env.locals) (hex:X.ex=[]) (I:Inv X pJ σ H s) (cx:CX1 X.prog X.w X.stack H s E' e s') (hE:∀ C H',E' e C H'->E e C H'):
  Λ (Ν X.prog X.w) X.A (leaving X.env e) (λ_ s''=>CX1 X.prog X.w X.outer X.Hz X.sy E e s'') W s':=by
 obtain ⟨ea,T,C,H',rfl,F,n1,n2,un,J,h⟩:=I.thrown cx;have u0:Un X.fs [] X.Hz H X.sy.heap s.heap:=by have:=I.base;rw [hex] at this;exact this
 have u1:Un X.fs [] X.Hz H' X.sy.heap s'.heap:=by have:=J.base;rw [hex] at this;exact this
 have fr:=J.stack;rw [hs] at fr;have st:=I.ok.frames;rw [hs] at st;unfold leaving;refine ζ (Yy (base:=X.base) (C:=C) st fr hf F λh2 T' c nT F'=>?_);refine ⟨ea,T',C,H',rfl,F',⟨yI u0 n1.1,yI u1 nT⟩,⟨n2.1,J.hok.K3 nT⟩,J.os,J.bare,?_,?_,hE _ _ h⟩
 ·refine u1.chg c (λb hb=>?_) (Q0 J hf);rcases Ε.mp hb with rfl | hb
  ·exact yI u0 n1.1
  ·rw [υ.mp hb];exact yI u0 n1.2
 ·refine J.hok.chg c (λb hb=>?_) λb hb=>?_
  ·rw [<- hs] at hb;exact J.vU b hb
  ·rcases Ε.mp hb with rfl | hb
   ·exact n2.1
   ·rw [υ.mp hb];exact n2.2
theorem K1 {e:δ}{s':μ}{R:Unit->μ->Prop}(hs:X.stack=X.env::X.outer) (hf:X.env.frame=some X.env.locals) (I:Inv X pJ σ H s) (cx:CX1 X.prog X.w X.stack H s E e s')
  (k:∀ (ea T C:Addr) (H':Hp) (h2:Heap),e=.ref ea->Fly h2 ea T C->s.heap.get? ea=none->s.heap.get? T=none->H' ea=none->H' T=none->Inv X pJ σ H' { s' with heap:=h2 }->E e (some C) H'->R () { s' with heap:=h2 }):
  Λ (Ν X.prog X.w) X.A (iy e X.env) (λ_ s2=>Λ (Ν X.prog X.w) X.A (lL e none) R W s2) W s':=by
 obtain ⟨ea,T,C,H',rfl,F,n1,n2,un,J,h⟩:=I.thrown cx;have fr:=J.stack;rw [hs] at fr;have st:=I.ok.frames;rw [hs] at st;refine Yy (base:=X.base) (C:=C) st fr hf F λh2 T' c nT F'=>?_
 have un2:Un (frs X.stack) [] H H' s.heap h2:=by
  refine un.chg c (λb hb=>?_) λb hb=>.inl (by rw [hs];exact hb)
  rcases Ε.mp hb with rfl | hb
  ·exact n1.1
  ·rw [υ.mp hb];exact n1.2
 have hok2:HOk X.prog X.w H' h2:=by
  refine J.hok.chg c (λb hb=>?_) λb hb=>?_
  ·rw [<- hs] at hb;exact J.vU b hb
  ·rcases Ε.mp hb with rfl | hb
   ·exact n2.1
   ·rw [υ.mp hb];exact n2.2
 have hT:s.heap.get? T'=none:=by
  cases q:s.heap.get? T' with
  | none=>rfl
  | some o=>
   obtain ⟨o',e'⟩:=un.there T' o q (by simp);have nT':s'.heap.get? T'=none:=nT;rw [nT'] at e';cases e'
 exact k ea T' C H' h2 rfl F' n1.1 hT n2.1 (J.hok.K3 nT) (I.call' (s':={ s' with heap:=h2 }) (J.os.trans I.os.symm) un2 hok2 J.bare (λb z=>absurd z (by simp))) h
end
open PySem PySem.Spec PySem.W PyProof.Rows
structure XCls (K:Frag) (C:Addr):Prop where
 ga:findIn K (.ref C) "__getattribute__"=some (some (.builtin "BaseException.__getattribute__"))
 gr:findIn K (.ref C) "__getattr__"=some none
 cl:findIn K (.ref C) "__class__"=some (some (.builtin "object.__class__"))
 mb:mroIn K C (.type "BaseException")=some true
 mo:mroIn K C (.type "object")=some true
 it:(clsIn K C).isSome=true
section
variable {prog:Τ}{w:ϓ}{A:ϙ}{E:VSP}{h:Heap}{g:Array GenState}{d:Drawn}{t:Nat}{os:OsState}{a:Addr}{o:Obj}{K:Frag}{C:Addr}
theorem Uh {tk:Tok}{Q:PySem.Fin->μ->Prop}(X:K.In h) (c:XCls K C) (I:W.InstAt h a o C none) (hq:Q (.done (.ret (.ref C))) ⟨h,g,d,t,os⟩):
  Λ (Ν prog w) A (ώ.«object.__getattribute__» ⟨[.ref a,.str "__class__" tk],[]⟩) Q E ⟨h,g,d,t,os⟩:=by
 have hx:=I.at_;have hc:=I.cls;have f5:=F.typeOf_object_class;have f6:=F.slot_gs_get.lookup;have f7:=F.slot_gs_set.lookup;have hT5:(⟨h,g,d,t,os⟩:μ).TypeIs (.builtin "object.__class__") "getset_descriptor":=F.typeOf_object_class
 repeat (any_goals (first | assumption | (with_reducible refine mU hx ?_;rw [hc]) | with_reducible refine (pQ (M:=Ν prog w) X c.cl).at ?_ | wp_step))
 refine W.class_get (od:=none) X I c.mo ?_
 repeat (any_goals (first | assumption | wp_step))
theorem Ui {M:Model}{nameV:δ}{Q:Unit->μ->Prop}(X:K.In h) (c:XCls K C) (I:W.InstAt h a o C none) (hq:Q () ⟨h,g,d,t,os⟩):Λ M A (nH "BaseException.__getattribute__" ⟨[.ref a,nameV],[]⟩) Q E ⟨h,g,d,t,os⟩:=by
 have hk:builtinKind "BaseException.__getattribute__"=some .slot:=by decide +kernel
 have hsplit:splitId "BaseException.__getattribute__"=some ("BaseException","__getattribute__"):=by decide +kernel
 have ha:=F.args_bexc_ga (.ref a) nameV;have hx:=I.at_;have hc:=I.cls;simp only [nH,hk,hsplit];refine ζ ?_
 ·unfold isInstance
  repeat (first | (with_reducible refine mU hx ?_;rw [hc]) | with_reducible refine (looks_mroIn (M:=M) X c.mb).at ?_ | wp_step)
  exact hq
theorem zcM {tk:Tok}{Q:VSP}(X:K.In h) (c:XCls K C) (I:W.InstAt h a o C none) (hq:Q (.ref C) ⟨h,g,d,t,os⟩):Λ (Ν prog w) A (getAttrBy (.ref a) (.str "__class__" tk) false) Q E ⟨h,g,d,t,os⟩:=by
 have FB:=F.attr_ValueError;have f3:=FB.ga.bind (.ref a);have hx:=I.at_;have hc:=I.cls;have hx2:(iV "BaseException.__getattribute__"==iV "object.__getattribute__")=false:=by decide +kernel
 have hx1:(onTheHeap (Ι C)&&iV "BaseException.__getattribute__"==iV "object.__getattribute__")=false:=by rw [hx2];rfl
 repeat (any_goals (first | assumption | (with_reducible refine mU hx ?_;rw [hc]) | with_reducible refine (pQ (M:=Ν prog w) X c.ga).at ?_ | with_reducible refine (pQ (M:=Ν prog w) X c.gr).at ?_ | wp_step))
 refine codeAny_call_builtin FB.ga.plain F.entry_bexc_ga (Ui X c I (Uh X c I ?_))
 repeat (any_goals (first | assumption | wp_step))
theorem Jj {Q:Option δ->μ->Prop}(X:K.In h) (c:XCls K C) (I:W.InstAt h a o C none) (hq:Q (some (.ref C)) ⟨h,g,d,t+1,os⟩):Λ (Ν prog w) A (getAttr? (.ref a) "__class__") Q E ⟨h,g,d,t,os⟩:=by
 unfold getAttr? getAttrBy?
 repeat (any_goals (first | assumption | with_reducible apply zcM X c I | wp_step))
set_option tactic.hygienic true in
theorem zbC (c:XCls K C):W.KitX K (.ref a) (.ref C) (λh=>W.InstAt h a o C none) where
 ty:=λ_ _ _ I=>I.type
 it:=λ_ _ X _=>by
  obtain ⟨cd,hcD⟩:=fZ.mp c.it;unfold clsIn at hcD;split at hcD
  ·rename_i c' d' cd' sl' ho
   intro A' Q' E' s' k q;unfold isType loadHead;exact ζ (wpAny_loadPart (k _ _ (X _ _ ho)) (θ q))
  ·cases hcD
 ne:=λh tp dd its n sl X htp=>by
  obtain ⟨cd,hcD⟩:=fZ.mp c.it;refine gq.mpr λq=>?_
  have e:C=tp:=Ι.inj (beq_iff_eq.mp q);subst e;unfold clsIn at hcD;split at hcD
  ·rename_i c' d' cd' sl' ho
   have z:=(X _ _ ho).symm.trans htp;cases z
  ·cases hcD
 ca:=λ{_ _ _ _ _ s} X I k=>by obtain ⟨h,g,d,t,os⟩:=s;exact Jj X c I k
end
section
variable {X:Cx}{pJ:List (Addr×Obj)}{σ σ':St}{H:Hp}{s:μ}{x:Str}{i:Nat}{ea C:Addr}{oe:Obj}
theorem Inv.locs {h':Heap}{m':Str->Option δ}{t':Nat}(I:Inv X pJ σ H s) (hn:h'.Ns X.env.locals m') (hs:ϩ X.env.locals s.heap h') (hl:σ'.length=σ.length)
  (hm:∀ (i:Nat) (x:Str) (v:V),X.N[i]?=some x->σ'[i]?=some (some v)->Vis X.env.scope x->∃ u,RelV v u/\Look X.env s.heap m' x u):Inv X pJ σ' H { s with heap:=h',toks:=t' }:=by
 obtain ⟨m,hn0,_⟩:=id I.loc;obtain ⟨oL,_,_,hoL,_⟩:=id hn0;have ab:∀ b o,X.sy.heap.get? b=some o->b≠X.env.locals:=λb o e=>Φ (Ω (Δ e) I.ok.above)
 have ky:∀ b o,X.sy.heap.get? b=some o->h'.get? b=s.heap.get? b:=λb o e=>hs.2 b (ab b o e)
 refine ⟨I.ok,I.os,I.bare,⟨λb o e n hb hx=>(ky b o e).trans (I.base.keep b o e n hb hx),λb o e n hb hx=>?_,I.base.free,λb o e hx=>?_,I.base.tups,I.base.frzs,I.base.tbls⟩,⟨m',hn,λi x v e1 e2 e3=>?_⟩,λy c e=>?_,I.free,I.freeC,λp hp=>?_,λb ob e=>?_,hl.trans I.len⟩
 ·obtain ⟨sl,e1⟩:=I.base.slot b o e n hb hx;exact ⟨sl,(ky b o e).trans e1⟩
 ·obtain ⟨o',e1⟩:=I.base.there b o e hx;exact ⟨o',(ky b o e).trans e1⟩
 ·obtain ⟨u,r,q⟩:=hm i x v e1 e2 e3;refine ⟨u,r,?_⟩;rcases q with q | ⟨k,c,e,z⟩
  ·exact .inl q
  ·exact .inr ⟨k,c,e,z.sameBut hs (I.cne x c e)⟩
 ·obtain ⟨w',z⟩:=I.cell y c e;exact ⟨w',z.sameBut hs (I.cne y c e)⟩
 ·obtain ⟨e,n,ne,nf,d⟩:=I.pin p hp;exact ⟨(hs.2 p.1 ne).trans e,n,ne,nf,d⟩
 ·refine (I.hok b ob e).stay (λc w' hc q=>(hs.2 c ?_).trans q) (λ_ q=>q) λ_ _ q=>q
  rintro rfl;rcases hc with rfl | hc
  ·rw [I.free] at e;cases e
  ·rw [I.free] at hc;cases hc
theorem zey {M:Model}{A:ϙ}{E:VSP}{pos:Pos}{Q:Unit->μ->Prop}(I:Inv X pJ σ H s) (hN:X.N.Nodup) (hi:X.N[i]?=some x) (hk:X.env.kindOf x=some .local)
  (h:∀ s',Inv X pJ (σ.set i none) H s'->Q () s'):Λ M A (do bindName X.env x .none;unbindBehindTheSuite X.env x pos) Q E s:=by
 have hk':X.env.scope.names.lookup x=some .local:=hk;have hp:(X.env.scope.kind==.class||(X.env.scope.kind==.module&&X.env.locals != X.env.globals))=false:=by rw [I.ok.kind];rfl
 refine ζ (wpAny_bindName ?_);obtain ⟨m,hn,hl⟩:=id I.loc;refine wpAny_storeName_local hk hn (λh1 hn1 hs1=>?_) hp;unfold unbindBehindTheSuite;refine wpAny_onRaise ?_;unfold unbindName;refine ζ (wpAny_point (ζ ?_));unfold deleteName;simp only [hk,hp];rw [if_neg (by decide)];refine ζ (wpAny_nsDel_keeps hn1 λh2 v hn2 hs2=>?_);simp only [if_true,o8,oh,bQ,if_false];refine θ (wpAny_point (h _ ?_));refine I.locs hn2 (hs1.trans hs2) (by rw [ϥ]) λj y v' e1 e2 e3=>?_
 by_cases hj:j=i
 ·subst hj;by_cases q:j < σ.length
  ·rw [Ϗ q] at e2;cases e2
  ·rw [bh (by rw [ϥ];omega)] at e2;cases e2
 ·rw [Ζ (bT hj)] at e2;have hy:y≠x:=λe=>hj (Zc hN e1 (e ▸ hi))
  obtain ⟨u',r',q⟩:=hl j y v' e1 e2 e3;refine ⟨u',r',?_⟩;rcases q with ⟨k,e⟩ | q
  ·exact .inl ⟨k,by simp [hy,e]⟩
  ·exact .inr q
noncomputable def Cx.hnd (X:Cx) (ea:Addr) (oe:Obj):Cx:={ X with A:=X.A.mark (some (.ref ea)),calm:=false,pn:=(ea,oe)::X.pn,xe:=λ_ _=>False }
theorem Inv.hnd (I:Inv X pJ σ H s) (h1:s.heap.get? ea=some oe) (h2:H ea=none) (h3:ea≠X.env.locals) (h4:ea ∉ X.fs) (h5:∀ v,oe.data≠.cell v):Inv (X.hnd ea oe) pJ σ H s:=
 ⟨⟨I.ok.mod,I.ok.kind,I.ok.glob,I.ok.blt,I.ok.above,I.ok.inj,I.ok.has,I.ok.cab,(λz=>nomatch z),I.ok.frames,I.ok.stk,I.ok.exf,I.ok.bs,I.ok.bsz,I.ok.noex,I.ok.exfs,I.ok.funs,I.ok.frf⟩,I.os,I.bare,I.base,I.loc,I.cell,I.free,I.freeC,
  λp hp=>by
   rcases Ε.mp hp with rfl | hp
   ·exact ⟨h1,h2,h3,h4,h5⟩
   ·exact I.pin p hp,I.hok,I.len⟩
theorem Inv.zic (ok:X.Ok) (I:Inv (X.hnd ea oe) pJ σ H s):Inv X pJ σ H s:=
 ⟨ok,I.os,I.bare,I.base,I.loc,I.cell,I.free,I.freeC,λp hp=>I.pin p (ι _ hp),I.hok,I.len⟩
theorem zbW {k:V}{u:δ}{b:Bool}(c:XCls X.K C) (hc:oe.cls=.ref C) (hd:oe.dict=none) (hn:notCls oe=true) (r:RelV k u) (hu:∀ u',RelV k u'->u'=u) (hk:kitOne X.K (.ref C) u=some b):yu (X.hnd ea oe) (.builtin "isinstance") (λxs H Q=>xs=[.ref ea,k]/\Q (.bl b) H):=by
 intro pJ s σ H xs us Q I rv ⟨e,q⟩;subst e;cases rv with
 | cons r1 rv=>
  cases rv with
  | cons r2 rv=>
   cases rv;cases (show _=Ι ea from r1);cases hu _ r2;have p:=(I.pin (ea,oe) ξ).1;exact kia_one (K:=X.K) (zbC (o:=oe) c) (show X.K.In s.heap from I.kIn) ⟨p,hc,hn,by rw [hd];trivial⟩ hk (λz=>nomatch z) λtk=>⟨.bl b,H,I.tok tk,rfl,q⟩
end
section
variable {X:Cx}{pJ:List (Addr×Obj)}{σ:St}{H:Hp}{s:μ}{C:Addr}{bmB:List δ}
set_option tactic.hygienic true in
theorem zes {K:Frag}{h:Heap}{newId:String}(X:K.In h) (q:excIn K C bmB newId=true):∃ bm N nm q bs hdct sn sub ab col dd k0 k1 k2 k3 k5 mN,h.get? C=some (excClassObj nm q C N bs bm hdct sn sub ab col dd k0 k1 k2 k3 k5 newId)/\h.Ns N mN/\mN "__init__"=none/\OwnTail h bmB bm:=by
 unfold excIn at q;split at q
 ·rename_i dd cd sl ho
  split at q
  ·rename_i C' bm k0 k1 k2 k3 n k5 hm hs
   simp only [ε,beq_iff_eq,d7] at q;obtain ⟨⟨⟨⟨⟨rfl,rfl⟩,hdel⟩,ht⟩,hok⟩,hni⟩:=q;obtain ⟨nm,bs,mro,ns,qn,hd,sn,sub,ab,col,del⟩:=cd;dsimp only at hm hdel hok hni;subst hm hdel;have hsl:sl=#[k0,k1,k2,k3,some (.builtin n),k5]:=by obtain ⟨l⟩:=sl;simp only at hs;rw [hs]
   subst hsl;exact ⟨bm,ns,nm,qn,bs,hd,sn,sub,ab,col,dd,k0,k1,k2,k3,k5,_,X _ _ ho,.of_isNs (isNs_of_in X hok),nsMap_none_of_in X hok hni,tail_of_in X ht⟩
  ·cases q
 ·cases q
theorem za7 {x msg:Str}{j:Nat}{np cp p pos:Pos}{Q:Flow->μ->Prop}(I:Inv X pJ σ H s) (hc:X.calm=true) (hg:Gl X x) (hm:X.mg x=some (.ref C)) (hd:(x==("__debug__":Str))=false) (q:excIn X.K C veB "ValueError.__new__"=true)
  (h:∀ s1 h' ea args,Inv X pJ σ H s1->iH s1.heap h' ea (.ref C) args->X.xe (.ref ea) { s1 with heap:=h' }):
  Λ (Ν X.prog X.w) X.A (exec (.Raise (some (.Call (.Name x np) [.Constant (.str msg) j p] [] cp)) none pos) X.env) Q X.xe s:=by
 obtain ⟨bm,N,nm,q,bs,hdct,sn,sub,ab,col,dd,k0,k1,k2,k3,k5,mN,hC,hN,hni,T⟩:=zes I.ok.mod.kin q;have FB:=F.excBase_ValueError;refine wpAny_Raise_call_subT (C:=C) (nm:=nm) (q:=q) (N:=N) (bs:=bs) (bm:=bm) (hdct:=hdct) (sn:=sn) (sub:=sub) (ab:=ab) (col:=col) (dd:=dd) (k0:=k0) (k1:=k1) (k2:=k2) (k3:=k3) (k5:=k5) FB (mN:=mN) (T.hasType FB.hasBase) (I.ok.hd hc) rfl hni (vY I hg hm ⟨rfl,?_⟩ hd);have hp:PA X [.Constant (.str msg) j p] _:=yl Kv xH;refine o7 (thn (hp cp pJ s σ H (λxs H'=>H'=H/\xs.length=1) I ⟨rfl,rfl⟩) λvs s2 ⟨xs,H2,I2,r,e,hx⟩=>?_);subst e;have hl:vs.length<=sizeLine:=by rw [<- r.length,hx];decide
 exact ⟨rfl,hl,I2.bk _ _ hC,hN.keeps I2.bk,T.keeps I2.bk,λh' e m=>h s2 h' e vs I2 m⟩
end
end L2
namespace EV
open PySem PySem.Spec PySem.W PyProof.Rows L2
structure KCls (Γ:Gm) (tb:List (List Nat)) (c:Nat) (C:Addr):Prop where
 ca:Γ.ca c=some C
 ex:W.excIn Γ.K C veB "ValueError.__new__"=true
 xc:XCls Γ.K C
 sub:∀ k Ck,Γ.ca k=some Ck->W.kitOne Γ.K (.ref C) (.ref Ck)=some (subT tb c k)
 ve:W.kitOne Γ.K (.ref C) (.type "ValueError")=some true
 em:∀ k Ck,Γ.ca k=some Ck->W.exmOne Γ.K (.ref C) (.ref Ck)=some (subT tb c k)
structure FnI (Γ:Gm) (B:Tb) (cf:Nat->Nat->Sp) (k:Nat) (P:Τ) (w:ϓ) (K:W.Frag) (mg:Str->Option δ) (base:Heap) (f:Nat) (x:Str):Prop where
 ex:∃ (a:Addr) (fd:bK) (ps:List Str),Γ.fa f=some a/\(dotted x=false->mg x=some (.ref a))/\W.keepIn K (.ref a)=true/\Binds K fd ps []/\B.pars[f]?=some ps/\FnOk P w K mg base (CX1 P w) (2*k) a fd ps (cf f ps.length) /\
  ∀ (ks:List Str) (perm:List Nat),perm.length=ps.length->(∀ i∈perm,i < ks.length)->perm.map (λi=>ks.getD i "")=ps->ks.length=ps.length->(f,ks,perm)∈B.kws ->
   zaK K fd ps ks (λus ws=>if ws.length=ks.length then us++perm.map λi=>ws.getD i .none else []) (λvs zs=>if zs.length=ks.length then vs++perm.map λi=>zs.getD i .non else [])
structure ObOk (Γ:Gm) (o:Ob) (C:Addr):Prop where
 ca:caOf Γ.K o.name=some C
 cl:Cls Γ.K C
 fl:∀ f∈o.fields,zh7 Γ.K C f
 mt:∀ (m:Str) (i:Nat),(m,i)∈o.meths->∃ a,Γ.fa i=some a/\Meth Γ.K C m a
 mkk:∀ i:Nat,(("__init__":Str),i)∈o.meths->∃ a,Γ.fa i=some a/\Mk Γ.K C a
structure LamE (Γ:Gm) (X:Cx) (p:Nat):Prop where
 ex:∃ cc P,X.env.code=.ref cc/\Γ.ta p=some (P,X.env.qual++"<lambda>")/\Ψ≠P/\∀ h,X.K.In h->CodeHd h cc P/\h.BuiltinsAt X.mg P
 new:∀ x c,X.env.cells.lookup x=some c->X.sy.heap.objs.size<=c
def LamI (Γ:Gm) (cf:Nat->Nat->Sp) (k:Nat) (P:Τ) (w:ϓ) (K:W.Frag) (mg:Str->Option δ) (base:Heap):Prop:=
 ∀ (f n:Nat) (q:Str) (pr:bA) (b:Expr) (sc:aM) (fs:List Str) (a:Addr) (pm cv ct:δ) (cl:List (Str×Addr)) (ws:List V) (A:ϙ) (outer:List Env) (s:μ) (H:Hp) (us:List δ) (vs:List V) (Q:VK) (E:XK),
  Γ.la f q pr b sc fs->Room (2*k) A->Env0 P w K mg base A outer s H->H a=some (kn (lamO q pr b sc cl pm cv ct))->yg H q cv->Clo H cl fs ws->Vals vs us->cf f n (vs++ws) H Q E->gf (Ν P w) A (.call (.ref a) ⟨us,[]⟩) (CR (CX1 P w) outer P w H s Q E) s
structure XOk (Γ:Gm) (B:Tb) (cf:Nat->Nat->Sp) (k:Nat) (X:Cx) (c:Cc):Prop where
 hK:X.K=Γ.K
 nm:X.env.scope.names=c.names
 kd:X.env.scope.kind=.function
 N:X.N=c.N
 nd:X.N.Nodup
 fn:c.fn=true->∀ x,X.fn x=true
 calm:X.calm=true
 room:Room (2*k+1) X.A
 cells:∀ x,(c.names.lookup x=some .cell\/c.names.lookup x=some .free)->∃ a,X.env.cells.lookup x=some a
 fns:∀ (f:Nat) (x:Str),B.fns[f]?=some x->FnI Γ B cf k X.prog X.w X.K X.mg X.base f x
 bare:∀ x∈B.bare,X.mg x=none
 consts:∀ (n:Nat) (x:Str) (d:D),B.consts[n]?=some (x,d)->∃ u v,X.mg x=some u/\RelV v u/\∀ g,Has Γ g d v
 fa:∀ (f:Nat) (a:Addr),Γ.fa f=some a->∃ x,B.fns[f]?=some x
 cl:∀ (c:Nat) (x:Str) (l:List Nat),B.cls[c]?=some (x,l)->∃ C,X.mg x=some (.ref C)/\KCls Γ (B.cls.map (·.2)) c C
 ca:∀ (c:Nat) (C:Addr),Γ.ca c=some C->∃ x l,B.cls[c]?=some (x,l)
 ob:∀ o∈B.obs,∃ C,X.mg o.name=some (.ref C)/\ObOk Γ o C
 lm:LamI Γ cf k X.prog X.w X.K X.mg X.base
 la:∀ (f:Nat) (r:LamR) (q:Str) (pr:bA) (b:Expr) (sc:aM),B.fns.length<=f->B.lams[f - B.fns.length]?=some r->lamB r pr b sc=true->B.fns[r.gi]?=some r.g->Γ.la f q pr b sc r.fs
 tb:∀ p,c.tb=some p->LamE Γ X p/\(c.fn=false->∀ x,X.fn x=false)
section
variable {Γ:Gm}{B:Tb}{cf:Nat->Nat->Sp}{k:Nat}{X:Cx}{c:Cc}
theorem XOk.rm (x:XOk Γ B cf k X c):Room (2*k) X.A:=x.room.mono (iM _)
theorem XOk.u61 (x:XOk Γ B cf k X c):X.A.units+61 < ϸ:=by have:=x.room.un;lia
theorem XOk.u1 (x:XOk Γ B cf k X c):X.A.units+1 < ϸ:=by have:=x.room.un;lia
theorem XOk.vis (x:XOk Γ B cf k X c) {n:Str}(h:visK (c.names.lookup n)=true):Vis X.env.scope n:=by
 unfold Vis;rw [x.nm];cases q:c.names.lookup n with
 | none=>rw [q] at h;cases h
 | some kd=>rw [q] at h;cases kd <;> first | exact .inl rfl | exact .inr (.inl rfl) | exact .inr (.inr rfl) | cases h
theorem XOk.glob (x:XOk Γ B cf k X c) {n:Str}(h:gloK (c.names.lookup n)=true):Gl X n:=by
 unfold Gl lH;rw [x.nm];cases q:c.names.lookup n with
 | none=>rw [q] at h;cases h
 | some kd=>rw [q] at h;cases kd <;> first | rfl | cases h
theorem zF {n:Str}(h:zJ n=true):(n==("__debug__":Str))=false/\(n==("__classdict__":Str))=false/\n≠("__name__":Str):=by unfold zJ at h;simp only [ε,d7] at h;exact ⟨h.1.1.1,h.1.1.2,by simpa using h.1.2⟩
theorem qR {n:Str}(h:zJ n=true):dotted n=false:=by unfold zJ at h;simp only [ε,d7] at h;exact h.2
theorem XOk.pg (x:XOk Γ B cf k X c) {i:Nat}{n:Str}{pos:Pos}(hi:c.N[i]?=some n) (hs:stoK c n=true):PG X (.Name n pos) (Zr i):=by
 have hi':X.N[i]?=some n:=by rw [x.N];exact hi
 unfold stoK at hs;cases q:c.names.lookup n with
 | none=>rw [q] at hs;cases hs
 | some kd=>
  rw [q] at hs;have q':X.env.scope.names.lookup n=some kd:=by rw [x.nm];exact q
  cases kd with
  | «local»=>exact X8 x.nd hi' (.inl q') (.inr q')
  | cell=>exact X8 x.nd hi' (.inr q') (.inl (x.fn hs n))
  | _=>cases hs
def YZ:List Nat->TGs
 | []=>gNil
 | i::is=>zbG (Zr i) (YZ is)
theorem Kr (x:XOk Γ B cf k X c):∀ {es:List Expr}{ns:List Str}{is:List Nat},EV.namesOf es=some ns->ns.length=is.length->((is.zip ns).all λp=>c.N[p.1]?==some p.2&&stoK c p.2)=true ->
  PGs X es (YZ is)/\(bz es X.env).length=is.length/\(bz es X.env).findIdx? (·.1)=none
 | [],ns,is,h,hl,_=>by
  cases (show some []=some ns from h);cases is with
  | nil=>exact ⟨Ks,rfl,rfl⟩
  | cons=>simp at hl
 | e::es,ns,is,h,hl,ha=>by
  cases e with
  | Name n pos=>
   simp only [EV.namesOf,ο] at h;obtain ⟨r,h1,h2⟩:=h;subst h2;cases is with
   | nil=>simp at hl
   | cons i is=>
    simp only [bu,fB,ε] at ha;obtain ⟨⟨ha1,ha2⟩,ha3⟩:=ha;obtain ⟨g1,g2,g3⟩:=Kr x h1 (by simpa using hl) ha3;refine ⟨qZ (x.pg (eq_of_beq ha1) ha2) g1,?_,?_⟩
    ·show (_::bz es X.env).length=_
     rw [ϱ,g2,ϱ]
    ·show List.findIdx? _ ((false,_)::bz es X.env)=none
     rw [List.findIdx?_cons];simp [g3]
  | _=>simp [EV.namesOf] at h
def tgOf (K:W.Frag):T->TG
 | .nst i is=>gTup K 2 (zbG (Zr i) (zbG (gTup K is.length (YZ is)) gNil))
 | .one i=>Zr i
 | .tup is=>gTup K is.length (YZ is)
theorem Ue {x:Expr}{q:Str×Pos×List Expr×Nat×Pos×Nat×Pos}(h:zb4 x=some q):x=.Tuple [.Name q.1 q.2.1,.Tuple q.2.2.1 q.2.2.2.1 q.2.2.2.2.1] q.2.2.2.2.2.1 q.2.2.2.2.2.2:=by
 cases x with
 | Tuple es k p=>
  cases es with
  | nil=>cases h
  | cons a r=>
   cases a with
   | Name n pos=>
    cases r with
    | nil=>cases h
    | cons b z=>
     cases z with
     | cons _ _=>cases h
     | nil=>
      cases b with
      | Tuple fs k2 p2=>cases h;rfl
      | _=>cases h
   | _=>cases h
 | _=>cases h
theorem zcY (x:XOk Γ B cf k X c) {t:T}{tgt:Expr}(hn:Zn t=true) (h:chkT c t tgt=true):PG X tgt (tgOf X.K t):=by
  cases t with
  | nst i is=>
    unfold chkT at h;rw [if_pos hn] at h;cases e:zb4 tgt with
    | none=>rw [e] at h;cases h
    | some q=>
      rw [e] at h
      have h:(match namesOf q.2.2.1 with
        | some ns=>(q.1::ns).length==(i::is).length&&((i::is).zip (q.1::ns)).all λp=>c.N[p.1]?==some p.2&&stoK c p.2
        | none=>false)=true:=h
      rw [Ue e];cases en:namesOf q.2.2.1 with
      | none=>rw [en] at h;cases h
      | some ns=>
        rw [en] at h;simp only [bu,fB,ε] at h;obtain ⟨h1,⟨h2,h3⟩,h4⟩:=h;have h1:ns.length=is.length:=by simpa using h1
        obtain ⟨g1,g2,g3⟩:=Kr x en h1 h4;exact Ku x.calm (qZ (x.pg (eq_of_beq h2) h3) (qZ (Ku x.calm g1 g2 g3) Ks)) rfl rfl
  | _=>cases hn
theorem JD (x:XOk Γ B cf k X c) {t:T}{tgt:Expr}(h:chkT c t tgt=true):PG X tgt (tgOf X.K t):=by
 by_cases hnst:Zn t=true
 ·exact zcY x hnst h
 unfold chkT at h;rw [if_neg hnst] at h;rw [ε] at h;obtain ⟨h1,h2⟩:=h;cases tgt with
 | Name n pos=>
  cases t with
  | one i=>
   simp only [xm,tIs,bu,List.zip_nil_right,fB,List.all_nil,lu,ε] at h2;exact x.pg (eq_of_beq h2.2.1) h2.2.2
  | tup is=>cases h1
  | nst _ _=>exact absurd rfl hnst
 | Tuple es kk pos=>
  cases t with
  | one i=>cases h1
  | nst _ _=>exact absurd rfl hnst
  | tup is=>
   simp only [xm,tIs] at h2;cases hn:EV.namesOf es with
   | none=>rw [hn] at h2;cases h2
   | some ns=>
    rw [hn] at h2;simp only [ε,beq_iff_eq] at h2;obtain ⟨g1,g2,g3⟩:=Kr x hn h2.1 (by simpa using h2.2);exact Ku x.calm g1 g2 g3
 | _=>simp [xm] at h2
noncomputable def xM (cells:List (Str×Addr)):List (Str×Ϣ)->List (Str×Addr)->List (Str×Addr)
 | [],acc=>acc
 | (n,kd)::r,acc=>if (kd==Ϭ)=true then xM cells r ((n,(cells.lookup n).getD 0)::acc) else xM cells r acc
theorem jK {env:Env}:∀ (names:List (Str×Ϣ)) (acc:List (Str×Addr)),(∀ y∈names,y.2=.free->∃ a,env.cells.lookup y.1=some a) ->
  (forIn names acc λx cs=>match x with
   | (name,kind)=>if (kind==Ϭ)=true then do let a <- cellOf env name;pure (aF ((name,a)::cs)) else pure (aF cs):Sem (List (Str×Addr)))=pure (xM env.cells names acc)
 | [],acc,_=>rfl
 | (n,kd)::r,acc,h=>by
  rw [List.forIn_cons];by_cases hk:(kd==Ϭ)=true
  ·obtain ⟨a,ha⟩:=h (n,kd) ξ (eq_of_beq hk);have ha:env.cells.lookup n=some a:=ha;simp only [hk,if_true];have:cellOf env n=pure a:=by unfold cellOf;rw [ha]
   rw [this];simp only [pure_bind];rw [jK r _ λy hy=>h y (ι _ hy)];simp [xM,hk,ha]
  ·simp only [hk];simp only [bQ,if_false,pure_bind];rw [jK r _ λy hy=>h y (ι _ hy)];simp [xM,hk]
theorem zaj {env:Env}{sc:aM}(h:∀ y∈sc.names,y.2=.free->∃ a,env.cells.lookup y.1=some a):mJ sc env=pure (xM env.cells sc.names []):=by
 unfold mJ;have:=jK sc.names [] h
 first
  | exact (congrArg (λz=>z >>= pure) this).trans (by simp)
  | (simp only [bind_pure];exact this)
  | exact this
theorem ye {cells:List (Str×Addr)}{y:Str}:∀ (names:List (Str×Ϣ)) (acc:List (Str×Addr)),(∀ z∈names,z.2=.free->∃ a,cells.lookup z.1=some a)->(∀ c,acc.lookup y=some c->cells.lookup y=some c) ->
  (∀ c,(xM cells names acc).lookup y=some c->cells.lookup y=some c)/\((y,Ϭ)∈names\/(∃ c,acc.lookup y=some c)->∃ c,(xM cells names acc).lookup y=some c)
 | [],acc,_,h=>⟨h,λq=>by
  rcases q with q | q
  ·cases q
  ·exact q⟩
 | (n,kd)::r,acc,hh,h=>by
  by_cases hk:(kd==Ϭ)=true
  ·obtain ⟨a,ha⟩:=hh (n,kd) ξ (eq_of_beq hk);have ha:cells.lookup n=some a:=ha;have e:xM cells ((n,kd)::r) acc=xM cells r ((n,a)::acc):=by simp [xM,hk,ha]
   rw [e]
   obtain ⟨i1,i2⟩:=ye (y:=y) r ((n,a)::acc) (λz hz=>hh z (ι _ hz)) (λc q=>by
    rw [Ϡ] at q;cases hy:y==n with
    | true=>rw [hy] at q;cases q;rw [eq_of_beq hy];exact ha
    | false=>rw [hy] at q;exact h c q)
   refine ⟨i1,λq=>i2 ?_⟩;rcases q with q | ⟨c,q⟩
   ·rcases Ε.mp q with q | q
    ·right;cases q;exact ⟨a,List.lookup_cons_self⟩
    ·exact .inl q
   ·right;rw [Ϡ];cases hy:y==n with
    | true=>exact ⟨a,rfl⟩
    | false=>exact ⟨c,q⟩
  ·have e:xM cells ((n,kd)::r) acc=xM cells r acc:=by simp [xM,hk]
   rw [e];obtain ⟨i1,i2⟩:=ye (y:=y) r acc (λz hz=>hh z (ι _ hz)) h;refine ⟨i1,λq=>i2 ?_⟩;rcases q with q | q
   ·rcases Ε.mp q with q | q
    ·cases q;exact absurd rfl hk
    ·exact .inl q
   ·exact .inr q
theorem yS (x:XOk Γ B cf k X c) (sc:aM):(gQ sc X.env).names=relK c.names sc.names:=by
 unfold gQ relK;simp only [x.kd,lH,x.nm]
 congr 1
 funext y
 have e:(oG==oG)=true:=rfl;rw [e,lu]
theorem Yd {names l:List (Str×Ϣ)}{y:Str}{kd:Ϣ}(hc:∀ z∈l,z.2≠.cell):(relK names l).lookup y=some kd->kd=.cell\/kd=.free->(y,Ϭ)∈l:=by
 intro h hk
 induction l with
 | nil=>cases h
 | cons p l ih=>
  obtain ⟨n,q⟩:=p;have hq:=hc (n,q) ξ;show (y,Ϭ)∈(n,q)::l
  unfold relK at h;rw [ϧ] at h;by_cases e:(q==Ϭ&&names.lookup n==some .cell)=true
  ·simp only [e,if_true] at h;rw [Ϡ] at h;cases hy:y==n with
   | true=>
    rw [ε] at e;rw [eq_of_beq hy,eq_of_beq e.1];exact ξ
   | false=>
    rw [hy] at h;exact ι _ (ih (λz hz=>hc z (ι _ hz)) h)
  ·simp only [e,bQ,if_false] at h;rw [Ϡ] at h;cases hy:y==n with
   | true=>
    rw [hy] at h;cases h;rcases hk with hk | hk
    ·exact absurd hk hq
    ·rw [hk,eq_of_beq hy];exact ξ
   | false=>
    rw [hy] at h;exact ι _ (ih (λz hz=>hc z (ι _ hz)) h)
theorem J9 {names l:List (Str×Ϣ)}{y:Str}(h:l.lookup y=some .free):(relK names l).lookup y=some .cell\/(relK names l).lookup y=some .free:=by
 induction l with
 | nil=>cases h
 | cons p l ih=>
  obtain ⟨n,q⟩:=p;rw [Ϡ] at h;unfold relK;rw [ϧ];cases hy:y==n with
  | true=>
   rw [hy] at h;cases h;by_cases e:(Ϭ==Ϭ&&names.lookup n==some .cell)=true
   ·left;simp only [e,if_true,Ϡ,hy]
   ·right;simp only [e,bQ,if_false,Ϡ,hy]
  | false=>
   rw [hy] at h;have:=ih h;by_cases e:(q==Ϭ&&names.lookup n==some .cell)=true
   ·simp only [e,if_true,Ϡ,hy];exact this
   ·simp only [e,bQ,if_false,Ϡ,hy];exact this
theorem zbQ (x:XOk Γ B cf k X c) {sc:aM}{js:List Nat}(h:chkS c sc js=true):zca X sc (xM X.env.cells sc.names []) js:=by
 unfold chkS at h;simp only [ε,ϡ,beq_iff_eq] at h;obtain ⟨⟨⟨⟨⟨h1,h2⟩,h3⟩,h4⟩,h5⟩,h6⟩:=h;have hc:∀ y∈sc.names,y.2≠.cell:=λy hy=>by simpa using h2 y hy
 have hcell:∀ y∈sc.names,y.2=.free->∃ a,X.env.cells.lookup y.1=some a:=λy hy hf=>by have:=h5 y hy;rw [hf] at this;refine x.cells y.1 ?_;simpa using this
 refine ⟨zaj hcell,hc,h1,λy hy hl=>?_,λy c' q=>(ye sc.names [] hcell (λ_ q=>by cases q)).1 c' q,λy hy=>?_,λj hj y hy=>?_,λj hj=>?_⟩
 ·have:=h3 y hy;rw [hl] at this;simpa using this
 ·rw [yS x] at hy;refine (ye sc.names [] hcell (λ_ q=>by cases q)).2 (.inl ?_);rcases hy with q | q
  ·exact Yd hc q (.inl rfl)
  ·exact Yd hc q (.inr rfl)
 ·have q:=h6 j hj;rw [x.N] at hy;rw [hy] at q;simp only [ε,fG,beq_iff_eq] at q;refine ⟨?_,?_,(ye sc.names [] hcell (λ_ q=>by cases q)).2 (.inl (ϐ q.2)),?_⟩
  ·unfold Vis;rw [x.nm];rcases q.1 with z | z
   ·exact .inr (.inl z)
   ·exact .inr (.inr z)
  ·unfold lH;rw [x.nm];rcases q.1 with z | z <;> rw [z] <;> decide
  ·rw [yS x];exact J9 q.2
 ·have q:=h6 j hj;cases e:c.N[j]? with
  | none=>rw [e] at q;cases q
  | some y=>rw [x.N];exact (χ.mp e).1
theorem Yc {names:List (Str×Ϣ)}:∀ {l:List (Str×Ϣ)},(∀ y∈l,y.2≠.free)->relK names l=l
 | [],_=>rfl
 | (n,k)::l,h=>by
  have hk:(k==Ϭ)=false:=by
   cases q:k==Ϭ with
   | false=>rfl
   | true=>exact absurd (eq_of_beq q) (h (n,k) ξ)
  show (if (k==.free&&names.lookup n==some .cell)=true then (n,.cell) else (n,k))::relK names l=_
  rw [hk,Yc λy hy=>h y (ι _ hy)];rfl
theorem Ji (x:XOk Γ B cf k X c) {sc:aM}{js:List Nat}{xs:List Str}(h:(chkS c sc js||zan sc js)=true) (hn:(xs++js.map (λj=>c.N.getD j "")).Nodup):
  ∃ cl ce ob,W3 X sc cl ce ob xs js/\∀ C s3 H3 fp,XOk Γ B cf k (cxG X sc ce ob xs js C s3 H3 fp) (inner c sc xs js):=by
 have eN:xs++js.map (λj=>X.N.getD j "")=xs++js.map (λj=>c.N.getD j ""):=by rw [x.N]
 rw [fG] at h;rcases h with h | h
 ·have K:=zbQ x h;have nc:sc.names.any (λy=>y.2==.cell)=false:=by rw [p7];intro y hy q;exact K.cell y hy (eq_of_beq q)
  refine ⟨_,_,false,K.g,λC s3 H3 fp=>⟨x.hK,yS x sc,K.kind,eN,by show (xs++js.map (λj=>X.N.getD j "")).Nodup;rw [eN];exact hn,λq=>?_,x.calm,x.room,λy hy=>?_,x.fns,x.bare,x.consts,x.fa,x.cl,x.ca,x.ob,x.lm,x.la,λp z=>nomatch z⟩⟩
  ·have q:sc.names.any (λy=>y.2==.cell)=true:=q;rw [nc] at q;cases q
  ·have hy':(gQ sc X.env).names.lookup y=some .cell\/(gQ sc X.env).names.lookup y=some .free:=by rw [yS x];exact hy
   exact K.has y hy'
 ·unfold zan at h;simp only [ε,ϡ,beq_iff_eq] at h;obtain ⟨⟨⟨⟨h0,h1⟩,h2⟩,h3⟩,h4⟩:=h;cases js with
  | cons _ _=>cases h4
  | nil=>
  have hf:∀ y∈sc.names,y.2≠.free:=λy hy=>by simpa using h3 y hy
  have hh:∀ y,(relK c.names sc.names).lookup y=some .cell\/(relK c.names sc.names).lookup y=some .free->sc.names.lookup y=some .cell:=λy hy=>by rw [Yc hf] at hy;exact hy.resolve_right λz=>hf _ (ϐ z) rfl
  refine ⟨[],_,true,zbN h1 (λy hy e=>?_) hf (λy hy=>hh y (by rw [<- yS x];exact hy)),λC s3 H3 fp=>⟨x.hK,yS x sc,h1,eN,by show (xs++([]:List Nat).map (λj=>X.N.getD j "")).Nodup;rw [eN];exact hn,λ_ _=>rfl,x.calm,x.room,λy hy=>vL (hh y hy),x.fns,x.bare,x.consts,x.fa,x.cl,x.ca,x.ob,x.lm,x.la,λp z=>nomatch z⟩⟩;have:=h2 y hy;rw [e] at this;simpa using this
end
end EV
namespace L2
open PySem PySem.Spec PyProof.Rows
section
variable {X:Cx}{tg:Expr}
theorem zhc {pJ:List (Addr×Obj)}{σ:St}{H:Hp}{s:μ}{R:It->Hp->Prop}{a:Addr}(I:Inv X pJ σ H s) (h:((∃ xs,SqL X.K H a xs)/\R (Itl X.K a) H)\/((∃ xs,SqT X.K H a xs)/\R (Itt X.K a) H)):Λ (Ν X.prog X.w) X.A (mG (.ref a)) (PIE X pJ σ tg R) X.xe s:=by
 have fp:∀ b∈[s.heap.objs.size],FpOk X pJ H b:=λb hb=>by rw [υ.mp hb];exact I.fpOk (Β _) (I.hok.fresh (Β _))
 rcases h with ⟨⟨xs,hq⟩,q⟩ | ⟨⟨xs,hq⟩,q⟩
 ·obtain ⟨its,rv,p,hz⟩:=I.list hq;exact eY p.isList ⟨s.heap.objs.size,[s.heap.objs.size],_,_,H,rfl,I.kept (t':=s.toks) λb o e=>η _ e,Jx a _,⟨_,Θ _ rfl,rfl,rfl⟩,fp,q⟩
 ·obtain ⟨its,rv,p,hz⟩:=I.tuple hq;exact mF (show s.heap.IsTuple a its.toArray from p) ⟨s.heap.objs.size,[s.heap.objs.size],_,_,H,rfl,I.kept (t':=s.toks) λb o e=>η _ e,Uo a _,⟨_,Θ _ rfl,rfl,rfl⟩,fp,q⟩
noncomputable def Its (x:Str):It:=⟨λi _=>i < x.cps.size,λi H v H'=>H'=H/\∃ c,x.cps[i]?=some c/\v=.str ⟨#[c]⟩,λi _=>x.cps.size<=i⟩
theorem Jw {P:Τ}{w:ϓ}{K:W.Frag}{tg:Expr}(x:Str) (t:Tok) (it:Addr):Turn P w K tg (Its x) [it] it (λi h=>h.IsStrIter it "str_ascii_iterator" x t i) where
 mem:=by simp
 obj:=λi h st b hb=>by
  have e:b=it:=by simpa using hb
  subst e;obtain ⟨o,e,c,d⟩:=st;exact ⟨o,e,λv z=>by rw [d] at z;cases z⟩
 keep:=λi h h' st k=>by obtain ⟨o,e,r⟩:=st;exact ⟨o,k it (by simp) o e,r⟩
 item:=by
  intro X hP hw hK hc i pJ s σ H E I hf st hg;subst hP hw hK;obtain ⟨f0,f1,f2,f3,f4,f5⟩:=hf it (by simp);refine (Walks.strAscii (prog:=X.prog) (w:=X.w) (I.ok.hd hc) it x t).item i s _ _ hg st λv h' tk hv st' kk=>?_
  obtain ⟨c,u,h1,rfl⟩:=hv;have I1:Inv X pJ σ H { s with heap:=h',toks:=tk }:=I.turned (λb o hb e=>kk b o (by simpa using hb) e) f0 f1 f3 f4 f5;obtain ⟨o,e,c1,d⟩:=id st';exact ⟨_,rfl,QZ (s:={ s with heap:=h',toks:=tk }) e c1 d (by decide) ⟨.str ⟨#[c]⟩,H,I1,⟨u,rfl⟩,⟨rfl,c,h1,rfl⟩,st',λb hb=>(hf b hb).1⟩⟩
 done:=by intro X hP hw hK hc i pJ s σ H E I hf st hg;subst hP hw hK;obtain ⟨f0,f1,f2,f3,f4,f5⟩:=hf it (by simp);have hg:x.cps.size<=i:=hg;exact wpAny_pyNext_ascii_end (I.ok.hd hc) st (by simp [hg]) λh' eb=>⟨rfl,I.turned (t':=s.toks) (λb o hb e=>eb b o hb e) f0 f1 f3 f4 f5⟩
 self:=λ_ _ _ _ _ st h=>wpAny_pyIter_striter_ascii st h
theorem Jv {P:Τ}{w:ϓ}{K:W.Frag}{tg:Expr}(x:Str) (t:Tok) (it:Addr):Turn P w K tg (Its x) [it] it (λi h=>h.IsStrIter it "str_iterator" x t i) where
 mem:=by simp
 obj:=λi h st b hb=>by
  have e:b=it:=by simpa using hb
  subst e;obtain ⟨o,e,c,d⟩:=st;exact ⟨o,e,λv z=>by rw [d] at z;cases z⟩
 keep:=λi h h' st k=>by obtain ⟨o,e,r⟩:=st;exact ⟨o,k it (by simp) o e,r⟩
 item:=by
  intro X hP hw hK hc i pJ s σ H E I hf st hg;subst hP hw hK;obtain ⟨f0,f1,f2,f3,f4,f5⟩:=hf it (by simp);refine (Walks.strWide (prog:=X.prog) (w:=X.w) (I.ok.hd hc) it x t).item i s _ _ hg st λv h' tk hv st' kk=>?_
  obtain ⟨c,u,h1,rfl⟩:=hv;have I1:Inv X pJ σ H { s with heap:=h',toks:=tk }:=I.turned (λb o hb e=>kk b o (by simpa using hb) e) f0 f1 f3 f4 f5;obtain ⟨o,e,c1,d⟩:=id st';exact ⟨_,rfl,QZ (s:={ s with heap:=h',toks:=tk }) e c1 d (by decide) ⟨.str ⟨#[c]⟩,H,I1,⟨u,rfl⟩,⟨rfl,c,h1,rfl⟩,st',λb hb=>(hf b hb).1⟩⟩
 done:=by intro X hP hw hK hc i pJ s σ H E I hf st hg;subst hP hw hK;obtain ⟨f0,f1,f2,f3,f4,f5⟩:=hf it (by simp);have hg:x.cps.size<=i:=hg;exact wpAny_pyNext_wide_end (I.ok.hd hc) st (by simp [hg]) λh' eb=>⟨rfl,I.turned (t':=s.toks) (λb o hb e=>eb b o hb e) f0 f1 f3 f4 f5⟩
 self:=λ_ _ _ _ _ st h=>wpAny_pyIter_striter_wide st h
theorem zeh {pJ:List (Addr×Obj)}{σ:St}{H:Hp}{s:μ}{R:It->Hp->Prop}{z:Str}{t:Tok}(I:Inv X pJ σ H s) (h:R (Its z) H):Λ (Ν X.prog X.w) X.A (mG (.str z t)) (PIE X pJ σ tg R) X.xe s:=by
 have fp:∀ b∈[s.heap.objs.size],FpOk X pJ H b:=λb hb=>by rw [υ.mp hb];exact I.fpOk (Β _) (I.hok.fresh (Β _))
 cases ha:z.cps.all (· < 128) with
 | false=>exact wpAny_pyIter_wide ha ⟨s.heap.objs.size,[s.heap.objs.size],_,_,H,rfl,I.kept (t':=s.toks) λb o e=>η _ e,Jv z t _,⟨_,Θ _ rfl,rfl,rfl⟩,fp,h⟩
 | true=>exact wpAny_pyIter_ascii ha ⟨s.heap.objs.size,[s.heap.objs.size],_,_,H,rfl,I.kept (t':=s.toks) λb o e=>η _ e,Jw z t _,⟨_,Θ _ rfl,rfl,rfl⟩,fp,h⟩
theorem zgm {l:Expr}{tl:TE}(hl:PE X l tl):PI X tg l (λσ H R=>tl σ H λx H1=>(∃ a,x=.ref a/\(((∃ xs,SqL X.K H1 a xs)/\R (Itl X.K a) H1)\/((∃ xs,SqT X.K H1 a xs)/\R (Itt X.K a) H1)))\/∃ z,x=.str z/\R (Its z) H1):=by
 intro pJ s σ H R I h;refine thn (hl pJ s σ H _ I h) λv s1 ⟨x,H1,I1,r1,q⟩=>?_
 rcases q with ⟨a,e,q⟩ | ⟨z,e,q⟩
 ·subst e;cases r1;exact zhc I1 q
 ·subst e;obtain ⟨t,rfl⟩:=r1;exact zeh I1 q
theorem zbf {a:Expr}{ta:TA}{p pos:Pos}{elts:List Expr}{kk:Nat}{tp:Pos}(hg:Gl X "enumerate") (hm:X.mg "enumerate"=none) (hv:cZ "enumerate"=some (.type "enumerate")) (ha:PA X [a] ta) (hs:ϰ [a] X.env=[(false,eval a X.env)]):
  PI X (.Tuple elts kk tp) (.Call (.Name "enumerate" p) [a] [] pos) (λσ H R=>ta σ H λvs H1=>∃ l,vs=[.ref l]/\(((∃ xs,SqL X.K H1 l xs)/\R (Ite X.K l) H1)\/((∃ xs,SqT X.K H1 l xs)/\R (Itet X.K l) H1))):=by
 intro pJ s σ H R I h;refine Call_ (YG I hg hm hv (eG (thn (ha pos pJ s σ H _ I h) λus s1 ⟨vs,H1,I1,r1,q1⟩=>?_) hs rfl));obtain ⟨l,e,q1⟩:=q1;subst e;obtain ⟨u,rfl,ru⟩:=r1.one;cases (show u=Ι l from ru);have fp:∀ b∈[s1.heap.objs.size+1,s1.heap.objs.size],FpOk X pJ H1 b:=λb hb=>by
  have hb':b=s1.heap.objs.size+1\/b=s1.heap.objs.size:=by simpa using hb
  rcases hb' with rfl | rfl
  ·exact I1.fpOk (by lia) (I1.hok.fresh (by lia))
  ·exact I1.fpOk (Β _) (I1.hok.fresh (Β _))
 rcases q1 with ⟨⟨xs,hq⟩,q⟩ | ⟨⟨xs,hq⟩,q⟩
 ·obtain ⟨its,rv,pl,hz⟩:=I1.list hq;refine call_enumerate_list pl.isList λh' he hit hsz hk=>?_
  have I2:Inv X pJ σ H1 { s1 with heap:=h' }:=I1.kept (t':=s1.toks) hk;exact gP he ⟨_,[s1.heap.objs.size+1,s1.heap.objs.size],_,_,H1,rfl,I2,Jy l _ _ (Nat.succ_ne_self _),⟨⟨_,he⟩,hit⟩,fp,q⟩
 ·obtain ⟨its,rv,pl,hz⟩:=I1.tuple hq;refine vM (show s1.heap.IsTuple l its.toArray from pl) λh' he hit hsz hk=>?_
  have I2:Inv X pJ σ H1 { s1 with heap:=h' }:=I1.kept (t':=s1.toks) hk;exact gP he ⟨_,[s1.heap.objs.size+1,s1.heap.objs.size],_,_,H1,rfl,I2,Ur l _ _ (Nat.succ_ne_self _),⟨⟨_,he⟩,hit⟩,fp,q⟩
end
end L2
namespace EV
open PySem PySem.Spec PyProof.Rows L2
section
variable {Γ:Gm}{Hz:Hp}{ρ:List Slot}
theorem zH {α:Type}{l:List α}{i j:Nat}{a b:α}:(l.set i a)[j]?=some b->(i=j/\i < l.length/\b=a)\/(i≠j/\l[j]?=some b):=by
 intro h;by_cases e:i=j
 ·subst e;by_cases hi:i < l.length
  ·rw [Ϗ hi] at h;cases h;exact .inl ⟨rfl,hi,rfl⟩
  ·rw [n8 (by lia)] at h;rw [bh (by lia)] at h;cases h
 ·rw [Ζ e] at h;exact .inr ⟨e,h⟩
theorem EnvO.zc9 {H:Hp}{g:G}{σ:L2.St}{i:Nat}{d:D}{v:V}(env:EnvO Γ Hz H g ρ σ) (h:Has Γ g d v):EnvO Γ Hz H g (ρ.set i (.sh d)) (σ.set i (some v)):=by
 have hl:=env.len;refine ⟨by simp [hl],λj e q=>?_,λj e q=>?_,λj j' e e' a q1 q2 q3 q4=>?_⟩
 ·rcases zH q with ⟨rfl,h1,h2⟩ | ⟨h1,h2⟩
  ·cases h2;exact ⟨v,Ϗ (by lia),h⟩
  ·obtain ⟨u,e1,e2⟩:=env.sh j e h2;exact ⟨u,by rw [Ζ h1];exact e1,e2⟩
 ·rcases zH q with ⟨rfl,h1,h2⟩ | ⟨h1,h2⟩
  ·cases h2
  ·obtain ⟨a,e1,e2⟩:=env.ow j e h2;exact ⟨a,by rw [Ζ h1];exact e1,e2⟩
 ·rcases zH q1 with ⟨rfl,h1,h2⟩ | ⟨h1,h2⟩
  ·cases h2
  ·rcases zH q2 with ⟨rfl,h3,h4⟩ | ⟨h3,h4⟩
   ·cases h4
   ·rw [Ζ h1] at q3;rw [Ζ h3] at q4;exact env.inj j j' e e' a h2 h4 q3 q4
theorem EnvO.zin {H:Hp}{g:G}{σ:L2.St}{i:Nat}{d:D}{a:Addr}(env:EnvO Γ Hz H g ρ σ) (h0:Hz a=none) (hr:g.R a=none) (ha:a ∉ g.α) (hc:zP Γ H g a d) (hi:Wx d=false)
  (ne:∀ (j:Nat) (d':D),ρ[j]?=some (.ow d')->j≠i->σ[j]?≠some (some (.ref a))):EnvO Γ Hz H g (ρ.set i (.ow d)) (σ.set i (some (.ref a))):=by
 have hl:=env.len;refine ⟨by simp [hl],λj e q=>?_,λj e q=>?_,λj j' e e' b q1 q2 q3 q4=>?_⟩
 ·rcases zH q with ⟨rfl,h1,h2⟩ | ⟨h1,h2⟩
  ·cases h2
  ·obtain ⟨u,e1,e2⟩:=env.sh j e h2;exact ⟨u,by rw [Ζ h1];exact e1,e2⟩
 ·rcases zH q with ⟨rfl,h1,h2⟩ | ⟨h1,h2⟩
  ·cases h2;exact ⟨a,Ϗ (by lia),h0,hr,ha,hc,hi⟩
  ·obtain ⟨b,e1,e2⟩:=env.ow j e h2;exact ⟨b,by rw [Ζ h1];exact e1,e2⟩
 ·rcases zH q1 with ⟨rfl,h1,h2⟩ | ⟨h1,h2⟩
  ·rcases zH q2 with ⟨rfl,h3,h4⟩ | ⟨h3,h4⟩
   ·rfl
   ·rw [Ϗ (by lia)] at q3;cases q3;rw [Ζ h3] at q4;exact absurd q4 (ne j' e' h4 (bT h3))
  ·rcases zH q2 with ⟨rfl,h3,h4⟩ | ⟨h3,h4⟩
   ·rw [Ϗ (by lia)] at q4;cases q4;rw [Ζ h1] at q3;exact absurd q3 (ne j e h2 (bT h1))
   ·rw [Ζ h1] at q3;rw [Ζ h3] at q4;exact env.inj j j' e e' b h2 h4 q3 q4
theorem jD {Q:L2.St->Hp->Prop}{H:Hp}{g:G}:∀ {is:List Nat}{ds:List D}{vs:List V}{ρ:List Slot}{σ:L2.St},is.length=ds.length->Hass Γ g ds vs->EnvO Γ Hz H g ρ σ ->
  (∀ σ',EnvO Γ Hz H g ((is.zip ds).foldl (λr p=>r.set p.1 (.sh p.2)) ρ) σ'->Q σ' H)->YZ is vs σ H Q
 | [],[],vs,ρ,σ,_,h,env,q=>by cases (show vs=[] from h);exact ⟨rfl,q σ env⟩
 | i::is,d::ds,vs,ρ,σ,hl,⟨v,r,e,hd,hr⟩,env,q=>by subst e;exact ⟨v,r,rfl,jD (by simpa using hl) hr (env.zc9 hd) q⟩
 | [],_::_,_,_,_,hl,_,_,_=>by simp at hl
 | _::_,[],_,_,_,hl,_,_,_=>by simp at hl
set_option tactic.hygienic true in
theorem qT {K:W.Frag}{t:T}{ρ':List Slot}{H:Hp}{g:G}{σ:L2.St}{d:D}{fr:Bool}{v:V}{Q:L2.St->Hp->Prop}(hb:yK ρ t (d,fr)=some ρ') (env:EnvO Γ Hz H g ρ σ) (sr:Same g.R H) (vo:VOk Γ Hz d fr v H g)
  (ne:fr=true->∀ (i:Nat) (d:D),ρ[i]?=some (.ow d)->σ[i]?≠some (some v)) (q:∀ σ',EnvO Γ Hz H g ρ' σ'->Q σ' H):tgOf K t v σ H Q:=by
 cases t with
 | one i=>
  simp only [yK] at hb;split at hb
  ·rename_i hc
   rw [ε] at hc;have hi:Wx d=false:=by simpa using hc.2
   cases hb;refine q _ ?_;cases fr with
   | false=>exact env.zc9 vo
   | true=>
    obtain ⟨a,e,h0,hr,ha,hcell⟩:=(show ∃ a,v=.ref a/\Hz a=none/\g.R a=none/\a ∉ g.α/\zP Γ H g a d from vo)
    subst e;exact env.zin h0 hr ha hcell hi λj d' h _=>ne rfl j d' h
  ·cases hb
 | tup is=>
  cases d with
  | tup ds=>
   simp only [yK] at hb;split at hb
   ·rename_i hc
    cases hb;have hv:Has Γ g (.tup ds) v:=by
     cases fr with
     | false=>exact vo
     | true=>obtain ⟨_,_,_,_,_,hc⟩:=(show ∃ a,v=.ref a/\Hz a=none/\g.R a=none/\a ∉ g.α/\zP Γ H g a (.tup ds) from vo);exact hc.elim
    obtain ⟨a,vs,rfl,h1,h2⟩:=hv;exact ⟨a,vs,rfl,SqT.of (sr _ _ h1),by rw [h2.len,hc.1],jD hc.1 h2 env q⟩
   ·cases hb
  | _=>simp [yK] at hb
 | nst i is=>
  have hb:((nst2 d).bind λp=>if i < ρ.length/\is.length=p.2.length/\is.Nodup/\is.all (· < ρ.length) then some ((is.zip p.2).foldl (λr p=>r.set p.1 (.sh p.2)) (ρ.set i (.sh p.1))) else none)=some ρ':=by cases d <;> exact hb
  cases e:nst2 d with
  | none=>rw [e] at hb;cases hb
  | some p=>
   rw [e] at hb;obtain ⟨y,ds⟩:=p;have ed:=zdV e;subst ed;have hb:(if i < ρ.length/\is.length=ds.length/\is.Nodup/\is.all (· < ρ.length) then some ((is.zip ds).foldl (λr p=>r.set p.1 (.sh p.2)) (ρ.set i (.sh y))) else none)=some ρ':=hb;by_cases hc:i < ρ.length/\is.length=ds.length/\is.Nodup/\is.all (· < ρ.length)
   ·rw [if_pos hc] at hb;cases hb;have hv:Has Γ g (.tup [y,.tup ds]) v:=by
     cases fr with
     | false=>exact vo
     | true=>obtain ⟨_,_,_,_,_,hc⟩:=(show ∃ a,v=.ref a/\Hz a=none/\g.R a=none/\a ∉ g.α/\zP Γ H g a (.tup [y,.tup ds]) from vo);exact hc.elim
    obtain ⟨a,vs,rfl,h1,h2⟩:=hv;obtain ⟨u,u2,rfl,h3,h4⟩:=h2.two;obtain ⟨b,ws,rfl,h5,h6⟩:=h4;exact ⟨a,_,rfl,SqT.of (sr _ _ h1),rfl,u,_,rfl,.ref b,[],rfl,b,ws,rfl,SqT.of (sr _ _ h5),by rw [h6.len,hc.2.1],jD hc.2.1 h6 (env.zc9 h3) λσ' env'=>⟨rfl,q σ' env'⟩⟩
   ·rw [if_neg hc] at hb;cases hb
end
structure ItOk (Γ:Gm) (J:It) (l:List D) (g:G):Prop where
 go:∀ (i:Nat) (H:Hp) (g':G),Le g g'->Same g'.R H->i < l.length->J.go i H
 stop:∀ (i:Nat) (H:Hp) (g':G),Le g g'->Same g'.R H->l.length<=i->J.stop i H
 yld:∀ (i:Nat) (H:Hp) (g':G) (S:Store) (z:V) (H':Hp) (d:D),Le g g'->WOk Γ H g' S->l[i]?=some d->J.yld i H z H'->∃ g2,Step H g' H' g2/\Same H H'/\WOk Γ H' g2 S/\Has Γ g2 d z
theorem vJ:∀ (n:Nat) (l:List D),(vK n l).length=l.length
 | _,[]=>rfl
 | n,d::l=>by show (vK (n+1) l).length+1=_;rw [vJ];rfl
theorem V8:∀ (n:Nat) (l:List D) (i:Nat) (d:D),(vK n l)[i]?=some d->∃ d0,l[i]?=some d0/\d=.tup [.int ((n+i:Nat):Int),d0]
 | _,[],i,d,h=>by simp [vK] at h
 | n,x::l,0,d,h=>by have h:some (D.tup [.int n,x])=some d:=h;cases h;exact ⟨x,rfl,rfl⟩
 | n,x::l,i+1,d,h=>by
  have h:(vK (n+1) l)[i]?=some d:=by simpa [vK] using h
  obtain ⟨d0,e1,e2⟩:=V8 (n+1) l i d h;refine ⟨d0,by simpa using e1,?_⟩;rw [e2,show n+1+i=n+(i+1) by lia]
def TXi (Γ:Gm) (cf:Cf) (e:E):TI:=λσ H Q=>∃ ρ S W g Hz,wpI cf ρ e W S/\WOk Γ H g S/\EnvO Γ Hz H g ρ σ/\∀ l J H' g' S',Step H g H' g'->WOk Γ H' g' S'->ItOk Γ J l g'->W l S'->Q J H'
def TXf (Γ:Gm) (cf:Cf) (es:List E):TT:=λσ H Q=>∃ ρ S W g Hz,wpF cf ρ es W S/\WOk Γ H g S/\EnvO Γ Hz H g ρ σ/\∀ b H' g' S',Step H g H' g'->WOk Γ H' g' S'->W b S'->Q b H'
theorem goI {Γ:Gm}{cf:Cf}{σ:L2.St}{H:Hp}{P:Prop}{e:E}{Q} (h:TXi Γ cf e σ H Q) (f:∀ ρ S W g Hz,wpI cf ρ e W S->WOk Γ H g S->EnvO Γ Hz H g ρ σ->(∀ l J H' g' S',Step H g H' g'->WOk Γ H' g' S'->ItOk Γ J l g'->W l S'->Q J H')->P):P:=
 let ⟨ρ,S,V,g,Hz,a,b,c,d⟩:=h;f ρ S V g Hz a b c d
theorem goF {Γ:Gm}{cf:Cf}{σ:L2.St}{H:Hp}{P:Prop}{es:List E}{Q} (h:TXf Γ cf es σ H Q) (f:∀ ρ S W g Hz,wpF cf ρ es W S->WOk Γ H g S->EnvO Γ Hz H g ρ σ->(∀ b H' g' S',Step H g H' g'->WOk Γ H' g' S'->W b S'->Q b H')->P):P:=
 let ⟨ρ,S,V,g,Hz,a,b,c,d⟩:=h;f ρ S V g Hz a b c d
section
variable {X:Cx}{Γ:Gm}{S:Store}{x y z tgt:Expr}{pos p tp:Pos}{cf:Cf}{a b:E}{elts:List Expr}{kk:Nat}
theorem PI.imp {wi wi':TI}(h:PI X tgt x wi) (i:∀ σ H Q,wi' σ H Q->wi σ H Q):PI X tgt x wi':=λpJ s σ H Q I q=>h pJ s σ H Q I (i σ H Q q)
theorem zcB {a:Addr}{vs:List V}{l:List D}{g:G}(h:∀ g',Le g g'->∀ H,Same g'.R H->SqL X.K H a vs) (hh:Hass Γ g l vs):ItOk Γ (Itl X.K a) l g where
 go:=λi H g' le sr hi=>⟨vs,vs[i]'(by rw [hh.len];exact hi),h g' le H sr,by simp [hh.len,hi]⟩
 stop:=λi H g' le sr hi=>⟨vs,h g' le H sr,by rw [hh.len];exact hi⟩
 yld:=λi H g' S z H' d le w hd y=>by obtain ⟨e,y⟩:=y;subst e;obtain ⟨v,hv,hd'⟩:=hh.get hd;have e2:=y vs (h g' le _ w.rh);rw [hv] at e2;cases e2;exact ⟨g',Step.refl _ _,Same.refl _,w,hd'.mono le⟩
theorem zcA {a:Addr}{vs:List V}{l:List D}{g:G}(h:∀ g',Le g g'->∀ H,Same g'.R H->SqT X.K H a vs) (hh:Hass Γ g l vs):ItOk Γ (Itt X.K a) l g where
 go:=λi H g' le sr hi=>⟨vs,vs[i]'(by rw [hh.len];exact hi),h g' le H sr,by simp [hh.len,hi]⟩
 stop:=λi H g' le sr hi=>⟨vs,h g' le H sr,by rw [hh.len];exact hi⟩
 yld:=λi H g' S z H' d le w hd y=>by obtain ⟨e,y⟩:=y;subst e;obtain ⟨v,hv,hd'⟩:=hh.get hd;have e2:=y vs (h g' le _ w.rh);rw [hv] at e2;cases e2;exact ⟨g',Step.refl _ _,Same.refl _,w,hd'.mono le⟩
theorem zhb {z:Str}{g:G}:ItOk Γ (Its z) (z.cps.toList.map λc=>D.str ⟨#[c]⟩) g where
 go:=λi H g' le sr hi=>by
  show i < z.cps.size
  simpa using hi
 stop:=λi H g' le sr hi=>by
  show z.cps.size<=i
  simpa using hi
 yld:=λi H g' S v H' d le w hd y=>by obtain ⟨e,c,e1,e2⟩:=y;subst e e2;refine ⟨g',Step.refl _ _,Same.refl _,w,?_⟩;rw [Ρ,cU,e1] at hd;cases hd;rfl
theorem zhd {lo:Int}{n:Nat}{g:G}:ItOk Γ (Itr lo n) ((ό n).map λ(k:Nat)=>D.int (lo+(k:Int))) g where
 go:=λi H g' le sr hi=>by
  show i < n
  simpa using hi
 stop:=λi H g' le sr hi=>by
  show n<=i
  simpa using hi
 yld:=λi H g' S z H' d le w hd y=>by
  obtain ⟨e,y⟩:=y;subst e y;refine ⟨g',Step.refl _ _,Same.refl _,w,?_⟩;rw [Ρ] at hd;cases q:(ό n)[i]? with
  | none=>rw [q] at hd;cases hd
  | some j=>
   rw [q] at hd;cases hd;have:=(χ.mp q).2;simp at this;subst this;rfl
theorem W4 {l:List D}{vs:List V}{g g':G}{H:Hp}{i:Nat}{d:D}{a:Addr}{y:V}(hh:Hass Γ g l vs) (le:Le g g') (w:WOk Γ H g' S) (hd:(vK 0 l)[i]?=some d) (ha:H a=none) (hy:vs[i]?=some y):
  ∃ g2,Step H g' (upd H a (.tup [.int i,y])) g2/\Same H (upd H a (.tup [.int i,y]))/\WOk Γ (upd H a (.tup [.int i,y])) g2 S/\Has Γ g2 d (.ref a):=by obtain ⟨d0,e1,e2⟩:=V8 0 l i d hd;obtain ⟨v,hv,hd'⟩:=hh.get e1;rw [hy] at hv;cases hv;have hr:=w.notR ha;refine ⟨g'.put a (.tup [.int i,y]),(Step.of_same (yp ha) (Le.refl g') (λ_ h=>.inl h) λ_ h=>.inl h).put hr ha,yp ha,(w.laid ha).put zr hr (w.notA ha),?_⟩;rw [e2,show 0+i=i by lia];exact ⟨a,[.int i,y],rfl,zr,.int i,[y],rfl,rfl,y,[],rfl,(hd'.mono le).mono (Le.put hr),rfl⟩
theorem zhf {a:Addr}{vs:List V}{l:List D}{g:G}(h:∀ g',Le g g'->∀ H,Same g'.R H->SqL X.K H a vs) (hh:Hass Γ g l vs):ItOk Γ (Ite X.K a) (vK 0 l) g where
 go:=λi H g' le sr hi=>by rw [vJ] at hi;exact ⟨vs,vs[i]'(by rw [hh.len];exact hi),h g' le H sr,by simp [hh.len,hi]⟩
 stop:=λi H g' le sr hi=>by rw [vJ] at hi;exact ⟨vs,h g' le H sr,by rw [hh.len];exact hi⟩
 yld:=λi H g' S z H' d le w hd yy=>by obtain ⟨p,y,hp,rfl,rfl,hy⟩:=yy;exact W4 hh le w hd hp (hy vs (h g' le _ w.rh))
theorem zhe {a:Addr}{vs:List V}{l:List D}{g:G}(h:∀ g',Le g g'->∀ H,Same g'.R H->SqT X.K H a vs) (hh:Hass Γ g l vs):ItOk Γ (Itet X.K a) (vK 0 l) g where
 go:=λi H g' le sr hi=>by rw [vJ] at hi;exact ⟨vs,vs[i]'(by rw [hh.len];exact hi),h g' le H sr,by simp [hh.len,hi]⟩
 stop:=λi H g' le sr hi=>by rw [vJ] at hi;exact ⟨vs,h g' le H sr,by rw [hh.len];exact hi⟩
 yld:=λi H g' S z H' d le w hd yy=>by obtain ⟨p,y,hp,rfl,rfl,hy⟩:=yy;exact W4 hh le w hd hp (hy vs (h g' le _ w.rh))
theorem ziA (hK:X.K=Γ.K) (h:PE X x (TX Γ cf a)):PI X tgt x (TXi Γ cf (.seq a)):=
 PI.imp (zgm h) λσ H Q h0=>goI h0 λρ S W g Hz hw w env k=>⟨ρ,S,_,g,Hz,hw,w,env,λx v H1 g1 S1 st w1 vx h=>by
  obtain ⟨g2,st2,w2,hx,q⟩:=vx.keep st w1 h;obtain ⟨l,el,q⟩:=zQ q;generalize x.1=d at *;cases d with
  | lst l'=>
   cases el;obtain ⟨a,vs,e1,h1,h2⟩:=hx;exact .inl ⟨a,e1,.inl ⟨⟨vs,SqL.of (w2.rh _ _ h1)⟩,k _ _ H1 g2 S1 st2 w2 (zcB (λg3 le H2 sr=>SqL.of (sr _ _ (le.rr _ _ h1))) h2) q⟩⟩
  | tup l'=>
   cases el;obtain ⟨a,vs,e1,h1,h2⟩:=hx;exact .inl ⟨a,e1,.inr ⟨⟨vs,SqT.of (w2.rh _ _ h1)⟩,k _ _ H1 g2 S1 st2 w2 (zcA (λg3 le H2 sr=>SqT.of (sr _ _ (le.rr _ _ h1))) h2) q⟩⟩
  | scr ns=>
   cases el;obtain ⟨a,e1,h1⟩:=hx;exact .inl ⟨a,e1,.inl ⟨⟨_,by rw [hK];exact w2.rh.seq h1⟩,k _ _ H1 g2 S1 st2 w2 (zcB (λg3 le H2 sr=>by rw [hK];exact sr.seq (le.rr.seq h1)) Hass.ints) q⟩⟩
  | str z=>
   cases el;exact .inr ⟨z,hx,k _ _ H1 g2 S1 st2 w2 zhb q⟩
  | ktp l'=>
   cases el;obtain ⟨a,vs,e1,h1,h2⟩:=hx;exact .inl ⟨a,e1,.inr ⟨⟨vs,by rw [hK];exact .inr h1⟩,k _ _ H1 g2 S1 st2 w2 (zcA (λg3 le H2 sr=>by rw [hK];exact .inr h1) h2) q⟩⟩
  | _=>cases el⟩
theorem zfX (hK:X.K=Γ.K) (hg:Gl X "enumerate") (hm:X.mg "enumerate"=none) (hs:notStar x=true) (h:PE X x (TX Γ cf a)):PI X (.Tuple elts kk tp) (.Call (.Name "enumerate" p) [x] [] pos) (TXi Γ cf (.enum a)):=
 PI.imp (zbf hg hm rfl (yl h xH (zj hs _ _)) (zj hs _ _)) λσ H Q h0=>goI h0 λρ S W g Hz hw w env k=>⟨ρ,S,_,g,Hz,hw,w,env,λx v H1 g1 S1 st w1 vx h=>by
  obtain ⟨g2,st2,w2,hx,q⟩:=vx.keep st w1 h;obtain ⟨l,el,q⟩:=zQ q;generalize x.1=d at *;cases d with
  | lst l'=>
   cases el;obtain ⟨a,vs,e1,h1,h2⟩:=hx;exact ⟨a,by rw [e1],.inl ⟨⟨vs,SqL.of (w2.rh _ _ h1)⟩,k _ _ H1 g2 S1 st2 w2 (zhf (λg3 le H2 sr=>SqL.of (sr _ _ (le.rr _ _ h1))) h2) q⟩⟩
  | tup l'=>
   cases el;obtain ⟨a,vs,e1,h1,h2⟩:=hx;exact ⟨a,by rw [e1],.inr ⟨⟨vs,SqT.of (w2.rh _ _ h1)⟩,k _ _ H1 g2 S1 st2 w2 (zhe (λg3 le H2 sr=>SqT.of (sr _ _ (le.rr _ _ h1))) h2) q⟩⟩
  | _=>cases el⟩
theorem zfN (hg:Gl X "range") (hm:X.mg "range"=none) (hs:notStar x=true) (h:PE X x (TX Γ cf a)):PI X tgt (.Call (.Name "range" p) [x] [] pos) (TXi Γ cf (.rng none a)):=
 PI.imp (Kq hg hm (yl h xH (zj hs _ _)) (zj hs _ _)) λσ H Q h0=>goI h0 λρ S W g Hz hw w env k=>⟨ρ,S,_,g,Hz,hw,w,env,λx v H1 g1 S1 st w1 vx h=>by
  obtain ⟨j,e,q⟩:=vx.int h;obtain ⟨hf,q⟩:=wz q;rw [ε] at hf;have h1:j.toNat<=1000000:=of_decide_eq_true hf.1;have h2:-1000000<=j:=of_decide_eq_true hf.2;refine ⟨j,by rw [e],by lia,by lia,k _ _ H1 g1 S1 st w1 ?_ q⟩;have:=zhd (Γ:=Γ) (lo:=0) (n:=(j - 0).toNat) (g:=g1);rw [show (j - 0).toNat=j.toNat by lia] at this;rw [show zZ 0 j=(ό j.toNat).map λ(k:Nat)=>D.int (0+(k:Int)) by unfold zZ;rw [show (j - 0).toNat=j.toNat by lia]]
  exact this⟩
theorem s_fn:PTs X [] (TXf Γ cf []):=λpJ s σ H Q I h0=>goF h0 λρ S W g Hz hw w env k=>zdv pJ s σ H Q I (k true H g S (Step.refl H g) w hw)
theorem s_f1 (h:PT X x (TB Γ cf a)):PTs X [x] (TXf Γ cf [a]):=λpJ s σ H Q I h0=>goF h0 λρ S W g Hz hw w env k=>zdu h pJ s σ H Q I ⟨ρ,S,_,g,Hz,hw,w,env,λx H1 g1 S1 st w1 h=>by
 obtain ⟨b,e,q⟩:=vI h;rw [e]
 exact k b H1 g1 S1 st w1 q⟩
end
theorem V4 {α β:Type}{f:α->β}:∀ (l:List (Nat×α)) (r:List β) (i:Nat),(∀ p∈l,p.1≠i)->(l.foldl (λr p=>r.set p.1 (f p.2)) r)[i]?=r[i]?
 | [],_,_,_=>rfl
 | p::l,r,i,h=>by rw [ik,V4 l _ i λq hq=>h q (ι _ hq),Ζ (h p ξ)]
theorem V3 {α β:Type}{f:α->β}:∀ (l:List (Nat×α)) (r:List β),(l.foldl (λr p=>r.set p.1 (f p.2)) r).length=r.length
 | [],_=>rfl
 | p::l,r=>by rw [ik,V3 l,ϥ]
theorem Jc {ρ ρ':List Slot}{t:T}{d:D}(hn:Zn t=false) (h:yK ρ t (d,false)=some ρ'):ρ'.length=ρ.length/\∀ i,i ∉ tIs t->ρ'[i]?=ρ[i]?:=by
 cases t with
 | one j=>
  simp only [yK] at h;split at h
  ·cases h;exact ⟨by simp,λi hi=>by rw [Ζ];rintro rfl;exact hi (by simp [tIs])⟩
  ·cases h
 | tup is=>
  cases d with
  | tup ds=>
   simp only [yK] at h;split at h
   ·cases h;refine ⟨V3 _ _,λi hi=>V4 _ _ i λp hp=>?_⟩;rintro rfl;obtain ⟨p1,p2⟩:=p;exact hi (dO hp).1
   ·cases h
  | _=>simp [yK] at h
 | nst _ _=>cases hn
theorem jB {ρ:List Slot}{t:T}{js:List Nat}{i:Nat}{s:Slot}(h:(inn ρ t js)[i]?=some s):s=.no\/(nT t<=i/\∃ j,js[i - nT t]?=some j/\ρ[j]?=some s):=by
 unfold inn at h;by_cases hi:i < nT t
 ·rw [ϖ (by simpa using hi),bF,if_pos hi] at h;cases h;exact .inl rfl
 ·rw [Ϙ (by simpa using mL hi),eQ,Ρ] at h;cases e:js[i - nT t]? with
  | none=>rw [e] at h;cases h
  | some j=>
   rw [e] at h;cases q:ρ[j]? with
   | none=>simp [q] at h;exact .inl h.symm
   | some z=>simp [q] at h;subst h;exact .inr ⟨by lia,j,rfl,q⟩
theorem uM {σ:L2.St}{js:List Nat}{n i j:Nat}{v:V}(hi:n<=i) (hj:js[i - n]?=some j) (h:σ[j]?=some (some v)):(Α n none++rows σ js)[i]?=some (some v):=by rw [Ϙ (by simpa using hi),eQ];unfold rows;rw [Ρ,hj];simp [aW,h]
section
variable {Γ:Gm}{Hz H:Hp}{g:G}{ρ:List Slot}{σ τ:L2.St}{t:T}{js:List Nat}
theorem zet (env:EnvO Γ Hz H g ρ σ) (hj:js.Nodup):EnvO Γ Hz H g (inn ρ t js) (Α (nT t) none++rows σ js):=by
 refine ⟨by simp [inn,rows],λi d e=>?_,λi d e=>?_,λi j d e a h1 h2 h3 h4=>?_⟩
 ·rcases jB e with q | ⟨hi,j,e1,e2⟩
  ·cases q
  ·obtain ⟨v,h1,h2⟩:=env.sh j d e2;exact ⟨v,uM hi e1 h1,h2⟩
 ·rcases jB e with q | ⟨hi,j,e1,e2⟩
  ·cases q
  ·obtain ⟨a,h1,h2⟩:=env.ow j d e2;exact ⟨a,uM hi e1 h1,h2⟩
 ·rcases jB h1 with q | ⟨hi,k,e1,e2⟩
  ·cases q
  rcases jB h2 with q | ⟨hi',k',e1',e2'⟩
  ·cases q
  obtain ⟨b,q1,_⟩:=env.ow k d e2;obtain ⟨b',q1',_⟩:=env.ow k' e e2';have z:=uM hi e1 q1;have z':=uM hi' e1' q1';rw [h3] at z;rw [h4] at z';cases z;cases z';have hk:=env.inj k k' d e a e2 e2' q1 q1';subst hk;have:=(pZ (χ.mp e1).1 hj).mp (e1.trans e1'.symm);lia
theorem V7 {ρ':List Slot}{d:D}(hn:Zn t=false) (hix:∀ i∈tIs t,i < nT t) (hs:yK (inn ρ t js) t (d,false)=some ρ') (env:EnvO Γ Hz H g ρ' τ):EnvO Γ Hz H g (inn ρ t js) τ:=by
 obtain ⟨h1,h2⟩:=Jc hn hs;have key:∀ i s,(inn ρ t js)[i]?=some s->s≠Slot.no->ρ'[i]?=some s:=λi s e ne=>by
  rw [h2 i λm=>?_]
  ·exact e
  ·rcases jB e with q | ⟨hi,_⟩
   ·exact ne q
   ·have:=hix i m;lia
 exact ⟨h1.symm.trans env.len,λi d e=>env.sh i d (key i _ e (by simp)),λi d e=>env.ow i d (key i _ e (by simp)),λi j d e a q1 q2 q3 q4=>env.inj i j d e a (key i _ q1 (by simp)) (key j _ q2 (by simp)) q3 q4⟩
end
section
variable {X:Cx}{Γ:Gm}{cf:Cf}{t:T}{js:List Nat}{it elt:E}{ifs:List E}
def Xk (cf:Cf) (ρ:List Slot) (t:T) (js:List Nat) (ifs:List E) (elt:E):D->(Option D->Store->Prop)->Store->Prop:=λd K S=>opt (yK (inn ρ t js) t (d,false)) λρ'=>wpF cf ρ' ifs (λb S1=>tst b (wpE cf ρ' elt (λx S2=>keep x λd=>K (some d) S2) S1) (K none S1)) S
theorem zbO {n:Nat}{Qe:Addr->Hp->Prop}{σ:L2.St}{H:Hp}{V:Po}{ρ:List Slot}{S:Store}{g:G}{Hz:Hp}(hn:Zn t=false) (hix:∀ i∈tIs t,i < nT t) (ht:nT t=n) (hjs:js.Nodup) (hw:wpE cf ρ (.comp t js it ifs elt) V S) (w:WOk Γ H g S) (env:EnvO Γ Hz H g ρ σ)
  (k:∀ ds Da H' g' S',Step H g H' g'->WOk Γ H' g' S'->VN Γ H (.lst ds,.fr) (.ref Da) H' g'->V (.lst ds,.fr) S'->Qe Da H'):j9 n js (TXi Γ cf it) (tgOf X.K t) (TXf Γ cf ifs) (TX Γ cf elt) Qe σ H:=by
 subst ht;refine ⟨ρ,S,_,g,Hz,hw,w,env,λl J H1 g1 S1 st1 w1 hJ h1 Da hDa=>?_⟩;have h1:xj (Xk cf ρ t js ifs elt) l [] (λds S2=>V (.lst ds,.fr) S2) S1:=h1;refine ⟨λi m ys τ H2=>m=l.length - i/\i<=l.length/\∃ g2 S2 acc,Step H1 g1 H2 g2/\WOk Γ H2 g2 S2/\EnvO Γ (upd Hz Da (.lst [])) H2 g2 (inn ρ t js) τ/\H2 Da=some (.lst ys)/\g2.R Da=none/\Da ∉ g2.α/\Hass Γ g2 acc ys/\fits acc.length=true/\xj (Xk cf ρ t js ifs elt) (l.drop i) acc (λds S2=>V (.lst ds,.fr) S2) S2,⟨_,rfl,ϴ _,g1,S1,[],?_⟩,?_⟩
 ·have st:=(Step.refl H1 g1).zV (o:=.lst []) hDa;have e1:=zu (zet (t:=t) env hjs) st1;refine ⟨st,w1.laid hDa,zu ⟨e1.len,e1.sh,λi d e=>?_,e1.inj⟩ st,zr,w1.notR hDa,w1.notA hDa,rfl,rfl,h1⟩;obtain ⟨b,f1,f2,f3,f4,f5,f6⟩:=e1.ow i d e;obtain ⟨o,ho,_⟩:=f5.U9;exact ⟨b,f1,by rw [zc (zq ho hDa)];exact f2,f3,f4,f5,f6⟩
 ·rintro i m ys τ H2 ⟨rfl,hi,g2,S2,acc,st2,w2,env2,hD2,hR2,hA2,hh2,hf2,hr2⟩;by_cases hlt:i < l.length
  ·refine .inr ⟨hJ.go i H2 g2 st2.le w2.rh hlt,λz H3 hy=>?_⟩;obtain ⟨g3,st3,_,w3,hz⟩:=hJ.yld i H2 g2 S2 z H3 l[i] st2.le w2 (π hlt) hy;rw [dH hlt] at hr2;obtain ⟨hD3,hR3,hA3⟩:=st3.kept hD2 hR2 hA2;obtain ⟨ρ',es,hr3⟩:=zQ (show opt (yK (inn ρ t js) t (l[i],false)) _ from hr2);refine qT es (zu env2 st3) w3.rh (fr:=false) hz (λh=>by cases h) λτ3 env3=>⟨ρ',S2,_,g3,_,hr3,w3,env3,λb H4 g4 S4 st4 w4 h4=>?_⟩
   obtain ⟨hD4,hR4,hA4⟩:=st4.kept hD3 hR3 hA3;cases b with
   | false=>
    rw [if_neg Μ];exact ⟨l.length - (i+1),by omega,rfl,hlt,g4,S4,acc,(st2.trans st3).trans st4,w4,V7 hn hix es (zu env3 st4),hD4,hR4,hA4,hh2.mono (st3.le.trans st4.le),hf2,h4⟩
   | true=>
    rw [if_pos rfl];refine ⟨ρ',S4,_,g4,_,h4,w4,zu env3 st4,λx v H5 g5 S5 st5 w5 vx h5=>?_⟩;obtain ⟨g6,st6,w6,hx,q⟩:=vx.keep st5 w5 h5;obtain ⟨hf,q⟩:=wz q;obtain ⟨hD5,hR5,hA5⟩:=st6.kept hD4 hR4 hA4;have st7:=(((st2.trans st3).trans st4).trans st6).zV (o:=.lst (ys++[v])) hDa;have env6:=V7 hn hix es (zu (zu env3 st4) st6);refine ⟨hD5,by rw [hh2.len];exact zcx hf2,l.length - (i+1),by omega,rfl,hlt,g6,S5,acc++[x.1],st7,w6.zV hR5 hA5,?_,zr,hR5,hA5,(hh2.mono ((st3.le.trans st4.le).trans st6.le)).app (Hass.mk1 hx),by rw [Ξ];exact hf,q⟩;refine ⟨env6.len,env6.sh,λi d e=>?_,env6.inj⟩;obtain ⟨b,f1,f2,f3,f4,f5,f6⟩:=env6.ow i d e;have hb:b≠Da:=by rintro rfl;rw [zr] at f2;cases f2
    exact ⟨b,f1,f2,f3,f4,f5.mono (Le.refl g6) λo z=>by rw [zc hb];exact z,f6⟩
  ·have e:i=l.length:=by omega
   subst e;refine .inl ⟨hJ.stop _ H2 g2 st2.le w2.rh (Β _),?_⟩;rw [List.drop_length] at hr2;exact k acc Da H2 g2 S2 (st1.trans st2) w2 ⟨Da,rfl,st1.Vs hDa,hR2,hA2,ys,hD2,hh2⟩ hr2
end
section
variable {X:Cx}{Γ:Gm}{x y:Expr}{pos p tp:Pos}{cf:Cf}{a b:E}{elts:List Expr}{kk:Nat}
end
end EV
namespace L2
open PySem PyProof PyProof.Rows PySem.W
variable {X:Cx}{x st:Expr}{te ts:TE}{p2 pos:Pos}
end L2
namespace EV
open PySem PySem.Spec PyProof.Rows L2
def spN (Γ:Gm) (cx:Xp->Cf) (f n:Nat):Sp:=λvs H Q E=>vs.length=n/\∃ g ds S V ex,WOk Γ H g S/\Hass Γ g ds vs/\cx ex f ds V S/\(∀ x v H' g' S',Step H g H' g'->WOk Γ H' g' S'->VN Γ H x v H' g'->V x S'->Q v H')/\∀ c e C H' g' S',Step H g H' g'->WOk Γ H' g' S'->Γ.ca c=some C->ex c S'->E e (some C) H'
theorem zdJ {X:Cx}:XH (CX1 X.prog X.w) X E0:=λ_ _ _ _ _ _ _ ⟨_,_,_,_,_,_,_,_,_,_,_,_,h⟩=>h.elim
def CfN (B:Tb) (cf:Cf):Prop:=∀ f ds V S ps,B.pars[f]?=some ps->cf f ds V S->ds.length=ps.length
theorem YD:∀ (kvs acc:List (Key×V)),(acc++kvs).map (·.1) |>.Nodup->uw acc kvs=acc++kvs
 | [],acc,_=>by simp [uw]
 | p::r,acc,h=>by
  have hn:¬ (acc.any λkv=>decide (kv.1=p.1))=true:=by intro q;rw [bN] at q;obtain ⟨kv,hm,he⟩:=q;have he:=of_decide_eq_true he;rw [ak,b7] at h;exact h.2.2 kv.1 (List.mem_map_of_mem hm) p.1 (by simp) he
  have e:putK acc p.1 p.2=acc++[p]:=by unfold putK;rw [if_neg hn]
  show uw (putK acc p.1 p.2) r=_
  rw [e,YD r (acc++[p]) (by simpa using h)];simp
section
variable {X:Cx}{Γ:Gm}{B:Tb}{cx:Xp->Cf}{k:Nat}{c:Cc}{x y z:Expr}{pos p:Pos}{a:E}{es:List E}
theorem yD {xs:List Expr}{env:Env}{pos:Pos}(h:∀ x∈xs,notStar x=true):(fW pos (ϰ xs env)).any (·.1)=false:=by
 induction xs with
 | nil=>rfl
 | cons a l ih=>
  rw [zj (h a ξ)];show (false||(fW pos (ϰ l env)).any (·.1))=false
  rw [ih λz hz=>h z (ι _ hz)];rfl
set_option tactic.hygienic true in
theorem zeK (b:BI):cZ (biS b)=some (biV b):=by
 cases b with
 | isinst q=>cases q <;> decide +kernel
 | _=>decide +kernel
theorem s_call {f:Nat}{n:Str}{xs:List Expr}(hcf:CfN B (cx noX)) (ok:XOk Γ B (spN Γ cx) k X c) (hf:B.fns[f]?=some n) (hdt:dotted n=false) (hg:Gl X n) (hdb:(n==("__debug__":Str))=false) (hs:∀ z∈x::xs,notStar z=true) (h:PA X (x::xs) (TXs Γ (cx noX) es)):PE X (.Call (.Name n p) (x::xs) [] pos) (TX Γ (cx noX) (.call f es)):=by
 obtain ⟨a,fd,ps,h1,h2,h3,h4,h5,h6,_⟩:=(ok.fns f n hf).ex;refine (zdH h6 ok.rm hg (h2 hdt) h3 h4 .nil zdJ h hdb (zj (hs x ξ) _ _) (yD λz hz=>hs z (ι _ hz))).imp λσ H Q h0=>goX h0 λρ S V g Hz hw w env kk=>⟨ρ,S,_,g,Hz,hw,w,env,λds vs H1 g1 S1 st w1 hv hc=>?_⟩
 show spN Γ cx f ps.length (vs++[]) _ _ _
 rw [Ο];exact ⟨by rw [hv.len];exact hcf f ds V S1 ps h5 hc,g1,ds,S1,V,noX,w1,hv,hc,λx v H2 g2 S2 st2 w2 vx q=>kk x v H2 g2 S2 (st.trans st2) w2 (vx.back st) q,λ_ _ _ _ _ _ _ _ _ z=>z.elim⟩
theorem zfU:PK X [] (TXs Γ (cx noX) []):=λpos pJ s σ H Q I h0=>goS h0 λρ S W g Hz hw w env kk=>zgl pos pJ s σ H Q I (kk [] [] H g S (Step.refl H g) w rfl hw)
theorem zde {n:Str}{kp:Pos}{kws:List bG}(h1:PE X x (TX Γ (cx noX) a)) (h2:PK X kws (TXs Γ (cx noX) es)):PK X (⟨some n,x,kp⟩::kws) (TXs Γ (cx noX) (a::es)):=λpos pJ s σ H Q I h=>zdE h1 h2 pos pJ s σ H Q I (args_cons h)
theorem Qc {g:G}{ds ds':List D}{vs:List V}{perm:List Nat}(h:perm.mapM (λi=>ds[i]?)=some ds') (hv:Hass Γ g ds vs):Hass Γ g ds' (perm.map λi=>vs.getD i .non):=by
 induction perm generalizing ds' with
 | nil=>
  simp at h;subst h;rfl
 | cons i r ih=>
  rw [List.mapM_cons] at h;cases e:ds[i]? with
  | none=>rw [e] at h;cases h
  | some d=>
   rw [e] at h;simp only [Option.bind_eq_bind,lR] at h;cases e2:r.mapM (λi=>ds[i]?) with
   | none=>rw [e2] at h;cases h
   | some l=>
    rw [e2] at h;cases h;obtain ⟨v,hv',hd⟩:=hv.get e;refine ⟨v,_,?_,hd,ih e2⟩;simp [aW,hv']
theorem zed {kws:List bG}{ks:List Str}{env:Env}{pos:Pos}(h:yP kws=some ks):(dj pos (bj kws env)).all (·.1.isSome)=true/\(dj pos (bj kws env)).filterMap (·.1)=ks/\(dj pos (bj kws env)).any (·.1.isNone)=false:=by
 induction kws generalizing ks with
 | nil=>cases h;exact ⟨rfl,rfl,rfl⟩
 | cons q r ih=>
  obtain ⟨n,v,kp⟩:=q;cases n with
  | none=>cases h
  | some n=>
   simp only [yP,ο] at h;obtain ⟨l,h1,h2⟩:=h;subst h2;obtain ⟨i1,i2,i3⟩:=ih h1;refine ⟨?_,?_,?_⟩
   ·show (true&&(dj pos (bj r env)).all (·.1.isSome))=true
    rw [i1];rfl
   ·show n::(dj pos (bj r env)).filterMap (·.1)=n::l
    rw [i2]
   ·show (false||(dj pos (bj r env)).any (·.1.isNone))=false
    rw [i3];rfl
theorem zdh {f:Nat}{n:Str}{kws:List bG}{ks ps:List Str}{perm:List Nat}(hm:Mono (cx noX)) (ok:XOk Γ B (spN Γ cx) k X c) (hf:B.fns[f]?=some n) (hdt:dotted n=false) (hg:Gl X n) (hdb:(n==("__debug__":Str))=false) (h:PK X kws (TXs Γ (cx noX) es))
  (hk:yP kws=some ks) (hp:B.pars[f]?=some ps) (h1:perm.length=ps.length) (h2:∀ i∈perm,i < ks.length) (h3:perm.map (λi=>ks.getD i "")=ps) (h4:ks.length=ps.length) (h5:(f,ks,perm)∈B.kws) (h6:es.length=ks.length):PE X (.Call (.Name n p) [] kws pos) (TX Γ (cx noX) (.callk f perm es)):=by
 obtain ⟨a,fd,ps',g1,g2,g3,g4,g5,g6,g7⟩:=(ok.fns f n hf).ex;have e5:ps'=ps:=ϕ (g5.symm.trans hp);subst e5;obtain ⟨k1,k2,k3⟩:=zed (env:=X.env) (pos:=pos) hk;refine (Ky g6 ok.rm hg (g2 hdt) g3 (g7 ks perm h1 h2 h3 h4 h5) zdJ h k1 k2 hdb (by rw [k3];rfl)).imp λσ H Q h0=>goX h0 λρ S V g Hz hw w env kk=>⟨ρ,S,_,g,Hz,W8 hm es hw,w,env,λds vs H1 g1 S1 st w1 hv ⟨hc,hl⟩=>?_⟩
 obtain ⟨ds',em,hc⟩:=zQ hc;have hz:vs.length=ks.length:=by rw [hv.len,hl,h6]
 show spN Γ cx f ps'.length (if vs.length=ks.length then []++perm.map λi=>vs.getD i .non else []) _ _ _
 rw [if_pos hz,Ϛ];exact ⟨by simp [h1],g1,ds',S1,V,noX,w1,Qc em hv,hc,λx v H2 g2 S2 st2 w2 vx q=>kk x v H2 g2 S2 (st.trans st2) w2 (vx.back st) q,λ_ _ _ _ _ _ _ _ _ z=>z.elim⟩
theorem zjZ {b:BI}{xs:List Expr}{t:TA}{e:E}(ok:XOk Γ B (spN Γ cx) k X c) (hg:Gl X (biS b)) (hm:X.mg (biS b)=none) (hs:∀ z∈x::xs,notStar z=true) (h:PA X (x::xs) t) (i:∀ σ H Q,TX Γ (cx noX) e σ H Q->t σ H λvs H1=>zeG X (biV b) vs H1 Q):PE X (.Call (.Name (biS b) p) (x::xs) [] pos) (TX Γ (cx noX) e):=by
 have hn:biS b≠("__name__":Str):=by
  cases b with
  | isinst q=>cases q <;> decide
  | _=>decide
 have hdb:(biS b==("__debug__":Str))=false:=by
  cases b with
  | isinst q=>cases q <;> decide
  | _=>decide
 have he:=zj (hs x ξ) xs X.env;have hpl:=yD (pos:=pos) (env:=X.env) λz hz=>hs z (ι _ hz)
 have bb:=zeK b;cases hb:biV b with
 | builtin id=>rw [hb] at bb i;exact (uN Xb hg hm bb h hn hdb he hpl).imp i
 | type T=>rw [hb] at bb i;exact (Yt Xb hg hm bb h hn hdb he hpl).imp i
 | _=>cases b <;> cases hb
theorem s_is {t:Ty}{pz:Pos}(ok:XOk Γ B (spN Γ cx) k X c) (hg:Gl X "isinstance") (hm:X.mg "isinstance"=none) (hgt:Gl X (tyN t)) (hmt:X.mg (tyN t)=none) (hs:notStar x=true) (h:PE X x (TX Γ (cx noX) a)):PE X (.Call (.Name "isinstance" p) [x,.Name (tyN t) pz] [] pos) (TX Γ (cx noX) (.bi (.isinst t) [a])):=by
 have hvt:cZ (tyN t)=some (.type (tyS t)):=by cases t <;> decide +kernel
 have hn:tyN t≠("__name__":Str):=by cases t <;> decide
 have hdb:(tyN t==("__debug__":Str))=false:=by cases t <;> decide
 refine (uN (id:="isinstance") Xb hg hm (by decide +kernel) (yl h (yl (Kz (v:=.ty (tyS t)) hgt hmt hvt rfl hn hdb) xH rfl) (zj hs _ _)) (by decide) (by decide) (zj hs _ _) rfl).imp λσ H Q h0=>goX h0 λρ S V g Hz hw w env kk=>⟨ρ,S,_,g,Hz,hw,w,env,λx v H1 g1 S1 st w1 vx h1=>?_⟩
 obtain ⟨⟨d,fr⟩,eb,q⟩:=zQ h1;have eb:(isTy t (zE S1 x.1)).map (λb=>(D.bl b,false))=some (d,fr):=eb;cases e2:isTy t (zE S1 x.1) with
 | none=>rw [e2] at eb;cases eb
 | some b=>
  rw [e2] at eb;cases eb;obtain ⟨r,r1,r2⟩:=zhk (X:=X) (Γ:=Γ) ok.hK e2;exact ⟨r,r1,r2 S1 H1 g1 v Q w1 (vx.rdb w1) (kk (.bl b,.st) _ H1 g1 S1 st w1 rfl q)⟩
def PPd (X:Cx) (pos:Pos) (keys:List (Option Expr)) (vals:List Expr) (ks:List Key) (t:TA):Prop:=∃ trs,PPs X pos keys vals trs/\∀ σ H (Q:List (V×V)->Hp->Prop),t σ H (λvs H'=>Q ((ks.zip vs).map λkv=>(kV kv.1,kv.2)) H')->Vc trs σ H Q
theorem zfQ:PPd X pos [] [] [] (TXs Γ (cx noX) []):=⟨[],zdz,λσ H Q h0=>goS h0 λρ S W g Hz hw w env kk=>kk [] [] H g S (Step.refl H g) w rfl hw⟩
theorem zdc {q:Const}{n:Nat}{p:Pos}{kx:Key}{keys:List (Option Expr)}{vals:List Expr}{ks:List Key}(hk:PE X (.Constant q n p) (tC (kV kx))) (h1:PE X x (TX Γ (cx noX) a)) (h2:PPd X pos keys vals ks (TXs Γ (cx noX) es)):PPd X pos (some (.Constant q n p)::keys) (x::vals) (kx::ks) (TXs Γ (cx noX) (a::es)):=by obtain ⟨trs,hp,ht⟩:=h2;refine ⟨_,zbc hk h1 hp,λσ H Q h=>?_⟩;obtain ⟨ρ,S,V,g,Hz,hw,w,env,kk⟩:=args_cons h;exact ⟨ρ,S,V,g,Hz,hw,w,env,λx v H1 g1 S1 st w1 vx q=>ht σ H1 _ (kk x v H1 g1 S1 st w1 vx q)⟩
theorem zfY {keys:List (Option Expr)}{vals:List Expr}{ks:List Key}(h:PPd X pos keys vals ks (TXs Γ (cx noX) es)) (hall:keys.all (·.isSome)=true) (hl:keys.length=vals.length) (h0:keys≠[]) (h15:keys.length<=15):PE X (.Dict keys vals pos) (TX Γ (cx noX) (.dic false ks es)):=by
 obtain ⟨trs,hp,ht⟩:=h;refine (zdF hp hall hl h0 h15).imp λσ H Q h0=>goX h0 λρ S V g Hz hw w env kk p hp=>ht σ _ _ ?_
 have st0:=(Step.refl H g).zV (o:=.dK []) hp;refine ⟨ρ,S,_,g,Hz,hw,w.laid hp,zu env st0,λds vs H2 g2 S2 st2 w2 h2 q=>?_⟩;obtain ⟨hd,q⟩:=wz q;unfold zbL at hd;simp only [ε,decide_eq_true_eq] at hd;obtain ⟨⟨⟨hk,hn⟩,hz⟩,_⟩:=hd;obtain ⟨k1,k2,k3⟩:=st2.kept zr (w.notR hp) (w.notA hp);have el:ks.length=vs.length:=by rw [h2.len];exact hk
 refine ⟨k1,ks.zip vs,rfl,by rw [ig];lia,?_⟩
 rw [YD _ [] (by
  rw [Ϛ,List.map_fst_zip (by lia)]
  exact hn)]
 exact kk (.dK ks ds,.fr) (.ref p) _ g2 S2 ((st0.trans st2).zV hp) (w2.zV k2 k3) ⟨p,rfl,hp,k2,k3,vs,zr,hk,h2⟩ q
theorem zdg:PE X (.Dict [] [] pos) (TX Γ (cx noX) (.dic false [] [])):=zbj.imp λσ H Q h0=>goX h0 λρ S V g Hz hw w env kk p hp=>
 kk (.dK [] [],.fr) (.ref p) _ g S ((Step.refl H g).zV hp) (w.laid hp) ⟨p,rfl,hp,w.notR hp,w.notA hp,[],zr,rfl,rfl⟩ hw
theorem zdf {ks:List Key}:PE X (.Dict [] [] pos) (TX Γ (cx noX) (.dic true [] [])):=zbi.imp λσ H Q h0=>goX h0 λρ S V g Hz hw w env kk p hp=>
 kk (.dT [] [],.fr) (.ref p) _ g S ((Step.refl H g).zV hp) (w.laid hp) ⟨p,rfl,hp,w.notR hp,w.notA hp,[],zr,rfl,rfl⟩ hw
end
open PySem.AutoSeq1 (wpAny_loadPart')
open PySem.MeetsSeq PySem.MeetsSeq2 PySem.MeetsSeq3 PySem.SeqAt PySem.SeqRoads2
section
variable {X:Cx}{Γ:Gm}{S:Store}{x y:Expr}{pos:Pos}
def zi3:V->List V->Hp->VK->Prop:=λx xs H Q=>∃ a y z v,x=.ref a/\xs=[y,z]/\DGet H a y v/\Q (v.getD z) H
def zi2 (K:W.Frag):V->List V->Hp->VK->Prop:=λx xs H Q=>∃ a k z ps,x=.ref a/\xs=[.str k,z]/\KDic K a ps/\(∀ i,iR k ps=some i->Q (.int i) H)/\(iR k ps=none->Q z H)
theorem datum_int {k:Str}:∀ ps:List (Str×Int),iR k (ps.map λp=>(p.1,KTD.Dat.flat (.int p.2)))=(iR k ps).map λi=>KTD.Dat.flat (.int i)
 | []=>rfl
 | p::ps=>by
  have ih:=datum_int (k:=k) ps;simp only [ϧ,iR];split
  ·rfl
  ·exact ih
theorem zd5:MtR X "dict.get" (zi2 X.K):=by
 rintro pJ s σ H x xs v us Q I rx rv ⟨a,k,z,ps,rfl,rfl,⟨_,kd⟩,q1,q2⟩;cases rx;obtain ⟨u,u2,rfl,⟨t,rfl⟩,ru2⟩:=rv.two;have T:KTD.Here s.heap s.heap a _:=⟨kd s.heap I.kIn,λ_ _ e=>e⟩
 refine pW cL T.typeIs gJ (gk _ _ _) KTD.meets_get2 ⟨T,λd v e hv=>?_,λe=>?_⟩
 ·rw [datum_int] at e;obtain ⟨i,e1,rfl⟩:=ο.mp e;obtain ⟨t,rfl⟩:=(show ∃ t,v=Ϟ i t from PyProof.V.Flat.int_inv hv)
  exact ⟨.int i,H,I.tok _,⟨t,rfl⟩,q1 i e1⟩
 ·rw [datum_int,Option.map_eq_none_iff] at e;exact ⟨z,H,I.tok _,ru2,q2 e⟩
theorem zd6 (hu:X.A.units+1 < ϸ):MtR X "dict.get" zi3:=by rintro pJ s σ H x xs v us Q I rx rv ⟨a,y,z,o,rfl,rfl,g,q⟩;cases rx;obtain ⟨u,u2,rfl,ru,ru2⟩:=rv.two;exact zhN hu I g ru ru2 λw s' I' r'=>⟨_,H,I',r',q⟩
theorem zeo {c k:D}{o:Option D}(h:xR c k=some o) (S:Store):zE S k=k:=by cases k <;> first | rfl | (cases c <;> cases h)
def RDm (Γ:Gm) (r:V->List V->Hp->VK->Prop) (d0:D) (ds:List D) (d:D) (fr:Bool):Prop:=
 ∀ S H g x xs Q,WOk Γ H g S->Rdb Γ H g d0 x->Hass Γ g ds xs->Fin Γ H g S d fr Q->r x xs H Q
noncomputable def mtT:MT->String
 | .index=>"list"
 | .get1=>"dict"
 | .get2=>"dict"
 | _=>"str"
noncomputable def mtI:MT->String
 | .index=>"list.index"
 | .sidx=>"str.index"
 | .get1=>"dict.get"
 | .get2=>"dict.get"
 | .join=>"str.join"
 | .split=>"str.split"
theorem Qt {d1:D}(hK:X.K=Γ.K) (h:mthK .get1 d1=true\/mthK .get2 d1=true) {H:Hp}{g:G}{v:V}(hr:Rdb Γ H g d1 v):tyV X.K "dict" v H:=by
 cases d1 with
 | dK ks ds=>
  obtain ⟨a,vs,rfl,h1,_⟩:=hr;exact .inr (.inr (.inl ⟨rfl,.inl ⟨_,h1⟩⟩))
 | dT ks ds=>
  obtain ⟨a,vs,rfl,h1,_⟩:=hr;exact .inr (.inr (.inl ⟨rfl,.inr ⟨_,h1⟩⟩))
 | kdc ps=>
  obtain ⟨a,rfl,⟨o,h1⟩,_⟩:=hr;exact .inr (.inl ⟨o,by rw [hK];exact h1⟩)
 | _=>rcases h with h | h <;> cases h
theorem zgJ {m:MT}{d0:D}{ds:List D}{d:D}{fr:Bool}(hK:X.K=Γ.K) (hu:X.A.units+61 < ϸ) (h:mthD m d0 ds=some (d,fr)):∃ r,MtR X (mtI m) r/\RDm Γ r d0 ds d fr:=by
 have hu1:X.A.units+1 < ϸ:=by lia
 cases m with
 | index=>cases h
 | get1=>cases h
 | get2=>
  match ds,h with
  | [],h=>cases d0 <;> cases h
  | [_],h=>cases d0 <;> cases h
  | _::_::_::_,h=>cases d0 <;> cases h
  | [kk,xx],h=>
   have hh:(∃ ps,d0=.kdc ps/\zg0 ps kk xx=some (d,fr))\/(xR d0 kk).map (λo=>(o.getD xx,false))=some (d,fr):=by
    cases d0 with
    | kdc ps=>exact .inl ⟨ps,rfl,h⟩
    | _=>exact .inr h
   rcases hh with ⟨ps,rfl,h⟩ | h
   ·cases kk with
    | str x=>
     cases h;refine ⟨_,zd5,λS H g y ys Q w h1 h2 q=>?_⟩;obtain ⟨u,u2,rfl,h3,h5⟩:=h2.two;cases (show u=.str x from h3);obtain ⟨a,rfl,h6⟩:=h1;refine ⟨a,x,u2,ps,rfl,rfl,by rw [hK];exact h6,λi e=>?_,λe=>?_⟩
     ·rw [e] at q;exact zp w q rfl
     ·rw [e] at q;exact zp w q h5
    | _=>cases h
   cases e:xR d0 kk with
   | none=>rw [e] at h;cases h
   | some o=>
    rw [e] at h;cases h;refine ⟨_,zd6 hu1,λS H g y ys Q w h1 h2 q=>?_⟩;obtain ⟨u,u2,rfl,h3,h5⟩:=h2.two;have h4:=Ke w h3;rw [zeo e S] at h4;obtain ⟨a,v,rfl,g1,g2,g3,g4⟩:=zad w e h1 h4;refine ⟨a,u,u2,v,rfl,rfl,g1,?_⟩;cases o with
    | none=>rw [g4 rfl];exact zp w q h5
    | some d=>
     obtain ⟨z,rfl,hz⟩:=g3 d rfl;exact zp w q hz
 | join=>cases h
 | split=>cases h
 | sidx=>cases h
theorem zeO {env:Env}{name:Str}{s0:Sem δ}(h:Yq x=true):attributeBase x name env s0=s0:=by
 cases x with
 | Call f args kws p=>
  cases args with
  | nil=>cases h
  | cons a l=>cases f <;> rfl
 | _=>rfl
theorem zer {xs:List Expr}{env:Env}{cpos:Pos}(hs:∀ z∈xs,notStar z=true) (hl:xs.length<=9):((fW cpos (ϰ xs env)).all (λx=>!x.1)&&(dj cpos (bj [] env)).all (λx=>x.1.isSome)
  &&decide (xs.length+([]:List bG).length+(if ([]:List bG).isEmpty then 0 else 1) < 30))=true:=by
 have h1:(fW cpos (ϰ xs env)).all (λx=>!x.1)=true:=by have:=yD (pos:=cpos) (env:=env) hs;rw [List.all_eq_not_any_not];simpa using this
 rw [h1,decide_eq_true (show xs.length+([]:List bG).length+(if ([]:List bG).isEmpty then 0 else 1) < 30 from (by simp;lia))];rfl
theorem zd4 (m:MT):PlainAttrs (mtT m)/\PySem.Slot (mtT m) (mtS m) (mtI m)/\typeOf (.builtin (mtI m))=pure (.type "method_descriptor"):=by
 cases m with
 | index=>exact ⟨gh,PySem.F.slot_list_index,PySem.F.type_list_index⟩
 | get1=>exact ⟨ni,cL,nY⟩
 | get2=>exact ⟨ni,cL,nY⟩
 | sidx=>exact ⟨gH,PySem.F.slot_str_index,PySem.F.type_str_index⟩
 | join=>exact ⟨gH,PySem.F.slot_str_join,PySem.F.type_str_join⟩
 | split=>exact ⟨gH,PySem.F.slot_str_split,PySem.F.type_str_split⟩
theorem zjp {m:MT}{d1:D}(hK:X.K=Γ.K) (h:mthK m d1=true) {H:Hp}{g:G}{v:V}(hr:Rdb Γ H g d1 v):tyV X.K (mtT m) v H:=by
 cases m with
 | index=>cases d1 <;> cases h
 | get1=>exact Qt hK (.inl h) hr
 | get2=>exact Qt hK (.inr h) hr
 | join=>
  cases d1 with
  | str x=>cases (show v=.str x from hr);exact rfl
  | _=>cases h
 | split=>
  cases d1 with
  | str x=>cases (show v=.str x from hr);exact rfl
  | _=>cases h
 | sidx=>cases h
def zjq (X:Cx) (id:String):V->List V->Hp->VK->Prop:=λx xs H Q=>∃ r,MtR X id r/\r x xs H Q
theorem zgL {id:String}:MtR X id (zjq X id):=λpJ s σ H x xs v us Q I rx rv ⟨_,h,q⟩=>h pJ s σ H x xs v us Q I rx rv q
theorem ziH {B:Tb}{cx:Xp->Cf}{k:Nat}{c:Cc}{a:E}{es:List E}{m:MT}{ys:List Expr}{apos cpos:Pos}(ok:XOk Γ B (spN Γ cx) k X c) (ha:PE X x (TX Γ (cx noX) a)) (hs:∀ z∈y::ys,notStar z=true) (hb:PA X (y::ys) (TXs Γ (cx noX) es)) (hl:(apos.endLine==cpos.line)=true) (hp:Yq x=true) (h9:(y::ys).length<=9):
  PE X (.Call (.Attribute x (mtS m) apos) (y::ys) [] cpos) (TX Γ (cx noX) (.mth m a es)):=by
 obtain ⟨m1,m2,m3⟩:=zd4 m;refine (zdI m1 m2 m3 zgL ha hb (zeO hp) (zer hs h9) hl (zj (hs y ξ) ys X.env) (yD λz hz=>hs z (ι _ hz))).imp λσ H Q h0=>goX h0 λρ S V g Hz hw w env kk=>⟨ρ,S,_,g,Hz,hw,w,env,λx v H1 g1 S1 st w1 vx h1=>?_⟩
 obtain ⟨hk,h1⟩:=wz h1;refine ⟨zjp ok.hK hk (vx.rdb w1),ρ,S1,_,g1,Hz,h1,w1,zu env st,λds vs H2 g2 S2 st2 w2 hv h2=>?_⟩;obtain ⟨⟨d,fr⟩,eb,q⟩:=zQ h2;obtain ⟨r,r1,r2⟩:=zgJ (X:=X) ok.hK ok.u61 eb;exact ⟨r,r1,r2 S2 H2 g2 v vs Q w2 ((vx.step st2).rdb w2) hv λu H3 g3 st3 _ w3 vo=>kk _ u H3 g3 S2 ((st.trans st2).trans st3) w3 ((VN.of vo).back (st.trans st2)) q⟩
end
open PySem PySem.Spec PySem.W PyProof.Rows L2
def knB:Option HO->Prop
 | some (.frz o (.ext φ))=>HO.frz o (.ext φ)=kn o
 | _=>False
set_option tactic.hygienic true in
theorem zgZ {x:Option HO}(h:knB x):∃ o,x=some (kn o):=by
 unfold knB at h;split at h
 ·rename_i o φ
  exact ⟨o,by rw [h]⟩
 ·exact h.elim
theorem zgY {o:Obj}:knB (some (kn o)):=rfl
open Classical in
noncomputable def G.known (g:G) (H':Hp):G:={ g with R:=λb=>if knB (H' b) then H' b else g.R b }
section
variable {Γ:Gm}{H H':Hp}{g:G}{S:Store}
theorem uT {b:Addr}{o:Obj}(h:H' b=some (kn o)):(g.known H').R b=some (kn o):=by exact (if_pos (by rw [h];exact zgY)).trans h
theorem uR (b:Addr):(∃ o,H' b=some (kn o)/\(g.known H').R b=some (kn o))\/(g.known H').R b=g.R b:=by
 by_cases h:knB (H' b)
 ·obtain ⟨o,e⟩:=zgZ h;exact .inl ⟨o,e,uT e⟩
 ·exact .inr (if_neg h)
theorem zbA (hs:∀ b u,g.R b=some u->H' b=some u):Le g (g.known H'):=⟨λb u e=>by
 rcases uR (g:=g) (H':=H') b with ⟨o,e1,e2⟩ | e1
 ·rw [e2,<- e1];exact hs b u e
 ·rw [e1];exact e,λ_ _ h=>h⟩
theorem qy {q:Str}{v:δ}(h:yg H' q v):yg (g.known H').R q v:=by obtain ⟨c,o,h1,h2,h3⟩:=h;exact ⟨c,o,h1,uT h2,h3⟩
theorem zbz {p:Nat}{P:Addr}{q:Str}(w:WOk Γ H g S) (hp:S[p]?=some (.tab p)) (hP:g.α[p]?=some P) (ht:Γ.ta p=some (P,q)) (old:∀ b u,H b=some u->b≠P->H' b=some u) (tb:TabOk H' P q):Step H g H' (g.known H')/\WOk Γ H' (g.known H') S:=by
 have rP:g.R P=none:=w.off p _ P hp hP rfl;have hs:∀ b u,g.R b=some u->H' b=some u:=λb u e=>old b u (w.rh b u e) λz=>by rw [z,rP] at e;cases e
 have le:=zbA hs;have mP:P∈g.α:=ϑ hP;obtain ⟨ps,t1,t2⟩:=tb;refine ⟨⟨le,λa o e n=>old a o e λz=>n (z ▸ mP),λa o e=>?_,λa h=>.inl h,λa h=>?_⟩,⟨λb u e=>?_,w.len,w.nd,λk c a h1 h2 h3=>?_,λk c a h1 h2=>?_⟩⟩
 ·by_cases z:a=P
  ·exact ⟨_,by rw [z];exact t1⟩
  ·exact ⟨o,old a o e z⟩
 ·rcases uR (g:=g) (H':=H') a with ⟨o,e1,_⟩ | e1
  ·cases e:H a with
   | none=>exact .inr (.inl rfl)
   | some u=>
    by_cases z:a=P
    ·exact .inr (.inr (.inl (z ▸ mP)))
    ·have:=old a u e z;rw [e1] at this;cases this;exact .inr (.inr (.inr ⟨_,rfl,rfl⟩))
  ·rw [e1] at h;exact .inl h
 ·rcases uR (g:=g) (H':=H') b with ⟨o,e1,e2⟩ | e1
  ·rw [e2] at e;rw [e1];exact e
  ·rw [e1] at e;exact hs b u e
 ·have r0:=w.off k c a h1 h2 h3;rcases uR (g:=g) (H':=H') a with ⟨o,e1,_⟩ | e1
  ·exfalso;obtain ⟨u,hu,hf⟩:=(w.cell k c a h1 h2).VG r0;by_cases z:a=P
   ·rw [z,t1] at e1;cases e1
   ·rw [old a u hu z] at e1;cases e1;cases hf
  ·rw [e1];exact r0
 ·by_cases z:a=P
  ·subst z;have:k=p:=nodup_inj w.nd h2 hP;subst this;rw [hp] at h1;cases h1;exact ⟨q,ps,ht,t1,t2.mono λ_=>qy⟩
  ·exact (w.cell k c a h1 h2).mono le λo e=>old a o e z
where
 nodup_inj:∀ {l:List Addr}{i j:Nat}{a:Addr},l.Nodup->l[i]?=some a->l[j]?=some a->i=j:=λ{l i j a} nd h1 h2=>by obtain ⟨x1,e1⟩:=χ.mp h1;obtain ⟨x2,e2⟩:=χ.mp h2;exact (List.getElem_inj nd).mp (e1.trans e2.symm)
end
set_option tactic.hygienic true in
theorem JP {Γ:Gm}{Hz H:Hp}{g:G}{ρ:List Slot}{σ:L2.St}(env:EnvO Γ Hz H g ρ σ):∀ {js:List Nat}{ds:List D},shs ρ js=some ds->∃ ws:List V,Hass Γ g ds ws/\ws.length=js.length/\∀ (k j:Nat) (w:V),js[k]?=some j->ws[k]?=some w->σ[j]?=some (some w)
 | [],ds,h=>by cases h;exact ⟨[],rfl,rfl,λk j w e=>by simp at e⟩
 | j::js,ds,h=>by
  unfold shs at h;split at h
  ·rename_i d e
   obtain ⟨ds',e1,rfl⟩:=ο.mp h;obtain ⟨v,hv,hh⟩:=env.sh j d e;obtain ⟨ws,h1,h2,h3⟩:=JP env e1;refine ⟨v::ws,⟨v,ws,rfl,hh,h1⟩,by simp [h2],λk j' w q1 q2=>?_⟩;cases k with
   | zero=>simp at q1 q2;subst q1 q2;exact hv
   | succ k=>exact h3 k j' w (by simpa using q1) (by simpa using q2)
  ·cases h
set_option tactic.hygienic true in
theorem v8 {cells:List (Str×Addr)}{y:Str}:∀ (names:List (Str×Ϣ)) (acc:List (Str×Addr)) {c:Addr},(xM cells names acc).lookup y=some c->(y,Ϭ)∈names\/∃ c,acc.lookup y=some c
 | [],acc,c,h=>.inr ⟨c,h⟩
 | (n,kd)::r,acc,c,h=>by
  unfold xM at h;split at h
  ·rename_i hk
   rcases v8 r _ h with z | ⟨c',z⟩
   ·exact .inl (ι _ z)
   ·rw [Ϡ] at z;cases hy:y==n with
    | true=>left;rw [eq_of_beq hy,eq_of_beq hk];exact ξ
    | false=>rw [hy] at z;exact .inr ⟨c',z⟩
  ·rcases v8 r _ h with z | z
   ·exact .inl (ι _ z)
   ·exact .inr z
section
variable {X:Cx}{Γ:Gm}{cf:Cf}
theorem ziJ {f p:Nat}{js:List Nat}{fs:List Str}{params:bA}{body:Expr}{sc:aM}{pos:Pos}(L:LamE Γ X p) (hd:oY params X.env=([],[])) (hl:fs.length=js.length)
  (hN:∀ (k j:Nat) (x:Str),js[k]?=some j->fs[k]?=some x->X.N[j]?=some x/\X.fn x=false/\X.env.scope.names.lookup x=some .cell)
  (hf:∀ y,(y,Ϭ)∈sc.names ↔ y∈fs) (hh:∀ x,X.env.scope.names.lookup x=some .cell->∃ c,X.env.cells.lookup x=some c) (hla:Γ.la f (X.env.qual++"<lambda>") params body sc fs):PE X (.Lambda params body sc pos) (TX Γ cf (.lam f p js)):=by
 intro pJ s σ H Q I h0;refine goX h0 λρ S V g Hz hw w env kk=>?_
 obtain ⟨hS,hw⟩:=VF hw;obtain ⟨ds,hds,hv⟩:=zQ hw;obtain ⟨ws,hws,hwl,hwσ⟩:=JP env hds;obtain ⟨cc,P,hco,hta,hg,hK⟩:=L.ex;have cellOf:∀ x∈fs,X.env.scope.names.lookup x=some .cell:=λx hx=>by
  obtain ⟨k,hk⟩:=bR.mp hx;have hkl:k < js.length:=by rw [<- hl];exact (χ.mp hk).1
  exact (hN k _ x (π hkl) hk).2.2
 have hcell:∀ y∈sc.names,y.2=.free->∃ a,X.env.cells.lookup y.1=some a:=λ⟨y,kd⟩ hy e=>by have e:kd=.free:=e;subst e;exact hh y (cellOf y ((hf y).mp hy))
 obtain ⟨H1,I1,s1,n1,k1⟩:=Inv.knows L.new ((js.zip (fs.zip ws)).map λt=>(t.1,t.2.1,t.2.2)) I λt ht=>by obtain ⟨⟨j,x,v⟩,hm,rfl⟩:=Ϲ.mp ht;obtain ⟨k,hk⟩:=bR.mp hm;rw [bW] at hk;obtain ⟨q1,q2⟩:=hk;rw [bW] at q2;obtain ⟨z1,z2,z3⟩:=hN k j x q1 q2.1;exact ⟨z1,hwσ k j v q1 q2.2,z2,z3⟩
 have hpl:p < g.α.length:=by rw [w.len];exact (χ.mp hS).1
 have hα:g.α[p]?=some g.α[p]:=π hpl;obtain ⟨q,ps,c0,c1,c2⟩:=w.cell p _ _ hS hα;rw [hta] at c0;obtain ⟨eP,rfl⟩:g.α[p]=P/\q=X.env.qual++"<lambda>":=by cases c0;exact ⟨rfl,rfl⟩
 rw [eP] at hα c1;have rP:g.R P=none:=w.off p _ P hS hα rfl;have hT:TabOk H1 P (X.env.qual++"<lambda>"):=⟨ps,s1 _ _ c1,c2.mono λv ⟨c,o,e1,e2,e3⟩=>⟨c,o,e1,s1 _ _ (w.rh _ _ e2),e3⟩⟩
 have kin:=I1.kIn;refine Inv.lam I1 hd (zaj hcell) hco (hK _ kin).1 hT hg (hK _ kin).2 λa H' s' J made=>?_
 have old:∀ b u,H b=some u->b≠P->H' b=some u:=λb u e n=>made.old b u (s1 b u e) n
 obtain ⟨st,w'⟩:=zbz w hS hα hta old made.tab;obtain ⟨pm,cv,ct,f1,f2⟩:=made.fn;have cap:∀ (k:Nat) (x:Str) (v:L2.V),fs[k]?=some x->ws[k]?=some v->Cap (g.known H').R (xM X.env.cells sc.names []) x v:=λk x v e1 e2=>by
  have hkl:k < js.length:=by rw [<- hl];exact (χ.mp e1).1
  obtain ⟨c,o,u,d1,d2,d3,d4⟩:=k1 (js[k],x,v) (Ϲ.mpr ⟨(js[k],x,v),bR.mpr ⟨k,by rw [bW];exact ⟨π hkl,by rw [bW];exact ⟨e1,e2⟩⟩⟩,rfl⟩);obtain ⟨i1,i2⟩:=ye (y:=x) sc.names [] hcell (λ_ z=>by cases z);obtain ⟨c',hc'⟩:=i2 (.inl ((hf x).mpr (ϑ e1)));have:=i1 c' hc';rw [d1] at this;cases this;have nP:c≠P:=λz=>by rw [z,s1 _ _ c1] at d2;cases d2
  exact ⟨c,o,u,hc',uT (made.old _ _ d2 nP),d3,d4⟩
 refine ⟨.ref a,H',J,rfl,kk (.lam f ds,.st) (.ref a) H' (g.known H') S st w' ?_ hv⟩;refine ⟨a,_,params,body,sc,_,pm,cv,ct,fs,ws,rfl,uT f1,qy f2,⟨hl.trans hwl.symm,cap,λx c e=>?_,λx y c e1 e2=>?_⟩,hla,hws.mono st.le⟩
 ·rcases v8 sc.names [] e with z | ⟨_,z⟩
  ·exact (hf x).mp z
  ·cases z
 ·obtain ⟨i1,_⟩:=ye (y:=x) sc.names [] hcell (λ_ z=>by cases z);obtain ⟨j1,_⟩:=ye (y:=y) sc.names [] hcell (λ_ z=>by cases z);exact I.ok.inj _ _ _ (i1 c e1) (j1 c e2)
end
section
variable {X:Cx}{Γ:Gm}{B:Tb}{k:Nat}{cx:Xp->Cf}{c:Cc}{x:Expr}{p pos:Pos}{es:List E}
theorem ziP {i:Nat}{n:Str}{xs:List Expr}(lm:LamI Γ (spN Γ cx) k X.prog X.w X.K X.mg X.base) (ok:XOk Γ B (spN Γ cx) k X c) (hN:X.N[i]?=some n) (hv:Vis X.env.scope n) (hd:(n==("__debug__":Str))=false) (hcd:(n==("__classdict__":Str))=false) (hs:∀ z∈x::xs,notStar z=true) (h:PA X (x::xs) (TXs Γ (cx noX) es)):PE X (.Call (.Name n p) (x::xs) [] pos) (TX Γ (cx noX) (.cvl i es)):=by
 intro pJ s σ H Q I h0;refine goX h0 λρ S V g Hz hw w env kk=>?_
 refine bY (thn ((za1 (cf:=cx noX) (Γ:=Γ) hN hv hd hcd:PE X (.Name n p) (TX Γ (cx noX) (.var i))) pJ s σ H (λv H1=>∃ y g1 S1,Step H g H1 g1/\WOk Γ H1 g1 S1/\VN Γ H y v H1 g1/\isLm y.1 λf cs=>wpEs (cx noX) ρ es (λds S2=>cx noX f (ds++cs) V S2) S1) I ⟨ρ,S,(λy S1=>isLm y.1 λf cs=>wpEs (cx noX) ρ es (λds S2=>cx noX f (ds++cs) V S2) S1),g,Hz,hw,w,env,λy v H1 g1 S1 st w1 vy q=>⟨y,g1,S1,st,w1,vy,q⟩⟩) λu s1 hu=>?_);obtain ⟨v,H1,I1,r,y,g1,S1,st,w1,vy,q⟩:=hu;obtain ⟨f,cs,ey,q⟩:=Ww q;have hr:=vy.rdb w1;rw [ey] at hr;have hr:Has Γ g1 (.lam f cs) v:=hr;obtain ⟨a,qn,pr,b,sc,cl,pm,cv,ct,fs,ws,rfl,l1,l2,l3,l4,l5⟩:=hr;cases (show u=Ι a from r);have ha1:=(I1.hok a _ (w1.rh _ _ l1)).1;refine callWith_K (K:=[(a,lamO qn pr b sc cl pm cv ct)]) (h₀:=s1.heap) (λd o e=>?_) (by simp [keepIn]) (thn (h pos pJ s1 σ H1 (λvs H2=>∃ ds g2 S2,Step H1 g1 H2 g2/\WOk Γ H2 g2 S2/\Hass Γ g2 ds vs/\cx noX f (ds++cs) V S2) I1 ⟨ρ,S1,_,g1,Hz,q,w1,zu env st,λds vs H2 g2 S2 st2 w2 hv hc=>⟨ds,g2,S2,st2,w2,hv,hc⟩⟩) λus s2 h2=>?_) (zj (hs x ξ) _ _) (yD λz hz=>hs z (ι _ hz))
 ·have e:(if d==a then some (lamO qn pr b sc cl pm cv ct) else none)=some o:=by
   rw [Ϡ] at e;cases hb:d==a with
   | true=>rw [hb] at e;exact e
   | false=>rw [hb] at e;cases e
  cases hb:d==a with
  | true=>rw [hb] at e;rw [eq_of_beq hb];cases e;exact ha1
  | false=>rw [hb] at e;cases e
 ·obtain ⟨vs,H2,I2,r2,ds,g2,S2,st2,w2,hv2,hc⟩:=h2;have L1:=st2.le.rr _ _ l1;have ha2:=(I2.hok a _ (w2.rh _ _ L1)).1;refine ⟨λd o e=>?_,?_⟩
  ·rw [Ϡ] at e;cases hb:d==a with
   | true=>rw [hb] at e;rw [eq_of_beq hb];cases e;exact ha2
   | false=>rw [hb] at e;cases e
  ·have cm:=yX (λb u e=>w2.rh b u (st2.le.rr b u e)) l2;have cc:=ZF (λb u e=>w2.rh b u (st2.le.rr b u e)) l3;have sp:spN Γ cx f (vs++ws).length (vs++ws) H2 Q E0:=⟨rfl,g2,ds++cs,S2,V,noX,w2,hv2.app (l5.mono st2.le),hc,λx v H3 g3 S3 st3 w3 vx q=>kk x v H3 g3 S3 ((st.trans st2).trans st3) w3 (vx.back (st.trans st2)) q,λ_ _ _ _ _ _ _ _ _ z=>z.elim⟩
   refine iJ (cY (lm f _ qn pr b sc fs a pm cv ct cl ws X.A X.stack s2 H2 us vs Q E0 l4 ok.rm I2.env0 (w2.rh _ _ L1) cm cc r2 sp) λr s' hq=>?_);cases r with
   | error e=>exact zdJ pJ σ H2 s2 e s' I2 hq
   | ok fl=>
    cases fl with
    | ret u=>exact I2.after hq
    | next=>exact ϟ hq
    | brk=>exact ϟ hq
    | cont=>exact ϟ hq
end
set_option tactic.hygienic true in
theorem KD {ps:List Str}{pr:bA}(h:parB ps pr=true):∃ as:List Arg,pr=⟨[],as,none,[],[],none,[]⟩/\as.map (·.arg)=ps/\as.length<=1:=by
 unfold parB at h;split at h
 ·rename_i as
  rw [ε] at h;exact ⟨as,rfl,eq_of_beq h.1,of_decide_eq_true h.2⟩
 ·cases h
theorem zeL {r:LamR}{b:Expr}(h:bodB r b=true):∃ p1 p4 x xs,b=.Call (.Name r.g p1) (x::xs) [] p4/\nmsE (x::xs)=some (r.ps++r.fs):=by
 unfold bodB at h;cases e:asCN b with
 | none=>rw [e] at h;cases h
 | some q=>
  rw [e] at h;have h:(q.1==r.g&&nmsE q.2.2.1==some (r.ps++r.fs)&&!q.2.2.1.isEmpty)=true:=h;rw [ε,ε] at h;have eb:=zaH e;obtain ⟨g,p1,as,p4⟩:=q;cases as with
  | nil=>cases h.2
  | cons x xs=>exact ⟨p1,p4,x,xs,by rw [eb,<- eq_of_beq h.1.1],eq_of_beq h.1.2⟩
theorem Qd {r:LamR}{sc:aM}(h:lscB r sc=true):ZS r.ps r.fs sc/\(∀ y,(y,Ϭ)∈sc.names ↔ y∈r.fs)/\gloK (sc.names.lookup r.g)=true/\(∀ x∈r.ps++r.fs,zJ x=true)/\zJ r.g=true:=by
 unfold lscB at h;simp only [ε,d7,ϡ] at h;obtain ⟨⟨⟨⟨⟨⟨⟨⟨⟨⟨h1,h2⟩,h3⟩,h4⟩,h5⟩,h6⟩,h7⟩,h8⟩,h9⟩,h10⟩,h11⟩:=h;have one:∀ y,(y,Ϭ)∈sc.names->y∈r.fs:=λy hy=>by
  have:=h7 _ hy;rw [fG] at this;rcases this with z | z
  ·cases z
  ·exact Ϩ.mp z
 have hf:∀ x∈r.fs,sc.names.lookup x=some .free:=λx hx=>eq_of_beq (h6 x hx)
 have nc:∀ y∈sc.names,y.2≠.cell:=λy hy e=>by have:=h4 y hy;rw [e] at this;cases this
 exact ⟨⟨eq_of_beq h1,h2,h3,nc,λx hx=>eq_of_beq (h5 x hx),hf,λx hx=>one x (ϐ hx),of_decide_eq_true h8⟩,λy=>⟨one y,λhy=>ϐ (hf y hy)⟩,h9,h10,h11⟩
theorem Qn {q:Str}{body:Expr}{sc:aM}{cl:List (Str×Addr)}{pm cv ct:δ}:gD (kla_fn "<lambda>" q ⟨[],[],none,[],[],none,[]⟩ body sc cl pm cv ct) ⟨[],[]⟩=pure []:=rfl
theorem Qm {x q:Str}{an:Option Expr}{pos:Pos}{body:Expr}{sc:aM}{cl:List (Str×Addr)}{pm cv ct u:δ}:gD (kla_fn "<lambda>" q ⟨[],[⟨x,an,pos⟩],none,[],[],none,[]⟩ body sc cl pm cv ct) ⟨[u],[]⟩=pure ([x].zip [u]):=by
 have e:(x==x)=true:=beq_self_eq_true x;have e2:([(x,u)]:List (Str×δ)).lookup x=some u:=by simp [List.lookup]
 unfold gD;simp [e2,seqItems?];rfl
theorem Ql {q:Str}{as:List Arg}{body:Expr}{sc:aM}{cl:List (Str×Addr)}{pm cv ct:δ}{us:List δ}(h1:as.length<=1) (hl:us.length=as.length):gD (kla_fn "<lambda>" q ⟨[],as,none,[],[],none,[]⟩ body sc cl pm cv ct) ⟨us,[]⟩=pure ((as.map (·.arg)).zip us):=by
 cases as with
 | nil=>
  cases bD.mp hl;exact Qn
 | cons a r=>
  cases bD.mp (show r.length=0 from Nat.le_zero.mp (o5 h1));obtain ⟨u,rfl⟩:=List.length_eq_one_iff.mp hl;obtain ⟨x,an,pos⟩:=a;exact Qm
theorem zby {as:List Arg}{env:Env}:oY ⟨[],as,none,[],[],none,[]⟩ env=([],[]):=by unfold oY;rfl
noncomputable def uF (i n:Nat):List E:=(List.range' i n).map .var
section
variable {X:Cx}{Γ:Gm}{B:Tb}{k:Nat}{cf:Cf}{sp:Nat->Nat->Sp}{c:Cc}
theorem zfT {f p:Nat}{js:List Nat}{pr:bA}{b:Expr}{sc:aM}{pos:Pos}(ok:XOk Γ B sp k X c) (h:chkL B c f p js pr b sc=true):PE X (.Lambda pr b sc pos) (TX Γ cf (.lam f p js)):=by
 unfold chkL at h;rw [ε,ε,ε] at h;obtain ⟨⟨⟨h1,h2⟩,h3⟩,h4⟩:=h;cases e:B.lams[f - B.fns.length]? with
 | none=>rw [e] at h4;cases h4
 | some r=>
  rw [e] at h4;dsimp only at h4;rw [ε,ε,ε] at h4;obtain ⟨⟨⟨h5,h6⟩,h7⟩,h8⟩:=h4;have hla:=ok.la f r (X.env.qual++"<lambda>") pr b sc (of_decide_eq_true h3) e h5 (eq_of_beq h6);unfold lamB at h5;rw [ε,ε] at h5;obtain ⟨⟨b1,b2⟩,b3⟩:=h5;obtain ⟨as,rfl,_,_⟩:=KD b1;obtain ⟨LS,hf,_⟩:=Qd b3;obtain ⟨L,hfn⟩:=ok.tb p (eq_of_beq h2);have hfn:=hfn (by simpa using h1);refine ziJ L zby (eq_of_beq h7).symm (λk j x e1 e2=>?_) hf (λx hx=>ok.cells x (.inl (by rw [<- ok.nm];exact hx))) hla;have hm:(j,x)∈js.zip r.fs:=bR.mpr ⟨k,by rw [bW];exact ⟨e1,e2⟩⟩;have:=ϡ.mp h8 _ hm;rw [ε] at this;exact ⟨by rw [ok.N];exact eq_of_beq this.1,hfn _,by rw [ok.nm];exact eq_of_beq this.2⟩
theorem zbu:∀ (xs:List Expr) (ns:List Str) (i:Nat),nmsE xs=some ns->(∀ (j:Nat) (x:Str),ns[j]?=some x->X.N[i+j]?=some x/\Vis X.env.scope x/\zJ x=true)->PA X xs (TXs Γ cf (uF i ns.length))/\∀ z∈xs,notStar z=true:=by
 intro xs
 induction xs with
 | nil=>intro ns i h _;cases h;exact ⟨zdd,λ_ z=>nomatch z⟩
 | cons x xs ih=>
  intro ns i h hv;obtain ⟨q,e0,h⟩:=ν.mp h;obtain ⟨ms,h1,rfl⟩:=ο.mp h;obtain ⟨i1,i2⟩:=ih ms (i+1) h1 λj x e=>by have:=hv (j+1) x (by simpa using e);rw [show i+1+j=i+(j+1) by omega];exact this
  obtain ⟨e1,e2,e3⟩:=hv 0 q.1 rfl;rw [zM e0];refine ⟨JZ rfl (za1 e1 e2 (zF e3).1 (zF e3).2.1) i1,λz hz=>?_⟩;rcases Ε.mp hz with rfl | hz
  ·rfl
  ·exact i2 z hz
end
end EV
namespace L2
open PySem PySem.Spec PyProof.Rows
noncomputable def Cx.ro (X:Cx):Cx:={ X with fn:=λ_=>false }
open Classical in
noncomputable def fgt (X:Cx) (H:Hp):Hp:=λb=>if ∃ x,X.env.cells.lookup x=some b then none else H b
section
variable {X:Cx}{pJ:List (Addr×Obj)}{σ:St}{H H0:Hp}{s s0:μ}
theorem Y8 {b:Addr}(h:H b=none):fgt X H b=none:=by
 unfold fgt;split
 ·rfl
 ·exact h
theorem zcG {x:Str}{b:Addr}(h:X.env.cells.lookup x=some b):fgt X H b=none:=if_pos ⟨x,h⟩
theorem qx (b:Addr):(∃ x,X.env.cells.lookup x=some b/\fgt X H b=none)\/fgt X H b=H b:=by
 by_cases h:∃ x,X.env.cells.lookup x=some b
 ·obtain ⟨x,e⟩:=h;exact .inl ⟨x,e,zcG e⟩
 ·exact .inr (if_neg h)
theorem zcF {b:Addr}{u:HO}(h:fgt X H b=some u):H b=some u/\¬ ∃ x,X.env.cells.lookup x=some b:=by
 unfold fgt at h;split at h
 ·cases h
 ·exact ⟨h,by assumption⟩
theorem Inv.ro (I:Inv X pJ σ H s):Inv X.ro pJ σ H s:=
 ⟨⟨I.ok.mod,I.ok.kind,I.ok.glob,I.ok.blt,I.ok.above,I.ok.inj,I.ok.has,(λ_ _ z=>nomatch z),I.ok.hd,I.ok.frames,I.ok.stk,I.ok.exf,I.ok.bs,I.ok.bsz,I.ok.noex,I.ok.exfs,I.ok.funs,I.ok.frf⟩,I.os,I.bare,I.base,I.loc,I.cell,I.free,λx c h=>(I.freeC x c h).imp id λz=>⟨rfl,z.2⟩,I.pin,I.hok,I.len⟩
theorem Inv.Y7 (I:Inv X.ro pJ σ H s) {b:Addr}{u:HO}(e:H b=some u) (n:∀ o,u≠kn o):fgt X H b=some u:=by
 rcases qx (X:=X) (H:=H) b with ⟨x,h,_⟩ | h
 ·rcases I.freeC x b h with z | ⟨_,o,z⟩
  ·rw [z] at e;cases e
  ·rw [z] at e;cases e;exact absurd rfl (n o)
 ·rw [h];exact e
theorem Inv.fgt (I0:Inv X pJ σ H0 s0) (hf:∀ x,X.fn x=true) (I:Inv X.ro pJ σ H s):Inv X pJ σ (fgt X H) s:=by
 refine ⟨I0.ok,I.os,I.bare,⟨I.base.keep,I.base.slot,λb o e n hx=>Y8 (I.base.free b o e n hx),I.base.there,λb xs e=>I.Y7 (I.base.tups b xs e) (λ_ z=>nomatch z),λb o u e=>?_,λb ps e=>?_⟩,I.loc,I.cell,Y8 I.free,λx c h=>.inl (zcG h),λp hp=>?_,λb u e=>?_,I.len⟩
 ·rcases qx (X:=X) (H:=H) b with ⟨x,h,_⟩ | h
  ·rcases I0.freeC x b h with z | ⟨z,_⟩
   ·rw [I0.base.frzs b o u e] at z;cases z
   ·rw [hf] at z;cases z
  ·rw [h];exact I.base.frzs b o u e
 ·obtain ⟨m,e1⟩:=I.base.tbls b ps e;exact ⟨m,I.Y7 e1 λ_ z=>nomatch z⟩
 ·obtain ⟨q1,q2,q3,q4,q5⟩:=I.pin p hp;exact ⟨q1,Y8 q2,q3,q4,q5⟩
 ·exact (I.hok b u (zcF e).1).stay (λ_ _ _ r=>r) (λd r=>I.Y7 r λ_ z=>nomatch z) λd xs r=>I.Y7 r λ_ z=>nomatch z
end
end L2
namespace EV
open PySem PySem.Spec PySem.W PyProof.Rows L2
section
variable {X:Cx}{Γ:Gm}{B:Tb}{k:Nat}{cf:Cf}{sp:Nat->Nat->Sp}{c:Cc}{x:Expr}{e:E}
theorem XOk.ro (ok:XOk Γ B sp k X c):XOk Γ B sp k X.ro ⟨c.names,c.N,false,c.tb⟩:=⟨ok.hK,ok.nm,ok.kd,ok.N,ok.nd,(λz=>nomatch z),ok.calm,ok.room,ok.cells,ok.fns,ok.bare,ok.consts,ok.fa,ok.cl,ok.ca,ok.ob,ok.lm,ok.la,λp h=>⟨⟨(ok.tb p h).1.ex,(ok.tb p h).1.new⟩,λ_ _=>rfl⟩⟩
theorem Q6 {g g':G}(t:LeT Γ.K g g') (l:∀ a xs,g.R a=some (.lst xs)->g'.R a=some (.lst xs)):∀ {ds:List D}{vs:List V},ds.all fgV=true->Hass Γ g ds vs->Hass Γ g' ds vs
 | [],vs,_,h=>h
 | d::ds,vs,h,⟨v,r,e,h1,h2⟩=>by
  rw [fB,ε] at h;refine ⟨v,r,e,?_,Q6 t l h.2 h2⟩;cases d with
  | lst xs=>
   obtain ⟨a,us,e1,e2,e3⟩:=h1;exact ⟨a,us,e1,l _ _ e2,wj t xs us h.1 e3⟩
  | _=>exact YX t _ v h.1 h1
theorem ziN (hf:∀ x,X.fn x=true) (h:PE X.ro x (TX Γ cf e)):PE X x (TX Γ cf (.fgt e)):=by
 intro pJ s σ H Q I h0;refine goX h0 λρ S V g Hz hw w env kk=>?_
 refine bc (h pJ s σ H (λv H1=>∃ y g1 S1,Step H g H1 g1/\WOk Γ H1 g1 S1/\VN Γ H y v H1 g1/\V y S1/\S1.all fgC=true/\∃ b,y=(.bl b,.st)) I.ro ⟨ρ,S,_,g,Hz,hw,w,env,λy v H1 g1 S1 st w1 vy q=>⟨y,g1,S1,st,w1,vy,q⟩⟩) (λu s1 hu=>?_) λ_ _ z=>z
 obtain ⟨v,H1,I1,r,y,g1,S1,st,w1,vy,q,hS,b,rfl⟩:=hu;have no0:∀ x c,X.env.cells.lookup x=some c->H c=none:=λx c h=>by
  rcases I.freeC x c h with z | ⟨z,_⟩
  ·exact z
  ·rw [hf] at z;cases z
 have upH:∀ a o,H a=some o->∀ {o'},H1 a=some o'->fgt X H1 a=some o':=λa o e o' e'=>by
  rcases qx (X:=X) (H:=H1) a with ⟨x,h,_⟩ | h
  ·rw [no0 x a h] at e;cases e
  ·rw [h];exact e'
 have upR:∀ {a o},g1.R a=some o->(∀ o',o≠kn o')->fgt X g1.R a=some o:=λ{a o} e n=>by
  rcases qx (X:=X) (H:=g1.R) a with ⟨x,h,_⟩ | h
  ·rcases I1.freeC x a h with z | ⟨_,o',z⟩
   ·rw [w1.rh _ _ e] at z;cases z
   ·rw [w1.rh _ _ e] at z;cases z;exact absurd rfl (n o')
  ·rw [h];exact e
 have code:∀ {n v},yg g1.R n v->yg (fgt X g1.R) n v:=λ{n v} ⟨c,o,e1,e2,e3⟩=>by
  refine ⟨c,o,e1,?_,e3⟩;rcases qx (X:=X) (H:=g1.R) c with ⟨x,h,_⟩ | h
  ·obtain ⟨vs,t,d1,_⟩:=e3;obtain ⟨u,o',d2,d3⟩:=I1.cell x c h;have d4:=(I1.hok c _ (w1.rh _ _ e2)).1;rw [d2] at d4;cases d4;rw [d1] at d3;cases d3
  ·rw [h];exact e2
 have tt:LeT Γ.K g1 ⟨fgt X g1.R,g1.α⟩:=⟨λa xs e=>upR e λ_ z=>nomatch z⟩
 refine ⟨v,fgt X H1,I.fgt hf I1,r,kk (.bl b,.st) v (fgt X H1) ⟨fgt X g1.R,g1.α⟩ S1 ⟨⟨λa o e=>?_,st.le.aa⟩,λa o e n=>upH a o e (st.fr a o e n),λa o e=>?_,st.na,λa n=>st.nr a λz=>n (Y8 z)⟩ ⟨λa o e=>?_,w1.len,w1.nd,λk c a h1 h2 h3=>Y8 (w1.off k c a h1 h2 h3),λk c a h1 h2=>?_⟩ ?_ q⟩
 ·have e1:=st.le.rr a o e;rcases qx (X:=X) (H:=g1.R) a with ⟨x,h,_⟩ | h
  ·have:=no0 x a h;rw [w.rh a o e] at this;cases this
  ·exact h.trans e1
 ·obtain ⟨o',e'⟩:=st.ex a o e;exact ⟨o',upH a o e e'⟩
 ·obtain ⟨e1,e2⟩:=zcF e;exact (if_neg e2).trans (w1.rh _ _ e1)
 ·have hc:=w1.cell k c a h1 h2;have hs:=ϡ.mp hS c (ϑ h1);have up1:∀ {o},H1 a=some o->(∀ o',o≠kn o')->fgt X H1 a=some o:=λ{o} e n=>I1.Y7 e n
  cases c with
  | tab n=>
   obtain ⟨nm,ps,t1,t2,t3⟩:=hc;exact ⟨nm,ps,t1,up1 t2 (λ_ z=>nomatch z),t3.mono λ_=>code⟩
  | dK ks ds=>
   obtain ⟨vs,t1,t2,t3⟩:=hc;exact ⟨vs,up1 t1 (λ_ z=>nomatch z),t2,Q6 tt (λa xs e=>upR e λ_ z=>nomatch z) hs t3⟩
  | _=>cases hs
 ·have vy:v=.bl b:=vy;exact vy
end
open PySem PySem.Spec PyProof.Rows L2
section
variable {X:Cx}{Γ:Gm}{B:Tb}{cx:Xp->Cf}{k:Nat}{c:Cc}{x y z:Expr}{pos p apos cpos:Pos}{a:E}{es:List E}
theorem WOk.out {H:Hp}{g:G}{S:Store}(w:WOk Γ H g S) {b:Addr}(h:H b=none):g.R b=none/\b ∉ g.α:=by
 refine ⟨?_,λm=>?_⟩
 ·cases e:g.R b with
  | none=>rfl
  | some o=>rw [w.rh _ _ e] at h;cases h
 ·obtain ⟨i,hi,e⟩:=List.mem_iff_getElem.mp m;have e':g.α[i]?=some b:=by rw [π hi,e]
  have hs:i < S.length:=by rw [<- w.len];exact hi
  obtain ⟨o,ho,_⟩:=(w.cell i _ b (π hs) e').U9;rw [ho] at h;cases h
end
theorem JS {x z:Expr}{y:Str}(h:Vg x=some (y,z)):∃ p pos,x=.Call (.Name y p) [z] [] pos:=by obtain ⟨q,e1,h⟩:=ν.mp h;obtain ⟨u,e2,e3⟩:=ο.mp h;cases e3;exact ⟨q.2.1,q.2.2.2,by rw [zaH e1,wL e2]⟩
section
variable {X:Cx}{Γ:Gm}{cx:Xp->Cf}{B:Tb}{k:Nat}{c:Cc}{x y z:Expr}{pos p:Pos}{a b:E}
theorem zhz {H:Hp}{g:G}{S:Store}{d:D}{fr:Bool}{Q:VK}{a:Addr}{o:HO}(w:WOk Γ H g S) (q:Fin Γ H g S d fr Q) (ha:H a=none):Fin Γ (upd H a o) g S d fr Q:=λv H' g' st sm w' vo=>
 q v H' g' ((Step.of_same (yp ha) (Le.refl g) (λ_ h=>.inl h) λ_ h=>.inl h).trans st) ((yp ha).trans sm) w' (by
  cases fr with
  | false=>exact vo
  | true=>
   obtain ⟨l,e,h1,h2⟩:=(show ∃ a',v=.ref a'/\upd H a o a'=none/\_ from vo)
   exact ⟨l,e,(yp ha).free h1,h2⟩)
theorem YW {g:G}:∀ ks:List Int,Hass Γ g (ks.map D.int) (ks.map V.int)
 | []=>rfl
 | k::ks=>⟨.int k,_,rfl,rfl,YW ks⟩
theorem zbw {d0:D}{ks:List Int}{H:Hp}{g:G}{S:Store}{v:V}(hK:X.K=Γ.K) (w:WOk Γ H g S) (h:(lotD d0).bind uC=some ks) (hv:Rdb Γ H g d0 v):∃ p,v=.ref p/\(SqL X.K H p (ks.map V.int)\/SqT X.K H p (ks.map V.int)):=by
 obtain ⟨l,e1,e2⟩:=ν.mp h;obtain rfl:=VL e2;rcases zcw e1 with rfl | rfl
 ·obtain ⟨p,ys,rfl,h1,h2⟩:=hv;exact ⟨p,rfl,.inl (by rw [<- jC h2];exact SqL.of h1)⟩
 ·obtain ⟨p,ys,rfl,h1,h2⟩:=hv;exact ⟨p,rfl,.inr (by rw [<- jC h2];exact SqT.of (w.rh _ _ h1))⟩
theorem zfF {t:TE}(ok:XOk Γ B (spN Γ cx) k X c) (hg:Gl X "set") (hm:X.mg "set"=none) (hs:notStar z=true) (h:PE X z t):PE X (.Call (.Name "set" p) [z] [] pos) (λσ H Q=>t σ H λv H1=>zeG X (.type "set") [v] H1 Q):=
 (Yt Xb hg hm (by decide +kernel) (yl h xH (zj hs _ _)) (by decide) (by decide) (zj hs _ _) rfl).imp λ_ _ _ q=>q
set_option tactic.hygienic true in
theorem zfJ {p' pos':Pos}(ok:XOk Γ B (spN Γ cx) k X c) (hg:Gl X "set") (hm:X.mg "set"=none) (hg':Gl X "sorted") (hm':X.mg "sorted"=none) (hs:notStar z=true) (h:PE X z (TX Γ (cx noX) a)):
  PE X (.Call (.Name "sorted" p') [.Call (.Name "set" p) [z] [] pos] [] pos') (TX Γ (cx noX) (.bi .sset [a])):=by
 refine (uN (id:="sorted") Xb hg' hm' (by decide +kernel) (yl (zfF ok hg hm hs h) xH (zj rfl _ _)) (by decide) (by decide) (zj rfl _ _) rfl).imp λσ H Q h0=>goX h0 λρ S V g Hz hw w env kk=>⟨ρ,S,_,g,Hz,hw,w,env,λx v H1 g1 S1 st w1 vx h1=>?_⟩
 obtain ⟨⟨d,fr⟩,eb,q⟩:=zQ h1;have eb:Ut (zE S1 x.1)=some (d,fr):=eb;obtain ⟨ks,e1,e2⟩:=ν.mp (show ((lotD (zE S1 x.1)).bind uC).bind _=some (d,fr) from eb);split at e2
 ·rename_i hl
  cases e2;obtain ⟨l1,l2⟩:=ϣ.mp hl;obtain ⟨p,rfl,sq⟩:=zbw (X:=X) ok.hK w1 e1 (vx.rdb w1);refine ⟨_,zas ok.calm,p,ks,rfl,sq,of_decide_eq_true l1,λa ha=>⟨_,Xi ok.calm,a,wN ks,rfl,zr,of_decide_eq_true l2,λms l pm up hl=>?_⟩⟩;refine v6 (w1.laid ha) (zhz (d:=.lst ((sortI (wN ks)).map D.int)) w1 (λu H2 g2 st2 _ w2 vo=>kk _ u H2 g2 S1 (st.trans st2) w2 ((VN.of vo).back st) q) ha) ?_ hl;rw [<- JL pm up];exact YW _
 ·cases e2
end
section
variable {prog:Τ}{w:ϓ}{A:ϙ}{E:VSP}{s:μ}
end
section
variable {X:Cx}{Γ:Gm}{S:Store}{cf:Cf}{a:E}{elts:List Expr}{kk:Nat}{ap cp tp:Pos}
end
section
variable {X:Cx}{tg:Expr}
end
section
variable {X:Cx}{Γ:Gm}{S:Store}{cf:Cf}{a:E}{tgt x:Expr}
theorem zfV (_:PE X x (TX Γ cf a)):PI X tgt x (TXi Γ cf (.keys a)):=λ_ _ _ _ _ _ h0=>goI h0 λ_ _ _ _ _ hw _ _ _=>ϟ hw
end
end EV
namespace L2
open PySem PySem.Spec PyProof.Rows
variable {X:Cx}
end L2
namespace EV
open PySem PySem.Spec PyProof.Rows L2
variable {X:Cx}{Γ:Gm}{cf:Cf}{a b:E}{k v:Expr}{pos:Pos}
noncomputable def jy:Expr->Bool
 | .BoolOp _ _ _=>true
 | _=>false
section
variable {Γ:Gm}{B:Tb}{cx:Xp->Cf}{k:Nat}
theorem zgf {X:Cx}{x y z:Expr}{pos:Pos}{t a b:E}(hc:PT X x (TB Γ (cx noX) t)) (ha:PT X y (TB Γ (cx noX) a)) (hb:PT X z (TB Γ (cx noX) b)):PT X (.IfExp x y z pos) (TB Γ (cx noX) (.ite t a b)):=by
 intro pJ s σ H Q I ⟨ρ,S,V,g,Hz,hw,w,env,kk⟩;have eq:lC (.IfExp x y z pos) X.env (eval (.IfExp x y z pos) X.env)=(lC x X.env (eval x X.env) >>= λt=>if t=true then lC y X.env (eval y X.env) else lC z X.env (eval z X.env)):=rfl;rw [eq];refine ζ (thn (hc pJ s σ H (λr H'=>if r=true then TB Γ (cx noX) a σ H' Q else TB Γ (cx noX) b σ H' Q) I ⟨ρ,S,_,g,Hz,hw,w,env,λx H1 g1 S1 st w1 h=>?_⟩) λr s1 ⟨H1,I1,q⟩=>?_)
 ·obtain ⟨r,e,q⟩:=vI h;rw [e];show (if r=true then _ else _)
  cases r with
  | true=>exact iteT (zaU st w1 env kk q)
  | false=>exact iteF (zaU st w1 env kk q)
 ·cases r with
  | true=>rw [if_pos rfl] at q ⊢;exact ha pJ s1 σ H1 Q I1 q
  | false=>rw [if_neg Μ] at q ⊢;exact hb pJ s1 σ H1 Q I1 q
def SE (Γ:Gm) (B:Tb) (cx:Xp->Cf) (k:Nat) (e:E):Prop:=∀ (X:Cx) (c:Cc) (x:Expr),XOk Γ B (spN Γ cx) k X c->chkE B c e x=true->PE X x (TX Γ (cx noX) e)/\PT X x (TB Γ (cx noX) e)/\(jy x=true->PW X x (TB Γ (cx noX) e))
theorem only {X:Cx}{x:Expr}{e:E}(h:PE X x (TX Γ (cx noX) e)) (hn:jy x=false) (he:∀ whole,lC x X.env whole=(do let v <- whole;standAt x.pos;gR [v] (truthy v))):PE X x (TX Γ (cx noX) e)/\PT X x (TB Γ (cx noX) e)/\(jy x=true->PW X x (TB Γ (cx noX) e)):=
 ⟨h,zfI h he,λq=>by rw [hn] at q;cases q⟩
theorem none_of {X:Cx}{x:Expr}{e:E}(h:∀ ρ V S,¬ wpE (cx noX) ρ e V S):PE X x (TX Γ (cx noX) e)/\PT X x (TB Γ (cx noX) e)/\(jy x=true->PW X x (TB Γ (cx noX) e)):=
 ⟨λ_ _ _ _ _ _ ⟨_,_,_,_,_,q,_⟩=>(h _ _ _ q).elim,λ_ _ _ _ _ _ ⟨_,_,_,_,_,q,_⟩=>(h _ _ _ q).elim,λ_ _ _ _ _ _ _ _ ⟨_,_,_,_,_,q,_⟩=>(h _ _ _ q).elim⟩
theorem wZ {c:Cc}:∀ {es:List E}{xs:List Expr},zT B c es xs=true->∀ z∈xs,notStar z=true
 | [],[],_=>λz hz=>by cases hz
 | e::es,x::xs,h=>by
  have h:(chkE B c e x&&notStar x&&zT B c es xs)=true:=h;rw [ε,ε] at h;intro z hz;rcases Ε.mp hz with rfl | hz
  ·exact h.1.2
  ·exact wZ h.2 z hz
 | [],_::_,h=>nobE h
 | _::_,[],h=>nobE h
theorem K5 {c:Cc}{lo hi st:Option Expr}{pos:Pos}:∀ (e:E),chkE B c e (.Slice lo hi st pos)=true->False
 | .box e,h=>nobE h
 | .var _,h=>nobE h
 | .con _,h=>nobE h
 | .glo _ _,h=>nobE h
 | .bin _ _ _,h=>nobE h
 | .neg _,h=>nobE h
 | .cmp _ _ _,h=>nobE h
 | .chn _ _ _ _ _,h=>nobE h
 | .not _,h=>nobE h
 | .and _ _,h=>nobE h
 | .or _ _,h=>nobE h
 | .ite _ _ _,h=>nobE h
 | .tup _,h=>nobE h
 | .lst _,h=>nobE h
 | .dic _ _ _,h=>nobE h
 | .sub _ _,h=>nobE h
 | .slc _ _ _,h=>nobE h
 | .bi _ _,h=>nobE h
 | .mth _ _ _,h=>nobE h
 | .call _ _,h=>nobE h
 | .callk _ _ _,h=>nobE h
 | .callv _ _,h=>nobE h
 | .lam _ _ _,h=>nobE h
 | .cvl _ _,h=>nobE h
 | .fgt _,h=>nobE h
 | .comp _ _ _ _ _,h=>nobE h
 | .one _,h=>nobE h
 | .flip _,h=>nobE h
 | .dk1 _ _,h=>nobE h
 | .seq _,h=>nobE h
 | .rng _ _,h=>nobE h
 | .enum _,h=>nobE h
 | .zip _ _,h=>nobE h
 | .rev _,h=>nobE h
 | .dwn _,h=>nobE h
 | .keys _,h=>nobE h
 | .items _,h=>nobE h
theorem Uy {c:Cc}{e:E}{y:Expr}(h:chkE B c e y=true):W2 y:=by
 cases y with
 | Slice lo hi st pos=>exact (K5 e h).elim
 | _=>exact λ_ _=>rfl
theorem Y4 {iter:Expr}(h:wF iter=true) (env:Env) (v:δ):cC iter env v=pure v:=by cases iter <;> first | rfl | cases h
set_option tactic.hygienic true in
theorem zhQ {X:Cx}{d:D}{q:Const}{n:Nat}{pos:Pos}{c:Cc}(h:chkE B c (.con d) (.Constant q n pos)=true):∃ t,PE X (.Constant q n pos) (tC t)/\∀ g,Has Γ g d t:=by
 cases q with
 | none=>cases d <;> first | exact ⟨_,zgq,λ_=>rfl⟩ | exact nobE h
 | bool b=>cases d <;> first | (rename_i b';have e:=eq_of_beq (show (b'==b)=true from h);subst e;exact ⟨_,zjd,λ_=>rfl⟩) | exact nobE h
 | int b=>cases d <;> first | (rename_i b';have e:=eq_of_beq (show (b'==b)=true from h);subst e;exact ⟨_,zcr,λ_=>rfl⟩) | exact nobE h
 | str b=>cases d <;> first | (rename_i b';have e:=eq_of_beq (show (b'==b)=true from h);subst e;exact ⟨_,Kv,λ_=>rfl⟩) | exact nobE h
 | _=>cases d <;> exact nobE h
theorem qC {k0:Key}{ks:List Key}{keys:List (Option Expr)}(h:Xh (k0::ks) keys=true):∃ q n p r,keys=some (.Constant q n p)::r/\(∀ X:Cx,PE X (.Constant q n p) (tC (kV k0)))/\Xh ks r=true:=by
 cases keys with
 | nil=>exact nobE h
 | cons o r=>
  cases o with
  | none=>exact nobE h
  | some x=>
   have hb:Υ x.ctorIdx 19=true:=by revert h;cases x <;> first | exact non | exact λ_=>rfl
   revert h;apply qe hb;clear hb;intro q n p h;have h:(keyC k0 q&&Xh ks r)=true:=h;rw [ε] at h;refine ⟨q,n,p,r,rfl,λX=>?_,h.2⟩;have h1:=h.1;cases k0 with
   | inl i=>
    cases q with
    | int j=>rw [show i=j from eq_of_beq h1];exact zcr
    | _=>exact nobE h1
   | inr i=>
    cases q with
    | str j=>rw [show i=j from eq_of_beq h1];exact Kv
    | _=>exact nobE h1
theorem Xg:∀ {ks:List Key}{keys:List (Option Expr)},Xh ks keys=true->ks.length=keys.length/\keys.all (·.isSome)=true
 | [],[],_=>⟨rfl,rfl⟩
 | [],_::_,h=>nobE h
 | k0::ks,keys,h=>by obtain ⟨q,n,p,r,rfl,_,hr⟩:=qC h;obtain ⟨a,b⟩:=Xg hr;exact ⟨by simp [a],by simpa using b⟩
theorem Xe {c:Cc}:∀ {es:List E}{xs:List Expr},uD B c es xs=true->es.length=xs.length
 | [],[],_=>rfl
 | [],_::_,h=>nobE h
 | _::_,[],h=>nobE h
 | e::es,x::xs,h=>by have h:(chkE B c e x&&uD B c es xs)=true:=h;rw [ε] at h;simp [Xe h.2]
theorem xX {a:Bool}(h:(a&&false)=true):False:=by rw [iI] at h;cases h
theorem Xf {c:Cc}:∀ {es:List E}{xs:List Expr},zT B c es xs=true->es.length=xs.length
 | [],[],_=>rfl
 | [],_::_,h=>nobE h
 | _::_,[],h=>nobE h
 | e::es,x::xs,h=>by have h:(chkE B c e x&&notStar x&&zT B c es xs)=true:=h;rw [ε] at h;simp [Xf h.2]
theorem zgK {c:Cc}{m:MT}{o:E}{es:List E}{f:Expr}{args:List Expr}{kws:List bG}{pos:Pos}(h:chkE B c (.mth m o es) (.Call f args kws pos)=true):
    ∃ w ap y ys,f=.Attribute w (mtS m) ap/\args=y::ys/\kws=[]/\chkE B c o w=true/\zT B c es (y::ys)=true/\(ap.endLine==pos.line)=true/\Yq w=true/\(y::ys).length<=9:=by
  have h:(match WY f with
    | some q=>q.2.1==mtS m&&chkE B c o q.1&&zT B c es args&&yo kws&&q.2.2.endLine==pos.line&&Yq q.1&&decide (1<=es.length)&&decide (es.length<=9)
    | none=>false)=true:=h
  cases e:WY f with
  | none=>rw [e] at h;cases h
  | some q=>
    rw [e] at h;simp only [ε,decide_eq_true_eq] at h;obtain ⟨⟨⟨⟨⟨⟨⟨h1,h2⟩,h3⟩,h4⟩,h5⟩,h6⟩,h7⟩,h8⟩:=h;have hl:=Xf h3;cases args with
    | nil=>simp at hl;simp [hl] at h7
    | cons y ys=>
      refine ⟨q.1,q.2.2,y,ys,?_,rfl,z9 h4,h2,h3,h5,h6,by lia⟩;rw [Ug e,eq_of_beq h1]
theorem Xc {c:Cc}:∀ {es:List E}{kws:List bG},Xd B c es kws=true->es.length=kws.length
 | [],[],_=>rfl
 | [],_::_,h=>nobE h
 | _::_,[],h=>nobE h
 | e::es,⟨none,x,p⟩::kws,h=>nobE h
 | e::es,⟨some n,x,p⟩::kws,h=>by have h:(chkE B c e x&&Xd B c es kws)=true:=h;rw [ε] at h;simp [Xc h.2]
theorem jt:∀ {kws:List bG}{ks:List Str},yP kws=some ks->ks.length=kws.length
 | [],ks,h=>by cases h;rfl
 | ⟨none,x,p⟩::kws,ks,h=>by cases h
 | ⟨some n,x,p⟩::kws,ks,h=>by
  have h:(yP kws).map (n::·)=some ks:=h;cases e:yP kws with
  | none=>rw [e] at h;cases h
  | some l=>
   rw [e] at h;cases h;simp [jt e]
def TXr (Γ:Gm) (cf:Cf):List E->TA
 | [e]=>λσ H Q=>TX Γ cf e σ H λv H1=>Q [v] H1
 | es=>TXs Γ cf es
theorem ym {b:BI}{n:Str}{c:Cc}{X:Cx}{es:List E}{args:List Expr}{p pos:Pos}(ok:XOk Γ B (spN Γ cx) k X c) (hi:isI b=false) (h:(n==biS b&&B.bare.contains n&&gloK (c.names.lookup n)&&zT B c es args&&!es.isEmpty)=true)
  (ih:zT B c es args=true->PA X args (TXr Γ (cx noX) es)):PE X (.Call (.Name n p) args [] pos) (TX Γ (cx noX) (.bi b es))/\PT X (.Call (.Name n p) args [] pos) (TB Γ (cx noX) (.bi b es))/\(jy (.Call (.Name n p) args [] pos)=true->PW X (.Call (.Name n p) args [] pos) (TB Γ (cx noX) (.bi b es))):=by
 simp only [ε] at h;obtain ⟨⟨⟨⟨h1,h2⟩,h3⟩,h4⟩,h5⟩:=h;have e1:=eq_of_beq h1;subst e1;refine only ?_ rfl λ_=>rfl
 have ih:=ih h4;have hst:=wZ h4;cases args with
 | nil=>
  cases es with
  | nil=>cases h5
  | cons _ _=>exact nobE h4
 | cons x xs=>
  refine zjZ ok (ok.glob h3) (ok.bare _ (Ϩ.mp h2)) hst ih λσ H Q h0=>goX h0 λρ S V g Hz hw w env kk=>?_
  match es,hw with
  | [],_=>cases h5
  | [e],hw=>exact ⟨ρ,S,_,g,Hz,hw,w,env,λx v H1 g1 S1 st w1 vx h1=>by
   obtain ⟨⟨d,fr⟩,eb,q⟩:=zQ h1;obtain ⟨r,r1,r2⟩:=zcK (X:=X) (Γ:=Γ) ok.hK ok.room.gd ok.u61 ok.calm hi eb
   exact ⟨r,r1,r2 S1 H1 g1 [v] Q w1 ⟨v,[],rfl,vx.rdb w1,rfl⟩ λu H2 g2 st2 _ w2 vo=>kk _ u H2 g2 S1 (st.trans st2) w2 ((VN.of vo).back st) q⟩⟩
  | e1::e2::es,hw=>exact ⟨ρ,S,_,g,Hz,hw,w,env,λds vs H1 g1 S1 st w1 hv h1=>by
   obtain ⟨⟨d,fr⟩,eb,q⟩:=zQ h1;obtain ⟨r,r1,r2⟩:=zcK (X:=X) (Γ:=Γ) ok.hK ok.room.gd ok.u61 ok.calm hi eb
   exact ⟨r,r1,r2 S1 H1 g1 vs Q w1 (Ka w1 hv) λu H2 g2 st2 _ w2 vo=>kk _ u H2 g2 S1 (st.trans st2) w2 ((VN.of vo).back st) q⟩⟩
theorem Jb {f:Nat}{n:Str}{c:Cc}{X:Cx}{es:List E}{perm:List Nat}{kws:List bG}{p pos:Pos}(hm:Mono (cx noX)) (ok:XOk Γ B (spN Γ cx) k X c) (h:(B.fns[f]?==some n&&gloK (c.names.lookup n)&&zJ n&&Xd B c es kws&&(match yP kws,B.pars[f]? with
      | some ks,some ps=>perm.length==ps.length&&perm.all (· < ks.length)&&perm.map (λi=>ks.getD i "")==ps&&ks.length==ps.length&&B.kws.contains (f,ks,perm)
      | _,_=>false))=true) (ih:Xd B c es kws=true->PK X kws (TXs Γ (cx noX) es)):PE X (.Call (.Name n p) [] kws pos) (TX Γ (cx noX) (.callk f perm es)):=by
  simp only [ε] at h;obtain ⟨⟨⟨⟨h1,h2⟩,h3⟩,h4⟩,h5⟩:=h;cases hk:yP kws with
  | none=>rw [hk] at h5;cases h5
  | some ks=>
    cases hp:B.pars[f]? with
    | none=>rw [hk,hp] at h5;cases h5
    | some ps=>
      rw [hk,hp] at h5;simp only [ε,beq_iff_eq,ϡ,decide_eq_true_eq] at h5;obtain ⟨⟨⟨⟨g1,g2⟩,g3⟩,g4⟩,g5⟩:=h5;exact zdh hm ok (eq_of_beq h1) (qR h3) (ok.glob h2) (zF h3).1 (ih h4) hk hp g1 g2 g3 g4 (Ϩ.mp g5) (by rw [Xc h4,jt hk])
theorem zbP {X:Cx}{c:Cc}{sc:aM}{js:List Nat}{xs:List Str}{t:T}{it elt:E}{ifs:List E}{cs:List Expr}{tgt iter y:Expr}{pos:Pos}(ok:XOk Γ B (spN Γ cx) k X c) (hs:(chkS c sc js||zan sc js)=true) (hn:wF iter=true) (nd:(xs++js.map (λj=>c.N.getD j "")).Nodup)
  (hst:Zn t=false) (ht:nT t=xs.length) (hr:tIs t=ό xs.length) (hT:chkT (inner c sc xs js) t tgt=true) (hi:PI X tgt iter (TXi Γ (cx noX) it))
  (hz:∀ X,XOk Γ B (spN Γ cx) k X (inner c sc xs js)->PTs X cs (TXf Γ (cx noX) ifs)) (he:∀ X,XOk Γ B (spN Γ cx) k X (inner c sc xs js)->PE X y (TX Γ (cx noX) elt)):
  PE X (.ListComp y [⟨tgt,iter,cs,0⟩] sc pos) (TX Γ (cx noX) (.comp t js it ifs elt))/\CSet X (.ListComp y [⟨tgt,iter,cs,0⟩] sc pos) (TX Γ (cx noX) (.comp t js it ifs elt)):=by
 obtain ⟨cl,ce,ob,K,okI⟩:=Ji (xs:=xs) ok hs nd;refine zb0 (zah (xs:=xs) (tg:=tgOf X.K t) ok.calm K hi (λC s3 H3 fp=>JD (okI C s3 H3 fp) hT) (λC s3 H3 fp=>hz _ (okI C s3 H3 fp)) (λC s3 H3 fp=>he _ (okI C s3 H3 fp)) (Y4 hn X.env)) λσ H Q h0=>goX h0 λρ S V g Hz hw w env kk=>?_
 refine zbO (X:=X) (Qe:=λD H'=>Q (.ref D) H') hst (λi hi=>?_) ht ?_ hw w env λds Da H' g' S' st w' vx q=>kk _ _ H' g' S' st w' vx q
 ·rw [hr] at hi;rw [ht];exact Ϝ.mp hi
 ·exact cz.of_map _ (λa b (h:c.N.getD a ""≠c.N.getD b "") e=>h (by rw [e])) (b7.mp nd).2.1
theorem Xa {t:T}{js:List Nat}{it:E}{ifs:List E}{elt:E}{X:Cx}{c:Cc}{tgt iter y:Expr}{cs:List Expr}{kk:Int}{sc:aM}{pos:Pos}(hI:∀ X c tgt x,XOk Γ B (spN Γ cx) k X c->chkI B c it tgt x=true->PI X tgt x (TXi Γ (cx noX) it)) (hF:∀ X c xs,XOk Γ B (spN Γ cx) k X c->uD B c ifs xs=true->ifs.length<=1->PTs X xs (TXf Γ (cx noX) ifs)) (hE:∀ X c x,XOk Γ B (spN Γ cx) k X c->chkE B c elt x=true->PE X x (TX Γ (cx noX) elt))
    (ok:XOk Γ B (spN Γ cx) k X c) (h:chkE B c (.comp t js it ifs elt) (.ListComp y [⟨tgt,iter,cs,kk⟩] sc pos)=true):PE X (.ListComp y [⟨tgt,iter,cs,kk⟩] sc pos) (TX Γ (cx noX) (.comp t js it ifs elt))/\CSet X (.ListComp y [⟨tgt,iter,cs,kk⟩] sc pos) (TX Γ (cx noX) (.comp t js it ifs elt)):=by
  have h:(kk==0&&(chkS c sc js||zan sc js)&&chkI B c it tgt iter&&wF iter&&(match xm tgt with
    | some xs=>decide ((xs++js.map (λj=>c.N.getD j "")).Nodup)&&nT t==xs.length&&tIs t==ό xs.length&&chkT (inner c sc xs js) t tgt&&chkE B (inner c sc xs js) elt y&&uD B (inner c sc xs js) ifs cs&&decide (ifs.length<=1)
    | none=>false))=true:=h
  simp only [ε] at h;obtain ⟨⟨⟨⟨h1,h2⟩,h3⟩,h4⟩,h5⟩:=h;have e1:=eq_of_beq h1;subst e1;cases ht:xm tgt with
  | none=>rw [ht] at h5;cases h5
  | some xs=>
    rw [ht] at h5;simp only [ε] at h5;obtain ⟨⟨⟨⟨⟨⟨h6,h7⟩,h8⟩,h9⟩,h10⟩,h11⟩,h12⟩:=h5;have hst:Zn t=false:=by
      cases t with
      | nst i is=>
        exfalso;cases q:zb4 tgt with
        | none=>unfold chkT at h9;rw [if_pos (show Zn (.nst i is)=true from rfl),q] at h9;cases h9
        | some z=>rw [Ue q] at ht;cases ht
      | _=>rfl
    exact zbP ok h2 h4 (of_decide_eq_true h6) hst (eq_of_beq h7) (eq_of_beq h8) h9 (hI X c tgt iter ok h3) (λX ok'=>hF X _ cs ok' h11 (of_decide_eq_true h12)) λX ok'=>hE X _ y ok' h10
mutual
theorem sA (hcf:CfN B (cx noX)) (hm:Mono (cx noX)):∀ (e:E),SE Γ B cx k e
  | .var i=>λX c x ok h=>by
    have hb:Υ x.ctorIdx 23=true:=by revert h;cases x <;> first | exact non | exact λ_=>rfl
    revert h;apply vC hb;clear hb;intro n pos h;have h:(c.N[i]?==some n&&visK (c.names.lookup n)&&zJ n)=true:=h;rw [ε,ε] at h;obtain ⟨h1,h2,_⟩:=zF h.2;exact only (za1 (by rw [ok.N];exact eq_of_beq h.1.1) (ok.vis h.1.2) h1 h2) rfl λ_=>rfl
  | .con d=>λX c x ok h=>by
    have hb:Υ x.ctorIdx 19=true:=by revert h;cases x <;> first | exact non | exact λ_=>rfl
    revert h;apply qe hb;clear hb;intro q n pos h;obtain ⟨t,h1,h2⟩:=zhQ (Γ:=Γ) (X:=X) h;exact only (zfZ h1 h2 λ_ _ _ q=>q) rfl λ_=>rfl
  | .glo m d=>λX c x ok h=>by
    have hb:Υ x.ctorIdx 23=true:=by revert h;cases x <;> first | exact non | exact λ_=>rfl
    revert h;apply vC hb;clear hb;intro n pos h
    have h:((match B.consts[m]? with
      | some p=>p.1==n&&Uu p.2 d
      | none=>false)&&gloK (c.names.lookup n)&&zJ n)=true:=h
    rw [ε,ε] at h;cases e:B.consts[m]? with
    | none=>rw [e] at h;cases h.1.1
    | some q=>
      rw [e] at h;obtain ⟨y,d'⟩:=q;have h1:(y==n&&Uu d' d)=true:=h.1.1;rw [ε] at h1;have e1:=eq_of_beq h1.1;have e2:=Vh _ _ h1.2;subst e1 e2;obtain ⟨u,v,g1,g2,g3⟩:=ok.consts m y d' e;exact only (zfZ (Kw (ok.glob h.1.2) g1 g2 (zF h.2).1) g3 λ_ _ _ q=>q) rfl λ_=>rfl
  | .bin op a b=>λX c x ok h=>by
    have hb:Υ x.ctorIdx 2=true:=by revert h;cases x <;> first | exact non | exact λ_=>rfl
    revert h;apply zdU hb;clear hb;intro l op' r pos h;have h:(op==op'&&chkE B c a l&&chkE B c b r)=true:=h;rw [ε,ε] at h;have e1:=eq_of_beq h.1.1;subst e1;exact only (ziU ok.hK (sA hcf hm a X c l ok h.1.2).1 (sA hcf hm b X c r ok h.2).1) rfl λ_=>rfl
  | .neg a=>λX c x ok h=>by
    have hb:Υ x.ctorIdx 3=true:=by revert h;cases x <;> first | exact non | exact λ_=>rfl
    revert h;apply Yv hb;clear hb;intro op l pos h;have h:(op==PySem.UnaryOp.USub&&chkE B c a l)=true:=h;rw [ε] at h;have e1:=eq_of_beq h.1;subst e1;exact only (ziG (sA hcf hm a X c l ok h.2).1) rfl λ_=>rfl
  | .cmp op a b=>λX c x ok h=>by
    have hb:Υ x.ctorIdx 15=true:=by revert h;cases x <;> first | exact non | exact λ_=>rfl
    revert h;apply Yx hb;clear hb;intro l ops rs pos h
    match ops,rs,h with
    | [op'],[r],h=>
      have h:(op==op'&&chkE B c a l&&chkE B c b r&&wF r)=true:=h;rw [ε,ε,ε] at h;have e1:=eq_of_beq h.1.1.1;subst e1;have hm':my op r=false:=by cases r <;> first | rfl | cases h.2
      have:=ziR (pos:=pos) ok.hK ok.u61 (sA hcf hm a X c l ok h.1.1.2).1 (sA hcf hm b X c r ok h.1.2).1 hm';exact ⟨this.1,this.2,λq=>by cases q⟩
    | [],_,h=>exact nobE h
    | [_],[],h=>exact nobE h
    | [_],_::_::_,h=>exact nobE h
    | _::_::_,_,h=>exact nobE h
  | .chn o1 o2 a b d=>λX c x ok h=>by
    have hb:Υ x.ctorIdx 15=true:=by revert h;cases x <;> first | exact non | exact λ_=>rfl
    revert h;apply Yx hb;clear hb;intro l ops rs pos h
    match ops,rs,h with
    | [p1,p2],[r1,r2],h=>
      have h:(o1==p1&&o2==p2&&chkE B c a l&&chkE B c b r1&&chkE B c d r2&&wF r2)=true:=h;simp only [ε] at h;obtain ⟨⟨⟨⟨⟨h1,h2⟩,h3⟩,h4⟩,h5⟩,h6⟩:=h;have e1:=eq_of_beq h1;have e2:=eq_of_beq h2;subst e1 e2;have hm':lastMarks [o1,o2] [r1,r2]=false:=by cases r2 <;> first | rfl | cases h6
      have:=ziS (pos:=pos) ok.hK ok.u61 (sA hcf hm a X c l ok h3).1 (sA hcf hm b X c r1 ok h4).1 (sA hcf hm d X c r2 ok h5).1 hm';exact ⟨this.1,this.2,λq=>by cases q⟩
    | [],_,h=>exact nobE h
    | [_],_,h=>exact nobE h
    | [_,_],[],h=>exact nobE h
    | [_,_],[_],h=>exact nobE h
    | [_,_],_::_::_::_,h=>exact nobE h
    | _::_::_::_,_,h=>exact nobE h
  | .not a=>λX c x ok h=>by
    have hb:Υ x.ctorIdx 3=true:=by revert h;cases x <;> first | exact non | exact λ_=>rfl
    revert h;apply Yv hb;clear hb;intro op l pos h;have h:(op==PySem.UnaryOp.Not&&chkE B c a l)=true:=h;rw [ε] at h;have e1:=eq_of_beq h.1;subst e1;obtain ⟨i1,i2,_⟩:=sA hcf hm a X c l ok h.2;exact ⟨ziF i1,zfS i2,λq=>by cases q⟩
  | .and a b=>λX c x ok h=>by
    have hb:Υ x.ctorIdx 0=true:=by revert h;cases x <;> first | exact non | exact λ_=>rfl
    revert h;apply Zb hb;clear hb;intro op vs pos h
    match vs,h with
    | l::r::rest,h=>
      have h:(op==oH.And&&chkE B c a l&&chkE B c b (.BoolOp .And (r::rest) pos))=true:=h;rw [ε,ε] at h;have e1:=eq_of_beq h.1.1;subst e1;obtain ⟨i1,i2,_⟩:=sA hcf hm a X c l ok h.1.2;obtain ⟨j1,_,j3⟩:=sA hcf hm b X c _ ok h.2;have w:=zf1 i2 (j3 rfl);exact ⟨ziW i1 j1,w.pt,λ_=>w⟩
    | [],h=>exact nobE h
    | [_],h=>exact nobE h
  | .or a b=>λX c x ok h=>by
    have hb:Υ x.ctorIdx 0=true:=by revert h;cases x <;> first | exact non | exact λ_=>rfl
    revert h;apply Zb hb;clear hb;intro op vs pos h
    match vs,h with
    | l::r::rest,h=>
      have h:(op==oH.Or&&chkE B c a l&&chkE B c b (.BoolOp .Or (r::rest) pos))=true:=h;rw [ε,ε] at h;have e1:=eq_of_beq h.1.1;subst e1;obtain ⟨i1,i2,_⟩:=sA hcf hm a X c l ok h.1.2;obtain ⟨j1,_,j3⟩:=sA hcf hm b X c _ ok h.2;have w:=ziE i2 (j3 rfl);exact ⟨s_or i1 j1,w.pt,λ_=>w⟩
    | [],h=>exact nobE h
    | [_],h=>exact nobE h
  | .one a=>λX c x ok h=>by
    have hb:Υ x.ctorIdx 0=true:=by revert h;cases x <;> first | exact non | exact λ_=>rfl
    revert h;apply Zb hb;clear hb;intro op vs pos h
    match vs,h with
    | [l],h=>
      obtain ⟨i1,i2,_⟩:=sA hcf hm a X c l ok (show chkE B c a l=true from h);exact ⟨zgo i1,(zcj i2).pt,λ_=>zcj i2⟩
    | [],h=>exact nobE h
    | _::_::_,h=>exact nobE h
  | .ite t a b=>λX c x ok h=>by
    have hb:Υ x.ctorIdx 5=true:=by revert h;cases x <;> first | exact non | exact λ_=>rfl
    revert h;apply zdT hb;clear hb;intro l y z pos h;have h:(chkE B c t l&&chkE B c a y&&chkE B c b z)=true:=h;rw [ε,ε] at h;obtain ⟨_,i2,_⟩:=sA hcf hm t X c l ok h.1.1;obtain ⟨j1,j2,_⟩:=sA hcf hm a X c y ok h.1.2;obtain ⟨k1,k2,_⟩:=sA hcf hm b X c z ok h.2;exact ⟨ziK i2 j1 k1,zgf i2 j2 k2,λq=>by cases q⟩
  | .tup es=>λX c x ok h=>by
    have hb:Υ x.ctorIdx 25=true:=by revert h;cases x <;> first | exact non | exact λ_=>rfl
    revert h;apply zdQ hb;clear hb;intro xs kk pos h;exact only (zir (sEs hcf hm es X c xs ok h)) rfl λ_=>rfl
  | .lst es=>λX c x ok h=>by
    have hb:Υ x.ctorIdx 24=true:=by revert h;cases x <;> first | exact non | exact λ_=>rfl
    revert h;apply ofList hb;clear hb;intro xs pos h;exact only (ziI (sEs hcf hm es X c xs ok h)) rfl λ_=>rfl
  | .sub a i=>λX c x ok h=>by
    have hb:Υ x.ctorIdx 21=true:=by revert h;cases x <;> first | exact non | exact λ_=>rfl
    revert h;apply jm hb;clear hb;intro l y pos h;have h:(chkE B c a l&&chkE B c i y)=true:=h;rw [ε] at h;exact only (zit ok.hK ok.u1 (sA hcf hm a X c l ok h.1).1 (sA hcf hm i X c y ok h.2).1 (Uy h.2)) rfl λ_=>rfl
  | .slc a lo hi=>λX c x ok h=>by
    have hb:Υ x.ctorIdx 21=true:=by revert h;cases x <;> first | exact non | exact λ_=>rfl
    revert h;apply jm hb;clear hb;intro l y pos h;have hb:Υ y.ctorIdx 26=true:=by revert h;cases y <;> first | exact non | exact λ_=>rfl
    revert h;apply zdR hb;clear hb;intro lo' hi' st p2 h;cases st with
    | none=>
      have h:(chkE B c a l&&chkO B c lo lo'&&chkO B c hi hi')=true:=h;rw [ε,ε] at h;exact only (ziy ok.hK (sA hcf hm a X c l ok h.1.1).1 (sO hcf hm lo X c lo' ok h.1.2) (sO hcf hm hi X c hi' ok h.2)) rfl λ_=>rfl
    | some _=>exact nobE h
  | .bi b es=>λX c x ok h=>by
    have hb:Υ x.ctorIdx 16=true:=by revert h;cases x <;> first | exact non | exact λ_=>rfl
    revert h;apply uv hb;clear hb;intro f args kws pos h;have hb:Υ f.ctorIdx 23=true:=by revert h;cases f <;> first | exact non | exact λ_=>rfl
    revert h;apply vC hb;clear hb;intro n p h;cases kws with
    | nil=>
      cases b with
      | isinst t=>
        match es,args,h with
        | [],_,h=>exact (xX (show (_&&false)=true from h)).elim
        | _::_::_,_,h=>exact (xX (show (_&&false)=true from h)).elim
        | [_],[],h=>exact (xX (show (_&&false)=true from h)).elim
        | [_],[_],h=>exact (xX (show (_&&false)=true from h)).elim
        | [_],_::z::_::_,h=>cases z <;> exact (xX (show (_&&false)=true from h)).elim
        | [e],[y,z],h=>
          cases z with
          | Name z pz=>
            have h:(n==("isinstance":Str)&&B.bare.contains n&&B.bare.contains (tyN t)&&gloK (c.names.lookup n)&&(chkE B c e y&&notStar y&&z==tyN t&&gloK (c.names.lookup z)))=true:=h;simp only [ε] at h;obtain ⟨⟨⟨⟨h1,h2⟩,h3⟩,h4⟩,⟨⟨h5,h6⟩,h7⟩,h8⟩:=h;have e1:=eq_of_beq h1;have e2:=eq_of_beq h7;subst e1 e2;exact only (s_is ok (ok.glob h4) (ok.bare _ (Ϩ.mp h2)) (ok.glob h8) (ok.bare _ (Ϩ.mp h3)) h6 (sA hcf hm e X c y ok h5).1) rfl λ_=>rfl
          | _=>exact (xX (show (_&&false)=true from h)).elim
      | len=>exact ym ok rfl (show (n==biS .len&&B.bare.contains n&&gloK (c.names.lookup n)&&zT B c es args&&!es.isEmpty)=true from h) λq=>sRs hcf hm es X c args ok q
      | abs=>exact ym ok rfl (show (n==biS .abs&&B.bare.contains n&&gloK (c.names.lookup n)&&zT B c es args&&!es.isEmpty)=true from h) λq=>sRs hcf hm es X c args ok q
      | int=>exact ym ok rfl (show (n==biS .int&&B.bare.contains n&&gloK (c.names.lookup n)&&zT B c es args&&!es.isEmpty)=true from h) λq=>sRs hcf hm es X c args ok q
      | str=>exact ym ok rfl (show (n==biS .str&&B.bare.contains n&&gloK (c.names.lookup n)&&zT B c es args&&!es.isEmpty)=true from h) λq=>sRs hcf hm es X c args ok q
      | tuple=>exact ym ok rfl (show (n==biS .tuple&&B.bare.contains n&&gloK (c.names.lookup n)&&zT B c es args&&!es.isEmpty)=true from h) λq=>sRs hcf hm es X c args ok q
      | list=>exact ym ok rfl (show (n==biS .list&&B.bare.contains n&&gloK (c.names.lookup n)&&zT B c es args&&!es.isEmpty)=true from h) λq=>sRs hcf hm es X c args ok q
      | sum=>exact ym ok rfl (show (n==biS .sum&&B.bare.contains n&&gloK (c.names.lookup n)&&zT B c es args&&!es.isEmpty)=true from h) λq=>sRs hcf hm es X c args ok q
      | all=>exact ym ok rfl (show (n==biS .all&&B.bare.contains n&&gloK (c.names.lookup n)&&zT B c es args&&!es.isEmpty)=true from h) λq=>sRs hcf hm es X c args ok q
      | any=>exact ym ok rfl (show (n==biS .any&&B.bare.contains n&&gloK (c.names.lookup n)&&zT B c es args&&!es.isEmpty)=true from h) λq=>sRs hcf hm es X c args ok q
      | min2=>exact ym ok rfl (show (n==biS .min2&&B.bare.contains n&&gloK (c.names.lookup n)&&zT B c es args&&!es.isEmpty)=true from h) λq=>sRs hcf hm es X c args ok q
      | max2=>exact ym ok rfl (show (n==biS .max2&&B.bare.contains n&&gloK (c.names.lookup n)&&zT B c es args&&!es.isEmpty)=true from h) λq=>sRs hcf hm es X c args ok q
      | sorted=>exact ym ok rfl (show (n==biS .sorted&&B.bare.contains n&&gloK (c.names.lookup n)&&zT B c es args&&!es.isEmpty)=true from h) λq=>sRs hcf hm es X c args ok q
      | repr=>exact ym ok rfl (show (n==biS .repr&&B.bare.contains n&&gloK (c.names.lookup n)&&zT B c es args&&!es.isEmpty)=true from h) λq=>sRs hcf hm es X c args ok q
      | dict=>exact ym ok rfl (show (n==biS .dict&&B.bare.contains n&&gloK (c.names.lookup n)&&zT B c es args&&!es.isEmpty)=true from h) λq=>sRs hcf hm es X c args ok q
      | sset=>
        match es,args,h with
        | [],_,h=>exact (xX (show (_&&false)=true from h)).elim
        | _::_::_,_,h=>exact (xX (show (_&&false)=true from h)).elim
        | [_],[],h=>exact (xX (show (_&&false)=true from h)).elim
        | [_],_::_::_,h=>exact (xX (show (_&&false)=true from h)).elim
        | [e],[z],h=>
          have h9:(n==("sorted":Str)&&B.bare.contains n&&gloK (c.names.lookup n)&&(match Vg z with
            | some (y,u)=>y==("set":Str)&&B.bare.contains y&&gloK (c.names.lookup y)&&chkE B c e u&&notStar u
            | none=>false))=true:=h
          cases hz:Vg z with
          | none=>rw [hz] at h9;exact (xX h9).elim
          | some q=>
            obtain ⟨y,u⟩:=q;rw [hz] at h9;obtain ⟨py,pu,rfl⟩:=JS hz;simp only [ε] at h9;obtain ⟨⟨⟨h1,h2⟩,h3⟩,⟨⟨⟨h4,h5⟩,h6⟩,h7⟩,h8⟩:=h9;have e1:=eq_of_beq h1;have e2:=eq_of_beq h4;subst e1 e2;exact only (zfJ ok (ok.glob h6) (ok.bare _ (Ϩ.mp h5)) (ok.glob h3) (ok.bare _ (Ϩ.mp h2)) h8 (sA hcf hm e X c u ok h7).1) rfl λ_=>rfl
      | lset=>exact nobE h
      | trev=>exact nobE h
      | lrng=>exact nobE h
      | lrng2=>exact nobE h
    | cons _ _=>exact nobE h
  | .call f es=>λX c x ok h=>by
    have hb:Υ x.ctorIdx 16=true:=by revert h;cases x <;> first | exact non | exact λ_=>rfl
    revert h;apply uv hb;clear hb;intro q args kws pos h;have hb:Υ q.ctorIdx 23=true:=by revert h;cases q <;> first | exact non | exact λ_=>rfl
    revert h;apply vC hb;clear hb;intro n p h;cases kws with
    | nil=>
      have h:(B.fns[f]?==some n&&gloK (c.names.lookup n)&&zJ n&&zT B c es args&&!es.isEmpty)=true:=h;simp only [ε] at h;obtain ⟨⟨⟨⟨h1,h2⟩,h3⟩,h4⟩,h5⟩:=h;cases args with
      | nil=>
        cases es with
        | nil=>cases h5
        | cons _ _=>exact nobE h4
      | cons y ys=>exact only (s_call hcf ok (eq_of_beq h1) (qR h3) (ok.glob h2) (zF h3).1 (wZ h4) (sEs hcf hm es X c (y::ys) ok h4)) rfl λ_=>rfl
    | cons _ _=>exact nobE h
  | .callk f perm es=>λX c x ok h=>by
    have hb:Υ x.ctorIdx 16=true:=by revert h;cases x <;> first | exact non | exact λ_=>rfl
    revert h;apply uv hb;clear hb;intro q args kws pos h;have hb:Υ q.ctorIdx 23=true:=by revert h;cases q <;> first | exact non | exact λ_=>rfl
    revert h;apply vC hb;clear hb;intro n p h;cases args with
    | nil=>
      refine only (Jb hm ok ?_ λq=>sKs hcf hm es X c kws ok q) rfl λ_=>rfl
      cases kws <;> exact h
    | cons _ _=>exact nobE h
  | .comp t js it ifs elt=>λX c x ok h=>by
    have hb:Υ x.ctorIdx 8=true:=by revert h;cases x <;> first | exact non | exact λ_=>rfl
    revert h;apply qd hb;clear hb;intro y gens sc pos h
    match gens,h with
    | [⟨tgt,iter,cs,kk⟩],h=>exact only (Xa (λX c tgt x ok q=>sI hcf hm it X c tgt x ok q) (λX c xs ok q l=>sFs hcf hm ifs X c xs ok q l) (λX c x ok q=>(sA hcf hm elt X c x ok q).1) ok h).1 rfl λ_=>rfl
    | [],h=>exact nobE h
    | ⟨_,_,_,_⟩::⟨_,_,_,_⟩::_,h=>exact nobE h
  | .box e=>λX c x ok h=>by
    have h:(Km x&&chkE B c e x)=true:=h;rw [ε] at h
    have pe:PE X x (TX Γ (cx noX) (.box e)):=((sA hcf hm e X c x ok h.2).1).imp λσ H Q ⟨ρ,S,V,g,Hz,hw,w,env,kk⟩=>⟨ρ,S,_,g,Hz,hw,w,env,λy v H1 g1 S1 st w1 vx q=>by
      obtain ⟨d,k⟩:=y;cases k with
      | fr=>
        obtain ⟨g2,s2,w2,h2⟩:=zhZ st w1 vx;exact kk (.ref S1.length,.st) v H1 g2 _ s2 w2 h2 q
      | _=>exact q.elim⟩
    have hp:=h.1;cases x <;> first | exact only pe rfl λ_=>rfl | exact nobE hp
  | .dic tk ks es=>λX c x ok h=>by
    have hb:Υ x.ctorIdx 6=true:=by revert h;cases x <;> first | exact non | exact λ_=>rfl
    revert h;apply zgH hb;clear hb;intro keys vals pos h;have h:(Xh ks keys&&uD B c es vals&&decide (ks.length=es.length)&&decide (ks.length<=15))=true:=h;simp only [ε,decide_eq_true_eq] at h;obtain ⟨⟨⟨h1,h2⟩,h3⟩,h4⟩:=h;refine only ?_ rfl λ_=>rfl
    cases ks with
    | nil=>
      cases keys with
      | cons _ _=>exact nobE h1
      | nil=>
        cases es with
        | cons _ _=>cases h3
        | nil=>
          cases vals with
          | cons _ _=>exact nobE h2
          | nil=>
            cases tk with
            | true=>exact zdf (ks:=[])
            | false=>exact zdg
    | cons k0 ks=>
      have hps:=sPs (pos:=pos) hcf hm es X c vals (k0::ks) keys ok h2 h1 h3;obtain ⟨l1,l2⟩:=Xg h1;have l3:=Xe h2;have hd:=zfY hps l2 (by rw [<- l1,h3,l3]) (λz=>by rw [z] at l1;cases l1) (by rw [<- l1];exact h4);cases tk with
      | false=>exact hd
      | true=>exact hd.imp λσ H Q ⟨ρ,S,V,g,Hz,hw,w,env,kk⟩=>⟨ρ,S,V,g,Hz,zA hm es (λds S1 q=>by
        obtain ⟨hq,_⟩:=wz q;unfold zbL at hq
        simp at hq) hw,w,env,kk⟩
  | .mth m o es=>λX c x ok h=>by
    have hb:Υ x.ctorIdx 16=true:=by revert h;cases x <;> first | exact non | exact λ_=>rfl
    revert h;apply uv hb;clear hb;intro f args kws pos h;obtain ⟨w,ap,y,ys,rfl,rfl,rfl,h1,h2,h3,h4,h5⟩:=zgK h;exact only (ziH ok (sA hcf hm o X c w ok h1).1 (wZ h2) (sEs hcf hm es X c (y::ys) ok h2) h3 h4 h5) rfl λ_=>rfl
  | .att cs o f=>λX c x ok h=>nobE h
  | .met ms o m es=>λX c x ok h=>nobE h
  | .mk n f es=>λX c x ok h=>nobE h
  | .flip e=>λX c x ok h=>nobE h
  | .dk1 a b=>λX c x ok h=>nobE h
  | .lam f p js=>λX c x ok h=>by
    have hb:Υ x.ctorIdx 4=true:=by revert h;cases x <;> first | exact non | exact λ_=>rfl
    revert h;apply zbr hb;clear hb;intro pr b sc pos h;exact only (zfT ok h) rfl λ_=>rfl
  | .fgt e=>λX c x ok h=>by
    have hb:Υ x.ctorIdx 16=true:=by revert h;cases x <;> first | exact non | exact λ_=>rfl
    revert h;apply uv hb;clear hb;intro q args kws pos h;have h:(true&&c.fn&&chkE B ⟨c.names,c.N,false,c.tb⟩ e (.Call q args kws pos))=true:=h;rw [ε,gB] at h;exact only (ziN (ok.fn h.1) (sA hcf hm e X.ro ⟨c.names,c.N,false,c.tb⟩ _ ok.ro h.2).1) rfl λ_=>rfl
  | .cvl i es=>λX c x ok h=>by
    have hb:Υ x.ctorIdx 16=true:=by revert h;cases x <;> first | exact non | exact λ_=>rfl
    revert h;apply uv hb;clear hb;intro q args kws pos h;have hb:Υ q.ctorIdx 23=true:=by revert h;cases q <;> first | exact non | exact λ_=>rfl
    revert h;apply vC hb;clear hb;intro n p h;cases kws with
    | nil=>
      have h:(c.N[i]?==some n&&visK (c.names.lookup n)&&zJ n&&zT B c es args&&!es.isEmpty)=true:=h;simp only [ε] at h;obtain ⟨⟨⟨⟨h1,h2⟩,h3⟩,h4⟩,h5⟩:=h;obtain ⟨p1,p2,_⟩:=zF h3;cases args with
      | nil=>
        cases es with
        | nil=>cases h5
        | cons _ _=>exact nobE h4
      | cons y ys=>exact only (ziP ok.lm ok (by rw [ok.N];exact eq_of_beq h1) (ok.vis h2) p1 p2 (wZ h4) (sEs hcf hm es X c (y::ys) ok h4)) rfl λ_=>rfl
    | cons _ _=>exact nobE h
  | .callv i es=>λX c x ok h=>nobE h
  | .seq _=>λX c x ok h=>none_of λ_ _ _ q=>q
  | .rng _ _=>λX c x ok h=>none_of λ_ _ _ q=>q
  | .enum _=>λX c x ok h=>none_of λ_ _ _ q=>q
  | .zip _ _=>λX c x ok h=>none_of λ_ _ _ q=>q
  | .rev _=>λX c x ok h=>none_of λ_ _ _ q=>q
  | .dwn _=>λX c x ok h=>none_of λ_ _ _ q=>q
  | .keys _=>λX c x ok h=>none_of λ_ _ _ q=>q
  | .items _=>λX c x ok h=>none_of λ_ _ _ q=>q
theorem sRs (hcf:CfN B (cx noX)) (hm:Mono (cx noX)):∀ (es:List E) (X:Cx) (c:Cc) (xs:List Expr),XOk Γ B (spN Γ cx) k X c->zT B c es xs=true->PA X xs (TXr Γ (cx noX) es)
 | [],X,c,xs,ok,h=>by
  cases xs with
  | nil=>exact zdd
  | cons _ _=>exact nobE h
 | [e],X,c,xs,ok,h=>by
  cases xs with
  | nil=>exact nobE h
  | cons x xs=>
   have h:(chkE B c e x&&notStar x&&zT B c [] xs)=true:=h;rw [ε,ε] at h;cases xs with
   | nil=>exact yl (sA hcf hm e X c x ok h.1.1).1 xH (zj h.1.2 _ _)
   | cons _ _=>exact nobE h.2
 | e::f::es,X,c,xs,ok,h=>by
  cases xs with
  | nil=>exact nobE h
  | cons x xs=>
   have h:(chkE B c e x&&notStar x&&zT B c (f::es) xs)=true:=h;rw [ε,ε] at h;exact JZ h.1.2 (sA hcf hm e X c x ok h.1.1).1 (sEs hcf hm (f::es) X c xs ok h.2)
theorem sEs (hcf:CfN B (cx noX)) (hm:Mono (cx noX)):∀ (es:List E) (X:Cx) (c:Cc) (xs:List Expr),XOk Γ B (spN Γ cx) k X c->zT B c es xs=true->PA X xs (TXs Γ (cx noX) es)
 | [],X,c,xs,ok,h=>by
  cases xs with
  | nil=>exact zdd
  | cons _ _=>exact nobE h
 | e::es,X,c,xs,ok,h=>by
  cases xs with
  | nil=>exact nobE h
  | cons x xs=>
   have h:(chkE B c e x&&notStar x&&zT B c es xs)=true:=h;rw [ε,ε] at h;exact JZ h.1.2 (sA hcf hm e X c x ok h.1.1).1 (sEs hcf hm es X c xs ok h.2)
theorem sPs {pos:Pos}(hcf:CfN B (cx noX)) (hm:Mono (cx noX)):∀ (es:List E) (X:Cx) (c:Cc) (vals:List Expr) (ks:List Key) (keys:List (Option Expr)),XOk Γ B (spN Γ cx) k X c->uD B c es vals=true->Xh ks keys=true->ks.length=es.length->PPd X pos keys vals ks (TXs Γ (cx noX) es)
 | [],X,c,vals,ks,keys,ok,h,hk,hl=>by
  cases vals with
  | cons _ _=>exact nobE h
  | nil=>
   cases ks with
   | cons _ _=>cases hl
   | nil=>
    cases keys with
    | cons _ _=>exact nobE hk
    | nil=>exact zfQ
 | a::es,X,c,vals,ks,keys,ok,h,hk,hl=>by
  cases vals with
  | nil=>exact nobE h
  | cons x vals=>
   have h:(chkE B c a x&&uD B c es vals)=true:=h;rw [ε] at h;cases ks with
   | nil=>cases hl
   | cons k0 ks=>
    obtain ⟨q,n,p,r,rfl,hc,hr⟩:=qC hk;exact zdc (hc X) (sA hcf hm a X c x ok h.1).1 (sPs hcf hm es X c vals ks r ok h.2 hr (by simpa using hl))
theorem sKs (hcf:CfN B (cx noX)) (hm:Mono (cx noX)):∀ (es:List E) (X:Cx) (c:Cc) (kws:List bG),XOk Γ B (spN Γ cx) k X c->Xd B c es kws=true->PK X kws (TXs Γ (cx noX) es)
 | [],X,c,xs,ok,h=>by
  cases xs with
  | nil=>exact zfU
  | cons _ _=>exact nobE h
 | e::es,X,c,xs,ok,h=>by
  cases xs with
  | nil=>exact nobE h
  | cons q xs=>
   obtain ⟨n,x,kp⟩:=q;cases n with
   | none=>exact nobE h
   | some n=>
    have h:(chkE B c e x&&Xd B c es xs)=true:=h;rw [ε] at h;exact zde (sA hcf hm e X c x ok h.1).1 (sKs hcf hm es X c xs ok h.2)
theorem sI (hcf:CfN B (cx noX)) (hm:Mono (cx noX)):∀ (e:E) (X:Cx) (c:Cc) (tgt x:Expr),XOk Γ B (spN Γ cx) k X c->chkI B c e tgt x=true->PI X tgt x (TXi Γ (cx noX) e)
 | .seq e,X,c,tgt,x,ok,h=>ziA ok.hK (sA hcf hm e X c x ok h).1
 | .keys e,X,c,tgt,x,ok,h=>zfV (sA hcf hm e X c x ok h).1
 | .rng none hi,X,c,tgt,x,ok,h=>by
  have hb:Υ x.ctorIdx 16=true:=by revert h;cases x <;> first | exact non | exact λ_=>rfl
  revert h;apply uv hb;clear hb;intro q args kws pos h;have hb:Υ q.ctorIdx 23=true:=by revert h;cases q <;> first | exact non | exact λ_=>rfl
  revert h;apply vC hb;clear hb;intro n p h;cases kws with
  | nil=>
   match args,h with
   | [y],h=>
    have h:(n==("range":Str)&&B.bare.contains n&&gloK (c.names.lookup n)&&chkE B c hi y&&notStar y)=true:=h;simp only [ε] at h;obtain ⟨⟨⟨⟨h1,h2⟩,h3⟩,h4⟩,h5⟩:=h;have e1:=eq_of_beq h1;subst e1;exact zfN (ok.glob h3) (ok.bare _ (Ϩ.mp h2)) h5 (sA hcf hm hi X c y ok h4).1
   | [],h=>exact nobE h
   | _::_::_,h=>exact nobE h
  | cons _ _=>rcases args with _ | ⟨_,_ | ⟨_,_ | ⟨_,_⟩⟩⟩ <;> exact nobE h
 | .rng (some _) _,X,c,tgt,x,ok,h=>nobE h
 | .enum e,X,c,tgt,x,ok,h=>by
  have hb:Υ x.ctorIdx 16=true:=by revert h;cases x <;> first | exact non | exact λ_=>rfl
  revert h;apply uv hb;clear hb;intro q args kws pos h;have hb:Υ q.ctorIdx 23=true:=by revert h;cases q <;> first | exact non | exact λ_=>rfl
  revert h;apply vC hb;clear hb;intro n p h;cases kws with
  | nil=>
   match args,h with
   | [y],h=>
    have h:(zcC tgt&&n==("enumerate":Str)&&B.bare.contains n&&gloK (c.names.lookup n)&&chkE B c e y&&notStar y)=true:=h;simp only [ε] at h;obtain ⟨⟨⟨⟨⟨h0,h1⟩,h2⟩,h3⟩,h4⟩,h5⟩:=h;have e1:=eq_of_beq h1;subst e1;cases tgt with
    | Tuple elts kk tp=>exact zfX ok.hK (ok.glob h3) (ok.bare _ (Ϩ.mp h2)) h5 (sA hcf hm e X c y ok h4).1
    | _=>exact nobE h0
   | [],h=>exact nobE h
   | _::_::_,h=>exact nobE h
  | cons _ _=>rcases args with _ | ⟨_,_ | ⟨_,_⟩⟩ <;> exact nobE h
 | .var _,X,c,tgt,x,ok,h=>nobE h
 | .con _,X,c,tgt,x,ok,h=>nobE h
 | .glo _ _,X,c,tgt,x,ok,h=>nobE h
 | .bin _ _ _,X,c,tgt,x,ok,h=>nobE h
 | .neg _,X,c,tgt,x,ok,h=>nobE h
 | .cmp _ _ _,X,c,tgt,x,ok,h=>nobE h
 | .chn _ _ _ _ _,X,c,tgt,x,ok,h=>nobE h
 | .not _,X,c,tgt,x,ok,h=>nobE h
 | .and _ _,X,c,tgt,x,ok,h=>nobE h
 | .or _ _,X,c,tgt,x,ok,h=>nobE h
 | .ite _ _ _,X,c,tgt,x,ok,h=>nobE h
 | .tup _,X,c,tgt,x,ok,h=>nobE h
 | .lst _,X,c,tgt,x,ok,h=>nobE h
 | .dic _ _ _,X,c,tgt,x,ok,h=>nobE h
 | .sub _ _,X,c,tgt,x,ok,h=>nobE h
 | .slc _ _ _,X,c,tgt,x,ok,h=>nobE h
 | .bi _ _,X,c,tgt,x,ok,h=>nobE h
 | .mth _ _ _,X,c,tgt,x,ok,h=>nobE h
 | .call _ _,X,c,tgt,x,ok,h=>nobE h
 | .callk _ _ _,X,c,tgt,x,ok,h=>nobE h
 | .callv _ _,X,c,tgt,x,ok,h=>nobE h
 | .lam _ _ _,X,c,tgt,x,ok,h=>nobE h
 | .cvl _ _,X,c,tgt,x,ok,h=>nobE h
 | .fgt _,X,c,tgt,x,ok,h=>nobE h
 | .comp _ _ _ _ _,X,c,tgt,x,ok,h=>nobE h
 | .box _,X,c,tgt,x,ok,h=>nobE h
 | .one _,X,c,tgt,x,ok,h=>nobE h
 | .flip _,X,c,tgt,x,ok,h=>nobE h
 | .dk1 _ _,X,c,tgt,x,ok,h=>nobE h
 | .att _ _ _,X,c,tgt,x,ok,h=>nobE h
 | .met _ _ _ _,X,c,tgt,x,ok,h=>nobE h
 | .mk _ _ _,X,c,tgt,x,ok,h=>nobE h
 | .zip a b,X,c,tgt,x,ok,h=>nobE h
 | .dwn es,X,c,tgt,x,ok,h=>nobE h
 | .rev hi,X,c,tgt,x,ok,h=>nobE h
 | .items e,X,c,tgt,x,ok,h=>nobE h
theorem sFs (hcf:CfN B (cx noX)) (hm:Mono (cx noX)):∀ (es:List E) (X:Cx) (c:Cc) (xs:List Expr),XOk Γ B (spN Γ cx) k X c->uD B c es xs=true->es.length<=1->PTs X xs (TXf Γ (cx noX) es)
 | [],X,c,xs,ok,h,_=>by
  cases xs with
  | nil=>exact s_fn
  | cons _ _=>exact nobE h
 | [e],X,c,xs,ok,h,_=>by
  cases xs with
  | nil=>exact nobE h
  | cons x xs=>
   have h:(chkE B c e x&&uD B c [] xs)=true:=h;rw [ε] at h;cases xs with
   | nil=>exact s_f1 (sA hcf hm e X c x ok h.1).2.1
   | cons _ _=>cases (show false=true from h.2)
 | _::_::_,X,c,xs,ok,h,hl=>by exfalso;simp at hl
theorem sO (hcf:CfN B (cx noX)) (hm:Mono (cx noX)):∀ (o:Option E) (X:Cx) (c:Cc) (x:Option Expr),XOk Γ B (spN Γ cx) k X c->chkO B c o x=true->PO X x (TXo Γ (cx noX) o)
 | none,X,c,x,ok,h=>by
  cases x with
  | none=>exact ziD
  | some _=>exact nobE h
 | some o,X,c,x,ok,h=>by
  cases x with
  | none=>exact nobE h
  | some x=>exact s_po (sA hcf hm o X c x ok h).1
end
theorem sCS (hcf:CfN B (cx noX)) (hm:Mono (cx noX)) {t:T}{js:List Nat}{it:E}{ifs:List E}{elt:E}{X:Cx}{c:Cc}{x:Expr}(ok:XOk Γ B (spN Γ cx) k X c) (h:chkE B c (.comp t js it ifs elt) x=true):CSet X x (TX Γ (cx noX) (.comp t js it ifs elt)):=by
 have hb:Υ x.ctorIdx 8=true:=by revert h;cases x <;> first | exact non | exact λ_=>rfl
 revert h;apply qd hb;clear hb;intro y gens sc pos h
 match gens,h with
 | [⟨tgt,iter,cs,kk⟩],h=>exact (Xa (sI hcf hm it) (sFs hcf hm ifs) (λX c x ok q=>(sA hcf hm elt X c x ok q).1) ok h).2
 | [],h=>exact nobE h
 | ⟨_,_,_,_⟩::⟨_,_,_,_⟩::_,h=>exact nobE h
end
section
variable {X:Cx}{Γ:Gm}{Hz H:Hp}{gz g:G}{ρ:List Slot}{σ:L2.St}{S:Store}{x:Expr}{a:Addr}
theorem EnvO.zaS {i:Nat}{c c':D}{o':HO}(env:EnvO Γ Hz H g ρ σ) (hi:ρ[i]?=some (.ow c)) (ha:σ[i]?=some (some (.ref a))) (hc:zP Γ (upd H a o') g a c') (hin:Wx c'=false):EnvO Γ Hz (upd H a o') g (ρ.set i (.ow c')) σ:=by
 obtain ⟨a',e1,e2,e3,e4,e5,e6⟩:=env.ow i c hi;rw [ha] at e1;cases e1;refine ⟨by rw [ϥ];exact env.len,λj e q=>?_,λj e q=>?_,λj j' e e' b q1 q2 q3 q4=>?_⟩
 ·rcases zH q with ⟨rfl,h1,h2⟩ | ⟨h1,h2⟩
  ·cases h2
  ·exact env.sh j e h2
 ·rcases zH q with ⟨rfl,h1,h2⟩ | ⟨h1,h2⟩
  ·cases h2;exact ⟨a,ha,e2,e3,e4,hc,hin⟩
  ·obtain ⟨b,f1,f2,f3,f4,f5,f6⟩:=env.ow j e h2;have hb:b≠a:=by rintro rfl;exact h1 (env.inj i j c e b hi h2 ha f1)
   exact ⟨b,f1,f2,f3,f4,f5.mono (Le.refl g) λo z=>by rw [zc hb];exact z,f6⟩
 ·have ow:∀ {j:Nat}{e:D},(ρ.set i (Slot.ow c'))[j]?=some (.ow e)->∃ e,ρ[j]?=some (.ow e):=λ{j e} q=>by
   rcases zH q with ⟨rfl,h1,h2⟩ | ⟨h1,h2⟩
   ·exact ⟨c,hi⟩
   ·exact ⟨e,h2⟩
  obtain ⟨_,w1⟩:=ow q1;obtain ⟨_,w2⟩:=ow q2;exact env.inj j j' _ _ b w1 w2 q3 q4
theorem EnvO.zcT {o':HO}(env:EnvO Γ Hz H g ρ σ) (ha:a∈g.α):EnvO Γ Hz (upd H a o') g ρ σ:=by
 refine ⟨env.len,env.sh,λi d h=>?_,env.inj⟩;obtain ⟨b,f1,f2,f3,f4,f5,f6⟩:=env.ow i d h;have hb:b≠a:=by rintro rfl;exact f4 ha
 exact ⟨b,f1,f2,f3,f4,f5.mono (Le.refl g) λo z=>by rw [zc hb];exact z,f6⟩
theorem Step.ZK {H':Hp}{g':G}{o':HO}(s:Step H g H' g') (ha:a∈g'.α):Step H g (upd H' a o') g' where
 le:=s.le
 fr:=λb u e n=>by
  have hb:b≠a:=by
   rintro rfl;rcases s.na b ha with q | q
   ·exact n q
   ·rw [e] at q;cases q
  rw [zc hb];exact s.fr b u e n
 ex:=λb u e=>by
  by_cases hb:b=a
  ·subst hb;exact ⟨o',zr⟩
  ·rw [zc hb];exact s.ex b u e
 na:=s.na
 nr:=s.nr
theorem WOk.ZK {o':HO}{n:Nat}{c c':D}(w:WOk Γ H g S) (he:S[n]?=some c) (hg:gone c=false) (hn:g.α[n]?=some a) (hc:zP Γ (upd H a o') g a c'):WOk Γ (upd H a o') g (S.set n c') where
 rh:=λb u q=>by
  have hb:b≠a:=by rintro rfl;rw [w.off n c b he hn hg] at q;cases q
  rw [zc hb];exact w.rh b u q
 len:=by rw [ϥ];exact w.len
 nd:=w.nd
 off:=λk d b h1 h2 h3=>by
  rcases zH h1 with ⟨rfl,z1,rfl⟩ | ⟨z1,z2⟩
  ·rw [hn] at h2;cases h2;exact w.off _ c _ he hn hg
  ·exact w.off k d b z2 h2 h3
 cell:=λk c b h1 h2=>by
  rcases zH h1 with ⟨rfl,z1,rfl⟩ | ⟨z1,z2⟩
  ·rw [hn] at h2;cases h2;exact hc
  ·have hb:b≠a:=by rintro rfl;exact z1 ((nodup_inj w.nd hn h2))
   exact (w.cell k c b z2 h2).mono (Le.refl g) λo z=>by rw [zc hb];exact z
where
 nodup_inj:∀ {l:List Addr}{i j:Nat}{b:Addr},l.Nodup->l[i]?=some b->l[j]?=some b->i=j:=λ{l i j b} nd h1 h2=>by
  have hi:=(χ.mp h1).1;have hj:=(χ.mp h2).1;have e:l[i]?=l[j]?:=by rw [h1,h2]
  exact (pZ hi nd).mp e
theorem size_of {n:Nat}(h:fits (n+1)=true):n < sizeLine:=by have:=xJ h;lia
theorem Q7 {env:Env}{cpos:Pos}(hs:notStar x=true):((fW cpos (ϰ [x] env)).all (λx=>!x.1)&&(dj cpos (bj [] env)).all (λx=>x.1.isSome)
  &&decide (([x]:List Expr).length+([]:List bG).length+(if ([]:List bG).isEmpty then 0 else 1) < 30))=true:=by rw [zj hs];rfl
end
section
variable {κ:Type} [DecidableEq κ]
theorem Vu {α:Type}:∀ (ks:List κ) (ds:List α) (k:κ) (d:α),(mapK ks ds k d).length=ds.length
 | [],ds,_,_=>by cases ds <;> rfl
 | _::_,[],_,_=>rfl
 | a::ks,b::ds,k,d=>by simp [mapK,Vu ks ds k d]
theorem Jh:∀ (ks:List κ) (vs:List V) (k:κ),ks.length=vs.length->((ks.zip vs).any λkv=>decide (kv.1=k))=hasK ks k
 | [],[],_,_=>rfl
 | a::ks,v::vs,k,h=>by have:=Jh ks vs k (by simpa using h);unfold hasK at this ⊢;simp only [bu,fu,this]
 | [],_::_,_,h=>by simp at h
 | _::_,[],_,h=>by simp at h
theorem Jg:∀ (ks:List κ) (vs:List V) (k:κ) (v:V),(ks.zip vs).map (λkv=>if kv.1=k then (kv.1,v) else kv)=ks.zip (mapK ks vs k v)
 | [],vs,_,_=>by cases vs <;> rfl
 | _::_,[],_,_=>rfl
 | a::ks,u::vs,k,v=>by
  have:=Jg ks vs k v;simp only [bu,ϧ,this,mapK];by_cases h:a=k
  ·simp [h]
  ·simp [h]
theorem Vn {ks:List κ}{vs:List V}{k:κ}{v:V}(h:ks.length=vs.length):putK (ks.zip vs) k v=(yh ks vs k v).1.zip (yh ks vs k v).2:=by
 unfold putK yh;rw [Jh ks vs k h];by_cases q:hasK ks k=true
 ·rw [if_pos q,if_pos q,Jg]
 ·rw [if_neg q,if_neg q];simp [List.zip_append h]
theorem Yp {α:Type}{ks:List κ}{ds:List α}{k:κ}{d:α}(h:ks.length=ds.length):(yh ks ds k d).1.length=(yh ks ds k d).2.length:=by
 unfold yh;split
 ·simp [Vu,h]
 ·simp [h]
theorem YT {Γ:Gm}{g:G}:∀ {ks:List κ}{ds:List D}{vs:List V}{k:κ}{d:D}{v:V},Hass Γ g ds vs->Has Γ g d v->Hass Γ g (mapK ks ds k d) (mapK ks vs k v)
 | [],ds,vs,_,_,_,h,_=>by
  have e1:mapK ([]:List κ) ds=λ_ _=>ds:=by funext a b;cases ds <;> rfl
  have e2:mapK ([]:List κ) vs=λ_ _=>vs:=by funext a b;cases vs <;> rfl
  rw [e1,e2];exact h
 | _::_,[],vs,_,_,_,h,_=>by cases (show vs=[] from h);exact rfl
 | a::ks,b::ds,_,k,d,v,⟨u,r,e,h1,h2⟩,hd=>by
  subst e;refine ⟨if a=k then v else u,mapK ks r k v,rfl,?_,YT h2 hd⟩;split
  ·exact hd
  ·exact h1
theorem qt {Γ:Gm}{g:G}{ks:List κ}{ds:List D}{vs:List V}{k:κ}{d:D}{v:V}(h:Hass Γ g ds vs) (hd:Has Γ g d v):Hass Γ g (yh ks ds k d).2 (yh ks vs k v).2:=by
 unfold yh;split
 ·exact YT h hd
 ·exact h.app (Hass.mk1 hd)
theorem kY {α β:Type}{ks:List κ}{ds:List α}{es:List β}{k:κ}{d:α}{e:β}:(yh ks ds k d).1=(yh ks es k e).1:=by unfold yh;split <;> rfl
end
def zf8:TSet:=λo i v H Q=>zf9 o i v H Q\/∃ a H',o=.ref a/\DPut H a i v H'/\Q H'
theorem JR {X:Cx}(hu:X.A.units+1 < ϸ):PSet X zf8:=by
 intro pJ s σ H o i v ov iv u Q I r1 r2 r3 h;rcases h with h | ⟨a,H',rfl,hp,q⟩
 ·exact set_list pJ s σ H o i v ov iv u Q I r1 r2 r3 h
 ·cases r1;exact zae hu I hp r2 r3 λs' I'=>⟨H',I',q⟩
set_option tactic.hygienic true in
theorem Vm {Γ:Gm}{H:Hp}{g:G}{a:Addr}{c c' kd d:D}{vk vd:V}(h:putD c kd d=some c') (hc:zP Γ H g a c) (sm:Same g.R H) (hk:Has Γ g kd vk) (hd:Has Γ g d vd):
    ∃ o',(∀ Q:Hp->Prop,Q (upd H a o')->zf8 (.ref a) vk vd H Q)/\zP Γ (upd H a o') g a c'/\Wx c'=false:=by
  cases c with
  | lst l=>
   cases kd with
   | int i=>
    have h:(idx l.length i).map (λk=>D.lst (l.set k d))=some c':=h;cases e:idx l.length i with
    | none=>rw [e] at h;cases h
    | some j=>
      rw [e] at h;cases h;obtain ⟨vs,h1,h2⟩:=hc;cases (show vk=.int i from hk);refine ⟨.lst (vs.set j vd),λQ q=>.inl ⟨a,vs,i,j,rfl,rfl,h1,by rw [h2.len];exact e,q⟩,⟨_,zr,h2.set j hd⟩,rfl⟩
   | _=>cases h
  | dK ks ds=>
    have h:(keyD kd).bind (λk=>if fits (ks.length+1) then some (let p:=yh ks ds k d;D.dK p.1 p.2) else none)=some c':=by cases kd <;> exact h
    cases e:keyD kd with
    | none=>rw [e] at h;cases h
    | some k=>
      rw [e] at h;have h:(if fits (ks.length+1)=true then some (D.dK (yh ks ds k d).1 (yh ks ds k d).2) else none)=some c':=h;split at h
      · rename_i hf
        cases h;obtain ⟨vs,h1,h2,h3⟩:=hc;have ek:=VB e hk;subst ek;have el:ks.length=vs.length:=by rw [h3.len];exact h2
        refine ⟨.dK ((yh ks vs k vd).1.zip (yh ks vs k vd).2),λQ q=>.inr ⟨a,_,rfl,DPut.k h1 (by rw [ig];have:=size_of hf;lia),?_⟩,⟨_,?_,Yp h2,qt h3 hd⟩,rfl⟩
        · rw [Vn el];exact q
        · rw [zr,kY (ds:=ds) (es:=vs) (d:=d) (e:=vd)]
      · cases h
  | dT ks ds=>
   cases kd with
   | tup t=>
    have h:(Zg t).bind (λk=>if fits (ks.length+1) then some (let p:=yh ks ds k d;D.dT p.1 p.2) else none)=some c':=h;cases e:Zg t with
    | none=>rw [e] at h;cases h
    | some k=>
      rw [e] at h;have h:(if fits (ks.length+1)=true then some (D.dT (yh ks ds k d).1 (yh ks ds k d).2) else none)=some c':=h;split at h
      · rename_i hf
        cases h;obtain ⟨vs,h1,h2,h3⟩:=hc;obtain ⟨b,us,rfl,h4,h5⟩:=hk;have ek:=uU e h5;subst ek;have el:ks.length=vs.length:=by rw [h3.len];exact h2
        refine ⟨.dT ((yh ks vs k vd).1.zip (yh ks vs k vd).2),λQ q=>.inr ⟨a,_,rfl,DPut.t h1 (sm _ _ h4) (by rw [ig];have:=size_of hf;lia),?_⟩,⟨_,?_,Yp h2,qt h3 hd⟩,rfl⟩
        · rw [Vn el];exact q
        · rw [zr,kY (ds:=ds) (es:=vs) (d:=d) (e:=vd)]
      · cases h
   | _=>cases h
  | _=>cases h
structure EN (Γ:Gm) (Hz:Hp) (gz g:G) (E:Ends) (K:Ko):Prop where
 nx:∀ ρ σ H g' S,Step Hz gz H g'->Le g g'->WOk Γ H g' S->EnvO Γ Hz H g' ρ σ->K (.next ρ) S->E.nx σ H
 bk:∀ ρ σ H g' S,Step Hz gz H g'->Le g g'->WOk Γ H g' S->EnvO Γ Hz H g' ρ σ->K (.brk ρ) S->E.bk σ H
 ct:∀ ρ σ H g' S,Step Hz gz H g'->Le g g'->WOk Γ H g' S->EnvO Γ Hz H g' ρ σ->K (.cnt ρ) S->E.ct σ H
 rt:∀ d fr v H g' S,Step Hz gz H g'->Le g g'->WOk Γ H g' S->VOk Γ Hz d fr v H g'->K (.ret d fr) S->E.rt v H
theorem EN.le {Γ:Gm}{Hz:Hp}{gz g g1:G}{E:Ends}{K:Ko}(n:EN Γ Hz gz g E K) (le:Le g g1):EN Γ Hz gz g1 E K:=
 ⟨λρ σ H g' S st l=>n.nx ρ σ H g' S st (le.trans l),λρ σ H g' S st l=>n.bk ρ σ H g' S st (le.trans l),λρ σ H g' S st l=>n.ct ρ σ H g' S st (le.trans l),λd fr v H g' S st l=>n.rt d fr v H g' S st (le.trans l)⟩
def TK (Γ:Gm) (Hz:Hp) (gz:G) (W:List Slot->Ko->Store->Prop):TS:=λE σ H=>∃ ρ S K g,W ρ K S/\Step Hz gz H g/\WOk Γ H g S/\EnvO Γ Hz H g ρ σ/\EN Γ Hz gz g E K
theorem goK {Γ:Gm}{Hz:Hp}{gz:G}{W:List Slot->Ko->Store->Prop}{E:Ends}{σ:L2.St}{H:Hp}{P:Prop}(h:TK Γ Hz gz W E σ H) (f:∀ ρ S K g,W ρ K S->Step Hz gz H g->WOk Γ H g S->EnvO Γ Hz H g ρ σ->EN Γ Hz gz g E K->P):P:=
 let ⟨ρ,S,K,g,a,b,c,d,e⟩:=h;f ρ S K g a b c d e
abbrev TC (Γ:Gm) (cx:Xp->Cf) (ex:Xp) (w:Nat) (Hz:Hp) (gz:G) (c:C):TS:=TK Γ Hz gz (wpC cx ex w c)
abbrev TCs (Γ:Gm) (cx:Xp->Cf) (ex:Xp) (w:Nat) (Hz:Hp) (gz:G) (cs:List C):TS:=TK Γ Hz gz (wpCs cx ex w cs)
section
variable {X:Cx}{Γ:Gm}{cx:Xp->Cf}{ex:Xp}{w:Nat}{Hz:Hp}{gz:G}{st:Stmt}{sts aa bb:List Stmt}{x y z tgt o:Expr}{pos p spos:Pos}{e a b:E}{s:C}{ss A B:List C}
theorem kh {i:Expr}(h:∀ lo hi st p,i≠.Slice lo hi st p) (v:δ) (env:Env):gF (.Subscript o i pos) env v=(do
   let ov <- gR [v] (eval o env)
   let iv <- gR [v,ov] (eval i env)
   standAt pos
   gR [v,ov,iv] (setItem ov iv v)
   release [v,ov,iv] []):=by cases i <;> first | rfl | exact absurd rfl (h _ _ _ _)
theorem zfR:PS X (.Pass pos) (TC Γ cx ex w Hz gz .pass):=zdy.imp λE σ H h0=>goK h0 λρ S K g hw st wk env n=>n.nx ρ σ H g S st (Le.refl g) wk env hw
theorem ziT:PS X (.Break pos) (TC Γ cx ex w Hz gz .brk):=zbb.imp λE σ H h0=>goK h0 λρ S K g hw st wk env n=>n.bk ρ σ H g S st (Le.refl g) wk env hw
theorem ziQ:PS X (.Continue pos) (TC Γ cx ex w Hz gz .cnt):=X6.imp λE σ H h0=>goK h0 λρ S K g hw st wk env n=>n.ct ρ σ H g S st (Le.refl g) wk env hw
theorem zfK:PSs X [] (TCs Γ cx ex w Hz gz []):=Kg.imp λE σ H h0=>goK h0 λρ S K g hw st wk env n=>n.nx ρ σ H g S st (Le.refl g) wk env hw
theorem zdb (h1:PS X st (TC Γ cx ex w Hz gz s)) (h2:PSs X sts (TCs Γ cx ex w Hz gz ss)):PSs X (st::sts) (TCs Γ cx ex w Hz gz (s::ss)):=
 (qY h1 h2).imp λE σ H h0=>goK h0 λρ S K g hw st wk env n=>⟨ρ,S,_,g,hw,st,wk,env,λρ' σ' H' g' S' st' le w' env' q=>⟨ρ',S',K,g',q,st',w',env',n.le le⟩,n.bk,n.ct,n.rt⟩
theorem zeu {H:Hp}{g:G}{ρ:List Slot}{σ:L2.St}{S:Store}{i:Nat}(st:Step Hz gz H g) (wk:WOk Γ H g S) (env:EnvO Γ Hz H g ρ σ):∃ g',Step Hz gz H g'/\Le g g'/\WOk Γ H g' S/\EnvO Γ Hz H g' (ρ.set i (fz ((ρ[i]?).getD .no))) σ:=by
 have same:∀ s,ρ[i]?=some s->ρ.set i s=ρ:=λs h=>by
  apply p6;intro j;by_cases hj:i=j
  ·subst hj;rw [Ϗ (χ.mp h).1,h]
  ·rw [Ζ hj]
 cases e:ρ[i]? with
 | none=>
  refine ⟨g,st,Le.refl g,wk,?_⟩;rw [n8 (List.getElem?_eq_none_iff.mp e)];exact env
 | some s=>
  cases s with
  | no=>exact ⟨g,st,Le.refl g,wk,by rw [show fz ((some Slot.no).getD .no)=.no from rfl,same _ e];exact env⟩
  | sh d=>exact ⟨g,st,Le.refl g,wk,by rw [show fz ((some (Slot.sh d)).getD .no)=.sh d from rfl,same _ e];exact env⟩
  | ow d=>
   obtain ⟨a,h1,h2,h3,h4,h5,h6⟩:=env.ow i d e;obtain ⟨ob,ho,_⟩:=h5.U9;have le:Le g (g.put a ob):=Le.put h3;refine ⟨g.put a ob,st.put h3 h2,le,wk.put ho h3 h4,by simp [env.len],λj d' q=>?_,λj d' q=>?_,λj j' d1 d2 b q1 q2 q3 q4=>?_⟩
   ·rcases zH q with ⟨rfl,_,z⟩ | ⟨_,z⟩
    ·cases z;exact ⟨.ref a,h1,qu h3 ho h5⟩
    ·obtain ⟨v,f1,f2⟩:=env.sh j d' z;exact ⟨v,f1,f2.mono le⟩
   ·rcases zH q with ⟨rfl,_,z⟩ | ⟨hne,z⟩
    ·cases z
    ·obtain ⟨b,f1,f2,f3,f4,f5,f6⟩:=env.ow j d' z;have hb:b≠a:=by rintro rfl;exact hne (env.inj i j d d' b e z h1 f1)
     exact ⟨b,f1,f2,by show upd g.R a ob b=none;rw [zc hb];exact f3,f4,f5.mono le λ_ z=>z,f6⟩
   ·rcases zH q1 with ⟨_,_,z⟩ | ⟨_,z1⟩
    ·cases z
    rcases zH q2 with ⟨_,_,z⟩ | ⟨_,z2⟩
    ·cases z
    exact env.inj j j' d1 d2 b z1 z2 q3 q4
theorem za8 {c kd d c':D}(h:putD c kd d=some c'):gone c=false:=by cases c <;> first | rfl | cases h
theorem ziL {i:Nat}(h2:PSs X sts (TCs Γ cx ex w Hz gz ss)):PSs X sts (TCs Γ cx ex w Hz gz (.frz i::ss)):=
 h2.imp λE σ H h0=>goK h0 λρ S K g hw st wk env n=>by obtain ⟨g',st',le,w',env'⟩:=zeu (i:=i) st wk env;exact ⟨_,S,K,g',hw,st',w',env',n.le le⟩
theorem zfW (h:PE X x (TX Γ (cx noX) e)) (hs:iw x none pos.line X.env=pure false):PS X (.Expr x pos) (TC Γ cx ex w Hz gz (.expr e)):=
 (X5 h hs).imp λE σ H h0=>goK h0 λρ S K g hw st wk env n=>⟨ρ,S,_,g,Hz,hw,wk,env,λx v H1 g1 S1 s1 w1 vx q=>n.nx ρ σ H1 g1 S1 (st.trans s1) s1.le w1 (zu env s1) q⟩
theorem ziC (hn:∀ i,e≠.var i) (h:PE X x (TX Γ (cx noX) e)):PS X (.Return (some x) pos) (TC Γ cx ex w Hz gz (.ret e)):=
 (zcn h).imp λE σ H h0=>goK h0 λρ S K g hw st wk env n=>by
  have hw:wpE (cx noX) ρ e (λx S1=>retV x λo=>K o S1) S:=by cases e <;> first | exact absurd rfl (hn _) | exact hw
  refine ⟨ρ,S,_,g,Hz,hw,wk,env,λx v H1 g1 S1 s1 w1 vx q=>?_⟩;obtain ⟨d,k⟩:=x;cases k with
  | st=>exact n.rt d false v H1 g1 S1 (st.trans s1) s1.le w1 vx q
  | fr=>exact n.rt d true v H1 g1 S1 (st.trans s1) s1.le w1 (vx.back st) q
  | bo=>exact q.elim
theorem zfO {i:Nat}{n:Str}(hN:X.N[i]?=some n) (hv:Vis X.env.scope n) (hd:(n==("__debug__":Str))=false) (hcd:(n==("__classdict__":Str))=false):PS X (.Return (some (.Name n p)) pos) (TC Γ cx ex w Hz gz (.ret (.var i))):=
 (zcn (jl hN hv hd hcd)).imp λE σ H h0=>goK h0 λρ S K g hw st wk env n=>by
  have hw:sel ρ[i]? (λd=>K (.ret d false) S) (λd=>K (.ret d true) S):=hw;cases e:ρ[i]? with
  | none=>rw [e] at hw;exact hw.elim
  | some s=>
   rw [e] at hw;cases s with
   | no=>exact hw.elim
   | sh d=>
    obtain ⟨v,h1,h2⟩:=env.sh i d e;exact ⟨v,h1,n.rt d false v H g S st (Le.refl g) wk h2 hw⟩
   | ow d=>
    obtain ⟨a,h1,h2,h3,h4,h5,h6⟩:=env.ow i d e;exact ⟨.ref a,h1,n.rt d true _ H g S st (Le.refl g) wk ⟨a,rfl,h2,h3,h4,h5⟩ hw⟩
theorem zfP:PS X (.Return none pos) (TC Γ cx ex w Hz gz .retN):=zdx.imp λE σ H h0=>goK h0 λρ S K g hw st wk env n=>n.rt .non false .non H g S st (Le.refl g) wk rfl hw
theorem s_if (h:PT X x (TB Γ (cx noX) e)) (ha:PSs X aa (TCs Γ cx ex w Hz gz A)) (hb:PSs X bb (TCs Γ cx ex w Hz gz B)):PS X (.If x aa bb pos) (TC Γ cx ex w Hz gz (.ite e A B)):=
 (zi8 h ha hb).imp λE σ H h0=>goK h0 λρ S K g hw st wk env n=>⟨ρ,S,_,g,Hz,hw,wk,env,λx H1 g1 S1 s1 w1 h=>by
  obtain ⟨r,e,q⟩:=vI h;rw [e];show (if r=true then _ else _)
  cases r with
  | true=>exact iteT ⟨ρ,S1,K,g1,q,st.trans s1,w1,zu env s1,n.le s1.le⟩
  | false=>exact iteF ⟨ρ,S1,K,g1,q,st.trans s1,w1,zu env s1,n.le s1.le⟩⟩
theorem fresh_ne {H:Hp}{g:G}{ρ:List Slot}{σ:L2.St}{v:V}{d:D}{H1:Hp}{g1:G}(env:EnvO Γ Hz H g ρ σ) (vx:VN Γ H (d,.fr) v H1 g1):∀ (i:Nat) (d:D),ρ[i]?=some (.ow d)->σ[i]?≠some (some v):=λi d' hi e=>by obtain ⟨a,rfl,h0,_⟩:=vx;obtain ⟨b,f1,_,_,_,f5,_⟩:=env.ow i d' hi;rw [f1] at e;cases e;obtain ⟨o,ho,_⟩:=f5.U9;rw [h0] at ho;cases ho
theorem JQ {H H1:Hp}{g g1:G}{ρ ρ2:List Slot}{σ:L2.St}{S1:Store}{t:T}{x:Vl}{v:V}{E:Ends}{K:Ko}(st:Step Hz gz H g) (env:EnvO Γ Hz H g ρ σ) (n:EN Γ Hz gz g E K) (s1:Step H g H1 g1) (w1:WOk Γ H1 g1 S1) (vx:VN Γ H x v H1 g1) (hb:zax ρ t x=some ρ2) (q:K (.next ρ2) S1):tgOf X.K t v σ H1 λσ' H'=>E.nx σ' H':=by
 have env1:=zu env s1;obtain ⟨d,k⟩:=x;cases k with
 | st=>exact qT (fr:=false) hb env1 w1.rh vx (λh=>by cases h) λσ' env'=>n.nx _ σ' H1 g1 S1 (st.trans s1) s1.le w1 env' q
 | fr=>exact qT (fr:=true) hb env1 w1.rh (vx.back st) (λ_=>fresh_ne env vx) λσ' env'=>n.nx _ σ' H1 g1 S1 (st.trans s1) s1.le w1 env' q
 | bo=>cases hb
noncomputable def zdX:E->Bool
 | .box _=>false
 | _=>true
theorem zcg {ρ:List Slot}{t:T}{K:Ko}{S:Store}(hn:zdX e=true) (hw:wpC cx ex w (.set t e) ρ K S):wpE (cx noX) ρ e (λx S1=>opt (zax ρ t x) λρ2=>K (.next ρ2) S1) S:=by cases e <;> first | exact hw | cases hn
theorem ziz {t:T}(hn:zdX e=true) (h:PE X x (TX Γ (cx noX) e)) (hg:PG X tgt (tgOf X.K t)) (hs:dq [tgt] x pos.line X.env=pure false) (hw:cI [tgt] x X.env=pure none) (ha:(bz [tgt] X.env).map (·.2)=[gF tgt X.env]):PS X (.Assign [tgt] x pos) (TC Γ cx ex w Hz gz (.set t e)):=
 (kZ h hg hs hw ha).imp λE σ H h0=>goK h0 λρ S K g hw st wk env n=>⟨ρ,S,_,g,Hz,zcg hn hw,wk,env,λx v H1 g1 S1 s1 w1 vx q=>by
  obtain ⟨ρ2,hb,q⟩:=zQ q
  exact JQ (X:=X) st env n s1 w1 vx hb q⟩
theorem zfM {t:T}(h:PE X x (TX Γ (cx noX) e)) (hg:PG X tgt (tgOf X.K t)) (hs:dq [tgt] x pos.line X.env=pure false) (hw:cI [tgt] x X.env=pure none) (ha:(bz [tgt] X.env).map (·.2)=[gF tgt X.env]):PS X (.Assign [tgt] x pos) (TC Γ cx ex w Hz gz (.set t (.box e))):=
 (kZ h hg hs hw ha).imp λE σ H h0=>goK h0 λρ S K g hw st wk env n=>⟨ρ,S,_,g,Hz,hw,wk,env,λx v H1 g1 S1 s1 w1 vx q=>by
  obtain ⟨d,k⟩:=x;cases k with
  | fr=>
   obtain ⟨ρ2,hb,q⟩:=zQ q;obtain ⟨g2,s2,w2,h2⟩:=zhZ s1 w1 vx;exact JQ (X:=X) (x:=(.ref S1.length,.st)) st env n s2 w2 h2 hb q
  | _=>exact q.elim⟩
theorem zfL {t:T}{js:List Nat}{it elt:E}{ifs:List E}{i:Nat}{n:Str}{np:Pos}(h:CSet X x (TX Γ (cx noX) (.comp t js it ifs elt))) (hp:PG X (.Name n np) (Zr i)) (hsw:iw x (some (.Name n np)) pos.line X.env=pure true):PS X (.Assign [.Name n np] x pos) (TC Γ cx ex w Hz gz (.set (.one i) (.comp t js it ifs elt))):=
 (h n np pos i hp hsw).imp λE σ H h0=>goK h0 λρ S K g hw st wk env n=>⟨ρ,S,_,g,Hz,zcg rfl hw,wk,env,λx v H1 g1 S1 s1 w1 vx q=>by
  obtain ⟨ρ2,hb,q⟩:=zQ q
  exact JQ (X:=X) (t:=.one i) st env n s1 w1 vx hb q⟩
theorem zda (ht:PT X x (TB Γ (cx noX) e)) (hb:PSs X aa (TCs Γ cx ex w Hz gz A)) (hp:lQ (Ν X.prog X.w) X.A X.env X.xe):PS X (.While x aa [] pos) (TC Γ cx ex w Hz gz (.whl e A)):=
 (zba hp ht hb).imp λE σ H h0=>goK h0 λρ S K g hw st wk env n=>by
  have hw:whlW (λρ=>wpE (cx noX) ρ e) (λρ=>wpCs cx ex w A ρ) w ρ K S:=hw;refine ⟨λm σ H=>∃ ρ S g1,whlW (λρ=>wpE (cx noX) ρ e) (λρ=>wpCs cx ex w A ρ) m ρ K S/\Step Hz gz H g1/\Le g g1/\WOk Γ H g1 S/\EnvO Γ Hz H g1 ρ σ,⟨w,ρ,S,g,hw,st,Le.refl g,wk,env⟩,?_⟩;rintro m σ H ⟨ρ,S,g1,hw,st,le,wk,env⟩;cases m with
  | zero=>exact hw.elim
  | succ m=>
   refine ⟨ρ,S,_,g1,Hz,hw,wk,env,λx H2 g2 S2 s2 w2 h=>?_⟩;obtain ⟨r,e,q⟩:=vI h;rw [e];show (if r=true then _ else _)
   cases r with
   | false=>exact iteF (n.nx ρ σ H2 g2 S2 (st.trans s2) (le.trans s2.le) w2 (zu env s2) q)
   | true=>
    refine iteT ⟨λσ' H'=>∃ ρ S g1,whlW (λρ=>wpE (cx noX) ρ _) (λρ=>wpCs cx ex w A ρ) m ρ K S/\Step Hz gz H' g1/\Le g g1/\WOk Γ H' g1 S/\EnvO Γ Hz H' g1 ρ σ',λσ' H' q=>⟨m,fj m,q⟩,ρ,S2,_,g2,q,st.trans s2,w2,zu env s2,?_⟩;have l2:=le.trans s2.le;exact ⟨λρ' σ' H' g' S' st' l w' env' q=>⟨ρ',S',g',q,st',l2.trans l,w',env'⟩,λρ' σ' H' g' S' st' l w' env' q=>n.nx ρ' σ' H' g' S' st' (l2.trans l) w' env' q,λρ' σ' H' g' S' st' l w' env' q=>⟨ρ',S',g',q,st',l2.trans l,w',env'⟩,λd fr v H' g' S' st' l w' vo q=>n.rt d fr v H' g' S' st' (l2.trans l) w' vo q⟩
theorem ziM {t:T}{it:E}(hi:PI X tgt x (TXi Γ (cx noX) it)) (hg:PG X tgt (tgOf X.K t)) (hb:PSs X aa (TCs Γ cx ex w Hz gz A)) (hp:lQ (Ν X.prog X.w) X.A X.env X.xe) (hc:X.calm=true) (hs:∀ v,cC x X.env v=pure v):PS X (.For tgt x aa [] pos) (TC Γ cx ex w Hz gz (.forr t it A)):=
 (zgg hp hc hi hg hb hs).imp λE σ H h0=>goK h0 λρ S K g hw st wk env n=>⟨ρ,S,_,g,Hz,hw,wk,env,λl J H1 g1 S1 s1 w1 hJ h1=>by
  refine ⟨λi m σ H=>m=l.length - i/\i<=l.length/\∃ ρ S g2,forW t (λρ=>wpCs cx ex w A ρ) (l.drop i) ρ K S/\Step Hz gz H g2/\Le g1 g2/\WOk Γ H g2 S/\EnvO Γ Hz H g2 ρ σ,⟨_,rfl,ϴ _,ρ,S1,g1,h1,st.trans s1,Le.refl g1,w1,zu env s1⟩,?_⟩;rintro i m σ H ⟨rfl,hi,ρ,S,g2,hw,st2,le,wk,env⟩;by_cases hlt:i < l.length
  ·refine .inr ⟨hJ.go i H g2 le wk.rh hlt,λσ' H'=>∃ ρ S g3,forW t (λρ=>wpCs cx ex w A ρ) (l.drop (i+1)) ρ K S/\Step Hz gz H' g3/\Le g1 g3/\WOk Γ H' g3 S/\EnvO Γ Hz H' g3 ρ σ',λσ' H' q=>⟨l.length - (i+1),by omega,rfl,hlt,q⟩,λz H3 hy=>?_⟩;obtain ⟨g3,st3,_,w3,hz⟩:=hJ.yld i H g2 S z H3 l[i] le wk (π hlt) hy;rw [dH hlt] at hw;obtain ⟨ρ',es,hw⟩:=zQ (show opt (yK ρ t (l[i],false)) _ from hw);have l3:=le.trans st3.le;have l4:=s1.le.trans l3;refine qT (fr:=false) es (zu env st3) w3.rh hz (λh=>by cases h) λσ3 env3=>⟨ρ',S,_,g3,hw,st2.trans st3,w3,env3,?_⟩
   exact ⟨λρ' σ' H' g' S' st' l w' env' q=>⟨ρ',S',g',q,st',l3.trans l,w',env'⟩,λρ' σ' H' g' S' st' l w' env' q=>n.nx ρ' σ' H' g' S' st' (l4.trans l) w' env' q,λρ' σ' H' g' S' st' l w' env' q=>⟨ρ',S',g',q,st',l3.trans l,w',env'⟩,λd fr v H' g' S' st' l w' vo q=>n.rt d fr v H' g' S' st' (l4.trans l) w' vo q⟩
  ·have e:i=l.length:=by omega
   subst e;rw [List.drop_length] at hw
   exact .inl ⟨hJ.stop _ H g2 le wk.rh (Β _),n.nx ρ σ H g2 S st2 (s1.le.trans le) wk env hw⟩⟩
theorem zcs {s:Option Slot}{Q:List D->Prop}(h:owL s Q):∃ l,s=some (.ow (.lst l))/\Q l:=by
 cases s with
 | none=>exact h.elim
 | some s=>
  cases s with
  | ow d=>
   cases d with
   | lst l=>exact ⟨l,rfl,h⟩
   | _=>exact h.elim
  | _=>exact h.elim
theorem zgu {s:Option Slot}{Q:D->Prop}(h:owD s Q):∃ l,s=some (.ow l)/\Q l:=by
 cases s with
 | none=>exact h.elim
 | some s=>
  cases s with
  | ow d=>exact ⟨d,rfl,h⟩
  | _=>exact h.elim
theorem zho {s:D}{Q:Nat->Prop}(h:isR s Q):∃ n,s=.ref n/\Q n:=by
 cases s with
 | ref n=>exact ⟨n,rfl,h⟩
 | _=>exact h.elim
section
variable {i:Nat}{n:Str}{apos cpos:Pos}
theorem ziV (hN:X.N[i]?=some n) (hv:Vis X.env.scope n) (hd:(n==("__debug__":Str))=false) (hcd:(n==("__classdict__":Str))=false) (hx:PE X x (TX Γ (cx noX) e)) (hs:notStar x=true) (hl:(apos.endLine==cpos.line)=true):
  PS X (.Expr (.Call (.Attribute (.Name n p) "append" apos) [x] [] cpos) pos) (TC Γ cx ex w Hz gz (.app i e)):=
 (X5 (zdI gh PySem.F.slot_list_append PySem.F.type_list_append YC (jl hN hv hd hcd) (yl hx xH (zj hs _ _)) rfl (Q7 hs) hl (zj hs _ _) rfl)).imp λE σ H h0=>goK h0 λρ S K g hw st wk env n=>by obtain ⟨l,eo,hw⟩:=zcs hw;obtain ⟨a,h1,h2,h3,h4,h5,h6⟩:=env.ow i _ eo;obtain ⟨vs,h7,h8⟩:=h5;refine ⟨.ref a,h1,.inl ⟨rfl,vs,SqL.of h7⟩,ρ,S,_,g,Hz,hw,wk,env,λx v H1 g1 S1 s1 w1 vx q=>?_⟩;obtain ⟨g2,s2,w2,hx,q⟩:=vx.keep s1 w1 q;obtain ⟨hf,q⟩:=wz q;have env2:=zu env s2;obtain ⟨k1,k2,k3⟩:=s2.kept h7 h3 h4;refine ⟨a,vs,v,rfl,rfl,k1,by rw [h8.len];exact size_of hf,n.nx _ σ _ g2 S1 ((st.trans s2).zV h2) s2.le (w2.zV k2 k3) (env2.zaS (c':=.lst (l++[x.1])) eo h1 ⟨vs++[v],zr,(h8.mono s2.le).app (Hass.mk1 hx)⟩ rfl) q⟩
theorem ziO (hN:X.N[i]?=some n) (hv:Vis X.env.scope n) (hd:(n==("__debug__":Str))=false) (hcd:(n==("__classdict__":Str))=false) (hx:PE X x (TX Γ (cx noX) e)) (hs:notStar x=true) (hl:(apos.endLine==cpos.line)=true):
  PS X (.Expr (.Call (.Attribute (.Name n p) "extend" apos) [x] [] cpos) pos) (TC Γ cx ex w Hz gz (.ext i e)):=
 (X5 (zdI gh PySem.F.slot_list_extend PySem.F.type_list_extend zd7 (jl hN hv hd hcd) (yl hx xH (zj hs _ _)) rfl (Q7 hs) hl (zj hs _ _) rfl)).imp λE σ H h0=>goK h0 λρ S K g hw st wk env n=>by
  obtain ⟨l,eo,hw⟩:=zcs hw;obtain ⟨a,h1,h2,h3,h4,h5,h6⟩:=env.ow i _ eo;obtain ⟨vs,h7,h8⟩:=h5;refine ⟨.ref a,h1,.inl ⟨rfl,vs,SqL.of h7⟩,ρ,S,_,g,Hz,hw,wk,env,λx v H1 g1 S1 s1 w1 vx q0=>?_⟩;obtain ⟨g2,s2,w2,hx,q1⟩:=vx.keep s1 w1 q0;obtain ⟨m,em,q2⟩:=zQ q1;obtain ⟨hf,q⟩:=wz q2;clear q0 q1 q2;have env2:=zu env s2;obtain ⟨k1,k2,k3⟩:=s2.kept h7 h3 h4;generalize x.1=d at *;cases d with
  | lst m'=>
   cases em;obtain ⟨b,zs,rfl,hb1,hb2⟩:=hx;exact ⟨a,b,vs,zs,rfl,rfl,k1,.inl (w2.rh _ _ hb1),by rw [h8.len,hb2.len];exact xJ hf,n.nx _ σ _ g2 S1 ((st.trans s2).zV h2) s2.le (w2.zV k2 k3) (env2.zaS (c':=.lst (l++m)) eo h1 ⟨vs++zs,zr,(h8.mono s2.le).app hb2⟩ rfl) q⟩
  | tup m'=>
   cases em;obtain ⟨b,zs,rfl,hb1,hb2⟩:=hx;exact ⟨a,b,vs,zs,rfl,rfl,k1,.inr (SqT.of (w2.rh _ _ hb1)),by rw [h8.len,hb2.len];exact xJ hf,n.nx _ σ _ g2 S1 ((st.trans s2).zV h2) s2.le (w2.zV k2 k3) (env2.zaS (c':=.lst (l++m)) eo h1 ⟨vs++zs,zr,(h8.mono s2.le).app hb2⟩ rfl) q⟩
  | _=>cases em
theorem ziu {ix:Expr}{ke ve:E}(hu:X.A.units+1 < ϸ) (hN:X.N[i]?=some n) (hv:Vis X.env.scope n) (hd:(n==("__debug__":Str))=false) (hcd:(n==("__classdict__":Str))=false) (hx:PE X x (TX Γ (cx noX) ve)) (hi:PE X ix (TX Γ (cx noX) ke)) (hns:∀ lo hi st p,ix≠.Slice lo hi st p)
  (hs:dq [.Subscript (.Name n p) ix pos] x spos.line X.env=pure false) (hw:cI [.Subscript (.Name n p) ix pos] x X.env=pure none) (ha:(bz [.Subscript (.Name n p) ix pos] X.env).map (·.2)=[gF (.Subscript (.Name n p) ix pos) X.env]):
  PS X (.Assign [.Subscript (.Name n p) ix pos] x spos) (TC Γ cx ex w Hz gz (.stv i ke ve)):=
 (kZ hx (zco (jl hN hv hd hcd) hi (JR hu) (λv=>kh hns v X.env)) hs hw ha).imp λE σ H h0=>goK h0 λρ S K g hw st wk env n=>by obtain ⟨c,eo,hw⟩:=zgu hw;obtain ⟨a,h1,h2,h3,h4,h5,h6⟩:=env.ow i _ eo;refine ⟨ρ,S,_,g,Hz,hw,wk,env,λx v H1 g1 S1 s1 w1 vx q=>?_⟩;obtain ⟨g2,s2,w2,hx,q⟩:=vx.keep s1 w1 q;refine ⟨.ref a,h1,ρ,S1,_,g2,Hz,q,w2,zu env s2,λy u H3 g3 S3 s3 w3 vy q=>?_⟩;obtain ⟨g4,s4,w4,hy,q⟩:=vy.keep s3 w3 q;obtain ⟨c',ep,q⟩:=zQ q;have s5:=s2.trans s4;have env4:=zu env s5;obtain ⟨a',f1,f2,f3,f4,f5,f6⟩:=env4.ow i _ eo;rw [h1] at f1;cases f1;obtain ⟨o',b1,b2,b3⟩:=Vm ep f5 w4.rh hy (hx.mono s4.le);exact b1 _ (n.nx _ σ _ g4 S3 ((st.trans s5).zV h2) s5.le (w4.zV f3 f4) (env4.zaS eo h1 b2 b3) q)
theorem ziv {ix:Expr}{oe ke ve:E}(hu:X.A.units+1 < ϸ) (hx:PE X x (TX Γ (cx noX) ve)) (ho:PE X o (TX Γ (cx noX) oe)) (hi:PE X ix (TX Γ (cx noX) ke)) (hns:∀ lo hi st p,ix≠.Slice lo hi st p)
  (hs:dq [.Subscript o ix pos] x spos.line X.env=pure false) (hw:cI [.Subscript o ix pos] x X.env=pure none) (ha:(bz [.Subscript o ix pos] X.env).map (·.2)=[gF (.Subscript o ix pos) X.env]):
  PS X (.Assign [.Subscript o ix pos] x spos) (TC Γ cx ex w Hz gz (.sti oe ke ve)):=
 (kZ hx (zco ho hi (JR hu) (λv=>kh hns v X.env)) hs hw ha).imp λE σ H h0=>goK h0 λρ S K g hw st wk env n=>by refine ⟨ρ,S,_,g,Hz,hw,wk,env,λx v H1 g1 S1 s1 w1 vx q=>?_⟩;obtain ⟨g2,s2,w2,hx,q⟩:=vx.keep s1 w1 q;refine ⟨ρ,S1,_,g2,Hz,q,w2,zu env s2,λz t H3 g3 S3 s3 w3 vz q=>?_⟩;obtain ⟨g4,s4,w4,hz,q⟩:=vz.keep s3 w3 q;refine ⟨ρ,S3,_,g4,Hz,q,w4,zu env (s2.trans s4),λy u H5 g5 S5 s5 w5 vy q=>?_⟩;obtain ⟨g6,s6,w6,hy,q⟩:=vy.keep s5 w5 q;obtain ⟨m,er,q⟩:=zho q;obtain ⟨c,eo,q⟩:=zQ q;obtain ⟨c',ep,q⟩:=zQ q;rw [er] at hz;obtain ⟨a,ha2,rfl⟩:=hz.mono s6.le;obtain ⟨o',b1,b2,b3⟩:=Vm ep (w6.cell m c a eo ha2) w6.rh hy (hx.mono (s4.le.trans s6.le));have hm:=ϑ ha2;have s7:=(s2.trans s4).trans s6;exact b1 _ (n.nx _ σ _ g6 _ ((st.trans s7).ZK hm) s7.le (w6.ZK eo (za8 ep) ha2 b2) ((zu env s7).zcT hm) q)
end
end
noncomputable def stB:Option (Option V)->Option Bool
 | some (some (.bl b))=>some b
 | _=>none
theorem wU {tb:List (List Nat)}{c:Nat}{va va':Nat->Option Bool}(h:∀ j b,va j=some b->va' j=some b):∀ (x:HB) (b:Bool),hbV tb c va x=some b->hbV tb c va' x=some b
 | .is k,b,e=>e
 | .isT ks,b,e=>e
 | .ve,b,e=>e
 | .var j,b,e=>h j b e
 | .one a,b,e=>wU h a b e
 | .not a,b,e=>by obtain ⟨x,e1,e2⟩:=ο.mp e;exact ο.mpr ⟨x,wU h a x e1,e2⟩
 | .and a a',b,e=>by
  obtain ⟨x,e1,e2⟩:=ν.mp e;refine ν.mpr ⟨x,wU h a x e1,?_⟩;cases x with
  | true=>exact wU h a' b e2
  | false=>exact e2
 | .or a a',b,e=>by
  obtain ⟨x,e1,e2⟩:=ν.mp e;refine ν.mpr ⟨x,wU h a x e1,?_⟩;cases x with
  | true=>exact e2
  | false=>exact wU h a' b e2
section
variable {Γ:Gm}{Hz H:Hp}{g:G}{ρ ρ':List Slot}{σ:L2.St}
theorem EnvO.put {j:Nat}{d:D}{v:V}(env:EnvO Γ Hz H g ρ σ) (hv:Has Γ g d v):EnvO Γ Hz H g (ρ.set j (.sh d)) (σ.set j (some v)):=by
 refine ⟨by rw [ϥ,ϥ];exact env.len,λi e q=>?_,λi e q=>?_,λi i' e e' b q1 q2 q3 q4=>?_⟩
 ·rcases zH q with ⟨rfl,h1,h2⟩ | ⟨h1,h2⟩
  ·cases h2;exact ⟨v,Ϗ (by rw [<- env.len];exact h1),hv⟩
  ·obtain ⟨u,e1,e2⟩:=env.sh i e h2;exact ⟨u,by rw [Ζ h1];exact e1,e2⟩
 ·rcases zH q with ⟨rfl,h1,h2⟩ | ⟨h1,h2⟩
  ·cases h2
  ·obtain ⟨a,e1,e2⟩:=env.ow i e h2;exact ⟨a,by rw [Ζ h1];exact e1,e2⟩
 ·have ne:∀ {i:Nat}{e:D},(ρ.set j (Slot.sh d))[i]?=some (.ow e)->j≠i/\ρ[i]?=some (.ow e):=λ{i e} q=>by
   rcases zH q with ⟨rfl,h1,h2⟩ | ⟨h1,h2⟩
   ·cases h2
   ·exact ⟨h1,h2⟩
  obtain ⟨n1,w1⟩:=ne q1;obtain ⟨n2,w2⟩:=ne q2;rw [Ζ n1] at q3;rw [Ζ n2] at q4;exact env.inj i i' e e' b w1 w2 q3 q4
theorem EnvO.no {j:Nat}{v:Option V}(env:EnvO Γ Hz H g ρ σ):EnvO Γ Hz H g (ρ.set j .no) (σ.set j v):=by
 have ne:∀ {i:Nat}{s:Slot},(ρ.set j Slot.no)[i]?=some s->s≠.no->j≠i/\ρ[i]?=some s:=λ{i s} q hs=>by
  rcases zH q with ⟨rfl,h1,h2⟩ | ⟨h1,h2⟩
  ·exact absurd h2.symm (λz=>hs z.symm)
  ·exact ⟨h1,h2⟩
 refine ⟨by rw [ϥ,ϥ];exact env.len,λi e q=>?_,λi e q=>?_,λi i' e e' b q1 q2 q3 q4=>?_⟩
 ·obtain ⟨n,w⟩:=ne q nofun;rw [Ζ n];exact env.sh i e w
 ·obtain ⟨n,w⟩:=ne q nofun;rw [Ζ n];exact env.ow i e w
 ·obtain ⟨n1,w1⟩:=ne q1 nofun;obtain ⟨n2,w2⟩:=ne q2 nofun;rw [Ζ n1] at q3;rw [Ζ n2] at q4;exact env.inj i i' e e' b w1 w2 q3 q4
end
noncomputable def asIs:Expr->Option (Str×Pos×Str×Pos×Str×Pos×Pos)
  | .Call f as ks cp=>(asName f).bind λq=>(match as with
    | [x,y]=>(asName x).bind λa=>(asName y).bind λb=>if yo ks=true then some (q.1,q.2,a.1,a.2,b.1,b.2,cp) else none
    | _=>none)
  | _=>none
set_option tactic.hygienic true in
theorem zeV {x:Expr}{q:Str×Pos×Str×Pos×Str×Pos×Pos}(h:asIs x=some q):x=.Call (.Name q.1 q.2.1) [.Name q.2.2.1 q.2.2.2.1,.Name q.2.2.2.2.1 q.2.2.2.2.2.1] [] q.2.2.2.2.2.2:=by
 cases x with
 | Call f as ks cp=>
  obtain ⟨r,e1,h⟩:=ν.mp (show (asName f).bind _=some q from h)
  match as,h with
  | [x,y],h=>
   obtain ⟨a,e2,h⟩:=ν.mp h;obtain ⟨b,e3,h⟩:=ν.mp h;split at h
   ·rename_i hn
    cases h;rw [zM e1,zM e2,zM e3,z9 hn]
   ·cases h
  | [],h=>cases h
  | [_],h=>cases h
  | _::_::_::_,h=>cases h
 | _=>cases h
noncomputable def ZG (B:Tb) (c:Cc) (i:Nat) (n:Str) (x:Expr):Bool:=match asIs x with
 | some q=>q.1==("isinstance":Str)&&B.bare.contains q.1&&gloK (c.names.lookup q.1)&&c.N[i]?==some q.2.2.1&&visK (c.names.lookup q.2.2.1)&&zJ q.2.2.1&&q.2.2.2.2.1==n&&gloK (c.names.lookup n)&&zJ n
 | none=>false
noncomputable def chkH (B:Tb) (c:Cc) (i:Nat):HB->Expr->Bool
  | .is k,x=>(match B.cls[k]? with
    | some p=>ZG B c i p.1 x
    | none=>false)
  | .ve,x=>ZG B c i "ValueError" x&&B.bare.contains ("ValueError":Str)
  | _,_=>false
noncomputable def hNoC:Expr->Bool
 | .Call _ _ _ _=>true
 | .BoolOp _ _ _=>true
 | .UnaryOp _ _ _=>true
 | .Name _ _=>true
 | _=>false
def tHB (tb:List (List Nat)) (cn i:Nat) (ea:Addr) (h:HB):TE:=λσ H Q=>σ[i]?=some (some (.ref ea))/\∃ b,hbV tb cn (λj=>stB σ[j]?) h=some b/\∀ H',Same H H'->Q (.bl b) H'
section
variable {Γ:Gm}{B:Tb}{sp:Nat->Nat->Sp}{k:Nat}{X:Cx}{c:Cc}{i cn:Nat}{ea C:Addr}{oe:Obj}
theorem zcq {n:Str}{x:Expr}{v:V}{u:δ}{b:Bool}(ok:XOk Γ B sp k X c) (xc:XCls X.K C) (hc:oe.cls=.ref C) (hd:oe.dict=none) (hn:W.notCls oe=true) (h:ZG B c i n x=true) (r:RelV v u) (hu:∀ u',RelV v u'->u'=u) (hk:W.kitOne X.K (.ref C) u=some b)
  (hp:∀ pos,PE (X.hnd ea oe) (.Name n pos) (tC v)):PE (X.hnd ea oe) x (λσ H Q=>σ[i]?=some (some (.ref ea))/\Q (.bl b) H):=by
 unfold ZG at h;cases e:asIs x with
 | none=>rw [e] at h;cases h
 | some q=>
  rw [e] at h;simp only [ε] at h;obtain ⟨⟨⟨⟨⟨⟨⟨⟨h1,h2⟩,h3⟩,h4⟩,h5⟩,h6⟩,h7⟩,h8⟩,h9⟩:=h;have ex:=zeV e;obtain ⟨f,fp,a,ap,m,mp,cp⟩:=q;dsimp only at h1 h2 h3 h4 h5 h6 h7 ex;have e1:=eq_of_beq h1;have e7:=eq_of_beq h7;subst e1 e7 ex;obtain ⟨p1,p2,p3⟩:=zF h6;have hN:(X.hnd ea oe).N[i]?=some a:=by show X.N[i]?=some a;rw [ok.N];exact eq_of_beq h4
  refine (uN (X:=X.hnd ea oe) (id:="isinstance") (zbW xc hc hd hn r hu hk) (show Gl X "isinstance" from ok.glob h3) (ok.bare _ (Ϩ.mp h2)) (by decide +kernel) (yl (jl hN (show Vis X.env.scope a from ok.vis h5) p1 p2) (yl (hp mp) xH)) (by decide) (by decide)).imp λσ H Q ⟨q1,q2⟩=>?_
  exact ⟨_,q1,rfl,q2⟩
theorem sH (ok:XOk Γ B sp k X c) (kc:KCls Γ (B.cls.map (·.2)) cn C) (hc:oe.cls=.ref C) (hd:oe.dict=none) (hn:W.notCls oe=true):∀ (h:HB) (x:Expr),chkH B c i h x=true->PE (X.hnd ea oe) x (tHB (B.cls.map (·.2)) cn i ea h)
  | .is m,x,h=>by
    have h:(match B.cls[m]? with
      | some p=>ZG B c i p.1 x
      | none=>false)=true:=by cases x <;> exact h
    cases e:B.cls[m]? with
    | none=>rw [e] at h;cases h
    | some p=>
      rw [e] at h;have h':ZG B c i p.1 x=true:=h;obtain ⟨Cm,hm,km⟩:=ok.cl m p.1 p.2 e;have hg:gloK (c.names.lookup p.1)=true/\zJ p.1=true:=by
        unfold ZG at h';split at h'
        · simp only [ε] at h';exact ⟨h'.1.2,h'.2⟩
        · cases h'
      refine (zcq (v:=.ref Cm) (u:=.ref Cm) ok (ok.hK ▸ kc.xc) hc hd hn h' rfl (λu' r=>r) (ok.hK ▸ kc.sub m Cm km.ca) λpos=>Kw (show Gl X p.1 from ok.glob hg.1) hm rfl (zF hg.2).1).imp λσ H Q ⟨q1,b,q2,q3⟩=>⟨q1,?_⟩
      cases q2;exact q3 H (Same.refl H)
  | .isT _,x,h=>nobE h
  | .ve,x,h=>by
    have h:(ZG B c i "ValueError" x&&B.bare.contains ("ValueError":Str))=true:=by cases x <;> exact h
    rw [ε] at h;have hg:gloK (c.names.lookup ("ValueError":Str))=true:=by
      have h':=h.1;unfold ZG at h';split at h'
      · simp only [ε] at h';exact h'.1.2
      · cases h'
    refine (zcq (v:=.ty "ValueError") (u:=.type "ValueError") ok (ok.hK ▸ kc.xc) hc hd hn h.1 rfl (λu' r=>r) (ok.hK ▸ kc.ve) λpos=>Kz (show Gl X "ValueError" from ok.glob hg) (ok.bare _ (Ϩ.mp h.2)) (by decide +kernel) rfl (by decide) (by decide)).imp λσ H Q ⟨q1,b,q2,q3⟩=>⟨q1,?_⟩
    cases q2;exact q3 H (Same.refl H)
  | .var _,x,h=>nobE h
  | .not _,x,h=>nobE h
  | .and _ _,x,h=>nobE h
  | .or _ _,x,h=>nobE h
  | .one _,x,h=>nobE h
termination_by structural h=>h
noncomputable def zeX:Stmt->Option (List Expr×Expr×Pos)
 | .Assign ts x p=>some (ts,x,p)
 | _=>none
theorem zb7 {st:Stmt}{q:List Expr×Expr×Pos}(h:zeX st=some q):st=.Assign q.1 q.2.1 q.2.2:=by cases st <;> first | (cases h;rfl) | cases h
end
section
variable {Γ:Gm}{B:Tb}{cx:Xp->Cf}{ex:Xp}{k w:Nat}{X:Cx}{c:Cc}{Hz:Hp}{gz:G}{i ce f:Nat}{tb:List (List Nat)}{hs:List (Nat×HB)}{es:List E}
theorem ziB {n msg:Str}{j cn:Nat}{l:List Nat}{np cp p pos:Pos}(ok:XOk Γ B (spN Γ cx) k X c) (hn:B.cls[cn]?=some (n,l)) (hg:Gl X n) (hd:(n==("__debug__":Str))=false)
  (xr:∀ pJ σ H s g S c C h' ea args,Inv X pJ σ H s->Step Hz gz H g->WOk Γ H g S->ex c S->Γ.ca c=some C->iH s.heap h' ea (.ref C) args->X.xe (.ref ea) { s with heap:=h' }):
  PS X (.Raise (some (.Call (.Name n np) [.Constant (.str msg) j p] [] cp)) none pos) (TC Γ cx ex w Hz gz (.rse cn)):=λpJ s σ H D I h0=>goK h0 λρ S K g hw st wk env nn=>by obtain ⟨C,hm,kc⟩:=ok.cl cn n l hn;exact za7 I ok.calm hg hm hd (ok.hK ▸ kc.ex) λs1 h' ea args I1 m=>xr pJ σ H s1 g S cn C h' ea args I1 st wk hw kc.ca m
theorem WOk.same {H H':Hp}{g:G}{S:Store}(w:WOk Γ H g S) (s:Same H H'):WOk Γ H' g S:=⟨w.rh.trans s,w.len,w.nd,w.off,λk c a h1 h2=>(w.cell k c a h1 h2).mono (Le.refl g) λo e=>s a o e⟩
def Xw (Γ:Gm) (ex:Xp) (H1:Hp) (g1:G):XK:=λ_ C H'=>∃ c C0 g2 S2,C=some C0/\Γ.ca c=some C0/\Step H1 g1 H' g2/\WOk Γ H' g2 S2/\ex c S2
theorem zh9 {n:Str}{x:Expr}{xs:List Expr}{fp cp:Pos}{QQ:VSP}{E2:VSP}{V:Po}{exx:Xp}{pJ:List (Addr×Obj)}{σ:L2.St}{H:Hp}{s:μ}{ρ:List Slot}{S:Store}{g:G}
  (ok:XOk Γ B (spN Γ cx) k X c) (hcf:∀ ex,CfN B (cx ex)) (hf:B.fns[f]?=some n) (hdt:dotted n=false) (hg:Gl X n) (hdb:(n==("__debug__":Str))=false) (hst:∀ z∈x::xs,notStar z=true) (ha:PA (X.wish E2) (x::xs) (TXs Γ (cx noX) es))
  (I:Inv X pJ σ H s) (hw:wpEs (cx noX) ρ es (λds S1=>cx exx f ds V S1) S) (wk:WOk Γ H g S) (env:EnvO Γ Hz H g ρ σ)
  (hok:∀ y v u H' g' S' s',Inv X pJ σ H' s'->RelV v u->Step H g H' g'->WOk Γ H' g' S'->VN Γ H y v H' g'->V y S'->QQ u s')
  (herr:∀ H1 g1 s1 e s',Inv X pJ σ H1 s1->Step H g H1 g1->CX1 X.prog X.w X.stack H1 s1 (Xw Γ exx H1 g1) e s'->E2 e s'):
  Λ (Ν X.prog X.w) X.A (eval (.Call (.Name n fp) (x::xs) [] cp) X.env) QQ E2 s:=by
 obtain ⟨a,fd,ps,f1,f2,f3,f4,f5,f6,_⟩:=(ok.fns f n hf).ex;have I2:Inv (X.wish E2) pJ σ H s:=I.wish _;refine bY (vY I hg (f2 hdt) ?_ hdb)
 refine W.callWith_K (h₀:=X.base) I.ok.mod.kin f3 (thn (ha cp pJ s σ H (λvs H1=>∃ ds g1 S1,Step H g H1 g1/\WOk Γ H1 g1 S1/\Hass Γ g1 ds vs/\cx exx f ds V S1) I2
  ⟨ρ,S,_,g,Hz,hw,wk,env,λds vs H1 g1 S1 st1 w1 hv hc=>⟨ds,g1,S1,st1,w1,hv,hc⟩⟩) λus s1 ⟨vs,H1,I1,r,ds,g1,S1,st1,w1,hv,hc⟩=>⟨I1.kIn,?_⟩) (zj (hst x ξ) _ _) (yD λz hz=>hst z (ι _ hz))
 have hl:vs.length=ps.length:=by rw [hv.len];exact hcf _ f ds _ S1 ps f5 hc
 have hl':(us++[]).length=ps.length:=by rw [Ο,<- r.length];exact hl
 have hb:=f4 s1 us I1.kIn hl';rw [Ο] at hb
 refine iJ (cY (f6.run X.A X.stack s1 H1 ⟨us,[]⟩ us vs (λv H'=>∃ y g2 S2,Step H1 g1 H' g2/\WOk Γ H' g2 S2/\VN Γ H1 y v H' g2/\V y S2)
  (Xw Γ exx H1 g1) ok.rm I1.env0 hb r
  ⟨hl,g1,ds,S1,_,_,w1,hv,hc,λx v H' g' S' s2 w2 vx q=>⟨x,g',S',s2,w2,vx,q⟩,λc e C H' g' S' s2 w2 hca q=>⟨c,C,g',S',rfl,hca,s2,w2,q⟩⟩) λr s' hq=>?_)
 cases r with
 | ok fl=>
  cases fl with
  | ret u=>
   obtain ⟨v,H',I',rv,y,g2,S2,s2,w2,vy,q⟩:=I1.after hq;exact hok y v u H' g2 S2 s' I'.yw rv (st1.trans s2) w2 (vy.back st1) q
  | next=>exact ϟ hq
  | brk=>exact ϟ hq
  | cont=>exact ϟ hq
 | error e=>exact herr H1 g1 s1 e s' I1.yw st1 hq
end
noncomputable def zeU:Expr->Option (List Expr×Pos)
 | .List es p=>some (es,p)
 | _=>none
theorem zb5 {x:Expr}{q:List Expr×Pos}(h:zeU x=some q):x=.List q.1 q.2:=by cases x <;> first | (cases h;rfl) | cases h
noncomputable def asNs:Stmt->Option (Str×Pos×Expr×Pos)
 | st=>(zeX st).bind λt=>(sole t.1).bind λy=>(asName y).map λq=>(q.1,q.2,t.2.1,t.2.2)
theorem zaE {st:Stmt}{q:Str×Pos×Expr×Pos}(h:asNs st=some q):st=.Assign [.Name q.1 q.2.1] q.2.2.1 q.2.2.2:=by obtain ⟨t,e1,h⟩:=ν.mp (show (zeX st).bind _=some q from h);obtain ⟨y,e2,h⟩:=ν.mp h;obtain ⟨z,e3,e4⟩:=ο.mp h;cases e4;rw [zb7 e1,wL e2,zM e3]
noncomputable def zbT (B:Tb) (c:Cc) (i:Nat):List HB->List Expr->Bool
  | [],xs=>yo xs
  | h::r,xs=>(match xs with
    | []=>false
    | x::xs=>chkH B c i h x&&hNoC x&&zbT B c i r xs)
noncomputable def zbS (B:Tb) (c:Cc) (i:Nat) (hs:List HB) (k l:Nat):List Stmt->Bool
  | [s1,s2]=>(match asNs s1 with
    | some a=>(match asNs s2 with
      | some b=>(match zeU a.2.2.1 with
        | some xs=>(match asName b.2.2.1 with
          | some y=>c.N[k]?==some a.1&&c.names.lookup a.1==some .local&&c.N[l]?==some b.1&&c.names.lookup b.1==some .local&&y.1==a.1&&zJ a.1&&!(k==i)&&!(l==i)&&zbT B c i hs xs.1&&decide (hs.length<=9)
          | none=>false)
        | none=>false)
      | none=>false)
    | none=>false)
  | _=>false
section
variable {Γ:Gm}{B:Tb}{sp:Nat->Nat->Sp}{k:Nat}{X:Cx}{c:Cc}{i cn:Nat}{ea C:Addr}{oe:Obj}
noncomputable def hbsB (tb:List (List Nat)) (c:Nat):List HB->Option (List V)
 | []=>some []
 | h::r=>(hbV tb c (λ_=>none) h).bind λb=>(hbsB tb c r).map (.bl b::·)
theorem QW {tb:List (List Nat)}{c:Nat}:∀ {hs:List HB}{ds:List D},hbsV tb c hs=some ds->∃ vs,hbsB tb c hs=some vs/\(∀ g,Hass Γ g ds vs)/\vs.length=hs.length
 | [],ds,h=>by cases h;exact ⟨[],rfl,λ_=>rfl,rfl⟩
 | x::r,ds,h=>by obtain ⟨b,e1,h⟩:=ν.mp h;obtain ⟨es,e2,rfl⟩:=ο.mp h;obtain ⟨vs,i1,i2,i3⟩:=QW e2;exact ⟨.bl b::vs,by unfold hbsB;rw [e1,i1];rfl,λg=>⟨.bl b,vs,rfl,rfl,i2 g⟩,by simp [i3]⟩
theorem sHB (ok:XOk Γ B sp k X c) (kc:KCls Γ (B.cls.map (·.2)) cn C) (hc:oe.cls=.ref C) (hd:oe.dict=none) (hn:W.notCls oe=true):∀ (hs:List HB) (xs:List Expr),zbT B c i hs xs=true->PA (X.hnd ea oe) xs (λσ H Q=>σ[i]?=some (some (.ref ea))/\∃ vs,hbsB (B.cls.map (·.2)) cn hs=some vs/\∀ H',Same H H'->Q vs H')
 | [],xs,h=>by cases z9 h;exact xH.imp λσ H Q ⟨_,vs,e,q⟩=>by cases e;exact q H (Same.refl H)
 | x::r,xs,h=>by
  cases xs with
  | nil=>exact nobE h
  | cons y ys=>
   have h:(chkH B c i x y&&hNoC y&&zbT B c i r ys)=true:=h;rw [ε,ε] at h;obtain ⟨⟨h1,h2⟩,h3⟩:=h;refine (yl (sH ok kc hc hd hn x y h1) (sHB ok kc hc hd hn r ys h3) (by cases y <;> first | rfl | cases h2)).imp λσ H Q ⟨q1,vs,e,q⟩=>?_
   obtain ⟨b,e1,e⟩:=ν.mp e;obtain ⟨us,e2,rfl⟩:=ο.mp e;exact ⟨q1,b,wU (λ_ _ z=>by cases z) x b e1,λH1 s1=>⟨q1,us,e2,λH2 s2=>q H2 (s1.trans s2)⟩⟩
theorem sHL {hs:List HB}{k1 l:Nat}{ss:List Stmt}(ok:XOk Γ B sp k X c) (kc:KCls Γ (B.cls.map (·.2)) cn C) (hc:oe.cls=.ref C) (hd:oe.dict=none) (hn:W.notCls oe=true) (hh:zbS B c i hs k1 l ss=true):
  PSs (X.hnd ea oe) ss (λD σ H=>σ[i]?=some (some (.ref ea))/\k1 < σ.length/\∃ vs,hbsB (B.cls.map (·.2)) cn hs=some vs/\vs.length<=9/\∀ H',Same H H'->∀ p,H' p=none->D.nx ((σ.set k1 (some (.ref p))).set l (some (.ref p))) (upd H' p (.lst vs))):=by
 match ss,hh with
 | [],hh=>exact nobE hh
 | [_],hh=>exact nobE hh
 | _::_::_::_,hh=>exact nobE hh
 | [s1,s2],hh=>
  unfold zbS at hh;dsimp only at hh;cases e1:asNs s1 with
  | none=>rw [e1] at hh;exact nobE hh
  | some a=>
  cases e2:asNs s2 with
  | none=>rw [e1] at hh;dsimp only at hh;rw [e2] at hh;exact nobE hh
  | some b=>
  rw [e1] at hh;dsimp only at hh;rw [e2] at hh;dsimp only at hh;cases e3:zeU a.2.2.1 with
  | none=>rw [e3] at hh;exact nobE hh
  | some xs=>
  rw [e3] at hh;dsimp only at hh;cases e4:asName b.2.2.1 with
  | none=>rw [e4] at hh;exact nobE hh
  | some y=>
  rw [e4] at hh;dsimp only at hh;simp only [ε] at hh;obtain ⟨⟨⟨⟨⟨⟨⟨⟨⟨h1,h2⟩,h3⟩,h4⟩,h5⟩,h6⟩,h7⟩,h8⟩,h9⟩,h10⟩:=hh;rw [zaE e1,zaE e2,zb5 e3,zM e4,eq_of_beq h5];have pg:∀ {k:Nat}{n:Str}{p:Pos},(c.N[k]?==some n)=true->(c.names.lookup n==some .local)=true->PG (X.hnd ea oe) (.Name n p) (Zr k):=λ{k n p} g1 g2=>by
   have z:(X.hnd ea oe).env.scope.names.lookup n=some .local:=by show X.env.scope.names.lookup n=_;rw [ok.nm];exact eq_of_beq g2
   exact X8 (show X.N.Nodup from ok.nd) (by show X.N[k]?=_;rw [ok.N];exact eq_of_beq g1) (.inl z) (.inr z)
  have hv:Vis (X.hnd ea oe).env.scope a.1:=ok.vis (by rw [eq_of_beq h2];rfl);refine (qY (kZ (zcp (sHB (ea:=ea) ok kc hc hd hn hs xs.1 h9)) (pg h1 h2) rfl rfl rfl) (qY (kZ (jl (i:=k1) (by show X.N[k1]?=_;rw [ok.N];exact eq_of_beq h1) hv (zF h6).1 (zF h6).2.1) (pg h3 h4) rfl rfl rfl) Kg)).imp λD σ H ⟨q1,ql,vs,q2,q3,q4⟩=>?_
  exact ⟨q1,vs,q2,λH1 s1=>⟨Ϧ q3 (by decide),λp hp=>⟨.ref p,Ϗ ql,q4 H1 s1 p hp⟩⟩⟩
end
section
variable {Γ:Gm}{B:Tb}{cx:Xp->Cf}{ex:Xp}{k w:Nat}{X:Cx}{c:Cc}{Hz:Hp}{gz:G}{i ce j k1 l:Nat}{tb:List (List Nat)}{hs:List HB}
theorem zis {n nm cnm:Str}{cl0:List Nat}{fp cp ep cnp hp pos:Pos}{b0:Stmt}{suite:List Stmt}(ok:XOk Γ B (spN Γ cx) k X c) (sk:X.stack=X.env::X.outer) (fr:X.env.frame=some X.env.locals)
  (hNj:X.N[j]?=some n) (hv:Vis X.env.scope n) (hd0:(n==("__debug__":Str))=false) (hcd:(n==("__classdict__":Str))=false) (htb:tb=B.cls.map (·.2)) (hce:B.cls[ce]?=some (cnm,cl0)) (hgc:Gl X cnm) (hdc:(cnm==("__debug__":Str))=false)
  (hN:X.N[i]?=some nm) (hloc:X.env.kindOf nm=some .local) (hk1:k1 < X.N.length) (hl9:hs.length<=9) (hsu:zbS B c i hs k1 l (b0::suite)=true):
  PS X (.Try [.Expr (.Call (.Name n fp) [] [] cp) ep] [.ExceptHandler (some (.Name cnm cnp)) (some nm) (b0::suite) hp] [] [] pos) (TC Γ cx ex w Hz gz (.trl tb j ce i hs k1 l)):=by
 intro pJ s σ H D I h0;refine goK h0 λρ S K g hw st wk env nn=>?_
 obtain ⟨Cc,hmc,kcc⟩:=ok.cl ce cnm cl0 hce;refine wpAny_Try_except ?_;generalize hE2:(λe s₁=>Λ (Ν X.prog X.w) X.A (iy e X.env) (λ_ s₂=>Λ (Ν X.prog X.w) X.A (lL e none) (λ_ s₃=>Λ (Ν X.prog X.w) X.A (handleBy e X.env [.ExceptHandler (some (.Name cnm cnp)) (some nm) (b0::suite) hp]) (SP X pJ D) X.xe s₃) X.xe s₂) X.xe s₁)=E2;have I2:Inv (X.wish E2) pJ σ H s:=I.wish _;refine wpAny_execs_cons (wpAny_Expr_any ?_ I.quiet rfl);generalize hex:(λ(c:Nat) (S2:Store)=>tst (subT tb c ce) (opt (hbsV tb c hs) λbs=>K (.next ((((ρ.set i .no).set k1 .no).set l (.sh (.lst bs))).set i .no)) S2) False)=exx;have hw:rdV ρ[j]? λx=>isLm x.1 λf cs=>cx exx f cs (λ_ S2=>K (.next ρ) S2) S:=by rw [<- hex];exact hw
 refine bY (thn ((za1 (cf:=cx noX) (Γ:=Γ) hNj hv hd0 hcd:PE (X.wish E2) (.Name n fp) (TX Γ (cx noX) (.var j))) pJ s σ H (λv H1=>∃ y g1 S1,Step H g H1 g1/\WOk Γ H1 g1 S1/\VN Γ H y v H1 g1/\isLm y.1 λf cs=>cx exx f cs (λ_ S2=>K (.next ρ) S2) S1) I2 ⟨ρ,S,(λy S1=>isLm y.1 λf cs=>cx exx f cs (λ_ S2=>K (.next ρ) S2) S1),g,Hz,hw,wk,env,λy v H1 g1 S1 st w1 vy q=>⟨y,g1,S1,st,w1,vy,q⟩⟩) λu s1 hu=>?_);obtain ⟨v,H1,I1,r,y,g1,S1,st1,w1,vy,q⟩:=hu;obtain ⟨f,cs,ey,hc⟩:=Ww q;have hr:=vy.rdb w1;rw [ey] at hr;have hr:Has Γ g1 (.lam f cs) v:=hr;obtain ⟨a,qn,pr,b,sc,cl,pm,cv,ct,fs,ws,rfl,l1,l2,l3,l4,l5⟩:=hr;cases (show u=Ι a from r);have ha1:=(I1.hok a _ (w1.rh _ _ l1)).1;refine PySem.W.callWith_K0 (K:=[(a,lamO qn pr b sc cl pm cv ct)]) (λd o e=>?_) (by simp [PySem.W.keepIn]) ?_
 ·rw [Ϡ] at e;cases hb:d==a with
  | true=>rw [hb] at e;rw [eq_of_beq hb];cases e;exact ha1
  | false=>rw [hb] at e;cases e
 have cm:=yX (λb u e=>w1.rh b u e) l2;have cc:=ZF (λb u e=>w1.rh b u e) l3;have sp:spN Γ cx f ws.length ([]++ws) H1 (λv H'=>∃ g2 S2,Step H1 g1 H' g2/\WOk Γ H' g2 S2/\K (.next ρ) S2) (λe C H'=>∃ c g2 S2,Step H1 g1 H' g2/\WOk Γ H' g2 S2/\Γ.ca c=C/\exx c S2):=⟨rfl,g1,cs,S1,_,exx,w1,l5,hc,λx v H' g' S' s2 w2 vx q=>⟨g',S',s2,w2,q⟩,λc e C H' g' S' s2 w2 hca q=>⟨c,g',S',s2,w2,hca,q⟩⟩
 refine iJ (cY (ok.lm f _ qn pr b sc fs a pm cv ct cl ws X.A X.stack s1 H1 [] [] _ _ l4 ok.rm I1.yw.env0 (w1.rh _ _ l1) cm cc .nil sp) λr s' hq=>?_);cases r with
 | ok fl=>
  cases fl with
  | ret u=>
   obtain ⟨v,H',I',_,g2,S2,s2,w2,q⟩:=I1.after hq;exact fV (fV ⟨σ,H',I'.yw,nn.nx ρ σ H' g2 S2 (st.trans (st1.trans s2)) (st1.le.trans s2.le) w2 (zu env (st1.trans s2)) q⟩)
  | next=>exact ϟ hq
  | brk=>exact ϟ hq
  | cont=>exact ϟ hq
 | error e=>
  subst hE2;have hq:CX1 X.prog X.w X.stack H1 s1 (λe C H'=>∃ c g2 S2,Step H1 g1 H' g2/\WOk Γ H' g2 S2/\Γ.ca c=C/\exx c S2) e s':=hq;refine K1 (X:=X) (W:=X.xe) sk fr I1.yw hq λea T C H' h2 ee F n1 n2 n3 n4 J hE=>?_
  subst ee;obtain ⟨cn,g2,S2,s2,w2,hca,hx⟩:=hE;subst hex;obtain ⟨hsub,hx⟩:=wz hx;obtain ⟨bs,eh,hK⟩:=zQ hx;obtain ⟨x',l',ecl⟩:=ok.ca cn C hca;obtain ⟨C',hm',kc⟩:=ok.cl cn x' l' ecl;have eC:C'=C:=ϕ (kc.ca.symm.trans hca);subst eC;obtain ⟨⟨oe,us',he,⟨hcl,hdi⟩,hd,h1⟩,ne,⟨oT,ts,hT,dT,h3⟩⟩:=F;have hncl:PySem.W.notCls oe=true:=by unfold PySem.W.notCls;rw [hd]
  have hex1:∀ b o,s1.heap.get? b=some o->ea≠b:=λb o q z=>by rw [<- z,n1] at q;cases q
  obtain ⟨m0,⟨oL,_,_,hoL,_⟩,_⟩:=id I1.loc
  have J3:Inv (X.hnd ea oe) pJ σ H' { s' with heap:=h2 }:=J.hnd he n3 (hex1 _ _ hoL) (λz=>by
   have:=I1.yw.stack.mem (b:=ea) (by rw [sk,show (X.env::X.outer).filterMap (·.frame)=frs (X.env::X.outer) from rfl,Q3 fr];exact ι _ z);obtain ⟨_,o,ho,_⟩:=this
   exact hex1 _ _ ho rfl) (λv q=>by rw [hd] at q;cases q)
  show Λ (Ν X.prog X.w) X.A (handleBy (.ref ea) X.env _) (SP X pJ D) X.xe _
  refine wpAny_handleBy_cons (codeAny_handlers_test ?_) (by intro q;cases q);refine vY (X:=X.hnd ea oe) J3 hgc hmc ?_ hdc;have LT:PySem.W.Looks (Ν X.prog X.w) h2 (typeOf (.ref ea)) (.ref C'):=hcl ▸ (PySem.W.Looks.ld he).andThen .now;have hem:=kc.em ce Cc kcc.ca;rw [<- htb,hsub,<- ok.hK] at hem;refine (PySem.W.exm_one (K:=X.K) J.kIn LT hem).at ?_;show gf _ _ _ _ _
  refine codeAny_handlers_suite_as ?_;refine wpAny_setFlight_none he hd h1 hT dT (dm.mp h3).1 ?_;rw [show ({ s' with heap:=h2 }:μ).heap.update T (aV (·.setIfInBounds 3 .none))=h2 from Heap.update_setField_same h2 T oT ts 3 .none hT dT h3];refine Ve (X:=X.hnd ea oe) J3 (show X.N.Nodup from ok.nd) hN (.inl hloc) (v:=.ref ea) rfl (λs4 J4=>?_) (.inr hloc);have env2:EnvO Γ Hz H' g2 (ρ.set i .no) (σ.set i (some (.ref ea))):=(zu env (st1.trans s2)).no;obtain ⟨vs,eb,hhs,hlv⟩:=QW (Γ:=Γ) eh;have hi:i < σ.length:=by rw [I.len];exact (χ.mp hN).1
  rw [htb] at eb;refine bc (sHL (ea:=ea) ok kc hcl hdi hncl hsu pJ s4 (σ.set i (some (.ref ea))) H' { nx:=λσ5 H5=>∃ H6 p,Same H' H6/\H6 p=none/\H5=upd H6 p (.lst vs)/\σ5=((σ.set i (some (.ref ea))).set k1 (some (.ref p))).set l (some (.ref p)),rt:=λ_ _=>False } J4 ⟨Ϗ hi,by rw [ϥ,I.len];exact hk1,vs,eb,by rw [hlv];exact hl9,λH6 s6 p hp=>⟨H6,p,s6,hp,rfl,rfl⟩⟩) (λfl s5 q=>?_) λ_ _ z=>z.elim
  cases fl with
  | next=>
   obtain ⟨σ5,H5,J5,H6,p,s6,hp,rfl,rfl⟩:=q;have t6:Step H' g2 H6 g2:=Step.of_same s6 (Le.refl g2) (λ_ h=>.inl h) λ_ h=>.inl h
   have w6:=w2.same s6;have hr:=w6.notR hp;have t7:Step H6 g2 (upd H6 p (.lst vs)) (g2.put p (.lst vs)):=(Step.of_same (yp hp) (Le.refl g2) (λ_ h=>.inl h) λ_ h=>.inl h).put hr hp;have w7:WOk Γ (upd H6 p (.lst vs)) (g2.put p (.lst vs)) S2:=(w6.laid hp).put zr hr (w6.notA hp);have hh:Has Γ (g2.put p (.lst vs)) (.lst bs) (.ref p):=⟨p,vs,rfl,zr,hhs _⟩
   have env3:EnvO Γ Hz (upd H6 p (.lst vs)) (g2.put p (.lst vs)) (((ρ.set i .no).set k1 .no).set l (.sh (.lst bs))) (((σ.set i (some (.ref ea))).set k1 (some (.ref p))).set l (some (.ref p))):=((zu env2 (t6.trans t7)).no).put hh;refine zey (J5.zic I.ok) ok.nd hN hloc λs6 J6=>⟨_,_,J6,nn.nx _ _ _ (g2.put p (.lst vs)) S2 (((st.trans (st1.trans s2)).trans t6).trans t7) ((st1.le.trans s2.le).trans (t6.le.trans t7.le)) w7 env3.no hK⟩
  | brk=>obtain ⟨_,_,_,z⟩:=q;exact z.elim
  | cont=>obtain ⟨_,_,_,z⟩:=q;exact z.elim
  | ret u=>obtain ⟨_,_,_,_,_,z⟩:=q;exact z.elim
end
noncomputable def We:Expr->Bool
 | .ListComp _ _ _ _=>false
 | .SetComp _ _ _ _=>false
 | .DictComp _ _ _ _ _=>false
 | _=>true
noncomputable def Zo:E->Bool
 | .comp _ _ _ _ _=>true
 | _=>false
noncomputable def jq:Expr->Bool
 | .Tuple _ _ _=>false
 | _=>true
noncomputable def qK (c:Cc) (n:Str) (np:Pos):Expr->Bool
 | .ListComp _ _ sc p=>c.names.lookup n==some .local&&np.line==p.line&&!(sc.names.any λ(m,k)=>m==n&&(k==.local||k==.cell))
 | _=>false
noncomputable def chkN (c:Cc) (i:Nat) (n:Str):Bool:=c.N[i]?==some n&&visK (c.names.lookup n)&&zJ n
structure Meth where
 o:Expr
 m:Str
 ap:Pos
 x:Expr
 cp:Pos
noncomputable def zaG:Expr->Option Meth
 | .Call f args kws cp=>if yo kws=true then (WY f).bind λq=>(sole args).map λx=>⟨q.1,q.2.1,q.2.2,x,cp⟩ else none
 | _=>none
set_option tactic.hygienic true in
theorem zaF {x:Expr}{q:Meth}(h:zaG x=some q):x=.Call (.Attribute q.o q.m q.ap) [q.x] [] q.cp:=by
 cases x with
 | Call f args kws cp=>
  have h:(if yo kws=true then (WY f).bind λq=>(sole args).map λx=>(⟨q.1,q.2.1,q.2.2,x,cp⟩:Meth) else none)=some q:=h;split at h
  ·rename_i hn
   cases e1:WY f with
   | none=>rw [e1] at h;cases h
   | some z=>
    rw [e1] at h;cases e2:sole args with
    | none=>rw [e2] at h;cases h
    | some y=>
     rw [e2] at h;cases h;rw [z9 hn,Ug e1,wL e2]
  ·cases h
 | _=>cases h
noncomputable def uc (B:Tb) (c:Cc) (name:Str) (i:Nat) (e:E) (x:Expr):Bool:=match zaG x with
  | some q=>(match asName q.o with
    | some r=>chkN c i r.1&&q.m==name&&chkE B c e q.x&&notStar q.x&&q.ap.endLine==q.cp.line
    | none=>false)
  | none=>false
theorem qz {B:Tb}{c:Cc}{name:Str}{i:Nat}{e:E}{x:Expr}(h:uc B c name i e x=true):∃ n np ap y cp,x=.Call (.Attribute (.Name n np) name ap) [y] [] cp/\chkN c i n=true/\chkE B c e y=true/\notStar y=true/\(ap.endLine==cp.line)=true:=by
  unfold uc at h;cases e1:zaG x with
  | none=>rw [e1] at h;cases h
  | some q=>
    rw [e1] at h
    have h:(match asName q.o with
      | some r=>chkN c i r.1&&q.m==name&&chkE B c e q.x&&notStar q.x&&q.ap.endLine==q.cp.line
      | none=>false)=true:=h
    cases e2:asName q.o with
    | none=>rw [e2] at h;cases h
    | some r=>
      rw [e2] at h;have h:(chkN c i r.1&&q.m==name&&chkE B c e q.x&&notStar q.x&&q.ap.endLine==q.cp.line)=true:=h;simp only [ε] at h;obtain ⟨⟨⟨⟨h1,h2⟩,h3⟩,h4⟩,h5⟩:=h;refine ⟨r.1,r.2,q.ap,q.x,q.cp,?_,h1,h3,h4,h5⟩;rw [zaF e1,zM e2,eq_of_beq h2]
noncomputable def asRx:Expr->Option Str
  | .Call f as ks _=>(asName f).bind λq=>(match as with
    | [a]=>(match a with
      | .Constant k _ _=>(match k with
        | .str _=>if yo ks=true then some q.1 else none
        | _=>none)
      | _=>none)
    | _=>none)
  | _=>none
set_option tactic.hygienic true in
theorem zeS {x:Expr}{n:Str}(h:asRx x=some n):∃ np msg j p cp,x=.Call (.Name n np) [.Constant (.str msg) j p] [] cp:=by
 cases x with
 | Call f as ks cp=>
  obtain ⟨q,e1,h⟩:=ν.mp (show (asName f).bind _=some n from h)
  match as,h with
  | [a],h=>
   cases a with
   | Constant k j p=>
    cases k with
    | str m=>
     have h:(if yo ks=true then some q.1 else none)=some n:=h;split at h
     ·rename_i hn
      cases h;rw [zM e1,z9 hn];exact ⟨_,_,_,_,_,rfl⟩
     ·cases h
    | _=>cases h
   | _=>cases h
  | [],h=>cases h
  | _::_::_,h=>cases h
 | _=>cases h
noncomputable def zeT:Stmt->Option Str
 | .Raise e c _=>e.bind λx=>if c.isNone=true then asRx x else none
 | _=>none
set_option tactic.hygienic true in
theorem zb3 {st:Stmt}{n:Str}(h:zeT st=some n):∃ np msg j p cp pos,st=.Raise (some (.Call (.Name n np) [.Constant (.str msg) j p] [] cp)) none pos:=by
 cases st with
 | Raise e c pos=>
  obtain ⟨x,e1,h⟩:=ν.mp (show e.bind _=some n from h);split at h
  ·rename_i hc
   obtain ⟨np,msg,j,p,cp,rfl⟩:=zeS h;cases c with
   | none=>subst e1;exact ⟨_,_,_,_,_,_,rfl⟩
   | some _=>cases hc
  ·cases h
 | _=>cases h
structure Tri where
 n:Str
 fp:Pos
 xs:List Expr
 cp:Pos
 ep:Pos
 cnm:Str
 cnp:Pos
 nm:Str
 ss:List Stmt
 hp:Pos
 pos:Pos
noncomputable def asH1:ExceptHandler->Option (Str×Pos×Str×List Stmt×Pos)
 | .ExceptHandler t n ss p=>t.bind λt=>(asName t).bind λq=>n.bind λn=>some (q.1,q.2,n,ss,p)
noncomputable def asB1:Stmt->Option (Str×Pos×List Expr×Pos×Pos)
  | .Expr x ep=>(match x with
    | .Call f as ks cp=>(asName f).bind λq=>if yo ks=true then some (q.1,q.2,as,cp,ep) else none
    | _=>none)
  | _=>none
noncomputable def zeR:Stmt->Option Tri
 | .Try b hs o f pos=>(sole b).bind λb=>(asB1 b).bind λq=>(sole hs).bind λh=>(asH1 h).bind λr=>if (yo o&&yo f)=true then some ⟨q.1,q.2.1,q.2.2.1,q.2.2.2.1,q.2.2.2.2,r.1,r.2.1,r.2.2.1,r.2.2.2.1,r.2.2.2.2,pos⟩ else none
 | _=>none
set_option tactic.hygienic true in
theorem zeW {s:Stmt}{q:Str×Pos×List Expr×Pos×Pos}(h:asB1 s=some q):s=.Expr (.Call (.Name q.1 q.2.1) q.2.2.1 [] q.2.2.2.1) q.2.2.2.2:=by
 cases s with
 | Expr x ep=>
  cases x with
  | Call f as ks cp=>
   obtain ⟨r,e1,h⟩:=ν.mp (show (asName f).bind _=some q from h);split at h
   ·rename_i hn
    cases h;rw [zM e1,z9 hn]
   ·cases h
  | _=>cases h
 | _=>cases h
set_option tactic.hygienic true in
theorem zb1 {s:Stmt}{t:Tri}(h:zeR s=some t):s=.Try [.Expr (.Call (.Name t.n t.fp) t.xs [] t.cp) t.ep] [.ExceptHandler (some (.Name t.cnm t.cnp)) (some t.nm) t.ss t.hp] [] [] t.pos:=by
 cases s with
 | Try b hs o f pos=>
  obtain ⟨b1,e1,h⟩:=ν.mp (show (sole b).bind _=some t from h);obtain ⟨q,e2,h⟩:=ν.mp h;obtain ⟨h1,e3,h⟩:=ν.mp h;obtain ⟨r,e4,h⟩:=ν.mp h;split at h
  ·rename_i hn
   cases h;rw [ε] at hn;obtain ⟨ty,nm,ss,p⟩:=h1;obtain ⟨ty,rfl,e4⟩:=ν.mp (show ty.bind _=some r from e4);obtain ⟨z,e5,e4⟩:=ν.mp e4;obtain ⟨nm,rfl,e4⟩:=ν.mp e4;cases e4;rw [wL e1,zeW e2,wL e3,zM e5,z9 hn.1,z9 hn.2]
  ·cases h
 | _=>cases h
noncomputable def zao (B:Tb) (c:Cc) (cn:Nat) (st:Stmt):Bool:=match zeT st with
 | some n=>(B.cls[cn]?).map (·.1)==some n&&gloK (c.names.lookup n)&&zJ n
 | none=>false
noncomputable def zam (B:Tb) (c:Cc) (tb:List (List Nat)) (j ce i:Nat) (hs:List HB) (k l:Nat) (st:Stmt):Bool:=match zeR st with
 | some t=>c.N[j]?==some t.n&&visK (c.names.lookup t.n)&&zJ t.n&&yo t.xs&&tb==B.cls.map (·.2)&&(B.cls[ce]?).map (·.1)==some t.cnm&&gloK (c.names.lookup t.cnm)&&zJ t.cnm&&c.N[i]?==some t.nm&&c.names.lookup t.nm==some .local&&decide (k < c.N.length)&&decide (hs.length<=9)&&zbS B c i hs k l t.ss
 | none=>false
mutual
noncomputable def chkC (B:Tb) (c:Cc):C->Stmt->Bool
  | .set t e,.Assign ts x _=>(match sole ts with
    | some tg=>chkE B c e x&&chkT c t tg&&(match asName tg with
      | some q=>!qK c q.1 q.2 x||Zo e
      | none=>YS tg&&jq x)
    | none=>false)
  | .expr e,.Expr x _=>chkE B c e x&&We x
  | .ret e,.Return v _=>(match v with
    | some x=>chkE B c e x
    | none=>false)
  | .retN,.Return v _=>v.isNone
  | .ite e a b,.If x aa bb _=>chkE B c e x&&ud B c a aa&&ud B c b bb
  | .whl e b,.While x bb r _=>chkE B c e x&&ud B c b bb&&yo r
  | .forr t it b,.For tgt x bb r _=>chkI B c it tgt x&&chkT c t tgt&&wF x&&ud B c b bb&&yo r
  | .app i e,.Expr x _=>uc B c "append" i e x
  | .ext i e,.Expr x _=>uc B c "extend" i e x
  | .stv i k v,.Assign ts x _=>(match (sole ts).bind XF with
    | some q=>(match asName q.1 with
      | some r=>chkN c i r.1&&chkE B c k q.2.1&&chkE B c v x
      | none=>false)
    | none=>false)
  | .sti o k v,.Assign ts x _=>(match (sole ts).bind XF with
    | some q=>chkE B c o q.1&&chkE B c k q.2.1&&chkE B c v x
    | none=>false)
  | .rse cn,st=>zao B c cn st
  | .trl tb j ce i hs k l,st=>zam B c tb j ce i hs k l st
  | .pass,.Pass _=>true
  | .brk,.Break _=>true
  | .cnt,.Continue _=>true
  | _,_=>false
noncomputable def ud (B:Tb) (c:Cc):List C->List Stmt->Bool
 | .frz _::ss,xs=>ud B c ss xs
 | [],[]=>true
 | s::ss,x::xs=>chkC B c s x&&ud B c ss xs
 | _,_=>false
end
structure XSt (Γ:Gm) (B:Tb) (cx:Xp->Cf) (ex:Xp) (Hz:Hp) (gz:G) (k:Nat) (X:Cx) (c:Cc):Prop where
 ok:XOk Γ B (spN Γ cx) k X c
 own:lQ (Ν X.prog X.w) X.A X.env X.xe
 hcf:∀ ex,CfN B (cx ex)
 hm:XJ cx
 sk:X.stack=X.env::X.outer
 fr:X.env.frame=some X.env.locals
 xr:∀ pJ σ H s g S c C h' ea args,Inv X pJ σ H s->Step Hz gz H g->WOk Γ H g S->ex c S->Γ.ca c=some C->iH s.heap h' ea (.ref C) args->X.xe (.ref ea) { s with heap:=h' }
 xp:∀ pJ σ H1 s1 g1 e s',Inv X pJ σ H1 s1->Step Hz gz H1 g1->CX1 X.prog X.w X.stack H1 s1 (Xw Γ ex H1 g1) e s'->X.xe e s'
section
variable {Γ:Gm}{B:Tb}{cx:Xp->Cf}{ex:Xp}{k w:Nat}{X:Cx}{c:Cc}{Hz:Hp}{gz:G}{x:Expr}{e:E}{n:Str}{pos np:Pos}{i:Nat}
theorem XSt.pe (ok:XSt Γ B cx ex Hz gz k X c) (h:chkE B c e x=true):PE X x (TX Γ (cx noX) e):=(sA (ok.hcf noX) ok.hm.no e X c x ok.ok h).1
theorem XSt.pt (ok:XSt Γ B cx ex Hz gz k X c) (h:chkE B c e x=true):PT X x (TB Γ (cx noX) e):=(sA (ok.hcf noX) ok.hm.no e X c x ok.ok h).2.1
theorem noSl {y:Expr}(h:chkE B c e y=true):∀ lo hi st p,y≠.Slice lo hi st p:=λlo hi st p q=>by subst q;exact K5 e h
theorem Yz (h:We x=true) (t:Option Expr) (l:Nat) (env:Env):iw x t l env=pure false:=by cases x <;> first | rfl | cases h
theorem Vd (x o y:Expr) (p:Pos) (l:Nat) (env:Env):dq [.Subscript o y p] x l env=pure false:=by cases x <;> rfl
theorem zaV (x:Expr) (es:List Expr) (kk:Nat) (p:Pos) (l:Nat) (env:Env):dq [.Tuple es kk p] x l env=pure false:=by cases x <;> rfl
theorem kj (x o y:Expr) (p:Pos) (env:Env):cI [.Subscript o y p] x env=pure none:=by cases x <;> rfl
theorem X3 (x:Expr) (n:Str) (p:Pos) (env:Env):cI [.Name n p] x env=pure none:=by cases x <;> rfl
theorem Us (h:jq x=true) (es:List Expr) (kk:Nat) (p:Pos) (env:Env):cI [.Tuple es kk p] x env=pure none:=by cases x <;> first | rfl | cases h
theorem noSC {y:Expr}{g:List Comprehension}{sc:aM}{p:Pos}(e:E) (h:chkE B c e (.SetComp y g sc p)=true):False:=by
 cases e with
 | box e=>exact nobE h
 | _=>exact nobE h
theorem noDC {y z:Expr}{g:List Comprehension}{sc:aM}{p:Pos}(e:E) (h:chkE B c e (.DictComp y z g sc p)=true):False:=by
 cases e with
 | box e=>exact nobE h
 | _=>exact nobE h
theorem JH (ok:XOk Γ B (spN Γ cx) k X c) (hx:chkE B c e x=true) (l:Nat):iw x (some (.Name n np)) l X.env=pure (qK c n np x):=by
 have hk:X.env.kindOf n=c.names.lookup n:=by unfold lH;rw [ok.nm]
 have hb:X.env.blockKind=.function:=by unfold Env.blockKind;rw [ok.kd];rfl
 cases x with
 | ListComp y g sc p=>
  show pure (X.env.blockKind==.function&&X.env.kindOf n==some .local&&np.line==p.line&&!(sc.names.any λ(m,k)=>m==n&&(k==.local||k==.cell)))=(pure (c.names.lookup n==some .local&&np.line==p.line&&!(sc.names.any λ(m,k)=>m==n&&(k==.local||k==.cell))):Sem Bool)
  rw [hb,hk];rfl
 | SetComp y g sc p=>exact (noSC e hx).elim
 | DictComp y g a sc p=>exact (noDC e hx).elim
 | _=>rfl
theorem zci (ok:XSt Γ B cx ex Hz gz k X c) {t:T}{tgt:Expr}(h1:chkE B c e x=true) (hpg:PG X tgt (tgOf X.K t)) (hs:dq [tgt] x pos.line X.env=pure false) (hw:cI [tgt] x X.env=pure none) (ha:(bz [tgt] X.env).map (·.2)=[gF tgt X.env]):PS X (.Assign [tgt] x pos) (TC Γ cx ex w Hz gz (.set t e)):=by
 cases hn:zdX e with
 | true=>exact ziz hn (ok.pe h1) hpg hs hw ha
 | false=>
  cases e with
  | box e=>exact zfM (ok.pe (e:=e) (ε _ _ ▸ (show (Km x&&chkE B c e x)=true from h1)).2) hpg hs hw ha
  | _=>cases hn
theorem zf0 (ok:XSt Γ B cx ex Hz gz k X c) {t:T}{ts:List Expr}(h:chkC B c (.set t e) (.Assign ts x pos)=true):PS X (.Assign ts x pos) (TC Γ cx ex w Hz gz (.set t e)):=by
  have h:(match sole ts with
    | some tg=>chkE B c e x&&chkT c t tg&&(match asName tg with
      | some q=>!qK c q.1 q.2 x||Zo e
      | none=>YS tg&&jq x)
    | none=>false)=true:=h
  cases e1:sole ts with
  | none=>rw [e1] at h;cases h
  | some tg=>
    rw [e1] at h;have et:=wL e1;subst et
    have h:(chkE B c e x&&chkT c t tg&&(match asName tg with
      | some q=>!qK c q.1 q.2 x||Zo e
      | none=>YS tg&&jq x))=true:=h
    rw [ε,ε] at h;obtain ⟨⟨h1,h2⟩,h3⟩:=h;have hpg:=JD ok.ok h2;cases e2:asName tg with
    | some q=>
      rw [e2] at h3;have et:=zM e2;obtain ⟨n,np⟩:=q;subst et;have h3:(!qK c n np x||Zo e)=true:=h3;have hsw:=JH (n:=n) (np:=np) ok.ok h1 pos.line;cases ha:qK c n np x with
      | false=>
        rw [ha] at hsw;exact zci ok h1 hpg hsw (X3 x n np X.env) rfl
      | true=>
        rw [ha] at h3 hsw;cases e with
        | comp t' js it ifs elt=>
          cases t with
          | one i=>exact zfL (sCS (ok.hcf noX) ok.hm.no ok.ok h1) hpg hsw
          | tup is=>exact nobE h2
          | nst _ _=>exact nobE h2
        | _=>cases h3
    | none=>
      rw [e2] at h3;have h3:(YS tg&&jq x)=true:=h3;rw [ε] at h3;cases tg with
      | Tuple es kk p=>exact zci ok h1 hpg (zaV x es kk p pos.line X.env) (Us h3.2 es kk p X.env) rfl
      | _=>cases h3.1
theorem s_rt (ok:XSt Γ B cx ex Hz gz k X c) (h:chkE B c e x=true):PS X (.Return (some x) pos) (TC Γ cx ex w Hz gz (.ret e)):=by
 by_cases hv:∃ i,e=.var i
 ·obtain ⟨i,rfl⟩:=hv;have hb:Υ x.ctorIdx 23=true:=by revert h;cases x <;> first | exact non | exact λ_=>rfl
  revert h;apply vC hb;clear hb;intro n p h;have h:(c.N[i]?==some n&&visK (c.names.lookup n)&&zJ n)=true:=h;simp only [ε] at h;obtain ⟨q1,q2,_⟩:=zF h.2;exact zfO (by rw [ok.ok.N];exact eq_of_beq h.1.1) (ok.ok.vis h.1.2) q1 q2
 ·exact ziC (λi q=>hv ⟨i,q⟩) (ok.pe h)
theorem Ud {ts:List Expr}{q:Expr×Expr×Pos}(h:(sole ts).bind XF=some q):ts=[.Subscript q.1 q.2.1 q.2.2]:=by
 cases e1:sole ts with
 | none=>rw [e1] at h;cases h
 | some tg=>
  rw [e1] at h;rw [wL e1,zb2 h]
theorem zix (ok:XSt Γ B cx ex Hz gz k X c) {kx v:E}{ts:List Expr}(h:chkC B c (.stv i kx v) (.Assign ts x pos)=true):PS X (.Assign ts x pos) (TC Γ cx ex w Hz gz (.stv i kx v)):=by
  have h:(match (sole ts).bind XF with
    | some q=>(match asName q.1 with
      | some r=>chkN c i r.1&&chkE B c kx q.2.1&&chkE B c v x
      | none=>false)
    | none=>false)=true:=h
  cases e2:(sole ts).bind XF with
  | none=>rw [e2] at h;cases h
  | some q=>
    rw [e2] at h;have et:=Ud e2;subst et;obtain ⟨o,y,sp⟩:=q
    have h:(match asName o with
      | some r=>chkN c i r.1&&chkE B c kx y&&chkE B c v x
      | none=>false)=true:=h
    cases e3:asName o with
    | none=>rw [e3] at h;cases h
    | some r=>
      rw [e3] at h;have et:=zM e3;subst et;obtain ⟨n,np⟩:=r;have h:(chkN c i n&&chkE B c kx y&&chkE B c v x)=true:=h;unfold chkN at h;simp only [ε] at h;obtain ⟨⟨h1,h2⟩,h3⟩:=h;obtain ⟨q1,q2,_⟩:=zF h1.2;exact ziu ok.ok.u1 (by rw [ok.ok.N];exact eq_of_beq h1.1.1) (ok.ok.vis h1.1.2) q1 q2 (ok.pe h3) (ok.pe h2) (noSl h2) (Vd x _ y sp pos.line X.env) (kj x _ y sp X.env) rfl
theorem ziw (ok:XSt Γ B cx ex Hz gz k X c) {o kx v:E}{ts:List Expr}(h:chkC B c (.sti o kx v) (.Assign ts x pos)=true):PS X (.Assign ts x pos) (TC Γ cx ex w Hz gz (.sti o kx v)):=by
  have h:(match (sole ts).bind XF with
    | some q=>chkE B c o q.1&&chkE B c kx q.2.1&&chkE B c v x
    | none=>false)=true:=h
  cases e2:(sole ts).bind XF with
  | none=>rw [e2] at h;cases h
  | some q=>
    rw [e2] at h;have et:=Ud e2;subst et;obtain ⟨z,y,sp⟩:=q;have h:(chkE B c o z&&chkE B c kx y&&chkE B c v x)=true:=h;simp only [ε] at h;obtain ⟨⟨h1,h2⟩,h3⟩:=h;exact ziv ok.ok.u1 (ok.pe h3) (ok.pe h1) (ok.pe h2) (noSl h2) (Vd x z y sp pos.line X.env) (kj x z y sp X.env) rfl
mutual
theorem sC (ok:XSt Γ B cx ex Hz gz k X c):∀ (s:C) (st:Stmt),chkC B c s st=true->PS X st (TC Γ cx ex w Hz gz s)
 | .set t e,st,h=>by
  have hb:Υ st.ctorIdx 5=true:=by revert h;cases st <;> first | exact non | exact λ_=>rfl
  revert h;apply jn hb;clear hb;intro ts x pos h;exact zf0 ok h
 | .expr e,st,h=>by
  have hb:Υ st.ctorIdx 24=true:=by revert h;cases st <;> first | exact non | exact λ_=>rfl
  revert h;apply Wc hb;clear hb;intro x pos h;have h:(chkE B c e x&&We x)=true:=h;simp only [ε] at h;exact zfW (ok.pe h.1) (Yz h.2 none pos.line X.env)
 | .ret e,st,h=>by
  have hb:Υ st.ctorIdx 3=true:=by revert h;cases st <;> first | exact non | exact λ_=>rfl
  revert h;apply Yw hb;clear hb;intro v pos h;cases v with
  | none=>exact nobE h
  | some x=>exact s_rt ok h
 | .retN,st,h=>by
  have hb:Υ st.ctorIdx 3=true:=by revert h;cases st <;> first | exact non | exact λ_=>rfl
  revert h;apply Yw hb;clear hb;intro v pos h;cases v with
  | some x=>exact nobE h
  | none=>exact zfP
 | .ite e a b,st,h=>by
  have hb:Υ st.ctorIdx 12=true:=by revert h;cases st <;> first | exact non | exact λ_=>rfl
  revert h;apply zjk hb;clear hb;intro x aa bb pos h;have h:(chkE B c e x&&ud B c a aa&&ud B c b bb)=true:=h;simp only [ε] at h;exact s_if (ok.pt h.1.1) (sCs ok a aa h.1.2) (sCs ok b bb h.2)
 | .whl e b,st,h=>by
  have hb:Υ st.ctorIdx 11=true:=by revert h;cases st <;> first | exact non | exact λ_=>rfl
  revert h;apply zbp hb;clear hb;intro x bb r pos h;have h:(chkE B c e x&&ud B c b bb&&yo r)=true:=h;simp only [ε] at h;have hr:=z9 h.2;subst hr;exact zda (ok.pt h.1.1) (sCs ok b bb h.1.2) ok.own
 | .forr t it b,st,h=>by
  have hb:Υ st.ctorIdx 9=true:=by revert h;cases st <;> first | exact non | exact λ_=>rfl
  revert h;apply zgG hb;clear hb;intro tgt x bb r pos h;have h:(chkI B c it tgt x&&chkT c t tgt&&wF x&&ud B c b bb&&yo r)=true:=h;simp only [ε] at h;obtain ⟨⟨⟨⟨h1,h2⟩,h3⟩,h4⟩,h5⟩:=h;have hr:=z9 h5;subst hr;exact ziM (sI (ok.hcf noX) ok.hm.no it X c tgt x ok.ok h1) (JD ok.ok h2) (sCs ok b bb h4) ok.own ok.ok.calm (Y4 h3 X.env)
 | .app i e,st,h=>by
  have hb:Υ st.ctorIdx 24=true:=by revert h;cases st <;> first | exact non | exact λ_=>rfl
  revert h;apply Wc hb;clear hb;intro x pos h;obtain ⟨n,np,ap,y,cp,rfl,h1,h3,h4,h5⟩:=qz (show uc B c "append" i e x=true from h);unfold chkN at h1;simp only [ε] at h1;obtain ⟨q1,q2,_⟩:=zF h1.2;exact ziV (by rw [ok.ok.N];exact eq_of_beq h1.1.1) (ok.ok.vis h1.1.2) q1 q2 (ok.pe h3) h4 h5
 | .ext i e,st,h=>by
  have hb:Υ st.ctorIdx 24=true:=by revert h;cases st <;> first | exact non | exact λ_=>rfl
  revert h;apply Wc hb;clear hb;intro x pos h;obtain ⟨n,np,ap,y,cp,rfl,h1,h3,h4,h5⟩:=qz (show uc B c "extend" i e x=true from h);unfold chkN at h1;simp only [ε] at h1;obtain ⟨q1,q2,_⟩:=zF h1.2;exact ziO (by rw [ok.ok.N];exact eq_of_beq h1.1.1) (ok.ok.vis h1.1.2) q1 q2 (ok.pe h3) h4 h5
 | .stv i kx v,st,h=>by
  have hb:Υ st.ctorIdx 5=true:=by revert h;cases st <;> first | exact non | exact λ_=>rfl
  revert h;apply jn hb;clear hb;intro ts x pos h;exact zix ok h
 | .sti o kx v,st,h=>by
  have hb:Υ st.ctorIdx 5=true:=by revert h;cases st <;> first | exact non | exact λ_=>rfl
  revert h;apply jn hb;clear hb;intro ts x pos h;exact ziw ok h
 | .appR o e,st,h=>nobE h
 | .pop i,st,h=>nobE h
 | .popO t i,st,h=>nobE h
 | .popR t o,st,h=>nobE h
 | .pass,st,h=>by
  have hb:Υ st.ctorIdx 25=true:=by revert h;cases st <;> first | exact non | exact λ_=>rfl
  revert h;apply zdS hb;clear hb;intro pos h;exact zfR
 | .brk,st,h=>by
  have hb:Υ st.ctorIdx 26=true:=by revert h;cases st <;> first | exact non | exact λ_=>rfl
  revert h;apply zbq hb;clear hb;intro pos h;exact ziT
 | .cnt,st,h=>by
  have hb:Υ st.ctorIdx 27=true:=by revert h;cases st <;> first | exact non | exact λ_=>rfl
  revert h;apply Wd hb;clear hb;intro pos h;exact ziQ
 | .lin i es,st,h=>nobE h
 | .sta cs o f e,st,h=>nobE h
 | .aua cs o f op e,st,h=>nobE h
 | .rse cn,st,h=>by
  have h:zao B c cn st=true:=by cases st <;> exact h
  unfold zao at h;cases e:zeT st with
  | none=>rw [e] at h;cases h
  | some n=>
   rw [e] at h;have h':((B.cls[cn]?).map (·.1)==some n&&gloK (c.names.lookup n)&&zJ n)=true:=h;rw [ε,ε] at h';obtain ⟨⟨h1,h2⟩,h3⟩:=h';obtain ⟨np,msg,j,p,cp,pos,rfl⟩:=zb3 e;obtain ⟨⟨n',l⟩,e1,e2⟩:=ο.mp (eq_of_beq h1);cases e2;exact ziB ok.ok e1 (ok.ok.glob h2) (zF h3).1 ok.xr
 | .stx i f es,st,h=>nobE h
 | .sw2 i j a b,st,h=>nobE h
 | .trx tb j f es ce i hb a b els,st,h=>nobE h
 | .tri tb f es ce i hs,st,h=>nobE h
 | .trl tb j ce i hs k1 l,st,h=>by
  have h:zam B c tb j ce i hs k1 l st=true:=by cases st <;> exact h
  unfold zam at h;cases e:zeR st with
  | none=>rw [e] at h;cases h
  | some t=>
   rw [e] at h;have h':=h;clear h;simp only [ε] at h';obtain ⟨⟨⟨⟨⟨⟨⟨⟨⟨⟨⟨⟨h1,h2⟩,h3⟩,h4⟩,h6⟩,h7⟩,h8⟩,h9⟩,h10⟩,h11⟩,h12⟩,h14⟩,h13⟩:=h';rw [zb1 e];obtain ⟨n,fp,xs,cp,ep,cnm,cnp,nm,ss,hp,pos⟩:=t;dsimp only at h1 h2 h3 h4 h7 h8 h9 h10 h11 h13 ⊢;obtain ⟨⟨n',l0⟩,e1,e2⟩:=ο.mp (eq_of_beq h7);cases e2;cases z9 h4;cases ss with
   | nil=>exact nobE h13
   | cons b0 ss=>
    have hl:X.env.kindOf nm=some .local:=by unfold lH;rw [ok.ok.nm];exact eq_of_beq h11
    exact zis ok.ok ok.sk ok.fr (by rw [ok.ok.N];exact eq_of_beq h1) (ok.ok.vis h2) (zF h3).1 (zF h3).2.1 (eq_of_beq h6) e1 (ok.ok.glob h8) (zF h9).1 (by rw [ok.ok.N];exact eq_of_beq h10) hl (by rw [ok.ok.N];exact of_decide_eq_true h12) (of_decide_eq_true h14) h13
 | .rtx _ _,st,h=>by revert h;cases st <;> exact nobE
 | .frz _,st,h=>by revert h;cases st <;> exact nobE
 | .frr _,st,h=>by revert h;cases st <;> exact nobE
 | .frk _,st,h=>by revert h;cases st <;> exact nobE
theorem sCs (ok:XSt Γ B cx ex Hz gz k X c):∀ (ss:List C) (sts:List Stmt),ud B c ss sts=true->PSs X sts (TCs Γ cx ex w Hz gz ss)
 | [],sts,h=>by
  cases sts with
  | nil=>exact zfK
  | cons _ _=>exact nobE h
 | s::ss,sts,h=>by
  by_cases hf:∃ i,s=.frz i
  ·obtain ⟨i,rfl⟩:=hf;exact ziL (sCs ok ss sts (by cases sts <;> exact h))
  ·cases sts with
   | nil=>cases s <;> first | exact nobE h | exact absurd ⟨_,rfl⟩ hf
   | cons st sts=>
    have h:(chkC B c s st&&ud B c ss sts)=true:=by cases s <;> first | exact h | exact absurd ⟨_,rfl⟩ hf
    rw [ε] at h;exact zdb (sC ok s st h.1) (sCs ok ss sts h.2)
end
end
open PySem PySem.Spec PySem.W PyProof.Rows L2
theorem ln1 {α:Type}:∀ {l:List α},l.length=1->∃ a,l=[a]
 | [a],_=>⟨a,rfl⟩
theorem ln2 {α:Type}{l:List α}(h:l.length=2):∃ a0 a1,l=[a0,a1]:=by
 cases l with
 | nil=>cases h
 | cons a0 l=>
  obtain ⟨a1,rfl⟩:=ln1 (iY h);exact ⟨a0,a1,rfl⟩
theorem ln3 {α:Type}{l:List α}(h:l.length=3):∃ a0 a1 a2,l=[a0,a1,a2]:=by
 cases l with
 | nil=>cases h
 | cons a0 l=>
  obtain ⟨a1,a2,rfl⟩:=ln2 (iY h);exact ⟨a0,a1,a2,rfl⟩
theorem ln4 {α:Type}{l:List α}(h:l.length=4):∃ a0 a1 a2 a3,l=[a0,a1,a2,a3]:=by
 cases l with
 | nil=>cases h
 | cons a0 l=>
  obtain ⟨a1,a2,a3,rfl⟩:=ln3 (iY h);exact ⟨a0,a1,a2,a3,rfl⟩
theorem ln5 {α:Type}{l:List α}(h:l.length=5):∃ a0 a1 a2 a3 a4,l=[a0,a1,a2,a3,a4]:=by
 cases l with
 | nil=>cases h
 | cons a0 l=>
  obtain ⟨a1,a2,a3,a4,rfl⟩:=ln4 (iY h);exact ⟨a0,a1,a2,a3,a4,rfl⟩
theorem XD {K:W.Frag}{x:Str}(h:dotted x=false):atN K x=W.nsIn K Ψ x:=by unfold atN;rw [h];rfl
noncomputable def LamR.fn (r:LamR):Fn:=⟨(r.ps++r.fs).length,(r.ps++r.fs).length,[.rtx r.gi (uF 0 (r.ps++r.fs).length)]⟩
noncomputable def xq (rs:List Row) (ls:List LamR:=[]):Nat->Option Fn:=λi=>match rs[i]? with
 | some r=>some r.fn
 | none=>(ls[i - rs.length]?).map LamR.fn
theorem Y5 {rs:List Row}{ls:List LamR}{i:Nat}{r:Row}(h:rs[i]?=some r):xq rs ls i=some r.fn:=by unfold xq;rw [h]
theorem Q4 {rs:List Row}{ls:List LamR}{i:Nat}{r:LamR}(hl:rs.length<=i) (h:ls[i - rs.length]?=some r):xq rs ls i=some r.fn:=by unfold xq;rw [bh hl,h];rfl
noncomputable def tbFrom:List Str->Str->Nat->Option Nat
 | [],_,_=>none
 | y::l,x,n=>if (y==x)=true then some n else tbFrom l x (n+1)
noncomputable def tbOf (B:Tb) (x:Str):Option Nat:=tbFrom B.tabs x 0
set_option tactic.hygienic true in
theorem Z5:∀ {l:List Str}{x:Str}{n p:Nat},tbFrom l x n=some p->∃ i,p=n+i/\l[i]?=some x
 | [],_,_,_,h=>by cases h
 | y::l,x,n,p,h=>by
  unfold tbFrom at h;split at h
  ·rename_i e
   cases h;exact ⟨0,rfl,by rw [eq_of_beq e];rfl⟩
  ·obtain ⟨i,e1,e2⟩:=Z5 h;exact ⟨i+1,by omega,by simpa using e2⟩
noncomputable def roOf (B:Tb) (x:Str):Bool:=(tbOf B x).isSome&&!B.stor.contains x
theorem zcZ {B:Tb}{x:Str}{p:Nat}(h:tbOf B x=some p):B.tabs[p]?=some x:=by obtain ⟨i,e1,e2⟩:=Z5 h;rw [e1,lY];exact e2
set_option tactic.hygienic true in
theorem zhY {h:Heap}{c P:Addr}{o:Obj}(e:cdO c P (some o)=true) (g:h.get? c=some o) (n:c≠P):CodeHd h c P:=by
 unfold cdO at e;split at e
 ·rename_i cl dd vs sl q
  cases q;simp only [ε,beq_iff_eq] at e;obtain ⟨⟨⟨⟨⟨e1,e2⟩,e3⟩,e4⟩,e5⟩,e6⟩:=e;have e7:vs.getD 11 Κ=.ref P:=by rw [Array.getD_eq_getD_getElem?,e2];rfl
  have f3:∃ x t,vs.getD 18 Κ=.str x t:=by
   cases q:vs.getD 18 Κ with
   | str x t=>exact ⟨x,t,rfl⟩
   | _=>rw [q] at e3;cases e3
  have f4:∃ x t,vs.getD 7 Κ=.int x t:=by
   cases q:vs.getD 7 Κ with
   | int x t=>exact ⟨x,t,rfl⟩
   | _=>rw [q] at e4;cases e4
  have f5:∃ x,vs.getD 9 Κ=.bool x:=by
   cases q:vs.getD 9 Κ with
   | bool x=>exact ⟨x,rfl⟩
   | _=>rw [q] at e5;cases e5
  have f6:∃ x t,vs.getD 10 Κ=.int x t:=by
   cases q:vs.getD 10 Κ with
   | int x t=>exact ⟨x,t,rfl⟩
   | _=>rw [q] at e6;cases e6
  obtain ⟨x3,t3,f3⟩:=f3;obtain ⟨x4,t4,f4⟩:=f4;obtain ⟨x5,f5⟩:=f5;obtain ⟨x6,t6,f6⟩:=f6;exact ⟨_,vs,x3,t3,x4,t4,x5,x6,t6,g,e1,rfl,e2,e7,f3,f4,f5,f6,n⟩
 ·cases e
set_option tactic.hygienic true in
theorem zap {K:W.Frag}{mg:Str->Option δ}{c P:Addr}(gl:∀ x u,W.nsIn K Ψ x=some u->mg x=u) (e:cdOk K c P=true):Ψ≠P/\∀ h:Heap,K.In h->CodeHd h c P/\h.BuiltinsAt mg P:=by
 unfold cdOk at e;rw [ε,ε,ε,bne_iff_ne,bne_iff_ne] at e;obtain ⟨⟨⟨e1,e2⟩,e3⟩,e4⟩:=e;refine ⟨bT e3,λh kin=>⟨?_,?_⟩⟩
 ·cases q:K.lookup c with
  | none=>rw [q] at e1;cases e1
  | some o=>exact zhY (by rw [<- q];exact e1) (kin _ _ q) e2
 ·unfold caOf at e4;split at e4
  ·rename_i bm q
   split at q
   ·rename_i C q1
    cases q;simp only [ε,bne_iff_ne] at e4;obtain ⟨⟨⟨e4,e5⟩,e6⟩,e7⟩:=e4;cases q2:K.lookup bm with
    | none=>rw [q2] at e7;cases e7
    | some o=>
     rw [q2] at e7;unfold bmO at e7;split at e7
     ·rename_i cl d sl q3
      cases q3;simp only [ε,beq_iff_eq] at e7;exact ⟨bm,_,gl _ _ q1,e4,e5,e6,kin _ _ q2,e7.1,by rw [e7.2],rfl⟩
     ·cases e7
   ·cases q
  ·cases e4
theorem wW {x:Str}{c:Addr}:∀ (names:List (Str×Ϣ)) (n:Nat) (acc:List (Str×Addr)),(eF n names acc).lookup x=some c->n<=c\/acc.lookup x=some c
 | [],n,acc,h=>.inr h
 | (y,kd)::r,n,acc,h=>by
  unfold eF at h;split at h
  ·rcases wW r _ _ h with z | z
   ·exact .inl (by omega)
   ·rw [Ϡ] at z;split at z
    ·cases z;exact .inl (Β _)
    ·exact .inr z
  ·exact wW r _ _ h
noncomputable def JX (N ps:List Str) (sc:aM):Bool:=
 (sc.kind==.function)&&!sc.isCoroutine&&!sc.isGenerator&&decide N.Nodup&&(N.take ps.length==ps)&&ps.all (λx=>sc.names.lookup x==some .local||sc.names.lookup x==some .cell)&&sc.names.all (λy=>y.2 != .free)
theorem JW {N ps:List Str}{sc:aM}(h:JX N ps sc=true):ZV N ps sc:=by unfold JX at h;simp only [ε,ϡ,fG,decide_eq_true_eq,d7,beq_iff_eq,bne_iff_ne] at h;obtain ⟨⟨⟨⟨⟨⟨h1,h2⟩,h3⟩,h4⟩,h5⟩,h6⟩,h7⟩:=h;exact ⟨h1,h2,h3,h4,h5,h6,h7⟩
structure zL (B:Tb) (r:Row):Prop where
 sc:JX r.N r.ps (zG r.st)=true
 ck:ud B ⟨(zG r.st).names,r.N,!roOf B r.name,tbOf B r.name⟩ r.fn.body (yt r.st)=true
 np:r.fn.np=r.ps.length
 nv:r.fn.nv=r.N.length
 bd:∀ (kV doc pm:δ) (an:Option Addr) (cdv ct:δ) (us:List δ),us.length=r.ps.length->gD (W.fnOf (nmOf r.name) r.name (yQ r.st) (yt r.st) (zG r.st) .none kV doc pm an cdv ct) ⟨us,[]⟩=pure (r.ps.zip us)
def KwOk (rs:List Row) (q:Nat×List Str×List Nat):Prop:=q.2.1≠[]/\∀ r,rs[q.1]?=some r->∀ (kV doc pm:δ) (an:Option Addr) (cdv ct:δ) (ws:List δ),ws.length=q.2.1.length ->
 gD (W.fnOf (nmOf r.name) r.name (yQ r.st) (yt r.st) (zG r.st) .none kV doc pm an cdv ct) ⟨[],q.2.1.zip ws⟩=pure (r.ps.zip (q.2.2.map λi=>ws.getD i .none))
structure XM (K:W.Frag) (x:Str) (st:Stmt):Prop where
 ex:∃ f fd,Fun K (nmOf x) x st f fd/\atN K x=some (some (.ref f))
theorem zhM {K:W.Frag}{x:Str}{st:Stmt}{f:Addr}{oc:δ}{od an:Option Addr}{osl:Array (Option δ)}{kV doc pm cdv ct:δ}(a:atN K x=some (some (.ref f)))
  (l:K.lookup f=some ⟨oc,od,.func (W.fnOf (nmOf x) x (yQ st) (yt st) (zG st) .none kV doc pm an cdv ct),osl⟩) (c:W.codeIn K cdv x=true) (k:W.keepIn K (.ref f)=true):XM K x st:=⟨f,_,zhv l c k,a⟩
noncomputable def faOf (K:W.Frag) (r:Row):Option Addr:=open Classical in if h:∃ f,∃ fd,Fun K (nmOf r.name) r.name r.st f fd/\atN K r.name=some (some (.ref f)) then some (bL h) else none
theorem Wz {K:W.Frag}{r:Row}(h:∃ f,∃ fd,Fun K (nmOf r.name) r.name r.st f fd/\atN K r.name=some (some (.ref f))):faOf K r=some (bL h):=by unfold faOf;exact dif_pos h
noncomputable def gmOf (K:W.Frag) (rs:List Row) (B:Tb):Gm where
 K:=K
 fa:=λi=>(rs[i]?).bind (faOf K)
 ca:=λc=>(B.cls[c]?).bind λp=>caOf K p.1
 la:=λf _ pr b sc fs=>∃ r:LamR,B.fns.length<=f/\B.lams[f - B.fns.length]?=some r/\lamB r pr b sc=true/\fs=r.fs/\B.fns[r.gi]?=some r.g
 ta:=λp=>(B.tabs[p]?).bind λx=>(tbAt K x).map λq=>(q.2,(x++(".<locals>.":Str))++("<lambda>":Str))
def AllR {α:Type}(Q:α->Prop):List α->Prop
 | []=>True
 | a::r=>Q a/\AllR Q r
theorem AllR.at {α:Type}{Q:α->Prop}:∀ {l:List α}{i:Nat}{a:α},AllR Q l->l[i]?=some a->Q a
 | [],_,_,_,h=>by simp at h
 | b::r,0,a,⟨h,_⟩,e=>by simp at e;subst e;exact h
 | b::r,i+1,a,⟨_,h⟩,e=>AllR.at (i:=i) h (by simpa using e)
theorem AllR.mem {α:Type}{Q:α->Prop}:∀ {l:List α}{a:α},AllR Q l->a∈l->Q a
 | b::r,a,⟨h,t⟩,e=>by
  rcases Ε.mp e with rfl | q
  ·exact h
  ·exact AllR.mem t q
structure zaJ (K:W.Frag) (mg:Str->Option δ) (B:Tb) (rs:List Row):Prop where
 fns:B.fns=rs.map (·.name)
 pars:B.pars=rs.map (·.ps)
 rows:AllR (zL B) rs
 kws:AllR (KwOk rs) B.kws
 defs:AllR (λr=>XM K r.name r.st) rs
 gl:∀ x u,W.nsIn K Ψ x=some u->mg x=u
 bare:∀ x∈B.bare,W.nsIn K Ψ x=some none
 consts:∀ (n:Nat) (x:Str) (d:D),B.consts[n]?=some (x,d)->∃ u v,W.nsIn K Ψ x=some (some u)/\RelV v u/\∀ g,Has (gmOf K rs B) g d v
 cls:∀ (c:Nat) (x:Str) (l:List Nat),B.cls[c]?=some (x,l)->∃ C,W.nsIn K Ψ x=some (some (.ref C))/\KCls (gmOf K rs B) (B.cls.map (·.2)) c C
 obs:∀ o∈B.obs,∃ C,W.nsIn K Ψ o.name=some (some (.ref C))/\ObOk (gmOf K rs B) o C
 tabs:∀ (p:Nat) (x:Str),B.tabs[p]?=some x->∃ c P,tbAt K x=some (c,P)/\cdOk K c P=true
section
variable {P:Τ}{w:ϓ}{K:W.Frag}{mg:Str->Option δ}{base:Heap}{B:Tb}{rs:List Row}
theorem zjW {F:Nat->Option Fn}{wh:Nat}(h:∀ f fn ps,F f=some fn->B.pars[f]?=some ps->fn.np=ps.length):∀ k ex,CfN B (zb F wh k ex)
 | 0,_=>λ_ _ _ _ _ _ q=>q.elim
 | k+1,_=>λf ds V S ps hp q=>by obtain ⟨fn,e,hl,_⟩:=zQ q;rw [hl,h f fn ps e hp]
theorem Z7 {Γ:Gm}{H:Hp}{g:G}{fn:Fn}{N:List Str}{ds:List D}{vs:List V}(h:Hass Γ g ds vs) (hn:fn.nv=N.length):EnvO Γ H H g (entry fn ds) (L2.start N vs):=by
 have hl:=h.len;have key:∀ (i:Nat) (s:Slot),(entry fn ds)[i]?=some s->(∃ d,ds[i]?=some d/\s=.sh d)\/s=.no:=by
  intro i s e;unfold entry at e;by_cases hi:i < ds.length
  ·rw [ϖ (by simpa using hi),Ρ,π hi] at e;cases e;exact .inl ⟨ds[i],π hi,rfl⟩
  ·rw [Ϙ (by simpa using mL hi),bF] at e;split at e
   ·cases e;exact .inr rfl
   ·cases e
 refine ⟨?_,λi d e=>?_,λi d e=>?_,λi j d e a h1=>?_⟩
 ·unfold entry L2.start;simp [hl,hn]
 ·rcases key i _ e with ⟨d',e1,e2⟩ | e2
  ·cases e2;obtain ⟨v,q,hv⟩:=h.get e1;refine ⟨v,?_,hv⟩;unfold L2.start;have hi:=(χ.mp q).1;rw [ϖ (by simpa using hi),Ρ,q];rfl
  ·cases e2
 ·rcases key i _ e with ⟨d',e1,e2⟩ | e2 <;> cases e2
 ·rcases key i _ h1 with ⟨d',e1,e2⟩ | e2 <;> cases e2
section
variable {Γ:Gm}{F:Nat->Option Fn}{wh k:Nat}
def noE:δ->μ->Prop:=λ_ _=>False
theorem zgU:LamI Γ (spN Γ (zb F wh 0)) 0 P w K mg base:=by intro f n q pr b sc fs a pm cv ct cl ws A outer s H us vs Q E hla hr e0 ha hc C rv sp;obtain ⟨_,g,ds,S,V,ex,_,_,h,_⟩:=sp;exact h.elim
theorem Qo (hcf:∀ ex,CfN B (zb F wh k ex)) (hK:K=Γ.K) (fns:∀ (f:Nat) (x:Str),B.fns[f]?=some x->FnI Γ B (spN Γ (zb F wh k)) k P w K mg base f x) (bare:∀ x∈B.bare,mg x=none)
  (consts:∀ (n:Nat) (x:Str) (d:D),B.consts[n]?=some (x,d)->∃ u v,mg x=some u/\RelV v u/\∀ g,Has Γ g d v) (fa:∀ (f:Nat) (a:Addr),Γ.fa f=some a->∃ x,B.fns[f]?=some x)
  (clq:∀ (c:Nat) (x:Str) (l:List Nat),B.cls[c]?=some (x,l)->∃ C,mg x=some (.ref C)/\KCls Γ (B.cls.map (·.2)) c C) (ca:∀ (c:Nat) (C:Addr),Γ.ca c=some C->∃ x l,B.cls[c]?=some (x,l)) (ob:∀ o∈B.obs,∃ C,mg o.name=some (.ref C)/\ObOk Γ o C) (lm:LamI Γ (spN Γ (zb F wh k)) k P w K mg base) (laq:∀ (f:Nat) (r:LamR) (q:Str) (pr:bA) (b:Expr) (sc:aM),B.fns.length<=f->B.lams[f - B.fns.length]?=some r->lamB r pr b sc=true->B.fns[r.gi]?=some r.g->Γ.la f q pr b sc r.fs)
  (la:∀ f q pr b sc fs,Γ.la f q pr b sc fs->∃ r:LamR,lamB r pr b sc=true/\fs=r.fs/\B.fns[r.gi]?=some r.g/\F f=some r.fn):LamI Γ (spN Γ (zb F wh (k+1))) (k+1) P w K mg base:=by
 intro f n q pr b sc fs a pm cv ct cl ws A outer s H us vs Q E hla hr e0 ha hc C rv sp;obtain ⟨r,hB,rfl,hg,hF⟩:=la f q pr b sc fs hla;unfold lamB at hB;rw [ε,ε] at hB;obtain ⟨⟨b1,b2⟩,b3⟩:=hB;obtain ⟨as,rfl,eps,has⟩:=KD b1;obtain ⟨p1,p4,x0,xs,rfl,hns⟩:=zeL b2;obtain ⟨LS,_,z1,z2,z4⟩:=Qd b3;obtain ⟨hn,g,ds,S,V,ex,wok,hh,hcx,kk,kx⟩:=sp;obtain ⟨fn,e1,hl,hw⟩:=zQ hcx;rw [hF] at e1;cases e1;have hw:wpEs (zb F wh k noX) (entry r.fn ds) (uF 0 (r.ps++r.fs).length) (λds S1=>zb F wh k ex r.gi ds (λx S2=>retV x λo=>nxt (λρ' S'=>told V (.next ρ') S') (told V) o S2) S1) S:=hw;have hl:ds.length=(r.ps++r.fs).length:=hl;have h2:=hh.len;have h3:r.fs.length=ws.length:=C.len;rw [Ξ] at h2 hl;have hvl:vs.length=r.ps.length:=by omega
 have hul:us.length=as.length:=by rw [<- L2.Vals.length rv,hvl,<- eps,ψ]
 have hst:L2.start (r.ps++r.fs) (vs++ws)=(vs++ws).map some:=by unfold L2.start;rw [show (r.ps++r.fs).length - (vs++ws).length=0 by rw [Ξ,Ξ];omega];simp
 have hnv:r.fn.nv=(r.ps++r.fs).length:=rfl;refine zec (CX:=CX1 P w) (k:=2*k+1) LS hr e0 ha hc C hvl rv (by rw [<- eps];exact Ql has hul) λs1 hrm I=>?_
 have ok:XOk Γ B (spN Γ (zb F wh k)) k (cxL P w K mg base (r.ps++r.fs) q sc a cv cl A outer s H) ⟨sc.names,r.ps++r.fs,false,none⟩:=⟨hK,rfl,LS.kind,rfl,LS.nd,λz=>(nomatch z),rfl,hrm,λx hx=>(by
  rcases hx with hx | hx
  ·exact absurd rfl (LS.cell _ (ϐ hx))
  ·obtain ⟨_,c,_,_,e,_⟩:=C.has (LS.all x hx)
   exact ⟨c,e⟩),fns,bare,consts,fa,clq,ca,ob,lm,laq,λp z=>(nomatch z)⟩
 have vis:∀ x∈r.ps++r.fs,Vis sc x:=λx hx=>by
  rcases ϋ.mp hx with z | z
  ·exact .inl (LS.par x z)
  ·exact .inr (.inr (LS.fre x z))
 have pa:∀ E,PA ((cxL P w K mg base (r.ps++r.fs) q sc a cv cl A outer s H).wish E) (x0::xs) (TXs Γ (zb F wh k noX) (uF 0 (r.ps++r.fs).length))/\∀ z∈x0::xs,notStar z=true:=λE=>zbu _ _ 0 hns λj x e=>⟨by rw [lY];exact e,vis x (ϑ e),z2 x (ϑ e)⟩
 refine zh9 (X:=cxL P w K mg base (r.ps++r.fs) q sc a cv cl A outer s H) (exx:=ex) (V:=λx S2=>retV x λo=>nxt (λρ' S'=>told V (.next ρ') S') (told V) o S2) ok hcf hg (qR z4) (ok.glob z1) (zF z4).1 (pa noE).2 (pa _).1 I hw wok (hst ▸ Z7 (N:=r.ps++r.fs) hh hnv) (λx v u H' g' S' s' J rv st w' vx q=>?_) λH1 g1 s1 e s' I1 st1 hq=>?_
 ·obtain ⟨d,kd⟩:=x;cases kd with
  | st=>exact ⟨v,H',J,rv,kk (d,.st) v H' g' S' st w' vx q⟩
  | fr=>exact ⟨v,H',J,rv,kk (d,.fr) v H' g' S' st w' vx q⟩
  | _=>exact q.elim
 ·exact L2.qj (X:=cxL P w K mg base (r.ps++r.fs) q sc a cv cl A outer s H) (E:=E) rfl rfl rfl I1 hq λC0 H' z=>by obtain ⟨c,C1,g2,S2,eC,hca,s2,w2,q⟩:=z;subst eC;exact kx c e C1 H' g2 S2 (st1.trans s2) w2 hca q
end
theorem zhW {wh:Nat}(md:zaJ K mg B rs) (k:Nat):∀ ex,CfN B (zb (xq rs B.lams) wh k ex):=zjW (λf fn ps h1 h2=>by
  rw [md.pars,Ρ] at h2;cases e:rs[f]? with
  | none=>rw [e] at h2;cases h2
  | some q=>
   rw [Y5 e] at h1;rw [e] at h2;cases h1;cases h2
   exact (md.rows.at e).np) k
theorem JF {K:W.Frag}{x:Str}{fa c P:Addr}{oc:δ}{od an:Option Addr}{osl:Array (Option δ)}{nm qn:Str}{ar:bA}{bd:List Stmt}{sc:aM}{kV dV doc pm cdv ct:δ}(na:atN K x=some (some (.ref fa))) (lk:K.lookup fa=some ⟨oc,od,.func (W.fnOf nm qn ar bd sc dV kV doc pm an cdv ct),osl⟩) (h:tbAt K x=some (c,P)):cdv=.ref c:=by
 unfold tbAt at h;rw [na] at h;dsimp only at h;rw [lk] at h;dsimp only [W.fnOf] at h;cases cdv with
 | ref d=>
  dsimp only at h;split at h
  ·split at h
   ·cases h;rfl
   ·cases h
  ·cases h
 | _=>cases h
theorem fn_e {wh k f:Nat}{r:Row}{fa:Addr}{fd:bK}(md:zaJ K mg B rs) (hr:rs[f]?=some r) (F:Fun K (nmOf r.name) r.name r.st fa fd) (na:atN K r.name=some (some (.ref fa))) (lmi:LamI (gmOf K rs B) (spN (gmOf K rs B) (zb (xq rs B.lams) wh k)) k P w K mg base) (ih:∀ (g:Nat) (x:Str),B.fns[g]?=some x->FnI (gmOf K rs B) B (spN (gmOf K rs B) (zb (xq rs B.lams) wh k)) k P w K mg base g x):
  FnOk P w K mg base (CX1 P w) (2*k+1+1) fa fd r.ps (spN (gmOf K rs B) (zb (xq rs B.lams) wh (k+1)) f r.ps.length):=by
 have ro:=md.rows.at hr;have sc:=JW ro.sc;have hcf:=zhW (wh:=wh) md k;obtain ⟨oc,od,kV,doc,pm,an,cdv,ct,osl,rfl,lk,hcd⟩:=F.ex;refine zhx (ro:=λ_=>roOf B r.name) lk hcd sc (λvs H Q E h=>h.1) λA outer s H vs Q E hrm h=>?_
 obtain ⟨hl,g,ds,S,V,ex,wok,hh,hc,kk,kx⟩:=h;obtain ⟨fn,e1,_,hc⟩:=zQ hc;rw [Y5 hr] at e1;cases e1
 refine ⟨TCs (gmOf K rs B) (zb (xq rs B.lams) wh k) ex wh H g r.fn.body,sCs (Γ:=gmOf K rs B) (c:=⟨(zG r.st).names,r.N,!roOf B r.name,tbOf B r.name⟩) ⟨⟨rfl,rfl,sc.kind,rfl,sc.nd,λz _=>z,rfl,hrm,λx hx=>?_,ih,λx hx=>?_,λn x d e=>?_,λf a e=>?_,λc x l e=>?_,λc C e=>?_,λo ho=>?_,lmi,λf r q pr b sc e1 e2 e3 e4=>⟨r,e1,e2,e3,rfl,e4⟩,λp hp=>?_⟩,lQ.leaving,hcf,yC k,rfl,rfl,λpJ σ H1 s1 g1 S1 c C h' ea args I st wo hex hca m=>L2.leave_new (X:=cxOf (CX1 P w) P w K mg base r.N r.name (zG r.st) fa cdv A outer s H E λ_=>roOf B r.name) rfl rfl rfl I m (kx c (.ref ea) C H1 g1 S1 st wo hca hex),λpJ σ H1 s1 g1 e s' I st hq=>L2.qj (X:=cxOf (CX1 P w) P w K mg base r.N r.name (zG r.st) fa cdv A outer s H E λ_=>roOf B r.name) rfl rfl rfl I hq λC H' z=>by
  obtain ⟨c,C0,g2,S2,eC,hca,s2,w2,q⟩:=z;subst eC
  exact kx c e C0 H' g2 S2 (st.trans s2) w2 hca q⟩ r.fn.body (yt r.st) ro.ck,entry r.fn ds,S,_,g,hc,Step.refl H g,wok,Z7 hh ro.nv,?_⟩
 ·rcases hx with hx | hx
  ·exact vL hx
  ·exact absurd rfl (sc.nofree _ (ϐ hx))
 ·exact md.gl x none (md.bare x hx)
 ·obtain ⟨u,v,e1,e2,e3⟩:=md.consts n x d e;exact ⟨u,v,md.gl x (some u) e1,e2,e3⟩
 ·obtain ⟨r,er,_⟩:=ν.mp (show (rs[f]?).bind (faOf K)=some a from e);exact ⟨r.name,by rw [md.fns,Ρ,er];rfl⟩
 ·obtain ⟨C,e1,e2⟩:=md.cls c x l e;exact ⟨C,md.gl x _ e1,e2⟩
 ·obtain ⟨p,ep,_⟩:=ν.mp (show (B.cls[c]?).bind (λp=>caOf K p.1)=some C from e);exact ⟨p.1,p.2,ep⟩
 ·obtain ⟨C,e1,e2⟩:=md.obs o ho;exact ⟨C,md.gl _ _ e1,e2⟩
 ·have hp:tbOf B r.name=some p:=hp;have hx:=zcZ hp;obtain ⟨c,P',t1,t2⟩:=md.tabs p _ hx;obtain ⟨n1,n2⟩:=zap md.gl t2;have hc:cdv=.ref c:=JF na lk t1;refine ⟨⟨⟨c,P',hc,?_,n1,n2⟩,λx c h=>?_⟩,λz _=>z⟩
  ·show (B.tabs[p]?).bind _=_
   rw [hx];show (tbAt K r.name).map _=_
   rw [t1];rfl
  ·rcases wW _ _ _ h with z | z
   ·exact Nat.le_of_succ_le z
   ·cases z
 ·exact ⟨λρ σ' H' g' S' st le w' env q=>kk (.non,.st) .non H' g' S' st w' rfl q,λρ σ' H' g' S' st le w' env q=>q.elim,λρ σ' H' g' S' st le w' env q=>q.elim,λd fr v H' g' S' st le w' vo q=>kk (d,kd fr) v H' g' S' st w' (VN.of vo) q⟩
theorem fn_0 {f:Nat}{wh:Nat}{fa:Addr}{fd:bK}{ps:List Str}{Γ:Gm}{F:Nat->Option Fn}:FnOk P w K mg base (CX1 P w) 0 fa fd ps (spN Γ (zb F wh 0) f ps.length):=
 ⟨λvs H Q E h=>h.1,λA outer s H args us vs Q E hr he hb hv ⟨_,g,ds,S,V,_,_,_,hc,_⟩=>hc.elim⟩
theorem Z1:∀ {zs:List V}{ws:List δ}(i:Nat),Vals zs ws->RelV (zs.getD i .non) (ws.getD i .none)
 | _,_,_,.nil=>rfl
 | _,_,0,.cons h _=>h
 | _,_,i+1,.cons _ t=>by have:=Z1 i t;simpa using this
theorem Va {zs:List V}{ws:List δ}(h:Vals zs ws):∀ (perm:List Nat),Vals (perm.map λi=>zs.getD i .non) (perm.map λi=>ws.getD i .none)
 | []=>.nil
 | i::r=>.cons (Z1 i h) (Va h r)
theorem zcE {wh k:Nat}(md:zaJ K mg B rs) (h:∀ (f:Nat) (r:Row) (fa:Addr) (fd:bK),rs[f]?=some r->Fun K (nmOf r.name) r.name r.st fa fd->atN K r.name=some (some (.ref fa))->FnOk P w K mg base (CX1 P w) (2*k) fa fd r.ps (spN (gmOf K rs B) (zb (xq rs B.lams) wh k) f r.ps.length)):
  ∀ (f:Nat) (x:Str),B.fns[f]?=some x->FnI (gmOf K rs B) B (spN (gmOf K rs B) (zb (xq rs B.lams) wh k)) k P w K mg base f x:=by
 intro f x hx;rw [md.fns,Ρ] at hx;cases hr:rs[f]? with
 | none=>rw [hr] at hx;cases hx
 | some r=>
  rw [hr] at hx;cases hx;have da:∃ f,∃ fd,Fun K (nmOf r.name) r.name r.st f fd/\atN K r.name=some (some (.ref f)):=(md.defs.at hr).ex;obtain ⟨fd,F,na⟩:=dY da;have ro:=md.rows.at hr;refine ⟨bL da,fd,r.ps,?_,λhd=>md.gl _ _ (by rw [<- na];unfold atN;rw [hd];rfl),F.kp,F.binds ro.bd,?_,h f r _ fd hr F na,λks perm h1 h2 h3 h4 h5=>?_⟩
  ·show (rs[f]?).bind (faOf K)=_
   rw [hr];exact Wz da
  ·rw [md.pars,Ρ,hr];rfl
  ·have hk:=md.kws.mem h5;obtain ⟨oc,od,kV,doc,pm,an,cdv,ct,osl,hfd,lk,hcd⟩:=F.ex;refine ⟨λs us ws _ hl=>?_,λ{vs us zs ws} r1 r2=>?_⟩
   ·have hl:(if ws.length=ks.length then us++perm.map λi=>ws.getD i .none else []).length=r.ps.length:=hl;show BindsTo s fd ⟨us,ks.zip ws⟩ (r.ps.zip (if ws.length=ks.length then us++perm.map λi=>ws.getD i .none else []))
    by_cases hw:ws.length=ks.length
    ·rw [if_pos hw] at hl ⊢;have hu:us=[]:=by
      cases us with
      | nil=>rfl
      | cons _ _=>simp at hl;lia
     subst hu;rw [hfd];exact .of_eq (hk.2 r hr kV doc pm an cdv ct ws hw)
    ·rw [if_neg hw] at hl ⊢;have h0:r.ps=[]:=bD.mp hl.symm;have hk0:ks=[]:=bD.mp (by rw [h4,h0];rfl);exact absurd hk0 hk.1
   ·show Vals (if zs.length=ks.length then vs++perm.map λi=>zs.getD i .non else []) (if ws.length=ks.length then us++perm.map λi=>ws.getD i .none else [])
    rw [r2.length];split
    ·exact r1.append (Va r2 perm)
    ·exact .nil
theorem zaI (wh:Nat) (md:zaJ K mg B rs):∀ (k:Nat),(∀ (f:Nat) (x:Str),B.fns[f]?=some x->FnI (gmOf K rs B) B (spN (gmOf K rs B) (zb (xq rs B.lams) wh k)) k P w K mg base f x)/\LamI (gmOf K rs B) (spN (gmOf K rs B) (zb (xq rs B.lams) wh k)) k P w K mg base
 | 0=>⟨zcE md λf r fa fd hr F na=>fn_0,zgU⟩
 | k+1=>by
  obtain ⟨ih,lmi⟩:=zaI wh md k;refine ⟨zcE md λf r fa fd hr F na=>fn_e md hr F na lmi ih,?_⟩;refine Qo (Γ:=gmOf K rs B) (F:=xq rs B.lams) (wh:=wh) (B:=B) (zhW md k) rfl ih (λx hx=>md.gl x none (md.bare x hx)) (λn x d e=>?_) (λf a e=>?_) (λc x l e=>?_) (λc C e=>?_) (λo ho=>?_) lmi (λf r q pr b sc e1 e2 e3 e4=>⟨r,e1,e2,e3,rfl,e4⟩) λf q pr b sc fs h=>?_
  ·obtain ⟨u,v,e1,e2,e3⟩:=md.consts n x d e;exact ⟨u,v,md.gl x (some u) e1,e2,e3⟩
  ·obtain ⟨r,er,_⟩:=ν.mp (show (rs[f]?).bind (faOf K)=some a from e);exact ⟨r.name,by rw [md.fns,Ρ,er];rfl⟩
  ·obtain ⟨C,e1,e2⟩:=md.cls c x l e;exact ⟨C,md.gl x _ e1,e2⟩
  ·obtain ⟨p,ep,_⟩:=ν.mp (show (B.cls[c]?).bind (λp=>caOf K p.1)=some C from e);exact ⟨p.1,p.2,ep⟩
  ·obtain ⟨C,e1,e2⟩:=md.obs o ho;exact ⟨C,md.gl _ _ e1,e2⟩
  ·obtain ⟨r,e1,e2,e3,e4,e5⟩:=h;have hl:B.fns.length=rs.length:=by rw [md.fns,ψ]
   rw [hl] at e1 e2;exact ⟨r,e3,e4,e5,Q4 e1 e2⟩
end
structure Txt (K:W.Frag) (B:Tb) (rs:List Row):Prop where
 defs:AllR (λr=>XM K r.name r.st) rs
 bare:AllR (λx=>W.nsIn K Ψ x=some none) B.bare
 consts:∀ (n:Nat) (x:Str) (d:D),B.consts[n]?=some (x,d)->∃ u v,W.nsIn K Ψ x=some (some u)/\RelV v u/\∀ g,Has (gmOf K rs B) g d v
 cls:∀ (c:Nat) (x:Str) (l:List Nat),B.cls[c]?=some (x,l)->∃ C,W.nsIn K Ψ x=some (some (.ref C))/\KCls (gmOf K rs B) (B.cls.map (·.2)) c C
 obs:∀ o∈B.obs,∃ C,W.nsIn K Ψ o.name=some (some (.ref C))/\ObOk (gmOf K rs B) o C
 tabs:∀ (p:Nat) (x:Str),B.tabs[p]?=some x->∃ c P,tbAt K x=some (c,P)/\cdOk K c P=true
structure Tabs (B:Tb) (rs:List Row):Prop where
 fns:B.fns=rs.map (·.name)
 pars:B.pars=rs.map (·.ps)
 rows:AllR (zL B) rs
 kws:AllR (KwOk rs) B.kws
theorem zgO {K:W.Frag}{B:Tb}{rs:List Row}{h:Heap}{mg:Str->Option δ}(t:Tabs B rs) (x:Txt K B rs) (X:K.In h) (N:h.Ns Ψ mg):zaJ K mg B rs where
 fns:=t.fns
 pars:=t.pars
 rows:=t.rows
 kws:=t.kws
 defs:=x.defs
 gl:=λy u e=>by
  cases u with
  | none=>exact W.mg_none_of X N e
  | some v=>exact W.mg_of X N e
 bare:=λy hy=>x.bare.mem hy
 consts:=x.consts
 cls:=x.cls
 obs:=x.obs
 tabs:=x.tabs
theorem zeH {K:W.Frag}{rs:List Row}{B:Tb}{x:Str}{i:Int}{t:Tok}(h:W.nsIn K Ψ x=some (some (.int i t))):∃ u v,W.nsIn K Ψ x=some (some u)/\RelV v u/\∀ g,Has (gmOf K rs B) g (.int i) v:=⟨_,.int i,h,⟨t,rfl⟩,λ_=>rfl⟩
theorem zhV {K:W.Frag}{rs:List Row}{B:Tb}{i:Nat}{r:Row}(hr:rs[i]?=some r) (d:XM K r.name r.st) (hdt:dotted r.name=false):∃ u v,W.nsIn K Ψ r.name=some (some u)/\RelV v u/\∀ g,Has (gmOf K rs B) g (.fn i) v:=by
 obtain ⟨fd,_,e⟩:=dY d.ex;have e:=(XD hdt).symm.trans e;refine ⟨.ref (bL d.ex),.ref (bL d.ex),e,rfl,λg=>⟨bL d.ex,?_,rfl⟩⟩;show (rs[i]?).bind (faOf K)=_
 rw [hr];exact Wz d.ex
theorem zeD {K:W.Frag}{rs:List Row}{B:Tb}{x i:Str}{t:Tok}(h:W.nsIn K Ψ x=some (some (.str i t))):∃ u v,W.nsIn K Ψ x=some (some u)/\RelV v u/\∀ g,Has (gmOf K rs B) g (.str i) v:=⟨_,.str i,h,⟨t,rfl⟩,λ_=>rfl⟩
open PySem L2
mutual
theorem V6:∀ (n:Nat) (d:D),okP n d=true->eqP d d=true
 | _,.non,_=>rfl
 | _,.bl b,_=>by cases b <;> rfl
 | _,.int i,_=>beq_self_eq_true i
 | _,.str x,_=>beq_self_eq_true x
 | 0,.tup _,h=>nobE h
 | n+1,.tup a,h=>jF n a h
 | 0,.lst _,h=>nobE h
 | n+1,.lst a,h=>jF n a h
 | 0,.dK _ _,h=>nobE h
 | n+1,.dK _ _,h=>nobE h
 | 0,.dT _ _,h=>nobE h
 | n+1,.dT _ _,h=>nobE h
 | 0,.ref _,h=>nobE h
 | n+1,.ref _,h=>nobE h
 | 0,.fn _,h=>nobE h
 | n+1,.fn _,h=>nobE h
 | 0,.scr _,h=>nobE h
 | n+1,.scr _,h=>nobE h
 | 0,.ktp _,h=>nobE h
 | n+1,.ktp _,h=>nobE h
 | 0,.kdc _,h=>nobE h
 | n+1,.kdc _,h=>nobE h
 | 0,.dF _ _,h=>nobE h
 | n+1,.dF _ _,h=>nobE h
 | 0,.ins _ _ _,h=>nobE h
 | 0,.lam _ _,h=>nobE h
 | 0,.tab _,h=>nobE h
 | n+1,.ins _ _ _,h=>nobE h
 | n+1,.lam _ _,h=>nobE h
 | n+1,.tab _,h=>nobE h
theorem jF:∀ (n:Nat) (l:List D),okPs n l=true->eqPs l l=true
 | _,[],_=>rfl
 | n,d::l,h=>by
  have h':(okP n d&&okPs n l)=true:=h;rw [ε] at h';show (eqP d d&&eqPs l l)=true
  rw [V6 n d h'.1,jF n l h'.2];rfl
end
theorem QT {n:Nat}{a:Int}(h0:0<=a) (h1:a < (n:Int)):idx n a=some a.toNat:=by
 show (if 0<=a then (if a < n then some a.toNat else none) else _)=_
 rw [if_pos h0,if_pos h1]
theorem Qa {i j:Int}(h:0 < j):opD .Mod (.int i) (.int j)=some (.int (i % j),false):=by
 show (if decide (0 < j)=true then some (i % j) else none).map (λk=>(D.int k,false))=_
 rw [if_pos (decide_eq_true h)];rfl
theorem YB {i j:Int}(h:zX i=true):opD .Mult (.int i) (.int j)=some (.int (i*j),false):=by
 show (if (zX i||zX j)=true then some (D.int (i*j),false) else none)=_
 rw [if_pos (by rw [h];rfl)]
theorem zd1 {i j:Int}(h:zX j=true):opD .Mult (.int i) (.int j)=some (.int (i*j),false):=by
 show (if (zX i||zX j)=true then some (D.int (i*j),false) else none)=_
 rw [if_pos (by rw [h,Bool.or_true])]
theorem uK {i:Int}(h0:0<=i) (h1:i < 4294967296):zX i=true:=by unfold zX;rw [decide_eq_true (by lia),decide_eq_true (by lia)];rfl
theorem fits_of {n:Nat}(h:n<=1000000):fits n=true:=decide_eq_true h
theorem Vv {l:List D}{a:Int}{d:D}(h0:0<=a) (h:l[a.toNat]?=some d):subD (.lst l) (.int a)=some d:=by
 show ((idx l.length a).bind λk=>l[k]?)=_
 have:=(χ.mp h).1;rw [QT h0 (by lia)];exact h
theorem zce {l:List D}{a:Int}{d:D}(h0:0<=a) (h:l[a.toNat]?=some d):subD (.tup l) (.int a)=some d:=by
 show ((idx l.length a).bind λk=>l[k]?)=_
 have:=(χ.mp h).1;rw [QT h0 (by lia)];exact h
theorem ints_get {ns:List Int}{a:Int}(h0:0<=a) (h1:a < (ns.length:Int)):∃ x,x∈ns/\subD (.lst (ns.map D.int)) (.int a)=some (.int x):=by
 have hl:a.toNat < ns.length:=by lia
 refine ⟨ns[a.toNat],aN hl,Vv h0 ?_⟩;rw [Ρ,π hl];rfl
theorem jA:∀ (ns:List Int),uC (ns.map D.int)=some ns
 | []=>rfl
 | i::ns=>by
  show (uC (ns.map D.int)).map (i::·)=_
  rw [jA ns];rfl
theorem ze1 {a b:List D}(h:a.length+b.length<=1000000):opD .Add (.tup a) (.tup b)=some (.tup (a++b),false):=by
 show (if fits (a.length+b.length)=true then some (D.tup (a++b),false) else none)=_
 rw [if_pos (fits_of h)]
theorem W0 {a b:List D}(h:a.length+b.length<=1000000):opD .Add (.lst a) (.lst b)=some (.lst (a++b),true):=by
 show (if fits (a.length+b.length)=true then some (D.lst (a++b),true) else none)=_
 rw [if_pos (fits_of h)]
section
variable {α:Type}{F:Nat->Option Fn}{cf:Cf}{cx:Xp->Cf}{ex:Xp}{w k f:Nat}{ds:List D}{V V':Po}{S:Store}{K:Ko}{ρ:List Slot}{x:Vl}{d:D}{b:Bool}{l:List D}{c:C}{cs:List C}
theorem zO {o:Option α}{Q:α->Prop}{a:α}(h:o=some a) (q:Q a):opt o Q:=by subst h;exact q
theorem yH {o:Option (List Slot)}{Q:List Slot->Prop}{a:List Slot}(h:o=some a) (q:Q a):optS o Q:=by subst h;exact q
theorem xn {o:Option (D×Bool)}{Q:Vl->Prop}(h:o=some (d,false)) (q:Q (d,.st)):opV o Q:=by subst h;exact q
theorem UG {o:Option (D×Bool)}{Q:Vl->Prop}(h:o=some (d,true)) (q:Q (d,.fr)):opV o Q:=by subst h;exact q
theorem yr {T F:Prop}(h:b=true) (q:T):tst b T F:=by subst h;exact q
theorem Jz {T F:Prop}(h:b=false) (q:F):tst b T F:=by subst h;exact q
theorem yq {T F:Prop}(t:b=true->T) (f:b=false->F):tst b T F:=by
 cases b with
 | true=>exact t rfl
 | false=>exact f rfl
theorem kp_s {Q:D->Prop}(h:x=(d,.st)) (q:Q d):keep x Q:=by subst h;exact q
theorem kp_f {Q:D->Prop}(h:x=(d,.fr)) (q:Q d):keep x Q:=by subst h;exact q
theorem bx_f {Q:D->Prop}(h:x=(d,.fr)) (q:Q d):boxd x Q:=by subst h;exact q
theorem rv_s {Q:O->Prop}(h:x=(d,.st)) (q:Q (.ret d false)):retV x Q:=by subst h;exact q
theorem rv_f {Q:O->Prop}(h:x=(d,.fr)) (q:Q (.ret d true)):retV x Q:=by subst h;exact q
theorem zjY {Q:Bool->Prop}(h:d=.bl b) (q:Q b):isB d Q:=by subst h;exact q
theorem zhj {Q:Nat->Prop}{f:Nat}(h:d=.fn f) (q:Q f):isF d Q:=by subst h;exact q
theorem zhi {Q:Int->Prop}{i:Int}(h:d=.int i) (q:Q i):isZ d Q:=by subst h;exact q
theorem zio {s:Option Slot}{P Q:D->Prop}(h:s=some (.sh d)) (q:P d):sel s P Q:=by subst h;exact q
theorem ziq {s:Option Slot}{P Q:D->Prop}(h:s=some (.ow d)) (q:Q d):sel s P Q:=by subst h;exact q
theorem ziZ {s:Option Slot}{Q:Vl->Prop}(h:s=some (.sh d)) (q:Q (d,.st)):rdV s Q:=by subst h;exact q
theorem zi0 {s:Option Slot}{Q:Vl->Prop}(h:s=some (.ow d)) (q:Q (d,.bo)):rdV s Q:=by subst h;exact q
theorem zgs {s:Option Slot}{Q:List D->Prop}(h:s=some (.ow (.lst l))) (q:Q l):owL s Q:=by subst h;exact q
theorem zgt {s:Option Slot}{Q:D->Prop}(h:s=some (.ow d)) (q:Q d):owD s Q:=by subst h;exact q
theorem zhX {s:Option D}{Q:List D->Prop}(h:s=some (.lst l)) (q:Q l):isL s Q:=by subst h;exact q
theorem zhh {n:Nat}{Q:Nat->Prop}(h:d=.ref n) (q:Q n):isR d Q:=by subst h;exact q
theorem zeE (h:wpC cx ex w c ρ (nxt (λρ' S'=>wpCs cx ex w cs ρ' K S') K) S):wpCs cx ex w (c::cs) ρ K S:=h
theorem zhP (h:K (.next ρ) S):wpCs cx ex w [] ρ K S:=h
theorem zcX {g:List Slot->Store->Prop}(h:g ρ S):nxt g K (.next ρ) S:=h
theorem zfn {g:List Slot->Store->Prop}(h:K (.ret d b) S):nxt g K (.ret d b) S:=h
theorem zfp {g:List Slot->Store->Prop}(h:K (.brk ρ) S):nxt g K (.brk ρ) S:=h
theorem zfo {g:List Slot->Store->Prop}(h:K (.cnt ρ) S):nxt g K (.cnt ρ) S:=h
theorem to_s (h:V (d,.st) S):told V (.ret d false) S:=h
theorem to_f (h:V (d,.fr) S):told V (.ret d true) S:=h
theorem zcW (h:V (.non,.st) S):told V (.next ρ) S:=h
theorem zcV {I:List Slot->Store->Prop}(h:I ρ S):trn K I (.next ρ) S:=h
theorem zfk {I:List Slot->Store->Prop}(h:I ρ S):trn K I (.cnt ρ) S:=h
theorem zfl {I:List Slot->Store->Prop}(h:K (.next ρ) S):trn K I (.brk ρ) S:=h
theorem zfj {I:List Slot->Store->Prop}(h:K (.ret d b) S):trn K I (.ret d b) S:=h
theorem wp_mono (h:zb F w k ex f ds V S) (q:∀ x S,V x S->V' x S):zb F w k ex f ds V' S:=(yC k).no f ds V V' S q h
theorem zy {fn:Fn}{bd:List C}(hf:F f=some fn) (hl:ds.length=fn.np) (hb:fn.body=bd) (h:wpCs (zb F w k) ex w bd (entry fn ds) (told V) S):zb F w (k+1) ex f ds V S:=by
 show opt (F f) _
 rw [hf];exact ⟨hl,by rw [hb];exact h⟩
theorem wp_walk {t:T}{A:List C}(I:List D->List Slot->Store->Prop)
  (step:∀ d l ρ S,I (d::l) ρ S->optS (yK ρ t (d,false)) λρ1=>wpCs (zb F w k) ex w A ρ1 (trn K (I l)) S)
  (fin:∀ ρ S,I [] ρ S->K (.next ρ) S):∀ (l:List D) (ρ:List Slot) (S:Store),I l ρ S->forW t (λρ=>wpCs (zb F w k) ex w A ρ) l ρ K S
 | [],ρ,S,h=>fin ρ S h
 | d::l,ρ,S,h=>zg (λρ1 q=>yj (yC k) A (λ_ _=>id) (uI (λρ S=>wp_walk I step fin l ρ S) λ_ _=>id) q) (step d l ρ S h)
theorem uE {e:E}{A:List C}(I:Nat->List Slot->Store->Prop)
  (step:∀ n ρ S,I n ρ S->wpE (ue F w k) ρ e (λx S1=>isB x.1 λb=>tst b (∃ m,n=m+1/\wpCs (zb F w k) ex w A ρ (trn K (I m)) S1) (K (.next ρ) S1)) S):
  ∀ (N n:Nat) (ρ:List Slot) (S:Store),n < N->I n ρ S->whlW (λρ=>wpX (ue F w k) ρ e) (λρ=>wpCs (zb F w k) ex w A ρ) N ρ K S
 | 0,n,ρ,S,hn,h=>absurd hn (m5 n)
 | N+1,n,ρ,S,hn,h=>za (zau k) e (λx S1=>yN λb=>zB (λ⟨m,e,q⟩=>yj (yC k) A (λ_ _=>id) (uI (λρ S=>uE I step N m ρ S (by lia)) λ_ _=>id) q) id) (step n ρ S h)
theorem zR {i:Nat}:wpE cf ρ (.var i) V S=(rdV ρ[i]? λx=>V x S):=rfl
theorem xu {d:D}:wpE cf ρ (.con d) V S=(V (d,.st) S):=rfl
theorem zhD {n:Nat}{d:D}:wpE cf ρ (.glo n d) V S=(V (d,.st) S):=rfl
theorem zhF {op:lF}{a:E}{b:E}:wpE cf ρ (.bin op a b) V S=(wpE cf ρ a (λx S1=>wpE cf ρ b (λy S2=>opV (opD op (zE S2 x.1) (zE S2 y.1)) λx=>V x S2) S1) S):=rfl
theorem zjL {a:E}:wpE cf ρ (.neg a) V S=(wpE cf ρ a (λx S1=>isZ x.1 λi=>V (.int (-i),.st) S1) S):=rfl
theorem zac {op:iB}{a:E}{b:E}:wpE cf ρ (.cmp op a b) V S=(wpE cf ρ a (λx S1=>wpE cf ρ b (λy S2=>opt (cmpD op (zE S2 x.1) (zE S2 y.1)) λr=>V (.bl r,.st) S2) S1) S):=rfl
theorem zjR {o1:iB}{o2:iB}{a:E}{b:E}{c:E}:wpE cf ρ (.chn o1 o2 a b c) V S=(wpE cf ρ a (λx S1=>wpE cf ρ b (λy S2=>opt (cmpD o1 (zE S2 x.1) (zE S2 y.1)) λr=>tst r (wpE cf ρ c (λz S3=>opt (cmpD o2 (zE S3 y.1) (zE S3 z.1)) λr=>V (.bl r,.st) S3) S2) (V (.bl false,.st) S2)) S1) S):=rfl
theorem zjK {a:E}:wpE cf ρ (.not a) V S=(wpE cf ρ a (λx S1=>isB x.1 λb=>V (.bl (!b),.st) S1) S):=rfl
theorem zhG {a:E}{b:E}:wpE cf ρ (.and a b) V S=(wpE cf ρ a (λx S1=>isB x.1 λr=>tst r (wpE cf ρ b V S1) (V (.bl false,.st) S1)) S):=rfl
theorem e_or {a:E}{b:E}:wpE cf ρ (.or a b) V S=(wpE cf ρ a (λx S1=>isB x.1 λr=>tst r (V (.bl true,.st) S1) (wpE cf ρ b V S1)) S):=rfl
theorem zjN {c:E}{a:E}{b:E}:wpE cf ρ (.ite c a b) V S=(wpE cf ρ c (λx S1=>isB x.1 λr=>tst r (wpE cf ρ a V S1) (wpE cf ρ b V S1)) S):=rfl
theorem zjI {es:List E}:wpE cf ρ (.tup es) V S=(wpEs cf ρ es (λds S1=>tst (fits ds.length) (V (.tup ds,.st) S1) False) S):=rfl
theorem Zy {es:List E}:wpE cf ρ (.lst es) V S=(wpEs cf ρ es (λds S1=>tst (fits ds.length) (V (.lst ds,.fr) S1) False) S):=rfl
theorem Zz {tk:Bool}{ks:List Key}{es:List E}:wpE cf ρ (.dic tk ks es) V S=(wpEs cf ρ es (λds S1=>tst (zbL tk ks ds) (V (dicV tk ks ds,.fr) S1) False) S):=rfl
theorem j7 {a:E}{i:E}:wpE cf ρ (.sub a i) V S=(wpE cf ρ a (λx S1=>wpE cf ρ i (λy S2=>opt (subD (zE S2 x.1) y.1) λd=>V (d,.st) S2) S1) S):=rfl
theorem zjJ {a:E}{lo:Option E}{hi:Option E}:wpE cf ρ (.slc a lo hi) V S=(wpE cf ρ a (λx S1=>wpO cf ρ lo (λl S2=>wpO cf ρ hi (λh S3=>opV (slcD (zE S3 x.1) l h) λx=>V x S3) S2) S1) S):=rfl
theorem e_bi {b:BI}{e:E}:wpE cf ρ (.bi b [e]) V S=(wpE cf ρ e (λx S1=>opV (biD b [zE S1 x.1]) λx=>V x S1) S):=rfl
theorem zjT {b:BI}{e e':E}:wpE cf ρ (.bi b [e,e']) V S=(wpEs cf ρ [e,e'] (λds S1=>opV (biD b (ds.map (zE S1))) λx=>V x S1) S):=rfl
theorem Zx {m:MT}{o:E}{es:List E}:wpE cf ρ (.mth m o es) V S=(wpE cf ρ o (λx S1=>tst (mthK m (zE S1 x.1)) (wpEs cf ρ es (λds S2=>opV (mthD m (zE S2 x.1) ds) λx=>V x S2) S1) False) S):=rfl
theorem jH {f:Nat}{es:List E}:wpE cf ρ (.call f es) V S=(wpEs cf ρ es (λds S1=>cf f ds V S1) S):=rfl
theorem zex {f:Nat}{perm:List Nat}{es:List E}:wpE cf ρ (.callk f perm es) V S=(wpEs cf ρ es (λds S1=>opt (perm.mapM λi=>ds[i]?) λds=>cf f ds V S1) S):=rfl
theorem zjS {e:E}:wpE cf ρ (.box e) V S=(wpE cf ρ e (λx S1=>boxd x λd=>V (.ref S1.length,.st) (S1++[d])) S):=rfl
theorem zjM {f p:Nat}{js:List Nat}:wpE cf ρ (.lam f p js) V S=U8 p S[p]? (opt (shs ρ js) λds=>V (.lam f ds,.st) S):=rfl
theorem zjQ {i:Nat}{es:List E}:wpE cf ρ (.cvl i es) V S=(rdV ρ[i]? λx=>isLm x.1 λf cs=>wpEs cf ρ es (λds S1=>cf f (ds++cs) V S1) S):=rfl
theorem zew {i:Nat}{es:List E}:wpE cf ρ (.callv i es) V S=(rdV ρ[i]? λx=>isF x.1 λf=>wpEs cf ρ es (λds S1=>cf f ds V S1) S):=rfl
theorem zhC {e:E}:wpE cf ρ (.one e) V S=(wpE cf ρ e V S):=rfl
theorem zjP {a b:E}:wpE cf ρ (.dk1 a b) V S=(wpE cf ρ a (λx S1=>keep x λd=>wpE cf ρ b (λy S2=>keep y λe=>opt (dk1D [d,e]) λr=>V (r,.fr) S2) S1) S):=rfl
theorem zhE {e:E}:wpE cf ρ (.flip e) V S=(wpE cf ρ e (λx S1=>opV (zhy (zE S1 x.1)) λx=>V x S1) S):=rfl
theorem xg {t:T}{js:List Nat}{it elt:E}{ifs:List E}(h:wpI cf ρ it (λits S1=>xj (Xk cf ρ t js ifs elt) its [] (λds S2=>V (.lst ds,.fr) S2) S1) S):wpE cf ρ (.comp t js it ifs elt) V S:=h
theorem zcO {t:T}{js:List Nat}{elt:E}{ifs:List E}{acc:List D}{V:List D->Store->Prop}(h:optS (yK (inn ρ t js) t (d,false)) λρ'=>wpF cf ρ' ifs (λb S1=>tst b (wpE cf ρ' elt (λx S2=>keep x λy=>tst (fits (acc.length+1)) (xj (Xk cf ρ t js ifs elt) l (acc++[y]) V S2) False) S1) (xj (Xk cf ρ t js ifs elt) l acc V S1)) S):xj (Xk cf ρ t js ifs elt) (d::l) acc V S:=h
theorem uh {t:T}{js:List Nat}{elt:E}{ifs:List E}{acc:List D}{V:List D->Store->Prop}(h:V acc S):xj (Xk cf ρ t js ifs elt) [] acc V S:=h
end
theorem eqi {a b:Int}:eqP (.int a) (.int b)=(a==b):=rfl
theorem eqs {a b:Str}:eqP (.str a) (.str b)=(a==b):=rfl
theorem eqb {a b:Bool}:eqP (.bl a) (.bl b)=(a==b):=rfl
theorem eqn:eqP .non .non=true:=rfl
theorem eqt {a b:List D}:eqP (.tup a) (.tup b)=eqPs a b:=rfl
theorem eql {a b:List D}:eqP (.lst a) (.lst b)=eqPs a b:=rfl
theorem eqz:eqPs [] []=true:=rfl
theorem eqc {a b:D}{l m:List D}:eqPs (a::l) (b::m)=(eqP a b&&eqPs l m):=rfl
theorem Kf {ks:List Key}{vs:List D}{s:Str}{v:D}(h:hasK ks (.inr s)=false) (hl:ks.length+1<=1000000):putD (.dK ks vs) (.str s) v=some (.dK (ks++[.inr s]) (vs++[v])):=by
 show (if fits (ks.length+1)=true then some (D.dK (yh ks vs (cF s) v).1 (yh ks vs (cF s) v).2) else none)=_
 rw [if_pos (fits_of hl)];unfold yh;rw [h];rfl
theorem zeC (ns:List Int) (lo hi:Option Int):∃ ms:List Int,cutD (ns.map D.int) lo hi=ms.map D.int/\ms.length<=ns.length:=by unfold cutD;rw [<- List.map_drop,<- List.map_take];refine ⟨_,rfl,?_⟩;rw [dz,dB];lia
theorem JM {x k:Int}(h0:0 < k) (h1:k<=4294967296):zX (x % k)=true:=uK (fJ _ (by lia)) (by have:=dW x h0;lia)
theorem om1 {a b K:Nat}(h:b<=K) (e:Nat.ble a b=true):a<=K:=Ϧ (iz e) h
theorem om2 {a b K:Nat}(h:b<=K+1) (e:Nat.ble (a+1) b=true):a<=K:=o5 (Ϧ (iz e) h)
theorem om3 {b K:Nat}(h:b<=K) (e:Nat.ble 1 b=true):K=K - 1+1:=(Nat.sub_add_cancel (Ϧ (iz e) h)).symm
theorem frIn {h:Heap}:∀ (l:List Addr) (a:Addr) (o:Obj),(l.filterMap λa=>(h.get? a).map λo=>(a,o)).lookup a=some o->h.get? a=some o
 | [],a,o,e=>by cases e
 | b::l,a,o,e=>by
  rw [cD] at e;cases q:h.get? b with
  | none=>rw [q] at e;exact frIn l a o e
  | some x=>
   rw [q] at e;dsimp only [gO] at e;rw [Ϡ] at e;cases hb:a==b with
   | true=>
    rw [hb] at e;cases eq_of_beq hb;exact q.trans e
   | false=>
    rw [hb] at e;exact frIn l a o e
set_option tactic.hygienic true in
theorem zbM {K:W.Frag}{x:Str}{st:Stmt}(e:Q8 K x=some (W.fnOf (nmOf x) x (yQ st) (yt st) (zG st) .none .none .none .none none .none .none,true)):XM K x st:=by
 unfold Q8 at e;split at e
 ·rename_i f hf
  split at e
  ·rename_i oc od fd osl hl
   obtain ⟨e1,e2⟩:=eO (ϕ e);obtain ⟨c,k⟩:=ϣ.mp e2;generalize hnn:nmOf x=nn at e1;cases fd;cases e1;dsimp only at hnn;subst hnn;exact zhM hf hl c k
  ·cases e
 ·cases e
set_option tactic.hygienic true in
theorem zcU {K:W.Frag}{a:Addr}{its:Array δ}(h:zfi K a=some its):∃ o n,K.lookup a=some o/\o.cls=.type "tuple"/\o.data=.seq its n/\its.size<=sizeLine:=by
 obtain ⟨o,e1,e2⟩:=ν.mp h;split at e2
 ·rename_i t js n c1 c2
  split at e2
  ·rename_i c
   cases e2;obtain ⟨c3,c4⟩:=ϣ.mp c;exact ⟨o,n,e1,by rw [c1,eq_of_beq c3],c2,Ϧ (of_decide_eq_true c4) (by rw [aJ];decide)⟩
  ·cases e2
 ·cases e2
theorem Wy:∀ (ds:List D) (vs:List δ),qw ds vs=true->∃ xs:List V,Vals xs vs/\∀ (Γ:Gm) (g:G),Hass Γ g ds xs
 | [],[],_=>⟨[],.nil,λ_ _=>rfl⟩
 | .str x::ds,.str y t::vs,h=>by obtain ⟨h1,h2⟩:=ϣ.mp (show (x==y&&qw ds vs)=true from h);obtain ⟨xs,v,k⟩:=Wy ds vs h2;exact ⟨.str x::xs,.cons ⟨t,by rw [eq_of_beq h1]⟩ v,λΓ g=>⟨_,_,rfl,rfl,k Γ g⟩⟩
 | .int x::ds,.int y t::vs,h=>by obtain ⟨h1,h2⟩:=ϣ.mp (show (x==y&&qw ds vs)=true from h);obtain ⟨xs,v,k⟩:=Wy ds vs h2;exact ⟨.int x::xs,.cons ⟨t,by rw [eq_of_beq h1]⟩ v,λΓ g=>⟨_,_,rfl,rfl,k Γ g⟩⟩
set_option tactic.hygienic true in
theorem zhK {K:W.Frag}{a:Addr}{ps:List (Str×Int)}(h:zhL K a ps=true):KDic K a ps:=by
 obtain ⟨h1,h2⟩:=ϣ.mp h;refine ⟨?_,λh k=>W.kt_text_in k h2⟩;split at h1
 ·rename_i o e
  obtain ⟨h3,h4⟩:=ϣ.mp h1;split at h3
  ·rename_i t c
   exact ⟨o,e,by rw [c,eq_of_beq h3],mZ.mp h4⟩
  ·cases h3
 ·cases h1
set_option tactic.hygienic true in
theorem zhS {K:W.Frag}{rs:List Row}{B:Tb}{c:Nat}{p:Str×List Nat}(hp:B.cls[c]?=some p) (h:zbR K B.cls p=true):∃ C,W.nsIn K Ψ p.1=some (some (.ref C))/\KCls (gmOf K rs B) (B.cls.map (·.2)) c C:=by
 unfold zbR at h;cases e:caOf K p.1 with
 | none=>rw [e] at h;cases h
 | some C=>
  rw [e] at h;simp only [ε,beq_iff_eq,ϡ] at h;obtain ⟨⟨⟨⟨⟨⟨⟨⟨h1,h2⟩,h3⟩,h4⟩,h5⟩,h6⟩,h7⟩,h8⟩,h9⟩:=h;have hs:∀ k,subT (B.cls.map (·.2)) c k=p.2.contains k:=λk=>by unfold subT;rw [Ρ,hp];rfl
  have hq:∀ k Ck,(gmOf K rs B).ca k=some Ck->W.kitOne K (.ref C) (.ref Ck)=some (p.2.contains k)/\W.exmOne K (.ref C) (.ref Ck)=some (p.2.contains k):=λk Ck hk=>by obtain ⟨q,e1,e2⟩:=ν.mp (show (B.cls[k]?).bind (λp=>caOf K p.1)=some Ck from hk);have:=h9 k (Ϝ.mpr (χ.mp e1).1);rw [e1] at this;dsimp only at this;rw [e2] at this;simp only [ε,beq_iff_eq] at this;exact this
  refine ⟨C,?_,⟨?_,h1,⟨h2,h3,h4,h5,h6,h7⟩,λk Ck hk=>by rw [hs];exact (hq k Ck hk).1,h8,λk Ck hk=>by rw [hs];exact (hq k Ck hk).2⟩⟩
  ·unfold caOf at e;split at e
   ·rename_i z;cases e;exact z
   ·cases e
  ·show (B.cls[c]?).bind (λp=>caOf K p.1)=some C
   rw [hp];exact e
set_option tactic.hygienic true in
theorem zjl {K:W.Frag}{rs:List Row}{B:Tb}{o:Ob}(hd:AllR (λr=>XM K r.name r.st) rs) (h:obOk K rs o=true):∃ C,W.nsIn K Ψ o.name=some (some (.ref C))/\ObOk (gmOf K rs B) o C:=by
 unfold obOk at h;cases e:caOf K o.name with
 | none=>rw [e] at h;cases h
 | some C=>
  rw [e] at h;simp only [ε,beq_iff_eq,ϡ] at h;obtain ⟨⟨⟨⟨⟨⟨h1,h2⟩,h3⟩,h4⟩,h5⟩,h6⟩,h7⟩:=h;have key:∀ (m:Str) (i:Nat),(m,i)∈o.meths->∃ a,(gmOf K rs B).fa i=some a/\L2.Meth K C m a:=λm i hm=>by
   have:=h7 (m,i) hm;dsimp only at this;cases er:rs[i]? with
   | none=>rw [er] at this;cases this
   | some r=>
    rw [er] at this;dsimp only at this;have da:=(hd.at er).ex;obtain ⟨fd,F,na⟩:=dY da;rw [na] at this;simp only [ε,beq_iff_eq] at this;refine ⟨bL da,?_,⟨this.1.1,this.1.2,this.2⟩⟩;show (rs[i]?).bind (faOf K)=_
    rw [er];exact Wz da
  refine ⟨C,?_,⟨e,⟨h1,h2,h3,h4⟩,h5,key,λi hi=>?_⟩⟩
  ·unfold caOf at e;split at e
   ·rename_i z;cases e;exact z
   ·cases e
  ·obtain ⟨a,e1,mt⟩:=key "__init__" i hi;have hy:(o.meths.any λq=>q.1==("__init__":Str))=true:=bN.mpr ⟨_,hi,by simp⟩;rw [hy] at h6;have h6:(W.makesIn K C&&W.keepIn K (.ref C))=true:=by simpa using h6
   rw [ε] at h6;exact ⟨a,e1,⟨h6.1,mt.at_,mt.fn,h6.2⟩⟩
structure zb9 (K:W.Frag) (B:Tb) (h:Heap):Prop where
 nd:(psOf K B).Nodup
 at_:∀ (p:Nat) (x:Str),B.tabs[p]?=some x->∃ c P,tbAt K x=some (c,P)/\K.lookup P=none/\h.get? P=some (tabObj #[])
set_option tactic.hygienic true in
theorem zc1 {o:Option Obj}(h:tabE o=true):o=some (tabObj #[]):=by
 unfold tabE at h;split at h
 ·rename_i vs sl
  rw [ε,beq_iff_eq,beq_iff_eq] at h;rw [h.1,h.2]
 ·cases h
set_option tactic.hygienic true in
theorem Z3 {K0 K:W.Frag}{x:Str}(h:Z4 K0 K x=true):∃ c P,tbAt K x=some (c,P)/\cdOk K c P=true/\K.lookup P=none/\K0.lookup P=some (tabObj #[]):=by
 unfold Z4 at h;split at h
 ·rename_i q e
  rw [ε,ε] at h;exact ⟨q.1,q.2,e,h.1.1,mZ.mp h.2,zc1 h.1.2⟩
 ·cases h
theorem xF {α β:Type}{f g:α->β}{Q:α->Prop}(h:∀ a,f a=g a->Q a):∀ {l:List α},l.map f=l.map g->AllR Q l
 | [],_=>trivial
 | a::l,e=>by obtain ⟨e1,e2⟩:=List.cons.inj e;exact ⟨h a e1,xF h e2⟩
set_option tactic.hygienic true in
theorem zhR {K:W.Frag}{rs:List Row}{B:Tb}{x:Str}{d:D}(hd:AllR (λr=>XM K r.name r.st) rs) (e:WN K rs x d=true):∃ u v,W.nsIn K Ψ x=some (some u)/\RelV v u/\∀ g,Has (gmOf K rs B) g d v:=by
 cases d with
 | int i=>
  unfold WN at e;dsimp only at e;split at e
  ·rename_i j t q
   cases eq_of_beq e;exact zeH q
  ·cases e
 | str y=>
  unfold WN at e;dsimp only at e;split at e
  ·rename_i j t q
   cases eq_of_beq e;exact zeD q
  ·cases e
 | fn i=>
  unfold WN at e;dsimp only at e;split at e
  ·rename_i r q
   rw [ε] at e;cases eq_of_beq e.1;exact zhV q (hd.at q) (by simpa using e.2)
  ·cases e
 | ktp ds=>
  unfold WN at e;dsimp only at e;split at e
  ·rename_i a q
   split at e
   ·rename_i its z
    obtain ⟨o,n,z1,z2,z3,z4⟩:=zcU z;obtain ⟨xs,v,k⟩:=Wy _ _ e;exact ⟨.ref a,.ref a,q,rfl,λg=>⟨a,xs,rfl,⟨o,its,n,z1,z2,z3,z4,v⟩,k _ g⟩⟩
   ·cases e
  ·cases e
 | kdc ps=>
  unfold WN at e;dsimp only at e;split at e
  ·rename_i a q
   exact ⟨.ref a,.ref a,q,rfl,λg=>⟨a,rfl,zhK e⟩⟩
  ·cases e
 | _=>cases e
theorem zfg {K0 K:W.Frag}{B:Tb}{rs:List Row}(e:zfG K0 K B rs=Uj B rs):Txt K B rs/\(psOf K B).Nodup/\AllR (λx=>Z4 K0 K x=true) B.tabs:=by obtain ⟨e1,e2⟩:=eO e;obtain ⟨e2,e3⟩:=eO e2;obtain ⟨e3,e4⟩:=eO e3;obtain ⟨e4,e5⟩:=eO e4;obtain ⟨e5,e6⟩:=eO e5;obtain ⟨e6,e7⟩:=eO e6;have ht:AllR (λx=>Z4 K0 K x=true) B.tabs:=xF (λp q=>q) e6;have ho:AllR (λo=>obOk K rs o=true) B.obs:=xF (λp q=>q) e5;have hk:AllR (λp=>zbR K B.cls p=true) B.cls:=xF (λp q=>q) e4;have hd:AllR (λr=>XM K r.name r.st) rs:=xF (λr q=>zbM q) e1;have hc:AllR (λp:Str×D=>∃ u v,W.nsIn K Ψ p.1=some (some u)/\RelV v u/\∀ g,Has (gmOf K rs B) g p.2 v) B.consts:=xF (λp q=>zhR hd q) e3;refine ⟨⟨hd,xF (λx q=>q) e2,λn x d q=>hc.at q,λc x l q=>zhS q (hk.at q),λo hm=>zjl hd (ho.mem hm),λp x q=>?_⟩,of_decide_eq_true e7,ht⟩;obtain ⟨c,P,h1,h2,_⟩:=Z3 (ht.at q);exact ⟨c,P,h1,h2⟩
abbrev ze4 (B:Tb) (rs:List Row) (h:Heap):Prop:=∃ K:W.Frag,K.In h/\Txt K B rs/\zb9 K B h
theorem YF {a:Addr}{o:Obj}:∀ {l:W.Frag},l.lookup a=some o->(a,o)∈l
 | [],h=>by cases h
 | (b,u)::l,h=>by
  rw [Ϡ] at h;cases e:a==b with
  | true=>rw [e] at h;cases h;rw [eq_of_beq e];exact ξ
  | false=>rw [e] at h;exact ι _ (YF h)
theorem zhO {h:Heap}{n:Nat}{B:Tb}:(cutK (frOf h n) B).In h:=λa o q=>by
 unfold cutK at q;split at q
 ·exact frIn _ a o q
 ·have m:=(mR.mp (YF q)).1;obtain ⟨b,_,e⟩:=lz.mp m;obtain ⟨o',e1,e2⟩:=ο.mp e;cases e2;exact e1
theorem zfh {B:Tb}{rs:List Row}{n:Nat}(w:ϓ) (s:μ) (e:JT (frOf s.heap n) B rs=Uj B rs):ze4 B rs s.heap:=by obtain ⟨tx,nd,ht⟩:=zfg e;refine ⟨_,zhO,tx,nd,λp x q=>?_⟩;obtain ⟨c,P,h1,_,h3,h4⟩:=Z3 (ht.at q);exact ⟨c,P,h1,h3,frIn _ _ _ h4⟩
theorem JC {K:W.Frag}{B:Tb}{h h':Heap}(t:zb9 K B h) (k:∀ b o,h.get? b=some o->h'.get? b=some o):zb9 K B h':=⟨t.nd,λp x q=>by
 obtain ⟨c,P,h1,h2,h3⟩:=t.at_ p x q
 exact ⟨c,P,h1,h2,k _ _ h3⟩⟩
theorem Qk {P:Τ}{w:ϓ}{K:W.Frag}{mg mb:Str->Option δ}{CX:CXT}{k:Nat}{fa a:Addr}{fd:bK}{x:Str}{sp:Sp}{s₁:μ}{vs:List δ}{ns:List Int}{Ps:List Addr}
  (KX:K.In s₁.heap) (hns:s₁.heap.Ns Ψ mg) (hb:s₁.heap.Ns gC mb) (hbb:∀ x:Str,x≠"__name__"->mb x=cZ x) (hlim:s₁.heap.NoLimit) (hg:s₁.gens=#[])
  (ha:s₁.heap.get? a=some { cls:=.type "list",data:=.seq vs.toArray }) (hi:IntsAre vs ns) (hl:ns.length<=sizeLine) (hr:Room k callerA) (hP:∀ b∈Ps,s₁.heap.get? b=some (tabObj #[])/\K.lookup b=none/\isCodeTable s₁.heap b)
  (F:∀ base:Heap,K.In base->base.Ns Ψ mg->FnOk P w K mg base CX k fa fd [x] sp) (hbind:∀ (s:μ) (u:δ),BindsTo s fd ⟨[u],[]⟩ [(x,u)])
  (hsp:∀ H:Hp,(∀ b∈Ps,H b=some (.tbl #[]))->(∀ R:Hp,(∀ b,b ∉ Ps->R b=H b)->SqL K R a (ns.map V.int))->sp [.ref a] H (λv _=>v=.bl true) λ_ _ _=>False)
  (hCX:∀ H e s',CX [] H s₁ (λ_ _ _=>False) e s'->False):
  gf (Ν P w) callerA (.call (.ref fa) ⟨[.ref a],[]⟩) (λr s'=>r=.ok (.ret (.bool true))/\OldK s₁.heap s'.heap/\s'.os=s₁.os/\gY s'.gens) s₁:=by
 have rv:=L2.Z0 hi;have lenV:=hi.length;have aP:a ∉ Ps:=λz=>by have:=(hP a z).1;rw [ha] at this;cases this
 have core:∀ X:Option HO,(X=none\/X=some (.frz { cls:=.type "list",data:=.seq vs.toArray } (.lst (ns.map V.int))))->(X≠none->K.lookup a=none)->(∀ R:Hp,R a=X->SqL K R a (ns.map V.int)) ->
   gf (Ν P w) callerA (.call (.ref fa) ⟨[.ref a],[]⟩) (λr s'=>r=.ok (.ret (.bool true))/\OldK s₁.heap s'.heap/\s'.os=s₁.os/\gY s'.gens) s₁:=by
  intro X hX hK hS;obtain ⟨H,H1,H2,H3⟩:∃ H:Hp,(∀ b∈Ps,H b=some (.tbl #[]))/\H a=X/\∀ b,b ∉ Ps->b≠a->H b=none:=⟨λb=>if b∈Ps then some (.tbl #[]) else if b=a then X else none,λb h=>if_pos h,(if_neg aP).trans (if_pos rfl),λb h1 h2=>(if_neg h1).trans (if_neg h2)⟩
  have hok:HOk P w H s₁.heap:=λb u z=>by
   by_cases hb:b∈Ps
   ·rw [H1 b hb] at z;cases z;exact (hP b hb).1
   ·by_cases hba:b=a
    ·subst hba;rw [H2] at z;rcases hX with e | e
     ·rw [e] at z;cases z
     ·rw [e] at z;cases z;exact ⟨ha,by rw [ψ];exact hl,vs,_,rv,ha⟩
    ·rw [H3 b hb hba] at z;cases z
  have noA:∀ {b:Addr}{o:Obj}{es:Array nQ}{ep:Nat},s₁.heap.get? b=some o->o.data=.dict es ep->H b=none:=λ{b o es ep} e d=>by
   by_cases hb:b∈Ps
   ·rw [(hP b hb).1] at e;cases e;cases d
   ·by_cases hba:b=a
    ·subst hba;rw [ha] at e;cases e;cases d
    ·exact H3 b hb hba
  have nsK:∀ {b:Addr}{m:Str->Option δ},s₁.heap.Ns b m->(hidT s₁.heap H).Ns b m:=λ{b m} ⟨o,es,ep,e,d,r⟩=>⟨o,es,ep,VP e (noA e d),d,r⟩
  have hKb:K.In (hidT s₁.heap H):=λb o e=>VP (KX b o e) (by
   by_cases hb:b∈Ps
   ·rw [(hP b hb).2.1] at e;cases e
   ·by_cases hba:b=a
    ·subst hba;rcases hX with z | z
     ·rw [H2,z]
     ·rw [hK (by rw [z];simp)] at e;cases e
    ·exact H3 b hb hba)
  have hM:L2.Mod K mg (hidT s₁.heap H):=⟨hKb,nsK hns,⟨mb,nsK hb,hbb⟩,let ⟨mc,h1,h2⟩:=hlim;⟨mc,nsK h1,h2⟩⟩
  have e0:Env0 P w K mg (hidT s₁.heap H) callerA [] s₁ H:=⟨rfl,hM,λb o e=>zdP e,ie (QV _ _),trivial,λb hb=>absurd (show b∈([]:List Addr) from hb) (by simp),hok,.of_eq hg⟩
  refine cY ((F _ hKb (nsK hns)).run callerA [] s₁ H ⟨[.ref a],[]⟩ [.ref a] [.ref a] _ _ hr e0 (hbind s₁ (.ref a)) (.cons rfl .nil) (hsp H H1 λR q=>hS R ((q a aP).trans H2))) λr s' h=>?_
  cases r with
  | error e=>exact (hCX H e s' h).elim
  | ok fl=>
   cases fl with
   | next=>exact ϟ h
   | brk=>exact ϟ h
   | cont=>exact ϟ h
   | ret u=>
    obtain ⟨v,H',os,bare,un,hok',r',q⟩:=h;have q':v=.bl true:=q;subst q';obtain rfl:u=ϒ true:=r';have key:∀ b o,s₁.heap.get? b=some o->(b ∉ Ps->s'.heap.get? b=some o)/\(b∈Ps->o=tabObj #[]/\∃ more,s'.heap.get? b=some (tabObj (#[]++more))):=λb o e=>by
     refine ⟨λhb=>?_,λhb=>?_⟩
     ·by_cases hba:b=a
      ·subst hba;rcases hX with z | z
       ·exact un.keep b o e (by rw [H2,z]) (by intro z;exact absurd (show b∈([]:List Addr) from z) (by simp)) (by simp)
       ·have z2:=un.frzs b _ _ (H2.trans z);have e2:=(hok' b _ z2).1;rw [ha] at e;cases e;exact e2
      ·exact un.keep b o e (H3 b hb hba) (by intro z;exact absurd (show b∈([]:List Addr) from z) (by simp)) (by simp)
     ·have e1:=(hP b hb).1;rw [e] at e1;cases e1;obtain ⟨more,z⟩:=un.tbls b _ (H1 b hb);exact ⟨rfl,more,hok' b _ z⟩
    refine ⟨rfl,⟨λb o e=>?_,λb o e=>?_⟩,os,bare⟩
    ·by_cases hb:b∈Ps
     ·obtain ⟨rfl,more,z⟩:=(key b o e).2 hb;exact .inr (.inl ⟨(hP b hb).2.2,rfl,#[],more,rfl,z⟩)
     ·exact .inl ((key b o e).1 hb)
    ·by_cases hb:b∈Ps
     ·obtain ⟨rfl,more,z⟩:=(key b o e).2 hb;exact ⟨_,z⟩
     ·exact ⟨_,(key b o e).1 hb⟩
 cases hk:K.lookup a with
 | some o=>
  have e:=KX a o hk;rw [ha] at e;cases e;exact core none (.inl rfl) (λz=>absurd rfl z) λR _=>.inr ⟨_,vs.toArray,_,hk,rfl,rfl,rfl,by rw [ω,lenV];exact hl,by simpa using rv⟩
 | none=>exact core _ (.inr rfl) (λ_=>hk) λR e=>.inl (.inr ⟨_,e⟩)
noncomputable def tabS (n:Nat):Store:=(ό n).map D.tab
theorem zc0 {n k:Nat}{c:D}(h:(tabS n)[k]?=some c):c=.tab k/\k < n:=by unfold tabS at h;rw [Ρ] at h;obtain ⟨i,e1,e2⟩:=ο.mp h;obtain ⟨hl,e⟩:=χ.mp e1;rw [pN] at e;exact ⟨by rw [<- e2,e],by simpa using hl⟩
theorem Kh {K:W.Frag}{B:Tb}{k:Nat}{a:Addr}{h:Heap}(t:zb9 K B h) (e:(psOf K B)[k]?=some a):∃ x c,B.tabs[k]?=some x/\tbAt K x=some (c,a)/\K.lookup a=none/\h.get? a=some (tabObj #[]):=by unfold psOf at e;rw [Ρ] at e;obtain ⟨x,e1,e2⟩:=ο.mp e;obtain ⟨c,P,h1,h2,h3⟩:=t.at_ k x e1;rw [h1] at e2;have e2:P=a:=e2;subst e2;exact ⟨x,c,e1,h1,h2,h3⟩
theorem zia {l:W.OpenLaw}{q:Τ}{loose:List Str}{XP:(Str->Option δ)->Heap->Prop}{d:DefRec}{B:Tb}{rs:List Row}{f:Nat}{r:Row}{y:Str}{wh:Nat}(hn:l.most=some 63) (hdf:d.params.defaults=[])
  (hr:rs[f]?=some r) (hd:d.name=r.name) (hdt:dotted r.name=false) (hps:r.ps=[y]) (t:Tabs B rs)
  (run:∀ ns:List Int,ns.length<=63->ue (xq rs B.lams) wh 60 f [.scr ns] (λx _=>x.1=.bl true) (tabS B.tabs.length)):W.WalkO q loose XP (λ_ h=>ze4 B rs h) l.row.toRowW d [] (λf vs=>PySem.call f vs):=by
 refine Att.WW hn hdf λw sy s₁ mg mb fa o pm cd doc a vs ns G Y ho hd' hcd hmg hobj hints hlen hg=>?_
 obtain ⟨K,KX,tx,ti⟩:=Y;obtain ⟨fa',fd,F,na⟩:=(tx.defs.at hr).ex;rw [hd] at hmg;have na':=(XD hdt).symm.trans na;have e:=hmg.symm.trans (W.mg_of KX G.T.g na');cases e;have ro:=t.rows.at hr;have md:=zgO t tx KX G.T.g;refine Qk (Ps:=psOf K B) (CX:=CX1 l.prog w) (k:=120) (x:=y) (fd:=fd) (sp:=spN (gmOf K rs B) (zb (xq rs B.lams) wh 60) f 1) KX G.T.g G.T.b G.T.builtins G.T.nolimit hg hobj hints (Ϧ hlen (by decide)) ⟨rfl,rfl,by decide,by decide⟩ (λb hb=>?_) (λbase KB NB=>?_) (λs v=>?_) (λH hT hS=>?_) λH e s' ⟨_,_,_,_,_,_,_,_,_,_,_,_,z⟩=>z
 ·obtain ⟨p,hp⟩:=bR.mp hb;obtain ⟨x,c,e1,e2,e3,e4⟩:=Kh ti hp;obtain ⟨c',P',f1,f2⟩:=md.tabs p x e1;rw [e2] at f1;cases f1;obtain ⟨_,vs',_,_,_,_,_,_,_,q1,q2,q3,q4,_⟩:=((zap md.gl f2).2 _ KX).1;exact ⟨e4,e3,_,_,vs',q1,q2,q3,q4⟩
 ·have:=fn_e (P:=l.prog) (w:=w) (base:=base) (wh:=wh) (k:=59) md hr F na (zaI wh md 59).2 (zaI wh md 59).1;rw [hps] at this;exact this
 ·obtain ⟨oc,od,kV,doc,pm,an,cdv,ct,osl,rfl,lk,hcd⟩:=F.ex;have hb:=ro.bd kV doc pm an cdv ct [v] (by rw [hps];rfl);rw [hps] at hb;exact .of_eq hb
 ·have hn:∀ b,b∈psOf K B->(if b∈psOf K B then none else H b:Option HO)=none:=λb hb=>if_pos hb
  refine ⟨rfl,⟨λb=>if b∈psOf K B then none else H b,psOf K B⟩,[.scr ns],tabS B.tabs.length,_,noX,⟨λb u e=>?_,?_,ti.nd,(λk c b h1 h2 _=>hn b (ϑ h2)),(λk c b h1 h2=>?_)⟩,⟨.ref a,[],rfl,⟨a,rfl,hS _ λb hb=>if_neg hb⟩,rfl⟩,run ns hlen,λx v H' g' S' _ _ vx q=>?_,λ_ _ _ _ _ _ _ _ _ z=>z.elim⟩
  ·by_cases hb:b∈psOf K B
   ·have e:=(hn b hb).symm.trans e;cases e
   ·exact (if_neg hb).symm.trans e
  ·show (psOf K B).length=(tabS B.tabs.length).length
   unfold psOf tabS;simp
  ·obtain ⟨rfl,_⟩:=zc0 h1;obtain ⟨x,c,e1,e2,e3,e4⟩:=Kh ti h2;refine ⟨(x++(".<locals>.":Str))++("<lambda>":Str),#[],?_,hT b (ϑ h2),.nil⟩
   ·show (B.tabs[k]?).bind _=_
    rw [e1];show (tbAt K x).map _=_
    rw [e2];rfl
  obtain ⟨d,k⟩:=x;cases (show d=.bl true from q);exact vx.sc λ_ z=>z.elim
theorem zjt {α β γ:Type}{o:Option γ}{f:γ->α}{g:γ->β}{a:α}{b:β}(h1:o.map f=some a) (h2:o.map g=some b):o.map (λs=>(f s,g s))=some (a,b):=by
 cases o with
 | none=>cases h1
 | some s=>cases h1;cases h2;rfl
theorem zjs {p q:Τ}{loose:List Str}{Xt:μ->Bool}{α:Type}{Yf:μ->α}{y:α}{N:Nat}(row:String)
  (h:∀ (b:Bool) (w:ϓ),(W.openEnds lK p (w.withFollow row b) N).map (λs=>W.openSeen q loose (oF p.main.body) Xt true s)=some (W.openGood q loose))
  (h2:∀ (b:Bool) (w:ϓ),(W.openEnds lK p (w.withFollow row b) N).map Yf=some y):W.LeftO p q loose Xt Yf (λ_=>y) N:=λw=>by have a:=zjt (h (w.params.followText row) w) (h2 (w.params.followText row) w);rw [ϓ.withFollow_self w row] at a;exact a
theorem zhr {l:W.OpenLaw}{q:Τ}{loose:List Str}{d:DefRec}{B:Tb}{rs:List Row}{f:Nat}{r:Row}{y:Str}{wh:Nat}(N n:Nat) (ok:l.wellSaid=true)
  (left:W.LeftO l.prog q loose (λs=>W.xlAt q [] s&&W.recOk [] s) (λs=>JT (frOf s.heap n) B rs) (λ_=>Uj B rs) N)
  (hdef:W.defOf q l.name=some (d,[])) (hp:l.prog.theDef l.name=some (d.params,d.body,d.scope)) (hk:W.kwWritten? d.params.kwonlyargs d.params.kw_defaults=some [])
  (okk:(W.chainsOk q&&W.opensWell l.prog&&(W.frees l.row.toRowW&&l.row.within.isEmpty))=true) (hb:l.prog.bare) (hw:l.row.toRowW.promised)
  (hn:l.most=some 63) (hdf:d.params.defaults=[]) (hr:rs[f]?=some r) (hd:d.name=r.name) (hdt:dotted r.name=false) (hps:r.ps=[y]) (t:Tabs B rs)
  (run:∀ ns:List Int,ns.length<=63->ue (xq rs B.lams) wh 60 f [.scr ns] (λx _=>x.1=.bl true) (tabS B.tabs.length)):l.Holds:=
 W.holds_law ok λsaid=>W.holds_open (r:=l.row) (q:=q) (loose:=loose) (XP:=W.XL q []) (YP:=λ_ h=>ze4 B rs h) (N:=N) left (λw s e=>zfh w s e) (λw h h' Y k=>Y.elim λK z=>⟨K,z.1.keeps k,z.2.1,JC z.2.2 k⟩)
  (λs e=>W.xl_of s (ϣ.mp e).1) W.XL.keeps hdef hp hk (λs e=>W.recFacts_of (ϣ.mp e).2) (Bool.or_true _) said okk hb hw (zia hn hdf hr hd hdt hps t run)
theorem zfq {p:Nat}{o:Option D}{Q:Prop}(h:o=some (.tab p)) (q:Q):U8 p o Q:=by subst h;exact ⟨rfl,q⟩
theorem zjO {cf:Cf}{ρ:List Slot}{V:Po}{S:Store}{e:E}:wpE cf ρ (.fgt e) V S=wpE cf ρ e (λx S1=>V x S1/\S1.all fgC=true/\∃ b,x=(.bl b,.st)) S:=rfl
theorem zjr {d:D}{f:Nat}{cs:List D}{Q:Nat->List D->Prop}(h:d=.lam f cs) (q:Q f cs):isLm d Q:=by subst h;exact q
theorem zdt {ks:List Key}{vs:List D}{i:Int}{v:D}(h:hasK ks (.inl i)=false) (hl:ks.length+1<=1000000):putD (.dK ks vs) (.int i) v=some (.dK (ks++[.inl i]) (vs++[v])):=by
 show (if fits (ks.length+1)=true then some (D.dK (yh ks vs (dD i) v).1 (yh ks vs (dD i) v).2) else none)=_
 rw [if_pos (fits_of hl)];unfold yh;rw [h];rfl
end EV
namespace Q20
open PySem PySem.Spec PyProof.Rows L2 EV
theorem zeb:W.LeftO ς.prog yJ [("ROW_PARTS":Str),("DOOR_PARTS":Str)] (λs=>W.xlAt yJ [] s&&W.recOk [] s) (λs=>EV.JT (EV.frOf s.heap 400) B rs) (λ_=>EV.Uj B rs) 4000:=EV.zjs "special-get-raises" (λb w=>by
 cases b
 ·exact Wm w
 ·exact UW w) (λb w=>by
 cases b
 ·exact Wl w
 ·exact UV w)
local macro_rules | `(⋯) => `(⟨by decide +kernel, by decide +kernel, rfl, rfl, λ_ _ _ _ _ _ us hl => by first | (obtain ⟨a0, e⟩ := ln1 hl; subst e; rfl) | (obtain ⟨a0, a1, e⟩ := ln2 hl; subst e; rfl) | (obtain ⟨a0, a1, a2, e⟩ := ln3 hl; subst e; rfl) | (obtain ⟨a0, a1, a2, a3, e⟩ := ln4 hl; subst e; rfl) | (obtain ⟨a0, a1, a2, a3, a4, e⟩ := ln5 hl; subst e; rfl)⟩)
theorem U3:zL B kI:=⋯
theorem Wq:zL B jf:=⋯
theorem Qw:zL B Yj:=⋯
theorem YK:zL B uq:=⋯
theorem wR:zL B yG:=⋯
theorem Qu:zL B Yh:=⋯
theorem Zh:zL B vh:=⋯
theorem Wo:zL B je:=⋯
theorem Qv:zL B Yi:=⋯
theorem Wr:zL B jg:=⋯
theorem Zj:zL B vp:=⋯
theorem Qy:zL B Yl:=⋯
theorem U4:zL B kJ:=⋯
theorem vG:zL B yM:=⋯
theorem vZ:zL B yU:=⋯
theorem j4:zL B wB:=⋯
theorem Ws:zL B jh:=⋯
theorem Qx:zL B Yk:=⋯
theorem Zi:zL B vm:=⋯
theorem QB:zL B Yn:=⋯
theorem jZ:zL B wA:=⋯
theorem Qz:zL B Ym:=⋯
theorem zbE:zL B Vk:=⋯
theorem wQ:zL B yF:=⋯
theorem U5:zL B kO:=⋯
theorem YJ:zL B uo:=⋯
theorem Zk:zL B vq:=⋯
theorem U6:zL B kW:=⋯
theorem Wt:zL B ji:=⋯
theorem Zm:zL B vA:=⋯
theorem j5:zL B wC:=⋯
theorem jx:zL B xP:=⋯
theorem jw:zL B xO:=⋯
theorem j6:zL B wD:=⋯
theorem v4:zL B yV:=⋯
theorem wy:zL B yx:=⋯
theorem YL:zL B ur:=⋯
theorem Wu:zL B jj:=⋯
theorem YM:zL B ut:=⋯
theorem zjw:zL B zdp:=⋯
theorem zdj:AllR (zL B) rs:=⟨U3,Wq,Qw,YK,wR,Qu,Zh,Wo,Qv,Wr,Zj,Qy,U4,vG,vZ,j4,Ws,Qx,Zi,QB,jZ,Qz,zbE,wQ,U5,YJ,Zk,U6,Wt,Zm,j5,jx,jw,j6,v4,wy,YL,Wu,YM,zjw,aB⟩
theorem zgX:AllR (KwOk rs) B.kws:=⟨⟨by decide,λr hr=>by
 cases hr
 exact λ_ _ _ _ _ _ us hl=>by obtain ⟨a0,a1,e⟩:=ln2 hl;subst e;rfl⟩,aB⟩
theorem tabs:Tabs B rs:=⟨rfl,rfl,zdj,zgX⟩
noncomputable def wh:Nat:=600
noncomputable def F:=xq rs B.lams
section
variable {k:Nat}{x0 x1 x2 x3 x4 x5 x6:D}{S:Store}{V:Po}{ex:Xp}
set_option hygiene false
local macro_rules | `(↥($b,$n,$r,$d)) => `(wpCs (zb F wh k) ex wh $b $r (told V) S → zb F wh (k+1) ex $n $d V S)
theorem xY:↥(qG,0,[.sh x0],[x0]):=λh=>zy rfl rfl rfl h
theorem u6:↥(jO,1,[.sh x0],[x0]):=λh=>zy rfl rfl rfl h
theorem um:↥(uz,3,[.sh x0,.sh x1],[x0,x1]):=λh=>zy rfl rfl rfl h
theorem yE:↥(yL,4,[.sh x0,.sh x1,.sh x2],[x0,x1,x2]):=λh=>zy rfl rfl rfl h
theorem Jo:↥(Xu,5,[.sh x0],[x0]):=λh=>zy rfl rfl rfl h
theorem qN:↥(vN,6,[.sh x0,.sh x1,.sh x2],[x0,x1,x2]):=λh=>zy rfl rfl rfl h
theorem XN:↥(jN,7,[.sh x0],[x0]):=λh=>zy rfl rfl rfl h
theorem Jp:↥(Xv,8,[.sh x0,.sh x1,.sh x2,.sh x3,.sh x4],[x0,x1,x2,x3,x4]):=λh=>zy rfl rfl rfl h
theorem XQ:↥(jP,9,[.sh x0,.sh x1,.sh x2,.sh x3,.no],[x0,x1,x2,x3]):=λh=>zy rfl rfl rfl h
theorem qO:↥(vO,10,[.sh x0,.no,.no],[x0]):=λh=>zy rfl rfl rfl h
theorem Jr:↥(Xy,11,[.sh x0],[x0]):=λh=>zy rfl rfl rfl h
theorem Uk:↥(qH,12,[.sh x0,.sh x1],[x0,x1]):=λh=>zy rfl rfl rfl h
theorem wX:↥(yO,13,[.sh x0,.sh x1],[x0,x1]):=λh=>zy rfl rfl rfl h
theorem yR:↥(yZ,14,[.sh x0,.sh x1],[x0,x1]):=λh=>zy rfl rfl rfl h
theorem jV:↥(wH,15,[.sh x0,.sh x1],[x0,x1]):=λh=>zy rfl rfl rfl h
theorem XR:↥(jQ,16,[.sh x0,.sh x1,.sh x2],[x0,x1,x2]):=λh=>zy rfl rfl rfl h
theorem Jq:↥(Xx,17,[.sh x0,.sh x1,.sh x2,.sh x3],[x0,x1,x2,x3]):=λh=>zy rfl rfl rfl h
theorem Jt:↥(XC,19,[.sh x0,.sh x1,.sh x2,.sh x3],[x0,x1,x2,x3]):=λh=>zy rfl rfl rfl h
theorem jU:↥(wG,20,[.sh x0,.sh x1,.sh x2],[x0,x1,x2]):=λh=>zy rfl rfl rfl h
theorem Js:↥(Xz,21,[.sh x0,.sh x1,.sh x2],[x0,x1,x2]):=λh=>zy rfl rfl rfl h
theorem zaR:↥(Uc,22,[.sh x0,.sh x1],[x0,x1]):=λh=>zy rfl rfl rfl h
theorem wK:↥(zz,23,[.sh x0,.no,.no],[x0]):=λh=>zy rfl rfl rfl h
theorem Ul:↥(qI,24,[.sh x0,.no,.no,.no,.no],[x0]):=λh=>zy rfl rfl rfl h
theorem ul:↥(uy,25,[.sh x0,.sh x1,.no],[x0,x1]):=λh=>zy rfl rfl rfl h
theorem qP:↥(vP,26,[.sh x0,.no,.no,.no,.no],[x0]):=λh=>zy rfl rfl rfl h
theorem Um:↥(qJ,27,[.sh x0,.no,.no,.no],[x0]):=λh=>zy rfl rfl rfl h
theorem XS:↥(jR,28,[.sh x0,.sh x1,.no,.no,.no],[x0,x1]):=λh=>zy rfl rfl rfl h
theorem qQ:↥(vQ,29,[.sh x0,.sh x1],[x0,x1]):=λh=>zy rfl rfl rfl h
theorem jW:↥(wJ,30,[.sh x0,.no,.no,.no],[x0]):=λh=>zy rfl rfl rfl h
theorem jc:↥(xW,31,[.sh x0,.sh x1,.no,.no,.no],[x0,x1]):=λh=>zy rfl rfl rfl h
theorem u9:↥(xV,32,[.sh x0,.sh x1,.no,.no,.no],[x0,x1]):=λh=>zy rfl rfl rfl h
theorem jX:↥(zK,33,[.sh x0,.no,.no,.no,.no,.no,.no],[x0]):=λh=>zy rfl rfl rfl h
theorem vR:↥(xf,34,[.sh x0,.sh x1,.no,.no,.no,.no],[x0,x1]):=λh=>zy rfl rfl rfl h
theorem ww:↥(yz,35,[.sh x0,.no,.no,.no],[x0]):=λh=>zy rfl rfl rfl h
theorem ZX:↥(uA,36,[.sh x0,.no,.no],[x0]):=λh=>zy rfl rfl rfl h
theorem XX:↥(jT,37,[.sh x0,.sh x1,.sh x2,.no],[x0,x1,x2]):=λh=>zy rfl rfl rfl h
theorem ZZ:↥(yf,38,[.sh x0,.sh x1,.no,.no,.no,.no,.no,.no],[x0,x1]):=λh=>zy rfl rfl rfl h
theorem zib:↥(zh1,39,[.sh x0,.no,.no,.no,.no,.no,.no],[x0]):=λh=>zy rfl rfl rfl h
end
end Q20
local macro_rules | `(tactic| omega) => `(tactic| first | decide | with_reducible exact EV.om1 ‹_› (by with_unfolding_all rfl) | with_reducible exact EV.om2 ‹_› (by with_unfolding_all rfl) | with_reducible exact EV.om3 ‹_› (by with_unfolding_all rfl) | lia | omega (config := {}))
open EV in
local macro_rules | `(tactic| infer_instance) => `(tactic| first
 | ((with_reducible apply ziZ); (exact rfl))
 | ((with_reducible apply zi0); (exact rfl))
 | ((with_reducible apply zio); (exact rfl))
 | ((with_reducible apply ziq); (exact rfl))
 | ((with_reducible apply kp_s); (exact rfl))
 | ((with_reducible apply kp_f); (exact rfl))
 | ((with_reducible apply xn); (first | exact rfl | exact ze1 (by simp <;> omega) | exact zd1 rfl | exact YB rfl | exact YB (JM (by decide) (by decide))))
 | ((with_reducible apply UG); (exact rfl))
 | ((with_reducible apply zO); (first | exact Kf (by decide) (by decide) | exact rfl | exact zce (by decide) rfl | exact Vv (by decide) rfl))
 | ((with_reducible apply yH); (exact rfl); (try simp only [List.foldl, List.zip, List.zipWith, cG, bQ, if_true, if_false]))
 | ((with_reducible apply zjY); (exact rfl))
 | ((with_reducible apply zhi); (exact rfl))
 | ((with_reducible apply zhj); (exact rfl))
 | ((with_reducible apply yr); (first | with_reducible rfl | decide | (focus (simp only [isNone, zE, eqi, eqs, eqb, eqn, eqt, eql, eqz, eqc, beq_self_eq_true, oh, nu, lu, gB]; done)) | (dsimp only [zE]; decide) | (refine fits_of ?_; (try simp only [Ξ, ψ, ϱ, fD]) <;> omega)))
 | ((with_reducible apply Jz); (first | with_reducible rfl | decide | (focus (simp only [isNone, zE, eqi, eqs, eqb, eqn, eqt, eql, eqz, eqc, beq_self_eq_true, oh, nu, lu, gB]; done)) | (dsimp only [zE]; decide)))
 | ((with_reducible apply bx_f); (exact rfl))
 | ((with_reducible apply rv_s); (exact rfl))
 | ((with_reducible apply rv_f); (exact rfl))
 | ((with_reducible apply zgs); (exact rfl))
 | ((with_reducible apply zgt); (exact rfl))
 | ((with_reducible apply zhX); (exact rfl))
 | ((with_reducible apply zhh); (exact rfl))
 | ((with_reducible apply zfq); (exact rfl))
 | ((with_reducible apply zjr); (exact rfl))
 | ((with_reducible apply zeE); (dsimp only [wpC, zR, xu, zhD, zhF, zjL, zac, zjR, zjK, zhG, e_or, zjN, zjI, Zy, Zz, zjP, j7, zjJ, e_bi, zjT, Zx, jH, zex, zew, zjM, zjQ, zjO, zjS, zhC, zhE, wpEs, wpO, wpF, wpI, cG, fz, aO, aQ, eU]))
 | (with_reducible apply zhP)
 | (with_reducible apply zcX)
 | (with_reducible apply zfn)
 | (with_reducible apply zfp)
 | (with_reducible apply zfo)
 | (with_reducible apply to_s)
 | (with_reducible apply to_f)
 | (with_reducible apply zcW)
 | (with_reducible apply zcV)
 | (with_reducible apply zfk)
 | (with_reducible apply zfl)
 | (with_reducible apply zfj))
local macro_rules | `(tactic| nofun) => `(tactic| (repeat infer_instance))
namespace Q20
open PySem L2 EV
noncomputable abbrev St (T:Store):Store:=.tab 0::.tab 1::.tab 2::T
noncomputable abbrev yes:Vl:=(.bl true,.st)
noncomputable abbrev no:Vl:=(.bl false,.st)
abbrev Is (K f:Nat) (ds:List D) (v:Vl) (S:Store):Prop:=ue F wh K f ds (λx S'=>x=v/\S'=S) S
section
variable {K f:Nat}{ds:List D}{S:Store}
theorem Is.go {v:Vl}{V:Po}(h:Is K f ds v S) (q:V v S):ue F wh K f ds V S:=wp_mono h (by rintro _ _ ⟨rfl,rfl⟩;exact q)
end
theorem up {n K:Nat}(h:n+1<=K):∃ k,n<=k/\K=k+1:=⟨K - 1,by omega,by omega⟩
theorem nt {b:Bool}(h:b=true):(!b)=false:=by rw [h];rfl
theorem ZC {s:D->(Option D->Store->Prop)->Store->Prop}{V:List D->Store->Prop}{S:Store}(d:D):∀ (xs acc:List D),acc.length+xs.length<=1000->(∀ x∈xs,∀ Q:Option D->Store->Prop,Q (some d) S->s x Q S)->V (acc++Α xs.length d) S->xj s xs acc V S
 | [],acc,_,_,v=>by rw [show acc++Α ([]:List D).length d=acc by simp] at v;exact v
 | x::xs,acc,hl,h,v=>by refine h x ξ _ ?_;have hl:acc.length+(xs.length+1)<=1000:=hl;refine yr (fits_of (by omega)) (ZC d xs (acc++[d]) (by simp;omega) (λy hy=>h y (ι _ hy)) ?_);simpa [aC] using v
theorem Xm (b:Bool):∀ n,xK (Α n (.bl b))=some (Α n b)
 | 0=>rfl
 | n+1=>by
  show (xK (Α n (.bl b))).map (b::·)=_
  rw [Xm b n];rfl
theorem ZR (n:Nat):biD .all [.lst (Α n (.bl true))]=some (.bl true,false):=by
 show ((xK (Α n (.bl true))).map λbs=>D.bl (bs.all id)).map (λd=>(d,false))=_
 rw [Xm];show some (D.bl ((Α n true).all id),false)=_
 rw [show (Α n true).all id=true by rw [List.all_replicate];split <;> rfl]
section
variable {K:Nat}{S:Store}{i:Int}{l:List D}
theorem qM (hK:1<=K):Is K 0 [.int i] yes S:=by obtain ⟨K,hk,rfl⟩:=up hK;refine xY ?_;nofun;exact ⟨rfl,rfl⟩
theorem zcP (hK:1<=K):Is K 0 [.tup l] no S:=by obtain ⟨K,hk,rfl⟩:=up hK;refine xY ?_;nofun;exact ⟨rfl,rfl⟩
theorem zcQ {s:Str}(hK:1<=K):Is K 0 [.str s] no S:=by obtain ⟨K,hk,rfl⟩:=up hK;refine xY ?_;nofun;exact ⟨rfl,rfl⟩
theorem zcR (hK:1<=K):Is K 0 [.non] no S:=by obtain ⟨K,hk,rfl⟩:=up hK;refine xY ?_;nofun;exact ⟨rfl,rfl⟩
theorem zjn (h0:0<=i) (h1:i < 1000000007) (hK:2<=K):Is K 1 [.int i] yes S:=by obtain ⟨K,hk,rfl⟩:=up hK;refine u6 ?_;nofun;refine (qM hk).go ?_;nofun;refine yr (decide_eq_true h0) ?_;nofun;exact ⟨by show (D.bl (decide (i < 1000000007)),Kd.st)=_;rw [decide_eq_true h1],rfl⟩
theorem zjm (hK:2<=K):Is K 1 [.tup l] no S:=by obtain ⟨K,hk,rfl⟩:=up hK;refine u6 ?_;nofun;refine (zcP hk).go ?_;nofun;exact ⟨rfl,rfl⟩
theorem zid {a b:Int}(hK:1<=K):Is K 6 [.tup l,.int a,.int b] (.bl (decide (a<=l.length)&&decide ((l.length:Int)<=b)),.st) S:=by
 obtain ⟨K,hk,rfl⟩:=up hK;refine qN ?_;nofun;refine yq (λh1=>?_) (λh1=>?_)
 ·nofun;refine ⟨?_,rfl⟩;show (D.bl (decide ((l.length:Int)<=b)),Kd.st)=_
  rw [show decide (a<=(l.length:Int))=true from h1,gB]
 ·nofun;refine ⟨?_,rfl⟩;rw [show decide (a<=(l.length:Int))=false from h1,Bool.false_and]
theorem tupY {a b:Int}(h1:a<=l.length) (h2:(l.length:Int)<=b) (hK:1<=K):Is K 6 [.tup l,.int a,.int b] yes S:=by have:=zid (S:=S) (l:=l) (a:=a) (b:=b) hK;rw [decide_eq_true h1,decide_eq_true h2] at this;exact this
theorem tupE {n:Int}(h:(l.length:Int)=n) (hK:1<=K):Is K 6 [.tup l,.int n,.int n] yes S:=tupY (by omega) (by omega) hK
theorem ug {s:Str}(hK:1<=K):Is K 7 [.tup (.str s::l)] yes S:=by obtain ⟨K,hk,rfl⟩:=up hK;refine XN ?_;nofun;refine yr (decide_eq_true (by simp)) ?_;nofun;exact ⟨rfl,rfl⟩
theorem xU {b:Int}(h0:0<=i) (h1:i < b) (hK:2<=K):Is K 12 [.int i,.int b] yes S:=by obtain ⟨K,hk,rfl⟩:=up hK;refine Uk ?_;nofun;refine (qM hk).go ?_;nofun;refine yr (decide_eq_true h0) ?_;nofun;exact ⟨by show (D.bl (decide (i < b)),Kd.st)=_;rw [decide_eq_true h1],rfl⟩
inductive Tg (b:Int):D->Prop
 | non:Tg b .non
 | num {i:Int}:0<=i->i < b->Tg b (.int i)
theorem zaw {b:Int}{d:D}(h:Tg b d) (hK:3<=K):Is K 13 [d,.int b] yes S:=by
 obtain ⟨K,hk,rfl⟩:=up hK;refine wX ?_;cases h with
 | non=>nofun;exact ⟨rfl,rfl⟩
 | num h0 h1=>
  nofun;refine (xU h0 h1 hk).go ?_;nofun;exact ⟨rfl,rfl⟩
end
noncomputable def chars (s:Str):List D:=s.cps.toList.map λc=>.str ⟨#[c]⟩
noncomputable def letD (d:D):Bool:=match inD d (.str "abcdefghijklmnopqrstuvwxyz") with
 | some b=>b
 | none=>false
noncomputable def wdS (s:Str):Bool:=decide (1<=s.length)&&decide (s.length<=8)&&(chars s).all letD&&decide (s.cps.toList.length<=1000)
section
variable {K:Nat}{S:Store}
theorem zcc {w:Str}(h:wdS w=true) (hK:1<=K):Is K 5 [.str w] yes S:=by
 obtain ⟨K,hk,rfl⟩:=up hK;unfold wdS at h;rw [ε,ε,ε,decide_eq_true_eq,decide_eq_true_eq,decide_eq_true_eq,ϡ] at h;obtain ⟨⟨⟨h1,h2⟩,h3⟩,h4⟩:=h;refine Jo ?_;have e:biD .len [.str w]=some (.int w.length,false):=by
  show (if fits w.length=true then _ else _)=_
  rw [if_pos (fits_of (by omega))]
 nofun;refine xn e ?_;nofun;refine yr (decide_eq_true (by omega)) ?_;nofun;refine Jz (nt (decide_eq_true (by show (w.length:Int)<=8;omega))) ?_;nofun;refine xg ?_;dsimp only [wpI,zR];nofun;refine ZC (.bl true) (chars w) [] (by simp [chars];simpa using h4) (λx hx Q hQ=>?_) ?_
 ·refine yH rfl ?_;dsimp only [wpF,zac,zhD,zR,inn,nT,Α,bM,Ο,cG];have hx2:=h3 x hx;obtain ⟨c,_,rfl⟩:=Ϲ.mp hx;nofun;have:D.bl (letD (.str ⟨#[c]⟩))=.bl true:=by rw [hx2]
  rw [<- this] at hQ;exact hQ
 ·refine xn (ZR _) ?_;nofun;exact ⟨rfl,rfl⟩
end
inductive Dr where
 | go (a:Nat) | fork (a b:Nat) | rnd (a:Nat) | give | fail | out | want (a:Nat) | gs
inductive Fl where
 | no | nx (a:Nat) | sl (a:Nat)
inductive Of where
 | no | shut | nx (a:Nat)
structure Rm where
 d:Dr
 f:Fl
 o:Of
noncomputable abbrev nI (a:Nat):D:=.int (a:Int)
noncomputable abbrev brD:D:=.tup [.non,.str "ask",.str "b",.int 0]
noncomputable def drD:Dr->D
 | .go a=>.tup [.str "go",nI a]
 | .fork a b=>.tup [.str "fork",.int 1,nI a,nI b]
 | .rnd a=>.tup [.str "round",nI a]
 | .give=>.tup [.str "give",.int 0]
 | .fail=>.tup [.str "fail",.int 2]
 | .out=>.tup [.str "out",.int 0]
 | .want a=>.tup [.str "want",.int 1,.tup [brD],nI a]
 | .gs=>.tup [.str "give",.tup [.str "slot",.int 0]]
noncomputable def flD:Fl->D
 | .no=>.non
 | .nx a=>.tup [.non,nI a]
 | .sl a=>.tup [.int 0,nI a]
noncomputable def ofD:Of->D
 | .no=>.non
 | .shut=>.str "shut"
 | .nx a=>nI a
noncomputable def Rm.D (r:Rm):EV.D:=.tup [.tup [],drD r.d,flD r.f,ofD r.o]
def Dr.ok (n:Nat) (s:Int):Dr->Prop
 | .go a=>a < n
 | .fork a b=>a < n/\b < n
 | .rnd a=>a < n
 | .give=>True
 | .fail=>True
 | .out=>0 < s
 | .want a=>a < n
 | .gs=>0 < s
def Fl.ok (n:Nat) (s:Int):Fl->Prop
 | .no=>True
 | .nx a=>a < n
 | .sl a=>a < n/\0 < s
def Of.ok (n:Nat):Of->Prop
 | .no=>True
 | .shut=>True
 | .nx a=>a < n
structure Rm.ok (n:Nat) (s:Int) (r:Rm):Prop where
 d:r.d.ok n s
 f:r.f.ok n s
 o:r.o.ok n
section
variable {K k:Nat}{T S:Store}{s:Int}{x0 x1:D}{V:Po}{ex:Xp}
theorem zfc (h:wpCs (zb F wh k) ex wh [.rtx 15 [.var 0,.var 1]] [.sh x0,.sh x1] (told V) S):zb F wh (k+1) ex 40 [x0,x1] V S:=zy rfl rfl rfl h
theorem zfb (h:wpCs (zb F wh k) ex wh [.rtx 13 [.var 0,.var 1]] [.sh x0,.sh x1] (told V) S):zb F wh (k+1) ex 41 [x0,x1] V S:=zy rfl rfl rfl h
theorem zfa (h:wpCs (zb F wh k) ex wh [.rtx 14 [.var 0,.var 1]] [.sh x0,.sh x1] (told V) S):zb F wh (k+1) ex 42 [x0,x1] V S:=zy rfl rfl rfl h
theorem ze9 (h:wpCs (zb F wh k) ex wh [.rtx 25 [.var 0,.var 1]] [.sh x0,.sh x1] (told V) S):zb F wh (k+1) ex 43 [x0,x1] V S:=zy rfl rfl rfl h
theorem zaP {i n:Int}(h0:0<=i) (h1:i < 1000000007) (hK:3<=K):Is K 4 [.int i,.lam 40 [.int s],.int n] yes S:=by obtain ⟨K,hk,rfl⟩:=up hK;refine yE ?_;nofun;refine (zjn h0 h1 (by omega)).go ?_;nofun;exact ⟨rfl,rfl⟩
theorem zaO {n:Int}(h1:0 < s) (hK:7<=K):Is K 4 [.tup [.str "slot",.int 0],.lam 40 [.int s],.int n] yes S:=by
 obtain ⟨K,rfl⟩:∃ k,K=k+3:=⟨K - 3,by omega⟩
 refine yE ?_;nofun;refine (zjm (by omega)).go ?_;nofun;refine zfc ?_;nofun;refine jV ?_;nofun;refine (tupE rfl (by omega)).go ?_;nofun;refine (xU (by decide) h1 (by omega)).go ?_;nofun;exact ⟨rfl,rfl⟩
theorem V2 {i:Int}(h0:0<=i) (h1:i < 1000000007) (hK:5<=K):Is K 14 [.int i,.int s] yes (St T):=by
 obtain ⟨K,hk,rfl⟩:=up hK;obtain ⟨K,hk',rfl⟩:=up hk;refine yR ?_;nofun;show zb F wh _ noX 3 [.int i,.lam 40 [.int s]] _ _
 refine um ?_;nofun;refine (zaP h0 h1 (by omega)).go ?_;nofun;exact ⟨rfl,rfl⟩
theorem zhw (h1:0 < s) (hK:9<=K):Is K 14 [.tup [.str "slot",.int 0],.int s] yes (St T):=by
 obtain ⟨K,hk,rfl⟩:=up hK;obtain ⟨K,hk',rfl⟩:=up hk;refine yR ?_;nofun;show zb F wh _ noX 3 [.tup [.str "slot",.int 0],.lam 40 [.int s]] _ _
 refine um ?_;nofun;refine (zaO h1 (by omega)).go ?_;nofun;exact ⟨rfl,rfl⟩
theorem zgW (hK:4<=K):Is K 41 [.non,.int s] yes S:=by obtain ⟨K,hk,rfl⟩:=up hK;refine zfb ?_;nofun;refine (zaw .non hk).go ?_;nofun;exact ⟨rfl,rfl⟩
theorem zgV (hK:6<=K):Is K 42 [.int 0,.int s] yes (St T):=by obtain ⟨K,hk,rfl⟩:=up hK;refine zfa ?_;nofun;refine (V2 (by decide) (by decide) hk).go ?_;nofun;exact ⟨rfl,rfl⟩
noncomputable abbrev CD (cts:List (Str×Int)):D:=.dK (cts.map λp=>.inr p.1) (cts.map λp=>.int p.2)
variable {cts:List (Str×Int)}
theorem br_y (hK:7<=K):Is K 9 [brD,CD cts,.lam 41 [.int s],.lam 42 [.int s]] yes (St T):=by obtain ⟨K,hk,rfl⟩:=up hK;refine XQ (x1:=CD cts) ?_;nofun;refine (tupE rfl (by omega)).go ?_;nofun;refine (zgW (by omega)).go ?_;nofun;refine (zcc (by decide +kernel) (by omega)).go ?_;nofun;refine (zgV (by omega)).go ?_;nofun;exact ⟨rfl,rfl⟩
theorem ze8 {i:D}(hK:9<=K):Is K 20 [.tup [.str "want",.int 1,.tup [brD],i],.int s,CD cts] yes (St T):=by
 obtain ⟨K,hk,rfl⟩:=up hK;obtain ⟨K,hk',rfl⟩:=up hk;refine jU (x2:=CD cts) ?_;nofun;show zb F wh _ noX 8 [.int 1,.tup [brD],CD cts,.lam 41 [.int s],.lam 42 [.int s]] _ _
 refine Jp (x2:=CD cts) ?_;nofun;refine (tupY (by decide) (by decide) (by omega)).go ?_;nofun;refine (qM (by omega)).go ?_;nofun;refine xg ?_;dsimp only [wpI,zR];nofun;refine ZC (.bl true) [brD] [] (by decide) (λx hx Q hQ=>?_) ?_
 ·rw [υ.mp hx];refine yH rfl ?_;dsimp only [wpF,jH,wpEs,zR,inn,nT,Α,bM,Ο,cG];nofun;refine (br_y (by omega)).go ?_;nofun;exact hQ
 ·refine xn (ZR _) ?_;nofun;exact ⟨rfl,rfl⟩
end
section
variable {K n:Nat}{T S:Store}{s:Int}{cts:List (Str×Int)}
theorem zhI {d:Dr}(h:d.ok n s) (hK:10<=K):Is K 19 [drD d,.int s,.int n,CD cts] yes (St T):=by
 obtain ⟨K,hk,rfl⟩:=up hK;refine Jt (x3:=CD cts) ?_;have bl:∀ {a:Nat},a < n->Is K 12 [nI a,.int n] yes (St T):=λh=>xU (by omega) (by omega) (by omega)
 cases d with
 | go a=>
  unfold drD;nofun;refine (ug (by omega)).go ?_;nofun;refine (bl h).go ?_;nofun;exact ⟨rfl,rfl⟩
 | rnd a=>
  unfold drD;nofun;refine (ug (by omega)).go ?_;nofun;refine (bl h).go ?_;nofun;exact ⟨rfl,rfl⟩
 | out=>
  unfold drD;nofun;refine (ug (by omega)).go ?_;nofun;refine (xU (by decide) h (by omega)).go ?_;nofun;exact ⟨rfl,rfl⟩
 | give=>
  unfold drD;nofun;refine (ug (by omega)).go ?_;nofun;refine (V2 (by decide) (by decide) (by omega)).go ?_;nofun;exact ⟨rfl,rfl⟩
 | gs=>
  unfold drD;nofun;refine (ug (by omega)).go ?_;nofun;refine (zhw h (by omega)).go ?_;nofun;exact ⟨rfl,rfl⟩
 | fail=>
  unfold drD;nofun;refine (ug (by omega)).go ?_;nofun;refine (V2 (by decide) (by decide) (by omega)).go ?_;nofun;exact ⟨rfl,rfl⟩
 | fork a b=>
  unfold drD;nofun;refine (ug (by omega)).go ?_;nofun;refine (V2 (by decide) (by decide) (by omega)).go ?_;nofun;refine (bl h.1).go ?_;nofun;refine (bl h.2).go ?_;nofun;exact ⟨rfl,rfl⟩
 | want a=>
  unfold drD;nofun;refine (ug (by omega)).go ?_;nofun;refine (bl h).go ?_;nofun;refine (ze8 (by omega)).go ?_;nofun;exact ⟨rfl,rfl⟩
theorem zhA {f:Fl}(h:f.ok n s) (hK:4<=K):Is K 21 [flD f,.int s,.int n] yes S:=by
 obtain ⟨K,hk,rfl⟩:=up hK;refine Js ?_;cases f with
 | no=>unfold flD;nofun;exact ⟨rfl,rfl⟩
 | nx a=>
  have h:a < n:=h;unfold flD;nofun;refine (tupE rfl (by omega)).go ?_;nofun;refine (zaw .non (by omega)).go ?_;nofun;refine (xU (by omega) (by omega) (by omega)).go ?_;nofun;exact ⟨rfl,rfl⟩
 | sl a=>
  obtain ⟨h,hs⟩:=h;unfold flD;nofun;refine (tupE rfl (by omega)).go ?_;nofun;refine (zaw (.num (by decide) hs) (by omega)).go ?_;nofun;refine (xU (by omega) (by omega) (by omega)).go ?_;nofun;exact ⟨rfl,rfl⟩
theorem zjj {o:Of}(h:o.ok n) (hK:4<=K):Is K 22 [ofD o,.int n] yes S:=by
 obtain ⟨K,hk,rfl⟩:=up hK;refine zaR ?_;cases o with
 | shut=>unfold ofD;nofun;exact ⟨rfl,rfl⟩
 | no=>
  unfold ofD;nofun;refine (zaw .non (by omega)).go ?_;nofun;exact ⟨rfl,rfl⟩
 | nx a=>
  have h:a < n:=h;unfold ofD;nofun;refine (zaw (.num (by omega) (by omega)) (by omega)).go ?_;nofun;exact ⟨rfl,rfl⟩
theorem zf4 {r:Rm}(h:r.ok n s) (hK:11<=K):Is K 17 [r.D,.int s,.int n,CD cts] yes (St T):=by obtain ⟨K,hk,rfl⟩:=up hK;unfold Rm.D;refine Jq (x3:=CD cts) ?_;nofun;refine (tupE rfl (by omega)).go ?_;nofun;refine (tupY (by decide) (by decide) (by omega)).go ?_;nofun;refine xg ?_;dsimp only [wpI,j7,zR,xu];nofun;refine ZC (.bl true) [] [] (by decide) (λx hx=>nomatch hx) ?_;refine xn (ZR _) ?_;nofun;refine (zhI h.d (by omega)).go ?_;nofun;refine (zhA h.f (by omega)).go ?_;nofun;refine (zjj h.o (by omega)).go ?_;nofun;exact ⟨rfl,rfl⟩
end
noncomputable def fl:Fl->List Nat
 | .no=>[]
 | .nx a=>[a]
 | .sl a=>[a]
noncomputable def ol:Of->List Nat
 | .nx a=>[a]
 | _=>[]
noncomputable def Rm.lds (r:Rm):List Nat:=match r.d with
 | .go a=>[a]
 | .fork a b=>[a,b]
 | .rnd _=>fl r.f
 | .give=>[]
 | .gs=>[]
 | .fail=>fl r.f
 | .out=>fl r.f++ol r.o
 | .want _=>fl r.f++ol r.o
noncomputable abbrev nL (l:List Nat):D:=.lst (l.map nI)
theorem vX {l:List Nat}{i:Nat}:l.map nI++[nI i]=(l++[i]).map nI:=by rw [ak];rfl
theorem Rm.few (r:Rm):r.lds.length<=2:=by
 have h1:(fl r.f).length<=1:=by cases r.f <;> first | exact ϴ _ | exact Β _
 have h2:(ol r.o).length<=1:=by cases r.o <;> first | exact ϴ _ | exact Β _
 unfold Rm.lds;split <;> first | exact ϴ _ | (rw [Ξ];omega) | omega | (simp;done)
theorem Rm.low {n:Nat}{s:Int}{r:Rm}(h:r.ok n s):∀ x∈r.lds,x < n:=by
 have hf:∀ x∈fl r.f,x < n:=λx hx=>by
  have:=h.f;cases e:r.f with
  | no=>rw [e] at hx;cases hx
  | nx a=>rw [e] at hx this;rw [υ.mp hx];exact this
  | sl a=>rw [e] at hx this;rw [υ.mp hx];exact this.1
 have ho:∀ x∈ol r.o,x < n:=λx hx=>by
  have:=h.o;cases e:r.o with
  | nx a=>rw [e] at hx this;rw [υ.mp hx];exact this
  | _=>rw [e] at hx;cases hx
 have hb:∀ x∈fl r.f++ol r.o,x < n:=λx hx=>(ϋ.mp hx).elim (hf x) (ho x)
 have hd:=h.d;intro x hx;unfold Rm.lds at hx;cases e:r.d with
 | go a=>rw [e] at hx hd;rw [υ.mp hx];exact hd
 | fork a b=>
  rw [e] at hx hd;rcases Ε.mp hx with rfl | hx
  ·exact hd.1
  ·rw [υ.mp hx];exact hd.2
 | rnd _=>rw [e] at hx;exact hf x hx
 | fail=>rw [e] at hx;exact hf x hx
 | out=>rw [e] at hx;exact hb x hx
 | want _=>rw [e] at hx;exact hb x hx
 | _=>rw [e] at hx;cases hx
noncomputable def w1 (w:Str):Bool:=[D.str "fail",.str "round",.str "want",.str "out"].any λy=>eqP y (.str w)
noncomputable def w2 (w:Str):Bool:=[D.str "want",.str "out"].any λy=>eqP y (.str w)
noncomputable def more (w:Str) (l:List Nat) (f:Fl) (o:Of):List Nat:=l++(if w1 w=true then fl f else [])++(if w2 w=true then ol o else [])
section
variable {K:Nat}{S:Store}{w:Str}{l:List Nat}{f:Fl}{o:Of}
noncomputable def ldT:List C:=zz.drop 4
theorem zgT {a b:D}(hl:l.length<=10) (hK:1<=K):wpCs (zb F wh K) noX wh (ldT.drop 1) [.sh (.tup [a,b,flD f,ofD o]),.ow (nL l),.sh (.str w)] (told λx S'=>x=(nL (l++if w2 w=true then ol o else []),.fr)/\S'=S) S:=by
 dsimp only [ldT,zz,iQ];nofun;refine yq (λh=>?_) (λh=>?_)
 ·rw [if_pos (show w2 w=true from h)];cases o with
  | no=>
   nofun;refine (zcR hK).go ?_;nofun;exact ⟨by show _=(nL (l++[]),_);rw [Ο],rfl⟩
  | shut=>
   nofun;refine (zcQ hK).go ?_;nofun;exact ⟨by show _=(nL (l++[]),_);rw [Ο],rfl⟩
  | nx a=>
   nofun;refine (qM hK).go ?_;nofun;exact ⟨by show (D.lst (l.map nI++[nI a]),_)=_;rw [vX];rfl,rfl⟩
 ·rw [if_neg (by rw [show w2 w=false from h];exact Μ),Ο];nofun;exact ⟨rfl,rfl⟩
theorem zea {a b:D}(hl:l.length<=9) (hK:1<=K):wpCs (zb F wh K) noX wh ldT [.sh (.tup [a,b,flD f,ofD o]),.ow (nL l),.sh (.str w)] (told λx S'=>x=(nL (more w l f o),.fr)/\S'=S) S:=by
 have fin:=λ(l:List Nat) (hl:l.length<=10)=>zgT (S:=S) (a:=a) (b:=b) (f:=f) (o:=o) (w:=w) hl hK
 obtain ⟨tl,htl⟩:∃ tl,tl=ldT.drop 1:=⟨_,rfl⟩
 rw [<- htl] at fin;show wpCs _ _ _ (ldT.take 1++ldT.drop 1) _ _ _
 rw [<- htl];dsimp only [ldT,zz,iQ,mz,aq,Ϛ];clear htl;unfold more;nofun;refine yq (λh=>?_) (λh=>?_)
 ·rw [if_pos (show w1 w=true from h)];cases f with
  | no=>
   unfold flD at fin ⊢;nofun;have:=fin l (by omega);rw [show fl .no=[] from rfl,Ο];exact this
  | nx a=>
   unfold flD at fin ⊢;nofun;have:=fin (l++[a]) (by simp;omega);rw [nL,<- vX] at this;exact this
  | sl a=>
   unfold flD at fin ⊢;nofun;have:=fin (l++[a]) (by simp;omega);rw [nL,<- vX] at this;exact this
 ·rw [if_neg (by rw [show w1 w=false from h];exact Μ),Ο];nofun;exact fin l (by omega)
theorem zd9 {r:Rm}(hK:2<=K):Is K 23 [r.D] (nL r.lds,.fr) S:=by
 obtain ⟨d,f,o⟩:=r;obtain ⟨K,hk,rfl⟩:=up hK;unfold Rm.D;refine wK ?_;have fin:=λ(w:Str) (l:List Nat) (b:D) (hl:l.length<=9)=>zea (S:=S) (a:=.tup []) (b:=b) (f:=f) (o:=o) (w:=w) hl hk
 obtain ⟨tl,htl⟩:∃ tl,tl=ldT:=⟨_,rfl⟩
 rw [<- htl] at fin;show wpCs _ _ _ (zz.take 4++ldT) _ _ _
 rw [<- htl];clear htl;dsimp only [zz,mz,aq,Ϛ];cases d with
 | go i=>unfold drD;nofun;exact fin "go" [i] _ (by simp)
 | give=>unfold drD;nofun;exact fin "give" [] _ (by decide)
 | gs=>unfold drD;nofun;exact fin "give" [] _ (by decide)
 | fork i j=>unfold drD;nofun;exact fin "fork" [i,j] _ (by simp)
 | rnd i=>
  unfold drD;nofun;have:=fin "round" [] (.tup [.str "round",nI i]) (by decide);rw [show more "round" [] f o=fl f by show []++fl f++[]=_;simp] at this;exact this
 | fail=>
  unfold drD;nofun;have:=fin "fail" [] (.tup [.str "fail",.int 2]) (by decide);rw [show more "fail" [] f o=fl f by show []++fl f++[]=_;simp] at this;exact this
 | out=>unfold drD;nofun;exact fin "out" [] _ (by decide)
 | want i=>unfold drD;nofun;exact fin "want" [] _ (by decide)
end
def Pt (L:Nat->List Nat):Nat->Nat->Nat->Prop
 | 0,a,b=>a=b
 | k+1,a,b=>∃ c∈L a,Pt L k c b
section
variable {n:Nat}{L:Nat->List Nat}
theorem Pt.snoc:∀ {k a b c:Nat},Pt L k a b->c∈L b->Pt L (k+1) a c
 | 0,_,_,c,rfl,h=>⟨c,h,rfl⟩
 | _+1,_,_,_,⟨x,h1,h2⟩,h=>⟨x,h1,h2.snoc h⟩
theorem Pt.last:∀ {k a c:Nat},Pt L (k+1) a c->∃ b,Pt L k a b/\c∈L b
 | 0,a,c,⟨x,h1,h2⟩=>⟨a,rfl,(show x=c from h2) ▸ h1⟩
 | k+1,a,c,⟨x,h1,h2⟩=>by obtain ⟨b,h3,h4⟩:=Pt.last (k:=k) h2;exact ⟨b,⟨x,h1,h3⟩,h4⟩
inductive Cl (n:Nat) (L:Nat->List Nat):List Nat->Prop
 | nil:Cl n L []
 | snoc {es:List Nat}{i:Nat}:Cl n L es->i < n->i ∉ es->(∀ x∈L i,x∈es)->Cl n L (es++[i])
theorem Cl.nd {es:List Nat}(h:Cl n L es):es.Nodup/\∀ i∈es,i < n:=by
 induction h with
 | nil=>exact ⟨nq,λ_ z=>nomatch z⟩
 | @snoc es i _ h1 h2 _ ih=>
  refine ⟨b7.mpr ⟨ih.1,by simp,λa ha b hb e=>?_⟩,λj hj=>?_⟩
  ·rw [υ.mp hb] at e;exact h2 (e ▸ ha)
  ·rcases ϋ.mp hj with z | z
   ·exact ih.2 j z
   ·rw [υ.mp z];exact h1
theorem Cl.few {es:List Nat}(h:Cl n L es):es.length<=n:=by
 have:=TS.sub_len h.nd.1 (ys:=ό n) λx hx=>Ϝ.mpr (h.nd.2 x hx)
 simpa using this
theorem Cl.less {es:List Nat}(h:Cl n L es) {i:Nat}(hi:i < n) (hn:i ∉ es):es.length < n:=by
 have:=TS.sub_len (xs:=i::es) (ys:=ό n) (aY.mpr ⟨hn,h.nd.1⟩) λx hx=>by
  rcases Ε.mp hx with rfl | hx
  ·exact Ϝ.mpr hi
  ·exact Ϝ.mpr (h.nd.2 x hx)
 rw [ϭ] at this;exact this
theorem Cl.all {es:List Nat}(h:∀ i,i < n->i∈es):n<=es.length:=by
 have:=TS.sub_len (xs:=ό n) (ys:=es) List.nodup_range λx hx=>h x (Ϝ.mp hx)
 simpa using this
theorem Cl.no {es:List Nat}(h:Cl n L es):(∀ a∈es,∀ k b,Pt L k a b->b∈es)/\∀ a∈es,∀ k,¬ Pt L (k+1) a a:=by
 induction h with
 | nil=>exact ⟨λ_ z=>(nomatch z),λ_ z=>(nomatch z)⟩
 | @snoc es i _ h1 h2 h3 ih=>
  obtain ⟨i1,i2⟩:=ih;refine ⟨λa ha k b p=>?_,λa ha k p=>?_⟩
  ·rcases ϋ.mp ha with z | z
   ·exact ϋ.mpr (.inl (i1 a z k b p))
   ·rw [υ.mp z] at p;cases k with
    | zero=>rw [<- show i=b from p];exact ϋ.mpr (.inr ξ)
    | succ k=>
     obtain ⟨c,hc,p⟩:=p;exact ϋ.mpr (.inl (i1 c (h3 c hc) k b p))
  ·rcases ϋ.mp ha with z | z
   ·exact i2 a z k p
   ·rw [υ.mp z] at p;obtain ⟨c,hc,p⟩:=p;exact h2 (i1 c (h3 c hc) k i p)
noncomputable def it (f:Nat->Nat):Nat->Nat->Nat
 | 0,a=>a
 | k+1,a=>f (it f k a)
theorem zeP {es:List Nat}(hL:∀ i,i < n->∀ x∈L i,x < n) (h:∀ i,i < n->i∈es\/∃ x∈L i,x ∉ es) {i:Nat}(hi:i < n) (hn:i ∉ es):∃ s,s < n/\∃ k,k < n/\Pt L (k+1) s s:=by
 have ex:∃ f:Nat->Nat,∀ a,a < n->a ∉ es->f a∈L a/\f a < n/\f a ∉ es:=by refine ⟨λa=>if q:∃ x∈L a,x ∉ es then bL q else 0,λa ha hb=>?_⟩;have q:=(h a ha).resolve_left hb;have:=dY q;dsimp only;rw [dif_pos q];exact ⟨this.1,hL a ha _ this.1,this.2⟩
 obtain ⟨f,hf⟩:=ex;have ok:∀ k,it f k i < n/\it f k i ∉ es:=by
  intro k
  induction k with
  | zero=>exact ⟨hi,hn⟩
  | succ k ih=>exact (hf _ ih.1 ih.2).2
 have way:∀ a k,Pt L k (it f a i) (it f (a+k) i):=by
  intro a k
  induction k with
  | zero=>rfl
  | succ k ih=>exact ih.snoc (hf _ (ok _).1 (ok _).2).1
 refine ao λno=>?_
 have nd:((ό (n+1)).map λk=>it f k i).Nodup:=by refine gm.mpr (lG (R:=(· < ·)) (λ{a b} ha hb hab e=>?_) oM);have hb:=Ϝ.mp hb;refine no ⟨it f a i,(ok a).1,b - a - 1,by omega,?_⟩;have w:=way a (b - a - 1+1);rw [show a+(b - a - 1+1)=b by omega,<- e] at w;exact w
 have:=TS.sub_len nd (ys:=ό n) λx hx=>by obtain ⟨k,_,rfl⟩:=Ϲ.mp hx;exact Ϝ.mpr (ok k).1
 rw [ψ,ϭ,ϭ] at this;omega
def Ring (n:Nat) (L:Nat->List Nat):Prop:=∃ s,s < n/\∃ k,Pt L (k+1) s s
theorem Vi {es:List Nat}(c:Cl n L es) (hL:∀ i,i < n->∀ x∈L i,x < n) (h:∀ i,i < n->i∈es\/∃ x∈L i,x ∉ es):(es.length < n ↔ Ring n L)/\(Ring n L->∃ s,s < n/\∃ k,k < n/\Pt L (k+1) s s):=by
 have a:es.length < n->∃ s,s < n/\∃ k,k < n/\Pt L (k+1) s s:=λhl=>by
  refine ao λno=>?_
  have all:∀ i,i < n->i∈es:=λi hi=>ao λhn=>no (zeP hL h hi hn)
  have:=Cl.all all;omega
 have b:Ring n L->es.length < n:=λ⟨s,hs,k,p⟩=>c.less hs λhm=>c.no.2 s hm k p
 exact ⟨⟨λhl=>let ⟨s,hs,k,_,p⟩:=a hl;⟨s,hs,k,p⟩,b⟩,λr=>a (b r)⟩
end
section
variable {K:Nat}{S:Store}{w:Str}{l:List Nat}{f:Fl}{o:Of}{a b c:D}
noncomputable def aoT:List C:=zK.drop 3
theorem zh3 (hl:l.length<=10):wpCs (zb F wh K) noX wh (aoT.drop 1) [.sh a,.sh b,.sh c,.sh (flD f),.sh (ofD o),.sh (.str w),.ow (nL l)] (told λx S'=>x=(nL (l++if w2 w=true then ol o else []),.fr)/\S'=S) S:=by
 dsimp only [aoT,zK,iQ];nofun;refine yq (λh=>?_) (λh=>?_)
 ·rw [if_pos (show w2 w=true from h)];cases o with
  | no=>
   unfold ofD;nofun;exact ⟨by show _=(nL (l++[]),_);rw [Ο],rfl⟩
  | shut=>
   unfold ofD;nofun;exact ⟨by show _=(nL (l++[]),_);rw [Ο],rfl⟩
  | nx a=>
   unfold ofD;nofun;exact ⟨by show (D.lst (l.map nI++[nI a]),_)=_;rw [vX];rfl,rfl⟩
 ·rw [if_neg (by rw [show w2 w=false from h];exact Μ),Ο];nofun;exact ⟨rfl,rfl⟩
theorem zeZ (hl:l.length<=9):wpCs (zb F wh K) noX wh aoT [.sh a,.sh b,.sh c,.sh (flD f),.sh (ofD o),.sh (.str w),.ow (nL l)] (told λx S'=>x=(nL (more w l f o),.fr)/\S'=S) S:=by
 have fin:=λ(l:List Nat) (hl:l.length<=10)=>zh3 (K:=K) (S:=S) (a:=a) (b:=b) (c:=c) (f:=f) (o:=o) (w:=w) hl
 obtain ⟨tl,htl⟩:∃ tl,tl=aoT.drop 1:=⟨_,rfl⟩
 rw [<- htl] at fin;show wpCs _ _ _ (aoT.take 1++aoT.drop 1) _ _ _
 rw [<- htl];dsimp only [aoT,zK,iQ,mz,aq,Ϛ];clear htl;unfold more;nofun;refine yq (λh=>?_) (λh=>?_)
 ·rw [if_pos (show w1 w=true from h)];cases f with
  | no=>
   unfold flD at fin ⊢;nofun;have:=fin l (by omega);rw [show fl .no=[] from rfl,Ο];exact this
  | nx a=>
   unfold flD at fin ⊢;nofun;have:=fin (l++[a]) (by simp;omega);rw [nL,<- vX] at this;exact this
  | sl a=>
   unfold flD at fin ⊢;nofun;have:=fin (l++[a]) (by simp;omega);rw [nL,<- vX] at this;exact this
 ·rw [if_neg (by rw [show w1 w=false from h];exact Μ),Ο];nofun;exact fin l (by omega)
theorem zct {r:Rm}(hK:1<=K):Is K 33 [r.D] (nL r.lds,.fr) S:=by
 obtain ⟨d,f,o⟩:=r;obtain ⟨K,hk,rfl⟩:=up hK;unfold Rm.D;refine jX ?_;have fin:=λ(w:Str) (l:List Nat) (c:D) (hl:l.length<=9)=>zeZ (K:=K) (S:=S) (a:=.tup [.tup [],c,flD f,ofD o]) (b:=.tup []) (c:=c) (f:=f) (o:=o) (w:=w) hl
 obtain ⟨tl,htl⟩:∃ tl,tl=aoT:=⟨_,rfl⟩
 rw [<- htl] at fin;show wpCs _ _ _ (zK.take 3++aoT) _ _ _
 rw [<- htl];clear htl;dsimp only [zK,mz,aq,Ϛ];cases d with
 | go i=>
  unfold drD;nofun;refine xg ?_;dsimp only [wpI,Zx,Zz,wpEs,zR,Zy,xu];nofun;refine yr rfl ?_;nofun;refine zcO ?_;nofun;dsimp only [wpF,j7,zR,inn,nT,Α,bM,Ο,cG,aq,Ϛ,aO,aQ,eU];nofun;refine uh ?_;nofun;exact fin "go" [i] _ (by simp)
 | fork i j=>
  unfold drD;nofun;refine xg ?_;dsimp only [wpI,Zx,Zz,wpEs,zR,Zy,xu];nofun;refine yr rfl ?_;nofun;refine zcO ?_;nofun;dsimp only [wpF,j7,zR,inn,nT,Α,bM,Ο,cG,aq,Ϛ,aO,aQ,eU];nofun;refine zcO ?_;nofun;dsimp only [wpF,j7,zR,inn,nT,Α,bM,Ο,cG,aq,Ϛ,aO,aQ,eU];nofun;refine uh ?_;nofun;exact fin "fork" [i,j] _ (by simp)
 | give=>
  unfold drD;nofun;refine xg ?_;dsimp only [wpI,Zx,Zz,wpEs,zR,Zy,xu];nofun;refine yr rfl ?_;nofun;refine uh ?_;nofun;exact fin "give" [] _ (by decide)
 | gs=>
  unfold drD;nofun;refine xg ?_;dsimp only [wpI,Zx,Zz,wpEs,zR,Zy,xu];nofun;refine yr rfl ?_;nofun;refine uh ?_;nofun;exact fin "give" [] _ (by decide)
 | out=>
  unfold drD;nofun;refine xg ?_;dsimp only [wpI,Zx,Zz,wpEs,zR,Zy,xu];nofun;refine yr rfl ?_;nofun;refine uh ?_;nofun;exact fin "out" [] _ (by decide)
 | want i=>
  unfold drD;nofun;refine xg ?_;dsimp only [wpI,Zx,Zz,wpEs,zR,Zy,xu];nofun;refine yr rfl ?_;nofun;refine uh ?_;nofun;exact fin "want" [] _ (by decide)
 | rnd i=>
  unfold drD;nofun;refine xg ?_;dsimp only [wpI,Zx,Zz,wpEs,zR,Zy,xu];nofun;refine yr rfl ?_;nofun;refine uh ?_;nofun;have:=fin "round" [] (.tup [.str "round",nI i]) (by decide);rw [show more "round" [] f o=fl f by show []++fl f++[]=_;simp] at this;exact this
 | fail=>
  unfold drD;nofun;refine xg ?_;dsimp only [wpI,Zx,Zz,wpEs,zR,Zy,xu];nofun;refine yr rfl ?_;nofun;refine uh ?_;nofun;have:=fin "fail" [] (.tup [.str "fail",.int 2]) (by decide);rw [show more "fail" [] f o=fl f by show []++fl f++[]=_;simp] at this;exact this
end
noncomputable def kz (es:List Nat):List Key:=es.map λ(i:Nat)=>(dD (i:Int):Key)
noncomputable def vz (es:List Nat):List D:=es.map λ_=>.bl true
noncomputable abbrev dE (es:List Nat):D:=.dK (kz es) (vz es)
theorem zhu {x:Nat}:∀ {es:List Nat},hasK (kz es) (.inl (x:Int))=decide (x∈es)
 | []=>rfl
 | e::es=>by
  show (decide ((dD (e:Int):Key)=.inl (x:Int))||hasK (kz es) (.inl (x:Int)))=_
  rw [zhu];by_cases h:x=e
  ·subst h;simp
  ·rw [decide_eq_false (λz=>h (by have:=dD.inj z;omega)),lr];simp [h]
theorem Vy {x:Nat}:∀ {es:List Nat},(yW (kz es) (vz es) (.inl (x:Int))).isSome=decide (x∈es)
 | []=>rfl
 | e::es=>by
  have ih:=Vy (x:=x) (es:=es);unfold yW at ih ⊢;show ((jE ((dD (e:Int):Key)::kz es) (.inl (x:Int))).bind λi=>(D.bl true::vz es)[i]?).isSome=_
  rw [jE];by_cases h:x=e
  ·subst h;rw [if_pos rfl];simp
  ·rw [if_neg (λz=>h (by have:=dD.inj z;omega))];rw [show decide (x∈e::es)=decide (x∈es) by simp [h],<- ih];cases jE (kz es) (.inl (x:Int)) <;> rfl
noncomputable def LL (rooms:List Rm) (i:Nat):List Nat:=match rooms[i]? with
 | some r=>r.lds
 | none=>[]
theorem zai {s:D->(Option D->Store->Prop)->Store->Prop}{V:List D->Store->Prop}{S:Store}(f:Nat->Bool):∀ (xs:List Nat) (acc:List Bool),acc.length+xs.length<=1000->(∀ x∈xs,∀ Q:Option D->Store->Prop,Q (some (.bl (f x))) S->s (nI x) Q S) ->
  V ((acc++xs.map f).map D.bl) S->xj s (xs.map nI) (acc.map D.bl) V S
 | [],acc,_,_,v=>by simpa [xj] using v
 | x::xs,acc,hl,h,v=>by
  refine h x ξ _ ?_;have e:(acc.map D.bl)++[D.bl (f x)]=(acc++[f x]).map D.bl:=by simp
  have hl':acc.length+(xs.length+1)<=1000:=hl;show tst (fits ((acc.map D.bl).length+1)) (xj s (xs.map nI) (acc.map D.bl++[D.bl (f x)]) V S) False
  refine yr (fits_of (by rw [ψ];omega)) ?_;rw [e];exact zai f xs (acc++[f x]) (by simp;omega) (λy hy=>h y (ι _ hy)) (by simpa using v)
theorem jL:∀ l:List Bool,xK (l.map D.bl)=some l
 | []=>rfl
 | b::l=>by show (xK (l.map D.bl)).map (b::·)=_;rw [jL l];rfl
theorem zcL (l:List Bool):biD .all [.lst (l.map D.bl)]=some (.bl (l.all id),false):=by
 show ((xK (l.map D.bl)).map λbs=>D.bl (bs.all id)).map (λd=>(d,false))=_
 rw [jL];rfl
theorem Q9 {i:Nat}{d:D}{l:List D}:vK i (d::l)=.tup [.int i,d]::vK (i+1) l:=rfl
section
variable {K:Nat}{S:Store}{rooms:List Rm}
noncomputable abbrev rD (rooms:List Rm):D:=.tup (rooms.map Rm.D)
abbrev Clo (rooms:List Rm) (es:List Nat) (j:Nat):Prop:=j∈es\/∃ x∈LL rooms j,x ∉ es
def rI (rooms:List Rm) (es0:List Nat) (S:Store) (l:List D) (ρ:List Slot) (S':Store):Prop:=
 S'=S/\∃ (es:List Nat) (g:Bool) (i:Nat) (a b:Slot),l=vK i ((rooms.drop i).map Rm.D)/\i<=rooms.length/\ρ=[.sh (rD rooms),.ow (dE es),.sh (.bl g),a,b]/\Cl rooms.length (LL rooms) es /\
  (g=true->es0.length < es.length)/\(g=false->es=es0/\∀ j,j < i->Clo rooms es0 j)
def wI (rooms:List Rm) (S:Store) (m:Nat) (ρ:List Slot) (S':Store):Prop:=
 S'=S/\∃ (es:List Nat) (g:Bool) (a b:Slot),ρ=[.sh (rD rooms),.ow (dE es),.sh (.bl g),a,b]/\Cl rooms.length (LL rooms) es/\(g=true->rooms.length < m+es.length)/\(g=false->∀ j,j < rooms.length->Clo rooms es j)
theorem J2 {es1:List Nat}{g1:Bool}{i:Nat}{a1 b1:Slot}{es0:List Nat}{Kc:Ko}{r:Rm}(hir:rooms[i]?=some r) (c1:Cl rooms.length (LL rooms) es1) (h1:g1=true->es0.length < es1.length) (h2:g1=false->es1=es0/\∀ j,j < i->Clo rooms es0 j) (h160:rooms.length<=160) (hK:2<=K)
  (kc:∀ (es:List Nat) (g:Bool) (a b:Slot),Cl rooms.length (LL rooms) es->(g=true->es0.length < es.length)->(g=false->es=es0/\∀ j,j < i+1->Clo rooms es0 j)->Kc (.next [.sh (rD rooms),.ow (dE es),.sh (.bl g),a,b]) S):
  optS (yK [.sh (rD rooms),.ow (dE es1),.sh (.bl g1),a1,b1] (.tup [3,4]) (.tup [.int i,r.D],false)) λρ1=>wpCs (zb F wh K) noX wh [.ite (.and (.cmp .NotIn ⇑3 ⇑1) (.one (.bi .all [(.comp (.one 0) [1] (.seq (.call 23 [⇑4])) [] (.cmp .In ⇑0 ⇑1))]))) [.stv 1 ⇑3 (.con (.bl true)),.set (.one 2) (.con (.bl true))] []] ρ1 Kc S:=by
 have few:=r.few;have hL:LL rooms i=r.lds:=by unfold LL;rw [hir]
 have hil:i < rooms.length:=(χ.mp hir).1;have cf:=c1.few;have keep:∀ (a2 b2:Slot),Clo rooms es1 i->Kc (.next [.sh (rD rooms),.ow (dE es1),.sh (.bl g1),a2,b2]) S:=λa2 b2 q=>kc es1 g1 a2 b2 c1 h1 λz=>by
  obtain ⟨z1,z2⟩:=h2 z;refine ⟨z1,λj hj=>?_⟩;by_cases e:j=i
  ·rw [e,<- z1];exact q
  ·exact z2 j (by omega)
 nofun;refine yq (λh=>?_) (λh=>?_)
 ·have h:(!(yW (kz es1) (vz es1) (.inl (i:Int))).isSome)=true:=h;rw [Vy] at h;have hn:i ∉ es1:=by simpa using h
  nofun;refine xg ?_;dsimp only [wpI,jH,wpEs,zR];nofun;refine (zd9 (r:=r) (by omega)).go ?_;nofun;refine zai (λx=>decide (x∈es1)) r.lds [] (by simp;omega) (λx hx Q hQ=>?_) ?_
  ·refine yH rfl ?_;dsimp only [wpF,zac,zR,inn,nT,Α,bM,Ο,cG];nofun;have e:(yW (kz es1) (vz es1) (.inl (x:Int))).isSome=decide (x∈es1):=Vy;rw [<- e] at hQ;exact hQ
  ·refine xn (zcL _) ?_;nofun;refine yq (λh=>?_) (λh=>?_)
   ·have h:(([]++r.lds.map λx=>decide (x∈es1)).all id)=true:=h;nofun;refine zO (zdt (show hasK (kz es1) (.inl (i:Int))=false by rw [zhu];exact decide_eq_false hn) (by unfold kz;rw [ψ];omega)) ?_;nofun;have e:D.dK (kz es1++[.inl (i:Int)]) (vz es1++[.bl true])=dE (es1++[i]):=by unfold dE kz vz;rw [ak,ak];rfl
    rw [e];refine kc _ true _ _ (.snoc c1 hil hn λx hx=>?_) (λ_=>?_) (λz=>nomatch z)
    ·rw [hL] at hx;rw [Ϛ,fM,ϡ] at h;simpa using h x hx
    ·rw [Ξ];cases g1 with
     | true=>have:=h1 rfl;simp;omega
     | false=>rw [(h2 rfl).1];simp
   ·have h:(([]++r.lds.map λx=>decide (x∈es1)).all id)=false:=h;nofun;refine keep _ _ (.inr ?_);rw [Ϛ,fM] at h;obtain ⟨x,hx,e⟩:=List.all_eq_false.mp h;exact ⟨x,by rw [hL];exact hx,by simpa using e⟩
 ·have h:(!(yW (kz es1) (vz es1) (.inl (i:Int))).isSome)=false:=h;rw [Vy] at h;nofun;exact keep _ _ (.inl (by simpa using h))
def RP (rooms:List Rm) (b:Bool):Prop:=(b=true ↔ Ring rooms.length (LL rooms))/\(Ring rooms.length (LL rooms)->∃ s,s < rooms.length/\∃ k,k < rooms.length/\Pt (LL rooms) (k+1) s s)
theorem zf5 {s:Int}(hr:∀ r∈rooms,r.ok rooms.length s) (h160:rooms.length<=160) (hK:3<=K):ue F wh K 24 [rD rooms] (λx S'=>S'=S/\∃ b,x=(.bl b,.st)/\RP rooms b) S:=by
 obtain ⟨K,hk,rfl⟩:=up hK;have low:∀ i,i < rooms.length->∀ x∈LL rooms i,x < rooms.length:=λi hi x hx=>by unfold LL at hx;rw [π hi] at hx;exact Rm.low (hr _ (aN hi)) x hx
 refine Ul ?_;nofun;refine uE (wI rooms S) ?_ _ 199 _ _ (by decide) ⟨rfl,[],true,.no,.no,rfl,.nil,λ_=>by omega,λz=>nomatch z⟩;rintro m ρ S' ⟨rfl,es,g,a,b,rfl,cl,hg1,hg2⟩;dsimp only [zR];nofun;refine yq (λh=>?_) (λh=>?_)
 ·have h:g=true:=h;have hm:=hg1 h;have cf:=cl.few;refine ⟨m - 1,by omega,?_⟩;nofun;refine wp_walk (rI rooms es S') ?_ ?_ _ _ _ ⟨rfl,es,false,0,a,b,rfl,ϴ _,rfl,cl,(λz=>nomatch z),λ_=>⟨rfl,λj z=>absurd z (m5 _)⟩⟩
  ·rintro d l ρ S1 ⟨rfl,es1,g1,i,a1,b1,el,hi,rfl,c1,h1,h2⟩;cases e:rooms.drop i with
   | nil=>rw [e] at el;cases el
   | cons r rest=>
    rw [e,ϧ,Q9] at el;cases el;have hir:rooms[i]?=some r:=by rw [<- List.head?_drop,e];rfl
    have hrest:rest=rooms.drop (i+1):=by rw [<- List.tail_drop,e];rfl
    refine J2 hir c1 h1 h2 h160 hk λes2 g2 a2 b2 c2 q1 q2=>?_
    exact ⟨rfl,es2,g2,i+1,a2,b2,by rw [hrest],(χ.mp hir).1,rfl,c2,q1,q2⟩
  ·rintro ρ S1 ⟨rfl,es1,g1,i,a1,b1,el,hi,rfl,c1,h1,h2⟩;have hi2:rooms.length<=i:=by
    cases e:rooms.drop i with
    | nil=>exact List.drop_eq_nil_iff.mp e
    | cons r rest=>rw [e] at el;cases el
   nofun;refine ⟨rfl,es1,g1,a1,b1,rfl,c1,λz=>?_,λz=>?_⟩
   ·have:=h1 z;omega
   ·obtain ⟨z1,z2⟩:=h2 z;rw [z1];exact λj hj=>z2 j (by omega)
 ·have h:g=false:=h;have R:=Vi cl low (hg2 h);nofun;refine ⟨rfl,decide (es.length < rooms.length),?_,?_,R.2⟩
  ·show (D.bl (decide (((kz es).length:Int) < ((rooms.map Rm.D).length:Int))),Kd.st)=_
   unfold kz;rw [ψ,ψ]
   congr 2
   exact decide_eq_decide.mpr (by omega)
  ·rw [decide_eq_true_eq];exact R.1
end
theorem Wb:∀ (ks l:List Int),(∀ x,x∈ks.foldl (λl x=>if x∈l then l else l++[x]) l ↔ x∈l\/x∈ks)/\(l.Nodup->(ks.foldl (λl x=>if x∈l then l else l++[x]) l).Nodup)/\(ks.foldl (λl x=>if x∈l then l else l++[x]) l).length<=l.length+ks.length
 | [],l=>⟨λx=>by simp,id,by simp⟩
 | k::ks,l=>by
  rw [ik];by_cases h:k∈l
  ·rw [if_pos h];obtain ⟨i1,i2,i3⟩:=Wb ks l;refine ⟨λx=>?_,i2,by rw [ϱ];omega⟩;rw [i1,Ε];exact ⟨λz=>z.imp id .inr,λz=>z.elim .inl λz=>z.elim (λe=>.inl (e ▸ h)) .inr⟩
  ·rw [if_neg h];obtain ⟨i1,i2,i3⟩:=Wb ks (l++[k]);refine ⟨λx=>?_,λnd=>i2 (b7.mpr ⟨nd,by simp,λa ha b hb e=>h (by rw [<- υ.mp hb,<- e];exact ha)⟩),by rw [Ξ] at i3;simp at i3;rw [ϱ];omega⟩;rw [i1,ϋ,υ,Ε];exact or_assoc
theorem K8:∀ {l:List Int},(∀ x∈l,0<=x)->l.map D.int=(l.map Int.toNat).map nI
 | [],_=>rfl
 | x::l,h=>by
  have:=K8 λy hy=>h y (ι _ hy)
  have hx:=h x ξ;show D.int x::l.map D.int=nI x.toNat::_
  rw [this,nI,Int.toNat_of_nonneg hx]
theorem zfz {l:List Nat}(hl:l.length<=60):∃ l':List Nat,Ut (nL l)=some (nL l',true)/\l'.Nodup/\∀ x,x∈l' ↔ x∈l:=by
  generalize hzs:l.map (λx:Nat=>(x:Int))=zs;have e0:l.map nI=zs.map D.int:=by rw [<- hzs,fL];rfl
  have ex:∀ x,x∈zs ↔ ∃ y∈l,(y:Int)=x:=λx=>by rw [<- hzs,Ϲ]
  have hz:zs.length<=60:=by rw [<- hzs,ψ];exact hl
  obtain ⟨o1,o2,o3⟩:=Wb zs [];have pm:=pB (wN zs) λa b=>decide (a<=b)
  have mem:∀ x,x∈sortI (wN zs) ↔ x∈zs:=λx=>by rw [show x∈sortI (wN zs) ↔ x∈wN zs from pm.mem_iff];exact (o1 x).trans (by simp)
  have pos:∀ x∈sortI (wN zs),0<=x:=λx hx=>by obtain ⟨y,_,e⟩:=(ex x).mp ((mem x).mp hx);omega
  have es:zaW (.lst (zs.map D.int))=some (.lst ((sortI (wN zs)).map D.int),true):=by unfold zaW;rw [show lotD (D.lst (zs.map D.int))=some (zs.map D.int) from rfl,lR,jA,lR,if_pos (by rw [ε,decide_eq_true_eq,decide_eq_true_eq];exact ⟨by omega,by have:(wN zs).length<=_:=o3;simp at this;omega⟩)]
  have e1:Ut (nL l)=zaW (.lst (zs.map D.int)):=by
    first
    | (unfold nL Ut;rw [e0];done)
    | (unfold nL Ut;rw [e0,es];cases zs with
       | nil=>rw [show sortI (wN [])=[] by unfold sortI wN;simp];rfl
       | cons z zs=>rfl)
  refine ⟨(sortI (wN zs)).map Int.toNat,by rw [e1,es,K8 pos],?_,λx=>?_⟩
  · have nd:(sortI (wN zs)).Nodup:=pm.symm.nodup (o2 nq);refine gm.mpr (lG (λ{a b} ha hb h e=>h ?_) nd);have:=pos a ha;have:=pos b hb;omega
  · rw [Ϲ];constructor
    · rintro ⟨y,hy,rfl⟩;obtain ⟨z,hz,e⟩:=(ex y).mp ((mem y).mp hy);rw [<- e];exact hz
    · intro hx;exact ⟨(x:Int),(mem _).mpr ((ex _).mpr ⟨x,hx,rfl⟩),rfl⟩
theorem zh5 {s:Nat}:∀ {ms:List Nat},((ms.map nI).any λy=>eqP y (nI s))=decide (s∈ms)
 | []=>rfl
 | m::ms=>by
  rw [ϧ,fu,zh5,eqi];by_cases h:s=m
  ·subst h;simp
  ·have:((m:Int)==(s:Int))=false:=beq_eq_false_iff_ne.mpr (by omega);rw [this,lr];simp [h]
section
variable {K:Nat}{S:Store}{rooms:List Rm}{s:Nat}
abbrev Met (rooms:List Rm) (s k:Nat) (ms:List Nat):Prop:=∀ b,b∈ms ↔ ∃ j,j<=k/\Pt (LL rooms) (j+1) s b
theorem zbv {k:Nat}{ms mo l:List Nat}(h:Met rooms s k ms) (hm:∀ b,b∈mo ↔ ∃ c∈ms,b∈LL rooms c) (hl:∀ b,b∈l ↔ b∈ms++mo):Met rooms s (k+1) l:=λb=>by
 rw [hl,ϋ,hm,h];constructor
 ·rintro (⟨j,hj,p⟩ | ⟨c,hc,hb⟩)
  ·exact ⟨j,by omega,p⟩
  ·obtain ⟨j,hj,p⟩:=(h c).mp hc;exact ⟨j+1,by omega,p.snoc hb⟩
 ·rintro ⟨j,hj,p⟩;by_cases e:j<=k
  ·exact .inl ⟨j,e,p⟩
  ·obtain ⟨j,rfl⟩:∃ i,j=i+1:=⟨j - 1,by omega⟩
   obtain ⟨c,p1,p2⟩:=p.last;exact .inr ⟨c,(h c).mpr ⟨j,by omega,p1⟩,p2⟩
theorem Wi (low:∀ i,i < rooms.length->∀ x∈LL rooms i,x < rooms.length):∀ {k a b:Nat},a < rooms.length->Pt (LL rooms) k a b->b < rooms.length
 | 0,_,_,h,rfl=>h
 | _+1,_,_,h,⟨c,hc,p⟩=>Wi low (low _ h c hc) p
theorem V1 {i:Nat}{r:Rm}(h:rooms[i]?=some r):subD (rD rooms) (nI i)=some r.D/\LL rooms i=r.lds:=by have hi:i < rooms.length:=(χ.mp h).1;refine ⟨?_,by unfold LL;rw [h]⟩;exact zce (by omega) (by rw [cj,Ρ,h];rfl)
theorem zh0 {sl:Int}(hr:∀ r∈rooms,r.ok rooms.length sl) (h12:rooms.length<=12) (hs:s < rooms.length) (hK:2<=K):ue F wh K 34 [rD rooms,nI s] (λx S'=>S'=S/\∃ b,x=(.bl b,.st)/\(b=true ↔ ∃ j,j<=rooms.length/\Pt (LL rooms) (j+1) s s)) S:=by
 obtain ⟨K,hk,rfl⟩:=up hK;have low:∀ i,i < rooms.length->∀ x∈LL rooms i,x < rooms.length:=λi hi x hx=>by unfold LL at hx;rw [π hi] at hx;exact Rm.low (hr _ (aN hi)) x hx
 have at_:∀ i,i < rooms.length->∃ r,rooms[i]?=some r:=λi hi=>⟨_,π hi⟩
 obtain ⟨r0,e0⟩:=at_ s hs;obtain ⟨g1,g2⟩:=V1 e0;refine vR ?_;nofun;refine zO g1 ?_;nofun;refine (zct (r:=r0) (by omega)).go ?_;nofun;refine yr ?_ ?_
 ·rw [ε,decide_eq_true_eq];exact ⟨fits_of (by rw [ψ];omega),by omega⟩
 refine wp_walk (λl ρ S'=>S'=S/\∃ (ms:List Nat) (k:Nat) (x3 x4 x5:Slot),ρ=[.sh (rD rooms),.sh (nI s),.ow (nL ms),x3,x4,x5]/\Met rooms s k ms/\ms.length<=12/\k+l.length=rooms.length) ?_ ?_ _ _ _ ⟨rfl,r0.lds,0,.no,.no,.no,rfl,λb=>?_,by have:=r0.few;omega,?_⟩
 ·rintro d l ρ S' ⟨rfl,ms,k,x3,x4,x5,rfl,hm,h2,hl⟩;have hl:k+(l.length+1)=rooms.length:=hl;nofun;refine wp_walk (λl ρ S1=>S1=S'/\∃ (dn rest mo:List Nat) (x5:Slot),ms=dn++rest/\l=rest.map nI/\ρ=[.sh (rD rooms),.sh (nI s),.sh (nL ms),.sh d,.ow (nL mo),x5]/\(∀ b,b∈mo ↔ ∃ c∈dn,b∈LL rooms c)/\mo.length<=2*dn.length) ?_ ?_ _ _ _ ⟨rfl,[],ms,[],x5,rfl,rfl,rfl,λb=>by simp,by simp⟩
  ·rintro d1 l1 ρ S1 ⟨rfl,dn,rest,mo,x5,em,el,rfl,hmo,hml⟩;cases rest with
   | nil=>cases el
   | cons c rest=>
    cases el;have hc:c∈ms:=by rw [em];exact ϋ.mpr (.inr ξ)
    obtain ⟨j,_,p⟩:=(hm c).mp hc;obtain ⟨r,er⟩:=at_ c (Wi low hs p);obtain ⟨g3,g4⟩:=V1 er;have hf:=r.few;have hdn:dn.length+(rest.length+1)<=12:=by rw [em,Ξ] at h2;exact h2
    nofun;refine zO g3 ?_;nofun;refine (zct (r:=r) (by omega)).go ?_;nofun;refine UG (W0 (by rw [ψ,ψ];omega)) ?_;nofun;refine ⟨rfl,dn++[c],rest,mo++r.lds,_,by rw [em];simp,rfl,by rw [<- ak],λb=>?_,by rw [Ξ,Ξ];simp;omega⟩;rw [ϋ,hmo];constructor
    ·rintro (⟨x,hx,hb⟩ | hb)
     ·exact ⟨x,ϋ.mpr (.inl hx),hb⟩
     ·exact ⟨c,by simp,by rw [g4];exact hb⟩
    ·rintro ⟨x,hx,hb⟩;rcases ϋ.mp hx with z | z
     ·exact .inl ⟨x,z,hb⟩
     ·rw [υ.mp z,g4] at hb;exact .inr hb
  ·rintro ρ S1 ⟨rfl,dn,rest,mo,x5,em,el,rfl,hmo,hml⟩;cases rest with
   | cons _ _=>cases el
   | nil=>
    rw [Ο] at em;subst em;nofun;refine UG (W0 (by rw [ψ,ψ];omega)) ?_;rw [<- ak];obtain ⟨l',e1,e2,e3⟩:=zfz (l:=ms++mo) (by rw [Ξ];omega);refine UG e1 ?_;nofun;have M:=zbv hm hmo e3;refine ⟨rfl,l',k+1,_,_,_,rfl,M,?_,by omega⟩;have:=TS.sub_len e2 (ys:=ό rooms.length) λx hx=>by obtain ⟨j,_,p⟩:=(M x).mp hx;exact Ϝ.mpr (Wi low hs p)
    rw [ϭ] at this;omega
 ·rintro ρ S' ⟨rfl,ms,k,x3,x4,x5,rfl,hm,h2,hl⟩;have hl:k=rooms.length:=hl;nofun;refine zO (a:=decide (s∈ms)) ?_ ?_
  ·show (if (isSc (nI s)&&(ms.map nI).all isSc)=true then some ((ms.map nI).any λy=>eqP y (nI s)) else _)=_
   rw [if_pos (by rw [fM];exact ϣ.mpr ⟨rfl,ϡ.mpr λ_ _=>rfl⟩),zh5]
  ·nofun;refine ⟨rfl,_,rfl,?_⟩;rw [decide_eq_true_eq,hm,hl]
 ·rw [<- g2]
  exact ⟨λh=>⟨0,Β _,b,h,rfl⟩,λ⟨j,hj,p⟩=>by
   obtain rfl:j=0:=by omega
   obtain ⟨c,hc,e⟩:=p
   rw [<- show c=b from e];exact hc⟩
 ·unfold zZ;simp
end
theorem zhB {n:Nat}{L:Nat->List Nat}:∀ (m:Nat) (es:List Nat),Cl n L es->n < m+es.length->∃ es,Cl n L es/\∀ i,i < n->i∈es\/∃ x∈L i,x ∉ es
 | 0,es,c,h=>absurd c.few (by omega)
 | m+1,es,c,h=>by
  refine ao λno=>no ⟨es,c,λi hi=>ao λq=>no ?_⟩
  rw [not_or] at q;refine zhB m (es++[i]) (.snoc c hi q.1 λx hx=>ao λz=>q.2 ⟨x,hx,z⟩) ?_;rw [Ξ];simp;omega
noncomputable def rgB (rooms:List Rm):Bool:=@decide (Ring rooms.length (LL rooms)) (aG _)
noncomputable def cbB (rooms:List Rm) (s:Nat):Bool:=@decide (∃ j,j<=rooms.length/\Pt (LL rooms) (j+1) s s) (aG _)
theorem qX {rooms:List Rm}:rgB rooms=true ↔ Ring rooms.length (LL rooms):=@decide_eq_true_iff _ (aG _)
theorem WR {rooms:List Rm}{s:Nat}:cbB rooms s=true ↔ ∃ j,j<=rooms.length/\Pt (LL rooms) (j+1) s s:=@decide_eq_true_iff _ (aG _)
theorem zgR {rooms:List Rm}{s:Int}(hr:∀ r∈rooms,r.ok rooms.length s):∀ i,i < rooms.length->∀ x∈LL rooms i,x < rooms.length:=λi hi x hx=>by unfold LL at hx;rw [π hi] at hx;exact Rm.low (hr _ (aN hi)) x hx
theorem zjX {rooms:List Rm}{s:Int}(hr:∀ r∈rooms,r.ok rooms.length s):(ό rooms.length).any (cbB rooms)=rgB rooms:=by
 refine cR.mpr ?_;rw [bN,qX];constructor
 ·rintro ⟨x,hx,h⟩;obtain ⟨j,_,p⟩:=WR.mp h;exact ⟨x,Ϝ.mp hx,j,p⟩
 ·intro r;obtain ⟨es,c,h⟩:=zhB (n:=rooms.length) (L:=LL rooms) (rooms.length+1) [] .nil (by simp);obtain ⟨x,hx,k,hk,p⟩:=(Vi c (zgR hr) h).2 r;exact ⟨x,Ϝ.mpr hx,WR.mpr ⟨k,by omega,p⟩⟩
theorem wu {α:Type}{s:D->(Option D->Store->Prop)->Store->Prop}{V:List D->Store->Prop}{S:Store}(g h:α->D):∀ (xs:List α) (acc:List D),acc.length+xs.length<=1000->(∀ x∈xs,∀ Q:Option D->Store->Prop,Q (some (h x)) S->s (g x) Q S)->V (acc++xs.map h) S->xj s (xs.map g) acc V S
 | [],acc,_,_,v=>by rw [gW,Ο] at v;exact v
 | x::xs,acc,hl,q,v=>by have hl:acc.length+(xs.length+1)<=1000:=hl;refine q x ξ _ (yr (fits_of (by omega)) (wu g h xs (acc++[h x]) (by simp;omega) (λy hy=>q y (ι _ hy)) ?_));rw [gn];exact v
structure Mc where
 nm:Str
 k:Int
 s:Int
 rooms:List Rm
noncomputable def Mc.D (m:Mc):EV.D:=.tup [.str m.nm,.int m.k,.int m.s,rD m.rooms]
structure Mc.Ok (m:Mc):Prop where
 wd:wdS m.nm=true
 k0:0<=m.k
 k3:m.k<=3
 ks:m.k<=m.s
 s32:m.s<=32
 one:1<=m.rooms.length
 few:m.rooms.length<=160
 ok:∀ r∈m.rooms,r.ok m.rooms.length m.s
noncomputable def v7 (ms:List Mc):List (Str×Int):=ms.map λm=>(m.nm,m.k)
structure Good (ms:List Mc):Prop where
 one:1<=ms.length
 six:ms.length<=6
 nd:(ms.map (·.nm)).Nodup
 ok:∀ m∈ms,m.Ok
theorem Q5:∀ {cts:List (Str×Int)}{f:Str},f ∉ cts.map (·.1)->yW (cts.map λp=>(cF p.1:Key)) (cts.map λp=>D.int p.2) (.inr f)=none/\hasK (cts.map λp=>(cF p.1:Key)) (.inr f)=false
 | [],f,_=>⟨rfl,rfl⟩
 | (g,m)::cts,f,h=>by
  have h:f ∉ g::cts.map (·.1):=h;rw [Ε,not_or] at h;obtain ⟨i1,i2⟩:=Q5 (cts:=cts) h.2;have ne:(cF g:Key)≠.inr f:=λz=>h.1 (cF.inj z).symm
  refine ⟨?_,?_⟩
  ·unfold yW at i1 ⊢;rw [ϧ,ϧ,jE,if_neg ne];cases q:jE (cts.map λp=>(cF p.1:Key)) (.inr f) with
   | none=>rfl
   | some i=>
    rw [q] at i1;exact i1
  ·show (decide ((cF g:Key)=.inr f)||hasK _ _)=false
   rw [decide_eq_false ne,i2];rfl
section
variable {K:Nat}{T S:Store}{m:Mc}{cts:List (Str×Int)}
theorem zdn {rooms:List Rm}{s:Int}(hr:∀ r∈rooms,r.ok rooms.length s) (h:rooms.length<=160) (hK:3<=K):Is K 24 [rD rooms] (.bl (rgB rooms),.st) S:=by refine wp_mono (zf5 hr h hK) ?_;rintro _ _ ⟨rfl,b,rfl,e,_⟩;rw [show b=rgB rooms from cR.mpr (e.trans qX.symm)];exact ⟨rfl,rfl⟩
theorem zeQ {rooms:List Rm}{s:Int}(hr:∀ r∈rooms,r.ok rooms.length s) (h:rooms.length<=12) {x:Nat}(hx:x < rooms.length) (hK:2<=K):Is K 34 [rD rooms,nI x] (.bl (cbB rooms x),.st) S:=by refine wp_mono (zh0 hr h hx hK) ?_;rintro _ _ ⟨rfl,b,rfl,e⟩;rw [show b=cbB rooms x from cR.mpr (e.trans WR.symm)];exact ⟨rfl,rfl⟩
theorem zhs (h:m.Ok) (hK:3<=K):Is K 11 [m.D] yes S:=by obtain ⟨K,hk,rfl⟩:=up hK;have h1:=h.k0;have h2:=h.k3;have h3:=h.ks;have h4:=h.s32;have hw:=h.wd;unfold Mc.D;obtain ⟨nm,k,s,rooms⟩:=m;refine Jr ?_;nofun;refine (tupE rfl (by omega)).go ?_;nofun;refine (zcc hw (by omega)).go ?_;nofun;refine (xU (b:=33) (show 0<=s from Int.le_trans h1 h3) (show s < 33 from pD h4) hk).go ?_;nofun;refine (xU (b:=4) h1 (show k < 4 from pD h2) hk).go ?_;nofun;exact ⟨by show (D.bl (decide (k<=s)),Kd.st)=_;rw [decide_eq_true h3],rfl⟩
theorem zdk (h:m.Ok) (hK:12<=K):Is K 16 [rD m.rooms,.int m.s,CD cts] (.bl (!rgB m.rooms),.st) (St T):=by
 obtain ⟨K,hk,rfl⟩:=up hK;have h1:=h.one;have h2:=h.few;refine XR (x2:=CD cts) ?_;nofun;refine (tupY (by rw [ψ];omega) (by rw [ψ];omega) (by omega)).go ?_;nofun;refine xg ?_;dsimp only [wpI,zR];nofun;refine wu Rm.D (λ_=>.bl true) m.rooms [] (by simp;omega) (λx hx Q hQ=>?_) ?_
 ·refine yH rfl ?_;dsimp only [wpF,jH,wpEs,zR,e_bi,inn,nT,Α,bM,Ο,cG];nofun;have:=zf4 (T:=T) (cts:=cts) (h.ok x hx) hk;rw [show ((m.rooms.map Rm.D).length:Int)=(m.rooms.length:Int) by rw [ψ]];refine this.go ?_;nofun;exact hQ
 ·rw [Ϛ,List.map_const'];refine xn (ZR _) ?_;nofun;refine (zdn h.ok h2 (by omega)).go ?_;nofun;exact ⟨rfl,rfl⟩
theorem qg {ms:List Mc}(g:Good ms) (hK:13<=K):Is K 10 [.tup (ms.map Mc.D)] (.bl (ms.all λm=>!rgB m.rooms),.st) (St T):=by
 obtain ⟨K,hk,rfl⟩:=up hK;have h1:=g.one;have h6:=g.six;refine qO ?_;nofun;refine (tupY (by rw [ψ];omega) (by rw [ψ];omega) (by omega)).go ?_;nofun;refine wp_walk (λl ρ S'=>S'=St T/\∃ (dn rest:List Mc) (x2:Slot),ms=dn++rest/\l=rest.map Mc.D/\ρ=[.sh (.tup (ms.map Mc.D)),.ow (CD (v7 dn)),x2]) ?_ ?_ _ _ _ ⟨rfl,[],ms,.no,rfl,rfl,rfl⟩
 ·rintro d l ρ S' ⟨rfl,dn,rest,x2,em,el,rfl⟩;cases rest with
  | nil=>cases el
  | cons m rest=>
   cases el;have hm:m∈ms:=by rw [em];exact ϋ.mpr (.inr ξ)
   have hno:m.nm ∉ (v7 dn).map (·.1):=by rw [show (v7 dn).map (·.1)=dn.map (·.nm) by unfold v7;rw [fL];rfl];have nd:=g.nd;rw [em,ak,b7] at nd;intro z;exact nd.2.2 _ z _ (Ϲ.mpr ⟨m,ξ,rfl⟩) rfl
   nofun;refine (zhs (g.ok m hm) (by omega)).go ?_;obtain ⟨e1,e2⟩:=Q5 hno;have hlen:(v7 dn).length<=6:=by unfold v7;rw [ψ];rw [em,Ξ] at h6;omega
   unfold Mc.D;nofun;refine Jz (by show (yW ((v7 dn).map λp=>(cF p.1:Key)) ((v7 dn).map λp=>D.int p.2) (.inr m.nm)).isSome=false;rw [e1];rfl) ?_;nofun;refine zO (Kf e2 (by rw [ψ];omega)) ?_;nofun;have e3:CD (v7 (dn++[m]))=.dK ((v7 dn).map (λp=>(cF p.1:Key))++[.inr m.nm]) ((v7 dn).map (λp=>D.int p.2)++[.int m.k]):=by unfold v7;simp [CD]
   exact ⟨rfl,dn++[m],rest,.sh m.D,by rw [em];simp,rfl,by rw [e3];rfl⟩
 ·rintro ρ S' ⟨rfl,dn,rest,x2,em,el,rfl⟩;cases rest with
  | cons _ _=>cases el
  | nil=>
   rw [Ο] at em;subst em;nofun;refine xg ?_;dsimp only [wpI,zR];nofun;refine wu Mc.D (λm=>.bl (!rgB m.rooms)) ms [] (by simp;omega) (λm hm Q hQ=>?_) ?_
   ·refine yH rfl ?_;dsimp only [wpF,jH,wpEs,zR,j7,xu,inn,nT,Α,bM,Ο,cG];have:=zdk (T:=T) (cts:=v7 ms) (g.ok m hm) hk;unfold Mc.D;nofun;refine this.go ?_;nofun;exact hQ
   ·have e:=zcL (ms.map λm=>!rgB m.rooms);rw [fL,fM] at e;refine xn e ?_;nofun;exact ⟨rfl,rfl⟩
end
theorem Ze {ns:List Int}{v:Int}:ns.map D.int++[.int v]=(ns++[v]).map D.int:=by rw [ak];rfl
theorem J1 {lo hi:Int}{d:D}(h:d∈zZ lo hi):∃ j,d=.int j/\lo<=j/\j < hi:=by unfold zZ at h;obtain ⟨k,hk,rfl⟩:=Ϲ.mp h;have:=Ϝ.mp hk;exact ⟨_,rfl,by lia,by lia⟩
noncomputable def pK (ns:List Int) (a:Int):D:=.dK [.inr "row",.inr "at"] [.lst (ns.map D.int),.int a]
structure zU (b:Nat) (ns:List Int) (a:Int):Prop where
 a0:0<=a
 ab:a+b<=1000000
 pos:0 < ns.length
 few:ns.length<=4000
theorem zU.mono {b b':Nat}{ns:List Int}{a:Int}(p:zU b ns a) (h:b'<=b):zU b' ns a:=⟨p.a0,by have:=p.ab;omega,p.pos,p.few⟩
noncomputable abbrev Sp (ns:List Int) (a:Int):Store:=[.tab 0,.tab 1,.tab 2,pK ns a]
section
variable {K b:Nat}{ns:List Int}{a:Int}
theorem yc {many:Int}(hm:0 < many) (p:zU (b+1) ns a) (hK:1<=K) {V:Po}(q:∀ (x:Nat) (a':Int),(x:Int) < many->zU b ns a'->V (nI x,.st) (Sp ns a')):zb F wh K noX 28 [.ref 3,.int many] V (Sp ns a):=by
 obtain ⟨k,_,rfl⟩:=up hK;have ha:=p.a0;have hb:=p.ab;have hp:=p.pos;refine XS ?_;nofun;have hl:((bM D.int ns).length:Int)=(ns.length:Int):=by simp
 obtain ⟨t,ht⟩:∃ t,t=a / (ns.length:Int):=⟨_,rfl⟩
 have t0:0<=t:=by rw [ht];exact Int.ediv_nonneg ha (by omega)
 have t1:t<=a:=by rw [ht];exact Int.ediv_le_self _ ha
 obtain ⟨x,_,hx⟩:=ints_get (ns:=ns) (a:=a % (ns.length:Int)) (fJ _ (by omega)) (dW _ (by omega));have hlen:ns.length<=1000000:=by have:=p.few;omega
 refine xn (d:=.int t) (by
  show (if (decide (0 < ((bM D.int ns).length:Int))&&decide (((bM D.int ns).length:Int) < 2 ^ 64))=true then some (a / ((bM D.int ns).length:Int)) else none).map (λk=>(D.int k,false))=_
  rw [hl,decide_eq_true (by omega),decide_eq_true (by omega),ht];rfl) ?_
 nofun;refine xn (Qa (by rw [hl];omega)) ?_;rw [hl];nofun;refine zO hx ?_;nofun;refine xn (YB (uK (by omega) (by omega))) ?_;nofun;refine xn (Qa hm) ?_;nofun;generalize hy:(x / 7+31*t*t) % many=y;have y0:0<=y:=by rw [<- hy];exact fJ _ (by omega)
 have y1:y < many:=by rw [<- hy];exact dW _ hm
 obtain ⟨n,rfl⟩:=Int.eq_ofNat_of_zero_le y0;exact q n (a+1) y1 ⟨by omega,by omega,hp,p.few⟩
theorem J0 (c:Int) {K:Nat}(hK:1<=K) (S:Store):ue F wh K 26 [.int c] (λq S'=>S'=S/\∃ ns:List Int,ns.length<=60/\q=(.lst (ns.map D.int),.fr)) S:=by
 obtain ⟨k,rfl⟩:∃ k,K=k+1:=⟨K - 1,by omega⟩
 refine qP ?_;nofun;refine yq (λh=>?_) (λh=>?_)
 ·nofun;refine uE (λn ρ S'=>S'=S/\∃ (ns:List Int) (left:Int),ρ=[.sh (.int c),.ow (.lst (ns.map D.int)),.sh (.int left),.no,.no]/\ns.length+n=60) ?_ _ 60 _ _ (by decide) ⟨rfl,[],_,rfl,rfl⟩;rintro n ρ S' ⟨rfl,ns,left,rfl,hl⟩;dsimp only [zhG,zhC,zac,e_bi,zR,xu];nofun;refine yq (λh1=>?_) (λh1=>?_)
  ·nofun;refine yq (λh2=>?_) (λh2=>?_)
   ·have h2:(ns.length:Int) < 60:=by have:=of_decide_eq_true h2;simpa using this
    refine ⟨n - 1,by omega,?_⟩;nofun;exact ⟨rfl,_,_,by rw [Ze],by simp;omega⟩
   ·nofun;exact ⟨rfl,ns,by omega,rfl⟩
  ·nofun;exact ⟨rfl,ns,by omega,rfl⟩
 ·nofun;refine wp_walk (λl ρ S'=>S'=S/\∃ (ns:List Int) (x2 x3 x4:Slot),ρ=[.sh (.int c),.ow (.lst (ns.map D.int)),x2,x3,x4]/\ns.length+l.length<=9/\∀ d∈l,∃ j,d=.int j/\0<=j/\j < 9) ?_ ?_ _ _ _ ⟨rfl,[],_,.no,.no,rfl,by decide,λd hd=>J1 hd⟩
  ·rintro d l ρ S' ⟨rfl,ns,x2,x3,x4,rfl,hl,hd⟩;have hl':ns.length+(l.length+1)<=9:=hl;obtain ⟨j,rfl,j0,j1⟩:=hd d (ξ ..);nofun;exact ⟨rfl,_,_,_,_,by rw [Ze],by simp;omega,λd hx=>hd d (ι _ hx)⟩
  ·rintro ρ S' ⟨rfl,ns,x2,x3,x4,rfl,hl,_⟩;have hl:ns.length<=9:=by simpa using hl
   nofun;exact ⟨rfl,ns,by omega,rfl⟩
theorem zgh (cs:List Int) (hc:cs.length<=63) {K:Nat}(hK:2<=K) (S:Store):ue F wh K 27 [.scr cs] (λq S'=>S'=S/\∃ ns,q=(pK ns 0,.fr)/\0 < ns.length/\ns.length<=4000) S:=by
 obtain ⟨k,rfl⟩:∃ k,K=k+1:=⟨K - 1,by omega⟩
 refine Um ?_;nofun;obtain ⟨zs,ez,hz⟩:=zeC cs none (some 63);rw [ez];refine wp_walk (λl ρ S'=>S'=S/\∃ (ns:List Int) (x2:Slot) (ys:List Int),l=ys.map D.int/\ρ=[.sh (.scr cs),.ow (.lst (ns.map D.int)),x2,.no]/\ns.length+60*ys.length<=3780) ?_ ?_ _ _ _ ⟨rfl,[],.no,zs,rfl,rfl,by simp;omega⟩
 ·rintro d l ρ S' ⟨rfl,ns,x2,ys,el,rfl,hl⟩;cases ys with
  | nil=>cases el
  | cons j ys=>
   cases el;have hl':ns.length+60*(ys.length+1)<=3780:=hl;nofun;refine wp_mono (J0 j (K:=k) (by omega) _) ?_;rintro _ _ ⟨rfl,ms,hm,rfl⟩;nofun;refine UG (W0 (by simp;omega)) ?_;nofun;exact ⟨rfl,ns++ms,_,ys,rfl,by rw [<- ak],by simp;omega⟩
 ·rintro ρ S' ⟨rfl,ns,x2,ys,el,rfl,hl⟩;nofun;refine xn (d:=.int ns.sum) (by show ((uC (ns.map D.int)).map _).map _=_;rw [jA];rfl) ?_;nofun;refine uE (λn ρ S1=>S1=S'/\∃ (ms:List Int) (v:Int),ρ=[.sh (.scr cs),.ow (.lst (ms.map D.int)),x2,.sh (.int v)]/\0<=v/\v < 2147483629/\40<=ms.length+n/\ms.length+n<=4000) ?_ _ 40 _ _ (by decide) ⟨rfl,ns,_,rfl,fJ _ (by decide),dW _ (by decide),by omega,by omega⟩;rintro n ρ S1 ⟨rfl,ms,v,rfl,v0,v1,hm,hm2⟩;dsimp only [zac,e_bi,zR,xu];nofun;refine yq (λh1=>?_) (λh1=>?_)
  ·have h1:(ms.length:Int) < 40:=by have:=of_decide_eq_true h1;simpa using this
   refine ⟨n - 1,by omega,?_⟩;nofun;refine xn (YB (uK v0 (by omega))) ?_;nofun;exact ⟨rfl,_,_,by rw [Ze],fJ _ (by decide),dW _ (by decide),by simp;omega,by simp;omega⟩
  ·have h1:¬ (ms.length:Int) < 40:=by have:=of_decide_eq_false h1;simpa using this
   nofun;exact ⟨rfl,ms,rfl,by omega,by omega⟩
end
section
variable {K b:Nat}{ns:List Int}{a:Int}{V:Po}
theorem Vp {l:List D}(h0:0 < l.length) (p:zU (b+1) ns a) (hK:2<=K) (q:∀ d a',d∈l->zU b ns a'->V (d,.st) (Sp ns a')):zb F wh K noX 29 [.ref 3,.lst l] V (Sp ns a):=by
 obtain ⟨K,hk,rfl⟩:=up hK;refine qQ ?_;nofun;refine yc (b:=b) (by omega) p hk λx a' hx p'=>?_
 nofun;have hx:x < l.length:=by omega
 refine zO (Vv (d:=l[x]) (by omega) (by rw [cj];exact π hx)) ?_;nofun;exact q _ a' (aN hx) p'
theorem zeA {n:Nat}{s:Int}(hn:0 < n) (hs:0 < s) (p:zU (b+3) ns a) (hK:2<=K) (q:∀ d a',Dr.ok n s d->zU b ns a'->V (drD d,.st) (Sp ns a')):zb F wh K noX 31 [.ref 3,nI n] V (Sp ns a):=by
 obtain ⟨K,hk,rfl⟩:=up hK;refine jc ?_;nofun;refine yc (b:=b+2) (by decide) p hk λx a1 hx p=>?_
 nofun;refine yc (b:=b+1) (by omega) p hk λt a2 ht p=>?_
 nofun;refine yc (b:=b) (by omega) p hk λu a3 hu p=>?_
 have ht:t < n:=by omega
 have hu:u < n:=by omega
 nofun;have hx:x < 8:=by omega
 match x,hx with
 | 0,_=>nofun;exact q (.go t) a3 ht p
 | 1,_=>nofun;exact q (.fork t u) a3 ⟨ht,hu⟩ p
 | 2,_=>nofun;exact q (.rnd t) a3 ht p
 | 3,_=>nofun;exact q .give a3 trivial p
 | 4,_=>nofun;exact q .fail a3 trivial p
 | 5,_=>nofun;exact q .out a3 hs p
 | 6,_=>nofun;exact q (.want t) a3 ht p
 | 7,_=>nofun;exact q .gs a3 hs p
 | _+8,h=>omega
theorem zdl {n:Nat}{s:Int}(hn:0 < n) (hs:0 < s) (p:zU (b+8) ns a) (hK:3<=K) (q:∀ r a',Rm.ok n s r->zU b ns a'->V (r.D,.st) (Sp ns a')):zb F wh K noX 32 [.ref 3,nI n] V (Sp ns a):=by
 obtain ⟨K,hk,rfl⟩:=up hK;refine u9 ?_;nofun;refine zeA (b:=b+5) hn hs p hk λd a1 hd p=>?_
 nofun;refine yc (b:=b+4) (by omega) p (by omega) λt a2 ht p=>?_
 nofun;refine yc (b:=b+3) (by omega) p (by omega) λu a3 hu p=>?_
 have ht:t < n:=by omega
 have hu:u < n:=by omega
 nofun;refine Vp (b:=b+2) (by simp) p hk λf a4 hf0 p=>?_
 have hf:∃ f',f=flD f'/\Fl.ok n s f':=by
  simp only [Ε,eX,or_false] at hf0;rcases hf0 with rfl | rfl | rfl | rfl
  ·exact ⟨.no,rfl,trivial⟩
  ·exact ⟨.no,rfl,trivial⟩
  ·exact ⟨.nx t,rfl,ht⟩
  ·exact ⟨.sl u,rfl,hu,hs⟩
 obtain ⟨f,rfl,hf⟩:=hf;clear hf0;nofun;refine yc (b:=b+1) (by omega) p (by omega) λv a5 hv p=>?_
 have hv:v < n:=by omega
 nofun;refine Vp (b:=b) (by simp) p hk λo a6 ho0 p=>?_
 have ho:∃ o',o=ofD o'/\Of.ok n o':=by
  simp only [Ε,eX,or_false] at ho0;rcases ho0 with rfl | rfl | rfl | rfl
  ·exact ⟨.no,rfl,trivial⟩
  ·exact ⟨.shut,rfl,trivial⟩
  ·exact ⟨.no,rfl,trivial⟩
  ·exact ⟨.nx v,rfl,hv⟩
 obtain ⟨o,rfl,ho⟩:=ho;clear ho0;nofun;exact q ⟨d,f,o⟩ a6 ⟨hd,hf,ho⟩ p
theorem zag {s:D->(Option D->Store->Prop)->Store->Prop}{V:List D->Store->Prop}{P:Rm->Prop}:∀ (xs:List D) (acc:List Rm) (a:Int),zU (b+8*xs.length) ns a->acc.length+xs.length<=1000->(∀ r∈acc,P r) ->
  (∀ x∈xs,∀ (b:Nat) (a:Int) (Q:Option D->Store->Prop),zU (b+8) ns a->(∀ r a',P r->zU b ns a'->Q (some r.D) (Sp ns a'))->s x Q (Sp ns a))->(∀ (rs:List Rm) (a':Int),rs.length=acc.length+xs.length->(∀ r∈rs,P r)->zU b ns a'->V (rs.map Rm.D) (Sp ns a'))->xj s xs (acc.map Rm.D) V (Sp ns a)
 | [],acc,a,p,_,h,_,v=>v acc a rfl h p
 | x::xs,acc,a,p,hl,h,q,v=>by
  have hl:acc.length+(xs.length+1)<=1000:=hl;have p:zU (b+8*(xs.length+1)) ns a:=p;refine q x ξ (b+8*xs.length) a _ (p.mono (by omega)) λr a' hr p'=>yr (fits_of (by rw [ψ];omega)) ?_
  rw [show acc.map Rm.D++[r.D]=(acc++[r]).map Rm.D by rw [ak];rfl];refine zag xs (acc++[r]) a' p' (by simp;omega) (λz hz=>?_) (λz hz=>q z (ι _ hz)) λrs a2 e=>v rs a2 (by rw [e,Ξ,ϱ];simp;omega)
  rcases ϋ.mp hz with y | y
  ·exact h z y
  ·rw [υ.mp y];exact hr
structure Drawn (ms:List Mc):Prop where
 ok:∀ m∈ms,m.Ok
 few:∀ m∈ms,m.rooms.length<=12
theorem vf {l:List Str}(hl:l.length<=4) (hw:∀ x∈l,wdS x=true) (p:zU (b+99*l.length) ns a) (hK:4<=K) (q:∀ ms a',ms.map (·.nm)=l->Drawn ms->zU b ns a'->V (.tup (ms.map Mc.D),.st) (Sp ns a')):
  forW (.one 2) (λρ=>wpCs (zb F wh K) noX wh [.set (.one 3) (.bin .Add ↥1 (.call 28 [⇑0,↥12])),.app 1 (.tup [⇑2,(.call 28 [⇑0,↥2]),(.bin .Add ↥1 (.call 28 [⇑0,↥3])),(.bi .tuple [(.comp (.one 0) [0,3] (.rng none ⇑3) [] (.call 32 [⇑1,⇑2]))])])] ρ) (l.map D.str) [.sh (.ref 3),.ow (.lst []),.no,.no]
   (nxt (λρ' S'=>wpCs (zb F wh K) noX wh [.ret (.bi .tuple [⇑1])] ρ' (told V) S') (told V)) (Sp ns a):=by
 refine wp_walk (λl1 ρ S'=>∃ (rest:List Str) (ms:List Mc) (a1:Int) (x2 x3:Slot),l=ms.map (·.nm)++rest/\l1=rest.map D.str/\ρ=[.sh (.ref 3),.ow (.lst (ms.map Mc.D)),x2,x3]/\Drawn ms/\zU (b+99*rest.length) ns a1/\S'=Sp ns a1) ?_ ?_ _ _ _ ⟨l,[],a,.no,.no,rfl,rfl,rfl,⟨λ_ z=>(nomatch z),λ_ z=>(nomatch z)⟩,p,rfl⟩
 ·rintro d l1 ρ S' ⟨rest,ms,a1,x2,x3,el,e1,rfl,hd,p,rfl⟩;cases rest with
  | nil=>cases e1
  | cons nm rest=>
   cases e1;have p:zU (b+99*(rest.length+1)) ns a1:=p;have hwn:=hw nm (by rw [el];exact ϋ.mpr (.inr ξ));have hml:ms.length+(rest.length+1)<=4:=by rw [el,Ξ,ψ] at hl;exact hl
   nofun;refine yc (b:=b+99*rest.length+98) (by decide) p (by omega) λx a2 hx p=>?_
   nofun;refine yc (b:=b+99*rest.length+97) (by decide) p (by omega) λy a3 hy p=>?_
   nofun;refine yc (b:=b+99*rest.length+96) (by decide) p (by omega) λz a4 hz p=>?_
   nofun;have e1:(1:Int)+(x:Int)=((x+1:Nat):Int):=by omega
   have hx:x+1<=12:=by omega
   rw [e1];refine xg ?_;dsimp only [wpI,zR];nofun;refine yr ?_ ?_
   ·rw [ε,decide_eq_true_eq];exact ⟨fits_of (by omega),by omega⟩
   have rl:(zZ 0 ((x+1:Nat):Int)).length=x+1:=by unfold zZ;simp
   refine zag (b:=b+99*rest.length) (P:=Rm.ok (x+1) (1+(z:Int))) (zZ 0 ((x+1:Nat):Int)) [] a4 (p.mono (by rw [rl];omega)) (by rw [rl];simp;omega) (λ_ w=>(nomatch w)) (λd _ b' a' Q p' hQ=>?_) (λrs a5 e hr p=>?_)
   ·refine yH rfl ?_;dsimp only [wpF,jH,wpEs,zR,xu,inn,nT,Α,bM,Ο,cG,aq,Ϛ,aO,aQ,eU];nofun;refine zdl (b:=b') (s:=1+(z:Int)) (by omega) (by omega) p' (by omega) λr a6 hr p=>?_
    nofun;exact hQ r a6 hr p
   ·have e:rs.length=x+1:=by rw [e,rl];simp
    nofun;refine ⟨rest,ms++[⟨nm,y,1+(z:Int),rs⟩],a5,_,_,by rw [el];simp,rfl,by rw [ak];rfl,⟨λm hm=>?_,λm hm=>?_⟩,p,rfl⟩
    ·rcases ϋ.mp hm with w | w
     ·exact hd.ok m w
     ·rw [υ.mp w];exact ⟨hwn,by show (0:Int)<=(y:Int);omega,by show (y:Int)<=3;omega,by show (y:Int)<=1+(z:Int);omega,by show 1+(z:Int)<=32;omega,by show 1<=rs.length;omega,by show rs.length<=160;omega,λr h=>by show r.ok rs.length _;rw [e];exact hr r h⟩
    ·rcases ϋ.mp hm with w | w
     ·exact hd.few m w
     ·rw [υ.mp w];show rs.length<=12
      omega
 ·rintro ρ S' ⟨rest,ms,a1,x2,x3,el,e1,rfl,hd,p,rfl⟩;cases rest with
  | cons _ _=>cases e1
  | nil=>
   rw [Ο] at el;nofun;exact q ms a1 el.symm hd p
theorem zc5 (p:zU (b+400) ns a) (hK:5<=K) (q:∀ ms a',Good ms->Drawn ms->zU b ns a'->V (.tup (ms.map Mc.D),.st) (Sp ns a')):zb F wh K noX 35 [.ref 3] V (Sp ns a):=by
 obtain ⟨K,hk,rfl⟩:=up hK;have fin:∀ l:List Str,l.length<=4->1<=l.length->l.Nodup->∀ ms a',ms.map (·.nm)=l->Drawn ms->zU b ns a'->V (.tup (ms.map Mc.D),.st) (Sp ns a'):=λl h4 h1 nd ms a' e d p=>q ms a' ⟨by rw [<- ψ (f:=(·.nm)),e];exact h1,by rw [<- ψ (f:=(·.nm)),e];omega,by rw [e];exact nd,d.ok⟩ d p
 refine ww ?_;nofun;refine yc (b:=b+396) (by decide) (p.mono (by omega)) (by omega) λx a1 hx p=>?_
 have hx:x < 4:=by omega
 match x,hx with
 | 0,_=>nofun;exact vf (b:=b) (l:=["ab"]) (by decide) (by decide +kernel) (p.mono (by simp)) hk (fin _ (by decide) (by decide) (by decide +kernel))
 | 1,_=>nofun;exact vf (b:=b) (l:=["ab","a"]) (by decide) (by decide +kernel) (p.mono (by simp)) hk (fin _ (by decide) (by decide) (by decide +kernel))
 | 2,_=>nofun;exact vf (b:=b) (l:=["ab","a","abc"]) (by decide) (by decide +kernel) (p.mono (by simp)) hk (fin _ (by decide) (by decide) (by decide +kernel))
 | 3,_=>nofun;exact vf (b:=b) (l:=["ab","a","abc","b"]) (by decide) (by decide +kernel) (p.mono (by simp)) hk (fin _ (by decide) (by decide) (by decide +kernel))
 | _+4,h=>omega
end
noncomputable abbrev mD (ms:List Mc):D:=.tup (ms.map Mc.D)
section
variable {K:Nat}{S:Store}{ms:List Mc}{ex:Xp}
theorem zgM {m:Mc}(nd:(ms.map (·.nm)).Nodup) (hm:m∈ms) (hK:1<=K):zb F wh K ex 25 [mD ms,.str m.nm] (λx S'=>x=(m.D,.st)/\S'=S) S:=by
 obtain ⟨K,hk,rfl⟩:=up hK;refine ul ?_;nofun;refine wp_walk (λl ρ S'=>S'=S/\∃ (rest:List Mc) (x2:Slot),l=rest.map Mc.D/\ρ=[.sh (mD ms),.sh (.str m.nm),x2]/\m∈rest/\(rest.map (·.nm)).Nodup) ?_ ?_ _ _ _ ⟨rfl,ms,.no,rfl,rfl,hm,nd⟩
 ·rintro d l ρ S' ⟨rfl,rest,x2,el,rfl,hm,nd⟩;cases rest with
  | nil=>cases el
  | cons m' rest=>
   cases el;rw [ϧ,aY] at nd;unfold Mc.D;nofun;refine yq (λh=>?_) (λh=>?_)
   ·have e:m'.nm=m.nm:=eq_of_beq h;nofun;rcases Ε.mp hm with rfl | z
    ·exact ⟨rfl,rfl⟩
    ·exact absurd (Ϲ.mpr ⟨m,z,e.symm⟩) nd.1
   ·nofun;refine ⟨rfl,rest,_,rfl,rfl,?_,nd.2⟩;rcases Ε.mp hm with rfl | z
    ·have h:(m.nm==m.nm)=false:=h;rw [beq_self_eq_true] at h;cases h
    ·exact z
 ·rintro ρ S' ⟨rfl,rest,x2,el,rfl,hm,nd⟩;cases rest with
  | cons _ _=>cases el
  | nil=>cases hm
theorem zgN {q:Str}{V:Po}(hq:q ∉ ms.map (·.nm)) (h:ex 2 S) (hK:1<=K):zb F wh K ex 25 [mD ms,.str q] V S:=by
 obtain ⟨K,hk,rfl⟩:=up hK;refine ul ?_;nofun;refine wp_walk (λl ρ S'=>S'=S/\∃ (rest:List Mc) (x2:Slot),l=rest.map Mc.D/\ρ=[.sh (mD ms),.sh (.str q),x2]/\∀ m∈rest,m.nm≠q) ?_ ?_ _ _ _ ⟨rfl,ms,.no,rfl,rfl,λm hm e=>hq (Ϲ.mpr ⟨m,hm,e⟩)⟩
 ·rintro d l ρ S' ⟨rfl,rest,x2,el,rfl,hm⟩;cases rest with
  | nil=>cases el
  | cons m' rest=>
   cases el;unfold Mc.D;nofun;refine Jz (beq_eq_false_iff_ne.mpr (hm m' ξ)) ?_;nofun;exact ⟨rfl,rest,_,rfl,rfl,λm h=>hm m (ι _ h)⟩
 ·rintro ρ S' ⟨rfl,rest,x2,el,rfl,hm⟩;nofun;exact h
theorem ziY {q:Str}(hq:q ∉ ms.map (·.nm)) (hK:3<=K):Is K 30 [.lam 43 [mD ms,.str q]] yes S:=by
 obtain ⟨K,rfl⟩:∃ k,K=k+2:=⟨K - 2,by omega⟩
 refine jW ?_;nofun;refine ze9 ?_;nofun;refine zgN hq ?_ (by omega);refine yr rfl ?_;refine zO rfl ?_;nofun;exact ⟨rfl,rfl⟩
theorem zh4 {q:Str}:∀ {ms:List Mc},((ms.map λm=>D.str m.nm).any λy=>eqP y (.str q))=decide (q∈ms.map (·.nm))
 | []=>rfl
 | m::ms=>by
  rw [ϧ,fu,zh4,eqs];by_cases h:q=m.nm
  ·subst h;simp
  ·rw [beq_eq_false_iff_ne.mpr (bT h),lr];simp [h]
theorem K4:∀ ns:List Int,noMs (ns.map D.int)=true
 | []=>rfl
 | _::ns=>K4 ns
end
theorem ziX (r:Rm) (n:Nat):okP (n+5) r.D=true:=by
 have h1:okP (n+4) (drD r.d)=true:=by cases r.d <;> rfl
 have h2:okP (n+4) (flD r.f)=true:=by cases r.f <;> rfl
 have h3:okP (n+4) (ofD r.o)=true:=by cases r.o <;> rfl
 show (true&&(okP (n+4) (drD r.d)&&(okP (n+4) (flD r.f)&&(okP (n+4) (ofD r.o)&&true))))=true
 rw [h1,h2,h3];rfl
theorem zck (n:Nat):∀ rs:List Rm,okPs (n+5) (rs.map Rm.D)=true
 | []=>rfl
 | r::rs=>by
  show (okP (n+5) r.D&&okPs (n+5) (rs.map Rm.D))=true
  rw [ziX,zck n rs];rfl
theorem zgP (m:Mc):neD m.D m.D=some false:=by
 have h:okP 60 m.D=true:=by
  show (true&&(true&&(true&&(okPs 58 (m.rooms.map Rm.D)&&true))))=true
  rw [zck 53];rfl
 show (eqD m.D m.D).map (!·)=_
 unfold eqD;rw [if_pos (ϣ.mpr ⟨h,h⟩),V6 60 _ h];rfl
section
variable {K:Nat}{ns:List Int}{a:Int}{ms:List Mc}{m:Mc}
noncomputable def nmB:List C:=[.ite (.and (.cmp .NotIn ⇑2 (.comp (.one 0) [] (.seq ⇑0) [] (.sub ⇑0 ↥0))) (.one (.not (.fgt (.call 30 [(.lam 43 2 [0,2])]))))) [.ret (.con (.bl false))] []]
theorem zdY {q:Str}{x1 x2:Slot}{Kc:Ko}(hl:ms.length<=6) (hK:3<=K) (kc:Kc (.next [.sh (mD ms),x1,.sh (.str q)]) (Sp ns a)):wpCs (zb F wh K) noX wh nmB [.sh (mD ms),x1,.sh (.str q)] Kc (Sp ns a):=by
 unfold nmB;nofun;refine xg ?_;dsimp only [wpI,zR];nofun;refine wu Mc.D (λm=>.str m.nm) ms [] (by simp;omega) (λm hm Q hQ=>?_) ?_
 ·refine yH rfl ?_;dsimp only [wpF,j7,zR,xu,inn,nT,Α,bM,Ο,cG];unfold Mc.D;nofun;exact hQ
 ·rw [Ϛ];refine zO (a:=!decide (q∈ms.map (·.nm))) ?_ ?_
  ·show (if (isSc (.str q)&&(ms.map λm=>D.str m.nm).all isSc)=true then some ((ms.map λm=>D.str m.nm).any λy=>eqP y (.str q)) else _).map (!·)=_
   rw [if_pos (by rw [fM];exact ϣ.mpr ⟨rfl,ϡ.mpr λ_ _=>rfl⟩),zh4];rfl
  nofun;refine yq (λh=>?_) (λh=>?_)
  ·have h:(!decide (q∈ms.map (·.nm)))=true:=h;have hq:q ∉ ms.map (·.nm):=by simpa using h
   nofun;show zb F wh _ noX 30 [.lam 43 [mD ms,.str q]] _ _
   refine (ziY hq hK).go ?_;refine ⟨?_,?_,true,rfl⟩
   ·nofun;exact kc
   ·show (true&&(true&&(true&&((noMs (ns.map D.int)&&(true&&true))&&true))))=true
    rw [K4];rfl
  ·nofun;exact kc
theorem zd0 (g:Good ms) (hK:4<=K):Is K 36 [mD ms] yes (Sp ns a):=by
 obtain ⟨K,hk,rfl⟩:=up hK;have h6:=g.six;refine ZX ?_;obtain ⟨nb,hnb⟩:∃ nb,nb=nmB:=⟨_,rfl⟩
 have turn:=λ{q:Str}{x1 x2:Slot}{Kc:Ko}=>zdY (q:=q) (x1:=x1) (x2:=x2) (Kc:=Kc) (ns:=ns) (a:=a) h6 hk
 rw [<- hnb] at turn;show wpCs _ _ _ [.forr (.one 1) (.seq ⇑0) [.ite (.cmp .NotEq (.call 25 [⇑0,(.sub ⇑1 ↥0)]) ⇑1) [.ret (.con (.bl false))] [],.ite (.cmp .NotEq (.callk 25 [1,0] [(.sub ⇑1 ↥0),⇑0]) ⇑1) [.ret (.con (.bl false))] [],.forr (.one 2) (.seq (.lst [(.bin .Add (.sub ⇑1 ↥0) ↥"x"),(.slc (.sub ⇑1 ↥0) none (some (.neg ↥1))),↥"q"])) nmB],.ret (.con (.bl true))] _ _ _
 rw [<- hnb];clear hnb;nofun;refine wp_walk (λl ρ S'=>S'=Sp ns a/\∃ (rest:List Mc) (x1 x2:Slot),l=rest.map Mc.D/\ρ=[.sh (mD ms),x1,x2]/\∀ m∈rest,m∈ms) ?_ ?_ _ _ _ ⟨rfl,ms,.no,.no,rfl,rfl,λ_ h=>h⟩
 ·rintro d l ρ S' ⟨rfl,rest,x1,x2,el,rfl,hm⟩;cases rest with
  | nil=>cases el
  | cons m rest=>
   cases el;have h:=hm m ξ;have hwd:=(g.ok m h).wd;unfold wdS at hwd;rw [ε,ε,ε,decide_eq_true_eq,decide_eq_true_eq] at hwd;have hl8:=hwd.1.1.2;have go:∀ {V:Po},V (m.D,.st) (Sp ns a)->zb F wh K noX 25 [mD ms,.str m.nm] V (Sp ns a):=λq=>wp_mono (zgM (ex:=noX) g.nd h (by omega)) (by rintro _ _ ⟨rfl,rfl⟩;exact q)
   nofun;refine go ?_;nofun;refine zO (zgP m) ?_;nofun;refine go ?_;nofun;refine zO (zgP m) ?_;nofun;refine xn (d:=.str (m.nm++"x")) (by show (if fits (m.nm.length+_)=true then _ else _)=_;rw [if_pos (fits_of (by show m.nm.length+1<=_;omega))]) ?_;nofun;refine xn (d:=.str (gw m.nm none (some (-1)))) (by show (if fits m.nm.length=true then _ else _)=_;rw [if_pos (fits_of (by omega))]) ?_;nofun;refine yH rfl ?_;refine turn (x2:=.no) ?_;nofun;refine yH rfl ?_;refine turn (x2:=.no) ?_;nofun;refine yH rfl ?_;refine turn (x2:=.no) ?_;nofun;exact ⟨rfl,rest,_,_,rfl,rfl,λx hx=>hm x (ι _ hx)⟩
 ·rintro ρ S' ⟨rfl,rest,x1,x2,el,rfl,hm⟩;nofun;exact ⟨rfl,rfl⟩
end
noncomputable def pl (m s k:Nat):Nat:=(3+k*s) % m
theorem cop:∀ m∈[13,17,41,157],∀ s,s < m->0 < s->Nat.gcd m s=1:=by decide +kernel
section
variable {m s:Nat}
theorem jY {k:Nat}(hm:0 < m):pl m s k < m:=Nat.mod_lt _ hm
theorem zgj (hm:m∈[13,17,41,157]) (h0:0 < s) (hs:s < m) {i j:Nat}(hij:i < j) (hj:j < m):pl m s i≠pl m s j:=λe=>by
 have e:(3+i*s) % m=(3+j*s) % m:=e;have h:=Nat.sub_mod_eq_zero_of_mod_eq e.symm;have e2:3+j*s - (3+i*s)=(j - i)*s:=by rw [Nat.sub_mul];have:i*s<=j*s:=Nat.mul_le_mul_right s (cg hij);omega
 rw [e2] at h;have d:=Nat.Coprime.dvd_of_dvd_mul_right (cop m hm s hs h0) (Nat.dvd_of_mod_eq_zero h);have:=Nat.le_of_dvd (by omega) d;omega
theorem zgk (hm:m∈[13,17,41,157]) (h0:0 < s) (hs:s < m) {i j:Nat}(hi:i < m) (hj:j < m) (e:pl m s i=pl m s j):i=j:=by
 rcases Nat.lt_trichotomy i j with h | h | h
 ·exact absurd e (zgj hm h0 hs h hj)
 ·exact h
 ·exact absurd e.symm (zgj hm h0 hs h hi)
theorem zdW {n:Nat}{L:Nat->List Nat}(inj:∀ i j,i < m->j < m->pl m s i=pl m s j->i=j) (h:∀ a b,b∈L a->∃ i l,i < l/\l < m/\a=pl m s i/\b=pl m s l):¬ Ring n L:=by
 have w:∀ k a b,Pt L (k+1) a b->∃ i l,i < l/\l < m/\a=pl m s i/\b=pl m s l:=by
  intro k
  induction k with
  | zero=>
   rintro a b ⟨c,hc,e⟩;rw [<- show c=b from e];exact h a c hc
  | succ k ih=>
   rintro a b ⟨c,hc,p⟩;obtain ⟨i,l,h1,h2,h3,h4⟩:=h a c hc;obtain ⟨i',l',g1,g2,g3,g4⟩:=ih c b p;have:=inj l i' h2 (by omega) (h4.symm.trans g3);exact ⟨i,l',by omega,g2,h3,g4⟩
 rintro ⟨x,_,k,p⟩;obtain ⟨i,l,h1,h2,h3,h4⟩:=w k x x p;have:=inj i l (by omega) h2 (h3.symm.trans h4);omega
theorem zf6 {L:Nat->List Nat}{j:Nat}(h:∀ i,i+1 < m->pl m s (i+1)∈L (pl m s i)) (hj:j < m) (hb:pl m s j∈L (pl m s (m - 1))):Ring m L:=by
 have way:∀ d,j+d < m->Pt L d (pl m s j) (pl m s (j+d)):=by
  intro d
  induction d with
  | zero=>intro _;rfl
  | succ d ih=>intro hd;exact (ih (by omega)).snoc (h (j+d) hd)
 have w:=way (m - 1 - j) (by omega);rw [show j+(m - 1 - j)=m - 1 by omega] at w;exact ⟨pl m s j,jY (by omega),_,w.snoc hb⟩
end
structure Lk (n to ot:Nat) (r:Rm):Prop where
 ok:r.ok n 1
 at_:to∈r.lds
 no:∀ x∈r.lds,x=to\/x=ot
noncomputable def lks (to ot:Nat):List Rm:=[⟨.go to,.nx ot,.nx ot⟩,⟨.fork ot to,.no,.nx to⟩,⟨.fail,.sl to,.nx ot⟩,⟨.rnd ot,.nx to,.no⟩,⟨.want ot,.sl to,.shut⟩,⟨.want ot,.no,.nx to⟩,⟨.out,.no,.nx to⟩,⟨.out,.nx to,.no⟩]
theorem lks_ok {n to ot:Nat}(h1:to < n) (h2:ot < n) {r:Rm}(hr:r∈lks to ot):Lk n to ot r:=by
 have one:∀ x∈[to],x=to\/x=ot:=λx hx=>.inl (υ.mp hx)
 have m1:to∈[to]:=υ.mpr rfl;have s1:(0:Int) < 1:=by decide
 unfold lks at hr;simp only [Ε,eX,or_false] at hr;rcases hr with rfl | rfl | rfl | rfl | rfl | rfl | rfl | rfl
 ·exact ⟨⟨h1,h2,h2⟩,m1,one⟩
 ·exact ⟨⟨⟨h2,h1⟩,trivial,h1⟩,ι _ m1,λx hx=>(Ε.mp hx).elim .inr (one x)⟩
 ·exact ⟨⟨trivial,⟨h1,s1⟩,h2⟩,m1,one⟩
 ·exact ⟨⟨h2,h1,trivial⟩,m1,one⟩
 ·exact ⟨⟨h2,⟨h1,s1⟩,trivial⟩,m1,one⟩
 ·exact ⟨⟨h2,trivial,h1⟩,m1,one⟩
 ·exact ⟨⟨s1,trivial,h1⟩,m1,one⟩
 ·exact ⟨⟨s1,h1,trivial⟩,m1,one⟩
section
variable {K b n to ot:Nat}{ns:List Int}{a:Int}{V:Po}
theorem Qg (h1:to < n) (h2:ot < n) (p:zU (b+1) ns a) (hK:3<=K) (q:∀ r a',Lk n to ot r->zU b ns a'->V (r.D,.st) (Sp ns a')):zb F wh K noX 37 [.ref 3,nI to,nI ot] V (Sp ns a):=by
 obtain ⟨K,hk,rfl⟩:=up hK;refine XX ?_;nofun;show zb F wh K noX 29 [.ref 3,.lst ((lks to ot).map Rm.D)] _ _
 refine Vp (b:=b) (by rw [ψ];exact Nat.zero_lt_succ _) p hk λd a' hd p=>?_
 obtain ⟨r,hr,rfl⟩:=Ϲ.mp hd;nofun;exact q r a' (lks_ok h1 h2 hr) p
end
theorem V5 {x:D}:∀ n:Nat,(Α n [x]).flatten=Α n x
 | 0=>rfl
 | n+1=>by rw [aC,b8,V5 n];rfl
theorem Yo {l:List D}{k:Nat}{d:D}(h:k < l.length):putD (.lst l) (nI k) d=some (.lst (l.set k d)):=by
 show (idx l.length (k:Int)).map (λk=>D.lst (l.set k d))=_
 rw [QT (by omega) (by omega),cj];rfl
structure Laid (m s k:Nat) (M:List Rm):Prop where
 len:M.length=m
 ok:∀ r∈M,r.ok m 1
 ln:∀ i,i < k->∃ r,M[pl m s i]?=some r/\Lk m (pl m s (i+1)) (pl m s (m - 1)) r
 oth:∀ a r,M[a]?=some r->(∃ i,i < k/\a=pl m s i)\/r.lds=[]
section
variable {m s k:Nat}{M:List Rm}{r:Rm}
theorem zcf {a:Nat}{x y:Rm}{j:Nat}(h:(M.set j x)[a]?=some y):(a=j/\y=x)\/(a≠j/\M[a]?=some y):=by
 by_cases e:j=a
 ·subst e;have hl:j < M.length:=by
   have:=(χ.mp h).1
   rwa [ϥ] at this
  rw [Ϗ hl] at h;exact .inl ⟨rfl,(ϕ h).symm⟩
 ·rw [Ζ e] at h;exact .inr ⟨λz=>e z.symm,h⟩
theorem Laid.next (h:Laid m s k M) (inj:∀ i j,i < m->j < m->pl m s i=pl m s j->i=j) (hk:k+1 < m) (hr:Lk m (pl m s (k+1)) (pl m s (m - 1)) r):Laid m s (k+1) (M.set (pl m s k) r):=by
 have hp:pl m s k < M.length:=by rw [h.len];exact jY (by omega)
 refine ⟨by rw [ϥ];exact h.len,λx hx=>?_,λi hi=>?_,λa x hx=>?_⟩
 ·rcases f9 hx with z | z
  ·exact h.ok x z
  ·rw [z];exact hr.ok
 ·by_cases e:i=k
  ·subst e;exact ⟨r,Ϗ hp,hr⟩
  ·obtain ⟨x,h1,h2⟩:=h.ln i (by omega);exact ⟨x,by rw [Ζ λz=>e (inj i k (by omega) (by omega) z.symm)];exact h1,h2⟩
 ·rcases zcf hx with ⟨z,_⟩ | ⟨_,z⟩
  ·exact .inl ⟨k,by omega,z⟩
  ·exact (h.oth a x z).imp (λ⟨i,hi,e⟩=>⟨i,by omega,e⟩) id
set_option tactic.hygienic true in
theorem KH (h:Laid m s (m - 1) M) (hm:1 < m) (inj:∀ i j,i < m->j < m->pl m s i=pl m s j->i=j) {n:Nat}:¬ Ring n (LL M):=by
 refine zdW (m:=m) (s:=s) inj λa b hb=>?_
 unfold LL at hb;split at hb
 ·rename_i r e
  rcases h.oth a r e with ⟨i,hi,rfl⟩ | z
  ·obtain ⟨r',e1,e2⟩:=h.ln i hi;rw [e] at e1;cases e1;rcases e2.no b hb with z | z
   ·exact ⟨i,i+1,by omega,by omega,rfl,z⟩
   ·exact ⟨i,m - 1,hi,by omega,rfl,z⟩
  ·rw [z] at hb;cases hb
 ·cases hb
theorem Laid.end_ (h:Laid m s (m - 1) M) (hm:1 < m) (inj:∀ i j,i < m->j < m->pl m s i=pl m s j->i=j) (ho:r.ok m 1) (hr:r.lds=[]):Laid m s (m - 1) (M.set (pl m s (m - 1)) r):=by
 refine ⟨by rw [ϥ];exact h.len,λx hx=>?_,λi hi=>?_,λa x hx=>?_⟩
 ·rcases f9 hx with z | z
  ·exact h.ok x z
  ·rw [z];exact ho
 ·obtain ⟨x,h1,h2⟩:=h.ln i hi;exact ⟨x,by rw [Ζ λz=>by have:=inj (m - 1) i (by omega) (by omega) z;omega];exact h1,h2⟩
 ·rcases zcf hx with ⟨_,z⟩ | ⟨_,z⟩
  ·exact .inr (by rw [z];exact hr)
  ·exact h.oth a x z
theorem WQ (h:Laid m s (m - 1) M) (hm:1 < m) (inj:∀ i j,i < m->j < m->pl m s i=pl m s j->i=j) {j:Nat}(hj:j < m) (hr:pl m s j∈r.lds):Ring m (LL (M.set (pl m s (m - 1)) r)):=by
 have hp:pl m s (m - 1) < M.length:=by rw [h.len];exact jY (by omega)
 refine zf6 (s:=s) (λi hi=>?_) hj ?_
 ·obtain ⟨x,h1,h2⟩:=h.ln i (by omega);unfold LL;rw [Ζ λz=>by have:=inj (m - 1) i (by omega) (by omega) z;omega,h1];exact h2.at_
 ·unfold LL;rw [Ϗ hp];exact hr
theorem zjv (hm:0 < m):Laid m s 0 (Α m ⟨.give,.nx 0,.nx 0⟩):=⟨eQ,λr hr=>by rw [(List.mem_replicate.mp hr).2];exact ⟨trivial,hm,hm⟩,λi hi=>absurd hi (m5 _),λa r h=>.inr (by
 rw [bF] at h;split at h
 ·cases h;rfl
 ·cases h)⟩
end
noncomputable def chM (M:List Rm):List Mc:=[⟨"b",0,0,[⟨.give,.no,.no⟩]⟩,⟨"ring",0,1,M⟩]
theorem zeI {m:Nat}{M:List Rm}(hl:M.length=m) (h1:1<=m) (h2:m<=160) (ok:∀ r∈M,r.ok m 1):Good (chM M):=by
 refine ⟨show 1<=2 by decide,show 2<=6 by decide,show (["b","ring"]:List Str).Nodup by decide +kernel,λx hx=>?_⟩;rcases Ε.mp hx with rfl | hx
 ·exact ⟨by decide +kernel,by decide,by decide,by decide,by decide,by decide,by decide,λr hr=>by rw [υ.mp hr];exact ⟨trivial,trivial,trivial⟩⟩
 ·rw [υ.mp hx];exact ⟨show wdS "ring"=true by decide +kernel,show (0:Int)<=0 by decide,show (0:Int)<=3 by decide,show (0:Int)<=1 by decide,show (1:Int)<=32 by decide,by show 1<=M.length;omega,by show M.length<=160;omega,λr hr=>by show r.ok M.length 1;rw [hl];exact ok r hr⟩
theorem zhU {M:List Rm}{c:Bool}(h:c=true ↔ Ring M.length (LL M)):((chM M).all λm=>!rgB m.rooms)=!c:=by
 have e1:rgB [⟨.give,.no,.no⟩]=false:=by
  cases q:rgB [⟨.give,.no,.no⟩] with
  | false=>rfl
  | true=>
   obtain ⟨x,hx,k,p⟩:=qX.mp q;obtain ⟨c,hc,_⟩:=p;obtain rfl:x=0:=by have:x < 1:=hx;omega
   cases hc
 have e2:rgB M=c:=cR.mpr (qX.trans h.symm);show (!rgB [⟨.give,.no,.no⟩]&&(!rgB M&&true))=_
 rw [e1,e2];cases c <;> rfl
section
variable {K b m s:Nat}{ns:List Int}{a:Int}{V:Po}
noncomputable abbrev pL (m s:Nat):D:=.lst ((ό m).map λk=>nI (pl m s k))
theorem zbd {k:Nat}(hk:k < m):subD (pL m s) (nI k)=some (nI (pl m s k)):=by refine Vv (by omega) ?_;rw [cj,Ρ,pC hk];rfl
theorem Kp (hm:0 < m):subD (pL m s) (.int (-1))=some (nI (pl m s (m - 1))):=by
 show (idx ((ό m).map λk=>nI (pl m s k)).length (-1)).bind (λk=>((ό m).map λk=>nI (pl m s k))[k]?)=_
 have e:idx ((ό m).map λk=>nI (pl m s k)).length (-1)=some (m - 1):=by
  rw [ψ,ϭ];show (if (0:Int)<=-1 then _ else (if -(m:Int)<=-1 then some ((m:Int)+-1).toNat else none))=_
  rw [if_neg (by decide),if_pos (by omega)]
  congr 1
  omega
 rw [e];show ((ό m).map λk=>nI (pl m s k))[m - 1]?=_
 rw [Ρ,pC (by omega)];rfl
noncomputable abbrev chR (m s:Nat) (c:Bool) (M:List Rm) (x6 x7:Slot):List Slot:=[.sh (.ref 3),.sh (.bl c),.sh (nI m),.sh (nI s),.ow (pL m s),.ow (.lst (M.map Rm.D)),x6,x7]
noncomputable def chE:List C:=yf.drop 5
theorem zhT {M:List Rm}{c:Bool}{x6 x7:Slot}(hm:1 < m) (h160:m<=160) (inj:∀ i j,i < m->j < m->pl m s i=pl m s j->i=j) (h:Laid m s (m - 1) M) (p:zU (b+2) ns a) (hK:3<=K) (q:∀ M a',Good (chM M)->((chM M).all λm=>!rgB m.rooms)=(!c)->zU b ns a'->V (mD (chM M),.st) (Sp ns a')):
  wpCs (zb F wh K) noX wh chE (chR m s c M x6 x7) (told V) (Sp ns a):=by
 have hlast:=Kp (m:=m) (s:=s) (by omega);have hpl:pl m s (m - 1) < m:=jY (by omega);have fin:∀ (M':List Rm) (a':Int),M'.length=m->(∀ r∈M',r.ok m 1)->(c=true ↔ Ring m (LL M'))->zU b ns a'->V (mD (chM M'),.st) (Sp ns a'):=λM' a' hl ok hc p=>q M' a' (zeI hl (by omega) h160 ok) (zhU (by rw [hl];exact hc)) p
 have put:∀ {r:Rm},putD (.lst (M.map Rm.D)) (nI (pl m s (m - 1))) r.D=some (.lst ((M.set (pl m s (m - 1)) r).map Rm.D)):=λ{r}=>by rw [Yo (by rw [ψ,h.len];exact hpl),List.map_set]
 dsimp only [chE,yf,iQ];cases c with
 | true=>
  nofun;refine yc (b:=b+1) (by omega) p (by omega) λj a1 hj p=>?_
  have hj:j < m:=by omega
  nofun;refine zO (zbd hj) ?_;nofun;refine zO hlast ?_;nofun;refine Qg (b:=b) (n:=m) (jY (by omega)) hpl p hK λr a2 lk p=>?_
  nofun;refine zO hlast ?_;nofun;refine zO put ?_;nofun;refine fin _ a2 (by rw [ϥ];exact h.len) (λx hx=>?_) ⟨λ_=>WQ h hm inj hj lk.at_,λ_=>rfl⟩ p;rcases f9 hx with z | z
  ·exact h.ok x z
  ·rw [z];exact lk.ok
 | false=>
  nofun;refine yc (b:=b+1) (by decide) p (by omega) λj a1 hj p=>?_
  nofun;refine yq (λhz=>?_) (λhz=>?_)
  ·have h0:=zbd (m:=m) (s:=s) (k:=0) (by omega);nofun;refine zO h0 ?_;nofun;refine zO h0 ?_;nofun;refine zO hlast ?_;nofun;refine zO (put (r:=⟨.rnd (pl m s 0),.no,.nx (pl m s 0)⟩)) ?_;nofun;have e:=h.end_ hm inj (r:=⟨.rnd (pl m s 0),.no,.nx (pl m s 0)⟩) ⟨jY (by omega),trivial,jY (by omega)⟩ rfl;exact fin _ a1 e.len e.ok ⟨λz=>(nomatch z),λz=>absurd z (KH e hm inj)⟩ (p.mono (by omega))
  ·nofun;exact fin M a1 h.len h.ok ⟨λz=>(nomatch z),λz=>absurd z (KH h hm inj)⟩ (p.mono (by omega))
theorem zdC {S:Store}{x0 x1:Slot}{zm zs zk:Int}{Q:Option D->Store->Prop}(h0:0 < zm) (h1:0<=zk) (h2:zk < 1000) (hQ:Q (some (.int ((3+zk*zs) % zm))) S):Xk (zb F wh K noX) [x0,x1,.sh (.int zm),.sh (.int zs),.no,.no,.no,.no] (.one 0) [2,3] [] (.bin .Mod (.bin .Add ↥3 (.bin .Mult ⇑0 ⇑2)) ⇑1) (.int zk) Q S:=by refine yH rfl ?_;dsimp only [wpF,zhF,zR,xu,inn,nT,Α,bM,Ο,cG,aq,Ϛ,aO,aQ,eU];nofun;refine xn (YB (uK h1 (by omega))) ?_;nofun;refine xn (Qa h0) ?_;nofun;exact hQ
theorem zdD {S:Store}{x0 x1:Slot}(hm:0 < m) (h160:m<=160) (q:V (pL m s,.fr) S):wpE (zb F wh K noX) [x0,x1,.sh (nI m),.sh (nI s),.no,.no,.no,.no] (.comp (.one 0) [2,3] (.rng none ⇑2) [] (.bin .Mod (.bin .Add ↥3 (.bin .Mult ⇑0 ⇑2)) ⇑1)) V S:=by
 refine xg ?_;dsimp only [wpI,zR];nofun;refine yr ?_ ?_
 ·rw [ε,decide_eq_true_eq];exact ⟨fits_of (by omega),by omega⟩
 have er:zZ 0 (m:Int)=(ό m).map nI:=by unfold zZ;simp
 rw [er];refine wu nI (λk=>nI (pl m s k)) (ό m) [] (by rw [ϭ];show 0+m<=1000;omega) (λk hk Q hQ=>?_) q;have hk:=Ϝ.mp hk;have k0:(0:Int) < (m:Int):=by omega
 have k1:(0:Int)<=(k:Int):=by omega
 have k2:(k:Int) < 1000:=by omega
 have e:(3+(k:Int)*(s:Int)) % (m:Int)=((pl m s k:Nat):Int):=by unfold pl;rw [Int.natCast_emod,Int.natCast_add,Int.natCast_mul];rfl
 have hQ:Q (some (.int ((3+(k:Int)*(s:Int)) % (m:Int)))) S:=by rw [e];exact hQ
 with_reducible exact zdC k0 k1 k2 hQ
theorem zd2 {d:D}{z:Int}(h0:0<=z) (h1:z < 1000):opD .Mult (.lst [d]) (.int z)=some (.lst (Α z.toNat d),true):=by
 show (if (decide (0<=z)&&decide (z < 2 ^ 20)&&fits (1*z.toNat))=true then some (D.lst (Α z.toNat [d]).flatten,true) else none)=_
 rw [if_pos (by rw [ε,ε,decide_eq_true_eq,decide_eq_true_eq];exact ⟨⟨h0,by omega⟩,fits_of (by omega)⟩),V5]
theorem zbU {c:Bool}(p:zU (b+170) ns a) (hK:5<=K) (q:∀ M a',Good (chM M)->((chM M).all λm=>!rgB m.rooms)=(!c)->zU b ns a'->V (mD (chM M),.st) (Sp ns a')):zb F wh K noX 38 [.ref 3,.bl c] V (Sp ns a):=by
 obtain ⟨K,hk,rfl⟩:=up hK;refine ZZ ?_;obtain ⟨tl,htl⟩:∃ tl,tl=chE:=⟨_,rfl⟩
 have fin:∀ {m s:Nat}{M:List Rm}{x6 x7:Slot}{a:Int},1 < m->m<=160->(∀ i j,i < m->j < m->pl m s i=pl m s j->i=j)->Laid m s (m - 1) M->zU (b+2) ns a->wpCs (zb F wh K) noX wh chE (chR m s c M x6 x7) (told V) (Sp ns a):=λhm h160 inj h p=>zhT hm h160 inj h p (by omega) q
 rw [<- htl] at fin;show wpCs _ _ _ (yf.take 5++chE) _ _ _
 rw [<- htl];clear htl;dsimp only [yf,mz,aq,Ϛ];nofun;refine Vp (b:=b+169) (by simp) p (by omega) λd a1 hd p=>?_
 have hd:∃ m:Nat,d=nI m/\m∈[13,17,41,157]:=by
  simp only [Ε,eX,or_false] at hd;rcases hd with rfl | rfl | rfl | rfl | rfl | rfl | rfl | rfl
  ·exact ⟨13,rfl,by decide⟩
  ·exact ⟨13,rfl,by decide⟩
  ·exact ⟨17,rfl,by decide⟩
  ·exact ⟨17,rfl,by decide⟩
  ·exact ⟨41,rfl,by decide⟩
  ·exact ⟨41,rfl,by decide⟩
  ·exact ⟨41,rfl,by decide⟩
  ·exact ⟨157,rfl,by decide⟩
 obtain ⟨m,rfl,hm⟩:=hd;have hm2:13<=m/\m<=157:=by simp only [Ε,eX,or_false] at hm;omega
 nofun;refine yc (b:=b+168) (by omega) p (by omega) λx a2 hx p=>?_
 obtain ⟨s,hs⟩:∃ s,s=x+1:=⟨_,rfl⟩
 have e1:(1:Int)+(x:Int)=(s:Int):=by omega
 have hs0:0 < s:=by omega
 have hs1:s < m:=by omega
 have inj:=λi j hi hj=>zgk hm hs0 hs1 (i:=i) (j:=j) hi hj
 nofun;rw [e1];refine zdD (by omega) (by omega) ?_;unfold nI;generalize hz:(m:Int)=zm;nofun;refine UG (zd2 (by omega) (by omega)) ?_;subst hz;rw [cj];nofun;refine yr ?_ ?_
 ·rw [ε,decide_eq_true_eq];exact ⟨fits_of (by omega),by omega⟩
 have er2:zZ 0 ((m:Int) - 1)=(ό (m - 1)).map nI:=by unfold zZ;rw [show ((m:Int) - 1 - 0).toNat=m - 1 by omega];simp
 rw [er2];refine wp_walk (λl ρ S'=>∃ (k:Nat) (M:List Rm) (a3:Int) (x6:Slot),k<=m - 1/\l=((ό (m - 1)).drop k).map nI/\ρ=chR m s c M x6 .no/\Laid m s k M/\zU (b+2+(m - 1 - k)) ns a3/\S'=Sp ns a3) ?_ ?_ _ _ _ ⟨0,Α m ⟨.give,.nx 0,.nx 0⟩,a2,.no,ϴ _,rfl,by rw [chR,pI];rfl,zjv (by omega),p.mono (by omega),rfl⟩
 ·rintro d l ρ S' ⟨k,M,a3,x6,hk1,el,rfl,h,p,rfl⟩;by_cases e:k < m - 1
  ·rw [dH (by rw [ϭ];exact e),ϧ,pN] at el;cases el;have h1:=zbd (m:=m) (s:=s) (k:=k) (by omega);have h2:=zbd (m:=m) (s:=s) (k:=k+1) (by omega);rw [show nI (k+1)=.int ((k:Int)+1) from rfl] at h2;nofun;refine zO h2 ?_;nofun;refine zO (Kp (by omega)) ?_;nofun;refine Qg (b:=b+2+(m - 1 - (k+1))) (n:=m) (jY (by omega)) (jY (by omega)) (p.mono (by omega)) (by omega) λr a4 lk p=>?_
   nofun;refine zO h1 ?_;nofun;refine zO (Yo (by rw [ψ,h.len];exact jY (by omega))) ?_;nofun;exact ⟨k+1,M.set (pl m s k) r,a4,_,e,rfl,by rw [chR,List.map_set],h.next inj (by omega) lk,p,rfl⟩
  ·rw [oN (by rw [ϭ];omega)] at el;cases el
 ·rintro ρ S' ⟨k,M,a3,x6,hk1,el,rfl,h,p,rfl⟩;have e:k=m - 1:=by
   refine ao λn=>?_
   have:=congrArg List.length el;rw [fD,ψ,dB,ϭ] at this;omega
  subst e;exact fin (by omega) (by omega) inj h (p.mono (by omega))
end
theorem ZD {α:Type}{s:D->(Option D->Store->Prop)->Store->Prop}{V:List D->Store->Prop}{S:Store}(g h:α->D) (pr:α->Bool):∀ (xs:List α) (acc:List D),acc.length+xs.length<=1000->(∀ x∈xs,∀ Q:Option D->Store->Prop,(pr x=true->Q (some (h x)) S)->(pr x=false->Q none S)->s (g x) Q S)->V (acc++(xs.filter pr).map h) S->xj s (xs.map g) acc V S
 | [],acc,_,_,v=>by rw [List.filter_nil,gW,Ο] at v;exact v
 | x::xs,acc,hl,q,v=>by
  have hl:acc.length+(xs.length+1)<=1000:=hl;rw [gK] at v;refine q x ξ _ (λe=>?_) (λe=>?_)
  ·rw [if_pos e] at v;refine yr (fits_of (by omega)) (ZD g h pr xs (acc++[h x]) (by simp;omega) (λy hy=>q y (ι _ hy)) ?_);rw [gn];exact v
  ·rw [if_neg (by rw [e];exact Μ)] at v;exact ZD g h pr xs acc (by omega) (λy hy=>q y (ι _ hy)) v
theorem zh6 (l:List Bool):biD .any [.lst (l.map D.bl)]=some (.bl (l.any id),false):=by
 show ((xK (l.map D.bl)).map λbs=>D.bl (bs.any id)).map (λd=>(d,false))=_
 rw [jL];rfl
theorem KR:∀ l:List Mc,okPs 59 (l.map λm=>.str m.nm)=true
 | []=>rfl
 | _::l=>KR l
theorem za2 (ms:List Mc):eqD (.lst ((ms.filter λm=>rgB m.rooms).map λm=>.str m.nm)) (.lst [])=some (ms.all λm=>!rgB m.rooms):=by
 unfold eqD;rw [if_pos (ϣ.mpr ⟨show okP 60 (D.lst _)=true from KR _,show okP 60 (D.lst [])=true from rfl⟩),eql]
 congr 1
 induction ms with
 | nil=>rfl
 | cons m ms ih=>
  rw [gK,fB];cases rgB m.rooms with
  | true=>rfl
  | false=>exact ih
section
variable {K:Nat}{T S:Store}{ms:List Mc}{V:Po}
theorem zdm {x0 x1 x2 x4 x5 x6:Slot}(hd:Drawn ms) (hl:ms.length<=6) (hK:2<=K) (q:V (.lst ((ms.filter λm=>rgB m.rooms).map λm=>.str m.nm),.fr) S):wpE (zb F wh K noX) [x0,x1,x2,.sh (mD ms),x4,x5,x6] (.comp (.one 0) [] (.seq ⇑3) [(.bi .any [(.comp (.one 0) [0] (.rng none (.bi .len [(.sub ⇑0 ↥3)])) [] (.call 34 [(.sub ⇑1 ↥3),⇑0]))])] (.sub ⇑0 ↥0)) V S:=by
 refine xg ?_;dsimp only [wpI,zR];nofun;refine ZD Mc.D (λm=>.str m.nm) (λm=>rgB m.rooms) ms [] (by simp;omega) (λm hm Q q1 q2=>?_) (by rw [Ϛ];exact q);have ok:=(hd.ok m hm).ok;have few:=hd.few m hm;unfold Mc.D;refine yH rfl ?_;dsimp only [wpF,e_bi,j7,zR,xu,inn,nT,Α,bM,Ο,cG];refine xg ?_;dsimp only [wpI,e_bi,j7,zR,xu];nofun;refine yr ?_ ?_
 ·rw [ε,decide_eq_true_eq];exact ⟨fits_of (by rw [ψ];omega),by omega⟩
 have er:zZ 0 ((m.rooms.map Rm.D).length:Int)=(ό m.rooms.length).map nI:=by unfold zZ;rw [ψ];simp
 rw [er];refine wu nI (λx=>.bl (cbB m.rooms x)) (ό m.rooms.length) [] (by rw [ϭ];show 0+_<=_;omega) (λx hx R hR=>?_) ?_
 ·refine yH rfl ?_;dsimp only [wpF,jH,wpEs,j7,zR,xu,inn,nT,Α,bM,Ο,cG,aq,Ϛ,aO,aQ,eU];nofun;refine (zeQ ok few (Ϝ.mp hx) hK).go ?_;nofun;exact hR
 ·have e:=zh6 ((ό m.rooms.length).map (cbB m.rooms));rw [fL,List.any_map] at e;rw [Ϛ];refine xn (d:=.bl (rgB m.rooms)) (by rw [<- zjX ok];exact e) ?_;nofun;refine yq (λh=>?_) (λh=>?_)
  ·nofun;exact q1 h
  ·exact q2 h
noncomputable def lwB:List C:=[.set (.one 3) (.call 35 [⇑1]),.set (.one 4) (.comp (.one 0) [] (.seq ⇑3) [(.bi .any [(.comp (.one 0) [0] (.rng none (.bi .len [(.sub ⇑0 ↥3)])) [] (.call 34 [(.sub ⇑1 ↥3),⇑0]))])] (.sub ⇑0 ↥0)),.set (.one 5) (.call 10 [⇑3]),.ite (.or (.not (.bi (.isinst .bool) [⇑5])) (.one (.cmp .NotEq ⇑5 (.cmp .Eq ⇑4 (.lst []))))) [.ret (.con (.bl false))] [],.ite (.and ⇑5 (.one (.not (.call 36 [⇑3])))) [.ret (.con (.bl false))] [],.ite (.cmp .Eq (.bin .Mod ⇑2 ↥8) ↥0) [.set (.one 6) (.cmp .Eq (.call 28 [⇑1,↥2]) ↥1),.set (.one 5) (.call 10 [(.call 38 [⇑1,⇑6])]),.ite (.or (.not (.bi (.isinst .bool) [⇑5])) (.one (.cmp .Eq ⇑5 ⇑6))) [.ret (.con (.bl false))] []] []]
theorem zbx {ns:List Int}{a:Int}{j:Int}{b:Nat}{cs:List Int}{x2 x3 x4 x5 x6:Slot}{Kc:Ko}(p:zU (b+600) ns a) (hK:14<=K) (kc:∀ a' x3 x4 x5 x6,zU b ns a'->Kc (.next [.sh (.scr cs),.sh (.ref 3),.sh (.int j),x3,x4,x5,x6]) (Sp ns a')):
  wpCs (zb F wh K) noX wh lwB [.sh (.scr cs),.sh (.ref 3),.sh (.int j),x3,x4,x5,x6] Kc (Sp ns a):=by
 unfold lwB;nofun;refine zc5 (b:=b+200) p (by omega) λms a1 g d p=>?_
 have h6:=g.six;nofun;refine zdm d h6 (by omega) ?_;nofun;refine (qg g (T:=[pK ns a1]) (by omega)).go ?_;nofun;refine zO (za2 ms) ?_;nofun;generalize (ms.all λm=>!rgB m.rooms)=f;have fin:∀ {x3 x4 x5 x6:Slot},wpCs (zb F wh K) noX wh (lwB.drop 5) [.sh (.scr cs),.sh (.ref 3),.sh (.int j),x3,x4,x5,x6] Kc (Sp ns a1):=λ{x3 x4 x5 x6}=>by
  dsimp only [lwB,iQ];nofun;refine yq (λ_=>?_) (λ_=>?_)
  ·nofun;refine yc (b:=b+199) (by decide) p (by omega) λx a2 hx p=>?_
   nofun;generalize eqP (zE (Sp ns a2) (nI x)) (zE (Sp ns a2) (.int 1))=c;refine zbU (b:=b) (p.mono (by omega)) (by omega) λM a3 g e p=>?_
   nofun;refine (qg g (T:=[pK ns a3]) (by omega)).go ?_;rw [e];nofun;refine Jz (by cases c <;> rfl) ?_;nofun;exact kc a3 _ _ _ _ p
  ·nofun;exact kc a1 _ _ _ _ (p.mono (by omega))
 cases f with
 | true=>
  nofun;refine (zd0 g (by omega)).go ?_;nofun;exact fin
 | false=>
  nofun;exact fin
theorem law_wp (cs:List Int) (hc:cs.length<=63):ue F wh 60 39 [.scr cs] (λx _=>x.1=.bl true) (EV.tabS 3):=by
 refine zib ?_;nofun;refine wp_mono (zgh cs hc (by decide) _) ?_;rintro _ _ ⟨rfl,ns,rfl,h0,h4⟩;nofun;obtain ⟨z,hz,z20⟩:∃ z:Nat,(4+if (cs.length:Int) < 16 then (cs.length:Int) else 16)=(z:Int)/\z<=20:=by
  split
  ·exact ⟨4+cs.length,by omega,by omega⟩
  ·exact ⟨20,by omega,by omega⟩
 rw [hz];refine yr ?_ ?_
 ·rw [ε,decide_eq_true_eq];exact ⟨fits_of (by omega),by omega⟩
 have rl:(zZ 0 (z:Int)).length=z:=by unfold zZ;simp
 refine wp_walk (λl ρ S'=>∃ (a:Int) (x2 x3 x4 x5 x6:Slot),S'=Sp ns a/\zU (600*l.length) ns a/\ρ=[.sh (.scr cs),.sh (.ref 3),x2,x3,x4,x5,x6]/\∀ d∈l,∃ j:Int,d=.int j) ?_ ?_ _ _ _ ⟨0,.no,.no,.no,.no,.no,rfl,⟨by decide,by rw [rl];omega,h0,h4⟩,rfl,λd hd=>(J1 hd).elim λj q=>⟨j,q.1⟩⟩
 ·rintro d l ρ S' ⟨a,x2,x3,x4,x5,x6,rfl,p,rfl,hd⟩;obtain ⟨j,rfl⟩:=hd d ξ;have p:zU (600*(l.length+1)) ns a:=p;refine yH rfl ?_;exact zbx (K:=59) (b:=600*l.length) (x2:=.no) (p.mono (by omega)) (by decide) λa' y3 y4 y5 y6 p=>⟨a',_,_,_,_,_,rfl,p,rfl,λd h=>hd d (ι _ h)⟩
 ·rintro ρ S' ⟨a,x2,x3,x4,x5,x6,rfl,p,rfl,hd⟩;nofun;rfl
theorem run_law:∀ ns:List Int,ns.length<=63->ue (xq rs B.lams) wh 60 39 [.scr ns] (λx _=>x.1=.bl true) (EV.tabS B.tabs.length):=law_wp
end
end Q20
open PySem PySem.W PyProof.Rows
theorem PySem.Challenge.cw_errandroom_k20_rings_and_names_holds : PySem.Challenge.rw_errandroom_k20_rings_and_names.Holds := by
 exact EV.zhr (q := Q20.yJ) (loose := [("ROW_PARTS" : Str), ("DOOR_PARTS" : Str)]) (d := Q20.ux) (B := Q20.B) (rs := Q20.rs) (f := 39) (r := Q20.zdp) (y := "_law_script") (wh := Q20.wh) 4000 400 Q20.zjB Q20.zeb Q20.zjH Q20.zjG Q20.zjF Q20.zjC Q20.zjD Q20.zjA rfl Q20.zjE rfl rfl (by kernel_rfl) rfl Q20.tabs Q20.run_law
