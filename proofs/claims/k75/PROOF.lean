import PyProof.Rows.All
import Wide.All
import OpenK.AllK
import Wide.FinOn
import Lean
import PyProof.EqAt
import PyProof.EqKinds
import PyProof.TupleCall
import PyProof.EnumMake
import PyProof.EnumIter
import PyProof.EnumFor
import PyProof.EnumStmt
import PyProof.WalksEnum
import PyProof.ZipIter
import KE.KRevIter
import PyProof.Rows.Range3
import PyProof.Rows.SortShell
import KE.KTops
import PyProof.Rows.SortRuns
import PyProof.Rows.SortKey
import KE.KSortTup
import PyProof.PureInt
import KE.KDictSum
import PyProof.Rows.SetFrom
import PyProof.SetKind
import PyProof.DictKinds
import PyProof.WalksMore
import PyProof.FactsAll.set_1
import PyProof.CollectWalk
import PyProof.CollectIter
import KE.KSortAsk
import PyProof.TupleKey
import PyProof.DictKeyH
import PyProof.ReprRoads
import PyProof.ListMulRoad
import PyProof.NeKinds
import KE.KEqDict
import KE.KIntText
import PyProof.SumWalkG
import PyProof.Rows.SumGenD
import PyProof.CompMap
import PyProof.RaisesMany
import PyProof.RulesAs
import PyProof.ExcClass2
import PyProof.ExcArgsOwn
import PyProof.IsiBase
import PyProof.ExcAttrAll.ValueError
import PyProof.ExcBaseAll.ValueError
import OpenK.KDescr
import OpenK.KOwn
import KE.KIsAll
import PyProof.NsDelKeeps
import KE.KTryMore
import PyProof.TupleOfGen
import PySem.Challenge.RW_errandroom_k75_halls_as_texts
set_option Elab.async false
set_option linter.all false
set_option maxRecDepth 100000
set_option maxHeartbeats 0
set_option tactic.hygienic false
set_option backward.match.sparseCases false
set_option genSizeOfSpec false
set_option bootstrap.genMatcherCode false
set_option compiler.extract_closed false
open Array renaming length_toList -> Ξ, getElem?_eq_getElem -> ϛ, getElem?_toList -> ϧ, getElem_toList -> aV, getElem?_eq_some_iff -> dm, getD -> gk, toArray_toList -> iU, perm_iff_toList_perm -> nU, getElem?_eq_none -> pI, forIn_toList -> rB, append_assoc -> rC, toList_zip -> rP, toList_map -> rQ
open Bool renaming and_eq_true -> ε, false_ne_true -> Ω, and_eq_true_iff -> ϱ, false_eq_true -> bB, false_and -> cF, and_false -> cG, not_eq_true' -> c7, eq_false_iff -> gJ, true_and -> gO, not_false -> iY, and_true -> lL, or_eq_true -> nC, eq_iff_iff -> nD, or_false -> ph
open Classical renaming choose -> cg, propDecidable -> gB, choose_spec -> gY, byContradiction -> mZ
open False renaming elim -> ϩ
open ForInStep renaming yield -> aM, done -> aX
open Int renaming toNat_natCast -> bf, emod_lt_of_pos -> bC, emod_nonneg -> b8, natCast_nonneg -> mq
open List renaming length_map -> ζ, length_cons -> η, mem_cons_self -> μ, mem_cons_of_mem -> ν, length_append -> π, length_nil -> ς, mem_cons -> υ, getElem?_eq_getElem -> ψ, size_toArray -> ω, getElem?_eq_some_iff -> Β, mem_singleton -> Η, map_cons -> Κ, getElem?_set_ne -> Μ, getElem?_map -> Ρ, mem_map -> Φ, contains_iff_mem -> ό, append_nil -> ύ, mem_append_right -> ώ, all_eq_true -> ϒ, getElem?_append_left -> ϕ, not_mem_nil -> ϗ, map_append -> Ϝ, range -> ϝ, cons -> Ϡ, getElem?_set_self -> ϡ, mem_of_getElem? -> ϣ, nil_append -> Ϥ, getElem?_append_right -> Ϧ, map_map -> Ϭ, lookup_cons -> ϯ, replicate -> Ϸ, append_assoc -> ak, zip_cons_cons -> aC, mem_append -> aD, length_set -> aQ, mem_range -> aY, getD_eq_getElem?_getD -> aZ, getElem?_eq_none -> bu, any_eq_true -> bz, map_nil -> bL, Perm -> bR, nodup_cons -> b7, filterMap_cons -> cA, length_take -> cC, getElem_mem -> cD, take_of_length_le -> cL, all_map -> cM, Pairwise -> cT, length_range -> cY, mem_append_left -> du, length_drop -> dC, pairwise_iff_getElem -> dG, mem_map_of_mem -> dJ, find?_cons -> dM, lookup -> dY, length_eq_zero_iff -> dZ, getElem?_replicate -> d8, pairwise_map -> eQ, sum_cons -> fJ, of_mem_zip -> fO, length_zip -> fP, getElem_of_mem -> fU, pairwise_cons -> gm, filterMap_map -> gn, nodup_append -> gH, sum_nil -> iw, length_replicate -> iJ, map_congr_left -> lC, any_cons -> lG, all_cons -> lH, map -> mF, getElem?_inj -> mG, flatten_cons -> mH, ext_getElem? -> mJ, map_fst_zip -> mX, mem_filter -> nu, foldl_cons -> nA, mem_take_iff_getElem -> oN, drop_eq_getElem_cons -> oO, set_eq_of_length_le -> o9, pairwise_singleton -> pG, getElem?_cons_zero -> pH, range_succ_eq_map -> pK, perm_append_comm -> pQ, mem_iff_getElem? -> pR, getElem?_toArray -> pU, mem_iff_getElem -> pZ, length_eraseIdx -> p6, drop_eq_nil_iff -> p7, zip_nil_right -> rG, mem_filterMap -> rH, map_filterMap -> rJ, take_sublist -> rN, mapM_toArray -> rO
open List.Pairwise renaming nil -> fL, sublist -> mY
open List.Perm renaming refl -> bx, swap -> ie
open List.cons renaming inj -> Ψ
open Nat renaming le_refl -> χ, beq -> Υ, ne_of_lt -> ϋ, lt_of_lt_of_le -> ϔ, le_trans -> Ϩ, zero_le -> aW, lt_irrefl -> bQ, lt_succ_self -> dD, lt_succ_of_lt -> eY, le_succ -> fM, lt_or_ge -> gf, le_of_lt -> gh, le_of_eq -> gj, ne_of_gt -> iI, le_of_ble_eq_true -> iR, succ -> lA, add_assoc -> lN, mod_lt -> mj, sub_self -> mR, le_of_not_lt -> m8, zero_add -> pP
open Nat.succ renaming inj -> dO
open Ne renaming symm -> dH
open Option renaming map_eq_some_iff -> Α, bind_eq_some_iff -> Ο, some -> Ϟ, map_some -> g8, isSome_map -> lM, isSome_iff_exists -> n8, getD_none -> rE, bind_some -> rF
open Option.some renaming inj -> ϐ, injEq -> o8
open Prod.mk renaming inj -> iH
open PyProof.Rows renaming arrOf -> ϊ, wpS_bind -> Ϣ, slot_tuple_getitem -> ϸ, wpS_pure -> aR, SortSt -> aU, Keyed -> bA, seqObj -> bH, KeyOrd -> bN, callWith_type1 -> cI, reverseSlice' -> fX, IntsAre -> fY, SortKind -> gb, wpS_forRange -> gC, AllBare -> iz, listUpdate_at -> iD, sortedHeap -> lg, IsTup -> lD, envOfC -> m6, wpS_get -> nG, listItems_at -> nQ, pendingOf -> oF, mirror_perm -> oW, wpS_modify -> pM, size_push' -> pO, subscriptTail_builtinR -> rK
open PyProof.Rows.F renaming plain_set_update_loop -> cQ, entry_set_update_loop -> gM
open PyProof.Rows.KeyOrd renaming kle_refl -> bU, kle_trans -> dw, kle_of_klt -> d9, kle_antisymm -> pW
open PySem renaming wpAny_bind -> γ, Value -> δ, wpAny_pure -> ι, Shared -> ξ, SetTable -> ο, wpAny -> Δ, model -> Λ, Builtin -> Τ, Program -> Χ, compareOp -> Ϗ, mainGlobals -> ϑ, Around -> ϖ, Expr -> ϙ, World -> Ϛ, starEach -> ϟ, cLine -> ϥ, wpAny_newObj_type -> ϫ, sizeLine_eq -> ϵ, wpAny_setField -> Ϻ, NameKind -> aj, wpAny_holding -> ao, Spec -> aB, keywordEach -> aG, Stmt -> aH, wpAny_call_entry -> aJ, wpAny_truthy_bool -> aO, wpAny_setState_of -> aP, Keyword -> bD, wpAny_mono -> bG, wpAny_typeOf -> bI, mem_of_lookup -> bK, assignEach -> bM, FuncData -> bT, sysModules -> bV, binaryOp -> bW, backToKw -> bY, Operator -> bZ, wpAny_of_eq -> cj, foldedSetIterable -> cu, rawInt -> cH, wpAny_callSpecial?_slot -> cN, wpAny_typeNameOfWhole_keyiter -> cU, bootBuiltins -> cX, wpAny_passesOwn -> di, swappedStores -> dq, backTo -> dR, swapsWithSole -> eE, attributeBase -> eF, Scope -> eG, codeAny_builtin -> eO, wpAny_Call_Name_kw -> eV, swapsWith -> eZ, intKind -> fu, codeAny_mono -> fC, Paired -> fH, DictEntry -> fV, wpAny_field -> fZ, sliceBounds -> f9, wpAny_loadPart' -> gq, wpAny_rule -> gP, typeIs_str -> gQ, tupleKind_room_in1 -> gR, holding -> ig, codeAny -> ik, wpAny_standAt -> iB, wpAny_attempt -> iC, assign -> iG, wpAny_forIn_list -> iK, tupleKind -> iM, intText? -> iQ, CmpOp -> iT, valueAt -> iZ, call_meets -> lq, IsPart -> lB, builtinLookup_eq_fast -> lE, wpAny_seqItems -> lQ, wpAny_fieldsOf -> lR, pyNext -> lU, isTrue -> lV, isSubtype_type -> lW, firstArgMember -> lX, Within -> lY, relabel -> my, getItem -> mz, PassesOwn -> mD, wpAny_setEntries_of -> mL, plainId_quiet -> mU, behindInMarks -> mV, pyIter -> m5, wpAny_pyIter_slot -> nH, wpAny_pyIter_list -> nJ, wpAny_dictEntries -> nM, ofAClassStatement -> nP, wpAny_isInstance -> ou, wpAny_askSetting -> oA, pickOrder -> oE, noteFrame -> oG, noFill_tuple_add -> oH, wpAny_execs_nil -> pq, wpAny_dictEpoch -> pA, typeLookup_type -> pB, letOwnedTupleGo -> pC, BoolOp -> pF, wpAny_call -> pN, wpAny_newList -> p8, seq_tuple_add -> rA, concat_meets -> rM
open PySem.Around renaming under_plainId -> dh, under -> lO
open PySem.Builtin.Dict renaming showsAll -> m9
open PySem.Builtin.Dict_items renaming ownsTuple -> iy
open PySem.Builtin.List renaming listExtendWith -> cJ, listTooLong -> fQ, listSameRef -> mK
open PySem.Builtin.Slice renaming slicePlaces -> cR, sliceAdjust -> fK, sliceApplied -> lK
open PySem.Builtin.Str renaming occurrences -> Ϙ, strKind -> fc, partsBetween -> fW
open PySem.Builtin.Tuple renaming tupleExact -> cZ, tupleItemsOf -> lJ
open PySem.Calls renaming Name_function_global -> nR, call_function_entry -> oh, evalArgs_plain -> pX
open PySem.Challenge renaming rw_errandroom_k75_halls_as_texts -> Ι, pw_errandroom_k75_halls_as_texts -> aq
open PySem.Code renaming isFrame -> pL
open PySem.EntryCells renaming newEntry -> oV
open PySem.Env renaming kindOf -> oU
open PySem.F renaming called_set -> bh, slot_str_split -> dX, args_tuple_add_2 -> gw, args_str_split_2 -> gA, plainAttrs_list -> gD, entry_tuple_add -> gF, entry_str_split -> gG, slot_tuple_add -> gU, plainAttrs_str -> gW, slot_tuple_lt -> gZ, plain_list_iadd -> nW, plainAttrs_dict -> nY, args_tuple_lt_2 -> nZ, slot_str_index -> oK, entry_tuple_lt -> oM, type_dict_get -> o4, slot_set_iter -> o5, slot_dict_get -> o6, plain_set_new -> o7
open PySem.Heap renaming get?_push_of_some -> θ, lt_size -> Ε, get?_push_size -> Ζ, SameBut -> ϭ, get?_update_self -> Ϲ, get?_update_other -> bc, get?_update_ne -> cB, size_push -> eU, get?_none_of_le -> iV, MadeExcOf -> iW
open PySem.Heap.SameBut renaming update -> cW, refl -> oR
open PySem.NameKind renaming free -> bj
open PySem.NumText renaming digitsVal -> lF, AllDigits -> pY
open PySem.Obj renaming mapSeq -> aL, mapFields -> aN, data_mapFields -> cP, isFreed_of_fields -> fB
open PySem.Paired renaming length -> n6
open PySem.ScopeKind renaming function -> pD
open PySem.SeqAt renaming RcNeAt -> ϰ, EqAt -> ϳ, EqAt -> dW, notIn_tupleAt -> mC, notIn_listAt -> mQ, in_tupleAt -> m7, in_listAt -> nq
open PySem.SeqAt.EqAt renaming str_int -> oX, int_str -> oY, int_int -> oZ
open PySem.SetTable renaming below -> Ν, bits -> aA, insertAt -> bF, layClean -> cO, probe -> cV, fits -> dz, runEnd -> fj, turns -> ir, Probe -> iu, grown -> mW, slot -> ni, fill -> nj
open PySem.SetTable.below renaming go -> fG
open PySem.SetTable.layClean renaming free -> dj
open PySem.SetTable.probe renaming go -> cz
open PySem.Shared renaming TypeIs -> lu
open PySem.Str renaming ofString -> eX, join -> lr
open PySem.StrLaws renaming glued_eq_join -> bO, join_length_le -> dU
open PySem.Txt renaming join -> ϲ, split -> aK, split -> fD, slice -> lZ, join -> mO
open PySem.Value renaming ref -> Θ, none -> ϓ, int -> Ϫ, bool -> Ϯ, str -> bw, type -> bJ, isStrOf -> oJ, isInt_shape -> rD
open PySem.pickOrder renaming go -> nO
open Sum renaming inl -> dN, inr -> gK
open True renaming intro -> ϴ
namespace L2
open PySem PySem.Spec PyProof.Rows
abbrev VSP:=δ->ξ->Prop
abbrev Key:=Sum Int Str
noncomputable def yJ (s:Stmt):Arguments:=match s with
 | .FunctionDef _ a _ _ _ _ _ _ _ _=>a
 | _=>{ posonlyargs:=[],args:=[],vararg:=none,kwonlyargs:=[],kw_defaults:=[],kwarg:=none,defaults:=[] }
noncomputable def yl (s:Stmt):List Stmt:=match s with
 | .FunctionDef _ _ b _ _ _ _ _ _ _=>b
 | _=>[]
noncomputable def zJ (s:Stmt):eG:=match s with
 | .FunctionDef _ _ _ _ _ _ sc _ _ _=>sc
 | _=>{ kind:=.function,names:=[],isGenerator:=false,isCoroutine:=false }
noncomputable abbrev veB:List δ:=[.type "ValueError",.type "Exception",.type "BaseException",.type "object"]
end L2
namespace EV
open PySem PySem.Spec PyProof.Rows L2
inductive D where
 | non | bl (b:Bool) | int (i:Int) | str (x:Str)
 | tup (ds:List D) | lst (ds:List D)
 | dK (ks:List Key) (ds:List D) | dT (ks:List (List Key)) (ds:List D)
 | ref (k:Nat) | fn (f:Nat) | scr (ns:List Int) | ktp (ds:List D) | kdc (ps:List (Str×Int)) | dF (ks:List (List Key)) (ds:List D)
 | ins (c:Str) (ns:List Str) (ds:List D)
 deriving Inhabited
inductive Ty where
 | int | bool | str | tuple | list | dict
 deriving DecidableEq
inductive BI where
 | len | abs | int | str | tuple | list | sum | all | any | isinst (t:Ty) | min2 | max2 | sorted | repr | dict | sset | lset | trev
 deriving DecidableEq
inductive MT where
 | get1 | get2 | index | join | split | sidx
 deriving DecidableEq
inductive T where
 | one (i:Nat) | tup (is:List Nat) | nst (i:Nat) (is:List Nat)
 deriving DecidableEq
inductive E where
 | var (i:Nat) | con (d:D) | glo (n:Nat) (d:D)
 | bin (op:bZ) (a b:E) | neg (a:E)
 | cmp (op:iT) (a b:E) | chn (o1 o2:iT) (a b c:E)
 | not (a:E) | and (a b:E) | or (a b:E)
 | ite (c a b:E)
 | tup (es:List E) | lst (es:List E) | dic (tk:Bool) (ks:List Key) (vs:List E)
 | sub (a i:E) | slc (a:E) (lo hi:Option E)
 | bi (b:BI) (es:List E) | mth (m:MT) (o:E) (es:List E)
 | call (f:Nat) (es:List E) | callk (f:Nat) (perm:List Nat) (es:List E) | callv (i:Nat) (es:List E)
 | comp (t:T) (js:List Nat) (it:E) (ifs:List E) (elt:E)
 | box (e:E) | one (e:E) | flip (e:E) | dk1 (a b:E)
 | seq (e:E) | rng (lo:Option E) (hi:E) | enum (e:E) | zip (a b:E) | rev (e:E) | items (e:E) | dwn (es:List E) | keys (e:E)
 | att (cs:List Str) (o:E) (f:Str) | met (ms:List (Str×Nat)) (o:E) (m:Str) (es:List E) | mk (c:Str) (f:Nat) (es:List E)
inductive HB where
 | is (k:Nat) | isT (ks:List Nat) | ve | var (j:Nat) | not (a:HB) | and (a b:HB) | or (a b:HB) | one (a:HB)
inductive C where
 | set (t:T) (e:E)
 | expr (e:E)
 | ret (e:E) | retN
 | ite (c:E) (a b:List C)
 | whl (c:E) (b:List C)
 | forr (t:T) (it:E) (b:List C)
 | app (i:Nat) (e:E) | ext (i:Nat) (e:E)
 | stv (i:Nat) (k v:E) | sti (o k v:E) | appR (o e:E) | pop (i:Nat) | popR (t:T) (o:E) | popO (t:T) (i:Nat)
 | pass | brk | cnt | frz (i:Nat) | frr (i:Nat) | frk (i:Nat)
 | rse (c:Nat) | tri (tb:List (List Nat)) (f:Nat) (es:List E) (c i:Nat) (hs:List (Nat×HB))
 | lin (i:Nat) (es:List E)
 | stx (i f:Nat) (es:List E) | sw2 (i j:Nat) (a b:E)
 | trx (tb:List (List Nat)) (j f:Nat) (es:List E) (c i:Nat) (h:HB) (a b:List D) (els:List C)
 | sta (cs:List Str) (o:E) (f:Str) (e:E) | aua (cs:List Str) (o:E) (f:Str) (op:bZ) (e:E)
structure Fn where
 np:Nat
 nv:Nat
 body:List C
structure Ob where
 name:Str
 fields:List Str
 meths:List (Str×Nat)
structure Tb where
 fns:List Str
 pars:List (List Str)
 consts:List (Str×D)
 bare:List Str
 kws:List (Nat×List Str×List Nat)
 cls:List (Str×List Nat)
 obs:List Ob:=[]
structure Row where
 name:Str
 st:Stmt
 ps:List Str
 N:List Str
 fn:Fn
noncomputable def frOf (h:Heap) (n:Nat):W.Frag:=(ϝ n).filterMap fun a=>(h.get? a).map fun o=>(a,o)
noncomputable def dotted (x:Str):Bool:=x.cps.contains 46
noncomputable def clOf (x:Str):Str:=⟨(x.cps.toList.takeWhile fun c=>c != 46).toArray⟩
noncomputable def snOf (x:Str):Str:=⟨((x.cps.toList.dropWhile fun c=>c != 46).drop 1).toArray⟩
noncomputable def nmOf (x:Str):Str:=if dotted x=true then snOf x else x
noncomputable def caOf (K:W.Frag) (x:Str):Option Addr:=match W.nsIn K ϑ x with
 | some (some (.ref C))=>some C
 | _=>none
noncomputable def atN (K:W.Frag) (x:Str):Option (Option δ):=if dotted x=true then (match caOf K (clOf x) with
  | some C=>W.findIn K (.ref C) (snOf x)
  | none=>none) else W.nsIn K ϑ x
noncomputable def zaZ (K:W.Frag) (x:Str):Option (bT×Bool):=match atN K x with
  | some (some (.ref f))=>(match K.lookup f with
     | some ⟨_,_,.func fd,_⟩=>some ({ fd with kwdefaults:=.none,doc:=.none,pyModule:=.none,annotations:=none,code:=.none,closureTuple:=.none },W.codeIn K fd.code x&&W.keepIn K (.ref f))
     | _=>none)
  | _=>none
noncomputable def qK:List D->List δ->Bool
 | [],[]=>true
 | .str x::ds,.str y _::vs=>x==y&&qK ds vs
 | .int i::ds,.int j _::vs=>i==j&&qK ds vs
 | _,_=>false
noncomputable def zgq (K:W.Frag) (a:Addr):Option (Array δ):=(K.lookup a).bind fun o=>match o.cls,o.data with
 | .type t,.seq its _=>if (t=="tuple"&&decide (its.size<=1000))=true then some its else none
 | _,_=>none
noncomputable def ziV (K:W.Frag) (a:Addr) (ps:List (Str×Int)):Bool:=(match K.lookup a with
  | some o=>(match o.cls with | .type t=>t=="dict" | _=>false)&&o.dict.isNone
  | none=>false)&&KTD.tabLook (KTD.datLooks fun b=>K.lookup b) (fun b=>K.lookup b) a (ps.map fun p=>(p.1,.flat (.int p.2)))
noncomputable def VD (K:W.Frag) (rs:List Row) (x:Str):D->Bool
 | .int i=>(match W.nsIn K ϑ x with | some (some (.int j _))=>i==j | _=>false)
 | .str y=>(match W.nsIn K ϑ x with | some (some (.str z _))=>y==z | _=>false)
 | .fn i=>(match rs[i]? with | some r=>r.name==x&&!dotted x | none=>false)
 | .ktp ds=>(match W.nsIn K ϑ x with | some (some (.ref a))=>(match zgq K a with | some its=>qK ds its.toList | none=>false) | _=>false)
 | .kdc ps=>(match W.nsIn K ϑ x with | some (some (.ref a))=>ziV K a ps | _=>false)
 | _=>false
noncomputable def zcT (K:W.Frag) (cs:List (Str×List Nat)) (p:Str×List Nat):Bool:=match caOf K p.1 with
  | some C=>W.excIn K C veB "ValueError.__new__"&&W.findIn K (.ref C) "__getattribute__"==some (some (.builtin "BaseException.__getattribute__"))&&W.findIn K (.ref C) "__getattr__"==some none&&W.findIn K (.ref C) "__class__"==some (some (.builtin "object.__class__"))
   &&W.mroIn K C (.type "BaseException")==some true&&W.mroIn K C (.type "object")==some true&&(W.clsIn K C).isSome&&W.kitOne K (.ref C) (.type "ValueError")==some true
   &&(ϝ cs.length).all fun k=>match cs[k]? with
      | some q=>(match caOf K q.1 with
        | some Ck=>W.kitOne K (.ref C) (.ref Ck)==some (p.2.contains k)&&W.exmOne K (.ref C) (.ref Ck)==some (p.2.contains k)
        | none=>false)
      | none=>false
  | none=>false
noncomputable def obOk (K:W.Frag) (rs:List Row) (o:Ob):Bool:=match caOf K o.name with
  | some C=>W.plainGet K C Str.empty&&W.hasDictIn K C&&W.plainOver K C&&W.findIn K (.ref C) "__setattr__"==some (some (.builtin "object.__setattr__"))
   &&o.fields.all (fun f=>W.findIn K (.ref C) f==some none)&&(!(o.meths.any fun q=>q.1==("__init__":Str))||(W.makesIn K C&&W.keepIn K (.ref C)))
   &&o.meths.all fun q=>match rs[q.2]? with
      | some r=>(match atN K r.name with
        | some (some (.ref a))=>W.findIn K (.ref C) q.1==some (some (.ref a))&&W.isFn K (.ref a)&&W.keepIn K (.ref a)
        | _=>false)
      | none=>false
  | none=>false
noncomputable def zbS (K:W.Frag) (B:Tb) (rs:List Row):List (Option (bT×Bool))×List (Option (Option δ))×List Bool×List Bool×List Bool:=
 (rs.map fun r=>zaZ K r.name,B.bare.map fun x=>W.nsIn K ϑ x,B.consts.map fun p=>VD K rs p.1 p.2,B.cls.map fun p=>zcT K B.cls p,B.obs.map fun o=>obOk K rs o)
noncomputable def zbC (B:Tb) (rs:List Row):List (Option (bT×Bool))×List (Option (Option δ))×List Bool×List Bool×List Bool:=
 (rs.map fun r=>some (W.fnOf (nmOf r.name) r.name (yJ r.st) (yl r.st) (zJ r.st) .none .none .none .none none .none .none,true),B.bare.map fun _=>some none,B.consts.map fun _=>true,B.cls.map fun _=>true,B.obs.map fun _=>true)
noncomputable def drOf (s:Stmt):DefRec:=match s with
 | .FunctionDef n a b _ _ _ sc _ _ p=>⟨n,a,b,sc,p⟩
 | _=>⟨"",yJ s,[],zJ s,⟨0,0,0,0⟩⟩
noncomputable def zfS:Stmt->List Stmt
 | .ClassDef _ _ _ b _ _ _ _ _ _ _=>b
 | _=>[]
end EV
local macro_rules | `(⇑$n:num) => `(EV.E.var $n)
local macro_rules | `(↥$n:num) => `(EV.E.con (EV.D.int $n)) | `(↥$s:str) => `(EV.E.con (EV.D.str $s))
namespace Q75
open PySem PySem.Spec PyProof.Rows L2 EV
def top (i:Nat):Stmt:=aq.main.body.getD i (.Pass ⟨0,0,0,0⟩)
noncomputable def mtop (i j:Nat):Stmt:=(EV.zfS (top i)).getD j (.Pass ⟨0,0,0,0⟩)
noncomputable abbrev qU:List C:=[.ret (.and (.bi (.isinst .int) [⇑0]) (.one (.not (.bi (.isinst .bool) [⇑0]))))]
noncomputable def qi:EV.Row:=⟨"is_whole",top 5,["one"],["one"],⟨1,1,qU⟩⟩
noncomputable abbrev j4:List C:=[.ret (.and (.call 0 [⇑0]) (.one (.chn .LtE .Lt ↥0 ⇑0 (.glo 0 (.int 1000000007)))))]
noncomputable def jj:EV.Row:=⟨"is_number",top 6,["one"],["one"],⟨1,1,j4⟩⟩
noncomputable abbrev Wh:List C:=[.ite (.or (.not (.bi (.isinst .str) [⇑0])) (.one (.not (.chn .LtE .LtE ↥1 (.bi .len [⇑0]) (.glo 2 (.int 8)))))) [.ret (.con (.bl false))] [],.ret (.bi .all [(.comp (.one 0) [] (.seq ⇑0) [] (.cmp .In ⇑0 (.glo 1 (.str "abcdefghijklmnopqrstuvwxyz"))))])]
noncomputable def YB:EV.Row:=⟨"is_word",top 10,["one"],["one"],⟨1,1,Wh⟩⟩
noncomputable abbrev vH:List C:=[.ret (.and (.bi (.isinst .tuple) [⇑0]) (.one (.chn .LtE .LtE ⇑1 (.bi .len [⇑0]) ⇑2)))]
noncomputable def wY:EV.Row:=⟨"is_tuple_of",top 11,["one","least","most"],["one","least","most"],⟨3,3,vH⟩⟩
noncomputable abbrev zbo:List C:=[.set (.one 1) (.comp (.one 0) [] (.seq ⇑0) [] (.sub ⇑0 ↥0)),.frz 1,.ret (.cmp .Eq ⇑1 (.bi .sset [⇑1]))]
noncomputable def QJ:EV.Row:=⟨"rises",top 13,["told"],["told","paths"],⟨1,2,zbo⟩⟩
noncomputable abbrev Wi:List C:=[.ite (.not (.call 3 [⇑0,↥0,(.glo 3 (.int 6))])) [.ret (.con (.bl false))] [],.ret (.bi .all [(.comp (.one 0) [] (.seq ⇑0) [] (.and (.call 0 [⇑0]) (.one (.chn .LtE .LtE ↥0 ⇑0 (.glo 4 (.int 9))))))])]
noncomputable def YC:EV.Row:=⟨"is_path",top 17,["value"],["value"],⟨1,1,Wi⟩⟩
noncomputable abbrev wA:List C:=[.ite (.and (.chn .LtE .LtE ↥1 (.bi .len [⇑0]) (.glo 6 (.int 10))) (.one (.bi .all [(.comp (.one 0) [] (.seq ⇑0) [] (.cmp .In ⇑0 (.glo 5 (.str "0123456789"))))]))) [.ret (.bi .int [⇑0])] [],.ret ⇑0]
noncomputable def wu:EV.Row:=⟨"read_figures",top 22,["text"],["text"],⟨1,1,wA⟩⟩
noncomputable abbrev j5:List C:=[.set (.one 1) (.lst [(.bin .Add ↥"hour " (.bi .str [(.sub ⇑0 ↥0)]))]),.forr (.one 2) (.seq (.sub ⇑0 ↥1)) [.app 1 (.mth .join ↥" " [(.lst [↥"house",(.call 8 [(.sub ⇑2 ↥0)]),(.sub ⇑2 ↥1),(.bi .str [(.sub ⇑2 ↥2)]),(.call 9 [(.sub ⇑2 ↥3)])])]),.ite (.cmp .NotEq (.sub ⇑2 ↥5) (.tup [])) [.app 1 (.call 10 [(.sub ⇑2 ↥5)])] [],.ext 1 (.comp (.tup [0,1,2]) [] (.seq (.sub ⇑2 ↥4)) [] (.mth .join ↥" " [(.lst [↥"note",(.bi .str [⇑0]),⇑1,(.bi .str [⇑2])])]))],.forr (.tup [3,4,5,6,7]) (.seq (.sub ⇑0 ↥2)) [.app 1 (.mth .join ↥" " [(.lst [↥"ask",(.call 8 [⇑3]),⇑4,(.bi .str [⇑5]),(.bi .str [⇑6]),(.call 9 [⇑7])])])],.frz 1,.ret (.mth .join ↥"\n" [⇑1])]
noncomputable def jk:EV.Row:=⟨"hall_text",top 28,["hall"],["hall","lines","house","path","who","number","sent","end"],⟨1,8,j5⟩⟩
noncomputable abbrev jZ:List C:=[.ret (.ite (.cmp .Eq ⇑0 (.tup [])) ↥"-" (.mth .join ↥"." [(.comp (.one 0) [] (.seq ⇑0) [] (.bi .str [⇑0]))]))]
noncomputable def jh:EV.Row:=⟨"path_text",top 29,["path"],["path"],⟨1,1,jZ⟩⟩
noncomputable abbrev qW:List C:=[.ret (.ite (.cmp .Eq ⇑0 (.tup [])) ↥"-" (.mth .join ↥":" [(.comp (.one 0) [] (.seq ⇑0) [] (.bi .str [⇑0]))]))]
noncomputable def qj:EV.Row:=⟨"end_text",top 30,["end"],["end"],⟨1,1,qW⟩⟩
noncomputable abbrev um:List C:=[.set (.one 1) (.bin .Add (.lst [(.sub ⇑0 ↥0),(.sub ⇑0 ↥2),(.sub ⇑0 ↥3),(.ite (.sub ⇑0 ↥4) ↥1 ↥0)]) (.bi .list [(.sub ⇑0 ↥1)])),.frz 1,.ret (.mth .join ↥" " [(.bin .Add (.lst [↥"state"]) (.comp (.one 0) [] (.seq ⇑1) [] (.bi .str [⇑0])))])]
noncomputable def v4:EV.Row:=⟨"state_line",top 31,["state"],["state","numbers"],⟨1,2,um⟩⟩
noncomputable abbrev jY:List C:=[.ite (.not (.bi (.isinst .str) [⇑0])) [.rse 1] [],.set (.one 1) (.mk "Lines" 39 [⇑0]),.set (.one 2) (.call 19 [(.sub (.call 13 [(.met [(("Lines":Str),42)] ⇑1 "taken" []),↥"hour",↥2]) ↥1)]),.set (.one 3) (.lst []),.whl (.call 12 [⇑1,↥"house"]) [.app 3 (.call 14 [⇑1])],.set (.one 4) (.lst []),.whl (.call 12 [⇑1,↥"ask"]) [.app 4 (.call 17 [(.met [(("Lines":Str),42)] ⇑1 "taken" [])])],.frz 3,.frz 4,.ite (.or (.met [(("Lines":Str),40)] ⇑1 "any_left" []) (.or (.not (.call 4 [⇑3])) (.one (.not (.call 4 [⇑4]))))) [.rse 1] [],.ret (.tup [⇑2,(.bi .tuple [⇑3]),(.bi .tuple [⇑4])])]
noncomputable def jg:EV.Row:=⟨"read_hall",top 32,["text"],["text","lines","hour","houses","asks"],⟨1,5,jY⟩⟩
noncomputable abbrev Jt:List C:=[.ret (.and (.met [(("Lines":Str),40)] ⇑0 "any_left" []) (.one (.cmp .Eq (.sub (.met [(("Lines":Str),41)] ⇑0 "ahead" []) ↥0) ⇑1)))]
noncomputable def Um:EV.Row:=⟨"begins",top 33,["lines","word"],["lines","word"],⟨2,2,Jt⟩⟩
noncomputable abbrev qT:List C:=[.ite (.or (.cmp .NotEq (.sub ⇑0 ↥0) ⇑1) (.one (.cmp .NotEq (.bi .len [⇑0]) ⇑2))) [.rse 1] [],.ret ⇑0]
noncomputable def qg:EV.Row:=⟨"parts_of",top 34,["parts","word","many"],["parts","word","many"],⟨3,3,qT⟩⟩
noncomputable abbrev xJ:List C:=[.set (.one 1) (.call 13 [(.met [(("Lines":Str),42)] ⇑0 "taken" []),↥"house",↥5]),.set (.one 2) (.call 20 [(.sub ⇑1 ↥1),(.glo 9 (.ktp [(.int 0),(.int 2),(.int 4)]))]),.set (.one 3) (.call 19 [(.sub ⇑1 ↥3)]),.set (.one 4) (.call 21 [(.sub ⇑1 ↥4)]),.set (.one 5) (.ite (.cmp .Eq ⇑4 (.tup [])) (.call 15 [(.met [(("Lines":Str),42)] ⇑0 "taken" [])]) (.tup [])),.set (.one 6) (.lst []),.whl (.call 12 [⇑0,↥"note"]) [.app 6 (.call 16 [(.met [(("Lines":Str),42)] ⇑0 "taken" [])])],.ret (.tup [⇑2,(.call 18 [(.sub ⇑1 ↥2)]),⇑3,⇑4,(.bi .tuple [⇑6]),⇑5])]
noncomputable def v6:EV.Row:=⟨"read_house",top 35,["lines"],["lines","parts","path","begun","end","state","diary"],⟨1,7,xJ⟩⟩
noncomputable abbrev uo:List C:=[.ite (.or (.cmp .NotEq (.sub ⇑0 ↥0) ↥"state") (.or (.cmp .Lt (.bi .len [⇑0]) ↥5) (.one (.cmp .NotIn (.sub ⇑0 ↥4) (.tup [↥"0",↥"1"]))))) [.rse 1] [],.set (.one 1) (.comp (.one 0) [] (.seq (.slc ⇑0 (some ↥1) none)) [] (.call 19 [⇑0])),.ret (.tup [(.sub ⇑1 ↥0),(.bi .tuple [(.slc ⇑1 (some ↥4) none)]),(.sub ⇑1 ↥1),(.sub ⇑1 ↥2),(.cmp .Eq (.sub ⇑1 ↥3) ↥1)])]
noncomputable def v5:EV.Row:=⟨"read_state",top 36,["parts"],["parts","numbers"],⟨1,2,uo⟩⟩
noncomputable abbrev jX:List C:=[.expr (.call 13 [⇑0,↥"note",↥4]),.ite (.cmp .NotIn (.sub ⇑0 ↥2) (.glo 7 (.ktp [(.str "tell"),(.str "do"),(.str "done"),(.str "undo"),(.str "undone")]))) [.rse 1] [],.ret (.tup [(.call 19 [(.sub ⇑0 ↥1)]),(.sub ⇑0 ↥2),(.call 19 [(.sub ⇑0 ↥3)])])]
noncomputable def jf:EV.Row:=⟨"read_note",top 37,["parts"],["parts"],⟨1,1,jX⟩⟩
noncomputable abbrev qR:List C:=[.expr (.call 13 [⇑0,↥"ask",↥6]),.set (.one 1) (.call 20 [(.sub ⇑0 ↥1),(.glo 10 (.ktp [(.int 2),(.int 4),(.int 6)]))]),.ret (.tup [⇑1,(.call 18 [(.sub ⇑0 ↥2)]),(.call 19 [(.sub ⇑0 ↥3)]),(.call 19 [(.sub ⇑0 ↥4)]),(.call 21 [(.sub ⇑0 ↥5)])])]
noncomputable def qe:EV.Row:=⟨"read_ask",top 38,["parts"],["parts","path"],⟨1,2,qR⟩⟩
noncomputable abbrev jV:List C:=[.ite (.not (.call 2 [⇑0])) [.rse 1] [],.ret ⇑0]
noncomputable def jd:EV.Row:=⟨"read_word",top 39,["text"],["text"],⟨1,1,jV⟩⟩
noncomputable abbrev vG:List C:=[.set (.one 1) (.call 22 [⇑0]),.ite (.cmp .Is ⇑1 (.con .non)) [.rse 1] [],.ret ⇑1]
noncomputable def wX:EV.Row:=⟨"read_number",top 40,["text"],["text","number"],⟨1,2,vG⟩⟩
noncomputable abbrev jW:List C:=[.set (.one 2) (.call 23 [⇑0]),.ite (.or (.cmp .Is ⇑2 (.con .non)) (.one (.cmp .NotIn (.bi .len [⇑2]) ⇑1))) [.rse 1] [],.ret ⇑2]
noncomputable def je:EV.Row:=⟨"read_path",top 41,["text","lengths"],["text","lengths","path"],⟨2,3,jW⟩⟩
noncomputable abbrev qQ:List C:=[.ite (.cmp .Eq ⇑0 ↥"-") [.ret (.tup [])] [],.set (.one 1) (.mth .split ⇑0 [↥":"]),.ite (.or (.cmp .NotEq (.bi .len [⇑1]) ↥3) (.one (.cmp .NotIn (.sub ⇑1 ↥0) (.glo 8 (.ktp [(.str "good"),(.str "bad"),(.str "off")]))))) [.rse 1] [],.ret (.tup [(.sub ⇑1 ↥0),(.call 19 [(.sub ⇑1 ↥1)]),(.call 19 [(.sub ⇑1 ↥2)])])]
noncomputable def qd:EV.Row:=⟨"read_end",top 42,["text"],["text","parts"],⟨1,2,qQ⟩⟩
noncomputable abbrev j0:List C:=[.set (.one 1) (.call 6 [⇑0]),.ret (.ite (.and (.call 1 [⇑1]) (.one (.cmp .Eq (.bi .str [⇑1]) ⇑0))) ⇑1 (.con .non))]
noncomputable def ji:EV.Row:=⟨"number_of",top 43,["text"],["text","number"],⟨1,2,j0⟩⟩
noncomputable abbrev Wg:List C:=[.set (.one 1) (.ite (.cmp .Eq ⇑0 ↥"-") (.tup []) (.bi .tuple [(.comp (.one 0) [] (.seq (.mth .split ⇑0 [↥"."])) [] (.call 22 [⇑0]))])),.ret (.ite (.call 5 [⇑1]) ⇑1 (.con .non))]
noncomputable def Yz:EV.Row:=⟨"path_of",top 44,["text"],["text","path"],⟨1,2,Wg⟩⟩
noncomputable abbrev xM:List C:=[.set (.one 2) (.lst []),.set (.one 3) (.bi .abs [⇑0]),.ite (.cmp .GtE ⇑3 (.bin .Pow ↥10 ↥18)) [.whl (.and (.cmp .Gt ⇑3 ↥0) (.one (.cmp .Lt (.bi .len [⇑2]) ⇑1))) [.app 2 (.bin .Mod ⇑3 (.bin .Pow ↥10 ↥6)),.set (.one 3) (.bin .FloorDiv ⇑3 (.bin .Pow ↥10 ↥6))]] [],.forr (.one 4) (.rng (some (.bi .len [⇑2])) ⇑1) [.set (.one 5) (.bin .Mod (.bin .Add (.bin .Add (.bin .Add (.bin .Mult (.bin .Mod ⇑0 ↥1000000007) ↥48271) (.bin .Mult (.bin .Mult ↥977 ⇑4) ⇑4)) (.bin .Mult ↥131 ⇑4)) ↥1) ↥2147483647),.set (.one 5) (.bin .Mod (.bin .Mult ⇑5 ⇑5) ↥2147483647),.app 2 (.bin .Mod (.bin .FloorDiv (.bin .Mod (.bin .Mult (.bin .Add ⇑5 (.bin .Mult ↥40692 (.bin .Add ⇑4 ↥3))) ↥69621) ↥2147483629) ↥8) (.bin .Pow ↥10 ↥6))],.ret ⇑2]
noncomputable def ud:EV.Row:=⟨"_law_draws",top 46,["cell","many"],["cell","many","found","left","k","one"],⟨2,6,xM⟩⟩
noncomputable abbrev kh:List C:=[.ret (.bin .Mod (.bin .FloorDiv (.sub ⇑0 (.bin .Mod ⇑1 (.bi .len [⇑0]))) ↥7) ⇑2)]
noncomputable def jr:EV.Row:=⟨"_law_draw",top 47,["draws","at","many"],["draws","at","many"],⟨3,3,kh⟩⟩
noncomputable abbrev vI:List C:=[.set (.one 2) (.bi .len [⇑0]),.set (.one 3) (.bin .Mult (.sub ⇑0 (.bin .Mod ⇑1 ⇑2)) (.bin .Pow ↥10 ↥6)),.set (.one 3) (.bin .Add ⇑3 (.sub ⇑0 (.bin .Mod (.bin .Add ⇑1 ↥1) ⇑2))),.set (.one 4) (.bin .Mod (.bin .FloorDiv (.sub ⇑0 (.bin .Mod (.bin .Add ⇑1 ↥2) ⇑2)) ↥7) ↥3),.ret (.sub (.lst [(.bin .Mod ⇑3 ↥5),(.bin .Sub ↥1000000006 (.bin .Mod ⇑3 ↥3)),(.bin .Mod ⇑3 ↥1000000007)]) ⇑4)]
noncomputable def wZ:EV.Row:=⟨"_law_number",top 48,["draws","at"],["draws","at","many","far","way"],⟨2,5,vI⟩⟩
noncomputable abbrev j8:List C:=[.ret (.bi .tuple [(.comp (.one 0) [0,1] (.rng none (.sub ⇑2 (.call 25 [⇑0,⇑1,(.bi .len [⇑2])]))) [] (.call 25 [⇑1,(.bin .Add (.bin .Add ⇑2 ↥1) ⇑0),↥10]))])]
noncomputable def jo:EV.Row:=⟨"_law_path",top 49,["draws","at","counts"],["draws","at","counts"],⟨3,3,j8⟩⟩
noncomputable abbrev ur:List C:=[.set (.one 4) (.dic true [] []),.forr (.one 5) (.rng none ⇑3) [.stv 4 (.call 27 [⇑0,(.bin .Add ⇑1 (.bin .Mult ↥7 ⇑5)),⇑2]) (.con (.bl true))],.ret (.bi .sorted [(.bi .list [⇑4])])]
noncomputable def v8:EV.Row:=⟨"_law_paths",top 50,["draws","at","counts","many"],["draws","at","counts","many","paths","k"],⟨4,6,ur⟩⟩
noncomputable abbrev qX:List C:=[.ite (.not ⇑2) [.ret (.tup [])] [],.set (.one 3) (.sub (.lst [↥"good",↥"bad",↥"off"]) (.call 25 [⇑0,⇑1,↥3])),.ret (.tup [⇑3,(.sub (.lst [(.call 26 [⇑0,(.bin .Add ⇑1 ↥1)]),↥0]) (.bi .int [(.cmp .Eq ⇑3 ↥"off")])),(.call 26 [⇑0,(.bin .Add ⇑1 ↥4)])])]
noncomputable def ql:EV.Row:=⟨"_law_end",top 51,["draws","at","ended"],["draws","at","ended","word"],⟨3,4,qX⟩⟩
noncomputable abbrev uq:List C:=[.set (.one 3) (.sub (.lst [↥0,↥1,↥3,(.bin .Add ↥32 (.bin .Mult ↥8 (.bi .int [⇑2])))]) (.call 25 [⇑0,⇑1,↥4])),.set (.one 4) (.bi .tuple [(.comp (.one 0) [0,1] (.rng none ⇑3) [] (.call 26 [⇑1,(.bin .Add (.bin .Add ⇑2 ↥5) ⇑0)]))]),.set (.one 5) (.cmp .Eq (.call 25 [⇑0,(.bin .Add ⇑1 ↥3),↥2]) ↥1),.ite ⇑2 [.set (.one 6) (.tup [(.call 26 [⇑0,(.bin .Add ⇑1 ↥2)]),(.call 26 [⇑0,(.bin .Add ⇑1 ↥4)]),⇑5]),.ret (.bin .Add (.tup [(.call 26 [⇑0,(.bin .Add ⇑1 ↥1)]),⇑4]) ⇑6)] [],.set (.one 6) (.tup [(.call 25 [⇑0,(.bin .Add ⇑1 ↥1),↥6]),(.call 25 [⇑0,(.bin .Add ⇑1 ↥2),↥17]),⇑5]),.ret (.bin .Add (.tup [(.call 25 [⇑0,(.bin .Add ⇑1 ↥4),↥160]),⇑4]) ⇑6)]
noncomputable def v7:EV.Row:=⟨"_law_state",top 52,["draws","at","wide"],["draws","at","wide","many","slots","called","counts"],⟨3,7,uq⟩⟩
noncomputable abbrev uv:List C:=[.set (.one 4) (.lst [↥"tell",↥"do",↥"done",↥"undo",↥"undone"]),.set (.one 5) (.lst []),.forr (.one 6) (.rng none ⇑2) [.set (.one 7) (.sub ⇑4 (.call 25 [⇑0,(.bin .Add ⇑1 (.bin .Mult ↥9 ⇑6)),↥5])),.set (.one 8) (.call 25 [⇑0,(.bin .Add (.bin .Add ⇑1 (.bin .Mult ↥9 ⇑6)) ↥1),↥24]),.ite (.or ⇑3 (.one (.cmp .Eq ⇑7 ↥"tell"))) [.set (.one 8) (.call 26 [⇑0,(.bin .Add (.bin .Add ⇑1 (.bin .Mult ↥9 ⇑6)) ↥2)])] [],.app 5 (.tup [(.call 26 [⇑0,(.bin .Add (.bin .Add ⇑1 (.bin .Mult ↥9 ⇑6)) ↥5)]),⇑7,⇑8])],.ret (.bi .tuple [⇑5])]
noncomputable def ue:EV.Row:=⟨"_law_diary",top 53,["draws","at","many","wide"],["draws","at","many","wide","words","notes","k","word","number"],⟨4,9,uv⟩⟩
noncomputable abbrev j9:List C:=[.set (.one 2) (.lst [↥"a",↥"ab",↥"house",↥"state",↥"note",↥"ask",↥"hour",↥"zzzzzzzz"]),.set (.one 3) (.cmp .Eq (.call 25 [⇑0,↥293,↥8]) ↥0),.set (.one 4) (.lst []),.forr (.tup [5,6]) (.enum (.call 28 [⇑0,↥0,(.lst [↥0,↥2,↥4]),(.call 25 [⇑0,↥290,(.bin .Add ⇑1 ↥1)])])) [.set (.one 7) (.bin .Add ↥40 (.bin .Mult ↥40 ⇑5)),.set (.one 8) (.cmp .Eq (.call 25 [⇑0,⇑7,↥2]) ↥0),.set (.one 9) (.tup []),.ite (.not ⇑8) [.set (.one 9) (.call 30 [⇑0,(.bin .Add ⇑7 ↥10),⇑3])] [],.set (.one 10) (.call 31 [⇑0,(.bin .Add ⇑7 ↥20),(.call 25 [⇑0,(.bin .Add ⇑7 ↥9),↥4]),⇑3]),.set (.one 11) (.tup [⇑6,(.sub ⇑2 (.call 25 [⇑0,(.bin .Add ⇑7 ↥1),↥8])),(.call 26 [⇑0,(.bin .Add ⇑7 ↥2)]),(.call 29 [⇑0,(.bin .Add ⇑7 ↥5),⇑8])]),.app 4 (.bin .Add ⇑11 (.tup [⇑10,⇑9]))],.set (.one 12) (.lst []),.forr (.tup [5,6]) (.enum (.call 28 [⇑0,↥300,(.lst [↥2,↥4,↥6]),(.call 25 [⇑0,↥291,(.bin .Add ⇑1 ↥1)])])) [.set (.one 7) (.bin .Add ↥350 (.bin .Mult ↥20 ⇑5)),.set (.one 11) (.tup [⇑6,(.sub ⇑2 (.call 25 [⇑0,⇑7,↥8])),(.call 26 [⇑0,(.bin .Add ⇑7 ↥1)]),(.call 26 [⇑0,(.bin .Add ⇑7 ↥4)])]),.app 12 (.bin .Add ⇑11 (.tup [(.call 29 [⇑0,(.bin .Add ⇑7 ↥7),(.cmp .Eq (.call 25 [⇑0,(.bin .Add ⇑7 ↥15),↥2]) ↥0)])]))],.ret (.tup [(.call 26 [⇑0,↥292]),(.bi .tuple [⇑4]),(.bi .tuple [⇑12])])]
noncomputable def jq:EV.Row:=⟨"_law_hall",top 54,["draws","most"],["draws","most","words","wide","houses","k","path","at","ended","state","diary","head","asks"],⟨2,13,j9⟩⟩
noncomputable abbrev yX:List C:=[.ite (.cmp .Eq (.bi .len [⇑0]) ↥0) [.ret ↥"-"] [],.set (.one 1) (.bi .str [(.sub ⇑0 ↥0)]),.forr (.one 2) (.seq (.slc ⇑0 (some ↥1) none)) [.set (.one 1) (.bin .Add (.bin .Add ⇑1 ↥".") (.bi .str [⇑2]))],.ret ⇑1]
noncomputable def yR:EV.Row:=⟨"_law_path_word",top 55,["path"],["path","word","part"],⟨1,3,yX⟩⟩
noncomputable abbrev xK:List C:=[.ite (.cmp .Eq (.bi .len [⇑0]) ↥0) [.ret ↥"-"] [],.ret (.bin .Add (.bin .Add (.bin .Add (.bin .Add (.sub ⇑0 ↥0) ↥":") (.bi .str [(.sub ⇑0 ↥1)])) ↥":") (.bi .str [(.sub ⇑0 ↥2)]))]
noncomputable def xn:EV.Row:=⟨"_law_end_word",top 56,["end"],["end"],⟨1,1,xK⟩⟩
noncomputable abbrev ut:List C:=[.set (.one 1) (.lst [(.lst [↥"hour",(.bi .str [(.sub ⇑0 ↥0)])])]),.forr (.tup [2,3,4,5,6,7]) (.seq (.sub ⇑0 ↥1)) [.app 1 (.lst [↥"house",(.call 33 [⇑2]),⇑3,(.bi .str [⇑4]),(.call 34 [⇑5])]),.ite (.cmp .Gt (.bi .len [⇑7]) ↥0) [.set (.one 8) (.lst [↥"state",(.bi .str [(.sub ⇑7 ↥0)]),(.bi .str [(.sub ⇑7 ↥2)]),(.bi .str [(.sub ⇑7 ↥3)]),(.sub (.lst [↥"0",↥"1"]) (.bi .int [(.sub ⇑7 ↥4)]))]),.app 1 (.bin .Add ⇑8 (.comp (.one 0) [] (.seq (.sub ⇑7 ↥1)) [] (.bi .str [⇑0])))] [],.forr (.tup [9,10,11]) (.seq ⇑6) [.app 1 (.lst [↥"note",(.bi .str [⇑9]),⇑10,(.bi .str [⇑11])])]],.forr (.tup [2,12,11,13,5]) (.seq (.sub ⇑0 ↥2)) [.app 1 (.lst [↥"ask",(.call 33 [⇑2]),⇑12,(.bi .str [⇑11]),(.bi .str [⇑13]),(.call 34 [⇑5])])],.ret ⇑1]
noncomputable def uc:EV.Row:=⟨"_law_lines",top 57,["its_hall"],["its_hall","lines","path","name","begun_at","end","diary","state","line","hour","word","number","who","sent"],⟨1,14,ut⟩⟩
noncomputable abbrev j6:List C:=[.ret (.mth .join ↥"\n" [(.comp (.one 0) [] (.seq ⇑0) [] (.mth .join ↥" " [⇑0]))])]
noncomputable def jm:EV.Row:=⟨"_law_text",top 58,["lines"],["lines"],⟨1,1,j6⟩⟩
noncomputable abbrev j7:List C:=[.ite (.bi (.isinst .tuple) [⇑1]) [.ite (.or (.not (.bi (.isinst .tuple) [⇑0])) (.one (.cmp .NotEq (.bi .len [⇑0]) (.bi .len [⇑1])))) [.ret (.con (.bl false))] [],.ret (.bi .all [(.comp (.one 0) [0,1] (.rng none (.bi .len [⇑1])) [] (.call 37 [(.sub ⇑1 ⇑0),(.sub ⇑2 ⇑0)]))])] [],.ite (.bi (.isinst .bool) [⇑1]) [.ret (.and (.bi (.isinst .bool) [⇑0]) (.one (.cmp .Eq ⇑0 ⇑1)))] [],.ite (.bi (.isinst .str) [⇑1]) [.ret (.and (.bi (.isinst .str) [⇑0]) (.one (.cmp .Eq ⇑0 ⇑1)))] [],.ret (.and (.bi (.isinst .int) [⇑0]) (.and (.not (.bi (.isinst .bool) [⇑0])) (.one (.cmp .Eq ⇑0 ⇑1))))]
noncomputable def jn:EV.Row:=⟨"_law_same",top 59,["found","due"],["found","due"],⟨2,2,j7⟩⟩
noncomputable abbrev zi8:List C:=[.forr (.one 1) (.seq (.bin .Add (.lst [(.bi .len [⇑0])]) (.slc ⇑0 none (some ↥12)))) [.set (.one 2) (.call 32 [(.call 24 [⇑1,↥460]),↥5]),.set (.one 3) (.call 36 [(.call 35 [⇑2])]),.set (.one 4) (.call 7 [⇑2]),.ite (.or (.not (.bi (.isinst .str) [⇑4])) (.or (.cmp .NotEq ⇑4 ⇑3) (.one (.not (.call 37 [(.call 11 [⇑3]),⇑2]))))) [.ret (.con (.bl false))] [],.ite (.or (.cmp .NotEq (.callk 7 [0] [(.callk 11 [0] [⇑3])]) ⇑3) (.one (.not (.call 37 [(.call 11 [⇑4]),⇑2])))) [.ret (.con (.bl false))] []],.ret (.con (.bl true))]
noncomputable def zew:EV.Row:=⟨"law",top 60,["script"],["script","cell","its_hall","its_text","found"],⟨1,5,zi8⟩⟩
noncomputable abbrev xf:List C:=[.sta [("Lines":Str)] ⇑0 "rows" (.comp (.one 0) [] (.seq (.mth .split ⇑1 [↥"\n"])) [] (.mth .split ⇑0 [↥" "])),.sta [("Lines":Str)] ⇑0 "at" ↥0]
noncomputable def yU:EV.Row:=⟨"Lines.__init__",mtop 21 0,["self","text"],["self","text"],⟨2,2,xf⟩⟩
noncomputable abbrev yZ:List C:=[.ret (.cmp .Lt (.att [("Lines":Str)] ⇑0 "at") (.bi .len [(.att [("Lines":Str)] ⇑0 "rows")]))]
noncomputable def yS:EV.Row:=⟨"Lines.any_left",mtop 21 1,["self"],["self"],⟨1,1,yZ⟩⟩
noncomputable abbrev vK:List C:=[.ite (.not (.met [(("Lines":Str),40)] ⇑0 "any_left" [])) [.rse 1] [],.ret (.sub (.att [("Lines":Str)] ⇑0 "rows") (.att [("Lines":Str)] ⇑0 "at"))]
noncomputable def vg:EV.Row:=⟨"Lines.ahead",mtop 21 2,["self"],["self"],⟨1,1,vK⟩⟩
noncomputable abbrev vJ:List C:=[.set (.one 1) (.met [(("Lines":Str),41)] ⇑0 "ahead" []),.aua [("Lines":Str)] ⇑0 "at" .Add ↥1,.ret ⇑1]
noncomputable def vf:EV.Row:=⟨"Lines.taken",mtop 21 3,["self"],["self","words"],⟨1,2,vJ⟩⟩
noncomputable def rs:List EV.Row:=[qi,jj,YB,wY,QJ,YC,wu,jk,jh,qj,v4,jg,Um,qg,v6,v5,jf,qe,jd,wX,je,qd,ji,Yz,ud,jr,wZ,jo,v8,ql,v7,ue,jq,yR,xn,uc,jm,jn,zew,yU,yS,vg,vf]
noncomputable def B:Tb:=⟨[("is_whole":Str),("is_number":Str),("is_word":Str),("is_tuple_of":Str),("rises":Str),("is_path":Str),("read_figures":Str),("hall_text":Str),("path_text":Str),("end_text":Str),("state_line":Str),("read_hall":Str),("begins":Str),("parts_of":Str),("read_house":Str),("read_state":Str),("read_note":Str),("read_ask":Str),("read_word":Str),("read_number":Str),("read_path":Str),("read_end":Str),("number_of":Str),("path_of":Str),("_law_draws":Str),("_law_draw":Str),("_law_number":Str),("_law_path":Str),("_law_paths":Str),("_law_end":Str),("_law_state":Str),("_law_diary":Str),("_law_hall":Str),("_law_path_word":Str),("_law_end_word":Str),("_law_lines":Str),("_law_text":Str),("_law_same":Str),("law":Str),("Lines.__init__":Str),("Lines.any_left":Str),("Lines.ahead":Str),("Lines.taken":Str)],[(["one"]:List Str),(["one"]:List Str),(["one"]:List Str),(["one","least","most"]:List Str),(["told"]:List Str),(["value"]:List Str),(["text"]:List Str),(["hall"]:List Str),(["path"]:List Str),(["end"]:List Str),(["state"]:List Str),(["text"]:List Str),(["lines","word"]:List Str),(["parts","word","many"]:List Str),(["lines"]:List Str),(["parts"]:List Str),(["parts"]:List Str),(["parts"]:List Str),(["text"]:List Str),(["text"]:List Str),(["text","lengths"]:List Str),(["text"]:List Str),(["text"]:List Str),(["text"]:List Str),(["cell","many"]:List Str),(["draws","at","many"]:List Str),(["draws","at"]:List Str),(["draws","at","counts"]:List Str),(["draws","at","counts","many"]:List Str),(["draws","at","ended"]:List Str),(["draws","at","wide"]:List Str),(["draws","at","many","wide"]:List Str),(["draws","most"]:List Str),(["path"]:List Str),(["end"]:List Str),(["its_hall"]:List Str),(["lines"]:List Str),(["found","due"]:List Str),(["script"]:List Str),(["self","text"]:List Str),(["self"]:List Str),(["self"]:List Str),(["self"]:List Str)],[("MODULUS",(.int 1000000007)),("LETTERS",(.str "abcdefghijklmnopqrstuvwxyz")),("LONGEST_WORD",(.int 8)),("LONGEST_PATH",(.int 6)),("TOP_OF_PATH",(.int 9)),("FIGURES",(.str "0123456789")),("MOST_FIGURES",(.int 10)),("NOTES",(.ktp [(.str "tell"),(.str "do"),(.str "done"),(.str "undo"),(.str "undone")])),("ENDS",(.ktp [(.str "good"),(.str "bad"),(.str "off")])),("LENGTHS_OF_HOUSES",(.ktp [(.int 0),(.int 2),(.int 4)])),("LENGTHS_OF_ASKS",(.ktp [(.int 2),(.int 4),(.int 6)]))],["abs","all","bool","enumerate","int","isinstance","len","list","range","set","sorted","str","tuple"],[(7,["hall"],[0]),(11,["text"],[0])],[("ErrandError",[0]),("NoText",[1,0])],[⟨"Lines",[("rows":Str),("at":Str)],[(("__init__":Str),39),(("any_left":Str),40),(("ahead":Str),41),(("taken":Str),42)]⟩]⟩
noncomputable def jz:PySem.Program:={ aq with main:={ aq.main with body:=((((((((aq.main.body).eraseIdx 45).eraseIdx 23).eraseIdx 18).eraseIdx 14).eraseIdx 12).eraseIdx 7).eraseIdx 3).eraseIdx 0 } }
theorem zfj:W.LeftO Ι.prog jz [] (fun s=>W.xlAt jz [] s&&W.recOk [] s) (fun s=>EV.zbS (EV.frOf s.heap 500) B rs) (fun _=>EV.zbC B rs) 12000:=fun w=>by kernel_rfl
noncomputable def ug:PySem.DefRec:=EV.drOf (top 60)
theorem zkG:Ι.wellSaid=true:=by kernel_rfl
theorem zkM:W.defOf jz Ι.name=some (ug,[]):=by kernel_rfl
theorem zkL:Ι.prog.theDef Ι.name=some (ug.params,ug.body,ug.scope):=by kernel_rfl
theorem zkK:W.kwWritten? ug.params.kwonlyargs ug.params.kw_defaults=some []:=by kernel_rfl
theorem zkH:(W.chainsOk jz&&W.opensWell Ι.prog&&(W.frees Ι.row.toRowW&&Ι.row.within.isEmpty))=true:=by kernel_rfl
theorem zkJ:ug.params.defaults=[]:=by kernel_rfl
theorem zkI:Ι.prog.bare:=⟨rfl,rfl,rfl,rfl,rfl,by decide +kernel⟩
theorem zkF:Ι.row.toRowW.promised:=by w_witness2
end Q75
namespace L2
open PySem PySem.Spec PyProof.Rows
noncomputable def J4:Key->δ->Bool
 | .inl k,v=>δ.isInt k v
 | .inr x,v=>oJ x v
noncomputable def keyH (w:Ϛ):Key->Int
 | .inl k=>hashInt k
 | .inr x=>hashStr w x
theorem zP:∀ {k:Key}{v:δ},J4 k v=true->(∃ i t,k=dN i/\v=Ϫ i t)\/(∃ x t,k=gK x/\v=bw x t)
 | .inl i,v,h=>by obtain ⟨t,e⟩:=rD (k:=i) (v:=v) h;exact .inl ⟨i,t,rfl,e⟩
 | .inr x,v,h=>by obtain ⟨t,e⟩:=δ.isStrOf_shape (x:=x) (v:=v) h;exact .inr ⟨x,t,rfl,e⟩
theorem zaw (i:Int) (t:Tok):J4 (.inl i) (.int i t)=true:=by simp [J4,δ.isInt]
theorem zav (x:Str) (t:Tok):J4 (.inr x) (.str x t)=true:=by simp [J4,oJ]
theorem zid (a b:Int):decide ((dN a:Key)=dN b)=(a==b):=by
 by_cases e:a=b
 ·subst e;simp
 ·have h:¬ (dN a:Key)=dN b:=fun q=>e (dN.inj q)
  rw [decide_eq_false h];exact (beq_eq_false_iff_ne.mpr e).symm
theorem zia (a b:Str):decide ((gK a:Key)=gK b)=decide (a=b):=by
 by_cases e:a=b
 ·subst e;simp
 ·have h:¬ (gK a:Key)=gK b:=fun q=>e (gK.inj q)
  rw [decide_eq_false h,decide_eq_false e]
theorem zic (a:Int) (b:Str):decide ((dN a:Key)=gK b)=false:=decide_eq_false (fun q=>nomatch q)
theorem zib (a:Str) (b:Int):decide ((gK a:Key)=dN b)=false:=decide_eq_false (fun q=>nomatch q)
noncomputable def z7 (prog:Χ) (w:Ϛ):PySem.KeyKind prog w Key where
 is:=J4
 hash:=keyH w
 inj:=fun v a b ha hb=>by
  rcases zP ha with ⟨i,t,rfl,rfl⟩ | ⟨x,t,rfl,rfl⟩
  ·rcases zP hb with ⟨j,u,rfl,e⟩ | ⟨y,u,rfl,e⟩
   ·injection e with e1 _;rw [e1]
   ·exact nomatch e
  ·rcases zP hb with ⟨j,u,rfl,e⟩ | ⟨y,u,rfl,e⟩
   ·exact nomatch e
   ·injection e with e1 _;rw [e1]
 byValue:=fun k v h=>by rcases zP h with ⟨i,t,rfl,rfl⟩ | ⟨x,t,rfl,rfl⟩ <;> rfl
 pyHash:=fun hv h=>by
  rcases zP hv with ⟨i,t,rfl,rfl⟩ | ⟨x,t,rfl,rfl⟩
  ·exact wpAny_pyHash_int h
  ·exact wpAny_pyHash_str h
 eqBool:=fun hu hv h=>by
  rcases zP hu with ⟨i,t,rfl,rfl⟩ | ⟨x,t,rfl,rfl⟩
  ·rcases zP hv with ⟨j,u,rfl,rfl⟩ | ⟨y,u,rfl,rfl⟩
   ·rw [zid] at h;exact wpAny_eqBool_int h
   ·rw [zic] at h;exact oY i t y u _ _ _ _ h
  ·rcases zP hv with ⟨j,u,rfl,rfl⟩ | ⟨y,u,rfl,rfl⟩
   ·rw [zib] at h;exact oX x t j u _ _ _ _ h
   ·rw [zia] at h;exact wpAny_eqBool_str h
 «strs»:=fun k x t v h=>by
  rcases zP h with ⟨i,u,rfl,e⟩ | ⟨y,u,rfl,e⟩
  ·exact nomatch e
  ·injection e with e1 _
   subst e1;cases v <;> rfl
theorem W7 (prog:Χ) (w:Ϛ) (i:Int) (t:Tok):(z7 prog w).is (.inl i) (.int i t)=true:=zaw i t
theorem W6 (prog:Χ) (w:Ϛ) (x:Str) (t:Tok):(z7 prog w).is (.inr x) (.str x t)=true:=zav x t
inductive V where
 | non | bl (b:Bool) | int (i:Int) | str (x:Str) | byt (b:Array UInt8) | flt (b:UInt64) | ref (a:Addr) | ty (n:String)
 deriving DecidableEq
def RelV:V->δ->Prop
 | .non,u=>u=ϓ
 | .bl b,u=>u=Ϯ b
 | .int i,u=>∃ t,u=Ϫ i t
 | .str x,u=>∃ t,u=bw x t
 | .byt b,u=>∃ t,u=δ.bytes b t
 | .flt b,u=>∃ t,u=δ.float b t
 | .ref a,u=>u=Θ a
 | .ty n,u=>u=bJ n
abbrev Vals:List V->List δ->Prop:=fH RelV
theorem Vals.length {xs:List V}{us:List δ}(r:Vals xs us):xs.length=us.length:=n6 r
theorem Vals.get:∀ {xs:List V}{us:List δ}{i:Nat}{x:V},Vals xs us->xs[i]?=some x->∃ u,us[i]?=some u/\RelV x u
 | _,_,_,_,.nil,e=>by simp at e
 | _,_,0,_,.cons r _,e=>by simp at e;subst e;exact ⟨_,rfl,r⟩
 | _,_,i+1,x,.cons _ t,e=>by obtain ⟨u,h1,h2⟩:=Vals.get (i:=i) (x:=x) t (by simpa using e);exact ⟨u,by simpa using h1,h2⟩
theorem Vals.set {x:V}{u:δ}(r:RelV x u):∀ {xs:List V}{us:List δ}(i:Nat),Vals xs us->Vals (xs.set i x) (us.set i u)
 | _,_,_,.nil=>.nil
 | _,_,0,.cons _ t=>.cons r t
 | _,_,i+1,.cons q t=>.cons q (Vals.set r i t)
theorem Vals.append:∀ {xs ys:List V}{us ws:List δ},Vals xs us->Vals ys ws->Vals (xs++ys) (us++ws)
 | _,_,_,_,.nil,s=>s
 | _,_,_,_,.cons r t,s=>.cons r (Vals.append t s)
theorem Vals.take:∀ {xs:List V}{us:List δ}(n:Nat),Vals xs us->Vals (xs.take n) (us.take n)
 | _,_,0,_=>.nil
 | _,_,_+1,.nil=>.nil
 | _,_,n+1,.cons r t=>.cons r (Vals.take n t)
theorem Vals.drop:∀ {xs:List V}{us:List δ}(n:Nat),Vals xs us->Vals (xs.drop n) (us.drop n)
 | _,_,0,r=>r
 | _,_,_+1,.nil=>.nil
 | _,_,n+1,.cons _ t=>Vals.drop n t
def RelO:Option V->Option δ->Prop
 | some v,some u=>RelV v u
 | none,none=>True
 | _,_=>False
def KV {κ:Type}:List (κ×V)->List (κ×δ)->Prop:=fH fun (p:κ×V) (q:κ×δ)=>p.1=q.1/\RelV p.2 q.2
noncomputable def kV:Key->V
 | .inl i=>.int i
 | .inr x=>.str x
inductive HO where
 | lst (xs:List V)
 | tup (xs:List V)
 | dK (kvs:List (Key×V)) | dT (kvs:List (List Key×V))
 | set (S:Int->Bool) (n:Nat)
 | ins (C dx:Addr) (fs:List (Str×V))
 | own (x:Addr)
 | xd (fs:List (Str×V))
 | met (f x:Addr)
 | rng (lo hi:Int)
 | frz (o:Obj) (u:HO)
 | tbl (ps:Array δ)
 | ext (φ:Heap->Prop)
abbrev Hp:=Addr->Option HO
noncomputable def upd (H:Hp) (a:Addr) (o:HO):Hp:=fun b=>if b=a then some o else H b
theorem zp {H:Hp}{a:Addr}{o:HO}:upd H a o a=some o:=by unfold upd;rw [if_pos rfl]
theorem zj {H:Hp}{a b:Addr}{o:HO}(h:b≠a):upd H a o b=H b:=by unfold upd;rw [if_neg h]
theorem zkl {H:Hp}{a b:Addr}{o u:HO}(h:H a=some o) (h':H b=some u) (d:o≠u):a≠b:=by intro e;subst e;rw [h] at h';exact d (ϐ h')
theorem zz {H:Hp}{a b:Addr}{o:HO}(h:H a=some o) (h':H b=none):a≠b:=by intro e;subst e;rw [h] at h';cases h'
section
variable (P:Χ) (w:Ϛ)
def zW (H:Hp) (h:Heap) (a:Addr):HO->Prop
 | .lst xs=>xs.length<=sizeLine/\∃ (its:List δ) (n:Nat),Vals xs its/\h.get? a=some { cls:=.type "list",data:=.seq its.toArray n }
 | .tup xs=>xs.length<=sizeLine/\∃ its:List δ,Vals xs its/\lD h a its.toArray
 | .dK kvs=>kvs.length<=sizeLine/\(a==bV)=false/\∃ vs,KV kvs vs/\h.DictOf (z7 P w) a vs
 | .dT kvs=>kvs.length<=sizeLine/\(a==bV)=false/\∃ xs:List (List Key×Addr×δ),
   fH (fun (p:List Key×V) (q:List Key×Addr×δ)=>p.1=q.1/\H q.2.1=some (.tup (p.1.map kV))/\RelV p.2 q.2.2) kvs xs /\
   ∃ o es ep,h.get? a=some o/\o.ExactDict/\o.data=.dict es ep/\es.toList=xs.map (entryOfKey (iM (z7 P w)))/\(xs.map (·.1)).Nodup
 | .set S n=>h.SetOf (intKind P w) a S n
 | .ins C dx fs=>H dx=some (.own a)/\fs.length<=1000/\dx≠a/\h.get? a=some (W.instObj C dx) /\
   ∃ mA,h.Ns1 dx mA/\(∀ f,RelO (fs.lookup f) (mA f))/\lY mA (fs.map (·.1))
 | .own _=>∃ o,h.get? a=some o
 | .xd fs=>∃ mA,h.Ns1 a mA/\∀ f,RelO (fs.lookup f) (mA f)
 | .rng lo hi=>∃ t u v,h.get? a=some { cls:=.type "range",data:=.fields #[.int lo t,.int hi u,.int 1 v] }
 | .frz o u=>h.get? a=some o/\zW H h a u
 | .tbl ps=>h.get? a=some { cls:=.none,data:=.fields ps }
 | .met f x=>h.get? a=some (W.methodObj (.ref f) (.ref x))
 | .ext φ=>φ h/\(∃ o,h.get? a=some o)/\∀ h1 h2:Heap,φ h1->(∀ o,h1.get? a=some o->h2.get? a=some o)->φ h2
def HOk (H:Hp) (h:Heap):Prop:=∀ a o,H a=some o->zW P w H h a o
end
section
variable {P:Χ}{w:Ϛ}{H H':Hp}{h h':Heap}{a:Addr}{o:HO}
theorem zW.lt (x:zW P w H h a o):a < h.objs.size:=by
 cases o with
 | lst xs=>obtain ⟨_,_,_,_,e⟩:=x;exact Ε e
 | tup xs=>obtain ⟨_,_,_,p⟩:=x;exact p.lt
 | dK kvs=>obtain ⟨_,_,_,_,o,_,_,e,_⟩:=x;exact Ε e
 | dT kvs=>obtain ⟨_,_,_,_,o,_,_,e,_⟩:=x;exact Ε e
 | set S n=>obtain ⟨o,_,_,_,e,_⟩:=x;exact Ε e
 | ins C dx fs=>obtain ⟨_,_,_,e,_⟩:=x;exact Ε e
 | own y=>obtain ⟨_,e⟩:=x;exact Ε e
 | xd fs=>obtain ⟨_,⟨_,_,_,e,_⟩,_⟩:=x;exact Ε e
 | rng lo hi=>obtain ⟨_,_,_,e⟩:=x;exact Ε e
 | frz ob u=>obtain ⟨e,_⟩:=x;exact Ε e
 | tbl ps=>exact Ε (show h.get? a=some _ from x)
 | met f y=>exact Ε (show h.get? a=some _ from x)
 | ext φ=>obtain ⟨_,⟨_,e⟩,_⟩:=x;exact Ε e
theorem fH.mapP {α β:Type}{F G:α->β->Prop}:∀ {l₁:List α}{l₂:List β},fH F l₁ l₂->(∀ a b,F a b->G a b)->fH G l₁ l₂
 | _,_,.nil,_=>.nil
 | _,_,.cons r t,f=>.cons (f _ _ r) (fH.mapP t f)
theorem zW.stay (x:zW P w H h a o) (k:∀ b u,(b=a\/H b=some (.own a))->h.get? b=some u->h'.get? b=some u)
  (ho:∀ b,H b=some (.own a)->H' b=some (.own a)) (ht:∀ b xs,H b=some (.tup xs)->H' b=some (.tup xs)):zW P w H' h' a o:=by
 induction o with
 | lst xs=>obtain ⟨z,its,n,r,e⟩:=x;exact ⟨z,its,n,r,k _ _ (.inl rfl) e⟩
 | tup xs=>obtain ⟨z,its,r,ob,e,c⟩:=x;exact ⟨z,its,r,ob,k _ _ (.inl rfl) e,c⟩
 | dK kvs=>obtain ⟨z,y,vs,r,ob,es,ep,e,c⟩:=x;exact ⟨z,y,vs,r,ob,es,ep,k _ _ (.inl rfl) e,c⟩
 | dT kvs=>
  obtain ⟨z,y,xs,r,ob,es,ep,e,c⟩:=x;exact ⟨z,y,xs,fH.mapP r fun p q z=>⟨z.1,ht _ _ z.2.1,z.2.2⟩,ob,es,ep,k _ _ (.inl rfl) e,c⟩
 | set S n=>obtain ⟨ob,es,ep,t,e,c⟩:=x;exact ⟨ob,es,ep,t,k _ _ (.inl rfl) e,c⟩
 | ins C dx fs=>
  obtain ⟨d,z,ne,e,mA,⟨od,es,ep,e2,c⟩,r⟩:=x;exact ⟨ho _ d,z,ne,k _ _ (.inl rfl) e,mA,⟨od,es,ep,k _ _ (.inr d) e2,c⟩,r⟩
 | own y=>obtain ⟨ob,e⟩:=x;exact ⟨ob,k _ _ (.inl rfl) e⟩
 | xd fs=>obtain ⟨mA,⟨od,es,ep,e,c⟩,r⟩:=x;exact ⟨mA,⟨od,es,ep,k _ _ (.inl rfl) e,c⟩,r⟩
 | rng lo hi=>obtain ⟨t,u,v,e⟩:=x;exact ⟨t,u,v,k _ _ (.inl rfl) e⟩
 | frz ob u ih=>obtain ⟨e,q⟩:=x;exact ⟨k _ _ (.inl rfl) e,ih q⟩
 | tbl ps=>
  have e:h.get? a=some { cls:=.none,data:=.fields ps }:=x;show h'.get? a=some { cls:=.none,data:=.fields ps }
  exact k a _ (.inl rfl) e
 | met f y=>
  have e:h.get? a=some (W.methodObj (.ref f) (.ref y)):=x;show h'.get? a=some (W.methodObj (.ref f) (.ref y))
  exact k a _ (.inl rfl) e
 | ext φ=>obtain ⟨p,⟨o,e⟩,st⟩:=x;exact ⟨st _ _ p fun o q=>k _ _ (.inl rfl) q,⟨o,k _ _ (.inl rfl) e⟩,st⟩
theorem HOk.lt (x:HOk P w H h) (e:H a=some o):a < h.objs.size:=(x a o e).lt
theorem HOk.fresh (x:HOk P w H h) (e:h.objs.size<=a):H a=none:=by
 cases q:H a with
 | none=>rfl
 | some u=>exact absurd (ϔ (x.lt q) e) (bQ _)
theorem HOk.kept (x:HOk P w H h) (k:∀ b u,h.get? b=some u->h'.get? b=some u):HOk P w H h':=fun a o e=>
 (x a o e).stay (fun b u _ q=>k b u q) (fun _ q=>q) fun _ _ q=>q
theorem HOk.laid (x:HOk P w H h) (k:∀ b u,h.get? b=some u->h'.get? b=some u) (hp:h.objs.size<=a) (new:zW P w (upd H a o) h' a o):HOk P w (upd H a o) h':=fun b u e=>by
 have hn:=x.fresh hp;by_cases hb:b=a
 ·subst hb;rw [zp] at e;cases e;exact new
 ·rw [zj hb] at e;exact (x b u e).stay (fun c v _ q=>k c v q) (fun c q=>by rw [zj (zz q hn)];exact q) fun c xs q=>by rw [zj (zz q hn)];exact q
end
def Rd (H:Hp) (a:Addr) (u:HO):Prop:=H a=some u\/∃ o,H a=some (.frz o u)
theorem Rd.ok {P:Χ}{w:Ϛ}{H:Hp}{h:Heap}{a:Addr}{u:HO}(r:Rd H a u) (x:HOk P w H h):zW P w H h a u:=by
 rcases r with r | ⟨o,r⟩
 ·exact x a u r
 ·obtain ⟨_,q⟩:=x a _ r;exact q
def Mut:Option HO->Prop
 | some (.lst _)=>True
 | some (.dK _)=>True
 | some (.dT _)=>True
 | some (.set _ _)=>True
 | some (.ins _ _ _)=>True
 | some (.ext _)=>True
 | _=>False
section
variable {P:Χ}{w:Ϛ}{H:Hp}{h h':Heap}{x e:Addr}{o':HO}
theorem HOk.write (ok:HOk P w H h) (mu:Mut (H x)) (he:e=x\/H e=some (.own x)) (k:∀ b u,b≠e->h.get? b=some u->h'.get? b=some u) (heo:∃ u,h'.get? e=some u)
  (new:zW P w (upd H x o') h' x o'):HOk P w (upd H x o') h':=fun b u q=>by
 have nown:∀ c y,H c=some (.own y)->c≠x:=fun c y r z=>by subst z;rw [r] at mu;exact mu
 have ntup:∀ c xs,H c=some (.tup xs)->c≠x:=fun c xs r z=>by subst z;rw [r] at mu;exact mu
 by_cases hb:b=x
 ·subst hb;rw [zp] at q;cases q;exact new
 ·rw [zj hb] at q;by_cases hbe:b=e
  ·have q':H b=some (.own x):=by
    rcases he with z | z
    ·exact absurd (hbe.trans z) hb
    ·rw [hbe];exact z
   rw [q] at q';cases q';obtain ⟨v,hv⟩:=heo;exact ⟨v,by rw [hbe];exact hv⟩
  ·refine (ok b u q).stay (fun c v hc r=>k c v ?_ r) (fun c r=>by rw [zj (nown c b r)];exact r) fun c xs r=>by rw [zj (ntup c xs r)];exact r
   rcases hc with rfl | hc
   ·exact hbe
   ·rintro rfl;rcases he with z | z
    ·exact nown c b hc z
    ·rw [hc] at z;cases z;exact hb rfl
end
structure Un (fs ex:List Addr) (H H':Hp) (h h':Heap):Prop where
 keep:∀ b o,h.get? b=some o->H b=none->b ∉ fs->b ∉ ex->h'.get? b=some o
 slot:∀ b o,h.get? b=some o->H b=none->b∈fs->b ∉ ex->∃ sl,h'.get? b=some { o with slots:=sl }
 free:∀ b o,h.get? b=some o->H b=none->b ∉ ex->H' b=none
 there:∀ b o,h.get? b=some o->b ∉ ex->∃ o',h'.get? b=some o'
 tups:∀ b xs,H b=some (.tup xs)->H' b=some (.tup xs)
 frzs:∀ b o u,H b=some (.frz o u)->H' b=some (.frz o u)
 tbls:∀ b ps,H b=some (.tbl ps)->∃ more,H' b=some (.tbl (ps++more))
section
variable {fs fs' ex ex':List Addr}{H H1 H2:Hp}{h h1 h2 h':Heap}{a x e:Addr}{o:HO}
theorem Un.any (u:Un fs ex H H1 h h1) {b:Addr}{ob:Obj}(q:h.get? b=some ob) (n:H b=none) (hx:b ∉ ex):∃ sl,h1.get? b=some { ob with slots:=sl }:=by
 by_cases hb:b∈fs
 ·exact u.slot b ob q n hb hx
 ·exact ⟨ob.slots,u.keep b ob q n hb hx⟩
theorem Un.trans (a:Un fs ex H H1 h h1) (b:Un fs ex H1 H2 h1 h2):Un fs ex H H2 h h2 where
 keep:=fun c ob q n hc hx=>b.keep c ob (a.keep c ob q n hc hx) (a.free c ob q n hx) hc hx
 slot:=fun c ob q n hc hx=>by obtain ⟨sl,e1⟩:=a.slot c ob q n hc hx;obtain ⟨sl',e2⟩:=b.slot c _ e1 (a.free c ob q n hx) hc hx;exact ⟨sl',e2⟩
 free:=fun c ob q n hx=>by obtain ⟨o',e1⟩:=a.there c ob q hx;exact b.free c o' e1 (a.free c ob q n hx) hx
 there:=fun c ob q hx=>by obtain ⟨o',e1⟩:=a.there c ob q hx;exact b.there c o' e1 hx
 tups:=fun c xs q=>b.tups c xs (a.tups c xs q)
 frzs:=fun c ob xs q=>b.frzs c ob xs (a.frzs c ob xs q)
 tbls:=fun c ps q=>by obtain ⟨m1,e1⟩:=a.tbls c ps q;obtain ⟨m2,e2⟩:=b.tbls c _ e1;exact ⟨m1++m2,by rw [e2,rC]⟩
theorem Un.kept (k:∀ b u,h.get? b=some u->h'.get? b=some u):Un fs ex H H h h':=
 ⟨fun b ob q _ _ _=>k b ob q,fun b ob q _ _ _=>⟨ob.slots,k b ob q⟩,fun _ _ _ n _=>n,fun b ob q _=>⟨ob,k b ob q⟩,fun _ _ q=>q,fun _ _ _ q=>q,fun _ ps q=>⟨#[],by rw [q];simp⟩⟩
theorem Un.refl:Un fs ex H H h h:=Un.kept fun _ _ q=>q
theorem Un.laid (k:∀ b u,h.get? b=some u->h'.get? b=some u) (hp:h.objs.size<=a) (hn:H a=none):Un fs ex H (upd H a o) h h' where
 keep:=fun b u q _ _ _=>k b u q
 slot:=fun b u q _ _ _=>⟨u.slots,k b u q⟩
 free:=fun b u q n _=>by rw [zj (ϋ (ϔ (Ε q) hp))];exact n
 there:=fun b u q _=>⟨u,k b u q⟩
 tups:=fun b xs q=>by rw [zj (zz q hn)];exact q
 frzs:=fun b u xs q=>by rw [zj (zz q hn)];exact q
 tbls:=fun b ps q=>⟨#[],by rw [zj (zz q hn),q];simp⟩
theorem Un.write (mu:Mut (H x)) (he:e=x\/H e=some (.own x)) (k:∀ b u,b≠e->h.get? b=some u->h'.get? b=some u) (heo:∃ u,h'.get? e=some u):Un fs ex H (upd H x o) h h':=by
 have hx:∀ b,H b=none->b≠x:=fun b n z=>by subst z;rw [n] at mu;exact mu
 have hb:∀ b,H b=none->b≠e:=fun b n z=>by
  subst z;rcases he with r | r
  ·exact hx b n r
  ·rw [n] at r;cases r
 have hm:∀ b u,H b=some u->¬ Mut (some u)->b≠x:=fun b u q nm z=>by subst z;rw [q] at mu;exact nm mu
 refine ⟨fun b u q n _ _=>k b u (hb b n) q,fun b u q n _ _=>⟨u.slots,k b u (hb b n) q⟩,fun b u q n _=>by rw [zj (hx b n)];exact n,fun b u q _=>?_,
  fun b xs q=>by rw [zj (hm b _ q fun z=>z)];exact q,fun b u xs q=>by rw [zj (hm b _ q fun z=>z)];exact q,fun b ps q=>⟨#[],by rw [zj (hm b _ q fun z=>z),q];simp⟩⟩
 by_cases hbe:b=e
 ·subst hbe;exact heo
 ·exact ⟨u,k b u hbe q⟩
end
noncomputable def trk (h:Heap) (H:Hp):List Addr:=(ϝ h.objs.size).filter fun a=>(H a).isSome
noncomputable def hidT (h:Heap) (H:Hp):Heap:=W.hideAll h (trk h H)
theorem zaS (h:Heap) (H:Hp):(hidT h H).objs.size=h.objs.size:=W.hideAll_size _ _
theorem zcC {h:Heap}{H:Hp}{b:Addr}{o:Obj}(e:h.get? b=some o) (n:H b=none):(hidT h H).get? b=some o:=
 W.hideAll_get _ e fun hm=>by have q:(H b).isSome=true:=(nu.mp hm).2;rw [n] at q;simp at q
theorem ze2 {h:Heap}{H:Hp}{b:Addr}{o:Obj}(e:(hidT h H).get? b=some o):h.get? b=some o/\H b=none:=by
 have e':h.get? b=some o:=W.of_hideAll (trk h H) e;refine ⟨e',?_⟩;cases q:H b with
 | none=>rfl
 | some x=>
  have hm:b∈trk h H:=nu.mpr ⟨aY.mpr (Ε e'),by simp [q]⟩;have z:(hidT h H).get? b=none:=W.hideAll_none (trk h H) hm;rw [z] at e;cases e
noncomputable def zf9 (g h:Heap) (L:Addr):List (Addr×Obj):=(ϝ h.objs.size).filterMap fun a=>if a=L\/(g.get? a).isSome=true then none else (h.get? a).map fun o=>(a,o)
noncomputable def rest (g h:Heap) (L d:Addr):List (Addr×Obj):=(zf9 g h L).filter fun p=>decide (p.1≠d)
structure Mod (K:W.Frag) (mg:Str->Option δ) (base:Heap):Prop where
 kin:K.In base
 glob:base.Ns ϑ mg
 blt:∃ mb,base.Ns builtinsNs mb/\∀ x:Str,x≠"__name__"->mb x=cX x
 nolimit:base.NoLimit
structure Cx where
 prog:Χ
 w:Ϛ
 K:W.Frag
 mg:Str->Option δ
 base:Heap
 A:ϖ
 N:List Str
 sy:ξ
 Hz:Hp
 env:Env
 outer:List Env
 stack:List Env
 ex:List Addr
 fn:Str->Bool
 calm:Bool
 pn:List (Addr×Obj)
 xe:δ->ξ->Prop
noncomputable def frs (l:List Env):List Addr:=l.filterMap (·.frame)
noncomputable abbrev Cx.fs (X:Cx):List Addr:=frs X.outer
def Vis (sc:eG) (x:Str):Prop:=sc.names.lookup x=some .local\/sc.names.lookup x=some .cell\/sc.names.lookup x=some .free
def Loc (sc:eG) (x:Str):Prop:=sc.names.lookup x=some .local\/sc.names.lookup x=some .cell
def Look (env:Env) (h:Heap) (m:Str->Option δ) (x:Str) (u:δ):Prop:=
 (env.kindOf x=some .local/\m x=some u)\/((env.kindOf x=some .cell\/env.kindOf x=some .free)/\∃ c,env.cells.lookup x=some c/\h.IsCell c (some u))
structure Cx.Ok (X:Cx):Prop where
 mod:Mod X.K X.mg X.base
 kind:X.env.scope.kind=.function
 glob:X.env.globals=ϑ
 blt:X.env.builtins=builtinsNs
 above:X.sy.heap.objs.size<=X.env.locals
 inj:∀ x y c,X.env.cells.lookup x=some c->X.env.cells.lookup y=some c->x=y
 has:∀ x,(X.env.kindOf x=some .cell\/X.env.kindOf x=some .free)->∃ c,X.env.cells.lookup x=some c
 cab:∀ x c,X.fn x=true->X.env.cells.lookup x=some c->X.sy.heap.objs.size<=c
 hd:X.calm=true->X.A.handled=none
 frames:X.A.frames=some X.stack
 stk:X.stack=X.outer\/(X.stack=X.env::X.outer/\X.env.frame=some X.env.locals)
 exf:∀ b∈X.ex,b≠X.env.locals/\∀ x c,X.env.cells.lookup x=some c->c≠b
 bs:∀ b o,X.base.get? b=some o->X.sy.heap.get? b=some o/\X.Hz b=none
 bsz:X.base.objs.size<=X.sy.heap.objs.size
 noex:∀ b o,X.base.get? b=some o->b ∉ X.ex
 exfs:∀ b∈X.ex,b ∉ X.fs
 funs:X.sy.heap.FunFrames X.base X.outer
 frf:∀ b∈X.fs,X.Hz b=none
structure Inv (X:Cx) (pJ:List (Addr×Obj)) (σ:List (Option V)) (H:Hp) (s:ξ):Prop where
 ok:X.Ok
 os:s.os=X.sy.os
 bare:iz s.gens
 base:Un X.fs X.ex X.Hz H X.sy.heap s.heap
 loc:∃ m,s.heap.Ns X.env.locals m/\∀ (i:Nat) (x:Str) (v:V),X.N[i]?=some x->σ[i]?=some (some v)->Vis X.env.scope x->∃ u,RelV v u/\Look X.env s.heap m x u
 cell:∀ x c,X.env.cells.lookup x=some c->∃ v,s.heap.IsCell c v
 free:H X.env.locals=none
 freeC:∀ x c,X.env.cells.lookup x=some c->H c=none
 pin:∀ p∈X.pn++pJ,s.heap.get? p.1=some p.2/\H p.1=none/\p.1≠X.env.locals/\p.1 ∉ X.fs/\∀ v,p.2.data≠.cell v
 hok:HOk X.prog X.w H s.heap
 len:σ.length=X.N.length
section
variable {X:Cx}{pJ:List (Addr×Obj)}{σ:List (Option V)}{H H':Hp}{s:ξ}{h':Heap}
theorem Cx.Ok.nofr (ok:X.Ok) {b:Addr}{o:Obj}(e:X.base.get? b=some o):b ∉ X.fs:=fun hb=>by have:=(ok.funs.mem hb).1;rw [e] at this;cases this
theorem Inv.bs (I:Inv X pJ σ H s):∀ b o,X.base.get? b=some o->s.heap.get? b=some o/\H b=none:=fun b o e=>
 ⟨I.base.keep b o (I.ok.bs b o e).1 (I.ok.bs b o e).2 (I.ok.nofr e) (I.ok.noex b o e),I.base.free b o (I.ok.bs b o e).1 (I.ok.bs b o e).2 (I.ok.noex b o e)⟩
theorem Inv.bk (I:Inv X pJ σ H s):∀ b o,X.base.get? b=some o->s.heap.get? b=some o:=fun b o e=>(I.bs b o e).1
theorem Inv.mod (I:Inv X pJ σ H s):Mod X.K X.mg X.base:=I.ok.mod
theorem Inv.kIn (I:Inv X pJ σ H s):X.K.In s.heap:=I.ok.mod.kin.keeps I.bk
theorem Inv.fr (I:Inv X pJ σ H s):∃ m,Fr X.base X.env.locals s.heap m:=
 let ⟨m,hn,_⟩:=I.loc
 ⟨m,hn,I.bk,Ϩ I.ok.bsz I.ok.above⟩
theorem Inv.lt (I:Inv X pJ σ H s):X.env.locals < s.heap.objs.size:=let ⟨_,hn,_⟩:=I.loc;hn.lt
theorem Inv.sz (I:Inv X pJ σ H s):X.sy.heap.objs.size<=s.heap.objs.size:=Ϩ I.ok.above (gh I.lt)
theorem Inv.nofs (I:Inv X pJ σ H s) {a:Addr}(h:s.heap.objs.size<=a):a ∉ X.fs:=fun hb=>by obtain ⟨_,o,ho,_⟩:=I.ok.funs.mem hb;exact absurd (ϔ (Ε ho) (Ϩ I.sz h)) (bQ _)
theorem Inv.cne (I:Inv X pJ σ H s):∀ x c,X.env.cells.lookup x=some c->c≠X.env.locals:=fun x c e z=>by obtain ⟨v,o,ho,hd⟩:=I.cell x c e;obtain ⟨m,⟨o',es,ep,ho',hd',_⟩,_⟩:=I.loc;rw [z,ho'] at ho;cases ho;rw [hd'] at hd;cases hd
theorem Inv.funs (I:Inv X pJ σ H s):s.heap.FunFrames X.base X.outer:=by
 have all:∀ (l:List Env),(∀ b∈frs l,b∈X.fs)->X.sy.heap.FunFrames X.base l->s.heap.FunFrames X.base l:=by
  intro l
  induction l with
  | nil=>intro _ _;trivial
  | cons env r ih=>
   intro hs hl;obtain ⟨hk,⟨L,o,hf,hn,ho,hd⟩,hr⟩:=hl;have hL:L∈X.fs:=hs L (by unfold frs;rw [cA,hf];exact μ);obtain ⟨sl,e⟩:=I.base.slot L o ho (I.ok.frf L hL) hL fun z=>I.ok.exfs L z hL
   exact ⟨hk,⟨L,_,hf,hn,e,hd⟩,ih (fun b hb=>hs b (by unfold frs;rw [cA,hf];exact ν _ hb)) hr⟩
 exact all X.outer (fun _ hb=>hb) I.ok.funs
theorem Inv.stack (I:Inv X pJ σ H s):s.heap.FunFrames X.base X.stack:=by
 rcases I.ok.stk with e | ⟨e,hf⟩
 ·rw [e];exact I.funs
 ·rw [e];obtain ⟨m,hn,_⟩:=I.loc;refine .cons (by rw [I.ok.kind];decide) hf hn ?_ I.funs;exact iV (Ϩ I.ok.bsz I.ok.above)
theorem Inv.Ub (I:Inv X pJ σ H s):∀ b∈frs X.stack,b∈X.env.locals::X.fs:=fun b hb=>by
 rcases I.ok.stk with e | ⟨e,hf⟩
 ·rw [e] at hb;exact ν _ hb
 ·rw [e] at hb;unfold frs at hb;rw [cA,hf] at hb;exact hb
theorem Inv.Zk (I:Inv X pJ σ H s):∀ b∈frs X.stack,H b=none:=fun b hb=>by
 rcases υ.mp (I.Ub b hb) with e | hb
 ·rw [e];exact I.free
 ·obtain ⟨_,o,ho,_⟩:=I.ok.funs.mem hb;exact I.base.free b o ho (I.ok.frf b hb) fun z=>I.ok.exfs b z hb
theorem Inv.step {g':Array GenState}{t':Nat}{d':Drawn}{ch:List Addr}(I:Inv X pJ σ H s)
  (hch:∀ b∈ch,(b∈X.ex\/X.sy.heap.objs.size<=b)/\b≠X.env.locals/\(∀ x c,X.env.cells.lookup x=some c->c≠b)/\∀ p∈X.pn++pJ,p.1≠b)
  (keep:∀ b o,b≠X.env.locals->b ∉ X.fs->b ∉ ch->s.heap.get? b=some o->H b=none->h'.get? b=some o)
  (slot:∀ b o,b≠X.env.locals->b∈X.fs->b ∉ ch->s.heap.get? b=some o->H b=none->∃ sl,h'.get? b=some { o with slots:=sl }) (free:∀ b o,b ∉ ch->s.heap.get? b=some o->H b=none->H' b=none)
  (there:∀ b o,b ∉ ch->s.heap.get? b=some o->∃ o',h'.get? b=some o')
  (tups:∀ b xs,H b=some (.tup xs)->H' b=some (.tup xs)) (frzs:∀ b o u,H b=some (.frz o u)->H' b=some (.frz o u)) (tbls:∀ b ps,H b=some (.tbl ps)->∃ more,H' b=some (.tbl (ps++more)))
  (ns:∀ m,s.heap.Ns X.env.locals m->h'.Ns X.env.locals m) (hok:HOk X.prog X.w H' h') (hg:iz g'):
  Inv X pJ σ H' { s with heap:=h',gens:=g',drawn:=d',toks:=t' }:=by
 have neL:∀ b o,X.sy.heap.get? b=some o->b≠X.env.locals:=fun b o e=>ϋ (ϔ (Ε e) I.ok.above)
 have neC:∀ b o,X.sy.heap.get? b=some o->b ∉ X.ex->b ∉ ch:=fun b o e hx hb=>by
  rcases (hch b hb).1 with z | z
  ·exact hx z
  ·exact absurd (ϔ (Ε e) z) (bQ _)
 have cellK:∀ x c,X.env.cells.lookup x=some c->∀ v,s.heap.IsCell c v->h'.IsCell c v:=fun x c e v ⟨o,ho,hd⟩=>by
  have nch:c ∉ ch:=fun z=>(hch c z).2.2.1 x c e rfl
  by_cases hc:c∈X.fs
  ·obtain ⟨sl,q⟩:=slot c o (I.cne x c e) hc nch ho (I.freeC x c e);exact ⟨_,q,hd⟩
  ·exact ⟨o,keep c o (I.cne x c e) hc nch ho (I.freeC x c e),hd⟩
 refine ⟨I.ok,I.os,hg,⟨fun b o e n hb hx=>?_,fun b o e n hb hx=>?_,fun b o e n hx=>?_,fun b o e hx=>?_,fun b xs e=>tups b xs (I.base.tups b xs e),fun b o xs e=>frzs b o xs (I.base.frzs b o xs e),fun b ps e=>?_⟩,?_,fun x c e=>?_,?_,fun x c e=>?_,fun p hp=>?_,hok,I.len⟩
 ·exact keep b o (neL b o e) hb (neC b o e hx) (I.base.keep b o e n hb hx) (I.base.free b o e n hx)
 ·obtain ⟨sl,e1⟩:=I.base.slot b o e n hb hx;obtain ⟨sl',e2⟩:=slot b _ (neL b o e) hb (neC b o e hx) e1 (I.base.free b o e n hx);exact ⟨sl',e2⟩
 ·obtain ⟨o',e1⟩:=I.base.there b o e hx;exact free b o' (neC b o e hx) e1 (I.base.free b o e n hx)
 ·obtain ⟨o',e1⟩:=I.base.there b o e hx;exact there b o' (neC b o e hx) e1
 ·obtain ⟨m1,e1⟩:=I.base.tbls b ps e;obtain ⟨m2,e2⟩:=tbls b _ e1;exact ⟨m1++m2,by rw [e2,rC]⟩
 ·obtain ⟨m,hn,hl⟩:=I.loc;refine ⟨m,ns m hn,fun i x v e1 e2 e3=>?_⟩;obtain ⟨u,r,l⟩:=hl i x v e1 e2 e3;refine ⟨u,r,?_⟩;rcases l with l | ⟨k,c,e,z⟩
  ·exact .inl l
  ·exact .inr ⟨k,c,e,cellK x c e _ z⟩
 ·obtain ⟨v,z⟩:=I.cell x c e;exact ⟨v,cellK x c e v z⟩
 ·obtain ⟨m,⟨o,_,_,ho,_⟩,_⟩:=I.loc;exact free _ o (fun z=>(hch _ z).2.1 rfl) ho I.free
 ·obtain ⟨v,o,ho,hd⟩:=I.cell x c e;exact free c o (fun z=>(hch c z).2.2.1 x c e rfl) ho (I.freeC x c e)
 ·obtain ⟨e,n,ne,nf,d⟩:=I.pin p hp;have nch:p.1 ∉ ch:=fun z=>(hch p.1 z).2.2.2 p hp rfl
  exact ⟨keep p.1 p.2 ne nf nch e n,free p.1 p.2 nch e n,ne,nf,d⟩
theorem Inv.un {t':Nat}(I:Inv X pJ σ H s) (u:Un X.fs [] H H' s.heap h') (hok:HOk X.prog X.w H' h'):Inv X pJ σ H' { s with heap:=h',toks:=t' }:=by
 obtain ⟨m,⟨o,es,ep,ho,r⟩,_⟩:=id I.loc;obtain ⟨sl,hL⟩:=u.any ho I.free (by simp)
 exact I.step (g':=s.gens) (d':=s.drawn) (ch:=[]) (fun _ z=>nomatch z) (fun b o _ hb _ e n=>u.keep b o e n hb (by simp)) (fun b o _ hb _ e n=>u.slot b o e n hb (by simp)) (fun b o _ e n=>u.free b o e n (by simp)) (fun b o _ e=>u.there b o e (by simp)) u.tups u.frzs u.tbls (fun m' hm=>by
  obtain ⟨o',es',ep',ho',r'⟩:=hm;rw [ho] at ho';cases ho'
  exact ⟨_,es',ep',hL,r'⟩) hok I.bare
theorem Inv.call {g':Array GenState}{t':Nat}{d':Drawn}{ch:List Addr}(I:Inv X pJ σ H s) (u:Un (frs X.stack) ch H H' s.heap h') (hok:HOk X.prog X.w H' h') (hg:iz g')
  (hch:∀ b∈ch,(b∈X.ex\/X.sy.heap.objs.size<=b)/\b≠X.env.locals/\(∀ x c,X.env.cells.lookup x=some c->c≠b)/\∀ p∈X.pn++pJ,p.1≠b):
  Inv X pJ σ H' { s with heap:=h',gens:=g',drawn:=d',toks:=t' }:=by
 obtain ⟨m,⟨o,es,ep,ho,r⟩,_⟩:=id I.loc;obtain ⟨sl,hL⟩:=u.any ho I.free fun z=>(hch _ z).2.1 rfl
 exact I.step (ch:=ch) hch (fun b o hL hb hc e n=>u.keep b o e n (fun z=>(υ.mp (I.Ub b z)).elim hL hb) hc) (fun b o _ _ hc e n=>u.any e n hc) (fun b o hc e n=>u.free b o e n hc) (fun b o hc e=>u.there b o e hc) u.tups u.frzs u.tbls (fun m' hm=>by
  obtain ⟨o',es',ep',ho',r'⟩:=hm;rw [ho] at ho';cases ho'
  exact ⟨_,es',ep',hL,r'⟩) hok hg
theorem Inv.turned {t':Nat}{it:Addr}(I:Inv X pJ σ H s) (k:∀ b o,b≠it->s.heap.get? b=some o->h'.get? b=some o) (hn:H it=none) (hL:it≠X.env.locals)
  (h1:it∈X.ex\/X.sy.heap.objs.size<=it) (h2:∀ x c,X.env.cells.lookup x=some c->c≠it) (h3:∀ p∈X.pn++pJ,p.1≠it):Inv X pJ σ H { s with heap:=h',toks:=t' }:=by
 have nit:∀ b u,H b=some u->b≠it:=fun b u e z=>by rw [z,hn] at e;cases e
 refine I.step (g':=s.gens) (d':=s.drawn) (ch:=[it]) (fun b hb=>?_) (fun b o _ _ hc e _=>k b o (fun z=>hc (by simp [z])) e) (fun b o _ _ hc e _=>⟨o.slots,k b o (fun z=>hc (by simp [z])) e⟩) (fun _ _ _ _ n=>n)
  (fun b o hc e=>⟨o,k b o (fun z=>hc (by simp [z])) e⟩) (fun _ _ e=>e) (fun _ _ _ e=>e) (fun b ps e=>⟨#[],by rw [e];simp⟩) (fun m hm=>?_) (fun b u e=>?_) I.bare
 ·have e:b=it:=by simpa using hb
  subst e;exact ⟨h1,hL,h2,h3⟩
 ·obtain ⟨o,es,ep,ho,r⟩:=hm;exact ⟨o,es,ep,k _ o (dH hL) ho,r⟩
 ·refine (I.hok b u e).stay (fun c v hc q=>k c v ?_ q) (fun _ q=>q) fun _ _ q=>q
  rcases hc with z | z
  ·rw [z];exact nit b u e
  ·exact nit c _ z
theorem Inv.tok (I:Inv X pJ σ H s) (t:Nat):Inv X pJ σ H { s with toks:=t }:=I.un (h':=s.heap) (t':=t) Un.refl I.hok
theorem Inv.kept {t':Nat}(I:Inv X pJ σ H s) (k:∀ b u,s.heap.get? b=some u->h'.get? b=some u):Inv X pJ σ H { s with heap:=h',toks:=t' }:=I.un (Un.kept k) (I.hok.kept k)
theorem Inv.laid {a:Addr}{o:HO}{t':Nat}(I:Inv X pJ σ H s) (k:∀ b u,s.heap.get? b=some u->h'.get? b=some u) (hp:s.heap.objs.size<=a) (new:zW X.prog X.w (upd H a o) h' a o):
  Inv X pJ σ (upd H a o) { s with heap:=h',toks:=t' }:=I.un (Un.laid k hp (I.hok.fresh hp)) (I.hok.laid k hp new)
theorem Inv.write {x e:Addr}{o:HO}{t':Nat}(I:Inv X pJ σ H s) (mu:Mut (H x)) (he:e=x\/H e=some (.own x)) (k:∀ b u,b≠e->s.heap.get? b=some u->h'.get? b=some u) (heo:∃ u,h'.get? e=some u)
  (new:zW X.prog X.w (upd H x o) h' x o):Inv X pJ σ (upd H x o) { s with heap:=h',toks:=t' }:=I.un (Un.write mu he k heo) (I.hok.write mu he k heo new)
theorem Inv.WX {pins':List (Addr×Obj)}(I:Inv X pJ σ H s) (h:∀ p∈pins',s.heap.get? p.1=some p.2/\H p.1=none/\p.1≠X.env.locals/\p.1 ∉ X.fs/\∀ v,p.2.data≠.cell v):Inv X pins' σ H s:=
 ⟨I.ok,I.os,I.bare,I.base,I.loc,I.cell,I.free,I.freeC,fun p hp=>(aD.mp hp).elim (fun z=>I.pin p (du _ z)) (h p),I.hok,I.len⟩
theorem Uy {N:List Str}(hN:N.Nodup) {i j:Nat}{x:Str}(a:N[i]?=some x) (b:N[j]?=some x):i=j:=by obtain ⟨h1,e1⟩:=Β.mp a;obtain ⟨h2,e2⟩:=Β.mp b;exact (List.getElem_inj hN).mp (e1.trans e2.symm)
theorem Qg {M:Model}{A:ϖ}{E:VSP}{i:Nat}{x:Str}{v:V}{u:δ}{Q:Unit->ξ->Prop}(I:Inv X pJ σ H s) (hN:X.N.Nodup) (hi:X.N[i]?=some x) (hx:Loc X.env.scope x) (r:RelV v u)
  (h:∀ s',Inv X pJ (σ.set i (some v)) H s'->(∃ a,ϭ a s.heap s'.heap/\(a=X.env.locals\/X.env.cells.lookup x=some a))->Q () s') (hf:X.fn x=true\/X.env.scope.names.lookup x=some .local:=by first | exact .inl rfl | exact .inr rfl | assumption):Δ M A (storeName X.env x u) Q E s:=by
 obtain ⟨m,hn,hl⟩:=id I.loc;have hcls:(X.env.scope.kind==.class||(X.env.scope.kind==.module&&X.env.locals != X.env.globals))=false:=by rw [I.ok.kind];rfl
 have hiσ:i < σ.length:=by rw [I.len];exact (Β.mp hi).1
 have cne:=I.cne;have tracked:∀ {a:Addr}{h':Heap},(∃ o,s.heap.get? a=some o/\H a=none)->ϭ a s.heap h'->HOk X.prog X.w H h':=fun {a h'} ha hs b ob e=>by
  obtain ⟨_,_,hfree⟩:=ha;refine (I.hok b ob e).stay (fun c w' hc q=>(hs.2 c ?_).trans q) (fun _ q=>q) fun _ _ q=>q
  rintro rfl;rcases hc with rfl | hc
  ·rw [hfree] at e;cases e
  ·rw [hfree] at hc;cases hc
 rcases hx with hk | hk
 ·refine wpAny_storeName_local hk hn (fun h' hn' hs=>?_) hcls;obtain ⟨oL,_,_,hoL,_⟩:=id hn;refine h _ ⟨I.ok,I.os,I.bare,⟨fun b o e n hb hx=>?_,fun b o e n hb hx=>?_,I.base.free,fun b o e hx=>?_,I.base.tups,I.base.frzs,I.base.tbls⟩,⟨_,hn',fun j y v' e1 e2 e3=>?_⟩,fun y c e=>?_,I.free,I.freeC,fun p hp=>?_,tracked ⟨oL,hoL,I.free⟩ hs,by simpa using I.len⟩ ⟨_,hs,.inl rfl⟩
  ·exact (hs.2 b (ϋ (ϔ (Ε e) I.ok.above))).trans (I.base.keep b o e n hb hx)
  ·obtain ⟨sl,e1⟩:=I.base.slot b o e n hb hx;exact ⟨sl,(hs.2 b (ϋ (ϔ (Ε e) I.ok.above))).trans e1⟩
  ·obtain ⟨o',e1⟩:=I.base.there b o e hx;exact ⟨o',(hs.2 b (ϋ (ϔ (Ε e) I.ok.above))).trans e1⟩
  ·by_cases hj:j=i
   ·subst hj;rw [hi] at e1;cases e1;rw [ϡ hiσ] at e2;cases e2;exact ⟨u,r,.inl ⟨hk,by simp⟩⟩
   ·rw [Μ (dH hj)] at e2;obtain ⟨u',r',q⟩:=hl j y v' e1 e2 e3;refine ⟨u',r',?_⟩;rcases q with ⟨k,e⟩ | ⟨k,c,e,z⟩
    ·refine .inl ⟨k,?_⟩;have:y≠x:=fun e=>hj (Uy hN e1 (e ▸ hi))
     simp [this,e]
    ·exact .inr ⟨k,c,e,z.sameBut hs (cne y c e)⟩
  ·obtain ⟨w',z⟩:=I.cell y c e;exact ⟨w',z.sameBut hs (cne y c e)⟩
  ·obtain ⟨e,n,ne,nf,d⟩:=I.pin p hp;exact ⟨(hs.2 p.1 ne).trans e,n,ne,nf,d⟩
 ·have hfn:X.fn x=true:=by
   rcases hf with z | z
   ·exact z
   ·rw [z] at hk;cases hk
  obtain ⟨c,hc⟩:=I.ok.has x (.inl hk);obtain ⟨w',z⟩:=I.cell x c hc;refine wpAny_storeName_cell I.ok.kind hk hc z (fun h' hc' hs=>?_);obtain ⟨oc,hoc,hocd⟩:=id z;refine h { s with heap:=h' } ⟨I.ok,I.os,I.bare,⟨fun b o e n hb hx=>?_,fun b o e n hb hx=>?_,I.base.free,fun b o e hx=>?_,I.base.tups,I.base.frzs,I.base.tbls⟩,⟨m,hn.sameBut hs (dH (cne x c hc)),fun j y v' e1 e2 e3=>?_⟩,fun y c' e=>?_,I.free,I.freeC,fun p hp=>?_,tracked ⟨oc,hoc,I.freeC x c hc⟩ hs,by simpa using I.len⟩ ⟨c,hs,.inr hc⟩
  ·exact (hs.2 b (ϋ (ϔ (Ε e) (I.ok.cab x c hfn hc)))).trans (I.base.keep b o e n hb hx)
  ·obtain ⟨sl,e1⟩:=I.base.slot b o e n hb hx;exact ⟨sl,(hs.2 b (ϋ (ϔ (Ε e) (I.ok.cab x c hfn hc)))).trans e1⟩
  ·obtain ⟨o',e1⟩:=I.base.there b o e hx;exact ⟨o',(hs.2 b (ϋ (ϔ (Ε e) (I.ok.cab x c hfn hc)))).trans e1⟩
  ·by_cases hj:j=i
   ·subst hj;rw [hi] at e1;cases e1;rw [ϡ hiσ] at e2;cases e2;exact ⟨u,r,.inr ⟨.inl hk,c,hc,hc'⟩⟩
   ·rw [Μ (dH hj)] at e2;obtain ⟨u',r',q⟩:=hl j y v' e1 e2 e3;refine ⟨u',r',?_⟩;rcases q with q | ⟨k,c',e,z'⟩
    ·exact .inl q
    ·refine .inr ⟨k,c',e,z'.sameBut hs ?_⟩;rintro rfl;exact hj (Uy hN e1 (I.ok.inj _ _ _ e hc ▸ hi))
  ·by_cases hcc:c'=c
   ·subst hcc;exact ⟨_,hc'⟩
   ·obtain ⟨w2,z2⟩:=I.cell y c' e;exact ⟨w2,z2.sameBut hs hcc⟩
  ·obtain ⟨e,n,ne,nf,d⟩:=I.pin p hp;refine ⟨(hs.2 p.1 ?_).trans e,n,ne,nf,d⟩;intro q;rw [q,hoc] at e;have q':oc=p.2:=ϐ e;exact d w' (by rw [<- q'];exact hocd)
theorem zbM {M:Model}{A:ϖ}{E:VSP}{i:Nat}{x:Str}{v:V}{u:δ}{Q:Unit->ξ->Prop}(I:Inv X pJ σ H s) (hN:X.N.Nodup) (hi:X.N[i]?=some x) (hx:Loc X.env.scope x) (r:RelV v u)
  (h:∀ s',Inv X pJ (σ.set i (some v)) H s'->Q () s') (hf:X.fn x=true\/X.env.scope.names.lookup x=some .local:=by first | exact .inl rfl | exact .inr rfl | assumption):Δ M A (storeName X.env x u) Q E s:=
 Qg I hN hi hx r (fun s' I' _=>h s' I') hf
theorem Inv.call' {s':ξ}{ch:List Addr}(I:Inv X pJ σ H s) (ho:s'.os=s.os) (u:Un (frs X.stack) ch H H' s.heap s'.heap) (hok:HOk X.prog X.w H' s'.heap) (hg:iz s'.gens)
  (hch:∀ b∈ch,(b∈X.ex\/X.sy.heap.objs.size<=b)/\b≠X.env.locals/\(∀ x c,X.env.cells.lookup x=some c->c≠b)/\∀ p∈X.pn++pJ,p.1≠b):Inv X pJ σ H' s':=by obtain ⟨h',g',d',t',o'⟩:=s';have e:o'=s.os:=ho;subst e;exact I.call (g':=g') (t':=t') (d':=d') u hok hg hch
end
abbrev XK:=δ->Option Addr->Hp->Prop
abbrev St:=List (Option V)
abbrev VK:=V->Hp->Prop
abbrev TE:=St->Hp->VK->Prop
abbrev TT:=St->Hp->(Bool->Hp->Prop)->Prop
abbrev TA:=St->Hp->(List V->Hp->Prop)->Prop
structure Ends where
 nx:St->Hp->Prop
 rt:VK
 bk:St->Hp->Prop:=fun _ _=>False
 ct:St->Hp->Prop:=fun _ _=>False
abbrev TS:=Ends->St->Hp->Prop
def EP (X:Cx) (pJ:List (Addr×Obj)) (σ:St) (Q:VK) (u:δ) (s':ξ):Prop:=∃ v H',Inv X pJ σ H' s'/\RelV v u/\Q v H'
def TP (X:Cx) (pJ:List (Addr×Obj)) (σ:St) (Q:Bool->Hp->Prop) (b:Bool) (s':ξ):Prop:=∃ H',Inv X pJ σ H' s'/\Q b H'
def AP (X:Cx) (pJ:List (Addr×Obj)) (σ:St) (Q:List V->Hp->Prop) (us:List δ) (s':ξ):Prop:=∃ vs H',Inv X pJ σ H' s'/\Vals vs us/\Q vs H'
def SP (X:Cx) (pJ:List (Addr×Obj)) (D:Ends) (f:Flow) (s':ξ):Prop:=
 match f with
 | .next=>∃ σ' H',Inv X pJ σ' H' s'/\D.nx σ' H'
 | .brk=>∃ σ' H',Inv X pJ σ' H' s'/\D.bk σ' H'
 | .cont=>∃ σ' H',Inv X pJ σ' H' s'/\D.ct σ' H'
 | .ret u=>∃ v σ' H',Inv X pJ σ' H' s'/\RelV v u/\D.rt v H'
def PE (X:Cx) (e:Expr) (t:TE):Prop:=
 ∀ (pJ:List (Addr×Obj)) (s:ξ) (σ:St) (H:Hp) (Q:VK),Inv X pJ σ H s->t σ H Q->Δ (Λ X.prog X.w) X.A (eval e X.env) (EP X pJ σ Q) X.xe s
def PT (X:Cx) (e:Expr) (t:TT):Prop:=
 ∀ (pJ:List (Addr×Obj)) (s:ξ) (σ:St) (H:Hp) (Q:Bool->Hp->Prop),Inv X pJ σ H s->t σ H Q->Δ (Λ X.prog X.w) X.A (lV e X.env (eval e X.env)) (TP X pJ σ Q) X.xe s
def PW (X:Cx) (e:Expr) (t:TT):Prop:=
 ∀ (whole:Sem δ) (pJ:List (Addr×Obj)) (s:ξ) (σ:St) (H:Hp) (Q:Bool->Hp->Prop),Inv X pJ σ H s->t σ H Q->Δ (Λ X.prog X.w) X.A (lV e X.env whole) (TP X pJ σ Q) X.xe s
theorem PW.pt {X:Cx}{e:Expr}{t:TT}(h:PW X e t):PT X e t:=h _
def PA (X:Cx) (es:List Expr) (t:TA):Prop:=
 ∀ (pos:Pos) (pJ:List (Addr×Obj)) (s:ξ) (σ:St) (H:Hp) (Q:List V->Hp->Prop),Inv X pJ σ H s->t σ H Q->Δ (Λ X.prog X.w) X.A (spliced (dR pos (ϟ es X.env))) (AP X pJ σ Q) X.xe s
def PS (X:Cx) (st:Stmt) (t:TS):Prop:=
 ∀ (pJ:List (Addr×Obj)) (s:ξ) (σ:St) (H:Hp) (D:Ends),Inv X pJ σ H s->t D σ H->Δ (Λ X.prog X.w) X.A (exec st X.env) (SP X pJ D) X.xe s
def PSs (X:Cx) (st:List Stmt) (t:TS):Prop:=
 ∀ (pJ:List (Addr×Obj)) (s:ξ) (σ:St) (H:Hp) (D:Ends),Inv X pJ σ H s->t D σ H->Δ (Λ X.prog X.w) X.A (execs st X.env) (SP X pJ D) X.xe s
theorem thn {α:Type}{t:Sem α}{Q Q':α->ξ->Prop}{M:Model}{A:ϖ}{E:VSP}{s:ξ}(h:Δ M A t Q E s) (hQ:∀ a s,Q a s->Q' a s):Δ M A t Q' E s:=bG h hQ fun _ _ x=>x
section
variable {X:Cx}
theorem bin {a b:Expr}{ta tb:TE}(ha:PE X a ta) (hb:PE X b tb) {pJ:List (Addr×Obj)}{s:ξ}{σ:St}{H:Hp}{R:V->V->Hp->Prop}(I:Inv X pJ σ H s) (h:ta σ H fun x H1=>tb σ H1 fun y H2=>R x y H2)
  {α:Type}{Q:α->ξ->Prop}{f:δ->δ->Sem α}
  (hf:∀ v u s2 x y H2,Inv X pJ σ H2 s2->RelV x v->RelV y u->R x y H2->Δ (Λ X.prog X.w) X.A (f v u) Q X.xe s2):
  Δ (Λ X.prog X.w) X.A (eval a X.env) (fun v s₁=>Δ (Λ X.prog X.w) X.A (eval b X.env) (fun u s₂=>Δ (Λ X.prog X.w) X.A (f v u) Q X.xe s₂) X.xe s₁) X.xe s:=by
 refine thn (ha pJ s σ H _ I h) fun v s1 ⟨x,H1,I1,r1,q1⟩=>?_
 refine thn (hb pJ s1 σ H1 _ I1 q1) fun u s2 ⟨y,H2,I2,r2,q2⟩=>?_
 exact hf v u s2 x y H2 I2 r1 r2 q2
def tVar (i:Nat):TE:=fun σ H Q=>∃ v,σ[i]?=some (some v)/\Q v H
def tC (v:V):TE:=fun _ H Q=>Q v H
theorem qp {i:Nat}{x:Str}{pos:Pos}(hN:X.N[i]?=some x) (hv:Vis X.env.scope x) (hd:(x==("__debug__":Str))=false:=by decide) (hcd:(x==("__classdict__":Str))=false:=by decide):PE X (.Name x pos) (tVar i):=by
 intro pJ s σ H Q I h;obtain ⟨v,e,h⟩:=h;obtain ⟨m,hn,hl⟩:=I.loc;obtain ⟨u,r,l⟩:=hl i x v hN e hv;have fin:EP X pJ σ Q u s:=⟨v,H,I,r,h⟩
 rcases l with ⟨hk,hm⟩ | ⟨hk,c,hc,hcell⟩
 ·exact wpAny_Name (wpAny_loadName_local I.ok.kind hk hn hm fin) hd
 ·rcases hk with hk | hk
  ·exact wpAny_Name (wpAny_loadName_cell I.ok.kind hk hc hcell fin) hd
  ·exact wpAny_Name (wpAny_loadName_free I.ok.kind hk hc hcell fin hcd) hd
theorem zdn {i j pos}:PE X (.Constant (.int i) j pos) (tC (.int i)):=fun _ _ _ H _ I h=>wpAny_Constant_int ⟨.int i,H,I.tok _,⟨_,rfl⟩,h⟩
theorem zkd {b j pos}:PE X (.Constant (.bool b) j pos) (tC (.bl b)):=fun _ _ _ H _ I h=>Constant_bool ⟨.bl b,H,I,rfl,h⟩
theorem zhx {j pos}:PE X (.Constant .none j pos) (tC .non):=fun _ _ _ H _ I h=>Constant_none ⟨.non,H,I,rfl,h⟩
theorem Q3 {x j pos}:PE X (.Constant (.str x) j pos) (tC (.str x)):=fun _ _ _ H _ I h=>Calls.Constant_str ⟨.str x,H,I.tok _,⟨_,rfl⟩,h⟩
def Gl (X:Cx) (x:Str):Prop:=X.env.kindOf x=some .globalImplicit
theorem jy {E:VSP}{pJ:List (Addr×Obj)}{s:ξ}{σ:St}{H:Hp}{x:Str}{u:δ}{pos:Pos}{Q:VSP}(I:Inv X pJ σ H s) (hg:Gl X x) (hm:X.mg x=some u) (h:Q u s)
  (hd:(x==("__debug__":Str))=false:=by decide):Δ (Λ X.prog X.w) X.A (eval (.Name x pos) X.env) Q E s:=
 nR I.ok.kind hg (Calls.loadGlobal_global (by rw [I.ok.glob];exact I.mod.glob.keeps I.bk) hm h) hd
theorem qC {E:VSP}{pJ:List (Addr×Obj)}{s:ξ}{σ:St}{H:Hp}{x:Str}{u:δ}{pos:Pos}{Q:VSP}(I:Inv X pJ σ H s) (hg:Gl X x) (hm:X.mg x=none) (hv:cX x=some u) (h:Q u s)
  (hn:x≠"__name__":=by decide) (hd:(x==("__debug__":Str))=false:=by decide):Δ (Λ X.prog X.w) X.A (eval (.Name x pos) X.env) Q E s:=by obtain ⟨mb,h1,h2⟩:=I.mod.blt;exact nR I.ok.kind hg (Calls.loadGlobal_builtin (by rw [I.ok.glob];exact I.mod.glob.keeps I.bk) hm (by rw [I.ok.blt];exact h1.keeps I.bk) ((h2 x hn).trans hv) h) hd
theorem zeQ {x:Str}{v:V}{u:δ}{pos:Pos}(hg:Gl X x) (hm:X.mg x=some u) (r:RelV v u) (hd:(x==("__debug__":Str))=false:=by decide):PE X (.Name x pos) (tC v):=
 fun _ _ _ H _ I h=>jy I hg hm ⟨v,H,I,r,h⟩ hd
theorem zeV {x:Str}{v:V}{u:δ}{pos:Pos}(hg:Gl X x) (hm:X.mg x=none) (hv:cX x=some u) (r:RelV v u) (hn:x≠"__name__":=by decide) (hd:(x==("__debug__":Str))=false:=by decide):PE X (.Name x pos) (tC v):=
 fun _ _ _ H _ I h=>qC I hg hm hv ⟨v,H,I,r,h⟩ hn hd
variable {a b:Expr}{ta tb:TE}{pos:Pos}
def tB (t:TE):TT:=fun σ H Q=>t σ H fun x H1=>∃ c,x=.bl c/\Q c H1
theorem zhl {e:Expr}{t:TE}(h:PE X e t) (he:∀ whole,lV e X.env whole=(do let v <- whole;standAt e.pos;ig [v] (truthy v)):=by intro _;rfl):PT X e (tB t):=by intro pJ s σ H Q I hw;refine isTrue_plain (thn (h pJ s σ H _ I hw) fun v s1 ⟨x,H1,I1,r1,q1⟩=>?_) (he _);obtain ⟨d,rfl,q⟩:=q1;cases r1;exact aO ⟨H1,I1,q⟩
variable {tA tB':TT}{rest:List Expr}
def tAnd (t u:TT):TT:=fun σ H Q=>t σ H fun c H1=>if c=true then u σ H1 Q else Q false H1
def tOr (t u:TT):TT:=fun σ H Q=>t σ H fun c H1=>if c=true then Q true H1 else u σ H1 Q
def tNot (t:TT):TT:=fun σ H Q=>t σ H fun c H1=>Q (!c) H1
theorem zeA (ha:PT X a tA):PW X (.BoolOp .And [a] pos) tA:=by
 intro wh pJ s σ H Q I h;refine isTrue_and (thn (ha pJ s σ H Q I h) fun c s1 e=>?_);cases c with
 | true=>exact isTrue_and_nil e
 | false=>exact e
theorem zhh (ha:PT X a tA):PW X (.BoolOp .Or [a] pos) tA:=by
 intro wh pJ s σ H Q I h;refine isTrue_or (thn (ha pJ s σ H Q I h) fun c s1 e=>?_);cases c with
 | false=>exact isTrue_or_nil e
 | true=>exact e
theorem zhj (ha:PT X a tA) (hb:PW X (.BoolOp .And (b::rest) pos) tB'):PW X (.BoolOp .And (a::b::rest) pos) (tAnd tA tB'):=by
 intro wh pJ s σ H Q I h;refine isTrue_and (thn (ha pJ s σ H _ I h) fun c s1 ⟨H1,I1,q1⟩=>?_);cases c with
 | true=>exact hb wh pJ s1 σ H1 Q I1 q1
 | false=>exact ⟨H1,I1,q1⟩
theorem zj7 (ha:PT X a tA) (hb:PW X (.BoolOp .Or (b::rest) pos) tB'):PW X (.BoolOp .Or (a::b::rest) pos) (tOr tA tB'):=by
 intro wh pJ s σ H Q I h;refine isTrue_or (thn (ha pJ s σ H _ I h) fun c s1 ⟨H1,I1,q1⟩=>?_);cases c with
 | true=>exact ⟨H1,I1,q1⟩
 | false=>exact hb wh pJ s1 σ H1 Q I1 q1
theorem zhm (ha:PT X a tA):PT X (.UnaryOp .Not a pos) (tNot tA):=by intro pJ s σ H Q I h;exact isTrue_not (ha pJ s σ H (fun c H1=>Q (!c) H1) I h)
def zjp (ta tb:TE):TE:=fun σ H Q=>ta σ H fun x H1=>∃ c,x=.bl c/\if c=true then tb σ H1 Q else Q (.bl false) H1
def tOrV (ta tb:TE):TE:=fun σ H Q=>ta σ H fun x H1=>∃ c,x=.bl c/\if c=true then Q (.bl true) H1 else tb σ H1 Q
def zjj (ta:TE):TE:=fun σ H Q=>ta σ H fun x H1=>∃ c,x=.bl c/\Q (.bl (!c)) H1
theorem zhv {op} {t:TE}(h:PE X a t):PE X (.BoolOp op [a] pos) t:=fun pJ s σ H Q I hw=>BoolOp_one (h pJ s σ H Q I hw)
theorem zhB (ha:PE X a ta) (hb:PE X (.BoolOp .And (b::rest) pos) tb):PE X (.BoolOp .And (a::b::rest) pos) (zjp ta tb):=by
 intro pJ s σ H Q I h;refine BoolOp_and (thn (ha pJ s σ H _ I h) fun v s1 ⟨x,H1,I1,r1,q1⟩=>?_);obtain ⟨c,rfl,q1⟩:=q1;cases r1;refine aO ?_;cases c with
 | true=>exact hb pJ s1 σ H1 Q I1 q1
 | false=>exact ⟨.bl false,H1,I1,rfl,q1⟩
theorem zka (ha:PE X a ta) (hb:PE X (.BoolOp .Or (b::rest) pos) tb):PE X (.BoolOp .Or (a::b::rest) pos) (tOrV ta tb):=by
 intro pJ s σ H Q I h;refine BoolOp_or (thn (ha pJ s σ H _ I h) fun v s1 ⟨x,H1,I1,r1,q1⟩=>?_);obtain ⟨c,rfl,q1⟩:=q1;cases r1;refine aO ?_;cases c with
 | false=>exact hb pJ s1 σ H1 Q I1 q1
 | true=>exact ⟨.bl true,H1,I1,rfl,q1⟩
theorem zhw (ha:PE X a ta):PE X (.UnaryOp .Not a pos) (zjj ta):=by intro pJ s σ H Q I h;refine UnaryOp_ (thn (ha pJ s σ H _ I h) fun v s1 ⟨x,H1,I1,r1,q1⟩=>?_);obtain ⟨c,rfl,q1⟩:=q1;cases r1;exact not_of (aO ⟨.bl (!c),H1,I1,rfl,q1⟩)
def tIf (t:TT) (ta tb:TE):TE:=fun σ H Q=>t σ H fun c H1=>if c=true then ta σ H1 Q else tb σ H1 Q
theorem zca {c:Expr}(hc:PT X c tA) (ha:PE X a ta) (hb:PE X b tb):PE X (.IfExp c a b pos) (tIf tA ta tb):=by
 intro pJ s σ H Q I h;refine wpAny_IfExp (thn (hc pJ s σ H _ I h) fun d s1 ⟨H1,I1,q1⟩=>?_);cases d with
 | true=>exact ha pJ s1 σ H1 Q I1 q1
 | false=>exact hb pJ s1 σ H1 Q I1 q1
end
def SqL (K:W.Frag) (H:Hp) (a:Addr) (xs:List V):Prop:=
 Rd H a (.lst xs) \/
  ∃ (o:Obj) (its:Array δ) (n:Nat),K.lookup a=some o/\o.cls=.type "list"/\o.dict=none/\o.data=.seq its n/\its.size<=sizeLine/\Vals xs its.toList
def SqT (K:W.Frag) (H:Hp) (a:Addr) (xs:List V):Prop:=
 Rd H a (.tup xs) \/
  ∃ (o:Obj) (its:Array δ) (n:Nat),K.lookup a=some o/\o.cls=.type "tuple"/\o.data=.seq its n/\its.size<=sizeLine/\Vals xs its.toList
noncomputable def absV:δ->Option V
 | .none=>some .non
 | .bool b=>some (.bl b)
 | .int i _=>some (.int i)
 | .str x _=>some (.str x)
 | .bytes b _=>some (.byt b)
 | .float b _=>some (.flt b)
 | .ref a=>some (.ref a)
 | .type n=>some (.ty n)
 | _=>none
theorem RelV.abs {x:V}{u:δ}(r:RelV x u):absV u=some x:=by
 cases x with
 | non=>cases r;rfl
 | bl _=>cases r;rfl
 | int _=>obtain ⟨t,rfl⟩:=r;rfl
 | str _=>obtain ⟨t,rfl⟩:=r;rfl
 | byt _=>obtain ⟨t,rfl⟩:=r;rfl
 | flt _=>obtain ⟨t,rfl⟩:=r;rfl
 | ref _=>cases r;rfl
 | ty _=>cases r;rfl
theorem RelV.inj {x y:V}{u:δ}(r:RelV x u) (q:RelV y u):x=y:=ϐ (r.abs.symm.trans q.abs)
theorem Vals.inj:∀ {xs ys:List V}{us:List δ},Vals xs us->Vals ys us->xs=ys
 | _,_,_,.nil,.nil=>rfl
 | _,_,_,.cons r t,.cons r' t'=>by rw [r.inj r',Vals.inj t t']
section
variable {X:Cx}{pJ:List (Addr×Obj)}{σ:St}{H:Hp}{s:ξ}{a:Addr}{xs ys:List V}
theorem SqL.of {K:W.Frag}(h:H a=some (.lst xs)):SqL K H a xs:=.inl (.inl h)
theorem SqT.of {K:W.Frag}(h:H a=some (.tup xs)):SqT K H a xs:=.inl (.inl h)
theorem Inv.list (I:Inv X pJ σ H s) (h:SqL X.K H a xs):∃ its:List δ,Vals xs its/\PlainL s.heap a its.toArray/\xs.length<=sizeLine:=by
 rcases h with h | ⟨o,its,n,hk,hc,hd,hs,hz,r⟩
 ·obtain ⟨z,its,n,r,e⟩:=h.ok I.hok;exact ⟨its,r,⟨_,n,e,rfl,rfl,rfl⟩,z⟩
 ·refine ⟨its.toList,r,⟨o,n,I.kIn a o hk,hc,hd,by simpa using hs⟩,?_⟩;have e:=r.length;simp only [Ξ] at e;lia
theorem Inv.tuple (I:Inv X pJ σ H s) (h:SqT X.K H a xs):∃ its:List δ,Vals xs its/\lD s.heap a its.toArray/\xs.length<=sizeLine:=by
 rcases h with h | ⟨o,its,n,hk,hc,hs,hz,r⟩
 ·obtain ⟨z,its,r,p⟩:=h.ok I.hok;exact ⟨its,r,p,z⟩
 ·refine ⟨its.toList,r,⟨o,I.kIn a o hk,hc,n,by simpa using hs⟩,?_⟩;have e:=r.length;simp only [Ξ] at e;lia
theorem Inv.UW (I:Inv X pJ σ H s) (h:SqL X.K H a xs) (h':SqL X.K H a ys):xs=ys:=by
 obtain ⟨its,r,⟨o,n,e,_,_,d⟩,_⟩:=I.list h;obtain ⟨its',r',⟨o',n',e',_,_,d'⟩,_⟩:=I.list h';rw [e] at e';cases e';rw [d] at d'
 injection d' with d1 _
 have:its=its':=by simpa using congrArg Array.toList d1
 subst this;exact r.inj r'
theorem Inv.K6 (I:Inv X pJ σ H s) (h:SqT X.K H a xs) (h':SqT X.K H a ys):xs=ys:=by
 obtain ⟨its,r,⟨o,e,_,n,d⟩,_⟩:=I.tuple h;obtain ⟨its',r',⟨o',e',_,n',d'⟩,_⟩:=I.tuple h';rw [e] at e';cases e';rw [d] at d'
 injection d' with d1 _
 have:its=its':=by simpa using congrArg Array.toList d1
 subst this;exact r.inj r'
end
noncomputable abbrev Cx.wish (X:Cx) (E:VSP):Cx:={ X with xe:=E }
noncomputable abbrev Cx.nox (X:Cx):Cx:=X.wish fun _ _=>False
theorem Cx.Ok.wish {X:Cx}(ok:X.Ok) (E:VSP):(X.wish E).Ok:=
 ⟨ok.mod,ok.kind,ok.glob,ok.blt,ok.above,ok.inj,ok.has,ok.cab,ok.hd,ok.frames,ok.stk,ok.exf,ok.bs,ok.bsz,ok.noex,ok.exfs,ok.funs,ok.frf⟩
theorem Cx.Ok.wj {X:Cx}{E:VSP}(ok:(X.wish E).Ok):X.Ok:=
 ⟨ok.mod,ok.kind,ok.glob,ok.blt,ok.above,ok.inj,ok.has,ok.cab,ok.hd,ok.frames,ok.stk,ok.exf,ok.bs,ok.bsz,ok.noex,ok.exfs,ok.funs,ok.frf⟩
section
variable {X:Cx}{pJ:List (Addr×Obj)}{σ:St}{H:Hp}{s:ξ}{E:VSP}
theorem Inv.wish (I:Inv X pJ σ H s) (E:VSP):Inv (X.wish E) pJ σ H s:=⟨I.ok.wish E,I.os,I.bare,I.base,I.loc,I.cell,I.free,I.freeC,I.pin,I.hok,I.len⟩
theorem Inv.wj (I:Inv (X.wish E) pJ σ H s):Inv X pJ σ H s:=⟨I.ok.wj,I.os,I.bare,I.base,I.loc,I.cell,I.free,I.freeC,I.pin,I.hok,I.len⟩
theorem SP.wj {D:Ends}{f:Flow}{s':ξ}(h:SP (X.wish E) pJ D f s'):SP X pJ D f s':=by
 cases f with
 | next=>obtain ⟨σ',H',I,q⟩:=h;exact ⟨σ',H',I.wj,q⟩
 | brk=>obtain ⟨σ',H',I,q⟩:=h;exact ⟨σ',H',I.wj,q⟩
 | cont=>obtain ⟨σ',H',I,q⟩:=h;exact ⟨σ',H',I.wj,q⟩
 | ret u=>obtain ⟨v,σ',H',I,r,q⟩:=h;exact ⟨v,σ',H',I.wj,r,q⟩
theorem PE.nox {e:Expr}{t:TE}(h:PE X.nox e t):PE X e t:=fun pJ s σ H Q I hw=>
 bG (h pJ s σ H Q (I.wish _) hw) (fun _ _ ⟨v,H',I',r,q⟩=>⟨v,H',I'.wj,r,q⟩) fun _ _ z=>ϩ z
theorem PT.nox {e:Expr}{t:TT}(h:PT X.nox e t):PT X e t:=fun pJ s σ H Q I hw=>
 bG (h pJ s σ H Q (I.wish _) hw) (fun _ _ ⟨H',I',q⟩=>⟨H',I'.wj,q⟩) fun _ _ z=>ϩ z
theorem PSs.nox {st:List Stmt}{t:TS}(h:PSs X.nox st t):PSs X st t:=fun pJ s σ H D I hw=>
 bG (h pJ s σ H D (I.wish _) hw) (fun _ _ q=>q.wj) fun _ _ z=>ϩ z
end
section
variable {X:Cx}{st:Stmt}{rest:List Stmt}{t u:TS}{e:Expr}{te:TE}{pos:Pos}
def zgA:TS:=fun D σ H=>D.nx σ H
def tSeq (t u:TS):TS:=fun D σ H=>t { D with nx:=u D } σ H
theorem zeH:PSs X [] zgA:=fun _ _ σ H _ I h=>pq ⟨σ,H,I,h⟩
theorem zb3 (h1:PS X st t) (h2:PSs X rest u):PSs X (st::rest) (tSeq t u):=by
 intro pJ s σ H D I h;refine wpAny_execs_cons (thn (h1 pJ s σ H { D with nx:=u D } I h) fun f s1 q=>?_);cases f with
 | next=>
  obtain ⟨σ',H',I',q⟩:=q;exact h2 pJ s1 σ' H' D I' q
 | ret v=>exact q
 | brk=>exact q
 | cont=>exact q
def zgF:TS:=fun D σ H=>D.bk σ H
def zjn:TS:=fun D σ H=>D.ct σ H
theorem zeJ:PS X (.Pass pos) zgA:=fun _ _ σ H _ I h=>wpAny_Pass ⟨σ,H,I,h⟩
theorem zb5:PS X (.Break pos) zgF:=fun _ _ σ H _ I h=>wpAny_Break ⟨σ,H,I,h⟩
theorem WW:PS X (.Continue pos) zjn:=fun _ _ σ H _ I h=>wpAny_Continue ⟨σ,H,I,h⟩
theorem Inv.quiet {pJ:List (Addr×Obj)}{σ:St}{H:Hp}{s:ξ}(I:Inv X pJ σ H s):interactive X.env=false:=by simp [interactive,I.ok.kind]
def zjl (te:TE):TS:=fun D σ H=>te σ H fun _ H1=>D.nx σ H1
theorem WT (he:PE X e te) (hs:eZ e none pos.line X.env=pure false:=by rfl):PS X (.Expr e pos) (zjl te):=by intro pJ s σ H D I h;exact wpAny_Expr_any (thn (he pJ s σ H _ I h) fun v s1 ⟨x,H1,I1,r1,q1⟩=>⟨σ,H1,I1,q1⟩) I.quiet hs
def tRet (te:TE):TS:=fun D σ H=>te σ H D.rt
theorem zdl (he:PE X e te):PS X (.Return (some e) pos) (tRet te):=by intro pJ s σ H D I h;exact wpAny_Return_some (thn (he pJ s σ H _ I h) fun v s1 ⟨x,H1,I1,r1,q1⟩=>⟨x,σ,H1,I1,r1,q1⟩)
def zjh:TS:=fun D _ H=>D.rt .non H
theorem zeI:PS X (.Return none pos) zjh:=fun _ _ σ H _ I h=>wpAny_Return_none ⟨.non,σ,H,I,rfl,h⟩
def tIfS (c:TT) (t u:TS):TS:=fun D σ H=>c σ H fun b H1=>if b=true then t D σ H1 else u D σ H1
theorem zj9 {c:Expr}{a b:List Stmt}{tc:TT}(hc:PT X c tc) (ha:PSs X a t) (hb:PSs X b u):PS X (.If c a b pos) (tIfS tc t u):=by
 intro pJ s σ H D I h;refine wpAny_If (thn (hc pJ s σ H _ I h) fun d s1 ⟨H1,I1,q1⟩=>?_);cases d with
 | true=>exact ha pJ s1 σ H1 D I1 q1
 | false=>exact hb pJ s1 σ H1 D I1 q1
end
abbrev TG:=V->St->Hp->(St->Hp->Prop)->Prop
abbrev TGs:=List V->St->Hp->(St->Hp->Prop)->Prop
def PG (X:Cx) (target:Expr) (t:TG):Prop:=
 ∀ (pJ:List (Addr×Obj)) (s:ξ) (σ:St) (H:Hp) (v:V) (u:δ) (Q:St->Hp->Prop),Inv X pJ σ H s->RelV v u->t v σ H Q ->
  Δ (Λ X.prog X.w) X.A (iG target X.env u) (fun _ s'=>∃ σ' H',Inv X pJ σ' H' s'/\Q σ' H') X.xe s
def PGs (X:Cx) (ts:List Expr) (t:TGs):Prop:=
 ∀ (pJ:List (Addr×Obj)) (s:ξ) (σ:St) (H:Hp) (vs:List V) (us:List δ) (Q:St->Hp->Prop),Inv X pJ σ H s->Vals vs us->t vs σ H Q ->
  Δ (Λ X.prog X.w) X.A (assignInOrder ((bM ts X.env).map (·.2)) us) (fun _ s'=>∃ σ' H',Inv X pJ σ' H' s'/\Q σ' H') X.xe s
abbrev TSet:=V->V->V->Hp->(Hp->Prop)->Prop
def PSet (X:Cx) (t:TSet):Prop:=
 ∀ (pJ:List (Addr×Obj)) (s:ξ) (σ:St) (H:Hp) (o i v:V) (ov iv u:δ) (Q:Hp->Prop),Inv X pJ σ H s->RelV o ov->RelV i iv->RelV v u->t o i v H Q ->
  Δ (Λ X.prog X.w) X.A (setItem ov iv u) (fun _ s'=>∃ H',Inv X pJ σ H' s'/\Q H') X.xe s
section
variable {X:Cx}{pos:Pos}
def Xq (i:Nat):TG:=fun v σ H Q=>Q (σ.set i (some v)) H
theorem Q0 {i:Nat}{x:Str}(hN:X.N.Nodup) (hi:X.N[i]?=some x) (hx:Loc X.env.scope x) (hf:X.fn x=true\/X.env.scope.names.lookup x=some .local:=by first | exact .inl rfl | exact .inr rfl | assumption):PG X (.Name x pos) (Xq i):=by intro pJ s σ H v u Q I r h;exact wpAny_assign_Name (zbM I hN hi hx r (fun s' I'=>⟨_,H,I',h⟩) hf)
def gNil:TGs:=fun vs σ H Q=>vs=[]/\Q σ H
def zcE (t:TG) (u:TGs):TGs:=fun vs σ H Q=>∃ v r,vs=v::r/\t v σ H fun σ' H'=>u r σ' H' Q
theorem QX:PGs X [] gNil:=by intro pJ s σ H vs us Q I r h;obtain ⟨e,h⟩:=h;subst e;cases r;exact assignInOrder_nil ⟨σ,H,I,h⟩
theorem Zw {e:Expr}{es:List Expr}{t:TG}{u:TGs}(h1:PG X e t) (h2:PGs X es u)
  (hs:(bM (e::es) X.env).map (·.2)=iG e X.env::(bM es X.env).map (·.2):=by rfl):PGs X (e::es) (zcE t u):=by
 intro pJ s σ H vs us Q I r h;obtain ⟨v,vr,e1,h⟩:=h;subst e1;cases r with
 | cons r rr=>
  rw [hs];refine assignInOrder_cons (thn (h1 pJ s σ H _ _ _ I r h) fun _ s1 ⟨σ1,H1,I1,q1⟩=>?_);exact h2 pJ s1 σ1 H1 _ _ Q I1 rr q1
def gTup (K:W.Frag) (n:Nat) (t:TGs):TG:=fun v σ H Q=>∃ a xs,v=.ref a/\SqT K H a xs/\xs.length=n/\t xs σ H Q
theorem QZ {es:List Expr}{k:Nat}{t:TGs}{n:Nat}(hc:X.calm=true) (h:PGs X es t)
  (hn:(bM es X.env).length=n:=by rfl) (hst:(bM es X.env).findIdx? (·.1)=none:=by rfl):PG X (.Tuple es k pos) (gTup X.K n t):=by
 intro pJ s σ H v u Q I r hw;obtain ⟨a,xs,e1,hq,hl,hw⟩:=hw;subst e1;cases r;obtain ⟨its,rv,ht,hz⟩:=I.tuple hq;refine assign_Tuple_tuple (I.ok.hd hc) ht (by simp [hn,<- hl,rv.length]) hst fun h' hx=>?_
 have I1:Inv X pJ σ H { s with heap:=h' }:=I.kept (t':=s.toks) fun b o e=>hx b o (ϋ (Ε e)) e
 exact h pJ _ σ H xs _ Q I1 (by simpa using rv) hw
def gSub (to ti:TE) (t:TSet):TG:=fun v σ H Q=>to σ H fun o H1=>ti σ H1 fun i H2=>t o i v H2 fun H3=>Q σ H3
theorem zht {o i:Expr}{to ti:TE}{t:TSet}(ho:PE X o to) (hi:PE X i ti) (hs:PSet X t)
  (ha:∀ v,iG (.Subscript o i pos) X.env v=(do
   let ov <- ig [v] (eval o X.env)
   let iv <- ig [v,ov] (eval i X.env)
   standAt pos
   ig [v,ov,iv] (setItem ov iv v)
   release [v,ov,iv] []):=by intro _;rfl):PG X (.Subscript o i pos) (gSub to ti t):=by intro pJ s σ H v u Q I r h;rw [ha];refine γ (ao (thn (ho pJ s σ H _ I h) fun ov s1 ⟨x,H1,I1,r1,q1⟩=>?_));refine γ (ao (thn (hi pJ s1 σ H1 _ I1 q1) fun iv s2 ⟨y,H2,I2,r2,q2⟩=>?_));refine γ (iB (γ (ao (thn (hs pJ s2 σ H2 x y v ov iv u _ I2 r1 r2 r q2) fun _ s3 ⟨H3,I3,q3⟩=>?_))));exact wpAny_release ⟨σ,H3,I3,q3⟩
def tAsg (te:TE) (g:TG):TS:=fun D σ H=>te σ H fun x H1=>g x σ H1 D.nx
theorem QQ {tg e:Expr}{te:TE}{g:TG}(he:PE X e te) (hg:PG X tg g) (hs:eE [tg] e pos.line X.env=pure false:=by rfl) (hw:dq [tg] e X.env=pure none:=by rfl)
  (h1:(bM [tg] X.env).map (·.2)=[iG tg X.env]:=by rfl):PS X (.Assign [tg] e pos) (tAsg te g):=by intro pJ s σ H D I h;refine wpAny_Assign_stores (thn (he pJ s σ H _ I h) fun v s1 ⟨x,H1,I1,r1,q1⟩=>?_) hs hw;rw [h1];exact thn (hg pJ s1 σ H1 x v _ I1 r1 q1) fun _ s2 q=>q
def zgy (c:TT) (tb:TS):TS:=fun D σ H=>∃ W:Nat->St->Hp->Prop,(∃ m,W m σ H)/\∀ m σ H,W m σ H ->
 c σ H fun b H1=>if b=true then ∃ N:St->Hp->Prop,(∀ σ' H',N σ' H'->∃ m',m' < m/\W m' σ' H')/\tb { D with nx:=N,ct:=N,bk:=D.nx } σ H1 else D.nx σ H1
theorem zb4 {c:Expr}{body:List Stmt}{tc:TT}{tb:TS}(hp:mD (Λ X.prog X.w) X.A X.env X.xe) (hc:PT X c tc) (hb:PSs X body tb):PS X (.While c body [] pos) (zgy tc tb):=by
 intro pJ s σ H D I h;obtain ⟨W,⟨m0,w0⟩,turn⟩:=h;refine wpAny_While (codeAny_whileLoop (fun n s'=>∃ σ' H',Inv X pJ σ' H' s'/\W n σ' H') ?_ m0 ⟨σ,H,I,w0⟩);rintro n s1 ⟨σ1,H1,I1,w1⟩;refine di hp (thn (hc pJ s1 σ1 H1 _ I1 (turn n σ1 H1 w1)) fun b s2 ⟨H2,I2,q2⟩=>?_);cases b with
 | true=>
  obtain ⟨N,hN,q2⟩:=q2;rw [if_pos rfl];refine di hp (thn (hb pJ s2 σ1 H2 _ I2 q2) fun f s3 q3=>?_);cases f with
  | next=>
   obtain ⟨σ3,H3,I3,n3⟩:=q3;obtain ⟨m',hm,w3⟩:=hN σ3 H3 n3;exact ⟨m',hm,σ3,H3,I3,w3⟩
  | cont=>
   obtain ⟨σ3,H3,I3,n3⟩:=q3;obtain ⟨m',hm,w3⟩:=hN σ3 H3 n3;exact ⟨m',hm,σ3,H3,I3,w3⟩
  | brk=>exact q3
  | ret v=>exact q3
 | false=>
  rw [if_neg Ω];exact pq ⟨σ1,H2,I2,q2⟩
end
structure It where
 go:Nat->Hp->Prop
 yld:Nat->Hp->V->Hp->Prop
 stop:Nat->Hp->Prop
def FpOk (X:Cx) (pJ:List (Addr×Obj)) (H:Hp) (b:Addr):Prop:=
 H b=none/\b≠X.env.locals/\b ∉ X.fs/\(b∈X.ex\/X.sy.heap.objs.size<=b)/\(∀ x c,X.env.cells.lookup x=some c->c≠b)/\∀ p∈X.pn++pJ,p.1≠b
theorem Inv.fpOk {X:Cx}{pJ:List (Addr×Obj)}{σ:St}{H H':Hp}{s:ξ}{b:Addr}(I:Inv X pJ σ H s) (hb:s.heap.objs.size<=b) (hn:H' b=none):FpOk X pJ H' b:=by
 refine ⟨hn,iI (ϔ I.lt hb),I.nofs hb,.inr (Ϩ I.sz hb),fun x c e z=>?_,fun p hp z=>?_⟩
 ·obtain ⟨v,q⟩:=I.cell x c e;exact absurd (ϔ q.lt (by rw [z];exact hb)) (bQ _)
 ·exact absurd (ϔ (Ε (I.pin p hp).1) (by rw [z];exact hb)) (bQ _)
structure Turn (P:Χ) (w:Ϛ) (K:W.Frag) (tg:Expr) (J:It) (fp:List Addr) (it:Addr) (tn:Nat->Heap->Prop):Prop where
 mem:it∈fp
 obj:∀ i h,tn i h->∀ b∈fp,∃ o,h.get? b=some o/\∀ v,o.data≠.cell v
 keep:∀ i h h',tn i h->(∀ b∈fp,∀ o,h.get? b=some o->h'.get? b=some o)->tn i h'
 item:∀ (X:Cx),X.prog=P->X.w=w->X.K=K->X.calm=true->∀ (i:Nat) (pJ:List (Addr×Obj)) (s:ξ) (σ:St) (H:Hp) (E:VSP),Inv X pJ σ H s->(∀ b∈fp,FpOk X pJ H b)->tn i s.heap->J.go i H ->
  Δ (Λ P w) X.A (lU (.ref it)) (fun r s1=>∃ u,r=some u /\
   Δ (Λ P w) X.A (pC tg (.ref it) u) (fun _ s2=>∃ x H',Inv X pJ σ H' s2/\RelV x u/\J.yld i H x H'/\tn (i+1) s2.heap/\∀ b∈fp,H' b=none) E s1) E s
 done:∀ (X:Cx),X.prog=P->X.w=w->X.K=K->X.calm=true->∀ (i:Nat) (pJ:List (Addr×Obj)) (s:ξ) (σ:St) (H:Hp) (E:VSP),Inv X pJ σ H s->(∀ b∈fp,FpOk X pJ H b)->tn i s.heap->J.stop i H ->
  Δ (Λ P w) X.A (lU (.ref it)) (fun r s1=>r=none/\Inv X pJ σ H s1) E s
 self:∀ (A:ϖ) (i:Nat) (s:ξ) (Q:VSP) (E:VSP),tn i s.heap->Q (.ref it) s->Δ (Λ P w) A (m5 (.ref it)) Q E s
abbrev TI:=St->Hp->(It->Hp->Prop)->Prop
def PIE (X:Cx) (pJ:List (Addr×Obj)) (σ:St) (tg:Expr) (R:It->Hp->Prop) (itv:δ) (s2:ξ):Prop:=
 ∃ (it:Addr) (fp:List Addr) (tn:Nat->Heap->Prop) (J:It) (H':Hp),itv=.ref it/\Inv X pJ σ H' s2/\Turn X.prog X.w X.K tg J fp it tn/\tn 0 s2.heap/\(∀ b∈fp,FpOk X pJ H' b)/\R J H'
def PI (X:Cx) (tg iter:Expr) (wi:TI):Prop:=
 ∀ (pJ:List (Addr×Obj)) (s:ξ) (σ:St) (H:Hp) (R:It->Hp->Prop),Inv X pJ σ H s->wi σ H R ->
  Δ (Λ X.prog X.w) X.A (eval iter X.env) (fun v s1=>Δ (Λ X.prog X.w) X.A (m5 v) (PIE X pJ σ tg R) X.xe s1) X.xe s
theorem zaV {M:Model}{A:ϖ}{E:VSP}{s:ξ}{tg:Expr}{it:Addr}{u:δ}{o:Obj}{n:String}{vs:Array δ}{Q:Unit->ξ->Prop}(ho:s.heap.get? it=some o) (hc:o.cls=.type n) (hd:o.data=.fields vs)
    (hn:["enumerate","zip","dict_itemiterator","dict_reverseitemiterator","odict_iterator","itertools.zip_longest","itertools.pairwise"].contains n=false) (hQ:Q () s):Δ M A (pC tg (.ref it) u) Q E s:=by
  unfold pC;cases tg <;> first
    | exact ι hQ
    | (cases u <;> first
        | exact ι hQ
        | (refine γ (wpAny_load ho ?_)
           rw [hc,hd];show Δ M A (if (["enumerate","zip","dict_itemiterator","dict_reverseitemiterator","odict_iterator","itertools.zip_longest","itertools.pairwise"].contains n&&vs[0]?==some (cH _))=true then _ else _) Q E s
           rw [if_neg (by intro h;rw [hn,cF] at h;cases h)]
           exact ι hQ))
noncomputable def Itl (K:W.Frag) (a:Addr):It:=
 ⟨fun i H=>∃ xs x,SqL K H a xs/\xs[i]?=some x,fun i H x H'=>H'=H/\∀ xs,SqL K H a xs->xs[i]?=some x,fun i H=>∃ xs,SqL K H a xs/\xs.length<=i⟩
noncomputable def Itt (K:W.Frag) (a:Addr):It:=
 ⟨fun i H=>∃ xs x,SqT K H a xs/\xs[i]?=some x,fun i H x H'=>H'=H/\∀ xs,SqT K H a xs->xs[i]?=some x,fun i H=>∃ xs,SqT K H a xs/\xs.length<=i⟩
noncomputable def Itr (lo:Int) (n:Nat):It:=⟨fun i _=>i < n,fun i H x H'=>H'=H/\x=.int (lo+i),fun i _=>n<=i⟩
theorem K4 {P:Χ}{w:Ϛ}{K:W.Frag}{tg:Expr}(a it:Addr):Turn P w K tg (Itl K a) [it] it (fun i h=>h.IsListIter it a i) where
 mem:=by simp
 obj:=fun i h st b hb=>by
  have e:b=it:=by simpa using hb
  subst e;obtain ⟨o,e,c,d⟩:=st;exact ⟨o,e,fun v z=>by rw [d] at z;cases z⟩
 keep:=fun i h h' st k=>st.at fun o e=>k it (by simp) o e
 item:=by
  intro X hP hw hK hc i pJ s σ H E I hf st hg;subst hP hw hK;obtain ⟨xs,x,hq,hx⟩:=hg;obtain ⟨its,rv,p,hz⟩:=I.list hq;obtain ⟨u,hu,ru⟩:=rv.get hx;obtain ⟨f0,f1,f2,f3,f4,f5⟩:=hf it (by simp);refine wpAny_pyNext_list_item st p.isList (x:=u) (by simpa using hu) fun h' st' sb=>?_
  have I1:Inv X pJ σ H { s with heap:=h' }:=I.turned (t':=s.toks) (fun b o hb e=>(sb.2 b hb).trans e) f0 f1 f3 f4 f5;obtain ⟨o,e,c,d⟩:=id st';exact ⟨u,rfl,zaV (s:={ s with heap:=h' }) e c d (by decide) ⟨x,H,I1,ru,⟨rfl,fun ys hy=>by rw [I.UW hy hq];exact hx⟩,st',fun b hb=>(hf b hb).1⟩⟩
 done:=by intro X hP hw hK hc i pJ s σ H E I hf st hg;subst hP hw hK;obtain ⟨xs,hq,hx⟩:=hg;obtain ⟨its,rv,p,hz⟩:=I.list hq;obtain ⟨f0,f1,f2,f3,f4,f5⟩:=hf it (by simp);have hl:=rv.length;exact wpAny_pyNext_list_end (I.ok.hd hc) st p.isList (by simp;lia) fun h' eb=>⟨rfl,I.turned (t':=s.toks) (fun b o hb e=>eb b o hb e) f0 f1 f3 f4 f5⟩
 self:=fun _ _ _ _ _ st h=>wpAny_pyIter_listiter st h
theorem JG {P:Χ}{w:Ϛ}{K:W.Frag}{tg:Expr}(a it:Addr):Turn P w K tg (Itt K a) [it] it (fun i h=>h.IsTupleIter it a i) where
 mem:=by simp
 obj:=fun i h st b hb=>by
  have e:b=it:=by simpa using hb
  subst e;obtain ⟨o,e,c,d⟩:=st;exact ⟨o,e,fun v z=>by rw [d] at z;cases z⟩
 keep:=fun i h h' st k=>st.at fun o e=>k it (by simp) o e
 item:=by
  intro X hP hw hK hc i pJ s σ H E I hf st hg;subst hP hw hK;obtain ⟨xs,x,hq,hx⟩:=hg;obtain ⟨its,rv,p,hz⟩:=I.tuple hq;obtain ⟨u,hu,ru⟩:=rv.get hx;obtain ⟨f0,f1,f2,f3,f4,f5⟩:=hf it (by simp);refine wpAny_pyNext_tuple_item st (show s.heap.IsTuple a its.toArray from p) (x:=u) (by simpa using hu) fun h' st' sb=>?_
  have I1:Inv X pJ σ H { s with heap:=h' }:=I.turned (t':=s.toks) (fun b o hb e=>(sb.2 b hb).trans e) f0 f1 f3 f4 f5;obtain ⟨o,e,c,d⟩:=id st';exact ⟨u,rfl,zaV (s:={ s with heap:=h' }) e c d (by decide) ⟨x,H,I1,ru,⟨rfl,fun ys hy=>by rw [I.K6 hy hq];exact hx⟩,st',fun b hb=>(hf b hb).1⟩⟩
 done:=by intro X hP hw hK hc i pJ s σ H E I hf st hg;subst hP hw hK;obtain ⟨xs,hq,hx⟩:=hg;obtain ⟨its,rv,p,hz⟩:=I.tuple hq;obtain ⟨f0,f1,f2,f3,f4,f5⟩:=hf it (by simp);have hl:=rv.length;exact wpAny_pyNext_tuple_end (I.ok.hd hc) st (show s.heap.IsTuple a its.toArray from p) (by simp;lia) fun h' eb=>⟨rfl,I.turned (t':=s.toks) (fun b o hb e=>eb b o hb e) f0 f1 f3 f4 f5⟩
 self:=fun _ _ _ _ _ st h=>wpAny_pyIter_tupleiter st h
theorem JH {P:Χ}{w:Ϛ}{K:PySem.W.Frag}{tg:Expr}(it:Addr) (lo:Int) (n:Nat):Turn P w K tg (Itr lo n) [it] it (fun i h=>IsRangeIter h it (lo+(i:Nat)*1) ((n:Int) - (i:Nat)) 1) where
 mem:=by simp
 obj:=fun i h st b hb=>by
  have e:b=it:=by simpa using hb
  subst e
  exact ⟨_,st,fun v z=>by
   have z':Data.fields _=Data.cell v:=z
   cases z'⟩
 keep:=fun i h h' st k=>k it (by simp) _ st
 item:=by
  intro X hP hw hK hc i pJ s σ H E I hf st hg;subst hP hw hK;obtain ⟨f0,f1,f2,f3,f4,f5⟩:=hf it (by simp);have W:=Walks.range (prog:=X.prog) (w:=X.w) (I.ok.hd hc) it lo 1 n;refine W.item i s _ _ hg st fun v h' tk hv st' kk=>?_
  obtain ⟨t,rfl⟩:=hv;have I1:Inv X pJ σ H { s with heap:=h',toks:=tk }:=I.turned (fun b o hb e=>kk b o (by simpa using hb) e) f0 f1 f3 f4 f5;refine ⟨_,rfl,zaV (s:={ s with heap:=h',toks:=tk }) (n:="range_iterator") st' rfl rfl (by decide) ⟨.int (lo+i),H,I1,⟨t,?_⟩,⟨rfl,rfl⟩,st',fun b hb=>(hf b hb).1⟩⟩;rw [Int.mul_one]
 done:=by intro X hP hw hK hc i pJ s σ H E I hf st hg;subst hP hw hK;obtain ⟨f0,f1,f2,f3,f4,f5⟩:=hf it (by simp);exact wpAny_pyNext_range_end (I.ok.hd hc) st (by have:n<=i:=hg;lia) fun h' eb=>⟨rfl,I.turned (t':=s.toks) (fun b o hb e=>eb b o hb e) f0 f1 f3 f4 f5⟩
 self:=fun _ _ _ _ _ st h=>wpAny_pyIter_rangeiter st h
section
variable {X:Cx}{tg:Expr}
theorem Ul {pJ:List (Addr×Obj)}{σ:St}{H:Hp}{s:ξ}{R:It->Hp->Prop}{E:VSP}{lo hi:Int}{t u v:Tok}{tk:Nat}(I:Inv X pJ σ H s) (h1:-(2 ^ 62)<=lo) (h2:lo < 2 ^ 62) (h3:-(2 ^ 62)<=hi) (h4:hi < 2 ^ 62)
  (q:R (Itr lo (hi - lo).toNat) H):Δ (Λ X.prog X.w) X.A (m5 (.ref s.heap.objs.size)) (PIE X pJ σ tg R) E { s with heap:=s.heap.push { cls:=.type "range",data:=.fields #[.int lo t,.int hi u,.int 1 v] },toks:=tk }:=by
 refine wpAny_pyIter_range (IsRange.new ..) (small_one h1 h2 h3 h4) ?_;have I1:Inv X pJ σ H { s with heap:=s.heap.push { cls:=.type "range",data:=.fields #[.int lo t,.int hi u,.int 1 v] },toks:=tk }:=I.kept fun b o e=>θ _ e
 refine ⟨(s.heap.push { cls:=.type "range",data:=.fields #[.int lo t,.int hi u,.int 1 v] }).objs.size,[(s.heap.push { cls:=.type "range",data:=.fields #[.int lo t,.int hi u,.int 1 v] }).objs.size],_,_,H,rfl,
  I1.kept (t':=tk) fun b o e=>θ _ e,JH _ lo (hi - lo).toNat,?_,fun b hb=>?_,q⟩
 ·have e1:lo+((0:Nat):Int)*1=lo:=by simp
  have e2:(((hi - lo).toNat:Nat):Int) - ((0:Nat):Int)=Τ.Range.rangeSize lo hi 1:=by rw [rangeSize_one];split <;> lia
  show IsRangeIter _ _ (lo+((0:Nat):Int)*1) ((((hi - lo).toNat:Nat):Int) - ((0:Nat):Int)) 1
  rw [e1,e2];exact Ζ _ rfl
 ·have e:b=(s.heap.push { cls:=.type "range",data:=.fields #[.int lo t,.int hi u,.int 1 v] }).objs.size:=by simpa using hb
  subst e;exact I1.fpOk (χ _) (I1.hok.fresh (χ _))
def zkz (ta:TA):TI:=fun σ H R=>ta σ H fun vs H1=>∃ j:Int,vs=[.int j]/\-(2 ^ 62)<=j/\j < 2 ^ 62/\R (Itr 0 j.toNat) H1
def zky (ta:TA):TI:=fun σ H R=>ta σ H fun vs H1=>∃ i j:Int,vs=[.int i,.int j]/\(-(2 ^ 62)<=i/\i < 2 ^ 62/\-(2 ^ 62)<=j/\j < 2 ^ 62)/\R (Itr i (j - i).toNat) H1
theorem QV {a:Expr}{ta:TA}{p pos:Pos}(hg:Gl X "range") (hm:X.mg "range"=none) (ha:PA X [a] ta) (hs:ϟ [a] X.env=[(false,eval a X.env)]:=by rfl):PI X tg (.Call (.Name "range" p) [a] [] pos) (zkz ta):=by
 intro pJ s σ H R I h;refine Call_ (qC I hg hm boot_range (cI (thn (ha pos pJ s σ H _ I h) fun us s1 ⟨vs,H1,I1,r1,q1⟩=>?_) hs rfl));obtain ⟨j,e,q1,q2,q⟩:=q1;subst e;cases r1 with
 | cons r rr=>
  cases rr;obtain ⟨t,rfl⟩:=r;exact call_range_1 (Ul I1 (by lia) (by lia) q1 q2 (by simpa using q))
theorem QT {a b:Expr}{ta:TA}{p pos:Pos}(hg:Gl X "range") (hm:X.mg "range"=none) (ha:PA X [a,b] ta) (hs:ϟ [a,b] X.env=[(false,eval a X.env),(false,eval b X.env)]:=by rfl) (hs2:ϟ [b] X.env=[(false,eval b X.env)]:=by rfl):
  PI X tg (.Call (.Name "range" p) [a,b] [] pos) (zky ta):=by
 intro pJ s σ H R I h;refine Call_ (qC I hg hm boot_range (cI (thn (ha pos pJ s σ H _ I h) fun us s1 ⟨vs,H1,I1,r1,q1⟩=>?_) (by rw [hs,hs2]) (by rw [hs2];rfl)));obtain ⟨i,j,e,⟨q1,q2,q3,q4⟩,q⟩:=q1;subst e;cases r1 with
 | cons r rr=>
  cases rr with
  | cons r' rr=>
   cases rr;obtain ⟨t,rfl⟩:=r;obtain ⟨t',rfl⟩:=r';exact call_range_2 (Ul I1 q1 q2 q3 q4 q)
def tFor (wi:TI) (g:TG) (tb:TS):TS:=fun D σ H=>wi σ H fun J H1=>∃ W:Nat->Nat->St->Hp->Prop,(∃ m,W 0 m σ H1)/\∀ i m σ H,W i m σ H ->
 (J.stop i H/\D.nx σ H)\/(J.go i H/\∃ N:St->Hp->Prop,(∀ σ' H',N σ' H'->∃ m',m' < m/\W (i+1) m' σ' H')/\∀ x H',J.yld i H x H'->g x σ H' fun σ2 H2=>tb { D with nx:=N,ct:=N,bk:=D.nx } σ2 H2)
noncomputable def YF (fp:List Addr) (h:Heap):List (Addr×Obj):=fp.filterMap fun b=>(h.get? b).map fun o=>(b,o)
theorem xQ {fp:List Addr}{h:Heap}{b:Addr}{o:Obj}(hb:b∈fp) (e:h.get? b=some o):(b,o)∈YF fp h:=rH.mpr ⟨b,hb,by rw [e];rfl⟩
theorem zad {fp:List Addr}{h:Heap}{p:Addr×Obj}(hp:p∈YF fp h):p.1∈fp/\h.get? p.1=some p.2:=by
 obtain ⟨b,hb,e⟩:=rH.mp hp;cases q:h.get? b with
 | none=>rw [q] at e;cases e
 | some o=>
  rw [q] at e;have e':(b,o)=p:=ϐ e;subst e';exact ⟨hb,q⟩
theorem Inv.pinned {pJ:List (Addr×Obj)}{σ:St}{H:Hp}{s:ξ}{fp:List Addr}(I:Inv X pJ σ H s) (hf:∀ b∈fp,FpOk X pJ H b) (ho:∀ b∈fp,∃ o,s.heap.get? b=some o/\∀ v,o.data≠.cell v):Inv X (pJ++YF fp s.heap) σ H s:=
 I.WX fun p hp=>(aD.mp hp).elim (fun z=>I.pin p (ώ _ z)) fun z=>by obtain ⟨hb,e⟩:=zad z;obtain ⟨f0,f1,f2,_⟩:=hf p.1 hb;obtain ⟨o,e',d⟩:=ho p.1 hb;rw [e] at e';cases e';exact ⟨e,f0,f1,f2,d⟩
theorem Inv.wO {pJ pl:List (Addr×Obj)}{σ:St}{H:Hp}{s:ξ}(I:Inv X (pJ++pl) σ H s):Inv X pJ σ H s:=I.WX fun p hp=>I.pin p (ώ _ (du _ hp))
theorem zho {iter:Expr}{body:List Stmt}{wi:TI}{g:TG}{tb:TS}{pos:Pos}(hp:mD (Λ X.prog X.w) X.A X.env X.xe) (hc:X.calm=true) (hi:PI X tg iter wi) (hg:PG X tg g) (hb:PSs X body tb)
  (hs:∀ x,cu iter X.env x=pure x:=by intro _;rfl):PS X (.For tg iter body [] pos) (tFor wi g tb):=by
 intro pJ s σ H D I h;refine wpAny_For (thn (hi pJ s σ H _ I h) fun v s1 h1=>thn h1 fun itv s2 h2=>?_) hs;obtain ⟨it,fp,tn,J,H2,e,I2,T,st2,f2,W,⟨m0,w0⟩,turn⟩:=h2;subst e;have stat:∀ {H':Hp},(∀ b∈fp,H' b=none)->∀ b∈fp,FpOk X pJ H' b:=fun hn b hb=>⟨hn b hb,(f2 b hb).2⟩
 refine codeAny_forLoop_any (fun n s'=>∃ i σ' H',Inv X pJ σ' H' s'/\tn i s'.heap/\(∀ b∈fp,H' b=none)/\W i n σ' H') ?_ m0 ⟨0,σ,H2,I2,st2,fun b hb=>(f2 b hb).1,w0⟩;rintro n s3 ⟨i,σ3,H3,I3,st3,fr3,w3⟩;rcases turn i n σ3 H3 w3 with ⟨stop,qn⟩ | ⟨go,N,hN,step⟩
 ·refine di hp (thn (T.done X rfl rfl rfl hc i pJ s3 σ3 H3 X.xe I3 (stat fr3) st3 stop) fun r s4 ⟨hr,I4⟩=>?_);subst hr;exact pq ⟨σ3,H3,I4,qn⟩
 ·refine di hp (thn (T.item X rfl rfl rfl hc i pJ s3 σ3 H3 X.xe I3 (stat fr3) st3 go) fun r s4 ⟨u,hr,h4⟩=>?_);subst hr;refine di hp (thn h4 fun _ s5 ⟨x,H5,I5,r5,y5,st5,fr5⟩=>?_);have I5':=I5.pinned (stat fr5) (T.obj _ _ st5);refine di hp (thn (hg _ s5 σ3 H5 x u _ I5' r5 (step x H5 y5)) fun _ s6 ⟨σ6,H6,I6,q6⟩=>?_);refine di hp (thn (hb _ s6 σ6 H6 _ I6 q6) fun f s7 q7=>?_);have again:∀ {σ7:St}{H7:Hp},Inv X (pJ++YF fp s5.heap) σ7 H7 s7->N σ7 H7->∃ m,m < n/\∃ i σ' H',Inv X pJ σ' H' s7/\tn i s7.heap/\(∀ b∈fp,H' b=none)/\W i m σ' H':=fun {σ7 H7} I7 n7=>by obtain ⟨m',hm,w7⟩:=hN σ7 H7 n7;refine ⟨m',hm,i+1,σ7,H7,I7.wO,T.keep _ _ _ st5 fun b hb o e=>(I7.pin (b,o) (ώ _ (ώ _ (xQ hb e)))).1,fun b hb=>?_,w7⟩;obtain ⟨o,e,d⟩:=T.obj _ _ st5 b hb;exact (I7.pin (b,o) (ώ _ (ώ _ (xQ hb e)))).2.1
  cases f with
  | next=>obtain ⟨σ7,H7,I7,n7⟩:=q7;exact again I7 n7
  | cont=>obtain ⟨σ7,H7,I7,n7⟩:=q7;exact again I7 n7
  | brk=>obtain ⟨σ7,H7,I7,q7⟩:=q7;exact ⟨σ7,H7,I7.wO,q7⟩
  | ret v=>obtain ⟨x7,σ7,H7,I7,r7,q7⟩:=q7;exact ⟨x7,σ7,H7,I7.wO,r7,q7⟩
end
abbrev R2:=V->V->Hp->VK->Prop
def OpR (X:Cx) (f:δ->δ->Sem δ) (r:R2):Prop:=
 ∀ (pJ:List (Addr×Obj)) (s:ξ) (σ:St) (H:Hp) (x y:V) (v u:δ) (Q:VK),Inv X pJ σ H s->RelV x v->RelV y u->r x y H Q ->
  Δ (Λ X.prog X.w) X.A (f v u) (EP X pJ σ Q) X.xe s
def z9 (X:Cx) (f:δ) (r:List V->Hp->VK->Prop):Prop:=
 ∀ (pJ:List (Addr×Obj)) (s:ξ) (σ:St) (H:Hp) (xs:List V) (us:List δ) (Q:VK),Inv X pJ σ H s->Vals xs us->r xs H Q ->
  Δ (Λ X.prog X.w) X.A (call f us) (EP X pJ σ Q) X.xe s
def tOp (r:R2) (ta tb:TE):TE:=fun σ H Q=>ta σ H fun x H1=>tb σ H1 fun y H2=>r x y H2 Q
def rI (C:Int->Int->Prop) (g:Int->Int->V):R2:=fun x y H Q=>∃ i j,x=.int i/\y=.int j/\C i j/\Q (g i j) H
def rI0 (g:Int->Int->V):R2:=fun x y H Q=>∃ i j,x=.int i/\y=.int j/\Q (g i j) H
section
variable {X:Cx}{a b c:Expr}{ta tb tc:TE}{pos:Pos}
theorem binT (ha:PE X a ta) (hb:PE X b tb) {pJ:List (Addr×Obj)}{s:ξ}{σ:St}{H:Hp}{R:V->V->Hp->Prop}(I:Inv X pJ σ H s)
  (h:ta σ H fun x H1=>tb σ H1 fun y H2=>R x y H2) {Q:VSP}{f:δ->δ->Sem δ}
  (hf:∀ v u s2 x y H2,Inv X pJ σ H2 s2->RelV x v->RelV y u->R x y H2->Δ (Λ X.prog X.w) X.A (f v u) Q X.xe s2):
  Δ (Λ X.prog X.w) X.A (eval a X.env) (fun v s₁=>Δ (Λ X.prog X.w) X.A (eval b X.env) (fun u s₂=>Δ (Λ X.prog X.w) X.A (f v u) Q X.xe s₂) X.xe s₁) X.xe s:=by
 refine thn (ha pJ s σ H _ I h) fun v s1 ⟨x,H1,I1,r1,q1⟩=>?_
 refine thn (hb pJ s1 σ H1 _ I1 q1) fun u s2 ⟨y,H2,I2,r2,q2⟩=>?_
 exact hf v u s2 x y H2 I2 r1 r2 q2
theorem zkb {op:bZ}{r:R2}(ho:OpR X (bW op) r) (ha:PE X a ta) (hb:PE X b tb):PE X (.BinOp a op b pos) (tOp r ta tb):=by intro pJ s σ H Q I h;exact wpAny_BinOp (binT ha hb I h fun v u s2 x y H2 I2 rx ry q=>ho pJ s2 σ H2 x y v u Q I2 rx ry q)
theorem opI {f:δ->δ->Sem δ}{C:Int->Int->Prop}{g:Int->Int->Int}
  (rule:∀ (i j:Int) (t u:Tok) (s:ξ) (Q:VSP) (E:VSP),C i j->Q (.int (g i j) s.toks) { s with toks:=s.toks+1 }->Δ (Λ X.prog X.w) X.A (f (.int i t) (.int j u)) Q E s):
  OpR X f (rI C fun i j=>.int (g i j)):=by intro pJ s σ H x y v u Q I rx ry h;obtain ⟨i,j,rfl,rfl,hc,q⟩:=h;obtain ⟨t,rfl⟩:=rx;obtain ⟨t',rfl⟩:=ry;exact rule i j t t' s _ _ hc ⟨.int (g i j),H,I.tok _,⟨_,rfl⟩,q⟩
theorem opI0 {f:δ->δ->Sem δ}{g:Int->Int->Int}
  (rule:∀ (i j:Int) (t u:Tok) (s:ξ) (Q:VSP) (E:VSP),Q (.int (g i j) s.toks) { s with toks:=s.toks+1 }->Δ (Λ X.prog X.w) X.A (f (.int i t) (.int j u)) Q E s):
  OpR X f (rI0 fun i j=>.int (g i j)):=by intro pJ s σ H x y v u Q I rx ry h;obtain ⟨i,j,rfl,rfl,q⟩:=h;obtain ⟨t,rfl⟩:=rx;obtain ⟨t',rfl⟩:=ry;exact rule i j t t' s _ _ ⟨.int (g i j),H,I.tok _,⟨_,rfl⟩,q⟩
theorem opB0 {f:δ->δ->Sem δ}{g:Int->Int->Bool}
  (rule:∀ (i j:Int) (t u:Tok) (s:ξ) (Q:VSP) (E:VSP),Q (.bool (g i j)) s->Δ (Λ X.prog X.w) X.A (f (.int i t) (.int j u)) Q E s):
  OpR X f (rI0 fun i j=>.bl (g i j)):=by intro pJ s σ H x y v u Q I rx ry h;obtain ⟨i,j,rfl,rfl,q⟩:=h;obtain ⟨t,rfl⟩:=rx;obtain ⟨t',rfl⟩:=ry;exact rule i j t t' s _ _ ⟨.bl (g i j),H,I,rfl,q⟩
def CPow (i j:Int):Prop:=0<=j/\j<=1000000/\i.natAbs < 2 ^ 64
def CMul (i j:Int):Prop:=(-(2 ^ 64) < i/\i < 2 ^ 64)\/(-(2 ^ 64) < j/\j < 2 ^ 64)
theorem CMul.ok {i j:Int}(h:CMul i j):IntMulOk i j:=by
 rcases h with ⟨h1,h2⟩ | ⟨h1,h2⟩
 ·exact .of_left (intBits_le_64 h1 h2)
 ·exact .of_right (intBits_le_64 h1 h2)
theorem zhP:OpR X (bW .Add) (rI0 fun i j=>.int (i+j)):=opI0 fun _ _ _ _ _ _ _ q=>add_int q
theorem zhF:OpR X (bW .Sub) (rI0 fun i j=>.int (i - j)):=opI0 fun _ _ _ _ _ _ _ q=>sub_int q
theorem zhJ:OpR X (bW .Mult) (rI CMul fun i j=>.int (i*j)):=opI fun _ _ _ _ _ _ _ hc q=>mul_int q hc.ok
theorem zhK:OpR X (bW .Mod) (rI (fun _ j=>0 < j) fun i j=>.int (i % j)):=opI fun i j _ _ _ _ _ hc q=>by have h1:(0:Int) < j:=hc;exact mod_int' (by lia) (by rw [Int.fmod_eq_emod_of_nonneg i (by lia)];exact q)
theorem zhH:OpR X (bW .Pow) (rI CPow fun i j=>.int (i ^ j.toNat)):=opI fun _ _ _ _ _ _ _ hc q=>pow_int_small hc.1 hc.2.1 hc.2.2 q
theorem Xv {pJ:List (Addr×Obj)}{σ:St}{H:Hp}{s:ξ}{Q:VK}{k k':Bool}(I:Inv X pJ σ H s) (q:Q (.bl k) H) (e:k=k'):EP X pJ σ Q (.bool k') s:=by subst e;exact ⟨.bl k,H,I,rfl,q⟩
theorem zke:OpR X (Ϗ .Lt) (rI0 fun i j=>.bl (decide (i < j))):=opB0 fun _ _ _ _ _ _ _ q=>lt_int q
theorem zkf:OpR X (Ϗ .LtE) (rI0 fun i j=>.bl (decide (i<=j))):=opB0 fun _ _ _ _ _ _ _ q=>le_int q
theorem zkg:OpR X (Ϗ .Gt) (rI0 fun i j=>.bl (decide (j < i))):=opB0 fun _ _ _ _ _ _ _ q=>gt_int q
theorem zkh:OpR X (Ϗ .GtE) (rI0 fun i j=>.bl (decide (j<=i))):=opB0 fun _ _ _ _ _ _ _ q=>ge_int q
theorem zaa:OpR X (Ϗ .In) (fun x y H Q=>∃ i j,x=.str i/\y=.str j/\Q (.bl (!(Ϙ j i 0 j.length 1).isEmpty)) H):=by intro pJ s σ H x y v u Q I rx ry h;obtain ⟨i,j,rfl,rfl,q⟩:=h;obtain ⟨t,rfl⟩:=rx;obtain ⟨t',rfl⟩:=ry;exact in_str (Xv I q rfl)
theorem zhL:OpR X (Ϗ .Is) (fun x y H Q=>y=.non/\Q (.bl (decide (x=.non))) H):=by
 intro pJ s σ H x y v u Q I rx ry h;obtain ⟨rfl,q⟩:=h;cases ry;refine is_none_gen (Xv I q ?_);cases x <;> first
  | (cases rx;rfl)
  | (obtain ⟨t,rfl⟩:=rx;rfl)
theorem zeX:OpR X (Ϗ .IsNot) (fun x y H Q=>y=.non/\Q (.bl (!decide (x=.non))) H):=by
 intro pJ s σ H x y v u Q I rx ry h;obtain ⟨rfl,q⟩:=h;cases ry;refine isnot_none_gen (Xv I q ?_);cases x <;> first
  | (cases rx;rfl)
  | (obtain ⟨t,rfl⟩:=rx;rfl)
theorem OpR.or {f:δ->δ->Sem δ}{r r':R2}(h:OpR X f r) (h':OpR X f r'):OpR X f (fun x y H Q=>r x y H Q\/r' x y H Q):=by
 intro pJ s σ H x y v u Q I rx ry q;rcases q with q | q
 ·exact h pJ s σ H x y v u Q I rx ry q
 ·exact h' pJ s σ H x y v u Q I rx ry q
theorem zeS {op:iT}{r:R2}(ho:OpR X (Ϗ op) r) (ha:PE X a ta) (hb:PE X b tb) (hm:mV op b=false):PE X (.Compare a [op] [b] pos) (tOp r ta tb):=by intro pJ s σ H Q I h;exact wpAny_Compare1 (binT ha hb I h fun v u s2 x y H2 I2 rx ry q=>ho pJ s2 σ H2 x y v u Q I2 rx ry q) hm
def zgz (t:TE):TT:=fun σ H Q=>t σ H fun x H'=>∃ k,x=.bl k/\Q k H'
theorem zeG {op:iT}{r:R2}(ho:OpR X (Ϗ op) r) (ha:PE X a ta) (hb:PE X b tb) (hm:mV op b=false):PT X (.Compare a [op] [b] pos) (zgz (tOp r ta tb)):=by
 intro pJ s σ H Q I h
 refine wpAny_isTrue_Compare1 (thn (ha pJ s σ H _ I h) fun v s1 ⟨x,H1,I1,r1,q1⟩=>thn (hb pJ s1 σ H1 _ I1 q1) fun u s2 ⟨y,H2,I2,r2,q2⟩=>
  thn (ho pJ s2 σ H2 x y v u _ I2 r1 r2 q2) fun c s3 ⟨z,H3,I3,r3,k,e,q3⟩=>?_) hm
 subst e;cases r3;exact aO ⟨H3,I3,q3⟩
def Qc (r r':R2) (ta tb tc:TE):TE:=fun σ H Q=>ta σ H fun x H1=>tb σ H1 fun y H2=>r x y H2 fun z H3=>∃ k,z=.bl k /\
 (if k=true then tc σ H3 fun w' H4=>r' y w' H4 Q else Q (.bl false) H3)
theorem zce {op op':iT}{r r':R2}(ho:OpR X (Ϗ op) r) (ho':OpR X (Ϗ op') r') (ha:PE X a ta) (hb:PE X b tb) (hc:PE X c tc)
  (hm:lastMarks [op,op'] [b,c]=false:=by with_unfolding_all rfl):PE X (.Compare a [op,op'] [b,c] pos) (Qc r r' ta tb tc):=by
 intro pJ s σ H Q I h
 refine Compare_chain (thn (ha pJ s σ H _ I h) fun v s1 ⟨x,H1,I1,r1,q1⟩=>chain_link (thn (hb pJ s1 σ H1 _ I1 q1) fun u s2 ⟨y,H2,I2,r2,q2⟩=>
  thn (ho pJ s2 σ H2 x y v u _ I2 r1 r2 q2) fun d s3 ⟨z,H3,I3,r3,k,e,q3⟩=>?_)) hm
 subst e;cases r3;refine aO ?_;cases k with
 | false=>exact ite_ff ⟨.bl false,H3,I3,rfl,q3⟩
 | true=>exact ite_tt (chain_last (thn (hc pJ s3 σ H3 _ I3 q3) fun w' s4 ⟨z',H4,I4,r4,q4⟩=>ho' pJ s4 σ H4 y z' u w' Q I4 r2 r4 q4))
theorem zb2 {op op':iT}{r r':R2}(ho:OpR X (Ϗ op) r) (ho':OpR X (Ϗ op') r') (ha:PE X a ta) (hb:PE X b tb) (hc:PE X c tc)
  (hm:lastMarks [op,op'] [b,c]=false:=by with_unfolding_all rfl):PT X (.Compare a [op,op'] [b,c] pos) (zgz (Qc r r' ta tb tc)):=by
 intro pJ s σ H Q I h
 refine isTrue_chain (thn (ha pJ s σ H _ I h) fun v s1 ⟨x,H1,I1,r1,q1⟩=>test_link (thn (hb pJ s1 σ H1 _ I1 q1) fun u s2 ⟨y,H2,I2,r2,q2⟩=>
  thn (ho pJ s2 σ H2 x y v u _ I2 r1 r2 q2) fun d s3 ⟨z,H3,I3,r3,k,e,q3⟩=>?_)) hm
 subst e;cases r3;refine aO ?_;cases k with
 | false=>
  obtain ⟨k',e',q'⟩:=q3;cases e';exact ite_ff ⟨H3,I3,q'⟩
 | true=>
  refine ite_tt (test_last (thn (hc pJ s3 σ H3 _ I3 q3) fun w' s4 ⟨z',H4,I4,r4,q4⟩=>thn (ho' pJ s4 σ H4 y z' u w' _ I4 r2 r4 q4) fun d' s5 ⟨z2,H5,I5,r5,k2,e2,q5⟩=>?_));subst e2;cases r5;exact aO ⟨H5,I5,q5⟩
theorem qy:(sizeLine:Nat) < 2 ^ 63:=by rw [ϵ];decide
theorem JV:OpR X (bW .Add) (fun x y H Q=>∃ i j,x=.str i/\y=.str j/\i.length+j.length<=sizeLine/\Q (.str (i++j)) H):=by intro pJ s σ H x y v u Q I rx ry h;obtain ⟨i,j,rfl,rfl,hz,q⟩:=h;obtain ⟨t,rfl⟩:=rx;obtain ⟨t',rfl⟩:=ry;exact add_str (fun t' tk=>⟨.str (i++j),H,I.tok _,⟨_,rfl⟩,q⟩) hz
theorem vals1 {x:V}{us:List δ}(r:Vals [x] us):∃ u,us=[u]/\RelV x u:=by
 cases r with
 | cons r1 r2=>cases r2;exact ⟨_,rfl,r1⟩
theorem zcW:z9 X (.builtin "abs") (fun xs H Q=>∃ i,xs=[.int i]/\Q (.int (if i < 0 then -i else i)) H):=by intro pJ s σ H xs us Q I r h;obtain ⟨i,rfl,q⟩:=h;obtain ⟨u,rfl,t,rfl⟩:=vals1 r;exact call_abs_int fun u tk=>⟨.int (if i < 0 then -i else i),H,I.tok _,⟨_,rfl⟩,q⟩
theorem X6:z9 X (.type "int") (fun xs H Q=>(∃ i,xs=[.int i]/\Q (.int i) H)\/∃ k,xs=[.bl k]/\Q (.int (if k then 1 else 0)) H):=by
 intro pJ s σ H xs us Q I r h;rcases h with ⟨i,rfl,q⟩ | ⟨k,rfl,q⟩
 ·obtain ⟨u,rfl,t,rfl⟩:=vals1 r;exact call_int_int ⟨.int i,H,I,⟨_,rfl⟩,q⟩
 ·obtain ⟨u,rfl,r1⟩:=vals1 r;cases r1;exact call_int_bool ⟨.int (if k then 1 else 0),H,I.tok _,⟨_,rfl⟩,q⟩
theorem XS:z9 X (.type "str") (fun xs H Q=>∃ i,xs=[.int i]/\i.natAbs.log2 < 1920/\Q (.str (toString i)) H):=by intro pJ s σ H xs us Q I r h;obtain ⟨i,rfl,hz,q⟩:=h;obtain ⟨u,rfl,t,rfl⟩:=vals1 r;exact PySem.P.str_of_int hz ⟨.str _,H,I.tok _,⟨_,rfl⟩,q⟩
end
structure ObjM (h:Heap) (x dx C:Addr) (mA:Str->Option δ):Prop where
 obj:h.get? x=some (W.instObj C dx)
 ns:h.Ns1 dx mA
 ne:dx≠x
set_option tactic.hygienic true in
theorem zao {h:Heap}{dx:Addr}{mA:Str->Option δ}(n:h.Ns1 dx mA):∃ od,h.get? dx=some od/\∀ name,W.lookIn name od=some (mA name):=by
 obtain ⟨o,es,ep,ho,hd,hk,_,hm⟩:=n;refine ⟨o,ho,fun name=>?_⟩;have e:=hm name;unfold nsFind findBy at e;rw [<- Array.find?_toList] at e;unfold W.lookIn;rw [hd];dsimp only;split
 ·rename_i y q
  rw [q] at e;exact congrArg some e
 ·rename_i q
  rw [q] at e;have a:es.toList.any (·.refKey)=false:=by rw [List.any_eq_false];intro y hy;obtain ⟨z,t,hkey⟩:=hk y (Array.mem_toList_iff.mp hy);simp [fV.refKey,hkey]
  have a':¬ es.toList.any (·.refKey)=true:=by rw [a];exact Ω
  rw [if_neg a'];exact congrArg some e
theorem ObjM.look {h:Heap}{x dx C:Addr}{mA:Str->Option δ}(I:ObjM h x dx C mA):∃ od,W.InstAt h x (W.instObj C dx) C (some od)/\∀ name,W.lookIn name od=some (mA name):=
 let ⟨od,ho,hl⟩:=zao I.ns
 ⟨od,⟨I.obj,rfl,rfl,ho⟩,hl⟩
section
variable {prog:Χ}{w:Ϛ}{A:ϖ}{E:VSP}{s:ξ}{K:W.Frag}{x dx C f:Addr}{mA:Str->Option δ}{name:Str}{v:δ}
theorem zfy {expr:Bool}{Q:VSP}(X:K.In s.heap) (I:ObjM s.heap x dx C mA) (hg:W.plainGet K C name=true) (hh:W.hasDictIn K C=true)
  (ha:W.findIn K (.ref C) name=some none) (hv:mA name=some v) (hv':W.handedIn v=true) (h:Q v { s with toks:=s.toks+1 }):
  Δ (Λ prog w) A (getAttr (.ref x) name expr) Q E s:=by obtain ⟨od,J,hl⟩:=I.look;exact W.get_value X J (W.plainGet_of hg).1 (W.findObj_own hh ha rfl (by rw [hl,hv])) hv' h
theorem zcD {pl:Sem Bool}{Q:δ×List δ->ξ->Prop}(X:K.In s.heap) (I:ObjM s.heap x dx C mA) (hg:W.plainGet K C name=true)
  (hf:W.findIn K (.ref C) name=some (some (.ref f))) (ht:W.isFn K (.ref f)=true) (hv:mA name=none) (h:Q (.ref f,[.ref x]) s):
  Δ (Λ prog w) A (getMethod (.ref x) name pl) Q E s:=by obtain ⟨od,J,hl⟩:=I.look;exact W.method_fn X J (W.plainGet_of hg).1 (W.plainGet_of hg).2 hf (beq_iff_eq.mp ht) (by show (W.lookIn name od).map (·.isSome)=some false;rw [hl,hv];rfl) h
theorem zed {ns:List Str}{Q:Unit->ξ->Prop}(X:K.In s.heap) (I:ObjM s.heap x dx C mA)
  (hs:W.findIn K (.ref C) "__setattr__"=some (some (.builtin "object.__setattr__"))) (hp:W.plainOver K C=true) (ht:W.takerIn K C name=some none) (hh:W.hasDictIn K C=true)
  (hw:lY mA ns) (hsz:ns.length<=sizeLine)
  (h:∀ h',ObjM h' x dx C (fun y=>if y=name then some v else mA y)->ϭ dx s.heap h'->Q () { s with heap:=h',toks:=s.toks+2 }):
  Δ (Λ prog w) A (setAttr (.ref x) name v) Q E s:=by
 obtain ⟨od,J,hl⟩:=I.look;refine W.set_plain X J hs (W.osa_open (s:={ s with toks:=s.toks+1 }) (r:=none) X J hp ht fun b=>?_);obtain ⟨cd,hc,hd'⟩:=W.any_some hh;have hx:s.heap.get? x=some ⟨.ref C,some dx,.plain,#[]⟩:=I.obj;refine γ (ι (γ (γ (wpAny_loadPart hx (γ (W.Looks.here (s:={ s with toks:=s.toks+1 }) (W.looks_clsIn X hc) ?_))))));rw [hd'];refine ι (a:=some dx) (γ (ι (γ ?_)));refine wpAny_nsSet1 (s:={ s with toks:=s.toks+1 }) I.ns fun h' hn2 hs2=>?_
 obtain ⟨oD,esD,epD,hoD,hdD,hcD⟩:=hn2.count (lY.cons name v hw);refine γ (wpAny_lookBehind hoD (by rw [hdD];exact pastItsLine_dict (Ϩ hcD (by rw [η];lia))) ?_);exact ι (h _ ⟨(hs2.2 _ (dH I.ne)).trans I.obj,hn2,I.ne⟩ hs2)
theorem zcq {R:Result->ξ->Prop}{vs:List δ}{kw:List (Str×δ)}(X:K.In s.heap) (hm:W.makesIn K C=true)
  (hi:W.findIn K (.ref C) "__init__"=some (some (.ref f))) (hf:W.typeIn K (.ref f)=some (.type "function"))
  (h:ik (Λ prog w) (A.under (.builtin "type.__call__" ⟨.ref C::vs,kw⟩)) (.call (.ref f) ⟨.ref (s.heap.objs.size+1)::vs,kw⟩) (W.InitBack (s.heap.objs.size+1) R)
   { s with heap:=(s.heap.push W.emptyDict).push (W.instObj C s.heap.objs.size) }):
  ik (Λ prog w) A (.call (.ref C) ⟨vs,kw⟩) R s:=by obtain ⟨hh,g,d,t,os⟩:=s;exact W.make_core (W.makes_of X hm) (W.looks_findIn X hi) (fun self=>W.bind_fn X self hf) (.inl rfl) h
end
noncomputable def putF (f:Str) (v:V):List (Str×V)->List (Str×V)
 | []=>[(f,v)]
 | (g,x)::r=>if g=f then (g,v)::r else (g,x)::putF f v r
theorem jw (f g:Str) (v:V):∀ fs:List (Str×V),(putF f v fs).lookup g=if g=f then some v else fs.lookup g
 | []=>by
  show dY g [(f,v)]=_
  by_cases h:g=f
  ·have hb:(g==f)=true:=beq_iff_eq.mpr h;simp only [dY,hb,if_pos h]
  ·have hb:(g==f)=false:=beq_eq_false_iff_ne.mpr h;simp only [dY,hb,if_neg h]
 | (k,x)::r=>by
  have ih:=jw f g v r;rw [show putF f v ((k,x)::r)=(if k=f then (k,v)::r else (k,x)::putF f v r) from rfl];by_cases hk:k=f
  ·rw [if_pos hk];by_cases h:g=k
   ·have hb:(g==k)=true:=beq_iff_eq.mpr h;simp only [dY,hb,if_pos (h.trans hk)]
   ·have hb:(g==k)=false:=beq_eq_false_iff_ne.mpr h;simp only [dY,hb,if_neg (fun e:g=f=>h (e.trans hk.symm))]
  ·rw [if_neg hk];by_cases h:g=k
   ·have hb:(g==k)=true:=beq_iff_eq.mpr h;simp only [dY,hb,if_neg (fun e:g=f=>hk (h.symm.trans e))]
   ·have hb:(g==k)=false:=beq_eq_false_iff_ne.mpr h;simp only [dY,hb];exact ih
theorem jC (f:Str) (v:V):∀ fs:List (Str×V),f∈(putF f v fs).map (·.1)/\∀ g,g∈fs.map (·.1)->g∈(putF f v fs).map (·.1)
 | []=>⟨by simp [putF],fun g h=>by simp at h⟩
 | (k,x)::r=>by
  obtain ⟨i1,i2⟩:=jC f v r;rw [show putF f v ((k,x)::r)=(if k=f then (k,v)::r else (k,x)::putF f v r) from rfl];by_cases hk:k=f
  ·rw [if_pos hk];subst hk;exact ⟨by simp,fun g h=>by simpa using h⟩
  ·rw [if_neg hk];refine ⟨?_,fun g h=>?_⟩
   ·rw [Κ];exact ν _ i1
   ·rw [Κ] at h ⊢;rcases υ.mp h with e | e
    ·exact υ.mpr (.inl e)
    ·exact ν _ (i2 g e)
theorem jx (f:Str) (v:V):∀ fs:List (Str×V),(putF f v fs).length<=fs.length+1
 | []=>by simp [putF]
 | (k,x)::r=>by
  have ih:=jx f v r;rw [show putF f v ((k,x)::r)=(if k=f then (k,v)::r else (k,x)::putF f v r) from rfl];by_cases hk:k=f
  ·rw [if_pos hk,η,η];lia
  ·rw [if_neg hk,η,η];lia
theorem RelO.some_of {v:V}{o:Option δ}(r:RelO (some v) o):∃ u,o=some u/\RelV v u:=by
 cases o with
 | none=>exact (show False from r).elim
 | some u=>exact ⟨u,rfl,r⟩
theorem RelO.none_of {o:Option δ}(r:RelO none o):o=none:=by
 cases o with
 | none=>rfl
 | some u=>exact (show False from r).elim
theorem zaU {v:V}{u:δ}(r:RelV v u):W.handedIn u=true:=by
 cases v with
 | non=>cases (show u=ϓ from r);rfl
 | bl b=>cases (show u=Ϯ b from r);rfl
 | int i=>obtain ⟨t,e⟩:=(show ∃ t,u=Ϫ i t from r);cases e;rfl
 | str x=>obtain ⟨t,e⟩:=(show ∃ t,u=bw x t from r);cases e;rfl
 | byt b=>obtain ⟨t,e⟩:=(show ∃ t,u=δ.bytes b t from r);cases e;rfl
 | flt b=>obtain ⟨t,e⟩:=(show ∃ t,u=δ.float b t from r);cases e;rfl
 | ref a=>cases (show u=Θ a from r);rfl
 | ty n=>cases (show u=bJ n from r);rfl
section
variable {P:Χ}{w:Ϛ}{H H':Hp}{h h':Heap}{a C dx:Addr}{fs fs':List (Str×V)}
theorem ZX (hok:HOk P w H h) (e:H a=some (.ins C dx fs)):∃ mA,ObjM h a dx C mA/\(∀ f,RelO (fs.lookup f) (mA f))/\lY mA (fs.map (·.1))/\fs.length<=1000/\H dx=some (.own a):=by
 obtain ⟨d,z,ne,ob,mA,n,r,q⟩:=(show zW P w H h a (.ins C dx fs) from hok a _ e)
 exact ⟨mA,⟨ob,n,ne⟩,r,q,z,d⟩
end
structure Cls (K:W.Frag) (C:Addr):Prop where
 pg:W.plainGet K C Str.empty=true
 hd:W.hasDictIn K C=true
 po:W.plainOver K C=true
 sa:W.findIn K (.ref C) "__setattr__"=some (some (.builtin "object.__setattr__"))
theorem Cls.get {K:W.Frag}{C:Addr}(c:Cls K C) (f:Str):W.plainGet K C f=true:=c.pg
def vN (K:W.Frag) (C:Addr) (f:Str):Prop:=W.findIn K (.ref C) f=some none
theorem vN.taker {K:W.Frag}{C:Addr}{f:Str}(n:vN K C f):W.takerIn K C f=some none:=by unfold W.takerIn;rw [show W.findIn K (.ref C) f=some none from n];rfl
structure Meth (K:W.Frag) (C:Addr) (m:Str) (f:Addr):Prop where
 at_:W.findIn K (.ref C) m=some (some (.ref f))
 fn:W.isFn K (.ref f)=true
 kp:W.keepIn K (.ref f)=true
section
variable {X:Cx}{pJ:List (Addr×Obj)}{σ:St}{H:Hp}{s:ξ}{a C dx:Addr}{fs:List (Str×V)}{f:Str}{v:V}{A:ϖ}{E:VSP}
theorem qJ {b:Bool}{Q:VSP}(I:Inv X pJ σ H s) (e:H a=some (.ins C dx fs)) (c:Cls X.K C) (n:vN X.K C f) (l:fs.lookup f=some v)
  (h:∀ u s',Inv X pJ σ H s'->RelV v u->Q u s'):Δ (Λ X.prog X.w) A (getAttr (.ref a) f b) Q E s:=by obtain ⟨mA,O,r,_,_,_⟩:=ZX I.hok e;obtain ⟨u,hu,ru⟩:=RelO.some_of (v:=v) (o:=mA f) (by rw [<- l];exact r f);exact zfy I.kIn O (c.get f) c.hd n hu (zaU ru) (h u _ (I.tok _) ru)
theorem qI {m:Str}{g:Addr}{pl:Sem Bool}{Q:δ×List δ->ξ->Prop}(I:Inv X pJ σ H s) (e:H a=some (.ins C dx fs)) (c:Cls X.K C) (k:Meth X.K C m g) (l:fs.lookup m=none)
  (h:Q (.ref g,[.ref a]) s):Δ (Λ X.prog X.w) A (getMethod (.ref a) m pl) Q E s:=by obtain ⟨mA,O,r,_,_,_⟩:=ZX I.hok e;have hn:mA m=none:=RelO.none_of (by rw [<- l];exact r m);exact zcD I.kIn O (c.get m) k.at_ k.fn hn h
theorem qb {y:V}{u:δ}{Q:Unit->ξ->Prop}(I:Inv X pJ σ H s) (e:H a=some (.ins C dx fs)) (c:Cls X.K C) (n:vN X.K C f) (hl:fs.length < 1000) (ry:RelV y u)
  (h:∀ s',Inv X pJ σ (upd H a (.ins C dx (putF f y fs))) s'->Q () s'):Δ (Λ X.prog X.w) A (setAttr (.ref a) f u) Q E s:=by
 obtain ⟨mA,O,r,wi,_,ho⟩:=ZX I.hok e;have hz:(fs.map (·.1)).length<=sizeLine:=by rw [ζ,ϵ];lia
 refine zed I.kIn O c.sa c.po n.taker c.hd wi hz fun h' O' sb=>h _ ?_
 have hd:∃ o,h'.get? dx=some o:=let ⟨o,_,_,e',_⟩:=O'.ns;⟨o,e'⟩
 refine I.write (x:=a) (e:=dx) (by rw [e];exact ϴ) (.inr ho) (fun b q hb z=>(sb.2 b hb).trans z) hd ?_;refine ⟨by rw [zj O.ne];exact ho,?_,O.ne,O'.obj,_,O'.ns,fun g=>?_,fun g hg=>?_⟩
 ·have:=jx f y fs;lia
 ·show RelO ((putF f y fs).lookup g) (if g=f then some u else mA g)
  rw [jw];by_cases q:g=f
  ·rw [if_pos q,if_pos q];exact ry
  ·rw [if_neg q,if_neg q];exact r g
 ·by_cases q:g=f
  ·rw [q];exact (jC f y fs).1
  ·refine (jC f y fs).2 g (wi g fun z=>hg ?_);show (if g=f then some u else mA g)=none
   rw [if_neg q];exact z
theorem Inv.made (I:Inv X pJ σ H s):Inv X pJ σ (upd (upd H s.heap.objs.size (.own (s.heap.objs.size+1))) (s.heap.objs.size+1) (.ins C s.heap.objs.size []))
  { s with heap:=(s.heap.push W.emptyDict).push (W.instObj C s.heap.objs.size) }:=by
 have e1:(s.heap.push W.emptyDict).get? s.heap.objs.size=some W.emptyDict:=Ζ s.heap rfl;have e2:((s.heap.push W.emptyDict).push (W.instObj C s.heap.objs.size)).get? (s.heap.objs.size+1)=some (W.instObj C s.heap.objs.size):=by
  have:=Ζ (s.heap.push W.emptyDict) (o:=W.instObj C s.heap.objs.size) rfl
  rwa [eU] at this
 have e3:(s.heap.push W.emptyDict).Ns s.heap.objs.size (fun _=>none):=⟨W.emptyDict,#[],_,e1,rfl,(fun e he=>absurd he (by simp)),fun _=>rfl⟩
 have I1:=I.laid (a:=s.heap.objs.size) (o:=.own (s.heap.objs.size+1)) (h':=s.heap.push W.emptyDict) (t':=s.toks) (fun b u q=>θ _ q) (χ _) ⟨_,e1⟩;refine I1.laid (a:=s.heap.objs.size+1) (o:=.ins C s.heap.objs.size []) (t':=s.toks) (fun b u q=>θ _ q) (gj (eU _ _)) ?_;have ne:s.heap.objs.size≠s.heap.objs.size+1:=ϋ (dD _);refine ⟨by rw [zj ne,zp],aW _,ne,e2,fun _=>none,(Heap.Ns1.of_empty e3).at fun o q=>θ _ q,fun _=>ϴ,fun y hy=>absurd rfl hy⟩
theorem zf3 {prog:Χ}{w:Ϛ}{env:Env}{e:Expr}{f:Str}{pos:Pos}{s:ξ}{Q:VSP}(hb:eF e f env (eval e env)=eval e env)
  (h:Δ (Λ prog w) A (eval e env) (fun o s₁=>Δ (Λ prog w) A (getAttr o f true) Q E s₁) E s):Δ (Λ prog w) A (eval (.Attribute e f pos) env) Q E s:=
 Attribute_any_ h (by rw [arm_eval_Attribute,hb])
end
def tFld (K:W.Frag) (ta:TE) (f:Str):TE:=fun σ H Q=>ta σ H fun x H1=>∃ a C dx fs v,x=.ref a/\H1 a=some (.ins C dx fs)/\Cls K C/\vN K C f/\fs.lookup f=some v/\Q v H1
def sFld (K:W.Frag) (ta tv:TE) (f:Str):TS:=fun D σ H=>tv σ H fun y H1=>ta σ H1 fun x H2=>∃ a C dx fs,x=.ref a/\H2 a=some (.ins C dx fs)/\Cls K C/\vN K C f/\fs.length < 1000 /\
 D.nx σ (upd H2 a (.ins C dx (putF f y fs)))
def InOp (X:Cx) (op:bZ) (rd:V->V->Hp->VK->Prop):Prop:=
 ∀ (pJ:List (Addr×Obj)) (s:ξ) (σ:St) (H:Hp) (x y:V) (u v:δ) (Q:VK),Inv X pJ σ H s->RelV x u->RelV y v->rd x y H Q->Δ (Λ X.prog X.w) X.A (inplaceOp op u v) (EP X pJ σ Q) X.xe s
def zeq (K:W.Frag) (ta tv:TE) (rd:V->V->Hp->VK->Prop) (f:Str):TS:=fun D σ H=>ta σ H fun x H1=>∃ a C dx fs v,x=.ref a/\H1 a=some (.ins C dx fs)/\Cls K C/\vN K C f/\fs.lookup f=some v /\
 tv σ H1 fun y H2=>rd v y H2 fun z H3=>∃ dx' fs',H3 a=some (.ins C dx' fs')/\fs'.length < 1000/\D.nx σ (upd H3 a (.ins C dx' (putF f z fs')))
section
variable {X:Cx}{o e value:Expr}{f:Str}{pos pos' tpos:Pos}{ta tv:TE}
theorem zhA (he:PE X e ta) (hb:eF e f X.env (eval e X.env)=eval e X.env):PE X (.Attribute e f pos) (tFld X.K ta f):=by intro pJ s σ H Q I h;refine zf3 hb (thn (he pJ s σ H _ I h) fun u s1 ⟨x,H1,I1,rx,a,C,dx,fs,v,ex,ea,c,n,l,q⟩=>?_);subst ex;obtain rfl:u=Θ a:=rx;exact qJ I1 ea c n l fun u' s2 I2 ru=>⟨v,H1,I2,ru,q⟩
theorem zhp (ha:PE X o ta) (hv:PE X value tv) (hs:eZ value (some (.Attribute o f pos')) pos.line X.env=pure false):PS X (.Assign [.Attribute o f pos'] value pos) (sFld X.K ta tv f):=by intro pJ s σ H D I h;refine plainObj_wpAny_Assign_Attribute (thn (hv pJ s σ H _ I h) fun u s1 ⟨y,H1,I1,ry,q⟩=>thn (ha pJ s1 σ H1 _ I1 q) fun ov s2 ⟨x,H2,I2,rx,a,C,dx,fs,ex,ea,c,n,l,q2⟩=>?_) hs;subst ex;obtain rfl:ov=Θ a:=rx;exact qb I2 ea c n l ry fun s3 I3=>⟨σ,_,I3,q2⟩
theorem QM {op:bZ}{rd:V->V->Hp->VK->Prop}(ha:PE X o ta) (hv:PE X value tv) (hop:InOp X op rd):PS X (.AugAssign (.Attribute o f tpos) op value pos) (zeq X.K ta tv rd f):=by
 intro pJ s σ H D I h;refine wpAny_AugAssign_AttributeAny (thn (ha pJ s σ H _ I h) fun ov s1 ⟨x,H1,I1,rx,a,C,dx,fs,v,ex,ea,c,n,l,q⟩=>?_);subst ex;obtain rfl:ov=Θ a:=rx;refine qJ I1 ea c n l fun u s2 I2 ru=>thn (hv pJ s2 σ H1 _ I2 q) fun w3 s3 ⟨y,H2,I3,ry,q3⟩=>thn (hop pJ s3 σ H2 v y u w3 _ I3 ru ry q3) fun w4 s4 ⟨z,H3,I4,rz,dx',fs',ea',l',q4⟩=>?_
 exact qb I4 ea' c n l' rz fun s5 I5=>⟨σ,_,I5,q4⟩
def rAdd:V->V->Hp->VK->Prop:=fun x y H Q=>∃ i j,x=.int i/\y=.int j/\Q (.int (i+j)) H
def rSub:V->V->Hp->VK->Prop:=fun x y H Q=>∃ i j,x=.int i/\y=.int j/\Q (.int (i - j)) H
theorem zix:InOp X .Add rAdd:=by
 rintro pJ s σ H x y u v Q I rx ry ⟨i,j,rfl,rfl,q⟩;obtain ⟨t,rfl⟩:=(show ∃ t,u=Ϫ i t from rx)
 obtain ⟨t',rfl⟩:=(show ∃ t',v=Ϫ j t' from ry)
 exact PyProof.Rows.iadd_int ⟨.int (i+j),H,I.tok _,⟨_,rfl⟩,q⟩
theorem ziu:InOp X .Sub rSub:=by
 rintro pJ s σ H x y u v Q I rx ry ⟨i,j,rfl,rfl,q⟩;obtain ⟨t,rfl⟩:=(show ∃ t,u=Ϫ i t from rx)
 obtain ⟨t',rfl⟩:=(show ∃ t',v=Ϫ j t' from ry)
 exact PyProof.Rows.isub_int ⟨.int (i - j),H,I.tok _,⟨_,rfl⟩,q⟩
end
section
variable {X:Cx}{pJ:List (Addr×Obj)}{σ:St}{H:Hp}{s:ξ}{A:ϖ}{E:VSP}{Q:VSP}{c:δ}{b:Bool}
inductive TyOf (K:W.Frag) (H:Hp):V->δ->Prop where
 | non:TyOf K H .non (.type "NoneType")
 | bl (x:Bool):TyOf K H (.bl x) (.type "bool")
 | int (i:Int):TyOf K H (.int i) (.type "int")
 | str (x:Str):TyOf K H (.str x) (.type "str")
 | flt (x:UInt64):TyOf K H (.flt x) (.type "float")
 | lst {a:Addr}{xs:List V}(e:H a=some (.lst xs)):TyOf K H (.ref a) (.type "list")
 | frz {a:Addr}{o:Obj}{xs:List V}(e:H a=some (.frz o (.lst xs))):TyOf K H (.ref a) (.type "list")
 | tup {a:Addr}{xs:List V}(e:H a=some (.tup xs)):TyOf K H (.ref a) (.type "tuple")
 | dK {a:Addr}{kvs:List (Key×V)}(e:H a=some (.dK kvs)):TyOf K H (.ref a) (.type "dict")
 | dT {a:Addr}{kvs:List (List Key×V)}(e:H a=some (.dT kvs)):TyOf K H (.ref a) (.type "dict")
 | ins {a C dx:Addr}{fs:List (Str×V)}(e:H a=some (.ins C dx fs)) (cl:Cls K C) (ha:W.findIn K (.ref C) "__class__"=some (some (.builtin "object.__class__")))
   (hn:W.specialIn K (.builtin "object.__class__") "__get__"=some (some (.builtin "getset_descriptor.__get__"))) (htk:W.takesIn K (.builtin "object.__class__")=some true)
   (hm:W.mroIn K C (.type "object")=some true):TyOf K H (.ref a) (.ref C)
theorem zaF {x:V}{u t:δ}(I:Inv X pJ σ H s) (rx:RelV x u) (ty:TyOf X.K H x t) (e:W.kitOne X.K t c=some b) (h:∀ tk,Q (.bool b) { s with toks:=tk }):
  Δ (Λ X.prog X.w) A (call (.builtin "isinstance") [u,c]) Q E s:=by
 cases ty with
 | non=>cases (show u=ϓ from rx);exact W.kia_one W.kitx_none I.kIn ϴ e (fun z=>nomatch z) h
 | bl y=>cases (show u=Ϯ y from rx);exact W.kia_one W.kitx_bool I.kIn ϴ e (fun z=>nomatch z) h
 | int i=>obtain ⟨t,q⟩:=(show ∃ t,u=Ϫ i t from rx);cases q;exact W.kia_one W.kitx_int I.kIn ϴ e (fun z=>nomatch z) h
 | str y=>obtain ⟨t,q⟩:=(show ∃ t,u=bw y t from rx);cases q;exact W.kia_one W.kitx_str I.kIn ϴ e (fun z=>nomatch z) h
 | flt y=>obtain ⟨t,q⟩:=(show ∃ t,u=δ.float y t from rx);cases q;exact W.kia_one W.kitx_float I.kIn ϴ e (fun z=>nomatch z) h
 | @lst a xs ea=>
  cases (show u=Θ a from rx);obtain ⟨_,_,n,_,h1⟩:=(show zW X.prog X.w H s.heap a (.lst xs) from I.hok a _ ea)
  exact W.kia_one W.kitx_list I.kIn ⟨_,h1,rfl⟩ e (fun z=>nomatch z) h
 | @frz a ob xs ea=>
  cases (show u=Θ a from rx);obtain ⟨_,_,_,n,_,h1⟩:=(show zW X.prog X.w H s.heap a (.frz ob (.lst xs)) from I.hok a _ ea)
  exact W.kia_one W.kitx_list I.kIn ⟨_,h1,rfl⟩ e (fun z=>nomatch z) h
 | @tup a xs ea=>
  cases (show u=Θ a from rx);obtain ⟨_,_,_,p⟩:=(show zW X.prog X.w H s.heap a (.tup xs) from I.hok a _ ea)
  obtain ⟨o,h1,h2,_⟩:=p;exact W.kia_one W.kitx_tuple I.kIn ⟨o,h1,h2⟩ e (fun z=>nomatch z) h
 | @dK a kvs ea=>
  cases (show u=Θ a from rx);obtain ⟨_,_,vs,_,p⟩:=(show zW X.prog X.w H s.heap a (.dK kvs) from I.hok a _ ea)
  obtain ⟨o,es,ep,h1,h2,_⟩:=p;exact W.kia_one W.kitx_dict I.kIn ⟨o,h1,h2.1⟩ e (fun z=>nomatch z) h
 | @dT a kvs ea=>
  cases (show u=Θ a from rx);obtain ⟨_,_,xs,_,o,es,ep,h1,h2,_⟩:=(show zW X.prog X.w H s.heap a (.dT kvs) from I.hok a _ ea)
  exact W.kia_one W.kitx_dict I.kIn ⟨o,h1,h2.1⟩ e (fun z=>nomatch z) h
 | @ins a C dx fs ea cl ha hn htk hm=>
  cases (show u=Θ a from rx);obtain ⟨mA,O,_⟩:=ZX I.hok ea;obtain ⟨od,J,_⟩:=O.look;exact W.kia_one (W.kitx_own (cl.get _) cl.hd ha hn htk hm) I.kIn J e (fun z=>nomatch z) h
end
structure Room (k:Nat) (A:ϖ):Prop where
 hd:A.handled=none
 gd:A.guards=some []
 dp:A.depth+3*k+5 < recursionLimit
 un:A.units+16*k+200 < ϥ
theorem Room.mono {j k:Nat}{A:ϖ}(r:Room k A) (h:j<=k):Room j A:=⟨r.hd,r.gd,by have:=r.dp;lia,by have:=r.un;lia⟩
theorem Room.deeper {k:Nat}{A:ϖ}(r:Room (k+1) A) (env:Env):Room k (A.deeper env):=
 ⟨r.hd,r.gd,by have:=r.dp;show A.depth+1+3*k+5 < _;lia,by have:=r.un;show A.units+3+16*k+200 < _;lia⟩
theorem Room.in1 {k:Nat}{A:ϖ}(r:Room (k+1) A):Room k A.in1:=
 ⟨r.hd,r.gd,by have:=r.dp;show A.depth+3*k+5 < _;lia,by have:=r.un;show A.units+1+16*k+200 < _;lia⟩
theorem J1 {A:ϖ}{C:Addr}{us:List δ}{kw:List (Str×δ)}:(A.under (.builtin "type.__call__" ⟨.ref C::us,kw⟩)).depth=A.depth+1:=by first | rfl | simp [lO,Code.weight,Code.isCreation,Code.isGuard,Code.isCaller,Code.frames,pL,guardIds]
theorem J0 {A:ϖ}{C:Addr}{us:List δ}{kw:List (Str×δ)}:(A.under (.builtin "type.__call__" ⟨.ref C::us,kw⟩)).units=A.units+1:=by first | rfl | simp [lO,Code.cUnits,Code.frames,pL]
theorem W9 {A:ϖ}{C:Addr}{us:List δ}{kw:List (Str×δ)}(h:A.guards=some []):(A.under (.builtin "type.__call__" ⟨.ref C::us,kw⟩)).guards=some []:=by simp [lO,h,PySem.pushGuards_eq,Code.guards,Code.isGuard,guardIds]
theorem Room.make {k:Nat}{A:ϖ}(r:Room (k+1) A) (C:Addr) (us:List δ) (kw:List (Str×δ)):Room k (A.under (.builtin "type.__call__" ⟨.ref C::us,kw⟩)):=
 ⟨r.hd,W9 r.gd,by have:=r.dp;rw [J1];lia,by have:=r.un;rw [J0];lia⟩
theorem Room.depth {k:Nat}{A:ϖ}(r:Room k A):A.depth < recursionLimit:=by have:=r.dp;lia
theorem Room.units {k:Nat}{A:ϖ}(r:Room k A):A.units+64 < ϥ:=by have:=r.un;lia
def tNil:TA:=fun _ H Q=>Q [] H
def zgD (ta:TE) (tr:TA):TA:=fun σ H Q=>ta σ H fun x H1=>tr σ H1 fun xs H2=>Q (x::xs) H2
section
variable {X:Cx}{e:Expr}{es:List Expr}{te:TE}{t:TA}{pos:Pos}
theorem xq:PA X [] tNil:=fun _ _ _ _ H Q I h=>Calls.spliced_nil ⟨[],H,I,.nil,h⟩
theorem yg (ha:PE X e te) (hr:PA X es t) (hs:ϟ (e::es) X.env=(false,eval e X.env)::ϟ es X.env:=by rfl):PA X (e::es) (zgD te t):=by
 intro pos pJ s σ H Q I h;rw [hs];show Δ _ _ (spliced ((false,eval e X.env)::dR pos (ϟ es X.env))) _ _ s
 refine Calls.spliced_cons (thn (ha pJ s σ H _ I h) fun u s1 ⟨x,H1,I1,r1,q1⟩=>?_);exact thn (hr pos pJ s1 σ H1 _ I1 q1) fun us s2 ⟨xs,H2,I2,r2,q2⟩=>⟨x::xs,H2,I2,.cons r1 r2,q2⟩
def tTup (t:TA):TE:=fun σ H Q=>t σ H fun xs H1=>xs.length<=sizeLine/\∀ p,H1 p=none->Q (.ref p) (upd H1 p (.tup xs))
def tLst (t:TA):TE:=fun σ H Q=>t σ H fun xs H1=>xs.length<=sizeLine/\∀ p,H1 p=none->Q (.ref p) (upd H1 p (.lst xs))
theorem zhu {x1} (h:PA X es t):PE X (.Tuple es x1 pos) (tTup t):=by intro pJ s σ H Q I hq;refine wpAny_Tuple_spliced (thn (h pos pJ s σ H _ I hq) fun us s1 ⟨xs,H1,I1,r,z,q⟩=>⟨by rw [<- r.length];exact z,?_⟩);have hf:H1 s1.heap.objs.size=none:=I1.hok.fresh (χ _);refine ⟨.ref s1.heap.objs.size,upd H1 s1.heap.objs.size (.tup xs),I1.laid (t':=s1.toks) (fun b u e=>θ _ e) (χ _) ?_,rfl,q _ hf⟩;exact ⟨z,us,r,⟨_,Ζ _ rfl,rfl,_,rfl⟩⟩
theorem zhz (h:PA X es t):PE X (.List es pos) (tLst t):=by intro pJ s σ H Q I hq;refine wpAny_List_spliced (thn (h pos pJ s σ H _ I hq) fun us s1 ⟨xs,H1,I1,r,z,q⟩=>⟨by rw [<- r.length];exact z,?_⟩);have hf:H1 s1.heap.objs.size=none:=I1.hok.fresh (χ _);refine ⟨.ref s1.heap.objs.size,upd H1 s1.heap.objs.size (.lst xs),I1.laid (t':=s1.toks) (fun b u e=>θ _ e) (χ _) ?_,rfl,q _ hf⟩;exact ⟨z,us,0,r,Ζ _ rfl⟩
end
abbrev Sp:=List V->Hp->VK->XK->Prop
abbrev CXT:=List Env->Hp->ξ->XK->δ->ξ->Prop
structure Env0 (P:Χ) (w:Ϛ) (K:W.Frag) (mg:Str->Option δ) (base:Heap) (A:ϖ) (outer:List Env) (s:ξ) (H:Hp):Prop where
 frames:A.frames=some outer
 mod:Mod K mg base
 bs:∀ b o,base.get? b=some o->s.heap.get? b=some o/\H b=none
 bsz:base.objs.size<=s.heap.objs.size
 funs:s.heap.FunFrames base outer
 frf:∀ b∈frs outer,H b=none
 hok:HOk P w H s.heap
 bare:iz s.gens
def CE (outer:List Env) (P:Χ) (w:Ϛ) (H:Hp) (s:ξ) (Q:VK) (u:δ) (s':ξ):Prop:=
 ∃ v H',s'.os=s.os/\iz s'.gens/\Un (frs outer) [] H H' s.heap s'.heap/\HOk P w H' s'.heap/\RelV v u/\Q v H'
def CR (CX:CXT) (outer:List Env) (P:Χ) (w:Ϛ) (H:Hp) (s:ξ) (Q:VK) (E:XK) (r:Result) (s':ξ):Prop:=
 match r with
 | .ok (.ret u)=>CE outer P w H s Q u s'
 | .ok _=>False
 | .error e=>CX outer H s E e s'
structure FnOk (P:Χ) (w:Ϛ) (K:W.Frag) (mg:Str->Option δ) (base:Heap) (CX:CXT) (k:Nat) (f:Addr) (fd:bT) (ps:List Str) (sp:Sp):Prop where
 len:∀ vs H Q E,sp vs H Q E->vs.length=ps.length
 run:∀ (A:ϖ) (outer:List Env) (s:ξ) (H:Hp) (args:Args) (us:List δ) (vs:List V) (Q:VK) (E:XK),Room k A->Env0 P w K mg base A outer s H->BindsTo s fd args (ps.zip us)->Vals vs us->sp vs H Q E ->
  ik (Λ P w) A (.call (.ref f) args) (CR CX outer P w H s Q E) s
theorem Env0.make {P:Χ}{w:Ϛ}{K:W.Frag}{mg:Str->Option δ}{base:Heap}{A:ϖ}{outer:List Env}{s:ξ}{H:Hp}(e:Env0 P w K mg base A outer s H) (C:Addr) (us:List δ) (kw:List (Str×δ)):
  Env0 P w K mg base (A.under (.builtin "type.__call__" ⟨.ref C::us,kw⟩)) outer s H:=⟨by first | exact e.frames | (simpa [lO,Code.envs,pL,pushEnvs] using e.frames),e.mod,e.bs,e.bsz,e.funs,e.frf,e.hok,e.bare⟩
theorem Env0.in1 {P:Χ}{w:Ϛ}{K:W.Frag}{mg:Str->Option δ}{base:Heap}{A:ϖ}{outer:List Env}{s:ξ}{H:Hp}(e:Env0 P w K mg base A outer s H):
  Env0 P w K mg base A.in1 outer s H:=⟨e.frames,e.mod,e.bs,e.bsz,e.funs,e.frf,e.hok,e.bare⟩
section
variable {X:Cx}{pJ:List (Addr×Obj)}{σ:St}{H:Hp}{s s':ξ}
theorem Inv.env0 (I:Inv X pJ σ H s):Env0 X.prog X.w X.K X.mg X.base X.A X.stack s H:=
 ⟨I.ok.frames,I.ok.mod,I.bs,Ϩ I.ok.bsz I.sz,I.stack,I.Zk,I.hok,I.bare⟩
theorem Inv.after {Q:VK}{u:δ}(I:Inv X pJ σ H s) (h:CE X.stack X.prog X.w H s Q u s'):EP X pJ σ Q u s':=by obtain ⟨v,H',os,bare,un,hok,r,q⟩:=h;obtain ⟨hh,g,d,t,os'⟩:=s';obtain rfl:os'=s.os:=os;exact ⟨v,H',I.call (h':=hh) (g':=g) (d':=d) (t':=t) (ch:=[]) un hok bare (fun b z=>absurd z (by simp)),r,q⟩
end
def zjo (sp:Sp) (dvs:List V) (E:XK) (t:TA):TE:=fun σ H Q=>t σ H fun vs H1=>sp (vs++dvs) H1 Q E
def zjk (C:Addr) (sp:Sp) (dvs:List V) (E:XK) (t:TA):TE:=fun σ H Q=>t σ H fun vs H1=>∀ x dx,H1 x=none->H1 dx=none->dx≠x ->
 sp (.ref x::(vs++dvs)) (upd (upd H1 dx (.own x)) x (.ins C dx [])) (fun v H2=>v=.non/\Q (.ref x) H2) E
def Binds (K:W.Frag) (fd:bT) (ps:List Str) (ds:List δ):Prop:=
 ∀ (s:ξ) (us:List δ),K.In s.heap->(us++ds).length=ps.length->BindsTo s fd ⟨us,[]⟩ (ps.zip (us++ds))
theorem Binds.all {K:W.Frag}{fd:bT}{ps:List Str}(h:∀ us:List δ,us.length=ps.length->bindArgs fd ⟨us,[]⟩=pure (ps.zip us)):Binds K fd ps []:=fun s us _ hl=>by rw [ύ] at hl ⊢;exact .of_eq (h us hl)
def kj (CX:CXT) (X:Cx) (E:XK):Prop:=∀ (pJ:List (Addr×Obj)) (σ:St) (H:Hp) (s:ξ) (e:δ) (s':ξ),Inv X pJ σ H s->CX X.stack H s E e s'->X.xe e s'
section
variable {X:Cx}{CX:CXT}{k:Nat}{f C:Addr}{fd:bT}{ps:List Str}{sp:Sp}{dvs:List V}{ds:List δ}{E:XK}{x m:Str}{p pos apos:Pos}{e o:Expr}{es:List Expr}{ta:TE}{t:TA}
theorem Qx {pJ:List (Addr×Obj)}{σ:St}{H:Hp}{s:ξ}{Q:VK}{us:List δ}{vs:List V}(F:FnOk X.prog X.w X.K X.mg X.base CX k f fd ps sp) (hr:Room k X.A) (hb:Binds X.K fd ps ds) (hd:Vals dvs ds) (hx:kj CX X E)
  (I:Inv X pJ σ H s) (r:Vals vs us) (h:sp (vs++dvs) H Q E):Δ (Λ X.prog X.w) X.A (call (.ref f) us) (EP X pJ σ Q) X.xe s:=by
 have r2:Vals (vs++dvs) (us++ds):=r.append hd;have hl:(us++ds).length=ps.length:=by rw [<- r2.length];exact F.len _ _ _ _ h
 refine pN (fC (F.run X.A X.stack s H ⟨us,[]⟩ (us++ds) (vs++dvs) Q E hr I.env0 (hb s us I.kIn hl) r2 h) fun r s' hq=>?_);cases r with
 | error e=>exact hx pJ σ H s e s' I hq
 | ok fl=>
  cases fl with
  | ret u=>exact I.after hq
  | next=>exact ϩ hq
  | brk=>exact ϩ hq
  | cont=>exact ϩ hq
theorem zeT (F:FnOk X.prog X.w X.K X.mg X.base CX k f fd ps sp) (hr:Room k X.A) (hg:Gl X x) (hm:X.mg x=some (.ref f)) (hk:W.keepIn X.K (.ref f)=true) (hb:Binds X.K fd ps ds) (hd:Vals dvs ds) (hx:kj CX X E)
  (ha:PA X (e::es) t) (hdb:(x==("__debug__":Str))=false:=by decide) (he:ϟ (e::es) X.env=(false,eval e X.env)::ϟ es X.env:=by rfl) (hpl:(dR pos (ϟ es X.env)).any (·.1)=false:=by rfl):
  PE X (.Call (.Name x p) (e::es) [] pos) (zjo sp dvs E t):=by intro pJ s σ H Q I h;refine eV (jy I hg hm ?_ hdb);refine W.callWith_K (h₀:=X.base) I.ok.mod.kin hk (thn (ha pos pJ s σ H _ I h) fun us s1 ⟨vs,H1,I1,r,q⟩=>⟨I1.kIn,?_⟩) he hpl;exact Qx F hr hb hd hx I1 r q
structure Mk (K:W.Frag) (C f:Addr):Prop where
 makes:W.makesIn K C=true
 init:W.findIn K (.ref C) "__init__"=some (some (.ref f))
 fn:W.isFn K (.ref f)=true
 kp:W.keepIn K (.ref C)=true
theorem zbU {pJ:List (Addr×Obj)}{σ:St}{H:Hp}{s:ξ}{Q:VK}{us:List δ}{vs:List V}(M:Mk X.K C f) (F:FnOk X.prog X.w X.K X.mg X.base CX k f fd ps sp) (hr:Room (k+1) X.A) (hb:Binds X.K fd ps ds) (hd:Vals dvs ds)
  (hx:kj CX X E) (I:Inv X pJ σ H s) (r:Vals vs us)
  (h:∀ x dx,H x=none->H dx=none->dx≠x->sp (.ref x::(vs++dvs)) (upd (upd H dx (.own x)) x (.ins C dx [])) (fun v H2=>v=.non/\Q (.ref x) H2) E):
  Δ (Λ X.prog X.w) X.A (call (.ref C) us) (EP X pJ σ Q) X.xe s:=by
 have hq:=h (s.heap.objs.size+1) s.heap.objs.size (I.hok.fresh (fM _)) (I.hok.fresh (χ _)) (ϋ (dD _));have I2:=Inv.made (C:=C) I;have r2:Vals (V.ref (s.heap.objs.size+1)::(vs++dvs)) (Θ (s.heap.objs.size+1)::(us++ds)):=.cons rfl (r.append hd);have hl:(Θ (s.heap.objs.size+1)::us++ds).length=ps.length:=by have e:=r2.length;rw [F.len _ _ _ _ hq] at e;exact e.symm
 refine pN (zcq (f:=f) I.kIn M.makes M.init (beq_iff_eq.mp M.fn) (fC (F.run _ X.stack _ _ ⟨Θ (s.heap.objs.size+1)::us,[]⟩ (Θ (s.heap.objs.size+1)::(us++ds)) _ _ E (hr.make C us [])
  (I2.env0.make C us []) (hb _ (Θ (s.heap.objs.size+1)::us) I2.kIn hl) r2 hq) fun r s' hq'=>?_))
 cases r with
 | error e=>exact hx pJ σ _ _ e s' I2 hq'
 | ok fl=>
  cases fl with
  | ret u=>
   obtain ⟨v,H',I3,rv,ev,q3⟩:=I2.after hq';subst ev;exact ⟨rv,⟨V.ref (s.heap.objs.size+1),H',I3,rfl,q3⟩⟩
  | next=>exact ϩ hq'
  | brk=>exact ϩ hq'
  | cont=>exact ϩ hq'
theorem zeP (M:Mk X.K C f) (F:FnOk X.prog X.w X.K X.mg X.base CX k f fd ps sp) (hr:Room (k+1) X.A) (hg:Gl X x) (hm:X.mg x=some (.ref C)) (hb:Binds X.K fd ps ds) (hd:Vals dvs ds) (hx:kj CX X E)
  (ha:PA X (e::es) t) (hdb:(x==("__debug__":Str))=false:=by decide) (he:ϟ (e::es) X.env=(false,eval e X.env)::ϟ es X.env:=by rfl) (hpl:(dR pos (ϟ es X.env)).any (·.1)=false:=by rfl):
  PE X (.Call (.Name x p) (e::es) [] pos) (zjk C sp dvs E t):=by intro pJ s σ H Q I h;refine eV (jy I hg hm ?_ hdb);refine W.callWith_K (h₀:=X.base) I.ok.mod.kin M.kp (thn (ha pos pJ s σ H _ I h) fun us s1 ⟨vs,H1,I1,r,q⟩=>⟨I1.kIn,?_⟩) he hpl;exact zbU M F hr hb hd hx I1 r q
end
def PK (X:Cx) (kws:List bD) (t:TA):Prop:=
 ∀ (pos:Pos) (pJ:List (Addr×Obj)) (s:ξ) (σ:St) (H:Hp) (Q:List V->Hp->Prop),Inv X pJ σ H s->t σ H Q->Δ (Λ X.prog X.w) X.A (evalAll ((bY pos (aG kws X.env)).map (·.2))) (AP X pJ σ Q) X.xe s
section
variable {X:Cx}{CX:CXT}{k:Nat}{f C:Addr}{fd:bT}{ps ks:List Str}{sp:Sp}{E:XK}{x m:Str}{p pos apos kpos:Pos}{e o:Expr}{es:List Expr}{kws:List bD}{te ta:TE}{t tk:TA}{nm:Option Str}
theorem zhr:PK X [] tNil:=fun _ _ _ _ H Q I h=>wpAny_evalAll_nil ⟨[],H,I,.nil,h⟩
theorem zeN (ha:PE X e te) (hr:PK X kws t):PK X (⟨nm,e,kpos⟩::kws) (zgD te t):=by
 intro pos pJ s σ H Q I h;show Δ _ _ (evalAll ((do let v <- eval e X.env;standAt pos;pure v)::(bY pos (aG kws X.env)).map (·.2))) _ _ s
 refine wpAny_evalAll_cons (γ (thn (ha pJ s σ H _ I h) fun u s1 ⟨x,H1,I1,r1,q1⟩=>γ (iB (ι ?_))));exact thn (hr pos pJ s1 σ H1 _ I1 q1) fun us s2 ⟨xs,H2,I2,r2,q2⟩=>⟨x::xs,H2,I2,.cons r1 r2,q2⟩
structure zbx (K:W.Frag) (fd:bT) (ps ks:List Str) (g:List δ->List δ->List δ) (gV:List V->List V->List V):Prop where
 to:∀ (s:ξ) (us ws:List δ),K.In s.heap->(g us ws).length=ps.length->BindsTo s fd ⟨us,ks.zip ws⟩ (ps.zip (g us ws))
 rel:∀ {vs:List V}{us:List δ}{zs:List V}{ws:List δ},Vals vs us->Vals zs ws->Vals (gV vs zs) (g us ws)
def zgE (sp:Sp) (gV:List V->List V->List V) (E:XK) (t tk:TA):TE:=fun σ H Q=>t σ H fun vs H1=>tk σ H1 fun zs H2=>sp (gV vs zs) H2 Q E
variable {g:List δ->List δ->List δ}{gV:List V->List V->List V}
theorem zer {pJ:List (Addr×Obj)}{σ:St}{H:Hp}{s:ξ}{Q:VK}{us ws:List δ}{vs zs:List V}(F:FnOk X.prog X.w X.K X.mg X.base CX k f fd ps sp) (hr:Room k X.A) (hb:zbx X.K fd ps ks g gV) (hx:kj CX X E)
  (I:Inv X pJ σ H s) (r:Vals vs us) (rz:Vals zs ws) (h:sp (gV vs zs) H Q E):Δ (Λ X.prog X.w) X.A (call (.ref f) us (ks.zip ws)) (EP X pJ σ Q) X.xe s:=by
 have r2:=hb.rel r rz;have hl:(g us ws).length=ps.length:=by rw [<- r2.length];exact F.len _ _ _ _ h
 refine pN (fC (F.run X.A X.stack s H ⟨us,ks.zip ws⟩ (g us ws) (gV vs zs) Q E hr I.env0 (hb.to s us ws I.kIn hl) r2 h) fun r s' hq=>?_);cases r with
 | error e=>exact hx pJ σ H s e s' I hq
 | ok fl=>
  cases fl with
  | ret u=>exact I.after hq
  | next=>exact ϩ hq
  | brk=>exact ϩ hq
  | cont=>exact ϩ hq
end
structure Yb (N P:List Str) (sc:eG):Prop where
 kind:sc.kind=.function
 co:sc.isCoroutine=false
 gen:sc.isGenerator=false
 nd:N.Nodup
 pre:N.take P.length=P
 par:∀ x∈P,sc.names.lookup x=some .local\/sc.names.lookup x=some .cell
 nofree:∀ y∈sc.names,y.2≠.free
theorem Wb {kindOf:Str->Option aj}{x:Str}:∀ {binds:List (Str×δ)}{m:Str->Option δ},(∀ v,(x,v) ∉ binds)->bindL kindOf binds m x=m x
 | [],_,_=>rfl
 | (n,v)::r,m,h=>by
  unfold bindL;rw [Wb fun w hw=>h w (ν _ hw)];split
  ·have:x≠n:=by rintro rfl;exact h v μ
   simp [this]
  ·rfl
theorem Wd {kindOf:Str->Option aj}{x:Str}:∀ {binds:List (Str×δ)}{m:Str->Option δ},(∀ v,(x,v) ∉ binds)->bindC kindOf binds m x=m x
 | [],_,_=>rfl
 | (n,v)::r,m,h=>by
  unfold bindC;rw [Wd fun w hw=>h w (ν _ hw)];split
  ·rfl
  ·have:x≠n:=by rintro rfl;exact h v μ
   simp [this]
theorem Wc {kindOf:Str->Option aj}{x:Str}{v:δ}:∀ {P:List Str}{vs:List δ}{i:Nat}{m:Str->Option δ},P.Nodup->P[i]?=some x->vs[i]?=some v->kindOf x=some .local ->
  bindL kindOf (P.zip vs) m x=some v
 | [],_,_,_,_,h,_,_=>by simp at h
 | _::_,[],_,_,_,_,h,_=>by simp at h
 | p::P,w::vs,0,m,nd,h1,h2,hk=>by
  simp at h1 h2;subst h1;subst h2;show bindL kindOf ((p,w)::P.zip vs) m p=_
  unfold bindL;rw [Wb fun v hv=>(b7.mp nd).1 (fO hv).1,if_pos hk];simp
 | p::P,w::vs,i+1,m,nd,h1,h2,hk=>by
  show bindL kindOf ((p,w)::P.zip vs) m x=_
  unfold bindL;exact Wc (i:=i) (b7.mp nd).2 (by simpa using h1) (by simpa using h2) hk
theorem We {kindOf:Str->Option aj}{x:Str}{v:δ}:∀ {P:List Str}{vs:List δ}{i:Nat}{m:Str->Option δ},P.Nodup->P[i]?=some x->vs[i]?=some v->kindOf x≠some .local ->
  bindC kindOf (P.zip vs) m x=some v
 | [],_,_,_,_,h,_,_=>by simp at h
 | _::_,[],_,_,_,_,h,_=>by simp at h
 | p::P,w::vs,0,m,nd,h1,h2,hk=>by
  simp at h1 h2;subst h1;subst h2;show bindC kindOf ((p,w)::P.zip vs) m p=_
  unfold bindC;rw [Wd fun v hv=>(b7.mp nd).1 (fO hv).1,if_neg hk];simp
 | p::P,w::vs,i+1,m,nd,h1,h2,hk=>by
  show bindC kindOf ((p,w)::P.zip vs) m x=_
  unfold bindC;exact We (i:=i) (b7.mp nd).2 (by simpa using h1) (by simpa using h2) hk
noncomputable def start (N:List Str) (vs:List V):St:=vs.map some++Ϸ (N.length - vs.length) none
noncomputable def cxOf (CX:CXT) (P:Χ) (w:Ϛ) (K:W.Frag) (mg:Str->Option δ) (base:Heap) (N:List Str) (qual:Str) (scope:eG) (f:Addr) (cd:δ) (A:ϖ) (outer:List Env) (s:ξ) (H:Hp) (E:XK):Cx where
 prog:=P
 w:=w
 K:=K
 mg:=mg
 base:=base
 A:=A.deeper (m6 qual scope s.heap.objs.size f cd)
 N:=N
 sy:=s
 Hz:=H
 env:=m6 qual scope s.heap.objs.size f cd
 outer:=outer
 stack:=m6 qual scope s.heap.objs.size f cd::outer
 ex:=[]
 calm:=true
 fn:=fun _=>true
 pn:=[]
 xe:=fun e s'=>Δ (Λ P w) (A.deeper (m6 qual scope s.heap.objs.size f cd)) (leaving (m6 qual scope s.heap.objs.size f cd) e) (fun _ s''=>CX outer H s E e s'') (fun e' s''=>CX outer H s E e' s'') s'
theorem Z4 {sc:eG}{n:Nat}{x:Str}(h:sc.names.lookup x=some .cell):∃ c,(cellsFrom n sc.names []).lookup x=some c:=by have q:=W.cellsFrom_some sc.names n [] (.inl h);exact n8.mp q
theorem zaI {CX:CXT}{P:Χ}{w:Ϛ}{K:W.Frag}{mg:Str->Option δ}{base:Heap}{N ps:List Str}{qual:Str}{scope:eG}{f:Addr}{cd:δ}{A:ϖ}{outer:List Env}{s s1:ξ}{H:Hp}{E:XK}{us:List δ}{vs:List V}
  (S:Yb N ps scope) (hd:A.handled=none) (e0:Env0 P w K mg base A outer s H) (hl:vs.length=ps.length) (r:Vals vs us)
  (x:InCallC s s.heap.objs.size (bindL (m6 qual scope s.heap.objs.size f cd).kindOf (ps.zip us) fun _=>none) (cellsFrom (s.heap.objs.size+1) scope.names []) (bindC (m6 qual scope s.heap.objs.size f cd).kindOf (ps.zip us) fun _=>none) s1):
  Inv (cxOf CX P w K mg base N qual scope f cd A outer s H E) [] (start N vs) H s1:=by
 have hpl:ps.length<=N.length:=by have:=congrArg List.length S.pre;rw [cC] at this;lia
 obtain ⟨h1,tk,rfl,hk⟩:=x.done;have noA:∀ b:Addr,b ∉ (cxOf CX P w K mg base N qual scope f cd A outer s H E).ex:=fun b z=>absurd (show b∈([]:List Addr) from z) (by simp)
 refine ⟨⟨e0.mod,S.kind,rfl,rfl,χ _,fun y z c h1 h2=>?_,fun y hy=>?_,fun y c _ h=>?_,fun _=>hd,ϖ.frames_deeper e0.frames,.inr ⟨rfl,rfl⟩,fun b z=>absurd z (noA b),e0.bs,e0.bsz,fun b _ _=>noA b,fun b z=>absurd z (noA b),e0.funs,e0.frf⟩,
  rfl,e0.bare,Un.kept hk,⟨_,x.toInCall.ns,fun i y v h1 h2 h3=>?_⟩,fun y c h=>⟨_,x.cell y c h⟩,e0.hok.fresh (χ _),fun y c h=>?_,fun p hp=>absurd (show p∈([]:List (Addr×Obj)) from hp) (by simp),e0.hok.kept hk,?_⟩
 ·exact name_of_addr x.apart (bK h1) (bK h2)
 ·have hy:scope.names.lookup y=some .cell\/scope.names.lookup y=some .free:=hy;rcases hy with hy | hy
  ·exact Z4 hy
  ·exact absurd rfl (S.nofree _ (bK hy))
 ·exact gh (x.above y c (bK h))
 ·have hi:i < vs.length:=by
   unfold start at h2;by_cases hi:i < vs.length
   ·exact hi
   ·rw [Ϧ (by simpa using hi)] at h2;rw [d8] at h2;split at h2 <;> cases h2
  have ha:vs[i]?=some v:=by
   unfold start at h2;rw [ϕ (by simpa using hi),Ρ] at h2;cases e:vs[i]? with
   | none=>rw [e] at h2;cases h2
   | some a=>rw [e] at h2;cases h2;rfl
  obtain ⟨u,hu,rv⟩:=r.get ha;have hp:ps[i]?=some y:=by rw [<- S.pre,List.getElem?_take_of_lt (by lia)];exact h1
  have ndP:ps.Nodup:=by rw [<- S.pre];exact S.nd.sublist (rN _ _)
  refine ⟨u,rv,?_⟩;rcases S.par y (ϣ hp) with k | k
  ·exact .inl ⟨k,Wc ndP hp hu k⟩
  ·obtain ⟨c,e⟩:=Z4 (n:=s.heap.objs.size+1) k;refine .inr ⟨.inl k,c,e,?_⟩;have q:=x.cell y c e;rw [We ndP hp hu (by show scope.names.lookup y≠_;rw [k];decide)] at q;exact q
 ·exact e0.hok.fresh (gh (x.above y c (bK h)))
 ·unfold start;show _=N.length
  rw [π,ζ,iJ];lia
theorem ziG {CX:CXT}{P:Χ}{w:Ϛ}{K:W.Frag}{mg:Str->Option δ}{base:Heap}{k:Nat}{f:Addr}{name qual:Str}{params:Arguments}{body:List Stmt}{scope:eG}{dV kV doc pm cdv ct oc:δ}{an od:Option Addr}
  {osl:Array (Option δ)}{N ps:List Str}{sp:Sp}(lk:K.lookup f=some ⟨oc,od,.func (W.fnOf name qual params body scope dV kV doc pm an cdv ct),osl⟩) (hcd:W.codeIn K cdv qual=true) (S:Yb N ps scope)
  (len:∀ vs H Q E,sp vs H Q E->vs.length=ps.length)
  (hbody:∀ (A:ϖ) (outer:List Env) (s:ξ) (H:Hp) (vs:List V) (Q:VK) (E:XK),Room k (A.deeper (m6 qual scope s.heap.objs.size f cdv))->sp vs H Q E ->
   ∃ t,PSs (cxOf CX P w K mg base N qual scope f cdv A outer s H E) body t/\t { nx:=fun _ H'=>Q .non H',rt:=Q } (start N vs) H):
  FnOk P w K mg base CX (k+1) f (W.fnOf name qual params body scope dV kV doc pm an cdv ct) ps sp:=by
 refine ⟨len,fun A outer s H args us vs Q E hr e0 hb r hsp=>?_⟩;have hl:=len _ _ _ _ hsp;have KX:K.In s.heap:=e0.mod.kin.keeps fun b o e=>(e0.bs b o e).1
 have lim:s.heap.NoLimit:=e0.mod.nolimit.keeps fun b o e=>(e0.bs b o e).1
 have hkind:∀ y∈ps.zip us,scope.names.lookup y.1=some .local\/(scope.names.lookup y.1=some .cell/\((cellsFrom (s.heap.objs.size+1) scope.names []).lookup y.1).isSome=true):=fun ⟨n,v⟩ hy=>by
  rcases S.par n (fO hy).1 with q | q
  ·exact .inl q
  ·exact .inr ⟨q,W.cellsFrom_some _ _ _ (.inl q)⟩
 refine codeAny_call_function hr.depth (KX _ _ lk) rfl S.co S.gen rfl (W.codeRec_of KX hcd) (hb _ _ _ _ ?_);refine wpAny_newFunctionEnv_cells S.kind hkind fun env he s1 x=>?_
 subst he;refine ⟨lim.keeps x.toInCall.keep,codeAny_func ?_⟩;obtain ⟨t,ht,hq⟩:=hbody A outer s H vs Q E (hr.deeper _) hsp;have I:Inv (cxOf CX P w K mg base N qual scope f cdv A outer s H E) [] (start N vs) H s1:=zaI S hr.hd e0 hl r x;refine bG (ht [] s1 (start N vs) H _ I hq) (fun fl s' hs=>?_) fun e s' hs=>hs
 have fin:∀ {σ':St}{H':Hp}{v:V}{u:δ},Inv (cxOf CX P w K mg base N qual scope f cdv A outer s H E) [] σ' H' s'->RelV v u->Q v H'->CE outer P w H s Q u s':=
  fun {σ' H' v u} J rv q=>⟨v,H',J.os,J.bare,J.base,J.hok,rv,q⟩
 cases fl with
 | ret u=>
  obtain ⟨v,σ',H',J,rv,q⟩:=hs;exact fin J rv q
 | next=>
  obtain ⟨σ',H',J,q⟩:=hs;exact fin (v:=V.non) (u:=ϓ) J rfl q
 | brk=>
  obtain ⟨_,_,_,q⟩:=hs;exact ϩ q
 | cont=>
  obtain ⟨_,_,_,q⟩:=hs;exact ϩ q
section
variable {X:Cx}{x:Str}{p pos:Pos}{e:Expr}{es:List Expr}{t:TA}{id T:String}{r:List V->Hp->VK->Prop}
def tCB (r:List V->Hp->VK->Prop) (t:TA):TE:=fun σ H Q=>t σ H fun vs H1=>r vs H1 Q
theorem Zx (hc:z9 X (.builtin id) r) (hg:Gl X x) (hm:X.mg x=none) (hv:cX x=some (.builtin id)) (ha:PA X (e::es) t) (hn:x≠"__name__":=by decide) (hdb:(x==("__debug__":Str))=false:=by decide)
  (he:ϟ (e::es) X.env=(false,eval e X.env)::ϟ es X.env:=by rfl) (hpl:(dR pos (ϟ es X.env)).any (·.1)=false:=by rfl):PE X (.Call (.Name x p) (e::es) [] pos) (tCB r t):=by intro pJ s σ H Q I h;refine eV (qC I hg hm hv ?_ hn hdb);exact PyProof.Rows.callWith_builtin1 (thn (ha pos pJ s σ H _ I h) fun us s1 ⟨vs,H1,I1,r1,q1⟩=>hc pJ s1 σ H1 vs us Q I1 r1 q1) he hpl
theorem YH (hc:z9 X (.type T) r) (hg:Gl X x) (hm:X.mg x=none) (hv:cX x=some (.type T)) (ha:PA X (e::es) t) (hn:x≠"__name__":=by decide) (hdb:(x==("__debug__":Str))=false:=by decide)
  (he:ϟ (e::es) X.env=(false,eval e X.env)::ϟ es X.env:=by rfl) (hpl:(dR pos (ϟ es X.env)).any (·.1)=false:=by rfl):PE X (.Call (.Name x p) (e::es) [] pos) (tCB r t):=by intro pJ s σ H Q I h;refine eV (qC I hg hm hv ?_ hn hdb);exact cI (thn (ha pos pJ s σ H _ I h) fun us s1 ⟨vs,H1,I1,r1,q1⟩=>hc pJ s1 σ H1 vs us Q I1 r1 q1) he hpl
end
end L2
namespace HT
open PySem PyProof.Rows
noncomputable def lexLt:List Int->List Int->Bool
 | [],[]=>false
 | [],_::_=>true
 | _::_,[]=>false
 | x::xs,y::ys=>if x=y then lexLt xs ys else decide (x < y)
theorem qz (x y:Int) (xs ys:List Int):lexLt (x::xs) (y::ys)=if x=y then lexLt xs ys else decide (x < y):=rfl
theorem ZG:lexLt [] []=false:=rfl
theorem kE (y:Int) (ys:List Int):lexLt [] (y::ys)=true:=rfl
theorem kI (x:Int) (xs:List Int):lexLt (x::xs) []=false:=rfl
theorem zcJ (A:ϖ) (s:ξ) (a:Int) (t:Tok) (c:Int) (u:Tok):∃ e,ϳ A s (.int a t) (.int c u) e/\(e=true ↔ a=c):=
 ⟨(a==c),oZ a t c u,by simp⟩
theorem zbY (A:ϖ) (s:ξ) (a:Int) (t:Tok) (c:Int) (u:Tok) (prog:Χ) (w:Ϛ) (E:δ->ξ->Prop) (Q:δ->ξ->Prop) (h:Q (.bool (decide (a < c))) s):
  Δ (Λ prog w) A (richCompare .Lt (.int a t) (.int c u)) Q E s:=
 (PyProof.Rows.lt_int h:Δ (Λ prog w) A (Ϗ .Lt (.int a t) (.int c u)) Q E s)
section
open PySem.SeqAt
open PySem.AutoSeq1 (wpAny_loadPart')
open PySem.MeetsSeq PySem.MeetsSeq2 PySem.MeetsSeq3
theorem wR (l b:Addr) (items items2:Array δ) (n n2:Nat) (dd dd2:Option Addr) (sl sl2:Array (Option δ)) (ns ms:List Int) (hi:fY items.toList ns) (hj:fY items2.toList ms):
  Meets (Τ.«tuple.__lt__» ⟨[.ref l,.ref b],[]⟩)
   (fun _ R s=>s.heap.get? l=some { cls:=.type "tuple",dict:=dd,data:=.seq items n,slots:=sl }/\s.heap.get? b=some { cls:=.type "tuple",dict:=dd2,data:=.seq items2 n2,slots:=sl2 } /\
    R (.ok (.ret (.bool (lexLt ns ms)))) s):=
 .of_wp fun prog w A R s h=>by
  obtain ⟨hp,g,d,tk,os⟩:=s;obtain ⟨hl,hb,h⟩:=h;have f2:=AutoSeq1.sub_tuple_tuple;have z1:items.size=ns.length:=by rw [<- hi.length];simp
  have z2:items2.size=ms.length:=by rw [<- hj.length];simp
  wp_walk using gq hl,gq hb,iK _ (fun rest b s'=>b.1=none/\s'=⟨hp,g,d,tk,os⟩/\∃ (vs ws:List δ) (ns' ms':List Int),rest=vs.zip ws /\
   fY vs ns'/\fY ws ms'/\ns'.length+items2.size=ms'.length+items.size/\R (.ok (.ret (.bool (lexLt ns' ms')))) ⟨hp,g,d,tk,os⟩) _
  case turn=>
   rintro ⟨y,x⟩ rest b s' ⟨hb',rfl,vs,ws,ns',ms',hz,hvi,hwi,hlen,hR⟩;cases hvi with
   | nil=>rw [List.zip_nil_left] at hz;cases hz
   | cons a t hvi'=>
    cases hwi with
    | nil=>rw [rG] at hz;cases hz
    | cons c u hwi'=>
     rw [aC] at hz
     injection hz with hyx hrest
     injection hyx with hy hx
     subst hy hx;rw [qz] at hR;simp only [η] at hlen;obtain ⟨e,he,hiff⟩:=zcJ A.in1 ⟨hp,g,d,tk,os⟩ a t c u;refine γ (he prog w _ _ ?_);cases e with
     | true=>
      rw [if_pos (hiff.mp rfl)] at hR
      wp_walk
      exact ⟨rfl,rfl,_,_,_,_,hrest,hvi',hwi',by omega,hR⟩
     | false=>
      rw [if_neg (fun q=>absurd (hiff.mpr q) Ω)] at hR;have hri:=zbY A.in1 ⟨hp,g,d,tk,os⟩ a t c u prog w
      wp_walk using hri
      exact ⟨_,rfl,by simpa using hR⟩
  case fin=>
   rintro ⟨b1,b2⟩ s' ⟨hb',rfl,vs,ws,ns',ms',hz,hvi,hwi,hlen,hR⟩;simp only at hb';subst hb';have hv:lexLt ns' ms'=decide (items.size < items2.size):=by
    cases hvi with
    | nil=>
     cases hwi with
     | nil=>
      simp only [ς] at hlen;rw [ZG];exact (decide_eq_false (by omega)).symm
     | cons c u hw=>
      simp only [ς,η] at hlen;rw [kE];exact (decide_eq_true (by omega)).symm
    | cons a t hv=>
     cases hwi with
     | nil=>
      simp only [ς,η] at hlen;rw [kI];exact (decide_eq_false (by omega)).symm
     | cons c u hw=>
      rw [aC] at hz;cases hz
   rw [hv] at hR
   wp_walk
   exact ⟨_,rfl,by simpa [Τ.Tuple.tupleCompareSizes] using hR⟩
  case h=>
   exact ⟨rfl,rfl,items.toList,items2.toList,ns,ms,rfl,hi,hj,by omega,h⟩
end
section
variable {prog:Χ}{w:Ϛ}{A:ϖ}{E:δ->ξ->Prop}{s:ξ}
theorem J2 {l b:Addr}{items items2:Array δ}{ns ms:List Int}{Q:δ->ξ->Prop}(hl:lD s.heap l items) (hb:lD s.heap b items2) (hi:fY items.toList ns) (hj:fY items2.toList ms)
  (hu:A.units < ϥ) (h:Q (.bool (lexLt ns ms)) s):Δ (Λ prog w) A (Ϗ .Lt (.ref l) (.ref b)) Q E s:=by
 obtain ⟨⟨cls,dd,data,sl⟩,ho,hc,n,hd⟩:=id hl;obtain ⟨⟨cls2,dd2,data2,sl2⟩,ho2,hc2,n2,hd2⟩:=id hb;simp only at hc hd hc2 hd2;subst hc hd hc2 hd2;exact richCompare_meets_room (op:=.Lt) ⟨_,ho,rfl⟩ ⟨_,ho2,rfl⟩ gZ oM (nZ _ _) (wR l b items items2 n n2 dd dd2 sl sl2 ns ms hi hj)
  ⟨ho,ho2,show Ϯ (lexLt ns ms)≠δ.notImplemented/\Q (.bool (lexLt ns ms)) s from ⟨(fun x=>nomatch x),h⟩⟩ hu
theorem zfW {t b:Addr}{vs ws:List δ}{Q:δ->ξ->Prop}(ht:lD s.heap t vs.toArray) (hb:lD s.heap b ws.toArray) (hv:vs≠[])
  (h1:ws=[]->Q (.ref t) s) (h2:ws≠[]->Q (.ref s.heap.objs.size) { s with heap:=s.heap.push { cls:=.type "tuple",data:=.seq (vs++ws).toArray } })
  (hsz:vs.length+ws.length<=sizeLine):Δ (Λ prog w) A (bW .Add (.ref t) (.ref b)) Q E s:=by
 obtain ⟨⟨cls,dd,data,sl⟩,ho,hc,n,hd⟩:=id ht;obtain ⟨⟨cls2,dd2,data2,sl2⟩,ho2,hc2,n2,hd2⟩:=id hb;simp only at hc hd hc2 hd2;subst hc hd hc2 hd2;have e:vs.toArray++ws.toArray=(vs++ws).toArray:=by simp
 by_cases hw:ws=[]
 ·exact rM ⟨_,ho,rfl⟩ ⟨_,ho2,rfl⟩ oH rA gU gF (gw _ _)
   (tuple_addW1 t b vs.toArray ws.toArray n n2 dd dd2 sl sl2 (by simpa using hv) (by simp [hw])) ⟨ho,ho2,h1 hw⟩
 ·refine rM ⟨_,ho,rfl⟩ ⟨_,ho2,rfl⟩ oH rA gU gF (gw _ _)
   (tuple_addW2 t b vs.toArray ws.toArray n n2 dd dd2 sl sl2 (by simpa using hv) (by simpa using hw) (by rw [ω,ω];exact hsz)) ⟨ho,ho2,?_⟩
  rw [e];exact h2 hw
noncomputable def sIx (n d:Nat):Option Int->Nat
 | none=>d
 | some v=>if v < 0 then (v+(n:Int)).toNat else min v.toNat n
theorem zbT (n d:Nat):sIx n d none=d:=rfl
theorem zep (n d k:Nat):sIx n d (some (k:Int))=min k n:=by
 show (if (k:Int) < 0 then ((k:Int)+(n:Int)).toNat else min (k:Int).toNat n)=min k n
 rw [if_neg (by omega),bf]
theorem zhb (n d:Nat) (hd:d<=n) (o:Option Int):sIx n d o<=n:=by
 cases o with
 | none=>exact hd
 | some v=>
  show (if v < 0 then (v+(n:Int)).toNat else min v.toNat n)<=n
  by_cases hv:v < 0
  ·rw [if_pos hv];omega
  ·rw [if_neg hv];exact Nat.min_le_right _ _
theorem zba (v:Int) (n d:Nat):(if v < 0 then max (v+(n:Int)) 0 else min v (n:Int))=((sIx n d (some v):Nat):Int):=by
 show (if v < 0 then max (v+(n:Int)) 0 else min v (n:Int))=(((if v < 0 then (v+(n:Int)).toNat else min v.toNat n):Nat):Int)
 by_cases hv:v < 0
 ·simp only [if_pos hv];omega
 ·simp only [if_neg hv];omega
theorem Kv (lo hi:Option Int) (n:Nat):fK lo hi 1 (n:Int)=(((sIx n 0 lo:Nat):Int),((sIx n n hi:Nat):Int)):=by
 have h1:¬ ((1:Int) < 0):=by omega
 unfold fK;simp only [h1,if_false];refine Prod.ext ?_ ?_
 ·cases lo with
  | none=>rfl
  | some v=>exact zba v n 0
 ·cases hi with
  | none=>rfl
  | some v=>exact zba v n n
theorem JT (i j:Nat):cR (i:Int) (j:Int) 1=j - i:=by
 unfold cR;have h1:(1:Int) > 0:=by omega
 simp only [h1,if_true,Int.ediv_one];split <;> omega
theorem kZ {v:δ}{o:Option Int}{Q:Option Int->ξ->Prop}(p:lB v o) (h:Q o s):Δ (Λ prog w) A (Τ.Slice.slicePartIndex v) Q E s:=by
 cases p with
 | none=>exact slicePart_none h
 | int i t=>exact slicePart_int h
theorem yQ {sl:Addr}{vl vu:δ}{lo hi:Option Int}{n:Nat}{Q:Int×Int×Nat->ξ->Prop}(hs:s.heap.IsSliceOf sl vl vu .none) (pl:lB vl lo) (pu:lB vu hi)
  (h:Q (((sIx n 0 lo:Nat):Int),1,sIx n n hi - sIx n 0 lo) s):Δ (Λ prog w) A (lK (.ref sl) (pure (n:Int))) Q E s:=by
 obtain ⟨os,hos,hcs,hds⟩:=id hs;unfold lK Τ.Slice.sliceFields;refine γ (γ (fZ hos hds (x:=vl) rfl (γ (fZ hos hds (x:=vu) rfl (γ (fZ hos hds (x:=.none) rfl (ι ?_)))))));refine γ (slicePart_none ?_);show Δ _ _ (if ((1:Int)==0)=true then _ else _) _ _ s
 rw [if_neg (by decide)];refine γ (kZ pl (γ (kZ pu (γ (ι ?_)))));show Δ _ _ (match fK lo hi 1 (n:Int) with | (lo,hi)=>pure (lo,(1:Int),cR lo hi 1)) _ _ s
 rw [Kv lo hi n];show Δ _ _ (pure (((sIx n 0 lo:Nat):Int),(1:Int),cR ((sIx n 0 lo:Nat):Int) ((sIx n n hi:Nat):Int) 1)) _ _ s
 rw [JT];exact ι h
theorem zb7 (xs:Array δ) (i k:Nat):((ϝ k).filterMap fun (m:Nat)=>xs[((i:Int)+(m:Int)*1).toNat]?).toArray=((xs.toList.drop i).take k).toArray:=by
 have e:(fun (m:Nat)=>xs[((i:Int)+(m:Int)*1).toNat]?)=fun m=>xs[i+m]?:=by
  funext m
  have:((i:Int)+(m:Int)*1).toNat=i+m:=by omega
  rw [this]
 rw [e];have:=pick_run xs i k;rw [gn] at this;have e2:((fun x=>xs[x]?)∘fun x=>i+x)=fun m=>xs[i+m]?:=rfl
 rw [e2] at this;rw [this]
theorem vU {t sl:Addr}{items:Array δ}{vl vu:δ}{lo hi:Option Int}{Q:δ->ξ->Prop}(ht:lD s.heap t items) (hs:s.heap.IsSliceOf sl vl vu .none) (pl:lB vl lo) (pu:lB vu hi)
  (hw:¬ (sIx items.size 0 lo=0/\sIx items.size items.size hi=items.size))
  (h:Q (.ref s.heap.objs.size) { s with heap:=s.heap.push { cls:=.type "tuple",data:=.seq ((items.toList.drop (sIx items.size 0 lo)).take (sIx items.size items.size hi - sIx items.size 0 lo)).toArray } })
  (hsz:items.size<=sizeLine):Δ (Λ prog w) A (mz (.ref t) (.ref sl)) Q E s:=by
 have htake:sizeOk (.seq ((items.toList.drop (sIx items.size 0 lo)).take (sIx items.size items.size hi - sIx items.size 0 lo)).toArray):=by
  show ((items.toList.drop (sIx items.size 0 lo)).take (sIx items.size items.size hi - sIx items.size 0 lo)).toArray.size<=sizeLine
  rw [ω,cC,dC,Ξ];omega
 have hj:sIx items.size items.size hi<=items.size:=zhb _ _ (χ _) hi;obtain ⟨os,hos,hcs,hds⟩:=id hs;have hTs:s.TypeIs (.ref sl) "slice":=⟨os,hos,hcs⟩
 unfold mz
 try with_reducible refine ao ?_
 first | refine γ (ι ?_) | skip
 refine γ (wpAny_sequenceKey ht.typeIs (by decide) ?_)
 refine γ (cN (name:=eX "__getitem__") ht.typeIs ϸ
  (aJ ϸ ht.typeIs entry_tuple_getitem ?_ (args_tuple_getitem _ _)))
 show Δ _ _ (lJ (.ref t) >>= _) _ _ s
 refine γ (tupleItemsOf_ ht ?_);refine γ (bI hTs ?_);rw [if_pos (by decide)];refine γ (yQ hs pl pu ?_);have hno:¬ ((((sIx items.size 0 lo:Nat):Int)==0&&(1:Int)==1&&(sIx items.size items.size hi - sIx items.size 0 lo)==items.size)=true):=by intro q;rw [ε,ε] at q;have q1:((sIx items.size 0 lo:Nat):Int)=0:=eq_of_beq q.1.1;have q2:sIx items.size items.size hi - sIx items.size 0 lo=items.size:=eq_of_beq q.2;exact hw ⟨by omega,by omega⟩
 show Δ _ _ (if (((sIx items.size 0 lo:Nat):Int)==0&&(1:Int)==1&&(sIx items.size items.size hi - sIx items.size 0 lo)==items.size)=true then _ else _) _ _ s
 rw [if_neg hno,zb7]
 first
  | exact γ (m:=cZ _) (ϫ (ι ⟨_,rfl,ι h⟩) htake)
  | exact γ (m:=cZ _) (ϫ (γ (ι (ι ⟨_,rfl,ι h⟩))) htake)
  | exact γ (γ (m:=cZ _) (ϫ (ι (ι ⟨_,rfl,ι h⟩)) htake))
  | exact γ (γ (m:=cZ _) (ϫ (ι ⟨_,rfl,ι h⟩) htake))
end
end HT
namespace L2
open PySem PySem.Spec PyProof.Rows
abbrev TO:=St->Hp->(Option Int->Hp->Prop)->Prop
def PO (X:Cx) (e:Option Expr) (t:TO):Prop:=
 ∀ (pJ:List (Addr×Obj)) (s:ξ) (σ:St) (H:Hp) (Q:Option Int->Hp->Prop),Inv X pJ σ H s->t σ H Q ->
  Δ (Λ X.prog X.w) X.A (evalPart e X.env) (fun u s'=>∃ o H',Inv X pJ σ H' s'/\lB u o/\Q o H') X.xe s
def zd4:TO:=fun _ H Q=>Q none H
def zji (t:TE):TO:=fun σ H Q=>t σ H fun x H1=>∃ i,x=.int i/\Q (some i) H1
section
variable {X:Cx}{e:Expr}{te:TE}{lo hi:Option Expr}{tl th:TO}{pos p2:Pos}
theorem zeM:PO X none zd4:=by intro pJ s σ H Q I h;rw [evalPart_none];exact ι ⟨none,H,I,.none,h⟩
theorem zeL (h:PE X e te):PO X (some e) (zji te):=by
 intro pJ s σ H Q I hw;rw [evalPart_some];refine thn (h pJ s σ H _ I hw) fun u s1 ⟨x,H1,I1,r1,q1⟩=>?_
 obtain ⟨i,rfl,q⟩:=q1;obtain ⟨t,rfl⟩:=r1;exact ⟨some i,H1,I1,.int i t,q⟩
def SlR (X:Cx) (r:V->Option Int->Option Int->Hp->VK->Prop):Prop:=
 ∀ (pJ:List (Addr×Obj)) (s:ξ) (σ:St) (H:Hp) (x:V) (v vl vu:δ) (lo hi:Option Int) (sl:Addr) (Q:VK),Inv X pJ σ H s->RelV x v->s.heap.IsSliceOf sl vl vu .none->lB vl lo->lB vu hi->r x lo hi H Q ->
  ∃ T id,typeLookup (.type T) "__getitem__"=pure (some (.builtin id))/\s.TypeIs v T/\Δ (Λ X.prog X.w) X.A (mz v (.ref sl)) (EP X pJ σ Q) X.xe s
theorem SlR.or {r r':V->Option Int->Option Int->Hp->VK->Prop}(h:SlR X r) (h':SlR X r'):SlR X (fun x lo hi H Q=>r x lo hi H Q\/r' x lo hi H Q):=by
 intro pJ s σ H x v vl vu lo hi sl Q I rx hs pl pu q;rcases q with q | q
 ·exact h pJ s σ H x v vl vu lo hi sl Q I rx hs pl pu q
 ·exact h' pJ s σ H x v vl vu lo hi sl Q I rx hs pl pu q
def tSl (r:V->Option Int->Option Int->Hp->VK->Prop) (te:TE) (tl th:TO):TE:=fun σ H Q=>te σ H fun x H1=>tl σ H1 fun l H2=>th σ H2 fun u H3=>r x l u H3 Q
theorem zb9 {r:V->Option Int->Option Int->Hp->VK->Prop}(hr:SlR X r) (he:PE X e te) (hl:PO X lo tl) (hu:PO X hi th):PE X (.Subscript e (.Slice lo hi none p2) pos) (tSl r te tl th):=by
 intro pJ s σ H Q I h;refine Subscript_ (thn (he pJ s σ H _ I h) fun v s1 ⟨x,H1,I1,r1,q1⟩=>?_);refine wpAny_Slice (thn (hl pJ s1 σ H1 _ I1 q1) fun vl s2 ⟨l,H2,I2,pl,q2⟩=>thn (hu pJ s2 σ H2 _ I2 q2) fun vu s3 ⟨u,H3,I3,pu,q3⟩=>?_);rw [evalPart_none];refine ι ?_;have I4:Inv X pJ σ H3 { s3 with heap:=s3.heap.push { cls:=.type "slice",data:=.fields #[vl,vu,.none] } }:=I3.kept (t':=s3.toks) fun b ob q=>θ _ q
 obtain ⟨T,id,hT,ht,hg⟩:=hr pJ { s3 with heap:=s3.heap.push { cls:=.type "slice",data:=.fields #[vl,vu,.none] } } σ H3 x v vl vu l u s3.heap.objs.size Q I4 r1 (Heap.IsSliceOf.new ..) pl pu q3;show Δ (Λ X.prog X.w) X.A (subscriptTail e (.Slice lo hi none p2) v (.ref s3.heap.objs.size)) (EP X pJ σ Q) X.xe { s3 with heap:=s3.heap.push { cls:=.type "slice",data:=.fields #[vl,vu,.none] } }
 exact tail_any (ops:=[.ref s3.heap.objs.size,v]) ht hT hg (by with_unfolding_all rfl)
noncomputable def cutV (xs:List V) (lo hi:Option Int):List V:=(xs.drop (HT.sIx xs.length 0 lo)).take (HT.sIx xs.length xs.length hi - HT.sIx xs.length 0 lo)
theorem jP (xs:List V) (lo hi:Option Int):(cutV xs lo hi).length<=xs.length:=by unfold cutV;rw [cC,dC];lia
def rSlT (K:W.Frag):V->Option Int->Option Int->Hp->VK->Prop:=fun x lo hi H Q=>∃ a xs,x=.ref a/\SqT K H a xs /\
 ¬ (HT.sIx xs.length 0 lo=0/\HT.sIx xs.length xs.length hi=xs.length)/\∀ p,H p=none->Q (.ref p) (upd H p (.tup (cutV xs lo hi)))
theorem zgK:SlR X (rSlT X.K):=by
 intro pJ s σ H x v vl vu lo hi sl Q I rx hs pl pu h;obtain ⟨a,xs,rfl,hx,hw,q⟩:=h;cases rx;obtain ⟨its,r,ht,hz⟩:=I.tuple hx;have hlen:its.toArray.size=xs.length:=by rw [ω];exact r.length.symm
 refine ⟨"tuple",_,ϸ.lookup,ht.typeIs,?_⟩;refine HT.vU ht hs pl pu (by rw [hlen];exact hw) ?_ (by rw [hlen];exact hz);rw [hlen];refine ⟨.ref s.heap.objs.size,_,I.laid (t':=s.toks) (o:=.tup (cutV xs lo hi)) (fun b ob q=>θ _ q) (χ _) ?_,rfl,q _ (I.hok.fresh (χ _))⟩;exact ⟨Ϩ (jP xs lo hi) hz,_,(r.drop (HT.sIx xs.length 0 lo)).take (HT.sIx xs.length xs.length hi - HT.sIx xs.length 0 lo),lD.new _ _⟩
def zj5 (K:W.Frag):R2:=fun x y H Q=>∃ a b xs ys,x=.ref a/\y=.ref b/\SqT K H a xs/\SqT K H b ys/\xs≠[]/\xs.length+ys.length<=sizeLine /\
 (ys=[]->Q (.ref a) H)/\(ys≠[]->∀ p,H p=none->Q (.ref p) (upd H p (.tup (xs++ys))))
theorem Vals.W5 {xs:List V}{us:List δ}(r:Vals xs us):us=[] ↔ xs=[]:=by
 cases r with
 | nil=>simp
 | cons _ _=>simp
theorem ze0:OpR X (bW .Add) (zj5 X.K):=by intro pJ s σ H x y v u Q I rx ry h;obtain ⟨a,b,xs,ys,rfl,rfl,ha,hb,hx,hz,q1,q2⟩:=h;cases rx;cases ry;obtain ⟨its,r1,p1,_⟩:=I.tuple ha;obtain ⟨its2,r2,p2,_⟩:=I.tuple hb;refine HT.zfW p1 p2 (fun z=>hx (r1.W5.mp z)) (fun z=>⟨.ref a,H,I,rfl,q1 (r2.W5.mp z)⟩) (fun z=>?_) (by rw [<- r1.length,<- r2.length];exact hz);refine ⟨.ref s.heap.objs.size,_,I.laid (t':=s.toks) (o:=.tup (xs++ys)) (fun b ob q=>θ _ q) (χ _) ?_,rfl,q2 (fun w=>z (r2.W5.mpr w)) _ (I.hok.fresh (χ _))⟩;exact ⟨by rw [π];exact hz,_,r1.append r2,lD.new _ _⟩
end
noncomputable def ixN (n:Nat) (i:Int):Option Nat:=if 0<=i then (if i < n then some i.toNat else none) else if -(n:Int)<=i then some (i+n).toNat else none
noncomputable def atI {α:Type}(xs:List α) (i:Int):Option α:=(ixN xs.length i).bind fun j=>xs[j]?
theorem zaD {n:Nat}{i:Int}{j:Nat}(h:ixN n i=some j):seqIndex? i n=some j/\j < n/\-(n:Int)<=i/\i < n:=by
 unfold ixN at h;by_cases h0:0<=i
 ·rw [if_pos h0] at h;by_cases h1:i < n
  ·rw [if_pos h1] at h;have e:i.toNat=j:=ϐ h;exact ⟨by rw [seqIndex_of h0 h1,e],by lia,by lia,h1⟩
  ·rw [if_neg h1] at h;cases h
 ·rw [if_neg h0] at h;by_cases h1:-(n:Int)<=i
  ·rw [if_pos h1] at h;have e:(i+n).toNat=j:=ϐ h;exact ⟨by rw [seqIndex_neg (by lia) h1,e],by lia,h1,by lia⟩
  ·rw [if_neg h1] at h;cases h
theorem VJ {α:Type}{xs:List α}{i:Int}{v:α}(h:atI xs i=some v):∃ j,seqIndex? i xs.length=some j/\xs[j]?=some v/\j < xs.length/\-(xs.length:Int)<=i/\i < xs.length:=by
 unfold atI at h;cases e:ixN xs.length i with
 | none=>rw [e] at h;cases h
 | some j=>
  rw [e] at h;obtain ⟨h1,h2,h3,h4⟩:=zaD e;exact ⟨j,h1,h,h2,h3,h4⟩
def VP (b:Expr):Prop:=∀ o i,subscripted b false o i=operate [o,i] (mz o i)
def IxR (X:Cx) (r:R2):Prop:=
 ∀ (value slice:Expr) (pJ:List (Addr×Obj)) (s:ξ) (σ:St) (H:Hp) (x y:V) (v u:δ) (Q:VK),Inv X pJ σ H s->RelV x v->RelV y u->r x y H Q ->
  subscripted slice false v u=operate [v,u] (mz v u)->Δ (Λ X.prog X.w) X.A (subscriptTail value slice v u) (EP X pJ σ Q) X.xe s
def MtR (X:Cx) (id:String) (r:V->List V->Hp->VK->Prop):Prop:=
 ∀ (pJ:List (Addr×Obj)) (s:ξ) (σ:St) (H:Hp) (x:V) (xs:List V) (v:δ) (us:List δ) (Q:VK),Inv X pJ σ H s->RelV x v->Vals xs us->r x xs H Q ->
  Δ (Λ X.prog X.w) X.A (call (.builtin id) (v::us)) (EP X pJ σ Q) X.xe s
section
variable {X:Cx}{a b:Expr}{ta tb:TE}{pos:Pos}
theorem IxR.or {r r':R2}(h:IxR X r) (h':IxR X r'):IxR X (fun x y H Q=>r x y H Q\/r' x y H Q):=by
 intro value slice pJ s σ H x y v u Q I rx ry q hs;rcases q with q | q
 ·exact h value slice pJ s σ H x y v u Q I rx ry q hs
 ·exact h' value slice pJ s σ H x y v u Q I rx ry q hs
theorem MtR.or {id:String}{r r':V->List V->Hp->VK->Prop}(h:MtR X id r) (h':MtR X id r'):MtR X id (fun x xs H Q=>r x xs H Q\/r' x xs H Q):=by
 intro pJ s σ H x xs v us Q I rx rs q;rcases q with q | q
 ·exact h pJ s σ H x xs v us Q I rx rs q
 ·exact h' pJ s σ H x xs v us Q I rx rs q
theorem zkc {r:R2}(hr:IxR X r) (ha:PE X a ta) (hb:PE X b tb) (hs:VP b):PE X (.Subscript a b pos) (tOp r ta tb):=by intro pJ s σ H Q I h;exact Subscript_ (binT ha hb I h fun v u s2 x y H2 I2 rx ry q=>hr a b pJ s2 σ H2 x y v u Q I2 rx ry q (hs _ _))
def rIxL (K:W.Frag):R2:=fun x y H Q=>∃ p xs i v,x=.ref p/\y=.int i/\SqL K H p xs/\atI xs i=some v/\Q v H
def rIxT (K:W.Frag):R2:=fun x y H Q=>∃ p xs i v,x=.ref p/\y=.int i/\SqT K H p xs/\atI xs i=some v/\Q v H
def rIxS:R2:=fun x y H Q=>∃ z i c,x=.str z/\y=.int i/\z.length<=sizeLine/\atI z.cps.toList i=some c/\Q (.str ⟨#[c]⟩) H
theorem zaC:IxR X (rIxL X.K):=by
 intro value slice pJ s σ H x y v u Q I rx ry h hs;obtain ⟨p,xs,i,z,rfl,rfl,hq,he,q⟩:=h;cases rx;obtain ⟨t,rfl⟩:=ry;obtain ⟨its,r,pl,hz⟩:=I.list hq;obtain ⟨j,h1,h2,h3,h4,h5⟩:=VJ he;obtain ⟨w,ew,rw'⟩:=r.get h2;have hl:=r.length;have hn:=qy;have fin:EP X pJ σ Q w s:=⟨z,H,I,rw',q⟩
 by_cases h0:0<=i
 ·have hj:i.toNat=j:=by rw [seqIndex_of h0 h5] at h1;exact ϐ h1
  exact item_listR pl.isList h0 (by lia) (by rw [hj];simpa using ew) fin hs
 ·have hj:(i+(its.toArray.size:Int)).toNat=j:=by rw [seqIndex_neg (by lia) h4] at h1;rw [ω,<- hl];exact ϐ h1
  exact rK (x:=w) pl.isList.typeIs slot_list_getitem.lookup
   (wpAny_getItem_list_neg (Q:=fun r s'=>r=w/\EP X pJ σ Q r s') pl.isList (by lia) (by rw [ω] <;> lia) (by lia) (by rw [hj];simpa using ew) ⟨rfl,fin⟩) hs
theorem zie:IxR X (rIxT X.K):=by
 intro value slice pJ s σ H x y v u Q I rx ry h hs;obtain ⟨p,xs,i,z,rfl,rfl,hq,he,q⟩:=h;cases rx;obtain ⟨t,rfl⟩:=ry;obtain ⟨its,r,pl,hz⟩:=I.tuple hq;obtain ⟨j,h1,h2,h3,h4,h5⟩:=VJ he;obtain ⟨w,ew,rw'⟩:=r.get h2;have hl:=r.length;have hn:=qy;have fin:EP X pJ σ Q w s:=⟨z,H,I,rw',q⟩
 exact rK (x:=w) pl.typeIs slot_tuple_getitem.lookup
  (getItem_tuple (j:=j) (Q:=fun r s'=>r=w/\EP X pJ σ Q r s') pl (by lia) (by lia) (by rw [ω,<- hl];exact h1) (by simpa using ew) ⟨rfl,fin⟩) hs
theorem zif:IxR X rIxS:=by
 intro value slice pJ s σ H x y v u Q I rx ry h hs;obtain ⟨z,i,c,rfl,rfl,hz,he,q⟩:=h;obtain ⟨t,rfl⟩:=rx;obtain ⟨t',rfl⟩:=ry;obtain ⟨j,h1,h2,h3,h4,h5⟩:=VJ he;have hl:z.cps.toList.length=z.length:=by simp [Str.length]
 rw [hl] at h1 h4 h5;have hn:=qy
 exact tail_any (gQ s z t) slot_str_getitem.lookup (getItem_str (c:=c) (by
  have e1:decide (i < -(2 ^ 63:Int))=false:=decide_eq_false (by lia);have e2:decide (i >= 2 ^ 63)=false:=decide_eq_false (by lia)
  rw [e1,e2,ph]) (by rw [h1];simpa using h2) ⟨.str ⟨#[c]⟩,H,I.tok _,⟨_,rfl⟩,q⟩) hs
theorem JZ (its:List δ) (n j:Nat) (u:δ):aL (·.setIfInBounds j u) { cls:=.type "list",data:=.seq its.toArray n }={ cls:=.type "list",data:=.seq (its.set j u).toArray n }:=by simp [aL]
theorem Inv.lst {pJ:List (Addr×Obj)}{σ:St}{H:Hp}{s:ξ}{p:Addr}{xs:List V}(I:Inv X pJ σ H s) (h:H p=some (.lst xs)):
  ∃ (its:List δ) (n:Nat),Vals xs its/\s.heap.get? p=some { cls:=.type "list",data:=.seq its.toArray n }/\xs.length<=sizeLine:=by obtain ⟨z,its,n,r,e⟩:=I.hok p _ h;exact ⟨its,n,r,e,z⟩
theorem Inv.zh4 {pJ:List (Addr×Obj)}{σ:St}{H:Hp}{s:ξ}{p:Addr}{xs ys:List V}{its its':List δ}{n n':Nat}{f:Obj->Obj}(I:Inv X pJ σ H s) (h:H p=some (.lst xs))
  (ho:s.heap.get? p=some { cls:=.type "list",data:=.seq its.toArray n }) (hf:f { cls:=.type "list",data:=.seq its.toArray n }={ cls:=.type "list",data:=.seq its'.toArray n' }) (r:Vals ys its') (hz:ys.length<=sizeLine) (t:Nat):
  Inv X pJ σ (upd H p (.lst ys)) { s with heap:=s.heap.update p f,toks:=t }:=by
 have e:(s.heap.update p f).get? p=some { cls:=.type "list",data:=.seq its'.toArray n' }:=by rw [Ϲ f ho (by rw [hf] <;> rfl),hf]
 refine I.write (x:=p) (e:=p) (by rw [h];trivial) (.inl rfl) (fun b u hb q=>(bc _ _ (dH hb)).trans q) ⟨_,e⟩ ?_;exact ⟨hz,its',n',r,e⟩
def zhf:V->V->V->Hp->(Hp->Prop)->Prop:=fun o i v H Q=>∃ p xs k j,o=.ref p/\i=.int k/\H p=some (.lst xs)/\ixN xs.length k=some j/\Q (upd H p (.lst (xs.set j v)))
theorem set_list:PSet X zhf:=by
 intro pJ s σ H o i v ov iv u Q I ro ri rv h;obtain ⟨p,xs,k,j,rfl,rfl,hp,hj,q⟩:=h;cases ro;obtain ⟨t,rfl⟩:=ri;obtain ⟨its,n,r,ho,hz⟩:=I.lst hp;obtain ⟨h1,h2,h3,h4⟩:=zaD hj;have hl:=r.length;have hn:=qy;have I':Inv X pJ σ (upd H p (.lst (xs.set j v))) { s with heap:=s.heap.update p (aL (·.setIfInBounds j u)) }:=
  I.zh4 hp ho (JZ its n j u) (r.set rv j) (by rw [aQ];exact hz) s.toks
 by_cases h0:0<=k
 ·have hk:k.toNat=j:=by rw [seqIndex_of h0 h4] at h1;exact ϐ h1
  exact W.ki_setAt ho h0 (by lia) (by rw [ω,<- hl];exact h4) (by rw [hk];exact ⟨_,I',q⟩)
 ·have hk:(k+(its.toArray.size:Int)).toNat=j:=by rw [seqIndex_neg (by lia) h3] at h1;rw [ω,<- hl];exact ϐ h1
  exact W.ki_setBack ho (by lia) (by rw [ω,<- hl];exact h3) (by lia) (by rw [hk];exact ⟨_,I',q⟩)
theorem Ys (lo hi:Option Int) (n:Nat):(f9 lo hi none n).1=((HT.sIx n 0 lo:Nat):Int)/\(f9 lo hi none n).2.1=((HT.sIx n n hi:Nat):Int)/\(f9 lo hi none n).2.2=1:=by
 refine ⟨?_,?_,rfl⟩
 ·cases lo with
  | none=>simp [f9,HT.sIx]
  | some i=>
   simp only [f9,HT.sIx,rE,show (1:Int) > 0 by decide,if_true];by_cases h:i < 0
   ·simp only [h,if_true] <;> lia
   ·simp only [h,if_false] <;> lia
 ·cases hi with
  | none=>simp [f9,HT.sIx]
  | some i=>
   simp only [f9,HT.sIx,rE,show (1:Int) > 0 by decide,if_true];by_cases h:i < 0
   ·simp only [h,if_true] <;> lia
   ·simp only [h,if_false] <;> lia
theorem Zr (its:List δ) (lo hi:Option Int):slicePick its.toArray lo hi none=((its.drop (HT.sIx its.length 0 lo)).take (HT.sIx its.length its.length hi - HT.sIx its.length 0 lo)).toArray:=by obtain ⟨h1,h2,h3⟩:=Ys lo hi its.toArray.size;unfold slicePick;rw [h1,h2,h3];simp only [sliceRange_one,pick_run,ω] <;> rfl
def rSlL (K:W.Frag):V->Option Int->Option Int->Hp->VK->Prop:=fun x lo hi H Q=>∃ a xs,x=.ref a/\SqL K H a xs/\∀ p,H p=none->Q (.ref p) (upd H p (.lst (cutV xs lo hi)))
theorem Qn:SlR X (rSlL X.K):=by intro pJ s σ H x v vl vu lo hi sl Q I rx hs pl pu h;obtain ⟨a,xs,rfl,hx,q⟩:=h;cases rx;obtain ⟨its,r,ht,hz⟩:=I.list hx;have hlen:=r.length;refine ⟨"list",_,slot_list_getitem.lookup,ht.isList.typeIs,?_⟩;refine wpAny_getItem_list_slice ht.isList hs pl pu .none (by simp) ?_ (by rw [ω] <;> lia);rw [Zr,<- hlen];refine ⟨.ref s.heap.objs.size,_,I.laid (t':=s.toks) (o:=.lst (cutV xs lo hi)) (fun b ob q=>θ _ q) (χ _) ?_,rfl,q _ (I.hok.fresh (χ _))⟩;exact ⟨Ϩ (jP xs lo hi) hz,_,0,(r.drop (HT.sIx xs.length 0 lo)).take (HT.sIx xs.length xs.length hi - HT.sIx xs.length 0 lo),Ζ _ rfl⟩
noncomputable def zfC:V->Bool
 | .non=>true
 | .bl _=>true
 | .int _=>true
 | .str _=>true
 | _=>false
noncomputable def eqV:V->V->Bool
 | .non,.non=>true
 | .bl a,.bl b=>a==b
 | .bl a,.int b=>(if a then 1 else 0)==b
 | .int a,.bl b=>a==(if b then 1 else 0)
 | .int a,.int b=>a==b
 | .str a,.str b=>a==b
 | _,_=>false
theorem zdT {A:ϖ}{s:ξ}{y x:V}{u v:δ}(ry:RelV y u) (rx:RelV x v) (fy:zfC y=true) (fx:zfC x=true):ϳ A s u v (eqV y x):=by
 cases y with
 | non=>
  cases ry;cases x with
  | non=>cases rx;exact ϳ.same _
  | bl b=>cases rx;exact ϳ.none_bool b
  | int b=>obtain ⟨t,rfl⟩:=rx;exact ϳ.none_int b t
  | str b=>obtain ⟨t,rfl⟩:=rx;exact ϳ.none_str b t
  | _=>exact absurd (show false=true from fx) Ω
 | bl a=>
  cases ry;cases x with
  | non=>cases rx;exact ϳ.bool_none a
  | bl b=>cases rx;exact ϳ.bool_bool a b
  | int b=>obtain ⟨t,rfl⟩:=rx;exact ϳ.bool_int a b t
  | str b=>obtain ⟨t,rfl⟩:=rx;exact ϳ.bool_str a b t
  | _=>exact absurd (show false=true from fx) Ω
 | int a=>
  obtain ⟨t',rfl⟩:=ry;cases x with
  | non=>cases rx;exact ϳ.int_none a t'
  | bl b=>cases rx;exact ϳ.int_bool a t' b
  | int b=>obtain ⟨t,rfl⟩:=rx;exact oZ a t' b t
  | str b=>obtain ⟨t,rfl⟩:=rx;exact oY a t' b t
  | _=>exact absurd (show false=true from fx) Ω
 | str a=>
  obtain ⟨t',rfl⟩:=ry;cases x with
  | non=>cases rx;exact ϳ.str_none a t'
  | bl b=>cases rx;exact ϳ.str_bool a t' b
  | int b=>obtain ⟨t,rfl⟩:=rx;exact oX a t' b t
  | str b=>obtain ⟨t,rfl⟩:=rx;exact ϳ.str_str a t' b t
  | _=>exact absurd (show false=true from fx) Ω
 | _=>exact absurd (show false=true from fy) Ω
theorem YJ:OpR X (Ϗ .NotIn) (fun x y H Q=>∃ i j,x=.str i/\y=.str j/\Q (.bl (!(!(Ϙ j i 0 j.length 1).isEmpty))) H):=by intro pJ s σ H x y v u Q I rx ry h;obtain ⟨i,j,rfl,rfl,q⟩:=h;obtain ⟨t,rfl⟩:=rx;obtain ⟨t',rfl⟩:=ry;exact notIn_str ⟨.bl _,H,I,rfl,q⟩
theorem xG:z9 X (.builtin "len") (fun xs H Q=>∃ p ys,xs=[.ref p]/\(SqL X.K H p ys\/SqT X.K H p ys)/\Q (.int ys.length) H):=by
 intro pJ s σ H xs us Q I r h;obtain ⟨p,ys,rfl,hq,q⟩:=h;obtain ⟨u,rfl,rx⟩:=vals1 r;cases rx;have hn:=qy;rcases hq with hq | hq
 ·obtain ⟨its,r',pl,hz⟩:=I.list hq;have hlen:=r'.length;exact Calls.call_len_list pl.isList (by simp only [ω] <;> lia) ⟨.int ys.length,H,I.tok _,⟨s.toks+1,by rw [ω,hlen]⟩,q⟩
 ·obtain ⟨its,r',pl,hz⟩:=I.tuple hq;have hlen:=r'.length;exact len_tuple pl (by simp only [ω] <;> lia) ⟨.int ys.length,H,I.tok _,⟨s.toks+1,by rw [ω,hlen]⟩,q⟩
theorem X5:z9 X (.builtin "len") (fun xs H Q=>∃ z,xs=[.str z]/\z.length<=sizeLine/\Q (.int z.length) H):=by intro pJ s σ H xs us Q I r h;obtain ⟨z,rfl,hz,q⟩:=h;obtain ⟨u,rfl,t,rfl⟩:=vals1 r;have hn:=qy;exact len_str (by lia) ⟨.int z.length,H,I.tok _,⟨_,rfl⟩,q⟩
theorem z9.or {f:δ}{r r':List V->Hp->VK->Prop}(h:z9 X f r) (h':z9 X f r'):z9 X f (fun xs H Q=>r xs H Q\/r' xs H Q):=by
 intro pJ s σ H xs us Q I rs q;rcases q with q | q
 ·exact h pJ s σ H xs us Q I rs q
 ·exact h' pJ s σ H xs us Q I rs q
theorem X4:z9 X (.type "list") (fun xs H Q=>∃ p ys,xs=[.ref p]/\(SqL X.K H p ys\/SqT X.K H p ys)/\∀ l,H l=none->Q (.ref l) (upd H l (.lst ys))):=by
 intro pJ s σ H xs us Q I r h;obtain ⟨p,ys,rfl,hq,q⟩:=h;obtain ⟨u,rfl,rx⟩:=vals1 r;cases rx;have fin:∀ (its:List δ),Vals ys its->ys.length<=sizeLine->∀ (h':Heap) (c':Nat),(∀ b o',s.heap.get? b=some o'->h'.get? b=some o') ->
   h'.get? s.heap.objs.size=some { cls:=.type "list",dict:=none,data:=.seq its.toArray c',slots:=#[] }->EP X pJ σ Q (.ref s.heap.objs.size) { s with heap:=h' }:=fun its r' hz h' c' kp e=>
  ⟨.ref s.heap.objs.size,_,I.laid (t':=s.toks) kp (χ _) (show zW X.prog X.w _ h' _ (.lst ys) from ⟨hz,its,c',r',e⟩),rfl,q _ (I.hok.fresh (χ _))⟩
 rcases hq with hq | hq
 ·obtain ⟨its,r',pl,hz⟩:=I.list hq;have hlen:=r'.length;obtain ⟨o,ho,hc,n,hd⟩:=pl.isList;exact call_list_seq p (.inl rfl) ho hc hd (fun h' c' kp e=>fin its r' hz h' c' kp e) (by simp only [ω] <;> lia)
 ·obtain ⟨its,r',pl,hz⟩:=I.tuple hq;have hlen:=r'.length;obtain ⟨o,ho,hc,n,hd⟩:=pl;exact call_list_seq p (.inr rfl) ho hc hd (fun h' c' kp e=>fin its r' hz h' c' kp e) (by simp only [ω] <;> lia)
theorem Z6:z9 X (.type "tuple") (fun xs H Q=>∃ p ys,xs=[.ref p]/\((SqL X.K H p ys/\∀ l,H l=none->Q (.ref l) (upd H l (.tup ys)))\/(SqT X.K H p ys/\Q (.ref p) H))):=by
 intro pJ s σ H xs us Q I r h;obtain ⟨p,ys,rfl,h⟩:=h;obtain ⟨u,rfl,rx⟩:=vals1 r;cases rx;rcases h with ⟨hq,q⟩ | ⟨hq,q⟩
 ·obtain ⟨its,r',pl,hz⟩:=I.list hq;have hlen:=r'.length;refine call_tuple_list pl.isList (fun h' kp=>?_) (by simp only [ω] <;> lia);have I1:Inv X pJ σ H { s with heap:=h' }:=I.kept (t':=s.toks) kp;have I2:Inv X pJ σ (upd H h'.objs.size (.tup ys)) { s with heap:=h'.push { cls:=.type "tuple",data:=.seq its.toArray } }:=
   I1.laid (t':=s.toks) (fun b o e=>θ _ e) (χ _) (show zW X.prog X.w _ _ _ (.tup ys) from ⟨hz,its,r',lD.new _ _⟩)
  exact ⟨.ref h'.objs.size,_,I2,rfl,q _ (I1.hok.fresh (χ _))⟩
 ·obtain ⟨its,r',pl,hz⟩:=I.tuple hq;exact call_tuple_same pl ⟨.ref p,H,I,rfl,q⟩
def tyV (K:W.Frag) (T:String) (x:V) (H:Hp):Prop:=match x with
 | .str _=>T="str"
 | .int _=>T="int"
 | .ref p=>(T="list"/\∃ xs,SqL K H p xs)\/(∃ o,K.lookup p=some o/\o.cls=.type T/\o.dict=none) \/
   (T="dict"/\((∃ kvs,H p=some (.dK kvs))\/∃ kvs,H p=some (.dT kvs)))\/(T="set"/\∃ S n,H p=some (.set S n))
 | _=>False
theorem zgm {pJ:List (Addr×Obj)}{σ:St}{H:Hp}{s:ξ}{T:String}{x:V}{v:δ}(I:Inv X pJ σ H s) (r:RelV x v) (ty:tyV X.K T x H):
  s.TypeIs v T/\∀ a,v=.ref a->∃ ob,s.heap.get? a=some ob/\ob.dict=none:=by
 cases x with
 | str z=>
  obtain ⟨t,rfl⟩:=r;cases (show T="str" from ty);exact ⟨gQ s z t,fun _ e=>nomatch e⟩
 | int i=>
  obtain ⟨t,rfl⟩:=r;cases (show T="int" from ty);exact ⟨typeIs_int s i t,fun _ e=>nomatch e⟩
 | ref p=>
  cases r;rcases ty with ⟨rfl,xs,hq⟩ | ⟨o,hk,hc,hd⟩ | ⟨rfl,hk⟩ | ⟨rfl,S,n,hk⟩
  ·obtain ⟨its,_,pl,_⟩:=I.list hq;refine ⟨pl.isList.typeIs,fun a e=>?_⟩;cases e;obtain ⟨o,n,e,c,hd,_⟩:=pl;exact ⟨o,e,hd⟩
  ·refine ⟨⟨o,I.kIn p o hk,hc⟩,fun a e=>?_⟩;cases e;exact ⟨o,I.kIn _ o hk,hd⟩
  ·have z:∃ o,s.heap.get? p=some o/\o.ExactDict:=by
    rcases hk with ⟨kvs,hk⟩ | ⟨kvs,hk⟩
    ·obtain ⟨_,_,_,_,o,_,_,e,ex,_⟩:=I.hok p _ hk;exact ⟨o,e,ex⟩
    ·obtain ⟨_,_,_,_,o,_,_,e,ex,_⟩:=I.hok p _ hk;exact ⟨o,e,ex⟩
   obtain ⟨o,e,ex⟩:=z;refine ⟨⟨o,e,ex.1⟩,fun a e2=>?_⟩;cases e2;exact ⟨o,e,ex.2.1⟩
  ·obtain ⟨o,_,_,_,e,ex,_⟩:=I.hok p _ hk;refine ⟨⟨o,e,ex.1⟩,fun a e2=>?_⟩;cases e2;exact ⟨o,e,ex.2.1⟩
 | _=>exact ϩ ty
def tBM (K:W.Frag) (T:String) (r:V->List V->Hp->VK->Prop) (to:TE) (t:TA):TE:=fun σ H Q=>to σ H fun x H1=>tyV K T x H1/\t σ H1 fun xs H2=>r x xs H2 Q
variable {o e:Expr}{es:List Expr}{to:TE}{t:TA}{name:Str}{apos cpos:Pos}{T id:String}{r:V->List V->Hp->VK->Prop}
theorem zeU (pa:PlainAttrs T) (slot:Slot T name id) (hty:typeOf (.builtin id)=pure (.type "method_descriptor")) (hm:MtR X id r) (ho:PE X o to) (ha:PA X (e::es) t)
  (hbase:eF o name X.env (eval o X.env)=eval o X.env:=by rfl)
  (hfew:((dR cpos (ϟ (e::es) X.env)).all (fun x=>!x.1)&&(bY cpos (aG [] X.env)).all (fun x=>x.1.isSome)
  &&decide ((e::es).length+([]:List bD).length+(if ([]:List bD).isEmpty then 0 else 1) < 30))=true:=by rfl)
  (hline:(apos.endLine==cpos.line)=true:=by rfl) (hs:ϟ (e::es) X.env=(false,eval e X.env)::ϟ es X.env:=by rfl) (hplain:(dR cpos (ϟ es X.env)).any (·.1)=false:=by rfl):
  PE X (.Call (.Attribute o name apos) (e::es) [] cpos) (tBM X.K T r to t):=by intro pJ s σ H Q I h;refine wpAny_Call_method_late hbase hfew hline rfl (thn (ho pJ s σ H _ I h) fun v s1 ⟨x,H1,I1,r1,ty,q1⟩=>?_);obtain ⟨h1,h2⟩:=zgm I1 r1 ty;refine ⟨T,id,pa,slot,hty,h1,h2,?_⟩;have hA:=ha cpos pJ s1 σ H1 _ I1 q1;rw [hs] at hA ⊢;refine Calls.callWith_builtin (by show (false||(dR cpos (ϟ es X.env)).any (·.1))=false;rw [hplain] <;> rfl) (pX ?_);exact thn hA fun us s2 ⟨vs,H2,I2,r2,q2⟩=>hm pJ s2 σ H2 x vs v us Q I2 r1 r2 q2
end
def MtM (X:Cx) (id:String) (r:V->List V->Hp->VK->Prop):Prop:=
 ∀ (pJ:List (Addr×Obj)) (s:ξ) (σ:St) (H:Hp) (x:V) (xs:List V) (v:δ) (us:List δ) (Q:VK),Inv X pJ σ H s->RelV x v->Vals xs us->r x xs H Q ->
  Δ (Λ X.prog X.w) X.A (call (.builtin id) (v::us)) (EP X pJ σ Q) X.xe s
theorem Vals.one:∀ {x:V}{us:List δ},Vals [x] us->∃ u,us=[u]/\RelV x u
 | _,_,.cons r .nil=>⟨_,rfl,r⟩
theorem Vals.two:∀ {x y:V}{us:List δ},Vals [x,y] us->∃ u v,us=[u,v]/\RelV x u/\RelV y v
 | _,_,_,.cons r (.cons q .nil)=>⟨_,_,rfl,r,q⟩
section
variable {X:Cx}{pJ:List (Addr×Obj)}{σ:St}{H:Hp}{s:ξ}{l b:Addr}{xs ys zs:List V}
theorem Inv.lset {its its':List δ}{n:Nat}{f:Array δ->Array δ}{t':Nat}(I:Inv X pJ σ H s) (hH:H l=some (.lst xs))
  (e:s.heap.get? l=some { cls:=.type "list",data:=.seq its.toArray n }) (hf:f its.toArray=its'.toArray) (hv:Vals ys its') (hz:ys.length<=sizeLine):
  Inv X pJ σ (upd H l (.lst ys)) { s with heap:=s.heap.update l (aL f),toks:=t' }:=by have q:=PySem.IsL.update e f;rw [hf] at q;refine I.write (x:=l) (e:=l) (by rw [hH];exact trivial) (.inl rfl) (fun b' u hb hu=>(bc s.heap (aL f) (dH hb)).trans hu) ⟨_,q⟩ ?_;exact ⟨hz,its',_,hv,q⟩
theorem Inv.lnew {its:List δ}{t':Nat}(I:Inv X pJ σ H s) (hv:Vals ys its) (hz:ys.length<=sizeLine):
  Inv X pJ σ (upd H s.heap.objs.size (.lst ys)) { s with heap:=s.heap.push { cls:=.type "list",data:=.seq its.toArray },toks:=t' }:=
 I.laid (fun _ _ q=>θ _ q) (χ _) ⟨hz,its,0,hv,Ζ _ rfl⟩
theorem Inv.fresh (I:Inv X pJ σ H s):H s.heap.objs.size=none:=I.hok.fresh (χ _)
theorem Inv.lstM (I:Inv X pJ σ H s) (hH:H l=some (.lst xs)):xs.length<=sizeLine/\∃ (its:List δ) (n:Nat),Vals xs its/\xs.length=its.length/\s.heap.get? l=some { cls:=.type "list",data:=.seq its.toArray n }:=by obtain ⟨z,its,n,r,e⟩:=I.hok l _ hH;exact ⟨z,its,n,r,r.length,e⟩
theorem Uw {n:Nat}(h:n<=sizeLine):fQ n=false:=by unfold fQ;exact decide_eq_false (by lia)
end
section
variable {X:Cx}
def zey:V->List V->Hp->VK->Prop:=fun x vs H Q=>∃ l xs y,x=.ref l/\vs=[y]/\H l=some (.lst xs)/\xs.length < sizeLine/\Q .non (upd H l (.lst (xs++[y])))
theorem YW:MtM X "list.append" zey:=by intro pJ s σ H x vs v us Q I rx rv h;obtain ⟨l,xs,y,rfl,rfl,hH,hz,q⟩:=h;cases rx;obtain ⟨u,rfl,ru⟩:=rv.one;obtain ⟨z,its,n,r,hl,e⟩:=I.lstM hH;refine lq F.slot_list_append ⟨_,e,rfl⟩ F.entry_list_append (F.args_list_append_2 _ _) (PySem.list_append l its.toArray n u (by rw [ω];lia)) ⟨e,?_⟩;refine ⟨.non,_,I.lset (its':=its++[u]) hH e (by simp) (r.append (.cons ru .nil)) ?_,rfl,q⟩;rw [π,List.length_singleton];lia
def zex:V->List V->Hp->VK->Prop:=fun x vs H Q=>∃ l b xs zs,x=.ref l/\vs=[.ref b]/\H l=some (.lst xs)/\H b=some (.lst zs)/\xs.length+zs.length<=sizeLine/\Q .non (upd H l (.lst (xs++zs)))
theorem zak:MtM X "list.extend" zex:=by
 intro pJ s σ H x vs v us Q I rx rv h;obtain ⟨l,b,xs,zs,rfl,rfl,hH,hB,hz,q⟩:=h;cases rx;obtain ⟨u,rfl,ru⟩:=rv.one;cases ru;obtain ⟨z,its,n,r,hl,e⟩:=I.lstM hH;obtain ⟨z2,its2,n2,r2,hl2,e2⟩:=I.lstM hB;have hsz:its.toArray.size+its2.toArray.size<=sizeLine:=by rw [ω,ω];lia
 have hlong:¬ (!its.toArray.isEmpty&&fQ (its.toArray.size+its2.toArray.size))=true:=by rw [Uw hsz,cG];exact Ω
 refine lq F.slot_list_extend ⟨_,e,rfl⟩ F.entry_list_extend (F.args_list_extend_2 _ _)
  (AutoSeq1.list_extend_list_list_0 l its.toArray n b its2.toArray n2 hlong (by rw [ω];lia) (by lia)) ⟨e,e2,?_⟩
 refine ⟨.non,_,I.lset (its':=its++its2) hH e (by simp) (r.append r2) ?_,rfl,q⟩;rw [π];lia
end
end L2
namespace Att
open PySem PySem.W PySem.Calls PyProof.Rows
theorem jH {P:Params}{h:Heap}:∀ (ns:List Int) (vs:List δ),WellAll P h vs (ns.map WData.int)->fY vs ns:=by
 intro ns
 induction ns with
 | nil=>
  intro vs w;rw [bL] at w;cases w;exact .nil
 | cons n ns ih=>
  intro vs w;rw [Κ] at w;cases w with
  | cons a b=>
   cases a;exact .cons _ _ (ih _ b)
theorem Qq {l:OpenLaw}{n:Nat}(hn:l.most=some n) {P:Params}{h:Heap}{args:List WData}{vals:List δ}
  (hpre:l.row.toRowW.claim.pre args=true) (hwl:WellAll P h vals args):
  ∃ a vs ns,vals=[Θ a]/\args=[WData.list (ns.map WData.int)]/\h.get? a=some { cls:=.type "list",data:=.seq vs.toArray }/\fY vs ns/\ns.length<=n:=by
 have hsh:WShape.hasAll [] args [.list .int]=true:=(pre_splitW hpre).1;have hc:l.pre.holds [] { args:=args }=true:=(pre_splitW hpre).2;obtain ⟨d,r,rfl,h1,h2⟩:=hasAllW_cons hsh;obtain rfl:=hasAllW_nil h2;obtain ⟨xs,rfl,h3⟩:=hasW_list h1;obtain ⟨ns,rfl⟩:=items_int h3;have hlen:ns.length<=n:=by
  unfold OpenLaw.pre at hc;have h4:(WTm.not (.lt (.lit (.int (n:Int))) (.len (.arg 0)))).holds [] { args:=[.list (ns.map .int)] }=true:=by have h4:=(holds_andW hc).1;rw [hn] at h4;exact h4
  have h5:=condW_of h4 (w_not (w_lt w_lit (w_len_list (w_arg rfl))));rw [ζ] at h5;refine m8 fun q=>?_
  have q':(n:Int) < ((ns.length:Nat):Int):=by omega
  first
   | (rw [decide_eq_true q'] at h5;exact absurd h5 (by decide))
   | (simp at h5;omega)
 cases hwl with
 | cons w1 w2=>
  cases w2;cases w1 with
  | list ho hall=>exact ⟨_,_,ns,rfl,rfl,ho,jH ns _ hall,hlen⟩
theorem QR (l:OpenLaw) (args:List WData):l.row.toRowW.claim.post args (.bool true) args=true:=
 postW_of (r:=l.row.toRowW) (X:=(true==true))
  (show WShape.has [] (.bool true) .bool=true by first | rfl | decide | simp [WShape.has,WShape.arms,WShape.armsAll])
  (show (WTm.eq .res (.lit (.bool true))).value [] { args:=args,res:=some (.bool true),after:=args }=some (.bool (true==true)) from w_eq_bool (w_res rfl) w_lit) rfl
theorem VH {l:OpenLaw}{n:Nat}{q:Χ}{loose:List Str}{XP:(Str->Option δ)->Heap->Prop}{YP:Ϛ->Heap->Prop}{d:DefRec}
  (hn:l.most=some n) (hdf:d.params.defaults=[])
  (call:∀ (w:Ϛ) (sy s₁:ξ) (mg mb:Str->Option δ) (fa:Addr) (o:Obj) (pm cd doc:δ) (a:Addr) (vs:List δ) (ns:List Int),
   Ground q loose [] XP w sy mg mb s₁.heap->YP w s₁.heap ->
   s₁.heap.get? fa=some o->o.data=.func (docDef d.name d.params d.body d.scope pm cd doc)->s₁.heap.CodeRec cd d.name->mg d.name=some (.ref fa) ->
   s₁.heap.get? a=some { cls:=.type "list",data:=.seq vs.toArray }->fY vs ns->ns.length<=n->s₁.gens=#[] ->
   ik (Λ l.prog w) callerA (.call (.ref fa) ⟨[.ref a],[]⟩) (fun r s'=>r=.ok (.ret (.bool true))/\OldK s₁.heap s'.heap/\s'.os=s₁.os/\iz s'.gens) s₁):
  WalkO q loose XP YP l.row.toRowW d [] (fun f vs=>PySem.call f vs):=by intro w sy s₁ mg mb G Y fa o pm cd doc dV kV ho hd hcd hD hmg hg args vals as hpre hlay hrd hwl hlo;obtain rfl:dV=.none:=Dflts.none hD hdf;obtain rfl:kV=.none:=Dflts.noKw hD;obtain ⟨a,vs,ns,rfl,rfl,hobj,hints,hlen⟩:=Qq hn hpre hwl;refine enter_call (fC (call w sy s₁ mg mb fa o pm cd doc a vs ns G Y ho (fd_plain hd) hcd hmg hobj hints hlen hg) fun r s' hq=>?_);obtain ⟨rfl,h2,h3,h4⟩:=hq;exact ⟨.inl ⟨.bool true,.bool true,[],rfl,fun _=>rfl,.bool true,QR l _,fun _=>⟨fL,fun _ hm=>(nomatch hm)⟩⟩,h2,h3,h4⟩
end Att
namespace L2
open PySem PySem.Spec PyProof.Rows
theorem yK:∀ {vs:List δ}{ns:List Int},fY vs ns->Vals (ns.map V.int) vs
 | _,_,.nil=>.nil
 | _,_,.cons n t h=>.cons ⟨t,rfl⟩ (yK h)
def Only (H:Hp):Prop:=∀ b,H b=none\/∃ o xs,H b=some (.frz o (.lst xs))
theorem zcw {P:Χ}{w:Ϛ}{K:W.Frag}{mg mb:Str->Option δ}{CX:CXT}{k:Nat}{fa a:Addr}{fd:bT}{x:Str}{sp:Sp}{s₁:ξ}{vs:List δ}{ns:List Int}
  (KX:K.In s₁.heap) (hns:s₁.heap.Ns ϑ mg) (hb:s₁.heap.Ns builtinsNs mb) (hbb:∀ x:Str,x≠"__name__"->mb x=cX x) (hlim:s₁.heap.NoLimit) (hg:s₁.gens=#[])
  (ha:s₁.heap.get? a=some { cls:=.type "list",data:=.seq vs.toArray }) (hi:fY vs ns) (hl:ns.length<=sizeLine) (hr:Room k callerA)
  (F:∀ base:Heap,K.In base->base.Ns ϑ mg->FnOk P w K mg base CX k fa fd [x] sp) (hbind:∀ (s:ξ) (u:δ),BindsTo s fd ⟨[u],[]⟩ [(x,u)])
  (hsp:∀ H:Hp,Only H->SqL K H a (ns.map V.int)->sp [.ref a] H (fun v _=>v=.bl true) fun _ _ _=>False)
  (hCX:∀ H e s',CX [] H s₁ (fun _ _ _=>False) e s'->False):
  ik (Λ P w) callerA (.call (.ref fa) ⟨[.ref a],[]⟩) (fun r s'=>r=.ok (.ret (.bool true))/\OldK s₁.heap s'.heap/\s'.os=s₁.os/\iz s'.gens) s₁:=by
 have rv:=yK hi;have lenV:=hi.length;have core:∀ H:Hp,Only H->SqL K H a (ns.map V.int)->HOk P w H s₁.heap->(∀ b,H b≠none->b=a)->(H a≠none->K.lookup a=none) ->
   ik (Λ P w) callerA (.call (.ref fa) ⟨[.ref a],[]⟩) (fun r s'=>r=.ok (.ret (.bool true))/\OldK s₁.heap s'.heap/\s'.os=s₁.os/\iz s'.gens) s₁:=by
  intro H hO hS hok hA hK;have wI:∀ {b:Addr}{o:Obj},s₁.heap.get? b=some o->H b=none->(hidT s₁.heap H).get? b=some o:=fun e n=>zcC e n
  have noA:∀ {b:Addr}{o:Obj}{es:Array fV}{ep:Nat},s₁.heap.get? b=some o->o.data=.dict es ep->H b=none:=fun {b o es ep} e d=>by
   cases q:H b with
   | none=>rfl
   | some u=>
    have e':b=a:=hA b (by rw [q];simp);subst e';rw [ha] at e;cases e;have d':Data.seq vs.toArray _=Data.dict es ep:=d;cases d'
  have nsK:∀ {b:Addr}{m:Str->Option δ},s₁.heap.Ns b m->(hidT s₁.heap H).Ns b m:=fun {b m} ⟨o,es,ep,e,d,r⟩=>⟨o,es,ep,wI e (noA e d),d,r⟩
  have hKb:K.In (hidT s₁.heap H):=fun b o e=>wI (KX b o e) (by
   cases q:H b with
   | none=>rfl
   | some u=>
    have e':b=a:=hA b (by rw [q];simp);subst e'
    rw [hK (by rw [q];simp)] at e;cases e)
  have hM:Mod K mg (hidT s₁.heap H):=⟨hKb,nsK hns,⟨mb,nsK hb,hbb⟩,let ⟨mc,h1,h2⟩:=hlim;⟨mc,nsK h1,h2⟩⟩
  have e0:Env0 P w K mg (hidT s₁.heap H) callerA [] s₁ H:=⟨rfl,hM,fun b o e=>ze2 e,gj (zaS _ _),trivial,fun b hb=>absurd (show b∈([]:List Addr) from hb) (by simp),hok,.of_eq hg⟩
  refine fC ((F _ hKb (nsK hns)).run callerA [] s₁ H ⟨[.ref a],[]⟩ [.ref a] [.ref a] _ _ hr e0 (hbind s₁ (.ref a)) (.cons rfl .nil) (hsp H hO hS)) fun r s' h=>?_
  cases r with
  | error e=>exact (hCX H e s' h).elim
  | ok fl=>
   cases fl with
   | next=>exact ϩ h
   | brk=>exact ϩ h
   | cont=>exact ϩ h
   | ret u=>
    obtain ⟨v,H',os,bare,un,hok',r',q⟩:=h;have q':v=.bl true:=q;subst q';obtain rfl:u=Ϯ true:=r';refine ⟨rfl,OldK.of_keep fun b o e=>?_,os,bare⟩;cases q:H b with
    | none=>exact un.keep b o e q (by intro z;exact absurd (show b∈([]:List Addr) from z) (by simp)) (by simp)
    | some u=>
     rcases hO b with z | ⟨ob,xs,z⟩
     ·rw [q] at z;cases z
     ·have z2:=un.frzs b ob _ z;obtain ⟨e1,_⟩:=hok b _ z;obtain ⟨e2,_⟩:=hok' b _ z2;rw [e] at e1;cases e1;exact e2
 cases hk:K.lookup a with
 | some o=>
  have e:=KX a o hk;rw [ha] at e;cases e;refine core (fun _=>none) (fun _=>.inl rfl) (.inr ⟨_,vs.toArray,_,hk,rfl,rfl,rfl,by rw [ω,lenV];exact hl,by simpa using rv⟩) (fun b u z=>by have z':(none:Option HO)=some u:=z;cases z') (fun b z=>absurd rfl z) fun z=>absurd rfl z
 | none=>
  refine core (fun b=>if b=a then some (.frz { cls:=.type "list",data:=.seq vs.toArray } (.lst (ns.map V.int))) else none) (fun b=>?_) (.inl (.inr ⟨{ cls:=.type "list",data:=.seq vs.toArray },if_pos rfl⟩)) (fun b u z=>?_) (fun b z=>?_) fun _=>hk
  ·by_cases hb:b=a
   ·exact .inr ⟨_,_,if_pos hb⟩
   ·exact .inl (if_neg hb)
  ·by_cases hb:b=a
   ·have z':=(if_pos hb).symm.trans z;cases z';subst hb;exact ⟨ha,by rw [ζ];exact hl,vs,_,rv,ha⟩
   ·have z':=(if_neg hb).symm.trans z;cases z'
  ·by_cases hb:b=a
   ·exact hb
   ·exact absurd (if_neg hb) z
abbrev CX0:CXT:=fun _ _ _ _ _ _=>False
abbrev E0:XK:=fun _ _ _=>False
structure Fun (K:W.Frag) (x qual:Str) (st:Stmt) (f:Addr) (fd:bT):Prop where
 ex:∃ (oc:δ) (od:Option Addr) (kV doc pm:δ) (an:Option Addr) (cdv ct:δ) (osl:Array (Option δ)),
  fd=W.fnOf x qual (yJ st) (yl st) (zJ st) .none kV doc pm an cdv ct/\K.lookup f=some ⟨oc,od,.func fd,osl⟩/\W.codeIn K cdv qual=true
 kp:W.keepIn K (.ref f)=true
section
variable {P:Χ}{w:Ϛ}{K:W.Frag}{mg:Str->Option δ}{base:Heap}
theorem Fun.ok {x qual:Str}{st:Stmt}{f:Addr}{fd:bT}{N ps:List Str}{k:Nat}{sp:Sp}(F:Fun K x qual st f fd) (S:Yb N ps (zJ st)) (len:∀ vs H Q E,sp vs H Q E->vs.length=ps.length)
  (hbody:∀ (cdv:δ) (A:ϖ) (outer:List Env) (s:ξ) (H:Hp) (vs:List V) (Q:VK) (E:XK),Room k (A.deeper (m6 qual (zJ st) s.heap.objs.size f cdv))->sp vs H Q E ->
   ∃ t,PSs (cxOf CX0 P w K mg base N qual (zJ st) f cdv A outer s H E).nox (yl st) t/\t { nx:=fun _ H'=>Q .non H',rt:=Q } (start N vs) H):FnOk P w K mg base CX0 (k+1) f fd ps sp:=by
 obtain ⟨oc,od,kV,doc,pm,an,cdv,ct,osl,rfl,lk,hcd⟩:=F.ex;refine ziG lk hcd S len fun A outer s H vs Q E hr hsp=>?_
 obtain ⟨t,h,q⟩:=hbody cdv A outer s H vs Q E hr hsp;exact ⟨t,h.nox,q⟩
theorem Fun.binds {x qual:Str}{st:Stmt}{f:Addr}{fd:bT}{ps:List Str}(F:Fun K x qual st f fd)
  (h:∀ (kV doc pm:δ) (an:Option Addr) (cdv ct:δ) (us:List δ),us.length=ps.length->bindArgs (W.fnOf x qual (yJ st) (yl st) (zJ st) .none kV doc pm an cdv ct) ⟨us,[]⟩=pure (ps.zip us)):Binds K fd ps []:=by obtain ⟨oc,od,kV,doc,pm,an,cdv,ct,osl,rfl,lk,hcd⟩:=F.ex;exact .all (h kV doc pm an cdv ct)
theorem ziE {x qual:Str}{st:Stmt}{f:Addr}{oc:δ}{od an:Option Addr}{osl:Array (Option δ)}{kV doc pm cdv ct:δ}(l:K.lookup f=some ⟨oc,od,.func (W.fnOf x qual (yJ st) (yl st) (zJ st) .none kV doc pm an cdv ct),osl⟩)
  (c:W.codeIn K cdv qual=true) (k:W.keepIn K (.ref f)=true):Fun K x qual st f (W.fnOf x qual (yJ st) (yl st) (zJ st) .none kV doc pm an cdv ct):=⟨⟨oc,od,kV,doc,pm,an,cdv,ct,osl,rfl,l,c⟩,k⟩
end
section
variable {X:Cx}
theorem pv (i:Nat) {x:Str}{pos:Pos}(hN:X.N[i]?=some x:=by rfl) (hv:Vis X.env.scope x:=by first | exact Or.inl rfl | exact Or.inr (Or.inl rfl) | exact Or.inr (Or.inr rfl)) (hd:(x==("__debug__":Str))=false:=by decide)
  (hcd:(x==("__classdict__":Str))=false:=by decide):PE X (.Name x pos) (tVar i):=qp hN hv hd hcd
end
theorem iteF {A B:Prop}(h:B):if false=true then A else B:=by rw [if_neg Ω];exact h
theorem iteT {A B:Prop}(h:A):if true=true then A else B:=by rw [if_pos rfl];exact h
def Same (H H':Hp):Prop:=∀ b o,H b=some o->H' b=some o
theorem Same.refl (H:Hp):Same H H:=fun _ _ h=>h
theorem Same.trans {H H1 H2:Hp}(a:Same H H1) (b:Same H1 H2):Same H H2:=fun c o h=>b c o (a c o h)
theorem Same.free {H H':Hp}(e:Same H H') {l:Addr}(h:H' l=Option.none):H l=Option.none:=by
 cases q:H l with
 | none=>rfl
 | some o=>
  rw [e l o q] at h;cases h
theorem Same.seq {K:W.Frag}{H H':Hp}{a:Addr}{xs:List V}(e:Same H H') (h:SqL K H a xs):SqL K H' a xs:=by
 rcases h with (h | ⟨o,h⟩) | h
 ·exact .inl (.inl (e _ _ h))
 ·exact .inl (.inr ⟨o,e _ _ h⟩)
 ·exact .inr h
noncomputable def Ite (K:W.Frag) (l:Addr):It:=
 ⟨fun i H=>∃ xs x,SqL K H l xs/\xs[i]?=some x,fun i H x H'=>∃ p y,H p=none/\x=.ref p/\H'=upd H p (.tup [.int i,y])/\∀ xs,SqL K H l xs->xs[i]?=some y,fun i H=>∃ xs,SqL K H l xs/\xs.length<=i⟩
theorem K5 {P:Χ}{w:Ϛ}{K:W.Frag}{elts:List Expr}{kk:Nat}{pos:Pos}(l e it:Addr) (hne:e≠it):
  Turn P w K (.Tuple elts kk pos) (Ite K l) [e,it] e (fun i h=>(∃ old,IsEnum h e it i old)/\h.IsListIter it l i) where
 mem:=by simp
 obj:=fun i h st b hb=>by
  obtain ⟨⟨old,he⟩,hit⟩:=st;have hb':b=e\/b=it:=by simpa using hb
  rcases hb' with rfl | rfl
  ·exact ⟨_,he,fun v z=>by cases z⟩
  ·obtain ⟨o,q,c,d⟩:=hit;exact ⟨o,q,fun v z=>by rw [d] at z;cases z⟩
 keep:=fun i h h' st k=>by obtain ⟨⟨old,he⟩,hit⟩:=st;exact ⟨⟨old,k e (by simp) _ he⟩,hit.at fun o q=>k it (by simp) o q⟩
 item:=by
  intro X hP hw hK hc i pJ s σ H E I hf st hg;subst hP hw hK;obtain ⟨⟨old,he⟩,hit⟩:=st;obtain ⟨xs,x,hq,hx⟩:=hg;obtain ⟨its,rv,p,hz⟩:=I.list hq;obtain ⟨u,hu,ru⟩:=rv.get hx;have f1:=hf e (by simp);have f2:=hf it (by simp);have hT:H s.heap.objs.size=none:=I.hok.fresh (χ _);refine wpAny_pyNext_enum_item he hit p.isList (x:=u) (by simpa using hu) hne fun h' ho hit' hTp hsz hk=>⟨_,rfl,?_⟩
  refine wpAny_letOwnedTupleGo_enum ho fun h2 he2 hs2=>?_
  have kept:∀ b o,b ∉ [e,it]->s.heap.get? b=some o->h2.get? b=some o:=fun b o hb q=>(hs2.2 b fun z=>hb (by simp [z])).trans (hk b o (fun z=>hb (by simp [z])) (fun z=>hb (by simp [z])) q)
  have nT:∀ b o,s.heap.get? b=some o->b≠s.heap.objs.size:=fun b o q=>ϋ (Ε q)
  have htr:∀ b o,H b=some o->b ∉ [e,it]:=fun b o q hb=>by
   have hb':b=e\/b=it:=by simpa using hb
   rcases hb' with rfl | rfl
   ·rw [f1.1] at q;cases q
   ·rw [f2.1] at q;cases q
  have eT:h2.get? s.heap.objs.size=some { cls:=.type "tuple",data:=.seq #[.int i s.toks,u] }:=(hs2.2 _ (iI (Ε he))).trans hTp;have hok:HOk X.prog X.w (upd H s.heap.objs.size (.tup [.int i,x])) h2:=fun b o q=>by
   by_cases hb:b=s.heap.objs.size
   ·subst hb;rw [zp] at q;cases q;exact ⟨by show 2<=sizeLine;decide,[.int i s.toks,u],.cons ⟨_,rfl⟩ (.cons ru .nil),⟨_,eT,rfl,_,rfl⟩⟩
   ·rw [zj hb] at q;refine (I.hok b o q).stay (fun c v hcv r=>kept c v ?_ r) (fun c r=>by rw [zj (zz r hT)];exact r) fun c ys r=>by rw [zj (zz r hT)];exact r
    rcases hcv with rfl | hcv
    ·exact htr _ _ q
    ·exact htr _ _ hcv
  refine ⟨.ref s.heap.objs.size,upd H s.heap.objs.size (.tup [.int i,x]),?_,rfl,⟨_,x,hT,rfl,rfl,fun ys hy=>by rw [I.UW hy hq];exact hx⟩,⟨⟨u,by simpa using he2⟩,hit'.at fun o q=>(hs2.2 it hne.symm).trans q⟩,fun b hb=>?_⟩
  ·refine Inv.step (s:=s) (H:=H) (h':=h2) (g':=s.gens) (d':=s.drawn) (t':=s.toks+1) (ch:=[e,it]) I (fun b hb=>?_) (fun b o _ _ hb q _=>kept b o hb q) (fun b o _ _ hb q _=>⟨o.slots,kept b o hb q⟩) (fun b o _ q n=>by rw [zj (nT b o q)];exact n) (fun b o hb q=>⟨o,kept b o hb q⟩)
    (fun b ys q=>by rw [zj (zz q hT)];exact q) (fun b o v q=>by rw [zj (zz q hT)];exact q) (fun b ps q=>⟨#[],by rw [zj (zz q hT),q];simp⟩) (fun m hm=>?_) hok I.bare
   ·have hb':b=e\/b=it:=by simpa using hb
    rcases hb' with rfl | rfl
    ·exact ⟨f1.2.2.2.1,f1.2.1,f1.2.2.2.2.1,f1.2.2.2.2.2⟩
    ·exact ⟨f2.2.2.2.1,f2.2.1,f2.2.2.2.2.1,f2.2.2.2.2.2⟩
   ·obtain ⟨o,es,ep,q,r⟩:=hm
    exact ⟨o,es,ep,kept _ o (fun hb=>by
     have hb':X.env.locals=e\/X.env.locals=it:=by simpa using hb
     rcases hb' with z | z
     ·exact f1.2.1 z.symm
     ·exact f2.2.1 z.symm) q,r⟩
  ·have hb':b=e\/b=it:=by simpa using hb
   rcases hb' with rfl | rfl
   ·rw [zj (nT _ _ he)];exact f1.1
   ·obtain ⟨o,q,_⟩:=hit;rw [zj (nT _ _ q)];exact f2.1
 done:=by intro X hP hw hK hc i pJ s σ H E I hf st hg;subst hP hw hK;obtain ⟨⟨old,he⟩,hit⟩:=st;obtain ⟨xs,hq,hx⟩:=hg;obtain ⟨its,rv,p,hz⟩:=I.list hq;obtain ⟨f0,f1,f2,f3,f4,f5⟩:=hf it (by simp);have hl:=rv.length;exact wpAny_pyNext_enum_end (I.ok.hd hc) he hit p.isList (by simp;lia) fun h' eb=>⟨rfl,I.turned (t':=s.toks) (fun b o hb q=>eb b o hb q) f0 f1 f3 f4 f5⟩
 self:=fun A i s Q E st h=>by obtain ⟨⟨old,he⟩,_⟩:=st;exact wpAny_pyIter_enum he h
def TIt (h:Heap) (i l:Addr) (k:Nat) (xs:Array δ):Prop:=h.IsTupleIter i l k/\h.IsTuple l xs
theorem TIt.kp {h h':Heap}{i l z:Addr}{k:Nat}{xs:Array δ}(t:TIt h i l k xs) (e:Heap.ExtBut z h h') (a:i≠z) (b:l≠z):TIt h' i l k xs:=by obtain ⟨⟨o,o1,o2⟩,p,p1,p2⟩:=t;exact ⟨⟨o,e i o a o1,o2⟩,p,e l p b p1,p2⟩
theorem TIt.it {h h':Heap}{i l:Addr}{k m:Nat}{xs:Array δ}(t:TIt h i l k xs) (hi:h'.IsTupleIter i l m) (e:ϭ i h h') (b:l≠i):TIt h' i l m xs:=by obtain ⟨_,p,p1,p2⟩:=t;exact ⟨hi,p,e.extBut l p b p1,p2⟩
section
variable {prog:Χ}{w:Ϛ}{A:ϖ}{E:VSP}{s:ξ}{z TI TO i1 i2 l1 l2:Addr}{k1 k2:Nat}{xs ys:Array δ}{x y a b:δ}
end
section
variable {X:Cx}{elts:List Expr}{kk:Nat}{tp:Pos}
end
section
variable {κ:Type} [DecidableEq κ]
noncomputable def valV (kvs:List (κ×V)) (k:κ):Option V:=(kvs.find? fun kv=>decide (kv.1=k)).map (·.2)
noncomputable def putK (kvs:List (κ×V)) (k:κ) (v:V):List (κ×V):=
 if (kvs.any fun kv=>decide (kv.1=k))=true then kvs.map (fun kv=>if kv.1=k then (kv.1,v) else kv) else kvs++[(k,v)]
theorem wM {p:κ×V}{r:List (κ×V)}{k:κ}(e:p.1=k):valV (p::r) k=some p.2:=by simp [valV,dM,e]
theorem wN {p:κ×V}{r:List (κ×V)}{k:κ}(e:¬ p.1=k):valV (p::r) k=valV r k:=by simp [valV,dM,e]
theorem V7 (k:κ):∀ kvs:List (κ×V),(kvs.any fun kv=>decide (kv.1=k))=(valV kvs k).isSome
 | []=>rfl
 | p::r=>by
  rw [lG];by_cases e:p.1=k
  ·simp only [wM e,decide_eq_true e,Bool.true_or,Option.isSome_some]
  ·rw [wN e,decide_eq_false e,Bool.false_or];exact V7 k r
theorem wC (kvs:List (κ×V)) (k:κ) (v:V):(putK kvs k v).length<=kvs.length+1:=by
 unfold putK;split
 ·rw [ζ];lia
 ·rw [π,η,ς];lia
theorem RelO.xu {o:Option V}{u:Option δ}(r:RelO o u):o.isSome=u.isSome:=by
 cases o with
 | none=>cases u with
  | none=>rfl
  | some _=>exact (show False from r).elim
 | some _=>cases u with
  | none=>exact (show False from r).elim
  | some _=>rfl
theorem RelO.getD {o:Option V}{u:Option δ}{d:V}{d':δ}(r:RelO o u) (rd:RelV d d'):RelV (o.getD d) (u.getD d'):=by
 cases o with
 | none=>cases u with
  | none=>exact rd
  | some _=>exact (show False from r).elim
 | some _=>cases u with
  | none=>exact (show False from r).elim
  | some _=>exact r
theorem KV.val {kvs:List (κ×V)}{vs:List (κ×δ)}(r:KV kvs vs) (k:κ):RelO (valV kvs k) (iZ vs k):=by
 unfold KV at r
 induction r with
 | nil=>exact ϴ
 | @cons p q ps qs h t ih=>
  obtain ⟨h1,h2⟩:=h;by_cases e:p.1=k
  ·have e':q.1=k:=h1.symm.trans e;have b:iZ (q::qs) k=some q.2:=by simp [iZ,dM,e']
   rw [wM e,b];exact h2
  ·have e':¬ q.1=k:=fun z=>e (h1.trans z)
   have b:iZ (q::qs) k=iZ qs k:=by simp [iZ,dM,e']
   rw [wN e,b];exact ih
theorem KV.any {kvs:List (κ×V)}{vs:List (κ×δ)}(r:KV kvs vs) (k:κ):(kvs.any fun kv=>decide (kv.1=k))=vs.any fun kv=>decide (kv.1=k):=by
 unfold KV at r
 induction r with
 | nil=>rfl
 | cons h t ih=>rw [lG,lG,ih,h.1]
theorem KV.repl {kvs:List (κ×V)}{vs:List (κ×δ)}(r:KV kvs vs) (k:κ) {y:V}{u:δ}(ry:RelV y u):
  KV (kvs.map fun kv=>if kv.1=k then (kv.1,y) else kv) (vs.map fun kv=>if kv.1=k then (kv.1,u) else kv):=by
 unfold KV at r ⊢
 induction r with
 | nil=>exact .nil
 | @cons p q ps qs h t ih=>
  rw [Κ,Κ];refine .cons ?_ ih;obtain ⟨h1,h2⟩:=h;by_cases e:p.1=k
  ·rw [if_pos e,if_pos (h1.symm.trans e)];exact ⟨h1,ry⟩
  ·rw [if_neg e,if_neg (fun z=>e (h1.trans z))];exact ⟨h1,h2⟩
theorem KV.put {kvs:List (κ×V)}{vs:List (κ×δ)}(r:KV kvs vs) (k:κ) {y:V}{u:δ}(ry:RelV y u):KV (putK kvs k y) (stored vs k u):=by
 unfold putK stored;rw [r.any k];by_cases e:(vs.any fun kv=>decide (kv.1=k))=true
 ·rw [if_pos e,if_pos e];exact r.repl k ry
 ·rw [if_neg e,if_neg e];exact fH.snoc r ⟨rfl,ry⟩
theorem KV.length {kvs:List (κ×V)}{vs:List (κ×δ)}(r:KV kvs vs):kvs.length=vs.length:=n6 r
end
theorem Ke {P:Χ}{w:Ϛ}{k:Key}{u:δ}(r:RelV (kV k) u):(z7 P w).is k u=true:=by
 cases k with
 | inl i=>obtain ⟨t,e⟩:=(show ∃ t,u=Ϫ i t from r);subst e;exact W7 P w i t
 | inr x=>obtain ⟨t,e⟩:=(show ∃ t,u=bw x t from r);subst e;exact W6 P w x t
theorem Xg {P:Χ}{w:Ϛ}:∀ {ks:List Key}{us:List δ},Vals (ks.map kV) us->ItemsAre (z7 P w) ks us
 | [],_,r=>by rw [bL] at r;cases r;exact .nil
 | k::ks,_,r=>by
  rw [Κ] at r;cases r with
  | cons h t=>exact .cons (Ke h) (Xg t)
abbrev KT (H:Hp):List (List Key×V)->List (List Key×Addr×δ)->Prop:=fH fun p q=>p.1=q.1/\H q.2.1=some (.tup (p.1.map kV))/\RelV p.2 q.2.2
theorem KT.val {H:Hp}{kvs:List (List Key×V)}{xs:List (List Key×Addr×δ)}(r:KT H kvs xs) (k:List Key):RelO (valV kvs k) ((atKey xs k).map (·.2)):=by
 induction r with
 | nil=>exact ϴ
 | @cons p q ps qs h t ih=>
  obtain ⟨h1,_,h2⟩:=h;by_cases e:p.1=k
  ·have e':q.1=k:=h1.symm.trans e;have b:atKey (q::qs) k=some q.2:=by simp [atKey,dM,e']
   rw [wM e,b];exact h2
  ·have e':¬ q.1=k:=fun z=>e (h1.trans z)
   have b:atKey (q::qs) k=atKey qs k:=by simp [atKey,dM,e']
   rw [wN e,b];exact ih
theorem KT.repl {H:Hp}{kvs:List (List Key×V)}{xs:List (List Key×Addr×δ)}(r:KT H kvs xs) (k:List Key) {y:V}{u:δ}(ry:RelV y u):
  KT H (kvs.map fun kv=>if kv.1=k then (kv.1,y) else kv) (xs.map (putAt k u)):=by
 induction r with
 | nil=>exact .nil
 | @cons p q ps qs h t ih=>
  rw [Κ,Κ];refine .cons ?_ ih;obtain ⟨h1,h2,h3⟩:=h;unfold putAt;by_cases e:p.1=k
  ·rw [if_pos e,if_pos (h1.symm.trans e)];exact ⟨h1,h2,ry⟩
  ·rw [if_neg e,if_neg (fun z=>e (h1.trans z))];exact ⟨h1,h2,h3⟩
theorem KT.put {H:Hp}{kvs:List (List Key×V)}{xs:List (List Key×Addr×δ)}(r:KT H kvs xs) (k:List Key) {b:Addr}{y:V}{u:δ}(hb:H b=some (.tup (k.map kV))) (ry:RelV y u):
  KT H (putK kvs k y) (storedH xs k b u):=by
 have e:(kvs.any fun kv=>decide (kv.1=k))=(atKey xs k).isSome:=by rw [V7,(r.val k).xu,lM]
 unfold putK storedH;rw [e];by_cases q:(atKey xs k).isSome=true
 ·rw [if_pos q,if_pos q];exact r.repl k ry
 ·rw [if_neg q,if_neg q];exact fH.snoc r ⟨rfl,hb,ry⟩
theorem KT.keeps {H H':Hp}{kvs:List (List Key×V)}{xs:List (List Key×Addr×δ)}(r:KT H kvs xs) (ht:∀ b ys,H b=some (.tup ys)->H' b=some (.tup ys)):KT H' kvs xs:=
 fH.mapP r fun _ _ z=>⟨z.1,ht _ _ z.2.1,z.2.2⟩
section
variable {P:Χ}{w:Ϛ}{H:Hp}{h:Heap}{a:Addr}
theorem zhc {u:HO}(ok:HOk P w H h) (e:Rd H a u):zW P w H h a u:=e.ok ok
theorem Xz {kvs:List (Key×V)}(ok:HOk P w H h) (e:Rd H a (.dK kvs)):kvs.length<=sizeLine/\(a==bV)=false/\∃ vs,KV kvs vs/\h.DictOf (z7 P w) a vs:=
 show zW P w H h a (.dK kvs) from zhc ok e
theorem ziT {kvs:List (Key×V)}(ok:HOk P w H h) (e:H a=some (.dK kvs)):kvs.length<=sizeLine/\(a==bV)=false/\∃ vs,KV kvs vs/\h.DictOf (z7 P w) a vs:=Xz ok (.inl e)
theorem Y5 {ks:List Key}(ok:HOk P w H h) (e:H a=some (.tup (ks.map kV))):(iM (z7 P w)).is h ks a:=by
 obtain ⟨_,its,r,o,h1,h2,n,h3⟩:=(show zW P w H h a (.tup (ks.map kV)) from ok a _ e)
 exact ⟨o,its.toArray,n,h1,h2,h3,by simpa using Xg r⟩
theorem Kl {kvs:List (List Key×V)}(ok:HOk P w H h) (e:Rd H a (.dT kvs)):kvs.length<=sizeLine/\(a==bV)=false /\
  ∃ xs,KT H kvs xs/\h.DictOfH (iM (z7 P w)) a xs:=by
 obtain ⟨z,y,xs,r,o,es,ep,h1,h2,h3,h4,h5⟩:=(show zW P w H h a (.dT kvs) from zhc ok e)
 refine ⟨z,y,xs,r,o,es,ep,h1,h2,h3,h4,fun x hx=>?_,h5⟩;have all:∀ {l:List (List Key×V)}{m:List (List Key×Addr×δ)},KT H l m->∀ x∈m,(iM (z7 P w)).is h x.1 x.2.1:=by
  intro l m q
  induction q with
  | nil=>intro x hx;exact nomatch hx
  | @cons p q ps qs hq t ih=>
   intro x hx;rcases υ.mp hx with e | hx
   ·subst e;exact Y5 ok (by rw [<- hq.1];exact hq.2.1)
   ·exact ih x hx
 exact all r x hx
theorem zkV {kvs:List (List Key×V)}(ok:HOk P w H h) (e:H a=some (.dT kvs)):kvs.length<=sizeLine/\(a==bV)=false /\
  ∃ xs,KT H kvs xs/\h.DictOfH (iM (z7 P w)) a xs:=Kl ok (.inl e)
end
def DGet (H:Hp) (a:Addr) (y:V) (r:Option V):Prop:=
 (∃ kvs k,Rd H a (.dK kvs)/\y=kV k/\r=valV kvs k)\/∃ kvs k b,Rd H a (.dT kvs)/\y=.ref b/\H b=some (.tup (k.map kV))/\r=valV kvs k
def DPut (H:Hp) (a:Addr) (y v:V) (H':Hp):Prop:=
 (∃ kvs k,H a=some (.dK kvs)/\y=kV k/\kvs.length < sizeLine/\H'=upd H a (.dK (putK kvs k v))) \/
 ∃ kvs k b,H a=some (.dT kvs)/\y=.ref b/\H b=some (.tup (k.map kV))/\kvs.length < sizeLine/\H'=upd H a (.dT (putK kvs k v))
theorem DGet.k {H:Hp}{a:Addr}{kvs:List (Key×V)}{k:Key}(e:H a=some (.dK kvs)):DGet H a (kV k) (valV kvs k):=.inl ⟨kvs,k,.inl e,rfl,rfl⟩
theorem DGet.t {H:Hp}{a b:Addr}{kvs:List (List Key×V)}{k:List Key}(e:H a=some (.dT kvs)) (eb:H b=some (.tup (k.map kV))):DGet H a (.ref b) (valV kvs k):=.inr ⟨kvs,k,b,.inl e,rfl,eb,rfl⟩
theorem DPut.k {H:Hp}{a:Addr}{kvs:List (Key×V)}{k:Key}{v:V}(e:H a=some (.dK kvs)) (hl:kvs.length < sizeLine):DPut H a (kV k) v (upd H a (.dK (putK kvs k v))):=.inl ⟨kvs,k,e,rfl,hl,rfl⟩
theorem DPut.t {H:Hp}{a b:Addr}{kvs:List (List Key×V)}{k:List Key}{v:V}(e:H a=some (.dT kvs)) (eb:H b=some (.tup (k.map kV))) (hl:kvs.length < sizeLine):
  DPut H a (.ref b) v (upd H a (.dT (putK kvs k v))):=.inr ⟨kvs,k,b,e,rfl,eb,hl,rfl⟩
section
variable {X:Cx}{pJ:List (Addr×Obj)}{σ:St}{H:Hp}{s:ξ}{a:Addr}{y v:V}{u r:δ}{o:Option V}{A:ϖ}{E:VSP}
theorem Inv.big (I:Inv X pJ σ H s):bV < s.heap.objs.size:=by have h:ϑ < s.heap.objs.size:=(I.mod.glob.keeps I.bk).lt;exact Nat.lt_trans (by decide) h
theorem za7 {Q:VSP}(hu:A.units+1 < ϥ) (I:Inv X pJ σ H s) (g:DGet H a y (some v)) (ry:RelV y u) (h:∀ w' s',Inv X pJ σ H s'->RelV v w'->Q w' s'):
  Δ (Λ X.prog X.w) A (mz (.ref a) u) Q E s:=by
 rcases g with ⟨kvs,k,e,ey,l⟩ | ⟨kvs,k,b,e,ey,eb,l⟩
 ·subst ey;obtain ⟨z,hd,vs,rel,dd⟩:=Xz I.hok e;obtain ⟨w',hw,rw'⟩:=RelO.some_of (v:=v) (o:=iZ vs k) (by rw [l];exact rel.val k);exact wpAny_getItem_of (Ke ry) dd.mapOf hw (h w' _ (I.tok _) rw')
 ·subst ey;cases (show u=Θ b from ry);obtain ⟨z,hd,xs,rel,dd⟩:=Kl I.hok e;obtain ⟨w',hw,rw'⟩:=RelO.some_of (v:=v) (o:=(atKey xs k).map (·.2)) (by rw [l];exact rel.val k);obtain ⟨p,hp,hp2⟩:=Α.mp hw;refine wpAny_getItem_heap (gR hu) (Y5 I.hok eb) dd hp ?_;rw [hp2];exact h w' _ (I.tok _) rw'
theorem d_in {Q:VSP}(hu:A.units+1 < ϥ) (I:Inv X pJ σ H s) (g:DGet H a y o) (ry:RelV y u) (h:∀ s',Inv X pJ σ H s'->Q (.bool o.isSome) s'):
  Δ (Λ X.prog X.w) A (Ϗ .In u (.ref a)) Q E s:=by
 rcases g with ⟨kvs,k,e,ey,l⟩ | ⟨kvs,k,b,e,ey,eb,l⟩
 ·subst ey;obtain ⟨z,hd,vs,rel,dd⟩:=Xz I.hok e;refine wpAny_in_of (Ke ry) hd dd.mapOf ?_;rw [<- (rel.val k).xu,<- l];exact h _ (I.tok _)
 ·subst ey;cases (show u=Θ b from ry);obtain ⟨z,hd,xs,rel,dd⟩:=Kl I.hok e;refine wpAny_in_heap (gR hu) (Y5 I.hok eb) hd dd ?_;have q:=(rel.val k).xu;rw [lM] at q;rw [<- q,<- l];exact h _ (I.tok _)
theorem zfN {Q:VSP}(hu:A.units+1 < ϥ) (I:Inv X pJ σ H s) (g:DGet H a y o) (ry:RelV y u) (h:∀ s',Inv X pJ σ H s'->Q (.bool (!o.isSome)) s'):
  Δ (Λ X.prog X.w) A (Ϗ .NotIn u (.ref a)) Q E s:=by
 rcases g with ⟨kvs,k,e,ey,l⟩ | ⟨kvs,k,b,e,ey,eb,l⟩
 ·subst ey;obtain ⟨z,hd,vs,rel,dd⟩:=Xz I.hok e;refine wpAny_notIn_of (Ke ry) hd dd.mapOf ?_;rw [<- (rel.val k).xu,<- l];exact h _ (I.tok _)
 ·subst ey;cases (show u=Θ b from ry);obtain ⟨z,hd,xs,rel,dd⟩:=Kl I.hok e;refine wpAny_notIn_heap (gR hu) (Y5 I.hok eb) hd dd ?_;have q:=(rel.val k).xu;rw [lM] at q;rw [<- q,<- l];exact h _ (I.tok _)
theorem Z3 {h':Heap}{t':Nat}{ob:HO}(I:Inv X pJ σ H s) (mu:Mut (H a)) (hs:ϭ a s.heap h') (he:∃ q,h'.get? a=some q) (new:zW X.prog X.w (upd H a ob) h' a ob):
  Inv X pJ σ (upd H a ob) { s with heap:=h',toks:=t' }:=
 I.write (x:=a) (e:=a) mu (.inl rfl) (fun b q hb z=>(hs.2 b hb).trans z) he new
theorem zdU {P:Χ}{w:Ϛ}{H':Hp}{h':Heap}{kvs:List (Key×V)}{vs:List (Key×δ)}(z:kvs.length<=sizeLine) (hd:(a==bV)=false) (rel:KV kvs vs) (dd:h'.DictOf (z7 P w) a vs):
  zW P w H' h' a (.dK kvs):=⟨z,hd,vs,rel,dd⟩
theorem za6 {H':Hp}{Q:Unit->ξ->Prop}(hu:A.units+1 < ϥ) (I:Inv X pJ σ H s) (g:DPut H a y v H') (ry:RelV y u) (rv:RelV v r) (h:∀ s',Inv X pJ σ H' s'->Q () s'):
  Δ (Λ X.prog X.w) A (setItem (.ref a) u r) Q E s:=by
 rcases g with ⟨kvs,k,e,ey,l,eH⟩ | ⟨kvs,k,b,e,ey,eb,l,eH⟩
 ·subst ey eH;obtain ⟨z,hd,vs,rel,dd⟩:=ziT I.hok e;have hz:vs.length<=sizeLine:=by rw [<- rel.length];exact z
  have hl:(putK kvs k v).length<=sizeLine:=by have:=wC kvs k v;lia
  refine wpAny_setItem_pairs (hsz:=hz) (Ke ry) dd fun h' dd' hs=>h _ ?_
  have he:∃ q,h'.get? a=some q:=let ⟨q,_,_,hq,_⟩:=dd';⟨q,hq⟩
  exact Z3 I (by rw [e];exact ϴ) hs he (zdU hl hd (rel.put k rv) dd')
 ·subst ey eH;cases (show u=Θ b from ry);obtain ⟨z,hd,xs,rel,dd⟩:=zkV I.hok e;have hz:xs.length<=sizeLine:=by rw [<- n6 rel];exact z
  have hl:(putK kvs k v).length<=sizeLine:=by have:=wC kvs k v;lia
  refine wpAny_setItem_heap (hsz:=hz) (gR hu) (Y5 I.hok eb) dd fun h' dd' hs=>h _ ?_
  obtain ⟨q,es,ep,hq,h2,h3,h4,_,h5⟩:=dd';refine Z3 I (by rw [e];exact ϴ) hs ⟨q,hq⟩ ⟨hl,hd,_,(rel.put k eb rv).keeps fun c ys ec=>?_,q,es,ep,hq,h2,h3,h4,h5⟩;rw [zj (zkl ec e (fun z=>nomatch z))];exact ec
end
section
variable {X:Cx}{pJ:List (Addr×Obj)}{σ:St}{H:Hp}{s:ξ}{a:Addr}{kvs:List (Key×V)}{k:Key}{u:δ}{A:ϖ}{E:VSP}
theorem zkW {Q:VSP}(I:Inv X pJ σ H s) (e:Rd H a (.dK kvs)) (h:∀ t s',Inv X pJ σ H s'->Q (.int kvs.length t) s'):Δ (Λ X.prog X.w) A (call (.builtin "len") [.ref a]) Q E s:=by obtain ⟨z,hd,vs,rel,dd⟩:=Xz I.hok e;refine call_len_dict hd dd (by rw [<- rel.length];rw [ϵ] at z;lia) ?_;rw [<- rel.length];exact h _ _ (I.tok _)
end
theorem Vz {X:Cx}{pJ:List (Addr×Obj)}{σ:St}{H:Hp}{s:ξ}{a:Addr}{y:V}{o:Option V}(I:Inv X pJ σ H s) (g:DGet H a y o):s.TypeIs (.ref a) "dict":=by
 rcases g with ⟨kvs,k,e,_,_⟩ | ⟨kvs,k,b,e,_,_,_⟩
 ·obtain ⟨_,_,vs,_,dd⟩:=Xz I.hok e;exact dd.typeIs
 ·obtain ⟨_,_,xs,_,dd⟩:=Kl I.hok e;exact dd.typeIs
theorem Jm {P:Χ}{w:Ϛ}{H:Hp}(h:Heap) (hb:bV < h.objs.size):zW P w H (h.push { cls:=.type "dict",data:=.dict #[] }) h.objs.size (.dK []):=
 ⟨aW _,beq_eq_false_iff_ne.mpr (dH (ϋ hb)),[],.nil,Heap.DictOf.new h⟩
theorem zcN {P:Χ}{w:Ϛ}{H:Hp}(h:Heap) (hb:bV < h.objs.size):zW P w H (h.push { cls:=.type "dict",data:=.dict #[] }) h.objs.size (.dT []):=
 ⟨aW _,beq_eq_false_iff_ne.mpr (dH (ϋ hb)),[],.nil,_,#[],0,Ζ _ rfl,⟨rfl,rfl,rfl⟩,rfl,rfl,List.nodup_nil⟩
def zgC:TE:=fun _ H Q=>∀ p,H p=none->Q (.ref p) (upd H p (.dK []))
def zgB:TE:=fun _ H Q=>∀ p,H p=none->Q (.ref p) (upd H p (.dT []))
section
variable {X:Cx}{pos:Pos}
theorem zcc:PE X (.Dict [] [] pos) zgC:=fun pJ s σ H Q I h=>
 wpAny_Dict_empty ⟨.ref s.heap.objs.size,_,I.laid (a:=s.heap.objs.size) (o:=.dK []) (t':=s.toks) (fun _ _ q=>θ _ q) (χ _) (Jm s.heap I.big),rfl,h _ (I.hok.fresh (χ _))⟩
theorem zcb:PE X (.Dict [] [] pos) zgB:=fun pJ s σ H Q I h=>
 wpAny_Dict_empty ⟨.ref s.heap.objs.size,_,I.laid (a:=s.heap.objs.size) (o:=.dT []) (t':=s.toks) (fun _ _ q=>θ _ q) (χ _) (zcN s.heap I.big),rfl,h _ (I.hok.fresh (χ _))⟩
end
def V9:List (TE×TE)->St->Hp->(List (V×V)->Hp->Prop)->Prop
 | [],_,H,Q=>Q [] H
 | (tk,tv)::r,σ,H,Q=>tk σ H fun x H1=>tv σ H1 fun y H2=>V9 r σ H2 fun ps H3=>Q ((x,y)::ps) H3
abbrev VV:List (V×V)->List (δ×δ)->Prop:=fH fun p q=>RelV p.1 q.1/\RelV p.2 q.2
def PPs (X:Cx) (pos:Pos) (keys:List (Option Expr)) (values:List Expr) (trs:List (TE×TE)):Prop:=
 ∀ (pJ:List (Addr×Obj)) (s:ξ) (σ:St) (H:Hp) (Q:List (V×V)->Hp->Prop),Inv X pJ σ H s->V9 trs σ H Q ->
  Δ (Λ X.prog X.w) X.A (evalPairs (pairTrees keys values X.env pos)) (fun vs s'=>∃ ps H',Inv X pJ σ H' s'/\VV ps vs/\Q ps H') X.xe s
theorem zeK {X:Cx}{pos:Pos}:PPs X pos [] [] []:=fun pJ s σ H Q I h=>pairTrees_nil_walk ⟨[],H,I,.nil,h⟩
theorem zb6 {X:Cx}{pos:Pos}{k v:Expr}{ks:List (Option Expr)}{vs:List Expr}{tk tv:TE}{trs:List (TE×TE)}(hk:PE X k tk) (hv:PE X v tv) (hr:PPs X pos ks vs trs):
  PPs X pos (some k::ks) (v::vs) ((tk,tv)::trs):=fun pJ s σ H Q I h=>
 pairTrees_cons_walk (thn (hk pJ s σ H _ I h) fun u s1 ⟨x,H1,I1,rx,q1⟩=>thn (hv pJ s1 σ H1 _ I1 q1) fun w2 s2 ⟨y,H2,I2,ry,q2⟩=>
  thn (hr pJ s2 σ H2 _ I2 q2) fun ws s3 ⟨ps,H3,I3,rel,q3⟩=>⟨(x,y)::ps,H3,I3,.cons ⟨rx,ry⟩ rel,q3⟩)
noncomputable def uf (kvs more:List (Key×V)):List (Key×V):=more.foldl (fun acc kv=>putK acc kv.1 kv.2) kvs
theorem KV.merge:∀ {more:List (Key×V)}{rs:List (Key×δ)}{kvs:List (Key×V)}{vs:List (Key×δ)},KV more rs->KV kvs vs->KV (uf kvs more) (merged vs rs):=by
 intro more rs kvs vs r;unfold KV at r
 induction r generalizing kvs vs with
 | nil=>intro q;exact q
 | @cons p q ps qs h t ih=>
  intro r0;have e:KV (putK kvs p.1 p.2) (stored vs q.1 q.2):=by have:=r0.put p.1 h.2;rw [<- h.1];exact this
  exact ih e
theorem vq:∀ (more kvs:List (Key×V)),(uf kvs more).length<=kvs.length+more.length
 | [],kvs=>by show kvs.length<=kvs.length+0;lia
 | p::r,kvs=>by
  have h1:=vq r (putK kvs p.1 p.2);have h2:=wC kvs p.1 p.2;show (uf (putK kvs p.1 p.2) r).length<=_
  rw [η];lia
theorem qO {P:Χ}{w:Ϛ}:∀ {kvs:List (Key×V)}{ws:List (δ×δ)},VV (kvs.map fun kv=>(kV kv.1,kv.2)) ws->∃ rs,Carries (z7 P w) ws rs/\KV kvs rs
 | [],_,r=>by rw [bL] at r;cases r;exact ⟨[],ϴ,.nil⟩
 | p::kvs,_,r=>by
  rw [Κ] at r;cases r with
  | @cons a b as bs h t=>
   obtain ⟨rs,c,q⟩:=qO (P:=P) (w:=w) t;obtain ⟨b1,b2⟩:=b;exact ⟨(p.1,b2)::rs,⟨Ke h.1,rfl,c⟩,.cons ⟨rfl,h.2⟩ q⟩
def zjm (trs:List (TE×TE)):TE:=fun σ H Q=>∀ p,H p=none->V9 trs σ (upd H p (.dK [])) fun ps H2=>H2 p=some (.dK [])/\∃ kvs:List (Key×V),ps=kvs.map (fun kv=>(kV kv.1,kv.2))/\kvs.length<=15/\Q (.ref p) (upd H2 p (.dK (uf [] kvs)))
theorem zeR {X:Cx}{pos:Pos}{keys:List (Option Expr)}{values:List Expr}{trs:List (TE×TE)}(h:PPs X pos keys values trs) (hall:keys.all (·.isSome)=true) (hl:keys.length=values.length) (h0:keys≠[])
  (h15:keys.length<=15):PE X (.Dict keys values pos) (zjm trs):=by
 intro pJ s σ H Q I q;have hn:=I.hok.fresh (χ s.heap.objs.size);have I1:=I.laid (a:=s.heap.objs.size) (o:=.dK []) (h':=s.heap.push { cls:=.type "dict",data:=.dict #[] }) (t':=s.toks) (fun _ _ q=>θ _ q) (χ _) (Jm s.heap I.big);refine wpAny_Dict_walk (knd:=z7 X.prog X.w) hall hl h0 h15 (thn (h pJ _ σ _ _ I1 (q _ hn)) fun ws s2 ⟨ps,H2,I2,rel,e,kvs,ep,lk,q2⟩=>?_);subst ep;obtain ⟨rs,c,rk⟩:=qO (P:=X.prog) (w:=X.w) rel;obtain ⟨z,hd,vs0,r0,dd⟩:=ziT I2.hok e;cases r0;refine ⟨rs,c,dd,fun h' dd' hs=>⟨.ref s.heap.objs.size,_,?_,rfl,q2⟩⟩;have hz:(uf [] kvs).length<=sizeLine:=by have h1:=vq kvs [];rw [ς] at h1;rw [ϵ];lia
 have he:∃ q,h'.get? s.heap.objs.size=some q:=let ⟨q,_,_,hq,_⟩:=dd';⟨q,hq⟩
 exact Z3 I2 (by rw [e];exact ϴ) hs he (zdU hz hd (rk.merge .nil) dd')
def IsD (H:Hp) (a:Addr):Prop:=(∃ kvs,Rd H a (.dK kvs))\/∃ kvs,Rd H a (.dT kvs)
section
variable {X:Cx}
def zj4 (K:W.Frag):V->List V->Hp->VK->Prop:=fun x vs H Q=>∃ l b xs zs,x=.ref l/\vs=[.ref b]/\H l=some (.lst xs)/\(H b=some (.lst zs)\/SqT K H b zs)/\xs.length+zs.length<=sizeLine/\Q .non (upd H l (.lst (xs++zs)))
theorem zfg:MtM X "list.extend" (zj4 X.K):=by
 intro pJ s σ H x vs v us Q I rx rv h;obtain ⟨l,b,xs,zs,e1,e2,hH,hB,hz,q⟩:=h;rcases hB with hB | hB
 ·exact zak pJ s σ H x vs v us Q I rx rv ⟨l,b,xs,zs,e1,e2,hH,hB,hz,q⟩
 ·subst e1 e2;cases rx;obtain ⟨u,rfl,ru⟩:=rv.one;cases ru;obtain ⟨z,its,n,r,hl,e⟩:=I.lstM hH;obtain ⟨its2,r2,⟨o,ho,hc,n2,hd⟩,z2⟩:=I.tuple hB;have l1:=r.length;have l2:=r2.length;have hsz:its.toArray.size+its2.toArray.size<=sizeLine:=by rw [ω,ω];omega
  refine aJ F.slot_list_extend ⟨_,e,rfl⟩ F.entry_list_extend ?_ (F.args_list_extend_2 _ _);show Δ _ _ (cJ (.ref l) (.ref b) .none) _ _ _
  unfold cJ;refine γ (bI (T:="tuple") ⟨o,ho,hc⟩ ?_);rw [if_pos (by simp)];refine γ (nQ ho hd (γ (nQ e rfl ?_)));rw [if_neg (by rw [Uw hsz,cG];exact Ω)];refine γ (iD e rfl (ι ⟨_,rfl,?_⟩) (by rw [ω];omega) (by rw [Array.size_append];omega));refine ⟨.non,_,I.lset (f:=fun x=>x++its2.toArray) (its':=its++its2) (t':=s.toks) hH e (by simp) (r.append r2) ?_,rfl,q⟩;rw [π];omega
end
theorem PE.imp {X:Cx}{e:Expr}{t t':TE}(h:PE X e t) (i:∀ σ H Q,t' σ H Q->t σ H Q):PE X e t':=fun pJ s σ H Q I q=>h pJ s σ H Q I (i σ H Q q)
theorem PT.imp {X:Cx}{e:Expr}{t t':TT}(h:PT X e t) (i:∀ σ H Q,t' σ H Q->t σ H Q):PT X e t':=fun pJ s σ H Q I q=>h pJ s σ H Q I (i σ H Q q)
theorem PA.imp {X:Cx}{e:List Expr}{t t':TA}(h:PA X e t) (i:∀ σ H Q,t' σ H Q->t σ H Q):PA X e t':=fun pos pJ s σ H Q I q=>h pos pJ s σ H Q I (i σ H Q q)
theorem PS.imp {X:Cx}{e:Stmt}{t t':TS}(h:PS X e t) (i:∀ D σ H,t' D σ H->t D σ H):PS X e t':=fun pJ s σ H D I q=>h pJ s σ H D I (i D σ H q)
theorem PSs.imp {X:Cx}{e:List Stmt}{t t':TS}(h:PSs X e t) (i:∀ D σ H,t' D σ H->t D σ H):PSs X e t':=fun pJ s σ H D I q=>h pJ s σ H D I (i D σ H q)
section
variable {fs ex:List Addr}{H H1:Hp}{h h1 h':Heap}{C:Addr}
theorem Un.sameBut (u:Un fs ex H H1 h h1) (sb:ϭ C h1 h') (hC:h.objs.size<=C):Un fs ex H H1 h h':=by
 have ne:∀ b o,h.get? b=some o->b≠C:=fun b o e=>ϋ (ϔ (Ε e) hC)
 refine ⟨fun b o e n hb hx=>(sb.2 b (ne b o e)).trans (u.keep b o e n hb hx),fun b o e n hb hx=>?_,u.free,fun b o e hx=>?_,u.tups,u.frzs,u.tbls⟩
 ·obtain ⟨sl,q⟩:=u.slot b o e n hb hx;exact ⟨sl,(sb.2 b (ne b o e)).trans q⟩
 ·obtain ⟨o',q⟩:=u.there b o e hx;exact ⟨o',(sb.2 b (ne b o e)).trans q⟩
theorem HOk.sameBut {P:Χ}{w:Ϛ}(x:HOk P w H h) (sb:ϭ C h h') (hC:H C=none):HOk P w H h':=fun b o e=>by
 refine (x b o e).stay (fun c v hc q=>(sb.2 c ?_).trans q) (fun _ q=>q) fun _ _ q=>q
 rintro rfl;rcases hc with rfl | hc
 ·rw [hC] at e;cases e
 ·rw [hC] at hc;cases hc
end
noncomputable def rows (σ:St) (js:List Nat):St:=js.map fun j=>σ.getD j none
section
variable {X:Cx}
theorem VG:z9 X (.builtin "isinstance") (fun xs H Q=>∃ x T t b,xs=[x,.ty T]/\TyOf X.K H x t/\W.kitOne X.K t (.type T)=some b/\Q (.bl b) H):=by intro pJ s σ H vs us Q I rv h;obtain ⟨x,T,t,b,rfl,ty,e,q⟩:=h;obtain ⟨u,v,rfl,ru,rt⟩:=rv.two;cases (show v=bJ T from rt);exact zaF I ru ty e fun tk=>⟨.bl b,H,I.tok tk,rfl,q⟩
theorem zhM:OpR X (Ϗ .Is) (fun x y H Q=>∃ a b,x=.bl a/\y=.bl b/\Q (.bl (a==b)) H):=by intro pJ s σ H x y v u Q I rx ry h;obtain ⟨a,b,rfl,rfl,q⟩:=h;cases rx;cases ry;exact is_bool (Xv I q rfl)
theorem zeY:OpR X (Ϗ .IsNot) (fun x y H Q=>∃ a b,x=.bl a/\y=.bl b/\Q (.bl (a != b)) H):=by intro pJ s σ H x y v u Q I rx ry h;obtain ⟨a,b,rfl,rfl,q⟩:=h;cases rx;cases ry;exact isnot_bool (Xv I q rfl)
def zk4 (_ j:Int):Prop:=0 < j/\j < 2 ^ 64
theorem zch:OpR X (bW .FloorDiv) (rI zk4 fun i j=>.int (i / j)):=opI fun i j _ _ _ _ _ hc q=>by
 have e:i.fdiv j=i / j:=Int.fdiv_eq_ediv_of_nonneg _ (Int.le_of_lt hc.1);refine floordiv_int (by have:=hc.1;lia) (by rw [e];exact q) (.inl (PyProof.noPylong_of_log2 ?_));have h1:j.natAbs < 2 ^ 64:=by have:=hc.2;have:=hc.1;lia
 by_cases h0:j.natAbs=0
 ·rw [h0];decide
 ·have:=(Nat.log2_lt h0).mpr h1;lia
theorem zgl:∀ {bs:List Bool}{us:List δ},Vals (bs.map V.bl) us->us=bs.map Ϯ
 | [],_,.nil=>rfl
 | b::bs,_,.cons r t=>by cases (show _=Ϯ b from r);rw [zgl t];rfl
theorem JQ (bs:List Bool):((ϝ bs.length).all fun i=>(bs[i]?).getD true)=bs.all id:=by
 rw [nD,ϒ,ϒ];constructor
 ·intro h b hb;obtain ⟨i,hi,rfl⟩:=fU hb;have:=h i (aY.mpr hi);simpa [ψ hi] using this
 ·intro h i hi;have hi':=aY.mp hi;have:=h _ (cD hi');simpa [ψ hi'] using this
theorem zcV (hc:X.calm=true):z9 X (.builtin "all") (fun xs H Q=>∃ (p:Addr) (bs:List Bool),xs=[.ref p]/\SqL X.K H p (bs.map V.bl)/\Q (.bl (bs.all id)) H):=by
 intro pJ s σ H vs us Q I rv h;obtain ⟨p,bs,rfl,hq,q⟩:=h;obtain ⟨u,rfl,ru⟩:=rv.one;cases (show u=Θ p from ru);obtain ⟨its,rv,hp,hz⟩:=I.list hq;obtain rfl:=zgl rv;have hl:=hp.isList;have hlt:p < s.heap.objs.size:=by obtain ⟨_,e,_⟩:=hl;exact Ε e
 have hh:X.A.handled=none:=I.ok.hd hc;refine call_all_walk (nJ hl ?_)
 refine ⟨s.heap.objs.size,[s.heap.objs.size,p],[s.heap.objs.size],(bs.map Ϯ).toArray.size,_,_,fun i=>(bs[i]?).getD true,rfl,Walks.list (A:=X.A.in1) hh _ p (ϋ hlt) (bs.map Ϯ).toArray,
  ⟨⟨_,Ζ _ rfl,rfl,rfl⟩,hl.push _⟩,fun i v s' Q' E' hP hQ=>?_,fun h' tk hk=>?_⟩
 ·have hP':(bs.map Ϯ)[i]?=some v:=by simpa using hP
  rw [Ρ] at hP';cases e:bs[i]? with
  | none=>rw [e] at hP';cases hP'
  | some b=>
   rw [e] at hP';cases hP';simp only [e,Option.getD_some] at hQ;exact aO hQ
 ·have e:((ϝ (bs.map Ϯ).toArray.size).all fun i=>(bs[i]?).getD true)=bs.all id:=by rw [ω,ζ];exact JQ bs
  rw [e];exact ⟨.bl _,H,I.kept (LSm.kept_iter hk),rfl,q⟩
theorem Q4 {CX:CXT}{k:Nat}{f:Addr}{fd:bT}{ps ks:List Str}{sp:Sp}{E:XK}{x:Str}{p pos:Pos}{kws:List bD}{tk:TA}{g:List δ->List δ->List δ}{gV:List V->List V->List V}
  (F:FnOk X.prog X.w X.K X.mg X.base CX k f fd ps sp) (hr:Room k X.A) (hg:Gl X x) (hm:X.mg x=some (.ref f)) (hk:W.keepIn X.K (.ref f)=true) (hb:zbx X.K fd ps ks g gV) (hx:kj CX X E)
  (hkw:PK X kws tk) (hall:(bY pos (aG kws X.env)).all (·.1.isSome)=true:=by rfl) (hks:(bY pos (aG kws X.env)).filterMap (·.1)=ks:=by rfl)
  (hdb:(x==("__debug__":Str))=false:=by decide) (hpl:((dR pos (ϟ [] X.env)).any (·.1)||(bY pos (aG kws X.env)).any (·.1.isNone))=false:=by rfl):
  PE X (.Call (.Name x p) [] kws pos) (zgE sp gV E tNil tk):=by intro pJ s σ H Q I h;refine eV (jy I hg hm ?_ hdb);refine W.callWith_KW0 (h₀:=X.base) I.ok.mod.kin hk hall (thn (hkw pos pJ s σ H _ I h) fun ws s2 ⟨zs,H2,I2,rz,q2⟩=>⟨I2.kIn,?_⟩) hpl;rw [hks];exact zer (us:=[]) (vs:=[]) F hr hb hx I2 .nil rz q2
end
end L2
namespace HT
open PySem PyProof.Rows
open PySem.SeqAt
open PySem.AutoSeq1 (wpAny_loadPart')
open PySem.MeetsSeq PySem.MeetsSeq2 PySem.MeetsSeq3
section
variable {prog:Χ}{w:Ϛ}{A:ϖ}{E:δ->ξ->Prop}{s:ξ}
theorem zcU {t b:Addr}{ws:List δ}{Q:δ->ξ->Prop}(ht:lD s.heap t ([]:List δ).toArray) (hb:lD s.heap b ws.toArray)
  (h:Q (.ref b) s):Δ (Λ prog w) A (bW .Add (.ref t) (.ref b)) Q E s:=by
 obtain ⟨⟨cls,dd,data,sl⟩,ho,hc,n,hd⟩:=id ht;obtain ⟨⟨cls2,dd2,data2,sl2⟩,ho2,hc2,n2,hd2⟩:=id hb;simp only at hc hd hc2 hd2;subst hc hd hc2 hd2;exact rM ⟨_,ho,rfl⟩ ⟨_,ho2,rfl⟩ oH rA gU gF (gw _ _)
   (tuple_addW0 t b ([]:List δ).toArray ws.toArray n n2 dd dd2 sl sl2 (by simp)) ⟨ho,ho2,h⟩
theorem wD {t sl:Addr}{items:Array δ}{vl vu:δ}{lo hi:Option Int}{Q:δ->ξ->Prop}(ht:lD s.heap t items) (hs:s.heap.IsSliceOf sl vl vu .none) (pl:lB vl lo) (pu:lB vu hi)
  (hw:sIx items.size 0 lo=0/\sIx items.size items.size hi=items.size) (h:Q (.ref t) s):Δ (Λ prog w) A (mz (.ref t) (.ref sl)) Q E s:=by
 obtain ⟨os,hos,hcs,hds⟩:=id hs;have hTs:s.TypeIs (.ref sl) "slice":=⟨os,hos,hcs⟩
 unfold mz
 try with_reducible refine ao ?_
 first | refine γ (ι ?_) | skip
 refine γ (wpAny_sequenceKey ht.typeIs (by decide) ?_)
 refine γ (cN (name:=eX "__getitem__") ht.typeIs ϸ
  (aJ ϸ ht.typeIs entry_tuple_getitem ?_ (args_tuple_getitem _ _)))
 show Δ _ _ (lJ (.ref t) >>= _) _ _ s
 refine γ (tupleItemsOf_ ht ?_);refine γ (bI hTs ?_);rw [if_pos (by decide)];refine γ (yQ hs pl pu ?_);have hyes:(((sIx items.size 0 lo:Nat):Int)==0&&(1:Int)==1&&(sIx items.size items.size hi - sIx items.size 0 lo)==items.size)=true:=by rw [hw.1,hw.2];simp
 show Δ _ _ (if (((sIx items.size 0 lo:Nat):Int)==0&&(1:Int)==1&&(sIx items.size items.size hi - sIx items.size 0 lo)==items.size)=true then _ else _) _ _ s
 rw [if_pos hyes];unfold Τ.Tuple.tupleIsExact
 first
  | (refine γ (γ (bI ht.typeIs (ι ?_)));rw [if_pos (by decide)];exact γ (gP (ι ⟨_,rfl,ι h⟩)))
  | (refine γ (γ (bI ht.typeIs (ι ?_)));rw [if_pos (by decide)];exact γ (gP (γ (ι (ι ⟨_,rfl,ι h⟩)))))
  | (refine γ (γ (γ (bI ht.typeIs (ι ?_))));rw [if_pos (by decide)];exact γ (gP (ι (ι ⟨_,rfl,ι h⟩))))
  | (refine γ (γ (bI ht.typeIs (ι ?_)));rw [if_pos (by decide)];trace_state;done)
end
end HT
namespace L2
open PySem PySem.Spec PyProof.Rows
section
variable {X:Cx}
def zhg (K:W.Frag):R2:=fun x y H Q=>∃ a b ys,x=.ref a/\y=.ref b/\SqT K H a []/\SqT K H b ys/\Q (.ref b) H
theorem zci:OpR X (bW .Add) (zhg X.K):=by intro pJ s σ H x y v u Q I rx ry h;obtain ⟨a,b,ys,rfl,rfl,ha,hb,q⟩:=h;cases rx;cases ry;obtain ⟨its,r1,p1,_⟩:=I.tuple ha;obtain ⟨its2,r2,p2,_⟩:=I.tuple hb;cases r1;exact HT.zcU p1 p2 ⟨.ref b,H,I,rfl,q⟩
def rSlW (K:W.Frag):V->Option Int->Option Int->Hp->VK->Prop:=fun x lo hi H Q=>∃ a xs,x=.ref a/\SqT K H a xs/\(HT.sIx xs.length 0 lo=0/\HT.sIx xs.length xs.length hi=xs.length)/\Q (.ref a) H
theorem zeb:SlR X (rSlW X.K):=by
 intro pJ s σ H x v vl vu lo hi sl Q I rx hs pl pu h;obtain ⟨a,xs,rfl,hx,hw,q⟩:=h;cases rx;obtain ⟨its,r,ht,hz⟩:=I.tuple hx;have hlen:its.toArray.size=xs.length:=by rw [ω];exact r.length.symm
 refine ⟨"tuple",_,ϸ.lookup,ht.typeIs,?_⟩;exact HT.wD ht hs pl pu (by rw [hlen];exact hw) ⟨.ref a,H,I,rfl,q⟩
end
end L2
namespace EV
open PySem PySem.Spec PyProof.Rows L2
noncomputable abbrev Store:=List D
structure Gm where
 K:W.Frag
 fa:Nat->Option Addr
 ca:Nat->Option Addr
structure G where
 R:Hp
 α:List Addr
def KTup (K:W.Frag) (a:Addr) (xs:List V):Prop:=∃ (o:Obj) (its:Array δ) (n:Nat),K.lookup a=some o/\o.cls=.type "tuple"/\o.data=.seq its n/\its.size<=sizeLine/\Vals xs its.toList
def KDic (K:W.Frag) (a:Addr) (ps:List (Str×Int)):Prop:=(∃ o,K.lookup a=some o/\o.cls=.type "dict"/\o.dict=none)/\∀ h:Heap,K.In h->KTD.TextTab h a (ps.map fun p=>(p.1,.flat (.int p.2)))
mutual
def Has (Γ:Gm) (g:G):D->V->Prop
 | .non,v=>v=.non
 | .bl b,v=>v=.bl b
 | .int i,v=>v=.int i
 | .str x,v=>v=.str x
 | .tup ds,v=>∃ a vs,v=.ref a/\g.R a=some (.tup vs)/\Hass Γ g ds vs
 | .lst ds,v=>∃ a vs,v=.ref a/\g.R a=some (.lst vs)/\Hass Γ g ds vs
 | .dK ks ds,v=>∃ a vs,v=.ref a/\g.R a=some (.dK (ks.zip vs))/\ks.length=ds.length/\Hass Γ g ds vs
 | .dT ks ds,v=>∃ a vs,v=.ref a/\g.R a=some (.dT (ks.zip vs))/\ks.length=ds.length/\Hass Γ g ds vs
 | .ref k,v=>∃ a,g.α[k]?=some a/\v=.ref a
 | .fn f,v=>∃ a,Γ.fa f=some a/\v=.ref a
 | .scr ns,v=>∃ a,v=.ref a/\SqL Γ.K g.R a (ns.map V.int)
 | .ktp ds,v=>∃ a vs,v=.ref a/\KTup Γ.K a vs/\Hass Γ g ds vs
 | .kdc ps,v=>∃ a,v=.ref a/\KDic Γ.K a ps
 | .dF ks ds,v=>∃ a vs o,v=.ref a/\g.R a=some (.frz o (.dT (ks.zip vs)))/\ks.length=ds.length/\Hass Γ g ds vs
 | .ins c ns ds,v=>∃ a C dx vs,v=.ref a/\caOf Γ.K c=some C/\g.R a=some (.ins C dx (ns.zip vs))/\ns.length=ds.length/\Hass Γ g ds vs
def Hass (Γ:Gm) (g:G):List D->List V->Prop
 | [],vs=>vs=[]
 | d::ds,vs=>∃ v r,vs=v::r/\Has Γ g d v/\Hass Γ g ds r
end
structure Le (g g':G):Prop where
 rr:Same g.R g'.R
 aa:∀ (k:Nat) (a:Addr),g.α[k]?=some a->g'.α[k]?=some a
theorem Le.refl (g:G):Le g g:=⟨Same.refl _,fun _ _ h=>h⟩
theorem Le.trans {g g1 g2:G}(a:Le g g1) (b:Le g1 g2):Le g g2:=⟨a.rr.trans b.rr,fun k c h=>b.aa k c (a.aa k c h)⟩
theorem Same.rd {H H':Hp}{a:Addr}{u:HO}(e:Same H H') (h:Rd H a u):Rd H' a u:=by
 rcases h with h | ⟨o,h⟩
 ·exact .inl (e _ _ h)
 ·exact .inr ⟨o,e _ _ h⟩
mutual
theorem Je {Γ:Gm}{g g':G}(e:Le g g'):∀ (d:D) (v:V),Has Γ g d v->Has Γ g' d v
 | .non,_,h=>h
 | .bl _,_,h=>h
 | .int _,_,h=>h
 | .str _,_,h=>h
 | .tup ds,_,⟨a,vs,h1,h2,h3⟩=>⟨a,vs,h1,e.rr _ _ h2,yd e ds vs h3⟩
 | .lst ds,_,⟨a,vs,h1,h2,h3⟩=>⟨a,vs,h1,e.rr _ _ h2,yd e ds vs h3⟩
 | .dK ks ds,_,⟨a,vs,h1,h2,h4,h3⟩=>⟨a,vs,h1,e.rr _ _ h2,h4,yd e ds vs h3⟩
 | .dT ks ds,_,⟨a,vs,h1,h2,h4,h3⟩=>⟨a,vs,h1,e.rr _ _ h2,h4,yd e ds vs h3⟩
 | .ref k,_,⟨a,h1,h2⟩=>⟨a,e.aa _ _ h1,h2⟩
 | .fn f,_,h=>h
 | .scr _,_,⟨a,h1,h2⟩=>⟨a,h1,e.rr.seq h2⟩
 | .ktp ds,_,⟨a,vs,h1,h2,h3⟩=>⟨a,vs,h1,h2,yd e ds vs h3⟩
 | .kdc _,_,h=>h
 | .dF ks ds,_,⟨a,vs,o,h1,h2,h4,h3⟩=>⟨a,vs,o,h1,e.rr _ _ h2,h4,yd e ds vs h3⟩
 | .ins c ns ds,_,⟨a,C,dx,vs,h1,h0,h2,h4,h3⟩=>⟨a,C,dx,vs,h1,h0,e.rr _ _ h2,h4,yd e ds vs h3⟩
theorem yd {Γ:Gm}{g g':G}(e:Le g g'):∀ (ds:List D) (vs:List V),Hass Γ g ds vs->Hass Γ g' ds vs
 | [],_,h=>h
 | d::ds,_,⟨v,r,h1,h2,h3⟩=>⟨v,r,h1,Je e d v h2,yd e ds r h3⟩
end
theorem Has.mono {Γ:Gm}{g g':G}{d:D}{v:V}(h:Has Γ g d v) (e:Le g g'):Has Γ g' d v:=Je e d v h
theorem Hass.mono {Γ:Gm}{g g':G}{d:List D}{v:List V}(h:Hass Γ g d v) (e:Le g g'):Hass Γ g' d v:=yd e d v h
section
variable {Γ:Gm}{g:G}
theorem Hass.len:∀ {ds:List D}{vs:List V},Hass Γ g ds vs->vs.length=ds.length
 | [],_,h=>by cases (show _=[] from h);rfl
 | d::ds,_,⟨v,r,h1,_,h3⟩=>by subst h1;simp [Hass.len h3]
theorem Hass.get:∀ {ds:List D}{vs:List V}{i:Nat}{d:D},Hass Γ g ds vs->ds[i]?=some d->∃ v,vs[i]?=some v/\Has Γ g d v
 | [],_,_,_,_,e=>by simp at e
 | d::ds,_,0,_,⟨v,r,h1,h2,_⟩,e=>by subst h1;simp at e;subst e;exact ⟨v,rfl,h2⟩
 | d::ds,_,i+1,_,⟨v,r,h1,_,h3⟩,e=>by subst h1;obtain ⟨u,q,hu⟩:=Hass.get (i:=i) h3 (by simpa using e);exact ⟨u,by simpa using q,hu⟩
theorem Hass.of:∀ {ds:List D}{vs:List V},vs.length=ds.length->(∀ (i:Nat) (d:D) (v:V),ds[i]?=some d->vs[i]?=some v->Has Γ g d v)->Hass Γ g ds vs
 | [],[],_,_=>rfl
 | d::ds,v::vs,hl,h=>⟨v,vs,rfl,h 0 d v rfl rfl,Hass.of (by simpa using hl) fun i d v e1 e2=>h (i+1) d v (by simpa using e1) (by simpa using e2)⟩
 | [],_::_,hl,_=>by simp at hl
 | _::_,[],hl,_=>by simp at hl
theorem Hass.one {d:D}{vs:List V}(h:Hass Γ g [d] vs):∃ v,vs=[v]/\Has Γ g d v:=by obtain ⟨v,r,e,hd,hr⟩:=h;cases (show r=[] from hr);exact ⟨v,e,hd⟩
theorem Hass.two {d e:D}{vs:List V}(h:Hass Γ g [d,e] vs):∃ v u,vs=[v,u]/\Has Γ g d v/\Has Γ g e u:=by obtain ⟨v,r,e1,hd,hr⟩:=h;obtain ⟨u,e2,he⟩:=Hass.one hr;subst e2;exact ⟨v,u,e1,hd,he⟩
theorem Hass.mk1 {d:D}{v:V}(h:Has Γ g d v):Hass Γ g [d] [v]:=⟨v,[],rfl,h,rfl⟩
theorem Hass.app:∀ {ds es:List D}{vs us:List V},Hass Γ g ds vs->Hass Γ g es us->Hass Γ g (ds++es) (vs++us)
 | [],_,_,_,h,k=>by cases (show _=[] from h);exact k
 | d::ds,_,_,_,⟨v,r,h1,h2,h3⟩,k=>by subst h1;exact ⟨v,_,rfl,h2,Hass.app h3 k⟩
theorem Hass.drop {ds:List D}{vs:List V}(n:Nat) (h:Hass Γ g ds vs):Hass Γ g (ds.drop n) (vs.drop n):=by
 refine Hass.of (by rw [dC,dC,h.len]) fun i d v e1 e2=>?_
 rw [List.getElem?_drop] at e1 e2;obtain ⟨u,q,hu⟩:=h.get e1;rw [q] at e2;cases e2;exact hu
set_option tactic.hygienic true in
theorem Hass.take {ds:List D}{vs:List V}(n:Nat) (h:Hass Γ g ds vs):Hass Γ g (ds.take n) (vs.take n):=by
 refine Hass.of (by rw [cC,cC,h.len]) fun i d v e1 e2=>?_
 rw [List.getElem?_take] at e1 e2;split at e1
 ·rename_i hi
  rw [if_pos hi] at e2;obtain ⟨u,q,hu⟩:=h.get e1;rw [q] at e2;cases e2;exact hu
 ·cases e1
set_option tactic.hygienic true in
theorem Hass.set {ds:List D}{vs:List V}{d:D}{v:V}(n:Nat) (h:Hass Γ g ds vs) (hd:Has Γ g d v):Hass Γ g (ds.set n d) (vs.set n v):=by
 refine Hass.of (by rw [aQ,aQ,h.len]) fun i d' v' e1 e2=>?_
 rw [List.getElem?_set] at e1 e2;split at e1
 ·rename_i hi
  rw [if_pos hi] at e2;split at e1
  ·split at e2
   ·cases e1;cases e2;exact hd
   ·cases e2
  ·cases e1
 ·rename_i hi
  rw [if_neg hi] at e2;obtain ⟨u,q,hu⟩:=h.get e1;rw [q] at e2;cases e2;exact hu
theorem Hass.ints:∀ {ns:List Int},Hass Γ g (ns.map D.int) (ns.map V.int)
 | []=>rfl
 | _::_=>⟨_,_,rfl,rfl,Hass.ints⟩
end
def MutF:HO->Prop
 | .frz _ _=>True
 | o=>Mut (some o)
def zU (Γ:Gm) (H:Hp) (g:G) (a:Addr):D->Prop
 | .lst ds=>∃ vs,H a=some (.lst vs)/\Hass Γ g ds vs
 | .dK ks ds=>∃ vs,H a=some (.dK (ks.zip vs))/\ks.length=ds.length/\Hass Γ g ds vs
 | .dT ks ds=>∃ vs,H a=some (.dT (ks.zip vs))/\ks.length=ds.length/\Hass Γ g ds vs
 | .ref _=>∃ o,g.R a=some o/\H a=some o/\MutF o
 | .ins c ns ds=>∃ C dx vs,caOf Γ.K c=some C/\H a=some (.ins C dx (ns.zip vs))/\ns.length=ds.length/\Hass Γ g ds vs
 | _=>False
noncomputable def gone:D->Bool
 | .ref _=>true
 | _=>false
theorem zU.mono {Γ:Gm}{H H':Hp}{g g':G}{a:Addr}{c:D}(h:zU Γ H g a c) (e:Le g g') (hh:∀ o,H a=some o->H' a=some o):zU Γ H' g' a c:=by
 cases c with
 | lst ds=>obtain ⟨vs,h1,h2⟩:=h;exact ⟨vs,hh _ h1,h2.mono e⟩
 | dK ks ds=>obtain ⟨vs,h1,h3,h2⟩:=h;exact ⟨vs,hh _ h1,h3,h2.mono e⟩
 | dT ks ds=>obtain ⟨vs,h1,h3,h2⟩:=h;exact ⟨vs,hh _ h1,h3,h2.mono e⟩
 | non=>exact h
 | bl=>exact h
 | int=>exact h
 | str=>exact h
 | tup=>exact h
 | ref=>obtain ⟨o,h1,h2,h3⟩:=h;exact ⟨o,e.rr _ _ h1,hh _ h2,h3⟩
 | fn=>exact h
 | scr=>exact h
 | ktp=>exact h
 | kdc=>exact h
 | dF=>exact h
 | ins=>obtain ⟨C,dx,vs,h0,h1,h3,h2⟩:=h;exact ⟨C,dx,vs,h0,hh _ h1,h3,h2.mono e⟩
theorem zU.kO {Γ:Gm}{H:Hp}{g:G}{a:Addr}{c:D}(h:zU Γ H g a c):∃ o,H a=some o/\MutF o:=by
 cases c with
 | lst ds=>obtain ⟨vs,h1,h2⟩:=h;exact ⟨_,h1,ϴ⟩
 | dK ks ds=>obtain ⟨vs,h1,h3,h2⟩:=h;exact ⟨_,h1,ϴ⟩
 | dT ks ds=>obtain ⟨vs,h1,h3,h2⟩:=h;exact ⟨_,h1,ϴ⟩
 | non=>exact h.elim
 | bl=>exact h.elim
 | int=>exact h.elim
 | str=>exact h.elim
 | tup=>exact h.elim
 | ref=>obtain ⟨o,h1,h2,h3⟩:=h;exact ⟨o,h2,h3⟩
 | fn=>exact h.elim
 | scr=>exact h.elim
 | ktp=>exact h.elim
 | kdc=>exact h.elim
 | dF=>exact h.elim
 | ins=>obtain ⟨C,dx,vs,h0,h1,h3,h2⟩:=h;exact ⟨_,h1,ϴ⟩
structure WOk (Γ:Gm) (H:Hp) (g:G) (S:Store):Prop where
 rh:Same g.R H
 len:g.α.length=S.length
 nd:g.α.Nodup
 off:∀ (k:Nat) (c:D) (a:Addr),S[k]?=some c->g.α[k]?=some a->gone c=false->g.R a=none
 cell:∀ (k:Nat) (c:D) (a:Addr),S[k]?=some c->g.α[k]?=some a->zU Γ H g a c
structure Step (H:Hp) (g:G) (H':Hp) (g':G):Prop where
 le:Le g g'
 fr:∀ a o,H a=some o->a ∉ g.α->H' a=some o
 ex:∀ a o,H a=some o->∃ o',H' a=some o'
 na:∀ a∈g'.α,a∈g.α\/H a=none
 nr:∀ a,g'.R a≠none->g.R a≠none\/H a=none\/a∈g.α\/∃ xs,H a=some (.tup xs)
theorem Step.refl (H:Hp) (g:G):Step H g H g:=⟨Le.refl g,fun _ _ h _=>h,fun _ o h=>⟨o,h⟩,fun _ h=>.inl h,fun _ h=>.inl h⟩
theorem Step.Ux {H H':Hp}{g g':G}(s:Step H g H' g') {a:Addr}(h:H' a=none):H a=none:=by
 cases q:H a with
 | none=>rfl
 | some o=>
  obtain ⟨o',e⟩:=s.ex a o q;rw [e] at h;cases h
theorem Step.trans {H H1 H2:Hp}{g g1 g2:G}(a:Step H g H1 g1) (b:Step H1 g1 H2 g2):Step H g H2 g2 where
 le:=a.le.trans b.le
 fr:=fun x o h n=>b.fr x o (a.fr x o h n) fun m=>by
  rcases a.na x m with q | q
  ·exact n q
  ·rw [h] at q;cases q
 ex:=fun x o h=>let ⟨o1,h1⟩:=a.ex x o h;b.ex x o1 h1
 na:=fun x m=>by
  rcases b.na x m with q | q
  ·exact a.na x q
  ·exact .inr (a.Ux q)
 nr:=fun x m=>by
  rcases b.nr x m with q | q | q | ⟨xs,q⟩
  ·exact a.nr x q
  ·exact .inr (.inl (a.Ux q))
  ·rcases a.na x q with q | q
   ·exact .inr (.inr (.inl q))
   ·exact .inr (.inl q)
  ·by_cases hx:x∈g.α
   ·exact .inr (.inr (.inl hx))
   ·cases e:H x with
    | none=>exact .inr (.inl rfl)
    | some o=>
     have:=a.fr x o e hx;rw [q] at this;cases this;exact .inr (.inr (.inr ⟨xs,rfl⟩))
theorem Step.of_same {H H':Hp}{g g':G}(s:Same H H') (le:Le g g') (na:∀ a∈g'.α,a∈g.α\/H a=none) (nr:∀ a,g'.R a≠none->g.R a≠none\/H a=none):Step H g H' g':=
 ⟨le,fun a o h _=>s a o h,fun a o h=>⟨o,s a o h⟩,na,fun a h=>(nr a h).imp id .inl⟩
def VOk (Γ:Gm) (H:Hp) (d:D) (fr:Bool) (v:V) (H':Hp) (g':G):Prop:=
 if fr=true then ∃ a,v=.ref a/\H a=none/\g'.R a=none/\a ∉ g'.α/\zU Γ H' g' a d else Has Γ g' d v
noncomputable def G.put (g:G) (a:Addr) (o:HO):G:={ g with R:=upd g.R a o }
noncomputable def G.cell (g:G) (a:Addr):G:={ g with α:=g.α++[a] }
theorem Le.put {g:G}{a:Addr}{o:HO}(h:g.R a=none):Le g (g.put a o):=⟨fun b u q=>by
 show upd g.R a o b=some u
 rw [zj (zz q h)];exact q,fun _ _ q=>q⟩
theorem Le.cell {g:G}{a:Addr}:Le g (g.cell a):=⟨Same.refl _,fun k b q=>by
 show (g.α++[a])[k]?=some b
 rw [ϕ (Β.mp q).1];exact q⟩
section
variable {Γ:Gm}{H H':Hp}{g g':G}{S:Store}{d:D}{v:V}{a:Addr}
theorem WOk.put {o:HO}(w:WOk Γ H g S) (h:H a=some o) (hn:g.R a=none) (ha:a ∉ g.α):WOk Γ H (g.put a o) S where
 rh:=fun b u q=>by
  by_cases hb:b=a
  ·subst hb;have q':upd g.R b o b=some u:=q;rw [zp] at q';cases q';exact h
  ·have q':upd g.R a o b=some u:=q;rw [zj hb] at q';exact w.rh b u q'
 len:=w.len
 nd:=w.nd
 off:=fun k c b h1 h2 h3=>by
  show upd g.R a o b=none
  have hne:b≠a:=by rintro rfl;exact ha (ϣ h2)
  rw [zj hne];exact w.off k c b h1 h2 h3
 cell:=fun k c b h1 h2=>(w.cell k c b h1 h2).mono (Le.put hn) fun _ q=>q
theorem Step.put {o:HO}(s:Step H g H' g') (hn:g'.R a=none) (h:H a=none):Step H g H' (g'.put a o) where
 le:=s.le.trans (Le.put hn)
 fr:=s.fr
 ex:=s.ex
 na:=s.na
 nr:=fun b q=>by
  by_cases hb:b=a
  ·subst hb;exact .inr (.inl h)
  ·have q':upd g'.R a o b≠none:=q;rw [zj hb] at q';exact s.nr b q'
theorem qH {o:HO}(hn:g.R a=none) (ho:H a=some o) (h:zU Γ H g a d):Has Γ (g.put a o) d (.ref a):=by
 have le:Le g (g.put a o):=Le.put hn;have hr:(g.put a o).R a=some o:=zp;cases d with
 | lst ds=>obtain ⟨vs,h1,h2⟩:=h;rw [h1] at ho;cases ho;exact ⟨a,vs,rfl,hr,h2.mono le⟩
 | dK ks ds=>obtain ⟨vs,h1,h3,h2⟩:=h;rw [h1] at ho;cases ho;exact ⟨a,vs,rfl,hr,h3,h2.mono le⟩
 | dT ks ds=>obtain ⟨vs,h1,h3,h2⟩:=h;rw [h1] at ho;cases ho;exact ⟨a,vs,rfl,hr,h3,h2.mono le⟩
 | non=>exact h.elim
 | bl=>exact h.elim
 | int=>exact h.elim
 | str=>exact h.elim
 | tup=>exact h.elim
 | ref=>obtain ⟨o,h1,_⟩:=h;rw [hn] at h1;cases h1
 | fn=>exact h.elim
 | scr=>exact h.elim
 | ktp=>exact h.elim
 | kdc=>exact h.elim
 | dF=>exact h.elim
 | ins=>obtain ⟨C,dx,vs,h0,h1,h3,h2⟩:=h;rw [h1] at ho;cases ho;exact ⟨a,C,dx,vs,rfl,h0,hr,h3,h2.mono le⟩
@[simp] noncomputable def Vt:D->Bool:=fun _=>false
theorem freeze {fr:Bool}(s:Step H g H' g') (w:WOk Γ H' g' S) (h:VOk Γ H d fr v H' g') (hi:Vt d=false):∃ g2,Step H g H' g2/\WOk Γ H' g2 S/\Has Γ g2 d v/\Le g' g2:=by
 cases fr with
 | false=>exact ⟨g',s,w,h,Le.refl _⟩
 | true=>
  obtain ⟨a,rfl,h0,hn,ha,hc⟩:=(show ∃ a,v=.ref a/\H a=none/\g'.R a=none/\a ∉ g'.α/\zU Γ H' g' a d from h)
  obtain ⟨o,ho,_⟩:=hc.kO;exact ⟨g'.put a o,s.put hn h0,w.put ho hn ha,qH hn ho hc,Le.put hn⟩
theorem zfY (s:Step H g H' g') (w:WOk Γ H' g' S) (h:VOk Γ H d true v H' g'):∃ g2,Step H g H' g2/\WOk Γ H' g2 (S++[d])/\Has Γ g2 (.ref S.length) v:=by
 obtain ⟨a,rfl,h0,hn,ha,hc⟩:=(show ∃ a,v=.ref a/\H a=none/\g'.R a=none/\a ∉ g'.α/\zU Γ H' g' a d from h)
 refine ⟨g'.cell a,⟨s.le.trans Le.cell,s.fr,s.ex,fun b hb=>?_,s.nr⟩,⟨w.rh,?_,?_,fun k c b h1 h2 h3=>?_,fun k c b h1 h2=>?_⟩,a,?_,rfl⟩
 ·rcases aD.mp hb with q | q
  ·exact s.na b q
  ·rw [Η.mp q];exact .inr h0
 ·show (g'.α++[a]).length=(S++[d]).length
  simp [w.len]
 ·show (g'.α++[a]).Nodup
  exact nd_snocA w.nd ha
 ·have h2':(g'.α++[a])[k]?=some b:=h2;by_cases hk:k < S.length
  ·rw [ϕ hk] at h1;rw [ϕ (by rw [w.len];exact hk)] at h2';exact w.off k c b h1 h2' h3
  ·rw [Ϧ (by rw [w.len];lia)] at h2';have:=ϣ h2';rw [Η.mp this];exact hn
 ·have h2':(g'.α++[a])[k]?=some b:=h2;by_cases hk:k < S.length
  ·rw [ϕ hk] at h1;rw [ϕ (by rw [w.len];exact hk)] at h2';exact (w.cell k c b h1 h2').mono Le.cell fun _ q=>q
  ·rw [Ϧ (by lia)] at h1;rw [Ϧ (by rw [w.len];lia)] at h2';have e0:k - S.length=0:=by
    cases q:k - S.length with
    | zero=>rfl
    | succ n=>rw [q] at h1;simp at h1
   rw [e0] at h1;rw [w.len,e0] at h2';simp at h1 h2';subst h1 h2';exact hc.mono Le.cell fun _ q=>q
 ·show (g'.α++[a])[S.length]?=some a
  rw [<- w.len];simp
where
 nd_snocA:∀ {l:List Addr}{k:Addr},l.Nodup->¬ k∈l->(l++[k]).Nodup:=fun {l k} h hk=>by rw [gH];exact ⟨h,by simp,fun x hx y hy=>by rw [Η.mp hy];rintro rfl;exact hk hx⟩
end
end EV
namespace TS
open PySem PyProof.Rows
set_option backward.match.sparseCases true
variable {O:bN}{key:bA->O.α}{G:bA->Prop}{kd:gb}{M:Model}{A:ϖ}{E:δ->ξ->Prop}{s:ξ}
section
def LtOk (O:bN) (key:bA->O.α) (G:bA->Prop) (kd:gb) (M:Model) (A:ϖ) (E:δ->ξ->Prop) (s:ξ):Prop:=
 ∀ (x y:bA) (st:aU) (Q:Option Bool->aU->Prop),G x->G y->kindOf st=kd->Q (some (O.blt (key x) (key y))) st->wpS M A E s (lt' x y) Q st
noncomputable def dk:bA:=(.none,.none)
noncomputable def kk (key:bA->O.α) (xs:Array bA) (i:Nat):O.α:=key (xs[i]?.getD dk)
def Srt (key:bA->O.α) (xs:Array bA) (lo hi:Nat):Prop:=∀ i j,lo<=i->i<=j->j < hi->O.kle (kk key xs i) (kk key xs j)
structure Bs (G:bA->Prop) (kd:gb) (az:Array bA) (p:Array (Nat×Nat×Nat)) (st:aU):Prop where
 perm:(ϊ st).Perm az
 good:∀ x∈az.toList,G x
 kind:kindOf st=kd
 failed:failedOf st=none
 pend:oF st=p
variable {az:Array bA}{p:Array (Nat×Nat×Nat)}
theorem Bs.size {st:aU}(h:Bs G kd az p st):(ϊ st).size=az.size:=h.perm.size_eq
theorem Bs.set {st:aU}(h:Bs G kd az p st) {xs:Array bA}(q:xs.Perm (ϊ st)):Bs G kd az p (setArr st xs):=⟨q.trans h.perm,h.good,h.kind,h.failed,h.pend⟩
theorem Bs.item {st:aU}(h:Bs G kd az p st) {i:Nat}(hi:i < az.size):∃ x,(ϊ st)[i]?=some x/\G x/\kk key (ϊ st) i=key x:=by
 have hi':i < (ϊ st).size:=by rw [h.size];exact hi
 have e:(ϊ st)[i]?=some (ϊ st)[i]:=getElem?_pos _ i hi';refine ⟨(ϊ st)[i],e,h.good _ ((nU.mp h.perm).mem_iff.mp (by simp)),?_⟩;unfold kk;rw [e];rfl
theorem KN {arr:Array bA}{i:Nat}{x:bA}{Q:bA->aU->Prop}{st:aU}(e:arr[i]?=some x) (h:Q x st):wpS M A E s (elem' arr i) Q st:=by rw [elem'_eq,e];exact aR h
theorem wp_at (L:LtOk O key G kd M A E s) {st:aU}(h:Bs G kd az p st) {i j:Nat}(hi:i < az.size) (hj:j < az.size) {Q:Option Bool->aU->Prop}
  (q:Q (some (O.blt (kk key (ϊ st) i) (kk key (ϊ st) j))) st):wpS M A E s (ltAt' i j) Q st:=by obtain ⟨x,e1,g1,k1⟩:=h.item (key:=key) hi;obtain ⟨y,e2,g2,k2⟩:=h.item (key:=key) hj;rw [ltAt'_eq];refine Ϣ (nG (Ϣ (KN e1 (Ϣ (KN e2 (L x y st Q g1 g2 h.kind ?_))))));rw [<- k1,<- k2];exact q
theorem V0 {st:aU}{i j:Nat}{Q:Unit->aU->Prop}(h:Q () (setArr st (mirror (ϊ st) i j ((j - i) / 2)))):wpS M A E s (fX i j) Q st:=by rw [reverseSlice'_eq];exact pM h
theorem zat {xs ys:Array bA}{i j:Nat}(h:xs[i]?=ys[j]?):kk key xs i=kk key ys j:=by unfold kk;rw [h]
set_option tactic.hygienic true in
theorem jB {xs:Array bA}{i j:Nat}(hj:j<=xs.size) (k:Nat):kk key (mirror xs i j ((j - i) / 2)) k=if i<=k/\k < j then kk key xs (i+j - 1 - k) else kk key xs k:=by
 have e:=getElem?_mirror_all (i:=i) hj k;split
 ·rename_i h;rw [if_pos h] at e;exact zat e
 ·rename_i h;rw [if_neg h] at e;exact zat e
theorem Uz {xs:Array bA}{i j k:Nat}(hj:j<=xs.size) (hk:k < i):(mirror xs i j ((j - i) / 2))[k]?=xs[k]?:=by rw [getElem?_mirror_all hj,if_neg (by lia)]
set_option tactic.hygienic true in
theorem Vc {xs:Array bA}{i j:Nat}(hj:j<=xs.size) (h:∀ k,i<=k->k < j->kk key xs k=kk key xs (j - 1)) (k:Nat):kk key (mirror xs i j ((j - i) / 2)) k=kk key xs k:=by
 rw [jB hj];split
 ·rename_i q
  exact (h _ (by omega) (by omega)).trans (h k q.1 q.2).symm
 ·rfl
theorem Srt.one {xs:Array bA}{lo:Nat}:Srt key xs lo (lo+1):=fun i j h1 h2 h3=>by
 obtain rfl:i=j:=by lia
 exact bU _
theorem Srt.more {xs:Array bA}{lo n:Nat}(h:Srt key xs lo (lo+n)) (h1:1<=n) (k:O.kle (kk key xs (lo+n - 1)) (kk key xs (lo+n))):Srt key xs lo (lo+(n+1)):=fun i j a b c=>by
 by_cases e:j < lo+n
 ·exact h i j a b e
 ·obtain rfl:j=lo+n:=by lia
  by_cases e:i=lo+n
  ·subst e;exact bU _
  ·exact dw (h i (lo+n - 1) a (by lia) (by lia)) k
theorem zc7 (L:LtOk O key G kd M A E s) {st:aU}(b:Bs G kd az p st) {lo a nrem:Nat}(h1:1<=a) (ha:a<=nrem) (h2:lo+nrem<=az.size) (hs:Srt key (ϊ st) lo (lo+a)) {Q:Option (Option Nat)×Nat->aU->Prop}
  (q:∀ n,a<=n->n<=nrem->Srt key (ϊ st) lo (lo+n)->(n=nrem\/O.klt (kk key (ϊ st) (lo+n)) (kk key (ϊ st) (lo+n - 1)))->Q (none,n) st):
  wpS M A E s (forIn [a:nrem] ((none,a):Option (Option Nat)×Nat) fun _ c=>do
   let x <- ltAt' (lo+c.2) (lo+c.2 - 1)
   match x with
   | some smaller=>if smaller=true then pure (aX (none,c.2)) else pure (aM (none,c.2+1))
   | _=>pure (aX (some none,c.2))) Q st:=by
 refine gC (I:=fun x c st'=>st'=st/\c=(none,x)/\Srt key (ϊ st) lo (lo+x)) ?_ ?_ ⟨rfl,rfl,hs⟩
 ·rintro x c st' hx hn ⟨rfl,rfl,hs⟩;dsimp only;refine Ϣ (wp_at L b (by lia) (by lia) ?_);cases hl:O.blt (kk key (ϊ st') (lo+x)) (kk key (ϊ st') (lo+x - 1)) with
  | true=>exact aR (q x hx (by lia) hs (.inr hl))
  | false=>exact aR ⟨rfl,rfl,hs.more (by lia) hl⟩
 ·rintro c st' ⟨rfl,rfl,hs⟩;rw [show max a nrem=nrem by lia] at hs ⊢;exact q nrem ha (χ _) hs (.inl rfl)
def Fal (key:bA->O.α) (xs:Array bA) (lo hi:Nat):Prop:=∀ i j,lo<=i->i<=j->j < hi->O.kle (kk key xs j) (kk key xs i)
theorem Fal.more {xs:Array bA}{lo n:Nat}(h:Fal key xs lo (lo+n)) (h1:1<=n) (k:O.kle (kk key xs (lo+n)) (kk key xs (lo+n - 1))):Fal key xs lo (lo+(n+1)):=fun i j a b c=>by
 by_cases e:j < lo+n
 ·exact h i j a b e
 ·obtain rfl:j=lo+n:=by lia
  by_cases e:i=lo+n
  ·subst e;exact bU _
  ·exact dw k (h i (lo+n - 1) a (by lia) (by lia))
theorem Fal.same {xs ys:Array bA}{lo hi:Nat}(h:Fal key xs lo hi) (e:∀ k,kk key ys k=kk key xs k):Fal key ys lo hi:=fun i j a b c=>by rw [e,e];exact h i j a b c
theorem KH (L:LtOk O key G kd M A E s) {st:aU}(b:Bs G kd az p st) {lo n nrem:Nat}(h1:1<=n) (hn:n<=nrem) (h2:lo+nrem<=az.size) (hs:Fal key (ϊ st) lo (lo+n)) {Q:Option Nat->aU->Prop}
  (q:∀ m st',Bs G kd az p st'->1<=m->m<=nrem->Srt key (ϊ st') lo (lo+m)->(∀ k,k < lo->(ϊ st')[k]?=(ϊ st)[k]?)->Q (some m) st'):
  wpS M A E s (do
   fX lo (lo+n)
   let c <- forIn [n:nrem] ((none,n):Option (Option Nat)×Nat) fun _ c=>do
    let x <- ltAt' (lo+c.2) (lo+c.2 - 1)
    match x with
    | some smaller=>if smaller=true then pure (aX (none,c.2)) else pure (aM (none,c.2+1))
    | _=>pure (aX (some none,c.2))
   match c.1 with
   | some r=>pure r
   | none=>pure (some c.2)) Q st:=by
 have hz:lo+n<=(ϊ st).size:=by rw [b.size];lia
 refine Ϣ (V0 ?_);have b':=b.set (oW (ϊ st) lo (lo+n) ((lo+n - lo) / 2));refine Ϣ (zc7 L b' h1 hn h2 ?_ fun m m1 m2 ms _=>aR (q m _ b' (by lia) m2 ms fun k hk=>Uz hz hk));intro i j a b c;show O.kle (kk key (mirror (ϊ st) lo (lo+n) ((lo+n - lo) / 2)) i) (kk key (mirror (ϊ st) lo (lo+n) ((lo+n - lo) / 2)) j)
 rw [jB hz,jB hz,if_pos (by lia),if_pos (by lia)];exact hs _ _ (by lia) (by lia) (by lia)
end
section
variable {az:Array bA}{p:Array (Nat×Nat×Nat)}
theorem KJ (L:LtOk O key G kd M A E s) {st:aU}(b:Bs G kd az p st) {lo n nrem:Nat}(h1:1<=n) (hn:n<=nrem) (h2:lo+nrem<=az.size) (hs:Fal key (ϊ st) lo (lo+n)) {Q:Option Nat->aU->Prop}
  (q:∀ m st',Bs G kd az p st'->1<=m->m<=nrem->Srt key (ϊ st') lo (lo+m)->(∀ k,k < lo->(ϊ st')[k]?=(ϊ st)[k]?)->Q (some m) st'):
  wpS M A E s (do
   let c <- forIn [n:nrem] ((none,n,0):Option (Option Nat)×Nat×Nat) fun _ c=>do
    let x <- ltAt' (lo+c.2.1) (lo+c.2.1 - 1)
    match x with
    | some smaller=>
     if smaller=true then
      if c.2.2 > 0 then do
       let _ <- fX (lo+c.2.1 - (c.2.2+1)) (lo+c.2.1)
       pure (aM (none,c.2.1+1,0))
      else pure (aM (none,c.2.1+1,0))
     else do
      let x <- ltAt' (lo+c.2.1 - 1) (lo+c.2.1)
      match x with
      | some larger=>if larger=true then pure (aX (none,c.2.1,c.2.2)) else pure (aM (none,c.2.1+1,c.2.2+1))
      | _=>pure (aX (some none,c.2.1,c.2.2))
    | _=>pure (aX (some none,c.2.1,c.2.2))
   match c.1 with
   | some r=>pure r
   | none=>
    if c.2.2 > 0 then do
     let _ <- fX (lo+c.2.1 - (c.2.2+1)) (lo+c.2.1)
     do
      fX lo (lo+c.2.1)
      let c <- forIn [c.2.1:nrem] ((none,c.2.1):Option (Option Nat)×Nat) fun _ c=>do
       let x <- ltAt' (lo+c.2) (lo+c.2 - 1)
       match x with
       | some smaller=>if smaller=true then pure (aX (none,c.2)) else pure (aM (none,c.2+1))
       | _=>pure (aX (some none,c.2))
      match c.1 with
      | some r=>pure r
      | none=>pure (some c.2)
    else do
     fX lo (lo+c.2.1)
     let c <- forIn [c.2.1:nrem] ((none,c.2.1):Option (Option Nat)×Nat) fun _ c=>do
      let x <- ltAt' (lo+c.2) (lo+c.2 - 1)
      match x with
      | some smaller=>if smaller=true then pure (aX (none,c.2)) else pure (aM (none,c.2+1))
      | _=>pure (aX (some none,c.2))
     match c.1 with
     | some r=>pure r
     | none=>pure (some c.2)) Q st:=by
 refine Ϣ (wpS_mono (gC (I:=fun x c st'=>∃ e,c=(none,x,e)/\Bs G kd az p st'/\Fal key (ϊ st') lo (lo+x)/\e+1<=x/\(∀ i,lo+x - (e+1)<=i->i < lo+x->kk key (ϊ st') i=kk key (ϊ st') (lo+x - 1))/\∀ k,k < lo->(ϊ st')[k]?=(ϊ st)[k]?)
  (Q:=fun c st'=>∃ m e,c=(none,m,e)/\n<=m/\m<=nrem/\Bs G kd az p st'/\Fal key (ϊ st') lo (lo+m)/\e+1<=m/\(∀ i,lo+m - (e+1)<=i->i < lo+m->kk key (ϊ st') i=kk key (ϊ st') (lo+m - 1))/\∀ k,k < lo->(ϊ st')[k]?=(ϊ st)[k]?) ?_ ?_ ⟨0,rfl,b,hs,by lia,fun i h1 h2=>by congr 1;lia,fun _ _=>rfl⟩) ?_)
 ·rintro x c st' hx hn ⟨e,rfl,b',f',he,hq,hk⟩;dsimp only;have hz:lo+x<=(ϊ st').size:=by rw [b'.size];lia
  refine Ϣ (wp_at L b' (by lia) (by lia) ?_);cases hl:O.blt (kk key (ϊ st') (lo+x)) (kk key (ϊ st') (lo+x - 1)) with
  | true=>
   have f2:=f'.more (by lia) (d9 hl);dsimp only;rw [if_pos rfl];by_cases he0:e > 0
   ·rw [if_pos he0];have same:=Vc (key:=key) hz hq;exact Ϣ (V0 (aR ⟨0,rfl,b'.set (oW _ _ _ _),f2.same same,by lia,fun i h1 h2=>by congr 1;lia,fun k h=>(Uz hz (by lia)).trans (hk k h)⟩))
   ·rw [if_neg he0];exact aR ⟨0,rfl,b',f2,by lia,fun i h1 h2=>by congr 1;lia,hk⟩
  | false=>
   dsimp only;rw [if_neg (by decide)];refine Ϣ (wp_at L b' (by lia) (by lia) ?_);cases hg:O.blt (kk key (ϊ st') (lo+x - 1)) (kk key (ϊ st') (lo+x)) with
   | true=>exact aR ⟨x,e,rfl,hx,by lia,b',f',he,hq,hk⟩
   | false=>
    have eq:kk key (ϊ st') (lo+x)=kk key (ϊ st') (lo+x - 1):=pW hg hl;refine aR ⟨e+1,rfl,b',f'.more (by lia) hg,by lia,fun i h1 h2=>?_,hk⟩;rw [show lo+(x+1) - 1=lo+x by lia,eq];by_cases hi:i=lo+x
    ·rw [hi];exact eq
    ·exact hq i (by lia) (by lia)
 ·rintro c st' ⟨e,rfl,b',f',he,hq,hk⟩;rw [show max n nrem=nrem by lia] at f' he hq ⊢;exact ⟨nrem,e,rfl,hn,χ _,b',f',he,hq,hk⟩
 ·rintro c st' ⟨m,e,rfl,m1,m2,b',f',he,hq,hk⟩;dsimp only;have hz:lo+m<=(ϊ st').size:=by rw [b'.size];lia
  by_cases he0:e > 0
  ·rw [if_pos he0];have same:=Vc (key:=key) hz hq;refine Ϣ (V0 (KH L (b'.set (oW _ _ _ _)) (by lia) m2 h2 (f'.same same) fun m' st2 b2 a1 a2 a3 a4=>q m' st2 b2 a1 a2 a3 fun k h=>?_));exact (a4 k h).trans ((Uz hz (by lia)).trans (hk k h))
  ·rw [if_neg he0];exact KH L b' (by lia) m2 h2 f' fun m' st2 b2 a1 a2 a3 a4=>q m' st2 b2 a1 a2 a3 fun k h=>(a4 k h).trans (hk k h)
theorem zgf {α:Type}{m m':StateT aU Sem α}{Q:α->aU->Prop}{st:aU}(e:m'=m) (h:wpS M A E s m Q st):wpS M A E s m' Q st:=e ▸ h
theorem bd {α β:Type}{m m':StateT aU Sem α}{f f':α->StateT aU Sem β}(e:m=m') (h:∀ a,f a=f' a):(m >>= f)=(m' >>= f'):=by rw [e,funext h]
theorem zbz (L:LtOk O key G kd M A E s) {st:aU}(b:Bs G kd az p st) {lo nrem:Nat}(h1:1<=nrem) (h2:lo+nrem<=az.size) {Q:Option Nat->aU->Prop}
  (q:∀ m st',Bs G kd az p st'->1<=m->m<=nrem->Srt key (ϊ st') lo (lo+m)->(∀ k,k < lo->(ϊ st')[k]?=(ϊ st)[k]?)->Q (some m) st'):wpS M A E s (countRun' lo nrem) Q st:=by
 rw [countRun'_eq];refine Ϣ (zc7 L b (χ 1) h1 h2 Srt.one fun n n1 n2 hs ho=>?_);dsimp only;by_cases hn:n=nrem
 ·rw [if_pos (by simpa using hn)];exact aR (q n st b n1 n2 hs fun _ _=>rfl)
 ·rw [if_neg (by simpa using hn)];have hlt:=ho.resolve_left hn;have hz:lo+n<=(ϊ st).size:=by rw [b.size];lia
  by_cases hg:n > 1
  ·rw [if_pos hg];refine Ϣ (wp_at L b (by lia) (by lia) ?_);cases hr:O.blt (kk key (ϊ st) lo) (kk key (ϊ st) (lo+n - 1)) with
   | true=>exact aR (q n st b n1 n2 hs fun _ _=>rfl)
   | false=>
    dsimp only;rw [if_neg (by decide)];have all:∀ k,lo<=k->k < lo+n->kk key (ϊ st) k=kk key (ϊ st) (lo+n - 1):=fun k a c=>
     pW (hs k (lo+n - 1) a (by lia) (by lia)) (dw hr (hs lo k (χ _) a c))
    have same:=Vc (key:=key) hz all;have f0:Fal key (ϊ st) lo (lo+(n+1)):=fun i j a c d=>by
     by_cases e:j < lo+n
     ·rw [all i a (by lia),all j (by lia) e];exact bU _
     ·obtain rfl:j=lo+n:=by lia
      by_cases e:i=lo+n
      ·rw [e];exact bU _
      ·rw [all i a (by lia)];exact d9 hlt
    refine Ϣ (V0 ?_);refine Ϣ (wpS_lift (gP ⟨rfl,?_⟩));refine zgf ?e (KJ L (b.set (oW _ _ _ _)) (by lia) (by lia) h2 (f0.same same) fun m' st2 b2 a1 a2 a3 a4=>q m' st2 b2 a1 a2 a3 fun k h=>(a4 k h).trans (Uz hz h))
    case e=>
     refine bd rfl fun c=>?_
     obtain ⟨r,n',e'⟩:=c;cases r with
     | some r=>rfl
     | none=>
      dsimp only;split
      ·refine bd rfl fun _=>bd rfl fun _=>bd rfl fun c=>?_
       obtain ⟨r,_⟩:=c;cases r <;> rfl
      ·refine bd rfl fun _=>bd rfl fun c=>?_
       obtain ⟨r,_⟩:=c;cases r <;> rfl
  ·rw [if_neg hg];obtain rfl:n=1:=by lia
   refine Ϣ (wpS_lift (gP ⟨rfl,?_⟩));refine zgf ?e (KJ L b (n:=1+1) (by lia) (by lia) h2 (fun i j a c d=>?_) q)
   case e=>
    refine bd rfl fun c=>?_
    obtain ⟨r,n',e'⟩:=c;cases r with
    | some r=>rfl
    | none=>
     dsimp only;split
     ·refine bd rfl fun _=>bd rfl fun _=>bd rfl fun c=>?_
      obtain ⟨r,_⟩:=c;cases r <;> rfl
     ·refine bd rfl fun _=>bd rfl fun c=>?_
      obtain ⟨r,_⟩:=c;cases r <;> rfl
   by_cases e:i=j
   ·rw [e];exact bU _
   ·obtain rfl:i=lo:=by lia
    obtain rfl:j=i+1:=by lia
    exact d9 hlt
set_option tactic.hygienic true in
theorem Y4 {xs:Array bA}{src d:Nat}(hs:src < xs.size) (hd:d<=src) (k:Nat):kk key (bubble xs src d) k=if k=src - d then kk key xs src else if src - d < k/\k<=src then kk key xs (k - 1) else kk key xs k:=by
 have e:=getElem?_bubble hs d hd k;split
 ·rename_i h;rw [if_pos h] at e;exact zat e
 ·rename_i h
  rw [if_neg h] at e;split
  ·rename_i h;rw [if_pos h] at e;exact zat e
  ·rename_i h;rw [if_neg h] at e;exact zat e
theorem zgg (L:LtOk O key G kd M A E s) {st:aU}(b:Bs G kd az p st) {lo n ok:Nat}(h1:1<=ok) (hok:ok<=n) (h2:lo+n<=az.size) (hs:Srt key (ϊ st) lo (lo+ok)) {Q:Bool->aU->Prop}
  (q:∀ st',Bs G kd az p st'->Srt key (ϊ st') lo (lo+n)->(∀ k,k < lo->(ϊ st')[k]?=(ϊ st)[k]?)->Q true st'):wpS M A E s (binarySort' lo n ok) Q st:=by
 rw [binarySort'_eq]
 refine Ϣ (wpS_mono (gC (I:=fun k c st'=>c=(none,())/\Bs G kd az p st'/\Srt key (ϊ st') lo (lo+k)/\∀ k,k < lo->(ϊ st')[k]?=(ϊ st)[k]?)
  (Q:=fun c st'=>c=(none,())/\Bs G kd az p st'/\Srt key (ϊ st') lo (lo+n)/\∀ k,k < lo->(ϊ st')[k]?=(ϊ st)[k]?) ?_ ?_ ⟨rfl,b,by rw [show max ok 1=ok by lia];exact hs,fun _ _=>rfl⟩) ?_)
 ·rintro k c st' hk hkn ⟨rfl,b',hs',hq⟩;have hz:lo+k < (ϊ st').size:=by rw [b'.size];lia
  dsimp only
  refine Ϣ (wpS_mono (gC (I:=fun x c st2=>st2=st'/\∃ l r,c=(none,l,r)/\l<=r/\r<=k/\r - l<=k - x/\(∀ i,i < l->O.kle (kk key (ϊ st') (lo+i)) (kk key (ϊ st') (lo+k)))/\∀ i,r<=i->i < k->O.kle (kk key (ϊ st') (lo+k)) (kk key (ϊ st') (lo+i)))
   (Q:=fun c st2=>st2=st'/\∃ l r,c=(none,l,r)/\l<=k/\(∀ i,i < l->O.kle (kk key (ϊ st') (lo+i)) (kk key (ϊ st') (lo+k)))/\∀ i,l<=i->i < k->O.kle (kk key (ϊ st') (lo+k)) (kk key (ϊ st') (lo+i))) ?_ ?_ ⟨rfl,0,k,rfl,by lia,by lia,by lia,fun i hi=>by lia,fun i h1 h2=>by lia⟩) ?_)
  ·rintro x c st2 _ hx ⟨rfl,l,r,rfl,hlr,hrk,hm,hlo,hhi⟩;dsimp only;by_cases hg:l >= r
   ·rw [if_pos hg];obtain rfl:l=r:=by lia
    exact aR ⟨rfl,l,l,rfl,hrk,hlo,hhi⟩
   ·rw [if_neg hg];refine Ϣ (wp_at L b' (by lia) (by lia) ?_);cases hl:O.blt (kk key (ϊ st2) (lo+k)) (kk key (ϊ st2) (lo+(l+r) / 2)) with
    | true=>exact aR ⟨rfl,l,(l+r) / 2,rfl,by lia,by lia,by lia,hlo,fun i h1 h2=>dw (d9 hl) (hs' _ _ (by lia) (by lia) (by lia))⟩
    | false=>exact aR ⟨rfl,(l+r) / 2+1,r,rfl,by lia,by lia,by lia,fun i h1=>dw (hs' (lo+i) (lo+(l+r) / 2) (by lia) (by lia) (by lia)) hl,hhi⟩
  ·rintro c st2 ⟨rfl,l,r,rfl,hlr,hrk,hm,hlo,hhi⟩;obtain rfl:l=r:=by lia
   exact ⟨rfl,l,l,rfl,hrk,hlo,hhi⟩
  ·rintro c st2 ⟨rfl,l,r,rfl,hlk,hlo,hhi⟩;dsimp only;rw [moveDown'_eq];refine Ϣ (pM (aR ⟨rfl,b'.set (bubble_perm _ _ _),fun i j h1 h2 h3=>?_,fun i hi=>?_⟩))
   ·show O.kle (kk key (bubble (ϊ st2) (lo+k) (lo+k - (lo+l))) i) (kk key (bubble (ϊ st2) (lo+k) (lo+k - (lo+l))) j)
    rw [Y4 hz (by lia),Y4 hz (by lia),show lo+k - (lo+k - (lo+l))=lo+l by lia];have lo':∀ i,lo<=i->i < lo+l->O.kle (kk key (ϊ st2) i) (kk key (ϊ st2) (lo+k)):=fun i a c=>by
     have:=hlo (i - lo) (by lia)
     rwa [show lo+(i - lo)=i by lia] at this
    have hi':∀ i,lo+l<=i->i < lo+k->O.kle (kk key (ϊ st2) (lo+k)) (kk key (ϊ st2) i):=fun i a c=>by
     have:=hhi (i - lo) (by lia) (by lia)
     rwa [show lo+(i - lo)=i by lia] at this
    repeat' split
    all_goals first
     | (exfalso;lia)
     | exact bU _
     | exact lo' _ (by lia) (by lia)
     | exact hi' _ (by lia) (by lia)
     | exact hs' _ _ (by lia) (by lia) (by lia)
   ·refine Eq.trans ?_ (hq i hi);show (bubble (ϊ st2) (lo+k) (lo+k - (lo+l)))[i]?=_
    rw [getElem?_bubble hz _ (by lia),if_neg (by lia),if_neg (by lia)]
 ·rintro c st' ⟨hc,b',hs',hq⟩;rw [show max (max ok 1) n=n by lia] at hs';exact ⟨hc,b',hs',hq⟩
 ·rintro c st' ⟨rfl,b',hs',hq⟩;exact aR (q st' b' hs' hq)
end
section
variable {az:Array bA}
def Rn (key:bA->O.α) (G:bA->Prop) (kd:gb) (az:Array bA) (lo:Nat) (st:aU):Prop:=
 (lo=0/\Bs G kd az #[] st)\/(lo=az.size/\Bs G kd az #[(0,lo,0)] st/\Srt key (ϊ st) 0 lo)
theorem zdZ (L:LtOk O key G kd M A E s) {st:aU}(b:Bs G kd az #[] st) (h2:2<=az.size) (h64:az.size < 64) {Q:Unit->aU->Prop}
  (q:∀ st',(ϊ st').Perm az->failedOf st'=none->Srt key (ϊ st') 0 az.size->Q () st'):wpS M A E s sortRuns' Q st:=by
 have hr:minRun' az.size az.size 0=az.size:=by
  obtain ⟨f,e⟩:∃ f,az.size=f+1:=⟨az.size - 1,by lia⟩
  rw [e,minRun'_succ,if_pos (by lia),Nat.add_zero]
 rw [sortRuns'_eq];refine Ϣ (nG ?_);dsimp only;rw [b.size,hr];refine Ϣ (wpS_mono (gC (I:=fun x c st'=>∃ lo,c=(none,lo)/\lo<=az.size/\(lo=az.size\/x<=lo)/\Rn key G kd az lo st') (Q:=fun c st'=>c=(none,az.size)/\Rn key G kd az az.size st') ?_ ?_ ⟨0,rfl,by lia,.inr (χ _),.inl ⟨rfl,b⟩⟩) ?_)
 ·rintro x c st1 _ hx ⟨lo,rfl,hlo,hp,rn⟩;dsimp only;by_cases hg:lo >= az.size
  ·rw [if_pos hg];obtain rfl:lo=az.size:=by lia
   exact aR ⟨rfl,rn⟩
  ·rw [if_neg hg];rcases rn with ⟨rfl,b1⟩ | ⟨e,_⟩
   ·refine Ϣ (zbz L b1 (by lia) (by lia) fun m st2 b2 m1 m2 ms _=>?_);dsimp only;by_cases hm:m < az.size
    ·rw [if_pos hm];refine Ϣ (wpS_lift (gP ⟨rfl,?_⟩));refine Ϣ (zgg L b2 m1 (by lia) (by lia) ms fun st3 b3 ss _=>?_);rw [if_neg (by decide)];refine Ϣ (nG ?_);rw [show (oF st3)=#[] from b3.pend,show (#[]:Array (Nat×Nat×Nat)).back?=none from rfl];refine Ϣ (pM (aR ⟨0+min (az.size - 0) az.size,rfl,by lia,.inl (by lia),.inr ⟨by lia,⟨b3.perm,b3.good,b3.kind,b3.failed,?_⟩,ss⟩⟩));show (oF st3).push _=_
     rw [b3.pend,pP];rfl
    ·rw [if_neg hm];refine Ϣ (nG ?_);rw [show (oF st2)=#[] from b2.pend,show (#[]:Array (Nat×Nat×Nat)).back?=none from rfl];refine Ϣ (pM (aR ⟨0+m,rfl,by lia,.inl (by lia),.inr ⟨by lia,⟨b2.perm,b2.good,b2.kind,b2.failed,?_⟩,ms⟩⟩));show (oF st2).push _=_
     rw [b2.pend,pP];rfl
   ·lia
 ·rintro c st1 ⟨lo,rfl,hlo,hp,rn⟩;obtain rfl:lo=az.size:=by lia
  exact ⟨rfl,rn⟩
 ·rintro c st1 ⟨rfl,rn⟩;dsimp only;obtain ⟨b1,hs⟩:Bs G kd az #[(0,az.size,0)] st1/\Srt key (ϊ st1) 0 az.size:=by
   rcases rn with ⟨h,_⟩ | ⟨_,h1,h3⟩
   ·lia
   ·exact ⟨h1,h3⟩
  refine Ϣ (wpS_mono (gC (I:=fun y c st'=>c=(none,())/\st'=st1) (Q:=fun c st'=>c=(none,())/\st'=st1) ?_ (fun _ _ h=>h) ⟨rfl,rfl⟩) ?_)
  ·rintro y c st2 _ hy ⟨rfl,rfl⟩;refine Ϣ (nG ?_);rw [b1.pend,if_pos (show (#[(0,az.size,0)]:Array (Nat×Nat×Nat)).size<=1 from χ 1)];exact aR ⟨rfl,rfl⟩
  ·rintro c st2 ⟨rfl,rfl⟩;exact aR (q st2 b1.perm b1.failed hs)
end
noncomputable def lexB:List Int->List Int->Bool
 | [],[]=>false
 | [],_::_=>true
 | _::_,[]=>false
 | a::x,b::y=>if a=b then lexB x y else decide (a < b)
theorem zas:∀ x,lexB x x=false
 | []=>rfl
 | a::x=>by unfold lexB;rw [if_pos rfl];exact zas x
theorem zdz:∀ x y z,lexB x y=true->lexB y z=true->lexB x z=true
 | [],[],z,h,_=>by cases h
 | [],_::_,[],_,h=>by cases h
 | [],_::_,_::_,_,_=>rfl
 | _::_,[],z,h,_=>by cases h
 | _::_,_::_,[],_,h=>by cases h
 | a::x,b::y,c::z,h,k=>by
  unfold lexB at h k ⊢;by_cases h1:a=b
  ·rw [if_pos h1] at h;subst h1;by_cases h2:a=c
   ·rw [if_pos h2] at k ⊢;exact zdz x y z h k
   ·rw [if_neg h2] at k ⊢;exact k
  ·rw [if_neg h1] at h;have h:=of_decide_eq_true h;by_cases h2:b=c
   ·subst h2;rw [if_neg h1];exact decide_eq_true h
   ·rw [if_neg h2] at k;have k:=of_decide_eq_true k;rw [if_neg (by omega)];exact decide_eq_true (by omega)
theorem zar:∀ x y z,lexB x z=true->lexB x y=true\/lexB y z=true
 | [],[],z,h=>.inr h
 | [],_::_,z,h=>.inl rfl
 | _::_,y,[],h=>by cases h
 | _::_,[],_::_,h=>.inr rfl
 | a::x,b::y,c::z,h=>by
  unfold lexB at h ⊢;by_cases h1:a=b
  ·subst h1;by_cases h2:a=c
   ·rw [if_pos h2] at h;rw [if_pos rfl,if_pos h2];exact zar x y z h
   ·rw [if_neg h2] at h;right;rw [if_neg h2];exact h
  ·rw [if_neg h1];by_cases h2:a=c
   ·by_cases h3:a < b
    ·exact .inl (decide_eq_true h3)
    ·right;rw [if_neg (by lia)];exact decide_eq_true (by lia)
   ·rw [if_neg h2] at h;have h:=of_decide_eq_true h;by_cases h3:a < b
    ·exact .inl (decide_eq_true h3)
    ·right;rw [if_neg (by lia)];exact decide_eq_true (by lia)
theorem Vb:∀ x y,lexB x y=false->lexB y x=false->x=y
 | [],[],_,_=>rfl
 | [],_::_,h,_=>by cases h
 | _::_,[],_,h=>by cases h
 | a::x,b::y,h,k=>by
  unfold lexB at h k;by_cases h1:a=b
  ·subst h1;rw [if_pos rfl] at h k;rw [Vb x y h k]
  ·rw [if_neg h1] at h;rw [if_neg (fun e=>h1 e.symm)] at k;have h:=of_decide_eq_false h;have k:=of_decide_eq_false k;omega
noncomputable def lexO:bN:=⟨List Int,lexB,zas,zdz,zar,Vb⟩
def VR:List δ->List Int->Prop
 | [],[]=>True
 | v::vs,n::ns=>(∃ t,v=.int n t)/\VR vs ns
 | _,_=>False
section
variable {prog:Χ}{w:Ϛ}
theorem zdv {Q:Bool->ξ->Prop}{fin:Bool}:∀ (xs ys:List δ) (as bs:List Int) (i:Nat),VR xs as->VR ys bs->fin=decide (xs.length < ys.length)->Q (lexB as bs) s->W.KatLex prog w A true fin Q (xs.zip ys) i s
 | [],[],[],[],i,_,_,hf,q=>by subst hf;exact q
 | [],_::_,[],_::_,i,_,_,hf,q=>by
  subst hf;show Q _ s
  rw [show decide (([]:List δ).length < (_::_:List δ).length)=true by simp];exact q
 | _::_,[],_::_,[],i,_,_,hf,q=>by
  subst hf;show Q _ s
  rw [show decide ((_::_:List δ).length < ([]:List δ).length)=false by simp];exact q
 | x::xs,y::ys,a::as,b::bs,i,⟨⟨t,e1⟩,h1⟩,⟨⟨u,e2⟩,h2⟩,hf,q=>by
  subst e1 e2;unfold lexB at q;refine W.kat_cons (wpAny_eqBool_int (W.kat_go (fun e=>W.kat_yes ?_) fun e=>W.kat_no ?_))
  ·rw [if_pos (eq_of_beq e)] at q;exact zdv xs ys as bs (i+1) h1 h2 (by rw [hf];simp) q
  ·rw [if_neg (by intro h;subst h;simp at e)] at q;cases hi:i==0 with
   | true=>exact oneLt_int q
   | false=>exact W.kat_one _ _ (lt_int q)
 | [],_,_::_,_,_,h,_,_,_=>h.elim
 | _::_,_,[],_,_,h,_,_,_=>h.elim
 | _,[],_,_::_,_,_,h,_,_=>h.elim
 | _,_::_,_,[],_,_,h,_,_=>h.elim
def Gt (kz:δ->List Int) (h:Heap) (x:bA):Prop:=∃ a o xs n,x.1=.ref a/\h.get? a=some o/\o.data=.seq xs n/\VR xs.toList (kz x.1)
theorem zkq {kz:δ->List Int}{G:bA->Prop}(hg:∀ x,G x->Gt kz s.heap x):LtOk lexO (fun x=>kz x.1) G (tuples' true) (Λ prog w) A E s:=by intro x y st Q gx gy hk q;obtain ⟨a,o,xs,n,e1,e2,e3,e4⟩:=hg x gx;obtain ⟨b,u,ys,m,f1,f2,f3,f4⟩:=hg y gy;rw [lt'_eq];refine Ϣ (nG ?_);rw [hk,e1,f1];refine Ϣ (wpS_lift (iC (W.kat_lt e2 e3 f2 f3 (zdv _ _ _ _ 0 e4 f4 (by simp) ⟨rfl,aR q⟩))))
end
section
variable {prog:Χ}{w:Ϛ}{kz:δ->List Int}
structure Tu (kz:δ->List Int) (h:Heap) (v:δ):Prop where
 it:∃ b o xs m,v=.ref b/\h.get? b=some o/\o.cls=.type "tuple"/\o.data=.seq xs m/\VR xs.toList (kz v)
theorem Tu.keep {h h':Heap}{v:δ}(t:Tu kz h v) (k:∀ b o,v=.ref b->h.get? b=some o->h'.get? b=some o):Tu kz h' v:=by obtain ⟨⟨b,o,xs,m,e1,e2,e3,e4,e5⟩⟩:=t;exact ⟨⟨b,o,xs,m,e1,k b o e1 e2,e3,e4,e5⟩⟩
theorem tups {h:Heap}:∀ (vs:List δ),(∀ v∈vs,Tu kz h v)->(∀ v∈vs,kz v≠[])->∃ fs,fs.length=vs.length/\W.KatTups h vs fs/\∀ v∈fs,∃ n t,v=Ϫ n t
 | [],_,_=>⟨[],rfl,W.KatTups.nil,fun v h=>nomatch h⟩
 | v::vs,hv,hn=>by
  obtain ⟨fs,e,t,q⟩:=tups vs (fun u hu=>hv u (ν _ hu)) fun u hu=>hn u (ν _ hu)
  obtain ⟨⟨b,o,xs,m,e1,e2,e3,e4,e5⟩⟩:=hv v μ;have n:=hn v μ;obtain ⟨k,ks,hk⟩:=List.exists_cons_of_ne_nil n;rw [hk] at e5;cases hx:xs.toList with
  | nil=>rw [hx] at e5;exact e5.elim
  | cons u us=>
   rw [hx] at e5;obtain ⟨⟨t',e6⟩,_⟩:=e5;have h0:xs[0]?=some u:=by
    have:xs.toList[0]?=some u:=by rw [hx];rfl
    simpa using this
   subst e1;refine ⟨u::fs,by simp [e],W.KatTups.cons e2 e3 e4 h0 t,fun v hv=>?_⟩;rcases υ.mp hv with rfl | hv
   ·exact ⟨k,t',e6⟩
   ·exact q v hv
theorem zit:((bJ "int":δ) != bJ "tuple")=true:=by decide +kernel
theorem kind_all {vs:List δ}(hne:0 < vs.length) (hv:∀ v∈vs,Tu kz s.heap v) (hn:∀ v∈vs,kz v≠[]) {Q:gb->ξ->Prop}(q:Q (tuples' true) s):Δ (Λ prog w) A (keyKind' vs.toArray) Q E s:=by obtain ⟨fs,e,t,f⟩:=tups vs hv hn;refine W.kat_kind (T:=.type "int") t (by lia) (fun v hv=>?_) (by decide +kernel) (by rw [zit];exact q);obtain ⟨n,t,rfl⟩:=f v hv;exact fun _ _ _ _ _ q=>ι q
noncomputable def kdOf (kz:δ->List Int) (vs:List δ):gb:=
 if vs.all (fun v=>!(kz v).isEmpty)=true then tuples' true else
 match vs with
 | []=>general'
 | v::_=>if (kz v).isEmpty=true then oneType' else general'
theorem qL:∀ (vs:List δ) {Q:List (Option δ)->ξ->Prop},(∀ v∈vs,Tu kz s.heap v)->(∀ fs:List (Option δ),fs.map (·.isSome)=vs.map (fun v=>!(kz v).isEmpty)->Q fs s)->Δ (Λ prog w) A (vs.mapM firstOfTuple') Q E s
 | [],_,_,h=>by rw [List.mapM_nil];exact ι (h [] rfl)
 | v::vs,Q,hv,h=>by
  obtain ⟨⟨b,o,xs,m,e1,e2,e3,e4,e5⟩⟩:=hv v μ;rw [List.mapM_cons];refine γ ?_;rw [W.kas_first_eq,e1];refine γ (bI (T:="tuple") ⟨o,e2,e3⟩ ?_);rw [if_neg (by decide)];refine γ (nQ e2 e4 (ι ?_));refine γ (qL vs (Q:=fun bs s'=>Δ (Λ prog w) A (pure (xs[0]?::bs)) Q E s') (fun u hu=>hv u (ν _ hu)) fun fs hf=>ι (h _ ?_));rw [Κ,Κ,hf]
  congr 1
  rw [<- ϧ];cases hx:xs.toList with
  | nil=>
   rw [hx] at e5;cases hk:kz v with
   | nil=>rfl
   | cons _ _=>rw [hk] at e5;exact e5.elim
  | cons u us=>
   rw [hx] at e5;cases hk:kz v with
   | nil=>rw [hk] at e5;exact e5.elim
   | cons _ _=>rfl
theorem zfm {vs:List δ}(hne:0 < vs.length) (hv:∀ v∈vs,Tu kz s.heap v) {Q:gb->ξ->Prop}(q:Q (kdOf kz vs) s):Δ (Λ prog w) A (keyKind' vs.toArray) Q E s:=by
 unfold kdOf at q;by_cases c:vs.all (fun v=>!(kz v).isEmpty)=true
 ·rw [if_pos c] at q;refine kind_all hne hv (fun v hm e=>?_) q;have:=ϒ.mp c v hm;rw [e] at this;cases this
 ·rw [if_neg c] at q;obtain ⟨v,vr,rfl⟩:∃ v vr,vs=v::vr:=by
   match vs,hne with
   | v::vr,_=>exact ⟨v,vr,rfl⟩
  rw [PyProof.Rows.kat_kind_eq,rO,map_eq_pure_bind];refine γ (γ (qL _ hv fun fs hf=>ι ?_))
  have ha:¬ (fs.toArray.all fun x=>x.isSome)=true:=fun h=>c (by
   rw [List.all_toArray] at h;have e1:(fs.map (·.isSome)).all id=true:=by rw [cM];exact h
   rw [hf,cM] at e1
   exact e1)
  rw [if_neg ha];obtain ⟨f,fr,rfl⟩:∃ f fr,fs=f::fr:=by
   match fs,hf with
   | f::fr,_=>exact ⟨f,fr,rfl⟩
  have hf1:f.isSome=!(kz v).isEmpty:=(Ψ hf).1;have e0:(((f::fr).toArray[0]?).bind id).isSome=!(kz v).isEmpty:=by rw [<- hf1];rfl
  rw [e0];dsimp only at q;cases hk:(kz v).isEmpty with
  | false=>
   rw [hk] at q;rw [if_pos (by rfl)];exact ι q
  | true=>
   rw [hk] at q;rw [if_neg (by decide)];rw [PyProof.Rows.oneTypeOnly'_eq,rO,map_eq_pure_bind];refine γ (γ (γ (W.kas_mapM (r:=bJ "tuple") _ (fun u hu Q' hq=>?_) (ι ?_))))
   ·obtain ⟨⟨b,o,xs,m,e1,e2,e3,e4,e5⟩⟩:=hv u hu;rw [e1];exact bI (T:="tuple") ⟨o,e2,e3⟩ hq
   have hall2:((mF (fun _=>bJ "tuple") (v::vr)).toArray.all fun x=>x==bJ "tuple")=true:=by
    simp only [List.all_toArray,cM,ϒ];intro _ _;show (bJ "tuple"==bJ "tuple")=true
    decide
   have h0:(mF (fun _=>bJ "tuple") (v::vr)).toArray[0]?=some (bJ "tuple"):=by simp
   rw [h0];simp only [hall2,if_true];exact ι (ι q)
theorem U4:∀ x y:List Int,HT.lexLt x y=lexB x y
 | [],[]=>rfl
 | [],_::_=>rfl
 | _::_,[]=>rfl
 | a::x,b::y=>by rw [HT.qz,U4 x y];rfl
theorem intsAre_of:∀ {vs:List δ}{ns:List Int},VR vs ns->fY vs ns
 | [],[],_=>.nil
 | [],_::_,h=>h.elim
 | _::_,[],h=>h.elim
 | _::_,_::_,⟨⟨t,e⟩,h⟩=>by subst e;exact .cons _ t (intsAre_of h)
theorem zan {G:bA->Prop}{kd:gb}(hkd:kd=general'\/kd=oneType') (hu:A.units < ϥ) (hg:∀ x,G x->Tu kz s.heap x.1):LtOk lexO (fun x=>kz x.1) G kd (Λ prog w) A E s:=by
 intro x y st Q gx gy hk q;obtain ⟨⟨a,o,xs,n,e1,e2,e5,e3,e4⟩⟩:=hg x gx;obtain ⟨⟨b,u,ys,m,f1,f2,f5,f3,f4⟩⟩:=hg y gy;have q:Q (some (lexB (kz x.1) (kz y.1))) st:=q;rw [<- U4] at q;rw [lt'_eq];refine Ϣ (nG ?_);rw [hk,e1,f1];refine Ϣ (wpS_lift (iC ?_));rcases hkd with rfl | rfl
 ·show Δ _ _ (oneLt' false (.ref a) (.ref b)) _ _ _
  exact W.kat_one _ _ (HT.J2 (l:=a) (b:=b) (items:=xs) (items2:=ys) ⟨o,e2,e5,n,e3⟩ ⟨u,f2,f5,m,f3⟩ (intsAre_of e4) (intsAre_of f4) hu ⟨rfl,aR q⟩)
 ·rw [PyProof.Rows.keyLt'_oneType,PyProof.Rows.oneLt'_eq];simp only [if_true];refine γ (wpAny_cRoomFor hu ?_);obtain ⟨cls,dd,data,sl⟩:=o;obtain ⟨cls2,dd2,data2,sl2⟩:=u;simp only at e3 e5 f3 f5;subst e3 e5 f3 f5;refine γ (wpAny_callSpecialIfBound?_slot ⟨_,e2,rfl⟩ gZ (lq gZ ⟨_,e2,rfl⟩ oM (nZ _ _) (HT.wR a b xs ys n m dd dd2 sl sl2 _ _ (intsAre_of e4) (intsAre_of f4)) ⟨e2,f2,?_⟩));exact aO ⟨rfl,aR q⟩
theorem zh3 {vs:List δ}{G:bA->Prop}(hu:A.units < ϥ) (hg:∀ x,G x->Tu kz s.heap x.1):LtOk lexO (fun x=>kz x.1) G (kdOf kz vs) (Λ prog w) A E s:=by
 unfold kdOf;split
 ·refine zkq fun x hx=>?_
  obtain ⟨⟨b,o,xs,m,q1,q2,q3,q4,q5⟩⟩:=hg x hx;exact ⟨b,o,xs,m,q1,q2,q4,q5⟩
 ·split
  ·exact zan (.inl rfl) hu hg
  ·split
   ·exact zan (.inr rfl) hu hg
   ·exact zan (.inl rfl) hu hg
def Jx (kz:δ->List Int) (vs out:List δ):Prop:=out.Perm vs/\out.Pairwise fun x y=>lexB (kz y) (kz x)=false
theorem qZ:∀ (vs:List δ),vs.zip vs=vs.map fun v=>(v,v)
 | []=>rfl
 | v::vs=>by rw [aC,qZ vs];rfl
def VM (O:bN) (kz:δ->O.α) (vs out:List δ):Prop:=out.Perm vs/\out.Pairwise fun x y=>O.blt (kz y) (kz x)=false
theorem qt {O:bN}{kz:δ->O.α}{vs:List δ}{st:aU}(h:(ϊ st).Perm (vs.toArray.zip vs.toArray)) (hs:Srt (O:=O) (fun x=>kz x.1) (ϊ st) 0 (vs.toArray.zip vs.toArray).size):VM O kz vs ((ϊ st).map (·.2)).toList:=by
 have hz:(vs.toArray.zip vs.toArray).toList=vs.map fun v=>(v,v):=by rw [rP];exact qZ vs
 have p:=nU.mp h;rw [hz] at p;have same:∀ x∈(ϊ st).toList,x.1=x.2:=fun x hx=>by obtain ⟨v,_,rfl⟩:=Φ.mp (p.mem_iff.mp hx);rfl
 refine ⟨?_,?_⟩
 ·rw [rQ];have:=p.map (fun x:bA=>x.2)
  rwa [Ϭ,show ((fun x:bA=>x.2)∘fun v=>(v,v))=(id:δ->δ) from rfl,List.map_id] at this
 ·rw [rQ,eQ];refine dG.mpr fun i j h1 h2 h3=>?_
  have hsz:(ϊ st).size=(vs.toArray.zip vs.toArray).size:=h.size_eq;have hj:j < (ϊ st).size:=by simpa using h2
  have:=hs i j (aW _) (by omega) (by omega);unfold kk at this;rw [getElem?_pos (ϊ st) i (by omega),getElem?_pos (ϊ st) j hj] at this;have e1:=same (ϊ st)[i] (by simp);have e2:=same (ϊ st)[j] (by simp);have h4:O.blt (kz (ϊ st)[j].1) (kz (ϊ st)[i].1)=false:=this;rw [e1,e2] at h4;simpa using h4
theorem zbO {O:bN}{kz:δ->O.α}{kd:gb}{a:Addr}{vs:List δ}{n:Nat}{P:Fin->ξ->Prop}(ho:s.heap.get? a=some (bH "list" vs.toArray n)) (h128:vs.length < 64)
  (hk:∀ h',2<=vs.length->(∀ b o,b≠a->s.heap.get? b=some o->h'.get? b=some o)->(∀ Q:gb->ξ->Prop,Q kd { s with heap:=h' }->Δ (Λ prog w) A (keyKind' vs.toArray) Q E { s with heap:=h' })/\LtOk O (fun x=>kz x.1) (fun x=>∃ v∈vs,x=(v,v)) kd (Λ prog w) A E { s with heap:=h' })
  (h:∀ out:Array δ,VM O kz vs out.toList->P (.done (.ret .none)) { s with heap:=lg s.heap a vs out }):Δ (Λ prog w) A (Τ.«list.sort» ⟨[.ref a],[]⟩) P E s:=by
 have ha:a < s.heap.objs.size:=Ε ho;have hsl:vs.length<=sizeLine:=by rw [ϵ];lia
 obtain ⟨e1,ho1⟩:∃ e1,(s.heap.update a (aL fun _=>#[])).get? a=some (bH "list" #[] e1):=⟨_,get?_update_seq ho (fun _=>#[])⟩
 rw [list_sort_plain];refine γ (nQ ho rfl (γ (iD ho rfl (γ (seqEpoch_at ho1 rfl (γ (wpAny_newTuple (γ (p8 (ao ?_) (aW _))) (by simpa using hsl))))) (by simpa using hsl) (aW _))));have ho6:(((s.heap.update a (aL fun _=>#[])).push (bH "tuple" vs.toArray 0)).push (bH "list" #[] 0)).get? a=some (bH "list" #[] e1):=
  θ _ (θ _ ho1)
 have kp:∀ b o,b≠a->s.heap.get? b=some o->(((s.heap.update a (aL fun _=>#[])).push (bH "tuple" vs.toArray 0)).push (bH "list" #[] 0)).get? b=some o:=fun b o hb e=>
  θ _ (θ _ (by rw [cB _ _ _ _ hb];exact e))
 show Δ (Λ prog w) A _ P E { s with heap:=((s.heap.update a (aL fun _=>#[])).push (bH "tuple" vs.toArray 0)).push (bH "list" #[] 0) }
 have tail:∀ st':aU,VM O kz vs ((ϊ st').map (·.2)).toList->((ϊ st').map (·.2)).size=vs.length->failedOf st'=none->Δ (Λ prog w) A (do
   let touched:=(<- seqEpoch a) != e1
   Τ.List.listUpdate (.ref a) fun _=>(ϊ st').map (·.2)
   if let some e:=failedOf st' then rule "list.sort.comparison-raised";throw e
   if touched then rule "list.sort.modified";raiseError "ValueError" "list modified during sort"
   ret .none) P E { s with heap:=((s.heap.update a (aL fun _=>#[])).push (bH "tuple" vs.toArray 0)).push (bH "list" #[] 0) }:=fun st' k z f=>by refine γ (seqEpoch_at ho6 rfl (γ (iD ho6 rfl ?_ (aW _) (by lia))));rw [f];simp only [bne_self_eq_false,bB,if_false];exact ι (h _ k)
 have pz:(vs.toArray.zip vs.toArray).size=vs.length:=by simp
 by_cases h2:vs.toArray.size < 2
 ·rw [if_pos h2,if_pos h2];refine γ (ι ?_);dsimp only;rw [StateT.run_pure];refine γ (ι ?_);refine tail (aU.mk' general' (vs.toArray.zip vs.toArray) #[] 7 none) (qt (Array.Perm.refl _) fun i j a c e=>?_) (by rw [Array.size_map];exact pz) rfl;have h2':vs.length < 2:=by simpa using h2
  obtain rfl:i=j:=by lia
  exact bU _
 ·have h2':2<=vs.length:=by simpa using h2
  rw [if_neg h2,if_neg h2];obtain ⟨k1,L⟩:=hk _ h2' kp;refine γ (k1 _ ?_)
  have B:Bs (fun x=>∃ v∈vs,x=(v,v)) kd (vs.toArray.zip vs.toArray) #[] (aU.mk' kd (vs.toArray.zip vs.toArray) #[] 7 none):=⟨Array.Perm.refl _,fun x hx=>by
   rw [rP,show vs.toArray.toList=vs from rfl,qZ] at hx;obtain ⟨v,hm,rfl⟩:=Φ.mp hx
   exact ⟨v,hm,rfl⟩,rfl,rfl,rfl⟩
  refine γ (bG (zdZ (Q:=fun _ st'=>(ϊ st').Perm (vs.toArray.zip vs.toArray)/\failedOf st'=none/\Srt (O:=O) (fun x=>kz x.1) (ϊ st') 0 (vs.toArray.zip vs.toArray).size) L B (by lia) (by lia) fun st' a1 a2 a3=>⟨a1,a2,a3⟩) ?_ fun _ _ e=>e);rintro ⟨⟨⟩,st'⟩ s' ⟨rfl,a1,a2,a3⟩;exact tail st' (qt a1 a3) (by rw [Array.size_map,a1.size_eq];exact pz) a2
theorem Qk {a:Addr}{vs:List δ}{n:Nat}{P:Fin->ξ->Prop}(ho:s.heap.get? a=some (bH "list" vs.toArray n)) (hv:∀ v∈vs,Tu kz s.heap v) (hn:∀ v∈vs,v≠.ref a) (h128:vs.length < 64) (hu:A.units < ϥ)
  (h:∀ out:Array δ,Jx kz vs out.toList->P (.done (.ret .none)) { s with heap:=lg s.heap a vs out }):Δ (Λ prog w) A (Τ.«list.sort» ⟨[.ref a],[]⟩) P E s:=by
 refine zbO (O:=lexO) (kz:=kz) (kd:=kdOf kz vs) ho h128 (fun h' h2 kp=>?_) h;have hv6:∀ v∈vs,Tu kz h' v:=fun v hm=>(hv v hm).keep fun b o e=>kp b o fun eb=>hn v hm (by rw [e,eb])
 refine ⟨fun Q q=>zfm (s:={ s with heap:=h' }) (by lia) hv6 q,zh3 hu fun x hx=>?_⟩;obtain ⟨v,hm,rfl⟩:=hx;exact hv6 v hm
theorem Qj {l:Addr}{vs:List δ}{Q:δ->ξ->Prop}(hl:s.heap.IsList l vs.toArray) (hv:∀ v∈vs,Tu kz s.heap v) (h128:vs.length < 64) (hu:A.units+8 < ϥ)
  (h:∀ out:Array δ,Jx kz vs out.toList->Q (.ref (s.heap.objs.size+1)) { s with heap:=sortedAll s.heap vs out }):Δ (Λ prog w) A (call (.builtin "sorted") [.ref l]) Q E s:=by
 have hsl:vs.length<=sizeLine:=by rw [ϵ];lia
 refine oh kind_sorted plain_sorted entry_sorted (args_sorted1 _) ?_;unfold Τ.«sorted»;refine γ (m:=checkCount "sorted" 1 1 _) (ι (γ (collect_list hl (γ (p8 ?_ (by simpa using hsl))) (by simpa using hsl))));have e1:((s.heap.push (bH "list" #[] 0)).update s.heap.objs.size (aL (·++vs.toArray))).objs.size=s.heap.objs.size+1:=by rw [Heap.size_update,pO]
 have e2:(((s.heap.push (bH "list" #[] 0)).update s.heap.objs.size (aL (·++vs.toArray))).push (bH "list" vs.toArray 0)).get? (s.heap.objs.size+1)=some (bH "list" vs.toArray 0):=by rw [<- e1];exact Ζ _ rfl
 have kp:∀ b o,s.heap.get? b=some o->(((s.heap.push (bH "list" #[] 0)).update s.heap.objs.size (aL (·++vs.toArray))).push (bH "list" vs.toArray 0)).get? b=some o:=fun b o q=>by have hb:=Ε q;exact θ _ (by rw [cB _ _ _ _ (ϋ hb)];exact θ _ q)
 show Δ _ _ _ _ _ { s with heap:=((s.heap.push (bH "list" #[] 0)).update s.heap.objs.size (aL (·++vs.toArray))).push (bH "list" vs.toArray 0) }
 rw [e1];refine γ (ao (aJ slot_list_sort ⟨_,e2,rfl⟩ entry_list_sort (Qk (kz:=kz) e2 (fun v hm=>(hv v hm).keep fun b o _=>kp b o) (fun v hm e=>?_) h128 (by show A.units+1+1 < _;omega) fun out k=>⟨_,rfl,ι ⟨_,rfl,h out k⟩⟩) (args_list_sort _)));obtain ⟨b,o,xs,m,q1,q2,_⟩:=(hv v hm).it;rw [q1] at e;have lt:=Ε q2;rw [Θ.inj e] at lt;exact Nat.not_lt.mpr (fM _) lt
end
def En (M:Nat) (e:Nat->Prop):Nat->Nat->Nat->Prop
 | 0,i,_=>e i
 | n+1,i,pt=>e i\/En M e n ((i*5+1+pt / 32) % (M+1)) (pt / 32)
noncomputable def itL (M:Nat):Nat->Nat->Nat
 | 0,i=>i
 | m+1,i=>itL M m ((i*5+1) % (M+1))
theorem ziK {M:Nat}{e:Nat->Prop}:∀ (n m i:Nat),m<=n->e (itL M m i)->En M e n i 0
 | 0,0,i,_,h=>h
 | 0,m+1,i,l,_=>absurd l (by omega)
 | n+1,0,i,_,h=>.inl h
 | n+1,m+1,i,l,h=>.inr (ziK n m _ (by omega) h)
theorem zfJ {M:Nat}{e:Nat->Prop}(cyc:∀ i,i < M+1->∀ j,j < M+1->∃ m,m < M+1/\itL M m i=j) (ex:∃ j,j < M+1/\e j):∀ (k i pt:Nat),pt < 32 ^ k->i < M+1->En M e (M+k) i pt
 | 0,i,pt,h,hi=>by
  obtain ⟨j,hj,he⟩:=ex;obtain ⟨m,hm,rfl⟩:=cyc i hi j hj;obtain rfl:pt=0:=by simpa using h
  exact ziK M m i (by omega) he
 | k+1,i,pt,h,hi=>.inr (zfJ cyc ex k _ _ (by rw [Nat.pow_succ] at h;omega) (mj _ (by omega)))
theorem cyc7:∀ i,i < 7+1->∀ j,j < 7+1->∃ m,m < 7+1/\itL 7 m i=j:=by decide +kernel
theorem zkX:∀ i,i < 31+1->∀ j,j < 31+1->∃ m,m < 31+1/\itL 31 m i=j:=by decide +kernel
theorem zbk (h:Int):aA h < 32 ^ 13:=by
 unfold aA;have:h % (2 ^ 64:Int) < 2 ^ 64:=bC _ (by decide);have h0:0<=h % (2 ^ 64:Int):=b8 _ (by decide);have e:(32 ^ 13:Nat)=2 ^ 65:=by decide
 rw [e];omega
theorem sub_len:∀ {xs ys:List Nat},xs.Nodup->(∀ x∈xs,x∈ys)->xs.length<=ys.length
 | [],ys,_,_=>aW _
 | x::xs,ys,n,h=>by
  have hx:=h x μ;have:=sub_len (xs:=xs) (ys:=ys.erase x) (b7.mp n).2 fun y hy=>(List.mem_erase_of_ne (a:=y) (b:=x) fun e=>(b7.mp n).1 (by rw [<- e];exact hy)).mpr (h y (ν _ hy))
  rw [List.length_erase_of_mem hx] at this;have:=List.length_pos_of_mem hx;simp only [η];omega
section
variable {t:ο}
theorem zaT (j:Nat):ο.has #[] j=false:=by unfold ο.has;simp
set_option tactic.hygienic true in
theorem Yr {j i:Nat}(h:t.slot j=.live i):t.place[i]?=some j:=by
 unfold ni at h;dsimp only at h;split at h
 ·rename_i e
  cases h;exact eq_of_beq e
 ·split at h <;> cases h
theorem Ue {j:Nat}(hd:t.dummies=#[]):t.slot j=.empty\/∃ i,t.slot j=.live i:=by
 unfold ni;dsimp only;split
 ·exact .inr ⟨_,rfl⟩
 ·rw [hd,zaT];exact .inl rfl
theorem JN (hd:t.dummies=#[]) (hp:t.place.size < 8):∃ j,j < 7+1/\t.slot j=.empty:=by
 refine mZ fun no=>?_
 have all:∀ x∈ϝ 8,x∈t.place.toList:=fun x hx=>by
  rcases Ue (j:=x) hd with e | ⟨i,e⟩
  ·exact absurd ⟨x,aY.mp hx,e⟩ no
  ·have:=Yr e;rw [<- ϧ] at this;exact ϣ this
 have:=sub_len List.nodup_range all;rw [cY,Ξ] at this;omega
noncomputable def P0 (i pt:Nat):iu:=⟨i,0,i,pt,none⟩
theorem zgG (hm:t.mask=7) (h:Int):t.probeStart h=P0 (aA h % 8) (aA h):=by unfold ο.probeStart;rw [hm];dsimp only;have:fj 7 (aA h % (7+1))=aA h % (7+1):=if_neg (by omega);rw [this,mR];rfl
theorem adv7 (hm:t.mask=7) (i pt:Nat):t.advance (P0 i pt)=P0 ((i*5+1+pt / 32) % 8) (pt / 32):=by
 unfold ο.advance;rw [if_neg (show ¬ (P0 i pt).more > 0 from bQ 0),hm];have:fj 7 ((i*5+1+pt / 32) % (7+1))=(i*5+1+pt / 32) % (7+1):=if_neg (by omega);show (⟨_,fj 7 ((i*5+1+pt / 32) % (7+1)) - ((i*5+1+pt / 32) % (7+1)),_,_,_⟩:iu)=_
 rw [this,mR];rfl
theorem zdm {hs:Nat->Int}{h:Int}(hm:t.mask=7) (hd:t.dummies=#[]):∀ (n f i pt:Nat),n < f->En 7 (fun j=>t.slot j=.empty) n i pt ->
  (∃ j,cz t hs h f (P0 i pt)=some (.empty j none)/\t.slot j=.empty) \/
  ∃ j i' n' i2 p2,cz t hs h f (P0 i pt)=some (.candidate j i' (P0 i2 p2))/\t.slot j=.live i'/\n' < n/\En 7 (fun j=>t.slot j=.empty) n' i2 p2
 | n,0,i,pt,l,_=>absurd l (by omega)
 | n,f+1,i,pt,l,e=>by
  rcases Ue (j:=i) hd with s | ⟨i',s⟩
  ·left;refine ⟨i,?_,s⟩;unfold cz;rw [show t.slot (P0 i pt).j=.empty from s];rfl
  ·cases n with
   | zero=>exact absurd (s.symm.trans e) (by simp)
   | succ n=>
    have e2:En 7 (fun j=>t.slot j=.empty) n ((i*5+1+pt / 32) % (7+1)) (pt / 32):=e.resolve_left fun q=>absurd (s.symm.trans q) (by simp)
    have hgo:cz t hs h (f+1) (P0 i pt)=if hs i'==h then some (.candidate i i' (P0 ((i*5+1+pt / 32) % (7+1)) (pt / 32))) else cz t hs h f (P0 ((i*5+1+pt / 32) % (7+1)) (pt / 32)):=by rw [cz,show t.slot (P0 i pt).j=.live i' from s];dsimp only;rw [adv7 hm];rfl
    rw [hgo];by_cases c:(hs i'==h)=true
    ·rw [if_pos c];exact .inr ⟨i,i',n,_,_,rfl,s,dD _,e2⟩
    ·rw [if_neg c];rcases zdm hm hd n f _ _ (by omega) e2 with k | ⟨j,i'',n',i2,p2,k1,k2,k3,k4⟩
     ·exact .inl k
     ·exact .inr ⟨j,i'',n',i2,p2,k1,k2,by omega,k4⟩
end
def Up (l:List Nat):Prop:=l.Pairwise (· < ·)
theorem Z8 {xs:Array Nat}{j:Nat}(up:Up xs.toList):∀ (f lo hi:Nat),hi<=xs.size->lo<=hi->hi - lo<=f->(∀ i (h:i < xs.size),i < lo->xs[i] < j)->(∀ i (h:i < xs.size),hi<=i->j<=xs[i]) ->
  fG xs j f lo hi<=xs.size/\(∀ i (h:i < xs.size),i < fG xs j f lo hi->xs[i] < j)/\∀ i (h:i < xs.size),fG xs j f lo hi<=i->j<=xs[i]
 | 0,lo,hi,h1,h2,h3,h4,h5=>by
  obtain rfl:lo=hi:=by omega
  exact ⟨h1,h4,h5⟩
 | f+1,lo,hi,h1,h2,h3,h4,h5=>by
  unfold fG;by_cases c:lo < hi
  ·rw [if_pos c];dsimp only;have hm:(lo+hi) / 2 < xs.size:=by omega
   have eg:xs.getD ((lo+hi) / 2) j=xs[(lo+hi) / 2]:=by simp [gk,hm]
   have pw:=dG.mp up;rw [eg];by_cases c2:xs[(lo+hi) / 2] < j
   ·rw [if_pos c2];refine Z8 up f _ _ h1 (by omega) (by omega) (fun i hi' l=>?_) h5;rcases gf i ((lo+hi) / 2) with q | q
    ·have:=pw i ((lo+hi) / 2) (by simpa using hi') (by simpa using hm) q;simp only [aV] at this;omega
    ·obtain rfl:i=(lo+hi) / 2:=by omega
     exact c2
   ·rw [if_neg c2];refine Z8 up f _ _ (by omega) (by omega) (by omega) h4 (fun i hi' l=>?_);rcases gf ((lo+hi) / 2) i with q | q
    ·have:=pw ((lo+hi) / 2) i (by simpa using hm) (by simpa using hi') q;simp only [aV] at this;omega
    ·obtain rfl:i=(lo+hi) / 2:=by omega
     omega
  ·rw [if_neg c];obtain rfl:lo=hi:=by omega
   exact ⟨h1,h4,h5⟩
theorem uW {xs:Array Nat}{j:Nat}(up:Up xs.toList):Ν xs j<=xs.size/\(∀ i (h:i < xs.size),i < Ν xs j->xs[i] < j)/\∀ i (h:i < xs.size),Ν xs j<=i->j<=xs[i]:=
 Z8 up _ _ _ (χ _) (aW _) (by omega) (fun i _ h=>absurd h (by omega)) fun i h l=>absurd h (by omega)
theorem Ku {xs:Array Nat}(up:Up xs.toList) {m:Nat}(h:m < xs.size):Ν xs (xs[m]+1)=m+1:=by
 obtain ⟨k1,k2,k3⟩:=uW (j:=xs[m]+1) up;have pw:=dG.mp up;have a1:¬ Ν xs (xs[m]+1)<=m:=fun l=>by have:=k3 m h l;omega
 have a2:¬ m+1 < Ν xs (xs[m]+1):=fun l=>by have q:=k2 (m+1) (by omega) l;have:=pw m (m+1) (by simpa using h) (by simp;omega) (by omega);simp only [aV] at this;omega
 omega
theorem Ks {xs:Array Nat}(up:Up xs.toList):Ν xs 0=0:=by
 obtain ⟨k1,k2,k3⟩:=uW (j:=0) up;cases e:Ν xs 0 with
 | zero=>rfl
 | succ n=>rw [e] at k1 k2;exact absurd (k2 0 (by omega) (by omega)) (by omega)
noncomputable def slotAt (p:Array Nat):Nat->Nat
 | 0=>0
 | i+1=>p.getD i 0+1
theorem qP {xs:Array Nat}(up:Up xs.toList):∀ {i:Nat},i<=xs.size->Ν xs (slotAt xs i)=i
 | 0,_=>Ks up
 | i+1,h=>by
  have e:slotAt xs (i+1)=xs[i]+1:=by simp [slotAt,gk,Nat.lt_of_succ_le h]
  rw [e];exact Ku up h
theorem zc8 {l:List Nat}(h:l.length<=1):Up l:=by
 match l,h with
 | [],_=>exact fL
 | [a],_=>exact pG _ _
theorem Jb {α:Type}(xs:Array α) (p:Nat) (x:α):(bF xs p x).toList=xs.toList.take p++x::xs.toList.drop p:=by unfold bF;have e:xs.toList.take (xs.size - p+p)=xs.toList:=cL (by simp;omega);simp [Array.toList_extract,List.extract_eq_drop_take];exact cL (by simp)
theorem xU {α:Type}(xs:Array α) (p:Nat) (x:α):(bF xs p x).toList.Perm (x::xs.toList):=by rw [Jb];exact List.perm_middle.trans (by rw [List.take_append_drop])
theorem Ja {xs:Array Nat}{j:Nat}(up:Up xs.toList) (hj:j ∉ xs.toList):Up (bF xs (Ν xs j) j).toList:=by
 obtain ⟨k1,k2,k3⟩:=uW (j:=j) up;rw [Jb];have a1:∀ x∈xs.toList.take (Ν xs j),x < j:=fun x hx=>by obtain ⟨i,hi,rfl⟩:=oN.mp hx;simp only [aV];exact k2 i (by have:=hi;simp at this;omega) (by have:=hi;simp at this;omega)
 have a2:∀ x∈xs.toList.drop (Ν xs j),j < x:=fun x hx=>by
  have hm:x∈xs.toList:=List.mem_of_mem_drop hx;obtain ⟨i,hi,rfl⟩:=List.mem_drop_iff_getElem.mp hx;simp only [aV] at hm ⊢;have hb:Ν xs j+i < xs.size:=by have:=hi;simp at this;omega
  have k:=k3 (Ν xs j+i) hb (by omega);rcases gf j (xs[Ν xs j+i]'hb) with q | q
  ·exact q
  ·have e:xs[Ν xs j+i]'hb=j:=Nat.le_antisymm q k;rw [e] at hm;exact absurd hm hj
 refine List.pairwise_append.mpr ⟨mY (rN _ _) up,gm.mpr ⟨a2,mY (List.drop_sublist _ _) up⟩,fun a ha b hb=>?_⟩;rcases υ.mp hb with rfl | hb
 ·exact a1 a ha
 ·have:=a1 a ha;have:=a2 b hb;omega
theorem za3 {t:ο}{j:Nat}(up:Up t.place.toList) (h:t.slot j=.empty):j ∉ t.place.toList:=fun hm=>by
 obtain ⟨k1,k2,k3⟩:=uW (j:=j) up;obtain ⟨i,hi,e⟩:=fU hm;simp only [aV] at e;have hi':i < t.place.size:=by simpa using hi
 have a:Ν t.place j<=i:=by
  rcases gf i (Ν t.place j) with q | q
  ·have:=k2 i hi' q;omega
  ·exact q
 have b:i<=Ν t.place j:=by
  rcases gf (Ν t.place j) i with q | q
  ·have:=k3 (Ν t.place j) (by omega) (χ _);have:=dG.mp up (Ν t.place j) i (by simp;omega) hi q;simp only [aV] at this;omega
  ·exact q
 have c:Ν t.place j=i:=by omega
 unfold ni at h;dsimp only at h;rw [c,ϛ hi',e] at h;rw [if_pos (beq_self_eq_true _)] at h;cases h
def Ow (o:Array (Option Nat)) (k:Nat):Prop:=o.size=32/\(o.toList.filterMap id).Perm (ϝ k)
theorem zdP:∀ {l:List (Option Nat)},(∀ x∈l,x≠none)->(l.filterMap id).length=l.length
 | [],_=>rfl
 | none::l,h=>absurd rfl (h none μ)
 | some x::l,h=>by
  show (x::l.filterMap id).length=_
  rw [η,zdP fun y hy=>h y (ν _ hy)];rfl
theorem zdO:∀ {l:List (Option Nat)}{j k:Nat},l[j]?=some none->((l.set j (some k)).filterMap id).Perm (k::l.filterMap id)
 | [],j,k,h=>nomatch h
 | x::l,0,k,h=>by cases (show some x=some none from h);exact bx _
 | x::l,j+1,k,h=>by
  have:=zdO (l:=l) (j:=j) (k:=k) h;show (List.filterMap id (x::l.set j (some k))).Perm _
  cases x with
  | none=>exact this
  | some y=>exact (this.cons y).trans (ie _ _ _)
theorem zfA {o:Array (Option Nat)}{k:Nat}(h:Ow o k) (hk:k < 32):∃ j,j < 31+1/\o.getD j (some 0)=none:=by
 refine mZ fun no=>?_
 have:(o.toList.filterMap id).length=o.toList.length:=zdP fun x hx e=>by
  subst e;obtain ⟨i,hi,e⟩:=fU hx;have hi':i < o.size:=by simpa using hi
  refine no ⟨i,by rw [h.1] at hi';exact hi',?_⟩;simp only [aV] at e;simp [gk,hi',e]
 rw [h.2.length_eq,cY,Ξ,h.1] at this;omega
theorem zaX {o:Array (Option Nat)}:∀ (n f i pt:Nat),n < f->En 31 (fun j=>o.getD j (some 0)=none) n i pt->∃ j,dj 31 o f i pt=some j/\o.getD j (some 0)=none
 | n,0,i,pt,l,_=>absurd l (by omega)
 | n,f+1,i,pt,l,e=>by
  unfold dj;cases hf:(ϝ (fj 31 i+1 - i)).find? fun k=>(o.getD (i+k) (some 0)).isNone with
  | some k=>exact ⟨i+k,rfl,by simpa using List.find?_some hf⟩
  | none=>
   have q:=List.find?_eq_none.mp hf 0 (aY.mpr (by unfold fj;split <;> omega));have q:¬ o.getD i (some 0)=none:=fun e=>q (by show (o.getD (i+0) (some 0)).isNone=true;rw [Nat.add_zero,e];rfl)
   cases n with
   | zero=>exact absurd e q
   | succ n=>exact zaX n f _ _ (by omega) (e.resolve_left q)
theorem zdB:∀ (hs:List Int) (o:Array (Option Nat)) (k:Nat),Ow o k->k+hs.length<=32 ->
  ∃ o',hs.foldl (init:=some (o,k)) (fun acc h=>do
   let (owner,k) <- acc
   let j <- dj 31 owner (ir 31) (aA h % (31+1)) (aA h)
   pure (owner.setIfInBounds j (some k),k+1))=some (o',k+hs.length)/\Ow o' (k+hs.length)
 | [],o,k,h,_=>⟨o,rfl,h⟩
 | x::hs,o,k,h,l=>by
  simp only [η] at l;obtain ⟨j,e1,e2⟩:=zaX (31+13) (ir 31) (aA x % (31+1)) (aA x) (by decide) (zfJ zkX (zfA h (by omega)) 13 _ _ (zbk x) (mj _ (by omega)));have hj:j < o.size:=by
   rcases gf j o.size with q | q
   ·exact q
   ·rw [show o.getD j (some 0)=some 0 by simp [gk,Nat.not_lt.mpr q]] at e2;cases e2
  have e3:o.toList[j]?=some none:=by rw [ϧ,ϛ hj];rw [show o.getD j (some 0)=o[j] by simp [gk,hj]] at e2;rw [e2]
  have h':Ow (o.setIfInBounds j (some k)) (k+1):=by refine ⟨by rw [Array.size_setIfInBounds];exact h.1,?_⟩;rw [Array.toList_setIfInBounds,List.range_succ];exact (zdO e3).trans ((h.2.cons k).trans (pQ (l₁:=[k])))
  obtain ⟨o',f1,f2⟩:=zdB hs _ _ h' (by omega);refine ⟨o',?_,by rw [η,show k+(hs.length+1)=k+1+hs.length by omega];exact f2⟩;rw [nA,η,show k+(hs.length+1)=k+1+hs.length by omega,<- f1]
  congr 1
  show (do let j <- dj 31 o (ir 31) (aA x % (31+1)) (aA x);pure (o.setIfInBounds j (some k),k+1))=_
  rw [e1];rfl
theorem QF {t:ο}{es:Array (Int×δ)}(n5:es.size=5):∃ t' order,t.relaid (es.map (·.1)) (mW 5)=some (t',order)/\t'.mask=31/\t'.dummies=#[]/\t'.led=t.led/\t'.place.size=5/\Up t'.place.toList/\(order.filterMap (es[·]?)).toList.Perm es.toList:=by
 have e32:ο.sizeAbove (mW 5) - 1=31:=by decide +kernel
 have w0:Ow (Array.replicate (31+1) none) 0:=⟨by simp,by simp⟩
 obtain ⟨o,e1,e2⟩:=zdB (es.map (·.1)).toList (Array.replicate (31+1) none) 0 w0 (by simp;omega);have el:((es.map (·.1)).toList).length=5:=by simp;exact n5
 have hl:cO 31 (es.map (·.1))=some o:=by unfold cO;rw [<- Array.foldl_toList,e1];rfl
 rw [el,pP] at e2;have live2:(((ϝ (31+1)).filterMap fun j=>(o.getD j none).map (j,·)).map (·.2))=o.toList.filterMap id:=by
  rw [rJ];have:o.toList=(ϝ (31+1)).map fun j=>o.getD j none:=by
   refine List.ext_getElem (by simp [e2.1]) fun i h1 h2=>?_
   have h1':i < o.size:=by simpa using h1
   simp [gk,h1']
  rw [this,gn]
  congr 1
  funext j
  show Option.map (fun x=>x.2) (Option.map (fun x=>(j,x)) (o.getD j none))=o.getD j none
  cases o.getD j none <;> rfl
 have hr:t.relaid (es.map (·.1)) (mW 5)=some ({ mask:=31,place:=(((ϝ (31+1)).filterMap fun j=>(o.getD j none).map (j,·)).map (·.1)).toArray,dummies:=#[],finger:=t.finger,led:=t.led,moves:=t.movedTo 31,plain:=t.plain },(((ϝ (31+1)).filterMap fun j=>(o.getD j none).map (j,·)).map (·.2)).toArray):=by unfold ο.relaid ο.laid;rw [e32,hl];rfl
 refine ⟨_,_,hr,rfl,rfl,rfl,?_,?_,?_⟩
 ·have:=congrArg List.length live2;rw [e2.2.length_eq] at this;simpa using this
 ·show Up (mF _ _)
  unfold Up;rw [rJ,List.pairwise_filterMap];refine cT.imp ?_ List.pairwise_lt_range;intro a b l x hx y hy;cases ha:o.getD a none <;> rw [ha] at hx <;> cases hx
  cases hb:o.getD b none <;> rw [hb] at hy <;> cases hy
  exact l
 ·rw [Array.toList_filterMap];rw [show ∀ l:List Nat,l.toArray.toList=l from fun _=>rfl,live2];refine (e2.2.filterMap _).trans (bR.of_eq ?_);rw [<- n5,show (ϝ es.size).filterMap (fun x=>es[x]?)=((ϝ es.size).map fun x=>es[x]?).filterMap id by rw [gn];rfl,show ((ϝ es.size).map fun x=>es[x]?)=es.toList.map some from List.ext_getElem (by simp) fun i h1 h2=>by simp,gn];exact List.filterMap_some
noncomputable def txOf:Int×δ->Str
 | (_,.str x _)=>x
 | _=>⟨#[]⟩
section
variable {prog:Χ}{w:Ϛ}
def Tx (w:Ϛ) (e:Int×δ):Prop:=∃ x t,e=(hashStr w x,bw x t)
structure Sg (P:Int×δ->Prop) (w:Ϛ) (h:Heap) (a:Addr) (led:Bool) (es:Array (Int×δ)) (ep:Nat) (tb:ο):Prop where
 at_:∃ o,h.get? a=some o/\o.ExactSet/\o.data=.set es ep tb
 tx:∀ e∈es.toList,P e
 fit:tb.fits es.size=true
 led_:tb.led=led
 pl:es.size=0\/tb.plain=false\/Up tb.place.toList
abbrev St (w:Ϛ) (h:Heap) (a:Addr) (led:Bool) (es:Array (Int×δ)) (ep:Nat) (tb:ο):Prop:=Sg (Tx w) w h a led es ep tb
def Ts (w:Ϛ) (h:Heap) (a:Addr) (led:Bool) (ks:List Str):Prop:=∃ es ep tb,St w h a led es ep tb/\(es.toList.map txOf).Perm ks
theorem St.el {h:Heap}{a:Addr}{led:Bool}{es:Array (Int×δ)}{ep:Nat}{tb:ο}(z:∀ e∈es.toList,Tx w e):ElemsOf (PySem.strKind prog w) es.toList:=fun e he=>by obtain ⟨x,t,rfl⟩:=z e he;exact ⟨⟨x,by simp [PySem.strKind,oJ],rfl⟩,rfl⟩
theorem zdk {h:Heap}{a:Addr}{o:Obj}{es es':Array (Int×δ)}{ep:Nat}{t t':ο}(ho:h.get? a=some o) (hx:o.ExactSet) (hd:o.data=.set es ep t):
  ∃ u,(h.update a (Obj.putSet es' t')).get? a=some u/\u.ExactSet/\u.data=.set es' (ep+1) t':=by have k:=Ϲ (Obj.putSet es' t') ho (by rw [putSet_of es' t' hd];rfl);rw [putSet_of es' t' hd] at k;exact ⟨_,k,hx,rfl⟩
noncomputable def ledW (w:Ϛ):Bool:=!(w.params.followText "set-order")
noncomputable def set0 (w:Ϛ):Obj:={ cls:=.type "set",dict:=none,data:=.set #[] 0 (.fresh 0 0 (ledW w)) }
theorem Ts.keep {h h':Heap}{a:Addr}{led:Bool}{ks:List Str}(t:Ts w h a led ks) (k:∀ o,h.get? a=some o->h'.get? a=some o):Ts w h' a led ks:=by obtain ⟨es,ep,tb,⟨⟨o,ho,r⟩,x1,x2,x3,x4⟩,pm⟩:=t;exact ⟨es,ep,tb,⟨⟨o,k o ho,r⟩,x1,x2,x3,x4⟩,pm⟩
theorem zec (a:δ) {Q₁:δ->ξ->Prop}(h:Q₁ (.ref s.heap.objs.size) { s with heap:=s.heap.push (set0 w) }):
  ik (Λ prog w) A (.call (.builtin "set.__new__") ⟨[.type "set",a],[]⟩) (wants Q₁ E) s:=by
 refine codeAny_of_tree ?_;show Δ _ A.in1 (do checkBuiltinCall "set.__new__" ⟨[.type "set",a],[]⟩;again (.builtin "set.__new__" ⟨[.type "set",a],[]⟩)) _ _ s
 refine γ (cj (PySem.F.newCall_set_1 a) (ι ⟨mU o7 _,eO PySem.F.entry_set_new ?_⟩));rw [dh o7 _];unfold Τ.«set.__new__» Τ.Frozenset.newClass;have hsub:=sub_set_self;obtain ⟨hp,g,d,tk,os⟩:=s;dsimp only
 wp_walk
 refine oA (ι ?_);dsimp only;simp only [newObj];exact γ (wpAny_alloc (ι (ι h)))
structure Row (prog:Χ) (w:Ϛ) (T:String) (l:Addr) (its:Array δ) (OK:Heap->Prop) (Sx:Addr->Nat->Heap->Prop) (itO:Obj):Prop where
 there:∀ h,OK h->∃ o,h.get? l=some o/\o.cls=.type T
 keep:∀ h h',OK h->(∀ o,h.get? l=some o->h'.get? l=some o)->OK h'
 it:∀ {A:ϖ}{E:δ->ξ->Prop}{s:ξ}{Q:δ->ξ->Prop},OK s.heap->Q (.ref s.heap.objs.size) { s with heap:=s.heap.push itO }->Δ (Λ prog w) A (m5 (.ref l)) Q E s
 wk:∀ {A:ϖ}(I:Addr),A.handled=none->l≠I->Walks prog w A I [I,l] [I] its.size (fun i v=>its[i]?=some v) (Sx I)
 st:∀ h,OK h->Sx h.objs.size 0 (h.push itO)
 n1:isSubtype (.type T) (.type "set")=pure false
 n2:isSubtype (.type T) (.type "frozenset")=pure false
 n3:(bJ T==bJ "dict")=false
theorem rowL (l:Addr) (its:Array δ):Row prog w "list" l its (fun h=>h.IsList l its) (fun I i h=>h.IsListIter I l i/\h.IsList l its) { cls:=.type "list_iterator",data:=.fields #[.ref l,.int 0 0] } where
 there:=fun h ⟨o,e,c,_⟩=>⟨o,e,c⟩
 keep:=fun h h' ⟨o,e,r⟩ k=>⟨o,k o e,r⟩
 it:=fun h q=>nJ h q
 wk:=fun I hh hn=>Walks.list hh I l hn its
 st:=fun h k=>⟨⟨_,Ζ _ rfl,rfl,rfl⟩,k.push _⟩
 n1:=PySem.F.sub_list_set
 n2:=PySem.F.sub_list_frozenset
 n3:=by decide
theorem rowT (l:Addr) (its:Array δ):Row prog w "tuple" l its (fun h=>h.IsTuple l its) (fun I i h=>h.IsTupleIter I l i/\h.IsTuple l its) { cls:=.type "tuple_iterator",data:=.fields #[.ref l,.int 0 0] } where
 there:=fun h ⟨o,e,c,_⟩=>⟨o,e,c⟩
 keep:=fun h h' ⟨o,e,r⟩ k=>⟨o,k o e,r⟩
 it:=fun h q=>wpAny_pyIter_tuple h q
 wk:=fun I hh hn=>Walks.tuple hh I l hn its
 st:=fun h ⟨o,e,r⟩=>⟨⟨_,Ζ _ rfl,rfl,rfl⟩,⟨o,θ _ e,r⟩⟩
 n1:=by rw [lW];kernel_rfl
 n2:=by rw [lW];kernel_rfl
 n3:=by decide
theorem zbh {T:String}{l:Addr}{its:Array δ}{OK:Heap->Prop}{Sx:Addr->Nat->Heap->Prop}{itO:Obj}{Z:Heap->Prop}{Q:δ->ξ->Prop}(R:Row prog w T l its OK Sx itO) (hh:A.handled=none) (hl:OK s.heap)
  (hf:∀ (s1:ξ) (R':Result->ξ->Prop),(∀ b o,s.heap.get? b=some o->s1.heap.get? b=some o)->s1.heap.get? s.heap.objs.size=some (set0 w) ->
   Walks prog w A.in1.in1.in1 (s.heap.push (set0 w)).objs.size [(s.heap.push (set0 w)).objs.size,l] [(s.heap.push (set0 w)).objs.size] its.size (fun i v=>its[i]?=some v) (Sx (s.heap.push (set0 w)).objs.size) ->
   s.heap.objs.size ∉ [(s.heap.push (set0 w)).objs.size,l]->Sx (s.heap.push (set0 w)).objs.size 0 s1.heap->(∀ s',Moved (s.heap.objs.size::[(s.heap.push (set0 w)).objs.size]) (fun a b=>b=a) s1 s'->Z s'.heap->R' (.ok (.ret .none)) s') ->
   ik (Λ prog w) A.in1.in1 (.builtin "set.update.loop" ⟨[.ref s.heap.objs.size,.ref (s.heap.push (set0 w)).objs.size],[]⟩) R' s1)
  (h:∀ (h':Heap) (tk:Nat),Z h'->(∀ b o,s.heap.get? b=some o->h'.get? b=some o)->Q (.ref s.heap.objs.size) { s with heap:=h',toks:=tk }):
  Δ (Λ prog w) A (call (.type "set") [.ref l]) Q E s:=by
 obtain ⟨c,tl,hmro⟩:=bh.mro;have hmade:=bh.made;have hsub:=bh.sub;refine pN (codeAny_of_tree ?_);show Δ _ _ (callAny (.type "set") _) _ _ _
 refine ι ⟨Code.quiet_builtin _ (by decide +kernel),eO PySem.F.entry_type_call ?_⟩;rw [ϖ.under_plain (weight_type_call_type "set" [.ref l] []) rfl];have h1:=bh.notType;have h2:=bh.canCreate;have hct:=PySem.F.typeCall_set_1 (.ref l)
 repeat (any_goals (first | assumption | wp_step))
 refine fC (zec (.ref l) (E:=E) (Q₁:=fun ob s1=>ob=.ref s.heap.objs.size/\s1={ s with heap:=s.heap.push (set0 w) }) ⟨rfl,rfl⟩) fun r s1 hr=>?_
 cases r with
 | error e=>exact hr
 | ok fl=>
  cases fl with
  | ret ob=>
   obtain ⟨rfl,rfl⟩:=hr;have hS:(s.heap.push (set0 w)).get? s.heap.objs.size=some (set0 w):=Ζ _ rfl;have hT:lu { s with heap:=s.heap.push (set0 w) } (.ref s.heap.objs.size) "set":=⟨_,hS,rfl⟩
   have hli:=bh.init.lookup;have hbi:=bh.init.bind (.ref s.heap.objs.size)
   repeat (any_goals (first | assumption | wp_step))
   refine fC (codeAny_call_builtin (R:=wants (fun r s2=>r=.none/\∃ h' tk,s2={ s with heap:=h',toks:=tk }/\Z h'/\∀ b o,s.heap.get? b=some o->h'.get? b=some o) E)
    bh.init.plain PySem.F.entry_set_init (check_set_init_1 hT ?_)) fun r2 s2 hr2=>?_
   ·obtain ⟨ol,hol,hcl⟩:=R.there _ hl;have lt:=Ε hol;have hol':(s.heap.push (set0 w)).get? l=some ol:=θ _ hol;have ok1:OK (s.heap.push (set0 w)):=R.keep _ _ hl fun o e=>θ _ e
    have k1:=R.n1;have k2:=R.n2;have k3:=R.n3;have hty:lu { s with heap:=s.heap.push (set0 w) } (.ref l) T:=⟨_,hol',hcl⟩
    unfold Τ.«set.__init__» noKeywords Τ.Frozenset.updateFrom;generalize hPI:m5=PI
    wp_walk
    subst hPI;have hh3:A.in1.in1.in1.handled=none:=by simp [hh]
    have sz:(s.heap.push (set0 w)).objs.size=s.heap.objs.size+1:=by rw [eU]
    have ne:l≠(s.heap.push (set0 w)).objs.size:=by rw [sz];exact ϋ (eY lt)
    refine R.it (s:={ s with heap:=s.heap.push (set0 w) }) ok1 (γ (wpAny_runValue (hf _ _ (fun b o e=>θ _ (θ _ e)) (θ _ hS) (R.wk _ hh3 ne) ?_ (R.st _ ok1) fun s' m z=>?_)))
    ·rw [sz];intro hm;rcases υ.mp hm with e | hm
     ·exact ϋ (dD _) e
     ·rw [Η] at hm;exact iI lt hm
    ·skip
     obtain ⟨h',g',d',tk',os'⟩:=s';have e1:g'=s.gens:=m.gens;have e2:d'=s.drawn:=m.drawn;have e3:os'=s.os:=m.os;subst e1 e2 e3;refine ι (ι ⟨rfl,h',tk',rfl,z,fun b o e=>?_⟩);have lb:=Ε e;refine m.heap b o ?_ (θ _ (θ _ e));rw [sz];intro hm;rcases υ.mp hm with e | hm
     ·exact ϋ lb e
     ·rw [Η] at hm;exact ϋ (eY lb) hm
   ·cases r2 with
    | error e=>exact hr2
    | ok fl2=>
     cases fl2 with
     | ret r=>
      obtain ⟨rfl,h',tk,rfl,z,hk⟩:=hr2
      repeat (any_goals (first | assumption | wp_step))
      exact h _ _ z hk
     | _=>exact hr2.elim
  | _=>exact hr.elim
theorem zbb {src:Source}{n:Nat}{Q:Nat->ξ->Prop}(hn:n≠0) (q:∀ i d,i < n->Q i { s with drawn:=d }):Δ (Λ prog w) A (choose src n) Q E s:=by intro Γ p h;exact ⟨hn,q _ _ (mj _ (Nat.pos_of_ne_zero hn))⟩
theorem Zy {α:Type}:∀ (xs:List α) (i:Nat) (hi:i < xs.length),(xs[i]::xs.eraseIdx i).Perm xs
 | x::xs,0,_=>bx _
 | x::xs,i+1,hi=>(ie _ _ _).trans ((Zy xs i (by simpa using hi)).cons x)
theorem zN {α:Type}(n:Nat):∀ (xs:List α) (s:ξ) {Q:List α->ξ->Prop},xs.length=n->(∀ ys d,ys.Perm xs->Q ys { s with drawn:=d })->Δ (Λ prog w) A (drawOrder n xs) Q E s:=by
 induction n with
 | zero=>
  intro xs s Q h q;cases xs with
  | nil=>exact ι (q [] s.drawn (bx _))
  | cons x xs=>cases h
 | succ n ih=>
  intro xs s Q h q;cases xs with
  | nil=>cases h
  | cons x xs=>
   show Δ _ _ (choose .order (x::xs).length >>= _) _ _ _
   refine γ (zbb (by simp) fun i d hi=>?_);rw [ψ hi];refine γ (ih _ _ (by rw [p6,if_pos hi];simp at h;simp [h]) fun ys d' p=>ι ?_);refine q _ d' ((p.cons _).trans ?_);exact Zy _ _ hi
end
theorem Zq:Slot "set_iterator" "__next__" "set_iterator.__next__":=
 .of (owner:="set_iterator") (n:="__next__") (by rw [pB,lE];kernel_rfl) (by decide +kernel) (by decide +kernel) (by decide +kernel)
  (by first | exact .inl (by decide +kernel) | exact .inr (by decide +kernel)) (by rw [lW];kernel_rfl)
theorem zcK:entryFor table "set_iterator.__next__"=some Τ.«set_iterator.__next__»:=entryFor_of_fast (by kernel_rfl)
theorem zf8 (a:δ):argsOk "set_iterator.__next__" ⟨[a],[]⟩:=by unfold argsOk;kernel_rfl
theorem Vy:entryFor table "set.__iter__"=some Τ.«frozenset.__iter__»:=entryFor_alias (id':="frozenset.__iter__") (by kernel_rfl) rfl (by decide +kernel) (by kernel_rfl)
section
variable {prog:Χ}{w:Ϛ}
theorem zd6 {P:Fin->ξ->Prop}(hh:A.handled=none) (q:∀ (e:δ) (h':Heap),(∀ b o,s.heap.get? b=some o->h'.get? b=some o)->lu { s with heap:=h' } e "StopIteration"->E e { s with heap:=h' }):
  Δ (Λ prog w) A (do raiseNew (<- newExc (.type "StopIteration") []):Sem Fin) P E s:=by refine γ ?_;simp only [newExc,newTuple];refine γ (ϫ ?_ (by size_fits));refine γ (m:=lX _ _) (cj (a:=ϓ) (by first | rfl | (simp only [lX];rfl)) ?_);refine ϫ ?_ (by size_fits);simp only [raiseNew];refine γ (wpAny_handled ?_);rw [hh];exact γ (ι (wpAny_throw (q (.ref _) _ (fun b o e=>θ _ (θ _ e)) ⟨_,Ζ _ rfl,rfl⟩)))
theorem zai {I:Addr}{Q:Option δ->ξ->Prop}(hT:s.TypeIs (.ref I) "set_iterator")
  (h:Δ (Λ prog w) A.in1 (Τ.«set_iterator.__next__» ⟨[.ref I],[]⟩) (fun f s'=>∃ x,f=.done (.ret x)/\Q (some x) s') (fun e s'=>s'.TypeIs e "StopIteration"/\Q none s') s):Δ (Λ prog w) A (lU (.ref I)) Q E s:=by
 unfold lU;refine γ (iC (cN (name:=eX "__next__") hT Zq (aJ Zq hT zcK (bG h (fun f s' k=>?_) fun e s' k=>?_) (zf8 _))))
 ·obtain ⟨x,rfl,k⟩:=k;exact ⟨x,rfl,ι k⟩
 ·exact γ (ou (T:="StopIteration") (b:=true) k.1 isSubtype_stop (ι k.2))
noncomputable def SI (f:δ) (i n ep:Nat) (a:Addr):Obj:={ cls:=.type "set_iterator",data:=.fields #[f,.int i 0,.ref a,.int n 0,.int ep 0] }
def Fst (w:Ϛ) (h:Heap) (I a tp:Addr) (es:Array (Int×δ)) (ep:Nat) (tb:ο) (ord:List (Int×δ)) (i:Nat) (f:δ):Prop:=
 (w.params.followText "set-order"=true/\(∃ k:Nat,f=.int k 0)/\ord=(oE (w.params.setOrder a ep) es).toList) \/
 (w.params.followText "set-order"=false/\∃ (js:List Nat),f=.ref tp/\tp≠I/\(∃ o n,h.get? tp=some o/\o.data=.seq (js.map fun j:Nat=>Ϫ j 0).toArray n)/\js.length=ord.length/\∀ (k:Nat) j,js[k]?=some j->es[j]?=ord[k]?) \/
 (w.params.followText "set-order"=false/\((!tb.plain&&decide (es.size > 1))=false/\Up tb.place.toList)/\tb.led=true/\ord=es.toList/\f=.int (slotAt tb.place i:Nat) 0)
theorem YG {α:Type}(nx:Nat->Nat):∀ (n k:Nat) (l:List α) (out:Array α),l.length=n->(nO nx n k l out).toList.Perm (out.toList++l)
 | 0,k,[],out,_=>by simp [nO]
 | n+1,k,x::l,out,h=>by unfold nO;have hi:nx k % (x::l).length < (x::l).length:=mj _ (by simp);rw [ψ hi];dsimp only;refine (YG nx n (k+1) _ _ (by rw [p6,if_pos hi];simp at h;simp [h])).trans ?_;rw [Array.toList_push,ak];exact (Zy _ _ hi).append_left _
end
section
variable {P:Int×δ->Prop}{prog:Χ}{w:Ϛ}{I a tp:Addr}{led:Bool}{es:Array (Int×δ)}{ep:Nat}{tb:ο}{ord:List (Int×δ)}{i:Nat}{f:δ}
structure Wk (P:Int×δ->Prop) (w:Ϛ) (h:Heap) (I a tp:Addr) (led:Bool) (es:Array (Int×δ)) (ep:Nat) (tb:ο) (ord:List (Int×δ)) (i:Nat):Prop where
 ne:a≠I
 st:Sg P w h a led es ep tb
 it:∃ f,h.get? I=some (SI f i es.size ep a)/\Fst w h I a tp es ep tb ord i f
theorem kW {h:Heap}{o:Obj}{vs:Array δ}{k:Nat}{x:δ}(ho:h.get? I=some { cls:=.type "set_iterator",data:=.fields vs }):
  (h.update I (aN (·.setIfInBounds k x))).get? I=some { cls:=.type "set_iterator",data:=.fields (vs.setIfInBounds k x) }:=
 Ϲ _ ho rfl
theorem Z7 {Q:Bool->ξ->Prop}(q:Q (w.params.followText "set-order") s):Δ (Λ prog w) A setsByText Q E s:=γ (oA (ι q))
theorem zaf {Q:Option (δ×Nat)->ξ->Prop}{n:Nat}(st:Sg P w s.heap a led es ep tb) (c:w.params.followText "set-order"=true) (q:Q ((oE (w.params.setOrder a ep) es)[i]?.map fun e=>(e.2,n)) s):Δ (Λ prog w) A (setNext a n i ep) Q E s:=by obtain ⟨⟨so,so1,so2,so3⟩,tx,fit,l1,pl⟩:=st;unfold setNext;refine γ (aP so1 so3 fit (γ (Z7 ?_)));rw [c,if_pos rfl,if_neg (by simp)];unfold setWalk;refine γ (γ (aP so1 so3 fit (γ (Z7 ?_))));rw [c,if_pos rfl];exact γ (oA (ι (ι q)))
theorem zdr {Q:Option (δ×Nat)->ξ->Prop}{n:Nat}(st:Sg P w s.heap a led es ep tb) (c:w.params.followText "set-order"=false) (c2:(!tb.plain&&decide (es.size > 1))=false) (c3:tb.led=true)
  (q:Q (match es[Ν tb.place n]?,tb.place[Ν tb.place n]? with | some (_,x),some j=>some (x,j+1) | _,_=>none) s):Δ (Λ prog w) A (setNext a n i ep) Q E s:=by
 obtain ⟨⟨so,so1,so2,so3⟩,tx,fit,l1,pl⟩:=st;unfold setNext;refine γ (aP so1 so3 fit (γ (Z7 ?_)));rw [c,if_neg (by simp)];show Δ _ _ (if (!tb.plain&&decide (es.size > 1))=true then _ else _) _ _ _
 rw [c2,if_neg (by decide)];refine γ (cj (a:=()) ?_ (ι q));show (if (!tb.led&&!es.isEmpty)=true then unsupported "set:maker-not-led" else pure ())=pure ()
 rw [c3];rfl
theorem zcm {Q:δ->ξ->Prop}{n:Nat}{x:Int×δ}(st:Sg P w s.heap a led es ep tb) (e:es[n]?=some x) (q:Q x.2 s):Δ (Λ prog w) A (setNextDrawn a n ep) Q E s:=by obtain ⟨⟨so,so1,so2,so3⟩,tx,fit,l1,pl⟩:=st;unfold setNextDrawn;refine γ (aP so1 so3 fit ?_);dsimp only;rw [if_neg (by simp),e];exact ι q
theorem next_item {Q:Option δ->ξ->Prop}{x:Int×δ}(k:Wk P w s.heap I a tp led es ep tb ord i) (hx:ord[i]?=some x)
  (q:∀ h',(∀ b o,b≠I->s.heap.get? b=some o->h'.get? b=some o)->Wk P w h' I a tp led es ep tb ord (i+1)->Q (some x.2) { s with heap:=h' }):Δ (Λ prog w) A (lU (.ref I)) Q E s:=by
 obtain ⟨ne,st,f,ho,fs⟩:=k;obtain ⟨⟨so,so1,so2,so3⟩,tx,fit,l1,pl⟩:=id st;refine zai ⟨_,ho,rfl⟩ ?_;unfold Τ.«set_iterator.__next__»;refine γ (cj (a:=(Θ I,[])) rfl (γ (lR ho rfl ?_)));dsimp only;refine γ (mL so1 so3 fit ?_);rw [if_neg (by simp)];have keepS:∀ {h':Heap},(∀ b o,b≠I->s.heap.get? b=some o->h'.get? b=some o)->Sg P w h' a led es ep tb:=fun kk=>⟨⟨so,kk a so ne so1,so2,so3⟩,tx,fit,l1,pl⟩
 have kk1:∀ {y:Nat}{z:δ}{h:Heap},(∀ b o,b≠I->s.heap.get? b=some o->h.get? b=some o)->∀ b o,b≠I->s.heap.get? b=some o->(h.update I (aN (·.setIfInBounds y z))).get? b=some o:=fun hk b o hb e=>by rw [cB _ _ _ _ hb];exact hk b o hb e
 have kk0:∀ b o,b≠I->s.heap.get? b=some o->s.heap.get? b=some o:=fun _ _ _ e=>e
 rcases fs with ⟨c1,⟨k,rfl⟩,c3⟩ | ⟨c1,js,rfl,c2,⟨o,n,c3,c4⟩,c5,c6⟩ | ⟨c1,c2,c3,c4,rfl⟩
 ·refine γ (zaf (i:=i) (n:=k) (ep:=ep) st c1 ?_);rw [<- ϧ,<- c3,hx];dsimp only [g8];have e1:=kW (o:=so) (k:=0) (x:=cH (k:Nat)) ho;refine γ (Ϻ ho rfl (by simp) (γ (Ϻ e1 rfl (by simp) (ι ⟨_,rfl,q _ (kk1 (kk1 kk0)) ⟨ne,keepS (kk1 (kk1 kk0)),_,?_,.inl ⟨c1,⟨k,rfl⟩,c3⟩⟩⟩))));rw [kW (o:=so) e1];simp [SI,cH]
 ·refine γ (lQ c3 c4 ?_);have hj:∃ j,js[i]?=some j:=by
   have:i < js.length:=by rw [c5];exact (Β.mp hx).1
   exact ⟨_,ψ this⟩
  obtain ⟨j,hj⟩:=hj;dsimp only;rw [bf,pU,Ρ,hj];dsimp only [g8];refine γ (zcm (n:=j) (ep:=ep) st (by rw [c6 i j hj];exact hx) (γ (Ϻ ho rfl (by simp) (ι ⟨_,rfl,q _ (kk1 kk0) ⟨ne,keepS (kk1 kk0),_,?_,.inr (.inl ⟨c1,js,rfl,c2,⟨o,n,kk1 kk0 tp o c2 c3,c4⟩,c5,c6⟩)⟩⟩))));rw [kW (o:=so) ho];simp [SI,cH]
 ·subst c4;have hi:i < es.size:=by have:=(Β.mp hx).1;rwa [Ξ] at this
  have p1:tb.place.size=es.size:=by have f:=fit;unfold dz at f;simp only [ε,beq_iff_eq] at f;exact f.1
  have hi':i < tb.place.size:=by omega
  obtain ⟨x1,x2⟩:=x;refine γ (zdr (n:=slotAt tb.place i) (i:=i) (ep:=ep) st c1 c2.1 c3 ?_);rw [qP c2.2 (gh hi'),<- ϧ,hx,ϛ hi'];dsimp only;have e1:=kW (o:=so) (k:=0) (x:=cH (tb.place[i]+1:Nat)) ho;refine γ (Ϻ ho rfl (by simp) (γ (Ϻ e1 rfl (by simp) (ι ⟨_,rfl,q _ (kk1 (kk1 kk0)) ⟨ne,keepS (kk1 (kk1 kk0)),_,?_,.inr (.inr ⟨c1,c2,c3,rfl,rfl⟩)⟩⟩))));rw [kW (o:=so) e1];simp [SI,cH,slotAt,gk,hi']
theorem next_end {Q:Option δ->ξ->Prop}(hh:A.handled=none) (k:Wk P w s.heap I a tp led es ep tb ord ord.length) (hp:ord.Perm es.toList)
  (q:∀ h',(∀ b o,b≠I->s.heap.get? b=some o->h'.get? b=some o)->Q none { s with heap:=h' }):Δ (Λ prog w) A (lU (.ref I)) Q E s:=by
 obtain ⟨ne,st,f,ho,fs⟩:=k;obtain ⟨⟨so,so1,so2,so3⟩,tx,fit,l1,pl⟩:=id st;have sz:ord.length=es.size:=by rw [hp.length_eq,Ξ]
 refine zai ⟨_,ho,rfl⟩ ?_;unfold Τ.«set_iterator.__next__»;refine γ (cj (a:=(Θ I,[])) rfl (γ (lR ho rfl ?_)));dsimp only;refine γ (mL so1 so3 fit ?_);rw [if_neg (by simp)];have kk1:∀ {y:Nat}{z:δ}{h:Heap},(∀ b o,b≠I->s.heap.get? b=some o->h.get? b=some o)->∀ b o,b≠I->s.heap.get? b=some o->(h.update I (aN (·.setIfInBounds y z))).get? b=some o:=fun hk b o hb e=>by rw [cB _ _ _ _ hb];exact hk b o hb e
 have kk0:∀ b o,b≠I->s.heap.get? b=some o->s.heap.get? b=some o:=fun _ _ _ e=>e
 have fin:∀ (h:Heap) (P:Fin->ξ->Prop),(∀ b o,b≠I->s.heap.get? b=some o->h.get? b=some o)->Δ (Λ prog w) A.in1 (do raiseNew (<- newExc (.type "StopIteration") []):Sem Fin) P (fun e s'=>s'.TypeIs e "StopIteration"/\Q none s') { s with heap:=h }:=fun h P hk=>
  zd6 (s:={ s with heap:=h }) (by simpa using hh) fun e h' k1 k2=>⟨k2,q h' fun b o hb e=>k1 b o (hk b o hb e)⟩
 rcases fs with ⟨c1,⟨k,rfl⟩,c3⟩ | ⟨c1,js,rfl,c2,⟨o,n,c3,c4⟩,c5,c6⟩ | ⟨c1,c2,c3,c4,rfl⟩
 ·refine γ (zaf (i:=ord.length) (n:=k) (ep:=ep) st c1 ?_);rw [<- ϧ,<- c3,bu (χ _)];dsimp only [Option.map_none];exact γ (Ϻ ho rfl (by simp) (fin _ _ (kk1 kk0)))
 ·refine γ (lQ c3 c4 ?_);dsimp only;rw [bf,pU,Ρ,bu (by rw [c5];exact χ _)];dsimp only [Option.map_none];have e1:=kW (o:=so) (k:=0) (x:=cH 0) ho;exact γ (Ϻ ho rfl (by simp) (γ (Ϻ e1 rfl (by simp) (fin _ _ (kk1 (kk1 kk0))))))
 ·subst c4;have ft:tb.place.size=es.size:=by have f:=fit;unfold dz at f;simp only [ε,beq_iff_eq] at f;exact f.1
  refine γ (zdr (n:=slotAt tb.place es.toList.length) (i:=es.toList.length) (ep:=ep) st c1 c2.1 c3 ?_);have hb:es.size<=Ν tb.place (slotAt tb.place es.toList.length):=by rw [Ξ,<- ft,qP c2.2 (χ _)];exact χ _
  rw [pI hb];dsimp only;exact γ (Ϻ ho rfl (by simp) (fin _ _ (kk1 kk0)))
theorem Wk.keep {h h':Heap}(k:Wk P w h I a tp led es ep tb ord i) (kk:∀ b∈[I,a,tp],∀ o,h.get? b=some o->h'.get? b=some o):Wk P w h' I a tp led es ep tb ord i:=by
 obtain ⟨ne,⟨⟨so,so1,so2⟩,z1,z2,z3,z4⟩,f,ho,fs⟩:=k;refine ⟨ne,⟨⟨so,kk a (by simp) so so1,so2⟩,z1,z2,z3,z4⟩,f,kk _ (by simp) _ ho,?_⟩;rcases fs with c | ⟨c1,js,c2,c3,⟨o,n,c4,c5⟩,c6⟩ | c
 ·exact .inl c
 ·exact .inr (.inl ⟨c1,js,c2,c3,⟨o,n,kk _ (by simp) _ c4,c5⟩,c6⟩)
 ·exact .inr (.inr c)
set_option tactic.hygienic true in
theorem zfp {Q:δ->ξ->Prop}(st:Sg P w s.heap a (ledW w) es ep tb) (hz:es.size<=sizeLine) (q:∀ (ord:List (Int×δ)) (I tp:Addr) (h':Heap) (d:Drawn),ord.Perm es.toList->(∀ b o,s.heap.get? b=some o->h'.get? b=some o)->s.heap.get? I=none->(tp=a\/s.heap.get? tp=none)->Wk P w h' I a tp (ledW w) es ep tb ord 0->Q (.ref I) { s with heap:=h',drawn:=d }):
  Δ (Λ prog w) A (m5 (.ref a)) Q E s:=by
 obtain ⟨⟨so,so1,so2,so3⟩,tx,fit,l1,pl⟩:=id st;have hT:s.TypeIs (.ref a) "set":=⟨_,so1,so2.1⟩
 refine nH hT o5 (aJ o5 hT Vy ?_ (PySem.F.args_set_iter_1 _));unfold Τ.«frozenset.__iter__» Τ.Frozenset.slot0 Τ.Frozenset.sizeOf setDrawn;refine γ (cj (a:=a) rfl (γ (γ (mL so1 so3 fit (ι ?_)))));refine γ (γ (aP so1 so3 fit (γ (Z7 (ι ?_)))));have nI:∀ {h:Heap},s.heap.objs.size<=h.objs.size->s.heap.get? h.objs.size=none:=fun {h} hl=>by
  cases e:s.heap.get? h.objs.size with
  | none=>rfl
  | some o=>exact absurd (Ε e) (Nat.not_lt.mpr hl)
 have na:∀ {h:Heap},s.heap.objs.size<=h.objs.size->a≠h.objs.size:=fun {h} hl e=>bQ _ (ϔ (e ▸ Ε so1) hl)
 have fin:∀ (f:δ) (tp:Addr) (ord:List (Int×δ)) (h:Heap) (d:Drawn),s.heap.objs.size<=h.objs.size->(∀ b o,s.heap.get? b=some o->h.get? b=some o)->ord.Perm es.toList->(tp=a\/s.heap.get? tp=none)->Fst w (h.push (SI f 0 es.size ep a)) h.objs.size a tp es ep tb ord 0 f ->
   Δ (Λ prog w) A.in1 (do ret (<- newFields "set_iterator" [f,cH 0,.ref a,cH es.size,cH (<- setEpoch a)])) (fun f' s'=>∃ v,f'=.done (.ret v)/\∃ T u,s'.TypeIs v T/\typeLookup (.type T) (eX "__next__")=pure (some u)/\Q v s') E { s with heap:=h,drawn:=d }:=by intro f tp ord h d hl hk pm ht fs;refine γ (wpAny_setEpoch_of (hk a so so1) so3 fit (γ (ϫ (ι ⟨_,rfl,"set_iterator",_,⟨_,Ζ _ rfl,rfl⟩,Zq.lookup,?_⟩))));refine q ord h.objs.size tp (h.push (SI f 0 es.size ep a)) d pm (fun b o e=>θ _ (hk b o e)) (nI hl) ht ⟨na hl,⟨⟨so,θ _ (hk a so so1),so2,so3⟩,tx,fit,l1,pl⟩,f,Ζ _ rfl,fs⟩
 cases c:w.params.followText "set-order" with
 | true=>
  show Δ _ _ (if (!true&&(!tb.plain&&decide (es.size > 1)))=true then _ else _) _ _ _
  rw [if_neg (by simp)];refine γ (ι (fin (cH 0) a _ s.heap s.drawn (χ _) (fun _ _ e=>e) ?_ (.inl rfl) (.inl ⟨c,⟨0,rfl⟩,rfl⟩)));exact YG _ _ _ _ _ (Ξ ..)
 | false=>
  show Δ _ _ (if (!false&&(!tb.plain&&decide (es.size > 1)))=true then _ else _) _ _ _
  split
  ·rename_i g
   refine γ (zN _ _ _ (cY ..) fun js d pj=>γ (wpAny_newTuple ?_ (by rw [ζ,pj.length_eq,cY];exact hz)));have lj:js.length=es.size:=by rw [pj.length_eq,cY]
   have jb:∀ j∈js,j < es.size:=fun j hj=>aY.mp (pj.mem_iff.mp hj)
   have om:∀ js:List Nat,(∀ j∈js,j < es.size)->(js.filterMap (es[·]?)).length=js.length/\∀ (k:Nat) (j:Nat),js[k]?=some j->es[j]?=(js.filterMap (es[·]?))[k]?:=by
    intro js
    induction js with
    | nil=>exact fun _=>⟨rfl,fun k j h=>by simp at h⟩
    | cons x js ih=>
     intro hb;obtain ⟨h1,h2⟩:=ih fun j hj=>hb j (ν _ hj)
     have hx:es[x]?=some (es[x]'(hb x μ)):=ϛ _;rw [cA,hx];refine ⟨by simp [h1],fun k j h=>?_⟩;cases k with
     | zero=>cases (ϐ h);rw [hx];rfl
     | succ k=>exact h2 k j h
   obtain ⟨o1,o2⟩:=om js jb;refine fin (.ref s.heap.objs.size) s.heap.objs.size (js.filterMap (es[·]?)) _ d (by rw [pO];exact fM _) (fun b o e=>θ _ e) ?_ (.inr (nI (χ _))) (.inr (.inl ⟨c,js,rfl,?_,⟨_,_,θ _ (Ζ _ rfl),rfl⟩,o1.symm,o2⟩))
   ·refine (pj.filterMap _).trans ?_;rw [show (fun x=>es[x]?)=fun i=>es[i]? from rfl,filterMap_getElem?_range]
   ·rw [pO];exact ϋ (dD _)
  ·rename_i g
   refine γ (ι (fin (cH 0) a es.toList s.heap s.drawn (χ _) (fun _ _ e=>e) (bx _) (.inl rfl) (.inr (.inr ⟨c,?_,?_,rfl,rfl⟩))))
   ·have ft:tb.place.size=es.size:=by have f:=fit;unfold dz at f;simp only [ε,beq_iff_eq] at f;exact f.1
    have g':(!tb.plain&&decide (es.size > 1))=false:=by rw [iY,gO] at g;exact gJ.mpr g
    refine ⟨g',?_⟩;rcases pl with p | p | p
    ·exact zc8 (by rw [Ξ];omega)
    ·rw [p] at g';simp at g';exact zc8 (by rw [Ξ];omega)
    ·exact p
   ·rw [l1,ledW,c];rfl
end
theorem Ud:Slot "set_iterator" "__iter__" "set_iterator.__iter__":=
 .of (owner:="set_iterator") (n:="__iter__") (by rw [pB,lE];kernel_rfl) (by decide +kernel) (by decide +kernel) (by decide +kernel)
  (by first | exact .inl (by decide +kernel) | exact .inr (by decide +kernel)) (by rw [lW];kernel_rfl)
theorem za2:entryFor table "set_iterator.__iter__"=some Τ.«dict_keyiterator.__iter__»:=entryFor_alias (id':="dict_keyiterator.__iter__") (by kernel_rfl) rfl (by decide +kernel) (by kernel_rfl)
theorem zc5 (a:δ):argsOk "set_iterator.__iter__" ⟨[a],[]⟩:=by unfold argsOk;kernel_rfl
theorem zee:typeLookup (.type "set") "__len__"=pure (some (.builtin "set.__len__")):=by rw [pB,lE];kernel_rfl
section
variable {P:Int×δ->Prop}{prog:Χ}{w:Ϛ}{I a tp:Addr}{led:Bool}{es:Array (Int×δ)}{ep:Nat}{tb:ο}{ord:List (Int×δ)}{i:Nat}{f:δ}
theorem zbD (hh:A.handled=none) (hp:ord.Perm es.toList):Walks prog w A I [I,a,tp] [I] ord.length (fun i v=>(ord.map (·.2))[i]?=some v) (fun i h=>Wk P w h I a tp led es ep tb ord i) where
 sub:=fun b hb=>by simp at hb;simp [hb]
 frame:=fun _ _ _ st hk=>st.keep hk
 item:=fun i s Q E hi st hQ=>next_item (x:=ord[i]) st (ψ hi) fun h' k st'=>hQ _ h' s.toks (by simp [hi]) st' fun b o hb e=>k b o (by simpa using hb) e
 done:=fun s Q E st hQ=>next_end hh st hp fun h' k=>hQ h' s.toks fun b o hb e=>k b o (by simpa using hb) e
 self:=fun i s Q E st hQ=>by
  obtain ⟨f,ho,_⟩:=st.it;have hT:s.TypeIs (.ref I) "set_iterator":=⟨_,ho,rfl⟩
  refine nH hT Ud (aJ Ud hT za2 ?_ (zc5 _));exact ι ⟨_,rfl,"set_iterator",_,hT,Zq.lookup,hQ⟩
theorem VF {R:List δ->ξ->Prop}(hh:A.handled=none) (st:Sg P w s.heap a (ledW w) es ep tb) (hz:es.size < 4096)
  (h:∀ (ord:List (Int×δ)) (h':Heap) (tk:Nat) (d:Drawn),ord.Perm es.toList->s.heap.objs.size<=h'.objs.size->(∀ b o,s.heap.get? b=some o->h'.get? b=some o)->R (ord.map (·.2)) { s with heap:=h',toks:=tk,drawn:=d }):Δ (Λ prog w) A (collect (.ref a)) R E s:=by
 obtain ⟨⟨so,so1,so2,so3⟩,z1,z2,z3,z4⟩:=id st;have hn:es.size<=sizeLine:=by rw [ϵ];omega
 have lt:=Ε so1;unfold collect;refine γ (wpAny_runValue (eO PySem.F.entry_proto_collect ?_));rw [dh PySem.F.plain_proto_collect _];show Δ _ A.in1 (newList [] >>= fun l=>again (.builtin "list.__iadd__" ⟨[l,.ref a],[]⟩)) _ _ s
 refine γ (ϫ (ι ⟨mU nW _,eO PySem.F.entry_list_iadd ?_⟩));rw [dh nW _];show Δ _ A.in1 (cJ (.ref s.heap.objs.size) (.ref a) (.ref s.heap.objs.size)) _ _ _
 generalize h1e:s.heap.push { cls:=.type "list",data:=.seq ([]:List δ).toArray }=h1;have k1:∀ b o,s.heap.get? b=some o->h1.get? b=some o:=fun b o e=>by rw [<- h1e];exact θ _ e
 have hS:h1.get? s.heap.objs.size=some { cls:=.type "list",data:=.seq #[] }:=by rw [<- h1e];exact Ζ _ rfl
 have st1:Sg P w h1 a (ledW w) es ep tb:=⟨⟨so,k1 a so so1,so2,so3⟩,z1,z2,z3,z4⟩
 have hT:∀ (h:Heap) (d:Drawn),(∀ b o,h1.get? b=some o->h.get? b=some o)->lu { s with heap:=h,drawn:=d } (.ref a) "set":=fun h d k=>⟨so,k a so (k1 a so so1),so2.1⟩
 have nSa:s.heap.objs.size≠a:=iI lt;unfold cJ;refine γ (bI (hT h1 s.drawn fun _ _ e=>e) ?_);have e1:mK (.ref s.heap.objs.size) (.ref a)=false:=by simp [mK,nSa]
 rw [if_neg (by rw [e1];decide)];refine γ (zfp (s:={ s with heap:=h1 }) st1 hn fun ord I tp h2 d pm k2 nI nt wk=>?_);refine γ (ao ?_);unfold Τ.List.listLengthHint;refine γ (wpAny_specialOf (hT h2 d k2) zee ?_)
 (generalize hid:("set.__len__":String)=id0;wp_delta;rw [show splitId id0=some ("set","__len__") from by subst hid;decide +kernel];subst hid)
 refine γ (ou (b:=true) (hT h2 d k2) sub_set_self ?_);rw [if_neg (by simp),if_pos (by decide +kernel)];refine γ (bI (hT h2 d k2) (ι ?_));rw [if_pos (by decide +kernel)];have nIS:I≠s.heap.objs.size:=fun e=>by rw [e] at nI;have nI:h1.get? _=none:=nI;rw [hS] at nI;cases nI
 have ntS:tp≠s.heap.objs.size:=fun e=>by
  rcases nt with z | z
  ·exact nSa (e.symm.trans z)
  ·rw [e] at z;have z:h1.get? _=none:=z;rw [hS] at z;cases z
 have hSf:s.heap.objs.size ∉ [I,a,tp]:=fun hm=>by
  rcases υ.mp hm with z | hm
  ·exact nIS z.symm
  ·rcases υ.mp hm with z | hm
   ·exact nSa z
   ·exact ntS (Η.mp hm).symm
 have hS2:=k2 _ _ hS;have hS3:=Ϲ (aL (·.push ϓ)) hS2 rfl;have hS4:=Ϲ (aL (·.pop)) hS3 rfl;refine γ (gP (γ ?_));unfold Τ.List.listTouch;refine γ (iD hS2 rfl (iD hS3 rfl ?_ (by rw [ϵ];decide) (by rw [ϵ];decide)) (by rw [ϵ];decide) (by rw [ϵ];decide));have kk:∀ b o,b≠s.heap.objs.size->h2.get? b=some o->((h2.update s.heap.objs.size (aL (·.push ϓ))).update s.heap.objs.size (aL (·.pop))).get? b=some o:=fun b o hb e=>by rw [cB _ _ _ _ hb,cB _ _ _ _ hb];exact e
 refine ι ⟨mU PySem.F.plain_extend_loop _,codeAny_extend_loopS (zbD (led:=ledW w) (es:=es) (ep:=ep) (tb:=tb) (tp:=tp) (a:=a) (by simpa using hh) pm).toS (by rw [pm.length_eq,Ξ];exact hn) s.heap.objs.size hSf _ ord.length 0 _ #[] _ rfl (aW _)
  (wk.keep fun b hb o e=>kk b o (fun z=>hSf (z ▸ hb)) e) hS4 (ItemsOf.nil _) fun s' acc c m hS' hacc=>?_⟩
 refine γ (wpAny_load hS' (ι ?_));have ea:acc.toList=ord.map (·.2):=by
  apply mJ;intro j;by_cases hj:j < acc.size
  ·rw [ϧ,ϛ hj,hacc.2 j _ (ϛ hj)]
  ·rw [bu (by rw [Ξ];omega),bu (by rw [ζ,<- hacc.1];omega)]
 obtain ⟨h',g',d',tk',os'⟩:=s';have g1:g'=s.gens:=m.gens;have g2:d'=d:=m.drawn;have g3:os'=s.os:=m.os;subst g1 g2 g3;rw [ea];refine h ord h' tk' d' pm ?_ fun b o e=>?_
 ·have:=Ε hS';exact gh this
 ·have hb:b≠s.heap.objs.size:=ϋ (Ε e);refine m.heap b o (fun hm=>?_) (kk b o hb (k2 b o (k1 b o e)));rcases υ.mp hm with z | hm
  ·exact hb z
  ·rw [Η.mp hm] at e;have nI:h1.get? I=none:=nI;rw [k1 _ _ e] at nI;cases nI
end
theorem Ut {t:ο}{hs:Nat->Int}{h:Int}{p:iu}{r:Option ο.Met}{n i pt:Nat}(e:t.probe hs h p=r) (ep:p=P0 i pt) (hm:t.mask=7) (hd:t.dummies=#[]) (hn:n < 220) (en:En 7 (fun j=>t.slot j=.empty) n i pt):
  (∃ j,r=some (.empty j none)/\t.slot j=.empty)\/∃ j i' n' i2 p2,r=some (.candidate j i' (P0 i2 p2))/\t.slot j=.live i'/\n' < n/\En 7 (fun j=>t.slot j=.empty) n' i2 p2:=by subst e ep;unfold cV;rw [hm];exact zdm hm hd n _ i pt (by show n < 10*ir 7;exact hn) en
section
variable {prog:Χ}{w:Ϛ}
abbrev Tk (prog:Χ) (w:Ϛ) (h:Heap) (k:List Int) (b:Addr):Prop:=IsTupleKey (fu prog w) h k b
theorem Tk.keep {h h':Heap}{k:List Int}{b:Addr}(x:Tk prog w h k b) (kk:∀ o,h.get? b=some o->h'.get? b=some o):Tk prog w h' k b:=by obtain ⟨o,its,n,ho,r⟩:=x;exact ⟨o,its,n,kk o ho,r⟩
theorem zfv {α:Type}{x:Sem Bool}{m1 m2:Sem α}{b:Bool}{Q:α->ξ->Prop}(hx:∀ Q':Bool->ξ->Prop,Q' false s->Δ (Λ prog w) A x Q' E s) (h:Δ (Λ prog w) A m2 Q E s):
  Δ (Λ prog w) A (if b=true then (do let c <- x;if c=true then m1 else m2) else m2) Q E s:=by
 cases b with
 | true=>exact γ (hx _ (by rw [if_neg (by decide)];exact h))
 | false=>exact h
theorem items_int {ks:List Int}{vs:List δ}(h:ItemsAre (fu prog w) ks vs):∀ v∈vs,∃ n t,v=Ϫ n t:=by
 induction h with
 | nil=>exact fun v hv=>nomatch hv
 | cons h1 _ ih=>
  intro v hv;rcases υ.mp hv with rfl | hv
  ·obtain ⟨t,rfl⟩:=rD h1;exact ⟨_,t,rfl⟩
  ·exact ih v hv
theorem zac {c:Addr}{key:List Int}(hc:Tk prog w s.heap key c) {Q:Bool->ξ->Prop}(q:Q false s):Δ (Λ prog w) A (nP 8 (.ref c)) Q E s:=by
 have hT:=hc.typeIs;obtain ⟨o,items,n,ho,_,hd,hi⟩:=hc;unfold nP;refine γ (bI hT ?_);dsimp only;rw [if_pos (by decide)];refine γ (ι ?_);rw [if_neg (by decide)];refine γ (lQ ho hd ?_);dsimp only;refine γ ?_;rw [<- rB];refine iK _ (fun rest r s'=>r.1=none/\s'=s/\∀ v∈rest,∃ n t,v=Ϫ n t) _ ?_ ?_ _ _ ⟨rfl,rfl,items_int hi⟩
 ·rintro v rest r s' ⟨hr,rfl,hall⟩;obtain ⟨m,t,rfl⟩:=hall v μ;refine γ (cj (a:=false) (by unfold nP;rfl) ?_);rw [if_neg (by decide)];exact ι ⟨rfl,rfl,fun u hu'=>hall u (ν _ hu')⟩
 ·rintro ⟨r1,r2⟩ s' ⟨hr,rfl,_⟩;simp only at hr;subst hr;exact ι q
theorem ziC {c:Addr}{key:List Int}(hc:Tk prog w s.heap key c) {Q:Bool->ξ->Prop}(q:Q true s):Δ (Λ prog w) A (hashByValue 8 (.ref c)) Q E s:=by
 have hT:=hc.typeIs;obtain ⟨o,items,n,ho,_,hd,hi⟩:=hc;unfold hashByValue;refine γ (wpAny_specialOf hT F.slot_tuple_hash.lookup ?_);dsimp only;refine γ (lQ ho hd ?_);refine γ ?_;show Δ _ _ (forIn items _ _) _ _ s
 rw [<- rB];refine iK _ (fun rest r s'=>r.1=none/\s'=s/\∀ v∈rest,∃ n t,v=Ϫ n t) _ ?_ ?_ _ _ ⟨rfl,rfl,items_int hi⟩
 ·rintro v rest r s' ⟨hr,rfl,hall⟩;obtain ⟨m,t,rfl⟩:=hall v μ;refine γ (cj (a:=true) (by unfold hashByValue;rfl) ?_);rw [if_neg (by decide)];exact ι ⟨rfl,rfl,fun u hu'=>hall u (ν _ hu')⟩
 ·rintro ⟨r1,r2⟩ s' ⟨hr,rfl,_⟩;simp only at hr;subst hr;exact ι q
theorem zeh {c:Addr}{key:List Int}(hc:Tk prog w s.heap key c) (l:List δ) (hl:∀ v∈l,∃ b k,v=.ref b/\Tk prog w s.heap k b/\k≠key) (Q:Bool->ξ->Prop) (q:Q false s):Δ (Λ prog w) A (searchCouldBeSeen (.ref c) l) Q E s:=by
 unfold searchCouldBeSeen;refine γ ?_;refine iK _ (fun rest r s'=>r.1=none/\s'=s/\∀ v∈rest,∃ b k,v=.ref b/\Tk prog w s.heap k b/\k≠key) _ ?_ ?_ _ _ ⟨rfl,rfl,hl⟩
 ·rintro v rest r s' ⟨hr,rfl,hall⟩;obtain ⟨b,k,rfl,tk,ne⟩:=hall v μ;have nx:=fun u hu'=>hall u (ν _ hu')
  dsimp only;split
  ·exact ι ⟨rfl,rfl,nx⟩
  ·refine γ (wpAny_eqIsQuiet_tuple hc ?_);rw [if_neg (by decide)];refine γ (wpAny_eqIsQuiet_tuple tk ?_);rw [if_neg (by decide)];refine γ (zac hc ?_);rw [if_neg (by decide)];refine γ (zac tk ?_);rw [if_neg (by decide)];exact ι ⟨rfl,rfl,nx⟩
 ·rintro ⟨r1,r2⟩ s' ⟨hr,rfl,_⟩;simp only at hr;subst hr;exact ι q
set_option tactic.hygienic true in
theorem Yu {a c:Addr}{led:Bool}{es:Array (Int×δ)}{ep:Nat}{tb:ο}{key:List Int}{hsh:Int}(hr:A.units < ϥ) (st:Sg (fun _=>True) w s.heap a led es ep tb) (hm:tb.mask=7) (hd:tb.dummies=#[]) (hc:Tk prog w s.heap key c)
  (hv:∀ e∈es.toList,∃ b k,e.2=.ref b/\Tk prog w s.heap k b/\k≠key):∀ (f n i pt:Nat) (stand:Option iu),n < f->n < 220->stand.getD (tb.probeStart hsh)=P0 i pt->En 7 (fun j=>tb.slot j=.empty) n i pt ->
  Δ (Λ prog w) A (setSearchFrom a (.ref c) hsh true f stand) (fun r s'=>s'=s/\∃ j,r=.free j false/\tb.slot j=.empty) E s
 | 0,n,i,pt,stand,l,_,_,_=>absurd l (by omega)
 | f+1,n,i,pt,stand,l,l2,est,en=>by
  obtain ⟨⟨so,so1,so2,so3⟩,tx,fit,l1,pl⟩:=id st;unfold setSearchFrom;refine γ (aP so1 so3 fit ?_);dsimp only;rw [show tb.gaveWay=false by unfold ο.gaveWay;rw [hm];rfl];rw [if_neg (by decide)];split
  ·rename_i met heq
   rcases Ut heq est hm hd l2 en with ⟨j,ej,em⟩ | ⟨j,i',n',i2,p2,ec,el,ln,en'⟩
   ·cases ej;exact ι ⟨rfl,j,rfl,em⟩
   ·cases ec;dsimp only;have ft:tb.place.size=es.size:=by have f:=fit;unfold dz at f;simp only [ε,beq_iff_eq] at f;exact f.1
    have hi:i' < es.size:=by have:=(dm.mp (Yr el)).1;omega
    obtain ⟨b,k,eb,tk,ne⟩:=hv es[i'] (by simp);have e1:es[i']?=some (es[i'].1,Θ b):=by rw [ϛ hi,<- eb]
    refine zfv (zeh hc _ fun v hv'=>?_) ?_
    ·obtain ⟨e,he,rfl⟩:=Φ.mp hv';rw [Array.toList_filter] at he;exact hv e (nu.mp he).1
    rw [e1];dsimp only;refine γ (ao ((iM (fu prog w)).eqBool hr tk hc ?_));refine γ (aP so1 so3 fit ?_);dsimp only;rw [decide_eq_false ne,cG,if_neg (by decide),show tb.sameMemory tb.moves tb.mask=some true by unfold ο.sameMemory;rw [if_pos (beq_self_eq_true _)]];dsimp only;rw [if_pos rfl,el];dsimp only;rw [e1];dsimp only;refine γ (wpAny_isSame_ref_self (γ (ι ?_)));rw [if_pos rfl];dsimp only;rw [if_neg (by decide)];exact Yu hr st hm hd hc hv f n' i2 p2 _ (by omega) (by omega) rfl en'
  ·rename_i x heq
   rcases Ut rfl est hm hd l2 en with ⟨j,ej,em⟩ | ⟨j,i',n',i2,p2,ec,el,ln,en'⟩
   ·exact absurd ej (heq _)
   ·exact absurd ec (heq _)
theorem zkx {α:Type}{b:Bool}{x:Sem Bool}{f:Bool->Sem α}{Q:α->ξ->Prop}(hx:∀ Q':Bool->ξ->Prop,Q' true s->Δ (Λ prog w) A x Q' E s) (h:Δ (Λ prog w) A (f true) Q E s):Δ (Λ prog w) A (if b=true then x >>= f else pure true >>= f) Q E s:=by
 cases b with
 | true=>exact γ (hx _ h)
 | false=>exact γ (ι h)
def Sv (w:Ϛ) (h:Heap) (a:Addr) (led:Bool) (bs:List Addr):Prop:=
 ∃ es ep tb,Sg (fun _=>True) w h a led es ep tb/\(es.toList.map (·.2)).Perm (bs.map Θ)/\tb.dummies=#[]/\Up tb.place.toList/\(tb.mask=7/\es.size<=4\/es.size=5)
theorem Sv.keep {h h':Heap}{a:Addr}{led:Bool}{bs:List Addr}(t:Sv w h a led bs) (k:∀ o,h.get? a=some o->h'.get? a=some o):Sv w h' a led bs:=by obtain ⟨es,ep,tb,⟨⟨o,ho,r⟩,x1,x2,x3,x4⟩,pm⟩:=t;exact ⟨es,ep,tb,⟨⟨o,k o ho,r⟩,x1,x2,x3,x4⟩,pm⟩
theorem sv0 {h:Heap}{a:Addr}(ho:h.get? a=some (set0 w)):Sv w h a (ledW w) []:=
 ⟨#[],0,_,⟨⟨_,ho,⟨rfl,rfl,rfl⟩,rfl⟩,(fun e he=>trivial),rfl,rfl,.inl rfl⟩,bx _,rfl,fL,.inl ⟨rfl,aW _⟩⟩
theorem zgb {a c:Addr}{led:Bool}{bs:List Addr}{key:List Int}{hsh:Int}{Q:Bool->ξ->Prop}(hr:A.units < ϥ) (hS:Sv w s.heap a led bs) (hn:bs.length<=4) (hc:Tk prog w s.heap key c) (hb:∀ b∈bs,∃ k,Tk prog w s.heap k b/\k≠key)
  (q:∀ (b:Bool) (h':Heap),ϭ a s.heap h'->Sv w h' a led (bs++[c])->Q b { s with heap:=h' }):Δ (Λ prog w) A (setAddHashed a (.ref c) hsh) Q E s:=by
 obtain ⟨es,ep,tb,st,pm,hd,up,msz⟩:=hS;obtain ⟨⟨so,so1,so2,so3⟩,tx,fit,l1,pl⟩:=id st;have sz:es.size=bs.length:=by rw [<- Ξ,<- ζ (f:=(·.2)),pm.length_eq,ζ]
 have hm:tb.mask=7:=by
  rcases msz with h | h
  ·exact h.1
  ·omega
 have ft:tb.place.size=es.size:=by have f:=fit;unfold dz at f;simp only [ε,beq_iff_eq] at f;exact f.1
 have hv:∀ e∈es.toList,∃ b k,e.2=.ref b/\Tk prog w s.heap k b/\k≠key:=fun e he=>by obtain ⟨b,hb1,hb2⟩:=Φ.mp (pm.mem_iff.mp (dJ (f:=(·.2)) he));obtain ⟨k,h1,h2⟩:=hb b hb1;exact ⟨b,k,hb2.symm,h1,h2⟩
 unfold setAddHashed setAddHashedIn;refine ao (γ (aP so1 so3 fit ?_));dsimp only;rw [if_neg (by rw [show byScan (.ref c) es=false from rfl];decide)];have en:=zfJ cyc7 (JN hd (by omega)) 13 (aA hsh % 8) (aA hsh) (zbk hsh) (mj _ (by omega));refine γ (bG (Yu (hsh:=hsh) hr st hm hd hc hv 100000 (7+13) _ _ none (by omega) (by omega) (zgG hm hsh) en) ?_ fun _ _ e=>e);rintro _ _ ⟨rfl,j,rfl,hj⟩;dsimp only;refine γ (aP so1 so3 fit ?_);have up1:=Ja up (za3 up hj);have pt:tb.put j=({ tb with place:=bF tb.place (Ν tb.place j) j },Ν tb.place j):=by unfold ο.put;rw [hd,zaT];rw [<- hd];rfl
 dsimp only;rw [pt];dsimp only;refine zkx (fun Q' q'=>ziC hc q') ?_;rw [if_pos rfl];generalize ht1:({ tb with place:=bF tb.place (Ν tb.place j) j }:ο)=t1;generalize he1:bF es (Ν tb.place j) (hsh,Θ c)=e1;have p1:=xU es (Ν tb.place j) (hsh,Θ c);rw [he1] at p1;have z1:e1.size=bs.length+1:=by rw [<- Ξ,p1.length_eq,η,Ξ,sz]
 have t1m:t1.mask=7:=by rw [<- ht1];exact hm
 have t1d:t1.dummies=#[]:=by rw [<- ht1];exact hd
 have t1l:t1.led=led:=by rw [<- ht1];exact l1
 have t1p:t1.place.size=e1.size:=by
  rw [<- ht1];show (bF tb.place _ j).size=_
  rw [<- Ξ,(xU _ _ _).length_eq,η,Ξ,ft,sz,z1]
 have t1u:Up t1.place.toList:=by rw [<- ht1];exact up1
 have t1f:t1.fits e1.size=true:=by unfold dz nj;rw [t1p,t1d,t1m];simp;omega
 have pm1:(e1.toList.map (·.2)).Perm ((bs++[c]).map Θ):=by refine (p1.map _).trans ?_;rw [Ϝ];exact ((pm.cons (Θ c))).trans (pQ (l₁:=[Θ c]))
 obtain ⟨u,hu,hux,hud⟩:=zdk (es':=e1) (t':=t1) so1 so2 so3;refine γ (wpAny_storeSet_of so1 so3 ?_ (by rw [z1,ϵ];omega));have tf:t1.tooFull=decide (bs.length+1 >= 5):=by unfold ο.tooFull nj;rw [t1p,t1d,t1m,z1];simp;omega
 rw [tf,iY,gO];by_cases h5:bs.length+1 >= 5
 ·rw [decide_eq_true h5,if_pos rfl];have n5:e1.size=5:=by omega
  rw [show es.size+1=5 by omega];unfold setRelay;refine γ (γ (aP hu hud t1f ?_));dsimp only;rw [if_neg (by rw [ϵ];decide +kernel)];obtain ⟨t2,order,r1,r2,r3,r4,r5,r6,r7⟩:=QF (t:=t1) n5;have z2:(order.filterMap (e1[·]?)).size=e1.size:=by rw [<- Ξ,r7.length_eq,Ξ]
  refine γ (cj (a:=(order.filterMap (e1[·]?),t2)) ?_ ?_)
  ·rw [r1];show (if ((order.filterMap (e1[·]?)).size != e1.size)=true then _ else _)=_
   rw [z2,if_neg (by simp)]
  dsimp only;obtain ⟨v,hv',hvx,hvd⟩:=zdk (es':=order.filterMap (e1[·]?)) (t':=t2) hu hux hud;refine wpAny_storeSet_of hu hud (ι (q _ _ ((cW _ a _).trans (cW _ a _)) ?_)) (by rw [z2,n5,ϵ];omega);refine ⟨_,_,t2,⟨⟨v,hv',hvx,hvd⟩,fun _ _=>trivial,?_,r4.trans t1l,.inr (.inr r6)⟩,(r7.map _).trans pm1,r3,r6,.inr (z2.trans n5)⟩;unfold dz nj;rw [z2,r5,r3,r2,n5];rfl
 ·rw [decide_eq_false h5,if_neg (by decide)];exact ι (q _ _ (cW _ a _) ⟨e1,_,t1,⟨⟨u,hu,hux,hud⟩,fun _ _=>trivial,t1f,t1l,.inr (.inr t1u)⟩,pm1,t1d,t1u,.inl ⟨t1m,by omega⟩⟩)
theorem zcG {R:Result->ξ->Prop}{I:Addr}{fp wr:List Addr}{G:Array GenState->Array GenState->Prop}{n:Nat}{P:Nat->δ->Prop}{Sx:Nat->ξ->Prop}
  (W:WalksS prog w A.in1 I fp wr G n P Sx) (hr:A.units+8 < ϥ) (S:Addr) (hS:S ∉ fp) {led:Bool}{val:List (Addr×List Int)}(hv:val.length=n) (hP:∀ i v,P i v->∀ x,val[i]?=some x->v=.ref x.1) (hb:n<=5) (hw:∀ x∈val,x.1≠S/\x.1 ∉ wr) (nd:(val.map (·.2)).Nodup):
  ∀ (k:Nat) (s:ξ),k<=n->Sx (n - k) s->Sv w s.heap S led ((val.take (n - k)).map (·.1))->(∀ x∈val,Tk prog w s.heap x.2 x.1) ->
   (∀ s',Moved (S::wr) G s s'->Sv w s'.heap S led (val.map (·.1))->R (.ok (.ret .none)) s') ->
   ik (Λ prog w) A (.builtin "set.update.loop" ⟨[.ref S,.ref I],[]⟩) R s:=by
 have nw:S ∉ wr:=fun h=>hS (W.sub _ h)
 have sub:∀ b∈wr,b∈S::wr:=fun b hb=>ν _ hb
 intro k
 induction k with
 | zero=>
  intro s _ st hs ht r;refine eO gM ?_;rw [dh cQ _];refine γ (W.done s _ _ st fun s' m=>ι (r s' (m.mono sub) ?_));rw [cL (by omega)] at hs;exact hs.keep fun o e=>m.heap S o nw e
 | succ k ih=>
  intro s hk st hs ht r;have hi:n - (k+1) < val.length:=by omega
  have hx:val[n - (k+1)]?=some val[n - (k+1)]:=ψ _;obtain ⟨x,hxe⟩:∃ x,val[n - (k+1)]=x:=⟨_,rfl⟩
  rw [hxe] at hx;have tk1:val.take (n - k)=val.take (n - (k+1))++[x]:=by rw [show n - k=n - (k+1)+1 by omega,List.take_add_one,hx];rfl
  have xm:x∈val:=ϣ hx;refine eO gM ?_;rw [dh cQ _];refine γ (W.item _ s _ _ (by omega) st fun v s' hp st' m=>?_);obtain rfl:=hP _ v hp x hx;have hs':=hs.keep (h':=s'.heap) fun o e=>m.heap S o nw e
  have ht':∀ y∈val,Tk prog w s'.heap y.2 y.1:=fun y hy=>(ht y hy).keep fun o e=>m.heap _ o (hw y hy).2 e
  refine γ (ao ?_);unfold setAdd;refine ao (γ ((iM (fu prog w)).pyHash (k:=x.2) (show A.in1.units < ϥ by show A.units+1 < _;omega) (ht' x xm) (zgb (key:=x.2) (s:={ s' with toks:=s'.toks+(x.2.length+1) }) (show A.in1.units < ϥ by show A.units+1 < _;omega) hs' (by rw [ζ,cC];omega) (ht' x xm) (fun b hb'=>?_) fun b h' sb hs2=>?_)))
  ·obtain ⟨y,hy,rfl⟩:=Φ.mp hb';refine ⟨y.2,ht' y (List.mem_of_mem_take hy),fun e=>?_⟩;obtain ⟨i,hi2,rfl⟩:=oN.mp hy;have h1:(val.map (·.2))[i]?=some x.2:=by rw [Ρ,ψ (by omega),<- e];rfl
   have h2:(val.map (·.2))[n - (k+1)]?=some x.2:=by rw [Ρ,hx];rfl
   have:=(mG (by rw [ζ];omega) nd).mp (h1.trans h2.symm);omega
  rw [show n - (k+1)+1=n - k by omega] at st';refine ι ⟨mU cQ _,ih _ (by omega) (W.frame _ s' _ _ st' (Nat.le_add_right _ _) fun b hb o e=>?_) (by rw [tk1,Ϝ];exact hs2) (fun y hy=>(ht' y hy).keep fun o e=>?_) fun s2 m2 z=>?_⟩
  ·rw [sb.2 b (fun h:b=S=>hS (by rw [<- h];exact hb))];exact e
  ·show h'.get? y.1=some o
   rw [sb.2 y.1 (hw y hy).1];exact e
  ·refine r s2 (Moved.trans W.gtrans ((m.mono sub).then_heap (Nat.le_add_right _ _) fun b o hb e=>?_) m2) z;rw [sb.2 b (fun h:b=S=>hb (by rw [h];exact μ))];exact e
theorem zbg {T:String}{l:Addr}{its:Array δ}{OK:Heap->Prop}{Sx:Addr->Nat->Heap->Prop}{itO:Obj}{val:List (Addr×List Int)}{Q:δ->ξ->Prop}(R:Row prog w T l its OK Sx itO) (hh:A.handled=none) (hu:A.units+64 < ϥ) (hl:OK s.heap)
  (hv:its.toList=val.map fun x=>Θ x.1) (hb:val.length<=5) (ht:∀ x∈val,Tk prog w s.heap x.2 x.1) (nd:(val.map (·.2)).Nodup)
  (h:∀ (h':Heap) (tk:Nat),Sv w h' s.heap.objs.size (ledW w) (val.map (·.1))->(∀ b o,s.heap.get? b=some o->h'.get? b=some o)->Q (.ref s.heap.objs.size) { s with heap:=h',toks:=tk }):
  Δ (Λ prog w) A (call (.type "set") [.ref l]) Q E s:=by
 have ln:val.length=its.size:=by rw [<- Ξ,hv,ζ]
 refine zbh (Z:=fun h'=>Sv w h' s.heap.objs.size (ledW w) (val.map (·.1))) R hh hl (fun s1 R' kp hS wk no st fin=>zcG (led:=ledW w) (val:=val) wk.toS (by show A.units+1+1+8 < _;omega) s.heap.objs.size no ln (fun i v e x hx=>?_) (by omega) (fun x hx=>?_) nd its.size s1 (χ _) (by rw [mR];exact st) (by rw [mR];exact sv0 hS) (fun x hx=>(ht x hx).keep fun o e=>kp _ o e) fun s' m z=>fin s' m z) h
 ·have:its.toList[i]?=some v:=by rw [ϧ];exact e
  rw [hv,Ρ,hx] at this;exact (ϐ this).symm
 ·obtain ⟨o,_,_,ho,_⟩:=ht x hx;have lt:=Ε ho;refine ⟨ϋ lt,fun hm=>?_⟩;rw [Η,eU] at hm;exact ϋ (eY lt) hm
end
section
variable {prog:Χ}{w:Ϛ}{kz:δ->List Int}
theorem vV {vs:List δ}{Q:δ->ξ->Prop}(hv:∀ v∈vs,Tu kz s.heap v) (h128:vs.length < 64) (hu:A.units+4 < ϥ)
  (h:∀ out:Array δ,Jx kz vs out.toList->Q (.ref s.heap.objs.size) { s with heap:=lg (s.heap.push (bH "list" vs.toArray 0)) s.heap.objs.size vs out }):
  Δ (Λ prog w) A (do
   let l <- newList vs
   let _ <- ig [l] (call (.builtin "list.sort") [l])
   ret l) (fun f s'=>∃ v,f=.done (.ret v)/\Q v s') E s:=by
 have hsl:vs.length<=sizeLine:=by rw [ϵ];omega
 refine γ (p8 ?_ (by simpa using hsl));have e2:(s.heap.push (bH "list" vs.toArray 0)).get? s.heap.objs.size=some (bH "list" vs.toArray 0):=Ζ _ rfl;refine γ (ao (aJ slot_list_sort ⟨_,e2,rfl⟩ entry_list_sort (Qk (s:={ s with heap:=s.heap.push (bH "list" vs.toArray 0) }) e2 (fun v hm=>(hv v hm).keep fun b o _ q=>θ _ q) (fun v hm e=>?_) h128 (by show A.units+1 < _;omega) fun out k=>⟨_,rfl,ι ⟨_,rfl,h out k⟩⟩) (args_list_sort _)));obtain ⟨b,o,xs,m,q1,q2,_⟩:=(hv v hm).it;rw [q1] at e;have lt:=Ε q2;rw [Θ.inj e] at lt;exact bQ _ lt
theorem WN {a:Addr}{bs:List Addr}{Q:δ->ξ->Prop}(hh:A.handled=none) (hu:A.units+8 < ϥ) (st:Sv w s.heap a (ledW w) bs) (h128:bs.length < 64) (hv:∀ b∈bs,Tu kz s.heap (.ref b))
  (h:∀ (vs:List δ) (out:Array δ) (h':Heap) (tk:Nat) (d:Drawn),vs.Perm (bs.map Θ)->Jx kz vs out.toList->s.heap.objs.size<=h'.objs.size->(∀ b o,s.heap.get? b=some o->h'.get? b=some o) ->
   Q (.ref h'.objs.size) { s with heap:=lg (h'.push (bH "list" vs.toArray 0)) h'.objs.size vs out,toks:=tk,drawn:=d }):
  Δ (Λ prog w) A (call (.builtin "sorted") [.ref a]) Q E s:=by
 obtain ⟨es,ep,tb,st,pm,_⟩:=st;have sz:es.size=bs.length:=by rw [<- Ξ,<- ζ (f:=(·.2)),pm.length_eq,ζ]
 refine oh kind_sorted plain_sorted entry_sorted (args_sorted1 _) ?_;unfold Τ.«sorted»;refine γ (m:=checkCount "sorted" 1 1 _) (ι (γ (VF (by simpa using hh) st (by omega) fun ord h' tk d pm2 hg hk=>?_)));have pv:(ord.map (·.2)).Perm (bs.map Θ):=(pm2.map _).trans pm;refine vV (kz:=kz) (s:={ s with heap:=h',toks:=tk,drawn:=d }) (fun v hv'=>?_) (by rw [pv.length_eq,ζ];exact h128) (by show A.units+1+4 < _;omega) fun out k=>h _ out h' tk d pv k hg hk
 obtain ⟨b,hb,rfl⟩:=Φ.mp (pv.mem_iff.mp hv');exact (hv b hb).keep fun b' o _ e=>hk b' o e
end
open PySem PyProof.Rows PySem.W
section
variable {prog:Χ}{w:Ϛ}
def Raw (h:Heap) (d:Addr) (es:Array fV) (ep:Nat):Prop:=∃ o,h.get? d=some o/\o.ExactDict/\o.data=.dict es ep
theorem zco {it d:Addr}{i ep:Nat}{es:Array fV}{Q:Option δ->ξ->Prop}(hit:s.heap.IsKeyIter it d i es.size ep) (hm:Raw s.heap d es ep) (hi:i < es.size)
  (hQ:∀ h',h'.IsKeyIter it d (i+1) es.size ep->ϭ it s.heap h'->Q (some es[i].key) { s with heap:=h' }):Δ (Λ prog w) A (lU (.ref it)) Q E s:=by
 obtain ⟨o,ho,hc,hd⟩:=id hit;obtain ⟨od,hod,hcd,hdd⟩:=hm;unfold lU
 refine γ (iC (cN (name:=eX "__next__") hit.typeIs F.slot_dict_keyiterator_next
  (aJ F.slot_dict_keyiterator_next hit.typeIs F.entry_dict_keyiterator_next ?_ (F.args_dict_keyiterator_next_1 _))))
 refine γ (ι (γ (γ (γ (cU hit.typeIs (ι (γ (lR ho hd ?_))))))));simp only [show iy "dict_keyiterator"=false from by decide,bB,if_false];show Δ _ _ (if (Θ d==ϓ)=true then _ else _) _ _ s
 rw [if_neg (show ¬ ((Θ d==ϓ)=true) from Ω)];refine γ (ι (γ (nM hod hdd ?_)));rw [if_neg (by simp)];refine γ (ι (γ (pA hod hdd ?_)));rw [if_neg (by simp)];refine ι ?_;simp only [show ¬ ((i:Int) < 0) from by lia,if_false,bf,ϛ hi];refine γ (γ (cU hit.typeIs (ι (γ (wpAny_isOneOf_keyiter hit.typeIs ?_)))));show Δ _ _ (setField (.ref it) 1 (cH ((i:Int)+1)) >>= _) _ _ s
 refine γ (Ϻ ho hd (by simp) ?_);have hit':(s.heap.update it (aN (·.setIfInBounds 1 (cH ((i:Int)+1))))).IsKeyIter it d (i+1) es.size ep:=
  ⟨_,Ϲ _ ho (fB (cP hd _)),(Obj.cls_mapFields ..).trans hc,by rw [cP hd];simp [cH]⟩
 refine γ (ao (γ (wpAny_isOneOf_keyiter (s:={ s with heap:=s.heap.update it (aN (·.setIfInBounds 1 (cH ((i:Int)+1)))) }) hit'.typeIs ?_)));show Δ _ _ (pure es[i].key) _ _ _
 exact ι (ι ⟨_,rfl,ι (hQ _ hit' (cW ..))⟩)
theorem zfI {it d:Addr}{ep:Nat}{es:Array fV}{Q:Option δ->ξ->Prop}(hh:A.handled=none) (hit:s.heap.IsKeyIter it d es.size es.size ep) (hm:Raw s.heap d es ep)
  (hQ:∀ h',Heap.ExtBut it s.heap h'->Q none { s with heap:=h' }):Δ (Λ prog w) A (lU (.ref it)) Q E s:=by
 obtain ⟨o,ho,hc,hd⟩:=id hit;obtain ⟨od,hod,hcd,hdd⟩:=hm;unfold lU
 refine γ (iC (cN (name:=eX "__next__") hit.typeIs F.slot_dict_keyiterator_next
  (aJ F.slot_dict_keyiterator_next hit.typeIs F.entry_dict_keyiterator_next ?_ (F.args_dict_keyiterator_next_1 _))))
 refine γ (ι (γ (γ (γ (cU hit.typeIs (ι (γ (lR ho hd ?_))))))));simp only [show iy "dict_keyiterator"=false from by decide,bB,if_false];show Δ _ _ (if (Θ d==ϓ)=true then _ else _) _ _ s
 rw [if_neg (show ¬ ((Θ d==ϓ)=true) from Ω)];refine γ (ι (γ (nM hod hdd ?_)));rw [if_neg (by simp)];refine γ (ι (γ (pA hod hdd ?_)));rw [if_neg (by simp)];refine ι ?_;simp only [show ¬ ((es.size:Int) < 0) from by lia,if_false,bf,pI (χ es.size)];refine γ (γ (cU hit.typeIs (ι ?_)));show Δ _ _ (setField (.ref it) 0 .none >>= _) _ _ s
 refine γ (Ϻ ho hd (by simp) ?_);show Δ _ _ (newExc (.type "StopIteration") [] >>= _) _ _ _
 refine γ ?_;simp only [newExc,newTuple];refine γ (ϫ ?_ (by size_fits));refine γ (m:=lX _ _) (cj (a:=ϓ) (by first | rfl | (simp only [lX];rfl)) ?_);refine ϫ ?_ (by size_fits);simp only [raiseNew];refine γ (wpAny_handled ?_);rw [show A.in1.handled=none from hh];refine γ (ι (wpAny_throw ?_));refine γ (ou (T:="StopIteration") (b:=true) ⟨_,Ζ _ rfl,rfl⟩ isSubtype_stop ?_);exact ι (hQ _ (((cW ..).extBut.push _).push _))
theorem Raw.typeIs {d:Addr}{ep:Nat}{es:Array fV}(hm:Raw s.heap d es ep):s.TypeIs (.ref d) "dict":=let ⟨o,ho,hc,_⟩:=hm;⟨o,ho,hc.1⟩
theorem Raw.keep {h h':Heap}{d:Addr}{ep:Nat}{es:Array fV}(hm:Raw h d es ep) (k:∀ o,h.get? d=some o->h'.get? d=some o):Raw h' d es ep:=let ⟨o,ho,r⟩:=hm;⟨o,k o ho,r⟩
theorem zcy {d:Addr}{es:Array fV}{ep:Nat}{Q:δ->ξ->Prop}(hd:(d==bV)=false) (hm:Raw s.heap d es ep)
  (hQ:Q (.ref s.heap.objs.size) { s with heap:=s.heap.push { cls:=.type "dict_keyiterator",data:=.fields #[.ref d,.int 0 0,.int es.size 0,.int ep 0] } }):Δ (Λ prog w) A (m5 (.ref d)) Q E s:=by
 have hT:s.TypeIs (.ref d) "dict":=hm.typeIs;obtain ⟨o,ho,hc,hdat⟩:=hm;refine nH hT F.slot_dict_iter (aJ F.slot_dict_iter hT F.entry_dict_iter ?_ (F.args_dict_iter_1 _));unfold Τ.«dict.__iter__»;refine γ ?_;unfold Τ.Dict.dictSlotNone;refine γ (wpAny_notOrdered_dict hT ?_);show Δ _ _ (pure (Θ d)) _ _ s
 refine ι ?_;show Δ _ _ (m9 d >>= _) _ _ s
 unfold m9;rw [if_neg (by rw [hd];exact Ω)];refine γ (ι (γ (nM ho hdat (γ (pA ho hdat ?_)))));refine γ (ϫ (ι ⟨_,rfl,"dict_keyiterator",_,⟨_,Ζ _ rfl,rfl⟩,F.slot_dict_keyiterator_next.lookup,?_⟩));simpa [cH] using hQ
theorem zd9 {d:Addr}{es:Array fV}{ep:Nat}(lo:(d==bV)=false):KdlSrc prog w "dict" d d es.size (fun i v=>∃ e,es[i]?=some e/\v=e.key) (fun h=>Raw h d es ep) where
 type:=fun _ hm=>hm.typeIs
 there:=fun _ hm=>by obtain ⟨o,ho,_⟩:=hm;exact ⟨Ε ho,Ε ho⟩
 keep:=fun _ _ hm hk=>hm.keep fun o e=>hk d (.inl rfl) o e
 notList:=by decide
 notTuple:=by decide
 hint:=fun _ _ _ _ hm hq=>kdl_hint_dict hm.typeIs hq
 iter:=fun A s hh hm=>by
  have hne:d≠s.heap.objs.size:=by obtain ⟨o,ho,_⟩:=hm;exact ϋ (Ε ho)
  refine ⟨_,fun i h=>h.IsKeyIter s.heap.objs.size d i es.size ep/\Raw h d es ep,(fun _ _ hq=>zcy lo hm hq),⟨?_,?_,?_,?_,?_⟩,⟨⟨_,Ζ _ rfl,rfl,rfl⟩,hm.keep fun o e=>θ _ e⟩⟩
  ·intro b hb;simp at hb;simp [hb]
  ·exact fun _ _ _ st hk=>⟨st.1.at fun o e=>hk _ (by simp) o e,st.2.keep fun o e=>hk d (by simp) o e⟩
  ·intro i s' Q E hi st hQ;refine zco st.1 st.2 hi fun h' hit' hs'=>?_
   exact hQ _ h' s'.toks ⟨_,ϛ hi,rfl⟩ ⟨hit',st.2.keep fun o e=>hs'.extBut d o hne e⟩ fun b o hb e=>hs'.extBut b o (fun h=>hb (by simp [h])) e
  ·exact fun s' Q E st hQ=>zfI hh st.1 st.2 fun h' he'=>hQ h' s'.toks fun b o hb e=>he' b o (fun h=>hb (by simp [h])) e
  ·exact fun _ _ _ _ st hQ=>wpAny_pyIter_keyiter st.1 hQ
end
end TS
namespace EV
open PySem L2
theorem non (h:false=true):false=true:=h
theorem nobE {p:Prop}(h:false=true):p:=nomatch h
noncomputable def LIM:Nat:=1000000
noncomputable def fits (n:Nat):Bool:=n<=LIM
noncomputable def zY (i:Int):Bool:=decide (-(2 ^ 64) < i)&&decide (i < 2 ^ 64)
noncomputable def addD:D->D->Option (D×Bool)
 | .int i,.int j=>some (.int (i+j),false)
 | .str x,.str y=>if fits (x.length+y.length) then some (.str (x++y),false) else none
 | .tup a,.tup b=>if fits (a.length+b.length) then some (.tup (a++b),false) else none
 | .lst a,.lst b=>if fits (a.length+b.length) then some (.lst (a++b),true) else none
 | _,_=>none
noncomputable def mulD:D->D->Option (D×Bool)
 | .int i,.int j=>if zY i||zY j then some (.int (i*j),false) else none
 | .str x,.int n=>if (decide (2<=n)&&decide (n < 2 ^ 20)&&!(x.length==0)&&fits (x.length*n.toNat))=true then some (.str ⟨(Ϸ n.toNat x.cps).foldl (·++·) #[]⟩,false) else none
 | _,_=>none
noncomputable def num2 (f:Int->Int->Option Int):D->D->Option (D×Bool)
 | .int i,.int j=>(f i j).map fun k=>(.int k,false)
 | _,_=>none
noncomputable def opD (op:bZ) (a b:D):Option (D×Bool):=match op with
 | .Add=>addD a b
 | .Sub=>num2 (fun i j=>some (i - j)) a b
 | .Mult=>mulD a b
 | .FloorDiv=>num2 (fun i j=>if decide (0 < j)&&decide (j < 2 ^ 64) then some (i / j) else none) a b
 | .Mod=>num2 (fun i j=>if decide (0 < j) then some (i % j) else none) a b
 | .Pow=>num2 (fun i j=>if decide (0<=j)&&decide (j<=1000000)&&zY i then some (i ^ j.toNat) else none) a b
 | _=>none
mutual
noncomputable def eqP:D->D->Bool
 | .non,.non=>true
 | .bl a,.bl b=>a==b
 | .bl a,.int j=>(if a then 1 else 0)==j
 | .int i,.bl b=>i==(if b then 1 else 0)
 | .int a,.int b=>a==b
 | .str a,.str b=>a==b
 | .tup a,.tup b=>eqPs a b
 | .lst a,.lst b=>eqPs a b
 | _,_=>false
noncomputable def eqPs:List D->List D->Bool
 | [],[]=>true
 | a::as,b::bs=>eqP a b&&eqPs as bs
 | _,_=>false
end
mutual
noncomputable def okP:Nat->D->Bool
 | _,.non=>true
 | _,.bl _=>true
 | _,.int _=>true
 | _,.str _=>true
 | 0,.tup _=>false
 | n+1,.tup a=>okPs n a
 | 0,.lst _=>false
 | n+1,.lst a=>okPs n a
 | _,_=>false
noncomputable def okPs:Nat->List D->Bool
 | _,[]=>true
 | n,a::as=>okP n a&&okPs n as
end
noncomputable def eqD (a b:D):Option Bool:=if okP 60 a&&okP 60 b then some (eqP a b) else none
noncomputable def keyD:D->Option Key
 | .int i=>some (.inl i)
 | .str x=>some (.inr x)
 | _=>none
noncomputable def uA:List D->Option (List Key)
 | []=>some []
 | d::ds=>match keyD d,uA ds with
  | some k,some ks=>some (k::ks)
  | _,_=>none
noncomputable def ZZ {κ:Type} [DecidableEq κ]:List κ->κ->Option Nat
 | [],_=>none
 | k::ks,x=>if k=x then some 0 else (ZZ ks x).map (·+1)
noncomputable def yO {κ:Type} [DecidableEq κ] (ks:List κ) (ds:List D) (k:κ):Option D:=(ZZ ks k).bind fun i=>ds[i]?
noncomputable def mapK {κ α:Type} [DecidableEq κ]:List κ->List α->κ->α->List α
 | k::ks,d::ds,x,y=>(if k=x then y else d)::mapK ks ds x y
 | _,ds,_,_=>ds
noncomputable def hasK {κ:Type} [DecidableEq κ] (ks:List κ) (k:κ):Bool:=ks.any fun x=>decide (x=k)
noncomputable def zM {κ α:Type} [DecidableEq κ] (ks:List κ) (ds:List α) (k:κ) (d:α):List κ×List α:=
 if hasK ks k=true then (ks,mapK ks ds k d) else (ks++[k],ds++[d])
noncomputable def isNone:D->Bool
 | .non=>true
 | _=>false
noncomputable def vY:D->D->Option (Option D)
 | .dK ks ds,k=>(keyD k).map (yO ks ds)
 | .dT ks ds,.tup t=>(uA t).map (yO ks ds)
 | .dF ks ds,.tup t=>(uA t).map (yO ks ds)
 | _,_=>none
noncomputable def isSc:D->Bool
 | .lst _=>false
 | d=>okP 59 d
noncomputable def isStr:D->Bool
 | .str _=>true
 | _=>false
noncomputable def isLs:D->Bool
 | .lst _=>true
 | _=>false
noncomputable def memD (l:List D) (d:D):Option Bool:=if isSc d&&l.all isSc then some (l.any fun y=>eqP y d) else if isLs d&&l.all isStr then some false else none
noncomputable def zE (S:Store):D->D
 | .ref k=>(S[k]?).getD .non
 | d=>d
noncomputable def int2 (f:Int->Int->Bool):D->D->Option Bool
 | .int i,.int j=>some (f i j)
 | _,_=>none
noncomputable def isD (a:D):D->Option Bool
  | .non=>some (isNone a)
  | .bl b=>(match a with
    | .bl a=>some (a==b)
    | _=>none)
  | _=>none
noncomputable def inD (a:D):D->Option Bool
  | .lst l=>memD l a
  | .tup l=>memD l a
  | .ktp l=>memD l a
  | .str y=>(match a with
    | .str x=>some (!(Ϙ y x 0 y.length 1).isEmpty)
    | _=>none)
  | .dK ks ds=>(vY (.dK ks ds) a).map (·.isSome)
  | .dT ks ds=>(vY (.dT ks ds) a).map (·.isSome)
  | .dF ks ds=>(vY (.dF ks ds) a).map (·.isSome)
  | _=>none
noncomputable def xX:List D->Option (List Int)
 | []=>some []
 | .int i::r=>(xX r).map (i::·)
 | _::_=>none
noncomputable def neD:D->D->Option Bool
 | .dK ks vs,.dK ks' vs'=>if decide (ks=ks')&&decide ks.Nodup&&decide (xX vs=xX vs')&&(xX vs).isSome then some false else none
 | a,b=>(eqD a b).map (!·)
noncomputable def cmpD (op:iT) (a b:D):Option Bool:=match op with
 | .Eq=>eqD a b
 | .NotEq=>neD a b
 | .Lt=>int2 (fun i j=>decide (i < j)) a b
 | .LtE=>int2 (fun i j=>decide (i<=j)) a b
 | .Gt=>int2 (fun i j=>decide (j < i)) a b
 | .GtE=>int2 (fun i j=>decide (j<=i)) a b
 | .Is=>isD a b
 | .IsNot=>(isD a b).map (!·)
 | .In=>inD a b
 | .NotIn=>(inD a b).map (!·)
noncomputable abbrev idx (n:Nat) (i:Int):Option Nat:=ixN n i
noncomputable def subD:D->D->Option D
 | .tup l,.int i=>(idx l.length i).bind fun k=>l[k]?
 | .lst l,.int i=>(idx l.length i).bind fun k=>l[k]?
 | .scr l,.int i=>(idx l.length i).bind fun k=>(l[k]?).map D.int
 | .str x,.int i=>if fits x.length then (idx x.cps.toList.length i).bind fun k=>(x.cps.toList[k]?).map fun c=>.str ⟨#[c]⟩ else none
 | .dK ks ds,k=>(vY (.dK ks ds) k).bind id
 | .dT ks ds,k=>(vY (.dT ks ds) k).bind id
 | .dF ks ds,k=>(vY (.dF ks ds) k).bind id
 | _,_=>none
noncomputable def cutD (l:List D) (lo hi:Option Int):List D:=(l.drop (HT.sIx l.length 0 lo)).take (HT.sIx l.length l.length hi - HT.sIx l.length 0 lo)
noncomputable def slcD (d:D) (lo hi:Option Int):Option (D×Bool):=
 match d with
 | .tup l=>some (.tup (cutD l lo hi),false)
 | .lst l=>some (.lst (cutD l lo hi),true)
 | .scr l=>some (.lst (cutD (l.map D.int) lo hi),true)
 | .str x=>if fits x.length then some (.str (lZ x lo hi),false) else none
 | _=>none
noncomputable def insD (l:List D):List D->Option (List D)
 | [.int j,d]=>if (decide (0<=j)&&decide (j<=l.length)&&fits (l.length+1))=true then some (l.take j.toNat++d::l.drop j.toNat) else none
 | _=>none
noncomputable def putN (f:Str):List Str->List Str
 | []=>[f]
 | g::r=>if g=f then g::r else g::putN f r
noncomputable def putA {α:Type}(f:Str) (d:α):List Str->List α->List α
 | g::r,x::l=>if g=f then d::l else x::putA f d r l
 | _,_=>[d]
noncomputable def augD (op:bZ):D->D->Option D
  | .int i,.int j=>(match op with
    | .Add=>some (.int (i+j))
    | .Sub=>some (.int (i - j))
    | _=>none)
  | _,_=>none
noncomputable def dk1D:List D->Option D
 | [.tup t,v]=>(uA t).map fun k=>.dT [k] [v]
 | _=>none
noncomputable def ziH:D->Option (D×Bool)
 | .lst l=>some (.lst l.reverse,true)
 | .tup l=>some (.tup l.reverse,false)
 | _=>none
noncomputable def jU:List D->Option (List Bool)
 | []=>some []
 | .bl b::r=>(jU r).map (b::·)
 | _::_=>none
noncomputable def isTy:Ty->D->Option Bool
 | t,.int _=>some (t==.int)
 | t,.bl _=>some (t==.bool||t==.int)
 | t,.str _=>some (t==.str)
 | t,.tup _=>some (t==.tuple)
 | t,.lst _=>some (t==.list)
 | t,.dK _ _=>some (t==.dict)
 | t,.non=>some false
 | _,_=>none
noncomputable def seqD:D->Option (List D)
 | .tup l=>some l
 | .lst l=>some l
 | .scr l=>some (l.map D.int)
 | .ktp l=>some l
 | _=>none
noncomputable def itrD:D->Option (List D)
 | .str x=>some (x.cps.toList.map fun c=>.str ⟨#[c]⟩)
 | d=>seqD d
noncomputable def lenD:D->Option (D×Bool)
 | .tup l=>some (.int l.length,false)
 | .lst l=>some (.int l.length,false)
 | .scr l=>some (.int l.length,false)
 | .str x=>if fits x.length then some (.int x.length,false) else none
 | .dK ks _=>some (.int ks.length,false)
 | _=>none
noncomputable def absD:D->Option (D×Bool)
 | .int i=>some (.int (if i < 0 then -i else i),false)
 | _=>none
noncomputable def intOf:D->Option (D×Bool)
 | .str x=>if decide (x.length<=640)=true then (iQ x).map fun n=>(.int n,false) else none
 | .bl b=>some (.int (if b then 1 else 0),false)
 | .int i=>some (.int i,false)
 | _=>none
noncomputable def lotD:D->Option (List D)
 | .lst l=>some l
 | .tup l=>some l
 | _=>none
noncomputable def tupI (k:List Int):D:=.tup (k.map D.int)
noncomputable def ZQ:List Key->Option (List Int)
 | []=>some []
 | .inl i::r=>(ZQ r).map (i::·)
 | _::_=>none
noncomputable def uh:List (List Key)->Option (List (List Int))
 | []=>some []
 | k::r=>(ZQ k).bind fun n=>(uh r).map (n::·)
noncomputable def lstD:D->Option (List D)
 | .dT ks _=>(uh ks).bind fun ns=>if decide (ns.length < 4096) then some (ns.map tupI) else none
 | d=>lotD d
noncomputable def onL (f:List D->Option D):D->Option (D×Bool)
 | .lst l=>(f l).map fun d=>(d,false)
 | _=>none
noncomputable def lexL:List Int->List Int->Bool
 | [],[]=>false
 | [],_::_=>true
 | _::_,[]=>false
 | a::x,b::y=>if a=b then lexL x y else decide (a < b)
noncomputable def insL (k:List Int):List (List Int)->List (List Int)
 | []=>[k]
 | x::l=>if lexL x k then x::insL k l else k::x::l
noncomputable def xg:List (List Int)->List (List Int)
 | []=>[]
 | k::l=>insL k (xg l)
noncomputable def yW:List D->Option (List (List Int))
 | []=>some []
 | .tup l::r=>(xX l).bind fun k=>(yW r).map (k::·)
 | _::_=>none
noncomputable def keyOf:Key->D
 | .inl i=>.int i
 | .inr x=>.str x
noncomputable def zdD:List (List Key)->List D->List D
 | k::ks,d::ds=>.tup [.tup (k.map keyOf),d]::zdD ks ds
 | _,_=>[]
noncomputable def srtD:D->Option (D×Bool)
 | .lst l=>(yW l).bind fun ks=>if decide (ks.length < 64) then some (.lst ((xg ks).map tupI),true) else none
 | _=>none
noncomputable def Zi:List D->Option (List Str)
 | []=>some []
 | .str x::r=>(Zi r).map (x::·)
 | _::_=>none
noncomputable def zgH (d:D):Option (D×Bool):=((lotD d).bind yW).bind fun ks=>if (decide (ks.length<=5)&&decide ks.Nodup)=true then some (.lst ((xg ks).map tupI),true) else none
noncomputable def zbN (d:D):Option (D×Bool):=zgH d
noncomputable def strD:D->Option (D×Bool)
 | .int i=>if decide (i.natAbs.log2 < 1920) then some (.str (toString i),false) else none
 | .str x=>some (.str x,false)
 | _=>none
noncomputable def zku (x:Str) (d:D):Option (D×Bool):=((lotD d).bind Zi).bind fun ys=>if fits ((ys.map (·.length)).sum+ys.length*x.length) then some (.str (mO x ys),false) else none
noncomputable def zgJ (x:Str):D->Option (D×Bool)
 | .str y=>if (!(y.length==0)&&fits x.length&&fits (aK x y).length)=true then some (.lst ((aK x y).map D.str),true) else none
 | _=>none
noncomputable def bi2:BI->D->D->Option (D×Bool)
 | _,_,_=>none
noncomputable def biD (b:BI) (ds:List D):Option (D×Bool):=match ds with
  | [d]=>(match b with
    | .len=>lenD d
    | .abs=>absD d
    | .int=>intOf d
    | .tuple=>(lotD d).map fun l=>(.tup l,false)
    | .list=>(lstD d).map fun l=>(.lst l,true)
    | .all=>onL (fun l=>(jU l).map fun bs=>.bl (bs.all id)) d
    | .isinst t=>(isTy t d).map fun b=>(.bl b,false)
    | .sorted=>srtD d
    | .sset=>zbN d
    | .str=>strD d
    | _=>none)
  | [d,e]=>bi2 b d e
  | _=>none
noncomputable def mthK:MT->D->Bool
 | .join,.str _=>true
 | .split,.str _=>true
 | .sidx,.str _=>true
 | _,_=>false
noncomputable def zjt (x:Str):D->Option (D×Bool)
 | .str y=>(Ϙ x y 0 x.length 1).head?.map fun (i:Nat)=>(.int (i:Int),false)
 | _=>none
noncomputable def mthD:MT->D->List D->Option (D×Bool)
 | .index,_,_=>none
 | .get1,_,_=>none
 | .get2,_,_=>none
 | .join,.str x,[d]=>zku x d
 | .split,.str x,[d]=>zgJ x d
 | .sidx,.str x,[d]=>zjt x d
 | _,_,_=>none
noncomputable def nT:T->Nat
 | .one _=>1
 | .nst _ is=>1+is.length
 | .tup is=>is.length
noncomputable def vW:Nat->List D->List D
 | _,[]=>[]
 | n,d::ds=>.tup [.int n,d]::vW (n+1) ds
noncomputable def zkE:D->Option (List D)
 | .lst l=>some l
 | _=>none
noncomputable def pairD:List D->List D->List D
 | a::as,b::bs=>.tup [a,b]::pairD as bs
 | _,_=>[]
noncomputable def tup2:D->D->Option (List D)
 | .tup a,.tup b=>some (pairD a b)
 | _,_=>none
noncomputable def zR (lo hi:Int):List D:=(ϝ (hi - lo).toNat).map fun (k:Nat)=>.int (lo+(k:Int))
noncomputable def dwnD:List D->Option (List D)
 | [.int i,.int j,.int k]=>if (decide (k=-1)&&decide (-1000000<=i)&&decide (i<=1000000)&&decide (-1000000<=j)&&decide (j<=1000000))=true then some (zR (j+1) (i+1)).reverse else none
 | _=>none
noncomputable def zcP (tk:Bool) (ks:List Key) (ds:List D):Bool:=decide (ks.length=ds.length)&&decide ks.Nodup&&decide (ks.length<=15)&&(!tk||ks.isEmpty)
inductive Slot where
 | no | sh (d:D) | ow (d:D)
 deriving Inhabited
inductive O where
 | next (ρ:List Slot) | ret (d:D) (fr:Bool) | brk (ρ:List Slot) | cnt (ρ:List Slot)
noncomputable def nst2:D->Option (D×List D)
  | .tup l=>(match l with
    | x::r=>(match r with
      | y::z=>(match z with
        | []=>(match y with
          | .tup ds=>some (x,ds)
          | _=>none)
        | _=>none)
      | _=>none)
    | _=>none)
  | _=>none
theorem zfa {d:D}{p:D×List D}(h:nst2 d=some p):d=.tup [p.1,.tup p.2]:=by
 cases d with
 | tup l=>
  cases l with
  | nil=>cases h
  | cons x r=>
   cases r with
   | nil=>cases h
   | cons y z=>
    cases z with
    | cons _ _=>cases h
    | nil=>
     cases y with
     | tup ds=>cases h;rfl
     | _=>cases h
 | _=>cases h
noncomputable def yz (ρ:List Slot):T->D×Bool->Option (List Slot)
 | .one i,(d,fr)=>if i < ρ.length&&!Vt d then some (ρ.set i (if fr=true then .ow d else .sh d)) else none
 | .tup is,(.tup ds,_)=>if is.length=ds.length/\is.Nodup/\is.all (· < ρ.length) then some ((is.zip ds).foldl (fun r p=>r.set p.1 (.sh p.2)) ρ) else none
 | .nst i is,(d,_)=>(nst2 d).bind fun p=>if i < ρ.length/\is.length=p.2.length/\is.Nodup/\is.all (· < ρ.length) then some ((is.zip p.2).foldl (fun r p=>r.set p.1 (.sh p.2)) (ρ.set i (.sh p.1))) else none
 | _,_=>none
noncomputable def putD:D->D->D->Option D
 | .lst l,.int i,d=>(idx l.length i).map fun k=>.lst (l.set k d)
 | .dK ks ds,k,d=>(keyD k).bind fun k=>if fits (ks.length+1) then some (let p:=zM ks ds k d;.dK p.1 p.2) else none
 | .dT ks ds,.tup t,d=>(uA t).bind fun k=>if fits (ks.length+1) then some (let p:=zM ks ds k d;.dT p.1 p.2) else none
 | _,_,_=>none
noncomputable def zkv:Option D->Bool
 | some (.lst _)=>true
 | _=>false
noncomputable def extD:D->Option (List D)
 | .lst l=>some l
 | .tup l=>some l
 | _=>none
noncomputable def entry (fn:Fn) (ds:List D):List Slot:=ds.map Slot.sh++Ϸ (fn.nv - ds.length) Slot.no
inductive Kd where
 | st | fr | bo
noncomputable abbrev Vl:=D×Kd
abbrev Po:=Vl->Store->Prop
abbrev Cf:=Nat->List D->Po->Store->Prop
noncomputable def kd:Bool->Kd
 | true=>.fr
 | false=>.st
noncomputable def ofB (p:D×Bool):Vl:=(p.1,kd p.2)
def opt {α:Type}:Option α->(α->Prop)->Prop
 | some a,Q=>Q a
 | none,_=>False
def opV (o:Option (D×Bool)) (Q:Vl->Prop):Prop:=opt o fun p=>Q (ofB p)
def optS:Option (List Slot)->(List Slot->Prop)->Prop:=opt
def tst:Bool->Prop->Prop->Prop
 | true,T,_=>T
 | false,_,F=>F
def isB:D->(Bool->Prop)->Prop
 | .bl b,Q=>Q b
 | _,_=>False
def isF:D->(Nat->Prop)->Prop
 | .fn f,Q=>Q f
 | _,_=>False
def isZ:D->(Int->Prop)->Prop
 | .int i,Q=>Q i
 | _,_=>False
def keep:Vl->(D->Prop)->Prop
 | (d,.st),Q=>Q d
 | (d,.fr),Q=>Q d
 | _,_=>False
def sel:Option Slot->(D->Prop)->(D->Prop)->Prop
 | some (.sh d),Q,_=>Q d
 | some (.ow d),_,Q=>Q d
 | _,_,_=>False
def rdV (s:Option Slot) (Q:Vl->Prop):Prop:=sel s (fun d=>Q (d,.st)) (fun d=>Q (d,.bo))
def boxd:Vl->(D->Prop)->Prop
 | (d,.fr),Q=>Q d
 | _,_=>False
def vO (step:D->(Option D->Store->Prop)->Store->Prop):List D->List D->(List D->Store->Prop)->Store->Prop
 | [],acc,V,S=>V acc S
 | d::ds,acc,V,S=>step d (fun o S1=>match o with
  | some x=>tst (fits (acc.length+1)) (vO step ds (acc++[x]) V S1) False
  | none=>vO step ds acc V S1) S
noncomputable def inn (ρ:List Slot) (t:T) (js:List Nat):List Slot:=Ϸ (nT t) .no++js.map fun j=>(ρ[j]?).getD .no
noncomputable def dicV (tk:Bool) (ks:List Key) (ds:List D):D:=if tk=true then .dT [] [] else .dK ks ds
def isR:D->(Nat->Prop)->Prop
 | .ref n,Q=>Q n
 | _,_=>False
def isDT:Option D->(List (List Key)->List D->Prop)->Prop
 | some (.dT ks ds),Q=>Q ks ds
 | _,_=>False
def owT:Option Slot->(List (List Key)->List D->Prop)->Prop
 | some (.ow (.dT ks ds)),Q=>Q ks ds
 | _,_=>False
theorem zdo {s:Option Slot}{Q:List (List Key)->List D->Prop}(h:owT s Q):∃ ks ds,s=some (.ow (.dT ks ds))/\Q ks ds:=by
 unfold owT at h;split at h
 ·exact ⟨_,_,rfl,h⟩
 ·exact h.elim
theorem zfr {s:Option D}{Q:List (List Key)->List D->Prop}(h:isDT s Q):∃ ks ds,s=some (.dT ks ds)/\Q ks ds:=by
 cases s with
 | none=>exact h.elim
 | some s=>
  cases s with
  | dT ks ds=>exact ⟨ks,ds,rfl,h⟩
  | _=>exact h.elim
theorem zim {s:Option D}{ks:List (List Key)}{ds:List D}{Q:List (List Key)->List D->Prop}(h:s=some (.dT ks ds)) (q:Q ks ds):isDT s Q:=by subst h;exact q
theorem isRr {s:D}{Q:Nat->Prop}(h:isR s Q):∃ n,s=.ref n/\Q n:=by
 cases s with
 | ref n=>exact ⟨n,rfl,h⟩
 | _=>exact h.elim
def isOb (S:Store) (d:D) (Q:Nat->Str->List Str->List D->Prop):Prop:=isR d fun k=>match S[k]? with
 | some (.ins c ns ds)=>Q k c ns ds
 | _=>False
set_option tactic.hygienic true in
theorem ZR {S:Store}{d:D}{Q:Nat->Str->List Str->List D->Prop}(h:isOb S d Q):∃ k c ns ds,d=.ref k/\S[k]?=some (.ins c ns ds)/\Q k c ns ds:=by
 obtain ⟨k,rfl,q⟩:=isRr h;split at q
 ·rename_i e;exact ⟨k,_,_,_,rfl,e,q⟩
 ·exact q.elim
theorem yP {S:Store}{k:Nat}{c:Str}{ns:List Str}{ds:List D}{Q:Nat->Str->List Str->List D->Prop}(e:S[k]?=some (.ins c ns ds)) (q:Q k c ns ds):isOb S (.ref k) Q:=by
  show (match S[k]? with
    | some (.ins c ns ds)=>Q k c ns ds
    | _=>False)
  rw [e];exact q
def isN:D->Prop->Prop
 | .non,P=>P
 | _,_=>False
theorem zdI {d:D}{P:Prop}(h:isN d P):d=.non/\P:=by
 cases d with
 | non=>exact ⟨rfl,h⟩
 | _=>exact h.elim
mutual
def wpE (cf:Cf) (ρ:List Slot):E->Po->Store->Prop
 | .var i,V,S=>rdV ρ[i]? fun x=>V x S
 | .con d,V,S=>V (d,.st) S
 | .glo _ d,V,S=>V (d,.st) S
 | .bin op a b,V,S=>wpE cf ρ a (fun x S1=>wpE cf ρ b (fun y S2=>opV (opD op (zE S2 x.1) (zE S2 y.1)) fun x=>V x S2) S1) S
 | .neg a,V,S=>wpE cf ρ a (fun x S1=>isZ x.1 fun i=>V (.int (-i),.st) S1) S
 | .cmp op a b,V,S=>wpE cf ρ a (fun x S1=>wpE cf ρ b (fun y S2=>opt (cmpD op (zE S2 x.1) (zE S2 y.1)) fun r=>V (.bl r,.st) S2) S1) S
 | .chn o1 o2 a b c,V,S=>wpE cf ρ a (fun x S1=>wpE cf ρ b (fun y S2=>opt (cmpD o1 (zE S2 x.1) (zE S2 y.1)) fun r=>tst r (wpE cf ρ c (fun z S3=>opt (cmpD o2 (zE S3 y.1) (zE S3 z.1)) fun r=>V (.bl r,.st) S3) S2) (V (.bl false,.st) S2)) S1) S
 | .not a,V,S=>wpE cf ρ a (fun x S1=>isB x.1 fun b=>V (.bl (!b),.st) S1) S
 | .and a b,V,S=>wpE cf ρ a (fun x S1=>isB x.1 fun r=>tst r (wpE cf ρ b V S1) (V (.bl false,.st) S1)) S
 | .or a b,V,S=>wpE cf ρ a (fun x S1=>isB x.1 fun r=>tst r (V (.bl true,.st) S1) (wpE cf ρ b V S1)) S
 | .ite c a b,V,S=>wpE cf ρ c (fun x S1=>isB x.1 fun r=>tst r (wpE cf ρ a V S1) (wpE cf ρ b V S1)) S
 | .tup es,V,S=>wpEs cf ρ es (fun ds S1=>tst (fits ds.length) (V (.tup ds,.st) S1) False) S
 | .lst es,V,S=>wpEs cf ρ es (fun ds S1=>tst (fits ds.length) (V (.lst ds,.fr) S1) False) S
 | .dic tk ks es,V,S=>wpEs cf ρ es (fun ds S1=>tst (zcP tk ks ds) (V (dicV tk ks ds,.fr) S1) False) S
 | .sub a i,V,S=>wpE cf ρ a (fun x S1=>wpE cf ρ i (fun y S2=>opt (subD (zE S2 x.1) y.1) fun d=>V (d,.st) S2) S1) S
 | .slc a lo hi,V,S=>wpE cf ρ a (fun x S1=>wpO cf ρ lo (fun l S2=>wpO cf ρ hi (fun h S3=>opV (slcD (zE S3 x.1) l h) fun x=>V x S3) S2) S1) S
 | .bi b [e],V,S=>wpE cf ρ e (fun x S1=>opV (biD b [zE S1 x.1]) fun x=>V x S1) S
 | .bi b es,V,S=>wpEs cf ρ es (fun ds S1=>opV (biD b (ds.map (zE S1))) fun x=>V x S1) S
 | .mth m o es,V,S=>wpE cf ρ o (fun x S1=>tst (mthK m (zE S1 x.1)) (wpEs cf ρ es (fun ds S2=>opV (mthD m (zE S2 x.1) ds) fun x=>V x S2) S1) False) S
 | .call f es,V,S=>wpEs cf ρ es (fun ds S1=>cf f ds V S1) S
 | .callk f perm es,V,S=>wpEs cf ρ es (fun ds S1=>opt (perm.mapM fun i=>ds[i]?) fun ds=>cf f ds V S1) S
 | .comp t js it ifs elt,V,S=>wpI cf ρ it (fun its S1=>vO (fun d K S=>optS (yz (inn ρ t js) t (d,false)) fun ρ'=>wpF cf ρ' ifs (fun b S1=>tst b (wpE cf ρ' elt (fun x S2=>keep x fun d=>K (some d) S2) S1) (K none S1)) S) its [] (fun ds S2=>V (.lst ds,.fr) S2) S1) S
 | .box e,V,S=>wpE cf ρ e (fun x S1=>boxd x fun d=>V (.ref S1.length,.st) (S1++[d])) S
 | .callv i es,V,S=>rdV ρ[i]? fun x=>isF x.1 fun f=>wpEs cf ρ es (fun ds S1=>cf f ds V S1) S
 | .one e,V,S=>wpE cf ρ e V S
 | .dk1 a b,V,S=>wpE cf ρ a (fun x S1=>keep x fun d=>wpE cf ρ b (fun y S2=>keep y fun e=>opt (dk1D [d,e]) fun r=>V (r,.fr) S2) S1) S
 | .flip e,V,S=>wpE cf ρ e (fun x S1=>opV (ziH (zE S1 x.1)) fun x=>V x S1) S
 | .att cs o f,V,S=>wpE cf ρ o (fun x S1=>keep x fun r=>isOb S1 r fun _ c ns ds=>tst (cs.contains c) (opt (yO ns ds f) fun d=>V (d,.st) S1) False) S
 | .met ms o m es,V,S=>wpE cf ρ o (fun x S1=>keep x fun r=>isOb S1 r fun k c ns _=>tst (!ns.contains m) (opt (ms.lookup c) fun f=>wpEs cf ρ es (fun ds S2=>cf f (.ref k::ds) V S2) S1) False) S
 | .mk c f es,V,S=>wpEs cf ρ es (fun ds S1=>cf f (.ref S1.length::ds) (fun x S2=>isN x.1 (V (.ref S1.length,.st) S2)) (S1++[.ins c [] []])) S
 | _,_,_=>False
def wpEs (cf:Cf) (ρ:List Slot):List E->(List D->Store->Prop)->Store->Prop
 | [],W,S=>W [] S
 | e::es,W,S=>wpE cf ρ e (fun x S1=>keep x fun d=>wpEs cf ρ es (fun ds S2=>W (d::ds) S2) S1) S
def wpO (cf:Cf) (ρ:List Slot):Option E->(Option Int->Store->Prop)->Store->Prop
 | none,W,S=>W none S
 | some e,W,S=>wpE cf ρ e (fun x S1=>isZ x.1 fun i=>W (some i) S1) S
def wpF (cf:Cf) (ρ:List Slot):List E->(Bool->Store->Prop)->Store->Prop
 | [],W,S=>W true S
 | [e],W,S=>wpE cf ρ e (fun x S1=>isB x.1 fun b=>W b S1) S
 | _,_,_=>False
def wpI (cf:Cf) (ρ:List Slot):E->(List D->Store->Prop)->Store->Prop
 | .dwn es,W,S=>wpEs cf ρ es (fun ds S1=>opt (dwnD ds) fun l=>W l S1) S
 | .rev hi,W,S=>wpE cf ρ hi (fun x S1=>isZ x.1 fun h=>tst (fits h.toNat&&decide (-1000000<=h)) (W (zR 0 h).reverse S1) False) S
 | .rng none hi,W,S=>wpE cf ρ hi (fun x S1=>isZ x.1 fun h=>tst (fits h.toNat&&decide (-1000000<=h)) (W (zR 0 h) S1) False) S
 | .rng (some lo) hi,W,S=>wpE cf ρ lo (fun y S1=>wpE cf ρ hi (fun x S2=>isZ y.1 fun l=>isZ x.1 fun h=>tst (fits (h - l).toNat&&decide (-1000000<=h)&&decide (-1000000<=l)&&decide (h<=1000000)&&decide (l<=1000000)) (W (zR l h) S2) False) S1) S
 | .enum e,W,S=>wpE cf ρ e (fun x S1=>keep x fun d=>opt (zkE d) fun l=>W (vW 0 l) S1) S
 | .seq e,W,S=>wpE cf ρ e (fun x S1=>keep x fun d=>opt (itrD d) fun l=>W l S1) S
 | .zip a b,W,S=>wpE cf ρ a (fun x S1=>keep x fun d=>wpE cf ρ b (fun y S2=>keep y fun e=>opt (tup2 d e) fun l=>W l S2) S1) S
 | .items e,W,S=>wpE cf ρ e (fun x S1=>keep x fun r=>isR r fun k=>isDT S1[k]? fun ks ds=>W (zdD ks ds) (S1.set k (.ref k))) S
 | _,_,_=>False
end
def wpX (cf:Cf) (ρ:List Slot) (e:E) (V:Po) (S:Store):Prop:=wpE cf ρ e V S
noncomputable def zbl (ρ:List Slot) (t:T):Vl->Option (List Slot)
 | (d,.st)=>yz ρ t (d,false)
 | (d,.fr)=>yz ρ t (d,true)
 | _=>none
def retV:Vl->(O->Prop)->Prop
 | (d,.st),K=>K (.ret d false)
 | (d,.fr),K=>K (.ret d true)
 | _,_=>False
def owL:Option Slot->(List D->Prop)->Prop
 | some (.ow (.lst l)),Q=>Q l
 | _,_=>False
def owD:Option Slot->(D->Prop)->Prop
 | some (.ow d),Q=>Q d
 | _,_=>False
def frW:Option Slot->Store->(Nat->List D->Prop)->Prop
  | some (.sh (.ref k)),S,Q=>(match S[k]? with
    | some (.lst l)=>Q k l
    | _=>False)
  | _,_,_=>False
set_option tactic.hygienic true in
theorem zdM {s:Option Slot}{S:Store}{Q:Nat->List D->Prop}(h:frW s S Q):∃ k l,s=some (.sh (.ref k))/\S[k]?=some (.lst l)/\Q k l:=by
 unfold frW at h;split at h
 ·split at h
  ·rename_i e;exact ⟨_,_,rfl,e,h⟩
  ·exact h.elim
 ·exact h.elim
theorem ziF {k:Nat}{l:List D}{S:Store}{Q:Nat->List D->Prop}(h:S[k]?=some (.lst l)) (q:Q k l):frW (some (.sh (.ref k))) S Q:=by
  show (match S[k]? with
    | some (.lst l)=>Q k l
    | _=>False)
  rw [h];exact q
def isL:Option D->(List D->Prop)->Prop
 | some (.lst l),Q=>Q l
 | _,_=>False
noncomputable def fz:Slot->Slot
 | .ow d=>.sh d
 | s=>s
abbrev Ko:=O->Store->Prop
def nxt (f:List Slot->Store->Prop) (K:Ko):Ko
 | .next ρ,S=>f ρ S
 | o,S=>K o S
def trn (K:Ko) (I:List Slot->Store->Prop):Ko
 | .next ρ,S=>I ρ S
 | .cnt ρ,S=>I ρ S
 | .brk ρ,S=>K (.next ρ) S
 | .ret d fr,S=>K (.ret d fr) S
def forW (t:T) (b:List Slot->Ko->Store->Prop):List D->List Slot->Ko->Store->Prop
 | [],ρ,K,S=>K (.next ρ) S
 | d::l,ρ,K,S=>optS (yz ρ t (d,false)) fun ρ1=>b ρ1 (trn K fun ρ' S'=>forW t b l ρ' K S') S
def whlW (c:List Slot->Po->Store->Prop) (b:List Slot->Ko->Store->Prop):Nat->List Slot->Ko->Store->Prop
 | 0,_,_,_=>False
 | n+1,ρ,K,S=>c ρ (fun x S1=>isB x.1 fun r=>tst r (b ρ (trn K fun ρ' S'=>whlW c b n ρ' K S') S1) (K (.next ρ) S1)) S
abbrev Xp:=Nat->Store->Prop
noncomputable def noX:Xp:=fun _ _=>False
noncomputable def subT (tb:List (List Nat)) (c k:Nat):Bool:=match tb[c]? with
 | some l=>l.contains k
 | none=>false
noncomputable def hbV (tb:List (List Nat)) (c:Nat) (va:Nat->Option Bool):HB->Option Bool
 | .is k=>some (subT tb c k)
 | .isT ks=>some (ks.any fun k=>subT tb c k)
 | .ve=>some true
 | .var j=>va j
 | .not a=>(hbV tb c va a).map (!·)
 | .and a b=>(hbV tb c va a).bind fun x=>if x=true then hbV tb c va b else some false
 | .or a b=>(hbV tb c va a).bind fun x=>if x=true then some true else hbV tb c va b
 | .one a=>hbV tb c va a
mutual
def wpC (cx:Xp->Cf) (ex:Xp) (w:Nat):C->List Slot->Ko->Store->Prop
 | .set t (.box e),ρ,K,S=>wpE (cx noX) ρ e (fun x S1=>boxd x fun d=>optS (yz ρ t (.ref S1.length,false)) fun ρ2=>K (.next ρ2) (S1++[d])) S
 | .set t e,ρ,K,S=>wpE (cx noX) ρ e (fun x S1=>optS (zbl ρ t x) fun ρ2=>K (.next ρ2) S1) S
 | .expr e,ρ,K,S=>wpE (cx noX) ρ e (fun _ S1=>K (.next ρ) S1) S
 | .ret (.var i),ρ,K,S=>sel ρ[i]? (fun d=>K (.ret d false) S) (fun d=>K (.ret d true) S)
 | .ret e,ρ,K,S=>wpE (cx noX) ρ e (fun x S1=>retV x fun o=>K o S1) S
 | .retN,ρ,K,S=>K (.ret .non false) S
 | .ite e A B,ρ,K,S=>wpE (cx noX) ρ e (fun x S1=>isB x.1 fun b=>tst b (wpCs cx ex w A ρ K S1) (wpCs cx ex w B ρ K S1)) S
 | .whl e A,ρ,K,S=>whlW (fun ρ=>wpX (cx noX) ρ e) (fun ρ=>wpCs cx ex w A ρ) w ρ K S
 | .forr t it A,ρ,K,S=>wpI (cx noX) ρ it (fun l S1=>forW t (fun ρ=>wpCs cx ex w A ρ) l ρ K S1) S
 | .app i e,ρ,K,S=>owL ρ[i]? fun l=>wpE (cx noX) ρ e (fun x S1=>keep x fun d=>tst (fits (l.length+1)) (K (.next (ρ.set i (.ow (.lst (l++[d]))))) S1) False) S
 | .ext i e,ρ,K,S=>owL ρ[i]? fun l=>wpE (cx noX) ρ e (fun x S1=>keep x fun d=>opt (extD d) fun m=>tst (fits (l.length+m.length)) (K (.next (ρ.set i (.ow (.lst (l++m))))) S1) False) S
 | .stv i k v,ρ,K,S=>owD ρ[i]? fun c=>wpE (cx noX) ρ v (fun x S1=>keep x fun d=>wpE (cx noX) ρ k (fun y S2=>keep y fun e=>opt (putD c e d) fun c'=>K (.next (ρ.set i (.ow c'))) S2) S1) S
 | .sti o k v,ρ,K,S=>wpE (cx noX) ρ v (fun x S1=>keep x fun d=>wpE (cx noX) ρ o (fun z S2=>keep z fun r=>wpE (cx noX) ρ k (fun y S3=>keep y fun e=>isR r fun n=>opt S3[n]? fun c=>opt (putD c e d) fun c'=>K (.next ρ) (S3.set n c')) S2) S1) S
 | .pop i,ρ,K,S=>owL ρ[i]? fun l=>tst (!l.isEmpty) (K (.next (ρ.set i (.ow (.lst l.dropLast)))) S) False
 | .appR o e,ρ,K,S=>wpE (cx noX) ρ o (fun z S1=>keep z fun r=>isR r fun n=>tst (zkv S1[n]?) (wpE (cx noX) ρ e (fun x S2=>keep x fun d=>isL S2[n]? fun l=>tst (fits (l.length+1)) (K (.next ρ) (S2.set n (.lst (l++[d])))) False) S1) False) S
 | .popO t i,ρ,K,S=>owL ρ[i]? fun l=>opt l.getLast? fun d=>optS (yz (ρ.set i (.ow (.lst l.dropLast))) t (d,false)) fun ρ2=>K (.next ρ2) S
 | .popR t o,ρ,K,S=>wpE (cx noX) ρ o (fun z S1=>keep z fun r=>isR r fun n=>isL S1[n]? fun l=>opt l.getLast? fun d=>optS (yz ρ t (d,false)) fun ρ2=>K (.next ρ2) (S1.set n (.lst l.dropLast))) S
 | .pass,ρ,K,S=>K (.next ρ) S
 | .brk,ρ,K,S=>K (.brk ρ) S
 | .cnt,ρ,K,S=>K (.cnt ρ) S
 | .frz i,ρ,K,S=>K (.next (ρ.set i (fz ((ρ[i]?).getD .no)))) S
 | .frk i,ρ,K,S=>owT ρ[i]? fun ks ds=>K (.next (ρ.set i (.sh (.dF ks ds)))) S
 | .sta cs o f e,ρ,K,S=>wpE (cx noX) ρ e (fun x S1=>keep x fun d=>wpE (cx noX) ρ o (fun z S2=>keep z fun r=>isOb S2 r fun k c ns ds=>tst (cs.contains c&&decide (ns.length < 999)) (K (.next ρ) (S2.set k (.ins c (putN f ns) (putA f d ns ds)))) False) S1) S
 | .aua cs o f op e,ρ,K,S=>wpE (cx noX) ρ o (fun z S1=>keep z fun r=>isOb S1 r fun k c ns ds=>tst (cs.contains c) (opt (yO ns ds f) fun a=>wpE (cx noX) ρ e (fun y S2=>isOb S2 (.ref k) fun _ c' ns' ds'=>opt (augD op a y.1) fun b=>tst (decide (c'=c)&&decide (ns'.length < 999)) (K (.next ρ) (S2.set k (.ins c (putN f ns') (putA f b ns' ds')))) False) S1) False) S
 | .lin i es,ρ,K,S=>owL ρ[i]? fun l=>wpEs (cx noX) ρ es (fun ds S1=>opt (insD l ds) fun m=>K (.next (ρ.set i (.ow (.lst m)))) S1) S
 | .rse c,_,_,S=>ex c S
 | .stx i f es,ρ,K,S=>wpEs (cx noX) ρ es (fun ds S1=>cx ex f ds (fun x S2=>optS (zbl ρ (.one i) x) fun ρ2=>K (.next ρ2) S2) S1) S
 | .sw2 i j a b,ρ,K,S=>wpE (cx noX) ρ a (fun x S1=>keep x fun d=>wpE (cx noX) ρ b (fun y S2=>keep y fun e=>optS (yz ρ (.tup [i,j]) (.tup [d,e],false)) fun ρ2=>K (.next ρ2) S2) S1) S
 | .trx tb j f es ce i h a b els,ρ,K,S=>wpEs (cx noX) ρ es (fun ds S1=>cx (fun c S2=>tst (subT tb c ce) (opt (hbV tb c (fun _=>none) h) fun r=>K (.ret (.tup (if r=true then a else b)) false) S2) False) f ds (fun x S2=>optS (zbl ρ (.one j) x) fun ρ2=>wpCs cx ex w els ρ2 K S2) S1) S
 | .tri _ _ _ _ _ _,_,_,_=>False
 | .frr i,ρ,K,S=>frW ρ[i]? S fun k l=>K (.next (ρ.set i (.sh (.lst l)))) (S.set k (.ref k))
def wpCs (cx:Xp->Cf) (ex:Xp) (w:Nat):List C->List Slot->Ko->Store->Prop
 | [],ρ,K,S=>K (.next ρ) S
 | c::cs,ρ,K,S=>wpC cx ex w c ρ (nxt (fun ρ' S'=>wpCs cx ex w cs ρ' K S') K) S
end
def told (V:Po):Ko
 | .ret d fr,S=>V (d,kd fr) S
 | .next _,S=>V (.non,.st) S
 | _,_=>False
def zb (F:Nat->Option Fn) (w:Nat):Nat->Xp->Cf
 | 0=>fun _ _ _ _ _=>False
 | k+1=>fun ex f ds V S=>opt (F f) fun fn=>ds.length=fn.np/\wpCs (zb F w k) ex w fn.body (entry fn ds) (told V) S
abbrev xH (F:Nat->Option Fn) (w k:Nat):Cf:=zb F w k noX
section
theorem zg {α:Type}{o:Option α}{P Q:α->Prop}(h:∀ a,P a->Q a):opt o P->opt o Q:=by
 cases o with
 | some a=>exact h a
 | none=>exact id
theorem zu {b:Bool}{P P' Q Q':Prop}(h:P->P') (k:Q->Q'):tst b P Q->tst b P' Q':=by
 cases b with
 | true=>exact h
 | false=>exact k
theorem yF {d:D}{P Q:Bool->Prop}(h:∀ a,P a->Q a):isB d P->isB d Q:=by cases d <;> first | exact h _ | exact id
theorem U8 {d:D}{P Q:Nat->Prop}(h:∀ a,P a->Q a):isF d P->isF d Q:=by cases d <;> first | exact h _ | exact id
theorem xR {d:D}{P Q:Int->Prop}(h:∀ a,P a->Q a):isZ d P->isZ d Q:=by cases d <;> first | exact h _ | exact id
theorem zq {x:Vl}{P Q:D->Prop}(h:∀ a,P a->Q a):keep x P->keep x Q:=by obtain ⟨d,k⟩:=x;cases k <;> first | exact h _ | exact id
theorem X7 {x:Vl}{P Q:D->Prop}(h:∀ a,P a->Q a):boxd x P->boxd x Q:=by obtain ⟨d,k⟩:=x;cases k <;> first | exact h _ | exact id
theorem Zt {s:Option Slot}{P P' Q Q':D->Prop}(h:∀ a,P a->P' a) (k:∀ a,Q a->Q' a):sel s P Q->sel s P' Q':=by
 cases s with
 | none=>exact id
 | some s=>cases s <;> first | exact h _ | exact k _ | exact id
theorem uX {s:D->(Option D->Store->Prop)->Store->Prop}(hs:∀ d K K' S,(∀ o S,K o S->K' o S)->s d K S->s d K' S):∀ {l acc:List D}{V V':List D->Store->Prop}{S:Store},(∀ a S,V a S->V' a S)->vO s l acc V S->vO s l acc V' S
 | [],_,_,_,_,h=>h _ _
 | d::l,acc,V,V',S,h=>hs d _ _ S fun o S1=>by
  cases o with
  | some x=>exact zu (uX hs h) id
  | none=>exact uX hs h
def Mono (cf:Cf):Prop:=∀ f ds (V V':Po) S,(∀ x S,V x S->V' x S)->cf f ds V S->cf f ds V' S
variable {cf:Cf}
theorem uT {s:D}{P Q:Nat->Prop}(h:∀ a,P a->Q a):isR s P->isR s Q:=by cases s <;> first | exact h _ | exact id
theorem zcf {s:Option Slot}{P Q:List (List Key)->List D->Prop}(h:∀ a b,P a b->Q a b) (p:owT s P):owT s Q:=by obtain ⟨ks,ds,rfl,q⟩:=zdo p;exact h _ _ q
theorem zaG {s:Option D}{P Q:List (List Key)->List D->Prop}(h:∀ a b,P a b->Q a b) (p:isDT s P):isDT s Q:=by obtain ⟨ks,ds,e,q⟩:=zfr p;exact zim e (h _ _ q)
theorem xx {S:Store}{d:D}{P Q:Nat->Str->List Str->List D->Prop}(h:∀ a b c e,P a b c e->Q a b c e) (p:isOb S d P):isOb S d Q:=by obtain ⟨k,c,ns,ds,rfl,e,q⟩:=ZR p;exact yP e (h _ _ _ _ q)
theorem zcz {d:D}{P Q:Prop}(h:P->Q) (p:isN d P):isN d Q:=by obtain ⟨rfl,q⟩:=zdI p;exact h q
mutual
theorem za (hc:Mono cf):∀ (e:E) {ρ:List Slot}{V V':Po}{S:Store},(∀ x S,V x S->V' x S)->wpE cf ρ e V S->wpE cf ρ e V' S
 | .var i,_,_,_,_,h,k=>Zt (fun _=>h _ _) (fun _=>h _ _) k
 | .con d,_,_,_,_,h,k=>h _ _ k
 | .glo _ d,_,_,_,_,h,k=>h _ _ k
 | .bin op a b,_,_,_,_,h,k=>za hc a (fun _ _=>za hc b fun _ _=>zg fun _=>h _ _) k
 | .neg a,_,_,_,_,h,k=>za hc a (fun _ _=>xR fun _=>h _ _) k
 | .cmp op a b,_,_,_,_,h,k=>za hc a (fun _ _=>za hc b fun _ _=>zg fun _=>h _ _) k
 | .chn o1 o2 a b c,_,_,_,_,h,k=>za hc a (fun _ _=>za hc b fun _ _=>zg fun _=>zu (za hc c fun _ _=>zg fun _=>h _ _) (h _ _)) k
 | .not a,_,_,_,_,h,k=>za hc a (fun _ _=>yF fun _=>h _ _) k
 | .and a b,_,_,_,_,h,k=>za hc a (fun _ _=>yF fun _=>zu (za hc b h) (h _ _)) k
 | .or a b,_,_,_,_,h,k=>za hc a (fun _ _=>yF fun _=>zu (h _ _) (za hc b h)) k
 | .ite c a b,_,_,_,_,h,k=>za hc c (fun _ _=>yF fun _=>zu (za hc a h) (za hc b h)) k
 | .tup es,_,_,_,_,h,k=>zB hc es (fun _ _=>zu (h _ _) id) k
 | .lst es,_,_,_,_,h,k=>zB hc es (fun _ _=>zu (h _ _) id) k
 | .dic _ _ es,_,_,_,_,h,k=>zB hc es (fun _ _=>zu (h _ _) id) k
 | .sub a b,_,_,_,_,h,k=>za hc a (fun _ _=>za hc b fun _ _=>zg fun _=>h _ _) k
 | .slc a l u,_,_,_,_,h,k=>za hc a (fun _ _=>V1 hc l fun _ _=>V1 hc u fun _ _=>zg fun _=>h _ _) k
 | .bi b [],_,_,_,_,h,k=>zB hc [] (fun _ _=>zg fun _=>h _ _) k
 | .bi b [e],_,_,_,_,h,k=>za hc e (fun _ _=>zg fun _=>h _ _) k
 | .bi b (e::f::es),_,_,_,_,h,k=>zB hc (e::f::es) (fun _ _=>zg fun _=>h _ _) k
 | .mth m o es,_,_,_,_,h,k=>za hc o (fun _ _=>zu (zB hc es fun _ _=>zg fun _=>h _ _) id) k
 | .call f es,_,_,_,_,h,k=>zB hc es (fun _ _=>hc _ _ _ _ _ h) k
 | .callk f p es,_,_,_,_,h,k=>zB hc es (fun _ _=>zg fun _=>hc _ _ _ _ _ h) k
 | .comp t js it ifs elt,ρ,V,V',S,h,k=>by
  refine V2 hc it (fun its S1 q=>?_) k;refine uX ?_ ?_ q
  ·intro d K K' S q;exact zg fun ρ'=>zbA hc ifs fun b S1=>zu (za hc elt fun x S2=>zq fun d=>q _ _) (q _ _)
  ·exact fun ds S2=>h _ _
 | .box e,_,_,_,_,h,k=>za hc e (fun _ _=>X7 fun _=>h _ _) k
 | .one e,_,_,_,_,h,k=>za hc e h k
 | .flip e,_,_,_,_,h,k=>za hc e (fun _ _=>zg fun _=>h _ _) k
 | .dk1 a b,_,_,_,_,h,k=>za hc a (fun _ _=>zq fun _=>za hc b fun _ _=>zq fun _=>zg fun _=>h _ _) k
 | .callv i es,_,_,_,_,h,k=>Zt (fun _=>U8 fun _=>zB hc es fun _ _=>hc _ _ _ _ _ h) (fun _=>U8 fun _=>zB hc es fun _ _=>hc _ _ _ _ _ h) k
 | .att _ o _,_,_,_,_,h,k=>za hc o (fun _ _=>zq fun _=>xx fun _ _ _ _=>zu (zg fun _=>h _ _) id) k
 | .met _ o _ es,_,_,_,_,h,k=>za hc o (fun _ _=>zq fun _=>xx fun _ _ _ _=>zu (zg fun _=>zB hc es fun _ _=>hc _ _ _ _ _ h) id) k
 | .mk _ _ es,_,_,_,_,h,k=>zB hc es (fun _ _=>hc _ _ _ _ _ fun _ _=>zcz (h _ _)) k
 | .seq _,_,_,_,_,_,k=>k
 | .rng _ _,_,_,_,_,_,k=>k
 | .enum _,_,_,_,_,_,k=>k
 | .zip _ _,_,_,_,_,_,k=>k
 | .rev _,_,_,_,_,_,k=>k
 | .dwn _,_,_,_,_,_,k=>k
 | .items _,_,_,_,_,_,k=>k
theorem zB (hc:Mono cf):∀ (es:List E) {ρ:List Slot}{V V':List D->Store->Prop}{S:Store},(∀ x S,V x S->V' x S)->wpEs cf ρ es V S->wpEs cf ρ es V' S
 | [],_,_,_,_,h,k=>h _ _ k
 | e::es,_,_,_,_,h,k=>za hc e (fun _ _=>zq fun _=>zB hc es fun _ _=>h _ _) k
theorem V1 (hc:Mono cf):∀ (o:Option E) {ρ:List Slot}{V V':Option Int->Store->Prop}{S:Store},(∀ x S,V x S->V' x S)->wpO cf ρ o V S->wpO cf ρ o V' S
 | none,_,_,_,_,h,k=>h _ _ k
 | some e,_,_,_,_,h,k=>za hc e (fun _ _=>xR fun _=>h _ _) k
theorem zbA (hc:Mono cf):∀ (es:List E) {ρ:List Slot}{V V':Bool->Store->Prop}{S:Store},(∀ x S,V x S->V' x S)->wpF cf ρ es V S->wpF cf ρ es V' S
 | [],_,_,_,_,h,k=>h _ _ k
 | [e],_,_,_,_,h,k=>za hc e (fun _ _=>yF fun _=>h _ _) k
 | _::_::_,_,_,_,_,_,k=>k
theorem V2 (hc:Mono cf):∀ (e:E) {ρ:List Slot}{V V':List D->Store->Prop}{S:Store},(∀ x S,V x S->V' x S)->wpI cf ρ e V S->wpI cf ρ e V' S
 | .rng none e,_,_,_,_,h,k=>za hc e (fun _ _=>xR fun _=>zu (h _ _) id) k
 | .rng (some a) e,_,_,_,_,h,k=>za hc a (fun _ _=>za hc e fun _ _=>xR fun _=>xR fun _=>zu (h _ _) id) k
 | .enum e,_,_,_,_,h,k=>za hc e (fun _ _=>zq fun _=>zg fun _=>h _ _) k
 | .seq e,_,_,_,_,h,k=>za hc e (fun _ _=>zq fun _=>zg fun _=>h _ _) k
 | .var _,_,_,_,_,_,k=>k
 | .con _,_,_,_,_,_,k=>k
 | .glo _ _,_,_,_,_,_,k=>k
 | .bin _ _ _,_,_,_,_,_,k=>k
 | .neg _,_,_,_,_,_,k=>k
 | .cmp _ _ _,_,_,_,_,_,k=>k
 | .chn _ _ _ _ _,_,_,_,_,_,k=>k
 | .not _,_,_,_,_,_,k=>k
 | .and _ _,_,_,_,_,_,k=>k
 | .or _ _,_,_,_,_,_,k=>k
 | .ite _ _ _,_,_,_,_,_,k=>k
 | .tup _,_,_,_,_,_,k=>k
 | .lst _,_,_,_,_,_,k=>k
 | .dic _ _ _,_,_,_,_,_,k=>k
 | .sub _ _,_,_,_,_,_,k=>k
 | .slc _ _ _,_,_,_,_,_,k=>k
 | .bi _ _,_,_,_,_,_,k=>k
 | .mth _ _ _,_,_,_,_,_,k=>k
 | .call _ _,_,_,_,_,_,k=>k
 | .callk _ _ _,_,_,_,_,_,k=>k
 | .callv _ _,_,_,_,_,_,k=>k
 | .comp _ _ _ _ _,_,_,_,_,_,k=>k
 | .box _,_,_,_,_,_,k=>k
 | .one _,_,_,_,_,_,k=>k
 | .flip _,_,_,_,_,_,k=>k
 | .dk1 _ _,_,_,_,_,_,k=>k
 | .att _ _ _,_,_,_,_,_,k=>k
 | .met _ _ _ _,_,_,_,_,_,k=>k
 | .mk _ _ _,_,_,_,_,_,k=>k
 | .zip a b,_,_,_,_,h,k=>za hc a (fun _ _=>zq fun _=>za hc b fun _ _=>zq fun _=>zg fun _=>h _ _) k
 | .dwn es,_,_,_,_,h,k=>zB hc es (fun _ _=>zg fun _=>h _ _) k
 | .rev e,_,_,_,_,h,k=>za hc e (fun _ _=>xR fun _=>zu (h _ _) id) k
 | .keys _,_,_,_,_,_,k=>k
 | .items e,_,_,_,_,h,k=>za hc e (fun _ _=>zq fun _=>uT fun _=>zaG fun _ _=>h _ _) k
end
theorem zcF {s:Option Slot}{S:Store}{P Q:Nat->List D->Prop}(h:∀ k l,P k l->Q k l) (p:frW s S P):frW s S Q:=by obtain ⟨k,l,rfl,e,q⟩:=zdM p;exact ziF e (h k l q)
theorem vh {s:Option Slot}{P Q:List D->Prop}(h:∀ a,P a->Q a):owL s P->owL s Q:=by
 cases s with
 | none=>exact id
 | some s=>
  cases s with
  | ow d=>cases d <;> first | exact h _ | exact id
  | _=>exact id
theorem zcg {s:Option Slot}{P Q:D->Prop}(h:∀ a,P a->Q a):owD s P->owD s Q:=by
 cases s with
 | none=>exact id
 | some s=>cases s <;> first | exact h _ | exact id
theorem U7 {s:Option D}{P Q:List D->Prop}(h:∀ a,P a->Q a):isL s P->isL s Q:=by
 cases s with
 | none=>exact id
 | some s=>cases s <;> first | exact h _ | exact id
theorem QB {x:Vl}{P Q:O->Prop}(h:∀ a,P a->Q a):retV x P->retV x Q:=by obtain ⟨d,k⟩:=x;cases k <;> first | exact h _ | exact id
theorem zcl {f f':List Slot->Store->Prop}{K K':Ko}(h:∀ ρ S,f ρ S->f' ρ S) (k:∀ o S,K o S->K' o S):∀ o S,nxt f K o S->nxt f' K' o S:=by intro o S;cases o <;> first | exact h _ _ | exact k _ _
theorem uF {f f':List Slot->Store->Prop}{K K':Ko}(h:∀ ρ S,f ρ S->f' ρ S) (k:∀ o S,K o S->K' o S):∀ o S,trn K f o S->trn K' f' o S:=by intro o S;cases o <;> first | exact h _ _ | exact k _ _
theorem Xr {t:T}{b b':List Slot->Ko->Store->Prop}(hb:∀ ρ (V V':Ko) S,(∀ x S,V x S->V' x S)->b ρ V S->b' ρ V' S) {K K':Ko}(k:∀ o S,K o S->K' o S):∀ {l:List D}{ρ:List Slot}{S:Store},forW t b l ρ K S->forW t b' l ρ K' S
 | [],_,_,h=>k _ _ h
 | d::l,_,_,h=>zg (fun _=>hb _ _ _ _ (uF (fun _ _=>Xr hb k) k)) h
theorem Yc {c:List Slot->Po->Store->Prop}{b b':List Slot->Ko->Store->Prop}(hc:∀ ρ (V V':Po) S,(∀ x S,V x S->V' x S)->c ρ V S->c ρ V' S) (hb:∀ ρ (V V':Ko) S,(∀ x S,V x S->V' x S)->b ρ V S->b' ρ V' S) {K K':Ko}(k:∀ o S,K o S->K' o S):∀ {n:Nat}{ρ:List Slot}{S:Store},whlW c b n ρ K S->whlW c b' n ρ K' S
 | 0,_,_,h=>h
 | n+1,_,_,h=>hc _ _ _ _ (fun _ _=>yF fun _=>zu (hb _ _ _ _ (uF (fun _ _=>Yc hc hb k) k)) (k _ _)) h
variable {w:Nat}
def Wl (cx:Xp->Cf):Prop:=∀ ex ex' f ds V V' S,(∀ c S,ex c S->ex' c S)->(∀ x S,V x S->V' x S)->cx ex f ds V S->cx ex' f ds V' S
theorem Wl.no {cx:Xp->Cf}(h:Wl cx) {ex:Xp}:Mono (cx ex):=fun f ds V V' S q k=>h ex ex f ds V V' S (fun _ _=>id) q k
section
variable {cx:Xp->Cf}{w:Nat}
theorem zbW (hc:Wl cx) (e:E) {ex ex':Xp}{ρ:List Slot}{K K':Ko}{S:Store}(h:∀ o S,K o S->K' o S) (k:wpC cx ex w (.ret e) ρ K S):wpC cx ex' w (.ret e) ρ K' S:=by cases e <;> first | exact Zt (fun _=>h _ _) (fun _=>h _ _) k | exact za hc.no _ (fun _ _=>QB fun _=>h _ _) k
theorem zbR (hc:Wl cx) (t:T) (e:E) {ex ex':Xp}{ρ:List Slot}{K K':Ko}{S:Store}(h:∀ o S,K o S->K' o S) (k:wpC cx ex w (.set t e) ρ K S):wpC cx ex' w (.set t e) ρ K' S:=by cases e <;> first | exact za hc.no _ (fun _ _=>zg fun _=>h _ _) k | exact za hc.no _ (fun _ _=>X7 fun _=>zg fun _=>h _ _) k
mutual
theorem zbB (hc:Wl cx):∀ (c:C) {ex ex':Xp}{ρ:List Slot}{K K':Ko}{S:Store},(∀ c S,ex c S->ex' c S)->(∀ o S,K o S->K' o S)->wpC cx ex w c ρ K S->wpC cx ex' w c ρ K' S
 | .set t e,_,_,_,_,_,_,x,h,k=>zbR hc t e h (ex:=_) (ex':=_) k
 | .expr e,_,_,_,_,_,_,x,h,k=>za hc.no e (fun _ _=>h _ _) k
 | .ret e,_,_,_,_,_,_,x,h,k=>zbW hc e h (ex:=_) (ex':=_) k
 | .retN,_,_,_,_,_,_,x,h,k=>h _ _ k
 | .ite e A B,_,_,_,_,_,_,x,h,k=>za hc.no e (fun _ _=>yF fun _=>zu (yc hc A x h) (yc hc B x h)) k
 | .whl e A,ex,ex',ρ,K,K',S,x,h,k=>by
  have k:whlW (fun ρ=>wpE (cx noX) ρ e) (fun ρ=>wpCs cx ex w A ρ) w ρ K S:=k;refine Yc ?_ ?_ h k
  ·exact fun ρ V V' S q=>za hc.no e q
  ·exact fun ρ V V' S q=>yc hc A x q
 | .forr t it A,ex,ex',ρ,K,K',S,x,h,k=>by refine V2 hc.no it (fun l S1 q=>?_) k;refine Xr ?_ h q;exact fun ρ V V' S q=>yc hc A x q
 | .app i e,_,_,_,_,_,_,x,h,k=>vh (fun _=>za hc.no e fun _ _=>zq fun _=>zu (h _ _) id) k
 | .ext i e,_,_,_,_,_,_,x,h,k=>vh (fun _=>za hc.no e fun _ _=>zq fun _=>zg fun _=>zu (h _ _) id) k
 | .stv i a v,_,_,_,_,_,_,x,h,k=>zcg (fun _=>za hc.no v fun _ _=>zq fun _=>za hc.no a fun _ _=>zq fun _=>zg fun _=>h _ _) k
 | .sti o a v,_,_,_,_,_,_,x,h,k=>za hc.no v (fun _ _=>zq fun _=>za hc.no o fun _ _=>zq fun _=>za hc.no a fun _ _=>zq fun _=>uT fun _=>zg fun _=>zg fun _=>h _ _) k
 | .pop i,_,_,_,_,_,_,x,h,k=>vh (fun _=>zu (h _ _) id) k
 | .appR o e,_,_,_,_,_,_,x,h,k=>za hc.no o (fun _ _=>zq fun _=>uT fun _=>zu (za hc.no e fun _ _=>zq fun _=>U7 fun _=>zu (h _ _) id) id) k
 | .popO t i,_,_,_,_,_,_,x,h,k=>vh (fun _=>zg fun _=>zg fun _=>h _ _) k
 | .popR t o,_,_,_,_,_,_,x,h,k=>za hc.no o (fun _ _=>zq fun _=>uT fun _=>U7 fun _=>zg fun _=>zg fun _=>h _ _) k
 | .pass,_,_,_,_,_,_,x,h,k=>h _ _ k
 | .brk,_,_,_,_,_,_,x,h,k=>h _ _ k
 | .cnt,_,_,_,_,_,_,x,h,k=>h _ _ k
 | .frz i,_,_,_,_,_,_,x,h,k=>h _ _ k
 | .frk i,_,_,_,_,_,_,x,h,k=>zcf (fun _ _=>h _ _) k
 | .sta _ o _ e,_,_,_,_,_,_,x,h,k=>za hc.no e (fun _ _=>zq fun _=>za hc.no o fun _ _=>zq fun _=>xx fun _ _ _ _=>zu (h _ _) id) k
 | .aua _ o _ _ e,_,_,_,_,_,_,x,h,k=>za hc.no o (fun _ _=>zq fun _=>xx fun _ _ _ _=>zu (zg fun _=>za hc.no e fun _ _=>xx fun _ _ _ _=>zg fun _=>zu (h _ _) id) id) k
 | .lin i es,_,_,_,_,_,_,x,h,k=>vh (fun _=>zB hc.no es fun _ _=>zg fun _=>h _ _) k
 | .rse c,_,_,_,_,_,_,x,h,k=>x _ _ k
 | .stx i f es,_,_,_,_,_,_,x,h,k=>zB hc.no es (fun _ _=>hc _ _ _ _ _ _ _ x fun _ _=>zg fun _=>h _ _) k
 | .sw2 i j a b,_,_,_,_,_,_,x,h,k=>za hc.no a (fun _ _=>zq fun _=>za hc.no b fun _ _=>zq fun _=>zg fun _=>h _ _) k
 | .trx tb j f es ce i hb a b els,_,_,_,_,_,_,x,h,k=>zB hc.no es (fun _ _=>hc _ _ _ _ _ _ _ (fun _ _=>zu (zg fun _=>h _ _) id) fun _ _=>zg fun _=>yc hc els x h) k
 | .tri _ _ _ _ _ _,_,_,_,_,_,_,x,h,k=>k
 | .frr i,_,_,_,_,_,_,x,h,k=>zcF (fun _ _=>h _ _) k
theorem yc (hc:Wl cx):∀ (cs:List C) {ex ex':Xp}{ρ:List Slot}{K K':Ko}{S:Store},(∀ c S,ex c S->ex' c S)->(∀ o S,K o S->K' o S)->wpCs cx ex w cs ρ K S->wpCs cx ex' w cs ρ K' S
 | [],_,_,_,_,_,_,x,h,k=>h _ _ k
 | c::cs,_,_,_,_,_,_,x,h,k=>zbB hc c x (zcl (fun _ _=>yc hc cs x h) h) k
end
theorem K8 {V V':Po}(h:∀ x S,V x S->V' x S):∀ o S,told V o S->told V' o S:=by intro o S;cases o <;> first | exact h _ _ | exact id
theorem yp {F:Nat->Option Fn}:∀ k,Wl (zb F w k)
 | 0=>fun _ _ _ _ _ _ _ _ _ h=>h
 | k+1=>fun ex ex' f ds V V' S hx h q=>zg (fun _ ⟨a,b⟩=>⟨a,yc (yp k) _ hx (K8 h) b⟩) q
theorem zbi {F:Nat->Option Fn}(k:Nat):Mono (xH F w k):=(yp k).no
end
theorem V3 (hc:Mono cf):∀ (es:List E) {ρ:List Slot}{W:List D->Store->Prop}{S:Store},wpEs cf ρ es W S->wpEs cf ρ es (fun ds S=>W ds S/\ds.length=es.length) S
 | [],_,_,_,h=>⟨h,rfl⟩
 | e::es,_,_,_,h=>za hc e (fun _ _=>zq fun _ q=>zB hc es (fun _ _ q=>⟨q.1,by rw [η,q.2];rfl⟩) (V3 hc es q)) h
end
open PySem PySem.Spec PyProof.Rows L2
def Rdb (Γ:Gm) (H:Hp) (g:G):D->V->Prop
 | .tup ds,v=>∃ a vs,v=.ref a/\g.R a=some (.tup vs)/\Hass Γ g ds vs
 | .lst ds,v=>∃ a vs,v=.ref a/\H a=some (.lst vs)/\Hass Γ g ds vs
 | .dK ks ds,v=>∃ a vs,v=.ref a/\H a=some (.dK (ks.zip vs))/\ks.length=ds.length/\Hass Γ g ds vs
 | .dT ks ds,v=>∃ a vs,v=.ref a/\H a=some (.dT (ks.zip vs))/\ks.length=ds.length/\Hass Γ g ds vs
 | .non,v=>v=.non
 | .bl b,v=>v=.bl b
 | .int i,v=>v=.int i
 | .str x,v=>v=.str x
 | .ref _,v=>∃ a,v=.ref a
 | .fn f,v=>∃ a,Γ.fa f=some a/\v=.ref a
 | .scr ns,v=>∃ a,v=.ref a/\SqL Γ.K H a (ns.map V.int)
 | .ktp ds,v=>∃ a vs,v=.ref a/\KTup Γ.K a vs/\Hass Γ g ds vs
 | .kdc ps,v=>∃ a,v=.ref a/\KDic Γ.K a ps
 | .dF ks ds,v=>∃ a vs o,v=.ref a/\H a=some (.frz o (.dT (ks.zip vs)))/\ks.length=ds.length/\Hass Γ g ds vs
 | .ins _ _ _,v=>∃ a,v=.ref a
section
variable {Γ:Gm}{H H':Hp}{g g':G}{S:Store}{d:D}{v:V}{a:Addr}
theorem zdg (w:WOk Γ H g S) (h:Has Γ g d v):Rdb Γ H g (zE S d) v:=by
 cases d with
 | non=>exact h
 | bl=>exact h
 | int=>exact h
 | str=>exact h
 | fn f=>exact h
 | tup ds=>exact h
 | lst ds=>obtain ⟨a,vs,h1,h2,h3⟩:=h;exact ⟨a,vs,h1,w.rh _ _ h2,h3⟩
 | scr ns=>obtain ⟨a,h1,h2⟩:=h;exact ⟨a,h1,w.rh.seq h2⟩
 | dK ks ds=>obtain ⟨a,vs,h1,h2,h4,h3⟩:=h;exact ⟨a,vs,h1,w.rh _ _ h2,h4,h3⟩
 | dT ks ds=>obtain ⟨a,vs,h1,h2,h4,h3⟩:=h;exact ⟨a,vs,h1,w.rh _ _ h2,h4,h3⟩
 | ktp=>exact h
 | kdc=>exact h
 | dF ks ds=>obtain ⟨a,vs,o,h1,h2,h4,h3⟩:=h;exact ⟨a,vs,o,h1,w.rh _ _ h2,h4,h3⟩
 | ins=>obtain ⟨a,_,_,_,h1,_⟩:=h;exact ⟨a,h1⟩
 | ref k=>
  obtain ⟨a,h1,rfl⟩:=h;have hk:k < S.length:=by rw [<- w.len];exact (Β.mp h1).1
  have e:S[k]?=some S[k]:=ψ hk;have c:=w.cell k _ a e h1;show Rdb Γ H g ((S[k]?).getD .non) (.ref a)
  rw [e];show Rdb Γ H g S[k] (.ref a)
  generalize S[k]=x at c;cases x with
  | lst ds=>obtain ⟨vs,h1,h2⟩:=c;exact ⟨a,vs,rfl,h1,h2⟩
  | dK ks ds=>obtain ⟨vs,h1,h3,h2⟩:=c;exact ⟨a,vs,rfl,h1,h3,h2⟩
  | dT ks ds=>obtain ⟨vs,h1,h3,h2⟩:=c;exact ⟨a,vs,rfl,h1,h3,h2⟩
  | non=>exact c.elim
  | bl=>exact c.elim
  | int=>exact c.elim
  | str=>exact c.elim
  | tup=>exact c.elim
  | ref=>exact ⟨a,rfl⟩
  | fn=>exact c.elim
  | scr=>exact c.elim
  | ktp=>exact c.elim
  | kdc=>exact c.elim
  | dF=>exact c.elim
  | ins=>exact ⟨a,rfl⟩
def Fin (Γ:Gm) (H:Hp) (g:G) (S:Store) (d:D) (fr:Bool) (Q:VK):Prop:=
 ∀ v H' g',Step H g H' g'->Same H H'->WOk Γ H' g' S->VOk Γ H d fr v H' g'->Q v H'
variable {Q:VK}
theorem zf (w:WOk Γ H g S) (q:Fin Γ H g S d false Q) (h:Has Γ g d v):Q v H:=q v H g (Step.refl H g) (Same.refl H) w h
theorem WOk.laid {o:HO}(w:WOk Γ H g S) (h:H a=none):WOk Γ (upd H a o) g S where
 rh:=fun b u q=>by have e:=w.rh b u q;rw [zj (zz e h)];exact e
 len:=w.len
 nd:=w.nd
 off:=w.off
 cell:=fun k c b h1 h2=>(w.cell k c b h1 h2).mono (Le.refl g) fun o e=>by rw [zj (zz e h)];exact e
theorem WOk.notR (w:WOk Γ H g S) (h:H a=none):g.R a=none:=by
 cases q:g.R a with
 | none=>rfl
 | some o=>rw [w.rh a o q] at h;cases h
theorem WOk.notA (w:WOk Γ H g S) (h:H a=none):a ∉ g.α:=fun m=>by
 obtain ⟨k,hk,e⟩:=fU m;have hk':k < S.length:=by rw [<- w.len];exact hk
 obtain ⟨o,ho,_⟩:=(w.cell k _ a (ψ hk') (by rw [ψ hk,e])).kO;rw [ho] at h;cases h
theorem yo {o:HO}(h:H a=none):Same H (upd H a o):=fun b u q=>by rw [zj (zz q h)];exact q
theorem vV {ds:List D}{vs:List V}(w:WOk Γ H g S) (q:Fin Γ H g S (.tup ds) false Q) (h:Hass Γ g ds vs) (ha:H a=none):Q (.ref a) (upd H a (.tup vs)):=by have hr:=w.notR ha;refine q _ _ (g.put a (.tup vs)) ?_ (yo ha) ((w.laid ha).put zp hr (w.notA ha)) ⟨a,vs,rfl,zp,h.mono (Le.put hr)⟩;exact (Step.of_same (yo ha) (Le.refl g) (fun _ h=>.inl h) fun _ h=>.inl h).put hr ha
theorem yI {ds:List D}{vs:List V}(w:WOk Γ H g S) (q:Fin Γ H g S (.lst ds) true Q) (h:Hass Γ g ds vs) (ha:H a=none):Q (.ref a) (upd H a (.lst vs)):=
 q _ _ g (Step.of_same (yo ha) (Le.refl g) (fun _ h=>.inl h) fun _ h=>.inl h) (yo ha) (w.laid ha) ⟨a,rfl,ha,w.notR ha,w.notA ha,vs,zp,h⟩
end
theorem zdy {n:Nat}(h:fits n=true):n < sizeLine:=Nat.lt_of_le_of_lt (of_decide_eq_true h) (by decide)
theorem yD {n:Nat}(h:fits n=true):n<=sizeLine:=gh (zdy h)
def RDo (Γ:Gm) (r:R2) (a b:D) (d:D) (fr:Bool):Prop:=
 ∀ (S:Store) (H:Hp) (g:G) (x y:V) (Q:VK),WOk Γ H g S->Rdb Γ H g a x->Rdb Γ H g b y->Fin Γ H g S d fr Q->r x y H Q
section
variable {X:Cx}{Γ:Gm}
def zj6:R2:=fun x y H Q=>∃ l b xs zs,x=.ref l/\y=.ref b/\H l=some (.lst xs)/\H b=some (.lst zs)/\xs.length+zs.length<=sizeLine/\∀ p,H p=none->Q (.ref p) (upd H p (.lst (xs++zs)))
theorem ze1:OpR X (bW .Add) zj6:=by
 intro pJ s σ H x y v u Q I rx ry h;obtain ⟨l,b,xs,zs,rfl,rfl,hH,hB,hz,q⟩:=h;cases rx;cases ry;obtain ⟨z,its,n,r,e⟩:=I.hok _ _ hH;obtain ⟨z2,its2,n2,r2,e2⟩:=I.hok _ _ hB;have hl:=r.length;have hl2:=r2.length;refine PySem.P.add_list e e2 ?_ (by rw [ω,ω];omega);have ea:its.toArray++its2.toArray=(its++its2).toArray:=by simp
 rw [ea];exact ⟨.ref _,_,I.lnew (t':=s.toks) (r.append r2) (by rw [π];omega),rfl,q _ I.fresh⟩
theorem ZC {f:Int->Int->Option Int}{a b:D}{p:D×Bool}(h:num2 f a b=some p):∃ i j k,a=.int i/\b=.int j/\f i j=some k/\p=(.int k,false):=by
 cases a with
 | int i=>
  cases b with
  | int j=>
   obtain ⟨k,e,rfl⟩:=Α.mp (show (f i j).map (fun k=>(D.int k,false))=some p from h);exact ⟨i,j,k,rfl,rfl,e,rfl⟩
  | _=>cases h
 | _=>cases h
set_option tactic.hygienic true in
theorem zgc {a b:D}{d:D}{fr:Bool}(hK:X.K=Γ.K) (h:addD a b=some (d,fr)):∃ r,OpR X (bW .Add) r/\RDo Γ r a b d fr:=by
 cases a with
 | int i=>
  cases b with
  | int j=>
   cases h;exact ⟨_,zhP,fun S H g x y Q w hx hy q=>⟨_,_,hx,hy,zf w q rfl⟩⟩
  | _=>cases h
 | str s=>
  cases b with
  | str u=>
   have h:(if fits (s.length+u.length)=true then some (D.str (s++u),false) else none)=some (d,fr):=h;split at h
   ·rename_i hf
    cases h;exact ⟨_,JV,fun S H g x y Q w hx hy q=>⟨_,_,hx,hy,yD hf,zf w q rfl⟩⟩
   ·cases h
  | _=>cases h
 | tup s=>
  cases b with
  | tup u=>
   have h:(if fits (s.length+u.length)=true then some (D.tup (s++u),false) else none)=some (d,fr):=h;split at h
   ·rename_i hf
    cases h;refine ⟨_,ze0.or zci,fun S H g x y Q w ⟨a,xs,e1,e2,e3⟩ ⟨b,ys,f1,f2,f3⟩ q=>?_⟩;rw [hK];have h1:=e3.len;have h2:=f3.len;have hz:=yD hf;by_cases hx:xs=[]
    ·subst hx;refine .inr ⟨a,b,ys,e1,f1,SqT.of (w.rh _ _ e2),SqT.of (w.rh _ _ f2),?_⟩;have e0:=dZ.mp h1.symm;subst e0;exact zf w q ⟨b,ys,rfl,f2,f3⟩
    ·refine .inl ⟨a,b,xs,ys,e1,f1,SqT.of (w.rh _ _ e2),SqT.of (w.rh _ _ f2),hx,by lia,fun z=>?_,fun _ p hp=>vV w q (e3.app f3) hp⟩;subst z;have e0:=dZ.mp h2.symm;subst e0;refine zf w q ⟨a,xs,rfl,e2,?_⟩;rw [ύ];exact e3
   ·cases h
  | _=>cases h
 | lst s=>
  cases b with
  | lst u=>
   have h:(if fits (s.length+u.length)=true then some (D.lst (s++u),true) else none)=some (d,fr):=h;split at h
   ·rename_i hf
    cases h;refine ⟨_,ze1,fun S H g x y Q w ⟨a,xs,e1,e2,e3⟩ ⟨b,ys,f1,f2,f3⟩ q=>?_⟩;have h1:=e3.len;have h2:=f3.len;have hz:=yD hf;exact ⟨a,b,xs,ys,e1,f1,e2,f2,by lia,fun p hp=>yI w q (e3.app f3) hp⟩
   ·cases h
  | _=>cases h
 | _=>cases h
theorem zeZ:OpR X (bW .Mult) (fun x y H Q=>∃ i n,x=.str i/\y=.int n/\(2<=n/\n < 2 ^ 20/\(i.length==0)=false/\i.length*n.toNat<=sizeLine)/\Q (.str ⟨(Ϸ n.toNat i.cps).foldl (·++·) #[]⟩) H):=by
 intro pJ s σ H x y v u Q I rx ry h;obtain ⟨i,n,rfl,rfl,⟨h1,h2,h3,h4⟩,q⟩:=h;obtain ⟨t,rfl⟩:=rx;obtain ⟨t',rfl⟩:=ry;have hl:Τ.Str.tooLong (i.length*n.toNat)=false:=decide_eq_false (by omega);have e1:(n==1)=false:=beq_eq_false_iff_ne.mpr (by omega);have hz:sizeLine<=2 ^ 40:=by decide
 refine PySem.P.mul_str (by rw [decide_eq_false (by omega),decide_eq_false (by omega)];rfl) (fun _ _ q=>?_) (fun _ _=>hl) ?_
 ·have a1:(i.length:Int)<=2 ^ 40:=by have:i.length*1<=i.length*n.toNat:=Nat.mul_le_mul_left _ (by omega);omega
  have a2:(2 ^ 43 - 1:Int)<=(2 ^ 63 - 1) / n:=by rw [Int.le_ediv_iff_mul_le (by omega)];have:(2 ^ 43 - 1)*n<=(2 ^ 43 - 1)*2 ^ 20:=Int.mul_le_mul_of_nonneg_left (by omega) (by decide);omega
  omega
 ·rw [if_neg (by omega),e1,h3];exact ⟨PySem.fits_reps hl,.str _,H,I.tok _,⟨_,rfl⟩,q⟩
set_option tactic.hygienic true in
theorem zfc {a b:D}{d:D}{fr:Bool}(h:mulD a b=some (d,fr)):∃ r,OpR X (bW .Mult) r/\RDo Γ r a b d fr:=by
 cases a with
 | int i=>
  cases b with
  | int j=>
   have h:(if (zY i||zY j)=true then some (D.int (i*j),false) else none)=some (d,fr):=h;split at h
   ·rename_i hf
    cases h;refine ⟨_,zhJ,fun S H g x y Q w hx hy q=>⟨_,_,hx,hy,?_,zf w q rfl⟩⟩;simp only [zY,nC,ε,decide_eq_true_eq] at hf;exact hf
   ·cases h
  | _=>cases h
 | str z=>
  cases b with
  | int n=>
   have h:(if (decide (2<=n)&&decide (n < 2 ^ 20)&&!(z.length==0)&&fits (z.length*n.toNat))=true then some (D.str ⟨(Ϸ n.toNat z.cps).foldl (·++·) #[]⟩,false) else none)=some (d,fr):=h;split at h
   ·rename_i hf
    cases h;simp only [ε,decide_eq_true_eq,c7] at hf;exact ⟨_,zeZ,fun S H g x y Q w hx hy q=>⟨_,_,hx,hy,⟨hf.1.1.1,hf.1.1.2,hf.1.2,yD hf.2⟩,zf w q rfl⟩⟩
   ·cases h
  | _=>cases h
 | _=>cases h
set_option tactic.hygienic true in
theorem zhG {op:bZ}{a b:D}{d:D}{fr:Bool}(hK:X.K=Γ.K) (h:opD op a b=some (d,fr)):∃ r,OpR X (bW op) r/\RDo Γ r a b d fr:=by
 cases op with
 | Add=>exact zgc hK h
 | Mult=>exact zfc h
 | Sub=>
  obtain ⟨i,j,k,rfl,rfl,e,e2⟩:=ZC h;cases e;cases e2;exact ⟨_,zhF,fun S H g x y Q w hx hy q=>⟨_,_,hx,hy,zf w q rfl⟩⟩
 | FloorDiv=>
  obtain ⟨i,j,k,rfl,rfl,e,e2⟩:=ZC h;cases e2;split at e
  ·rename_i hf
   cases e;refine ⟨_,zch,fun S H g x y Q w hx hy q=>⟨_,_,hx,hy,?_,zf w q rfl⟩⟩;simp only [ε,decide_eq_true_eq] at hf;exact hf
  ·cases e
 | Mod=>
  obtain ⟨i,j,k,rfl,rfl,e,e2⟩:=ZC h;cases e2;split at e
  ·rename_i hf
   cases e;exact ⟨_,zhK,fun S H g x y Q w hx hy q=>⟨_,_,hx,hy,of_decide_eq_true hf,zf w q rfl⟩⟩
  ·cases e
 | Pow=>
  obtain ⟨i,j,k,rfl,rfl,e,e2⟩:=ZC h;cases e2;split at e
  ·rename_i hf
   cases e;refine ⟨_,zhH,fun S H g x y Q w hx hy q=>⟨_,_,hx,hy,?_,zf w q rfl⟩⟩;simp only [zY,ε,decide_eq_true_eq] at hf;exact ⟨hf.1.1,hf.1.2,by omega⟩
  ·cases e
 | _=>cases h
end
open PySem PySem.Spec PyProof.Rows L2 SeqAt
section
variable {X:Cx}{pJ:List (Addr×Obj)}{σ:L2.St}{H:Hp}{s:ξ}{Γ:Gm}{g:G}
theorem zea (sr:Same g.R H) {a:Addr}{xs ys:List V}(h:g.R a=some (.tup xs)) (h':g.R a=some (.tup ys)):xs=ys:=by rw [h] at h';cases h';rfl
theorem zet (sr:Same g.R H) {a:Addr}{xs ys:List V}(h:g.R a=some (.lst xs)) (h':g.R a=some (.lst ys)):xs=ys:=by rw [h] at h';cases h';rfl
theorem zgu (sr:Same g.R H) {a b:Addr}{xs ys:List V}(h:g.R a=some (.lst xs)) (h':g.R b=some (.tup ys)):a≠b:=by rintro rfl;rw [h] at h';cases h'
mutual
theorem Z0 (I:Inv X pJ σ H s) (hK:X.K=Γ.K) (sr:Same g.R H):∀ (n:Nat) (a b:D) (x:V),okP n a=true->okP n b=true->Has Γ g a x->Has Γ g b x->eqP a b=true
 | n,.non,b,x,_,kb,ha,hb=>by
  cases (show x=.non from ha);cases b with
  | non=>rfl
  | bl=>cases (show V.non=_ from hb)
  | int=>cases (show V.non=_ from hb)
  | str=>cases (show V.non=_ from hb)
  | tup=>obtain ⟨_,_,h,_⟩:=hb;cases h
  | lst=>obtain ⟨_,_,h,_⟩:=hb;cases h
  | _=>cases n <;> exact nobE kb
 | n,.bl c,b,x,_,kb,ha,hb=>by
  cases (show x=.bl c from ha);cases b with
  | non=>cases (show V.bl c=_ from hb)
  | bl=>cases (show V.bl c=_ from hb);exact beq_self_eq_true c
  | int=>cases (show V.bl c=_ from hb)
  | str=>cases (show V.bl c=_ from hb)
  | tup=>obtain ⟨_,_,h,_⟩:=hb;cases h
  | lst=>obtain ⟨_,_,h,_⟩:=hb;cases h
  | _=>cases n <;> exact nobE kb
 | n,.int c,b,x,_,kb,ha,hb=>by
  cases (show x=.int c from ha);cases b with
  | non=>cases (show V.int c=_ from hb)
  | bl=>cases (show V.int c=_ from hb)
  | int=>cases (show V.int c=_ from hb);exact beq_self_eq_true c
  | str=>cases (show V.int c=_ from hb)
  | tup=>obtain ⟨_,_,h,_⟩:=hb;cases h
  | lst=>obtain ⟨_,_,h,_⟩:=hb;cases h
  | _=>cases n <;> exact nobE kb
 | n,.str c,b,x,_,kb,ha,hb=>by
  cases (show x=.str c from ha);cases b with
  | non=>cases (show V.str c=_ from hb)
  | bl=>cases (show V.str c=_ from hb)
  | int=>cases (show V.str c=_ from hb)
  | str=>cases (show V.str c=_ from hb);exact beq_self_eq_true c
  | tup=>obtain ⟨_,_,h,_⟩:=hb;cases h
  | lst=>obtain ⟨_,_,h,_⟩:=hb;cases h
  | _=>cases n <;> exact nobE kb
 | 0,.tup as,b,x,ka,_,_,_=>nobE ka
 | n+1,.tup as,b,x,ka,kb,⟨a,xs,h1,h2,h3⟩,hb=>by
  subst h1;cases b with
  | non=>cases (show V.ref a=_ from hb)
  | bl=>cases (show V.ref a=_ from hb)
  | int=>cases (show V.ref a=_ from hb)
  | str=>cases (show V.ref a=_ from hb)
  | tup bs=>
   obtain ⟨a',ys,f1,f2,f3⟩:=hb;cases f1;have e:=zea sr h2 f2;subst e;exact jO I hK sr n as bs xs ka kb h3 f3
  | lst bs=>
   obtain ⟨a',ys,f1,f2,f3⟩:=hb;cases f1;exact absurd rfl (zgu sr f2 h2)
  | _=>exact nobE kb
 | 0,.lst as,b,x,ka,_,_,_=>nobE ka
 | n+1,.lst as,b,x,ka,kb,⟨a,xs,h1,h2,h3⟩,hb=>by
  subst h1;cases b with
  | non=>cases (show V.ref a=_ from hb)
  | bl=>cases (show V.ref a=_ from hb)
  | int=>cases (show V.ref a=_ from hb)
  | str=>cases (show V.ref a=_ from hb)
  | tup bs=>
   obtain ⟨a',ys,f1,f2,f3⟩:=hb;cases f1;exact absurd rfl (zgu sr h2 f2)
  | lst bs=>
   obtain ⟨a',ys,f1,f2,f3⟩:=hb;cases f1;have e:=zet sr h2 f2;subst e;exact jO I hK sr n as bs xs ka kb h3 f3
  | _=>exact nobE kb
 | n,.dK _ _,b,x,ka,_,_,_=>by revert ka;cases n <;> exact nobE
 | n,.dT _ _,b,x,ka,_,_,_=>by revert ka;cases n <;> exact nobE
 | n,.ref _,b,x,ka,_,_,_=>by revert ka;cases n <;> exact nobE
 | n,.fn _,b,x,ka,_,_,_=>by revert ka;cases n <;> exact nobE
 | n,.scr _,b,x,ka,_,_,_=>by revert ka;cases n <;> exact nobE
 | n,.ktp _,b,x,ka,_,_,_=>by revert ka;cases n <;> exact nobE
 | n,.kdc _,b,x,ka,_,_,_=>by revert ka;cases n <;> exact nobE
 | n,.dF _ _,b,x,ka,_,_,_=>by revert ka;cases n <;> exact nobE
 | n,.ins _ _ _,b,x,ka,_,_,_=>by revert ka;cases n <;> exact nobE
theorem jO (I:Inv X pJ σ H s) (hK:X.K=Γ.K) (sr:Same g.R H):∀ (n:Nat) (as bs:List D) (xs:List V),okPs n as=true->okPs n bs=true->Hass Γ g as xs->Hass Γ g bs xs->eqPs as bs=true
 | n,[],bs,xs,_,_,ha,hb=>by
  cases (show xs=[] from ha);cases bs with
  | nil=>rfl
  | cons=>obtain ⟨_,_,h,_⟩:=hb;cases h
 | n,a::as,bs,xs,ka,kb,⟨v,r,h1,h2,h3⟩,hb=>by
  subst h1;cases bs with
  | nil=>cases (show _=[] from hb)
  | cons b bs=>
   obtain ⟨v',r',f1,f2,f3⟩:=hb;cases f1;have ka':(okP n a&&okPs n as)=true:=ka;have kb':(okP n b&&okPs n bs)=true:=kb;rw [ε] at ka' kb';show (eqP a b&&eqPs as bs)=true
   rw [Z0 I hK sr n a b v ka'.1 kb'.1 h2 f2,jO I hK sr n as bs r ka'.2 kb'.2 h3 f3];rfl
end
theorem uV:∀ (as bs:List D),as.length=bs.length->eqPs as bs=(ϝ as.length).all fun i=>eqP (as.getD i .non) (bs.getD i .non)
 | [],[],_=>rfl
 | a::as,b::bs,h=>by
  have ih:=uV as bs (by simpa using h);show (eqP a b&&eqPs as bs)=_
  rw [ih,η,pK,lH,cM];rfl
 | [],_::_,h=>by simp at h
 | _::_,[],h=>by simp at h
theorem uU:∀ (as bs:List D),as.length≠bs.length->eqPs as bs=false
 | [],[],h=>absurd rfl h
 | a::as,b::bs,h=>by
  show (eqP a b&&eqPs as bs)=_
  rw [uU as bs (by simpa using h),cG]
 | [],_::_,h=>rfl
 | _::_,[],h=>rfl
theorem uR {as bs:List D}{xs ys:List V}{us ws:List δ}{n:Nat}{A:ϖ}(ka:okPs n as=true) (kb:okPs n bs=true) (ha:Hass Γ g as xs) (hb:Hass Γ g bs ys) (ra:Vals xs us) (rb:Vals ys ws)
  (ih:∀ (a b:D) (x y:V) (u v:δ),a∈as->okP n a=true->okP n b=true->Has Γ g a x->Has Γ g b y->RelV x u->RelV y v->EqAt A s u v (eqP a b)):
  ∀ (j:Nat) (h1:j < us.toArray.size) (h2:j < ws.toArray.size),EqAt A s us.toArray[j] ws.toArray[j] (eqP (as.getD j .non) (bs.getD j .non)):=by
 intro j h1 h2;have l1:=ra.length;have l2:=rb.length;have l3:=ha.len;have l4:=hb.len;simp only [ω] at h1 h2;have k1:j < as.length:=by lia
 have k2:j < bs.length:=by lia
 obtain ⟨x,ex,hx⟩:=ha.get (ψ k1);obtain ⟨y,ey,hy⟩:=hb.get (ψ k2);obtain ⟨u,eu,ru⟩:=ra.get ex;obtain ⟨v,ev,rv⟩:=rb.get ey;have e1:us.toArray[j]'(by simpa using h1)=u:=by simpa [ψ h1] using eu
 have e2:ws.toArray[j]'(by simpa using h2)=v:=by simpa [ψ h2] using ev
 have g1:as.getD j .non=as[j]:=by simp [aZ,k1]
 have g2:bs.getD j .non=bs[j]:=by simp [aZ,k2]
 rw [e1,e2,g1,g2];have all:∀ (l:List D),okPs n l=true->∀ d∈l,okP n d=true:=by
  intro l
  induction l with
  | nil=>intro _ d hd;cases hd
  | cons c l il=>
   intro k d hd;have k':(okP n c&&okPs n l)=true:=k;rw [ε] at k';rcases υ.mp hd with rfl | hd
   ·exact k'.1
   ·exact il k'.2 d hd
 exact ih _ _ x y u v (cD k1) (all as ka _ (cD k1)) (all bs kb _ (cD k2)) hx hy ru rv
theorem isT {a:Addr}{its:Array δ}{h:Heap}(p:lD h a its):h.IsTuple a its:=p
theorem units_in1 (A:ϖ):A.in1.units=A.units+1:=rfl
noncomputable def scD:D->Option V
 | .non=>some .non
 | .bl b=>some (.bl b)
 | .int i=>some (.int i)
 | .str x=>some (.str x)
 | _=>none
theorem xj {d:D}{w x:V}(h:scD d=some w) (hh:Has Γ g d x):x=w:=by
 cases d <;> first | cases h | skip
 all_goals exact hh
theorem uH {d:D}{w:V}(h:scD d=some w):zfC w=true:=by
 cases d <;> first | cases h | skip
 all_goals rfl
theorem zdc {a b:D}{x y:V}(h:scD a=some x) (h':scD b=some y):eqV x y=eqP a b:=by
 cases a <;> first | cases h | skip
 all_goals (cases b <;> first | cases h' | skip)
 all_goals rfl
theorem zZ {n:Nat}{d:D}(h:okP n d=true):(∃ w,scD d=some w)\/(∃ m ds,n=m+1/\d=.tup ds/\okPs m ds=true)\/(∃ m ds,n=m+1/\d=.lst ds/\okPs m ds=true):=by
 cases d with
 | non=>exact .inl ⟨_,rfl⟩
 | bl=>exact .inl ⟨_,rfl⟩
 | int=>exact .inl ⟨_,rfl⟩
 | str=>exact .inl ⟨_,rfl⟩
 | tup ds=>cases n with
  | zero=>exact nobE h
  | succ m=>exact .inr (.inl ⟨m,ds,rfl,rfl,h⟩)
 | lst ds=>cases n with
  | zero=>exact nobE h
  | succ m=>exact .inr (.inr ⟨m,ds,rfl,rfl,h⟩)
 | _=>cases n <;> exact nobE h
section
variable {A:ϖ}{l:Addr}{its:Array δ}{w:V}{v:δ}{d:D}
theorem zbp (p:s.heap.IsTuple l its) (hu:A.units < ϥ) (h:scD d=some w) (r:RelV w v):EqAt A s (.ref l) v false:=by
 cases d with
 | non=>cases h;cases (show v=ϓ from r);exact EqAt.tuple_none p hu
 | bl b=>cases h;cases (show v=Ϯ b from r);exact EqAt.tuple_bool b p hu
 | int i=>cases h;obtain ⟨t,rfl⟩:=(show ∃ t,v=Ϫ i t from r);exact EqAt.tuple_int i t p hu
 | str i=>cases h;obtain ⟨t,rfl⟩:=(show ∃ t,v=bw i t from r);exact EqAt.tuple_str i t p hu
 | _=>cases h
theorem zbq (p:s.heap.IsTuple l its) (hu:A.units < ϥ) (h:scD d=some w) (r:RelV w v):EqAt A s v (.ref l) false:=by
 cases d with
 | non=>cases h;cases (show v=ϓ from r);exact EqAt.none_tuple p hu
 | bl b=>cases h;cases (show v=Ϯ b from r);exact EqAt.bool_tuple b p hu
 | int i=>cases h;obtain ⟨t,rfl⟩:=(show ∃ t,v=Ϫ i t from r);exact EqAt.int_tuple i t p hu
 | str i=>cases h;obtain ⟨t,rfl⟩:=(show ∃ t,v=bw i t from r);exact EqAt.str_tuple i t p hu
 | _=>cases h
theorem zbs (p:s.heap.IsList l its) (hu:A.units < ϥ) (h:scD d=some w) (r:RelV w v):EqAt A s (.ref l) v false:=by
 cases d with
 | non=>cases h;cases (show v=ϓ from r);exact EqAt.list_none p hu
 | bl b=>cases h;cases (show v=Ϯ b from r);exact EqAt.list_bool b p hu
 | int i=>cases h;obtain ⟨t,rfl⟩:=(show ∃ t,v=Ϫ i t from r);exact EqAt.list_int i t p hu
 | str i=>cases h;obtain ⟨t,rfl⟩:=(show ∃ t,v=bw i t from r);exact EqAt.list_str i t p hu
 | _=>cases h
theorem zbr (p:s.heap.IsList l its) (hu:A.units < ϥ) (h:scD d=some w) (r:RelV w v):EqAt A s v (.ref l) false:=by
 cases d with
 | non=>cases h;cases (show v=ϓ from r);exact EqAt.none_list p hu
 | bl b=>cases h;cases (show v=Ϯ b from r);exact EqAt.bool_list b p hu
 | int i=>cases h;obtain ⟨t,rfl⟩:=(show ∃ t,v=Ϫ i t from r);exact EqAt.int_list i t p hu
 | str i=>cases h;obtain ⟨t,rfl⟩:=(show ∃ t,v=bw i t from r);exact EqAt.str_list i t p hu
 | _=>cases h
end
theorem z8 {d:D}{w:V}{bs:List D}(h:scD d=some w):eqP d (.tup bs)=false/\eqP (.tup bs) d=false/\eqP d (.lst bs)=false/\eqP (.lst bs) d=false:=by
 cases d <;> first | cases h | skip
 all_goals exact ⟨rfl,rfl,rfl,rfl⟩
theorem zdh {as bs:List D}{xs ys:List V}{us ws:List δ}(r1:Vals xs us) (r2:Vals ys ws) (h3:Hass Γ g as xs) (f3:Hass Γ g bs ys):
  ((ϝ (min us.toArray.size ws.toArray.size)).all (fun j=>eqP (as.getD j .non) (bs.getD j .non))&&us.toArray.size==ws.toArray.size)=eqPs as bs:=by
 have l1:=r1.length;have l2:=r2.length;have l3:=h3.len;have l4:=f3.len;simp only [ω];by_cases hl:as.length=bs.length
 ·rw [uV as bs hl];have m1:us.length=as.length:=by lia
  have m2:ws.length=as.length:=by lia
  rw [m1,m2];simp
 ·rw [uU as bs hl];have:¬ us.length=ws.length:=by lia
  simp [this]
theorem zdi {as bs:List D}{xs ys:List V}{us ws:List δ}{a b:Addr}{n:Nat}{A:ϖ}(ka:okPs n as=true) (kb:okPs n bs=true) (p1:PlainL s.heap a us.toArray) (p2:PlainL s.heap b ws.toArray) (r1:Vals xs us) (r2:Vals ys ws)
  (h3:Hass Γ g as xs) (f3:Hass Γ g bs ys) (hu:A.units < ϥ) (ih:∀ (a b:D) (x y:V) (u v:δ),a∈as->okP n a=true->okP n b=true->Has Γ g a x->Has Γ g b y->RelV x u->RelV y v->EqAt A.in1 s u v (eqP a b)):
  RcAt A s (.ref a) (.ref b) (eqPs as bs):=by
 have l1:=r1.length;have l2:=r2.length;have l3:=h3.len;have l4:=f3.len;by_cases hl:as.length=bs.length
 ·have k:=RcAt.lists p1.isList p2.isList (by simp only [ω];lia) hu (uR (A:=A.in1) ka kb h3 f3 r1 r2 ih);have m1:us.toArray.size=as.length:=by simp only [ω];lia
  rw [m1,<- uV as bs hl] at k;exact k
 ·rw [uU as bs hl];exact RcAt.lists_lengths (A:=A) p1.isList p2.isList (by simp only [ω,bne_iff_ne];lia) hu
theorem Z1 (I:Inv X pJ σ H s) (hK:X.K=Γ.K) (sr:Same g.R H):∀ (n:Nat) (a b:D) (x y:V) (u v:δ) (A:ϖ),A.units+n+1 < ϥ->okP n a=true->okP n b=true->Has Γ g a x->Has Γ g b y->RelV x u->RelV y v->EqAt A s u v (eqP a b):=by
 intro n
 induction n with
 | zero=>
  intro a b x y u v A hu ka kb ha hb ru rv;rcases zZ ka with ⟨w,hw⟩ | ⟨m,ds,e,_⟩ | ⟨m,ds,e,_⟩
  ·rcases zZ kb with ⟨w',hw'⟩ | ⟨m,ds,e,_⟩ | ⟨m,ds,e,_⟩
   ·rw [xj hw ha] at ru;rw [xj hw' hb] at rv;rw [<- zdc hw hw'];exact zdT ru rv (uH hw) (uH hw')
   ·cases e
   ·cases e
  ·cases e
  ·cases e
 | succ n ih=>
  intro a b x y u v A hu ka kb ha hb ru rv;have hu':A.units < ϥ:=by lia
  have hin:A.in1.units+n+1 < ϥ:=by rw [units_in1];lia
  rcases zZ ka with ⟨w,hw⟩ | ⟨m,as,e,e1,kas⟩ | ⟨m,as,e,e1,kas⟩
  ·rcases zZ kb with ⟨w',hw'⟩ | ⟨m,bs,e,e2,kbs⟩ | ⟨m,bs,e,e2,kbs⟩
   ·rw [xj hw ha] at ru;rw [xj hw' hb] at rv;rw [<- zdc hw hw'];exact zdT ru rv (uH hw) (uH hw')
   ·subst e2;rw [xj hw ha] at ru;obtain ⟨b,ys,rfl,f2,f3⟩:=hb;cases rv;obtain ⟨ws,r2,p2,_⟩:=I.tuple (SqT.of (sr _ _ f2));rw [(z8 hw).1];exact zbq (isT p2) hu' hw ru
   ·subst e2;rw [xj hw ha] at ru;obtain ⟨b,ys,rfl,f2,f3⟩:=hb;cases rv;obtain ⟨ws,r2,p2,_⟩:=I.list (SqL.of (sr _ _ f2));rw [(z8 hw).2.2.1];exact zbr p2.isList hu' hw ru
  ·subst e1;cases e;obtain ⟨a,xs,rfl,h2,h3⟩:=ha;cases ru;obtain ⟨us,r1,p1,_⟩:=I.tuple (SqT.of (sr _ _ h2));rcases zZ kb with ⟨w',hw'⟩ | ⟨m,bs,e,e2,kbs⟩ | ⟨m,bs,e,e2,kbs⟩
   ·rw [xj hw' hb] at rv;rw [(z8 hw').2.1];exact zbp (isT p1) hu' hw' rv
   ·subst e2;cases e;obtain ⟨b,ys,rfl,f2,f3⟩:=hb;cases rv;by_cases e:a=b
    ·subst e;have:=Z0 I hK sr (n+1) (.tup as) (.tup bs) (.ref a) ka kb ⟨a,xs,rfl,h2,h3⟩ ⟨a,ys,rfl,f2,f3⟩;rw [this];exact EqAt.same _
    ·obtain ⟨ws,r2,p2,_⟩:=I.tuple (SqT.of (sr _ _ f2));have k:=RcAt.tuples (isT p1) (isT p2) hu' (uR (A:=A.in1) kas kbs h3 f3 r1 r2 fun a b x y u v _ ka kb ha hb ru rv=>ih a b x y u v A.in1 hin ka kb ha hb ru rv);rw [zdh r1 r2 h3 f3] at k;exact EqAt.of_refs e k
   ·subst e2;cases e;obtain ⟨b,ys,rfl,f2,f3⟩:=hb;cases rv;obtain ⟨ws,r2,p2,_⟩:=I.list (SqL.of (sr _ _ f2));exact EqAt.tuple_list (isT p1) p2.isList hu'
  ·subst e1;cases e;obtain ⟨a,xs,rfl,h2,h3⟩:=ha;cases ru;obtain ⟨us,r1,p1,_⟩:=I.list (SqL.of (sr _ _ h2));rcases zZ kb with ⟨w',hw'⟩ | ⟨m,bs,e,e2,kbs⟩ | ⟨m,bs,e,e2,kbs⟩
   ·rw [xj hw' hb] at rv;rw [(z8 hw').2.2.2];exact zbs p1.isList hu' hw' rv
   ·subst e2;cases e;obtain ⟨b,ys,rfl,f2,f3⟩:=hb;cases rv;obtain ⟨ws,r2,p2,_⟩:=I.tuple (SqT.of (sr _ _ f2));exact EqAt.list_tuple p1.isList (isT p2) hu'
   ·subst e2;cases e;obtain ⟨b,ys,rfl,f2,f3⟩:=hb;cases rv;by_cases e:a=b
    ·subst e;have:=Z0 I hK sr (n+1) (.lst as) (.lst bs) (.ref a) ka kb ⟨a,xs,rfl,h2,h3⟩ ⟨a,ys,rfl,f2,f3⟩;rw [this];exact EqAt.same _
    ·obtain ⟨ws,r2,p2,_⟩:=I.list (SqL.of (sr _ _ f2));exact EqAt.of_refs e (zdi kas kbs p1 p2 r1 r2 h3 f3 hu' fun a b x y u v _ ka kb ha hb ru rv=>ih a b x y u v A.in1 hin ka kb ha hb ru rv)
end
section
variable {X:Cx}{pJ:List (Addr×Obj)}{σ:L2.St}{H:Hp}{s:ξ}{Γ:Gm}{g:G}
section
variable {A:ϖ}{l:Addr}{its:Array δ}{w:V}{v:δ}{d:D}
theorem Yx (p:s.heap.IsTuple l its) (hu:A.units < ϥ) (h:scD d=some w) (r:RelV w v):RcAt A s (.ref l) v false/\RcAt A s v (.ref l) false/\ϰ A s (.ref l) v true/\ϰ A s v (.ref l) true:=by
 cases d with
 | non=>cases h;cases (show v=ϓ from r);exact ⟨RcAt.tuple_none p hu,RcAt.none_tuple p hu,ϰ.tuple_none p hu,ϰ.none_tuple p hu⟩
 | bl b=>cases h;cases (show v=Ϯ b from r);exact ⟨RcAt.tuple_bool b p hu,RcAt.bool_tuple b p hu,ϰ.tuple_bool b p hu,ϰ.bool_tuple b p hu⟩
 | int i=>cases h;obtain ⟨t,rfl⟩:=(show ∃ t,v=Ϫ i t from r);exact ⟨RcAt.tuple_int i t p hu,RcAt.int_tuple i t p hu,ϰ.tuple_int i t p hu,ϰ.int_tuple i t p hu⟩
 | str i=>cases h;obtain ⟨t,rfl⟩:=(show ∃ t,v=bw i t from r);exact ⟨RcAt.tuple_str i t p hu,RcAt.str_tuple i t p hu,ϰ.tuple_str i t p hu,ϰ.str_tuple i t p hu⟩
 | _=>cases h
theorem Yy (p:s.heap.IsList l its) (hu:A.units < ϥ) (h:scD d=some w) (r:RelV w v):RcAt A s (.ref l) v false/\RcAt A s v (.ref l) false/\ϰ A s (.ref l) v true/\ϰ A s v (.ref l) true:=by
 cases d with
 | non=>cases h;cases (show v=ϓ from r);exact ⟨RcAt.list_none p hu,RcAt.none_list p hu,ϰ.list_none p hu,ϰ.none_list p hu⟩
 | bl b=>cases h;cases (show v=Ϯ b from r);exact ⟨RcAt.list_bool b p hu,RcAt.bool_list b p hu,ϰ.list_bool b p hu,ϰ.bool_list b p hu⟩
 | int i=>cases h;obtain ⟨t,rfl⟩:=(show ∃ t,v=Ϫ i t from r);exact ⟨RcAt.list_int i t p hu,RcAt.int_list i t p hu,ϰ.list_int i t p hu,ϰ.int_list i t p hu⟩
 | str i=>cases h;obtain ⟨t,rfl⟩:=(show ∃ t,v=bw i t from r);exact ⟨RcAt.list_str i t p hu,RcAt.str_list i t p hu,ϰ.list_str i t p hu,ϰ.str_list i t p hu⟩
 | _=>cases h
theorem zbX {a b:D}{x y:V}{u v:δ}(h:scD a=some x) (h':scD b=some y) (r:RelV x u) (r':RelV y v):RcAt A s u v (eqP a b)/\ϰ A s u v (!eqP a b):=by
 cases a with
 | non=>
  cases h;cases (show u=ϓ from r);cases b with
  | non=>cases h';cases (show v=ϓ from r');exact ⟨RcAt.none_none,ϰ.none_none⟩
  | bl b=>cases h';cases (show v=Ϯ b from r');exact ⟨RcAt.none_bool _,ϰ.none_bool _⟩
  | int b=>cases h';obtain ⟨t,rfl⟩:=(show ∃ t,v=Ϫ b t from r');exact ⟨RcAt.none_int _ _,ϰ.none_int _ _⟩
  | str b=>cases h';obtain ⟨t,rfl⟩:=(show ∃ t,v=bw b t from r');exact ⟨RcAt.none_str _ _,ϰ.none_str _ _⟩
  | _=>cases h'
 | bl a=>
  cases h;cases (show u=Ϯ a from r);cases b with
  | non=>cases h';cases (show v=ϓ from r');exact ⟨RcAt.bool_none _,ϰ.bool_none _⟩
  | bl b=>cases h';cases (show v=Ϯ b from r');exact ⟨RcAt.bool_bool _ _,ϰ.bool_bool _ _⟩
  | int b=>cases h';obtain ⟨t,rfl⟩:=(show ∃ t,v=Ϫ b t from r');exact ⟨RcAt.bool_int _ _ _,ϰ.bool_int _ _ _⟩
  | str b=>cases h';obtain ⟨t,rfl⟩:=(show ∃ t,v=bw b t from r');exact ⟨RcAt.bool_str _ _ _,ϰ.bool_str _ _ _⟩
  | _=>cases h'
 | int a=>
  cases h;obtain ⟨t',rfl⟩:=(show ∃ t,u=Ϫ a t from r)
  cases b with
  | non=>cases h';cases (show v=ϓ from r');exact ⟨RcAt.int_none _ _,ϰ.int_none _ _⟩
  | bl b=>cases h';cases (show v=Ϯ b from r');exact ⟨RcAt.int_bool _ _ _,ϰ.int_bool _ _ _⟩
  | int b=>cases h';obtain ⟨t,rfl⟩:=(show ∃ t,v=Ϫ b t from r');exact ⟨RcAt.int_int _ _ _ _,ϰ.int_int _ _ _ _⟩
  | str b=>cases h';obtain ⟨t,rfl⟩:=(show ∃ t,v=bw b t from r');exact ⟨RcAt.int_str _ _ _ _,ϰ.int_str _ _ _ _⟩
  | _=>cases h'
 | str a=>
  cases h;obtain ⟨t',rfl⟩:=(show ∃ t,u=bw a t from r)
  cases b with
  | non=>cases h';cases (show v=ϓ from r');exact ⟨RcAt.str_none _ _,ϰ.str_none _ _⟩
  | bl b=>cases h';cases (show v=Ϯ b from r');exact ⟨RcAt.str_bool _ _ _,ϰ.str_bool _ _ _⟩
  | int b=>cases h';obtain ⟨t,rfl⟩:=(show ∃ t,v=Ϫ b t from r');exact ⟨RcAt.str_int _ _ _ _,ϰ.str_int _ _ _ _⟩
  | str b=>cases h';obtain ⟨t,rfl⟩:=(show ∃ t,v=bw b t from r');exact ⟨RcAt.str_str _ _ _ _,ϰ.str_str _ _ _ _⟩
  | _=>cases h'
 | _=>cases h
end
theorem vP {d:D}{w x:V}(h:scD d=some w) (hh:Rdb Γ H g d x):x=w:=by
 cases d <;> first | cases h | skip
 all_goals exact hh
theorem rc_D (I:Inv X pJ σ H s) (hK:X.K=Γ.K) (sr:Same g.R H) (n:Nat) (a b:D) (x y:V) (u v:δ) (A:ϖ) (hu:A.units+n+1 < ϥ) (ka:okP n a=true) (kb:okP n b=true) (ha:Rdb Γ H g a x) (hb:Rdb Γ H g b y) (ru:RelV x u) (rv:RelV y v):
  RcAt A s u v (eqP a b)/\ϰ A s u v (!eqP a b):=by
 have hu':A.units < ϥ:=by lia
 rcases zZ ka with ⟨w,hw⟩ | ⟨m,as,e,e1,kas⟩ | ⟨m,as,e,e1,kas⟩
 ·rcases zZ kb with ⟨w',hw'⟩ | ⟨m,bs,e,e2,kbs⟩ | ⟨m,bs,e,e2,kbs⟩
  ·rw [vP hw ha] at ru;rw [vP hw' hb] at rv;exact zbX hw hw' ru rv
  ·subst e2;rw [vP hw ha] at ru;obtain ⟨b,ys,rfl,f2,f3⟩:=hb;cases rv;obtain ⟨ws,r2,p2,_⟩:=I.tuple (SqT.of (sr _ _ f2));rw [(z8 hw).1];have k:=Yx (A:=A) (isT p2) hu' hw ru;exact ⟨k.2.1,k.2.2.2⟩
  ·subst e2;rw [vP hw ha] at ru;obtain ⟨b,ys,rfl,f2,f3⟩:=hb;cases rv;obtain ⟨ws,r2,p2,_⟩:=I.list (SqL.of f2);rw [(z8 hw).2.2.1];have k:=Yy (A:=A) p2.isList hu' hw ru;exact ⟨k.2.1,k.2.2.2⟩
 ·subst e1;cases e;have hin:A.in1.units+m+1 < ϥ:=by rw [units_in1];lia
  obtain ⟨a,xs,rfl,h2,h3⟩:=ha;cases ru;obtain ⟨us,r1,p1,_⟩:=I.tuple (SqT.of (sr _ _ h2));rcases zZ kb with ⟨w',hw'⟩ | ⟨m',bs,e,e2,kbs⟩ | ⟨m',bs,e,e2,kbs⟩
  ·rw [vP hw' hb] at rv;rw [(z8 hw').2.1];have k:=Yx (A:=A) (isT p1) hu' hw' rv;exact ⟨k.1,k.2.2.1⟩
  ·subst e2;cases e;obtain ⟨b,ys,rfl,f2,f3⟩:=hb;cases rv;obtain ⟨ws,r2,p2,_⟩:=I.tuple (SqT.of (sr _ _ f2));have it:=uR (A:=A.in1) kas kbs h3 f3 r1 r2 fun a b x y u v _ ka kb ha hb ru rv=>Z1 I hK sr m a b x y u v A.in1 hin ka kb ha hb ru rv
   have k1:=RcAt.tuples (isT p1) (isT p2) hu' it;have k2:=ϰ.tuples (isT p1) (isT p2) hu' it;rw [zdh r1 r2 h3 f3] at k1 k2;exact ⟨k1,k2⟩
  ·subst e2;cases e;obtain ⟨b,ys,rfl,f2,f3⟩:=hb;cases rv;obtain ⟨ws,r2,p2,_⟩:=I.list (SqL.of f2);exact ⟨RcAt.tuple_list (isT p1) p2.isList hu',ϰ.tuple_list (isT p1) p2.isList hu'⟩
 ·subst e1;cases e;have hin:A.in1.units+m+1 < ϥ:=by rw [units_in1];lia
  obtain ⟨a,xs,rfl,h2,h3⟩:=ha;cases ru;obtain ⟨us,r1,p1,_⟩:=I.list (SqL.of h2);rcases zZ kb with ⟨w',hw'⟩ | ⟨m',bs,e,e2,kbs⟩ | ⟨m',bs,e,e2,kbs⟩
  ·rw [vP hw' hb] at rv;rw [(z8 hw').2.2.2];have k:=Yy (A:=A) p1.isList hu' hw' rv;exact ⟨k.1,k.2.2.1⟩
  ·subst e2;cases e;obtain ⟨b,ys,rfl,f2,f3⟩:=hb;cases rv;obtain ⟨ws,r2,p2,_⟩:=I.tuple (SqT.of (sr _ _ f2));exact ⟨RcAt.list_tuple p1.isList (isT p2) hu',ϰ.list_tuple p1.isList (isT p2) hu'⟩
  ·subst e2;cases e;obtain ⟨b,ys,rfl,f2,f3⟩:=hb;cases rv;obtain ⟨ws,r2,p2,_⟩:=I.list (SqL.of f2);have ih:∀ (a b:D) (x y:V) (u v:δ),a∈as->okP m a=true->okP m b=true->Has Γ g a x->Has Γ g b y->RelV x u->RelV y v->EqAt A.in1 s u v (eqP a b):=fun a b x y u v _ ka kb ha hb ru rv=>Z1 I hK sr m a b x y u v A.in1 hin ka kb ha hb ru rv
   refine ⟨zdi kas kbs p1 p2 r1 r2 h3 f3 hu' ih,?_⟩;have l1:=r1.length;have l2:=r2.length;have l3:=h3.len;have l4:=f3.len;show ϰ A s _ _ (!eqPs as bs)
   by_cases hl:as.length=bs.length
   ·have k:=ϰ.lists p1.isList p2.isList (by simp only [ω];lia) hu' (uR (A:=A.in1) kas kbs h3 f3 r1 r2 ih);have m1:us.toArray.size=as.length:=by simp only [ω];lia
    rw [m1,<- uV as bs hl] at k;exact k
   ·rw [uU as bs hl];exact ϰ.lists_lengths (A:=A) p1.isList p2.isList (by simp only [ω,bne_iff_ne];lia) hu'
end
def rDat (Γ:Gm) (a b:D) (z:D):R2:=fun x y H Q=>∃ g,Same g.R H/\Rdb Γ H g a x/\Rdb Γ H g b y/\∀ v,(∀ g,Has Γ g z v)->Q v H
theorem Uk {Γ:Gm}{a b:D}{c:Bool}:RDo Γ (rDat Γ a b (.bl c)) a b (.bl c) false:=fun S H g x y Q w hx hy q=>⟨g,w.rh,hx,hy,fun v hv=>zf w q (hv g)⟩
section
variable {X:Cx}{Γ:Gm}
theorem zhO (hK:X.K=Γ.K) (hu:X.A.units+61 < ϥ) {a b:D}(ka:okP 60 a=true) (kb:okP 60 b=true):OpR X (Ϗ .Eq) (rDat Γ a b (.bl (eqP a b))):=by intro pJ s σ H x y v u Q I rx ry ⟨g,sr,ha,hb,q⟩;exact (rc_D I hK sr 60 a b x y v u X.A hu ka kb ha hb rx ry).1 X.prog X.w X.xe _ ⟨.bl _,H,I,rfl,q _ fun _=>rfl⟩
theorem zhI (hK:X.K=Γ.K) (hu:X.A.units+61 < ϥ) {a b:D}(ka:okP 60 a=true) (kb:okP 60 b=true):OpR X (Ϗ .NotEq) (rDat Γ a b (.bl (!eqP a b))):=by intro pJ s σ H x y v u Q I rx ry ⟨g,sr,ha,hb,q⟩;exact (rc_D I hK sr 60 a b x y v u X.A hu ka kb ha hb rx ry).2 X.prog X.w X.xe _ ⟨.bl _,H,I,rfl,q _ fun _=>rfl⟩
end
section
variable {Γ:Gm}{H:Hp}{g:G}
theorem qD {d:D}{x:V}(h:Rdb Γ H g d x):decide (x=.non)=isNone d:=by
 cases d with
 | non=>cases (show x=.non from h);rfl
 | bl=>cases (show x=.bl _ from h);rfl
 | int=>cases (show x=.int _ from h);rfl
 | str=>cases (show x=.str _ from h);rfl
 | tup=>obtain ⟨_,_,rfl,_⟩:=h;rfl
 | lst=>obtain ⟨_,_,rfl,_⟩:=h;rfl
 | dK=>obtain ⟨_,_,rfl,_⟩:=h;rfl
 | dT=>obtain ⟨_,_,rfl,_⟩:=h;rfl
 | ref=>obtain ⟨_,rfl⟩:=h;rfl
 | fn=>obtain ⟨_,_,rfl⟩:=h;rfl
 | scr=>obtain ⟨_,rfl,_⟩:=h;rfl
 | ktp=>obtain ⟨_,_,rfl,_⟩:=h;rfl
 | kdc=>obtain ⟨_,rfl,_⟩:=h;rfl
 | dF=>obtain ⟨_,_,_,rfl,_⟩:=h;rfl
 | ins=>obtain ⟨_,rfl⟩:=h;rfl
theorem uN {κ:Type} [DecidableEq κ] (k:κ):∀ {ks:List κ}{ds:List D}{vs:List V},ks.length=ds.length->Hass Γ g ds vs ->
  (∀ d,yO ks ds k=some d->∃ v,valV (ks.zip vs) k=some v/\Has Γ g d v)/\(yO ks ds k=none->valV (ks.zip vs) k=none)
 | [],[],vs,_,h=>by
  refine ⟨fun d e=>?_,fun _=>?_⟩
  ·simp [yO,ZZ] at e
  ·rfl
 | k'::ks,d'::ds,vs,hl,⟨v,r,e1,hv,hr⟩=>by
  subst e1;have ih:=uN k (ks:=ks) (ds:=ds) (vs:=r) (by simpa using hl) hr;show (∀ d,yO (k'::ks) (d'::ds) k=some d->∃ v',valV ((k',v)::ks.zip r) k=some v'/\_)/\(_->valV ((k',v)::ks.zip r) k=none)
  by_cases e:k'=k
  ·have e2:yO (k'::ks) (d'::ds) k=some d':=by simp [yO,ZZ,e]
   rw [e2,wM (p:=(k',v)) e];exact ⟨fun d h=>⟨v,rfl,by cases h;exact hv⟩,fun h=>by cases h⟩
  ·have e2:yO (k'::ks) (d'::ds) k=yO ks ds k:=by simp only [yO,ZZ,if_neg e];cases ZZ ks k <;> rfl
   rw [e2,wN (p:=(k',v)) e];exact ih
 | [],_::_,_,hl,_=>by simp at hl
 | _::_,[],_,hl,_=>by simp at hl
theorem zfn {d:D}{k:Key}{x:V}(h:keyD d=some k) (hh:Rdb Γ H g d x):x=kV k:=by
 cases d <;> first | cases h | skip
 all_goals exact hh
theorem U5 {d:D}{k:Key}{x:V}(h:keyD d=some k) (hh:Has Γ g d x):x=kV k:=by
 cases d <;> first | cases h | skip
 all_goals exact hh
set_option tactic.hygienic true in
theorem uO:∀ {l:List D}{ks:List Key}{xs:List V},uA l=some ks->Hass Γ g l xs->xs=ks.map kV
 | [],ks,xs,h,hh=>by cases (show some []=some ks from h);exact hh
 | d::l,ks,xs,h,⟨v,r,e,hv,hr⟩=>by
  subst e;simp only [uA] at h;split at h
  ·rename_i k ks' e1 e2
   cases h;rw [U5 e1 hv,uO e2 hr];rfl
  ·cases h
theorem Jo {S:Store}{c k:D}{o:Option D}{x y:V}(w:WOk Γ H g S) (h:vY c k=some o) (hc:Rdb Γ H g c x) (hk:Rdb Γ H g k y):
  ∃ a v,x=.ref a/\DGet H a y v/\IsD H a/\(∀ d,o=some d->∃ u,v=some u/\Has Γ g d u)/\(o=none->v=none):=by
 cases c with
 | dK ks ds=>
  obtain ⟨a,vs,rfl,h1,h2,h3⟩:=hc;simp only [vY,Α] at h;obtain ⟨k',e1,e2⟩:=h;obtain ⟨z1,z2⟩:=uN k' h2 h3;refine ⟨a,valV (ks.zip vs) k',rfl,.inl ⟨_,k',.inl h1,zfn e1 hk,rfl⟩,.inl ⟨_,.inl h1⟩,fun d e=>?_,fun e=>?_⟩
  ·exact z1 d (e2.trans e)
  ·exact z2 (e2.trans e)
 | dT ks ds=>
  obtain ⟨a,vs,rfl,h1,h2,h3⟩:=hc;cases k with
  | tup t=>
   obtain ⟨b,ys,rfl,f1,f2⟩:=hk;simp only [vY,Α] at h;obtain ⟨k',e1,e2⟩:=h;obtain ⟨z1,z2⟩:=uN k' h2 h3;have ey:=uO e1 f2;refine ⟨a,valV (ks.zip vs) k',rfl,.inr ⟨_,k',b,.inl h1,rfl,by rw [<- ey];exact w.rh _ _ f1,rfl⟩,.inr ⟨_,.inl h1⟩,fun d e=>?_,fun e=>?_⟩
   ·exact z1 d (e2.trans e)
   ·exact z2 (e2.trans e)
  | _=>cases h
 | dF ks ds=>
  obtain ⟨a,vs,o,rfl,h1,h2,h3⟩:=hc;cases k with
  | tup t=>
   obtain ⟨b,ys,rfl,f1,f2⟩:=hk;simp only [vY,Α] at h;obtain ⟨k',e1,e2⟩:=h;obtain ⟨z1,z2⟩:=uN k' h2 h3;have ey:=uO e1 f2;refine ⟨a,valV (ks.zip vs) k',rfl,.inr ⟨_,k',b,.inr ⟨o,h1⟩,rfl,by rw [<- ey];exact w.rh _ _ f1,rfl⟩,.inr ⟨_,.inr ⟨o,h1⟩⟩,fun d e=>?_,fun e=>?_⟩
   ·exact z1 d (e2.trans e)
   ·exact z2 (e2.trans e)
  | _=>cases h
 | _=>cases h
end
section
variable {X:Cx}{Γ:Gm}
def rInD (neg:Bool):R2:=fun x y H Q=>∃ a o,y=.ref a/\DGet H a x o/\Q (.bl (if neg then !o.isSome else o.isSome)) H
theorem zhN (hu:X.A.units+1 < ϥ):OpR X (Ϗ .In) (rInD false):=by intro pJ s σ H x y v u Q I rx ry ⟨a,o,e,h,q⟩;subst e;cases ry;exact d_in hu I h rx fun s' I'=>⟨.bl o.isSome,H,I',rfl,q⟩
theorem Q8 (hu:X.A.units+1 < ϥ):OpR X (Ϗ .NotIn) (rInD true):=by intro pJ s σ H x y v u Q I rx ry ⟨a,o,e,h,q⟩;subst e;cases ry;exact zfN hu I h rx fun s' I'=>⟨.bl (!o.isSome),H,I',rfl,q⟩
theorem zgI {H:Hp}{g:G}{S:Store}{d:D}{l:List D}{x:V}(hK:X.K=Γ.K) (w:WOk Γ H g S) (h:seqD d=some l) (hd:Rdb Γ H g d x):∃ a xs,x=.ref a/\(SqL X.K H a xs\/SqT X.K H a xs)/\Hass Γ g l xs:=by
 cases d with
 | tup ds=>cases h;obtain ⟨a,vs,e,h1,h2⟩:=hd;exact ⟨a,vs,e,.inr (SqT.of (w.rh _ _ h1)),h2⟩
 | lst ds=>cases h;obtain ⟨a,vs,e,h1,h2⟩:=hd;exact ⟨a,vs,e,.inl (SqL.of h1),h2⟩
 | scr ns=>cases h;obtain ⟨a,e,h1⟩:=hd;exact ⟨a,_,e,.inl (by rw [hK];exact h1),Hass.ints⟩
 | ktp ds=>cases h;obtain ⟨a,vs,e,h1,h2⟩:=hd;exact ⟨a,vs,e,.inr (by rw [hK];exact .inr h1),h2⟩
 | _=>cases h
theorem ziD {H:Hp}{g:G}{a:D}{x:V}(h:isSc a=true) (hx:Rdb Γ H g a x):Has Γ g a x:=by
 cases a with
 | non | bl _ | int _ | str _ | tup _=>exact hx
 | _=>cases (show false=true from h)
theorem zgP {a:D}(h:isSc a=true):okP 59 a=true:=by
 cases a with
 | lst _=>cases (show false=true from h)
 | _=>exact h
noncomputable def memE (Γ:Gm) (g:G) (l:List D) (a:D) (w:δ):Bool:=@decide (∃ d∈l,∃ y,Has Γ g d y/\RelV y w/\eqP d a=true) (gB _)
theorem uL {g:G}{l:List D}{a:D}{w:δ}:memE Γ g l a w=true ↔ ∃ d∈l,∃ y,Has Γ g d y/\RelV y w/\eqP d a=true:=⟨@of_decide_eq_true _ (gB _),@decide_eq_true _ (gB _)⟩
theorem zdu {g:G}:∀ {l:List D}{xs:List V}{us:List δ},Hass Γ g l xs->Vals xs us->∀ d∈l,∃ y w,w∈us/\Has Γ g d y/\RelV y w
 | [],_,_,_,_,d,hd=>by cases hd
 | c::l,_,_,⟨v,r,rfl,hc,hr⟩,.cons q t,d,hd=>by
  rcases υ.mp hd with rfl | hd
  ·exact ⟨v,_,μ,hc,q⟩
  ·obtain ⟨y,w,h1,h2⟩:=zdu hr t d hd;exact ⟨y,w,ν _ h1,h2⟩
theorem W8 {g:G}:∀ {l:List D}{xs:List V}{us:List δ},Hass Γ g l xs->Vals xs us->∀ w∈us,∃ d∈l,∃ y,Has Γ g d y/\RelV y w
 | [],_,_,h,t,w,hw=>by cases (show _=[] from h);cases t;cases hw
 | c::l,_,_,⟨v,r,rfl,hc,hr⟩,.cons q t,w,hw=>by
  rcases υ.mp hw with rfl | hw
  ·exact ⟨c,μ,v,hc,q⟩
  ·obtain ⟨d,h1,h2⟩:=W8 hr t w hw;exact ⟨d,ν _ h1,h2⟩
theorem uM {g:G}{l:List D}{a:D}{xs:List V}{us:List δ}(h:Hass Γ g l xs) (t:Vals xs us):us.toArray.any (memE Γ g l a)=l.any fun d=>eqP d a:=by
 rw [show us.toArray.any (memE Γ g l a)=us.any (memE Γ g l a) by simp,nD,bz,bz];constructor
 ·rintro ⟨w,_,e⟩;obtain ⟨d,hd,_,_,_,q⟩:=uL.mp e;exact ⟨d,hd,q⟩
 ·rintro ⟨d,hd,q⟩;obtain ⟨y,w,h1,h2,h3⟩:=zdu h t d hd;exact ⟨w,h1,uL.mpr ⟨d,hd,y,h2,h3,q⟩⟩
theorem ZD {pJ:List (Addr×Obj)}{σ:L2.St}{H:Hp}{s:ξ}{g:G}{l:List D}{a:D}{x:V}{v:δ}{xs:List V}{us:List δ}(I:Inv X pJ σ H s) (hK:X.K=Γ.K) (sr:Same g.R H) (hu:X.A.units+61 < ϥ) (ka:isSc a=true) (kl:l.all isSc=true) (hx:Rdb Γ H g a x) (rx:RelV x v) (h:Hass Γ g l xs) (t:Vals xs us) (w:δ) (hw:w∈us.toArray):dW X.A.in1 s w v (memE Γ g l a w):=by
 have go:∀ d∈l,∀ y,Has Γ g d y->RelV y w->dW X.A.in1 s w v (eqP d a):=fun d hd y h1 h2=>Z1 I hK sr 59 d a y x w v _ (by rw [units_in1];omega) (zgP (ϒ.mp kl d hd)) (zgP ka) h1 (ziD ka hx) h2 rx
 cases e:memE Γ g l a w with
 | true=>
  obtain ⟨d,hd,y,h1,h2,q⟩:=uL.mp e;rw [<- q];exact go d hd y h1 h2
 | false=>
  obtain ⟨d,hd,y,h1,h2⟩:=W8 h t w (by simpa using hw);have q:eqP d a=false:=gJ.mpr fun q=>gJ.mp e (uL.mpr ⟨d,hd,y,h1,h2,q⟩)
  rw [<- q];exact go d hd y h1 h2
theorem UJ {pJ:List (Addr×Obj)}{σ:L2.St}{H:Hp}{s:ξ}{g:G}{l m:List D}{x:V}{v:δ}(I:Inv X pJ σ H s) (hu:X.A.units+61 < ϥ) (kl:l.all isStr=true) (hx:Rdb Γ H g (.lst m) x) (rx:RelV x v):∀ {xs:List V}{us:List δ},Hass Γ g l xs->Vals xs us->∀ w∈us.toArray,dW X.A.in1 s w v ((fun _=>false) w):=by
 intro xs us h t w hw;obtain ⟨d,hd,y,h1,h2⟩:=W8 h t w (by simpa using hw);have hs:=ϒ.mp kl d hd;obtain ⟨p,ys,rfl,hp,_⟩:=hx;cases rx;obtain ⟨its,r,pl,hz⟩:=I.list (SqL.of hp);cases d with
 | str z=>
  cases (show y=.str z from h1);obtain ⟨t,rfl⟩:=h2;exact dW.str_list z t pl.isList (by rw [units_in1];omega)
 | _=>cases hs
theorem zfu {l m:List D}{b:D}(hK:X.K=Γ.K) (hu:X.A.units+61 < ϥ) (hs:seqD b=some l) (kl:l.all isStr=true):(∃ r,OpR X (Ϗ .In) r/\RDo Γ r (.lst m) b (.bl false) false)/\∃ r,OpR X (Ϗ .NotIn) r/\RDo Γ r (.lst m) b (.bl true) false:=by
 refine ⟨⟨fun x y H Q=>∃ g S,WOk Γ H g S/\Rdb Γ H g (.lst m) x/\Rdb Γ H g b y/\∀ v,(∀ g,Has Γ g (.bl false) v)->Q v H,?_,fun S H g x y Q w hx hy q=>⟨g,S,w,hx,hy,fun v hv=>zf w q (hv g)⟩⟩,fun x y H Q=>∃ g S,WOk Γ H g S/\Rdb Γ H g (.lst m) x/\Rdb Γ H g b y/\∀ v,(∀ g,Has Γ g (.bl true) v)->Q v H,?_,fun S H g x y Q w hx hy q=>⟨g,S,w,hx,hy,fun v hv=>zf w q (hv g)⟩⟩
 all_goals
  intro pJ s σ H x y v u Q I rx ry ⟨g,S,w,hx,hy,q⟩;obtain ⟨p,xs,e,hq,hh⟩:=zgI hK w hs hy;subst e;cases ry;have no:∀ us:List δ,us.toArray.any (fun _=>false)=false:=fun us=>by simp
  rcases hq with hq | hq
 ·obtain ⟨its,r,pl,hz⟩:=I.list hq;refine nq (fun _=>false) pl.isList (UJ I hu kl hx rx hh r) ⟨.bl _,H,I,rfl,?_⟩;rw [no];exact q _ fun _=>rfl
 ·obtain ⟨its,r,pl,hz⟩:=I.tuple hq;refine m7 (fun _=>false) pl (UJ I hu kl hx rx hh r) ⟨.bl _,H,I,rfl,?_⟩;rw [no];exact q _ fun _=>rfl
 ·obtain ⟨its,r,pl,hz⟩:=I.list hq;refine mQ (fun _=>false) pl.isList (UJ I hu kl hx rx hh r) ⟨.bl _,H,I,rfl,?_⟩;rw [no];exact q _ fun _=>rfl
 ·obtain ⟨its,r,pl,hz⟩:=I.tuple hq;refine mC (fun _=>false) pl (UJ I hu kl hx rx hh r) ⟨.bl _,H,I,rfl,?_⟩;rw [no];exact q _ fun _=>rfl
set_option tactic.hygienic true in
theorem ziv {l:List D}{a b:D}{c:Bool}(hK:X.K=Γ.K) (hu:X.A.units+61 < ϥ) (hs:seqD b=some l) (h:memD l a=some c):(∃ r,OpR X (Ϗ .In) r/\RDo Γ r a b (.bl c) false)/\∃ r,OpR X (Ϗ .NotIn) r/\RDo Γ r a b (.bl (!c)) false:=by
 have h:(if (isSc a&&l.all isSc)=true then some (l.any fun y=>eqP y a) else if (isLs a&&l.all isStr)=true then some false else none)=some c:=h;by_cases hf:(isSc a&&l.all isSc)=true
 ·rw [if_pos hf] at h;cases h;rw [ε] at hf;refine ⟨⟨fun x y H Q=>∃ g S,WOk Γ H g S/\Rdb Γ H g a x/\Rdb Γ H g b y/\∀ v,(∀ g,Has Γ g (.bl (l.any fun y=>eqP y a)) v)->Q v H,?_,fun S H g x y Q w hx hy q=>⟨g,S,w,hx,hy,fun v hv=>zf w q (hv g)⟩⟩,fun x y H Q=>∃ g S,WOk Γ H g S/\Rdb Γ H g a x/\Rdb Γ H g b y/\∀ v,(∀ g,Has Γ g (.bl (!l.any fun y=>eqP y a)) v)->Q v H,?_,fun S H g x y Q w hx hy q=>⟨g,S,w,hx,hy,fun v hv=>zf w q (hv g)⟩⟩
  all_goals
   intro pJ s σ H x y v u Q I rx ry ⟨g,S,w,hx,hy,q⟩;obtain ⟨p,xs,e,hq,hh⟩:=zgI hK w hs hy;subst e;cases ry;rcases hq with hq | hq
  ·obtain ⟨its,r,pl,hz⟩:=I.list hq;refine nq (memE Γ g l a) pl.isList (ZD I hK w.rh hu hf.1 hf.2 hx rx hh r) ⟨.bl _,H,I,rfl,?_⟩;rw [uM hh r];exact q _ fun _=>rfl
  ·obtain ⟨its,r,pl,hz⟩:=I.tuple hq;refine m7 (memE Γ g l a) pl (ZD I hK w.rh hu hf.1 hf.2 hx rx hh r) ⟨.bl _,H,I,rfl,?_⟩;rw [uM hh r];exact q _ fun _=>rfl
  ·obtain ⟨its,r,pl,hz⟩:=I.list hq;refine mQ (memE Γ g l a) pl.isList (ZD I hK w.rh hu hf.1 hf.2 hx rx hh r) ⟨.bl _,H,I,rfl,?_⟩;rw [uM hh r];exact q _ fun _=>rfl
  ·obtain ⟨its,r,pl,hz⟩:=I.tuple hq;refine mC (memE Γ g l a) pl (ZD I hK w.rh hu hf.1 hf.2 hx rx hh r) ⟨.bl _,H,I,rfl,?_⟩;rw [uM hh r];exact q _ fun _=>rfl
 ·rw [if_neg hf] at h;split at h
  ·rename_i hl
   cases h;rw [ε] at hl;cases a with
   | lst m=>exact zfu hK hu hs hl.2
   | _=>cases hl.1
  ·cases h
theorem zaK {a b:D}{neg:Bool}{o:Option D}(hu1:X.A.units+1 < ϥ) (e:vY b a=some o):RDo Γ (rInD neg) a b (.bl (if neg then !o.isSome else o.isSome)) false:=by
 intro S H g x y Q w hx hy q;obtain ⟨p,v,e1,e2,_,e3,e4⟩:=Jo w e hy hx;refine ⟨p,v,e1,e2,zf w q ?_⟩;cases o with
 | none=>rw [e4 rfl];rfl
 | some d=>obtain ⟨z,hz,_⟩:=e3 d rfl;rw [hz];rfl
theorem ZW {f:Int->Int->Bool}{a b:D}{c:Bool}(h:int2 f a b=some c):∃ i j,a=.int i/\b=.int j/\c=f i j:=by
 cases a with
 | int i=>
  cases b with
  | int j=>cases h;exact ⟨i,j,rfl,rfl,rfl⟩
  | _=>cases h
 | _=>cases h
theorem zaL {a b:D}{c:Bool}(hK:X.K=Γ.K) (hu:X.A.units+61 < ϥ) (hu1:X.A.units+1 < ϥ) (h:inD a b=some c):(∃ r,OpR X (Ϗ .In) r/\RDo Γ r a b (.bl c) false)/\∃ r,OpR X (Ϗ .NotIn) r/\RDo Γ r a b (.bl (!c)) false:=by
 have sq:∀ l,seqD b=some l->memD l a=some c->(∃ r,OpR X (Ϗ .In) r/\RDo Γ r a b (.bl c) false)/\∃ r,OpR X (Ϗ .NotIn) r/\RDo Γ r a b (.bl (!c)) false:=fun l h1 h2=>ziv hK hu h1 h2
 have dc:(vY b a).map (·.isSome)=some c->(∃ r,OpR X (Ϗ .In) r/\RDo Γ r a b (.bl c) false)/\∃ r,OpR X (Ϗ .NotIn) r/\RDo Γ r a b (.bl (!c)) false:=fun h=>by obtain ⟨o,e,rfl⟩:=Α.mp h;exact ⟨⟨_,zhN hu1,zaK (neg:=false) hu1 e⟩,_,Q8 hu1,zaK (neg:=true) hu1 e⟩
 cases b with
 | lst l=>exact sq l rfl h
 | tup l=>exact sq l rfl h
 | ktp l=>exact sq l rfl h
 | str y=>
  cases a with
  | str x=>
   cases h;exact ⟨⟨_,zaa,fun S H g u v Q w hx hy q=>⟨x,y,hx,hy,zf w q rfl⟩⟩,_,YJ,fun S H g u v Q w hx hy q=>⟨x,y,hx,hy,zf w q rfl⟩⟩
  | _=>cases h
 | dK ks ds=>exact dc h
 | dT ks ds=>exact dc h
 | dF ks ds=>exact dc h
 | _=>cases h
theorem zaH {a b:D}{c:Bool}(h:isD a b=some c):(∃ r,OpR X (Ϗ .Is) r/\RDo Γ r a b (.bl c) false)/\∃ r,OpR X (Ϗ .IsNot) r/\RDo Γ r a b (.bl (!c)) false:=by
 cases b with
 | non=>
  cases h;exact ⟨⟨_,zhL,fun S H g x y Q w hx hy q=>⟨hy,zf w q (by rw [qD hx];rfl)⟩⟩,_,zeX,fun S H g x y Q w hx hy q=>⟨hy,zf w q (by rw [qD hx];rfl)⟩⟩
 | bl j=>
  cases a with
  | bl i=>
   cases h;exact ⟨⟨_,zhM,fun S H g x y Q w hx hy q=>⟨_,_,hx,hy,zf w q rfl⟩⟩,_,zeY,fun S H g x y Q w hx hy q=>⟨_,_,hx,hy,zf w q rfl⟩⟩
  | _=>cases h
 | _=>cases h
theorem zdS {a b:D}{c:Bool}(h:eqD a b=some c):okP 60 a=true/\okP 60 b=true/\c=eqP a b:=by
 have h:(if (okP 60 a&&okP 60 b)=true then some (eqP a b) else none)=some c:=h;by_cases hk:(okP 60 a&&okP 60 b)=true
 ·rw [if_pos hk] at h;cases h;rw [ε] at hk;exact ⟨hk.1,hk.2,rfl⟩
 ·rw [if_neg hk] at h;cases h
theorem ints_of {g:G}:∀ {l:List D}{ns:List Int}{xs:List V},xX l=some ns->Hass Γ g l xs->xs=ns.map V.int
 | [],ns,xs,h,hh=>by cases (show some []=some ns from h);exact hh
 | d::l,ns,xs,h,⟨v,r,e,hv,hr⟩=>by
  subst e;cases d with
  | int i=>
   simp only [xX,Α] at h;obtain ⟨ms,e1,e2⟩:=h;subst e2;rw [show v=V.int i from hv,ints_of e1 hr];rfl
  | _=>cases h
theorem kv_mem {kvs:List (Key×V)}{vs:List (Key×δ)}(r:KV kvs vs):∀ p∈vs,∃ q∈kvs,q.1=p.1/\RelV q.2 p.2:=by
 unfold KV at r
 induction r with
 | nil=>intro p hp;cases hp
 | cons h t ih=>
  intro p hp;rcases υ.mp hp with rfl | hp
  ·exact ⟨_,μ,h⟩
  ·obtain ⟨q,hq,e⟩:=ih p hp;exact ⟨q,ν _ hq,e⟩
theorem KZ:∀ {kvs:List (Key×V)},(kvs.map (·.1)).Nodup->∀ q∈kvs,valV kvs q.1=some q.2
 | [],_,q,hq=>by cases hq
 | p::r,h,q,hq=>by
  rw [Κ,b7] at h;rcases υ.mp hq with rfl | hq
  ·exact wM rfl
  ·rw [wN fun e=>h.1 (by rw [e];exact dJ hq)];exact KZ h.2 q hq
theorem zaR {A:ϖ}{s:ξ}{kb:List (Key×δ)}:∀ (r:List (Key×δ)),(∀ p∈r,∃ i t t',p.2=Ϫ i t/\iZ kb p.1=some (.int i t'))->W.KeqHits A s kb r true
 | [],_=>.nil
 | (k,v)::r,h=>by obtain ⟨i,t,t',e1,e2⟩:=h (k,v) μ;have e1:v=.int i t:=e1;subst e1;have q:=dW.int_int (A:=A) (s:=s) i t i t';rw [beq_self_eq_true] at q;exact .hit (e:=true) (b:=true) e2 q (zaR r fun p hp=>h p (ν _ hp))
def rNeD:R2:=fun x y H Q=>∃ a b kvs,x=.ref a/\y=.ref b/\Rd H a (.dK kvs)/\Rd H b (.dK kvs)/\(kvs.map (·.1)).Nodup/\(∀ p∈kvs,∃ i,p.2=V.int i)/\Q (.bl false) H
theorem Q9 (hu:X.A.units < ϥ):OpR X (Ϗ .NotEq) rNeD:=by
 intro pJ s σ H x y v u Q I rx ry ⟨a,b,kvs,e1,e2,ha,hb,hn,hi,q⟩;subst e1 e2;cases rx;cases ry;obtain ⟨_,sa,va,ra,da⟩:=Xz I.hok ha;obtain ⟨_,sb,vb,rb,db⟩:=Xz I.hok hb;refine W.keq_ne (r:=true) sa sb da db hu (fun _=>zaR va fun p hp=>?_) ?_
 ·obtain ⟨z,hz,e1,e2⟩:=kv_mem ra p hp;obtain ⟨i,e3⟩:=hi z hz;rw [e3] at e2;obtain ⟨t,e2⟩:=e2;have rv:=rb.val z.1;rw [KZ hn z hz,e3,e1] at rv;cases e4:iZ vb p.1 with
  | none=>rw [e4] at rv;exact rv.elim
  | some w=>
   rw [e4] at rv;obtain ⟨t',e5⟩:=(show RelV (.int i) w from rv)
   exact ⟨i,t,t',e2,by rw [e5]⟩
 ·rw [<- ra.length,<- rb.length,beq_self_eq_true];exact ⟨.bl false,H,I,rfl,q⟩
set_option tactic.hygienic true in
theorem zhW {ks ks':List Key}{vs vs':List D}{c:Bool}(h:neD (.dK ks vs) (.dK ks' vs')=some c):RDo Γ rNeD (.dK ks vs) (.dK ks' vs') (.bl c) false:=by
 have h:(if (decide (ks=ks')&&decide ks.Nodup&&decide (xX vs=xX vs')&&(xX vs).isSome)=true then some false else none)=some c:=h;split at h
 ·rename_i hc
  cases h;simp only [ε,decide_eq_true_eq] at hc;obtain ⟨⟨⟨e1,hn⟩,e2⟩,e3⟩:=hc;subst e1;intro S H g x y Q w ⟨a,xs,hx,h1,h2,h3⟩ ⟨b,ys,hy,f1,f2,f3⟩ q;obtain ⟨ns,e4⟩:=n8.mp e3;have z1:=ints_of e4 h3;have z2:=ints_of (e2.symm.trans e4) f3;refine ⟨a,b,ks.zip (ns.map V.int),hx,hy,.inl (by rw [h1,z1]),.inl (by rw [f1,z2]),?_,fun p hp=>?_,zf w q rfl⟩
  ·rw [mX (by rw [<- z1,h3.len,<- h2];exact χ _)];exact hn
  ·obtain ⟨i,_,e⟩:=Φ.mp (fO hp).2;exact ⟨i,e.symm⟩
 ·cases h
theorem zfR {op:iT}{a b:D}{c:Bool}(hK:X.K=Γ.K) (hu:X.A.units+61 < ϥ) (h:cmpD op a b=some c):∃ r,OpR X (Ϗ op) r/\RDo Γ r a b (.bl c) false:=by
 have hu1:X.A.units+1 < ϥ:=by lia
 cases op with
 | Eq=>
  obtain ⟨h1,h2,rfl⟩:=zdS h;exact ⟨_,zhO hK hu h1 h2,Uk⟩
 | NotEq=>
  have old:(eqD a b).map (!·)=some c->∃ r,OpR X (Ϗ .NotEq) r/\RDo Γ r a b (.bl c) false:=fun h=>by obtain ⟨c',e,rfl⟩:=Α.mp h;obtain ⟨h1,h2,rfl⟩:=zdS e;exact ⟨_,zhI hK hu h1 h2,Uk⟩
  have h:neD a b=some c:=h;cases a with
  | dK ks vs=>
   cases b with
   | dK ks' vs'=>exact ⟨_,Q9 (by lia),zhW h⟩
   | _=>exact old h
  | _=>exact old h
 | Lt=>obtain ⟨i,j,rfl,rfl,rfl⟩:=ZW h;exact ⟨_,zke,fun S H g x y Q w hx hy q=>⟨_,_,hx,hy,zf w q rfl⟩⟩
 | LtE=>obtain ⟨i,j,rfl,rfl,rfl⟩:=ZW h;exact ⟨_,zkf,fun S H g x y Q w hx hy q=>⟨_,_,hx,hy,zf w q rfl⟩⟩
 | Gt=>obtain ⟨i,j,rfl,rfl,rfl⟩:=ZW h;exact ⟨_,zkg,fun S H g x y Q w hx hy q=>⟨_,_,hx,hy,zf w q rfl⟩⟩
 | GtE=>obtain ⟨i,j,rfl,rfl,rfl⟩:=ZW h;exact ⟨_,zkh,fun S H g x y Q w hx hy q=>⟨_,_,hx,hy,zf w q rfl⟩⟩
 | Is=>exact (zaH h).1
 | IsNot=>
  obtain ⟨c',e,rfl⟩:=Α.mp (show (isD a b).map (!·)=some c from h);exact (zaH e).2
 | In=>exact (zaL hK hu hu1 h).1
 | NotIn=>
  obtain ⟨c',e,rfl⟩:=Α.mp (show (inD a b).map (!·)=some c from h);exact (zaL hK hu hu1 e).2
def rIxD:R2:=fun x y H Q=>∃ a v,x=.ref a/\DGet H a y (some v)/\Q v H
theorem Vs (hu:X.A.units+1 < ϥ):IxR X rIxD:=by intro value slice pJ s σ H x y v u Q I rx ry ⟨a,z,e,g,q⟩ hs;subst e;cases rx;exact tail_any (Vz I g) PySem.F.slot_dict_getitem.lookup (za7 hu I g ry fun w' s' I' r'=>⟨z,H,I',r',q⟩) hs
theorem zbt {g:G}{l:List D}{xs:List V}{i:Int}{d:D}(h:Hass Γ g l xs) (e:((ixN l.length i).bind fun k=>l[k]?)=some d):∃ v,atI xs i=some v/\Has Γ g d v:=by obtain ⟨k,e1,e2⟩:=Ο.mp e;obtain ⟨v,hv,hd⟩:=h.get e2;refine ⟨v,?_,hd⟩;unfold atI;rw [h.len,e1];exact hv
set_option tactic.hygienic true in
theorem zig {a b d:D}(hK:X.K=Γ.K) (hu:X.A.units+1 < ϥ) (h:subD a b=some d):∃ r,IxR X r/\RDo Γ r a b d false:=by
 unfold subD at h;split at h
 ·refine ⟨_,zie,fun S H g x y Q w ⟨p,xs,e,h1,h2⟩ hy q=>?_⟩;obtain ⟨v,e1,e2⟩:=zbt h2 h;exact ⟨p,xs,_,v,e,hy,SqT.of (w.rh _ _ h1),e1,zf w q e2⟩
 ·refine ⟨_,zaC,fun S H g x y Q w ⟨p,xs,e,h1,h2⟩ hy q=>?_⟩;obtain ⟨v,e1,e2⟩:=zbt h2 h;exact ⟨p,xs,_,v,e,hy,SqL.of h1,e1,zf w q e2⟩
 ·rename_i l i
  refine ⟨_,zaC,fun S H g x y Q w ⟨p,e,h1⟩ hy q=>?_⟩;have h':((ixN (l.map D.int).length i).bind fun k=>(l.map D.int)[k]?)=some d:=by rw [ζ];simpa [Ρ] using h
  obtain ⟨v,e1,e2⟩:=zbt (Hass.ints (Γ:=Γ) (g:=g)) h';exact ⟨p,_,_,v,e,hy,by rw [hK];exact h1,e1,zf w q e2⟩
 ·split at h
  ·rename_i hf
   obtain ⟨k,e1,e2⟩:=Ο.mp h;obtain ⟨c,e3,e4⟩:=Α.mp e2;subst e4;refine ⟨_,zif,fun S H g x y Q w hx hy q=>⟨_,_,c,hx,hy,yD hf,?_,zf w q rfl⟩⟩;unfold atI;have e1':ixN _ _=some k:=e1;rw [e1'];exact e3
  ·cases h
 ·obtain ⟨o,e1,e2⟩:=Ο.mp h;refine ⟨_,Vs hu,fun S H g x y Q w hx hy q=>?_⟩;obtain ⟨p,v,f1,f2,_,f3,_⟩:=Jo w e1 hx hy;obtain ⟨z,hz,hd⟩:=f3 d e2;exact ⟨p,z,f1,by rw [<- hz];exact f2,zf w q hd⟩
 ·obtain ⟨o,e1,e2⟩:=Ο.mp h;refine ⟨_,Vs hu,fun S H g x y Q w hx hy q=>?_⟩;obtain ⟨p,v,f1,f2,_,f3,_⟩:=Jo w e1 hx hy;obtain ⟨z,hz,hd⟩:=f3 d e2;exact ⟨p,z,f1,by rw [<- hz];exact f2,zf w q hd⟩
 ·obtain ⟨o,e1,e2⟩:=Ο.mp h;refine ⟨_,Vs hu,fun S H g x y Q w hx hy q=>?_⟩;obtain ⟨p,v,f1,f2,_,f3,_⟩:=Jo w e1 hx hy;obtain ⟨z,hz,hd⟩:=f3 d e2;exact ⟨p,z,f1,by rw [<- hz];exact f2,zf w q hd⟩
 ·cases h
theorem VB {g:G}{l:List D}{xs:List V}(lo hi:Option Int) (h:Hass Γ g l xs):Hass Γ g (cutD l lo hi) (cutV xs lo hi):=by unfold cutD cutV;rw [h.len];exact (h.drop _).take _
def RDs (Γ:Gm) (r:V->Option Int->Option Int->Hp->VK->Prop) (a:D) (lo hi:Option Int) (d:D) (fr:Bool):Prop:=
 ∀ (S:Store) (H:Hp) (g:G) (x:V) (Q:VK),WOk Γ H g S->Rdb Γ H g a x->Fin Γ H g S d fr Q->r x lo hi H Q
def rSlS:V->Option Int->Option Int->Hp->VK->Prop:=fun x lo hi H Q=>∃ z,x=.str z/\z.length<=sizeLine/\Q (.str (lZ z lo hi)) H
theorem Q7 {v:δ}{o:Option Int}(h:lB v o):∃ p:Option (Int×Tok),v=partValue p/\p.map (·.1)=o:=by
 cases h with
 | none=>exact ⟨none,rfl,rfl⟩
 | int i t=>exact ⟨some (i,t),rfl,rfl⟩
theorem zgL:SlR X rSlS:=by intro pJ s σ H x v vl vu lo hi sl Q I rx hs pl pu ⟨z,e,hz,q⟩;subst e;obtain ⟨t,rfl⟩:=rx;obtain ⟨p,rfl,rfl⟩:=Q7 pl;obtain ⟨p',rfl,rfl⟩:=Q7 pu;refine ⟨"str",_,PySem.F.slot_str_getitem.lookup,gQ _ _ _,wpAny_getItem_str_slice (l:=p) (u:=p') (st:=none) hs rfl ?_⟩;exact post_val_or_str ⟨Ϩ (Txt.slice_le z _ _) hz,fun t' k=>⟨.str (lZ z (p.map (·.1)) (p'.map (·.1))),H,I.tok _,⟨t',rfl⟩,q⟩⟩
set_option tactic.hygienic true in
theorem zgM {a d:D}{lo hi:Option Int}{fr:Bool}(hK:X.K=Γ.K) (h:slcD a lo hi=some (d,fr)):∃ r,SlR X r/\RDs Γ r a lo hi d fr:=by
 unfold slcD at h;split at h
 ·rename_i l
  cases h;refine ⟨_,zgK.or zeb,fun S H g x Q w ⟨p,xs,e,h1,h2⟩ q=>?_⟩;by_cases hw:HT.sIx xs.length 0 lo=0/\HT.sIx xs.length xs.length hi=xs.length
  ·refine .inr ⟨p,xs,e,SqT.of (w.rh _ _ h1),hw,zf w q ?_⟩;have ec:cutD l lo hi=l:=by unfold cutD;rw [<- h2.len,hw.1,hw.2,List.drop_zero,Nat.sub_zero,cL (by rw [h2.len];exact χ _)]
   rw [ec];exact ⟨p,xs,rfl,h1,h2⟩
  ·exact .inl ⟨p,xs,e,SqT.of (w.rh _ _ h1),hw,fun b hb=>vV w q (VB lo hi h2) hb⟩
 ·cases h;exact ⟨_,Qn,fun S H g x Q w ⟨p,xs,e,h1,h2⟩ q=>⟨p,xs,e,SqL.of h1,fun b hb=>yI w q (VB lo hi h2) hb⟩⟩
 ·cases h;exact ⟨_,Qn,fun S H g x Q w ⟨p,e,h1⟩ q=>⟨p,_,e,by rw [hK];exact h1,fun b hb=>yI w q (VB lo hi Hass.ints) hb⟩⟩
 ·split at h
  ·rename_i hf
   cases h;exact ⟨_,zgL,fun S H g x Q w hx q=>⟨_,hx,yD hf,zf w q rfl⟩⟩
  ·cases h
 ·cases h
end
noncomputable def kzH (h:Heap):δ->List Int
  | .ref a=>(match h.get? a with
    | some o=>(match o.data with
      | .seq xs _=>xs.toList.map numOf
      | _=>[])
    | none=>[])
  | _=>[]
noncomputable def vr:V->δ
 | .ref a=>.ref a
 | _=>.none
theorem yK:∀ {ns:List Int}{us:List δ},Vals (ns.map V.int) us->us.map numOf=ns/\TS.VR us ns
 | [],_,.nil=>⟨rfl,trivial⟩
 | n::ns,_,.cons r q=>by obtain ⟨t,rfl⟩:=r;obtain ⟨h1,h2⟩:=yK q;exact ⟨by rw [Κ,h1];rfl,⟨t,rfl⟩,h2⟩
theorem u5:∀ {Ps:List (V×List Int)}{us:List δ},(∀ q∈Ps,∃ a,q.1=.ref a)->Vals (Ps.map (·.1)) us->us=Ps.map fun q=>vr q.1
 | [],_,_,.nil=>rfl
 | p::Ps,_,h,.cons r q=>by obtain ⟨a,e⟩:=h p μ;have r:RelV p.1 _:=r;rw [e] at r;cases (show _=Θ a from r);rw [u5 (fun q hq=>h q (ν _ hq)) q,Κ,e];rfl
theorem wW:∀ {Ps:List (V×List Int)},(∀ q∈Ps,∃ a,q.1=.ref a)->Vals (Ps.map (·.1)) (Ps.map fun q=>vr q.1)
 | [],_=>.nil
 | p::Ps,h=>.cons (by obtain ⟨a,e⟩:=h p μ;show RelV p.1 (vr p.1);rw [e];rfl) (wW fun q hq=>h q (ν _ hq))
theorem Uu {α β:Type}{g:α->β}{l m:List β}(h:l.Perm m):∀ Ps:List α,m=Ps.map g->∃ Ps':List α,Ps'.Perm Ps/\l=Ps'.map g:=by
 induction h with
 | nil=>
  intro Ps e;cases Ps with
  | nil=>exact ⟨[],bx _,rfl⟩
  | cons _ _=>cases e
 | cons x h ih=>
  intro Ps e;cases Ps with
  | nil=>cases e
  | cons p Ps=>
   obtain ⟨Qs,h1,h2⟩:=ih Ps (Ψ e).2;exact ⟨p::Qs,h1.cons p,by rw [Κ,<- h2,(Ψ e).1]⟩
 | swap x y l=>
  intro Ps e
  match Ps,e with
  | p::q::Ps,e=>
   have e1:=(Ψ e).1;have e2:=(Ψ (Ψ e).2).1;have e3:=(Ψ (Ψ e).2).2;exact ⟨q::p::Ps,ie _ _ _,by rw [Κ,Κ,<- e1,<- e2,<- e3]⟩
 | trans _ _ ih1 ih2=>
  intro Ps e;obtain ⟨Qs,h1,h2⟩:=ih2 Ps e;obtain ⟨Rs,h3,h4⟩:=ih1 Qs h2;exact ⟨Rs,h3.trans h1,h4⟩
theorem X3 {X:Cx}(hu:X.A.units+61 < ϥ):z9 X (.builtin "sorted") (fun xs H Q=>∃ p,∃ Ps:List (V×List Int),xs=[.ref p]/\SqL X.K H p (Ps.map (·.1))/\Ps.length < 64/\(∀ q∈Ps,∃ a,q.1=.ref a/\SqT X.K H a (q.2.map V.int)) /\
    ∀ (Ps':List (V×List Int)) (l:Addr),Ps'.Perm Ps->(Ps'.map (·.2)).Pairwise (fun x y=>TS.lexB y x=false)->H l=none->Q (.ref l) (upd H l (.lst (Ps'.map (·.1))))):=by
  intro pJ s σ H xs us Q I r ⟨p,Ps,e,hq,hn,ht,q⟩;subst e;obtain ⟨u,rfl,rx⟩:=vals1 r;cases (show u=Θ p from rx);obtain ⟨its,r',pl,hz⟩:=I.list hq;have rf:∀ q∈Ps,∃ a,q.1=.ref a:=fun q hq=>⟨_,(ht q hq).choose_spec.1⟩
  have ei:=u5 rf r';subst ei;have tell:∀ q∈Ps,kzH s.heap (vr q.1)=q.2/\TS.Tu (kzH s.heap) s.heap (vr q.1):=fun q hq=>by
    obtain ⟨a,e,h1⟩:=ht q hq;obtain ⟨us,v1,⟨o,ho,hc,n,hd⟩,_⟩:=I.tuple h1;obtain ⟨v2,v3⟩:=yK v1;have k:kzH s.heap (vr q.1)=q.2:=by
      rw [e]
      show (match s.heap.get? a with
        | some o=>(match o.data with
          | .seq xs _=>xs.toList.map numOf
          | _=>[])
        | none=>[])=q.2
      rw [ho];dsimp only;rw [hd];exact v2
    exact ⟨k,⟨⟨a,o,_,n,by rw [e];rfl,ho,hc,hd,by rw [k];exact v3⟩⟩⟩
  refine TS.Qj (kz:=kzH s.heap) pl.isList (fun v hv=>?_) (by rw [ζ];exact hn) (by omega) fun out k=>?_
  · obtain ⟨q,hq,rfl⟩:=Φ.mp hv;exact (tell q hq).2
  · obtain ⟨Ps',h1,h2⟩:=Uu k.1 Ps rfl;have mm:∀ q∈Ps',q∈Ps:=fun q hq=>h1.mem_iff.mp hq
    obtain ⟨c,hc⟩:=sortedAll_at s.heap (Ps.map fun q=>vr q.1) out;have hc2:(sortedAll s.heap (Ps.map fun q=>vr q.1) out).get? (s.heap.objs.size+1)=some { cls:=.type "list",dict:=none,data:=.seq out.toList.toArray c,slots:=#[] }:=by rw [hc,iU]
    have hv:Vals (Ps'.map (·.1)) out.toList:=by rw [h2];exact wW fun q hq=>rf q (mm q hq)
    have hl:(Ps'.map (·.1)).length<=sizeLine:=by rw [ζ,h1.length_eq];rw [ζ] at hz;exact hz
    have I2:=I.laid (t':=s.toks) (a:=s.heap.objs.size+1) (o:=.lst (Ps'.map (·.1))) (h':=sortedAll s.heap (Ps.map fun q=>vr q.1) out) (fun b o e=>sortedAll_old e) (fM _) (show zW X.prog X.w _ _ _ (.lst (Ps'.map (·.1))) from ⟨hl,out.toList,c,hv,hc2⟩);refine ⟨.ref (s.heap.objs.size+1),_,I2,rfl,q Ps' _ h1 ?_ (I.hok.fresh (fM _))⟩;have pw:=k.2;rw [h2,eQ] at pw;rw [eQ];refine pw.imp_of_mem fun {a b} ha hb h=>?_
    rwa [(tell a (mm a ha)).1,(tell b (mm b hb)).1] at h
theorem ZF:∀ x y,lexL x y=TS.lexB x y
 | [],[]=>rfl
 | [],_::_=>rfl
 | _::_,[]=>rfl
 | a::x,b::y=>by unfold lexL TS.lexB;rw [ZF x y]
theorem xU (k:List Int):∀ l,(insL k l).Perm (k::l)
 | []=>bx _
 | x::l=>by
  unfold insL;split
  ·exact ((xU k l).cons x).trans (ie _ _ _)
  ·exact bx _
theorem u6:∀ l,(xg l).Perm l
 | []=>bx _
 | k::l=>(xU k (xg l)).trans ((u6 l).cons k)
abbrev LeL (x y:List Int):Prop:=TS.lexB y x=false
theorem zh6 {x y z:List Int}(h:LeL x y) (k:LeL y z):LeL x z:=dw (O:=TS.lexO) h k
set_option tactic.hygienic true in
theorem Ja (k:List Int):∀ l,l.Pairwise LeL->(insL k l).Pairwise LeL
 | [],_=>pG _ _
 | x::l,h=>by
  obtain ⟨h1,h2⟩:=gm.mp h;unfold insL;split
  ·rename_i c
   rw [ZF] at c;refine gm.mpr ⟨fun y hy=>?_,Ja k l h2⟩;rcases υ.mp ((xU k l).mem_iff.mp hy) with rfl | hy
   ·exact d9 (O:=TS.lexO) c
   ·exact h1 y hy
  ·rename_i c
   rw [ZF] at c;have c:LeL k x:=by show TS.lexB x k=false;revert c;cases TS.lexB x k <;> simp
   refine gm.mpr ⟨fun y hy=>?_,h⟩;rcases υ.mp hy with rfl | hy
   ·exact c
   ·exact zh6 c (h1 y hy)
theorem WP:∀ l,(xg l).Pairwise LeL
 | []=>fL
 | k::l=>Ja k _ (WP l)
theorem Zm {l m:List (List Int)}(h:m.Perm l) (k:m.Pairwise LeL):m=xg l:=
 (h.trans (u6 l).symm).eq_of_pairwise (fun a b _ _ h1 h2=>TS.Vb a b h2 h1) k (WP l)
theorem U9:∀ {l:List D}{k:List Int},xX l=some k->l=k.map D.int
 | [],k,h=>by cases h;rfl
 | .int i::r,k,h=>by obtain ⟨j,e,rfl⟩:=Α.mp (show (xX r).map (i::·)=some k from h);rw [U9 e];rfl
theorem jJ:∀ {l:List D}{ks:List (List Int)},yW l=some ks->l=ks.map tupI
 | [],ks,h=>by cases h;rfl
 | .tup d::r,ks,h=>by obtain ⟨k,e1,e2⟩:=Ο.mp (show (xX d).bind (fun k=>(yW r).map (k::·))=some ks from h);obtain ⟨js,e3,rfl⟩:=Α.mp e2;rw [U9 e1,jJ e3];rfl
theorem jL {Γ:Gm}{g:G}:∀ {k:List Int}{vs:List V},Hass Γ g (k.map D.int) vs->vs=k.map V.int
 | [],_,h=>h
 | n::k,_,⟨v,r,e,h1,h2⟩=>by rw [e,show v=V.int n from h1,jL h2];rfl
theorem vB {Γ:Gm}{H:Hp}{g:G}{S:Store}(w:WOk Γ H g S):∀ {ks:List (List Int)}{vs:List V},Hass Γ g (ks.map tupI) vs->∃ Ps:List (V×List Int),Ps.map (·.1)=vs/\Ps.map (·.2)=ks/\∀ q∈Ps,Has Γ g (tupI q.2) q.1/\∃ a,q.1=.ref a/\SqT Γ.K H a (q.2.map V.int)
 | [],_,h=>⟨[],(show _=[] from h).symm,rfl,fun q h=>nomatch h⟩
 | k::ks,_,⟨v,r,e,h1,h2⟩=>by
  obtain ⟨Ps,e1,e2,h3⟩:=vB w h2;refine ⟨(v,k)::Ps,by rw [e,<- e1];rfl,by rw [<- e2];rfl,fun q hq=>?_⟩;rcases υ.mp hq with rfl | hq
  ·refine ⟨h1,?_⟩;obtain ⟨a,us,e3,h4,h5⟩:=h1;rw [jL h5] at h4;exact ⟨a,e3,SqT.of (w.rh _ _ h4)⟩
  ·exact h3 q hq
theorem wQ {Γ:Gm}{g:G}:∀ {Ps:List (V×List Int)},(∀ q∈Ps,Has Γ g (tupI q.2) q.1)->Hass Γ g ((Ps.map (·.2)).map tupI) (Ps.map (·.1))
 | [],_=>rfl
 | p::Ps,h=>⟨p.1,_,rfl,h p μ,wQ fun q hq=>h q (ν _ hq)⟩
theorem ziS {X:Cx}{pJ:List (Addr×Obj)}{σ:L2.St}{H:Hp}{s:ξ}{p:Addr}{kvs:List (List Key×V)}{ks:List (List Int)}(I:L2.Inv X pJ σ H s) (hq:Rd H p (.dT kvs)) (hks:kvs.map (·.1)=ks.map (fun k=>k.map dN)):
  ∃ es ep,∃ Ps:List (V×List Int),TS.Raw s.heap p es ep/\(p==bV)=false/\Ps.map (·.2)=ks/\es.size=ks.length/\(∀ acc:Array δ,ItemsOf (fun i v=>∃ e,es[i]?=some e/\v=e.key) acc es.size->acc.toList=Ps.map fun q=>vr q.1)/\∀ q∈Ps,∃ a,q.1=.ref a/\H a=some (.tup (q.2.map V.int)):=by
 obtain ⟨z,lo,zs,kt,o,es,ep,h1,h2,h3,h4,h5,h6⟩:=Kl I.hok hq;have raw:TS.Raw s.heap p es ep:=⟨o,h1,h2,h3⟩
 have P0:∀ {l:List (List Key×V)}{m:List (List Key×Addr×δ)}(ks:List (List Int)),KT H l m->l.map (·.1)=ks.map (fun k=>k.map dN) ->
   ∃ Ps:List (V×List Int),Ps.map (·.2)=ks/\(Ps.map fun q=>vr q.1)=(m.map fun x=>Θ x.2.1)/\∀ q∈Ps,∃ a,q.1=.ref a/\H a=some (.tup (q.2.map V.int)):=by
  intro l m ks k
  induction k generalizing ks with
  | nil=>intro e;cases ks with
   | nil=>exact ⟨[],rfl,rfl,fun _ h=>nomatch h⟩
   | cons _ _=>cases e
  | @cons a b as bs hab t ih=>
   intro e;cases ks with
   | nil=>cases e
   | cons k ks=>
    rw [Κ,Κ] at e;obtain ⟨Ps,g1,g2,g3⟩:=ih ks (Ψ e).2;refine ⟨(.ref b.2.1,k)::Ps,by rw [Κ,g1],by rw [Κ,Κ,g2];rfl,fun q hq=>?_⟩;rcases υ.mp hq with rfl | hq
    ·refine ⟨_,rfl,?_⟩;rw [hab.2.1,(Ψ e).1,Ϭ];rfl
    ·exact g3 q hq
 obtain ⟨Ps,g1,g2,g3⟩:=P0 ks kt hks;have sz:es.size=ks.length:=by rw [<- Ξ,h4,ζ,<- ζ (f:=fun x:List Key×Addr×δ=>Θ x.2.1),<- g2,ζ,<- g1,ζ]
 have all:∀ acc:Array δ,ItemsOf (fun i v=>∃ e,es[i]?=some e/\v=e.key) acc es.size->acc.toList=Ps.map fun q=>vr q.1:=fun acc hi=>by
  rw [g2];apply mJ;intro j;have lz:zs.length=es.size:=by rw [<- Ξ,h4,ζ]
  by_cases hj:j < acc.size
  ·obtain ⟨e,e1,e2⟩:=hi.2 j acc[j] (ϛ hj);rw [ϧ,ϛ hj,e2,Ρ];rw [<- ϧ,h4,Ρ] at e1;obtain ⟨x,e3,e4⟩:=Α.mp e1;rw [e3,<- e4];rfl
  ·rw [bu (by rw [Ξ];omega),bu (by rw [ζ,lz,<- hi.1];omega)]
 exact ⟨es,ep,Ps,raw,lo,g1,sz,all,g3⟩
theorem Kp {X:Cx}(hc:X.calm=true):z9 X (.type "list") (fun xs H Q=>∃ p,∃ kvs:List (List Key×V),∃ ks:List (List Int),xs=[.ref p]/\Rd H p (.dT kvs)/\kvs.map (·.1)=ks.map (fun k=>k.map dN)/\ks.length < 4096 /\
    ∀ (Ps:List (V×List Int)) (l:Addr),Ps.map (·.2)=ks->(∀ q∈Ps,∃ a,q.1=.ref a/\H a=some (.tup (q.2.map V.int)))->H l=none->Q (.ref l) (upd H l (.lst (Ps.map (·.1))))):=by
  intro pJ s σ H xs us Q I r ⟨p,kvs,ks,e,hq,hks,hn,q⟩;subst e;obtain ⟨u,rfl,rx⟩:=vals1 r;cases (show u=Θ p from rx);obtain ⟨es,ep,Ps,raw,lo,g1,sz,all,g3⟩:=ziS I hq hks;have rf:∀ q∈Ps,∃ a,q.1=.ref a:=fun q hq=>⟨_,(g3 q hq).choose_spec.1⟩
  refine W.kdl_call (TS.zd9 lo) (I.ok.hd hc) raw (by rw [sz,ϵ];omega) fun h' tk acc c kp e it=>?_
  have ea:=all acc it;have hv:Vals (Ps.map (·.1)) acc.toList:=by rw [ea];exact wW fun q hq=>rf q hq
  have I2:=I.laid (t':=tk) (a:=s.heap.objs.size) (o:=.lst (Ps.map (·.1))) (h':=h') kp (χ _) (show zW X.prog X.w _ _ _ (.lst (Ps.map (·.1))) from ⟨by
    rw [ζ,<- ζ (f:=(·.2)),g1,ϵ]
    omega,acc.toList,c,hv,by rw [iU];exact e⟩)
  exact ⟨.ref s.heap.objs.size,_,I2,rfl,q Ps _ g1 g3 (I.hok.fresh (χ _))⟩
theorem zkr {X:Cx}{pJ:List (Addr×Obj)}{σ:L2.St}{H:Hp}{s:ξ}{h':Heap}{a:Addr}{o:HO}{t':Nat}{d':Drawn}(I:L2.Inv X pJ σ H s) (k:∀ b u,s.heap.get? b=some u->h'.get? b=some u) (hp:s.heap.objs.size<=a) (new:zW X.prog X.w (upd H a o) h' a o):
  L2.Inv X pJ σ (upd H a o) { s with heap:=h',toks:=t',drawn:=d' }:=by have J:=I.laid (t':=t') k hp new;exact ⟨J.ok,J.os,J.bare,J.base,J.loc,J.cell,J.free,J.freeC,J.pin,J.hok,J.len⟩
noncomputable def SetV (w:Ϛ) (a:Addr) (bs:List Addr):HO:=.ext fun h=>TS.Sv w h a (TS.ledW w) bs
noncomputable def adr:V->Addr
 | .ref a=>a
 | _=>0
theorem jF {prog:Χ}{w:Ϛ}:∀ {us:List δ}{ns:List Int},Vals (ns.map V.int) us->ItemsAre (fu prog w) ns us
 | _,[],.nil=>.nil
 | _,n::ns,.cons r q=>by obtain ⟨t,rfl⟩:=r;exact .cons (by simp [fu,δ.isInt]) (jF q)
theorem zbf {X:Cx}(hu:X.A.units+64 < ϥ) (hc:X.calm=true):z9 X (.type "set") (fun xs H Q=>∃ p,∃ Ps:List (V×List Int),xs=[.ref p]/\(SqL X.K H p (Ps.map (·.1))\/SqT X.K H p (Ps.map (·.1)))/\Ps.length<=5/\(∀ q∈Ps,∃ a,q.1=.ref a/\SqT X.K H a (q.2.map V.int))/\(Ps.map (·.2)).Nodup /\
  ∀ a,H a=none->Q (.ref a) (upd H a (SetV X.w a (Ps.map fun q=>adr q.1)))):=by
 intro pJ s σ H xs us Q I r ⟨p,Ps,e,hq,hn,ht,nd,q⟩;subst e;obtain ⟨u,rfl,rx⟩:=vals1 r;cases (show u=Θ p from rx);have rf:∀ q∈Ps,∃ a,q.1=.ref a:=fun q hq=>⟨_,(ht q hq).choose_spec.1⟩
 have fin:∀ (its:List δ) {T:String}{OK:Heap->Prop}{Sx:Addr->Nat->Heap->Prop}{itO:Obj},Vals (Ps.map (·.1)) its->TS.Row X.prog X.w T p its.toArray OK Sx itO->OK s.heap->Δ (Λ X.prog X.w) X.A (call (.type "set") [.ref p]) (EP X pJ σ Q) X.xe s:=fun its T OK Sx itO v R ok=>by
  have ei:=u5 rf v;subst ei;refine TS.zbg (val:=Ps.map fun q=>(adr q.1,q.2)) R (I.ok.hd hc) hu ok ?_ (by simpa using hn) (fun x hx=>?_) (by rw [Ϭ];exact nd) fun h' tk z k=>?_
  ·rw [Ϭ];refine lC fun q hq=>?_
   obtain ⟨a,e⟩:=rf q hq;show vr q.1=Θ (adr q.1)
   rw [e];rfl
  ·obtain ⟨q,hq,rfl⟩:=Φ.mp hx;obtain ⟨a,e,h1⟩:=ht q hq;obtain ⟨us,v1,⟨o,ho,hc,n,hd⟩,_⟩:=I.tuple h1;rw [e];exact ⟨o,_,n,ho,hc,hd,jF v1⟩
  ·rw [Ϭ] at z;have z:TS.Sv X.w h' s.heap.objs.size (TS.ledW X.w) (Ps.map fun q=>adr q.1):=z;obtain ⟨es,ep,tb,st,pm⟩:=id z;obtain ⟨o,ho,_⟩:=st.at_;exact ⟨.ref s.heap.objs.size,_,I.laid (t':=tk) (o:=SetV X.w s.heap.objs.size (Ps.map fun q=>adr q.1)) k (χ _) ⟨z,⟨o,ho⟩,fun h1 h2 y kk=>y.keep kk⟩,rfl,q _ (I.hok.fresh (χ _))⟩
 rcases hq with hq | hq
 ·obtain ⟨its,v,pl,_⟩:=I.list hq;exact fin its v (TS.rowL p its.toArray) pl.isList
 ·obtain ⟨its,v,pl,_⟩:=I.tuple hq;exact fin its v (TS.rowT p its.toArray) (show s.heap.IsTuple p its.toArray from pl)
theorem XX {X:Cx}(hu:X.A.units+64 < ϥ) (hc:X.calm=true):z9 X (.builtin "sorted") (fun xs H Q=>∃ a,∃ Ps:List (V×List Int),xs=[.ref a]/\H a=some (SetV X.w a (Ps.map fun q=>adr q.1))/\Ps.length < 64/\(∀ q∈Ps,∃ a,q.1=.ref a/\SqT X.K H a (q.2.map V.int)) /\
    ∀ (Ps':List (V×List Int)) (l:Addr),Ps'.Perm Ps->(Ps'.map (·.2)).Pairwise (fun x y=>TS.lexB y x=false)->H l=none->Q (.ref l) (upd H l (.lst (Ps'.map (·.1))))):=by
  intro pJ s σ H xs us Q I r ⟨a,Ps,e,hq,hn,ht,q⟩;subst e;obtain ⟨u,rfl,rx⟩:=vals1 r;cases (show u=Θ a from rx);obtain ⟨st,_⟩:=(show zW X.prog X.w H s.heap a (SetV X.w a (Ps.map fun q=>adr q.1)) from I.hok a _ hq)
  have rf:∀ q∈Ps,∃ a,q.1=.ref a:=fun q hq=>⟨_,(ht q hq).choose_spec.1⟩
  have tell:∀ q∈Ps,kzH s.heap (vr q.1)=q.2/\TS.Tu (kzH s.heap) s.heap (vr q.1):=fun q hq=>by
    obtain ⟨a,e,h1⟩:=ht q hq;obtain ⟨us,v1,⟨o,ho,hc,n,hd⟩,_⟩:=I.tuple h1;obtain ⟨v2,v3⟩:=yK v1;have k:kzH s.heap (vr q.1)=q.2:=by
      rw [e]
      show (match s.heap.get? a with
        | some o=>(match o.data with
          | .seq xs _=>xs.toList.map numOf
          | _=>[])
        | none=>[])=q.2
      rw [ho];dsimp only;rw [hd];exact v2
    exact ⟨k,⟨⟨a,o,_,n,by rw [e];rfl,ho,hc,hd,by rw [k];exact v3⟩⟩⟩
  have ev:(Ps.map fun q=>adr q.1).map Θ=Ps.map fun q=>vr q.1:=by
    rw [Ϭ];refine lC fun q hq=>?_
    obtain ⟨a,e⟩:=rf q hq;show Θ (adr q.1)=vr q.1
    rw [e];rfl
  refine TS.WN (kz:=kzH s.heap) (I.ok.hd hc) (by omega) st (by rw [ζ];exact hn) (fun b hb=>?_) fun vs out h' tk d pv k hg hk=>?_
  · obtain ⟨q,hq,rfl⟩:=Φ.mp hb;have:=(tell q hq).2;obtain ⟨a,e⟩:=rf q hq;rw [e] at this ⊢;exact this
  · rw [ev] at pv;obtain ⟨Ps',h1,h2⟩:=Uu (k.1.trans pv) Ps rfl;have mm:∀ q∈Ps',q∈Ps:=fun q hq=>h1.mem_iff.mp hq
    have e2:(h'.push (bH "list" vs.toArray 0)).get? h'.objs.size=some (bH "list" vs.toArray 0):=Ζ _ rfl;obtain ⟨c,hc⟩:=sortedHeap_at (out:=out) e2;have hc2:(lg (h'.push (bH "list" vs.toArray 0)) h'.objs.size vs out).get? h'.objs.size=some { cls:=.type "list",dict:=none,data:=.seq out.toList.toArray c,slots:=#[] }:=by rw [hc,iU]
    have hv:Vals (Ps'.map (·.1)) out.toList:=by rw [h2];exact wW fun q hq=>rf q (mm q hq)
    have I2:=zkr I (t':=tk) (d':=d) (a:=h'.objs.size) (o:=.lst (Ps'.map (·.1))) (h':=lg (h'.push (bH "list" vs.toArray 0)) h'.objs.size vs out)
      (fun b o e=>by
        have lt:=Ε (hk b o e);rw [sortedHeap_old (ϋ lt) (by rw [pO];exact eY lt)]
        exact θ _ (hk b o e)) hg (show zW X.prog X.w _ _ _ (.lst _) from ⟨by rw [ζ,h1.length_eq,ϵ];omega,out.toList,c,hv,hc2⟩)
    refine ⟨.ref h'.objs.size,_,I2,rfl,q Ps' _ h1 ?_ (I.hok.fresh hg)⟩;have pw:=k.2;rw [h2,eQ] at pw;rw [eQ];refine pw.imp_of_mem fun {a b} ha hb h=>?_
    rwa [(tell a (mm a ha)).1,(tell b (mm b hb)).1] at h
def Rdbs (Γ:Gm) (H:Hp) (g:G):List D->List V->Prop
 | [],vs=>vs=[]
 | d::ds,vs=>∃ v r,vs=v::r/\Rdb Γ H g d v/\Rdbs Γ H g ds r
theorem QH {Γ:Gm}{H:Hp}{g:G}{S:Store}(w:WOk Γ H g S):∀ {ds:List D}{vs:List V},Hass Γ g ds vs->Rdbs Γ H g (ds.map (zE S)) vs
 | [],_,h=>h
 | d::ds,_,⟨v,r,e,h1,h2⟩=>⟨v,r,e,zdg w h1,QH w h2⟩
def RDc (Γ:Gm) (r:List V->Hp->VK->Prop) (ds:List D) (d:D) (fr:Bool):Prop:=
 ∀ (S:Store) (H:Hp) (g:G) (xs:List V) (Q:VK),WOk Γ H g S->Rdbs Γ H g ds xs->Fin Γ H g S d fr Q->r xs H Q
section
variable {X:Cx}{Γ:Gm}
theorem rd1 {H:Hp}{g:G}{d:D}{xs:List V}(h:Rdbs Γ H g [d] xs):∃ v,xs=[v]/\Rdb Γ H g d v:=by obtain ⟨v,r,e,h1,h2⟩:=h;cases (show r=[] from h2);exact ⟨v,e,h1⟩
theorem Wa {g:G}:∀ {l:List D}{ns:List Bool}{xs:List V},jU l=some ns->Hass Γ g l xs->xs=ns.map V.bl
 | [],ns,xs,h,hh=>by cases (show some []=some ns from h);exact hh
 | d::l,ns,xs,h,⟨v,r,e,hv,hr⟩=>by
  subst e;cases d with
  | bl i=>
   simp only [jU,Α] at h;obtain ⟨ms,e1,e2⟩:=h;subst e2;rw [show v=V.bl i from hv,Wa e1 hr];rfl
  | _=>cases h
noncomputable def biV:BI->δ
 | .len=>.builtin "len" | .abs=>.builtin "abs" | .int=>.type "int" | .str=>.type "str" | .tuple=>.type "tuple" | .list=>.type "list"
 | .sum=>.builtin "sum" | .all=>.builtin "all" | .any=>.builtin "any" | .isinst _=>.builtin "isinstance" | .min2=>.builtin "min" | .max2=>.builtin "max" | .sorted=>.builtin "sorted" | .repr=>.builtin "repr" | .dict=>.type "dict" | .sset=>.builtin "sorted" | .lset=>.builtin "len" | .trev=>.type "tuple"
noncomputable def isI:BI->Bool
 | .isinst _=>true
 | .sset=>true
 | .lset=>true
 | .trev=>true
 | _=>false
set_option tactic.hygienic true in
theorem zfi {d0:D}{d:D}{fr:Bool}(hK:X.K=Γ.K) (h:lenD d0=some (d,fr)):∃ r,z9 X (.builtin "len") r/\RDc Γ r [d0] d fr:=by
 cases d0 with
 | tup l=>
  cases h;refine ⟨_,xG,fun S H g xs Q w hx q=>?_⟩;obtain ⟨v,rfl,p,ys,rfl,h1,h2⟩:=rd1 hx;exact ⟨p,ys,rfl,.inr (SqT.of (w.rh _ _ h1)),zf w q (by rw [h2.len];rfl)⟩
 | lst l=>
  cases h;refine ⟨_,xG,fun S H g xs Q w hx q=>?_⟩;obtain ⟨v,rfl,p,ys,rfl,h1,h2⟩:=rd1 hx;exact ⟨p,ys,rfl,.inl (SqL.of h1),zf w q (by rw [h2.len];rfl)⟩
 | scr l=>
  cases h;refine ⟨_,xG,fun S H g xs Q w hx q=>?_⟩;obtain ⟨v,rfl,p,rfl,h1⟩:=rd1 hx;exact ⟨p,_,rfl,.inl (by rw [hK];exact h1),zf w q (by rw [ζ];rfl)⟩
 | str x=>
  have h:(if fits x.length=true then some (D.int x.length,false) else none)=some (d,fr):=h;split at h
  ·rename_i hf
   cases h;refine ⟨_,X5,fun S H g xs Q w hx q=>?_⟩;obtain ⟨v,rfl,hv⟩:=rd1 hx;exact ⟨_,by rw [show v=_ from hv],yD hf,zf w q rfl⟩
  ·cases h
 | dK ks vs=>
  cases h;refine ⟨fun xs H Q=>∃ d kvs,xs=[.ref d]/\Rd H d (.dK kvs)/\Q (.int kvs.length) H,?_,fun S H g xs Q w hx q=>?_⟩
  ·intro pJ s σ H xs us Q I r hh;obtain ⟨d,kvs,rfl,hd,q⟩:=hh;obtain ⟨u,rfl,ru⟩:=vals1 r;cases (show u=Θ d from ru);exact zkW I hd fun t s' I'=>⟨.int kvs.length,H,I',⟨t,rfl⟩,q⟩
  ·obtain ⟨v,rfl,p,ys,rfl,h1,h2,h3⟩:=rd1 hx;refine ⟨p,_,rfl,.inl h1,zf w q ?_⟩;rw [fP,h3.len,<- h2,Nat.min_self];rfl
 | _=>cases h
theorem zhQ {f:List D->Option D}{d0:D}{p:D×Bool}(h:onL f d0=some p):∃ l d,d0=.lst l/\f l=some d/\p=(d,false):=by
 cases d0 with
 | lst l=>
  obtain ⟨d,e,rfl⟩:=Α.mp (show (f l).map (fun d=>(d,false))=some p from h);exact ⟨l,d,rfl,e,rfl⟩
 | _=>cases h
theorem UL {d0:D}{l:List D}(h:lotD d0=some l):d0=.lst l\/d0=.tup l:=by
 cases d0 with
 | lst m=>cases h;exact .inl rfl
 | tup m=>cases h;exact .inr rfl
 | _=>cases h
theorem U6:∀ {k:List Key}{n:List Int},ZQ k=some n->k=n.map dN
 | [],_,h=>by cases h;rfl
 | .inl i::k,n,h=>by obtain ⟨m,e,rfl⟩:=Α.mp (show (ZQ k).map (i::·)=some n from h);rw [U6 e];rfl
 | .inr _::_,_,h=>by cases h
theorem Xf:∀ {ks:List (List Key)}{ns:List (List Int)},uh ks=some ns->ks=ns.map (fun k=>k.map dN)
 | [],_,h=>by cases h;rfl
 | k::ks,ns,h=>by obtain ⟨n,e1,e2⟩:=Ο.mp (show (ZQ k).bind (fun n=>(uh ks).map (n::·))=some ns from h);obtain ⟨ms,e3,rfl⟩:=Α.mp e2;rw [Κ,<- Xf e3,<- U6 e1]
theorem zdK {g:G}:∀ ns:List Int,Hass Γ g (ns.map D.int) (ns.map V.int)
 | []=>rfl
 | _::ns=>⟨_,_,rfl,rfl,zdK ns⟩
theorem Yp {H:Hp}{S:Store}:∀ (Ps:List (V×List Int)) (g:G),WOk Γ H g S->(∀ q∈Ps,∃ a,q.1=.ref a/\H a=some (.tup (q.2.map V.int)))->∃ g',Step H g H g'/\WOk Γ H g' S/\∀ q∈Ps,Has Γ g' (tupI q.2) q.1
 | [],g,w,_=>⟨g,Step.refl H g,w,fun _ h=>nomatch h⟩
 | p::Ps,g,w,h=>by
  obtain ⟨a,ea,ha⟩:=h p μ;have one:∃ g',Step H g H g'/\WOk Γ H g' S/\g'.R a=some (.tup (p.2.map V.int)):=by
   cases e:g.R a with
   | some o=>
    have:=w.rh a o e;rw [ha] at this;cases this;exact ⟨g,Step.refl H g,w,e⟩
   | none=>
    have na:a ∉ g.α:=fun m=>by
     obtain ⟨k,hk,e'⟩:=pZ.mp m;have hk':k < S.length:=by rw [<- w.len];exact hk
     obtain ⟨o,ho,hm⟩:=(w.cell k _ a (ψ hk') (by rw [ψ hk,e'])).kO;rw [ha] at ho;cases ho;exact hm.elim
    refine ⟨g.put a (.tup (p.2.map V.int)),⟨Le.put e,fun _ _ h _=>h,fun _ o h=>⟨o,h⟩,fun _ h=>.inl h,fun b q=>?_⟩,w.put ha e na,zp⟩;by_cases hb:b=a
    ·subst hb;exact .inr (.inr (.inr ⟨_,ha⟩))
    ·have q':upd g.R a (.tup (p.2.map V.int)) b≠none:=q;rw [zj hb] at q';exact .inl q'
  obtain ⟨g1,s1,w1,r1⟩:=one;obtain ⟨g2,s2,w2,h2⟩:=Yp Ps g1 w1 fun q hq=>h q (ν _ hq)
  refine ⟨g2,s1.trans s2,w2,fun q hq=>?_⟩;rcases υ.mp hq with rfl | hq
  ·exact ⟨a,_,ea,s2.le.rr _ _ r1,zdK _⟩
  ·exact h2 q hq
set_option tactic.hygienic true in
theorem zd8 {d0 d:D}{fr:Bool}(hK:X.K=Γ.K) (hu:X.A.units+61 < ϥ) (hc:X.calm=true) (h:srtD d0=some (d,fr)):∃ r,z9 X (.builtin "sorted") r/\RDc Γ r [d0] d fr:=by
 cases d0 with
 | lst l=>
  obtain ⟨ks,e1,e2⟩:=Ο.mp (show (yW l).bind (fun ks=>if decide (ks.length < 64)=true then some (D.lst ((xg ks).map tupI),true) else none)=some (d,fr) from h);obtain rfl:=jJ e1;split at e2
  ·rename_i hl
   cases e2;refine ⟨_,X3 hu,fun S H g xs Q w hx q=>?_⟩;obtain ⟨v,rfl,a,vs,rfl,h1,h2⟩:=rd1 hx;obtain ⟨Ps,p1,p2,p3⟩:=vB w h2;subst p1 p2;rw [ζ] at hl;refine ⟨a,Ps,rfl,.inl (.inl h1),of_decide_eq_true hl,fun q hq=>by rw [hK];exact (p3 q hq).2,fun Ps' l pm up hl=>yI w (ds:=(xg (Ps.map (·.2))).map tupI) q ?_ hl⟩;rw [<- Zm (pm.map _) up];exact wQ fun q hq=>(p3 q (pm.mem_iff.mp hq)).1
  ·cases e2
 | _=>cases h
theorem WL {g:G}:∀ {l:List D}{ns:List Str}{xs:List V},Zi l=some ns->Hass Γ g l xs->xs=ns.map V.str
 | [],ns,xs,h,hh=>by cases (show some []=some ns from h);exact hh
 | d::l,ns,xs,h,⟨v,r,e,hv,hr⟩=>by
  subst e;cases d with
  | str i=>
   simp only [Zi,Α] at h;obtain ⟨ms,e1,e2⟩:=h;subst e2;rw [show v=V.str i from hv,WL e1 hr];rfl
  | _=>cases h
theorem zf0 {b:BI}{d0 d1 d:D}{fr:Bool}(hc:X.calm=true) (h:bi2 b d0 d1=some (d,fr)):∃ r,z9 X (biV b) r/\RDc Γ r [d0,d1] d fr:=by
 cases b with
 | _=>cases h
theorem XR:z9 X (.type "str") (fun xs H Q=>∃ x,xs=[.str x]/\Q (.str x) H):=by intro pJ s σ H xs us Q I r ⟨x,e,q⟩;subst e;obtain ⟨u,rfl,t,rfl⟩:=vals1 r;exact PySem.P.str_of_str ⟨.str x,H,I,⟨t,rfl⟩,q⟩
theorem zbj:z9 X (.type "int") (fun xs H Q=>∃ x n,xs=[.str x]/\iQ x=some n/\x.length<=640/\Q (.int n) H):=by intro pJ s σ H xs us Q I r ⟨x,n,e,hn,hl,q⟩;subst e;obtain ⟨u,rfl,t,rfl⟩:=vals1 r;exact W.KIN.call_text hn hl ⟨.int n,H,I.tok _,⟨_,rfl⟩,q⟩
set_option tactic.hygienic true in
theorem zd5 {d0 d:D}{fr:Bool}(h:strD d0=some (d,fr)):∃ r,z9 X (.type "str") r/\RDc Γ r [d0] d fr:=by
 cases d0 with
 | int i=>
  have h:(if decide (i.natAbs.log2 < 1920)=true then some (D.str (toString i),false) else none)=some (d,fr):=h;split at h
  ·rename_i hi
   cases h;refine ⟨_,XS,fun S H g xs Q w hx q=>?_⟩;obtain ⟨v,rfl,hv⟩:=rd1 hx;exact ⟨i,by rw [show v=_ from hv],of_decide_eq_true hi,zf w q rfl⟩
  ·cases h
 | str x=>
  cases h;refine ⟨_,XR,fun S H g xs Q w hx q=>?_⟩;obtain ⟨v,rfl,hv⟩:=rd1 hx;exact ⟨x,by rw [show v=_ from hv],zf w q rfl⟩
 | _=>cases h
set_option tactic.hygienic true in
theorem zf1 {b:BI}{d0:D}{d:D}{fr:Bool}(hK:X.K=Γ.K) (hg:X.A.guards=some []) (hu:X.A.units+61 < ϥ) (hc:X.calm=true) (hi:isI b=false) (h:biD b [d0]=some (d,fr)):∃ r,z9 X (biV b) r/\RDc Γ r [d0] d fr:=by
 cases b with
 | len=>exact zfi hK h
 | abs=>
  cases d0 with
  | int i=>
   cases h;refine ⟨_,zcW,fun S H g xs Q w hx q=>?_⟩;obtain ⟨v,rfl,hv⟩:=rd1 hx;exact ⟨_,by rw [show v=_ from hv],zf w q rfl⟩
  | _=>cases h
 | int=>
  cases d0 with
  | bl b=>
   cases h;refine ⟨_,X6,fun S H g xs Q w hx q=>?_⟩;obtain ⟨v,rfl,hv⟩:=rd1 hx;exact .inr ⟨_,by rw [show v=_ from hv],zf w q rfl⟩
  | str x=>
   have h:(if decide (x.length<=640)=true then (iQ x).map fun n=>(D.int n,false) else none)=some (d,fr):=h;split at h
   ·rename_i hl
    obtain ⟨m,e1,e2⟩:=Α.mp h;cases e2;refine ⟨_,zbj,fun S H g xs Q w hx q=>?_⟩;obtain ⟨v,rfl,hv⟩:=rd1 hx;exact ⟨x,m,by rw [show v=_ from hv],e1,of_decide_eq_true hl,zf w q rfl⟩
   ·cases h
  | int i=>
   cases h;refine ⟨_,X6,fun S H g xs Q w hx q=>?_⟩;obtain ⟨v,rfl,hv⟩:=rd1 hx;exact .inl ⟨_,by rw [show v=_ from hv],zf w q rfl⟩
  | _=>cases h
 | tuple=>
  obtain ⟨l,e,e2⟩:=Α.mp (show (lotD d0).map (fun l=>(D.tup l,false))=some (d,fr) from h);cases e2;refine ⟨_,Z6,fun S H g xs Q w hx q=>?_⟩;rcases UL e with rfl | rfl
  ·obtain ⟨v,rfl,p,ys,rfl,h1,h2⟩:=rd1 hx;exact ⟨p,ys,rfl,.inl ⟨SqL.of h1,fun l hl=>vV w q h2 hl⟩⟩
  ·obtain ⟨v,rfl,p,ys,rfl,h1,h2⟩:=rd1 hx;exact ⟨p,ys,rfl,.inr ⟨SqT.of (w.rh _ _ h1),zf w q ⟨p,ys,rfl,h1,h2⟩⟩⟩
 | list=>
  obtain ⟨l,e,e2⟩:=Α.mp (show (lstD d0).map (fun l=>(D.lst l,true))=some (d,fr) from h);cases e2;by_cases hs:∃ x,d0=.str x
  ·obtain ⟨x,rfl⟩:=hs;cases e
  by_cases ht:∃ ks ds,d0=.dT ks ds
  ·obtain ⟨ks0,ds0,rfl⟩:=ht;obtain ⟨ks,e1,e2⟩:=Ο.mp (show (uh ks0).bind (fun ns=>if decide (ns.length < 4096)=true then some (ns.map tupI) else none)=some l from e);split at e2
   ·rename_i hl
    cases e2;refine ⟨_,Kp hc,fun S H g xs Q w hx q=>?_⟩;obtain ⟨v,rfl,a,vs,rfl,h1,h4,h2⟩:=rd1 hx;have el:ks0.length=vs.length:=by rw [h2.len];exact h4
    refine ⟨a,ks0.zip vs,ks,rfl,.inl h1,by rw [<- Xf e1,mX (gj el)],of_decide_eq_true hl,fun Ps l pm ht hl=>?_⟩;obtain ⟨g',s',w',hs⟩:=Yp Ps g w ht;refine yI w' (fun v H' g2 st sm w2 vo=>q v H' g2 (s'.trans st) sm w2 vo) (ds:=ks.map tupI) ?_ hl;rw [<- pm];exact wQ hs
   ·cases e2
  have e:lotD d0=some l:=by
   cases d0 with
   | str x=>exact absurd ⟨x,rfl⟩ hs
   | dT ks ds=>exact absurd ⟨ks,ds,rfl⟩ ht
   | _=>exact e
  refine ⟨_,X4,fun S H g xs Q w hx q=>?_⟩;rcases UL e with rfl | rfl
  ·obtain ⟨v,rfl,p,ys,rfl,h1,h2⟩:=rd1 hx;exact ⟨p,ys,rfl,.inl (SqL.of h1),fun l hl=>yI w q h2 hl⟩
  ·obtain ⟨v,rfl,p,ys,rfl,h1,h2⟩:=rd1 hx;exact ⟨p,ys,rfl,.inr (SqT.of (w.rh _ _ h1)),fun l hl=>yI w q h2 hl⟩
 | sum=>cases h
 | all=>
  obtain ⟨l,z,rfl,e,e2⟩:=zhQ h;cases e2;obtain ⟨ns,e3,rfl⟩:=Α.mp e;refine ⟨_,zcV hc,fun S H g xs Q w hx q=>?_⟩;obtain ⟨v,rfl,p,ys,rfl,h1,h2⟩:=rd1 hx;exact ⟨p,ns,rfl,by rw [<- Wa e3 h2];exact SqL.of h1,zf w q rfl⟩
 | any=>cases h
 | isinst t=>cases hi
 | str=>exact zd5 h
 | min2=>cases h
 | max2=>cases h
 | sorted=>exact zd8 hK hu hc h
 | sset=>cases hi
 | lset=>cases hi
 | trev=>cases hi
 | repr=>cases h
 | dict=>cases h
theorem zdX {b:BI}{ds:List D}{d:D}{fr:Bool}(hK:X.K=Γ.K) (hg:X.A.guards=some []) (hu:X.A.units+61 < ϥ) (hc:X.calm=true) (hi:isI b=false) (h:biD b ds=some (d,fr)):∃ r,z9 X (biV b) r/\RDc Γ r ds d fr:=by
 match ds,h with
 | [],h=>cases h
 | [d0],h=>exact zf1 hK hg hu hc hi h
 | [d0,d1],h=>exact zf0 hc h
 | _::_::_::_,h=>cases h
noncomputable def tyS:Ty->String
 | .int=>"int" | .bool=>"bool" | .str=>"str" | .tuple=>"tuple" | .list=>"list" | .dict=>"dict"
theorem ziq {t:Ty}{a:D}{c:Bool}(hK:X.K=Γ.K) (h:isTy t a=some c):
  ∃ r,z9 X (.builtin "isinstance") r/\∀ (S:Store) (H:Hp) (g:G) (x:V) (Q:VK),WOk Γ H g S->Rdb Γ H g a x->Q (.bl c) H->r [x,.ty (tyS t)] H Q:=by
 refine ⟨_,VG,fun S H g x Q w hx q=>?_⟩;have go:∀ ty,TyOf X.K H x (.type ty)->W.kitOne X.K (.type ty) (.type (tyS t))=some c->_:=fun ty h1 h2=>(⟨x,tyS t,.type ty,c,rfl,h1,h2,q⟩:∃ x' T t' b,[x,V.ty (tyS t)]=[x',.ty T]/\TyOf X.K H x' t'/\W.kitOne X.K t' (.type T)=some b/\Q (.bl b) H)
 cases a with
 | non=>cases h;cases (show x=.non from hx);exact go _ .non (by cases t <;> rfl)
 | bl b=>cases (show x=.bl b from hx);exact go _ (.bl b) (by cases t <;> exact h)
 | int b=>cases (show x=.int b from hx);exact go _ (.int b) (by cases t <;> exact h)
 | str b=>cases (show x=.str b from hx);exact go _ (.str b) (by cases t <;> exact h)
 | tup l=>obtain ⟨p,ys,rfl,h1,h2⟩:=hx;exact go _ (.tup (w.rh _ _ h1)) (by cases t <;> exact h)
 | lst l=>obtain ⟨p,ys,rfl,h1,h2⟩:=hx;exact go _ (.lst h1) (by cases t <;> exact h)
 | dK ks l=>obtain ⟨p,ys,rfl,h1,h2⟩:=hx;exact go _ (.dK h1) (by cases t <;> exact h)
 | _=>cases h
end
mutual
noncomputable def JP:D->D->Bool
 | .non,.non=>true
 | .bl a,.bl b=>a==b
 | .int a,.int b=>a==b
 | .str a,.str b=>a==b
 | .tup a,.tup b=>Yv a b
 | .ktp a,.ktp b=>Yv a b
 | .fn a,.fn b=>a==b
 | .kdc a,.kdc b=>decide (a=b)
 | _,_=>false
noncomputable def Yv:List D->List D->Bool
 | [],[]=>true
 | a::as,b::bs=>JP a b&&Yv as bs
 | _,_=>false
end
mutual
theorem Ug:∀ (a b:D),JP a b=true->a=b
 | .non,b,h=>by cases b with | non=>rfl | _=>cases h
 | .bl a,b,h=>by cases b with | bl b=>rw [eq_of_beq (show (a==b)=true from h)] | _=>cases h
 | .int a,b,h=>by cases b with | int b=>rw [eq_of_beq (show (a==b)=true from h)] | _=>cases h
 | .str a,b,h=>by cases b with | str b=>rw [eq_of_beq (show (a==b)=true from h)] | _=>cases h
 | .tup a,b,h=>by cases b with | tup b=>rw [u9 a b h] | _=>cases h
 | .ktp a,b,h=>by cases b with | ktp b=>rw [u9 a b h] | _=>cases h
 | .fn a,b,h=>by cases b with | fn b=>rw [eq_of_beq (show (a==b)=true from h)] | _=>cases h
 | .kdc a,b,h=>by cases b with | kdc b=>rw [of_decide_eq_true (show decide (a=b)=true from h)] | _=>cases h
 | .lst _,b,h=>by cases b <;> cases h
 | .dK _ _,b,h=>by cases b <;> cases h
 | .dT _ _,b,h=>by cases b <;> cases h
 | .dF _ _,b,h=>by cases b <;> cases h
 | .ins _ _ _,b,h=>by cases b <;> cases h
 | .ref _,b,h=>by cases b <;> cases h
 | .scr _,b,h=>by cases b <;> cases h
theorem u9:∀ (a b:List D),Yv a b=true->a=b
 | [],[],_=>rfl
 | a::as,b::bs,h=>by have h':(JP a b&&Yv as bs)=true:=h;rw [ε] at h';rw [Ug a b h'.1,u9 as bs h'.2]
 | [],_::_,h=>by cases h
 | _::_,[],h=>by cases h
end
structure Cc where
 names:List (Str×aj)
 N:List Str
 fn:Bool
noncomputable def visK:Option aj->Bool
 | some .local=>true
 | some .cell=>true
 | some .free=>true
 | _=>false
noncomputable def gloK:Option aj->Bool
 | some .globalImplicit=>true
 | _=>false
noncomputable def yf (x:Str):Bool:=!(x==("__debug__":Str))&&!(x==("__classdict__":Str))&&!(x==("__name__":Str))&&!dotted x
noncomputable def vC (B:Tb) (f:Str) (c:Str):Bool:=B.obs.any fun o=>o.name==c&&o.fields.contains f
noncomputable def JX (B:Tb) (m:Str) (p:Str×Nat):Bool:=B.obs.any fun o=>o.name==p.1&&o.meths.contains (m,p.2)
noncomputable def wy:Expr->Bool
 | .Set _ _ _=>false
 | _=>true
noncomputable def notStar:Expr->Bool
 | .Starred _ _=>false
 | _=>true
noncomputable def biS:BI->Str
 | .len=>"len" | .abs=>"abs" | .int=>"int" | .str=>"str" | .tuple=>"tuple" | .list=>"list" | .sum=>"sum" | .all=>"all" | .any=>"any" | .isinst _=>"isinstance" | .min2=>"min" | .max2=>"max" | .sorted=>"sorted" | .repr=>"repr" | .dict=>"dict" | .sset=>"sorted" | .lset=>"len" | .trev=>"tuple"
noncomputable def tyN:Ty->Str
 | .int=>"int" | .bool=>"bool" | .str=>"str" | .tuple=>"tuple" | .list=>"list" | .dict=>"dict"
noncomputable def yH:List bD->Option (List Str)
 | []=>some []
 | ⟨some x,_,_⟩::r=>(yH r).map (x::·)
 | _=>none
noncomputable def relK (names:List (Str×aj)):List (Str×aj)->List (Str×aj):=fun l=>l.map fun (n,k)=>if (k==.free&&names.lookup n==some .cell) then (n,.cell) else (n,k)
noncomputable def namesOf:List Expr->Option (List Str)
 | []=>some []
 | .Name x _::r=>(namesOf r).map (x::·)
 | _=>none
noncomputable def yM:Expr->Option (List Str)
 | .Name x _=>some [x]
 | .Tuple es _ _=>namesOf es
 | _=>none
noncomputable def tIs:T->List Nat
 | .one i=>[i]
 | .nst i is=>i::is
 | .tup is=>is
noncomputable def Xj:Expr->Bool
 | .Tuple _ _ _=>true
 | _=>false
noncomputable def zis:T->Bool
 | .tup _=>true
 | .nst _ _=>true
 | _=>false
noncomputable def stoK (c:Cc) (x:Str):Bool:=match c.names.lookup x with
 | some .local=>true
 | some .cell=>c.fn
 | _=>false
noncomputable def ZS:T->Bool
 | .nst _ _=>true
 | _=>false
noncomputable def zc2:Expr->Option (Str×Pos×List Expr×Nat×Pos×Nat×Pos)
  | .Tuple es k p=>(match es with
    | a::r=>(match a with
      | .Name x q=>(match r with
        | b::z=>(match z with
          | []=>(match b with
            | .Tuple fs k2 p2=>some (x,q,fs,k2,p2,k,p)
            | _=>none)
          | _=>none)
        | _=>none)
      | _=>none)
    | _=>none)
  | _=>none
noncomputable def chkT (c:Cc) (t:T) (x:Expr):Bool:=if ZS t=true then (match zc2 x with
  | some q=>(match namesOf q.2.2.1 with
    | some ns=>(q.1::ns).length==(tIs t).length&&((tIs t).zip (q.1::ns)).all fun p=>c.N[p.1]?==some p.2&&stoK c p.2
    | none=>false)
  | none=>false) else Xj x==zis t&&(match yM x with
  | some ns=>ns.length==(tIs t).length&&((tIs t).zip ns).all fun p=>c.N[p.1]?==some p.2&&stoK c p.2
  | none=>false)
noncomputable def chkS (c:Cc) (sc:eG) (js:List Nat):Bool:=
 (sc.kind==.function)&&sc.names.all (fun y=>y.2 != .cell)&&sc.names.all (fun y=>y.2 != .local||sc.names.lookup y.1==some .local)&&sc.names.all (fun y=>y.2 != .free||sc.names.lookup y.1==some .free) &&
 sc.names.all (fun y=>y.2 != .free||c.names.lookup y.1==some .cell||c.names.lookup y.1==some .free) &&
 js.all fun j=>match c.N[j]? with
  | some y=>(c.names.lookup y==some .cell||c.names.lookup y==some .free)&&sc.names.lookup y==some .free
  | none=>false
noncomputable def inner (c:Cc) (sc:eG) (xs:List Str) (js:List Nat):Cc:=⟨relK c.names sc.names,xs++js.map (fun j=>c.N.getD j ""),false⟩
noncomputable def zdH:Expr->Bool
 | .Tuple _ _ _=>true
 | _=>false
noncomputable def keyC:Key->Const->Bool
 | .inl i,.int j=>i==j
 | .inr s,.str t=>s==t
 | _,_=>false
noncomputable def XQ:List Key->List (Option Expr)->Bool
 | [],[]=>true
 | k::ks,some (.Constant q _ _)::r=>keyC k q&&XQ ks r
 | _,_=>false
noncomputable def sole {α:Type}:List α->Option α
  | a::r=>(match r with
    | []=>some a
    | _=>none)
  | _=>none
theorem Zn {α:Type}{l:List α}{a:α}(h:sole l=some a):l=[a]:=by
 cases l with
 | nil=>cases h
 | cons b r=>
  cases r with
  | nil=>cases h;rfl
  | cons _ _=>cases h
noncomputable def asName:Expr->Option (Str×Pos)
 | .Name n p=>some (n,p)
 | _=>none
theorem vL {x:Expr}{q:Str×Pos}(h:asName x=some q):x=.Name q.1 q.2:=by cases x <;> first | (cases h;rfl) | cases h
noncomputable def zbu:Expr->Option (Expr×Expr×Pos)
 | .Subscript a b p=>some (a,b,p)
 | _=>none
theorem zc0 {x:Expr}{q:Expr×Expr×Pos}(h:zbu x=some q):x=.Subscript q.1 q.2.1 q.2.2:=by cases x <;> first | (cases h;rfl) | cases h
noncomputable def xZ:Expr->Option (Expr×Str×Pos)
 | .Attribute a m p=>some (a,m,p)
 | _=>none
theorem vM {x:Expr}{q:Expr×Str×Pos}(h:xZ x=some q):x=.Attribute q.1 q.2.1 q.2.2:=by cases x <;> first | (cases h;rfl) | cases h
noncomputable def yE {α:Type}:List α->Bool
 | []=>true
 | _=>false
theorem xT {α:Type}{l:List α}(h:yE l=true):l=[]:=by
 cases l with
 | nil=>rfl
 | cons _ _=>cases h
noncomputable def mtS:MT->Str
 | .get1=>"get" | .get2=>"get" | .sidx=>"index" | .index=>"index" | .join=>"join" | .split=>"split"
noncomputable def zhq:Expr->Bool
 | .Call _ _ _ _=>false
 | _=>true
noncomputable def yV:Expr->Bool
 | .Call _ (_::_) _ _=>true
 | x=>zhq x
noncomputable def QS:Expr->Bool
 | .Call _ _ _ _=>true
 | .List _ _=>true
 | .Dict _ _ _=>true
 | .BinOp _ _ _ _=>true
 | _=>false
noncomputable def Yt:Expr->Option (Str×Expr)
 | .Call (.Name y _) [z] [] _=>some (y,z)
 | _=>none
mutual
noncomputable def chkE (B:Tb) (c:Cc):E->Expr->Bool
  | .var i,.Name x _=>c.N[i]?==some x&&visK (c.names.lookup x)&&yf x
  | .con d,.Constant k _ _=>match d,k with
    | .non,.none=>true
    | .bl a,.bool b=>a==b
    | .int a,.int b=>a==b
    | .str a,.str b=>a==b
    | _,_=>false
  | .glo n d,.Name x _=>(match B.consts[n]? with
    | some p=>p.1==x&&JP p.2 d
    | none=>false)&&gloK (c.names.lookup x)&&yf x
  | .bin op a b,.BinOp x op' y _=>op==op'&&chkE B c a x&&chkE B c b y
  | .cmp op a b,.Compare x [op'] [y] _=>op==op'&&chkE B c a x&&chkE B c b y&&wy y
  | .chn o1 o2 a b d,.Compare x [p1,p2] [y,z] _=>o1==p1&&o2==p2&&chkE B c a x&&chkE B c b y&&chkE B c d z&&wy z
  | .not a,.UnaryOp op x _=>op==.Not&&chkE B c a x
  | .and a b,.BoolOp op (x::y::r) p=>op==.And&&chkE B c a x&&chkE B c b (.BoolOp .And (y::r) p)
  | .or a b,.BoolOp op (x::y::r) p=>op==.Or&&chkE B c a x&&chkE B c b (.BoolOp .Or (y::r) p)
  | .one a,.BoolOp op [x] _=>chkE B c a x
  | .ite t a b,.IfExp x y z _=>chkE B c t x&&chkE B c a y&&chkE B c b z
  | .tup es,.Tuple xs _ _=>zQ B c es xs
  | .lst es,.List xs _=>zQ B c es xs
  | .dic tk ks es,.Dict keys vs _=>XQ ks keys&&uE B c es vs&&decide (ks.length=es.length)&&decide (ks.length<=15)
  | .sub a i,.Subscript x y _=>chkE B c a x&&chkE B c i y
  | .slc a lo hi,.Subscript x (.Slice l h none _) _=>chkE B c a x&&chkO B c lo l&&chkO B c hi h
  | .bi b es,.Call (.Name x _) args [] _=>(match b with
    | .isinst t=>x==("isinstance":Str)&&B.bare.contains x&&B.bare.contains (tyN t)&&gloK (c.names.lookup x)&&(match es,args with
      | [e],[y,.Name z _]=>chkE B c e y&&notStar y&&z==tyN t&&gloK (c.names.lookup z)
      | _,_=>false)
    | .sset=>x==("sorted":Str)&&B.bare.contains x&&gloK (c.names.lookup x)&&(match es,args with
      | [e],[q]=>(match Yt q with
        | some (y,z)=>y==("set":Str)&&B.bare.contains y&&gloK (c.names.lookup y)&&chkE B c e z&&notStar z
        | none=>false)
      | _,_=>false)
    | .lset=>false
    | .trev=>false
    | b=>x==biS b&&B.bare.contains x&&gloK (c.names.lookup x)&&zQ B c es args&&!es.isEmpty)
  | .call f es,.Call (.Name x _) args [] _=>B.fns[f]?==some x&&gloK (c.names.lookup x)&&yf x&&zQ B c es args&&!es.isEmpty
  | .callk f perm es,.Call (.Name x _) [] kws _=>B.fns[f]?==some x&&gloK (c.names.lookup x)&&yf x&&XJ B c es kws&&(match yH kws,B.pars[f]? with
    | some ks,some ps=>perm.length==ps.length&&perm.all (· < ks.length)&&perm.map (fun i=>ks.getD i "")==ps&&ks.length==ps.length&&B.kws.contains (f,ks,perm)
    | _,_=>false)
  | .mth m o es,.Call f args kws cp=>(match xZ f with
    | some q=>q.2.1==mtS m&&chkE B c o q.1&&zQ B c es args&&yE kws&&q.2.2.endLine==cp.line&&yV q.1&&decide (1<=es.length)&&decide (es.length<=9)
    | none=>false)
  | .att cs o f,.Attribute x g _=>f==g&&chkE B c o x&&yV x&&cs.all (vC B f)
  | .met ms o m es,.Call f args kws cp=>(match xZ f with
    | some q=>q.2.1==m&&chkE B c o q.1&&zQ B c es args&&yE kws&&q.2.2.endLine==cp.line&&yV q.1&&ms.all (JX B m)&&decide (es.length<=9)
    | none=>false)
  | .mk n f es,.Call (.Name x _) args [] _=>n==x&&gloK (c.names.lookup x)&&yf x&&zQ B c es args&&!es.isEmpty&&B.obs.any (fun o=>o.name==n&&o.meths.contains ("__init__",f))
  | .box e,x=>QS x&&chkE B c e x
  | .comp t js it ifs elt,.ListComp y [⟨tgt,iter,cs,k⟩] sc _=>k==0&&chkS c sc js&&chkI B c it tgt iter&&wy iter&&(match yM tgt with
    | some xs=>decide ((xs++js.map (fun j=>c.N.getD j "")).Nodup)&&nT t==xs.length&&tIs t==ϝ xs.length&&chkT (inner c sc xs js) t tgt&&chkE B (inner c sc xs js) elt y&&uE B (inner c sc xs js) ifs cs&&decide (ifs.length<=1)
    | none=>false)
  | _,_=>false
noncomputable def chkI (B:Tb) (c:Cc):E->Expr->Expr->Bool
 | .seq e,_,x=>chkE B c e x
 | .keys e,_,x=>chkE B c e x
 | .enum e,tg,.Call (.Name f _) [y] [] _=>zdH tg&&f==("enumerate":Str)&&B.bare.contains f&&gloK (c.names.lookup f)&&chkE B c e y&&notStar y
 | .rng none hi,_,.Call (.Name f _) [y] [] _=>f==("range":Str)&&B.bare.contains f&&gloK (c.names.lookup f)&&chkE B c hi y&&notStar y
 | .rng (some lo) hi,_,.Call (.Name f _) [x,y] [] _=>f==("range":Str)&&B.bare.contains f&&gloK (c.names.lookup f)&&chkE B c lo x&&notStar x&&chkE B c hi y&&notStar y
 | _,_,_=>false
noncomputable def zQ (B:Tb) (c:Cc):List E->List Expr->Bool
 | [],[]=>true
 | e::es,x::xs=>chkE B c e x&&notStar x&&zQ B c es xs
 | _,_=>false
noncomputable def uE (B:Tb) (c:Cc):List E->List Expr->Bool
 | [],[]=>true
 | e::es,x::xs=>chkE B c e x&&uE B c es xs
 | _,_=>false
noncomputable def chkO (B:Tb) (c:Cc):Option E->Option Expr->Bool
 | none,none=>true
 | some e,some x=>chkE B c e x
 | _,_=>false
noncomputable def XJ (B:Tb) (c:Cc):List E->List bD->Bool
 | [],[]=>true
 | e::es,⟨some _,x,_⟩::xs=>chkE B c e x&&XJ B c es xs
 | _,_=>false
end
theorem Zz {x:ϙ}{Q:ϙ->Prop}(h:Υ x.ctorIdx 0=true) (f:∀ a0 a1 a2,Q (.BoolOp a0 a1 a2)):Q x:=by
 revert h;cases x with
 | BoolOp a0 a1 a2=>exact fun _=>f a0 a1 a2
 | _=>exact nobE
theorem ze7 {x:ϙ}{Q:ϙ->Prop}(h:Υ x.ctorIdx 2=true) (f:∀ a0 a1 a2 a3,Q (.BinOp a0 a1 a2 a3)):Q x:=by
 revert h;cases x with
 | BinOp a0 a1 a2 a3=>exact fun _=>f a0 a1 a2 a3
 | _=>exact nobE
theorem zae {x:ϙ}{Q:ϙ->Prop}(h:Υ x.ctorIdx 3=true) (f:∀ a0 a1 a2,Q (.UnaryOp a0 a1 a2)):Q x:=by
 revert h;cases x with
 | UnaryOp a0 a1 a2=>exact fun _=>f a0 a1 a2
 | _=>exact nobE
theorem ze6 {x:ϙ}{Q:ϙ->Prop}(h:Υ x.ctorIdx 5=true) (f:∀ a0 a1 a2 a3,Q (.IfExp a0 a1 a2 a3)):Q x:=by
 revert h;cases x with
 | IfExp a0 a1 a2 a3=>exact fun _=>f a0 a1 a2 a3
 | _=>exact nobE
theorem zhT {x:ϙ}{Q:ϙ->Prop}(h:Υ x.ctorIdx 6=true) (f:∀ a0 a1 a2,Q (.Dict a0 a1 a2)):Q x:=by
 revert h;cases x with
 | Dict a0 a1 a2=>exact fun _=>f a0 a1 a2
 | _=>exact nobE
theorem qu {x:ϙ}{Q:ϙ->Prop}(h:Υ x.ctorIdx 8=true) (f:∀ a0 a1 a2 a3,Q (.ListComp a0 a1 a2 a3)):Q x:=by
 revert h;cases x with
 | ListComp a0 a1 a2 a3=>exact fun _=>f a0 a1 a2 a3
 | _=>exact nobE
theorem YM {x:ϙ}{Q:ϙ->Prop}(h:Υ x.ctorIdx 15=true) (f:∀ a0 a1 a2 a3,Q (.Compare a0 a1 a2 a3)):Q x:=by
 revert h;cases x with
 | Compare a0 a1 a2 a3=>exact fun _=>f a0 a1 a2 a3
 | _=>exact nobE
theorem vp {x:ϙ}{Q:ϙ->Prop}(h:Υ x.ctorIdx 16=true) (f:∀ a0 a1 a2 a3,Q (.Call a0 a1 a2 a3)):Q x:=by
 revert h;cases x with
 | Call a0 a1 a2 a3=>exact fun _=>f a0 a1 a2 a3
 | _=>exact nobE
theorem qw {x:ϙ}{Q:ϙ->Prop}(h:Υ x.ctorIdx 19=true) (f:∀ a0 a1 a2,Q (.Constant a0 a1 a2)):Q x:=by
 revert h;cases x with
 | Constant a0 a1 a2=>exact fun _=>f a0 a1 a2
 | _=>exact nobE
theorem W3 {x:ϙ}{Q:ϙ->Prop}(h:Υ x.ctorIdx 20=true) (f:∀ a0 a1 a2,Q (.Attribute a0 a1 a2)):Q x:=by
 revert h;cases x with
 | Attribute a0 a1 a2=>exact fun _=>f a0 a1 a2
 | _=>exact nobE
theorem jt {x:ϙ}{Q:ϙ->Prop}(h:Υ x.ctorIdx 21=true) (f:∀ a0 a1 a2,Q (.Subscript a0 a1 a2)):Q x:=by
 revert h;cases x with
 | Subscript a0 a1 a2=>exact fun _=>f a0 a1 a2
 | _=>exact nobE
theorem ww {x:ϙ}{Q:ϙ->Prop}(h:Υ x.ctorIdx 23=true) (f:∀ a0 a1,Q (.Name a0 a1)):Q x:=by
 revert h;cases x with
 | Name a0 a1=>exact fun _=>f a0 a1
 | _=>exact nobE
theorem ofList {x:ϙ}{Q:ϙ->Prop}(h:Υ x.ctorIdx 24=true) (f:∀ a0 a1,Q (.List a0 a1)):Q x:=by
 revert h;cases x with
 | List a0 a1=>exact fun _=>f a0 a1
 | _=>exact nobE
theorem ze3 {x:ϙ}{Q:ϙ->Prop}(h:Υ x.ctorIdx 25=true) (f:∀ a0 a1 a2,Q (.Tuple a0 a1 a2)):Q x:=by
 revert h;cases x with
 | Tuple a0 a1 a2=>exact fun _=>f a0 a1 a2
 | _=>exact nobE
theorem ze4 {x:ϙ}{Q:ϙ->Prop}(h:Υ x.ctorIdx 26=true) (f:∀ a0 a1 a2 a3,Q (.Slice a0 a1 a2 a3)):Q x:=by
 revert h;cases x with
 | Slice a0 a1 a2 a3=>exact fun _=>f a0 a1 a2 a3
 | _=>exact nobE
theorem YL {x:aH}{Q:aH->Prop}(h:Υ x.ctorIdx 5=true) (f:∀ a0 a1 a2,Q (.Assign a0 a1 a2)):Q x:=by
 revert h;cases x with
 | Assign a0 a1 a2=>exact fun _=>f a0 a1 a2
 | _=>exact nobE
theorem W0 {x:aH}{Q:aH->Prop}(h:Υ x.ctorIdx 24=true) (f:∀ a0 a1,Q (.Expr a0 a1)):Q x:=by
 revert h;cases x with
 | Expr a0 a1=>exact fun _=>f a0 a1
 | _=>exact nobE
theorem YK {x:aH}{Q:aH->Prop}(h:Υ x.ctorIdx 3=true) (f:∀ a0 a1,Q (.Return a0 a1)):Q x:=by
 revert h;cases x with
 | Return a0 a1=>exact fun _=>f a0 a1
 | _=>exact nobE
theorem zki {x:aH}{Q:aH->Prop}(h:Υ x.ctorIdx 12=true) (f:∀ a0 a1 a2 a3,Q (.If a0 a1 a2 a3)):Q x:=by
 revert h;cases x with
 | If a0 a1 a2 a3=>exact fun _=>f a0 a1 a2 a3
 | _=>exact nobE
theorem zcj {x:aH}{Q:aH->Prop}(h:Υ x.ctorIdx 11=true) (f:∀ a0 a1 a2 a3,Q (.While a0 a1 a2 a3)):Q x:=by
 revert h;cases x with
 | While a0 a1 a2 a3=>exact fun _=>f a0 a1 a2 a3
 | _=>exact nobE
theorem zhS {x:aH}{Q:aH->Prop}(h:Υ x.ctorIdx 9=true) (f:∀ a0 a1 a2 a3 a4,Q (.For a0 a1 a2 a3 a4)):Q x:=by
 revert h;cases x with
 | For a0 a1 a2 a3 a4=>exact fun _=>f a0 a1 a2 a3 a4
 | _=>exact nobE
theorem ze5 {x:aH}{Q:aH->Prop}(h:Υ x.ctorIdx 25=true) (f:∀ a0,Q (.Pass a0)):Q x:=by
 revert h;cases x with
 | Pass a0=>exact fun _=>f a0
 | _=>exact nobE
theorem zck {x:aH}{Q:aH->Prop}(h:Υ x.ctorIdx 26=true) (f:∀ a0,Q (.Break a0)):Q x:=by
 revert h;cases x with
 | Break a0=>exact fun _=>f a0
 | _=>exact nobE
theorem W2 {x:aH}{Q:aH->Prop}(h:Υ x.ctorIdx 27=true) (f:∀ a0,Q (.Continue a0)):Q x:=by
 revert h;cases x with
 | Continue a0=>exact fun _=>f a0
 | _=>exact nobE
structure EnvO (Γ:Gm) (Hz H:Hp) (g:G) (ρ:List Slot) (σ:L2.St):Prop where
 len:ρ.length=σ.length
 sh:∀ (i:Nat) (d:D),ρ[i]?=some (.sh d)->∃ v,σ[i]?=some (some v)/\Has Γ g d v
 ow:∀ (i:Nat) (d:D),ρ[i]?=some (.ow d)->∃ a,σ[i]?=some (some (.ref a))/\Hz a=none/\g.R a=none/\a ∉ g.α/\zU Γ H g a d/\Vt d=false
 inj:∀ (i j:Nat) (d e:D) (a:Addr),ρ[i]?=some (.ow d)->ρ[j]?=some (.ow e)->σ[i]?=some (some (.ref a))->σ[j]?=some (some (.ref a))->i=j
section
variable {Γ:Gm}{H H':Hp}{g g':G}{S:Store}{a:Addr}
theorem WOk.zO {o:HO}(w:WOk Γ H g S) (hr:g.R a=none) (ha:a ∉ g.α):WOk Γ (upd H a o) g S where
 rh:=fun b u q=>by
  have e:=w.rh b u q;have:b≠a:=by rintro rfl;rw [hr] at q;cases q
  rw [zj this];exact e
 len:=w.len
 nd:=w.nd
 off:=w.off
 cell:=fun k c b h1 h2=>(w.cell k c b h1 h2).mono (Le.refl g) fun o e=>by
  have:b≠a:=by rintro rfl;exact ha (ϣ h2)
  rw [zj this];exact e
theorem Step.zO {o:HO}(s:Step H g H' g') (h:H a=none):Step H g (upd H' a o) g' where
 le:=s.le
 fr:=fun b u e n=>by rw [zj (zz e h)];exact s.fr b u e n
 ex:=fun b u e=>by rw [zj (zz e h)];exact s.ex b u e
 na:=s.na
 nr:=s.nr
theorem Step.kept {o:HO}(s:Step H g H' g') (h:H a=some o) (hr:g.R a=none) (ha:a ∉ g.α) (hm:MutF o:=by trivial):H' a=some o/\g'.R a=none/\a ∉ g'.α:=by
 refine ⟨s.fr a o h ha,?_,fun m=>?_⟩
 ·cases q:g'.R a with
  | none=>rfl
  | some u=>
   rcases s.nr a (by rw [q];simp) with z | z | z | ⟨xs,z⟩
   ·exact absurd hr z
   ·rw [h] at z;cases z
   ·exact absurd z ha
   ·rw [h] at z;cases z;exact hm.elim
 ·rcases s.na a m with z | z
  ·exact ha z
  ·rw [h] at z;cases z
end
section
variable {Γ:Gm}{Hz H H':Hp}{g g':G}{S:Store}{ρ:List Slot}{σ:L2.St}
theorem zm (env:EnvO Γ Hz H g ρ σ) (st:Step H g H' g'):EnvO Γ Hz H' g' ρ σ:=by
 refine ⟨env.len,fun i d h=>?_,fun i d h=>?_,env.inj⟩
 ·obtain ⟨v,h1,h2⟩:=env.sh i d h;exact ⟨v,h1,h2.mono st.le⟩
 ·obtain ⟨a,h1,h2,h3,h4,h5,h6⟩:=env.ow i d h;obtain ⟨o,ho,hm⟩:=h5.kO;obtain ⟨k1,k2,k3⟩:=st.kept ho h3 h4 hm;exact ⟨a,h1,h2,k2,k3,h5.mono st.le fun o' z=>by rw [ho] at z;cases z;exact k1,h6⟩
def VN (Γ:Gm) (Hb:Hp) (x:Vl) (v:V) (H:Hp) (g:G):Prop:=match x.2 with
 | .st=>Has Γ g x.1 v
 | .fr=>∃ a,v=.ref a/\Hb a=none/\g.R a=none/\a ∉ g.α/\zU Γ H g a x.1
 | .bo=>∃ a,v=.ref a/\g.R a=none/\a ∉ g.α/\zU Γ H g a x.1
theorem VN.of {Hb:Hp}{d:D}{fr:Bool}{v:V}(h:VOk Γ Hb d fr v H g):VN Γ Hb (ofB (d,fr)) v H g:=by cases fr <;> exact h
theorem VN.back {H1:Hp}{g1:G}{x:Vl}{v:V}(h:VN Γ H1 x v H' g') (s:Step H g H1 g1):VN Γ H x v H' g':=by
 obtain ⟨d,k⟩:=x;cases k with
 | fr=>
  obtain ⟨a,e,h0,r⟩:=h;exact ⟨a,e,s.Ux h0,r⟩
 | _=>exact h
theorem VN.step {Hb:Hp}{x:Vl}{v:V}(h:VN Γ Hb x v H g) (s:Step H g H' g'):VN Γ Hb x v H' g':=by
 obtain ⟨d,k⟩:=x;cases k with
 | st=>exact (show Has Γ g d v from h).mono s.le
 | fr=>
  obtain ⟨a,e,h0,h1,h2,h3⟩:=h;obtain ⟨o,ho,hm⟩:=h3.kO;obtain ⟨k1,k2,k3⟩:=s.kept ho h1 h2 hm;exact ⟨a,e,h0,k2,k3,h3.mono s.le fun o' q=>by rw [ho] at q;cases q;exact k1⟩
 | bo=>
  obtain ⟨a,e,h1,h2,h3⟩:=h;obtain ⟨o,ho,hm⟩:=h3.kO;obtain ⟨k1,k2,k3⟩:=s.kept ho h1 h2 hm;exact ⟨a,e,k2,k3,h3.mono s.le fun o' q=>by rw [ho] at q;cases q;exact k1⟩
theorem Js {a:Addr}{d:D}(hr:g.R a=none) (h:zU Γ H g a d):Rdb Γ H g (zE S d) (.ref a):=by
 cases d with
 | lst ds=>obtain ⟨vs,h1,h2⟩:=h;exact ⟨a,vs,rfl,h1,h2⟩
 | dK ks ds=>obtain ⟨vs,h1,h3,h2⟩:=h;exact ⟨a,vs,rfl,h1,h3,h2⟩
 | dT ks ds=>obtain ⟨vs,h1,h3,h2⟩:=h;exact ⟨a,vs,rfl,h1,h3,h2⟩
 | ref=>obtain ⟨o,h1,_⟩:=h;rw [hr] at h1;cases h1
 | ins=>exact ⟨a,rfl⟩
 | _=>exact h.elim
theorem VN.rdb {Hb:Hp}{x:Vl}{v:V}(h:VN Γ Hb x v H g) (w:WOk Γ H g S):Rdb Γ H g (zE S x.1) v:=by
 obtain ⟨d,k⟩:=x;cases k with
 | st=>exact zdg w h
 | fr=>obtain ⟨a,rfl,_,h1,_,h3⟩:=h;exact Js h1 h3
 | bo=>obtain ⟨a,rfl,h1,_,h3⟩:=h;exact Js h1 h3
theorem VN.sc {Hb:Hp}{d:D}{k:Kd}{v:V}(h:VN Γ Hb (d,k) v H g) (hc:∀ a,¬ zU Γ H g a d):Has Γ g d v:=by
 cases k with
 | st=>exact h
 | fr=>obtain ⟨a,_,_,_,_,h3⟩:=h;exact (hc a h3).elim
 | bo=>obtain ⟨a,_,_,_,h3⟩:=h;exact (hc a h3).elim
theorem VN.keep {x:Vl}{v:V}{Q:D->Prop}(h:VN Γ H x v H' g') (st:Step H g H' g') (w:WOk Γ H' g' S) (k:EV.keep x Q):∃ g2,Step H g H' g2/\WOk Γ H' g2 S/\Has Γ g2 x.1 v/\Q x.1:=by
 obtain ⟨d,kk⟩:=x;cases kk with
 | st=>exact ⟨g',st,w,h,k⟩
 | fr=>
  obtain ⟨g2,a,b,c,_⟩:=freeze (fr:=true) st w h rfl;exact ⟨g2,a,b,c,k⟩
 | bo=>exact k.elim
end
def TX (Γ:Gm) (cf:Cf) (e:E):TE:=fun σ H Q=>∃ ρ S V g Hz,wpE cf ρ e V S/\WOk Γ H g S/\EnvO Γ Hz H g ρ σ/\∀ x v H' g' S',Step H g H' g'->WOk Γ H' g' S'->VN Γ H x v H' g'->V x S'->Q v H'
def TB (Γ:Gm) (cf:Cf) (e:E):TT:=fun σ H Q=>∃ ρ S V g Hz,wpE cf ρ e V S/\WOk Γ H g S/\EnvO Γ Hz H g ρ σ/\∀ x H' g' S',Step H g H' g'->WOk Γ H' g' S'->V x S'->isB x.1 fun b=>Q b H'
def TXs (Γ:Gm) (cf:Cf) (es:List E):TA:=fun σ H Q=>∃ ρ S W g Hz,wpEs cf ρ es W S/\WOk Γ H g S/\EnvO Γ Hz H g ρ σ/\∀ ds vs H' g' S',Step H g H' g'->WOk Γ H' g' S'->Hass Γ g' ds vs->W ds S'->Q vs H'
def TXo (Γ:Gm) (cf:Cf) (o:Option E):TO:=fun σ H Q=>∃ ρ S W g Hz,wpO cf ρ o W S/\WOk Γ H g S/\EnvO Γ Hz H g ρ σ/\∀ i H' g' S',Step H g H' g'->WOk Γ H' g' S'->W i S'->Q i H'
section
variable {Γ:Gm}{cf:Cf}{σ:L2.St}{H:Hp}{P:Prop}
theorem goX {e:E}{Q:VK}(h:TX Γ cf e σ H Q) (f:∀ ρ S V g Hz,wpE cf ρ e V S->WOk Γ H g S->EnvO Γ Hz H g ρ σ->(∀ x v H' g' S',Step H g H' g'->WOk Γ H' g' S'->VN Γ H x v H' g'->V x S'->Q v H')->P):P:=
 let ⟨ρ,S,V,g,Hz,a,b,c,d⟩:=h;f ρ S V g Hz a b c d
theorem goB {e:E}{Q} (h:TB Γ cf e σ H Q) (f:∀ ρ S V g Hz,wpE cf ρ e V S->WOk Γ H g S->EnvO Γ Hz H g ρ σ->(∀ x H' g' S',Step H g H' g'->WOk Γ H' g' S'->V x S'->isB x.1 fun b=>Q b H')->P):P:=
 let ⟨ρ,S,V,g,Hz,a,b,c,d⟩:=h;f ρ S V g Hz a b c d
theorem goS {es:List E}{Q} (h:TXs Γ cf es σ H Q) (f:∀ ρ S W g Hz,wpEs cf ρ es W S->WOk Γ H g S->EnvO Γ Hz H g ρ σ->(∀ ds vs H' g' S',Step H g H' g'->WOk Γ H' g' S'->Hass Γ g' ds vs->W ds S'->Q vs H')->P):P:=
 let ⟨ρ,S,V,g,Hz,a,b,c,d⟩:=h;f ρ S V g Hz a b c d
theorem goO {o:Option E}{Q} (h:TXo Γ cf o σ H Q) (f:∀ ρ S W g Hz,wpO cf ρ o W S->WOk Γ H g S->EnvO Γ Hz H g ρ σ->(∀ i H' g' S',Step H g H' g'->WOk Γ H' g' S'->W i S'->Q i H')->P):P:=
 let ⟨ρ,S,V,g,Hz,a,b,c,d⟩:=h;f ρ S V g Hz a b c d
end
def rAny (X:Cx) (f:δ->δ->Sem δ):R2:=fun x y H Q=>∃ r,OpR X f r/\r x y H Q
theorem WY {X:Cx}{f:δ->δ->Sem δ}:OpR X f (rAny X f):=fun pJ s σ H x y v u Q I rx ry ⟨_,h,q⟩=>h pJ s σ H x y v u Q I rx ry q
def zii (X:Cx):R2:=fun x y H Q=>∃ r,IxR X r/\r x y H Q
theorem zih {X:Cx}:IxR X (zii X):=fun a b pJ s σ H x y v u Q I rx ry ⟨_,h,q⟩=>h a b pJ s σ H x y v u Q I rx ry q
def zjs (X:Cx):V->Option Int->Option Int->Hp->VK->Prop:=fun x l u H Q=>∃ r,SlR X r/\r x l u H Q
theorem zgN {X:Cx}:SlR X (zjs X):=fun pJ s σ H x v vl vu lo hi sl Q I rx hs pl pu ⟨_,h,q⟩=>h pJ s σ H x v vl vu lo hi sl Q I rx hs pl pu q
def zfU (X:Cx) (f:δ):List V->Hp->VK->Prop:=fun xs H Q=>∃ r,z9 X f r/\r xs H Q
theorem XF {X:Cx}{f:δ}:z9 X f (zfU X f):=fun pJ s σ H xs us Q I rv ⟨_,h,q⟩=>h pJ s σ H xs us Q I rv q
section
variable {X:Cx}{Γ:Gm}{cf:Cf}{x y z:Expr}{pos p:Pos}{a b c:E}
theorem zjx {i:Nat}{n:Str}(hN:X.N[i]?=some n) (hv:Vis X.env.scope n) (hd:(n==("__debug__":Str))=false) (hcd:(n==("__classdict__":Str))=false):PE X (.Name n pos) (TX Γ cf (.var i)):=by
 refine (qp hN hv hd hcd).imp fun σ H Q h0=>goX h0 fun ρ S V g Hz hw w env k=>?_
 have hw:sel ρ[i]? (fun d=>V (d,.st) S) (fun d=>V (d,.bo) S):=hw;cases e:ρ[i]? with
 | none=>rw [e] at hw;exact hw.elim
 | some s=>
  rw [e] at hw;cases s with
  | no=>exact hw.elim
  | sh d=>
   obtain ⟨v,h1,h2⟩:=env.sh i d e;exact ⟨v,h1,k (d,.st) v H g S (Step.refl H g) w h2 hw⟩
  | ow d=>
   obtain ⟨a,h1,h2,h3,h4,h5,_⟩:=env.ow i d e;exact ⟨_,h1,k (d,.bo) _ H g S (Step.refl H g) w ⟨a,rfl,h3,h4,h5⟩ hw⟩
theorem zg8 {t:V}{d:D}{e:E}(h:PE X x (tC t)) (hd:∀ g,Has Γ g d t) (he:∀ ρ V S,wpE cf ρ e V S->V (d,.st) S):PE X x (TX Γ cf e):=h.imp fun σ H Q h0=>goX h0 fun ρ S V g Hz hw w env k=>k (d,.st) _ H g S (Step.refl H g) w (hd g) (he _ _ _ hw)
theorem two {G1:V->V->Hp->Prop}{σ:L2.St}{H:Hp}{ρ:List Slot}{S:Store}{g:G}{Hz:Hp}{W:Vl->Vl->Store->Prop}(hw:wpE cf ρ a (fun x S1=>wpE cf ρ b (fun y S2=>W x y S2) S1) S) (w:WOk Γ H g S) (env:EnvO Γ Hz H g ρ σ)
  (k:∀ x y u v H' g' S',Step H g H' g'->WOk Γ H' g' S'->VN Γ H x u H' g'->VN Γ H y v H' g'->W x y S'->G1 u v H'):TX Γ cf a σ H fun u H1=>TX Γ cf b σ H1 fun v H2=>G1 u v H2:=
 ⟨ρ,S,_,g,Hz,hw,w,env,fun x u H1 g1 S1 st1 w1 v1 h1=>⟨ρ,S1,_,g1,Hz,h1,w1,zm env st1,fun y v H2 g2 S2 st2 w2 v2 h2=>k x y u v H2 g2 S2 (st1.trans st2) w2 (v1.step st2) (v2.back st1) h2⟩⟩
theorem zjY {op:bZ}(hK:X.K=Γ.K) (ha:PE X x (TX Γ cf a)) (hb:PE X y (TX Γ cf b)):PE X (.BinOp x op y pos) (TX Γ cf (.bin op a b)):=
 (zkb WY ha hb).imp fun σ H Q h0=>goX h0 fun ρ S V g Hz hw w env k=>two hw w env fun x y u v H' g' S' st w' vx vy h=>by
  have h:opt (opD op (zE S' x.1) (zE S' y.1)) (fun p=>V (ofB p) S'):=h;cases eo:opD op (zE S' x.1) (zE S' y.1) with
  | none=>rw [eo] at h;exact h.elim
  | some p=>
   rw [eo] at h;obtain ⟨r,h1,h2⟩:=zhG (X:=X) hK eo;exact ⟨r,h1,h2 S' H' g' u v Q w' (vx.rdb w') (vy.rdb w') fun t H2 g2 st2 _ w2 vo=>k _ t H2 g2 S' (st.trans st2) w2 ((VN.of vo).back st) h⟩
theorem cmp2 {op:iT}{u v:V}{dx dy:Vl}{Hb H':Hp}{g':G}{S':Store}{Q:VK}{T:Bool->Prop}(hK:X.K=Γ.K) (hu:X.A.units+61 < ϥ) (w':WOk Γ H' g' S') (vx:VN Γ Hb dx u H' g') (vy:VN Γ Hb dy v H' g') (h:opt (cmpD op (zE S' dx.1) (zE S' dy.1)) T)
  (k:∀ r H2 g2,Step H' g' H2 g2->WOk Γ H2 g2 S'->T r->Q (.bl r) H2):rAny X (Ϗ op) u v H' Q:=by
 cases eo:cmpD op (zE S' dx.1) (zE S' dy.1) with
 | none=>rw [eo] at h;exact h.elim
 | some r=>
  rw [eo] at h;obtain ⟨r2,h1,h2⟩:=zfR (X:=X) hK hu eo;refine ⟨r2,h1,h2 S' H' g' u v Q w' (vx.rdb w') (vy.rdb w') fun t H2 g2 st2 _ w2 vo=>?_⟩;cases (show t=.bl r from vo);exact k r H2 g2 st2 w2 h
theorem zjV {op:iT}(hK:X.K=Γ.K) (hu:X.A.units+61 < ϥ) (ha:PE X x (TX Γ cf a)) (hb:PE X y (TX Γ cf b)) (hm:mV op y=false):PE X (.Compare x [op] [y] pos) (TX Γ cf (.cmp op a b))/\PT X (.Compare x [op] [y] pos) (TB Γ cf (.cmp op a b)):=
 ⟨(zeS WY ha hb hm).imp fun σ H Q h0=>goX h0 fun ρ S V g Hz hw w env k=>two hw w env fun x y u v H' g' S' st w' vx vy h=>cmp2 hK hu w' vx vy h fun r H2 g2 st2 w2 h=>k (.bl r,.st) _ H2 g2 S' (st.trans st2) w2 rfl h,
 (zeG WY ha hb hm).imp fun σ H Q h0=>goB h0 fun ρ S V g Hz hw w env k=>two hw w env fun x y u v H' g' S' st w' vx vy h=>cmp2 hK hu w' vx vy h fun r H2 g2 st2 w2 h=>⟨r,rfl,k (.bl r,.st) H2 g2 S' (st.trans st2) w2 h⟩⟩
theorem chn3 {o1 o2:iT}{σ:L2.St}{H:Hp}{Q:VK}{ρ:List Slot}{S:Store}{g:G}{Hz:Hp}{V:Po}(hK:X.K=Γ.K) (hu:X.A.units+61 < ϥ) (hw:wpE cf ρ (.chn o1 o2 a b c) V S) (w:WOk Γ H g S) (env:EnvO Γ Hz H g ρ σ)
  (k:∀ r H' g' S',Step H g H' g'->WOk Γ H' g' S'->V (.bl r,.st) S'->Q (.bl r) H'):Qc (rAny X (Ϗ o1)) (rAny X (Ϗ o2)) (TX Γ cf a) (TX Γ cf b) (TX Γ cf c) σ H Q:=
 two hw w env fun x y u v H' g' S' st w' vx vy h=>cmp2 hK hu w' vx vy h fun r H2 g2 st2 w2 h=>⟨r,rfl,by
  cases r with
  | false=>exact iteF (k false H2 g2 S' (st.trans st2) w2 h)
  | true=>exact iteT ⟨ρ,S',_,g2,Hz,h,w2,zm env (st.trans st2),fun z t H3 g3 S3 st3 w3 vz h3=>cmp2 hK hu w3 (vy.step (st2.trans st3)) (vz.back (st.trans st2)) h3 fun r H4 g4 st4 w4 h4=>k r H4 g4 S3 (((st.trans st2).trans st3).trans st4) w4 h4⟩⟩
theorem zjW {o1 o2:iT}(hK:X.K=Γ.K) (hu:X.A.units+61 < ϥ) (ha:PE X x (TX Γ cf a)) (hb:PE X y (TX Γ cf b)) (hc:PE X z (TX Γ cf c)) (hm:lastMarks [o1,o2] [y,z]=false):PE X (.Compare x [o1,o2] [y,z] pos) (TX Γ cf (.chn o1 o2 a b c))/\PT X (.Compare x [o1,o2] [y,z] pos) (TB Γ cf (.chn o1 o2 a b c)):=
 ⟨(zce WY WY ha hb hc hm).imp fun σ H Q h0=>goX h0 fun ρ S V g Hz hw w env k=>chn3 hK hu hw w env fun r H' g' S' st w' h=>k (.bl r,.st) _ H' g' S' st w' rfl h,
 (zb2 WY WY ha hb hc hm).imp fun σ H Q h0=>goB h0 fun ρ S V g Hz hw w env k=>chn3 hK hu hw w env fun r H' g' S' st w' h=>⟨r,rfl,k _ H' g' S' st w' h⟩⟩
theorem vA {d:D}{Q:Bool->Prop}(h:isB d Q):∃ b,d=.bl b/\Q b:=by
 cases d with
 | bl b=>exact ⟨b,rfl,h⟩
 | _=>exact h.elim
theorem zir {d:D}{Q:Int->Prop}(h:isZ d Q):∃ b,d=.int b/\Q b:=by
 cases d with
 | int b=>exact ⟨b,rfl,h⟩
 | _=>exact h.elim
theorem VN.bl {Hb H:Hp}{g:G}{x:Vl}{v:V}{Q:Bool->Prop}(h:VN Γ Hb x v H g) (k:isB x.1 Q):∃ b,v=.bl b/\Q b:=by obtain ⟨d,kk⟩:=x;obtain ⟨b,rfl,q⟩:=vA k;exact ⟨b,h.sc fun _ z=>z.elim,q⟩
theorem VN.int {Hb H:Hp}{g:G}{x:Vl}{v:V}{Q:Int->Prop}(h:VN Γ Hb x v H g) (k:isZ x.1 Q):∃ b,v=.int b/\Q b:=by obtain ⟨d,kk⟩:=x;obtain ⟨b,rfl,q⟩:=zir k;exact ⟨b,h.sc fun _ z=>z.elim,q⟩
theorem zgQ (h:PE X x (TX Γ cf a)) (he:∀ whole,lV x X.env whole=(do let v <- whole;standAt x.pos;ig [v] (truthy v))):PT X x (TB Γ cf a):=
 (zhl h he).imp fun σ H Q h0=>goB h0 fun ρ S V g Hz hw w env k=>⟨ρ,S,_,g,Hz,hw,w,env,fun x v H' g' S' st w' vx h=>vx.bl (k x H' g' S' st w' h)⟩
theorem zg1 (h:PT X x (TB Γ cf a)):PT X (.UnaryOp .Not x pos) (TB Γ cf (.not a)):=
 (zhm h).imp fun σ H Q h0=>goB h0 fun ρ S V g Hz hw w env k=>⟨ρ,S,_,g,Hz,hw,w,env,fun x H' g' S' st w' h=>by
  obtain ⟨b,e,q⟩:=vA h;rw [e]
  exact k (.bl (!b),.st) H' g' S' st w' q⟩
theorem zjK (h:PE X x (TX Γ cf a)):PE X (.UnaryOp .Not x pos) (TX Γ cf (.not a)):=
 (zhw h).imp fun σ H Q h0=>goX h0 fun ρ S V g Hz hw w env k=>⟨ρ,S,_,g,Hz,hw,w,env,fun x v H' g' S' st w' vx h=>by
  obtain ⟨b,e,q⟩:=vx.bl h
  exact ⟨b,e,k (.bl (!b),.st) _ H' g' S' st w' rfl q⟩⟩
theorem zbG {σ:L2.St}{H H1:Hp}{g g1:G}{Q:VK}{ρ:List Slot}{V:Po}{S1:Store}{Hz:Hp}(st:Step H g H1 g1) (w1:WOk Γ H1 g1 S1) (env:EnvO Γ Hz H g ρ σ) (k:∀ x v H' g' S',Step H g H' g'->WOk Γ H' g' S'->VN Γ H x v H' g'->V x S'->Q v H') (hw:wpE cf ρ a V S1):TX Γ cf a σ H1 Q:=
 ⟨ρ,S1,V,g1,Hz,hw,w1,zm env st,fun y u H2 g2 S2 st2 w2 vy hy=>k y u H2 g2 S2 (st.trans st2) w2 (vy.back st) hy⟩
theorem zbI {σ:L2.St}{H H1:Hp}{g g1:G}{Q:Bool->Hp->Prop}{ρ:List Slot}{V:Po}{S1:Store}{Hz:Hp}(st:Step H g H1 g1) (w1:WOk Γ H1 g1 S1) (env:EnvO Γ Hz H g ρ σ) (k:∀ x H' g' S',Step H g H' g'->WOk Γ H' g' S'->V x S'->isB x.1 fun b=>Q b H') (hw:wpE cf ρ a V S1):TB Γ cf a σ H1 Q:=
 ⟨ρ,S1,V,g1,Hz,hw,w1,zm env st,fun y H2 g2 S2 st2 w2 hy=>k y H2 g2 S2 (st.trans st2) w2 hy⟩
theorem zj2 {rest:List Expr}(ha:PE X x (TX Γ cf a)) (hb:PE X (.BoolOp .And (y::rest) pos) (TX Γ cf b)):PE X (.BoolOp .And (x::y::rest) pos) (TX Γ cf (.and a b)):=
 (zhB ha hb).imp fun σ H Q h0=>goX h0 fun ρ S V g Hz hw w env k=>⟨ρ,S,_,g,Hz,hw,w,env,fun x v H1 g1 S1 st w1 vx h=>by
  obtain ⟨r,e,q⟩:=vx.bl h;refine ⟨r,e,?_⟩;cases r with
  | false=>exact iteF (k (.bl false,.st) _ H1 g1 S1 st w1 rfl q)
  | true=>exact iteT (zbG st w1 env k q)⟩
theorem s_or {rest:List Expr}(ha:PE X x (TX Γ cf a)) (hb:PE X (.BoolOp .Or (y::rest) pos) (TX Γ cf b)):PE X (.BoolOp .Or (x::y::rest) pos) (TX Γ cf (.or a b)):=
 (zka ha hb).imp fun σ H Q h0=>goX h0 fun ρ S V g Hz hw w env k=>⟨ρ,S,_,g,Hz,hw,w,env,fun x v H1 g1 S1 st w1 vx h=>by
  obtain ⟨r,e,q⟩:=vx.bl h;refine ⟨r,e,?_⟩;cases r with
  | true=>exact iteT (k (.bl true,.st) _ H1 g1 S1 st w1 rfl q)
  | false=>exact iteF (zbG st w1 env k q)⟩
theorem PW.impE {t t':TT}(h:PW X x t) (i:∀ σ H Q,t' σ H Q->t σ H Q):PW X x t':=fun wh pJ s σ H Q I q=>h wh pJ s σ H Q I (i σ H Q q)
theorem zha {rest:List Expr}(ha:PT X x (TB Γ cf a)) (hb:PW X (.BoolOp .And (y::rest) pos) (TB Γ cf b)):PW X (.BoolOp .And (x::y::rest) pos) (TB Γ cf (.and a b)):=
 PW.impE (zhj ha hb) fun σ H Q h0=>goB h0 fun ρ S V g Hz hw w env k=>⟨ρ,S,_,g,Hz,hw,w,env,fun x H1 g1 S1 st w1 h=>by
  obtain ⟨r,e,q⟩:=vA h;rw [e];show (if r=true then _ else _)
  cases r with
  | false=>exact iteF (k (.bl false,.st) H1 g1 S1 st w1 q)
  | true=>exact iteT (zbI st w1 env k q)⟩
theorem zjJ {rest:List Expr}(ha:PT X x (TB Γ cf a)) (hb:PW X (.BoolOp .Or (y::rest) pos) (TB Γ cf b)):PW X (.BoolOp .Or (x::y::rest) pos) (TB Γ cf (.or a b)):=
 PW.impE (zj7 ha hb) fun σ H Q h0=>goB h0 fun ρ S V g Hz hw w env k=>⟨ρ,S,_,g,Hz,hw,w,env,fun x H1 g1 S1 st w1 h=>by
  obtain ⟨r,e,q⟩:=vA h;rw [e];show (if r=true then _ else _)
  cases r with
  | true=>exact iteT (k (.bl true,.st) H1 g1 S1 st w1 q)
  | false=>exact iteF (zbI st w1 env k q)⟩
theorem zde {op:pF}(h:PT X x (TB Γ cf a)):PW X (.BoolOp op [x] pos) (TB Γ cf (.one a)):=by
 cases op with
 | And=>exact zeA h
 | Or=>exact zhh h
theorem zjO (hc:PT X x (TB Γ cf c)) (ha:PE X y (TX Γ cf a)) (hb:PE X z (TX Γ cf b)):PE X (.IfExp x y z pos) (TX Γ cf (.ite c a b)):=
 (zca hc ha hb).imp fun σ H Q h0=>goX h0 fun ρ S V g Hz hw w env k=>⟨ρ,S,_,g,Hz,hw,w,env,fun x H1 g1 S1 st w1 h=>by
  obtain ⟨r,e,q⟩:=vA h;rw [e];show (if r=true then _ else _)
  cases r with
  | true=>exact iteT (zbG st w1 env k q)
  | false=>exact iteF (zbG st w1 env k q)⟩
theorem zc (h:notStar x=true) (xs:List Expr) (env:Env):ϟ (x::xs) env=(false,eval x env)::ϟ xs env:=by cases x <;> first | rfl | cases h
theorem zg2:PA X [] (TXs Γ cf []):=xq.imp fun σ H Q h0=>goS h0 fun ρ S W g Hz hw w env k=>k [] [] H g S (Step.refl H g) w rfl hw
theorem args_cons {es:List E}{σ:L2.St}{H:Hp}{Q:List V->Hp->Prop}(h:TXs Γ cf (a::es) σ H Q):TX Γ cf a σ H fun v H1=>TXs Γ cf es σ H1 fun vs H2=>Q (v::vs) H2:=by obtain ⟨ρ,S,W,g,Hz,hw,w,env,k⟩:=h;refine ⟨ρ,S,_,g,Hz,hw,w,env,fun x v H1 g1 S1 st w1 vx h=>?_⟩;obtain ⟨g2,st2,w2,hx,q⟩:=vx.keep st w1 h;exact ⟨ρ,S1,_,g2,Hz,q,w2,zm env st2,fun ds vs H3 g3 S3 st3 w3 hs h3=>k (x.1::ds) _ H3 g3 S3 (st2.trans st3) w3 ⟨v,vs,rfl,hx.mono st3.le,hs⟩ h3⟩
theorem zdf {xs:List Expr}{es:List E}(hs:notStar x=true) (h1:PE X x (TX Γ cf a)) (h2:PA X xs (TXs Γ cf es)):PA X (x::xs) (TXs Γ cf (a::es)):=
 (yg h1 h2 (zc hs _ _)).imp fun σ H Q h=>args_cons h
theorem yr {r:Bool}{T:Prop}(h:tst r T False):r=true/\T:=by
 cases r with
 | true=>exact ⟨rfl,h⟩
 | false=>exact h.elim
theorem zX {α:Type}{o:Option α}{Q:α->Prop}(h:opt o Q):∃ a,o=some a/\Q a:=by
 cases o with
 | some a=>exact ⟨a,rfl,h⟩
 | none=>exact h.elim
theorem zjy {xs:List Expr}{es:List E}{kk:Nat}(h:PA X xs (TXs Γ cf es)):PE X (.Tuple xs kk pos) (TX Γ cf (.tup es)):=
 (zhu h).imp fun σ H Q h0=>goX h0 fun ρ S V g Hz hw w env k=>⟨ρ,S,_,g,Hz,hw,w,env,fun ds vs H1 g1 S1 st w1 hv h=>by
  obtain ⟨hf,q⟩:=yr h
  exact ⟨by rw [hv.len];exact yD hf,fun p hp=>vV (Q:=Q) w1 (fun v H2 g2 st2 _ w2 vo=>k (.tup ds,.st) v H2 g2 S1 (st.trans st2) w2 vo q) hv hp⟩⟩
theorem zjN {xs:List Expr}{es:List E}(h:PA X xs (TXs Γ cf es)):PE X (.List xs pos) (TX Γ cf (.lst es)):=
 (zhz h).imp fun σ H Q h0=>goX h0 fun ρ S V g Hz hw w env k=>⟨ρ,S,_,g,Hz,hw,w,env,fun ds vs H1 g1 S1 st w1 hv h=>by
  obtain ⟨hf,q⟩:=yr h
  exact ⟨by rw [hv.len];exact yD hf,fun p hp=>yI (Q:=Q) w1 (fun v H2 g2 st2 _ w2 vo=>k (.lst ds,.fr) v H2 g2 S1 (st.trans st2) w2 ((VN.of (fr:=true) vo).back st) q) hv hp⟩⟩
set_option tactic.hygienic true in
theorem zjz (hK:X.K=Γ.K) (hu:X.A.units+1 < ϥ) (ha:PE X x (TX Γ cf a)) (hb:PE X y (TX Γ cf b)) (hp:VP y):PE X (.Subscript x y pos) (TX Γ cf (.sub a b)):=
 (zkc zih ha hb hp).imp fun σ H Q h0=>goX h0 fun ρ S V g Hz hw w env k=>two (G1:=fun u v H'=>zii X u v H' Q) hw w env fun x y u v H' g' S' st w' vx vy h=>by
  obtain ⟨d,eo,q⟩:=zX h;obtain ⟨r,h1,h2⟩:=zig (X:=X) hK hu eo;have e:zE S' y.1=y.1:=by
   cases hy:y.1 with
   | ref n=>
    rw [hy] at eo;unfold subD at eo;split at eo <;> first | cases eo | (rename_i hh;cases hh) | skip
    all_goals (simp [vY,keyD] at eo)
   | _=>rfl
  have vb:=vy.rdb w';rw [e] at vb;exact ⟨r,h1,h2 S' H' g' u v Q w' (vx.rdb w') vb fun t H2 g2 st2 _ w2 vo=>k (d,.st) t H2 g2 S' (st.trans st2) w2 vo q⟩
theorem zjI:PO X none (TXo Γ cf none):=fun pJ s σ H Q I h0=>goO h0 fun ρ S W g Hz hw w env k=>zeM pJ s σ H Q I (k none H g S (Step.refl H g) w hw)
theorem s_po (h:PE X x (TX Γ cf a)):PO X (some x) (TXo Γ cf (some a)):=fun pJ s σ H Q I h0=>goO h0 fun ρ S W g Hz hw w env k=>zeL h pJ s σ H Q I ⟨ρ,S,_,g,Hz,hw,w,env,fun x v H1 g1 S1 st w1 vx h=>by
 obtain ⟨i,e,q⟩:=vx.int h
 exact ⟨i,e,k (some i) H1 g1 S1 st w1 q⟩⟩
theorem zjD {lo hi:Option Expr}{l u:Option E}{p2:Pos}(hK:X.K=Γ.K) (h:PE X x (TX Γ cf a)) (hl:PO X lo (TXo Γ cf l)) (hh:PO X hi (TXo Γ cf u)):PE X (.Subscript x (.Slice lo hi none p2) pos) (TX Γ cf (.slc a l u)):=
 (zb9 zgN h hl hh).imp fun σ H Q h0=>goX h0 fun ρ S V g Hz hw w env k=>⟨ρ,S,_,g,Hz,hw,w,env,fun x v H1 g1 S1 st1 w1 vx h1=>⟨ρ,S1,_,g1,Hz,h1,w1,zm env st1,fun i H2 g2 S2 st2 w2 h2=>⟨ρ,S2,_,g2,Hz,h2,w2,zm env (st1.trans st2),fun j H3 g3 S3 st3 w3 h3=>by
  obtain ⟨⟨d,fr⟩,eo,q⟩:=zX h3;obtain ⟨r,r1,r2⟩:=zgM (X:=X) (Γ:=Γ) hK eo;have st:=(st1.trans st2).trans st3
  exact ⟨r,r1,r2 S3 H3 g3 v Q w3 ((vx.step (st2.trans st3)).rdb w3) fun t H4 g4 st4 _ w4 vo=>k _ t H4 g4 S3 (st.trans st4) w4 ((VN.of vo).back st) q⟩⟩⟩⟩
end
end EV
namespace L2
open PySem PySem.Spec PyProof.Rows
noncomputable def cxG (X:Cx) (sc:eG) (cl:List (Str×Addr)) (xs:List Str) (js:List Nat) (C:Addr) (s3:ξ) (H3:Hp) (fp:List Addr):Cx:=
 { X with N:=xs++js.map (fun j=>X.N.getD j ""),sy:=s3,Hz:=H3,env:=compEnvC sc cl C X.env,outer:=X.stack,stack:=X.stack,ex:=fp,fn:=fun _=>false,pn:=[],xe:=fun _ _=>False }
structure Kw (X:Cx) (sc:eG) (cl:List (Str×Addr)) (xs:List Str) (js:List Nat):Prop where
 clos:closureFor sc X.env=pure cl
 cell:∀ y∈sc.names,y.2≠.cell
 kind:sc.kind=.function
 names:∀ y∈sc.names,y.2=.local->sc.names.lookup y.1=some .local
 sub:∀ y c,cl.lookup y=some c->X.env.cells.lookup y=some c
 has:∀ y,((my sc X.env).names.lookup y=some .cell\/(my sc X.env).names.lookup y=some .free)->∃ c,cl.lookup y=some c
 free:∀ j∈js,∀ y,X.N[j]?=some y->Vis X.env.scope y/\X.env.kindOf y≠some .local/\(∃ c,cl.lookup y=some c)/\((my sc X.env).names.lookup y=some .cell\/(my sc X.env).names.lookup y=some .free)
 inN:∀ j∈js,j < X.N.length
section
variable {X:Cx}{pJ:List (Addr×Obj)}{σ:St}{H3:Hp}{s3:ξ}{sc:eG}{cl:List (Str×Addr)}{xs:List Str}{js:List Nat}{fp:List Addr}{h1:Heap}{o:Obj}{tk:Nat}
theorem zaJ (I:Inv X pJ σ H3 s3) (K:Kw X sc cl xs js) (hns:h1.Ns s3.heap.objs.size fun _=>none) (hsb:ϭ s3.heap.objs.size (s3.heap.push o) h1)
  (hfp:∀ b∈fp,FpOk X pJ H3 b/\b < s3.heap.objs.size):
  Inv (cxG X sc cl xs js s3.heap.objs.size s3 H3 fp) [] (Ϸ xs.length none++rows σ js) H3 { s3 with heap:=h1,toks:=tk }:=by
 have kept:∀ b u,s3.heap.get? b=some u->h1.get? b=some u:=fun b u e=>(hsb.2 b (ϋ (Ε e))).trans (θ _ e)
 refine ⟨⟨I.ok.mod,K.kind,I.ok.glob,I.ok.blt,χ _,fun y z c e1 e2=>I.ok.inj y z c (K.sub _ _ e1) (K.sub _ _ e2),fun y hy=>K.has y hy,fun y c hf=>absurd (show false=true from hf) Ω,I.ok.hd,I.ok.frames,.inl rfl,
  fun b hb=>⟨ϋ (hfp b hb).2,fun y c e=>(hfp b hb).1.2.2.2.2.1 y c (K.sub _ _ e)⟩,I.bs,Ϩ I.ok.bsz I.sz,fun b o' e hb=>?_,fun b hb z=>?_,I.stack,I.Zk⟩,
  rfl,I.bare,Un.kept kept,⟨_,hns,fun i y v e1 e2 e3=>?_⟩,fun y c e=>?_,I.hok.fresh (χ _),fun y c e=>I.freeC y c (K.sub _ _ e),fun p hp=>absurd (show p∈([]:List (Addr×Obj)) from hp) (by simp),I.hok.kept kept,?_⟩
 ·rcases (hfp b hb).1.2.2.2.1 with z | z
  ·exact I.ok.noex b o' e z
  ·exact absurd (ϔ (Ε e) (Ϩ I.ok.bsz z)) (bQ _)
 ·rcases υ.mp (I.Ub b z) with q | q
  ·exact (hfp b hb).1.2.1 q
  ·exact (hfp b hb).1.2.2.1 q
 ·by_cases hi:i < xs.length
  ·rw [ϕ (by simpa using hi),d8,if_pos hi] at e2;cases e2
  ·have hi':xs.length<=i:=by lia
   have e1':(js.map fun j=>X.N.getD j "")[i - xs.length]?=some y:=by have q:(xs++js.map fun j=>X.N.getD j "")[i]?=some y:=e1;rw [Ϧ hi'] at q;exact q
   have e2':(rows σ js)[i - xs.length]?=some (some v):=by rw [Ϧ (by simpa using hi')] at e2;simpa using e2
   generalize i - xs.length=i at e1' e2';rw [Ρ] at e1';unfold rows at e2';rw [Ρ] at e2';cases ej:js[i]? with
   | none=>rw [ej] at e1';cases e1'
   | some j=>
    rw [ej] at e1' e2';simp only [g8,o8] at e1' e2';have hj:=ϣ ej;have hlt:=K.inN j hj;have eN:X.N[j]?=some y:=by rw [<- e1',aZ,ψ hlt];rfl
    have eS:σ[j]?=some (some v):=by
     rw [aZ] at e2';cases q:σ[j]? with
     | none=>rw [q] at e2';cases e2'
     | some z=>rw [q] at e2';simpa using e2'
    obtain ⟨hv,hnl,⟨c,hc⟩,hk⟩:=K.free j hj y eN;obtain ⟨m,_,hl⟩:=I.loc;obtain ⟨u,r,l⟩:=hl j y v eN eS hv;refine ⟨u,r,?_⟩;rcases l with ⟨k,_⟩ | ⟨k,c',e',z⟩
    ·exact absurd k hnl
    ·have:c'=c:=ϐ (e'.symm.trans (K.sub _ _ hc));subst this;obtain ⟨oc,hoc,hd⟩:=z;exact .inr ⟨hk,c',hc,oc,kept _ _ hoc,hd⟩
 ·obtain ⟨v,oc,hoc,hd⟩:=I.cell y c (K.sub _ _ e);exact ⟨v,oc,kept _ _ hoc,hd⟩
 ·simp [rows,cxG]
def PTs (X:Cx) (ifs:List Expr) (t:TT):Prop:=
 ∀ (pJ:List (Addr×Obj)) (s:ξ) (σ:St) (H:Hp) (Q:Bool->Hp->Prop),Inv X pJ σ H s->t σ H Q ->
  Δ (Λ X.prog X.w) X.A (forIn ifs true fun c r=>if r=true then do let ok <- lV c X.env (eval c X.env);pure (aM ok) else pure (aM r)) (TP X pJ σ Q) X.xe s
theorem zeF:PTs X [] (fun _ H Q=>Q true H):=fun _ _ _ H _ I h=>wpAny_tests_nil ⟨H,I,h⟩
theorem zeE {c:Expr}{t:TT}(h:PT X c t):PTs X [c] t:=fun pJ s σ H Q I q=>wpAny_tests_one (h pJ s σ H Q I q)
def kY (n:Nat) (js:List Nat) (wi:TI) (tg:TG) (tt:TT) (te:TE) (Qe:Addr->Hp->Prop):St->Hp->Prop:=fun σ H=>wi σ H fun J H1=>∀ D,H1 D=none ->
 ∃ W:Nat->Nat->List V->St->Hp->Prop,(∃ m,W 0 m [] (Ϸ n none++rows σ js) (upd H1 D (.lst [])))/\∀ i m ys τ H2,W i m ys τ H2 ->
  (J.stop i H2/\Qe D H2)\/(J.go i H2/\∀ z H3,J.yld i H2 z H3->tg z τ H3 fun τ3 H3=>tt τ3 H3 fun b H4=>
   if b=true then te τ3 H4 fun v H5=>H5 D=some (.lst ys)/\ys.length < sizeLine/\∃ m',m' < m/\W (i+1) m' (ys++[v]) τ3 (upd H5 D (.lst (ys++[v])))
   else ∃ m',m' < m/\W (i+1) m' ys τ3 H4)
theorem XC {elt iter tgt:Expr}{ifs:List Expr}{pos pos':Pos}{wi:TI}{tg:TG}{tt:TT}{te:TE}{Qe:Addr->Hp->Prop}{use:Option (δ->Sem Unit)}{Q':VSP}{H:Hp}{s:ξ}(hc:X.calm=true) (K:Kw X sc cl xs js) (hi:PI X tgt iter wi)
  (hg:∀ C s3 H3 fp,PG (cxG X sc cl xs js C s3 H3 fp) tgt tg) (ht:∀ C s3 H3 fp,PTs (cxG X sc cl xs js C s3 H3 fp) ifs tt) (he:∀ C s3 H3 fp,PE (cxG X sc cl xs js C s3 H3 fp) elt te) (hs:∀ v,cu iter X.env v=pure v)
  (I:Inv X pJ σ H s) (h:kY xs.length js wi tg tt te Qe σ H)
  (fin:∀ (D C:Addr) (s6:ξ) (H5:Hp) (m:Str->Option δ),s6.heap.Ns C m->FpOk X pJ H5 C->(∀ h',ϭ C s6.heap h'->Inv X pJ σ H5 { s6 with heap:=h' })->Qe D H5->compPost (Λ X.prog X.w) X.A X.xe use Q' (.ref D) C (.ok .next) s6):
  Δ (Λ X.prog X.w) X.A (comprehension (.ListComp elt [⟨tgt,iter,ifs,0⟩] sc pos) sc X.env pos' (newList []) false (eval iter X.env) use) Q' X.xe s:=by
 refine wpAny_comprehension_free (use:=use) rfl hs K.clos K.kind K.names ?_;refine thn (hi pJ s σ H _ I h) fun v s1 h1=>thn h1 fun itv s2 h2=>?_
 obtain ⟨it,fp,tn,J,H2,e,I2,T,st2,f2,h⟩:=h2;subst e;have hD:H2 s2.heap.objs.size=none:=I2.fresh;obtain ⟨W,⟨m0,w0⟩,turn⟩:=h _ hD;have I3:Inv X pJ σ (upd H2 s2.heap.objs.size (.lst [])) { s2 with heap:=s2.heap.push { cls:=.type "list",data:=.seq ([]:List δ).toArray },toks:=s2.toks }:=I2.lnew (its:=[]) .nil (aW _);have fpLt:∀ b∈fp,b < s2.heap.objs.size:=fun b hb=>let ⟨o,e,_⟩:=T.obj _ _ st2 b hb;Ε e
 refine ϫ (wpAny_newFunctionEnv K.cell (by intro y hy;simp at hy) (fun h₁ hns₁ hsb₁=>?_) K.kind);generalize hs3:({ s2 with heap:=s2.heap.push { cls:=.type "list",data:=.seq ([]:List δ).toArray },toks:=s2.toks }:ξ)=s3 at I3;have hs3':({ s2 with heap:=s2.heap.push { cls:=.type "list",data:=.seq ([]:List δ).toArray } }:ξ)=s3:=hs3
 (try rw [hs3'] at hns₁);(try rw [hs3'] at hsb₁);(try rw [hs3'])
 have hsz:s3.heap.objs.size=s2.heap.objs.size+1:=by rw [<- hs3,eU]
 generalize hH3:upd H2 s2.heap.objs.size (.lst [])=H3 at I3 w0;have fp3:∀ b∈fp,FpOk X pJ H3 b/\b < s3.heap.objs.size:=fun b hb=>by refine ⟨⟨?_,(f2 b hb).2⟩,by rw [hsz];exact eY (fpLt b hb)⟩;rw [<- hH3,zj (ϋ (fpLt b hb))];exact (f2 b hb).1
 have I4:=zaJ (tk:=s3.toks+([]:List (Str×δ)).length) I3 K hns₁ hsb₁ fp3;have st4:tn 0 h₁:=T.keep _ _ _ st2 fun b hb o e=>(hsb₁.2 b (ϋ (fp3 b hb).2)).trans (θ _ (by rw [<- hs3];exact θ _ e))
 have stat:∀ {H':Hp}{pl:List (Addr×Obj)},(∀ b∈fp,H' b=none)->(∀ p∈pl,p.1 ∉ fp)->∀ b∈fp,FpOk (cxG X sc cl xs js s3.heap.objs.size s3 H3 fp) pl H' b:=fun {H'} {pl} hn hp b hb=>
  ⟨hn b hb,ϋ (fp3 b hb).2,fun z=>by
   rcases υ.mp (I3.Ub b z) with q | q
   ·exact (f2 b hb).2.1 q
   ·exact (f2 b hb).2.2.1 q,.inl hb,fun y c e=>(f2 b hb).2.2.2.2.1 y c (K.sub _ _ e),fun p hp' z=>by
    have hp'':p∈pl:=by simpa [cxG] using hp'
    exact hp p hp'' (z ▸ hb)⟩
 have loop:∀ s4:ξ,s4={ s3 with heap:=h₁,toks:=s3.toks+([]:List (Str×δ)).length } ->
   ik (Λ X.prog X.w) X.A (.compLoop (.ListComp elt [⟨tgt,iter,ifs,0⟩] sc pos) 0 (.ref it) (.ref s2.heap.objs.size) (compEnvC sc cl s3.heap.objs.size X.env))
    (compPost (Λ X.prog X.w) X.A X.xe use Q' (.ref s2.heap.objs.size) s3.heap.objs.size) s4:=by
  rintro s4 rfl;refine codeAny_loop rfl (fun n s'=>∃ i ys τ H',Inv (cxG X sc cl xs js s3.heap.objs.size s3 H3 fp) [] τ H' s'/\tn i s'.heap/\(∀ b∈fp,H' b=none)/\W i n ys τ H') ?_ m0 ⟨0,[],_,H3,I4,st4,fun b hb=>(fp3 b hb).1.1,w0⟩;rintro n s5 ⟨i,ys,τ,H5,I5,st5,fr5,w5⟩;show Δ _ X.A ((compTurn (.ListComp elt [⟨tgt,iter,ifs,0⟩] sc pos) 0 (.ref it) (.ref s2.heap.objs.size) (compEnvC sc cl s3.heap.objs.size X.env)).onRaise (fun x=>do oG x (compEnvC sc cl s3.heap.objs.size X.env);theTreesLotGoes x)) _ _ s5
  refine wpAny_noted ?_;rw [compTurn_list];refine γ (iB (γ ?_));rcases turn i n ys τ H5 w5 with ⟨stop,q⟩ | ⟨go,step⟩
  ·refine thn (T.done (cxG X sc cl xs js s3.heap.objs.size s3 H3 fp) rfl rfl rfl hc i [] s5 τ H5 _ I5 (stat fr5 (fun p hp=>absurd hp (by simp))) st5 stop) fun r s6 ⟨hr,I6⟩=>?_
   subst hr;refine ι ?_;obtain ⟨m,hn,_⟩:=I6.loc;refine fin _ _ s6 H5 m hn (I3.fpOk (χ _) I6.free) (fun h' sb=>?_) q;have u:=(show Un (frs X.stack) fp H3 H5 s3.heap s6.heap from I6.base).sameBut sb (χ _);exact I3.call' (s':={ s6 with heap:=h' }) (ch:=fp) I6.os u (I6.hok.sameBut sb I6.free) I6.bare fun b hb=>⟨(f2 b hb).2.2.2.1,(f2 b hb).2.1,(f2 b hb).2.2.2.2.1,(f2 b hb).2.2.2.2.2⟩
  ·refine thn (T.item (cxG X sc cl xs js s3.heap.objs.size s3 H3 fp) rfl rfl rfl hc i [] s5 τ H5 _ I5 (stat fr5 (fun p hp=>absurd hp (by simp))) st5 go) fun r s6 ⟨u,hr,h6⟩=>?_
   subst hr;refine γ (thn h6 fun _ s7 ⟨z,H7,I7,r7,y7,st7,fr7⟩=>?_);have I7':=I7.pinned (stat fr7 (fun p hp=>absurd hp (by simp))) (T.obj _ _ st7);have done:∀ {σ':St}{H':Hp}{s':ξ}{ys':List V}{m':Nat},Inv (cxG X sc cl xs js s3.heap.objs.size s3 H3 fp) ([]++YF fp s7.heap) σ' H' s'->m' < n->W (i+1) m' ys' σ' H'->∃ m,m < n/\∃ i ys τ H',Inv (cxG X sc cl xs js s3.heap.objs.size s3 H3 fp) [] τ H' s'/\tn i s'.heap/\(∀ b∈fp,H' b=none)/\W i m ys τ H':=fun {σ' H' s' ys' m'} I' hm w'=>
    ⟨m',hm,i+1,ys',σ',H',I'.wO,T.keep _ _ _ st7 fun b hb o e=>(I'.pin (b,o) (ώ _ (ώ _ (xQ hb e)))).1,fun b hb=>by
     obtain ⟨o,e,d⟩:=T.obj _ _ st7 b hb
     exact (I'.pin (b,o) (ώ _ (ώ _ (xQ hb e)))).2.1,w'⟩
   refine γ (bG (hg _ _ _ _ _ s7 τ H7 z u _ I7' r7 (step z H7 y7)) (fun _ s8 ⟨σ8,H8,I8,q8⟩=>?_) fun _ _ z=>ϩ z);refine γ (bG (ht _ _ _ _ _ s8 σ8 H8 _ I8 q8) (fun ok s9 ⟨H9,I9,q9⟩=>?_) fun _ _ z=>ϩ z);cases ok with
   | false=>
    rw [if_neg Ω] at q9;obtain ⟨m',hm,w9⟩:=q9;exact ι ⟨rfl,done I9 hm w9⟩
   | true=>
    rw [if_pos rfl] at q9;refine γ (γ (bG (he _ _ _ _ _ s9 _ _ _ I9 q9) (fun v9 s10 ⟨x9,H10,I10,r9,q10⟩=>?_) fun _ _ z=>ϩ z));obtain ⟨hD9,hlen,m',hm,w10⟩:=q10;have ap:=YW (X:=cxG X sc cl xs js s3.heap.objs.size s3 H3 fp) _ s10 _ H10 (.ref s2.heap.objs.size) [x9] (.ref s2.heap.objs.size) [v9] (fun _ H'=>H'=upd H10 s2.heap.objs.size (.lst (ys++[x9]))) I10 rfl (.cons r9 .nil) ⟨_,ys,x9,rfl,rfl,hD9,hlen,rfl⟩;refine γ (bG ap (fun _ s11 ⟨_,H11,I11,_,e11⟩=>?_) fun _ _ z=>ϩ z);subst e11;exact ι (ι ⟨rfl,done I11 hm w10⟩)
 exact codeAny_compStart_list (loop _ rfl) (T.self _ 0 _ _ _ st4 (loop _ rfl))
theorem zcd {elt iter tgt:Expr}{ifs:List Expr}{pos:Pos}{wi:TI}{tg:TG}{tt:TT}{te:TE}(hc:X.calm=true) (K:Kw X sc cl xs js) (hi:PI X tgt iter wi)
  (hg:∀ C s3 H3 fp,PG (cxG X sc cl xs js C s3 H3 fp) tgt tg) (ht:∀ C s3 H3 fp,PTs (cxG X sc cl xs js C s3 H3 fp) ifs tt) (he:∀ C s3 H3 fp,PE (cxG X sc cl xs js C s3 H3 fp) elt te) (hs:∀ v,cu iter X.env v=pure v):
  PE X (.ListComp elt [⟨tgt,iter,ifs,0⟩] sc pos) (fun σ H Q=>kY xs.length js wi tg tt te (fun D H'=>Q (.ref D) H') σ H):=by intro pJ s σ H Q I h;rw [eval_ListComp];exact XC (use:=none) (Q':=EP X pJ σ Q) hc K hi hg ht he hs I h fun D C s6 H5 m hn fp inv q=>⟨m,hn,fun h' sb=>⟨.ref D,H5,inv h' sb,rfl,q⟩⟩
theorem JR {elt iter tgt:Expr}{ifs:List Expr}{pos spos npos:Pos}{wi:TI}{tg:TG}{tt:TT}{te:TE}{n:Str}{i:Nat}(hc:X.calm=true) (K:Kw X sc cl xs js) (hi:PI X tgt iter wi)
  (hg:∀ C s3 H3 fp,PG (cxG X sc cl xs js C s3 H3 fp) tgt tg) (ht:∀ C s3 H3 fp,PTs (cxG X sc cl xs js C s3 H3 fp) ifs tt) (he:∀ C s3 H3 fp,PE (cxG X sc cl xs js C s3 H3 fp) elt te) (hs:∀ v,cu iter X.env v=pure v)
  (hp:PG X (.Name n npos) (Xq i)) (hsw:eZ (.ListComp elt [⟨tgt,iter,ifs,0⟩] sc pos) (some (.Name n npos)) spos.line X.env=pure true):
  PS X (.Assign [.Name n npos] (.ListComp elt [⟨tgt,iter,ifs,0⟩] sc pos) spos) (fun D σ H=>kY xs.length js wi tg tt te (fun Da H'=>D.nx (σ.set i (some (.ref Da))) H') σ H):=by
 intro pJ s σ H D I h;rw [exec_Assign_Name_used _ _ _ _ hsw];refine γ (iB (γ ?_));show Δ _ X.A (do let _ <- comprehension (.ListComp elt [⟨tgt,iter,ifs,0⟩] sc pos) sc X.env _ (newList []) false (eval iter X.env) (some (iG (.Name n npos) X.env))) _ _ s
 refine γ (bG (XC (use:=some (iG (.Name n npos) X.env)) (Q':=fun _ s'=>SP X pJ D .next s') hc K hi hg ht he hs I h ?_) (fun _ s' q=>ι (ι q)) fun _ _ z=>z);intro Da C s6 H5 m hn fp inv q;obtain ⟨oC,es,ep,hoC,hdC,hrC⟩:=id hn;have I6:=inv s6.heap (oR C s6.heap);have I6':Inv X (pJ++[(C,oC)]) σ H5 { s6 with heap:=s6.heap }:=I6.WX fun p hp=>(aD.mp hp).elim (fun z=>I6.pin p (ώ _ z)) fun z=>by rw [Η.mp z];exact ⟨hoC,fp.1,fp.2.1,fp.2.2.1,fun v e=>by rw [hdC] at e;cases e⟩
 show Δ _ X.A (iG (.Name n npos) X.env (.ref Da)) _ _ s6
 refine thn (hp _ s6 σ H5 (.ref Da) (.ref Da) _ I6' rfl q) fun _ s7 ⟨σ7,H7,I7,q7⟩=>?_
 have hC7:=(I7.pin (C,oC) (ώ _ (ώ _ (Η.mpr rfl))))
 refine ⟨m,⟨oC,es,ep,hC7.1,hdC,hrC⟩,fun h' sb=>⟨σ7,H7,?_,q7⟩⟩;have I8:Inv X pJ σ7 H7 s7:=I7.wO;exact I8.turned (t':=s7.toks) (fun b o hb e=>(sb.2 b hb).trans e) hC7.2.1 fp.2.1 fp.2.2.2.1 fp.2.2.2.2.1 fun p hp=>fp.2.2.2.2.2 p hp
def CSet (X:Cx) (x:Expr) (t:TE):Prop:=∀ (n:Str) (npos spos:Pos) (i:Nat),PG X (.Name n npos) (Xq i)->eZ x (some (.Name n npos)) spos.line X.env=pure true ->
 PS X (.Assign [.Name n npos] x spos) (fun D σ H=>t σ H fun v H'=>D.nx (σ.set i (some v)) H')
theorem zcX {X:Cx}{x:Expr}{t t':TE}(h:PE X x t/\CSet X x t) (i:∀ σ H Q,t' σ H Q->t σ H Q):PE X x t'/\CSet X x t':=
 ⟨h.1.imp i,fun n np sp j hp hs=>(h.2 n np sp j hp hs).imp fun D σ H q=>i σ H _ q⟩
theorem za9 {elt iter tgt:Expr}{ifs:List Expr}{pos:Pos}{wi:TI}{tg:TG}{tt:TT}{te:TE}(hc:X.calm=true) (K:Kw X sc cl xs js) (hi:PI X tgt iter wi)
  (hg:∀ C s3 H3 fp,PG (cxG X sc cl xs js C s3 H3 fp) tgt tg) (ht:∀ C s3 H3 fp,PTs (cxG X sc cl xs js C s3 H3 fp) ifs tt) (he:∀ C s3 H3 fp,PE (cxG X sc cl xs js C s3 H3 fp) elt te) (hs:∀ v,cu iter X.env v=pure v):
  PE X (.ListComp elt [⟨tgt,iter,ifs,0⟩] sc pos) (fun σ H Q=>kY xs.length js wi tg tt te (fun D H'=>Q (.ref D) H') σ H)/\CSet X (.ListComp elt [⟨tgt,iter,ifs,0⟩] sc pos) (fun σ H Q=>kY xs.length js wi tg tt te (fun D H'=>Q (.ref D) H') σ H):=
 ⟨zcd hc K hi hg ht he hs,fun n np sp i hp hsw=>JR hc K hi hg ht he hs hp hsw⟩
end
structure Fly (h:Heap) (e T C:Addr):Prop where
 oe:∃ o vs,h.get? e=some o/\(o.cls=.ref C/\o.dict=none)/\o.data=.fields vs/\vs[1]?=some (.ref T)
 ne:T≠e
 ot:∃ o ts,h.get? T=some o/\o.data=.fields ts/\ts[3]?=some .none
structure Chg (fs ex:List Addr) (h h':Heap):Prop where
 keep:∀ b o,h.get? b=some o->b ∉ fs->b ∉ ex->h'.get? b=some o
 slot:∀ b o,h.get? b=some o->b ∉ ex->∃ sl,h'.get? b=some { o with slots:=sl }
 size:h.objs.size<=h'.objs.size
theorem Chg.mono {fs ex ex':List Addr}{h h':Heap}(c:Chg fs ex h h') (q:∀ b,b∈ex->b∈ex'):Chg fs ex' h h':=
 ⟨fun b o e n x=>c.keep b o e n fun z=>x (q b z),fun b o e x=>c.slot b o e fun z=>x (q b z),c.size⟩
theorem Chg.trans {fs ex:List Addr}{h h1 h2:Heap}(a:Chg fs ex h h1) (b:Chg fs ex h1 h2):Chg fs ex h h2:=
 ⟨fun c o e n x=>b.keep c o (a.keep c o e n x) n x,fun c o e x=>by
  obtain ⟨sl,e1⟩:=a.slot c o e x;obtain ⟨sl',e2⟩:=b.slot c _ e1 x
  exact ⟨sl',e2⟩,Ϩ a.size b.size⟩
theorem Chg.upd {fs:List Addr}{h:Heap}{a:Addr}(f:Obj->Obj):Chg fs [a] h (h.update a f):=
  ⟨fun b o e _ x=>by rw [bc _ _ (fun z=>x (by rw [z];exact μ))];exact e,
   fun b o e x=>⟨o.slots,by rw [bc _ _ (fun z=>x (by rw [z];exact μ))];exact e⟩,gj (Heap.size_after_update ..).symm⟩
theorem Chg.psh {fs ex:List Addr}{h:Heap}(o:Obj):Chg fs ex h (h.push o):=
 ⟨fun b u e _ _=>θ _ e,fun b u e _=>⟨u.slots,θ _ e⟩,by rw [eU];exact fM _⟩
section
variable {M:Model}{A:ϖ}{E:VSP}{s:ξ}{base:Heap}{env:Env}{outer:List Env}{L e T C:Addr}{Q:Unit->ξ->Prop}
theorem Jl {oe:Obj}{vs:Array δ}{head:δ}{had:Bool}(hfr:A.frames=some (env::outer)) (hl:s.heap.FunFrames base (env::outer)) (hf:env.frame=some L) (he:s.heap.get? e=some oe) (hc:oe.cls=.ref C/\oe.dict=none) (hd:oe.data=.fields vs) (hz:1 < vs.size)
  (h:∀ h' T,Chg (frs (env::outer)) [e] s.heap h'->s.heap.get? T=none->Fly h' e T C->Q () { s with heap:=h' }):
  Δ M A (do let a <- frameOf env;let pl <- entryPlaceOf L had;let b <- oV head a .none (cH L) .none pl;setField (.ref e) 1 b) (fun _ s'=>Δ M A (setFlight (.ref e) none) Q E s') E s:=by
 have nf:e ∉ frs (env::outer):=fun hm=>by obtain ⟨_,o,ho,q⟩:=hl.mem hm;rw [he] at ho;cases ho;exact q vs hd
 refine γ (wpAny_frameOf_fun hfr hl hf fun h1 s1=>γ (wpAny_entryPlaceOf fun pl hp=>?_));unfold oV newFields;refine γ (ϫ ?_ (hp.sizeOk5 _ _ _ _ _));have e1:h1.get? e=some oe:=(s1.2.1 e nf).trans he;generalize hob:({ cls:=.type "traceback",dict:=none,data:=.fields ([head,.ref L,.none,cH L,.none]++(if pl.isEmpty then Ϸ 6 ϓ else pl)).toArray }:Obj)=ob;have e2:=θ (h:=h1) ob e1;refine Ϻ e2 hd hz ?_;have ne:h1.objs.size≠e:=iI (Ε e1);have d3:=cP hd (·.setIfInBounds 1 (Θ h1.objs.size));have e3:=Ϲ (aN (·.setIfInBounds 1 (Θ h1.objs.size))) e2 (fB d3);have t3:=(bc (h1.push ob) (aN (·.setIfInBounds 1 (Θ h1.objs.size))) (dH ne)).trans (Ζ h1 (by rw [<- hob];rfl));unfold setFlight;refine γ (fZ e3 d3 (x:=.ref h1.objs.size) (by simp [hz]) ?_);rw [if_pos (show (Θ h1.objs.size != ϓ)=true from by simp)];have dt:ob.data=.fields ([head,.ref L,.none,cH L,.none]++(if pl.isEmpty then Ϸ 6 ϓ else pl)).toArray:=by rw [<- hob]
 refine Ϻ t3 dt (by simp only [ω,π,η,ς] <;> omega) (h _ h1.objs.size ?_ ?_ ?_)
 ·have c1:Chg (frs (env::outer)) [e,h1.objs.size] s.heap h1:=⟨fun b o q n _=>(s1.2.1 b n).trans q,fun b o q _=>s1.2.2 b o q,gj s1.1.symm⟩
  have c4:=((c1.trans (Chg.psh ob)).trans ((Chg.upd _).mono fun b q=>by rw [Η.mp q];exact μ)).trans ((Chg.upd (h:=(h1.push ob).update e (aN (·.setIfInBounds 1 (Θ h1.objs.size)))) (aN (·.setIfInBounds 3 ((none:Option Addr).elim ϓ fun f=>cH f)))).mono fun b q=>by rw [Η.mp q];exact ν _ μ);have nT:∀ b o,s.heap.get? b=some o->b≠h1.objs.size:=fun b o q z=>by have:=Ε q;rw [z,s1.1] at this;exact bQ _ this
  refine ⟨fun b o q n x=>c4.keep b o q n fun z=>?_,fun b o q x=>c4.slot b o q fun z=>?_,c4.size⟩
  ·rcases υ.mp z with z | z
   ·exact x (by rw [z];exact μ)
   ·exact nT b o q (Η.mp z)
  ·rcases υ.mp z with z | z
   ·exact x (by rw [z];exact μ)
   ·exact nT b o q (Η.mp z)
 ·exact iV (gj s1.1.symm)
 ·refine ⟨⟨_,_,(bc _ _ ne).trans e3,?_,d3,by simp [hz]⟩,ne,⟨_,_,Ϲ _ t3 (fB (cP dt _)),cP dt _,?_⟩⟩
  ·rw [Obj.cls_mapFields];exact ⟨hc.1,by obtain ⟨a,b,d,e⟩:=oe;cases d <;> exact hc.2⟩
  ·first | (simp;done) | (rcases hp with rfl | ⟨_,_,_,_,_,_,_,rfl⟩ <;> simp)
theorem JW {oe:Obj}{vs:Array δ}(hfr:A.frames=some (env::outer)) (hl:s.heap.FunFrames base (env::outer)) (hf:env.frame=some L) (he:s.heap.get? e=some oe) (hc:oe.cls=.ref C/\oe.dict=none) (hd:oe.data=.fields vs) (h1:vs[1]?=some .none)
  (h:∀ h' T,Chg (frs (env::outer)) [e] s.heap h'->s.heap.get? T=none->Fly h' e T C->Q () { s with heap:=h' }):
  Δ M A (oG (.ref e) env) (fun _ s'=>Δ M A (setFlight (.ref e) none) Q E s') E s:=by unfold oG;simp only [hf];refine γ (fZ he hd h1 ?_);rw [if_neg (by decide)];exact Jl hfr hl hf he hc hd (dm.mp h1).1 h
theorem zag (hfr:A.frames=some (env::outer)) (hl:s.heap.FunFrames base (env::outer)) (hf:env.frame=some L) (F:Fly s.heap e T C)
  (h:∀ h' T',Chg (frs (env::outer)) [e,T] s.heap h'->s.heap.get? T'=none->Fly h' e T' C->Q () { s with heap:=h' }):
  Δ M A (oG (.ref e) env) (fun _ s'=>Δ M A (setFlight (.ref e) none) Q E s') E s:=by
 obtain ⟨⟨oe,vs,he,hc,hd,h1⟩,ne,⟨oT,ts,hT,dT,h3⟩⟩:=F;unfold oG;simp only [hf];refine γ (fZ he hd h1 ?_);rw [if_pos (show (Θ T != ϓ)=true from by simp)];refine γ (fZ hT dT h3 ?_);rw [if_neg (show ¬ ((ϓ==cH L)=true) from by simp [cH])];refine γ (Ϻ hT dT (dm.mp h3).1 ?_);have other:∀ b,b≠T->(s.heap.update T (aN (·.setIfInBounds 3 ϓ))).get? b=s.heap.get? b:=fun b q=>bc _ _ (dH q)
 refine Jl (s:={ s with heap:=s.heap.update T (aN (·.setIfInBounds 3 ϓ)) }) hfr (hl.of_keeps fun b o q n=>⟨o,(other b fun z=>?_).trans q,rfl⟩) hf ((other e (dH ne)).trans he) hc hd (dm.mp h1).1 fun h' T' c n F=>h h' T' ?_ ?_ F
 ·rw [z,hT] at q;cases q;exact n ts dT
 ·exact ((Chg.upd _).mono fun b q=>by rw [Η.mp q];exact ν _ μ).trans (c.mono fun b q=>by rw [Η.mp q];exact μ)
 ·by_cases z:T'=T
  ·subst z;have q:=Ϲ (aN (·.setIfInBounds 3 ϓ)) hT (fB (cP dT _));have n':(s.heap.update T' (aN (·.setIfInBounds 3 ϓ))).get? T'=none:=n;rw [q] at n';cases n'
  ·exact (other T' z).symm.trans n
end
theorem zW.there {P:Χ}{w:Ϛ}{H:Hp}{h:Heap}{a:Addr}{o:HO}(x:zW P w H h a o):∃ ob,h.get? a=some ob:=by
 cases o with
 | lst xs=>obtain ⟨_,_,_,_,e⟩:=x;exact ⟨_,e⟩
 | tup xs=>obtain ⟨_,_,_,ob,e,_⟩:=x;exact ⟨_,e⟩
 | dK kvs=>obtain ⟨_,_,_,_,o,_,_,e,_⟩:=x;exact ⟨_,e⟩
 | dT kvs=>obtain ⟨_,_,_,_,o,_,_,e,_⟩:=x;exact ⟨_,e⟩
 | set S n=>obtain ⟨o,_,_,_,e,_⟩:=x;exact ⟨_,e⟩
 | ins C dx fs=>obtain ⟨_,_,_,e,_⟩:=x;exact ⟨_,e⟩
 | own y=>obtain ⟨_,e⟩:=x;exact ⟨_,e⟩
 | xd fs=>obtain ⟨_,⟨_,_,_,e,_⟩,_⟩:=x;exact ⟨_,e⟩
 | rng lo hi=>obtain ⟨_,_,_,e⟩:=x;exact ⟨_,e⟩
 | frz ob u=>obtain ⟨e,_⟩:=x;exact ⟨_,e⟩
 | tbl ps=>exact ⟨_,(show h.get? a=some _ from x)⟩
 | met f y=>exact ⟨_,(show h.get? a=some _ from x)⟩
 | ext φ=>obtain ⟨_,⟨_,e⟩,_⟩:=x;exact ⟨_,e⟩
theorem HOk.zcn {P:Χ}{w:Ϛ}{H:Hp}{h:Heap}{a:Addr}(x:HOk P w H h) (n:h.get? a=none):H a=none:=by
 cases q:H a with
 | none=>rfl
 | some o=>
  obtain ⟨ob,e⟩:=(x a o q).there;rw [n] at e;cases e
theorem HOk.chg {P:Χ}{w:Ϛ}{H:Hp}{h h':Heap}{fs ex:List Addr}(x:HOk P w H h) (c:Chg fs ex h h') (hf:∀ b∈fs,H b=none) (hx:∀ b∈ex,H b=none):HOk P w H h':=fun a o e=>
 (x a o e).stay (fun b u hb q=>by
  have hs:∃ v,H b=some v:=by
   rcases hb with rfl | hb
   ·exact ⟨_,e⟩
   ·exact ⟨_,hb⟩
  obtain ⟨v,hv⟩:=hs
  exact c.keep b u q (fun z=>by rw [hf b z] at hv;cases hv) fun z=>by rw [hx b z] at hv;cases hv) (fun _ q=>q) fun _ _ q=>q
theorem Un.chg {fs fs' ex:List Addr}{H H':Hp}{h h1 h2:Heap}(u:Un fs [] H H' h h1) (c:Chg fs' ex h1 h2) (hx:∀ b∈ex,h.get? b=none) (hf:∀ b∈fs',b∈fs\/h.get? b=none):Un fs [] H H' h h2:=by
 have nx:∀ b o,h.get? b=some o->b ∉ ex:=fun b o e z=>by rw [hx b z] at e;cases e
 refine ⟨fun b o e n hb z=>c.keep b o (u.keep b o e n hb z) (fun q=>(hf b q).elim hb fun w=>by rw [w] at e;cases e) (nx b o e),fun b o e n hb z=>?_,u.free,fun b o e z=>?_,u.tups,u.frzs,u.tbls⟩
 ·obtain ⟨sl,e1⟩:=u.slot b o e n hb z;obtain ⟨sl',e2⟩:=c.slot b _ e1 (nx b o e);exact ⟨sl',e2⟩
 ·obtain ⟨o',e1⟩:=u.there b o e z;obtain ⟨sl,e2⟩:=c.slot b o' e1 (nx b o e);exact ⟨_,e2⟩
def CX1 (P:Χ) (w:Ϛ):CXT:=fun outer H s E e s'=>∃ (ea T C:Addr) (H':Hp),e=.ref ea/\Fly s'.heap ea T C/\(s.heap.get? ea=none/\s.heap.get? T=none)/\(H' ea=none/\H' T=none)/\s'.os=s.os/\iz s'.gens/\Un (frs outer) [] H H' s.heap s'.heap/\HOk P w H' s'.heap/\E e (some C) H'
section
variable {X:Cx}{pJ:List (Addr×Obj)}{σ:St}{H:Hp}{s:ξ}{E E':XK}{W:VSP}
theorem yt {fs:List Addr}{H H':Hp}{h h':Heap}{b:Addr}(u:Un fs [] H H' h h') (n:h'.get? b=none):h.get? b=none:=by
 cases q:h.get? b with
 | none=>rfl
 | some o=>
  obtain ⟨o',e⟩:=u.there b o q (by simp);rw [n] at e;cases e
theorem zfz (hf:X.env.frame=some X.env.locals):frs (X.env::X.outer)=X.env.locals::X.fs:=by unfold frs;rw [cA,hf];rfl
theorem zaW (I:Inv X pJ σ H s) (hf:X.env.frame=some X.env.locals):∀ b∈frs (X.env::X.outer),b∈X.fs\/X.sy.heap.get? b=none:=fun b hb=>by
 rw [zfz hf] at hb;rcases υ.mp hb with rfl | hb
 ·exact .inr (iV I.ok.above)
 ·exact .inl hb
theorem leave_new {h':Heap}{ea C:Addr}{args:List δ}(hs:X.stack=X.env::X.outer) (hf:X.env.frame=some X.env.locals) (hex:X.ex=[]) (I:Inv X pJ σ H s) (m:iW s.heap h' ea (.ref C) args) (hE:E (.ref ea) (some C) H):
  Δ (Λ X.prog X.w) X.A (leaving X.env (.ref ea)) (fun _ s''=>CX1 X.prog X.w X.outer X.Hz X.sy E (.ref ea) s'') W { s with heap:=h' }:=by
 have u0:Un X.fs [] X.Hz H X.sy.heap s.heap:=by have:=I.base;rw [hex] at this;exact this
 obtain ⟨t,he,nt,ht⟩:=m.there;have fr:=I.stack;rw [hs] at fr;have st:=I.ok.frames;rw [hs] at st;have back:∀ b,h'.get? b=none->s.heap.get? b=none:=fun b n=>by
  cases q:s.heap.get? b with
  | none=>rfl
  | some o=>rw [m.keeps b o q] at n;cases n
 unfold leaving;refine γ (JW (base:=X.base) (C:=C) st (fr.of_keeps fun b o q _=>⟨o,m.keeps b o q,rfl⟩) hf he ⟨rfl,rfl⟩ rfl rfl fun h2 T c nT F=>?_);have nT':=back T nT;refine ⟨ea,T,C,H,rfl,F,⟨yt u0 m.new,yt u0 nT'⟩,⟨I.hok.zcn m.new,I.hok.zcn nT'⟩,I.os,I.bare,?_,?_,hE⟩
 ·refine (u0.trans (Un.kept m.keeps)).chg c (fun b hb=>?_) (zaW I hf);rw [Η.mp hb];exact yt u0 m.new
 ·refine (I.hok.kept m.keeps).chg c (fun b hb=>?_) fun b hb=>?_
  ·rw [<- hs] at hb;exact I.Zk b hb
  ·rw [Η.mp hb];exact I.hok.zcn m.new
theorem Inv.thrown {e:δ}{s':ξ}(I:Inv X pJ σ H s) (c:CX1 X.prog X.w X.stack H s E e s'):∃ (ea T C:Addr) (H':Hp),e=.ref ea/\Fly s'.heap ea T C/\(s.heap.get? ea=none/\s.heap.get? T=none)/\(H' ea=none/\H' T=none)/\Un (frs X.stack) [] H H' s.heap s'.heap/\Inv X pJ σ H' s'/\E e (some C) H':=by obtain ⟨ea,T,C,H',e1,F,n1,n2,os,bare,un,hok,h⟩:=c;exact ⟨ea,T,C,H',e1,F,n1,n2,un,I.call' os un hok bare (fun b z=>absurd z (by simp)),h⟩
theorem J3 {e:δ}{s':ξ}(hs:X.stack=X.env::X.outer) (hf:X.env.frame=some X.env.locals) (hex:X.ex=[]) (I:Inv X pJ σ H s) (cx:CX1 X.prog X.w X.stack H s E' e s') (hE:∀ C H',E' e C H'->E e C H'):
  Δ (Λ X.prog X.w) X.A (leaving X.env e) (fun _ s''=>CX1 X.prog X.w X.outer X.Hz X.sy E e s'') W s':=by
 obtain ⟨ea,T,C,H',rfl,F,n1,n2,un,J,h⟩:=I.thrown cx;have u0:Un X.fs [] X.Hz H X.sy.heap s.heap:=by have:=I.base;rw [hex] at this;exact this
 have u1:Un X.fs [] X.Hz H' X.sy.heap s'.heap:=by have:=J.base;rw [hex] at this;exact this
 have fr:=J.stack;rw [hs] at fr;have st:=I.ok.frames;rw [hs] at st;unfold leaving;refine γ (zag (base:=X.base) (C:=C) st fr hf F fun h2 T' c nT F'=>?_);refine ⟨ea,T',C,H',rfl,F',⟨yt u0 n1.1,yt u1 nT⟩,⟨n2.1,J.hok.zcn nT⟩,J.os,J.bare,?_,?_,hE _ _ h⟩
 ·refine u1.chg c (fun b hb=>?_) (zaW J hf);rcases υ.mp hb with rfl | hb
  ·exact yt u0 n1.1
  ·rw [Η.mp hb];exact yt u0 n1.2
 ·refine J.hok.chg c (fun b hb=>?_) fun b hb=>?_
  ·rw [<- hs] at hb;exact J.Zk b hb
  ·rcases υ.mp hb with rfl | hb
   ·exact n2.1
   ·rw [Η.mp hb];exact n2.2
end
open PySem PySem.Spec PySem.W PyProof.Rows
structure XCls (K:Frag) (C:Addr):Prop where
 ga:findIn K (.ref C) "__getattribute__"=some (some (.builtin "BaseException.__getattribute__"))
 gr:findIn K (.ref C) "__getattr__"=some none
 cl:findIn K (.ref C) "__class__"=some (some (.builtin "object.__class__"))
 mb:mroIn K C (.type "BaseException")=some true
 mo:mroIn K C (.type "object")=some true
 it:(clsIn K C).isSome=true
section
variable {prog:Χ}{w:Ϛ}{A:ϖ}{E:VSP}{h:Heap}{g:Array GenState}{d:Drawn}{t:Nat}{os:OsState}{a:Addr}{o:Obj}{K:Frag}{C:Addr}
end
section
variable {X:Cx}{pJ:List (Addr×Obj)}{σ σ':St}{H:Hp}{s:ξ}{x:Str}{i:Nat}{ea C:Addr}{oe:Obj}
end
section
variable {X:Cx}{pJ:List (Addr×Obj)}{σ:St}{H:Hp}{s:ξ}{C:Addr}{bmB:List δ}
set_option tactic.hygienic true in
theorem zfE {K:Frag}{h:Heap}{newId:String}(X:K.In h) (q:excIn K C bmB newId=true):∃ bm N nm q bs hdct sn sub ab col dd k0 k1 k2 k3 k5 mN,h.get? C=some (excClassObj nm q C N bs bm hdct sn sub ab col dd k0 k1 k2 k3 k5 newId)/\h.Ns N mN/\mN "__init__"=none/\OwnTail h bmB bm:=by
 unfold excIn at q;split at q
 ·rename_i dd cd sl ho
  split at q
  ·rename_i C' bm k0 k1 k2 k3 n k5 hm hs
   simp only [ε,beq_iff_eq,c7] at q;obtain ⟨⟨⟨⟨⟨rfl,rfl⟩,hdel⟩,ht⟩,hok⟩,hni⟩:=q;obtain ⟨nm,bs,mro,ns,qn,hd,sn,sub,ab,col,del⟩:=cd;dsimp only at hm hdel hok hni;subst hm hdel;have hsl:sl=#[k0,k1,k2,k3,some (.builtin n),k5]:=by obtain ⟨l⟩:=sl;simp only at hs;rw [hs]
   subst hsl;exact ⟨bm,ns,nm,qn,bs,hd,sn,sub,ab,col,dd,k0,k1,k2,k3,k5,_,X _ _ ho,.of_isNs (isNs_of_in X hok),nsMap_none_of_in X hok hni,tail_of_in X ht⟩
  ·cases q
 ·cases q
theorem zbZ {x msg:Str}{j:Nat}{np cp p pos:Pos}{Q:Flow->ξ->Prop}(I:Inv X pJ σ H s) (hc:X.calm=true) (hg:Gl X x) (hm:X.mg x=some (.ref C)) (hd:(x==("__debug__":Str))=false) (q:excIn X.K C veB "ValueError.__new__"=true)
  (h:∀ s1 h' ea args,Inv X pJ σ H s1->iW s1.heap h' ea (.ref C) args->X.xe (.ref ea) { s1 with heap:=h' }):
  Δ (Λ X.prog X.w) X.A (exec (.Raise (some (.Call (.Name x np) [.Constant (.str msg) j p] [] cp)) none pos) X.env) Q X.xe s:=by
 obtain ⟨bm,N,nm,q,bs,hdct,sn,sub,ab,col,dd,k0,k1,k2,k3,k5,mN,hC,hN,hni,T⟩:=zfE I.ok.mod.kin q;have FB:=F.excBase_ValueError;refine wpAny_Raise_call_subT (C:=C) (nm:=nm) (q:=q) (N:=N) (bs:=bs) (bm:=bm) (hdct:=hdct) (sn:=sn) (sub:=sub) (ab:=ab) (col:=col) (dd:=dd) (k0:=k0) (k1:=k1) (k2:=k2) (k3:=k3) (k5:=k5) FB (mN:=mN) (T.hasType FB.hasBase) (I.ok.hd hc) rfl hni (jy I hg hm ⟨rfl,?_⟩ hd);have hp:PA X [.Constant (.str msg) j p] _:=yg Q3 xq;refine pX (thn (hp cp pJ s σ H (fun xs H'=>H'=H/\xs.length=1) I ⟨rfl,rfl⟩) fun vs s2 ⟨xs,H2,I2,r,e,hx⟩=>?_);subst e;have hl:vs.length<=sizeLine:=by rw [<- r.length,hx];decide
 exact ⟨rfl,hl,I2.bk _ _ hC,hN.keeps I2.bk,T.keeps I2.bk,fun h' e m=>h s2 h' e vs I2 m⟩
end
end L2
namespace EV
open PySem PySem.Spec PyProof.Rows L2
structure KCls (Γ:Gm) (tb:List (List Nat)) (c:Nat) (C:Addr):Prop where
 ca:Γ.ca c=some C
 ex:W.excIn Γ.K C veB "ValueError.__new__"=true
 xc:XCls Γ.K C
 sub:∀ k Ck,Γ.ca k=some Ck->W.kitOne Γ.K (.ref C) (.ref Ck)=some (subT tb c k)
 ve:W.kitOne Γ.K (.ref C) (.type "ValueError")=some true
 em:∀ k Ck,Γ.ca k=some Ck->W.exmOne Γ.K (.ref C) (.ref Ck)=some (subT tb c k)
structure FnI (Γ:Gm) (B:Tb) (cf:Nat->Nat->Sp) (k:Nat) (P:Χ) (w:Ϛ) (K:W.Frag) (mg:Str->Option δ) (base:Heap) (f:Nat) (x:Str):Prop where
 ex:∃ (a:Addr) (fd:bT) (ps:List Str),Γ.fa f=some a/\(dotted x=false->mg x=some (.ref a))/\W.keepIn K (.ref a)=true/\Binds K fd ps []/\B.pars[f]?=some ps/\FnOk P w K mg base (CX1 P w) (2*k) a fd ps (cf f ps.length) /\
  ∀ (ks:List Str) (perm:List Nat),perm.length=ps.length->(∀ i∈perm,i < ks.length)->perm.map (fun i=>ks.getD i "")=ps->ks.length=ps.length->(f,ks,perm)∈B.kws ->
   zbx K fd ps ks (fun us ws=>if ws.length=ks.length then us++perm.map fun i=>ws.getD i .none else []) (fun vs zs=>if zs.length=ks.length then vs++perm.map fun i=>zs.getD i .non else [])
structure ObOk (Γ:Gm) (o:Ob) (C:Addr):Prop where
 ca:caOf Γ.K o.name=some C
 cl:Cls Γ.K C
 fl:∀ f∈o.fields,vN Γ.K C f
 mt:∀ (m:Str) (i:Nat),(m,i)∈o.meths->∃ a,Γ.fa i=some a/\Meth Γ.K C m a
 mkk:∀ i:Nat,(("__init__":Str),i)∈o.meths->∃ a,Γ.fa i=some a/\Mk Γ.K C a
structure XOk (Γ:Gm) (B:Tb) (cf:Nat->Nat->Sp) (k:Nat) (X:Cx) (c:Cc):Prop where
 hK:X.K=Γ.K
 nm:X.env.scope.names=c.names
 kd:X.env.scope.kind=.function
 N:X.N=c.N
 nd:X.N.Nodup
 fn:c.fn=true->∀ x,X.fn x=true
 calm:X.calm=true
 room:Room (2*k+1) X.A
 cells:∀ x,(c.names.lookup x=some .cell\/c.names.lookup x=some .free)->∃ a,X.env.cells.lookup x=some a
 fns:∀ (f:Nat) (x:Str),B.fns[f]?=some x->FnI Γ B cf k X.prog X.w X.K X.mg X.base f x
 bare:∀ x∈B.bare,X.mg x=none
 consts:∀ (n:Nat) (x:Str) (d:D),B.consts[n]?=some (x,d)->∃ u v,X.mg x=some u/\RelV v u/\∀ g,Has Γ g d v
 fa:∀ (f:Nat) (a:Addr),Γ.fa f=some a->∃ x,B.fns[f]?=some x
 cl:∀ (c:Nat) (x:Str) (l:List Nat),B.cls[c]?=some (x,l)->∃ C,X.mg x=some (.ref C)/\KCls Γ (B.cls.map (·.2)) c C
 ca:∀ (c:Nat) (C:Addr),Γ.ca c=some C->∃ x l,B.cls[c]?=some (x,l)
 ob:∀ o∈B.obs,∃ C,X.mg o.name=some (.ref C)/\ObOk Γ o C
section
variable {Γ:Gm}{B:Tb}{cf:Nat->Nat->Sp}{k:Nat}{X:Cx}{c:Cc}
theorem XOk.rm (x:XOk Γ B cf k X c):Room (2*k) X.A:=x.room.mono (fM _)
theorem XOk.u61 (x:XOk Γ B cf k X c):X.A.units+61 < ϥ:=by have:=x.room.un;lia
theorem XOk.u1 (x:XOk Γ B cf k X c):X.A.units+1 < ϥ:=by have:=x.room.un;lia
theorem XOk.vis (x:XOk Γ B cf k X c) {n:Str}(h:visK (c.names.lookup n)=true):Vis X.env.scope n:=by
 unfold Vis;rw [x.nm];cases q:c.names.lookup n with
 | none=>rw [q] at h;cases h
 | some kd=>rw [q] at h;cases kd <;> first | exact .inl rfl | exact .inr (.inl rfl) | exact .inr (.inr rfl) | cases h
theorem XOk.glob (x:XOk Γ B cf k X c) {n:Str}(h:gloK (c.names.lookup n)=true):Gl X n:=by
 unfold Gl oU;rw [x.nm];cases q:c.names.lookup n with
 | none=>rw [q] at h;cases h
 | some kd=>rw [q] at h;cases kd <;> first | rfl | cases h
theorem yh {n:Str}(h:yf n=true):(n==("__debug__":Str))=false/\(n==("__classdict__":Str))=false/\n≠("__name__":Str):=by unfold yf at h;simp only [ε,c7] at h;exact ⟨h.1.1.1,h.1.1.2,by simpa using h.1.2⟩
theorem V8 {n:Str}(h:yf n=true):dotted n=false:=by unfold yf at h;simp only [ε,c7] at h;exact h.2
theorem XOk.pg (x:XOk Γ B cf k X c) {i:Nat}{n:Str}{pos:Pos}(hi:c.N[i]?=some n) (hs:stoK c n=true):PG X (.Name n pos) (Xq i):=by
 have hi':X.N[i]?=some n:=by rw [x.N];exact hi
 unfold stoK at hs;cases q:c.names.lookup n with
 | none=>rw [q] at hs;cases hs
 | some kd=>
  rw [q] at hs;have q':X.env.scope.names.lookup n=some kd:=by rw [x.nm];exact q
  cases kd with
  | «local»=>exact Q0 x.nd hi' (.inl q') (.inr q')
  | cell=>exact Q0 x.nd hi' (.inr q') (.inl (x.fn hs n))
  | _=>cases hs
def Xo:List Nat->TGs
 | []=>gNil
 | i::is=>zcE (Xq i) (Xo is)
theorem QW (x:XOk Γ B cf k X c):∀ {es:List Expr}{ns:List Str}{is:List Nat},EV.namesOf es=some ns->ns.length=is.length->((is.zip ns).all fun p=>c.N[p.1]?==some p.2&&stoK c p.2)=true ->
  PGs X es (Xo is)/\(bM es X.env).length=is.length/\(bM es X.env).findIdx? (·.1)=none
 | [],ns,is,h,hl,_=>by
  cases (show some []=some ns from h);cases is with
  | nil=>exact ⟨QX,rfl,rfl⟩
  | cons=>simp at hl
 | e::es,ns,is,h,hl,ha=>by
  cases e with
  | Name n pos=>
   simp only [EV.namesOf,Α] at h;obtain ⟨r,h1,h2⟩:=h;subst h2;cases is with
   | nil=>simp at hl
   | cons i is=>
    simp only [aC,lH,ε] at ha;obtain ⟨⟨ha1,ha2⟩,ha3⟩:=ha;obtain ⟨g1,g2,g3⟩:=QW x h1 (by simpa using hl) ha3;refine ⟨Zw (x.pg (eq_of_beq ha1) ha2) g1,?_,?_⟩
    ·show (_::bM es X.env).length=_
     rw [η,g2,η]
    ·show List.findIdx? _ ((false,_)::bM es X.env)=none
     rw [List.findIdx?_cons];simp [g3]
  | _=>simp [EV.namesOf] at h
def tgOf (K:W.Frag):T->TG
 | .nst i is=>gTup K 2 (zcE (Xq i) (zcE (gTup K is.length (Xo is)) gNil))
 | .one i=>Xq i
 | .tup is=>gTup K is.length (Xo is)
theorem Ju {x:Expr}{q:Str×Pos×List Expr×Nat×Pos×Nat×Pos}(h:zc2 x=some q):x=.Tuple [.Name q.1 q.2.1,.Tuple q.2.2.1 q.2.2.2.1 q.2.2.2.2.1] q.2.2.2.2.2.1 q.2.2.2.2.2.2:=by
 cases x with
 | Tuple es k p=>
  cases es with
  | nil=>cases h
  | cons a r=>
   cases a with
   | Name n pos=>
    cases r with
    | nil=>cases h
    | cons b z=>
     cases z with
     | cons _ _=>cases h
     | nil=>
      cases b with
      | Tuple fs k2 p2=>cases h;rfl
      | _=>cases h
   | _=>cases h
 | _=>cases h
theorem zd3 (x:XOk Γ B cf k X c) {t:T}{tgt:Expr}(hn:ZS t=true) (h:chkT c t tgt=true):PG X tgt (tgOf X.K t):=by
  cases t with
  | nst i is=>
    unfold chkT at h;rw [if_pos hn] at h;cases e:zc2 tgt with
    | none=>rw [e] at h;cases h
    | some q=>
      rw [e] at h
      have h:(match namesOf q.2.2.1 with
        | some ns=>(q.1::ns).length==(i::is).length&&((i::is).zip (q.1::ns)).all fun p=>c.N[p.1]?==some p.2&&stoK c p.2
        | none=>false)=true:=h
      rw [Ju e];cases en:namesOf q.2.2.1 with
      | none=>rw [en] at h;cases h
      | some ns=>
        rw [en] at h;simp only [aC,lH,ε] at h;obtain ⟨h1,⟨h2,h3⟩,h4⟩:=h;have h1:ns.length=is.length:=by simpa using h1
        obtain ⟨g1,g2,g3⟩:=QW x en h1 h4;exact QZ x.calm (Zw (x.pg (eq_of_beq h2) h3) (Zw (QZ x.calm g1 g2 g3) QX)) rfl rfl
  | _=>cases hn
theorem Qa (x:XOk Γ B cf k X c) {t:T}{tgt:Expr}(h:chkT c t tgt=true):PG X tgt (tgOf X.K t):=by
 by_cases hnst:ZS t=true
 ·exact zd3 x hnst h
 unfold chkT at h;rw [if_neg hnst] at h;rw [ε] at h;obtain ⟨h1,h2⟩:=h;cases tgt with
 | Name n pos=>
  cases t with
  | one i=>
   simp only [yM,tIs,aC,rG,lH,List.all_nil,lL,ε] at h2;exact x.pg (eq_of_beq h2.2.1) h2.2.2
  | tup is=>cases h1
  | nst _ _=>exact absurd rfl hnst
 | Tuple es kk pos=>
  cases t with
  | one i=>cases h1
  | nst _ _=>exact absurd rfl hnst
  | tup is=>
   simp only [yM,tIs] at h2;cases hn:EV.namesOf es with
   | none=>rw [hn] at h2;cases h2
   | some ns=>
    rw [hn] at h2;simp only [ε,beq_iff_eq] at h2;obtain ⟨g1,g2,g3⟩:=QW x hn h2.1 (by simpa using h2.2);exact QZ x.calm g1 g2 g3
 | _=>simp [yM] at h2
noncomputable def xY (cells:List (Str×Addr)):List (Str×aj)->List (Str×Addr)->List (Str×Addr)
 | [],acc=>acc
 | (n,kd)::r,acc=>if (kd==bj)=true then xY cells r ((n,(cells.lookup n).getD 0)::acc) else xY cells r acc
theorem jR {env:Env}:∀ (names:List (Str×aj)) (acc:List (Str×Addr)),(∀ y∈names,y.2=.free->∃ a,env.cells.lookup y.1=some a) ->
  (forIn names acc fun x cs=>match x with
   | (name,kind)=>if (kind==bj)=true then do let a <- cellOf env name;pure (aM ((name,a)::cs)) else pure (aM cs):Sem (List (Str×Addr)))=pure (xY env.cells names acc)
 | [],acc,_=>rfl
 | (n,kd)::r,acc,h=>by
  rw [List.forIn_cons];by_cases hk:(kd==bj)=true
  ·obtain ⟨a,ha⟩:=h (n,kd) μ (eq_of_beq hk);have ha:env.cells.lookup n=some a:=ha;simp only [hk,if_true];have:cellOf env n=pure a:=by unfold cellOf;rw [ha]
   rw [this];simp only [pure_bind];rw [jR r _ fun y hy=>h y (ν _ hy)];simp [xY,hk,ha]
  ·simp only [hk];simp only [bB,if_false,pure_bind];rw [jR r _ fun y hy=>h y (ν _ hy)];simp [xY,hk]
theorem zfT {env:Env}{sc:eG}(h:∀ y∈sc.names,y.2=.free->∃ a,env.cells.lookup y.1=some a):closureFor sc env=pure (xY env.cells sc.names []):=by
 unfold closureFor;have:=jR sc.names [] h
 first
  | exact (congrArg (fun z=>z >>= pure) this).trans (by simp)
  | (simp only [bind_pure];exact this)
  | exact this
theorem yL {cells:List (Str×Addr)}{y:Str}:∀ (names:List (Str×aj)) (acc:List (Str×Addr)),(∀ z∈names,z.2=.free->∃ a,cells.lookup z.1=some a)->(∀ c,acc.lookup y=some c->cells.lookup y=some c) ->
  (∀ c,(xY cells names acc).lookup y=some c->cells.lookup y=some c)/\((y,bj)∈names\/(∃ c,acc.lookup y=some c)->∃ c,(xY cells names acc).lookup y=some c)
 | [],acc,_,h=>⟨h,fun q=>by
  rcases q with q | q
  ·cases q
  ·exact q⟩
 | (n,kd)::r,acc,hh,h=>by
  by_cases hk:(kd==bj)=true
  ·obtain ⟨a,ha⟩:=hh (n,kd) μ (eq_of_beq hk);have ha:cells.lookup n=some a:=ha;have e:xY cells ((n,kd)::r) acc=xY cells r ((n,a)::acc):=by simp [xY,hk,ha]
   rw [e]
   obtain ⟨i1,i2⟩:=yL (y:=y) r ((n,a)::acc) (fun z hz=>hh z (ν _ hz)) (fun c q=>by
    rw [ϯ] at q;cases hy:y==n with
    | true=>rw [hy] at q;cases q;rw [eq_of_beq hy];exact ha
    | false=>rw [hy] at q;exact h c q)
   refine ⟨i1,fun q=>i2 ?_⟩;rcases q with q | ⟨c,q⟩
   ·rcases υ.mp q with q | q
    ·right;cases q;exact ⟨a,List.lookup_cons_self⟩
    ·exact .inl q
   ·right;rw [ϯ];cases hy:y==n with
    | true=>exact ⟨a,rfl⟩
    | false=>exact ⟨c,q⟩
  ·have e:xY cells ((n,kd)::r) acc=xY cells r acc:=by simp [xY,hk]
   rw [e];obtain ⟨i1,i2⟩:=yL (y:=y) r acc (fun z hz=>hh z (ν _ hz)) h;refine ⟨i1,fun q=>i2 ?_⟩;rcases q with q | q
   ·rcases υ.mp q with q | q
    ·cases q;exact absurd rfl hk
    ·exact .inl q
   ·exact .inr q
theorem wV (x:XOk Γ B cf k X c) (sc:eG):(my sc X.env).names=relK c.names sc.names:=by
 unfold my relK;simp only [x.kd,oU,x.nm]
 congr 1
 funext y
 have e:(pD==pD)=true:=rfl;rw [e,lL]
theorem Yw {names l:List (Str×aj)}{y:Str}{kd:aj}(hc:∀ z∈l,z.2≠.cell):(relK names l).lookup y=some kd->kd=.cell\/kd=.free->(y,bj)∈l:=by
 intro h hk
 induction l with
 | nil=>cases h
 | cons p l ih=>
  obtain ⟨n,q⟩:=p;have hq:=hc (n,q) μ;show (y,bj)∈(n,q)::l
  unfold relK at h;rw [Κ] at h;by_cases e:(q==bj&&names.lookup n==some .cell)=true
  ·simp only [e,if_true] at h;rw [ϯ] at h;cases hy:y==n with
   | true=>
    rw [ε] at e;rw [eq_of_beq hy,eq_of_beq e.1];exact μ
   | false=>
    rw [hy] at h;exact ν _ (ih (fun z hz=>hc z (ν _ hz)) h)
  ·simp only [e,bB,if_false] at h;rw [ϯ] at h;cases hy:y==n with
   | true=>
    rw [hy] at h;cases h;rcases hk with hk | hk
    ·exact absurd hk hq
    ·rw [hk,eq_of_beq hy];exact μ
   | false=>
    rw [hy] at h;exact ν _ (ih (fun z hz=>hc z (ν _ hz)) h)
theorem QG {names l:List (Str×aj)}{y:Str}(h:l.lookup y=some .free):(relK names l).lookup y=some .cell\/(relK names l).lookup y=some .free:=by
 induction l with
 | nil=>cases h
 | cons p l ih=>
  obtain ⟨n,q⟩:=p;rw [ϯ] at h;unfold relK;rw [Κ];cases hy:y==n with
  | true=>
   rw [hy] at h;cases h;by_cases e:(bj==bj&&names.lookup n==some .cell)=true
   ·left;simp only [e,if_true,ϯ,hy]
   ·right;simp only [e,bB,if_false,ϯ,hy]
  | false=>
   rw [hy] at h;have:=ih h;by_cases e:(q==bj&&names.lookup n==some .cell)=true
   ·simp only [e,if_true,ϯ,hy];exact this
   ·simp only [e,bB,if_false,ϯ,hy];exact this
theorem Jr (x:XOk Γ B cf k X c) {sc:eG}{js:List Nat}{xs:List Str}(h:chkS c sc js=true):Kw X sc (xY X.env.cells sc.names []) xs js:=by
 unfold chkS at h;simp only [ε,ϒ,beq_iff_eq] at h;obtain ⟨⟨⟨⟨⟨h1,h2⟩,h3⟩,h4⟩,h5⟩,h6⟩:=h;have hc:∀ y∈sc.names,y.2≠.cell:=fun y hy=>by simpa using h2 y hy
 have hcell:∀ y∈sc.names,y.2=.free->∃ a,X.env.cells.lookup y.1=some a:=fun y hy hf=>by have:=h5 y hy;rw [hf] at this;refine x.cells y.1 ?_;simpa using this
 refine ⟨zfT hcell,hc,h1,fun y hy hl=>?_,fun y c' q=>(yL sc.names [] hcell (fun _ q=>by cases q)).1 c' q,fun y hy=>?_,fun j hj y hy=>?_,fun j hj=>?_⟩
 ·have:=h3 y hy;rw [hl] at this;simpa using this
 ·rw [wV x] at hy;refine (yL sc.names [] hcell (fun _ q=>by cases q)).2 (.inl ?_);rcases hy with q | q
  ·exact Yw hc q (.inl rfl)
  ·exact Yw hc q (.inr rfl)
 ·have q:=h6 j hj;rw [x.N] at hy;rw [hy] at q;simp only [ε,nC,beq_iff_eq] at q;refine ⟨?_,?_,(yL sc.names [] hcell (fun _ q=>by cases q)).2 (.inl (bK q.2)),?_⟩
  ·unfold Vis;rw [x.nm];rcases q.1 with z | z
   ·exact .inr (.inl z)
   ·exact .inr (.inr z)
  ·unfold oU;rw [x.nm];rcases q.1 with z | z <;> rw [z] <;> decide
  ·rw [wV x];exact QG q.2
 ·have q:=h6 j hj;cases e:c.N[j]? with
  | none=>rw [e] at q;cases q
  | some y=>rw [x.N];exact (Β.mp e).1
theorem KD (x:XOk Γ B cf k X c) {sc:eG}{js:List Nat}{xs:List Str}(h:chkS c sc js=true) (hn:(xs++js.map (fun j=>c.N.getD j "")).Nodup) (C:Addr) (s3:ξ) (H3:Hp) (fp:List Addr):
  XOk Γ B cf k (cxG X sc (xY X.env.cells sc.names []) xs js C s3 H3 fp) (inner c sc xs js):=by
 have K:=Jr (xs:=xs) x h;refine ⟨x.hK,wV x sc,K.kind,by show xs++js.map (fun j=>X.N.getD j "")=_;rw [x.N];rfl,by show (xs++js.map (fun j=>X.N.getD j "")).Nodup;rw [x.N];exact hn,fun q=>absurd (show false=true from q) Ω,x.calm,x.room,fun y hy=>?_,x.fns,x.bare,x.consts,x.fa,x.cl,x.ca,x.ob⟩;have hy':(my sc X.env).names.lookup y=some .cell\/(my sc X.env).names.lookup y=some .free:=by rw [wV x];exact hy
 exact K.has y hy'
end
end EV
namespace L2
open PySem PySem.Spec PyProof.Rows
section
variable {X:Cx}{tg:Expr}
theorem zik {pJ:List (Addr×Obj)}{σ:St}{H:Hp}{s:ξ}{R:It->Hp->Prop}{a:Addr}(I:Inv X pJ σ H s) (h:((∃ xs,SqL X.K H a xs)/\R (Itl X.K a) H)\/((∃ xs,SqT X.K H a xs)/\R (Itt X.K a) H)):Δ (Λ X.prog X.w) X.A (m5 (.ref a)) (PIE X pJ σ tg R) X.xe s:=by
 have fp:∀ b∈[s.heap.objs.size],FpOk X pJ H b:=fun b hb=>by rw [Η.mp hb];exact I.fpOk (χ _) (I.hok.fresh (χ _))
 rcases h with ⟨⟨xs,hq⟩,q⟩ | ⟨⟨xs,hq⟩,q⟩
 ·obtain ⟨its,rv,p,hz⟩:=I.list hq;exact nJ p.isList ⟨s.heap.objs.size,[s.heap.objs.size],_,_,H,rfl,I.kept (t':=s.toks) fun b o e=>θ _ e,K4 a _,⟨_,Ζ _ rfl,rfl,rfl⟩,fp,q⟩
 ·obtain ⟨its,rv,p,hz⟩:=I.tuple hq;exact wpAny_pyIter_tuple (show s.heap.IsTuple a its.toArray from p) ⟨s.heap.objs.size,[s.heap.objs.size],_,_,H,rfl,I.kept (t':=s.toks) fun b o e=>θ _ e,JG a _,⟨_,Ζ _ rfl,rfl,rfl⟩,fp,q⟩
noncomputable def Its (x:Str):It:=⟨fun i _=>i < x.cps.size,fun i H v H'=>H'=H/\∃ c,x.cps[i]?=some c/\v=.str ⟨#[c]⟩,fun i _=>x.cps.size<=i⟩
theorem K3 {P:Χ}{w:Ϛ}{K:W.Frag}{tg:Expr}(x:Str) (t:Tok) (it:Addr):Turn P w K tg (Its x) [it] it (fun i h=>h.IsStrIter it "str_ascii_iterator" x t i) where
 mem:=by simp
 obj:=fun i h st b hb=>by
  have e:b=it:=by simpa using hb
  subst e;obtain ⟨o,e,c,d⟩:=st;exact ⟨o,e,fun v z=>by rw [d] at z;cases z⟩
 keep:=fun i h h' st k=>by obtain ⟨o,e,r⟩:=st;exact ⟨o,k it (by simp) o e,r⟩
 item:=by
  intro X hP hw hK hc i pJ s σ H E I hf st hg;subst hP hw hK;obtain ⟨f0,f1,f2,f3,f4,f5⟩:=hf it (by simp);refine (Walks.strAscii (prog:=X.prog) (w:=X.w) (I.ok.hd hc) it x t).item i s _ _ hg st fun v h' tk hv st' kk=>?_
  obtain ⟨c,u,h1,rfl⟩:=hv;have I1:Inv X pJ σ H { s with heap:=h',toks:=tk }:=I.turned (fun b o hb e=>kk b o (by simpa using hb) e) f0 f1 f3 f4 f5;obtain ⟨o,e,c1,d⟩:=id st';exact ⟨_,rfl,zaV (s:={ s with heap:=h',toks:=tk }) e c1 d (by decide) ⟨.str ⟨#[c]⟩,H,I1,⟨u,rfl⟩,⟨rfl,c,h1,rfl⟩,st',fun b hb=>(hf b hb).1⟩⟩
 done:=by intro X hP hw hK hc i pJ s σ H E I hf st hg;subst hP hw hK;obtain ⟨f0,f1,f2,f3,f4,f5⟩:=hf it (by simp);have hg:x.cps.size<=i:=hg;exact wpAny_pyNext_ascii_end (I.ok.hd hc) st (by simp [hg]) fun h' eb=>⟨rfl,I.turned (t':=s.toks) (fun b o hb e=>eb b o hb e) f0 f1 f3 f4 f5⟩
 self:=fun _ _ _ _ _ st h=>wpAny_pyIter_striter_ascii st h
theorem K1 {P:Χ}{w:Ϛ}{K:W.Frag}{tg:Expr}(x:Str) (t:Tok) (it:Addr):Turn P w K tg (Its x) [it] it (fun i h=>h.IsStrIter it "str_iterator" x t i) where
 mem:=by simp
 obj:=fun i h st b hb=>by
  have e:b=it:=by simpa using hb
  subst e;obtain ⟨o,e,c,d⟩:=st;exact ⟨o,e,fun v z=>by rw [d] at z;cases z⟩
 keep:=fun i h h' st k=>by obtain ⟨o,e,r⟩:=st;exact ⟨o,k it (by simp) o e,r⟩
 item:=by
  intro X hP hw hK hc i pJ s σ H E I hf st hg;subst hP hw hK;obtain ⟨f0,f1,f2,f3,f4,f5⟩:=hf it (by simp);refine (Walks.strWide (prog:=X.prog) (w:=X.w) (I.ok.hd hc) it x t).item i s _ _ hg st fun v h' tk hv st' kk=>?_
  obtain ⟨c,u,h1,rfl⟩:=hv;have I1:Inv X pJ σ H { s with heap:=h',toks:=tk }:=I.turned (fun b o hb e=>kk b o (by simpa using hb) e) f0 f1 f3 f4 f5;obtain ⟨o,e,c1,d⟩:=id st';exact ⟨_,rfl,zaV (s:={ s with heap:=h',toks:=tk }) e c1 d (by decide) ⟨.str ⟨#[c]⟩,H,I1,⟨u,rfl⟩,⟨rfl,c,h1,rfl⟩,st',fun b hb=>(hf b hb).1⟩⟩
 done:=by intro X hP hw hK hc i pJ s σ H E I hf st hg;subst hP hw hK;obtain ⟨f0,f1,f2,f3,f4,f5⟩:=hf it (by simp);have hg:x.cps.size<=i:=hg;exact wpAny_pyNext_wide_end (I.ok.hd hc) st (by simp [hg]) fun h' eb=>⟨rfl,I.turned (t':=s.toks) (fun b o hb e=>eb b o hb e) f0 f1 f3 f4 f5⟩
 self:=fun _ _ _ _ _ st h=>wpAny_pyIter_striter_wide st h
theorem zfq {pJ:List (Addr×Obj)}{σ:St}{H:Hp}{s:ξ}{R:It->Hp->Prop}{z:Str}{t:Tok}(I:Inv X pJ σ H s) (h:R (Its z) H):Δ (Λ X.prog X.w) X.A (m5 (.str z t)) (PIE X pJ σ tg R) X.xe s:=by
 have fp:∀ b∈[s.heap.objs.size],FpOk X pJ H b:=fun b hb=>by rw [Η.mp hb];exact I.fpOk (χ _) (I.hok.fresh (χ _))
 cases ha:z.cps.all (· < 128) with
 | false=>exact wpAny_pyIter_wide ha ⟨s.heap.objs.size,[s.heap.objs.size],_,_,H,rfl,I.kept (t':=s.toks) fun b o e=>θ _ e,K1 z t _,⟨_,Ζ _ rfl,rfl,rfl⟩,fp,h⟩
 | true=>exact wpAny_pyIter_ascii ha ⟨s.heap.objs.size,[s.heap.objs.size],_,_,H,rfl,I.kept (t':=s.toks) fun b o e=>θ _ e,K3 z t _,⟨_,Ζ _ rfl,rfl,rfl⟩,fp,h⟩
theorem zhs {l:Expr}{tl:TE}(hl:PE X l tl):PI X tg l (fun σ H R=>tl σ H fun x H1=>(∃ a,x=.ref a/\(((∃ xs,SqL X.K H1 a xs)/\R (Itl X.K a) H1)\/((∃ xs,SqT X.K H1 a xs)/\R (Itt X.K a) H1)))\/∃ z,x=.str z/\R (Its z) H1):=by
 intro pJ s σ H R I h;refine thn (hl pJ s σ H _ I h) fun v s1 ⟨x,H1,I1,r1,q⟩=>?_
 rcases q with ⟨a,e,q⟩ | ⟨z,e,q⟩
 ·subst e;cases r1;exact zik I1 q
 ·subst e;obtain ⟨t,rfl⟩:=r1;exact zfq I1 q
theorem zb8 {a:Expr}{ta:TA}{p pos:Pos}{elts:List Expr}{kk:Nat}{tp:Pos}(hg:Gl X "enumerate") (hm:X.mg "enumerate"=none) (hv:cX "enumerate"=some (.type "enumerate")) (ha:PA X [a] ta) (hs:ϟ [a] X.env=[(false,eval a X.env)]):
  PI X (.Tuple elts kk tp) (.Call (.Name "enumerate" p) [a] [] pos) (fun σ H R=>ta σ H fun vs H1=>∃ l,vs=[.ref l]/\(((∃ xs,SqL X.K H1 l xs)/\R (Ite X.K l) H1)\/False)):=by
 intro pJ s σ H R I h;refine Call_ (qC I hg hm hv (cI (thn (ha pos pJ s σ H _ I h) fun us s1 ⟨vs,H1,I1,r1,q1⟩=>?_) hs rfl));obtain ⟨l,e,q1⟩:=q1;subst e;obtain ⟨u,rfl,ru⟩:=r1.one;cases (show u=Θ l from ru);have fp:∀ b∈[s1.heap.objs.size+1,s1.heap.objs.size],FpOk X pJ H1 b:=fun b hb=>by
  have hb':b=s1.heap.objs.size+1\/b=s1.heap.objs.size:=by simpa using hb
  rcases hb' with rfl | rfl
  ·exact I1.fpOk (by lia) (I1.hok.fresh (by lia))
  ·exact I1.fpOk (χ _) (I1.hok.fresh (χ _))
 rcases q1 with ⟨⟨xs,hq⟩,q⟩ | q
 ·obtain ⟨its,rv,pl,hz⟩:=I1.list hq;refine call_enumerate_list pl.isList fun h' he hit hsz hk=>?_
  have I2:Inv X pJ σ H1 { s1 with heap:=h' }:=I1.kept (t':=s1.toks) hk;exact wpAny_pyIter_enum he ⟨_,[s1.heap.objs.size+1,s1.heap.objs.size],_,_,H1,rfl,I2,K5 l _ _ (Nat.succ_ne_self _),⟨⟨_,he⟩,hit⟩,fp,q⟩
 ·exact q.elim
end
end L2
namespace EV
open PySem PySem.Spec PyProof.Rows L2
section
variable {Γ:Gm}{Hz:Hp}{ρ:List Slot}
theorem zy {α:Type}{l:List α}{i j:Nat}{a b:α}:(l.set i a)[j]?=some b->(i=j/\i < l.length/\b=a)\/(i≠j/\l[j]?=some b):=by
 intro h;by_cases e:i=j
 ·subst e;by_cases hi:i < l.length
  ·rw [ϡ hi] at h;cases h;exact .inl ⟨rfl,hi,rfl⟩
  ·rw [o9 (by lia)] at h;rw [bu (by lia)] at h;cases h
 ·rw [Μ e] at h;exact .inr ⟨e,h⟩
theorem EnvO.zeg {H:Hp}{g:G}{σ:L2.St}{i:Nat}{d:D}{v:V}(env:EnvO Γ Hz H g ρ σ) (h:Has Γ g d v):EnvO Γ Hz H g (ρ.set i (.sh d)) (σ.set i (some v)):=by
 have hl:=env.len;refine ⟨by simp [hl],fun j e q=>?_,fun j e q=>?_,fun j j' e e' a q1 q2 q3 q4=>?_⟩
 ·rcases zy q with ⟨rfl,h1,h2⟩ | ⟨h1,h2⟩
  ·cases h2;exact ⟨v,ϡ (by lia),h⟩
  ·obtain ⟨u,e1,e2⟩:=env.sh j e h2;exact ⟨u,by rw [Μ h1];exact e1,e2⟩
 ·rcases zy q with ⟨rfl,h1,h2⟩ | ⟨h1,h2⟩
  ·cases h2
  ·obtain ⟨a,e1,e2⟩:=env.ow j e h2;exact ⟨a,by rw [Μ h1];exact e1,e2⟩
 ·rcases zy q1 with ⟨rfl,h1,h2⟩ | ⟨h1,h2⟩
  ·cases h2
  ·rcases zy q2 with ⟨rfl,h3,h4⟩ | ⟨h3,h4⟩
   ·cases h4
   ·rw [Μ h1] at q3;rw [Μ h3] at q4;exact env.inj j j' e e' a h2 h4 q3 q4
theorem EnvO.zju {H:Hp}{g:G}{σ:L2.St}{i:Nat}{d:D}{a:Addr}(env:EnvO Γ Hz H g ρ σ) (h0:Hz a=none) (hr:g.R a=none) (ha:a ∉ g.α) (hc:zU Γ H g a d) (hi:Vt d=false)
  (ne:∀ (j:Nat) (d':D),ρ[j]?=some (.ow d')->j≠i->σ[j]?≠some (some (.ref a))):EnvO Γ Hz H g (ρ.set i (.ow d)) (σ.set i (some (.ref a))):=by
 have hl:=env.len;refine ⟨by simp [hl],fun j e q=>?_,fun j e q=>?_,fun j j' e e' b q1 q2 q3 q4=>?_⟩
 ·rcases zy q with ⟨rfl,h1,h2⟩ | ⟨h1,h2⟩
  ·cases h2
  ·obtain ⟨u,e1,e2⟩:=env.sh j e h2;exact ⟨u,by rw [Μ h1];exact e1,e2⟩
 ·rcases zy q with ⟨rfl,h1,h2⟩ | ⟨h1,h2⟩
  ·cases h2;exact ⟨a,ϡ (by lia),h0,hr,ha,hc,hi⟩
  ·obtain ⟨b,e1,e2⟩:=env.ow j e h2;exact ⟨b,by rw [Μ h1];exact e1,e2⟩
 ·rcases zy q1 with ⟨rfl,h1,h2⟩ | ⟨h1,h2⟩
  ·rcases zy q2 with ⟨rfl,h3,h4⟩ | ⟨h3,h4⟩
   ·rfl
   ·rw [ϡ (by lia)] at q3;cases q3;rw [Μ h3] at q4;exact absurd q4 (ne j' e' h4 (dH h3))
  ·rcases zy q2 with ⟨rfl,h3,h4⟩ | ⟨h3,h4⟩
   ·rw [ϡ (by lia)] at q4;cases q4;rw [Μ h1] at q3;exact absurd q3 (ne j e h2 (dH h1))
   ·rw [Μ h1] at q3;rw [Μ h3] at q4;exact env.inj j j' e e' b h2 h4 q3 q4
theorem jM {Q:L2.St->Hp->Prop}{H:Hp}{g:G}:∀ {is:List Nat}{ds:List D}{vs:List V}{ρ:List Slot}{σ:L2.St},is.length=ds.length->Hass Γ g ds vs->EnvO Γ Hz H g ρ σ ->
  (∀ σ',EnvO Γ Hz H g ((is.zip ds).foldl (fun r p=>r.set p.1 (.sh p.2)) ρ) σ'->Q σ' H)->Xo is vs σ H Q
 | [],[],vs,ρ,σ,_,h,env,q=>by cases (show vs=[] from h);exact ⟨rfl,q σ env⟩
 | i::is,d::ds,vs,ρ,σ,hl,⟨v,r,e,hd,hr⟩,env,q=>by subst e;exact ⟨v,r,rfl,jM (by simpa using hl) hr (env.zeg hd) q⟩
 | [],_::_,_,_,_,hl,_,_,_=>by simp at hl
 | _::_,[],_,_,_,hl,_,_,_=>by simp at hl
set_option tactic.hygienic true in
theorem Zf {K:W.Frag}{t:T}{ρ':List Slot}{H:Hp}{g:G}{σ:L2.St}{d:D}{fr:Bool}{v:V}{Q:L2.St->Hp->Prop}(hb:yz ρ t (d,fr)=some ρ') (env:EnvO Γ Hz H g ρ σ) (sr:Same g.R H) (vo:VOk Γ Hz d fr v H g)
  (ne:fr=true->∀ (i:Nat) (d:D),ρ[i]?=some (.ow d)->σ[i]?≠some (some v)) (q:∀ σ',EnvO Γ Hz H g ρ' σ'->Q σ' H):tgOf K t v σ H Q:=by
 cases t with
 | one i=>
  simp only [yz] at hb;split at hb
  ·rename_i hc
   rw [ε] at hc;have hi:Vt d=false:=by simpa using hc.2
   cases hb;refine q _ ?_;cases fr with
   | false=>exact env.zeg vo
   | true=>
    obtain ⟨a,e,h0,hr,ha,hcell⟩:=(show ∃ a,v=.ref a/\Hz a=none/\g.R a=none/\a ∉ g.α/\zU Γ H g a d from vo)
    subst e;exact env.zju h0 hr ha hcell hi fun j d' h _=>ne rfl j d' h
  ·cases hb
 | tup is=>
  cases d with
  | tup ds=>
   simp only [yz] at hb;split at hb
   ·rename_i hc
    cases hb;have hv:Has Γ g (.tup ds) v:=by
     cases fr with
     | false=>exact vo
     | true=>obtain ⟨_,_,_,_,_,hc⟩:=(show ∃ a,v=.ref a/\Hz a=none/\g.R a=none/\a ∉ g.α/\zU Γ H g a (.tup ds) from vo);exact hc.elim
    obtain ⟨a,vs,rfl,h1,h2⟩:=hv;exact ⟨a,vs,rfl,SqT.of (sr _ _ h1),by rw [h2.len,hc.1],jM hc.1 h2 env q⟩
   ·cases hb
  | _=>simp [yz] at hb
 | nst i is=>
  have hb:((nst2 d).bind fun p=>if i < ρ.length/\is.length=p.2.length/\is.Nodup/\is.all (· < ρ.length) then some ((is.zip p.2).foldl (fun r p=>r.set p.1 (.sh p.2)) (ρ.set i (.sh p.1))) else none)=some ρ':=by cases d <;> exact hb
  cases e:nst2 d with
  | none=>rw [e] at hb;cases hb
  | some p=>
   rw [e] at hb;obtain ⟨y,ds⟩:=p;have ed:=zfa e;subst ed;have hb:(if i < ρ.length/\is.length=ds.length/\is.Nodup/\is.all (· < ρ.length) then some ((is.zip ds).foldl (fun r p=>r.set p.1 (.sh p.2)) (ρ.set i (.sh y))) else none)=some ρ':=hb;by_cases hc:i < ρ.length/\is.length=ds.length/\is.Nodup/\is.all (· < ρ.length)
   ·rw [if_pos hc] at hb;cases hb;have hv:Has Γ g (.tup [y,.tup ds]) v:=by
     cases fr with
     | false=>exact vo
     | true=>obtain ⟨_,_,_,_,_,hc⟩:=(show ∃ a,v=.ref a/\Hz a=none/\g.R a=none/\a ∉ g.α/\zU Γ H g a (.tup [y,.tup ds]) from vo);exact hc.elim
    obtain ⟨a,vs,rfl,h1,h2⟩:=hv;obtain ⟨u,u2,rfl,h3,h4⟩:=h2.two;obtain ⟨b,ws,rfl,h5,h6⟩:=h4;exact ⟨a,_,rfl,SqT.of (sr _ _ h1),rfl,u,_,rfl,.ref b,[],rfl,b,ws,rfl,SqT.of (sr _ _ h5),by rw [h6.len,hc.2.1],jM hc.2.1 h6 (env.zeg h3) fun σ' env'=>⟨rfl,q σ' env'⟩⟩
   ·rw [if_neg hc] at hb;cases hb
end
structure ItOk (Γ:Gm) (J:It) (l:List D) (g:G):Prop where
 go:∀ (i:Nat) (H:Hp) (g':G),Le g g'->Same g'.R H->i < l.length->J.go i H
 stop:∀ (i:Nat) (H:Hp) (g':G),Le g g'->Same g'.R H->l.length<=i->J.stop i H
 yld:∀ (i:Nat) (H:Hp) (g':G) (S:Store) (z:V) (H':Hp) (d:D),Le g g'->WOk Γ H g' S->l[i]?=some d->J.yld i H z H'->∃ g2,Step H g' H' g2/\Same H H'/\WOk Γ H' g2 S/\Has Γ g2 d z
theorem Z2:∀ (n:Nat) (l:List D),(vW n l).length=l.length
 | _,[]=>rfl
 | n,d::l=>by show (vW (n+1) l).length+1=_;rw [Z2];rfl
theorem Jk:∀ (n:Nat) (l:List D) (i:Nat) (d:D),(vW n l)[i]?=some d->∃ d0,l[i]?=some d0/\d=.tup [.int ((n+i:Nat):Int),d0]
 | _,[],i,d,h=>by simp [vW] at h
 | n,x::l,0,d,h=>by have h:some (D.tup [.int n,x])=some d:=h;cases h;exact ⟨x,rfl,rfl⟩
 | n,x::l,i+1,d,h=>by
  have h:(vW (n+1) l)[i]?=some d:=by simpa [vW] using h
  obtain ⟨d0,e1,e2⟩:=Jk (n+1) l i d h;refine ⟨d0,by simpa using e1,?_⟩;rw [e2,show n+1+i=n+(i+1) by lia]
def TXi (Γ:Gm) (cf:Cf) (e:E):TI:=fun σ H Q=>∃ ρ S W g Hz,wpI cf ρ e W S/\WOk Γ H g S/\EnvO Γ Hz H g ρ σ/\∀ l J H' g' S',Step H g H' g'->WOk Γ H' g' S'->ItOk Γ J l g'->W l S'->Q J H'
def TXf (Γ:Gm) (cf:Cf) (es:List E):TT:=fun σ H Q=>∃ ρ S W g Hz,wpF cf ρ es W S/\WOk Γ H g S/\EnvO Γ Hz H g ρ σ/\∀ b H' g' S',Step H g H' g'->WOk Γ H' g' S'->W b S'->Q b H'
theorem goI {Γ:Gm}{cf:Cf}{σ:L2.St}{H:Hp}{P:Prop}{e:E}{Q} (h:TXi Γ cf e σ H Q) (f:∀ ρ S W g Hz,wpI cf ρ e W S->WOk Γ H g S->EnvO Γ Hz H g ρ σ->(∀ l J H' g' S',Step H g H' g'->WOk Γ H' g' S'->ItOk Γ J l g'->W l S'->Q J H')->P):P:=
 let ⟨ρ,S,V,g,Hz,a,b,c,d⟩:=h;f ρ S V g Hz a b c d
theorem goF {Γ:Gm}{cf:Cf}{σ:L2.St}{H:Hp}{P:Prop}{es:List E}{Q} (h:TXf Γ cf es σ H Q) (f:∀ ρ S W g Hz,wpF cf ρ es W S->WOk Γ H g S->EnvO Γ Hz H g ρ σ->(∀ b H' g' S',Step H g H' g'->WOk Γ H' g' S'->W b S'->Q b H')->P):P:=
 let ⟨ρ,S,V,g,Hz,a,b,c,d⟩:=h;f ρ S V g Hz a b c d
section
variable {X:Cx}{Γ:Gm}{S:Store}{x y z tgt:Expr}{pos p tp:Pos}{cf:Cf}{a b:E}{elts:List Expr}{kk:Nat}
theorem PI.imp {wi wi':TI}(h:PI X tgt x wi) (i:∀ σ H Q,wi' σ H Q->wi σ H Q):PI X tgt x wi':=fun pJ s σ H Q I q=>h pJ s σ H Q I (i σ H Q q)
theorem zdG {a:Addr}{vs:List V}{l:List D}{g:G}(h:∀ g',Le g g'->∀ H,Same g'.R H->SqL X.K H a vs) (hh:Hass Γ g l vs):ItOk Γ (Itl X.K a) l g where
 go:=fun i H g' le sr hi=>⟨vs,vs[i]'(by rw [hh.len];exact hi),h g' le H sr,by simp [hh.len,hi]⟩
 stop:=fun i H g' le sr hi=>⟨vs,h g' le H sr,by rw [hh.len];exact hi⟩
 yld:=fun i H g' S z H' d le w hd y=>by obtain ⟨e,y⟩:=y;subst e;obtain ⟨v,hv,hd'⟩:=hh.get hd;have e2:=y vs (h g' le _ w.rh);rw [hv] at e2;cases e2;exact ⟨g',Step.refl _ _,Same.refl _,w,hd'.mono le⟩
theorem zdE {a:Addr}{vs:List V}{l:List D}{g:G}(h:∀ g',Le g g'->∀ H,Same g'.R H->SqT X.K H a vs) (hh:Hass Γ g l vs):ItOk Γ (Itt X.K a) l g where
 go:=fun i H g' le sr hi=>⟨vs,vs[i]'(by rw [hh.len];exact hi),h g' le H sr,by simp [hh.len,hi]⟩
 stop:=fun i H g' le sr hi=>⟨vs,h g' le H sr,by rw [hh.len];exact hi⟩
 yld:=fun i H g' S z H' d le w hd y=>by obtain ⟨e,y⟩:=y;subst e;obtain ⟨v,hv,hd'⟩:=hh.get hd;have e2:=y vs (h g' le _ w.rh);rw [hv] at e2;cases e2;exact ⟨g',Step.refl _ _,Same.refl _,w,hd'.mono le⟩
theorem zij {z:Str}{g:G}:ItOk Γ (Its z) (z.cps.toList.map fun c=>D.str ⟨#[c]⟩) g where
 go:=fun i H g' le sr hi=>by
  show i < z.cps.size
  simpa using hi
 stop:=fun i H g' le sr hi=>by
  show z.cps.size<=i
  simpa using hi
 yld:=fun i H g' S v H' d le w hd y=>by obtain ⟨e,c,e1,e2⟩:=y;subst e e2;refine ⟨g',Step.refl _ _,Same.refl _,w,?_⟩;rw [Ρ,ϧ,e1] at hd;cases hd;rfl
theorem zdF {lo:Int}{n:Nat}{g:G}:ItOk Γ (Itr lo n) ((ϝ n).map fun (k:Nat)=>D.int (lo+(k:Int))) g where
 go:=fun i H g' le sr hi=>by
  show i < n
  simpa using hi
 stop:=fun i H g' le sr hi=>by
  show n<=i
  simpa using hi
 yld:=fun i H g' S z H' d le w hd y=>by
  obtain ⟨e,y⟩:=y;subst e y;refine ⟨g',Step.refl _ _,Same.refl _,w,?_⟩;rw [Ρ] at hd;cases q:(ϝ n)[i]? with
  | none=>rw [q] at hd;cases hd
  | some j=>
   rw [q] at hd;cases hd;have:=(Β.mp q).2;simp at this;subst this;rfl
theorem zby {l:List D}{vs:List V}{g g':G}{H:Hp}{i:Nat}{d:D}{a:Addr}{y:V}(hh:Hass Γ g l vs) (le:Le g g') (w:WOk Γ H g' S) (hd:(vW 0 l)[i]?=some d) (ha:H a=none) (hy:vs[i]?=some y):
  ∃ g2,Step H g' (upd H a (.tup [.int i,y])) g2/\Same H (upd H a (.tup [.int i,y]))/\WOk Γ (upd H a (.tup [.int i,y])) g2 S/\Has Γ g2 d (.ref a):=by obtain ⟨d0,e1,e2⟩:=Jk 0 l i d hd;obtain ⟨v,hv,hd'⟩:=hh.get e1;rw [hy] at hv;cases hv;have hr:=w.notR ha;refine ⟨g'.put a (.tup [.int i,y]),(Step.of_same (yo ha) (Le.refl g') (fun _ h=>.inl h) fun _ h=>.inl h).put hr ha,yo ha,(w.laid ha).put zp hr (w.notA ha),?_⟩;rw [e2,show 0+i=i by lia];exact ⟨a,[.int i,y],rfl,zp,.int i,[y],rfl,rfl,y,[],rfl,(hd'.mono le).mono (Le.put hr),rfl⟩
theorem zil {a:Addr}{vs:List V}{l:List D}{g:G}(h:∀ g',Le g g'->∀ H,Same g'.R H->SqL X.K H a vs) (hh:Hass Γ g l vs):ItOk Γ (Ite X.K a) (vW 0 l) g where
 go:=fun i H g' le sr hi=>by rw [Z2] at hi;exact ⟨vs,vs[i]'(by rw [hh.len];exact hi),h g' le H sr,by simp [hh.len,hi]⟩
 stop:=fun i H g' le sr hi=>by rw [Z2] at hi;exact ⟨vs,h g' le H sr,by rw [hh.len];exact hi⟩
 yld:=fun i H g' S z H' d le w hd yy=>by obtain ⟨p,y,hp,rfl,rfl,hy⟩:=yy;exact zby hh le w hd hp (hy vs (h g' le _ w.rh))
theorem zjF (hK:X.K=Γ.K) (h:PE X x (TX Γ cf a)):PI X tgt x (TXi Γ cf (.seq a)):=
 PI.imp (zhs h) fun σ H Q h0=>goI h0 fun ρ S W g Hz hw w env k=>⟨ρ,S,_,g,Hz,hw,w,env,fun x v H1 g1 S1 st w1 vx h=>by
  obtain ⟨g2,st2,w2,hx,q⟩:=vx.keep st w1 h;obtain ⟨l,el,q⟩:=zX q;generalize x.1=d at *;cases d with
  | lst l'=>
   cases el;obtain ⟨a,vs,e1,h1,h2⟩:=hx;exact .inl ⟨a,e1,.inl ⟨⟨vs,SqL.of (w2.rh _ _ h1)⟩,k _ _ H1 g2 S1 st2 w2 (zdG (fun g3 le H2 sr=>SqL.of (sr _ _ (le.rr _ _ h1))) h2) q⟩⟩
  | tup l'=>
   cases el;obtain ⟨a,vs,e1,h1,h2⟩:=hx;exact .inl ⟨a,e1,.inr ⟨⟨vs,SqT.of (w2.rh _ _ h1)⟩,k _ _ H1 g2 S1 st2 w2 (zdE (fun g3 le H2 sr=>SqT.of (sr _ _ (le.rr _ _ h1))) h2) q⟩⟩
  | scr ns=>
   cases el;obtain ⟨a,e1,h1⟩:=hx;exact .inl ⟨a,e1,.inl ⟨⟨_,by rw [hK];exact w2.rh.seq h1⟩,k _ _ H1 g2 S1 st2 w2 (zdG (fun g3 le H2 sr=>by rw [hK];exact sr.seq (le.rr.seq h1)) Hass.ints) q⟩⟩
  | str z=>
   cases el;exact .inr ⟨z,hx,k _ _ H1 g2 S1 st2 w2 zij q⟩
  | ktp l'=>
   cases el;obtain ⟨a,vs,e1,h1,h2⟩:=hx;exact .inl ⟨a,e1,.inr ⟨⟨vs,by rw [hK];exact .inr h1⟩,k _ _ H1 g2 S1 st2 w2 (zdE (fun g3 le H2 sr=>by rw [hK];exact .inr h1) h2) q⟩⟩
  | _=>cases el⟩
theorem zg6 (hK:X.K=Γ.K) (hg:Gl X "enumerate") (hm:X.mg "enumerate"=none) (hs:notStar x=true) (h:PE X x (TX Γ cf a)):PI X (.Tuple elts kk tp) (.Call (.Name "enumerate" p) [x] [] pos) (TXi Γ cf (.enum a)):=
 PI.imp (zb8 hg hm rfl (yg h xq (zc hs _ _)) (zc hs _ _)) fun σ H Q h0=>goI h0 fun ρ S W g Hz hw w env k=>⟨ρ,S,_,g,Hz,hw,w,env,fun x v H1 g1 S1 st w1 vx h=>by
  obtain ⟨g2,st2,w2,hx,q⟩:=vx.keep st w1 h;obtain ⟨l,el,q⟩:=zX q;generalize x.1=d at *;cases d with
  | lst l'=>
   cases el;obtain ⟨a,vs,e1,h1,h2⟩:=hx;exact ⟨a,by rw [e1],.inl ⟨⟨vs,SqL.of (w2.rh _ _ h1)⟩,k _ _ H1 g2 S1 st2 w2 (zil (fun g3 le H2 sr=>SqL.of (sr _ _ (le.rr _ _ h1))) h2) q⟩⟩
  | _=>cases el⟩
theorem zgW (hg:Gl X "range") (hm:X.mg "range"=none) (hs:notStar x=true) (h:PE X x (TX Γ cf a)):PI X tgt (.Call (.Name "range" p) [x] [] pos) (TXi Γ cf (.rng none a)):=
 PI.imp (QV hg hm (yg h xq (zc hs _ _)) (zc hs _ _)) fun σ H Q h0=>goI h0 fun ρ S W g Hz hw w env k=>⟨ρ,S,_,g,Hz,hw,w,env,fun x v H1 g1 S1 st w1 vx h=>by
  obtain ⟨j,e,q⟩:=vx.int h;obtain ⟨hf,q⟩:=yr q;rw [ε] at hf;have h1:j.toNat<=1000000:=of_decide_eq_true hf.1;have h2:-1000000<=j:=of_decide_eq_true hf.2;refine ⟨j,by rw [e],by lia,by lia,k _ _ H1 g1 S1 st w1 ?_ q⟩;have:=zdF (Γ:=Γ) (lo:=0) (n:=(j - 0).toNat) (g:=g1);rw [show (j - 0).toNat=j.toNat by lia] at this;rw [show zR 0 j=(ϝ j.toNat).map fun (k:Nat)=>D.int (0+(k:Int)) by unfold zR;rw [show (j - 0).toNat=j.toNat by lia]]
  exact this⟩
theorem zgV (hg:Gl X "range") (hm:X.mg "range"=none) (hs:notStar x=true) (hs2:notStar y=true) (hl:PE X x (TX Γ cf a)) (h:PE X y (TX Γ cf b)):PI X tgt (.Call (.Name "range" p) [x,y] [] pos) (TXi Γ cf (.rng (some a) b)):=
 PI.imp (QT hg hm (yg hl (yg h xq (zc hs2 _ _)) (zc hs _ _)) (by rw [zc hs,zc hs2];rfl) (zc hs2 _ _)) fun σ H Q h0=>goI h0 fun ρ S W g Hz hw w env k=>two (G1:=fun u v H'=>∃ i j:Int,[u,v]=[.int i,.int j]/\(-(2 ^ 62)<=i/\i < 2 ^ 62/\-(2 ^ 62)<=j/\j < 2 ^ 62)/\Q (Itr i (j - i).toNat) H') hw w env fun x y u v H' g' S' st w' vx vy h=>by obtain ⟨l,e,h⟩:=vx.int h;obtain ⟨j,e2,h⟩:=vy.int h;obtain ⟨hf,q⟩:=yr h;simp only [ε,decide_eq_true_eq] at hf;exact ⟨l,j,by rw [e,e2],⟨by omega,by omega,by omega,by omega⟩,k _ _ H' g' S' st w' zdF q⟩
theorem s_fn:PTs X [] (TXf Γ cf []):=fun pJ s σ H Q I h0=>goF h0 fun ρ S W g Hz hw w env k=>zeF pJ s σ H Q I (k true H g S (Step.refl H g) w hw)
theorem s_f1 (h:PT X x (TB Γ cf a)):PTs X [x] (TXf Γ cf [a]):=fun pJ s σ H Q I h0=>goF h0 fun ρ S W g Hz hw w env k=>zeE h pJ s σ H Q I ⟨ρ,S,_,g,Hz,hw,w,env,fun x H1 g1 S1 st w1 h=>by
 obtain ⟨b,e,q⟩:=vA h;rw [e]
 exact k b H1 g1 S1 st w1 q⟩
end
theorem Jg {α β:Type}{f:α->β}:∀ (l:List (Nat×α)) (r:List β) (i:Nat),(∀ p∈l,p.1≠i)->(l.foldl (fun r p=>r.set p.1 (f p.2)) r)[i]?=r[i]?
 | [],_,_,_=>rfl
 | p::l,r,i,h=>by rw [nA,Jg l _ i fun q hq=>h q (ν _ hq),Μ (h p μ)]
theorem Jf {α β:Type}{f:α->β}:∀ (l:List (Nat×α)) (r:List β),(l.foldl (fun r p=>r.set p.1 (f p.2)) r).length=r.length
 | [],_=>rfl
 | p::l,r=>by rw [nA,Jf l,aQ]
theorem Kr {ρ ρ':List Slot}{t:T}{d:D}(hn:ZS t=false) (h:yz ρ t (d,false)=some ρ'):ρ'.length=ρ.length/\∀ i,i ∉ tIs t->ρ'[i]?=ρ[i]?:=by
 cases t with
 | one j=>
  simp only [yz] at h;split at h
  ·cases h;exact ⟨by simp,fun i hi=>by rw [Μ];rintro rfl;exact hi (by simp [tIs])⟩
  ·cases h
 | tup is=>
  cases d with
  | tup ds=>
   simp only [yz] at h;split at h
   ·cases h;refine ⟨Jf _ _,fun i hi=>Jg _ _ i fun p hp=>?_⟩;rintro rfl;obtain ⟨p1,p2⟩:=p;exact hi (fO hp).1
   ·cases h
  | _=>simp [yz] at h
 | nst _ _=>cases hn
theorem jK {ρ:List Slot}{t:T}{js:List Nat}{i:Nat}{s:Slot}(h:(inn ρ t js)[i]?=some s):s=.no\/(nT t<=i/\∃ j,js[i - nT t]?=some j/\ρ[j]?=some s):=by
 unfold inn at h;by_cases hi:i < nT t
 ·rw [ϕ (by simpa using hi),d8,if_pos hi] at h;cases h;exact .inl rfl
 ·rw [Ϧ (by simpa using m8 hi),iJ,Ρ] at h;cases e:js[i - nT t]? with
  | none=>rw [e] at h;cases h
  | some j=>
   rw [e] at h;cases q:ρ[j]? with
   | none=>simp [q] at h;exact .inl h.symm
   | some z=>simp [q] at h;subst h;exact .inr ⟨by lia,j,rfl,q⟩
theorem uI {σ:L2.St}{js:List Nat}{n i j:Nat}{v:V}(hi:n<=i) (hj:js[i - n]?=some j) (h:σ[j]?=some (some v)):(Ϸ n none++rows σ js)[i]?=some (some v):=by rw [Ϧ (by simpa using hi),iJ];unfold rows;rw [Ρ,hj];simp [aZ,h]
section
variable {Γ:Gm}{Hz H:Hp}{g:G}{ρ:List Slot}{σ τ:L2.St}{t:T}{js:List Nat}
theorem zfF (env:EnvO Γ Hz H g ρ σ) (hj:js.Nodup):EnvO Γ Hz H g (inn ρ t js) (Ϸ (nT t) none++rows σ js):=by
 refine ⟨by simp [inn,rows],fun i d e=>?_,fun i d e=>?_,fun i j d e a h1 h2 h3 h4=>?_⟩
 ·rcases jK e with q | ⟨hi,j,e1,e2⟩
  ·cases q
  ·obtain ⟨v,h1,h2⟩:=env.sh j d e2;exact ⟨v,uI hi e1 h1,h2⟩
 ·rcases jK e with q | ⟨hi,j,e1,e2⟩
  ·cases q
  ·obtain ⟨a,h1,h2⟩:=env.ow j d e2;exact ⟨a,uI hi e1 h1,h2⟩
 ·rcases jK h1 with q | ⟨hi,k,e1,e2⟩
  ·cases q
  rcases jK h2 with q | ⟨hi',k',e1',e2'⟩
  ·cases q
  obtain ⟨b,q1,_⟩:=env.ow k d e2;obtain ⟨b',q1',_⟩:=env.ow k' e e2';have z:=uI hi e1 q1;have z':=uI hi' e1' q1';rw [h3] at z;rw [h4] at z';cases z;cases z';have hk:=env.inj k k' d e a e2 e2' q1 q1';subst hk;have:=(mG (Β.mp e1).1 hj).mp (e1.trans e1'.symm);lia
theorem Jj {ρ':List Slot}{d:D}(hn:ZS t=false) (hix:∀ i∈tIs t,i < nT t) (hs:yz (inn ρ t js) t (d,false)=some ρ') (env:EnvO Γ Hz H g ρ' τ):EnvO Γ Hz H g (inn ρ t js) τ:=by
 obtain ⟨h1,h2⟩:=Kr hn hs;have key:∀ i s,(inn ρ t js)[i]?=some s->s≠Slot.no->ρ'[i]?=some s:=fun i s e ne=>by
  rw [h2 i fun m=>?_]
  ·exact e
  ·rcases jK e with q | ⟨hi,_⟩
   ·exact ne q
   ·have:=hix i m;lia
 exact ⟨h1.symm.trans env.len,fun i d e=>env.sh i d (key i _ e (by simp)),fun i d e=>env.ow i d (key i _ e (by simp)),fun i j d e a q1 q2 q3 q4=>env.inj i j d e a (key i _ q1 (by simp)) (key j _ q2 (by simp)) q3 q4⟩
end
section
variable {X:Cx}{Γ:Gm}{cf:Cf}{t:T}{js:List Nat}{it elt:E}{ifs:List E}
def zfX (cf:Cf) (ρ:List Slot) (t:T) (js:List Nat) (ifs:List E) (elt:E):D->(Option D->Store->Prop)->Store->Prop:=fun d K S=>opt (yz (inn ρ t js) t (d,false)) fun ρ'=>wpF cf ρ' ifs (fun b S1=>tst b (wpE cf ρ' elt (fun x S2=>keep x fun d=>K (some d) S2) S1) (K none S1)) S
theorem zcR {n:Nat}{Qe:Addr->Hp->Prop}{σ:L2.St}{H:Hp}{V:Po}{ρ:List Slot}{S:Store}{g:G}{Hz:Hp}(hn:ZS t=false) (hix:∀ i∈tIs t,i < nT t) (ht:nT t=n) (hjs:js.Nodup) (hw:wpE cf ρ (.comp t js it ifs elt) V S) (w:WOk Γ H g S) (env:EnvO Γ Hz H g ρ σ)
  (k:∀ ds Da H' g' S',Step H g H' g'->WOk Γ H' g' S'->VN Γ H (.lst ds,.fr) (.ref Da) H' g'->V (.lst ds,.fr) S'->Qe Da H'):kY n js (TXi Γ cf it) (tgOf X.K t) (TXf Γ cf ifs) (TX Γ cf elt) Qe σ H:=by
 subst ht;refine ⟨ρ,S,_,g,Hz,hw,w,env,fun l J H1 g1 S1 st1 w1 hJ h1 Da hDa=>?_⟩;have h1:vO (zfX cf ρ t js ifs elt) l [] (fun ds S2=>V (.lst ds,.fr) S2) S1:=h1;refine ⟨fun i m ys τ H2=>m=l.length - i/\i<=l.length/\∃ g2 S2 acc,Step H1 g1 H2 g2/\WOk Γ H2 g2 S2/\EnvO Γ (upd Hz Da (.lst [])) H2 g2 (inn ρ t js) τ/\H2 Da=some (.lst ys)/\g2.R Da=none/\Da ∉ g2.α/\Hass Γ g2 acc ys/\fits acc.length=true/\vO (zfX cf ρ t js ifs elt) (l.drop i) acc (fun ds S2=>V (.lst ds,.fr) S2) S2,⟨_,rfl,aW _,g1,S1,[],?_⟩,?_⟩
 ·have st:=(Step.refl H1 g1).zO (o:=.lst []) hDa;have e1:=zm (zfF (t:=t) env hjs) st1;refine ⟨st,w1.laid hDa,zm ⟨e1.len,e1.sh,fun i d e=>?_,e1.inj⟩ st,zp,w1.notR hDa,w1.notA hDa,rfl,rfl,h1⟩;obtain ⟨b,f1,f2,f3,f4,f5,f6⟩:=e1.ow i d e;obtain ⟨o,ho,_⟩:=f5.kO;exact ⟨b,f1,by rw [zj (zz ho hDa)];exact f2,f3,f4,f5,f6⟩
 ·rintro i m ys τ H2 ⟨rfl,hi,g2,S2,acc,st2,w2,env2,hD2,hR2,hA2,hh2,hf2,hr2⟩;by_cases hlt:i < l.length
  ·refine .inr ⟨hJ.go i H2 g2 st2.le w2.rh hlt,fun z H3 hy=>?_⟩;obtain ⟨g3,st3,_,w3,hz⟩:=hJ.yld i H2 g2 S2 z H3 l[i] st2.le w2 (ψ hlt) hy;rw [oO hlt] at hr2;obtain ⟨hD3,hR3,hA3⟩:=st3.kept hD2 hR2 hA2;obtain ⟨ρ',es,hr3⟩:=zX (show opt (yz (inn ρ t js) t (l[i],false)) _ from hr2);refine Zf es (zm env2 st3) w3.rh (fr:=false) hz (fun h=>by cases h) fun τ3 env3=>⟨ρ',S2,_,g3,_,hr3,w3,env3,fun b H4 g4 S4 st4 w4 h4=>?_⟩
   obtain ⟨hD4,hR4,hA4⟩:=st4.kept hD3 hR3 hA3;cases b with
   | false=>
    rw [if_neg Ω];exact ⟨l.length - (i+1),by omega,rfl,hlt,g4,S4,acc,(st2.trans st3).trans st4,w4,Jj hn hix es (zm env3 st4),hD4,hR4,hA4,hh2.mono (st3.le.trans st4.le),hf2,h4⟩
   | true=>
    rw [if_pos rfl];refine ⟨ρ',S4,_,g4,_,h4,w4,zm env3 st4,fun x v H5 g5 S5 st5 w5 vx h5=>?_⟩;obtain ⟨g6,st6,w6,hx,q⟩:=vx.keep st5 w5 h5;obtain ⟨hf,q⟩:=yr q;obtain ⟨hD5,hR5,hA5⟩:=st6.kept hD4 hR4 hA4;have st7:=(((st2.trans st3).trans st4).trans st6).zO (o:=.lst (ys++[v])) hDa;have env6:=Jj hn hix es (zm (zm env3 st4) st6);refine ⟨hD5,by rw [hh2.len];exact zdy hf2,l.length - (i+1),by omega,rfl,hlt,g6,S5,acc++[x.1],st7,w6.zO hR5 hA5,?_,zp,hR5,hA5,(hh2.mono ((st3.le.trans st4.le).trans st6.le)).app (Hass.mk1 hx),by rw [π];exact hf,q⟩;refine ⟨env6.len,env6.sh,fun i d e=>?_,env6.inj⟩;obtain ⟨b,f1,f2,f3,f4,f5,f6⟩:=env6.ow i d e;have hb:b≠Da:=by rintro rfl;rw [zp] at f2;cases f2
    exact ⟨b,f1,f2,f3,f4,f5.mono (Le.refl g6) fun o z=>by rw [zj hb];exact z,f6⟩
  ·have e:i=l.length:=by omega
   subst e;refine .inl ⟨hJ.stop _ H2 g2 st2.le w2.rh (χ _),?_⟩;rw [List.drop_length] at hr2;exact k acc Da H2 g2 S2 (st1.trans st2) w2 ⟨Da,rfl,st1.Ux hDa,hR2,hA2,ys,hD2,hh2⟩ hr2
end
section
variable {X:Cx}{Γ:Gm}{x y:Expr}{pos p tp:Pos}{cf:Cf}{a b:E}{elts:List Expr}{kk:Nat}
end
end EV
namespace L2
open PySem PyProof PyProof.Rows PySem.W
variable {X:Cx}{x st:Expr}{te ts:TE}{p2 pos:Pos}
end L2
namespace EV
open PySem PySem.Spec PyProof.Rows L2
def spN (Γ:Gm) (cx:Xp->Cf) (f n:Nat):Sp:=fun vs H Q E=>vs.length=n/\∃ g ds S V ex,WOk Γ H g S/\Hass Γ g ds vs/\cx ex f ds V S/\(∀ x v H' g' S',Step H g H' g'->WOk Γ H' g' S'->VN Γ H x v H' g'->V x S'->Q v H')/\∀ c e C H' g' S',Step H g H' g'->WOk Γ H' g' S'->Γ.ca c=some C->ex c S'->E e (some C) H'
theorem Q6 {X:Cx}:kj (CX1 X.prog X.w) X E0:=fun _ _ _ _ _ _ _ ⟨_,_,_,_,_,_,_,_,_,_,_,_,h⟩=>h.elim
def CfN (B:Tb) (cf:Cf):Prop:=∀ f ds V S ps,B.pars[f]?=some ps->cf f ds V S->ds.length=ps.length
theorem Y0:∀ (kvs acc:List (Key×V)),(acc++kvs).map (·.1) |>.Nodup->uf acc kvs=acc++kvs
 | [],acc,_=>by simp [uf]
 | p::r,acc,h=>by
  have hn:¬ (acc.any fun kv=>decide (kv.1=p.1))=true:=by intro q;rw [bz] at q;obtain ⟨kv,hm,he⟩:=q;have he:=of_decide_eq_true he;rw [Ϝ,gH] at h;exact h.2.2 kv.1 (dJ hm) p.1 (by simp) he
  have e:putK acc p.1 p.2=acc++[p]:=by unfold putK;rw [if_neg hn]
  show uf (putK acc p.1 p.2) r=_
  rw [e,Y0 r (acc++[p]) (by simpa using h)];simp
section
variable {X:Cx}{Γ:Gm}{B:Tb}{cx:Xp->Cf}{k:Nat}{c:Cc}{x y z:Expr}{pos p:Pos}{a:E}{es:List E}
theorem yq {xs:List Expr}{env:Env}{pos:Pos}(h:∀ x∈xs,notStar x=true):(dR pos (ϟ xs env)).any (·.1)=false:=by
 induction xs with
 | nil=>rfl
 | cons a l ih=>
  rw [zc (h a μ)];show (false||(dR pos (ϟ l env)).any (·.1))=false
  rw [ih fun z hz=>h z (ν _ hz)];rfl
set_option tactic.hygienic true in
theorem zfZ (b:BI):cX (biS b)=some (biV b):=by
 cases b with
 | isinst q=>cases q <;> decide +kernel
 | _=>decide +kernel
theorem s_call {f:Nat}{n:Str}{xs:List Expr}(hcf:CfN B (cx noX)) (ok:XOk Γ B (spN Γ cx) k X c) (hf:B.fns[f]?=some n) (hdt:dotted n=false) (hg:Gl X n) (hdb:(n==("__debug__":Str))=false) (hs:∀ z∈x::xs,notStar z=true) (h:PA X (x::xs) (TXs Γ (cx noX) es)):PE X (.Call (.Name n p) (x::xs) [] pos) (TX Γ (cx noX) (.call f es)):=by
 obtain ⟨a,fd,ps,h1,h2,h3,h4,h5,h6,_⟩:=(ok.fns f n hf).ex;refine (zeT h6 ok.rm hg (h2 hdt) h3 h4 .nil Q6 h hdb (zc (hs x μ) _ _) (yq fun z hz=>hs z (ν _ hz))).imp fun σ H Q h0=>goX h0 fun ρ S V g Hz hw w env kk=>⟨ρ,S,_,g,Hz,hw,w,env,fun ds vs H1 g1 S1 st w1 hv hc=>?_⟩
 show spN Γ cx f ps.length (vs++[]) _ _ _
 rw [ύ];exact ⟨by rw [hv.len];exact hcf f ds V S1 ps h5 hc,g1,ds,S1,V,noX,w1,hv,hc,fun x v H2 g2 S2 st2 w2 vx q=>kk x v H2 g2 S2 (st.trans st2) w2 (vx.back st) q,fun _ _ _ _ _ _ _ _ _ z=>z.elim⟩
theorem zg3:PK X [] (TXs Γ (cx noX) []):=fun pos pJ s σ H Q I h0=>goS h0 fun ρ S W g Hz hw w env kk=>zhr pos pJ s σ H Q I (kk [] [] H g S (Step.refl H g) w rfl hw)
theorem zel {n:Str}{kp:Pos}{kws:List bD}(h1:PE X x (TX Γ (cx noX) a)) (h2:PK X kws (TXs Γ (cx noX) es)):PK X (⟨some n,x,kp⟩::kws) (TXs Γ (cx noX) (a::es)):=fun pos pJ s σ H Q I h=>zeN h1 h2 pos pJ s σ H Q I (args_cons h)
theorem zam {g:G}{ds ds':List D}{vs:List V}{perm:List Nat}(h:perm.mapM (fun i=>ds[i]?)=some ds') (hv:Hass Γ g ds vs):Hass Γ g ds' (perm.map fun i=>vs.getD i .non):=by
 induction perm generalizing ds' with
 | nil=>
  simp at h;subst h;rfl
 | cons i r ih=>
  rw [List.mapM_cons] at h;cases e:ds[i]? with
  | none=>rw [e] at h;cases h
  | some d=>
   rw [e] at h;simp only [Option.bind_eq_bind,rF] at h;cases e2:r.mapM (fun i=>ds[i]?) with
   | none=>rw [e2] at h;cases h
   | some l=>
    rw [e2] at h;cases h;obtain ⟨v,hv',hd⟩:=hv.get e;refine ⟨v,_,?_,hd,ih e2⟩;simp [aZ,hv']
theorem zfl {kws:List bD}{ks:List Str}{env:Env}{pos:Pos}(h:yH kws=some ks):(bY pos (aG kws env)).all (·.1.isSome)=true/\(bY pos (aG kws env)).filterMap (·.1)=ks/\(bY pos (aG kws env)).any (·.1.isNone)=false:=by
 induction kws generalizing ks with
 | nil=>cases h;exact ⟨rfl,rfl,rfl⟩
 | cons q r ih=>
  obtain ⟨n,v,kp⟩:=q;cases n with
  | none=>cases h
  | some n=>
   simp only [yH,Α] at h;obtain ⟨l,h1,h2⟩:=h;subst h2;obtain ⟨i1,i2,i3⟩:=ih h1;refine ⟨?_,?_,?_⟩
   ·show (true&&(bY pos (aG r env)).all (·.1.isSome))=true
    rw [i1];rfl
   ·show n::(bY pos (aG r env)).filterMap (·.1)=n::l
    rw [i2]
   ·show (false||(bY pos (aG r env)).any (·.1.isNone))=false
    rw [i3];rfl
theorem zeo {f:Nat}{n:Str}{kws:List bD}{ks ps:List Str}{perm:List Nat}(hm:Mono (cx noX)) (ok:XOk Γ B (spN Γ cx) k X c) (hf:B.fns[f]?=some n) (hdt:dotted n=false) (hg:Gl X n) (hdb:(n==("__debug__":Str))=false) (h:PK X kws (TXs Γ (cx noX) es))
  (hk:yH kws=some ks) (hp:B.pars[f]?=some ps) (h1:perm.length=ps.length) (h2:∀ i∈perm,i < ks.length) (h3:perm.map (fun i=>ks.getD i "")=ps) (h4:ks.length=ps.length) (h5:(f,ks,perm)∈B.kws) (h6:es.length=ks.length):PE X (.Call (.Name n p) [] kws pos) (TX Γ (cx noX) (.callk f perm es)):=by
 obtain ⟨a,fd,ps',g1,g2,g3,g4,g5,g6,g7⟩:=(ok.fns f n hf).ex;have e5:ps'=ps:=ϐ (g5.symm.trans hp);subst e5;obtain ⟨k1,k2,k3⟩:=zfl (env:=X.env) (pos:=pos) hk;refine (Q4 g6 ok.rm hg (g2 hdt) g3 (g7 ks perm h1 h2 h3 h4 h5) Q6 h k1 k2 hdb (by rw [k3];rfl)).imp fun σ H Q h0=>goX h0 fun ρ S V g Hz hw w env kk=>⟨ρ,S,_,g,Hz,V3 hm es hw,w,env,fun ds vs H1 g1 S1 st w1 hv ⟨hc,hl⟩=>?_⟩
 obtain ⟨ds',em,hc⟩:=zX hc;have hz:vs.length=ks.length:=by rw [hv.len,hl,h6]
 show spN Γ cx f ps'.length (if vs.length=ks.length then []++perm.map fun i=>vs.getD i .non else []) _ _ _
 rw [if_pos hz,Ϥ];exact ⟨by simp [h1],g1,ds',S1,V,noX,w1,zam em hv,hc,fun x v H2 g2 S2 st2 w2 vx q=>kk x v H2 g2 S2 (st.trans st2) w2 (vx.back st) q,fun _ _ _ _ _ _ _ _ _ z=>z.elim⟩
theorem zkZ {b:BI}{xs:List Expr}{t:TA}{e:E}(ok:XOk Γ B (spN Γ cx) k X c) (hg:Gl X (biS b)) (hm:X.mg (biS b)=none) (hs:∀ z∈x::xs,notStar z=true) (h:PA X (x::xs) t) (i:∀ σ H Q,TX Γ (cx noX) e σ H Q->t σ H fun vs H1=>zfU X (biV b) vs H1 Q):PE X (.Call (.Name (biS b) p) (x::xs) [] pos) (TX Γ (cx noX) e):=by
 have hn:biS b≠("__name__":Str):=by
  cases b with
  | isinst q=>cases q <;> decide
  | _=>decide
 have hdb:(biS b==("__debug__":Str))=false:=by
  cases b with
  | isinst q=>cases q <;> decide
  | _=>decide
 have he:=zc (hs x μ) xs X.env;have hpl:=yq (pos:=pos) (env:=X.env) fun z hz=>hs z (ν _ hz)
 have bb:=zfZ b;cases hb:biV b with
 | builtin id=>rw [hb] at bb i;exact (Zx XF hg hm bb h hn hdb he hpl).imp i
 | type T=>rw [hb] at bb i;exact (YH XF hg hm bb h hn hdb he hpl).imp i
 | _=>cases b <;> cases hb
theorem s_is {t:Ty}{pz:Pos}(ok:XOk Γ B (spN Γ cx) k X c) (hg:Gl X "isinstance") (hm:X.mg "isinstance"=none) (hgt:Gl X (tyN t)) (hmt:X.mg (tyN t)=none) (hs:notStar x=true) (h:PE X x (TX Γ (cx noX) a)):PE X (.Call (.Name "isinstance" p) [x,.Name (tyN t) pz] [] pos) (TX Γ (cx noX) (.bi (.isinst t) [a])):=by
 have hvt:cX (tyN t)=some (.type (tyS t)):=by cases t <;> decide +kernel
 have hn:tyN t≠("__name__":Str):=by cases t <;> decide
 have hdb:(tyN t==("__debug__":Str))=false:=by cases t <;> decide
 refine (Zx (id:="isinstance") XF hg hm (by decide +kernel) (yg h (yg (zeV (v:=.ty (tyS t)) hgt hmt hvt rfl hn hdb) xq rfl) (zc hs _ _)) (by decide) (by decide) (zc hs _ _) rfl).imp fun σ H Q h0=>goX h0 fun ρ S V g Hz hw w env kk=>⟨ρ,S,_,g,Hz,hw,w,env,fun x v H1 g1 S1 st w1 vx h1=>?_⟩
 obtain ⟨⟨d,fr⟩,eb,q⟩:=zX h1;have eb:(isTy t (zE S1 x.1)).map (fun b=>(D.bl b,false))=some (d,fr):=eb;cases e2:isTy t (zE S1 x.1) with
 | none=>rw [e2] at eb;cases eb
 | some b=>
  rw [e2] at eb;cases eb;obtain ⟨r,r1,r2⟩:=ziq (X:=X) (Γ:=Γ) ok.hK e2;exact ⟨r,r1,r2 S1 H1 g1 v Q w1 (vx.rdb w1) (kk (.bl b,.st) _ H1 g1 S1 st w1 rfl q)⟩
def PPd (X:Cx) (pos:Pos) (keys:List (Option Expr)) (vals:List Expr) (ks:List Key) (t:TA):Prop:=∃ trs,PPs X pos keys vals trs/\∀ σ H (Q:List (V×V)->Hp->Prop),t σ H (fun vs H'=>Q ((ks.zip vs).map fun kv=>(kV kv.1,kv.2)) H')->V9 trs σ H Q
theorem zgZ:PPd X pos [] [] [] (TXs Γ (cx noX) []):=⟨[],zeK,fun σ H Q h0=>goS h0 fun ρ S W g Hz hw w env kk=>kk [] [] H g S (Step.refl H g) w rfl hw⟩
theorem zek {q:Const}{n:Nat}{p:Pos}{kx:Key}{keys:List (Option Expr)}{vals:List Expr}{ks:List Key}(hk:PE X (.Constant q n p) (tC (kV kx))) (h1:PE X x (TX Γ (cx noX) a)) (h2:PPd X pos keys vals ks (TXs Γ (cx noX) es)):PPd X pos (some (.Constant q n p)::keys) (x::vals) (kx::ks) (TXs Γ (cx noX) (a::es)):=by obtain ⟨trs,hp,ht⟩:=h2;refine ⟨_,zb6 hk h1 hp,fun σ H Q h=>?_⟩;obtain ⟨ρ,S,V,g,Hz,hw,w,env,kk⟩:=args_cons h;exact ⟨ρ,S,V,g,Hz,hw,w,env,fun x v H1 g1 S1 st w1 vx q=>ht σ H1 _ (kk x v H1 g1 S1 st w1 vx q)⟩
theorem zg7 {keys:List (Option Expr)}{vals:List Expr}{ks:List Key}(h:PPd X pos keys vals ks (TXs Γ (cx noX) es)) (hall:keys.all (·.isSome)=true) (hl:keys.length=vals.length) (h0:keys≠[]) (h15:keys.length<=15):PE X (.Dict keys vals pos) (TX Γ (cx noX) (.dic false ks es)):=by
 obtain ⟨trs,hp,ht⟩:=h;refine (zeR hp hall hl h0 h15).imp fun σ H Q h0=>goX h0 fun ρ S V g Hz hw w env kk p hp=>ht σ _ _ ?_
 have st0:=(Step.refl H g).zO (o:=.dK []) hp;refine ⟨ρ,S,_,g,Hz,hw,w.laid hp,zm env st0,fun ds vs H2 g2 S2 st2 w2 h2 q=>?_⟩;obtain ⟨hd,q⟩:=yr q;unfold zcP at hd;simp only [ε,decide_eq_true_eq] at hd;obtain ⟨⟨⟨hk,hn⟩,hz⟩,_⟩:=hd;obtain ⟨k1,k2,k3⟩:=st2.kept zp (w.notR hp) (w.notA hp);have el:ks.length=vs.length:=by rw [h2.len];exact hk
 refine ⟨k1,ks.zip vs,rfl,by rw [fP];lia,?_⟩
 rw [Y0 _ [] (by
  rw [Ϥ,mX (by lia)]
  exact hn)]
 exact kk (.dK ks ds,.fr) (.ref p) _ g2 S2 ((st0.trans st2).zO hp) (w2.zO k2 k3) ⟨p,rfl,hp,k2,k3,vs,zp,hk,h2⟩ q
theorem zen:PE X (.Dict [] [] pos) (TX Γ (cx noX) (.dic false [] [])):=zcc.imp fun σ H Q h0=>goX h0 fun ρ S V g Hz hw w env kk p hp=>
 kk (.dK [] [],.fr) (.ref p) _ g S ((Step.refl H g).zO hp) (w.laid hp) ⟨p,rfl,hp,w.notR hp,w.notA hp,[],zp,rfl,rfl⟩ hw
theorem zem {ks:List Key}:PE X (.Dict [] [] pos) (TX Γ (cx noX) (.dic true [] [])):=zcb.imp fun σ H Q h0=>goX h0 fun ρ S V g Hz hw w env kk p hp=>
 kk (.dT [] [],.fr) (.ref p) _ g S ((Step.refl H g).zO hp) (w.laid hp) ⟨p,rfl,hp,w.notR hp,w.notA hp,[],zp,rfl,rfl⟩ hw
end
open PySem.AutoSeq1 (wpAny_loadPart')
open PySem.MeetsSeq PySem.MeetsSeq2 PySem.MeetsSeq3 PySem.SeqAt PySem.SeqRoads2
section
variable {X:Cx}{Γ:Gm}{S:Store}{x y:Expr}{pos:Pos}
theorem Zh:∀ {ys:List Str}{us:List δ},Vals (ys.map V.str) us->PyProof.Rows.StrsAre us ys
 | [],_,.nil=>.nil
 | y::ys,_,.cons ⟨t,e⟩ q=>by subst e;exact .cons y t (Zh q)
def rJoin (K:W.Frag):V->List V->Hp->VK->Prop:=fun x xs H Q=>∃ z a ys,x=.str z/\xs=[.ref a]/\(SqL K H a (ys.map V.str)\/SqT K H a (ys.map V.str))/\(ys.map (·.length)).sum+ys.length*z.length<=16777216/\Q (.str (mO z ys)) H
theorem zff:MtR X "str.join" (rJoin X.K):=by
 rintro pJ s σ H x xs v us Q I rx rv ⟨z,a,ys,rfl,rfl,hq,hz,q⟩;obtain ⟨t,rfl⟩:=rx;obtain ⟨u,rfl,ru⟩:=rv.one;cases (show u=Θ a from ru);rcases hq with hq | hq
 ·obtain ⟨its,r,hp,_⟩:=I.list hq;exact PyProof.Rows.join_list hp.isList (by simpa using Zh r) hz fun t' k=>⟨.str _,H,I.tok _,⟨t',rfl⟩,q⟩
 ·obtain ⟨its,r,hp,_⟩:=I.tuple hq;exact PyProof.Rows.join_tuple hp (by simpa using Zh r) hz fun t' k=>⟨.str _,H,I.tok _,⟨t',rfl⟩,q⟩
theorem zfe:MtR X "str.index" (fun x xs H Q=>∃ z y i rest,x=.str z/\xs=[.str y]/\Ϙ z y 0 z.length 1=i::rest/\Q (.int (i:Nat)) H):=by rintro pJ s σ H x xs v us Q I rx rv ⟨z,y,i,rest,rfl,rfl,ho,q⟩;obtain ⟨t,rfl⟩:=rx;obtain ⟨u,rfl,ru⟩:=rv.one;obtain ⟨t',rfl⟩:=ru;exact call_gives oK (gQ _ _ _) PySem.F.entry_str_index (PySem.F.args_str_index_2 _ _) (PySem.gives_str_index z y t t' i rest ho) ⟨.int i,H,I.tok _,⟨_,rfl⟩,q⟩
theorem Jd {g:G}:∀ (l:List Str),Hass Γ g (l.map D.str) (l.map V.str)
 | []=>rfl
 | x::l=>⟨.str x,_,rfl,rfl,Jd l⟩
theorem Ym:∀ (l:List (Str×Tok)),Vals ((l.map (·.1)).map V.str) (strValues l)
 | []=>.nil
 | p::l=>.cons ⟨p.2,rfl⟩ (Ym l)
def zhd:V->List V->Hp->VK->Prop:=fun x xs H Q=>∃ z y,x=.str z/\xs=[.str y]/\(y.length==0)=false/\z.length<=sizeLine/\(aK z y).length<=sizeLine/\∀ p,H p=none->Q (.ref p) (upd H p (.lst ((aK z y).map V.str)))
theorem zcp:MtR X "str.split" zhd:=by
 rintro pJ s σ H x xs v us Q I rx rv ⟨z,y,rfl,rfl,hy,hz,hn,q⟩;obtain ⟨t,rfl⟩:=rx;obtain ⟨u',rfl,u,rfl⟩:=rv.one;have fin:∀ (l:List (Str×Tok)) (k:Nat),l.map (·.1)=aK z y->EP X pJ σ Q (.ref s.heap.objs.size) { s with toks:=k,heap:=s.heap.push { cls:=.type "list",data:=.seq (strValues l).toArray } }:=fun l k e=>by refine ⟨.ref s.heap.objs.size,_,I.laid (t':=k) (o:=.lst ((aK z y).map V.str)) (fun b ob h=>θ _ h) (χ _) ?_,rfl,q _ (I.hok.fresh (χ _))⟩;exact ⟨by rw [ζ];exact hn,_,0,by rw [<- e];exact Ym l,Ζ _ rfl⟩
 have es:aK z y=if (decide (z.length < y.length)||decide (fc z < fc y))=true then [z] else if (Ϙ z y 0 z.length (z.length+1)).isEmpty=true then [z] else fW z (Ϙ z y 0 z.length (z.length+1)) y.length:=rfl
 cases h1:(decide (z.length < y.length)||decide (fc z < fc y)) with
 | true=>
  rw [h1,if_pos rfl] at es;exact lq dX (gQ _ _ _) gG (gA _ _) (meets_str_split_cannot_occur z y t u h1) (fin [(z,t)] s.toks es.symm)
 | false=>
  rw [h1,if_neg Ω] at es;cases hf:(Ϙ z y 0 z.length (z.length+1)).isEmpty with
  | true=>
   rw [hf,if_pos rfl] at es;exact lq dX (gQ _ _ _) gG (gA _ _) (meets_str_split_not_found z y t u h1 hy hf) (fin [(z,t)] s.toks es.symm)
  | false=>
   rw [hf,if_neg Ω] at es;rw [es] at hn;refine lq dX (gQ _ _ _) gG (gA _ _) (meets_str_split_sep z y t u h1 hy hf hz hn) ?_;have k:=fin (numbered s.toks (fW z (Ϙ z y 0 z.length (z.length+1)) y.length)) (s.toks+(fW z (Ϙ z y 0 z.length (z.length+1)) y.length).length) ((numbered_texts _ _).trans es.symm);rw [<- strsFrom_eq] at k;exact k
def RDm (Γ:Gm) (r:V->List V->Hp->VK->Prop) (d0:D) (ds:List D) (d:D) (fr:Bool):Prop:=
 ∀ S H g x xs Q,WOk Γ H g S->Rdb Γ H g d0 x->Hass Γ g ds xs->Fin Γ H g S d fr Q->r x xs H Q
noncomputable def mtT:MT->String
 | .index=>"list"
 | .get1=>"dict"
 | .get2=>"dict"
 | _=>"str"
noncomputable def mtI:MT->String
 | .index=>"list.index"
 | .sidx=>"str.index"
 | .get1=>"dict.get"
 | .get2=>"dict.get"
 | .join=>"str.join"
 | .split=>"str.split"
theorem zax {d1:D}(hK:X.K=Γ.K) (h:mthK .get1 d1=true\/mthK .get2 d1=true) {H:Hp}{g:G}{v:V}(hr:Rdb Γ H g d1 v):tyV X.K "dict" v H:=by
 cases d1 with
 | dK ks ds=>
  obtain ⟨a,vs,rfl,h1,_⟩:=hr;exact .inr (.inr (.inl ⟨rfl,.inl ⟨_,h1⟩⟩))
 | dT ks ds=>
  obtain ⟨a,vs,rfl,h1,_⟩:=hr;exact .inr (.inr (.inl ⟨rfl,.inr ⟨_,h1⟩⟩))
 | kdc ps=>
  obtain ⟨a,rfl,⟨o,h1⟩,_⟩:=hr;exact .inr (.inl ⟨o,by rw [hK];exact h1⟩)
 | _=>rcases h with h | h <;> cases h
set_option tactic.hygienic true in
theorem zhX {m:MT}{d0:D}{ds:List D}{d:D}{fr:Bool}(hK:X.K=Γ.K) (hu:X.A.units+61 < ϥ) (h:mthD m d0 ds=some (d,fr)):∃ r,MtR X (mtI m) r/\RDm Γ r d0 ds d fr:=by
 have hu1:X.A.units+1 < ϥ:=by lia
 cases m with
 | index=>cases h
 | get1=>cases h
 | get2=>cases h
 | join=>
  cases d0 with
  | str z=>
   match ds,h with
   | [],h=>cases h
   | _::_::_,h=>cases h
   | [x],h=>
    obtain ⟨ys,e1,h⟩:=Ο.mp (show (((lotD x).bind Zi).bind fun ys=>if fits ((ys.map (·.length)).sum+ys.length*z.length)=true then some (D.str (mO z ys),false) else none)=some (d,fr) from h);obtain ⟨l,e2,e3⟩:=Ο.mp e1;split at h
    ·rename_i hf
     cases h;refine ⟨_,zff,fun S H g y us Q w h1 h2 q=>?_⟩;obtain ⟨u,rfl,h3⟩:=h2.one;have hz:(ys.map (·.length)).sum+ys.length*z.length<=16777216:=Ϩ (of_decide_eq_true hf) (by decide);rcases UL e2 with rfl | rfl
     ·obtain ⟨a,vs,rfl,f1,f2⟩:=h3;exact ⟨z,a,ys,h1,rfl,.inl (by rw [<- WL e3 f2];exact SqL.of (w.rh _ _ f1)),hz,zf w q rfl⟩
     ·obtain ⟨a,vs,rfl,f1,f2⟩:=h3;exact ⟨z,a,ys,h1,rfl,.inr (by rw [<- WL e3 f2];exact SqT.of (w.rh _ _ f1)),hz,zf w q rfl⟩
    ·cases h
  | _=>match ds,h with
   | [],h=>cases h
   | [_],h=>cases h
   | _::_::_,h=>cases h
 | split=>
  cases d0 with
  | str z=>
   match ds,h with
   | [],h=>cases h
   | _::_::_,h=>cases h
   | [x],h=>
    cases x with
    | str y=>
     have h:(if (!(y.length==0)&&fits z.length&&fits (aK z y).length)=true then some (D.lst ((aK z y).map D.str),true) else none)=some (d,fr):=h;split at h
     ·rename_i hf
      cases h;simp only [ε,c7] at hf;refine ⟨_,zcp,fun S H g v us Q w h1 h2 q=>?_⟩;obtain ⟨u,rfl,h3⟩:=h2.one;cases (show u=.str y from h3);exact ⟨z,y,h1,rfl,hf.1.1,yD hf.1.2,yD hf.2,fun p hp=>yI w q (Jd _) hp⟩
     ·cases h
    | _=>cases h
  | _=>match ds,h with
   | [],h=>cases h
   | [_],h=>cases h
   | _::_::_,h=>cases h
 | sidx=>
  cases d0 with
  | str z=>
   match ds,h with
   | [],h=>cases h
   | _::_::_,h=>cases h
   | [x],h=>
    cases x with
    | str y=>
     obtain ⟨i,e1,e2⟩:=Α.mp (show (Ϙ z y 0 z.length 1).head?.map (fun (i:Nat)=>(D.int (i:Int),false))=some (d,fr) from h);cases e2;obtain ⟨rest,e1⟩:=List.head?_eq_some_iff.mp e1;refine ⟨_,zfe,fun S H g v us Q w h1 h2 q=>?_⟩;obtain ⟨u,rfl,h3⟩:=h2.one;cases (show u=.str y from h3);exact ⟨z,y,i,rest,h1,rfl,e1,zf w q rfl⟩
    | _=>cases h
  | _=>match ds,h with
   | [],h=>cases h
   | [_],h=>cases h
   | _::_::_,h=>cases h
theorem wI {env:Env}{name:Str}{s0:Sem δ}(h:yV x=true):eF x name env s0=s0:=by
 cases x with
 | Call f args kws p=>
  cases args with
  | nil=>cases h
  | cons a l=>cases f <;> rfl
 | _=>rfl
theorem Vw {xs:List Expr}{env:Env}{cpos:Pos}(hs:∀ z∈xs,notStar z=true) (hl:xs.length<=9):((dR cpos (ϟ xs env)).all (fun x=>!x.1)&&(bY cpos (aG [] env)).all (fun x=>x.1.isSome)
  &&decide (xs.length+([]:List bD).length+(if ([]:List bD).isEmpty then 0 else 1) < 30))=true:=by
 have h1:(dR cpos (ϟ xs env)).all (fun x=>!x.1)=true:=by have:=yq (pos:=cpos) (env:=env) hs;rw [List.all_eq_not_any_not];simpa using this
 rw [h1,decide_eq_true (show xs.length+([]:List bD).length+(if ([]:List bD).isEmpty then 0 else 1) < 30 from (by simp;lia))];rfl
theorem zfd (m:MT):PlainAttrs (mtT m)/\PySem.Slot (mtT m) (mtS m) (mtI m)/\typeOf (.builtin (mtI m))=pure (.type "method_descriptor"):=by
 cases m with
 | index=>exact ⟨gD,PySem.F.slot_list_index,PySem.F.type_list_index⟩
 | get1=>exact ⟨nY,o6,o4⟩
 | get2=>exact ⟨nY,o6,o4⟩
 | sidx=>exact ⟨gW,oK,PySem.F.type_str_index⟩
 | join=>exact ⟨gW,PySem.F.slot_str_join,PySem.F.type_str_join⟩
 | split=>exact ⟨gW,dX,PySem.F.type_str_split⟩
theorem zko {m:MT}{d1:D}(hK:X.K=Γ.K) (h:mthK m d1=true) {H:Hp}{g:G}{v:V}(hr:Rdb Γ H g d1 v):tyV X.K (mtT m) v H:=by
 cases m with
 | index=>cases d1 <;> cases h
 | get1=>exact zax hK (.inl h) hr
 | get2=>exact zax hK (.inr h) hr
 | join=>
  cases d1 with
  | str x=>cases (show v=.str x from hr);exact rfl
  | _=>cases h
 | split=>
  cases d1 with
  | str x=>cases (show v=.str x from hr);exact rfl
  | _=>cases h
 | sidx=>
  cases d1 with
  | str x=>cases (show v=.str x from hr);exact rfl
  | _=>cases h
def zkp (X:Cx) (id:String):V->List V->Hp->VK->Prop:=fun x xs H Q=>∃ r,MtR X id r/\r x xs H Q
theorem zhZ {id:String}:MtR X id (zkp X id):=fun pJ s σ H x xs v us Q I rx rv ⟨_,h,q⟩=>h pJ s σ H x xs v us Q I rx rv q
theorem zjL {B:Tb}{cx:Xp->Cf}{k:Nat}{c:Cc}{a:E}{es:List E}{m:MT}{ys:List Expr}{apos cpos:Pos}(ok:XOk Γ B (spN Γ cx) k X c) (ha:PE X x (TX Γ (cx noX) a)) (hs:∀ z∈y::ys,notStar z=true) (hb:PA X (y::ys) (TXs Γ (cx noX) es)) (hl:(apos.endLine==cpos.line)=true) (hp:yV x=true) (h9:(y::ys).length<=9):
  PE X (.Call (.Attribute x (mtS m) apos) (y::ys) [] cpos) (TX Γ (cx noX) (.mth m a es)):=by
 obtain ⟨m1,m2,m3⟩:=zfd m;refine (zeU m1 m2 m3 zhZ ha hb (wI hp) (Vw hs h9) hl (zc (hs y μ) ys X.env) (yq fun z hz=>hs z (ν _ hz))).imp fun σ H Q h0=>goX h0 fun ρ S V g Hz hw w env kk=>⟨ρ,S,_,g,Hz,hw,w,env,fun x v H1 g1 S1 st w1 vx h1=>?_⟩
 obtain ⟨hk,h1⟩:=yr h1;refine ⟨zko ok.hK hk (vx.rdb w1),ρ,S1,_,g1,Hz,h1,w1,zm env st,fun ds vs H2 g2 S2 st2 w2 hv h2=>?_⟩;obtain ⟨⟨d,fr⟩,eb,q⟩:=zX h2;obtain ⟨r,r1,r2⟩:=zhX (X:=X) ok.hK ok.u61 eb;exact ⟨r,r1,r2 S2 H2 g2 v vs Q w2 ((vx.step st2).rdb w2) hv fun u H3 g3 st3 _ w3 vo=>kk _ u H3 g3 S2 ((st.trans st2).trans st3) w3 ((VN.of vo).back (st.trans st2)) q⟩
end
section
variable {Γ:Gm}{g:G}
theorem UT (f:Str):∀ {ns:List Str}{ds:List D}{vs:List V},ns.length=ds.length->Hass Γ g ds vs ->
  (∀ d,yO ns ds f=some d->∃ v,(ns.zip vs).lookup f=some v/\Has Γ g d v)/\(ns.contains f=false->(ns.zip vs).lookup f=none)
 | [],_,vs,_,_=>⟨fun d h=>(by cases h),fun _=>rfl⟩
 | n::ns,[],_,h,_=>by cases h
 | n::ns,d::ds,_,hl,⟨v,r,rfl,hd,hr⟩=>by
  obtain ⟨i1,i2⟩:=UT f (dO hl) hr;by_cases e:n=f
  ·subst e;refine ⟨fun d' h=>?_,fun h=>?_⟩
   ·simp only [yO,ZZ,if_true,rF,pH,o8] at h;subst h;exact ⟨v,by simp [dY],hd⟩
   ·simp at h
  ·have e':(f==n)=false:=by simpa using fun z=>e z.symm
   refine ⟨fun d' h=>?_,fun h=>?_⟩
   ·have h':yO ns ds f=some d':=by
     simp only [yO,ZZ,if_neg e] at h ⊢;cases q:ZZ ns f with
     | none=>rw [q] at h;cases h
     | some i=>rw [q] at h;simpa using h
    obtain ⟨v',h1,h2⟩:=i1 d' h';exact ⟨v',by rw [aC,ϯ,e'];exact h1,h2⟩
   ·rw [List.contains_cons,e',Bool.false_or] at h;rw [aC,ϯ,e'];exact i2 h
theorem Uq {f:Str}{v:V}:∀ {ns:List Str}{vs:List V},ns.length=vs.length->putF f v (ns.zip vs)=(putN f ns).zip (putA f v ns vs)
 | [],[],_=>rfl
 | n::ns,x::vs,h=>by
  show (if n=f then (n,v)::ns.zip vs else (n,x)::putF f v (ns.zip vs))=(if n=f then n::ns else n::putN f ns).zip (if n=f then v::vs else x::putA f v ns vs)
  by_cases e:n=f
  ·rw [if_pos e,if_pos e,if_pos e];rfl
  ·rw [if_neg e,if_neg e,if_neg e,Uq (dO h)];rfl
 | [],_::_,h=>by cases h
 | _::_,[],h=>by cases h
theorem Ur {α:Type}{f:Str}{v:α}:∀ {ns:List Str}{vs:List α},ns.length=vs.length->(putN f ns).length=(putA f v ns vs).length
 | [],[],_=>rfl
 | n::ns,x::vs,h=>by
  show (if n=f then n::ns else n::putN f ns).length=(if n=f then v::vs else x::putA f v ns vs).length
  by_cases e:n=f
  ·rw [if_pos e,if_pos e];exact h
  ·rw [if_neg e,if_neg e,η,η,Ur (dO h)]
 | [],_::_,h=>by cases h
 | _::_,[],h=>by cases h
theorem Xm {f:Str}{d:D}{v:V}(hd:Has Γ g d v):∀ {ns:List Str}{ds:List D}{vs:List V},ns.length=ds.length->Hass Γ g ds vs->Hass Γ g (putA f d ns ds) (putA f v ns vs)
 | [],[],_,_,h=>by cases (show _=[] from h);exact Hass.mk1 hd
 | n::ns,x::ds,_,hl,⟨y,r,rfl,hx,hr⟩=>by
  show Hass Γ g (if n=f then d::ds else x::putA f d ns ds) (if n=f then v::r else y::putA f v ns r)
  by_cases e:n=f
  ·rw [if_pos e,if_pos e];exact ⟨v,r,rfl,hd,hr⟩
  ·rw [if_neg e,if_neg e];exact ⟨y,_,rfl,hx,Xm hd (dO hl) hr⟩
 | [],_::_,_,h,_=>by cases h
 | _::_,[],_,h,_=>by cases h
end
section
variable {X:Cx}{Γ:Gm}{B:Tb}{cx:Xp->Cf}{k:Nat}{c:Cc}{x y z:Expr}{pos p apos cpos:Pos}{a:E}{es:List E}
theorem zdR {B:Tb}{f n:Str}(h:vC B f n=true):∃ o∈B.obs,o.name=n/\f∈o.fields:=by unfold vC at h;obtain ⟨o,ho,h⟩:=bz.mp h;rw [ε] at h;exact ⟨o,ho,eq_of_beq h.1,ό.mp h.2⟩
theorem zdq {B:Tb}{m:Str}{q:Str×Nat}(h:JX B m q=true):∃ o∈B.obs,o.name=q.1/\(m,q.2)∈o.meths:=by unfold JX at h;obtain ⟨o,ho,h⟩:=bz.mp h;rw [ε] at h;exact ⟨o,ho,eq_of_beq h.1,ό.mp h.2⟩
theorem uP {H:Hp}{g:G}{H':Hp}{g':G}{S:Store}{x:Vl}{v:V}{R:Nat->Str->List Str->List D->Prop}(vx:VN Γ H x v H' g') (s:Step H g H' g') (w:WOk Γ H' g' S) (q:keep x fun r=>isOb S r R):
  ∃ i n ns ds a C dx vs,v=.ref a/\g'.α[i]?=some a/\S[i]?=some (.ins n ns ds)/\R i n ns ds/\caOf Γ.K n=some C/\H' a=some (.ins C dx (ns.zip vs))/\ns.length=ds.length/\Hass Γ g' ds vs:=by
 obtain ⟨d,kd⟩:=x;cases kd with
 | st=>
  obtain ⟨i,n,ns,ds,rfl,e,q⟩:=ZR (show isOb S d R from q);obtain ⟨a,h1,rfl⟩:=(show ∃ a,g'.α[i]?=some a/\v=.ref a from vx)
  obtain ⟨C,dx,vs,h2,h3,h4,h5⟩:=w.cell i _ a e h1;exact ⟨i,n,ns,ds,a,C,dx,vs,rfl,h1,e,q,h2,h3,h4,h5⟩
 | fr=>
  obtain ⟨i,n,ns,ds,rfl,e,q⟩:=ZR (show isOb S d R from q);obtain ⟨a,_,_,h1,_,o,h2,_⟩:=(show ∃ a,v=.ref a/\H a=none/\g'.R a=none/\a ∉ g'.α/\zU Γ H' g' a (.ref i) from vx)
  rw [h1] at h2;cases h2
 | bo=>exact q.elim
theorem zj0 {cs:List Str}{f:Str}(ok:XOk Γ B (spN Γ cx) k X c) (ha:PE X x (TX Γ (cx noX) a)) (hp:yV x=true) (hc:∀ n∈cs,vC B f n=true):PE X (.Attribute x f pos) (TX Γ (cx noX) (.att cs a f)):=by
 refine (zhA ha (wI hp)).imp fun σ H Q h0=>goX h0 fun ρ S V g Hz hw w env kk=>⟨ρ,S,_,g,Hz,hw,w,env,fun y v H1 g1 S1 st w1 vx q=>?_⟩
 obtain ⟨i,n,ns,ds,b,C,dx,vs,rfl,h1,h2,q1,h3,h4,h5,h6⟩:=uP vx st w1 q;obtain ⟨hn,q2⟩:=yr q1;obtain ⟨d,e,q3⟩:=zX q2;obtain ⟨o,ho,hno,hf⟩:=zdR (hc n (ό.mp hn));subst hno;obtain ⟨C',hm,oo⟩:=ok.ob o ho;have eC:C'=C:=ϐ (oo.ca.symm.trans h3);subst eC;obtain ⟨u,hu,hd⟩:=(UT f h5 h6).1 d e;exact ⟨b,C',dx,_,u,rfl,h4,ok.hK ▸ oo.cl,ok.hK ▸ oo.fl f hf,hu,kk (d,.st) u H1 g1 S1 st w1 hd q3⟩
theorem zdt {M:Model}{A:ϖ}{Ex:VSP}{env:Env}{o:Expr}{m:Str}{args:List Expr}{s:ξ}{Q:VSP}(hbase:eF o m env (eval o env)=eval o env)
  (hfew:((dR pos (ϟ args env)).all (fun x=>!x.1)&&(bY pos (aG [] env)).all (fun x=>x.1.isSome)
  &&decide (args.length+([]:List bD).length+(if ([]:List bD).isEmpty then 0 else 1) < 30))=true) (hline:(apos.endLine==pos.line)=true)
  (h:Δ M A (eval o env) (fun ov s₁=>∀ pl,Δ M A (getMethod ov m pl) (fun fx s₂=>Δ M A (callWith pos fx.1 fx.2 (dR pos (ϟ args env)) (bY pos (aG [] env))) Q Ex s₂) Ex s₁) Ex s):
  Δ M A (eval (.Call (.Attribute o m apos) args [] pos) env) Q Ex s:=by
 rw [arm_eval_Call,hbase];refine γ (bG h (fun ov s₁ h₁=>?_) fun _ _ e=>e);refine γ (iB ?_);have hform:methodCallForm (args.length+([]:List bD).length) (dR pos (ϟ args env)) (bY pos (aG [] env))=true:=hfew;have hpos:methodCallPos true o env apos pos=pure pos:=by unfold methodCallPos;simp [hline]
 unfold methodCall;rw [hform];refine γ (ao (bG (h₁ _) (fun fx s₂ h₂=>?_) fun _ _ e=>e));exact γ (cj hpos h₂)
theorem zhy {m:Str}{xs:List Expr}{ta:TE}{t:TA}(he:PE X x ta) (hb:eF x m X.env (eval x X.env)=eval x X.env) (hs:∀ z∈y::xs,notStar z=true) (h9:(y::xs).length<=9) (hl:(apos.endLine==cpos.line)=true) (ha:PA X (y::xs) t):
  PE X (.Call (.Attribute x m apos) (y::xs) [] cpos) (fun σ H Q=>ta σ H fun v H1=>∃ a C dx fs f k fd ps sp,v=.ref a/\H1 a=some (.ins C dx fs)/\fs.lookup m=none/\Cls X.K C/\Meth X.K C m f/\FnOk X.prog X.w X.K X.mg X.base (CX1 X.prog X.w) k f fd ps sp/\Room k X.A/\Binds X.K fd ps [] /\
   t σ H1 fun vs H2=>sp (.ref a::(vs++[])) H2 Q E0):=by intro pJ s σ H Q I h;refine zdt hb (Vw hs h9) hl (thn (he pJ s σ H _ I h) fun u s1 h1 pl=>?_);obtain ⟨v,H1,I1,r,a,C,dx,fs,f,k,fd,ps,sp,ev,ea,l,cl,mt,F,hr,hbd,q⟩:=h1;subst ev;cases (show u=Θ a from r);refine qI I1 ea cl mt l ?_;refine W.callWith_K (first:=[.ref a]) (h₀:=X.base) I.ok.mod.kin mt.kp (thn (ha cpos pJ s1 σ H1 _ I1 q) fun us s2 ⟨vs,H2,I2,r2,q2⟩=>⟨I2.kIn,?_⟩) (zc (hs y μ) _ _) (yq fun z hz=>hs z (ν _ hz));exact Qx (us:=.ref a::us) (vs:=.ref a::vs) F hr hbd .nil Q6 I2 (.cons rfl r2) q2
theorem zeO {m:Str}{ta:TE}(he:PE X x ta) (hb:eF x m X.env (eval x X.env)=eval x X.env) (hl:(apos.endLine==cpos.line)=true):
  PE X (.Call (.Attribute x m apos) [] [] cpos) (fun σ H Q=>ta σ H fun v H1=>∃ a C dx fs f k fd ps sp,v=.ref a/\H1 a=some (.ins C dx fs)/\fs.lookup m=none/\Cls X.K C/\Meth X.K C m f/\FnOk X.prog X.w X.K X.mg X.base (CX1 X.prog X.w) k f fd ps sp/\Room k X.A/\Binds X.K fd ps [] /\
   sp [.ref a] H1 Q E0):=by intro pJ s σ H Q I h;refine zdt hb (Vw (xs:=[]) (fun z hz=>by cases hz) (aW _)) hl (thn (he pJ s σ H _ I h) fun u s1 h1 pl=>?_);obtain ⟨v,H1,I1,r,a,C,dx,fs,f,k,fd,ps,sp,ev,ea,l,cl,mt,F,hr,hbd,q⟩:=h1;subst ev;cases (show u=Θ a from r);refine qI I1 ea cl mt l ?_;exact W.callWith_K0 (first:=[.ref a]) I1.kIn mt.kp (Qx (us:=[.ref a]) (vs:=[.ref a]) F hr hbd .nil Q6 I1 (.cons rfl .nil) q)
theorem zcu {ms:List (Str×Nat)}{n:Str}{i:Nat}(h:ms.lookup n=some i):(n,i)∈ms:=by
 induction ms with
 | nil=>cases h
 | cons q r ih=>
  obtain ⟨a,b⟩:=q;rw [ϯ] at h;cases e:n==a with
  | true=>rw [e] at h;cases h;rw [eq_of_beq e];exact μ
  | false=>rw [e] at h;exact ν _ (ih h)
theorem zjM {ms:List (Str×Nat)}{m:Str}{ys:List Expr}(hcf:CfN B (cx noX)) (ok:XOk Γ B (spN Γ cx) k X c) (ha:PE X x (TX Γ (cx noX) a)) (hp:yV x=true) (hs:∀ z∈ys,notStar z=true) (h9:ys.length<=9) (hl:(apos.endLine==cpos.line)=true) (hb:PA X ys (TXs Γ (cx noX) es)) (hee:ys=[]->es=[])
  (hc:∀ q∈ms,JX B m q=true):PE X (.Call (.Attribute x m apos) ys [] cpos) (TX Γ (cx noX) (.met ms a m es)):=by
 have key:∀ {σ:L2.St}{H H1:Hp}{Q:VK}{S1:Store}{y:Vl}{v:L2.V}{g1 g:G}{ρ:List Slot}{V:Po},VN Γ H y v H1 g1->Step H g H1 g1->WOk Γ H1 g1 S1 ->
   (keep y fun r=>isOb S1 r fun k c ns _=>tst (!ns.contains m) (opt (ms.lookup c) fun f=>wpEs (cx noX) ρ es (fun ds S2=>cx noX f (.ref k::ds) V S2) S1) False) ->
   ∃ a C dx fs f fd ps i j,v=.ref a/\H1 a=some (.ins C dx fs)/\fs.lookup m=none/\Cls X.K C/\Meth X.K C m f/\FnOk X.prog X.w X.K X.mg X.base (CX1 X.prog X.w) (2*k) f fd ps (spN Γ cx i ps.length)/\Room (2*k) X.A/\Binds X.K fd ps []/\B.pars[i]?=some ps/\g1.α[j]?=some a /\
    wpEs (cx noX) ρ es (fun ds S2=>cx noX i (.ref j::ds) V S2) S1:=by intro σ H H1 Q S1 y v g1 g ρ V vx st w1 q;obtain ⟨j,n,ns,ds,b,C,dx,vs,rfl,h1,h2,q1,h3,h4,h5,h6⟩:=uP vx st w1 q;obtain ⟨hn,q2⟩:=yr q1;obtain ⟨i,e,q3⟩:=zX q2;obtain ⟨o,ho,hno,hf⟩:=zdq (hc _ (zcu e));cases hno;obtain ⟨C',hm,oo⟩:=ok.ob o ho;have eC:C'=C:=ϐ (oo.ca.symm.trans h3);subst eC;obtain ⟨f,ef,mt⟩:=oo.mt m i hf;obtain ⟨nm,hnm⟩:=ok.fa i f ef;obtain ⟨f',fd,ps,g1',g2,g3,g4,g5,g6,_⟩:=(ok.fns i nm hnm).ex;have eq:f'=f:=ϐ (g1'.symm.trans ef);subst eq;exact ⟨b,C',dx,_,f',fd,ps,i,j,rfl,h4,(UT m h5 h6).2 (by simpa using hn),ok.hK ▸ oo.cl,ok.hK ▸ mt,g6,ok.rm,g4,g5,h1,q3⟩
 cases ys with
 | nil=>
  cases hee rfl;refine (zeO ha (wI hp) hl).imp fun σ H Q h0=>goX h0 fun ρ S V g Hz hw w env kk=>⟨ρ,S,_,g,Hz,hw,w,env,fun y v H1 g1 S1 st w1 vx q=>?_⟩
  obtain ⟨b,C,dx,fs,f,fd,ps,i,j,e1,e2,e3,e4,e5,e6,e7,e8,e9,e10,q⟩:=key (σ:=σ) (Q:=Q) vx st w1 q;refine ⟨b,C,dx,fs,f,2*k,fd,ps,_,e1,e2,e3,e4,e5,e6,e7,e8,?_⟩;have hc:cx noX i [.ref j] V S1:=q;have hv:Hass Γ g1 [.ref j] [.ref b]:=Hass.mk1 ⟨b,e10,rfl⟩;exact ⟨by rw [hv.len];exact hcf i _ V S1 ps e9 hc,g1,_,S1,V,noX,w1,hv,hc,fun x v H2 g2 S2 st2 w2 vx q=>kk x v H2 g2 S2 (st.trans st2) w2 (vx.back st) q,fun _ _ _ _ _ _ _ _ _ z=>z.elim⟩
 | cons y0 ys=>
  refine (zhy ha (wI hp) hs h9 hl hb).imp fun σ H Q h0=>goX h0 fun ρ S V g Hz hw w env kk=>⟨ρ,S,_,g,Hz,hw,w,env,fun y v H1 g1 S1 st w1 vx q=>?_⟩
  obtain ⟨b,C,dx,fs,f,fd,ps,i,j,e1,e2,e3,e4,e5,e6,e7,e8,e9,e10,q⟩:=key (σ:=σ) (Q:=Q) vx st w1 q;refine ⟨b,C,dx,fs,f,2*k,fd,ps,_,e1,e2,e3,e4,e5,e6,e7,e8,ρ,S1,_,g1,Hz,q,w1,zm env st,fun ds vs H2 g2 S2 st2 w2 hv hc=>?_⟩;have hv':Hass Γ g2 (.ref j::ds) (.ref b::vs):=⟨_,_,rfl,⟨b,st2.le.aa _ _ e10,rfl⟩,hv⟩
  show spN Γ cx i ps.length (.ref b::(vs++[])) H2 Q E0
  rw [ύ];exact ⟨by rw [hv'.len];exact hcf i _ V S2 ps e9 hc,g2,_,S2,V,noX,w2,hv',hc,fun x v H3 g3 S3 st3 w3 vx q=>kk x v H3 g3 S3 ((st.trans st2).trans st3) w3 (vx.back (st.trans st2)) q,fun _ _ _ _ _ _ _ _ _ z=>z.elim⟩
theorem WOk.out {H:Hp}{g:G}{S:Store}(w:WOk Γ H g S) {b:Addr}(h:H b=none):g.R b=none/\b ∉ g.α:=by
 refine ⟨?_,fun m=>?_⟩
 ·cases e:g.R b with
  | none=>rfl
  | some o=>rw [w.rh _ _ e] at h;cases h
 ·obtain ⟨i,hi,e⟩:=pZ.mp m;have e':g.α[i]?=some b:=by rw [ψ hi,e]
  have hs:i < S.length:=by rw [<- w.len];exact hi
  obtain ⟨o,ho,_⟩:=(w.cell i _ b (ψ hs) e').kO;rw [ho] at h;cases h
theorem s_mk {n:Str}{i:Nat}{ys:List Expr}(hcf:CfN B (cx noX)) (ok:XOk Γ B (spN Γ cx) k X c) (hg:Gl X n) (hdb:(n==("__debug__":Str))=false) (hs:∀ z∈y::ys,notStar z=true) (hb:PA X (y::ys) (TXs Γ (cx noX) es)) (ho:∃ o∈B.obs,o.name=n/\(("__init__":Str),i)∈o.meths):
  PE X (.Call (.Name n p) (y::ys) [] pos) (TX Γ (cx noX) (.mk n i es)):=by
 obtain ⟨o,ho,hno,hi⟩:=ho;subst hno;obtain ⟨C,hm,oo⟩:=ok.ob o ho;obtain ⟨f,ef,M⟩:=oo.mkk i hi;obtain ⟨nm,hnm⟩:=ok.fa i f ef;obtain ⟨f',fd,ps,g1',g2,g3,g4,g5,g6,_⟩:=(ok.fns i nm hnm).ex;have eq:f'=f:=ϐ (g1'.symm.trans ef);subst eq;refine (zeP (ok.hK ▸ M) g6 ok.room hg hm g4 .nil Q6 hb hdb (zc (hs y μ) _ _) (yq fun z hz=>hs z (ν _ hz))).imp fun σ H Q h0=>goX h0 fun ρ S V g Hz hw w env kk=>⟨ρ,S,_,g,Hz,hw,w,env,fun ds vs H1 g1 S1 st w1 hv hc=>?_⟩
 intro x dx hx hdx hne;show spN Γ cx i ps.length (.ref x::(vs++[])) _ _ _
 rw [ύ];have hx':upd H1 dx (.own x) x=none:=by rw [zj (dH hne)];exact hx
 have sm:Same H1 (upd (upd H1 dx (.own x)) x (.ins C dx [])):=fun b u q=>by
  have hb:b≠x:=by rintro rfl;rw [hx] at q;cases q
  have hb2:b≠dx:=by rintro rfl;rw [hdx] at q;cases q
  rw [zj hb,zj hb2];exact q
 have w2:WOk Γ (upd (upd H1 dx (.own x)) x (.ins C dx [])) g1 S1:=(w1.laid hdx).laid hx';have s2:Step H1 g1 (upd (upd H1 dx (.own x)) x (.ins C dx [])) g1:=Step.of_same sm (Le.refl _) (fun _ h=>.inl h) (fun _ h=>.inl h);obtain ⟨o1,o2⟩:=w1.out hx;obtain ⟨g2,s3,w3,h3⟩:=zfY (d:=.ins o.name [] []) (v:=.ref x) s2 w2 ⟨x,rfl,hx,o1,o2,C,dx,[],oo.ca,zp,rfl,rfl⟩;have hv':Hass Γ g2 (.ref S1.length::ds) (.ref x::vs):=⟨_,_,rfl,h3,hv.mono s3.le⟩
 refine ⟨by rw [hv'.len];exact hcf i _ _ _ ps g5 hc,g2,_,_,_,noX,w3,hv',hc,fun z v H4 g4 S4 st4 w4 vz q=>?_,fun _ _ _ _ _ _ _ _ _ z=>z.elim⟩;obtain ⟨e,q⟩:=zdI q;obtain ⟨d,kd⟩:=z;cases (show d=.non from e);refine ⟨?_,kk (.ref S1.length,.st) (.ref x) H4 g4 S4 ((st.trans s3).trans st4) w4 (h3.mono st4.le) q⟩;cases kd with
 | st=>exact vz
 | fr=>obtain ⟨_,_,_,_,_,z⟩:=vz;exact z.elim
 | bo=>obtain ⟨_,_,_,_,z⟩:=vz;exact z.elim
end
theorem Qp {x z:Expr}{y:Str}(h:Yt x=some (y,z)):∃ p pos,x=.Call (.Name y p) [z] [] pos:=by
 unfold Yt at h;split at h
 ·cases h;exact ⟨_,_,rfl⟩
 ·cases h
section
variable {X:Cx}{Γ:Gm}{cx:Xp->Cf}{B:Tb}{k:Nat}{c:Cc}{x y z:Expr}{pos p:Pos}{a b:E}
theorem ziI {H:Hp}{g:G}{S:Store}{d:D}{fr:Bool}{Q:VK}{a:Addr}{o:HO}(w:WOk Γ H g S) (q:Fin Γ H g S d fr Q) (ha:H a=none):Fin Γ (upd H a o) g S d fr Q:=fun v H' g' st sm w' vo=>
 q v H' g' ((Step.of_same (yo ha) (Le.refl g) (fun _ h=>.inl h) fun _ h=>.inl h).trans st) ((yo ha).trans sm) w' (by
  cases fr with
  | false=>exact vo
  | true=>
   obtain ⟨l,e,h1,h2⟩:=(show ∃ a',v=.ref a'/\upd H a o a'=none/\_ from vo)
   exact ⟨l,e,(yo ha).free h1,h2⟩)
theorem zct {d0:D}{ks:List (List Int)}{H:Hp}{g:G}{S:Store}{v:V}(hK:X.K=Γ.K) (w:WOk Γ H g S) (h:(lotD d0).bind yW=some ks) (hv:Rdb Γ H g d0 v):∃ p,∃ Ps:List (V×List Int),v=.ref p/\(SqL X.K H p (Ps.map (·.1))\/SqT X.K H p (Ps.map (·.1)))/\Ps.map (·.2)=ks/\∀ q∈Ps,Has Γ g (tupI q.2) q.1/\∃ a,q.1=.ref a/\SqT Γ.K H a (q.2.map V.int):=by
 obtain ⟨l,e1,e2⟩:=Ο.mp h;obtain rfl:=jJ e2;rcases UL e1 with rfl | rfl
 ·obtain ⟨p,ys,rfl,h1,h2⟩:=hv;obtain ⟨Ps,p1,p2,p3⟩:=vB w h2;exact ⟨p,Ps,rfl,.inl (by rw [p1];exact SqL.of h1),p2,p3⟩
 ·obtain ⟨p,ys,rfl,h1,h2⟩:=hv;obtain ⟨Ps,p1,p2,p3⟩:=vB w h2;exact ⟨p,Ps,rfl,.inr (by rw [p1];exact SqT.of (w.rh _ _ h1)),p2,p3⟩
theorem zgO {t:TE}(ok:XOk Γ B (spN Γ cx) k X c) (hg:Gl X "set") (hm:X.mg "set"=none) (hs:notStar z=true) (h:PE X z t):PE X (.Call (.Name "set" p) [z] [] pos) (fun σ H Q=>t σ H fun v H1=>zfU X (.type "set") [v] H1 Q):=
 (YH XF hg hm (by decide +kernel) (yg h xq (zc hs _ _)) (by decide) (by decide) (zc hs _ _) rfl).imp fun _ _ _ q=>q
set_option tactic.hygienic true in
theorem zgR {p' pos':Pos}(ok:XOk Γ B (spN Γ cx) k X c) (hg:Gl X "set") (hm:X.mg "set"=none) (hg':Gl X "sorted") (hm':X.mg "sorted"=none) (hs:notStar z=true) (h:PE X z (TX Γ (cx noX) a)):
  PE X (.Call (.Name "sorted" p') [.Call (.Name "set" p) [z] [] pos] [] pos') (TX Γ (cx noX) (.bi .sset [a])):=by
 refine (Zx (id:="sorted") XF hg' hm' (by decide +kernel) (yg (zgO ok hg hm hs h) xq (zc rfl _ _)) (by decide) (by decide) (zc rfl _ _) rfl).imp fun σ H Q h0=>goX h0 fun ρ S V g Hz hw w env kk=>⟨ρ,S,_,g,Hz,hw,w,env,fun x v H1 g1 S1 st w1 vx h1=>?_⟩
 obtain ⟨⟨d,fr⟩,eb,q⟩:=zX h1;have eb:zbN (zE S1 x.1)=some (d,fr):=eb;unfold zbN at eb
 ·obtain ⟨ks,e1,e2⟩:=Ο.mp (show ((lotD (zE S1 x.1)).bind yW).bind _=some (d,fr) from eb);split at e2
  ·rename_i hl
   cases e2;obtain ⟨l1,l2⟩:=ϱ.mp hl;obtain ⟨p,Ps,rfl,sq,p2,p3⟩:=zct (X:=X) ok.hK w1 e1 (vx.rdb w1);subst p2;have n5:Ps.length<=5:=by have:=of_decide_eq_true l1;rwa [ζ] at this
   have hu:X.A.units+64 < ϥ:=ok.room.units;refine ⟨_,zbf hu ok.calm,p,Ps,rfl,sq,n5,fun q hq=>by rw [ok.hK];exact (p3 q hq).2,of_decide_eq_true l2,fun a ha=>⟨_,XX hu ok.calm,a,Ps,rfl,zp,by omega,fun q hq=>?_,fun Ps' l pm up hl=>?_⟩⟩
   ·obtain ⟨b,vs,e,h1,h2⟩:=(p3 q hq).1;have ev:=jL h2;subst ev;exact ⟨b,e,SqT.of ((w1.laid ha).rh _ _ h1)⟩
   ·refine yI (w1.laid ha) (ziI (d:=.lst ((xg (Ps.map (·.2))).map tupI)) w1 (fun u H2 g2 st2 _ w2 vo=>kk _ u H2 g2 S1 (st.trans st2) w2 ((VN.of vo).back st) q) ha) ?_ hl;rw [<- Zm (pm.map _) up];exact wQ fun q hq=>(p3 q (pm.mem_iff.mp hq)).1
  ·cases e2
end
section
variable {prog:Χ}{w:Ϛ}{A:ϖ}{E:VSP}{s:ξ}
end
section
variable {X:Cx}{Γ:Gm}{S:Store}{cf:Cf}{a:E}{elts:List Expr}{kk:Nat}{ap cp tp:Pos}
end
section
variable {X:Cx}{tg:Expr}
end
section
variable {X:Cx}{Γ:Gm}{S:Store}{cf:Cf}{a:E}{tgt x:Expr}
theorem zg4 (_:PE X x (TX Γ cf a)):PI X tgt x (TXi Γ cf (.keys a)):=fun _ _ _ _ _ _ h0=>goI h0 fun _ _ _ _ _ hw _ _ _=>ϩ hw
end
end EV
namespace L2
open PySem PySem.Spec PyProof.Rows
variable {X:Cx}
end L2
namespace EV
open PySem PySem.Spec PyProof.Rows L2
variable {X:Cx}{Γ:Gm}{cf:Cf}{a b:E}{k v:Expr}{pos:Pos}
noncomputable def jG:Expr->Bool
 | .BoolOp _ _ _=>true
 | _=>false
section
variable {Γ:Gm}{B:Tb}{cx:Xp->Cf}{k:Nat}
theorem zhn {X:Cx}{x y z:Expr}{pos:Pos}{t a b:E}(hc:PT X x (TB Γ (cx noX) t)) (ha:PT X y (TB Γ (cx noX) a)) (hb:PT X z (TB Γ (cx noX) b)):PT X (.IfExp x y z pos) (TB Γ (cx noX) (.ite t a b)):=by
 intro pJ s σ H Q I ⟨ρ,S,V,g,Hz,hw,w,env,kk⟩;have eq:lV (.IfExp x y z pos) X.env (eval (.IfExp x y z pos) X.env)=(lV x X.env (eval x X.env) >>= fun t=>if t=true then lV y X.env (eval y X.env) else lV z X.env (eval z X.env)):=rfl;rw [eq];refine γ (thn (hc pJ s σ H (fun r H'=>if r=true then TB Γ (cx noX) a σ H' Q else TB Γ (cx noX) b σ H' Q) I ⟨ρ,S,_,g,Hz,hw,w,env,fun x H1 g1 S1 st w1 h=>?_⟩) fun r s1 ⟨H1,I1,q⟩=>?_)
 ·obtain ⟨r,e,q⟩:=vA h;rw [e];show (if r=true then _ else _)
  cases r with
  | true=>exact iteT (zbI st w1 env kk q)
  | false=>exact iteF (zbI st w1 env kk q)
 ·cases r with
  | true=>rw [if_pos rfl] at q ⊢;exact ha pJ s1 σ H1 Q I1 q
  | false=>rw [if_neg Ω] at q ⊢;exact hb pJ s1 σ H1 Q I1 q
def SE (Γ:Gm) (B:Tb) (cx:Xp->Cf) (k:Nat) (e:E):Prop:=∀ (X:Cx) (c:Cc) (x:Expr),XOk Γ B (spN Γ cx) k X c->chkE B c e x=true->PE X x (TX Γ (cx noX) e)/\PT X x (TB Γ (cx noX) e)/\(jG x=true->PW X x (TB Γ (cx noX) e))
theorem only {X:Cx}{x:Expr}{e:E}(h:PE X x (TX Γ (cx noX) e)) (hn:jG x=false) (he:∀ whole,lV x X.env whole=(do let v <- whole;standAt x.pos;ig [v] (truthy v))):PE X x (TX Γ (cx noX) e)/\PT X x (TB Γ (cx noX) e)/\(jG x=true->PW X x (TB Γ (cx noX) e)):=
 ⟨h,zgQ h he,fun q=>by rw [hn] at q;cases q⟩
theorem none_of {X:Cx}{x:Expr}{e:E}(h:∀ ρ V S,¬ wpE (cx noX) ρ e V S):PE X x (TX Γ (cx noX) e)/\PT X x (TB Γ (cx noX) e)/\(jG x=true->PW X x (TB Γ (cx noX) e)):=
 ⟨fun _ _ _ _ _ _ ⟨_,_,_,_,_,q,_⟩=>(h _ _ _ q).elim,fun _ _ _ _ _ _ ⟨_,_,_,_,_,q,_⟩=>(h _ _ _ q).elim,fun _ _ _ _ _ _ _ _ ⟨_,_,_,_,_,q,_⟩=>(h _ _ _ q).elim⟩
theorem xO {c:Cc}:∀ {es:List E}{xs:List Expr},zQ B c es xs=true->∀ z∈xs,notStar z=true
 | [],[],_=>fun z hz=>by cases hz
 | e::es,x::xs,h=>by
  have h:(chkE B c e x&&notStar x&&zQ B c es xs)=true:=h;rw [ε,ε] at h;intro z hz;rcases υ.mp hz with rfl | hz
  ·exact h.1.2
  ·exact xO h.2 z hz
 | [],_::_,h=>nobE h
 | _::_,[],h=>nobE h
theorem zah {c:Cc}{lo hi st:Option Expr}{pos:Pos}:∀ (e:E),chkE B c e (.Slice lo hi st pos)=true->False
 | .box e,h=>nobE h
 | .var _,h=>nobE h
 | .con _,h=>nobE h
 | .glo _ _,h=>nobE h
 | .bin _ _ _,h=>nobE h
 | .neg _,h=>nobE h
 | .cmp _ _ _,h=>nobE h
 | .chn _ _ _ _ _,h=>nobE h
 | .not _,h=>nobE h
 | .and _ _,h=>nobE h
 | .or _ _,h=>nobE h
 | .ite _ _ _,h=>nobE h
 | .tup _,h=>nobE h
 | .lst _,h=>nobE h
 | .dic _ _ _,h=>nobE h
 | .sub _ _,h=>nobE h
 | .slc _ _ _,h=>nobE h
 | .bi _ _,h=>nobE h
 | .mth _ _ _,h=>nobE h
 | .call _ _,h=>nobE h
 | .callk _ _ _,h=>nobE h
 | .callv _ _,h=>nobE h
 | .comp _ _ _ _ _,h=>nobE h
 | .one _,h=>nobE h
 | .flip _,h=>nobE h
 | .dk1 _ _,h=>nobE h
 | .seq _,h=>nobE h
 | .rng _ _,h=>nobE h
 | .enum _,h=>nobE h
 | .zip _ _,h=>nobE h
 | .rev _,h=>nobE h
 | .dwn _,h=>nobE h
 | .keys _,h=>nobE h
 | .items _,h=>nobE h
theorem JS {c:Cc}{e:E}{y:Expr}(h:chkE B c e y=true):VP y:=by
 cases y with
 | Slice lo hi st pos=>exact (zah e h).elim
 | _=>exact fun _ _=>rfl
theorem Xu {iter:Expr}(h:wy iter=true) (env:Env) (v:δ):cu iter env v=pure v:=by cases iter <;> first | rfl | cases h
set_option tactic.hygienic true in
theorem zi1 {X:Cx}{d:D}{q:Const}{n:Nat}{pos:Pos}{c:Cc}(h:chkE B c (.con d) (.Constant q n pos)=true):∃ t,PE X (.Constant q n pos) (tC t)/\∀ g,Has Γ g d t:=by
 cases q with
 | none=>cases d <;> first | exact ⟨_,zhx,fun _=>rfl⟩ | exact nobE h
 | bool b=>cases d <;> first | (rename_i b';have e:=eq_of_beq (show (b'==b)=true from h);subst e;exact ⟨_,zkd,fun _=>rfl⟩) | exact nobE h
 | int b=>cases d <;> first | (rename_i b';have e:=eq_of_beq (show (b'==b)=true from h);subst e;exact ⟨_,zdn,fun _=>rfl⟩) | exact nobE h
 | str b=>cases d <;> first | (rename_i b';have e:=eq_of_beq (show (b'==b)=true from h);subst e;exact ⟨_,Q3,fun _=>rfl⟩) | exact nobE h
 | _=>cases d <;> exact nobE h
theorem qN {k0:Key}{ks:List Key}{keys:List (Option Expr)}(h:XQ (k0::ks) keys=true):∃ q n p r,keys=some (.Constant q n p)::r/\(∀ X:Cx,PE X (.Constant q n p) (tC (kV k0)))/\XQ ks r=true:=by
 cases keys with
 | nil=>exact nobE h
 | cons o r=>
  cases o with
  | none=>exact nobE h
  | some x=>
   have hb:Υ x.ctorIdx 19=true:=by revert h;cases x <;> first | exact non | exact fun _=>rfl
   revert h;apply qw hb;clear hb;intro q n p h;have h:(keyC k0 q&&XQ ks r)=true:=h;rw [ε] at h;refine ⟨q,n,p,r,rfl,fun X=>?_,h.2⟩;have h1:=h.1;cases k0 with
   | inl i=>
    cases q with
    | int j=>rw [show i=j from eq_of_beq h1];exact zdn
    | _=>exact nobE h1
   | inr i=>
    cases q with
    | str j=>rw [show i=j from eq_of_beq h1];exact Q3
    | _=>exact nobE h1
theorem XN:∀ {ks:List Key}{keys:List (Option Expr)},XQ ks keys=true->ks.length=keys.length/\keys.all (·.isSome)=true
 | [],[],_=>⟨rfl,rfl⟩
 | [],_::_,h=>nobE h
 | k0::ks,keys,h=>by obtain ⟨q,n,p,r,rfl,_,hr⟩:=qN h;obtain ⟨a,b⟩:=XN hr;exact ⟨by simp [a],by simpa using b⟩
theorem XM {c:Cc}:∀ {es:List E}{xs:List Expr},uE B c es xs=true->es.length=xs.length
 | [],[],_=>rfl
 | [],_::_,h=>nobE h
 | _::_,[],h=>nobE h
 | e::es,x::xs,h=>by have h:(chkE B c e x&&uE B c es xs)=true:=h;rw [ε] at h;simp [XM h.2]
theorem xN {a:Bool}(h:(a&&false)=true):False:=by rw [cG] at h;cases h
theorem jT {c:Cc}:∀ {es:List E}{xs:List Expr},zQ B c es xs=true->es.length=xs.length
 | [],[],_=>rfl
 | [],_::_,h=>nobE h
 | _::_,[],h=>nobE h
 | e::es,x::xs,h=>by have h:(chkE B c e x&&notStar x&&zQ B c es xs)=true:=h;rw [ε] at h;simp [jT h.2]
theorem zhY {c:Cc}{m:MT}{o:E}{es:List E}{f:Expr}{args:List Expr}{kws:List bD}{pos:Pos}(h:chkE B c (.mth m o es) (.Call f args kws pos)=true):
    ∃ w ap y ys,f=.Attribute w (mtS m) ap/\args=y::ys/\kws=[]/\chkE B c o w=true/\zQ B c es (y::ys)=true/\(ap.endLine==pos.line)=true/\yV w=true/\(y::ys).length<=9:=by
  have h:(match xZ f with
    | some q=>q.2.1==mtS m&&chkE B c o q.1&&zQ B c es args&&yE kws&&q.2.2.endLine==pos.line&&yV q.1&&decide (1<=es.length)&&decide (es.length<=9)
    | none=>false)=true:=h
  cases e:xZ f with
  | none=>rw [e] at h;cases h
  | some q=>
    rw [e] at h;simp only [ε,decide_eq_true_eq] at h;obtain ⟨⟨⟨⟨⟨⟨⟨h1,h2⟩,h3⟩,h4⟩,h5⟩,h6⟩,h7⟩,h8⟩:=h;have hl:=jT h3;cases args with
    | nil=>simp at hl;simp [hl] at h7
    | cons y ys=>
      refine ⟨q.1,q.2.2,y,ys,?_,rfl,xT h4,h2,h3,h5,h6,by lia⟩;rw [vM e,eq_of_beq h1]
theorem XH {c:Cc}:∀ {es:List E}{kws:List bD},XJ B c es kws=true->es.length=kws.length
 | [],[],_=>rfl
 | [],_::_,h=>nobE h
 | _::_,[],h=>nobE h
 | e::es,⟨none,x,p⟩::kws,h=>nobE h
 | e::es,⟨some n,x,p⟩::kws,h=>by have h:(chkE B c e x&&XJ B c es kws)=true:=h;rw [ε] at h;simp [XH h.2]
theorem jA:∀ {kws:List bD}{ks:List Str},yH kws=some ks->ks.length=kws.length
 | [],ks,h=>by cases h;rfl
 | ⟨none,x,p⟩::kws,ks,h=>by cases h
 | ⟨some n,x,p⟩::kws,ks,h=>by
  have h:(yH kws).map (n::·)=some ks:=h;cases e:yH kws with
  | none=>rw [e] at h;cases h
  | some l=>
   rw [e] at h;cases h;simp [jA e]
def TXr (Γ:Gm) (cf:Cf):List E->TA
 | [e]=>fun σ H Q=>TX Γ cf e σ H fun v H1=>Q [v] H1
 | es=>TXs Γ cf es
theorem ye {b:BI}{n:Str}{c:Cc}{X:Cx}{es:List E}{args:List Expr}{p pos:Pos}(ok:XOk Γ B (spN Γ cx) k X c) (hi:isI b=false) (h:(n==biS b&&B.bare.contains n&&gloK (c.names.lookup n)&&zQ B c es args&&!es.isEmpty)=true)
  (ih:zQ B c es args=true->PA X args (TXr Γ (cx noX) es)):PE X (.Call (.Name n p) args [] pos) (TX Γ (cx noX) (.bi b es))/\PT X (.Call (.Name n p) args [] pos) (TB Γ (cx noX) (.bi b es))/\(jG (.Call (.Name n p) args [] pos)=true->PW X (.Call (.Name n p) args [] pos) (TB Γ (cx noX) (.bi b es))):=by
 simp only [ε] at h;obtain ⟨⟨⟨⟨h1,h2⟩,h3⟩,h4⟩,h5⟩:=h;have e1:=eq_of_beq h1;subst e1;refine only ?_ rfl fun _=>rfl
 have ih:=ih h4;have hst:=xO h4;cases args with
 | nil=>
  cases es with
  | nil=>cases h5
  | cons _ _=>exact nobE h4
 | cons x xs=>
  refine zkZ ok (ok.glob h3) (ok.bare _ (ό.mp h2)) hst ih fun σ H Q h0=>goX h0 fun ρ S V g Hz hw w env kk=>?_
  match es,hw with
  | [],_=>cases h5
  | [e],hw=>exact ⟨ρ,S,_,g,Hz,hw,w,env,fun x v H1 g1 S1 st w1 vx h1=>by
   obtain ⟨⟨d,fr⟩,eb,q⟩:=zX h1;obtain ⟨r,r1,r2⟩:=zdX (X:=X) (Γ:=Γ) ok.hK ok.room.gd ok.u61 ok.calm hi eb
   exact ⟨r,r1,r2 S1 H1 g1 [v] Q w1 ⟨v,[],rfl,vx.rdb w1,rfl⟩ fun u H2 g2 st2 _ w2 vo=>kk _ u H2 g2 S1 (st.trans st2) w2 ((VN.of vo).back st) q⟩⟩
  | e1::e2::es,hw=>exact ⟨ρ,S,_,g,Hz,hw,w,env,fun ds vs H1 g1 S1 st w1 hv h1=>by
   obtain ⟨⟨d,fr⟩,eb,q⟩:=zX h1;obtain ⟨r,r1,r2⟩:=zdX (X:=X) (Γ:=Γ) ok.hK ok.room.gd ok.u61 ok.calm hi eb
   exact ⟨r,r1,r2 S1 H1 g1 vs Q w1 (QH w1 hv) fun u H2 g2 st2 _ w2 vo=>kk _ u H2 g2 S1 (st.trans st2) w2 ((VN.of vo).back st) q⟩⟩
theorem Km {f:Nat}{n:Str}{c:Cc}{X:Cx}{es:List E}{perm:List Nat}{kws:List bD}{p pos:Pos}(hm:Mono (cx noX)) (ok:XOk Γ B (spN Γ cx) k X c) (h:(B.fns[f]?==some n&&gloK (c.names.lookup n)&&yf n&&XJ B c es kws&&(match yH kws,B.pars[f]? with
      | some ks,some ps=>perm.length==ps.length&&perm.all (· < ks.length)&&perm.map (fun i=>ks.getD i "")==ps&&ks.length==ps.length&&B.kws.contains (f,ks,perm)
      | _,_=>false))=true) (ih:XJ B c es kws=true->PK X kws (TXs Γ (cx noX) es)):PE X (.Call (.Name n p) [] kws pos) (TX Γ (cx noX) (.callk f perm es)):=by
  simp only [ε] at h;obtain ⟨⟨⟨⟨h1,h2⟩,h3⟩,h4⟩,h5⟩:=h;cases hk:yH kws with
  | none=>rw [hk] at h5;cases h5
  | some ks=>
    cases hp:B.pars[f]? with
    | none=>rw [hk,hp] at h5;cases h5
    | some ps=>
      rw [hk,hp] at h5;simp only [ε,beq_iff_eq,ϒ,decide_eq_true_eq] at h5;obtain ⟨⟨⟨⟨g1,g2⟩,g3⟩,g4⟩,g5⟩:=h5;exact zeo hm ok (eq_of_beq h1) (V8 h3) (ok.glob h2) (yh h3).1 (ih h4) hk hp g1 g2 g3 g4 (ό.mp g5) (by rw [XH h4,jA hk])
theorem zcS {X:Cx}{c:Cc}{sc:eG}{js:List Nat}{xs:List Str}{t:T}{it elt:E}{ifs:List E}{cs:List Expr}{tgt iter y:Expr}{pos:Pos}(ok:XOk Γ B (spN Γ cx) k X c) (hs:chkS c sc js=true) (hn:wy iter=true) (nd:(xs++js.map (fun j=>c.N.getD j "")).Nodup)
  (hst:ZS t=false) (ht:nT t=xs.length) (hr:tIs t=ϝ xs.length) (hT:chkT (inner c sc xs js) t tgt=true) (hi:PI X tgt iter (TXi Γ (cx noX) it))
  (hz:∀ X,XOk Γ B (spN Γ cx) k X (inner c sc xs js)->PTs X cs (TXf Γ (cx noX) ifs)) (he:∀ X,XOk Γ B (spN Γ cx) k X (inner c sc xs js)->PE X y (TX Γ (cx noX) elt)):
  PE X (.ListComp y [⟨tgt,iter,cs,0⟩] sc pos) (TX Γ (cx noX) (.comp t js it ifs elt))/\CSet X (.ListComp y [⟨tgt,iter,cs,0⟩] sc pos) (TX Γ (cx noX) (.comp t js it ifs elt)):=by
 have okI:=fun C s3 H3 fp=>KD ok hs nd C s3 H3 fp
 refine zcX (za9 (xs:=xs) (tg:=tgOf X.K t) ok.calm (Jr ok hs) hi (fun C s3 H3 fp=>Qa (okI C s3 H3 fp) hT) (fun C s3 H3 fp=>hz _ (okI C s3 H3 fp)) (fun C s3 H3 fp=>he _ (okI C s3 H3 fp)) (Xu hn X.env)) fun σ H Q h0=>goX h0 fun ρ S V g Hz hw w env kk=>?_
 refine zcR (X:=X) (Qe:=fun D H'=>Q (.ref D) H') hst (fun i hi=>?_) ht ?_ hw w env fun ds Da H' g' S' st w' vx q=>kk _ _ H' g' S' st w' vx q
 ·rw [hr] at hi;rw [ht];exact aY.mp hi
 ·exact cT.of_map _ (fun a b (h:c.N.getD a ""≠c.N.getD b "") e=>h (by rw [e])) (gH.mp nd).2.1
theorem XD {t:T}{js:List Nat}{it:E}{ifs:List E}{elt:E}{X:Cx}{c:Cc}{tgt iter y:Expr}{cs:List Expr}{kk:Int}{sc:eG}{pos:Pos}(hI:∀ X c tgt x,XOk Γ B (spN Γ cx) k X c->chkI B c it tgt x=true->PI X tgt x (TXi Γ (cx noX) it)) (hF:∀ X c xs,XOk Γ B (spN Γ cx) k X c->uE B c ifs xs=true->ifs.length<=1->PTs X xs (TXf Γ (cx noX) ifs)) (hE:∀ X c x,XOk Γ B (spN Γ cx) k X c->chkE B c elt x=true->PE X x (TX Γ (cx noX) elt))
    (ok:XOk Γ B (spN Γ cx) k X c) (h:chkE B c (.comp t js it ifs elt) (.ListComp y [⟨tgt,iter,cs,kk⟩] sc pos)=true):PE X (.ListComp y [⟨tgt,iter,cs,kk⟩] sc pos) (TX Γ (cx noX) (.comp t js it ifs elt))/\CSet X (.ListComp y [⟨tgt,iter,cs,kk⟩] sc pos) (TX Γ (cx noX) (.comp t js it ifs elt)):=by
  have h:(kk==0&&chkS c sc js&&chkI B c it tgt iter&&wy iter&&(match yM tgt with
    | some xs=>decide ((xs++js.map (fun j=>c.N.getD j "")).Nodup)&&nT t==xs.length&&tIs t==ϝ xs.length&&chkT (inner c sc xs js) t tgt&&chkE B (inner c sc xs js) elt y&&uE B (inner c sc xs js) ifs cs&&decide (ifs.length<=1)
    | none=>false))=true:=h
  simp only [ε] at h;obtain ⟨⟨⟨⟨h1,h2⟩,h3⟩,h4⟩,h5⟩:=h;have e1:=eq_of_beq h1;subst e1;cases ht:yM tgt with
  | none=>rw [ht] at h5;cases h5
  | some xs=>
    rw [ht] at h5;simp only [ε] at h5;obtain ⟨⟨⟨⟨⟨⟨h6,h7⟩,h8⟩,h9⟩,h10⟩,h11⟩,h12⟩:=h5;have hst:ZS t=false:=by
      cases t with
      | nst i is=>
        exfalso;cases q:zc2 tgt with
        | none=>unfold chkT at h9;rw [if_pos (show ZS (.nst i is)=true from rfl),q] at h9;cases h9
        | some z=>rw [Ju q] at ht;cases ht
      | _=>rfl
    exact zcS ok h2 h4 (of_decide_eq_true h6) hst (eq_of_beq h7) (eq_of_beq h8) h9 (hI X c tgt iter ok h3) (fun X ok'=>hF X _ cs ok' h11 (of_decide_eq_true h12)) fun X ok'=>hE X _ y ok' h10
mutual
theorem sA (hcf:CfN B (cx noX)) (hm:Mono (cx noX)):∀ (e:E),SE Γ B cx k e
  | .var i=>fun X c x ok h=>by
    have hb:Υ x.ctorIdx 23=true:=by revert h;cases x <;> first | exact non | exact fun _=>rfl
    revert h;apply ww hb;clear hb;intro n pos h;have h:(c.N[i]?==some n&&visK (c.names.lookup n)&&yf n)=true:=h;rw [ε,ε] at h;obtain ⟨h1,h2,_⟩:=yh h.2;exact only (zjx (by rw [ok.N];exact eq_of_beq h.1.1) (ok.vis h.1.2) h1 h2) rfl fun _=>rfl
  | .con d=>fun X c x ok h=>by
    have hb:Υ x.ctorIdx 19=true:=by revert h;cases x <;> first | exact non | exact fun _=>rfl
    revert h;apply qw hb;clear hb;intro q n pos h;obtain ⟨t,h1,h2⟩:=zi1 (Γ:=Γ) (X:=X) h;exact only (zg8 h1 h2 fun _ _ _ q=>q) rfl fun _=>rfl
  | .glo m d=>fun X c x ok h=>by
    have hb:Υ x.ctorIdx 23=true:=by revert h;cases x <;> first | exact non | exact fun _=>rfl
    revert h;apply ww hb;clear hb;intro n pos h
    have h:((match B.consts[m]? with
      | some p=>p.1==n&&JP p.2 d
      | none=>false)&&gloK (c.names.lookup n)&&yf n)=true:=h
    rw [ε,ε] at h;cases e:B.consts[m]? with
    | none=>rw [e] at h;cases h.1.1
    | some q=>
      rw [e] at h;obtain ⟨y,d'⟩:=q;have h1:(y==n&&JP d' d)=true:=h.1.1;rw [ε] at h1;have e1:=eq_of_beq h1.1;have e2:=Ug _ _ h1.2;subst e1 e2;obtain ⟨u,v,g1,g2,g3⟩:=ok.consts m y d' e;exact only (zg8 (zeQ (ok.glob h.1.2) g1 g2 (yh h.2).1) g3 fun _ _ _ q=>q) rfl fun _=>rfl
  | .bin op a b=>fun X c x ok h=>by
    have hb:Υ x.ctorIdx 2=true:=by revert h;cases x <;> first | exact non | exact fun _=>rfl
    revert h;apply ze7 hb;clear hb;intro l op' r pos h;have h:(op==op'&&chkE B c a l&&chkE B c b r)=true:=h;rw [ε,ε] at h;have e1:=eq_of_beq h.1.1;subst e1;exact only (zjY ok.hK (sA hcf hm a X c l ok h.1.2).1 (sA hcf hm b X c r ok h.2).1) rfl fun _=>rfl
  | .neg a=>fun X c x ok h=>nobE h
  | .cmp op a b=>fun X c x ok h=>by
    have hb:Υ x.ctorIdx 15=true:=by revert h;cases x <;> first | exact non | exact fun _=>rfl
    revert h;apply YM hb;clear hb;intro l ops rs pos h
    match ops,rs,h with
    | [op'],[r],h=>
      have h:(op==op'&&chkE B c a l&&chkE B c b r&&wy r)=true:=h;rw [ε,ε,ε] at h;have e1:=eq_of_beq h.1.1.1;subst e1;have hm':mV op r=false:=by cases r <;> first | rfl | cases h.2
      have:=zjV (pos:=pos) ok.hK ok.u61 (sA hcf hm a X c l ok h.1.1.2).1 (sA hcf hm b X c r ok h.1.2).1 hm';exact ⟨this.1,this.2,fun q=>by cases q⟩
    | [],_,h=>exact nobE h
    | [_],[],h=>exact nobE h
    | [_],_::_::_,h=>exact nobE h
    | _::_::_,_,h=>exact nobE h
  | .chn o1 o2 a b d=>fun X c x ok h=>by
    have hb:Υ x.ctorIdx 15=true:=by revert h;cases x <;> first | exact non | exact fun _=>rfl
    revert h;apply YM hb;clear hb;intro l ops rs pos h
    match ops,rs,h with
    | [p1,p2],[r1,r2],h=>
      have h:(o1==p1&&o2==p2&&chkE B c a l&&chkE B c b r1&&chkE B c d r2&&wy r2)=true:=h;simp only [ε] at h;obtain ⟨⟨⟨⟨⟨h1,h2⟩,h3⟩,h4⟩,h5⟩,h6⟩:=h;have e1:=eq_of_beq h1;have e2:=eq_of_beq h2;subst e1 e2;have hm':lastMarks [o1,o2] [r1,r2]=false:=by cases r2 <;> first | rfl | cases h6
      have:=zjW (pos:=pos) ok.hK ok.u61 (sA hcf hm a X c l ok h3).1 (sA hcf hm b X c r1 ok h4).1 (sA hcf hm d X c r2 ok h5).1 hm';exact ⟨this.1,this.2,fun q=>by cases q⟩
    | [],_,h=>exact nobE h
    | [_],_,h=>exact nobE h
    | [_,_],[],h=>exact nobE h
    | [_,_],[_],h=>exact nobE h
    | [_,_],_::_::_::_,h=>exact nobE h
    | _::_::_::_,_,h=>exact nobE h
  | .not a=>fun X c x ok h=>by
    have hb:Υ x.ctorIdx 3=true:=by revert h;cases x <;> first | exact non | exact fun _=>rfl
    revert h;apply zae hb;clear hb;intro op l pos h;have h:(op==PySem.UnaryOp.Not&&chkE B c a l)=true:=h;rw [ε] at h;have e1:=eq_of_beq h.1;subst e1;obtain ⟨i1,i2,_⟩:=sA hcf hm a X c l ok h.2;exact ⟨zjK i1,zg1 i2,fun q=>by cases q⟩
  | .and a b=>fun X c x ok h=>by
    have hb:Υ x.ctorIdx 0=true:=by revert h;cases x <;> first | exact non | exact fun _=>rfl
    revert h;apply Zz hb;clear hb;intro op vs pos h
    match vs,h with
    | l::r::rest,h=>
      have h:(op==pF.And&&chkE B c a l&&chkE B c b (.BoolOp .And (r::rest) pos))=true:=h;rw [ε,ε] at h;have e1:=eq_of_beq h.1.1;subst e1;obtain ⟨i1,i2,_⟩:=sA hcf hm a X c l ok h.1.2;obtain ⟨j1,_,j3⟩:=sA hcf hm b X c _ ok h.2;have w:=zha i2 (j3 rfl);exact ⟨zj2 i1 j1,w.pt,fun _=>w⟩
    | [],h=>exact nobE h
    | [_],h=>exact nobE h
  | .or a b=>fun X c x ok h=>by
    have hb:Υ x.ctorIdx 0=true:=by revert h;cases x <;> first | exact non | exact fun _=>rfl
    revert h;apply Zz hb;clear hb;intro op vs pos h
    match vs,h with
    | l::r::rest,h=>
      have h:(op==pF.Or&&chkE B c a l&&chkE B c b (.BoolOp .Or (r::rest) pos))=true:=h;rw [ε,ε] at h;have e1:=eq_of_beq h.1.1;subst e1;obtain ⟨i1,i2,_⟩:=sA hcf hm a X c l ok h.1.2;obtain ⟨j1,_,j3⟩:=sA hcf hm b X c _ ok h.2;have w:=zjJ i2 (j3 rfl);exact ⟨s_or i1 j1,w.pt,fun _=>w⟩
    | [],h=>exact nobE h
    | [_],h=>exact nobE h
  | .one a=>fun X c x ok h=>by
    have hb:Υ x.ctorIdx 0=true:=by revert h;cases x <;> first | exact non | exact fun _=>rfl
    revert h;apply Zz hb;clear hb;intro op vs pos h
    match vs,h with
    | [l],h=>
      obtain ⟨i1,i2,_⟩:=sA hcf hm a X c l ok (show chkE B c a l=true from h);exact ⟨zhv i1,(zde i2).pt,fun _=>zde i2⟩
    | [],h=>exact nobE h
    | _::_::_,h=>exact nobE h
  | .ite t a b=>fun X c x ok h=>by
    have hb:Υ x.ctorIdx 5=true:=by revert h;cases x <;> first | exact non | exact fun _=>rfl
    revert h;apply ze6 hb;clear hb;intro l y z pos h;have h:(chkE B c t l&&chkE B c a y&&chkE B c b z)=true:=h;rw [ε,ε] at h;obtain ⟨_,i2,_⟩:=sA hcf hm t X c l ok h.1.1;obtain ⟨j1,j2,_⟩:=sA hcf hm a X c y ok h.1.2;obtain ⟨k1,k2,_⟩:=sA hcf hm b X c z ok h.2;exact ⟨zjO i2 j1 k1,zhn i2 j2 k2,fun q=>by cases q⟩
  | .tup es=>fun X c x ok h=>by
    have hb:Υ x.ctorIdx 25=true:=by revert h;cases x <;> first | exact non | exact fun _=>rfl
    revert h;apply ze3 hb;clear hb;intro xs kk pos h;exact only (zjy (sEs hcf hm es X c xs ok h)) rfl fun _=>rfl
  | .lst es=>fun X c x ok h=>by
    have hb:Υ x.ctorIdx 24=true:=by revert h;cases x <;> first | exact non | exact fun _=>rfl
    revert h;apply ofList hb;clear hb;intro xs pos h;exact only (zjN (sEs hcf hm es X c xs ok h)) rfl fun _=>rfl
  | .sub a i=>fun X c x ok h=>by
    have hb:Υ x.ctorIdx 21=true:=by revert h;cases x <;> first | exact non | exact fun _=>rfl
    revert h;apply jt hb;clear hb;intro l y pos h;have h:(chkE B c a l&&chkE B c i y)=true:=h;rw [ε] at h;exact only (zjz ok.hK ok.u1 (sA hcf hm a X c l ok h.1).1 (sA hcf hm i X c y ok h.2).1 (JS h.2)) rfl fun _=>rfl
  | .slc a lo hi=>fun X c x ok h=>by
    have hb:Υ x.ctorIdx 21=true:=by revert h;cases x <;> first | exact non | exact fun _=>rfl
    revert h;apply jt hb;clear hb;intro l y pos h;have hb:Υ y.ctorIdx 26=true:=by revert h;cases y <;> first | exact non | exact fun _=>rfl
    revert h;apply ze4 hb;clear hb;intro lo' hi' st p2 h;cases st with
    | none=>
      have h:(chkE B c a l&&chkO B c lo lo'&&chkO B c hi hi')=true:=h;rw [ε,ε] at h;exact only (zjD ok.hK (sA hcf hm a X c l ok h.1.1).1 (sO hcf hm lo X c lo' ok h.1.2) (sO hcf hm hi X c hi' ok h.2)) rfl fun _=>rfl
    | some _=>exact nobE h
  | .bi b es=>fun X c x ok h=>by
    have hb:Υ x.ctorIdx 16=true:=by revert h;cases x <;> first | exact non | exact fun _=>rfl
    revert h;apply vp hb;clear hb;intro f args kws pos h;have hb:Υ f.ctorIdx 23=true:=by revert h;cases f <;> first | exact non | exact fun _=>rfl
    revert h;apply ww hb;clear hb;intro n p h;cases kws with
    | nil=>
      cases b with
      | isinst t=>
        match es,args,h with
        | [],_,h=>exact (xN (show (_&&false)=true from h)).elim
        | _::_::_,_,h=>exact (xN (show (_&&false)=true from h)).elim
        | [_],[],h=>exact (xN (show (_&&false)=true from h)).elim
        | [_],[_],h=>exact (xN (show (_&&false)=true from h)).elim
        | [_],_::z::_::_,h=>cases z <;> exact (xN (show (_&&false)=true from h)).elim
        | [e],[y,z],h=>
          cases z with
          | Name z pz=>
            have h:(n==("isinstance":Str)&&B.bare.contains n&&B.bare.contains (tyN t)&&gloK (c.names.lookup n)&&(chkE B c e y&&notStar y&&z==tyN t&&gloK (c.names.lookup z)))=true:=h;simp only [ε] at h;obtain ⟨⟨⟨⟨h1,h2⟩,h3⟩,h4⟩,⟨⟨h5,h6⟩,h7⟩,h8⟩:=h;have e1:=eq_of_beq h1;have e2:=eq_of_beq h7;subst e1 e2;exact only (s_is ok (ok.glob h4) (ok.bare _ (ό.mp h2)) (ok.glob h8) (ok.bare _ (ό.mp h3)) h6 (sA hcf hm e X c y ok h5).1) rfl fun _=>rfl
          | _=>exact (xN (show (_&&false)=true from h)).elim
      | len=>exact ye ok rfl (show (n==biS .len&&B.bare.contains n&&gloK (c.names.lookup n)&&zQ B c es args&&!es.isEmpty)=true from h) fun q=>sRs hcf hm es X c args ok q
      | abs=>exact ye ok rfl (show (n==biS .abs&&B.bare.contains n&&gloK (c.names.lookup n)&&zQ B c es args&&!es.isEmpty)=true from h) fun q=>sRs hcf hm es X c args ok q
      | int=>exact ye ok rfl (show (n==biS .int&&B.bare.contains n&&gloK (c.names.lookup n)&&zQ B c es args&&!es.isEmpty)=true from h) fun q=>sRs hcf hm es X c args ok q
      | str=>exact ye ok rfl (show (n==biS .str&&B.bare.contains n&&gloK (c.names.lookup n)&&zQ B c es args&&!es.isEmpty)=true from h) fun q=>sRs hcf hm es X c args ok q
      | tuple=>exact ye ok rfl (show (n==biS .tuple&&B.bare.contains n&&gloK (c.names.lookup n)&&zQ B c es args&&!es.isEmpty)=true from h) fun q=>sRs hcf hm es X c args ok q
      | list=>exact ye ok rfl (show (n==biS .list&&B.bare.contains n&&gloK (c.names.lookup n)&&zQ B c es args&&!es.isEmpty)=true from h) fun q=>sRs hcf hm es X c args ok q
      | sum=>exact ye ok rfl (show (n==biS .sum&&B.bare.contains n&&gloK (c.names.lookup n)&&zQ B c es args&&!es.isEmpty)=true from h) fun q=>sRs hcf hm es X c args ok q
      | all=>exact ye ok rfl (show (n==biS .all&&B.bare.contains n&&gloK (c.names.lookup n)&&zQ B c es args&&!es.isEmpty)=true from h) fun q=>sRs hcf hm es X c args ok q
      | any=>exact ye ok rfl (show (n==biS .any&&B.bare.contains n&&gloK (c.names.lookup n)&&zQ B c es args&&!es.isEmpty)=true from h) fun q=>sRs hcf hm es X c args ok q
      | min2=>exact ye ok rfl (show (n==biS .min2&&B.bare.contains n&&gloK (c.names.lookup n)&&zQ B c es args&&!es.isEmpty)=true from h) fun q=>sRs hcf hm es X c args ok q
      | max2=>exact ye ok rfl (show (n==biS .max2&&B.bare.contains n&&gloK (c.names.lookup n)&&zQ B c es args&&!es.isEmpty)=true from h) fun q=>sRs hcf hm es X c args ok q
      | sorted=>exact ye ok rfl (show (n==biS .sorted&&B.bare.contains n&&gloK (c.names.lookup n)&&zQ B c es args&&!es.isEmpty)=true from h) fun q=>sRs hcf hm es X c args ok q
      | repr=>exact ye ok rfl (show (n==biS .repr&&B.bare.contains n&&gloK (c.names.lookup n)&&zQ B c es args&&!es.isEmpty)=true from h) fun q=>sRs hcf hm es X c args ok q
      | dict=>exact ye ok rfl (show (n==biS .dict&&B.bare.contains n&&gloK (c.names.lookup n)&&zQ B c es args&&!es.isEmpty)=true from h) fun q=>sRs hcf hm es X c args ok q
      | sset=>
        match es,args,h with
        | [],_,h=>exact (xN (show (_&&false)=true from h)).elim
        | _::_::_,_,h=>exact (xN (show (_&&false)=true from h)).elim
        | [_],[],h=>exact (xN (show (_&&false)=true from h)).elim
        | [_],_::_::_,h=>exact (xN (show (_&&false)=true from h)).elim
        | [e],[z],h=>
          have h9:(n==("sorted":Str)&&B.bare.contains n&&gloK (c.names.lookup n)&&(match Yt z with
            | some (y,u)=>y==("set":Str)&&B.bare.contains y&&gloK (c.names.lookup y)&&chkE B c e u&&notStar u
            | none=>false))=true:=h
          cases hz:Yt z with
          | none=>rw [hz] at h9;exact (xN h9).elim
          | some q=>
            obtain ⟨y,u⟩:=q;rw [hz] at h9;obtain ⟨py,pu,rfl⟩:=Qp hz;simp only [ε] at h9;obtain ⟨⟨⟨h1,h2⟩,h3⟩,⟨⟨⟨h4,h5⟩,h6⟩,h7⟩,h8⟩:=h9;have e1:=eq_of_beq h1;have e2:=eq_of_beq h4;subst e1 e2;exact only (zgR ok (ok.glob h6) (ok.bare _ (ό.mp h5)) (ok.glob h3) (ok.bare _ (ό.mp h2)) h8 (sA hcf hm e X c u ok h7).1) rfl fun _=>rfl
      | lset=>exact nobE h
      | trev=>exact nobE h
    | cons _ _=>exact nobE h
  | .call f es=>fun X c x ok h=>by
    have hb:Υ x.ctorIdx 16=true:=by revert h;cases x <;> first | exact non | exact fun _=>rfl
    revert h;apply vp hb;clear hb;intro q args kws pos h;have hb:Υ q.ctorIdx 23=true:=by revert h;cases q <;> first | exact non | exact fun _=>rfl
    revert h;apply ww hb;clear hb;intro n p h;cases kws with
    | nil=>
      have h:(B.fns[f]?==some n&&gloK (c.names.lookup n)&&yf n&&zQ B c es args&&!es.isEmpty)=true:=h;simp only [ε] at h;obtain ⟨⟨⟨⟨h1,h2⟩,h3⟩,h4⟩,h5⟩:=h;cases args with
      | nil=>
        cases es with
        | nil=>cases h5
        | cons _ _=>exact nobE h4
      | cons y ys=>exact only (s_call hcf ok (eq_of_beq h1) (V8 h3) (ok.glob h2) (yh h3).1 (xO h4) (sEs hcf hm es X c (y::ys) ok h4)) rfl fun _=>rfl
    | cons _ _=>exact nobE h
  | .callk f perm es=>fun X c x ok h=>by
    have hb:Υ x.ctorIdx 16=true:=by revert h;cases x <;> first | exact non | exact fun _=>rfl
    revert h;apply vp hb;clear hb;intro q args kws pos h;have hb:Υ q.ctorIdx 23=true:=by revert h;cases q <;> first | exact non | exact fun _=>rfl
    revert h;apply ww hb;clear hb;intro n p h;cases args with
    | nil=>
      refine only (Km hm ok ?_ fun q=>sKs hcf hm es X c kws ok q) rfl fun _=>rfl
      cases kws <;> exact h
    | cons _ _=>exact nobE h
  | .comp t js it ifs elt=>fun X c x ok h=>by
    have hb:Υ x.ctorIdx 8=true:=by revert h;cases x <;> first | exact non | exact fun _=>rfl
    revert h;apply qu hb;clear hb;intro y gens sc pos h
    match gens,h with
    | [⟨tgt,iter,cs,kk⟩],h=>exact only (XD (fun X c tgt x ok q=>sI hcf hm it X c tgt x ok q) (fun X c xs ok q l=>sFs hcf hm ifs X c xs ok q l) (fun X c x ok q=>(sA hcf hm elt X c x ok q).1) ok h).1 rfl fun _=>rfl
    | [],h=>exact nobE h
    | ⟨_,_,_,_⟩::⟨_,_,_,_⟩::_,h=>exact nobE h
  | .box e=>fun X c x ok h=>by
    have h:(QS x&&chkE B c e x)=true:=h;rw [ε] at h
    have pe:PE X x (TX Γ (cx noX) (.box e)):=((sA hcf hm e X c x ok h.2).1).imp fun σ H Q ⟨ρ,S,V,g,Hz,hw,w,env,kk⟩=>⟨ρ,S,_,g,Hz,hw,w,env,fun y v H1 g1 S1 st w1 vx q=>by
      obtain ⟨d,k⟩:=y;cases k with
      | fr=>
        obtain ⟨g2,s2,w2,h2⟩:=zfY st w1 vx;exact kk (.ref S1.length,.st) v H1 g2 _ s2 w2 h2 q
      | _=>exact q.elim⟩
    have hp:=h.1;cases x <;> first | exact only pe rfl fun _=>rfl | exact nobE hp
  | .dic tk ks es=>fun X c x ok h=>by
    have hb:Υ x.ctorIdx 6=true:=by revert h;cases x <;> first | exact non | exact fun _=>rfl
    revert h;apply zhT hb;clear hb;intro keys vals pos h;have h:(XQ ks keys&&uE B c es vals&&decide (ks.length=es.length)&&decide (ks.length<=15))=true:=h;simp only [ε,decide_eq_true_eq] at h;obtain ⟨⟨⟨h1,h2⟩,h3⟩,h4⟩:=h;refine only ?_ rfl fun _=>rfl
    cases ks with
    | nil=>
      cases keys with
      | cons _ _=>exact nobE h1
      | nil=>
        cases es with
        | cons _ _=>cases h3
        | nil=>
          cases vals with
          | cons _ _=>exact nobE h2
          | nil=>
            cases tk with
            | true=>exact zem (ks:=[])
            | false=>exact zen
    | cons k0 ks=>
      have hps:=sPs (pos:=pos) hcf hm es X c vals (k0::ks) keys ok h2 h1 h3;obtain ⟨l1,l2⟩:=XN h1;have l3:=XM h2;have hd:=zg7 hps l2 (by rw [<- l1,h3,l3]) (fun z=>by rw [z] at l1;cases l1) (by rw [<- l1];exact h4);cases tk with
      | false=>exact hd
      | true=>exact hd.imp fun σ H Q ⟨ρ,S,V,g,Hz,hw,w,env,kk⟩=>⟨ρ,S,V,g,Hz,zB hm es (fun ds S1 q=>by
        obtain ⟨hq,_⟩:=yr q;unfold zcP at hq
        simp at hq) hw,w,env,kk⟩
  | .mth m o es=>fun X c x ok h=>by
    have hb:Υ x.ctorIdx 16=true:=by revert h;cases x <;> first | exact non | exact fun _=>rfl
    revert h;apply vp hb;clear hb;intro f args kws pos h;obtain ⟨w,ap,y,ys,rfl,rfl,rfl,h1,h2,h3,h4,h5⟩:=zhY h;exact only (zjL ok (sA hcf hm o X c w ok h1).1 (xO h2) (sEs hcf hm es X c (y::ys) ok h2) h3 h4 h5) rfl fun _=>rfl
  | .att cs o f=>fun X c x ok h=>by
    have hb:Υ x.ctorIdx 20=true:=by revert h;cases x <;> first | exact non | exact fun _=>rfl
    revert h;apply W3 hb;clear hb;intro y g pos h;have h:(f==g&&chkE B c o y&&yV y&&cs.all (vC B f))=true:=h;simp only [ε] at h;obtain ⟨⟨⟨h1,h2⟩,h3⟩,h4⟩:=h;have e1:=eq_of_beq h1;subst e1;exact only (zj0 ok (sA hcf hm o X c y ok h2).1 h3 (ϒ.mp h4)) rfl fun _=>rfl
  | .met ms o m es=>fun X c x ok h=>by
    have hb:Υ x.ctorIdx 16=true:=by revert h;cases x <;> first | exact non | exact fun _=>rfl
    revert h;apply vp hb;clear hb;intro f args kws pos h
    have h:(match xZ f with
      | some q=>q.2.1==m&&chkE B c o q.1&&zQ B c es args&&yE kws&&q.2.2.endLine==pos.line&&yV q.1&&ms.all (JX B m)&&decide (es.length<=9)
      | none=>false)=true:=h
    cases e:xZ f with
    | none=>rw [e] at h;exact nobE h
    | some q=>
      rw [e] at h;have h:(q.2.1==m&&chkE B c o q.1&&zQ B c es args&&yE kws&&q.2.2.endLine==pos.line&&yV q.1&&ms.all (JX B m)&&decide (es.length<=9))=true:=h;simp only [ε] at h;obtain ⟨⟨⟨⟨⟨⟨⟨h1,h2⟩,h3⟩,h4⟩,h5⟩,h6⟩,h7⟩,h8⟩:=h;have e1:=eq_of_beq h1;subst e1;cases vM e;cases xT h4;exact only (zjM hcf ok (sA hcf hm o X c q.1 ok h2).1 h6 (xO h3) (by rw [<- jT h3];exact of_decide_eq_true h8) h5 (sEs hcf hm es X c args ok h3) (fun z=>by subst z;cases es with | nil=>rfl | cons _ _=>exact nobE h3) (ϒ.mp h7)) rfl fun _=>rfl
  | .mk n f es=>fun X c x ok h=>by
    have hb:Υ x.ctorIdx 16=true:=by revert h;cases x <;> first | exact non | exact fun _=>rfl
    revert h;apply vp hb;clear hb;intro q args kws pos h;have hb:Υ q.ctorIdx 23=true:=by revert h;cases q <;> first | exact non | exact fun _=>rfl
    revert h;apply ww hb;clear hb;intro nm p h;cases kws with
    | nil=>
      have h:(n==nm&&gloK (c.names.lookup nm)&&yf nm&&zQ B c es args&&!es.isEmpty&&B.obs.any (fun o=>o.name==n&&o.meths.contains (("__init__":Str),f)))=true:=h;simp only [ε] at h;obtain ⟨⟨⟨⟨⟨h1,h2⟩,h3⟩,h4⟩,h5⟩,h6⟩:=h;have e1:=eq_of_beq h1;subst e1;cases args with
      | nil=>
        cases es with
        | nil=>cases h5
        | cons _ _=>exact nobE h4
      | cons y ys=>exact only (s_mk hcf ok (ok.glob h2) (yh h3).1 (xO h4) (sEs hcf hm es X c (y::ys) ok h4) (zdq (q:=(n,f)) h6)) rfl fun _=>rfl
    | cons _ _=>exact nobE h
  | .flip e=>fun X c x ok h=>nobE h
  | .dk1 a b=>fun X c x ok h=>nobE h
  | .callv i es=>fun X c x ok h=>nobE h
  | .seq _=>fun X c x ok h=>none_of fun _ _ _ q=>q
  | .rng _ _=>fun X c x ok h=>none_of fun _ _ _ q=>q
  | .enum _=>fun X c x ok h=>none_of fun _ _ _ q=>q
  | .zip _ _=>fun X c x ok h=>none_of fun _ _ _ q=>q
  | .rev _=>fun X c x ok h=>none_of fun _ _ _ q=>q
  | .dwn _=>fun X c x ok h=>none_of fun _ _ _ q=>q
  | .keys _=>fun X c x ok h=>none_of fun _ _ _ q=>q
  | .items _=>fun X c x ok h=>none_of fun _ _ _ q=>q
theorem sRs (hcf:CfN B (cx noX)) (hm:Mono (cx noX)):∀ (es:List E) (X:Cx) (c:Cc) (xs:List Expr),XOk Γ B (spN Γ cx) k X c->zQ B c es xs=true->PA X xs (TXr Γ (cx noX) es)
 | [],X,c,xs,ok,h=>by
  cases xs with
  | nil=>exact zg2
  | cons _ _=>exact nobE h
 | [e],X,c,xs,ok,h=>by
  cases xs with
  | nil=>exact nobE h
  | cons x xs=>
   have h:(chkE B c e x&&notStar x&&zQ B c [] xs)=true:=h;rw [ε,ε] at h;cases xs with
   | nil=>exact yg (sA hcf hm e X c x ok h.1.1).1 xq (zc h.1.2 _ _)
   | cons _ _=>exact nobE h.2
 | e::f::es,X,c,xs,ok,h=>by
  cases xs with
  | nil=>exact nobE h
  | cons x xs=>
   have h:(chkE B c e x&&notStar x&&zQ B c (f::es) xs)=true:=h;rw [ε,ε] at h;exact zdf h.1.2 (sA hcf hm e X c x ok h.1.1).1 (sEs hcf hm (f::es) X c xs ok h.2)
theorem sEs (hcf:CfN B (cx noX)) (hm:Mono (cx noX)):∀ (es:List E) (X:Cx) (c:Cc) (xs:List Expr),XOk Γ B (spN Γ cx) k X c->zQ B c es xs=true->PA X xs (TXs Γ (cx noX) es)
 | [],X,c,xs,ok,h=>by
  cases xs with
  | nil=>exact zg2
  | cons _ _=>exact nobE h
 | e::es,X,c,xs,ok,h=>by
  cases xs with
  | nil=>exact nobE h
  | cons x xs=>
   have h:(chkE B c e x&&notStar x&&zQ B c es xs)=true:=h;rw [ε,ε] at h;exact zdf h.1.2 (sA hcf hm e X c x ok h.1.1).1 (sEs hcf hm es X c xs ok h.2)
theorem sPs {pos:Pos}(hcf:CfN B (cx noX)) (hm:Mono (cx noX)):∀ (es:List E) (X:Cx) (c:Cc) (vals:List Expr) (ks:List Key) (keys:List (Option Expr)),XOk Γ B (spN Γ cx) k X c->uE B c es vals=true->XQ ks keys=true->ks.length=es.length->PPd X pos keys vals ks (TXs Γ (cx noX) es)
 | [],X,c,vals,ks,keys,ok,h,hk,hl=>by
  cases vals with
  | cons _ _=>exact nobE h
  | nil=>
   cases ks with
   | cons _ _=>cases hl
   | nil=>
    cases keys with
    | cons _ _=>exact nobE hk
    | nil=>exact zgZ
 | a::es,X,c,vals,ks,keys,ok,h,hk,hl=>by
  cases vals with
  | nil=>exact nobE h
  | cons x vals=>
   have h:(chkE B c a x&&uE B c es vals)=true:=h;rw [ε] at h;cases ks with
   | nil=>cases hl
   | cons k0 ks=>
    obtain ⟨q,n,p,r,rfl,hc,hr⟩:=qN hk;exact zek (hc X) (sA hcf hm a X c x ok h.1).1 (sPs hcf hm es X c vals ks r ok h.2 hr (by simpa using hl))
theorem sKs (hcf:CfN B (cx noX)) (hm:Mono (cx noX)):∀ (es:List E) (X:Cx) (c:Cc) (kws:List bD),XOk Γ B (spN Γ cx) k X c->XJ B c es kws=true->PK X kws (TXs Γ (cx noX) es)
 | [],X,c,xs,ok,h=>by
  cases xs with
  | nil=>exact zg3
  | cons _ _=>exact nobE h
 | e::es,X,c,xs,ok,h=>by
  cases xs with
  | nil=>exact nobE h
  | cons q xs=>
   obtain ⟨n,x,kp⟩:=q;cases n with
   | none=>exact nobE h
   | some n=>
    have h:(chkE B c e x&&XJ B c es xs)=true:=h;rw [ε] at h;exact zel (sA hcf hm e X c x ok h.1).1 (sKs hcf hm es X c xs ok h.2)
theorem sI (hcf:CfN B (cx noX)) (hm:Mono (cx noX)):∀ (e:E) (X:Cx) (c:Cc) (tgt x:Expr),XOk Γ B (spN Γ cx) k X c->chkI B c e tgt x=true->PI X tgt x (TXi Γ (cx noX) e)
 | .seq e,X,c,tgt,x,ok,h=>zjF ok.hK (sA hcf hm e X c x ok h).1
 | .keys e,X,c,tgt,x,ok,h=>zg4 (sA hcf hm e X c x ok h).1
 | .rng none hi,X,c,tgt,x,ok,h=>by
  have hb:Υ x.ctorIdx 16=true:=by revert h;cases x <;> first | exact non | exact fun _=>rfl
  revert h;apply vp hb;clear hb;intro q args kws pos h;have hb:Υ q.ctorIdx 23=true:=by revert h;cases q <;> first | exact non | exact fun _=>rfl
  revert h;apply ww hb;clear hb;intro n p h;cases kws with
  | nil=>
   match args,h with
   | [y],h=>
    have h:(n==("range":Str)&&B.bare.contains n&&gloK (c.names.lookup n)&&chkE B c hi y&&notStar y)=true:=h;simp only [ε] at h;obtain ⟨⟨⟨⟨h1,h2⟩,h3⟩,h4⟩,h5⟩:=h;have e1:=eq_of_beq h1;subst e1;exact zgW (ok.glob h3) (ok.bare _ (ό.mp h2)) h5 (sA hcf hm hi X c y ok h4).1
   | [],h=>exact nobE h
   | _::_::_,h=>exact nobE h
  | cons _ _=>rcases args with _ | ⟨_,_ | ⟨_,_ | ⟨_,_⟩⟩⟩ <;> exact nobE h
 | .rng (some lo) hi,X,c,tgt,x,ok,h=>by
  have hb:Υ x.ctorIdx 16=true:=by revert h;cases x <;> first | exact non | exact fun _=>rfl
  revert h;apply vp hb;clear hb;intro q args kws pos h;have hb:Υ q.ctorIdx 23=true:=by revert h;cases q <;> first | exact non | exact fun _=>rfl
  revert h;apply ww hb;clear hb;intro n p h;cases kws with
  | nil=>
   match args,h with
   | [x,y],h=>
    have h:(n==("range":Str)&&B.bare.contains n&&gloK (c.names.lookup n)&&chkE B c lo x&&notStar x&&chkE B c hi y&&notStar y)=true:=h;simp only [ε] at h;obtain ⟨⟨⟨⟨⟨⟨h1,h2⟩,h3⟩,h4⟩,h5⟩,h6⟩,h7⟩:=h;have e1:=eq_of_beq h1;subst e1;exact zgV (ok.glob h3) (ok.bare _ (ό.mp h2)) h5 h7 (sA hcf hm lo X c x ok h4).1 (sA hcf hm hi X c y ok h6).1
   | [],h=>exact nobE h
   | [_],h=>exact nobE h
   | _::_::_::_,h=>exact nobE h
  | cons _ _=>rcases args with _ | ⟨_,_ | ⟨_,_ | ⟨_,_⟩⟩⟩ <;> exact nobE h
 | .enum e,X,c,tgt,x,ok,h=>by
  have hb:Υ x.ctorIdx 16=true:=by revert h;cases x <;> first | exact non | exact fun _=>rfl
  revert h;apply vp hb;clear hb;intro q args kws pos h;have hb:Υ q.ctorIdx 23=true:=by revert h;cases q <;> first | exact non | exact fun _=>rfl
  revert h;apply ww hb;clear hb;intro n p h;cases kws with
  | nil=>
   match args,h with
   | [y],h=>
    have h:(zdH tgt&&n==("enumerate":Str)&&B.bare.contains n&&gloK (c.names.lookup n)&&chkE B c e y&&notStar y)=true:=h;simp only [ε] at h;obtain ⟨⟨⟨⟨⟨h0,h1⟩,h2⟩,h3⟩,h4⟩,h5⟩:=h;have e1:=eq_of_beq h1;subst e1;cases tgt with
    | Tuple elts kk tp=>exact zg6 ok.hK (ok.glob h3) (ok.bare _ (ό.mp h2)) h5 (sA hcf hm e X c y ok h4).1
    | _=>exact nobE h0
   | [],h=>exact nobE h
   | _::_::_,h=>exact nobE h
  | cons _ _=>rcases args with _ | ⟨_,_ | ⟨_,_⟩⟩ <;> exact nobE h
 | .var _,X,c,tgt,x,ok,h=>nobE h
 | .con _,X,c,tgt,x,ok,h=>nobE h
 | .glo _ _,X,c,tgt,x,ok,h=>nobE h
 | .bin _ _ _,X,c,tgt,x,ok,h=>nobE h
 | .neg _,X,c,tgt,x,ok,h=>nobE h
 | .cmp _ _ _,X,c,tgt,x,ok,h=>nobE h
 | .chn _ _ _ _ _,X,c,tgt,x,ok,h=>nobE h
 | .not _,X,c,tgt,x,ok,h=>nobE h
 | .and _ _,X,c,tgt,x,ok,h=>nobE h
 | .or _ _,X,c,tgt,x,ok,h=>nobE h
 | .ite _ _ _,X,c,tgt,x,ok,h=>nobE h
 | .tup _,X,c,tgt,x,ok,h=>nobE h
 | .lst _,X,c,tgt,x,ok,h=>nobE h
 | .dic _ _ _,X,c,tgt,x,ok,h=>nobE h
 | .sub _ _,X,c,tgt,x,ok,h=>nobE h
 | .slc _ _ _,X,c,tgt,x,ok,h=>nobE h
 | .bi _ _,X,c,tgt,x,ok,h=>nobE h
 | .mth _ _ _,X,c,tgt,x,ok,h=>nobE h
 | .call _ _,X,c,tgt,x,ok,h=>nobE h
 | .callk _ _ _,X,c,tgt,x,ok,h=>nobE h
 | .callv _ _,X,c,tgt,x,ok,h=>nobE h
 | .comp _ _ _ _ _,X,c,tgt,x,ok,h=>nobE h
 | .box _,X,c,tgt,x,ok,h=>nobE h
 | .one _,X,c,tgt,x,ok,h=>nobE h
 | .flip _,X,c,tgt,x,ok,h=>nobE h
 | .dk1 _ _,X,c,tgt,x,ok,h=>nobE h
 | .att _ _ _,X,c,tgt,x,ok,h=>nobE h
 | .met _ _ _ _,X,c,tgt,x,ok,h=>nobE h
 | .mk _ _ _,X,c,tgt,x,ok,h=>nobE h
 | .zip a b,X,c,tgt,x,ok,h=>nobE h
 | .dwn es,X,c,tgt,x,ok,h=>nobE h
 | .rev hi,X,c,tgt,x,ok,h=>nobE h
 | .items e,X,c,tgt,x,ok,h=>nobE h
theorem sFs (hcf:CfN B (cx noX)) (hm:Mono (cx noX)):∀ (es:List E) (X:Cx) (c:Cc) (xs:List Expr),XOk Γ B (spN Γ cx) k X c->uE B c es xs=true->es.length<=1->PTs X xs (TXf Γ (cx noX) es)
 | [],X,c,xs,ok,h,_=>by
  cases xs with
  | nil=>exact s_fn
  | cons _ _=>exact nobE h
 | [e],X,c,xs,ok,h,_=>by
  cases xs with
  | nil=>exact nobE h
  | cons x xs=>
   have h:(chkE B c e x&&uE B c [] xs)=true:=h;rw [ε] at h;cases xs with
   | nil=>exact s_f1 (sA hcf hm e X c x ok h.1).2.1
   | cons _ _=>cases (show false=true from h.2)
 | _::_::_,X,c,xs,ok,h,hl=>by exfalso;simp at hl
theorem sO (hcf:CfN B (cx noX)) (hm:Mono (cx noX)):∀ (o:Option E) (X:Cx) (c:Cc) (x:Option Expr),XOk Γ B (spN Γ cx) k X c->chkO B c o x=true->PO X x (TXo Γ (cx noX) o)
 | none,X,c,x,ok,h=>by
  cases x with
  | none=>exact zjI
  | some _=>exact nobE h
 | some o,X,c,x,ok,h=>by
  cases x with
  | none=>exact nobE h
  | some x=>exact s_po (sA hcf hm o X c x ok h).1
end
theorem sCS (hcf:CfN B (cx noX)) (hm:Mono (cx noX)) {t:T}{js:List Nat}{it:E}{ifs:List E}{elt:E}{X:Cx}{c:Cc}{x:Expr}(ok:XOk Γ B (spN Γ cx) k X c) (h:chkE B c (.comp t js it ifs elt) x=true):CSet X x (TX Γ (cx noX) (.comp t js it ifs elt)):=by
 have hb:Υ x.ctorIdx 8=true:=by revert h;cases x <;> first | exact non | exact fun _=>rfl
 revert h;apply qu hb;clear hb;intro y gens sc pos h
 match gens,h with
 | [⟨tgt,iter,cs,kk⟩],h=>exact (XD (sI hcf hm it) (sFs hcf hm ifs) (fun X c x ok q=>(sA hcf hm elt X c x ok q).1) ok h).2
 | [],h=>exact nobE h
 | ⟨_,_,_,_⟩::⟨_,_,_,_⟩::_,h=>exact nobE h
end
section
variable {X:Cx}{Γ:Gm}{Hz H:Hp}{gz g:G}{ρ:List Slot}{σ:L2.St}{S:Store}{x:Expr}{a:Addr}
theorem EnvO.zbE {i:Nat}{c c':D}{o':HO}(env:EnvO Γ Hz H g ρ σ) (hi:ρ[i]?=some (.ow c)) (ha:σ[i]?=some (some (.ref a))) (hc:zU Γ (upd H a o') g a c') (hin:Vt c'=false):EnvO Γ Hz (upd H a o') g (ρ.set i (.ow c')) σ:=by
 obtain ⟨a',e1,e2,e3,e4,e5,e6⟩:=env.ow i c hi;rw [ha] at e1;cases e1;refine ⟨by rw [aQ];exact env.len,fun j e q=>?_,fun j e q=>?_,fun j j' e e' b q1 q2 q3 q4=>?_⟩
 ·rcases zy q with ⟨rfl,h1,h2⟩ | ⟨h1,h2⟩
  ·cases h2
  ·exact env.sh j e h2
 ·rcases zy q with ⟨rfl,h1,h2⟩ | ⟨h1,h2⟩
  ·cases h2;exact ⟨a,ha,e2,e3,e4,hc,hin⟩
  ·obtain ⟨b,f1,f2,f3,f4,f5,f6⟩:=env.ow j e h2;have hb:b≠a:=by rintro rfl;exact h1 (env.inj i j c e b hi h2 ha f1)
   exact ⟨b,f1,f2,f3,f4,f5.mono (Le.refl g) fun o z=>by rw [zj hb];exact z,f6⟩
 ·have ow:∀ {j:Nat}{e:D},(ρ.set i (Slot.ow c'))[j]?=some (.ow e)->∃ e,ρ[j]?=some (.ow e):=fun {j e} q=>by
   rcases zy q with ⟨rfl,h1,h2⟩ | ⟨h1,h2⟩
   ·exact ⟨c,hi⟩
   ·exact ⟨e,h2⟩
  obtain ⟨_,w1⟩:=ow q1;obtain ⟨_,w2⟩:=ow q2;exact env.inj j j' _ _ b w1 w2 q3 q4
theorem EnvO.WF {o':HO}(env:EnvO Γ Hz H g ρ σ) (ha:a∈g.α):EnvO Γ Hz (upd H a o') g ρ σ:=by
 refine ⟨env.len,env.sh,fun i d h=>?_,env.inj⟩;obtain ⟨b,f1,f2,f3,f4,f5,f6⟩:=env.ow i d h;have hb:b≠a:=by rintro rfl;exact f4 ha
 exact ⟨b,f1,f2,f3,f4,f5.mono (Le.refl g) fun o z=>by rw [zj hb];exact z,f6⟩
theorem Step.yG {H':Hp}{g':G}{o':HO}(s:Step H g H' g') (ha:a∈g'.α):Step H g (upd H' a o') g' where
 le:=s.le
 fr:=fun b u e n=>by
  have hb:b≠a:=by
   rintro rfl;rcases s.na b ha with q | q
   ·exact n q
   ·rw [e] at q;cases q
  rw [zj hb];exact s.fr b u e n
 ex:=fun b u e=>by
  by_cases hb:b=a
  ·subst hb;exact ⟨o',zp⟩
  ·rw [zj hb];exact s.ex b u e
 na:=s.na
 nr:=s.nr
theorem WOk.yG {o':HO}{n:Nat}{c c':D}(w:WOk Γ H g S) (he:S[n]?=some c) (hg:gone c=false) (hn:g.α[n]?=some a) (hc:zU Γ (upd H a o') g a c'):WOk Γ (upd H a o') g (S.set n c') where
 rh:=fun b u q=>by
  have hb:b≠a:=by rintro rfl;rw [w.off n c b he hn hg] at q;cases q
  rw [zj hb];exact w.rh b u q
 len:=by rw [aQ];exact w.len
 nd:=w.nd
 off:=fun k d b h1 h2 h3=>by
  rcases zy h1 with ⟨rfl,z1,rfl⟩ | ⟨z1,z2⟩
  ·rw [hn] at h2;cases h2;exact w.off _ c _ he hn hg
  ·exact w.off k d b z2 h2 h3
 cell:=fun k c b h1 h2=>by
  rcases zy h1 with ⟨rfl,z1,rfl⟩ | ⟨z1,z2⟩
  ·rw [hn] at h2;cases h2;exact hc
  ·have hb:b≠a:=by rintro rfl;exact z1 ((nodup_inj w.nd hn h2))
   exact (w.cell k c b z2 h2).mono (Le.refl g) fun o z=>by rw [zj hb];exact z
where
 nodup_inj:∀ {l:List Addr}{i j:Nat}{b:Addr},l.Nodup->l[i]?=some b->l[j]?=some b->i=j:=fun {l i j b} nd h1 h2=>by
  have hi:=(Β.mp h1).1;have hj:=(Β.mp h2).1;have e:l[i]?=l[j]?:=by rw [h1,h2]
  exact (mG hi nd).mp e
theorem size_of {n:Nat}(h:fits (n+1)=true):n < sizeLine:=by have:=yD h;lia
theorem zaY {env:Env}{cpos:Pos}(hs:notStar x=true):((dR cpos (ϟ [x] env)).all (fun x=>!x.1)&&(bY cpos (aG [] env)).all (fun x=>x.1.isSome)
  &&decide (([x]:List Expr).length+([]:List bD).length+(if ([]:List bD).isEmpty then 0 else 1) < 30))=true:=by rw [zc hs];rfl
end
section
variable {κ:Type} [DecidableEq κ]
theorem UG {α:Type}:∀ (ks:List κ) (ds:List α) (k:κ) (d:α),(mapK ks ds k d).length=ds.length
 | [],ds,_,_=>by cases ds <;> rfl
 | _::_,[],_,_=>rfl
 | a::ks,b::ds,k,d=>by simp [mapK,UG ks ds k d]
theorem KC:∀ (ks:List κ) (vs:List V) (k:κ),ks.length=vs.length->((ks.zip vs).any fun kv=>decide (kv.1=k))=hasK ks k
 | [],[],_,_=>rfl
 | a::ks,v::vs,k,h=>by have:=KC ks vs k (by simpa using h);unfold hasK at this ⊢;simp only [aC,lG,this]
 | [],_::_,_,h=>by simp at h
 | _::_,[],_,h=>by simp at h
theorem Ky:∀ (ks:List κ) (vs:List V) (k:κ) (v:V),(ks.zip vs).map (fun kv=>if kv.1=k then (kv.1,v) else kv)=ks.zip (mapK ks vs k v)
 | [],vs,_,_=>by cases vs <;> rfl
 | _::_,[],_,_=>rfl
 | a::ks,u::vs,k,v=>by
  have:=Ky ks vs k v;simp only [aC,Κ,this,mapK];by_cases h:a=k
  ·simp [h]
  ·simp [h]
theorem Uo {ks:List κ}{vs:List V}{k:κ}{v:V}(h:ks.length=vs.length):putK (ks.zip vs) k v=(zM ks vs k v).1.zip (zM ks vs k v).2:=by
 unfold putK zM;rw [KC ks vs k h];by_cases q:hasK ks k=true
 ·rw [if_pos q,if_pos q,Ky]
 ·rw [if_neg q,if_neg q];simp [List.zip_append h]
theorem YD {α:Type}{ks:List κ}{ds:List α}{k:κ}{d:α}(h:ks.length=ds.length):(zM ks ds k d).1.length=(zM ks ds k d).2.length:=by
 unfold zM;split
 ·simp [UG,h]
 ·simp [h]
theorem Xn {Γ:Gm}{g:G}:∀ {ks:List κ}{ds:List D}{vs:List V}{k:κ}{d:D}{v:V},Hass Γ g ds vs->Has Γ g d v->Hass Γ g (mapK ks ds k d) (mapK ks vs k v)
 | [],ds,vs,_,_,_,h,_=>by
  have e1:mapK ([]:List κ) ds=fun _ _=>ds:=by funext a b;cases ds <;> rfl
  have e2:mapK ([]:List κ) vs=fun _ _=>vs:=by funext a b;cases vs <;> rfl
  rw [e1,e2];exact h
 | _::_,[],vs,_,_,_,h,_=>by cases (show vs=[] from h);exact rfl
 | a::ks,b::ds,_,k,d,v,⟨u,r,e,h1,h2⟩,hd=>by
  subst e;refine ⟨if a=k then v else u,mapK ks r k v,rfl,?_,Xn h2 hd⟩;split
  ·exact hd
  ·exact h1
theorem qG {Γ:Gm}{g:G}{ks:List κ}{ds:List D}{vs:List V}{k:κ}{d:D}{v:V}(h:Hass Γ g ds vs) (hd:Has Γ g d v):Hass Γ g (zM ks ds k d).2 (zM ks vs k v).2:=by
 unfold zM;split
 ·exact Xn h hd
 ·exact h.app (Hass.mk1 hd)
theorem qm {α β:Type}{ks:List κ}{ds:List α}{es:List β}{k:κ}{d:α}{e:β}:(zM ks ds k d).1=(zM ks es k e).1:=by unfold zM;split <;> rfl
end
def zhe:TSet:=fun o i v H Q=>zhf o i v H Q\/∃ a H',o=.ref a/\DPut H a i v H'/\Q H'
theorem zef {X:Cx}(hu:X.A.units+1 < ϥ):PSet X zhe:=by
 intro pJ s σ H o i v ov iv u Q I r1 r2 r3 h;rcases h with h | ⟨a,H',rfl,hp,q⟩
 ·exact set_list pJ s σ H o i v ov iv u Q I r1 r2 r3 h
 ·cases r1;exact za6 hu I hp r2 r3 fun s' I'=>⟨H',I',q⟩
set_option tactic.hygienic true in
theorem zb1 {Γ:Gm}{H:Hp}{g:G}{a:Addr}{c c' kd d:D}{vk vd:V}(h:putD c kd d=some c') (hc:zU Γ H g a c) (sm:Same g.R H) (hk:Has Γ g kd vk) (hd:Has Γ g d vd):
    ∃ o',(∀ Q:Hp->Prop,Q (upd H a o')->zhe (.ref a) vk vd H Q)/\zU Γ (upd H a o') g a c'/\Vt c'=false:=by
  cases c with
  | lst l=>
   cases kd with
   | int i=>
    have h:(idx l.length i).map (fun k=>D.lst (l.set k d))=some c':=h;cases e:idx l.length i with
    | none=>rw [e] at h;cases h
    | some j=>
      rw [e] at h;cases h;obtain ⟨vs,h1,h2⟩:=hc;cases (show vk=.int i from hk);refine ⟨.lst (vs.set j vd),fun Q q=>.inl ⟨a,vs,i,j,rfl,rfl,h1,by rw [h2.len];exact e,q⟩,⟨_,zp,h2.set j hd⟩,rfl⟩
   | _=>cases h
  | dK ks ds=>
    have h:(keyD kd).bind (fun k=>if fits (ks.length+1) then some (let p:=zM ks ds k d;D.dK p.1 p.2) else none)=some c':=by cases kd <;> exact h
    cases e:keyD kd with
    | none=>rw [e] at h;cases h
    | some k=>
      rw [e] at h;have h:(if fits (ks.length+1)=true then some (D.dK (zM ks ds k d).1 (zM ks ds k d).2) else none)=some c':=h;split at h
      · rename_i hf
        cases h;obtain ⟨vs,h1,h2,h3⟩:=hc;have ek:=U5 e hk;subst ek;have el:ks.length=vs.length:=by rw [h3.len];exact h2
        refine ⟨.dK ((zM ks vs k vd).1.zip (zM ks vs k vd).2),fun Q q=>.inr ⟨a,_,rfl,DPut.k h1 (by rw [fP];have:=size_of hf;lia),?_⟩,⟨_,?_,YD h2,qG h3 hd⟩,rfl⟩
        · rw [Uo el];exact q
        · rw [zp,qm (ds:=ds) (es:=vs) (d:=d) (e:=vd)]
      · cases h
  | dT ks ds=>
   cases kd with
   | tup t=>
    have h:(uA t).bind (fun k=>if fits (ks.length+1) then some (let p:=zM ks ds k d;D.dT p.1 p.2) else none)=some c':=h;cases e:uA t with
    | none=>rw [e] at h;cases h
    | some k=>
      rw [e] at h;have h:(if fits (ks.length+1)=true then some (D.dT (zM ks ds k d).1 (zM ks ds k d).2) else none)=some c':=h;split at h
      · rename_i hf
        cases h;obtain ⟨vs,h1,h2,h3⟩:=hc;obtain ⟨b,us,rfl,h4,h5⟩:=hk;have ek:=uO e h5;subst ek;have el:ks.length=vs.length:=by rw [h3.len];exact h2
        refine ⟨.dT ((zM ks vs k vd).1.zip (zM ks vs k vd).2),fun Q q=>.inr ⟨a,_,rfl,DPut.t h1 (sm _ _ h4) (by rw [fP];have:=size_of hf;lia),?_⟩,⟨_,?_,YD h2,qG h3 hd⟩,rfl⟩
        · rw [Uo el];exact q
        · rw [zp,qm (ds:=ds) (es:=vs) (d:=d) (e:=vd)]
      · cases h
   | _=>cases h
  | _=>cases h
structure EN (Γ:Gm) (Hz:Hp) (gz g:G) (E:Ends) (K:Ko):Prop where
 nx:∀ ρ σ H g' S,Step Hz gz H g'->Le g g'->WOk Γ H g' S->EnvO Γ Hz H g' ρ σ->K (.next ρ) S->E.nx σ H
 bk:∀ ρ σ H g' S,Step Hz gz H g'->Le g g'->WOk Γ H g' S->EnvO Γ Hz H g' ρ σ->K (.brk ρ) S->E.bk σ H
 ct:∀ ρ σ H g' S,Step Hz gz H g'->Le g g'->WOk Γ H g' S->EnvO Γ Hz H g' ρ σ->K (.cnt ρ) S->E.ct σ H
 rt:∀ d fr v H g' S,Step Hz gz H g'->Le g g'->WOk Γ H g' S->VOk Γ Hz d fr v H g'->K (.ret d fr) S->E.rt v H
theorem EN.le {Γ:Gm}{Hz:Hp}{gz g g1:G}{E:Ends}{K:Ko}(n:EN Γ Hz gz g E K) (le:Le g g1):EN Γ Hz gz g1 E K:=
 ⟨fun ρ σ H g' S st l=>n.nx ρ σ H g' S st (le.trans l),fun ρ σ H g' S st l=>n.bk ρ σ H g' S st (le.trans l),fun ρ σ H g' S st l=>n.ct ρ σ H g' S st (le.trans l),fun d fr v H g' S st l=>n.rt d fr v H g' S st (le.trans l)⟩
def TK (Γ:Gm) (Hz:Hp) (gz:G) (W:List Slot->Ko->Store->Prop):TS:=fun E σ H=>∃ ρ S K g,W ρ K S/\Step Hz gz H g/\WOk Γ H g S/\EnvO Γ Hz H g ρ σ/\EN Γ Hz gz g E K
theorem goK {Γ:Gm}{Hz:Hp}{gz:G}{W:List Slot->Ko->Store->Prop}{E:Ends}{σ:L2.St}{H:Hp}{P:Prop}(h:TK Γ Hz gz W E σ H) (f:∀ ρ S K g,W ρ K S->Step Hz gz H g->WOk Γ H g S->EnvO Γ Hz H g ρ σ->EN Γ Hz gz g E K->P):P:=
 let ⟨ρ,S,K,g,a,b,c,d,e⟩:=h;f ρ S K g a b c d e
abbrev TC (Γ:Gm) (cx:Xp->Cf) (ex:Xp) (w:Nat) (Hz:Hp) (gz:G) (c:C):TS:=TK Γ Hz gz (wpC cx ex w c)
abbrev TCs (Γ:Gm) (cx:Xp->Cf) (ex:Xp) (w:Nat) (Hz:Hp) (gz:G) (cs:List C):TS:=TK Γ Hz gz (wpCs cx ex w cs)
section
variable {X:Cx}{Γ:Gm}{cx:Xp->Cf}{ex:Xp}{w:Nat}{Hz:Hp}{gz:G}{st:Stmt}{sts aa bb:List Stmt}{x y z tgt o:Expr}{pos p spos:Pos}{e a b:E}{s:C}{ss A B:List C}
theorem JK {i:Expr}(h:∀ lo hi st p,i≠.Slice lo hi st p) (v:δ) (env:Env):iG (.Subscript o i pos) env v=(do
   let ov <- ig [v] (eval o env)
   let iv <- ig [v,ov] (eval i env)
   standAt pos
   ig [v,ov,iv] (setItem ov iv v)
   release [v,ov,iv] []):=by cases i <;> first | rfl | exact absurd rfl (h _ _ _ _)
theorem zg0:PS X (.Pass pos) (TC Γ cx ex w Hz gz .pass):=zeJ.imp fun E σ H h0=>goK h0 fun ρ S K g hw st wk env n=>n.nx ρ σ H g S st (Le.refl g) wk env hw
theorem zjX:PS X (.Break pos) (TC Γ cx ex w Hz gz .brk):=zb5.imp fun E σ H h0=>goK h0 fun ρ S K g hw st wk env n=>n.bk ρ σ H g S st (Le.refl g) wk env hw
theorem zjU:PS X (.Continue pos) (TC Γ cx ex w Hz gz .cnt):=WW.imp fun E σ H h0=>goK h0 fun ρ S K g hw st wk env n=>n.ct ρ σ H g S st (Le.refl g) wk env hw
theorem zgS:PSs X [] (TCs Γ cx ex w Hz gz []):=zeH.imp fun E σ H h0=>goK h0 fun ρ S K g hw st wk env n=>n.nx ρ σ H g S st (Le.refl g) wk env hw
theorem zej (h1:PS X st (TC Γ cx ex w Hz gz s)) (h2:PSs X sts (TCs Γ cx ex w Hz gz ss)):PSs X (st::sts) (TCs Γ cx ex w Hz gz (s::ss)):=
 (zb3 h1 h2).imp fun E σ H h0=>goK h0 fun ρ S K g hw st wk env n=>⟨ρ,S,_,g,hw,st,wk,env,fun ρ' σ' H' g' S' st' le w' env' q=>⟨ρ',S',K,g',q,st',w',env',n.le le⟩,n.bk,n.ct,n.rt⟩
theorem zfG {H:Hp}{g:G}{ρ:List Slot}{σ:L2.St}{S:Store}{i:Nat}(st:Step Hz gz H g) (wk:WOk Γ H g S) (env:EnvO Γ Hz H g ρ σ):∃ g',Step Hz gz H g'/\Le g g'/\WOk Γ H g' S/\EnvO Γ Hz H g' (ρ.set i (fz ((ρ[i]?).getD .no))) σ:=by
 have same:∀ s,ρ[i]?=some s->ρ.set i s=ρ:=fun s h=>by
  apply mJ;intro j;by_cases hj:i=j
  ·subst hj;rw [ϡ (Β.mp h).1,h]
  ·rw [Μ hj]
 cases e:ρ[i]? with
 | none=>
  refine ⟨g,st,Le.refl g,wk,?_⟩;rw [o9 (List.getElem?_eq_none_iff.mp e)];exact env
 | some s=>
  cases s with
  | no=>exact ⟨g,st,Le.refl g,wk,by rw [show fz ((some Slot.no).getD .no)=.no from rfl,same _ e];exact env⟩
  | sh d=>exact ⟨g,st,Le.refl g,wk,by rw [show fz ((some (Slot.sh d)).getD .no)=.sh d from rfl,same _ e];exact env⟩
  | ow d=>
   obtain ⟨a,h1,h2,h3,h4,h5,h6⟩:=env.ow i d e;obtain ⟨ob,ho,_⟩:=h5.kO;have le:Le g (g.put a ob):=Le.put h3;refine ⟨g.put a ob,st.put h3 h2,le,wk.put ho h3 h4,by simp [env.len],fun j d' q=>?_,fun j d' q=>?_,fun j j' d1 d2 b q1 q2 q3 q4=>?_⟩
   ·rcases zy q with ⟨rfl,_,z⟩ | ⟨_,z⟩
    ·cases z;exact ⟨.ref a,h1,qH h3 ho h5⟩
    ·obtain ⟨v,f1,f2⟩:=env.sh j d' z;exact ⟨v,f1,f2.mono le⟩
   ·rcases zy q with ⟨rfl,_,z⟩ | ⟨hne,z⟩
    ·cases z
    ·obtain ⟨b,f1,f2,f3,f4,f5,f6⟩:=env.ow j d' z;have hb:b≠a:=by rintro rfl;exact hne (env.inj i j d d' b e z h1 f1)
     exact ⟨b,f1,f2,by show upd g.R a ob b=none;rw [zj hb];exact f3,f4,f5.mono le fun _ z=>z,f6⟩
   ·rcases zy q1 with ⟨_,_,z⟩ | ⟨_,z1⟩
    ·cases z
    rcases zy q2 with ⟨_,_,z⟩ | ⟨_,z2⟩
    ·cases z
    exact env.inj j j' d1 d2 b z1 z2 q3 q4
theorem zfH {H:Hp}{g:G}{ρ:List Slot}{σ:L2.St}{S:Store}{i k:Nat}{l:List D}(st:Step Hz gz H g) (wk:WOk Γ H g S) (env:EnvO Γ Hz H g ρ σ) (hi:ρ[i]?=some (.sh (.ref k))) (hk:S[k]?=some (.lst l)):
  ∃ g',Step Hz gz H g'/\Le g g'/\WOk Γ H g' (S.set k (.ref k))/\EnvO Γ Hz H g' (ρ.set i (.sh (.lst l))) σ:=by
 obtain ⟨v,h1,a,ha,e⟩:=env.sh i _ hi;subst e;have hn:g.R a=none:=wk.off k _ a hk ha rfl;obtain ⟨vs,ho,hv⟩:=wk.cell k _ a hk ha;have le:Le g (g.put a (.lst vs)):=Le.put hn;have hr:(g.put a (.lst vs)).R a=some (.lst vs):=zp;refine ⟨g.put a (.lst vs),⟨st.le.trans le,st.fr,st.ex,st.na,fun b q=>?_⟩,le,⟨fun b u q=>?_,by rw [aQ];exact wk.len,wk.nd,fun j c b q1 q2 q3=>?_,fun j c b q1 q2=>?_⟩,by simp [env.len],fun j d' q=>?_,fun j d' q=>?_,fun j j' d1 d2 b q1 q2 q3 q4=>?_⟩
 ·by_cases hb:b=a
  ·subst hb;rcases st.na b (ϣ ha) with z | z
   ·exact .inr (.inr (.inl z))
   ·exact .inr (.inl z)
  ·have q':upd g.R a (.lst vs) b≠none:=q;rw [zj hb] at q';exact st.nr b q'
 ·have q':upd g.R a (.lst vs) b=some u:=q;by_cases hb:b=a
  ·subst hb;rw [zp] at q';cases q';exact ho
  ·rw [zj hb] at q';exact wk.rh b u q'
 ·rcases zy q1 with ⟨rfl,_,z⟩ | ⟨hne,z⟩
  ·rw [z] at q3;cases q3
  ·show upd g.R a (.lst vs) b=none
   have hb:b≠a:=by rintro rfl;exact hne (WOk.yG.nodup_inj wk.nd ha q2)
   rw [zj hb];exact wk.off j c b z q2 q3
 ·rcases zy q1 with ⟨rfl,_,z⟩ | ⟨hne,z⟩
  ·have q2:g.α[k]?=some b:=q2;rw [ha] at q2;cases q2;rw [z];exact ⟨_,hr,ho,ϴ⟩
  ·exact (wk.cell j c b z q2).mono le fun _ z=>z
 ·rcases zy q with ⟨rfl,_,z⟩ | ⟨_,z⟩
  ·cases z;exact ⟨.ref a,h1,a,vs,rfl,hr,hv.mono le⟩
  ·obtain ⟨v,f1,f2⟩:=env.sh j d' z;exact ⟨v,f1,f2.mono le⟩
 ·rcases zy q with ⟨rfl,_,z⟩ | ⟨hne,z⟩
  ·cases z
  ·obtain ⟨b,f1,f2,f3,f4,f5,f6⟩:=env.ow j d' z;have hb:b≠a:=by rintro rfl;exact f4 (ϣ ha)
   exact ⟨b,f1,f2,by show upd g.R a (.lst vs) b=none;rw [zj hb];exact f3,f4,f5.mono le fun _ z=>z,f6⟩
 ·rcases zy q1 with ⟨_,_,z⟩ | ⟨_,z1⟩
  ·cases z
  rcases zy q2 with ⟨_,_,z⟩ | ⟨_,z2⟩
  ·cases z
  exact env.inj j j' d1 d2 b z1 z2 q3 q4
theorem zjQ {i:Nat}(h2:PSs X sts (TCs Γ cx ex w Hz gz ss)):PSs X sts (TCs Γ cx ex w Hz gz (.frr i::ss)):=
 h2.imp fun E σ H h0=>goK h0 fun ρ S K g hw st wk env n=>by obtain ⟨k,l,e1,e2,hw⟩:=zdM hw;obtain ⟨g',st',le,w',env'⟩:=zfH st wk env e1 e2;exact ⟨_,_,K,g',hw,st',w',env',n.le le⟩
theorem zjP {i:Nat}(h2:PSs X sts (TCs Γ cx ex w Hz gz ss)):PSs X sts (TCs Γ cx ex w Hz gz (.frz i::ss)):=
 h2.imp fun E σ H h0=>goK h0 fun ρ S K g hw st wk env n=>by obtain ⟨g',st',le,w',env'⟩:=zfG (i:=i) st wk env;exact ⟨_,S,K,g',hw,st',w',env',n.le le⟩
theorem zjR {i:Nat}(h2:PSs X sts (TCs Γ cx ex w Hz gz ss)):PSs X sts (TCs Γ cx ex w Hz gz (.frk i::ss)):=by
 intro pJ s σ H E I h0;refine goK h0 fun ρ S K g hw st wk env n=>?_
 obtain ⟨ks,ds,e,hw⟩:=zdo hw;obtain ⟨a,h1,h2',h3,h4,⟨vs,hH,hlen,hv⟩,h6⟩:=env.ow i _ e;have hob:=(show zW X.prog X.w H s.heap a (.dT (ks.zip vs)) from I.hok a _ hH)
 obtain ⟨_,_,_,_,o,_,_,g1,_⟩:=id hob;have I4:=Z3 (a:=a) (h':=s.heap) (t':=s.toks) (ob:=.frz o (.dT (ks.zip vs))) I (by rw [hH];exact ϴ) (oR a _) ⟨o,g1⟩
  ⟨g1,hob.stay (fun b u _ e=>e) (fun b e=>by
   have hb:b≠a:=by rintro rfl;rw [hH] at e;cases e
   rw [zj hb];exact e) fun b ys e=>by
   have hb:b≠a:=by rintro rfl;rw [hH] at e;cases e
   rw [zj hb];exact e⟩
 have le:Le g (g.put a (.frz o (.dT (ks.zip vs)))):=Le.put h3;refine h2 pJ s σ _ E I4 ⟨_,S,K,g.put a (.frz o (.dT (ks.zip vs))),hw,(st.zO h2').put h3 h2',(wk.zO h3 h4).put zp h3 h4,⟨by simp [env.len],fun j d' q=>?_,fun j d' q=>?_,fun j j' d1 d2 b q1 q2 q3 q4=>?_⟩,n.le le⟩
 ·rcases zy q with ⟨rfl,_,z⟩ | ⟨_,z⟩
  ·cases z;exact ⟨.ref a,h1,a,vs,o,rfl,zp,hlen,hv.mono le⟩
  ·obtain ⟨v,f1,f2⟩:=env.sh j d' z;exact ⟨v,f1,f2.mono le⟩
 ·rcases zy q with ⟨rfl,_,z⟩ | ⟨hne,z⟩
  ·cases z
  ·obtain ⟨b,f1,f2,f3,f4,f5,f6⟩:=env.ow j d' z;have hb:b≠a:=by rintro rfl;exact hne (env.inj i j _ d' b e z h1 f1)
   exact ⟨b,f1,f2,by show upd g.R a _ b=none;rw [zj hb];exact f3,f4,f5.mono le fun _ z=>by rw [zj hb];exact z,f6⟩
 ·rcases zy q1 with ⟨_,_,z⟩ | ⟨_,z1⟩
  ·cases z
  rcases zy q2 with ⟨_,_,z⟩ | ⟨_,z2⟩
  ·cases z
  exact env.inj j j' d1 d2 b z1 z2 q3 q4
theorem zg5 (h:PE X x (TX Γ (cx noX) e)) (hs:eZ x none pos.line X.env=pure false):PS X (.Expr x pos) (TC Γ cx ex w Hz gz (.expr e)):=
 (WT h hs).imp fun E σ H h0=>goK h0 fun ρ S K g hw st wk env n=>⟨ρ,S,_,g,Hz,hw,wk,env,fun x v H1 g1 S1 s1 w1 vx q=>n.nx ρ σ H1 g1 S1 (st.trans s1) s1.le w1 (zm env s1) q⟩
theorem zjH (hn:∀ i,e≠.var i) (h:PE X x (TX Γ (cx noX) e)):PS X (.Return (some x) pos) (TC Γ cx ex w Hz gz (.ret e)):=
 (zdl h).imp fun E σ H h0=>goK h0 fun ρ S K g hw st wk env n=>by
  have hw:wpE (cx noX) ρ e (fun x S1=>retV x fun o=>K o S1) S:=by cases e <;> first | exact absurd rfl (hn _) | exact hw
  refine ⟨ρ,S,_,g,Hz,hw,wk,env,fun x v H1 g1 S1 s1 w1 vx q=>?_⟩;obtain ⟨d,k⟩:=x;cases k with
  | st=>exact n.rt d false v H1 g1 S1 (st.trans s1) s1.le w1 vx q
  | fr=>exact n.rt d true v H1 g1 S1 (st.trans s1) s1.le w1 (vx.back st) q
  | bo=>exact q.elim
theorem zgX {i:Nat}{n:Str}(hN:X.N[i]?=some n) (hv:Vis X.env.scope n) (hd:(n==("__debug__":Str))=false) (hcd:(n==("__classdict__":Str))=false):PS X (.Return (some (.Name n p)) pos) (TC Γ cx ex w Hz gz (.ret (.var i))):=
 (zdl (qp hN hv hd hcd)).imp fun E σ H h0=>goK h0 fun ρ S K g hw st wk env n=>by
  have hw:sel ρ[i]? (fun d=>K (.ret d false) S) (fun d=>K (.ret d true) S):=hw;cases e:ρ[i]? with
  | none=>rw [e] at hw;exact hw.elim
  | some s=>
   rw [e] at hw;cases s with
   | no=>exact hw.elim
   | sh d=>
    obtain ⟨v,h1,h2⟩:=env.sh i d e;exact ⟨v,h1,n.rt d false v H g S st (Le.refl g) wk h2 hw⟩
   | ow d=>
    obtain ⟨a,h1,h2,h3,h4,h5,h6⟩:=env.ow i d e;exact ⟨.ref a,h1,n.rt d true _ H g S st (Le.refl g) wk ⟨a,rfl,h2,h3,h4,h5⟩ hw⟩
theorem zgY:PS X (.Return none pos) (TC Γ cx ex w Hz gz .retN):=zeI.imp fun E σ H h0=>goK h0 fun ρ S K g hw st wk env n=>n.rt .non false .non H g S st (Le.refl g) wk rfl hw
theorem s_if (h:PT X x (TB Γ (cx noX) e)) (ha:PSs X aa (TCs Γ cx ex w Hz gz A)) (hb:PSs X bb (TCs Γ cx ex w Hz gz B)):PS X (.If x aa bb pos) (TC Γ cx ex w Hz gz (.ite e A B)):=
 (zj9 h ha hb).imp fun E σ H h0=>goK h0 fun ρ S K g hw st wk env n=>⟨ρ,S,_,g,Hz,hw,wk,env,fun x H1 g1 S1 s1 w1 h=>by
  obtain ⟨r,e,q⟩:=vA h;rw [e];show (if r=true then _ else _)
  cases r with
  | true=>exact iteT ⟨ρ,S1,K,g1,q,st.trans s1,w1,zm env s1,n.le s1.le⟩
  | false=>exact iteF ⟨ρ,S1,K,g1,q,st.trans s1,w1,zm env s1,n.le s1.le⟩⟩
theorem fresh_ne {H:Hp}{g:G}{ρ:List Slot}{σ:L2.St}{v:V}{d:D}{H1:Hp}{g1:G}(env:EnvO Γ Hz H g ρ σ) (vx:VN Γ H (d,.fr) v H1 g1):∀ (i:Nat) (d:D),ρ[i]?=some (.ow d)->σ[i]?≠some (some v):=fun i d' hi e=>by obtain ⟨a,rfl,h0,_⟩:=vx;obtain ⟨b,f1,_,_,_,f5,_⟩:=env.ow i d' hi;rw [f1] at e;cases e;obtain ⟨o,ho,_⟩:=f5.kO;rw [h0] at ho;cases ho
theorem Qo {H H1:Hp}{g g1:G}{ρ ρ2:List Slot}{σ:L2.St}{S1:Store}{t:T}{x:Vl}{v:V}{E:Ends}{K:Ko}(st:Step Hz gz H g) (env:EnvO Γ Hz H g ρ σ) (n:EN Γ Hz gz g E K) (s1:Step H g H1 g1) (w1:WOk Γ H1 g1 S1) (vx:VN Γ H x v H1 g1) (hb:zbl ρ t x=some ρ2) (q:K (.next ρ2) S1):tgOf X.K t v σ H1 fun σ' H'=>E.nx σ' H':=by
 have env1:=zm env s1;obtain ⟨d,k⟩:=x;cases k with
 | st=>exact Zf (fr:=false) hb env1 w1.rh vx (fun h=>by cases h) fun σ' env'=>n.nx _ σ' H1 g1 S1 (st.trans s1) s1.le w1 env' q
 | fr=>exact Zf (fr:=true) hb env1 w1.rh (vx.back st) (fun _=>fresh_ne env vx) fun σ' env'=>n.nx _ σ' H1 g1 S1 (st.trans s1) s1.le w1 env' q
 | bo=>cases hb
noncomputable def zfb:E->Bool
 | .box _=>false
 | _=>true
theorem zdb {ρ:List Slot}{t:T}{K:Ko}{S:Store}(hn:zfb e=true) (hw:wpC cx ex w (.set t e) ρ K S):wpE (cx noX) ρ e (fun x S1=>opt (zbl ρ t x) fun ρ2=>K (.next ρ2) S1) S:=by cases e <;> first | exact hw | cases hn
theorem zjE {t:T}(hn:zfb e=true) (h:PE X x (TX Γ (cx noX) e)) (hg:PG X tgt (tgOf X.K t)) (hs:eE [tgt] x pos.line X.env=pure false) (hw:dq [tgt] x X.env=pure none) (ha:(bM [tgt] X.env).map (·.2)=[iG tgt X.env]):PS X (.Assign [tgt] x pos) (TC Γ cx ex w Hz gz (.set t e)):=
 (QQ h hg hs hw ha).imp fun E σ H h0=>goK h0 fun ρ S K g hw st wk env n=>⟨ρ,S,_,g,Hz,zdb hn hw,wk,env,fun x v H1 g1 S1 s1 w1 vx q=>by
  obtain ⟨ρ2,hb,q⟩:=zX q
  exact Qo (X:=X) st env n s1 w1 vx hb q⟩
theorem zgU {t:T}(h:PE X x (TX Γ (cx noX) e)) (hg:PG X tgt (tgOf X.K t)) (hs:eE [tgt] x pos.line X.env=pure false) (hw:dq [tgt] x X.env=pure none) (ha:(bM [tgt] X.env).map (·.2)=[iG tgt X.env]):PS X (.Assign [tgt] x pos) (TC Γ cx ex w Hz gz (.set t (.box e))):=
 (QQ h hg hs hw ha).imp fun E σ H h0=>goK h0 fun ρ S K g hw st wk env n=>⟨ρ,S,_,g,Hz,hw,wk,env,fun x v H1 g1 S1 s1 w1 vx q=>by
  obtain ⟨d,k⟩:=x;cases k with
  | fr=>
   obtain ⟨ρ2,hb,q⟩:=zX q;obtain ⟨g2,s2,w2,h2⟩:=zfY s1 w1 vx;exact Qo (X:=X) (x:=(.ref S1.length,.st)) st env n s2 w2 h2 hb q
  | _=>exact q.elim⟩
theorem zgT {t:T}{js:List Nat}{it elt:E}{ifs:List E}{i:Nat}{n:Str}{np:Pos}(h:CSet X x (TX Γ (cx noX) (.comp t js it ifs elt))) (hp:PG X (.Name n np) (Xq i)) (hsw:eZ x (some (.Name n np)) pos.line X.env=pure true):PS X (.Assign [.Name n np] x pos) (TC Γ cx ex w Hz gz (.set (.one i) (.comp t js it ifs elt))):=
 (h n np pos i hp hsw).imp fun E σ H h0=>goK h0 fun ρ S K g hw st wk env n=>⟨ρ,S,_,g,Hz,zdb rfl hw,wk,env,fun x v H1 g1 S1 s1 w1 vx q=>by
  obtain ⟨ρ2,hb,q⟩:=zX q
  exact Qo (X:=X) (t:=.one i) st env n s1 w1 vx hb q⟩
theorem zei (ht:PT X x (TB Γ (cx noX) e)) (hb:PSs X aa (TCs Γ cx ex w Hz gz A)) (hp:mD (Λ X.prog X.w) X.A X.env X.xe):PS X (.While x aa [] pos) (TC Γ cx ex w Hz gz (.whl e A)):=
 (zb4 hp ht hb).imp fun E σ H h0=>goK h0 fun ρ S K g hw st wk env n=>by
  have hw:whlW (fun ρ=>wpE (cx noX) ρ e) (fun ρ=>wpCs cx ex w A ρ) w ρ K S:=hw;refine ⟨fun m σ H=>∃ ρ S g1,whlW (fun ρ=>wpE (cx noX) ρ e) (fun ρ=>wpCs cx ex w A ρ) m ρ K S/\Step Hz gz H g1/\Le g g1/\WOk Γ H g1 S/\EnvO Γ Hz H g1 ρ σ,⟨w,ρ,S,g,hw,st,Le.refl g,wk,env⟩,?_⟩;rintro m σ H ⟨ρ,S,g1,hw,st,le,wk,env⟩;cases m with
  | zero=>exact hw.elim
  | succ m=>
   refine ⟨ρ,S,_,g1,Hz,hw,wk,env,fun x H2 g2 S2 s2 w2 h=>?_⟩;obtain ⟨r,e,q⟩:=vA h;rw [e];show (if r=true then _ else _)
   cases r with
   | false=>exact iteF (n.nx ρ σ H2 g2 S2 (st.trans s2) (le.trans s2.le) w2 (zm env s2) q)
   | true=>
    refine iteT ⟨fun σ' H'=>∃ ρ S g1,whlW (fun ρ=>wpE (cx noX) ρ _) (fun ρ=>wpCs cx ex w A ρ) m ρ K S/\Step Hz gz H' g1/\Le g g1/\WOk Γ H' g1 S/\EnvO Γ Hz H' g1 ρ σ',fun σ' H' q=>⟨m,dD m,q⟩,ρ,S2,_,g2,q,st.trans s2,w2,zm env s2,?_⟩;have l2:=le.trans s2.le;exact ⟨fun ρ' σ' H' g' S' st' l w' env' q=>⟨ρ',S',g',q,st',l2.trans l,w',env'⟩,fun ρ' σ' H' g' S' st' l w' env' q=>n.nx ρ' σ' H' g' S' st' (l2.trans l) w' env' q,fun ρ' σ' H' g' S' st' l w' env' q=>⟨ρ',S',g',q,st',l2.trans l,w',env'⟩,fun d fr v H' g' S' st' l w' vo q=>n.rt d fr v H' g' S' st' (l2.trans l) w' vo q⟩
theorem zjS {t:T}{it:E}(hi:PI X tgt x (TXi Γ (cx noX) it)) (hg:PG X tgt (tgOf X.K t)) (hb:PSs X aa (TCs Γ cx ex w Hz gz A)) (hp:mD (Λ X.prog X.w) X.A X.env X.xe) (hc:X.calm=true) (hs:∀ v,cu x X.env v=pure v):PS X (.For tgt x aa [] pos) (TC Γ cx ex w Hz gz (.forr t it A)):=
 (zho hp hc hi hg hb hs).imp fun E σ H h0=>goK h0 fun ρ S K g hw st wk env n=>⟨ρ,S,_,g,Hz,hw,wk,env,fun l J H1 g1 S1 s1 w1 hJ h1=>by
  refine ⟨fun i m σ H=>m=l.length - i/\i<=l.length/\∃ ρ S g2,forW t (fun ρ=>wpCs cx ex w A ρ) (l.drop i) ρ K S/\Step Hz gz H g2/\Le g1 g2/\WOk Γ H g2 S/\EnvO Γ Hz H g2 ρ σ,⟨_,rfl,aW _,ρ,S1,g1,h1,st.trans s1,Le.refl g1,w1,zm env s1⟩,?_⟩;rintro i m σ H ⟨rfl,hi,ρ,S,g2,hw,st2,le,wk,env⟩;by_cases hlt:i < l.length
  ·refine .inr ⟨hJ.go i H g2 le wk.rh hlt,fun σ' H'=>∃ ρ S g3,forW t (fun ρ=>wpCs cx ex w A ρ) (l.drop (i+1)) ρ K S/\Step Hz gz H' g3/\Le g1 g3/\WOk Γ H' g3 S/\EnvO Γ Hz H' g3 ρ σ',fun σ' H' q=>⟨l.length - (i+1),by omega,rfl,hlt,q⟩,fun z H3 hy=>?_⟩;obtain ⟨g3,st3,_,w3,hz⟩:=hJ.yld i H g2 S z H3 l[i] le wk (ψ hlt) hy;rw [oO hlt] at hw;obtain ⟨ρ',es,hw⟩:=zX (show opt (yz ρ t (l[i],false)) _ from hw);have l3:=le.trans st3.le;have l4:=s1.le.trans l3;refine Zf (fr:=false) es (zm env st3) w3.rh hz (fun h=>by cases h) fun σ3 env3=>⟨ρ',S,_,g3,hw,st2.trans st3,w3,env3,?_⟩
   exact ⟨fun ρ' σ' H' g' S' st' l w' env' q=>⟨ρ',S',g',q,st',l3.trans l,w',env'⟩,fun ρ' σ' H' g' S' st' l w' env' q=>n.nx ρ' σ' H' g' S' st' (l4.trans l) w' env' q,fun ρ' σ' H' g' S' st' l w' env' q=>⟨ρ',S',g',q,st',l3.trans l,w',env'⟩,fun d fr v H' g' S' st' l w' vo q=>n.rt d fr v H' g' S' st' (l4.trans l) w' vo q⟩
  ·have e:i=l.length:=by omega
   subst e;rw [List.drop_length] at hw
   exact .inl ⟨hJ.stop _ H g2 le wk.rh (χ _),n.nx ρ σ H g2 S st2 (s1.le.trans le) wk env hw⟩⟩
theorem zdp {s:Option Slot}{Q:List D->Prop}(h:owL s Q):∃ l,s=some (.ow (.lst l))/\Q l:=by
 cases s with
 | none=>exact h.elim
 | some s=>
  cases s with
  | ow d=>
   cases d with
   | lst l=>exact ⟨l,rfl,h⟩
   | _=>exact h.elim
  | _=>exact h.elim
theorem zhE {s:Option Slot}{Q:D->Prop}(h:owD s Q):∃ l,s=some (.ow l)/\Q l:=by
 cases s with
 | none=>exact h.elim
 | some s=>
  cases s with
  | ow d=>exact ⟨d,rfl,h⟩
  | _=>exact h.elim
section
variable {i:Nat}{n:Str}{apos cpos:Pos}
theorem zj1 (hN:X.N[i]?=some n) (hv:Vis X.env.scope n) (hd:(n==("__debug__":Str))=false) (hcd:(n==("__classdict__":Str))=false) (hx:PE X x (TX Γ (cx noX) e)) (hs:notStar x=true) (hl:(apos.endLine==cpos.line)=true):
  PS X (.Expr (.Call (.Attribute (.Name n p) "append" apos) [x] [] cpos) pos) (TC Γ cx ex w Hz gz (.app i e)):=
 (WT (zeU gD PySem.F.slot_list_append PySem.F.type_list_append YW (qp hN hv hd hcd) (yg hx xq (zc hs _ _)) rfl (zaY hs) hl (zc hs _ _) rfl)).imp fun E σ H h0=>goK h0 fun ρ S K g hw st wk env n=>by obtain ⟨l,eo,hw⟩:=zdp hw;obtain ⟨a,h1,h2,h3,h4,h5,h6⟩:=env.ow i _ eo;obtain ⟨vs,h7,h8⟩:=h5;refine ⟨.ref a,h1,.inl ⟨rfl,vs,SqL.of h7⟩,ρ,S,_,g,Hz,hw,wk,env,fun x v H1 g1 S1 s1 w1 vx q=>?_⟩;obtain ⟨g2,s2,w2,hx,q⟩:=vx.keep s1 w1 q;obtain ⟨hf,q⟩:=yr q;have env2:=zm env s2;obtain ⟨k1,k2,k3⟩:=s2.kept h7 h3 h4;refine ⟨a,vs,v,rfl,rfl,k1,by rw [h8.len];exact size_of hf,n.nx _ σ _ g2 S1 ((st.trans s2).zO h2) s2.le (w2.zO k2 k3) (env2.zbE (c':=.lst (l++[x.1])) eo h1 ⟨vs++[v],zp,(h8.mono s2.le).app (Hass.mk1 hx)⟩ rfl) q⟩
theorem zjT (hN:X.N[i]?=some n) (hv:Vis X.env.scope n) (hd:(n==("__debug__":Str))=false) (hcd:(n==("__classdict__":Str))=false) (hx:PE X x (TX Γ (cx noX) e)) (hs:notStar x=true) (hl:(apos.endLine==cpos.line)=true):
  PS X (.Expr (.Call (.Attribute (.Name n p) "extend" apos) [x] [] cpos) pos) (TC Γ cx ex w Hz gz (.ext i e)):=
 (WT (zeU gD PySem.F.slot_list_extend PySem.F.type_list_extend zfg (qp hN hv hd hcd) (yg hx xq (zc hs _ _)) rfl (zaY hs) hl (zc hs _ _) rfl)).imp fun E σ H h0=>goK h0 fun ρ S K g hw st wk env n=>by
  obtain ⟨l,eo,hw⟩:=zdp hw;obtain ⟨a,h1,h2,h3,h4,h5,h6⟩:=env.ow i _ eo;obtain ⟨vs,h7,h8⟩:=h5;refine ⟨.ref a,h1,.inl ⟨rfl,vs,SqL.of h7⟩,ρ,S,_,g,Hz,hw,wk,env,fun x v H1 g1 S1 s1 w1 vx q0=>?_⟩;obtain ⟨g2,s2,w2,hx,q1⟩:=vx.keep s1 w1 q0;obtain ⟨m,em,q2⟩:=zX q1;obtain ⟨hf,q⟩:=yr q2;clear q0 q1 q2;have env2:=zm env s2;obtain ⟨k1,k2,k3⟩:=s2.kept h7 h3 h4;generalize x.1=d at *;cases d with
  | lst m'=>
   cases em;obtain ⟨b,zs,rfl,hb1,hb2⟩:=hx;exact ⟨a,b,vs,zs,rfl,rfl,k1,.inl (w2.rh _ _ hb1),by rw [h8.len,hb2.len];exact yD hf,n.nx _ σ _ g2 S1 ((st.trans s2).zO h2) s2.le (w2.zO k2 k3) (env2.zbE (c':=.lst (l++m)) eo h1 ⟨vs++zs,zp,(h8.mono s2.le).app hb2⟩ rfl) q⟩
  | tup m'=>
   cases em;obtain ⟨b,zs,rfl,hb1,hb2⟩:=hx;exact ⟨a,b,vs,zs,rfl,rfl,k1,.inr (SqT.of (w2.rh _ _ hb1)),by rw [h8.len,hb2.len];exact yD hf,n.nx _ σ _ g2 S1 ((st.trans s2).zO h2) s2.le (w2.zO k2 k3) (env2.zbE (c':=.lst (l++m)) eo h1 ⟨vs++zs,zp,(h8.mono s2.le).app hb2⟩ rfl) q⟩
  | _=>cases em
theorem zjA {ix:Expr}{ke ve:E}(hu:X.A.units+1 < ϥ) (hN:X.N[i]?=some n) (hv:Vis X.env.scope n) (hd:(n==("__debug__":Str))=false) (hcd:(n==("__classdict__":Str))=false) (hx:PE X x (TX Γ (cx noX) ve)) (hi:PE X ix (TX Γ (cx noX) ke)) (hns:∀ lo hi st p,ix≠.Slice lo hi st p)
  (hs:eE [.Subscript (.Name n p) ix pos] x spos.line X.env=pure false) (hw:dq [.Subscript (.Name n p) ix pos] x X.env=pure none) (ha:(bM [.Subscript (.Name n p) ix pos] X.env).map (·.2)=[iG (.Subscript (.Name n p) ix pos) X.env]):
  PS X (.Assign [.Subscript (.Name n p) ix pos] x spos) (TC Γ cx ex w Hz gz (.stv i ke ve)):=
 (QQ hx (zht (qp hN hv hd hcd) hi (zef hu) (fun v=>JK hns v X.env)) hs hw ha).imp fun E σ H h0=>goK h0 fun ρ S K g hw st wk env n=>by obtain ⟨c,eo,hw⟩:=zhE hw;obtain ⟨a,h1,h2,h3,h4,h5,h6⟩:=env.ow i _ eo;refine ⟨ρ,S,_,g,Hz,hw,wk,env,fun x v H1 g1 S1 s1 w1 vx q=>?_⟩;obtain ⟨g2,s2,w2,hx,q⟩:=vx.keep s1 w1 q;refine ⟨.ref a,h1,ρ,S1,_,g2,Hz,q,w2,zm env s2,fun y u H3 g3 S3 s3 w3 vy q=>?_⟩;obtain ⟨g4,s4,w4,hy,q⟩:=vy.keep s3 w3 q;obtain ⟨c',ep,q⟩:=zX q;have s5:=s2.trans s4;have env4:=zm env s5;obtain ⟨a',f1,f2,f3,f4,f5,f6⟩:=env4.ow i _ eo;rw [h1] at f1;cases f1;obtain ⟨o',b1,b2,b3⟩:=zb1 ep f5 w4.rh hy (hx.mono s4.le);exact b1 _ (n.nx _ σ _ g4 S3 ((st.trans s5).zO h2) s5.le (w4.zO f3 f4) (env4.zbE eo h1 b2 b3) q)
end
end
section
variable {X:Cx}{Γ:Gm}{B:Tb}{cx:Xp->Cf}{ex:Xp}{w k:Nat}{c:Cc}{Hz:Hp}{gz:G}{x y:Expr}{pos tpos:Pos}{o e:E}{f:Str}{cs:List Str}
theorem zdQ (ok:XOk Γ B (spN Γ cx) k X c) {n:Str}{C:Addr}(h:vC B f n=true) (hC:caOf Γ.K n=some C):Cls X.K C/\vN X.K C f:=by obtain ⟨o,ho,hno,hf⟩:=zdR h;subst hno;obtain ⟨C',hm,oo⟩:=ok.ob o ho;have eC:C'=C:=ϐ (oo.ca.symm.trans hC);subst eC;exact ⟨ok.hK ▸ oo.cl,ok.hK ▸ oo.fl f hf⟩
theorem Qd (value:Expr) (tp:Pos) (l:Nat) (env:Env) (z:Expr):eZ value (some (.Attribute z f tp)) l env=pure false:=by unfold eZ;cases value <;> rfl
theorem Z5 {H:Hp}{g:G}{a C dx:Addr}{n:Str}{ns:List Str}{ds:List D}{vs:List V}{d:D}{v:V}(h1:caOf Γ.K n=some C) (hl:ns.length=ds.length) (h2:Hass Γ g ds vs) (hd:Has Γ g d v):
  zU Γ (upd H a (.ins C dx (putF f v (ns.zip vs)))) g a (.ins n (putN f ns) (putA f d ns ds)):=by
 have hv:ns.length=vs.length:=by rw [hl,h2.len]
 exact ⟨C,dx,putA f v ns vs,h1,by rw [zp,Uq hv],Ur hl,Xm hd hl h2⟩
theorem Kz {ns:List Str}{vs:List V}(h:ns.length < 999):(ns.zip vs).length < 1000:=by rw [fP];omega
theorem zjB (ok:XOk Γ B (spN Γ cx) k X c) (ho:PE X x (TX Γ (cx noX) o)) (hv:PE X y (TX Γ (cx noX) e)) (hc:∀ n∈cs,vC B f n=true):PS X (.Assign [.Attribute x f tpos] y pos) (TC Γ cx ex w Hz gz (.sta cs o f e)):=
 (zhp ho hv (Qd _ _ _ _ _)).imp fun E σ H h0=>goK h0 fun ρ S K g hw st wk env n=>by refine ⟨ρ,S,_,g,Hz,hw,wk,env,fun x v H1 g1 S1 s1 w1 vx q=>?_⟩;obtain ⟨g2,s2,w2,hx,q1⟩:=vx.keep s1 w1 q;refine ⟨ρ,S1,_,g2,Hz,q1,w2,zm env s2,fun z t H3 g3 S3 s3 w3 vz q=>?_⟩;obtain ⟨i,nm,ns,ds,b,C,dx,vs,rfl,h1,h2,q3,h3,h4,h5,h6⟩:=uP vz s3 w3 q;obtain ⟨hn,q4⟩:=yr q3;rw [ε] at hn;obtain ⟨c1,c2⟩:=zdQ ok (hc nm (ό.mp hn.1)) h3;have hm:=ϣ h1;have s5:=s2.trans s3;exact ⟨b,C,dx,_,rfl,h4,c1,c2,Kz (of_decide_eq_true hn.2),n.nx _ σ _ g3 _ ((st.trans s5).yG hm) s5.le (w3.yG h2 rfl h1 (Z5 h3 h5 h6 (hx.mono s3.le))) ((zm env s5).WF hm) q4⟩
theorem zja {op:bZ}{d d' r:D}(h:augD op d d'=some r):∃ i j,d=.int i/\d'=.int j/\((op=.Add/\r=.int (i+j))\/(op=.Sub/\r=.int (i - j))):=by
 cases d with
 | int i=>
  cases d' with
  | int j=>
   cases op with
   | Add=>cases h;exact ⟨i,j,rfl,rfl,.inl ⟨rfl,rfl⟩⟩
   | Sub=>cases h;exact ⟨i,j,rfl,rfl,.inr ⟨rfl,rfl⟩⟩
   | _=>cases h
  | _=>cases h
 | _=>cases h
def rAug (op:bZ):V->V->Hp->VK->Prop:=fun x y H Q=>∃ i j,x=.int i/\y=.int j/\((op=.Add/\Q (.int (i+j)) H)\/(op=.Sub/\Q (.int (i - j)) H))
theorem ziw {op:bZ}:InOp X op (rAug op):=by
 rintro pJ s σ H x y u v Q I rx ry ⟨i,j,ei,ej,q⟩;rcases q with ⟨rfl,q⟩ | ⟨rfl,q⟩
 ·exact zix pJ s σ H x y u v Q I rx ry ⟨i,j,ei,ej,q⟩
 ·exact ziu pJ s σ H x y u v Q I rx ry ⟨i,j,ei,ej,q⟩
theorem zgk {Hb H:Hp}{g:G}{z:Vl}{v:V}{i:Int}(h:VN Γ Hb z v H g) (e:z.1=.int i):v=.int i:=by
 obtain ⟨d,kd⟩:=z;cases (show d=.int i from e);cases kd with
 | st=>exact h
 | fr=>obtain ⟨_,_,_,_,_,z⟩:=h;exact z.elim
 | bo=>obtain ⟨_,_,_,_,z⟩:=h;exact z.elim
theorem zjZ {op:bZ}(ok:XOk Γ B (spN Γ cx) k X c) (ho:PE X x (TX Γ (cx noX) o)) (hv:PE X y (TX Γ (cx noX) e)) (hc:∀ n∈cs,vC B f n=true):PS X (.AugAssign (.Attribute x f tpos) op y pos) (TC Γ cx ex w Hz gz (.aua cs o f op e)):=
 (QM ho hv ziw).imp fun E σ H h0=>goK h0 fun ρ S K g hw st wk env n=>by
  refine ⟨ρ,S,_,g,Hz,hw,wk,env,fun z t H1 g1 S1 s1 w1 vz q=>?_⟩;obtain ⟨i,nm,ns,ds,b,C,dx,vs,rfl,h1,h2,q3,h3,h4,h5,h6⟩:=uP vz s1 w1 q;obtain ⟨hn,q4⟩:=yr q3;obtain ⟨d,ed,q5⟩:=zX q4;obtain ⟨c1,c2⟩:=zdQ ok (hc nm (ό.mp hn)) h3;obtain ⟨u,hu,hd⟩:=(UT f h5 h6).1 d ed;refine ⟨b,C,dx,_,u,rfl,h4,c1,c2,hu,ρ,S1,_,g1,Hz,q5,w1,zm env s1,fun z v H3 g3 S3 s3 w3 vz q=>?_⟩;obtain ⟨i',nm',ns',ds',ei,h2',q6⟩:=ZR q;cases ei;obtain ⟨r,er,q7⟩:=zX q6;obtain ⟨ht,q8⟩:=yr q7;rw [ε] at ht;cases of_decide_eq_true ht.1;obtain ⟨p,j,e1,e2,e3⟩:=zja er;subst e1;cases (show u=.int p from hd);have e4:=zgk vz e2;subst e4;have h1':=s3.le.aa _ _ h1;obtain ⟨C',dx',vs',f1,f2,f3,f4⟩:=w3.cell i _ b h2' h1';have eC:C'=C:=ϐ (f1.symm.trans h3);subst eC;have hm:=ϣ h1';have s5:=s1.trans s3;refine ⟨p,j,rfl,rfl,?_⟩;rcases e3 with ⟨eo,rfl⟩ | ⟨eo,rfl⟩
  ·exact .inl ⟨eo,dx',_,f2,Kz (of_decide_eq_true ht.2),n.nx _ σ _ g3 _ ((st.trans s5).yG hm) s5.le (w3.yG h2' rfl h1' (Z5 (d:=.int (p+j)) f1 f3 f4 rfl)) ((zm env s5).WF hm) q8⟩
  ·exact .inr ⟨eo,dx',_,f2,Kz (of_decide_eq_true ht.2),n.nx _ σ _ g3 _ ((st.trans s5).yG hm) s5.le (w3.yG h2' rfl h1' (Z5 (d:=.int (p - j)) f1 f3 f4 rfl)) ((zm env s5).WF hm) q8⟩
end
section
variable {Γ:Gm}{Hz H:Hp}{g:G}{ρ ρ':List Slot}{σ:L2.St}
theorem EnvO.put {j:Nat}{d:D}{v:V}(env:EnvO Γ Hz H g ρ σ) (hv:Has Γ g d v):EnvO Γ Hz H g (ρ.set j (.sh d)) (σ.set j (some v)):=by
 refine ⟨by rw [aQ,aQ];exact env.len,fun i e q=>?_,fun i e q=>?_,fun i i' e e' b q1 q2 q3 q4=>?_⟩
 ·rcases zy q with ⟨rfl,h1,h2⟩ | ⟨h1,h2⟩
  ·cases h2;exact ⟨v,ϡ (by rw [<- env.len];exact h1),hv⟩
  ·obtain ⟨u,e1,e2⟩:=env.sh i e h2;exact ⟨u,by rw [Μ h1];exact e1,e2⟩
 ·rcases zy q with ⟨rfl,h1,h2⟩ | ⟨h1,h2⟩
  ·cases h2
  ·obtain ⟨a,e1,e2⟩:=env.ow i e h2;exact ⟨a,by rw [Μ h1];exact e1,e2⟩
 ·have ne:∀ {i:Nat}{e:D},(ρ.set j (Slot.sh d))[i]?=some (.ow e)->j≠i/\ρ[i]?=some (.ow e):=fun {i e} q=>by
   rcases zy q with ⟨rfl,h1,h2⟩ | ⟨h1,h2⟩
   ·cases h2
   ·exact ⟨h1,h2⟩
  obtain ⟨n1,w1⟩:=ne q1;obtain ⟨n2,w2⟩:=ne q2;rw [Μ n1] at q3;rw [Μ n2] at q4;exact env.inj i i' e e' b w1 w2 q3 q4
theorem EnvO.no {j:Nat}{v:Option V}(env:EnvO Γ Hz H g ρ σ):EnvO Γ Hz H g (ρ.set j .no) (σ.set j v):=by
 have ne:∀ {i:Nat}{s:Slot},(ρ.set j Slot.no)[i]?=some s->s≠.no->j≠i/\ρ[i]?=some s:=fun {i s} q hs=>by
  rcases zy q with ⟨rfl,h1,h2⟩ | ⟨h1,h2⟩
  ·exact absurd h2.symm (fun z=>hs z.symm)
  ·exact ⟨h1,h2⟩
 refine ⟨by rw [aQ,aQ];exact env.len,fun i e q=>?_,fun i e q=>?_,fun i i' e e' b q1 q2 q3 q4=>?_⟩
 ·obtain ⟨n,w⟩:=ne q nofun;rw [Μ n];exact env.sh i e w
 ·obtain ⟨n,w⟩:=ne q nofun;rw [Μ n];exact env.ow i e w
 ·obtain ⟨n1,w1⟩:=ne q1 nofun;obtain ⟨n2,w2⟩:=ne q2 nofun;rw [Μ n1] at q3;rw [Μ n2] at q4;exact env.inj i i' e e' b w1 w2 q3 q4
end
section
variable {Γ:Gm}{B:Tb}{sp:Nat->Nat->Sp}{k:Nat}{X:Cx}{c:Cc}{i cn:Nat}{ea C:Addr}{oe:Obj}
noncomputable def zf7:Stmt->Option (List Expr×Expr×Pos)
 | .Assign ts x p=>some (ts,x,p)
 | _=>none
theorem zc4 {st:Stmt}{q:List Expr×Expr×Pos}(h:zf7 st=some q):st=.Assign q.1 q.2.1 q.2.2:=by cases st <;> first | (cases h;rfl) | cases h
end
section
variable {Γ:Gm}{B:Tb}{cx:Xp->Cf}{ex:Xp}{k w:Nat}{X:Cx}{c:Cc}{Hz:Hp}{gz:G}{i ce f:Nat}{tb:List (List Nat)}{hs:List (Nat×HB)}{es:List E}
theorem zjG {n msg:Str}{j cn:Nat}{l:List Nat}{np cp p pos:Pos}(ok:XOk Γ B (spN Γ cx) k X c) (hn:B.cls[cn]?=some (n,l)) (hg:Gl X n) (hd:(n==("__debug__":Str))=false)
  (xr:∀ pJ σ H s g S c C h' ea args,Inv X pJ σ H s->Step Hz gz H g->WOk Γ H g S->ex c S->Γ.ca c=some C->iW s.heap h' ea (.ref C) args->X.xe (.ref ea) { s with heap:=h' }):
  PS X (.Raise (some (.Call (.Name n np) [.Constant (.str msg) j p] [] cp)) none pos) (TC Γ cx ex w Hz gz (.rse cn)):=fun pJ s σ H D I h0=>goK h0 fun ρ S K g hw st wk env nn=>by obtain ⟨C,hm,kc⟩:=ok.cl cn n l hn;exact zbZ I ok.calm hg hm hd (ok.hK ▸ kc.ex) fun s1 h' ea args I1 m=>xr pJ σ H s1 g S cn C h' ea args I1 st wk hw kc.ca m
theorem WOk.same {H H':Hp}{g:G}{S:Store}(w:WOk Γ H g S) (s:Same H H'):WOk Γ H' g S:=⟨w.rh.trans s,w.len,w.nd,w.off,fun k c a h1 h2=>(w.cell k c a h1 h2).mono (Le.refl g) fun o e=>s a o e⟩
def Xw (Γ:Gm) (ex:Xp) (H1:Hp) (g1:G):XK:=fun _ C H'=>∃ c C0 g2 S2,C=some C0/\Γ.ca c=some C0/\Step H1 g1 H' g2/\WOk Γ H' g2 S2/\ex c S2
end
noncomputable def W4:Expr->Bool
 | .ListComp _ _ _ _=>false
 | .SetComp _ _ _ _=>false
 | .DictComp _ _ _ _ _=>false
 | _=>true
noncomputable def ZV:E->Bool
 | .comp _ _ _ _ _=>true
 | _=>false
noncomputable def ju:Expr->Bool
 | .Tuple _ _ _=>false
 | _=>true
noncomputable def qY (c:Cc) (n:Str) (np:Pos):Expr->Bool
 | .ListComp _ _ sc p=>c.names.lookup n==some .local&&np.line==p.line&&!(sc.names.any fun (m,k)=>m==n&&(k==.local||k==.cell))
 | _=>false
noncomputable def chkN (c:Cc) (i:Nat) (n:Str):Bool:=c.N[i]?==some n&&visK (c.names.lookup n)&&yf n
structure Meth where
 o:Expr
 m:Str
 ap:Pos
 x:Expr
 cp:Pos
noncomputable def zbw:Expr->Option Meth
 | .Call f args kws cp=>if yE kws=true then (xZ f).bind fun q=>(sole args).map fun x=>⟨q.1,q.2.1,q.2.2,x,cp⟩ else none
 | _=>none
set_option tactic.hygienic true in
theorem zbv {x:Expr}{q:Meth}(h:zbw x=some q):x=.Call (.Attribute q.o q.m q.ap) [q.x] [] q.cp:=by
 cases x with
 | Call f args kws cp=>
  have h:(if yE kws=true then (xZ f).bind fun q=>(sole args).map fun x=>(⟨q.1,q.2.1,q.2.2,x,cp⟩:Meth) else none)=some q:=h;split at h
  ·rename_i hn
   cases e1:xZ f with
   | none=>rw [e1] at h;cases h
   | some z=>
    rw [e1] at h;cases e2:sole args with
    | none=>rw [e2] at h;cases h
    | some y=>
     rw [e2] at h;cases h;rw [xT hn,vM e1,Zn e2]
  ·cases h
 | _=>cases h
noncomputable def vZ (B:Tb) (c:Cc) (name:Str) (i:Nat) (e:E) (x:Expr):Bool:=match zbw x with
  | some q=>(match asName q.o with
    | some r=>chkN c i r.1&&q.m==name&&chkE B c e q.x&&notStar q.x&&q.ap.endLine==q.cp.line
    | none=>false)
  | none=>false
theorem qM {B:Tb}{c:Cc}{name:Str}{i:Nat}{e:E}{x:Expr}(h:vZ B c name i e x=true):∃ n np ap y cp,x=.Call (.Attribute (.Name n np) name ap) [y] [] cp/\chkN c i n=true/\chkE B c e y=true/\notStar y=true/\(ap.endLine==cp.line)=true:=by
  unfold vZ at h;cases e1:zbw x with
  | none=>rw [e1] at h;cases h
  | some q=>
    rw [e1] at h
    have h:(match asName q.o with
      | some r=>chkN c i r.1&&q.m==name&&chkE B c e q.x&&notStar q.x&&q.ap.endLine==q.cp.line
      | none=>false)=true:=h
    cases e2:asName q.o with
    | none=>rw [e2] at h;cases h
    | some r=>
      rw [e2] at h;have h:(chkN c i r.1&&q.m==name&&chkE B c e q.x&&notStar q.x&&q.ap.endLine==q.cp.line)=true:=h;simp only [ε] at h;obtain ⟨⟨⟨⟨h1,h2⟩,h3⟩,h4⟩,h5⟩:=h;refine ⟨r.1,r.2,q.ap,q.x,q.cp,?_,h1,h3,h4,h5⟩;rw [zbv e1,vL e2,eq_of_beq h2]
noncomputable def asRx:Expr->Option Str
  | .Call f as ks _=>(asName f).bind fun q=>(match as with
    | [a]=>(match a with
      | .Constant k _ _=>(match k with
        | .str _=>if yE ks=true then some q.1 else none
        | _=>none)
      | _=>none)
    | _=>none)
  | _=>none
set_option tactic.hygienic true in
theorem zf4 {x:Expr}{n:Str}(h:asRx x=some n):∃ np msg j p cp,x=.Call (.Name n np) [.Constant (.str msg) j p] [] cp:=by
 cases x with
 | Call f as ks cp=>
  obtain ⟨q,e1,h⟩:=Ο.mp (show (asName f).bind _=some n from h)
  match as,h with
  | [a],h=>
   cases a with
   | Constant k j p=>
    cases k with
    | str m=>
     have h:(if yE ks=true then some q.1 else none)=some n:=h;split at h
     ·rename_i hn
      cases h;rw [vL e1,xT hn];exact ⟨_,_,_,_,_,rfl⟩
     ·cases h
    | _=>cases h
   | _=>cases h
  | [],h=>cases h
  | _::_::_,h=>cases h
 | _=>cases h
noncomputable def zf5:Stmt->Option Str
 | .Raise e c _=>e.bind fun x=>if c.isNone=true then asRx x else none
 | _=>none
set_option tactic.hygienic true in
theorem zc1 {st:Stmt}{n:Str}(h:zf5 st=some n):∃ np msg j p cp pos,st=.Raise (some (.Call (.Name n np) [.Constant (.str msg) j p] [] cp)) none pos:=by
 cases st with
 | Raise e c pos=>
  obtain ⟨x,e1,h⟩:=Ο.mp (show e.bind _=some n from h);split at h
  ·rename_i hc
   obtain ⟨np,msg,j,p,cp,rfl⟩:=zf4 h;cases c with
   | none=>subst e1;exact ⟨_,_,_,_,_,_,rfl⟩
   | some _=>cases hc
  ·cases h
 | _=>cases h
noncomputable def zbd (B:Tb) (c:Cc) (cn:Nat) (st:Stmt):Bool:=match zf5 st with
 | some n=>(B.cls[cn]?).map (·.1)==some n&&gloK (c.names.lookup n)&&yf n
 | none=>false
noncomputable def zf6:Stmt->Option (Expr×bZ×Expr×Pos)
 | .AugAssign t op x p=>some (t,op,x,p)
 | _=>none
theorem zc3 {st:Stmt}{q:Expr×bZ×Expr×Pos}(h:zf6 st=some q):st=.AugAssign q.1 q.2.1 q.2.2.1 q.2.2.2:=by cases st <;> first | (cases h;rfl) | cases h
noncomputable def zbc (B:Tb) (c:Cc) (cs:List Str) (o:E) (f:Str) (e:E) (st:Stmt):Bool:=match zf7 st with
  | some t=>(match (sole t.1).bind xZ with
    | some q=>q.2.1==f&&chkE B c o q.1&&chkE B c e t.2.1&&cs.all (vC B f)
    | none=>false)
  | none=>false
noncomputable def zbe (B:Tb) (c:Cc) (cs:List Str) (o:E) (f:Str) (op:bZ) (e:E) (st:Stmt):Bool:=match zf6 st with
  | some t=>(match xZ t.1 with
    | some q=>q.2.1==f&&t.2.1==op&&chkE B c o q.1&&chkE B c e t.2.2.1&&cs.all (vC B f)
    | none=>false)
  | none=>false
mutual
noncomputable def chkC (B:Tb) (c:Cc):C->Stmt->Bool
  | .set t e,.Assign ts x _=>(match sole ts with
    | some tg=>chkE B c e x&&chkT c t tg&&(match asName tg with
      | some q=>!qY c q.1 q.2 x||ZV e
      | none=>Xj tg&&ju x)
    | none=>false)
  | .expr e,.Expr x _=>chkE B c e x&&W4 x
  | .ret e,.Return v _=>(match v with
    | some x=>chkE B c e x
    | none=>false)
  | .retN,.Return v _=>v.isNone
  | .ite e a b,.If x aa bb _=>chkE B c e x&&wH B c a aa&&wH B c b bb
  | .whl e b,.While x bb r _=>chkE B c e x&&wH B c b bb&&yE r
  | .forr t it b,.For tgt x bb r _=>chkI B c it tgt x&&chkT c t tgt&&wy x&&wH B c b bb&&yE r
  | .app i e,.Expr x _=>vZ B c "append" i e x
  | .ext i e,.Expr x _=>vZ B c "extend" i e x
  | .stv i k v,.Assign ts x _=>(match (sole ts).bind zbu with
    | some q=>(match asName q.1 with
      | some r=>chkN c i r.1&&chkE B c k q.2.1&&chkE B c v x
      | none=>false)
    | none=>false)
  | .rse cn,st=>zbd B c cn st
  | .sta cs o f e,st=>zbc B c cs o f e st
  | .aua cs o f op e,st=>zbe B c cs o f op e st
  | .pass,.Pass _=>true
  | .brk,.Break _=>true
  | .cnt,.Continue _=>true
  | _,_=>false
noncomputable def wH (B:Tb) (c:Cc):List C->List Stmt->Bool
 | .frz _::ss,xs=>wH B c ss xs
 | .frr _::ss,xs=>wH B c ss xs
 | .frk _::ss,xs=>wH B c ss xs
 | [],[]=>true
 | s::ss,x::xs=>chkC B c s x&&wH B c ss xs
 | _,_=>false
end
structure XSt (Γ:Gm) (B:Tb) (cx:Xp->Cf) (ex:Xp) (Hz:Hp) (gz:G) (k:Nat) (X:Cx) (c:Cc):Prop where
 ok:XOk Γ B (spN Γ cx) k X c
 fn:c.fn=true
 own:mD (Λ X.prog X.w) X.A X.env X.xe
 hcf:∀ ex,CfN B (cx ex)
 hm:Wl cx
 sk:X.stack=X.env::X.outer
 fr:X.env.frame=some X.env.locals
 xr:∀ pJ σ H s g S c C h' ea args,Inv X pJ σ H s->Step Hz gz H g->WOk Γ H g S->ex c S->Γ.ca c=some C->iW s.heap h' ea (.ref C) args->X.xe (.ref ea) { s with heap:=h' }
 xp:∀ pJ σ H1 s1 g1 e s',Inv X pJ σ H1 s1->Step Hz gz H1 g1->CX1 X.prog X.w X.stack H1 s1 (Xw Γ ex H1 g1) e s'->X.xe e s'
section
variable {Γ:Gm}{B:Tb}{cx:Xp->Cf}{ex:Xp}{k w:Nat}{X:Cx}{c:Cc}{Hz:Hp}{gz:G}{x:Expr}{e:E}{n:Str}{pos np:Pos}{i:Nat}
theorem XSt.pe (ok:XSt Γ B cx ex Hz gz k X c) (h:chkE B c e x=true):PE X x (TX Γ (cx noX) e):=(sA (ok.hcf noX) ok.hm.no e X c x ok.ok h).1
theorem XSt.pt (ok:XSt Γ B cx ex Hz gz k X c) (h:chkE B c e x=true):PT X x (TB Γ (cx noX) e):=(sA (ok.hcf noX) ok.hm.no e X c x ok.ok h).2.1
theorem noSl {y:Expr}(h:chkE B c e y=true):∀ lo hi st p,y≠.Slice lo hi st p:=fun lo hi st p q=>by subst q;exact zah e h
theorem YT (h:W4 x=true) (t:Option Expr) (l:Nat) (env:Env):eZ x t l env=pure false:=by cases x <;> first | rfl | cases h
theorem zbL (x o y:Expr) (p:Pos) (l:Nat) (env:Env):eE [.Subscript o y p] x l env=pure false:=by cases x <;> rfl
theorem zbK (x:Expr) (es:List Expr) (kk:Nat) (p:Pos) (l:Nat) (env:Env):eE [.Tuple es kk p] x l env=pure false:=by cases x <;> rfl
theorem JM (x o y:Expr) (p:Pos) (env:Env):dq [.Subscript o y p] x env=pure none:=by cases x <;> rfl
theorem WM (x:Expr) (n:Str) (p:Pos) (env:Env):dq [.Name n p] x env=pure none:=by cases x <;> rfl
theorem JL (h:ju x=true) (es:List Expr) (kk:Nat) (p:Pos) (env:Env):dq [.Tuple es kk p] x env=pure none:=by cases x <;> first | rfl | cases h
theorem noSC {y:Expr}{g:List Comprehension}{sc:eG}{p:Pos}(e:E) (h:chkE B c e (.SetComp y g sc p)=true):False:=by
 cases e with
 | box e=>exact nobE h
 | _=>exact nobE h
theorem noDC {y z:Expr}{g:List Comprehension}{sc:eG}{p:Pos}(e:E) (h:chkE B c e (.DictComp y z g sc p)=true):False:=by
 cases e with
 | box e=>exact nobE h
 | _=>exact nobE h
theorem Qf (ok:XOk Γ B (spN Γ cx) k X c) (hx:chkE B c e x=true) (l:Nat):eZ x (some (.Name n np)) l X.env=pure (qY c n np x):=by
 have hk:X.env.kindOf n=c.names.lookup n:=by unfold oU;rw [ok.nm]
 have hb:X.env.blockKind=.function:=by unfold Env.blockKind;rw [ok.kd];rfl
 cases x with
 | ListComp y g sc p=>
  show pure (X.env.blockKind==.function&&X.env.kindOf n==some .local&&np.line==p.line&&!(sc.names.any fun (m,k)=>m==n&&(k==.local||k==.cell)))=(pure (c.names.lookup n==some .local&&np.line==p.line&&!(sc.names.any fun (m,k)=>m==n&&(k==.local||k==.cell))):Sem Bool)
  rw [hb,hk];rfl
 | SetComp y g sc p=>exact (noSC e hx).elim
 | DictComp y g a sc p=>exact (noDC e hx).elim
 | _=>rfl
theorem zdd (ok:XSt Γ B cx ex Hz gz k X c) {t:T}{tgt:Expr}(h1:chkE B c e x=true) (hpg:PG X tgt (tgOf X.K t)) (hs:eE [tgt] x pos.line X.env=pure false) (hw:dq [tgt] x X.env=pure none) (ha:(bM [tgt] X.env).map (·.2)=[iG tgt X.env]):PS X (.Assign [tgt] x pos) (TC Γ cx ex w Hz gz (.set t e)):=by
 cases hn:zfb e with
 | true=>exact zjE hn (ok.pe h1) hpg hs hw ha
 | false=>
  cases e with
  | box e=>exact zgU (ok.pe (e:=e) (ε _ _ ▸ (show (QS x&&chkE B c e x)=true from h1)).2) hpg hs hw ha
  | _=>cases hn
theorem zg9 (ok:XSt Γ B cx ex Hz gz k X c) {t:T}{ts:List Expr}(h:chkC B c (.set t e) (.Assign ts x pos)=true):PS X (.Assign ts x pos) (TC Γ cx ex w Hz gz (.set t e)):=by
  have h:(match sole ts with
    | some tg=>chkE B c e x&&chkT c t tg&&(match asName tg with
      | some q=>!qY c q.1 q.2 x||ZV e
      | none=>Xj tg&&ju x)
    | none=>false)=true:=h
  cases e1:sole ts with
  | none=>rw [e1] at h;cases h
  | some tg=>
    rw [e1] at h;have et:=Zn e1;subst et
    have h:(chkE B c e x&&chkT c t tg&&(match asName tg with
      | some q=>!qY c q.1 q.2 x||ZV e
      | none=>Xj tg&&ju x))=true:=h
    rw [ε,ε] at h;obtain ⟨⟨h1,h2⟩,h3⟩:=h;have hpg:=Qa ok.ok h2;cases e2:asName tg with
    | some q=>
      rw [e2] at h3;have et:=vL e2;obtain ⟨n,np⟩:=q;subst et;have h3:(!qY c n np x||ZV e)=true:=h3;have hsw:=Qf (n:=n) (np:=np) ok.ok h1 pos.line;cases ha:qY c n np x with
      | false=>
        rw [ha] at hsw;exact zdd ok h1 hpg hsw (WM x n np X.env) rfl
      | true=>
        rw [ha] at h3 hsw;cases e with
        | comp t' js it ifs elt=>
          cases t with
          | one i=>exact zgT (sCS (ok.hcf noX) ok.hm.no ok.ok h1) hpg hsw
          | tup is=>exact nobE h2
          | nst _ _=>exact nobE h2
        | _=>cases h3
    | none=>
      rw [e2] at h3;have h3:(Xj tg&&ju x)=true:=h3;rw [ε] at h3;cases tg with
      | Tuple es kk p=>exact zdd ok h1 hpg (zbK x es kk p pos.line X.env) (JL h3.2 es kk p X.env) rfl
      | _=>cases h3.1
theorem s_rt (ok:XSt Γ B cx ex Hz gz k X c) (h:chkE B c e x=true):PS X (.Return (some x) pos) (TC Γ cx ex w Hz gz (.ret e)):=by
 by_cases hv:∃ i,e=.var i
 ·obtain ⟨i,rfl⟩:=hv;have hb:Υ x.ctorIdx 23=true:=by revert h;cases x <;> first | exact non | exact fun _=>rfl
  revert h;apply ww hb;clear hb;intro n p h;have h:(c.N[i]?==some n&&visK (c.names.lookup n)&&yf n)=true:=h;simp only [ε] at h;obtain ⟨q1,q2,_⟩:=yh h.2;exact zgX (by rw [ok.ok.N];exact eq_of_beq h.1.1) (ok.ok.vis h.1.2) q1 q2
 ·exact zjH (fun i q=>hv ⟨i,q⟩) (ok.pe h)
theorem zcZ {ts:List Expr}{q:Expr×Expr×Pos}(h:(sole ts).bind zbu=some q):ts=[.Subscript q.1 q.2.1 q.2.2]:=by
 cases e1:sole ts with
 | none=>rw [e1] at h;cases h
 | some tg=>
  rw [e1] at h;rw [Zn e1,zc0 h]
theorem zjC (ok:XSt Γ B cx ex Hz gz k X c) {kx v:E}{ts:List Expr}(h:chkC B c (.stv i kx v) (.Assign ts x pos)=true):PS X (.Assign ts x pos) (TC Γ cx ex w Hz gz (.stv i kx v)):=by
  have h:(match (sole ts).bind zbu with
    | some q=>(match asName q.1 with
      | some r=>chkN c i r.1&&chkE B c kx q.2.1&&chkE B c v x
      | none=>false)
    | none=>false)=true:=h
  cases e2:(sole ts).bind zbu with
  | none=>rw [e2] at h;cases h
  | some q=>
    rw [e2] at h;have et:=zcZ e2;subst et;obtain ⟨o,y,sp⟩:=q
    have h:(match asName o with
      | some r=>chkN c i r.1&&chkE B c kx y&&chkE B c v x
      | none=>false)=true:=h
    cases e3:asName o with
    | none=>rw [e3] at h;cases h
    | some r=>
      rw [e3] at h;have et:=vL e3;subst et;obtain ⟨n,np⟩:=r;have h:(chkN c i n&&chkE B c kx y&&chkE B c v x)=true:=h;unfold chkN at h;simp only [ε] at h;obtain ⟨⟨h1,h2⟩,h3⟩:=h;obtain ⟨q1,q2,_⟩:=yh h1.2;exact zjA ok.ok.u1 (by rw [ok.ok.N];exact eq_of_beq h1.1.1) (ok.ok.vis h1.1.2) q1 q2 (ok.pe h3) (ok.pe h2) (noSl h2) (zbL x _ y sp pos.line X.env) (JM x _ y sp X.env) rfl
mutual
theorem sC (ok:XSt Γ B cx ex Hz gz k X c):∀ (s:C) (st:Stmt),chkC B c s st=true->PS X st (TC Γ cx ex w Hz gz s)
  | .set t e,st,h=>by
    have hb:Υ st.ctorIdx 5=true:=by revert h;cases st <;> first | exact non | exact fun _=>rfl
    revert h;apply YL hb;clear hb;intro ts x pos h;exact zg9 ok h
  | .expr e,st,h=>by
    have hb:Υ st.ctorIdx 24=true:=by revert h;cases st <;> first | exact non | exact fun _=>rfl
    revert h;apply W0 hb;clear hb;intro x pos h;have h:(chkE B c e x&&W4 x)=true:=h;simp only [ε] at h;exact zg5 (ok.pe h.1) (YT h.2 none pos.line X.env)
  | .ret e,st,h=>by
    have hb:Υ st.ctorIdx 3=true:=by revert h;cases st <;> first | exact non | exact fun _=>rfl
    revert h;apply YK hb;clear hb;intro v pos h;cases v with
    | none=>exact nobE h
    | some x=>exact s_rt ok h
  | .retN,st,h=>by
    have hb:Υ st.ctorIdx 3=true:=by revert h;cases st <;> first | exact non | exact fun _=>rfl
    revert h;apply YK hb;clear hb;intro v pos h;cases v with
    | some x=>exact nobE h
    | none=>exact zgY
  | .ite e a b,st,h=>by
    have hb:Υ st.ctorIdx 12=true:=by revert h;cases st <;> first | exact non | exact fun _=>rfl
    revert h;apply zki hb;clear hb;intro x aa bb pos h;have h:(chkE B c e x&&wH B c a aa&&wH B c b bb)=true:=h;simp only [ε] at h;exact s_if (ok.pt h.1.1) (sCs ok a aa h.1.2) (sCs ok b bb h.2)
  | .whl e b,st,h=>by
    have hb:Υ st.ctorIdx 11=true:=by revert h;cases st <;> first | exact non | exact fun _=>rfl
    revert h;apply zcj hb;clear hb;intro x bb r pos h;have h:(chkE B c e x&&wH B c b bb&&yE r)=true:=h;simp only [ε] at h;have hr:=xT h.2;subst hr;exact zei (ok.pt h.1.1) (sCs ok b bb h.1.2) ok.own
  | .forr t it b,st,h=>by
    have hb:Υ st.ctorIdx 9=true:=by revert h;cases st <;> first | exact non | exact fun _=>rfl
    revert h;apply zhS hb;clear hb;intro tgt x bb r pos h;have h:(chkI B c it tgt x&&chkT c t tgt&&wy x&&wH B c b bb&&yE r)=true:=h;simp only [ε] at h;obtain ⟨⟨⟨⟨h1,h2⟩,h3⟩,h4⟩,h5⟩:=h;have hr:=xT h5;subst hr;exact zjS (sI (ok.hcf noX) ok.hm.no it X c tgt x ok.ok h1) (Qa ok.ok h2) (sCs ok b bb h4) ok.own ok.ok.calm (Xu h3 X.env)
  | .app i e,st,h=>by
    have hb:Υ st.ctorIdx 24=true:=by revert h;cases st <;> first | exact non | exact fun _=>rfl
    revert h;apply W0 hb;clear hb;intro x pos h;obtain ⟨n,np,ap,y,cp,rfl,h1,h3,h4,h5⟩:=qM (show vZ B c "append" i e x=true from h);unfold chkN at h1;simp only [ε] at h1;obtain ⟨q1,q2,_⟩:=yh h1.2;exact zj1 (by rw [ok.ok.N];exact eq_of_beq h1.1.1) (ok.ok.vis h1.1.2) q1 q2 (ok.pe h3) h4 h5
  | .ext i e,st,h=>by
    have hb:Υ st.ctorIdx 24=true:=by revert h;cases st <;> first | exact non | exact fun _=>rfl
    revert h;apply W0 hb;clear hb;intro x pos h;obtain ⟨n,np,ap,y,cp,rfl,h1,h3,h4,h5⟩:=qM (show vZ B c "extend" i e x=true from h);unfold chkN at h1;simp only [ε] at h1;obtain ⟨q1,q2,_⟩:=yh h1.2;exact zjT (by rw [ok.ok.N];exact eq_of_beq h1.1.1) (ok.ok.vis h1.1.2) q1 q2 (ok.pe h3) h4 h5
  | .stv i kx v,st,h=>by
    have hb:Υ st.ctorIdx 5=true:=by revert h;cases st <;> first | exact non | exact fun _=>rfl
    revert h;apply YL hb;clear hb;intro ts x pos h;exact zjC ok h
  | .sti o kx v,st,h=>nobE h
  | .appR o e,st,h=>nobE h
  | .pop i,st,h=>nobE h
  | .popO t i,st,h=>nobE h
  | .popR t o,st,h=>nobE h
  | .pass,st,h=>by
    have hb:Υ st.ctorIdx 25=true:=by revert h;cases st <;> first | exact non | exact fun _=>rfl
    revert h;apply ze5 hb;clear hb;intro pos h;exact zg0
  | .brk,st,h=>by
    have hb:Υ st.ctorIdx 26=true:=by revert h;cases st <;> first | exact non | exact fun _=>rfl
    revert h;apply zck hb;clear hb;intro pos h;exact zjX
  | .cnt,st,h=>by
    have hb:Υ st.ctorIdx 27=true:=by revert h;cases st <;> first | exact non | exact fun _=>rfl
    revert h;apply W2 hb;clear hb;intro pos h;exact zjU
  | .lin i es,st,h=>nobE h
  | .sta cs o f e,st,h=>by
    have h:zbc B c cs o f e st=true:=by cases st <;> exact h
    unfold zbc at h;cases ea:zf7 st with
    | none=>rw [ea] at h;exact nobE h
    | some t=>
    rw [ea] at h;obtain ⟨ts,x,p⟩:=t
    have h0:(match (sole ts).bind xZ with
      | some q=>q.2.1==f&&chkE B c o q.1&&chkE B c e x&&cs.all (vC B f)
      | none=>false)=true:=h
    clear h;rw [zc4 ea];cases eb:(sole ts).bind xZ with
    | none=>rw [eb] at h0;exact nobE h0
    | some q=>
      rw [eb] at h0;have h':(q.2.1==f&&chkE B c o q.1&&chkE B c e x&&cs.all (vC B f))=true:=h0;simp only [ε] at h';obtain ⟨⟨⟨h1,h2⟩,h3⟩,h4⟩:=h';obtain ⟨tg,e1,e2⟩:=Ο.mp eb;have es:=Zn e1;have en:=vM e2;have ef:=eq_of_beq h1;subst es en ef;exact zjB ok.ok (sA (ok.hcf noX) ok.hm.no o X c q.1 ok.ok h2).1 (sA (ok.hcf noX) ok.hm.no e X c x ok.ok h3).1 (ϒ.mp h4)
  | .aua cs o f op e,st,h=>by
    have h:zbe B c cs o f op e st=true:=by cases st <;> exact h
    unfold zbe at h;cases ea:zf6 st with
    | none=>rw [ea] at h;exact nobE h
    | some t=>
    rw [ea] at h;obtain ⟨tg,op',x,p⟩:=t
    have h0:(match xZ tg with
      | some q=>q.2.1==f&&op'==op&&chkE B c o q.1&&chkE B c e x&&cs.all (vC B f)
      | none=>false)=true:=h
    clear h;rw [zc3 ea];cases eb:xZ tg with
    | none=>rw [eb] at h0;exact nobE h0
    | some q=>
      rw [eb] at h0;have h':(q.2.1==f&&op'==op&&chkE B c o q.1&&chkE B c e x&&cs.all (vC B f))=true:=h0;simp only [ε] at h';obtain ⟨⟨⟨⟨h1,h5⟩,h2⟩,h3⟩,h4⟩:=h';have en:=vM eb;have ef:=eq_of_beq h1;have eo:=eq_of_beq h5;subst en ef eo;exact zjZ ok.ok (sA (ok.hcf noX) ok.hm.no o X c q.1 ok.ok h2).1 (sA (ok.hcf noX) ok.hm.no e X c x ok.ok h3).1 (ϒ.mp h4)
  | .rse cn,st,h=>by
    have h:zbd B c cn st=true:=by cases st <;> exact h
    unfold zbd at h;cases e:zf5 st with
    | none=>rw [e] at h;cases h
    | some n=>
      rw [e] at h;have h':((B.cls[cn]?).map (·.1)==some n&&gloK (c.names.lookup n)&&yf n)=true:=h;rw [ε,ε] at h';obtain ⟨⟨h1,h2⟩,h3⟩:=h';obtain ⟨np,msg,j,p,cp,pos,rfl⟩:=zc1 e;obtain ⟨⟨n',l⟩,e1,e2⟩:=Α.mp (eq_of_beq h1);cases e2;exact zjG ok.ok e1 (ok.ok.glob h2) (yh h3).1 ok.xr
  | .stx i f es,st,h=>nobE h
  | .sw2 i j a b,st,h=>nobE h
  | .trx tb j f es ce i hb a b els,st,h=>nobE h
  | .tri tb f es ce i hs,st,h=>nobE h
  | .frz _,st,h=>by revert h;cases st <;> exact nobE
  | .frr _,st,h=>by revert h;cases st <;> exact nobE
  | .frk _,st,h=>by revert h;cases st <;> exact nobE
theorem sCs (ok:XSt Γ B cx ex Hz gz k X c):∀ (ss:List C) (sts:List Stmt),wH B c ss sts=true->PSs X sts (TCs Γ cx ex w Hz gz ss)
 | [],sts,h=>by
  cases sts with
  | nil=>exact zgS
  | cons _ _=>exact nobE h
 | s::ss,sts,h=>by
  by_cases hf:∃ i,s=.frz i
  ·obtain ⟨i,rfl⟩:=hf;exact zjP (sCs ok ss sts (by cases sts <;> exact h))
  by_cases hr:∃ i,s=.frr i
  ·obtain ⟨i,rfl⟩:=hr;exact zjQ (sCs ok ss sts (by cases sts <;> exact h))
  by_cases hk:∃ i,s=.frk i
  ·obtain ⟨i,rfl⟩:=hk;exact zjR (sCs ok ss sts (by cases sts <;> exact h))
  ·cases sts with
   | nil=>cases s <;> first | exact nobE h | exact absurd ⟨_,rfl⟩ hf | exact absurd ⟨_,rfl⟩ hr | exact absurd ⟨_,rfl⟩ hk
   | cons st sts=>
    have h:(chkC B c s st&&wH B c ss sts)=true:=by cases s <;> first | exact h | exact absurd ⟨_,rfl⟩ hf | exact absurd ⟨_,rfl⟩ hr | exact absurd ⟨_,rfl⟩ hk
    rw [ε] at h;exact zej (sC ok s st h.1) (sCs ok ss sts h.2)
end
end
theorem ln1 {α:Type}:∀ {l:List α},l.length=1->∃ a,l=[a]
 | [a],_=>⟨a,rfl⟩
theorem ln2 {α:Type}{l:List α}(h:l.length=2):∃ a0 a1,l=[a0,a1]:=by
 cases l with
 | nil=>cases h
 | cons a0 l=>
  obtain ⟨a1,rfl⟩:=ln1 (dO h);exact ⟨a0,a1,rfl⟩
theorem ln3 {α:Type}{l:List α}(h:l.length=3):∃ a0 a1 a2,l=[a0,a1,a2]:=by
 cases l with
 | nil=>cases h
 | cons a0 l=>
  obtain ⟨a1,a2,rfl⟩:=ln2 (dO h);exact ⟨a0,a1,a2,rfl⟩
theorem ln4 {α:Type}{l:List α}(h:l.length=4):∃ a0 a1 a2 a3,l=[a0,a1,a2,a3]:=by
 cases l with
 | nil=>cases h
 | cons a0 l=>
  obtain ⟨a1,a2,a3,rfl⟩:=ln3 (dO h);exact ⟨a0,a1,a2,a3,rfl⟩
theorem Wj {K:W.Frag}{x:Str}(h:dotted x=false):atN K x=W.nsIn K ϑ x:=by unfold atN;rw [h];rfl
noncomputable def wF (rs:List Row):Nat->Option Fn:=fun i=>(rs[i]?).map (·.fn)
noncomputable def Qu (N ps:List Str) (sc:eG):Bool:=
 (sc.kind==.function)&&!sc.isCoroutine&&!sc.isGenerator&&decide N.Nodup&&(N.take ps.length==ps)&&ps.all (fun x=>sc.names.lookup x==some .local||sc.names.lookup x==some .cell)&&sc.names.all (fun y=>y.2 != .free)
theorem Qt {N ps:List Str}{sc:eG}(h:Qu N ps sc=true):Yb N ps sc:=by unfold Qu at h;simp only [ε,ϒ,nC,decide_eq_true_eq,c7,beq_iff_eq,bne_iff_ne] at h;obtain ⟨⟨⟨⟨⟨⟨h1,h2⟩,h3⟩,h4⟩,h5⟩,h6⟩,h7⟩:=h;exact ⟨h1,h2,h3,h4,h5,h6,h7⟩
structure zK (B:Tb) (r:Row):Prop where
 sc:Qu r.N r.ps (zJ r.st)=true
 ck:wH B ⟨(zJ r.st).names,r.N,true⟩ r.fn.body (yl r.st)=true
 np:r.fn.np=r.ps.length
 nv:r.fn.nv=r.N.length
 bd:∀ (kV doc pm:δ) (an:Option Addr) (cdv ct:δ) (us:List δ),us.length=r.ps.length->bindArgs (W.fnOf (nmOf r.name) r.name (yJ r.st) (yl r.st) (zJ r.st) .none kV doc pm an cdv ct) ⟨us,[]⟩=pure (r.ps.zip us)
def KwOk (rs:List Row) (q:Nat×List Str×List Nat):Prop:=q.2.1≠[]/\∀ r,rs[q.1]?=some r->∀ (kV doc pm:δ) (an:Option Addr) (cdv ct:δ) (ws:List δ),ws.length=q.2.1.length ->
 bindArgs (W.fnOf (nmOf r.name) r.name (yJ r.st) (yl r.st) (zJ r.st) .none kV doc pm an cdv ct) ⟨[],q.2.1.zip ws⟩=pure (r.ps.zip (q.2.2.map fun i=>ws.getD i .none))
structure Wm (K:W.Frag) (x:Str) (st:Stmt):Prop where
 ex:∃ f fd,Fun K (nmOf x) x st f fd/\atN K x=some (some (.ref f))
theorem ziY {K:W.Frag}{x:Str}{st:Stmt}{f:Addr}{oc:δ}{od an:Option Addr}{osl:Array (Option δ)}{kV doc pm cdv ct:δ}(a:atN K x=some (some (.ref f)))
  (l:K.lookup f=some ⟨oc,od,.func (W.fnOf (nmOf x) x (yJ st) (yl st) (zJ st) .none kV doc pm an cdv ct),osl⟩) (c:W.codeIn K cdv x=true) (k:W.keepIn K (.ref f)=true):Wm K x st:=⟨f,_,ziE l c k,a⟩
noncomputable def faOf (K:W.Frag) (r:Row):Option Addr:=open Classical in if h:∃ f,∃ fd,Fun K (nmOf r.name) r.name r.st f fd/\atN K r.name=some (some (.ref f)) then some (cg h) else none
theorem Vx {K:W.Frag}{r:Row}(h:∃ f,∃ fd,Fun K (nmOf r.name) r.name r.st f fd/\atN K r.name=some (some (.ref f))):faOf K r=some (cg h):=by unfold faOf;exact dif_pos h
noncomputable def gmOf (K:W.Frag) (rs:List Row) (cs:List (Str×List Nat)):Gm where
 K:=K
 fa:=fun i=>(rs[i]?).bind (faOf K)
 ca:=fun c=>(cs[c]?).bind fun p=>caOf K p.1
def AllR {α:Type}(Q:α->Prop):List α->Prop
 | []=>True
 | a::r=>Q a/\AllR Q r
theorem AllR.at {α:Type}{Q:α->Prop}:∀ {l:List α}{i:Nat}{a:α},AllR Q l->l[i]?=some a->Q a
 | [],_,_,_,h=>by simp at h
 | b::r,0,a,⟨h,_⟩,e=>by simp at e;subst e;exact h
 | b::r,i+1,a,⟨_,h⟩,e=>AllR.at (i:=i) h (by simpa using e)
theorem AllR.mem {α:Type}{Q:α->Prop}:∀ {l:List α}{a:α},AllR Q l->a∈l->Q a
 | b::r,a,⟨h,t⟩,e=>by
  rcases υ.mp e with rfl | q
  ·exact h
  ·exact AllR.mem t q
structure zc6 (K:W.Frag) (mg:Str->Option δ) (B:Tb) (rs:List Row):Prop where
 fns:B.fns=rs.map (·.name)
 pars:B.pars=rs.map (·.ps)
 rows:AllR (zK B) rs
 kws:AllR (KwOk rs) B.kws
 defs:AllR (fun r=>Wm K r.name r.st) rs
 gl:∀ x u,W.nsIn K ϑ x=some u->mg x=u
 bare:∀ x∈B.bare,W.nsIn K ϑ x=some none
 consts:∀ (n:Nat) (x:Str) (d:D),B.consts[n]?=some (x,d)->∃ u v,W.nsIn K ϑ x=some (some u)/\RelV v u/\∀ g,Has (gmOf K rs B.cls) g d v
 cls:∀ (c:Nat) (x:Str) (l:List Nat),B.cls[c]?=some (x,l)->∃ C,W.nsIn K ϑ x=some (some (.ref C))/\KCls (gmOf K rs B.cls) (B.cls.map (·.2)) c C
 obs:∀ o∈B.obs,∃ C,W.nsIn K ϑ o.name=some (some (.ref C))/\ObOk (gmOf K rs B.cls) o C
section
variable {P:Χ}{w:Ϛ}{K:W.Frag}{mg:Str->Option δ}{base:Heap}{B:Tb}{rs:List Row}
theorem zkY {F:Nat->Option Fn}{wh:Nat}(h:∀ f fn ps,F f=some fn->B.pars[f]?=some ps->fn.np=ps.length):∀ k ex,CfN B (zb F wh k ex)
 | 0,_=>fun _ _ _ _ _ _ q=>q.elim
 | k+1,_=>fun f ds V S ps hp q=>by obtain ⟨fn,e,hl,_⟩:=zX q;rw [hl,h f fn ps e hp]
theorem Qh {Γ:Gm}{H:Hp}{g:G}{fn:Fn}{N:List Str}{ds:List D}{vs:List V}(h:Hass Γ g ds vs) (hn:fn.nv=N.length):EnvO Γ H H g (entry fn ds) (L2.start N vs):=by
 have hl:=h.len;have key:∀ (i:Nat) (s:Slot),(entry fn ds)[i]?=some s->(∃ d,ds[i]?=some d/\s=.sh d)\/s=.no:=by
  intro i s e;unfold entry at e;by_cases hi:i < ds.length
  ·rw [ϕ (by simpa using hi),Ρ,ψ hi] at e;cases e;exact .inl ⟨ds[i],ψ hi,rfl⟩
  ·rw [Ϧ (by simpa using m8 hi),d8] at e;split at e
   ·cases e;exact .inr rfl
   ·cases e
 refine ⟨?_,fun i d e=>?_,fun i d e=>?_,fun i j d e a h1=>?_⟩
 ·unfold entry L2.start;simp [hl,hn]
 ·rcases key i _ e with ⟨d',e1,e2⟩ | e2
  ·cases e2;obtain ⟨v,q,hv⟩:=h.get e1;refine ⟨v,?_,hv⟩;unfold L2.start;have hi:=(Β.mp q).1;rw [ϕ (by simpa using hi),Ρ,q];rfl
  ·cases e2
 ·rcases key i _ e with ⟨d',e1,e2⟩ | e2 <;> cases e2
 ·rcases key i _ h1 with ⟨d',e1,e2⟩ | e2 <;> cases e2
theorem fn_e {wh k f:Nat}{r:Row}{fa:Addr}{fd:bT}(md:zc6 K mg B rs) (hr:rs[f]?=some r) (F:Fun K (nmOf r.name) r.name r.st fa fd) (ih:∀ (g:Nat) (x:Str),B.fns[g]?=some x->FnI (gmOf K rs B.cls) B (spN (gmOf K rs B.cls) (zb (wF rs) wh k)) k P w K mg base g x):
  FnOk P w K mg base (CX1 P w) (2*k+1+1) fa fd r.ps (spN (gmOf K rs B.cls) (zb (wF rs) wh (k+1)) f r.ps.length):=by
 have ro:=md.rows.at hr;have sc:=Qt ro.sc
 have hcf:∀ ex,CfN B (zb (wF rs) wh k ex):=zkY (fun f fn ps h1 h2=>by
  unfold wF at h1;rw [md.pars,Ρ] at h2;cases e:rs[f]? with
  | none=>rw [e] at h1;cases h1
  | some q=>
   rw [e] at h1 h2;cases h1;cases h2
   exact (md.rows.at e).np) k
 obtain ⟨oc,od,kV,doc,pm,an,cdv,ct,osl,rfl,lk,hcd⟩:=F.ex;refine ziG lk hcd sc (fun vs H Q E h=>h.1) fun A outer s H vs Q E hrm h=>?_
 obtain ⟨hl,g,ds,S,V,ex,wok,hh,hc,kk,kx⟩:=h;obtain ⟨fn,e1,_,hc⟩:=zX hc;have e2:wF rs f=some r.fn:=by unfold wF;rw [hr];rfl
 rw [e2] at e1;cases e1
 refine ⟨TCs (gmOf K rs B.cls) (zb (wF rs) wh k) ex wh H g r.fn.body,sCs (c:=⟨(zJ r.st).names,r.N,true⟩) ⟨⟨rfl,rfl,sc.kind,rfl,sc.nd,fun _ _=>rfl,rfl,hrm,fun x hx=>?_,ih,fun x hx=>?_,fun n x d e=>?_,fun f a e=>?_,fun c x l e=>?_,fun c C e=>?_,fun o ho=>?_⟩,rfl,mD.leaving,hcf,yp k,rfl,rfl,fun pJ σ H1 s1 g1 S1 c C h' ea args I st wo hex hca m=>L2.leave_new (X:=cxOf (CX1 P w) P w K mg base r.N r.name (zJ r.st) fa cdv A outer s H E) rfl rfl rfl I m (kx c (.ref ea) C H1 g1 S1 st wo hca hex),fun pJ σ H1 s1 g1 e s' I st hq=>L2.J3 (X:=cxOf (CX1 P w) P w K mg base r.N r.name (zJ r.st) fa cdv A outer s H E) rfl rfl rfl I hq fun C H' z=>by
  obtain ⟨c,C0,g2,S2,eC,hca,s2,w2,q⟩:=z;subst eC
  exact kx c e C0 H' g2 S2 (st.trans s2) w2 hca q⟩ r.fn.body (yl r.st) ro.ck,entry r.fn ds,S,_,g,hc,Step.refl H g,wok,Qh hh ro.nv,?_⟩
 ·rcases hx with hx | hx
  ·exact Z4 hx
  ·exact absurd rfl (sc.nofree _ (bK hx))
 ·exact md.gl x none (md.bare x hx)
 ·obtain ⟨u,v,e1,e2,e3⟩:=md.consts n x d e;exact ⟨u,v,md.gl x (some u) e1,e2,e3⟩
 ·obtain ⟨r,er,_⟩:=Ο.mp (show (rs[f]?).bind (faOf K)=some a from e);exact ⟨r.name,by rw [md.fns,Ρ,er];rfl⟩
 ·obtain ⟨C,e1,e2⟩:=md.cls c x l e;exact ⟨C,md.gl x _ e1,e2⟩
 ·obtain ⟨p,ep,_⟩:=Ο.mp (show (B.cls[c]?).bind (fun p=>caOf K p.1)=some C from e);exact ⟨p.1,p.2,ep⟩
 ·obtain ⟨C,e1,e2⟩:=md.obs o ho;exact ⟨C,md.gl _ _ e1,e2⟩
 ·exact ⟨fun ρ σ' H' g' S' st le w' env q=>kk (.non,.st) .non H' g' S' st w' rfl q,fun ρ σ' H' g' S' st le w' env q=>q.elim,fun ρ σ' H' g' S' st le w' env q=>q.elim,fun d fr v H' g' S' st le w' vo q=>kk (d,kd fr) v H' g' S' st w' (VN.of vo) q⟩
theorem fn_0 {f:Nat}{wh:Nat}{fa:Addr}{fd:bT}{ps:List Str}{Γ:Gm}{F:Nat->Option Fn}:FnOk P w K mg base (CX1 P w) 0 fa fd ps (spN Γ (zb F wh 0) f ps.length):=
 ⟨fun vs H Q E h=>h.1,fun A outer s H args us vs Q E hr he hb hv ⟨_,g,ds,S,V,_,_,_,hc,_⟩=>hc.elim⟩
theorem Yn:∀ {zs:List V}{ws:List δ}(i:Nat),Vals zs ws->RelV (zs.getD i .non) (ws.getD i .none)
 | _,_,_,.nil=>rfl
 | _,_,0,.cons h _=>h
 | _,_,i+1,.cons _ t=>by have:=Yn i t;simpa using this
theorem V6 {zs:List V}{ws:List δ}(h:Vals zs ws):∀ (perm:List Nat),Vals (perm.map fun i=>zs.getD i .non) (perm.map fun i=>ws.getD i .none)
 | []=>.nil
 | i::r=>.cons (Yn i h) (V6 h r)
theorem zdN {wh k:Nat}(md:zc6 K mg B rs) (h:∀ (f:Nat) (r:Row) (fa:Addr) (fd:bT),rs[f]?=some r->Fun K (nmOf r.name) r.name r.st fa fd->FnOk P w K mg base (CX1 P w) (2*k) fa fd r.ps (spN (gmOf K rs B.cls) (zb (wF rs) wh k) f r.ps.length)):
  ∀ (f:Nat) (x:Str),B.fns[f]?=some x->FnI (gmOf K rs B.cls) B (spN (gmOf K rs B.cls) (zb (wF rs) wh k)) k P w K mg base f x:=by
 intro f x hx;rw [md.fns,Ρ] at hx;cases hr:rs[f]? with
 | none=>rw [hr] at hx;cases hx
 | some r=>
  rw [hr] at hx;cases hx;have da:∃ f,∃ fd,Fun K (nmOf r.name) r.name r.st f fd/\atN K r.name=some (some (.ref f)):=(md.defs.at hr).ex;obtain ⟨fd,F,na⟩:=gY da;have ro:=md.rows.at hr;refine ⟨cg da,fd,r.ps,?_,fun hd=>md.gl _ _ (by rw [<- na];unfold atN;rw [hd];rfl),F.kp,F.binds ro.bd,?_,h f r _ fd hr F,fun ks perm h1 h2 h3 h4 h5=>?_⟩
  ·show (rs[f]?).bind (faOf K)=_
   rw [hr];exact Vx da
  ·rw [md.pars,Ρ,hr];rfl
  ·have hk:=md.kws.mem h5;obtain ⟨oc,od,kV,doc,pm,an,cdv,ct,osl,hfd,lk,hcd⟩:=F.ex;refine ⟨fun s us ws _ hl=>?_,fun {vs us zs ws} r1 r2=>?_⟩
   ·have hl:(if ws.length=ks.length then us++perm.map fun i=>ws.getD i .none else []).length=r.ps.length:=hl;show BindsTo s fd ⟨us,ks.zip ws⟩ (r.ps.zip (if ws.length=ks.length then us++perm.map fun i=>ws.getD i .none else []))
    by_cases hw:ws.length=ks.length
    ·rw [if_pos hw] at hl ⊢;have hu:us=[]:=by
      cases us with
      | nil=>rfl
      | cons _ _=>simp at hl;lia
     subst hu;rw [hfd];exact .of_eq (hk.2 r hr kV doc pm an cdv ct ws hw)
    ·rw [if_neg hw] at hl ⊢;have h0:r.ps=[]:=dZ.mp hl.symm;have hk0:ks=[]:=dZ.mp (by rw [h4,h0];rfl);exact absurd hk0 hk.1
   ·show Vals (if zs.length=ks.length then vs++perm.map fun i=>zs.getD i .non else []) (if ws.length=ks.length then us++perm.map fun i=>ws.getD i .none else [])
    rw [r2.length];split
    ·exact r1.append (V6 r2 perm)
    ·exact .nil
theorem zdY (wh:Nat) (md:zc6 K mg B rs):∀ (k f:Nat) (x:Str),B.fns[f]?=some x->FnI (gmOf K rs B.cls) B (spN (gmOf K rs B.cls) (zb (wF rs) wh k)) k P w K mg base f x
 | 0=>zdN md fun f r fa fd hr F=>fn_0
 | k+1=>zdN md fun f r fa fd hr F=>fn_e md hr F (zdY wh md k)
end
structure Txt (K:W.Frag) (B:Tb) (rs:List Row):Prop where
 defs:AllR (fun r=>Wm K r.name r.st) rs
 bare:AllR (fun x=>W.nsIn K ϑ x=some none) B.bare
 consts:∀ (n:Nat) (x:Str) (d:D),B.consts[n]?=some (x,d)->∃ u v,W.nsIn K ϑ x=some (some u)/\RelV v u/\∀ g,Has (gmOf K rs B.cls) g d v
 cls:∀ (c:Nat) (x:Str) (l:List Nat),B.cls[c]?=some (x,l)->∃ C,W.nsIn K ϑ x=some (some (.ref C))/\KCls (gmOf K rs B.cls) (B.cls.map (·.2)) c C
 obs:∀ o∈B.obs,∃ C,W.nsIn K ϑ o.name=some (some (.ref C))/\ObOk (gmOf K rs B.cls) o C
structure Tabs (B:Tb) (rs:List Row):Prop where
 fns:B.fns=rs.map (·.name)
 pars:B.pars=rs.map (·.ps)
 rows:AllR (zK B) rs
 kws:AllR (KwOk rs) B.kws
theorem zh0 {K:W.Frag}{B:Tb}{rs:List Row}{h:Heap}{mg:Str->Option δ}(t:Tabs B rs) (x:Txt K B rs) (X:K.In h) (N:h.Ns ϑ mg):zc6 K mg B rs where
 fns:=t.fns
 pars:=t.pars
 rows:=t.rows
 kws:=t.kws
 defs:=x.defs
 gl:=fun y u e=>by
  cases u with
  | none=>exact W.mg_none_of X N e
  | some v=>exact W.mg_of X N e
 bare:=fun y hy=>x.bare.mem hy
 consts:=x.consts
 cls:=x.cls
 obs:=x.obs
theorem zfV {K:W.Frag}{rs:List Row}{cs:List (Str×List Nat)}{x:Str}{i:Int}{t:Tok}(h:W.nsIn K ϑ x=some (some (.int i t))):∃ u v,W.nsIn K ϑ x=some (some u)/\RelV v u/\∀ g,Has (gmOf K rs cs) g (.int i) v:=⟨_,.int i,h,⟨t,rfl⟩,fun _=>rfl⟩
theorem zi4 {K:W.Frag}{rs:List Row}{cs:List (Str×List Nat)}{i:Nat}{r:Row}(hr:rs[i]?=some r) (d:Wm K r.name r.st) (hdt:dotted r.name=false):∃ u v,W.nsIn K ϑ r.name=some (some u)/\RelV v u/\∀ g,Has (gmOf K rs cs) g (.fn i) v:=by
 obtain ⟨fd,_,e⟩:=gY d.ex;have e:=(Wj hdt).symm.trans e;refine ⟨.ref (cg d.ex),.ref (cg d.ex),e,rfl,fun g=>⟨cg d.ex,?_,rfl⟩⟩;show (rs[i]?).bind (faOf K)=_
 rw [hr];exact Vx d.ex
theorem zfP {K:W.Frag}{rs:List Row}{cs:List (Str×List Nat)}{x i:Str}{t:Tok}(h:W.nsIn K ϑ x=some (some (.str i t))):∃ u v,W.nsIn K ϑ x=some (some u)/\RelV v u/\∀ g,Has (gmOf K rs cs) g (.str i) v:=⟨_,.str i,h,⟨t,rfl⟩,fun _=>rfl⟩
open PySem L2
mutual
theorem Ji:∀ (n:Nat) (d:D),okP n d=true->eqP d d=true
 | _,.non,_=>rfl
 | _,.bl b,_=>by cases b <;> rfl
 | _,.int i,_=>beq_self_eq_true i
 | _,.str x,_=>beq_self_eq_true x
 | 0,.tup _,h=>nobE h
 | n+1,.tup a,h=>jN n a h
 | 0,.lst _,h=>nobE h
 | n+1,.lst a,h=>jN n a h
 | 0,.dK _ _,h=>nobE h
 | n+1,.dK _ _,h=>nobE h
 | 0,.dT _ _,h=>nobE h
 | n+1,.dT _ _,h=>nobE h
 | 0,.ref _,h=>nobE h
 | n+1,.ref _,h=>nobE h
 | 0,.fn _,h=>nobE h
 | n+1,.fn _,h=>nobE h
 | 0,.scr _,h=>nobE h
 | n+1,.scr _,h=>nobE h
 | 0,.ktp _,h=>nobE h
 | n+1,.ktp _,h=>nobE h
 | 0,.kdc _,h=>nobE h
 | n+1,.kdc _,h=>nobE h
 | 0,.dF _ _,h=>nobE h
 | n+1,.dF _ _,h=>nobE h
 | 0,.ins _ _ _,h=>nobE h
 | n+1,.ins _ _ _,h=>nobE h
theorem jN:∀ (n:Nat) (l:List D),okPs n l=true->eqPs l l=true
 | _,[],_=>rfl
 | n,d::l,h=>by
  have h':(okP n d&&okPs n l)=true:=h;rw [ε] at h';show (eqP d d&&eqPs l l)=true
  rw [Ji n d h'.1,jN n l h'.2];rfl
end
theorem zdJ {n:Nat}{a:Int}(h0:0<=a) (h1:a < (n:Int)):idx n a=some a.toNat:=by
 show (if 0<=a then (if a < n then some a.toNat else none) else _)=_
 rw [if_pos h0,if_pos h1]
theorem YX {i j:Int}(h:0 < j):opD .Mod (.int i) (.int j)=some (.int (i % j),false):=by
 show (if decide (0 < j)=true then some (i % j) else none).map (fun k=>(D.int k,false))=_
 rw [if_pos (decide_eq_true h)];rfl
theorem zds {i j:Int}(h:zY i=true):opD .Mult (.int i) (.int j)=some (.int (i*j),false):=by
 show (if (zY i||zY j)=true then some (D.int (i*j),false) else none)=_
 rw [if_pos (by rw [h];rfl)]
theorem zaj {i j:Int}(h:zY j=true):opD .Mult (.int i) (.int j)=some (.int (i*j),false):=by
 show (if (zY i||zY j)=true then some (D.int (i*j),false) else none)=_
 rw [if_pos (by rw [h,Bool.or_true])]
theorem Uc {i:Int}(h0:0<=i) (h1:i < 4294967296):zY i=true:=by unfold zY;rw [decide_eq_true (by lia),decide_eq_true (by lia)];rfl
theorem fits_of {n:Nat}(h:n<=1000000):fits n=true:=decide_eq_true h
theorem qx {l:List D}{a:Int}{d:D}(h0:0<=a) (h:l[a.toNat]?=some d):subD (.lst l) (.int a)=some d:=by
 show ((idx l.length a).bind fun k=>l[k]?)=_
 have:=(Β.mp h).1;rw [zdJ h0 (by lia)];exact h
theorem Yo {l:List D}{a:Int}{d:D}(h0:0<=a) (h:l[a.toNat]?=some d):subD (.tup l) (.int a)=some d:=by
 show ((idx l.length a).bind fun k=>l[k]?)=_
 have:=(Β.mp h).1;rw [zdJ h0 (by lia)];exact h
theorem ints_get {ns:List Int}{a:Int}(h0:0<=a) (h1:a < (ns.length:Int)):∃ x,x∈ns/\subD (.lst (ns.map D.int)) (.int a)=some (.int x):=by
 have hl:a.toNat < ns.length:=by lia
 refine ⟨ns[a.toNat],cD hl,qx h0 ?_⟩;rw [Ρ,ψ hl];rfl
theorem jc (lo hi:Int):(zR lo hi).length=(hi - lo).toNat:=by unfold zR;rw [ζ,cY]
theorem vm (n:Nat):∀ (ns:List Int),okPs n (ns.map D.int)=true
 | []=>rfl
 | i::ns=>by
  show (okP n (.int i)&&okPs n (ns.map D.int))=true
  rw [vm n ns];cases n <;> rfl
theorem Uv {n:Nat}:∀ {l:List D},(∀ d∈l,okP n d=true)->okPs n l=true
 | [],_=>rfl
 | d::l,h=>by
  show (okP n d&&okPs n l)=true
  rw [h d (μ ..),Uv fun x hx=>h x (ν _ hx)];rfl
theorem Xl:∀ (ns:List Int),xX (ns.map D.int)=some ns
 | []=>rfl
 | i::ns=>by
  show (xX (ns.map D.int)).map (i::·)=_
  rw [Xl ns];rfl
theorem zkD {a b:D}(ha:okP 60 a=true) (hb:okP 60 b=true):cmpD .Eq a b=some (eqP a b):=by
 show (if (okP 60 a&&okP 60 b)=true then some (eqP a b) else none)=_
 rw [ha,hb];rfl
theorem zkk {a b:D}(ha:okP 60 a=true) (hb:okP 60 b=true):cmpD .NotEq a b=some (!eqP a b):=by
 have e:cmpD .NotEq a b=(if (okP 60 a&&okP 60 b)=true then some (eqP a b) else none).map (!·):=by
  cases a with
  | dK=>exact nobE ha
  | _=>rfl
 rw [e,ha,hb];rfl
theorem Kf {a:D}(ha:okP 60 a=true):cmpD .Eq a a=some true:=by rw [zkD ha ha,Ji 60 a ha]
theorem zga {a b:List D}(h:a.length+b.length<=1000000):opD .Add (.tup a) (.tup b)=some (.tup (a++b),false):=by
 show (if fits (a.length+b.length)=true then some (D.tup (a++b),false) else none)=_
 rw [if_pos (fits_of h)]
theorem Z9 {a b:List D}(h:a.length+b.length<=1000000):opD .Add (.lst a) (.lst b)=some (.lst (a++b),true):=by
 show (if fits (a.length+b.length)=true then some (D.lst (a++b),true) else none)=_
 rw [if_pos (fits_of h)]
theorem Jp {l:List D}{n:Nat}(h:n<=l.length):cutD l (some (n:Int)) none=l.drop n:=by unfold cutD;rw [HT.zbT,HT.zep,Nat.min_eq_left h,cL (by rw [dC];lia)]
section
variable {α:Type}{F:Nat->Option Fn}{cf:Cf}{cx:Xp->Cf}{ex:Xp}{w k f:Nat}{ds:List D}{V V':Po}{S:Store}{K:Ko}{ρ:List Slot}{x:Vl}{d:D}{b:Bool}{l:List D}{c:C}{cs:List C}
theorem zr {o:Option α}{Q:α->Prop}{a:α}(h:o=some a) (q:Q a):opt o Q:=by subst h;exact q
theorem zL {o:Option (List Slot)}{Q:List Slot->Prop}{a:List Slot}(h:o=some a) (q:Q a):optS o Q:=by subst h;exact q
theorem zA {o:Option (D×Bool)}{Q:Vl->Prop}(h:o=some (d,false)) (q:Q (d,.st)):opV o Q:=by subst h;exact q
theorem vQ {o:Option (D×Bool)}{Q:Vl->Prop}(h:o=some (d,true)) (q:Q (d,.fr)):opV o Q:=by subst h;exact q
theorem zF {T F:Prop}(h:b=true) (q:T):tst b T F:=by subst h;exact q
theorem wU {T F:Prop}(h:b=false) (q:F):tst b T F:=by subst h;exact q
theorem yC {T F:Prop}(t:b=true->T) (f:b=false->F):tst b T F:=by
 cases b with
 | true=>exact t rfl
 | false=>exact f rfl
theorem kp_s {Q:D->Prop}(h:x=(d,.st)) (q:Q d):keep x Q:=by subst h;exact q
theorem kp_f {Q:D->Prop}(h:x=(d,.fr)) (q:Q d):keep x Q:=by subst h;exact q
theorem bx_f {Q:D->Prop}(h:x=(d,.fr)) (q:Q d):boxd x Q:=by subst h;exact q
theorem rv_s {Q:O->Prop}(h:x=(d,.st)) (q:Q (.ret d false)):retV x Q:=by subst h;exact q
theorem rv_f {Q:O->Prop}(h:x=(d,.fr)) (q:Q (.ret d true)):retV x Q:=by subst h;exact q
theorem Kq {Q:Bool->Prop}(h:d=.bl b) (q:Q b):isB d Q:=by subst h;exact q
theorem zio {Q:Nat->Prop}{f:Nat}(h:d=.fn f) (q:Q f):isF d Q:=by subst h;exact q
theorem Xi {Q:Int->Prop}{i:Int}(h:d=.int i) (q:Q i):isZ d Q:=by subst h;exact q
theorem zjv {s:Option Slot}{P Q:D->Prop}(h:s=some (.sh d)) (q:P d):sel s P Q:=by subst h;exact q
theorem zjw {s:Option Slot}{P Q:D->Prop}(h:s=some (.ow d)) (q:Q d):sel s P Q:=by subst h;exact q
theorem zH {s:Option Slot}{Q:Vl->Prop}(h:s=some (.sh d)) (q:Q (d,.st)):rdV s Q:=by subst h;exact q
theorem zj3 {s:Option Slot}{Q:Vl->Prop}(h:s=some (.ow d)) (q:Q (d,.bo)):rdV s Q:=by subst h;exact q
theorem zhC {s:Option Slot}{Q:List D->Prop}(h:s=some (.ow (.lst l))) (q:Q l):owL s Q:=by subst h;exact q
theorem zhD {s:Option Slot}{Q:D->Prop}(h:s=some (.ow d)) (q:Q d):owD s Q:=by subst h;exact q
theorem zi5 {s:Option D}{Q:List D->Prop}(h:s=some (.lst l)) (q:Q l):isL s Q:=by subst h;exact q
theorem zin {n:Nat}{Q:Nat->Prop}(h:d=.ref n) (q:Q n):isR d Q:=by subst h;exact q
theorem yx (h:wpC cx ex w c ρ (nxt (fun ρ' S'=>wpCs cx ex w cs ρ' K S') K) S):wpCs cx ex w (c::cs) ρ K S:=h
theorem ul (h:K (.next ρ) S):wpCs cx ex w [] ρ K S:=h
theorem z6 {g:List Slot->Store->Prop}(h:g ρ S):nxt g K (.next ρ) S:=h
theorem zgv {g:List Slot->Store->Prop}(h:K (.ret d b) S):nxt g K (.ret d b) S:=h
theorem zgx {g:List Slot->Store->Prop}(h:K (.brk ρ) S):nxt g K (.brk ρ) S:=h
theorem zgw {g:List Slot->Store->Prop}(h:K (.cnt ρ) S):nxt g K (.cnt ρ) S:=h
theorem to_s (h:V (d,.st) S):told V (.ret d false) S:=h
theorem to_f (h:V (d,.fr) S):told V (.ret d true) S:=h
theorem K9 (h:V (.non,.st) S):told V (.next ρ) S:=h
theorem K7 {I:List Slot->Store->Prop}(h:I ρ S):trn K I (.next ρ) S:=h
theorem zgs {I:List Slot->Store->Prop}(h:I ρ S):trn K I (.cnt ρ) S:=h
theorem zgt {I:List Slot->Store->Prop}(h:K (.next ρ) S):trn K I (.brk ρ) S:=h
theorem zgr {I:List Slot->Store->Prop}(h:K (.ret d b) S):trn K I (.ret d b) S:=h
theorem wp_mono (h:zb F w k ex f ds V S) (q:∀ x S,V x S->V' x S):zb F w k ex f ds V' S:=(yp k).no f ds V V' S q h
theorem zx {fn:Fn}{bd:List C}(hf:F f=some fn) (hl:ds.length=fn.np) (hb:fn.body=bd) (h:wpCs (zb F w k) ex w bd (entry fn ds) (told V) S):zb F w (k+1) ex f ds V S:=by
 show opt (F f) _
 rw [hf];exact ⟨hl,by rw [hb];exact h⟩
theorem wp_walk {t:T}{A:List C}(I:List D->List Slot->Store->Prop)
  (step:∀ d l ρ S,I (d::l) ρ S->optS (yz ρ t (d,false)) fun ρ1=>wpCs (zb F w k) ex w A ρ1 (trn K (I l)) S)
  (fin:∀ ρ S,I [] ρ S->K (.next ρ) S):∀ (l:List D) (ρ:List Slot) (S:Store),I l ρ S->forW t (fun ρ=>wpCs (zb F w k) ex w A ρ) l ρ K S
 | [],ρ,S,h=>fin ρ S h
 | d::l,ρ,S,h=>zg (fun ρ1 q=>yc (yp k) A (fun _ _=>id) (uF (fun ρ S=>wp_walk I step fin l ρ S) fun _ _=>id) q) (step d l ρ S h)
theorem wK {e:E}{A:List C}(I:Nat->List Slot->Store->Prop)
  (step:∀ n ρ S,I n ρ S->wpE (xH F w k) ρ e (fun x S1=>isB x.1 fun b=>tst b (∃ m,n=m+1/\wpCs (zb F w k) ex w A ρ (trn K (I m)) S1) (K (.next ρ) S1)) S):
  ∀ (N n:Nat) (ρ:List Slot) (S:Store),n < N->I n ρ S->whlW (fun ρ=>wpX (xH F w k) ρ e) (fun ρ=>wpCs (zb F w k) ex w A ρ) N ρ K S
 | 0,n,ρ,S,hn,h=>absurd hn (Nat.not_lt_zero n)
 | N+1,n,ρ,S,hn,h=>za (zbi k) e (fun x S1=>yF fun b=>zu (fun ⟨m,e,q⟩=>yc (yp k) A (fun _ _=>id) (uF (fun ρ S=>wK I step N m ρ S (by lia)) fun _ _=>id) q) id) (step n ρ S h)
theorem zG {i:Nat}:wpE cf ρ (.var i) V S=(rdV ρ[i]? fun x=>V x S):=rfl
theorem yw {d:D}:wpE cf ρ (.con d) V S=(V (d,.st) S):=rfl
theorem zcL {n:Nat}{d:D}:wpE cf ρ (.glo n d) V S=(V (d,.st) S):=rfl
theorem zfM {op:bZ}{a:E}{b:E}:wpE cf ρ (.bin op a b) V S=(wpE cf ρ a (fun x S1=>wpE cf ρ b (fun y S2=>opV (opD op (zE S2 x.1) (zE S2 y.1)) fun x=>V x S2) S1) S):=rfl
theorem zkP {a:E}:wpE cf ρ (.neg a) V S=(wpE cf ρ a (fun x S1=>isZ x.1 fun i=>V (.int (-i),.st) S1) S):=rfl
theorem Xy {op:iT}{a:E}{b:E}:wpE cf ρ (.cmp op a b) V S=(wpE cf ρ a (fun x S1=>wpE cf ρ b (fun y S2=>opt (cmpD op (zE S2 x.1) (zE S2 y.1)) fun r=>V (.bl r,.st) S2) S1) S):=rfl
theorem ziQ {o1:iT}{o2:iT}{a:E}{b:E}{c:E}:wpE cf ρ (.chn o1 o2 a b c) V S=(wpE cf ρ a (fun x S1=>wpE cf ρ b (fun y S2=>opt (cmpD o1 (zE S2 x.1) (zE S2 y.1)) fun r=>tst r (wpE cf ρ c (fun z S3=>opt (cmpD o2 (zE S3 y.1) (zE S3 z.1)) fun r=>V (.bl r,.st) S3) S2) (V (.bl false,.st) S2)) S1) S):=rfl
theorem ziM {a:E}:wpE cf ρ (.not a) V S=(wpE cf ρ a (fun x S1=>isB x.1 fun b=>V (.bl (!b),.st) S1) S):=rfl
theorem za4 {a:E}{b:E}:wpE cf ρ (.and a b) V S=(wpE cf ρ a (fun x S1=>isB x.1 fun r=>tst r (wpE cf ρ b V S1) (V (.bl false,.st) S1)) S):=rfl
theorem e_or {a:E}{b:E}:wpE cf ρ (.or a b) V S=(wpE cf ρ a (fun x S1=>isB x.1 fun r=>tst r (V (.bl true,.st) S1) (wpE cf ρ b V S1)) S):=rfl
theorem zkQ {c:E}{a:E}{b:E}:wpE cf ρ (.ite c a b) V S=(wpE cf ρ c (fun x S1=>isB x.1 fun r=>tst r (wpE cf ρ a V S1) (wpE cf ρ b V S1)) S):=rfl
theorem zkO {es:List E}:wpE cf ρ (.tup es) V S=(wpEs cf ρ es (fun ds S1=>tst (fits ds.length) (V (.tup ds,.st) S1) False) S):=rfl
theorem ziO {es:List E}:wpE cf ρ (.lst es) V S=(wpEs cf ρ es (fun ds S1=>tst (fits ds.length) (V (.lst ds,.fr) S1) False) S):=rfl
theorem zkS {tk:Bool}{ks:List Key}{es:List E}:wpE cf ρ (.dic tk ks es) V S=(wpEs cf ρ es (fun ds S1=>tst (zcP tk ks ds) (V (dicV tk ks ds,.fr) S1) False) S):=rfl
theorem Xx {a:E}{i:E}:wpE cf ρ (.sub a i) V S=(wpE cf ρ a (fun x S1=>wpE cf ρ i (fun y S2=>opt (subD (zE S2 x.1) y.1) fun d=>V (d,.st) S2) S1) S):=rfl
theorem ziL {a:E}{lo:Option E}{hi:Option E}:wpE cf ρ (.slc a lo hi) V S=(wpE cf ρ a (fun x S1=>wpO cf ρ lo (fun l S2=>wpO cf ρ hi (fun h S3=>opV (slcD (zE S3 x.1) l h) fun x=>V x S3) S2) S1) S):=rfl
theorem e_bi {b:BI}{e:E}:wpE cf ρ (.bi b [e]) V S=(wpE cf ρ e (fun x S1=>opV (biD b [zE S1 x.1]) fun x=>V x S1) S):=rfl
theorem zkU {b:BI}{e e':E}:wpE cf ρ (.bi b [e,e']) V S=(wpEs cf ρ [e,e'] (fun ds S1=>opV (biD b (ds.map (zE S1))) fun x=>V x S1) S):=rfl
theorem Kh {m:MT}{o:E}{es:List E}:wpE cf ρ (.mth m o es) V S=(wpE cf ρ o (fun x S1=>tst (mthK m (zE S1 x.1)) (wpEs cf ρ es (fun ds S2=>opV (mthD m (zE S2 x.1) ds) fun x=>V x S2) S1) False) S):=rfl
theorem xF {f:Nat}{es:List E}:wpE cf ρ (.call f es) V S=(wpEs cf ρ es (fun ds S1=>cf f ds V S1) S):=rfl
theorem zfL {f:Nat}{perm:List Nat}{es:List E}:wpE cf ρ (.callk f perm es) V S=(wpEs cf ρ es (fun ds S1=>opt (perm.mapM fun i=>ds[i]?) fun ds=>cf f ds V S1) S):=rfl
theorem zkT {e:E}:wpE cf ρ (.box e) V S=(wpE cf ρ e (fun x S1=>boxd x fun d=>V (.ref S1.length,.st) (S1++[d])) S):=rfl
theorem zfK {i:Nat}{es:List E}:wpE cf ρ (.callv i es) V S=(rdV ρ[i]? fun x=>isF x.1 fun f=>wpEs cf ρ es (fun ds S1=>cf f ds V S1) S):=rfl
theorem Kg {e:E}:wpE cf ρ (.one e) V S=(wpE cf ρ e V S):=rfl
theorem zkR {a b:E}:wpE cf ρ (.dk1 a b) V S=(wpE cf ρ a (fun x S1=>keep x fun d=>wpE cf ρ b (fun y S2=>keep y fun e=>opt (dk1D [d,e]) fun r=>V (r,.fr) S2) S1) S):=rfl
theorem ziP {e:E}:wpE cf ρ (.flip e) V S=(wpE cf ρ e (fun x S1=>opV (ziH (zE S1 x.1)) fun x=>V x S1) S):=rfl
theorem wB {t:T}{js:List Nat}{it elt:E}{ifs:List E}(h:wpI cf ρ it (fun its S1=>vO (zfX cf ρ t js ifs elt) its [] (fun ds S2=>V (.lst ds,.fr) S2) S1) S):wpE cf ρ (.comp t js it ifs elt) V S:=h
end
theorem eqi {a b:Int}:eqP (.int a) (.int b)=(a==b):=rfl
theorem eqs {a b:Str}:eqP (.str a) (.str b)=(a==b):=rfl
theorem eqb {a b:Bool}:eqP (.bl a) (.bl b)=(a==b):=rfl
theorem eqn:eqP .non .non=true:=rfl
theorem eqt {a b:List D}:eqP (.tup a) (.tup b)=eqPs a b:=rfl
theorem eql {a b:List D}:eqP (.lst a) (.lst b)=eqPs a b:=rfl
theorem eqz:eqPs [] []=true:=rfl
theorem eqc {a b:D}{l m:List D}:eqPs (a::l) (b::m)=(eqP a b&&eqPs l m):=rfl
def ent (ks:List (List Key)) (vs:List D) (k:List Key) (v:D):Prop:=∃ i:Nat,ks[i]?=some k/\vs[i]?=some v
noncomputable def kp (p:List Int):List Key:=p.map dN
theorem zau:∀ (p:List Int),uA (p.map D.int)=some (kp p)
  | []=>rfl
  | i::p=>by
    show (match keyD (D.int i),uA (p.map D.int) with
      | some k,some ks=>some (k::ks)
      | _,_=>none)=_
    rw [zau p];rfl
theorem zal {x:List Key}{y:D}:∀ {ks:List (List Key)}{vs:List D}{k:List Key}{v:D},ks.length=vs.length->ent ks (mapK ks vs x y) k v->(k=x/\v=y)\/(k≠x/\ent ks vs k v)
 | [],[],k,v,_,⟨i,h,_⟩=>by simp at h
 | k'::ks,v'::vs,k,v,hl,⟨0,h1,h2⟩=>by
  have h2:some (if k'=x then y else v')=some v:=h2;simp at h1 h2;subst h1;by_cases hx:k'=x
  ·rw [if_pos hx] at h2;exact .inl ⟨hx,h2.symm⟩
  ·rw [if_neg hx] at h2;exact .inr ⟨hx,0,rfl,by simp [h2]⟩
 | k'::ks,v'::vs,k,v,hl,⟨i+1,h1,h2⟩=>by
  rcases zal (ks:=ks) (vs:=vs) (by simpa using hl) ⟨i,by simpa using h1,by simpa [mapK] using h2⟩ with q | ⟨q,j,e1,e2⟩
  ·exact .inl q
  ·exact .inr ⟨q,j+1,by simpa using e1,by simpa using e2⟩
theorem map_len {x:List Key}{y:D}:∀ {ks:List (List Key)}{vs:List D},(mapK ks vs x y).length=vs.length
 | [],vs=>rfl
 | _::_,[]=>rfl
 | k::ks,v::vs=>by
  show ((if k=x then y else v)::mapK ks vs x y).length=_
  simp [map_len]
theorem zeD {ks:List (List Key)}{vs:List D}{x k:List Key}{y v:D}(hl:ks.length=vs.length) (h:ent (zM ks vs x y).1 (zM ks vs x y).2 k v):(k=x/\v=y)\/(k≠x/\ent ks vs k v):=by
 unfold zM at h;by_cases hx:hasK ks x=true
 ·rw [if_pos hx] at h;exact zal hl h
 ·rw [if_neg hx] at h;obtain ⟨i,h1,h2⟩:=h;have g1:(ks++[x])[i]?=some k:=h1;have g2:(vs++[y])[i]?=some v:=h2;clear h1 h2;by_cases hi:i < ks.length
  ·rw [ϕ hi] at g1;rw [ϕ (by lia)] at g2;refine .inr ⟨?_,i,g1,g2⟩;rintro rfl;apply hx;unfold hasK;rw [bz];exact ⟨k,ϣ g1,by simp⟩
  ·have e1:i=ks.length:=by have:=(Β.mp g1).1;simp at this;lia
   rw [e1] at g1 g2;rw [hl] at g2;simp at g1 g2;exact .inl ⟨g1.symm,g2.symm⟩
theorem zeC {ks:List (List Key)}{vs:List D}{x:List Key}{y:D}(hl:ks.length=vs.length):(zM ks vs x y).1.length=(zM ks vs x y).2.length/\(zM ks vs x y).1.length<=ks.length+1:=by
 unfold zM;split
 ·exact ⟨by rw [map_len];exact hl,by simp⟩
 ·simp [hl]
structure Tbl (Q:List Key->D->Prop) (ks:List (List Key)) (vs:List D):Prop where
 len:ks.length=vs.length
 all:∀ k v,ent ks vs k v->Q k v
theorem Tbl.put {Q:List Key->D->Prop}{ks:List (List Key)}{vs:List D}{x:List Key}{y:D}(t:Tbl Q ks vs) (h:Q x y):Tbl Q (zM ks vs x y).1 (zM ks vs x y).2:=by
 refine ⟨(zeC t.len).1,fun k v e=>?_⟩;rcases zeD t.len e with ⟨rfl,rfl⟩ | ⟨_,e⟩
 ·exact h
 ·exact t.all k v e
theorem zhk {ks:List (List Key)}{vs:List D}{p:List Int}{v:D}{t:List D}(e:t=p.map D.int) (h:ks.length+1<=1000000):putD (.dT ks vs) (.tup t) v=some (.dT (zM ks vs (kp p) v).1 (zM ks vs (kp p) v).2):=by
 subst e;show (uA (p.map D.int)).bind _=_
 rw [zau];show (if fits (ks.length+1)=true then _ else _)=_
 rw [if_pos (fits_of h)]
theorem zeB {ks:List Key}{vs:List D}{s:Str}{v:D}(h:hasK ks (.inr s)=false) (hl:ks.length+1<=1000000):putD (.dK ks vs) (.str s) v=some (.dK (ks++[.inr s]) (vs++[v])):=by
 show (if fits (ks.length+1)=true then some (D.dK (zM ks vs (gK s) v).1 (zM ks vs (gK s) v).2) else none)=_
 rw [if_pos (fits_of hl)];unfold zM;rw [h];rfl
theorem zfO (ns:List Int) (lo hi:Option Int):∃ ms:List Int,cutD (ns.map D.int) lo hi=ms.map D.int/\ms.length<=ns.length:=by unfold cutD;rw [<- List.map_drop,<- List.map_take];refine ⟨_,rfl,?_⟩;rw [cC,dC];lia
theorem Qm {x k:Int}(h0:0 < k) (h1:k<=4294967296):zY (x % k)=true:=Uc (b8 _ (by lia)) (by have:=bC x h0;lia)
theorem uJ {lo hi:Int}(h:lo < hi):zR lo hi=.int lo::zR (lo+1) hi:=by
 unfold zR;obtain ⟨m,hm⟩:∃ m,(hi - lo).toNat=m+1:=⟨(hi - lo).toNat - 1,by lia⟩
 have e:(hi - (lo+1)).toNat=m:=by lia
 rw [hm,e,pK,Κ,Ϭ]
 congr 1
 ·simp
 ·refine lC fun k _=>?_
  simp;lia
theorem WQ {lo hi:Int}(h:hi<=lo):zR lo hi=[]:=by unfold zR;rw [show (hi - lo).toNat=0 by lia];rfl
theorem om1 {a b K:Nat}(h:b<=K) (e:Nat.ble a b=true):a<=K:=Ϩ (iR e) h
theorem om2 {a b K:Nat}(h:b<=K+1) (e:Nat.ble (a+1) b=true):a<=K:=Nat.le_of_succ_le_succ (Ϩ (iR e) h)
theorem om3 {b K:Nat}(h:b<=K) (e:Nat.ble 1 b=true):K=K - 1+1:=(Nat.sub_add_cancel (Ϩ (iR e) h)).symm
theorem frIn {h:Heap}:∀ (l:List Addr) (a:Addr) (o:Obj),(l.filterMap fun a=>(h.get? a).map fun o=>(a,o)).lookup a=some o->h.get? a=some o
 | [],a,o,e=>by cases e
 | b::l,a,o,e=>by
  rw [cA] at e;cases q:h.get? b with
  | none=>rw [q] at e;exact frIn l a o e
  | some x=>
   rw [q] at e;dsimp only [g8] at e;rw [ϯ] at e;cases hb:a==b with
   | true=>
    rw [hb] at e;cases eq_of_beq hb;exact q.trans e
   | false=>
    rw [hb] at e;exact frIn l a o e
set_option tactic.hygienic true in
theorem zcQ {K:W.Frag}{x:Str}{st:Stmt}(e:zaZ K x=some (W.fnOf (nmOf x) x (yJ st) (yl st) (zJ st) .none .none .none .none none .none .none,true)):Wm K x st:=by
 unfold zaZ at e;split at e
 ·rename_i f hf
  split at e
  ·rename_i oc od fd osl hl
   obtain ⟨e1,e2⟩:=iH (ϐ e);obtain ⟨c,k⟩:=ϱ.mp e2;generalize hnn:nmOf x=nn at e1;cases fd;cases e1;dsimp only at hnn;subst hnn;exact ziY hf hl c k
  ·cases e
 ·cases e
set_option tactic.hygienic true in
theorem zd2 {K:W.Frag}{a:Addr}{its:Array δ}(h:zgq K a=some its):∃ o n,K.lookup a=some o/\o.cls=.type "tuple"/\o.data=.seq its n/\its.size<=sizeLine:=by
 obtain ⟨o,e1,e2⟩:=Ο.mp h;split at e2
 ·rename_i t js n c1 c2
  split at e2
  ·rename_i c
   cases e2;obtain ⟨c3,c4⟩:=ϱ.mp c;exact ⟨o,n,e1,by rw [c1,eq_of_beq c3],c2,Ϩ (of_decide_eq_true c4) (by rw [ϵ];decide)⟩
  ·cases e2
 ·cases e2
theorem Vv:∀ (ds:List D) (vs:List δ),qK ds vs=true->∃ xs:List V,Vals xs vs/\∀ (Γ:Gm) (g:G),Hass Γ g ds xs
 | [],[],_=>⟨[],.nil,fun _ _=>rfl⟩
 | .str x::ds,.str y t::vs,h=>by obtain ⟨h1,h2⟩:=ϱ.mp (show (x==y&&qK ds vs)=true from h);obtain ⟨xs,v,k⟩:=Vv ds vs h2;exact ⟨.str x::xs,.cons ⟨t,by rw [eq_of_beq h1]⟩ v,fun Γ g=>⟨_,_,rfl,rfl,k Γ g⟩⟩
 | .int x::ds,.int y t::vs,h=>by obtain ⟨h1,h2⟩:=ϱ.mp (show (x==y&&qK ds vs)=true from h);obtain ⟨xs,v,k⟩:=Vv ds vs h2;exact ⟨.int x::xs,.cons ⟨t,by rw [eq_of_beq h1]⟩ v,fun Γ g=>⟨_,_,rfl,rfl,k Γ g⟩⟩
set_option tactic.hygienic true in
theorem ziU {K:W.Frag}{a:Addr}{ps:List (Str×Int)}(h:ziV K a ps=true):KDic K a ps:=by
 obtain ⟨h1,h2⟩:=ϱ.mp h;refine ⟨?_,fun h k=>W.kt_text_in k h2⟩;split at h1
 ·rename_i o e
  obtain ⟨h3,h4⟩:=ϱ.mp h1;split at h3
  ·rename_i t c
   exact ⟨o,e,by rw [c,eq_of_beq h3],Option.isNone_iff_eq_none.mp h4⟩
  ·cases h3
 ·cases h1
set_option tactic.hygienic true in
theorem zi3 {K:W.Frag}{rs:List Row}{cs:List (Str×List Nat)}{c:Nat}{p:Str×List Nat}(hp:cs[c]?=some p) (h:zcT K cs p=true):∃ C,W.nsIn K ϑ p.1=some (some (.ref C))/\KCls (gmOf K rs cs) (cs.map (·.2)) c C:=by
 unfold zcT at h;cases e:caOf K p.1 with
 | none=>rw [e] at h;cases h
 | some C=>
  rw [e] at h;simp only [ε,beq_iff_eq,ϒ] at h;obtain ⟨⟨⟨⟨⟨⟨⟨⟨h1,h2⟩,h3⟩,h4⟩,h5⟩,h6⟩,h7⟩,h8⟩,h9⟩:=h;have hs:∀ k,subT (cs.map (·.2)) c k=p.2.contains k:=fun k=>by unfold subT;rw [Ρ,hp];rfl
  have hq:∀ k Ck,(gmOf K rs cs).ca k=some Ck->W.kitOne K (.ref C) (.ref Ck)=some (p.2.contains k)/\W.exmOne K (.ref C) (.ref Ck)=some (p.2.contains k):=fun k Ck hk=>by obtain ⟨q,e1,e2⟩:=Ο.mp (show (cs[k]?).bind (fun p=>caOf K p.1)=some Ck from hk);have:=h9 k (aY.mpr (Β.mp e1).1);rw [e1] at this;dsimp only at this;rw [e2] at this;simp only [ε,beq_iff_eq] at this;exact this
  refine ⟨C,?_,⟨?_,h1,⟨h2,h3,h4,h5,h6,h7⟩,fun k Ck hk=>by rw [hs];exact (hq k Ck hk).1,h8,fun k Ck hk=>by rw [hs];exact (hq k Ck hk).2⟩⟩
  ·unfold caOf at e;split at e
   ·rename_i z;cases e;exact z
   ·cases e
  ·show (cs[c]?).bind (fun p=>caOf K p.1)=some C
   rw [hp];exact e
set_option tactic.hygienic true in
theorem zkj {K:W.Frag}{rs:List Row}{cs:List (Str×List Nat)}{o:Ob}(hd:AllR (fun r=>Wm K r.name r.st) rs) (h:obOk K rs o=true):∃ C,W.nsIn K ϑ o.name=some (some (.ref C))/\ObOk (gmOf K rs cs) o C:=by
 unfold obOk at h;cases e:caOf K o.name with
 | none=>rw [e] at h;cases h
 | some C=>
  rw [e] at h;simp only [ε,beq_iff_eq,ϒ] at h;obtain ⟨⟨⟨⟨⟨⟨h1,h2⟩,h3⟩,h4⟩,h5⟩,h6⟩,h7⟩:=h;have key:∀ (m:Str) (i:Nat),(m,i)∈o.meths->∃ a,(gmOf K rs cs).fa i=some a/\L2.Meth K C m a:=fun m i hm=>by
   have:=h7 (m,i) hm;dsimp only at this;cases er:rs[i]? with
   | none=>rw [er] at this;cases this
   | some r=>
    rw [er] at this;dsimp only at this;have da:=(hd.at er).ex;obtain ⟨fd,F,na⟩:=gY da;rw [na] at this;simp only [ε,beq_iff_eq] at this;refine ⟨cg da,?_,⟨this.1.1,this.1.2,this.2⟩⟩;show (rs[i]?).bind (faOf K)=_
    rw [er];exact Vx da
  refine ⟨C,?_,⟨e,⟨h1,h2,h3,h4⟩,h5,key,fun i hi=>?_⟩⟩
  ·unfold caOf at e;split at e
   ·rename_i z;cases e;exact z
   ·cases e
  ·obtain ⟨a,e1,mt⟩:=key "__init__" i hi;have hy:(o.meths.any fun q=>q.1==("__init__":Str))=true:=bz.mpr ⟨_,hi,by simp⟩;rw [hy] at h6;have h6:(W.makesIn K C&&W.keepIn K (.ref C))=true:=by simpa using h6
   rw [ε] at h6;exact ⟨a,e1,⟨h6.1,mt.at_,mt.fn,h6.2⟩⟩
theorem xW {α β:Type}{f g:α->β}{Q:α->Prop}(h:∀ a,f a=g a->Q a):∀ {l:List α},l.map f=l.map g->AllR Q l
 | [],_=>trivial
 | a::l,e=>by obtain ⟨e1,e2⟩:=Ψ e;exact ⟨h a e1,xW h e2⟩
set_option tactic.hygienic true in
theorem zi2 {K:W.Frag}{rs:List Row}{cs:List (Str×List Nat)}{x:Str}{d:D}(hd:AllR (fun r=>Wm K r.name r.st) rs) (e:VD K rs x d=true):∃ u v,W.nsIn K ϑ x=some (some u)/\RelV v u/\∀ g,Has (gmOf K rs cs) g d v:=by
 cases d with
 | int i=>
  unfold VD at e;dsimp only at e;split at e
  ·rename_i j t q
   cases eq_of_beq e;exact zfV q
  ·cases e
 | str y=>
  unfold VD at e;dsimp only at e;split at e
  ·rename_i j t q
   cases eq_of_beq e;exact zfP q
  ·cases e
 | fn i=>
  unfold VD at e;dsimp only at e;split at e
  ·rename_i r q
   rw [ε] at e;cases eq_of_beq e.1;exact zi4 q (hd.at q) (by simpa using e.2)
  ·cases e
 | ktp ds=>
  unfold VD at e;dsimp only at e;split at e
  ·rename_i a q
   split at e
   ·rename_i its z
    obtain ⟨o,n,z1,z2,z3,z4⟩:=zd2 z;obtain ⟨xs,v,k⟩:=Vv _ _ e;exact ⟨.ref a,.ref a,q,rfl,fun g=>⟨a,xs,rfl,⟨o,its,n,z1,z2,z3,z4,v⟩,k _ g⟩⟩
   ·cases e
  ·cases e
 | kdc ps=>
  unfold VD at e;dsimp only at e;split at e
  ·rename_i a q
   exact ⟨.ref a,.ref a,q,rfl,fun g=>⟨a,rfl,ziU e⟩⟩
  ·cases e
 | _=>cases e
theorem zgn {K:W.Frag}{B:Tb}{rs:List Row}(e:zbS K B rs=zbC B rs):Txt K B rs:=by obtain ⟨e1,e2⟩:=iH e;obtain ⟨e2,e3⟩:=iH e2;obtain ⟨e3,e4⟩:=iH e3;obtain ⟨e4,e5⟩:=iH e4;have ho:AllR (fun o=>obOk K rs o=true) B.obs:=xW (fun p q=>q) e5;have hk:AllR (fun p=>zcT K B.cls p=true) B.cls:=xW (fun p q=>q) e4;have hd:AllR (fun r=>Wm K r.name r.st) rs:=xW (fun r q=>zcQ q) e1;have hc:AllR (fun p:Str×D=>∃ u v,W.nsIn K ϑ p.1=some (some u)/\RelV v u/\∀ g,Has (gmOf K rs B.cls) g p.2 v) B.consts:=xW (fun p q=>zi2 hd q) e3;exact ⟨hd,xW (fun x q=>q) e2,fun n x d q=>hc.at q,fun c x l q=>zi3 q (hk.at q),fun o hm=>zkj hd (ho.mem hm)⟩
abbrev zgd (B:Tb) (rs:List Row) (h:Heap):Prop:=∃ K:W.Frag,K.In h/\Txt K B rs
theorem zgo {B:Tb}{rs:List Row}{n:Nat}(w:Ϛ) (s:ξ) (e:zbS (frOf s.heap n) B rs=zbC B rs):zgd B rs s.heap:=⟨frOf s.heap n,fun a o q=>frIn _ a o q,zgn e⟩
theorem zjf {l:W.OpenLaw}{q:Χ}{loose:List Str}{XP:(Str->Option δ)->Heap->Prop}{d:DefRec}{B:Tb}{rs:List Row}{f:Nat}{r:Row}{y:Str}{wh:Nat}(hn:l.most=some 63) (hdf:d.params.defaults=[])
  (hr:rs[f]?=some r) (hd:d.name=r.name) (hdt:dotted r.name=false) (hps:r.ps=[y]) (t:Tabs B rs)
  (run:∀ ns:List Int,ns.length<=63->xH (wF rs) wh 60 f [.scr ns] (fun x _=>x.1=.bl true) []):W.WalkO q loose XP (fun _ h=>zgd B rs h) l.row.toRowW d [] (fun f vs=>PySem.call f vs):=by
 refine Att.VH hn hdf fun w sy s₁ mg mb fa o pm cd doc a vs ns G Y ho hd' hcd hmg hobj hints hlen hg=>?_
 obtain ⟨K,KX,tx⟩:=Y;obtain ⟨fa',fd,F,na⟩:=(tx.defs.at hr).ex;rw [hd] at hmg;have na:=(Wj hdt).symm.trans na;have e:=hmg.symm.trans (W.mg_of KX G.T.g na);cases e;have ro:=t.rows.at hr;refine zcw (CX:=CX1 l.prog w) (k:=120) (x:=y) (fd:=fd) (sp:=spN (gmOf K rs B.cls) (zb (wF rs) wh 60) f 1) KX G.T.g G.T.b G.T.builtins G.T.nolimit hg hobj hints (Ϩ hlen (by decide)) ⟨rfl,rfl,by decide,by decide⟩ (fun base KB NB=>?_) (fun s v=>?_) (fun H hO hS=>?_) fun H e s' ⟨_,_,_,_,_,_,_,_,_,_,_,_,z⟩=>z
 ·have md:=zh0 t tx KX G.T.g;have:=fn_e (P:=l.prog) (w:=w) (base:=base) (wh:=wh) (k:=59) md hr F (zdY wh md 59);rw [hps] at this;exact this
 ·obtain ⟨oc,od,kV,doc,pm,an,cdv,ct,osl,rfl,lk,hcd⟩:=F.ex;have hb:=ro.bd kV doc pm an cdv ct [v] (by rw [hps];rfl);rw [hps] at hb;exact .of_eq hb
 ·refine ⟨rfl,⟨H,[]⟩,[.scr ns],[],_,noX,⟨Same.refl H,rfl,List.nodup_nil,(fun k c b h1 _ _=>by cases h1),(fun k c b h1 _=>by cases h1)⟩,⟨.ref a,[],rfl,⟨a,rfl,hS⟩,rfl⟩,run ns hlen,fun x v H' g' S' _ _ vx q=>?_,fun _ _ _ _ _ _ _ _ _ z=>z.elim⟩;obtain ⟨d,k⟩:=x;cases (show d=.bl true from q);exact vx.sc fun _ z=>z.elim
theorem ziz {l:W.OpenLaw}{q:Χ}{loose:List Str}{d:DefRec}{B:Tb}{rs:List Row}{f:Nat}{r:Row}{y:Str}{wh:Nat}(N n:Nat) (ok:l.wellSaid=true)
  (left:W.LeftO l.prog q loose (fun s=>W.xlAt q [] s&&W.recOk [] s) (fun s=>zbS (frOf s.heap n) B rs) (fun _=>zbC B rs) N)
  (hdef:W.defOf q l.name=some (d,[])) (hp:l.prog.theDef l.name=some (d.params,d.body,d.scope)) (hk:W.kwWritten? d.params.kwonlyargs d.params.kw_defaults=some [])
  (okk:(W.chainsOk q&&W.opensWell l.prog&&(W.frees l.row.toRowW&&l.row.within.isEmpty))=true) (hb:l.prog.bare) (hw:l.row.toRowW.promised)
  (hn:l.most=some 63) (hdf:d.params.defaults=[]) (hr:rs[f]?=some r) (hd:d.name=r.name) (hdt:dotted r.name=false) (hps:r.ps=[y]) (t:Tabs B rs)
  (run:∀ ns:List Int,ns.length<=63->xH (wF rs) wh 60 f [.scr ns] (fun x _=>x.1=.bl true) []):l.Holds:=
 W.holds_law ok fun said=>W.holds_open (r:=l.row) (q:=q) (loose:=loose) (XP:=W.XL q []) (YP:=fun _ h=>zgd B rs h) (N:=N) left (fun w s e=>zgo w s e) (fun w h h' Y k=>Y.elim fun K z=>⟨K,z.1.keeps k,z.2⟩)
  (fun s e=>W.xl_of s (ϱ.mp e).1) W.XL.keeps hdef hp hk (fun s e=>W.recFacts_of (ϱ.mp e).2) (Bool.or_true _) said okk hb hw (zjf hn hdf hr hd hdt hps t run)
end EV
namespace Q75
open PySem PySem.Spec PyProof.Rows L2 EV
local macro_rules | `(⋯) => `(⟨by decide +kernel, by decide +kernel, rfl, rfl, fun _ _ _ _ _ _ us hl => by first | (obtain ⟨a0, e⟩ := ln1 hl; subst e; rfl) | (obtain ⟨a0, a1, e⟩ := ln2 hl; subst e; rfl) | (obtain ⟨a0, a1, a2, e⟩ := ln3 hl; subst e; rfl) | (obtain ⟨a0, a1, a2, a3, e⟩ := ln4 hl; subst e; rfl)⟩)
theorem J8:zK B qi:=⋯
theorem Vj:zK B jj:=⋯
theorem zaz:zK B YB:=⋯
theorem ZK:zK B wY:=⋯
theorem zfo:zK B QJ:=⋯
theorem zaA:zK B YC:=⋯
theorem kJ:zK B wu:=⋯
theorem Vk:zK B jk:=⋯
theorem Vh:zK B jh:=⋯
theorem J9:zK B qj:=⋯
theorem Y6:zK B v4:=⋯
theorem Vg:zK B jg:=⋯
theorem zcx:zK B Um:=⋯
theorem J7:zK B qg:=⋯
theorem Y8:zK B v6:=⋯
theorem Y7:zK B v5:=⋯
theorem Vf:zK B jf:=⋯
theorem J6:zK B qe:=⋯
theorem Vd:zK B jd:=⋯
theorem ZJ:zK B wX:=⋯
theorem Ve:zK B je:=⋯
theorem J5:zK B qd:=⋯
theorem Vi:zK B ji:=⋯
theorem zay:zK B Yz:=⋯
theorem Xc:zK B ud:=⋯
theorem Vq:zK B jr:=⋯
theorem ZL:zK B wZ:=⋯
theorem Vo:zK B jo:=⋯
theorem Xa:zK B v8:=⋯
theorem Ka:zK B ql:=⋯
theorem Y9:zK B v7:=⋯
theorem Xd:zK B ue:=⋯
theorem Vp:zK B jq:=⋯
theorem uB:zK B yR:=⋯
theorem jD:zK B xn:=⋯
theorem Xb:zK B uc:=⋯
theorem Vm:zK B jm:=⋯
theorem Vn:zK B jn:=⋯
theorem zkt:zK B zew:=⋯
theorem uD:zK B yU:=⋯
theorem uC:zK B yS:=⋯
theorem ZP:zK B vg:=⋯
theorem ZM:zK B vf:=⋯
theorem zes:AllR (zK B) rs:=⟨J8,Vj,zaz,ZK,zfo,zaA,kJ,Vk,Vh,J9,Y6,Vg,zcx,J7,Y8,Y7,Vf,J6,Vd,ZJ,Ve,J5,Vi,zay,Xc,Vq,ZL,Vo,Xa,Ka,Y9,Xd,Vp,uB,jD,Xb,Vm,Vn,zkt,uD,uC,ZP,ZM,ϴ⟩
theorem zh8:AllR (KwOk rs) B.kws:=⟨⟨by decide,fun r hr=>by
 cases hr
 exact fun _ _ _ _ _ _ us hl=>by obtain ⟨a0,e⟩:=ln1 hl;subst e;rfl⟩,⟨by decide,fun r hr=>by
 cases hr
 exact fun _ _ _ _ _ _ us hl=>by obtain ⟨a0,e⟩:=ln1 hl;subst e;rfl⟩,ϴ⟩
theorem tabs:Tabs B rs:=⟨rfl,rfl,zes,zh8⟩
noncomputable def wh:Nat:=500
noncomputable def F:=wF rs
section
variable {k:Nat}{x0 x1 x2 x3 x4 x5 x6:D}{S:Store}{V:Po}{ex:Xp}
set_option hygiene false
local macro_rules | `(↥($b,$n,$r,$d)) => `(wpCs (zb F wh k) ex wh $b $r (told V) S → zb F wh (k+1) ex $n $d V S)
theorem JC:↥(qU,0,[.sh x0],[x0]):=fun h=>zx rfl rfl rfl h
theorem Wu:↥(j4,1,[.sh x0],[x0]):=fun h=>zx rfl rfl rfl h
theorem KR:↥(Wh,2,[.sh x0],[x0]):=fun h=>zx rfl rfl rfl h
theorem Zb:↥(vH,3,[.sh x0,.sh x1,.sh x2],[x0,x1,x2]):=fun h=>zx rfl rfl rfl h
theorem zd1:↥(zbo,4,[.sh x0,.no],[x0]):=fun h=>zx rfl rfl rfl h
theorem KY:↥(Wi,5,[.sh x0],[x0]):=fun h=>zx rfl rfl rfl h
theorem km:↥(wA,6,[.sh x0],[x0]):=fun h=>zx rfl rfl rfl h
theorem Wv:↥(j5,7,[.sh x0,.no,.no,.no,.no,.no,.no,.no],[x0]):=fun h=>zx rfl rfl rfl h
theorem Ws:↥(jZ,8,[.sh x0],[x0]):=fun h=>zx rfl rfl rfl h
theorem JD:↥(qW,9,[.sh x0],[x0]):=fun h=>zx rfl rfl rfl h
theorem Yd:↥(um,10,[.sh x0,.no],[x0]):=fun h=>zx rfl rfl rfl h
theorem Wr:↥(jY,11,[.sh x0,.no,.no,.no,.no],[x0]):=fun h=>zx rfl rfl rfl h
theorem V5:↥(Jt,12,[.sh x0,.sh x1],[x0,x1]):=fun h=>zx rfl rfl rfl h
theorem JB:↥(qT,13,[.sh x0,.sh x1,.sh x2],[x0,x1,x2]):=fun h=>zx rfl rfl rfl h
theorem Yg:↥(xJ,14,[.sh x0,.no,.no,.no,.no,.no,.no],[x0]):=fun h=>zx rfl rfl rfl h
theorem Ye:↥(uo,15,[.sh x0,.no],[x0]):=fun h=>zx rfl rfl rfl h
theorem Wq:↥(jX,16,[.sh x0],[x0]):=fun h=>zx rfl rfl rfl h
theorem Jz:↥(qR,17,[.sh x0,.no],[x0]):=fun h=>zx rfl rfl rfl h
theorem Wn:↥(jV,18,[.sh x0],[x0]):=fun h=>zx rfl rfl rfl h
theorem Za:↥(vG,19,[.sh x0,.no],[x0]):=fun h=>zx rfl rfl rfl h
theorem Wo:↥(jW,20,[.sh x0,.sh x1,.no],[x0,x1]):=fun h=>zx rfl rfl rfl h
theorem Jy:↥(qQ,21,[.sh x0,.no],[x0]):=fun h=>zx rfl rfl rfl h
theorem Wt:↥(j0,22,[.sh x0,.no],[x0]):=fun h=>zx rfl rfl rfl h
theorem KQ:↥(Wg,23,[.sh x0,.no],[x0]):=fun h=>zx rfl rfl rfl h
theorem Yk:↥(xM,24,[.sh x0,.sh x1,.no,.no,.no,.no],[x0,x1]):=fun h=>zx rfl rfl rfl h
theorem Wz:↥(kh,25,[.sh x0,.sh x1,.sh x2],[x0,x1,x2]):=fun h=>zx rfl rfl rfl h
theorem Zc:↥(vI,26,[.sh x0,.sh x1,.no,.no,.no],[x0,x1]):=fun h=>zx rfl rfl rfl h
theorem Wx:↥(j8,27,[.sh x0,.sh x1,.sh x2],[x0,x1,x2]):=fun h=>zx rfl rfl rfl h
theorem Yi:↥(ur,28,[.sh x0,.sh x1,.sh x2,.sh x3,.no,.no],[x0,x1,x2,x3]):=fun h=>zx rfl rfl rfl h
theorem JF:↥(qX,29,[.sh x0,.sh x1,.sh x2,.no],[x0,x1,x2]):=fun h=>zx rfl rfl rfl h
theorem Yh:↥(uq,30,[.sh x0,.sh x1,.sh x2,.no,.no,.no,.no],[x0,x1,x2]):=fun h=>zx rfl rfl rfl h
theorem Yl:↥(uv,31,[.sh x0,.sh x1,.sh x2,.sh x3,.no,.no,.no,.no,.no],[x0,x1,x2,x3]):=fun h=>zx rfl rfl rfl h
theorem Wy:↥(j9,32,[.sh x0,.sh x1,.no,.no,.no,.no,.no,.no,.no,.no,.no,.no,.no],[x0,x1]):=fun h=>zx rfl rfl rfl h
theorem ux:↥(yX,33,[.sh x0,.no,.no],[x0]):=fun h=>zx rfl rfl rfl h
theorem uZ:↥(xK,34,[.sh x0],[x0]):=fun h=>zx rfl rfl rfl h
theorem Yj:↥(ut,35,[.sh x0,.no,.no,.no,.no,.no,.no,.no,.no,.no,.no,.no,.no,.no],[x0]):=fun h=>zx rfl rfl rfl h
theorem Ww:↥(j6,36,[.sh x0],[x0]):=fun h=>zx rfl rfl rfl h
theorem uY:↥(j7,37,[.sh x0,.sh x1],[x0,x1]):=fun h=>zx rfl rfl rfl h
theorem zjg:↥(zi8,38,[.sh x0,.no,.no,.no,.no],[x0]):=fun h=>zx rfl rfl rfl h
theorem uz:↥(xf,39,[.sh x0,.sh x1],[x0,x1]):=fun h=>zx rfl rfl rfl h
theorem uy:↥(yZ,40,[.sh x0],[x0]):=fun h=>zx rfl rfl rfl h
theorem Ze:↥(vK,41,[.sh x0],[x0]):=fun h=>zx rfl rfl rfl h
theorem Zd:↥(vJ,42,[.sh x0,.no],[x0]):=fun h=>zx rfl rfl rfl h
end
end Q75
local macro_rules | `(tactic| omega) => `(tactic| first | decide | with_reducible exact EV.om1 ‹_› (by with_unfolding_all rfl) | with_reducible exact EV.om2 ‹_› (by with_unfolding_all rfl) | with_reducible exact EV.om3 ‹_› (by with_unfolding_all rfl) | lia | omega (config := {}))
open EV in
local macro_rules | `(tactic| infer_instance) => `(tactic| first
 | ((with_reducible apply zH); (exact rfl))
 | ((with_reducible apply zj3); (exact rfl))
 | ((with_reducible apply zjv); (exact rfl))
 | ((with_reducible apply zjw); (exact rfl))
 | ((with_reducible apply kp_s); (exact rfl))
 | ((with_reducible apply kp_f); (exact rfl))
 | ((with_reducible apply zA); (first | exact rfl | exact zga (by simp <;> omega) | exact zaj rfl | exact zds rfl | exact zds (Qm (by decide) (by decide))))
 | ((with_reducible apply vQ); (exact rfl))
 | ((with_reducible apply zr); (first | exact zeB (by decide) (by decide) | exact rfl | exact Yo (by decide) rfl | exact qx (by decide) rfl))
 | ((with_reducible apply zL); (exact rfl); (try simp only [List.foldl, List.zip, List.zipWith, List.set, bB, if_true, if_false]))
 | ((with_reducible apply Kq); (exact rfl))
 | ((with_reducible apply Xi); (exact rfl))
 | ((with_reducible apply zio); (exact rfl))
 | ((with_reducible apply zF); (first | with_reducible rfl | decide | (focus (simp only [isNone, zE, eqi, eqs, eqb, eqn, eqt, eql, eqz, eqc, beq_self_eq_true, Bool.not_true, iY, lL, gO]; done)) | (dsimp only [zE]; decide) | (refine fits_of ?_; (try simp only [π, ζ, η, ς]) <;> omega)))
 | ((with_reducible apply wU); (first | with_reducible rfl | decide | (focus (simp only [isNone, zE, eqi, eqs, eqb, eqn, eqt, eql, eqz, eqc, beq_self_eq_true, Bool.not_true, iY, lL, gO]; done)) | (dsimp only [zE]; decide)))
 | ((with_reducible apply bx_f); (exact rfl))
 | ((with_reducible apply rv_s); (exact rfl))
 | ((with_reducible apply rv_f); (exact rfl))
 | ((with_reducible apply zhC); (exact rfl))
 | ((with_reducible apply zhD); (exact rfl))
 | ((with_reducible apply zi5); (exact rfl))
 | ((with_reducible apply zin); (exact rfl))
 | ((with_reducible apply yx); (dsimp only [wpC, zG, yw, zcL, zfM, zkP, Xy, ziQ, ziM, za4, e_or, zkQ, zkO, ziO, zkS, zkR, Xx, ziL, e_bi, zkU, Kh, xF, zfL, zfK, zkT, Kg, ziP, wpEs, wpO, wpF, wpI, List.set, fz, pH, List.getElem?_cons_succ, Option.getD]))
 | (with_reducible apply ul)
 | (with_reducible apply z6)
 | (with_reducible apply zgv)
 | (with_reducible apply zgx)
 | (with_reducible apply zgw)
 | (with_reducible apply to_s)
 | (with_reducible apply to_f)
 | (with_reducible apply K9)
 | (with_reducible apply K7)
 | (with_reducible apply zgs)
 | (with_reducible apply zgt)
 | (with_reducible apply zgr))
local macro_rules | `(tactic| nofun) => `(tactic| (repeat infer_instance))
namespace Q75
open PySem L2 EV
theorem WR {lo hi:Int}{d:D}(h:d∈zR lo hi):∃ j,d=.int j/\lo<=j/\j < hi:=by unfold zR at h;obtain ⟨k,hk,rfl⟩:=Φ.mp h;have:=aY.mp hk;exact ⟨_,rfl,by lia,by lia⟩
noncomputable abbrev LS (ws:List Str):D:=.lst (ws.map D.str)
def In (n:Int):Prop:=0<=n/\n < 1000000007
theorem Zg {ws:List Str}{v:Int}(h0:0<=v) (h:v < ((ws.map D.str).length:Int)):∃ s∈ws,subD (LS ws) (.int v)=some (.str s):=by
 rw [ζ] at h;have hl:v.toNat < ws.length:=by omega
 refine ⟨ws[v.toNat],cD hl,qx h0 ?_⟩;rw [Ρ,ψ hl];rfl
theorem wJ {x y:Str}(h:x.length+y.length<=1000000):opD .Add (.str x) (.str y)=some (.str (x++y),false):=by
 show (if fits (x.length+y.length)=true then some (D.str (x++y),false) else none)=_
 rw [if_pos (fits_of h)]
theorem ze9 {n:Int}(h:In n):n.natAbs.log2 < 1920:=by
 obtain ⟨h0,h1⟩:=h;by_cases hz:n.natAbs=0
 ·rw [hz];decide
 ·have:=(Nat.log2_lt (k:=34) hz).mpr (show n.natAbs < 2 ^ 34 by omega);omega
abbrev Is (K f:Nat) (ds:List D) (v:Vl) (S:Store):Prop:=xH F wh K f ds (fun x S'=>x=v/\S'=S) S
abbrev Sm (K f:Nat) (ds:List D) (P:Vl->Prop) (S:Store):Prop:=xH F wh K f ds (fun x S'=>P x/\S'=S) S
abbrev Tl (K f:Nat) (ds:List D) (b:Bool) (S:Store):Prop:=Is K f ds (.bl b,.st) S
section
variable {K f:Nat}{ds:List D}{S:Store}
theorem Is.go {v:Vl}{V:Po}(h:Is K f ds v S) (q:V v S):xH F wh K f ds V S:=wp_mono h (by rintro _ _ ⟨rfl,rfl⟩;exact q)
theorem Sm.go {P:Vl->Prop}{V:Po}(h:Sm K f ds P S) (q:∀ x,P x->V x S):xH F wh K f ds V S:=wp_mono h (by rintro x _ ⟨h1,rfl⟩;exact q x h1)
end
theorem up {n K:Nat}(h:n+1<=K):∃ k,n<=k/\K=k+1:=⟨K - 1,by omega,by omega⟩
mutual
noncomputable def plD:D->Bool
 | .non=>true
 | .bl _=>true
 | .int _=>true
 | .str s=>decide (s.length<=1000)&&decide (s.cps.toList.length<=1000)
 | .tup l=>decide (l.length<=1000)&&plDs l
 | .lst l=>decide (l.length<=1000)&&plDs l
 | _=>false
noncomputable def plDs:List D->Bool
 | []=>true
 | d::l=>plD d&&plDs l
end
noncomputable def zgi:D->Bool
 | .int _=>true
 | _=>false
noncomputable def numD:D->Bool
 | .int i=>decide (0<=i)&&decide (i < 1000000007)
 | _=>false
noncomputable def chars (s:Str):List D:=s.cps.toList.map fun c=>.str ⟨#[c]⟩
noncomputable def letD (d:D):Bool:=match inD d (.str "abcdefghijklmnopqrstuvwxyz") with
 | some b=>b
 | none=>false
noncomputable def wdS (s:Str):Bool:=decide (1<=s.length)&&decide (s.length<=8)&&(chars s).all letD
noncomputable def zgh:D->Bool
 | .str s=>wdS s
 | _=>false
section
variable {K:Nat}{S:Store}{d:D}
theorem V4 (h:plD d=true) (hK:1<=K):Tl K 0 [d] (zgi d) S:=by
 obtain ⟨K,hk,rfl⟩:=up hK;refine JC ?_;cases d with
 | non=>nofun;exact ⟨rfl,rfl⟩
 | bl b=>nofun;exact ⟨rfl,rfl⟩
 | int i=>nofun;exact ⟨rfl,rfl⟩
 | str s=>nofun;exact ⟨rfl,rfl⟩
 | tup l=>nofun;exact ⟨rfl,rfl⟩
 | lst l=>nofun;exact ⟨rfl,rfl⟩
 | _=>cases h
theorem zhV (h:plD d=true) (hK:2<=K):Tl K 1 [d] (numD d) S:=by
 obtain ⟨K,hk,rfl⟩:=up hK;refine Wu ?_;nofun;refine (V4 h hk).go ?_;cases d with
 | int i=>
  nofun;refine zF rfl ?_;nofun;refine yC (fun h1=>?_) (fun h1=>?_)
  ·nofun;refine ⟨?_,rfl⟩;show (D.bl (decide (i < 1000000007)),Kd.st)=(D.bl (decide (0<=i)&&decide (i < 1000000007)),Kd.st)
   rw [show decide (0<=i)=true from h1,gO]
  ·nofun;refine ⟨?_,rfl⟩;show (D.bl false,Kd.st)=(D.bl (decide (0<=i)&&decide (i < 1000000007)),Kd.st)
   rw [show decide (0<=i)=false from h1,cF]
 | non=>nofun;exact ⟨rfl,rfl⟩
 | bl b=>nofun;exact ⟨rfl,rfl⟩
 | str s=>nofun;exact ⟨rfl,rfl⟩
 | tup l=>nofun;exact ⟨rfl,rfl⟩
 | lst l=>nofun;exact ⟨rfl,rfl⟩
 | _=>cases h
theorem jQ {s:D->(Option D->Store->Prop)->Store->Prop}{V:List D->Store->Prop}{S:Store}(f:D->Bool):∀ (xs:List D) (acc:List Bool),acc.length+xs.length<=1000->(∀ x∈xs,∀ Q:Option D->Store->Prop,Q (some (.bl (f x))) S->s x Q S) ->
  V ((acc++xs.map f).map D.bl) S->vO s xs (acc.map D.bl) V S
 | [],acc,_,_,v=>by simpa [vO] using v
 | x::xs,acc,hl,h,v=>by
  refine h x μ _ ?_;have e:(acc.map D.bl)++[D.bl (f x)]=(acc++[f x]).map D.bl:=by simp
  have hl':acc.length+(xs.length+1)<=1000:=hl;show tst (fits ((acc.map D.bl).length+1)) (vO s xs (acc.map D.bl++[D.bl (f x)]) V S) False
  refine zF (fits_of (by rw [ζ];omega)) ?_;rw [e];exact jQ f xs (acc++[f x]) (by simp;omega) (fun y hy=>h y (ν _ hy)) (by simpa using v)
theorem X8:∀ l:List Bool,jU (l.map D.bl)=some l
 | []=>rfl
 | b::l=>by show (jU (l.map D.bl)).map (b::·)=_;rw [X8 l];rfl
theorem Jv (l:List Bool):biD .all [.lst (l.map D.bl)]=some (.bl (l.all id),false):=by
 show ((jU (l.map D.bl)).map fun bs=>D.bl (bs.all id)).map (fun d=>(d,false))=_
 rw [X8];rfl
theorem zd0 (h:plD d=true) (hK:1<=K):Tl K 2 [d] (zgh d) S:=by
 obtain ⟨K,hk,rfl⟩:=up hK;refine KR ?_;cases d with
 | str s=>
  obtain ⟨h1,h2⟩:=ϱ.mp (show (decide (s.length<=1000)&&decide (s.cps.toList.length<=1000))=true from h);have h1:=of_decide_eq_true h1;have h2:=of_decide_eq_true h2;have e:biD .len [.str s]=some (.int s.length,false):=by
   show (if fits s.length=true then _ else _)=_
   rw [if_pos (fits_of (by omega))]
  nofun;refine zA e ?_;nofun;refine yC (fun h3=>?_) (fun h3=>?_)
  ·have h3:(1:Int)<=s.length:=of_decide_eq_true h3;nofun;refine yC (fun h4=>?_) (fun h4=>?_)
   ·nofun;have h4:(!decide ((s.length:Int)<=8))=true:=h4;have h4:¬ (s.length:Int)<=8:=fun z=>by rw [decide_eq_true z] at h4;cases h4
    refine ⟨?_,rfl⟩;show (D.bl false,Kd.st)=(D.bl (wdS s),Kd.st)
    have:wdS s=false:=by unfold wdS;rw [decide_eq_false (show ¬ s.length<=8 by omega),cG,cF]
    rw [this]
   ·nofun;have h4:(!decide ((s.length:Int)<=8))=false:=h4;have h4:(s.length:Int)<=8:=by
     by_cases z:(s.length:Int)<=8
     ·exact z
     ·rw [decide_eq_false z] at h4;cases h4
    refine wB ?_;dsimp only [wpI,zG];nofun;refine jQ letD (chars s) [] (by simp [chars];omega) (fun x hx Q hQ=>?_) ?_
    ·refine zL rfl ?_;dsimp only [wpF,Xy,zcL,zG,inn,nT,Ϸ,mF,ύ,List.set];obtain ⟨c,_,rfl⟩:=Φ.mp hx;nofun;exact hQ
    ·refine zA (Jv _) ?_;nofun;refine ⟨?_,rfl⟩;show (D.bl (([]++(chars s).map letD).all id),Kd.st)=(D.bl (wdS s),Kd.st)
     unfold wdS;rw [decide_eq_true (show 1<=s.length by omega),decide_eq_true (show s.length<=8 by omega),Ϥ,cM];rfl
  ·nofun;have h3:¬ (1:Int)<=s.length:=of_decide_eq_false h3;refine ⟨?_,rfl⟩;show (D.bl false,Kd.st)=(D.bl (wdS s),Kd.st)
   have:wdS s=false:=by unfold wdS;rw [decide_eq_false (show ¬ 1<=s.length by omega),cF,cF]
   rw [this]
 | non=>nofun;exact ⟨rfl,rfl⟩
 | bl b=>nofun;exact ⟨rfl,rfl⟩
 | int i=>nofun;exact ⟨rfl,rfl⟩
 | tup l=>nofun;exact ⟨rfl,rfl⟩
 | lst l=>nofun;exact ⟨rfl,rfl⟩
 | _=>cases h
end
noncomputable abbrev cs (s:Str):List Nat:=s.cps.toList
noncomputable def mk (l:List Nat):Str:=⟨l.toArray⟩
theorem vD (l:List Nat):cs (mk l)=l:=by simp [mk]
theorem zfh (s:Str):mk (cs s)=s:=by cases s;simp [mk]
theorem Zj {a b:Str}(h:cs a=cs b):a=b:=by rw [<- zfh a,<- zfh b,h]
theorem zT (a b:Str):cs (a++b)=cs a++cs b:=by
 show (a.cps++b.cps).toList=_
 simp
theorem ym (s:Str):s.length=(cs s).length:=by simp [Str.length]
theorem yu (l:List Nat):(mk l).length=l.length:=by rw [ym,vD]
theorem at1 {y:Str}{c i:Nat}:StrLaws.At y (mk [c]) y.length i ↔ (cs y)[i]?=some c:=by
 have e:y.length=y.cps.size:=rfl;constructor
 ·rintro ⟨h1,h2⟩;have h1:i+1<=y.cps.size:=h1;have h2:y.cps.extract i (i+1)=#[c]:=eq_of_beq h2;have h3:(y.cps.extract i (i+1))[0]?=some c:=by rw [h2];rfl
  rw [Array.getElem?_extract] at h3;rw [if_pos (by omega)] at h3;simpa using h3
 ·intro h;have hi:i < y.cps.size:=by simpa using (Β.mp h).1
  refine ⟨by show i+1<=y.cps.size;omega,?_⟩;show (y.cps.extract i (i+1)==#[c])=true
  rw [beq_iff_eq];apply Array.ext
  ·simp;omega
  ·intro k h1 h2;have hk:k=0:=by simpa using h2
   subst hk;have:=(Β.mp h).2;simpa using this
theorem in1 (y:Str) (c:Nat):inD (.str (mk [c])) (.str y)=some ((cs y).contains c):=by
 show some (!(Ϙ y (mk [c]) 0 y.length 1).isEmpty)=_
 congr 1
 rcases StrLaws.occ_head y (mk [c]) 1 (χ 1) with ⟨h,n⟩ | ⟨i,r,h,a,n⟩
 ·rw [h]
  symm
  rw [show (!([]:List Nat).isEmpty)=false from rfl,gJ];intro q;obtain ⟨i,e⟩:=pR.mp (ό.mp q);exact n i (at1.mpr e)
 ·rw [h]
  symm
  exact ό.mpr (pR.mpr ⟨i,at1.mp a⟩)
noncomputable def lt (c:Nat):Bool:=decide (97<=c)&&decide (c<=122)
noncomputable def dg (c:Nat):Bool:=decide (48<=c)&&decide (c<=57)
theorem ziW (c:Nat):((ϝ 10).map (48+·)).contains c=dg c:=by
 rw [nD,ό,Φ];unfold dg;rw [ε,decide_eq_true_eq,decide_eq_true_eq];constructor
 ·rintro ⟨k,hk,rfl⟩;have:=aY.mp hk;exact ⟨by omega,by omega⟩
 ·rintro ⟨h1,h2⟩;exact ⟨c - 48,aY.mpr (by omega),by omega⟩
theorem zkw (c:Nat):inD (.str (mk [c])) (.str "0123456789")=some (dg c):=by rw [in1,show cs "0123456789"=(ϝ 10).map (48+·) by decide +kernel,ziW]
theorem allIn {cf:Cf}{ρ:List Slot}{V:Po}{S:Store}{j:Nat}{w:List Nat}{y:Str}{X:E}{f:Nat->Bool}(hj:ρ[j]?=some (.sh (.str (mk w)))) (hl:w.length<=1000) (hX:∀ ρ' (V':Po) S',V' (.str y,.st) S'->wpE cf ρ' X V' S') (hf:∀ c,inD (.str (mk [c])) (.str y)=some (f c)) (q:V (.bl (w.all f),.st) S):wpE cf ρ (.bi .all [.comp (.one 0) [] (.seq (.var j)) [] (.cmp .In ⇑0 X)]) V S:=by
  rw [e_bi];refine wB ?_;dsimp only [wpI,zG];refine zH hj ?_;refine kp_s rfl ?_;refine zr (a:=w.map fun c=>D.str (mk [c])) ?_ ?_
  · show some ((cs (mk w)).map fun c=>D.str ⟨#[c]⟩)=_
    rw [vD];rfl
  refine jQ (fun d=>match inD d (.str y) with
    | some b=>b
    | none=>false) _ [] (by simp;omega) (fun x hx Q hQ=>?_) ?_
  · obtain ⟨c,_,rfl⟩:=Φ.mp hx;refine zL rfl ?_;dsimp only [wpF,Xy,zG,inn,nT,Ϸ,mF,ύ,List.set];refine zF rfl ?_;refine zH rfl ?_;refine hX _ _ _ ?_;refine zr (hf c) ?_;refine kp_s rfl ?_;have:=hQ;rw [hf c] at this;exact this
  · refine zA (Jv _) ?_
    have e:(([]:List Bool)++(w.map fun c=>D.str (mk [c])).map fun d=>match inD d (.str y) with
      | some b=>b
      | none=>false).all id=w.all f:=by
      rw [Ϥ,Ϭ,cM]
      congr 1
      funext c
      show (match inD (.str (mk [c])) (.str y) with
        | some b=>b
        | none=>false)=f c
      rw [hf c]
    rw [e];exact q
noncomputable def fgB (w:List Nat):Bool:=decide (1<=w.length)&&decide (w.length<=10)&&w.all dg
noncomputable def fgD (w:List Nat):D:=if fgB w=true then .int ((lF w:Nat):Int) else .str (mk w)
theorem ziX {w:List Nat}(h:w.all dg=true):pY w:=fun c hc=>by have:=ϒ.mp h c hc;unfold dg at this;rw [ε,decide_eq_true_eq,decide_eq_true_eq] at this;exact this
theorem int_mk {w:List Nat}(h:w.all dg=true) (h1:1<=w.length) (h2:w.length<=600):biD .int [.str (mk w)]=some (.int ((lF w:Nat):Int),false):=by
 show (if decide ((mk w).length<=640)=true then (iQ (mk w)).map fun n=>(D.int n,false) else none)=_
 rw [if_pos (decide_eq_true (by rw [yu];omega)),PySem.intText_digits (x:=mk w) (show pY (cs (mk w)) by rw [vD];exact ziX h) (show cs (mk w)≠[] by rw [vD];intro e;rw [e] at h1;simp at h1) (by rw [yu];omega),show (mk w).cps.toList=w from vD w];rfl
section
variable {K:Nat}{S:Store}
theorem zfD (w:List Nat) (hw:w.length<=1000) (hK:1<=K):Is K 6 [.str (mk w)] (fgD w,.st) S:=by
 obtain ⟨K,hk,rfl⟩:=up hK;have e:biD .len [.str (mk w)]=some (.int w.length,false):=by
  show (if fits (mk w).length=true then some (D.int (mk w).length,false) else _)=_
  rw [yu,if_pos (fits_of (by omega))]
 have no:fgB w=false->xH F wh (K+1) 6 [.str (mk w)] (fun x S'=>x=(D.str (mk w),Kd.st)/\S'=S) S->Is (K+1) 6 [.str (mk w)] (fgD w,.st) S:=fun h q=>by unfold fgD;rw [h];exact q
 refine km ?_;nofun;refine zA e ?_;nofun;refine yC (fun h3=>?_) (fun h3=>?_)
 ·have h3:(1:Int)<=w.length:=of_decide_eq_true h3;nofun;refine yC (fun h4=>?_) (fun h4=>?_)
  ·have h4:(w.length:Int)<=10:=of_decide_eq_true h4;refine allIn (f:=dg) rfl hw (fun _ _ _ q=>by rw [zcL];exact q) zkw ?_;nofun;refine yC (fun h5=>?_) (fun h5=>?_)
   ·nofun;refine zA (int_mk h5 (by omega) (by omega)) ?_;nofun;refine ⟨?_,rfl⟩;unfold fgD fgB;rw [decide_eq_true (show 1<=w.length by omega),decide_eq_true (show w.length<=10 by omega),h5];rfl
   ·nofun;refine ⟨?_,rfl⟩;unfold fgD fgB;rw [h5,cG];rfl
  ·have h4:¬ (w.length:Int)<=10:=of_decide_eq_false h4;nofun;refine ⟨?_,rfl⟩;unfold fgD fgB;rw [decide_eq_false (show ¬ w.length<=10 by omega),cG,cF];rfl
 ·have h3:¬ (1:Int)<=w.length:=of_decide_eq_false h3;nofun;refine ⟨?_,rfl⟩;unfold fgD fgB;rw [decide_eq_false (show ¬ 1<=w.length by omega),cF,cF];rfl
end
theorem Yq:∀ (ys:List Str),Zi (ys.map D.str)=some ys
 | []=>rfl
 | y::ys=>by
  show (Zi (ys.map D.str)).map (y::·)=_
  rw [Yq ys];rfl
theorem jE {x:Str}{ys:List Str}(h:(ys.map (·.length)).sum+ys.length*x.length<=1000000):mthD .join (.str x) [LS ys]=some (.str (ϲ x ys),false):=by
 show ((some (ys.map D.str)).bind Zi).bind (fun zs=>if fits ((zs.map (·.length)).sum+zs.length*x.length)=true then some (D.str (ϲ x zs),false) else none)=_
 show (Zi (ys.map D.str)).bind _=_
 rw [Yq];show (if fits _=true then _ else _)=_
 rw [if_pos (fits_of h)]
theorem eq_str (a b:Str):cmpD .Eq (.str a) (.str b)=some (a==b):=rfl
noncomputable abbrev LI (xs:List Int):D:=.lst (xs.map D.int)
theorem zcY {xs:List Int}(h:0 < xs.length) (a:Int):∃ v,subD (LI xs) (.int (a % ((xs.map D.int).length:Int)))=some (.int v):=by
 rw [ζ];have hp:(0:Int) < (xs.length:Int):=by omega
 have h0:=b8 a (show (xs.length:Int)≠0 by omega);have h1:=bC a hp;refine ⟨xs[(a % (xs.length:Int)).toNat]'(by omega),qx h0 ?_⟩;rw [Ρ,ψ (by omega)];rfl
theorem len_pos {xs:List Int}(h:0 < xs.length):(0:Int) < ((xs.map D.int).length:Int):=by rw [ζ];omega
theorem Zo (xs:List Int) (v:Int):xs.map D.int++[D.int v]=(xs++[v]).map D.int:=by rw [Ϝ];rfl
theorem vX {c l0:Int}{xs:List Int}{S:Store}{K:Nat}{V:Po}(hl:xs.length<=460) (q:∀ ys:List Int,ys.length=460->V (LI ys,.fr) S):
  wpCs (zb F wh K) noX wh (xM.drop 3) [.sh (.int c),.sh (.int 460),.ow (LI xs),.sh (.int l0),.no,.no] (told V) S:=by
 show wpCs _ _ _ [_,_] _ _ _
 nofun;refine zF (by rw [ζ];simp [fits,LIM];omega) ?_;refine wp_walk (fun rem ρ S'=>S'=S/\∃ (j:Int) (ys:List Int) (x4 x5:Slot),rem=zR j 460/\j=ys.length/\j<=460/\ρ=[.sh (.int c),.sh (.int 460),.ow (LI ys),.sh (.int l0),x4,x5]) ?_ ?_ _ _ _ ⟨rfl,xs.length,xs,.no,.no,by rw [ζ],rfl,by omega,rfl⟩
 ·rintro d rem ρ S' ⟨rfl,j,ys,x4,x5,e1,hy,h460,rfl⟩;by_cases hj:j < 460
  ·rw [uJ (by omega)] at e1;cases e1;nofun;refine zA (zaj (Uc (by omega) (by omega))) ?_;nofun;rw [Zo];exact ⟨rfl,j+1,_,_,_,rfl,by rw [π,hy];rfl,by omega,rfl⟩
  ·rw [WQ (by omega)] at e1;cases e1
 ·rintro ρ S' ⟨rfl,j,ys,x4,x5,e1,hy,h460,rfl⟩;nofun;by_cases hj:j < 460
  ·rw [uJ (by omega)] at e1;cases e1
  ·exact q ys (by omega)
theorem zcO {c:Int}{K:Nat}{S:Store}(hK:1<=K):Sm K 24 [.int c,.int 460] (fun x=>∃ ys:List Int,x=(LI ys,.fr)/\ys.length=460) S:=by
 obtain ⟨K,hk,rfl⟩:=up hK;refine Yk ?_;nofun;refine yC (fun h=>?_) (fun h=>?_)
 ·nofun;refine wK (fun n ρ S'=>S'=S/\∃ (ys:List Int) (l:Int),ys.length+n=460/\ρ=[.sh (.int c),.sh (.int 460),.ow (LI ys),.sh (.int l),.no,.no]) ?_ 500 460 _ _ (by decide) ⟨rfl,[],_,rfl,rfl⟩;rintro n ρ S' ⟨rfl,ys,l,hn,rfl⟩;dsimp only [za4,Kg,Xy,e_bi,zG,yw];nofun;refine yC (fun h1=>?_) (fun h1=>?_)
  ·nofun;refine yC (fun h2=>?_) (fun h2=>?_)
   ·have h2:=of_decide_eq_true h2;rw [ζ] at h2;refine ⟨n - 1,by omega,?_⟩;nofun;rw [Zo];exact ⟨rfl,_,_,by rw [π];simp;omega,rfl⟩
   ·nofun;exact vX (by omega) fun ys h=>⟨⟨ys,rfl,h⟩,rfl⟩
  ·nofun;exact vX (by omega) fun ys h=>⟨⟨ys,rfl,h⟩,rfl⟩
 ·nofun;exact vX (xs:=[]) (by decide) fun ys h=>⟨⟨ys,rfl,h⟩,rfl⟩
section
variable {xs:List Int}{K:Nat}{S:Store}
variable {ns:List Str}
def Dr (m:Int) (x:Vl):Prop:=∃ v:Int,x=(.int v,.st)/\0<=v/\v < m
theorem zN {a m:Int}(hx:0 < xs.length) (hm:0 < m) (hK:1<=K):Sm K 25 [LI xs,.int a,.int m] (Dr m) S:=by obtain ⟨K,hk,rfl⟩:=up hK;obtain ⟨v,e⟩:=zcY hx a;refine Wz ?_;nofun;refine zA (YX (len_pos hx)) ?_;refine zr e ?_;nofun;refine zA (YX hm) ?_;nofun;exact ⟨⟨_,rfl,b8 _ (by omega),bC _ hm⟩,rfl⟩
theorem zh1 (x:Int):In (x % 1000000007):=⟨b8 _ (by decide),bC _ (by decide)⟩
theorem yj {a:Int}(hx:0 < xs.length) (hK:1<=K):Sm K 26 [LI xs,.int a] (fun x=>∃ v,x=(.int v,.st)/\In v) S:=by
 obtain ⟨K,hk,rfl⟩:=up hK;obtain ⟨v,e⟩:=zcY hx a;obtain ⟨v1,e1⟩:=zcY hx (a+1);obtain ⟨v2,e2⟩:=zcY hx (a+2);refine Zc ?_;nofun;refine zA (YX (len_pos hx)) ?_;refine zr e ?_;nofun;refine zA (YX (len_pos hx)) ?_;refine zr e1 ?_;nofun;refine zA (YX (len_pos hx)) ?_;refine zr e2 ?_;nofun;have h0:=b8 (v2 / 7) (show (3:Int)≠0 by decide);have h1:=bC (v2 / 7) (show (0:Int) < 3 by decide);generalize hw:v2 / 7 % 3=w at *;have hc:w=0\/w=1\/w=2:=by omega
 generalize v*10 ^ Int.toNat 6+v1=q;have k5:=b8 q (show (5:Int)≠0 by decide);have l5:=bC q (show (0:Int) < 5 by decide);have k3:=b8 q (show (3:Int)≠0 by decide);have l3:=bC q (show (0:Int) < 3 by decide);rcases hc with rfl | rfl | rfl
 ·nofun;exact ⟨⟨_,rfl,k5,by omega⟩,rfl⟩
 ·nofun;exact ⟨⟨_,rfl,by omega,by omega⟩,rfl⟩
 ·nofun;exact ⟨⟨_,rfl,zh1 _⟩,rfl⟩
end
noncomputable def jl (c:Nat):List (List Nat)->List Nat
 | []=>[]
 | [x]=>x
 | x::y::r=>x++c::jl c (y::r)
theorem Jq (c:Nat):∀ ps:List Str,cs (lr (mk [c]) ps)=jl c (ps.map cs)
 | []=>rfl
 | [x]=>rfl
 | x::y::r=>by
  show cs (x++mk [c]++lr (mk [c]) (y::r))=cs x++c::jl c ((y::r).map cs)
  rw [zT,zT,Jq c (y::r),vD,ak];rfl
theorem wG (c:Nat) (ps:List Str):cs (ϲ (mk [c]) ps)=jl c (ps.map cs):=by rw [show ϲ (mk [c]) ps=lr (mk [c]) ps from bO _ ps];exact Jq c ps
theorem zdW {c:Nat}:∀ {p q:List Nat}{x y:List Nat},c ∉ p->c ∉ q->p++c::x=q++c::y->p=q/\x=y
 | [],[],_,_,_,_,e=>⟨rfl,(Ψ e).2⟩
 | [],b::q,_,_,_,hq,e=>absurd (by rw [(Ψ e).1];exact μ) hq
 | a::p,[],_,_,hp,_,e=>absurd (by rw [<- (Ψ e).1];exact μ) hp
 | a::p,b::q,_,_,hp,hq,e=>by obtain ⟨e1,e2⟩:=Ψ e;obtain ⟨h1,h2⟩:=zdW (fun h=>hp (ν _ h)) (fun h=>hq (ν _ h)) e2;exact ⟨by rw [e1,h1],h2⟩
theorem zdC {c:Nat}:∀ {ps qs:List (List Nat)},ps≠[]->qs≠[]->(∀ p∈ps,c ∉ p)->(∀ q∈qs,c ∉ q)->jl c ps=jl c qs->ps=qs
 | [],_,h,_,_,_,_=>absurd rfl h
 | _::_,[],_,h,_,_,_=>absurd rfl h
 | [p],[q],_,_,_,_,e=>by rw [show p=q from e]
 | [p],q::q2::qs,_,_,hp,_,e=>by have e:p=q++c::jl c (q2::qs):=e;exact absurd (by rw [e];simp) (hp p μ)
 | p::p2::ps,[q],_,_,_,hq,e=>by have e:p++c::jl c (p2::ps)=q:=e;exact absurd (by rw [<- e];simp) (hq q μ)
 | p::p2::ps,q::q2::qs,_,_,hp,hq,e=>by have e:p++c::jl c (p2::ps)=q++c::jl c (q2::qs):=e;obtain ⟨e1,e2⟩:=zdW (hp p μ) (hq q μ) e;rw [e1,zdC (List.cons_ne_nil _ _) (List.cons_ne_nil _ _) (fun x hx=>hp x (ν _ hx)) (fun x hx=>hq x (ν _ hx)) e2]
theorem xP {c:Nat}{ps:List Str}(h0:ps≠[]) (h:∀ p∈ps,c ∉ cs p):fD (ϲ (mk [c]) ps) (mk [c])=ps:=by
 have e1:=StrLaws.join_split (ϲ (mk [c]) ps) (mk [c]);have n0:fD (ϲ (mk [c]) ps) (mk [c])≠[]:=fun e=>by have:=PyProof.Rows.split_pos (ϲ (mk [c]) ps) (mk [c]);rw [e] at this;exact absurd this (by decide)
 have e2:=wG c (fD (ϲ (mk [c]) ps) (mk [c]));rw [show ϲ (mk [c]) (fD (ϲ (mk [c]) ps) (mk [c]))=ϲ (mk [c]) ps from (bO _ _).trans e1,wG c ps] at e2
 have:=zdC (c:=c) (by simpa using h0) (by simpa using n0) (fun p hp=>by
  obtain ⟨q,hq,rfl⟩:=Φ.mp hp
  exact h q hq) (fun p hp=>by
  obtain ⟨q,hq,rfl⟩:=Φ.mp hp
  exact StrLaws.split_free _ c q hq) e2
 have inj:∀ {a b:List Str},a.map cs=b.map cs->a=b:=fun {a b} h=>by
  induction a generalizing b with
  | nil=>cases b with
   | nil=>rfl
   | cons _ _=>cases h
  | cons x a ih=>cases b with
   | nil=>cases h
   | cons y b=>
    rw [Κ,Κ] at h;rw [Zj (Ψ h).1,ih (Ψ h).2]
 exact (inj this).symm
noncomputable def N (n:Int):Str:=eX (toString n)
theorem N_cs {n:Int}(h:In n):∃ m:Nat,n=(m:Int)/\(cs (N n)).all dg=true/\1<=(cs (N n)).length/\(cs (N n)).length<=10/\lF (cs (N n))=m:=by
 obtain ⟨m,rfl⟩:=Int.eq_ofNat_of_zero_le h.1;have e:cs (N (m:Int))=(Nat.toDigits 10 m).map Char.toNat:=W.KIN.signs_num m;have hl:(cs (N (m:Int))).length<=10:=by have h2:((m:Int)) < 10 ^ 10:=Int.lt_of_lt_of_le h.2 (by decide);have:=W.KT.len_num h.1 h2;rw [ym] at this;exact this
 refine ⟨m,rfl,?_,?_,hl,?_⟩
 ·rw [e,ϒ];intro c hc;obtain ⟨ch,hch,rfl⟩:=Φ.mp hc;have r:=PyProof.Rows.digit_range (Nat.isDigit_of_mem_toDigits (by decide) (by decide) hch);unfold dg;rw [decide_eq_true r.1,decide_eq_true r.2];rfl
 ·rw [e,ζ];exact PySem.toDigits_len_ge 10 m
 ·rw [e];exact W.KIN.val_back m
theorem zV {n:Int}(h:In n):biD .str [.int n]=some (.str (N n),false):=by
 show (if decide (n.natAbs.log2 < 1920)=true then some (D.str (toString n),false) else none)=_
 rw [if_pos (decide_eq_true (ze9 h))];rfl
theorem uw {n:Int}(h:In n) {c:Nat}(hc:dg c=false):c ∉ cs (N n):=fun hm=>by obtain ⟨_,_,h1,_⟩:=N_cs h;have:=ϒ.mp h1 c hm;rw [hc] at this;cases this
theorem wg {n:Int}(h:In n):(N n).length<=10:=by obtain ⟨_,_,_,_,h1,_⟩:=N_cs h;rw [ym];exact h1
theorem figN {n:Int}(h:In n) {K:Nat}{S:Store}(hK:1<=K):Is K 6 [.str (N n)] (.int n,.st) S:=by
 obtain ⟨m,e,h1,h2,h3,h4⟩:=N_cs h;have:=zfD (K:=K) (S:=S) (cs (N n)) (by omega) hK;rw [zfh] at this;have e2:fgD (cs (N n))=.int n:=by unfold fgD fgB;rw [h1,decide_eq_true h2,decide_eq_true h3,h4,e];rfl
 rw [e2] at this;exact this
theorem ze8 {n:Int}(h:In n):numD (.int n)=true:=by
 show (decide (0<=n)&&decide (n < 1000000007))=true
 rw [decide_eq_true h.1,decide_eq_true h.2];rfl
section
variable {n:Int}{K:Nat}{S:Store}
theorem YQ (h:In n) (hK:3<=K):Is K 22 [.str (N n)] (.int n,.st) S:=by obtain ⟨K,hk,rfl⟩:=up hK;refine Wt ?_;nofun;refine (figN h (by omega)).go ?_;nofun;refine (zhV (d:=.int n) rfl (by omega)).go ?_;rw [ze8 h];nofun;refine zA (zV h) ?_;nofun;exact ⟨rfl,rfl⟩
theorem yN (h:In n) (hK:4<=K):Is K 19 [.str (N n)] (.int n,.st) S:=by obtain ⟨K,hk,rfl⟩:=up hK;refine Za ?_;nofun;refine (YQ h (by omega)).go ?_;nofun;exact ⟨rfl,rfl⟩
end
theorem wz {α:Type}{enc f:α->D}{s:D->(Option D->Store->Prop)->Store->Prop}{V:List D->Store->Prop}{S:Store}:∀ (xs:List α) (acc:List D),acc.length+xs.length<=1000->(∀ x∈xs,∀ Q:Option D->Store->Prop,Q (some (f x)) S->s (enc x) Q S)->V (acc++xs.map f) S->vO s (xs.map enc) acc V S
 | [],acc,_,_,v=>by rw [show acc++([]:List α).map f=acc by simp] at v;exact v
 | x::xs,acc,hl,h,v=>by refine h x μ _ ?_;have hl:acc.length+(xs.length+1)<=1000:=hl;refine zF (fits_of (by omega)) (wz xs (acc++[f x]) (by simp;omega) (fun y hy=>h y (ν _ hy)) ?_);simpa using v
def POk (p:List Int):Prop:=p.length<=6/\∀ n∈p,0<=n/\n<=9
theorem POk.inn {p:List Int}(h:POk p):∀ n∈p,In n:=fun n hn=>⟨(h.2 n hn).1,by have:=(h.2 n hn).2;omega⟩
noncomputable def pw:List Int->Str
 | []=>"-"
 | n::r=>ϲ (mk [46]) ((n::r).map N)
theorem Ua {l:List Str}{k:Nat}(h:∀ x∈l,x.length<=k):(l.map (·.length)).sum<=l.length*k:=by
 induction l with
 | nil=>simp
 | cons x l ih=>
  have h1:=h x μ;have h2:=ih fun y hy=>h y (ν _ hy)
  rw [Κ,fJ,η,Nat.succ_mul];omega
theorem zge {p:List Int}(h:∀ n∈p,In n):((p.map N).map (·.length)).sum<=p.length*10:=by
 have:=Ua (l:=p.map N) (k:=10) fun x hx=>by obtain ⟨n,hn,rfl⟩:=Φ.mp hx;exact wg (h n hn)
 rwa [ζ] at this
theorem vm (n:Nat):∀ (ws:List Int),okPs n (ws.map D.int)=true
 | []=>by unfold okPs;rfl
 | w::ws=>by
  show okPs n (D.int w::ws.map D.int)=true
  unfold okPs;rw [vm n ws];cases n <;> rfl
theorem WK (n:Nat) (p:List Int):okP (n+1) (tupI p)=true:=vm n p
theorem zeW (n:Int) (r:List Int):cmpD .Eq (tupI (n::r)) (.tup [])=some false:=by
 show (if (okP 60 (tupI (n::r))&&okP 60 (.tup []))=true then some (eqP (tupI (n::r)) (.tup [])) else none)=_
 rw [WK];rfl
theorem uG {x:Str}{c:Nat}(h:x.length<=900000):mthD .split (.str x) [.str (mk [c])]=some (LS (fD x (mk [c])),true):=by
 show (if (!((mk [c]).length==0)&&fits x.length&&fits (aK x (mk [c])).length)=true then some (D.lst ((aK x (mk [c])).map D.str),true) else none)=_
 have:=PyProof.Rows.split_le x (mk [c]);rw [if_pos];rw [fits_of (by omega),fits_of (by omega),yu];rfl
section
variable {p:List Int}{K:Nat}{S:Store}
theorem Us (h:POk p) (hK:1<=K):Is K 8 [tupI p] (.str (pw p),.st) S:=by
 obtain ⟨K,hk,rfl⟩:=up hK;refine Ws ?_;cases p with
 | nil=>
  nofun;exact ⟨rfl,rfl⟩
 | cons n r=>
  nofun;refine zr (zeW n r) ?_;nofun;refine wB ?_;dsimp only [wpI,zG];refine zH rfl ?_;refine kp_s rfl ?_;refine zr (a:=(n::r).map D.int) rfl ?_;have hl:(n::r).length<=6:=h.1;refine wz (f:=fun n=>D.str (N n)) (n::r) [] (by simp only [ς];omega) (fun x hx Q hQ=>?_) ?_
  ·refine zL (a:=[.sh (.int x)]) rfl ?_;dsimp only [wpF,wpEs,e_bi,zG];refine zF rfl ?_;refine zH rfl ?_;refine zA (zV (h.inn x hx)) ?_;exact kp_s rfl hQ
  ·rw [Ϥ,show (n::r).map (fun n=>D.str (N n))=((n::r).map N).map D.str by rw [Ϭ];rfl];nofun;refine zA (jE (x:=mk [46]) (ys:=(n::r).map N) ?_) ?_
   ·have:=zge h.inn;rw [ζ,yu];simp only [η,ς] at this hl ⊢;omega
   nofun;exact ⟨rfl,rfl⟩
theorem zbH {l:List D}{a b:Int}(hK:1<=K):Tl K 3 [.tup l,.int a,.int b] (decide (a<=l.length)&&decide ((l.length:Int)<=b)) S:=by
 obtain ⟨K,hk,rfl⟩:=up hK;refine Zb ?_;nofun;refine yC (fun h=>?_) (fun h=>?_)
 ·nofun;refine ⟨?_,rfl⟩;rw [show decide (a<=(l.length:Int))=true from h];rfl
 ·nofun;refine ⟨?_,rfl⟩;rw [show decide (a<=(l.length:Int))=false from h];rfl
theorem Xh (h:POk p) (hK:2<=K):Tl K 5 [tupI p] true S:=by
 obtain ⟨K,hk,rfl⟩:=up hK;refine KY ?_;nofun;refine (zbH (l:=p.map D.int) (by omega)).go ?_;have hl:=h.1;rw [show (decide ((0:Int)<=(p.map D.int).length)&&decide (((p.map D.int).length:Int)<=6))=true by rw [ζ,decide_eq_true (by omega),decide_eq_true (by omega)];rfl];nofun;refine wB ?_;dsimp only [wpI,zG];refine zH rfl ?_;refine kp_s rfl ?_;refine zr (a:=p.map D.int) rfl ?_;refine jQ (fun _=>true) (p.map D.int) [] (by rw [ζ];simp only [ς];omega) (fun x hx Q hQ=>?_) ?_
 ·obtain ⟨n,hn,rfl⟩:=Φ.mp hx;have h9:=h.2 n hn;refine zL (a:=[.sh (.int n)]) rfl ?_;dsimp only [wpF,wpEs,za4,Kg,xF,ziQ,yw,zcL,zG];refine zF rfl ?_;refine zH rfl ?_;refine kp_s rfl ?_;refine (V4 (d:=.int n) rfl (by omega)).go ?_;nofun;refine zF rfl ?_;nofun;refine zF (decide_eq_true h9.1) ?_;refine zr (a:=true) (congrArg some (decide_eq_true h9.2)) ?_;exact kp_s rfl hQ
 ·rw [Ϥ];nofun;refine zA (Jv _) ?_;rw [show ((p.map D.int).map fun _=>true).all id=true by rw [cM,cM,ϒ];intro _ _;rfl];nofun;exact ⟨rfl,rfl⟩
theorem zj8 {n:Int}{r:List Int}(h:POk (n::r)):(pw (n::r)==("-":Str))=false:=by
 refine beq_eq_false_iff_ne.mpr fun e=>?_
 have e1:cs (pw (n::r))=[45]:=by rw [e];rfl
 have e2:=wG 46 ((n::r).map N);rw [show ϲ (mk [46]) ((n::r).map N)=pw (n::r) from rfl,e1] at e2;obtain ⟨_,_,h1,h2,_⟩:=N_cs (h.inn n μ);have h3:∀ (x:List Nat) (l:List (List Nat)),x.all dg=true->1<=x.length->jl 46 (x::l)≠[45]:=fun x l a b e=>by
  cases x with
  | nil=>cases b
  | cons c x=>
   have a:(dg c&&x.all dg)=true:=a;rw [ε] at a;have:c=45:=by
    cases l with
    | nil=>exact (Ψ e).1
    | cons _ _=>exact (Ψ e).1
   rw [this] at a;exact absurd a.1 (by decide)
 exact h3 _ _ h1 h2 e2.symm
theorem zb0 {n:Int}{r:List Int}(h:POk (n::r)):fD (pw (n::r)) (mk [46])=(n::r).map N:=
 xP (by simp) fun q hq=>by obtain ⟨m,hm,rfl⟩:=Φ.mp hq;exact uw (h.inn m hm) (by decide)
theorem zdj (h:POk p):(pw p).length<=1000:=by
 cases p with
 | nil=>decide
 | cons n r=>
  have h1:(pw (n::r)).length<=(((n::r).map N).map (·.length)).sum+((n::r).map N).length*(mk [46]).length:=by
   show (ϲ (mk [46]) ((n::r).map N)).length<=_
   rw [show ϲ (mk [46]) ((n::r).map N)=lr (mk [46]) ((n::r).map N) from bO _ _];exact dU _ _
  have h2:=zge h.inn;have h3:=h.1;rw [ζ,yu] at h1;simp only [η,ς] at h1 h2 h3 ⊢;omega
theorem Q5 (h:POk p) (hK:4<=K):Is K 23 [.str (pw p)] (tupI p,.st) S:=by
 obtain ⟨K,hk,rfl⟩:=up hK;refine KQ ?_;cases p with
 | nil=>
  nofun;refine (Xh (p:=[]) h (by omega)).go ?_;nofun;exact ⟨rfl,rfl⟩
 | cons n r=>
  nofun;refine wU (zj8 h) ?_;nofun;refine wB ?_;dsimp only [wpI,zG,Kh,yw,wpEs];refine zH rfl ?_;refine zF rfl ?_;refine kp_s rfl ?_;have e:=uG (x:=pw (n::r)) (c:=46) (by have:=zdj h;omega);rw [zb0 h] at e;refine vQ e ?_;refine kp_f rfl ?_;refine zr (a:=((n::r).map N).map D.str) rfl ?_;rw [Ϭ];have hl:(n::r).length<=6:=h.1;refine wz (enc:=D.str∘N) (f:=D.int) (n::r) [] (by simp only [ς];omega) (fun x hx Q hQ=>?_) ?_
  ·refine zL (a:=[.sh (.str (N x))]) rfl ?_;dsimp only [wpF,wpEs,xF,zG];refine zF rfl ?_;refine zH rfl ?_;refine kp_s rfl ?_;refine (YQ (h.inn x hx) (by omega)).go ?_;exact kp_s rfl hQ
  ·rw [Ϥ];refine zA (d:=tupI (n::r)) rfl ?_;nofun;refine (Xh h (by omega)).go ?_;nofun;exact ⟨rfl,rfl⟩
theorem Qv:∀ (ws:List Int),(ws.map D.int).all isSc=true
 | []=>rfl
 | _::ws=>by
  show (true&&(ws.map D.int).all isSc)=true
  rw [Qv ws];rfl
theorem zft {k:Int}{ls:List Int}(h:k∈ls):cmpD .NotIn (.int k) (.ktp (ls.map D.int))=some false:=by
 show ((if (isSc (.int k)&&(ls.map D.int).all isSc)=true then some ((ls.map D.int).any fun y=>eqP y (.int k)) else _).map (!·))=_
 rw [Qv,if_pos (show (isSc (D.int k)&&true)=true from rfl)];have:((ls.map D.int).any fun y=>eqP y (.int k))=true:=bz.mpr ⟨.int k,dJ h,beq_self_eq_true k⟩;rw [this];rfl
theorem Ui {ls:List Int}(h:POk p) (hl:(p.length:Int)∈ls) (hK:5<=K):Is K 20 [.str (pw p),.ktp (ls.map D.int)] (tupI p,.st) S:=by
 obtain ⟨K,hk,rfl⟩:=up hK;refine Wo ?_;nofun;refine (Q5 h (by omega)).go ?_;nofun;refine wU rfl ?_;nofun;refine zr (a:=false) ?_ ?_
 ·rw [<- ζ (f:=D.int)] at hl;exact zft hl
 nofun;exact ⟨rfl,rfl⟩
theorem zfQ {n:Int}{r:List Int}:cs (pw (n::r))=jl 46 ((n::r).map fun n=>cs (N n)):=by have:=wG 46 ((n::r).map N);rw [Ϭ] at this;exact this
theorem zaB (c:Nat):∀ (l:List (List Nat)) (x:List Nat),l≠[]->jl c (l++[x])=jl c l++c::x
 | [],_,h=>absurd rfl h
 | [y],x,_=>rfl
 | y::z::l,x,_=>by
  show y++c::jl c ((z::l)++[x])=(y++c::jl c (z::l))++c::x
  rw [zaB c (z::l) x (by simp)];simp
theorem zez {n m:Int}{r:List Int}:pw (n::r++[m])=pw (n::r)++mk [46]++N m:=by
 apply Zj;rw [zT,zT,vD];show cs (pw (n::(r++[m])))=_
 rw [zfQ,zfQ,<- List.cons_append,Ϝ,show ([m].map fun n=>cs (N n))=[cs (N m)] from rfl,zaB _ _ _ (by simp),ak];rfl
theorem zdV (x:D) (l:List D):cutD (x::l) (some 1) none=l:=Jp (n:=1) (l:=x::l) (by simp)
theorem zdw (h:POk p) (hK:1<=K):Is K 33 [tupI p] (.str (pw p),.st) S:=by
 obtain ⟨K,hk,rfl⟩:=up hK;refine ux ?_;cases p with
 | nil=>
  nofun;exact ⟨rfl,rfl⟩
 | cons n r=>
  nofun
  refine wU (by
   show (((mF D.int (n::r)).length:Int)==0)=false
   rw [ζ]
   exact beq_eq_false_iff_ne.mpr (by simp only [η];omega)) ?_
  nofun;refine zA (zV (h.inn n μ)) ?_;nofun;refine wp_walk (fun l ρ S'=>S'=S/\∃ (a b:List Int) (x2:Slot),r=a++b/\l=b.map D.int/\ρ=[.sh (tupI (n::r)),.sh (.str (pw (n::a))),x2]) ?_ ?_ _ _ _ ⟨rfl,[],r,.no,rfl,zdV _ _,rfl⟩
  ·rintro d l ρ S' ⟨rfl,a,b,x2,e1,e2,rfl⟩;cases b with
   | nil=>cases e2
   | cons m b=>
    obtain ⟨rfl,rfl⟩:=Ψ e2;have hm:m∈n::r:=ν _ (by rw [e1];simp)
    have ha:POk (n::a):=⟨by have:=h.1;rw [e1] at this;simp only [η,π] at this ⊢;omega,fun x hx=>h.2 x (by
     rw [e1];rcases υ.mp hx with rfl | hx
     ·exact μ
     ·exact ν _ (du _ hx))⟩
    have l1:=zdj ha;have l2:=wg (h.inn m hm);nofun;refine zA (wJ (x:=pw (n::a)) (y:=mk [46]) (by rw [yu];simp only [η,ς];omega)) ?_;nofun;refine zA (zV (h.inn m hm)) ?_;nofun;refine zA (wJ (x:=pw (n::a)++mk [46]) (y:=N m) (by rw [ym,zT,vD,π,<- ym];simp only [η,ς];omega)) ?_;rw [<- zez];nofun;exact ⟨rfl,a++[m],b,_,by rw [e1];simp,rfl,rfl⟩
  ·rintro ρ S' ⟨rfl,a,b,x2,e1,e2,rfl⟩;cases b with
   | cons _ _=>cases e2
   | nil=>
    rw [ύ] at e1;subst e1;nofun;exact ⟨rfl,rfl⟩
end
noncomputable abbrev Ed:=Option (Str×Int×Int)
noncomputable def edD:Ed->D
 | none=>.tup []
 | some (w,a,b)=>.tup [.str w,.int a,.int b]
noncomputable def eL:List Str:=["good","bad","off"]
def EOk:Ed->Prop
 | none=>True
 | some (w,a,b)=>w∈eL/\In a/\In b
noncomputable def ew:Ed->Str
 | none=>"-"
 | some (w,a,b)=>ϲ (mk [58]) [w,N a,N b]
theorem zcM {w:Str}(h:w∈eL):w="good"\/w="bad"\/w="off":=by simpa [eL] using h
theorem zcI (w:Str) (a b:Int):w++mk [58]++N a++mk [58]++N b=ew (some (w,a,b)):=by apply Zj;have:=wG 58 [w,N a,N b];rw [show ϲ (mk [58]) [w,N a,N b]=ew (some (w,a,b)) from rfl] at this;rw [this,zT,zT,zT,zT,vD];simp [jl]
theorem za5 {w:Str}(h:w∈eL):w.length<=4:=by rcases zcM h with rfl | rfl | rfl <;> decide
theorem za0 {e:Ed}(h:EOk e):(ew e).length<=100:=by
 cases e with
 | none=>decide
 | some x=>
  obtain ⟨w,a,b⟩:=x;obtain ⟨h1,h2,h3⟩:=h;have l1:=za5 h1;have l2:=wg h2;have l3:=wg h3;rw [<- zcI,ym,zT,zT,zT,zT,vD];simp only [π,η,ς];rw [<- ym,<- ym,<- ym];omega
section
variable {e:Ed}{K:Nat}{S:Store}
theorem zdA (h:EOk e) (hK:1<=K):Is K 34 [edD e] (.str (ew e),.st) S:=by
 obtain ⟨K,hk,rfl⟩:=up hK;refine uZ ?_;cases e with
 | none=>
  nofun;exact ⟨rfl,rfl⟩
 | some x=>
  obtain ⟨w,a,b⟩:=x;obtain ⟨h1,h2,h3⟩:=h;have l1:=za5 h1;have l2:=wg h2;have l3:=wg h3;have k1:(w++mk [58]).length<=5:=by rw [ym,zT,vD,π,<- ym];simp only [η,ς];omega
  have k2:(w++mk [58]++N a).length<=15:=by rw [ym,zT,π,<- ym,<- ym];omega
  have k3:(w++mk [58]++N a++mk [58]).length<=16:=by rw [ym,zT,vD,π,<- ym];simp only [η,ς];omega
  nofun;refine wU rfl ?_;nofun;refine zA (wJ (x:=w) (y:=mk [58]) (by rw [yu];simp only [η,ς];omega)) ?_;nofun;refine zA (zV h2) ?_;nofun;refine zA (wJ (x:=w++mk [58]) (y:=N a) (by omega)) ?_;nofun;refine zA (wJ (x:=w++mk [58]++N a) (y:=mk [58]) (by rw [yu];simp only [η,ς];omega)) ?_;nofun;refine zA (zV h3) ?_;nofun;refine zA (wJ (x:=w++mk [58]++N a++mk [58]) (y:=N b) (by omega)) ?_;rw [zcI];nofun;exact ⟨rfl,rfl⟩
theorem Jh (h:EOk e) (hK:1<=K):Is K 9 [edD e] (.str (ew e),.st) S:=by
 obtain ⟨K,hk,rfl⟩:=up hK;refine JD ?_;cases e with
 | none=>
  nofun;exact ⟨rfl,rfl⟩
 | some x=>
  obtain ⟨w,a,b⟩:=x;obtain ⟨h1,h2,h3⟩:=h;have l1:=za5 h1;have l2:=wg h2;have l3:=wg h3;nofun;refine wU rfl ?_;nofun;refine wB ?_;dsimp only [wpI,zG];refine zH rfl ?_;refine kp_s rfl ?_;refine zr (a:=[((.str w:D),w),(.int a,N a),(.int b,N b)].map (·.1)) rfl ?_;refine wz (enc:=fun x:D×Str=>x.1) (f:=fun x=>.str x.2) _ [] (by simp only [η,ς];omega) (fun x hx Q hQ=>?_) ?_
  ·simp only [υ,ϗ,or_false] at hx;rcases hx with rfl | rfl | rfl
   ·refine zL (a:=[.sh (.str w)]) rfl ?_;dsimp only [wpF,wpEs,e_bi,zG];refine zF rfl ?_;refine zH rfl ?_;refine zA (d:=.str w) rfl ?_;exact kp_s rfl hQ
   ·refine zL (a:=[.sh (.int a)]) rfl ?_;dsimp only [wpF,wpEs,e_bi,zG];refine zF rfl ?_;refine zH rfl ?_;refine zA (zV h2) ?_;exact kp_s rfl hQ
   ·refine zL (a:=[.sh (.int b)]) rfl ?_;dsimp only [wpF,wpEs,e_bi,zG];refine zF rfl ?_;refine zH rfl ?_;refine zA (zV h3) ?_;exact kp_s rfl hQ
  ·nofun;refine zA (jE (x:=mk [58]) (ys:=[w,N a,N b]) ?_) ?_
   ·rw [yu];simp only [Κ,bL,fJ,iw,η,ς];omega
   nofun;exact ⟨rfl,rfl⟩
theorem zkC {w:Str}{a b:Int}(h:w∈eL):(ew (some (w,a,b))==("-":Str))=false:=by
 refine beq_eq_false_iff_ne.mpr fun e=>?_
 have e1:cs (ew (some (w,a,b)))=[45]:=by rw [e];rfl
 rw [<- zcI,zT,zT,zT,zT] at e1;have:=congrArg List.length e1;rw [vD] at this;simp only [π,η,ς] at this;omega
theorem zcH {w:Str}{a b:Int}(h:EOk (some (w,a,b))):fD (ew (some (w,a,b))) (mk [58])=[w,N a,N b]:=
 xP (by simp) fun q hq=>by
  obtain ⟨h1,h2,h3⟩:=h;simp only [υ,ϗ,or_false] at hq;rcases hq with rfl | rfl | rfl
  ·rcases zcM h1 with rfl | rfl | rfl <;> decide
  ·exact uw h2 (by decide)
  ·exact uw h3 (by decide)
theorem QD (h:EOk e) (hK:5<=K):Is K 21 [.str (ew e)] (edD e,.st) S:=by
 obtain ⟨K,hk,rfl⟩:=up hK;refine Jy ?_;cases e with
 | none=>
  nofun;exact ⟨rfl,rfl⟩
 | some x=>
  obtain ⟨w,a,b⟩:=x;have hl:=za0 h;have hs:=zcH h;obtain ⟨h1,h2,h3⟩:=h;nofun;refine wU (zkC h1) ?_;nofun;have es:=uG (x:=ew (some (w,a,b))) (c:=58) (by omega);rw [hs] at es;refine zF rfl ?_;refine kp_s rfl ?_;refine vQ es ?_;nofun;refine wU rfl ?_;nofun;refine wU (b:=!([D.str "good",D.str "bad",D.str "off"].any fun y=>eqP y (D.str w))) ?_ ?_
  ·rcases zcM h1 with rfl | rfl | rfl <;> decide +kernel
  nofun;refine (yN h2 (by omega)).go ?_;nofun;refine (yN h3 (by omega)).go ?_;nofun;exact ⟨rfl,rfl⟩
end
section
variable {cf:Cf}{ρ:List Slot}{V:Po}{S:Store}
theorem ziR {l:List Str}{o:E}{f:Str}:wpE cf ρ (.att l o f) V S=(wpE cf ρ o (fun x S1=>keep x fun r=>isOb S1 r fun _ c ns ds=>tst (l.contains c) (opt (yO ns ds f) fun d=>V (d,.st) S1) False) S):=rfl
theorem ziN {ms:List (Str×Nat)}{o:E}{m:Str}{es:List E}:wpE cf ρ (.met ms o m es) V S=(wpE cf ρ o (fun x S1=>keep x fun r=>isOb S1 r fun k c ns _=>tst (!ns.contains m) (opt (ms.lookup c) fun f=>wpEs cf ρ es (fun ds S2=>cf f (.ref k::ds) V S2) S1) False) S):=rfl
noncomputable def Zu (ls:List (List Str)):List D:=ls.map LS
noncomputable abbrev ob (ls:List (List Str)) (i:Int):D:=.ins "Lines" ["rows","at"] [.lst (Zu ls),.int i]
variable {r:Nat}{i:Int}{ls:List (List Str)}
theorem zjb (h0:ρ[0]?=some (.sh (.ref r))) (hr:S[r]?=some (ob ls i)) (q:V (.lst (Zu ls),.st) S):wpE cf ρ (.att [("Lines":Str)] ⇑0 "rows") V S:=by rw [ziR,zG];refine zH h0 ?_;refine yP hr ?_;refine zF rfl ?_;exact zr rfl q
theorem zjc (h0:ρ[0]?=some (.sh (.ref r))) (hr:S[r]?=some (ob ls i)) (q:V (.int i,.st) S):wpE cf ρ (.att [("Lines":Str)] ⇑0 "at") V S:=by rw [ziR,zG];refine zH h0 ?_;refine yP hr ?_;refine zF rfl ?_;exact zr rfl q
theorem YZ {m:Str}{f:Nat}(h0:ρ[0]?=some (.sh (.ref r))) (hr:S[r]?=some (ob ls i)) (hm:(m==("rows":Str)||m==("at":Str))=false) (q:cf f [.ref r] V S):wpE cf ρ (.met [(("Lines":Str),f)] ⇑0 m []) V S:=by
 rw [ziN,zG];refine zH h0 ?_;refine yP hr ?_;refine zF ?_ ?_
 ·show (!(m==("rows":Str)||(m==("at":Str)||false)))=true
  rw [ph,hm];rfl
 refine zr (a:=f) ?_ q;rfl
end
section
variable {K r:Nat}{i:Int}{ls:List (List Str)}{S:Store}
theorem U3 (hr:S[r]?=some (ob ls i)) (hK:1<=K):Tl K 40 [.ref r] (decide (i < (Zu ls).length)) S:=by obtain ⟨K,hk,rfl⟩:=up hK;refine uy ?_;refine yx ?_;dsimp only [wpC,Xy,e_bi,wpEs];refine zjc rfl hr ?_;refine zjb rfl hr ?_;nofun;exact ⟨rfl,rfl⟩
theorem Jw {ws:List Str}(hr:S[r]?=some (ob ls i)) (h0:0<=i) (h1:ls[i.toNat]?=some ws) (hK:2<=K):Is K 41 [.ref r] (LS ws,.st) S:=by
 obtain ⟨K,hk,rfl⟩:=up hK;have hlt:i.toNat < ls.length:=(Β.mp h1).1;have hl:i < ((Zu ls).length:Int):=by unfold Zu;rw [ζ];omega
 refine Ze ?_;refine yx ?_;dsimp only [wpC,ziM];refine YZ rfl hr (by decide +kernel) ?_;refine (U3 hr (by omega)).go ?_;rw [decide_eq_true hl];nofun;refine zjb rfl hr ?_;refine zjc rfl hr ?_;refine zr (a:=LS ws) (qx h0 (by unfold Zu;rw [Ρ,h1];rfl)) ?_;nofun;exact ⟨rfl,rfl⟩
theorem zbJ {ws:List Str}(hr:S[r]?=some (ob ls i)) (h0:0<=i) (h1:ls[i.toNat]?=some ws) (hK:3<=K):xH F wh K 42 [.ref r] (fun x S'=>x=(LS ws,.st)/\S'=S.set r (ob ls (i+1))) S:=by obtain ⟨K,hk,rfl⟩:=up hK;refine Zd ?_;refine yx ?_;dsimp only [wpC];refine YZ rfl hr (by decide +kernel) ?_;refine (Jw hr h0 h1 (by omega)).go ?_;refine zL (a:=[.sh (.ref r),.sh (LS ws)]) rfl ?_;refine z6 ?_;refine yx ?_;dsimp only [wpC,zG,yw];refine zH rfl ?_;refine yP hr ?_;refine zF rfl ?_;refine zr rfl ?_;refine yP hr ?_;refine zr rfl ?_;refine zF rfl ?_;nofun;exact ⟨rfl,rfl⟩
theorem zbn {w:Str}(hr:S[r]?=some (ob ls i)) (h1:(ls.length:Int)<=i) (hK:2<=K):Tl K 12 [.ref r,.str w] false S:=by obtain ⟨K,hk,rfl⟩:=up hK;refine V5 ?_;refine yx ?_;dsimp only [wpC,za4,Kg,Xy];refine YZ rfl hr (by decide +kernel) ?_;refine (U3 hr (by omega)).go ?_;rw [decide_eq_false (by unfold Zu;rw [ζ];omega)];nofun;exact ⟨rfl,rfl⟩
theorem Wf {w w0:Str}{ws:List Str}(hr:S[r]?=some (ob ls i)) (h0:0<=i) (h1:ls[i.toNat]?=some (w0::ws)) (hK:3<=K):Tl K 12 [.ref r,.str w] (w0==w) S:=by obtain ⟨K,hk,rfl⟩:=up hK;have hlt:i.toNat < ls.length:=(Β.mp h1).1;refine V5 ?_;refine yx ?_;dsimp only [wpC,za4,Kg,Xy,Xx];refine YZ rfl hr (by decide +kernel) ?_;refine (U3 hr (by omega)).go ?_;rw [decide_eq_true (by unfold Zu;rw [ζ];omega)];nofun;refine YZ rfl hr (by decide +kernel) ?_;refine (Jw hr h0 h1 (by omega)).go ?_;dsimp only [yw,zG];refine zr (a:=.str w0) (qx (l:=(w0::ws).map D.str) (by decide) rfl) ?_;nofun;exact ⟨rfl,rfl⟩
theorem uK {w:Str}{ws:List Str}{m:Int}(h:m=(((w::ws).map D.str).length:Int)) (hK:1<=K):Is K 13 [LS (w::ws),.str w,.int m] (LS (w::ws),.st) S:=by
 obtain ⟨K,hk,rfl⟩:=up hK;refine JB ?_;nofun
 refine wU (by
  show (!((((w::ws).map D.str).length:Int)==m))=false
  rw [<- h,beq_self_eq_true]
  rfl) ?_
 nofun;exact ⟨rfl,rfl⟩
end
noncomputable def ln (ws:List Str):Str:=ϲ (mk [32]) ws
noncomputable def tx (ls:List (List Str)):Str:=ϲ (mk [10]) (ls.map ln)
structure LOk (ls:List (List Str)):Prop where
 ne:ls≠[]
 nn:∀ ws∈ls,ws≠[]
 fr:∀ ws∈ls,∀ w∈ws,32 ∉ cs w/\10 ∉ cs w
 ct:ls.length<=900
 lw:∀ ws∈ls,(ln ws).length<=600
theorem Vr {c d:Nat}(h:c≠d):∀ {ps:List (List Nat)},(∀ p∈ps,c ∉ p)->c ∉ jl d ps
 | [],_=>fun h=>nomatch h
 | [p],hp=>hp p μ
 | p::q::ps,hp=>fun hm=>by
  have hm:c∈p++d::jl d (q::ps):=hm;rcases aD.mp hm with hm | hm
  ·exact hp p μ hm
  ·rcases υ.mp hm with e | hm
   ·exact h e
   ·exact Vr h (fun x hx=>hp x (ν _ hx)) hm
theorem zbF {ls:List (List Str)}(h:LOk ls):fD (tx ls) (mk [10])=ls.map ln:=
 xP (by simpa using h.ne) fun p hp=>by
  obtain ⟨ws,hw,rfl⟩:=Φ.mp hp;show 10 ∉ cs (ϲ (mk [32]) ws)
  rw [wG];refine Vr (by decide) fun q hq=>?_
  obtain ⟨w,h1,rfl⟩:=Φ.mp hq;exact (h.fr ws hw w h1).2
theorem zcv {ls:List (List Str)}(h:LOk ls) {ws:List Str}(hw:ws∈ls):fD (ln ws) (mk [32])=ws:=
 xP (h.nn ws hw) fun w h1=>(h.fr ws hw w h1).1
theorem zgp {ls:List (List Str)}(h:LOk ls):(tx ls).length<=900000:=by
 have h1:(tx ls).length<=((ls.map ln).map (·.length)).sum+(ls.map ln).length*(mk [10]).length:=by
  show (ϲ (mk [10]) (ls.map ln)).length<=_
  rw [show ϲ (mk [10]) (ls.map ln)=lr (mk [10]) (ls.map ln) from bO _ _];exact dU _ _
 have h2:=Ua (l:=ls.map ln) (k:=600) fun x hx=>by obtain ⟨ws,hw,rfl⟩:=Φ.mp hx;exact h.lw ws hw
 have h3:=h.ct;rw [ζ] at h1 h2;rw [yu] at h1;simp only [η,ς] at h1;omega
section
variable {K r:Nat}{S:Store}{ls:List (List Str)}
theorem e_mk {cf:Cf}{ρ:List Slot}{V:Po}{S:Store}{c:Str}{f:Nat}{es:List E}:wpE cf ρ (.mk c f es) V S=(wpEs cf ρ es (fun ds S1=>cf f (.ref S1.length::ds) (fun x S2=>isN x.1 (V (.ref S1.length,.st) S2)) (S1++[.ins c [] []])) S):=rfl
theorem zfs (h:LOk ls) (hr:S[r]?=some (.ins "Lines" [] [])) (hK:1<=K):xH F wh K 39 [.ref r,.str (tx ls)] (fun x S'=>x=(.non,.st)/\S'=S.set r (ob ls 0)) S:=by
 obtain ⟨K,hk,rfl⟩:=up hK;have hlt:r < S.length:=(Β.mp hr).1;have hc:=h.ct;refine uz ?_;refine yx ?_;dsimp only [wpC,zG,yw];refine wB ?_;dsimp only [wpI,zG,Kh,yw,wpEs];refine zH rfl ?_;refine zF rfl ?_;refine kp_s rfl ?_;have e:=uG (x:=tx ls) (c:=10) (zgp h);rw [zbF h] at e;refine vQ e ?_;refine kp_f rfl ?_;refine zr (a:=(ls.map ln).map D.str) rfl ?_;rw [Ϭ];refine wz (enc:=D.str∘ln) (f:=LS) ls [] (by simp only [ς];omega) (fun ws hw Q hQ=>?_) ?_
 ·have e2:=uG (x:=ln ws) (c:=32) (by have:=h.lw ws hw;omega);rw [zcv h hw] at e2;refine zL (a:=[.sh (.str (ln ws))]) rfl ?_;dsimp only [wpF,wpEs,Kh,yw,zG];refine zF rfl ?_;refine zH rfl ?_;refine zF rfl ?_;refine kp_s rfl ?_;refine vQ e2 ?_;exact kp_f rfl hQ
 rw [Ϥ];refine kp_f rfl ?_;refine zH rfl ?_;refine kp_s rfl ?_;refine yP hr ?_;refine zF rfl ?_;refine z6 ?_;refine yx ?_;dsimp only [wpC,zG,yw];refine kp_s rfl ?_;refine zH rfl ?_;refine kp_s rfl ?_;refine yP (ϡ hlt) ?_;refine zF rfl ?_;refine z6 ?_;refine ul ?_;refine K9 ?_;refine ⟨rfl,?_⟩;rw [List.set_set];rfl
end
structure Stt where
 rm:Int
 sl:List Int
 a:Int
 b:Int
 c:Bool
noncomputable def stD (s:Stt):D:=.tup [.int s.rm,tupI s.sl,.int s.a,.int s.b,.bl s.c]
structure SOk (s:Stt):Prop where
 rm:In s.rm
 a:In s.a
 b:In s.b
 sl:∀ n∈s.sl,In n
 ln:s.sl.length<=40
noncomputable def b1:Bool->Int
 | true=>1
 | false=>0
noncomputable def sn (s:Stt):List Int:=s.rm::s.a::s.b::b1 s.c::s.sl
noncomputable def sw (s:Stt):List Str:="state"::(sn s).map N
theorem zbP {s:Stt}(h:SOk s):∀ n∈sn s,In n:=fun n hn=>by
 have hb:In (b1 s.c):=by cases s.c <;> exact ⟨by decide,by decide⟩
 simp only [sn,υ] at hn;rcases hn with rfl | rfl | rfl | rfl | hn
 ·exact h.rm
 ·exact h.a
 ·exact h.b
 ·exact hb
 ·exact h.sl n hn
theorem Ql {s:Stt}(h:SOk s):(sn s).length<=44:=by have:=h.ln;simp only [sn,η];omega
theorem w_sum {l:List Str}{k:Nat}(h:∀ x∈l,x.length<=k) (c:Nat) (hb:l.length*k+l.length<=1000000):(l.map (·.length)).sum+l.length*(mk [c]).length<=1000000:=by have:=Ua h;rw [yu];simp only [η,ς];omega
theorem sw_w {s:Stt}(h:SOk s):∀ x∈sw s,x.length<=10:=fun x hx=>by
 rcases υ.mp hx with rfl | hx
 ·decide
 ·obtain ⟨n,hn,rfl⟩:=Φ.mp hx;exact wg (zbP h n hn)
theorem zc9 {s:Stt}(h:SOk s):(sw s).length<=45:=by
 have:=Ql h;show (("state":Str)::(sn s).map N).length<=45
 rw [η,ζ];omega
theorem zda {cf:Cf}{ρ:List Slot}{V:Po}{S:Store}{it:E}{ns:List Int}(hn:∀ n∈ns,In n) (hl:ns.length<=1000) (h:∀ W:List D->Store->Prop,W (ns.map D.int) S->wpI cf ρ it W S) (q:V (LS (ns.map N),.fr) S):wpE cf ρ (.comp (.one 0) [] it [] (.bi .str [.var 0])) V S:=by
 refine wB ?_;refine h _ ?_;refine wz (f:=fun n=>D.str (N n)) ns [] (by simp only [ς];omega) (fun x hx Q hQ=>?_) ?_
 ·refine zL (a:=[.sh (.int x)]) rfl ?_;dsimp only [wpF,wpEs,e_bi,zG];refine zF rfl ?_;refine zH rfl ?_;refine zA (zV (hn x hx)) ?_;exact kp_s rfl hQ
 ·rw [Ϥ,show ns.map (fun n=>D.str (N n))=(ns.map N).map D.str by rw [Ϭ];rfl];exact q
section
variable {s:Stt}{K:Nat}{S:Store}
theorem zbQ (h:SOk s) (hK:1<=K):Is K 10 [stD s] (.str (ln (sw s)),.st) S:=by
 obtain ⟨K,hk,rfl⟩:=up hK;have h2:=Ql h;have h4:=zc9 h;have h3:=w_sum (sw_w h) 32 (by omega);obtain ⟨r0,sl,a0,b0,c0⟩:=s;have hl:sl.length<=40:=h.ln;refine Yd ?_;nofun;refine yC (fun e=>?_) (fun e=>?_)
 all_goals
  subst e;nofun;refine vQ (Z9 (a:=[.int r0,.int a0,.int b0,_]) (b:=sl.map D.int) (by rw [ζ];simp only [η,ς];omega)) ?_;nofun;refine zda (ns:=sn ⟨r0,sl,a0,b0,_⟩) (zbP h) (by omega) (fun W q=>?_) ?_
  ·dsimp only [wpI,zG];refine zH rfl ?_;refine kp_s rfl ?_;exact zr rfl q
  refine vQ (Z9 (a:=[.str "state"]) (b:=((sn ⟨r0,sl,a0,b0,_⟩).map N).map D.str) (by rw [ζ,ζ];simp only [η,ς];omega)) ?_;refine kp_f rfl ?_;refine zA (jE (x:=mk [32]) (ys:=sw ⟨r0,sl,a0,b0,_⟩) h3) ?_;nofun;exact ⟨rfl,rfl⟩
theorem zi6 (c:Bool):(!([D.str "0",D.str "1"].any fun y=>eqP y (D.str (N (b1 c)))))=false:=by cases c <;> decide +kernel
theorem Qy (h:SOk s) (hK:5<=K):Is K 15 [LS (sw s)] (stD s,.st) S:=by
 obtain ⟨K,hk,rfl⟩:=up hK;have h2:=Ql h;refine Ye ?_;nofun
 refine wU (by
  show decide ((((sw s).map D.str).length:Int) < 5)=false
  rw [ζ];refine decide_eq_false ?_;simp only [sw,sn,ζ,η]
  omega) ?_
 nofun;refine wU (zi6 s.c) ?_;nofun;refine wB ?_;dsimp only [wpI,ziL,zG,wpO,yw];refine zH rfl ?_;refine Xi rfl ?_;refine vQ (d:=.lst (((sn s).map N).map D.str)) (congrArg (fun x=>some (D.lst x,true)) (zdV _ _)) ?_;refine kp_f rfl ?_;refine zr (a:=((sn s).map N).map D.str) rfl ?_;rw [Ϭ];refine wz (enc:=D.str∘N) (f:=D.int) (sn s) [] (by simp only [ς];omega) (fun x hx Q hQ=>?_) ?_
 ·refine zL (a:=[.sh (.str (N x))]) rfl ?_;dsimp only [wpF,wpEs,xF,zG];refine zF rfl ?_;refine zH rfl ?_;refine kp_s rfl ?_;refine (yN (zbP h x hx) (by omega)).go ?_;exact kp_s rfl hQ
 rw [Ϥ];nofun;have ec:cutD ((sn s).map D.int) (some 4) none=s.sl.map D.int:=Jp (n:=4) (l:=(sn s).map D.int) (by simp only [sn,ζ,η];omega);rw [ec];refine ⟨?_,rfl⟩;show (D.tup [.int s.rm,tupI s.sl,.int s.a,.int s.b,.bl (b1 s.c==1)],Kd.st)=(stD s,Kd.st)
 unfold stD;cases s.c <;> rfl
end
noncomputable abbrev Nt:=Int×Str×Int
noncomputable def ntD (n:Nt):D:=.tup [.int n.1,.str n.2.1,.int n.2.2]
noncomputable def nL:List Str:=["tell","do","done","undo","undone"]
structure NOk (n:Nt):Prop where
 a:In n.1
 w:n.2.1∈nL
 b:In n.2.2
noncomputable def nw (n:Nt):List Str:=["note",N n.1,n.2.1,N n.2.2]
noncomputable def wL:List Str:=["a","ab","house","state","note","ask","hour","zzzzzzzz"]
section
variable {n:Nt}{w:Str}{K:Nat}{S:Store}
theorem zkm (h:w∈nL):(!((nL.map D.str).any fun y=>eqP y (D.str w)))=false:=by simp only [nL,υ,ϗ,or_false] at h;rcases h with rfl | rfl | rfl | rfl | rfl <;> decide +kernel
theorem zbV (h:NOk n) (hK:5<=K):Is K 16 [LS (nw n)] (ntD n,.st) S:=by obtain ⟨K,hk,rfl⟩:=up hK;refine Wq ?_;nofun;refine (uK (w:="note") (ws:=[N n.1,n.2.1,N n.2.2]) rfl (by omega)).go ?_;nofun;refine wU (zkm h.w) ?_;nofun;refine (yN h.a (by omega)).go ?_;nofun;refine (yN h.b (by omega)).go ?_;nofun;exact ⟨rfl,rfl⟩
theorem WD (h:w∈wL):zgh (.str w)=true/\plD (.str w)=true/\w.length<=8:=by simp only [wL,υ,ϗ,or_false] at h;rcases h with rfl | rfl | rfl | rfl | rfl | rfl | rfl | rfl <;> decide +kernel
theorem Uh (h:w∈wL) (hK:2<=K):Is K 18 [.str w] (.str w,.st) S:=by obtain ⟨K,hk,rfl⟩:=up hK;obtain ⟨h1,h2,_⟩:=WD h;refine Wn ?_;nofun;refine (zd0 h2 (by omega)).go ?_;rw [h1];nofun;exact ⟨rfl,rfl⟩
end
structure Ak where
 p:List Int
 w:Str
 n:Int
 s:Int
 e:Ed
noncomputable def akD (a:Ak):D:=.tup [tupI a.p,.str a.w,.int a.n,.int a.s,edD a.e]
noncomputable def aw (a:Ak):List Str:=["ask",pw a.p,a.w,N a.n,N a.s,ew a.e]
structure AOk (a:Ak):Prop where
 p:POk a.p
 pl:(a.p.length:Int)∈([2,4,6]:List Int)
 w:a.w∈wL
 n:In a.n
 s:In a.s
 e:EOk a.e
section
variable {a:Ak}{K:Nat}{S:Store}
theorem zeu (h:AOk a) (hK:6<=K):Is K 17 [LS (aw a)] (akD a,.st) S:=by obtain ⟨K,hk,rfl⟩:=up hK;refine Jz ?_;nofun;refine (uK (w:="ask") (ws:=[pw a.p,a.w,N a.n,N a.s,ew a.e]) rfl (by omega)).go ?_;nofun;refine (Ui (ls:=[2,4,6]) h.p h.pl (by omega)).go ?_;nofun;refine (Uh h.w (by omega)).go ?_;nofun;refine (yN h.n (by omega)).go ?_;nofun;refine (yN h.s (by omega)).go ?_;nofun;refine (QD h.e (by omega)).go ?_;nofun;exact ⟨rfl,rfl⟩
end
structure Hs where
 p:List Int
 w:Str
 b:Int
 e:Ed
 ns:List Nt
 st:Option Stt
noncomputable def stO:Option Stt->D
 | none=>.tup []
 | some s=>stD s
noncomputable def hsD (h:Hs):D:=.tup [tupI h.p,.str h.w,.int h.b,edD h.e,.tup (h.ns.map ntD),stO h.st]
noncomputable def swO:Option Stt->List (List Str)
 | none=>[]
 | some s=>[sw s]
noncomputable def hd (h:Hs):List Str:=["house",pw h.p,h.w,N h.b,ew h.e]
noncomputable def hw (h:Hs):List (List Str):=hd h::(swO h.st++h.ns.map nw)
structure HOk (h:Hs):Prop where
 p:POk h.p
 pl:(h.p.length:Int)∈([0,2,4]:List Int)
 w:h.w∈wL
 b:In h.b
 e:EOk h.e
 ns:∀ n∈h.ns,NOk n
 nl:h.ns.length<=3
 st:h.st.isSome=h.e.isNone
 so:∀ s,h.st=some s->SOk s
structure Hl where
 t:Int
 hs:List Hs
 as:List Ak
noncomputable def hlD (H:Hl):D:=.tup [.int H.t,.tup (H.hs.map hsD),.tup (H.as.map akD)]
noncomputable def hls (H:Hl):List (List Str):=["hour",N H.t]::((H.hs.map hw).flatten++H.as.map aw)
structure LHOk (H:Hl):Prop where
 t:In H.t
 hs:∀ h∈H.hs,HOk h
 as:∀ a∈H.as,AOk a
 hu:(H.hs.map (·.p)).Pairwise LeL
 hn:(H.hs.map (·.p)).Nodup
 hl:H.hs.length<=5
 au:(H.as.map (·.p)).Pairwise LeL
 an:(H.as.map (·.p)).Nodup
 al:H.as.length<=5
theorem QL {p:List Int}(h:POk p) {c:Nat}(hd:dg c=false) (h6:c≠46) (h5:c≠45):c ∉ cs (pw p):=by
 cases p with
 | nil=>intro hm;exact h5 (by simpa using (show c∈[45] from hm))
 | cons n r=>
  rw [zfQ];refine Vr h6 fun q hq=>?_
  obtain ⟨m,hm,rfl⟩:=Φ.mp hq;exact uw (h.inn m hm) hd
theorem za1 {e:Ed}(h:EOk e) {c:Nat}(hc:c=32\/c=10):c ∉ cs (ew e):=by
 cases e with
 | none=>rcases hc with rfl | rfl <;> decide
 | some x=>
  obtain ⟨w,a,b⟩:=x;obtain ⟨h1,h2,h3⟩:=h;have d:dg c=false:=by rcases hc with rfl | rfl <;> rfl
  have n1:=uw h2 d;have n2:=uw h3 d;have n3:c ∉ cs w:=by rcases zcM h1 with rfl | rfl | rfl <;> rcases hc with rfl | rfl <;> decide
  have n4:c ∉ ([58]:List Nat):=by rcases hc with rfl | rfl <;> decide
  rw [<- zcI,zT,zT,zT,zT,vD];simp only [aD];rintro ((((m | m) | m) | m) | m)
  ·exact n3 m
  ·exact n4 m
  ·exact n1 m
  ·exact n4 m
  ·exact n2 m
abbrev Fr (w:Str):Prop:=32 ∉ cs w/\10 ∉ cs w
theorem N_fr {n:Int}(h:In n):Fr (N n):=⟨uw h rfl,uw h rfl⟩
theorem zhi {p:List Int}(h:POk p):Fr (pw p):=⟨QL h rfl (by decide) (by decide),QL h rfl (by decide) (by decide)⟩
theorem ziJ {e:Ed}(h:EOk e):Fr (ew e):=⟨za1 h (.inl rfl),za1 h (.inr rfl)⟩
theorem zgj {w:Str}(h:w∈wL):Fr w:=by simp only [wL,υ,ϗ,or_false] at h;rcases h with rfl | rfl | rfl | rfl | rfl | rfl | rfl | rfl <;> exact ⟨by decide,by decide⟩
theorem zkn {w:Str}(h:w∈nL):Fr w/\w.length<=8:=by simp only [nL,υ,ϗ,or_false] at h;rcases h with rfl | rfl | rfl | rfl | rfl <;> exact ⟨⟨by decide,by decide⟩,by decide⟩
theorem QK {p:List Int}(h:POk p):(pw p).length<=70:=by
 cases p with
 | nil=>decide
 | cons n r=>
  have h1:(pw (n::r)).length<=(((n::r).map N).map (·.length)).sum+((n::r).map N).length*(mk [46]).length:=by
   show (ϲ (mk [46]) ((n::r).map N)).length<=_
   rw [show ϲ (mk [46]) ((n::r).map N)=lr (mk [46]) ((n::r).map N) from bO _ _];exact dU _ _
  have h2:=zge h.inn;have h3:=h.1;rw [ζ,yu] at h1;simp only [η,ς] at h1 h2 h3 ⊢;omega
structure LnOk (ws:List Str):Prop where
 nn:ws≠[]
 fr:∀ w∈ws,Fr w
 ln:(ws.map (·.length)).sum+ws.length<=600
theorem zap {ws:List Str}(h:LnOk ws):(ln ws).length<=600:=by
 have h1:(ln ws).length<=(ws.map (·.length)).sum+ws.length*(mk [32]).length:=by
  show (ϲ (mk [32]) ws).length<=_
  rw [show ϲ (mk [32]) ws=lr (mk [32]) ws from bO _ _];exact dU _ _
 have h2:=h.ln;rw [yu] at h1;simp only [η,ς] at h1;omega
theorem UV {ws:List Str}(h:LnOk ws):mthD .join (.str (mk [32])) [LS ws]=some (.str (ln ws),false):=by refine jE ?_;have:=h.ln;rw [yu];simp only [η,ς];omega
theorem zjq {s:Stt}(h:SOk s):LnOk (sw s):=by
 refine ⟨by simp [sw],fun w hw=>?_,?_⟩
 ·rcases υ.mp hw with rfl | hw
  ·exact ⟨by decide,by decide⟩
  ·obtain ⟨n,hn,rfl⟩:=Φ.mp hw;exact N_fr (zbP h n hn)
 ·have h1:=Ua (sw_w h);have h2:=zc9 h;omega
theorem zhU {n:Nt}(h:NOk n):LnOk (nw n):=by
 have h1:=wg h.a;have h2:=wg h.b;obtain ⟨h3,h4⟩:=zkn h.w;refine ⟨by simp [nw],fun w hw=>?_,?_⟩
 ·simp only [nw,υ,ϗ,or_false] at hw;rcases hw with rfl | rfl | rfl | rfl
  ·exact ⟨by decide,by decide⟩
  ·exact N_fr h.a
  ·exact h3
  ·exact N_fr h.b
 ·have:("note":Str).length=4:=by decide
  simp only [nw,Κ,bL,fJ,iw,η,ς];omega
theorem zi9 {a:Ak}(h:AOk a):LnOk (aw a):=by
 have h1:=wg h.n;have h2:=wg h.s;have h3:=QK h.p;have h4:=za0 h.e;have h5:=(WD h.w).2.2;refine ⟨by simp [aw],fun w hw=>?_,?_⟩
 ·simp only [aw,υ,ϗ,or_false] at hw;rcases hw with rfl | rfl | rfl | rfl | rfl | rfl
  ·exact ⟨by decide,by decide⟩
  ·exact zhi h.p
  ·exact zgj h.w
  ·exact N_fr h.n
  ·exact N_fr h.s
  ·exact ziJ h.e
 ·have:("ask":Str).length=3:=by decide
  simp only [aw,Κ,bL,fJ,iw,η,ς];omega
theorem ziB {h:Hs}(o:HOk h):LnOk (hd h):=by
 have h1:=wg o.b;have h3:=QK o.p;have h4:=za0 o.e;have h5:=(WD o.w).2.2;refine ⟨by simp [hd],fun w hw=>?_,?_⟩
 ·simp only [hd,υ,ϗ,or_false] at hw;rcases hw with rfl | rfl | rfl | rfl | rfl
  ·exact ⟨by decide,by decide⟩
  ·exact zhi o.p
  ·exact zgj o.w
  ·exact N_fr o.b
  ·exact ziJ o.e
 ·have:("house":Str).length=5:=by decide
  simp only [hd,Κ,bL,fJ,iw,η,ς];omega
theorem zkB {h:Hs}(o:HOk h):∀ ws∈hw h,LnOk ws:=fun ws hm=>by
 rcases υ.mp hm with rfl | hm
 ·exact ziB o
 rcases aD.mp hm with hm | hm
 ·cases e:h.st with
  | none=>rw [e] at hm;cases hm
  | some s=>
   rw [e] at hm;rw [Η.mp hm];exact zjq (o.so s e)
 ·obtain ⟨n,hn,rfl⟩:=Φ.mp hm;exact zhU (o.ns n hn)
theorem ziy {h:Hs}(o:HOk h):(hw h).length<=5:=by
 have:=o.nl;have:(swO h.st).length<=1:=by cases h.st <;> simp [swO]
 simp only [hw,η,π,ζ];omega
theorem xV:∀ {l:List Hs},(∀ h∈l,HOk h)->(l.map hw).flatten.length<=5*l.length
 | [],_=>by simp
 | h::l,o=>by
  have h1:=ziy (o h μ);have h2:=xV (l:=l) fun x hx=>o x (ν _ hx)
  rw [Κ,mH,π,η];omega
theorem zaQ {H:Hl}(o:LHOk H):∀ ws∈hls H,LnOk ws:=fun ws hm=>by
 rcases υ.mp hm with rfl | hm
 ·have h1:=wg o.t;refine ⟨by simp,fun w hw=>?_,?_⟩
  ·simp only [υ,ϗ,or_false] at hw;rcases hw with rfl | rfl
   ·exact ⟨by decide,by decide⟩
   ·exact N_fr o.t
  ·have:("hour":Str).length=4:=by decide
   simp only [Κ,bL,fJ,iw,η,ς];omega
 rcases aD.mp hm with hm | hm
 ·obtain ⟨x,hx,hm⟩:=List.mem_flatten.mp hm;obtain ⟨h,hh,rfl⟩:=Φ.mp hx;exact zkB (o.hs h hh) ws hm
 ·obtain ⟨a,ha,rfl⟩:=Φ.mp hm;exact zi9 (o.as a ha)
theorem Vu {H:Hl}(o:LHOk H):(hls H).length<=31:=by have h1:=xV o.hs;have h2:=o.hl;have h3:=o.al;simp only [hls,η,π,ζ];omega
theorem ziA {H:Hl}(o:LHOk H):LOk (hls H):=by have h1:=zaQ o;exact ⟨by simp [hls],fun ws hm=>(h1 ws hm).nn,fun ws hm w hw=>(h1 ws hm).fr w hw,by have:=Vu o;omega,fun ws hm=>zap (h1 ws hm)⟩
theorem dr1 {α:Type}{l:List α}{m:Nat}{x:α}{y:List α}(h:l.drop m=x::y):l[m]?=some x/\l.drop (m+1)=y:=by
 constructor
 ·have:=congrArg (·[0]?) h;simpa using this
 ·rw [<- List.tail_drop,h];rfl
def Nb (w0:Str) (rest:List (List Str)):Prop:=rest=[]\/∃ w ws r',rest=(w::ws)::r'/\(w==w0)=false
noncomputable abbrev Z (S0:Store) (r:Nat) (ls:List (List Str)) (m:Nat):Store:=S0.set r (ob ls (m:Int))
section
variable {cf:Cf}{ρ:List Slot}{V:Po}{S0:Store}{r m:Nat}{ls:List (List Str)}
theorem z_at (hr:r < S0.length):(Z S0 r ls m)[r]?=some (ob ls (m:Int)):=ϡ hr
theorem zh2 {S:Store}{i:Int}{j:Nat}{x:Str}{f:Nat}(h0:ρ[j]?=some (.sh (.ref r))) (hr:S[r]?=some (ob ls i)) (hm:(x==("rows":Str)||x==("at":Str))=false) (q:cf f [.ref r] V S):wpE cf ρ (.met [(("Lines":Str),f)] (.var j) x []) V S:=by
 rw [ziN,zG];refine zH h0 ?_;refine yP hr ?_;refine zF ?_ ?_
 ·show (!(x==("rows":Str)||(x==("at":Str)||false)))=true
  rw [ph,hm];rfl
 refine zr (a:=f) ?_ q;rfl
theorem took {K:Nat}{j:Nat}{ws:List Str}{rest:List (List Str)}(h0:ρ[j]?=some (.sh (.ref r))) (hr:r < S0.length) (hd:ls.drop m=ws::rest) (hK:3<=K) (q:V (LS ws,.st) (Z S0 r ls (m+1))):wpE (xH F wh K) ρ (.met [(("Lines":Str),42)] (.var j) "taken" []) V (Z S0 r ls m):=by refine zh2 h0 (z_at hr) (by decide +kernel) ?_;refine wp_mono (zbJ (z_at hr) (mq m) (by rw [bf];exact (dr1 hd).1) hK) ?_;rintro _ _ ⟨rfl,rfl⟩;rw [show (Z S0 r ls m).set r (ob ls ((m:Int)+1))=Z S0 r ls (m+1) from List.set_set ..];exact q
theorem zf2 {K:Nat}{w:Str}{rest:List (List Str)}(hr:r < S0.length) (hd:ls.drop m=rest) (nb:Nb w rest) (hK:3<=K):Tl K 12 [.ref r,.str w] false (Z S0 r ls m):=by
 rcases nb with e | ⟨w1,ws,r',e,hw⟩
 ·rw [e] at hd;have:=p7.mp hd;exact zbn (z_at hr) (by omega) (by omega)
 ·rw [e] at hd;have:=Wf (w:=w) (z_at (ls:=ls) (m:=m) hr) (mq m) (by rw [bf];exact (dr1 hd).1) hK
  rwa [hw] at this
theorem zbm {K:Nat}{w:Str}{ws:List Str}{rest:List (List Str)}(hr:r < S0.length) (hd:ls.drop m=(w::ws)::rest) (hK:3<=K):Tl K 12 [.ref r,.str w] true (Z S0 r ls m):=by
 have:=Wf (w:=w) (z_at (ls:=ls) (m:=m) hr) (mq m) (by rw [bf];exact (dr1 hd).1) hK
 rwa [beq_self_eq_true] at this
end
section
variable {K r m:Nat}{S0:Store}{ls rest:List (List Str)}
theorem zkN (w:Str) (a b:Int):cmpD .Eq (edD (some (w,a,b))) (.tup [])=some false:=rfl
theorem qF {h:Hs}(o:HOk h) (hr:r < S0.length) (hq:ls.drop m=h.ns.map nw++rest) (nb:Nb "note" rest) (hK:9<=K) {V:Po}(q:V (hsD h,.st) (Z S0 r ls (m+h.ns.length))):
  wpCs (zb F wh K) noX wh (xJ.drop 5) [.sh (.ref r),.sh (LS (hd h)),.sh (tupI h.p),.sh (.int h.b),.sh (edD h.e),.sh (stO h.st),.no] (told V) (Z S0 r ls m):=by
 show wpCs _ _ _ [_,_,_] _ _ _
 nofun;have hl:=o.nl;refine wK (fun n ρ S'=>∃ a b:List Nt,h.ns=a++b/\n=b.length/\ls.drop (m+a.length)=b.map nw++rest/\S'=Z S0 r ls (m+a.length)/\ρ=[.sh (.ref r),.sh (LS (hd h)),.sh (tupI h.p),.sh (.int h.b),.sh (edD h.e),.sh (stO h.st),.ow (.lst (a.map ntD))]) ?_ 500 h.ns.length _ _ (by omega) ⟨[],h.ns,rfl,rfl,hq,rfl,rfl⟩;rintro n ρ S' ⟨a,b,e1,rfl,hd',rfl,rfl⟩;dsimp only [xF,zG,yw,wpEs];nofun;cases b with
 | nil=>
  rw [ύ] at e1;refine (zf2 (w:="note") hr hd' nb (by omega)).go ?_;nofun;refine (Uh o.w (by omega)).go ?_;nofun;rw [<- e1];exact q
 | cons x b=>
  have hal:a.length<=3:=by rw [e1,π] at hl;omega
  have hx:NOk x:=o.ns x (by rw [e1];simp);refine (zbm (w:="note") (ws:=[N x.1,x.2.1,N x.2.2]) hr hd' (by omega)).go ?_;nofun;refine ⟨b.length,rfl,?_⟩;nofun;refine took rfl hr hd' (by omega) ?_;nofun;refine (zbV hx (by omega)).go ?_;nofun;refine ⟨a++[x],b,by rw [e1];simp,rfl,?_,?_,?_⟩
  ·rw [π,<- lN];exact (dr1 hd').2
  ·rw [π,<- lN];rfl
  ·rw [Ϝ];rfl
theorem Qz {h:Hs}(o:HOk h) (hr:r < S0.length) (hq:ls.drop m=hw h++rest) (nb:Nb "note" rest) (hK:10<=K):xH F wh K 14 [.ref r] (fun x S'=>x=(hsD h,.st)/\S'=Z S0 r ls (m+(hw h).length)) (Z S0 r ls m):=by
 obtain ⟨K,hk,rfl⟩:=up hK;have hd1:=dr1 (show ls.drop m=hd h::(swO h.st++h.ns.map nw++rest) from hq);refine Yg ?_;nofun;refine took rfl hr (show ls.drop m=hd h::(swO h.st++h.ns.map nw++rest) from hq) (by omega) ?_;nofun;refine (uK (w:="house") (ws:=[pw h.p,h.w,N h.b,ew h.e]) rfl (by omega)).go ?_;nofun;refine (Ui (ls:=[0,2,4]) o.p o.pl (by omega)).go ?_;nofun;refine (yN o.b (by omega)).go ?_;nofun;refine (QD o.e (by omega)).go ?_;nofun;have hst:=o.st;have hso:=o.so;obtain ⟨p,w,b,e,ns,st⟩:=h;cases e with
 | none=>
  cases st with
  | none=>cases hst
  | some s=>
   nofun;have hd2:=hd1.2;refine took rfl hr (show ls.drop (m+1)=sw s::(ns.map nw++rest) from hd2) (by omega) ?_;nofun;refine (Qy (hso s rfl) (by omega)).go ?_;nofun;refine qF (h:=⟨p,w,b,none,ns,some s⟩) o hr (show ls.drop (m+1+1)=ns.map nw++rest from (dr1 (show ls.drop (m+1)=sw s::(ns.map nw++rest) from hd2)).2) nb (by omega) ?_;refine ⟨rfl,?_⟩;rw [show (hw ⟨p,w,b,none,ns,some s⟩).length=1+1+ns.length by simp only [hw,swO,η,π,ζ,ς];omega];rw [<- lN]
 | some x=>
  obtain ⟨x1,x2,x3⟩:=x;cases st with
  | some s=>cases hst
  | none=>
   refine zr (zkN x1 x2 x3) ?_;nofun;refine qF (h:=⟨p,w,b,some (x1,x2,x3),ns,none⟩) o hr (show ls.drop (m+1)=ns.map nw++rest from hd1.2) nb (by omega) ?_;refine ⟨rfl,?_⟩;rw [show (hw ⟨p,w,b,some (x1,x2,x3),ns,none⟩).length=1+ns.length by simp only [hw,swO,η,π,ζ,ς];omega];rw [<- lN]
end
theorem vR:∀ ps:List (List Int),yW (ps.map tupI)=some ps
 | []=>rfl
 | p::ps=>by
  show (xX (p.map D.int)).bind (fun k=>(yW (ps.map tupI)).map (k::·))=_
  rw [Xl,vR ps];rfl
theorem zd7 {ps:List (List Int)}(hu:ps.Pairwise LeL) (hn:ps.Nodup) (hl:ps.length<=5):biD .sset [.lst (ps.map tupI)]=some (.lst (ps.map tupI),true):=by
 show zbN (.lst (ps.map tupI))=_
 cases ps with
 | nil=>rfl
 | cons p ps=>
  have e:zgH (.lst ((p::ps).map tupI))=some (.lst ((p::ps).map tupI),true):=by
   show (yW ((p::ps).map tupI)).bind (fun ks=>if (decide (ks.length<=5)&&decide ks.Nodup)=true then some (D.lst ((xg ks).map tupI),true) else none)=_
   rw [vR];show (if (decide ((p::ps).length<=5)&&decide (p::ps).Nodup)=true then some (D.lst ((xg (p::ps)).map tupI),true) else none)=_
   rw [decide_eq_true hl,decide_eq_true hn,<- Zm (bx _) hu];rfl
  exact e
theorem zab (n:Nat) (ps:List (List Int)):okPs (n+1) (ps.map tupI)=true:=Uv fun d hd=>by obtain ⟨p,_,rfl⟩:=Φ.mp hd;exact WK n p
section
variable {K:Nat}{S:Store}
theorem Uj {α:Type}{enc:α->D}{pa:α->List Int}{l:List α}(he:∀ a,∃ r,enc a=.tup (tupI (pa a)::r)) (hu:(l.map pa).Pairwise LeL) (hn:(l.map pa).Nodup) (hl:l.length<=5) (hK:1<=K):Tl K 4 [.lst (l.map enc)] true S:=by
 obtain ⟨K,hk,rfl⟩:=up hK;refine zd1 ?_;nofun;refine wB ?_;dsimp only [wpI,zG];refine zH rfl ?_;refine kp_s rfl ?_;refine zr (a:=l.map enc) rfl ?_;refine wz (f:=fun a=>tupI (pa a)) l [] (by simp only [ς];omega) (fun x hx Q hQ=>?_) ?_
 ·obtain ⟨r,e⟩:=he x;rw [e];refine zL (a:=[.sh (.tup (tupI (pa x)::r))]) rfl ?_;dsimp only [wpF,wpEs,Xx,yw,zG];refine zF rfl ?_;refine zH rfl ?_;refine zr (Yo (by decide) rfl) ?_;exact kp_s rfl hQ
 rw [Ϥ,show l.map (fun a=>tupI (pa a))=(l.map pa).map tupI by rw [Ϭ];rfl];nofun;refine vQ (zd7 hu hn (by rw [ζ];exact hl)) ?_;refine zr (Kf (zab 58 _)) ?_;nofun;exact ⟨rfl,rfl⟩
end
theorem zkA (h:Hs) (r:List (List Str)):Nb "note" (hw h++r):=.inr ⟨"house",_,_,rfl,by decide +kernel⟩
theorem zk0 (a:Ak) (r:List (List Str)) {w:Str}(hw:(("ask":Str)==w)=false):Nb w (aw a::r):=.inr ⟨"ask",_,_,rfl,hw⟩
theorem QC {w:Str}(hw:(("ask":Str)==w)=false):∀ as:List Ak,Nb w (as.map aw)
 | []=>.inl rfl
 | a::as=>zk0 a _ hw
theorem zfB:∀ (hs:List Hs) (as:List Ak),Nb "note" ((hs.map hw).flatten++as.map aw)
 | [],as=>QC (by decide +kernel) as
 | h::hs,as=>by rw [Κ,mH,ak];exact zkA h _
theorem isN0 {P:Prop}(q:P):isN .non P:=q
section
variable {H:Hl}{K:Nat}{S:Store}
theorem Zv (o:LHOk H) (hK:12<=K):xH F wh K 11 [.str (tx (hls H))] (fun x _=>x=(hlD H,.st)) S:=by
 obtain ⟨K,hk,rfl⟩:=up hK;have ok:=ziA o;have hlh:=o.hl;have hla:=o.al;refine Wr ?_;nofun;rw [e_mk];nofun;refine wp_mono (zfs ok (r:=S.length) (S:=S++[.ins "Lines" [] []]) (by simp) (by omega)) ?_;rintro _ _ ⟨rfl,rfl⟩;refine isN0 ?_;rw [show (S++[D.ins "Lines" [] []]).set S.length (ob (hls H) 0)=Z (S++[D.ins "Lines" [] []]) S.length (hls H) 0 from rfl];generalize hS0:S++[D.ins "Lines" [] []]=S0;have hr:S.length < S0.length:=by rw [<- hS0,π];simp
 generalize S.length=r at hr;nofun;have hd0:(hls H).drop 0=[("hour":Str),N H.t]::((H.hs.map hw).flatten++H.as.map aw):=rfl;refine took rfl hr hd0 (by omega) ?_;nofun;refine (uK (w:="hour") (ws:=[N H.t]) rfl (by omega)).go ?_;nofun;refine (yN o.t (by omega)).go ?_;nofun;refine wK (fun n ρ S'=>∃ (a b:List Hs) (m:Nat),H.hs=a++b/\n=b.length/\(hls H).drop m=(b.map hw).flatten++H.as.map aw/\S'=Z S0 r (hls H) m/\ρ=[.sh (.str (tx (hls H))),.sh (.ref r),.sh (.int H.t),.ow (.lst (a.map hsD)),.no]) ?_ 500 H.hs.length _ _ (by omega) ⟨[],H.hs,1,rfl,rfl,rfl,rfl,rfl⟩;rintro n ρ S' ⟨a,b,m,e1,rfl,hd',rfl,rfl⟩;dsimp only [xF,zG,yw,wpEs];nofun;cases b with
 | cons x b=>
  have hx:HOk x:=o.hs x (by rw [e1];simp);have hal:a.length<=5:=by rw [e1,π] at hlh;omega
  rw [Κ,mH,ak] at hd';refine (zbm (w:="house") hr hd' (by omega)).go ?_;nofun;refine ⟨b.length,rfl,?_⟩;nofun;refine wp_mono (Qz hx hr hd' (zfB b H.as) (by omega)) ?_;rintro _ _ ⟨rfl,rfl⟩;nofun;refine ⟨a++[x],b,m+(hw x).length,by rw [e1];simp,rfl,?_,rfl,?_⟩
  ·rw [<- List.drop_drop,hd',List.drop_left]
  ·rw [Ϝ];rfl
 | nil=>
  rw [ύ] at e1;subst e1;refine (zf2 (w:="house") hr hd' (QC (by decide +kernel) H.as) (by omega)).go ?_;nofun;refine wK (fun n ρ S'=>∃ (a b:List Ak) (m:Nat),H.as=a++b/\n=b.length/\(hls H).drop m=b.map aw/\S'=Z S0 r (hls H) m/\ρ=[.sh (.str (tx (hls H))),.sh (.ref r),.sh (.int H.t),.ow (.lst (H.hs.map hsD)),.ow (.lst (a.map akD))]) ?_ 500 H.as.length _ _ (by omega) ⟨[],H.as,m,rfl,rfl,hd',rfl,rfl⟩;rintro n ρ S' ⟨a,b,m,e1,rfl,hd',rfl,rfl⟩;dsimp only [xF,zG,yw,wpEs];nofun;cases b with
  | cons x b=>
   have hx:AOk x:=o.as x (by rw [e1];simp);have hal:a.length<=5:=by rw [e1,π] at hla;omega
   rw [Κ] at hd';refine (zbm (w:="ask") hr hd' (by omega)).go ?_;nofun;refine ⟨b.length,rfl,?_⟩;nofun;refine took rfl hr hd' (by omega) ?_;nofun;refine (zeu hx (by omega)).go ?_;nofun;refine ⟨a++[x],b,m+1,by rw [e1];simp,rfl,(dr1 hd').2,rfl,?_⟩;rw [Ϝ];rfl
  | nil=>
   rw [ύ] at e1;refine (zf2 (w:="ask") hr hd' (.inl rfl) (by omega)).go ?_;nofun;refine zh2 rfl (z_at hr) (by decide +kernel) ?_;refine (U3 (z_at hr) (by omega)).go ?_;rw [decide_eq_false (by unfold Zu;rw [ζ];have:=p7.mp hd';omega)];nofun;refine (Uj (pa:=Hs.p) (fun a=>⟨_,rfl⟩) o.hu o.hn o.hl (by omega)).go ?_;nofun;rw [<- e1];refine (Uj (pa:=Ak.p) (fun a=>⟨_,rfl⟩) o.au o.an o.al (by omega)).go ?_;nofun;rfl
end
theorem zfx {n:Int}(h:In n):opD .Add (.str "hour ") (.str (N n))=some (.str (ln ["hour",N n]),false):=by have h1:=wg h;rw [wJ (by rw [show ("hour ":Str).length=5 by decide];omega)];refine congrArg (fun x=>some (D.str x,false)) (Zj ?_);have e:=wG 32 ["hour",N n];rw [show ϲ (mk [32]) ["hour",N n]=ln ["hour",N n] from rfl] at e;rw [e,zT];rfl
theorem U0 {ls:List (List Str)}(h:∀ ws∈ls,LnOk ws) (hl:ls.length<=31):mthD .join (.str (mk [10])) [LS (ls.map ln)]=some (.str (tx ls),false):=by refine jE (x:=mk [10]) (ys:=ls.map ln) ?_;refine w_sum (k:=600) (fun x hx=>?_) 10 (by rw [ζ];omega);obtain ⟨ws,hw,rfl⟩:=Φ.mp hx;exact zap (h ws hw)
theorem Va (ls:List (List Str)) (ws:List Str):(ls.map ln).map D.str++[D.str (ln ws)]=((ls++[ws]).map ln).map D.str:=by simp
theorem zh5 (ls ms:List (List Str)):(ls.map ln).map D.str++(ms.map ln).map D.str=((ls++ms).map ln).map D.str:=by simp
theorem zjr (s:Stt):cmpD .NotEq (stD s) (.tup [])=some true:=by
 rw [zkk (a:=stD s) (b:=.tup []) (by
  show (true&&(okP 59 (tupI s.sl)&&true))=true
  rw [WK];rfl) rfl]
 rfl
noncomputable abbrev nE:E:=.comp (.tup [0,1,2]) [] (.seq (.sub ⇑2 ↥4)) [] (.mth .join ↥" " [(.lst [↥"note",(.bi .str [⇑0]),⇑1,(.bi .str [⇑2])])])
section
variable {H:Hl}{K:Nat}{S:Store}
theorem YS {x:Hs}(hx:HOk x) {A:D}{ls:List (List Str)}(hl:ls.length<=100) {Kc:Ko}(q:Kc (.next [.sh A,.ow (LS ((ls++x.ns.map nw).map ln)),.sh (hsD x),.no,.no,.no,.no,.no]) S):
  wpCs (zb F wh K) noX wh [C.ext 1 nE] [.sh A,.ow (LS (ls.map ln)),.sh (hsD x),.no,.no,.no,.no,.no] Kc S:=by
 have hnl:=hx.nl;nofun;refine wB ?_;dsimp only [wpI,Xx,zG,yw];refine zH rfl ?_;refine zr (Yo (by decide) rfl) ?_;refine kp_s rfl ?_;refine zr (a:=x.ns.map ntD) rfl ?_;refine wz (f:=fun n=>D.str (ln (nw n))) x.ns [] (by simp only [ς];omega) (fun n hn Q hQ=>?_) ?_
 ·have on:=hx.ns n hn;refine zL (a:=[.sh (.int n.1),.sh (.str n.2.1),.sh (.int n.2.2)]) rfl ?_;dsimp only [wpF,wpEs,Kh,ziO,yw,e_bi,zG];refine zF rfl ?_;refine zF rfl ?_;refine kp_s rfl ?_;refine zH rfl ?_;refine zA (zV on.a) ?_;refine kp_s rfl ?_;refine zH rfl ?_;refine kp_s rfl ?_;refine zH rfl ?_;refine zA (zV on.b) ?_;refine kp_s rfl ?_;refine zF rfl ?_;refine kp_f rfl ?_;refine zA (UV (zhU on)) ?_;exact kp_s rfl hQ
 rw [Ϥ,show x.ns.map (fun n=>D.str (ln (nw n)))=((x.ns.map nw).map ln).map D.str by rw [Ϭ,Ϭ];rfl];refine kp_f rfl ?_;refine zr (a:=((x.ns.map nw).map ln).map D.str) rfl ?_;refine zF (fits_of (by simp only [ζ];omega)) ?_;rw [zh5];exact q
theorem Jc (o:LHOk H) (hK:2<=K):Is K 7 [hlD H] (.str (tx (hls H)),.st) S:=by
 obtain ⟨K,hk,rfl⟩:=up hK;have hlh:=o.hl;have hla:=o.al;refine Wv ?_;nofun;refine zA (zV o.t) ?_;refine zA (zfx o.t) ?_;nofun;refine wp_walk (fun l ρ S'=>S'=S/\∃ (a b:List Hs) (x2:Slot),H.hs=a++b/\l=b.map hsD/\ρ=[.sh (hlD H),.ow (LS (([("hour":Str),N H.t]::(a.map hw).flatten).map ln)),x2,.no,.no,.no,.no,.no]) ?_ ?_ _ _ _ ⟨rfl,[],H.hs,.no,rfl,rfl,rfl⟩
 ·rintro d l ρ S' ⟨rfl,a,b,x2,e1,e2,rfl⟩;cases b with
  | nil=>cases e2
  | cons x b=>
   obtain ⟨rfl,rfl⟩:=Ψ e2;have hx:HOk x:=o.hs x (by rw [e1];simp);have ha:∀ h∈a,HOk h:=fun h hh=>o.hs h (by rw [e1];exact du _ hh)
   have hal:a.length<=5:=by rw [e1,π] at hlh;omega
   have hfl:=xV ha;have hnl:=hx.nl;have fin:∀ Y:List (List Str),Y=[("hour":Str),N H.t]::(a.map hw).flatten++hd x::swO x.st->(S'=S'/\∃ (a' b':List Hs) (x2:Slot),H.hs=a'++b'/\b.map hsD=b'.map hsD/\[Slot.sh (hlD H),.ow (LS ((Y++x.ns.map nw).map ln)),.sh (hsD x),.no,.no,.no,.no,.no]=[.sh (hlD H),.ow (LS (([("hour":Str),N H.t]::(a'.map hw).flatten).map ln)),x2,.no,.no,.no,.no,.no]):=fun Y hY=>by refine ⟨rfl,a++[x],b,.sh (hsD x),by rw [e1];simp,rfl,?_⟩;rw [hY];simp [hw]
   generalize (a.map hw).flatten=g at *;nofun;refine (Us hx.p (by omega)).go ?_;nofun;refine zA (zV hx.b) ?_;nofun;refine (Jh hx.e (by omega)).go ?_;nofun;refine zA (UV (ziB hx)) ?_;nofun;rw [Va];cases e:x.st with
   | none=>
    refine zr (a:=false) rfl ?_;nofun;refine YS hx (by simp only [π,η,ς];omega) ?_;refine fin _ ?_;rw [e];rfl
   | some s=>
    refine zr (zjr s) ?_;nofun;rw [e];refine (zbQ (hx.so s e) (by omega)).go ?_;nofun;rw [Va];refine YS hx (by simp only [π,η,ς];omega) ?_;refine fin _ ?_;rw [e];simp [swO]
 ·rintro ρ S' ⟨rfl,a,b,x2,e1,e2,rfl⟩;cases b with
  | cons _ _=>cases e2
  | nil=>
   rw [ύ] at e1;subst e1;have hfl:=xV o.hs;nofun;refine wp_walk (fun l ρ S''=>S''=S'/\∃ (a b:List Ak) (x3 x4 x5 x6 x7:Slot),H.as=a++b/\l=b.map akD/\ρ=[.sh (hlD H),.ow (LS (([("hour":Str),N H.t]::((H.hs.map hw).flatten++a.map aw)).map ln)),x2,x3,x4,x5,x6,x7]) ?_ ?_ _ _ _ ⟨rfl,[],H.as,.no,.no,.no,.no,.no,rfl,rfl,by rw [bL,ύ]⟩
   ·rintro d l ρ S' ⟨rfl,a,b,x3,x4,x5,x6,x7,e1,e2,rfl⟩;cases b with
    | nil=>cases e2
    | cons x b=>
     obtain ⟨rfl,rfl⟩:=Ψ e2;have hx:AOk x:=o.as x (by rw [e1];simp);have hal:a.length<=5:=by rw [e1,π] at hla;omega
     refine zL (a:=[.sh (hlD H),.ow (LS (([("hour":Str),N H.t]::((H.hs.map hw).flatten++a.map aw)).map ln)),x2,.sh (tupI x.p),.sh (.str x.w),.sh (.int x.n),.sh (.int x.s),.sh (edD x.e)]) rfl ?_;nofun;refine (Us hx.p (by omega)).go ?_;nofun;refine zA (zV hx.n) ?_;nofun;refine zA (zV hx.s) ?_;nofun;refine (Jh hx.e (by omega)).go ?_;nofun;refine zA (UV (zi9 hx)) ?_;refine kp_s rfl ?_;refine zF (fits_of (by simp only [ζ,η,π];omega)) ?_;nofun;rw [Va];exact ⟨rfl,a++[x],b,.sh (tupI x.p),.sh (.str x.w),.sh (.int x.n),.sh (.int x.s),.sh (edD x.e),by rw [e1];simp,rfl,by simp⟩
   ·rintro ρ S' ⟨rfl,a,b,x3,x4,x5,x6,x7,e1,e2,rfl⟩;cases b with
    | cons _ _=>cases e2
    | nil=>
     rw [ύ] at e1;subst e1;nofun;refine zA (U0 (ls:=hls H) (zaQ o) (Vu o)) ?_;nofun;exact ⟨rfl,rfl⟩
end
noncomputable abbrev LL (ls:List (List Str)):D:=.lst (ls.map LS)
theorem zdx {α:Type}(f:α->List Str) (Y:List (List Str)) (c:List α) (n:α):LL (Y++(c++[n]).map f)=.lst ((Y++c.map f).map LS++[LS (f n)]):=by simp
section
variable {H:Hl}{K:Nat}{S:Store}
theorem zi7 (c:Bool):subD (.lst [.str "0",.str "1"]) (.int (if c=true then 1 else 0))=some (.str (N (b1 c))):=by
 cases c
 ·exact congrArg (fun s=>some (D.str s)) (show ("0":Str)=N 0 by decide +kernel)
 ·exact congrArg (fun s=>some (D.str s)) (show ("1":Str)=N 1 by decide +kernel)
noncomputable abbrev nF:C:=.forr (.tup [9,10,11]) (.seq ⇑6) [.app 1 (.lst [↥"note",(.bi .str [⇑9]),⇑10,(.bi .str [⇑11])])]
theorem zfk {x:Hs}(hx:HOk x) {Y:List (List Str)}(hY:Y.length<=100) {A d2 d3 d4 d5 d7:D}{x8 x9 x10 x11:Slot}{Kc:Ko}(q:∀ y9 y10 y11,Kc (.next [.sh A,.ow (LL (Y++x.ns.map nw)),.sh d2,.sh d3,.sh d4,.sh d5,.sh (.tup (x.ns.map ntD)),.sh d7,x8,y9,y10,y11,.no,.no]) S):wpCs (zb F wh K) noX wh [nF] [.sh A,.ow (LL Y),.sh d2,.sh d3,.sh d4,.sh d5,.sh (.tup (x.ns.map ntD)),.sh d7,x8,x9,x10,x11,.no,.no] Kc S:=by
 have hnl:=hx.nl;nofun;refine wp_walk (fun l ρ S1=>S1=S/\∃ (c e:List Nt) (x9 x10 x11:Slot),x.ns=c++e/\l=e.map ntD/\ρ=[.sh A,.ow (LL (Y++c.map nw)),.sh d2,.sh d3,.sh d4,.sh d5,.sh (.tup (x.ns.map ntD)),.sh d7,x8,x9,x10,x11,.no,.no]) ?_ ?_ _ _ _ ⟨rfl,[],x.ns,x9,x10,x11,rfl,rfl,by rw [bL,ύ]⟩
 ·rintro d l ρ S1 ⟨rfl,c,e,x9,x10,x11,f1,f2,rfl⟩;cases e with
  | nil=>cases f2
  | cons n e=>
   obtain ⟨rfl,rfl⟩:=Ψ f2;have on:=hx.ns n (by rw [f1];exact ώ _ μ);have hcl:c.length<=3:=by rw [f1,π] at hnl;omega
   generalize x.ns=xns at *;refine zL (a:=[.sh A,.ow (LL (Y++c.map nw)),.sh d2,.sh d3,.sh d4,.sh d5,.sh (.tup (xns.map ntD)),.sh d7,x8,.sh (.int n.1),.sh (.str n.2.1),.sh (.int n.2.2),.no,.no]) rfl ?_;nofun;refine zA (zV on.a) ?_;nofun;refine zA (zV on.b) ?_;nofun;refine ⟨rfl,c++[n],e,.sh (.int n.1),.sh (.str n.2.1),.sh (.int n.2.2),by rw [f1,ak];rfl,rfl,?_⟩;rw [zdx nw Y c n];rfl
 ·rintro ρ S1 ⟨rfl,c,e,x9,x10,x11,f1,f2,rfl⟩;cases e with
  | cons _ _=>cases f2
  | nil=>
   rw [ύ] at f1;subst f1;nofun;exact q x9 x10 x11
noncomputable abbrev aF:C:=.forr (.tup [2,12,11,13,5]) (.seq (.sub ⇑0 ↥2)) [.app 1 (.lst [↥"ask",(.call 33 [⇑2]),⇑12,(.bi .str [⇑11]),(.bi .str [⇑13]),(.call 34 [⇑5])])]
theorem zh7 {as:List Ak}(o:∀ a∈as,AOk a) (hl:as.length<=5) {Y:List (List Str)}(hY:Y.length<=100) {d0 d1:D}{x2 x3 x4 x5 x6 x7 x8 x9 x10 x11 x12 x13:Slot}{Kc:Ko}(hk:1<=K) (q:∀ y2 y5 y11 y12 y13,Kc (.next [.sh (.tup [d0,d1,.tup (as.map akD)]),.ow (LL (Y++as.map aw)),y2,x3,x4,y5,x6,x7,x8,x9,x10,y11,y12,y13]) S):wpC (zb F wh K) noX wh aF [.sh (.tup [d0,d1,.tup (as.map akD)]),.ow (LL Y),x2,x3,x4,x5,x6,x7,x8,x9,x10,x11,x12,x13] Kc S:=by
 dsimp only [wpC,wpI,Xx,zG,yw];nofun;refine wp_walk (fun l ρ S1=>S1=S/\∃ (a b:List Ak) (x2 x5 x11 x12 x13:Slot),as=a++b/\l=b.map akD/\ρ=[.sh (.tup [d0,d1,.tup (as.map akD)]),.ow (LL (Y++a.map aw)),x2,x3,x4,x5,x6,x7,x8,x9,x10,x11,x12,x13]) ?_ ?_ _ _ _ ⟨rfl,[],as,x2,x5,x11,x12,x13,rfl,rfl,by rw [bL,ύ]⟩
 ·rintro d l ρ S1 ⟨rfl,a,b,x2,x5,x11,x12,x13,e1,e2,rfl⟩;cases b with
  | nil=>cases e2
  | cons x b=>
   obtain ⟨rfl,rfl⟩:=Ψ e2;have hx:=o x (by rw [e1];exact ώ _ μ);have hal:a.length<=5:=by rw [e1,π] at hl;omega
   generalize D.tup (as.map akD)=d3;refine zL (a:=[.sh (.tup [d0,d1,d3]),.ow (LL (Y++a.map aw)),.sh (tupI x.p),x3,x4,.sh (edD x.e),x6,x7,x8,x9,x10,.sh (.int x.n),.sh (.str x.w),.sh (.int x.s)]) rfl ?_;nofun;refine (zdw hx.p (by omega)).go ?_;nofun;refine zA (zV hx.n) ?_;nofun;refine zA (zV hx.s) ?_;nofun;refine (zdA hx.e (by omega)).go ?_;nofun;refine ⟨rfl,a++[x],b,.sh (tupI x.p),.sh (edD x.e),.sh (.int x.n),.sh (.str x.w),.sh (.int x.s),by rw [e1,ak];rfl,rfl,?_⟩;rw [zdx aw Y a x];rfl
 ·rintro ρ S1 ⟨rfl,a,b,x2,x5,x11,x12,x13,e1,e2,rfl⟩;cases b with
  | cons _ _=>cases e2
  | nil=>
   rw [ύ] at e1;subst e1;nofun;exact q x2 x5 x11 x12 x13
noncomputable abbrev lh (H:Hl) (a:List Hs):List (List Str):=[("hour":Str),N H.t]::(a.map hw).flatten
def lI (H:Hl) (S:Store) (l:List D) (ρ:List Slot) (S':Store):Prop:=S'=S/\∃ (a b:List Hs) (x2 x3 x4 x5 x6 x7 x8 x9 x10 x11:Slot),H.hs=a++b/\l=b.map hsD/\ρ=[.sh (hlD H),.ow (LL (lh H a)),x2,x3,x4,x5,x6,x7,x8,x9,x10,x11,.no,.no]
theorem zks {a b:List Hs}{x:Hs}{Y:List (List Str)}(hx:HOk x) (e1:H.hs=a++x::b) (hl:Y.length<=100) (hY:Y=lh H a++hd x::swO x.st) {x8 x9 x10 x11:Slot}{Kc:Ko}:wpCs (zb F wh K) noX wh [nF] [.sh (hlD H),.ow (LL Y),.sh (tupI x.p),.sh (.str x.w),.sh (.int x.b),.sh (edD x.e),.sh (.tup (x.ns.map ntD)),.sh (stO x.st),x8,x9,x10,x11,.no,.no] (trn Kc (lI H S (b.map hsD))) S:=by
 refine zfk hx hl fun y9 y10 y11=>?_
 refine K7 ?_;refine ⟨rfl,a++[x],b,.sh (tupI x.p),.sh (.str x.w),.sh (.int x.b),.sh (edD x.e),.sh (.tup (x.ns.map ntD)),.sh (stO x.st),x8,y9,y10,y11,by rw [e1,ak];rfl,rfl,?_⟩;have e:lh H (a++[x])=Y++x.ns.map nw:=by
  rw [hY,ak];show _::((a++[x]).map hw).flatten=_::((a.map hw).flatten++_)
  rw [Ϝ,List.flatten_append];show _::(_++(hw x++[]))=_
  rw [ύ];rfl
 rw [e]
theorem zaq (o:LHOk H) (hK:2<=K):Is K 35 [hlD H] (LL (hls H),.fr) S:=by
 obtain ⟨K,hk,rfl⟩:=up hK;have hlh:=o.hl;have hla:=o.al;refine Yj ?_;nofun;refine zA (zV o.t) ?_;nofun;refine wp_walk (lI H S) ?_ ?_ _ _ _ ⟨rfl,[],H.hs,.no,.no,.no,.no,.no,.no,.no,.no,.no,.no,rfl,rfl,rfl⟩
 ·rintro d l ρ S' ⟨rfl,a,b,x2,x3,x4,x5,x6,x7,x8,x9,x10,x11,e1,e2,rfl⟩;cases b with
  | nil=>cases e2
  | cons x b=>
   obtain ⟨rfl,rfl⟩:=Ψ e2;have hx:HOk x:=o.hs x (by rw [e1];exact ώ _ μ);have hg:(lh H a).length<=40:=by
    have:=xV fun h hh=>o.hs h (by rw [e1];exact du _ hh)
    rw [e1,π] at hlh;rw [η];omega
   have fin:=fun (Y:List (List Str)) hl hY x8=>zks (K:=K) (S:=S') (x8:=x8) (x9:=x9) (x10:=x10) (x11:=x11) (Y:=Y) (Kc:=(nxt (fun ρ' S'_2=>wpCs (zb F wh K) noX wh [aF,.ret ⇑1] ρ' (told fun x S'_3=>x=(LL (hls H),Kd.fr)/\S'_3=S') S'_2) (told fun x S'_2=>x=(LL (hls H),Kd.fr)/\S'_2=S'))) hx e1 hl hY
   generalize lh H a=g at *;refine zL (a:=[.sh (hlD H),.ow (LL g),.sh (tupI x.p),.sh (.str x.w),.sh (.int x.b),.sh (edD x.e),.sh (.tup (x.ns.map ntD)),.sh (stO x.st),x8,x9,x10,x11,.no,.no]) rfl ?_;nofun;refine (zdw hx.p (by omega)).go ?_;nofun;refine zA (zV hx.b) ?_;nofun;refine (zdA hx.e (by omega)).go ?_;nofun;rw [show g.map LS++[D.lst [.str "house",.str (pw x.p),.str x.w,.str (N x.b),.str (ew x.e)]]=(g++[hd x]).map LS by rw [Ϝ];rfl];cases e:x.st with
   | none=>
    refine zA (d:=.int 0) rfl ?_;refine zr (a:=false) rfl ?_;refine Kq rfl ?_;refine wU rfl ?_;refine ul ?_;refine z6 ?_;have:=fin (g++[hd x]) (by rw [π];simp only [η,ς];omega) (by rw [e];rfl) x8;rw [e] at this;exact this
   | some s=>
    have os:=hx.so s e;have hsl:=os.ln;refine zA (d:=.int 5) rfl ?_;refine zr (a:=true) rfl ?_;refine Kq rfl ?_;refine zF rfl ?_;nofun;refine zA (zV os.rm) ?_;nofun;refine zA (zV os.a) ?_;nofun;refine zA (zV os.b) ?_;nofun;refine zr (zi7 s.c) ?_;nofun;refine zda os.sl (by omega) (fun W q=>?_) ?_
    ·dsimp only [wpI,zG,Xx,yw];refine zH rfl ?_;refine zr (Yo (by decide) rfl) ?_;refine kp_s rfl ?_;exact zr rfl q
    refine vQ (Z9 (a:=[.str "state",.str (N s.rm),.str (N s.a),.str (N s.b),.str (N (b1 s.c))]) (b:=(s.sl.map N).map D.str) (by rw [ζ,ζ];simp only [η,ς];omega)) ?_;refine kp_f rfl ?_;refine zF (fits_of (by simp only [ζ,π,η,ς];omega)) ?_;refine z6 ?_;refine ul ?_;refine z6 ?_;have:=fin (g++hd x::swO x.st) (by rw [e,π];simp only [swO,η,ς];omega) rfl (.ow (.lst [.str "state",.str (N s.rm),.str (N s.a),.str (N s.b),.str (N (b1 s.c))]));rw [e] at this;rw [show (g++[hd x]).map LS++[D.lst ([.str "state",.str (N s.rm),.str (N s.a),.str (N s.b),.str (N (b1 s.c))]++(s.sl.map N).map D.str)]=(g++hd x::swO (some s)).map LS by rw [Ϝ,Ϝ,ak];rfl];exact this
 ·rintro ρ S' ⟨rfl,a,b,x2,x3,x4,x5,x6,x7,x8,x9,x10,x11,e1,e2,rfl⟩;cases b with
  | cons _ _=>cases e2
  | nil=>
   rw [ύ] at e1;subst e1;have hfl:=xV o.hs;refine z6 ?_;have hY:(lh H H.hs).length<=100:=by rw [η];omega
   refine yx ?_;refine zh7 (as:=H.as) (Y:=lh H H.hs) (d0:=.int H.t) (d1:=.tup (H.hs.map hsD)) o.as o.al hY hk fun y2 y5 y11 y12 y13=>?_
   nofun;exact ⟨rfl,rfl⟩
theorem zcr (o:LHOk H) (hK:1<=K):Is K 36 [LL (hls H)] (.str (tx (hls H)),.st) S:=by
 obtain ⟨K,hk,rfl⟩:=up hK;have hl:=Vu o;have hw:=zaQ o;refine Ww ?_;nofun;refine wB ?_;dsimp only [wpI,zG];refine zH rfl ?_;refine kp_s rfl ?_;refine zr (a:=(hls H).map LS) rfl ?_;refine wz (f:=fun ws=>D.str (ln ws)) (hls H) [] (by simp only [ς];omega) (fun ws hm Q hQ=>?_) ?_
 ·refine zL (a:=[.sh (LS ws)]) rfl ?_;dsimp only [wpF,wpEs,Kh,yw,zG];refine zF rfl ?_;refine zF rfl ?_;refine zH rfl ?_;refine kp_s rfl ?_;refine zA (UV (hw ws hm)) ?_;exact kp_s rfl hQ
 rw [Ϥ,show (hls H).map (fun ws=>D.str (ln ws))=((hls H).map ln).map D.str by rw [Ϭ];rfl];refine kp_f rfl ?_;refine zA (U0 hw hl) ?_;nofun;exact ⟨rfl,rfl⟩
end
inductive TD:Nat->D->Prop
 | int (n:Nat) (i:Int):TD n (.int i)
 | bl (n:Nat) (b:Bool):TD n (.bl b)
 | str (n:Nat) (s:Str):TD n (.str s)
 | tup (n:Nat) (l:List D) (hl:l.length<=1000) (h:∀ d∈l,TD n d):TD (n+1) (.tup l)
theorem Qw:∀ (n:Nat) {d:D}{K:Nat}{S:Store},TD n d->n+1<=K->Is K 37 [d,d] (.bl true,.st) S:=by
 intro n
 induction n with
 | zero=>
  intro d K S h hK;obtain ⟨K,hk,rfl⟩:=up hK;refine uY ?_;cases h with
  | int _ i=>nofun;exact ⟨congrArg (fun b=>(D.bl b,Kd.st)) (beq_self_eq_true _),rfl⟩
  | bl _ b=>nofun;exact ⟨congrArg (fun b=>(D.bl b,Kd.st)) (beq_self_eq_true _),rfl⟩
  | str _ s=>nofun;exact ⟨congrArg (fun b=>(D.bl b,Kd.st)) (beq_self_eq_true _),rfl⟩
 | succ n ih=>
  intro d K S h hK;obtain ⟨K,hk,rfl⟩:=up hK;refine uY ?_;cases h with
  | int _ i=>nofun;exact ⟨congrArg (fun b=>(D.bl b,Kd.st)) (beq_self_eq_true _),rfl⟩
  | bl _ b=>nofun;exact ⟨congrArg (fun b=>(D.bl b,Kd.st)) (beq_self_eq_true _),rfl⟩
  | str _ s=>nofun;exact ⟨congrArg (fun b=>(D.bl b,Kd.st)) (beq_self_eq_true _),rfl⟩
  | tup _ l hl h=>
   nofun;refine wB ?_;dsimp only [wpI,e_bi,zG];refine zH rfl ?_;refine zA (d:=.int l.length) rfl ?_;refine Xi rfl ?_;refine zF (by rw [bf,fits_of (by omega),decide_eq_true (by omega)];rfl) ?_;refine jQ (fun _=>true) (zR 0 (l.length:Int)) [] (by rw [jc];simp only [ς];omega) (fun x hx Q hQ=>?_) ?_
   ·obtain ⟨j,rfl,h0,h1⟩:=WR hx;have hj:j.toNat < l.length:=by omega
    have e:subD (.tup l) (.int j)=some l[j.toNat]:=Yo h0 (ψ hj);refine zL (a:=[.sh (.int j),.sh (.tup l),.sh (.tup l)]) rfl ?_;dsimp only [wpF,wpEs,xF,Xx,zG];refine zF rfl ?_;refine zH rfl ?_;refine zH rfl ?_;refine zr e ?_;refine kp_s rfl ?_;refine zH rfl ?_;refine zH rfl ?_;refine zr e ?_;refine kp_s rfl ?_;refine (ih (h _ (cD hj)) hk).go ?_;exact kp_s rfl hQ
   ·refine zA (Jv _) ?_;rw [show (([]:List Bool)++(zR 0 (l.length:Int)).map fun _=>true).all id=true by rw [Ϥ,cM,ϒ];intro _ _;rfl];nofun;exact ⟨rfl,rfl⟩
theorem VL {n:Nat}{p:List Int}(h:p.length<=1000):TD (n+1) (tupI p):=.tup _ _ (by rw [ζ];exact h) fun d hd=>by obtain ⟨i,_,rfl⟩:=Φ.mp hd;exact .int _ _
theorem zje {n:Nat}(e:Ed):TD (n+1) (edD e):=by
 cases e with
 | none=>exact .tup _ _ (by simp) fun d hd=>nomatch hd
 | some x=>
  obtain ⟨w,a,b⟩:=x;refine .tup _ _ (by simp) fun d hd=>?_
  simp only [υ,ϗ,or_false] at hd;rcases hd with rfl | rfl | rfl
  ·exact .str _ _
  ·exact .int _ _
  ·exact .int _ _
theorem zk1 {n:Nat}{s:Option Stt}(h:∀ x,s=some x->SOk x):TD (n+2) (stO s):=by
 cases s with
 | none=>exact .tup _ _ (by simp) fun d hd=>nomatch hd
 | some x=>
  have:=(h x rfl).ln;refine .tup _ _ (by simp) fun d hd=>?_
  simp only [υ,ϗ,or_false] at hd;rcases hd with rfl | rfl | rfl | rfl | rfl
  ·exact .int _ _
  ·exact VL (by omega)
  ·exact .int _ _
  ·exact .int _ _
  ·exact .bl _ _
theorem zk2 {n:Nat}{h:Hs}(o:HOk h):TD (n+3) (hsD h):=by
 have h1:=o.p.1;have h2:=o.nl;refine .tup _ _ (by simp) fun d hd=>?_
 simp only [υ,ϗ,or_false] at hd;rcases hd with rfl | rfl | rfl | rfl | rfl | rfl
 ·exact VL (by omega)
 ·exact .str _ _
 ·exact .int _ _
 ·exact zje _
 ·refine .tup _ _ (by rw [ζ];omega) fun d hd=>?_
  obtain ⟨x,_,rfl⟩:=Φ.mp hd;refine .tup _ _ (by simp) fun d hd=>?_
  simp only [υ,ϗ,or_false] at hd;rcases hd with rfl | rfl | rfl
  ·exact .int _ _
  ·exact .str _ _
  ·exact .int _ _
 ·exact zk1 o.so
theorem zk3 {n:Nat}{a:Ak}(o:AOk a):TD (n+2) (akD a):=by
 have h1:=o.p.1;refine .tup _ _ (by simp) fun d hd=>?_
 simp only [υ,ϗ,or_false] at hd;rcases hd with rfl | rfl | rfl | rfl | rfl
 ·exact VL (by omega)
 ·exact .str _ _
 ·exact .int _ _
 ·exact .int _ _
 ·exact zje _
theorem zjd {H:Hl}(o:LHOk H):TD 5 (hlD H):=by
 have h1:=o.hl;have h2:=o.al;refine .tup _ _ (by simp) fun d hd=>?_
 simp only [υ,ϗ,or_false] at hd;rcases hd with rfl | rfl | rfl
 ·exact .int _ _
 ·refine .tup _ _ (by rw [ζ];omega) fun d hd=>?_
  obtain ⟨x,hx,rfl⟩:=Φ.mp hd;exact zk2 (o.hs x hx)
 ·refine .tup _ _ (by rw [ζ];omega) fun d hd=>?_
  obtain ⟨x,hx,rfl⟩:=Φ.mp hd;exact zk3 (o.as x hx)
theorem za8 {s:D->(Option D->Store->Prop)->Store->Prop}{V:List D->Store->Prop}{S:Store}{P:Int->Prop}:∀ (xs:List D) (acc:List Int),acc.length+xs.length<=1000->(∀ x∈xs,∀ Q:Option D->Store->Prop,(∀ y,P y->Q (some (.int y)) S)->s x Q S)->(∀ ys:List Int,ys.length=xs.length->(∀ y∈ys,P y)->V ((acc++ys).map D.int) S)->vO s xs (acc.map D.int) V S
 | [],acc,_,_,v=>by have:=v [] rfl (fun _ h=>nomatch h);rw [ύ] at this;exact this
 | x::xs,acc,hl,h,v=>by
  have hl:acc.length+(xs.length+1)<=1000:=hl;refine h x μ _ fun y hy=>?_
  refine zF (fits_of (by rw [ζ];omega)) ?_;rw [Zo];refine za8 xs (acc++[y]) (by rw [π];simp only [η,ς];omega) (fun z hz=>h z (ν _ hz)) fun ys e hp=>?_
  rw [ak];refine v (y::ys) (by rw [η,η,e]) fun z hz=>?_
  rcases υ.mp hz with rfl | hz
  ·exact hy
  ·exact hp z hz
section
variable {xs:List Int}{K:Nat}{S:Store}
theorem zcA {a:Int}{cs:List Int}(hx:0 < xs.length) (hc:0 < cs.length) (hr:∀ c∈cs,0<=c/\c<=6) (hK:2<=K):Sm K 27 [LI xs,.int a,LI cs] (fun x=>∃ p,x=(tupI p,.st)/\POk p/\(p.length:Int)∈cs) S:=by
 obtain ⟨K,hk,rfl⟩:=up hK;refine Wx ?_;nofun;refine wB ?_;dsimp only [wpI,Xx,xF,e_bi,zG,wpEs];refine zH rfl ?_;refine zH rfl ?_;refine kp_s rfl ?_;refine zH rfl ?_;refine kp_s rfl ?_;refine zH rfl ?_;refine zA (d:=.int (cs.map D.int).length) rfl ?_;refine kp_s rfl ?_;refine (zN hx (len_pos hc) hk).go ?_;rintro _ ⟨v,rfl,h0,h1⟩;rw [ζ] at h1;obtain ⟨c,hm,e⟩:=ints_get h0 h1;refine zr e ?_;refine Xi rfl ?_;have hcb:=hr c hm;refine zF (by rw [fits_of (by omega),decide_eq_true (by omega)];rfl) ?_;refine za8 (P:=fun y=>0<=y/\y<=9) (zR 0 c) [] (by rw [jc];simp only [ς];omega) (fun x hx' Q hQ=>?_) fun ys hl hp=>?_
 ·obtain ⟨j,rfl,_,_⟩:=WR hx';refine zL (a:=[.sh (.int j),.sh (LI xs),.sh (.int a)]) rfl ?_;dsimp only [wpF,wpEs,xF,zfM,yw,zG];refine zF rfl ?_;nofun;refine (zN hx (by decide) hk).go ?_;rintro _ ⟨v,rfl,h0,h1⟩;exact kp_s rfl (hQ v ⟨h0,by omega⟩)
 ·rw [jc] at hl;rw [Ϥ];nofun;refine ⟨⟨ys,rfl,⟨by omega,hp⟩,?_⟩,rfl⟩;rw [show (ys.length:Int)=c by omega];exact hm
theorem uQ:∀ p:List Int,ZQ (kp p)=some p
 | []=>rfl
 | i::p=>by
  show (ZQ (kp p)).map (i::·)=_
  rw [uQ p];rfl
theorem Xe:∀ ps:List (List Int),uh (ps.map kp)=some ps
 | []=>rfl
 | p::ps=>by
  show (ZQ (kp p)).bind (fun n=>(uh (ps.map kp)).map (n::·))=_
  rw [uQ,Xe ps];rfl
theorem zh9 {p q:List Int}(h:kp p=kp q):p=q:=by have:=congrArg ZQ h;rw [uQ,uQ] at this;exact ϐ this
theorem zdL {ps:List (List Int)}{p:List Int}:hasK (ps.map kp) (kp p)=true ↔ p∈ps:=by
 unfold hasK;rw [bz];constructor
 ·rintro ⟨k,hk,e⟩;obtain ⟨q,hq,rfl⟩:=Φ.mp hk;rw [<- zh9 (of_decide_eq_true e)];exact hq
 ·intro h;exact ⟨kp p,dJ h,decide_eq_true rfl⟩
theorem zcs {ps:List (List Int)}{vs:List D}(hl:ps.length<=5):biD .list [.dT (ps.map kp) vs]=some (.lst (ps.map tupI),true):=by
 show ((uh (ps.map kp)).bind fun ns=>if decide (ns.length < 4096)=true then some (ns.map tupI) else none).map (fun l=>(D.lst l,true))=_
 rw [Xe];show (if decide (ps.length < 4096)=true then some (ps.map tupI) else none).map (fun l=>(D.lst l,true))=_
 rw [if_pos (decide_eq_true (by omega))];rfl
theorem Qi {ps:List (List Int)}(hl:ps.length<=5):biD .sorted [.lst (ps.map tupI)]=some (.lst ((xg ps).map tupI),true):=by
 have e:srtD (.lst (ps.map tupI))=some (.lst ((xg ps).map tupI),true):=by
  show (yW (ps.map tupI)).bind (fun ks=>if decide (ks.length < 64)=true then some (D.lst ((xg ks).map tupI),true) else none)=_
  rw [vR];show (if decide (ps.length < 64)=true then some (D.lst ((xg ps).map tupI),true) else none)=_
  rw [if_pos (decide_eq_true (by omega))]
 cases ps with
 | nil=>exact e
 | cons p ps=>exact e
theorem Xk {a m:Int}{cs:List Int}(hx:0 < xs.length) (hc:0 < cs.length) (hr:∀ c∈cs,0<=c/\c<=6) (h0:0<=m) (h5:m<=5) (hK:3<=K):Sm K 28 [LI xs,.int a,LI cs,.int m] (fun x=>∃ ps:List (List Int),x=(.lst (ps.map tupI),.fr)/\(∀ p∈ps,POk p/\(p.length:Int)∈cs)/\ps.Pairwise LeL/\ps.Nodup/\ps.length<=5) S:=by
 obtain ⟨K,hk,rfl⟩:=up hK;refine Yi ?_;nofun;refine zF (by rw [fits_of (by omega),decide_eq_true (by omega)];rfl) ?_;refine wp_walk (fun l ρ S'=>S'=S/\∃ (j:Int) (ps:List (List Int)) (vs:List D) (x5:Slot),l=zR j m/\0<=j/\(ps.length:Int)<=j/\j<=m/\(∀ p∈ps,POk p/\(p.length:Int)∈cs)/\ps.Nodup/\ρ=[.sh (LI xs),.sh (.int a),.sh (LI cs),.sh (.int m),.ow (.dT (ps.map kp) vs),x5]) ?_ ?_ _ _ _ ⟨rfl,0,[],[],.no,rfl,by decide,by decide,h0,fun _ h=>(nomatch h),.nil,rfl⟩
 ·rintro d l ρ S' ⟨rfl,j,ps,vs,x5,e1,hj,hpl,hjm,hp,hn,rfl⟩;by_cases hlt:j < m
  ·rw [uJ hlt] at e1;obtain ⟨rfl,rfl⟩:=Ψ e1;nofun;refine (zcA hx hc hr hk).go ?_;rintro _ ⟨p,rfl,hpk,hpc⟩;refine kp_s rfl ?_;refine zr (zhk (p:=p) rfl (by rw [ζ];omega)) ?_;nofun;by_cases hm:p∈ps
   ·refine ⟨rfl,j+1,ps,(zM (ps.map kp) vs (kp p) (.bl true)).2,.sh (.int j),rfl,by omega,by omega,by omega,hp,hn,?_⟩;unfold zM;rw [if_pos (zdL.mpr hm)]
   ·refine ⟨rfl,j+1,ps++[p],(zM (ps.map kp) vs (kp p) (.bl true)).2,.sh (.int j),rfl,by omega,by rw [π];simp only [η,ς];omega,by omega,fun q hq=>?_,?_,?_⟩
    rotate_left 2
    ·unfold zM;rw [if_neg (fun h=>hm (zdL.mp h)),Ϝ];rfl
    ·rcases aD.mp hq with hq | hq
     ·exact hp q hq
     ·rw [Η.mp hq];exact ⟨hpk,hpc⟩
    ·rw [gH];exact ⟨hn,b7.mpr ⟨ϗ,.nil⟩,fun x hx y hy e=>hm (by rw [<- Η.mp hy,<- e];exact hx)⟩
  ·rw [WQ (by omega)] at e1;cases e1
 ·rintro ρ S' ⟨rfl,j,ps,vs,x5,e1,hj,hpl,hjm,hp,hn,rfl⟩;nofun;refine vQ (zcs (by omega)) ?_;refine vQ (Qi (by omega)) ?_;nofun;have pm:=u6 ps;exact ⟨⟨xg ps,rfl,fun p h=>hp p (pm.mem_iff.mp h),WP ps,(pm.nodup_iff).mpr hn,by rw [pm.length_eq];omega⟩,rfl⟩
theorem zhR {x:Int}{w:Str}(h:In x):∃ v,subD (.lst [.int x,.int 0]) (.int (if (w==("off":Str))=true then 1 else 0))=some (.int v)/\In v:=by
 cases w==("off":Str)
 ·exact ⟨x,rfl,h⟩
 ·exact ⟨0,rfl,by decide,by decide⟩
theorem zaO {a:Int}{e:Bool}(hx:0 < xs.length) (hK:2<=K):Sm K 29 [LI xs,.int a,.bl e] (fun x=>∃ d:Ed,x=(edD d,.st)/\EOk d/\d.isSome=e) S:=by
 obtain ⟨K,hk,rfl⟩:=up hK;refine JF ?_;cases e
 ·nofun;exact ⟨⟨none,rfl,trivial,rfl⟩,rfl⟩
 ·nofun;refine (zN hx (by decide) hk).go ?_;rintro _ ⟨v,rfl,h0,h1⟩;obtain ⟨w,hw,e⟩:=Zg (ws:=eL) h0 h1;refine zr e ?_;nofun;refine (yj hx hk).go ?_;rintro _ ⟨n,rfl,hn⟩;nofun;obtain ⟨z,e2,hz⟩:=zhR (w:=w) hn;refine zr e2 ?_;nofun;refine (yj hx hk).go ?_;rintro _ ⟨y,rfl,hy⟩;nofun;exact ⟨⟨some (w,z,y),rfl,⟨hw,hz,hy⟩,rfl⟩,rfl⟩
theorem in_of {v m:Int}(h0:0<=v) (h1:v < m) (hm:m<=1000000007):In v:=⟨h0,by omega⟩
theorem zaE {a:Int}{w:Bool}(hx:0 < xs.length) (hK:2<=K):Sm K 30 [LI xs,.int a,.bl w] (fun x=>∃ s:Stt,x=(stD s,.st)/\SOk s) S:=by
 obtain ⟨K,hk,rfl⟩:=up hK;obtain ⟨k8,e8,h8⟩:∃ k8:Int,32+8*(if w=true then 1 else 0)=k8/\(k8=32\/k8=40):=by cases w <;> exact ⟨_,rfl,by decide⟩
 refine Yh ?_;nofun;rw [e8];refine (zN hx (by decide) hk).go ?_;rintro _ ⟨v,rfl,h0,h1⟩;obtain ⟨c,hm,e⟩:=ints_get (ns:=[0,1,3,k8]) h0 h1;refine zr e ?_;have hc:0<=c/\c<=40:=by simp only [υ,ϗ,or_false] at hm;omega
 nofun;refine wB ?_;dsimp only [wpI,zG];refine zH rfl ?_;refine Xi rfl ?_;refine zF (by rw [fits_of (by omega),decide_eq_true (by omega)];rfl) ?_;refine za8 (P:=In) (zR 0 c) [] (by rw [jc];simp only [ς];omega) (fun x hx' Q hQ=>?_) fun ys hl hp=>?_
 ·obtain ⟨j,rfl,_,_⟩:=WR hx';refine zL (a:=[.sh (.int j),.sh (LI xs),.sh (.int a)]) rfl ?_;dsimp only [wpF,wpEs,xF,zfM,yw,zG];refine zF rfl ?_;nofun;refine (yj hx hk).go ?_;rintro _ ⟨v,rfl,hv⟩;exact kp_s rfl (hQ v hv)
 rw [jc] at hl;rw [Ϥ];refine zA (d:=tupI ys) rfl ?_;nofun;refine (zN hx (by decide) hk).go ?_;rintro _ ⟨b,rfl,_,_⟩;nofun;cases w
 ·nofun;refine (zN hx (by decide) hk).go ?_;rintro _ ⟨y,rfl,hy0,hy1⟩;nofun;refine (zN hx (by decide) hk).go ?_;rintro _ ⟨z,rfl,hz0,hz1⟩;nofun;refine (zN hx (by decide) hk).go ?_;rintro _ ⟨r,rfl,hr0,hr1⟩;nofun;exact ⟨⟨⟨r,ys,y,z,b==1⟩,rfl,in_of hr0 hr1 (by decide),in_of hy0 hy1 (by decide),in_of hz0 hz1 (by decide),hp,(show ys.length<=40 by omega)⟩,rfl⟩
 ·nofun;refine (yj hx hk).go ?_;rintro _ ⟨y,rfl,hy⟩;nofun;refine (yj hx hk).go ?_;rintro _ ⟨z,rfl,hz⟩;nofun;refine (yj hx hk).go ?_;rintro _ ⟨r,rfl,hr⟩;nofun;exact ⟨⟨⟨r,ys,y,z,b==1⟩,rfl,hr,hy,hz,hp,(show ys.length<=40 by omega)⟩,rfl⟩
def dI (xs:List Int) (a m:Int) (w:Bool) (S:Store) (l:List D) (ρ:List Slot) (S':Store):Prop:=S'=S/\∃ (j:Int) (ns:List Nt) (x6 x7 x8:Slot),l=zR j m/\0<=j/\(ns.length:Int)<=j/\j<=m/\(∀ n∈ns,NOk n)/\ρ=[.sh (LI xs),.sh (.int a),.sh (.int m),.sh (.bl w),.ow (LS nL),.ow (.lst (ns.map ntD)),x6,x7,x8]
noncomputable abbrev dA:C:=.app 5 (.tup [(.call 26 [⇑0,(.bin .Add (.bin .Add ⇑1 (.bin .Mult ↥9 ⇑6)) ↥5)]),⇑7,⇑8])
noncomputable abbrev dB:C:=.set (.one 8) (.call 26 [⇑0,(.bin .Add (.bin .Add ⇑1 (.bin .Mult ↥9 ⇑6)) ↥2)])
theorem ziZ {a m j y:Int}{w:Bool}{s:Str}{ns:List Nt}{Kc:Ko}(hx:0 < xs.length) (hk:1<=K) (h3:m<=3) (hj:0<=j) (hjm:j < m) (hnl:(ns.length:Int)<=j) (hn:∀ n∈ns,NOk n) (hs:s∈nL) (hy:In y):wpCs (zb F wh K) noX wh [dA] [.sh (LI xs),.sh (.int a),.sh (.int m),.sh (.bl w),.ow (LS nL),.ow (.lst (ns.map ntD)),.sh (.int j),.sh (.str s),.sh (.int y)] (trn Kc (dI xs a m w S (zR (j+1) m))) S:=by
 nofun;refine (yj hx hk).go ?_;rintro _ ⟨z,rfl,hz⟩;nofun;refine ⟨rfl,j+1,ns++[(z,s,y)],.sh (.int j),.sh (.str s),.sh (.int y),rfl,by omega,by rw [π];simp only [η,ς];omega,by omega,fun n hm=>?_,by rw [Ϝ];rfl⟩;rcases aD.mp hm with hm | hm
 ·exact hn n hm
 ·rw [Η.mp hm];exact ⟨hz,hs,hy⟩
theorem zi0 {a m j y:Int}{w:Bool}{s:Str}{ns:List Nt}{Kc:Ko}(hx:0 < xs.length) (hk:1<=K) (h3:m<=3) (hj:0<=j) (hjm:j < m) (hnl:(ns.length:Int)<=j) (hn:∀ n∈ns,NOk n) (hs:s∈nL):wpCs (zb F wh K) noX wh [dB] [.sh (LI xs),.sh (.int a),.sh (.int m),.sh (.bl w),.ow (LS nL),.ow (.lst (ns.map ntD)),.sh (.int j),.sh (.str s),.sh (.int y)] (nxt (fun ρ' S'=>wpCs (zb F wh K) noX wh [dA] ρ' (trn Kc (dI xs a m w S (zR (j+1) m))) S') (trn Kc (dI xs a m w S (zR (j+1) m)))) S:=by nofun;refine (yj hx hk).go ?_;rintro _ ⟨z,rfl,hz⟩;refine zL (a:=[.sh (LI xs),.sh (.int a),.sh (.int m),.sh (.bl w),.ow (LS nL),.ow (.lst (ns.map ntD)),.sh (.int j),.sh (.str s),.sh (.int z)]) rfl ?_;refine z6 ?_;refine ul ?_;refine z6 ?_;exact ziZ hx hk h3 hj hjm hnl hn hs hz
theorem zaP {a m:Int}{w:Bool}(hx:0 < xs.length) (h0:0<=m) (h3:m<=3) (hK:2<=K):Sm K 31 [LI xs,.int a,.int m,.bl w] (fun x=>∃ ns:List Nt,x=(.tup (ns.map ntD),.st)/\(∀ n∈ns,NOk n)/\ns.length<=3) S:=by
 obtain ⟨K,hk,rfl⟩:=up hK;refine Yl ?_;nofun;refine zF (by rw [fits_of (by omega),decide_eq_true (by omega)];rfl) ?_;refine wp_walk (dI xs a m w S) ?_ ?_ _ _ _ ⟨rfl,0,[],.no,.no,.no,rfl,by decide,by decide,h0,fun _ h=>(nomatch h),rfl⟩
 ·rintro d l ρ S' ⟨rfl,j,ns,x6,x7,x8,e1,hj,hnl,hjm,hn,rfl⟩;by_cases hlt:j < m
  ·rw [uJ hlt] at e1;obtain ⟨rfl,rfl⟩:=Ψ e1;nofun;refine (zN hx (by decide) hk).go ?_;rintro _ ⟨v,rfl,g0,g1⟩;obtain ⟨s,hs,e⟩:=Zg (ws:=nL) g0 g1;refine zr e ?_;nofun;refine (zN hx (by decide) hk).go ?_;rintro _ ⟨y,rfl,hy0,hy1⟩;refine zL (a:=[.sh (LI xs),.sh (.int a),.sh (.int m),.sh (.bl w),.ow (LS nL),.ow (.lst (ns.map ntD)),.sh (.int j),.sh (.str s),.sh (.int y)]) rfl ?_;refine z6 ?_;refine yx ?_;dsimp only [wpC,e_or,Kg,Xy,zG,yw];refine zH rfl ?_;refine Kq rfl ?_;refine yC (fun hw=>?_) (fun hw=>?_)
   ·refine Kq rfl ?_;exact zF rfl (zi0 hx hk h3 hj hlt hnl hn hs)
   ·refine zH rfl ?_;refine zr (eq_str s "tell") ?_;refine Kq rfl ?_;refine yC (fun hw=>zi0 hx hk h3 hj hlt hnl hn hs) (fun hw=>?_);refine ul ?_;refine z6 ?_;exact ziZ hx hk h3 hj hlt hnl hn hs (in_of hy0 hy1 (by decide))
  ·rw [WQ (by omega)] at e1;cases e1
 ·rintro ρ S' ⟨rfl,j,ns,x6,x7,x8,e1,hj,hnl,hjm,hn,rfl⟩;nofun;exact ⟨⟨ns,rfl,hn,by omega⟩,rfl⟩
def hI (xs:List Int) (w:Bool) (ps:List (List Int)) (S:Store) (l:List D) (ρ:List Slot) (S':Store):Prop:=S'=S/\∃ (n:Nat) (a b:List (List Int)) (hs:List Hs) (x5 x6 x7 x8 x9 x10 x11:Slot),ps=a++b/\l=vW n (b.map tupI)/\hs.map (·.p)=a/\(∀ h∈hs,HOk h)/\ρ=[.sh (LI xs),.sh (.int 5),.ow (LS wL),.sh (.bl w),.ow (.lst (hs.map hsD)),x5,x6,x7,x8,x9,x10,x11,.no]
def aI (xs:List Int) (w:Bool) (ps:List (List Int)) (hs:List Hs) (S:Store) (l:List D) (ρ:List Slot) (S':Store):Prop:=S'=S/\∃ (n:Nat) (a b:List (List Int)) (as:List Ak) (x5 x6 x7 x8 x9 x10 x11:Slot),ps=a++b/\l=vW n (b.map tupI)/\as.map (·.p)=a/\(∀ h∈as,AOk h)/\ρ=[.sh (LI xs),.sh (.int 5),.ow (LS wL),.sh (.bl w),.ow (.lst (hs.map hsD)),x5,x6,x7,x8,x9,x10,x11,.ow (.lst (as.map akD))]
noncomputable abbrev hT:List C:=[.set (.one 10) (.call 31 [⇑0,(.bin .Add ⇑7 ↥20),(.call 25 [⇑0,(.bin .Add ⇑7 ↥9),↥4]),⇑3]),.set (.one 11) (.tup [⇑6,(.sub ⇑2 (.call 25 [⇑0,(.bin .Add ⇑7 ↥1),↥8])),(.call 26 [⇑0,(.bin .Add ⇑7 ↥2)]),(.call 29 [⇑0,(.bin .Add ⇑7 ↥5),⇑8])]),.app 4 (.bin .Add ⇑11 (.tup [⇑10,⇑9]))]
theorem zaN {w e:Bool}{st:Option Stt}{ps a b:List (List Int)}{p:List Int}{n:Nat}{j q:Int}{hs:List Hs}{x10 x11:Slot}{Kc:Ko}(hx:0 < xs.length) (hk:4<=K) (hst:st.isSome=!e) (hso:∀ s,st=some s->SOk s) (hpp:POk p/\(p.length:Int)∈([0,2,4]:List Int)) (hal:hs.length<=5) (e1:ps=a++p::b) (e3:hs.map (·.p)=a) (ho:∀ h∈hs,HOk h):wpCs (zb F wh K) noX wh hT [.sh (LI xs),.sh (.int 5),.ow (LS wL),.sh (.bl w),.ow (.lst (hs.map hsD)),.sh (.int j),.sh (tupI p),.sh (.int q),.sh (.bl e),.sh (stO st),x10,x11,.no] (trn Kc (hI xs w ps S (vW n (b.map tupI)))) S:=by
 nofun;refine (zN hx (by decide) (by omega)).go ?_;rintro _ ⟨m,rfl,m0,m1⟩;nofun;refine (zaP hx m0 (by omega) (by omega)).go ?_;rintro _ ⟨ns,rfl,hns,hnl⟩;nofun;refine (zN hx (by decide) (by omega)).go ?_;rintro _ ⟨v,rfl,v0,v1⟩;obtain ⟨s,hs',es⟩:=Zg (ws:=wL) v0 v1;refine zr es ?_;nofun;refine (yj hx (by omega)).go ?_;rintro _ ⟨z,rfl,hz⟩;nofun;refine (zaO hx (by omega)).go ?_;rintro _ ⟨ed,rfl,hed,hde⟩;nofun;refine ⟨rfl,n,a++[p],b,hs++[⟨p,s,z,ed,ns,st⟩],.sh (.int j),.sh (tupI p),.sh (.int q),.sh (.bl e),.sh (stO st),.sh (.tup (ns.map ntD)),.sh (.tup [tupI p,.str s,.int z,edD ed]),by rw [e1];simp,rfl,by rw [Ϝ,e3];rfl,fun h hm=>?_,by rw [Ϝ];rfl⟩;rcases aD.mp hm with hm | hm
 ·exact ho h hm
 ·rw [Η.mp hm];refine ⟨hpp.1,hpp.2,hs',hz,hed,hns,hnl,?_,hso⟩;show st.isSome=ed.isNone
  rw [hst,<- hde];cases ed <;> rfl
theorem zaM {w:Bool}{ps:List (List Int)}{Kc:Ko}(hx:0 < xs.length) (hp:∀ p∈ps,POk p/\(p.length:Int)∈([0,2,4]:List Int)) (hl:ps.length<=5) (hk:4<=K):∀ d l ρ S',hI xs w ps S (d::l) ρ S'->optS (yz ρ (.tup [5,6]) (d,false)) fun ρ1=>wpCs (zb F wh K) noX wh [.set (.one 7) (.bin .Add ↥40 (.bin .Mult ↥40 ⇑5)),.set (.one 8) (.cmp .Eq (.call 25 [⇑0,⇑7,↥2]) ↥0),.set (.one 9) (.tup []),.ite (.not ⇑8) [.set (.one 9) (.call 30 [⇑0,(.bin .Add ⇑7 ↥10),⇑3])] [],.set (.one 10) (.call 31 [⇑0,(.bin .Add ⇑7 ↥20),(.call 25 [⇑0,(.bin .Add ⇑7 ↥9),↥4]),⇑3]),.set (.one 11) (.tup [⇑6,(.sub ⇑2 (.call 25 [⇑0,(.bin .Add ⇑7 ↥1),↥8])),(.call 26 [⇑0,(.bin .Add ⇑7 ↥2)]),(.call 29 [⇑0,(.bin .Add ⇑7 ↥5),⇑8])]),.app 4 (.bin .Add ⇑11 (.tup [⇑10,⇑9]))] ρ1 (trn Kc (hI xs w ps S l)) S':=by
 rintro d l ρ S' ⟨rfl,n,a,b,hs,x5,x6,x7,x8,x9,x10,x11,e1,e2,e3,ho,rfl⟩;cases b with
 | nil=>cases e2
 | cons p b=>
  obtain ⟨rfl,rfl⟩:=Ψ e2;have hpp:=hp p (by rw [e1];simp);have hal:hs.length<=5:=by rw [<- ζ (f:=(·.p)),e3];rw [e1,π] at hl;omega
  generalize hj:(n:Int)=j;refine zL (a:=[.sh (LI xs),.sh (.int 5),.ow (LS wL),.sh (.bl w),.ow (.lst (hs.map hsD)),.sh (.int j),.sh (tupI p),x7,x8,x9,x10,x11,.no]) (by rw [<- hj];rfl) ?_;nofun;generalize 40+40*j=at0;refine (zN hx (by decide) (by omega)).go ?_;rintro _ ⟨v,rfl,_,_⟩;nofun;refine yC (fun h=>?_) (fun h=>?_)
  ·nofun;refine (zaE hx (by omega)).go ?_;rintro _ ⟨s,rfl,hs'⟩;refine zL (a:=[.sh (LI xs),.sh (.int 5),.ow (LS wL),.sh (.bl w),.ow (.lst (hs.map hsD)),.sh (.int j),.sh (tupI p),.sh (.int at0),.sh (.bl (v==0)),.sh (stO (some s)),x10,x11,.no]) rfl ?_;refine z6 ?_;refine ul ?_;refine z6 ?_;exact zaN hx hk (show true=_ from h.symm) (fun x e=>by cases e;exact hs') hpp hal e1 e3 ho
  ·refine ul ?_;refine z6 ?_;exact zaN (e:=v==0) (st:=none) hx hk (show false=_ from h.symm) (fun x e=>by cases e) hpp hal e1 e3 ho
theorem zfw {w:Bool}{ps:List (List Int)}{hs:List Hs}{Kc:Ko}(hx:0 < xs.length) (hp:∀ p∈ps,POk p/\(p.length:Int)∈([2,4,6]:List Int)) (hl:ps.length<=5) (hk:4<=K):∀ d l ρ S',aI xs w ps hs S (d::l) ρ S'->optS (yz ρ (.tup [5,6]) (d,false)) fun ρ1=>wpCs (zb F wh K) noX wh [.set (.one 7) (.bin .Add ↥350 (.bin .Mult ↥20 ⇑5)),.set (.one 11) (.tup [⇑6,(.sub ⇑2 (.call 25 [⇑0,⇑7,↥8])),(.call 26 [⇑0,(.bin .Add ⇑7 ↥1)]),(.call 26 [⇑0,(.bin .Add ⇑7 ↥4)])]),.app 12 (.bin .Add ⇑11 (.tup [(.call 29 [⇑0,(.bin .Add ⇑7 ↥7),(.cmp .Eq (.call 25 [⇑0,(.bin .Add ⇑7 ↥15),↥2]) ↥0)])]))] ρ1 (trn Kc (aI xs w ps hs S l)) S':=by
 rintro d l ρ S' ⟨rfl,n,a,b,as,x5,x6,x7,x8,x9,x10,x11,e1,e2,e3,ho,rfl⟩;cases b with
 | nil=>cases e2
 | cons p b=>
  obtain ⟨rfl,rfl⟩:=Ψ e2;have hpp:=hp p (by rw [e1];simp);have hal:as.length<=5:=by rw [<- ζ (f:=(·.p)),e3];rw [e1,π] at hl;omega
  generalize hj:(n:Int)=j;refine zL (a:=[.sh (LI xs),.sh (.int 5),.ow (LS wL),.sh (.bl w),.ow (.lst (hs.map hsD)),.sh (.int j),.sh (tupI p),x7,x8,x9,x10,x11,.ow (.lst (as.map akD))]) (by rw [<- hj];rfl) ?_;nofun;generalize 350+20*j=at0;refine (zN hx (by decide) (by omega)).go ?_;rintro _ ⟨v,rfl,v0,v1⟩;obtain ⟨s,hs',es⟩:=Zg (ws:=wL) v0 v1;refine zr es ?_;nofun;refine (yj hx (by omega)).go ?_;rintro _ ⟨z,rfl,hz⟩;nofun;refine (yj hx (by omega)).go ?_;rintro _ ⟨y,rfl,hy⟩;nofun;refine (zN hx (by decide) (by omega)).go ?_;rintro _ ⟨u,rfl,_,_⟩;nofun;refine (zaO hx (by omega)).go ?_;rintro _ ⟨ed,rfl,hed,hde⟩;nofun;refine ⟨rfl,n+1,a++[p],b,as++[⟨p,s,z,y,ed⟩],.sh (.int j),.sh (tupI p),.sh (.int at0),x8,x9,x10,.sh (.tup [tupI p,.str s,.int z,.int y]),by rw [e1];simp,rfl,by rw [Ϝ,e3];rfl,fun h hm=>?_,by rw [Ϝ];rfl⟩;rcases aD.mp hm with hm | hm
  ·exact ho h hm
  ·rw [Η.mp hm];exact ⟨hpp.1,hpp.2,hs',hz,hy,hed⟩
theorem zcB (hx:0 < xs.length) (hK:5<=K):Sm K 32 [LI xs,.int 5] (fun x=>∃ H:Hl,x=(hlD H,.st)/\LHOk H) S:=by
 obtain ⟨K,hk,rfl⟩:=up hK;refine Wy ?_;nofun;refine (zN hx (by decide) (by omega)).go ?_;rintro _ ⟨v,rfl,_,_⟩;nofun;refine (zN hx (by decide) (by omega)).go ?_;rintro _ ⟨m,rfl,m0,m1⟩;nofun;refine (Xk (cs:=[0,2,4]) hx (by decide) (by decide) m0 (by omega) (by omega)).go ?_;rintro _ ⟨ps,rfl,hp,hu,hn,hl⟩;refine kp_f rfl ?_;refine zr (a:=ps.map tupI) rfl ?_;refine wp_walk (hI xs (v==0) ps S) (zaM hx hp hl hk) ?_ _ _ _ ⟨rfl,0,[],ps,[],.no,.no,.no,.no,.no,.no,.no,rfl,rfl,rfl,fun _ h=>(nomatch h),rfl⟩;rintro ρ S' ⟨rfl,n,a,b,hs,x5,x6,x7,x8,x9,x10,x11,e1,e2,e3,ho,rfl⟩;cases b with
 | cons _ _=>cases e2
 | nil=>
  rw [ύ] at e1;subst e1;subst e3;rw [ζ] at hl;nofun;refine (zN hx (by decide) (by omega)).go ?_;rintro _ ⟨m,rfl,m0,m1⟩;nofun;refine (Xk (cs:=[2,4,6]) hx (by decide) (by decide) m0 (by omega) (by omega)).go ?_;rintro _ ⟨qs,rfl,hp2,hu2,hn2,hl2⟩;refine kp_f rfl ?_;refine zr (a:=qs.map tupI) rfl ?_;refine wp_walk (aI xs (v==0) qs hs S') (zfw hx hp2 hl2 hk) ?_ _ _ _ ⟨rfl,0,[],qs,[],x5,x6,x7,x8,x9,x10,x11,rfl,rfl,rfl,fun _ h=>(nomatch h),rfl⟩;rintro ρ S' ⟨rfl,n,a,b,as,x5,x6,x7,x8,x9,x10,x11,e1,e2,e3,ho2,rfl⟩;cases b with
  | cons _ _=>cases e2
  | nil=>
   rw [ύ] at e1;subst e1;subst e3;rw [ζ] at hl2;nofun;refine (yj hx (by omega)).go ?_;rintro _ ⟨t,rfl,ht⟩;nofun;exact ⟨⟨⟨t,hs,as⟩,rfl,ht,ho,ho2,hu,hn,hl,hu2,hn2,hl2⟩,rfl⟩
end
theorem law_wp (cells:List Int) (hc:cells.length<=63):xH F wh 60 38 [.scr cells] (fun x _=>x.1=.bl true) []:=by
 refine zjg ?_;nofun;obtain ⟨ms,em,hm⟩:=zfO cells none (some 12);rw [em];refine vQ (Z9 (a:=[.int cells.length]) (b:=ms.map D.int) (by rw [ζ];simp only [η,ς];omega)) ?_;nofun;refine wp_walk (fun l ρ S'=>∃ (cs:List Int) (x1 x2 x3 x4:Slot),l=cs.map D.int/\ρ=[.sh (.scr cells),x1,x2,x3,x4]) ?_ ?_ _ _ _ ⟨(cells.length:Int)::ms,.no,.no,.no,.no,rfl,rfl⟩
 ·rintro d l ρ S ⟨cs,x1,x2,x3,x4,e1,rfl⟩;cases cs with
  | nil=>cases e1
  | cons c cs=>
   obtain ⟨rfl,rfl⟩:=Ψ e1;nofun;refine (zcO (by omega)).go ?_;rintro _ ⟨ys,rfl,hy⟩;nofun;refine (zcB (xs:=ys) (by omega) (by omega)).go ?_;rintro _ ⟨H,rfl,o⟩;nofun;refine (zaq o (by omega)).go ?_;nofun;refine (zcr o (by omega)).go ?_;nofun;refine (Jc o (by omega)).go ?_;nofun;refine wp_mono (Zv o (by omega)) ?_;rintro _ S1 rfl;nofun;refine (Qw 5 (zjd o) (by omega)).go ?_;nofun;refine wp_mono (Zv o (by omega)) ?_;rintro _ S2 rfl;nofun;refine (Jc o (by omega)).go ?_;nofun;refine wp_mono (Zv o (by omega)) ?_;rintro _ S3 rfl;nofun;refine (Qw 5 (zjd o) (by omega)).go ?_;nofun;exact ⟨cs,_,_,_,_,rfl,rfl⟩
 ·rintro ρ S ⟨cs,x1,x2,x3,x4,e1,rfl⟩;nofun;rfl
theorem run_law:∀ ns:List Int,ns.length<=63->xH (wF rs) wh 60 38 [.scr ns] (fun x _=>x.1=.bl true) []:=law_wp
end Q75
open PySem PySem.W PyProof.Rows
theorem PySem.Challenge.cw_errandroom_k75_halls_as_texts_holds : PySem.Challenge.rw_errandroom_k75_halls_as_texts.Holds := by
 exact EV.ziz (q := Q75.jz) (loose := []) (d := Q75.ug) (B := Q75.B) (rs := Q75.rs) (f := 38) (r := Q75.zew) (y := "script") (wh := Q75.wh) 12000 500 Q75.zkG Q75.zfj Q75.zkM Q75.zkL Q75.zkK Q75.zkH Q75.zkI Q75.zkF rfl Q75.zkJ rfl rfl (by kernel_rfl) rfl Q75.tabs Q75.run_law
