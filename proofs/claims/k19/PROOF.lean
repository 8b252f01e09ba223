import PyProof.Rows.All
import Wide.All
import OpenK.AllK
import Wide.FinOn
import Lean
import PyProof.EqAt
import PyProof.EqKinds
import PyProof.TupleCall
import KE.KLam
import PyProof.EnumMake
import PyProof.EnumIter
import PyProof.EnumFor
import PyProof.EnumStmt
import PyProof.WalksEnum
import PyProof.ZipIter
import KE.KRevIter
import PyProof.Rows.Range3
import PyProof.Rows.SortShell
import KE.KTops
import PyProof.Rows.SortRuns
import PyProof.Rows.SortKey
import KE.KSortTup
import PyProof.PureInt
import KE.KDictSum
import PyProof.Rows.SetFrom
import PyProof.SetKind
import PyProof.DictKinds
import PyProof.WalksMore
import PyProof.FactsAll.set_1
import PyProof.CollectWalk
import PyProof.CollectIter
import KE.KSortAsk
import PyProof.TupleKey
import PyProof.DictKeyH
import PyProof.ReprRoads
import PyProof.ListMulRoad
import PyProof.NeKinds
import KE.KEqDict
import KE.KIntText
import PyProof.SumWalkG
import PyProof.Rows.SumGenD
import PyProof.CompMap
import PyProof.RaisesMany
import PyProof.RulesAs
import PyProof.ExcClass2
import PyProof.ExcArgsOwn
import PyProof.IsiBase
import PyProof.ExcAttrAll.ValueError
import PyProof.ExcBaseAll.ValueError
import OpenK.KDescr
import OpenK.KOwn
import KE.KIsAll
import PyProof.NsDelKeeps
import KE.KTryMore
import PyProof.TupleOfGen
import PyProof.ListRange
import PySem.Challenge.RW_errandroom_k19_machines_spoilt
set_option Elab.async false
set_option linter.all false
set_option maxRecDepth 100000
set_option maxHeartbeats 0
set_option tactic.hygienic false
set_option backward.match.sparseCases false
set_option genSizeOfSpec false
set_option bootstrap.genMatcherCode false
set_option compiler.extract_closed false
open Array renaming length_toList -> aW, getElem?_eq_getElem -> cD, getElem?_toList -> dg, getElem?_eq_some_iff -> dJ, append_assoc -> m6
open Bool renaming and_eq_true -> ε, false_ne_true -> Κ, and_eq_true_iff -> Ϡ, false_and -> aA, and_false -> aM, false_eq_true -> bj, not_eq_true' -> b7, true_and -> cJ, or_eq_true -> dz, false_or -> d7, and_true -> d8, or_false -> lV, true_or -> mF, or_true -> mG, eq_false_iff -> nG
open Classical renaming choose -> bC, propDecidable -> dN, choose_spec -> eQ
open False renaming elim -> ϰ
open ForInStep renaming yield -> dZ
open Int renaming emod_lt_of_pos -> cR, lt_add_one_of_le -> dw, emod_nonneg -> dC, toNat_natCast -> iy
open List renaming replicate -> η, mem_cons_self -> θ, mem_cons_of_mem -> ι, length_map -> ξ, size_toArray -> ο, getElem?_eq_some_iff -> υ, mem_cons -> χ, getElem?_eq_getElem -> ψ, mem_singleton -> ω, append_nil -> Ε, getElem?_map -> Η, getElem?_set_ne -> Ι, mem_of_getElem? -> Ξ, nil_append -> Τ, length_append -> Υ, not_mem_nil -> Φ, mem_map -> Ψ, map_cons -> ϐ, getElem?_append_left -> ϑ, getElem?_append_right -> ϔ, mem_append_right -> ϗ, cons_append -> Ϙ, lookup_cons -> ϛ, getElem?_cons_zero -> ϝ, mem_append -> ϣ, set -> Ϥ, getElem?_cons_succ -> ϥ, map -> Ϩ, getElem?_set_self -> ϩ, length_set -> ϭ, replicate_succ -> ϯ, mem_iff_getElem? -> ϳ, contains_iff_mem -> ϴ, range -> Ϲ, all_eq_true -> ak, map_append -> aC, length_replicate -> aJ, length_cons -> aY, zip_cons_cons -> bc, getD_eq_getElem?_getD -> bh, nodup_cons -> bA, flatten_cons -> bB, length_take -> bG, length_eq_zero_iff -> bH, length_drop -> bI, map_map -> bM, of_mem_zip -> bO, nodup_append -> bZ, mem_range -> cu, take -> cA, getElem_mem -> cB, any_eq_true -> cC, getElem?_zip_eq_some -> cF, filterMap_cons -> cG, find?_cons -> cM, getElem?_replicate -> cQ, set_eq_take_append_cons_drop -> cU, getElem?_set -> cV, getElem?_eq_none -> dj, any_cons -> dq, drop -> dI, mem_or_eq_of_mem_set -> dO, ext_getElem? -> dX, filter_cons -> eU, take_of_length_le -> eZ, sum_replicate_nat -> fc, length_eq_one_iff -> fj, mem_filter -> fH, length_zip -> fJ, length_nil -> fK, mem_of_mem_take -> fU, length_flatten -> gf, all_cons -> gh, mem_filterMap -> gw, map_replicate -> gA, take_sublist -> gZ, append_assoc -> g8, all_map -> ie, map_fst_zip -> iD, foldl_cons -> iU, foldl -> lC, drop_eq_getElem_cons -> lJ, set_eq_of_length_le -> lR, map_take -> lU, range_succ_eq_map -> mz, map_set -> mC, map_nil -> mD, mem_append_left -> mV, drop_eq_nil_iff -> mW, mem_map_of_mem -> mY, map_congr_left -> mZ, getElem_of_mem -> m5, lookup_append -> m8, getElem_range -> m9, reverse_cons -> nC, getElem?_inj -> nD, all_eq_false -> nF
open List.cons renaming inj -> iM
open Nat renaming le_refl -> Ζ, beq -> Ν, lt_of_lt_of_le -> Χ, ne_of_lt -> ϊ, le_of_ble_eq_true -> ύ, le_trans -> ϡ, lt_irrefl -> cL, zero_le -> cT, lt_succ_self -> eX, ne_of_gt -> fC, le_of_lt -> fD, le_of_eq -> fG, lt_succ_of_lt -> iw, le_of_not_lt -> iK, not_lt_zero -> lq, mul_comm -> mR, lt_of_le_of_lt -> nA
open Nat.succ renaming inj -> dY
open Ne renaming symm -> bK
open Option renaming map_eq_some_iff -> Α, bind_eq_some_iff -> Ϗ, some -> Ϸ, getD -> fL, isSome_map -> gq, isNone_iff_eq_none -> lg, isSome_iff_exists -> lB, getD_none -> m7
open Option.some renaming inj -> Ϛ
open Prod renaming mk -> gW
open Prod.mk renaming inj -> dh
open PyProof.Rows renaming callWith_type1 -> ϫ, slot_tuple_getitem -> Ϯ, AllBare -> fB, Keyed -> fO, IsTup -> gK, envOfC -> iH, subscriptTail_builtinR -> nj
open PyProof.Rows.KTD renaming datumAt -> fZ
open PySem renaming Value -> δ, wpAny_bind -> ζ, wpAny_pure -> π, Shared -> ς, Program -> Λ, mainGlobals -> Ο, wpAny -> Ρ, Builtin -> Ω, compareOp -> ϋ, model -> ώ, World -> ϓ, Expr -> ϖ, Around -> ϙ, wpAny_newObj_type -> Ϝ, NameKind -> Ϟ, Spec -> ϟ, mem_of_lookup -> Ϣ, starEach -> ϧ, cLine -> ϵ, wpAny_callSpecial?_slot -> aj, wpAny_field -> ao, Stmt -> au, wpAny_call_entry -> aD, wpAny_truthy_bool -> aG, Scope -> aH, assignEach -> aN, Arguments -> aO, rawInt -> aR, binaryOp -> aU, FuncData -> aV, sysModules -> bz, sizeLine_eq -> bD, foldedSetIterable -> bF, swappedStores -> bJ, wpAny_typeNameOfWhole_keyiter -> bR, wpAny_typeOf -> bT, wpAny_mono -> bU, wpAny_Call_Name_kw -> bV, bootBuiltins -> bW, wpAny_passesOwn -> cg, swapsWithSole -> cj, wpAny_setField -> cH, World -> cN, Keyword -> cW, wpAny_setField_rec -> cX, tupleKind_room_in1 -> cY, wpAny_of_eq -> c7, Paired -> dm, backTo -> dB, DictEntry -> dD, wpAny_holding -> dG, sliceBounds -> dH, wpAny_rule -> d9, assign -> eE, wpAny_pyIter_enum -> eY, swapsWith -> fM, CmpOp -> fP, valueAt -> fW, holding -> fX, call_meets -> fY, IsPart -> f9, wpAny_ite_false -> gb, keywordEach -> gB, isTrue -> gC, bindArgs -> gD, SetTable -> gF, Operator -> gH, tupleKind -> gO, treeTable -> gP, relabel -> gQ, getItem -> gR, PassesOwn -> gY, wpAny_standAt -> iz, wpAny_attempt -> iB, behindInMarks -> iC, typeIs_int -> iG, builtinsNs -> iI, wpAny_pyIter_list -> iV, wpAny_dictEntries -> iW, codeAny_mono -> iY, codeAny -> iZ, noteFrame -> lD, noFill_tuple_add -> lE, cellsFrom -> lF, wpAny_loadPart' -> lW, wpAny_execs_nil -> lX, wpAny_dictEpoch -> lY, letOwnedTupleGo -> lZ, importedModules -> mj, BoolOp -> my, wpAny_load -> mJ, wpAny_letOwnedTupleGo_enum -> mK, typeIs_str -> mL, defaultsOf -> mO, closureFor -> mQ, wpAny_binaryOp_repeat_ref -> mU, seq_tuple_add -> mX, concat_meets -> nq, call_meetsIn -> nu
open PySem.Around renaming frames_deeper -> mH
open PySem.Builtin.Dict renaming showsAll -> iR
open PySem.Builtin.Dict_items renaming ownsTuple -> fu
open PySem.Builtin.List renaming listTooLong -> b8, listExtendWith -> gn
open PySem.Builtin.Range renaming rangeSize -> ig
open PySem.Builtin.Slice renaming slicePlaces -> bQ, sliceAdjust -> du, sliceApplied -> gm
open PySem.Builtin.SmallTypes renaming nextOf -> fQ
open PySem.Builtin.Str renaming occurrences -> aK
open PySem.Builtin.Tuple renaming tupleExact -> aZ, tupleItemsOf -> bL, tupleIsExact -> gk
open PySem.Calls renaming spliced_cons -> gj, spliced_nil -> gM, Name_function_global -> lr
open PySem.Challenge renaming rw_errandroom_k19_machines_spoilt -> ν, pw_errandroom_k19_machines_spoilt -> ϲ
open PySem.Data renaming fields -> Ϻ, seq -> eV
open PySem.EntryCells renaming newEntry -> lM
open PySem.Env renaming kindOf -> lL
open PySem.F renaming slot_dict_get -> bN, args_tuple_add_2 -> dM, plainAttrs_list -> dR, entry_tuple_add -> dU, args_dict_get_3 -> dW, slot_tuple_add -> eF, plainAttrs_str -> eG, entry_dict_get -> eO, plainAttrs_dict -> lw, slot_str_index -> lH, type_dict_get -> lQ
open PySem.Heap renaming get?_push_of_some -> μ, lt_size -> Θ, get?_push_size -> Μ, SameBut -> Ϫ, get?_update_other -> aF, get?_update_self -> bu, size_push -> cz, get?_none_of_le -> fV, ExtBut -> iQ
open PySem.Heap.SameBut renaming update -> cZ, refl -> lK
open PySem.NameKind renaming free -> Ϭ
open PySem.Obj renaming data_mapFields -> aL, mapFields -> aX, isFreed_of_fields -> bY, mapSeq -> gJ, cls_mapFields -> iu
open PySem.Paired renaming length -> lA
open PySem.ScopeKind renaming function -> mq
open PySem.SeqAt renaming RcNeAt -> Ϧ, EqAt -> ϸ, EqAt -> cO, notIn_tupleAt -> gU, notIn_listAt -> ir, in_tupleAt -> iJ, in_listAt -> iT
open PySem.SeqAt.EqAt renaming str_int -> lN, int_str -> lO
open PySem.Shared renaming TypeIs -> lu
open PySem.Str renaming ofString -> ik
open PySem.Txt renaming slice -> gG
open PySem.Value renaming ref -> Β, none -> Δ, type -> ό, int -> ϒ, bool -> ϕ, str -> aQ, isStrOf -> lG
open PySem.World renaming withFollow -> cI
open Sum renaming inr -> aq, inl -> bx
open True renaming intro -> ϱ
namespace L2
open PySem PySem.Spec PyProof.Rows
abbrev VSP:=δ->ς->Prop
abbrev Key:=Sum Int Str
noncomputable def xQ (s:Stmt):aO:=match s with
 | .FunctionDef _ a _ _ _ _ _ _ _ _=>a
 | _=>{ posonlyargs:=[],args:=[],vararg:=none,kwonlyargs:=[],kw_defaults:=[],kwarg:=none,defaults:=[] }
noncomputable def yN (s:Stmt):List Stmt:=match s with
 | .FunctionDef _ _ b _ _ _ _ _ _ _=>b
 | _=>[]
noncomputable def zT (s:Stmt):aH:=match s with
 | .FunctionDef _ _ _ _ _ _ sc _ _ _=>sc
 | _=>{ kind:=.function,names:=[],isGenerator:=false,isCoroutine:=false }
noncomputable abbrev veB:List δ:=[.type "ValueError",.type "Exception",.type "BaseException",.type "object"]
end L2
namespace EV
open PySem PySem.Spec PyProof.Rows L2
inductive D where
 | non | bl (b:Bool) | int (i:Int) | str (x:Str)
 | tup (ds:List D) | lst (ds:List D)
 | dK (ks:List Key) (ds:List D) | dT (ks:List (List Key)) (ds:List D)
 | ref (k:Nat) | fn (f:Nat) | scr (ns:List Int) | ktp (ds:List D) | kdc (ps:List (Str×Int)) | dF (ks:List (List Key)) (ds:List D)
 | ins (c:Str) (ns:List Str) (ds:List D)
 | lam (f:Nat) (ds:List D) | tab (n:Nat)
 deriving Inhabited
inductive Ty where
 | int | bool | str | tuple | list | dict
 deriving DecidableEq
inductive BI where
 | len | abs | int | str | tuple | list | sum | all | any | isinst (t:Ty) | min2 | max2 | sorted | repr | dict | sset | lset | trev | lrng | lrng2
 deriving DecidableEq
inductive MT where
 | get1 | get2 | index | join | split | sidx
 deriving DecidableEq
inductive T where
 | one (i:Nat) | tup (is:List Nat) | nst (i:Nat) (is:List Nat)
 deriving DecidableEq
inductive E where
 | var (i:Nat) | con (d:D) | glo (n:Nat) (d:D)
 | bin (op:gH) (a b:E) | neg (a:E)
 | cmp (op:fP) (a b:E) | chn (o1 o2:fP) (a b c:E)
 | not (a:E) | and (a b:E) | or (a b:E)
 | ite (c a b:E)
 | tup (es:List E) | lst (es:List E) | dic (tk:Bool) (ks:List Key) (vs:List E)
 | sub (a i:E) | slc (a:E) (lo hi:Option E)
 | bi (b:BI) (es:List E) | mth (m:MT) (o:E) (es:List E)
 | call (f:Nat) (es:List E) | callk (f:Nat) (perm:List Nat) (es:List E) | callv (i:Nat) (es:List E)
 | comp (t:T) (js:List Nat) (it:E) (ifs:List E) (elt:E)
 | box (e:E) | one (e:E) | flip (e:E) | dk1 (a b:E)
 | seq (e:E) | rng (lo:Option E) (hi:E) | enum (e:E) | zip (a b:E) | rev (e:E) | items (e:E) | dwn (es:List E) | keys (e:E)
 | att (cs:List Str) (o:E) (f:Str) | met (ms:List (Str×Nat)) (o:E) (m:Str) (es:List E) | mk (c:Str) (f:Nat) (es:List E)
 | lam (f p:Nat) (js:List Nat) | cvl (i:Nat) (es:List E)
inductive HB where
 | is (k:Nat) | isT (ks:List Nat) | ve | var (j:Nat) | not (a:HB) | and (a b:HB) | or (a b:HB) | one (a:HB)
inductive C where
 | set (t:T) (e:E)
 | expr (e:E)
 | ret (e:E) | retN
 | ite (c:E) (a b:List C)
 | whl (c:E) (b:List C)
 | forr (t:T) (it:E) (b:List C)
 | app (i:Nat) (e:E) | ext (i:Nat) (e:E)
 | stv (i:Nat) (k v:E) | sti (o k v:E) | appR (o e:E) | pop (i:Nat) | popR (t:T) (o:E) | popO (t:T) (i:Nat)
 | pass | brk | cnt | frz (i:Nat) | frr (i:Nat) | frk (i:Nat)
 | rse (c:Nat) | tri (tb:List (List Nat)) (f:Nat) (es:List E) (c i:Nat) (hs:List (Nat×HB))
 | lin (i:Nat) (es:List E)
 | stx (i f:Nat) (es:List E) | sw2 (i j:Nat) (a b:E)
 | trx (tb:List (List Nat)) (j f:Nat) (es:List E) (c i:Nat) (h:HB) (a b:List D) (els:List C)
 | sta (cs:List Str) (o:E) (f:Str) (e:E) | aua (cs:List Str) (o:E) (f:Str) (op:gH) (e:E)
structure Fn where
 np:Nat
 nv:Nat
 body:List C
structure Ob where
 name:Str
 fields:List Str
 meths:List (Str×Nat)
structure LamR where
 p:Str
 f:Str
 g:Str
 gi:Nat
structure Tb where
 fns:List Str
 pars:List (List Str)
 consts:List (Str×D)
 bare:List Str
 kws:List (Nat×List Str×List Nat)
 cls:List (Str×List Nat)
 obs:List Ob:=[]
 lams:List LamR:=[]
 tabs:List Str:=[]
structure Row where
 name:Str
 st:Stmt
 ps:List Str
 N:List Str
 fn:Fn
noncomputable def frOf (h:Heap) (n:Nat):W.Frag:=(Ϲ n).filterMap fun a=>(h.get? a).map fun o=>(a,o)
noncomputable def dotted (x:Str):Bool:=x.cps.contains 46
noncomputable def clOf (x:Str):Str:=⟨(x.cps.toList.takeWhile fun c=>c != 46).toArray⟩
noncomputable def snOf (x:Str):Str:=⟨((x.cps.toList.dropWhile fun c=>c != 46).drop 1).toArray⟩
noncomputable def nmOf (x:Str):Str:=if dotted x=true then snOf x else x
noncomputable def caOf (K:W.Frag) (x:Str):Option Addr:=match W.nsIn K Ο x with
 | some (some (.ref C))=>some C
 | _=>none
noncomputable def atN (K:W.Frag) (x:Str):Option (Option δ):=if dotted x=true then (match caOf K (clOf x) with
  | some C=>W.findIn K (.ref C) (snOf x)
  | none=>none) else W.nsIn K Ο x
noncomputable def tbAt (K:W.Frag) (x:Str):Option (Addr×Addr):=match atN K x with
  | some (some (.ref f))=>(match K.lookup f with
    | some ⟨_,_,.func fd,_⟩=>(match fd.code with
      | .ref c=>(match K.lookup c with
        | some ⟨_,_,.fields vs,_⟩=>(match vs.getD 11 .none with
          | .ref P=>some (c,P)
          | _=>none)
        | _=>none)
      | _=>none)
    | _=>none)
  | _=>none
noncomputable def zhh:δ->Bool
 | .str _ _=>true
 | _=>false
noncomputable def zcy:δ->Bool
 | .int _ _=>true
 | _=>false
noncomputable def zed:δ->Bool
 | .bool _=>true
 | _=>false
noncomputable def cdO (c P:Addr):Option Obj->Bool
 | some ⟨cl,_,.fields vs,_⟩=>cl==.type "code"&&vs[11]?==some (.ref P)&&zhh (vs.getD 18 .none)&&zcy (vs.getD 7 .none)&&zed (vs.getD 9 .none)&&zcy (vs.getD 10 .none)
 | _=>false
noncomputable def bmO:Option Obj->Bool
 | some ⟨cl,some d,.plain,_⟩=>cl==.type "module"&&d==iI
 | _=>false
noncomputable def cdOk (K:W.Frag) (c P:Addr):Bool:=cdO c P (K.lookup c)&&c != P&&P != Ο&&(match caOf K "__builtins__" with
  | some bm=>bm != iI&&bm != Ο&&bm != P&&bmO (K.lookup bm)
  | none=>false)
noncomputable def zau (K:W.Frag) (x:Str):Option (aV×Bool):=match atN K x with
  | some (some (.ref f))=>(match K.lookup f with
     | some ⟨_,_,.func fd,_⟩=>some ({ fd with kwdefaults:=.none,doc:=.none,pyModule:=.none,annotations:=none,code:=.none,closureTuple:=.none },W.codeIn K fd.code x&&W.keepIn K (.ref f))
     | _=>none)
  | _=>none
noncomputable def ZD:List D->List δ->Bool
 | [],[]=>true
 | .str x::ds,.str y _::vs=>x==y&&ZD ds vs
 | .int i::ds,.int j _::vs=>i==j&&ZD ds vs
 | _,_=>false
noncomputable def zfb (K:W.Frag) (a:Addr):Option (Array δ):=(K.lookup a).bind fun o=>match o.cls,o.data with
 | .type t,.seq its _=>if (t=="tuple"&&decide (its.size<=1000))=true then some its else none
 | _,_=>none
noncomputable def zhB (K:W.Frag) (a:Addr) (ps:List (Str×Int)):Bool:=(match K.lookup a with
  | some o=>(match o.cls with | .type t=>t=="dict" | _=>false)&&o.dict.isNone
  | none=>false)&&KTD.tabLook (KTD.datLooks fun b=>K.lookup b) (fun b=>K.lookup b) a (ps.map fun p=>(p.1,.flat (.int p.2)))
noncomputable def VM (K:W.Frag) (rs:List Row) (x:Str):D->Bool
 | .int i=>(match W.nsIn K Ο x with | some (some (.int j _))=>i==j | _=>false)
 | .str y=>(match W.nsIn K Ο x with | some (some (.str z _))=>y==z | _=>false)
 | .fn i=>(match rs[i]? with | some r=>r.name==x&&!dotted x | none=>false)
 | .ktp ds=>(match W.nsIn K Ο x with | some (some (.ref a))=>(match zfb K a with | some its=>ZD ds its.toList | none=>false) | _=>false)
 | .kdc ps=>(match W.nsIn K Ο x with | some (some (.ref a))=>zhB K a ps | _=>false)
 | _=>false
noncomputable def zbW (K:W.Frag) (cs:List (Str×List Nat)) (p:Str×List Nat):Bool:=match caOf K p.1 with
  | some C=>W.excIn K C veB "ValueError.__new__"&&W.findIn K (.ref C) "__getattribute__"==some (some (.builtin "BaseException.__getattribute__"))&&W.findIn K (.ref C) "__getattr__"==some none&&W.findIn K (.ref C) "__class__"==some (some (.builtin "object.__class__"))
   &&W.mroIn K C (.type "BaseException")==some true&&W.mroIn K C (.type "object")==some true&&(W.clsIn K C).isSome&&W.kitOne K (.ref C) (.type "ValueError")==some true
   &&(Ϲ cs.length).all fun k=>match cs[k]? with
      | some q=>(match caOf K q.1 with
        | some Ck=>W.kitOne K (.ref C) (.ref Ck)==some (p.2.contains k)&&W.exmOne K (.ref C) (.ref Ck)==some (p.2.contains k)
        | none=>false)
      | none=>false
  | none=>false
noncomputable def obOk (K:W.Frag) (rs:List Row) (o:Ob):Bool:=match caOf K o.name with
  | some C=>W.plainGet K C Str.empty&&W.hasDictIn K C&&W.plainOver K C&&W.findIn K (.ref C) "__setattr__"==some (some (.builtin "object.__setattr__"))
   &&o.fields.all (fun f=>W.findIn K (.ref C) f==some none)&&(!(o.meths.any fun q=>q.1==("__init__":Str))||(W.makesIn K C&&W.keepIn K (.ref C)))
   &&o.meths.all fun q=>match rs[q.2]? with
      | some r=>(match atN K r.name with
        | some (some (.ref a))=>W.findIn K (.ref C) q.1==some (some (.ref a))&&W.isFn K (.ref a)&&W.keepIn K (.ref a)
        | _=>false)
      | none=>false
  | none=>false
noncomputable def cutK (K:W.Frag) (B:Tb):W.Frag:=match B.tabs with
 | []=>K
 | _=>K.filter fun p=>!(B.tabs.filterMap fun x=>(tbAt K x).map (·.2)).contains p.1
noncomputable def psOf (K:W.Frag) (B:Tb):List Addr:=B.tabs.map fun x=>((tbAt K x).getD (0,0)).2
noncomputable def tabE:Option Obj->Bool
 | some ⟨.none,none,.fields vs,sl⟩=>vs==#[]&&sl==#[]
 | _=>false
noncomputable def YZ (K0 K:W.Frag) (x:Str):Bool:=match tbAt K x with
 | some q=>cdOk K q.1 q.2&&tabE (K0.lookup q.2)&&(K.lookup q.2).isNone
 | none=>false
noncomputable def zfA (K0 K:W.Frag) (B:Tb) (rs:List Row):List (Option (aV×Bool))×List (Option (Option δ))×List Bool×List Bool×List Bool×List Bool×Bool:=
 (rs.map fun r=>zau K r.name,B.bare.map fun x=>W.nsIn K Ο x,B.consts.map fun p=>VM K rs p.1 p.2,B.cls.map fun p=>zbW K B.cls p,B.obs.map fun o=>obOk K rs o,B.tabs.map fun x=>YZ K0 K x,decide (psOf K B).Nodup)
noncomputable def K9 (K:W.Frag) (B:Tb) (rs:List Row):List (Option (aV×Bool))×List (Option (Option δ))×List Bool×List Bool×List Bool×List Bool×Bool:=zfA K (cutK K B) B rs
noncomputable def Ju (B:Tb) (rs:List Row):List (Option (aV×Bool))×List (Option (Option δ))×List Bool×List Bool×List Bool×List Bool×Bool:=
 (rs.map fun r=>some (W.fnOf (nmOf r.name) r.name (xQ r.st) (yN r.st) (zT r.st) .none .none .none .none none .none .none,true),B.bare.map fun _=>some none,B.consts.map fun _=>true,B.cls.map fun _=>true,B.obs.map fun _=>true,B.tabs.map fun _=>true,true)
noncomputable def drOf (s:Stmt):DefRec:=match s with
 | .FunctionDef n a b _ _ _ sc _ _ p=>⟨n,a,b,sc,p⟩
 | _=>⟨"",xQ s,[],zT s,⟨0,0,0,0⟩⟩
end EV
local macro_rules | `(⇑$n:num) => `(EV.E.var $n)
local macro_rules | `(↥$n:num) => `(EV.E.con (EV.D.int $n)) | `(↥$s:str) => `(EV.E.con (EV.D.str $s))
namespace Q19
open PySem PySem.Spec PyProof.Rows L2 EV
def top (i:Nat):Stmt:=ϲ.main.body.getD i (.Pass ⟨0,0,0,0⟩)
noncomputable abbrev ZL:List C:=[.ret (.and (.bi (.isinst .int) [⇑0]) (.one (.not (.bi (.isinst .bool) [⇑0]))))]
noncomputable def Zk:EV.Row:=⟨"is_whole",top 4,["one"],["one"],⟨1,1,ZL⟩⟩
noncomputable abbrev qP:List C:=[.ret (.and (.call 0 [⇑0]) (.one (.chn .LtE .Lt ↥0 ⇑0 (.glo 0 (.int 1000000007)))))]
noncomputable def kE:EV.Row:=⟨"is_number",top 5,["one"],["one"],⟨1,1,qP⟩⟩
noncomputable abbrev WF:List C:=[.ret (.and (.bi (.isinst .str) [⇑0]) (.one (.cmp .In ⇑0 (.glo 1 (.ktp [(.str "+"),(.str "-"),(.str "*"),(.str "<"),(.str "=")])))))]
noncomputable def Xg:EV.Row:=⟨"is_sign",top 6,["one"],["one"],⟨1,1,WF⟩⟩
noncomputable abbrev jo:List C:=[.ret (.call 4 [⇑0,⇑1,(.glo 2 (.int 3))])]
noncomputable def jg:EV.Row:=⟨"is_formula",top 7,["one","is_name"],["one","is_name"],⟨2,2,jo⟩⟩
noncomputable abbrev xu:List C:=[.ite (.or (.call 1 [⇑0]) (.one (.cvl 1 [⇑0]))) [.ret (.con (.bl true))] [],.ite (.or (.cmp .Eq ⇑2 ↥0) (.or (.not (.bi (.isinst .tuple) [⇑0])) (.or (.cmp .NotEq (.bi .len [⇑0]) ↥3) (.one (.not (.call 2 [(.sub ⇑0 ↥0)])))))) [.ret (.con (.bl false))] [],.ret (.and (.call 4 [(.sub ⇑0 ↥1),⇑1,(.bin .Sub ⇑2 ↥1)]) (.one (.call 4 [(.sub ⇑0 ↥2),⇑1,(.bin .Sub ⇑2 ↥1)])))]
noncomputable def yW:EV.Row:=⟨"is_formula_within",top 8,["one","is_name","deeper"],["one","is_name","deeper"],⟨3,3,xu⟩⟩
noncomputable abbrev Wz:List C:=[.ite (.or (.not (.bi (.isinst .str) [⇑0])) (.one (.not (.chn .LtE .LtE ↥1 (.bi .len [⇑0]) (.glo 4 (.int 8)))))) [.ret (.con (.bl false))] [],.ret (.bi .all [(.comp (.one 0) [] (.seq ⇑0) [] (.cmp .In ⇑0 (.glo 3 (.str "abcdefghijklmnopqrstuvwxyz"))))])]
noncomputable def Xe:EV.Row:=⟨"is_word",top 13,["one"],["one"],⟨1,1,Wz⟩⟩
noncomputable abbrev uM:List C:=[.ret (.and (.bi (.isinst .tuple) [⇑0]) (.one (.chn .LtE .LtE ⇑1 (.bi .len [⇑0]) ⇑2)))]
noncomputable def ut:EV.Row:=⟨"is_tuple_of",top 14,["one","least","most"],["one","least","most"],⟨3,3,uM⟩⟩
noncomputable abbrev qO:List C:=[.ret (.and (.bi (.isinst .tuple) [⇑0]) (.and (.cmp .Gt (.bi .len [⇑0]) ↥0) (.one (.bi (.isinst .str) [(.sub ⇑0 ↥0)]))))]
noncomputable def km:EV.Row:=⟨"is_worded",top 15,["one"],["one"],⟨1,1,qO⟩⟩
noncomputable abbrev WD:List C:=[.ite (.not (.call 6 [⇑1,↥1,(.glo 5 (.int 4))])) [.ret (.con (.bl false))] [],.ite (.or (.not (.call 0 [⇑0])) (.one (.not (.chn .LtE .LtE ↥1 ⇑0 (.bi .len [⇑1]))))) [.ret (.con (.bl false))] [],.ret (.bi .all [(.comp (.one 0) [2,3,4] (.seq ⇑1) [] (.call 9 [⇑0,⇑1,⇑2,⇑3]))])]
noncomputable def Xf:EV.Row:=⟨"is_want",top 16,["least","branches","counts","is_target","is_one"],["least","branches","counts","is_target","is_one"],⟨5,5,WD⟩⟩
noncomputable abbrev qQ:List C:=[.ite (.or (.not (.call 6 [⇑0,↥4,↥4])) (.or (.not (.cvl 2 [(.sub ⇑0 ↥0)])) (.one (.not (.bi (.isinst .str) [(.sub ⇑0 ↥1)]))))) [.ret (.con (.bl false))] [],.ite (.not (.call 5 [(.sub ⇑0 ↥2)])) [.ret (.con (.bl false))] [],.ite (.cmp .Eq (.sub ⇑0 ↥1) ↥"ask") [.ret (.cvl 3 [(.sub ⇑0 ↥3)])] [],.ite (.or (.cmp .NotEq (.sub ⇑0 ↥1) ↥"call") (.one (.cmp .NotIn (.sub ⇑0 ↥2) ⇑1))) [.ret (.con (.bl false))] [],.set (.one 4) (.sub ⇑1 (.sub ⇑0 ↥2)),.ret (.and (.call 6 [(.sub ⇑0 ↥3),⇑4,⇑4]) (.one (.bi .all [(.comp (.one 0) [3] (.seq (.sub ⇑0 ↥3)) [] (.cvl 1 [⇑0]))])))]
noncomputable def kI:EV.Row:=⟨"is_branch",top 17,["branch","counts","is_target","is_one"],["branch","counts","is_target","is_one","count"],⟨4,5,qQ⟩⟩
noncomputable abbrev uO:List C:=[.ite (.not (.call 6 [⇑0,↥1,(.glo 6 (.int 6))])) [.ret (.con (.bl false))] [],.set (.one 1) (.dic false [] []),.forr (.one 2) (.seq ⇑0) [.ite (.or (.not (.call 11 [⇑2])) (.one (.cmp .In (.sub ⇑2 ↥0) ⇑1))) [.ret (.con (.bl false))] [],.stv 1 (.sub ⇑2 ↥0) (.sub ⇑2 ↥1)],.frz 1,.ret (.bi .all [(.comp (.one 0) [1] (.seq ⇑0) [] (.call 16 [(.sub ⇑0 ↥3),(.sub ⇑0 ↥2),⇑1]))])]
noncomputable def uw:EV.Row:=⟨"is_machines",top 28,["value"],["value","counts","machine"],⟨1,3,uO⟩⟩
noncomputable abbrev WK:List C:=[.ite (.or (.not (.call 6 [⇑0,↥4,↥4])) (.one (.not (.call 5 [(.sub ⇑0 ↥0)])))) [.ret (.con (.bl false))] [],.ite (.or (.not (.call 12 [(.sub ⇑0 ↥2),(.bin .Add (.glo 7 (.int 32)) ↥1)])) (.one (.not (.call 12 [(.sub ⇑0 ↥1),(.bin .Add (.glo 8 (.int 3)) ↥1)])))) [.ret (.con (.bl false))] [],.ret (.cmp .LtE (.sub ⇑0 ↥1) (.sub ⇑0 ↥2))]
noncomputable def Xi:EV.Row:=⟨"is_head",top 29,["machine"],["machine"],⟨1,1,WK⟩⟩
noncomputable abbrev ZM:List C:=[.ret (.and (.call 0 [⇑0]) (.one (.chn .LtE .Lt ↥0 ⇑0 ⇑1)))]
noncomputable def Zm:EV.Row:=⟨"is_below",top 30,["one","bound"],["one","bound"],⟨2,2,ZM⟩⟩
noncomputable abbrev xN:List C:=[.ret (.or (.cmp .Is ⇑0 (.con .non)) (.one (.call 12 [⇑0,⇑1])))]
noncomputable def xH:EV.Row:=⟨"is_below_or_none",top 31,["one","bound"],["one","bound"],⟨2,2,xN⟩⟩
noncomputable abbrev xZ:List C:=[.ret (.call 3 [⇑0,(.lam 48 0 [1])])]
noncomputable def xW:EV.Row:=⟨"is_slot_formula",top 32,["one","slots"],["one","slots"],⟨2,2,xZ⟩⟩
noncomputable abbrev vN:List C:=[.ite (.or (.not (.call 6 [⇑0,↥2,↥2])) (.one (.not (.bi (.isinst .str) [(.sub ⇑0 ↥0)])))) [.ret (.con (.bl false))] [],.ret (.and (.cmp .Eq (.sub ⇑0 ↥0) ↥"slot") (.one (.call 12 [(.sub ⇑0 ↥1),⇑1])))]
noncomputable def vI:EV.Row:=⟨"is_slot_leaf",top 33,["leaf","slots"],["leaf","slots"],⟨2,2,vN⟩⟩
noncomputable abbrev qR:List C:=[.ite (.not (.call 6 [⇑0,↥1,(.glo 9 (.int 160))])) [.ret (.con (.bl false))] [],.ite (.not (.bi .all [(.comp (.one 0) [1,2,0] (.seq ⇑0) [] (.call 17 [⇑0,⇑1,(.bi .len [⇑3]),⇑2]))])) [.ret (.con (.bl false))] [],.ret (.not (.call 24 [⇑0]))]
noncomputable def kJ:EV.Row:=⟨"are_rooms",top 34,["rooms","slots","counts"],["rooms","slots","counts"],⟨3,3,qR⟩⟩
noncomputable abbrev xq:List C:=[.ite (.or (.not (.call 6 [⇑0,↥4,↥4])) (.one (.not (.call 6 [(.sub ⇑0 ↥0),↥0,(.glo 10 (.int 60))])))) [.ret (.con (.bl false))] [],.ite (.not (.bi .all [(.comp (.one 0) [1] (.seq (.sub ⇑0 ↥0)) [] (.call 18 [⇑0,⇑1]))])) [.ret (.con (.bl false))] [],.ret (.and (.call 19 [(.sub ⇑0 ↥1),⇑1,⇑2,⇑3]) (.and (.call 21 [(.sub ⇑0 ↥2),⇑1,⇑2]) (.one (.call 22 [(.sub ⇑0 ↥3),⇑2]))))]
noncomputable def Xh:EV.Row:=⟨"is_room",top 35,["room","slots","many","counts"],["room","slots","many","counts"],⟨4,4,xq⟩⟩
noncomputable abbrev uN:List C:=[.ite (.or (.not (.call 7 [⇑0])) (.one (.cmp .NotEq (.bi .len [⇑0]) (.mth .get2 (.glo 13 (.kdc [(("put":Str),(3:Int)),(("tell":Str),(2:Int)),(("mark":Str),(3:Int))])) [(.sub ⇑0 ↥0),↥0])))) [.ret (.con (.bl false))] [],.ite (.cmp .Eq (.sub ⇑0 ↥0) ↥"put") [.ret (.and (.call 12 [(.sub ⇑0 ↥1),⇑1]) (.one (.call 14 [(.sub ⇑0 ↥2),⇑1])))] [],.ite (.cmp .Eq (.sub ⇑0 ↥0) ↥"tell") [.ret (.call 14 [(.sub ⇑0 ↥1),⇑1])] [],.ret (.and (.bi (.isinst .str) [(.sub ⇑0 ↥1)]) (.and (.cmp .In (.sub ⇑0 ↥1) (.glo 12 (.ktp [(.str "do"),(.str "done"),(.str "undo"),(.str "undone")]))) (.one (.call 12 [(.sub ⇑0 ↥2),(.glo 11 (.int 24))]))))]
noncomputable def uv:EV.Row:=⟨"is_room_row",top 36,["row","slots"],["row","slots"],⟨2,2,uN⟩⟩
noncomputable abbrev WM:List C:=[.ite (.or (.not (.call 7 [⇑0])) (.one (.cmp .NotEq (.bi .len [⇑0]) (.mth .get2 (.glo 14 (.kdc [(("go":Str),(2:Int)),(("fork":Str),(4:Int)),(("round":Str),(2:Int)),(("give":Str),(2:Int)),(("fail":Str),(2:Int)),(("out":Str),(2:Int)),(("want":Str),(4:Int))])) [(.sub ⇑0 ↥0),↥0])))) [.ret (.con (.bl false))] [],.ite (.cmp .In (.sub ⇑0 ↥0) (.tup [↥"go",↥"round"])) [.ret (.call 12 [(.sub ⇑0 ↥1),⇑2])] [],.ite (.cmp .Eq (.sub ⇑0 ↥0) ↥"out") [.ret (.call 12 [(.sub ⇑0 ↥1),⇑1])] [],.ite (.cmp .Eq (.sub ⇑0 ↥0) ↥"want") [.ret (.and (.call 12 [(.sub ⇑0 ↥3),⇑2]) (.one (.call 20 [⇑0,⇑1,⇑3])))] [],.ite (.not (.call 14 [(.sub ⇑0 ↥1),⇑1])) [.ret (.con (.bl false))] [],.ret (.or (.cmp .NotEq (.sub ⇑0 ↥0) ↥"fork") (.one (.and (.call 12 [(.sub ⇑0 ↥2),⇑2]) (.one (.call 12 [(.sub ⇑0 ↥3),⇑2])))))]
noncomputable def Xk:EV.Row:=⟨"is_door",top 37,["door","slots","many","counts"],["door","slots","many","counts"],⟨4,4,WM⟩⟩
noncomputable abbrev vM:List C:=[.ret (.call 8 [(.sub ⇑0 ↥1),(.sub ⇑0 ↥2),⇑2,(.lam 49 1 [1]),(.lam 50 1 [1])])]
noncomputable def vH:EV.Row:=⟨"is_slot_want",top 38,["door","slots","counts"],["door","slots","counts"],⟨3,3,vM⟩⟩
noncomputable abbrev WL:List C:=[.ite (.cmp .Is ⇑0 (.con .non)) [.ret (.con (.bl true))] [],.ret (.and (.call 6 [⇑0,↥2,↥2]) (.and (.call 13 [(.sub ⇑0 ↥0),⇑1]) (.one (.call 12 [(.sub ⇑0 ↥1),⇑2]))))]
noncomputable def Xj:EV.Row:=⟨"is_fall",top 39,["fall","slots","many"],["fall","slots","many"],⟨3,3,WL⟩⟩
noncomputable abbrev Jp:List C:=[.ite (.bi (.isinst .str) [⇑0]) [.ret (.cmp .Eq ⇑0 ↥"shut")] [],.ret (.call 13 [⇑0,⇑1])]
noncomputable def Ut:EV.Row:=⟨"is_off",top 40,["off","many"],["off","many"],⟨2,2,Jp⟩⟩
noncomputable abbrev zG:List C:=[.set (.one 1) (.lst []),.set (.one 2) (.sub (.sub ⇑0 ↥1) ↥0),.ite (.cmp .Eq ⇑2 ↥"go") [.app 1 (.sub (.sub ⇑0 ↥1) ↥1)] [],.ite (.cmp .Eq ⇑2 ↥"fork") [.ext 1 (.slc (.sub ⇑0 ↥1) (some ↥2) none)] [],.ite (.and (.cmp .In ⇑2 (.tup [↥"fail",↥"round",↥"want",↥"out"])) (.one (.cmp .IsNot (.sub ⇑0 ↥2) (.con .non)))) [.app 1 (.sub (.sub ⇑0 ↥2) ↥1)] [],.ite (.and (.cmp .In ⇑2 (.tup [↥"want",↥"out"])) (.one (.call 0 [(.sub ⇑0 ↥3)]))) [.app 1 (.sub ⇑0 ↥3)] [],.ret ⇑1]
noncomputable def yV:EV.Row:=⟨"leads_in_the_hour",top 41,["room"],["room","leads","word"],⟨1,3,zG⟩⟩
noncomputable abbrev ZP:List C:=[.set (.one 1) (.dic false [] []),.set (.one 2) (.con (.bl true)),.whl ⇑2 [.set (.one 2) (.con (.bl false)),.forr (.tup [3,4]) (.enum ⇑0) [.ite (.and (.cmp .NotIn ⇑3 ⇑1) (.one (.bi .all [(.comp (.one 0) [1] (.seq (.call 23 [⇑4])) [] (.cmp .In ⇑0 ⇑1))]))) [.stv 1 ⇑3 (.con (.bl true)),.set (.one 2) (.con (.bl true))] []]],.ret (.cmp .Lt (.bi .len [⇑1]) (.bi .len [⇑0]))]
noncomputable def Zn:EV.Row:=⟨"has_ring",top 42,["rooms"],["rooms","ending","grown","number","room"],⟨1,5,ZP⟩⟩
noncomputable abbrev uP:List C:=[.set (.one 1) (.lst []),.set (.one 2) (.bi .abs [⇑0]),.ite (.cmp .GtE ⇑2 (.bin .Pow ↥10 ↥18)) [.whl (.and (.cmp .Gt ⇑2 ↥0) (.one (.cmp .Lt (.bi .len [⇑1]) ↥60))) [.app 1 (.bin .Mod ⇑2 (.bin .Pow ↥10 ↥6)),.set (.one 2) (.bin .FloorDiv ⇑2 (.bin .Pow ↥10 ↥6))],.ret ⇑1] [],.forr (.one 3) (.rng none ↥9) [.set (.one 4) (.bin .Mod (.bin .Add (.bin .Add (.bin .Mult ⇑0 ↥48271) (.bin .Mult ↥977 ⇑3)) ↥1) ↥2147483647),.set (.one 4) (.bin .Mod (.bin .Mult ⇑4 ⇑4) ↥2147483647),.app 1 (.bin .Mod (.bin .FloorDiv (.bin .Mod (.bin .Mult (.bin .Add ⇑4 (.bin .Mult ↥40692 (.bin .Add ⇑3 ↥3))) ↥69621) ↥2147483629) ↥8) (.bin .Pow ↥10 ↥6))],.ret ⇑1]
noncomputable def uy:EV.Row:=⟨"_law_row_of",top 44,["_law_cell"],["_law_cell","_law_found","_law_left","_law_k","_law_one"],⟨1,5,uP⟩⟩
noncomputable abbrev ZQ:List C:=[.set (.one 1) (.lst []),.forr (.one 2) (.seq (.slc ⇑0 none (some ↥63))) [.set (.one 1) (.bin .Add ⇑1 (.call 25 [⇑2]))],.set (.one 3) (.bin .Mod (.bin .Add ↥7919 (.bin .Mult ↥40693 (.bi .sum [⇑1]))) ↥2147483629),.whl (.cmp .Lt (.bi .len [⇑1]) ↥40) [.set (.one 3) (.bin .Mod (.bin .Add (.bin .Mult ⇑3 ⇑3) ↥40692) ↥2147483629),.app 1 (.bin .Mod (.bin .FloorDiv ⇑3 ↥8) (.bin .Pow ↥10 ↥6))],.frz 1,.ret (.dic false [.inr "row",.inr "at"] [⇑1,↥0])]
noncomputable def Zo:EV.Row:=⟨"_law_pot",top 45,["_law_script"],["_law_script","_law_found","_law_cell","_law_more"],⟨1,4,ZQ⟩⟩
noncomputable abbrev qU:List C:=[.set (.one 2) (.sub ⇑0 ↥"row"),.set (.one 3) (.sub ⇑0 ↥"at"),.sti ⇑0 ↥"at" (.bin .Add ⇑3 ↥1),.set (.one 4) (.bin .FloorDiv ⇑3 (.bi .len [⇑2])),.ret (.bin .Mod (.bin .Add (.bin .FloorDiv (.sub ⇑2 (.bin .Mod ⇑3 (.bi .len [⇑2]))) ↥7) (.bin .Mult (.bin .Mult ↥31 ⇑4) ⇑4)) ⇑1)]
noncomputable def kW:EV.Row:=⟨"_law_take",top 46,["_law_pot_here","_law_many"],["_law_pot_here","_law_many","_law_row","_law_at","_law_turn"],⟨2,5,qU⟩⟩
noncomputable abbrev uQ:List C:=[.ret (.sub ⇑1 (.call 27 [⇑0,(.bi .len [⇑1])]))]
noncomputable def uz:EV.Row:=⟨"_law_one_of",top 47,["_law_pot_here","_law_some"],["_law_pot_here","_law_some"],⟨2,2,uQ⟩⟩
noncomputable abbrev jq:List C:=[.set (.one 3) (.call 27 [⇑0,↥7]),.ite (.and (.cmp .Lt ⇑3 ↥3) (.one (.cmp .Gt ⇑1 ↥0))) [.ret (.tup [↥"slot",(.call 27 [⇑0,⇑1])])] [],.ite (.and (.cmp .Eq ⇑3 ↥6) (.one (.cmp .Gt ⇑2 ↥0))) [.set (.one 4) (.call 28 [⇑0,(.lst [↥"+",↥"-",↥"*",↥"<",↥"="])]),.set (.one 5) (.call 29 [⇑0,⇑1,(.bin .Sub ⇑2 ↥1)]),.ret (.tup [⇑4,⇑5,(.call 29 [⇑0,⇑1,(.bin .Sub ⇑2 ↥1)])])] [],.ret (.call 28 [⇑0,(.lst [↥0,↥1,↥2,↥3,↥1000000006,↥1000000005])])]
noncomputable def jh:EV.Row:=⟨"_law_worth",top 48,["_law_pot_here","_law_slots","_law_deep"],["_law_pot_here","_law_slots","_law_deep","_law_way","_law_sign","_law_one"],⟨3,6,jq⟩⟩
noncomputable abbrev qW:List C:=[.set (.one 2) (.lst []),.forr (.one 3) (.rng none (.call 27 [⇑0,↥4])) [.set (.one 4) (.call 27 [⇑0,↥3]),.ite (.and (.cmp .Eq ⇑4 ↥0) (.one (.cmp .Gt ⇑1 ↥0))) [.set (.one 5) (.call 27 [⇑0,⇑1]),.app 2 (.tup [↥"put",⇑5,(.call 29 [⇑0,⇑1,↥3])])] [.ite (.cmp .Eq ⇑4 ↥1) [.set (.one 6) (.call 28 [⇑0,(.lst [↥"do",↥"done",↥"undo",↥"undone"])]),.app 2 (.tup [↥"mark",⇑6,(.call 27 [⇑0,↥24])])] [.app 2 (.tup [↥"tell",(.call 29 [⇑0,⇑1,↥2])])]]],.ret (.bi .tuple [⇑2])]
noncomputable def kY:EV.Row:=⟨"_law_rows",top 49,["_law_pot_here","_law_slots"],["_law_pot_here","_law_slots","_law_found","_law_k","_law_way","_law_slot","_law_word"],⟨2,7,qW⟩⟩
noncomputable abbrev uR:List C:=[.set (.one 4) (.call 28 [⇑0,(.bin .Add (.lst [(.con .non)]) (.bi .lrng [⇑1]))]),.ite (.cmp .GtE (.call 27 [⇑0,↥3]) ⇑3) [.set (.one 5) (.call 28 [⇑0,(.lst [↥"bank",↥"b",↥"sky",↥"abcdefgh"])]),.ret (.tup [⇑4,↥"ask",⇑5,(.call 29 [⇑0,⇑1,↥1])])] [],.set (.tup [6,7]) (.slc (.call 28 [⇑0,⇑2]) none (some ↥2)),.set (.one 8) (.comp (.one 0) [0,1] (.rng none ⇑7) [] (.call 29 [⇑1,⇑2,↥1])),.ret (.tup [⇑4,↥"call",⇑6,(.bi .tuple [⇑8])])]
noncomputable def uA:EV.Row:=⟨"_law_branch",top 50,["_law_pot_here","_law_slots","_law_heads","_law_calls"],["_law_pot_here","_law_slots","_law_heads","_law_calls","_law_slot","_law_who","_law_name","_law_many","_law_parts"],⟨4,9,uR⟩⟩
noncomputable abbrev qT:List C:=[.set (.one 5) (.call 28 [⇑0,(.lst [↥1,↥2,↥2,↥3,↥4])]),.set (.one 6) (.bin .Add ↥1 (.call 27 [⇑0,⇑5])),.set (.one 7) (.comp (.one 0) [0,1,2,3] (.rng none ⇑5) [] (.call 31 [⇑1,⇑2,⇑3,(.bin .Mult ⇑4 (.bi .int [(.cmp .Lt ⇑0 ↥2)]))])),.ret (.tup [↥"want",⇑6,(.bi .tuple [⇑7]),(.call 27 [⇑0,⇑4])])]
noncomputable def kO:EV.Row:=⟨"_law_want",top 51,["_law_pot_here","_law_slots","_law_heads","_law_calls","_law_rooms"],["_law_pot_here","_law_slots","_law_heads","_law_calls","_law_rooms","_law_many","_law_k_here","_law_branches"],⟨5,8,qT⟩⟩
noncomputable abbrev jr:List C:=[.ret (.call 28 [⇑0,(.bin .Add (.bi .lrng2 [(.bin .Add ⇑1 ↥1),⇑2]) (.bin .Mult (.lst [(.con .non)]) (.bi .int [(.cmp .GtE (.bin .Add ⇑1 ↥1) ⇑2)])))])]
noncomputable def ji:EV.Row:=⟨"_law_later",top 52,["_law_pot_here","_law_spot","_law_rooms"],["_law_pot_here","_law_spot","_law_rooms"],⟨3,3,jr⟩⟩
noncomputable abbrev ye:List C:=[.set (.one 6) (.call 33 [⇑0,⇑1,⇑3]),.set (.one 7) (.call 27 [⇑0,↥12]),.ite (.and (.cmp .Lt ⇑7 ↥5) (.one (.cmp .IsNot ⇑4 (.con .non)))) [.ret (.call 32 [⇑0,⇑2,⇑5,⇑4,⇑3])] [],.ite (.and (.cmp .Eq ⇑7 ↥5) (.one (.cmp .Gt ⇑2 ↥0))) [.ret (.tup [↥"out",(.call 27 [⇑0,⇑2])])] [],.ite (.and (.cmp .In ⇑7 (.lst [↥0,↥6])) (.one (.cmp .IsNot ⇑6 (.con .non)))) [.ret (.tup [↥"go",⇑6])] [],.ite (.and (.cmp .In ⇑7 (.lst [↥1,↥2,↥7])) (.one (.cmp .IsNot ⇑6 (.con .non)))) [.set (.one 8) (.call 29 [⇑0,⇑2,↥2]),.ret (.tup [↥"fork",⇑8,⇑6,(.call 33 [⇑0,⇑1,⇑3])])] [],.ite (.cmp .In ⇑7 (.lst [↥3,↥8,↥9])) [.ret (.tup [↥"round",(.call 27 [⇑0,⇑3])])] [],.ret (.tup [(.call 28 [⇑0,(.lst [↥"give",↥"fail",↥"fail"])]),(.call 29 [⇑0,⇑2,↥2])])]
noncomputable def qb:EV.Row:=⟨"_law_door",top 53,["_law_pot_here","_law_spot","_law_slots","_law_rooms","_law_calls","_law_heads"],["_law_pot_here","_law_spot","_law_slots","_law_rooms","_law_calls","_law_heads","_law_next","_law_way","_law_one"],⟨6,9,ye⟩⟩
noncomputable abbrev yt:List C:=[.set (.one 6) (.call 30 [⇑0,⇑2]),.set (.one 7) (.call 34 [⇑0,⇑1,⇑2,⇑3,⇑4,⇑5]),.set (.one 8) (.call 33 [⇑0,⇑1,⇑3]),.ite (.cmp .In (.sub ⇑7 ↥0) (.lst [↥"go",↥"fork",↥"give"])) [.set (.one 8) (.call 27 [⇑0,⇑3])] [],.set (.one 9) (.tup [(.call 28 [⇑0,(.bin .Add (.lst [(.con .non)]) (.bi .lrng [⇑2]))]),⇑8]),.ite (.or (.cmp .Eq (.call 27 [⇑0,↥3]) ↥0) (.one (.cmp .Is ⇑8 (.con .non)))) [.set (.one 9) (.con .non)] [],.set (.one 10) (.call 28 [⇑0,(.lst [(.con .non),↥"shut",↥"shut",(.call 33 [⇑0,⇑1,⇑3])])]),.ret (.tup [⇑6,⇑7,⇑9,⇑10])]
noncomputable def kZ:EV.Row:=⟨"_law_room",top 54,["_law_pot_here","_law_spot","_law_slots","_law_rooms","_law_calls","_law_heads"],["_law_pot_here","_law_spot","_law_slots","_law_rooms","_law_calls","_law_heads","_law_rows_here","_law_door_here","_law_next","_law_fall","_law_off"],⟨6,11,yt⟩⟩
noncomputable abbrev vh:List C:=[.set (.one 2) (.call 28 [⇑0,(.lst [(.lst [↥"main",↥"a",↥"ab"]),(.lst [↥"b",↥"main",↥"mainly"]),(.lst [↥"zz",↥"z",↥"zzz"])])]),.set (.one 3) (.lst []),.forr (.one 4) (.rng none (.bin .Add ↥1 (.call 27 [⇑0,↥3]))) [.set (.one 5) (.call 27 [⇑0,↥4]),.app 3 (.tup [(.sub ⇑2 ⇑4),⇑5,(.bin .Add ⇑5 (.call 27 [⇑0,↥4]))])],.set (.one 6) (.lst []),.frz 3,.forr (.tup [7,5,8]) (.seq ⇑3) [.set (.one 9) (.bin .Add ↥1 (.call 27 [⇑0,↥7])),.frz 3,.app 6 (.tup [⇑7,⇑5,⇑8,(.bi .tuple [(.comp (.one 0) [0,8,9,1,3] (.rng none ⇑9) [] (.call 35 [⇑1,⇑0,⇑2,⇑3,⇑4,⇑5]))])])],.ret (.bi .tuple [⇑6])]
noncomputable def wN:EV.Row:=⟨"_law_machines",top 55,["_law_pot_here","_law_calls"],["_law_pot_here","_law_calls","_law_names","_law_heads","_law_k","_law_many","_law_found","_law_name","_law_slots","_law_rooms"],⟨2,10,vh⟩⟩
noncomputable abbrev V2:List C:=[.ret (.bi .tuple [(.comp (.one 0) [0] (.rng none ⇑1) [] (.call 28 [⇑1,(.lst [↥0,↥1,↥2,↥1000000006])]))])]
noncomputable def qd:EV.Row:=⟨"_law_args",top 56,["_law_pot_here","_law_many"],["_law_pot_here","_law_many"],⟨2,2,V2⟩⟩
noncomputable abbrev xF:List C:=[.ret (.lst [(.con .non),↥7,(.con (.bl true)),↥"x",(.lst []),(.dic false [] []),(.tup []),(.bi .list [⇑0]),(.bin .Add ⇑0 (.slc ⇑0 none (some ↥1))),(.tup [⇑0]),(.bin .Add ⇑0 (.tup [(.con .non)])),(.bin .Add (.slc ⇑0 none (some ↥1)) (.bi .tuple [(.comp (.one 0) [] (.rng none ↥6) [] (.tup [(.bin .Mult ↥"n" (.bin .Add ⇑0 ↥1)),↥0,↥0,(.tup [(.tup [(.tup []),(.tup [↥"give",↥0]),(.con .non),(.con .non)])])]))]))])]
noncomputable def yX:EV.Row:=⟨"_law_other_things",top 57,["_law_machines_here"],["_law_machines_here"],⟨1,1,xF⟩⟩
noncomputable abbrev wg:List C:=[.ret (.lst [(.con .non),(.neg ↥1),↥1000000007,(.con (.bl true)),↥"x",(.tup [↥"slot",⇑0]),(.tup [↥"slot",(.neg ↥1)]),(.tup [↥"slot",(.con (.bl true))]),(.lst [↥"slot",↥0]),(.tup [↥"slot"]),(.tup [↥"/",↥1,↥1]),(.tup [↥"+",↥1]),(.tup [↥"+",↥1,↥1,↥1]),(.tup [↥"+",↥0,(.tup [↥"+",↥0,(.tup [↥"+",↥0,(.tup [↥"+",↥0,↥0])])])]),(.tup [↥"<",↥1,(.tup [])]),(.tup [])])]
noncomputable def xX:EV.Row:=⟨"_law_bad_worths",top 58,["_law_slots"],["_law_slots"],⟨1,1,wg⟩⟩
noncomputable abbrev vp:List C:=[.ret (.lst [(.con .non),(.tup []),(.tup [↥"put"]),(.tup [↥"put",⇑1,↥0]),(.tup [↥"put",(.neg ↥1),↥0]),(.tup [↥"put",(.con .non),↥0]),(.tup [↥"tell"]),(.tup [↥"tell",⇑0]),(.lst [↥"tell",↥0]),(.tup [↥"tell",↥0,↥0]),(.tup [↥"mark",↥"tell",↥0]),(.tup [↥"mark",↥"do",↥24]),(.tup [↥"mark",↥"do",(.neg ↥1)]),(.tup [↥"mark",↥"do",(.con (.bl true))]),(.tup [↥"mark",(.con .non),↥0]),(.tup [↥"say",↥0])])]
noncomputable def wQ:EV.Row:=⟨"_law_bad_rows",top 59,["_law_bad","_law_slots"],["_law_bad","_law_slots"],⟨2,2,vp⟩⟩
noncomputable abbrev zJ:List C:=[.set (.tup [3,4]) (.slc (.sub ⇑2 ↥0) none (some ↥2)),.ret (.lst [(.con .non),(.tup [(.con .non),↥"ask",↥"b"]),(.tup [⇑1,↥"ask",↥"b",↥0]),(.tup [(.neg ↥1),↥"ask",↥"b",↥0]),(.tup [(.con .non),↥"ask",↥"",↥0]),(.tup [(.con .non),↥"ask",↥"abcdefghi",↥0]),(.tup [(.con .non),↥"ask",↥"B",↥0]),(.tup [(.con .non),↥"ask",↥"b",⇑0]),(.tup [(.con .non),↥"call",↥"q",(.tup [])]),(.tup [(.con .non),↥"call",⇑3,(.bin .Mult (.tup [↥0]) (.bin .Add ⇑4 ↥1))]),(.tup [(.con .non),↥"call",⇑3,(.bin .Mult (.lst [↥0]) ⇑4)]),(.tup [(.con .non),↥"call",⇑3,(.bin .Mult (.tup [⇑0]) (.bi .max2 [↥1,⇑4]))]),(.tup [(.con .non),↥"call",(.con .non),(.tup [])]),(.tup [(.con .non),↥"send",↥"b",↥0]),(.tup [↥"x",↥"ask",↥"b",↥0]),(.lst [(.con .non),↥"ask",↥"b",↥0])])]
noncomputable def xf:EV.Row:=⟨"_law_bad_branches",top 60,["_law_bad","_law_slots","_law_machines_here"],["_law_bad","_law_slots","_law_machines_here","_law_name","_law_many"],⟨3,5,zJ⟩⟩
noncomputable abbrev wG:List C:=[.set (.one 4) (.tup [(.con .non),↥"ask",↥"b",↥0]),.ret (.lst [(.con .non),(.tup []),(.tup [↥"go"]),(.tup [↥"go",⇑3]),(.tup [↥"go",(.neg ↥1)]),(.tup [↥"go",(.con (.bl true))]),(.tup [↥"round",⇑3]),(.tup [↥"round",(.con .non)]),(.tup [↥"fork",⇑0,↥0,↥0]),(.tup [↥"fork",↥0,⇑3,↥0]),(.tup [↥"fork",↥0,↥0,(.neg ↥1)]),(.tup [↥"give",⇑0]),(.tup [↥"fail",⇑0]),(.tup [↥"out",⇑2]),(.tup [↥"out",(.con .non)]),(.lst [↥"give",↥0]),(.tup [↥"stay",↥0]),(.tup [↥"give",↥0,↥0]),(.tup [↥"want",↥0,(.tup [⇑4]),↥0]),(.tup [↥"want",↥2,(.tup [⇑4]),↥0]),(.tup [↥"want",↥1,(.tup []),↥0]),(.tup [↥"want",↥1,(.bin .Mult (.tup [⇑4]) ↥5),↥0]),(.tup [↥"want",↥1,(.tup [⇑4,⇑1]),↥0]),(.tup [↥"want",↥1,(.lst [⇑4]),↥0]),(.tup [↥"want",↥1,(.tup [⇑4]),⇑3]),(.tup [↥"want",(.con (.bl true)),(.tup [⇑4]),↥0]),(.tup [↥"want",↥1,(.tup [⇑1]),↥0])])]
noncomputable def wF:EV.Row:=⟨"_law_bad_doors",top 61,["_law_bad","_law_branch","_law_slots","_law_rooms"],["_law_bad","_law_branch","_law_slots","_law_rooms","_law_good"],⟨4,5,wG⟩⟩
noncomputable abbrev vm:List C:=[.set (.one 2) (.lst [(.tup []),(.tup [↥0]),(.tup [⇑0,↥0]),(.tup [(.neg ↥1),↥0]),(.tup [(.con .non),⇑1]),(.tup [(.con .non),(.neg ↥1)]),(.lst [(.con .non),↥0]),↥0,↥"shut",(.tup [(.con .non),(.con .non)])]),.set (.one 3) (.lst [⇑1,(.neg ↥1),↥"open",(.con (.bl true)),(.tup []),(.bin .Sub ↥0 ⇑1),↥"",(.tup [↥"shut"])]),.frz 2,.frz 3,.ret (.bin .Add (.comp (.one 0) [] (.seq ⇑2) [] (.tup [⇑0,(.con .non)])) (.comp (.one 0) [] (.seq ⇑3) [] (.tup [(.con .non),⇑0])))]
noncomputable def wO:EV.Row:=⟨"_law_bad_ways",top 62,["_law_slots","_law_rooms"],["_law_slots","_law_rooms","_law_falls","_law_offs"],⟨2,4,vm⟩⟩
noncomputable abbrev zZ:List C:=[.set (.tup [5,6,7,8]) (.sub ⇑1 ⇑2),.set (.tup [9,10,11,12]) (.sub ⇑8 ⇑3),.set (.one 13) (.call 28 [⇑0,(.call 39 [⇑7])]),.set (.one 14) (.call 28 [⇑0,(.call 41 [⇑13,⇑7,⇑1])]),.ite (.cmp .Eq ⇑4 ↥0) [.ret (.tup [(.bin .Add ⇑9 (.tup [(.call 28 [⇑0,(.call 40 [⇑13,⇑7])])])),⇑10,⇑11,⇑12])] [],.ite (.cmp .Lt ⇑4 ↥3) [.ret (.tup [⇑9,(.call 28 [⇑0,(.call 42 [⇑13,⇑14,⇑7,(.bi .len [⇑8])])]),⇑11,⇑12])] [],.ite (.cmp .Eq ⇑4 ↥3) [.ret (.bin .Add (.tup [⇑9,⇑10]) (.call 28 [⇑0,(.call 43 [⇑7,(.bi .len [⇑8])])]))] [],.ret (.call 28 [⇑0,(.lst [(.tup [(.bi .list [⇑9]),⇑10,⇑11,⇑12]),(.con .non),(.bi .list [(.sub ⇑8 ⇑3)]),(.slc (.sub ⇑8 ⇑3) none (some ↥3)),(.bin .Add (.sub ⇑8 ⇑3) (.tup [(.con .non)])),(.tup [(.bin .Mult (.tup [(.tup [↥"tell",↥0])]) ↥61),⇑10,⇑11,⇑12])])])]
noncomputable def wR:EV.Row:=⟨"_law_bad_room",top 63,["_law_pot_here","_law_machines_here","_law_m","_law_at","_law_way"],["_law_pot_here","_law_machines_here","_law_m","_law_at","_law_way","_law_name","_law_many","_law_slots","_law_rooms","_law_rows_here","_law_door_here","_law_fall","_law_off","_law_bad","_law_branch_here"],⟨5,15,zZ⟩⟩
noncomputable abbrev zH:List C:=[.set (.tup [1,2,3,4]) ⇑0,.set (.one 5) (.tup [(.tup []),(.tup [↥"give",↥0]),(.con .non),(.con .non)]),.ret (.lst [(.con .non),(.slc ⇑0 none (some ↥3)),(.bi .list [⇑0]),(.tup [↥"",⇑2,⇑3,⇑4]),(.tup [↥"abcdefghi",⇑2,⇑3,⇑4]),(.tup [↥"aB",⇑2,⇑3,⇑4]),(.tup [(.con .non),⇑2,⇑3,⇑4]),(.tup [⇑1,⇑2,(.bin .Sub ⇑2 ↥1),(.tup [⇑5])]),(.tup [⇑1,↥4,↥5,(.tup [⇑5])]),(.tup [⇑1,(.neg ↥1),⇑3,(.tup [⇑5])]),(.tup [⇑1,(.con (.bl false)),↥0,(.tup [⇑5])]),(.tup [⇑1,⇑2,↥33,⇑4]),(.tup [⇑1,⇑2,(.con .non),⇑4]),(.tup [⇑1,⇑2,⇑3,(.tup [])]),(.tup [⇑1,⇑2,⇑3,(.bi .list [⇑4])]),(.tup [⇑1,⇑2,⇑3,(.bin .Mult (.tup [⇑5]) ↥161)])])]
noncomputable def yZ:EV.Row:=⟨"_law_bad_machines",top 64,["_law_machine"],["_law_machine","_law_name","_law_many","_law_slots","_law_rooms","_law_give"],⟨1,6,zH⟩⟩
noncomputable abbrev yh:List C:=[.set (.one 2) (.call 27 [⇑0,(.bi .len [⇑1])]),.set (.tup [3,4,5,6]) (.sub ⇑1 ⇑2),.set (.one 7) (.call 27 [⇑0,(.bi .len [⇑6])]),.set (.one 8) (.call 27 [⇑0,↥7]),.ite (.cmp .Eq ⇑8 ↥5) [.ret (.call 28 [⇑0,(.call 38 [⇑1])])] [],.ite (.cmp .Eq ⇑8 ↥6) [.set (.one 9) (.call 28 [⇑0,(.call 45 [(.sub ⇑1 ⇑2)])])] [.set (.one 10) (.call 44 [⇑0,⇑1,⇑2,⇑7,⇑8]),.set (.one 9) (.tup [⇑3,⇑4,⇑5,(.bin .Add (.bin .Add (.slc ⇑6 none (some ⇑7)) (.tup [⇑10])) (.slc ⇑6 (some (.bin .Add ⇑7 ↥1)) none))])],.ret (.bin .Add (.bin .Add (.slc ⇑1 none (some ⇑2)) (.tup [⇑9])) (.slc ⇑1 (some (.bin .Add ⇑2 ↥1)) none))]
noncomputable def ux:EV.Row:=⟨"_law_spoilt",top 65,["_law_pot_here","_law_machines_here"],["_law_pot_here","_law_machines_here","_law_m","_law_name","_law_many","_law_slots","_law_rooms","_law_at","_law_way","_law_two","_law_one"],⟨2,11,yh⟩⟩
noncomputable abbrev zhU:List C:=[.set (.one 1) (.box (.call 26 [⇑0])),.set (.one 2) (.call 36 [⇑1,↥1]),.forr (.one 3) (.rng none (.bin .Add ↥6 (.bi .min2 [↥40,(.bi .len [⇑0])]))) [.ite (.cmp .IsNot (.call 10 [(.call 46 [⇑1,⇑2])]) (.con (.bl false))) [.ret (.con (.bl false))] [],.ite (.cmp .Eq (.bin .Mod ⇑3 ↥6) ↥5) [.ite (.cmp .IsNot (.call 10 [⇑2]) (.con (.bl true))) [.ret (.con (.bl false))] [],.set (.one 2) (.call 36 [⇑1,↥1])] []],.ret (.cmp .Is (.call 10 [⇑2]) (.con (.bl true)))]
noncomputable def zdk:EV.Row:=⟨"law",top 66,["_law_script"],["_law_script","_law_pot_here","_law_machines_here","_law_k"],⟨1,4,zhU⟩⟩
noncomputable def rs:List EV.Row:=[Zk,kE,Xg,jg,yW,Xe,ut,km,Xf,kI,uw,Xi,Zm,xH,xW,vI,kJ,Xh,uv,Xk,vH,Xj,Ut,yV,Zn,uy,Zo,kW,uz,jh,kY,uA,kO,ji,qb,kZ,wN,qd,yX,xX,wQ,xf,wF,wO,wR,yZ,ux,zdk]
noncomputable def B:Tb:=⟨[("is_whole":Str),("is_number":Str),("is_sign":Str),("is_formula":Str),("is_formula_within":Str),("is_word":Str),("is_tuple_of":Str),("is_worded":Str),("is_want":Str),("is_branch":Str),("is_machines":Str),("is_head":Str),("is_below":Str),("is_below_or_none":Str),("is_slot_formula":Str),("is_slot_leaf":Str),("are_rooms":Str),("is_room":Str),("is_room_row":Str),("is_door":Str),("is_slot_want":Str),("is_fall":Str),("is_off":Str),("leads_in_the_hour":Str),("has_ring":Str),("_law_row_of":Str),("_law_pot":Str),("_law_take":Str),("_law_one_of":Str),("_law_worth":Str),("_law_rows":Str),("_law_branch":Str),("_law_want":Str),("_law_later":Str),("_law_door":Str),("_law_room":Str),("_law_machines":Str),("_law_args":Str),("_law_other_things":Str),("_law_bad_worths":Str),("_law_bad_rows":Str),("_law_bad_branches":Str),("_law_bad_doors":Str),("_law_bad_ways":Str),("_law_bad_room":Str),("_law_bad_machines":Str),("_law_spoilt":Str),("law":Str)],[(["one"]:List Str),(["one"]:List Str),(["one"]:List Str),(["one","is_name"]:List Str),(["one","is_name","deeper"]:List Str),(["one"]:List Str),(["one","least","most"]:List Str),(["one"]:List Str),(["least","branches","counts","is_target","is_one"]:List Str),(["branch","counts","is_target","is_one"]:List Str),(["value"]:List Str),(["machine"]:List Str),(["one","bound"]:List Str),(["one","bound"]:List Str),(["one","slots"]:List Str),(["leaf","slots"]:List Str),(["rooms","slots","counts"]:List Str),(["room","slots","many","counts"]:List Str),(["row","slots"]:List Str),(["door","slots","many","counts"]:List Str),(["door","slots","counts"]:List Str),(["fall","slots","many"]:List Str),(["off","many"]:List Str),(["room"]:List Str),(["rooms"]:List Str),(["_law_cell"]:List Str),(["_law_script"]:List Str),(["_law_pot_here","_law_many"]:List Str),(["_law_pot_here","_law_some"]:List Str),(["_law_pot_here","_law_slots","_law_deep"]:List Str),(["_law_pot_here","_law_slots"]:List Str),(["_law_pot_here","_law_slots","_law_heads","_law_calls"]:List Str),(["_law_pot_here","_law_slots","_law_heads","_law_calls","_law_rooms"]:List Str),(["_law_pot_here","_law_spot","_law_rooms"]:List Str),(["_law_pot_here","_law_spot","_law_slots","_law_rooms","_law_calls","_law_heads"]:List Str),(["_law_pot_here","_law_spot","_law_slots","_law_rooms","_law_calls","_law_heads"]:List Str),(["_law_pot_here","_law_calls"]:List Str),(["_law_pot_here","_law_many"]:List Str),(["_law_machines_here"]:List Str),(["_law_slots"]:List Str),(["_law_bad","_law_slots"]:List Str),(["_law_bad","_law_slots","_law_machines_here"]:List Str),(["_law_bad","_law_branch","_law_slots","_law_rooms"]:List Str),(["_law_slots","_law_rooms"]:List Str),(["_law_pot_here","_law_machines_here","_law_m","_law_at","_law_way"]:List Str),(["_law_machine"]:List Str),(["_law_pot_here","_law_machines_here"]:List Str),(["_law_script"]:List Str)],[("MODULUS",(.int 1000000007)),("SIGNS",(.ktp [(.str "+"),(.str "-"),(.str "*"),(.str "<"),(.str "=")])),("DEEPEST_TRIPLE",(.int 3)),("LETTERS",(.str "abcdefghijklmnopqrstuvwxyz")),("LONGEST_WORD",(.int 8)),("MOST_BRANCHES",(.int 4)),("MOST_MACHINES",(.int 6)),("MOST_SLOTS",(.int 32)),("MOST_HANDED",(.int 3)),("MOST_ROOMS",(.int 160)),("MOST_ROWS",(.int 60)),("MOST_DOS",(.int 24)),("MARKS",(.ktp [(.str "do"),(.str "done"),(.str "undo"),(.str "undone")])),("ROW_PARTS",(.kdc [(("put":Str),(3:Int)),(("tell":Str),(2:Int)),(("mark":Str),(3:Int))])),("DOOR_PARTS",(.kdc [(("go":Str),(2:Int)),(("fork":Str),(4:Int)),(("round":Str),(2:Int)),(("give":Str),(2:Int)),(("fail":Str),(2:Int)),(("out":Str),(2:Int)),(("want":Str),(4:Int))]))],["abs","all","bool","enumerate","int","isinstance","len","list","max","min","range","str","sum","tuple"],[],[],[],[⟨"leaf","slots","is_slot_leaf",15⟩,⟨"target","slots","is_below_or_none",13⟩,⟨"one","slots","is_slot_formula",14⟩],["is_slot_formula","is_slot_want"]⟩
noncomputable def xj:PySem.Program:={ ϲ with main:={ ϲ.main with body:=((((ϲ.main.body).eraseIdx 43).eraseIdx 18).eraseIdx 9).eraseIdx 0 } }
theorem Vo (w:cN):(W.openEnds gP ν.prog (cI w "special-get-raises" false) 4000).map (fun s=>W.openSeen xj [("ROW_PARTS":Str),("DOOR_PARTS":Str)] (mj ν.prog.main.body) (fun s=>W.xlAt xj [] s&&W.recOk [] s) true s)=some (W.openGood xj [("ROW_PARTS":Str),("DOOR_PARTS":Str)]):=by kernel_rfl
theorem Vn (w:cN):(W.openEnds gP ν.prog (cI w "special-get-raises" false) 4000).map (fun s=>EV.K9 (EV.frOf s.heap 400) B rs)=some (EV.Ju B rs):=by kernel_rfl
theorem JW (w:cN):(W.openEnds gP ν.prog (cI w "special-get-raises" true) 4000).map (fun s=>W.openSeen xj [("ROW_PARTS":Str),("DOOR_PARTS":Str)] (mj ν.prog.main.body) (fun s=>W.xlAt xj [] s&&W.recOk [] s) true s)=some (W.openGood xj [("ROW_PARTS":Str),("DOOR_PARTS":Str)]):=by kernel_rfl
theorem JV (w:cN):(W.openEnds gP ν.prog (cI w "special-get-raises" true) 4000).map (fun s=>EV.K9 (EV.frOf s.heap 400) B rs)=some (EV.Ju B rs):=by kernel_rfl
noncomputable def jm:PySem.DefRec:=EV.drOf (top 66)
theorem zjv:ν.wellSaid=true:=by kernel_rfl
theorem zjB:W.defOf xj ν.name=some (jm,[]):=by kernel_rfl
theorem zjA:ν.prog.theDef ν.name=some (jm.params,jm.body,jm.scope):=by kernel_rfl
theorem zjz:W.kwWritten? jm.params.kwonlyargs jm.params.kw_defaults=some []:=by kernel_rfl
theorem zjw:(W.chainsOk xj&&W.opensWell ν.prog&&(W.frees ν.row.toRowW&&ν.row.within.isEmpty))=true:=by kernel_rfl
theorem zjy:jm.params.defaults=[]:=by kernel_rfl
theorem zjx:ν.prog.bare:=⟨rfl,rfl,rfl,rfl,rfl,by decide +kernel⟩
theorem zju:ν.row.toRowW.promised:=by w_witness2
end Q19
namespace L2
open PySem PySem.Spec PyProof.Rows
noncomputable def JZ:Key->δ->Bool
 | .inl k,v=>δ.isInt k v
 | .inr x,v=>lG x v
noncomputable def keyH (w:ϓ):Key->Int
 | .inl k=>hashInt k
 | .inr x=>hashStr w x
theorem z8:∀ {k:Key}{v:δ},JZ k v=true->(∃ i t,k=bx i/\v=ϒ i t)\/(∃ x t,k=aq x/\v=aQ x t)
 | .inl i,v,h=>by obtain ⟨t,e⟩:=δ.isInt_shape (k:=i) (v:=v) h;exact .inl ⟨i,t,rfl,e⟩
 | .inr x,v,h=>by obtain ⟨t,e⟩:=δ.isStrOf_shape (x:=x) (v:=v) h;exact .inr ⟨x,t,rfl,e⟩
theorem Q3 (i:Int) (t:Tok):JZ (.inl i) (.int i t)=true:=by simp [JZ,δ.isInt]
theorem Q0 (x:Str) (t:Tok):JZ (.inr x) (.str x t)=true:=by simp [JZ,lG]
theorem zgZ (a b:Int):decide ((bx a:Key)=bx b)=(a==b):=by
 by_cases e:a=b
 ·subst e;simp
 ·have h:¬ (bx a:Key)=bx b:=fun q=>e (bx.inj q)
  rw [decide_eq_false h];exact (beq_eq_false_iff_ne.mpr e).symm
theorem zgW (a b:Str):decide ((aq a:Key)=aq b)=decide (a=b):=by
 by_cases e:a=b
 ·subst e;simp
 ·have h:¬ (aq a:Key)=aq b:=fun q=>e (aq.inj q)
  rw [decide_eq_false h,decide_eq_false e]
theorem zgY (a:Int) (b:Str):decide ((bx a:Key)=aq b)=false:=decide_eq_false (fun q=>nomatch q)
theorem zgX (a:Str) (b:Int):decide ((aq a:Key)=bx b)=false:=decide_eq_false (fun q=>nomatch q)
noncomputable def yd (prog:Λ) (w:ϓ):PySem.KeyKind prog w Key where
 is:=JZ
 hash:=keyH w
 inj:=fun v a b ha hb=>by
  rcases z8 ha with ⟨i,t,rfl,rfl⟩ | ⟨x,t,rfl,rfl⟩
  ·rcases z8 hb with ⟨j,u,rfl,e⟩ | ⟨y,u,rfl,e⟩
   ·injection e with e1 _;rw [e1]
   ·exact nomatch e
  ·rcases z8 hb with ⟨j,u,rfl,e⟩ | ⟨y,u,rfl,e⟩
   ·exact nomatch e
   ·injection e with e1 _;rw [e1]
 byValue:=fun k v h=>by rcases z8 h with ⟨i,t,rfl,rfl⟩ | ⟨x,t,rfl,rfl⟩ <;> rfl
 pyHash:=fun hv h=>by
  rcases z8 hv with ⟨i,t,rfl,rfl⟩ | ⟨x,t,rfl,rfl⟩
  ·exact wpAny_pyHash_int h
  ·exact wpAny_pyHash_str h
 eqBool:=fun hu hv h=>by
  rcases z8 hu with ⟨i,t,rfl,rfl⟩ | ⟨x,t,rfl,rfl⟩
  ·rcases z8 hv with ⟨j,u,rfl,rfl⟩ | ⟨y,u,rfl,rfl⟩
   ·rw [zgZ] at h;exact wpAny_eqBool_int h
   ·rw [zgY] at h;exact lO i t y u _ _ _ _ h
  ·rcases z8 hv with ⟨j,u,rfl,rfl⟩ | ⟨y,u,rfl,rfl⟩
   ·rw [zgX] at h;exact lN x t j u _ _ _ _ h
   ·rw [zgW] at h;exact wpAny_eqBool_str h
 «strs»:=fun k x t v h=>by
  rcases z8 h with ⟨i,u,rfl,e⟩ | ⟨y,u,rfl,e⟩
  ·exact nomatch e
  ·injection e with e1 _
   subst e1;cases v <;> rfl
theorem Vk (prog:Λ) (w:ϓ) (i:Int) (t:Tok):(yd prog w).is (.inl i) (.int i t)=true:=Q3 i t
theorem Vj (prog:Λ) (w:ϓ) (x:Str) (t:Tok):(yd prog w).is (.inr x) (.str x t)=true:=Q0 x t
inductive V where
 | non | bl (b:Bool) | int (i:Int) | str (x:Str) | byt (b:Array UInt8) | flt (b:UInt64) | ref (a:Addr) | ty (n:String)
 deriving DecidableEq
def RelV:V->δ->Prop
 | .non,u=>u=Δ
 | .bl b,u=>u=ϕ b
 | .int i,u=>∃ t,u=ϒ i t
 | .str x,u=>∃ t,u=aQ x t
 | .byt b,u=>∃ t,u=δ.bytes b t
 | .flt b,u=>∃ t,u=δ.float b t
 | .ref a,u=>u=Β a
 | .ty n,u=>u=ό n
abbrev Vals:List V->List δ->Prop:=dm RelV
theorem Vals.length {xs:List V}{us:List δ}(r:Vals xs us):xs.length=us.length:=lA r
theorem Vals.get:∀ {xs:List V}{us:List δ}{i:Nat}{x:V},Vals xs us->xs[i]?=some x->∃ u,us[i]?=some u/\RelV x u
 | _,_,_,_,.nil,e=>by simp at e
 | _,_,0,_,.cons r _,e=>by simp at e;subst e;exact ⟨_,rfl,r⟩
 | _,_,i+1,x,.cons _ t,e=>by obtain ⟨u,h1,h2⟩:=Vals.get (i:=i) (x:=x) t (by simpa using e);exact ⟨u,by simpa using h1,h2⟩
theorem Vals.set {x:V}{u:δ}(r:RelV x u):∀ {xs:List V}{us:List δ}(i:Nat),Vals xs us->Vals (xs.set i x) (us.set i u)
 | _,_,_,.nil=>.nil
 | _,_,0,.cons _ t=>.cons r t
 | _,_,i+1,.cons q t=>.cons q (Vals.set r i t)
theorem Vals.append:∀ {xs ys:List V}{us ws:List δ},Vals xs us->Vals ys ws->Vals (xs++ys) (us++ws)
 | _,_,_,_,.nil,s=>s
 | _,_,_,_,.cons r t,s=>.cons r (Vals.append t s)
theorem Vals.take:∀ {xs:List V}{us:List δ}(n:Nat),Vals xs us->Vals (xs.take n) (us.take n)
 | _,_,0,_=>.nil
 | _,_,_+1,.nil=>.nil
 | _,_,n+1,.cons r t=>.cons r (Vals.take n t)
theorem Vals.drop:∀ {xs:List V}{us:List δ}(n:Nat),Vals xs us->Vals (xs.drop n) (us.drop n)
 | _,_,0,r=>r
 | _,_,_+1,.nil=>.nil
 | _,_,n+1,.cons _ t=>Vals.drop n t
def RelO:Option V->Option δ->Prop
 | some v,some u=>RelV v u
 | none,none=>True
 | _,_=>False
def KV {κ:Type}:List (κ×V)->List (κ×δ)->Prop:=dm fun (p:κ×V) (q:κ×δ)=>p.1=q.1/\RelV p.2 q.2
noncomputable def kV:Key->V
 | .inl i=>.int i
 | .inr x=>.str x
inductive HO where
 | lst (xs:List V)
 | tup (xs:List V)
 | dK (kvs:List (Key×V)) | dT (kvs:List (List Key×V))
 | set (S:Int->Bool) (n:Nat)
 | ins (C dx:Addr) (fs:List (Str×V))
 | own (x:Addr)
 | xd (fs:List (Str×V))
 | met (f x:Addr)
 | rng (lo hi:Int)
 | frz (o:Obj) (u:HO)
 | tbl (ps:Array δ)
 | ext (φ:Heap->Prop)
abbrev Hp:=Addr->Option HO
noncomputable def upd (H:Hp) (a:Addr) (o:HO):Hp:=fun b=>if b=a then some o else H b
theorem zm {H:Hp}{a:Addr}{o:HO}:upd H a o a=some o:=by unfold upd;rw [if_pos rfl]
theorem zc {H:Hp}{a b:Addr}{o:HO}(h:b≠a):upd H a o b=H b:=by unfold upd;rw [if_neg h]
theorem zjc {H:Hp}{a b:Addr}{o u:HO}(h:H a=some o) (h':H b=some u) (d:o≠u):a≠b:=by intro e;subst e;rw [h] at h';exact d (Ϛ h')
theorem zq {H:Hp}{a b:Addr}{o:HO}(h:H a=some o) (h':H b=none):a≠b:=by intro e;subst e;rw [h] at h';cases h'
section
variable (P:Λ) (w:ϓ)
def yo (H:Hp) (h:Heap) (a:Addr):HO->Prop
 | .lst xs=>xs.length<=sizeLine/\∃ (its:List δ) (n:Nat),Vals xs its/\h.get? a=some { cls:=.type "list",data:=.seq its.toArray n }
 | .tup xs=>xs.length<=sizeLine/\∃ its:List δ,Vals xs its/\gK h a its.toArray
 | .dK kvs=>kvs.length<=sizeLine/\(a==bz)=false/\∃ vs,KV kvs vs/\h.DictOf (yd P w) a vs
 | .dT kvs=>kvs.length<=sizeLine/\(a==bz)=false/\∃ xs:List (List Key×Addr×δ),
   dm (fun (p:List Key×V) (q:List Key×Addr×δ)=>p.1=q.1/\H q.2.1=some (.tup (p.1.map kV))/\RelV p.2 q.2.2) kvs xs /\
   ∃ o es ep,h.get? a=some o/\o.ExactDict/\o.data=.dict es ep/\es.toList=xs.map (entryOfKey (gO (yd P w)))/\(xs.map (·.1)).Nodup
 | .set S n=>h.SetOf (intKind P w) a S n
 | .ins C dx fs=>H dx=some (.own a)/\fs.length<=1000/\dx≠a/\h.get? a=some (W.instObj C dx) /\
   ∃ mA,h.Ns1 dx mA/\(∀ f,RelO (fs.lookup f) (mA f))/\PySem.Within mA (fs.map (·.1))
 | .own _=>∃ o,h.get? a=some o
 | .xd fs=>∃ mA,h.Ns1 a mA/\∀ f,RelO (fs.lookup f) (mA f)
 | .rng lo hi=>∃ t u v,h.get? a=some { cls:=.type "range",data:=.fields #[.int lo t,.int hi u,.int 1 v] }
 | .frz o u=>h.get? a=some o/\yo H h a u
 | .tbl ps=>h.get? a=some { cls:=.none,data:=.fields ps }
 | .met f x=>h.get? a=some (W.methodObj (.ref f) (.ref x))
 | .ext φ=>φ h/\(∃ o,h.get? a=some o)/\∀ h1 h2:Heap,φ h1->(∀ o,h1.get? a=some o->h2.get? a=some o)->φ h2
def HOk (H:Hp) (h:Heap):Prop:=∀ a o,H a=some o->yo P w H h a o
end
section
variable {P:Λ}{w:ϓ}{H H':Hp}{h h':Heap}{a:Addr}{o:HO}
theorem yo.lt (x:yo P w H h a o):a < h.objs.size:=by
 cases o with
 | lst xs=>obtain ⟨_,_,_,_,e⟩:=x;exact Θ e
 | tup xs=>obtain ⟨_,_,_,p⟩:=x;exact p.lt
 | dK kvs=>obtain ⟨_,_,_,_,o,_,_,e,_⟩:=x;exact Θ e
 | dT kvs=>obtain ⟨_,_,_,_,o,_,_,e,_⟩:=x;exact Θ e
 | set S n=>obtain ⟨o,_,_,_,e,_⟩:=x;exact Θ e
 | ins C dx fs=>obtain ⟨_,_,_,e,_⟩:=x;exact Θ e
 | own y=>obtain ⟨_,e⟩:=x;exact Θ e
 | xd fs=>obtain ⟨_,⟨_,_,_,e,_⟩,_⟩:=x;exact Θ e
 | rng lo hi=>obtain ⟨_,_,_,e⟩:=x;exact Θ e
 | frz ob u=>obtain ⟨e,_⟩:=x;exact Θ e
 | tbl ps=>exact Θ (show h.get? a=some _ from x)
 | met f y=>exact Θ (show h.get? a=some _ from x)
 | ext φ=>obtain ⟨_,⟨_,e⟩,_⟩:=x;exact Θ e
theorem dm.mapP {α β:Type}{F G:α->β->Prop}:∀ {l₁:List α}{l₂:List β},dm F l₁ l₂->(∀ a b,F a b->G a b)->dm G l₁ l₂
 | _,_,.nil,_=>.nil
 | _,_,.cons r t,f=>.cons (f _ _ r) (dm.mapP t f)
theorem yo.stay (x:yo P w H h a o) (k:∀ b u,(b=a\/H b=some (.own a))->h.get? b=some u->h'.get? b=some u)
  (ho:∀ b,H b=some (.own a)->H' b=some (.own a)) (ht:∀ b xs,H b=some (.tup xs)->H' b=some (.tup xs)):yo P w H' h' a o:=by
 induction o with
 | lst xs=>obtain ⟨z,its,n,r,e⟩:=x;exact ⟨z,its,n,r,k _ _ (.inl rfl) e⟩
 | tup xs=>obtain ⟨z,its,r,ob,e,c⟩:=x;exact ⟨z,its,r,ob,k _ _ (.inl rfl) e,c⟩
 | dK kvs=>obtain ⟨z,y,vs,r,ob,es,ep,e,c⟩:=x;exact ⟨z,y,vs,r,ob,es,ep,k _ _ (.inl rfl) e,c⟩
 | dT kvs=>
  obtain ⟨z,y,xs,r,ob,es,ep,e,c⟩:=x;exact ⟨z,y,xs,dm.mapP r fun p q z=>⟨z.1,ht _ _ z.2.1,z.2.2⟩,ob,es,ep,k _ _ (.inl rfl) e,c⟩
 | set S n=>obtain ⟨ob,es,ep,t,e,c⟩:=x;exact ⟨ob,es,ep,t,k _ _ (.inl rfl) e,c⟩
 | ins C dx fs=>
  obtain ⟨d,z,ne,e,mA,⟨od,es,ep,e2,c⟩,r⟩:=x;exact ⟨ho _ d,z,ne,k _ _ (.inl rfl) e,mA,⟨od,es,ep,k _ _ (.inr d) e2,c⟩,r⟩
 | own y=>obtain ⟨ob,e⟩:=x;exact ⟨ob,k _ _ (.inl rfl) e⟩
 | xd fs=>obtain ⟨mA,⟨od,es,ep,e,c⟩,r⟩:=x;exact ⟨mA,⟨od,es,ep,k _ _ (.inl rfl) e,c⟩,r⟩
 | rng lo hi=>obtain ⟨t,u,v,e⟩:=x;exact ⟨t,u,v,k _ _ (.inl rfl) e⟩
 | frz ob u ih=>obtain ⟨e,q⟩:=x;exact ⟨k _ _ (.inl rfl) e,ih q⟩
 | tbl ps=>
  have e:h.get? a=some { cls:=.none,data:=.fields ps }:=x;show h'.get? a=some { cls:=.none,data:=.fields ps }
  exact k a _ (.inl rfl) e
 | met f y=>
  have e:h.get? a=some (W.methodObj (.ref f) (.ref y)):=x;show h'.get? a=some (W.methodObj (.ref f) (.ref y))
  exact k a _ (.inl rfl) e
 | ext φ=>obtain ⟨p,⟨o,e⟩,st⟩:=x;exact ⟨st _ _ p fun o q=>k _ _ (.inl rfl) q,⟨o,k _ _ (.inl rfl) e⟩,st⟩
theorem HOk.lt (x:HOk P w H h) (e:H a=some o):a < h.objs.size:=(x a o e).lt
theorem HOk.fresh (x:HOk P w H h) (e:h.objs.size<=a):H a=none:=by
 cases q:H a with
 | none=>rfl
 | some u=>exact absurd (Χ (x.lt q) e) (cL _)
theorem HOk.kept (x:HOk P w H h) (k:∀ b u,h.get? b=some u->h'.get? b=some u):HOk P w H h':=fun a o e=>
 (x a o e).stay (fun b u _ q=>k b u q) (fun _ q=>q) fun _ _ q=>q
theorem HOk.laid (x:HOk P w H h) (k:∀ b u,h.get? b=some u->h'.get? b=some u) (hp:h.objs.size<=a) (new:yo P w (upd H a o) h' a o):HOk P w (upd H a o) h':=fun b u e=>by
 have hn:=x.fresh hp;by_cases hb:b=a
 ·subst hb;rw [zm] at e;cases e;exact new
 ·rw [zc hb] at e;exact (x b u e).stay (fun c v _ q=>k c v q) (fun c q=>by rw [zc (zq q hn)];exact q) fun c xs q=>by rw [zc (zq q hn)];exact q
end
def Rd (H:Hp) (a:Addr) (u:HO):Prop:=H a=some u\/∃ o,H a=some (.frz o u)
theorem Rd.ok {P:Λ}{w:ϓ}{H:Hp}{h:Heap}{a:Addr}{u:HO}(r:Rd H a u) (x:HOk P w H h):yo P w H h a u:=by
 rcases r with r | ⟨o,r⟩
 ·exact x a u r
 ·obtain ⟨_,q⟩:=x a _ r;exact q
def Mut:Option HO->Prop
 | some (.lst _)=>True
 | some (.dK _)=>True
 | some (.dT _)=>True
 | some (.set _ _)=>True
 | some (.ins _ _ _)=>True
 | some (.ext _)=>True
 | _=>False
section
variable {P:Λ}{w:ϓ}{H:Hp}{h h':Heap}{x e:Addr}{o':HO}
theorem HOk.write (ok:HOk P w H h) (mu:Mut (H x)) (he:e=x\/H e=some (.own x)) (k:∀ b u,b≠e->h.get? b=some u->h'.get? b=some u) (heo:∃ u,h'.get? e=some u)
  (new:yo P w (upd H x o') h' x o'):HOk P w (upd H x o') h':=fun b u q=>by
 have nown:∀ c y,H c=some (.own y)->c≠x:=fun c y r z=>by subst z;rw [r] at mu;exact mu
 have ntup:∀ c xs,H c=some (.tup xs)->c≠x:=fun c xs r z=>by subst z;rw [r] at mu;exact mu
 by_cases hb:b=x
 ·subst hb;rw [zm] at q;cases q;exact new
 ·rw [zc hb] at q;by_cases hbe:b=e
  ·have q':H b=some (.own x):=by
    rcases he with z | z
    ·exact absurd (hbe.trans z) hb
    ·rw [hbe];exact z
   rw [q] at q';cases q';obtain ⟨v,hv⟩:=heo;exact ⟨v,by rw [hbe];exact hv⟩
  ·refine (ok b u q).stay (fun c v hc r=>k c v ?_ r) (fun c r=>by rw [zc (nown c b r)];exact r) fun c xs r=>by rw [zc (ntup c xs r)];exact r
   rcases hc with rfl | hc
   ·exact hbe
   ·rintro rfl;rcases he with z | z
    ·exact nown c b hc z
    ·rw [hc] at z;cases z;exact hb rfl
end
structure Un (fs ex:List Addr) (H H':Hp) (h h':Heap):Prop where
 keep:∀ b o,h.get? b=some o->H b=none->b ∉ fs->b ∉ ex->h'.get? b=some o
 slot:∀ b o,h.get? b=some o->H b=none->b∈fs->b ∉ ex->∃ sl,h'.get? b=some { o with slots:=sl }
 free:∀ b o,h.get? b=some o->H b=none->b ∉ ex->H' b=none
 there:∀ b o,h.get? b=some o->b ∉ ex->∃ o',h'.get? b=some o'
 tups:∀ b xs,H b=some (.tup xs)->H' b=some (.tup xs)
 frzs:∀ b o u,H b=some (.frz o u)->H' b=some (.frz o u)
 tbls:∀ b ps,H b=some (.tbl ps)->∃ more,H' b=some (.tbl (ps++more))
section
variable {fs fs' ex ex':List Addr}{H H1 H2:Hp}{h h1 h2 h':Heap}{a x e:Addr}{o:HO}
theorem Un.any (u:Un fs ex H H1 h h1) {b:Addr}{ob:Obj}(q:h.get? b=some ob) (n:H b=none) (hx:b ∉ ex):∃ sl,h1.get? b=some { ob with slots:=sl }:=by
 by_cases hb:b∈fs
 ·exact u.slot b ob q n hb hx
 ·exact ⟨ob.slots,u.keep b ob q n hb hx⟩
theorem Un.trans (a:Un fs ex H H1 h h1) (b:Un fs ex H1 H2 h1 h2):Un fs ex H H2 h h2 where
 keep:=fun c ob q n hc hx=>b.keep c ob (a.keep c ob q n hc hx) (a.free c ob q n hx) hc hx
 slot:=fun c ob q n hc hx=>by obtain ⟨sl,e1⟩:=a.slot c ob q n hc hx;obtain ⟨sl',e2⟩:=b.slot c _ e1 (a.free c ob q n hx) hc hx;exact ⟨sl',e2⟩
 free:=fun c ob q n hx=>by obtain ⟨o',e1⟩:=a.there c ob q hx;exact b.free c o' e1 (a.free c ob q n hx) hx
 there:=fun c ob q hx=>by obtain ⟨o',e1⟩:=a.there c ob q hx;exact b.there c o' e1 hx
 tups:=fun c xs q=>b.tups c xs (a.tups c xs q)
 frzs:=fun c ob xs q=>b.frzs c ob xs (a.frzs c ob xs q)
 tbls:=fun c ps q=>by obtain ⟨m1,e1⟩:=a.tbls c ps q;obtain ⟨m2,e2⟩:=b.tbls c _ e1;exact ⟨m1++m2,by rw [e2,m6]⟩
theorem Un.kept (k:∀ b u,h.get? b=some u->h'.get? b=some u):Un fs ex H H h h':=
 ⟨fun b ob q _ _ _=>k b ob q,fun b ob q _ _ _=>⟨ob.slots,k b ob q⟩,fun _ _ _ n _=>n,fun b ob q _=>⟨ob,k b ob q⟩,fun _ _ q=>q,fun _ _ _ q=>q,fun _ ps q=>⟨#[],by rw [q];simp⟩⟩
theorem Un.refl:Un fs ex H H h h:=Un.kept fun _ _ q=>q
theorem Un.laid (k:∀ b u,h.get? b=some u->h'.get? b=some u) (hp:h.objs.size<=a) (hn:H a=none):Un fs ex H (upd H a o) h h' where
 keep:=fun b u q _ _ _=>k b u q
 slot:=fun b u q _ _ _=>⟨u.slots,k b u q⟩
 free:=fun b u q n _=>by rw [zc (ϊ (Χ (Θ q) hp))];exact n
 there:=fun b u q _=>⟨u,k b u q⟩
 tups:=fun b xs q=>by rw [zc (zq q hn)];exact q
 frzs:=fun b u xs q=>by rw [zc (zq q hn)];exact q
 tbls:=fun b ps q=>⟨#[],by rw [zc (zq q hn),q];simp⟩
theorem Un.write (mu:Mut (H x)) (he:e=x\/H e=some (.own x)) (k:∀ b u,b≠e->h.get? b=some u->h'.get? b=some u) (heo:∃ u,h'.get? e=some u):Un fs ex H (upd H x o) h h':=by
 have hx:∀ b,H b=none->b≠x:=fun b n z=>by subst z;rw [n] at mu;exact mu
 have hb:∀ b,H b=none->b≠e:=fun b n z=>by
  subst z;rcases he with r | r
  ·exact hx b n r
  ·rw [n] at r;cases r
 have hm:∀ b u,H b=some u->¬ Mut (some u)->b≠x:=fun b u q nm z=>by subst z;rw [q] at mu;exact nm mu
 refine ⟨fun b u q n _ _=>k b u (hb b n) q,fun b u q n _ _=>⟨u.slots,k b u (hb b n) q⟩,fun b u q n _=>by rw [zc (hx b n)];exact n,fun b u q _=>?_,
  fun b xs q=>by rw [zc (hm b _ q fun z=>z)];exact q,fun b u xs q=>by rw [zc (hm b _ q fun z=>z)];exact q,fun b ps q=>⟨#[],by rw [zc (hm b _ q fun z=>z),q];simp⟩⟩
 by_cases hbe:b=e
 ·subst hbe;exact heo
 ·exact ⟨u,k b u hbe q⟩
end
noncomputable def trk (h:Heap) (H:Hp):List Addr:=(Ϲ h.objs.size).filter fun a=>(H a).isSome
noncomputable def hidT (h:Heap) (H:Hp):Heap:=W.hideAll h (trk h H)
theorem zao (h:Heap) (H:Hp):(hidT h H).objs.size=h.objs.size:=W.hideAll_size _ _
theorem Jb {h:Heap}{H:Hp}{b:Addr}{o:Obj}(e:h.get? b=some o) (n:H b=none):(hidT h H).get? b=some o:=
 W.hideAll_get _ e fun hm=>by have q:(H b).isSome=true:=(fH.mp hm).2;rw [n] at q;simp at q
theorem zdM {h:Heap}{H:Hp}{b:Addr}{o:Obj}(e:(hidT h H).get? b=some o):h.get? b=some o/\H b=none:=by
 have e':h.get? b=some o:=W.of_hideAll (trk h H) e;refine ⟨e',?_⟩;cases q:H b with
 | none=>rfl
 | some x=>
  have hm:b∈trk h H:=fH.mpr ⟨cu.mpr (Θ e'),by simp [q]⟩;have z:(hidT h H).get? b=none:=W.hideAll_none (trk h H) hm;rw [z] at e;cases e
noncomputable def zeW (g h:Heap) (L:Addr):List (Addr×Obj):=(Ϲ h.objs.size).filterMap fun a=>if a=L\/(g.get? a).isSome=true then none else (h.get? a).map fun o=>(a,o)
noncomputable def rest (g h:Heap) (L d:Addr):List (Addr×Obj):=(zeW g h L).filter fun p=>decide (p.1≠d)
structure Mod (K:W.Frag) (mg:Str->Option δ) (base:Heap):Prop where
 kin:K.In base
 glob:base.Ns Ο mg
 blt:∃ mb,base.Ns iI mb/\∀ x:Str,x≠"__name__"->mb x=bW x
 nolimit:base.NoLimit
structure Cx where
 prog:Λ
 w:ϓ
 K:W.Frag
 mg:Str->Option δ
 base:Heap
 A:ϙ
 N:List Str
 sy:ς
 Hz:Hp
 env:Env
 outer:List Env
 stack:List Env
 ex:List Addr
 fn:Str->Bool
 calm:Bool
 pn:List (Addr×Obj)
 xe:δ->ς->Prop
noncomputable def frs (l:List Env):List Addr:=l.filterMap (·.frame)
noncomputable abbrev Cx.fs (X:Cx):List Addr:=frs X.outer
def Vis (sc:aH) (x:Str):Prop:=sc.names.lookup x=some .local\/sc.names.lookup x=some .cell\/sc.names.lookup x=some .free
def Loc (sc:aH) (x:Str):Prop:=sc.names.lookup x=some .local\/sc.names.lookup x=some .cell
def Look (env:Env) (h:Heap) (m:Str->Option δ) (x:Str) (u:δ):Prop:=
 (env.kindOf x=some .local/\m x=some u)\/((env.kindOf x=some .cell\/env.kindOf x=some .free)/\∃ c,env.cells.lookup x=some c/\h.IsCell c (some u))
structure Cx.Ok (X:Cx):Prop where
 mod:Mod X.K X.mg X.base
 kind:X.env.scope.kind=.function
 glob:X.env.globals=Ο
 blt:X.env.builtins=iI
 above:X.sy.heap.objs.size<=X.env.locals
 inj:∀ x y c,X.env.cells.lookup x=some c->X.env.cells.lookup y=some c->x=y
 has:∀ x,(X.env.kindOf x=some .cell\/X.env.kindOf x=some .free)->∃ c,X.env.cells.lookup x=some c
 cab:∀ x c,X.fn x=true->X.env.cells.lookup x=some c->X.sy.heap.objs.size<=c
 hd:X.calm=true->X.A.handled=none
 frames:X.A.frames=some X.stack
 stk:X.stack=X.outer\/(X.stack=X.env::X.outer/\X.env.frame=some X.env.locals)
 exf:∀ b∈X.ex,b≠X.env.locals/\∀ x c,X.env.cells.lookup x=some c->c≠b
 bs:∀ b o,X.base.get? b=some o->X.sy.heap.get? b=some o/\X.Hz b=none
 bsz:X.base.objs.size<=X.sy.heap.objs.size
 noex:∀ b o,X.base.get? b=some o->b ∉ X.ex
 exfs:∀ b∈X.ex,b ∉ X.fs
 funs:X.sy.heap.FunFrames X.base X.outer
 frf:∀ b∈X.fs,X.Hz b=none
structure Inv (X:Cx) (pj:List (Addr×Obj)) (σ:List (Option V)) (H:Hp) (s:ς):Prop where
 ok:X.Ok
 os:s.os=X.sy.os
 bare:fB s.gens
 base:Un X.fs X.ex X.Hz H X.sy.heap s.heap
 loc:∃ m,s.heap.Ns X.env.locals m/\∀ (i:Nat) (x:Str) (v:V),X.N[i]?=some x->σ[i]?=some (some v)->Vis X.env.scope x->∃ u,RelV v u/\Look X.env s.heap m x u
 cell:∀ x c,X.env.cells.lookup x=some c->∃ v,s.heap.IsCell c v
 free:H X.env.locals=none
 freeC:∀ x c,X.env.cells.lookup x=some c->H c=none\/(X.fn x=false/\∃ o,H c=some (.frz o (.ext fun _=>True)))
 pin:∀ p∈X.pn++pj,s.heap.get? p.1=some p.2/\H p.1=none/\p.1≠X.env.locals/\p.1 ∉ X.fs/\∀ v,p.2.data≠.cell v
 hok:HOk X.prog X.w H s.heap
 len:σ.length=X.N.length
section
variable {X:Cx}{pj:List (Addr×Obj)}{σ:List (Option V)}{H H':Hp}{s:ς}{h':Heap}
theorem Cx.Ok.nofr (ok:X.Ok) {b:Addr}{o:Obj}(e:X.base.get? b=some o):b ∉ X.fs:=fun hb=>by have:=(ok.funs.mem hb).1;rw [e] at this;cases this
theorem Inv.bs (I:Inv X pj σ H s):∀ b o,X.base.get? b=some o->s.heap.get? b=some o/\H b=none:=fun b o e=>
 ⟨I.base.keep b o (I.ok.bs b o e).1 (I.ok.bs b o e).2 (I.ok.nofr e) (I.ok.noex b o e),I.base.free b o (I.ok.bs b o e).1 (I.ok.bs b o e).2 (I.ok.noex b o e)⟩
theorem Inv.bk (I:Inv X pj σ H s):∀ b o,X.base.get? b=some o->s.heap.get? b=some o:=fun b o e=>(I.bs b o e).1
theorem Inv.mod (I:Inv X pj σ H s):Mod X.K X.mg X.base:=I.ok.mod
theorem Inv.kIn (I:Inv X pj σ H s):X.K.In s.heap:=I.ok.mod.kin.keeps I.bk
theorem Inv.fr (I:Inv X pj σ H s):∃ m,Fr X.base X.env.locals s.heap m:=
 let ⟨m,hn,_⟩:=I.loc
 ⟨m,hn,I.bk,ϡ I.ok.bsz I.ok.above⟩
theorem Inv.lt (I:Inv X pj σ H s):X.env.locals < s.heap.objs.size:=let ⟨_,hn,_⟩:=I.loc;hn.lt
theorem Inv.sz (I:Inv X pj σ H s):X.sy.heap.objs.size<=s.heap.objs.size:=ϡ I.ok.above (fD I.lt)
theorem Inv.nofs (I:Inv X pj σ H s) {a:Addr}(h:s.heap.objs.size<=a):a ∉ X.fs:=fun hb=>by obtain ⟨_,o,ho,_⟩:=I.ok.funs.mem hb;exact absurd (Χ (Θ ho) (ϡ I.sz h)) (cL _)
theorem Inv.cne (I:Inv X pj σ H s):∀ x c,X.env.cells.lookup x=some c->c≠X.env.locals:=fun x c e z=>by obtain ⟨v,o,ho,hd⟩:=I.cell x c e;obtain ⟨m,⟨o',es,ep,ho',hd',_⟩,_⟩:=I.loc;rw [z,ho'] at ho;cases ho;rw [hd'] at hd;cases hd
theorem Inv.funs (I:Inv X pj σ H s):s.heap.FunFrames X.base X.outer:=by
 have all:∀ (l:List Env),(∀ b∈frs l,b∈X.fs)->X.sy.heap.FunFrames X.base l->s.heap.FunFrames X.base l:=by
  intro l
  induction l with
  | nil=>intro _ _;trivial
  | cons env r ih=>
   intro hs hl;obtain ⟨hk,⟨L,o,hf,hn,ho,hd⟩,hr⟩:=hl;have hL:L∈X.fs:=hs L (by unfold frs;rw [cG,hf];exact θ);obtain ⟨sl,e⟩:=I.base.slot L o ho (I.ok.frf L hL) hL fun z=>I.ok.exfs L z hL
   exact ⟨hk,⟨L,_,hf,hn,e,hd⟩,ih (fun b hb=>hs b (by unfold frs;rw [cG,hf];exact ι _ hb)) hr⟩
 exact all X.outer (fun _ hb=>hb) I.ok.funs
theorem Inv.stack (I:Inv X pj σ H s):s.heap.FunFrames X.base X.stack:=by
 rcases I.ok.stk with e | ⟨e,hf⟩
 ·rw [e];exact I.funs
 ·rw [e];obtain ⟨m,hn,_⟩:=I.loc;refine .cons (by rw [I.ok.kind];decide) hf hn ?_ I.funs;exact fV (ϡ I.ok.bsz I.ok.above)
theorem Inv.Ul (I:Inv X pj σ H s):∀ b∈frs X.stack,b∈X.env.locals::X.fs:=fun b hb=>by
 rcases I.ok.stk with e | ⟨e,hf⟩
 ·rw [e] at hb;exact ι _ hb
 ·rw [e] at hb;unfold frs at hb;rw [cG,hf] at hb;exact hb
theorem Inv.Z3 (I:Inv X pj σ H s):∀ b∈frs X.stack,H b=none:=fun b hb=>by
 rcases χ.mp (I.Ul b hb) with e | hb
 ·rw [e];exact I.free
 ·obtain ⟨_,o,ho,_⟩:=I.ok.funs.mem hb;exact I.base.free b o ho (I.ok.frf b hb) fun z=>I.ok.exfs b z hb
theorem Inv.step {g':Array GenState}{t':Nat}{d':Drawn}{ch:List Addr}(I:Inv X pj σ H s)
  (hch:∀ b∈ch,(b∈X.ex\/X.sy.heap.objs.size<=b)/\b≠X.env.locals/\(∀ x c,X.env.cells.lookup x=some c->c≠b)/\∀ p∈X.pn++pj,p.1≠b)
  (keep:∀ b o,b≠X.env.locals->b ∉ X.fs->b ∉ ch->s.heap.get? b=some o->H b=none->h'.get? b=some o)
  (slot:∀ b o,b≠X.env.locals->b∈X.fs->b ∉ ch->s.heap.get? b=some o->H b=none->∃ sl,h'.get? b=some { o with slots:=sl }) (free:∀ b o,b ∉ ch->s.heap.get? b=some o->H b=none->H' b=none)
  (there:∀ b o,b ∉ ch->s.heap.get? b=some o->∃ o',h'.get? b=some o')
  (tups:∀ b xs,H b=some (.tup xs)->H' b=some (.tup xs)) (frzs:∀ b o u,H b=some (.frz o u)->H' b=some (.frz o u)) (tbls:∀ b ps,H b=some (.tbl ps)->∃ more,H' b=some (.tbl (ps++more)))
  (ns:∀ m,s.heap.Ns X.env.locals m->h'.Ns X.env.locals m) (hok:HOk X.prog X.w H' h') (hg:fB g'):
  Inv X pj σ H' { s with heap:=h',gens:=g',drawn:=d',toks:=t' }:=by
 have neL:∀ b o,X.sy.heap.get? b=some o->b≠X.env.locals:=fun b o e=>ϊ (Χ (Θ e) I.ok.above)
 have neC:∀ b o,X.sy.heap.get? b=some o->b ∉ X.ex->b ∉ ch:=fun b o e hx hb=>by
  rcases (hch b hb).1 with z | z
  ·exact hx z
  ·exact absurd (Χ (Θ e) z) (cL _)
 have cellK:∀ x c,X.env.cells.lookup x=some c->∀ v,s.heap.IsCell c v->h'.IsCell c v:=fun x c e v ⟨o,ho,hd⟩=>by
  have nch:c ∉ ch:=fun z=>(hch c z).2.2.1 x c e rfl
  rcases I.freeC x c e with hfr | ⟨_,o1,hfz⟩
  rotate_left
  ·have e1:=(I.hok c _ hfz).1;rw [ho] at e1;cases e1;exact ⟨o,(hok c _ (frzs c _ _ hfz)).1,hd⟩
  by_cases hc:c∈X.fs
  ·obtain ⟨sl,q⟩:=slot c o (I.cne x c e) hc nch ho hfr;exact ⟨_,q,hd⟩
  ·exact ⟨o,keep c o (I.cne x c e) hc nch ho hfr,hd⟩
 refine ⟨I.ok,I.os,hg,⟨fun b o e n hb hx=>?_,fun b o e n hb hx=>?_,fun b o e n hx=>?_,fun b o e hx=>?_,fun b xs e=>tups b xs (I.base.tups b xs e),fun b o xs e=>frzs b o xs (I.base.frzs b o xs e),fun b ps e=>?_⟩,?_,fun x c e=>?_,?_,fun x c e=>?_,fun p hp=>?_,hok,I.len⟩
 ·exact keep b o (neL b o e) hb (neC b o e hx) (I.base.keep b o e n hb hx) (I.base.free b o e n hx)
 ·obtain ⟨sl,e1⟩:=I.base.slot b o e n hb hx;obtain ⟨sl',e2⟩:=slot b _ (neL b o e) hb (neC b o e hx) e1 (I.base.free b o e n hx);exact ⟨sl',e2⟩
 ·obtain ⟨o',e1⟩:=I.base.there b o e hx;exact free b o' (neC b o e hx) e1 (I.base.free b o e n hx)
 ·obtain ⟨o',e1⟩:=I.base.there b o e hx;exact there b o' (neC b o e hx) e1
 ·obtain ⟨m1,e1⟩:=I.base.tbls b ps e;obtain ⟨m2,e2⟩:=tbls b _ e1;exact ⟨m1++m2,by rw [e2,m6]⟩
 ·obtain ⟨m,hn,hl⟩:=I.loc;refine ⟨m,ns m hn,fun i x v e1 e2 e3=>?_⟩;obtain ⟨u,r,l⟩:=hl i x v e1 e2 e3;refine ⟨u,r,?_⟩;rcases l with l | ⟨k,c,e,z⟩
  ·exact .inl l
  ·exact .inr ⟨k,c,e,cellK x c e _ z⟩
 ·obtain ⟨v,z⟩:=I.cell x c e;exact ⟨v,cellK x c e v z⟩
 ·obtain ⟨m,⟨o,_,_,ho,_⟩,_⟩:=I.loc;exact free _ o (fun z=>(hch _ z).2.1 rfl) ho I.free
 ·obtain ⟨v,o,ho,hd⟩:=I.cell x c e;rcases I.freeC x c e with hfr | ⟨hf,o1,hfz⟩
  ·exact .inl (free c o (fun z=>(hch c z).2.2.1 x c e rfl) ho hfr)
  ·exact .inr ⟨hf,o1,frzs c _ _ hfz⟩
 ·obtain ⟨e,n,ne,nf,d⟩:=I.pin p hp;have nch:p.1 ∉ ch:=fun z=>(hch p.1 z).2.2.2 p hp rfl
  exact ⟨keep p.1 p.2 ne nf nch e n,free p.1 p.2 nch e n,ne,nf,d⟩
theorem Inv.un {t':Nat}(I:Inv X pj σ H s) (u:Un X.fs [] H H' s.heap h') (hok:HOk X.prog X.w H' h'):Inv X pj σ H' { s with heap:=h',toks:=t' }:=by
 obtain ⟨m,⟨o,es,ep,ho,r⟩,_⟩:=id I.loc;obtain ⟨sl,hL⟩:=u.any ho I.free (by simp)
 exact I.step (g':=s.gens) (d':=s.drawn) (ch:=[]) (fun _ z=>nomatch z) (fun b o _ hb _ e n=>u.keep b o e n hb (by simp)) (fun b o _ hb _ e n=>u.slot b o e n hb (by simp)) (fun b o _ e n=>u.free b o e n (by simp)) (fun b o _ e=>u.there b o e (by simp)) u.tups u.frzs u.tbls (fun m' hm=>by
  obtain ⟨o',es',ep',ho',r'⟩:=hm;rw [ho] at ho';cases ho'
  exact ⟨_,es',ep',hL,r'⟩) hok I.bare
theorem Inv.call {g':Array GenState}{t':Nat}{d':Drawn}{ch:List Addr}(I:Inv X pj σ H s) (u:Un (frs X.stack) ch H H' s.heap h') (hok:HOk X.prog X.w H' h') (hg:fB g')
  (hch:∀ b∈ch,(b∈X.ex\/X.sy.heap.objs.size<=b)/\b≠X.env.locals/\(∀ x c,X.env.cells.lookup x=some c->c≠b)/\∀ p∈X.pn++pj,p.1≠b):
  Inv X pj σ H' { s with heap:=h',gens:=g',drawn:=d',toks:=t' }:=by
 obtain ⟨m,⟨o,es,ep,ho,r⟩,_⟩:=id I.loc;obtain ⟨sl,hL⟩:=u.any ho I.free fun z=>(hch _ z).2.1 rfl
 exact I.step (ch:=ch) hch (fun b o hL hb hc e n=>u.keep b o e n (fun z=>(χ.mp (I.Ul b z)).elim hL hb) hc) (fun b o _ _ hc e n=>u.any e n hc) (fun b o hc e n=>u.free b o e n hc) (fun b o hc e=>u.there b o e hc) u.tups u.frzs u.tbls (fun m' hm=>by
  obtain ⟨o',es',ep',ho',r'⟩:=hm;rw [ho] at ho';cases ho'
  exact ⟨_,es',ep',hL,r'⟩) hok hg
theorem Inv.turned {t':Nat}{it:Addr}(I:Inv X pj σ H s) (k:∀ b o,b≠it->s.heap.get? b=some o->h'.get? b=some o) (hn:H it=none) (hL:it≠X.env.locals)
  (h1:it∈X.ex\/X.sy.heap.objs.size<=it) (h2:∀ x c,X.env.cells.lookup x=some c->c≠it) (h3:∀ p∈X.pn++pj,p.1≠it):Inv X pj σ H { s with heap:=h',toks:=t' }:=by
 have nit:∀ b u,H b=some u->b≠it:=fun b u e z=>by rw [z,hn] at e;cases e
 refine I.step (g':=s.gens) (d':=s.drawn) (ch:=[it]) (fun b hb=>?_) (fun b o _ _ hc e _=>k b o (fun z=>hc (by simp [z])) e) (fun b o _ _ hc e _=>⟨o.slots,k b o (fun z=>hc (by simp [z])) e⟩) (fun _ _ _ _ n=>n)
  (fun b o hc e=>⟨o,k b o (fun z=>hc (by simp [z])) e⟩) (fun _ _ e=>e) (fun _ _ _ e=>e) (fun b ps e=>⟨#[],by rw [e];simp⟩) (fun m hm=>?_) (fun b u e=>?_) I.bare
 ·have e:b=it:=by simpa using hb
  subst e;exact ⟨h1,hL,h2,h3⟩
 ·obtain ⟨o,es,ep,ho,r⟩:=hm;exact ⟨o,es,ep,k _ o (bK hL) ho,r⟩
 ·refine (I.hok b u e).stay (fun c v hc q=>k c v ?_ q) (fun _ q=>q) fun _ _ q=>q
  rcases hc with z | z
  ·rw [z];exact nit b u e
  ·exact nit c _ z
theorem Inv.tok (I:Inv X pj σ H s) (t:Nat):Inv X pj σ H { s with toks:=t }:=I.un (h':=s.heap) (t':=t) Un.refl I.hok
theorem Inv.kept {t':Nat}(I:Inv X pj σ H s) (k:∀ b u,s.heap.get? b=some u->h'.get? b=some u):Inv X pj σ H { s with heap:=h',toks:=t' }:=I.un (Un.kept k) (I.hok.kept k)
theorem Inv.laid {a:Addr}{o:HO}{t':Nat}(I:Inv X pj σ H s) (k:∀ b u,s.heap.get? b=some u->h'.get? b=some u) (hp:s.heap.objs.size<=a) (new:yo X.prog X.w (upd H a o) h' a o):
  Inv X pj σ (upd H a o) { s with heap:=h',toks:=t' }:=I.un (Un.laid k hp (I.hok.fresh hp)) (I.hok.laid k hp new)
theorem Inv.write {x e:Addr}{o:HO}{t':Nat}(I:Inv X pj σ H s) (mu:Mut (H x)) (he:e=x\/H e=some (.own x)) (k:∀ b u,b≠e->s.heap.get? b=some u->h'.get? b=some u) (heo:∃ u,h'.get? e=some u)
  (new:yo X.prog X.w (upd H x o) h' x o):Inv X pj σ (upd H x o) { s with heap:=h',toks:=t' }:=I.un (Un.write mu he k heo) (I.hok.write mu he k heo new)
theorem Inv.Vd {pins':List (Addr×Obj)}(I:Inv X pj σ H s) (h:∀ p∈pins',s.heap.get? p.1=some p.2/\H p.1=none/\p.1≠X.env.locals/\p.1 ∉ X.fs/\∀ v,p.2.data≠.cell v):Inv X pins' σ H s:=
 ⟨I.ok,I.os,I.bare,I.base,I.loc,I.cell,I.free,I.freeC,fun p hp=>(ϣ.mp hp).elim (fun z=>I.pin p (mV _ z)) (h p),I.hok,I.len⟩
theorem UJ {N:List Str}(hN:N.Nodup) {i j:Nat}{x:Str}(a:N[i]?=some x) (b:N[j]?=some x):i=j:=by obtain ⟨h1,e1⟩:=υ.mp a;obtain ⟨h2,e2⟩:=υ.mp b;exact (List.getElem_inj hN).mp (e1.trans e2.symm)
theorem K1 {M:Model}{A:ϙ}{E:VSP}{i:Nat}{x:Str}{v:V}{u:δ}{Q:Unit->ς->Prop}(I:Inv X pj σ H s) (hN:X.N.Nodup) (hi:X.N[i]?=some x) (hx:Loc X.env.scope x) (r:RelV v u)
  (h:∀ s',Inv X pj (σ.set i (some v)) H s'->(∃ a,Ϫ a s.heap s'.heap/\(a=X.env.locals\/X.env.cells.lookup x=some a))->Q () s') (hf:X.fn x=true\/X.env.scope.names.lookup x=some .local:=by first | exact .inl rfl | exact .inr rfl | assumption):Ρ M A (storeName X.env x u) Q E s:=by
 obtain ⟨m,hn,hl⟩:=id I.loc;have hcls:(X.env.scope.kind==.class||(X.env.scope.kind==.module&&X.env.locals != X.env.globals))=false:=by rw [I.ok.kind];rfl
 have hiσ:i < σ.length:=by rw [I.len];exact (υ.mp hi).1
 have cne:=I.cne;have tracked:∀ {a:Addr}{h':Heap},(∃ o,s.heap.get? a=some o/\H a=none)->Ϫ a s.heap h'->HOk X.prog X.w H h':=fun {a h'} ha hs b ob e=>by
  obtain ⟨_,_,hfree⟩:=ha;refine (I.hok b ob e).stay (fun c w' hc q=>(hs.2 c ?_).trans q) (fun _ q=>q) fun _ _ q=>q
  rintro rfl;rcases hc with rfl | hc
  ·rw [hfree] at e;cases e
  ·rw [hfree] at hc;cases hc
 rcases hx with hk | hk
 ·refine wpAny_storeName_local hk hn (fun h' hn' hs=>?_) hcls;obtain ⟨oL,_,_,hoL,_⟩:=id hn;refine h _ ⟨I.ok,I.os,I.bare,⟨fun b o e n hb hx=>?_,fun b o e n hb hx=>?_,I.base.free,fun b o e hx=>?_,I.base.tups,I.base.frzs,I.base.tbls⟩,⟨_,hn',fun j y v' e1 e2 e3=>?_⟩,fun y c e=>?_,I.free,I.freeC,fun p hp=>?_,tracked ⟨oL,hoL,I.free⟩ hs,by simpa using I.len⟩ ⟨_,hs,.inl rfl⟩
  ·exact (hs.2 b (ϊ (Χ (Θ e) I.ok.above))).trans (I.base.keep b o e n hb hx)
  ·obtain ⟨sl,e1⟩:=I.base.slot b o e n hb hx;exact ⟨sl,(hs.2 b (ϊ (Χ (Θ e) I.ok.above))).trans e1⟩
  ·obtain ⟨o',e1⟩:=I.base.there b o e hx;exact ⟨o',(hs.2 b (ϊ (Χ (Θ e) I.ok.above))).trans e1⟩
  ·by_cases hj:j=i
   ·subst hj;rw [hi] at e1;cases e1;rw [ϩ hiσ] at e2;cases e2;exact ⟨u,r,.inl ⟨hk,by simp⟩⟩
   ·rw [Ι (bK hj)] at e2;obtain ⟨u',r',q⟩:=hl j y v' e1 e2 e3;refine ⟨u',r',?_⟩;rcases q with ⟨k,e⟩ | ⟨k,c,e,z⟩
    ·refine .inl ⟨k,?_⟩;have:y≠x:=fun e=>hj (UJ hN e1 (e ▸ hi))
     simp [this,e]
    ·exact .inr ⟨k,c,e,z.sameBut hs (cne y c e)⟩
  ·obtain ⟨w',z⟩:=I.cell y c e;exact ⟨w',z.sameBut hs (cne y c e)⟩
  ·obtain ⟨e,n,ne,nf,d⟩:=I.pin p hp;exact ⟨(hs.2 p.1 ne).trans e,n,ne,nf,d⟩
 ·have hfn:X.fn x=true:=by
   rcases hf with z | z
   ·exact z
   ·rw [z] at hk;cases hk
  obtain ⟨c,hc⟩:=I.ok.has x (.inl hk);obtain ⟨w',z⟩:=I.cell x c hc;refine wpAny_storeName_cell I.ok.kind hk hc z (fun h' hc' hs=>?_);obtain ⟨oc,hoc,hocd⟩:=id z;refine h { s with heap:=h' } ⟨I.ok,I.os,I.bare,⟨fun b o e n hb hx=>?_,fun b o e n hb hx=>?_,I.base.free,fun b o e hx=>?_,I.base.tups,I.base.frzs,I.base.tbls⟩,⟨m,hn.sameBut hs (bK (cne x c hc)),fun j y v' e1 e2 e3=>?_⟩,fun y c' e=>?_,I.free,I.freeC,fun p hp=>?_,tracked ⟨oc,hoc,(I.freeC x c hc).resolve_right fun z=>by rw [hfn] at z;cases z.1⟩ hs,by simpa using I.len⟩ ⟨c,hs,.inr hc⟩
  ·exact (hs.2 b (ϊ (Χ (Θ e) (I.ok.cab x c hfn hc)))).trans (I.base.keep b o e n hb hx)
  ·obtain ⟨sl,e1⟩:=I.base.slot b o e n hb hx;exact ⟨sl,(hs.2 b (ϊ (Χ (Θ e) (I.ok.cab x c hfn hc)))).trans e1⟩
  ·obtain ⟨o',e1⟩:=I.base.there b o e hx;exact ⟨o',(hs.2 b (ϊ (Χ (Θ e) (I.ok.cab x c hfn hc)))).trans e1⟩
  ·by_cases hj:j=i
   ·subst hj;rw [hi] at e1;cases e1;rw [ϩ hiσ] at e2;cases e2;exact ⟨u,r,.inr ⟨.inl hk,c,hc,hc'⟩⟩
   ·rw [Ι (bK hj)] at e2;obtain ⟨u',r',q⟩:=hl j y v' e1 e2 e3;refine ⟨u',r',?_⟩;rcases q with q | ⟨k,c',e,z'⟩
    ·exact .inl q
    ·refine .inr ⟨k,c',e,z'.sameBut hs ?_⟩;rintro rfl;exact hj (UJ hN e1 (I.ok.inj _ _ _ e hc ▸ hi))
  ·by_cases hcc:c'=c
   ·subst hcc;exact ⟨_,hc'⟩
   ·obtain ⟨w2,z2⟩:=I.cell y c' e;exact ⟨w2,z2.sameBut hs hcc⟩
  ·obtain ⟨e,n,ne,nf,d⟩:=I.pin p hp;refine ⟨(hs.2 p.1 ?_).trans e,n,ne,nf,d⟩;intro q;rw [q,hoc] at e;have q':oc=p.2:=Ϛ e;exact d w' (by rw [<- q'];exact hocd)
theorem za5 {M:Model}{A:ϙ}{E:VSP}{i:Nat}{x:Str}{v:V}{u:δ}{Q:Unit->ς->Prop}(I:Inv X pj σ H s) (hN:X.N.Nodup) (hi:X.N[i]?=some x) (hx:Loc X.env.scope x) (r:RelV v u)
  (h:∀ s',Inv X pj (σ.set i (some v)) H s'->Q () s') (hf:X.fn x=true\/X.env.scope.names.lookup x=some .local:=by first | exact .inl rfl | exact .inr rfl | assumption):Ρ M A (storeName X.env x u) Q E s:=
 K1 I hN hi hx r (fun s' I' _=>h s' I') hf
theorem Inv.call' {s':ς}{ch:List Addr}(I:Inv X pj σ H s) (ho:s'.os=s.os) (u:Un (frs X.stack) ch H H' s.heap s'.heap) (hok:HOk X.prog X.w H' s'.heap) (hg:fB s'.gens)
  (hch:∀ b∈ch,(b∈X.ex\/X.sy.heap.objs.size<=b)/\b≠X.env.locals/\(∀ x c,X.env.cells.lookup x=some c->c≠b)/\∀ p∈X.pn++pj,p.1≠b):Inv X pj σ H' s':=by obtain ⟨h',g',d',t',o'⟩:=s';have e:o'=s.os:=ho;subst e;exact I.call (g':=g') (t':=t') (d':=d') u hok hg hch
end
abbrev XK:=δ->Option Addr->Hp->Prop
abbrev St:=List (Option V)
abbrev VK:=V->Hp->Prop
abbrev TE:=St->Hp->VK->Prop
abbrev TT:=St->Hp->(Bool->Hp->Prop)->Prop
abbrev TA:=St->Hp->(List V->Hp->Prop)->Prop
structure Ends where
 nx:St->Hp->Prop
 rt:VK
 bk:St->Hp->Prop:=fun _ _=>False
 ct:St->Hp->Prop:=fun _ _=>False
abbrev TS:=Ends->St->Hp->Prop
def EP (X:Cx) (pj:List (Addr×Obj)) (σ:St) (Q:VK) (u:δ) (s':ς):Prop:=∃ v H',Inv X pj σ H' s'/\RelV v u/\Q v H'
def TP (X:Cx) (pj:List (Addr×Obj)) (σ:St) (Q:Bool->Hp->Prop) (b:Bool) (s':ς):Prop:=∃ H',Inv X pj σ H' s'/\Q b H'
def AP (X:Cx) (pj:List (Addr×Obj)) (σ:St) (Q:List V->Hp->Prop) (us:List δ) (s':ς):Prop:=∃ vs H',Inv X pj σ H' s'/\Vals vs us/\Q vs H'
def SP (X:Cx) (pj:List (Addr×Obj)) (D:Ends) (f:Flow) (s':ς):Prop:=
 match f with
 | .next=>∃ σ' H',Inv X pj σ' H' s'/\D.nx σ' H'
 | .brk=>∃ σ' H',Inv X pj σ' H' s'/\D.bk σ' H'
 | .cont=>∃ σ' H',Inv X pj σ' H' s'/\D.ct σ' H'
 | .ret u=>∃ v σ' H',Inv X pj σ' H' s'/\RelV v u/\D.rt v H'
def PE (X:Cx) (e:Expr) (t:TE):Prop:=
 ∀ (pj:List (Addr×Obj)) (s:ς) (σ:St) (H:Hp) (Q:VK),Inv X pj σ H s->t σ H Q->Ρ (ώ X.prog X.w) X.A (eval e X.env) (EP X pj σ Q) X.xe s
def PT (X:Cx) (e:Expr) (t:TT):Prop:=
 ∀ (pj:List (Addr×Obj)) (s:ς) (σ:St) (H:Hp) (Q:Bool->Hp->Prop),Inv X pj σ H s->t σ H Q->Ρ (ώ X.prog X.w) X.A (gC e X.env (eval e X.env)) (TP X pj σ Q) X.xe s
def PW (X:Cx) (e:Expr) (t:TT):Prop:=
 ∀ (whole:Sem δ) (pj:List (Addr×Obj)) (s:ς) (σ:St) (H:Hp) (Q:Bool->Hp->Prop),Inv X pj σ H s->t σ H Q->Ρ (ώ X.prog X.w) X.A (gC e X.env whole) (TP X pj σ Q) X.xe s
theorem PW.pt {X:Cx}{e:Expr}{t:TT}(h:PW X e t):PT X e t:=h _
def PA (X:Cx) (es:List Expr) (t:TA):Prop:=
 ∀ (pos:Pos) (pj:List (Addr×Obj)) (s:ς) (σ:St) (H:Hp) (Q:List V->Hp->Prop),Inv X pj σ H s->t σ H Q->Ρ (ώ X.prog X.w) X.A (spliced (dB pos (ϧ es X.env))) (AP X pj σ Q) X.xe s
def PS (X:Cx) (st:Stmt) (t:TS):Prop:=
 ∀ (pj:List (Addr×Obj)) (s:ς) (σ:St) (H:Hp) (D:Ends),Inv X pj σ H s->t D σ H->Ρ (ώ X.prog X.w) X.A (exec st X.env) (SP X pj D) X.xe s
def PSs (X:Cx) (st:List Stmt) (t:TS):Prop:=
 ∀ (pj:List (Addr×Obj)) (s:ς) (σ:St) (H:Hp) (D:Ends),Inv X pj σ H s->t D σ H->Ρ (ώ X.prog X.w) X.A (execs st X.env) (SP X pj D) X.xe s
theorem thn {α:Type}{t:Sem α}{Q Q':α->ς->Prop}{M:Model}{A:ϙ}{E:VSP}{s:ς}(h:Ρ M A t Q E s) (hQ:∀ a s,Q a s->Q' a s):Ρ M A t Q' E s:=bU h hQ fun _ _ x=>x
section
variable {X:Cx}
theorem bin {a b:Expr}{ta tb:TE}(ha:PE X a ta) (hb:PE X b tb) {pj:List (Addr×Obj)}{s:ς}{σ:St}{H:Hp}{R:V->V->Hp->Prop}(I:Inv X pj σ H s) (h:ta σ H fun x H1=>tb σ H1 fun y H2=>R x y H2)
  {α:Type}{Q:α->ς->Prop}{f:δ->δ->Sem α}
  (hf:∀ v u s2 x y H2,Inv X pj σ H2 s2->RelV x v->RelV y u->R x y H2->Ρ (ώ X.prog X.w) X.A (f v u) Q X.xe s2):
  Ρ (ώ X.prog X.w) X.A (eval a X.env) (fun v s₁=>Ρ (ώ X.prog X.w) X.A (eval b X.env) (fun u s₂=>Ρ (ώ X.prog X.w) X.A (f v u) Q X.xe s₂) X.xe s₁) X.xe s:=by
 refine thn (ha pj s σ H _ I h) fun v s1 ⟨x,H1,I1,r1,q1⟩=>?_
 refine thn (hb pj s1 σ H1 _ I1 q1) fun u s2 ⟨y,H2,I2,r2,q2⟩=>?_
 exact hf v u s2 x y H2 I2 r1 r2 q2
def tVar (i:Nat):TE:=fun σ H Q=>∃ v,σ[i]?=some (some v)/\Q v H
def tC (v:V):TE:=fun _ H Q=>Q v H
theorem Xo {i:Nat}{x:Str}{pos:Pos}(hN:X.N[i]?=some x) (hv:Vis X.env.scope x) (hd:(x==("__debug__":Str))=false:=by decide) (hcd:(x==("__classdict__":Str))=false:=by decide):PE X (.Name x pos) (tVar i):=by
 intro pj s σ H Q I h;obtain ⟨v,e,h⟩:=h;obtain ⟨m,hn,hl⟩:=I.loc;obtain ⟨u,r,l⟩:=hl i x v hN e hv;have fin:EP X pj σ Q u s:=⟨v,H,I,r,h⟩
 rcases l with ⟨hk,hm⟩ | ⟨hk,c,hc,hcell⟩
 ·exact wpAny_Name (wpAny_loadName_local I.ok.kind hk hn hm fin) hd
 ·rcases hk with hk | hk
  ·exact wpAny_Name (wpAny_loadName_cell I.ok.kind hk hc hcell fin) hd
  ·exact wpAny_Name (wpAny_loadName_free I.ok.kind hk hc hcell fin hcd) hd
theorem zci {i j pos}:PE X (.Constant (.int i) j pos) (tC (.int i)):=fun _ _ _ H _ I h=>wpAny_Constant_int ⟨.int i,H,I.tok _,⟨_,rfl⟩,h⟩
theorem zi0 {b j pos}:PE X (.Constant (.bool b) j pos) (tC (.bl b)):=fun _ _ _ H _ I h=>Constant_bool ⟨.bl b,H,I,rfl,h⟩
theorem zgh {j pos}:PE X (.Constant .none j pos) (tC .non):=fun _ _ _ H _ I h=>Constant_none ⟨.non,H,I,rfl,h⟩
theorem zch {x j pos}:PE X (.Constant (.str x) j pos) (tC (.str x)):=fun _ _ _ H _ I h=>Calls.Constant_str ⟨.str x,H,I.tok _,⟨_,rfl⟩,h⟩
def Gl (X:Cx) (x:Str):Prop:=X.env.kindOf x=some .globalImplicit
theorem QS {E:VSP}{pj:List (Addr×Obj)}{s:ς}{σ:St}{H:Hp}{x:Str}{u:δ}{pos:Pos}{Q:VSP}(I:Inv X pj σ H s) (hg:Gl X x) (hm:X.mg x=some u) (h:Q u s)
  (hd:(x==("__debug__":Str))=false:=by decide):Ρ (ώ X.prog X.w) X.A (eval (.Name x pos) X.env) Q E s:=
 lr I.ok.kind hg (Calls.loadGlobal_global (by rw [I.ok.glob];exact I.mod.glob.keeps I.bk) hm h) hd
theorem uE {E:VSP}{pj:List (Addr×Obj)}{s:ς}{σ:St}{H:Hp}{x:Str}{u:δ}{pos:Pos}{Q:VSP}(I:Inv X pj σ H s) (hg:Gl X x) (hm:X.mg x=none) (hv:bW x=some u) (h:Q u s)
  (hn:x≠"__name__":=by decide) (hd:(x==("__debug__":Str))=false:=by decide):Ρ (ώ X.prog X.w) X.A (eval (.Name x pos) X.env) Q E s:=by obtain ⟨mb,h1,h2⟩:=I.mod.blt;exact lr I.ok.kind hg (Calls.loadGlobal_builtin (by rw [I.ok.glob];exact I.mod.glob.keeps I.bk) hm (by rw [I.ok.blt];exact h1.keeps I.bk) ((h2 x hn).trans hv) h) hd
theorem zdz {x:Str}{v:V}{u:δ}{pos:Pos}(hg:Gl X x) (hm:X.mg x=some u) (r:RelV v u) (hd:(x==("__debug__":Str))=false:=by decide):PE X (.Name x pos) (tC v):=
 fun _ _ _ H _ I h=>QS I hg hm ⟨v,H,I,r,h⟩ hd
theorem zdE {x:Str}{v:V}{u:δ}{pos:Pos}(hg:Gl X x) (hm:X.mg x=none) (hv:bW x=some u) (r:RelV v u) (hn:x≠"__name__":=by decide) (hd:(x==("__debug__":Str))=false:=by decide):PE X (.Name x pos) (tC v):=
 fun _ _ _ H _ I h=>uE I hg hm hv ⟨v,H,I,r,h⟩ hn hd
variable {a b:Expr}{ta tb:TE}{pos:Pos}
def tB (t:TE):TT:=fun σ H Q=>t σ H fun x H1=>∃ c,x=.bl c/\Q c H1
theorem zf5 {e:Expr}{t:TE}(h:PE X e t) (he:∀ whole,gC e X.env whole=(do let v <- whole;standAt e.pos;fX [v] (truthy v)):=by intro _;rfl):PT X e (tB t):=by intro pj s σ H Q I hw;refine isTrue_plain (thn (h pj s σ H _ I hw) fun v s1 ⟨x,H1,I1,r1,q1⟩=>?_) (he _);obtain ⟨d,rfl,q⟩:=q1;cases r1;exact aG ⟨H1,I1,q⟩
variable {tA tB':TT}{rest:List Expr}
def tAnd (t u:TT):TT:=fun σ H Q=>t σ H fun c H1=>if c=true then u σ H1 Q else Q false H1
def tOr (t u:TT):TT:=fun σ H Q=>t σ H fun c H1=>if c=true then Q true H1 else u σ H1 Q
def tNot (t:TT):TT:=fun σ H Q=>t σ H fun c H1=>Q (!c) H1
theorem zdn (ha:PT X a tA):PW X (.BoolOp .And [a] pos) tA:=by
 intro wh pj s σ H Q I h;refine isTrue_and (thn (ha pj s σ H Q I h) fun c s1 e=>?_);cases c with
 | true=>exact isTrue_and_nil e
 | false=>exact e
theorem zf3 (ha:PT X a tA):PW X (.BoolOp .Or [a] pos) tA:=by
 intro wh pj s σ H Q I h;refine isTrue_or (thn (ha pj s σ H Q I h) fun c s1 e=>?_);cases c with
 | false=>exact isTrue_or_nil e
 | true=>exact e
theorem zf4 (ha:PT X a tA) (hb:PW X (.BoolOp .And (b::rest) pos) tB'):PW X (.BoolOp .And (a::b::rest) pos) (tAnd tA tB'):=by
 intro wh pj s σ H Q I h;refine isTrue_and (thn (ha pj s σ H _ I h) fun c s1 ⟨H1,I1,q1⟩=>?_);cases c with
 | true=>exact hb wh pj s1 σ H1 Q I1 q1
 | false=>exact ⟨H1,I1,q1⟩
theorem ziT (ha:PT X a tA) (hb:PW X (.BoolOp .Or (b::rest) pos) tB'):PW X (.BoolOp .Or (a::b::rest) pos) (tOr tA tB'):=by
 intro wh pj s σ H Q I h;refine isTrue_or (thn (ha pj s σ H _ I h) fun c s1 ⟨H1,I1,q1⟩=>?_);cases c with
 | true=>exact ⟨H1,I1,q1⟩
 | false=>exact hb wh pj s1 σ H1 Q I1 q1
theorem zf6 (ha:PT X a tA):PT X (.UnaryOp .Not a pos) (tNot tA):=by intro pj s σ H Q I h;exact isTrue_not (ha pj s σ H (fun c H1=>Q (!c) H1) I h)
def zh8 (ta tb:TE):TE:=fun σ H Q=>ta σ H fun x H1=>∃ c,x=.bl c/\if c=true then tb σ H1 Q else Q (.bl false) H1
def tOrV (ta tb:TE):TE:=fun σ H Q=>ta σ H fun x H1=>∃ c,x=.bl c/\if c=true then Q (.bl true) H1 else tb σ H1 Q
def zh3 (ta:TE):TE:=fun σ H Q=>ta σ H fun x H1=>∃ c,x=.bl c/\Q (.bl (!c)) H1
theorem zgf {op} {t:TE}(h:PE X a t):PE X (.BoolOp op [a] pos) t:=fun pj s σ H Q I hw=>BoolOp_one (h pj s σ H Q I hw)
theorem zgj (ha:PE X a ta) (hb:PE X (.BoolOp .And (b::rest) pos) tb):PE X (.BoolOp .And (a::b::rest) pos) (zh8 ta tb):=by
 intro pj s σ H Q I h;refine BoolOp_and (thn (ha pj s σ H _ I h) fun v s1 ⟨x,H1,I1,r1,q1⟩=>?_);obtain ⟨c,rfl,q1⟩:=q1;cases r1;refine aG ?_;cases c with
 | true=>exact hb pj s1 σ H1 Q I1 q1
 | false=>exact ⟨.bl false,H1,I1,rfl,q1⟩
theorem ziX (ha:PE X a ta) (hb:PE X (.BoolOp .Or (b::rest) pos) tb):PE X (.BoolOp .Or (a::b::rest) pos) (tOrV ta tb):=by
 intro pj s σ H Q I h;refine BoolOp_or (thn (ha pj s σ H _ I h) fun v s1 ⟨x,H1,I1,r1,q1⟩=>?_);obtain ⟨c,rfl,q1⟩:=q1;cases r1;refine aG ?_;cases c with
 | false=>exact hb pj s1 σ H1 Q I1 q1
 | true=>exact ⟨.bl true,H1,I1,rfl,q1⟩
theorem zgg (ha:PE X a ta):PE X (.UnaryOp .Not a pos) (zh3 ta):=by intro pj s σ H Q I h;refine UnaryOp_ (thn (ha pj s σ H _ I h) fun v s1 ⟨x,H1,I1,r1,q1⟩=>?_);obtain ⟨c,rfl,q1⟩:=q1;cases r1;exact not_of (aG ⟨.bl (!c),H1,I1,rfl,q1⟩)
def tIf (t:TT) (ta tb:TE):TE:=fun σ H Q=>t σ H fun c H1=>if c=true then ta σ H1 Q else tb σ H1 Q
theorem zbo {c:Expr}(hc:PT X c tA) (ha:PE X a ta) (hb:PE X b tb):PE X (.IfExp c a b pos) (tIf tA ta tb):=by
 intro pj s σ H Q I h;refine wpAny_IfExp (thn (hc pj s σ H _ I h) fun d s1 ⟨H1,I1,q1⟩=>?_);cases d with
 | true=>exact ha pj s1 σ H1 Q I1 q1
 | false=>exact hb pj s1 σ H1 Q I1 q1
end
def SqL (K:W.Frag) (H:Hp) (a:Addr) (xs:List V):Prop:=
 Rd H a (.lst xs) \/
  ∃ (o:Obj) (its:Array δ) (n:Nat),K.lookup a=some o/\o.cls=.type "list"/\o.dict=none/\o.data=.seq its n/\its.size<=sizeLine/\Vals xs its.toList
def SqT (K:W.Frag) (H:Hp) (a:Addr) (xs:List V):Prop:=
 Rd H a (.tup xs) \/
  ∃ (o:Obj) (its:Array δ) (n:Nat),K.lookup a=some o/\o.cls=.type "tuple"/\o.data=.seq its n/\its.size<=sizeLine/\Vals xs its.toList
noncomputable def absV:δ->Option V
 | .none=>some .non
 | .bool b=>some (.bl b)
 | .int i _=>some (.int i)
 | .str x _=>some (.str x)
 | .bytes b _=>some (.byt b)
 | .float b _=>some (.flt b)
 | .ref a=>some (.ref a)
 | .type n=>some (.ty n)
 | _=>none
theorem RelV.abs {x:V}{u:δ}(r:RelV x u):absV u=some x:=by
 cases x with
 | non=>cases r;rfl
 | bl _=>cases r;rfl
 | int _=>obtain ⟨t,rfl⟩:=r;rfl
 | str _=>obtain ⟨t,rfl⟩:=r;rfl
 | byt _=>obtain ⟨t,rfl⟩:=r;rfl
 | flt _=>obtain ⟨t,rfl⟩:=r;rfl
 | ref _=>cases r;rfl
 | ty _=>cases r;rfl
theorem RelV.inj {x y:V}{u:δ}(r:RelV x u) (q:RelV y u):x=y:=Ϛ (r.abs.symm.trans q.abs)
theorem Vals.inj:∀ {xs ys:List V}{us:List δ},Vals xs us->Vals ys us->xs=ys
 | _,_,_,.nil,.nil=>rfl
 | _,_,_,.cons r t,.cons r' t'=>by rw [r.inj r',Vals.inj t t']
section
variable {X:Cx}{pj:List (Addr×Obj)}{σ:St}{H:Hp}{s:ς}{a:Addr}{xs ys:List V}
theorem SqL.of {K:W.Frag}(h:H a=some (.lst xs)):SqL K H a xs:=.inl (.inl h)
theorem SqT.of {K:W.Frag}(h:H a=some (.tup xs)):SqT K H a xs:=.inl (.inl h)
theorem Inv.list (I:Inv X pj σ H s) (h:SqL X.K H a xs):∃ its:List δ,Vals xs its/\PlainL s.heap a its.toArray/\xs.length<=sizeLine:=by
 rcases h with h | ⟨o,its,n,hk,hc,hd,hs,hz,r⟩
 ·obtain ⟨z,its,n,r,e⟩:=h.ok I.hok;exact ⟨its,r,⟨_,n,e,rfl,rfl,rfl⟩,z⟩
 ·refine ⟨its.toList,r,⟨o,n,I.kIn a o hk,hc,hd,by simpa using hs⟩,?_⟩;have e:=r.length;simp only [aW] at e;lia
theorem Inv.tuple (I:Inv X pj σ H s) (h:SqT X.K H a xs):∃ its:List δ,Vals xs its/\gK s.heap a its.toArray/\xs.length<=sizeLine:=by
 rcases h with h | ⟨o,its,n,hk,hc,hs,hz,r⟩
 ·obtain ⟨z,its,r,p⟩:=h.ok I.hok;exact ⟨its,r,p,z⟩
 ·refine ⟨its.toList,r,⟨o,I.kIn a o hk,hc,n,by simpa using hs⟩,?_⟩;have e:=r.length;simp only [aW] at e;lia
theorem Inv.U4 (I:Inv X pj σ H s) (h:SqL X.K H a xs) (h':SqL X.K H a ys):xs=ys:=by
 obtain ⟨its,r,⟨o,n,e,_,_,d⟩,_⟩:=I.list h;obtain ⟨its',r',⟨o',n',e',_,_,d'⟩,_⟩:=I.list h';rw [e] at e';cases e';rw [d] at d'
 injection d' with d1 _
 have:its=its':=by simpa using congrArg Array.toList d1
 subst this;exact r.inj r'
theorem Inv.YT (I:Inv X pj σ H s) (h:SqT X.K H a xs) (h':SqT X.K H a ys):xs=ys:=by
 obtain ⟨its,r,⟨o,e,_,n,d⟩,_⟩:=I.tuple h;obtain ⟨its',r',⟨o',e',_,n',d'⟩,_⟩:=I.tuple h';rw [e] at e';cases e';rw [d] at d'
 injection d' with d1 _
 have:its=its':=by simpa using congrArg Array.toList d1
 subst this;exact r.inj r'
end
noncomputable abbrev Cx.wish (X:Cx) (E:VSP):Cx:={ X with xe:=E }
noncomputable abbrev Cx.nox (X:Cx):Cx:=X.wish fun _ _=>False
theorem Cx.Ok.wish {X:Cx}(ok:X.Ok) (E:VSP):(X.wish E).Ok:=
 ⟨ok.mod,ok.kind,ok.glob,ok.blt,ok.above,ok.inj,ok.has,ok.cab,ok.hd,ok.frames,ok.stk,ok.exf,ok.bs,ok.bsz,ok.noex,ok.exfs,ok.funs,ok.frf⟩
theorem Cx.Ok.vG {X:Cx}{E:VSP}(ok:(X.wish E).Ok):X.Ok:=
 ⟨ok.mod,ok.kind,ok.glob,ok.blt,ok.above,ok.inj,ok.has,ok.cab,ok.hd,ok.frames,ok.stk,ok.exf,ok.bs,ok.bsz,ok.noex,ok.exfs,ok.funs,ok.frf⟩
section
variable {X:Cx}{pj:List (Addr×Obj)}{σ:St}{H:Hp}{s:ς}{E:VSP}
theorem Inv.wish (I:Inv X pj σ H s) (E:VSP):Inv (X.wish E) pj σ H s:=⟨I.ok.wish E,I.os,I.bare,I.base,I.loc,I.cell,I.free,I.freeC,I.pin,I.hok,I.len⟩
theorem Inv.vG (I:Inv (X.wish E) pj σ H s):Inv X pj σ H s:=⟨I.ok.vG,I.os,I.bare,I.base,I.loc,I.cell,I.free,I.freeC,I.pin,I.hok,I.len⟩
theorem SP.vG {D:Ends}{f:Flow}{s':ς}(h:SP (X.wish E) pj D f s'):SP X pj D f s':=by
 cases f with
 | next=>obtain ⟨σ',H',I,q⟩:=h;exact ⟨σ',H',I.vG,q⟩
 | brk=>obtain ⟨σ',H',I,q⟩:=h;exact ⟨σ',H',I.vG,q⟩
 | cont=>obtain ⟨σ',H',I,q⟩:=h;exact ⟨σ',H',I.vG,q⟩
 | ret u=>obtain ⟨v,σ',H',I,r,q⟩:=h;exact ⟨v,σ',H',I.vG,r,q⟩
theorem PE.nox {e:Expr}{t:TE}(h:PE X.nox e t):PE X e t:=fun pj s σ H Q I hw=>
 bU (h pj s σ H Q (I.wish _) hw) (fun _ _ ⟨v,H',I',r,q⟩=>⟨v,H',I'.vG,r,q⟩) fun _ _ z=>ϰ z
theorem PT.nox {e:Expr}{t:TT}(h:PT X.nox e t):PT X e t:=fun pj s σ H Q I hw=>
 bU (h pj s σ H Q (I.wish _) hw) (fun _ _ ⟨H',I',q⟩=>⟨H',I'.vG,q⟩) fun _ _ z=>ϰ z
theorem PSs.nox {st:List Stmt}{t:TS}(h:PSs X.nox st t):PSs X st t:=fun pj s σ H D I hw=>
 bU (h pj s σ H D (I.wish _) hw) (fun _ _ q=>q.vG) fun _ _ z=>ϰ z
end
section
variable {X:Cx}{st:Stmt}{rest:List Stmt}{t u:TS}{e:Expr}{te:TE}{pos:Pos}
def zfo:TS:=fun D σ H=>D.nx σ H
def tSeq (t u:TS):TS:=fun D σ H=>t { D with nx:=u D } σ H
theorem zds:PSs X [] zfo:=fun _ _ σ H _ I h=>lX ⟨σ,H,I,h⟩
theorem zbf (h1:PS X st t) (h2:PSs X rest u):PSs X (st::rest) (tSeq t u):=by
 intro pj s σ H D I h;refine wpAny_execs_cons (thn (h1 pj s σ H { D with nx:=u D } I h) fun f s1 q=>?_);cases f with
 | next=>
  obtain ⟨σ',H',I',q⟩:=q;exact h2 pj s1 σ' H' D I' q
 | ret v=>exact q
 | brk=>exact q
 | cont=>exact q
def zfs:TS:=fun D σ H=>D.bk σ H
def zh6:TS:=fun D σ H=>D.ct σ H
theorem zdu:PS X (.Pass pos) zfo:=fun _ _ σ H _ I h=>wpAny_Pass ⟨σ,H,I,h⟩
theorem zbh:PS X (.Break pos) zfs:=fun _ _ σ H _ I h=>wpAny_Break ⟨σ,H,I,h⟩
theorem Vc:PS X (.Continue pos) zh6:=fun _ _ σ H _ I h=>wpAny_Continue ⟨σ,H,I,h⟩
theorem Inv.quiet {pj:List (Addr×Obj)}{σ:St}{H:Hp}{s:ς}(I:Inv X pj σ H s):interactive X.env=false:=by simp [interactive,I.ok.kind]
def zh4 (te:TE):TS:=fun D σ H=>te σ H fun _ H1=>D.nx σ H1
theorem Vb (he:PE X e te) (hs:fM e none pos.line X.env=pure false:=by rfl):PS X (.Expr e pos) (zh4 te):=by intro pj s σ H D I h;exact wpAny_Expr_any (thn (he pj s σ H _ I h) fun v s1 ⟨x,H1,I1,r1,q1⟩=>⟨σ,H1,I1,q1⟩) I.quiet hs
def tRet (te:TE):TS:=fun D σ H=>te σ H D.rt
theorem zcf (he:PE X e te):PS X (.Return (some e) pos) (tRet te):=by intro pj s σ H D I h;exact wpAny_Return_some (thn (he pj s σ H _ I h) fun v s1 ⟨x,H1,I1,r1,q1⟩=>⟨x,σ,H1,I1,r1,q1⟩)
def zh1:TS:=fun D _ H=>D.rt .non H
theorem zdt:PS X (.Return none pos) zh1:=fun _ _ σ H _ I h=>wpAny_Return_none ⟨.non,σ,H,I,rfl,h⟩
def tIfS (c:TT) (t u:TS):TS:=fun D σ H=>c σ H fun b H1=>if b=true then t D σ H1 else u D σ H1
theorem ziU {c:Expr}{a b:List Stmt}{tc:TT}(hc:PT X c tc) (ha:PSs X a t) (hb:PSs X b u):PS X (.If c a b pos) (tIfS tc t u):=by
 intro pj s σ H D I h;refine wpAny_If (thn (hc pj s σ H _ I h) fun d s1 ⟨H1,I1,q1⟩=>?_);cases d with
 | true=>exact ha pj s1 σ H1 D I1 q1
 | false=>exact hb pj s1 σ H1 D I1 q1
end
abbrev TG:=V->St->Hp->(St->Hp->Prop)->Prop
abbrev TGs:=List V->St->Hp->(St->Hp->Prop)->Prop
def PG (X:Cx) (target:Expr) (t:TG):Prop:=
 ∀ (pj:List (Addr×Obj)) (s:ς) (σ:St) (H:Hp) (v:V) (u:δ) (Q:St->Hp->Prop),Inv X pj σ H s->RelV v u->t v σ H Q ->
  Ρ (ώ X.prog X.w) X.A (eE target X.env u) (fun _ s'=>∃ σ' H',Inv X pj σ' H' s'/\Q σ' H') X.xe s
def PGs (X:Cx) (ts:List Expr) (t:TGs):Prop:=
 ∀ (pj:List (Addr×Obj)) (s:ς) (σ:St) (H:Hp) (vs:List V) (us:List δ) (Q:St->Hp->Prop),Inv X pj σ H s->Vals vs us->t vs σ H Q ->
  Ρ (ώ X.prog X.w) X.A (assignInOrder ((aN ts X.env).map (·.2)) us) (fun _ s'=>∃ σ' H',Inv X pj σ' H' s'/\Q σ' H') X.xe s
abbrev TSet:=V->V->V->Hp->(Hp->Prop)->Prop
def PSet (X:Cx) (t:TSet):Prop:=
 ∀ (pj:List (Addr×Obj)) (s:ς) (σ:St) (H:Hp) (o i v:V) (ov iv u:δ) (Q:Hp->Prop),Inv X pj σ H s->RelV o ov->RelV i iv->RelV v u->t o i v H Q ->
  Ρ (ώ X.prog X.w) X.A (setItem ov iv u) (fun _ s'=>∃ H',Inv X pj σ H' s'/\Q H') X.xe s
section
variable {X:Cx}{pos:Pos}
def X5 (i:Nat):TG:=fun v σ H Q=>Q (σ.set i (some v)) H
theorem Qt {i:Nat}{x:Str}(hN:X.N.Nodup) (hi:X.N[i]?=some x) (hx:Loc X.env.scope x) (hf:X.fn x=true\/X.env.scope.names.lookup x=some .local:=by first | exact .inl rfl | exact .inr rfl | assumption):PG X (.Name x pos) (X5 i):=by intro pj s σ H v u Q I r h;exact wpAny_assign_Name (za5 I hN hi hx r (fun s' I'=>⟨_,H,I',h⟩) hf)
def gNil:TGs:=fun vs σ H Q=>vs=[]/\Q σ H
def zbO (t:TG) (u:TGs):TGs:=fun vs σ H Q=>∃ v r,vs=v::r/\t v σ H fun σ' H'=>u r σ' H' Q
theorem Qq:PGs X [] gNil:=by intro pj s σ H vs us Q I r h;obtain ⟨e,h⟩:=h;subst e;cases r;exact assignInOrder_nil ⟨σ,H,I,h⟩
theorem Z7 {e:Expr}{es:List Expr}{t:TG}{u:TGs}(h1:PG X e t) (h2:PGs X es u)
  (hs:(aN (e::es) X.env).map (·.2)=eE e X.env::(aN es X.env).map (·.2):=by rfl):PGs X (e::es) (zbO t u):=by
 intro pj s σ H vs us Q I r h;obtain ⟨v,vr,e1,h⟩:=h;subst e1;cases r with
 | cons r rr=>
  rw [hs];refine assignInOrder_cons (thn (h1 pj s σ H _ _ _ I r h) fun _ s1 ⟨σ1,H1,I1,q1⟩=>?_);exact h2 pj s1 σ1 H1 _ _ Q I1 rr q1
def gTup (K:W.Frag) (n:Nat) (t:TGs):TG:=fun v σ H Q=>∃ a xs,v=.ref a/\SqT K H a xs/\xs.length=n/\t xs σ H Q
theorem Qs {es:List Expr}{k:Nat}{t:TGs}{n:Nat}(hc:X.calm=true) (h:PGs X es t)
  (hn:(aN es X.env).length=n:=by rfl) (hst:(aN es X.env).findIdx? (·.1)=none:=by rfl):PG X (.Tuple es k pos) (gTup X.K n t):=by
 intro pj s σ H v u Q I r hw;obtain ⟨a,xs,e1,hq,hl,hw⟩:=hw;subst e1;cases r;obtain ⟨its,rv,ht,hz⟩:=I.tuple hq;refine assign_Tuple_tuple (I.ok.hd hc) ht (by simp [hn,<- hl,rv.length]) hst fun h' hx=>?_
 have I1:Inv X pj σ H { s with heap:=h' }:=I.kept (t':=s.toks) fun b o e=>hx b o (ϊ (Θ e)) e
 exact h pj _ σ H xs _ Q I1 (by simpa using rv) hw
def gSub (to ti:TE) (t:TSet):TG:=fun v σ H Q=>to σ H fun o H1=>ti σ H1 fun i H2=>t o i v H2 fun H3=>Q σ H3
theorem zcg {o i:Expr}{to ti:TE}{t:TSet}(ho:PE X o to) (hi:PE X i ti) (hs:PSet X t)
  (ha:∀ v,eE (.Subscript o i pos) X.env v=(do
   let ov <- fX [v] (eval o X.env)
   let iv <- fX [v,ov] (eval i X.env)
   standAt pos
   fX [v,ov,iv] (setItem ov iv v)
   release [v,ov,iv] []):=by intro _;rfl):PG X (.Subscript o i pos) (gSub to ti t):=by intro pj s σ H v u Q I r h;rw [ha];refine ζ (dG (thn (ho pj s σ H _ I h) fun ov s1 ⟨x,H1,I1,r1,q1⟩=>?_));refine ζ (dG (thn (hi pj s1 σ H1 _ I1 q1) fun iv s2 ⟨y,H2,I2,r2,q2⟩=>?_));refine ζ (iz (ζ (dG (thn (hs pj s2 σ H2 x y v ov iv u _ I2 r1 r2 r q2) fun _ s3 ⟨H3,I3,q3⟩=>?_))));exact wpAny_release ⟨σ,H3,I3,q3⟩
def tAsg (te:TE) (g:TG):TS:=fun D σ H=>te σ H fun x H1=>g x σ H1 D.nx
theorem Uw {tg e:Expr}{te:TE}{g:TG}(he:PE X e te) (hg:PG X tg g) (hs:cj [tg] e pos.line X.env=pure false:=by rfl) (hw:bJ [tg] e X.env=pure none:=by rfl)
  (h1:(aN [tg] X.env).map (·.2)=[eE tg X.env]:=by rfl):PS X (.Assign [tg] e pos) (tAsg te g):=by intro pj s σ H D I h;refine wpAny_Assign_stores (thn (he pj s σ H _ I h) fun v s1 ⟨x,H1,I1,r1,q1⟩=>?_) hs hw;rw [h1];exact thn (hg pj s1 σ H1 x v _ I1 r1 q1) fun _ s2 q=>q
def zfm (c:TT) (tb:TS):TS:=fun D σ H=>∃ W:Nat->St->Hp->Prop,(∃ m,W m σ H)/\∀ m σ H,W m σ H ->
 c σ H fun b H1=>if b=true then ∃ N:St->Hp->Prop,(∀ σ' H',N σ' H'->∃ m',m' < m/\W m' σ' H')/\tb { D with nx:=N,ct:=N,bk:=D.nx } σ H1 else D.nx σ H1
theorem zbg {c:Expr}{body:List Stmt}{tc:TT}{tb:TS}(hp:gY (ώ X.prog X.w) X.A X.env X.xe) (hc:PT X c tc) (hb:PSs X body tb):PS X (.While c body [] pos) (zfm tc tb):=by
 intro pj s σ H D I h;obtain ⟨W,⟨m0,w0⟩,turn⟩:=h;refine wpAny_While (codeAny_whileLoop (fun n s'=>∃ σ' H',Inv X pj σ' H' s'/\W n σ' H') ?_ m0 ⟨σ,H,I,w0⟩);rintro n s1 ⟨σ1,H1,I1,w1⟩;refine cg hp (thn (hc pj s1 σ1 H1 _ I1 (turn n σ1 H1 w1)) fun b s2 ⟨H2,I2,q2⟩=>?_);cases b with
 | true=>
  obtain ⟨N,hN,q2⟩:=q2;rw [if_pos rfl];refine cg hp (thn (hb pj s2 σ1 H2 _ I2 q2) fun f s3 q3=>?_);cases f with
  | next=>
   obtain ⟨σ3,H3,I3,n3⟩:=q3;obtain ⟨m',hm,w3⟩:=hN σ3 H3 n3;exact ⟨m',hm,σ3,H3,I3,w3⟩
  | cont=>
   obtain ⟨σ3,H3,I3,n3⟩:=q3;obtain ⟨m',hm,w3⟩:=hN σ3 H3 n3;exact ⟨m',hm,σ3,H3,I3,w3⟩
  | brk=>exact q3
  | ret v=>exact q3
 | false=>
  rw [if_neg Κ];exact lX ⟨σ1,H2,I2,q2⟩
end
structure It where
 go:Nat->Hp->Prop
 yld:Nat->Hp->V->Hp->Prop
 stop:Nat->Hp->Prop
def FpOk (X:Cx) (pj:List (Addr×Obj)) (H:Hp) (b:Addr):Prop:=
 H b=none/\b≠X.env.locals/\b ∉ X.fs/\(b∈X.ex\/X.sy.heap.objs.size<=b)/\(∀ x c,X.env.cells.lookup x=some c->c≠b)/\∀ p∈X.pn++pj,p.1≠b
theorem Inv.fpOk {X:Cx}{pj:List (Addr×Obj)}{σ:St}{H H':Hp}{s:ς}{b:Addr}(I:Inv X pj σ H s) (hb:s.heap.objs.size<=b) (hn:H' b=none):FpOk X pj H' b:=by
 refine ⟨hn,fC (Χ I.lt hb),I.nofs hb,.inr (ϡ I.sz hb),fun x c e z=>?_,fun p hp z=>?_⟩
 ·obtain ⟨v,q⟩:=I.cell x c e;exact absurd (Χ q.lt (by rw [z];exact hb)) (cL _)
 ·exact absurd (Χ (Θ (I.pin p hp).1) (by rw [z];exact hb)) (cL _)
structure Turn (P:Λ) (w:ϓ) (K:W.Frag) (tg:Expr) (J:It) (fp:List Addr) (it:Addr) (tn:Nat->Heap->Prop):Prop where
 mem:it∈fp
 obj:∀ i h,tn i h->∀ b∈fp,∃ o,h.get? b=some o/\∀ v,o.data≠.cell v
 keep:∀ i h h',tn i h->(∀ b∈fp,∀ o,h.get? b=some o->h'.get? b=some o)->tn i h'
 item:∀ (X:Cx),X.prog=P->X.w=w->X.K=K->X.calm=true->∀ (i:Nat) (pj:List (Addr×Obj)) (s:ς) (σ:St) (H:Hp) (E:VSP),Inv X pj σ H s->(∀ b∈fp,FpOk X pj H b)->tn i s.heap->J.go i H ->
  Ρ (ώ P w) X.A (pyNext (.ref it)) (fun r s1=>∃ u,r=some u /\
   Ρ (ώ P w) X.A (lZ tg (.ref it) u) (fun _ s2=>∃ x H',Inv X pj σ H' s2/\RelV x u/\J.yld i H x H'/\tn (i+1) s2.heap/\∀ b∈fp,H' b=none) E s1) E s
 done:∀ (X:Cx),X.prog=P->X.w=w->X.K=K->X.calm=true->∀ (i:Nat) (pj:List (Addr×Obj)) (s:ς) (σ:St) (H:Hp) (E:VSP),Inv X pj σ H s->(∀ b∈fp,FpOk X pj H b)->tn i s.heap->J.stop i H ->
  Ρ (ώ P w) X.A (pyNext (.ref it)) (fun r s1=>r=none/\Inv X pj σ H s1) E s
 self:∀ (A:ϙ) (i:Nat) (s:ς) (Q:VSP) (E:VSP),tn i s.heap->Q (.ref it) s->Ρ (ώ P w) A (pyIter (.ref it)) Q E s
abbrev TI:=St->Hp->(It->Hp->Prop)->Prop
def PIE (X:Cx) (pj:List (Addr×Obj)) (σ:St) (tg:Expr) (R:It->Hp->Prop) (itv:δ) (s2:ς):Prop:=
 ∃ (it:Addr) (fp:List Addr) (tn:Nat->Heap->Prop) (J:It) (H':Hp),itv=.ref it/\Inv X pj σ H' s2/\Turn X.prog X.w X.K tg J fp it tn/\tn 0 s2.heap/\(∀ b∈fp,FpOk X pj H' b)/\R J H'
def PI (X:Cx) (tg iter:Expr) (wi:TI):Prop:=
 ∀ (pj:List (Addr×Obj)) (s:ς) (σ:St) (H:Hp) (R:It->Hp->Prop),Inv X pj σ H s->wi σ H R ->
  Ρ (ώ X.prog X.w) X.A (eval iter X.env) (fun v s1=>Ρ (ώ X.prog X.w) X.A (pyIter v) (PIE X pj σ tg R) X.xe s1) X.xe s
theorem zaq {M:Model}{A:ϙ}{E:VSP}{s:ς}{tg:Expr}{it:Addr}{u:δ}{o:Obj}{n:String}{vs:Array δ}{Q:Unit->ς->Prop}(ho:s.heap.get? it=some o) (hc:o.cls=.type n) (hd:o.data=.fields vs)
    (hn:["enumerate","zip","dict_itemiterator","dict_reverseitemiterator","odict_iterator","itertools.zip_longest","itertools.pairwise"].contains n=false) (hQ:Q () s):Ρ M A (lZ tg (.ref it) u) Q E s:=by
  unfold lZ;cases tg <;> first
    | exact π hQ
    | (cases u <;> first
        | exact π hQ
        | (refine ζ (mJ ho ?_)
           rw [hc,hd];show Ρ M A (if (["enumerate","zip","dict_itemiterator","dict_reverseitemiterator","odict_iterator","itertools.zip_longest","itertools.pairwise"].contains n&&vs[0]?==some (aR _))=true then _ else _) Q E s
           rw [if_neg (by intro h;rw [hn,aA] at h;cases h)]
           exact π hQ))
noncomputable def Itl (K:W.Frag) (a:Addr):It:=
 ⟨fun i H=>∃ xs x,SqL K H a xs/\xs[i]?=some x,fun i H x H'=>H'=H/\∀ xs,SqL K H a xs->xs[i]?=some x,fun i H=>∃ xs,SqL K H a xs/\xs.length<=i⟩
noncomputable def Itt (K:W.Frag) (a:Addr):It:=
 ⟨fun i H=>∃ xs x,SqT K H a xs/\xs[i]?=some x,fun i H x H'=>H'=H/\∀ xs,SqT K H a xs->xs[i]?=some x,fun i H=>∃ xs,SqT K H a xs/\xs.length<=i⟩
noncomputable def Itr (lo:Int) (n:Nat):It:=⟨fun i _=>i < n,fun i H x H'=>H'=H/\x=.int (lo+i),fun i _=>n<=i⟩
theorem KC {P:Λ}{w:ϓ}{K:W.Frag}{tg:Expr}(a it:Addr):Turn P w K tg (Itl K a) [it] it (fun i h=>h.IsListIter it a i) where
 mem:=by simp
 obj:=fun i h st b hb=>by
  have e:b=it:=by simpa using hb
  subst e;obtain ⟨o,e,c,d⟩:=st;exact ⟨o,e,fun v z=>by rw [d] at z;cases z⟩
 keep:=fun i h h' st k=>st.at fun o e=>k it (by simp) o e
 item:=by
  intro X hP hw hK hc i pj s σ H E I hf st hg;subst hP hw hK;obtain ⟨xs,x,hq,hx⟩:=hg;obtain ⟨its,rv,p,hz⟩:=I.list hq;obtain ⟨u,hu,ru⟩:=rv.get hx;obtain ⟨f0,f1,f2,f3,f4,f5⟩:=hf it (by simp);refine wpAny_pyNext_list_item st p.isList (x:=u) (by simpa using hu) fun h' st' sb=>?_
  have I1:Inv X pj σ H { s with heap:=h' }:=I.turned (t':=s.toks) (fun b o hb e=>(sb.2 b hb).trans e) f0 f1 f3 f4 f5;obtain ⟨o,e,c,d⟩:=id st';exact ⟨u,rfl,zaq (s:={ s with heap:=h' }) e c d (by decide) ⟨x,H,I1,ru,⟨rfl,fun ys hy=>by rw [I.U4 hy hq];exact hx⟩,st',fun b hb=>(hf b hb).1⟩⟩
 done:=by intro X hP hw hK hc i pj s σ H E I hf st hg;subst hP hw hK;obtain ⟨xs,hq,hx⟩:=hg;obtain ⟨its,rv,p,hz⟩:=I.list hq;obtain ⟨f0,f1,f2,f3,f4,f5⟩:=hf it (by simp);have hl:=rv.length;exact wpAny_pyNext_list_end (I.ok.hd hc) st p.isList (by simp;lia) fun h' eb=>⟨rfl,I.turned (t':=s.toks) (fun b o hb e=>eb b o hb e) f0 f1 f3 f4 f5⟩
 self:=fun _ _ _ _ _ st h=>wpAny_pyIter_listiter st h
theorem Jx {P:Λ}{w:ϓ}{K:W.Frag}{tg:Expr}(a it:Addr):Turn P w K tg (Itt K a) [it] it (fun i h=>h.IsTupleIter it a i) where
 mem:=by simp
 obj:=fun i h st b hb=>by
  have e:b=it:=by simpa using hb
  subst e;obtain ⟨o,e,c,d⟩:=st;exact ⟨o,e,fun v z=>by rw [d] at z;cases z⟩
 keep:=fun i h h' st k=>st.at fun o e=>k it (by simp) o e
 item:=by
  intro X hP hw hK hc i pj s σ H E I hf st hg;subst hP hw hK;obtain ⟨xs,x,hq,hx⟩:=hg;obtain ⟨its,rv,p,hz⟩:=I.tuple hq;obtain ⟨u,hu,ru⟩:=rv.get hx;obtain ⟨f0,f1,f2,f3,f4,f5⟩:=hf it (by simp);refine wpAny_pyNext_tuple_item st (show s.heap.IsTuple a its.toArray from p) (x:=u) (by simpa using hu) fun h' st' sb=>?_
  have I1:Inv X pj σ H { s with heap:=h' }:=I.turned (t':=s.toks) (fun b o hb e=>(sb.2 b hb).trans e) f0 f1 f3 f4 f5;obtain ⟨o,e,c,d⟩:=id st';exact ⟨u,rfl,zaq (s:={ s with heap:=h' }) e c d (by decide) ⟨x,H,I1,ru,⟨rfl,fun ys hy=>by rw [I.YT hy hq];exact hx⟩,st',fun b hb=>(hf b hb).1⟩⟩
 done:=by intro X hP hw hK hc i pj s σ H E I hf st hg;subst hP hw hK;obtain ⟨xs,hq,hx⟩:=hg;obtain ⟨its,rv,p,hz⟩:=I.tuple hq;obtain ⟨f0,f1,f2,f3,f4,f5⟩:=hf it (by simp);have hl:=rv.length;exact wpAny_pyNext_tuple_end (I.ok.hd hc) st (show s.heap.IsTuple a its.toArray from p) (by simp;lia) fun h' eb=>⟨rfl,I.turned (t':=s.toks) (fun b o hb e=>eb b o hb e) f0 f1 f3 f4 f5⟩
 self:=fun _ _ _ _ _ st h=>wpAny_pyIter_tupleiter st h
theorem Jy {P:Λ}{w:ϓ}{K:PySem.W.Frag}{tg:Expr}(it:Addr) (lo:Int) (n:Nat):Turn P w K tg (Itr lo n) [it] it (fun i h=>IsRangeIter h it (lo+(i:Nat)*1) ((n:Int) - (i:Nat)) 1) where
 mem:=by simp
 obj:=fun i h st b hb=>by
  have e:b=it:=by simpa using hb
  subst e
  exact ⟨_,st,fun v z=>by
   have z':Ϻ _=Data.cell v:=z
   cases z'⟩
 keep:=fun i h h' st k=>k it (by simp) _ st
 item:=by
  intro X hP hw hK hc i pj s σ H E I hf st hg;subst hP hw hK;obtain ⟨f0,f1,f2,f3,f4,f5⟩:=hf it (by simp);have W:=Walks.range (prog:=X.prog) (w:=X.w) (I.ok.hd hc) it lo 1 n;refine W.item i s _ _ hg st fun v h' tk hv st' kk=>?_
  obtain ⟨t,rfl⟩:=hv;have I1:Inv X pj σ H { s with heap:=h',toks:=tk }:=I.turned (fun b o hb e=>kk b o (by simpa using hb) e) f0 f1 f3 f4 f5;refine ⟨_,rfl,zaq (s:={ s with heap:=h',toks:=tk }) (n:="range_iterator") st' rfl rfl (by decide) ⟨.int (lo+i),H,I1,⟨t,?_⟩,⟨rfl,rfl⟩,st',fun b hb=>(hf b hb).1⟩⟩;rw [Int.mul_one]
 done:=by intro X hP hw hK hc i pj s σ H E I hf st hg;subst hP hw hK;obtain ⟨f0,f1,f2,f3,f4,f5⟩:=hf it (by simp);exact wpAny_pyNext_range_end (I.ok.hd hc) st (by have:n<=i:=hg;lia) fun h' eb=>⟨rfl,I.turned (t':=s.toks) (fun b o hb e=>eb b o hb e) f0 f1 f3 f4 f5⟩
 self:=fun _ _ _ _ _ st h=>wpAny_pyIter_rangeiter st h
section
variable {X:Cx}{tg:Expr}
theorem zbc {pj:List (Addr×Obj)}{σ:St}{H:Hp}{s:ς}{R:It->Hp->Prop}{E:VSP}{lo hi:Int}{t u v:Tok}{tk:Nat}(I:Inv X pj σ H s) (h1:-(2 ^ 62)<=lo) (h2:lo < 2 ^ 62) (h3:-(2 ^ 62)<=hi) (h4:hi < 2 ^ 62)
  (q:R (Itr lo (hi - lo).toNat) H):Ρ (ώ X.prog X.w) X.A (pyIter (.ref s.heap.objs.size)) (PIE X pj σ tg R) E { s with heap:=s.heap.push { cls:=.type "range",data:=.fields #[.int lo t,.int hi u,.int 1 v] },toks:=tk }:=by
 refine wpAny_pyIter_range (IsRange.new ..) (small_one h1 h2 h3 h4) ?_;have I1:Inv X pj σ H { s with heap:=s.heap.push { cls:=.type "range",data:=.fields #[.int lo t,.int hi u,.int 1 v] },toks:=tk }:=I.kept fun b o e=>μ _ e
 refine ⟨(s.heap.push { cls:=.type "range",data:=.fields #[.int lo t,.int hi u,.int 1 v] }).objs.size,[(s.heap.push { cls:=.type "range",data:=.fields #[.int lo t,.int hi u,.int 1 v] }).objs.size],_,_,H,rfl,
  I1.kept (t':=tk) fun b o e=>μ _ e,Jy _ lo (hi - lo).toNat,?_,fun b hb=>?_,q⟩
 ·have e1:lo+((0:Nat):Int)*1=lo:=by simp
  have e2:(((hi - lo).toNat:Nat):Int) - ((0:Nat):Int)=ig lo hi 1:=by rw [rangeSize_one];split <;> lia
  show IsRangeIter _ _ (lo+((0:Nat):Int)*1) ((((hi - lo).toNat:Nat):Int) - ((0:Nat):Int)) 1
  rw [e1,e2];exact Μ _ rfl
 ·have e:b=(s.heap.push { cls:=.type "range",data:=.fields #[.int lo t,.int hi u,.int 1 v] }).objs.size:=by simpa using hb
  subst e;exact I1.fpOk (Ζ _) (I1.hok.fresh (Ζ _))
def zjp (ta:TA):TI:=fun σ H R=>ta σ H fun vs H1=>∃ j:Int,vs=[.int j]/\-(2 ^ 62)<=j/\j < 2 ^ 62/\R (Itr 0 j.toNat) H1
theorem Qo {a:Expr}{ta:TA}{p pos:Pos}(hg:Gl X "range") (hm:X.mg "range"=none) (ha:PA X [a] ta) (hs:ϧ [a] X.env=[(false,eval a X.env)]:=by rfl):PI X tg (.Call (.Name "range" p) [a] [] pos) (zjp ta):=by
 intro pj s σ H R I h;refine Call_ (uE I hg hm boot_range (ϫ (thn (ha pos pj s σ H _ I h) fun us s1 ⟨vs,H1,I1,r1,q1⟩=>?_) hs rfl));obtain ⟨j,e,q1,q2,q⟩:=q1;subst e;cases r1 with
 | cons r rr=>
  cases rr;obtain ⟨t,rfl⟩:=r;exact call_range_1 (zbc I1 (by lia) (by lia) q1 q2 (by simpa using q))
def tFor (wi:TI) (g:TG) (tb:TS):TS:=fun D σ H=>wi σ H fun J H1=>∃ W:Nat->Nat->St->Hp->Prop,(∃ m,W 0 m σ H1)/\∀ i m σ H,W i m σ H ->
 (J.stop i H/\D.nx σ H)\/(J.go i H/\∃ N:St->Hp->Prop,(∀ σ' H',N σ' H'->∃ m',m' < m/\W (i+1) m' σ' H')/\∀ x H',J.yld i H x H'->g x σ H' fun σ2 H2=>tb { D with nx:=N,ct:=N,bk:=D.nx } σ2 H2)
noncomputable def Xn (fp:List Addr) (h:Heap):List (Addr×Obj):=fp.filterMap fun b=>(h.get? b).map fun o=>(b,o)
theorem vB {fp:List Addr}{h:Heap}{b:Addr}{o:Obj}(hb:b∈fp) (e:h.get? b=some o):(b,o)∈Xn fp h:=gw.mpr ⟨b,hb,by rw [e];rfl⟩
theorem QB {fp:List Addr}{h:Heap}{p:Addr×Obj}(hp:p∈Xn fp h):p.1∈fp/\h.get? p.1=some p.2:=by
 obtain ⟨b,hb,e⟩:=gw.mp hp;cases q:h.get? b with
 | none=>rw [q] at e;cases e
 | some o=>
  rw [q] at e;have e':(b,o)=p:=Ϛ e;subst e';exact ⟨hb,q⟩
theorem Inv.pinned {pj:List (Addr×Obj)}{σ:St}{H:Hp}{s:ς}{fp:List Addr}(I:Inv X pj σ H s) (hf:∀ b∈fp,FpOk X pj H b) (ho:∀ b∈fp,∃ o,s.heap.get? b=some o/\∀ v,o.data≠.cell v):Inv X (pj++Xn fp s.heap) σ H s:=
 I.Vd fun p hp=>(ϣ.mp hp).elim (fun z=>I.pin p (ϗ _ z)) fun z=>by obtain ⟨hb,e⟩:=QB z;obtain ⟨f0,f1,f2,_⟩:=hf p.1 hb;obtain ⟨o,e',d⟩:=ho p.1 hb;rw [e] at e';cases e';exact ⟨e,f0,f1,f2,d⟩
theorem Inv.um {pj pl:List (Addr×Obj)}{σ:St}{H:Hp}{s:ς}(I:Inv X (pj++pl) σ H s):Inv X pj σ H s:=I.Vd fun p hp=>I.pin p (ϗ _ (mV _ hp))
theorem zf8 {iter:Expr}{body:List Stmt}{wi:TI}{g:TG}{tb:TS}{pos:Pos}(hp:gY (ώ X.prog X.w) X.A X.env X.xe) (hc:X.calm=true) (hi:PI X tg iter wi) (hg:PG X tg g) (hb:PSs X body tb)
  (hs:∀ x,bF iter X.env x=pure x:=by intro _;rfl):PS X (.For tg iter body [] pos) (tFor wi g tb):=by
 intro pj s σ H D I h;refine wpAny_For (thn (hi pj s σ H _ I h) fun v s1 h1=>thn h1 fun itv s2 h2=>?_) hs;obtain ⟨it,fp,tn,J,H2,e,I2,T,st2,f2,W,⟨m0,w0⟩,turn⟩:=h2;subst e;have stat:∀ {H':Hp},(∀ b∈fp,H' b=none)->∀ b∈fp,FpOk X pj H' b:=fun hn b hb=>⟨hn b hb,(f2 b hb).2⟩
 refine codeAny_forLoop_any (fun n s'=>∃ i σ' H',Inv X pj σ' H' s'/\tn i s'.heap/\(∀ b∈fp,H' b=none)/\W i n σ' H') ?_ m0 ⟨0,σ,H2,I2,st2,fun b hb=>(f2 b hb).1,w0⟩;rintro n s3 ⟨i,σ3,H3,I3,st3,fr3,w3⟩;rcases turn i n σ3 H3 w3 with ⟨stop,qn⟩ | ⟨go,N,hN,step⟩
 ·refine cg hp (thn (T.done X rfl rfl rfl hc i pj s3 σ3 H3 X.xe I3 (stat fr3) st3 stop) fun r s4 ⟨hr,I4⟩=>?_);subst hr;exact lX ⟨σ3,H3,I4,qn⟩
 ·refine cg hp (thn (T.item X rfl rfl rfl hc i pj s3 σ3 H3 X.xe I3 (stat fr3) st3 go) fun r s4 ⟨u,hr,h4⟩=>?_);subst hr;refine cg hp (thn h4 fun _ s5 ⟨x,H5,I5,r5,y5,st5,fr5⟩=>?_);have I5':=I5.pinned (stat fr5) (T.obj _ _ st5);refine cg hp (thn (hg _ s5 σ3 H5 x u _ I5' r5 (step x H5 y5)) fun _ s6 ⟨σ6,H6,I6,q6⟩=>?_);refine cg hp (thn (hb _ s6 σ6 H6 _ I6 q6) fun f s7 q7=>?_);have again:∀ {σ7:St}{H7:Hp},Inv X (pj++Xn fp s5.heap) σ7 H7 s7->N σ7 H7->∃ m,m < n/\∃ i σ' H',Inv X pj σ' H' s7/\tn i s7.heap/\(∀ b∈fp,H' b=none)/\W i m σ' H':=fun {σ7 H7} I7 n7=>by obtain ⟨m',hm,w7⟩:=hN σ7 H7 n7;refine ⟨m',hm,i+1,σ7,H7,I7.um,T.keep _ _ _ st5 fun b hb o e=>(I7.pin (b,o) (ϗ _ (ϗ _ (vB hb e)))).1,fun b hb=>?_,w7⟩;obtain ⟨o,e,d⟩:=T.obj _ _ st5 b hb;exact (I7.pin (b,o) (ϗ _ (ϗ _ (vB hb e)))).2.1
  cases f with
  | next=>obtain ⟨σ7,H7,I7,n7⟩:=q7;exact again I7 n7
  | cont=>obtain ⟨σ7,H7,I7,n7⟩:=q7;exact again I7 n7
  | brk=>obtain ⟨σ7,H7,I7,q7⟩:=q7;exact ⟨σ7,H7,I7.um,q7⟩
  | ret v=>obtain ⟨x7,σ7,H7,I7,r7,q7⟩:=q7;exact ⟨x7,σ7,H7,I7.um,r7,q7⟩
end
abbrev R2:=V->V->Hp->VK->Prop
def OpR (X:Cx) (f:δ->δ->Sem δ) (r:R2):Prop:=
 ∀ (pj:List (Addr×Obj)) (s:ς) (σ:St) (H:Hp) (x y:V) (v u:δ) (Q:VK),Inv X pj σ H s->RelV x v->RelV y u->r x y H Q ->
  Ρ (ώ X.prog X.w) X.A (f v u) (EP X pj σ Q) X.xe s
def UnR (X:Cx) (f:δ->Sem δ) (r:V->Hp->VK->Prop):Prop:=
 ∀ (pj:List (Addr×Obj)) (s:ς) (σ:St) (H:Hp) (x:V) (v:δ) (Q:VK),Inv X pj σ H s->RelV x v->r x H Q ->
  Ρ (ώ X.prog X.w) X.A (f v) (EP X pj σ Q) X.xe s
def yP (X:Cx) (f:δ) (r:List V->Hp->VK->Prop):Prop:=
 ∀ (pj:List (Addr×Obj)) (s:ς) (σ:St) (H:Hp) (xs:List V) (us:List δ) (Q:VK),Inv X pj σ H s->Vals xs us->r xs H Q ->
  Ρ (ώ X.prog X.w) X.A (call f us) (EP X pj σ Q) X.xe s
def tOp (r:R2) (ta tb:TE):TE:=fun σ H Q=>ta σ H fun x H1=>tb σ H1 fun y H2=>r x y H2 Q
def tUn (r:V->Hp->VK->Prop) (ta:TE):TE:=fun σ H Q=>ta σ H fun x H1=>r x H1 Q
def rI (C:Int->Int->Prop) (g:Int->Int->V):R2:=fun x y H Q=>∃ i j,x=.int i/\y=.int j/\C i j/\Q (g i j) H
def rI0 (g:Int->Int->V):R2:=fun x y H Q=>∃ i j,x=.int i/\y=.int j/\Q (g i j) H
def rU (g:Int->V):V->Hp->VK->Prop:=fun x H Q=>∃ i,x=.int i/\Q (g i) H
section
variable {X:Cx}{a b c:Expr}{ta tb tc:TE}{pos:Pos}
theorem binT (ha:PE X a ta) (hb:PE X b tb) {pj:List (Addr×Obj)}{s:ς}{σ:St}{H:Hp}{R:V->V->Hp->Prop}(I:Inv X pj σ H s)
  (h:ta σ H fun x H1=>tb σ H1 fun y H2=>R x y H2) {Q:VSP}{f:δ->δ->Sem δ}
  (hf:∀ v u s2 x y H2,Inv X pj σ H2 s2->RelV x v->RelV y u->R x y H2->Ρ (ώ X.prog X.w) X.A (f v u) Q X.xe s2):
  Ρ (ώ X.prog X.w) X.A (eval a X.env) (fun v s₁=>Ρ (ώ X.prog X.w) X.A (eval b X.env) (fun u s₂=>Ρ (ώ X.prog X.w) X.A (f v u) Q X.xe s₂) X.xe s₁) X.xe s:=by
 refine thn (ha pj s σ H _ I h) fun v s1 ⟨x,H1,I1,r1,q1⟩=>?_
 refine thn (hb pj s1 σ H1 _ I1 q1) fun u s2 ⟨y,H2,I2,r2,q2⟩=>?_
 exact hf v u s2 x y H2 I2 r1 r2 q2
theorem ziY {op:gH}{r:R2}(ho:OpR X (aU op) r) (ha:PE X a ta) (hb:PE X b tb):PE X (.BinOp a op b pos) (tOp r ta tb):=by intro pj s σ H Q I h;exact wpAny_BinOp (binT ha hb I h fun v u s2 x y H2 I2 rx ry q=>ho pj s2 σ H2 x y v u Q I2 rx ry q)
theorem ziW {op:UnaryOp}{r:V->Hp->VK->Prop}(ho:UnR X (unaryOp op) r) (ha:PE X a ta):PE X (.UnaryOp op a pos) (tUn r ta):=by intro pj s σ H Q I h;exact UnaryOp_ (thn (ha pj s σ H _ I h) fun v s1 ⟨x,H1,I1,r1,q1⟩=>ho pj s1 σ H1 x v Q I1 r1 q1)
theorem opI {f:δ->δ->Sem δ}{C:Int->Int->Prop}{g:Int->Int->Int}
  (rule:∀ (i j:Int) (t u:Tok) (s:ς) (Q:VSP) (E:VSP),C i j->Q (.int (g i j) s.toks) { s with toks:=s.toks+1 }->Ρ (ώ X.prog X.w) X.A (f (.int i t) (.int j u)) Q E s):
  OpR X f (rI C fun i j=>.int (g i j)):=by intro pj s σ H x y v u Q I rx ry h;obtain ⟨i,j,rfl,rfl,hc,q⟩:=h;obtain ⟨t,rfl⟩:=rx;obtain ⟨t',rfl⟩:=ry;exact rule i j t t' s _ _ hc ⟨.int (g i j),H,I.tok _,⟨_,rfl⟩,q⟩
theorem opI0 {f:δ->δ->Sem δ}{g:Int->Int->Int}
  (rule:∀ (i j:Int) (t u:Tok) (s:ς) (Q:VSP) (E:VSP),Q (.int (g i j) s.toks) { s with toks:=s.toks+1 }->Ρ (ώ X.prog X.w) X.A (f (.int i t) (.int j u)) Q E s):
  OpR X f (rI0 fun i j=>.int (g i j)):=by intro pj s σ H x y v u Q I rx ry h;obtain ⟨i,j,rfl,rfl,q⟩:=h;obtain ⟨t,rfl⟩:=rx;obtain ⟨t',rfl⟩:=ry;exact rule i j t t' s _ _ ⟨.int (g i j),H,I.tok _,⟨_,rfl⟩,q⟩
theorem opB0 {f:δ->δ->Sem δ}{g:Int->Int->Bool}
  (rule:∀ (i j:Int) (t u:Tok) (s:ς) (Q:VSP) (E:VSP),Q (.bool (g i j)) s->Ρ (ώ X.prog X.w) X.A (f (.int i t) (.int j u)) Q E s):
  OpR X f (rI0 fun i j=>.bl (g i j)):=by intro pj s σ H x y v u Q I rx ry h;obtain ⟨i,j,rfl,rfl,q⟩:=h;obtain ⟨t,rfl⟩:=rx;obtain ⟨t',rfl⟩:=ry;exact rule i j t t' s _ _ ⟨.bl (g i j),H,I,rfl,q⟩
def CPow (i j:Int):Prop:=0<=j/\j<=1000000/\i.natAbs < 2 ^ 64
def CMul (i j:Int):Prop:=(-(2 ^ 64) < i/\i < 2 ^ 64)\/(-(2 ^ 64) < j/\j < 2 ^ 64)
theorem CMul.ok {i j:Int}(h:CMul i j):IntMulOk i j:=by
 rcases h with ⟨h1,h2⟩ | ⟨h1,h2⟩
 ·exact .of_left (intBits_le_64 h1 h2)
 ·exact .of_right (intBits_le_64 h1 h2)
theorem zgy:OpR X (aU .Add) (rI0 fun i j=>.int (i+j)):=opI0 fun _ _ _ _ _ _ _ q=>add_int q
theorem zgo:OpR X (aU .Sub) (rI0 fun i j=>.int (i - j)):=opI0 fun _ _ _ _ _ _ _ q=>sub_int q
theorem zgs:OpR X (aU .Mult) (rI CMul fun i j=>.int (i*j)):=opI fun _ _ _ _ _ _ _ hc q=>mul_int q hc.ok
theorem zgt:OpR X (aU .Mod) (rI (fun _ j=>0 < j) fun i j=>.int (i % j)):=opI fun i j _ _ _ _ _ hc q=>by have h1:(0:Int) < j:=hc;exact mod_int' (by lia) (by rw [Int.fmod_eq_emod_of_nonneg i (by lia)];exact q)
theorem zgq:OpR X (aU .Pow) (rI CPow fun i j=>.int (i ^ j.toNat)):=opI fun _ _ _ _ _ _ _ hc q=>pow_int_small hc.1 hc.2.1 hc.2.2 q
theorem unI {f:δ->Sem δ}{g:Int->Int}
  (rule:∀ (i:Int) (t:Tok) (s:ς) (Q:VSP) (E:VSP),Q (.int (g i) s.toks) { s with toks:=s.toks+1 }->Ρ (ώ X.prog X.w) X.A (f (.int i t)) Q E s):
  UnR X f (rU fun i=>.int (g i)):=by intro pj s σ H x v Q I rx h;obtain ⟨i,rfl,q⟩:=h;obtain ⟨t,rfl⟩:=rx;exact rule i t s _ _ ⟨.int (g i),H,I.tok _,⟨_,rfl⟩,q⟩
theorem ze5:UnR X (unaryOp .USub) (rU fun i=>.int (-i)):=unI fun _ _ _ _ _ q=>neg_int q
theorem Wb {pj:List (Addr×Obj)}{σ:St}{H:Hp}{s:ς}{Q:VK}{k k':Bool}(I:Inv X pj σ H s) (q:Q (.bl k) H) (e:k=k'):EP X pj σ Q (.bool k') s:=by subst e;exact ⟨.bl k,H,I,rfl,q⟩
theorem zi1:OpR X (ϋ .Lt) (rI0 fun i j=>.bl (decide (i < j))):=opB0 fun _ _ _ _ _ _ _ q=>lt_int q
theorem zi2:OpR X (ϋ .LtE) (rI0 fun i j=>.bl (decide (i<=j))):=opB0 fun _ _ _ _ _ _ _ q=>le_int q
theorem zi3:OpR X (ϋ .Gt) (rI0 fun i j=>.bl (decide (j < i))):=opB0 fun _ _ _ _ _ _ _ q=>gt_int q
theorem zi4:OpR X (ϋ .GtE) (rI0 fun i j=>.bl (decide (j<=i))):=opB0 fun _ _ _ _ _ _ _ q=>ge_int q
theorem Qz:OpR X (ϋ .In) (fun x y H Q=>∃ i j,x=.str i/\y=.str j/\Q (.bl (!(aK j i 0 j.length 1).isEmpty)) H):=by intro pj s σ H x y v u Q I rx ry h;obtain ⟨i,j,rfl,rfl,q⟩:=h;obtain ⟨t,rfl⟩:=rx;obtain ⟨t',rfl⟩:=ry;exact in_str (Wb I q rfl)
theorem zgu:OpR X (ϋ .Is) (fun x y H Q=>y=.non/\Q (.bl (decide (x=.non))) H):=by
 intro pj s σ H x y v u Q I rx ry h;obtain ⟨rfl,q⟩:=h;cases ry;refine is_none_gen (Wb I q ?_);cases x <;> first
  | (cases rx;rfl)
  | (obtain ⟨t,rfl⟩:=rx;rfl)
theorem zdH:OpR X (ϋ .IsNot) (fun x y H Q=>y=.non/\Q (.bl (!decide (x=.non))) H):=by
 intro pj s σ H x y v u Q I rx ry h;obtain ⟨rfl,q⟩:=h;cases ry;refine isnot_none_gen (Wb I q ?_);cases x <;> first
  | (cases rx;rfl)
  | (obtain ⟨t,rfl⟩:=rx;rfl)
theorem OpR.or {f:δ->δ->Sem δ}{r r':R2}(h:OpR X f r) (h':OpR X f r'):OpR X f (fun x y H Q=>r x y H Q\/r' x y H Q):=by
 intro pj s σ H x y v u Q I rx ry q;rcases q with q | q
 ·exact h pj s σ H x y v u Q I rx ry q
 ·exact h' pj s σ H x y v u Q I rx ry q
theorem zdB {op:fP}{r:R2}(ho:OpR X (ϋ op) r) (ha:PE X a ta) (hb:PE X b tb) (hm:iC op b=false):PE X (.Compare a [op] [b] pos) (tOp r ta tb):=by intro pj s σ H Q I h;exact wpAny_Compare1 (binT ha hb I h fun v u s2 x y H2 I2 rx ry q=>ho pj s2 σ H2 x y v u Q I2 rx ry q) hm
def zfn (t:TE):TT:=fun σ H Q=>t σ H fun x H'=>∃ k,x=.bl k/\Q k H'
theorem zdr {op:fP}{r:R2}(ho:OpR X (ϋ op) r) (ha:PE X a ta) (hb:PE X b tb) (hm:iC op b=false):PT X (.Compare a [op] [b] pos) (zfn (tOp r ta tb)):=by
 intro pj s σ H Q I h
 refine wpAny_isTrue_Compare1 (thn (ha pj s σ H _ I h) fun v s1 ⟨x,H1,I1,r1,q1⟩=>thn (hb pj s1 σ H1 _ I1 q1) fun u s2 ⟨y,H2,I2,r2,q2⟩=>
  thn (ho pj s2 σ H2 x y v u _ I2 r1 r2 q2) fun c s3 ⟨z,H3,I3,r3,k,e,q3⟩=>?_) hm
 subst e;cases r3;exact aG ⟨H3,I3,q3⟩
def KY (r r':R2) (ta tb tc:TE):TE:=fun σ H Q=>ta σ H fun x H1=>tb σ H1 fun y H2=>r x y H2 fun z H3=>∃ k,z=.bl k /\
 (if k=true then tc σ H3 fun w' H4=>r' y w' H4 Q else Q (.bl false) H3)
theorem zbs {op op':fP}{r r':R2}(ho:OpR X (ϋ op) r) (ho':OpR X (ϋ op') r') (ha:PE X a ta) (hb:PE X b tb) (hc:PE X c tc)
  (hm:lastMarks [op,op'] [b,c]=false:=by with_unfolding_all rfl):PE X (.Compare a [op,op'] [b,c] pos) (KY r r' ta tb tc):=by
 intro pj s σ H Q I h
 refine Compare_chain (thn (ha pj s σ H _ I h) fun v s1 ⟨x,H1,I1,r1,q1⟩=>chain_link (thn (hb pj s1 σ H1 _ I1 q1) fun u s2 ⟨y,H2,I2,r2,q2⟩=>
  thn (ho pj s2 σ H2 x y v u _ I2 r1 r2 q2) fun d s3 ⟨z,H3,I3,r3,k,e,q3⟩=>?_)) hm
 subst e;cases r3;refine aG ?_;cases k with
 | false=>exact ite_ff ⟨.bl false,H3,I3,rfl,q3⟩
 | true=>exact ite_tt (chain_last (thn (hc pj s3 σ H3 _ I3 q3) fun w' s4 ⟨z',H4,I4,r4,q4⟩=>ho' pj s4 σ H4 y z' u w' Q I4 r2 r4 q4))
theorem zbe {op op':fP}{r r':R2}(ho:OpR X (ϋ op) r) (ho':OpR X (ϋ op') r') (ha:PE X a ta) (hb:PE X b tb) (hc:PE X c tc)
  (hm:lastMarks [op,op'] [b,c]=false:=by with_unfolding_all rfl):PT X (.Compare a [op,op'] [b,c] pos) (zfn (KY r r' ta tb tc)):=by
 intro pj s σ H Q I h
 refine isTrue_chain (thn (ha pj s σ H _ I h) fun v s1 ⟨x,H1,I1,r1,q1⟩=>test_link (thn (hb pj s1 σ H1 _ I1 q1) fun u s2 ⟨y,H2,I2,r2,q2⟩=>
  thn (ho pj s2 σ H2 x y v u _ I2 r1 r2 q2) fun d s3 ⟨z,H3,I3,r3,k,e,q3⟩=>?_)) hm
 subst e;cases r3;refine aG ?_;cases k with
 | false=>
  obtain ⟨k',e',q'⟩:=q3;cases e';exact ite_ff ⟨H3,I3,q'⟩
 | true=>
  refine ite_tt (test_last (thn (hc pj s3 σ H3 _ I3 q3) fun w' s4 ⟨z',H4,I4,r4,q4⟩=>thn (ho' pj s4 σ H4 y z' u w' _ I4 r2 r4 q4) fun d' s5 ⟨z2,H5,I5,r5,k2,e2,q5⟩=>?_));subst e2;cases r5;exact aG ⟨H5,I5,q5⟩
theorem Zw:(sizeLine:Nat) < 2 ^ 63:=by rw [bD];decide
theorem JM:OpR X (aU .Add) (fun x y H Q=>∃ i j,x=.str i/\y=.str j/\i.length+j.length<=sizeLine/\Q (.str (i++j)) H):=by intro pj s σ H x y v u Q I rx ry h;obtain ⟨i,j,rfl,rfl,hz,q⟩:=h;obtain ⟨t,rfl⟩:=rx;obtain ⟨t',rfl⟩:=ry;exact add_str (fun t' tk=>⟨.str (i++j),H,I.tok _,⟨_,rfl⟩,q⟩) hz
theorem vals1 {x:V}{us:List δ}(r:Vals [x] us):∃ u,us=[u]/\RelV x u:=by
 cases r with
 | cons r1 r2=>cases r2;exact ⟨_,rfl,r1⟩
theorem vals2 {x y:V}{us:List δ}(r:Vals [x,y] us):∃ u w',us=[u,w']/\RelV x u/\RelV y w':=by
 cases r with
 | cons r1 r2=>
  cases r2 with
  | cons r3 r4=>cases r4;exact ⟨_,_,rfl,r1,r3⟩
theorem zbZ:yP X (.builtin "abs") (fun xs H Q=>∃ i,xs=[.int i]/\Q (.int (if i < 0 then -i else i)) H):=by intro pj s σ H xs us Q I r h;obtain ⟨i,rfl,q⟩:=h;obtain ⟨u,rfl,t,rfl⟩:=vals1 r;exact call_abs_int fun u tk=>⟨.int (if i < 0 then -i else i),H,I.tok _,⟨_,rfl⟩,q⟩
theorem zaK (hc:X.calm=true):yP X (.builtin "max") (fun xs H Q=>∃ i j,xs=[.int i,.int j]/\Q (.int (if j > i then j else i)) H):=by
 intro pj s σ H xs us Q I r h;obtain ⟨i,j,rfl,q⟩:=h;obtain ⟨u,w',rfl,⟨t,rfl⟩,⟨t',rfl⟩⟩:=vals2 r;refine max_two_ints (I.ok.hd hc) fun h' tk k=>⟨_,H,I.kept k,?_,q⟩
 by_cases hj:j > i
 ·rw [if_pos hj,if_pos hj];exact ⟨_,rfl⟩
 ·rw [if_neg hj,if_neg hj];exact ⟨_,rfl⟩
theorem zaJ (hc:X.calm=true):yP X (.builtin "min") (fun xs H Q=>∃ i j,xs=[.int i,.int j]/\Q (.int (if j < i then j else i)) H):=by
 intro pj s σ H xs us Q I r h;obtain ⟨i,j,rfl,q⟩:=h;obtain ⟨u,w',rfl,⟨t,rfl⟩,⟨t',rfl⟩⟩:=vals2 r;refine min_two_ints (I.ok.hd hc) fun h' tk k=>⟨_,H,I.kept k,?_,q⟩
 by_cases hj:j < i
 ·rw [if_pos hj,if_pos hj];exact ⟨_,rfl⟩
 ·rw [if_neg hj,if_neg hj];exact ⟨_,rfl⟩
theorem Wn:yP X (.type "int") (fun xs H Q=>(∃ i,xs=[.int i]/\Q (.int i) H)\/∃ k,xs=[.bl k]/\Q (.int (if k then 1 else 0)) H):=by
 intro pj s σ H xs us Q I r h;rcases h with ⟨i,rfl,q⟩ | ⟨k,rfl,q⟩
 ·obtain ⟨u,rfl,t,rfl⟩:=vals1 r;exact call_int_int ⟨.int i,H,I,⟨_,rfl⟩,q⟩
 ·obtain ⟨u,rfl,r1⟩:=vals1 r;cases r1;exact call_int_bool ⟨.int (if k then 1 else 0),H,I.tok _,⟨_,rfl⟩,q⟩
end
structure ObjM (h:Heap) (x dx C:Addr) (mA:Str->Option δ):Prop where
 obj:h.get? x=some (W.instObj C dx)
 ns:h.Ns1 dx mA
 ne:dx≠x
set_option tactic.hygienic true in
theorem QQ {h:Heap}{dx:Addr}{mA:Str->Option δ}(n:h.Ns1 dx mA):∃ od,h.get? dx=some od/\∀ name,W.lookIn name od=some (mA name):=by
 obtain ⟨o,es,ep,ho,hd,hk,_,hm⟩:=n;refine ⟨o,ho,fun name=>?_⟩;have e:=hm name;unfold nsFind findBy at e;rw [<- Array.find?_toList] at e;unfold W.lookIn;rw [hd];dsimp only;split
 ·rename_i y q
  rw [q] at e;exact congrArg some e
 ·rename_i q
  rw [q] at e;have a:es.toList.any (·.refKey)=false:=by rw [List.any_eq_false];intro y hy;obtain ⟨z,t,hkey⟩:=hk y (Array.mem_toList_iff.mp hy);simp [dD.refKey,hkey]
  have a':¬ es.toList.any (·.refKey)=true:=by rw [a];exact Κ
  rw [if_neg a'];exact congrArg some e
theorem ObjM.look {h:Heap}{x dx C:Addr}{mA:Str->Option δ}(I:ObjM h x dx C mA):∃ od,W.InstAt h x (W.instObj C dx) C (some od)/\∀ name,W.lookIn name od=some (mA name):=
 let ⟨od,ho,hl⟩:=QQ I.ns
 ⟨od,⟨I.obj,rfl,rfl,ho⟩,hl⟩
theorem RelO.some_of {v:V}{o:Option δ}(r:RelO (some v) o):∃ u,o=some u/\RelV v u:=by
 cases o with
 | none=>exact (show False from r).elim
 | some u=>exact ⟨u,rfl,r⟩
section
variable {P:Λ}{w:ϓ}{H H':Hp}{h h':Heap}{a C dx:Addr}{fs fs':List (Str×V)}
theorem zef (hok:HOk P w H h) (e:H a=some (.ins C dx fs)):∃ mA,ObjM h a dx C mA/\(∀ f,RelO (fs.lookup f) (mA f))/\PySem.Within mA (fs.map (·.1))/\fs.length<=1000/\H dx=some (.own a):=by
 obtain ⟨d,z,ne,ob,mA,n,r,q⟩:=(show yo P w H h a (.ins C dx fs) from hok a _ e)
 exact ⟨mA,⟨ob,n,ne⟩,r,q,z,d⟩
end
structure Cls (K:W.Frag) (C:Addr):Prop where
 pg:W.plainGet K C Str.empty=true
 hd:W.hasDictIn K C=true
 po:W.plainOver K C=true
 sa:W.findIn K (.ref C) "__setattr__"=some (some (.builtin "object.__setattr__"))
theorem Cls.get {K:W.Frag}{C:Addr}(c:Cls K C) (f:Str):W.plainGet K C f=true:=c.pg
def zhV (K:W.Frag) (C:Addr) (f:Str):Prop:=W.findIn K (.ref C) f=some none
structure Meth (K:W.Frag) (C:Addr) (m:Str) (f:Addr):Prop where
 at_:W.findIn K (.ref C) m=some (some (.ref f))
 fn:W.isFn K (.ref f)=true
 kp:W.keepIn K (.ref f)=true
section
variable {X:Cx}{pj:List (Addr×Obj)}{σ:St}{H:Hp}{s:ς}{A:ϙ}{E:VSP}{Q:VSP}{c:δ}{b:Bool}
inductive TyOf (K:W.Frag) (H:Hp):V->δ->Prop where
 | non:TyOf K H .non (.type "NoneType")
 | bl (x:Bool):TyOf K H (.bl x) (.type "bool")
 | int (i:Int):TyOf K H (.int i) (.type "int")
 | str (x:Str):TyOf K H (.str x) (.type "str")
 | flt (x:UInt64):TyOf K H (.flt x) (.type "float")
 | lst {a:Addr}{xs:List V}(e:H a=some (.lst xs)):TyOf K H (.ref a) (.type "list")
 | frz {a:Addr}{o:Obj}{xs:List V}(e:H a=some (.frz o (.lst xs))):TyOf K H (.ref a) (.type "list")
 | tup {a:Addr}{xs:List V}(e:H a=some (.tup xs)):TyOf K H (.ref a) (.type "tuple")
 | dK {a:Addr}{kvs:List (Key×V)}(e:H a=some (.dK kvs)):TyOf K H (.ref a) (.type "dict")
 | dT {a:Addr}{kvs:List (List Key×V)}(e:H a=some (.dT kvs)):TyOf K H (.ref a) (.type "dict")
 | ins {a C dx:Addr}{fs:List (Str×V)}(e:H a=some (.ins C dx fs)) (cl:Cls K C) (ha:W.findIn K (.ref C) "__class__"=some (some (.builtin "object.__class__")))
   (hn:W.specialIn K (.builtin "object.__class__") "__get__"=some (some (.builtin "getset_descriptor.__get__"))) (htk:W.takesIn K (.builtin "object.__class__")=some true)
   (hm:W.mroIn K C (.type "object")=some true):TyOf K H (.ref a) (.ref C)
theorem zaf {x:V}{u t:δ}(I:Inv X pj σ H s) (rx:RelV x u) (ty:TyOf X.K H x t) (e:W.kitOne X.K t c=some b) (h:∀ tk,Q (.bool b) { s with toks:=tk }):
  Ρ (ώ X.prog X.w) A (call (.builtin "isinstance") [u,c]) Q E s:=by
 cases ty with
 | non=>cases (show u=Δ from rx);exact W.kia_one W.kitx_none I.kIn ϱ e (fun z=>nomatch z) h
 | bl y=>cases (show u=ϕ y from rx);exact W.kia_one W.kitx_bool I.kIn ϱ e (fun z=>nomatch z) h
 | int i=>obtain ⟨t,q⟩:=(show ∃ t,u=ϒ i t from rx);cases q;exact W.kia_one W.kitx_int I.kIn ϱ e (fun z=>nomatch z) h
 | str y=>obtain ⟨t,q⟩:=(show ∃ t,u=aQ y t from rx);cases q;exact W.kia_one W.kitx_str I.kIn ϱ e (fun z=>nomatch z) h
 | flt y=>obtain ⟨t,q⟩:=(show ∃ t,u=δ.float y t from rx);cases q;exact W.kia_one W.kitx_float I.kIn ϱ e (fun z=>nomatch z) h
 | @lst a xs ea=>
  cases (show u=Β a from rx);obtain ⟨_,_,n,_,h1⟩:=(show yo X.prog X.w H s.heap a (.lst xs) from I.hok a _ ea)
  exact W.kia_one W.kitx_list I.kIn ⟨_,h1,rfl⟩ e (fun z=>nomatch z) h
 | @frz a ob xs ea=>
  cases (show u=Β a from rx);obtain ⟨_,_,_,n,_,h1⟩:=(show yo X.prog X.w H s.heap a (.frz ob (.lst xs)) from I.hok a _ ea)
  exact W.kia_one W.kitx_list I.kIn ⟨_,h1,rfl⟩ e (fun z=>nomatch z) h
 | @tup a xs ea=>
  cases (show u=Β a from rx);obtain ⟨_,_,_,p⟩:=(show yo X.prog X.w H s.heap a (.tup xs) from I.hok a _ ea)
  obtain ⟨o,h1,h2,_⟩:=p;exact W.kia_one W.kitx_tuple I.kIn ⟨o,h1,h2⟩ e (fun z=>nomatch z) h
 | @dK a kvs ea=>
  cases (show u=Β a from rx);obtain ⟨_,_,vs,_,p⟩:=(show yo X.prog X.w H s.heap a (.dK kvs) from I.hok a _ ea)
  obtain ⟨o,es,ep,h1,h2,_⟩:=p;exact W.kia_one W.kitx_dict I.kIn ⟨o,h1,h2.1⟩ e (fun z=>nomatch z) h
 | @dT a kvs ea=>
  cases (show u=Β a from rx);obtain ⟨_,_,xs,_,o,es,ep,h1,h2,_⟩:=(show yo X.prog X.w H s.heap a (.dT kvs) from I.hok a _ ea)
  exact W.kia_one W.kitx_dict I.kIn ⟨o,h1,h2.1⟩ e (fun z=>nomatch z) h
 | @ins a C dx fs ea cl ha hn htk hm=>
  cases (show u=Β a from rx);obtain ⟨mA,O,_⟩:=zef I.hok ea;obtain ⟨od,J,_⟩:=O.look;exact W.kia_one (W.kitx_own (cl.get _) cl.hd ha hn htk hm) I.kIn J e (fun z=>nomatch z) h
end
structure Room (k:Nat) (A:ϙ):Prop where
 hd:A.handled=none
 gd:A.guards=some []
 dp:A.depth+3*k+5 < recursionLimit
 un:A.units+16*k+200 < ϵ
theorem Room.mono {j k:Nat}{A:ϙ}(r:Room k A) (h:j<=k):Room j A:=⟨r.hd,r.gd,by have:=r.dp;lia,by have:=r.un;lia⟩
theorem Room.deeper {k:Nat}{A:ϙ}(r:Room (k+1) A) (env:Env):Room k (A.deeper env):=
 ⟨r.hd,r.gd,by have:=r.dp;show A.depth+1+3*k+5 < _;lia,by have:=r.un;show A.units+3+16*k+200 < _;lia⟩
theorem Room.in1 {k:Nat}{A:ϙ}(r:Room (k+1) A):Room k A.in1:=
 ⟨r.hd,r.gd,by have:=r.dp;show A.depth+3*k+5 < _;lia,by have:=r.un;show A.units+1+16*k+200 < _;lia⟩
theorem Room.depth {k:Nat}{A:ϙ}(r:Room k A):A.depth < recursionLimit:=by have:=r.dp;lia
theorem Room.units {k:Nat}{A:ϙ}(r:Room k A):A.units+64 < ϵ:=by have:=r.un;lia
def tNil:TA:=fun _ H Q=>Q [] H
def zfr (ta:TE) (tr:TA):TA:=fun σ H Q=>ta σ H fun x H1=>tr σ H1 fun xs H2=>Q (x::xs) H2
section
variable {X:Cx}{e:Expr}{es:List Expr}{te:TE}{t:TA}{pos:Pos}
theorem qg:PA X [] tNil:=fun _ _ _ _ H Q I h=>gM ⟨[],H,I,.nil,h⟩
theorem wU (ha:PE X e te) (hr:PA X es t) (hs:ϧ (e::es) X.env=(false,eval e X.env)::ϧ es X.env:=by rfl):PA X (e::es) (zfr te t):=by
 intro pos pj s σ H Q I h;rw [hs];show Ρ _ _ (spliced ((false,eval e X.env)::dB pos (ϧ es X.env))) _ _ s
 refine gj (thn (ha pj s σ H _ I h) fun u s1 ⟨x,H1,I1,r1,q1⟩=>?_);exact thn (hr pos pj s1 σ H1 _ I1 q1) fun us s2 ⟨xs,H2,I2,r2,q2⟩=>⟨x::xs,H2,I2,.cons r1 r2,q2⟩
def tTup (t:TA):TE:=fun σ H Q=>t σ H fun xs H1=>xs.length<=sizeLine/\∀ p,H1 p=none->Q (.ref p) (upd H1 p (.tup xs))
def tLst (t:TA):TE:=fun σ H Q=>t σ H fun xs H1=>xs.length<=sizeLine/\∀ p,H1 p=none->Q (.ref p) (upd H1 p (.lst xs))
theorem zge {x1} (h:PA X es t):PE X (.Tuple es x1 pos) (tTup t):=by intro pj s σ H Q I hq;refine wpAny_Tuple_spliced (thn (h pos pj s σ H _ I hq) fun us s1 ⟨xs,H1,I1,r,z,q⟩=>⟨by rw [<- r.length];exact z,?_⟩);have hf:H1 s1.heap.objs.size=none:=I1.hok.fresh (Ζ _);refine ⟨.ref s1.heap.objs.size,upd H1 s1.heap.objs.size (.tup xs),I1.laid (t':=s1.toks) (fun b u e=>μ _ e) (Ζ _) ?_,rfl,q _ hf⟩;exact ⟨z,us,r,⟨_,Μ _ rfl,rfl,_,rfl⟩⟩
theorem zgi (h:PA X es t):PE X (.List es pos) (tLst t):=by intro pj s σ H Q I hq;refine wpAny_List_spliced (thn (h pos pj s σ H _ I hq) fun us s1 ⟨xs,H1,I1,r,z,q⟩=>⟨by rw [<- r.length];exact z,?_⟩);have hf:H1 s1.heap.objs.size=none:=I1.hok.fresh (Ζ _);refine ⟨.ref s1.heap.objs.size,upd H1 s1.heap.objs.size (.lst xs),I1.laid (t':=s1.toks) (fun b u e=>μ _ e) (Ζ _) ?_,rfl,q _ hf⟩;exact ⟨z,us,0,r,Μ _ rfl⟩
end
abbrev Sp:=List V->Hp->VK->XK->Prop
abbrev CXT:=List Env->Hp->ς->XK->δ->ς->Prop
structure Env0 (P:Λ) (w:ϓ) (K:W.Frag) (mg:Str->Option δ) (base:Heap) (A:ϙ) (outer:List Env) (s:ς) (H:Hp):Prop where
 frames:A.frames=some outer
 mod:Mod K mg base
 bs:∀ b o,base.get? b=some o->s.heap.get? b=some o/\H b=none
 bsz:base.objs.size<=s.heap.objs.size
 funs:s.heap.FunFrames base outer
 frf:∀ b∈frs outer,H b=none
 hok:HOk P w H s.heap
 bare:fB s.gens
def CE (outer:List Env) (P:Λ) (w:ϓ) (H:Hp) (s:ς) (Q:VK) (u:δ) (s':ς):Prop:=
 ∃ v H',s'.os=s.os/\fB s'.gens/\Un (frs outer) [] H H' s.heap s'.heap/\HOk P w H' s'.heap/\RelV v u/\Q v H'
def CR (CX:CXT) (outer:List Env) (P:Λ) (w:ϓ) (H:Hp) (s:ς) (Q:VK) (E:XK) (r:Result) (s':ς):Prop:=
 match r with
 | .ok (.ret u)=>CE outer P w H s Q u s'
 | .ok _=>False
 | .error e=>CX outer H s E e s'
structure FnOk (P:Λ) (w:ϓ) (K:W.Frag) (mg:Str->Option δ) (base:Heap) (CX:CXT) (k:Nat) (f:Addr) (fd:aV) (ps:List Str) (sp:Sp):Prop where
 len:∀ vs H Q E,sp vs H Q E->vs.length=ps.length
 run:∀ (A:ϙ) (outer:List Env) (s:ς) (H:Hp) (args:Args) (us:List δ) (vs:List V) (Q:VK) (E:XK),Room k A->Env0 P w K mg base A outer s H->BindsTo s fd args (ps.zip us)->Vals vs us->sp vs H Q E ->
  iZ (ώ P w) A (.call (.ref f) args) (CR CX outer P w H s Q E) s
theorem FnOk.imp {P:Λ}{w:ϓ}{K:W.Frag}{mg:Str->Option δ}{base:Heap}{CX:CXT}{k:Nat}{f:Addr}{fd:aV}{ps:List Str}{sp sp':Sp}(F:FnOk P w K mg base CX k f fd ps sp)
  (h:∀ vs H Q E,sp' vs H Q E->sp vs H Q E):FnOk P w K mg base CX k f fd ps sp':=
 ⟨fun vs H Q E q=>F.len vs H Q E (h _ _ _ _ q),fun A outer s H args us vs Q E hr he hb hv hs=>F.run A outer s H args us vs Q E hr he hb hv (h _ _ _ _ hs)⟩
theorem Env0.in1 {P:Λ}{w:ϓ}{K:W.Frag}{mg:Str->Option δ}{base:Heap}{A:ϙ}{outer:List Env}{s:ς}{H:Hp}(e:Env0 P w K mg base A outer s H):
  Env0 P w K mg base A.in1 outer s H:=⟨e.frames,e.mod,e.bs,e.bsz,e.funs,e.frf,e.hok,e.bare⟩
section
variable {X:Cx}{pj:List (Addr×Obj)}{σ:St}{H:Hp}{s s':ς}
theorem Inv.env0 (I:Inv X pj σ H s):Env0 X.prog X.w X.K X.mg X.base X.A X.stack s H:=
 ⟨I.ok.frames,I.ok.mod,I.bs,ϡ I.ok.bsz I.sz,I.stack,I.Z3,I.hok,I.bare⟩
theorem Inv.after {Q:VK}{u:δ}(I:Inv X pj σ H s) (h:CE X.stack X.prog X.w H s Q u s'):EP X pj σ Q u s':=by obtain ⟨v,H',os,bare,un,hok,r,q⟩:=h;obtain ⟨hh,g,d,t,os'⟩:=s';obtain rfl:os'=s.os:=os;exact ⟨v,H',I.call (h':=hh) (g':=g) (d':=d) (t':=t) (ch:=[]) un hok bare (fun b z=>absurd z (by simp)),r,q⟩
end
def zh7 (sp:Sp) (dvs:List V) (E:XK) (t:TA):TE:=fun σ H Q=>t σ H fun vs H1=>sp (vs++dvs) H1 Q E
def Binds (K:W.Frag) (fd:aV) (ps:List Str) (ds:List δ):Prop:=
 ∀ (s:ς) (us:List δ),K.In s.heap->(us++ds).length=ps.length->BindsTo s fd ⟨us,[]⟩ (ps.zip (us++ds))
theorem Binds.all {K:W.Frag}{fd:aV}{ps:List Str}(h:∀ us:List δ,us.length=ps.length->gD fd ⟨us,[]⟩=pure (ps.zip us)):Binds K fd ps []:=fun s us _ hl=>by rw [Ε] at hl ⊢;exact .of_eq (h us hl)
def zaW (CX:CXT) (X:Cx) (E:XK):Prop:=∀ (pj:List (Addr×Obj)) (σ:St) (H:Hp) (s:ς) (e:δ) (s':ς),Inv X pj σ H s->CX X.stack H s E e s'->X.xe e s'
section
variable {X:Cx}{CX:CXT}{k:Nat}{f C:Addr}{fd:aV}{ps:List Str}{sp:Sp}{dvs:List V}{ds:List δ}{E:XK}{x m:Str}{p pos apos:Pos}{e o:Expr}{es:List Expr}{ta:TE}{t:TA}
theorem zfW {pj:List (Addr×Obj)}{σ:St}{H:Hp}{s:ς}{Q:VK}{us:List δ}{vs:List V}(F:FnOk X.prog X.w X.K X.mg X.base CX k f fd ps sp) (hr:Room k X.A) (hb:Binds X.K fd ps ds) (hd:Vals dvs ds) (hx:zaW CX X E)
  (I:Inv X pj σ H s) (r:Vals vs us) (h:sp (vs++dvs) H Q E):Ρ (ώ X.prog X.w) X.A (call (.ref f) us) (EP X pj σ Q) X.xe s:=by
 have r2:Vals (vs++dvs) (us++ds):=r.append hd;have hl:(us++ds).length=ps.length:=by rw [<- r2.length];exact F.len _ _ _ _ h
 refine wpAny_call (iY (F.run X.A X.stack s H ⟨us,[]⟩ (us++ds) (vs++dvs) Q E hr I.env0 (hb s us I.kIn hl) r2 h) fun r s' hq=>?_);cases r with
 | error e=>exact hx pj σ H s e s' I hq
 | ok fl=>
  cases fl with
  | ret u=>exact I.after hq
  | next=>exact ϰ hq
  | brk=>exact ϰ hq
  | cont=>exact ϰ hq
theorem zdC (F:FnOk X.prog X.w X.K X.mg X.base CX k f fd ps sp) (hr:Room k X.A) (hg:Gl X x) (hm:X.mg x=some (.ref f)) (hk:W.keepIn X.K (.ref f)=true) (hb:Binds X.K fd ps ds) (hd:Vals dvs ds) (hx:zaW CX X E)
  (ha:PA X (e::es) t) (hdb:(x==("__debug__":Str))=false:=by decide) (he:ϧ (e::es) X.env=(false,eval e X.env)::ϧ es X.env:=by rfl) (hpl:(dB pos (ϧ es X.env)).any (·.1)=false:=by rfl):
  PE X (.Call (.Name x p) (e::es) [] pos) (zh7 sp dvs E t):=by intro pj s σ H Q I h;refine bV (QS I hg hm ?_ hdb);refine W.callWith_K (h₀:=X.base) I.ok.mod.kin hk (thn (ha pos pj s σ H _ I h) fun us s1 ⟨vs,H1,I1,r,q⟩=>⟨I1.kIn,?_⟩) he hpl;exact zfW F hr hb hd hx I1 r q
structure Mk (K:W.Frag) (C f:Addr):Prop where
 makes:W.makesIn K C=true
 init:W.findIn K (.ref C) "__init__"=some (some (.ref f))
 fn:W.isFn K (.ref f)=true
 kp:W.keepIn K (.ref C)=true
end
def PK (X:Cx) (kws:List cW) (t:TA):Prop:=
 ∀ (pos:Pos) (pj:List (Addr×Obj)) (s:ς) (σ:St) (H:Hp) (Q:List V->Hp->Prop),Inv X pj σ H s->t σ H Q->Ρ (ώ X.prog X.w) X.A (evalAll ((backToKw pos (gB kws X.env)).map (·.2))) (AP X pj σ Q) X.xe s
section
variable {X:Cx}{CX:CXT}{k:Nat}{f C:Addr}{fd:aV}{ps ks:List Str}{sp:Sp}{E:XK}{x m:Str}{p pos apos kpos:Pos}{e o:Expr}{es:List Expr}{kws:List cW}{te ta:TE}{t tk:TA}{nm:Option Str}
theorem zgc:PK X [] tNil:=fun _ _ _ _ H Q I h=>wpAny_evalAll_nil ⟨[],H,I,.nil,h⟩
theorem zdy (ha:PE X e te) (hr:PK X kws t):PK X (⟨nm,e,kpos⟩::kws) (zfr te t):=by
 intro pos pj s σ H Q I h;show Ρ _ _ (evalAll ((do let v <- eval e X.env;standAt pos;pure v)::(backToKw pos (gB kws X.env)).map (·.2))) _ _ s
 refine wpAny_evalAll_cons (ζ (thn (ha pj s σ H _ I h) fun u s1 ⟨x,H1,I1,r1,q1⟩=>ζ (iz (π ?_))));exact thn (hr pos pj s1 σ H1 _ I1 q1) fun us s2 ⟨xs,H2,I2,r2,q2⟩=>⟨x::xs,H2,I2,.cons r1 r2,q2⟩
structure zhW (K:W.Frag) (fd:aV) (ps ks:List Str) (g:List δ->List δ->List δ) (gV:List V->List V->List V):Prop where
 to:∀ (s:ς) (us ws:List δ),K.In s.heap->(g us ws).length=ps.length->BindsTo s fd ⟨us,ks.zip ws⟩ (ps.zip (g us ws))
 rel:∀ {vs:List V}{us:List δ}{zs:List V}{ws:List δ},Vals vs us->Vals zs ws->Vals (gV vs zs) (g us ws)
variable {g:List δ->List δ->List δ}{gV:List V->List V->List V}
end
structure YG (N P:List Str) (sc:aH):Prop where
 kind:sc.kind=.function
 co:sc.isCoroutine=false
 gen:sc.isGenerator=false
 nd:N.Nodup
 pre:N.take P.length=P
 par:∀ x∈P,sc.names.lookup x=some .local\/sc.names.lookup x=some .cell
 nofree:∀ y∈sc.names,y.2≠.free
theorem Wv {kindOf:Str->Option Ϟ}{x:Str}:∀ {binds:List (Str×δ)}{m:Str->Option δ},(∀ v,(x,v) ∉ binds)->bindL kindOf binds m x=m x
 | [],_,_=>rfl
 | (n,v)::r,m,h=>by
  unfold bindL;rw [Wv fun w hw=>h w (ι _ hw)];split
  ·have:x≠n:=by rintro rfl;exact h v θ
   simp [this]
  ·rfl
theorem Wx {kindOf:Str->Option Ϟ}{x:Str}:∀ {binds:List (Str×δ)}{m:Str->Option δ},(∀ v,(x,v) ∉ binds)->bindC kindOf binds m x=m x
 | [],_,_=>rfl
 | (n,v)::r,m,h=>by
  unfold bindC;rw [Wx fun w hw=>h w (ι _ hw)];split
  ·rfl
  ·have:x≠n:=by rintro rfl;exact h v θ
   simp [this]
theorem Ww {kindOf:Str->Option Ϟ}{x:Str}{v:δ}:∀ {P:List Str}{vs:List δ}{i:Nat}{m:Str->Option δ},P.Nodup->P[i]?=some x->vs[i]?=some v->kindOf x=some .local ->
  bindL kindOf (P.zip vs) m x=some v
 | [],_,_,_,_,h,_,_=>by simp at h
 | _::_,[],_,_,_,_,h,_=>by simp at h
 | p::P,w::vs,0,m,nd,h1,h2,hk=>by
  simp at h1 h2;subst h1;subst h2;show bindL kindOf ((p,w)::P.zip vs) m p=_
  unfold bindL;rw [Wv fun v hv=>(bA.mp nd).1 (bO hv).1,if_pos hk];simp
 | p::P,w::vs,i+1,m,nd,h1,h2,hk=>by
  show bindL kindOf ((p,w)::P.zip vs) m x=_
  unfold bindL;exact Ww (i:=i) (bA.mp nd).2 (by simpa using h1) (by simpa using h2) hk
theorem Wy {kindOf:Str->Option Ϟ}{x:Str}{v:δ}:∀ {P:List Str}{vs:List δ}{i:Nat}{m:Str->Option δ},P.Nodup->P[i]?=some x->vs[i]?=some v->kindOf x≠some .local ->
  bindC kindOf (P.zip vs) m x=some v
 | [],_,_,_,_,h,_,_=>by simp at h
 | _::_,[],_,_,_,_,h,_=>by simp at h
 | p::P,w::vs,0,m,nd,h1,h2,hk=>by
  simp at h1 h2;subst h1;subst h2;show bindC kindOf ((p,w)::P.zip vs) m p=_
  unfold bindC;rw [Wx fun v hv=>(bA.mp nd).1 (bO hv).1,if_neg hk];simp
 | p::P,w::vs,i+1,m,nd,h1,h2,hk=>by
  show bindC kindOf ((p,w)::P.zip vs) m x=_
  unfold bindC;exact Wy (i:=i) (bA.mp nd).2 (by simpa using h1) (by simpa using h2) hk
noncomputable def start (N:List Str) (vs:List V):St:=vs.map some++η (N.length - vs.length) none
noncomputable def cxOf (CX:CXT) (P:Λ) (w:ϓ) (K:W.Frag) (mg:Str->Option δ) (base:Heap) (N:List Str) (qual:Str) (scope:aH) (f:Addr) (cd:δ) (A:ϙ) (outer:List Env) (s:ς) (H:Hp) (E:XK) (ro:Str->Bool:=fun _=>false):Cx where
 prog:=P
 w:=w
 K:=K
 mg:=mg
 base:=base
 A:=A.deeper (iH qual scope s.heap.objs.size f cd)
 N:=N
 sy:=s
 Hz:=H
 env:=iH qual scope s.heap.objs.size f cd
 outer:=outer
 stack:=iH qual scope s.heap.objs.size f cd::outer
 ex:=[]
 calm:=true
 fn:=fun x=>!ro x
 pn:=[]
 xe:=fun e s'=>Ρ (ώ P w) (A.deeper (iH qual scope s.heap.objs.size f cd)) (leaving (iH qual scope s.heap.objs.size f cd) e) (fun _ s''=>CX outer H s E e s'') (fun e' s''=>CX outer H s E e' s'') s'
theorem YB {sc:aH}{n:Nat}{x:Str}(h:sc.names.lookup x=some .cell):∃ c,(lF n sc.names []).lookup x=some c:=by have q:=W.cellsFrom_some sc.names n [] (.inl h);exact lB.mp q
theorem zaj {ro:Str->Bool}{CX:CXT}{P:Λ}{w:ϓ}{K:W.Frag}{mg:Str->Option δ}{base:Heap}{N ps:List Str}{qual:Str}{scope:aH}{f:Addr}{cd:δ}{A:ϙ}{outer:List Env}{s s1:ς}{H:Hp}{E:XK}{us:List δ}{vs:List V}
  (S:YG N ps scope) (hd:A.handled=none) (e0:Env0 P w K mg base A outer s H) (hl:vs.length=ps.length) (r:Vals vs us)
  (x:InCallC s s.heap.objs.size (bindL (iH qual scope s.heap.objs.size f cd).kindOf (ps.zip us) fun _=>none) (lF (s.heap.objs.size+1) scope.names []) (bindC (iH qual scope s.heap.objs.size f cd).kindOf (ps.zip us) fun _=>none) s1):
  Inv (cxOf CX P w K mg base N qual scope f cd A outer s H E ro) [] (start N vs) H s1:=by
 have hpl:ps.length<=N.length:=by have:=congrArg List.length S.pre;rw [bG] at this;lia
 obtain ⟨h1,tk,rfl,hk⟩:=x.done;have noA:∀ b:Addr,b ∉ (cxOf CX P w K mg base N qual scope f cd A outer s H E ro).ex:=fun b z=>absurd (show b∈([]:List Addr) from z) (by simp)
 refine ⟨⟨e0.mod,S.kind,rfl,rfl,Ζ _,fun y z c h1 h2=>?_,fun y hy=>?_,fun y c _ h=>?_,fun _=>hd,mH e0.frames,.inr ⟨rfl,rfl⟩,fun b z=>absurd z (noA b),e0.bs,e0.bsz,fun b _ _=>noA b,fun b z=>absurd z (noA b),e0.funs,e0.frf⟩,
  rfl,e0.bare,Un.kept hk,⟨_,x.toInCall.ns,fun i y v h1 h2 h3=>?_⟩,fun y c h=>⟨_,x.cell y c h⟩,e0.hok.fresh (Ζ _),fun y c h=>?_,fun p hp=>absurd (show p∈([]:List (Addr×Obj)) from hp) (by simp),e0.hok.kept hk,?_⟩
 ·exact name_of_addr x.apart (Ϣ h1) (Ϣ h2)
 ·have hy:scope.names.lookup y=some .cell\/scope.names.lookup y=some .free:=hy;rcases hy with hy | hy
  ·exact YB hy
  ·exact absurd rfl (S.nofree _ (Ϣ hy))
 ·exact fD (x.above y c (Ϣ h))
 ·have hi:i < vs.length:=by
   unfold start at h2;by_cases hi:i < vs.length
   ·exact hi
   ·rw [ϔ (by simpa using hi)] at h2;rw [cQ] at h2;split at h2 <;> cases h2
  have ha:vs[i]?=some v:=by
   unfold start at h2;rw [ϑ (by simpa using hi),Η] at h2;cases e:vs[i]? with
   | none=>rw [e] at h2;cases h2
   | some a=>rw [e] at h2;cases h2;rfl
  obtain ⟨u,hu,rv⟩:=r.get ha;have hp:ps[i]?=some y:=by rw [<- S.pre,List.getElem?_take_of_lt (by lia)];exact h1
  have ndP:ps.Nodup:=by rw [<- S.pre];exact S.nd.sublist (gZ _ _)
  refine ⟨u,rv,?_⟩;rcases S.par y (Ξ hp) with k | k
  ·exact .inl ⟨k,Ww ndP hp hu k⟩
  ·obtain ⟨c,e⟩:=YB (n:=s.heap.objs.size+1) k;refine .inr ⟨.inl k,c,e,?_⟩;have q:=x.cell y c e;rw [Wy ndP hp hu (by show scope.names.lookup y≠_;rw [k];decide)] at q;exact q
 ·exact .inl <| e0.hok.fresh (fD (x.above y c (Ϣ h)))
 ·unfold start;show _=N.length
  rw [Υ,ξ,aJ];lia
theorem zhs {ro:Str->Bool}{CX:CXT}{P:Λ}{w:ϓ}{K:W.Frag}{mg:Str->Option δ}{base:Heap}{k:Nat}{f:Addr}{name qual:Str}{params:aO}{body:List Stmt}{scope:aH}{dV kV doc pm cdv ct oc:δ}{an od:Option Addr}
  {osl:Array (Option δ)}{N ps:List Str}{sp:Sp}(lk:K.lookup f=some ⟨oc,od,.func (W.fnOf name qual params body scope dV kV doc pm an cdv ct),osl⟩) (hcd:W.codeIn K cdv qual=true) (S:YG N ps scope)
  (len:∀ vs H Q E,sp vs H Q E->vs.length=ps.length)
  (hbody:∀ (A:ϙ) (outer:List Env) (s:ς) (H:Hp) (vs:List V) (Q:VK) (E:XK),Room k (A.deeper (iH qual scope s.heap.objs.size f cdv))->sp vs H Q E ->
   ∃ t,PSs (cxOf CX P w K mg base N qual scope f cdv A outer s H E ro) body t/\t { nx:=fun _ H'=>Q .non H',rt:=Q } (start N vs) H):
  FnOk P w K mg base CX (k+1) f (W.fnOf name qual params body scope dV kV doc pm an cdv ct) ps sp:=by
 refine ⟨len,fun A outer s H args us vs Q E hr e0 hb r hsp=>?_⟩;have hl:=len _ _ _ _ hsp;have KX:K.In s.heap:=e0.mod.kin.keeps fun b o e=>(e0.bs b o e).1
 have lim:s.heap.NoLimit:=e0.mod.nolimit.keeps fun b o e=>(e0.bs b o e).1
 have hkind:∀ y∈ps.zip us,scope.names.lookup y.1=some .local\/(scope.names.lookup y.1=some .cell/\((lF (s.heap.objs.size+1) scope.names []).lookup y.1).isSome=true):=fun ⟨n,v⟩ hy=>by
  rcases S.par n (bO hy).1 with q | q
  ·exact .inl q
  ·exact .inr ⟨q,W.cellsFrom_some _ _ _ (.inl q)⟩
 refine codeAny_call_function hr.depth (KX _ _ lk) rfl S.co S.gen rfl (W.codeRec_of KX hcd) (hb _ _ _ _ ?_);refine wpAny_newFunctionEnv_cells S.kind hkind fun env he s1 x=>?_
 subst he;refine ⟨lim.keeps x.toInCall.keep,codeAny_func ?_⟩;obtain ⟨t,ht,hq⟩:=hbody A outer s H vs Q E (hr.deeper _) hsp;have I:Inv (cxOf CX P w K mg base N qual scope f cdv A outer s H E ro) [] (start N vs) H s1:=zaj S hr.hd e0 hl r x;refine bU (ht [] s1 (start N vs) H _ I hq) (fun fl s' hs=>?_) fun e s' hs=>hs
 have fin:∀ {σ':St}{H':Hp}{v:V}{u:δ},Inv (cxOf CX P w K mg base N qual scope f cdv A outer s H E ro) [] σ' H' s'->RelV v u->Q v H'->CE outer P w H s Q u s':=
  fun {σ' H' v u} J rv q=>⟨v,H',J.os,J.bare,J.base,J.hok,rv,q⟩
 cases fl with
 | ret u=>
  obtain ⟨v,σ',H',J,rv,q⟩:=hs;exact fin J rv q
 | next=>
  obtain ⟨σ',H',J,q⟩:=hs;exact fin (v:=V.non) (u:=Δ) J rfl q
 | brk=>
  obtain ⟨_,_,_,q⟩:=hs;exact ϰ q
 | cont=>
  obtain ⟨_,_,_,q⟩:=hs;exact ϰ q
section
variable {X:Cx}{x:Str}{p pos:Pos}{e:Expr}{es:List Expr}{t:TA}{id T:String}{r:List V->Hp->VK->Prop}
def tCB (r:List V->Hp->VK->Prop) (t:TA):TE:=fun σ H Q=>t σ H fun vs H1=>r vs H1 Q
theorem Uy (hc:yP X (.builtin id) r) (hg:Gl X x) (hm:X.mg x=none) (hv:bW x=some (.builtin id)) (ha:PA X (e::es) t) (hn:x≠"__name__":=by decide) (hdb:(x==("__debug__":Str))=false:=by decide)
  (he:ϧ (e::es) X.env=(false,eval e X.env)::ϧ es X.env:=by rfl) (hpl:(dB pos (ϧ es X.env)).any (·.1)=false:=by rfl):PE X (.Call (.Name x p) (e::es) [] pos) (tCB r t):=by intro pj s σ H Q I h;refine bV (uE I hg hm hv ?_ hn hdb);exact PyProof.Rows.callWith_builtin1 (thn (ha pos pj s σ H _ I h) fun us s1 ⟨vs,H1,I1,r1,q1⟩=>hc pj s1 σ H1 vs us Q I1 r1 q1) he hpl
theorem Qu (hc:yP X (.type T) r) (hg:Gl X x) (hm:X.mg x=none) (hv:bW x=some (.type T)) (ha:PA X (e::es) t) (hn:x≠"__name__":=by decide) (hdb:(x==("__debug__":Str))=false:=by decide)
  (he:ϧ (e::es) X.env=(false,eval e X.env)::ϧ es X.env:=by rfl) (hpl:(dB pos (ϧ es X.env)).any (·.1)=false:=by rfl):PE X (.Call (.Name x p) (e::es) [] pos) (tCB r t):=by intro pj s σ H Q I h;refine bV (uE I hg hm hv ?_ hn hdb);exact ϫ (thn (ha pos pj s σ H _ I h) fun us s1 ⟨vs,H1,I1,r1,q1⟩=>hc pj s1 σ H1 vs us Q I1 r1 q1) he hpl
end
end L2
namespace HT
open PySem PyProof.Rows
section
open PySem.SeqAt
open PySem.AutoSeq1 (wpAny_loadPart')
open PySem.MeetsSeq PySem.MeetsSeq2 PySem.MeetsSeq3
end
section
variable {prog:Λ}{w:ϓ}{A:ϙ}{E:δ->ς->Prop}{s:ς}
theorem zeF {t b:Addr}{vs ws:List δ}{Q:δ->ς->Prop}(ht:gK s.heap t vs.toArray) (hb:gK s.heap b ws.toArray) (hv:vs≠[])
  (h1:ws=[]->Q (.ref t) s) (h2:ws≠[]->Q (.ref s.heap.objs.size) { s with heap:=s.heap.push { cls:=.type "tuple",data:=.seq (vs++ws).toArray } })
  (hsz:vs.length+ws.length<=sizeLine):Ρ (ώ prog w) A (aU .Add (.ref t) (.ref b)) Q E s:=by
 obtain ⟨⟨cls,dd,data,sl⟩,ho,hc,n,hd⟩:=id ht;obtain ⟨⟨cls2,dd2,data2,sl2⟩,ho2,hc2,n2,hd2⟩:=id hb;simp only at hc hd hc2 hd2;subst hc hd hc2 hd2;have e:vs.toArray++ws.toArray=(vs++ws).toArray:=by simp
 by_cases hw:ws=[]
 ·exact nq ⟨_,ho,rfl⟩ ⟨_,ho2,rfl⟩ lE mX eF dU (dM _ _)
   (tuple_addW1 t b vs.toArray ws.toArray n n2 dd dd2 sl sl2 (by simpa using hv) (by simp [hw])) ⟨ho,ho2,h1 hw⟩
 ·refine nq ⟨_,ho,rfl⟩ ⟨_,ho2,rfl⟩ lE mX eF dU (dM _ _)
   (tuple_addW2 t b vs.toArray ws.toArray n n2 dd dd2 sl sl2 (by simpa using hv) (by simpa using hw) (by rw [ο,ο];exact hsz)) ⟨ho,ho2,?_⟩
  rw [e];exact h2 hw
noncomputable def sIx (n d:Nat):Option Int->Nat
 | none=>d
 | some v=>if v < 0 then (v+(n:Int)).toNat else min v.toNat n
theorem Uq (n d:Nat):sIx n d none=d:=rfl
theorem Qf (n d k:Nat):sIx n d (some (k:Int))=min k n:=by
 show (if (k:Int) < 0 then ((k:Int)+(n:Int)).toNat else min (k:Int).toNat n)=min k n
 rw [if_neg (by omega),iy]
theorem zfV (n d:Nat) (hd:d<=n) (o:Option Int):sIx n d o<=n:=by
 cases o with
 | none=>exact hd
 | some v=>
  show (if v < 0 then (v+(n:Int)).toNat else min v.toNat n)<=n
  by_cases hv:v < 0
  ·rw [if_pos hv];omega
  ·rw [if_neg hv];exact Nat.min_le_right _ _
theorem zaE (v:Int) (n d:Nat):(if v < 0 then max (v+(n:Int)) 0 else min v (n:Int))=((sIx n d (some v):Nat):Int):=by
 show (if v < 0 then max (v+(n:Int)) 0 else min v (n:Int))=(((if v < 0 then (v+(n:Int)).toNat else min v.toNat n):Nat):Int)
 by_cases hv:v < 0
 ·simp only [if_pos hv];omega
 ·simp only [if_neg hv];omega
theorem Kl (lo hi:Option Int) (n:Nat):du lo hi 1 (n:Int)=(((sIx n 0 lo:Nat):Int),((sIx n n hi:Nat):Int)):=by
 have h1:¬ ((1:Int) < 0):=by omega
 unfold du;simp only [h1,if_false];refine Prod.ext ?_ ?_
 ·cases lo with
  | none=>rfl
  | some v=>exact zaE v n 0
 ·cases hi with
  | none=>rfl
  | some v=>exact zaE v n n
theorem JL (i j:Nat):bQ (i:Int) (j:Int) 1=j - i:=by
 unfold bQ;have h1:(1:Int) > 0:=by omega
 simp only [h1,if_true,Int.ediv_one];split <;> omega
theorem Zj {v:δ}{o:Option Int}{Q:Option Int->ς->Prop}(p:f9 v o) (h:Q o s):Ρ (ώ prog w) A (Ω.Slice.slicePartIndex v) Q E s:=by
 cases p with
 | none=>exact slicePart_none h
 | int i t=>exact slicePart_int h
theorem wD {sl:Addr}{vl vu:δ}{lo hi:Option Int}{n:Nat}{Q:Int×Int×Nat->ς->Prop}(hs:s.heap.IsSliceOf sl vl vu .none) (pl:f9 vl lo) (pu:f9 vu hi)
  (h:Q (((sIx n 0 lo:Nat):Int),1,sIx n n hi - sIx n 0 lo) s):Ρ (ώ prog w) A (gm (.ref sl) (pure (n:Int))) Q E s:=by
 obtain ⟨os,hos,hcs,hds⟩:=id hs;unfold gm Ω.Slice.sliceFields;refine ζ (ζ (ao hos hds (x:=vl) rfl (ζ (ao hos hds (x:=vu) rfl (ζ (ao hos hds (x:=.none) rfl (π ?_)))))));refine ζ (slicePart_none ?_);show Ρ _ _ (if ((1:Int)==0)=true then _ else _) _ _ s
 rw [if_neg (by decide)];refine ζ (Zj pl (ζ (Zj pu (ζ (π ?_)))));show Ρ _ _ (match du lo hi 1 (n:Int) with | (lo,hi)=>pure (lo,(1:Int),bQ lo hi 1)) _ _ s
 rw [Kl lo hi n];show Ρ _ _ (pure (((sIx n 0 lo:Nat):Int),(1:Int),bQ ((sIx n 0 lo:Nat):Int) ((sIx n n hi:Nat):Int) 1)) _ _ s
 rw [JL];exact π h
theorem zbj (xs:Array δ) (i k:Nat):((Ϲ k).filterMap fun (m:Nat)=>xs[((i:Int)+(m:Int)*1).toNat]?).toArray=((xs.toList.drop i).take k).toArray:=by
 have e:(fun (m:Nat)=>xs[((i:Int)+(m:Int)*1).toNat]?)=fun m=>xs[i+m]?:=by
  funext m
  have:((i:Int)+(m:Int)*1).toNat=i+m:=by omega
  rw [this]
 rw [e];have:=pick_run xs i k;rw [List.filterMap_map] at this;have e2:((fun x=>xs[x]?)∘fun x=>i+x)=fun m=>xs[i+m]?:=rfl
 rw [e2] at this;rw [this]
theorem u6 {t sl:Addr}{items:Array δ}{vl vu:δ}{lo hi:Option Int}{Q:δ->ς->Prop}(ht:gK s.heap t items) (hs:s.heap.IsSliceOf sl vl vu .none) (pl:f9 vl lo) (pu:f9 vu hi)
  (hw:¬ (sIx items.size 0 lo=0/\sIx items.size items.size hi=items.size))
  (h:Q (.ref s.heap.objs.size) { s with heap:=s.heap.push { cls:=.type "tuple",data:=.seq ((items.toList.drop (sIx items.size 0 lo)).take (sIx items.size items.size hi - sIx items.size 0 lo)).toArray } })
  (hsz:items.size<=sizeLine):Ρ (ώ prog w) A (gR (.ref t) (.ref sl)) Q E s:=by
 have htake:sizeOk (.seq ((items.toList.drop (sIx items.size 0 lo)).take (sIx items.size items.size hi - sIx items.size 0 lo)).toArray):=by
  show ((items.toList.drop (sIx items.size 0 lo)).take (sIx items.size items.size hi - sIx items.size 0 lo)).toArray.size<=sizeLine
  rw [ο,bG,bI,aW];omega
 have hj:sIx items.size items.size hi<=items.size:=zfV _ _ (Ζ _) hi;obtain ⟨os,hos,hcs,hds⟩:=id hs;have hTs:s.TypeIs (.ref sl) "slice":=⟨os,hos,hcs⟩
 unfold gR
 try with_reducible refine dG ?_
 first | refine ζ (π ?_) | skip
 refine ζ (wpAny_sequenceKey ht.typeIs (by decide) ?_)
 refine ζ (aj (name:=ik "__getitem__") ht.typeIs Ϯ
  (aD Ϯ ht.typeIs entry_tuple_getitem ?_ (args_tuple_getitem _ _)))
 show Ρ _ _ (bL (.ref t) >>= _) _ _ s
 refine ζ (tupleItemsOf_ ht ?_);refine ζ (bT hTs ?_);rw [if_pos (by decide)];refine ζ (wD hs pl pu ?_);have hno:¬ ((((sIx items.size 0 lo:Nat):Int)==0&&(1:Int)==1&&(sIx items.size items.size hi - sIx items.size 0 lo)==items.size)=true):=by intro q;rw [ε,ε] at q;have q1:((sIx items.size 0 lo:Nat):Int)=0:=eq_of_beq q.1.1;have q2:sIx items.size items.size hi - sIx items.size 0 lo=items.size:=eq_of_beq q.2;exact hw ⟨by omega,by omega⟩
 show Ρ _ _ (if (((sIx items.size 0 lo:Nat):Int)==0&&(1:Int)==1&&(sIx items.size items.size hi - sIx items.size 0 lo)==items.size)=true then _ else _) _ _ s
 rw [if_neg hno,zbj]
 first
  | exact ζ (m:=aZ _) (Ϝ (π ⟨_,rfl,π h⟩) htake)
  | exact ζ (m:=aZ _) (Ϝ (ζ (π (π ⟨_,rfl,π h⟩))) htake)
  | exact ζ (ζ (m:=aZ _) (Ϝ (π (π ⟨_,rfl,π h⟩)) htake))
  | exact ζ (ζ (m:=aZ _) (Ϝ (π ⟨_,rfl,π h⟩) htake))
end
end HT
namespace L2
open PySem PySem.Spec PyProof.Rows
abbrev TO:=St->Hp->(Option Int->Hp->Prop)->Prop
def PO (X:Cx) (e:Option Expr) (t:TO):Prop:=
 ∀ (pj:List (Addr×Obj)) (s:ς) (σ:St) (H:Hp) (Q:Option Int->Hp->Prop),Inv X pj σ H s->t σ H Q ->
  Ρ (ώ X.prog X.w) X.A (evalPart e X.env) (fun u s'=>∃ o H',Inv X pj σ H' s'/\f9 u o/\Q o H') X.xe s
def zc0:TO:=fun _ H Q=>Q none H
def zh2 (t:TE):TO:=fun σ H Q=>t σ H fun x H1=>∃ i,x=.int i/\Q (some i) H1
section
variable {X:Cx}{e:Expr}{te:TE}{lo hi:Option Expr}{tl th:TO}{pos p2:Pos}
theorem zdx:PO X none zc0:=by intro pj s σ H Q I h;rw [evalPart_none];exact π ⟨none,H,I,.none,h⟩
theorem zdw (h:PE X e te):PO X (some e) (zh2 te):=by
 intro pj s σ H Q I hw;rw [evalPart_some];refine thn (h pj s σ H _ I hw) fun u s1 ⟨x,H1,I1,r1,q1⟩=>?_
 obtain ⟨i,rfl,q⟩:=q1;obtain ⟨t,rfl⟩:=r1;exact ⟨some i,H1,I1,.int i t,q⟩
def SlR (X:Cx) (r:V->Option Int->Option Int->Hp->VK->Prop):Prop:=
 ∀ (pj:List (Addr×Obj)) (s:ς) (σ:St) (H:Hp) (x:V) (v vl vu:δ) (lo hi:Option Int) (sl:Addr) (Q:VK),Inv X pj σ H s->RelV x v->s.heap.IsSliceOf sl vl vu .none->f9 vl lo->f9 vu hi->r x lo hi H Q ->
  ∃ T id,typeLookup (.type T) "__getitem__"=pure (some (.builtin id))/\s.TypeIs v T/\Ρ (ώ X.prog X.w) X.A (gR v (.ref sl)) (EP X pj σ Q) X.xe s
theorem SlR.or {r r':V->Option Int->Option Int->Hp->VK->Prop}(h:SlR X r) (h':SlR X r'):SlR X (fun x lo hi H Q=>r x lo hi H Q\/r' x lo hi H Q):=by
 intro pj s σ H x v vl vu lo hi sl Q I rx hs pl pu q;rcases q with q | q
 ·exact h pj s σ H x v vl vu lo hi sl Q I rx hs pl pu q
 ·exact h' pj s σ H x v vl vu lo hi sl Q I rx hs pl pu q
def tSl (r:V->Option Int->Option Int->Hp->VK->Prop) (te:TE) (tl th:TO):TE:=fun σ H Q=>te σ H fun x H1=>tl σ H1 fun l H2=>th σ H2 fun u H3=>r x l u H3 Q
theorem zbl {r:V->Option Int->Option Int->Hp->VK->Prop}(hr:SlR X r) (he:PE X e te) (hl:PO X lo tl) (hu:PO X hi th):PE X (.Subscript e (.Slice lo hi none p2) pos) (tSl r te tl th):=by
 intro pj s σ H Q I h;refine Subscript_ (thn (he pj s σ H _ I h) fun v s1 ⟨x,H1,I1,r1,q1⟩=>?_);refine wpAny_Slice (thn (hl pj s1 σ H1 _ I1 q1) fun vl s2 ⟨l,H2,I2,pl,q2⟩=>thn (hu pj s2 σ H2 _ I2 q2) fun vu s3 ⟨u,H3,I3,pu,q3⟩=>?_);rw [evalPart_none];refine π ?_;have I4:Inv X pj σ H3 { s3 with heap:=s3.heap.push { cls:=.type "slice",data:=.fields #[vl,vu,.none] } }:=I3.kept (t':=s3.toks) fun b ob q=>μ _ q
 obtain ⟨T,id,hT,ht,hg⟩:=hr pj { s3 with heap:=s3.heap.push { cls:=.type "slice",data:=.fields #[vl,vu,.none] } } σ H3 x v vl vu l u s3.heap.objs.size Q I4 r1 (Heap.IsSliceOf.new ..) pl pu q3;show Ρ (ώ X.prog X.w) X.A (subscriptTail e (.Slice lo hi none p2) v (.ref s3.heap.objs.size)) (EP X pj σ Q) X.xe { s3 with heap:=s3.heap.push { cls:=.type "slice",data:=.fields #[vl,vu,.none] } }
 exact tail_any (ops:=[.ref s3.heap.objs.size,v]) ht hT hg (by with_unfolding_all rfl)
noncomputable def cutV (xs:List V) (lo hi:Option Int):List V:=(xs.drop (HT.sIx xs.length 0 lo)).take (HT.sIx xs.length xs.length hi - HT.sIx xs.length 0 lo)
theorem qJ (xs:List V) (lo hi:Option Int):(cutV xs lo hi).length<=xs.length:=by unfold cutV;rw [bG,bI];lia
def rSlT (K:W.Frag):V->Option Int->Option Int->Hp->VK->Prop:=fun x lo hi H Q=>∃ a xs,x=.ref a/\SqT K H a xs /\
 ¬ (HT.sIx xs.length 0 lo=0/\HT.sIx xs.length xs.length hi=xs.length)/\∀ p,H p=none->Q (.ref p) (upd H p (.tup (cutV xs lo hi)))
theorem zfu:SlR X (rSlT X.K):=by
 intro pj s σ H x v vl vu lo hi sl Q I rx hs pl pu h;obtain ⟨a,xs,rfl,hx,hw,q⟩:=h;cases rx;obtain ⟨its,r,ht,hz⟩:=I.tuple hx;have hlen:its.toArray.size=xs.length:=by rw [ο];exact r.length.symm
 refine ⟨"tuple",_,Ϯ.lookup,ht.typeIs,?_⟩;refine HT.u6 ht hs pl pu (by rw [hlen];exact hw) ?_ (by rw [hlen];exact hz);rw [hlen];refine ⟨.ref s.heap.objs.size,_,I.laid (t':=s.toks) (o:=.tup (cutV xs lo hi)) (fun b ob q=>μ _ q) (Ζ _) ?_,rfl,q _ (I.hok.fresh (Ζ _))⟩;exact ⟨ϡ (qJ xs lo hi) hz,_,(r.drop (HT.sIx xs.length 0 lo)).take (HT.sIx xs.length xs.length hi - HT.sIx xs.length 0 lo),gK.new _ _⟩
def ziR (K:W.Frag):R2:=fun x y H Q=>∃ a b xs ys,x=.ref a/\y=.ref b/\SqT K H a xs/\SqT K H b ys/\xs≠[]/\xs.length+ys.length<=sizeLine /\
 (ys=[]->Q (.ref a) H)/\(ys≠[]->∀ p,H p=none->Q (.ref p) (upd H p (.tup (xs++ys))))
theorem Vals.Vi {xs:List V}{us:List δ}(r:Vals xs us):us=[] ↔ xs=[]:=by
 cases r with
 | nil=>simp
 | cons _ _=>simp
theorem zdK:OpR X (aU .Add) (ziR X.K):=by intro pj s σ H x y v u Q I rx ry h;obtain ⟨a,b,xs,ys,rfl,rfl,ha,hb,hx,hz,q1,q2⟩:=h;cases rx;cases ry;obtain ⟨its,r1,p1,_⟩:=I.tuple ha;obtain ⟨its2,r2,p2,_⟩:=I.tuple hb;refine HT.zeF p1 p2 (fun z=>hx (r1.Vi.mp z)) (fun z=>⟨.ref a,H,I,rfl,q1 (r2.Vi.mp z)⟩) (fun z=>?_) (by rw [<- r1.length,<- r2.length];exact hz);refine ⟨.ref s.heap.objs.size,_,I.laid (t':=s.toks) (o:=.tup (xs++ys)) (fun b ob q=>μ _ q) (Ζ _) ?_,rfl,q2 (fun w=>z (r2.Vi.mpr w)) _ (I.hok.fresh (Ζ _))⟩;exact ⟨by rw [Υ];exact hz,_,r1.append r2,gK.new _ _⟩
end
noncomputable def ixN (n:Nat) (i:Int):Option Nat:=if 0<=i then (if i < n then some i.toNat else none) else if -(n:Int)<=i then some (i+n).toNat else none
noncomputable def atI {α:Type}(xs:List α) (i:Int):Option α:=(ixN xs.length i).bind fun j=>xs[j]?
theorem zae {n:Nat}{i:Int}{j:Nat}(h:ixN n i=some j):seqIndex? i n=some j/\j < n/\-(n:Int)<=i/\i < n:=by
 unfold ixN at h;by_cases h0:0<=i
 ·rw [if_pos h0] at h;by_cases h1:i < n
  ·rw [if_pos h1] at h;have e:i.toNat=j:=Ϛ h;exact ⟨by rw [seqIndex_of h0 h1,e],by lia,by lia,h1⟩
  ·rw [if_neg h1] at h;cases h
 ·rw [if_neg h0] at h;by_cases h1:-(n:Int)<=i
  ·rw [if_pos h1] at h;have e:(i+n).toNat=j:=Ϛ h;exact ⟨by rw [seqIndex_neg (by lia) h1,e],by lia,h1,by lia⟩
  ·rw [if_neg h1] at h;cases h
theorem V4 {α:Type}{xs:List α}{i:Int}{v:α}(h:atI xs i=some v):∃ j,seqIndex? i xs.length=some j/\xs[j]?=some v/\j < xs.length/\-(xs.length:Int)<=i/\i < xs.length:=by
 unfold atI at h;cases e:ixN xs.length i with
 | none=>rw [e] at h;cases h
 | some j=>
  rw [e] at h;obtain ⟨h1,h2,h3,h4⟩:=zae e;exact ⟨j,h1,h,h2,h3,h4⟩
def V6 (b:Expr):Prop:=∀ o i,subscripted b false o i=operate [o,i] (gR o i)
def IxR (X:Cx) (r:R2):Prop:=
 ∀ (value slice:Expr) (pj:List (Addr×Obj)) (s:ς) (σ:St) (H:Hp) (x y:V) (v u:δ) (Q:VK),Inv X pj σ H s->RelV x v->RelV y u->r x y H Q ->
  subscripted slice false v u=operate [v,u] (gR v u)->Ρ (ώ X.prog X.w) X.A (subscriptTail value slice v u) (EP X pj σ Q) X.xe s
def MtR (X:Cx) (id:String) (r:V->List V->Hp->VK->Prop):Prop:=
 ∀ (pj:List (Addr×Obj)) (s:ς) (σ:St) (H:Hp) (x:V) (xs:List V) (v:δ) (us:List δ) (Q:VK),Inv X pj σ H s->RelV x v->Vals xs us->r x xs H Q ->
  Ρ (ώ X.prog X.w) X.A (call (.builtin id) (v::us)) (EP X pj σ Q) X.xe s
section
variable {X:Cx}{a b:Expr}{ta tb:TE}{pos:Pos}
theorem IxR.or {r r':R2}(h:IxR X r) (h':IxR X r'):IxR X (fun x y H Q=>r x y H Q\/r' x y H Q):=by
 intro value slice pj s σ H x y v u Q I rx ry q hs;rcases q with q | q
 ·exact h value slice pj s σ H x y v u Q I rx ry q hs
 ·exact h' value slice pj s σ H x y v u Q I rx ry q hs
theorem MtR.or {id:String}{r r':V->List V->Hp->VK->Prop}(h:MtR X id r) (h':MtR X id r'):MtR X id (fun x xs H Q=>r x xs H Q\/r' x xs H Q):=by
 intro pj s σ H x xs v us Q I rx rs q;rcases q with q | q
 ·exact h pj s σ H x xs v us Q I rx rs q
 ·exact h' pj s σ H x xs v us Q I rx rs q
theorem ziZ {r:R2}(hr:IxR X r) (ha:PE X a ta) (hb:PE X b tb) (hs:V6 b):PE X (.Subscript a b pos) (tOp r ta tb):=by intro pj s σ H Q I h;exact Subscript_ (binT ha hb I h fun v u s2 x y H2 I2 rx ry q=>hr a b pj s2 σ H2 x y v u Q I2 rx ry q (hs _ _))
def rIxL (K:W.Frag):R2:=fun x y H Q=>∃ p xs i v,x=.ref p/\y=.int i/\SqL K H p xs/\atI xs i=some v/\Q v H
def rIxT (K:W.Frag):R2:=fun x y H Q=>∃ p xs i v,x=.ref p/\y=.int i/\SqT K H p xs/\atI xs i=some v/\Q v H
def rIxS:R2:=fun x y H Q=>∃ z i c,x=.str z/\y=.int i/\z.length<=sizeLine/\atI z.cps.toList i=some c/\Q (.str ⟨#[c]⟩) H
theorem zad:IxR X (rIxL X.K):=by
 intro value slice pj s σ H x y v u Q I rx ry h hs;obtain ⟨p,xs,i,z,rfl,rfl,hq,he,q⟩:=h;cases rx;obtain ⟨t,rfl⟩:=ry;obtain ⟨its,r,pl,hz⟩:=I.list hq;obtain ⟨j,h1,h2,h3,h4,h5⟩:=V4 he;obtain ⟨w,ew,rw'⟩:=r.get h2;have hl:=r.length;have hn:=Zw;have fin:EP X pj σ Q w s:=⟨z,H,I,rw',q⟩
 by_cases h0:0<=i
 ·have hj:i.toNat=j:=by rw [seqIndex_of h0 h5] at h1;exact Ϛ h1
  exact item_listR pl.isList h0 (by lia) (by rw [hj];simpa using ew) fin hs
 ·have hj:(i+(its.toArray.size:Int)).toNat=j:=by rw [seqIndex_neg (by lia) h4] at h1;rw [ο,<- hl];exact Ϛ h1
  exact nj (x:=w) pl.isList.typeIs slot_list_getitem.lookup
   (wpAny_getItem_list_neg (Q:=fun r s'=>r=w/\EP X pj σ Q r s') pl.isList (by lia) (by rw [ο] <;> lia) (by lia) (by rw [hj];simpa using ew) ⟨rfl,fin⟩) hs
theorem zg0:IxR X (rIxT X.K):=by
 intro value slice pj s σ H x y v u Q I rx ry h hs;obtain ⟨p,xs,i,z,rfl,rfl,hq,he,q⟩:=h;cases rx;obtain ⟨t,rfl⟩:=ry;obtain ⟨its,r,pl,hz⟩:=I.tuple hq;obtain ⟨j,h1,h2,h3,h4,h5⟩:=V4 he;obtain ⟨w,ew,rw'⟩:=r.get h2;have hl:=r.length;have hn:=Zw;have fin:EP X pj σ Q w s:=⟨z,H,I,rw',q⟩
 exact nj (x:=w) pl.typeIs slot_tuple_getitem.lookup
  (getItem_tuple (j:=j) (Q:=fun r s'=>r=w/\EP X pj σ Q r s') pl (by lia) (by lia) (by rw [ο,<- hl];exact h1) (by simpa using ew) ⟨rfl,fin⟩) hs
theorem zg1:IxR X rIxS:=by
 intro value slice pj s σ H x y v u Q I rx ry h hs;obtain ⟨z,i,c,rfl,rfl,hz,he,q⟩:=h;obtain ⟨t,rfl⟩:=rx;obtain ⟨t',rfl⟩:=ry;obtain ⟨j,h1,h2,h3,h4,h5⟩:=V4 he;have hl:z.cps.toList.length=z.length:=by simp [Str.length]
 rw [hl] at h1 h4 h5;have hn:=Zw
 exact tail_any (mL s z t) slot_str_getitem.lookup (getItem_str (c:=c) (by
  have e1:decide (i < -(2 ^ 63:Int))=false:=decide_eq_false (by lia);have e2:decide (i >= 2 ^ 63)=false:=decide_eq_false (by lia)
  rw [e1,e2,lV]) (by rw [h1];simpa using h2) ⟨.str ⟨#[c]⟩,H,I.tok _,⟨_,rfl⟩,q⟩) hs
theorem JR (its:List δ) (n j:Nat) (u:δ):gJ (·.setIfInBounds j u) { cls:=.type "list",data:=.seq its.toArray n }={ cls:=.type "list",data:=.seq (its.set j u).toArray n }:=by simp [gJ]
theorem Inv.lst {pj:List (Addr×Obj)}{σ:St}{H:Hp}{s:ς}{p:Addr}{xs:List V}(I:Inv X pj σ H s) (h:H p=some (.lst xs)):
  ∃ (its:List δ) (n:Nat),Vals xs its/\s.heap.get? p=some { cls:=.type "list",data:=.seq its.toArray n }/\xs.length<=sizeLine:=by obtain ⟨z,its,n,r,e⟩:=I.hok p _ h;exact ⟨its,n,r,e,z⟩
theorem Inv.zgI {pj:List (Addr×Obj)}{σ:St}{H:Hp}{s:ς}{p:Addr}{xs ys:List V}{its its':List δ}{n n':Nat}{f:Obj->Obj}(I:Inv X pj σ H s) (h:H p=some (.lst xs))
  (ho:s.heap.get? p=some { cls:=.type "list",data:=.seq its.toArray n }) (hf:f { cls:=.type "list",data:=.seq its.toArray n }={ cls:=.type "list",data:=.seq its'.toArray n' }) (r:Vals ys its') (hz:ys.length<=sizeLine) (t:Nat):
  Inv X pj σ (upd H p (.lst ys)) { s with heap:=s.heap.update p f,toks:=t }:=by
 have e:(s.heap.update p f).get? p=some { cls:=.type "list",data:=.seq its'.toArray n' }:=by rw [bu f ho (by rw [hf] <;> rfl),hf]
 refine I.write (x:=p) (e:=p) (by rw [h];trivial) (.inl rfl) (fun b u hb q=>(aF _ _ (bK hb)).trans q) ⟨_,e⟩ ?_;exact ⟨hz,its',n',r,e⟩
def zf1:V->V->V->Hp->(Hp->Prop)->Prop:=fun o i v H Q=>∃ p xs k j,o=.ref p/\i=.int k/\H p=some (.lst xs)/\ixN xs.length k=some j/\Q (upd H p (.lst (xs.set j v)))
theorem set_list:PSet X zf1:=by
 intro pj s σ H o i v ov iv u Q I ro ri rv h;obtain ⟨p,xs,k,j,rfl,rfl,hp,hj,q⟩:=h;cases ro;obtain ⟨t,rfl⟩:=ri;obtain ⟨its,n,r,ho,hz⟩:=I.lst hp;obtain ⟨h1,h2,h3,h4⟩:=zae hj;have hl:=r.length;have hn:=Zw;have I':Inv X pj σ (upd H p (.lst (xs.set j v))) { s with heap:=s.heap.update p (gJ (·.setIfInBounds j u)) }:=
  I.zgI hp ho (JR its n j u) (r.set rv j) (by rw [ϭ];exact hz) s.toks
 by_cases h0:0<=k
 ·have hk:k.toNat=j:=by rw [seqIndex_of h0 h4] at h1;exact Ϛ h1
  exact W.ki_setAt ho h0 (by lia) (by rw [ο,<- hl];exact h4) (by rw [hk];exact ⟨_,I',q⟩)
 ·have hk:(k+(its.toArray.size:Int)).toNat=j:=by rw [seqIndex_neg (by lia) h3] at h1;rw [ο,<- hl];exact Ϛ h1
  exact W.ki_setBack ho (by lia) (by rw [ο,<- hl];exact h3) (by lia) (by rw [hk];exact ⟨_,I',q⟩)
theorem Y6 (lo hi:Option Int) (n:Nat):(dH lo hi none n).1=((HT.sIx n 0 lo:Nat):Int)/\(dH lo hi none n).2.1=((HT.sIx n n hi:Nat):Int)/\(dH lo hi none n).2.2=1:=by
 refine ⟨?_,?_,rfl⟩
 ·cases lo with
  | none=>simp [dH,HT.sIx]
  | some i=>
   simp only [dH,HT.sIx,m7,show (1:Int) > 0 by decide,if_true];by_cases h:i < 0
   ·simp only [h,if_true] <;> lia
   ·simp only [h,if_false] <;> lia
 ·cases hi with
  | none=>simp [dH,HT.sIx]
  | some i=>
   simp only [dH,HT.sIx,m7,show (1:Int) > 0 by decide,if_true];by_cases h:i < 0
   ·simp only [h,if_true] <;> lia
   ·simp only [h,if_false] <;> lia
theorem Z5 (its:List δ) (lo hi:Option Int):slicePick its.toArray lo hi none=((its.drop (HT.sIx its.length 0 lo)).take (HT.sIx its.length its.length hi - HT.sIx its.length 0 lo)).toArray:=by obtain ⟨h1,h2,h3⟩:=Y6 lo hi its.toArray.size;unfold slicePick;rw [h1,h2,h3];simp only [sliceRange_one,pick_run,ο] <;> rfl
def rSlL (K:W.Frag):V->Option Int->Option Int->Hp->VK->Prop:=fun x lo hi H Q=>∃ a xs,x=.ref a/\SqL K H a xs/\∀ p,H p=none->Q (.ref p) (upd H p (.lst (cutV xs lo hi)))
theorem K5:SlR X (rSlL X.K):=by intro pj s σ H x v vl vu lo hi sl Q I rx hs pl pu h;obtain ⟨a,xs,rfl,hx,q⟩:=h;cases rx;obtain ⟨its,r,ht,hz⟩:=I.list hx;have hlen:=r.length;refine ⟨"list",_,slot_list_getitem.lookup,ht.isList.typeIs,?_⟩;refine wpAny_getItem_list_slice ht.isList hs pl pu .none (by simp) ?_ (by rw [ο] <;> lia);rw [Z5,<- hlen];refine ⟨.ref s.heap.objs.size,_,I.laid (t':=s.toks) (o:=.lst (cutV xs lo hi)) (fun b ob q=>μ _ q) (Ζ _) ?_,rfl,q _ (I.hok.fresh (Ζ _))⟩;exact ⟨ϡ (qJ xs lo hi) hz,_,0,(r.drop (HT.sIx xs.length 0 lo)).take (HT.sIx xs.length xs.length hi - HT.sIx xs.length 0 lo),Μ _ rfl⟩
noncomputable def zej:V->Bool
 | .non=>true
 | .bl _=>true
 | .int _=>true
 | .str _=>true
 | _=>false
noncomputable def eqV:V->V->Bool
 | .non,.non=>true
 | .bl a,.bl b=>a==b
 | .bl a,.int b=>(if a then 1 else 0)==b
 | .int a,.bl b=>a==(if b then 1 else 0)
 | .int a,.int b=>a==b
 | .str a,.str b=>a==b
 | _,_=>false
theorem zcI {A:ϙ}{s:ς}{y x:V}{u v:δ}(ry:RelV y u) (rx:RelV x v) (fy:zej y=true) (fx:zej x=true):ϸ A s u v (eqV y x):=by
 cases y with
 | non=>
  cases ry;cases x with
  | non=>cases rx;exact ϸ.same _
  | bl b=>cases rx;exact ϸ.none_bool b
  | int b=>obtain ⟨t,rfl⟩:=rx;exact ϸ.none_int b t
  | str b=>obtain ⟨t,rfl⟩:=rx;exact ϸ.none_str b t
  | _=>exact absurd (show false=true from fx) Κ
 | bl a=>
  cases ry;cases x with
  | non=>cases rx;exact ϸ.bool_none a
  | bl b=>cases rx;exact ϸ.bool_bool a b
  | int b=>obtain ⟨t,rfl⟩:=rx;exact ϸ.bool_int a b t
  | str b=>obtain ⟨t,rfl⟩:=rx;exact ϸ.bool_str a b t
  | _=>exact absurd (show false=true from fx) Κ
 | int a=>
  obtain ⟨t',rfl⟩:=ry;cases x with
  | non=>cases rx;exact ϸ.int_none a t'
  | bl b=>cases rx;exact ϸ.int_bool a t' b
  | int b=>obtain ⟨t,rfl⟩:=rx;exact ϸ.int_int a t' b t
  | str b=>obtain ⟨t,rfl⟩:=rx;exact lO a t' b t
  | _=>exact absurd (show false=true from fx) Κ
 | str a=>
  obtain ⟨t',rfl⟩:=ry;cases x with
  | non=>cases rx;exact ϸ.str_none a t'
  | bl b=>cases rx;exact ϸ.str_bool a t' b
  | int b=>obtain ⟨t,rfl⟩:=rx;exact lN a t' b t
  | str b=>obtain ⟨t,rfl⟩:=rx;exact ϸ.str_str a t' b t
  | _=>exact absurd (show false=true from fx) Κ
 | _=>exact absurd (show false=true from fy) Κ
theorem Xq:OpR X (ϋ .NotIn) (fun x y H Q=>∃ i j,x=.str i/\y=.str j/\Q (.bl (!(!(aK j i 0 j.length 1).isEmpty))) H):=by intro pj s σ H x y v u Q I rx ry h;obtain ⟨i,j,rfl,rfl,q⟩:=h;obtain ⟨t,rfl⟩:=rx;obtain ⟨t',rfl⟩:=ry;exact notIn_str ⟨.bl _,H,I,rfl,q⟩
theorem vf:yP X (.builtin "len") (fun xs H Q=>∃ p ys,xs=[.ref p]/\(SqL X.K H p ys\/SqT X.K H p ys)/\Q (.int ys.length) H):=by
 intro pj s σ H xs us Q I r h;obtain ⟨p,ys,rfl,hq,q⟩:=h;obtain ⟨u,rfl,rx⟩:=vals1 r;cases rx;have hn:=Zw;rcases hq with hq | hq
 ·obtain ⟨its,r',pl,hz⟩:=I.list hq;have hlen:=r'.length;exact Calls.call_len_list pl.isList (by simp only [ο] <;> lia) ⟨.int ys.length,H,I.tok _,⟨s.toks+1,by rw [ο,hlen]⟩,q⟩
 ·obtain ⟨its,r',pl,hz⟩:=I.tuple hq;have hlen:=r'.length;exact len_tuple pl (by simp only [ο] <;> lia) ⟨.int ys.length,H,I.tok _,⟨s.toks+1,by rw [ο,hlen]⟩,q⟩
theorem Wm:yP X (.builtin "len") (fun xs H Q=>∃ z,xs=[.str z]/\z.length<=sizeLine/\Q (.int z.length) H):=by intro pj s σ H xs us Q I r h;obtain ⟨z,rfl,hz,q⟩:=h;obtain ⟨u,rfl,t,rfl⟩:=vals1 r;have hn:=Zw;exact len_str (by lia) ⟨.int z.length,H,I.tok _,⟨_,rfl⟩,q⟩
theorem yP.or {f:δ}{r r':List V->Hp->VK->Prop}(h:yP X f r) (h':yP X f r'):yP X f (fun xs H Q=>r xs H Q\/r' xs H Q):=by
 intro pj s σ H xs us Q I rs q;rcases q with q | q
 ·exact h pj s σ H xs us Q I rs q
 ·exact h' pj s σ H xs us Q I rs q
theorem Wl:yP X (.type "list") (fun xs H Q=>∃ p ys,xs=[.ref p]/\(SqL X.K H p ys\/SqT X.K H p ys)/\∀ l,H l=none->Q (.ref l) (upd H l (.lst ys))):=by
 intro pj s σ H xs us Q I r h;obtain ⟨p,ys,rfl,hq,q⟩:=h;obtain ⟨u,rfl,rx⟩:=vals1 r;cases rx;have fin:∀ (its:List δ),Vals ys its->ys.length<=sizeLine->∀ (h':Heap) (c':Nat),(∀ b o',s.heap.get? b=some o'->h'.get? b=some o') ->
   h'.get? s.heap.objs.size=some { cls:=.type "list",dict:=none,data:=.seq its.toArray c',slots:=#[] }->EP X pj σ Q (.ref s.heap.objs.size) { s with heap:=h' }:=fun its r' hz h' c' kp e=>
  ⟨.ref s.heap.objs.size,_,I.laid (t':=s.toks) kp (Ζ _) (show yo X.prog X.w _ h' _ (.lst ys) from ⟨hz,its,c',r',e⟩),rfl,q _ (I.hok.fresh (Ζ _))⟩
 rcases hq with hq | hq
 ·obtain ⟨its,r',pl,hz⟩:=I.list hq;have hlen:=r'.length;obtain ⟨o,ho,hc,n,hd⟩:=pl.isList;exact call_list_seq p (.inl rfl) ho hc hd (fun h' c' kp e=>fin its r' hz h' c' kp e) (by simp only [ο] <;> lia)
 ·obtain ⟨its,r',pl,hz⟩:=I.tuple hq;have hlen:=r'.length;obtain ⟨o,ho,hc,n,hd⟩:=pl;exact call_list_seq p (.inr rfl) ho hc hd (fun h' c' kp e=>fin its r' hz h' c' kp e) (by simp only [ο] <;> lia)
theorem YC:yP X (.type "tuple") (fun xs H Q=>∃ p ys,xs=[.ref p]/\((SqL X.K H p ys/\∀ l,H l=none->Q (.ref l) (upd H l (.tup ys)))\/(SqT X.K H p ys/\Q (.ref p) H))):=by
 intro pj s σ H xs us Q I r h;obtain ⟨p,ys,rfl,h⟩:=h;obtain ⟨u,rfl,rx⟩:=vals1 r;cases rx;rcases h with ⟨hq,q⟩ | ⟨hq,q⟩
 ·obtain ⟨its,r',pl,hz⟩:=I.list hq;have hlen:=r'.length;refine call_tuple_list pl.isList (fun h' kp=>?_) (by simp only [ο] <;> lia);have I1:Inv X pj σ H { s with heap:=h' }:=I.kept (t':=s.toks) kp;have I2:Inv X pj σ (upd H h'.objs.size (.tup ys)) { s with heap:=h'.push { cls:=.type "tuple",data:=.seq its.toArray } }:=
   I1.laid (t':=s.toks) (fun b o e=>μ _ e) (Ζ _) (show yo X.prog X.w _ _ _ (.tup ys) from ⟨hz,its,r',gK.new _ _⟩)
  exact ⟨.ref h'.objs.size,_,I2,rfl,q _ (I1.hok.fresh (Ζ _))⟩
 ·obtain ⟨its,r',pl,hz⟩:=I.tuple hq;exact call_tuple_same pl ⟨.ref p,H,I,rfl,q⟩
def tyV (K:W.Frag) (T:String) (x:V) (H:Hp):Prop:=match x with
 | .str _=>T="str"
 | .int _=>T="int"
 | .ref p=>(T="list"/\∃ xs,SqL K H p xs)\/(∃ o,K.lookup p=some o/\o.cls=.type T/\o.dict=none) \/
   (T="dict"/\((∃ kvs,H p=some (.dK kvs))\/∃ kvs,H p=some (.dT kvs)))\/(T="set"/\∃ S n,H p=some (.set S n))
 | _=>False
theorem ze6 {pj:List (Addr×Obj)}{σ:St}{H:Hp}{s:ς}{T:String}{x:V}{v:δ}(I:Inv X pj σ H s) (r:RelV x v) (ty:tyV X.K T x H):
  s.TypeIs v T/\∀ a,v=.ref a->∃ ob,s.heap.get? a=some ob/\ob.dict=none:=by
 cases x with
 | str z=>
  obtain ⟨t,rfl⟩:=r;cases (show T="str" from ty);exact ⟨mL s z t,fun _ e=>nomatch e⟩
 | int i=>
  obtain ⟨t,rfl⟩:=r;cases (show T="int" from ty);exact ⟨iG s i t,fun _ e=>nomatch e⟩
 | ref p=>
  cases r;rcases ty with ⟨rfl,xs,hq⟩ | ⟨o,hk,hc,hd⟩ | ⟨rfl,hk⟩ | ⟨rfl,S,n,hk⟩
  ·obtain ⟨its,_,pl,_⟩:=I.list hq;refine ⟨pl.isList.typeIs,fun a e=>?_⟩;cases e;obtain ⟨o,n,e,c,hd,_⟩:=pl;exact ⟨o,e,hd⟩
  ·refine ⟨⟨o,I.kIn p o hk,hc⟩,fun a e=>?_⟩;cases e;exact ⟨o,I.kIn _ o hk,hd⟩
  ·have z:∃ o,s.heap.get? p=some o/\o.ExactDict:=by
    rcases hk with ⟨kvs,hk⟩ | ⟨kvs,hk⟩
    ·obtain ⟨_,_,_,_,o,_,_,e,ex,_⟩:=I.hok p _ hk;exact ⟨o,e,ex⟩
    ·obtain ⟨_,_,_,_,o,_,_,e,ex,_⟩:=I.hok p _ hk;exact ⟨o,e,ex⟩
   obtain ⟨o,e,ex⟩:=z;refine ⟨⟨o,e,ex.1⟩,fun a e2=>?_⟩;cases e2;exact ⟨o,e,ex.2.1⟩
  ·obtain ⟨o,_,_,_,e,ex,_⟩:=I.hok p _ hk;refine ⟨⟨o,e,ex.1⟩,fun a e2=>?_⟩;cases e2;exact ⟨o,e,ex.2.1⟩
 | _=>exact ϰ ty
def tBM (K:W.Frag) (T:String) (r:V->List V->Hp->VK->Prop) (to:TE) (t:TA):TE:=fun σ H Q=>to σ H fun x H1=>tyV K T x H1/\t σ H1 fun xs H2=>r x xs H2 Q
variable {o e:Expr}{es:List Expr}{to:TE}{t:TA}{name:Str}{apos cpos:Pos}{T id:String}{r:V->List V->Hp->VK->Prop}
theorem zdD (pa:PlainAttrs T) (slot:Slot T name id) (hty:typeOf (.builtin id)=pure (.type "method_descriptor")) (hm:MtR X id r) (ho:PE X o to) (ha:PA X (e::es) t)
  (hbase:attributeBase o name X.env (eval o X.env)=eval o X.env:=by rfl)
  (hfew:((dB cpos (ϧ (e::es) X.env)).all (fun x=>!x.1)&&(backToKw cpos (gB [] X.env)).all (fun x=>x.1.isSome)
  &&decide ((e::es).length+([]:List cW).length+(if ([]:List cW).isEmpty then 0 else 1) < 30))=true:=by rfl)
  (hline:(apos.endLine==cpos.line)=true:=by rfl) (hs:ϧ (e::es) X.env=(false,eval e X.env)::ϧ es X.env:=by rfl) (hplain:(dB cpos (ϧ es X.env)).any (·.1)=false:=by rfl):
  PE X (.Call (.Attribute o name apos) (e::es) [] cpos) (tBM X.K T r to t):=by intro pj s σ H Q I h;refine wpAny_Call_method_late hbase hfew hline rfl (thn (ho pj s σ H _ I h) fun v s1 ⟨x,H1,I1,r1,ty,q1⟩=>?_);obtain ⟨h1,h2⟩:=ze6 I1 r1 ty;refine ⟨T,id,pa,slot,hty,h1,h2,?_⟩;have hA:=ha cpos pj s1 σ H1 _ I1 q1;rw [hs] at hA ⊢;refine Calls.callWith_builtin (by show (false||(dB cpos (ϧ es X.env)).any (·.1))=false;rw [hplain] <;> rfl) (Calls.evalArgs_plain ?_);exact thn hA fun us s2 ⟨vs,H2,I2,r2,q2⟩=>hm pj s2 σ H2 x vs v us Q I2 r1 r2 q2
end
def MtM (X:Cx) (id:String) (r:V->List V->Hp->VK->Prop):Prop:=
 ∀ (pj:List (Addr×Obj)) (s:ς) (σ:St) (H:Hp) (x:V) (xs:List V) (v:δ) (us:List δ) (Q:VK),Inv X pj σ H s->RelV x v->Vals xs us->r x xs H Q ->
  Ρ (ώ X.prog X.w) X.A (call (.builtin id) (v::us)) (EP X pj σ Q) X.xe s
theorem Vals.one:∀ {x:V}{us:List δ},Vals [x] us->∃ u,us=[u]/\RelV x u
 | _,_,.cons r .nil=>⟨_,rfl,r⟩
theorem Vals.two:∀ {x y:V}{us:List δ},Vals [x,y] us->∃ u v,us=[u,v]/\RelV x u/\RelV y v
 | _,_,_,.cons r (.cons q .nil)=>⟨_,_,rfl,r,q⟩
section
variable {X:Cx}{pj:List (Addr×Obj)}{σ:St}{H:Hp}{s:ς}{l b:Addr}{xs ys zs:List V}
theorem Inv.lset {its its':List δ}{n:Nat}{f:Array δ->Array δ}{t':Nat}(I:Inv X pj σ H s) (hH:H l=some (.lst xs))
  (e:s.heap.get? l=some { cls:=.type "list",data:=.seq its.toArray n }) (hf:f its.toArray=its'.toArray) (hv:Vals ys its') (hz:ys.length<=sizeLine):
  Inv X pj σ (upd H l (.lst ys)) { s with heap:=s.heap.update l (gJ f),toks:=t' }:=by have q:=PySem.IsL.update e f;rw [hf] at q;refine I.write (x:=l) (e:=l) (by rw [hH];exact trivial) (.inl rfl) (fun b' u hb hu=>(aF s.heap (gJ f) (bK hb)).trans hu) ⟨_,q⟩ ?_;exact ⟨hz,its',_,hv,q⟩
theorem Inv.lnew {its:List δ}{t':Nat}(I:Inv X pj σ H s) (hv:Vals ys its) (hz:ys.length<=sizeLine):
  Inv X pj σ (upd H s.heap.objs.size (.lst ys)) { s with heap:=s.heap.push { cls:=.type "list",data:=.seq its.toArray },toks:=t' }:=
 I.laid (fun _ _ q=>μ _ q) (Ζ _) ⟨hz,its,0,hv,Μ _ rfl⟩
theorem Inv.fresh (I:Inv X pj σ H s):H s.heap.objs.size=none:=I.hok.fresh (Ζ _)
theorem Inv.lstM (I:Inv X pj σ H s) (hH:H l=some (.lst xs)):xs.length<=sizeLine/\∃ (its:List δ) (n:Nat),Vals xs its/\xs.length=its.length/\s.heap.get? l=some { cls:=.type "list",data:=.seq its.toArray n }:=by obtain ⟨z,its,n,r,e⟩:=I.hok l _ hH;exact ⟨z,its,n,r,r.length,e⟩
theorem Uz {n:Nat}(h:n<=sizeLine):b8 n=false:=by unfold b8;exact decide_eq_false (by lia)
end
section
variable {X:Cx}
def zdm:V->List V->Hp->VK->Prop:=fun x vs H Q=>∃ l xs y,x=.ref l/\vs=[y]/\H l=some (.lst xs)/\xs.length < sizeLine/\Q .non (upd H l (.lst (xs++[y])))
theorem Xy:MtM X "list.append" zdm:=by intro pj s σ H x vs v us Q I rx rv h;obtain ⟨l,xs,y,rfl,rfl,hH,hz,q⟩:=h;cases rx;obtain ⟨u,rfl,ru⟩:=rv.one;obtain ⟨z,its,n,r,hl,e⟩:=I.lstM hH;refine fY F.slot_list_append ⟨_,e,rfl⟩ F.entry_list_append (F.args_list_append_2 _ _) (PySem.list_append l its.toArray n u (by rw [ο];lia)) ⟨e,?_⟩;refine ⟨.non,_,I.lset (its':=its++[u]) hH e (by simp) (r.append (.cons ru .nil)) ?_,rfl,q⟩;rw [Υ,List.length_singleton];lia
def zdl:V->List V->Hp->VK->Prop:=fun x vs H Q=>∃ l b xs zs,x=.ref l/\vs=[.ref b]/\H l=some (.lst xs)/\H b=some (.lst zs)/\xs.length+zs.length<=sizeLine/\Q .non (upd H l (.lst (xs++zs)))
theorem QG:MtM X "list.extend" zdl:=by
 intro pj s σ H x vs v us Q I rx rv h;obtain ⟨l,b,xs,zs,rfl,rfl,hH,hB,hz,q⟩:=h;cases rx;obtain ⟨u,rfl,ru⟩:=rv.one;cases ru;obtain ⟨z,its,n,r,hl,e⟩:=I.lstM hH;obtain ⟨z2,its2,n2,r2,hl2,e2⟩:=I.lstM hB;have hsz:its.toArray.size+its2.toArray.size<=sizeLine:=by rw [ο,ο];lia
 have hlong:¬ (!its.toArray.isEmpty&&b8 (its.toArray.size+its2.toArray.size))=true:=by rw [Uz hsz,aM];exact Κ
 refine fY F.slot_list_extend ⟨_,e,rfl⟩ F.entry_list_extend (F.args_list_extend_2 _ _)
  (AutoSeq1.list_extend_list_list_0 l its.toArray n b its2.toArray n2 hlong (by rw [ο];lia) (by lia)) ⟨e,e2,?_⟩
 refine ⟨.non,_,I.lset (its':=its++its2) hH e (by simp) (r.append r2) ?_,rfl,q⟩;rw [Υ];lia
end
end L2
namespace Att
open PySem PySem.W PySem.Calls PyProof.Rows
theorem qz {P:Params}{h:Heap}:∀ (ns:List Int) (vs:List δ),WellAll P h vs (ns.map WData.int)->IntsAre vs ns:=by
 intro ns
 induction ns with
 | nil=>
  intro vs w;rw [mD] at w;cases w;exact .nil
 | cons n ns ih=>
  intro vs w;rw [ϐ] at w;cases w with
  | cons a b=>
   cases a;exact .cons _ _ (ih _ b)
theorem Qa {l:OpenLaw}{n:Nat}(hn:l.most=some n) {P:Params}{h:Heap}{args:List WData}{vals:List δ}
  (hpre:l.row.toRowW.claim.pre args=true) (hwl:WellAll P h vals args):
  ∃ a vs ns,vals=[Β a]/\args=[WData.list (ns.map WData.int)]/\h.get? a=some { cls:=.type "list",data:=.seq vs.toArray }/\IntsAre vs ns/\ns.length<=n:=by
 have hsh:WShape.hasAll [] args [.list .int]=true:=(pre_splitW hpre).1;have hc:l.pre.holds [] { args:=args }=true:=(pre_splitW hpre).2;obtain ⟨d,r,rfl,h1,h2⟩:=hasAllW_cons hsh;obtain rfl:=hasAllW_nil h2;obtain ⟨xs,rfl,h3⟩:=hasW_list h1;obtain ⟨ns,rfl⟩:=items_int h3;have hlen:ns.length<=n:=by
  unfold OpenLaw.pre at hc;have h4:(WTm.not (.lt (.lit (.int (n:Int))) (.len (.arg 0)))).holds [] { args:=[.list (ns.map .int)] }=true:=by have h4:=(holds_andW hc).1;rw [hn] at h4;exact h4
  have h5:=condW_of h4 (w_not (w_lt w_lit (w_len_list (w_arg rfl))));rw [ξ] at h5;refine iK fun q=>?_
  have q':(n:Int) < ((ns.length:Nat):Int):=by omega
  first
   | (rw [decide_eq_true q'] at h5;exact absurd h5 (by decide))
   | (simp at h5;omega)
 cases hwl with
 | cons w1 w2=>
  cases w2;cases w1 with
  | list ho hall=>exact ⟨_,_,ns,rfl,rfl,ho,qz ns _ hall,hlen⟩
theorem Qm (l:OpenLaw) (args:List WData):l.row.toRowW.claim.post args (.bool true) args=true:=
 postW_of (r:=l.row.toRowW) (X:=(true==true))
  (show WShape.has [] (.bool true) .bool=true by first | rfl | decide | simp [WShape.has,WShape.arms,WShape.armsAll])
  (show (WTm.eq .res (.lit (.bool true))).value [] { args:=args,res:=some (.bool true),after:=args }=some (.bool (true==true)) from w_eq_bool (w_res rfl) w_lit) rfl
theorem V3 {l:OpenLaw}{n:Nat}{q:Λ}{loose:List Str}{XP:(Str->Option δ)->Heap->Prop}{YP:ϓ->Heap->Prop}{d:DefRec}
  (hn:l.most=some n) (hdf:d.params.defaults=[])
  (call:∀ (w:ϓ) (sy s₁:ς) (mg mb:Str->Option δ) (fa:Addr) (o:Obj) (pm cd doc:δ) (a:Addr) (vs:List δ) (ns:List Int),
   Ground q loose [] XP w sy mg mb s₁.heap->YP w s₁.heap ->
   s₁.heap.get? fa=some o->o.data=.func (docDef d.name d.params d.body d.scope pm cd doc)->s₁.heap.CodeRec cd d.name->mg d.name=some (.ref fa) ->
   s₁.heap.get? a=some { cls:=.type "list",data:=.seq vs.toArray }->IntsAre vs ns->ns.length<=n->s₁.gens=#[] ->
   iZ (ώ l.prog w) callerA (.call (.ref fa) ⟨[.ref a],[]⟩) (fun r s'=>r=.ok (.ret (.bool true))/\OldK s₁.heap s'.heap/\s'.os=s₁.os/\fB s'.gens) s₁):
  WalkO q loose XP YP l.row.toRowW d [] (fun f vs=>PySem.call f vs):=by intro w sy s₁ mg mb G Y fa o pm cd doc dV kV ho hd hcd hD hmg hg args vals as hpre hlay hrd hwl hlo;obtain rfl:dV=.none:=Dflts.none hD hdf;obtain rfl:kV=.none:=Dflts.noKw hD;obtain ⟨a,vs,ns,rfl,rfl,hobj,hints,hlen⟩:=Qa hn hpre hwl;refine enter_call (iY (call w sy s₁ mg mb fa o pm cd doc a vs ns G Y ho (fd_plain hd) hcd hmg hobj hints hlen hg) fun r s' hq=>?_);obtain ⟨rfl,h2,h3,h4⟩:=hq;exact ⟨.inl ⟨.bool true,.bool true,[],rfl,fun _=>rfl,.bool true,Qm l _,fun _=>⟨List.Pairwise.nil,fun _ hm=>(nomatch hm)⟩⟩,h2,h3,h4⟩
end Att
namespace L2
open PySem PySem.Spec PyProof.Rows
theorem YM:∀ {vs:List δ}{ns:List Int},IntsAre vs ns->Vals (ns.map V.int) vs
 | _,_,.nil=>.nil
 | _,_,.cons n t h=>.cons ⟨t,rfl⟩ (YM h)
abbrev CX0:CXT:=fun _ _ _ _ _ _=>False
abbrev E0:XK:=fun _ _ _=>False
structure Fun (K:W.Frag) (x qual:Str) (st:Stmt) (f:Addr) (fd:aV):Prop where
 ex:∃ (oc:δ) (od:Option Addr) (kV doc pm:δ) (an:Option Addr) (cdv ct:δ) (osl:Array (Option δ)),
  fd=W.fnOf x qual (xQ st) (yN st) (zT st) .none kV doc pm an cdv ct/\K.lookup f=some ⟨oc,od,.func fd,osl⟩/\W.codeIn K cdv qual=true
 kp:W.keepIn K (.ref f)=true
section
variable {P:Λ}{w:ϓ}{K:W.Frag}{mg:Str->Option δ}{base:Heap}
theorem Fun.ok {x qual:Str}{st:Stmt}{f:Addr}{fd:aV}{N ps:List Str}{k:Nat}{sp:Sp}(F:Fun K x qual st f fd) (S:YG N ps (zT st)) (len:∀ vs H Q E,sp vs H Q E->vs.length=ps.length)
  (hbody:∀ (cdv:δ) (A:ϙ) (outer:List Env) (s:ς) (H:Hp) (vs:List V) (Q:VK) (E:XK),Room k (A.deeper (iH qual (zT st) s.heap.objs.size f cdv))->sp vs H Q E ->
   ∃ t,PSs (cxOf CX0 P w K mg base N qual (zT st) f cdv A outer s H E).nox (yN st) t/\t { nx:=fun _ H'=>Q .non H',rt:=Q } (start N vs) H):FnOk P w K mg base CX0 (k+1) f fd ps sp:=by
 obtain ⟨oc,od,kV,doc,pm,an,cdv,ct,osl,rfl,lk,hcd⟩:=F.ex;refine zhs (ro:=fun _=>false) lk hcd S len fun A outer s H vs Q E hr hsp=>?_
 obtain ⟨t,h,q⟩:=hbody cdv A outer s H vs Q E hr hsp;exact ⟨t,h.nox,q⟩
theorem Fun.binds {x qual:Str}{st:Stmt}{f:Addr}{fd:aV}{ps:List Str}(F:Fun K x qual st f fd)
  (h:∀ (kV doc pm:δ) (an:Option Addr) (cdv ct:δ) (us:List δ),us.length=ps.length->gD (W.fnOf x qual (xQ st) (yN st) (zT st) .none kV doc pm an cdv ct) ⟨us,[]⟩=pure (ps.zip us)):Binds K fd ps []:=by obtain ⟨oc,od,kV,doc,pm,an,cdv,ct,osl,rfl,lk,hcd⟩:=F.ex;exact .all (h kV doc pm an cdv ct)
theorem zhq {x qual:Str}{st:Stmt}{f:Addr}{oc:δ}{od an:Option Addr}{osl:Array (Option δ)}{kV doc pm cdv ct:δ}(l:K.lookup f=some ⟨oc,od,.func (W.fnOf x qual (xQ st) (yN st) (zT st) .none kV doc pm an cdv ct),osl⟩)
  (c:W.codeIn K cdv qual=true) (k:W.keepIn K (.ref f)=true):Fun K x qual st f (W.fnOf x qual (xQ st) (yN st) (zT st) .none kV doc pm an cdv ct):=⟨⟨oc,od,kV,doc,pm,an,cdv,ct,osl,rfl,l,c⟩,k⟩
end
theorem iteF {A B:Prop}(h:B):if false=true then A else B:=by rw [if_neg Κ];exact h
theorem iteT {A B:Prop}(h:A):if true=true then A else B:=by rw [if_pos rfl];exact h
def Same (H H':Hp):Prop:=∀ b o,H b=some o->H' b=some o
theorem Same.refl (H:Hp):Same H H:=fun _ _ h=>h
theorem Same.trans {H H1 H2:Hp}(a:Same H H1) (b:Same H1 H2):Same H H2:=fun c o h=>b c o (a c o h)
theorem Same.free {H H':Hp}(e:Same H H') {l:Addr}(h:H' l=Option.none):H l=Option.none:=by
 cases q:H l with
 | none=>rfl
 | some o=>
  rw [e l o q] at h;cases h
theorem Same.seq {K:W.Frag}{H H':Hp}{a:Addr}{xs:List V}(e:Same H H') (h:SqL K H a xs):SqL K H' a xs:=by
 rcases h with (h | ⟨o,h⟩) | h
 ·exact .inl (.inl (e _ _ h))
 ·exact .inl (.inr ⟨o,e _ _ h⟩)
 ·exact .inr h
section
variable {X:Cx}{pj:List (Addr×Obj)}{σ:St}{H:Hp}{s:ς}
noncomputable abbrev kn (o:Obj):HO:=.frz o (.ext fun _=>True)
theorem zbL {P:Λ}{w:ϓ}{H:Hp}{h:Heap}{a:Addr}{o:Obj}(e:h.get? a=some o):yo P w H h a (kn o):=⟨e,trivial,⟨o,e⟩,fun _ _ _ _=>trivial⟩
theorem Inv.known {x:Str}{c:Addr}{o:Obj}(I:Inv X pj σ H s) (hc:X.env.cells.lookup x=some c) (hf:X.fn x=false) (hz:X.sy.heap.objs.size<=c) (e:s.heap.get? c=some o) (hn:H c=none):Inv X pj σ (upd H c (kn o)) s:=by
 have ne:∀ b u,H b=some u->b≠c:=fun b u q z=>by rw [z,hn] at q;cases q
 have up:∀ b u,H b=some u->upd H c (kn o) b=some u:=fun b u q=>by rw [zc (ne b u q)];exact q
 obtain ⟨v,o',eo,hd⟩:=I.cell x c hc;rw [e] at eo;cases eo;refine ⟨I.ok,I.os,I.bare,⟨I.base.keep,I.base.slot,fun b ob q n hx=>?_,I.base.there,fun b xs q=>up _ _ (I.base.tups b xs q),fun b ob u q=>up _ _ (I.base.frzs b ob u q),fun b ps q=>?_⟩,I.loc,I.cell,?_,fun y d q=>?_,fun p hp=>?_,fun b u q=>?_,I.len⟩
 ·rw [zc (ϊ (Χ (Θ q) hz))];exact I.base.free b ob q n hx
 ·obtain ⟨m,q1⟩:=I.base.tbls b ps q;exact ⟨m,up _ _ q1⟩
 ·rw [zc (bK (I.cne x c hc))];exact I.free
 ·by_cases hd:d=c
  ·subst hd;cases I.ok.inj _ _ _ q hc;exact .inr ⟨hf,o,zm⟩
  ·rw [zc hd];exact I.freeC y d q
 ·obtain ⟨q1,q2,q3,q4,q5⟩:=I.pin p hp;have:p.1≠c:=fun z=>by rw [z,e] at q1;exact q5 v (by rw [<- Ϛ q1];exact hd)
  exact ⟨q1,by rw [zc this];exact q2,q3,q4,q5⟩
 ·by_cases hb:b=c
  ·subst hb;rw [zm] at q;cases q;exact zbL e
  ·rw [zc hb] at q;exact (I.hok b u q).stay (fun _ _ _ r=>r) (fun d r=>up _ _ r) fun d xs r=>up _ _ r
end
open PySem PySem.Spec PySem.W PyProof.Rows
inductive Trp (R:δ->Prop):List δ->Prop
 | nil:Trp R []
 | cons {i j:Int}{t u:Tok}{c:δ}{l:List δ}(r:R c) (h:Trp R l):Trp R (.int i t::.int j u::c::l)
section
variable {R R':δ->Prop}{l:List δ}
theorem Trp.ok (h:Trp R l):TriplesOk l:=by
 induction h with
 | nil=>trivial
 | cons r h ih=>exact ih
theorem Trp.at {pos:Pos}{cv:δ}(h:Trp R l) (e:codeAmong pos l=some cv):R cv:=by
 induction h with
 | nil=>cases e
 | cons r h ih=>
  rw [codeAmong.eq_1] at e;split at e
  ·cases e;exact r
  ·exact ih e
theorem Trp.snoc {i j:Int}{t u:Tok}{c:δ}(h:Trp R l) (r:R c):Trp R (l++[.int i t,.int j u,c]):=by
 induction h with
 | nil=>exact .cons r .nil
 | cons r h ih=>exact .cons r ih
theorem Trp.mono (h:Trp R l) (m:∀ c,R c->R' c):Trp R' l:=by
 induction h with
 | nil=>exact .nil
 | cons r h ih=>exact .cons (m _ r) ih
end
def zjU (q:Str) (o:Obj):Prop:=∃ vs t,o.data=.fields vs/\vs[1]?=some (.str q t)
def yI (H:Hp) (q:Str) (v:δ):Prop:=∃ c o,v=.ref c/\H c=some (kn o)/\zjU q o
theorem yI.rec_ {P:Λ}{w:ϓ}{H:Hp}{h:Heap}{q:Str}{v:δ}(x:yI H q v) (hok:HOk P w H h):h.CodeRec v q:=by obtain ⟨c,o,e1,e2,vs,t,e3,e4⟩:=x;exact ⟨c,o,vs,t,e1,(hok c _ e2).1,e3,e4⟩
def TabOk (H:Hp) (P:Addr) (q:Str):Prop:=∃ ps,H P=some (.tbl ps)/\Trp (yI H q) ps.toList
noncomputable abbrev lamO (q:Str) (params:aO) (body:Expr) (sc:aH) (cl:List (Str×Addr)) (pm cv ct:δ):Obj:={ cls:=.type "function",data:=.func (kla_fn "<lambda>" q params body sc cl pm cv ct) }
structure ze0 (H:Hp) (h:Heap) (P:Addr) (q:Str) (params:aO) (body:Expr) (sc:aH) (cl:List (Str×Addr)) (a:Addr) (H':Hp):Prop where
 fn:∃ pm cv ct,H' a=some (kn (lamO q params body sc cl pm cv ct))/\yI H' q cv
 tab:TabOk H' P q
 old:∀ b u,H b=some u->b≠P->H' b=some u
 new:∀ b,H b=none->H' b≠none->h.objs.size<=b
 fresh:H a=none
section
variable {X:Cx}{pj:List (Addr×Obj)}{σ:St}{H:Hp}{s:ς}
theorem Inv.lam {params:aO}{body:Expr}{sc:aH}{pos:Pos}{cc P:Addr}{cl:List (Str×Addr)}{Q:VSP}{E:VSP}(I:Inv X pj σ H s)
  (hd:mO params X.env=([],[])) (hcl:mQ sc X.env=pure cl) (hco:X.env.code=.ref cc) (hh:CodeHd s.heap cc P) (hT:TabOk H P (X.env.qual++"<lambda>")) (hg:Ο≠P) (hb:s.heap.BuiltinsAt X.mg P)
  (q:∀ a H' s',Inv X pj σ H' s'->ze0 H s.heap P (X.env.qual++"<lambda>") params body sc cl a H'->Q (.ref a) s'):Ρ (ώ X.prog X.w) X.A (eval (.Lambda params body sc pos) X.env) Q E s:=by
 obtain ⟨ps,hP,tr⟩:=hT;have hPs:=I.hok P _ hP;have hns:s.heap.Ns Ο X.mg:=I.mod.glob.keeps I.bk;refine kla_eval hd ?_;cases hc:codeAmong pos ps.toList with
 | some cv=>
  refine kla_makeFunctionHit hcl I.ok.glob hns hco hh hPs tr.ok hc hb fun ct h' tk k hz=>?_
  have k2:∀ b u,s.heap.get? b=some u->(h'.push (lamO (X.env.qual++"<lambda>") params body sc cl ((X.mg "__name__").getD .none) cv ct)).get? b=some u:=fun b u e=>μ _ (k b u e)
  have hf:H h'.objs.size=none:=I.hok.fresh hz;have up:∀ b u,H b=some u->upd H h'.objs.size (kn (lamO (X.env.qual++"<lambda>") params body sc cl ((X.mg "__name__").getD .none) cv ct)) b=some u:=fun b u e=>by rw [zc (zq e hf)];exact e
  have cm:∀ v,yI H (X.env.qual++"<lambda>") v->yI (upd H h'.objs.size (kn (lamO (X.env.qual++"<lambda>") params body sc cl ((X.mg "__name__").getD .none) cv ct))) (X.env.qual++"<lambda>") v:=fun v ⟨c,o,e1,e2,e3⟩=>⟨c,o,e1,up _ _ e2,e3⟩
  refine q _ _ _ (I.laid (a:=h'.objs.size) (t':=tk) k2 hz (zbL (Μ _ rfl))) ⟨⟨_,cv,ct,zm,cm _ (tr.at hc)⟩,⟨ps,up _ _ hP,tr.mono cm⟩,fun b u e _=>up b u e,fun b e n=>?_,hf⟩;by_cases hba:b=h'.objs.size
  ·rw [hba];exact hz
  ·rw [zc hba] at n;exact absurd e n
 | none=>
  refine kla_makeFunction hcl I.ok.glob hns hco hh hPs tr.ok hc hg hb fun c ct h' tk ext h1 h2 cr hP2=>?_
  obtain ⟨_,oc,vs,t,ec,hoc,ed,ev⟩:=cr;cases ec;generalize hps:ps++#[aR (pos.line:Int),aR (pos.col:Int),Β c]=ps2 at hP2;generalize hO:kla_obj "<lambda>" (X.env.qual++"<lambda>") params body sc cl ((X.mg "__name__").getD .none) c ct=O;have hOf:O.isFreed=false:=by rw [<- hO];rfl
  have hz:s.heap.objs.size<=h'.objs.size:=ϡ h1 (fD h2);have nc:H c=none:=I.hok.fresh h1;have na:H h'.objs.size=none:=I.hok.fresh hz;have neP:∀ b,H b=none->b≠P:=fun b e z=>by rw [z,hP] at e;cases e
  have cP:c≠P:=neP c nc;have aP:h'.objs.size≠P:=neP _ na;have ac:h'.objs.size≠c:=fC h2;generalize hH:upd (upd (upd H P (.tbl ps2)) c (kn oc)) h'.objs.size (kn O)=H2;have Ha:H2 h'.objs.size=some (kn O):=by rw [<- hH];exact zm
  have Hc:H2 c=some (kn oc):=by rw [<- hH,zc (bK ac)];exact zm
  have HP:H2 P=some (.tbl ps2):=by rw [<- hH,zc (bK aP),zc (bK cP)];exact zm
  have Ho:∀ b,b≠P->b≠c->b≠h'.objs.size->H2 b=H b:=fun b n1 n2 n3=>by rw [<- hH,zc n3,zc n2,zc n1]
  have up:∀ b u,H b=some u->b≠P->H2 b=some u:=fun b u e n=>(Ho b n (zq e nc) (zq e na)).trans e
  have k2:∀ b o,b≠P->s.heap.get? b=some o->(h'.push O).get? b=some o:=fun b o n e=>μ _ (ext b o n e)
  have kp:∀ b o,s.heap.get? b=some o->H b=none->(h'.push O).get? b=some o:=fun b o e n=>k2 b o (neP b n) e
  have hP3:(h'.push O).get? P=some { cls:=.none,data:=.fields ps2 }:=μ _ hP2;have hok:HOk X.prog X.w H2 (h'.push O):=fun b u e=>by
   by_cases n3:b=h'.objs.size
   ·subst n3;rw [Ha] at e;cases e;exact zbL (Μ _ hOf)
   by_cases n2:b=c
   ·subst n2;rw [Hc] at e;cases e;exact zbL (μ _ hoc)
   by_cases n1:b=P
   ·subst n1;rw [HP] at e;cases e;exact hP3
   ·rw [Ho b n1 n2 n3] at e;refine (I.hok b u e).stay (fun d v hd q=>?_) (fun d q=>up _ _ q fun z=>?_) fun d xs q=>up _ _ q fun z=>?_
    ·refine k2 d v ?_ q;rcases hd with rfl | hd
     ·exact n1
     ·intro z;rw [z,hP] at hd;cases hd
    ·rw [z,hP] at q;cases q
    ·rw [z,hP] at q;cases q
  have J:Inv X pj σ H2 { s with heap:=h'.push O,gens:=s.gens,drawn:=s.drawn,toks:=tk }:=by
   refine I.step (ch:=[]) (fun _ z=>nomatch z) (fun b o _ _ _ e n=>kp b o e n) (fun b o _ _ _ e n=>⟨o.slots,kp b o e n⟩) (fun b o _ e n=>?_) (fun b o _ e=>?_) (fun b xs q=>up _ _ q fun z=>?_) (fun b o u q=>up _ _ q fun z=>?_) (fun b qs q0=>?_) (fun m hm=>?_) hok I.bare
   ·have hl:=Θ e;exact (Ho b (neP b n) (ϊ (Χ hl h1)) (ϊ (Χ hl hz))).trans n
   ·by_cases n:b=P
    ·exact ⟨_,by rw [n];exact hP3⟩
    ·exact ⟨o,k2 b o n e⟩
   ·rw [z,hP] at q;cases q
   ·rw [z,hP] at q;cases q
   ·by_cases n:b=P
    ·subst n;rw [hP] at q0;cases q0;exact ⟨_,by rw [HP,<- hps]⟩
    ·exact ⟨#[],by rw [up _ _ q0 n];simp⟩
   ·obtain ⟨o,es,ep,ho,r⟩:=hm;exact ⟨o,es,ep,kp _ o ho I.free,r⟩
  have cm:∀ v,yI H (X.env.qual++"<lambda>") v->yI H2 (X.env.qual++"<lambda>") v:=fun v ⟨d,o,e1,e2,e3⟩=>⟨d,o,e1,up _ _ e2 (fun z=>by rw [z,hP] at e2;cases e2),e3⟩
  have cn:yI H2 (X.env.qual++"<lambda>") (.ref c):=⟨c,oc,rfl,Hc,vs,t,ed,ev⟩
  refine q _ _ _ J ⟨⟨_,.ref c,ct,by rw [Ha,<- hO],cn⟩,⟨ps2,HP,?_⟩,up,fun b e n=>?_,na⟩
  ·rw [<- hps,Array.toList_append];exact (tr.mono cm).snoc cn
  ·by_cases n3:b=h'.objs.size
   ·rw [n3];exact hz
   by_cases n2:b=c
   ·rw [n2];exact h1
   ·rw [Ho b (neP b e) n2 n3] at n;exact absurd e n
end
noncomputable def cxL (P:Λ) (w:ϓ) (K:W.Frag) (mg:Str->Option δ) (base:Heap) (N:List Str) (q:Str) (sc:aH) (a:Addr) (cv:δ) (cl:List (Str×Addr)) (A:ϙ) (outer:List Env) (s:ς) (H:Hp):Cx where
 prog:=P
 w:=w
 K:=K
 mg:=mg
 base:=base
 A:=A.deeper (envX q sc s.heap.objs.size a cv cl)
 N:=N
 sy:=s
 Hz:=H
 env:=envX q sc s.heap.objs.size a cv cl
 outer:=outer
 stack:=envX q sc s.heap.objs.size a cv cl::outer
 ex:=[]
 fn:=fun _=>false
 calm:=true
 pn:=[]
 xe:=fun _ _=>False
structure YF (ps fs:List Str) (sc:aH):Prop where
 kind:sc.kind=.function
 co:sc.isCoroutine=false
 gen:sc.isGenerator=false
 cell:∀ y∈sc.names,y.2≠.cell
 par:∀ x∈ps,sc.names.lookup x=some .local
 fre:∀ x∈fs,sc.names.lookup x=some .free
 all:∀ x,sc.names.lookup x=some .free->x∈fs
 nd:(ps++fs).Nodup
def Cap (H:Hp) (cl:List (Str×Addr)) (x:Str) (w:V):Prop:=∃ c o u,cl.lookup x=some c/\H c=some (kn o)/\o.data=.cell (some u)/\RelV w u
structure Clo (H:Hp) (cl:List (Str×Addr)) (fs:List Str) (ws:List V):Prop where
 len:fs.length=ws.length
 cap:∀ (j:Nat) (x:Str) (w:V),fs[j]?=some x->ws[j]?=some w->Cap H cl x w
 sub:∀ x c,cl.lookup x=some c->x∈fs
 inj:∀ x y c,cl.lookup x=some c->cl.lookup y=some c->x=y
theorem Clo.has {H:Hp}{cl:List (Str×Addr)}{fs:List Str}{ws:List V}(h:Clo H cl fs ws) {x:Str}(hx:x∈fs):∃ w,Cap H cl x w:=by
 obtain ⟨j,hj⟩:=ϳ.mp hx;have hl:j < ws.length:=by rw [<- h.len];exact (υ.mp hj).1
 exact ⟨ws[j],h.cap j x _ hj (ψ hl)⟩
theorem U3:∀ {ps:List Str}{us:List δ}{i:Nat}{x:Str}{u:δ},ps.Nodup->ps[i]?=some x->us[i]?=some u->(ps.zip us).reverse.lookup x=some u
 | [],_,_,_,_,_,h,_=>by simp at h
 | _::_,[],_,_,_,_,_,h=>by simp at h
 | p::ps,v::us,0,x,u,nd,h1,h2=>by
  simp at h1 h2;subst h1 h2;rw [bc,nC,m8];have:(ps.zip us).reverse.lookup p=none:=by rw [List.lookup_eq_none_iff];rintro ⟨a,b⟩ hm;have:=(bO (List.mem_reverse.mp hm)).1;simp only [bne_iff_ne,ne_eq];rintro rfl;exact (bA.mp nd).1 this
  rw [this];simp
 | p::ps,v::us,i+1,x,u,nd,h1,h2=>by rw [bc,nC,m8,U3 (bA.mp nd).2 (by simpa using h1) (by simpa using h2)];rfl
section
variable {P:Λ}{w:ϓ}{K:W.Frag}{mg:Str->Option δ}{base:Heap}{ps fs:List Str}{q:Str}{sc:aH}{a:Addr}{cv:δ}{cl:List (Str×Addr)}{A:ϙ}{outer:List Env}{s:ς}{H:Hp}{us:List δ}{vs ws:List V}{h1:Heap}{tk:Nat}{o:Obj}
theorem zee (S:YF ps fs sc) (hd:A.handled=none) (e0:Env0 P w K mg base A outer s H) (C:Clo H cl fs ws) (hl:vs.length=ps.length) (r:Vals vs us)
  (hns:h1.Ns s.heap.objs.size fun x=>(ps.zip us).reverse.lookup x) (hsb:Ϫ s.heap.objs.size (s.heap.push o) h1):Inv (cxL P w K mg base (ps++fs) q sc a cv cl A outer s H) [] ((vs++ws).map some) H { s with heap:=h1,toks:=tk }:=by
 have kept:∀ b u,s.heap.get? b=some u->h1.get? b=some u:=fun b u e=>(hsb.2 b (ϊ (Θ e))).trans (μ _ e)
 have noA:∀ b:Addr,b ∉ ([]:List Addr):=fun b z=>(nomatch z)
 have hok:=e0.hok.kept kept
 refine ⟨⟨e0.mod,S.kind,rfl,rfl,Ζ _,C.inj,fun y hy=>?_,fun y c z=>(nomatch z),fun _=>hd,mH e0.frames,.inr ⟨rfl,rfl⟩,fun b z=>absurd z (noA b),e0.bs,e0.bsz,fun b _ _=>noA b,fun b z=>absurd z (noA b),e0.funs,e0.frf⟩,
  rfl,e0.bare,Un.kept kept,⟨_,hns,fun i y v e1 e2 e3=>?_⟩,fun y c e=>?_,e0.hok.fresh (Ζ _),fun y c e=>?_,fun p hp=>absurd (show p∈([]:List (Addr×Obj)) from hp) (by simp),hok,?_⟩
 ·have hy:sc.names.lookup y=some .cell\/sc.names.lookup y=some .free:=hy;rcases hy with hy | hy
  ·exact absurd rfl (S.cell _ (Ϣ hy))
  ·obtain ⟨_,c,_,_,e,_⟩:=C.has (S.all y hy);exact ⟨c,e⟩
 ·have e1:(ps++fs)[i]?=some y:=e1;have e2:(vs++ws)[i]?=some v:=by
   rw [Η] at e2;cases q:(vs++ws)[i]? with
   | none=>rw [q] at e2;cases e2
   | some z=>rw [q] at e2;cases e2;rfl
  by_cases hi:i < ps.length
  ·rw [ϑ hi] at e1;rw [ϑ (by omega)] at e2;obtain ⟨u,hu,rv⟩:=r.get e2;exact ⟨u,rv,.inl ⟨S.par y (Ξ e1),U3 (bZ.mp S.nd).1 e1 hu⟩⟩
  ·rw [ϔ (by omega)] at e1;rw [ϔ (by omega),hl] at e2;obtain ⟨c,ob,u,f1,f2,f3,f4⟩:=C.cap _ _ _ e1 e2;exact ⟨u,f4,.inr ⟨.inr (S.fre y (Ξ e1)),c,f1,ob,(hok c _ f2).1,f3⟩⟩
 ·obtain ⟨_,c',ob,u,f1,f2,f3,f4⟩:=C.has (C.sub y c e);have:c'=c:=Ϛ (f1.symm.trans e);subst this;exact ⟨_,ob,(hok _ _ f2).1,f3⟩
 ·obtain ⟨_,c',ob,u,f1,f2,f3,f4⟩:=C.has (C.sub y c e);have:c'=c:=Ϛ (f1.symm.trans e);subst this;exact .inr ⟨rfl,ob,f2⟩
 ·show ((vs++ws).map some).length=(ps++fs).length
  rw [ξ,Υ,Υ,hl,C.len]
theorem zd8 {CX:CXT}{params:aO}{body:Expr}{pm ct:δ}{Q:VK}{E:XK}{k:Nat}{t:TE}(S:YF ps fs sc) (hr:Room (k+1) A) (e0:Env0 P w K mg base A outer s H)
  (ha:H a=some (kn (lamO q params body sc cl pm cv ct))) (hc:yI H q cv) (C:Clo H cl fs ws) (hl:vs.length=ps.length) (r:Vals vs us)
  (hb:gD (kla_fn "<lambda>" q params body sc cl pm cv ct) ⟨us,[]⟩=pure (ps.zip us))
  (hbody:Room k (A.deeper (envX q sc s.heap.objs.size a cv cl))->PE (cxL P w K mg base (ps++fs) q sc a cv cl A outer s H) body t) (hq:t ((vs++ws).map some) H Q):
  iZ (ώ P w) A (.call (.ref a) ⟨us,[]⟩) (CR CX outer P w H s Q E) s:=by
 have lim:s.heap.NoLimit:=e0.mod.nolimit.keeps fun b o e=>(e0.bs b o e).1
 refine kla_callFunE hr.depth (e0.hok a _ ha).1 rfl S.co S.gen rfl (hc.rec_ e0.hok) ?_;rw [hb];refine π ?_;refine wpAny_newFunctionEnv S.cell (fun x hx=>S.par _ (bO hx).1) (fun h1 hns hsb=>?_) S.kind;have kept:∀ b u,s.heap.get? b=some u->h1.get? b=some u:=fun b u e=>(hsb.2 b (ϊ (Θ e))).trans (μ _ e)
 refine ⟨lim.keeps kept,kla_codeExpr ?_⟩;have I:=zee (q:=q) (a:=a) (cv:=cv) (tk:=s.toks+(ps.zip us).length) S hr.hd e0 C hl r hns hsb;refine bU (hbody (hr.deeper _) [] _ _ H Q I hq) (fun v s' hs=>?_) fun e s' hs=>hs.elim
 obtain ⟨x,H',J,rv,hq⟩:=hs;exact ⟨x,H',J.os,J.bare,J.base,J.hok,rv,hq⟩
end
section
variable {X:Cx}{pj:List (Addr×Obj)}{σ:St}{s:ς}
def CapX (X:Cx) (H:Hp) (x:Str) (w:V):Prop:=∃ c o u,X.env.cells.lookup x=some c/\H c=some (kn o)/\o.data=.cell (some u)/\RelV w u
theorem Inv.knows (hz:∀ x c,X.env.cells.lookup x=some c->X.sy.heap.objs.size<=c):∀ (L:List (Nat×Str×V)) {H:Hp},Inv X pj σ H s->(∀ t∈L,X.N[t.1]?=some t.2.1/\σ[t.1]?=some (some t.2.2)/\X.fn t.2.1=false/\X.env.scope.names.lookup t.2.1=some .cell) ->
  ∃ H1,Inv X pj σ H1 s/\(∀ b u,H b=some u->H1 b=some u)/\(∀ b,H1 b≠none->H b≠none\/∃ x,X.env.cells.lookup x=some b)/\∀ t∈L,CapX X H1 t.2.1 t.2.2
 | [],H,I,_=>⟨H,I,fun _ _ e=>e,fun _ e=>.inl e,fun _ z=>nomatch z⟩
 | (j,x,v)::L,H,I,h=>by
  obtain ⟨e1,e2,hf,hk⟩:=h (j,x,v) θ;obtain ⟨m,_,hl⟩:=id I.loc;obtain ⟨u,rv,lk⟩:=hl j x v e1 e2 (.inr (.inl hk));rcases lk with ⟨k,_⟩ | ⟨_,c,hc,o,eo,ed⟩
  ·have k:X.env.scope.names.lookup x=some .local:=k;rw [hk] at k;cases k
  have go:∃ H0,Inv X pj σ H0 s/\(∀ b u,H b=some u->H0 b=some u)/\(∀ b,H0 b≠none->H b≠none\/∃ x,X.env.cells.lookup x=some b)/\H0 c=some (kn o):=by
   rcases I.freeC x c hc with hn | ⟨_,o',ho⟩
   ·refine ⟨upd H c (kn o),I.known hc hf (hz x c hc) eo hn,fun b u e=>by rw [zc (zq e hn)];exact e,fun b e=>?_,zm⟩;by_cases hb:b=c
    ·exact .inr ⟨x,by rw [hb];exact hc⟩
    ·rw [zc hb] at e;exact .inl e
   ·have:=(I.hok c _ ho).1;rw [eo] at this;cases this;exact ⟨H,I,fun _ _ e=>e,fun _ e=>.inl e,ho⟩
  obtain ⟨H0,I0,s0,n0,k0⟩:=go;obtain ⟨H1,I1,s1,n1,k1⟩:=Inv.knows hz L I0 fun t ht=>h t (ι _ ht)
  refine ⟨H1,I1,fun b u e=>s1 b u (s0 b u e),fun b e=>?_,fun t ht=>?_⟩
  ·rcases n1 b e with z | z
   ·exact n0 b z
   ·exact .inr z
  ·rcases χ.mp ht with rfl | ht
   ·exact ⟨c,o,u,hc,s1 _ _ k0,ed,rv⟩
   ·exact k1 t ht
end
theorem uW {prog:Λ}{w:ϓ}{A:ϙ}{E:VSP}{s:ς}{it l:Addr}{i:Nat}{items:Array δ}{x:δ}{Q:VSP}(hit:s.heap.IsTupleIter it l i) (hl:s.heap.IsTuple l items) (hx:items[i]?=some x)
  (hQ:∀ h':Heap,h'.IsTupleIter it l (i+1)->Ϫ it s.heap h'->Q x { s with heap:=h' }):Ρ (ώ prog w) A (fQ (.ref it)) Q E s:=by obtain ⟨o,ho,hc,hd⟩:=id hit;obtain ⟨ol,hol,left,nl,hdl⟩:=hl;refine ζ (aj hit.typeIs F.slot_tuple_iterator_next (aD F.slot_tuple_iterator_next hit.typeIs F.entry_tuple_iterator_next ?_ (F.args_tuple_iterator_next_1 (.ref it))));refine ζ ?_;rw [show slotArgs "__next__" 0 { pos:=[Β it] }=pure (Β it,[]) from rfl];refine π ?_;refine ζ (ao ho hd rfl ?_);refine ζ (ao ho hd rfl ?_);refine ζ (wpAny_seqItems hol hdl ?_);have hx':items[((i:Int)).toNat]?=some x:=hx;simp only [hx'];refine ζ (cH ho hd (by simp) (π ⟨x,rfl,π (hQ _ ⟨_,bu _ ho (bY (aL hd _)),(iu o _).trans hc,?_⟩ (cZ s.heap it _))⟩));rw [aL hd];simp [aR]
theorem jx {prog:Λ}{w:ϓ}{A:ϙ}{E:VSP}{s:ς}{it l:Addr}{i:Nat}{items:Array δ}{Q:VSP}(hh:A.handled=none) (hit:s.heap.IsTupleIter it l i) (hl:s.heap.IsTuple l items) (hx:items[i]?=none)
  (hE:∀ (h':Heap) (e:Addr),iQ it s.heap h'->(∃ o,h'.get? e=some o/\o.cls=ό "StopIteration")->E (Β e) { s with heap:=h' }):Ρ (ώ prog w) A (fQ (.ref it)) Q E s:=by
 obtain ⟨o,ho,hc,hd⟩:=id hit;obtain ⟨ol,hol,left,nl,hdl⟩:=hl;refine ζ (aj hit.typeIs F.slot_tuple_iterator_next (aD F.slot_tuple_iterator_next hit.typeIs F.entry_tuple_iterator_next ?_ (F.args_tuple_iterator_next_1 (.ref it))));refine ζ ?_;rw [show slotArgs "__next__" 0 { pos:=[Β it] }=pure (Β it,[]) from rfl];refine π ?_;refine ζ (ao ho hd rfl ?_);refine ζ (ao ho hd rfl ?_);refine ζ (wpAny_seqItems hol hdl ?_);have hx':items[((i:Int)).toNat]?=none:=hx;simp only [hx'];refine ζ (d9 (ζ (cH ho hd (by simp) ?_)));refine ζ ?_;refine ζ (Ϝ ?_);refine ζ (c7 rfl (Ϝ ?_));refine ζ (wpAny_handled ?_);rw [show A.in1.handled=none from hh];refine wpAny_throw (hE _ _ (fun b o' hb hg=>?_) ⟨_,Μ _ rfl,rfl⟩)
 ·exact μ _ (μ _ (by rw [(cZ s.heap it _).2 b hb];exact hg))
theorem Yv {prog:Λ}{w:ϓ}{A:ϙ}{E:VSP}{s:ς}{e it l:Addr}{i:Nat}{items:Array δ}{x old:δ}{Q:VSP}(he:IsEnum s.heap e it (i:Int) old) (hit:s.heap.IsTupleIter it l i) (hl:s.heap.IsTuple l items) (hx:items[i]?=some x) (hne:e≠it)
  (hQ:∀ h':Heap,IsEnumOut h' e it ((i:Int)+1) x s.heap.objs.size->h'.IsTupleIter it l (i+1)->h'.get? s.heap.objs.size=some { cls:=ό "tuple",data:=eV #[ϒ (i:Int) s.toks,x] }->h'.objs.size=s.heap.objs.size+1 ->
   (∀ (b:Addr) (o:Obj),b≠e->b≠it->s.heap.get? b=some o->h'.get? b=some o)->Q (Β s.heap.objs.size) { heap:=h',gens:=s.gens,drawn:=s.drawn,toks:=s.toks+1,os:=s.os }):
  Ρ (ώ prog w) A (Ω.«enumerate.__next__» { pos:=[Β e] }) (fun fin s'=>∃ v,fin=Fin.done (Flow.ret v)/\Q v s') E s:=by
 obtain ⟨hp,gs,dr,tk,os⟩:=s;dsimp only at *;refine ζ ?_;rw [show slotArgs "__next__" 0 { pos:=[Β e] }=pure (Β e,[]) from rfl];refine π ?_;refine ζ (ao he rfl rfl ?_);refine ζ (uW hit hl hx fun h1 hit1 sb1=>?_);have he1:IsEnum h1 e it (i:Int) old:=(sb1.2 e hne).trans he;refine ζ (ao he1 rfl rfl ?_);refine ζ (ao he1 rfl rfl ?_);rw [if_pos (by rfl)];refine ζ (wpAny_mkInt ?_);refine ζ (cX he1 (by simp) fun h2 he2 sb2=>?_);have he2:h2.get? e=some { cls:=ό "enumerate",data:=Ϻ #[Δ,ϕ false,Β it,aR ((i:Int)+1),Δ,old] }:=by simpa using he2
 refine ζ (cX he2 (by simp) fun h3 he3 sb3=>?_);have he3:h3.get? e=some { cls:=ό "enumerate",data:=Ϻ #[Δ,ϕ false,Β it,aR ((i:Int)+1),Δ,old] }:=by simpa using he3
 have z1:h1.objs.size=hp.objs.size:=sb1.1;have z2:h2.objs.size=h1.objs.size:=sb2.1;have z3:h3.objs.size=h2.objs.size:=sb3.1;refine ζ (wpAny_newTuple ?_ (by rw [bD];simp));dsimp only;have he4:=μ { cls:=ό "tuple",data:=eV [ϒ (↑i) tk,x].toArray } he3;have t4:(h3.push { cls:=ό "tuple",data:=eV [ϒ (↑i) tk,x].toArray }).get? h3.objs.size=some { cls:=ό "tuple",data:=eV [ϒ (↑i) tk,x].toArray }:=Μ _ rfl;have z4:(h3.push { cls:=ό "tuple",data:=eV [ϒ (↑i) tk,x].toArray }).objs.size=h3.objs.size+1:=cz _ _;have k4:∀ (b:Addr) (o:Obj),h3.get? b=some o->(h3.push { cls:=ό "tuple",data:=eV [ϒ (↑i) tk,x].toArray }).get? b=some o:=fun b o h=>μ _ h
 generalize h3.push { cls:=ό "tuple",data:=eV [ϒ (↑i) tk,x].toArray }=h4 at *;refine ζ ?_;refine ζ (ao he4 rfl rfl ?_);refine π ?_;refine ζ (d9 (ζ (ao he4 rfl rfl ?_)));refine ζ (cX he4 (by simp) fun h5 he5 sb5=>?_);have he5:h5.get? e=some { cls:=ό "enumerate",data:=Ϻ #[Δ,ϕ false,Β it,aR ((i:Int)+1),Δ,x] }:=by simpa using he5
 refine ζ ?_;refine ζ (cX he5 (by simp) fun h6 he6 sb6=>?_);have he6:h6.get? e=some { cls:=ό "enumerate",data:=Ϻ #[aR (h3.objs.size:Int),ϕ false,Β it,aR ((i:Int)+1),Δ,x] }:=by simpa using he6
 refine cX he6 (by simp) fun h7 he7 sb7=>?_
 have he7:h7.get? e=some { cls:=ό "enumerate",data:=Ϻ #[aR (h3.objs.size:Int),ϕ false,Β it,aR ((i:Int)+1),Δ,x] }:=by simpa using he7
 refine ζ (wpAny_letGo ?_);have hs:h3.objs.size=hp.objs.size:=by lia
 have lt:∀ {h:Heap}{b:Addr}{o:Obj},h.get? b=some o->b < h.objs.size:=fun h=>Θ h
 have hep:e≠h3.objs.size:=ϊ (lt he3);have back:∀ b:Addr,b≠e->h7.get? b=h4.get? b:=fun b hb=>(sb7.2 b hb).trans ((sb6.2 b hb).trans (sb5.2 b hb))
 have z7:h7.objs.size=h4.objs.size:=sb7.1.trans (sb6.1.trans sb5.1);refine π ⟨_,rfl,?_⟩;rw [hs] at he7 t4 hep ⊢;refine hQ h7 he7 ?_ ?_ (by lia) fun b o hb hb' hg=>?_
 ·obtain ⟨o,ho,hr⟩:=id hit1;refine ⟨o,?_,hr⟩;rw [back it (fun q=>hne q.symm)];exact k4 it o ((sb3.2 it (fun q=>hne q.symm)).trans ((sb2.2 it (fun q=>hne q.symm)).trans ho))
 ·rw [back _ (fun q=>hep q.symm)];exact t4
 ·rw [back b hb];exact k4 b o ((sb3.2 b hb).trans ((sb2.2 b hb).trans ((sb1.2 b hb').trans hg)))
theorem qe {prog:Λ}{w:ϓ}{A:ϙ}{E:VSP}{s:ς}{e it l:Addr}{i:Nat}{items:Array δ}{x old:δ}{Q:Option δ->ς->Prop}(he:IsEnum s.heap e it (i:Int) old) (hit:s.heap.IsTupleIter it l i) (hl:s.heap.IsTuple l items) (hx:items[i]?=some x) (hne:e≠it)
  (hQ:∀ h':Heap,IsEnumOut h' e it ((i:Int)+1) x s.heap.objs.size->h'.IsTupleIter it l (i+1)->h'.get? s.heap.objs.size=some { cls:=ό "tuple",data:=eV #[ϒ (i:Int) s.toks,x] }->h'.objs.size=s.heap.objs.size+1 ->
   (∀ (b:Addr) (o:Obj),b≠e->b≠it->s.heap.get? b=some o->h'.get? b=some o)->Q (some (Β s.heap.objs.size)) { heap:=h',gens:=s.gens,drawn:=s.drawn,toks:=s.toks+1,os:=s.os }):
  Ρ (ώ prog w) A (pyNext (.ref e)) Q E s:=by
 have ty:lu s (.ref e) "enumerate":=⟨_,he,rfl⟩
 refine ζ (iB (aj ty F.slot_enumerate_next (aD F.slot_enumerate_next ty F.entry_enumerate_next (Yv he hit hl hx hne fun h' a b c d f=>?_) (F.args_enumerate_next_1 _))));exact π (hQ h' a b c d f)
theorem vW {prog:Λ}{w:ϓ}{A:ϙ}{E:VSP}{s:ς}{e it l:Addr}{i:Nat}{items:Array δ}{old:δ}{Q:Option δ->ς->Prop}(hh:A.handled=none) (he:IsEnum s.heap e it (i:Int) old) (hit:s.heap.IsTupleIter it l i) (hl:s.heap.IsTuple l items) (hx:items[i]?=none)
  (hQ:∀ h':Heap,iQ it s.heap h'->Q none { s with heap:=h' }):Ρ (ώ prog w) A (pyNext (.ref e)) Q E s:=by
 have ty:lu s (.ref e) "enumerate":=⟨_,he,rfl⟩
 refine ζ (iB (aj ty F.slot_enumerate_next (aD F.slot_enumerate_next ty F.entry_enumerate_next ?_ (F.args_enumerate_next_1 _))));refine ζ ?_;rw [show slotArgs "__next__" 0 { pos:=[Β e] }=pure (Β e,[]) from rfl];refine π ?_;refine ζ (ao he rfl rfl ?_);refine ζ (jx (by exact hh) hit hl hx fun h' e' ext ⟨o,ho,hc⟩=>?_);refine ζ (wpAny_isInstance (T:="StopIteration") (b:=true) ⟨o,ho,hc⟩ isSubtype_stop ?_);exact π (hQ h' ext)
set_option tactic.hygienic true in
theorem qm (l:Addr) (items:Array δ):Meets (Ω.«enumerate.__new__» { pos:=[ό "enumerate",Β l] }) fun x R s=>
  s.heap.IsTuple l items/\R (Except.ok (Flow.ret (Β (s.heap.push { cls:=ό "tuple_iterator",data:=Ϻ #[Β l,ϒ 0 0] }).objs.size)))
   { heap:=(s.heap.push { cls:=ό "tuple_iterator",data:=Ϻ #[Β l,ϒ 0 0] }).push { cls:=ό "enumerate",data:=Ϻ #[Δ,ϕ false,Β s.heap.objs.size,aR 0,Δ,Δ] },gens:=s.gens,drawn:=s.drawn,toks:=s.toks,os:=s.os }:=
 Meets.of_wp fun prog w A R s h=>by
  obtain ⟨hp,g,d,tk,os⟩:=s;obtain ⟨hl,h⟩:=h;have hsub:=sub_enumerate;refine ζ ?_;refine ζ ?_;refine π ?_;refine gb rfl ?_;refine ζ (c7 hsub ?_);refine gb rfl ?_;refine π ?_;refine wpAny_ite_true rfl ?_;refine ζ ?_;refine ζ (wpAny_stack_any fun st=>?_);refine π ?_;have fin:Ρ (ώ prog w) A.in1 (pyIter (Β l) >>= fun it=>Ω.SmallTypes.newRecord (ό "enumerate") (Ω.SmallTypes.ownedTupleFields++[it,aR 0,Δ,Δ]) >>= fun v=>ret v)
    (fun fin s'=>∃ v,fin=Fin.done (Flow.ret v)/\R (Except.ok (Flow.ret v)) s') (fun e s'=>R (Except.error e) s') { heap:=hp,gens:=g,drawn:=d,toks:=tk,os:=os }:=
   by
   refine ζ (wpAny_pyIter_tuple hl ?_);refine ζ ?_;refine Ϝ (T:="enumerate") (data:=Ϻ #[Δ,ϕ false,Β hp.objs.size,aR 0,Δ,Δ]) (dict:=none) ?_;exact π ⟨_,rfl,h⟩
  split
  ·rename_i c _ _ _ _ _
   generalize (c==ό "enumerate")=b;cases b with
   | true=>exact wpAny_ite_true rfl (ζ (c7 rfl fin))
   | false=>exact gb rfl (ζ (c7 rfl fin))
  ·exact gb rfl (ζ (c7 rfl fin))
theorem uL {prog:Λ}{w:ϓ}{A:ϙ}{E:VSP}{s:ς}{l:Addr}{items:Array δ}{Q:VSP}(hl:s.heap.IsTuple l items)
  (h:∀ h':Heap,IsEnum h' (s.heap.objs.size+1) s.heap.objs.size 0 Δ->h'.IsTupleIter s.heap.objs.size l 0->h'.objs.size=s.heap.objs.size+2->(∀ (b:Addr) (o:Obj),s.heap.get? b=some o->h'.get? b=some o)->Q (Β (s.heap.objs.size+1)) { s with heap:=h' }):
  Ρ (ώ prog w) A (call (ό "enumerate") [Β l]) Q E s:=by
 have hz:=cz s.heap { cls:=ό "tuple_iterator",data:=Ϻ #[Β l,ϒ 0 0] };refine callType_new F.called_enumerate (by decide) (F.typeCall_enumerate_1 (Β l)) (F.newCall_enumerate_1 (Β l)) (fun obj=>F.args_object_init_2 obj (Β l)) F.entry_enumerate_new (qm l items) ⟨hl,?_⟩;have he:=Μ (s.heap.push { cls:=ό "tuple_iterator",data:=Ϻ #[Β l,ϒ 0 0] }) (o:={ cls:=ό "enumerate",data:=Ϻ #[Δ,ϕ false,Β s.heap.objs.size,aR 0,Δ,Δ] }) rfl;have hi:=μ { cls:=ό "enumerate",data:=Ϻ #[Δ,ϕ false,Β s.heap.objs.size,aR 0,Δ,Δ] } (Μ s.heap (o:={ cls:=ό "tuple_iterator",data:=Ϻ #[Β l,ϒ 0 0] }) rfl);have hz2:=cz (s.heap.push { cls:=ό "tuple_iterator",data:=Ϻ #[Β l,ϒ 0 0] }) { cls:=ό "enumerate",data:=Ϻ #[Δ,ϕ false,Β s.heap.objs.size,aR 0,Δ,Δ] };show lu _ _ "enumerate"/\_
 rw [hz] at he ⊢;exact ⟨⟨_,he,rfl⟩,h _ he ⟨_,hi,rfl,rfl⟩ (by rw [hz2,hz]) fun b o hb=>μ _ (μ _ hb)⟩
noncomputable def Ite (K:W.Frag) (l:Addr):It:=
 ⟨fun i H=>∃ xs x,SqL K H l xs/\xs[i]?=some x,fun i H x H'=>∃ p y,H p=none/\x=.ref p/\H'=upd H p (.tup [.int i,y])/\∀ xs,SqL K H l xs->xs[i]?=some y,fun i H=>∃ xs,SqL K H l xs/\xs.length<=i⟩
theorem KD {P:Λ}{w:ϓ}{K:W.Frag}{elts:List Expr}{kk:Nat}{pos:Pos}(l e it:Addr) (hne:e≠it):
  Turn P w K (.Tuple elts kk pos) (Ite K l) [e,it] e (fun i h=>(∃ old,IsEnum h e it i old)/\h.IsListIter it l i) where
 mem:=by simp
 obj:=fun i h st b hb=>by
  obtain ⟨⟨old,he⟩,hit⟩:=st;have hb':b=e\/b=it:=by simpa using hb
  rcases hb' with rfl | rfl
  ·exact ⟨_,he,fun v z=>by cases z⟩
  ·obtain ⟨o,q,c,d⟩:=hit;exact ⟨o,q,fun v z=>by rw [d] at z;cases z⟩
 keep:=fun i h h' st k=>by obtain ⟨⟨old,he⟩,hit⟩:=st;exact ⟨⟨old,k e (by simp) _ he⟩,hit.at fun o q=>k it (by simp) o q⟩
 item:=by
  intro X hP hw hK hc i pj s σ H E I hf st hg;subst hP hw hK;obtain ⟨⟨old,he⟩,hit⟩:=st;obtain ⟨xs,x,hq,hx⟩:=hg;obtain ⟨its,rv,p,hz⟩:=I.list hq;obtain ⟨u,hu,ru⟩:=rv.get hx;have f1:=hf e (by simp);have f2:=hf it (by simp);have hT:H s.heap.objs.size=none:=I.hok.fresh (Ζ _);refine wpAny_pyNext_enum_item he hit p.isList (x:=u) (by simpa using hu) hne fun h' ho hit' hTp hsz hk=>⟨_,rfl,?_⟩
  refine mK ho fun h2 he2 hs2=>?_
  have kept:∀ b o,b ∉ [e,it]->s.heap.get? b=some o->h2.get? b=some o:=fun b o hb q=>(hs2.2 b fun z=>hb (by simp [z])).trans (hk b o (fun z=>hb (by simp [z])) (fun z=>hb (by simp [z])) q)
  have nT:∀ b o,s.heap.get? b=some o->b≠s.heap.objs.size:=fun b o q=>ϊ (Θ q)
  have htr:∀ b o,H b=some o->b ∉ [e,it]:=fun b o q hb=>by
   have hb':b=e\/b=it:=by simpa using hb
   rcases hb' with rfl | rfl
   ·rw [f1.1] at q;cases q
   ·rw [f2.1] at q;cases q
  have eT:h2.get? s.heap.objs.size=some { cls:=.type "tuple",data:=.seq #[.int i s.toks,u] }:=(hs2.2 _ (fC (Θ he))).trans hTp;have hok:HOk X.prog X.w (upd H s.heap.objs.size (.tup [.int i,x])) h2:=fun b o q=>by
   by_cases hb:b=s.heap.objs.size
   ·subst hb;rw [zm] at q;cases q;exact ⟨by show 2<=sizeLine;decide,[.int i s.toks,u],.cons ⟨_,rfl⟩ (.cons ru .nil),⟨_,eT,rfl,_,rfl⟩⟩
   ·rw [zc hb] at q;refine (I.hok b o q).stay (fun c v hcv r=>kept c v ?_ r) (fun c r=>by rw [zc (zq r hT)];exact r) fun c ys r=>by rw [zc (zq r hT)];exact r
    rcases hcv with rfl | hcv
    ·exact htr _ _ q
    ·exact htr _ _ hcv
  refine ⟨.ref s.heap.objs.size,upd H s.heap.objs.size (.tup [.int i,x]),?_,rfl,⟨_,x,hT,rfl,rfl,fun ys hy=>by rw [I.U4 hy hq];exact hx⟩,⟨⟨u,by simpa using he2⟩,hit'.at fun o q=>(hs2.2 it hne.symm).trans q⟩,fun b hb=>?_⟩
  ·refine Inv.step (s:=s) (H:=H) (h':=h2) (g':=s.gens) (d':=s.drawn) (t':=s.toks+1) (ch:=[e,it]) I (fun b hb=>?_) (fun b o _ _ hb q _=>kept b o hb q) (fun b o _ _ hb q _=>⟨o.slots,kept b o hb q⟩) (fun b o _ q n=>by rw [zc (nT b o q)];exact n) (fun b o hb q=>⟨o,kept b o hb q⟩)
    (fun b ys q=>by rw [zc (zq q hT)];exact q) (fun b o v q=>by rw [zc (zq q hT)];exact q) (fun b ps q=>⟨#[],by rw [zc (zq q hT),q];simp⟩) (fun m hm=>?_) hok I.bare
   ·have hb':b=e\/b=it:=by simpa using hb
    rcases hb' with rfl | rfl
    ·exact ⟨f1.2.2.2.1,f1.2.1,f1.2.2.2.2.1,f1.2.2.2.2.2⟩
    ·exact ⟨f2.2.2.2.1,f2.2.1,f2.2.2.2.2.1,f2.2.2.2.2.2⟩
   ·obtain ⟨o,es,ep,q,r⟩:=hm
    exact ⟨o,es,ep,kept _ o (fun hb=>by
     have hb':X.env.locals=e\/X.env.locals=it:=by simpa using hb
     rcases hb' with z | z
     ·exact f1.2.1 z.symm
     ·exact f2.2.1 z.symm) q,r⟩
  ·have hb':b=e\/b=it:=by simpa using hb
   rcases hb' with rfl | rfl
   ·rw [zc (nT _ _ he)];exact f1.1
   ·obtain ⟨o,q,_⟩:=hit;rw [zc (nT _ _ q)];exact f2.1
 done:=by intro X hP hw hK hc i pj s σ H E I hf st hg;subst hP hw hK;obtain ⟨⟨old,he⟩,hit⟩:=st;obtain ⟨xs,hq,hx⟩:=hg;obtain ⟨its,rv,p,hz⟩:=I.list hq;obtain ⟨f0,f1,f2,f3,f4,f5⟩:=hf it (by simp);have hl:=rv.length;exact wpAny_pyNext_enum_end (I.ok.hd hc) he hit p.isList (by simp;lia) fun h' eb=>⟨rfl,I.turned (t':=s.toks) (fun b o hb q=>eb b o hb q) f0 f1 f3 f4 f5⟩
 self:=fun A i s Q E st h=>by obtain ⟨⟨old,he⟩,_⟩:=st;exact eY he h
noncomputable def Itet (K:W.Frag) (l:Addr):It:=
 ⟨fun i H=>∃ xs x,SqT K H l xs/\xs[i]?=some x,fun i H x H'=>∃ p y,H p=none/\x=.ref p/\H'=upd H p (.tup [.int i,y])/\∀ xs,SqT K H l xs->xs[i]?=some y,fun i H=>∃ xs,SqT K H l xs/\xs.length<=i⟩
theorem Jz {P:Λ}{w:ϓ}{K:W.Frag}{elts:List Expr}{kk:Nat}{pos:Pos}(l e it:Addr) (hne:e≠it):
  Turn P w K (.Tuple elts kk pos) (Itet K l) [e,it] e (fun i h=>(∃ old,IsEnum h e it i old)/\h.IsTupleIter it l i) where
 mem:=by simp
 obj:=fun i h st b hb=>by
  obtain ⟨⟨old,he⟩,hit⟩:=st;have hb':b=e\/b=it:=by simpa using hb
  rcases hb' with rfl | rfl
  ·exact ⟨_,he,fun v z=>by cases z⟩
  ·obtain ⟨o,q,c,d⟩:=hit;exact ⟨o,q,fun v z=>by rw [d] at z;cases z⟩
 keep:=fun i h h' st k=>by obtain ⟨⟨old,he⟩,hit⟩:=st;exact ⟨⟨old,k e (by simp) _ he⟩,hit.at fun o q=>k it (by simp) o q⟩
 item:=by
  intro X hP hw hK hc i pj s σ H E I hf st hg;subst hP hw hK;obtain ⟨⟨old,he⟩,hit⟩:=st;obtain ⟨xs,x,hq,hx⟩:=hg;obtain ⟨its,rv,p,hz⟩:=I.tuple hq;obtain ⟨u,hu,ru⟩:=rv.get hx;have f1:=hf e (by simp);have f2:=hf it (by simp);have hT:H s.heap.objs.size=none:=I.hok.fresh (Ζ _);refine qe he hit (show s.heap.IsTuple l its.toArray from p) (x:=u) (by simpa using hu) hne fun h' ho hit' hTp hsz hk=>⟨_,rfl,?_⟩
  refine mK ho fun h2 he2 hs2=>?_
  have kept:∀ b o,b ∉ [e,it]->s.heap.get? b=some o->h2.get? b=some o:=fun b o hb q=>(hs2.2 b fun z=>hb (by simp [z])).trans (hk b o (fun z=>hb (by simp [z])) (fun z=>hb (by simp [z])) q)
  have nT:∀ b o,s.heap.get? b=some o->b≠s.heap.objs.size:=fun b o q=>ϊ (Θ q)
  have htr:∀ b o,H b=some o->b ∉ [e,it]:=fun b o q hb=>by
   have hb':b=e\/b=it:=by simpa using hb
   rcases hb' with rfl | rfl
   ·rw [f1.1] at q;cases q
   ·rw [f2.1] at q;cases q
  have eT:h2.get? s.heap.objs.size=some { cls:=.type "tuple",data:=.seq #[.int i s.toks,u] }:=(hs2.2 _ (fC (Θ he))).trans hTp;have hok:HOk X.prog X.w (upd H s.heap.objs.size (.tup [.int i,x])) h2:=fun b o q=>by
   by_cases hb:b=s.heap.objs.size
   ·subst hb;rw [zm] at q;cases q;exact ⟨by show 2<=sizeLine;decide,[.int i s.toks,u],.cons ⟨_,rfl⟩ (.cons ru .nil),⟨_,eT,rfl,_,rfl⟩⟩
   ·rw [zc hb] at q;refine (I.hok b o q).stay (fun c v hcv r=>kept c v ?_ r) (fun c r=>by rw [zc (zq r hT)];exact r) fun c ys r=>by rw [zc (zq r hT)];exact r
    rcases hcv with rfl | hcv
    ·exact htr _ _ q
    ·exact htr _ _ hcv
  refine ⟨.ref s.heap.objs.size,upd H s.heap.objs.size (.tup [.int i,x]),?_,rfl,⟨_,x,hT,rfl,rfl,fun ys hy=>by rw [I.YT hy hq];exact hx⟩,⟨⟨u,by simpa using he2⟩,hit'.at fun o q=>(hs2.2 it hne.symm).trans q⟩,fun b hb=>?_⟩
  ·refine Inv.step (s:=s) (H:=H) (h':=h2) (g':=s.gens) (d':=s.drawn) (t':=s.toks+1) (ch:=[e,it]) I (fun b hb=>?_) (fun b o _ _ hb q _=>kept b o hb q) (fun b o _ _ hb q _=>⟨o.slots,kept b o hb q⟩) (fun b o _ q n=>by rw [zc (nT b o q)];exact n) (fun b o hb q=>⟨o,kept b o hb q⟩)
    (fun b ys q=>by rw [zc (zq q hT)];exact q) (fun b o v q=>by rw [zc (zq q hT)];exact q) (fun b ps q=>⟨#[],by rw [zc (zq q hT),q];simp⟩) (fun m hm=>?_) hok I.bare
   ·have hb':b=e\/b=it:=by simpa using hb
    rcases hb' with rfl | rfl
    ·exact ⟨f1.2.2.2.1,f1.2.1,f1.2.2.2.2.1,f1.2.2.2.2.2⟩
    ·exact ⟨f2.2.2.2.1,f2.2.1,f2.2.2.2.2.1,f2.2.2.2.2.2⟩
   ·obtain ⟨o,es,ep,q,r⟩:=hm
    exact ⟨o,es,ep,kept _ o (fun hb=>by
     have hb':X.env.locals=e\/X.env.locals=it:=by simpa using hb
     rcases hb' with z | z
     ·exact f1.2.1 z.symm
     ·exact f2.2.1 z.symm) q,r⟩
  ·have hb':b=e\/b=it:=by simpa using hb
   rcases hb' with rfl | rfl
   ·rw [zc (nT _ _ he)];exact f1.1
   ·obtain ⟨o,q,_⟩:=hit;rw [zc (nT _ _ q)];exact f2.1
 done:=by intro X hP hw hK hc i pj s σ H E I hf st hg;subst hP hw hK;obtain ⟨⟨old,he⟩,hit⟩:=st;obtain ⟨xs,hq,hx⟩:=hg;obtain ⟨its,rv,p,hz⟩:=I.tuple hq;obtain ⟨f0,f1,f2,f3,f4,f5⟩:=hf it (by simp);have hl:=rv.length;exact vW (I.ok.hd hc) he hit (show s.heap.IsTuple l its.toArray from p) (by simp;lia) fun h' eb=>⟨rfl,I.turned (t':=s.toks) (fun b o hb q=>eb b o hb q) f0 f1 f3 f4 f5⟩
 self:=fun A i s Q E st h=>by obtain ⟨⟨old,he⟩,_⟩:=st;exact eY he h
def TIt (h:Heap) (i l:Addr) (k:Nat) (xs:Array δ):Prop:=h.IsTupleIter i l k/\h.IsTuple l xs
theorem TIt.kp {h h':Heap}{i l z:Addr}{k:Nat}{xs:Array δ}(t:TIt h i l k xs) (e:iQ z h h') (a:i≠z) (b:l≠z):TIt h' i l k xs:=by obtain ⟨⟨o,o1,o2⟩,p,p1,p2⟩:=t;exact ⟨⟨o,e i o a o1,o2⟩,p,e l p b p1,p2⟩
theorem TIt.it {h h':Heap}{i l:Addr}{k m:Nat}{xs:Array δ}(t:TIt h i l k xs) (hi:h'.IsTupleIter i l m) (e:Ϫ i h h') (b:l≠i):TIt h' i l m xs:=by obtain ⟨_,p,p1,p2⟩:=t;exact ⟨hi,p,e.extBut l p b p1,p2⟩
section
variable {prog:Λ}{w:ϓ}{A:ϙ}{E:VSP}{s:ς}{z TI TO i1 i2 l1 l2:Addr}{k1 k2:Nat}{xs ys:Array δ}{x y a b:δ}
end
section
variable {X:Cx}{elts:List Expr}{kk:Nat}{tp:Pos}
end
section
variable {κ:Type} [DecidableEq κ]
noncomputable def valV (kvs:List (κ×V)) (k:κ):Option V:=(kvs.find? fun kv=>decide (kv.1=k)).map (·.2)
noncomputable def putK (kvs:List (κ×V)) (k:κ) (v:V):List (κ×V):=
 if (kvs.any fun kv=>decide (kv.1=k))=true then kvs.map (fun kv=>if kv.1=k then (kv.1,v) else kv) else kvs++[(k,v)]
noncomputable def zhw (kvs:List (κ×V)) (k:κ):List (κ×V):=kvs.filter fun kv=>decide (kv.1≠k)
theorem uh {p:κ×V}{r:List (κ×V)}{k:κ}(e:p.1=k):valV (p::r) k=some p.2:=by simp [valV,cM,e]
theorem ul {p:κ×V}{r:List (κ×V)}{k:κ}(e:¬ p.1=k):valV (p::r) k=valV r k:=by simp [valV,cM,e]
theorem Ue (k:κ):∀ kvs:List (κ×V),(kvs.any fun kv=>decide (kv.1=k))=(valV kvs k).isSome
 | []=>rfl
 | p::r=>by
  rw [dq];by_cases e:p.1=k
  ·simp only [uh e,decide_eq_true e,mF,Option.isSome_some]
  ·rw [ul e,decide_eq_false e,d7];exact Ue k r
theorem vX (kvs:List (κ×V)) (k:κ) (v:V):(putK kvs k v).length<=kvs.length+1:=by
 unfold putK;split
 ·rw [ξ];lia
 ·rw [Υ,aY,fK];lia
theorem RelO.wV {o:Option V}{u:Option δ}(r:RelO o u):o.isSome=u.isSome:=by
 cases o with
 | none=>cases u with
  | none=>rfl
  | some _=>exact (show False from r).elim
 | some _=>cases u with
  | none=>exact (show False from r).elim
  | some _=>rfl
theorem RelO.getD {o:Option V}{u:Option δ}{d:V}{d':δ}(r:RelO o u) (rd:RelV d d'):RelV (o.getD d) (u.getD d'):=by
 cases o with
 | none=>cases u with
  | none=>exact rd
  | some _=>exact (show False from r).elim
 | some _=>cases u with
  | none=>exact (show False from r).elim
  | some _=>exact r
theorem KV.val {kvs:List (κ×V)}{vs:List (κ×δ)}(r:KV kvs vs) (k:κ):RelO (valV kvs k) (fW vs k):=by
 unfold KV at r
 induction r with
 | nil=>exact ϱ
 | @cons p q ps qs h t ih=>
  obtain ⟨h1,h2⟩:=h;by_cases e:p.1=k
  ·have e':q.1=k:=h1.symm.trans e;have b:fW (q::qs) k=some q.2:=by simp [fW,cM,e']
   rw [uh e,b];exact h2
  ·have e':¬ q.1=k:=fun z=>e (h1.trans z)
   have b:fW (q::qs) k=fW qs k:=by simp [fW,cM,e']
   rw [ul e,b];exact ih
theorem KV.any {kvs:List (κ×V)}{vs:List (κ×δ)}(r:KV kvs vs) (k:κ):(kvs.any fun kv=>decide (kv.1=k))=vs.any fun kv=>decide (kv.1=k):=by
 unfold KV at r
 induction r with
 | nil=>rfl
 | cons h t ih=>rw [dq,dq,ih,h.1]
theorem KV.repl {kvs:List (κ×V)}{vs:List (κ×δ)}(r:KV kvs vs) (k:κ) {y:V}{u:δ}(ry:RelV y u):
  KV (kvs.map fun kv=>if kv.1=k then (kv.1,y) else kv) (vs.map fun kv=>if kv.1=k then (kv.1,u) else kv):=by
 unfold KV at r ⊢
 induction r with
 | nil=>exact .nil
 | @cons p q ps qs h t ih=>
  rw [ϐ,ϐ];refine .cons ?_ ih;obtain ⟨h1,h2⟩:=h;by_cases e:p.1=k
  ·rw [if_pos e,if_pos (h1.symm.trans e)];exact ⟨h1,ry⟩
  ·rw [if_neg e,if_neg (fun z=>e (h1.trans z))];exact ⟨h1,h2⟩
theorem KV.put {kvs:List (κ×V)}{vs:List (κ×δ)}(r:KV kvs vs) (k:κ) {y:V}{u:δ}(ry:RelV y u):KV (putK kvs k y) (stored vs k u):=by
 unfold putK stored;rw [r.any k];by_cases e:(vs.any fun kv=>decide (kv.1=k))=true
 ·rw [if_pos e,if_pos e];exact r.repl k ry
 ·rw [if_neg e,if_neg e];exact dm.snoc r ⟨rfl,ry⟩
theorem KV.drop {kvs:List (κ×V)}{vs:List (κ×δ)}(r:KV kvs vs) (k:κ):KV (zhw kvs k) (without vs k):=by
 unfold KV at r ⊢;unfold zhw without
 induction r with
 | nil=>exact .nil
 | @cons p q ps qs h t ih=>
  obtain ⟨h1,h2⟩:=h;rw [eU,eU];by_cases e:p.1=k
  ·have a:¬ decide (p.1≠k)=true:=by simp [e]
   have b:¬ decide (q.1≠k)=true:=by simp [h1.symm.trans e]
   rw [if_neg a,if_neg b];exact ih
  ·have e':¬ q.1=k:=fun z=>e (h1.trans z)
   have a:decide (p.1≠k)=true:=by simp [e]
   have b:decide (q.1≠k)=true:=by simp [e']
   rw [if_pos a,if_pos b];exact .cons ⟨h1,h2⟩ ih
theorem KV.length {kvs:List (κ×V)}{vs:List (κ×δ)}(r:KV kvs vs):kvs.length=vs.length:=lA r
end
theorem Vz {P:Λ}{w:ϓ}{k:Key}{u:δ}(r:RelV (kV k) u):(yd P w).is k u=true:=by
 cases k with
 | inl i=>obtain ⟨t,e⟩:=(show ∃ t,u=ϒ i t from r);subst e;exact Vk P w i t
 | inr x=>obtain ⟨t,e⟩:=(show ∃ t,u=aQ x t from r);subst e;exact Vj P w x t
theorem XQ {P:Λ}{w:ϓ}:∀ {ks:List Key}{us:List δ},Vals (ks.map kV) us->ItemsAre (yd P w) ks us
 | [],_,r=>by rw [mD] at r;cases r;exact .nil
 | k::ks,_,r=>by
  rw [ϐ] at r;cases r with
  | cons h t=>exact .cons (Vz h) (XQ t)
abbrev KT (H:Hp):List (List Key×V)->List (List Key×Addr×δ)->Prop:=dm fun p q=>p.1=q.1/\H q.2.1=some (.tup (p.1.map kV))/\RelV p.2 q.2.2
theorem KT.val {H:Hp}{kvs:List (List Key×V)}{xs:List (List Key×Addr×δ)}(r:KT H kvs xs) (k:List Key):RelO (valV kvs k) ((atKey xs k).map (·.2)):=by
 induction r with
 | nil=>exact ϱ
 | @cons p q ps qs h t ih=>
  obtain ⟨h1,_,h2⟩:=h;by_cases e:p.1=k
  ·have e':q.1=k:=h1.symm.trans e;have b:atKey (q::qs) k=some q.2:=by simp [atKey,cM,e']
   rw [uh e,b];exact h2
  ·have e':¬ q.1=k:=fun z=>e (h1.trans z)
   have b:atKey (q::qs) k=atKey qs k:=by simp [atKey,cM,e']
   rw [ul e,b];exact ih
theorem KT.repl {H:Hp}{kvs:List (List Key×V)}{xs:List (List Key×Addr×δ)}(r:KT H kvs xs) (k:List Key) {y:V}{u:δ}(ry:RelV y u):
  KT H (kvs.map fun kv=>if kv.1=k then (kv.1,y) else kv) (xs.map (putAt k u)):=by
 induction r with
 | nil=>exact .nil
 | @cons p q ps qs h t ih=>
  rw [ϐ,ϐ];refine .cons ?_ ih;obtain ⟨h1,h2,h3⟩:=h;unfold putAt;by_cases e:p.1=k
  ·rw [if_pos e,if_pos (h1.symm.trans e)];exact ⟨h1,h2,ry⟩
  ·rw [if_neg e,if_neg (fun z=>e (h1.trans z))];exact ⟨h1,h2,h3⟩
theorem KT.put {H:Hp}{kvs:List (List Key×V)}{xs:List (List Key×Addr×δ)}(r:KT H kvs xs) (k:List Key) {b:Addr}{y:V}{u:δ}(hb:H b=some (.tup (k.map kV))) (ry:RelV y u):
  KT H (putK kvs k y) (storedH xs k b u):=by
 have e:(kvs.any fun kv=>decide (kv.1=k))=(atKey xs k).isSome:=by rw [Ue,(r.val k).wV,gq]
 unfold putK storedH;rw [e];by_cases q:(atKey xs k).isSome=true
 ·rw [if_pos q,if_pos q];exact r.repl k ry
 ·rw [if_neg q,if_neg q];exact dm.snoc r ⟨rfl,hb,ry⟩
theorem KT.keeps {H H':Hp}{kvs:List (List Key×V)}{xs:List (List Key×Addr×δ)}(r:KT H kvs xs) (ht:∀ b ys,H b=some (.tup ys)->H' b=some (.tup ys)):KT H' kvs xs:=
 dm.mapP r fun _ _ z=>⟨z.1,ht _ _ z.2.1,z.2.2⟩
section
variable {P:Λ}{w:ϓ}{H:Hp}{h:Heap}{a:Addr}
theorem zfZ {u:HO}(ok:HOk P w H h) (e:Rd H a u):yo P w H h a u:=e.ok ok
theorem Yw {kvs:List (Key×V)}(ok:HOk P w H h) (e:Rd H a (.dK kvs)):kvs.length<=sizeLine/\(a==bz)=false/\∃ vs,KV kvs vs/\h.DictOf (yd P w) a vs:=
 show yo P w H h a (.dK kvs) from zfZ ok e
theorem zhz {kvs:List (Key×V)}(ok:HOk P w H h) (e:H a=some (.dK kvs)):kvs.length<=sizeLine/\(a==bz)=false/\∃ vs,KV kvs vs/\h.DictOf (yd P w) a vs:=Yw ok (.inl e)
theorem Zx {ks:List Key}(ok:HOk P w H h) (e:H a=some (.tup (ks.map kV))):(gO (yd P w)).is h ks a:=by
 obtain ⟨_,its,r,o,h1,h2,n,h3⟩:=(show yo P w H h a (.tup (ks.map kV)) from ok a _ e)
 exact ⟨o,its.toArray,n,h1,h2,h3,by simpa using XQ r⟩
theorem VH {kvs:List (List Key×V)}(ok:HOk P w H h) (e:Rd H a (.dT kvs)):kvs.length<=sizeLine/\(a==bz)=false /\
  ∃ xs,KT H kvs xs/\h.DictOfH (gO (yd P w)) a xs:=by
 obtain ⟨z,y,xs,r,o,es,ep,h1,h2,h3,h4,h5⟩:=(show yo P w H h a (.dT kvs) from zfZ ok e)
 refine ⟨z,y,xs,r,o,es,ep,h1,h2,h3,h4,fun x hx=>?_,h5⟩;have all:∀ {l:List (List Key×V)}{m:List (List Key×Addr×δ)},KT H l m->∀ x∈m,(gO (yd P w)).is h x.1 x.2.1:=by
  intro l m q
  induction q with
  | nil=>intro x hx;exact nomatch hx
  | @cons p q ps qs hq t ih=>
   intro x hx;rcases χ.mp hx with e | hx
   ·subst e;exact Zx ok (by rw [<- hq.1];exact hq.2.1)
   ·exact ih x hx
 exact all r x hx
theorem zjO {kvs:List (List Key×V)}(ok:HOk P w H h) (e:H a=some (.dT kvs)):kvs.length<=sizeLine/\(a==bz)=false /\
  ∃ xs,KT H kvs xs/\h.DictOfH (gO (yd P w)) a xs:=VH ok (.inl e)
end
def DGet (H:Hp) (a:Addr) (y:V) (r:Option V):Prop:=
 (∃ kvs k,Rd H a (.dK kvs)/\y=kV k/\r=valV kvs k)\/∃ kvs k b,Rd H a (.dT kvs)/\y=.ref b/\H b=some (.tup (k.map kV))/\r=valV kvs k
def DPut (H:Hp) (a:Addr) (y v:V) (H':Hp):Prop:=
 (∃ kvs k,H a=some (.dK kvs)/\y=kV k/\kvs.length < sizeLine/\H'=upd H a (.dK (putK kvs k v))) \/
 ∃ kvs k b,H a=some (.dT kvs)/\y=.ref b/\H b=some (.tup (k.map kV))/\kvs.length < sizeLine/\H'=upd H a (.dT (putK kvs k v))
theorem DGet.k {H:Hp}{a:Addr}{kvs:List (Key×V)}{k:Key}(e:H a=some (.dK kvs)):DGet H a (kV k) (valV kvs k):=.inl ⟨kvs,k,.inl e,rfl,rfl⟩
theorem DGet.t {H:Hp}{a b:Addr}{kvs:List (List Key×V)}{k:List Key}(e:H a=some (.dT kvs)) (eb:H b=some (.tup (k.map kV))):DGet H a (.ref b) (valV kvs k):=.inr ⟨kvs,k,b,.inl e,rfl,eb,rfl⟩
theorem DPut.k {H:Hp}{a:Addr}{kvs:List (Key×V)}{k:Key}{v:V}(e:H a=some (.dK kvs)) (hl:kvs.length < sizeLine):DPut H a (kV k) v (upd H a (.dK (putK kvs k v))):=.inl ⟨kvs,k,e,rfl,hl,rfl⟩
theorem DPut.t {H:Hp}{a b:Addr}{kvs:List (List Key×V)}{k:List Key}{v:V}(e:H a=some (.dT kvs)) (eb:H b=some (.tup (k.map kV))) (hl:kvs.length < sizeLine):
  DPut H a (.ref b) v (upd H a (.dT (putK kvs k v))):=.inr ⟨kvs,k,b,e,rfl,eb,hl,rfl⟩
section
variable {X:Cx}{pj:List (Addr×Obj)}{σ:St}{H:Hp}{s:ς}{a:Addr}{y v:V}{u r:δ}{o:Option V}{A:ϙ}{E:VSP}
theorem Inv.big (I:Inv X pj σ H s):bz < s.heap.objs.size:=by have h:Ο < s.heap.objs.size:=(I.mod.glob.keeps I.bk).lt;exact Nat.lt_trans (by decide) h
theorem zaz {Q:VSP}(hu:A.units+1 < ϵ) (I:Inv X pj σ H s) (g:DGet H a y (some v)) (ry:RelV y u) (h:∀ w' s',Inv X pj σ H s'->RelV v w'->Q w' s'):
  Ρ (ώ X.prog X.w) A (gR (.ref a) u) Q E s:=by
 rcases g with ⟨kvs,k,e,ey,l⟩ | ⟨kvs,k,b,e,ey,eb,l⟩
 ·subst ey;obtain ⟨z,hd,vs,rel,dd⟩:=Yw I.hok e;obtain ⟨w',hw,rw'⟩:=RelO.some_of (v:=v) (o:=fW vs k) (by rw [l];exact rel.val k);exact wpAny_getItem_of (Vz ry) dd.mapOf hw (h w' _ (I.tok _) rw')
 ·subst ey;cases (show u=Β b from ry);obtain ⟨z,hd,xs,rel,dd⟩:=VH I.hok e;obtain ⟨w',hw,rw'⟩:=RelO.some_of (v:=v) (o:=(atKey xs k).map (·.2)) (by rw [l];exact rel.val k);obtain ⟨p,hp,hp2⟩:=Α.mp hw;refine wpAny_getItem_heap (cY hu) (Zx I.hok eb) dd hp ?_;rw [hp2];exact h w' _ (I.tok _) rw'
theorem d_in {Q:VSP}(hu:A.units+1 < ϵ) (I:Inv X pj σ H s) (g:DGet H a y o) (ry:RelV y u) (h:∀ s',Inv X pj σ H s'->Q (.bool o.isSome) s'):
  Ρ (ώ X.prog X.w) A (ϋ .In u (.ref a)) Q E s:=by
 rcases g with ⟨kvs,k,e,ey,l⟩ | ⟨kvs,k,b,e,ey,eb,l⟩
 ·subst ey;obtain ⟨z,hd,vs,rel,dd⟩:=Yw I.hok e;refine wpAny_in_of (Vz ry) hd dd.mapOf ?_;rw [<- (rel.val k).wV,<- l];exact h _ (I.tok _)
 ·subst ey;cases (show u=Β b from ry);obtain ⟨z,hd,xs,rel,dd⟩:=VH I.hok e;refine wpAny_in_heap (cY hu) (Zx I.hok eb) hd dd ?_;have q:=(rel.val k).wV;rw [gq] at q;rw [<- q,<- l];exact h _ (I.tok _)
theorem zez {Q:VSP}(hu:A.units+1 < ϵ) (I:Inv X pj σ H s) (g:DGet H a y o) (ry:RelV y u) (h:∀ s',Inv X pj σ H s'->Q (.bool (!o.isSome)) s'):
  Ρ (ώ X.prog X.w) A (ϋ .NotIn u (.ref a)) Q E s:=by
 rcases g with ⟨kvs,k,e,ey,l⟩ | ⟨kvs,k,b,e,ey,eb,l⟩
 ·subst ey;obtain ⟨z,hd,vs,rel,dd⟩:=Yw I.hok e;refine wpAny_notIn_of (Vz ry) hd dd.mapOf ?_;rw [<- (rel.val k).wV,<- l];exact h _ (I.tok _)
 ·subst ey;cases (show u=Β b from ry);obtain ⟨z,hd,xs,rel,dd⟩:=VH I.hok e;refine wpAny_notIn_heap (cY hu) (Zx I.hok eb) hd dd ?_;have q:=(rel.val k).wV;rw [gq] at q;rw [<- q,<- l];exact h _ (I.tok _)
theorem Yx {h':Heap}{t':Nat}{ob:HO}(I:Inv X pj σ H s) (mu:Mut (H a)) (hs:Ϫ a s.heap h') (he:∃ q,h'.get? a=some q) (new:yo X.prog X.w (upd H a ob) h' a ob):
  Inv X pj σ (upd H a ob) { s with heap:=h',toks:=t' }:=
 I.write (x:=a) (e:=a) mu (.inl rfl) (fun b q hb z=>(hs.2 b hb).trans z) he new
theorem zcJ {P:Λ}{w:ϓ}{H':Hp}{h':Heap}{kvs:List (Key×V)}{vs:List (Key×δ)}(z:kvs.length<=sizeLine) (hd:(a==bz)=false) (rel:KV kvs vs) (dd:h'.DictOf (yd P w) a vs):
  yo P w H' h' a (.dK kvs):=⟨z,hd,vs,rel,dd⟩
theorem zay {H':Hp}{Q:Unit->ς->Prop}(hu:A.units+1 < ϵ) (I:Inv X pj σ H s) (g:DPut H a y v H') (ry:RelV y u) (rv:RelV v r) (h:∀ s',Inv X pj σ H' s'->Q () s'):
  Ρ (ώ X.prog X.w) A (setItem (.ref a) u r) Q E s:=by
 rcases g with ⟨kvs,k,e,ey,l,eH⟩ | ⟨kvs,k,b,e,ey,eb,l,eH⟩
 ·subst ey eH;obtain ⟨z,hd,vs,rel,dd⟩:=zhz I.hok e;have hz:vs.length<=sizeLine:=by rw [<- rel.length];exact z
  have hl:(putK kvs k v).length<=sizeLine:=by have:=vX kvs k v;lia
  refine wpAny_setItem_pairs (hsz:=hz) (Vz ry) dd fun h' dd' hs=>h _ ?_
  have he:∃ q,h'.get? a=some q:=let ⟨q,_,_,hq,_⟩:=dd';⟨q,hq⟩
  exact Yx I (by rw [e];exact ϱ) hs he (zcJ hl hd (rel.put k rv) dd')
 ·subst ey eH;cases (show u=Β b from ry);obtain ⟨z,hd,xs,rel,dd⟩:=zjO I.hok e;have hz:xs.length<=sizeLine:=by rw [<- lA rel];exact z
  have hl:(putK kvs k v).length<=sizeLine:=by have:=vX kvs k v;lia
  refine wpAny_setItem_heap (hsz:=hz) (cY hu) (Zx I.hok eb) dd fun h' dd' hs=>h _ ?_
  obtain ⟨q,es,ep,hq,h2,h3,h4,_,h5⟩:=dd';refine Yx I (by rw [e];exact ϱ) hs ⟨q,hq⟩ ⟨hl,hd,_,(rel.put k eb rv).keeps fun c ys ec=>?_,q,es,ep,hq,h2,h3,h4,h5⟩;rw [zc (zjc ec e (fun z=>nomatch z))];exact ec
end
section
variable {X:Cx}{pj:List (Addr×Obj)}{σ:St}{H:Hp}{s:ς}{a:Addr}{kvs:List (Key×V)}{k:Key}{u:δ}{A:ϙ}{E:VSP}
theorem zjQ {Q:VSP}(I:Inv X pj σ H s) (e:Rd H a (.dK kvs)) (h:∀ t s',Inv X pj σ H s'->Q (.int kvs.length t) s'):Ρ (ώ X.prog X.w) A (call (.builtin "len") [.ref a]) Q E s:=by obtain ⟨z,hd,vs,rel,dd⟩:=Yw I.hok e;refine call_len_dict hd dd (by rw [<- rel.length];rw [bD] at z;lia) ?_;rw [<- rel.length];exact h _ _ (I.tok _)
end
theorem VJ {X:Cx}{pj:List (Addr×Obj)}{σ:St}{H:Hp}{s:ς}{a:Addr}{y:V}{o:Option V}(I:Inv X pj σ H s) (g:DGet H a y o):s.TypeIs (.ref a) "dict":=by
 rcases g with ⟨kvs,k,e,_,_⟩ | ⟨kvs,k,b,e,_,_,_⟩
 ·obtain ⟨_,_,vs,_,dd⟩:=Yw I.hok e;exact dd.typeIs
 ·obtain ⟨_,_,xs,_,dd⟩:=VH I.hok e;exact dd.typeIs
theorem Jj {P:Λ}{w:ϓ}{H:Hp}(h:Heap) (hb:bz < h.objs.size):yo P w H (h.push { cls:=.type "dict",data:=.dict #[] }) h.objs.size (.dK []):=
 ⟨cT _,beq_eq_false_iff_ne.mpr (bK (ϊ hb)),[],.nil,Heap.DictOf.new h⟩
theorem zbR {P:Λ}{w:ϓ}{H:Hp}(h:Heap) (hb:bz < h.objs.size):yo P w H (h.push { cls:=.type "dict",data:=.dict #[] }) h.objs.size (.dT []):=
 ⟨cT _,beq_eq_false_iff_ne.mpr (bK (ϊ hb)),[],.nil,_,#[],0,Μ _ rfl,⟨rfl,rfl,rfl⟩,rfl,rfl,List.nodup_nil⟩
def zfq:TE:=fun _ H Q=>∀ p,H p=none->Q (.ref p) (upd H p (.dK []))
def zfp:TE:=fun _ H Q=>∀ p,H p=none->Q (.ref p) (upd H p (.dT []))
section
variable {X:Cx}{pos:Pos}
theorem zbq:PE X (.Dict [] [] pos) zfq:=fun pj s σ H Q I h=>
 wpAny_Dict_empty ⟨.ref s.heap.objs.size,_,I.laid (a:=s.heap.objs.size) (o:=.dK []) (t':=s.toks) (fun _ _ q=>μ _ q) (Ζ _) (Jj s.heap I.big),rfl,h _ (I.hok.fresh (Ζ _))⟩
theorem zbp:PE X (.Dict [] [] pos) zfp:=fun pj s σ H Q I h=>
 wpAny_Dict_empty ⟨.ref s.heap.objs.size,_,I.laid (a:=s.heap.objs.size) (o:=.dT []) (t':=s.toks) (fun _ _ q=>μ _ q) (Ζ _) (zbR s.heap I.big),rfl,h _ (I.hok.fresh (Ζ _))⟩
end
def Uj:List (TE×TE)->St->Hp->(List (V×V)->Hp->Prop)->Prop
 | [],_,H,Q=>Q [] H
 | (tk,tv)::r,σ,H,Q=>tk σ H fun x H1=>tv σ H1 fun y H2=>Uj r σ H2 fun ps H3=>Q ((x,y)::ps) H3
abbrev VV:List (V×V)->List (δ×δ)->Prop:=dm fun p q=>RelV p.1 q.1/\RelV p.2 q.2
def PPs (X:Cx) (pos:Pos) (keys:List (Option Expr)) (values:List Expr) (trs:List (TE×TE)):Prop:=
 ∀ (pj:List (Addr×Obj)) (s:ς) (σ:St) (H:Hp) (Q:List (V×V)->Hp->Prop),Inv X pj σ H s->Uj trs σ H Q ->
  Ρ (ώ X.prog X.w) X.A (evalPairs (pairTrees keys values X.env pos)) (fun vs s'=>∃ ps H',Inv X pj σ H' s'/\VV ps vs/\Q ps H') X.xe s
theorem zdv {X:Cx}{pos:Pos}:PPs X pos [] [] []:=fun pj s σ H Q I h=>pairTrees_nil_walk ⟨[],H,I,.nil,h⟩
theorem zbi {X:Cx}{pos:Pos}{k v:Expr}{ks:List (Option Expr)}{vs:List Expr}{tk tv:TE}{trs:List (TE×TE)}(hk:PE X k tk) (hv:PE X v tv) (hr:PPs X pos ks vs trs):
  PPs X pos (some k::ks) (v::vs) ((tk,tv)::trs):=fun pj s σ H Q I h=>
 pairTrees_cons_walk (thn (hk pj s σ H _ I h) fun u s1 ⟨x,H1,I1,rx,q1⟩=>thn (hv pj s1 σ H1 _ I1 q1) fun w2 s2 ⟨y,H2,I2,ry,q2⟩=>
  thn (hr pj s2 σ H2 _ I2 q2) fun ws s3 ⟨ps,H3,I3,rel,q3⟩=>⟨(x,y)::ps,H3,I3,.cons ⟨rx,ry⟩ rel,q3⟩)
noncomputable def jk (kvs more:List (Key×V)):List (Key×V):=more.foldl (fun acc kv=>putK acc kv.1 kv.2) kvs
theorem KV.merge:∀ {more:List (Key×V)}{rs:List (Key×δ)}{kvs:List (Key×V)}{vs:List (Key×δ)},KV more rs->KV kvs vs->KV (jk kvs more) (merged vs rs):=by
 intro more rs kvs vs r;unfold KV at r
 induction r generalizing kvs vs with
 | nil=>intro q;exact q
 | @cons p q ps qs h t ih=>
  intro r0;have e:KV (putK kvs p.1 p.2) (stored vs q.1 q.2):=by have:=r0.put p.1 h.2;rw [<- h.1];exact this
  exact ih e
theorem uD:∀ (more kvs:List (Key×V)),(jk kvs more).length<=kvs.length+more.length
 | [],kvs=>by show kvs.length<=kvs.length+0;lia
 | p::r,kvs=>by
  have h1:=uD r (putK kvs p.1 p.2);have h2:=vX kvs p.1 p.2;show (jk (putK kvs p.1 p.2) r).length<=_
  rw [aY];lia
theorem ZK {P:Λ}{w:ϓ}:∀ {kvs:List (Key×V)}{ws:List (δ×δ)},VV (kvs.map fun kv=>(kV kv.1,kv.2)) ws->∃ rs,Carries (yd P w) ws rs/\KV kvs rs
 | [],_,r=>by rw [mD] at r;cases r;exact ⟨[],ϱ,.nil⟩
 | p::kvs,_,r=>by
  rw [ϐ] at r;cases r with
  | @cons a b as bs h t=>
   obtain ⟨rs,c,q⟩:=ZK (P:=P) (w:=w) t;obtain ⟨b1,b2⟩:=b;exact ⟨(p.1,b2)::rs,⟨Vz h.1,rfl,c⟩,.cons ⟨rfl,h.2⟩ q⟩
def zh5 (trs:List (TE×TE)):TE:=fun σ H Q=>∀ p,H p=none->Uj trs σ (upd H p (.dK [])) fun ps H2=>H2 p=some (.dK [])/\∃ kvs:List (Key×V),ps=kvs.map (fun kv=>(kV kv.1,kv.2))/\kvs.length<=15/\Q (.ref p) (upd H2 p (.dK (jk [] kvs)))
theorem zdA {X:Cx}{pos:Pos}{keys:List (Option Expr)}{values:List Expr}{trs:List (TE×TE)}(h:PPs X pos keys values trs) (hall:keys.all (·.isSome)=true) (hl:keys.length=values.length) (h0:keys≠[])
  (h15:keys.length<=15):PE X (.Dict keys values pos) (zh5 trs):=by
 intro pj s σ H Q I q;have hn:=I.hok.fresh (Ζ s.heap.objs.size);have I1:=I.laid (a:=s.heap.objs.size) (o:=.dK []) (h':=s.heap.push { cls:=.type "dict",data:=.dict #[] }) (t':=s.toks) (fun _ _ q=>μ _ q) (Ζ _) (Jj s.heap I.big);refine wpAny_Dict_walk (knd:=yd X.prog X.w) hall hl h0 h15 (thn (h pj _ σ _ _ I1 (q _ hn)) fun ws s2 ⟨ps,H2,I2,rel,e,kvs,ep,lk,q2⟩=>?_);subst ep;obtain ⟨rs,c,rk⟩:=ZK (P:=X.prog) (w:=X.w) rel;obtain ⟨z,hd,vs0,r0,dd⟩:=zhz I2.hok e;cases r0;refine ⟨rs,c,dd,fun h' dd' hs=>⟨.ref s.heap.objs.size,_,?_,rfl,q2⟩⟩;have hz:(jk [] kvs).length<=sizeLine:=by have h1:=uD kvs [];rw [fK] at h1;rw [bD];lia
 have he:∃ q,h'.get? s.heap.objs.size=some q:=let ⟨q,_,_,hq,_⟩:=dd';⟨q,hq⟩
 exact Yx I2 (by rw [e];exact ϱ) hs he (zcJ hz hd (rk.merge .nil) dd')
def IsD (H:Hp) (a:Addr):Prop:=(∃ kvs,Rd H a (.dK kvs))\/∃ kvs,Rd H a (.dT kvs)
section
variable {X:Cx}{pj:List (Addr×Obj)}{σ:St}{H:Hp}{s:ς}{a:Addr}{y d:V}{u r:δ}{o:Option V}{A:ϙ}{E:VSP}
theorem zhD {Q:VSP}(hu:A.units+1 < ϵ) (I:Inv X pj σ H s) (g:DGet H a y o) (ry:RelV y u) (rd:RelV d r) (h:∀ w' s',Inv X pj σ H s'->RelV (o.getD d) w'->Q w' s'):
  Ρ (ώ X.prog X.w) A (call (.builtin "dict.get") [.ref a,u,r]) Q E s:=by
 rcases g with ⟨kvs,k,e,ey,l⟩ | ⟨kvs,k,b,e,ey,eb,l⟩
 ·subst ey;obtain ⟨z,hd,vs,rel,dd⟩:=Yw I.hok e;refine nu bN dd.typeIs eO (dW _ _ _) (meets_dict_get_default (yd X.prog X.w) a (Vz ry) hd r) ⟨_,dd.mapOf,h _ _ (I.tok _) ?_⟩;rw [l];exact (rel.val k).getD rd
 ·subst ey;cases (show u=Β b from ry);obtain ⟨z,hd,xs,rel,dd⟩:=VH I.hok e;refine nu bN dd.typeIs eO (dW _ _ _) (meetsH_dict_get_default (gO (yd X.prog X.w)) a b hd r) ⟨cY hu,k,xs,Zx I.hok eb,dd,h _ _ (I.tok _) ?_⟩;rw [l];exact (rel.val k).getD rd
end
end L2
namespace EV
open PySem PySem.Spec PyProof.Rows L2
theorem Z0 {xs:List V}{us:List δ}(h:Vals xs us):∀ n:Nat,Vals (η n xs).flatten (η n us).flatten
 | 0=>.nil
 | n+1=>by rw [ϯ,ϯ,bB,bB];exact h.append (Z0 h n)
theorem W8 (us:List δ):∀ (n:Nat) (acc:List δ),lC (fun x1 x2=>x1++x2) acc.toArray (η n us.toArray)=(acc++(η n us).flatten).toArray
 | 0,acc=>by simp
 | n+1,acc=>by rw [ϯ,iU,List.append_toArray,W8 us n,ϯ,bB,g8]
end EV
namespace L2
open PySem PySem.Spec PyProof.Rows
section
open EV
variable {prog:Λ}{w:ϓ}{A:ϙ}{E:VSP}{s:ς}
theorem jw:fillsNumberSlot (ό "tuple") "mul"=pure false:=by kernel_rfl
theorem Y9:seqRepeat? (ό "tuple")=pure (some (δ.builtin "tuple.__mul__")):=by kernel_rfl
theorem JF (a:Int) (t:Tok) (l:Addr) (items:Array δ) (n:Nat) (dd:Option Addr) (sl:Array (Option δ)):Meets (Ω.«int.__rmul__» { pos:=[ϒ a t,Β l] }) fun x R s=>
  s.heap.get? l=some ⟨.type "tuple",dd,.seq items n,sl⟩/\R (Except.ok (Flow.ret δ.notImplemented)) s:=Meets.of_wp fun prog w A R s h=>by obtain ⟨h1,h2⟩:=h;unfold Ω.«int.__rmul__» Ω.Int.intBinary;refine ζ (c7 (a:=(ϒ a t,[Β l])) rfl ?_);refine ζ (c7 (a:=a) rfl ?_);refine ζ (m:=asInt? (.ref l)) ?_;unfold asInt?;refine ζ (mJ h1 (π ?_));refine ζ (d9 (π ⟨_,rfl,h2⟩))
theorem QF (l:Addr) (us:List δ) (n:Nat) (dd:Option Addr) (sl:Array (Option δ)) (k:Int) (t:Tok) (k0:0<=k) (k1:k < 2 ^ 20) (hz:us.length*k.toNat<=sizeLine):Meets (Ω.«tuple.__mul__» { pos:=[Β l,ϒ k t] }) fun x R s=>
  s.heap.get? l=some ⟨.type "tuple",dd,.seq us.toArray n,sl⟩/\((us=[]\/k=1)->R (.ok (.ret (.ref l))) s)/\(¬ (us=[]\/k=1)->R (.ok (.ret (.ref s.heap.objs.size))) { s with heap:=s.heap.push { cls:=.type "tuple",data:=.seq (η k.toNat us).flatten.toArray } }):=Meets.of_wp fun prog w A R s h=>by
 obtain ⟨h1,h2,h3⟩:=h;have ty:s.TypeIs (.ref l) "tuple":=⟨_,h1,rfl⟩
 unfold Ω.«tuple.__mul__»
 wp_walk using bT ty,mJ h1
 rw [if_neg (by rw [dz,decide_eq_true_eq,decide_eq_true_eq];omega)];have its:∀ {Q:Array δ->ς->Prop}{E:VSP},Q us.toArray s->Ρ (ώ prog w) A.in1 (bL (.ref l)) Q E s:=fun q=>by
  unfold bL
  wp_walk using mJ h1
  exact q
 refine ζ (its ?_);by_cases hc:us=[]\/k=1
 ·rw [if_pos (by rcases hc with rfl | rfl <;> simp)];unfold gk;refine ζ (ζ (bT ty (π ?_)));rw [if_pos (by decide)];exact ζ (d9 (π ⟨_,rfl,h2 hc⟩))
 ·have c1:us≠[]:=fun z=>hc (.inl z)
  have c2:k≠1:=fun z=>hc (.inr z)
  have c3:us.toArray.isEmpty=false:=by cases us with
   | nil=>exact absurd rfl c1
   | cons _ _=>rfl
  rw [if_neg (by rw [c3,d7];simpa using c2)];unfold aZ;by_cases hk:k<=0
  ·have e0:k=0:=by omega
   subst e0;rw [if_pos (by simp)];exact ζ (Ϝ (π ⟨_,rfl,h3 hc⟩) (cT _))
  ·have hm:(us.length:Int)*k<=16777216:=by
    rw [bD] at hz;have:(us.length:Int)*k=((us.length*k.toNat:Nat):Int):=by rw [Int.natCast_mul,Int.toNat_of_nonneg k0]
    rw [this];omega
   have er:lC (fun x1 x2=>x1++x2) #[] (η k.toNat us.toArray)=(η k.toNat us).flatten.toArray:=W8 us k.toNat [];rw [ο];rw [if_neg (by rw [c3,lV,decide_eq_true_eq];exact hk),if_neg (by omega),if_neg (by unfold Ω.Tuple.tupleTooMany;rw [decide_eq_true_eq,bD];omega)];rw [er];refine ζ (Ϝ (π ⟨_,rfl,h3 hc⟩) ?_);show (η k.toNat us).flatten.toArray.size<=sizeLine
   rw [ο,gf,gA,fc,mR];exact hz
variable {X:Cx}
def ziM:R2:=fun x y H Q=>∃ l xs n,x=.ref l/\y=.int n/\H l=some (.tup xs)/\0<=n/\n < 2 ^ 20/\xs.length*n.toNat<=sizeLine/\((η n.toNat xs).flatten=xs->Q (.ref l) H)/\∀ p,H p=none->Q (.ref p) (upd H p (.tup (η n.toNat xs).flatten))
theorem zdF:OpR X (aU .Mult) ziM:=by
 intro pj s σ H x y v u Q I rx ry h;obtain ⟨l,xs,k,rfl,rfl,hH,k0,k1,hz,qs,q⟩:=h;cases rx;obtain ⟨t,rfl⟩:=ry;obtain ⟨z,its,r,e⟩:=I.hok _ _ hH;have hl:=r.length;obtain ⟨⟨cls,dd,data,sl⟩,ho,hc,n,hd⟩:=id e;simp only at hc hd;subst hc hd;have hfl:(η k.toNat xs).flatten.length=xs.length*k.toNat:=by rw [gf,gA,fc,mR]
 refine mU (T:="tuple") (U:="int") (by decide) ⟨_,ho,rfl⟩ (fun s'=>iG s' k t) jw F.fills_int_mul F.slot_int_rmul Y9 F.slot_int_index.lookup
  (fY F.slot_int_rmul (iG s k t) F.entry_int_rmul (F.args_int_rmul_2 _ _) (JF k t l its.toArray n dd sl)
   ⟨ho,rfl,⟨_,ho,rfl⟩,fY F.slot_tuple_mul ⟨_,ho,rfl⟩ F.entry_tuple_mul (F.args_tuple_mul_2 _ _)
    (QF l its n dd sl k t k0 k1 (by rw [<- hl];exact hz)) ⟨ho,fun hc=>?_,fun _=>?_⟩⟩)
 ·refine ⟨.ref l,H,I,rfl,qs ?_⟩;rcases hc with z | z
  ·rw [z] at hl;have e0:=bH.mp hl;rw [e0]
   induction k.toNat with
   | zero=>rfl
   | succ m ih=>rw [ϯ,bB,ih];rfl
  ·rw [z];simp
 ·exact ⟨.ref _,_,I.laid (t':=s.toks) (a:=s.heap.objs.size) (o:=.tup (η k.toNat xs).flatten) (fun b o e=>μ _ e) (Ζ _) ⟨by rw [hfl];exact hz,_,Z0 r _,gK.new _ _⟩,rfl,q _ I.fresh⟩
end
section
variable {X:Cx}
def ziQ (K:W.Frag):V->List V->Hp->VK->Prop:=fun x vs H Q=>∃ l b xs zs,x=.ref l/\vs=[.ref b]/\H l=some (.lst xs)/\(H b=some (.lst zs)\/SqT K H b zs)/\xs.length+zs.length<=sizeLine/\Q .non (upd H l (.lst (xs++zs)))
theorem zd0:MtM X "list.extend" (ziQ X.K):=by
 intro pj s σ H x vs v us Q I rx rv h;obtain ⟨l,b,xs,zs,e1,e2,hH,hB,hz,q⟩:=h;rcases hB with hB | hB
 ·exact QG pj s σ H x vs v us Q I rx rv ⟨l,b,xs,zs,e1,e2,hH,hB,hz,q⟩
 ·subst e1 e2;cases rx;obtain ⟨u,rfl,ru⟩:=rv.one;cases ru;obtain ⟨z,its,n,r,hl,e⟩:=I.lstM hH;obtain ⟨its2,r2,⟨o,ho,hc,n2,hd⟩,z2⟩:=I.tuple hB;have l1:=r.length;have l2:=r2.length;have hsz:its.toArray.size+its2.toArray.size<=sizeLine:=by rw [ο,ο];omega
  refine aD F.slot_list_extend ⟨_,e,rfl⟩ F.entry_list_extend ?_ (F.args_list_extend_2 _ _);show Ρ _ _ (gn (.ref l) (.ref b) .none) _ _ _
  unfold gn;refine ζ (bT (T:="tuple") ⟨o,ho,hc⟩ ?_);rw [if_pos (by simp)];refine ζ (listItems_at ho hd (ζ (listItems_at e rfl ?_)));rw [if_neg (by rw [Uz hsz,aM];exact Κ)];refine ζ (listUpdate_at e rfl (π ⟨_,rfl,?_⟩) (by rw [ο];omega) (by rw [Array.size_append];omega));refine ⟨.non,_,I.lset (f:=fun x=>x++its2.toArray) (its':=its++its2) (t':=s.toks) hH e (by simp) (r.append r2) ?_,rfl,q⟩;rw [Υ];omega
end
theorem PE.imp {X:Cx}{e:Expr}{t t':TE}(h:PE X e t) (i:∀ σ H Q,t' σ H Q->t σ H Q):PE X e t':=fun pj s σ H Q I q=>h pj s σ H Q I (i σ H Q q)
theorem PT.imp {X:Cx}{e:Expr}{t t':TT}(h:PT X e t) (i:∀ σ H Q,t' σ H Q->t σ H Q):PT X e t':=fun pj s σ H Q I q=>h pj s σ H Q I (i σ H Q q)
theorem PA.imp {X:Cx}{e:List Expr}{t t':TA}(h:PA X e t) (i:∀ σ H Q,t' σ H Q->t σ H Q):PA X e t':=fun pos pj s σ H Q I q=>h pos pj s σ H Q I (i σ H Q q)
theorem PS.imp {X:Cx}{e:Stmt}{t t':TS}(h:PS X e t) (i:∀ D σ H,t' D σ H->t D σ H):PS X e t':=fun pj s σ H D I q=>h pj s σ H D I (i D σ H q)
theorem PSs.imp {X:Cx}{e:List Stmt}{t t':TS}(h:PSs X e t) (i:∀ D σ H,t' D σ H->t D σ H):PSs X e t':=fun pj s σ H D I q=>h pj s σ H D I (i D σ H q)
section
variable {fs ex:List Addr}{H H1:Hp}{h h1 h':Heap}{C:Addr}
theorem Un.sameBut (u:Un fs ex H H1 h h1) (sb:Ϫ C h1 h') (hC:h.objs.size<=C):Un fs ex H H1 h h':=by
 have ne:∀ b o,h.get? b=some o->b≠C:=fun b o e=>ϊ (Χ (Θ e) hC)
 refine ⟨fun b o e n hb hx=>(sb.2 b (ne b o e)).trans (u.keep b o e n hb hx),fun b o e n hb hx=>?_,u.free,fun b o e hx=>?_,u.tups,u.frzs,u.tbls⟩
 ·obtain ⟨sl,q⟩:=u.slot b o e n hb hx;exact ⟨sl,(sb.2 b (ne b o e)).trans q⟩
 ·obtain ⟨o',q⟩:=u.there b o e hx;exact ⟨o',(sb.2 b (ne b o e)).trans q⟩
theorem HOk.sameBut {P:Λ}{w:ϓ}(x:HOk P w H h) (sb:Ϫ C h h') (hC:H C=none):HOk P w H h':=fun b o e=>by
 refine (x b o e).stay (fun c v hc q=>(sb.2 c ?_).trans q) (fun _ q=>q) fun _ _ q=>q
 rintro rfl;rcases hc with rfl | hc
 ·rw [hC] at e;cases e
 ·rw [hC] at hc;cases hc
end
noncomputable def rows (σ:St) (js:List Nat):St:=js.map fun j=>σ.getD j none
section
variable {X:Cx}
theorem VR:yP X (.builtin "isinstance") (fun xs H Q=>∃ x T t b,xs=[x,.ty T]/\TyOf X.K H x t/\W.kitOne X.K t (.type T)=some b/\Q (.bl b) H):=by intro pj s σ H vs us Q I rv h;obtain ⟨x,T,t,b,rfl,ty,e,q⟩:=h;obtain ⟨u,v,rfl,ru,rt⟩:=rv.two;cases (show v=ό T from rt);exact zaf I ru ty e fun tk=>⟨.bl b,H,I.tok tk,rfl,q⟩
theorem zgv:OpR X (ϋ .Is) (fun x y H Q=>∃ a b,x=.bl a/\y=.bl b/\Q (.bl (a==b)) H):=by intro pj s σ H x y v u Q I rx ry h;obtain ⟨a,b,rfl,rfl,q⟩:=h;cases rx;cases ry;exact is_bool (Wb I q rfl)
theorem zdI:OpR X (ϋ .IsNot) (fun x y H Q=>∃ a b,x=.bl a/\y=.bl b/\Q (.bl (a != b)) H):=by intro pj s σ H x y v u Q I rx ry h;obtain ⟨a,b,rfl,rfl,q⟩:=h;cases rx;cases ry;exact isnot_bool (Wb I q rfl)
def zjV (_ j:Int):Prop:=0 < j/\j < 2 ^ 64
theorem zbw:OpR X (aU .FloorDiv) (rI zjV fun i j=>.int (i / j)):=opI fun i j _ _ _ _ _ hc q=>by
 have e:i.fdiv j=i / j:=Int.fdiv_eq_ediv_of_nonneg _ (Int.le_of_lt hc.1);refine floordiv_int (by have:=hc.1;lia) (by rw [e];exact q) (.inl (PyProof.noPylong_of_log2 ?_));have h1:j.natAbs < 2 ^ 64:=by have:=hc.2;have:=hc.1;lia
 by_cases h0:j.natAbs=0
 ·rw [h0];decide
 ·have:=(Nat.log2_lt h0).mpr h1;lia
theorem ze4:∀ {bs:List Bool}{us:List δ},Vals (bs.map V.bl) us->us=bs.map ϕ
 | [],_,.nil=>rfl
 | b::bs,_,.cons r t=>by cases (show _=ϕ b from r);rw [ze4 t];rfl
theorem JG (bs:List Bool):((Ϲ bs.length).all fun i=>(bs[i]?).getD true)=bs.all id:=by
 rw [Bool.eq_iff_iff,ak,ak];constructor
 ·intro h b hb;obtain ⟨i,hi,rfl⟩:=m5 hb;have:=h i (cu.mpr hi);simpa [ψ hi] using this
 ·intro h i hi;have hi':=cu.mp hi;have:=h _ (cB hi');simpa [ψ hi'] using this
theorem zbY (hc:X.calm=true):yP X (.builtin "all") (fun xs H Q=>∃ (p:Addr) (bs:List Bool),xs=[.ref p]/\SqL X.K H p (bs.map V.bl)/\Q (.bl (bs.all id)) H):=by
 intro pj s σ H vs us Q I rv h;obtain ⟨p,bs,rfl,hq,q⟩:=h;obtain ⟨u,rfl,ru⟩:=rv.one;cases (show u=Β p from ru);obtain ⟨its,rv,hp,hz⟩:=I.list hq;obtain rfl:=ze4 rv;have hl:=hp.isList;have hlt:p < s.heap.objs.size:=by obtain ⟨_,e,_⟩:=hl;exact Θ e
 have hh:X.A.handled=none:=I.ok.hd hc;refine call_all_walk (iV hl ?_)
 refine ⟨s.heap.objs.size,[s.heap.objs.size,p],[s.heap.objs.size],(bs.map ϕ).toArray.size,_,_,fun i=>(bs[i]?).getD true,rfl,Walks.list (A:=X.A.in1) hh _ p (ϊ hlt) (bs.map ϕ).toArray,
  ⟨⟨_,Μ _ rfl,rfl,rfl⟩,hl.push _⟩,fun i v s' Q' E' hP hQ=>?_,fun h' tk hk=>?_⟩
 ·have hP':(bs.map ϕ)[i]?=some v:=by simpa using hP
  rw [Η] at hP';cases e:bs[i]? with
  | none=>rw [e] at hP';cases hP'
  | some b=>
   rw [e] at hP';cases hP';simp only [e,Option.getD_some] at hQ;exact aG hQ
 ·have e:((Ϲ (bs.map ϕ).toArray.size).all fun i=>(bs[i]?).getD true)=bs.all id:=by rw [ο,ξ];exact JG bs
  rw [e];exact ⟨.bl _,H,I.kept (LSm.kept_iter hk),rfl,q⟩
end
end L2
namespace HT
open PySem PyProof.Rows
open PySem.SeqAt
open PySem.AutoSeq1 (wpAny_loadPart')
open PySem.MeetsSeq PySem.MeetsSeq2 PySem.MeetsSeq3
section
variable {prog:Λ}{w:ϓ}{A:ϙ}{E:δ->ς->Prop}{s:ς}
theorem zbX {t b:Addr}{ws:List δ}{Q:δ->ς->Prop}(ht:gK s.heap t ([]:List δ).toArray) (hb:gK s.heap b ws.toArray)
  (h:Q (.ref b) s):Ρ (ώ prog w) A (aU .Add (.ref t) (.ref b)) Q E s:=by
 obtain ⟨⟨cls,dd,data,sl⟩,ho,hc,n,hd⟩:=id ht;obtain ⟨⟨cls2,dd2,data2,sl2⟩,ho2,hc2,n2,hd2⟩:=id hb;simp only at hc hd hc2 hd2;subst hc hd hc2 hd2;exact nq ⟨_,ho,rfl⟩ ⟨_,ho2,rfl⟩ lE mX eF dU (dM _ _)
   (tuple_addW0 t b ([]:List δ).toArray ws.toArray n n2 dd dd2 sl sl2 (by simp)) ⟨ho,ho2,h⟩
theorem v7 {t sl:Addr}{items:Array δ}{vl vu:δ}{lo hi:Option Int}{Q:δ->ς->Prop}(ht:gK s.heap t items) (hs:s.heap.IsSliceOf sl vl vu .none) (pl:f9 vl lo) (pu:f9 vu hi)
  (hw:sIx items.size 0 lo=0/\sIx items.size items.size hi=items.size) (h:Q (.ref t) s):Ρ (ώ prog w) A (gR (.ref t) (.ref sl)) Q E s:=by
 obtain ⟨os,hos,hcs,hds⟩:=id hs;have hTs:s.TypeIs (.ref sl) "slice":=⟨os,hos,hcs⟩
 unfold gR
 try with_reducible refine dG ?_
 first | refine ζ (π ?_) | skip
 refine ζ (wpAny_sequenceKey ht.typeIs (by decide) ?_)
 refine ζ (aj (name:=ik "__getitem__") ht.typeIs Ϯ
  (aD Ϯ ht.typeIs entry_tuple_getitem ?_ (args_tuple_getitem _ _)))
 show Ρ _ _ (bL (.ref t) >>= _) _ _ s
 refine ζ (tupleItemsOf_ ht ?_);refine ζ (bT hTs ?_);rw [if_pos (by decide)];refine ζ (wD hs pl pu ?_);have hyes:(((sIx items.size 0 lo:Nat):Int)==0&&(1:Int)==1&&(sIx items.size items.size hi - sIx items.size 0 lo)==items.size)=true:=by rw [hw.1,hw.2];simp
 show Ρ _ _ (if (((sIx items.size 0 lo:Nat):Int)==0&&(1:Int)==1&&(sIx items.size items.size hi - sIx items.size 0 lo)==items.size)=true then _ else _) _ _ s
 rw [if_pos hyes];unfold gk
 first
  | (refine ζ (ζ (bT ht.typeIs (π ?_)));rw [if_pos (by decide)];exact ζ (d9 (π ⟨_,rfl,π h⟩)))
  | (refine ζ (ζ (bT ht.typeIs (π ?_)));rw [if_pos (by decide)];exact ζ (d9 (ζ (π (π ⟨_,rfl,π h⟩)))))
  | (refine ζ (ζ (ζ (bT ht.typeIs (π ?_))));rw [if_pos (by decide)];exact ζ (d9 (π (π ⟨_,rfl,π h⟩))))
  | (refine ζ (ζ (bT ht.typeIs (π ?_)));rw [if_pos (by decide)];trace_state;done)
end
end HT
namespace L2
open PySem PySem.Spec PyProof.Rows
section
variable {X:Cx}
def zf2 (K:W.Frag):R2:=fun x y H Q=>∃ a b ys,x=.ref a/\y=.ref b/\SqT K H a []/\SqT K H b ys/\Q (.ref b) H
theorem zbx:OpR X (aU .Add) (zf2 X.K):=by intro pj s σ H x y v u Q I rx ry h;obtain ⟨a,b,ys,rfl,rfl,ha,hb,q⟩:=h;cases rx;cases ry;obtain ⟨its,r1,p1,_⟩:=I.tuple ha;obtain ⟨its2,r2,p2,_⟩:=I.tuple hb;cases r1;exact HT.zbX p1 p2 ⟨.ref b,H,I,rfl,q⟩
def rSlW (K:W.Frag):V->Option Int->Option Int->Hp->VK->Prop:=fun x lo hi H Q=>∃ a xs,x=.ref a/\SqT K H a xs/\(HT.sIx xs.length 0 lo=0/\HT.sIx xs.length xs.length hi=xs.length)/\Q (.ref a) H
theorem zc5:SlR X (rSlW X.K):=by
 intro pj s σ H x v vl vu lo hi sl Q I rx hs pl pu h;obtain ⟨a,xs,rfl,hx,hw,q⟩:=h;cases rx;obtain ⟨its,r,ht,hz⟩:=I.tuple hx;have hlen:its.toArray.size=xs.length:=by rw [ο];exact r.length.symm
 refine ⟨"tuple",_,Ϯ.lookup,ht.typeIs,?_⟩;exact HT.v7 ht hs pl pu (by rw [hlen];exact hw) ⟨.ref a,H,I,rfl,q⟩
end
end L2
namespace EV
open PySem PySem.Spec PyProof.Rows L2
noncomputable abbrev Store:=List D
structure Gm where
 K:W.Frag
 fa:Nat->Option Addr
 ca:Nat->Option Addr
 la:Nat->Str->aO->Expr->aH->List Str->Prop
 ta:Nat->Option (Addr×Str)
structure G where
 R:Hp
 α:List Addr
def KTup (K:W.Frag) (a:Addr) (xs:List V):Prop:=∃ (o:Obj) (its:Array δ) (n:Nat),K.lookup a=some o/\o.cls=.type "tuple"/\o.data=.seq its n/\its.size<=sizeLine/\Vals xs its.toList
def KDic (K:W.Frag) (a:Addr) (ps:List (Str×Int)):Prop:=(∃ o,K.lookup a=some o/\o.cls=.type "dict"/\o.dict=none)/\∀ h:Heap,K.In h->KTD.TextTab h a (ps.map fun p=>(p.1,.flat (.int p.2)))
mutual
def Has (Γ:Gm) (g:G):D->V->Prop
 | .non,v=>v=.non
 | .bl b,v=>v=.bl b
 | .int i,v=>v=.int i
 | .str x,v=>v=.str x
 | .tup ds,v=>∃ a vs,v=.ref a/\g.R a=some (.tup vs)/\Hass Γ g ds vs
 | .lst ds,v=>∃ a vs,v=.ref a/\g.R a=some (.lst vs)/\Hass Γ g ds vs
 | .dK ks ds,v=>∃ a vs,v=.ref a/\g.R a=some (.dK (ks.zip vs))/\ks.length=ds.length/\Hass Γ g ds vs
 | .dT ks ds,v=>∃ a vs,v=.ref a/\g.R a=some (.dT (ks.zip vs))/\ks.length=ds.length/\Hass Γ g ds vs
 | .ref k,v=>∃ a,g.α[k]?=some a/\v=.ref a
 | .fn f,v=>∃ a,Γ.fa f=some a/\v=.ref a
 | .scr ns,v=>∃ a,v=.ref a/\SqL Γ.K g.R a (ns.map V.int)
 | .ktp ds,v=>∃ a vs,v=.ref a/\KTup Γ.K a vs/\Hass Γ g ds vs
 | .kdc ps,v=>∃ a,v=.ref a/\KDic Γ.K a ps
 | .dF ks ds,v=>∃ a vs o,v=.ref a/\g.R a=some (.frz o (.dT (ks.zip vs)))/\ks.length=ds.length/\Hass Γ g ds vs
 | .ins c ns ds,v=>∃ a C dx vs,v=.ref a/\caOf Γ.K c=some C/\g.R a=some (.ins C dx (ns.zip vs))/\ns.length=ds.length/\Hass Γ g ds vs
 | .lam f ds,v=>∃ a q pr b sc cl pm cv ct fs ws,v=.ref a/\g.R a=some (kn (lamO q pr b sc cl pm cv ct))/\yI g.R q cv/\Clo g.R cl fs ws/\Γ.la f q pr b sc fs/\Hass Γ g ds ws
 | .tab n,v=>∃ a q ps,v=.ref a/\Γ.ta n=some (a,q)/\g.R a=some (.tbl ps)/\Trp (yI g.R q) ps.toList
def Hass (Γ:Gm) (g:G):List D->List V->Prop
 | [],vs=>vs=[]
 | d::ds,vs=>∃ v r,vs=v::r/\Has Γ g d v/\Hass Γ g ds r
end
theorem wZ {R R':Hp}{q:Str}{v:δ}(e:Same R R') (h:yI R q v):yI R' q v:=by obtain ⟨c,o,h1,h2,h3⟩:=h;exact ⟨c,o,h1,e _ _ h2,h3⟩
theorem Jm {R R':Hp}{cl:List (Str×Addr)}{fs:List Str}{ws:List V}(e:Same R R') (h:Clo R cl fs ws):Clo R' cl fs ws:=
 ⟨h.len,fun j x w h1 h2=>by
  obtain ⟨c,o,u,f1,f2,f3⟩:=h.cap j x w h1 h2
  exact ⟨c,o,u,f1,e _ _ f2,f3⟩,h.sub,h.inj⟩
structure Le (g g':G):Prop where
 rr:Same g.R g'.R
 aa:∀ (k:Nat) (a:Addr),g.α[k]?=some a->g'.α[k]?=some a
theorem Le.refl (g:G):Le g g:=⟨Same.refl _,fun _ _ h=>h⟩
theorem Le.trans {g g1 g2:G}(a:Le g g1) (b:Le g1 g2):Le g g2:=⟨a.rr.trans b.rr,fun k c h=>b.aa k c (a.aa k c h)⟩
mutual
theorem Jc {Γ:Gm}{g g':G}(e:Le g g'):∀ (d:D) (v:V),Has Γ g d v->Has Γ g' d v
 | .non,_,h=>h
 | .bl _,_,h=>h
 | .int _,_,h=>h
 | .str _,_,h=>h
 | .tup ds,_,⟨a,vs,h1,h2,h3⟩=>⟨a,vs,h1,e.rr _ _ h2,yr e ds vs h3⟩
 | .lst ds,_,⟨a,vs,h1,h2,h3⟩=>⟨a,vs,h1,e.rr _ _ h2,yr e ds vs h3⟩
 | .dK ks ds,_,⟨a,vs,h1,h2,h4,h3⟩=>⟨a,vs,h1,e.rr _ _ h2,h4,yr e ds vs h3⟩
 | .dT ks ds,_,⟨a,vs,h1,h2,h4,h3⟩=>⟨a,vs,h1,e.rr _ _ h2,h4,yr e ds vs h3⟩
 | .ref k,_,⟨a,h1,h2⟩=>⟨a,e.aa _ _ h1,h2⟩
 | .fn f,_,h=>h
 | .scr _,_,⟨a,h1,h2⟩=>⟨a,h1,e.rr.seq h2⟩
 | .ktp ds,_,⟨a,vs,h1,h2,h3⟩=>⟨a,vs,h1,h2,yr e ds vs h3⟩
 | .kdc _,_,h=>h
 | .dF ks ds,_,⟨a,vs,o,h1,h2,h4,h3⟩=>⟨a,vs,o,h1,e.rr _ _ h2,h4,yr e ds vs h3⟩
 | .ins c ns ds,_,⟨a,C,dx,vs,h1,h0,h2,h4,h3⟩=>⟨a,C,dx,vs,h1,h0,e.rr _ _ h2,h4,yr e ds vs h3⟩
 | .lam f ds,_,⟨a,q,pr,b,sc,cl,pm,cv,ct,fs,ws,h1,h2,h3,h4,h5,h6⟩=>⟨a,q,pr,b,sc,cl,pm,cv,ct,fs,ws,h1,e.rr _ _ h2,wZ e.rr h3,Jm e.rr h4,h5,yr e ds ws h6⟩
 | .tab n,_,⟨a,q,ps,h1,h0,h2,h3⟩=>⟨a,q,ps,h1,h0,e.rr _ _ h2,h3.mono fun _=>wZ e.rr⟩
theorem yr {Γ:Gm}{g g':G}(e:Le g g'):∀ (ds:List D) (vs:List V),Hass Γ g ds vs->Hass Γ g' ds vs
 | [],_,h=>h
 | d::ds,_,⟨v,r,h1,h2,h3⟩=>⟨v,r,h1,Jc e d v h2,yr e ds r h3⟩
end
theorem Has.mono {Γ:Gm}{g g':G}{d:D}{v:V}(h:Has Γ g d v) (e:Le g g'):Has Γ g' d v:=Jc e d v h
theorem Hass.mono {Γ:Gm}{g g':G}{d:List D}{v:List V}(h:Hass Γ g d v) (e:Le g g'):Hass Γ g' d v:=yr e d v h
section
variable {Γ:Gm}{g:G}
theorem Hass.len:∀ {ds:List D}{vs:List V},Hass Γ g ds vs->vs.length=ds.length
 | [],_,h=>by cases (show _=[] from h);rfl
 | d::ds,_,⟨v,r,h1,_,h3⟩=>by subst h1;simp [Hass.len h3]
theorem Hass.get:∀ {ds:List D}{vs:List V}{i:Nat}{d:D},Hass Γ g ds vs->ds[i]?=some d->∃ v,vs[i]?=some v/\Has Γ g d v
 | [],_,_,_,_,e=>by simp at e
 | d::ds,_,0,_,⟨v,r,h1,h2,_⟩,e=>by subst h1;simp at e;subst e;exact ⟨v,rfl,h2⟩
 | d::ds,_,i+1,_,⟨v,r,h1,_,h3⟩,e=>by subst h1;obtain ⟨u,q,hu⟩:=Hass.get (i:=i) h3 (by simpa using e);exact ⟨u,by simpa using q,hu⟩
theorem Hass.of:∀ {ds:List D}{vs:List V},vs.length=ds.length->(∀ (i:Nat) (d:D) (v:V),ds[i]?=some d->vs[i]?=some v->Has Γ g d v)->Hass Γ g ds vs
 | [],[],_,_=>rfl
 | d::ds,v::vs,hl,h=>⟨v,vs,rfl,h 0 d v rfl rfl,Hass.of (by simpa using hl) fun i d v e1 e2=>h (i+1) d v (by simpa using e1) (by simpa using e2)⟩
 | [],_::_,hl,_=>by simp at hl
 | _::_,[],hl,_=>by simp at hl
theorem Hass.one {d:D}{vs:List V}(h:Hass Γ g [d] vs):∃ v,vs=[v]/\Has Γ g d v:=by obtain ⟨v,r,e,hd,hr⟩:=h;cases (show r=[] from hr);exact ⟨v,e,hd⟩
theorem Hass.two {d e:D}{vs:List V}(h:Hass Γ g [d,e] vs):∃ v u,vs=[v,u]/\Has Γ g d v/\Has Γ g e u:=by obtain ⟨v,r,e1,hd,hr⟩:=h;obtain ⟨u,e2,he⟩:=Hass.one hr;subst e2;exact ⟨v,u,e1,hd,he⟩
theorem Hass.mk1 {d:D}{v:V}(h:Has Γ g d v):Hass Γ g [d] [v]:=⟨v,[],rfl,h,rfl⟩
theorem Hass.app:∀ {ds es:List D}{vs us:List V},Hass Γ g ds vs->Hass Γ g es us->Hass Γ g (ds++es) (vs++us)
 | [],_,_,_,h,k=>by cases (show _=[] from h);exact k
 | d::ds,_,_,_,⟨v,r,h1,h2,h3⟩,k=>by subst h1;exact ⟨v,_,rfl,h2,Hass.app h3 k⟩
theorem Hass.drop {ds:List D}{vs:List V}(n:Nat) (h:Hass Γ g ds vs):Hass Γ g (ds.drop n) (vs.drop n):=by
 refine Hass.of (by rw [bI,bI,h.len]) fun i d v e1 e2=>?_
 rw [List.getElem?_drop] at e1 e2;obtain ⟨u,q,hu⟩:=h.get e1;rw [q] at e2;cases e2;exact hu
set_option tactic.hygienic true in
theorem Hass.take {ds:List D}{vs:List V}(n:Nat) (h:Hass Γ g ds vs):Hass Γ g (ds.take n) (vs.take n):=by
 refine Hass.of (by rw [bG,bG,h.len]) fun i d v e1 e2=>?_
 rw [List.getElem?_take] at e1 e2;split at e1
 ·rename_i hi
  rw [if_pos hi] at e2;obtain ⟨u,q,hu⟩:=h.get e1;rw [q] at e2;cases e2;exact hu
 ·cases e1
set_option tactic.hygienic true in
theorem Hass.set {ds:List D}{vs:List V}{d:D}{v:V}(n:Nat) (h:Hass Γ g ds vs) (hd:Has Γ g d v):Hass Γ g (ds.set n d) (vs.set n v):=by
 refine Hass.of (by rw [ϭ,ϭ,h.len]) fun i d' v' e1 e2=>?_
 rw [cV] at e1 e2;split at e1
 ·rename_i hi
  rw [if_pos hi] at e2;split at e1
  ·split at e2
   ·cases e1;cases e2;exact hd
   ·cases e2
  ·cases e1
 ·rename_i hi
  rw [if_neg hi] at e2;obtain ⟨u,q,hu⟩:=h.get e1;rw [q] at e2;cases e2;exact hu
theorem Hass.ints:∀ {ns:List Int},Hass Γ g (ns.map D.int) (ns.map V.int)
 | []=>rfl
 | _::_=>⟨_,_,rfl,rfl,Hass.ints⟩
end
def MutF:HO->Prop
 | .frz _ _=>True
 | .tbl _=>True
 | o=>Mut (some o)
def z9 (Γ:Gm) (H:Hp) (g:G) (a:Addr):D->Prop
 | .lst ds=>∃ vs,H a=some (.lst vs)/\Hass Γ g ds vs
 | .dK ks ds=>∃ vs,H a=some (.dK (ks.zip vs))/\ks.length=ds.length/\Hass Γ g ds vs
 | .dT ks ds=>∃ vs,H a=some (.dT (ks.zip vs))/\ks.length=ds.length/\Hass Γ g ds vs
 | .ref _=>∃ o,g.R a=some o/\H a=some o/\MutF o
 | .ins c ns ds=>∃ C dx vs,caOf Γ.K c=some C/\H a=some (.ins C dx (ns.zip vs))/\ns.length=ds.length/\Hass Γ g ds vs
 | .tab n=>∃ q ps,Γ.ta n=some (a,q)/\H a=some (.tbl ps)/\Trp (yI g.R q) ps.toList
 | _=>False
noncomputable def gone:D->Bool
 | .ref _=>true
 | _=>false
theorem z9.mono {Γ:Gm}{H H':Hp}{g g':G}{a:Addr}{c:D}(h:z9 Γ H g a c) (e:Le g g') (hh:∀ o,H a=some o->H' a=some o):z9 Γ H' g' a c:=by
 cases c with
 | lst ds=>obtain ⟨vs,h1,h2⟩:=h;exact ⟨vs,hh _ h1,h2.mono e⟩
 | dK ks ds=>obtain ⟨vs,h1,h3,h2⟩:=h;exact ⟨vs,hh _ h1,h3,h2.mono e⟩
 | dT ks ds=>obtain ⟨vs,h1,h3,h2⟩:=h;exact ⟨vs,hh _ h1,h3,h2.mono e⟩
 | non=>exact h
 | bl=>exact h
 | int=>exact h
 | str=>exact h
 | tup=>exact h
 | ref=>obtain ⟨o,h1,h2,h3⟩:=h;exact ⟨o,e.rr _ _ h1,hh _ h2,h3⟩
 | fn=>exact h
 | scr=>exact h
 | ktp=>exact h
 | kdc=>exact h
 | dF=>exact h
 | ins=>obtain ⟨C,dx,vs,h0,h1,h3,h2⟩:=h;exact ⟨C,dx,vs,h0,hh _ h1,h3,h2.mono e⟩
 | lam=>exact h
 | tab=>obtain ⟨q,ps,h0,h1,h2⟩:=h;exact ⟨q,ps,h0,hh _ h1,h2.mono fun _=>wZ e.rr⟩
theorem z9.J6 {Γ:Gm}{H:Hp}{g:G}{a:Addr}{c:D}(h:z9 Γ H g a c):∃ o,H a=some o/\MutF o:=by
 cases c with
 | lst ds=>obtain ⟨vs,h1,h2⟩:=h;exact ⟨_,h1,ϱ⟩
 | dK ks ds=>obtain ⟨vs,h1,h3,h2⟩:=h;exact ⟨_,h1,ϱ⟩
 | dT ks ds=>obtain ⟨vs,h1,h3,h2⟩:=h;exact ⟨_,h1,ϱ⟩
 | non=>exact h.elim
 | bl=>exact h.elim
 | int=>exact h.elim
 | str=>exact h.elim
 | tup=>exact h.elim
 | ref=>obtain ⟨o,h1,h2,h3⟩:=h;exact ⟨o,h2,h3⟩
 | fn=>exact h.elim
 | scr=>exact h.elim
 | ktp=>exact h.elim
 | kdc=>exact h.elim
 | dF=>exact h.elim
 | ins=>obtain ⟨C,dx,vs,h0,h1,h3,h2⟩:=h;exact ⟨_,h1,ϱ⟩
 | lam=>exact h.elim
 | tab=>obtain ⟨q,ps,h0,h1,h2⟩:=h;exact ⟨_,h1,ϱ⟩
structure WOk (Γ:Gm) (H:Hp) (g:G) (S:Store):Prop where
 rh:Same g.R H
 len:g.α.length=S.length
 nd:g.α.Nodup
 off:∀ (k:Nat) (c:D) (a:Addr),S[k]?=some c->g.α[k]?=some a->gone c=false->g.R a=none
 cell:∀ (k:Nat) (c:D) (a:Addr),S[k]?=some c->g.α[k]?=some a->z9 Γ H g a c
noncomputable def fixB:HO->Bool
 | .tup _=>true
 | .frz _ _=>true
 | _=>false
theorem z9.U8 {Γ:Gm}{H:Hp}{g:G}{a:Addr}{c:D}(h:z9 Γ H g a c) (hr:g.R a=none):∃ o,H a=some o/\fixB o=false:=by
 cases c with
 | lst ds=>obtain ⟨vs,h1,h2⟩:=h;exact ⟨_,h1,rfl⟩
 | dK ks ds=>obtain ⟨vs,h1,h2⟩:=h;exact ⟨_,h1,rfl⟩
 | dT ks ds=>obtain ⟨vs,h1,h2⟩:=h;exact ⟨_,h1,rfl⟩
 | ref=>obtain ⟨o,h1,_⟩:=h;rw [hr] at h1;cases h1
 | ins=>obtain ⟨C,dx,vs,h0,h1,_⟩:=h;exact ⟨_,h1,rfl⟩
 | tab=>obtain ⟨q,ps,h0,h1,_⟩:=h;exact ⟨_,h1,rfl⟩
 | _=>exact h.elim
structure Step (H:Hp) (g:G) (H':Hp) (g':G):Prop where
 le:Le g g'
 fr:∀ a o,H a=some o->a ∉ g.α->H' a=some o
 ex:∀ a o,H a=some o->∃ o',H' a=some o'
 na:∀ a∈g'.α,a∈g.α\/H a=none
 nr:∀ a,g'.R a≠none->g.R a≠none\/H a=none\/a∈g.α\/∃ o,H a=some o/\fixB o=true
theorem Step.refl (H:Hp) (g:G):Step H g H g:=⟨Le.refl g,fun _ _ h _=>h,fun _ o h=>⟨o,h⟩,fun _ h=>.inl h,fun _ h=>.inl h⟩
theorem Step.UG {H H':Hp}{g g':G}(s:Step H g H' g') {a:Addr}(h:H' a=none):H a=none:=by
 cases q:H a with
 | none=>rfl
 | some o=>
  obtain ⟨o',e⟩:=s.ex a o q;rw [e] at h;cases h
theorem Step.trans {H H1 H2:Hp}{g g1 g2:G}(a:Step H g H1 g1) (b:Step H1 g1 H2 g2):Step H g H2 g2 where
 le:=a.le.trans b.le
 fr:=fun x o h n=>b.fr x o (a.fr x o h n) fun m=>by
  rcases a.na x m with q | q
  ·exact n q
  ·rw [h] at q;cases q
 ex:=fun x o h=>let ⟨o1,h1⟩:=a.ex x o h;b.ex x o1 h1
 na:=fun x m=>by
  rcases b.na x m with q | q
  ·exact a.na x q
  ·exact .inr (a.UG q)
 nr:=fun x m=>by
  rcases b.nr x m with q | q | q | ⟨xs,q,qf⟩
  ·exact a.nr x q
  ·exact .inr (.inl (a.UG q))
  ·rcases a.na x q with q | q
   ·exact .inr (.inr (.inl q))
   ·exact .inr (.inl q)
  ·by_cases hx:x∈g.α
   ·exact .inr (.inr (.inl hx))
   ·cases e:H x with
    | none=>exact .inr (.inl rfl)
    | some o=>
     have:=a.fr x o e hx;rw [q] at this;cases this;exact .inr (.inr (.inr ⟨_,rfl,qf⟩))
theorem Step.of_same {H H':Hp}{g g':G}(s:Same H H') (le:Le g g') (na:∀ a∈g'.α,a∈g.α\/H a=none) (nr:∀ a,g'.R a≠none->g.R a≠none\/H a=none):Step H g H' g':=
 ⟨le,fun a o h _=>s a o h,fun a o h=>⟨o,s a o h⟩,na,fun a h=>(nr a h).imp id .inl⟩
def VOk (Γ:Gm) (H:Hp) (d:D) (fr:Bool) (v:V) (H':Hp) (g':G):Prop:=
 if fr=true then ∃ a,v=.ref a/\H a=none/\g'.R a=none/\a ∉ g'.α/\z9 Γ H' g' a d else Has Γ g' d v
noncomputable def G.put (g:G) (a:Addr) (o:HO):G:={ g with R:=upd g.R a o }
noncomputable def G.cell (g:G) (a:Addr):G:={ g with α:=g.α++[a] }
theorem Le.put {g:G}{a:Addr}{o:HO}(h:g.R a=none):Le g (g.put a o):=⟨fun b u q=>by
 show upd g.R a o b=some u
 rw [zc (zq q h)];exact q,fun _ _ q=>q⟩
theorem Le.cell {g:G}{a:Addr}:Le g (g.cell a):=⟨Same.refl _,fun k b q=>by
 show (g.α++[a])[k]?=some b
 rw [ϑ (υ.mp q).1];exact q⟩
section
variable {Γ:Gm}{H H':Hp}{g g':G}{S:Store}{d:D}{v:V}{a:Addr}
theorem WOk.put {o:HO}(w:WOk Γ H g S) (h:H a=some o) (hn:g.R a=none) (ha:a ∉ g.α):WOk Γ H (g.put a o) S where
 rh:=fun b u q=>by
  by_cases hb:b=a
  ·subst hb;have q':upd g.R b o b=some u:=q;rw [zm] at q';cases q';exact h
  ·have q':upd g.R a o b=some u:=q;rw [zc hb] at q';exact w.rh b u q'
 len:=w.len
 nd:=w.nd
 off:=fun k c b h1 h2 h3=>by
  show upd g.R a o b=none
  have hne:b≠a:=by rintro rfl;exact ha (Ξ h2)
  rw [zc hne];exact w.off k c b h1 h2 h3
 cell:=fun k c b h1 h2=>(w.cell k c b h1 h2).mono (Le.put hn) fun _ q=>q
theorem Step.put {o:HO}(s:Step H g H' g') (hn:g'.R a=none) (h:H a=none):Step H g H' (g'.put a o) where
 le:=s.le.trans (Le.put hn)
 fr:=s.fr
 ex:=s.ex
 na:=s.na
 nr:=fun b q=>by
  by_cases hb:b=a
  ·subst hb;exact .inr (.inl h)
  ·have q':upd g'.R a o b≠none:=q;rw [zc hb] at q';exact s.nr b q'
theorem ZC {o:HO}(hn:g.R a=none) (ho:H a=some o) (h:z9 Γ H g a d):Has Γ (g.put a o) d (.ref a):=by
 have le:Le g (g.put a o):=Le.put hn;have hr:(g.put a o).R a=some o:=zm;cases d with
 | lst ds=>obtain ⟨vs,h1,h2⟩:=h;rw [h1] at ho;cases ho;exact ⟨a,vs,rfl,hr,h2.mono le⟩
 | dK ks ds=>obtain ⟨vs,h1,h3,h2⟩:=h;rw [h1] at ho;cases ho;exact ⟨a,vs,rfl,hr,h3,h2.mono le⟩
 | dT ks ds=>obtain ⟨vs,h1,h3,h2⟩:=h;rw [h1] at ho;cases ho;exact ⟨a,vs,rfl,hr,h3,h2.mono le⟩
 | non=>exact h.elim
 | bl=>exact h.elim
 | int=>exact h.elim
 | str=>exact h.elim
 | tup=>exact h.elim
 | ref=>obtain ⟨o,h1,_⟩:=h;rw [hn] at h1;cases h1
 | fn=>exact h.elim
 | scr=>exact h.elim
 | ktp=>exact h.elim
 | kdc=>exact h.elim
 | dF=>exact h.elim
 | ins=>obtain ⟨C,dx,vs,h0,h1,h3,h2⟩:=h;rw [h1] at ho;cases ho;exact ⟨a,C,dx,vs,rfl,h0,hr,h3,h2.mono le⟩
 | lam=>exact h.elim
 | tab=>obtain ⟨q,ps,h0,h1,h2⟩:=h;rw [h1] at ho;cases ho;exact ⟨a,q,ps,rfl,h0,hr,h2.mono fun _=>wZ le.rr⟩
@[simp] noncomputable def yF:D->Bool:=fun _=>false
theorem freeze {fr:Bool}(s:Step H g H' g') (w:WOk Γ H' g' S) (h:VOk Γ H d fr v H' g') (hi:yF d=false):∃ g2,Step H g H' g2/\WOk Γ H' g2 S/\Has Γ g2 d v/\Le g' g2:=by
 cases fr with
 | false=>exact ⟨g',s,w,h,Le.refl _⟩
 | true=>
  obtain ⟨a,rfl,h0,hn,ha,hc⟩:=(show ∃ a,v=.ref a/\H a=none/\g'.R a=none/\a ∉ g'.α/\z9 Γ H' g' a d from h)
  obtain ⟨o,ho,_⟩:=hc.J6;exact ⟨g'.put a o,s.put hn h0,w.put ho hn ha,ZC hn ho hc,Le.put hn⟩
theorem zhO (s:Step H g H' g') (w:WOk Γ H' g' S) (h:VOk Γ H d true v H' g'):∃ g2,Step H g H' g2/\WOk Γ H' g2 (S++[d])/\Has Γ g2 (.ref S.length) v:=by
 obtain ⟨a,rfl,h0,hn,ha,hc⟩:=(show ∃ a,v=.ref a/\H a=none/\g'.R a=none/\a ∉ g'.α/\z9 Γ H' g' a d from h)
 refine ⟨g'.cell a,⟨s.le.trans Le.cell,s.fr,s.ex,fun b hb=>?_,s.nr⟩,⟨w.rh,?_,?_,fun k c b h1 h2 h3=>?_,fun k c b h1 h2=>?_⟩,a,?_,rfl⟩
 ·rcases ϣ.mp hb with q | q
  ·exact s.na b q
  ·rw [ω.mp q];exact .inr h0
 ·show (g'.α++[a]).length=(S++[d]).length
  simp [w.len]
 ·show (g'.α++[a]).Nodup
  exact nd_snocA w.nd ha
 ·have h2':(g'.α++[a])[k]?=some b:=h2;by_cases hk:k < S.length
  ·rw [ϑ hk] at h1;rw [ϑ (by rw [w.len];exact hk)] at h2';exact w.off k c b h1 h2' h3
  ·rw [ϔ (by rw [w.len];lia)] at h2';have:=Ξ h2';rw [ω.mp this];exact hn
 ·have h2':(g'.α++[a])[k]?=some b:=h2;by_cases hk:k < S.length
  ·rw [ϑ hk] at h1;rw [ϑ (by rw [w.len];exact hk)] at h2';exact (w.cell k c b h1 h2').mono Le.cell fun _ q=>q
  ·rw [ϔ (by lia)] at h1;rw [ϔ (by rw [w.len];lia)] at h2';have e0:k - S.length=0:=by
    cases q:k - S.length with
    | zero=>rfl
    | succ n=>rw [q] at h1;simp at h1
   rw [e0] at h1;rw [w.len,e0] at h2';simp at h1 h2';subst h1 h2';exact hc.mono Le.cell fun _ q=>q
 ·show (g'.α++[a])[S.length]?=some a
  rw [<- w.len];simp
where
 nd_snocA:∀ {l:List Addr}{k:Addr},l.Nodup->¬ k∈l->(l++[k]).Nodup:=fun {l k} h hk=>by rw [bZ];exact ⟨h,by simp,fun x hx y hy=>by rw [ω.mp hy];rintro rfl;exact hk hx⟩
end
end EV
namespace TS
open PySem PyProof.Rows
set_option backward.match.sparseCases true
variable {O:KeyOrd}{key:fO->O.α}{G:fO->Prop}{kd:SortKind}{M:Model}{A:ϙ}{E:δ->ς->Prop}{s:ς}
section
noncomputable def dk:fO:=(.none,.none)
noncomputable def kk (key:fO->O.α) (xs:Array fO) (i:Nat):O.α:=key (xs[i]?.getD dk)
def Srt (key:fO->O.α) (xs:Array fO) (lo hi:Nat):Prop:=∀ i j,lo<=i->i<=j->j < hi->O.kle (kk key xs i) (kk key xs j)
structure Bs (G:fO->Prop) (kd:SortKind) (az:Array fO) (p:Array (Nat×Nat×Nat)) (st:SortSt):Prop where
 perm:(arrOf st).Perm az
 good:∀ x∈az.toList,G x
 kind:kindOf st=kd
 failed:failedOf st=none
 pend:pendingOf st=p
variable {az:Array fO}{p:Array (Nat×Nat×Nat)}
theorem Bs.size {st:SortSt}(h:Bs G kd az p st):(arrOf st).size=az.size:=h.perm.size_eq
theorem Bs.set {st:SortSt}(h:Bs G kd az p st) {xs:Array fO}(q:xs.Perm (arrOf st)):Bs G kd az p (setArr st xs):=⟨q.trans h.perm,h.good,h.kind,h.failed,h.pend⟩
theorem Bs.item {st:SortSt}(h:Bs G kd az p st) {i:Nat}(hi:i < az.size):∃ x,(arrOf st)[i]?=some x/\G x/\kk key (arrOf st) i=key x:=by
 have hi':i < (arrOf st).size:=by rw [h.size];exact hi
 have e:(arrOf st)[i]?=some (arrOf st)[i]:=getElem?_pos _ i hi';refine ⟨(arrOf st)[i],e,h.good _ ((Array.perm_iff_toList_perm.mp h.perm).mem_iff.mp (by simp)),?_⟩;unfold kk;rw [e];rfl
theorem Srt.one {xs:Array fO}{lo:Nat}:Srt key xs lo (lo+1):=fun i j h1 h2 h3=>by
 obtain rfl:i=j:=by lia
 exact KeyOrd.kle_refl _
def Fal (key:fO->O.α) (xs:Array fO) (lo hi:Nat):Prop:=∀ i j,lo<=i->i<=j->j < hi->O.kle (kk key xs j) (kk key xs i)
theorem Fal.same {xs ys:Array fO}{lo hi:Nat}(h:Fal key xs lo hi) (e:∀ k,kk key ys k=kk key xs k):Fal key ys lo hi:=fun i j a b c=>by rw [e,e];exact h i j a b c
end
def zhX:List δ->List Int->Prop
 | [],[]=>True
 | v::vs,n::ns=>(∃ t,v=.int n t)/\zhX vs ns
 | _,_=>False
section
variable {prog:Λ}{w:ϓ}{kz:δ->List Int}
structure Tu (kz:δ->List Int) (h:Heap) (v:δ):Prop where
 it:∃ b o xs m,v=.ref b/\h.get? b=some o/\o.cls=.type "tuple"/\o.data=.seq xs m/\zhX xs.toList (kz v)
theorem Tu.keep {h h':Heap}{v:δ}(t:Tu kz h v) (k:∀ b o,v=.ref b->h.get? b=some o->h'.get? b=some o):Tu kz h' v:=by obtain ⟨⟨b,o,xs,m,e1,e2,e3,e4,e5⟩⟩:=t;exact ⟨⟨b,o,xs,m,e1,k b o e1 e2,e3,e4,e5⟩⟩
end
def Up (l:List Nat):Prop:=l.Pairwise (· < ·)
noncomputable def slotAt (p:Array Nat):Nat->Nat
 | 0=>0
 | i+1=>p.getD i 0+1
noncomputable def txOf:Int×δ->Str
 | (_,.str x _)=>x
 | _=>⟨#[]⟩
section
variable {prog:Λ}{w:ϓ}
def Tx (w:ϓ) (e:Int×δ):Prop:=∃ x t,e=(hashStr w x,aQ x t)
structure Sg (P:Int×δ->Prop) (w:ϓ) (h:Heap) (a:Addr) (led:Bool) (es:Array (Int×δ)) (ep:Nat) (tb:gF):Prop where
 at_:∃ o,h.get? a=some o/\o.ExactSet/\o.data=.set es ep tb
 tx:∀ e∈es.toList,P e
 fit:tb.fits es.size=true
 led_:tb.led=led
 pl:es.size=0\/tb.plain=false\/Up tb.place.toList
abbrev St (w:ϓ) (h:Heap) (a:Addr) (led:Bool) (es:Array (Int×δ)) (ep:Nat) (tb:gF):Prop:=Sg (Tx w) w h a led es ep tb
def Ts (w:ϓ) (h:Heap) (a:Addr) (led:Bool) (ks:List Str):Prop:=∃ es ep tb,St w h a led es ep tb/\(es.toList.map txOf).Perm ks
theorem St.el {h:Heap}{a:Addr}{led:Bool}{es:Array (Int×δ)}{ep:Nat}{tb:gF}(z:∀ e∈es.toList,Tx w e):ElemsOf (PySem.strKind prog w) es.toList:=fun e he=>by obtain ⟨x,t,rfl⟩:=z e he;exact ⟨⟨x,by simp [PySem.strKind,lG],rfl⟩,rfl⟩
theorem Ts.keep {h h':Heap}{a:Addr}{led:Bool}{ks:List Str}(t:Ts w h a led ks) (k:∀ o,h.get? a=some o->h'.get? a=some o):Ts w h' a led ks:=by obtain ⟨es,ep,tb,⟨⟨o,ho,r⟩,x1,x2,x3,x4⟩,pm⟩:=t;exact ⟨es,ep,tb,⟨⟨o,k o ho,r⟩,x1,x2,x3,x4⟩,pm⟩
structure Row (prog:Λ) (w:ϓ) (T:String) (l:Addr) (its:Array δ) (OK:Heap->Prop) (Sx:Addr->Nat->Heap->Prop) (itO:Obj):Prop where
 there:∀ h,OK h->∃ o,h.get? l=some o/\o.cls=.type T
 keep:∀ h h',OK h->(∀ o,h.get? l=some o->h'.get? l=some o)->OK h'
 it:∀ {A:ϙ}{E:δ->ς->Prop}{s:ς}{Q:δ->ς->Prop},OK s.heap->Q (.ref s.heap.objs.size) { s with heap:=s.heap.push itO }->Ρ (ώ prog w) A (pyIter (.ref l)) Q E s
 wk:∀ {A:ϙ}(I:Addr),A.handled=none->l≠I->Walks prog w A I [I,l] [I] its.size (fun i v=>its[i]?=some v) (Sx I)
 st:∀ h,OK h->Sx h.objs.size 0 (h.push itO)
 n1:isSubtype (.type T) (.type "set")=pure false
 n2:isSubtype (.type T) (.type "frozenset")=pure false
 n3:(ό T==ό "dict")=false
noncomputable def SI (f:δ) (i n ep:Nat) (a:Addr):Obj:={ cls:=.type "set_iterator",data:=.fields #[f,.int i 0,.ref a,.int n 0,.int ep 0] }
def Fst (w:ϓ) (h:Heap) (I a tp:Addr) (es:Array (Int×δ)) (ep:Nat) (tb:gF) (ord:List (Int×δ)) (i:Nat) (f:δ):Prop:=
 (w.params.followText "set-order"=true/\(∃ k:Nat,f=.int k 0)/\ord=(pickOrder (w.params.setOrder a ep) es).toList) \/
 (w.params.followText "set-order"=false/\∃ (js:List Nat),f=.ref tp/\tp≠I/\(∃ o n,h.get? tp=some o/\o.data=.seq (js.map fun j:Nat=>ϒ j 0).toArray n)/\js.length=ord.length/\∀ (k:Nat) j,js[k]?=some j->es[j]?=ord[k]?) \/
 (w.params.followText "set-order"=false/\((!tb.plain&&decide (es.size > 1))=false/\Up tb.place.toList)/\tb.led=true/\ord=es.toList/\f=.int (slotAt tb.place i:Nat) 0)
end
section
variable {P:Int×δ->Prop}{prog:Λ}{w:ϓ}{I a tp:Addr}{led:Bool}{es:Array (Int×δ)}{ep:Nat}{tb:gF}{ord:List (Int×δ)}{i:Nat}{f:δ}
structure Wk (P:Int×δ->Prop) (w:ϓ) (h:Heap) (I a tp:Addr) (led:Bool) (es:Array (Int×δ)) (ep:Nat) (tb:gF) (ord:List (Int×δ)) (i:Nat):Prop where
 ne:a≠I
 st:Sg P w h a led es ep tb
 it:∃ f,h.get? I=some (SI f i es.size ep a)/\Fst w h I a tp es ep tb ord i f
theorem Wk.keep {h h':Heap}(k:Wk P w h I a tp led es ep tb ord i) (kk:∀ b∈[I,a,tp],∀ o,h.get? b=some o->h'.get? b=some o):Wk P w h' I a tp led es ep tb ord i:=by
 obtain ⟨ne,⟨⟨so,so1,so2⟩,z1,z2,z3,z4⟩,f,ho,fs⟩:=k;refine ⟨ne,⟨⟨so,kk a (by simp) so so1,so2⟩,z1,z2,z3,z4⟩,f,kk _ (by simp) _ ho,?_⟩;rcases fs with c | ⟨c1,js,c2,c3,⟨o,n,c4,c5⟩,c6⟩ | c
 ·exact .inl c
 ·exact .inr (.inl ⟨c1,js,c2,c3,⟨o,n,kk _ (by simp) _ c4,c5⟩,c6⟩)
 ·exact .inr (.inr c)
end
section
variable {prog:Λ}{w:ϓ}
abbrev Tk (prog:Λ) (w:ϓ) (h:Heap) (k:List Int) (b:Addr):Prop:=IsTupleKey (PySem.intKind prog w) h k b
theorem Tk.keep {h h':Heap}{k:List Int}{b:Addr}(x:Tk prog w h k b) (kk:∀ o,h.get? b=some o->h'.get? b=some o):Tk prog w h' k b:=by obtain ⟨o,its,n,ho,r⟩:=x;exact ⟨o,its,n,kk o ho,r⟩
def Sv (w:ϓ) (h:Heap) (a:Addr) (led:Bool) (bs:List Addr):Prop:=
 ∃ es ep tb,Sg (fun _=>True) w h a led es ep tb/\(es.toList.map (·.2)).Perm (bs.map Β)/\tb.dummies=#[]/\Up tb.place.toList/\(tb.mask=7/\es.size<=4\/es.size=5)
theorem Sv.keep {h h':Heap}{a:Addr}{led:Bool}{bs:List Addr}(t:Sv w h a led bs) (k:∀ o,h.get? a=some o->h'.get? a=some o):Sv w h' a led bs:=by obtain ⟨es,ep,tb,⟨⟨o,ho,r⟩,x1,x2,x3,x4⟩,pm⟩:=t;exact ⟨es,ep,tb,⟨⟨o,k o ho,r⟩,x1,x2,x3,x4⟩,pm⟩
end
open PySem PyProof.Rows PySem.W
section
variable {prog:Λ}{w:ϓ}
def Raw (h:Heap) (d:Addr) (es:Array dD) (ep:Nat):Prop:=∃ o,h.get? d=some o/\o.ExactDict/\o.data=.dict es ep
theorem zbD {it d:Addr}{i ep:Nat}{es:Array dD}{Q:Option δ->ς->Prop}(hit:s.heap.IsKeyIter it d i es.size ep) (hm:Raw s.heap d es ep) (hi:i < es.size)
  (hQ:∀ h',h'.IsKeyIter it d (i+1) es.size ep->Ϫ it s.heap h'->Q (some es[i].key) { s with heap:=h' }):Ρ (ώ prog w) A (pyNext (.ref it)) Q E s:=by
 obtain ⟨o,ho,hc,hd⟩:=id hit;obtain ⟨od,hod,hcd,hdd⟩:=hm;unfold pyNext
 refine ζ (iB (aj (name:=ik "__next__") hit.typeIs F.slot_dict_keyiterator_next
  (aD F.slot_dict_keyiterator_next hit.typeIs F.entry_dict_keyiterator_next ?_ (F.args_dict_keyiterator_next_1 _))))
 refine ζ (π (ζ (ζ (ζ (bR hit.typeIs (π (ζ (wpAny_fieldsOf ho hd ?_))))))));simp only [show fu "dict_keyiterator"=false from by decide,bj,if_false];show Ρ _ _ (if (Β d==Δ)=true then _ else _) _ _ s
 rw [if_neg (show ¬ ((Β d==Δ)=true) from Κ)];refine ζ (π (ζ (iW hod hdd ?_)));rw [if_neg (by simp)];refine ζ (π (ζ (lY hod hdd ?_)));rw [if_neg (by simp)];refine π ?_;simp only [show ¬ ((i:Int) < 0) from by lia,if_false,iy,cD hi];refine ζ (ζ (bR hit.typeIs (π (ζ (wpAny_isOneOf_keyiter hit.typeIs ?_)))));show Ρ _ _ (setField (.ref it) 1 (aR ((i:Int)+1)) >>= _) _ _ s
 refine ζ (cH ho hd (by simp) ?_);have hit':(s.heap.update it (aX (·.setIfInBounds 1 (aR ((i:Int)+1))))).IsKeyIter it d (i+1) es.size ep:=
  ⟨_,bu _ ho (bY (aL hd _)),(iu ..).trans hc,by rw [aL hd];simp [aR]⟩
 refine ζ (dG (ζ (wpAny_isOneOf_keyiter (s:={ s with heap:=s.heap.update it (aX (·.setIfInBounds 1 (aR ((i:Int)+1)))) }) hit'.typeIs ?_)));show Ρ _ _ (pure es[i].key) _ _ _
 exact π (π ⟨_,rfl,π (hQ _ hit' (cZ ..))⟩)
theorem zeo {it d:Addr}{ep:Nat}{es:Array dD}{Q:Option δ->ς->Prop}(hh:A.handled=none) (hit:s.heap.IsKeyIter it d es.size es.size ep) (hm:Raw s.heap d es ep)
  (hQ:∀ h',iQ it s.heap h'->Q none { s with heap:=h' }):Ρ (ώ prog w) A (pyNext (.ref it)) Q E s:=by
 obtain ⟨o,ho,hc,hd⟩:=id hit;obtain ⟨od,hod,hcd,hdd⟩:=hm;unfold pyNext
 refine ζ (iB (aj (name:=ik "__next__") hit.typeIs F.slot_dict_keyiterator_next
  (aD F.slot_dict_keyiterator_next hit.typeIs F.entry_dict_keyiterator_next ?_ (F.args_dict_keyiterator_next_1 _))))
 refine ζ (π (ζ (ζ (ζ (bR hit.typeIs (π (ζ (wpAny_fieldsOf ho hd ?_))))))));simp only [show fu "dict_keyiterator"=false from by decide,bj,if_false];show Ρ _ _ (if (Β d==Δ)=true then _ else _) _ _ s
 rw [if_neg (show ¬ ((Β d==Δ)=true) from Κ)];refine ζ (π (ζ (iW hod hdd ?_)));rw [if_neg (by simp)];refine ζ (π (ζ (lY hod hdd ?_)));rw [if_neg (by simp)];refine π ?_;simp only [show ¬ ((es.size:Int) < 0) from by lia,if_false,iy,Array.getElem?_eq_none (Ζ es.size)];refine ζ (ζ (bR hit.typeIs (π ?_)));show Ρ _ _ (setField (.ref it) 0 .none >>= _) _ _ s
 refine ζ (cH ho hd (by simp) ?_);show Ρ _ _ (newExc (.type "StopIteration") [] >>= _) _ _ _
 refine ζ ?_;simp only [newExc,newTuple];refine ζ (Ϝ ?_ (by size_fits));refine ζ (m:=firstArgMember _ _) (c7 (a:=Δ) (by first | rfl | (simp only [firstArgMember];rfl)) ?_);refine Ϝ ?_ (by size_fits);simp only [raiseNew];refine ζ (wpAny_handled ?_);rw [show A.in1.handled=none from hh];refine ζ (π (wpAny_throw ?_));refine ζ (wpAny_isInstance (T:="StopIteration") (b:=true) ⟨_,Μ _ rfl,rfl⟩ isSubtype_stop ?_);exact π (hQ _ (((cZ ..).extBut.push _).push _))
theorem Raw.typeIs {d:Addr}{ep:Nat}{es:Array dD}(hm:Raw s.heap d es ep):s.TypeIs (.ref d) "dict":=let ⟨o,ho,hc,_⟩:=hm;⟨o,ho,hc.1⟩
theorem Raw.keep {h h':Heap}{d:Addr}{ep:Nat}{es:Array dD}(hm:Raw h d es ep) (k:∀ o,h.get? d=some o->h'.get? d=some o):Raw h' d es ep:=let ⟨o,ho,r⟩:=hm;⟨o,k o ho,r⟩
theorem zbN {d:Addr}{es:Array dD}{ep:Nat}{Q:δ->ς->Prop}(hd:(d==bz)=false) (hm:Raw s.heap d es ep)
  (hQ:Q (.ref s.heap.objs.size) { s with heap:=s.heap.push { cls:=.type "dict_keyiterator",data:=.fields #[.ref d,.int 0 0,.int es.size 0,.int ep 0] } }):Ρ (ώ prog w) A (pyIter (.ref d)) Q E s:=by
 have hT:s.TypeIs (.ref d) "dict":=hm.typeIs;obtain ⟨o,ho,hc,hdat⟩:=hm;refine wpAny_pyIter_slot hT F.slot_dict_iter (aD F.slot_dict_iter hT F.entry_dict_iter ?_ (F.args_dict_iter_1 _));unfold Ω.«dict.__iter__»;refine ζ ?_;unfold Ω.Dict.dictSlotNone;refine ζ (wpAny_notOrdered_dict hT ?_);show Ρ _ _ (pure (Β d)) _ _ s
 refine π ?_;show Ρ _ _ (iR d >>= _) _ _ s
 unfold iR;rw [if_neg (by rw [hd];exact Κ)];refine ζ (π (ζ (iW ho hdat (ζ (lY ho hdat ?_)))));refine ζ (Ϝ (π ⟨_,rfl,"dict_keyiterator",_,⟨_,Μ _ rfl,rfl⟩,F.slot_dict_keyiterator_next.lookup,?_⟩));simpa [aR] using hQ
theorem zc2 {d:Addr}{es:Array dD}{ep:Nat}(lo:(d==bz)=false):KdlSrc prog w "dict" d d es.size (fun i v=>∃ e,es[i]?=some e/\v=e.key) (fun h=>Raw h d es ep) where
 type:=fun _ hm=>hm.typeIs
 there:=fun _ hm=>by obtain ⟨o,ho,_⟩:=hm;exact ⟨Θ ho,Θ ho⟩
 keep:=fun _ _ hm hk=>hm.keep fun o e=>hk d (.inl rfl) o e
 notList:=by decide
 notTuple:=by decide
 hint:=fun _ _ _ _ hm hq=>kdl_hint_dict hm.typeIs hq
 iter:=fun A s hh hm=>by
  have hne:d≠s.heap.objs.size:=by obtain ⟨o,ho,_⟩:=hm;exact ϊ (Θ ho)
  refine ⟨_,fun i h=>h.IsKeyIter s.heap.objs.size d i es.size ep/\Raw h d es ep,(fun _ _ hq=>zbN lo hm hq),⟨?_,?_,?_,?_,?_⟩,⟨⟨_,Μ _ rfl,rfl,rfl⟩,hm.keep fun o e=>μ _ e⟩⟩
  ·intro b hb;simp at hb;simp [hb]
  ·exact fun _ _ _ st hk=>⟨st.1.at fun o e=>hk _ (by simp) o e,st.2.keep fun o e=>hk d (by simp) o e⟩
  ·intro i s' Q E hi st hQ;refine zbD st.1 st.2 hi fun h' hit' hs'=>?_
   exact hQ _ h' s'.toks ⟨_,cD hi,rfl⟩ ⟨hit',st.2.keep fun o e=>hs'.extBut d o hne e⟩ fun b o hb e=>hs'.extBut b o (fun h=>hb (by simp [h])) e
  ·exact fun s' Q E st hQ=>zeo hh st.1 st.2 fun h' he'=>hQ h' s'.toks fun b o hb e=>he' b o (fun h=>hb (by simp [h])) e
  ·exact fun _ _ _ _ st hQ=>wpAny_pyIter_keyiter st.1 hQ
end
end TS
namespace EV
open PySem L2
theorem non (h:false=true):false=true:=h
theorem nobE {p:Prop}(h:false=true):p:=nomatch h
noncomputable def LIM:Nat:=1000000
noncomputable def fits (n:Nat):Bool:=n<=LIM
noncomputable def yl (i:Int):Bool:=decide (-(2 ^ 64) < i)&&decide (i < 2 ^ 64)
noncomputable def addD:D->D->Option (D×Bool)
 | .int i,.int j=>some (.int (i+j),false)
 | .str x,.str y=>if fits (x.length+y.length) then some (.str (x++y),false) else none
 | .tup a,.tup b=>if fits (a.length+b.length) then some (.tup (a++b),false) else none
 | .lst a,.lst b=>if fits (a.length+b.length) then some (.lst (a++b),true) else none
 | _,_=>none
noncomputable def mulD:D->D->Option (D×Bool)
 | .int i,.int j=>if yl i||yl j then some (.int (i*j),false) else none
 | .lst l,.int n=>if decide (0<=n)&&decide (n < 2 ^ 20)&&fits (l.length*n.toNat) then some (.lst (η n.toNat l).flatten,true) else none
 | .tup l,.int n=>if decide (0<=n)&&decide (n < 2 ^ 20)&&fits (l.length*n.toNat) then some (.tup (η n.toNat l).flatten,false) else none
 | .str x,.int n=>if (decide (1<=n)&&decide (n < 2 ^ 20)&&!(x.length==0)&&fits (x.length*n.toNat))=true then some (.str ⟨(η n.toNat x.cps).foldl (·++·) #[]⟩,false) else none
 | _,_=>none
noncomputable def num2 (f:Int->Int->Option Int):D->D->Option (D×Bool)
 | .int i,.int j=>(f i j).map fun k=>(.int k,false)
 | _,_=>none
noncomputable def opD (op:gH) (a b:D):Option (D×Bool):=match op with
 | .Add=>addD a b
 | .Sub=>num2 (fun i j=>some (i - j)) a b
 | .Mult=>mulD a b
 | .FloorDiv=>num2 (fun i j=>if decide (0 < j)&&decide (j < 2 ^ 64) then some (i / j) else none) a b
 | .Mod=>num2 (fun i j=>if decide (0 < j) then some (i % j) else none) a b
 | .Pow=>num2 (fun i j=>if decide (0<=j)&&decide (j<=1000000)&&yl i then some (i ^ j.toNat) else none) a b
 | _=>none
mutual
noncomputable def eqP:D->D->Bool
 | .non,.non=>true
 | .bl a,.bl b=>a==b
 | .bl a,.int j=>(if a then 1 else 0)==j
 | .int i,.bl b=>i==(if b then 1 else 0)
 | .int a,.int b=>a==b
 | .str a,.str b=>a==b
 | .tup a,.tup b=>eqPs a b
 | .lst a,.lst b=>eqPs a b
 | _,_=>false
noncomputable def eqPs:List D->List D->Bool
 | [],[]=>true
 | a::as,b::bs=>eqP a b&&eqPs as bs
 | _,_=>false
end
mutual
noncomputable def okP:Nat->D->Bool
 | _,.non=>true
 | _,.bl _=>true
 | _,.int _=>true
 | _,.str _=>true
 | 0,.tup _=>false
 | n+1,.tup a=>okPs n a
 | 0,.lst _=>false
 | n+1,.lst a=>okPs n a
 | _,_=>false
noncomputable def okPs:Nat->List D->Bool
 | _,[]=>true
 | n,a::as=>okP n a&&okPs n as
end
noncomputable def eqD (a b:D):Option Bool:=if okP 60 a&&okP 60 b then some (eqP a b) else none
noncomputable def keyD:D->Option Key
 | .int i=>some (.inl i)
 | .str x=>some (.inr x)
 | _=>none
noncomputable def Ye:List D->Option (List Key)
 | []=>some []
 | d::ds=>match keyD d,Ye ds with
  | some k,some ks=>some (k::ks)
  | _,_=>none
noncomputable def jz {κ:Type} [DecidableEq κ]:List κ->κ->Option Nat
 | [],_=>none
 | k::ks,x=>if k=x then some 0 else (jz ks x).map (·+1)
noncomputable def yg {κ:Type} [DecidableEq κ] (ks:List κ) (ds:List D) (k:κ):Option D:=(jz ks k).bind fun i=>ds[i]?
noncomputable def mapK {κ α:Type} [DecidableEq κ]:List κ->List α->κ->α->List α
 | k::ks,d::ds,x,y=>(if k=x then y else d)::mapK ks ds x y
 | _,ds,_,_=>ds
noncomputable def hasK {κ:Type} [DecidableEq κ] (ks:List κ) (k:κ):Bool:=ks.any fun x=>decide (x=k)
noncomputable def yz {κ α:Type} [DecidableEq κ] (ks:List κ) (ds:List α) (k:κ) (d:α):List κ×List α:=
 if hasK ks k=true then (ks,mapK ks ds k d) else (ks++[k],ds++[d])
noncomputable def isNone:D->Bool
 | .non=>true
 | _=>false
noncomputable def wX:D->D->Option (Option D)
 | .dK ks ds,k=>(keyD k).map (yg ks ds)
 | .dT ks ds,.tup t=>(Ye t).map (yg ks ds)
 | .dF ks ds,.tup t=>(Ye t).map (yg ks ds)
 | _,_=>none
noncomputable def isSc:D->Bool
 | .lst _=>false
 | d=>okP 59 d
noncomputable def isStr:D->Bool
 | .str _=>true
 | _=>false
noncomputable def isLs:D->Bool
 | .lst _=>true
 | _=>false
noncomputable def memD (l:List D) (d:D):Option Bool:=if isSc d&&l.all isSc then some (l.any fun y=>eqP y d) else if isLs d&&l.all isStr then some false else none
noncomputable def zL (S:Store):D->D
 | .ref k=>(S[k]?).getD .non
 | d=>d
noncomputable def int2 (f:Int->Int->Bool):D->D->Option Bool
 | .int i,.int j=>some (f i j)
 | _,_=>none
noncomputable def isD (a:D):D->Option Bool
  | .non=>some (isNone a)
  | .bl b=>(match a with
    | .bl a=>some (a==b)
    | _=>none)
  | _=>none
noncomputable def inD (a:D):D->Option Bool
  | .lst l=>memD l a
  | .tup l=>memD l a
  | .ktp l=>memD l a
  | .str y=>(match a with
    | .str x=>some (!(aK y x 0 y.length 1).isEmpty)
    | _=>none)
  | .dK ks ds=>(wX (.dK ks ds) a).map (·.isSome)
  | .dT ks ds=>(wX (.dT ks ds) a).map (·.isSome)
  | .dF ks ds=>(wX (.dF ks ds) a).map (·.isSome)
  | _=>none
noncomputable def u5:List D->Option (List Int)
 | []=>some []
 | .int i::r=>(u5 r).map (i::·)
 | _::_=>none
noncomputable def neD:D->D->Option Bool
 | .dK ks vs,.dK ks' vs'=>if decide (ks=ks')&&decide ks.Nodup&&decide (u5 vs=u5 vs')&&(u5 vs).isSome then some false else none
 | a,b=>(eqD a b).map (!·)
noncomputable def cmpD (op:fP) (a b:D):Option Bool:=match op with
 | .Eq=>eqD a b
 | .NotEq=>neD a b
 | .Lt=>int2 (fun i j=>decide (i < j)) a b
 | .LtE=>int2 (fun i j=>decide (i<=j)) a b
 | .Gt=>int2 (fun i j=>decide (j < i)) a b
 | .GtE=>int2 (fun i j=>decide (j<=i)) a b
 | .Is=>isD a b
 | .IsNot=>(isD a b).map (!·)
 | .In=>inD a b
 | .NotIn=>(inD a b).map (!·)
noncomputable abbrev idx (n:Nat) (i:Int):Option Nat:=ixN n i
noncomputable def subD:D->D->Option D
 | .tup l,.int i=>(idx l.length i).bind fun k=>l[k]?
 | .lst l,.int i=>(idx l.length i).bind fun k=>l[k]?
 | .scr l,.int i=>(idx l.length i).bind fun k=>(l[k]?).map D.int
 | .str x,.int i=>if fits x.length then (idx x.cps.toList.length i).bind fun k=>(x.cps.toList[k]?).map fun c=>.str ⟨#[c]⟩ else none
 | .dK ks ds,k=>(wX (.dK ks ds) k).bind id
 | .dT ks ds,k=>(wX (.dT ks ds) k).bind id
 | .dF ks ds,k=>(wX (.dF ks ds) k).bind id
 | _,_=>none
noncomputable def cutD (l:List D) (lo hi:Option Int):List D:=(l.drop (HT.sIx l.length 0 lo)).take (HT.sIx l.length l.length hi - HT.sIx l.length 0 lo)
noncomputable def slcD (d:D) (lo hi:Option Int):Option (D×Bool):=
 match d with
 | .tup l=>some (.tup (cutD l lo hi),false)
 | .lst l=>some (.lst (cutD l lo hi),true)
 | .scr l=>some (.lst (cutD (l.map D.int) lo hi),true)
 | .str x=>if fits x.length then some (.str (gG x lo hi),false) else none
 | _=>none
noncomputable def insD (l:List D):List D->Option (List D)
 | [.int j,d]=>if (decide (0<=j)&&decide (j<=l.length)&&fits (l.length+1))=true then some (l.take j.toNat++d::l.drop j.toNat) else none
 | _=>none
noncomputable def dk1D:List D->Option D
 | [.tup t,v]=>(Ye t).map fun k=>.dT [k] [v]
 | _=>none
noncomputable def zht:D->Option (D×Bool)
 | .lst l=>some (.lst l.reverse,true)
 | .tup l=>some (.tup l.reverse,false)
 | _=>none
noncomputable def vL:List D->Option (List Bool)
 | []=>some []
 | .bl b::r=>(vL r).map (b::·)
 | _::_=>none
noncomputable def isTy:Ty->D->Option Bool
 | t,.int _=>some (t==.int)
 | t,.bl _=>some (t==.bool||t==.int)
 | t,.str _=>some (t==.str)
 | t,.tup _=>some (t==.tuple)
 | t,.lst _=>some (t==.list)
 | t,.dK _ _=>some (t==.dict)
 | t,.non=>some false
 | _,_=>none
noncomputable def seqD:D->Option (List D)
 | .tup l=>some l
 | .lst l=>some l
 | .scr l=>some (l.map D.int)
 | .ktp l=>some l
 | _=>none
noncomputable def itrD:D->Option (List D)
 | .str x=>some (x.cps.toList.map fun c=>.str ⟨#[c]⟩)
 | d=>seqD d
noncomputable def lenD:D->Option (D×Bool)
 | .tup l=>some (.int l.length,false)
 | .lst l=>some (.int l.length,false)
 | .scr l=>some (.int l.length,false)
 | .str x=>if fits x.length then some (.int x.length,false) else none
 | .dK ks _=>some (.int ks.length,false)
 | _=>none
noncomputable def absD:D->Option (D×Bool)
 | .int i=>some (.int (if i < 0 then -i else i),false)
 | _=>none
noncomputable def intOf:D->Option (D×Bool)
 | .bl b=>some (.int (if b then 1 else 0),false)
 | .int i=>some (.int i,false)
 | _=>none
noncomputable def lotD:D->Option (List D)
 | .lst l=>some l
 | .tup l=>some l
 | _=>none
noncomputable def tupI (k:List Int):D:=.tup (k.map D.int)
noncomputable def zac:List Key->Option (List Int)
 | []=>some []
 | .inl i::r=>(zac r).map (i::·)
 | _::_=>none
noncomputable def XN:List (List Key)->Option (List (List Int))
 | []=>some []
 | k::r=>(zac k).bind fun n=>(XN r).map (n::·)
noncomputable def lstD:D->Option (List D)
 | .dT ks _=>(XN ks).bind fun ns=>if decide (ns.length < 4096) then some (ns.map tupI) else none
 | d=>lotD d
noncomputable def onL (f:List D->Option D):D->Option (D×Bool)
 | .lst l=>(f l).map fun d=>(d,false)
 | _=>none
noncomputable def keyOf:Key->D
 | .inl i=>.int i
 | .inr x=>.str x
noncomputable def zct:List (List Key)->List D->List D
 | k::ks,d::ds=>.tup [.tup (k.map keyOf),d]::zct ks ds
 | _,_=>[]
noncomputable def zx (lo hi:Int):List D:=(Ϲ (hi - lo).toNat).map fun (k:Nat)=>.int (lo+(k:Int))
noncomputable def lrgD:D->D->Option (D×Bool)
 | .int i,.int j=>if (decide (-1000000<=i)&&decide (i<=1000000)&&decide (-1000000<=j)&&decide (j<=1000000))=true then some (.lst (zx i j),true) else none
 | _,_=>none
set_option tactic.hygienic true in
theorem QM {a b:D}{x:D×Bool}(h:lrgD a b=some x):∃ i j,a=.int i/\b=.int j/\(-1000000<=i/\i<=1000000/\-1000000<=j/\j<=1000000)/\x=(.lst (zx i j),true):=by
 cases a with
 | int i=>
  cases b with
  | int j=>
   have h:(if (decide (-1000000<=i)&&decide (i<=1000000)&&decide (-1000000<=j)&&decide (j<=1000000))=true then some (D.lst (zx i j),true) else none)=some x:=h;split at h
   ·rename_i c
    simp only [ε,decide_eq_true_eq] at c;cases h;exact ⟨i,j,rfl,rfl,⟨c.1.1.1,c.1.1.2,c.1.2,c.2⟩,rfl⟩
   ·cases h
  | _=>cases h
 | _=>cases h
noncomputable def bi2:BI->D->D->Option (D×Bool)
 | .min2,d,e=>num2 (fun i j=>some (if j < i then j else i)) d e
 | .max2,d,e=>num2 (fun i j=>some (if j > i then j else i)) d e
 | .lrng2,d,e=>lrgD d e
 | _,_,_=>none
noncomputable def biD (b:BI) (ds:List D):Option (D×Bool):=match ds with
  | [d]=>(match b with
    | .len=>lenD d
    | .abs=>absD d
    | .int=>intOf d
    | .tuple=>(lotD d).map fun l=>(.tup l,false)
    | .list=>(lstD d).map fun l=>(.lst l,true)
    | .sum=>onL (fun l=>(u5 l).map fun ns=>.int ns.sum) d
    | .all=>onL (fun l=>(vL l).map fun bs=>.bl (bs.all id)) d
    | .isinst t=>(isTy t d).map fun b=>(.bl b,false)
    | .lrng=>lrgD (.int 0) d
    | _=>none)
  | [d,e]=>bi2 b d e
  | _=>none
noncomputable def mthK:MT->D->Bool
 | .get2,.dK _ _=>true
 | .get2,.dT _ _=>true
 | .get2,.kdc _=>true
 | .sidx,.str _=>true
 | _,_=>false
noncomputable def zia (x:Str):D->Option (D×Bool)
 | .str y=>(aK x y 0 x.length 1).head?.map fun (i:Nat)=>(.int (i:Int),false)
 | _=>none
noncomputable def zgV (ps:List (Str×Int)):D->D->Option (D×Bool)
 | .str k,x=>some (((PyProof.Rows.KTD.datumAt k ps).map D.int).getD x,false)
 | _,_=>none
noncomputable def mthD:MT->D->List D->Option (D×Bool)
 | .index,_,_=>none
 | .get1,_,_=>none
 | .get2,.kdc ps,[k,x]=>zgV ps k x
 | .get2,d,[k,x]=>(wX d k).map fun o=>(o.getD x,false)
 | .join,_,_=>none
 | .split,_,_=>none
 | .sidx,.str x,[d]=>zia x d
 | _,_,_=>none
noncomputable def nT:T->Nat
 | .one _=>1
 | .nst _ is=>1+is.length
 | .tup is=>is.length
noncomputable def v8:Nat->List D->List D
 | _,[]=>[]
 | n,d::ds=>.tup [.int n,d]::v8 (n+1) ds
noncomputable def zjt:D->Option (List D)
 | .tup l=>some l
 | .lst l=>some l
 | _=>none
noncomputable def pairD:List D->List D->List D
 | a::as,b::bs=>.tup [a,b]::pairD as bs
 | _,_=>[]
noncomputable def tup2:D->D->Option (List D)
 | .tup a,.tup b=>some (pairD a b)
 | _,_=>none
noncomputable def dwnD:List D->Option (List D)
 | [.int i,.int j,.int k]=>if (decide (k=-1)&&decide (-1000000<=i)&&decide (i<=1000000)&&decide (-1000000<=j)&&decide (j<=1000000))=true then some (zx (j+1) (i+1)).reverse else none
 | _=>none
noncomputable def J9 (tk:Bool) (ks:List Key) (ds:List D):Bool:=decide (ks.length=ds.length)&&decide ks.Nodup&&decide (ks.length<=15)&&(!tk||ks.isEmpty)
inductive Slot where
 | no | sh (d:D) | ow (d:D)
 deriving Inhabited
inductive O where
 | next (ρ:List Slot) | ret (d:D) (fr:Bool) | brk (ρ:List Slot) | cnt (ρ:List Slot)
noncomputable def nst2:D->Option (D×List D)
  | .tup l=>(match l with
    | x::r=>(match r with
      | y::z=>(match z with
        | []=>(match y with
          | .tup ds=>some (x,ds)
          | _=>none)
        | _=>none)
      | _=>none)
    | _=>none)
  | _=>none
theorem zdS {d:D}{p:D×List D}(h:nst2 d=some p):d=.tup [p.1,.tup p.2]:=by
 cases d with
 | tup l=>
  cases l with
  | nil=>cases h
  | cons x r=>
   cases r with
   | nil=>cases h
   | cons y z=>
    cases z with
    | cons _ _=>cases h
    | nil=>
     cases y with
     | tup ds=>cases h;rfl
     | _=>cases h
 | _=>cases h
noncomputable def xn (ρ:List Slot):T->D×Bool->Option (List Slot)
 | .one i,(d,fr)=>if i < ρ.length&&!yF d then some (ρ.set i (if fr=true then .ow d else .sh d)) else none
 | .tup is,(.tup ds,_)=>if is.length=ds.length/\is.Nodup/\is.all (· < ρ.length) then some ((is.zip ds).foldl (fun r p=>r.set p.1 (.sh p.2)) ρ) else none
 | .nst i is,(d,_)=>(nst2 d).bind fun p=>if i < ρ.length/\is.length=p.2.length/\is.Nodup/\is.all (· < ρ.length) then some ((is.zip p.2).foldl (fun r p=>r.set p.1 (.sh p.2)) (ρ.set i (.sh p.1))) else none
 | _,_=>none
noncomputable def putD:D->D->D->Option D
 | .lst l,.int i,d=>(idx l.length i).map fun k=>.lst (l.set k d)
 | .dK ks ds,k,d=>(keyD k).bind fun k=>if fits (ks.length+1) then some (let p:=yz ks ds k d;.dK p.1 p.2) else none
 | .dT ks ds,.tup t,d=>(Ye t).bind fun k=>if fits (ks.length+1) then some (let p:=yz ks ds k d;.dT p.1 p.2) else none
 | _,_,_=>none
noncomputable def zjo:Option D->Bool
 | some (.lst _)=>true
 | _=>false
noncomputable def extD:D->Option (List D)
 | .lst l=>some l
 | .tup l=>some l
 | _=>none
noncomputable def entry (fn:Fn) (ds:List D):List Slot:=ds.map Slot.sh++η (fn.nv - ds.length) Slot.no
inductive Kd where
 | st | fr | bo
noncomputable abbrev Vl:=D×Kd
abbrev Po:=Vl->Store->Prop
abbrev Cf:=Nat->List D->Po->Store->Prop
noncomputable def kd:Bool->Kd
 | true=>.fr
 | false=>.st
noncomputable def ofB (p:D×Bool):Vl:=(p.1,kd p.2)
def opt {α:Type}:Option α->(α->Prop)->Prop
 | some a,Q=>Q a
 | none,_=>False
def opV (o:Option (D×Bool)) (Q:Vl->Prop):Prop:=opt o fun p=>Q (ofB p)
def optS:Option (List Slot)->(List Slot->Prop)->Prop:=opt
def tst:Bool->Prop->Prop->Prop
 | true,T,_=>T
 | false,_,F=>F
def isB:D->(Bool->Prop)->Prop
 | .bl b,Q=>Q b
 | _,_=>False
def isF:D->(Nat->Prop)->Prop
 | .fn f,Q=>Q f
 | _,_=>False
def isLm:D->(Nat->List D->Prop)->Prop
 | .lam f cs,Q=>Q f cs
 | _,_=>False
def J5 (p:Nat):Option D->Prop->Prop
 | some (.tab n),P=>n=p/\P
 | _,_=>False
noncomputable def shs (ρ:List Slot):List Nat->Option (List D)
 | []=>some []
 | j::js=>match ρ[j]? with
  | some (.sh d)=>(shs ρ js).map (d::·)
  | _=>none
theorem zag {d:D}{Q:Nat->List D->Prop}(h:isLm d Q):∃ f cs,d=.lam f cs/\Q f cs:=by
 cases d with
 | lam f cs=>exact ⟨f,cs,rfl,h⟩
 | _=>exact h.elim
theorem U7 {p:Nat}{o:Option D}{P:Prop}(h:J5 p o P):o=some (.tab p)/\P:=by
 cases o with
 | none=>exact h.elim
 | some d=>
  cases d with
  | tab q=>obtain ⟨rfl,h⟩:=h;exact ⟨rfl,h⟩
  | _=>exact h.elim
def isZ:D->(Int->Prop)->Prop
 | .int i,Q=>Q i
 | _,_=>False
def keep:Vl->(D->Prop)->Prop
 | (d,.st),Q=>Q d
 | (d,.fr),Q=>Q d
 | _,_=>False
def sel:Option Slot->(D->Prop)->(D->Prop)->Prop
 | some (.sh d),Q,_=>Q d
 | some (.ow d),_,Q=>Q d
 | _,_,_=>False
def rdV (s:Option Slot) (Q:Vl->Prop):Prop:=sel s (fun d=>Q (d,.st)) (fun d=>Q (d,.bo))
def boxd:Vl->(D->Prop)->Prop
 | (d,.fr),Q=>Q d
 | _,_=>False
def wJ (step:D->(Option D->Store->Prop)->Store->Prop):List D->List D->(List D->Store->Prop)->Store->Prop
 | [],acc,V,S=>V acc S
 | d::ds,acc,V,S=>step d (fun o S1=>match o with
  | some x=>tst (fits (acc.length+1)) (wJ step ds (acc++[x]) V S1) False
  | none=>wJ step ds acc V S1) S
noncomputable def inn (ρ:List Slot) (t:T) (js:List Nat):List Slot:=η (nT t) .no++js.map fun j=>(ρ[j]?).getD .no
noncomputable def dicV (tk:Bool) (ks:List Key) (ds:List D):D:=if tk=true then .dT [] [] else .dK ks ds
def isR:D->(Nat->Prop)->Prop
 | .ref n,Q=>Q n
 | _,_=>False
def isDT:Option D->(List (List Key)->List D->Prop)->Prop
 | some (.dT ks ds),Q=>Q ks ds
 | _,_=>False
def owT:Option Slot->(List (List Key)->List D->Prop)->Prop
 | some (.ow (.dT ks ds)),Q=>Q ks ds
 | _,_=>False
theorem zcj {s:Option Slot}{Q:List (List Key)->List D->Prop}(h:owT s Q):∃ ks ds,s=some (.ow (.dT ks ds))/\Q ks ds:=by
 unfold owT at h;split at h
 ·exact ⟨_,_,rfl,h⟩
 ·exact h.elim
theorem zec {s:Option D}{Q:List (List Key)->List D->Prop}(h:isDT s Q):∃ ks ds,s=some (.dT ks ds)/\Q ks ds:=by
 cases s with
 | none=>exact h.elim
 | some s=>
  cases s with
  | dT ks ds=>exact ⟨ks,ds,rfl,h⟩
  | _=>exact h.elim
theorem zha {s:Option D}{ks:List (List Key)}{ds:List D}{Q:List (List Key)->List D->Prop}(h:s=some (.dT ks ds)) (q:Q ks ds):isDT s Q:=by subst h;exact q
mutual
def wpE (cf:Cf) (ρ:List Slot):E->Po->Store->Prop
 | .var i,V,S=>rdV ρ[i]? fun x=>V x S
 | .con d,V,S=>V (d,.st) S
 | .glo _ d,V,S=>V (d,.st) S
 | .bin op a b,V,S=>wpE cf ρ a (fun x S1=>wpE cf ρ b (fun y S2=>opV (opD op (zL S2 x.1) (zL S2 y.1)) fun x=>V x S2) S1) S
 | .neg a,V,S=>wpE cf ρ a (fun x S1=>isZ x.1 fun i=>V (.int (-i),.st) S1) S
 | .cmp op a b,V,S=>wpE cf ρ a (fun x S1=>wpE cf ρ b (fun y S2=>opt (cmpD op (zL S2 x.1) (zL S2 y.1)) fun r=>V (.bl r,.st) S2) S1) S
 | .chn o1 o2 a b c,V,S=>wpE cf ρ a (fun x S1=>wpE cf ρ b (fun y S2=>opt (cmpD o1 (zL S2 x.1) (zL S2 y.1)) fun r=>tst r (wpE cf ρ c (fun z S3=>opt (cmpD o2 (zL S3 y.1) (zL S3 z.1)) fun r=>V (.bl r,.st) S3) S2) (V (.bl false,.st) S2)) S1) S
 | .not a,V,S=>wpE cf ρ a (fun x S1=>isB x.1 fun b=>V (.bl (!b),.st) S1) S
 | .and a b,V,S=>wpE cf ρ a (fun x S1=>isB x.1 fun r=>tst r (wpE cf ρ b V S1) (V (.bl false,.st) S1)) S
 | .or a b,V,S=>wpE cf ρ a (fun x S1=>isB x.1 fun r=>tst r (V (.bl true,.st) S1) (wpE cf ρ b V S1)) S
 | .ite c a b,V,S=>wpE cf ρ c (fun x S1=>isB x.1 fun r=>tst r (wpE cf ρ a V S1) (wpE cf ρ b V S1)) S
 | .tup es,V,S=>wpEs cf ρ es (fun ds S1=>tst (fits ds.length) (V (.tup ds,.st) S1) False) S
 | .lst es,V,S=>wpEs cf ρ es (fun ds S1=>tst (fits ds.length) (V (.lst ds,.fr) S1) False) S
 | .dic tk ks es,V,S=>wpEs cf ρ es (fun ds S1=>tst (J9 tk ks ds) (V (dicV tk ks ds,.fr) S1) False) S
 | .sub a i,V,S=>wpE cf ρ a (fun x S1=>wpE cf ρ i (fun y S2=>opt (subD (zL S2 x.1) y.1) fun d=>V (d,.st) S2) S1) S
 | .slc a lo hi,V,S=>wpE cf ρ a (fun x S1=>wpO cf ρ lo (fun l S2=>wpO cf ρ hi (fun h S3=>opV (slcD (zL S3 x.1) l h) fun x=>V x S3) S2) S1) S
 | .bi b [e],V,S=>wpE cf ρ e (fun x S1=>opV (biD b [zL S1 x.1]) fun x=>V x S1) S
 | .bi b es,V,S=>wpEs cf ρ es (fun ds S1=>opV (biD b (ds.map (zL S1))) fun x=>V x S1) S
 | .mth m o es,V,S=>wpE cf ρ o (fun x S1=>tst (mthK m (zL S1 x.1)) (wpEs cf ρ es (fun ds S2=>opV (mthD m (zL S2 x.1) ds) fun x=>V x S2) S1) False) S
 | .call f es,V,S=>wpEs cf ρ es (fun ds S1=>cf f ds V S1) S
 | .callk f perm es,V,S=>wpEs cf ρ es (fun ds S1=>opt (perm.mapM fun i=>ds[i]?) fun ds=>cf f ds V S1) S
 | .comp t js it ifs elt,V,S=>wpI cf ρ it (fun its S1=>wJ (fun d K S=>optS (xn (inn ρ t js) t (d,false)) fun ρ'=>wpF cf ρ' ifs (fun b S1=>tst b (wpE cf ρ' elt (fun x S2=>keep x fun d=>K (some d) S2) S1) (K none S1)) S) its [] (fun ds S2=>V (.lst ds,.fr) S2) S1) S
 | .box e,V,S=>wpE cf ρ e (fun x S1=>boxd x fun d=>V (.ref S1.length,.st) (S1++[d])) S
 | .callv i es,V,S=>rdV ρ[i]? fun x=>isF x.1 fun f=>wpEs cf ρ es (fun ds S1=>cf f ds V S1) S
 | .one e,V,S=>wpE cf ρ e V S
 | .dk1 a b,V,S=>wpE cf ρ a (fun x S1=>keep x fun d=>wpE cf ρ b (fun y S2=>keep y fun e=>opt (dk1D [d,e]) fun r=>V (r,.fr) S2) S1) S
 | .flip e,V,S=>wpE cf ρ e (fun x S1=>opV (zht (zL S1 x.1)) fun x=>V x S1) S
 | .lam f p js,V,S=>J5 p S[p]? (opt (shs ρ js) fun ds=>V (.lam f ds,.st) S)
 | .cvl i es,V,S=>rdV ρ[i]? fun x=>isLm x.1 fun f cs=>wpEs cf ρ es (fun ds S1=>cf f (ds++cs) V S1) S
 | _,_,_=>False
def wpEs (cf:Cf) (ρ:List Slot):List E->(List D->Store->Prop)->Store->Prop
 | [],W,S=>W [] S
 | e::es,W,S=>wpE cf ρ e (fun x S1=>keep x fun d=>wpEs cf ρ es (fun ds S2=>W (d::ds) S2) S1) S
def wpO (cf:Cf) (ρ:List Slot):Option E->(Option Int->Store->Prop)->Store->Prop
 | none,W,S=>W none S
 | some e,W,S=>wpE cf ρ e (fun x S1=>isZ x.1 fun i=>W (some i) S1) S
def wpF (cf:Cf) (ρ:List Slot):List E->(Bool->Store->Prop)->Store->Prop
 | [],W,S=>W true S
 | [e],W,S=>wpE cf ρ e (fun x S1=>isB x.1 fun b=>W b S1) S
 | _,_,_=>False
def wpI (cf:Cf) (ρ:List Slot):E->(List D->Store->Prop)->Store->Prop
 | .dwn es,W,S=>wpEs cf ρ es (fun ds S1=>opt (dwnD ds) fun l=>W l S1) S
 | .rev hi,W,S=>wpE cf ρ hi (fun x S1=>isZ x.1 fun h=>tst (fits h.toNat&&decide (-1000000<=h)) (W (zx 0 h).reverse S1) False) S
 | .rng none hi,W,S=>wpE cf ρ hi (fun x S1=>isZ x.1 fun h=>tst (fits h.toNat&&decide (-1000000<=h)) (W (zx 0 h) S1) False) S
 | .rng (some lo) hi,W,S=>wpE cf ρ lo (fun y S1=>wpE cf ρ hi (fun x S2=>isZ y.1 fun l=>isZ x.1 fun h=>tst (fits (h - l).toNat&&decide (-1000000<=h)&&decide (-1000000<=l)&&decide (h<=1000000)&&decide (l<=1000000)) (W (zx l h) S2) False) S1) S
 | .enum e,W,S=>wpE cf ρ e (fun x S1=>keep x fun d=>opt (zjt d) fun l=>W (v8 0 l) S1) S
 | .seq e,W,S=>wpE cf ρ e (fun x S1=>keep x fun d=>opt (itrD d) fun l=>W l S1) S
 | .zip a b,W,S=>wpE cf ρ a (fun x S1=>keep x fun d=>wpE cf ρ b (fun y S2=>keep y fun e=>opt (tup2 d e) fun l=>W l S2) S1) S
 | .items e,W,S=>wpE cf ρ e (fun x S1=>keep x fun r=>isR r fun k=>isDT S1[k]? fun ks ds=>W (zct ks ds) (S1.set k (.ref k))) S
 | _,_,_=>False
end
def wpX (cf:Cf) (ρ:List Slot) (e:E) (V:Po) (S:Store):Prop:=wpE cf ρ e V S
noncomputable def Kf (ρ:List Slot) (t:T):Vl->Option (List Slot)
 | (d,.st)=>xn ρ t (d,false)
 | (d,.fr)=>xn ρ t (d,true)
 | _=>none
def retV:Vl->(O->Prop)->Prop
 | (d,.st),K=>K (.ret d false)
 | (d,.fr),K=>K (.ret d true)
 | _,_=>False
def owL:Option Slot->(List D->Prop)->Prop
 | some (.ow (.lst l)),Q=>Q l
 | _,_=>False
def owD:Option Slot->(D->Prop)->Prop
 | some (.ow d),Q=>Q d
 | _,_=>False
def frW:Option Slot->Store->(Nat->List D->Prop)->Prop
  | some (.sh (.ref k)),S,Q=>(match S[k]? with
    | some (.lst l)=>Q k l
    | _=>False)
  | _,_,_=>False
set_option tactic.hygienic true in
theorem zcC {s:Option Slot}{S:Store}{Q:Nat->List D->Prop}(h:frW s S Q):∃ k l,s=some (.sh (.ref k))/\S[k]?=some (.lst l)/\Q k l:=by
 unfold frW at h;split at h
 ·split at h
  ·rename_i e;exact ⟨_,_,rfl,e,h⟩
  ·exact h.elim
 ·exact h.elim
theorem zhr {k:Nat}{l:List D}{S:Store}{Q:Nat->List D->Prop}(h:S[k]?=some (.lst l)) (q:Q k l):frW (some (.sh (.ref k))) S Q:=by
  show (match S[k]? with
    | some (.lst l)=>Q k l
    | _=>False)
  rw [h];exact q
def isL:Option D->(List D->Prop)->Prop
 | some (.lst l),Q=>Q l
 | _,_=>False
noncomputable def fz:Slot->Slot
 | .ow d=>.sh d
 | s=>s
abbrev Ko:=O->Store->Prop
def nxt (f:List Slot->Store->Prop) (K:Ko):Ko
 | .next ρ,S=>f ρ S
 | o,S=>K o S
def trn (K:Ko) (I:List Slot->Store->Prop):Ko
 | .next ρ,S=>I ρ S
 | .cnt ρ,S=>I ρ S
 | .brk ρ,S=>K (.next ρ) S
 | .ret d fr,S=>K (.ret d fr) S
def forW (t:T) (b:List Slot->Ko->Store->Prop):List D->List Slot->Ko->Store->Prop
 | [],ρ,K,S=>K (.next ρ) S
 | d::l,ρ,K,S=>optS (xn ρ t (d,false)) fun ρ1=>b ρ1 (trn K fun ρ' S'=>forW t b l ρ' K S') S
def whlW (c:List Slot->Po->Store->Prop) (b:List Slot->Ko->Store->Prop):Nat->List Slot->Ko->Store->Prop
 | 0,_,_,_=>False
 | n+1,ρ,K,S=>c ρ (fun x S1=>isB x.1 fun r=>tst r (b ρ (trn K fun ρ' S'=>whlW c b n ρ' K S') S1) (K (.next ρ) S1)) S
abbrev Xp:=Nat->Store->Prop
noncomputable def noX:Xp:=fun _ _=>False
noncomputable def subT (tb:List (List Nat)) (c k:Nat):Bool:=match tb[c]? with
 | some l=>l.contains k
 | none=>false
noncomputable def hbV (tb:List (List Nat)) (c:Nat) (va:Nat->Option Bool):HB->Option Bool
 | .is k=>some (subT tb c k)
 | .isT ks=>some (ks.any fun k=>subT tb c k)
 | .ve=>some true
 | .var j=>va j
 | .not a=>(hbV tb c va a).map (!·)
 | .and a b=>(hbV tb c va a).bind fun x=>if x=true then hbV tb c va b else some false
 | .or a b=>(hbV tb c va a).bind fun x=>if x=true then some true else hbV tb c va b
 | .one a=>hbV tb c va a
mutual
def wpC (cx:Xp->Cf) (ex:Xp) (w:Nat):C->List Slot->Ko->Store->Prop
 | .set t (.box e),ρ,K,S=>wpE (cx noX) ρ e (fun x S1=>boxd x fun d=>optS (xn ρ t (.ref S1.length,false)) fun ρ2=>K (.next ρ2) (S1++[d])) S
 | .set t e,ρ,K,S=>wpE (cx noX) ρ e (fun x S1=>optS (Kf ρ t x) fun ρ2=>K (.next ρ2) S1) S
 | .expr e,ρ,K,S=>wpE (cx noX) ρ e (fun _ S1=>K (.next ρ) S1) S
 | .ret (.var i),ρ,K,S=>sel ρ[i]? (fun d=>K (.ret d false) S) (fun d=>K (.ret d true) S)
 | .ret e,ρ,K,S=>wpE (cx noX) ρ e (fun x S1=>retV x fun o=>K o S1) S
 | .retN,ρ,K,S=>K (.ret .non false) S
 | .ite e A B,ρ,K,S=>wpE (cx noX) ρ e (fun x S1=>isB x.1 fun b=>tst b (wpCs cx ex w A ρ K S1) (wpCs cx ex w B ρ K S1)) S
 | .whl e A,ρ,K,S=>whlW (fun ρ=>wpX (cx noX) ρ e) (fun ρ=>wpCs cx ex w A ρ) w ρ K S
 | .forr t it A,ρ,K,S=>wpI (cx noX) ρ it (fun l S1=>forW t (fun ρ=>wpCs cx ex w A ρ) l ρ K S1) S
 | .app i e,ρ,K,S=>owL ρ[i]? fun l=>wpE (cx noX) ρ e (fun x S1=>keep x fun d=>tst (fits (l.length+1)) (K (.next (ρ.set i (.ow (.lst (l++[d]))))) S1) False) S
 | .ext i e,ρ,K,S=>owL ρ[i]? fun l=>wpE (cx noX) ρ e (fun x S1=>keep x fun d=>opt (extD d) fun m=>tst (fits (l.length+m.length)) (K (.next (ρ.set i (.ow (.lst (l++m))))) S1) False) S
 | .stv i k v,ρ,K,S=>owD ρ[i]? fun c=>wpE (cx noX) ρ v (fun x S1=>keep x fun d=>wpE (cx noX) ρ k (fun y S2=>keep y fun e=>opt (putD c e d) fun c'=>K (.next (ρ.set i (.ow c'))) S2) S1) S
 | .sti o k v,ρ,K,S=>wpE (cx noX) ρ v (fun x S1=>keep x fun d=>wpE (cx noX) ρ o (fun z S2=>keep z fun r=>wpE (cx noX) ρ k (fun y S3=>keep y fun e=>isR r fun n=>opt S3[n]? fun c=>opt (putD c e d) fun c'=>K (.next ρ) (S3.set n c')) S2) S1) S
 | .pop i,ρ,K,S=>owL ρ[i]? fun l=>tst (!l.isEmpty) (K (.next (ρ.set i (.ow (.lst l.dropLast)))) S) False
 | .appR o e,ρ,K,S=>wpE (cx noX) ρ o (fun z S1=>keep z fun r=>isR r fun n=>tst (zjo S1[n]?) (wpE (cx noX) ρ e (fun x S2=>keep x fun d=>isL S2[n]? fun l=>tst (fits (l.length+1)) (K (.next ρ) (S2.set n (.lst (l++[d])))) False) S1) False) S
 | .popO t i,ρ,K,S=>owL ρ[i]? fun l=>opt l.getLast? fun d=>optS (xn (ρ.set i (.ow (.lst l.dropLast))) t (d,false)) fun ρ2=>K (.next ρ2) S
 | .popR t o,ρ,K,S=>wpE (cx noX) ρ o (fun z S1=>keep z fun r=>isR r fun n=>isL S1[n]? fun l=>opt l.getLast? fun d=>optS (xn ρ t (d,false)) fun ρ2=>K (.next ρ2) (S1.set n (.lst l.dropLast))) S
 | .pass,ρ,K,S=>K (.next ρ) S
 | .brk,ρ,K,S=>K (.brk ρ) S
 | .cnt,ρ,K,S=>K (.cnt ρ) S
 | .frz i,ρ,K,S=>K (.next (ρ.set i (fz ((ρ[i]?).getD .no)))) S
 | .frk i,ρ,K,S=>owT ρ[i]? fun ks ds=>K (.next (ρ.set i (.sh (.dF ks ds)))) S
 | .sta _ _ _ _,_,_,_=>False
 | .aua _ _ _ _ _,_,_,_=>False
 | .lin i es,ρ,K,S=>owL ρ[i]? fun l=>wpEs (cx noX) ρ es (fun ds S1=>opt (insD l ds) fun m=>K (.next (ρ.set i (.ow (.lst m)))) S1) S
 | .rse c,_,_,S=>ex c S
 | .stx i f es,ρ,K,S=>wpEs (cx noX) ρ es (fun ds S1=>cx ex f ds (fun x S2=>optS (Kf ρ (.one i) x) fun ρ2=>K (.next ρ2) S2) S1) S
 | .sw2 i j a b,ρ,K,S=>wpE (cx noX) ρ a (fun x S1=>keep x fun d=>wpE (cx noX) ρ b (fun y S2=>keep y fun e=>optS (xn ρ (.tup [i,j]) (.tup [d,e],false)) fun ρ2=>K (.next ρ2) S2) S1) S
 | .trx tb j f es ce i h a b els,ρ,K,S=>wpEs (cx noX) ρ es (fun ds S1=>cx (fun c S2=>tst (subT tb c ce) (opt (hbV tb c (fun _=>none) h) fun r=>K (.ret (.tup (if r=true then a else b)) false) S2) False) f ds (fun x S2=>optS (Kf ρ (.one j) x) fun ρ2=>wpCs cx ex w els ρ2 K S2) S1) S
 | .tri _ _ _ _ _ _,_,_,_=>False
 | .frr i,ρ,K,S=>frW ρ[i]? S fun k l=>K (.next (ρ.set i (.sh (.lst l)))) (S.set k (.ref k))
def wpCs (cx:Xp->Cf) (ex:Xp) (w:Nat):List C->List Slot->Ko->Store->Prop
 | [],ρ,K,S=>K (.next ρ) S
 | c::cs,ρ,K,S=>wpC cx ex w c ρ (nxt (fun ρ' S'=>wpCs cx ex w cs ρ' K S') K) S
end
def told (V:Po):Ko
 | .ret d fr,S=>V (d,kd fr) S
 | .next _,S=>V (.non,.st) S
 | _,_=>False
def za (F:Nat->Option Fn) (w:Nat):Nat->Xp->Cf
 | 0=>fun _ _ _ _ _=>False
 | k+1=>fun ex f ds V S=>opt (F f) fun fn=>ds.length=fn.np/\wpCs (za F w k) ex w fn.body (entry fn ds) (told V) S
abbrev yM (F:Nat->Option Fn) (w k:Nat):Cf:=za F w k noX
section
theorem zp {α:Type}{o:Option α}{P Q:α->Prop}(h:∀ a,P a->Q a):opt o P->opt o Q:=by
 cases o with
 | some a=>exact h a
 | none=>exact id
theorem zM {b:Bool}{P P' Q Q':Prop}(h:P->P') (k:Q->Q'):tst b P Q->tst b P' Q':=by
 cases b with
 | true=>exact h
 | false=>exact k
theorem xK {d:D}{P Q:Bool->Prop}(h:∀ a,P a->Q a):isB d P->isB d Q:=by cases d <;> first | exact h _ | exact id
theorem XS {d:D}{P Q:Nat->List D->Prop}(h:∀ a b,P a b->Q a b):isLm d P->isLm d Q:=fun k=>by obtain ⟨f,cs,rfl,q⟩:=zag k;exact h _ _ q
theorem J4 {p:Nat}{o:Option D}{P Q:Prop}(h:P->Q):J5 p o P->J5 p o Q:=fun k=>by obtain ⟨rfl,z⟩:=U7 k;exact ⟨rfl,h z⟩
theorem Ja {d:D}{P Q:Nat->Prop}(h:∀ a,P a->Q a):isF d P->isF d Q:=by cases d <;> first | exact h _ | exact id
theorem vC {d:D}{P Q:Int->Prop}(h:∀ a,P a->Q a):isZ d P->isZ d Q:=by cases d <;> first | exact h _ | exact id
theorem zA {x:Vl}{P Q:D->Prop}(h:∀ a,P a->Q a):keep x P->keep x Q:=by obtain ⟨d,k⟩:=x;cases k <;> first | exact h _ | exact id
theorem Wo {x:Vl}{P Q:D->Prop}(h:∀ a,P a->Q a):boxd x P->boxd x Q:=by obtain ⟨d,k⟩:=x;cases k <;> first | exact h _ | exact id
theorem jE {s:Option Slot}{P P' Q Q':D->Prop}(h:∀ a,P a->P' a) (k:∀ a,Q a->Q' a):sel s P Q->sel s P' Q':=by
 cases s with
 | none=>exact id
 | some s=>cases s <;> first | exact h _ | exact k _ | exact id
theorem jZ {s:D->(Option D->Store->Prop)->Store->Prop}(hs:∀ d K K' S,(∀ o S,K o S->K' o S)->s d K S->s d K' S):∀ {l acc:List D}{V V':List D->Store->Prop}{S:Store},(∀ a S,V a S->V' a S)->wJ s l acc V S->wJ s l acc V' S
 | [],_,_,_,_,h=>h _ _
 | d::l,acc,V,V',S,h=>hs d _ _ S fun o S1=>by
  cases o with
  | some x=>exact zM (jZ hs h) id
  | none=>exact jZ hs h
def Mono (cf:Cf):Prop:=∀ f ds (V V':Po) S,(∀ x S,V x S->V' x S)->cf f ds V S->cf f ds V' S
variable {cf:Cf}
theorem jR {s:D}{P Q:Nat->Prop}(h:∀ a,P a->Q a):isR s P->isR s Q:=by cases s <;> first | exact h _ | exact id
theorem zbt {s:Option Slot}{P Q:List (List Key)->List D->Prop}(h:∀ a b,P a b->Q a b) (p:owT s P):owT s Q:=by obtain ⟨ks,ds,rfl,q⟩:=zcj p;exact h _ _ q
theorem zah {s:Option D}{P Q:List (List Key)->List D->Prop}(h:∀ a b,P a b->Q a b) (p:isDT s P):isDT s Q:=by obtain ⟨ks,ds,e,q⟩:=zec p;exact zha e (h _ _ q)
mutual
theorem zb (hc:Mono cf):∀ (e:E) {ρ:List Slot}{V V':Po}{S:Store},(∀ x S,V x S->V' x S)->wpE cf ρ e V S->wpE cf ρ e V' S
 | .var i,_,_,_,_,h,k=>jE (fun _=>h _ _) (fun _=>h _ _) k
 | .con d,_,_,_,_,h,k=>h _ _ k
 | .glo _ d,_,_,_,_,h,k=>h _ _ k
 | .bin op a b,_,_,_,_,h,k=>zb hc a (fun _ _=>zb hc b fun _ _=>zp fun _=>h _ _) k
 | .neg a,_,_,_,_,h,k=>zb hc a (fun _ _=>vC fun _=>h _ _) k
 | .cmp op a b,_,_,_,_,h,k=>zb hc a (fun _ _=>zb hc b fun _ _=>zp fun _=>h _ _) k
 | .chn o1 o2 a b c,_,_,_,_,h,k=>zb hc a (fun _ _=>zb hc b fun _ _=>zp fun _=>zM (zb hc c fun _ _=>zp fun _=>h _ _) (h _ _)) k
 | .not a,_,_,_,_,h,k=>zb hc a (fun _ _=>xK fun _=>h _ _) k
 | .and a b,_,_,_,_,h,k=>zb hc a (fun _ _=>xK fun _=>zM (zb hc b h) (h _ _)) k
 | .or a b,_,_,_,_,h,k=>zb hc a (fun _ _=>xK fun _=>zM (h _ _) (zb hc b h)) k
 | .ite c a b,_,_,_,_,h,k=>zb hc c (fun _ _=>xK fun _=>zM (zb hc a h) (zb hc b h)) k
 | .tup es,_,_,_,_,h,k=>zN hc es (fun _ _=>zM (h _ _) id) k
 | .lst es,_,_,_,_,h,k=>zN hc es (fun _ _=>zM (h _ _) id) k
 | .dic _ _ es,_,_,_,_,h,k=>zN hc es (fun _ _=>zM (h _ _) id) k
 | .sub a b,_,_,_,_,h,k=>zb hc a (fun _ _=>zb hc b fun _ _=>zp fun _=>h _ _) k
 | .slc a l u,_,_,_,_,h,k=>zb hc a (fun _ _=>V8 hc l fun _ _=>V8 hc u fun _ _=>zp fun _=>h _ _) k
 | .bi b [],_,_,_,_,h,k=>zN hc [] (fun _ _=>zp fun _=>h _ _) k
 | .bi b [e],_,_,_,_,h,k=>zb hc e (fun _ _=>zp fun _=>h _ _) k
 | .bi b (e::f::es),_,_,_,_,h,k=>zN hc (e::f::es) (fun _ _=>zp fun _=>h _ _) k
 | .mth m o es,_,_,_,_,h,k=>zb hc o (fun _ _=>zM (zN hc es fun _ _=>zp fun _=>h _ _) id) k
 | .call f es,_,_,_,_,h,k=>zN hc es (fun _ _=>hc _ _ _ _ _ h) k
 | .callk f p es,_,_,_,_,h,k=>zN hc es (fun _ _=>zp fun _=>hc _ _ _ _ _ h) k
 | .comp t js it ifs elt,ρ,V,V',S,h,k=>by
  refine V9 hc it (fun its S1 q=>?_) k;refine jZ ?_ ?_ q
  ·intro d K K' S q;exact zp fun ρ'=>zaY hc ifs fun b S1=>zM (zb hc elt fun x S2=>zA fun d=>q _ _) (q _ _)
  ·exact fun ds S2=>h _ _
 | .box e,_,_,_,_,h,k=>zb hc e (fun _ _=>Wo fun _=>h _ _) k
 | .one e,_,_,_,_,h,k=>zb hc e h k
 | .flip e,_,_,_,_,h,k=>zb hc e (fun _ _=>zp fun _=>h _ _) k
 | .dk1 a b,_,_,_,_,h,k=>zb hc a (fun _ _=>zA fun _=>zb hc b fun _ _=>zA fun _=>zp fun _=>h _ _) k
 | .callv i es,_,_,_,_,h,k=>jE (fun _=>Ja fun _=>zN hc es fun _ _=>hc _ _ _ _ _ h) (fun _=>Ja fun _=>zN hc es fun _ _=>hc _ _ _ _ _ h) k
 | .att _ _ _,_,_,_,_,_,k=>k
 | .met _ _ _ _,_,_,_,_,_,k=>k
 | .mk _ _ _,_,_,_,_,_,k=>k
 | .lam _ _ _,_,_,_,_,h,k=>J4 (zp fun _=>h _ _) k
 | .cvl i es,_,_,_,_,h,k=>jE (fun _=>XS fun _ _=>zN hc es fun _ _=>hc _ _ _ _ _ h) (fun _=>XS fun _ _=>zN hc es fun _ _=>hc _ _ _ _ _ h) k
 | .seq _,_,_,_,_,_,k=>k
 | .rng _ _,_,_,_,_,_,k=>k
 | .enum _,_,_,_,_,_,k=>k
 | .zip _ _,_,_,_,_,_,k=>k
 | .rev _,_,_,_,_,_,k=>k
 | .dwn _,_,_,_,_,_,k=>k
 | .items _,_,_,_,_,_,k=>k
theorem zN (hc:Mono cf):∀ (es:List E) {ρ:List Slot}{V V':List D->Store->Prop}{S:Store},(∀ x S,V x S->V' x S)->wpEs cf ρ es V S->wpEs cf ρ es V' S
 | [],_,_,_,_,h,k=>h _ _ k
 | e::es,_,_,_,_,h,k=>zb hc e (fun _ _=>zA fun _=>zN hc es fun _ _=>h _ _) k
theorem V8 (hc:Mono cf):∀ (o:Option E) {ρ:List Slot}{V V':Option Int->Store->Prop}{S:Store},(∀ x S,V x S->V' x S)->wpO cf ρ o V S->wpO cf ρ o V' S
 | none,_,_,_,_,h,k=>h _ _ k
 | some e,_,_,_,_,h,k=>zb hc e (fun _ _=>vC fun _=>h _ _) k
theorem zaY (hc:Mono cf):∀ (es:List E) {ρ:List Slot}{V V':Bool->Store->Prop}{S:Store},(∀ x S,V x S->V' x S)->wpF cf ρ es V S->wpF cf ρ es V' S
 | [],_,_,_,_,h,k=>h _ _ k
 | [e],_,_,_,_,h,k=>zb hc e (fun _ _=>xK fun _=>h _ _) k
 | _::_::_,_,_,_,_,_,k=>k
theorem V9 (hc:Mono cf):∀ (e:E) {ρ:List Slot}{V V':List D->Store->Prop}{S:Store},(∀ x S,V x S->V' x S)->wpI cf ρ e V S->wpI cf ρ e V' S
 | .rng none e,_,_,_,_,h,k=>zb hc e (fun _ _=>vC fun _=>zM (h _ _) id) k
 | .rng (some a) e,_,_,_,_,h,k=>zb hc a (fun _ _=>zb hc e fun _ _=>vC fun _=>vC fun _=>zM (h _ _) id) k
 | .enum e,_,_,_,_,h,k=>zb hc e (fun _ _=>zA fun _=>zp fun _=>h _ _) k
 | .seq e,_,_,_,_,h,k=>zb hc e (fun _ _=>zA fun _=>zp fun _=>h _ _) k
 | .var _,_,_,_,_,_,k=>k
 | .con _,_,_,_,_,_,k=>k
 | .glo _ _,_,_,_,_,_,k=>k
 | .bin _ _ _,_,_,_,_,_,k=>k
 | .neg _,_,_,_,_,_,k=>k
 | .cmp _ _ _,_,_,_,_,_,k=>k
 | .chn _ _ _ _ _,_,_,_,_,_,k=>k
 | .not _,_,_,_,_,_,k=>k
 | .and _ _,_,_,_,_,_,k=>k
 | .or _ _,_,_,_,_,_,k=>k
 | .ite _ _ _,_,_,_,_,_,k=>k
 | .tup _,_,_,_,_,_,k=>k
 | .lst _,_,_,_,_,_,k=>k
 | .dic _ _ _,_,_,_,_,_,k=>k
 | .sub _ _,_,_,_,_,_,k=>k
 | .slc _ _ _,_,_,_,_,_,k=>k
 | .bi _ _,_,_,_,_,_,k=>k
 | .mth _ _ _,_,_,_,_,_,k=>k
 | .call _ _,_,_,_,_,_,k=>k
 | .callk _ _ _,_,_,_,_,_,k=>k
 | .callv _ _,_,_,_,_,_,k=>k
 | .comp _ _ _ _ _,_,_,_,_,_,k=>k
 | .box _,_,_,_,_,_,k=>k
 | .one _,_,_,_,_,_,k=>k
 | .flip _,_,_,_,_,_,k=>k
 | .dk1 _ _,_,_,_,_,_,k=>k
 | .att _ _ _,_,_,_,_,_,k=>k
 | .met _ _ _ _,_,_,_,_,_,k=>k
 | .mk _ _ _,_,_,_,_,_,k=>k
 | .lam _ _ _,_,_,_,_,_,k=>k
 | .cvl _ _,_,_,_,_,_,k=>k
 | .zip a b,_,_,_,_,h,k=>zb hc a (fun _ _=>zA fun _=>zb hc b fun _ _=>zA fun _=>zp fun _=>h _ _) k
 | .dwn es,_,_,_,_,h,k=>zN hc es (fun _ _=>zp fun _=>h _ _) k
 | .rev e,_,_,_,_,h,k=>zb hc e (fun _ _=>vC fun _=>zM (h _ _) id) k
 | .keys _,_,_,_,_,_,k=>k
 | .items e,_,_,_,_,h,k=>zb hc e (fun _ _=>zA fun _=>jR fun _=>zah fun _ _=>h _ _) k
end
theorem zbP {s:Option Slot}{S:Store}{P Q:Nat->List D->Prop}(h:∀ k l,P k l->Q k l) (p:frW s S P):frW s S Q:=by obtain ⟨k,l,rfl,e,q⟩:=zcC p;exact zhr e (h k l q)
theorem uB {s:Option Slot}{P Q:List D->Prop}(h:∀ a,P a->Q a):owL s P->owL s Q:=by
 cases s with
 | none=>exact id
 | some s=>
  cases s with
  | ow d=>cases d <;> first | exact h _ | exact id
  | _=>exact id
theorem zbu {s:Option Slot}{P Q:D->Prop}(h:∀ a,P a->Q a):owD s P->owD s Q:=by
 cases s with
 | none=>exact id
 | some s=>cases s <;> first | exact h _ | exact id
theorem U9 {s:Option D}{P Q:List D->Prop}(h:∀ a,P a->Q a):isL s P->isL s Q:=by
 cases s with
 | none=>exact id
 | some s=>cases s <;> first | exact h _ | exact id
theorem Qi {x:Vl}{P Q:O->Prop}(h:∀ a,P a->Q a):retV x P->retV x Q:=by obtain ⟨d,k⟩:=x;cases k <;> first | exact h _ | exact id
theorem zbB {f f':List Slot->Store->Prop}{K K':Ko}(h:∀ ρ S,f ρ S->f' ρ S) (k:∀ o S,K o S->K' o S):∀ o S,nxt f K o S->nxt f' K' o S:=by intro o S;cases o <;> first | exact h _ _ | exact k _ _
theorem jD {f f':List Slot->Store->Prop}{K K':Ko}(h:∀ ρ S,f ρ S->f' ρ S) (k:∀ o S,K o S->K' o S):∀ o S,trn K f o S->trn K' f' o S:=by intro o S;cases o <;> first | exact h _ _ | exact k _ _
theorem X6 {t:T}{b b':List Slot->Ko->Store->Prop}(hb:∀ ρ (V V':Ko) S,(∀ x S,V x S->V' x S)->b ρ V S->b' ρ V' S) {K K':Ko}(k:∀ o S,K o S->K' o S):∀ {l:List D}{ρ:List Slot}{S:Store},forW t b l ρ K S->forW t b' l ρ K' S
 | [],_,_,h=>k _ _ h
 | d::l,_,_,h=>zp (fun _=>hb _ _ _ _ (jD (fun _ _=>X6 hb k) k)) h
theorem YH {c:List Slot->Po->Store->Prop}{b b':List Slot->Ko->Store->Prop}(hc:∀ ρ (V V':Po) S,(∀ x S,V x S->V' x S)->c ρ V S->c ρ V' S) (hb:∀ ρ (V V':Ko) S,(∀ x S,V x S->V' x S)->b ρ V S->b' ρ V' S) {K K':Ko}(k:∀ o S,K o S->K' o S):∀ {n:Nat}{ρ:List Slot}{S:Store},whlW c b n ρ K S->whlW c b' n ρ K' S
 | 0,_,_,h=>h
 | n+1,_,_,h=>hc _ _ _ _ (fun _ _=>xK fun _=>zM (hb _ _ _ _ (jD (fun _ _=>YH hc hb k) k)) (k _ _)) h
variable {w:Nat}
def WQ (cx:Xp->Cf):Prop:=∀ ex ex' f ds V V' S,(∀ c S,ex c S->ex' c S)->(∀ x S,V x S->V' x S)->cx ex f ds V S->cx ex' f ds V' S
theorem WQ.no {cx:Xp->Cf}(h:WQ cx) {ex:Xp}:Mono (cx ex):=fun f ds V V' S q k=>h ex ex f ds V V' S (fun _ _=>id) q k
section
variable {cx:Xp->Cf}{w:Nat}
theorem zba (hc:WQ cx) (e:E) {ex ex':Xp}{ρ:List Slot}{K K':Ko}{S:Store}(h:∀ o S,K o S->K' o S) (k:wpC cx ex w (.ret e) ρ K S):wpC cx ex' w (.ret e) ρ K' S:=by cases e <;> first | exact jE (fun _=>h _ _) (fun _=>h _ _) k | exact zb hc.no _ (fun _ _=>Qi fun _=>h _ _) k
theorem za8 (hc:WQ cx) (t:T) (e:E) {ex ex':Xp}{ρ:List Slot}{K K':Ko}{S:Store}(h:∀ o S,K o S->K' o S) (k:wpC cx ex w (.set t e) ρ K S):wpC cx ex' w (.set t e) ρ K' S:=by cases e <;> first | exact zb hc.no _ (fun _ _=>zp fun _=>h _ _) k | exact zb hc.no _ (fun _ _=>Wo fun _=>zp fun _=>h _ _) k
mutual
theorem zaZ (hc:WQ cx):∀ (c:C) {ex ex':Xp}{ρ:List Slot}{K K':Ko}{S:Store},(∀ c S,ex c S->ex' c S)->(∀ o S,K o S->K' o S)->wpC cx ex w c ρ K S->wpC cx ex' w c ρ K' S
 | .set t e,_,_,_,_,_,_,x,h,k=>za8 hc t e h (ex:=_) (ex':=_) k
 | .expr e,_,_,_,_,_,_,x,h,k=>zb hc.no e (fun _ _=>h _ _) k
 | .ret e,_,_,_,_,_,_,x,h,k=>zba hc e h (ex:=_) (ex':=_) k
 | .retN,_,_,_,_,_,_,x,h,k=>h _ _ k
 | .ite e A B,_,_,_,_,_,_,x,h,k=>zb hc.no e (fun _ _=>xK fun _=>zM (yC hc A x h) (yC hc B x h)) k
 | .whl e A,ex,ex',ρ,K,K',S,x,h,k=>by
  have k:whlW (fun ρ=>wpE (cx noX) ρ e) (fun ρ=>wpCs cx ex w A ρ) w ρ K S:=k;refine YH ?_ ?_ h k
  ·exact fun ρ V V' S q=>zb hc.no e q
  ·exact fun ρ V V' S q=>yC hc A x q
 | .forr t it A,ex,ex',ρ,K,K',S,x,h,k=>by refine V9 hc.no it (fun l S1 q=>?_) k;refine X6 ?_ h q;exact fun ρ V V' S q=>yC hc A x q
 | .app i e,_,_,_,_,_,_,x,h,k=>uB (fun _=>zb hc.no e fun _ _=>zA fun _=>zM (h _ _) id) k
 | .ext i e,_,_,_,_,_,_,x,h,k=>uB (fun _=>zb hc.no e fun _ _=>zA fun _=>zp fun _=>zM (h _ _) id) k
 | .stv i a v,_,_,_,_,_,_,x,h,k=>zbu (fun _=>zb hc.no v fun _ _=>zA fun _=>zb hc.no a fun _ _=>zA fun _=>zp fun _=>h _ _) k
 | .sti o a v,_,_,_,_,_,_,x,h,k=>zb hc.no v (fun _ _=>zA fun _=>zb hc.no o fun _ _=>zA fun _=>zb hc.no a fun _ _=>zA fun _=>jR fun _=>zp fun _=>zp fun _=>h _ _) k
 | .pop i,_,_,_,_,_,_,x,h,k=>uB (fun _=>zM (h _ _) id) k
 | .appR o e,_,_,_,_,_,_,x,h,k=>zb hc.no o (fun _ _=>zA fun _=>jR fun _=>zM (zb hc.no e fun _ _=>zA fun _=>U9 fun _=>zM (h _ _) id) id) k
 | .popO t i,_,_,_,_,_,_,x,h,k=>uB (fun _=>zp fun _=>zp fun _=>h _ _) k
 | .popR t o,_,_,_,_,_,_,x,h,k=>zb hc.no o (fun _ _=>zA fun _=>jR fun _=>U9 fun _=>zp fun _=>zp fun _=>h _ _) k
 | .pass,_,_,_,_,_,_,x,h,k=>h _ _ k
 | .brk,_,_,_,_,_,_,x,h,k=>h _ _ k
 | .cnt,_,_,_,_,_,_,x,h,k=>h _ _ k
 | .frz i,_,_,_,_,_,_,x,h,k=>h _ _ k
 | .frk i,_,_,_,_,_,_,x,h,k=>zbt (fun _ _=>h _ _) k
 | .sta _ _ _ _,_,_,_,_,_,_,x,h,k=>k
 | .aua _ _ _ _ _,_,_,_,_,_,_,x,h,k=>k
 | .lin i es,_,_,_,_,_,_,x,h,k=>uB (fun _=>zN hc.no es fun _ _=>zp fun _=>h _ _) k
 | .rse c,_,_,_,_,_,_,x,h,k=>x _ _ k
 | .stx i f es,_,_,_,_,_,_,x,h,k=>zN hc.no es (fun _ _=>hc _ _ _ _ _ _ _ x fun _ _=>zp fun _=>h _ _) k
 | .sw2 i j a b,_,_,_,_,_,_,x,h,k=>zb hc.no a (fun _ _=>zA fun _=>zb hc.no b fun _ _=>zA fun _=>zp fun _=>h _ _) k
 | .trx tb j f es ce i hb a b els,_,_,_,_,_,_,x,h,k=>zN hc.no es (fun _ _=>hc _ _ _ _ _ _ _ (fun _ _=>zM (zp fun _=>h _ _) id) fun _ _=>zp fun _=>yC hc els x h) k
 | .tri _ _ _ _ _ _,_,_,_,_,_,_,x,h,k=>k
 | .frr i,_,_,_,_,_,_,x,h,k=>zbP (fun _ _=>h _ _) k
theorem yC (hc:WQ cx):∀ (cs:List C) {ex ex':Xp}{ρ:List Slot}{K K':Ko}{S:Store},(∀ c S,ex c S->ex' c S)->(∀ o S,K o S->K' o S)->wpCs cx ex w cs ρ K S->wpCs cx ex' w cs ρ K' S
 | [],_,_,_,_,_,_,x,h,k=>h _ _ k
 | c::cs,_,_,_,_,_,_,x,h,k=>zaZ hc c x (zbB (fun _ _=>yC hc cs x h) h) k
end
theorem KN {V V':Po}(h:∀ x S,V x S->V' x S):∀ o S,told V o S->told V' o S:=by intro o S;cases o <;> first | exact h _ _ | exact id
theorem yS {F:Nat->Option Fn}:∀ k,WQ (za F w k)
 | 0=>fun _ _ _ _ _ _ _ _ _ h=>h
 | k+1=>fun ex ex' f ds V V' S hx h q=>zp (fun _ ⟨a,b⟩=>⟨a,yC (yS k) _ hx (KN h) b⟩) q
theorem Wj {F:Nat->Option Fn}(k:Nat):Mono (yM F w k):=(yS k).no
end
end
open PySem PySem.Spec PyProof.Rows L2
def Rdb (Γ:Gm) (H:Hp) (g:G):D->V->Prop
 | .tup ds,v=>∃ a vs,v=.ref a/\g.R a=some (.tup vs)/\Hass Γ g ds vs
 | .lst ds,v=>∃ a vs,v=.ref a/\H a=some (.lst vs)/\Hass Γ g ds vs
 | .dK ks ds,v=>∃ a vs,v=.ref a/\H a=some (.dK (ks.zip vs))/\ks.length=ds.length/\Hass Γ g ds vs
 | .dT ks ds,v=>∃ a vs,v=.ref a/\H a=some (.dT (ks.zip vs))/\ks.length=ds.length/\Hass Γ g ds vs
 | .non,v=>v=.non
 | .bl b,v=>v=.bl b
 | .int i,v=>v=.int i
 | .str x,v=>v=.str x
 | .ref _,v=>∃ a,v=.ref a
 | .fn f,v=>∃ a,Γ.fa f=some a/\v=.ref a
 | .scr ns,v=>∃ a,v=.ref a/\SqL Γ.K H a (ns.map V.int)
 | .ktp ds,v=>∃ a vs,v=.ref a/\KTup Γ.K a vs/\Hass Γ g ds vs
 | .kdc ps,v=>∃ a,v=.ref a/\KDic Γ.K a ps
 | .dF ks ds,v=>∃ a vs o,v=.ref a/\H a=some (.frz o (.dT (ks.zip vs)))/\ks.length=ds.length/\Hass Γ g ds vs
 | .ins _ _ _,v=>∃ a,v=.ref a
 | .lam f ds,v=>Has Γ g (.lam f ds) v
 | .tab _,v=>∃ a,v=.ref a
section
variable {Γ:Gm}{H H':Hp}{g g':G}{S:Store}{d:D}{v:V}{a:Addr}
theorem Qk (w:WOk Γ H g S) (h:Has Γ g d v):Rdb Γ H g (zL S d) v:=by
 cases d with
 | non=>exact h
 | bl=>exact h
 | int=>exact h
 | str=>exact h
 | fn f=>exact h
 | tup ds=>exact h
 | lst ds=>obtain ⟨a,vs,h1,h2,h3⟩:=h;exact ⟨a,vs,h1,w.rh _ _ h2,h3⟩
 | scr ns=>obtain ⟨a,h1,h2⟩:=h;exact ⟨a,h1,w.rh.seq h2⟩
 | dK ks ds=>obtain ⟨a,vs,h1,h2,h4,h3⟩:=h;exact ⟨a,vs,h1,w.rh _ _ h2,h4,h3⟩
 | dT ks ds=>obtain ⟨a,vs,h1,h2,h4,h3⟩:=h;exact ⟨a,vs,h1,w.rh _ _ h2,h4,h3⟩
 | ktp=>exact h
 | kdc=>exact h
 | dF ks ds=>obtain ⟨a,vs,o,h1,h2,h4,h3⟩:=h;exact ⟨a,vs,o,h1,w.rh _ _ h2,h4,h3⟩
 | ins=>obtain ⟨a,_,_,_,h1,_⟩:=h;exact ⟨a,h1⟩
 | lam=>exact h
 | tab=>obtain ⟨a,_,_,h1,_⟩:=h;exact ⟨a,h1⟩
 | ref k=>
  obtain ⟨a,h1,rfl⟩:=h;have hk:k < S.length:=by rw [<- w.len];exact (υ.mp h1).1
  have e:S[k]?=some S[k]:=ψ hk;have c:=w.cell k _ a e h1;show Rdb Γ H g ((S[k]?).getD .non) (.ref a)
  rw [e];show Rdb Γ H g S[k] (.ref a)
  generalize S[k]=x at c;cases x with
  | lst ds=>obtain ⟨vs,h1,h2⟩:=c;exact ⟨a,vs,rfl,h1,h2⟩
  | dK ks ds=>obtain ⟨vs,h1,h3,h2⟩:=c;exact ⟨a,vs,rfl,h1,h3,h2⟩
  | dT ks ds=>obtain ⟨vs,h1,h3,h2⟩:=c;exact ⟨a,vs,rfl,h1,h3,h2⟩
  | non=>exact c.elim
  | bl=>exact c.elim
  | int=>exact c.elim
  | str=>exact c.elim
  | tup=>exact c.elim
  | ref=>exact ⟨a,rfl⟩
  | fn=>exact c.elim
  | scr=>exact c.elim
  | ktp=>exact c.elim
  | kdc=>exact c.elim
  | dF=>exact c.elim
  | ins=>exact ⟨a,rfl⟩
  | lam=>exact c.elim
  | tab=>exact ⟨a,rfl⟩
def Fin (Γ:Gm) (H:Hp) (g:G) (S:Store) (d:D) (fr:Bool) (Q:VK):Prop:=
 ∀ v H' g',Step H g H' g'->Same H H'->WOk Γ H' g' S->VOk Γ H d fr v H' g'->Q v H'
variable {Q:VK}
theorem zg (w:WOk Γ H g S) (q:Fin Γ H g S d false Q) (h:Has Γ g d v):Q v H:=q v H g (Step.refl H g) (Same.refl H) w h
theorem WOk.laid {o:HO}(w:WOk Γ H g S) (h:H a=none):WOk Γ (upd H a o) g S where
 rh:=fun b u q=>by have e:=w.rh b u q;rw [zc (zq e h)];exact e
 len:=w.len
 nd:=w.nd
 off:=w.off
 cell:=fun k c b h1 h2=>(w.cell k c b h1 h2).mono (Le.refl g) fun o e=>by rw [zc (zq e h)];exact e
theorem WOk.notR (w:WOk Γ H g S) (h:H a=none):g.R a=none:=by
 cases q:g.R a with
 | none=>rfl
 | some o=>rw [w.rh a o q] at h;cases h
theorem WOk.notA (w:WOk Γ H g S) (h:H a=none):a ∉ g.α:=fun m=>by
 obtain ⟨k,hk,e⟩:=m5 m;have hk':k < S.length:=by rw [<- w.len];exact hk
 obtain ⟨o,ho,_⟩:=(w.cell k _ a (ψ hk') (by rw [ψ hk,e])).J6;rw [ho] at h;cases h
theorem vA {o:HO}(h:H a=none):Same H (upd H a o):=fun b u q=>by rw [zc (zq q h)];exact q
theorem qG {ds:List D}{vs:List V}(w:WOk Γ H g S) (q:Fin Γ H g S (.tup ds) false Q) (h:Hass Γ g ds vs) (ha:H a=none):Q (.ref a) (upd H a (.tup vs)):=by have hr:=w.notR ha;refine q _ _ (g.put a (.tup vs)) ?_ (vA ha) ((w.laid ha).put zm hr (w.notA ha)) ⟨a,vs,rfl,zm,h.mono (Le.put hr)⟩;exact (Step.of_same (vA ha) (Le.refl g) (fun _ h=>.inl h) fun _ h=>.inl h).put hr ha
theorem wA {ds:List D}{vs:List V}(w:WOk Γ H g S) (q:Fin Γ H g S (.lst ds) true Q) (h:Hass Γ g ds vs) (ha:H a=none):Q (.ref a) (upd H a (.lst vs)):=
 q _ _ g (Step.of_same (vA ha) (Le.refl g) (fun _ h=>.inl h) fun _ h=>.inl h) (vA ha) (w.laid ha) ⟨a,rfl,ha,w.notR ha,w.notA ha,vs,zm,h⟩
end
theorem zcq {n:Nat}(h:fits n=true):n < sizeLine:=nA (of_decide_eq_true h) (by decide)
theorem xJ {n:Nat}(h:fits n=true):n<=sizeLine:=fD (zcq h)
def RDo (Γ:Gm) (r:R2) (a b:D) (d:D) (fr:Bool):Prop:=
 ∀ (S:Store) (H:Hp) (g:G) (x y:V) (Q:VK),WOk Γ H g S->Rdb Γ H g a x->Rdb Γ H g b y->Fin Γ H g S d fr Q->r x y H Q
section
variable {X:Cx}{Γ:Gm}
def ziS:R2:=fun x y H Q=>∃ l b xs zs,x=.ref l/\y=.ref b/\H l=some (.lst xs)/\H b=some (.lst zs)/\xs.length+zs.length<=sizeLine/\∀ p,H p=none->Q (.ref p) (upd H p (.lst (xs++zs)))
theorem zdL:OpR X (aU .Add) ziS:=by
 intro pj s σ H x y v u Q I rx ry h;obtain ⟨l,b,xs,zs,rfl,rfl,hH,hB,hz,q⟩:=h;cases rx;cases ry;obtain ⟨z,its,n,r,e⟩:=I.hok _ _ hH;obtain ⟨z2,its2,n2,r2,e2⟩:=I.hok _ _ hB;have hl:=r.length;have hl2:=r2.length;refine PySem.P.add_list e e2 ?_ (by rw [ο,ο];omega);have ea:its.toArray++its2.toArray=(its++its2).toArray:=by simp
 rw [ea];exact ⟨.ref _,_,I.lnew (t':=s.toks) (r.append r2) (by rw [Υ];omega),rfl,q _ I.fresh⟩
theorem Yr {g:G}{ds:List D}{vs:List V}(h:Hass Γ g ds vs):∀ n:Nat,Hass Γ g (η n ds).flatten (η n vs).flatten
 | 0=>rfl
 | n+1=>by rw [ϯ,ϯ,bB,bB];exact h.app (Yr h n)
def ziN:R2:=fun x y H Q=>∃ l xs n,x=.ref l/\y=.int n/\H l=some (.lst xs)/\0<=n/\n < 2 ^ 20/\xs.length*n.toNat<=sizeLine/\∀ p,H p=none->Q (.ref p) (upd H p (.lst (η n.toNat xs).flatten))
theorem zdG:OpR X (aU .Mult) ziN:=by
 intro pj s σ H x y v u Q I rx ry h;obtain ⟨l,xs,k,rfl,rfl,hH,k0,k1,hz,q⟩:=h;cases rx;obtain ⟨t,rfl⟩:=ry;obtain ⟨z,its,n,r,e⟩:=I.hok _ _ hH;have hl:=r.length;have hi:s.heap.get? l=some { cls:=.type "list",dict:=none,data:=.seq its.toArray n,slots:=#[] }:=e;have hz':its.toArray.size*k.toNat<=2 ^ 24:=by rw [ο,<- hl];rw [bD] at hz;omega
 refine mU (T:="list") (U:="int") (by decide) ⟨_,hi,rfl⟩ (fun s'=>iG s' k t) noFill_list_mul F.fills_int_mul F.slot_int_rmul repeat_list F.slot_int_index.lookup
  (fY F.slot_int_rmul (iG s k t) F.entry_int_rmul (F.args_int_rmul_2 _ _) (int___rmul___int_list k t l its.toArray n)
   ⟨hi,rfl,⟨_,hi,rfl⟩,fY F.slot_list_mul ⟨_,hi,rfl⟩ F.entry_list_mul (F.args_list_mul_2 _ _)
    (AutoListH.list___mul___list_int_3 l its.toArray n k t (by simp [Ω.List.listFitsIndex];omega) (by omega) (by simp [b8,sizeLine];rw [ο] at hz';omega))
    ⟨hi,?_⟩⟩)
 have ea:lC (fun x1 x2=>x1++x2) #[] (η (if its.toArray.isEmpty=true then 0 else k.toNat) its.toArray)=((η k.toNat its).flatten).toArray:=by
  cases its with
  | nil=>
   have:(η k.toNat ([]:List δ)).flatten=[]:=by induction k.toNat with
    | zero=>rfl
    | succ n ih=>rw [ϯ,bB,ih];rfl
   rw [this];rfl
  | cons a l=>
   have:((a::l).toArray.isEmpty=true)=False:=by simp
   rw [if_neg (by rw [this];exact id)];have:=W8 (a::l) k.toNat [];simpa using this
 rw [ea]
 exact ⟨.ref _,_,I.lnew (t':=s.toks) (Z0 r _) (by
  have:(η k.toNat xs).flatten.length=xs.length*k.toNat:=by rw [gf,gA,fc,mR]
  rw [this];exact hz),rfl,q _ I.fresh⟩
theorem uV {f:Int->Int->Option Int}{a b:D}{p:D×Bool}(h:num2 f a b=some p):∃ i j k,a=.int i/\b=.int j/\f i j=some k/\p=(.int k,false):=by
 cases a with
 | int i=>
  cases b with
  | int j=>
   obtain ⟨k,e,rfl⟩:=Α.mp (show (f i j).map (fun k=>(D.int k,false))=some p from h);exact ⟨i,j,k,rfl,rfl,e,rfl⟩
  | _=>cases h
 | _=>cases h
set_option tactic.hygienic true in
theorem zeY {a b:D}{d:D}{fr:Bool}(hK:X.K=Γ.K) (h:addD a b=some (d,fr)):∃ r,OpR X (aU .Add) r/\RDo Γ r a b d fr:=by
 cases a with
 | int i=>
  cases b with
  | int j=>
   cases h;exact ⟨_,zgy,fun S H g x y Q w hx hy q=>⟨_,_,hx,hy,zg w q rfl⟩⟩
  | _=>cases h
 | str s=>
  cases b with
  | str u=>
   have h:(if fits (s.length+u.length)=true then some (D.str (s++u),false) else none)=some (d,fr):=h;split at h
   ·rename_i hf
    cases h;exact ⟨_,JM,fun S H g x y Q w hx hy q=>⟨_,_,hx,hy,xJ hf,zg w q rfl⟩⟩
   ·cases h
  | _=>cases h
 | tup s=>
  cases b with
  | tup u=>
   have h:(if fits (s.length+u.length)=true then some (D.tup (s++u),false) else none)=some (d,fr):=h;split at h
   ·rename_i hf
    cases h;refine ⟨_,zdK.or zbx,fun S H g x y Q w ⟨a,xs,e1,e2,e3⟩ ⟨b,ys,f1,f2,f3⟩ q=>?_⟩;rw [hK];have h1:=e3.len;have h2:=f3.len;have hz:=xJ hf;by_cases hx:xs=[]
    ·subst hx;refine .inr ⟨a,b,ys,e1,f1,SqT.of (w.rh _ _ e2),SqT.of (w.rh _ _ f2),?_⟩;have e0:=bH.mp h1.symm;subst e0;exact zg w q ⟨b,ys,rfl,f2,f3⟩
    ·refine .inl ⟨a,b,xs,ys,e1,f1,SqT.of (w.rh _ _ e2),SqT.of (w.rh _ _ f2),hx,by lia,fun z=>?_,fun _ p hp=>qG w q (e3.app f3) hp⟩;subst z;have e0:=bH.mp h2.symm;subst e0;refine zg w q ⟨a,xs,rfl,e2,?_⟩;rw [Ε];exact e3
   ·cases h
  | _=>cases h
 | lst s=>
  cases b with
  | lst u=>
   have h:(if fits (s.length+u.length)=true then some (D.lst (s++u),true) else none)=some (d,fr):=h;split at h
   ·rename_i hf
    cases h;refine ⟨_,zdL,fun S H g x y Q w ⟨a,xs,e1,e2,e3⟩ ⟨b,ys,f1,f2,f3⟩ q=>?_⟩;have h1:=e3.len;have h2:=f3.len;have hz:=xJ hf;exact ⟨a,b,xs,ys,e1,f1,e2,f2,by lia,fun p hp=>wA w q (e3.app f3) hp⟩
   ·cases h
  | _=>cases h
 | _=>cases h
theorem zdJ:OpR X (aU .Mult) (fun x y H Q=>∃ i n,x=.str i/\y=.int n/\(1<=n/\n < 2 ^ 20/\(i.length==0)=false/\i.length*n.toNat<=sizeLine)/\Q (.str ⟨(η n.toNat i.cps).foldl (·++·) #[]⟩) H):=by
 intro pj s σ H x y v u Q I rx ry h;obtain ⟨i,n,rfl,rfl,⟨h1,h2,h3,h4⟩,q⟩:=h;obtain ⟨t,rfl⟩:=rx;obtain ⟨t',rfl⟩:=ry;have hl:Ω.Str.tooLong (i.length*n.toNat)=false:=decide_eq_false (by omega);have hz:sizeLine<=2 ^ 40:=by decide
 refine PySem.P.mul_str (by rw [decide_eq_false (by omega),decide_eq_false (by omega)];rfl) (fun _ _ q=>?_) (fun _ _=>hl) ?_
 ·have a1:(i.length:Int)<=2 ^ 40:=by have:i.length*1<=i.length*n.toNat:=Nat.mul_le_mul_left _ (by omega);omega
  have a2:(2 ^ 43 - 1:Int)<=(2 ^ 63 - 1) / n:=by rw [Int.le_ediv_iff_mul_le (by omega)];have:(2 ^ 43 - 1)*n<=(2 ^ 43 - 1)*2 ^ 20:=Int.mul_le_mul_of_nonneg_left (by omega) (by decide);omega
  omega
 ·rw [if_neg (by omega)];by_cases e:n=1
  ·subst e;rw [show (⟨(η (1:Int).toNat i.cps).foldl (·++·) #[]⟩:Str)=i by show (⟨#[]++i.cps⟩:Str)=i;rw [Array.empty_append]] at q;exact ⟨.str i,H,I,⟨t,rfl⟩,q⟩
  ·rw [beq_eq_false_iff_ne.mpr e,h3];exact ⟨PySem.fits_reps hl,.str _,H,I.tok _,⟨_,rfl⟩,q⟩
set_option tactic.hygienic true in
theorem zdV {a b:D}{d:D}{fr:Bool}(h:mulD a b=some (d,fr)):∃ r,OpR X (aU .Mult) r/\RDo Γ r a b d fr:=by
 cases a with
 | int i=>
  cases b with
  | int j=>
   have h:(if (yl i||yl j)=true then some (D.int (i*j),false) else none)=some (d,fr):=h;split at h
   ·rename_i hf
    cases h;refine ⟨_,zgs,fun S H g x y Q w hx hy q=>⟨_,_,hx,hy,?_,zg w q rfl⟩⟩;simp only [yl,dz,ε,decide_eq_true_eq] at hf;exact hf
   ·cases h
  | _=>cases h
 | lst l=>
  cases b with
  | int n=>
   have h:(if (decide (0<=n)&&decide (n < 2 ^ 20)&&fits (l.length*n.toNat))=true then some (D.lst (η n.toNat l).flatten,true) else none)=some (d,fr):=h;split at h
   ·rename_i hf
    cases h;simp only [ε,decide_eq_true_eq] at hf;refine ⟨_,zdG,fun S H g x y Q w ⟨a,xs,e1,e2,e3⟩ hy q=>?_⟩;have h1:=e3.len;have hz:=xJ hf.2;exact ⟨a,xs,_,e1,hy,e2,hf.1.1,hf.1.2,by rw [h1];exact hz,fun p hp=>wA w q (Yr e3 _) hp⟩
   ·cases h
  | _=>cases h
 | tup l=>
  cases b with
  | int n=>
   have h:(if (decide (0<=n)&&decide (n < 2 ^ 20)&&fits (l.length*n.toNat))=true then some (D.tup (η n.toNat l).flatten,false) else none)=some (d,fr):=h;split at h
   ·rename_i hf
    cases h;simp only [ε,decide_eq_true_eq] at hf;refine ⟨_,zdF,fun S H g x y Q w ⟨a,xs,e1,e2,e3⟩ hy q=>?_⟩;have h1:=e3.len;have hz:=xJ hf.2;have hr:=Yr e3 n.toNat;exact ⟨a,xs,_,e1,hy,w.rh _ _ e2,hf.1.1,hf.1.2,by rw [h1];exact hz,fun z=>zg w q ⟨a,xs,rfl,e2,by rw [z] at hr;exact hr⟩,fun p hp=>qG w q hr hp⟩
   ·cases h
  | _=>cases h
 | str z=>
  cases b with
  | int n=>
   have h:(if (decide (1<=n)&&decide (n < 2 ^ 20)&&!(z.length==0)&&fits (z.length*n.toNat))=true then some (D.str ⟨(η n.toNat z.cps).foldl (·++·) #[]⟩,false) else none)=some (d,fr):=h;split at h
   ·rename_i hf
    cases h;simp only [ε,decide_eq_true_eq,b7] at hf;exact ⟨_,zdJ,fun S H g x y Q w hx hy q=>⟨_,_,hx,hy,⟨hf.1.1.1,hf.1.1.2,hf.1.2,xJ hf.2⟩,zg w q rfl⟩⟩
   ·cases h
  | _=>cases h
 | _=>cases h
set_option tactic.hygienic true in
theorem zgp {op:gH}{a b:D}{d:D}{fr:Bool}(hK:X.K=Γ.K) (h:opD op a b=some (d,fr)):∃ r,OpR X (aU op) r/\RDo Γ r a b d fr:=by
 cases op with
 | Add=>exact zeY hK h
 | Mult=>exact zdV h
 | Sub=>
  obtain ⟨i,j,k,rfl,rfl,e,e2⟩:=uV h;cases e;cases e2;exact ⟨_,zgo,fun S H g x y Q w hx hy q=>⟨_,_,hx,hy,zg w q rfl⟩⟩
 | FloorDiv=>
  obtain ⟨i,j,k,rfl,rfl,e,e2⟩:=uV h;cases e2;split at e
  ·rename_i hf
   cases e;refine ⟨_,zbw,fun S H g x y Q w hx hy q=>⟨_,_,hx,hy,?_,zg w q rfl⟩⟩;simp only [ε,decide_eq_true_eq] at hf;exact hf
  ·cases e
 | Mod=>
  obtain ⟨i,j,k,rfl,rfl,e,e2⟩:=uV h;cases e2;split at e
  ·rename_i hf
   cases e;exact ⟨_,zgt,fun S H g x y Q w hx hy q=>⟨_,_,hx,hy,of_decide_eq_true hf,zg w q rfl⟩⟩
  ·cases e
 | Pow=>
  obtain ⟨i,j,k,rfl,rfl,e,e2⟩:=uV h;cases e2;split at e
  ·rename_i hf
   cases e;refine ⟨_,zgq,fun S H g x y Q w hx hy q=>⟨_,_,hx,hy,?_,zg w q rfl⟩⟩;simp only [yl,ε,decide_eq_true_eq] at hf;exact ⟨hf.1.1,hf.1.2,by omega⟩
  ·cases e
 | _=>cases h
end
open PySem PySem.Spec PyProof.Rows L2 SeqAt
section
variable {X:Cx}{pj:List (Addr×Obj)}{σ:L2.St}{H:Hp}{s:ς}{Γ:Gm}{g:G}
theorem zc3 (sr:Same g.R H) {a:Addr}{xs ys:List V}(h:g.R a=some (.tup xs)) (h':g.R a=some (.tup ys)):xs=ys:=by rw [h] at h';cases h';rfl
theorem zdj (sr:Same g.R H) {a:Addr}{xs ys:List V}(h:g.R a=some (.lst xs)) (h':g.R a=some (.lst ys)):xs=ys:=by rw [h] at h';cases h';rfl
theorem zfh (sr:Same g.R H) {a b:Addr}{xs ys:List V}(h:g.R a=some (.lst xs)) (h':g.R b=some (.tup ys)):a≠b:=by rintro rfl;rw [h] at h';cases h'
mutual
theorem Yt (I:Inv X pj σ H s) (hK:X.K=Γ.K) (sr:Same g.R H):∀ (n:Nat) (a b:D) (x:V),okP n a=true->okP n b=true->Has Γ g a x->Has Γ g b x->eqP a b=true
 | n,.non,b,x,_,kb,ha,hb=>by
  cases (show x=.non from ha);cases b with
  | non=>rfl
  | bl=>cases (show V.non=_ from hb)
  | int=>cases (show V.non=_ from hb)
  | str=>cases (show V.non=_ from hb)
  | tup=>obtain ⟨_,_,h,_⟩:=hb;cases h
  | lst=>obtain ⟨_,_,h,_⟩:=hb;cases h
  | _=>cases n <;> exact nobE kb
 | n,.bl c,b,x,_,kb,ha,hb=>by
  cases (show x=.bl c from ha);cases b with
  | non=>cases (show V.bl c=_ from hb)
  | bl=>cases (show V.bl c=_ from hb);exact beq_self_eq_true c
  | int=>cases (show V.bl c=_ from hb)
  | str=>cases (show V.bl c=_ from hb)
  | tup=>obtain ⟨_,_,h,_⟩:=hb;cases h
  | lst=>obtain ⟨_,_,h,_⟩:=hb;cases h
  | _=>cases n <;> exact nobE kb
 | n,.int c,b,x,_,kb,ha,hb=>by
  cases (show x=.int c from ha);cases b with
  | non=>cases (show V.int c=_ from hb)
  | bl=>cases (show V.int c=_ from hb)
  | int=>cases (show V.int c=_ from hb);exact beq_self_eq_true c
  | str=>cases (show V.int c=_ from hb)
  | tup=>obtain ⟨_,_,h,_⟩:=hb;cases h
  | lst=>obtain ⟨_,_,h,_⟩:=hb;cases h
  | _=>cases n <;> exact nobE kb
 | n,.str c,b,x,_,kb,ha,hb=>by
  cases (show x=.str c from ha);cases b with
  | non=>cases (show V.str c=_ from hb)
  | bl=>cases (show V.str c=_ from hb)
  | int=>cases (show V.str c=_ from hb)
  | str=>cases (show V.str c=_ from hb);exact beq_self_eq_true c
  | tup=>obtain ⟨_,_,h,_⟩:=hb;cases h
  | lst=>obtain ⟨_,_,h,_⟩:=hb;cases h
  | _=>cases n <;> exact nobE kb
 | 0,.tup as,b,x,ka,_,_,_=>nobE ka
 | n+1,.tup as,b,x,ka,kb,⟨a,xs,h1,h2,h3⟩,hb=>by
  subst h1;cases b with
  | non=>cases (show V.ref a=_ from hb)
  | bl=>cases (show V.ref a=_ from hb)
  | int=>cases (show V.ref a=_ from hb)
  | str=>cases (show V.ref a=_ from hb)
  | tup bs=>
   obtain ⟨a',ys,f1,f2,f3⟩:=hb;cases f1;have e:=zc3 sr h2 f2;subst e;exact qH I hK sr n as bs xs ka kb h3 f3
  | lst bs=>
   obtain ⟨a',ys,f1,f2,f3⟩:=hb;cases f1;exact absurd rfl (zfh sr f2 h2)
  | _=>exact nobE kb
 | 0,.lst as,b,x,ka,_,_,_=>nobE ka
 | n+1,.lst as,b,x,ka,kb,⟨a,xs,h1,h2,h3⟩,hb=>by
  subst h1;cases b with
  | non=>cases (show V.ref a=_ from hb)
  | bl=>cases (show V.ref a=_ from hb)
  | int=>cases (show V.ref a=_ from hb)
  | str=>cases (show V.ref a=_ from hb)
  | tup bs=>
   obtain ⟨a',ys,f1,f2,f3⟩:=hb;cases f1;exact absurd rfl (zfh sr h2 f2)
  | lst bs=>
   obtain ⟨a',ys,f1,f2,f3⟩:=hb;cases f1;have e:=zdj sr h2 f2;subst e;exact qH I hK sr n as bs xs ka kb h3 f3
  | _=>exact nobE kb
 | n,.dK _ _,b,x,ka,_,_,_=>by revert ka;cases n <;> exact nobE
 | n,.dT _ _,b,x,ka,_,_,_=>by revert ka;cases n <;> exact nobE
 | n,.ref _,b,x,ka,_,_,_=>by revert ka;cases n <;> exact nobE
 | n,.fn _,b,x,ka,_,_,_=>by revert ka;cases n <;> exact nobE
 | n,.scr _,b,x,ka,_,_,_=>by revert ka;cases n <;> exact nobE
 | n,.ktp _,b,x,ka,_,_,_=>by revert ka;cases n <;> exact nobE
 | n,.kdc _,b,x,ka,_,_,_=>by revert ka;cases n <;> exact nobE
 | n,.dF _ _,b,x,ka,_,_,_=>by revert ka;cases n <;> exact nobE
 | n,.ins _ _ _,b,x,ka,_,_,_=>by revert ka;cases n <;> exact nobE
 | n,.lam _ _,b,x,ka,_,_,_=>by revert ka;cases n <;> exact nobE
 | n,.tab _,b,x,ka,_,_,_=>by revert ka;cases n <;> exact nobE
theorem qH (I:Inv X pj σ H s) (hK:X.K=Γ.K) (sr:Same g.R H):∀ (n:Nat) (as bs:List D) (xs:List V),okPs n as=true->okPs n bs=true->Hass Γ g as xs->Hass Γ g bs xs->eqPs as bs=true
 | n,[],bs,xs,_,_,ha,hb=>by
  cases (show xs=[] from ha);cases bs with
  | nil=>rfl
  | cons=>obtain ⟨_,_,h,_⟩:=hb;cases h
 | n,a::as,bs,xs,ka,kb,⟨v,r,h1,h2,h3⟩,hb=>by
  subst h1;cases bs with
  | nil=>cases (show _=[] from hb)
  | cons b bs=>
   obtain ⟨v',r',f1,f2,f3⟩:=hb;cases f1;have ka':(okP n a&&okPs n as)=true:=ka;have kb':(okP n b&&okPs n bs)=true:=kb;rw [ε] at ka' kb';show (eqP a b&&eqPs as bs)=true
   rw [Yt I hK sr n a b v ka'.1 kb'.1 h2 f2,qH I hK sr n as bs r ka'.2 kb'.2 h3 f3];rfl
end
theorem jV:∀ (as bs:List D),as.length=bs.length->eqPs as bs=(Ϲ as.length).all fun i=>eqP (as.getD i .non) (bs.getD i .non)
 | [],[],_=>rfl
 | a::as,b::bs,h=>by
  have ih:=jV as bs (by simpa using h);show (eqP a b&&eqPs as bs)=_
  rw [ih,aY,mz,gh,ie];rfl
 | [],_::_,h=>by simp at h
 | _::_,[],h=>by simp at h
theorem jU:∀ (as bs:List D),as.length≠bs.length->eqPs as bs=false
 | [],[],h=>absurd rfl h
 | a::as,b::bs,h=>by
  show (eqP a b&&eqPs as bs)=_
  rw [jU as bs (by simpa using h),aM]
 | [],_::_,h=>rfl
 | _::_,[],h=>rfl
theorem jQ {as bs:List D}{xs ys:List V}{us ws:List δ}{n:Nat}{A:ϙ}(ka:okPs n as=true) (kb:okPs n bs=true) (ha:Hass Γ g as xs) (hb:Hass Γ g bs ys) (ra:Vals xs us) (rb:Vals ys ws)
  (ih:∀ (a b:D) (x y:V) (u v:δ),a∈as->okP n a=true->okP n b=true->Has Γ g a x->Has Γ g b y->RelV x u->RelV y v->EqAt A s u v (eqP a b)):
  ∀ (j:Nat) (h1:j < us.toArray.size) (h2:j < ws.toArray.size),EqAt A s us.toArray[j] ws.toArray[j] (eqP (as.getD j .non) (bs.getD j .non)):=by
 intro j h1 h2;have l1:=ra.length;have l2:=rb.length;have l3:=ha.len;have l4:=hb.len;simp only [ο] at h1 h2;have k1:j < as.length:=by lia
 have k2:j < bs.length:=by lia
 obtain ⟨x,ex,hx⟩:=ha.get (ψ k1);obtain ⟨y,ey,hy⟩:=hb.get (ψ k2);obtain ⟨u,eu,ru⟩:=ra.get ex;obtain ⟨v,ev,rv⟩:=rb.get ey;have e1:us.toArray[j]'(by simpa using h1)=u:=by simpa [ψ h1] using eu
 have e2:ws.toArray[j]'(by simpa using h2)=v:=by simpa [ψ h2] using ev
 have g1:as.getD j .non=as[j]:=by simp [bh,k1]
 have g2:bs.getD j .non=bs[j]:=by simp [bh,k2]
 rw [e1,e2,g1,g2];have all:∀ (l:List D),okPs n l=true->∀ d∈l,okP n d=true:=by
  intro l
  induction l with
  | nil=>intro _ d hd;cases hd
  | cons c l il=>
   intro k d hd;have k':(okP n c&&okPs n l)=true:=k;rw [ε] at k';rcases χ.mp hd with rfl | hd
   ·exact k'.1
   ·exact il k'.2 d hd
 exact ih _ _ x y u v (cB k1) (all as ka _ (cB k1)) (all bs kb _ (cB k2)) hx hy ru rv
theorem isT {a:Addr}{its:Array δ}{h:Heap}(p:gK h a its):h.IsTuple a its:=p
theorem units_in1 (A:ϙ):A.in1.units=A.units+1:=rfl
noncomputable def scD:D->Option V
 | .non=>some .non
 | .bl b=>some (.bl b)
 | .int i=>some (.int i)
 | .str x=>some (.str x)
 | _=>none
theorem wM {d:D}{w x:V}(h:scD d=some w) (hh:Has Γ g d x):x=w:=by
 cases d <;> first | cases h | skip
 all_goals exact hh
theorem jF {d:D}{w:V}(h:scD d=some w):zej w=true:=by
 cases d <;> first | cases h | skip
 all_goals rfl
theorem zb9 {a b:D}{x y:V}(h:scD a=some x) (h':scD b=some y):eqV x y=eqP a b:=by
 cases a <;> first | cases h | skip
 all_goals (cases b <;> first | cases h' | skip)
 all_goals rfl
theorem yq {n:Nat}{d:D}(h:okP n d=true):(∃ w,scD d=some w)\/(∃ m ds,n=m+1/\d=.tup ds/\okPs m ds=true)\/(∃ m ds,n=m+1/\d=.lst ds/\okPs m ds=true):=by
 cases d with
 | non=>exact .inl ⟨_,rfl⟩
 | bl=>exact .inl ⟨_,rfl⟩
 | int=>exact .inl ⟨_,rfl⟩
 | str=>exact .inl ⟨_,rfl⟩
 | tup ds=>cases n with
  | zero=>exact nobE h
  | succ m=>exact .inr (.inl ⟨m,ds,rfl,rfl,h⟩)
 | lst ds=>cases n with
  | zero=>exact nobE h
  | succ m=>exact .inr (.inr ⟨m,ds,rfl,rfl,h⟩)
 | _=>cases n <;> exact nobE h
section
variable {A:ϙ}{l:Addr}{its:Array δ}{w:V}{v:δ}{d:D}
theorem zaO (p:s.heap.IsTuple l its) (hu:A.units < ϵ) (h:scD d=some w) (r:RelV w v):EqAt A s (.ref l) v false:=by
 cases d with
 | non=>cases h;cases (show v=Δ from r);exact EqAt.tuple_none p hu
 | bl b=>cases h;cases (show v=ϕ b from r);exact EqAt.tuple_bool b p hu
 | int i=>cases h;obtain ⟨t,rfl⟩:=(show ∃ t,v=ϒ i t from r);exact EqAt.tuple_int i t p hu
 | str i=>cases h;obtain ⟨t,rfl⟩:=(show ∃ t,v=aQ i t from r);exact EqAt.tuple_str i t p hu
 | _=>cases h
theorem zaP (p:s.heap.IsTuple l its) (hu:A.units < ϵ) (h:scD d=some w) (r:RelV w v):EqAt A s v (.ref l) false:=by
 cases d with
 | non=>cases h;cases (show v=Δ from r);exact EqAt.none_tuple p hu
 | bl b=>cases h;cases (show v=ϕ b from r);exact EqAt.bool_tuple b p hu
 | int i=>cases h;obtain ⟨t,rfl⟩:=(show ∃ t,v=ϒ i t from r);exact EqAt.int_tuple i t p hu
 | str i=>cases h;obtain ⟨t,rfl⟩:=(show ∃ t,v=aQ i t from r);exact EqAt.str_tuple i t p hu
 | _=>cases h
theorem zaR (p:s.heap.IsList l its) (hu:A.units < ϵ) (h:scD d=some w) (r:RelV w v):EqAt A s (.ref l) v false:=by
 cases d with
 | non=>cases h;cases (show v=Δ from r);exact EqAt.list_none p hu
 | bl b=>cases h;cases (show v=ϕ b from r);exact EqAt.list_bool b p hu
 | int i=>cases h;obtain ⟨t,rfl⟩:=(show ∃ t,v=ϒ i t from r);exact EqAt.list_int i t p hu
 | str i=>cases h;obtain ⟨t,rfl⟩:=(show ∃ t,v=aQ i t from r);exact EqAt.list_str i t p hu
 | _=>cases h
theorem zaQ (p:s.heap.IsList l its) (hu:A.units < ϵ) (h:scD d=some w) (r:RelV w v):EqAt A s v (.ref l) false:=by
 cases d with
 | non=>cases h;cases (show v=Δ from r);exact EqAt.none_list p hu
 | bl b=>cases h;cases (show v=ϕ b from r);exact EqAt.bool_list b p hu
 | int i=>cases h;obtain ⟨t,rfl⟩:=(show ∃ t,v=ϒ i t from r);exact EqAt.int_list i t p hu
 | str i=>cases h;obtain ⟨t,rfl⟩:=(show ∃ t,v=aQ i t from r);exact EqAt.str_list i t p hu
 | _=>cases h
end
theorem yw {d:D}{w:V}{bs:List D}(h:scD d=some w):eqP d (.tup bs)=false/\eqP (.tup bs) d=false/\eqP d (.lst bs)=false/\eqP (.lst bs) d=false:=by
 cases d <;> first | cases h | skip
 all_goals exact ⟨rfl,rfl,rfl,rfl⟩
theorem zcd {as bs:List D}{xs ys:List V}{us ws:List δ}(r1:Vals xs us) (r2:Vals ys ws) (h3:Hass Γ g as xs) (f3:Hass Γ g bs ys):
  ((Ϲ (min us.toArray.size ws.toArray.size)).all (fun j=>eqP (as.getD j .non) (bs.getD j .non))&&us.toArray.size==ws.toArray.size)=eqPs as bs:=by
 have l1:=r1.length;have l2:=r2.length;have l3:=h3.len;have l4:=f3.len;simp only [ο];by_cases hl:as.length=bs.length
 ·rw [jV as bs hl];have m1:us.length=as.length:=by lia
  have m2:ws.length=as.length:=by lia
  rw [m1,m2];simp
 ·rw [jU as bs hl];have:¬ us.length=ws.length:=by lia
  simp [this]
theorem zce {as bs:List D}{xs ys:List V}{us ws:List δ}{a b:Addr}{n:Nat}{A:ϙ}(ka:okPs n as=true) (kb:okPs n bs=true) (p1:PlainL s.heap a us.toArray) (p2:PlainL s.heap b ws.toArray) (r1:Vals xs us) (r2:Vals ys ws)
  (h3:Hass Γ g as xs) (f3:Hass Γ g bs ys) (hu:A.units < ϵ) (ih:∀ (a b:D) (x y:V) (u v:δ),a∈as->okP n a=true->okP n b=true->Has Γ g a x->Has Γ g b y->RelV x u->RelV y v->EqAt A.in1 s u v (eqP a b)):
  RcAt A s (.ref a) (.ref b) (eqPs as bs):=by
 have l1:=r1.length;have l2:=r2.length;have l3:=h3.len;have l4:=f3.len;by_cases hl:as.length=bs.length
 ·have k:=RcAt.lists p1.isList p2.isList (by simp only [ο];lia) hu (jQ (A:=A.in1) ka kb h3 f3 r1 r2 ih);have m1:us.toArray.size=as.length:=by simp only [ο];lia
  rw [m1,<- jV as bs hl] at k;exact k
 ·rw [jU as bs hl];exact RcAt.lists_lengths (A:=A) p1.isList p2.isList (by simp only [ο,bne_iff_ne];lia) hu
theorem Yu (I:Inv X pj σ H s) (hK:X.K=Γ.K) (sr:Same g.R H):∀ (n:Nat) (a b:D) (x y:V) (u v:δ) (A:ϙ),A.units+n+1 < ϵ->okP n a=true->okP n b=true->Has Γ g a x->Has Γ g b y->RelV x u->RelV y v->EqAt A s u v (eqP a b):=by
 intro n
 induction n with
 | zero=>
  intro a b x y u v A hu ka kb ha hb ru rv;rcases yq ka with ⟨w,hw⟩ | ⟨m,ds,e,_⟩ | ⟨m,ds,e,_⟩
  ·rcases yq kb with ⟨w',hw'⟩ | ⟨m,ds,e,_⟩ | ⟨m,ds,e,_⟩
   ·rw [wM hw ha] at ru;rw [wM hw' hb] at rv;rw [<- zb9 hw hw'];exact zcI ru rv (jF hw) (jF hw')
   ·cases e
   ·cases e
  ·cases e
  ·cases e
 | succ n ih=>
  intro a b x y u v A hu ka kb ha hb ru rv;have hu':A.units < ϵ:=by lia
  have hin:A.in1.units+n+1 < ϵ:=by rw [units_in1];lia
  rcases yq ka with ⟨w,hw⟩ | ⟨m,as,e,e1,kas⟩ | ⟨m,as,e,e1,kas⟩
  ·rcases yq kb with ⟨w',hw'⟩ | ⟨m,bs,e,e2,kbs⟩ | ⟨m,bs,e,e2,kbs⟩
   ·rw [wM hw ha] at ru;rw [wM hw' hb] at rv;rw [<- zb9 hw hw'];exact zcI ru rv (jF hw) (jF hw')
   ·subst e2;rw [wM hw ha] at ru;obtain ⟨b,ys,rfl,f2,f3⟩:=hb;cases rv;obtain ⟨ws,r2,p2,_⟩:=I.tuple (SqT.of (sr _ _ f2));rw [(yw hw).1];exact zaP (isT p2) hu' hw ru
   ·subst e2;rw [wM hw ha] at ru;obtain ⟨b,ys,rfl,f2,f3⟩:=hb;cases rv;obtain ⟨ws,r2,p2,_⟩:=I.list (SqL.of (sr _ _ f2));rw [(yw hw).2.2.1];exact zaQ p2.isList hu' hw ru
  ·subst e1;cases e;obtain ⟨a,xs,rfl,h2,h3⟩:=ha;cases ru;obtain ⟨us,r1,p1,_⟩:=I.tuple (SqT.of (sr _ _ h2));rcases yq kb with ⟨w',hw'⟩ | ⟨m,bs,e,e2,kbs⟩ | ⟨m,bs,e,e2,kbs⟩
   ·rw [wM hw' hb] at rv;rw [(yw hw').2.1];exact zaO (isT p1) hu' hw' rv
   ·subst e2;cases e;obtain ⟨b,ys,rfl,f2,f3⟩:=hb;cases rv;by_cases e:a=b
    ·subst e;have:=Yt I hK sr (n+1) (.tup as) (.tup bs) (.ref a) ka kb ⟨a,xs,rfl,h2,h3⟩ ⟨a,ys,rfl,f2,f3⟩;rw [this];exact EqAt.same _
    ·obtain ⟨ws,r2,p2,_⟩:=I.tuple (SqT.of (sr _ _ f2));have k:=RcAt.tuples (isT p1) (isT p2) hu' (jQ (A:=A.in1) kas kbs h3 f3 r1 r2 fun a b x y u v _ ka kb ha hb ru rv=>ih a b x y u v A.in1 hin ka kb ha hb ru rv);rw [zcd r1 r2 h3 f3] at k;exact EqAt.of_refs e k
   ·subst e2;cases e;obtain ⟨b,ys,rfl,f2,f3⟩:=hb;cases rv;obtain ⟨ws,r2,p2,_⟩:=I.list (SqL.of (sr _ _ f2));exact EqAt.tuple_list (isT p1) p2.isList hu'
  ·subst e1;cases e;obtain ⟨a,xs,rfl,h2,h3⟩:=ha;cases ru;obtain ⟨us,r1,p1,_⟩:=I.list (SqL.of (sr _ _ h2));rcases yq kb with ⟨w',hw'⟩ | ⟨m,bs,e,e2,kbs⟩ | ⟨m,bs,e,e2,kbs⟩
   ·rw [wM hw' hb] at rv;rw [(yw hw').2.2.2];exact zaR p1.isList hu' hw' rv
   ·subst e2;cases e;obtain ⟨b,ys,rfl,f2,f3⟩:=hb;cases rv;obtain ⟨ws,r2,p2,_⟩:=I.tuple (SqT.of (sr _ _ f2));exact EqAt.list_tuple p1.isList (isT p2) hu'
   ·subst e2;cases e;obtain ⟨b,ys,rfl,f2,f3⟩:=hb;cases rv;by_cases e:a=b
    ·subst e;have:=Yt I hK sr (n+1) (.lst as) (.lst bs) (.ref a) ka kb ⟨a,xs,rfl,h2,h3⟩ ⟨a,ys,rfl,f2,f3⟩;rw [this];exact EqAt.same _
    ·obtain ⟨ws,r2,p2,_⟩:=I.list (SqL.of (sr _ _ f2));exact EqAt.of_refs e (zce kas kbs p1 p2 r1 r2 h3 f3 hu' fun a b x y u v _ ka kb ha hb ru rv=>ih a b x y u v A.in1 hin ka kb ha hb ru rv)
end
section
variable {X:Cx}{pj:List (Addr×Obj)}{σ:L2.St}{H:Hp}{s:ς}{Γ:Gm}{g:G}
section
variable {A:ϙ}{l:Addr}{its:Array δ}{w:V}{v:δ}{d:D}
theorem Xc (p:s.heap.IsTuple l its) (hu:A.units < ϵ) (h:scD d=some w) (r:RelV w v):RcAt A s (.ref l) v false/\RcAt A s v (.ref l) false/\Ϧ A s (.ref l) v true/\Ϧ A s v (.ref l) true:=by
 cases d with
 | non=>cases h;cases (show v=Δ from r);exact ⟨RcAt.tuple_none p hu,RcAt.none_tuple p hu,Ϧ.tuple_none p hu,Ϧ.none_tuple p hu⟩
 | bl b=>cases h;cases (show v=ϕ b from r);exact ⟨RcAt.tuple_bool b p hu,RcAt.bool_tuple b p hu,Ϧ.tuple_bool b p hu,Ϧ.bool_tuple b p hu⟩
 | int i=>cases h;obtain ⟨t,rfl⟩:=(show ∃ t,v=ϒ i t from r);exact ⟨RcAt.tuple_int i t p hu,RcAt.int_tuple i t p hu,Ϧ.tuple_int i t p hu,Ϧ.int_tuple i t p hu⟩
 | str i=>cases h;obtain ⟨t,rfl⟩:=(show ∃ t,v=aQ i t from r);exact ⟨RcAt.tuple_str i t p hu,RcAt.str_tuple i t p hu,Ϧ.tuple_str i t p hu,Ϧ.str_tuple i t p hu⟩
 | _=>cases h
theorem Xd (p:s.heap.IsList l its) (hu:A.units < ϵ) (h:scD d=some w) (r:RelV w v):RcAt A s (.ref l) v false/\RcAt A s v (.ref l) false/\Ϧ A s (.ref l) v true/\Ϧ A s v (.ref l) true:=by
 cases d with
 | non=>cases h;cases (show v=Δ from r);exact ⟨RcAt.list_none p hu,RcAt.none_list p hu,Ϧ.list_none p hu,Ϧ.none_list p hu⟩
 | bl b=>cases h;cases (show v=ϕ b from r);exact ⟨RcAt.list_bool b p hu,RcAt.bool_list b p hu,Ϧ.list_bool b p hu,Ϧ.bool_list b p hu⟩
 | int i=>cases h;obtain ⟨t,rfl⟩:=(show ∃ t,v=ϒ i t from r);exact ⟨RcAt.list_int i t p hu,RcAt.int_list i t p hu,Ϧ.list_int i t p hu,Ϧ.int_list i t p hu⟩
 | str i=>cases h;obtain ⟨t,rfl⟩:=(show ∃ t,v=aQ i t from r);exact ⟨RcAt.list_str i t p hu,RcAt.str_list i t p hu,Ϧ.list_str i t p hu,Ϧ.str_list i t p hu⟩
 | _=>cases h
theorem zbb {a b:D}{x y:V}{u v:δ}(h:scD a=some x) (h':scD b=some y) (r:RelV x u) (r':RelV y v):RcAt A s u v (eqP a b)/\Ϧ A s u v (!eqP a b):=by
 cases a with
 | non=>
  cases h;cases (show u=Δ from r);cases b with
  | non=>cases h';cases (show v=Δ from r');exact ⟨RcAt.none_none,Ϧ.none_none⟩
  | bl b=>cases h';cases (show v=ϕ b from r');exact ⟨RcAt.none_bool _,Ϧ.none_bool _⟩
  | int b=>cases h';obtain ⟨t,rfl⟩:=(show ∃ t,v=ϒ b t from r');exact ⟨RcAt.none_int _ _,Ϧ.none_int _ _⟩
  | str b=>cases h';obtain ⟨t,rfl⟩:=(show ∃ t,v=aQ b t from r');exact ⟨RcAt.none_str _ _,Ϧ.none_str _ _⟩
  | _=>cases h'
 | bl a=>
  cases h;cases (show u=ϕ a from r);cases b with
  | non=>cases h';cases (show v=Δ from r');exact ⟨RcAt.bool_none _,Ϧ.bool_none _⟩
  | bl b=>cases h';cases (show v=ϕ b from r');exact ⟨RcAt.bool_bool _ _,Ϧ.bool_bool _ _⟩
  | int b=>cases h';obtain ⟨t,rfl⟩:=(show ∃ t,v=ϒ b t from r');exact ⟨RcAt.bool_int _ _ _,Ϧ.bool_int _ _ _⟩
  | str b=>cases h';obtain ⟨t,rfl⟩:=(show ∃ t,v=aQ b t from r');exact ⟨RcAt.bool_str _ _ _,Ϧ.bool_str _ _ _⟩
  | _=>cases h'
 | int a=>
  cases h;obtain ⟨t',rfl⟩:=(show ∃ t,u=ϒ a t from r)
  cases b with
  | non=>cases h';cases (show v=Δ from r');exact ⟨RcAt.int_none _ _,Ϧ.int_none _ _⟩
  | bl b=>cases h';cases (show v=ϕ b from r');exact ⟨RcAt.int_bool _ _ _,Ϧ.int_bool _ _ _⟩
  | int b=>cases h';obtain ⟨t,rfl⟩:=(show ∃ t,v=ϒ b t from r');exact ⟨RcAt.int_int _ _ _ _,Ϧ.int_int _ _ _ _⟩
  | str b=>cases h';obtain ⟨t,rfl⟩:=(show ∃ t,v=aQ b t from r');exact ⟨RcAt.int_str _ _ _ _,Ϧ.int_str _ _ _ _⟩
  | _=>cases h'
 | str a=>
  cases h;obtain ⟨t',rfl⟩:=(show ∃ t,u=aQ a t from r)
  cases b with
  | non=>cases h';cases (show v=Δ from r');exact ⟨RcAt.str_none _ _,Ϧ.str_none _ _⟩
  | bl b=>cases h';cases (show v=ϕ b from r');exact ⟨RcAt.str_bool _ _ _,Ϧ.str_bool _ _ _⟩
  | int b=>cases h';obtain ⟨t,rfl⟩:=(show ∃ t,v=ϒ b t from r');exact ⟨RcAt.str_int _ _ _ _,Ϧ.str_int _ _ _ _⟩
  | str b=>cases h';obtain ⟨t,rfl⟩:=(show ∃ t,v=aQ b t from r');exact ⟨RcAt.str_str _ _ _ _,Ϧ.str_str _ _ _ _⟩
  | _=>cases h'
 | _=>cases h
end
theorem uU {d:D}{w x:V}(h:scD d=some w) (hh:Rdb Γ H g d x):x=w:=by
 cases d <;> first | cases h | skip
 all_goals exact hh
theorem rc_D (I:Inv X pj σ H s) (hK:X.K=Γ.K) (sr:Same g.R H) (n:Nat) (a b:D) (x y:V) (u v:δ) (A:ϙ) (hu:A.units+n+1 < ϵ) (ka:okP n a=true) (kb:okP n b=true) (ha:Rdb Γ H g a x) (hb:Rdb Γ H g b y) (ru:RelV x u) (rv:RelV y v):
  RcAt A s u v (eqP a b)/\Ϧ A s u v (!eqP a b):=by
 have hu':A.units < ϵ:=by lia
 rcases yq ka with ⟨w,hw⟩ | ⟨m,as,e,e1,kas⟩ | ⟨m,as,e,e1,kas⟩
 ·rcases yq kb with ⟨w',hw'⟩ | ⟨m,bs,e,e2,kbs⟩ | ⟨m,bs,e,e2,kbs⟩
  ·rw [uU hw ha] at ru;rw [uU hw' hb] at rv;exact zbb hw hw' ru rv
  ·subst e2;rw [uU hw ha] at ru;obtain ⟨b,ys,rfl,f2,f3⟩:=hb;cases rv;obtain ⟨ws,r2,p2,_⟩:=I.tuple (SqT.of (sr _ _ f2));rw [(yw hw).1];have k:=Xc (A:=A) (isT p2) hu' hw ru;exact ⟨k.2.1,k.2.2.2⟩
  ·subst e2;rw [uU hw ha] at ru;obtain ⟨b,ys,rfl,f2,f3⟩:=hb;cases rv;obtain ⟨ws,r2,p2,_⟩:=I.list (SqL.of f2);rw [(yw hw).2.2.1];have k:=Xd (A:=A) p2.isList hu' hw ru;exact ⟨k.2.1,k.2.2.2⟩
 ·subst e1;cases e;have hin:A.in1.units+m+1 < ϵ:=by rw [units_in1];lia
  obtain ⟨a,xs,rfl,h2,h3⟩:=ha;cases ru;obtain ⟨us,r1,p1,_⟩:=I.tuple (SqT.of (sr _ _ h2));rcases yq kb with ⟨w',hw'⟩ | ⟨m',bs,e,e2,kbs⟩ | ⟨m',bs,e,e2,kbs⟩
  ·rw [uU hw' hb] at rv;rw [(yw hw').2.1];have k:=Xc (A:=A) (isT p1) hu' hw' rv;exact ⟨k.1,k.2.2.1⟩
  ·subst e2;cases e;obtain ⟨b,ys,rfl,f2,f3⟩:=hb;cases rv;obtain ⟨ws,r2,p2,_⟩:=I.tuple (SqT.of (sr _ _ f2));have it:=jQ (A:=A.in1) kas kbs h3 f3 r1 r2 fun a b x y u v _ ka kb ha hb ru rv=>Yu I hK sr m a b x y u v A.in1 hin ka kb ha hb ru rv
   have k1:=RcAt.tuples (isT p1) (isT p2) hu' it;have k2:=Ϧ.tuples (isT p1) (isT p2) hu' it;rw [zcd r1 r2 h3 f3] at k1 k2;exact ⟨k1,k2⟩
  ·subst e2;cases e;obtain ⟨b,ys,rfl,f2,f3⟩:=hb;cases rv;obtain ⟨ws,r2,p2,_⟩:=I.list (SqL.of f2);exact ⟨RcAt.tuple_list (isT p1) p2.isList hu',Ϧ.tuple_list (isT p1) p2.isList hu'⟩
 ·subst e1;cases e;have hin:A.in1.units+m+1 < ϵ:=by rw [units_in1];lia
  obtain ⟨a,xs,rfl,h2,h3⟩:=ha;cases ru;obtain ⟨us,r1,p1,_⟩:=I.list (SqL.of h2);rcases yq kb with ⟨w',hw'⟩ | ⟨m',bs,e,e2,kbs⟩ | ⟨m',bs,e,e2,kbs⟩
  ·rw [uU hw' hb] at rv;rw [(yw hw').2.2.2];have k:=Xd (A:=A) p1.isList hu' hw' rv;exact ⟨k.1,k.2.2.1⟩
  ·subst e2;cases e;obtain ⟨b,ys,rfl,f2,f3⟩:=hb;cases rv;obtain ⟨ws,r2,p2,_⟩:=I.tuple (SqT.of (sr _ _ f2));exact ⟨RcAt.list_tuple p1.isList (isT p2) hu',Ϧ.list_tuple p1.isList (isT p2) hu'⟩
  ·subst e2;cases e;obtain ⟨b,ys,rfl,f2,f3⟩:=hb;cases rv;obtain ⟨ws,r2,p2,_⟩:=I.list (SqL.of f2);have ih:∀ (a b:D) (x y:V) (u v:δ),a∈as->okP m a=true->okP m b=true->Has Γ g a x->Has Γ g b y->RelV x u->RelV y v->EqAt A.in1 s u v (eqP a b):=fun a b x y u v _ ka kb ha hb ru rv=>Yu I hK sr m a b x y u v A.in1 hin ka kb ha hb ru rv
   refine ⟨zce kas kbs p1 p2 r1 r2 h3 f3 hu' ih,?_⟩;have l1:=r1.length;have l2:=r2.length;have l3:=h3.len;have l4:=f3.len;show Ϧ A s _ _ (!eqPs as bs)
   by_cases hl:as.length=bs.length
   ·have k:=Ϧ.lists p1.isList p2.isList (by simp only [ο];lia) hu' (jQ (A:=A.in1) kas kbs h3 f3 r1 r2 ih);have m1:us.toArray.size=as.length:=by simp only [ο];lia
    rw [m1,<- jV as bs hl] at k;exact k
   ·rw [jU as bs hl];exact Ϧ.lists_lengths (A:=A) p1.isList p2.isList (by simp only [ο,bne_iff_ne];lia) hu'
end
def rDat (Γ:Gm) (a b:D) (z:D):R2:=fun x y H Q=>∃ g,Same g.R H/\Rdb Γ H g a x/\Rdb Γ H g b y/\∀ v,(∀ g,Has Γ g z v)->Q v H
theorem Us {Γ:Gm}{a b:D}{c:Bool}:RDo Γ (rDat Γ a b (.bl c)) a b (.bl c) false:=fun S H g x y Q w hx hy q=>⟨g,w.rh,hx,hy,fun v hv=>zg w q (hv g)⟩
section
variable {X:Cx}{Γ:Gm}
theorem zgx (hK:X.K=Γ.K) (hu:X.A.units+61 < ϵ) {a b:D}(ka:okP 60 a=true) (kb:okP 60 b=true):OpR X (ϋ .Eq) (rDat Γ a b (.bl (eqP a b))):=by intro pj s σ H x y v u Q I rx ry ⟨g,sr,ha,hb,q⟩;exact (rc_D I hK sr 60 a b x y v u X.A hu ka kb ha hb rx ry).1 X.prog X.w X.xe _ ⟨.bl _,H,I,rfl,q _ fun _=>rfl⟩
theorem zgr (hK:X.K=Γ.K) (hu:X.A.units+61 < ϵ) {a b:D}(ka:okP 60 a=true) (kb:okP 60 b=true):OpR X (ϋ .NotEq) (rDat Γ a b (.bl (!eqP a b))):=by intro pj s σ H x y v u Q I rx ry ⟨g,sr,ha,hb,q⟩;exact (rc_D I hK sr 60 a b x y v u X.A hu ka kb ha hb rx ry).2 X.prog X.w X.xe _ ⟨.bl _,H,I,rfl,q _ fun _=>rfl⟩
end
section
variable {Γ:Gm}{H:Hp}{g:G}
theorem Zy {d:D}{x:V}(h:Rdb Γ H g d x):decide (x=.non)=isNone d:=by
 cases d with
 | non=>cases (show x=.non from h);rfl
 | bl=>cases (show x=.bl _ from h);rfl
 | int=>cases (show x=.int _ from h);rfl
 | str=>cases (show x=.str _ from h);rfl
 | tup=>obtain ⟨_,_,rfl,_⟩:=h;rfl
 | lst=>obtain ⟨_,_,rfl,_⟩:=h;rfl
 | dK=>obtain ⟨_,_,rfl,_⟩:=h;rfl
 | dT=>obtain ⟨_,_,rfl,_⟩:=h;rfl
 | ref=>obtain ⟨_,rfl⟩:=h;rfl
 | fn=>obtain ⟨_,_,rfl⟩:=h;rfl
 | scr=>obtain ⟨_,rfl,_⟩:=h;rfl
 | ktp=>obtain ⟨_,_,rfl,_⟩:=h;rfl
 | kdc=>obtain ⟨_,rfl,_⟩:=h;rfl
 | dF=>obtain ⟨_,_,_,rfl,_⟩:=h;rfl
 | ins=>obtain ⟨_,rfl⟩:=h;rfl
 | lam=>obtain ⟨_,_,_,_,_,_,_,_,_,_,_,rfl,_⟩:=h;rfl
 | tab=>obtain ⟨_,rfl⟩:=h;rfl
theorem jL {κ:Type} [DecidableEq κ] (k:κ):∀ {ks:List κ}{ds:List D}{vs:List V},ks.length=ds.length->Hass Γ g ds vs ->
  (∀ d,yg ks ds k=some d->∃ v,valV (ks.zip vs) k=some v/\Has Γ g d v)/\(yg ks ds k=none->valV (ks.zip vs) k=none)
 | [],[],vs,_,h=>by
  refine ⟨fun d e=>?_,fun _=>?_⟩
  ·simp [yg,jz] at e
  ·rfl
 | k'::ks,d'::ds,vs,hl,⟨v,r,e1,hv,hr⟩=>by
  subst e1;have ih:=jL k (ks:=ks) (ds:=ds) (vs:=r) (by simpa using hl) hr;show (∀ d,yg (k'::ks) (d'::ds) k=some d->∃ v',valV ((k',v)::ks.zip r) k=some v'/\_)/\(_->valV ((k',v)::ks.zip r) k=none)
  by_cases e:k'=k
  ·have e2:yg (k'::ks) (d'::ds) k=some d':=by simp [yg,jz,e]
   rw [e2,uh (p:=(k',v)) e];exact ⟨fun d h=>⟨v,rfl,by cases h;exact hv⟩,fun h=>by cases h⟩
  ·have e2:yg (k'::ks) (d'::ds) k=yg ks ds k:=by simp only [yg,jz,if_neg e];cases jz ks k <;> rfl
   rw [e2,ul (p:=(k',v)) e];exact ih
 | [],_::_,_,hl,_=>by simp at hl
 | _::_,[],_,hl,_=>by simp at hl
theorem zea {d:D}{k:Key}{x:V}(h:keyD d=some k) (hh:Rdb Γ H g d x):x=kV k:=by
 cases d <;> first | cases h | skip
 all_goals exact hh
theorem U5 {d:D}{k:Key}{x:V}(h:keyD d=some k) (hh:Has Γ g d x):x=kV k:=by
 cases d <;> first | cases h | skip
 all_goals exact hh
set_option tactic.hygienic true in
theorem jP:∀ {l:List D}{ks:List Key}{xs:List V},Ye l=some ks->Hass Γ g l xs->xs=ks.map kV
 | [],ks,xs,h,hh=>by cases (show some []=some ks from h);exact hh
 | d::l,ks,xs,h,⟨v,r,e,hv,hr⟩=>by
  subst e;simp only [Ye] at h;split at h
  ·rename_i k ks' e1 e2
   cases h;rw [U5 e1 hv,jP e2 hr];rfl
  ·cases h
theorem Wd {S:Store}{c k:D}{o:Option D}{x y:V}(w:WOk Γ H g S) (h:wX c k=some o) (hc:Rdb Γ H g c x) (hk:Rdb Γ H g k y):
  ∃ a v,x=.ref a/\DGet H a y v/\IsD H a/\(∀ d,o=some d->∃ u,v=some u/\Has Γ g d u)/\(o=none->v=none):=by
 cases c with
 | dK ks ds=>
  obtain ⟨a,vs,rfl,h1,h2,h3⟩:=hc;simp only [wX,Α] at h;obtain ⟨k',e1,e2⟩:=h;obtain ⟨z1,z2⟩:=jL k' h2 h3;refine ⟨a,valV (ks.zip vs) k',rfl,.inl ⟨_,k',.inl h1,zea e1 hk,rfl⟩,.inl ⟨_,.inl h1⟩,fun d e=>?_,fun e=>?_⟩
  ·exact z1 d (e2.trans e)
  ·exact z2 (e2.trans e)
 | dT ks ds=>
  obtain ⟨a,vs,rfl,h1,h2,h3⟩:=hc;cases k with
  | tup t=>
   obtain ⟨b,ys,rfl,f1,f2⟩:=hk;simp only [wX,Α] at h;obtain ⟨k',e1,e2⟩:=h;obtain ⟨z1,z2⟩:=jL k' h2 h3;have ey:=jP e1 f2;refine ⟨a,valV (ks.zip vs) k',rfl,.inr ⟨_,k',b,.inl h1,rfl,by rw [<- ey];exact w.rh _ _ f1,rfl⟩,.inr ⟨_,.inl h1⟩,fun d e=>?_,fun e=>?_⟩
   ·exact z1 d (e2.trans e)
   ·exact z2 (e2.trans e)
  | _=>cases h
 | dF ks ds=>
  obtain ⟨a,vs,o,rfl,h1,h2,h3⟩:=hc;cases k with
  | tup t=>
   obtain ⟨b,ys,rfl,f1,f2⟩:=hk;simp only [wX,Α] at h;obtain ⟨k',e1,e2⟩:=h;obtain ⟨z1,z2⟩:=jL k' h2 h3;have ey:=jP e1 f2;refine ⟨a,valV (ks.zip vs) k',rfl,.inr ⟨_,k',b,.inr ⟨o,h1⟩,rfl,by rw [<- ey];exact w.rh _ _ f1,rfl⟩,.inr ⟨_,.inr ⟨o,h1⟩⟩,fun d e=>?_,fun e=>?_⟩
   ·exact z1 d (e2.trans e)
   ·exact z2 (e2.trans e)
  | _=>cases h
 | _=>cases h
end
section
variable {X:Cx}{Γ:Gm}
def rInD (neg:Bool):R2:=fun x y H Q=>∃ a o,y=.ref a/\DGet H a x o/\Q (.bl (if neg then !o.isSome else o.isSome)) H
theorem zgw (hu:X.A.units+1 < ϵ):OpR X (ϋ .In) (rInD false):=by intro pj s σ H x y v u Q I rx ry ⟨a,o,e,h,q⟩;subst e;cases ry;exact d_in hu I h rx fun s' I'=>⟨.bl o.isSome,H,I',rfl,q⟩
theorem Qx (hu:X.A.units+1 < ϵ):OpR X (ϋ .NotIn) (rInD true):=by intro pj s σ H x y v u Q I rx ry ⟨a,o,e,h,q⟩;subst e;cases ry;exact zez hu I h rx fun s' I'=>⟨.bl (!o.isSome),H,I',rfl,q⟩
theorem zft {H:Hp}{g:G}{S:Store}{d:D}{l:List D}{x:V}(hK:X.K=Γ.K) (w:WOk Γ H g S) (h:seqD d=some l) (hd:Rdb Γ H g d x):∃ a xs,x=.ref a/\(SqL X.K H a xs\/SqT X.K H a xs)/\Hass Γ g l xs:=by
 cases d with
 | tup ds=>cases h;obtain ⟨a,vs,e,h1,h2⟩:=hd;exact ⟨a,vs,e,.inr (SqT.of (w.rh _ _ h1)),h2⟩
 | lst ds=>cases h;obtain ⟨a,vs,e,h1,h2⟩:=hd;exact ⟨a,vs,e,.inl (SqL.of h1),h2⟩
 | scr ns=>cases h;obtain ⟨a,e,h1⟩:=hd;exact ⟨a,_,e,.inl (by rw [hK];exact h1),Hass.ints⟩
 | ktp ds=>cases h;obtain ⟨a,vs,e,h1,h2⟩:=hd;exact ⟨a,vs,e,.inr (by rw [hK];exact .inr h1),h2⟩
 | _=>cases h
theorem zhp {H:Hp}{g:G}{a:D}{x:V}(h:isSc a=true) (hx:Rdb Γ H g a x):Has Γ g a x:=by
 cases a with
 | non | bl _ | int _ | str _ | tup _=>exact hx
 | _=>cases (show false=true from h)
theorem zfB {a:D}(h:isSc a=true):okP 59 a=true:=by
 cases a with
 | lst _=>cases (show false=true from h)
 | _=>exact h
noncomputable def memE (Γ:Gm) (g:G) (l:List D) (a:D) (w:δ):Bool:=@decide (∃ d∈l,∃ y,Has Γ g d y/\RelV y w/\eqP d a=true) (dN _)
theorem jJ {g:G}{l:List D}{a:D}{w:δ}:memE Γ g l a w=true ↔ ∃ d∈l,∃ y,Has Γ g d y/\RelV y w/\eqP d a=true:=⟨@of_decide_eq_true _ (dN _),@decide_eq_true _ (dN _)⟩
theorem zco {g:G}:∀ {l:List D}{xs:List V}{us:List δ},Hass Γ g l xs->Vals xs us->∀ d∈l,∃ y w,w∈us/\Has Γ g d y/\RelV y w
 | [],_,_,_,_,d,hd=>by cases hd
 | c::l,_,_,⟨v,r,rfl,hc,hr⟩,.cons q t,d,hd=>by
  rcases χ.mp hd with rfl | hd
  ·exact ⟨v,_,θ,hc,q⟩
  ·obtain ⟨y,w,h1,h2⟩:=zco hr t d hd;exact ⟨y,w,ι _ h1,h2⟩
theorem Vm {g:G}:∀ {l:List D}{xs:List V}{us:List δ},Hass Γ g l xs->Vals xs us->∀ w∈us,∃ d∈l,∃ y,Has Γ g d y/\RelV y w
 | [],_,_,h,t,w,hw=>by cases (show _=[] from h);cases t;cases hw
 | c::l,_,_,⟨v,r,rfl,hc,hr⟩,.cons q t,w,hw=>by
  rcases χ.mp hw with rfl | hw
  ·exact ⟨c,θ,v,hc,q⟩
  ·obtain ⟨d,h1,h2⟩:=Vm hr t w hw;exact ⟨d,ι _ h1,h2⟩
theorem jK {g:G}{l:List D}{a:D}{xs:List V}{us:List δ}(h:Hass Γ g l xs) (t:Vals xs us):us.toArray.any (memE Γ g l a)=l.any fun d=>eqP d a:=by
 rw [show us.toArray.any (memE Γ g l a)=us.any (memE Γ g l a) by simp,Bool.eq_iff_iff,cC,cC];constructor
 ·rintro ⟨w,_,e⟩;obtain ⟨d,hd,_,_,_,q⟩:=jJ.mp e;exact ⟨d,hd,q⟩
 ·rintro ⟨d,hd,q⟩;obtain ⟨y,w,h1,h2,h3⟩:=zco h t d hd;exact ⟨w,h1,jJ.mpr ⟨d,hd,y,h2,h3,q⟩⟩
theorem Z9 {pj:List (Addr×Obj)}{σ:L2.St}{H:Hp}{s:ς}{g:G}{l:List D}{a:D}{x:V}{v:δ}{xs:List V}{us:List δ}(I:Inv X pj σ H s) (hK:X.K=Γ.K) (sr:Same g.R H) (hu:X.A.units+61 < ϵ) (ka:isSc a=true) (kl:l.all isSc=true) (hx:Rdb Γ H g a x) (rx:RelV x v) (h:Hass Γ g l xs) (t:Vals xs us) (w:δ) (hw:w∈us.toArray):cO X.A.in1 s w v (memE Γ g l a w):=by
 have go:∀ d∈l,∀ y,Has Γ g d y->RelV y w->cO X.A.in1 s w v (eqP d a):=fun d hd y h1 h2=>Yu I hK sr 59 d a y x w v _ (by rw [units_in1];omega) (zfB (ak.mp kl d hd)) (zfB ka) h1 (zhp ka hx) h2 rx
 cases e:memE Γ g l a w with
 | true=>
  obtain ⟨d,hd,y,h1,h2,q⟩:=jJ.mp e;rw [<- q];exact go d hd y h1 h2
 | false=>
  obtain ⟨d,hd,y,h1,h2⟩:=Vm h t w (by simpa using hw);have q:eqP d a=false:=nG.mpr fun q=>nG.mp e (jJ.mpr ⟨d,hd,y,h1,h2,q⟩)
  rw [<- q];exact go d hd y h1 h2
theorem UW {pj:List (Addr×Obj)}{σ:L2.St}{H:Hp}{s:ς}{g:G}{l m:List D}{x:V}{v:δ}(I:Inv X pj σ H s) (hu:X.A.units+61 < ϵ) (kl:l.all isStr=true) (hx:Rdb Γ H g (.lst m) x) (rx:RelV x v):∀ {xs:List V}{us:List δ},Hass Γ g l xs->Vals xs us->∀ w∈us.toArray,cO X.A.in1 s w v ((fun _=>false) w):=by
 intro xs us h t w hw;obtain ⟨d,hd,y,h1,h2⟩:=Vm h t w (by simpa using hw);have hs:=ak.mp kl d hd;obtain ⟨p,ys,rfl,hp,_⟩:=hx;cases rx;obtain ⟨its,r,pl,hz⟩:=I.list (SqL.of hp);cases d with
 | str z=>
  cases (show y=.str z from h1);obtain ⟨t,rfl⟩:=h2;exact cO.str_list z t pl.isList (by rw [units_in1];omega)
 | _=>cases hs
theorem zeg {l m:List D}{b:D}(hK:X.K=Γ.K) (hu:X.A.units+61 < ϵ) (hs:seqD b=some l) (kl:l.all isStr=true):(∃ r,OpR X (ϋ .In) r/\RDo Γ r (.lst m) b (.bl false) false)/\∃ r,OpR X (ϋ .NotIn) r/\RDo Γ r (.lst m) b (.bl true) false:=by
 refine ⟨⟨fun x y H Q=>∃ g S,WOk Γ H g S/\Rdb Γ H g (.lst m) x/\Rdb Γ H g b y/\∀ v,(∀ g,Has Γ g (.bl false) v)->Q v H,?_,fun S H g x y Q w hx hy q=>⟨g,S,w,hx,hy,fun v hv=>zg w q (hv g)⟩⟩,fun x y H Q=>∃ g S,WOk Γ H g S/\Rdb Γ H g (.lst m) x/\Rdb Γ H g b y/\∀ v,(∀ g,Has Γ g (.bl true) v)->Q v H,?_,fun S H g x y Q w hx hy q=>⟨g,S,w,hx,hy,fun v hv=>zg w q (hv g)⟩⟩
 all_goals
  intro pj s σ H x y v u Q I rx ry ⟨g,S,w,hx,hy,q⟩;obtain ⟨p,xs,e,hq,hh⟩:=zft hK w hs hy;subst e;cases ry;have no:∀ us:List δ,us.toArray.any (fun _=>false)=false:=fun us=>by simp
  rcases hq with hq | hq
 ·obtain ⟨its,r,pl,hz⟩:=I.list hq;refine iT (fun _=>false) pl.isList (UW I hu kl hx rx hh r) ⟨.bl _,H,I,rfl,?_⟩;rw [no];exact q _ fun _=>rfl
 ·obtain ⟨its,r,pl,hz⟩:=I.tuple hq;refine iJ (fun _=>false) pl (UW I hu kl hx rx hh r) ⟨.bl _,H,I,rfl,?_⟩;rw [no];exact q _ fun _=>rfl
 ·obtain ⟨its,r,pl,hz⟩:=I.list hq;refine ir (fun _=>false) pl.isList (UW I hu kl hx rx hh r) ⟨.bl _,H,I,rfl,?_⟩;rw [no];exact q _ fun _=>rfl
 ·obtain ⟨its,r,pl,hz⟩:=I.tuple hq;refine gU (fun _=>false) pl (UW I hu kl hx rx hh r) ⟨.bl _,H,I,rfl,?_⟩;rw [no];exact q _ fun _=>rfl
set_option tactic.hygienic true in
theorem zhm {l:List D}{a b:D}{c:Bool}(hK:X.K=Γ.K) (hu:X.A.units+61 < ϵ) (hs:seqD b=some l) (h:memD l a=some c):(∃ r,OpR X (ϋ .In) r/\RDo Γ r a b (.bl c) false)/\∃ r,OpR X (ϋ .NotIn) r/\RDo Γ r a b (.bl (!c)) false:=by
 have h:(if (isSc a&&l.all isSc)=true then some (l.any fun y=>eqP y a) else if (isLs a&&l.all isStr)=true then some false else none)=some c:=h;by_cases hf:(isSc a&&l.all isSc)=true
 ·rw [if_pos hf] at h;cases h;rw [ε] at hf;refine ⟨⟨fun x y H Q=>∃ g S,WOk Γ H g S/\Rdb Γ H g a x/\Rdb Γ H g b y/\∀ v,(∀ g,Has Γ g (.bl (l.any fun y=>eqP y a)) v)->Q v H,?_,fun S H g x y Q w hx hy q=>⟨g,S,w,hx,hy,fun v hv=>zg w q (hv g)⟩⟩,fun x y H Q=>∃ g S,WOk Γ H g S/\Rdb Γ H g a x/\Rdb Γ H g b y/\∀ v,(∀ g,Has Γ g (.bl (!l.any fun y=>eqP y a)) v)->Q v H,?_,fun S H g x y Q w hx hy q=>⟨g,S,w,hx,hy,fun v hv=>zg w q (hv g)⟩⟩
  all_goals
   intro pj s σ H x y v u Q I rx ry ⟨g,S,w,hx,hy,q⟩;obtain ⟨p,xs,e,hq,hh⟩:=zft hK w hs hy;subst e;cases ry;rcases hq with hq | hq
  ·obtain ⟨its,r,pl,hz⟩:=I.list hq;refine iT (memE Γ g l a) pl.isList (Z9 I hK w.rh hu hf.1 hf.2 hx rx hh r) ⟨.bl _,H,I,rfl,?_⟩;rw [jK hh r];exact q _ fun _=>rfl
  ·obtain ⟨its,r,pl,hz⟩:=I.tuple hq;refine iJ (memE Γ g l a) pl (Z9 I hK w.rh hu hf.1 hf.2 hx rx hh r) ⟨.bl _,H,I,rfl,?_⟩;rw [jK hh r];exact q _ fun _=>rfl
  ·obtain ⟨its,r,pl,hz⟩:=I.list hq;refine ir (memE Γ g l a) pl.isList (Z9 I hK w.rh hu hf.1 hf.2 hx rx hh r) ⟨.bl _,H,I,rfl,?_⟩;rw [jK hh r];exact q _ fun _=>rfl
  ·obtain ⟨its,r,pl,hz⟩:=I.tuple hq;refine gU (memE Γ g l a) pl (Z9 I hK w.rh hu hf.1 hf.2 hx rx hh r) ⟨.bl _,H,I,rfl,?_⟩;rw [jK hh r];exact q _ fun _=>rfl
 ·rw [if_neg hf] at h;split at h
  ·rename_i hl
   cases h;rw [ε] at hl;cases a with
   | lst m=>exact zeg hK hu hs hl.2
   | _=>cases hl.1
  ·cases h
theorem zal {a b:D}{neg:Bool}{o:Option D}(hu1:X.A.units+1 < ϵ) (e:wX b a=some o):RDo Γ (rInD neg) a b (.bl (if neg then !o.isSome else o.isSome)) false:=by
 intro S H g x y Q w hx hy q;obtain ⟨p,v,e1,e2,_,e3,e4⟩:=Wd w e hy hx;refine ⟨p,v,e1,e2,zg w q ?_⟩;cases o with
 | none=>rw [e4 rfl];rfl
 | some d=>obtain ⟨z,hz,_⟩:=e3 d rfl;rw [hz];rfl
theorem Yp {f:Int->Int->Bool}{a b:D}{c:Bool}(h:int2 f a b=some c):∃ i j,a=.int i/\b=.int j/\c=f i j:=by
 cases a with
 | int i=>
  cases b with
  | int j=>cases h;exact ⟨i,j,rfl,rfl,rfl⟩
  | _=>cases h
 | _=>cases h
theorem zam {a b:D}{c:Bool}(hK:X.K=Γ.K) (hu:X.A.units+61 < ϵ) (hu1:X.A.units+1 < ϵ) (h:inD a b=some c):(∃ r,OpR X (ϋ .In) r/\RDo Γ r a b (.bl c) false)/\∃ r,OpR X (ϋ .NotIn) r/\RDo Γ r a b (.bl (!c)) false:=by
 have sq:∀ l,seqD b=some l->memD l a=some c->(∃ r,OpR X (ϋ .In) r/\RDo Γ r a b (.bl c) false)/\∃ r,OpR X (ϋ .NotIn) r/\RDo Γ r a b (.bl (!c)) false:=fun l h1 h2=>zhm hK hu h1 h2
 have dc:(wX b a).map (·.isSome)=some c->(∃ r,OpR X (ϋ .In) r/\RDo Γ r a b (.bl c) false)/\∃ r,OpR X (ϋ .NotIn) r/\RDo Γ r a b (.bl (!c)) false:=fun h=>by obtain ⟨o,e,rfl⟩:=Α.mp h;exact ⟨⟨_,zgw hu1,zal (neg:=false) hu1 e⟩,_,Qx hu1,zal (neg:=true) hu1 e⟩
 cases b with
 | lst l=>exact sq l rfl h
 | tup l=>exact sq l rfl h
 | ktp l=>exact sq l rfl h
 | str y=>
  cases a with
  | str x=>
   cases h;exact ⟨⟨_,Qz,fun S H g u v Q w hx hy q=>⟨x,y,hx,hy,zg w q rfl⟩⟩,_,Xq,fun S H g u v Q w hx hy q=>⟨x,y,hx,hy,zg w q rfl⟩⟩
  | _=>cases h
 | dK ks ds=>exact dc h
 | dT ks ds=>exact dc h
 | dF ks ds=>exact dc h
 | _=>cases h
theorem zai {a b:D}{c:Bool}(h:isD a b=some c):(∃ r,OpR X (ϋ .Is) r/\RDo Γ r a b (.bl c) false)/\∃ r,OpR X (ϋ .IsNot) r/\RDo Γ r a b (.bl (!c)) false:=by
 cases b with
 | non=>
  cases h;exact ⟨⟨_,zgu,fun S H g x y Q w hx hy q=>⟨hy,zg w q (by rw [Zy hx];rfl)⟩⟩,_,zdH,fun S H g x y Q w hx hy q=>⟨hy,zg w q (by rw [Zy hx];rfl)⟩⟩
 | bl j=>
  cases a with
  | bl i=>
   cases h;exact ⟨⟨_,zgv,fun S H g x y Q w hx hy q=>⟨_,_,hx,hy,zg w q rfl⟩⟩,_,zdI,fun S H g x y Q w hx hy q=>⟨_,_,hx,hy,zg w q rfl⟩⟩
  | _=>cases h
 | _=>cases h
theorem zcH {a b:D}{c:Bool}(h:eqD a b=some c):okP 60 a=true/\okP 60 b=true/\c=eqP a b:=by
 have h:(if (okP 60 a&&okP 60 b)=true then some (eqP a b) else none)=some c:=h;by_cases hk:(okP 60 a&&okP 60 b)=true
 ·rw [if_pos hk] at h;cases h;rw [ε] at hk;exact ⟨hk.1,hk.2,rfl⟩
 ·rw [if_neg hk] at h;cases h
theorem ints_of {g:G}:∀ {l:List D}{ns:List Int}{xs:List V},u5 l=some ns->Hass Γ g l xs->xs=ns.map V.int
 | [],ns,xs,h,hh=>by cases (show some []=some ns from h);exact hh
 | d::l,ns,xs,h,⟨v,r,e,hv,hr⟩=>by
  subst e;cases d with
  | int i=>
   simp only [u5,Α] at h;obtain ⟨ms,e1,e2⟩:=h;subst e2;rw [show v=V.int i from hv,ints_of e1 hr];rfl
  | _=>cases h
theorem kv_mem {kvs:List (Key×V)}{vs:List (Key×δ)}(r:KV kvs vs):∀ p∈vs,∃ q∈kvs,q.1=p.1/\RelV q.2 p.2:=by
 unfold KV at r
 induction r with
 | nil=>intro p hp;cases hp
 | cons h t ih=>
  intro p hp;rcases χ.mp hp with rfl | hp
  ·exact ⟨_,θ,h⟩
  ·obtain ⟨q,hq,e⟩:=ih p hp;exact ⟨q,ι _ hq,e⟩
theorem Kv:∀ {kvs:List (Key×V)},(kvs.map (·.1)).Nodup->∀ q∈kvs,valV kvs q.1=some q.2
 | [],_,q,hq=>by cases hq
 | p::r,h,q,hq=>by
  rw [ϐ,bA] at h;rcases χ.mp hq with rfl | hq
  ·exact uh rfl
  ·rw [ul fun e=>h.1 (by rw [e];exact mY hq)];exact Kv h.2 q hq
theorem zan {A:ϙ}{s:ς}{kb:List (Key×δ)}:∀ (r:List (Key×δ)),(∀ p∈r,∃ i t t',p.2=ϒ i t/\fW kb p.1=some (.int i t'))->W.KeqHits A s kb r true
 | [],_=>.nil
 | (k,v)::r,h=>by obtain ⟨i,t,t',e1,e2⟩:=h (k,v) θ;have e1:v=.int i t:=e1;subst e1;have q:=cO.int_int (A:=A) (s:=s) i t i t';rw [beq_self_eq_true] at q;exact .hit (e:=true) (b:=true) e2 q (zan r fun p hp=>h p (ι _ hp))
def rNeD:R2:=fun x y H Q=>∃ a b kvs,x=.ref a/\y=.ref b/\Rd H a (.dK kvs)/\Rd H b (.dK kvs)/\(kvs.map (·.1)).Nodup/\(∀ p∈kvs,∃ i,p.2=V.int i)/\Q (.bl false) H
theorem Qy (hu:X.A.units < ϵ):OpR X (ϋ .NotEq) rNeD:=by
 intro pj s σ H x y v u Q I rx ry ⟨a,b,kvs,e1,e2,ha,hb,hn,hi,q⟩;subst e1 e2;cases rx;cases ry;obtain ⟨_,sa,va,ra,da⟩:=Yw I.hok ha;obtain ⟨_,sb,vb,rb,db⟩:=Yw I.hok hb;refine W.keq_ne (r:=true) sa sb da db hu (fun _=>zan va fun p hp=>?_) ?_
 ·obtain ⟨z,hz,e1,e2⟩:=kv_mem ra p hp;obtain ⟨i,e3⟩:=hi z hz;rw [e3] at e2;obtain ⟨t,e2⟩:=e2;have rv:=rb.val z.1;rw [Kv hn z hz,e3,e1] at rv;cases e4:fW vb p.1 with
  | none=>rw [e4] at rv;exact rv.elim
  | some w=>
   rw [e4] at rv;obtain ⟨t',e5⟩:=(show RelV (.int i) w from rv)
   exact ⟨i,t,t',e2,by rw [e5]⟩
 ·rw [<- ra.length,<- rb.length,beq_self_eq_true];exact ⟨.bl false,H,I,rfl,q⟩
set_option tactic.hygienic true in
theorem zgD {ks ks':List Key}{vs vs':List D}{c:Bool}(h:neD (.dK ks vs) (.dK ks' vs')=some c):RDo Γ rNeD (.dK ks vs) (.dK ks' vs') (.bl c) false:=by
 have h:(if (decide (ks=ks')&&decide ks.Nodup&&decide (u5 vs=u5 vs')&&(u5 vs).isSome)=true then some false else none)=some c:=h;split at h
 ·rename_i hc
  cases h;simp only [ε,decide_eq_true_eq] at hc;obtain ⟨⟨⟨e1,hn⟩,e2⟩,e3⟩:=hc;subst e1;intro S H g x y Q w ⟨a,xs,hx,h1,h2,h3⟩ ⟨b,ys,hy,f1,f2,f3⟩ q;obtain ⟨ns,e4⟩:=lB.mp e3;have z1:=ints_of e4 h3;have z2:=ints_of (e2.symm.trans e4) f3;refine ⟨a,b,ks.zip (ns.map V.int),hx,hy,.inl (by rw [h1,z1]),.inl (by rw [f1,z2]),?_,fun p hp=>?_,zg w q rfl⟩
  ·rw [iD (by rw [<- z1,h3.len,<- h2];exact Ζ _)];exact hn
  ·obtain ⟨i,_,e⟩:=Ψ.mp (bO hp).2;exact ⟨i,e.symm⟩
 ·cases h
theorem zeC {op:fP}{a b:D}{c:Bool}(hK:X.K=Γ.K) (hu:X.A.units+61 < ϵ) (h:cmpD op a b=some c):∃ r,OpR X (ϋ op) r/\RDo Γ r a b (.bl c) false:=by
 have hu1:X.A.units+1 < ϵ:=by lia
 cases op with
 | Eq=>
  obtain ⟨h1,h2,rfl⟩:=zcH h;exact ⟨_,zgx hK hu h1 h2,Us⟩
 | NotEq=>
  have old:(eqD a b).map (!·)=some c->∃ r,OpR X (ϋ .NotEq) r/\RDo Γ r a b (.bl c) false:=fun h=>by obtain ⟨c',e,rfl⟩:=Α.mp h;obtain ⟨h1,h2,rfl⟩:=zcH e;exact ⟨_,zgr hK hu h1 h2,Us⟩
  have h:neD a b=some c:=h;cases a with
  | dK ks vs=>
   cases b with
   | dK ks' vs'=>exact ⟨_,Qy (by lia),zgD h⟩
   | _=>exact old h
  | _=>exact old h
 | Lt=>obtain ⟨i,j,rfl,rfl,rfl⟩:=Yp h;exact ⟨_,zi1,fun S H g x y Q w hx hy q=>⟨_,_,hx,hy,zg w q rfl⟩⟩
 | LtE=>obtain ⟨i,j,rfl,rfl,rfl⟩:=Yp h;exact ⟨_,zi2,fun S H g x y Q w hx hy q=>⟨_,_,hx,hy,zg w q rfl⟩⟩
 | Gt=>obtain ⟨i,j,rfl,rfl,rfl⟩:=Yp h;exact ⟨_,zi3,fun S H g x y Q w hx hy q=>⟨_,_,hx,hy,zg w q rfl⟩⟩
 | GtE=>obtain ⟨i,j,rfl,rfl,rfl⟩:=Yp h;exact ⟨_,zi4,fun S H g x y Q w hx hy q=>⟨_,_,hx,hy,zg w q rfl⟩⟩
 | Is=>exact (zai h).1
 | IsNot=>
  obtain ⟨c',e,rfl⟩:=Α.mp (show (isD a b).map (!·)=some c from h);exact (zai e).2
 | In=>exact (zam hK hu hu1 h).1
 | NotIn=>
  obtain ⟨c',e,rfl⟩:=Α.mp (show (inD a b).map (!·)=some c from h);exact (zam hK hu hu1 e).2
def rIxD:R2:=fun x y H Q=>∃ a v,x=.ref a/\DGet H a y (some v)/\Q v H
theorem VB (hu:X.A.units+1 < ϵ):IxR X rIxD:=by intro value slice pj s σ H x y v u Q I rx ry ⟨a,z,e,g,q⟩ hs;subst e;cases rx;exact tail_any (VJ I g) PySem.F.slot_dict_getitem.lookup (zaz hu I g ry fun w' s' I' r'=>⟨z,H,I',r',q⟩) hs
theorem zaS {g:G}{l:List D}{xs:List V}{i:Int}{d:D}(h:Hass Γ g l xs) (e:((ixN l.length i).bind fun k=>l[k]?)=some d):∃ v,atI xs i=some v/\Has Γ g d v:=by obtain ⟨k,e1,e2⟩:=Ϗ.mp e;obtain ⟨v,hv,hd⟩:=h.get e2;refine ⟨v,?_,hd⟩;unfold atI;rw [h.len,e1];exact hv
set_option tactic.hygienic true in
theorem zg2 {a b d:D}(hK:X.K=Γ.K) (hu:X.A.units+1 < ϵ) (h:subD a b=some d):∃ r,IxR X r/\RDo Γ r a b d false:=by
 unfold subD at h;split at h
 ·refine ⟨_,zg0,fun S H g x y Q w ⟨p,xs,e,h1,h2⟩ hy q=>?_⟩;obtain ⟨v,e1,e2⟩:=zaS h2 h;exact ⟨p,xs,_,v,e,hy,SqT.of (w.rh _ _ h1),e1,zg w q e2⟩
 ·refine ⟨_,zad,fun S H g x y Q w ⟨p,xs,e,h1,h2⟩ hy q=>?_⟩;obtain ⟨v,e1,e2⟩:=zaS h2 h;exact ⟨p,xs,_,v,e,hy,SqL.of h1,e1,zg w q e2⟩
 ·rename_i l i
  refine ⟨_,zad,fun S H g x y Q w ⟨p,e,h1⟩ hy q=>?_⟩;have h':((ixN (l.map D.int).length i).bind fun k=>(l.map D.int)[k]?)=some d:=by rw [ξ];simpa [Η] using h
  obtain ⟨v,e1,e2⟩:=zaS (Hass.ints (Γ:=Γ) (g:=g)) h';exact ⟨p,_,_,v,e,hy,by rw [hK];exact h1,e1,zg w q e2⟩
 ·split at h
  ·rename_i hf
   obtain ⟨k,e1,e2⟩:=Ϗ.mp h;obtain ⟨c,e3,e4⟩:=Α.mp e2;subst e4;refine ⟨_,zg1,fun S H g x y Q w hx hy q=>⟨_,_,c,hx,hy,xJ hf,?_,zg w q rfl⟩⟩;unfold atI;have e1':ixN _ _=some k:=e1;rw [e1'];exact e3
  ·cases h
 ·obtain ⟨o,e1,e2⟩:=Ϗ.mp h;refine ⟨_,VB hu,fun S H g x y Q w hx hy q=>?_⟩;obtain ⟨p,v,f1,f2,_,f3,_⟩:=Wd w e1 hx hy;obtain ⟨z,hz,hd⟩:=f3 d e2;exact ⟨p,z,f1,by rw [<- hz];exact f2,zg w q hd⟩
 ·obtain ⟨o,e1,e2⟩:=Ϗ.mp h;refine ⟨_,VB hu,fun S H g x y Q w hx hy q=>?_⟩;obtain ⟨p,v,f1,f2,_,f3,_⟩:=Wd w e1 hx hy;obtain ⟨z,hz,hd⟩:=f3 d e2;exact ⟨p,z,f1,by rw [<- hz];exact f2,zg w q hd⟩
 ·obtain ⟨o,e1,e2⟩:=Ϗ.mp h;refine ⟨_,VB hu,fun S H g x y Q w hx hy q=>?_⟩;obtain ⟨p,v,f1,f2,_,f3,_⟩:=Wd w e1 hx hy;obtain ⟨z,hz,hd⟩:=f3 d e2;exact ⟨p,z,f1,by rw [<- hz];exact f2,zg w q hd⟩
 ·cases h
theorem VL {g:G}{l:List D}{xs:List V}(lo hi:Option Int) (h:Hass Γ g l xs):Hass Γ g (cutD l lo hi) (cutV xs lo hi):=by unfold cutD cutV;rw [h.len];exact (h.drop _).take _
def RDs (Γ:Gm) (r:V->Option Int->Option Int->Hp->VK->Prop) (a:D) (lo hi:Option Int) (d:D) (fr:Bool):Prop:=
 ∀ (S:Store) (H:Hp) (g:G) (x:V) (Q:VK),WOk Γ H g S->Rdb Γ H g a x->Fin Γ H g S d fr Q->r x lo hi H Q
def rSlS:V->Option Int->Option Int->Hp->VK->Prop:=fun x lo hi H Q=>∃ z,x=.str z/\z.length<=sizeLine/\Q (.str (gG z lo hi)) H
theorem Qv {v:δ}{o:Option Int}(h:f9 v o):∃ p:Option (Int×Tok),v=partValue p/\p.map (·.1)=o:=by
 cases h with
 | none=>exact ⟨none,rfl,rfl⟩
 | int i t=>exact ⟨some (i,t),rfl,rfl⟩
theorem zfv:SlR X rSlS:=by intro pj s σ H x v vl vu lo hi sl Q I rx hs pl pu ⟨z,e,hz,q⟩;subst e;obtain ⟨t,rfl⟩:=rx;obtain ⟨p,rfl,rfl⟩:=Qv pl;obtain ⟨p',rfl,rfl⟩:=Qv pu;refine ⟨"str",_,PySem.F.slot_str_getitem.lookup,mL _ _ _,wpAny_getItem_str_slice (l:=p) (u:=p') (st:=none) hs rfl ?_⟩;exact post_val_or_str ⟨ϡ (Txt.slice_le z _ _) hz,fun t' k=>⟨.str (gG z (p.map (·.1)) (p'.map (·.1))),H,I.tok _,⟨t',rfl⟩,q⟩⟩
set_option tactic.hygienic true in
theorem zfw {a d:D}{lo hi:Option Int}{fr:Bool}(hK:X.K=Γ.K) (h:slcD a lo hi=some (d,fr)):∃ r,SlR X r/\RDs Γ r a lo hi d fr:=by
 unfold slcD at h;split at h
 ·rename_i l
  cases h;refine ⟨_,zfu.or zc5,fun S H g x Q w ⟨p,xs,e,h1,h2⟩ q=>?_⟩;by_cases hw:HT.sIx xs.length 0 lo=0/\HT.sIx xs.length xs.length hi=xs.length
  ·refine .inr ⟨p,xs,e,SqT.of (w.rh _ _ h1),hw,zg w q ?_⟩;have ec:cutD l lo hi=l:=by unfold cutD;rw [<- h2.len,hw.1,hw.2,List.drop_zero,Nat.sub_zero,eZ (by rw [h2.len];exact Ζ _)]
   rw [ec];exact ⟨p,xs,rfl,h1,h2⟩
  ·exact .inl ⟨p,xs,e,SqT.of (w.rh _ _ h1),hw,fun b hb=>qG w q (VL lo hi h2) hb⟩
 ·cases h;exact ⟨_,K5,fun S H g x Q w ⟨p,xs,e,h1,h2⟩ q=>⟨p,xs,e,SqL.of h1,fun b hb=>wA w q (VL lo hi h2) hb⟩⟩
 ·cases h;exact ⟨_,K5,fun S H g x Q w ⟨p,e,h1⟩ q=>⟨p,_,e,by rw [hK];exact h1,fun b hb=>wA w q (VL lo hi Hass.ints) hb⟩⟩
 ·split at h
  ·rename_i hf
   cases h;exact ⟨_,zfv,fun S H g x Q w hx q=>⟨_,hx,xJ hf,zg w q rfl⟩⟩
  ·cases h
 ·cases h
end
noncomputable def vr:V->δ
 | .ref a=>.ref a
 | _=>.none
theorem Xb:∀ {Ps:List (V×List Int)},(∀ q∈Ps,∃ a,q.1=.ref a)->Vals (Ps.map (·.1)) (Ps.map fun q=>vr q.1)
 | [],_=>.nil
 | p::Ps,h=>.cons (by obtain ⟨a,e⟩:=h p θ;show RelV p.1 (vr p.1);rw [e];rfl) (Xb fun q hq=>h q (ι _ hq))
theorem YS {Γ:Gm}{g:G}:∀ {Ps:List (V×List Int)},(∀ q∈Ps,Has Γ g (tupI q.2) q.1)->Hass Γ g ((Ps.map (·.2)).map tupI) (Ps.map (·.1))
 | [],_=>rfl
 | p::Ps,h=>⟨p.1,_,rfl,h p θ,YS fun q hq=>h q (ι _ hq)⟩
theorem zhv {X:Cx}{pj:List (Addr×Obj)}{σ:L2.St}{H:Hp}{s:ς}{p:Addr}{kvs:List (List Key×V)}{ks:List (List Int)}(I:L2.Inv X pj σ H s) (hq:Rd H p (.dT kvs)) (hks:kvs.map (·.1)=ks.map (fun k=>k.map bx)):
  ∃ es ep,∃ Ps:List (V×List Int),TS.Raw s.heap p es ep/\(p==bz)=false/\Ps.map (·.2)=ks/\es.size=ks.length/\(∀ acc:Array δ,ItemsOf (fun i v=>∃ e,es[i]?=some e/\v=e.key) acc es.size->acc.toList=Ps.map fun q=>vr q.1)/\∀ q∈Ps,∃ a,q.1=.ref a/\H a=some (.tup (q.2.map V.int)):=by
 obtain ⟨z,lo,zs,kt,o,es,ep,h1,h2,h3,h4,h5,h6⟩:=VH I.hok hq;have raw:TS.Raw s.heap p es ep:=⟨o,h1,h2,h3⟩
 have P0:∀ {l:List (List Key×V)}{m:List (List Key×Addr×δ)}(ks:List (List Int)),KT H l m->l.map (·.1)=ks.map (fun k=>k.map bx) ->
   ∃ Ps:List (V×List Int),Ps.map (·.2)=ks/\(Ps.map fun q=>vr q.1)=(m.map fun x=>Β x.2.1)/\∀ q∈Ps,∃ a,q.1=.ref a/\H a=some (.tup (q.2.map V.int)):=by
  intro l m ks k
  induction k generalizing ks with
  | nil=>intro e;cases ks with
   | nil=>exact ⟨[],rfl,rfl,fun _ h=>nomatch h⟩
   | cons _ _=>cases e
  | @cons a b as bs hab t ih=>
   intro e;cases ks with
   | nil=>cases e
   | cons k ks=>
    rw [ϐ,ϐ] at e;obtain ⟨Ps,g1,g2,g3⟩:=ih ks (iM e).2;refine ⟨(.ref b.2.1,k)::Ps,by rw [ϐ,g1],by rw [ϐ,ϐ,g2];rfl,fun q hq=>?_⟩;rcases χ.mp hq with rfl | hq
    ·refine ⟨_,rfl,?_⟩;rw [hab.2.1,(iM e).1,bM];rfl
    ·exact g3 q hq
 obtain ⟨Ps,g1,g2,g3⟩:=P0 ks kt hks;have sz:es.size=ks.length:=by rw [<- aW,h4,ξ,<- ξ (f:=fun x:List Key×Addr×δ=>Β x.2.1),<- g2,ξ,<- g1,ξ]
 have all:∀ acc:Array δ,ItemsOf (fun i v=>∃ e,es[i]?=some e/\v=e.key) acc es.size->acc.toList=Ps.map fun q=>vr q.1:=fun acc hi=>by
  rw [g2];apply dX;intro j;have lz:zs.length=es.size:=by rw [<- aW,h4,ξ]
  by_cases hj:j < acc.size
  ·obtain ⟨e,e1,e2⟩:=hi.2 j acc[j] (cD hj);rw [dg,cD hj,e2,Η];rw [<- dg,h4,Η] at e1;obtain ⟨x,e3,e4⟩:=Α.mp e1;rw [e3,<- e4];rfl
  ·rw [dj (by rw [aW];omega),dj (by rw [ξ,lz,<- hi.1];omega)]
 exact ⟨es,ep,Ps,raw,lo,g1,sz,all,g3⟩
theorem Ke {X:Cx}(hc:X.calm=true):yP X (.type "list") (fun xs H Q=>∃ p,∃ kvs:List (List Key×V),∃ ks:List (List Int),xs=[.ref p]/\Rd H p (.dT kvs)/\kvs.map (·.1)=ks.map (fun k=>k.map bx)/\ks.length < 4096 /\
    ∀ (Ps:List (V×List Int)) (l:Addr),Ps.map (·.2)=ks->(∀ q∈Ps,∃ a,q.1=.ref a/\H a=some (.tup (q.2.map V.int)))->H l=none->Q (.ref l) (upd H l (.lst (Ps.map (·.1))))):=by
  intro pj s σ H xs us Q I r ⟨p,kvs,ks,e,hq,hks,hn,q⟩;subst e;obtain ⟨u,rfl,rx⟩:=vals1 r;cases (show u=Β p from rx);obtain ⟨es,ep,Ps,raw,lo,g1,sz,all,g3⟩:=zhv I hq hks;have rf:∀ q∈Ps,∃ a,q.1=.ref a:=fun q hq=>⟨_,(g3 q hq).choose_spec.1⟩
  refine W.kdl_call (TS.zc2 lo) (I.ok.hd hc) raw (by rw [sz,bD];omega) fun h' tk acc c kp e it=>?_
  have ea:=all acc it;have hv:Vals (Ps.map (·.1)) acc.toList:=by rw [ea];exact Xb fun q hq=>rf q hq
  have I2:=I.laid (t':=tk) (a:=s.heap.objs.size) (o:=.lst (Ps.map (·.1))) (h':=h') kp (Ζ _) (show yo X.prog X.w _ _ _ (.lst (Ps.map (·.1))) from ⟨by
    rw [ξ,<- ξ (f:=(·.2)),g1,bD]
    omega,acc.toList,c,hv,by rw [Array.toArray_toList];exact e⟩)
  exact ⟨.ref s.heap.objs.size,_,I2,rfl,q Ps _ g1 g3 (I.hok.fresh (Ζ _))⟩
def Rdbs (Γ:Gm) (H:Hp) (g:G):List D->List V->Prop
 | [],vs=>vs=[]
 | d::ds,vs=>∃ v r,vs=v::r/\Rdb Γ H g d v/\Rdbs Γ H g ds r
theorem W9 {Γ:Gm}{H:Hp}{g:G}{S:Store}(w:WOk Γ H g S):∀ {ds:List D}{vs:List V},Hass Γ g ds vs->Rdbs Γ H g (ds.map (zL S)) vs
 | [],_,h=>h
 | d::ds,_,⟨v,r,e,h1,h2⟩=>⟨v,r,e,Qk w h1,W9 w h2⟩
def RDc (Γ:Gm) (r:List V->Hp->VK->Prop) (ds:List D) (d:D) (fr:Bool):Prop:=
 ∀ (S:Store) (H:Hp) (g:G) (xs:List V) (Q:VK),WOk Γ H g S->Rdbs Γ H g ds xs->Fin Γ H g S d fr Q->r xs H Q
section
variable {X:Cx}{Γ:Gm}
theorem rd1 {H:Hp}{g:G}{d:D}{xs:List V}(h:Rdbs Γ H g [d] xs):∃ v,xs=[v]/\Rdb Γ H g d v:=by obtain ⟨v,r,e,h1,h2⟩:=h;cases (show r=[] from h2);exact ⟨v,e,h1⟩
theorem ze3:∀ {ns:List Int}{us:List δ},Vals (ns.map V.int) us->∀ (i:Nat) (v:δ),us[i]?=some v->∃ t,v=ϒ (ns.getD i 0) t
 | [],_,.nil,i,v,h=>by simp at h
 | n::ns,_,.cons r q,0,v,h=>by obtain ⟨t,rfl⟩:=r;simp at h;exact ⟨t,h.symm⟩
 | n::ns,_,.cons r q,i+1,v,h=>by have:=ze3 q i v (by simpa using h);simpa using this
theorem zaH (hc:X.calm=true):yP X (.builtin "sum") (fun xs H Q=>∃ (p:Addr) (ns:List Int),xs=[.ref p]/\SqL X.K H p (ns.map V.int)/\Q (.int ns.sum) H):=by
 intro pj s σ H vs us Q I rv h;obtain ⟨p,ns,rfl,hq,q⟩:=h;obtain ⟨u,rfl,ru⟩:=rv.one;cases (show u=Β p from ru);obtain ⟨its,rv,hp,hz⟩:=I.list hq;have hl:=hp.isList;have hlt:p < s.heap.objs.size:=by obtain ⟨_,e,_⟩:=hl;exact Θ e
 have hh:X.A.handled=none:=I.ok.hd hc;have hlen:=rv.length;rw [ξ] at hlen;refine call_sum_walkG (iV hl ?_)
 refine ⟨s.heap.objs.size,[s.heap.objs.size,p],[s.heap.objs.size],its.toArray.size,_,_,fun i=>ns.getD i 0,rfl,Walks.list (A:=X.A.in1) hh _ p (ϊ hlt) its.toArray,
  ⟨⟨_,Μ _ rfl,rfl,rfl⟩,hl.push _⟩,fun b hb=>?_,fun i v hP=>?_,fun h' tk t' hk=>?_⟩
 ·rcases χ.mp hb with rfl | hb
  ·show _ < (s.heap.push _).objs.size
   rw [cz];exact eX _
  ·rw [ω.mp hb];show _ < (s.heap.push _).objs.size
   rw [cz];exact iw hlt
 ·exact ze3 rv i v (by simpa using hP)
 ·refine ⟨.int ns.sum,H,I.kept (LSm.kept_iter hk),⟨t',?_⟩,q⟩;rw [preSum_getD,ο,<- hlen,List.take_length]
theorem Ws {g:G}:∀ {l:List D}{ns:List Bool}{xs:List V},vL l=some ns->Hass Γ g l xs->xs=ns.map V.bl
 | [],ns,xs,h,hh=>by cases (show some []=some ns from h);exact hh
 | d::l,ns,xs,h,⟨v,r,e,hv,hr⟩=>by
  subst e;cases d with
  | bl i=>
   simp only [vL,Α] at h;obtain ⟨ms,e1,e2⟩:=h;subst e2;rw [show v=V.bl i from hv,Ws e1 hr];rfl
  | _=>cases h
noncomputable def biV:BI->δ
 | .len=>.builtin "len" | .abs=>.builtin "abs" | .int=>.type "int" | .str=>.type "str" | .tuple=>.type "tuple" | .list=>.type "list"
 | .sum=>.builtin "sum" | .all=>.builtin "all" | .any=>.builtin "any" | .isinst _=>.builtin "isinstance" | .min2=>.builtin "min" | .max2=>.builtin "max" | .sorted=>.builtin "sorted" | .repr=>.builtin "repr" | .dict=>.type "dict" | .sset=>.builtin "sorted" | .lset=>.builtin "len" | .trev=>.type "tuple" | .lrng=>.type "list" | .lrng2=>.type "list"
noncomputable def isI:BI->Bool
 | .isinst _=>true
 | .sset=>true
 | .lset=>true
 | .trev=>true
 | .lrng=>true
 | .lrng2=>true
 | _=>false
set_option tactic.hygienic true in
theorem zd3 {d0:D}{d:D}{fr:Bool}(hK:X.K=Γ.K) (h:lenD d0=some (d,fr)):∃ r,yP X (.builtin "len") r/\RDc Γ r [d0] d fr:=by
 cases d0 with
 | tup l=>
  cases h;refine ⟨_,vf,fun S H g xs Q w hx q=>?_⟩;obtain ⟨v,rfl,p,ys,rfl,h1,h2⟩:=rd1 hx;exact ⟨p,ys,rfl,.inr (SqT.of (w.rh _ _ h1)),zg w q (by rw [h2.len];rfl)⟩
 | lst l=>
  cases h;refine ⟨_,vf,fun S H g xs Q w hx q=>?_⟩;obtain ⟨v,rfl,p,ys,rfl,h1,h2⟩:=rd1 hx;exact ⟨p,ys,rfl,.inl (SqL.of h1),zg w q (by rw [h2.len];rfl)⟩
 | scr l=>
  cases h;refine ⟨_,vf,fun S H g xs Q w hx q=>?_⟩;obtain ⟨v,rfl,p,rfl,h1⟩:=rd1 hx;exact ⟨p,_,rfl,.inl (by rw [hK];exact h1),zg w q (by rw [ξ];rfl)⟩
 | str x=>
  have h:(if fits x.length=true then some (D.int x.length,false) else none)=some (d,fr):=h;split at h
  ·rename_i hf
   cases h;refine ⟨_,Wm,fun S H g xs Q w hx q=>?_⟩;obtain ⟨v,rfl,hv⟩:=rd1 hx;exact ⟨_,by rw [show v=_ from hv],xJ hf,zg w q rfl⟩
  ·cases h
 | dK ks vs=>
  cases h;refine ⟨fun xs H Q=>∃ d kvs,xs=[.ref d]/\Rd H d (.dK kvs)/\Q (.int kvs.length) H,?_,fun S H g xs Q w hx q=>?_⟩
  ·intro pj s σ H xs us Q I r hh;obtain ⟨d,kvs,rfl,hd,q⟩:=hh;obtain ⟨u,rfl,ru⟩:=vals1 r;cases (show u=Β d from ru);exact zjQ I hd fun t s' I'=>⟨.int kvs.length,H,I',⟨t,rfl⟩,q⟩
  ·obtain ⟨v,rfl,p,ys,rfl,h1,h2,h3⟩:=rd1 hx;refine ⟨p,_,rfl,.inl h1,zg w q ?_⟩;rw [fJ,h3.len,<- h2,Nat.min_self];rfl
 | _=>cases h
theorem zcl {f:List D->Option D}{d0:D}{p:D×Bool}(h:onL f d0=some p):∃ l d,d0=.lst l/\f l=some d/\p=(d,false):=by
 cases d0 with
 | lst l=>
  obtain ⟨d,e,rfl⟩:=Α.mp (show (f l).map (fun d=>(d,false))=some p from h);exact ⟨l,d,rfl,e,rfl⟩
 | _=>cases h
theorem zcp {d0:D}{l:List D}(h:lotD d0=some l):d0=.lst l\/d0=.tup l:=by
 cases d0 with
 | lst m=>cases h;exact .inl rfl
 | tup m=>cases h;exact .inr rfl
 | _=>cases h
theorem U6:∀ {k:List Key}{n:List Int},zac k=some n->k=n.map bx
 | [],_,h=>by cases h;rfl
 | .inl i::k,n,h=>by obtain ⟨m,e,rfl⟩:=Α.mp (show (zac k).map (i::·)=some n from h);rw [U6 e];rfl
 | .inr _::_,_,h=>by cases h
theorem XM:∀ {ks:List (List Key)}{ns:List (List Int)},XN ks=some ns->ks=ns.map (fun k=>k.map bx)
 | [],_,h=>by cases h;rfl
 | k::ks,ns,h=>by obtain ⟨n,e1,e2⟩:=Ϗ.mp (show (zac k).bind (fun n=>(XN ks).map (n::·))=some ns from h);obtain ⟨ms,e3,rfl⟩:=Α.mp e2;rw [ϐ,<- XM e3,<- U6 e1]
theorem zcB {g:G}:∀ ns:List Int,Hass Γ g (ns.map D.int) (ns.map V.int)
 | []=>rfl
 | _::ns=>⟨_,_,rfl,rfl,zcB ns⟩
theorem Y4 {H:Hp}{S:Store}:∀ (Ps:List (V×List Int)) (g:G),WOk Γ H g S->(∀ q∈Ps,∃ a,q.1=.ref a/\H a=some (.tup (q.2.map V.int)))->∃ g',Step H g H g'/\WOk Γ H g' S/\∀ q∈Ps,Has Γ g' (tupI q.2) q.1
 | [],g,w,_=>⟨g,Step.refl H g,w,fun _ h=>nomatch h⟩
 | p::Ps,g,w,h=>by
  obtain ⟨a,ea,ha⟩:=h p θ;have one:∃ g',Step H g H g'/\WOk Γ H g' S/\g'.R a=some (.tup (p.2.map V.int)):=by
   cases e:g.R a with
   | some o=>
    have:=w.rh a o e;rw [ha] at this;cases this;exact ⟨g,Step.refl H g,w,e⟩
   | none=>
    have na:a ∉ g.α:=fun m=>by
     obtain ⟨k,hk,e'⟩:=List.mem_iff_getElem.mp m;have hk':k < S.length:=by rw [<- w.len];exact hk
     obtain ⟨o,ho,hm⟩:=(w.cell k _ a (ψ hk') (by rw [ψ hk,e'])).J6;rw [ha] at ho;cases ho;exact hm.elim
    refine ⟨g.put a (.tup (p.2.map V.int)),⟨Le.put e,fun _ _ h _=>h,fun _ o h=>⟨o,h⟩,fun _ h=>.inl h,fun b q=>?_⟩,w.put ha e na,zm⟩;by_cases hb:b=a
    ·subst hb;exact .inr (.inr (.inr ⟨_,ha,rfl⟩))
    ·have q':upd g.R a (.tup (p.2.map V.int)) b≠none:=q;rw [zc hb] at q';exact .inl q'
  obtain ⟨g1,s1,w1,r1⟩:=one;obtain ⟨g2,s2,w2,h2⟩:=Y4 Ps g1 w1 fun q hq=>h q (ι _ hq)
  refine ⟨g2,s1.trans s2,w2,fun q hq=>?_⟩;rcases χ.mp hq with rfl | hq
  ·exact ⟨a,_,ea,s2.le.rr _ _ r1,zcB _⟩
  ·exact h2 q hq
theorem rd2 {H:Hp}{g:G}{d e:D}{xs:List V}(h:Rdbs Γ H g [d,e] xs):∃ u v,xs=[u,v]/\Rdb Γ H g d u/\Rdb Γ H g e v:=by obtain ⟨v,r,e,h1,h2⟩:=h;obtain ⟨u,rfl,h3⟩:=rd1 h2;exact ⟨v,u,e,h1,h3⟩
theorem zeL {b:BI}{d0 d1 d:D}{fr:Bool}(hc:X.calm=true) (hi:isI b=false) (h:bi2 b d0 d1=some (d,fr)):∃ r,yP X (biV b) r/\RDc Γ r [d0,d1] d fr:=by
 cases b with
 | min2=>
  obtain ⟨i,j,k,rfl,rfl,e,e2⟩:=uV (show num2 (fun i j=>some (if j < i then j else i)) d0 d1=some (d,fr) from h);cases e2;cases e;refine ⟨_,zaJ hc,fun S H g xs Q w hx q=>?_⟩;obtain ⟨u,v,rfl,h1,h2⟩:=rd2 hx;exact ⟨i,j,by rw [show u=_ from h1,show v=_ from h2],zg w q rfl⟩
 | max2=>
  obtain ⟨i,j,k,rfl,rfl,e,e2⟩:=uV (show num2 (fun i j=>some (if j > i then j else i)) d0 d1=some (d,fr) from h);cases e2;cases e;refine ⟨_,zaK hc,fun S H g xs Q w hx q=>?_⟩;obtain ⟨u,v,rfl,h1,h2⟩:=rd2 hx;exact ⟨i,j,by rw [show u=_ from h1,show v=_ from h2],zg w q rfl⟩
 | lrng2=>cases hi
 | _=>cases h
set_option tactic.hygienic true in
theorem zeM {b:BI}{d0:D}{d:D}{fr:Bool}(hK:X.K=Γ.K) (hg:X.A.guards=some []) (hu:X.A.units+61 < ϵ) (hc:X.calm=true) (hi:isI b=false) (h:biD b [d0]=some (d,fr)):∃ r,yP X (biV b) r/\RDc Γ r [d0] d fr:=by
 cases b with
 | len=>exact zd3 hK h
 | abs=>
  cases d0 with
  | int i=>
   cases h;refine ⟨_,zbZ,fun S H g xs Q w hx q=>?_⟩;obtain ⟨v,rfl,hv⟩:=rd1 hx;exact ⟨_,by rw [show v=_ from hv],zg w q rfl⟩
  | _=>cases h
 | int=>
  cases d0 with
  | bl b=>
   cases h;refine ⟨_,Wn,fun S H g xs Q w hx q=>?_⟩;obtain ⟨v,rfl,hv⟩:=rd1 hx;exact .inr ⟨_,by rw [show v=_ from hv],zg w q rfl⟩
  | int i=>
   cases h;refine ⟨_,Wn,fun S H g xs Q w hx q=>?_⟩;obtain ⟨v,rfl,hv⟩:=rd1 hx;exact .inl ⟨_,by rw [show v=_ from hv],zg w q rfl⟩
  | _=>cases h
 | tuple=>
  obtain ⟨l,e,e2⟩:=Α.mp (show (lotD d0).map (fun l=>(D.tup l,false))=some (d,fr) from h);cases e2;refine ⟨_,YC,fun S H g xs Q w hx q=>?_⟩;rcases zcp e with rfl | rfl
  ·obtain ⟨v,rfl,p,ys,rfl,h1,h2⟩:=rd1 hx;exact ⟨p,ys,rfl,.inl ⟨SqL.of h1,fun l hl=>qG w q h2 hl⟩⟩
  ·obtain ⟨v,rfl,p,ys,rfl,h1,h2⟩:=rd1 hx;exact ⟨p,ys,rfl,.inr ⟨SqT.of (w.rh _ _ h1),zg w q ⟨p,ys,rfl,h1,h2⟩⟩⟩
 | list=>
  obtain ⟨l,e,e2⟩:=Α.mp (show (lstD d0).map (fun l=>(D.lst l,true))=some (d,fr) from h);cases e2;by_cases hs:∃ x,d0=.str x
  ·obtain ⟨x,rfl⟩:=hs;cases e
  by_cases ht:∃ ks ds,d0=.dT ks ds
  ·obtain ⟨ks0,ds0,rfl⟩:=ht;obtain ⟨ks,e1,e2⟩:=Ϗ.mp (show (XN ks0).bind (fun ns=>if decide (ns.length < 4096)=true then some (ns.map tupI) else none)=some l from e);split at e2
   ·rename_i hl
    cases e2;refine ⟨_,Ke hc,fun S H g xs Q w hx q=>?_⟩;obtain ⟨v,rfl,a,vs,rfl,h1,h4,h2⟩:=rd1 hx;have el:ks0.length=vs.length:=by rw [h2.len];exact h4
    refine ⟨a,ks0.zip vs,ks,rfl,.inl h1,by rw [<- XM e1,iD (fG el)],of_decide_eq_true hl,fun Ps l pm ht hl=>?_⟩;obtain ⟨g',s',w',hs⟩:=Y4 Ps g w ht;refine wA w' (fun v H' g2 st sm w2 vo=>q v H' g2 (s'.trans st) sm w2 vo) (ds:=ks.map tupI) ?_ hl;rw [<- pm];exact YS hs
   ·cases e2
  have e:lotD d0=some l:=by
   cases d0 with
   | str x=>exact absurd ⟨x,rfl⟩ hs
   | dT ks ds=>exact absurd ⟨ks,ds,rfl⟩ ht
   | _=>exact e
  refine ⟨_,Wl,fun S H g xs Q w hx q=>?_⟩;rcases zcp e with rfl | rfl
  ·obtain ⟨v,rfl,p,ys,rfl,h1,h2⟩:=rd1 hx;exact ⟨p,ys,rfl,.inl (SqL.of h1),fun l hl=>wA w q h2 hl⟩
  ·obtain ⟨v,rfl,p,ys,rfl,h1,h2⟩:=rd1 hx;exact ⟨p,ys,rfl,.inr (SqT.of (w.rh _ _ h1)),fun l hl=>wA w q h2 hl⟩
 | sum=>
  obtain ⟨l,z,rfl,e,e2⟩:=zcl h;cases e2;obtain ⟨ns,e3,rfl⟩:=Α.mp e;refine ⟨_,zaH hc,fun S H g xs Q w hx q=>?_⟩;obtain ⟨v,rfl,p,ys,rfl,h1,h2⟩:=rd1 hx;exact ⟨p,ns,rfl,by rw [<- ints_of e3 h2];exact SqL.of h1,zg w q rfl⟩
 | all=>
  obtain ⟨l,z,rfl,e,e2⟩:=zcl h;cases e2;obtain ⟨ns,e3,rfl⟩:=Α.mp e;refine ⟨_,zbY hc,fun S H g xs Q w hx q=>?_⟩;obtain ⟨v,rfl,p,ys,rfl,h1,h2⟩:=rd1 hx;exact ⟨p,ns,rfl,by rw [<- Ws e3 h2];exact SqL.of h1,zg w q rfl⟩
 | any=>cases h
 | isinst t=>cases hi
 | str=>cases h
 | min2=>cases h
 | max2=>cases h
 | sorted=>cases h
 | sset=>cases hi
 | lset=>cases hi
 | trev=>cases hi
 | lrng=>cases hi
 | lrng2=>cases hi
 | repr=>cases h
 | dict=>cases h
theorem zcM {b:BI}{ds:List D}{d:D}{fr:Bool}(hK:X.K=Γ.K) (hg:X.A.guards=some []) (hu:X.A.units+61 < ϵ) (hc:X.calm=true) (hi:isI b=false) (h:biD b ds=some (d,fr)):∃ r,yP X (biV b) r/\RDc Γ r ds d fr:=by
 match ds,h with
 | [],h=>cases h
 | [d0],h=>exact zeM hK hg hu hc hi h
 | [d0,d1],h=>exact zeL hc hi h
 | _::_::_::_,h=>cases h
noncomputable def tyS:Ty->String
 | .int=>"int" | .bool=>"bool" | .str=>"str" | .tuple=>"tuple" | .list=>"list" | .dict=>"dict"
theorem zhe {t:Ty}{a:D}{c:Bool}(hK:X.K=Γ.K) (h:isTy t a=some c):
  ∃ r,yP X (.builtin "isinstance") r/\∀ (S:Store) (H:Hp) (g:G) (x:V) (Q:VK),WOk Γ H g S->Rdb Γ H g a x->Q (.bl c) H->r [x,.ty (tyS t)] H Q:=by
 refine ⟨_,VR,fun S H g x Q w hx q=>?_⟩;have go:∀ ty,TyOf X.K H x (.type ty)->W.kitOne X.K (.type ty) (.type (tyS t))=some c->_:=fun ty h1 h2=>(⟨x,tyS t,.type ty,c,rfl,h1,h2,q⟩:∃ x' T t' b,[x,V.ty (tyS t)]=[x',.ty T]/\TyOf X.K H x' t'/\W.kitOne X.K t' (.type T)=some b/\Q (.bl b) H)
 cases a with
 | non=>cases h;cases (show x=.non from hx);exact go _ .non (by cases t <;> rfl)
 | bl b=>cases (show x=.bl b from hx);exact go _ (.bl b) (by cases t <;> exact h)
 | int b=>cases (show x=.int b from hx);exact go _ (.int b) (by cases t <;> exact h)
 | str b=>cases (show x=.str b from hx);exact go _ (.str b) (by cases t <;> exact h)
 | tup l=>obtain ⟨p,ys,rfl,h1,h2⟩:=hx;exact go _ (.tup (w.rh _ _ h1)) (by cases t <;> exact h)
 | lst l=>obtain ⟨p,ys,rfl,h1,h2⟩:=hx;exact go _ (.lst h1) (by cases t <;> exact h)
 | dK ks l=>obtain ⟨p,ys,rfl,h1,h2⟩:=hx;exact go _ (.dK h1) (by cases t <;> exact h)
 | _=>cases h
end
mutual
noncomputable def JC:D->D->Bool
 | .non,.non=>true
 | .bl a,.bl b=>a==b
 | .int a,.int b=>a==b
 | .str a,.str b=>a==b
 | .tup a,.tup b=>Y7 a b
 | .ktp a,.ktp b=>Y7 a b
 | .fn a,.fn b=>a==b
 | .kdc a,.kdc b=>decide (a=b)
 | _,_=>false
noncomputable def Y7:List D->List D->Bool
 | [],[]=>true
 | a::as,b::bs=>JC a b&&Y7 as bs
 | _,_=>false
end
mutual
theorem Um:∀ (a b:D),JC a b=true->a=b
 | .non,b,h=>by cases b with | non=>rfl | _=>cases h
 | .bl a,b,h=>by cases b with | bl b=>rw [eq_of_beq (show (a==b)=true from h)] | _=>cases h
 | .int a,b,h=>by cases b with | int b=>rw [eq_of_beq (show (a==b)=true from h)] | _=>cases h
 | .str a,b,h=>by cases b with | str b=>rw [eq_of_beq (show (a==b)=true from h)] | _=>cases h
 | .tup a,b,h=>by cases b with | tup b=>rw [kj a b h] | _=>cases h
 | .ktp a,b,h=>by cases b with | ktp b=>rw [kj a b h] | _=>cases h
 | .fn a,b,h=>by cases b with | fn b=>rw [eq_of_beq (show (a==b)=true from h)] | _=>cases h
 | .kdc a,b,h=>by cases b with | kdc b=>rw [of_decide_eq_true (show decide (a=b)=true from h)] | _=>cases h
 | .lst _,b,h=>by cases b <;> cases h
 | .dK _ _,b,h=>by cases b <;> cases h
 | .dT _ _,b,h=>by cases b <;> cases h
 | .dF _ _,b,h=>by cases b <;> cases h
 | .ins _ _ _,b,h=>by cases b <;> cases h
 | .lam _ _,b,h=>by cases b <;> cases h
 | .tab _,b,h=>by cases b <;> cases h
 | .ref _,b,h=>by cases b <;> cases h
 | .scr _,b,h=>by cases b <;> cases h
theorem kj:∀ (a b:List D),Y7 a b=true->a=b
 | [],[],_=>rfl
 | a::as,b::bs,h=>by have h':(JC a b&&Y7 as bs)=true:=h;rw [ε] at h';rw [Um a b h'.1,kj as bs h'.2]
 | [],_::_,h=>by cases h
 | _::_,[],h=>by cases h
end
structure Cc where
 names:List (Str×Ϟ)
 N:List Str
 fn:Bool
 tb:Option Nat
noncomputable def visK:Option Ϟ->Bool
 | some .local=>true
 | some .cell=>true
 | some .free=>true
 | _=>false
noncomputable def gloK:Option Ϟ->Bool
 | some .globalImplicit=>true
 | _=>false
noncomputable def yu (x:Str):Bool:=!(x==("__debug__":Str))&&!(x==("__classdict__":Str))&&!(x==("__name__":Str))&&!dotted x
noncomputable def vJ:Expr->Bool
 | .Set _ _ _=>false
 | _=>true
noncomputable def notStar:Expr->Bool
 | .Starred _ _=>false
 | _=>true
noncomputable def biS:BI->Str
 | .len=>"len" | .abs=>"abs" | .int=>"int" | .str=>"str" | .tuple=>"tuple" | .list=>"list" | .sum=>"sum" | .all=>"all" | .any=>"any" | .isinst _=>"isinstance" | .min2=>"min" | .max2=>"max" | .sorted=>"sorted" | .repr=>"repr" | .dict=>"dict" | .sset=>"sorted" | .lset=>"len" | .trev=>"tuple" | .lrng=>"list" | .lrng2=>"list"
noncomputable def tyN:Ty->Str
 | .int=>"int" | .bool=>"bool" | .str=>"str" | .tuple=>"tuple" | .list=>"list" | .dict=>"dict"
noncomputable def relK (names:List (Str×Ϟ)):List (Str×Ϟ)->List (Str×Ϟ):=fun l=>l.map fun (n,k)=>if (k==.free&&names.lookup n==some .cell) then (n,.cell) else (n,k)
noncomputable def namesOf:List Expr->Option (List Str)
 | []=>some []
 | .Name x _::r=>(namesOf r).map (x::·)
 | _=>none
noncomputable def wj:Expr->Option (List Str)
 | .Name x _=>some [x]
 | .Tuple es _ _=>namesOf es
 | _=>none
noncomputable def tIs:T->List Nat
 | .one i=>[i]
 | .nst i is=>i::is
 | .tup is=>is
noncomputable def XR:Expr->Bool
 | .Tuple _ _ _=>true
 | _=>false
noncomputable def zhg:T->Bool
 | .tup _=>true
 | .nst _ _=>true
 | _=>false
noncomputable def stoK (c:Cc) (x:Str):Bool:=match c.names.lookup x with
 | some .local=>true
 | some .cell=>c.fn
 | _=>false
noncomputable def Yn:T->Bool
 | .nst _ _=>true
 | _=>false
noncomputable def zb4:Expr->Option (Str×Pos×List Expr×Nat×Pos×Nat×Pos)
  | .Tuple es k p=>(match es with
    | a::r=>(match a with
      | .Name x q=>(match r with
        | b::z=>(match z with
          | []=>(match b with
            | .Tuple fs k2 p2=>some (x,q,fs,k2,p2,k,p)
            | _=>none)
          | _=>none)
        | _=>none)
      | _=>none)
    | _=>none)
  | _=>none
noncomputable def chkT (c:Cc) (t:T) (x:Expr):Bool:=if Yn t=true then (match zb4 x with
  | some q=>(match namesOf q.2.2.1 with
    | some ns=>(q.1::ns).length==(tIs t).length&&((tIs t).zip (q.1::ns)).all fun p=>c.N[p.1]?==some p.2&&stoK c p.2
    | none=>false)
  | none=>false) else XR x==zhg t&&(match wj x with
  | some ns=>ns.length==(tIs t).length&&((tIs t).zip ns).all fun p=>c.N[p.1]?==some p.2&&stoK c p.2
  | none=>false)
noncomputable def chkS (c:Cc) (sc:aH) (js:List Nat):Bool:=
 (sc.kind==.function)&&sc.names.all (fun y=>y.2 != .cell)&&sc.names.all (fun y=>y.2 != .local||sc.names.lookup y.1==some .local)&&sc.names.all (fun y=>y.2 != .free||sc.names.lookup y.1==some .free) &&
 sc.names.all (fun y=>y.2 != .free||c.names.lookup y.1==some .cell||c.names.lookup y.1==some .free) &&
 js.all fun j=>match c.N[j]? with
  | some y=>(c.names.lookup y==some .cell||c.names.lookup y==some .free)&&sc.names.lookup y==some .free
  | none=>false
noncomputable def inner (c:Cc) (sc:aH) (xs:List Str) (js:List Nat):Cc:=⟨relK c.names sc.names,xs++js.map (fun j=>c.N.getD j ""),false,none⟩
noncomputable def zcw:Expr->Bool
 | .Tuple _ _ _=>true
 | _=>false
noncomputable def keyC:Key->Const->Bool
 | .inl i,.int j=>i==j
 | .inr s,.str t=>s==t
 | _,_=>false
noncomputable def Wi:List Key->List (Option Expr)->Bool
 | [],[]=>true
 | k::ks,some (.Constant q _ _)::r=>keyC k q&&Wi ks r
 | _,_=>false
noncomputable def sole {α:Type}:List α->Option α
  | a::r=>(match r with
    | []=>some a
    | _=>none)
  | _=>none
theorem W7 {α:Type}{l:List α}{a:α}(h:sole l=some a):l=[a]:=by
 cases l with
 | nil=>cases h
 | cons b r=>
  cases r with
  | nil=>cases h;rfl
  | cons _ _=>cases h
noncomputable def asName:Expr->Option (Str×Pos)
 | .Name n p=>some (n,p)
 | _=>none
theorem qX {x:Expr}{q:Str×Pos}(h:asName x=some q):x=.Name q.1 q.2:=by cases x <;> first | (cases h;rfl) | cases h
noncomputable def WP:Expr->Option (Expr×Expr×Pos)
 | .Subscript a b p=>some (a,b,p)
 | _=>none
theorem zb3 {x:Expr}{q:Expr×Expr×Pos}(h:WP x=some q):x=.Subscript q.1 q.2.1 q.2.2:=by cases x <;> first | (cases h;rfl) | cases h
noncomputable def V5:Expr->Option (Expr×Str×Pos)
 | .Attribute a m p=>some (a,m,p)
 | _=>none
theorem Js {x:Expr}{q:Expr×Str×Pos}(h:V5 x=some q):x=.Attribute q.1 q.2.1 q.2.2:=by cases x <;> first | (cases h;rfl) | cases h
noncomputable def uG {α:Type}:List α->Bool
 | []=>true
 | _=>false
theorem jT {α:Type}{l:List α}(h:uG l=true):l=[]:=by
 cases l with
 | nil=>rfl
 | cons _ _=>cases h
noncomputable def mtS:MT->Str
 | .get1=>"get" | .get2=>"get" | .sidx=>"index" | .index=>"index" | .join=>"join" | .split=>"split"
noncomputable def zga:Expr->Bool
 | .Call _ _ _ _=>false
 | _=>true
noncomputable def Xm:Expr->Bool
 | .Call _ (_::_) _ _=>true
 | x=>zga x
noncomputable def Qn:Expr->Bool
 | .Call _ _ _ _=>true
 | .List _ _=>true
 | .Dict _ _ _=>true
 | .BinOp _ _ _ _=>true
 | _=>false
noncomputable def parB (x:Str):aO->Bool
 | ⟨[],[a],none,[],[],none,[]⟩=>a.arg==x
 | _=>false
noncomputable def bodB (r:LamR):Expr->Bool
 | .Call (.Name g _) [.Name p _,.Name f _] [] _=>g==r.g&&p==r.p&&f==r.f
 | _=>false
noncomputable def lscB (r:LamR) (sc:aH):Bool:=
 (sc.kind==.function)&&!sc.isCoroutine&&!sc.isGenerator&&sc.names.all (fun y=>y.2 != .cell)&&(sc.names.lookup r.p==some .local)&&(sc.names.lookup r.f==some .free)&&sc.names.all (fun y=>y.2 != .free||y.1==r.f)&&!(r.p==r.f)&&gloK (sc.names.lookup r.g)&&yu r.p&&yu r.f&&yu r.g
noncomputable def lamB (r:LamR) (pr:aO) (b:Expr) (sc:aH):Bool:=parB r.p pr&&bodB r b&&lscB r sc
noncomputable def jf:Expr->Option (Str×List Expr)
 | .Call (.Name y _) zs [] _=>some (y,zs)
 | _=>none
theorem Y8 {x:Expr}{q:Str×List Expr}(h:jf x=some q):∃ p pos,x=.Call (.Name q.1 p) q.2 [] pos:=by
 unfold jf at h;split at h
 ·cases h;exact ⟨_,_,rfl⟩
 ·cases h
noncomputable def chkL (B:Tb) (c:Cc) (f p:Nat) (js:List Nat) (pr:aO) (b:Expr) (sc:aH):Bool:=!c.fn&&c.tb==some p&&decide (B.fns.length<=f)&&(match B.lams[f - B.fns.length]? with
  | some r=>lamB r pr b sc&&B.fns[r.gi]?==some r.g&&c.names.lookup r.f==some .cell&&(match js with
    | [j]=>c.N[j]?==some r.f
    | _=>false)
  | none=>false)
mutual
noncomputable def chkE (B:Tb) (c:Cc):E->Expr->Bool
  | .var i,.Name x _=>c.N[i]?==some x&&visK (c.names.lookup x)&&yu x
  | .con d,.Constant k _ _=>match d,k with
    | .non,.none=>true
    | .bl a,.bool b=>a==b
    | .int a,.int b=>a==b
    | .str a,.str b=>a==b
    | _,_=>false
  | .glo n d,.Name x _=>(match B.consts[n]? with
    | some p=>p.1==x&&JC p.2 d
    | none=>false)&&gloK (c.names.lookup x)&&yu x
  | .bin op a b,.BinOp x op' y _=>op==op'&&chkE B c a x&&chkE B c b y
  | .neg a,.UnaryOp op x _=>op==.USub&&chkE B c a x
  | .cmp op a b,.Compare x [op'] [y] _=>op==op'&&chkE B c a x&&chkE B c b y&&vJ y
  | .chn o1 o2 a b d,.Compare x [p1,p2] [y,z] _=>o1==p1&&o2==p2&&chkE B c a x&&chkE B c b y&&chkE B c d z&&vJ z
  | .not a,.UnaryOp op x _=>op==.Not&&chkE B c a x
  | .and a b,.BoolOp op (x::y::r) p=>op==.And&&chkE B c a x&&chkE B c b (.BoolOp .And (y::r) p)
  | .or a b,.BoolOp op (x::y::r) p=>op==.Or&&chkE B c a x&&chkE B c b (.BoolOp .Or (y::r) p)
  | .one a,.BoolOp op [x] _=>chkE B c a x
  | .ite t a b,.IfExp x y z _=>chkE B c t x&&chkE B c a y&&chkE B c b z
  | .tup es,.Tuple xs _ _=>zX B c es xs
  | .lst es,.List xs _=>zX B c es xs
  | .dic tk ks es,.Dict keys vs _=>Wi ks keys&&jB B c es vs&&decide (ks.length=es.length)&&decide (ks.length<=15)
  | .sub a i,.Subscript x y _=>chkE B c a x&&chkE B c i y
  | .slc a lo hi,.Subscript x (.Slice l h none _) _=>chkE B c a x&&chkO B c lo l&&chkO B c hi h
  | .bi b es,.Call (.Name x _) args [] _=>(match b with
    | .isinst t=>x==("isinstance":Str)&&B.bare.contains x&&B.bare.contains (tyN t)&&gloK (c.names.lookup x)&&(match es,args with
      | [e],[y,.Name z _]=>chkE B c e y&&notStar y&&z==tyN t&&gloK (c.names.lookup z)
      | _,_=>false)
    | .sset=>false
    | .lset=>false
    | .trev=>false
    | .lrng=>x==("list":Str)&&B.bare.contains x&&gloK (c.names.lookup x)&&(match args with
      | [q]=>(match jf q with
        | some (y,zs)=>y==("range":Str)&&B.bare.contains y&&gloK (c.names.lookup y)&&zX B c es zs&&decide (es.length=1)
        | none=>false)
      | _=>false)
    | .lrng2=>x==("list":Str)&&B.bare.contains x&&gloK (c.names.lookup x)&&(match args with
      | [q]=>(match jf q with
        | some (y,zs)=>y==("range":Str)&&B.bare.contains y&&gloK (c.names.lookup y)&&zX B c es zs&&decide (es.length=2)
        | none=>false)
      | _=>false)
    | b=>x==biS b&&B.bare.contains x&&gloK (c.names.lookup x)&&zX B c es args&&!es.isEmpty)
  | .call f es,.Call (.Name x _) args [] _=>B.fns[f]?==some x&&gloK (c.names.lookup x)&&yu x&&zX B c es args&&!es.isEmpty
  | .mth m o es,.Call f args kws cp=>(match V5 f with
    | some q=>q.2.1==mtS m&&chkE B c o q.1&&zX B c es args&&uG kws&&q.2.2.endLine==cp.line&&Xm q.1&&decide (1<=es.length)&&decide (es.length<=9)
    | none=>false)
  | .lam f p js,.Lambda pr b sc _=>chkL B c f p js pr b sc
  | .cvl i es,.Call (.Name x _) args [] _=>c.N[i]?==some x&&visK (c.names.lookup x)&&yu x&&zX B c es args&&!es.isEmpty
  | .box e,x=>Qn x&&chkE B c e x
  | .comp t js it ifs elt,.ListComp y [⟨tgt,iter,cs,k⟩] sc _=>k==0&&chkS c sc js&&chkI B c it tgt iter&&vJ iter&&(match wj tgt with
    | some xs=>decide ((xs++js.map (fun j=>c.N.getD j "")).Nodup)&&nT t==xs.length&&tIs t==Ϲ xs.length&&chkT (inner c sc xs js) t tgt&&chkE B (inner c sc xs js) elt y&&jB B (inner c sc xs js) ifs cs&&decide (ifs.length<=1)
    | none=>false)
  | _,_=>false
noncomputable def chkI (B:Tb) (c:Cc):E->Expr->Expr->Bool
 | .seq e,_,x=>chkE B c e x
 | .keys e,_,x=>chkE B c e x
 | .enum e,tg,.Call (.Name f _) [y] [] _=>zcw tg&&f==("enumerate":Str)&&B.bare.contains f&&gloK (c.names.lookup f)&&chkE B c e y&&notStar y
 | .rng none hi,_,.Call (.Name f _) [y] [] _=>f==("range":Str)&&B.bare.contains f&&gloK (c.names.lookup f)&&chkE B c hi y&&notStar y
 | _,_,_=>false
noncomputable def zX (B:Tb) (c:Cc):List E->List Expr->Bool
 | [],[]=>true
 | e::es,x::xs=>chkE B c e x&&notStar x&&zX B c es xs
 | _,_=>false
noncomputable def jB (B:Tb) (c:Cc):List E->List Expr->Bool
 | [],[]=>true
 | e::es,x::xs=>chkE B c e x&&jB B c es xs
 | _,_=>false
noncomputable def chkO (B:Tb) (c:Cc):Option E->Option Expr->Bool
 | none,none=>true
 | some e,some x=>chkE B c e x
 | _,_=>false
noncomputable def zeE (B:Tb) (c:Cc):List E->List cW->Bool
 | [],[]=>true
 | e::es,⟨some _,x,_⟩::xs=>chkE B c e x&&zeE B c es xs
 | _,_=>false
end
theorem Z8 {x:ϖ}{Q:ϖ->Prop}(h:Ν x.ctorIdx 0=true) (f:∀ a0 a1 a2,Q (.BoolOp a0 a1 a2)):Q x:=by
 revert h;cases x with
 | BoolOp a0 a1 a2=>exact fun _=>f a0 a1 a2
 | _=>exact nobE
theorem zdR {x:ϖ}{Q:ϖ->Prop}(h:Ν x.ctorIdx 2=true) (f:∀ a0 a1 a2 a3,Q (.BinOp a0 a1 a2 a3)):Q x:=by
 revert h;cases x with
 | BinOp a0 a1 a2 a3=>exact fun _=>f a0 a1 a2 a3
 | _=>exact nobE
theorem Xr {x:ϖ}{Q:ϖ->Prop}(h:Ν x.ctorIdx 3=true) (f:∀ a0 a1 a2,Q (.UnaryOp a0 a1 a2)):Q x:=by
 revert h;cases x with
 | UnaryOp a0 a1 a2=>exact fun _=>f a0 a1 a2
 | _=>exact nobE
theorem zbA {x:ϖ}{Q:ϖ->Prop}(h:Ν x.ctorIdx 4=true) (f:∀ a0 a1 a2 a3,Q (.Lambda a0 a1 a2 a3)):Q x:=by
 revert h;cases x with
 | Lambda a0 a1 a2 a3=>exact fun _=>f a0 a1 a2 a3
 | _=>exact nobE
theorem zdQ {x:ϖ}{Q:ϖ->Prop}(h:Ν x.ctorIdx 5=true) (f:∀ a0 a1 a2 a3,Q (.IfExp a0 a1 a2 a3)):Q x:=by
 revert h;cases x with
 | IfExp a0 a1 a2 a3=>exact fun _=>f a0 a1 a2 a3
 | _=>exact nobE
theorem zgB {x:ϖ}{Q:ϖ->Prop}(h:Ν x.ctorIdx 6=true) (f:∀ a0 a1 a2,Q (.Dict a0 a1 a2)):Q x:=by
 revert h;cases x with
 | Dict a0 a1 a2=>exact fun _=>f a0 a1 a2
 | _=>exact nobE
theorem Zr {x:ϖ}{Q:ϖ->Prop}(h:Ν x.ctorIdx 8=true) (f:∀ a0 a1 a2 a3,Q (.ListComp a0 a1 a2 a3)):Q x:=by
 revert h;cases x with
 | ListComp a0 a1 a2 a3=>exact fun _=>f a0 a1 a2 a3
 | _=>exact nobE
theorem Xv {x:ϖ}{Q:ϖ->Prop}(h:Ν x.ctorIdx 15=true) (f:∀ a0 a1 a2 a3,Q (.Compare a0 a1 a2 a3)):Q x:=by
 revert h;cases x with
 | Compare a0 a1 a2 a3=>exact fun _=>f a0 a1 a2 a3
 | _=>exact nobE
theorem Zu {x:ϖ}{Q:ϖ->Prop}(h:Ν x.ctorIdx 16=true) (f:∀ a0 a1 a2 a3,Q (.Call a0 a1 a2 a3)):Q x:=by
 revert h;cases x with
 | Call a0 a1 a2 a3=>exact fun _=>f a0 a1 a2 a3
 | _=>exact nobE
theorem Zt {x:ϖ}{Q:ϖ->Prop}(h:Ν x.ctorIdx 19=true) (f:∀ a0 a1 a2,Q (.Constant a0 a1 a2)):Q x:=by
 revert h;cases x with
 | Constant a0 a1 a2=>exact fun _=>f a0 a1 a2
 | _=>exact nobE
theorem qi {x:ϖ}{Q:ϖ->Prop}(h:Ν x.ctorIdx 21=true) (f:∀ a0 a1 a2,Q (.Subscript a0 a1 a2)):Q x:=by
 revert h;cases x with
 | Subscript a0 a1 a2=>exact fun _=>f a0 a1 a2
 | _=>exact nobE
theorem jj {x:ϖ}{Q:ϖ->Prop}(h:Ν x.ctorIdx 23=true) (f:∀ a0 a1,Q (.Name a0 a1)):Q x:=by
 revert h;cases x with
 | Name a0 a1=>exact fun _=>f a0 a1
 | _=>exact nobE
theorem ofList {x:ϖ}{Q:ϖ->Prop}(h:Ν x.ctorIdx 24=true) (f:∀ a0 a1,Q (.List a0 a1)):Q x:=by
 revert h;cases x with
 | List a0 a1=>exact fun _=>f a0 a1
 | _=>exact nobE
theorem zdN {x:ϖ}{Q:ϖ->Prop}(h:Ν x.ctorIdx 25=true) (f:∀ a0 a1 a2,Q (.Tuple a0 a1 a2)):Q x:=by
 revert h;cases x with
 | Tuple a0 a1 a2=>exact fun _=>f a0 a1 a2
 | _=>exact nobE
theorem zdO {x:ϖ}{Q:ϖ->Prop}(h:Ν x.ctorIdx 26=true) (f:∀ a0 a1 a2 a3,Q (.Slice a0 a1 a2 a3)):Q x:=by
 revert h;cases x with
 | Slice a0 a1 a2 a3=>exact fun _=>f a0 a1 a2 a3
 | _=>exact nobE
theorem qj {x:au}{Q:au->Prop}(h:Ν x.ctorIdx 5=true) (f:∀ a0 a1 a2,Q (.Assign a0 a1 a2)):Q x:=by
 revert h;cases x with
 | Assign a0 a1 a2=>exact fun _=>f a0 a1 a2
 | _=>exact nobE
theorem Vf {x:au}{Q:au->Prop}(h:Ν x.ctorIdx 24=true) (f:∀ a0 a1,Q (.Expr a0 a1)):Q x:=by
 revert h;cases x with
 | Expr a0 a1=>exact fun _=>f a0 a1
 | _=>exact nobE
theorem Xu {x:au}{Q:au->Prop}(h:Ν x.ctorIdx 3=true) (f:∀ a0 a1,Q (.Return a0 a1)):Q x:=by
 revert h;cases x with
 | Return a0 a1=>exact fun _=>f a0 a1
 | _=>exact nobE
theorem zi6 {x:au}{Q:au->Prop}(h:Ν x.ctorIdx 12=true) (f:∀ a0 a1 a2 a3,Q (.If a0 a1 a2 a3)):Q x:=by
 revert h;cases x with
 | If a0 a1 a2 a3=>exact fun _=>f a0 a1 a2 a3
 | _=>exact nobE
theorem zby {x:au}{Q:au->Prop}(h:Ν x.ctorIdx 11=true) (f:∀ a0 a1 a2 a3,Q (.While a0 a1 a2 a3)):Q x:=by
 revert h;cases x with
 | While a0 a1 a2 a3=>exact fun _=>f a0 a1 a2 a3
 | _=>exact nobE
theorem zgA {x:au}{Q:au->Prop}(h:Ν x.ctorIdx 9=true) (f:∀ a0 a1 a2 a3 a4,Q (.For a0 a1 a2 a3 a4)):Q x:=by
 revert h;cases x with
 | For a0 a1 a2 a3 a4=>exact fun _=>f a0 a1 a2 a3 a4
 | _=>exact nobE
theorem zdP {x:au}{Q:au->Prop}(h:Ν x.ctorIdx 25=true) (f:∀ a0,Q (.Pass a0)):Q x:=by
 revert h;cases x with
 | Pass a0=>exact fun _=>f a0
 | _=>exact nobE
theorem zbz {x:au}{Q:au->Prop}(h:Ν x.ctorIdx 26=true) (f:∀ a0,Q (.Break a0)):Q x:=by
 revert h;cases x with
 | Break a0=>exact fun _=>f a0
 | _=>exact nobE
theorem Vg {x:au}{Q:au->Prop}(h:Ν x.ctorIdx 27=true) (f:∀ a0,Q (.Continue a0)):Q x:=by
 revert h;cases x with
 | Continue a0=>exact fun _=>f a0
 | _=>exact nobE
structure EnvO (Γ:Gm) (Hz H:Hp) (g:G) (ρ:List Slot) (σ:L2.St):Prop where
 len:ρ.length=σ.length
 sh:∀ (i:Nat) (d:D),ρ[i]?=some (.sh d)->∃ v,σ[i]?=some (some v)/\Has Γ g d v
 ow:∀ (i:Nat) (d:D),ρ[i]?=some (.ow d)->∃ a,σ[i]?=some (some (.ref a))/\Hz a=none/\g.R a=none/\a ∉ g.α/\z9 Γ H g a d/\yF d=false
 inj:∀ (i j:Nat) (d e:D) (a:Addr),ρ[i]?=some (.ow d)->ρ[j]?=some (.ow e)->σ[i]?=some (some (.ref a))->σ[j]?=some (some (.ref a))->i=j
section
variable {Γ:Gm}{H H':Hp}{g g':G}{S:Store}{a:Addr}
theorem WOk.z6 {o:HO}(w:WOk Γ H g S) (hr:g.R a=none) (ha:a ∉ g.α):WOk Γ (upd H a o) g S where
 rh:=fun b u q=>by
  have e:=w.rh b u q;have:b≠a:=by rintro rfl;rw [hr] at q;cases q
  rw [zc this];exact e
 len:=w.len
 nd:=w.nd
 off:=w.off
 cell:=fun k c b h1 h2=>(w.cell k c b h1 h2).mono (Le.refl g) fun o e=>by
  have:b≠a:=by rintro rfl;exact ha (Ξ h2)
  rw [zc this];exact e
theorem Step.z6 {o:HO}(s:Step H g H' g') (h:H a=none):Step H g (upd H' a o) g' where
 le:=s.le
 fr:=fun b u e n=>by rw [zc (zq e h)];exact s.fr b u e n
 ex:=fun b u e=>by rw [zc (zq e h)];exact s.ex b u e
 na:=s.na
 nr:=s.nr
theorem Step.kept {o:HO}(s:Step H g H' g') (h:H a=some o) (hr:g.R a=none) (ha:a ∉ g.α) (hm:fixB o=false:=by rfl):H' a=some o/\g'.R a=none/\a ∉ g'.α:=by
 refine ⟨s.fr a o h ha,?_,fun m=>?_⟩
 ·cases q:g'.R a with
  | none=>rfl
  | some u=>
   rcases s.nr a (by rw [q];simp) with z | z | z | ⟨xs,z,zf⟩
   ·exact absurd hr z
   ·rw [h] at z;cases z
   ·exact absurd z ha
   ·rw [h] at z;cases z;rw [hm] at zf;cases zf
 ·rcases s.na a m with z | z
  ·exact ha z
  ·rw [h] at z;cases z
end
section
variable {Γ:Gm}{Hz H H':Hp}{g g':G}{S:Store}{ρ:List Slot}{σ:L2.St}
theorem zr (env:EnvO Γ Hz H g ρ σ) (st:Step H g H' g'):EnvO Γ Hz H' g' ρ σ:=by
 refine ⟨env.len,fun i d h=>?_,fun i d h=>?_,env.inj⟩
 ·obtain ⟨v,h1,h2⟩:=env.sh i d h;exact ⟨v,h1,h2.mono st.le⟩
 ·obtain ⟨a,h1,h2,h3,h4,h5,h6⟩:=env.ow i d h;obtain ⟨o,ho,hm⟩:=h5.U8 h3;obtain ⟨k1,k2,k3⟩:=st.kept ho h3 h4 hm;exact ⟨a,h1,h2,k2,k3,h5.mono st.le fun o' z=>by rw [ho] at z;cases z;exact k1,h6⟩
def VN (Γ:Gm) (Hb:Hp) (x:Vl) (v:V) (H:Hp) (g:G):Prop:=match x.2 with
 | .st=>Has Γ g x.1 v
 | .fr=>∃ a,v=.ref a/\Hb a=none/\g.R a=none/\a ∉ g.α/\z9 Γ H g a x.1
 | .bo=>∃ a,v=.ref a/\g.R a=none/\a ∉ g.α/\z9 Γ H g a x.1
theorem VN.of {Hb:Hp}{d:D}{fr:Bool}{v:V}(h:VOk Γ Hb d fr v H g):VN Γ Hb (ofB (d,fr)) v H g:=by cases fr <;> exact h
theorem VN.back {H1:Hp}{g1:G}{x:Vl}{v:V}(h:VN Γ H1 x v H' g') (s:Step H g H1 g1):VN Γ H x v H' g':=by
 obtain ⟨d,k⟩:=x;cases k with
 | fr=>
  obtain ⟨a,e,h0,r⟩:=h;exact ⟨a,e,s.UG h0,r⟩
 | _=>exact h
theorem VN.step {Hb:Hp}{x:Vl}{v:V}(h:VN Γ Hb x v H g) (s:Step H g H' g'):VN Γ Hb x v H' g':=by
 obtain ⟨d,k⟩:=x;cases k with
 | st=>exact (show Has Γ g d v from h).mono s.le
 | fr=>
  obtain ⟨a,e,h0,h1,h2,h3⟩:=h;obtain ⟨o,ho,hm⟩:=h3.U8 h1;obtain ⟨k1,k2,k3⟩:=s.kept ho h1 h2 hm;exact ⟨a,e,h0,k2,k3,h3.mono s.le fun o' q=>by rw [ho] at q;cases q;exact k1⟩
 | bo=>
  obtain ⟨a,e,h1,h2,h3⟩:=h;obtain ⟨o,ho,hm⟩:=h3.U8 h1;obtain ⟨k1,k2,k3⟩:=s.kept ho h1 h2 hm;exact ⟨a,e,k2,k3,h3.mono s.le fun o' q=>by rw [ho] at q;cases q;exact k1⟩
theorem Jo {a:Addr}{d:D}(hr:g.R a=none) (h:z9 Γ H g a d):Rdb Γ H g (zL S d) (.ref a):=by
 cases d with
 | lst ds=>obtain ⟨vs,h1,h2⟩:=h;exact ⟨a,vs,rfl,h1,h2⟩
 | dK ks ds=>obtain ⟨vs,h1,h3,h2⟩:=h;exact ⟨a,vs,rfl,h1,h3,h2⟩
 | dT ks ds=>obtain ⟨vs,h1,h3,h2⟩:=h;exact ⟨a,vs,rfl,h1,h3,h2⟩
 | ref=>obtain ⟨o,h1,_⟩:=h;rw [hr] at h1;cases h1
 | ins=>exact ⟨a,rfl⟩
 | tab=>exact ⟨a,rfl⟩
 | _=>exact h.elim
theorem VN.rdb {Hb:Hp}{x:Vl}{v:V}(h:VN Γ Hb x v H g) (w:WOk Γ H g S):Rdb Γ H g (zL S x.1) v:=by
 obtain ⟨d,k⟩:=x;cases k with
 | st=>exact Qk w h
 | fr=>obtain ⟨a,rfl,_,h1,_,h3⟩:=h;exact Jo h1 h3
 | bo=>obtain ⟨a,rfl,h1,_,h3⟩:=h;exact Jo h1 h3
theorem VN.sc {Hb:Hp}{d:D}{k:Kd}{v:V}(h:VN Γ Hb (d,k) v H g) (hc:∀ a,¬ z9 Γ H g a d):Has Γ g d v:=by
 cases k with
 | st=>exact h
 | fr=>obtain ⟨a,_,_,_,_,h3⟩:=h;exact (hc a h3).elim
 | bo=>obtain ⟨a,_,_,_,h3⟩:=h;exact (hc a h3).elim
theorem VN.keep {x:Vl}{v:V}{Q:D->Prop}(h:VN Γ H x v H' g') (st:Step H g H' g') (w:WOk Γ H' g' S) (k:EV.keep x Q):∃ g2,Step H g H' g2/\WOk Γ H' g2 S/\Has Γ g2 x.1 v/\Q x.1:=by
 obtain ⟨d,kk⟩:=x;cases kk with
 | st=>exact ⟨g',st,w,h,k⟩
 | fr=>
  obtain ⟨g2,a,b,c,_⟩:=freeze (fr:=true) st w h rfl;exact ⟨g2,a,b,c,k⟩
 | bo=>exact k.elim
end
def TX (Γ:Gm) (cf:Cf) (e:E):TE:=fun σ H Q=>∃ ρ S V g Hz,wpE cf ρ e V S/\WOk Γ H g S/\EnvO Γ Hz H g ρ σ/\∀ x v H' g' S',Step H g H' g'->WOk Γ H' g' S'->VN Γ H x v H' g'->V x S'->Q v H'
def TB (Γ:Gm) (cf:Cf) (e:E):TT:=fun σ H Q=>∃ ρ S V g Hz,wpE cf ρ e V S/\WOk Γ H g S/\EnvO Γ Hz H g ρ σ/\∀ x H' g' S',Step H g H' g'->WOk Γ H' g' S'->V x S'->isB x.1 fun b=>Q b H'
def TXs (Γ:Gm) (cf:Cf) (es:List E):TA:=fun σ H Q=>∃ ρ S W g Hz,wpEs cf ρ es W S/\WOk Γ H g S/\EnvO Γ Hz H g ρ σ/\∀ ds vs H' g' S',Step H g H' g'->WOk Γ H' g' S'->Hass Γ g' ds vs->W ds S'->Q vs H'
def TXo (Γ:Gm) (cf:Cf) (o:Option E):TO:=fun σ H Q=>∃ ρ S W g Hz,wpO cf ρ o W S/\WOk Γ H g S/\EnvO Γ Hz H g ρ σ/\∀ i H' g' S',Step H g H' g'->WOk Γ H' g' S'->W i S'->Q i H'
section
variable {Γ:Gm}{cf:Cf}{σ:L2.St}{H:Hp}{P:Prop}
theorem goX {e:E}{Q:VK}(h:TX Γ cf e σ H Q) (f:∀ ρ S V g Hz,wpE cf ρ e V S->WOk Γ H g S->EnvO Γ Hz H g ρ σ->(∀ x v H' g' S',Step H g H' g'->WOk Γ H' g' S'->VN Γ H x v H' g'->V x S'->Q v H')->P):P:=
 let ⟨ρ,S,V,g,Hz,a,b,c,d⟩:=h;f ρ S V g Hz a b c d
theorem goB {e:E}{Q} (h:TB Γ cf e σ H Q) (f:∀ ρ S V g Hz,wpE cf ρ e V S->WOk Γ H g S->EnvO Γ Hz H g ρ σ->(∀ x H' g' S',Step H g H' g'->WOk Γ H' g' S'->V x S'->isB x.1 fun b=>Q b H')->P):P:=
 let ⟨ρ,S,V,g,Hz,a,b,c,d⟩:=h;f ρ S V g Hz a b c d
theorem goS {es:List E}{Q} (h:TXs Γ cf es σ H Q) (f:∀ ρ S W g Hz,wpEs cf ρ es W S->WOk Γ H g S->EnvO Γ Hz H g ρ σ->(∀ ds vs H' g' S',Step H g H' g'->WOk Γ H' g' S'->Hass Γ g' ds vs->W ds S'->Q vs H')->P):P:=
 let ⟨ρ,S,V,g,Hz,a,b,c,d⟩:=h;f ρ S V g Hz a b c d
theorem goO {o:Option E}{Q} (h:TXo Γ cf o σ H Q) (f:∀ ρ S W g Hz,wpO cf ρ o W S->WOk Γ H g S->EnvO Γ Hz H g ρ σ->(∀ i H' g' S',Step H g H' g'->WOk Γ H' g' S'->W i S'->Q i H')->P):P:=
 let ⟨ρ,S,V,g,Hz,a,b,c,d⟩:=h;f ρ S V g Hz a b c d
end
def rAny (X:Cx) (f:δ->δ->Sem δ):R2:=fun x y H Q=>∃ r,OpR X f r/\r x y H Q
theorem Ve {X:Cx}{f:δ->δ->Sem δ}:OpR X f (rAny X f):=fun pj s σ H x y v u Q I rx ry ⟨_,h,q⟩=>h pj s σ H x y v u Q I rx ry q
def zg4 (X:Cx):R2:=fun x y H Q=>∃ r,IxR X r/\r x y H Q
theorem zg3 {X:Cx}:IxR X (zg4 X):=fun a b pj s σ H x y v u Q I rx ry ⟨_,h,q⟩=>h a b pj s σ H x y v u Q I rx ry q
def zh9 (X:Cx):V->Option Int->Option Int->Hp->VK->Prop:=fun x l u H Q=>∃ r,SlR X r/\r x l u H Q
theorem zfx {X:Cx}:SlR X (zh9 X):=fun pj s σ H x v vl vu lo hi sl Q I rx hs pl pu ⟨_,h,q⟩=>h pj s σ H x v vl vu lo hi sl Q I rx hs pl pu q
def zhJ (X:Cx) (f:δ):List V->Hp->VK->Prop:=fun xs H Q=>∃ r,yP X f r/\r xs H Q
theorem zaF {X:Cx}{f:δ}:yP X f (zhJ X f):=fun pj s σ H xs us Q I rv ⟨_,h,q⟩=>h pj s σ H xs us Q I rv q
section
variable {X:Cx}{Γ:Gm}{cf:Cf}{x y z:Expr}{pos p:Pos}{a b c:E}
theorem za9 {i:Nat}{n:Str}(hN:X.N[i]?=some n) (hv:Vis X.env.scope n) (hd:(n==("__debug__":Str))=false) (hcd:(n==("__classdict__":Str))=false):PE X (.Name n pos) (TX Γ cf (.var i)):=by
 refine (Xo hN hv hd hcd).imp fun σ H Q h0=>goX h0 fun ρ S V g Hz hw w env k=>?_
 have hw:sel ρ[i]? (fun d=>V (d,.st) S) (fun d=>V (d,.bo) S):=hw;cases e:ρ[i]? with
 | none=>rw [e] at hw;exact hw.elim
 | some s=>
  rw [e] at hw;cases s with
  | no=>exact hw.elim
  | sh d=>
   obtain ⟨v,h1,h2⟩:=env.sh i d e;exact ⟨v,h1,k (d,.st) v H g S (Step.refl H g) w h2 hw⟩
  | ow d=>
   obtain ⟨a,h1,h2,h3,h4,h5,_⟩:=env.ow i d e;exact ⟨_,h1,k (d,.bo) _ H g S (Step.refl H g) w ⟨a,rfl,h3,h4,h5⟩ hw⟩
theorem zfS {t:V}{d:D}{e:E}(h:PE X x (tC t)) (hd:∀ g,Has Γ g d t) (he:∀ ρ V S,wpE cf ρ e V S->V (d,.st) S):PE X x (TX Γ cf e):=h.imp fun σ H Q h0=>goX h0 fun ρ S V g Hz hw w env k=>k (d,.st) _ H g S (Step.refl H g) w (hd g) (he _ _ _ hw)
theorem two {G1:V->V->Hp->Prop}{σ:L2.St}{H:Hp}{ρ:List Slot}{S:Store}{g:G}{Hz:Hp}{W:Vl->Vl->Store->Prop}(hw:wpE cf ρ a (fun x S1=>wpE cf ρ b (fun y S2=>W x y S2) S1) S) (w:WOk Γ H g S) (env:EnvO Γ Hz H g ρ σ)
  (k:∀ x y u v H' g' S',Step H g H' g'->WOk Γ H' g' S'->VN Γ H x u H' g'->VN Γ H y v H' g'->W x y S'->G1 u v H'):TX Γ cf a σ H fun u H1=>TX Γ cf b σ H1 fun v H2=>G1 u v H2:=
 ⟨ρ,S,_,g,Hz,hw,w,env,fun x u H1 g1 S1 st1 w1 v1 h1=>⟨ρ,S1,_,g1,Hz,h1,w1,zr env st1,fun y v H2 g2 S2 st2 w2 v2 h2=>k x y u v H2 g2 S2 (st1.trans st2) w2 (v1.step st2) (v2.back st1) h2⟩⟩
theorem ziH {op:gH}(hK:X.K=Γ.K) (ha:PE X x (TX Γ cf a)) (hb:PE X y (TX Γ cf b)):PE X (.BinOp x op y pos) (TX Γ cf (.bin op a b)):=
 (ziY Ve ha hb).imp fun σ H Q h0=>goX h0 fun ρ S V g Hz hw w env k=>two hw w env fun x y u v H' g' S' st w' vx vy h=>by
  have h:opt (opD op (zL S' x.1) (zL S' y.1)) (fun p=>V (ofB p) S'):=h;cases eo:opD op (zL S' x.1) (zL S' y.1) with
  | none=>rw [eo] at h;exact h.elim
  | some p=>
   rw [eo] at h;obtain ⟨r,h1,h2⟩:=zgp (X:=X) hK eo;exact ⟨r,h1,h2 S' H' g' u v Q w' (vx.rdb w') (vy.rdb w') fun t H2 g2 st2 _ w2 vo=>k _ t H2 g2 S' (st.trans st2) w2 ((VN.of vo).back st) h⟩
theorem cmp2 {op:fP}{u v:V}{dx dy:Vl}{Hb H':Hp}{g':G}{S':Store}{Q:VK}{T:Bool->Prop}(hK:X.K=Γ.K) (hu:X.A.units+61 < ϵ) (w':WOk Γ H' g' S') (vx:VN Γ Hb dx u H' g') (vy:VN Γ Hb dy v H' g') (h:opt (cmpD op (zL S' dx.1) (zL S' dy.1)) T)
  (k:∀ r H2 g2,Step H' g' H2 g2->WOk Γ H2 g2 S'->T r->Q (.bl r) H2):rAny X (ϋ op) u v H' Q:=by
 cases eo:cmpD op (zL S' dx.1) (zL S' dy.1) with
 | none=>rw [eo] at h;exact h.elim
 | some r=>
  rw [eo] at h;obtain ⟨r2,h1,h2⟩:=zeC (X:=X) hK hu eo;refine ⟨r2,h1,h2 S' H' g' u v Q w' (vx.rdb w') (vy.rdb w') fun t H2 g2 st2 _ w2 vo=>?_⟩;cases (show t=.bl r from vo);exact k r H2 g2 st2 w2 h
theorem ziE {op:fP}(hK:X.K=Γ.K) (hu:X.A.units+61 < ϵ) (ha:PE X x (TX Γ cf a)) (hb:PE X y (TX Γ cf b)) (hm:iC op y=false):PE X (.Compare x [op] [y] pos) (TX Γ cf (.cmp op a b))/\PT X (.Compare x [op] [y] pos) (TB Γ cf (.cmp op a b)):=
 ⟨(zdB Ve ha hb hm).imp fun σ H Q h0=>goX h0 fun ρ S V g Hz hw w env k=>two hw w env fun x y u v H' g' S' st w' vx vy h=>cmp2 hK hu w' vx vy h fun r H2 g2 st2 w2 h=>k (.bl r,.st) _ H2 g2 S' (st.trans st2) w2 rfl h,
 (zdr Ve ha hb hm).imp fun σ H Q h0=>goB h0 fun ρ S V g Hz hw w env k=>two hw w env fun x y u v H' g' S' st w' vx vy h=>cmp2 hK hu w' vx vy h fun r H2 g2 st2 w2 h=>⟨r,rfl,k (.bl r,.st) H2 g2 S' (st.trans st2) w2 h⟩⟩
theorem chn3 {o1 o2:fP}{σ:L2.St}{H:Hp}{Q:VK}{ρ:List Slot}{S:Store}{g:G}{Hz:Hp}{V:Po}(hK:X.K=Γ.K) (hu:X.A.units+61 < ϵ) (hw:wpE cf ρ (.chn o1 o2 a b c) V S) (w:WOk Γ H g S) (env:EnvO Γ Hz H g ρ σ)
  (k:∀ r H' g' S',Step H g H' g'->WOk Γ H' g' S'->V (.bl r,.st) S'->Q (.bl r) H'):KY (rAny X (ϋ o1)) (rAny X (ϋ o2)) (TX Γ cf a) (TX Γ cf b) (TX Γ cf c) σ H Q:=
 two hw w env fun x y u v H' g' S' st w' vx vy h=>cmp2 hK hu w' vx vy h fun r H2 g2 st2 w2 h=>⟨r,rfl,by
  cases r with
  | false=>exact iteF (k false H2 g2 S' (st.trans st2) w2 h)
  | true=>exact iteT ⟨ρ,S',_,g2,Hz,h,w2,zr env (st.trans st2),fun z t H3 g3 S3 st3 w3 vz h3=>cmp2 hK hu w3 (vy.step (st2.trans st3)) (vz.back (st.trans st2)) h3 fun r H4 g4 st4 w4 h4=>k r H4 g4 S3 (((st.trans st2).trans st3).trans st4) w4 h4⟩⟩
theorem ziF {o1 o2:fP}(hK:X.K=Γ.K) (hu:X.A.units+61 < ϵ) (ha:PE X x (TX Γ cf a)) (hb:PE X y (TX Γ cf b)) (hc:PE X z (TX Γ cf c)) (hm:lastMarks [o1,o2] [y,z]=false):PE X (.Compare x [o1,o2] [y,z] pos) (TX Γ cf (.chn o1 o2 a b c))/\PT X (.Compare x [o1,o2] [y,z] pos) (TB Γ cf (.chn o1 o2 a b c)):=
 ⟨(zbs Ve Ve ha hb hc hm).imp fun σ H Q h0=>goX h0 fun ρ S V g Hz hw w env k=>chn3 hK hu hw w env fun r H' g' S' st w' h=>k (.bl r,.st) _ H' g' S' st w' rfl h,
 (zbe Ve Ve ha hb hc hm).imp fun σ H Q h0=>goB h0 fun ρ S V g Hz hw w env k=>chn3 hK hu hw w env fun r H' g' S' st w' h=>⟨r,rfl,k _ H' g' S' st w' h⟩⟩
theorem uH {d:D}{Q:Bool->Prop}(h:isB d Q):∃ b,d=.bl b/\Q b:=by
 cases d with
 | bl b=>exact ⟨b,rfl,h⟩
 | _=>exact h.elim
theorem zhf {d:D}{Q:Int->Prop}(h:isZ d Q):∃ b,d=.int b/\Q b:=by
 cases d with
 | int b=>exact ⟨b,rfl,h⟩
 | _=>exact h.elim
theorem VN.bl {Hb H:Hp}{g:G}{x:Vl}{v:V}{Q:Bool->Prop}(h:VN Γ Hb x v H g) (k:isB x.1 Q):∃ b,v=.bl b/\Q b:=by obtain ⟨d,kk⟩:=x;obtain ⟨b,rfl,q⟩:=uH k;exact ⟨b,h.sc fun _ z=>z.elim,q⟩
theorem VN.int {Hb H:Hp}{g:G}{x:Vl}{v:V}{Q:Int->Prop}(h:VN Γ Hb x v H g) (k:isZ x.1 Q):∃ b,v=.int b/\Q b:=by obtain ⟨d,kk⟩:=x;obtain ⟨b,rfl,q⟩:=zhf k;exact ⟨b,h.sc fun _ z=>z.elim,q⟩
theorem zis (h:PE X x (TX Γ cf a)):PE X (.UnaryOp .USub x pos) (TX Γ cf (.neg a)):=
 (ziW ze5 h).imp fun σ H Q h0=>goX h0 fun ρ S V g Hz hw w env k=>⟨ρ,S,_,g,Hz,hw,w,env,fun x v H' g' S' st w' vx h=>by
  obtain ⟨i,e,q⟩:=vx.int h
  exact ⟨i,e,k (.int (-i),.st) _ H' g' S' st w' rfl q⟩⟩
theorem zfC (h:PE X x (TX Γ cf a)) (he:∀ whole,gC x X.env whole=(do let v <- whole;standAt x.pos;fX [v] (truthy v))):PT X x (TB Γ cf a):=
 (zf5 h he).imp fun σ H Q h0=>goB h0 fun ρ S V g Hz hw w env k=>⟨ρ,S,_,g,Hz,hw,w,env,fun x v H' g' S' st w' vx h=>vx.bl (k x H' g' S' st w' h)⟩
theorem zfL (h:PT X x (TB Γ cf a)):PT X (.UnaryOp .Not x pos) (TB Γ cf (.not a)):=
 (zf6 h).imp fun σ H Q h0=>goB h0 fun ρ S V g Hz hw w env k=>⟨ρ,S,_,g,Hz,hw,w,env,fun x H' g' S' st w' h=>by
  obtain ⟨b,e,q⟩:=uH h;rw [e]
  exact k (.bl (!b),.st) H' g' S' st w' q⟩
theorem zir (h:PE X x (TX Γ cf a)):PE X (.UnaryOp .Not x pos) (TX Γ cf (.not a)):=
 (zgg h).imp fun σ H Q h0=>goX h0 fun ρ S V g Hz hw w env k=>⟨ρ,S,_,g,Hz,hw,w,env,fun x v H' g' S' st w' vx h=>by
  obtain ⟨b,e,q⟩:=vx.bl h
  exact ⟨b,e,k (.bl (!b),.st) _ H' g' S' st w' rfl q⟩⟩
theorem za2 {σ:L2.St}{H H1:Hp}{g g1:G}{Q:VK}{ρ:List Slot}{V:Po}{S1:Store}{Hz:Hp}(st:Step H g H1 g1) (w1:WOk Γ H1 g1 S1) (env:EnvO Γ Hz H g ρ σ) (k:∀ x v H' g' S',Step H g H' g'->WOk Γ H' g' S'->VN Γ H x v H' g'->V x S'->Q v H') (hw:wpE cf ρ a V S1):TX Γ cf a σ H1 Q:=
 ⟨ρ,S1,V,g1,Hz,hw,w1,zr env st,fun y u H2 g2 S2 st2 w2 vy hy=>k y u H2 g2 S2 (st.trans st2) w2 (vy.back st) hy⟩
theorem za3 {σ:L2.St}{H H1:Hp}{g g1:G}{Q:Bool->Hp->Prop}{ρ:List Slot}{V:Po}{S1:Store}{Hz:Hp}(st:Step H g H1 g1) (w1:WOk Γ H1 g1 S1) (env:EnvO Γ Hz H g ρ σ) (k:∀ x H' g' S',Step H g H' g'->WOk Γ H' g' S'->V x S'->isB x.1 fun b=>Q b H') (hw:wpE cf ρ a V S1):TB Γ cf a σ H1 Q:=
 ⟨ρ,S1,V,g1,Hz,hw,w1,zr env st,fun y H2 g2 S2 st2 w2 hy=>k y H2 g2 S2 (st.trans st2) w2 hy⟩
theorem ziJ {rest:List Expr}(ha:PE X x (TX Γ cf a)) (hb:PE X (.BoolOp .And (y::rest) pos) (TX Γ cf b)):PE X (.BoolOp .And (x::y::rest) pos) (TX Γ cf (.and a b)):=
 (zgj ha hb).imp fun σ H Q h0=>goX h0 fun ρ S V g Hz hw w env k=>⟨ρ,S,_,g,Hz,hw,w,env,fun x v H1 g1 S1 st w1 vx h=>by
  obtain ⟨r,e,q⟩:=vx.bl h;refine ⟨r,e,?_⟩;cases r with
  | false=>exact iteF (k (.bl false,.st) _ H1 g1 S1 st w1 rfl q)
  | true=>exact iteT (za2 st w1 env k q)⟩
theorem s_or {rest:List Expr}(ha:PE X x (TX Γ cf a)) (hb:PE X (.BoolOp .Or (y::rest) pos) (TX Γ cf b)):PE X (.BoolOp .Or (x::y::rest) pos) (TX Γ cf (.or a b)):=
 (ziX ha hb).imp fun σ H Q h0=>goX h0 fun ρ S V g Hz hw w env k=>⟨ρ,S,_,g,Hz,hw,w,env,fun x v H1 g1 S1 st w1 vx h=>by
  obtain ⟨r,e,q⟩:=vx.bl h;refine ⟨r,e,?_⟩;cases r with
  | true=>exact iteT (k (.bl true,.st) _ H1 g1 S1 st w1 rfl q)
  | false=>exact iteF (za2 st w1 env k q)⟩
theorem PW.impE {t t':TT}(h:PW X x t) (i:∀ σ H Q,t' σ H Q->t σ H Q):PW X x t':=fun wh pj s σ H Q I q=>h wh pj s σ H Q I (i σ H Q q)
theorem zfU {rest:List Expr}(ha:PT X x (TB Γ cf a)) (hb:PW X (.BoolOp .And (y::rest) pos) (TB Γ cf b)):PW X (.BoolOp .And (x::y::rest) pos) (TB Γ cf (.and a b)):=
 PW.impE (zf4 ha hb) fun σ H Q h0=>goB h0 fun ρ S V g Hz hw w env k=>⟨ρ,S,_,g,Hz,hw,w,env,fun x H1 g1 S1 st w1 h=>by
  obtain ⟨r,e,q⟩:=uH h;rw [e];show (if r=true then _ else _)
  cases r with
  | false=>exact iteF (k (.bl false,.st) H1 g1 S1 st w1 q)
  | true=>exact iteT (za3 st w1 env k q)⟩
theorem ziq {rest:List Expr}(ha:PT X x (TB Γ cf a)) (hb:PW X (.BoolOp .Or (y::rest) pos) (TB Γ cf b)):PW X (.BoolOp .Or (x::y::rest) pos) (TB Γ cf (.or a b)):=
 PW.impE (ziT ha hb) fun σ H Q h0=>goB h0 fun ρ S V g Hz hw w env k=>⟨ρ,S,_,g,Hz,hw,w,env,fun x H1 g1 S1 st w1 h=>by
  obtain ⟨r,e,q⟩:=uH h;rw [e];show (if r=true then _ else _)
  cases r with
  | true=>exact iteT (k (.bl true,.st) H1 g1 S1 st w1 q)
  | false=>exact iteF (za3 st w1 env k q)⟩
theorem zcb {op:my}(h:PT X x (TB Γ cf a)):PW X (.BoolOp op [x] pos) (TB Γ cf (.one a)):=by
 cases op with
 | And=>exact zdn h
 | Or=>exact zf3 h
theorem ziw (hc:PT X x (TB Γ cf c)) (ha:PE X y (TX Γ cf a)) (hb:PE X z (TX Γ cf b)):PE X (.IfExp x y z pos) (TX Γ cf (.ite c a b)):=
 (zbo hc ha hb).imp fun σ H Q h0=>goX h0 fun ρ S V g Hz hw w env k=>⟨ρ,S,_,g,Hz,hw,w,env,fun x H1 g1 S1 st w1 h=>by
  obtain ⟨r,e,q⟩:=uH h;rw [e];show (if r=true then _ else _)
  cases r with
  | true=>exact iteT (za2 st w1 env k q)
  | false=>exact iteF (za2 st w1 env k q)⟩
theorem zj (h:notStar x=true) (xs:List Expr) (env:Env):ϧ (x::xs) env=(false,eval x env)::ϧ xs env:=by cases x <;> first | rfl | cases h
theorem zda:PA X [] (TXs Γ cf []):=qg.imp fun σ H Q h0=>goS h0 fun ρ S W g Hz hw w env k=>k [] [] H g S (Step.refl H g) w rfl hw
theorem args_cons {es:List E}{σ:L2.St}{H:Hp}{Q:List V->Hp->Prop}(h:TXs Γ cf (a::es) σ H Q):TX Γ cf a σ H fun v H1=>TXs Γ cf es σ H1 fun vs H2=>Q (v::vs) H2:=by obtain ⟨ρ,S,W,g,Hz,hw,w,env,k⟩:=h;refine ⟨ρ,S,_,g,Hz,hw,w,env,fun x v H1 g1 S1 st w1 vx h=>?_⟩;obtain ⟨g2,st2,w2,hx,q⟩:=vx.keep st w1 h;exact ⟨ρ,S1,_,g2,Hz,q,w2,zr env st2,fun ds vs H3 g3 S3 st3 w3 hs h3=>k (x.1::ds) _ H3 g3 S3 (st2.trans st3) w3 ⟨v,vs,rfl,hx.mono st3.le,hs⟩ h3⟩
theorem Uo {xs:List Expr}{es:List E}(hs:notStar x=true) (h1:PE X x (TX Γ cf a)) (h2:PA X xs (TXs Γ cf es)):PA X (x::xs) (TXs Γ cf (a::es)):=
 (wU h1 h2 (zj hs _ _)).imp fun σ H Q h=>args_cons h
theorem uq {r:Bool}{T:Prop}(h:tst r T False):r=true/\T:=by
 cases r with
 | true=>exact ⟨rfl,h⟩
 | false=>exact h.elim
theorem yc {α:Type}{o:Option α}{Q:α->Prop}(h:opt o Q):∃ a,o=some a/\Q a:=by
 cases o with
 | some a=>exact ⟨a,rfl,h⟩
 | none=>exact h.elim
theorem zie {xs:List Expr}{es:List E}{kk:Nat}(h:PA X xs (TXs Γ cf es)):PE X (.Tuple xs kk pos) (TX Γ cf (.tup es)):=
 (zge h).imp fun σ H Q h0=>goX h0 fun ρ S V g Hz hw w env k=>⟨ρ,S,_,g,Hz,hw,w,env,fun ds vs H1 g1 S1 st w1 hv h=>by
  obtain ⟨hf,q⟩:=uq h
  exact ⟨by rw [hv.len];exact xJ hf,fun p hp=>qG (Q:=Q) w1 (fun v H2 g2 st2 _ w2 vo=>k (.tup ds,.st) v H2 g2 S1 (st.trans st2) w2 vo q) hv hp⟩⟩
theorem ziu {xs:List Expr}{es:List E}(h:PA X xs (TXs Γ cf es)):PE X (.List xs pos) (TX Γ cf (.lst es)):=
 (zgi h).imp fun σ H Q h0=>goX h0 fun ρ S V g Hz hw w env k=>⟨ρ,S,_,g,Hz,hw,w,env,fun ds vs H1 g1 S1 st w1 hv h=>by
  obtain ⟨hf,q⟩:=uq h
  exact ⟨by rw [hv.len];exact xJ hf,fun p hp=>wA (Q:=Q) w1 (fun v H2 g2 st2 _ w2 vo=>k (.lst ds,.fr) v H2 g2 S1 (st.trans st2) w2 ((VN.of (fr:=true) vo).back st) q) hv hp⟩⟩
set_option tactic.hygienic true in
theorem zif (hK:X.K=Γ.K) (hu:X.A.units+1 < ϵ) (ha:PE X x (TX Γ cf a)) (hb:PE X y (TX Γ cf b)) (hp:V6 y):PE X (.Subscript x y pos) (TX Γ cf (.sub a b)):=
 (ziZ zg3 ha hb hp).imp fun σ H Q h0=>goX h0 fun ρ S V g Hz hw w env k=>two (G1:=fun u v H'=>zg4 X u v H' Q) hw w env fun x y u v H' g' S' st w' vx vy h=>by
  obtain ⟨d,eo,q⟩:=yc h;obtain ⟨r,h1,h2⟩:=zg2 (X:=X) hK hu eo;have e:zL S' y.1=y.1:=by
   cases hy:y.1 with
   | ref n=>
    rw [hy] at eo;unfold subD at eo;split at eo <;> first | cases eo | (rename_i hh;cases hh) | skip
    all_goals (simp [wX,keyD] at eo)
   | _=>rfl
  have vb:=vy.rdb w';rw [e] at vb;exact ⟨r,h1,h2 S' H' g' u v Q w' (vx.rdb w') vb fun t H2 g2 st2 _ w2 vo=>k (d,.st) t H2 g2 S' (st.trans st2) w2 vo q⟩
theorem zio:PO X none (TXo Γ cf none):=fun pj s σ H Q I h0=>goO h0 fun ρ S W g Hz hw w env k=>zdx pj s σ H Q I (k none H g S (Step.refl H g) w hw)
theorem s_po (h:PE X x (TX Γ cf a)):PO X (some x) (TXo Γ cf (some a)):=fun pj s σ H Q I h0=>goO h0 fun ρ S W g Hz hw w env k=>zdw h pj s σ H Q I ⟨ρ,S,_,g,Hz,hw,w,env,fun x v H1 g1 S1 st w1 vx h=>by
 obtain ⟨i,e,q⟩:=vx.int h
 exact ⟨i,e,k (some i) H1 g1 S1 st w1 q⟩⟩
theorem zik {lo hi:Option Expr}{l u:Option E}{p2:Pos}(hK:X.K=Γ.K) (h:PE X x (TX Γ cf a)) (hl:PO X lo (TXo Γ cf l)) (hh:PO X hi (TXo Γ cf u)):PE X (.Subscript x (.Slice lo hi none p2) pos) (TX Γ cf (.slc a l u)):=
 (zbl zfx h hl hh).imp fun σ H Q h0=>goX h0 fun ρ S V g Hz hw w env k=>⟨ρ,S,_,g,Hz,hw,w,env,fun x v H1 g1 S1 st1 w1 vx h1=>⟨ρ,S1,_,g1,Hz,h1,w1,zr env st1,fun i H2 g2 S2 st2 w2 h2=>⟨ρ,S2,_,g2,Hz,h2,w2,zr env (st1.trans st2),fun j H3 g3 S3 st3 w3 h3=>by
  obtain ⟨⟨d,fr⟩,eo,q⟩:=yc h3;obtain ⟨r,r1,r2⟩:=zfw (X:=X) (Γ:=Γ) hK eo;have st:=(st1.trans st2).trans st3
  exact ⟨r,r1,r2 S3 H3 g3 v Q w3 ((vx.step (st2.trans st3)).rdb w3) fun t H4 g4 st4 _ w4 vo=>k _ t H4 g4 S3 (st.trans st4) w4 ((VN.of vo).back st) q⟩⟩⟩⟩
end
end EV
namespace L2
open PySem PySem.Spec PyProof.Rows
noncomputable def cxG (X:Cx) (sc:aH) (cl:List (Str×Addr)) (xs:List Str) (js:List Nat) (C:Addr) (s3:ς) (H3:Hp) (fp:List Addr):Cx:=
 { X with N:=xs++js.map (fun j=>X.N.getD j ""),sy:=s3,Hz:=H3,env:=compEnvC sc cl C X.env,outer:=X.stack,stack:=X.stack,ex:=fp,fn:=fun _=>false,pn:=[],xe:=fun _ _=>False }
structure Km (X:Cx) (sc:aH) (cl:List (Str×Addr)) (xs:List Str) (js:List Nat):Prop where
 clos:mQ sc X.env=pure cl
 cell:∀ y∈sc.names,y.2≠.cell
 kind:sc.kind=.function
 names:∀ y∈sc.names,y.2=.local->sc.names.lookup y.1=some .local
 sub:∀ y c,cl.lookup y=some c->X.env.cells.lookup y=some c
 has:∀ y,((gQ sc X.env).names.lookup y=some .cell\/(gQ sc X.env).names.lookup y=some .free)->∃ c,cl.lookup y=some c
 free:∀ j∈js,∀ y,X.N[j]?=some y->Vis X.env.scope y/\X.env.kindOf y≠some .local/\(∃ c,cl.lookup y=some c)/\((gQ sc X.env).names.lookup y=some .cell\/(gQ sc X.env).names.lookup y=some .free)
 inN:∀ j∈js,j < X.N.length
section
variable {X:Cx}{pj:List (Addr×Obj)}{σ:St}{H3:Hp}{s3:ς}{sc:aH}{cl:List (Str×Addr)}{xs:List Str}{js:List Nat}{fp:List Addr}{h1:Heap}{o:Obj}{tk:Nat}
theorem zak (I:Inv X pj σ H3 s3) (K:Km X sc cl xs js) (hns:h1.Ns s3.heap.objs.size fun _=>none) (hsb:Ϫ s3.heap.objs.size (s3.heap.push o) h1)
  (hfp:∀ b∈fp,FpOk X pj H3 b/\b < s3.heap.objs.size):
  Inv (cxG X sc cl xs js s3.heap.objs.size s3 H3 fp) [] (η xs.length none++rows σ js) H3 { s3 with heap:=h1,toks:=tk }:=by
 have kept:∀ b u,s3.heap.get? b=some u->h1.get? b=some u:=fun b u e=>(hsb.2 b (ϊ (Θ e))).trans (μ _ e)
 refine ⟨⟨I.ok.mod,K.kind,I.ok.glob,I.ok.blt,Ζ _,fun y z c e1 e2=>I.ok.inj y z c (K.sub _ _ e1) (K.sub _ _ e2),fun y hy=>K.has y hy,fun y c hf=>absurd (show false=true from hf) Κ,I.ok.hd,I.ok.frames,.inl rfl,
  fun b hb=>⟨ϊ (hfp b hb).2,fun y c e=>(hfp b hb).1.2.2.2.2.1 y c (K.sub _ _ e)⟩,I.bs,ϡ I.ok.bsz I.sz,fun b o' e hb=>?_,fun b hb z=>?_,I.stack,I.Z3⟩,
  rfl,I.bare,Un.kept kept,⟨_,hns,fun i y v e1 e2 e3=>?_⟩,fun y c e=>?_,I.hok.fresh (Ζ _),fun y c e=>(I.freeC y c (K.sub _ _ e)).imp id fun z=>⟨rfl,z.2⟩,fun p hp=>absurd (show p∈([]:List (Addr×Obj)) from hp) (by simp),I.hok.kept kept,?_⟩
 ·rcases (hfp b hb).1.2.2.2.1 with z | z
  ·exact I.ok.noex b o' e z
  ·exact absurd (Χ (Θ e) (ϡ I.ok.bsz z)) (cL _)
 ·rcases χ.mp (I.Ul b z) with q | q
  ·exact (hfp b hb).1.2.1 q
  ·exact (hfp b hb).1.2.2.1 q
 ·by_cases hi:i < xs.length
  ·rw [ϑ (by simpa using hi),cQ,if_pos hi] at e2;cases e2
  ·have hi':xs.length<=i:=by lia
   have e1':(js.map fun j=>X.N.getD j "")[i - xs.length]?=some y:=by have q:(xs++js.map fun j=>X.N.getD j "")[i]?=some y:=e1;rw [ϔ hi'] at q;exact q
   have e2':(rows σ js)[i - xs.length]?=some (some v):=by rw [ϔ (by simpa using hi')] at e2;simpa using e2
   generalize i - xs.length=i at e1' e2';rw [Η] at e1';unfold rows at e2';rw [Η] at e2';cases ej:js[i]? with
   | none=>rw [ej] at e1';cases e1'
   | some j=>
    rw [ej] at e1' e2';simp only [Option.map_some,Ϸ.injEq] at e1' e2';have hj:=Ξ ej;have hlt:=K.inN j hj;have eN:X.N[j]?=some y:=by rw [<- e1',bh,ψ hlt];rfl
    have eS:σ[j]?=some (some v):=by
     rw [bh] at e2';cases q:σ[j]? with
     | none=>rw [q] at e2';cases e2'
     | some z=>rw [q] at e2';simpa using e2'
    obtain ⟨hv,hnl,⟨c,hc⟩,hk⟩:=K.free j hj y eN;obtain ⟨m,_,hl⟩:=I.loc;obtain ⟨u,r,l⟩:=hl j y v eN eS hv;refine ⟨u,r,?_⟩;rcases l with ⟨k,_⟩ | ⟨k,c',e',z⟩
    ·exact absurd k hnl
    ·have:c'=c:=Ϛ (e'.symm.trans (K.sub _ _ hc));subst this;obtain ⟨oc,hoc,hd⟩:=z;exact .inr ⟨hk,c',hc,oc,kept _ _ hoc,hd⟩
 ·obtain ⟨v,oc,hoc,hd⟩:=I.cell y c (K.sub _ _ e);exact ⟨v,oc,kept _ _ hoc,hd⟩
 ·simp [rows,cxG]
def PTs (X:Cx) (ifs:List Expr) (t:TT):Prop:=
 ∀ (pj:List (Addr×Obj)) (s:ς) (σ:St) (H:Hp) (Q:Bool->Hp->Prop),Inv X pj σ H s->t σ H Q ->
  Ρ (ώ X.prog X.w) X.A (forIn ifs true fun c r=>if r=true then do let ok <- gC c X.env (eval c X.env);pure (dZ ok) else pure (dZ r)) (TP X pj σ Q) X.xe s
theorem zdq:PTs X [] (fun _ H Q=>Q true H):=fun _ _ _ H _ I h=>wpAny_tests_nil ⟨H,I,h⟩
theorem zdp {c:Expr}{t:TT}(h:PT X c t):PTs X [c] t:=fun pj s σ H Q I q=>wpAny_tests_one (h pj s σ H Q I q)
def Zg (n:Nat) (js:List Nat) (wi:TI) (tg:TG) (tt:TT) (te:TE) (Qe:Addr->Hp->Prop):St->Hp->Prop:=fun σ H=>wi σ H fun J H1=>∀ D,H1 D=none ->
 ∃ W:Nat->Nat->List V->St->Hp->Prop,(∃ m,W 0 m [] (η n none++rows σ js) (upd H1 D (.lst [])))/\∀ i m ys τ H2,W i m ys τ H2 ->
  (J.stop i H2/\Qe D H2)\/(J.go i H2/\∀ z H3,J.yld i H2 z H3->tg z τ H3 fun τ3 H3=>tt τ3 H3 fun b H4=>
   if b=true then te τ3 H4 fun v H5=>H5 D=some (.lst ys)/\ys.length < sizeLine/\∃ m',m' < m/\W (i+1) m' (ys++[v]) τ3 (upd H5 D (.lst (ys++[v])))
   else ∃ m',m' < m/\W (i+1) m' ys τ3 H4)
theorem We {elt iter tgt:Expr}{ifs:List Expr}{pos pos':Pos}{wi:TI}{tg:TG}{tt:TT}{te:TE}{Qe:Addr->Hp->Prop}{use:Option (δ->Sem Unit)}{Q':VSP}{H:Hp}{s:ς}(hc:X.calm=true) (K:Km X sc cl xs js) (hi:PI X tgt iter wi)
  (hg:∀ C s3 H3 fp,PG (cxG X sc cl xs js C s3 H3 fp) tgt tg) (ht:∀ C s3 H3 fp,PTs (cxG X sc cl xs js C s3 H3 fp) ifs tt) (he:∀ C s3 H3 fp,PE (cxG X sc cl xs js C s3 H3 fp) elt te) (hs:∀ v,bF iter X.env v=pure v)
  (I:Inv X pj σ H s) (h:Zg xs.length js wi tg tt te Qe σ H)
  (fin:∀ (D C:Addr) (s6:ς) (H5:Hp) (m:Str->Option δ),s6.heap.Ns C m->FpOk X pj H5 C->(∀ h',Ϫ C s6.heap h'->Inv X pj σ H5 { s6 with heap:=h' })->Qe D H5->compPost (ώ X.prog X.w) X.A X.xe use Q' (.ref D) C (.ok .next) s6):
  Ρ (ώ X.prog X.w) X.A (comprehension (.ListComp elt [⟨tgt,iter,ifs,0⟩] sc pos) sc X.env pos' (newList []) false (eval iter X.env) use) Q' X.xe s:=by
 refine wpAny_comprehension_free (use:=use) rfl hs K.clos K.kind K.names ?_;refine thn (hi pj s σ H _ I h) fun v s1 h1=>thn h1 fun itv s2 h2=>?_
 obtain ⟨it,fp,tn,J,H2,e,I2,T,st2,f2,h⟩:=h2;subst e;have hD:H2 s2.heap.objs.size=none:=I2.fresh;obtain ⟨W,⟨m0,w0⟩,turn⟩:=h _ hD;have I3:Inv X pj σ (upd H2 s2.heap.objs.size (.lst [])) { s2 with heap:=s2.heap.push { cls:=.type "list",data:=.seq ([]:List δ).toArray },toks:=s2.toks }:=I2.lnew (its:=[]) .nil (cT _);have fpLt:∀ b∈fp,b < s2.heap.objs.size:=fun b hb=>let ⟨o,e,_⟩:=T.obj _ _ st2 b hb;Θ e
 refine Ϝ (wpAny_newFunctionEnv K.cell (by intro y hy;simp at hy) (fun h₁ hns₁ hsb₁=>?_) K.kind);generalize hs3:({ s2 with heap:=s2.heap.push { cls:=.type "list",data:=.seq ([]:List δ).toArray },toks:=s2.toks }:ς)=s3 at I3;have hs3':({ s2 with heap:=s2.heap.push { cls:=.type "list",data:=.seq ([]:List δ).toArray } }:ς)=s3:=hs3
 (try rw [hs3'] at hns₁);(try rw [hs3'] at hsb₁);(try rw [hs3'])
 have hsz:s3.heap.objs.size=s2.heap.objs.size+1:=by rw [<- hs3,cz]
 generalize hH3:upd H2 s2.heap.objs.size (.lst [])=H3 at I3 w0;have fp3:∀ b∈fp,FpOk X pj H3 b/\b < s3.heap.objs.size:=fun b hb=>by refine ⟨⟨?_,(f2 b hb).2⟩,by rw [hsz];exact iw (fpLt b hb)⟩;rw [<- hH3,zc (ϊ (fpLt b hb))];exact (f2 b hb).1
 have I4:=zak (tk:=s3.toks+([]:List (Str×δ)).length) I3 K hns₁ hsb₁ fp3;have st4:tn 0 h₁:=T.keep _ _ _ st2 fun b hb o e=>(hsb₁.2 b (ϊ (fp3 b hb).2)).trans (μ _ (by rw [<- hs3];exact μ _ e))
 have stat:∀ {H':Hp}{pl:List (Addr×Obj)},(∀ b∈fp,H' b=none)->(∀ p∈pl,p.1 ∉ fp)->∀ b∈fp,FpOk (cxG X sc cl xs js s3.heap.objs.size s3 H3 fp) pl H' b:=fun {H'} {pl} hn hp b hb=>
  ⟨hn b hb,ϊ (fp3 b hb).2,fun z=>by
   rcases χ.mp (I3.Ul b z) with q | q
   ·exact (f2 b hb).2.1 q
   ·exact (f2 b hb).2.2.1 q,.inl hb,fun y c e=>(f2 b hb).2.2.2.2.1 y c (K.sub _ _ e),fun p hp' z=>by
    have hp'':p∈pl:=by simpa [cxG] using hp'
    exact hp p hp'' (z ▸ hb)⟩
 have loop:∀ s4:ς,s4={ s3 with heap:=h₁,toks:=s3.toks+([]:List (Str×δ)).length } ->
   iZ (ώ X.prog X.w) X.A (.compLoop (.ListComp elt [⟨tgt,iter,ifs,0⟩] sc pos) 0 (.ref it) (.ref s2.heap.objs.size) (compEnvC sc cl s3.heap.objs.size X.env))
    (compPost (ώ X.prog X.w) X.A X.xe use Q' (.ref s2.heap.objs.size) s3.heap.objs.size) s4:=by
  rintro s4 rfl;refine codeAny_loop rfl (fun n s'=>∃ i ys τ H',Inv (cxG X sc cl xs js s3.heap.objs.size s3 H3 fp) [] τ H' s'/\tn i s'.heap/\(∀ b∈fp,H' b=none)/\W i n ys τ H') ?_ m0 ⟨0,[],_,H3,I4,st4,fun b hb=>(fp3 b hb).1.1,w0⟩;rintro n s5 ⟨i,ys,τ,H5,I5,st5,fr5,w5⟩;show Ρ _ X.A ((compTurn (.ListComp elt [⟨tgt,iter,ifs,0⟩] sc pos) 0 (.ref it) (.ref s2.heap.objs.size) (compEnvC sc cl s3.heap.objs.size X.env)).onRaise (fun x=>do lD x (compEnvC sc cl s3.heap.objs.size X.env);theTreesLotGoes x)) _ _ s5
  refine wpAny_noted ?_;rw [compTurn_list];refine ζ (iz (ζ ?_));rcases turn i n ys τ H5 w5 with ⟨stop,q⟩ | ⟨go,step⟩
  ·refine thn (T.done (cxG X sc cl xs js s3.heap.objs.size s3 H3 fp) rfl rfl rfl hc i [] s5 τ H5 _ I5 (stat fr5 (fun p hp=>absurd hp (by simp))) st5 stop) fun r s6 ⟨hr,I6⟩=>?_
   subst hr;refine π ?_;obtain ⟨m,hn,_⟩:=I6.loc;refine fin _ _ s6 H5 m hn (I3.fpOk (Ζ _) I6.free) (fun h' sb=>?_) q;have u:=(show Un (frs X.stack) fp H3 H5 s3.heap s6.heap from I6.base).sameBut sb (Ζ _);exact I3.call' (s':={ s6 with heap:=h' }) (ch:=fp) I6.os u (I6.hok.sameBut sb I6.free) I6.bare fun b hb=>⟨(f2 b hb).2.2.2.1,(f2 b hb).2.1,(f2 b hb).2.2.2.2.1,(f2 b hb).2.2.2.2.2⟩
  ·refine thn (T.item (cxG X sc cl xs js s3.heap.objs.size s3 H3 fp) rfl rfl rfl hc i [] s5 τ H5 _ I5 (stat fr5 (fun p hp=>absurd hp (by simp))) st5 go) fun r s6 ⟨u,hr,h6⟩=>?_
   subst hr;refine ζ (thn h6 fun _ s7 ⟨z,H7,I7,r7,y7,st7,fr7⟩=>?_);have I7':=I7.pinned (stat fr7 (fun p hp=>absurd hp (by simp))) (T.obj _ _ st7);have done:∀ {σ':St}{H':Hp}{s':ς}{ys':List V}{m':Nat},Inv (cxG X sc cl xs js s3.heap.objs.size s3 H3 fp) ([]++Xn fp s7.heap) σ' H' s'->m' < n->W (i+1) m' ys' σ' H'->∃ m,m < n/\∃ i ys τ H',Inv (cxG X sc cl xs js s3.heap.objs.size s3 H3 fp) [] τ H' s'/\tn i s'.heap/\(∀ b∈fp,H' b=none)/\W i m ys τ H':=fun {σ' H' s' ys' m'} I' hm w'=>
    ⟨m',hm,i+1,ys',σ',H',I'.um,T.keep _ _ _ st7 fun b hb o e=>(I'.pin (b,o) (ϗ _ (ϗ _ (vB hb e)))).1,fun b hb=>by
     obtain ⟨o,e,d⟩:=T.obj _ _ st7 b hb
     exact (I'.pin (b,o) (ϗ _ (ϗ _ (vB hb e)))).2.1,w'⟩
   refine ζ (bU (hg _ _ _ _ _ s7 τ H7 z u _ I7' r7 (step z H7 y7)) (fun _ s8 ⟨σ8,H8,I8,q8⟩=>?_) fun _ _ z=>ϰ z);refine ζ (bU (ht _ _ _ _ _ s8 σ8 H8 _ I8 q8) (fun ok s9 ⟨H9,I9,q9⟩=>?_) fun _ _ z=>ϰ z);cases ok with
   | false=>
    rw [if_neg Κ] at q9;obtain ⟨m',hm,w9⟩:=q9;exact π ⟨rfl,done I9 hm w9⟩
   | true=>
    rw [if_pos rfl] at q9;refine ζ (ζ (bU (he _ _ _ _ _ s9 _ _ _ I9 q9) (fun v9 s10 ⟨x9,H10,I10,r9,q10⟩=>?_) fun _ _ z=>ϰ z));obtain ⟨hD9,hlen,m',hm,w10⟩:=q10;have ap:=Xy (X:=cxG X sc cl xs js s3.heap.objs.size s3 H3 fp) _ s10 _ H10 (.ref s2.heap.objs.size) [x9] (.ref s2.heap.objs.size) [v9] (fun _ H'=>H'=upd H10 s2.heap.objs.size (.lst (ys++[x9]))) I10 rfl (.cons r9 .nil) ⟨_,ys,x9,rfl,rfl,hD9,hlen,rfl⟩;refine ζ (bU ap (fun _ s11 ⟨_,H11,I11,_,e11⟩=>?_) fun _ _ z=>ϰ z);subst e11;exact π (π ⟨rfl,done I11 hm w10⟩)
 exact codeAny_compStart_list (loop _ rfl) (T.self _ 0 _ _ _ st4 (loop _ rfl))
theorem zbr {elt iter tgt:Expr}{ifs:List Expr}{pos:Pos}{wi:TI}{tg:TG}{tt:TT}{te:TE}(hc:X.calm=true) (K:Km X sc cl xs js) (hi:PI X tgt iter wi)
  (hg:∀ C s3 H3 fp,PG (cxG X sc cl xs js C s3 H3 fp) tgt tg) (ht:∀ C s3 H3 fp,PTs (cxG X sc cl xs js C s3 H3 fp) ifs tt) (he:∀ C s3 H3 fp,PE (cxG X sc cl xs js C s3 H3 fp) elt te) (hs:∀ v,bF iter X.env v=pure v):
  PE X (.ListComp elt [⟨tgt,iter,ifs,0⟩] sc pos) (fun σ H Q=>Zg xs.length js wi tg tt te (fun D H'=>Q (.ref D) H') σ H):=by intro pj s σ H Q I h;rw [eval_ListComp];exact We (use:=none) (Q':=EP X pj σ Q) hc K hi hg ht he hs I h fun D C s6 H5 m hn fp inv q=>⟨m,hn,fun h' sb=>⟨.ref D,H5,inv h' sb,rfl,q⟩⟩
theorem JH {elt iter tgt:Expr}{ifs:List Expr}{pos spos npos:Pos}{wi:TI}{tg:TG}{tt:TT}{te:TE}{n:Str}{i:Nat}(hc:X.calm=true) (K:Km X sc cl xs js) (hi:PI X tgt iter wi)
  (hg:∀ C s3 H3 fp,PG (cxG X sc cl xs js C s3 H3 fp) tgt tg) (ht:∀ C s3 H3 fp,PTs (cxG X sc cl xs js C s3 H3 fp) ifs tt) (he:∀ C s3 H3 fp,PE (cxG X sc cl xs js C s3 H3 fp) elt te) (hs:∀ v,bF iter X.env v=pure v)
  (hp:PG X (.Name n npos) (X5 i)) (hsw:fM (.ListComp elt [⟨tgt,iter,ifs,0⟩] sc pos) (some (.Name n npos)) spos.line X.env=pure true):
  PS X (.Assign [.Name n npos] (.ListComp elt [⟨tgt,iter,ifs,0⟩] sc pos) spos) (fun D σ H=>Zg xs.length js wi tg tt te (fun Da H'=>D.nx (σ.set i (some (.ref Da))) H') σ H):=by
 intro pj s σ H D I h;rw [exec_Assign_Name_used _ _ _ _ hsw];refine ζ (iz (ζ ?_));show Ρ _ X.A (do let _ <- comprehension (.ListComp elt [⟨tgt,iter,ifs,0⟩] sc pos) sc X.env _ (newList []) false (eval iter X.env) (some (eE (.Name n npos) X.env))) _ _ s
 refine ζ (bU (We (use:=some (eE (.Name n npos) X.env)) (Q':=fun _ s'=>SP X pj D .next s') hc K hi hg ht he hs I h ?_) (fun _ s' q=>π (π q)) fun _ _ z=>z);intro Da C s6 H5 m hn fp inv q;obtain ⟨oC,es,ep,hoC,hdC,hrC⟩:=id hn;have I6:=inv s6.heap (lK C s6.heap);have I6':Inv X (pj++[(C,oC)]) σ H5 { s6 with heap:=s6.heap }:=I6.Vd fun p hp=>(ϣ.mp hp).elim (fun z=>I6.pin p (ϗ _ z)) fun z=>by rw [ω.mp z];exact ⟨hoC,fp.1,fp.2.1,fp.2.2.1,fun v e=>by rw [hdC] at e;cases e⟩
 show Ρ _ X.A (eE (.Name n npos) X.env (.ref Da)) _ _ s6
 refine thn (hp _ s6 σ H5 (.ref Da) (.ref Da) _ I6' rfl q) fun _ s7 ⟨σ7,H7,I7,q7⟩=>?_
 have hC7:=(I7.pin (C,oC) (ϗ _ (ϗ _ (ω.mpr rfl))))
 refine ⟨m,⟨oC,es,ep,hC7.1,hdC,hrC⟩,fun h' sb=>⟨σ7,H7,?_,q7⟩⟩;have I8:Inv X pj σ7 H7 s7:=I7.um;exact I8.turned (t':=s7.toks) (fun b o hb e=>(sb.2 b hb).trans e) hC7.2.1 fp.2.1 fp.2.2.2.1 fp.2.2.2.2.1 fun p hp=>fp.2.2.2.2.2 p hp
def CSet (X:Cx) (x:Expr) (t:TE):Prop:=∀ (n:Str) (npos spos:Pos) (i:Nat),PG X (.Name n npos) (X5 i)->fM x (some (.Name n npos)) spos.line X.env=pure true ->
 PS X (.Assign [.Name n npos] x spos) (fun D σ H=>t σ H fun v H'=>D.nx (σ.set i (some v)) H')
theorem zb0 {X:Cx}{x:Expr}{t t':TE}(h:PE X x t/\CSet X x t) (i:∀ σ H Q,t' σ H Q->t σ H Q):PE X x t'/\CSet X x t':=
 ⟨h.1.imp i,fun n np sp j hp hs=>(h.2 n np sp j hp hs).imp fun D σ H q=>i σ H _ q⟩
theorem zaB {elt iter tgt:Expr}{ifs:List Expr}{pos:Pos}{wi:TI}{tg:TG}{tt:TT}{te:TE}(hc:X.calm=true) (K:Km X sc cl xs js) (hi:PI X tgt iter wi)
  (hg:∀ C s3 H3 fp,PG (cxG X sc cl xs js C s3 H3 fp) tgt tg) (ht:∀ C s3 H3 fp,PTs (cxG X sc cl xs js C s3 H3 fp) ifs tt) (he:∀ C s3 H3 fp,PE (cxG X sc cl xs js C s3 H3 fp) elt te) (hs:∀ v,bF iter X.env v=pure v):
  PE X (.ListComp elt [⟨tgt,iter,ifs,0⟩] sc pos) (fun σ H Q=>Zg xs.length js wi tg tt te (fun D H'=>Q (.ref D) H') σ H)/\CSet X (.ListComp elt [⟨tgt,iter,ifs,0⟩] sc pos) (fun σ H Q=>Zg xs.length js wi tg tt te (fun D H'=>Q (.ref D) H') σ H):=
 ⟨zbr hc K hi hg ht he hs,fun n np sp i hp hsw=>JH hc K hi hg ht he hs hp hsw⟩
end
structure Fly (h:Heap) (e T C:Addr):Prop where
 oe:∃ o vs,h.get? e=some o/\(o.cls=.ref C/\o.dict=none)/\o.data=.fields vs/\vs[1]?=some (.ref T)
 ne:T≠e
 ot:∃ o ts,h.get? T=some o/\o.data=.fields ts/\ts[3]?=some .none
structure Chg (fs ex:List Addr) (h h':Heap):Prop where
 keep:∀ b o,h.get? b=some o->b ∉ fs->b ∉ ex->h'.get? b=some o
 slot:∀ b o,h.get? b=some o->b ∉ ex->∃ sl,h'.get? b=some { o with slots:=sl }
 size:h.objs.size<=h'.objs.size
theorem Chg.mono {fs ex ex':List Addr}{h h':Heap}(c:Chg fs ex h h') (q:∀ b,b∈ex->b∈ex'):Chg fs ex' h h':=
 ⟨fun b o e n x=>c.keep b o e n fun z=>x (q b z),fun b o e x=>c.slot b o e fun z=>x (q b z),c.size⟩
theorem Chg.trans {fs ex:List Addr}{h h1 h2:Heap}(a:Chg fs ex h h1) (b:Chg fs ex h1 h2):Chg fs ex h h2:=
 ⟨fun c o e n x=>b.keep c o (a.keep c o e n x) n x,fun c o e x=>by
  obtain ⟨sl,e1⟩:=a.slot c o e x;obtain ⟨sl',e2⟩:=b.slot c _ e1 x
  exact ⟨sl',e2⟩,ϡ a.size b.size⟩
theorem Chg.upd {fs:List Addr}{h:Heap}{a:Addr}(f:Obj->Obj):Chg fs [a] h (h.update a f):=
  ⟨fun b o e _ x=>by rw [aF _ _ (fun z=>x (by rw [z];exact θ))];exact e,
   fun b o e x=>⟨o.slots,by rw [aF _ _ (fun z=>x (by rw [z];exact θ))];exact e⟩,fG (Heap.size_after_update ..).symm⟩
theorem Chg.psh {fs ex:List Addr}{h:Heap}(o:Obj):Chg fs ex h (h.push o):=
 ⟨fun b u e _ _=>μ _ e,fun b u e _=>⟨u.slots,μ _ e⟩,by rw [cz];exact Nat.le_succ _⟩
section
variable {M:Model}{A:ϙ}{E:VSP}{s:ς}{base:Heap}{env:Env}{outer:List Env}{L e T C:Addr}{Q:Unit->ς->Prop}
theorem Ji {oe:Obj}{vs:Array δ}{head:δ}{had:Bool}(hfr:A.frames=some (env::outer)) (hl:s.heap.FunFrames base (env::outer)) (hf:env.frame=some L) (he:s.heap.get? e=some oe) (hc:oe.cls=.ref C/\oe.dict=none) (hd:oe.data=.fields vs) (hz:1 < vs.size)
  (h:∀ h' T,Chg (frs (env::outer)) [e] s.heap h'->s.heap.get? T=none->Fly h' e T C->Q () { s with heap:=h' }):
  Ρ M A (do let a <- frameOf env;let pl <- entryPlaceOf L had;let b <- lM head a .none (aR L) .none pl;setField (.ref e) 1 b) (fun _ s'=>Ρ M A (setFlight (.ref e) none) Q E s') E s:=by
 have nf:e ∉ frs (env::outer):=fun hm=>by obtain ⟨_,o,ho,q⟩:=hl.mem hm;rw [he] at ho;cases ho;exact q vs hd
 refine ζ (wpAny_frameOf_fun hfr hl hf fun h1 s1=>ζ (wpAny_entryPlaceOf fun pl hp=>?_));unfold lM newFields;refine ζ (Ϝ ?_ (hp.sizeOk5 _ _ _ _ _));have e1:h1.get? e=some oe:=(s1.2.1 e nf).trans he;generalize hob:({ cls:=.type "traceback",dict:=none,data:=.fields ([head,.ref L,.none,aR L,.none]++(if pl.isEmpty then η 6 Δ else pl)).toArray }:Obj)=ob;have e2:=μ (h:=h1) ob e1;refine cH e2 hd hz ?_;have ne:h1.objs.size≠e:=fC (Θ e1);have d3:=aL hd (·.setIfInBounds 1 (Β h1.objs.size));have e3:=bu (aX (·.setIfInBounds 1 (Β h1.objs.size))) e2 (bY d3);have t3:=(aF (h1.push ob) (aX (·.setIfInBounds 1 (Β h1.objs.size))) (bK ne)).trans (Μ h1 (by rw [<- hob];rfl));unfold setFlight;refine ζ (ao e3 d3 (x:=.ref h1.objs.size) (by simp [hz]) ?_);rw [if_pos (show (Β h1.objs.size != Δ)=true from by simp)];have dt:ob.data=.fields ([head,.ref L,.none,aR L,.none]++(if pl.isEmpty then η 6 Δ else pl)).toArray:=by rw [<- hob]
 refine cH t3 dt (by simp only [ο,Υ,aY,fK] <;> omega) (h _ h1.objs.size ?_ ?_ ?_)
 ·have c1:Chg (frs (env::outer)) [e,h1.objs.size] s.heap h1:=⟨fun b o q n _=>(s1.2.1 b n).trans q,fun b o q _=>s1.2.2 b o q,fG s1.1.symm⟩
  have c4:=((c1.trans (Chg.psh ob)).trans ((Chg.upd _).mono fun b q=>by rw [ω.mp q];exact θ)).trans ((Chg.upd (h:=(h1.push ob).update e (aX (·.setIfInBounds 1 (Β h1.objs.size)))) (aX (·.setIfInBounds 3 ((none:Option Addr).elim Δ fun f=>aR f)))).mono fun b q=>by rw [ω.mp q];exact ι _ θ);have nT:∀ b o,s.heap.get? b=some o->b≠h1.objs.size:=fun b o q z=>by have:=Θ q;rw [z,s1.1] at this;exact cL _ this
  refine ⟨fun b o q n x=>c4.keep b o q n fun z=>?_,fun b o q x=>c4.slot b o q fun z=>?_,c4.size⟩
  ·rcases χ.mp z with z | z
   ·exact x (by rw [z];exact θ)
   ·exact nT b o q (ω.mp z)
  ·rcases χ.mp z with z | z
   ·exact x (by rw [z];exact θ)
   ·exact nT b o q (ω.mp z)
 ·exact fV (fG s1.1.symm)
 ·refine ⟨⟨_,_,(aF _ _ ne).trans e3,?_,d3,by simp [hz]⟩,ne,⟨_,_,bu _ t3 (bY (aL dt _)),aL dt _,?_⟩⟩
  ·rw [iu];exact ⟨hc.1,by obtain ⟨a,b,d,e⟩:=oe;cases d <;> exact hc.2⟩
  ·first | (simp;done) | (rcases hp with rfl | ⟨_,_,_,_,_,_,_,rfl⟩ <;> simp)
theorem JP {oe:Obj}{vs:Array δ}(hfr:A.frames=some (env::outer)) (hl:s.heap.FunFrames base (env::outer)) (hf:env.frame=some L) (he:s.heap.get? e=some oe) (hc:oe.cls=.ref C/\oe.dict=none) (hd:oe.data=.fields vs) (h1:vs[1]?=some .none)
  (h:∀ h' T,Chg (frs (env::outer)) [e] s.heap h'->s.heap.get? T=none->Fly h' e T C->Q () { s with heap:=h' }):
  Ρ M A (lD (.ref e) env) (fun _ s'=>Ρ M A (setFlight (.ref e) none) Q E s') E s:=by unfold lD;simp only [hf];refine ζ (ao he hd h1 ?_);rw [if_neg (by decide)];exact Ji hfr hl hf he hc hd (dJ.mp h1).1 h
theorem QC (hfr:A.frames=some (env::outer)) (hl:s.heap.FunFrames base (env::outer)) (hf:env.frame=some L) (F:Fly s.heap e T C)
  (h:∀ h' T',Chg (frs (env::outer)) [e,T] s.heap h'->s.heap.get? T'=none->Fly h' e T' C->Q () { s with heap:=h' }):
  Ρ M A (lD (.ref e) env) (fun _ s'=>Ρ M A (setFlight (.ref e) none) Q E s') E s:=by
 obtain ⟨⟨oe,vs,he,hc,hd,h1⟩,ne,⟨oT,ts,hT,dT,h3⟩⟩:=F;unfold lD;simp only [hf];refine ζ (ao he hd h1 ?_);rw [if_pos (show (Β T != Δ)=true from by simp)];refine ζ (ao hT dT h3 ?_);rw [if_neg (show ¬ ((Δ==aR L)=true) from by simp [aR])];refine ζ (cH hT dT (dJ.mp h3).1 ?_);have other:∀ b,b≠T->(s.heap.update T (aX (·.setIfInBounds 3 Δ))).get? b=s.heap.get? b:=fun b q=>aF _ _ (bK q)
 refine Ji (s:={ s with heap:=s.heap.update T (aX (·.setIfInBounds 3 Δ)) }) hfr (hl.of_keeps fun b o q n=>⟨o,(other b fun z=>?_).trans q,rfl⟩) hf ((other e (bK ne)).trans he) hc hd (dJ.mp h1).1 fun h' T' c n F=>h h' T' ?_ ?_ F
 ·rw [z,hT] at q;cases q;exact n ts dT
 ·exact ((Chg.upd _).mono fun b q=>by rw [ω.mp q];exact ι _ θ).trans (c.mono fun b q=>by rw [ω.mp q];exact θ)
 ·by_cases z:T'=T
  ·subst z;have q:=bu (aX (·.setIfInBounds 3 Δ)) hT (bY (aL dT _));have n':(s.heap.update T' (aX (·.setIfInBounds 3 Δ))).get? T'=none:=n;rw [q] at n';cases n'
  ·exact (other T' z).symm.trans n
end
theorem yo.there {P:Λ}{w:ϓ}{H:Hp}{h:Heap}{a:Addr}{o:HO}(x:yo P w H h a o):∃ ob,h.get? a=some ob:=by
 cases o with
 | lst xs=>obtain ⟨_,_,_,_,e⟩:=x;exact ⟨_,e⟩
 | tup xs=>obtain ⟨_,_,_,ob,e,_⟩:=x;exact ⟨_,e⟩
 | dK kvs=>obtain ⟨_,_,_,_,o,_,_,e,_⟩:=x;exact ⟨_,e⟩
 | dT kvs=>obtain ⟨_,_,_,_,o,_,_,e,_⟩:=x;exact ⟨_,e⟩
 | set S n=>obtain ⟨o,_,_,_,e,_⟩:=x;exact ⟨_,e⟩
 | ins C dx fs=>obtain ⟨_,_,_,e,_⟩:=x;exact ⟨_,e⟩
 | own y=>obtain ⟨_,e⟩:=x;exact ⟨_,e⟩
 | xd fs=>obtain ⟨_,⟨_,_,_,e,_⟩,_⟩:=x;exact ⟨_,e⟩
 | rng lo hi=>obtain ⟨_,_,_,e⟩:=x;exact ⟨_,e⟩
 | frz ob u=>obtain ⟨e,_⟩:=x;exact ⟨_,e⟩
 | tbl ps=>exact ⟨_,(show h.get? a=some _ from x)⟩
 | met f y=>exact ⟨_,(show h.get? a=some _ from x)⟩
 | ext φ=>obtain ⟨_,⟨_,e⟩,_⟩:=x;exact ⟨_,e⟩
theorem HOk.zbC {P:Λ}{w:ϓ}{H:Hp}{h:Heap}{a:Addr}(x:HOk P w H h) (n:h.get? a=none):H a=none:=by
 cases q:H a with
 | none=>rfl
 | some o=>
  obtain ⟨ob,e⟩:=(x a o q).there;rw [n] at e;cases e
theorem HOk.chg {P:Λ}{w:ϓ}{H:Hp}{h h':Heap}{fs ex:List Addr}(x:HOk P w H h) (c:Chg fs ex h h') (hf:∀ b∈fs,H b=none) (hx:∀ b∈ex,H b=none):HOk P w H h':=fun a o e=>
 (x a o e).stay (fun b u hb q=>by
  have hs:∃ v,H b=some v:=by
   rcases hb with rfl | hb
   ·exact ⟨_,e⟩
   ·exact ⟨_,hb⟩
  obtain ⟨v,hv⟩:=hs
  exact c.keep b u q (fun z=>by rw [hf b z] at hv;cases hv) fun z=>by rw [hx b z] at hv;cases hv) (fun _ q=>q) fun _ _ q=>q
theorem Un.chg {fs fs' ex:List Addr}{H H':Hp}{h h1 h2:Heap}(u:Un fs [] H H' h h1) (c:Chg fs' ex h1 h2) (hx:∀ b∈ex,h.get? b=none) (hf:∀ b∈fs',b∈fs\/h.get? b=none):Un fs [] H H' h h2:=by
 have nx:∀ b o,h.get? b=some o->b ∉ ex:=fun b o e z=>by rw [hx b z] at e;cases e
 refine ⟨fun b o e n hb z=>c.keep b o (u.keep b o e n hb z) (fun q=>(hf b q).elim hb fun w=>by rw [w] at e;cases e) (nx b o e),fun b o e n hb z=>?_,u.free,fun b o e z=>?_,u.tups,u.frzs,u.tbls⟩
 ·obtain ⟨sl,e1⟩:=u.slot b o e n hb z;obtain ⟨sl',e2⟩:=c.slot b _ e1 (nx b o e);exact ⟨sl',e2⟩
 ·obtain ⟨o',e1⟩:=u.there b o e z;obtain ⟨sl,e2⟩:=c.slot b o' e1 (nx b o e);exact ⟨_,e2⟩
def CX1 (P:Λ) (w:ϓ):CXT:=fun outer H s E e s'=>∃ (ea T C:Addr) (H':Hp),e=.ref ea/\Fly s'.heap ea T C/\(s.heap.get? ea=none/\s.heap.get? T=none)/\(H' ea=none/\H' T=none)/\s'.os=s.os/\fB s'.gens/\Un (frs outer) [] H H' s.heap s'.heap/\HOk P w H' s'.heap/\E e (some C) H'
section
variable {X:Cx}{pj:List (Addr×Obj)}{σ:St}{H:Hp}{s:ς}{E E':XK}{W:VSP}
theorem xg {fs:List Addr}{H H':Hp}{h h':Heap}{b:Addr}(u:Un fs [] H H' h h') (n:h'.get? b=none):h.get? b=none:=by
 cases q:h.get? b with
 | none=>rfl
 | some o=>
  obtain ⟨o',e⟩:=u.there b o q (by simp);rw [n] at e;cases e
theorem zei (hf:X.env.frame=some X.env.locals):frs (X.env::X.outer)=X.env.locals::X.fs:=by unfold frs;rw [cG,hf];rfl
theorem zar (I:Inv X pj σ H s) (hf:X.env.frame=some X.env.locals):∀ b∈frs (X.env::X.outer),b∈X.fs\/X.sy.heap.get? b=none:=fun b hb=>by
 rw [zei hf] at hb;rcases χ.mp hb with rfl | hb
 ·exact .inr (fV I.ok.above)
 ·exact .inl hb
theorem leave_new {h':Heap}{ea C:Addr}{args:List δ}(hs:X.stack=X.env::X.outer) (hf:X.env.frame=some X.env.locals) (hex:X.ex=[]) (I:Inv X pj σ H s) (m:Heap.MadeExcOf s.heap h' ea (.ref C) args) (hE:E (.ref ea) (some C) H):
  Ρ (ώ X.prog X.w) X.A (leaving X.env (.ref ea)) (fun _ s''=>CX1 X.prog X.w X.outer X.Hz X.sy E (.ref ea) s'') W { s with heap:=h' }:=by
 have u0:Un X.fs [] X.Hz H X.sy.heap s.heap:=by have:=I.base;rw [hex] at this;exact this
 obtain ⟨t,he,nt,ht⟩:=m.there;have fr:=I.stack;rw [hs] at fr;have st:=I.ok.frames;rw [hs] at st;have back:∀ b,h'.get? b=none->s.heap.get? b=none:=fun b n=>by
  cases q:s.heap.get? b with
  | none=>rfl
  | some o=>rw [m.keeps b o q] at n;cases n
 unfold leaving;refine ζ (JP (base:=X.base) (C:=C) st (fr.of_keeps fun b o q _=>⟨o,m.keeps b o q,rfl⟩) hf he ⟨rfl,rfl⟩ rfl rfl fun h2 T c nT F=>?_);have nT':=back T nT;refine ⟨ea,T,C,H,rfl,F,⟨xg u0 m.new,xg u0 nT'⟩,⟨I.hok.zbC m.new,I.hok.zbC nT'⟩,I.os,I.bare,?_,?_,hE⟩
 ·refine (u0.trans (Un.kept m.keeps)).chg c (fun b hb=>?_) (zar I hf);rw [ω.mp hb];exact xg u0 m.new
 ·refine (I.hok.kept m.keeps).chg c (fun b hb=>?_) fun b hb=>?_
  ·rw [<- hs] at hb;exact I.Z3 b hb
  ·rw [ω.mp hb];exact I.hok.zbC m.new
theorem Inv.thrown {e:δ}{s':ς}(I:Inv X pj σ H s) (c:CX1 X.prog X.w X.stack H s E e s'):∃ (ea T C:Addr) (H':Hp),e=.ref ea/\Fly s'.heap ea T C/\(s.heap.get? ea=none/\s.heap.get? T=none)/\(H' ea=none/\H' T=none)/\Un (frs X.stack) [] H H' s.heap s'.heap/\Inv X pj σ H' s'/\E e (some C) H':=by obtain ⟨ea,T,C,H',e1,F,n1,n2,os,bare,un,hok,h⟩:=c;exact ⟨ea,T,C,H',e1,F,n1,n2,un,I.call' os un hok bare (fun b z=>absurd z (by simp)),h⟩
theorem JX {e:δ}{s':ς}(hs:X.stack=X.env::X.outer) (hf:X.env.frame=some X.env.locals) (hex:X.ex=[]) (I:Inv X pj σ H s) (cx:CX1 X.prog X.w X.stack H s E' e s') (hE:∀ C H',E' e C H'->E e C H'):
  Ρ (ώ X.prog X.w) X.A (leaving X.env e) (fun _ s''=>CX1 X.prog X.w X.outer X.Hz X.sy E e s'') W s':=by
 obtain ⟨ea,T,C,H',rfl,F,n1,n2,un,J,h⟩:=I.thrown cx;have u0:Un X.fs [] X.Hz H X.sy.heap s.heap:=by have:=I.base;rw [hex] at this;exact this
 have u1:Un X.fs [] X.Hz H' X.sy.heap s'.heap:=by have:=J.base;rw [hex] at this;exact this
 have fr:=J.stack;rw [hs] at fr;have st:=I.ok.frames;rw [hs] at st;unfold leaving;refine ζ (QC (base:=X.base) (C:=C) st fr hf F fun h2 T' c nT F'=>?_);refine ⟨ea,T',C,H',rfl,F',⟨xg u0 n1.1,xg u1 nT⟩,⟨n2.1,J.hok.zbC nT⟩,J.os,J.bare,?_,?_,hE _ _ h⟩
 ·refine u1.chg c (fun b hb=>?_) (zar J hf);rcases χ.mp hb with rfl | hb
  ·exact xg u0 n1.1
  ·rw [ω.mp hb];exact xg u0 n1.2
 ·refine J.hok.chg c (fun b hb=>?_) fun b hb=>?_
  ·rw [<- hs] at hb;exact J.Z3 b hb
  ·rcases χ.mp hb with rfl | hb
   ·exact n2.1
   ·rw [ω.mp hb];exact n2.2
end
open PySem PySem.Spec PySem.W PyProof.Rows
structure XCls (K:Frag) (C:Addr):Prop where
 ga:findIn K (.ref C) "__getattribute__"=some (some (.builtin "BaseException.__getattribute__"))
 gr:findIn K (.ref C) "__getattr__"=some none
 cl:findIn K (.ref C) "__class__"=some (some (.builtin "object.__class__"))
 mb:mroIn K C (.type "BaseException")=some true
 mo:mroIn K C (.type "object")=some true
 it:(clsIn K C).isSome=true
section
variable {prog:Λ}{w:ϓ}{A:ϙ}{E:VSP}{h:Heap}{g:Array GenState}{d:Drawn}{t:Nat}{os:OsState}{a:Addr}{o:Obj}{K:Frag}{C:Addr}
end
section
variable {X:Cx}{pj:List (Addr×Obj)}{σ σ':St}{H:Hp}{s:ς}{x:Str}{i:Nat}{ea C:Addr}{oe:Obj}
noncomputable def Cx.hnd (X:Cx) (ea:Addr) (oe:Obj):Cx:={ X with A:=X.A.mark (some (.ref ea)),calm:=false,pn:=(ea,oe)::X.pn,xe:=fun _ _=>False }
theorem Inv.hnd (I:Inv X pj σ H s) (h1:s.heap.get? ea=some oe) (h2:H ea=none) (h3:ea≠X.env.locals) (h4:ea ∉ X.fs) (h5:∀ v,oe.data≠.cell v):Inv (X.hnd ea oe) pj σ H s:=
 ⟨⟨I.ok.mod,I.ok.kind,I.ok.glob,I.ok.blt,I.ok.above,I.ok.inj,I.ok.has,I.ok.cab,(fun z=>nomatch z),I.ok.frames,I.ok.stk,I.ok.exf,I.ok.bs,I.ok.bsz,I.ok.noex,I.ok.exfs,I.ok.funs,I.ok.frf⟩,I.os,I.bare,I.base,I.loc,I.cell,I.free,I.freeC,
  fun p hp=>by
   rcases χ.mp hp with rfl | hp
   ·exact ⟨h1,h2,h3,h4,h5⟩
   ·exact I.pin p hp,I.hok,I.len⟩
end
section
variable {X:Cx}{pj:List (Addr×Obj)}{σ:St}{H:Hp}{s:ς}{C:Addr}{bmB:List δ}
end
end L2
namespace EV
open PySem PySem.Spec PySem.W PyProof.Rows L2
structure KCls (Γ:Gm) (tb:List (List Nat)) (c:Nat) (C:Addr):Prop where
 ca:Γ.ca c=some C
 ex:W.excIn Γ.K C veB "ValueError.__new__"=true
 xc:XCls Γ.K C
 sub:∀ k Ck,Γ.ca k=some Ck->W.kitOne Γ.K (.ref C) (.ref Ck)=some (subT tb c k)
 ve:W.kitOne Γ.K (.ref C) (.type "ValueError")=some true
 em:∀ k Ck,Γ.ca k=some Ck->W.exmOne Γ.K (.ref C) (.ref Ck)=some (subT tb c k)
structure FnI (Γ:Gm) (B:Tb) (cf:Nat->Nat->Sp) (k:Nat) (P:Λ) (w:ϓ) (K:W.Frag) (mg:Str->Option δ) (base:Heap) (f:Nat) (x:Str):Prop where
 ex:∃ (a:Addr) (fd:aV) (ps:List Str),Γ.fa f=some a/\(dotted x=false->mg x=some (.ref a))/\W.keepIn K (.ref a)=true/\Binds K fd ps []/\B.pars[f]?=some ps/\FnOk P w K mg base (CX1 P w) (2*k) a fd ps (cf f ps.length) /\
  ∀ (ks:List Str) (perm:List Nat),perm.length=ps.length->(∀ i∈perm,i < ks.length)->perm.map (fun i=>ks.getD i "")=ps->ks.length=ps.length->(f,ks,perm)∈B.kws ->
   zhW K fd ps ks (fun us ws=>if ws.length=ks.length then us++perm.map fun i=>ws.getD i .none else []) (fun vs zs=>if zs.length=ks.length then vs++perm.map fun i=>zs.getD i .non else [])
structure ObOk (Γ:Gm) (o:Ob) (C:Addr):Prop where
 ca:caOf Γ.K o.name=some C
 cl:Cls Γ.K C
 fl:∀ f∈o.fields,zhV Γ.K C f
 mt:∀ (m:Str) (i:Nat),(m,i)∈o.meths->∃ a,Γ.fa i=some a/\Meth Γ.K C m a
 mkk:∀ i:Nat,(("__init__":Str),i)∈o.meths->∃ a,Γ.fa i=some a/\Mk Γ.K C a
structure LamE (Γ:Gm) (X:Cx) (p:Nat):Prop where
 ex:∃ cc P,X.env.code=.ref cc/\Γ.ta p=some (P,X.env.qual++"<lambda>")/\Ο≠P/\∀ h,X.K.In h->CodeHd h cc P/\h.BuiltinsAt X.mg P
 new:∀ x c,X.env.cells.lookup x=some c->X.sy.heap.objs.size<=c
def LamI (Γ:Gm) (cf:Nat->Nat->Sp) (k:Nat) (P:Λ) (w:ϓ) (K:W.Frag) (mg:Str->Option δ) (base:Heap):Prop:=
 ∀ (f n:Nat) (q:Str) (pr:aO) (b:Expr) (sc:aH) (fs:List Str) (a:Addr) (pm cv ct:δ) (cl:List (Str×Addr)) (ws:List V) (A:ϙ) (outer:List Env) (s:ς) (H:Hp) (us:List δ) (vs:List V) (Q:VK) (E:XK),
  Γ.la f q pr b sc fs->Room (2*k) A->Env0 P w K mg base A outer s H->H a=some (kn (lamO q pr b sc cl pm cv ct))->yI H q cv->Clo H cl fs ws->Vals vs us->cf f n (vs++ws) H Q E->iZ (ώ P w) A (.call (.ref a) ⟨us,[]⟩) (CR (CX1 P w) outer P w H s Q E) s
structure XOk (Γ:Gm) (B:Tb) (cf:Nat->Nat->Sp) (k:Nat) (X:Cx) (c:Cc):Prop where
 hK:X.K=Γ.K
 nm:X.env.scope.names=c.names
 kd:X.env.scope.kind=.function
 N:X.N=c.N
 nd:X.N.Nodup
 fn:c.fn=true->∀ x,X.fn x=true
 calm:X.calm=true
 room:Room (2*k+1) X.A
 cells:∀ x,(c.names.lookup x=some .cell\/c.names.lookup x=some .free)->∃ a,X.env.cells.lookup x=some a
 fns:∀ (f:Nat) (x:Str),B.fns[f]?=some x->FnI Γ B cf k X.prog X.w X.K X.mg X.base f x
 bare:∀ x∈B.bare,X.mg x=none
 consts:∀ (n:Nat) (x:Str) (d:D),B.consts[n]?=some (x,d)->∃ u v,X.mg x=some u/\RelV v u/\∀ g,Has Γ g d v
 fa:∀ (f:Nat) (a:Addr),Γ.fa f=some a->∃ x,B.fns[f]?=some x
 cl:∀ (c:Nat) (x:Str) (l:List Nat),B.cls[c]?=some (x,l)->∃ C,X.mg x=some (.ref C)/\KCls Γ (B.cls.map (·.2)) c C
 ca:∀ (c:Nat) (C:Addr),Γ.ca c=some C->∃ x l,B.cls[c]?=some (x,l)
 ob:∀ o∈B.obs,∃ C,X.mg o.name=some (.ref C)/\ObOk Γ o C
 lm:LamI Γ cf k X.prog X.w X.K X.mg X.base
 la:∀ (f:Nat) (r:LamR) (q:Str) (pr:aO) (b:Expr) (sc:aH),B.fns.length<=f->B.lams[f - B.fns.length]?=some r->lamB r pr b sc=true->B.fns[r.gi]?=some r.g->Γ.la f q pr b sc [r.f]
 tb:∀ p,c.tb=some p->c.fn=false->LamE Γ X p/\∀ x,X.fn x=false
section
variable {Γ:Gm}{B:Tb}{cf:Nat->Nat->Sp}{k:Nat}{X:Cx}{c:Cc}
theorem XOk.rm (x:XOk Γ B cf k X c):Room (2*k) X.A:=x.room.mono (Nat.le_succ _)
theorem XOk.u61 (x:XOk Γ B cf k X c):X.A.units+61 < ϵ:=by have:=x.room.un;lia
theorem XOk.u1 (x:XOk Γ B cf k X c):X.A.units+1 < ϵ:=by have:=x.room.un;lia
theorem XOk.vis (x:XOk Γ B cf k X c) {n:Str}(h:visK (c.names.lookup n)=true):Vis X.env.scope n:=by
 unfold Vis;rw [x.nm];cases q:c.names.lookup n with
 | none=>rw [q] at h;cases h
 | some kd=>rw [q] at h;cases kd <;> first | exact .inl rfl | exact .inr (.inl rfl) | exact .inr (.inr rfl) | cases h
theorem XOk.glob (x:XOk Γ B cf k X c) {n:Str}(h:gloK (c.names.lookup n)=true):Gl X n:=by
 unfold Gl lL;rw [x.nm];cases q:c.names.lookup n with
 | none=>rw [q] at h;cases h
 | some kd=>rw [q] at h;cases kd <;> first | rfl | cases h
theorem yf {n:Str}(h:yu n=true):(n==("__debug__":Str))=false/\(n==("__classdict__":Str))=false/\n≠("__name__":Str):=by unfold yu at h;simp only [ε,b7] at h;exact ⟨h.1.1.1,h.1.1.2,by simpa using h.1.2⟩
theorem Ug {n:Str}(h:yu n=true):dotted n=false:=by unfold yu at h;simp only [ε,b7] at h;exact h.2
theorem XOk.pg (x:XOk Γ B cf k X c) {i:Nat}{n:Str}{pos:Pos}(hi:c.N[i]?=some n) (hs:stoK c n=true):PG X (.Name n pos) (X5 i):=by
 have hi':X.N[i]?=some n:=by rw [x.N];exact hi
 unfold stoK at hs;cases q:c.names.lookup n with
 | none=>rw [q] at hs;cases hs
 | some kd=>
  rw [q] at hs;have q':X.env.scope.names.lookup n=some kd:=by rw [x.nm];exact q
  cases kd with
  | «local»=>exact Qt x.nd hi' (.inl q') (.inr q')
  | cell=>exact Qt x.nd hi' (.inr q') (.inl (x.fn hs n))
  | _=>cases hs
def X4:List Nat->TGs
 | []=>gNil
 | i::is=>zbO (X5 i) (X4 is)
theorem Qp (x:XOk Γ B cf k X c):∀ {es:List Expr}{ns:List Str}{is:List Nat},EV.namesOf es=some ns->ns.length=is.length->((is.zip ns).all fun p=>c.N[p.1]?==some p.2&&stoK c p.2)=true ->
  PGs X es (X4 is)/\(aN es X.env).length=is.length/\(aN es X.env).findIdx? (·.1)=none
 | [],ns,is,h,hl,_=>by
  cases (show some []=some ns from h);cases is with
  | nil=>exact ⟨Qq,rfl,rfl⟩
  | cons=>simp at hl
 | e::es,ns,is,h,hl,ha=>by
  cases e with
  | Name n pos=>
   simp only [EV.namesOf,Α] at h;obtain ⟨r,h1,h2⟩:=h;subst h2;cases is with
   | nil=>simp at hl
   | cons i is=>
    simp only [bc,gh,ε] at ha;obtain ⟨⟨ha1,ha2⟩,ha3⟩:=ha;obtain ⟨g1,g2,g3⟩:=Qp x h1 (by simpa using hl) ha3;refine ⟨Z7 (x.pg (eq_of_beq ha1) ha2) g1,?_,?_⟩
    ·show (_::aN es X.env).length=_
     rw [aY,g2,aY]
    ·show List.findIdx? _ ((false,_)::aN es X.env)=none
     rw [List.findIdx?_cons];simp [g3]
  | _=>simp [EV.namesOf] at h
def tgOf (K:W.Frag):T->TG
 | .nst i is=>gTup K 2 (zbO (X5 i) (zbO (gTup K is.length (X4 is)) gNil))
 | .one i=>X5 i
 | .tup is=>gTup K is.length (X4 is)
theorem Jr {x:Expr}{q:Str×Pos×List Expr×Nat×Pos×Nat×Pos}(h:zb4 x=some q):x=.Tuple [.Name q.1 q.2.1,.Tuple q.2.2.1 q.2.2.2.1 q.2.2.2.2.1] q.2.2.2.2.2.1 q.2.2.2.2.2.2:=by
 cases x with
 | Tuple es k p=>
  cases es with
  | nil=>cases h
  | cons a r=>
   cases a with
   | Name n pos=>
    cases r with
    | nil=>cases h
    | cons b z=>
     cases z with
     | cons _ _=>cases h
     | nil=>
      cases b with
      | Tuple fs k2 p2=>cases h;rfl
      | _=>cases h
   | _=>cases h
 | _=>cases h
theorem zcW (x:XOk Γ B cf k X c) {t:T}{tgt:Expr}(hn:Yn t=true) (h:chkT c t tgt=true):PG X tgt (tgOf X.K t):=by
  cases t with
  | nst i is=>
    unfold chkT at h;rw [if_pos hn] at h;cases e:zb4 tgt with
    | none=>rw [e] at h;cases h
    | some q=>
      rw [e] at h
      have h:(match namesOf q.2.2.1 with
        | some ns=>(q.1::ns).length==(i::is).length&&((i::is).zip (q.1::ns)).all fun p=>c.N[p.1]?==some p.2&&stoK c p.2
        | none=>false)=true:=h
      rw [Jr e];cases en:namesOf q.2.2.1 with
      | none=>rw [en] at h;cases h
      | some ns=>
        rw [en] at h;simp only [bc,gh,ε] at h;obtain ⟨h1,⟨h2,h3⟩,h4⟩:=h;have h1:ns.length=is.length:=by simpa using h1
        obtain ⟨g1,g2,g3⟩:=Qp x en h1 h4;exact Qs x.calm (Z7 (x.pg (eq_of_beq h2) h3) (Z7 (Qs x.calm g1 g2 g3) Qq)) rfl rfl
  | _=>cases hn
theorem Zf (x:XOk Γ B cf k X c) {t:T}{tgt:Expr}(h:chkT c t tgt=true):PG X tgt (tgOf X.K t):=by
 by_cases hnst:Yn t=true
 ·exact zcW x hnst h
 unfold chkT at h;rw [if_neg hnst] at h;rw [ε] at h;obtain ⟨h1,h2⟩:=h;cases tgt with
 | Name n pos=>
  cases t with
  | one i=>
   simp only [wj,tIs,bc,List.zip_nil_right,gh,List.all_nil,d8,ε] at h2;exact x.pg (eq_of_beq h2.2.1) h2.2.2
  | tup is=>cases h1
  | nst _ _=>exact absurd rfl hnst
 | Tuple es kk pos=>
  cases t with
  | one i=>cases h1
  | nst _ _=>exact absurd rfl hnst
  | tup is=>
   simp only [wj,tIs] at h2;cases hn:EV.namesOf es with
   | none=>rw [hn] at h2;cases h2
   | some ns=>
    rw [hn] at h2;simp only [ε,beq_iff_eq] at h2;obtain ⟨g1,g2,g3⟩:=Qp x hn h2.1 (by simpa using h2.2);exact Qs x.calm g1 g2 g3
 | _=>simp [wj] at h2
noncomputable def wB (cells:List (Str×Addr)):List (Str×Ϟ)->List (Str×Addr)->List (Str×Addr)
 | [],acc=>acc
 | (n,kd)::r,acc=>if (kd==Ϭ)=true then wB cells r ((n,(cells.lookup n).getD 0)::acc) else wB cells r acc
theorem qM {env:Env}:∀ (names:List (Str×Ϟ)) (acc:List (Str×Addr)),(∀ y∈names,y.2=.free->∃ a,env.cells.lookup y.1=some a) ->
  (forIn names acc fun x cs=>match x with
   | (name,kind)=>if (kind==Ϭ)=true then do let a <- cellOf env name;pure (dZ ((name,a)::cs)) else pure (dZ cs):Sem (List (Str×Addr)))=pure (wB env.cells names acc)
 | [],acc,_=>rfl
 | (n,kd)::r,acc,h=>by
  rw [List.forIn_cons];by_cases hk:(kd==Ϭ)=true
  ·obtain ⟨a,ha⟩:=h (n,kd) θ (eq_of_beq hk);have ha:env.cells.lookup n=some a:=ha;simp only [hk,if_true];have:cellOf env n=pure a:=by unfold cellOf;rw [ha]
   rw [this];simp only [pure_bind];rw [qM r _ fun y hy=>h y (ι _ hy)];simp [wB,hk,ha]
  ·simp only [hk];simp only [bj,if_false,pure_bind];rw [qM r _ fun y hy=>h y (ι _ hy)];simp [wB,hk]
theorem zaD {env:Env}{sc:aH}(h:∀ y∈sc.names,y.2=.free->∃ a,env.cells.lookup y.1=some a):mQ sc env=pure (wB env.cells sc.names []):=by
 unfold mQ;have:=qM sc.names [] h
 first
  | exact (congrArg (fun z=>z >>= pure) this).trans (by simp)
  | (simp only [bind_pure];exact this)
  | exact this
theorem yx {cells:List (Str×Addr)}{y:Str}:∀ (names:List (Str×Ϟ)) (acc:List (Str×Addr)),(∀ z∈names,z.2=.free->∃ a,cells.lookup z.1=some a)->(∀ c,acc.lookup y=some c->cells.lookup y=some c) ->
  (∀ c,(wB cells names acc).lookup y=some c->cells.lookup y=some c)/\((y,Ϭ)∈names\/(∃ c,acc.lookup y=some c)->∃ c,(wB cells names acc).lookup y=some c)
 | [],acc,_,h=>⟨h,fun q=>by
  rcases q with q | q
  ·cases q
  ·exact q⟩
 | (n,kd)::r,acc,hh,h=>by
  by_cases hk:(kd==Ϭ)=true
  ·obtain ⟨a,ha⟩:=hh (n,kd) θ (eq_of_beq hk);have ha:cells.lookup n=some a:=ha;have e:wB cells ((n,kd)::r) acc=wB cells r ((n,a)::acc):=by simp [wB,hk,ha]
   rw [e]
   obtain ⟨i1,i2⟩:=yx (y:=y) r ((n,a)::acc) (fun z hz=>hh z (ι _ hz)) (fun c q=>by
    rw [ϛ] at q;cases hy:y==n with
    | true=>rw [hy] at q;cases q;rw [eq_of_beq hy];exact ha
    | false=>rw [hy] at q;exact h c q)
   refine ⟨i1,fun q=>i2 ?_⟩;rcases q with q | ⟨c,q⟩
   ·rcases χ.mp q with q | q
    ·right;cases q;exact ⟨a,List.lookup_cons_self⟩
    ·exact .inl q
   ·right;rw [ϛ];cases hy:y==n with
    | true=>exact ⟨a,rfl⟩
    | false=>exact ⟨c,q⟩
  ·have e:wB cells ((n,kd)::r) acc=wB cells r acc:=by simp [wB,hk]
   rw [e];obtain ⟨i1,i2⟩:=yx (y:=y) r acc (fun z hz=>hh z (ι _ hz)) h;refine ⟨i1,fun q=>i2 ?_⟩;rcases q with q | q
   ·rcases χ.mp q with q | q
    ·cases q;exact absurd rfl hk
    ·exact .inl q
   ·exact .inr q
theorem ur (x:XOk Γ B cf k X c) (sc:aH):(gQ sc X.env).names=relK c.names sc.names:=by
 unfold gQ relK;simp only [x.kd,lL,x.nm]
 congr 1
 funext y
 have e:(mq==mq)=true:=rfl;rw [e,d8]
theorem Xa {names l:List (Str×Ϟ)}{y:Str}{kd:Ϟ}(hc:∀ z∈l,z.2≠.cell):(relK names l).lookup y=some kd->kd=.cell\/kd=.free->(y,Ϭ)∈l:=by
 intro h hk
 induction l with
 | nil=>cases h
 | cons p l ih=>
  obtain ⟨n,q⟩:=p;have hq:=hc (n,q) θ;show (y,Ϭ)∈(n,q)::l
  unfold relK at h;rw [ϐ] at h;by_cases e:(q==Ϭ&&names.lookup n==some .cell)=true
  ·simp only [e,if_true] at h;rw [ϛ] at h;cases hy:y==n with
   | true=>
    rw [ε] at e;rw [eq_of_beq hy,eq_of_beq e.1];exact θ
   | false=>
    rw [hy] at h;exact ι _ (ih (fun z hz=>hc z (ι _ hz)) h)
  ·simp only [e,bj,if_false] at h;rw [ϛ] at h;cases hy:y==n with
   | true=>
    rw [hy] at h;cases h;rcases hk with hk | hk
    ·exact absurd hk hq
    ·rw [hk,eq_of_beq hy];exact θ
   | false=>
    rw [hy] at h;exact ι _ (ih (fun z hz=>hc z (ι _ hz)) h)
theorem Qj {names l:List (Str×Ϟ)}{y:Str}(h:l.lookup y=some .free):(relK names l).lookup y=some .cell\/(relK names l).lookup y=some .free:=by
 induction l with
 | nil=>cases h
 | cons p l ih=>
  obtain ⟨n,q⟩:=p;rw [ϛ] at h;unfold relK;rw [ϐ];cases hy:y==n with
  | true=>
   rw [hy] at h;cases h;by_cases e:(Ϭ==Ϭ&&names.lookup n==some .cell)=true
   ·left;simp only [e,if_true,ϛ,hy]
   ·right;simp only [e,bj,if_false,ϛ,hy]
  | false=>
   rw [hy] at h;have:=ih h;by_cases e:(q==Ϭ&&names.lookup n==some .cell)=true
   ·simp only [e,if_true,ϛ,hy];exact this
   ·simp only [e,bj,if_false,ϛ,hy];exact this
theorem Jl (x:XOk Γ B cf k X c) {sc:aH}{js:List Nat}{xs:List Str}(h:chkS c sc js=true):Km X sc (wB X.env.cells sc.names []) xs js:=by
 unfold chkS at h;simp only [ε,ak,beq_iff_eq] at h;obtain ⟨⟨⟨⟨⟨h1,h2⟩,h3⟩,h4⟩,h5⟩,h6⟩:=h;have hc:∀ y∈sc.names,y.2≠.cell:=fun y hy=>by simpa using h2 y hy
 have hcell:∀ y∈sc.names,y.2=.free->∃ a,X.env.cells.lookup y.1=some a:=fun y hy hf=>by have:=h5 y hy;rw [hf] at this;refine x.cells y.1 ?_;simpa using this
 refine ⟨zaD hcell,hc,h1,fun y hy hl=>?_,fun y c' q=>(yx sc.names [] hcell (fun _ q=>by cases q)).1 c' q,fun y hy=>?_,fun j hj y hy=>?_,fun j hj=>?_⟩
 ·have:=h3 y hy;rw [hl] at this;simpa using this
 ·rw [ur x] at hy;refine (yx sc.names [] hcell (fun _ q=>by cases q)).2 (.inl ?_);rcases hy with q | q
  ·exact Xa hc q (.inl rfl)
  ·exact Xa hc q (.inr rfl)
 ·have q:=h6 j hj;rw [x.N] at hy;rw [hy] at q;simp only [ε,dz,beq_iff_eq] at q;refine ⟨?_,?_,(yx sc.names [] hcell (fun _ q=>by cases q)).2 (.inl (Ϣ q.2)),?_⟩
  ·unfold Vis;rw [x.nm];rcases q.1 with z | z
   ·exact .inr (.inl z)
   ·exact .inr (.inr z)
  ·unfold lL;rw [x.nm];rcases q.1 with z | z <;> rw [z] <;> decide
  ·rw [ur x];exact Qj q.2
 ·have q:=h6 j hj;cases e:c.N[j]? with
  | none=>rw [e] at q;cases q
  | some y=>rw [x.N];exact (υ.mp e).1
theorem Kr (x:XOk Γ B cf k X c) {sc:aH}{js:List Nat}{xs:List Str}(h:chkS c sc js=true) (hn:(xs++js.map (fun j=>c.N.getD j "")).Nodup) (C:Addr) (s3:ς) (H3:Hp) (fp:List Addr):
  XOk Γ B cf k (cxG X sc (wB X.env.cells sc.names []) xs js C s3 H3 fp) (inner c sc xs js):=by
 have K:=Jl (xs:=xs) x h;refine ⟨x.hK,ur x sc,K.kind,by show xs++js.map (fun j=>X.N.getD j "")=_;rw [x.N];rfl,by show (xs++js.map (fun j=>X.N.getD j "")).Nodup;rw [x.N];exact hn,fun q=>absurd (show false=true from q) Κ,x.calm,x.room,fun y hy=>?_,x.fns,x.bare,x.consts,x.fa,x.cl,x.ca,x.ob,x.lm,x.la,fun p z=>nomatch z⟩;have hy':(gQ sc X.env).names.lookup y=some .cell\/(gQ sc X.env).names.lookup y=some .free:=by rw [ur x];exact hy
 exact K.has y hy'
end
end EV
namespace L2
open PySem PySem.Spec PyProof.Rows
section
variable {X:Cx}{tg:Expr}
theorem zg6 {pj:List (Addr×Obj)}{σ:St}{H:Hp}{s:ς}{R:It->Hp->Prop}{a:Addr}(I:Inv X pj σ H s) (h:((∃ xs,SqL X.K H a xs)/\R (Itl X.K a) H)\/((∃ xs,SqT X.K H a xs)/\R (Itt X.K a) H)):Ρ (ώ X.prog X.w) X.A (pyIter (.ref a)) (PIE X pj σ tg R) X.xe s:=by
 have fp:∀ b∈[s.heap.objs.size],FpOk X pj H b:=fun b hb=>by rw [ω.mp hb];exact I.fpOk (Ζ _) (I.hok.fresh (Ζ _))
 rcases h with ⟨⟨xs,hq⟩,q⟩ | ⟨⟨xs,hq⟩,q⟩
 ·obtain ⟨its,rv,p,hz⟩:=I.list hq;exact iV p.isList ⟨s.heap.objs.size,[s.heap.objs.size],_,_,H,rfl,I.kept (t':=s.toks) fun b o e=>μ _ e,KC a _,⟨_,Μ _ rfl,rfl,rfl⟩,fp,q⟩
 ·obtain ⟨its,rv,p,hz⟩:=I.tuple hq;exact wpAny_pyIter_tuple (show s.heap.IsTuple a its.toArray from p) ⟨s.heap.objs.size,[s.heap.objs.size],_,_,H,rfl,I.kept (t':=s.toks) fun b o e=>μ _ e,Jx a _,⟨_,Μ _ rfl,rfl,rfl⟩,fp,q⟩
noncomputable def Its (x:Str):It:=⟨fun i _=>i < x.cps.size,fun i H v H'=>H'=H/\∃ c,x.cps[i]?=some c/\v=.str ⟨#[c]⟩,fun i _=>x.cps.size<=i⟩
theorem Kz {P:Λ}{w:ϓ}{K:W.Frag}{tg:Expr}(x:Str) (t:Tok) (it:Addr):Turn P w K tg (Its x) [it] it (fun i h=>h.IsStrIter it "str_ascii_iterator" x t i) where
 mem:=by simp
 obj:=fun i h st b hb=>by
  have e:b=it:=by simpa using hb
  subst e;obtain ⟨o,e,c,d⟩:=st;exact ⟨o,e,fun v z=>by rw [d] at z;cases z⟩
 keep:=fun i h h' st k=>by obtain ⟨o,e,r⟩:=st;exact ⟨o,k it (by simp) o e,r⟩
 item:=by
  intro X hP hw hK hc i pj s σ H E I hf st hg;subst hP hw hK;obtain ⟨f0,f1,f2,f3,f4,f5⟩:=hf it (by simp);refine (Walks.strAscii (prog:=X.prog) (w:=X.w) (I.ok.hd hc) it x t).item i s _ _ hg st fun v h' tk hv st' kk=>?_
  obtain ⟨c,u,h1,rfl⟩:=hv;have I1:Inv X pj σ H { s with heap:=h',toks:=tk }:=I.turned (fun b o hb e=>kk b o (by simpa using hb) e) f0 f1 f3 f4 f5;obtain ⟨o,e,c1,d⟩:=id st';exact ⟨_,rfl,zaq (s:={ s with heap:=h',toks:=tk }) e c1 d (by decide) ⟨.str ⟨#[c]⟩,H,I1,⟨u,rfl⟩,⟨rfl,c,h1,rfl⟩,st',fun b hb=>(hf b hb).1⟩⟩
 done:=by intro X hP hw hK hc i pj s σ H E I hf st hg;subst hP hw hK;obtain ⟨f0,f1,f2,f3,f4,f5⟩:=hf it (by simp);have hg:x.cps.size<=i:=hg;exact wpAny_pyNext_ascii_end (I.ok.hd hc) st (by simp [hg]) fun h' eb=>⟨rfl,I.turned (t':=s.toks) (fun b o hb e=>eb b o hb e) f0 f1 f3 f4 f5⟩
 self:=fun _ _ _ _ _ st h=>wpAny_pyIter_striter_ascii st h
theorem Ky {P:Λ}{w:ϓ}{K:W.Frag}{tg:Expr}(x:Str) (t:Tok) (it:Addr):Turn P w K tg (Its x) [it] it (fun i h=>h.IsStrIter it "str_iterator" x t i) where
 mem:=by simp
 obj:=fun i h st b hb=>by
  have e:b=it:=by simpa using hb
  subst e;obtain ⟨o,e,c,d⟩:=st;exact ⟨o,e,fun v z=>by rw [d] at z;cases z⟩
 keep:=fun i h h' st k=>by obtain ⟨o,e,r⟩:=st;exact ⟨o,k it (by simp) o e,r⟩
 item:=by
  intro X hP hw hK hc i pj s σ H E I hf st hg;subst hP hw hK;obtain ⟨f0,f1,f2,f3,f4,f5⟩:=hf it (by simp);refine (Walks.strWide (prog:=X.prog) (w:=X.w) (I.ok.hd hc) it x t).item i s _ _ hg st fun v h' tk hv st' kk=>?_
  obtain ⟨c,u,h1,rfl⟩:=hv;have I1:Inv X pj σ H { s with heap:=h',toks:=tk }:=I.turned (fun b o hb e=>kk b o (by simpa using hb) e) f0 f1 f3 f4 f5;obtain ⟨o,e,c1,d⟩:=id st';exact ⟨_,rfl,zaq (s:={ s with heap:=h',toks:=tk }) e c1 d (by decide) ⟨.str ⟨#[c]⟩,H,I1,⟨u,rfl⟩,⟨rfl,c,h1,rfl⟩,st',fun b hb=>(hf b hb).1⟩⟩
 done:=by intro X hP hw hK hc i pj s σ H E I hf st hg;subst hP hw hK;obtain ⟨f0,f1,f2,f3,f4,f5⟩:=hf it (by simp);have hg:x.cps.size<=i:=hg;exact wpAny_pyNext_wide_end (I.ok.hd hc) st (by simp [hg]) fun h' eb=>⟨rfl,I.turned (t':=s.toks) (fun b o hb e=>eb b o hb e) f0 f1 f3 f4 f5⟩
 self:=fun _ _ _ _ _ st h=>wpAny_pyIter_striter_wide st h
theorem zeb {pj:List (Addr×Obj)}{σ:St}{H:Hp}{s:ς}{R:It->Hp->Prop}{z:Str}{t:Tok}(I:Inv X pj σ H s) (h:R (Its z) H):Ρ (ώ X.prog X.w) X.A (pyIter (.str z t)) (PIE X pj σ tg R) X.xe s:=by
 have fp:∀ b∈[s.heap.objs.size],FpOk X pj H b:=fun b hb=>by rw [ω.mp hb];exact I.fpOk (Ζ _) (I.hok.fresh (Ζ _))
 cases ha:z.cps.all (· < 128) with
 | false=>exact wpAny_pyIter_wide ha ⟨s.heap.objs.size,[s.heap.objs.size],_,_,H,rfl,I.kept (t':=s.toks) fun b o e=>μ _ e,Ky z t _,⟨_,Μ _ rfl,rfl,rfl⟩,fp,h⟩
 | true=>exact wpAny_pyIter_ascii ha ⟨s.heap.objs.size,[s.heap.objs.size],_,_,H,rfl,I.kept (t':=s.toks) fun b o e=>μ _ e,Kz z t _,⟨_,Μ _ rfl,rfl,rfl⟩,fp,h⟩
theorem zgd {l:Expr}{tl:TE}(hl:PE X l tl):PI X tg l (fun σ H R=>tl σ H fun x H1=>(∃ a,x=.ref a/\(((∃ xs,SqL X.K H1 a xs)/\R (Itl X.K a) H1)\/((∃ xs,SqT X.K H1 a xs)/\R (Itt X.K a) H1)))\/∃ z,x=.str z/\R (Its z) H1):=by
 intro pj s σ H R I h;refine thn (hl pj s σ H _ I h) fun v s1 ⟨x,H1,I1,r1,q⟩=>?_
 rcases q with ⟨a,e,q⟩ | ⟨z,e,q⟩
 ·subst e;cases r1;exact zg6 I1 q
 ·subst e;obtain ⟨t,rfl⟩:=r1;exact zeb I1 q
theorem zbk {a:Expr}{ta:TA}{p pos:Pos}{elts:List Expr}{kk:Nat}{tp:Pos}(hg:Gl X "enumerate") (hm:X.mg "enumerate"=none) (hv:bW "enumerate"=some (.type "enumerate")) (ha:PA X [a] ta) (hs:ϧ [a] X.env=[(false,eval a X.env)]):
  PI X (.Tuple elts kk tp) (.Call (.Name "enumerate" p) [a] [] pos) (fun σ H R=>ta σ H fun vs H1=>∃ l,vs=[.ref l]/\(((∃ xs,SqL X.K H1 l xs)/\R (Ite X.K l) H1)\/((∃ xs,SqT X.K H1 l xs)/\R (Itet X.K l) H1))):=by
 intro pj s σ H R I h;refine Call_ (uE I hg hm hv (ϫ (thn (ha pos pj s σ H _ I h) fun us s1 ⟨vs,H1,I1,r1,q1⟩=>?_) hs rfl));obtain ⟨l,e,q1⟩:=q1;subst e;obtain ⟨u,rfl,ru⟩:=r1.one;cases (show u=Β l from ru);have fp:∀ b∈[s1.heap.objs.size+1,s1.heap.objs.size],FpOk X pj H1 b:=fun b hb=>by
  have hb':b=s1.heap.objs.size+1\/b=s1.heap.objs.size:=by simpa using hb
  rcases hb' with rfl | rfl
  ·exact I1.fpOk (by lia) (I1.hok.fresh (by lia))
  ·exact I1.fpOk (Ζ _) (I1.hok.fresh (Ζ _))
 rcases q1 with ⟨⟨xs,hq⟩,q⟩ | ⟨⟨xs,hq⟩,q⟩
 ·obtain ⟨its,rv,pl,hz⟩:=I1.list hq;refine call_enumerate_list pl.isList fun h' he hit hsz hk=>?_
  have I2:Inv X pj σ H1 { s1 with heap:=h' }:=I1.kept (t':=s1.toks) hk;exact eY he ⟨_,[s1.heap.objs.size+1,s1.heap.objs.size],_,_,H1,rfl,I2,KD l _ _ (Nat.succ_ne_self _),⟨⟨_,he⟩,hit⟩,fp,q⟩
 ·obtain ⟨its,rv,pl,hz⟩:=I1.tuple hq;refine uL (show s1.heap.IsTuple l its.toArray from pl) fun h' he hit hsz hk=>?_
  have I2:Inv X pj σ H1 { s1 with heap:=h' }:=I1.kept (t':=s1.toks) hk;exact eY he ⟨_,[s1.heap.objs.size+1,s1.heap.objs.size],_,_,H1,rfl,I2,Jz l _ _ (Nat.succ_ne_self _),⟨⟨_,he⟩,hit⟩,fp,q⟩
end
end L2
namespace EV
open PySem PySem.Spec PyProof.Rows L2
section
variable {Γ:Gm}{Hz:Hp}{ρ:List Slot}
theorem zz {α:Type}{l:List α}{i j:Nat}{a b:α}:(l.set i a)[j]?=some b->(i=j/\i < l.length/\b=a)\/(i≠j/\l[j]?=some b):=by
 intro h;by_cases e:i=j
 ·subst e;by_cases hi:i < l.length
  ·rw [ϩ hi] at h;cases h;exact .inl ⟨rfl,hi,rfl⟩
  ·rw [lR (by lia)] at h;rw [dj (by lia)] at h;cases h
 ·rw [Ι e] at h;exact .inr ⟨e,h⟩
theorem EnvO.zc6 {H:Hp}{g:G}{σ:L2.St}{i:Nat}{d:D}{v:V}(env:EnvO Γ Hz H g ρ σ) (h:Has Γ g d v):EnvO Γ Hz H g (ρ.set i (.sh d)) (σ.set i (some v)):=by
 have hl:=env.len;refine ⟨by simp [hl],fun j e q=>?_,fun j e q=>?_,fun j j' e e' a q1 q2 q3 q4=>?_⟩
 ·rcases zz q with ⟨rfl,h1,h2⟩ | ⟨h1,h2⟩
  ·cases h2;exact ⟨v,ϩ (by lia),h⟩
  ·obtain ⟨u,e1,e2⟩:=env.sh j e h2;exact ⟨u,by rw [Ι h1];exact e1,e2⟩
 ·rcases zz q with ⟨rfl,h1,h2⟩ | ⟨h1,h2⟩
  ·cases h2
  ·obtain ⟨a,e1,e2⟩:=env.ow j e h2;exact ⟨a,by rw [Ι h1];exact e1,e2⟩
 ·rcases zz q1 with ⟨rfl,h1,h2⟩ | ⟨h1,h2⟩
  ·cases h2
  ·rcases zz q2 with ⟨rfl,h3,h4⟩ | ⟨h3,h4⟩
   ·cases h4
   ·rw [Ι h1] at q3;rw [Ι h3] at q4;exact env.inj j j' e e' a h2 h4 q3 q4
theorem EnvO.zib {H:Hp}{g:G}{σ:L2.St}{i:Nat}{d:D}{a:Addr}(env:EnvO Γ Hz H g ρ σ) (h0:Hz a=none) (hr:g.R a=none) (ha:a ∉ g.α) (hc:z9 Γ H g a d) (hi:yF d=false)
  (ne:∀ (j:Nat) (d':D),ρ[j]?=some (.ow d')->j≠i->σ[j]?≠some (some (.ref a))):EnvO Γ Hz H g (ρ.set i (.ow d)) (σ.set i (some (.ref a))):=by
 have hl:=env.len;refine ⟨by simp [hl],fun j e q=>?_,fun j e q=>?_,fun j j' e e' b q1 q2 q3 q4=>?_⟩
 ·rcases zz q with ⟨rfl,h1,h2⟩ | ⟨h1,h2⟩
  ·cases h2
  ·obtain ⟨u,e1,e2⟩:=env.sh j e h2;exact ⟨u,by rw [Ι h1];exact e1,e2⟩
 ·rcases zz q with ⟨rfl,h1,h2⟩ | ⟨h1,h2⟩
  ·cases h2;exact ⟨a,ϩ (by lia),h0,hr,ha,hc,hi⟩
  ·obtain ⟨b,e1,e2⟩:=env.ow j e h2;exact ⟨b,by rw [Ι h1];exact e1,e2⟩
 ·rcases zz q1 with ⟨rfl,h1,h2⟩ | ⟨h1,h2⟩
  ·rcases zz q2 with ⟨rfl,h3,h4⟩ | ⟨h3,h4⟩
   ·rfl
   ·rw [ϩ (by lia)] at q3;cases q3;rw [Ι h3] at q4;exact absurd q4 (ne j' e' h4 (bK h3))
  ·rcases zz q2 with ⟨rfl,h3,h4⟩ | ⟨h3,h4⟩
   ·rw [ϩ (by lia)] at q4;cases q4;rw [Ι h1] at q3;exact absurd q3 (ne j e h2 (bK h1))
   ·rw [Ι h1] at q3;rw [Ι h3] at q4;exact env.inj j j' e e' b h2 h4 q3 q4
theorem qD {Q:L2.St->Hp->Prop}{H:Hp}{g:G}:∀ {is:List Nat}{ds:List D}{vs:List V}{ρ:List Slot}{σ:L2.St},is.length=ds.length->Hass Γ g ds vs->EnvO Γ Hz H g ρ σ ->
  (∀ σ',EnvO Γ Hz H g ((is.zip ds).foldl (fun r p=>r.set p.1 (.sh p.2)) ρ) σ'->Q σ' H)->X4 is vs σ H Q
 | [],[],vs,ρ,σ,_,h,env,q=>by cases (show vs=[] from h);exact ⟨rfl,q σ env⟩
 | i::is,d::ds,vs,ρ,σ,hl,⟨v,r,e,hd,hr⟩,env,q=>by subst e;exact ⟨v,r,rfl,qD (by simpa using hl) hr (env.zc6 hd) q⟩
 | [],_::_,_,_,_,hl,_,_,_=>by simp at hl
 | _::_,[],_,_,_,hl,_,_,_=>by simp at hl
set_option tactic.hygienic true in
theorem Z2 {K:W.Frag}{t:T}{ρ':List Slot}{H:Hp}{g:G}{σ:L2.St}{d:D}{fr:Bool}{v:V}{Q:L2.St->Hp->Prop}(hb:xn ρ t (d,fr)=some ρ') (env:EnvO Γ Hz H g ρ σ) (sr:Same g.R H) (vo:VOk Γ Hz d fr v H g)
  (ne:fr=true->∀ (i:Nat) (d:D),ρ[i]?=some (.ow d)->σ[i]?≠some (some v)) (q:∀ σ',EnvO Γ Hz H g ρ' σ'->Q σ' H):tgOf K t v σ H Q:=by
 cases t with
 | one i=>
  simp only [xn] at hb;split at hb
  ·rename_i hc
   rw [ε] at hc;have hi:yF d=false:=by simpa using hc.2
   cases hb;refine q _ ?_;cases fr with
   | false=>exact env.zc6 vo
   | true=>
    obtain ⟨a,e,h0,hr,ha,hcell⟩:=(show ∃ a,v=.ref a/\Hz a=none/\g.R a=none/\a ∉ g.α/\z9 Γ H g a d from vo)
    subst e;exact env.zib h0 hr ha hcell hi fun j d' h _=>ne rfl j d' h
  ·cases hb
 | tup is=>
  cases d with
  | tup ds=>
   simp only [xn] at hb;split at hb
   ·rename_i hc
    cases hb;have hv:Has Γ g (.tup ds) v:=by
     cases fr with
     | false=>exact vo
     | true=>obtain ⟨_,_,_,_,_,hc⟩:=(show ∃ a,v=.ref a/\Hz a=none/\g.R a=none/\a ∉ g.α/\z9 Γ H g a (.tup ds) from vo);exact hc.elim
    obtain ⟨a,vs,rfl,h1,h2⟩:=hv;exact ⟨a,vs,rfl,SqT.of (sr _ _ h1),by rw [h2.len,hc.1],qD hc.1 h2 env q⟩
   ·cases hb
  | _=>simp [xn] at hb
 | nst i is=>
  have hb:((nst2 d).bind fun p=>if i < ρ.length/\is.length=p.2.length/\is.Nodup/\is.all (· < ρ.length) then some ((is.zip p.2).foldl (fun r p=>r.set p.1 (.sh p.2)) (ρ.set i (.sh p.1))) else none)=some ρ':=by cases d <;> exact hb
  cases e:nst2 d with
  | none=>rw [e] at hb;cases hb
  | some p=>
   rw [e] at hb;obtain ⟨y,ds⟩:=p;have ed:=zdS e;subst ed;have hb:(if i < ρ.length/\is.length=ds.length/\is.Nodup/\is.all (· < ρ.length) then some ((is.zip ds).foldl (fun r p=>r.set p.1 (.sh p.2)) (ρ.set i (.sh y))) else none)=some ρ':=hb;by_cases hc:i < ρ.length/\is.length=ds.length/\is.Nodup/\is.all (· < ρ.length)
   ·rw [if_pos hc] at hb;cases hb;have hv:Has Γ g (.tup [y,.tup ds]) v:=by
     cases fr with
     | false=>exact vo
     | true=>obtain ⟨_,_,_,_,_,hc⟩:=(show ∃ a,v=.ref a/\Hz a=none/\g.R a=none/\a ∉ g.α/\z9 Γ H g a (.tup [y,.tup ds]) from vo);exact hc.elim
    obtain ⟨a,vs,rfl,h1,h2⟩:=hv;obtain ⟨u,u2,rfl,h3,h4⟩:=h2.two;obtain ⟨b,ws,rfl,h5,h6⟩:=h4;exact ⟨a,_,rfl,SqT.of (sr _ _ h1),rfl,u,_,rfl,.ref b,[],rfl,b,ws,rfl,SqT.of (sr _ _ h5),by rw [h6.len,hc.2.1],qD hc.2.1 h6 (env.zc6 h3) fun σ' env'=>⟨rfl,q σ' env'⟩⟩
   ·rw [if_neg hc] at hb;cases hb
end
structure ItOk (Γ:Gm) (J:It) (l:List D) (g:G):Prop where
 go:∀ (i:Nat) (H:Hp) (g':G),Le g g'->Same g'.R H->i < l.length->J.go i H
 stop:∀ (i:Nat) (H:Hp) (g':G),Le g g'->Same g'.R H->l.length<=i->J.stop i H
 yld:∀ (i:Nat) (H:Hp) (g':G) (S:Store) (z:V) (H':Hp) (d:D),Le g g'->WOk Γ H g' S->l[i]?=some d->J.yld i H z H'->∃ g2,Step H g' H' g2/\Same H H'/\WOk Γ H' g2 S/\Has Γ g2 d z
theorem uJ:∀ (n:Nat) (l:List D),(v8 n l).length=l.length
 | _,[]=>rfl
 | n,d::l=>by show (v8 (n+1) l).length+1=_;rw [uJ];rfl
theorem Jh:∀ (n:Nat) (l:List D) (i:Nat) (d:D),(v8 n l)[i]?=some d->∃ d0,l[i]?=some d0/\d=.tup [.int ((n+i:Nat):Int),d0]
 | _,[],i,d,h=>by simp [v8] at h
 | n,x::l,0,d,h=>by have h:some (D.tup [.int n,x])=some d:=h;cases h;exact ⟨x,rfl,rfl⟩
 | n,x::l,i+1,d,h=>by
  have h:(v8 (n+1) l)[i]?=some d:=by simpa [v8] using h
  obtain ⟨d0,e1,e2⟩:=Jh (n+1) l i d h;refine ⟨d0,by simpa using e1,?_⟩;rw [e2,show n+1+i=n+(i+1) by lia]
def TXi (Γ:Gm) (cf:Cf) (e:E):TI:=fun σ H Q=>∃ ρ S W g Hz,wpI cf ρ e W S/\WOk Γ H g S/\EnvO Γ Hz H g ρ σ/\∀ l J H' g' S',Step H g H' g'->WOk Γ H' g' S'->ItOk Γ J l g'->W l S'->Q J H'
def TXf (Γ:Gm) (cf:Cf) (es:List E):TT:=fun σ H Q=>∃ ρ S W g Hz,wpF cf ρ es W S/\WOk Γ H g S/\EnvO Γ Hz H g ρ σ/\∀ b H' g' S',Step H g H' g'->WOk Γ H' g' S'->W b S'->Q b H'
theorem goI {Γ:Gm}{cf:Cf}{σ:L2.St}{H:Hp}{P:Prop}{e:E}{Q} (h:TXi Γ cf e σ H Q) (f:∀ ρ S W g Hz,wpI cf ρ e W S->WOk Γ H g S->EnvO Γ Hz H g ρ σ->(∀ l J H' g' S',Step H g H' g'->WOk Γ H' g' S'->ItOk Γ J l g'->W l S'->Q J H')->P):P:=
 let ⟨ρ,S,V,g,Hz,a,b,c,d⟩:=h;f ρ S V g Hz a b c d
theorem goF {Γ:Gm}{cf:Cf}{σ:L2.St}{H:Hp}{P:Prop}{es:List E}{Q} (h:TXf Γ cf es σ H Q) (f:∀ ρ S W g Hz,wpF cf ρ es W S->WOk Γ H g S->EnvO Γ Hz H g ρ σ->(∀ b H' g' S',Step H g H' g'->WOk Γ H' g' S'->W b S'->Q b H')->P):P:=
 let ⟨ρ,S,V,g,Hz,a,b,c,d⟩:=h;f ρ S V g Hz a b c d
section
variable {X:Cx}{Γ:Gm}{S:Store}{x y z tgt:Expr}{pos p tp:Pos}{cf:Cf}{a b:E}{elts:List Expr}{kk:Nat}
theorem PI.imp {wi wi':TI}(h:PI X tgt x wi) (i:∀ σ H Q,wi' σ H Q->wi σ H Q):PI X tgt x wi':=fun pj s σ H Q I q=>h pj s σ H Q I (i σ H Q q)
theorem zcv {a:Addr}{vs:List V}{l:List D}{g:G}(h:∀ g',Le g g'->∀ H,Same g'.R H->SqL X.K H a vs) (hh:Hass Γ g l vs):ItOk Γ (Itl X.K a) l g where
 go:=fun i H g' le sr hi=>⟨vs,vs[i]'(by rw [hh.len];exact hi),h g' le H sr,by simp [hh.len,hi]⟩
 stop:=fun i H g' le sr hi=>⟨vs,h g' le H sr,by rw [hh.len];exact hi⟩
 yld:=fun i H g' S z H' d le w hd y=>by obtain ⟨e,y⟩:=y;subst e;obtain ⟨v,hv,hd'⟩:=hh.get hd;have e2:=y vs (h g' le _ w.rh);rw [hv] at e2;cases e2;exact ⟨g',Step.refl _ _,Same.refl _,w,hd'.mono le⟩
theorem zcu {a:Addr}{vs:List V}{l:List D}{g:G}(h:∀ g',Le g g'->∀ H,Same g'.R H->SqT X.K H a vs) (hh:Hass Γ g l vs):ItOk Γ (Itt X.K a) l g where
 go:=fun i H g' le sr hi=>⟨vs,vs[i]'(by rw [hh.len];exact hi),h g' le H sr,by simp [hh.len,hi]⟩
 stop:=fun i H g' le sr hi=>⟨vs,h g' le H sr,by rw [hh.len];exact hi⟩
 yld:=fun i H g' S z H' d le w hd y=>by obtain ⟨e,y⟩:=y;subst e;obtain ⟨v,hv,hd'⟩:=hh.get hd;have e2:=y vs (h g' le _ w.rh);rw [hv] at e2;cases e2;exact ⟨g',Step.refl _ _,Same.refl _,w,hd'.mono le⟩
theorem zg5 {z:Str}{g:G}:ItOk Γ (Its z) (z.cps.toList.map fun c=>D.str ⟨#[c]⟩) g where
 go:=fun i H g' le sr hi=>by
  show i < z.cps.size
  simpa using hi
 stop:=fun i H g' le sr hi=>by
  show z.cps.size<=i
  simpa using hi
 yld:=fun i H g' S v H' d le w hd y=>by obtain ⟨e,c,e1,e2⟩:=y;subst e e2;refine ⟨g',Step.refl _ _,Same.refl _,w,?_⟩;rw [Η,dg,e1] at hd;cases hd;rfl
theorem zg7 {lo:Int}{n:Nat}{g:G}:ItOk Γ (Itr lo n) ((Ϲ n).map fun (k:Nat)=>D.int (lo+(k:Int))) g where
 go:=fun i H g' le sr hi=>by
  show i < n
  simpa using hi
 stop:=fun i H g' le sr hi=>by
  show n<=i
  simpa using hi
 yld:=fun i H g' S z H' d le w hd y=>by
  obtain ⟨e,y⟩:=y;subst e y;refine ⟨g',Step.refl _ _,Same.refl _,w,?_⟩;rw [Η] at hd;cases q:(Ϲ n)[i]? with
  | none=>rw [q] at hd;cases hd
  | some j=>
   rw [q] at hd;cases hd;have:=(υ.mp q).2;simp at this;subst this;rfl
theorem V7 {l:List D}{vs:List V}{g g':G}{H:Hp}{i:Nat}{d:D}{a:Addr}{y:V}(hh:Hass Γ g l vs) (le:Le g g') (w:WOk Γ H g' S) (hd:(v8 0 l)[i]?=some d) (ha:H a=none) (hy:vs[i]?=some y):
  ∃ g2,Step H g' (upd H a (.tup [.int i,y])) g2/\Same H (upd H a (.tup [.int i,y]))/\WOk Γ (upd H a (.tup [.int i,y])) g2 S/\Has Γ g2 d (.ref a):=by obtain ⟨d0,e1,e2⟩:=Jh 0 l i d hd;obtain ⟨v,hv,hd'⟩:=hh.get e1;rw [hy] at hv;cases hv;have hr:=w.notR ha;refine ⟨g'.put a (.tup [.int i,y]),(Step.of_same (vA ha) (Le.refl g') (fun _ h=>.inl h) fun _ h=>.inl h).put hr ha,vA ha,(w.laid ha).put zm hr (w.notA ha),?_⟩;rw [e2,show 0+i=i by lia];exact ⟨a,[.int i,y],rfl,zm,.int i,[y],rfl,rfl,y,[],rfl,(hd'.mono le).mono (Le.put hr),rfl⟩
theorem zg9 {a:Addr}{vs:List V}{l:List D}{g:G}(h:∀ g',Le g g'->∀ H,Same g'.R H->SqL X.K H a vs) (hh:Hass Γ g l vs):ItOk Γ (Ite X.K a) (v8 0 l) g where
 go:=fun i H g' le sr hi=>by rw [uJ] at hi;exact ⟨vs,vs[i]'(by rw [hh.len];exact hi),h g' le H sr,by simp [hh.len,hi]⟩
 stop:=fun i H g' le sr hi=>by rw [uJ] at hi;exact ⟨vs,h g' le H sr,by rw [hh.len];exact hi⟩
 yld:=fun i H g' S z H' d le w hd yy=>by obtain ⟨p,y,hp,rfl,rfl,hy⟩:=yy;exact V7 hh le w hd hp (hy vs (h g' le _ w.rh))
theorem zg8 {a:Addr}{vs:List V}{l:List D}{g:G}(h:∀ g',Le g g'->∀ H,Same g'.R H->SqT X.K H a vs) (hh:Hass Γ g l vs):ItOk Γ (Itet X.K a) (v8 0 l) g where
 go:=fun i H g' le sr hi=>by rw [uJ] at hi;exact ⟨vs,vs[i]'(by rw [hh.len];exact hi),h g' le H sr,by simp [hh.len,hi]⟩
 stop:=fun i H g' le sr hi=>by rw [uJ] at hi;exact ⟨vs,h g' le H sr,by rw [hh.len];exact hi⟩
 yld:=fun i H g' S z H' d le w hd yy=>by obtain ⟨p,y,hp,rfl,rfl,hy⟩:=yy;exact V7 hh le w hd hp (hy vs (h g' le _ w.rh))
theorem zim (hK:X.K=Γ.K) (h:PE X x (TX Γ cf a)):PI X tgt x (TXi Γ cf (.seq a)):=
 PI.imp (zgd h) fun σ H Q h0=>goI h0 fun ρ S W g Hz hw w env k=>⟨ρ,S,_,g,Hz,hw,w,env,fun x v H1 g1 S1 st w1 vx h=>by
  obtain ⟨g2,st2,w2,hx,q⟩:=vx.keep st w1 h;obtain ⟨l,el,q⟩:=yc q;generalize x.1=d at *;cases d with
  | lst l'=>
   cases el;obtain ⟨a,vs,e1,h1,h2⟩:=hx;exact .inl ⟨a,e1,.inl ⟨⟨vs,SqL.of (w2.rh _ _ h1)⟩,k _ _ H1 g2 S1 st2 w2 (zcv (fun g3 le H2 sr=>SqL.of (sr _ _ (le.rr _ _ h1))) h2) q⟩⟩
  | tup l'=>
   cases el;obtain ⟨a,vs,e1,h1,h2⟩:=hx;exact .inl ⟨a,e1,.inr ⟨⟨vs,SqT.of (w2.rh _ _ h1)⟩,k _ _ H1 g2 S1 st2 w2 (zcu (fun g3 le H2 sr=>SqT.of (sr _ _ (le.rr _ _ h1))) h2) q⟩⟩
  | scr ns=>
   cases el;obtain ⟨a,e1,h1⟩:=hx;exact .inl ⟨a,e1,.inl ⟨⟨_,by rw [hK];exact w2.rh.seq h1⟩,k _ _ H1 g2 S1 st2 w2 (zcv (fun g3 le H2 sr=>by rw [hK];exact sr.seq (le.rr.seq h1)) Hass.ints) q⟩⟩
  | str z=>
   cases el;exact .inr ⟨z,hx,k _ _ H1 g2 S1 st2 w2 zg5 q⟩
  | ktp l'=>
   cases el;obtain ⟨a,vs,e1,h1,h2⟩:=hx;exact .inl ⟨a,e1,.inr ⟨⟨vs,by rw [hK];exact .inr h1⟩,k _ _ H1 g2 S1 st2 w2 (zcu (fun g3 le H2 sr=>by rw [hK];exact .inr h1) h2) q⟩⟩
  | _=>cases el⟩
theorem zfQ (hK:X.K=Γ.K) (hg:Gl X "enumerate") (hm:X.mg "enumerate"=none) (hs:notStar x=true) (h:PE X x (TX Γ cf a)):PI X (.Tuple elts kk tp) (.Call (.Name "enumerate" p) [x] [] pos) (TXi Γ cf (.enum a)):=
 PI.imp (zbk hg hm rfl (wU h qg (zj hs _ _)) (zj hs _ _)) fun σ H Q h0=>goI h0 fun ρ S W g Hz hw w env k=>⟨ρ,S,_,g,Hz,hw,w,env,fun x v H1 g1 S1 st w1 vx h=>by
  obtain ⟨g2,st2,w2,hx,q⟩:=vx.keep st w1 h;obtain ⟨l,el,q⟩:=yc q;generalize x.1=d at *;cases d with
  | lst l'=>
   cases el;obtain ⟨a,vs,e1,h1,h2⟩:=hx;exact ⟨a,by rw [e1],.inl ⟨⟨vs,SqL.of (w2.rh _ _ h1)⟩,k _ _ H1 g2 S1 st2 w2 (zg9 (fun g3 le H2 sr=>SqL.of (sr _ _ (le.rr _ _ h1))) h2) q⟩⟩
  | tup l'=>
   cases el;obtain ⟨a,vs,e1,h1,h2⟩:=hx;exact ⟨a,by rw [e1],.inr ⟨⟨vs,SqT.of (w2.rh _ _ h1)⟩,k _ _ H1 g2 S1 st2 w2 (zg8 (fun g3 le H2 sr=>SqT.of (sr _ _ (le.rr _ _ h1))) h2) q⟩⟩
  | _=>cases el⟩
theorem zfG (hg:Gl X "range") (hm:X.mg "range"=none) (hs:notStar x=true) (h:PE X x (TX Γ cf a)):PI X tgt (.Call (.Name "range" p) [x] [] pos) (TXi Γ cf (.rng none a)):=
 PI.imp (Qo hg hm (wU h qg (zj hs _ _)) (zj hs _ _)) fun σ H Q h0=>goI h0 fun ρ S W g Hz hw w env k=>⟨ρ,S,_,g,Hz,hw,w,env,fun x v H1 g1 S1 st w1 vx h=>by
  obtain ⟨j,e,q⟩:=vx.int h;obtain ⟨hf,q⟩:=uq q;rw [ε] at hf;have h1:j.toNat<=1000000:=of_decide_eq_true hf.1;have h2:-1000000<=j:=of_decide_eq_true hf.2;refine ⟨j,by rw [e],by lia,by lia,k _ _ H1 g1 S1 st w1 ?_ q⟩;have:=zg7 (Γ:=Γ) (lo:=0) (n:=(j - 0).toNat) (g:=g1);rw [show (j - 0).toNat=j.toNat by lia] at this;rw [show zx 0 j=(Ϲ j.toNat).map fun (k:Nat)=>D.int (0+(k:Int)) by unfold zx;rw [show (j - 0).toNat=j.toNat by lia]]
  exact this⟩
theorem s_fn:PTs X [] (TXf Γ cf []):=fun pj s σ H Q I h0=>goF h0 fun ρ S W g Hz hw w env k=>zdq pj s σ H Q I (k true H g S (Step.refl H g) w hw)
theorem s_f1 (h:PT X x (TB Γ cf a)):PTs X [x] (TXf Γ cf [a]):=fun pj s σ H Q I h0=>goF h0 fun ρ S W g Hz hw w env k=>zdp h pj s σ H Q I ⟨ρ,S,_,g,Hz,hw,w,env,fun x H1 g1 S1 st w1 h=>by
 obtain ⟨b,e,q⟩:=uH h;rw [e]
 exact k b H1 g1 S1 st w1 q⟩
end
theorem Jf {α β:Type}{f:α->β}:∀ (l:List (Nat×α)) (r:List β) (i:Nat),(∀ p∈l,p.1≠i)->(l.foldl (fun r p=>r.set p.1 (f p.2)) r)[i]?=r[i]?
 | [],_,_,_=>rfl
 | p::l,r,i,h=>by rw [iU,Jf l _ i fun q hq=>h q (ι _ hq),Ι (h p θ)]
theorem Je {α β:Type}{f:α->β}:∀ (l:List (Nat×α)) (r:List β),(l.foldl (fun r p=>r.set p.1 (f p.2)) r).length=r.length
 | [],_=>rfl
 | p::l,r=>by rw [iU,Je l,ϭ]
theorem Kg {ρ ρ':List Slot}{t:T}{d:D}(hn:Yn t=false) (h:xn ρ t (d,false)=some ρ'):ρ'.length=ρ.length/\∀ i,i ∉ tIs t->ρ'[i]?=ρ[i]?:=by
 cases t with
 | one j=>
  simp only [xn] at h;split at h
  ·cases h;exact ⟨by simp,fun i hi=>by rw [Ι];rintro rfl;exact hi (by simp [tIs])⟩
  ·cases h
 | tup is=>
  cases d with
  | tup ds=>
   simp only [xn] at h;split at h
   ·cases h;refine ⟨Je _ _,fun i hi=>Jf _ _ i fun p hp=>?_⟩;rintro rfl;obtain ⟨p1,p2⟩:=p;exact hi (bO hp).1
   ·cases h
  | _=>simp [xn] at h
 | nst _ _=>cases hn
theorem qC {ρ:List Slot}{t:T}{js:List Nat}{i:Nat}{s:Slot}(h:(inn ρ t js)[i]?=some s):s=.no\/(nT t<=i/\∃ j,js[i - nT t]?=some j/\ρ[j]?=some s):=by
 unfold inn at h;by_cases hi:i < nT t
 ·rw [ϑ (by simpa using hi),cQ,if_pos hi] at h;cases h;exact .inl rfl
 ·rw [ϔ (by simpa using iK hi),aJ,Η] at h;cases e:js[i - nT t]? with
  | none=>rw [e] at h;cases h
  | some j=>
   rw [e] at h;cases q:ρ[j]? with
   | none=>simp [q] at h;exact .inl h.symm
   | some z=>simp [q] at h;subst h;exact .inr ⟨by lia,j,rfl,q⟩
theorem jG {σ:L2.St}{js:List Nat}{n i j:Nat}{v:V}(hi:n<=i) (hj:js[i - n]?=some j) (h:σ[j]?=some (some v)):(η n none++rows σ js)[i]?=some (some v):=by rw [ϔ (by simpa using hi),aJ];unfold rows;rw [Η,hj];simp [bh,h]
section
variable {Γ:Gm}{Hz H:Hp}{g:G}{ρ:List Slot}{σ τ:L2.St}{t:T}{js:List Nat}
theorem zel (env:EnvO Γ Hz H g ρ σ) (hj:js.Nodup):EnvO Γ Hz H g (inn ρ t js) (η (nT t) none++rows σ js):=by
 refine ⟨by simp [inn,rows],fun i d e=>?_,fun i d e=>?_,fun i j d e a h1 h2 h3 h4=>?_⟩
 ·rcases qC e with q | ⟨hi,j,e1,e2⟩
  ·cases q
  ·obtain ⟨v,h1,h2⟩:=env.sh j d e2;exact ⟨v,jG hi e1 h1,h2⟩
 ·rcases qC e with q | ⟨hi,j,e1,e2⟩
  ·cases q
  ·obtain ⟨a,h1,h2⟩:=env.ow j d e2;exact ⟨a,jG hi e1 h1,h2⟩
 ·rcases qC h1 with q | ⟨hi,k,e1,e2⟩
  ·cases q
  rcases qC h2 with q | ⟨hi',k',e1',e2'⟩
  ·cases q
  obtain ⟨b,q1,_⟩:=env.ow k d e2;obtain ⟨b',q1',_⟩:=env.ow k' e e2';have z:=jG hi e1 q1;have z':=jG hi' e1' q1';rw [h3] at z;rw [h4] at z';cases z;cases z';have hk:=env.inj k k' d e a e2 e2' q1 q1';subst hk;have:=(nD (υ.mp e1).1 hj).mp (e1.trans e1'.symm);lia
theorem Jg {ρ':List Slot}{d:D}(hn:Yn t=false) (hix:∀ i∈tIs t,i < nT t) (hs:xn (inn ρ t js) t (d,false)=some ρ') (env:EnvO Γ Hz H g ρ' τ):EnvO Γ Hz H g (inn ρ t js) τ:=by
 obtain ⟨h1,h2⟩:=Kg hn hs;have key:∀ i s,(inn ρ t js)[i]?=some s->s≠Slot.no->ρ'[i]?=some s:=fun i s e ne=>by
  rw [h2 i fun m=>?_]
  ·exact e
  ·rcases qC e with q | ⟨hi,_⟩
   ·exact ne q
   ·have:=hix i m;lia
 exact ⟨h1.symm.trans env.len,fun i d e=>env.sh i d (key i _ e (by simp)),fun i d e=>env.ow i d (key i _ e (by simp)),fun i j d e a q1 q2 q3 q4=>env.inj i j d e a (key i _ q1 (by simp)) (key j _ q2 (by simp)) q3 q4⟩
end
section
variable {X:Cx}{Γ:Gm}{cf:Cf}{t:T}{js:List Nat}{it elt:E}{ifs:List E}
def zeG (cf:Cf) (ρ:List Slot) (t:T) (js:List Nat) (ifs:List E) (elt:E):D->(Option D->Store->Prop)->Store->Prop:=fun d K S=>opt (xn (inn ρ t js) t (d,false)) fun ρ'=>wpF cf ρ' ifs (fun b S1=>tst b (wpE cf ρ' elt (fun x S2=>keep x fun d=>K (some d) S2) S1) (K none S1)) S
theorem zbU {n:Nat}{Qe:Addr->Hp->Prop}{σ:L2.St}{H:Hp}{V:Po}{ρ:List Slot}{S:Store}{g:G}{Hz:Hp}(hn:Yn t=false) (hix:∀ i∈tIs t,i < nT t) (ht:nT t=n) (hjs:js.Nodup) (hw:wpE cf ρ (.comp t js it ifs elt) V S) (w:WOk Γ H g S) (env:EnvO Γ Hz H g ρ σ)
  (k:∀ ds Da H' g' S',Step H g H' g'->WOk Γ H' g' S'->VN Γ H (.lst ds,.fr) (.ref Da) H' g'->V (.lst ds,.fr) S'->Qe Da H'):Zg n js (TXi Γ cf it) (tgOf X.K t) (TXf Γ cf ifs) (TX Γ cf elt) Qe σ H:=by
 subst ht;refine ⟨ρ,S,_,g,Hz,hw,w,env,fun l J H1 g1 S1 st1 w1 hJ h1 Da hDa=>?_⟩;have h1:wJ (zeG cf ρ t js ifs elt) l [] (fun ds S2=>V (.lst ds,.fr) S2) S1:=h1;refine ⟨fun i m ys τ H2=>m=l.length - i/\i<=l.length/\∃ g2 S2 acc,Step H1 g1 H2 g2/\WOk Γ H2 g2 S2/\EnvO Γ (upd Hz Da (.lst [])) H2 g2 (inn ρ t js) τ/\H2 Da=some (.lst ys)/\g2.R Da=none/\Da ∉ g2.α/\Hass Γ g2 acc ys/\fits acc.length=true/\wJ (zeG cf ρ t js ifs elt) (l.drop i) acc (fun ds S2=>V (.lst ds,.fr) S2) S2,⟨_,rfl,cT _,g1,S1,[],?_⟩,?_⟩
 ·have st:=(Step.refl H1 g1).z6 (o:=.lst []) hDa;have e1:=zr (zel (t:=t) env hjs) st1;refine ⟨st,w1.laid hDa,zr ⟨e1.len,e1.sh,fun i d e=>?_,e1.inj⟩ st,zm,w1.notR hDa,w1.notA hDa,rfl,rfl,h1⟩;obtain ⟨b,f1,f2,f3,f4,f5,f6⟩:=e1.ow i d e;obtain ⟨o,ho,_⟩:=f5.J6;exact ⟨b,f1,by rw [zc (zq ho hDa)];exact f2,f3,f4,f5,f6⟩
 ·rintro i m ys τ H2 ⟨rfl,hi,g2,S2,acc,st2,w2,env2,hD2,hR2,hA2,hh2,hf2,hr2⟩;by_cases hlt:i < l.length
  ·refine .inr ⟨hJ.go i H2 g2 st2.le w2.rh hlt,fun z H3 hy=>?_⟩;obtain ⟨g3,st3,_,w3,hz⟩:=hJ.yld i H2 g2 S2 z H3 l[i] st2.le w2 (ψ hlt) hy;rw [lJ hlt] at hr2;obtain ⟨hD3,hR3,hA3⟩:=st3.kept hD2 hR2 hA2;obtain ⟨ρ',es,hr3⟩:=yc (show opt (xn (inn ρ t js) t (l[i],false)) _ from hr2);refine Z2 es (zr env2 st3) w3.rh (fr:=false) hz (fun h=>by cases h) fun τ3 env3=>⟨ρ',S2,_,g3,_,hr3,w3,env3,fun b H4 g4 S4 st4 w4 h4=>?_⟩
   obtain ⟨hD4,hR4,hA4⟩:=st4.kept hD3 hR3 hA3;cases b with
   | false=>
    rw [if_neg Κ];exact ⟨l.length - (i+1),by omega,rfl,hlt,g4,S4,acc,(st2.trans st3).trans st4,w4,Jg hn hix es (zr env3 st4),hD4,hR4,hA4,hh2.mono (st3.le.trans st4.le),hf2,h4⟩
   | true=>
    rw [if_pos rfl];refine ⟨ρ',S4,_,g4,_,h4,w4,zr env3 st4,fun x v H5 g5 S5 st5 w5 vx h5=>?_⟩;obtain ⟨g6,st6,w6,hx,q⟩:=vx.keep st5 w5 h5;obtain ⟨hf,q⟩:=uq q;obtain ⟨hD5,hR5,hA5⟩:=st6.kept hD4 hR4 hA4;have st7:=(((st2.trans st3).trans st4).trans st6).z6 (o:=.lst (ys++[v])) hDa;have env6:=Jg hn hix es (zr (zr env3 st4) st6);refine ⟨hD5,by rw [hh2.len];exact zcq hf2,l.length - (i+1),by omega,rfl,hlt,g6,S5,acc++[x.1],st7,w6.z6 hR5 hA5,?_,zm,hR5,hA5,(hh2.mono ((st3.le.trans st4.le).trans st6.le)).app (Hass.mk1 hx),by rw [Υ];exact hf,q⟩;refine ⟨env6.len,env6.sh,fun i d e=>?_,env6.inj⟩;obtain ⟨b,f1,f2,f3,f4,f5,f6⟩:=env6.ow i d e;have hb:b≠Da:=by rintro rfl;rw [zm] at f2;cases f2
    exact ⟨b,f1,f2,f3,f4,f5.mono (Le.refl g6) fun o z=>by rw [zc hb];exact z,f6⟩
  ·have e:i=l.length:=by omega
   subst e;refine .inl ⟨hJ.stop _ H2 g2 st2.le w2.rh (Ζ _),?_⟩;rw [List.drop_length] at hr2;exact k acc Da H2 g2 S2 (st1.trans st2) w2 ⟨Da,rfl,st1.UG hDa,hR2,hA2,ys,hD2,hh2⟩ hr2
end
section
variable {X:Cx}{Γ:Gm}{x y:Expr}{pos p tp:Pos}{cf:Cf}{a b:E}{elts:List Expr}{kk:Nat}
end
end EV
namespace L2
open PySem PyProof PyProof.Rows PySem.W
variable {X:Cx}{x st:Expr}{te ts:TE}{p2 pos:Pos}
end L2
namespace EV
open PySem PySem.Spec PyProof.Rows L2
def spN (Γ:Gm) (cx:Xp->Cf) (f n:Nat):Sp:=fun vs H Q E=>vs.length=n/\∃ g ds S V ex,WOk Γ H g S/\Hass Γ g ds vs/\cx ex f ds V S/\(∀ x v H' g' S',Step H g H' g'->WOk Γ H' g' S'->VN Γ H x v H' g'->V x S'->Q v H')/\∀ c e C H' g' S',Step H g H' g'->WOk Γ H' g' S'->Γ.ca c=some C->ex c S'->E e (some C) H'
theorem zgk {X:Cx}:zaW (CX1 X.prog X.w) X E0:=fun _ _ _ _ _ _ _ ⟨_,_,_,_,_,_,_,_,_,_,_,_,h⟩=>h.elim
def CfN (B:Tb) (cf:Cf):Prop:=∀ f ds V S ps,B.pars[f]?=some ps->cf f ds V S->ds.length=ps.length
theorem Xz:∀ (kvs acc:List (Key×V)),(acc++kvs).map (·.1) |>.Nodup->jk acc kvs=acc++kvs
 | [],acc,_=>by simp [jk]
 | p::r,acc,h=>by
  have hn:¬ (acc.any fun kv=>decide (kv.1=p.1))=true:=by intro q;rw [cC] at q;obtain ⟨kv,hm,he⟩:=q;have he:=of_decide_eq_true he;rw [aC,bZ] at h;exact h.2.2 kv.1 (mY hm) p.1 (by simp) he
  have e:putK acc p.1 p.2=acc++[p]:=by unfold putK;rw [if_neg hn]
  show jk (putK acc p.1 p.2) r=_
  rw [e,Xz r (acc++[p]) (by simpa using h)];simp
section
variable {X:Cx}{Γ:Gm}{B:Tb}{cx:Xp->Cf}{k:Nat}{c:Cc}{x y z:Expr}{pos p:Pos}{a:E}{es:List E}
theorem xY {xs:List Expr}{env:Env}{pos:Pos}(h:∀ x∈xs,notStar x=true):(dB pos (ϧ xs env)).any (·.1)=false:=by
 induction xs with
 | nil=>rfl
 | cons a l ih=>
  rw [zj (h a θ)];show (false||(dB pos (ϧ l env)).any (·.1))=false
  rw [ih fun z hz=>h z (ι _ hz)];rfl
set_option tactic.hygienic true in
theorem zeI (b:BI):bW (biS b)=some (biV b):=by
 cases b with
 | isinst q=>cases q <;> decide +kernel
 | _=>decide +kernel
theorem s_call {f:Nat}{n:Str}{xs:List Expr}(hcf:CfN B (cx noX)) (ok:XOk Γ B (spN Γ cx) k X c) (hf:B.fns[f]?=some n) (hdt:dotted n=false) (hg:Gl X n) (hdb:(n==("__debug__":Str))=false) (hs:∀ z∈x::xs,notStar z=true) (h:PA X (x::xs) (TXs Γ (cx noX) es)):PE X (.Call (.Name n p) (x::xs) [] pos) (TX Γ (cx noX) (.call f es)):=by
 obtain ⟨a,fd,ps,h1,h2,h3,h4,h5,h6,_⟩:=(ok.fns f n hf).ex;refine (zdC h6 ok.rm hg (h2 hdt) h3 h4 .nil zgk h hdb (zj (hs x θ) _ _) (xY fun z hz=>hs z (ι _ hz))).imp fun σ H Q h0=>goX h0 fun ρ S V g Hz hw w env kk=>⟨ρ,S,_,g,Hz,hw,w,env,fun ds vs H1 g1 S1 st w1 hv hc=>?_⟩
 show spN Γ cx f ps.length (vs++[]) _ _ _
 rw [Ε];exact ⟨by rw [hv.len];exact hcf f ds V S1 ps h5 hc,g1,ds,S1,V,noX,w1,hv,hc,fun x v H2 g2 S2 st2 w2 vx q=>kk x v H2 g2 S2 (st.trans st2) w2 (vx.back st) q,fun _ _ _ _ _ _ _ _ _ z=>z.elim⟩
theorem zfN:PK X [] (TXs Γ (cx noX) []):=fun pos pj s σ H Q I h0=>goS h0 fun ρ S W g Hz hw w env kk=>zgc pos pj s σ H Q I (kk [] [] H g S (Step.refl H g) w rfl hw)
theorem zdb {n:Str}{kp:Pos}{kws:List cW}(h1:PE X x (TX Γ (cx noX) a)) (h2:PK X kws (TXs Γ (cx noX) es)):PK X (⟨some n,x,kp⟩::kws) (TXs Γ (cx noX) (a::es)):=fun pos pj s σ H Q I h=>zdy h1 h2 pos pj s σ H Q I (args_cons h)
theorem zjT {b:BI}{xs:List Expr}{t:TA}{e:E}(ok:XOk Γ B (spN Γ cx) k X c) (hg:Gl X (biS b)) (hm:X.mg (biS b)=none) (hs:∀ z∈x::xs,notStar z=true) (h:PA X (x::xs) t) (i:∀ σ H Q,TX Γ (cx noX) e σ H Q->t σ H fun vs H1=>zhJ X (biV b) vs H1 Q):PE X (.Call (.Name (biS b) p) (x::xs) [] pos) (TX Γ (cx noX) e):=by
 have hn:biS b≠("__name__":Str):=by
  cases b with
  | isinst q=>cases q <;> decide
  | _=>decide
 have hdb:(biS b==("__debug__":Str))=false:=by
  cases b with
  | isinst q=>cases q <;> decide
  | _=>decide
 have he:=zj (hs x θ) xs X.env;have hpl:=xY (pos:=pos) (env:=X.env) fun z hz=>hs z (ι _ hz)
 have bb:=zeI b;cases hb:biV b with
 | builtin id=>rw [hb] at bb i;exact (Uy zaF hg hm bb h hn hdb he hpl).imp i
 | type T=>rw [hb] at bb i;exact (Qu zaF hg hm bb h hn hdb he hpl).imp i
 | _=>cases b <;> cases hb
theorem s_is {t:Ty}{pz:Pos}(ok:XOk Γ B (spN Γ cx) k X c) (hg:Gl X "isinstance") (hm:X.mg "isinstance"=none) (hgt:Gl X (tyN t)) (hmt:X.mg (tyN t)=none) (hs:notStar x=true) (h:PE X x (TX Γ (cx noX) a)):PE X (.Call (.Name "isinstance" p) [x,.Name (tyN t) pz] [] pos) (TX Γ (cx noX) (.bi (.isinst t) [a])):=by
 have hvt:bW (tyN t)=some (.type (tyS t)):=by cases t <;> decide +kernel
 have hn:tyN t≠("__name__":Str):=by cases t <;> decide
 have hdb:(tyN t==("__debug__":Str))=false:=by cases t <;> decide
 refine (Uy (id:="isinstance") zaF hg hm (by decide +kernel) (wU h (wU (zdE (v:=.ty (tyS t)) hgt hmt hvt rfl hn hdb) qg rfl) (zj hs _ _)) (by decide) (by decide) (zj hs _ _) rfl).imp fun σ H Q h0=>goX h0 fun ρ S V g Hz hw w env kk=>⟨ρ,S,_,g,Hz,hw,w,env,fun x v H1 g1 S1 st w1 vx h1=>?_⟩
 obtain ⟨⟨d,fr⟩,eb,q⟩:=yc h1;have eb:(isTy t (zL S1 x.1)).map (fun b=>(D.bl b,false))=some (d,fr):=eb;cases e2:isTy t (zL S1 x.1) with
 | none=>rw [e2] at eb;cases eb
 | some b=>
  rw [e2] at eb;cases eb;obtain ⟨r,r1,r2⟩:=zhe (X:=X) (Γ:=Γ) ok.hK e2;exact ⟨r,r1,r2 S1 H1 g1 v Q w1 (vx.rdb w1) (kk (.bl b,.st) _ H1 g1 S1 st w1 rfl q)⟩
def PPd (X:Cx) (pos:Pos) (keys:List (Option Expr)) (vals:List Expr) (ks:List Key) (t:TA):Prop:=∃ trs,PPs X pos keys vals trs/\∀ σ H (Q:List (V×V)->Hp->Prop),t σ H (fun vs H'=>Q ((ks.zip vs).map fun kv=>(kV kv.1,kv.2)) H')->Uj trs σ H Q
theorem zfJ:PPd X pos [] [] [] (TXs Γ (cx noX) []):=⟨[],zdv,fun σ H Q h0=>goS h0 fun ρ S W g Hz hw w env kk=>kk [] [] H g S (Step.refl H g) w rfl hw⟩
theorem zc9 {q:Const}{n:Nat}{p:Pos}{kx:Key}{keys:List (Option Expr)}{vals:List Expr}{ks:List Key}(hk:PE X (.Constant q n p) (tC (kV kx))) (h1:PE X x (TX Γ (cx noX) a)) (h2:PPd X pos keys vals ks (TXs Γ (cx noX) es)):PPd X pos (some (.Constant q n p)::keys) (x::vals) (kx::ks) (TXs Γ (cx noX) (a::es)):=by obtain ⟨trs,hp,ht⟩:=h2;refine ⟨_,zbi hk h1 hp,fun σ H Q h=>?_⟩;obtain ⟨ρ,S,V,g,Hz,hw,w,env,kk⟩:=args_cons h;exact ⟨ρ,S,V,g,Hz,hw,w,env,fun x v H1 g1 S1 st w1 vx q=>ht σ H1 _ (kk x v H1 g1 S1 st w1 vx q)⟩
theorem zfR {keys:List (Option Expr)}{vals:List Expr}{ks:List Key}(h:PPd X pos keys vals ks (TXs Γ (cx noX) es)) (hall:keys.all (·.isSome)=true) (hl:keys.length=vals.length) (h0:keys≠[]) (h15:keys.length<=15):PE X (.Dict keys vals pos) (TX Γ (cx noX) (.dic false ks es)):=by
 obtain ⟨trs,hp,ht⟩:=h;refine (zdA hp hall hl h0 h15).imp fun σ H Q h0=>goX h0 fun ρ S V g Hz hw w env kk p hp=>ht σ _ _ ?_
 have st0:=(Step.refl H g).z6 (o:=.dK []) hp;refine ⟨ρ,S,_,g,Hz,hw,w.laid hp,zr env st0,fun ds vs H2 g2 S2 st2 w2 h2 q=>?_⟩;obtain ⟨hd,q⟩:=uq q;unfold J9 at hd;simp only [ε,decide_eq_true_eq] at hd;obtain ⟨⟨⟨hk,hn⟩,hz⟩,_⟩:=hd;obtain ⟨k1,k2,k3⟩:=st2.kept zm (w.notR hp) (w.notA hp);have el:ks.length=vs.length:=by rw [h2.len];exact hk
 refine ⟨k1,ks.zip vs,rfl,by rw [fJ];lia,?_⟩
 rw [Xz _ [] (by
  rw [Τ,iD (by lia)]
  exact hn)]
 exact kk (.dK ks ds,.fr) (.ref p) _ g2 S2 ((st0.trans st2).z6 hp) (w2.z6 k2 k3) ⟨p,rfl,hp,k2,k3,vs,zm,hk,h2⟩ q
theorem zdd:PE X (.Dict [] [] pos) (TX Γ (cx noX) (.dic false [] [])):=zbq.imp fun σ H Q h0=>goX h0 fun ρ S V g Hz hw w env kk p hp=>
 kk (.dK [] [],.fr) (.ref p) _ g S ((Step.refl H g).z6 hp) (w.laid hp) ⟨p,rfl,hp,w.notR hp,w.notA hp,[],zm,rfl,rfl⟩ hw
theorem zdc {ks:List Key}:PE X (.Dict [] [] pos) (TX Γ (cx noX) (.dic true [] [])):=zbp.imp fun σ H Q h0=>goX h0 fun ρ S V g Hz hw w env kk p hp=>
 kk (.dT [] [],.fr) (.ref p) _ g S ((Step.refl H g).z6 hp) (w.laid hp) ⟨p,rfl,hp,w.notR hp,w.notA hp,[],zm,rfl,rfl⟩ hw
end
open PySem.AutoSeq1 (wpAny_loadPart')
open PySem.MeetsSeq PySem.MeetsSeq2 PySem.MeetsSeq3 PySem.SeqAt PySem.SeqRoads2
section
variable {X:Cx}{Γ:Gm}{S:Store}{x y:Expr}{pos:Pos}
def ziP:V->List V->Hp->VK->Prop:=fun x xs H Q=>∃ a y z v,x=.ref a/\xs=[y,z]/\DGet H a y v/\Q (v.getD z) H
def ziO (K:W.Frag):V->List V->Hp->VK->Prop:=fun x xs H Q=>∃ a k z ps,x=.ref a/\xs=[.str k,z]/\KDic K a ps/\(∀ i,fZ k ps=some i->Q (.int i) H)/\(fZ k ps=none->Q z H)
theorem datum_int {k:Str}:∀ ps:List (Str×Int),fZ k (ps.map fun p=>(p.1,KTD.Dat.flat (.int p.2)))=(fZ k ps).map fun i=>KTD.Dat.flat (.int i)
 | []=>rfl
 | p::ps=>by
  have ih:=datum_int (k:=k) ps;simp only [ϐ,fZ];split
  ·rfl
  ·exact ih
theorem zdY:MtR X "dict.get" (ziO X.K):=by
 rintro pj s σ H x xs v us Q I rx rv ⟨a,k,z,ps,rfl,rfl,⟨_,kd⟩,q1,q2⟩;cases rx;obtain ⟨u,u2,rfl,⟨t,rfl⟩,ru2⟩:=rv.two;have T:KTD.Here s.heap s.heap a _:=⟨kd s.heap I.kIn,fun _ _ e=>e⟩
 refine nu bN T.typeIs eO (dW _ _ _) KTD.meets_get2 ⟨T,fun d v e hv=>?_,fun e=>?_⟩
 ·rw [datum_int] at e;obtain ⟨i,e1,rfl⟩:=Α.mp e;obtain ⟨t,rfl⟩:=(show ∃ t,v=ϒ i t from PyProof.V.Flat.int_inv hv)
  exact ⟨.int i,H,I.tok _,⟨t,rfl⟩,q1 i e1⟩
 ·rw [datum_int,Option.map_eq_none_iff] at e;exact ⟨z,H,I.tok _,ru2,q2 e⟩
theorem zdZ (hu:X.A.units+1 < ϵ):MtR X "dict.get" ziP:=by rintro pj s σ H x xs v us Q I rx rv ⟨a,y,z,o,rfl,rfl,g,q⟩;cases rx;obtain ⟨u,u2,rfl,ru,ru2⟩:=rv.two;exact zhD hu I g ru ru2 fun w s' I' r'=>⟨_,H,I',r',q⟩
theorem zdX:MtR X "str.index" (fun x xs H Q=>∃ z y i rest,x=.str z/\xs=[.str y]/\aK z y 0 z.length 1=i::rest/\Q (.int (i:Nat)) H):=by rintro pj s σ H x xs v us Q I rx rv ⟨z,y,i,rest,rfl,rfl,ho,q⟩;obtain ⟨t,rfl⟩:=rx;obtain ⟨u,rfl,ru⟩:=rv.one;obtain ⟨t',rfl⟩:=ru;exact call_gives lH (mL _ _ _) PySem.F.entry_str_index (PySem.F.args_str_index_2 _ _) (PySem.gives_str_index z y t t' i rest ho) ⟨.int i,H,I.tok _,⟨_,rfl⟩,q⟩
theorem zeh {c k:D}{o:Option D}(h:wX c k=some o) (S:Store):zL S k=k:=by cases k <;> first | rfl | (cases c <;> cases h)
def RDm (Γ:Gm) (r:V->List V->Hp->VK->Prop) (d0:D) (ds:List D) (d:D) (fr:Bool):Prop:=
 ∀ S H g x xs Q,WOk Γ H g S->Rdb Γ H g d0 x->Hass Γ g ds xs->Fin Γ H g S d fr Q->r x xs H Q
noncomputable def mtT:MT->String
 | .index=>"list"
 | .get1=>"dict"
 | .get2=>"dict"
 | _=>"str"
noncomputable def mtI:MT->String
 | .index=>"list.index"
 | .sidx=>"str.index"
 | .get1=>"dict.get"
 | .get2=>"dict.get"
 | .join=>"str.join"
 | .split=>"str.split"
theorem Q4 {d1:D}(hK:X.K=Γ.K) (h:mthK .get1 d1=true\/mthK .get2 d1=true) {H:Hp}{g:G}{v:V}(hr:Rdb Γ H g d1 v):tyV X.K "dict" v H:=by
 cases d1 with
 | dK ks ds=>
  obtain ⟨a,vs,rfl,h1,_⟩:=hr;exact .inr (.inr (.inl ⟨rfl,.inl ⟨_,h1⟩⟩))
 | dT ks ds=>
  obtain ⟨a,vs,rfl,h1,_⟩:=hr;exact .inr (.inr (.inl ⟨rfl,.inr ⟨_,h1⟩⟩))
 | kdc ps=>
  obtain ⟨a,rfl,⟨o,h1⟩,_⟩:=hr;exact .inr (.inl ⟨o,by rw [hK];exact h1⟩)
 | _=>rcases h with h | h <;> cases h
theorem zgE {m:MT}{d0:D}{ds:List D}{d:D}{fr:Bool}(hK:X.K=Γ.K) (hu:X.A.units+61 < ϵ) (h:mthD m d0 ds=some (d,fr)):∃ r,MtR X (mtI m) r/\RDm Γ r d0 ds d fr:=by
 have hu1:X.A.units+1 < ϵ:=by lia
 cases m with
 | index=>cases h
 | get1=>cases h
 | get2=>
  match ds,h with
  | [],h=>cases d0 <;> cases h
  | [_],h=>cases d0 <;> cases h
  | _::_::_::_,h=>cases d0 <;> cases h
  | [kk,xx],h=>
   have hh:(∃ ps,d0=.kdc ps/\zgV ps kk xx=some (d,fr))\/(wX d0 kk).map (fun o=>(o.getD xx,false))=some (d,fr):=by
    cases d0 with
    | kdc ps=>exact .inl ⟨ps,rfl,h⟩
    | _=>exact .inr h
   rcases hh with ⟨ps,rfl,h⟩ | h
   ·cases kk with
    | str x=>
     cases h;refine ⟨_,zdY,fun S H g y ys Q w h1 h2 q=>?_⟩;obtain ⟨u,u2,rfl,h3,h5⟩:=h2.two;cases (show u=.str x from h3);obtain ⟨a,rfl,h6⟩:=h1;refine ⟨a,x,u2,ps,rfl,rfl,by rw [hK];exact h6,fun i e=>?_,fun e=>?_⟩
     ·rw [e] at q;exact zg w q rfl
     ·rw [e] at q;exact zg w q h5
    | _=>cases h
   cases e:wX d0 kk with
   | none=>rw [e] at h;cases h
   | some o=>
    rw [e] at h;cases h;refine ⟨_,zdZ hu1,fun S H g y ys Q w h1 h2 q=>?_⟩;obtain ⟨u,u2,rfl,h3,h5⟩:=h2.two;have h4:=Qk w h3;rw [zeh e S] at h4;obtain ⟨a,v,rfl,g1,g2,g3,g4⟩:=Wd w e h1 h4;refine ⟨a,u,u2,v,rfl,rfl,g1,?_⟩;cases o with
    | none=>rw [g4 rfl];exact zg w q h5
    | some d=>
     obtain ⟨z,rfl,hz⟩:=g3 d rfl;exact zg w q hz
 | join=>cases h
 | split=>cases h
 | sidx=>
  cases d0 with
  | str z=>
   match ds,h with
   | [],h=>cases h
   | _::_::_,h=>cases h
   | [x],h=>
    cases x with
    | str y=>
     obtain ⟨i,e1,e2⟩:=Α.mp (show (aK z y 0 z.length 1).head?.map (fun (i:Nat)=>(D.int (i:Int),false))=some (d,fr) from h);cases e2;obtain ⟨rest,e1⟩:=List.head?_eq_some_iff.mp e1;refine ⟨_,zdX,fun S H g v us Q w h1 h2 q=>?_⟩;obtain ⟨u,rfl,h3⟩:=h2.one;cases (show u=.str y from h3);exact ⟨z,y,i,rest,h1,rfl,e1,zg w q rfl⟩
    | _=>cases h
  | _=>match ds,h with
   | [],h=>cases h
   | [_],h=>cases h
   | _::_::_,h=>cases h
theorem zeN {env:Env}{name:Str}{s0:Sem δ}(h:Xm x=true):attributeBase x name env s0=s0:=by
 cases x with
 | Call f args kws p=>
  cases args with
  | nil=>cases h
  | cons a l=>cases f <;> rfl
 | _=>rfl
theorem zek {xs:List Expr}{env:Env}{cpos:Pos}(hs:∀ z∈xs,notStar z=true) (hl:xs.length<=9):((dB cpos (ϧ xs env)).all (fun x=>!x.1)&&(backToKw cpos (gB [] env)).all (fun x=>x.1.isSome)
  &&decide (xs.length+([]:List cW).length+(if ([]:List cW).isEmpty then 0 else 1) < 30))=true:=by
 have h1:(dB cpos (ϧ xs env)).all (fun x=>!x.1)=true:=by have:=xY (pos:=cpos) (env:=env) hs;rw [List.all_eq_not_any_not];simpa using this
 rw [h1,decide_eq_true (show xs.length+([]:List cW).length+(if ([]:List cW).isEmpty then 0 else 1) < 30 from (by simp;lia))];rfl
theorem zdW (m:MT):PlainAttrs (mtT m)/\PySem.Slot (mtT m) (mtS m) (mtI m)/\typeOf (.builtin (mtI m))=pure (.type "method_descriptor"):=by
 cases m with
 | index=>exact ⟨dR,PySem.F.slot_list_index,PySem.F.type_list_index⟩
 | get1=>exact ⟨lw,bN,lQ⟩
 | get2=>exact ⟨lw,bN,lQ⟩
 | sidx=>exact ⟨eG,lH,PySem.F.type_str_index⟩
 | join=>exact ⟨eG,PySem.F.slot_str_join,PySem.F.type_str_join⟩
 | split=>exact ⟨eG,PySem.F.slot_str_split,PySem.F.type_str_split⟩
theorem zjd {m:MT}{d1:D}(hK:X.K=Γ.K) (h:mthK m d1=true) {H:Hp}{g:G}{v:V}(hr:Rdb Γ H g d1 v):tyV X.K (mtT m) v H:=by
 cases m with
 | index=>cases d1 <;> cases h
 | get1=>exact Q4 hK (.inl h) hr
 | get2=>exact Q4 hK (.inr h) hr
 | join=>
  cases d1 with
  | str x=>cases (show v=.str x from hr);exact rfl
  | _=>cases h
 | split=>
  cases d1 with
  | str x=>cases (show v=.str x from hr);exact rfl
  | _=>cases h
 | sidx=>
  cases d1 with
  | str x=>cases (show v=.str x from hr);exact rfl
  | _=>cases h
def zje (X:Cx) (id:String):V->List V->Hp->VK->Prop:=fun x xs H Q=>∃ r,MtR X id r/\r x xs H Q
theorem zgG {id:String}:MtR X id (zje X id):=fun pj s σ H x xs v us Q I rx rv ⟨_,h,q⟩=>h pj s σ H x xs v us Q I rx rv q
theorem zit {B:Tb}{cx:Xp->Cf}{k:Nat}{c:Cc}{a:E}{es:List E}{m:MT}{ys:List Expr}{apos cpos:Pos}(ok:XOk Γ B (spN Γ cx) k X c) (ha:PE X x (TX Γ (cx noX) a)) (hs:∀ z∈y::ys,notStar z=true) (hb:PA X (y::ys) (TXs Γ (cx noX) es)) (hl:(apos.endLine==cpos.line)=true) (hp:Xm x=true) (h9:(y::ys).length<=9):
  PE X (.Call (.Attribute x (mtS m) apos) (y::ys) [] cpos) (TX Γ (cx noX) (.mth m a es)):=by
 obtain ⟨m1,m2,m3⟩:=zdW m;refine (zdD m1 m2 m3 zgG ha hb (zeN hp) (zek hs h9) hl (zj (hs y θ) ys X.env) (xY fun z hz=>hs z (ι _ hz))).imp fun σ H Q h0=>goX h0 fun ρ S V g Hz hw w env kk=>⟨ρ,S,_,g,Hz,hw,w,env,fun x v H1 g1 S1 st w1 vx h1=>?_⟩
 obtain ⟨hk,h1⟩:=uq h1;refine ⟨zjd ok.hK hk (vx.rdb w1),ρ,S1,_,g1,Hz,h1,w1,zr env st,fun ds vs H2 g2 S2 st2 w2 hv h2=>?_⟩;obtain ⟨⟨d,fr⟩,eb,q⟩:=yc h2;obtain ⟨r,r1,r2⟩:=zgE (X:=X) ok.hK ok.u61 eb;exact ⟨r,r1,r2 S2 H2 g2 v vs Q w2 ((vx.step st2).rdb w2) hv fun u H3 g3 st3 _ w3 vo=>kk _ u H3 g3 S2 ((st.trans st2).trans st3) w3 ((VN.of vo).back (st.trans st2)) q⟩
end
open PySem PySem.Spec PySem.W PyProof.Rows L2
def knB:Option HO->Prop
 | some (.frz o (.ext φ))=>HO.frz o (.ext φ)=kn o
 | _=>False
set_option tactic.hygienic true in
theorem zgU {x:Option HO}(h:knB x):∃ o,x=some (kn o):=by
 unfold knB at h;split at h
 ·rename_i o φ
  exact ⟨o,by rw [h]⟩
 ·exact h.elim
theorem zgT {o:Obj}:knB (some (kn o)):=rfl
open Classical in
noncomputable def G.known (g:G) (H':Hp):G:={ g with R:=fun b=>if knB (H' b) then H' b else g.R b }
section
variable {Γ:Gm}{H H':Hp}{g:G}{S:Store}
theorem jO {b:Addr}{o:Obj}(h:H' b=some (kn o)):(g.known H').R b=some (kn o):=by exact (if_pos (by rw [h];exact zgT)).trans h
theorem jN (b:Addr):(∃ o,H' b=some (kn o)/\(g.known H').R b=some (kn o))\/(g.known H').R b=g.R b:=by
 by_cases h:knB (H' b)
 ·obtain ⟨o,e⟩:=zgU h;exact .inl ⟨o,e,jO e⟩
 ·exact .inr (if_neg h)
theorem zbK (hs:∀ b u,g.R b=some u->H' b=some u):Le g (g.known H'):=⟨fun b u e=>by
 rcases jN (g:=g) (H':=H') b with ⟨o,e1,e2⟩ | e1
 ·rw [e2,<- e1];exact hs b u e
 ·rw [e1];exact e,fun _ _ h=>h⟩
theorem ZF {q:Str}{v:δ}(h:yI H' q v):yI (g.known H').R q v:=by obtain ⟨c,o,h1,h2,h3⟩:=h;exact ⟨c,o,h1,jO h2,h3⟩
theorem zbJ {p:Nat}{P:Addr}{q:Str}(w:WOk Γ H g S) (hp:S[p]?=some (.tab p)) (hP:g.α[p]?=some P) (ht:Γ.ta p=some (P,q)) (old:∀ b u,H b=some u->b≠P->H' b=some u) (tb:TabOk H' P q):Step H g H' (g.known H')/\WOk Γ H' (g.known H') S:=by
 have rP:g.R P=none:=w.off p _ P hp hP rfl;have hs:∀ b u,g.R b=some u->H' b=some u:=fun b u e=>old b u (w.rh b u e) fun z=>by rw [z,rP] at e;cases e
 have le:=zbK hs;have mP:P∈g.α:=Ξ hP;obtain ⟨ps,t1,t2⟩:=tb;refine ⟨⟨le,fun a o e n=>old a o e fun z=>n (z ▸ mP),fun a o e=>?_,fun a h=>.inl h,fun a h=>?_⟩,⟨fun b u e=>?_,w.len,w.nd,fun k c a h1 h2 h3=>?_,fun k c a h1 h2=>?_⟩⟩
 ·by_cases z:a=P
  ·exact ⟨_,by rw [z];exact t1⟩
  ·exact ⟨o,old a o e z⟩
 ·rcases jN (g:=g) (H':=H') a with ⟨o,e1,_⟩ | e1
  ·cases e:H a with
   | none=>exact .inr (.inl rfl)
   | some u=>
    by_cases z:a=P
    ·exact .inr (.inr (.inl (z ▸ mP)))
    ·have:=old a u e z;rw [e1] at this;cases this;exact .inr (.inr (.inr ⟨_,rfl,rfl⟩))
  ·rw [e1] at h;exact .inl h
 ·rcases jN (g:=g) (H':=H') b with ⟨o,e1,e2⟩ | e1
  ·rw [e2] at e;rw [e1];exact e
  ·rw [e1] at e;exact hs b u e
 ·have r0:=w.off k c a h1 h2 h3;rcases jN (g:=g) (H':=H') a with ⟨o,e1,_⟩ | e1
  ·exfalso;obtain ⟨u,hu,hf⟩:=(w.cell k c a h1 h2).U8 r0;by_cases z:a=P
   ·rw [z,t1] at e1;cases e1
   ·rw [old a u hu z] at e1;cases e1;cases hf
  ·rw [e1];exact r0
 ·by_cases z:a=P
  ·subst z;have:k=p:=nodup_inj w.nd h2 hP;subst this;rw [hp] at h1;cases h1;exact ⟨q,ps,ht,t1,t2.mono fun _=>ZF⟩
  ·exact (w.cell k c a h1 h2).mono le fun o e=>old a o e z
where
 nodup_inj:∀ {l:List Addr}{i j:Nat}{a:Addr},l.Nodup->l[i]?=some a->l[j]?=some a->i=j:=fun {l i j a} nd h1 h2=>by obtain ⟨x1,e1⟩:=υ.mp h1;obtain ⟨x2,e2⟩:=υ.mp h2;exact (List.getElem_inj nd).mp (e1.trans e2.symm)
end
set_option tactic.hygienic true in
theorem K6 {Γ:Gm}{Hz H:Hp}{g:G}{ρ:List Slot}{σ:L2.St}(env:EnvO Γ Hz H g ρ σ):∀ {js:List Nat}{ds:List D},shs ρ js=some ds->∃ ws:List V,Hass Γ g ds ws/\ws.length=js.length/\∀ (k j:Nat) (w:V),js[k]?=some j->ws[k]?=some w->σ[j]?=some (some w)
 | [],ds,h=>by cases h;exact ⟨[],rfl,rfl,fun k j w e=>by simp at e⟩
 | j::js,ds,h=>by
  unfold shs at h;split at h
  ·rename_i d e
   obtain ⟨ds',e1,rfl⟩:=Α.mp h;obtain ⟨v,hv,hh⟩:=env.sh j d e;obtain ⟨ws,h1,h2,h3⟩:=K6 env e1;refine ⟨v::ws,⟨v,ws,rfl,hh,h1⟩,by simp [h2],fun k j' w q1 q2=>?_⟩;cases k with
   | zero=>simp at q1 q2;subst q1 q2;exact hv
   | succ k=>exact h3 k j' w (by simpa using q1) (by simpa using q2)
  ·cases h
set_option tactic.hygienic true in
theorem u9 {cells:List (Str×Addr)}{y:Str}:∀ (names:List (Str×Ϟ)) (acc:List (Str×Addr)) {c:Addr},(wB cells names acc).lookup y=some c->(y,Ϭ)∈names\/∃ c,acc.lookup y=some c
 | [],acc,c,h=>.inr ⟨c,h⟩
 | (n,kd)::r,acc,c,h=>by
  unfold wB at h;split at h
  ·rename_i hk
   rcases u9 r _ h with z | ⟨c',z⟩
   ·exact .inl (ι _ z)
   ·rw [ϛ] at z;cases hy:y==n with
    | true=>left;rw [eq_of_beq hy,eq_of_beq hk];exact θ
    | false=>rw [hy] at z;exact .inr ⟨c',z⟩
  ·rcases u9 r _ h with z | z
   ·exact .inl (ι _ z)
   ·exact .inr z
section
variable {X:Cx}{Γ:Gm}{cf:Cf}
theorem ziv {f p:Nat}{js:List Nat}{fs:List Str}{params:aO}{body:Expr}{sc:aH}{pos:Pos}(L:LamE Γ X p) (hd:mO params X.env=([],[])) (hl:fs.length=js.length)
  (hN:∀ (k j:Nat) (x:Str),js[k]?=some j->fs[k]?=some x->X.N[j]?=some x/\X.fn x=false/\X.env.scope.names.lookup x=some .cell)
  (hf:∀ y,(y,Ϭ)∈sc.names ↔ y∈fs) (hh:∀ x,X.env.scope.names.lookup x=some .cell->∃ c,X.env.cells.lookup x=some c) (hla:Γ.la f (X.env.qual++"<lambda>") params body sc fs):PE X (.Lambda params body sc pos) (TX Γ cf (.lam f p js)):=by
 intro pj s σ H Q I h0;refine goX h0 fun ρ S V g Hz hw w env kk=>?_
 obtain ⟨hS,hw⟩:=U7 hw;obtain ⟨ds,hds,hv⟩:=yc hw;obtain ⟨ws,hws,hwl,hwσ⟩:=K6 env hds;obtain ⟨cc,P,hco,hta,hg,hK⟩:=L.ex;have cellOf:∀ x∈fs,X.env.scope.names.lookup x=some .cell:=fun x hx=>by
  obtain ⟨k,hk⟩:=ϳ.mp hx;have hkl:k < js.length:=by rw [<- hl];exact (υ.mp hk).1
  exact (hN k _ x (ψ hkl) hk).2.2
 have hcell:∀ y∈sc.names,y.2=.free->∃ a,X.env.cells.lookup y.1=some a:=fun ⟨y,kd⟩ hy e=>by have e:kd=.free:=e;subst e;exact hh y (cellOf y ((hf y).mp hy))
 obtain ⟨H1,I1,s1,n1,k1⟩:=Inv.knows L.new ((js.zip (fs.zip ws)).map fun t=>(t.1,t.2.1,t.2.2)) I fun t ht=>by obtain ⟨⟨j,x,v⟩,hm,rfl⟩:=Ψ.mp ht;obtain ⟨k,hk⟩:=ϳ.mp hm;rw [cF] at hk;obtain ⟨q1,q2⟩:=hk;rw [cF] at q2;obtain ⟨z1,z2,z3⟩:=hN k j x q1 q2.1;exact ⟨z1,hwσ k j v q1 q2.2,z2,z3⟩
 have hpl:p < g.α.length:=by rw [w.len];exact (υ.mp hS).1
 have hα:g.α[p]?=some g.α[p]:=ψ hpl;obtain ⟨q,ps,c0,c1,c2⟩:=w.cell p _ _ hS hα;rw [hta] at c0;obtain ⟨eP,rfl⟩:g.α[p]=P/\q=X.env.qual++"<lambda>":=by cases c0;exact ⟨rfl,rfl⟩
 rw [eP] at hα c1;have rP:g.R P=none:=w.off p _ P hS hα rfl;have hT:TabOk H1 P (X.env.qual++"<lambda>"):=⟨ps,s1 _ _ c1,c2.mono fun v ⟨c,o,e1,e2,e3⟩=>⟨c,o,e1,s1 _ _ (w.rh _ _ e2),e3⟩⟩
 have kin:=I1.kIn;refine Inv.lam I1 hd (zaD hcell) hco (hK _ kin).1 hT hg (hK _ kin).2 fun a H' s' J made=>?_
 have old:∀ b u,H b=some u->b≠P->H' b=some u:=fun b u e n=>made.old b u (s1 b u e) n
 obtain ⟨st,w'⟩:=zbJ w hS hα hta old made.tab;obtain ⟨pm,cv,ct,f1,f2⟩:=made.fn;have cap:∀ (k:Nat) (x:Str) (v:L2.V),fs[k]?=some x->ws[k]?=some v->Cap (g.known H').R (wB X.env.cells sc.names []) x v:=fun k x v e1 e2=>by
  have hkl:k < js.length:=by rw [<- hl];exact (υ.mp e1).1
  obtain ⟨c,o,u,d1,d2,d3,d4⟩:=k1 (js[k],x,v) (Ψ.mpr ⟨(js[k],x,v),ϳ.mpr ⟨k,by rw [cF];exact ⟨ψ hkl,by rw [cF];exact ⟨e1,e2⟩⟩⟩,rfl⟩);obtain ⟨i1,i2⟩:=yx (y:=x) sc.names [] hcell (fun _ z=>by cases z);obtain ⟨c',hc'⟩:=i2 (.inl ((hf x).mpr (Ξ e1)));have:=i1 c' hc';rw [d1] at this;cases this;have nP:c≠P:=fun z=>by rw [z,s1 _ _ c1] at d2;cases d2
  exact ⟨c,o,u,hc',jO (made.old _ _ d2 nP),d3,d4⟩
 refine ⟨.ref a,H',J,rfl,kk (.lam f ds,.st) (.ref a) H' (g.known H') S st w' ?_ hv⟩;refine ⟨a,_,params,body,sc,_,pm,cv,ct,fs,ws,rfl,jO f1,ZF f2,⟨hl.trans hwl.symm,cap,fun x c e=>?_,fun x y c e1 e2=>?_⟩,hla,hws.mono st.le⟩
 ·rcases u9 sc.names [] e with z | ⟨_,z⟩
  ·exact (hf x).mp z
  ·cases z
 ·obtain ⟨i1,_⟩:=yx (y:=x) sc.names [] hcell (fun _ z=>by cases z);obtain ⟨j1,_⟩:=yx (y:=y) sc.names [] hcell (fun _ z=>by cases z);exact I.ok.inj _ _ _ (i1 c e1) (j1 c e2)
end
section
variable {X:Cx}{Γ:Gm}{B:Tb}{k:Nat}{cx:Xp->Cf}{c:Cc}{x:Expr}{p pos:Pos}{es:List E}
theorem ziC {i:Nat}{n:Str}{xs:List Expr}(lm:LamI Γ (spN Γ cx) k X.prog X.w X.K X.mg X.base) (ok:XOk Γ B (spN Γ cx) k X c) (hN:X.N[i]?=some n) (hv:Vis X.env.scope n) (hd:(n==("__debug__":Str))=false) (hcd:(n==("__classdict__":Str))=false) (hs:∀ z∈x::xs,notStar z=true) (h:PA X (x::xs) (TXs Γ (cx noX) es)):PE X (.Call (.Name n p) (x::xs) [] pos) (TX Γ (cx noX) (.cvl i es)):=by
 intro pj s σ H Q I h0;refine goX h0 fun ρ S V g Hz hw w env kk=>?_
 refine bV (thn ((za9 (cf:=cx noX) (Γ:=Γ) hN hv hd hcd:PE X (.Name n p) (TX Γ (cx noX) (.var i))) pj s σ H (fun v H1=>∃ y g1 S1,Step H g H1 g1/\WOk Γ H1 g1 S1/\VN Γ H y v H1 g1/\isLm y.1 fun f cs=>wpEs (cx noX) ρ es (fun ds S2=>cx noX f (ds++cs) V S2) S1) I ⟨ρ,S,(fun y S1=>isLm y.1 fun f cs=>wpEs (cx noX) ρ es (fun ds S2=>cx noX f (ds++cs) V S2) S1),g,Hz,hw,w,env,fun y v H1 g1 S1 st w1 vy q=>⟨y,g1,S1,st,w1,vy,q⟩⟩) fun u s1 hu=>?_);obtain ⟨v,H1,I1,r,y,g1,S1,st,w1,vy,q⟩:=hu;obtain ⟨f,cs,ey,q⟩:=zag q;have hr:=vy.rdb w1;rw [ey] at hr;have hr:Has Γ g1 (.lam f cs) v:=hr;obtain ⟨a,qn,pr,b,sc,cl,pm,cv,ct,fs,ws,rfl,l1,l2,l3,l4,l5⟩:=hr;cases (show u=Β a from r);have ha1:=(I1.hok a _ (w1.rh _ _ l1)).1;refine callWith_K (K:=[(a,lamO qn pr b sc cl pm cv ct)]) (h₀:=s1.heap) (fun d o e=>?_) (by simp [keepIn]) (thn (h pos pj s1 σ H1 (fun vs H2=>∃ ds g2 S2,Step H1 g1 H2 g2/\WOk Γ H2 g2 S2/\Hass Γ g2 ds vs/\cx noX f (ds++cs) V S2) I1 ⟨ρ,S1,_,g1,Hz,q,w1,zr env st,fun ds vs H2 g2 S2 st2 w2 hv hc=>⟨ds,g2,S2,st2,w2,hv,hc⟩⟩) fun us s2 h2=>?_) (zj (hs x θ) _ _) (xY fun z hz=>hs z (ι _ hz))
 ·have e:(if d==a then some (lamO qn pr b sc cl pm cv ct) else none)=some o:=by
   rw [ϛ] at e;cases hb:d==a with
   | true=>rw [hb] at e;exact e
   | false=>rw [hb] at e;cases e
  cases hb:d==a with
  | true=>rw [hb] at e;rw [eq_of_beq hb];cases e;exact ha1
  | false=>rw [hb] at e;cases e
 ·obtain ⟨vs,H2,I2,r2,ds,g2,S2,st2,w2,hv2,hc⟩:=h2;have L1:=st2.le.rr _ _ l1;have ha2:=(I2.hok a _ (w2.rh _ _ L1)).1;refine ⟨fun d o e=>?_,?_⟩
  ·rw [ϛ] at e;cases hb:d==a with
   | true=>rw [hb] at e;rw [eq_of_beq hb];cases e;exact ha2
   | false=>rw [hb] at e;cases e
  ·have cm:=wZ (fun b u e=>w2.rh b u (st2.le.rr b u e)) l2;have cc:=Jm (fun b u e=>w2.rh b u (st2.le.rr b u e)) l3;have sp:spN Γ cx f (vs++ws).length (vs++ws) H2 Q E0:=⟨rfl,g2,ds++cs,S2,V,noX,w2,hv2.app (l5.mono st2.le),hc,fun x v H3 g3 S3 st3 w3 vx q=>kk x v H3 g3 S3 ((st.trans st2).trans st3) w3 (vx.back (st.trans st2)) q,fun _ _ _ _ _ _ _ _ _ z=>z.elim⟩
   refine wpAny_call (iY (lm f _ qn pr b sc fs a pm cv ct cl ws X.A X.stack s2 H2 us vs Q E0 l4 ok.rm I2.env0 (w2.rh _ _ L1) cm cc r2 sp) fun r s' hq=>?_);cases r with
   | error e=>exact zgk pj σ H2 s2 e s' I2 hq
   | ok fl=>
    cases fl with
    | ret u=>exact I2.after hq
    | next=>exact ϰ hq
    | brk=>exact ϰ hq
    | cont=>exact ϰ hq
end
set_option tactic.hygienic true in
theorem Qw {x:Str}{pr:aO}(h:parB x pr=true):∃ an q,pr=⟨[],[⟨x,an,q⟩],none,[],[],none,[]⟩:=by
 unfold parB at h;split at h
 ·rename_i a
  obtain ⟨y,an,q⟩:=a;exact ⟨an,q,by rw [eq_of_beq (show (y==x)=true from h)]⟩
 ·cases h
theorem zeJ {r:LamR}{b:Expr}(h:bodB r b=true):∃ p1 p2 p3 p4,b=.Call (.Name r.g p1) [.Name r.p p2,.Name r.f p3] [] p4:=by
 unfold bodB at h;split at h
 ·rw [ε,ε] at h;obtain ⟨⟨h1,h2⟩,h3⟩:=h;exact ⟨_,_,_,_,by rw [eq_of_beq h1,eq_of_beq h2,eq_of_beq h3]⟩
 ·cases h
theorem QH {r:LamR}{sc:aH}(h:lscB r sc=true):YF [r.p] [r.f] sc/\(∀ y,(y,Ϭ)∈sc.names ↔ y∈[r.f])/\gloK (sc.names.lookup r.g)=true/\yu r.p=true/\yu r.f=true/\yu r.g=true:=by
 unfold lscB at h;simp only [ε,b7,ak] at h;obtain ⟨⟨⟨⟨⟨⟨⟨⟨⟨⟨⟨h1,h2⟩,h3⟩,h4⟩,h5⟩,h6⟩,h7⟩,h8⟩,h9⟩,h10⟩,h11⟩,h12⟩:=h;have one:∀ y,(y,Ϭ)∈sc.names->y=r.f:=fun y hy=>by
  have:=h7 _ hy;rw [dz] at this;rcases this with z | z
  ·cases z
  ·exact eq_of_beq z
 have hf:sc.names.lookup r.f=some .free:=eq_of_beq h6;refine ⟨⟨eq_of_beq h1,h2,h3,fun y hy e=>?_,fun x hx=>?_,fun x hx=>?_,fun x hx=>?_,?_⟩,fun y=>⟨fun hy=>?_,fun hy=>?_⟩,h9,h10,h11,h12⟩
 ·have:=h4 y hy;rw [e] at this;cases this
 ·rw [ω.mp hx];exact eq_of_beq h5
 ·rw [ω.mp hx];exact hf
 ·rw [one x (Ϣ hx)];exact ω.mpr rfl
 ·have:r.p≠r.f:=fun e=>by rw [e,beq_self_eq_true] at h8;cases h8
  simpa using this
 ·rw [one y hy];exact ω.mpr rfl
 ·rw [ω.mp hy];exact Ϣ hf
theorem QV {x q:Str}{an:Option Expr}{pos:Pos}{body:Expr}{sc:aH}{cl:List (Str×Addr)}{pm cv ct u:δ}:gD (kla_fn "<lambda>" q ⟨[],[⟨x,an,pos⟩],none,[],[],none,[]⟩ body sc cl pm cv ct) ⟨[u],[]⟩=pure ([x].zip [u]):=by
 have e:(x==x)=true:=beq_self_eq_true x;have e2:([(x,u)]:List (Str×δ)).lookup x=some u:=by simp [List.lookup]
 unfold gD;simp [e2,seqItems?];rfl
theorem zbI {x:Str}{an:Option Expr}{pos:Pos}{env:Env}:mO ⟨[],[⟨x,an,pos⟩],none,[],[],none,[]⟩ env=([],[]):=by unfold mO;rfl
section
variable {X:Cx}{Γ:Gm}{B:Tb}{k:Nat}{cf:Cf}{sp:Nat->Nat->Sp}{c:Cc}
set_option tactic.hygienic true in
theorem zfM {f p:Nat}{js:List Nat}{pr:aO}{b:Expr}{sc:aH}{pos:Pos}(ok:XOk Γ B sp k X c) (h:chkL B c f p js pr b sc=true):PE X (.Lambda pr b sc pos) (TX Γ cf (.lam f p js)):=by
 unfold chkL at h;rw [ε,ε,ε] at h;obtain ⟨⟨⟨h1,h2⟩,h3⟩,h4⟩:=h;cases e:B.lams[f - B.fns.length]? with
 | none=>rw [e] at h4;cases h4
 | some r=>
  rw [e] at h4;dsimp only at h4;rw [ε,ε,ε] at h4;obtain ⟨⟨⟨h5,h6⟩,h7⟩,h8⟩:=h4;split at h8
  ·rename_i j
   have hla:=ok.la f r (X.env.qual++"<lambda>") pr b sc (of_decide_eq_true h3) e h5 (eq_of_beq h6);unfold lamB at h5;rw [ε,ε] at h5;obtain ⟨⟨b1,b2⟩,b3⟩:=h5;obtain ⟨an,pq,rfl⟩:=Qw b1;obtain ⟨LS,hf,_⟩:=QH b3;obtain ⟨L,hfn⟩:=ok.tb p (eq_of_beq h2) (by simpa using h1);refine ziv L zbI rfl (fun k j' x e1 e2=>?_) hf (fun x hx=>ok.cells x (.inl (by rw [<- ok.nm];exact hx))) hla;cases k with
   | zero=>
    cases e1;cases e2;exact ⟨by rw [ok.N];exact eq_of_beq h8,hfn _,by rw [ok.nm];exact eq_of_beq h7⟩
   | succ k=>simp at e1
  ·cases h8
end
section
variable {X:Cx}{Γ:Gm}{B:Tb}{cx:Xp->Cf}{k:Nat}{c:Cc}{x y z:Expr}{pos p apos cpos:Pos}{a:E}{es:List E}
end
section
variable {prog:Λ}{w:ϓ}{A:ϙ}{E:VSP}{s:ς}
end
section
variable {X:Cx}{Γ:Gm}{S:Store}{cf:Cf}{a:E}{elts:List Expr}{kk:Nat}{ap cp tp:Pos}
end
section
variable {X:Cx}{tg:Expr}
end
section
variable {X:Cx}{Γ:Gm}{S:Store}{cf:Cf}{a:E}{tgt x:Expr}
theorem zfO (_:PE X x (TX Γ cf a)):PI X tgt x (TXi Γ cf (.keys a)):=fun _ _ _ _ _ _ h0=>goI h0 fun _ _ _ _ _ hw _ _ _=>ϰ hw
end
end EV
namespace L2
open PySem PySem.Spec PyProof.Rows
variable {X:Cx}
end L2
namespace EV
open PySem PySem.Spec PyProof.Rows L2
variable {X:Cx}{Γ:Gm}{cf:Cf}{a b:E}{k v:Expr}{pos:Pos}
section
variable {X:Cx}{p p' pos pos':Pos}{ta:TA}
noncomputable def rgV (lo hi:Int):List V:=(Ϲ (hi - lo).toNat).map fun (k:Nat)=>.int (lo+(k:Int))
def LrgQ (lo hi:Int) (Q:VK) (H1:Hp):Prop:=-1000000<=lo/\lo<=1000000/\-1000000<=hi/\hi<=1000000/\∀ a,H1 a=none->Q (.ref a) (upd H1 a (.lst (rgV lo hi)))
theorem QL {pj:List (Addr×Obj)}{σ:L2.St}{H:Hp}{s:ς}{E:VSP}{lo hi:Int}{t u v:Tok}{tk:Nat}{Q:VK}(hc:X.calm=true) (I:L2.Inv X pj σ H s) (q:LrgQ lo hi Q H):
  Ρ (ώ X.prog X.w) X.A (call (.type "list") [.ref s.heap.objs.size]) (fun u s'=>∃ v H',L2.Inv X pj σ H' s'/\RelV v u/\Q v H') E { s with heap:=s.heap.push { cls:=.type "range",data:=.fields #[.int lo t,.int hi u,.int 1 v] },toks:=tk }:=by
 obtain ⟨q1,q2,q3,q4,q⟩:=q;have en:ig lo hi 1=(((hi - lo).toNat:Nat):Int):=by rw [rangeSize_one];split <;> omega
 refine call_list_range (I.ok.hd hc) (IsRange.new ..) (small_one (by omega) (by omega) (by omega) (by omega)) en (by omega) fun h' tk' acc c' old hS hacc=>?_
 have old':∀ b o,s.heap.get? b=some o->h'.get? b=some o:=fun b o e=>old b o (μ _ e)
 have hz:s.heap.objs.size<=(s.heap.push { cls:=.type "range",data:=.fields #[.int lo t,.int hi u,.int 1 v] }).objs.size:=by rw [size_push'];exact Nat.le_succ _
 have hl:(rgV lo hi).length=(hi - lo).toNat:=by simp [rgV]
 have rv:Vals (rgV lo hi) acc.toList:=vals_at (by rw [hl,aW,hacc.1]) fun i x y e1 e2=>by rw [dg] at e2;obtain ⟨t',rfl⟩:=hacc.2 i y e2;obtain ⟨k,e3,rfl⟩:=Α.mp (show Option.map _ _=some x by rw [<- Η];exact e1);obtain ⟨hk,e4⟩:=υ.mp e3;rw [m9] at e4;subst e4;exact ⟨t',by simp⟩
 exact ⟨.ref _,_,I.laid (t':=tk') (o:=.lst (rgV lo hi)) old' hz ⟨by rw [hl,bD];omega,acc.toList,c',rv,by simpa using hS⟩,rfl,q _ (I.hok.fresh hz)⟩
where
 vals_at:∀ {xs:List V}{us:List δ},xs.length=us.length->(∀ (i:Nat) x y,xs[i]?=some x->us[i]?=some y->RelV x y)->Vals xs us
  | [],[],_,_=>.nil
  | x::xs,u::us,hl,h=>.cons (h 0 x u rfl rfl) (vals_at (by simpa using hl) fun i a b e1 e2=>h (i+1) a b (by simpa using e1) (by simpa using e2))
theorem zbn {a:Expr}(hc:X.calm=true) (hg:Gl X "range") (hm:X.mg "range"=none) (hg':Gl X "list") (hm':X.mg "list"=none) (ha:PA X [a] ta) (hs:notStar a=true):
  PE X (.Call (.Name "list" p') [.Call (.Name "range" p) [a] [] pos] [] pos') (fun σ H Q=>ta σ H fun vs H1=>∃ j:Int,vs=[.int j]/\LrgQ 0 j Q H1):=by
 intro pj s σ H Q I h;refine bV (uE I hg' hm' (u:=.type "list") (by decide +kernel) ?_ (by decide) (by decide));refine ϫ ?_ (zj rfl _ _) rfl;rw [zj (x:=.Call (.Name "range" p) [a] [] pos) rfl];show Ρ _ _ (spliced ((false,eval (.Call (.Name "range" p) [a] [] pos) X.env)::dB pos' (ϧ [] X.env))) _ _ s
 refine gj (Call_ (uE I hg hm boot_range (ϫ (thn (ha pos pj s σ H _ I h) fun us s1 ⟨vs,H1,I1,r1,q1⟩=>?_) (zj hs _ _) rfl)));obtain ⟨j,e,q⟩:=q1;subst e;cases r1 with
 | cons r rr=>
  cases rr;obtain ⟨t,rfl⟩:=r;exact call_range_1 (gM (QL hc I1 q))
theorem zbm {a b:Expr}(hc:X.calm=true) (hg:Gl X "range") (hm:X.mg "range"=none) (hg':Gl X "list") (hm':X.mg "list"=none) (ha:PA X [a,b] ta) (hs:notStar a=true) (hs2:notStar b=true):
  PE X (.Call (.Name "list" p') [.Call (.Name "range" p) [a,b] [] pos] [] pos') (fun σ H Q=>ta σ H fun vs H1=>∃ i j:Int,vs=[.int i,.int j]/\LrgQ i j Q H1):=by
 intro pj s σ H Q I h;refine bV (uE I hg' hm' (u:=.type "list") (by decide +kernel) ?_ (by decide) (by decide));refine ϫ ?_ (zj rfl _ _) rfl;rw [zj (x:=.Call (.Name "range" p) [a,b] [] pos) rfl];show Ρ _ _ (spliced ((false,eval (.Call (.Name "range" p) [a,b] [] pos) X.env)::dB pos' (ϧ [] X.env))) _ _ s
 refine gj (Call_ (uE I hg hm boot_range (ϫ (thn (ha pos pj s σ H _ I h) fun us s1 ⟨vs,H1,I1,r1,q1⟩=>?_) (by rw [zj hs,zj hs2]) (by rw [zj hs2];rfl))));obtain ⟨i,j,e,q⟩:=q1;subst e;cases r1 with
 | cons r rr=>
  cases rr with
  | cons r' rr=>
   cases rr;obtain ⟨t,rfl⟩:=r;obtain ⟨t',rfl⟩:=r';exact call_range_2 (gM (QL hc I1 q))
end
noncomputable def qy:Expr->Bool
 | .BoolOp _ _ _=>true
 | _=>false
section
variable {Γ:Gm}{B:Tb}{cx:Xp->Cf}{k:Nat}
theorem zf7 {X:Cx}{x y z:Expr}{pos:Pos}{t a b:E}(hc:PT X x (TB Γ (cx noX) t)) (ha:PT X y (TB Γ (cx noX) a)) (hb:PT X z (TB Γ (cx noX) b)):PT X (.IfExp x y z pos) (TB Γ (cx noX) (.ite t a b)):=by
 intro pj s σ H Q I ⟨ρ,S,V,g,Hz,hw,w,env,kk⟩;have eq:gC (.IfExp x y z pos) X.env (eval (.IfExp x y z pos) X.env)=(gC x X.env (eval x X.env) >>= fun t=>if t=true then gC y X.env (eval y X.env) else gC z X.env (eval z X.env)):=rfl;rw [eq];refine ζ (thn (hc pj s σ H (fun r H'=>if r=true then TB Γ (cx noX) a σ H' Q else TB Γ (cx noX) b σ H' Q) I ⟨ρ,S,_,g,Hz,hw,w,env,fun x H1 g1 S1 st w1 h=>?_⟩) fun r s1 ⟨H1,I1,q⟩=>?_)
 ·obtain ⟨r,e,q⟩:=uH h;rw [e];show (if r=true then _ else _)
  cases r with
  | true=>exact iteT (za3 st w1 env kk q)
  | false=>exact iteF (za3 st w1 env kk q)
 ·cases r with
  | true=>rw [if_pos rfl] at q ⊢;exact ha pj s1 σ H1 Q I1 q
  | false=>rw [if_neg Κ] at q ⊢;exact hb pj s1 σ H1 Q I1 q
def SE (Γ:Gm) (B:Tb) (cx:Xp->Cf) (k:Nat) (e:E):Prop:=∀ (X:Cx) (c:Cc) (x:Expr),XOk Γ B (spN Γ cx) k X c->chkE B c e x=true->PE X x (TX Γ (cx noX) e)/\PT X x (TB Γ (cx noX) e)/\(qy x=true->PW X x (TB Γ (cx noX) e))
theorem only {X:Cx}{x:Expr}{e:E}(h:PE X x (TX Γ (cx noX) e)) (hn:qy x=false) (he:∀ whole,gC x X.env whole=(do let v <- whole;standAt x.pos;fX [v] (truthy v))):PE X x (TX Γ (cx noX) e)/\PT X x (TB Γ (cx noX) e)/\(qy x=true->PW X x (TB Γ (cx noX) e)):=
 ⟨h,zfC h he,fun q=>by rw [hn] at q;cases q⟩
theorem none_of {X:Cx}{x:Expr}{e:E}(h:∀ ρ V S,¬ wpE (cx noX) ρ e V S):PE X x (TX Γ (cx noX) e)/\PT X x (TB Γ (cx noX) e)/\(qy x=true->PW X x (TB Γ (cx noX) e)):=
 ⟨fun _ _ _ _ _ _ ⟨_,_,_,_,_,q,_⟩=>(h _ _ _ q).elim,fun _ _ _ _ _ _ ⟨_,_,_,_,_,q,_⟩=>(h _ _ _ q).elim,fun _ _ _ _ _ _ _ _ ⟨_,_,_,_,_,q,_⟩=>(h _ _ _ q).elim⟩
theorem wu {c:Cc}:∀ {es:List E}{xs:List Expr},zX B c es xs=true->∀ z∈xs,notStar z=true
 | [],[],_=>fun z hz=>by cases hz
 | e::es,x::xs,h=>by
  have h:(chkE B c e x&&notStar x&&zX B c es xs)=true:=h;rw [ε,ε] at h;intro z hz;rcases χ.mp hz with rfl | hz
  ·exact h.1.2
  ·exact wu h.2 z hz
 | [],_::_,h=>nobE h
 | _::_,[],h=>nobE h
theorem QD {c:Cc}{lo hi st:Option Expr}{pos:Pos}:∀ (e:E),chkE B c e (.Slice lo hi st pos)=true->False
 | .box e,h=>nobE h
 | .var _,h=>nobE h
 | .con _,h=>nobE h
 | .glo _ _,h=>nobE h
 | .bin _ _ _,h=>nobE h
 | .neg _,h=>nobE h
 | .cmp _ _ _,h=>nobE h
 | .chn _ _ _ _ _,h=>nobE h
 | .not _,h=>nobE h
 | .and _ _,h=>nobE h
 | .or _ _,h=>nobE h
 | .ite _ _ _,h=>nobE h
 | .tup _,h=>nobE h
 | .lst _,h=>nobE h
 | .dic _ _ _,h=>nobE h
 | .sub _ _,h=>nobE h
 | .slc _ _ _,h=>nobE h
 | .bi _ _,h=>nobE h
 | .mth _ _ _,h=>nobE h
 | .call _ _,h=>nobE h
 | .callk _ _ _,h=>nobE h
 | .callv _ _,h=>nobE h
 | .lam _ _ _,h=>nobE h
 | .cvl _ _,h=>nobE h
 | .comp _ _ _ _ _,h=>nobE h
 | .one _,h=>nobE h
 | .flip _,h=>nobE h
 | .dk1 _ _,h=>nobE h
 | .seq _,h=>nobE h
 | .rng _ _,h=>nobE h
 | .enum _,h=>nobE h
 | .zip _ _,h=>nobE h
 | .rev _,h=>nobE h
 | .dwn _,h=>nobE h
 | .keys _,h=>nobE h
 | .items _,h=>nobE h
theorem JK {c:Cc}{e:E}{y:Expr}(h:chkE B c e y=true):V6 y:=by
 cases y with
 | Slice lo hi st pos=>exact (QD e h).elim
 | _=>exact fun _ _=>rfl
theorem X7 {iter:Expr}(h:vJ iter=true) (env:Env) (v:δ):bF iter env v=pure v:=by cases iter <;> first | rfl | cases h
set_option tactic.hygienic true in
theorem zhG {X:Cx}{d:D}{q:Const}{n:Nat}{pos:Pos}{c:Cc}(h:chkE B c (.con d) (.Constant q n pos)=true):∃ t,PE X (.Constant q n pos) (tC t)/\∀ g,Has Γ g d t:=by
 cases q with
 | none=>cases d <;> first | exact ⟨_,zgh,fun _=>rfl⟩ | exact nobE h
 | bool b=>cases d <;> first | (rename_i b';have e:=eq_of_beq (show (b'==b)=true from h);subst e;exact ⟨_,zi0,fun _=>rfl⟩) | exact nobE h
 | int b=>cases d <;> first | (rename_i b';have e:=eq_of_beq (show (b'==b)=true from h);subst e;exact ⟨_,zci,fun _=>rfl⟩) | exact nobE h
 | str b=>cases d <;> first | (rename_i b';have e:=eq_of_beq (show (b'==b)=true from h);subst e;exact ⟨_,zch,fun _=>rfl⟩) | exact nobE h
 | _=>cases d <;> exact nobE h
theorem ZJ {k0:Key}{ks:List Key}{keys:List (Option Expr)}(h:Wi (k0::ks) keys=true):∃ q n p r,keys=some (.Constant q n p)::r/\(∀ X:Cx,PE X (.Constant q n p) (tC (kV k0)))/\Wi ks r=true:=by
 cases keys with
 | nil=>exact nobE h
 | cons o r=>
  cases o with
  | none=>exact nobE h
  | some x=>
   have hb:Ν x.ctorIdx 19=true:=by revert h;cases x <;> first | exact non | exact fun _=>rfl
   revert h;apply Zt hb;clear hb;intro q n p h;have h:(keyC k0 q&&Wi ks r)=true:=h;rw [ε] at h;refine ⟨q,n,p,r,rfl,fun X=>?_,h.2⟩;have h1:=h.1;cases k0 with
   | inl i=>
    cases q with
    | int j=>rw [show i=j from eq_of_beq h1];exact zci
    | _=>exact nobE h1
   | inr i=>
    cases q with
    | str j=>rw [show i=j from eq_of_beq h1];exact zch
    | _=>exact nobE h1
theorem Wh:∀ {ks:List Key}{keys:List (Option Expr)},Wi ks keys=true->ks.length=keys.length/\keys.all (·.isSome)=true
 | [],[],_=>⟨rfl,rfl⟩
 | [],_::_,h=>nobE h
 | k0::ks,keys,h=>by obtain ⟨q,n,p,r,rfl,_,hr⟩:=ZJ h;obtain ⟨a,b⟩:=Wh hr;exact ⟨by simp [a],by simpa using b⟩
theorem Wg {c:Cc}:∀ {es:List E}{xs:List Expr},jB B c es xs=true->es.length=xs.length
 | [],[],_=>rfl
 | [],_::_,h=>nobE h
 | _::_,[],h=>nobE h
 | e::es,x::xs,h=>by have h:(chkE B c e x&&jB B c es xs)=true:=h;rw [ε] at h;simp [Wg h.2]
theorem wH {a:Bool}(h:(a&&false)=true):False:=by rw [aM] at h;cases h
theorem uK {c:Cc}:∀ {es:List E}{xs:List Expr},zX B c es xs=true->es.length=xs.length
 | [],[],_=>rfl
 | [],_::_,h=>nobE h
 | _::_,[],h=>nobE h
 | e::es,x::xs,h=>by have h:(chkE B c e x&&notStar x&&zX B c es xs)=true:=h;rw [ε] at h;simp [uK h.2]
theorem zgF {c:Cc}{m:MT}{o:E}{es:List E}{f:Expr}{args:List Expr}{kws:List cW}{pos:Pos}(h:chkE B c (.mth m o es) (.Call f args kws pos)=true):
    ∃ w ap y ys,f=.Attribute w (mtS m) ap/\args=y::ys/\kws=[]/\chkE B c o w=true/\zX B c es (y::ys)=true/\(ap.endLine==pos.line)=true/\Xm w=true/\(y::ys).length<=9:=by
  have h:(match V5 f with
    | some q=>q.2.1==mtS m&&chkE B c o q.1&&zX B c es args&&uG kws&&q.2.2.endLine==pos.line&&Xm q.1&&decide (1<=es.length)&&decide (es.length<=9)
    | none=>false)=true:=h
  cases e:V5 f with
  | none=>rw [e] at h;cases h
  | some q=>
    rw [e] at h;simp only [ε,decide_eq_true_eq] at h;obtain ⟨⟨⟨⟨⟨⟨⟨h1,h2⟩,h3⟩,h4⟩,h5⟩,h6⟩,h7⟩,h8⟩:=h;have hl:=uK h3;cases args with
    | nil=>simp at hl;simp [hl] at h7
    | cons y ys=>
      refine ⟨q.1,q.2.2,y,ys,?_,rfl,jT h4,h2,h3,h5,h6,by lia⟩;rw [Js e,eq_of_beq h1]
def TXr (Γ:Gm) (cf:Cf):List E->TA
 | [e]=>fun σ H Q=>TX Γ cf e σ H fun v H1=>Q [v] H1
 | es=>TXs Γ cf es
theorem yH {b:BI}{n:Str}{c:Cc}{X:Cx}{es:List E}{args:List Expr}{p pos:Pos}(ok:XOk Γ B (spN Γ cx) k X c) (hi:isI b=false) (h:(n==biS b&&B.bare.contains n&&gloK (c.names.lookup n)&&zX B c es args&&!es.isEmpty)=true)
  (ih:zX B c es args=true->PA X args (TXr Γ (cx noX) es)):PE X (.Call (.Name n p) args [] pos) (TX Γ (cx noX) (.bi b es))/\PT X (.Call (.Name n p) args [] pos) (TB Γ (cx noX) (.bi b es))/\(qy (.Call (.Name n p) args [] pos)=true->PW X (.Call (.Name n p) args [] pos) (TB Γ (cx noX) (.bi b es))):=by
 simp only [ε] at h;obtain ⟨⟨⟨⟨h1,h2⟩,h3⟩,h4⟩,h5⟩:=h;have e1:=eq_of_beq h1;subst e1;refine only ?_ rfl fun _=>rfl
 have ih:=ih h4;have hst:=wu h4;cases args with
 | nil=>
  cases es with
  | nil=>cases h5
  | cons _ _=>exact nobE h4
 | cons x xs=>
  refine zjT ok (ok.glob h3) (ok.bare _ (ϴ.mp h2)) hst ih fun σ H Q h0=>goX h0 fun ρ S V g Hz hw w env kk=>?_
  match es,hw with
  | [],_=>cases h5
  | [e],hw=>exact ⟨ρ,S,_,g,Hz,hw,w,env,fun x v H1 g1 S1 st w1 vx h1=>by
   obtain ⟨⟨d,fr⟩,eb,q⟩:=yc h1;obtain ⟨r,r1,r2⟩:=zcM (X:=X) (Γ:=Γ) ok.hK ok.room.gd ok.u61 ok.calm hi eb
   exact ⟨r,r1,r2 S1 H1 g1 [v] Q w1 ⟨v,[],rfl,vx.rdb w1,rfl⟩ fun u H2 g2 st2 _ w2 vo=>kk _ u H2 g2 S1 (st.trans st2) w2 ((VN.of vo).back st) q⟩⟩
  | e1::e2::es,hw=>exact ⟨ρ,S,_,g,Hz,hw,w,env,fun ds vs H1 g1 S1 st w1 hv h1=>by
   obtain ⟨⟨d,fr⟩,eb,q⟩:=yc h1;obtain ⟨r,r1,r2⟩:=zcM (X:=X) (Γ:=Γ) ok.hK ok.room.gd ok.u61 ok.calm hi eb
   exact ⟨r,r1,r2 S1 H1 g1 vs Q w1 (W9 w1 hv) fun u H2 g2 st2 _ w2 vo=>kk _ u H2 g2 S1 (st.trans st2) w2 ((VN.of vo).back st) q⟩⟩
theorem zdi {i j:Int}{g:G}:Hass Γ g (zx i j) (rgV i j):=go _
where
 go:∀ (l:List Nat),Hass Γ g (l.map fun (k:Nat)=>.int (i+(k:Int))) (l.map fun (k:Nat)=>.int (i+(k:Int)))
  | []=>rfl
  | _::l=>⟨_,_,rfl,rfl,go l⟩
theorem U0 {H H1:Hp}{g g1:G}{S1:Store}{V:Po}{Q:VK}{i j:Int}(b:-1000000<=i/\i<=1000000/\-1000000<=j/\j<=1000000) (st:Step H g H1 g1) (w1:WOk Γ H1 g1 S1) (kk:∀ (x:Vl) (v:L2.V) (H':Hp) (g':G) (S':Store),Step H g H' g'->WOk Γ H' g' S'->VN Γ H x v H' g'->V x S'->Q v H') (q:V (.lst (zx i j),.fr) S1):LrgQ i j Q H1:=
 ⟨b.1,b.2.1,b.2.2.1,b.2.2.2,fun a ha=>by
  have ff:Fin Γ H1 g1 S1 (.lst (zx i j)) true Q:=fun u H2 g2 st2 _ w2 vo=>kk (.lst (zx i j),.fr) u H2 g2 S1 (st.trans st2) w2 ((VN.of vo).back st) q
  exact wA w1 ff zdi ha⟩
section
variable {c:Cc}{X:Cx}{es:List E}{args:List Expr}{p p' pos pos':Pos}
theorem QJ (ok:XOk Γ B (spN Γ cx) k X c) (hg:Gl X "range") (hm:X.mg "range"=none) (hg':Gl X "list") (hm':X.mg "list"=none) (h:zX B c es args=true) (h1:es.length=1) (ih:PA X args (TXr Γ (cx noX) es)):
  PE X (.Call (.Name "list" p') [.Call (.Name "range" p) args [] pos] [] pos') (TX Γ (cx noX) (.bi .lrng es)):=by
 have hst:=wu h;have hl:=(uK h).symm.trans h1;obtain ⟨e,rfl⟩:=fj.mp h1;obtain ⟨a,rfl⟩:=fj.mp hl;refine (zbn ok.calm hg hm hg' hm' ih (hst a θ)).imp fun σ H Q h0=>goX h0 fun ρ S V g Hz hw w env kk=>⟨ρ,S,_,g,Hz,hw,w,env,fun x v H1 g1 S1 st w1 vx h1=>?_⟩
 obtain ⟨y,eb,q⟩:=yc h1;obtain ⟨i,j,e1,e2,hb,rfl⟩:=QM (show lrgD (.int 0) (zL S1 x.1)=some y from eb);cases e1;have hr:=vx.rdb w1;rw [e2] at hr;exact ⟨j,by rw [show v=.int j from hr],U0 hb st w1 kk q⟩
theorem Kw {α:Type}:∀ {l:List α},l.length=2->∃ a b,l=[a,b]
 | [a,b],_=>⟨a,b,rfl⟩
theorem JT (ok:XOk Γ B (spN Γ cx) k X c) (hg:Gl X "range") (hm:X.mg "range"=none) (hg':Gl X "list") (hm':X.mg "list"=none) (h:zX B c es args=true) (h1:es.length=2) (ih:PA X args (TXr Γ (cx noX) es)):
  PE X (.Call (.Name "list" p') [.Call (.Name "range" p) args [] pos] [] pos') (TX Γ (cx noX) (.bi .lrng2 es)):=by
 have hst:=wu h;have hl:=(uK h).symm.trans h1;obtain ⟨e,f,rfl⟩:=Kw h1;obtain ⟨a,b,rfl⟩:=Kw hl;refine (zbm ok.calm hg hm hg' hm' ih (hst a θ) (hst b (ι _ θ))).imp fun σ H Q h0=>goX h0 fun ρ S V g Hz hw w env kk=>⟨ρ,S,_,g,Hz,hw,w,env,fun ds vs H1 g1 S1 st w1 hv h1=>?_⟩
 obtain ⟨y,eb,q⟩:=yc h1;have hr:=W9 w1 hv
 match ds,eb,hr with
 | [],eb,_=>cases eb
 | [_],eb,_=>cases eb
 | _::_::_::_,eb,_=>cases eb
 | [d1,d2],eb,hr=>
  obtain ⟨i,j,e1,e2,hb,rfl⟩:=QM (show lrgD (zL S1 d1) (zL S1 d2)=some y from eb);obtain ⟨u,u2,rfl,r1,r2⟩:=rd2 hr;rw [e1] at r1;rw [e2] at r2;exact ⟨i,j,by rw [show u=.int i from r1,show u2=.int j from r2],U0 hb st w1 kk q⟩
end
theorem zbV {X:Cx}{c:Cc}{sc:aH}{js:List Nat}{xs:List Str}{t:T}{it elt:E}{ifs:List E}{cs:List Expr}{tgt iter y:Expr}{pos:Pos}(ok:XOk Γ B (spN Γ cx) k X c) (hs:chkS c sc js=true) (hn:vJ iter=true) (nd:(xs++js.map (fun j=>c.N.getD j "")).Nodup)
  (hst:Yn t=false) (ht:nT t=xs.length) (hr:tIs t=Ϲ xs.length) (hT:chkT (inner c sc xs js) t tgt=true) (hi:PI X tgt iter (TXi Γ (cx noX) it))
  (hz:∀ X,XOk Γ B (spN Γ cx) k X (inner c sc xs js)->PTs X cs (TXf Γ (cx noX) ifs)) (he:∀ X,XOk Γ B (spN Γ cx) k X (inner c sc xs js)->PE X y (TX Γ (cx noX) elt)):
  PE X (.ListComp y [⟨tgt,iter,cs,0⟩] sc pos) (TX Γ (cx noX) (.comp t js it ifs elt))/\CSet X (.ListComp y [⟨tgt,iter,cs,0⟩] sc pos) (TX Γ (cx noX) (.comp t js it ifs elt)):=by
 have okI:=fun C s3 H3 fp=>Kr ok hs nd C s3 H3 fp
 refine zb0 (zaB (xs:=xs) (tg:=tgOf X.K t) ok.calm (Jl ok hs) hi (fun C s3 H3 fp=>Zf (okI C s3 H3 fp) hT) (fun C s3 H3 fp=>hz _ (okI C s3 H3 fp)) (fun C s3 H3 fp=>he _ (okI C s3 H3 fp)) (X7 hn X.env)) fun σ H Q h0=>goX h0 fun ρ S V g Hz hw w env kk=>?_
 refine zbU (X:=X) (Qe:=fun D H'=>Q (.ref D) H') hst (fun i hi=>?_) ht ?_ hw w env fun ds Da H' g' S' st w' vx q=>kk _ _ H' g' S' st w' vx q
 ·rw [hr] at hi;rw [ht];exact cu.mp hi
 ·exact List.Pairwise.of_map _ (fun a b (h:c.N.getD a ""≠c.N.getD b "") e=>h (by rw [e])) (bZ.mp nd).2.1
theorem Wf {t:T}{js:List Nat}{it:E}{ifs:List E}{elt:E}{X:Cx}{c:Cc}{tgt iter y:Expr}{cs:List Expr}{kk:Int}{sc:aH}{pos:Pos}(hI:∀ X c tgt x,XOk Γ B (spN Γ cx) k X c->chkI B c it tgt x=true->PI X tgt x (TXi Γ (cx noX) it)) (hF:∀ X c xs,XOk Γ B (spN Γ cx) k X c->jB B c ifs xs=true->ifs.length<=1->PTs X xs (TXf Γ (cx noX) ifs)) (hE:∀ X c x,XOk Γ B (spN Γ cx) k X c->chkE B c elt x=true->PE X x (TX Γ (cx noX) elt))
    (ok:XOk Γ B (spN Γ cx) k X c) (h:chkE B c (.comp t js it ifs elt) (.ListComp y [⟨tgt,iter,cs,kk⟩] sc pos)=true):PE X (.ListComp y [⟨tgt,iter,cs,kk⟩] sc pos) (TX Γ (cx noX) (.comp t js it ifs elt))/\CSet X (.ListComp y [⟨tgt,iter,cs,kk⟩] sc pos) (TX Γ (cx noX) (.comp t js it ifs elt)):=by
  have h:(kk==0&&chkS c sc js&&chkI B c it tgt iter&&vJ iter&&(match wj tgt with
    | some xs=>decide ((xs++js.map (fun j=>c.N.getD j "")).Nodup)&&nT t==xs.length&&tIs t==Ϲ xs.length&&chkT (inner c sc xs js) t tgt&&chkE B (inner c sc xs js) elt y&&jB B (inner c sc xs js) ifs cs&&decide (ifs.length<=1)
    | none=>false))=true:=h
  simp only [ε] at h;obtain ⟨⟨⟨⟨h1,h2⟩,h3⟩,h4⟩,h5⟩:=h;have e1:=eq_of_beq h1;subst e1;cases ht:wj tgt with
  | none=>rw [ht] at h5;cases h5
  | some xs=>
    rw [ht] at h5;simp only [ε] at h5;obtain ⟨⟨⟨⟨⟨⟨h6,h7⟩,h8⟩,h9⟩,h10⟩,h11⟩,h12⟩:=h5;have hst:Yn t=false:=by
      cases t with
      | nst i is=>
        exfalso;cases q:zb4 tgt with
        | none=>unfold chkT at h9;rw [if_pos (show Yn (.nst i is)=true from rfl),q] at h9;cases h9
        | some z=>rw [Jr q] at ht;cases ht
      | _=>rfl
    exact zbV ok h2 h4 (of_decide_eq_true h6) hst (eq_of_beq h7) (eq_of_beq h8) h9 (hI X c tgt iter ok h3) (fun X ok'=>hF X _ cs ok' h11 (of_decide_eq_true h12)) fun X ok'=>hE X _ y ok' h10
mutual
theorem sA (hcf:CfN B (cx noX)) (hm:Mono (cx noX)):∀ (e:E),SE Γ B cx k e
  | .var i=>fun X c x ok h=>by
    have hb:Ν x.ctorIdx 23=true:=by revert h;cases x <;> first | exact non | exact fun _=>rfl
    revert h;apply jj hb;clear hb;intro n pos h;have h:(c.N[i]?==some n&&visK (c.names.lookup n)&&yu n)=true:=h;rw [ε,ε] at h;obtain ⟨h1,h2,_⟩:=yf h.2;exact only (za9 (by rw [ok.N];exact eq_of_beq h.1.1) (ok.vis h.1.2) h1 h2) rfl fun _=>rfl
  | .con d=>fun X c x ok h=>by
    have hb:Ν x.ctorIdx 19=true:=by revert h;cases x <;> first | exact non | exact fun _=>rfl
    revert h;apply Zt hb;clear hb;intro q n pos h;obtain ⟨t,h1,h2⟩:=zhG (Γ:=Γ) (X:=X) h;exact only (zfS h1 h2 fun _ _ _ q=>q) rfl fun _=>rfl
  | .glo m d=>fun X c x ok h=>by
    have hb:Ν x.ctorIdx 23=true:=by revert h;cases x <;> first | exact non | exact fun _=>rfl
    revert h;apply jj hb;clear hb;intro n pos h
    have h:((match B.consts[m]? with
      | some p=>p.1==n&&JC p.2 d
      | none=>false)&&gloK (c.names.lookup n)&&yu n)=true:=h
    rw [ε,ε] at h;cases e:B.consts[m]? with
    | none=>rw [e] at h;cases h.1.1
    | some q=>
      rw [e] at h;obtain ⟨y,d'⟩:=q;have h1:(y==n&&JC d' d)=true:=h.1.1;rw [ε] at h1;have e1:=eq_of_beq h1.1;have e2:=Um _ _ h1.2;subst e1 e2;obtain ⟨u,v,g1,g2,g3⟩:=ok.consts m y d' e;exact only (zfS (zdz (ok.glob h.1.2) g1 g2 (yf h.2).1) g3 fun _ _ _ q=>q) rfl fun _=>rfl
  | .bin op a b=>fun X c x ok h=>by
    have hb:Ν x.ctorIdx 2=true:=by revert h;cases x <;> first | exact non | exact fun _=>rfl
    revert h;apply zdR hb;clear hb;intro l op' r pos h;have h:(op==op'&&chkE B c a l&&chkE B c b r)=true:=h;rw [ε,ε] at h;have e1:=eq_of_beq h.1.1;subst e1;exact only (ziH ok.hK (sA hcf hm a X c l ok h.1.2).1 (sA hcf hm b X c r ok h.2).1) rfl fun _=>rfl
  | .neg a=>fun X c x ok h=>by
    have hb:Ν x.ctorIdx 3=true:=by revert h;cases x <;> first | exact non | exact fun _=>rfl
    revert h;apply Xr hb;clear hb;intro op l pos h;have h:(op==PySem.UnaryOp.USub&&chkE B c a l)=true:=h;rw [ε] at h;have e1:=eq_of_beq h.1;subst e1;exact only (zis (sA hcf hm a X c l ok h.2).1) rfl fun _=>rfl
  | .cmp op a b=>fun X c x ok h=>by
    have hb:Ν x.ctorIdx 15=true:=by revert h;cases x <;> first | exact non | exact fun _=>rfl
    revert h;apply Xv hb;clear hb;intro l ops rs pos h
    match ops,rs,h with
    | [op'],[r],h=>
      have h:(op==op'&&chkE B c a l&&chkE B c b r&&vJ r)=true:=h;rw [ε,ε,ε] at h;have e1:=eq_of_beq h.1.1.1;subst e1;have hm':iC op r=false:=by cases r <;> first | rfl | cases h.2
      have:=ziE (pos:=pos) ok.hK ok.u61 (sA hcf hm a X c l ok h.1.1.2).1 (sA hcf hm b X c r ok h.1.2).1 hm';exact ⟨this.1,this.2,fun q=>by cases q⟩
    | [],_,h=>exact nobE h
    | [_],[],h=>exact nobE h
    | [_],_::_::_,h=>exact nobE h
    | _::_::_,_,h=>exact nobE h
  | .chn o1 o2 a b d=>fun X c x ok h=>by
    have hb:Ν x.ctorIdx 15=true:=by revert h;cases x <;> first | exact non | exact fun _=>rfl
    revert h;apply Xv hb;clear hb;intro l ops rs pos h
    match ops,rs,h with
    | [p1,p2],[r1,r2],h=>
      have h:(o1==p1&&o2==p2&&chkE B c a l&&chkE B c b r1&&chkE B c d r2&&vJ r2)=true:=h;simp only [ε] at h;obtain ⟨⟨⟨⟨⟨h1,h2⟩,h3⟩,h4⟩,h5⟩,h6⟩:=h;have e1:=eq_of_beq h1;have e2:=eq_of_beq h2;subst e1 e2;have hm':lastMarks [o1,o2] [r1,r2]=false:=by cases r2 <;> first | rfl | cases h6
      have:=ziF (pos:=pos) ok.hK ok.u61 (sA hcf hm a X c l ok h3).1 (sA hcf hm b X c r1 ok h4).1 (sA hcf hm d X c r2 ok h5).1 hm';exact ⟨this.1,this.2,fun q=>by cases q⟩
    | [],_,h=>exact nobE h
    | [_],_,h=>exact nobE h
    | [_,_],[],h=>exact nobE h
    | [_,_],[_],h=>exact nobE h
    | [_,_],_::_::_::_,h=>exact nobE h
    | _::_::_::_,_,h=>exact nobE h
  | .not a=>fun X c x ok h=>by
    have hb:Ν x.ctorIdx 3=true:=by revert h;cases x <;> first | exact non | exact fun _=>rfl
    revert h;apply Xr hb;clear hb;intro op l pos h;have h:(op==PySem.UnaryOp.Not&&chkE B c a l)=true:=h;rw [ε] at h;have e1:=eq_of_beq h.1;subst e1;obtain ⟨i1,i2,_⟩:=sA hcf hm a X c l ok h.2;exact ⟨zir i1,zfL i2,fun q=>by cases q⟩
  | .and a b=>fun X c x ok h=>by
    have hb:Ν x.ctorIdx 0=true:=by revert h;cases x <;> first | exact non | exact fun _=>rfl
    revert h;apply Z8 hb;clear hb;intro op vs pos h
    match vs,h with
    | l::r::rest,h=>
      have h:(op==my.And&&chkE B c a l&&chkE B c b (.BoolOp .And (r::rest) pos))=true:=h;rw [ε,ε] at h;have e1:=eq_of_beq h.1.1;subst e1;obtain ⟨i1,i2,_⟩:=sA hcf hm a X c l ok h.1.2;obtain ⟨j1,_,j3⟩:=sA hcf hm b X c _ ok h.2;have w:=zfU i2 (j3 rfl);exact ⟨ziJ i1 j1,w.pt,fun _=>w⟩
    | [],h=>exact nobE h
    | [_],h=>exact nobE h
  | .or a b=>fun X c x ok h=>by
    have hb:Ν x.ctorIdx 0=true:=by revert h;cases x <;> first | exact non | exact fun _=>rfl
    revert h;apply Z8 hb;clear hb;intro op vs pos h
    match vs,h with
    | l::r::rest,h=>
      have h:(op==my.Or&&chkE B c a l&&chkE B c b (.BoolOp .Or (r::rest) pos))=true:=h;rw [ε,ε] at h;have e1:=eq_of_beq h.1.1;subst e1;obtain ⟨i1,i2,_⟩:=sA hcf hm a X c l ok h.1.2;obtain ⟨j1,_,j3⟩:=sA hcf hm b X c _ ok h.2;have w:=ziq i2 (j3 rfl);exact ⟨s_or i1 j1,w.pt,fun _=>w⟩
    | [],h=>exact nobE h
    | [_],h=>exact nobE h
  | .one a=>fun X c x ok h=>by
    have hb:Ν x.ctorIdx 0=true:=by revert h;cases x <;> first | exact non | exact fun _=>rfl
    revert h;apply Z8 hb;clear hb;intro op vs pos h
    match vs,h with
    | [l],h=>
      obtain ⟨i1,i2,_⟩:=sA hcf hm a X c l ok (show chkE B c a l=true from h);exact ⟨zgf i1,(zcb i2).pt,fun _=>zcb i2⟩
    | [],h=>exact nobE h
    | _::_::_,h=>exact nobE h
  | .ite t a b=>fun X c x ok h=>by
    have hb:Ν x.ctorIdx 5=true:=by revert h;cases x <;> first | exact non | exact fun _=>rfl
    revert h;apply zdQ hb;clear hb;intro l y z pos h;have h:(chkE B c t l&&chkE B c a y&&chkE B c b z)=true:=h;rw [ε,ε] at h;obtain ⟨_,i2,_⟩:=sA hcf hm t X c l ok h.1.1;obtain ⟨j1,j2,_⟩:=sA hcf hm a X c y ok h.1.2;obtain ⟨k1,k2,_⟩:=sA hcf hm b X c z ok h.2;exact ⟨ziw i2 j1 k1,zf7 i2 j2 k2,fun q=>by cases q⟩
  | .tup es=>fun X c x ok h=>by
    have hb:Ν x.ctorIdx 25=true:=by revert h;cases x <;> first | exact non | exact fun _=>rfl
    revert h;apply zdN hb;clear hb;intro xs kk pos h;exact only (zie (sEs hcf hm es X c xs ok h)) rfl fun _=>rfl
  | .lst es=>fun X c x ok h=>by
    have hb:Ν x.ctorIdx 24=true:=by revert h;cases x <;> first | exact non | exact fun _=>rfl
    revert h;apply ofList hb;clear hb;intro xs pos h;exact only (ziu (sEs hcf hm es X c xs ok h)) rfl fun _=>rfl
  | .sub a i=>fun X c x ok h=>by
    have hb:Ν x.ctorIdx 21=true:=by revert h;cases x <;> first | exact non | exact fun _=>rfl
    revert h;apply qi hb;clear hb;intro l y pos h;have h:(chkE B c a l&&chkE B c i y)=true:=h;rw [ε] at h;exact only (zif ok.hK ok.u1 (sA hcf hm a X c l ok h.1).1 (sA hcf hm i X c y ok h.2).1 (JK h.2)) rfl fun _=>rfl
  | .slc a lo hi=>fun X c x ok h=>by
    have hb:Ν x.ctorIdx 21=true:=by revert h;cases x <;> first | exact non | exact fun _=>rfl
    revert h;apply qi hb;clear hb;intro l y pos h;have hb:Ν y.ctorIdx 26=true:=by revert h;cases y <;> first | exact non | exact fun _=>rfl
    revert h;apply zdO hb;clear hb;intro lo' hi' st p2 h;cases st with
    | none=>
      have h:(chkE B c a l&&chkO B c lo lo'&&chkO B c hi hi')=true:=h;rw [ε,ε] at h;exact only (zik ok.hK (sA hcf hm a X c l ok h.1.1).1 (sO hcf hm lo X c lo' ok h.1.2) (sO hcf hm hi X c hi' ok h.2)) rfl fun _=>rfl
    | some _=>exact nobE h
  | .bi b es=>fun X c x ok h=>by
    have hb:Ν x.ctorIdx 16=true:=by revert h;cases x <;> first | exact non | exact fun _=>rfl
    revert h;apply Zu hb;clear hb;intro f args kws pos h;have hb:Ν f.ctorIdx 23=true:=by revert h;cases f <;> first | exact non | exact fun _=>rfl
    revert h;apply jj hb;clear hb;intro n p h;cases kws with
    | nil=>
      cases b with
      | isinst t=>
        match es,args,h with
        | [],_,h=>exact (wH (show (_&&false)=true from h)).elim
        | _::_::_,_,h=>exact (wH (show (_&&false)=true from h)).elim
        | [_],[],h=>exact (wH (show (_&&false)=true from h)).elim
        | [_],[_],h=>exact (wH (show (_&&false)=true from h)).elim
        | [_],_::z::_::_,h=>cases z <;> exact (wH (show (_&&false)=true from h)).elim
        | [e],[y,z],h=>
          cases z with
          | Name z pz=>
            have h:(n==("isinstance":Str)&&B.bare.contains n&&B.bare.contains (tyN t)&&gloK (c.names.lookup n)&&(chkE B c e y&&notStar y&&z==tyN t&&gloK (c.names.lookup z)))=true:=h;simp only [ε] at h;obtain ⟨⟨⟨⟨h1,h2⟩,h3⟩,h4⟩,⟨⟨h5,h6⟩,h7⟩,h8⟩:=h;have e1:=eq_of_beq h1;have e2:=eq_of_beq h7;subst e1 e2;exact only (s_is ok (ok.glob h4) (ok.bare _ (ϴ.mp h2)) (ok.glob h8) (ok.bare _ (ϴ.mp h3)) h6 (sA hcf hm e X c y ok h5).1) rfl fun _=>rfl
          | _=>exact (wH (show (_&&false)=true from h)).elim
      | len=>exact yH ok rfl (show (n==biS .len&&B.bare.contains n&&gloK (c.names.lookup n)&&zX B c es args&&!es.isEmpty)=true from h) fun q=>sRs hcf hm es X c args ok q
      | abs=>exact yH ok rfl (show (n==biS .abs&&B.bare.contains n&&gloK (c.names.lookup n)&&zX B c es args&&!es.isEmpty)=true from h) fun q=>sRs hcf hm es X c args ok q
      | int=>exact yH ok rfl (show (n==biS .int&&B.bare.contains n&&gloK (c.names.lookup n)&&zX B c es args&&!es.isEmpty)=true from h) fun q=>sRs hcf hm es X c args ok q
      | str=>exact yH ok rfl (show (n==biS .str&&B.bare.contains n&&gloK (c.names.lookup n)&&zX B c es args&&!es.isEmpty)=true from h) fun q=>sRs hcf hm es X c args ok q
      | tuple=>exact yH ok rfl (show (n==biS .tuple&&B.bare.contains n&&gloK (c.names.lookup n)&&zX B c es args&&!es.isEmpty)=true from h) fun q=>sRs hcf hm es X c args ok q
      | list=>exact yH ok rfl (show (n==biS .list&&B.bare.contains n&&gloK (c.names.lookup n)&&zX B c es args&&!es.isEmpty)=true from h) fun q=>sRs hcf hm es X c args ok q
      | sum=>exact yH ok rfl (show (n==biS .sum&&B.bare.contains n&&gloK (c.names.lookup n)&&zX B c es args&&!es.isEmpty)=true from h) fun q=>sRs hcf hm es X c args ok q
      | all=>exact yH ok rfl (show (n==biS .all&&B.bare.contains n&&gloK (c.names.lookup n)&&zX B c es args&&!es.isEmpty)=true from h) fun q=>sRs hcf hm es X c args ok q
      | any=>exact yH ok rfl (show (n==biS .any&&B.bare.contains n&&gloK (c.names.lookup n)&&zX B c es args&&!es.isEmpty)=true from h) fun q=>sRs hcf hm es X c args ok q
      | min2=>exact yH ok rfl (show (n==biS .min2&&B.bare.contains n&&gloK (c.names.lookup n)&&zX B c es args&&!es.isEmpty)=true from h) fun q=>sRs hcf hm es X c args ok q
      | max2=>exact yH ok rfl (show (n==biS .max2&&B.bare.contains n&&gloK (c.names.lookup n)&&zX B c es args&&!es.isEmpty)=true from h) fun q=>sRs hcf hm es X c args ok q
      | sorted=>exact yH ok rfl (show (n==biS .sorted&&B.bare.contains n&&gloK (c.names.lookup n)&&zX B c es args&&!es.isEmpty)=true from h) fun q=>sRs hcf hm es X c args ok q
      | repr=>exact yH ok rfl (show (n==biS .repr&&B.bare.contains n&&gloK (c.names.lookup n)&&zX B c es args&&!es.isEmpty)=true from h) fun q=>sRs hcf hm es X c args ok q
      | dict=>exact yH ok rfl (show (n==biS .dict&&B.bare.contains n&&gloK (c.names.lookup n)&&zX B c es args&&!es.isEmpty)=true from h) fun q=>sRs hcf hm es X c args ok q
      | sset=>exact nobE h
      | lset=>exact nobE h
      | trev=>exact nobE h
      | lrng=>
        match args,h with
        | [],h=>exact (wH (show (_&&false)=true from h)).elim
        | _::_::_,h=>exact (wH (show (_&&false)=true from h)).elim
        | [z],h=>
          have h9:(n==("list":Str)&&B.bare.contains n&&gloK (c.names.lookup n)&&(match jf z with
            | some (y,zs)=>y==("range":Str)&&B.bare.contains y&&gloK (c.names.lookup y)&&zX B c es zs&&decide (es.length=1)
            | none=>false))=true:=h
          cases hz:jf z with
          | none=>rw [hz] at h9;exact (wH h9).elim
          | some q=>
            obtain ⟨y,u⟩:=q;rw [hz] at h9;obtain ⟨py,pu,rfl⟩:=Y8 hz;simp only [ε,decide_eq_true_eq] at h9;obtain ⟨⟨⟨h1,h2⟩,h3⟩,⟨⟨⟨h4,h5⟩,h6⟩,h7⟩,h8⟩:=h9;have e1:=eq_of_beq h1;have e2:=eq_of_beq h4;subst e1 e2;exact only (QJ ok (ok.glob h6) (ok.bare _ (ϴ.mp h5)) (ok.glob h3) (ok.bare _ (ϴ.mp h2)) h7 h8 (sRs hcf hm es X c u ok h7)) rfl fun _=>rfl
      | lrng2=>
        match args,h with
        | [],h=>exact (wH (show (_&&false)=true from h)).elim
        | _::_::_,h=>exact (wH (show (_&&false)=true from h)).elim
        | [z],h=>
          have h9:(n==("list":Str)&&B.bare.contains n&&gloK (c.names.lookup n)&&(match jf z with
            | some (y,zs)=>y==("range":Str)&&B.bare.contains y&&gloK (c.names.lookup y)&&zX B c es zs&&decide (es.length=2)
            | none=>false))=true:=h
          cases hz:jf z with
          | none=>rw [hz] at h9;exact (wH h9).elim
          | some q=>
            obtain ⟨y,u⟩:=q;rw [hz] at h9;obtain ⟨py,pu,rfl⟩:=Y8 hz;simp only [ε,decide_eq_true_eq] at h9;obtain ⟨⟨⟨h1,h2⟩,h3⟩,⟨⟨⟨h4,h5⟩,h6⟩,h7⟩,h8⟩:=h9;have e1:=eq_of_beq h1;have e2:=eq_of_beq h4;subst e1 e2;exact only (JT ok (ok.glob h6) (ok.bare _ (ϴ.mp h5)) (ok.glob h3) (ok.bare _ (ϴ.mp h2)) h7 h8 (sRs hcf hm es X c u ok h7)) rfl fun _=>rfl
    | cons _ _=>exact nobE h
  | .call f es=>fun X c x ok h=>by
    have hb:Ν x.ctorIdx 16=true:=by revert h;cases x <;> first | exact non | exact fun _=>rfl
    revert h;apply Zu hb;clear hb;intro q args kws pos h;have hb:Ν q.ctorIdx 23=true:=by revert h;cases q <;> first | exact non | exact fun _=>rfl
    revert h;apply jj hb;clear hb;intro n p h;cases kws with
    | nil=>
      have h:(B.fns[f]?==some n&&gloK (c.names.lookup n)&&yu n&&zX B c es args&&!es.isEmpty)=true:=h;simp only [ε] at h;obtain ⟨⟨⟨⟨h1,h2⟩,h3⟩,h4⟩,h5⟩:=h;cases args with
      | nil=>
        cases es with
        | nil=>cases h5
        | cons _ _=>exact nobE h4
      | cons y ys=>exact only (s_call hcf ok (eq_of_beq h1) (Ug h3) (ok.glob h2) (yf h3).1 (wu h4) (sEs hcf hm es X c (y::ys) ok h4)) rfl fun _=>rfl
    | cons _ _=>exact nobE h
  | .callk f perm es=>fun X c x ok h=>nobE h
  | .comp t js it ifs elt=>fun X c x ok h=>by
    have hb:Ν x.ctorIdx 8=true:=by revert h;cases x <;> first | exact non | exact fun _=>rfl
    revert h;apply Zr hb;clear hb;intro y gens sc pos h
    match gens,h with
    | [⟨tgt,iter,cs,kk⟩],h=>exact only (Wf (fun X c tgt x ok q=>sI hcf hm it X c tgt x ok q) (fun X c xs ok q l=>sFs hcf hm ifs X c xs ok q l) (fun X c x ok q=>(sA hcf hm elt X c x ok q).1) ok h).1 rfl fun _=>rfl
    | [],h=>exact nobE h
    | ⟨_,_,_,_⟩::⟨_,_,_,_⟩::_,h=>exact nobE h
  | .box e=>fun X c x ok h=>by
    have h:(Qn x&&chkE B c e x)=true:=h;rw [ε] at h
    have pe:PE X x (TX Γ (cx noX) (.box e)):=((sA hcf hm e X c x ok h.2).1).imp fun σ H Q ⟨ρ,S,V,g,Hz,hw,w,env,kk⟩=>⟨ρ,S,_,g,Hz,hw,w,env,fun y v H1 g1 S1 st w1 vx q=>by
      obtain ⟨d,k⟩:=y;cases k with
      | fr=>
        obtain ⟨g2,s2,w2,h2⟩:=zhO st w1 vx;exact kk (.ref S1.length,.st) v H1 g2 _ s2 w2 h2 q
      | _=>exact q.elim⟩
    have hp:=h.1;cases x <;> first | exact only pe rfl fun _=>rfl | exact nobE hp
  | .dic tk ks es=>fun X c x ok h=>by
    have hb:Ν x.ctorIdx 6=true:=by revert h;cases x <;> first | exact non | exact fun _=>rfl
    revert h;apply zgB hb;clear hb;intro keys vals pos h;have h:(Wi ks keys&&jB B c es vals&&decide (ks.length=es.length)&&decide (ks.length<=15))=true:=h;simp only [ε,decide_eq_true_eq] at h;obtain ⟨⟨⟨h1,h2⟩,h3⟩,h4⟩:=h;refine only ?_ rfl fun _=>rfl
    cases ks with
    | nil=>
      cases keys with
      | cons _ _=>exact nobE h1
      | nil=>
        cases es with
        | cons _ _=>cases h3
        | nil=>
          cases vals with
          | cons _ _=>exact nobE h2
          | nil=>
            cases tk with
            | true=>exact zdc (ks:=[])
            | false=>exact zdd
    | cons k0 ks=>
      have hps:=sPs (pos:=pos) hcf hm es X c vals (k0::ks) keys ok h2 h1 h3;obtain ⟨l1,l2⟩:=Wh h1;have l3:=Wg h2;have hd:=zfR hps l2 (by rw [<- l1,h3,l3]) (fun z=>by rw [z] at l1;cases l1) (by rw [<- l1];exact h4);cases tk with
      | false=>exact hd
      | true=>exact hd.imp fun σ H Q ⟨ρ,S,V,g,Hz,hw,w,env,kk⟩=>⟨ρ,S,V,g,Hz,zN hm es (fun ds S1 q=>by
        obtain ⟨hq,_⟩:=uq q;unfold J9 at hq
        simp at hq) hw,w,env,kk⟩
  | .mth m o es=>fun X c x ok h=>by
    have hb:Ν x.ctorIdx 16=true:=by revert h;cases x <;> first | exact non | exact fun _=>rfl
    revert h;apply Zu hb;clear hb;intro f args kws pos h;obtain ⟨w,ap,y,ys,rfl,rfl,rfl,h1,h2,h3,h4,h5⟩:=zgF h;exact only (zit ok (sA hcf hm o X c w ok h1).1 (wu h2) (sEs hcf hm es X c (y::ys) ok h2) h3 h4 h5) rfl fun _=>rfl
  | .att cs o f=>fun X c x ok h=>nobE h
  | .met ms o m es=>fun X c x ok h=>nobE h
  | .mk n f es=>fun X c x ok h=>nobE h
  | .flip e=>fun X c x ok h=>nobE h
  | .dk1 a b=>fun X c x ok h=>nobE h
  | .lam f p js=>fun X c x ok h=>by
    have hb:Ν x.ctorIdx 4=true:=by revert h;cases x <;> first | exact non | exact fun _=>rfl
    revert h;apply zbA hb;clear hb;intro pr b sc pos h;exact only (zfM ok h) rfl fun _=>rfl
  | .cvl i es=>fun X c x ok h=>by
    have hb:Ν x.ctorIdx 16=true:=by revert h;cases x <;> first | exact non | exact fun _=>rfl
    revert h;apply Zu hb;clear hb;intro q args kws pos h;have hb:Ν q.ctorIdx 23=true:=by revert h;cases q <;> first | exact non | exact fun _=>rfl
    revert h;apply jj hb;clear hb;intro n p h;cases kws with
    | nil=>
      have h:(c.N[i]?==some n&&visK (c.names.lookup n)&&yu n&&zX B c es args&&!es.isEmpty)=true:=h;simp only [ε] at h;obtain ⟨⟨⟨⟨h1,h2⟩,h3⟩,h4⟩,h5⟩:=h;obtain ⟨p1,p2,_⟩:=yf h3;cases args with
      | nil=>
        cases es with
        | nil=>cases h5
        | cons _ _=>exact nobE h4
      | cons y ys=>exact only (ziC ok.lm ok (by rw [ok.N];exact eq_of_beq h1) (ok.vis h2) p1 p2 (wu h4) (sEs hcf hm es X c (y::ys) ok h4)) rfl fun _=>rfl
    | cons _ _=>exact nobE h
  | .callv i es=>fun X c x ok h=>nobE h
  | .seq _=>fun X c x ok h=>none_of fun _ _ _ q=>q
  | .rng _ _=>fun X c x ok h=>none_of fun _ _ _ q=>q
  | .enum _=>fun X c x ok h=>none_of fun _ _ _ q=>q
  | .zip _ _=>fun X c x ok h=>none_of fun _ _ _ q=>q
  | .rev _=>fun X c x ok h=>none_of fun _ _ _ q=>q
  | .dwn _=>fun X c x ok h=>none_of fun _ _ _ q=>q
  | .keys _=>fun X c x ok h=>none_of fun _ _ _ q=>q
  | .items _=>fun X c x ok h=>none_of fun _ _ _ q=>q
theorem sRs (hcf:CfN B (cx noX)) (hm:Mono (cx noX)):∀ (es:List E) (X:Cx) (c:Cc) (xs:List Expr),XOk Γ B (spN Γ cx) k X c->zX B c es xs=true->PA X xs (TXr Γ (cx noX) es)
 | [],X,c,xs,ok,h=>by
  cases xs with
  | nil=>exact zda
  | cons _ _=>exact nobE h
 | [e],X,c,xs,ok,h=>by
  cases xs with
  | nil=>exact nobE h
  | cons x xs=>
   have h:(chkE B c e x&&notStar x&&zX B c [] xs)=true:=h;rw [ε,ε] at h;cases xs with
   | nil=>exact wU (sA hcf hm e X c x ok h.1.1).1 qg (zj h.1.2 _ _)
   | cons _ _=>exact nobE h.2
 | e::f::es,X,c,xs,ok,h=>by
  cases xs with
  | nil=>exact nobE h
  | cons x xs=>
   have h:(chkE B c e x&&notStar x&&zX B c (f::es) xs)=true:=h;rw [ε,ε] at h;exact Uo h.1.2 (sA hcf hm e X c x ok h.1.1).1 (sEs hcf hm (f::es) X c xs ok h.2)
theorem sEs (hcf:CfN B (cx noX)) (hm:Mono (cx noX)):∀ (es:List E) (X:Cx) (c:Cc) (xs:List Expr),XOk Γ B (spN Γ cx) k X c->zX B c es xs=true->PA X xs (TXs Γ (cx noX) es)
 | [],X,c,xs,ok,h=>by
  cases xs with
  | nil=>exact zda
  | cons _ _=>exact nobE h
 | e::es,X,c,xs,ok,h=>by
  cases xs with
  | nil=>exact nobE h
  | cons x xs=>
   have h:(chkE B c e x&&notStar x&&zX B c es xs)=true:=h;rw [ε,ε] at h;exact Uo h.1.2 (sA hcf hm e X c x ok h.1.1).1 (sEs hcf hm es X c xs ok h.2)
theorem sPs {pos:Pos}(hcf:CfN B (cx noX)) (hm:Mono (cx noX)):∀ (es:List E) (X:Cx) (c:Cc) (vals:List Expr) (ks:List Key) (keys:List (Option Expr)),XOk Γ B (spN Γ cx) k X c->jB B c es vals=true->Wi ks keys=true->ks.length=es.length->PPd X pos keys vals ks (TXs Γ (cx noX) es)
 | [],X,c,vals,ks,keys,ok,h,hk,hl=>by
  cases vals with
  | cons _ _=>exact nobE h
  | nil=>
   cases ks with
   | cons _ _=>cases hl
   | nil=>
    cases keys with
    | cons _ _=>exact nobE hk
    | nil=>exact zfJ
 | a::es,X,c,vals,ks,keys,ok,h,hk,hl=>by
  cases vals with
  | nil=>exact nobE h
  | cons x vals=>
   have h:(chkE B c a x&&jB B c es vals)=true:=h;rw [ε] at h;cases ks with
   | nil=>cases hl
   | cons k0 ks=>
    obtain ⟨q,n,p,r,rfl,hc,hr⟩:=ZJ hk;exact zc9 (hc X) (sA hcf hm a X c x ok h.1).1 (sPs hcf hm es X c vals ks r ok h.2 hr (by simpa using hl))
theorem sKs (hcf:CfN B (cx noX)) (hm:Mono (cx noX)):∀ (es:List E) (X:Cx) (c:Cc) (kws:List cW),XOk Γ B (spN Γ cx) k X c->zeE B c es kws=true->PK X kws (TXs Γ (cx noX) es)
 | [],X,c,xs,ok,h=>by
  cases xs with
  | nil=>exact zfN
  | cons _ _=>exact nobE h
 | e::es,X,c,xs,ok,h=>by
  cases xs with
  | nil=>exact nobE h
  | cons q xs=>
   obtain ⟨n,x,kp⟩:=q;cases n with
   | none=>exact nobE h
   | some n=>
    have h:(chkE B c e x&&zeE B c es xs)=true:=h;rw [ε] at h;exact zdb (sA hcf hm e X c x ok h.1).1 (sKs hcf hm es X c xs ok h.2)
theorem sI (hcf:CfN B (cx noX)) (hm:Mono (cx noX)):∀ (e:E) (X:Cx) (c:Cc) (tgt x:Expr),XOk Γ B (spN Γ cx) k X c->chkI B c e tgt x=true->PI X tgt x (TXi Γ (cx noX) e)
 | .seq e,X,c,tgt,x,ok,h=>zim ok.hK (sA hcf hm e X c x ok h).1
 | .keys e,X,c,tgt,x,ok,h=>zfO (sA hcf hm e X c x ok h).1
 | .rng none hi,X,c,tgt,x,ok,h=>by
  have hb:Ν x.ctorIdx 16=true:=by revert h;cases x <;> first | exact non | exact fun _=>rfl
  revert h;apply Zu hb;clear hb;intro q args kws pos h;have hb:Ν q.ctorIdx 23=true:=by revert h;cases q <;> first | exact non | exact fun _=>rfl
  revert h;apply jj hb;clear hb;intro n p h;cases kws with
  | nil=>
   match args,h with
   | [y],h=>
    have h:(n==("range":Str)&&B.bare.contains n&&gloK (c.names.lookup n)&&chkE B c hi y&&notStar y)=true:=h;simp only [ε] at h;obtain ⟨⟨⟨⟨h1,h2⟩,h3⟩,h4⟩,h5⟩:=h;have e1:=eq_of_beq h1;subst e1;exact zfG (ok.glob h3) (ok.bare _ (ϴ.mp h2)) h5 (sA hcf hm hi X c y ok h4).1
   | [],h=>exact nobE h
   | _::_::_,h=>exact nobE h
  | cons _ _=>rcases args with _ | ⟨_,_ | ⟨_,_ | ⟨_,_⟩⟩⟩ <;> exact nobE h
 | .rng (some _) _,X,c,tgt,x,ok,h=>nobE h
 | .enum e,X,c,tgt,x,ok,h=>by
  have hb:Ν x.ctorIdx 16=true:=by revert h;cases x <;> first | exact non | exact fun _=>rfl
  revert h;apply Zu hb;clear hb;intro q args kws pos h;have hb:Ν q.ctorIdx 23=true:=by revert h;cases q <;> first | exact non | exact fun _=>rfl
  revert h;apply jj hb;clear hb;intro n p h;cases kws with
  | nil=>
   match args,h with
   | [y],h=>
    have h:(zcw tgt&&n==("enumerate":Str)&&B.bare.contains n&&gloK (c.names.lookup n)&&chkE B c e y&&notStar y)=true:=h;simp only [ε] at h;obtain ⟨⟨⟨⟨⟨h0,h1⟩,h2⟩,h3⟩,h4⟩,h5⟩:=h;have e1:=eq_of_beq h1;subst e1;cases tgt with
    | Tuple elts kk tp=>exact zfQ ok.hK (ok.glob h3) (ok.bare _ (ϴ.mp h2)) h5 (sA hcf hm e X c y ok h4).1
    | _=>exact nobE h0
   | [],h=>exact nobE h
   | _::_::_,h=>exact nobE h
  | cons _ _=>rcases args with _ | ⟨_,_ | ⟨_,_⟩⟩ <;> exact nobE h
 | .var _,X,c,tgt,x,ok,h=>nobE h
 | .con _,X,c,tgt,x,ok,h=>nobE h
 | .glo _ _,X,c,tgt,x,ok,h=>nobE h
 | .bin _ _ _,X,c,tgt,x,ok,h=>nobE h
 | .neg _,X,c,tgt,x,ok,h=>nobE h
 | .cmp _ _ _,X,c,tgt,x,ok,h=>nobE h
 | .chn _ _ _ _ _,X,c,tgt,x,ok,h=>nobE h
 | .not _,X,c,tgt,x,ok,h=>nobE h
 | .and _ _,X,c,tgt,x,ok,h=>nobE h
 | .or _ _,X,c,tgt,x,ok,h=>nobE h
 | .ite _ _ _,X,c,tgt,x,ok,h=>nobE h
 | .tup _,X,c,tgt,x,ok,h=>nobE h
 | .lst _,X,c,tgt,x,ok,h=>nobE h
 | .dic _ _ _,X,c,tgt,x,ok,h=>nobE h
 | .sub _ _,X,c,tgt,x,ok,h=>nobE h
 | .slc _ _ _,X,c,tgt,x,ok,h=>nobE h
 | .bi _ _,X,c,tgt,x,ok,h=>nobE h
 | .mth _ _ _,X,c,tgt,x,ok,h=>nobE h
 | .call _ _,X,c,tgt,x,ok,h=>nobE h
 | .callk _ _ _,X,c,tgt,x,ok,h=>nobE h
 | .callv _ _,X,c,tgt,x,ok,h=>nobE h
 | .lam _ _ _,X,c,tgt,x,ok,h=>nobE h
 | .cvl _ _,X,c,tgt,x,ok,h=>nobE h
 | .comp _ _ _ _ _,X,c,tgt,x,ok,h=>nobE h
 | .box _,X,c,tgt,x,ok,h=>nobE h
 | .one _,X,c,tgt,x,ok,h=>nobE h
 | .flip _,X,c,tgt,x,ok,h=>nobE h
 | .dk1 _ _,X,c,tgt,x,ok,h=>nobE h
 | .att _ _ _,X,c,tgt,x,ok,h=>nobE h
 | .met _ _ _ _,X,c,tgt,x,ok,h=>nobE h
 | .mk _ _ _,X,c,tgt,x,ok,h=>nobE h
 | .zip a b,X,c,tgt,x,ok,h=>nobE h
 | .dwn es,X,c,tgt,x,ok,h=>nobE h
 | .rev hi,X,c,tgt,x,ok,h=>nobE h
 | .items e,X,c,tgt,x,ok,h=>nobE h
theorem sFs (hcf:CfN B (cx noX)) (hm:Mono (cx noX)):∀ (es:List E) (X:Cx) (c:Cc) (xs:List Expr),XOk Γ B (spN Γ cx) k X c->jB B c es xs=true->es.length<=1->PTs X xs (TXf Γ (cx noX) es)
 | [],X,c,xs,ok,h,_=>by
  cases xs with
  | nil=>exact s_fn
  | cons _ _=>exact nobE h
 | [e],X,c,xs,ok,h,_=>by
  cases xs with
  | nil=>exact nobE h
  | cons x xs=>
   have h:(chkE B c e x&&jB B c [] xs)=true:=h;rw [ε] at h;cases xs with
   | nil=>exact s_f1 (sA hcf hm e X c x ok h.1).2.1
   | cons _ _=>cases (show false=true from h.2)
 | _::_::_,X,c,xs,ok,h,hl=>by exfalso;simp at hl
theorem sO (hcf:CfN B (cx noX)) (hm:Mono (cx noX)):∀ (o:Option E) (X:Cx) (c:Cc) (x:Option Expr),XOk Γ B (spN Γ cx) k X c->chkO B c o x=true->PO X x (TXo Γ (cx noX) o)
 | none,X,c,x,ok,h=>by
  cases x with
  | none=>exact zio
  | some _=>exact nobE h
 | some o,X,c,x,ok,h=>by
  cases x with
  | none=>exact nobE h
  | some x=>exact s_po (sA hcf hm o X c x ok h).1
end
theorem sCS (hcf:CfN B (cx noX)) (hm:Mono (cx noX)) {t:T}{js:List Nat}{it:E}{ifs:List E}{elt:E}{X:Cx}{c:Cc}{x:Expr}(ok:XOk Γ B (spN Γ cx) k X c) (h:chkE B c (.comp t js it ifs elt) x=true):CSet X x (TX Γ (cx noX) (.comp t js it ifs elt)):=by
 have hb:Ν x.ctorIdx 8=true:=by revert h;cases x <;> first | exact non | exact fun _=>rfl
 revert h;apply Zr hb;clear hb;intro y gens sc pos h
 match gens,h with
 | [⟨tgt,iter,cs,kk⟩],h=>exact (Wf (sI hcf hm it) (sFs hcf hm ifs) (fun X c x ok q=>(sA hcf hm elt X c x ok q).1) ok h).2
 | [],h=>exact nobE h
 | ⟨_,_,_,_⟩::⟨_,_,_,_⟩::_,h=>exact nobE h
end
section
variable {X:Cx}{Γ:Gm}{Hz H:Hp}{gz g:G}{ρ:List Slot}{σ:L2.St}{S:Store}{x:Expr}{a:Addr}
theorem EnvO.za1 {i:Nat}{c c':D}{o':HO}(env:EnvO Γ Hz H g ρ σ) (hi:ρ[i]?=some (.ow c)) (ha:σ[i]?=some (some (.ref a))) (hc:z9 Γ (upd H a o') g a c') (hin:yF c'=false):EnvO Γ Hz (upd H a o') g (ρ.set i (.ow c')) σ:=by
 obtain ⟨a',e1,e2,e3,e4,e5,e6⟩:=env.ow i c hi;rw [ha] at e1;cases e1;refine ⟨by rw [ϭ];exact env.len,fun j e q=>?_,fun j e q=>?_,fun j j' e e' b q1 q2 q3 q4=>?_⟩
 ·rcases zz q with ⟨rfl,h1,h2⟩ | ⟨h1,h2⟩
  ·cases h2
  ·exact env.sh j e h2
 ·rcases zz q with ⟨rfl,h1,h2⟩ | ⟨h1,h2⟩
  ·cases h2;exact ⟨a,ha,e2,e3,e4,hc,hin⟩
  ·obtain ⟨b,f1,f2,f3,f4,f5,f6⟩:=env.ow j e h2;have hb:b≠a:=by rintro rfl;exact h1 (env.inj i j c e b hi h2 ha f1)
   exact ⟨b,f1,f2,f3,f4,f5.mono (Le.refl g) fun o z=>by rw [zc hb];exact z,f6⟩
 ·have ow:∀ {j:Nat}{e:D},(ρ.set i (Slot.ow c'))[j]?=some (.ow e)->∃ e,ρ[j]?=some (.ow e):=fun {j e} q=>by
   rcases zz q with ⟨rfl,h1,h2⟩ | ⟨h1,h2⟩
   ·exact ⟨c,hi⟩
   ·exact ⟨e,h2⟩
  obtain ⟨_,w1⟩:=ow q1;obtain ⟨_,w2⟩:=ow q2;exact env.inj j j' _ _ b w1 w2 q3 q4
theorem EnvO.zcR {o':HO}(env:EnvO Γ Hz H g ρ σ) (ha:a∈g.α):EnvO Γ Hz (upd H a o') g ρ σ:=by
 refine ⟨env.len,env.sh,fun i d h=>?_,env.inj⟩;obtain ⟨b,f1,f2,f3,f4,f5,f6⟩:=env.ow i d h;have hb:b≠a:=by rintro rfl;exact f4 ha
 exact ⟨b,f1,f2,f3,f4,f5.mono (Le.refl g) fun o z=>by rw [zc hb];exact z,f6⟩
theorem Step.jW {H':Hp}{g':G}{o':HO}(s:Step H g H' g') (ha:a∈g'.α):Step H g (upd H' a o') g' where
 le:=s.le
 fr:=fun b u e n=>by
  have hb:b≠a:=by
   rintro rfl;rcases s.na b ha with q | q
   ·exact n q
   ·rw [e] at q;cases q
  rw [zc hb];exact s.fr b u e n
 ex:=fun b u e=>by
  by_cases hb:b=a
  ·subst hb;exact ⟨o',zm⟩
  ·rw [zc hb];exact s.ex b u e
 na:=s.na
 nr:=s.nr
theorem WOk.jW {o':HO}{n:Nat}{c c':D}(w:WOk Γ H g S) (he:S[n]?=some c) (hg:gone c=false) (hn:g.α[n]?=some a) (hc:z9 Γ (upd H a o') g a c'):WOk Γ (upd H a o') g (S.set n c') where
 rh:=fun b u q=>by
  have hb:b≠a:=by rintro rfl;rw [w.off n c b he hn hg] at q;cases q
  rw [zc hb];exact w.rh b u q
 len:=by rw [ϭ];exact w.len
 nd:=w.nd
 off:=fun k d b h1 h2 h3=>by
  rcases zz h1 with ⟨rfl,z1,rfl⟩ | ⟨z1,z2⟩
  ·rw [hn] at h2;cases h2;exact w.off _ c _ he hn hg
  ·exact w.off k d b z2 h2 h3
 cell:=fun k c b h1 h2=>by
  rcases zz h1 with ⟨rfl,z1,rfl⟩ | ⟨z1,z2⟩
  ·rw [hn] at h2;cases h2;exact hc
  ·have hb:b≠a:=by rintro rfl;exact z1 ((nodup_inj w.nd hn h2))
   exact (w.cell k c b z2 h2).mono (Le.refl g) fun o z=>by rw [zc hb];exact z
where
 nodup_inj:∀ {l:List Addr}{i j:Nat}{b:Addr},l.Nodup->l[i]?=some b->l[j]?=some b->i=j:=fun {l i j b} nd h1 h2=>by
  have hi:=(υ.mp h1).1;have hj:=(υ.mp h2).1;have e:l[i]?=l[j]?:=by rw [h1,h2]
  exact (nD hi nd).mp e
theorem size_of {n:Nat}(h:fits (n+1)=true):n < sizeLine:=by have:=xJ h;lia
theorem zat {env:Env}{cpos:Pos}(hs:notStar x=true):((dB cpos (ϧ [x] env)).all (fun x=>!x.1)&&(backToKw cpos (gB [] env)).all (fun x=>x.1.isSome)
  &&decide (([x]:List Expr).length+([]:List cW).length+(if ([]:List cW).isEmpty then 0 else 1) < 30))=true:=by rw [zj hs];rfl
end
section
variable {κ:Type} [DecidableEq κ]
theorem UT {α:Type}:∀ (ks:List κ) (ds:List α) (k:κ) (d:α),(mapK ks ds k d).length=ds.length
 | [],ds,_,_=>by cases ds <;> rfl
 | _::_,[],_,_=>rfl
 | a::ks,b::ds,k,d=>by simp [mapK,UT ks ds k d]
theorem Kq:∀ (ks:List κ) (vs:List V) (k:κ),ks.length=vs.length->((ks.zip vs).any fun kv=>decide (kv.1=k))=hasK ks k
 | [],[],_,_=>rfl
 | a::ks,v::vs,k,h=>by have:=Kq ks vs k (by simpa using h);unfold hasK at this ⊢;simp only [bc,dq,this]
 | [],_::_,_,h=>by simp at h
 | _::_,[],_,h=>by simp at h
theorem Kp:∀ (ks:List κ) (vs:List V) (k:κ) (v:V),(ks.zip vs).map (fun kv=>if kv.1=k then (kv.1,v) else kv)=ks.zip (mapK ks vs k v)
 | [],vs,_,_=>by cases vs <;> rfl
 | _::_,[],_,_=>rfl
 | a::ks,u::vs,k,v=>by
  have:=Kp ks vs k v;simp only [bc,ϐ,this,mapK];by_cases h:a=k
  ·simp [h]
  ·simp [h]
theorem Uv {ks:List κ}{vs:List V}{k:κ}{v:V}(h:ks.length=vs.length):putK (ks.zip vs) k v=(yz ks vs k v).1.zip (yz ks vs k v).2:=by
 unfold putK yz;rw [Kq ks vs k h];by_cases q:hasK ks k=true
 ·rw [if_pos q,if_pos q,Kp]
 ·rw [if_neg q,if_neg q];simp [List.zip_append h]
theorem Xl {α:Type}{ks:List κ}{ds:List α}{k:κ}{d:α}(h:ks.length=ds.length):(yz ks ds k d).1.length=(yz ks ds k d).2.length:=by
 unfold yz;split
 ·simp [UT,h]
 ·simp [h]
theorem X3 {Γ:Gm}{g:G}:∀ {ks:List κ}{ds:List D}{vs:List V}{k:κ}{d:D}{v:V},Hass Γ g ds vs->Has Γ g d v->Hass Γ g (mapK ks ds k d) (mapK ks vs k v)
 | [],ds,vs,_,_,_,h,_=>by
  have e1:mapK ([]:List κ) ds=fun _ _=>ds:=by funext a b;cases ds <;> rfl
  have e2:mapK ([]:List κ) vs=fun _ _=>vs:=by funext a b;cases vs <;> rfl
  rw [e1,e2];exact h
 | _::_,[],vs,_,_,_,h,_=>by cases (show vs=[] from h);exact rfl
 | a::ks,b::ds,_,k,d,v,⟨u,r,e,h1,h2⟩,hd=>by
  subst e;refine ⟨if a=k then v else u,mapK ks r k v,rfl,?_,X3 h2 hd⟩;split
  ·exact hd
  ·exact h1
theorem Zz {Γ:Gm}{g:G}{ks:List κ}{ds:List D}{vs:List V}{k:κ}{d:D}{v:V}(h:Hass Γ g ds vs) (hd:Has Γ g d v):Hass Γ g (yz ks ds k d).2 (yz ks vs k v).2:=by
 unfold yz;split
 ·exact X3 h hd
 ·exact h.app (Hass.mk1 hd)
theorem Zq {α β:Type}{ks:List κ}{ds:List α}{es:List β}{k:κ}{d:α}{e:β}:(yz ks ds k d).1=(yz ks es k e).1:=by unfold yz;split <;> rfl
end
def zf0:TSet:=fun o i v H Q=>zf1 o i v H Q\/∃ a H',o=.ref a/\DPut H a i v H'/\Q H'
theorem K8 {X:Cx}(hu:X.A.units+1 < ϵ):PSet X zf0:=by
 intro pj s σ H o i v ov iv u Q I r1 r2 r3 h;rcases h with h | ⟨a,H',rfl,hp,q⟩
 ·exact set_list pj s σ H o i v ov iv u Q I r1 r2 r3 h
 ·cases r1;exact zay hu I hp r2 r3 fun s' I'=>⟨H',I',q⟩
set_option tactic.hygienic true in
theorem Uu {Γ:Gm}{H:Hp}{g:G}{a:Addr}{c c' kd d:D}{vk vd:V}(h:putD c kd d=some c') (hc:z9 Γ H g a c) (sm:Same g.R H) (hk:Has Γ g kd vk) (hd:Has Γ g d vd):
    ∃ o',(∀ Q:Hp->Prop,Q (upd H a o')->zf0 (.ref a) vk vd H Q)/\z9 Γ (upd H a o') g a c'/\yF c'=false:=by
  cases c with
  | lst l=>
   cases kd with
   | int i=>
    have h:(idx l.length i).map (fun k=>D.lst (l.set k d))=some c':=h;cases e:idx l.length i with
    | none=>rw [e] at h;cases h
    | some j=>
      rw [e] at h;cases h;obtain ⟨vs,h1,h2⟩:=hc;cases (show vk=.int i from hk);refine ⟨.lst (vs.set j vd),fun Q q=>.inl ⟨a,vs,i,j,rfl,rfl,h1,by rw [h2.len];exact e,q⟩,⟨_,zm,h2.set j hd⟩,rfl⟩
   | _=>cases h
  | dK ks ds=>
    have h:(keyD kd).bind (fun k=>if fits (ks.length+1) then some (let p:=yz ks ds k d;D.dK p.1 p.2) else none)=some c':=by cases kd <;> exact h
    cases e:keyD kd with
    | none=>rw [e] at h;cases h
    | some k=>
      rw [e] at h;have h:(if fits (ks.length+1)=true then some (D.dK (yz ks ds k d).1 (yz ks ds k d).2) else none)=some c':=h;split at h
      · rename_i hf
        cases h;obtain ⟨vs,h1,h2,h3⟩:=hc;have ek:=U5 e hk;subst ek;have el:ks.length=vs.length:=by rw [h3.len];exact h2
        refine ⟨.dK ((yz ks vs k vd).1.zip (yz ks vs k vd).2),fun Q q=>.inr ⟨a,_,rfl,DPut.k h1 (by rw [fJ];have:=size_of hf;lia),?_⟩,⟨_,?_,Xl h2,Zz h3 hd⟩,rfl⟩
        · rw [Uv el];exact q
        · rw [zm,Zq (ds:=ds) (es:=vs) (d:=d) (e:=vd)]
      · cases h
  | dT ks ds=>
   cases kd with
   | tup t=>
    have h:(Ye t).bind (fun k=>if fits (ks.length+1) then some (let p:=yz ks ds k d;D.dT p.1 p.2) else none)=some c':=h;cases e:Ye t with
    | none=>rw [e] at h;cases h
    | some k=>
      rw [e] at h;have h:(if fits (ks.length+1)=true then some (D.dT (yz ks ds k d).1 (yz ks ds k d).2) else none)=some c':=h;split at h
      · rename_i hf
        cases h;obtain ⟨vs,h1,h2,h3⟩:=hc;obtain ⟨b,us,rfl,h4,h5⟩:=hk;have ek:=jP e h5;subst ek;have el:ks.length=vs.length:=by rw [h3.len];exact h2
        refine ⟨.dT ((yz ks vs k vd).1.zip (yz ks vs k vd).2),fun Q q=>.inr ⟨a,_,rfl,DPut.t h1 (sm _ _ h4) (by rw [fJ];have:=size_of hf;lia),?_⟩,⟨_,?_,Xl h2,Zz h3 hd⟩,rfl⟩
        · rw [Uv el];exact q
        · rw [zm,Zq (ds:=ds) (es:=vs) (d:=d) (e:=vd)]
      · cases h
   | _=>cases h
  | _=>cases h
structure EN (Γ:Gm) (Hz:Hp) (gz g:G) (E:Ends) (K:Ko):Prop where
 nx:∀ ρ σ H g' S,Step Hz gz H g'->Le g g'->WOk Γ H g' S->EnvO Γ Hz H g' ρ σ->K (.next ρ) S->E.nx σ H
 bk:∀ ρ σ H g' S,Step Hz gz H g'->Le g g'->WOk Γ H g' S->EnvO Γ Hz H g' ρ σ->K (.brk ρ) S->E.bk σ H
 ct:∀ ρ σ H g' S,Step Hz gz H g'->Le g g'->WOk Γ H g' S->EnvO Γ Hz H g' ρ σ->K (.cnt ρ) S->E.ct σ H
 rt:∀ d fr v H g' S,Step Hz gz H g'->Le g g'->WOk Γ H g' S->VOk Γ Hz d fr v H g'->K (.ret d fr) S->E.rt v H
theorem EN.le {Γ:Gm}{Hz:Hp}{gz g g1:G}{E:Ends}{K:Ko}(n:EN Γ Hz gz g E K) (le:Le g g1):EN Γ Hz gz g1 E K:=
 ⟨fun ρ σ H g' S st l=>n.nx ρ σ H g' S st (le.trans l),fun ρ σ H g' S st l=>n.bk ρ σ H g' S st (le.trans l),fun ρ σ H g' S st l=>n.ct ρ σ H g' S st (le.trans l),fun d fr v H g' S st l=>n.rt d fr v H g' S st (le.trans l)⟩
def TK (Γ:Gm) (Hz:Hp) (gz:G) (W:List Slot->Ko->Store->Prop):TS:=fun E σ H=>∃ ρ S K g,W ρ K S/\Step Hz gz H g/\WOk Γ H g S/\EnvO Γ Hz H g ρ σ/\EN Γ Hz gz g E K
theorem goK {Γ:Gm}{Hz:Hp}{gz:G}{W:List Slot->Ko->Store->Prop}{E:Ends}{σ:L2.St}{H:Hp}{P:Prop}(h:TK Γ Hz gz W E σ H) (f:∀ ρ S K g,W ρ K S->Step Hz gz H g->WOk Γ H g S->EnvO Γ Hz H g ρ σ->EN Γ Hz gz g E K->P):P:=
 let ⟨ρ,S,K,g,a,b,c,d,e⟩:=h;f ρ S K g a b c d e
abbrev TC (Γ:Gm) (cx:Xp->Cf) (ex:Xp) (w:Nat) (Hz:Hp) (gz:G) (c:C):TS:=TK Γ Hz gz (wpC cx ex w c)
abbrev TCs (Γ:Gm) (cx:Xp->Cf) (ex:Xp) (w:Nat) (Hz:Hp) (gz:G) (cs:List C):TS:=TK Γ Hz gz (wpCs cx ex w cs)
section
variable {X:Cx}{Γ:Gm}{cx:Xp->Cf}{ex:Xp}{w:Nat}{Hz:Hp}{gz:G}{st:Stmt}{sts aa bb:List Stmt}{x y z tgt o:Expr}{pos p spos:Pos}{e a b:E}{s:C}{ss A B:List C}
theorem Zh {i:Expr}(h:∀ lo hi st p,i≠.Slice lo hi st p) (v:δ) (env:Env):eE (.Subscript o i pos) env v=(do
   let ov <- fX [v] (eval o env)
   let iv <- fX [v,ov] (eval i env)
   standAt pos
   fX [v,ov,iv] (setItem ov iv v)
   release [v,ov,iv] []):=by cases i <;> first | rfl | exact absurd rfl (h _ _ _ _)
theorem zfK:PS X (.Pass pos) (TC Γ cx ex w Hz gz .pass):=zdu.imp fun E σ H h0=>goK h0 fun ρ S K g hw st wk env n=>n.nx ρ σ H g S st (Le.refl g) wk env hw
theorem ziG:PS X (.Break pos) (TC Γ cx ex w Hz gz .brk):=zbh.imp fun E σ H h0=>goK h0 fun ρ S K g hw st wk env n=>n.bk ρ σ H g S st (Le.refl g) wk env hw
theorem ziD:PS X (.Continue pos) (TC Γ cx ex w Hz gz .cnt):=Vc.imp fun E σ H h0=>goK h0 fun ρ S K g hw st wk env n=>n.ct ρ σ H g S st (Le.refl g) wk env hw
theorem zfD:PSs X [] (TCs Γ cx ex w Hz gz []):=zds.imp fun E σ H h0=>goK h0 fun ρ S K g hw st wk env n=>n.nx ρ σ H g S st (Le.refl g) wk env hw
theorem zc8 (h1:PS X st (TC Γ cx ex w Hz gz s)) (h2:PSs X sts (TCs Γ cx ex w Hz gz ss)):PSs X (st::sts) (TCs Γ cx ex w Hz gz (s::ss)):=
 (zbf h1 h2).imp fun E σ H h0=>goK h0 fun ρ S K g hw st wk env n=>⟨ρ,S,_,g,hw,st,wk,env,fun ρ' σ' H' g' S' st' le w' env' q=>⟨ρ',S',K,g',q,st',w',env',n.le le⟩,n.bk,n.ct,n.rt⟩
theorem zem {H:Hp}{g:G}{ρ:List Slot}{σ:L2.St}{S:Store}{i:Nat}(st:Step Hz gz H g) (wk:WOk Γ H g S) (env:EnvO Γ Hz H g ρ σ):∃ g',Step Hz gz H g'/\Le g g'/\WOk Γ H g' S/\EnvO Γ Hz H g' (ρ.set i (fz ((ρ[i]?).getD .no))) σ:=by
 have same:∀ s,ρ[i]?=some s->ρ.set i s=ρ:=fun s h=>by
  apply dX;intro j;by_cases hj:i=j
  ·subst hj;rw [ϩ (υ.mp h).1,h]
  ·rw [Ι hj]
 cases e:ρ[i]? with
 | none=>
  refine ⟨g,st,Le.refl g,wk,?_⟩;rw [lR (List.getElem?_eq_none_iff.mp e)];exact env
 | some s=>
  cases s with
  | no=>exact ⟨g,st,Le.refl g,wk,by rw [show fz ((some Slot.no).getD .no)=.no from rfl,same _ e];exact env⟩
  | sh d=>exact ⟨g,st,Le.refl g,wk,by rw [show fz ((some (Slot.sh d)).getD .no)=.sh d from rfl,same _ e];exact env⟩
  | ow d=>
   obtain ⟨a,h1,h2,h3,h4,h5,h6⟩:=env.ow i d e;obtain ⟨ob,ho,_⟩:=h5.J6;have le:Le g (g.put a ob):=Le.put h3;refine ⟨g.put a ob,st.put h3 h2,le,wk.put ho h3 h4,by simp [env.len],fun j d' q=>?_,fun j d' q=>?_,fun j j' d1 d2 b q1 q2 q3 q4=>?_⟩
   ·rcases zz q with ⟨rfl,_,z⟩ | ⟨_,z⟩
    ·cases z;exact ⟨.ref a,h1,ZC h3 ho h5⟩
    ·obtain ⟨v,f1,f2⟩:=env.sh j d' z;exact ⟨v,f1,f2.mono le⟩
   ·rcases zz q with ⟨rfl,_,z⟩ | ⟨hne,z⟩
    ·cases z
    ·obtain ⟨b,f1,f2,f3,f4,f5,f6⟩:=env.ow j d' z;have hb:b≠a:=by rintro rfl;exact hne (env.inj i j d d' b e z h1 f1)
     exact ⟨b,f1,f2,by show upd g.R a ob b=none;rw [zc hb];exact f3,f4,f5.mono le fun _ z=>z,f6⟩
   ·rcases zz q1 with ⟨_,_,z⟩ | ⟨_,z1⟩
    ·cases z
    rcases zz q2 with ⟨_,_,z⟩ | ⟨_,z2⟩
    ·cases z
    exact env.inj j j' d1 d2 b z1 z2 q3 q4
theorem zbd {c kd d c':D}(h:putD c kd d=some c'):gone c=false:=by cases c <;> first | rfl | cases h
theorem zen {H:Hp}{g:G}{ρ:List Slot}{σ:L2.St}{S:Store}{i k:Nat}{l:List D}(st:Step Hz gz H g) (wk:WOk Γ H g S) (env:EnvO Γ Hz H g ρ σ) (hi:ρ[i]?=some (.sh (.ref k))) (hk:S[k]?=some (.lst l)):
  ∃ g',Step Hz gz H g'/\Le g g'/\WOk Γ H g' (S.set k (.ref k))/\EnvO Γ Hz H g' (ρ.set i (.sh (.lst l))) σ:=by
 obtain ⟨v,h1,a,ha,e⟩:=env.sh i _ hi;subst e;have hn:g.R a=none:=wk.off k _ a hk ha rfl;obtain ⟨vs,ho,hv⟩:=wk.cell k _ a hk ha;have le:Le g (g.put a (.lst vs)):=Le.put hn;have hr:(g.put a (.lst vs)).R a=some (.lst vs):=zm;refine ⟨g.put a (.lst vs),⟨st.le.trans le,st.fr,st.ex,st.na,fun b q=>?_⟩,le,⟨fun b u q=>?_,by rw [ϭ];exact wk.len,wk.nd,fun j c b q1 q2 q3=>?_,fun j c b q1 q2=>?_⟩,by simp [env.len],fun j d' q=>?_,fun j d' q=>?_,fun j j' d1 d2 b q1 q2 q3 q4=>?_⟩
 ·by_cases hb:b=a
  ·subst hb;rcases st.na b (Ξ ha) with z | z
   ·exact .inr (.inr (.inl z))
   ·exact .inr (.inl z)
  ·have q':upd g.R a (.lst vs) b≠none:=q;rw [zc hb] at q';exact st.nr b q'
 ·have q':upd g.R a (.lst vs) b=some u:=q;by_cases hb:b=a
  ·subst hb;rw [zm] at q';cases q';exact ho
  ·rw [zc hb] at q';exact wk.rh b u q'
 ·rcases zz q1 with ⟨rfl,_,z⟩ | ⟨hne,z⟩
  ·rw [z] at q3;cases q3
  ·show upd g.R a (.lst vs) b=none
   have hb:b≠a:=by rintro rfl;exact hne (WOk.jW.nodup_inj wk.nd ha q2)
   rw [zc hb];exact wk.off j c b z q2 q3
 ·rcases zz q1 with ⟨rfl,_,z⟩ | ⟨hne,z⟩
  ·have q2:g.α[k]?=some b:=q2;rw [ha] at q2;cases q2;rw [z];exact ⟨_,hr,ho,ϱ⟩
  ·exact (wk.cell j c b z q2).mono le fun _ z=>z
 ·rcases zz q with ⟨rfl,_,z⟩ | ⟨_,z⟩
  ·cases z;exact ⟨.ref a,h1,a,vs,rfl,hr,hv.mono le⟩
  ·obtain ⟨v,f1,f2⟩:=env.sh j d' z;exact ⟨v,f1,f2.mono le⟩
 ·rcases zz q with ⟨rfl,_,z⟩ | ⟨hne,z⟩
  ·cases z
  ·obtain ⟨b,f1,f2,f3,f4,f5,f6⟩:=env.ow j d' z;have hb:b≠a:=by rintro rfl;exact f4 (Ξ ha)
   exact ⟨b,f1,f2,by show upd g.R a (.lst vs) b=none;rw [zc hb];exact f3,f4,f5.mono le fun _ z=>z,f6⟩
 ·rcases zz q1 with ⟨_,_,z⟩ | ⟨_,z1⟩
  ·cases z
  rcases zz q2 with ⟨_,_,z⟩ | ⟨_,z2⟩
  ·cases z
  exact env.inj j j' d1 d2 b z1 z2 q3 q4
theorem ziy {i:Nat}(h2:PSs X sts (TCs Γ cx ex w Hz gz ss)):PSs X sts (TCs Γ cx ex w Hz gz (.frr i::ss)):=
 h2.imp fun E σ H h0=>goK h0 fun ρ S K g hw st wk env n=>by obtain ⟨k,l,e1,e2,hw⟩:=zcC hw;obtain ⟨g',st',le,w',env'⟩:=zen st wk env e1 e2;exact ⟨_,_,K,g',hw,st',w',env',n.le le⟩
theorem zix {i:Nat}(h2:PSs X sts (TCs Γ cx ex w Hz gz ss)):PSs X sts (TCs Γ cx ex w Hz gz (.frz i::ss)):=
 h2.imp fun E σ H h0=>goK h0 fun ρ S K g hw st wk env n=>by obtain ⟨g',st',le,w',env'⟩:=zem (i:=i) st wk env;exact ⟨_,S,K,g',hw,st',w',env',n.le le⟩
theorem ziz {i:Nat}(h2:PSs X sts (TCs Γ cx ex w Hz gz ss)):PSs X sts (TCs Γ cx ex w Hz gz (.frk i::ss)):=by
 intro pj s σ H E I h0;refine goK h0 fun ρ S K g hw st wk env n=>?_
 obtain ⟨ks,ds,e,hw⟩:=zcj hw;obtain ⟨a,h1,h2',h3,h4,⟨vs,hH,hlen,hv⟩,h6⟩:=env.ow i _ e;have hob:=(show yo X.prog X.w H s.heap a (.dT (ks.zip vs)) from I.hok a _ hH)
 obtain ⟨_,_,_,_,o,_,_,g1,_⟩:=id hob;have I4:=Yx (a:=a) (h':=s.heap) (t':=s.toks) (ob:=.frz o (.dT (ks.zip vs))) I (by rw [hH];exact ϱ) (lK a _) ⟨o,g1⟩
  ⟨g1,hob.stay (fun b u _ e=>e) (fun b e=>by
   have hb:b≠a:=by rintro rfl;rw [hH] at e;cases e
   rw [zc hb];exact e) fun b ys e=>by
   have hb:b≠a:=by rintro rfl;rw [hH] at e;cases e
   rw [zc hb];exact e⟩
 have le:Le g (g.put a (.frz o (.dT (ks.zip vs)))):=Le.put h3;refine h2 pj s σ _ E I4 ⟨_,S,K,g.put a (.frz o (.dT (ks.zip vs))),hw,(st.z6 h2').put h3 h2',(wk.z6 h3 h4).put zm h3 h4,⟨by simp [env.len],fun j d' q=>?_,fun j d' q=>?_,fun j j' d1 d2 b q1 q2 q3 q4=>?_⟩,n.le le⟩
 ·rcases zz q with ⟨rfl,_,z⟩ | ⟨_,z⟩
  ·cases z;exact ⟨.ref a,h1,a,vs,o,rfl,zm,hlen,hv.mono le⟩
  ·obtain ⟨v,f1,f2⟩:=env.sh j d' z;exact ⟨v,f1,f2.mono le⟩
 ·rcases zz q with ⟨rfl,_,z⟩ | ⟨hne,z⟩
  ·cases z
  ·obtain ⟨b,f1,f2,f3,f4,f5,f6⟩:=env.ow j d' z;have hb:b≠a:=by rintro rfl;exact hne (env.inj i j _ d' b e z h1 f1)
   exact ⟨b,f1,f2,by show upd g.R a _ b=none;rw [zc hb];exact f3,f4,f5.mono le fun _ z=>by rw [zc hb];exact z,f6⟩
 ·rcases zz q1 with ⟨_,_,z⟩ | ⟨_,z1⟩
  ·cases z
  rcases zz q2 with ⟨_,_,z⟩ | ⟨_,z2⟩
  ·cases z
  exact env.inj j j' d1 d2 b z1 z2 q3 q4
theorem zfP (h:PE X x (TX Γ (cx noX) e)) (hs:fM x none pos.line X.env=pure false):PS X (.Expr x pos) (TC Γ cx ex w Hz gz (.expr e)):=
 (Vb h hs).imp fun E σ H h0=>goK h0 fun ρ S K g hw st wk env n=>⟨ρ,S,_,g,Hz,hw,wk,env,fun x v H1 g1 S1 s1 w1 vx q=>n.nx ρ σ H1 g1 S1 (st.trans s1) s1.le w1 (zr env s1) q⟩
theorem zin (hn:∀ i,e≠.var i) (h:PE X x (TX Γ (cx noX) e)):PS X (.Return (some x) pos) (TC Γ cx ex w Hz gz (.ret e)):=
 (zcf h).imp fun E σ H h0=>goK h0 fun ρ S K g hw st wk env n=>by
  have hw:wpE (cx noX) ρ e (fun x S1=>retV x fun o=>K o S1) S:=by cases e <;> first | exact absurd rfl (hn _) | exact hw
  refine ⟨ρ,S,_,g,Hz,hw,wk,env,fun x v H1 g1 S1 s1 w1 vx q=>?_⟩;obtain ⟨d,k⟩:=x;cases k with
  | st=>exact n.rt d false v H1 g1 S1 (st.trans s1) s1.le w1 vx q
  | fr=>exact n.rt d true v H1 g1 S1 (st.trans s1) s1.le w1 (vx.back st) q
  | bo=>exact q.elim
theorem zfH {i:Nat}{n:Str}(hN:X.N[i]?=some n) (hv:Vis X.env.scope n) (hd:(n==("__debug__":Str))=false) (hcd:(n==("__classdict__":Str))=false):PS X (.Return (some (.Name n p)) pos) (TC Γ cx ex w Hz gz (.ret (.var i))):=
 (zcf (Xo hN hv hd hcd)).imp fun E σ H h0=>goK h0 fun ρ S K g hw st wk env n=>by
  have hw:sel ρ[i]? (fun d=>K (.ret d false) S) (fun d=>K (.ret d true) S):=hw;cases e:ρ[i]? with
  | none=>rw [e] at hw;exact hw.elim
  | some s=>
   rw [e] at hw;cases s with
   | no=>exact hw.elim
   | sh d=>
    obtain ⟨v,h1,h2⟩:=env.sh i d e;exact ⟨v,h1,n.rt d false v H g S st (Le.refl g) wk h2 hw⟩
   | ow d=>
    obtain ⟨a,h1,h2,h3,h4,h5,h6⟩:=env.ow i d e;exact ⟨.ref a,h1,n.rt d true _ H g S st (Le.refl g) wk ⟨a,rfl,h2,h3,h4,h5⟩ hw⟩
theorem zfI:PS X (.Return none pos) (TC Γ cx ex w Hz gz .retN):=zdt.imp fun E σ H h0=>goK h0 fun ρ S K g hw st wk env n=>n.rt .non false .non H g S st (Le.refl g) wk rfl hw
theorem s_if (h:PT X x (TB Γ (cx noX) e)) (ha:PSs X aa (TCs Γ cx ex w Hz gz A)) (hb:PSs X bb (TCs Γ cx ex w Hz gz B)):PS X (.If x aa bb pos) (TC Γ cx ex w Hz gz (.ite e A B)):=
 (ziU h ha hb).imp fun E σ H h0=>goK h0 fun ρ S K g hw st wk env n=>⟨ρ,S,_,g,Hz,hw,wk,env,fun x H1 g1 S1 s1 w1 h=>by
  obtain ⟨r,e,q⟩:=uH h;rw [e];show (if r=true then _ else _)
  cases r with
  | true=>exact iteT ⟨ρ,S1,K,g1,q,st.trans s1,w1,zr env s1,n.le s1.le⟩
  | false=>exact iteF ⟨ρ,S1,K,g1,q,st.trans s1,w1,zr env s1,n.le s1.le⟩⟩
theorem fresh_ne {H:Hp}{g:G}{ρ:List Slot}{σ:L2.St}{v:V}{d:D}{H1:Hp}{g1:G}(env:EnvO Γ Hz H g ρ σ) (vx:VN Γ H (d,.fr) v H1 g1):∀ (i:Nat) (d:D),ρ[i]?=some (.ow d)->σ[i]?≠some (some v):=fun i d' hi e=>by obtain ⟨a,rfl,h0,_⟩:=vx;obtain ⟨b,f1,_,_,_,f5,_⟩:=env.ow i d' hi;rw [f1] at e;cases e;obtain ⟨o,ho,_⟩:=f5.J6;rw [h0] at ho;cases ho
theorem K7 {H H1:Hp}{g g1:G}{ρ ρ2:List Slot}{σ:L2.St}{S1:Store}{t:T}{x:Vl}{v:V}{E:Ends}{K:Ko}(st:Step Hz gz H g) (env:EnvO Γ Hz H g ρ σ) (n:EN Γ Hz gz g E K) (s1:Step H g H1 g1) (w1:WOk Γ H1 g1 S1) (vx:VN Γ H x v H1 g1) (hb:Kf ρ t x=some ρ2) (q:K (.next ρ2) S1):tgOf X.K t v σ H1 fun σ' H'=>E.nx σ' H':=by
 have env1:=zr env s1;obtain ⟨d,k⟩:=x;cases k with
 | st=>exact Z2 (fr:=false) hb env1 w1.rh vx (fun h=>by cases h) fun σ' env'=>n.nx _ σ' H1 g1 S1 (st.trans s1) s1.le w1 env' q
 | fr=>exact Z2 (fr:=true) hb env1 w1.rh (vx.back st) (fun _=>fresh_ne env vx) fun σ' env'=>n.nx _ σ' H1 g1 S1 (st.trans s1) s1.le w1 env' q
 | bo=>cases hb
noncomputable def zdT:E->Bool
 | .box _=>false
 | _=>true
theorem zb8 {ρ:List Slot}{t:T}{K:Ko}{S:Store}(hn:zdT e=true) (hw:wpC cx ex w (.set t e) ρ K S):wpE (cx noX) ρ e (fun x S1=>opt (Kf ρ t x) fun ρ2=>K (.next ρ2) S1) S:=by cases e <;> first | exact hw | cases hn
theorem zil {t:T}(hn:zdT e=true) (h:PE X x (TX Γ (cx noX) e)) (hg:PG X tgt (tgOf X.K t)) (hs:cj [tgt] x pos.line X.env=pure false) (hw:bJ [tgt] x X.env=pure none) (ha:(aN [tgt] X.env).map (·.2)=[eE tgt X.env]):PS X (.Assign [tgt] x pos) (TC Γ cx ex w Hz gz (.set t e)):=
 (Uw h hg hs hw ha).imp fun E σ H h0=>goK h0 fun ρ S K g hw st wk env n=>⟨ρ,S,_,g,Hz,zb8 hn hw,wk,env,fun x v H1 g1 S1 s1 w1 vx q=>by
  obtain ⟨ρ2,hb,q⟩:=yc q
  exact K7 (X:=X) st env n s1 w1 vx hb q⟩
theorem zfF {t:T}(h:PE X x (TX Γ (cx noX) e)) (hg:PG X tgt (tgOf X.K t)) (hs:cj [tgt] x pos.line X.env=pure false) (hw:bJ [tgt] x X.env=pure none) (ha:(aN [tgt] X.env).map (·.2)=[eE tgt X.env]):PS X (.Assign [tgt] x pos) (TC Γ cx ex w Hz gz (.set t (.box e))):=
 (Uw h hg hs hw ha).imp fun E σ H h0=>goK h0 fun ρ S K g hw st wk env n=>⟨ρ,S,_,g,Hz,hw,wk,env,fun x v H1 g1 S1 s1 w1 vx q=>by
  obtain ⟨d,k⟩:=x;cases k with
  | fr=>
   obtain ⟨ρ2,hb,q⟩:=yc q;obtain ⟨g2,s2,w2,h2⟩:=zhO s1 w1 vx;exact K7 (X:=X) (x:=(.ref S1.length,.st)) st env n s2 w2 h2 hb q
  | _=>exact q.elim⟩
theorem zfE {t:T}{js:List Nat}{it elt:E}{ifs:List E}{i:Nat}{n:Str}{np:Pos}(h:CSet X x (TX Γ (cx noX) (.comp t js it ifs elt))) (hp:PG X (.Name n np) (X5 i)) (hsw:fM x (some (.Name n np)) pos.line X.env=pure true):PS X (.Assign [.Name n np] x pos) (TC Γ cx ex w Hz gz (.set (.one i) (.comp t js it ifs elt))):=
 (h n np pos i hp hsw).imp fun E σ H h0=>goK h0 fun ρ S K g hw st wk env n=>⟨ρ,S,_,g,Hz,zb8 rfl hw,wk,env,fun x v H1 g1 S1 s1 w1 vx q=>by
  obtain ⟨ρ2,hb,q⟩:=yc q
  exact K7 (X:=X) (t:=.one i) st env n s1 w1 vx hb q⟩
theorem zc7 (ht:PT X x (TB Γ (cx noX) e)) (hb:PSs X aa (TCs Γ cx ex w Hz gz A)) (hp:gY (ώ X.prog X.w) X.A X.env X.xe):PS X (.While x aa [] pos) (TC Γ cx ex w Hz gz (.whl e A)):=
 (zbg hp ht hb).imp fun E σ H h0=>goK h0 fun ρ S K g hw st wk env n=>by
  have hw:whlW (fun ρ=>wpE (cx noX) ρ e) (fun ρ=>wpCs cx ex w A ρ) w ρ K S:=hw;refine ⟨fun m σ H=>∃ ρ S g1,whlW (fun ρ=>wpE (cx noX) ρ e) (fun ρ=>wpCs cx ex w A ρ) m ρ K S/\Step Hz gz H g1/\Le g g1/\WOk Γ H g1 S/\EnvO Γ Hz H g1 ρ σ,⟨w,ρ,S,g,hw,st,Le.refl g,wk,env⟩,?_⟩;rintro m σ H ⟨ρ,S,g1,hw,st,le,wk,env⟩;cases m with
  | zero=>exact hw.elim
  | succ m=>
   refine ⟨ρ,S,_,g1,Hz,hw,wk,env,fun x H2 g2 S2 s2 w2 h=>?_⟩;obtain ⟨r,e,q⟩:=uH h;rw [e];show (if r=true then _ else _)
   cases r with
   | false=>exact iteF (n.nx ρ σ H2 g2 S2 (st.trans s2) (le.trans s2.le) w2 (zr env s2) q)
   | true=>
    refine iteT ⟨fun σ' H'=>∃ ρ S g1,whlW (fun ρ=>wpE (cx noX) ρ _) (fun ρ=>wpCs cx ex w A ρ) m ρ K S/\Step Hz gz H' g1/\Le g g1/\WOk Γ H' g1 S/\EnvO Γ Hz H' g1 ρ σ',fun σ' H' q=>⟨m,eX m,q⟩,ρ,S2,_,g2,q,st.trans s2,w2,zr env s2,?_⟩;have l2:=le.trans s2.le;exact ⟨fun ρ' σ' H' g' S' st' l w' env' q=>⟨ρ',S',g',q,st',l2.trans l,w',env'⟩,fun ρ' σ' H' g' S' st' l w' env' q=>n.nx ρ' σ' H' g' S' st' (l2.trans l) w' env' q,fun ρ' σ' H' g' S' st' l w' env' q=>⟨ρ',S',g',q,st',l2.trans l,w',env'⟩,fun d fr v H' g' S' st' l w' vo q=>n.rt d fr v H' g' S' st' (l2.trans l) w' vo q⟩
theorem ziA {t:T}{it:E}(hi:PI X tgt x (TXi Γ (cx noX) it)) (hg:PG X tgt (tgOf X.K t)) (hb:PSs X aa (TCs Γ cx ex w Hz gz A)) (hp:gY (ώ X.prog X.w) X.A X.env X.xe) (hc:X.calm=true) (hs:∀ v,bF x X.env v=pure v):PS X (.For tgt x aa [] pos) (TC Γ cx ex w Hz gz (.forr t it A)):=
 (zf8 hp hc hi hg hb hs).imp fun E σ H h0=>goK h0 fun ρ S K g hw st wk env n=>⟨ρ,S,_,g,Hz,hw,wk,env,fun l J H1 g1 S1 s1 w1 hJ h1=>by
  refine ⟨fun i m σ H=>m=l.length - i/\i<=l.length/\∃ ρ S g2,forW t (fun ρ=>wpCs cx ex w A ρ) (l.drop i) ρ K S/\Step Hz gz H g2/\Le g1 g2/\WOk Γ H g2 S/\EnvO Γ Hz H g2 ρ σ,⟨_,rfl,cT _,ρ,S1,g1,h1,st.trans s1,Le.refl g1,w1,zr env s1⟩,?_⟩;rintro i m σ H ⟨rfl,hi,ρ,S,g2,hw,st2,le,wk,env⟩;by_cases hlt:i < l.length
  ·refine .inr ⟨hJ.go i H g2 le wk.rh hlt,fun σ' H'=>∃ ρ S g3,forW t (fun ρ=>wpCs cx ex w A ρ) (l.drop (i+1)) ρ K S/\Step Hz gz H' g3/\Le g1 g3/\WOk Γ H' g3 S/\EnvO Γ Hz H' g3 ρ σ',fun σ' H' q=>⟨l.length - (i+1),by omega,rfl,hlt,q⟩,fun z H3 hy=>?_⟩;obtain ⟨g3,st3,_,w3,hz⟩:=hJ.yld i H g2 S z H3 l[i] le wk (ψ hlt) hy;rw [lJ hlt] at hw;obtain ⟨ρ',es,hw⟩:=yc (show opt (xn ρ t (l[i],false)) _ from hw);have l3:=le.trans st3.le;have l4:=s1.le.trans l3;refine Z2 (fr:=false) es (zr env st3) w3.rh hz (fun h=>by cases h) fun σ3 env3=>⟨ρ',S,_,g3,hw,st2.trans st3,w3,env3,?_⟩
   exact ⟨fun ρ' σ' H' g' S' st' l w' env' q=>⟨ρ',S',g',q,st',l3.trans l,w',env'⟩,fun ρ' σ' H' g' S' st' l w' env' q=>n.nx ρ' σ' H' g' S' st' (l4.trans l) w' env' q,fun ρ' σ' H' g' S' st' l w' env' q=>⟨ρ',S',g',q,st',l3.trans l,w',env'⟩,fun d fr v H' g' S' st' l w' vo q=>n.rt d fr v H' g' S' st' (l4.trans l) w' vo q⟩
  ·have e:i=l.length:=by omega
   subst e;rw [List.drop_length] at hw
   exact .inl ⟨hJ.stop _ H g2 le wk.rh (Ζ _),n.nx ρ σ H g2 S st2 (s1.le.trans le) wk env hw⟩⟩
theorem zck {s:Option Slot}{Q:List D->Prop}(h:owL s Q):∃ l,s=some (.ow (.lst l))/\Q l:=by
 cases s with
 | none=>exact h.elim
 | some s=>
  cases s with
  | ow d=>
   cases d with
   | lst l=>exact ⟨l,rfl,h⟩
   | _=>exact h.elim
  | _=>exact h.elim
theorem zgn {s:Option Slot}{Q:D->Prop}(h:owD s Q):∃ l,s=some (.ow l)/\Q l:=by
 cases s with
 | none=>exact h.elim
 | some s=>
  cases s with
  | ow d=>exact ⟨d,rfl,h⟩
  | _=>exact h.elim
theorem zhk {s:D}{Q:Nat->Prop}(h:isR s Q):∃ n,s=.ref n/\Q n:=by
 cases s with
 | ref n=>exact ⟨n,rfl,h⟩
 | _=>exact h.elim
section
variable {i:Nat}{n:Str}{apos cpos:Pos}
theorem ziI (hN:X.N[i]?=some n) (hv:Vis X.env.scope n) (hd:(n==("__debug__":Str))=false) (hcd:(n==("__classdict__":Str))=false) (hx:PE X x (TX Γ (cx noX) e)) (hs:notStar x=true) (hl:(apos.endLine==cpos.line)=true):
  PS X (.Expr (.Call (.Attribute (.Name n p) "append" apos) [x] [] cpos) pos) (TC Γ cx ex w Hz gz (.app i e)):=
 (Vb (zdD dR PySem.F.slot_list_append PySem.F.type_list_append Xy (Xo hN hv hd hcd) (wU hx qg (zj hs _ _)) rfl (zat hs) hl (zj hs _ _) rfl)).imp fun E σ H h0=>goK h0 fun ρ S K g hw st wk env n=>by obtain ⟨l,eo,hw⟩:=zck hw;obtain ⟨a,h1,h2,h3,h4,h5,h6⟩:=env.ow i _ eo;obtain ⟨vs,h7,h8⟩:=h5;refine ⟨.ref a,h1,.inl ⟨rfl,vs,SqL.of h7⟩,ρ,S,_,g,Hz,hw,wk,env,fun x v H1 g1 S1 s1 w1 vx q=>?_⟩;obtain ⟨g2,s2,w2,hx,q⟩:=vx.keep s1 w1 q;obtain ⟨hf,q⟩:=uq q;have env2:=zr env s2;obtain ⟨k1,k2,k3⟩:=s2.kept h7 h3 h4;refine ⟨a,vs,v,rfl,rfl,k1,by rw [h8.len];exact size_of hf,n.nx _ σ _ g2 S1 ((st.trans s2).z6 h2) s2.le (w2.z6 k2 k3) (env2.za1 (c':=.lst (l++[x.1])) eo h1 ⟨vs++[v],zm,(h8.mono s2.le).app (Hass.mk1 hx)⟩ rfl) q⟩
theorem ziB (hN:X.N[i]?=some n) (hv:Vis X.env.scope n) (hd:(n==("__debug__":Str))=false) (hcd:(n==("__classdict__":Str))=false) (hx:PE X x (TX Γ (cx noX) e)) (hs:notStar x=true) (hl:(apos.endLine==cpos.line)=true):
  PS X (.Expr (.Call (.Attribute (.Name n p) "extend" apos) [x] [] cpos) pos) (TC Γ cx ex w Hz gz (.ext i e)):=
 (Vb (zdD dR PySem.F.slot_list_extend PySem.F.type_list_extend zd0 (Xo hN hv hd hcd) (wU hx qg (zj hs _ _)) rfl (zat hs) hl (zj hs _ _) rfl)).imp fun E σ H h0=>goK h0 fun ρ S K g hw st wk env n=>by
  obtain ⟨l,eo,hw⟩:=zck hw;obtain ⟨a,h1,h2,h3,h4,h5,h6⟩:=env.ow i _ eo;obtain ⟨vs,h7,h8⟩:=h5;refine ⟨.ref a,h1,.inl ⟨rfl,vs,SqL.of h7⟩,ρ,S,_,g,Hz,hw,wk,env,fun x v H1 g1 S1 s1 w1 vx q0=>?_⟩;obtain ⟨g2,s2,w2,hx,q1⟩:=vx.keep s1 w1 q0;obtain ⟨m,em,q2⟩:=yc q1;obtain ⟨hf,q⟩:=uq q2;clear q0 q1 q2;have env2:=zr env s2;obtain ⟨k1,k2,k3⟩:=s2.kept h7 h3 h4;generalize x.1=d at *;cases d with
  | lst m'=>
   cases em;obtain ⟨b,zs,rfl,hb1,hb2⟩:=hx;exact ⟨a,b,vs,zs,rfl,rfl,k1,.inl (w2.rh _ _ hb1),by rw [h8.len,hb2.len];exact xJ hf,n.nx _ σ _ g2 S1 ((st.trans s2).z6 h2) s2.le (w2.z6 k2 k3) (env2.za1 (c':=.lst (l++m)) eo h1 ⟨vs++zs,zm,(h8.mono s2.le).app hb2⟩ rfl) q⟩
  | tup m'=>
   cases em;obtain ⟨b,zs,rfl,hb1,hb2⟩:=hx;exact ⟨a,b,vs,zs,rfl,rfl,k1,.inr (SqT.of (w2.rh _ _ hb1)),by rw [h8.len,hb2.len];exact xJ hf,n.nx _ σ _ g2 S1 ((st.trans s2).z6 h2) s2.le (w2.z6 k2 k3) (env2.za1 (c':=.lst (l++m)) eo h1 ⟨vs++zs,zm,(h8.mono s2.le).app hb2⟩ rfl) q⟩
  | _=>cases em
theorem zig {ix:Expr}{ke ve:E}(hu:X.A.units+1 < ϵ) (hN:X.N[i]?=some n) (hv:Vis X.env.scope n) (hd:(n==("__debug__":Str))=false) (hcd:(n==("__classdict__":Str))=false) (hx:PE X x (TX Γ (cx noX) ve)) (hi:PE X ix (TX Γ (cx noX) ke)) (hns:∀ lo hi st p,ix≠.Slice lo hi st p)
  (hs:cj [.Subscript (.Name n p) ix pos] x spos.line X.env=pure false) (hw:bJ [.Subscript (.Name n p) ix pos] x X.env=pure none) (ha:(aN [.Subscript (.Name n p) ix pos] X.env).map (·.2)=[eE (.Subscript (.Name n p) ix pos) X.env]):
  PS X (.Assign [.Subscript (.Name n p) ix pos] x spos) (TC Γ cx ex w Hz gz (.stv i ke ve)):=
 (Uw hx (zcg (Xo hN hv hd hcd) hi (K8 hu) (fun v=>Zh hns v X.env)) hs hw ha).imp fun E σ H h0=>goK h0 fun ρ S K g hw st wk env n=>by obtain ⟨c,eo,hw⟩:=zgn hw;obtain ⟨a,h1,h2,h3,h4,h5,h6⟩:=env.ow i _ eo;refine ⟨ρ,S,_,g,Hz,hw,wk,env,fun x v H1 g1 S1 s1 w1 vx q=>?_⟩;obtain ⟨g2,s2,w2,hx,q⟩:=vx.keep s1 w1 q;refine ⟨.ref a,h1,ρ,S1,_,g2,Hz,q,w2,zr env s2,fun y u H3 g3 S3 s3 w3 vy q=>?_⟩;obtain ⟨g4,s4,w4,hy,q⟩:=vy.keep s3 w3 q;obtain ⟨c',ep,q⟩:=yc q;have s5:=s2.trans s4;have env4:=zr env s5;obtain ⟨a',f1,f2,f3,f4,f5,f6⟩:=env4.ow i _ eo;rw [h1] at f1;cases f1;obtain ⟨o',b1,b2,b3⟩:=Uu ep f5 w4.rh hy (hx.mono s4.le);exact b1 _ (n.nx _ σ _ g4 S3 ((st.trans s5).z6 h2) s5.le (w4.z6 f3 f4) (env4.za1 eo h1 b2 b3) q)
theorem zih {ix:Expr}{oe ke ve:E}(hu:X.A.units+1 < ϵ) (hx:PE X x (TX Γ (cx noX) ve)) (ho:PE X o (TX Γ (cx noX) oe)) (hi:PE X ix (TX Γ (cx noX) ke)) (hns:∀ lo hi st p,ix≠.Slice lo hi st p)
  (hs:cj [.Subscript o ix pos] x spos.line X.env=pure false) (hw:bJ [.Subscript o ix pos] x X.env=pure none) (ha:(aN [.Subscript o ix pos] X.env).map (·.2)=[eE (.Subscript o ix pos) X.env]):
  PS X (.Assign [.Subscript o ix pos] x spos) (TC Γ cx ex w Hz gz (.sti oe ke ve)):=
 (Uw hx (zcg ho hi (K8 hu) (fun v=>Zh hns v X.env)) hs hw ha).imp fun E σ H h0=>goK h0 fun ρ S K g hw st wk env n=>by refine ⟨ρ,S,_,g,Hz,hw,wk,env,fun x v H1 g1 S1 s1 w1 vx q=>?_⟩;obtain ⟨g2,s2,w2,hx,q⟩:=vx.keep s1 w1 q;refine ⟨ρ,S1,_,g2,Hz,q,w2,zr env s2,fun z t H3 g3 S3 s3 w3 vz q=>?_⟩;obtain ⟨g4,s4,w4,hz,q⟩:=vz.keep s3 w3 q;refine ⟨ρ,S3,_,g4,Hz,q,w4,zr env (s2.trans s4),fun y u H5 g5 S5 s5 w5 vy q=>?_⟩;obtain ⟨g6,s6,w6,hy,q⟩:=vy.keep s5 w5 q;obtain ⟨m,er,q⟩:=zhk q;obtain ⟨c,eo,q⟩:=yc q;obtain ⟨c',ep,q⟩:=yc q;rw [er] at hz;obtain ⟨a,ha2,rfl⟩:=hz.mono s6.le;obtain ⟨o',b1,b2,b3⟩:=Uu ep (w6.cell m c a eo ha2) w6.rh hy (hx.mono (s4.le.trans s6.le));have hm:=Ξ ha2;have s7:=(s2.trans s4).trans s6;exact b1 _ (n.nx _ σ _ g6 _ ((st.trans s7).jW hm) s7.le (w6.jW eo (zbd ep) ha2 b2) ((zr env s7).zcR hm) q)
end
end
section
variable {Γ:Gm}{Hz H:Hp}{g:G}{ρ ρ':List Slot}{σ:L2.St}
theorem EnvO.put {j:Nat}{d:D}{v:V}(env:EnvO Γ Hz H g ρ σ) (hv:Has Γ g d v):EnvO Γ Hz H g (ρ.set j (.sh d)) (σ.set j (some v)):=by
 refine ⟨by rw [ϭ,ϭ];exact env.len,fun i e q=>?_,fun i e q=>?_,fun i i' e e' b q1 q2 q3 q4=>?_⟩
 ·rcases zz q with ⟨rfl,h1,h2⟩ | ⟨h1,h2⟩
  ·cases h2;exact ⟨v,ϩ (by rw [<- env.len];exact h1),hv⟩
  ·obtain ⟨u,e1,e2⟩:=env.sh i e h2;exact ⟨u,by rw [Ι h1];exact e1,e2⟩
 ·rcases zz q with ⟨rfl,h1,h2⟩ | ⟨h1,h2⟩
  ·cases h2
  ·obtain ⟨a,e1,e2⟩:=env.ow i e h2;exact ⟨a,by rw [Ι h1];exact e1,e2⟩
 ·have ne:∀ {i:Nat}{e:D},(ρ.set j (Slot.sh d))[i]?=some (.ow e)->j≠i/\ρ[i]?=some (.ow e):=fun {i e} q=>by
   rcases zz q with ⟨rfl,h1,h2⟩ | ⟨h1,h2⟩
   ·cases h2
   ·exact ⟨h1,h2⟩
  obtain ⟨n1,w1⟩:=ne q1;obtain ⟨n2,w2⟩:=ne q2;rw [Ι n1] at q3;rw [Ι n2] at q4;exact env.inj i i' e e' b w1 w2 q3 q4
theorem EnvO.no {j:Nat}{v:Option V}(env:EnvO Γ Hz H g ρ σ):EnvO Γ Hz H g (ρ.set j .no) (σ.set j v):=by
 have ne:∀ {i:Nat}{s:Slot},(ρ.set j Slot.no)[i]?=some s->s≠.no->j≠i/\ρ[i]?=some s:=fun {i s} q hs=>by
  rcases zz q with ⟨rfl,h1,h2⟩ | ⟨h1,h2⟩
  ·exact absurd h2.symm (fun z=>hs z.symm)
  ·exact ⟨h1,h2⟩
 refine ⟨by rw [ϭ,ϭ];exact env.len,fun i e q=>?_,fun i e q=>?_,fun i i' e e' b q1 q2 q3 q4=>?_⟩
 ·obtain ⟨n,w⟩:=ne q nofun;rw [Ι n];exact env.sh i e w
 ·obtain ⟨n,w⟩:=ne q nofun;rw [Ι n];exact env.ow i e w
 ·obtain ⟨n1,w1⟩:=ne q1 nofun;obtain ⟨n2,w2⟩:=ne q2 nofun;rw [Ι n1] at q3;rw [Ι n2] at q4;exact env.inj i i' e e' b w1 w2 q3 q4
end
section
variable {Γ:Gm}{B:Tb}{sp:Nat->Nat->Sp}{k:Nat}{X:Cx}{c:Cc}{i cn:Nat}{ea C:Addr}{oe:Obj}
end
section
variable {Γ:Gm}{B:Tb}{cx:Xp->Cf}{ex:Xp}{k w:Nat}{X:Cx}{c:Cc}{Hz:Hp}{gz:G}{i ce f:Nat}{tb:List (List Nat)}{hs:List (Nat×HB)}{es:List E}
theorem WOk.same {H H':Hp}{g:G}{S:Store}(w:WOk Γ H g S) (s:Same H H'):WOk Γ H' g S:=⟨w.rh.trans s,w.len,w.nd,w.off,fun k c a h1 h2=>(w.cell k c a h1 h2).mono (Le.refl g) fun o e=>s a o e⟩
def Xw (Γ:Gm) (ex:Xp) (H1:Hp) (g1:G):XK:=fun _ C H'=>∃ c C0 g2 S2,C=some C0/\Γ.ca c=some C0/\Step H1 g1 H' g2/\WOk Γ H' g2 S2/\ex c S2
end
noncomputable def Vh:Expr->Bool
 | .ListComp _ _ _ _=>false
 | .SetComp _ _ _ _=>false
 | .DictComp _ _ _ _ _=>false
 | _=>true
noncomputable def Yo:E->Bool
 | .comp _ _ _ _ _=>true
 | _=>false
noncomputable def ql:Expr->Bool
 | .Tuple _ _ _=>false
 | _=>true
noncomputable def ZR (c:Cc) (n:Str) (np:Pos):Expr->Bool
 | .ListComp _ _ sc p=>c.names.lookup n==some .local&&np.line==p.line&&!(sc.names.any fun (m,k)=>m==n&&(k==.local||k==.cell))
 | _=>false
noncomputable def chkN (c:Cc) (i:Nat) (n:Str):Bool:=c.N[i]?==some n&&visK (c.names.lookup n)&&yu n
structure Meth where
 o:Expr
 m:Str
 ap:Pos
 x:Expr
 cp:Pos
noncomputable def zaU:Expr->Option Meth
 | .Call f args kws cp=>if uG kws=true then (V5 f).bind fun q=>(sole args).map fun x=>⟨q.1,q.2.1,q.2.2,x,cp⟩ else none
 | _=>none
set_option tactic.hygienic true in
theorem zaT {x:Expr}{q:Meth}(h:zaU x=some q):x=.Call (.Attribute q.o q.m q.ap) [q.x] [] q.cp:=by
 cases x with
 | Call f args kws cp=>
  have h:(if uG kws=true then (V5 f).bind fun q=>(sole args).map fun x=>(⟨q.1,q.2.1,q.2.2,x,cp⟩:Meth) else none)=some q:=h;split at h
  ·rename_i hn
   cases e1:V5 f with
   | none=>rw [e1] at h;cases h
   | some z=>
    rw [e1] at h;cases e2:sole args with
    | none=>rw [e2] at h;cases h
    | some y=>
     rw [e2] at h;cases h;rw [jT hn,Js e1,W7 e2]
  ·cases h
 | _=>cases h
noncomputable def jb (B:Tb) (c:Cc) (name:Str) (i:Nat) (e:E) (x:Expr):Bool:=match zaU x with
  | some q=>(match asName q.o with
    | some r=>chkN c i r.1&&q.m==name&&chkE B c e q.x&&notStar q.x&&q.ap.endLine==q.cp.line
    | none=>false)
  | none=>false
theorem ZG {B:Tb}{c:Cc}{name:Str}{i:Nat}{e:E}{x:Expr}(h:jb B c name i e x=true):∃ n np ap y cp,x=.Call (.Attribute (.Name n np) name ap) [y] [] cp/\chkN c i n=true/\chkE B c e y=true/\notStar y=true/\(ap.endLine==cp.line)=true:=by
  unfold jb at h;cases e1:zaU x with
  | none=>rw [e1] at h;cases h
  | some q=>
    rw [e1] at h
    have h:(match asName q.o with
      | some r=>chkN c i r.1&&q.m==name&&chkE B c e q.x&&notStar q.x&&q.ap.endLine==q.cp.line
      | none=>false)=true:=h
    cases e2:asName q.o with
    | none=>rw [e2] at h;cases h
    | some r=>
      rw [e2] at h;have h:(chkN c i r.1&&q.m==name&&chkE B c e q.x&&notStar q.x&&q.ap.endLine==q.cp.line)=true:=h;simp only [ε] at h;obtain ⟨⟨⟨⟨h1,h2⟩,h3⟩,h4⟩,h5⟩:=h;refine ⟨r.1,r.2,q.ap,q.x,q.cp,?_,h1,h3,h4,h5⟩;rw [zaT e1,qX e2,eq_of_beq h2]
mutual
noncomputable def chkC (B:Tb) (c:Cc):C->Stmt->Bool
  | .set t e,.Assign ts x _=>(match sole ts with
    | some tg=>chkE B c e x&&chkT c t tg&&(match asName tg with
      | some q=>!ZR c q.1 q.2 x||Yo e
      | none=>XR tg&&ql x)
    | none=>false)
  | .expr e,.Expr x _=>chkE B c e x&&Vh x
  | .ret e,.Return v _=>(match v with
    | some x=>chkE B c e x
    | none=>false)
  | .retN,.Return v _=>v.isNone
  | .ite e a b,.If x aa bb _=>chkE B c e x&&uc B c a aa&&uc B c b bb
  | .whl e b,.While x bb r _=>chkE B c e x&&uc B c b bb&&uG r
  | .forr t it b,.For tgt x bb r _=>chkI B c it tgt x&&chkT c t tgt&&vJ x&&uc B c b bb&&uG r
  | .app i e,.Expr x _=>jb B c "append" i e x
  | .ext i e,.Expr x _=>jb B c "extend" i e x
  | .stv i k v,.Assign ts x _=>(match (sole ts).bind WP with
    | some q=>(match asName q.1 with
      | some r=>chkN c i r.1&&chkE B c k q.2.1&&chkE B c v x
      | none=>false)
    | none=>false)
  | .sti o k v,.Assign ts x _=>(match (sole ts).bind WP with
    | some q=>chkE B c o q.1&&chkE B c k q.2.1&&chkE B c v x
    | none=>false)
  | .pass,.Pass _=>true
  | .brk,.Break _=>true
  | .cnt,.Continue _=>true
  | _,_=>false
noncomputable def uc (B:Tb) (c:Cc):List C->List Stmt->Bool
 | .frz _::ss,xs=>uc B c ss xs
 | .frr _::ss,xs=>uc B c ss xs
 | .frk _::ss,xs=>uc B c ss xs
 | [],[]=>true
 | s::ss,x::xs=>chkC B c s x&&uc B c ss xs
 | _,_=>false
end
structure XSt (Γ:Gm) (B:Tb) (cx:Xp->Cf) (ex:Xp) (Hz:Hp) (gz:G) (k:Nat) (X:Cx) (c:Cc):Prop where
 ok:XOk Γ B (spN Γ cx) k X c
 own:gY (ώ X.prog X.w) X.A X.env X.xe
 hcf:∀ ex,CfN B (cx ex)
 hm:WQ cx
 sk:X.stack=X.env::X.outer
 fr:X.env.frame=some X.env.locals
 xr:∀ pj σ H s g S c C h' ea args,Inv X pj σ H s->Step Hz gz H g->WOk Γ H g S->ex c S->Γ.ca c=some C->Heap.MadeExcOf s.heap h' ea (.ref C) args->X.xe (.ref ea) { s with heap:=h' }
 xp:∀ pj σ H1 s1 g1 e s',Inv X pj σ H1 s1->Step Hz gz H1 g1->CX1 X.prog X.w X.stack H1 s1 (Xw Γ ex H1 g1) e s'->X.xe e s'
section
variable {Γ:Gm}{B:Tb}{cx:Xp->Cf}{ex:Xp}{k w:Nat}{X:Cx}{c:Cc}{Hz:Hp}{gz:G}{x:Expr}{e:E}{n:Str}{pos np:Pos}{i:Nat}
theorem XSt.pe (ok:XSt Γ B cx ex Hz gz k X c) (h:chkE B c e x=true):PE X x (TX Γ (cx noX) e):=(sA (ok.hcf noX) ok.hm.no e X c x ok.ok h).1
theorem XSt.pt (ok:XSt Γ B cx ex Hz gz k X c) (h:chkE B c e x=true):PT X x (TB Γ (cx noX) e):=(sA (ok.hcf noX) ok.hm.no e X c x ok.ok h).2.1
theorem noSl {y:Expr}(h:chkE B c e y=true):∀ lo hi st p,y≠.Slice lo hi st p:=fun lo hi st p q=>by subst q;exact QD e h
theorem Xx (h:Vh x=true) (t:Option Expr) (l:Nat) (env:Env):fM x t l env=pure false:=by cases x <;> first | rfl | cases h
theorem Uk (x o y:Expr) (p:Pos) (l:Nat) (env:Env):cj [.Subscript o y p] x l env=pure false:=by cases x <;> rfl
theorem za4 (x:Expr) (es:List Expr) (kk:Nat) (p:Pos) (l:Nat) (env:Env):cj [.Tuple es kk p] x l env=pure false:=by cases x <;> rfl
theorem Zi (x o y:Expr) (p:Pos) (env:Env):bJ [.Subscript o y p] x env=pure none:=by cases x <;> rfl
theorem W6 (x:Expr) (n:Str) (p:Pos) (env:Env):bJ [.Name n p] x env=pure none:=by cases x <;> rfl
theorem JB (h:ql x=true) (es:List Expr) (kk:Nat) (p:Pos) (env:Env):bJ [.Tuple es kk p] x env=pure none:=by cases x <;> first | rfl | cases h
theorem noSC {y:Expr}{g:List Comprehension}{sc:aH}{p:Pos}(e:E) (h:chkE B c e (.SetComp y g sc p)=true):False:=by
 cases e with
 | box e=>exact nobE h
 | _=>exact nobE h
theorem noDC {y z:Expr}{g:List Comprehension}{sc:aH}{p:Pos}(e:E) (h:chkE B c e (.DictComp y z g sc p)=true):False:=by
 cases e with
 | box e=>exact nobE h
 | _=>exact nobE h
theorem KZ (ok:XOk Γ B (spN Γ cx) k X c) (hx:chkE B c e x=true) (l:Nat):fM x (some (.Name n np)) l X.env=pure (ZR c n np x):=by
 have hk:X.env.kindOf n=c.names.lookup n:=by unfold lL;rw [ok.nm]
 have hb:X.env.blockKind=.function:=by unfold Env.blockKind;rw [ok.kd];rfl
 cases x with
 | ListComp y g sc p=>
  show pure (X.env.blockKind==.function&&X.env.kindOf n==some .local&&np.line==p.line&&!(sc.names.any fun (m,k)=>m==n&&(k==.local||k==.cell)))=(pure (c.names.lookup n==some .local&&np.line==p.line&&!(sc.names.any fun (m,k)=>m==n&&(k==.local||k==.cell))):Sem Bool)
  rw [hb,hk];rfl
 | SetComp y g sc p=>exact (noSC e hx).elim
 | DictComp y g a sc p=>exact (noDC e hx).elim
 | _=>rfl
theorem zca (ok:XSt Γ B cx ex Hz gz k X c) {t:T}{tgt:Expr}(h1:chkE B c e x=true) (hpg:PG X tgt (tgOf X.K t)) (hs:cj [tgt] x pos.line X.env=pure false) (hw:bJ [tgt] x X.env=pure none) (ha:(aN [tgt] X.env).map (·.2)=[eE tgt X.env]):PS X (.Assign [tgt] x pos) (TC Γ cx ex w Hz gz (.set t e)):=by
 cases hn:zdT e with
 | true=>exact zil hn (ok.pe h1) hpg hs hw ha
 | false=>
  cases e with
  | box e=>exact zfF (ok.pe (e:=e) (ε _ _ ▸ (show (Qn x&&chkE B c e x)=true from h1)).2) hpg hs hw ha
  | _=>cases hn
theorem zfT (ok:XSt Γ B cx ex Hz gz k X c) {t:T}{ts:List Expr}(h:chkC B c (.set t e) (.Assign ts x pos)=true):PS X (.Assign ts x pos) (TC Γ cx ex w Hz gz (.set t e)):=by
  have h:(match sole ts with
    | some tg=>chkE B c e x&&chkT c t tg&&(match asName tg with
      | some q=>!ZR c q.1 q.2 x||Yo e
      | none=>XR tg&&ql x)
    | none=>false)=true:=h
  cases e1:sole ts with
  | none=>rw [e1] at h;cases h
  | some tg=>
    rw [e1] at h;have et:=W7 e1;subst et
    have h:(chkE B c e x&&chkT c t tg&&(match asName tg with
      | some q=>!ZR c q.1 q.2 x||Yo e
      | none=>XR tg&&ql x))=true:=h
    rw [ε,ε] at h;obtain ⟨⟨h1,h2⟩,h3⟩:=h;have hpg:=Zf ok.ok h2;cases e2:asName tg with
    | some q=>
      rw [e2] at h3;have et:=qX e2;obtain ⟨n,np⟩:=q;subst et;have h3:(!ZR c n np x||Yo e)=true:=h3;have hsw:=KZ (n:=n) (np:=np) ok.ok h1 pos.line;cases ha:ZR c n np x with
      | false=>
        rw [ha] at hsw;exact zca ok h1 hpg hsw (W6 x n np X.env) rfl
      | true=>
        rw [ha] at h3 hsw;cases e with
        | comp t' js it ifs elt=>
          cases t with
          | one i=>exact zfE (sCS (ok.hcf noX) ok.hm.no ok.ok h1) hpg hsw
          | tup is=>exact nobE h2
          | nst _ _=>exact nobE h2
        | _=>cases h3
    | none=>
      rw [e2] at h3;have h3:(XR tg&&ql x)=true:=h3;rw [ε] at h3;cases tg with
      | Tuple es kk p=>exact zca ok h1 hpg (za4 x es kk p pos.line X.env) (JB h3.2 es kk p X.env) rfl
      | _=>cases h3.1
theorem s_rt (ok:XSt Γ B cx ex Hz gz k X c) (h:chkE B c e x=true):PS X (.Return (some x) pos) (TC Γ cx ex w Hz gz (.ret e)):=by
 by_cases hv:∃ i,e=.var i
 ·obtain ⟨i,rfl⟩:=hv;have hb:Ν x.ctorIdx 23=true:=by revert h;cases x <;> first | exact non | exact fun _=>rfl
  revert h;apply jj hb;clear hb;intro n p h;have h:(c.N[i]?==some n&&visK (c.names.lookup n)&&yu n)=true:=h;simp only [ε] at h;obtain ⟨q1,q2,_⟩:=yf h.2;exact zfH (by rw [ok.ok.N];exact eq_of_beq h.1.1) (ok.ok.vis h.1.2) q1 q2
 ·exact zin (fun i q=>hv ⟨i,q⟩) (ok.pe h)
theorem Jq {ts:List Expr}{q:Expr×Expr×Pos}(h:(sole ts).bind WP=some q):ts=[.Subscript q.1 q.2.1 q.2.2]:=by
 cases e1:sole ts with
 | none=>rw [e1] at h;cases h
 | some tg=>
  rw [e1] at h;rw [W7 e1,zb3 h]
theorem zij (ok:XSt Γ B cx ex Hz gz k X c) {kx v:E}{ts:List Expr}(h:chkC B c (.stv i kx v) (.Assign ts x pos)=true):PS X (.Assign ts x pos) (TC Γ cx ex w Hz gz (.stv i kx v)):=by
  have h:(match (sole ts).bind WP with
    | some q=>(match asName q.1 with
      | some r=>chkN c i r.1&&chkE B c kx q.2.1&&chkE B c v x
      | none=>false)
    | none=>false)=true:=h
  cases e2:(sole ts).bind WP with
  | none=>rw [e2] at h;cases h
  | some q=>
    rw [e2] at h;have et:=Jq e2;subst et;obtain ⟨o,y,sp⟩:=q
    have h:(match asName o with
      | some r=>chkN c i r.1&&chkE B c kx y&&chkE B c v x
      | none=>false)=true:=h
    cases e3:asName o with
    | none=>rw [e3] at h;cases h
    | some r=>
      rw [e3] at h;have et:=qX e3;subst et;obtain ⟨n,np⟩:=r;have h:(chkN c i n&&chkE B c kx y&&chkE B c v x)=true:=h;unfold chkN at h;simp only [ε] at h;obtain ⟨⟨h1,h2⟩,h3⟩:=h;obtain ⟨q1,q2,_⟩:=yf h1.2;exact zig ok.ok.u1 (by rw [ok.ok.N];exact eq_of_beq h1.1.1) (ok.ok.vis h1.1.2) q1 q2 (ok.pe h3) (ok.pe h2) (noSl h2) (Uk x _ y sp pos.line X.env) (Zi x _ y sp X.env) rfl
theorem zii (ok:XSt Γ B cx ex Hz gz k X c) {o kx v:E}{ts:List Expr}(h:chkC B c (.sti o kx v) (.Assign ts x pos)=true):PS X (.Assign ts x pos) (TC Γ cx ex w Hz gz (.sti o kx v)):=by
  have h:(match (sole ts).bind WP with
    | some q=>chkE B c o q.1&&chkE B c kx q.2.1&&chkE B c v x
    | none=>false)=true:=h
  cases e2:(sole ts).bind WP with
  | none=>rw [e2] at h;cases h
  | some q=>
    rw [e2] at h;have et:=Jq e2;subst et;obtain ⟨z,y,sp⟩:=q;have h:(chkE B c o z&&chkE B c kx y&&chkE B c v x)=true:=h;simp only [ε] at h;obtain ⟨⟨h1,h2⟩,h3⟩:=h;exact zih ok.ok.u1 (ok.pe h3) (ok.pe h1) (ok.pe h2) (noSl h2) (Uk x z y sp pos.line X.env) (Zi x z y sp X.env) rfl
mutual
theorem sC (ok:XSt Γ B cx ex Hz gz k X c):∀ (s:C) (st:Stmt),chkC B c s st=true->PS X st (TC Γ cx ex w Hz gz s)
 | .set t e,st,h=>by
  have hb:Ν st.ctorIdx 5=true:=by revert h;cases st <;> first | exact non | exact fun _=>rfl
  revert h;apply qj hb;clear hb;intro ts x pos h;exact zfT ok h
 | .expr e,st,h=>by
  have hb:Ν st.ctorIdx 24=true:=by revert h;cases st <;> first | exact non | exact fun _=>rfl
  revert h;apply Vf hb;clear hb;intro x pos h;have h:(chkE B c e x&&Vh x)=true:=h;simp only [ε] at h;exact zfP (ok.pe h.1) (Xx h.2 none pos.line X.env)
 | .ret e,st,h=>by
  have hb:Ν st.ctorIdx 3=true:=by revert h;cases st <;> first | exact non | exact fun _=>rfl
  revert h;apply Xu hb;clear hb;intro v pos h;cases v with
  | none=>exact nobE h
  | some x=>exact s_rt ok h
 | .retN,st,h=>by
  have hb:Ν st.ctorIdx 3=true:=by revert h;cases st <;> first | exact non | exact fun _=>rfl
  revert h;apply Xu hb;clear hb;intro v pos h;cases v with
  | some x=>exact nobE h
  | none=>exact zfI
 | .ite e a b,st,h=>by
  have hb:Ν st.ctorIdx 12=true:=by revert h;cases st <;> first | exact non | exact fun _=>rfl
  revert h;apply zi6 hb;clear hb;intro x aa bb pos h;have h:(chkE B c e x&&uc B c a aa&&uc B c b bb)=true:=h;simp only [ε] at h;exact s_if (ok.pt h.1.1) (sCs ok a aa h.1.2) (sCs ok b bb h.2)
 | .whl e b,st,h=>by
  have hb:Ν st.ctorIdx 11=true:=by revert h;cases st <;> first | exact non | exact fun _=>rfl
  revert h;apply zby hb;clear hb;intro x bb r pos h;have h:(chkE B c e x&&uc B c b bb&&uG r)=true:=h;simp only [ε] at h;have hr:=jT h.2;subst hr;exact zc7 (ok.pt h.1.1) (sCs ok b bb h.1.2) ok.own
 | .forr t it b,st,h=>by
  have hb:Ν st.ctorIdx 9=true:=by revert h;cases st <;> first | exact non | exact fun _=>rfl
  revert h;apply zgA hb;clear hb;intro tgt x bb r pos h;have h:(chkI B c it tgt x&&chkT c t tgt&&vJ x&&uc B c b bb&&uG r)=true:=h;simp only [ε] at h;obtain ⟨⟨⟨⟨h1,h2⟩,h3⟩,h4⟩,h5⟩:=h;have hr:=jT h5;subst hr;exact ziA (sI (ok.hcf noX) ok.hm.no it X c tgt x ok.ok h1) (Zf ok.ok h2) (sCs ok b bb h4) ok.own ok.ok.calm (X7 h3 X.env)
 | .app i e,st,h=>by
  have hb:Ν st.ctorIdx 24=true:=by revert h;cases st <;> first | exact non | exact fun _=>rfl
  revert h;apply Vf hb;clear hb;intro x pos h;obtain ⟨n,np,ap,y,cp,rfl,h1,h3,h4,h5⟩:=ZG (show jb B c "append" i e x=true from h);unfold chkN at h1;simp only [ε] at h1;obtain ⟨q1,q2,_⟩:=yf h1.2;exact ziI (by rw [ok.ok.N];exact eq_of_beq h1.1.1) (ok.ok.vis h1.1.2) q1 q2 (ok.pe h3) h4 h5
 | .ext i e,st,h=>by
  have hb:Ν st.ctorIdx 24=true:=by revert h;cases st <;> first | exact non | exact fun _=>rfl
  revert h;apply Vf hb;clear hb;intro x pos h;obtain ⟨n,np,ap,y,cp,rfl,h1,h3,h4,h5⟩:=ZG (show jb B c "extend" i e x=true from h);unfold chkN at h1;simp only [ε] at h1;obtain ⟨q1,q2,_⟩:=yf h1.2;exact ziB (by rw [ok.ok.N];exact eq_of_beq h1.1.1) (ok.ok.vis h1.1.2) q1 q2 (ok.pe h3) h4 h5
 | .stv i kx v,st,h=>by
  have hb:Ν st.ctorIdx 5=true:=by revert h;cases st <;> first | exact non | exact fun _=>rfl
  revert h;apply qj hb;clear hb;intro ts x pos h;exact zij ok h
 | .sti o kx v,st,h=>by
  have hb:Ν st.ctorIdx 5=true:=by revert h;cases st <;> first | exact non | exact fun _=>rfl
  revert h;apply qj hb;clear hb;intro ts x pos h;exact zii ok h
 | .appR o e,st,h=>nobE h
 | .pop i,st,h=>nobE h
 | .popO t i,st,h=>nobE h
 | .popR t o,st,h=>nobE h
 | .pass,st,h=>by
  have hb:Ν st.ctorIdx 25=true:=by revert h;cases st <;> first | exact non | exact fun _=>rfl
  revert h;apply zdP hb;clear hb;intro pos h;exact zfK
 | .brk,st,h=>by
  have hb:Ν st.ctorIdx 26=true:=by revert h;cases st <;> first | exact non | exact fun _=>rfl
  revert h;apply zbz hb;clear hb;intro pos h;exact ziG
 | .cnt,st,h=>by
  have hb:Ν st.ctorIdx 27=true:=by revert h;cases st <;> first | exact non | exact fun _=>rfl
  revert h;apply Vg hb;clear hb;intro pos h;exact ziD
 | .lin i es,st,h=>nobE h
 | .sta cs o f e,st,h=>nobE h
 | .aua cs o f op e,st,h=>nobE h
 | .rse cn,st,h=>nobE h
 | .stx i f es,st,h=>nobE h
 | .sw2 i j a b,st,h=>nobE h
 | .trx tb j f es ce i hb a b els,st,h=>nobE h
 | .tri tb f es ce i hs,st,h=>nobE h
 | .frz _,st,h=>by revert h;cases st <;> exact nobE
 | .frr _,st,h=>by revert h;cases st <;> exact nobE
 | .frk _,st,h=>by revert h;cases st <;> exact nobE
theorem sCs (ok:XSt Γ B cx ex Hz gz k X c):∀ (ss:List C) (sts:List Stmt),uc B c ss sts=true->PSs X sts (TCs Γ cx ex w Hz gz ss)
 | [],sts,h=>by
  cases sts with
  | nil=>exact zfD
  | cons _ _=>exact nobE h
 | s::ss,sts,h=>by
  by_cases hf:∃ i,s=.frz i
  ·obtain ⟨i,rfl⟩:=hf;exact zix (sCs ok ss sts (by cases sts <;> exact h))
  by_cases hr:∃ i,s=.frr i
  ·obtain ⟨i,rfl⟩:=hr;exact ziy (sCs ok ss sts (by cases sts <;> exact h))
  by_cases hk:∃ i,s=.frk i
  ·obtain ⟨i,rfl⟩:=hk;exact ziz (sCs ok ss sts (by cases sts <;> exact h))
  ·cases sts with
   | nil=>cases s <;> first | exact nobE h | exact absurd ⟨_,rfl⟩ hf | exact absurd ⟨_,rfl⟩ hr | exact absurd ⟨_,rfl⟩ hk
   | cons st sts=>
    have h:(chkC B c s st&&uc B c ss sts)=true:=by cases s <;> first | exact h | exact absurd ⟨_,rfl⟩ hf | exact absurd ⟨_,rfl⟩ hr | exact absurd ⟨_,rfl⟩ hk
    rw [ε] at h;exact zc8 (sC ok s st h.1) (sCs ok ss sts h.2)
end
end
open PySem PySem.Spec PySem.W PyProof.Rows L2
theorem ln1 {α:Type}:∀ {l:List α},l.length=1->∃ a,l=[a]
 | [a],_=>⟨a,rfl⟩
theorem ln2 {α:Type}{l:List α}(h:l.length=2):∃ a0 a1,l=[a0,a1]:=by
 cases l with
 | nil=>cases h
 | cons a0 l=>
  obtain ⟨a1,rfl⟩:=ln1 (dY h);exact ⟨a0,a1,rfl⟩
theorem ln3 {α:Type}{l:List α}(h:l.length=3):∃ a0 a1 a2,l=[a0,a1,a2]:=by
 cases l with
 | nil=>cases h
 | cons a0 l=>
  obtain ⟨a1,a2,rfl⟩:=ln2 (dY h);exact ⟨a0,a1,a2,rfl⟩
theorem ln4 {α:Type}{l:List α}(h:l.length=4):∃ a0 a1 a2 a3,l=[a0,a1,a2,a3]:=by
 cases l with
 | nil=>cases h
 | cons a0 l=>
  obtain ⟨a1,a2,a3,rfl⟩:=ln3 (dY h);exact ⟨a0,a1,a2,a3,rfl⟩
theorem ln5 {α:Type}{l:List α}(h:l.length=5):∃ a0 a1 a2 a3 a4,l=[a0,a1,a2,a3,a4]:=by
 cases l with
 | nil=>cases h
 | cons a0 l=>
  obtain ⟨a1,a2,a3,a4,rfl⟩:=ln4 (dY h);exact ⟨a0,a1,a2,a3,a4,rfl⟩
theorem ln6 {α:Type}{l:List α}(h:l.length=6):∃ a0 a1 a2 a3 a4 a5,l=[a0,a1,a2,a3,a4,a5]:=by
 cases l with
 | nil=>cases h
 | cons a0 l=>
  obtain ⟨a1,a2,a3,a4,a5,rfl⟩:=ln5 (dY h);exact ⟨a0,a1,a2,a3,a4,a5,rfl⟩
theorem WN {K:W.Frag}{x:Str}(h:dotted x=false):atN K x=W.nsIn K Ο x:=by unfold atN;rw [h];rfl
noncomputable def LamR.fn (r:LamR):Fn:=⟨2,2,[.ret (.call r.gi [.var 0,.var 1])]⟩
noncomputable def wz (rs:List Row) (ls:List LamR:=[]):Nat->Option Fn:=fun i=>match rs[i]? with
 | some r=>some r.fn
 | none=>(ls[i - rs.length]?).map LamR.fn
theorem X8 {rs:List Row}{ls:List LamR}{i:Nat}{r:Row}(h:rs[i]?=some r):wz rs ls i=some r.fn:=by unfold wz;rw [h]
theorem zas {rs:List Row}{ls:List LamR}{i:Nat}{r:LamR}(hl:rs.length<=i) (h:ls[i - rs.length]?=some r):wz rs ls i=some r.fn:=by unfold wz;rw [dj hl,h];rfl
noncomputable def tbFrom:List Str->Str->Nat->Option Nat
 | [],_,_=>none
 | y::l,x,n=>if (y==x)=true then some n else tbFrom l x (n+1)
noncomputable def tbOf (B:Tb) (x:Str):Option Nat:=tbFrom B.tabs x 0
set_option tactic.hygienic true in
theorem Y0:∀ {l:List Str}{x:Str}{n p:Nat},tbFrom l x n=some p->∃ i,p=n+i/\l[i]?=some x
 | [],_,_,_,h=>by cases h
 | y::l,x,n,p,h=>by
  unfold tbFrom at h;split at h
  ·rename_i e
   cases h;exact ⟨0,rfl,by rw [eq_of_beq e];rfl⟩
  ·obtain ⟨i,e1,e2⟩:=Y0 h;exact ⟨i+1,by omega,by simpa using e2⟩
theorem zcX {B:Tb}{x:Str}{p:Nat}(h:tbOf B x=some p):B.tabs[p]?=some x:=by obtain ⟨i,e1,e2⟩:=Y0 h;rw [e1,Nat.zero_add];exact e2
set_option tactic.hygienic true in
theorem zhN {h:Heap}{c P:Addr}{o:Obj}(e:cdO c P (some o)=true) (g:h.get? c=some o) (n:c≠P):CodeHd h c P:=by
 unfold cdO at e;split at e
 ·rename_i cl dd vs sl q
  cases q;simp only [ε,beq_iff_eq] at e;obtain ⟨⟨⟨⟨⟨e1,e2⟩,e3⟩,e4⟩,e5⟩,e6⟩:=e;have e7:vs.getD 11 Δ=.ref P:=by rw [Array.getD_eq_getD_getElem?,e2];rfl
  have f3:∃ x t,vs.getD 18 Δ=.str x t:=by
   cases q:vs.getD 18 Δ with
   | str x t=>exact ⟨x,t,rfl⟩
   | _=>rw [q] at e3;cases e3
  have f4:∃ x t,vs.getD 7 Δ=.int x t:=by
   cases q:vs.getD 7 Δ with
   | int x t=>exact ⟨x,t,rfl⟩
   | _=>rw [q] at e4;cases e4
  have f5:∃ x,vs.getD 9 Δ=.bool x:=by
   cases q:vs.getD 9 Δ with
   | bool x=>exact ⟨x,rfl⟩
   | _=>rw [q] at e5;cases e5
  have f6:∃ x t,vs.getD 10 Δ=.int x t:=by
   cases q:vs.getD 10 Δ with
   | int x t=>exact ⟨x,t,rfl⟩
   | _=>rw [q] at e6;cases e6
  obtain ⟨x3,t3,f3⟩:=f3;obtain ⟨x4,t4,f4⟩:=f4;obtain ⟨x5,f5⟩:=f5;obtain ⟨x6,t6,f6⟩:=f6;exact ⟨_,vs,x3,t3,x4,t4,x5,x6,t6,g,e1,rfl,e2,e7,f3,f4,f5,f6,n⟩
 ·cases e
set_option tactic.hygienic true in
theorem zaG {K:W.Frag}{mg:Str->Option δ}{c P:Addr}(gl:∀ x u,W.nsIn K Ο x=some u->mg x=u) (e:cdOk K c P=true):Ο≠P/\∀ h:Heap,K.In h->CodeHd h c P/\h.BuiltinsAt mg P:=by
 unfold cdOk at e;rw [ε,ε,ε,bne_iff_ne,bne_iff_ne] at e;obtain ⟨⟨⟨e1,e2⟩,e3⟩,e4⟩:=e;refine ⟨bK e3,fun h kin=>⟨?_,?_⟩⟩
 ·cases q:K.lookup c with
  | none=>rw [q] at e1;cases e1
  | some o=>exact zhN (by rw [<- q];exact e1) (kin _ _ q) e2
 ·unfold caOf at e4;split at e4
  ·rename_i bm q
   split at q
   ·rename_i C q1
    cases q;simp only [ε,bne_iff_ne] at e4;obtain ⟨⟨⟨e4,e5⟩,e6⟩,e7⟩:=e4;cases q2:K.lookup bm with
    | none=>rw [q2] at e7;cases e7
    | some o=>
     rw [q2] at e7;unfold bmO at e7;split at e7
     ·rename_i cl d sl q3
      cases q3;simp only [ε,beq_iff_eq] at e7;exact ⟨bm,_,gl _ _ q1,e4,e5,e6,kin _ _ q2,e7.1,by rw [e7.2],rfl⟩
     ·cases e7
   ·cases q
  ·cases e4
theorem ud {x:Str}{c:Addr}:∀ (names:List (Str×Ϟ)) (n:Nat) (acc:List (Str×Addr)),(lF n names acc).lookup x=some c->n<=c\/acc.lookup x=some c
 | [],n,acc,h=>.inr h
 | (y,kd)::r,n,acc,h=>by
  unfold lF at h;split at h
  ·rcases ud r _ _ h with z | z
   ·exact .inl (by omega)
   ·rw [ϛ] at z;split at z
    ·cases z;exact .inl (Ζ _)
    ·exact .inr z
  ·exact ud r _ _ h
noncomputable def Qd (N ps:List Str) (sc:aH):Bool:=
 (sc.kind==.function)&&!sc.isCoroutine&&!sc.isGenerator&&decide N.Nodup&&(N.take ps.length==ps)&&ps.all (fun x=>sc.names.lookup x==some .local||sc.names.lookup x==some .cell)&&sc.names.all (fun y=>y.2 != .free)
theorem Qc {N ps:List Str}{sc:aH}(h:Qd N ps sc=true):YG N ps sc:=by unfold Qd at h;simp only [ε,ak,dz,decide_eq_true_eq,b7,beq_iff_eq,bne_iff_ne] at h;obtain ⟨⟨⟨⟨⟨⟨h1,h2⟩,h3⟩,h4⟩,h5⟩,h6⟩,h7⟩:=h;exact ⟨h1,h2,h3,h4,h5,h6,h7⟩
structure zP (B:Tb) (r:Row):Prop where
 sc:Qd r.N r.ps (zT r.st)=true
 ck:uc B ⟨(zT r.st).names,r.N,(tbOf B r.name).isNone,tbOf B r.name⟩ r.fn.body (yN r.st)=true
 np:r.fn.np=r.ps.length
 nv:r.fn.nv=r.N.length
 bd:∀ (kV doc pm:δ) (an:Option Addr) (cdv ct:δ) (us:List δ),us.length=r.ps.length->gD (W.fnOf (nmOf r.name) r.name (xQ r.st) (yN r.st) (zT r.st) .none kV doc pm an cdv ct) ⟨us,[]⟩=pure (r.ps.zip us)
def KwOk (rs:List Row) (q:Nat×List Str×List Nat):Prop:=q.2.1≠[]/\∀ r,rs[q.1]?=some r->∀ (kV doc pm:δ) (an:Option Addr) (cdv ct:δ) (ws:List δ),ws.length=q.2.1.length ->
 gD (W.fnOf (nmOf r.name) r.name (xQ r.st) (yN r.st) (zT r.st) .none kV doc pm an cdv ct) ⟨[],q.2.1.zip ws⟩=pure (r.ps.zip (q.2.2.map fun i=>ws.getD i .none))
structure WR (K:W.Frag) (x:Str) (st:Stmt):Prop where
 ex:∃ f fd,Fun K (nmOf x) x st f fd/\atN K x=some (some (.ref f))
theorem zhC {K:W.Frag}{x:Str}{st:Stmt}{f:Addr}{oc:δ}{od an:Option Addr}{osl:Array (Option δ)}{kV doc pm cdv ct:δ}(a:atN K x=some (some (.ref f)))
  (l:K.lookup f=some ⟨oc,od,.func (W.fnOf (nmOf x) x (xQ st) (yN st) (zT st) .none kV doc pm an cdv ct),osl⟩) (c:W.codeIn K cdv x=true) (k:W.keepIn K (.ref f)=true):WR K x st:=⟨f,_,zhq l c k,a⟩
noncomputable def faOf (K:W.Frag) (r:Row):Option Addr:=open Classical in if h:∃ f,∃ fd,Fun K (nmOf r.name) r.name r.st f fd/\atN K r.name=some (some (.ref f)) then some (bC h) else none
theorem VG {K:W.Frag}{r:Row}(h:∃ f,∃ fd,Fun K (nmOf r.name) r.name r.st f fd/\atN K r.name=some (some (.ref f))):faOf K r=some (bC h):=by unfold faOf;exact dif_pos h
noncomputable def gmOf (K:W.Frag) (rs:List Row) (B:Tb):Gm where
 K:=K
 fa:=fun i=>(rs[i]?).bind (faOf K)
 ca:=fun c=>(B.cls[c]?).bind fun p=>caOf K p.1
 la:=fun f _ pr b sc fs=>∃ r:LamR,B.fns.length<=f/\B.lams[f - B.fns.length]?=some r/\lamB r pr b sc=true/\fs=[r.f]/\B.fns[r.gi]?=some r.g
 ta:=fun p=>(B.tabs[p]?).bind fun x=>(tbAt K x).map fun q=>(q.2,(x++(".<locals>.":Str))++("<lambda>":Str))
def AllR {α:Type}(Q:α->Prop):List α->Prop
 | []=>True
 | a::r=>Q a/\AllR Q r
theorem AllR.at {α:Type}{Q:α->Prop}:∀ {l:List α}{i:Nat}{a:α},AllR Q l->l[i]?=some a->Q a
 | [],_,_,_,h=>by simp at h
 | b::r,0,a,⟨h,_⟩,e=>by simp at e;subst e;exact h
 | b::r,i+1,a,⟨_,h⟩,e=>AllR.at (i:=i) h (by simpa using e)
theorem AllR.mem {α:Type}{Q:α->Prop}:∀ {l:List α}{a:α},AllR Q l->a∈l->Q a
 | b::r,a,⟨h,t⟩,e=>by
  rcases χ.mp e with rfl | q
  ·exact h
  ·exact AllR.mem t q
structure zaX (K:W.Frag) (mg:Str->Option δ) (B:Tb) (rs:List Row):Prop where
 fns:B.fns=rs.map (·.name)
 pars:B.pars=rs.map (·.ps)
 rows:AllR (zP B) rs
 kws:AllR (KwOk rs) B.kws
 defs:AllR (fun r=>WR K r.name r.st) rs
 gl:∀ x u,W.nsIn K Ο x=some u->mg x=u
 bare:∀ x∈B.bare,W.nsIn K Ο x=some none
 consts:∀ (n:Nat) (x:Str) (d:D),B.consts[n]?=some (x,d)->∃ u v,W.nsIn K Ο x=some (some u)/\RelV v u/\∀ g,Has (gmOf K rs B) g d v
 cls:∀ (c:Nat) (x:Str) (l:List Nat),B.cls[c]?=some (x,l)->∃ C,W.nsIn K Ο x=some (some (.ref C))/\KCls (gmOf K rs B) (B.cls.map (·.2)) c C
 obs:∀ o∈B.obs,∃ C,W.nsIn K Ο o.name=some (some (.ref C))/\ObOk (gmOf K rs B) o C
 tabs:∀ (p:Nat) (x:Str),B.tabs[p]?=some x->∃ c P,tbAt K x=some (c,P)/\cdOk K c P=true
section
variable {P:Λ}{w:ϓ}{K:W.Frag}{mg:Str->Option δ}{base:Heap}{B:Tb}{rs:List Row}
theorem zjR {F:Nat->Option Fn}{wh:Nat}(h:∀ f fn ps,F f=some fn->B.pars[f]?=some ps->fn.np=ps.length):∀ k ex,CfN B (za F wh k ex)
 | 0,_=>fun _ _ _ _ _ _ q=>q.elim
 | k+1,_=>fun f ds V S ps hp q=>by obtain ⟨fn,e,hl,_⟩:=yc q;rw [hl,h f fn ps e hp]
theorem Y5 {Γ:Gm}{H:Hp}{g:G}{fn:Fn}{N:List Str}{ds:List D}{vs:List V}(h:Hass Γ g ds vs) (hn:fn.nv=N.length):EnvO Γ H H g (entry fn ds) (L2.start N vs):=by
 have hl:=h.len;have key:∀ (i:Nat) (s:Slot),(entry fn ds)[i]?=some s->(∃ d,ds[i]?=some d/\s=.sh d)\/s=.no:=by
  intro i s e;unfold entry at e;by_cases hi:i < ds.length
  ·rw [ϑ (by simpa using hi),Η,ψ hi] at e;cases e;exact .inl ⟨ds[i],ψ hi,rfl⟩
  ·rw [ϔ (by simpa using iK hi),cQ] at e;split at e
   ·cases e;exact .inr rfl
   ·cases e
 refine ⟨?_,fun i d e=>?_,fun i d e=>?_,fun i j d e a h1=>?_⟩
 ·unfold entry L2.start;simp [hl,hn]
 ·rcases key i _ e with ⟨d',e1,e2⟩ | e2
  ·cases e2;obtain ⟨v,q,hv⟩:=h.get e1;refine ⟨v,?_,hv⟩;unfold L2.start;have hi:=(υ.mp q).1;rw [ϑ (by simpa using hi),Η,q];rfl
  ·cases e2
 ·rcases key i _ e with ⟨d',e1,e2⟩ | e2 <;> cases e2
 ·rcases key i _ h1 with ⟨d',e1,e2⟩ | e2 <;> cases e2
section
variable {Γ:Gm}{F:Nat->Option Fn}{wh k:Nat}
theorem zgP:LamI Γ (spN Γ (za F wh 0)) 0 P w K mg base:=by intro f n q pr b sc fs a pm cv ct cl ws A outer s H us vs Q E hla hr e0 ha hc C rv sp;obtain ⟨_,g,ds,S,V,ex,_,_,h,_⟩:=sp;exact h.elim
theorem QW (hcf:CfN B (za F wh k noX)) (hK:K=Γ.K) (fns:∀ (f:Nat) (x:Str),B.fns[f]?=some x->FnI Γ B (spN Γ (za F wh k)) k P w K mg base f x) (bare:∀ x∈B.bare,mg x=none)
  (consts:∀ (n:Nat) (x:Str) (d:D),B.consts[n]?=some (x,d)->∃ u v,mg x=some u/\RelV v u/\∀ g,Has Γ g d v) (fa:∀ (f:Nat) (a:Addr),Γ.fa f=some a->∃ x,B.fns[f]?=some x)
  (clq:∀ (c:Nat) (x:Str) (l:List Nat),B.cls[c]?=some (x,l)->∃ C,mg x=some (.ref C)/\KCls Γ (B.cls.map (·.2)) c C) (ca:∀ (c:Nat) (C:Addr),Γ.ca c=some C->∃ x l,B.cls[c]?=some (x,l)) (ob:∀ o∈B.obs,∃ C,mg o.name=some (.ref C)/\ObOk Γ o C) (lm:LamI Γ (spN Γ (za F wh k)) k P w K mg base) (laq:∀ (f:Nat) (r:LamR) (q:Str) (pr:aO) (b:Expr) (sc:aH),B.fns.length<=f->B.lams[f - B.fns.length]?=some r->lamB r pr b sc=true->B.fns[r.gi]?=some r.g->Γ.la f q pr b sc [r.f])
  (la:∀ f q pr b sc fs,Γ.la f q pr b sc fs->∃ r:LamR,lamB r pr b sc=true/\fs=[r.f]/\B.fns[r.gi]?=some r.g/\F f=some r.fn):LamI Γ (spN Γ (za F wh (k+1))) (k+1) P w K mg base:=by
 intro f n q pr b sc fs a pm cv ct cl ws A outer s H us vs Q E hla hr e0 ha hc C rv sp;obtain ⟨r,hB,rfl,hg,hF⟩:=la f q pr b sc fs hla;unfold lamB at hB;rw [ε,ε] at hB;obtain ⟨⟨b1,b2⟩,b3⟩:=hB;obtain ⟨an,pq,rfl⟩:=Qw b1;obtain ⟨p1,p2,p3,p4,rfl⟩:=zeJ b2;obtain ⟨LS,_,z1,z2,z3,z4⟩:=QH b3;obtain ⟨hn,g,ds,S,V,ex,wok,hh,hcx,kk,kx⟩:=sp;obtain ⟨fn,e1,hl,hw⟩:=yc hcx;rw [hF] at e1;cases e1;have hw:wpE (za F wh k noX) (entry r.fn ds) (.call r.gi [.var 0,.var 1]) (fun x S1=>retV x fun o=>nxt (fun ρ' S'=>told V (.next ρ') S') (told V) o S1) S:=hw;have hl:ds.length=2:=hl;have h2:=hh.len;have h3:(1:Nat)=ws.length:=C.len;rw [Υ] at h2;have hvl:vs.length=1:=by omega
 have hul:us.length=1:=by rw [<- L2.Vals.length rv];exact hvl
 obtain ⟨u,rfl⟩:∃ u,us=[u]:=fj.mp hul
 have hst:L2.start [r.p,r.f] (vs++ws)=(vs++ws).map some:=by unfold L2.start;rw [show ([r.p,r.f]:List Str).length - (vs++ws).length=0 by rw [Υ,hvl,<- h3];rfl];simp
 refine zd8 (CX:=CX1 P w) (k:=2*k+1) (t:=TX Γ (za F wh k noX) (.call r.gi [.var 0,.var 1])) LS hr e0 ha hc C hvl rv QV (fun hrm=>?_) ⟨entry r.fn ds,S,_,g,H,hw,wok,hst ▸ Y5 (N:=[r.p,r.f]) hh rfl,fun x v H' g' S' st w' vx q=>?_⟩
 ·have ok:XOk Γ B (spN Γ (za F wh k)) k (cxL P w K mg base ([r.p]++[r.f]) q sc a cv cl A outer s H) ⟨sc.names,[r.p,r.f],false,none⟩:=⟨hK,rfl,LS.kind,rfl,LS.nd,fun z=>(nomatch z),rfl,hrm,fun x hx=>?_,fns,bare,consts,fa,clq,ca,ob,lm,laq,fun p z=>(nomatch z)⟩
  ·have v1:Vis (cxL P w K mg base ([r.p]++[r.f]) q sc a cv cl A outer s H).env.scope r.p:=ok.vis (by rw [LS.par _ θ];rfl);have v2:Vis (cxL P w K mg base ([r.p]++[r.f]) q sc a cv cl A outer s H).env.scope r.f:=ok.vis (by rw [LS.fre _ θ];rfl);refine s_call (cx:=za F wh k) hcf ok hg (Ug z4) (ok.glob z1) (yf z4).1 (fun z hz=>?_) (Uo rfl (za9 (i:=0) rfl v1 (yf z2).1 (yf z2).2.1) (Uo rfl (za9 (i:=1) rfl v2 (yf z3).1 (yf z3).2.1) zda));rcases χ.mp hz with rfl | hz
   ·rfl
   ·rw [ω.mp hz];rfl
  ·rcases hx with hx | hx
   ·exact absurd rfl (LS.cell _ (Ϣ hx))
   ·obtain ⟨_,c,_,_,e,_⟩:=C.has (LS.all x hx);exact ⟨c,e⟩
 ·obtain ⟨d,kd⟩:=x;cases kd with
  | st=>exact kk (d,.st) v H' g' S' st w' vx q
  | fr=>exact kk (d,.fr) v H' g' S' st w' vx q
  | _=>exact q.elim
end
theorem zhL {wh:Nat}(md:zaX K mg B rs) (k:Nat):∀ ex,CfN B (za (wz rs B.lams) wh k ex):=zjR (fun f fn ps h1 h2=>by
  rw [md.pars,Η] at h2;cases e:rs[f]? with
  | none=>rw [e] at h2;cases h2
  | some q=>
   rw [X8 e] at h1;rw [e] at h2;cases h1;cases h2
   exact (md.rows.at e).np) k
theorem zja {x:Option Nat}(h:x.isNone=true):(!x.isSome)=true:=by
 cases x with
 | none=>rfl
 | some _=>cases h
theorem KR {K:W.Frag}{x:Str}{fa c P:Addr}{oc:δ}{od an:Option Addr}{osl:Array (Option δ)}{nm qn:Str}{ar:aO}{bd:List Stmt}{sc:aH}{kV dV doc pm cdv ct:δ}(na:atN K x=some (some (.ref fa))) (lk:K.lookup fa=some ⟨oc,od,.func (W.fnOf nm qn ar bd sc dV kV doc pm an cdv ct),osl⟩) (h:tbAt K x=some (c,P)):cdv=.ref c:=by
 unfold tbAt at h;rw [na] at h;dsimp only at h;rw [lk] at h;dsimp only [W.fnOf] at h;cases cdv with
 | ref d=>
  dsimp only at h;split at h
  ·split at h
   ·cases h;rfl
   ·cases h
  ·cases h
 | _=>cases h
theorem fn_e {wh k f:Nat}{r:Row}{fa:Addr}{fd:aV}(md:zaX K mg B rs) (hr:rs[f]?=some r) (F:Fun K (nmOf r.name) r.name r.st fa fd) (na:atN K r.name=some (some (.ref fa))) (lmi:LamI (gmOf K rs B) (spN (gmOf K rs B) (za (wz rs B.lams) wh k)) k P w K mg base) (ih:∀ (g:Nat) (x:Str),B.fns[g]?=some x->FnI (gmOf K rs B) B (spN (gmOf K rs B) (za (wz rs B.lams) wh k)) k P w K mg base g x):
  FnOk P w K mg base (CX1 P w) (2*k+1+1) fa fd r.ps (spN (gmOf K rs B) (za (wz rs B.lams) wh (k+1)) f r.ps.length):=by
 have ro:=md.rows.at hr;have sc:=Qc ro.sc;have hcf:=zhL (wh:=wh) md k;obtain ⟨oc,od,kV,doc,pm,an,cdv,ct,osl,rfl,lk,hcd⟩:=F.ex;refine zhs (ro:=fun _=>(tbOf B r.name).isSome) lk hcd sc (fun vs H Q E h=>h.1) fun A outer s H vs Q E hrm h=>?_
 obtain ⟨hl,g,ds,S,V,ex,wok,hh,hc,kk,kx⟩:=h;obtain ⟨fn,e1,_,hc⟩:=yc hc;rw [X8 hr] at e1;cases e1
 refine ⟨TCs (gmOf K rs B) (za (wz rs B.lams) wh k) ex wh H g r.fn.body,sCs (Γ:=gmOf K rs B) (c:=⟨(zT r.st).names,r.N,(tbOf B r.name).isNone,tbOf B r.name⟩) ⟨⟨rfl,rfl,sc.kind,rfl,sc.nd,fun z _=>zja z,rfl,hrm,fun x hx=>?_,ih,fun x hx=>?_,fun n x d e=>?_,fun f a e=>?_,fun c x l e=>?_,fun c C e=>?_,fun o ho=>?_,lmi,fun f r q pr b sc e1 e2 e3 e4=>⟨r,e1,e2,e3,rfl,e4⟩,fun p hp _=>?_⟩,gY.leaving,hcf,yS k,rfl,rfl,fun pj σ H1 s1 g1 S1 c C h' ea args I st wo hex hca m=>L2.leave_new (X:=cxOf (CX1 P w) P w K mg base r.N r.name (zT r.st) fa cdv A outer s H E fun _=>(tbOf B r.name).isSome) rfl rfl rfl I m (kx c (.ref ea) C H1 g1 S1 st wo hca hex),fun pj σ H1 s1 g1 e s' I st hq=>L2.JX (X:=cxOf (CX1 P w) P w K mg base r.N r.name (zT r.st) fa cdv A outer s H E fun _=>(tbOf B r.name).isSome) rfl rfl rfl I hq fun C H' z=>by
  obtain ⟨c,C0,g2,S2,eC,hca,s2,w2,q⟩:=z;subst eC
  exact kx c e C0 H' g2 S2 (st.trans s2) w2 hca q⟩ r.fn.body (yN r.st) ro.ck,entry r.fn ds,S,_,g,hc,Step.refl H g,wok,Y5 hh ro.nv,?_⟩
 ·rcases hx with hx | hx
  ·exact YB hx
  ·exact absurd rfl (sc.nofree _ (Ϣ hx))
 ·exact md.gl x none (md.bare x hx)
 ·obtain ⟨u,v,e1,e2,e3⟩:=md.consts n x d e;exact ⟨u,v,md.gl x (some u) e1,e2,e3⟩
 ·obtain ⟨r,er,_⟩:=Ϗ.mp (show (rs[f]?).bind (faOf K)=some a from e);exact ⟨r.name,by rw [md.fns,Η,er];rfl⟩
 ·obtain ⟨C,e1,e2⟩:=md.cls c x l e;exact ⟨C,md.gl x _ e1,e2⟩
 ·obtain ⟨p,ep,_⟩:=Ϗ.mp (show (B.cls[c]?).bind (fun p=>caOf K p.1)=some C from e);exact ⟨p.1,p.2,ep⟩
 ·obtain ⟨C,e1,e2⟩:=md.obs o ho;exact ⟨C,md.gl _ _ e1,e2⟩
 ·have hp:tbOf B r.name=some p:=hp;have hx:=zcX hp;obtain ⟨c,P',t1,t2⟩:=md.tabs p _ hx;obtain ⟨n1,n2⟩:=zaG md.gl t2;have hc:cdv=.ref c:=KR na lk t1;refine ⟨⟨⟨c,P',hc,?_,n1,n2⟩,fun x c h=>?_⟩,fun x=>by show (!(tbOf B r.name).isSome)=false;rw [hp];rfl⟩
  ·show (B.tabs[p]?).bind _=_
   rw [hx];show (tbAt K r.name).map _=_
   rw [t1];rfl
  ·rcases ud _ _ _ h with z | z
   ·exact Nat.le_of_succ_le z
   ·cases z
 ·exact ⟨fun ρ σ' H' g' S' st le w' env q=>kk (.non,.st) .non H' g' S' st w' rfl q,fun ρ σ' H' g' S' st le w' env q=>q.elim,fun ρ σ' H' g' S' st le w' env q=>q.elim,fun d fr v H' g' S' st le w' vo q=>kk (d,kd fr) v H' g' S' st w' (VN.of vo) q⟩
theorem fn_0 {f:Nat}{wh:Nat}{fa:Addr}{fd:aV}{ps:List Str}{Γ:Gm}{F:Nat->Option Fn}:FnOk P w K mg base (CX1 P w) 0 fa fd ps (spN Γ (za F wh 0) f ps.length):=
 ⟨fun vs H Q E h=>h.1,fun A outer s H args us vs Q E hr he hb hv ⟨_,g,ds,S,V,_,_,_,hc,_⟩=>hc.elim⟩
theorem YQ:∀ {zs:List V}{ws:List δ}(i:Nat),Vals zs ws->RelV (zs.getD i .non) (ws.getD i .none)
 | _,_,_,.nil=>rfl
 | _,_,0,.cons h _=>h
 | _,_,i+1,.cons _ t=>by have:=YQ i t;simpa using this
theorem Ud {zs:List V}{ws:List δ}(h:Vals zs ws):∀ (perm:List Nat),Vals (perm.map fun i=>zs.getD i .non) (perm.map fun i=>ws.getD i .none)
 | []=>.nil
 | i::r=>.cons (YQ i h) (Ud h r)
theorem zcF {wh k:Nat}(md:zaX K mg B rs) (h:∀ (f:Nat) (r:Row) (fa:Addr) (fd:aV),rs[f]?=some r->Fun K (nmOf r.name) r.name r.st fa fd->atN K r.name=some (some (.ref fa))->FnOk P w K mg base (CX1 P w) (2*k) fa fd r.ps (spN (gmOf K rs B) (za (wz rs B.lams) wh k) f r.ps.length)):
  ∀ (f:Nat) (x:Str),B.fns[f]?=some x->FnI (gmOf K rs B) B (spN (gmOf K rs B) (za (wz rs B.lams) wh k)) k P w K mg base f x:=by
 intro f x hx;rw [md.fns,Η] at hx;cases hr:rs[f]? with
 | none=>rw [hr] at hx;cases hx
 | some r=>
  rw [hr] at hx;cases hx;have da:∃ f,∃ fd,Fun K (nmOf r.name) r.name r.st f fd/\atN K r.name=some (some (.ref f)):=(md.defs.at hr).ex;obtain ⟨fd,F,na⟩:=eQ da;have ro:=md.rows.at hr;refine ⟨bC da,fd,r.ps,?_,fun hd=>md.gl _ _ (by rw [<- na];unfold atN;rw [hd];rfl),F.kp,F.binds ro.bd,?_,h f r _ fd hr F na,fun ks perm h1 h2 h3 h4 h5=>?_⟩
  ·show (rs[f]?).bind (faOf K)=_
   rw [hr];exact VG da
  ·rw [md.pars,Η,hr];rfl
  ·have hk:=md.kws.mem h5;obtain ⟨oc,od,kV,doc,pm,an,cdv,ct,osl,hfd,lk,hcd⟩:=F.ex;refine ⟨fun s us ws _ hl=>?_,fun {vs us zs ws} r1 r2=>?_⟩
   ·have hl:(if ws.length=ks.length then us++perm.map fun i=>ws.getD i .none else []).length=r.ps.length:=hl;show BindsTo s fd ⟨us,ks.zip ws⟩ (r.ps.zip (if ws.length=ks.length then us++perm.map fun i=>ws.getD i .none else []))
    by_cases hw:ws.length=ks.length
    ·rw [if_pos hw] at hl ⊢;have hu:us=[]:=by
      cases us with
      | nil=>rfl
      | cons _ _=>simp at hl;lia
     subst hu;rw [hfd];exact .of_eq (hk.2 r hr kV doc pm an cdv ct ws hw)
    ·rw [if_neg hw] at hl ⊢;have h0:r.ps=[]:=bH.mp hl.symm;have hk0:ks=[]:=bH.mp (by rw [h4,h0];rfl);exact absurd hk0 hk.1
   ·show Vals (if zs.length=ks.length then vs++perm.map fun i=>zs.getD i .non else []) (if ws.length=ks.length then us++perm.map fun i=>ws.getD i .none else [])
    rw [r2.length];split
    ·exact r1.append (Ud r2 perm)
    ·exact .nil
theorem zaV (wh:Nat) (md:zaX K mg B rs):∀ (k:Nat),(∀ (f:Nat) (x:Str),B.fns[f]?=some x->FnI (gmOf K rs B) B (spN (gmOf K rs B) (za (wz rs B.lams) wh k)) k P w K mg base f x)/\LamI (gmOf K rs B) (spN (gmOf K rs B) (za (wz rs B.lams) wh k)) k P w K mg base
 | 0=>⟨zcF md fun f r fa fd hr F na=>fn_0,zgP⟩
 | k+1=>by
  obtain ⟨ih,lmi⟩:=zaV wh md k;refine ⟨zcF md fun f r fa fd hr F na=>fn_e md hr F na lmi ih,?_⟩;refine QW (Γ:=gmOf K rs B) (F:=wz rs B.lams) (wh:=wh) (B:=B) (zhL md k noX) rfl ih (fun x hx=>md.gl x none (md.bare x hx)) (fun n x d e=>?_) (fun f a e=>?_) (fun c x l e=>?_) (fun c C e=>?_) (fun o ho=>?_) lmi (fun f r q pr b sc e1 e2 e3 e4=>⟨r,e1,e2,e3,rfl,e4⟩) fun f q pr b sc fs h=>?_
  ·obtain ⟨u,v,e1,e2,e3⟩:=md.consts n x d e;exact ⟨u,v,md.gl x (some u) e1,e2,e3⟩
  ·obtain ⟨r,er,_⟩:=Ϗ.mp (show (rs[f]?).bind (faOf K)=some a from e);exact ⟨r.name,by rw [md.fns,Η,er];rfl⟩
  ·obtain ⟨C,e1,e2⟩:=md.cls c x l e;exact ⟨C,md.gl x _ e1,e2⟩
  ·obtain ⟨p,ep,_⟩:=Ϗ.mp (show (B.cls[c]?).bind (fun p=>caOf K p.1)=some C from e);exact ⟨p.1,p.2,ep⟩
  ·obtain ⟨C,e1,e2⟩:=md.obs o ho;exact ⟨C,md.gl _ _ e1,e2⟩
  ·obtain ⟨r,e1,e2,e3,e4,e5⟩:=h;have hl:B.fns.length=rs.length:=by rw [md.fns,ξ]
   rw [hl] at e1 e2;exact ⟨r,e3,e4,e5,zas e1 e2⟩
end
structure Txt (K:W.Frag) (B:Tb) (rs:List Row):Prop where
 defs:AllR (fun r=>WR K r.name r.st) rs
 bare:AllR (fun x=>W.nsIn K Ο x=some none) B.bare
 consts:∀ (n:Nat) (x:Str) (d:D),B.consts[n]?=some (x,d)->∃ u v,W.nsIn K Ο x=some (some u)/\RelV v u/\∀ g,Has (gmOf K rs B) g d v
 cls:∀ (c:Nat) (x:Str) (l:List Nat),B.cls[c]?=some (x,l)->∃ C,W.nsIn K Ο x=some (some (.ref C))/\KCls (gmOf K rs B) (B.cls.map (·.2)) c C
 obs:∀ o∈B.obs,∃ C,W.nsIn K Ο o.name=some (some (.ref C))/\ObOk (gmOf K rs B) o C
 tabs:∀ (p:Nat) (x:Str),B.tabs[p]?=some x->∃ c P,tbAt K x=some (c,P)/\cdOk K c P=true
structure Tabs (B:Tb) (rs:List Row):Prop where
 fns:B.fns=rs.map (·.name)
 pars:B.pars=rs.map (·.ps)
 rows:AllR (zP B) rs
 kws:AllR (KwOk rs) B.kws
theorem zgH {K:W.Frag}{B:Tb}{rs:List Row}{h:Heap}{mg:Str->Option δ}(t:Tabs B rs) (x:Txt K B rs) (X:K.In h) (N:h.Ns Ο mg):zaX K mg B rs where
 fns:=t.fns
 pars:=t.pars
 rows:=t.rows
 kws:=t.kws
 defs:=x.defs
 gl:=fun y u e=>by
  cases u with
  | none=>exact W.mg_none_of X N e
  | some v=>exact W.mg_of X N e
 bare:=fun y hy=>x.bare.mem hy
 consts:=x.consts
 cls:=x.cls
 obs:=x.obs
 tabs:=x.tabs
theorem zeD {K:W.Frag}{rs:List Row}{B:Tb}{x:Str}{i:Int}{t:Tok}(h:W.nsIn K Ο x=some (some (.int i t))):∃ u v,W.nsIn K Ο x=some (some u)/\RelV v u/\∀ g,Has (gmOf K rs B) g (.int i) v:=⟨_,.int i,h,⟨t,rfl⟩,fun _=>rfl⟩
theorem zhK {K:W.Frag}{rs:List Row}{B:Tb}{i:Nat}{r:Row}(hr:rs[i]?=some r) (d:WR K r.name r.st) (hdt:dotted r.name=false):∃ u v,W.nsIn K Ο r.name=some (some u)/\RelV v u/\∀ g,Has (gmOf K rs B) g (.fn i) v:=by
 obtain ⟨fd,_,e⟩:=eQ d.ex;have e:=(WN hdt).symm.trans e;refine ⟨.ref (bC d.ex),.ref (bC d.ex),e,rfl,fun g=>⟨bC d.ex,?_,rfl⟩⟩;show (rs[i]?).bind (faOf K)=_
 rw [hr];exact VG d.ex
theorem zeB {K:W.Frag}{rs:List Row}{B:Tb}{x i:Str}{t:Tok}(h:W.nsIn K Ο x=some (some (.str i t))):∃ u v,W.nsIn K Ο x=some (some u)/\RelV v u/\∀ g,Has (gmOf K rs B) g (.str i) v:=⟨_,.str i,h,⟨t,rfl⟩,fun _=>rfl⟩
open PySem L2
theorem zcz {n:Nat}{a:Int}(h0:0<=a) (h1:a < (n:Int)):idx n a=some a.toNat:=by
 show (if 0<=a then (if a < n then some a.toNat else none) else _)=_
 rw [if_pos h0,if_pos h1]
theorem zcn {i j:Int}(h:0 < j):opD .Mod (.int i) (.int j)=some (.int (i % j),false):=by
 show (if decide (0 < j)=true then some (i % j) else none).map (fun k=>(D.int k,false))=_
 rw [if_pos (decide_eq_true h)];rfl
theorem UL {i j:Int}(h:yl i=true):opD .Mult (.int i) (.int j)=some (.int (i*j),false):=by
 show (if (yl i||yl j)=true then some (D.int (i*j),false) else none)=_
 rw [if_pos (by rw [h];rfl)]
theorem zdU {i j:Int}(h:yl j=true):opD .Mult (.int i) (.int j)=some (.int (i*j),false):=by
 show (if (yl i||yl j)=true then some (D.int (i*j),false) else none)=_
 rw [if_pos (by rw [h,mG])]
theorem Z4 {i:Int}(h0:0<=i) (h1:i < 4294967296):yl i=true:=by unfold yl;rw [decide_eq_true (by lia),decide_eq_true (by lia)];rfl
theorem fits_of {n:Nat}(h:n<=1000000):fits n=true:=decide_eq_true h
theorem UV {l:List D}{a:Int}{d:D}(h0:0<=a) (h:l[a.toNat]?=some d):subD (.lst l) (.int a)=some d:=by
 show ((idx l.length a).bind fun k=>l[k]?)=_
 have:=(υ.mp h).1;rw [zcz h0 (by lia)];exact h
theorem YW {l:List D}{a:Int}{d:D}(h0:0<=a) (h:l[a.toNat]?=some d):subD (.tup l) (.int a)=some d:=by
 show ((idx l.length a).bind fun k=>l[k]?)=_
 have:=(υ.mp h).1;rw [zcz h0 (by lia)];exact h
theorem ints_get {ns:List Int}{a:Int}(h0:0<=a) (h1:a < (ns.length:Int)):∃ x,x∈ns/\subD (.lst (ns.map D.int)) (.int a)=some (.int x):=by
 have hl:a.toNat < ns.length:=by lia
 refine ⟨ns[a.toNat],cB hl,UV h0 ?_⟩;rw [Η,ψ hl];rfl
theorem yJ (lo hi:Int):(zx lo hi).length=(hi - lo).toNat:=by unfold zx;rw [ξ,List.length_range]
theorem XX:∀ (ns:List Int),u5 (ns.map D.int)=some ns
 | []=>rfl
 | i::ns=>by
  show (u5 (ns.map D.int)).map (i::·)=_
  rw [XX ns];rfl
theorem zeX {a b:List D}(h:a.length+b.length<=1000000):opD .Add (.tup a) (.tup b)=some (.tup (a++b),false):=by
 show (if fits (a.length+b.length)=true then some (D.tup (a++b),false) else none)=_
 rw [if_pos (fits_of h)]
theorem jc {a b:List D}(h:a.length+b.length<=1000000):opD .Add (.lst a) (.lst b)=some (.lst (a++b),true):=by
 show (if fits (a.length+b.length)=true then some (D.lst (a++b),true) else none)=_
 rw [if_pos (fits_of h)]
theorem zaA {l:List D}{n:Nat}(h:n<=l.length):cutD l none (some (n:Int))=l.take n:=by unfold cutD;rw [HT.Uq,HT.Qf,Nat.min_eq_left h];rfl
theorem Jk {l:List D}{n:Nat}(h:n<=l.length):cutD l (some (n:Int)) none=l.drop n:=by unfold cutD;rw [HT.Uq,HT.Qf,Nat.min_eq_left h,eZ (by rw [bI];lia)]
theorem qI (l:List D) (lo hi:Option Int):(cutD l lo hi).length<=l.length:=by unfold cutD;rw [bG,bI];lia
section
variable {α:Type}{F:Nat->Option Fn}{cf:Cf}{cx:Xp->Cf}{ex:Xp}{w k f:Nat}{ds:List D}{V V':Po}{S:Store}{K:Ko}{ρ:List Slot}{x:Vl}{d:D}{b:Bool}{l:List D}{c:C}{cs:List C}
theorem yL {o:Option α}{Q:α->Prop}{a:α}(h:o=some a) (q:Q a):opt o Q:=by subst h;exact q
theorem zE {o:Option (List Slot)}{Q:List Slot->Prop}{a:List Slot}(h:o=some a) (q:Q a):optS o Q:=by subst h;exact q
theorem yK {o:Option (D×Bool)}{Q:Vl->Prop}(h:o=some (d,false)) (q:Q (d,.st)):opV o Q:=by subst h;exact q
theorem ju {o:Option (D×Bool)}{Q:Vl->Prop}(h:o=some (d,true)) (q:Q (d,.fr)):opV o Q:=by subst h;exact q
theorem yD {T F:Prop}(h:b=true) (q:T):tst b T F:=by subst h;exact q
theorem xV {T F:Prop}(h:b=false) (q:F):tst b T F:=by subst h;exact q
theorem zB {T F:Prop}(t:b=true->T) (f:b=false->F):tst b T F:=by
 cases b with
 | true=>exact t rfl
 | false=>exact f rfl
theorem kp_s {Q:D->Prop}(h:x=(d,.st)) (q:Q d):keep x Q:=by subst h;exact q
theorem kp_f {Q:D->Prop}(h:x=(d,.fr)) (q:Q d):keep x Q:=by subst h;exact q
theorem bx_f {Q:D->Prop}(h:x=(d,.fr)) (q:Q d):boxd x Q:=by subst h;exact q
theorem rv_s {Q:O->Prop}(h:x=(d,.st)) (q:Q (.ret d false)):retV x Q:=by subst h;exact q
theorem rv_f {Q:O->Prop}(h:x=(d,.fr)) (q:Q (.ret d true)):retV x Q:=by subst h;exact q
theorem zjS {Q:Bool->Prop}(h:d=.bl b) (q:Q b):isB d Q:=by subst h;exact q
theorem zhd {Q:Nat->Prop}{f:Nat}(h:d=.fn f) (q:Q f):isF d Q:=by subst h;exact q
theorem zhc {Q:Int->Prop}{i:Int}(h:d=.int i) (q:Q i):isZ d Q:=by subst h;exact q
theorem zic {s:Option Slot}{P Q:D->Prop}(h:s=some (.sh d)) (q:P d):sel s P Q:=by subst h;exact q
theorem zid {s:Option Slot}{P Q:D->Prop}(h:s=some (.ow d)) (q:Q d):sel s P Q:=by subst h;exact q
theorem ziK {s:Option Slot}{Q:Vl->Prop}(h:s=some (.sh d)) (q:Q (d,.st)):rdV s Q:=by subst h;exact q
theorem ziL {s:Option Slot}{Q:Vl->Prop}(h:s=some (.ow d)) (q:Q (d,.bo)):rdV s Q:=by subst h;exact q
theorem zgl {s:Option Slot}{Q:List D->Prop}(h:s=some (.ow (.lst l))) (q:Q l):owL s Q:=by subst h;exact q
theorem zgm {s:Option Slot}{Q:D->Prop}(h:s=some (.ow d)) (q:Q d):owD s Q:=by subst h;exact q
theorem zhM {s:Option D}{Q:List D->Prop}(h:s=some (.lst l)) (q:Q l):isL s Q:=by subst h;exact q
theorem zhb {n:Nat}{Q:Nat->Prop}(h:d=.ref n) (q:Q n):isR d Q:=by subst h;exact q
theorem yO (h:wpC cx ex w c ρ (nxt (fun ρ' S'=>wpCs cx ex w cs ρ' K S') K) S):wpCs cx ex w (c::cs) ρ K S:=h
theorem zhF (h:K (.next ρ) S):wpCs cx ex w [] ρ K S:=h
theorem kh {g:List Slot->Store->Prop}(h:g ρ S):nxt g K (.next ρ) S:=h
theorem zfi {g:List Slot->Store->Prop}(h:K (.ret d b) S):nxt g K (.ret d b) S:=h
theorem zfk {g:List Slot->Store->Prop}(h:K (.brk ρ) S):nxt g K (.brk ρ) S:=h
theorem zfj {g:List Slot->Store->Prop}(h:K (.cnt ρ) S):nxt g K (.cnt ρ) S:=h
theorem to_s (h:V (d,.st) S):told V (.ret d false) S:=h
theorem to_f (h:V (d,.fr) S):told V (.ret d true) S:=h
theorem zcV (h:V (.non,.st) S):told V (.next ρ) S:=h
theorem KJ {I:List Slot->Store->Prop}(h:I ρ S):trn K I (.next ρ) S:=h
theorem zfd {I:List Slot->Store->Prop}(h:I ρ S):trn K I (.cnt ρ) S:=h
theorem zfe {I:List Slot->Store->Prop}(h:K (.next ρ) S):trn K I (.brk ρ) S:=h
theorem zfc {I:List Slot->Store->Prop}(h:K (.ret d b) S):trn K I (.ret d b) S:=h
theorem wp_mono (h:za F w k ex f ds V S) (q:∀ x S,V x S->V' x S):za F w k ex f ds V' S:=(yS k).no f ds V V' S q h
theorem zu {fn:Fn}{bd:List C}(hf:F f=some fn) (hl:ds.length=fn.np) (hb:fn.body=bd) (h:wpCs (za F w k) ex w bd (entry fn ds) (told V) S):za F w (k+1) ex f ds V S:=by
 show opt (F f) _
 rw [hf];exact ⟨hl,by rw [hb];exact h⟩
theorem wp_walk {t:T}{A:List C}(I:List D->List Slot->Store->Prop)
  (step:∀ d l ρ S,I (d::l) ρ S->optS (xn ρ t (d,false)) fun ρ1=>wpCs (za F w k) ex w A ρ1 (trn K (I l)) S)
  (fin:∀ ρ S,I [] ρ S->K (.next ρ) S):∀ (l:List D) (ρ:List Slot) (S:Store),I l ρ S->forW t (fun ρ=>wpCs (za F w k) ex w A ρ) l ρ K S
 | [],ρ,S,h=>fin ρ S h
 | d::l,ρ,S,h=>zp (fun ρ1 q=>yC (yS k) A (fun _ _=>id) (jD (fun ρ S=>wp_walk I step fin l ρ S) fun _ _=>id) q) (step d l ρ S h)
theorem jC {e:E}{A:List C}(I:Nat->List Slot->Store->Prop)
  (step:∀ n ρ S,I n ρ S->wpE (yM F w k) ρ e (fun x S1=>isB x.1 fun b=>tst b (∃ m,n=m+1/\wpCs (za F w k) ex w A ρ (trn K (I m)) S1) (K (.next ρ) S1)) S):
  ∀ (N n:Nat) (ρ:List Slot) (S:Store),n < N->I n ρ S->whlW (fun ρ=>wpX (yM F w k) ρ e) (fun ρ=>wpCs (za F w k) ex w A ρ) N ρ K S
 | 0,n,ρ,S,hn,h=>absurd hn (lq n)
 | N+1,n,ρ,S,hn,h=>zb (Wj k) e (fun x S1=>xK fun b=>zM (fun ⟨m,e,q⟩=>yC (yS k) A (fun _ _=>id) (jD (fun ρ S=>jC I step N m ρ S (by lia)) fun _ _=>id) q) id) (step n ρ S h)
theorem zO {i:Nat}:wpE cf ρ (.var i) V S=(rdV ρ[i]? fun x=>V x S):=rfl
theorem xm {d:D}:wpE cf ρ (.con d) V S=(V (d,.st) S):=rfl
theorem zep {n:Nat}{d:D}:wpE cf ρ (.glo n d) V S=(V (d,.st) S):=rfl
theorem zet {op:gH}{a:E}{b:E}:wpE cf ρ (.bin op a b) V S=(wpE cf ρ a (fun x S1=>wpE cf ρ b (fun y S2=>opV (opD op (zL S2 x.1) (zL S2 y.1)) fun x=>V x S2) S1) S):=rfl
theorem zjE {a:E}:wpE cf ρ (.neg a) V S=(wpE cf ρ a (fun x S1=>isZ x.1 fun i=>V (.int (-i),.st) S1) S):=rfl
theorem Wc {op:fP}{a:E}{b:E}:wpE cf ρ (.cmp op a b) V S=(wpE cf ρ a (fun x S1=>wpE cf ρ b (fun y S2=>opt (cmpD op (zL S2 x.1) (zL S2 y.1)) fun r=>V (.bl r,.st) S2) S1) S):=rfl
theorem zjL {o1:fP}{o2:fP}{a:E}{b:E}{c:E}:wpE cf ρ (.chn o1 o2 a b c) V S=(wpE cf ρ a (fun x S1=>wpE cf ρ b (fun y S2=>opt (cmpD o1 (zL S2 x.1) (zL S2 y.1)) fun r=>tst r (wpE cf ρ c (fun z S3=>opt (cmpD o2 (zL S3 y.1) (zL S3 z.1)) fun r=>V (.bl r,.st) S3) S2) (V (.bl false,.st) S2)) S1) S):=rfl
theorem zjD {a:E}:wpE cf ρ (.not a) V S=(wpE cf ρ a (fun x S1=>isB x.1 fun b=>V (.bl (!b),.st) S1) S):=rfl
theorem J8 {a:E}{b:E}:wpE cf ρ (.and a b) V S=(wpE cf ρ a (fun x S1=>isB x.1 fun r=>tst r (wpE cf ρ b V S1) (V (.bl false,.st) S1)) S):=rfl
theorem e_or {a:E}{b:E}:wpE cf ρ (.or a b) V S=(wpE cf ρ a (fun x S1=>isB x.1 fun r=>tst r (V (.bl true,.st) S1) (wpE cf ρ b V S1)) S):=rfl
theorem zjI {c:E}{a:E}{b:E}:wpE cf ρ (.ite c a b) V S=(wpE cf ρ c (fun x S1=>isB x.1 fun r=>tst r (wpE cf ρ a V S1) (wpE cf ρ b V S1)) S):=rfl
theorem zbQ {es:List E}:wpE cf ρ (.tup es) V S=(wpEs cf ρ es (fun ds S1=>tst (fits ds.length) (V (.tup ds,.st) S1) False) S):=rfl
theorem zjG {es:List E}:wpE cf ρ (.lst es) V S=(wpEs cf ρ es (fun ds S1=>tst (fits ds.length) (V (.lst ds,.fr) S1) False) S):=rfl
theorem zjK {tk:Bool}{ks:List Key}{es:List E}:wpE cf ρ (.dic tk ks es) V S=(wpEs cf ρ es (fun ds S1=>tst (J9 tk ks ds) (V (dicV tk ks ds,.fr) S1) False) S):=rfl
theorem jA {a:E}{i:E}:wpE cf ρ (.sub a i) V S=(wpE cf ρ a (fun x S1=>wpE cf ρ i (fun y S2=>opt (subD (zL S2 x.1) y.1) fun d=>V (d,.st) S2) S1) S):=rfl
theorem zjC {a:E}{lo:Option E}{hi:Option E}:wpE cf ρ (.slc a lo hi) V S=(wpE cf ρ a (fun x S1=>wpO cf ρ lo (fun l S2=>wpO cf ρ hi (fun h S3=>opV (slcD (zL S3 x.1) l h) fun x=>V x S3) S2) S1) S):=rfl
theorem e_bi {b:BI}{e:E}:wpE cf ρ (.bi b [e]) V S=(wpE cf ρ e (fun x S1=>opV (biD b [zL S1 x.1]) fun x=>V x S1) S):=rfl
theorem zjN {b:BI}{e e':E}:wpE cf ρ (.bi b [e,e']) V S=(wpEs cf ρ [e,e'] (fun ds S1=>opV (biD b (ds.map (zL S1))) fun x=>V x S1) S):=rfl
theorem zjF {m:MT}{o:E}{es:List E}:wpE cf ρ (.mth m o es) V S=(wpE cf ρ o (fun x S1=>tst (mthK m (zL S1 x.1)) (wpEs cf ρ es (fun ds S2=>opV (mthD m (zL S2 x.1) ds) fun x=>V x S2) S1) False) S):=rfl
theorem yj {f:Nat}{es:List E}:wpE cf ρ (.call f es) V S=(wpEs cf ρ es (fun ds S1=>cf f ds V S1) S):=rfl
theorem zes {f:Nat}{perm:List Nat}{es:List E}:wpE cf ρ (.callk f perm es) V S=(wpEs cf ρ es (fun ds S1=>opt (perm.mapM fun i=>ds[i]?) fun ds=>cf f ds V S1) S):=rfl
theorem zjM {e:E}:wpE cf ρ (.box e) V S=(wpE cf ρ e (fun x S1=>boxd x fun d=>V (.ref S1.length,.st) (S1++[d])) S):=rfl
theorem zjH {f p:Nat}{js:List Nat}:wpE cf ρ (.lam f p js) V S=J5 p S[p]? (opt (shs ρ js) fun ds=>V (.lam f ds,.st) S):=rfl
theorem zeq {i:Nat}{es:List E}:wpE cf ρ (.cvl i es) V S=(rdV ρ[i]? fun x=>isLm x.1 fun f cs=>wpEs cf ρ es (fun ds S1=>cf f (ds++cs) V S1) S):=rfl
theorem zer {i:Nat}{es:List E}:wpE cf ρ (.callv i es) V S=(rdV ρ[i]? fun x=>isF x.1 fun f=>wpEs cf ρ es (fun ds S1=>cf f ds V S1) S):=rfl
theorem J7 {e:E}:wpE cf ρ (.one e) V S=(wpE cf ρ e V S):=rfl
theorem zjJ {a b:E}:wpE cf ρ (.dk1 a b) V S=(wpE cf ρ a (fun x S1=>keep x fun d=>wpE cf ρ b (fun y S2=>keep y fun e=>opt (dk1D [d,e]) fun r=>V (r,.fr) S2) S1) S):=rfl
theorem zhu {e:E}:wpE cf ρ (.flip e) V S=(wpE cf ρ e (fun x S1=>opV (zht (zL S1 x.1)) fun x=>V x S1) S):=rfl
theorem xR {t:T}{js:List Nat}{it elt:E}{ifs:List E}(h:wpI cf ρ it (fun its S1=>wJ (zeG cf ρ t js ifs elt) its [] (fun ds S2=>V (.lst ds,.fr) S2) S1) S):wpE cf ρ (.comp t js it ifs elt) V S:=h
end
theorem eqi {a b:Int}:eqP (.int a) (.int b)=(a==b):=rfl
theorem eqs {a b:Str}:eqP (.str a) (.str b)=(a==b):=rfl
theorem eqb {a b:Bool}:eqP (.bl a) (.bl b)=(a==b):=rfl
theorem eqn:eqP .non .non=true:=rfl
theorem eqt {a b:List D}:eqP (.tup a) (.tup b)=eqPs a b:=rfl
theorem eql {a b:List D}:eqP (.lst a) (.lst b)=eqPs a b:=rfl
theorem eqz:eqPs [] []=true:=rfl
theorem eqc {a b:D}{l m:List D}:eqPs (a::l) (b::m)=(eqP a b&&eqPs l m):=rfl
noncomputable def kp (p:List Int):List Key:=p.map bx
theorem Va {ks:List Key}{vs:List D}{s:Str}{v:D}(h:hasK ks (.inr s)=false) (hl:ks.length+1<=1000000):putD (.dK ks vs) (.str s) v=some (.dK (ks++[.inr s]) (vs++[v])):=by
 show (if fits (ks.length+1)=true then some (D.dK (yz ks vs (aq s) v).1 (yz ks vs (aq s) v).2) else none)=_
 rw [if_pos (fits_of hl)];unfold yz;rw [h];rfl
theorem zcE {t:T}{b:List Slot->Ko->Store->Prop}{d:D}{l:List D}{ρ:List Slot}{K:Ko}{S:Store}(h:optS (xn ρ t (d,false)) fun ρ1=>b ρ1 (trn K fun ρ' S'=>forW t b l ρ' K S') S):forW t b (d::l) ρ K S:=h
theorem zeA (ns:List Int) (lo hi:Option Int):∃ ms:List Int,cutD (ns.map D.int) lo hi=ms.map D.int/\ms.length<=ns.length:=by unfold cutD;rw [<- List.map_drop,<- lU];refine ⟨_,rfl,?_⟩;rw [bG,bI];lia
theorem K4 {x k:Int}(h0:0 < k) (h1:k<=4294967296):yl (x % k)=true:=Z4 (dC _ (by lia)) (by have:=cR x h0;lia)
theorem Ur {lo hi:Int}(h:lo < hi):zx lo hi=.int lo::zx (lo+1) hi:=by
 unfold zx;obtain ⟨m,hm⟩:∃ m,(hi - lo).toNat=m+1:=⟨(hi - lo).toNat - 1,by lia⟩
 have e:(hi - (lo+1)).toNat=m:=by lia
 rw [hm,e,mz,ϐ,bM]
 congr 1
 ·simp
 ·refine mZ fun k _=>?_
  simp;lia
theorem zdh {lo hi:Int}(h:hi<=lo):zx lo hi=[]:=by unfold zx;rw [show (hi - lo).toNat=0 by lia];rfl
theorem om1 {a b K:Nat}(h:b<=K) (e:Nat.ble a b=true):a<=K:=ϡ (ύ e) h
theorem om2 {a b K:Nat}(h:b<=K+1) (e:Nat.ble (a+1) b=true):a<=K:=Nat.le_of_succ_le_succ (ϡ (ύ e) h)
theorem om3 {b K:Nat}(h:b<=K) (e:Nat.ble 1 b=true):K=K - 1+1:=(Nat.sub_add_cancel (ϡ (ύ e) h)).symm
theorem frIn {h:Heap}:∀ (l:List Addr) (a:Addr) (o:Obj),(l.filterMap fun a=>(h.get? a).map fun o=>(a,o)).lookup a=some o->h.get? a=some o
 | [],a,o,e=>by cases e
 | b::l,a,o,e=>by
  rw [cG] at e;cases q:h.get? b with
  | none=>rw [q] at e;exact frIn l a o e
  | some x=>
   rw [q] at e;dsimp only [Option.map_some] at e;rw [ϛ] at e;cases hb:a==b with
   | true=>
    rw [hb] at e;cases eq_of_beq hb;exact q.trans e
   | false=>
    rw [hb] at e;exact frIn l a o e
set_option tactic.hygienic true in
theorem zbT {K:W.Frag}{x:Str}{st:Stmt}(e:zau K x=some (W.fnOf (nmOf x) x (xQ st) (yN st) (zT st) .none .none .none .none none .none .none,true)):WR K x st:=by
 unfold zau at e;split at e
 ·rename_i f hf
  split at e
  ·rename_i oc od fd osl hl
   obtain ⟨e1,e2⟩:=dh (Ϛ e);obtain ⟨c,k⟩:=Ϡ.mp e2;generalize hnn:nmOf x=nn at e1;cases fd;cases e1;dsimp only at hnn;subst hnn;exact zhC hf hl c k
  ·cases e
 ·cases e
set_option tactic.hygienic true in
theorem zcS {K:W.Frag}{a:Addr}{its:Array δ}(h:zfb K a=some its):∃ o n,K.lookup a=some o/\o.cls=.type "tuple"/\o.data=.seq its n/\its.size<=sizeLine:=by
 obtain ⟨o,e1,e2⟩:=Ϗ.mp h;split at e2
 ·rename_i t js n c1 c2
  split at e2
  ·rename_i c
   cases e2;obtain ⟨c3,c4⟩:=Ϡ.mp c;exact ⟨o,n,e1,by rw [c1,eq_of_beq c3],c2,ϡ (of_decide_eq_true c4) (by rw [bD];decide)⟩
  ·cases e2
 ·cases e2
theorem VD:∀ (ds:List D) (vs:List δ),ZD ds vs=true->∃ xs:List V,Vals xs vs/\∀ (Γ:Gm) (g:G),Hass Γ g ds xs
 | [],[],_=>⟨[],.nil,fun _ _=>rfl⟩
 | .str x::ds,.str y t::vs,h=>by obtain ⟨h1,h2⟩:=Ϡ.mp (show (x==y&&ZD ds vs)=true from h);obtain ⟨xs,v,k⟩:=VD ds vs h2;exact ⟨.str x::xs,.cons ⟨t,by rw [eq_of_beq h1]⟩ v,fun Γ g=>⟨_,_,rfl,rfl,k Γ g⟩⟩
 | .int x::ds,.int y t::vs,h=>by obtain ⟨h1,h2⟩:=Ϡ.mp (show (x==y&&ZD ds vs)=true from h);obtain ⟨xs,v,k⟩:=VD ds vs h2;exact ⟨.int x::xs,.cons ⟨t,by rw [eq_of_beq h1]⟩ v,fun Γ g=>⟨_,_,rfl,rfl,k Γ g⟩⟩
set_option tactic.hygienic true in
theorem zhA {K:W.Frag}{a:Addr}{ps:List (Str×Int)}(h:zhB K a ps=true):KDic K a ps:=by
 obtain ⟨h1,h2⟩:=Ϡ.mp h;refine ⟨?_,fun h k=>W.kt_text_in k h2⟩;split at h1
 ·rename_i o e
  obtain ⟨h3,h4⟩:=Ϡ.mp h1;split at h3
  ·rename_i t c
   exact ⟨o,e,by rw [c,eq_of_beq h3],lg.mp h4⟩
  ·cases h3
 ·cases h1
set_option tactic.hygienic true in
theorem zhI {K:W.Frag}{rs:List Row}{B:Tb}{c:Nat}{p:Str×List Nat}(hp:B.cls[c]?=some p) (h:zbW K B.cls p=true):∃ C,W.nsIn K Ο p.1=some (some (.ref C))/\KCls (gmOf K rs B) (B.cls.map (·.2)) c C:=by
 unfold zbW at h;cases e:caOf K p.1 with
 | none=>rw [e] at h;cases h
 | some C=>
  rw [e] at h;simp only [ε,beq_iff_eq,ak] at h;obtain ⟨⟨⟨⟨⟨⟨⟨⟨h1,h2⟩,h3⟩,h4⟩,h5⟩,h6⟩,h7⟩,h8⟩,h9⟩:=h;have hs:∀ k,subT (B.cls.map (·.2)) c k=p.2.contains k:=fun k=>by unfold subT;rw [Η,hp];rfl
  have hq:∀ k Ck,(gmOf K rs B).ca k=some Ck->W.kitOne K (.ref C) (.ref Ck)=some (p.2.contains k)/\W.exmOne K (.ref C) (.ref Ck)=some (p.2.contains k):=fun k Ck hk=>by obtain ⟨q,e1,e2⟩:=Ϗ.mp (show (B.cls[k]?).bind (fun p=>caOf K p.1)=some Ck from hk);have:=h9 k (cu.mpr (υ.mp e1).1);rw [e1] at this;dsimp only at this;rw [e2] at this;simp only [ε,beq_iff_eq] at this;exact this
  refine ⟨C,?_,⟨?_,h1,⟨h2,h3,h4,h5,h6,h7⟩,fun k Ck hk=>by rw [hs];exact (hq k Ck hk).1,h8,fun k Ck hk=>by rw [hs];exact (hq k Ck hk).2⟩⟩
  ·unfold caOf at e;split at e
   ·rename_i z;cases e;exact z
   ·cases e
  ·show (B.cls[c]?).bind (fun p=>caOf K p.1)=some C
   rw [hp];exact e
set_option tactic.hygienic true in
theorem zi7 {K:W.Frag}{rs:List Row}{B:Tb}{o:Ob}(hd:AllR (fun r=>WR K r.name r.st) rs) (h:obOk K rs o=true):∃ C,W.nsIn K Ο o.name=some (some (.ref C))/\ObOk (gmOf K rs B) o C:=by
 unfold obOk at h;cases e:caOf K o.name with
 | none=>rw [e] at h;cases h
 | some C=>
  rw [e] at h;simp only [ε,beq_iff_eq,ak] at h;obtain ⟨⟨⟨⟨⟨⟨h1,h2⟩,h3⟩,h4⟩,h5⟩,h6⟩,h7⟩:=h;have key:∀ (m:Str) (i:Nat),(m,i)∈o.meths->∃ a,(gmOf K rs B).fa i=some a/\L2.Meth K C m a:=fun m i hm=>by
   have:=h7 (m,i) hm;dsimp only at this;cases er:rs[i]? with
   | none=>rw [er] at this;cases this
   | some r=>
    rw [er] at this;dsimp only at this;have da:=(hd.at er).ex;obtain ⟨fd,F,na⟩:=eQ da;rw [na] at this;simp only [ε,beq_iff_eq] at this;refine ⟨bC da,?_,⟨this.1.1,this.1.2,this.2⟩⟩;show (rs[i]?).bind (faOf K)=_
    rw [er];exact VG da
  refine ⟨C,?_,⟨e,⟨h1,h2,h3,h4⟩,h5,key,fun i hi=>?_⟩⟩
  ·unfold caOf at e;split at e
   ·rename_i z;cases e;exact z
   ·cases e
  ·obtain ⟨a,e1,mt⟩:=key "__init__" i hi;have hy:(o.meths.any fun q=>q.1==("__init__":Str))=true:=cC.mpr ⟨_,hi,by simp⟩;rw [hy] at h6;have h6:(W.makesIn K C&&W.keepIn K (.ref C))=true:=by simpa using h6
   rw [ε] at h6;exact ⟨a,e1,⟨h6.1,mt.at_,mt.fn,h6.2⟩⟩
structure zb5 (K:W.Frag) (B:Tb) (h:Heap):Prop where
 nd:(psOf K B).Nodup
 at_:∀ (p:Nat) (x:Str),B.tabs[p]?=some x->∃ c P,tbAt K x=some (c,P)/\K.lookup P=none/\h.get? P=some (tabObj #[])
set_option tactic.hygienic true in
theorem zcZ {o:Option Obj}(h:tabE o=true):o=some (tabObj #[]):=by
 unfold tabE at h;split at h
 ·rename_i vs sl
  rw [ε,beq_iff_eq,beq_iff_eq] at h;rw [h.1,h.2]
 ·cases h
set_option tactic.hygienic true in
theorem YX {K0 K:W.Frag}{x:Str}(h:YZ K0 K x=true):∃ c P,tbAt K x=some (c,P)/\cdOk K c P=true/\K.lookup P=none/\K0.lookup P=some (tabObj #[]):=by
 unfold YZ at h;split at h
 ·rename_i q e
  rw [ε,ε] at h;exact ⟨q.1,q.2,e,h.1.1,lg.mp h.2,zcZ h.1.2⟩
 ·cases h
theorem wC {α β:Type}{f g:α->β}{Q:α->Prop}(h:∀ a,f a=g a->Q a):∀ {l:List α},l.map f=l.map g->AllR Q l
 | [],_=>trivial
 | a::l,e=>by obtain ⟨e1,e2⟩:=iM e;exact ⟨h a e1,wC h e2⟩
set_option tactic.hygienic true in
theorem zhH {K:W.Frag}{rs:List Row}{B:Tb}{x:Str}{d:D}(hd:AllR (fun r=>WR K r.name r.st) rs) (e:VM K rs x d=true):∃ u v,W.nsIn K Ο x=some (some u)/\RelV v u/\∀ g,Has (gmOf K rs B) g d v:=by
 cases d with
 | int i=>
  unfold VM at e;dsimp only at e;split at e
  ·rename_i j t q
   cases eq_of_beq e;exact zeD q
  ·cases e
 | str y=>
  unfold VM at e;dsimp only at e;split at e
  ·rename_i j t q
   cases eq_of_beq e;exact zeB q
  ·cases e
 | fn i=>
  unfold VM at e;dsimp only at e;split at e
  ·rename_i r q
   rw [ε] at e;cases eq_of_beq e.1;exact zhK q (hd.at q) (by simpa using e.2)
  ·cases e
 | ktp ds=>
  unfold VM at e;dsimp only at e;split at e
  ·rename_i a q
   split at e
   ·rename_i its z
    obtain ⟨o,n,z1,z2,z3,z4⟩:=zcS z;obtain ⟨xs,v,k⟩:=VD _ _ e;exact ⟨.ref a,.ref a,q,rfl,fun g=>⟨a,xs,rfl,⟨o,its,n,z1,z2,z3,z4,v⟩,k _ g⟩⟩
   ·cases e
  ·cases e
 | kdc ps=>
  unfold VM at e;dsimp only at e;split at e
  ·rename_i a q
   exact ⟨.ref a,.ref a,q,rfl,fun g=>⟨a,rfl,zhA e⟩⟩
  ·cases e
 | _=>cases e
theorem ze7 {K0 K:W.Frag}{B:Tb}{rs:List Row}(e:zfA K0 K B rs=Ju B rs):Txt K B rs/\(psOf K B).Nodup/\AllR (fun x=>YZ K0 K x=true) B.tabs:=by obtain ⟨e1,e2⟩:=dh e;obtain ⟨e2,e3⟩:=dh e2;obtain ⟨e3,e4⟩:=dh e3;obtain ⟨e4,e5⟩:=dh e4;obtain ⟨e5,e6⟩:=dh e5;obtain ⟨e6,e7⟩:=dh e6;have ht:AllR (fun x=>YZ K0 K x=true) B.tabs:=wC (fun p q=>q) e6;have ho:AllR (fun o=>obOk K rs o=true) B.obs:=wC (fun p q=>q) e5;have hk:AllR (fun p=>zbW K B.cls p=true) B.cls:=wC (fun p q=>q) e4;have hd:AllR (fun r=>WR K r.name r.st) rs:=wC (fun r q=>zbT q) e1;have hc:AllR (fun p:Str×D=>∃ u v,W.nsIn K Ο p.1=some (some u)/\RelV v u/\∀ g,Has (gmOf K rs B) g p.2 v) B.consts:=wC (fun p q=>zhH hd q) e3;refine ⟨⟨hd,wC (fun x q=>q) e2,fun n x d q=>hc.at q,fun c x l q=>zhI q (hk.at q),fun o hm=>zi7 hd (ho.mem hm),fun p x q=>?_⟩,of_decide_eq_true e7,ht⟩;obtain ⟨c,P,h1,h2,_⟩:=YX (ht.at q);exact ⟨c,P,h1,h2⟩
abbrev zeZ (B:Tb) (rs:List Row) (h:Heap):Prop:=∃ K:W.Frag,K.In h/\Txt K B rs/\zb5 K B h
theorem XC {a:Addr}{o:Obj}:∀ {l:W.Frag},l.lookup a=some o->(a,o)∈l
 | [],h=>by cases h
 | (b,u)::l,h=>by
  rw [ϛ] at h;cases e:a==b with
  | true=>rw [e] at h;cases h;rw [eq_of_beq e];exact θ
  | false=>rw [e] at h;exact ι _ (XC h)
theorem zhE {h:Heap}{n:Nat}{B:Tb}:(cutK (frOf h n) B).In h:=fun a o q=>by
 unfold cutK at q;split at q
 ·exact frIn _ a o q
 ·have m:=(fH.mp (XC q)).1;obtain ⟨b,_,e⟩:=gw.mp m;obtain ⟨o',e1,e2⟩:=Α.mp e;cases e2;exact e1
theorem ze8 {B:Tb}{rs:List Row}{n:Nat}(w:ϓ) (s:ς) (e:K9 (frOf s.heap n) B rs=Ju B rs):zeZ B rs s.heap:=by obtain ⟨tx,nd,ht⟩:=ze7 e;refine ⟨_,zhE,tx,nd,fun p x q=>?_⟩;obtain ⟨c,P,h1,_,h3,h4⟩:=YX (ht.at q);exact ⟨c,P,h1,h3,frIn _ _ _ h4⟩
theorem KQ {K:W.Frag}{B:Tb}{h h':Heap}(t:zb5 K B h) (k:∀ b o,h.get? b=some o->h'.get? b=some o):zb5 K B h':=⟨t.nd,fun p x q=>by
 obtain ⟨c,P,h1,h2,h3⟩:=t.at_ p x q
 exact ⟨c,P,h1,h2,k _ _ h3⟩⟩
theorem QT {P:Λ}{w:ϓ}{K:W.Frag}{mg mb:Str->Option δ}{CX:CXT}{k:Nat}{fa a:Addr}{fd:aV}{x:Str}{sp:Sp}{s₁:ς}{vs:List δ}{ns:List Int}{Ps:List Addr}
  (KX:K.In s₁.heap) (hns:s₁.heap.Ns Ο mg) (hb:s₁.heap.Ns iI mb) (hbb:∀ x:Str,x≠"__name__"->mb x=bW x) (hlim:s₁.heap.NoLimit) (hg:s₁.gens=#[])
  (ha:s₁.heap.get? a=some { cls:=.type "list",data:=.seq vs.toArray }) (hi:IntsAre vs ns) (hl:ns.length<=sizeLine) (hr:Room k callerA) (hP:∀ b∈Ps,s₁.heap.get? b=some (tabObj #[])/\K.lookup b=none/\isCodeTable s₁.heap b)
  (F:∀ base:Heap,K.In base->base.Ns Ο mg->FnOk P w K mg base CX k fa fd [x] sp) (hbind:∀ (s:ς) (u:δ),BindsTo s fd ⟨[u],[]⟩ [(x,u)])
  (hsp:∀ H:Hp,(∀ b∈Ps,H b=some (.tbl #[]))->(∀ R:Hp,(∀ b,b ∉ Ps->R b=H b)->SqL K R a (ns.map V.int))->sp [.ref a] H (fun v _=>v=.bl true) fun _ _ _=>False)
  (hCX:∀ H e s',CX [] H s₁ (fun _ _ _=>False) e s'->False):
  iZ (ώ P w) callerA (.call (.ref fa) ⟨[.ref a],[]⟩) (fun r s'=>r=.ok (.ret (.bool true))/\OldK s₁.heap s'.heap/\s'.os=s₁.os/\fB s'.gens) s₁:=by
 have rv:=L2.YM hi;have lenV:=hi.length;have aP:a ∉ Ps:=fun z=>by have:=(hP a z).1;rw [ha] at this;cases this
 have core:∀ X:Option HO,(X=none\/X=some (.frz { cls:=.type "list",data:=.seq vs.toArray } (.lst (ns.map V.int))))->(X≠none->K.lookup a=none)->(∀ R:Hp,R a=X->SqL K R a (ns.map V.int)) ->
   iZ (ώ P w) callerA (.call (.ref fa) ⟨[.ref a],[]⟩) (fun r s'=>r=.ok (.ret (.bool true))/\OldK s₁.heap s'.heap/\s'.os=s₁.os/\fB s'.gens) s₁:=by
  intro X hX hK hS;obtain ⟨H,H1,H2,H3⟩:∃ H:Hp,(∀ b∈Ps,H b=some (.tbl #[]))/\H a=X/\∀ b,b ∉ Ps->b≠a->H b=none:=⟨fun b=>if b∈Ps then some (.tbl #[]) else if b=a then X else none,fun b h=>if_pos h,(if_neg aP).trans (if_pos rfl),fun b h1 h2=>(if_neg h1).trans (if_neg h2)⟩
  have hok:HOk P w H s₁.heap:=fun b u z=>by
   by_cases hb:b∈Ps
   ·rw [H1 b hb] at z;cases z;exact (hP b hb).1
   ·by_cases hba:b=a
    ·subst hba;rw [H2] at z;rcases hX with e | e
     ·rw [e] at z;cases z
     ·rw [e] at z;cases z;exact ⟨ha,by rw [ξ];exact hl,vs,_,rv,ha⟩
    ·rw [H3 b hb hba] at z;cases z
  have noA:∀ {b:Addr}{o:Obj}{es:Array dD}{ep:Nat},s₁.heap.get? b=some o->o.data=.dict es ep->H b=none:=fun {b o es ep} e d=>by
   by_cases hb:b∈Ps
   ·rw [(hP b hb).1] at e;cases e;cases d
   ·by_cases hba:b=a
    ·subst hba;rw [ha] at e;cases e;cases d
    ·exact H3 b hb hba
  have nsK:∀ {b:Addr}{m:Str->Option δ},s₁.heap.Ns b m->(hidT s₁.heap H).Ns b m:=fun {b m} ⟨o,es,ep,e,d,r⟩=>⟨o,es,ep,Jb e (noA e d),d,r⟩
  have hKb:K.In (hidT s₁.heap H):=fun b o e=>Jb (KX b o e) (by
   by_cases hb:b∈Ps
   ·rw [(hP b hb).2.1] at e;cases e
   ·by_cases hba:b=a
    ·subst hba;rcases hX with z | z
     ·rw [H2,z]
     ·rw [hK (by rw [z];simp)] at e;cases e
    ·exact H3 b hb hba)
  have hM:L2.Mod K mg (hidT s₁.heap H):=⟨hKb,nsK hns,⟨mb,nsK hb,hbb⟩,let ⟨mc,h1,h2⟩:=hlim;⟨mc,nsK h1,h2⟩⟩
  have e0:Env0 P w K mg (hidT s₁.heap H) callerA [] s₁ H:=⟨rfl,hM,fun b o e=>zdM e,fG (zao _ _),trivial,fun b hb=>absurd (show b∈([]:List Addr) from hb) (by simp),hok,.of_eq hg⟩
  refine iY ((F _ hKb (nsK hns)).run callerA [] s₁ H ⟨[.ref a],[]⟩ [.ref a] [.ref a] _ _ hr e0 (hbind s₁ (.ref a)) (.cons rfl .nil) (hsp H H1 fun R q=>hS R ((q a aP).trans H2))) fun r s' h=>?_
  cases r with
  | error e=>exact (hCX H e s' h).elim
  | ok fl=>
   cases fl with
   | next=>exact ϰ h
   | brk=>exact ϰ h
   | cont=>exact ϰ h
   | ret u=>
    obtain ⟨v,H',os,bare,un,hok',r',q⟩:=h;have q':v=.bl true:=q;subst q';obtain rfl:u=ϕ true:=r';have key:∀ b o,s₁.heap.get? b=some o->(b ∉ Ps->s'.heap.get? b=some o)/\(b∈Ps->o=tabObj #[]/\∃ more,s'.heap.get? b=some (tabObj (#[]++more))):=fun b o e=>by
     refine ⟨fun hb=>?_,fun hb=>?_⟩
     ·by_cases hba:b=a
      ·subst hba;rcases hX with z | z
       ·exact un.keep b o e (by rw [H2,z]) (by intro z;exact absurd (show b∈([]:List Addr) from z) (by simp)) (by simp)
       ·have z2:=un.frzs b _ _ (H2.trans z);have e2:=(hok' b _ z2).1;rw [ha] at e;cases e;exact e2
      ·exact un.keep b o e (H3 b hb hba) (by intro z;exact absurd (show b∈([]:List Addr) from z) (by simp)) (by simp)
     ·have e1:=(hP b hb).1;rw [e] at e1;cases e1;obtain ⟨more,z⟩:=un.tbls b _ (H1 b hb);exact ⟨rfl,more,hok' b _ z⟩
    refine ⟨rfl,⟨fun b o e=>?_,fun b o e=>?_⟩,os,bare⟩
    ·by_cases hb:b∈Ps
     ·obtain ⟨rfl,more,z⟩:=(key b o e).2 hb;exact .inr (.inl ⟨(hP b hb).2.2,rfl,#[],more,rfl,z⟩)
     ·exact .inl ((key b o e).1 hb)
    ·by_cases hb:b∈Ps
     ·obtain ⟨rfl,more,z⟩:=(key b o e).2 hb;exact ⟨_,z⟩
     ·exact ⟨_,(key b o e).1 hb⟩
 cases hk:K.lookup a with
 | some o=>
  have e:=KX a o hk;rw [ha] at e;cases e;exact core none (.inl rfl) (fun z=>absurd rfl z) fun R _=>.inr ⟨_,vs.toArray,_,hk,rfl,rfl,rfl,by rw [ο,lenV];exact hl,by simpa using rv⟩
 | none=>exact core _ (.inr rfl) (fun _=>hk) fun R e=>.inl (.inr ⟨_,e⟩)
noncomputable def tabS (n:Nat):Store:=(Ϲ n).map D.tab
theorem zcY {n k:Nat}{c:D}(h:(tabS n)[k]?=some c):c=.tab k/\k < n:=by unfold tabS at h;rw [Η] at h;obtain ⟨i,e1,e2⟩:=Α.mp h;obtain ⟨hl,e⟩:=υ.mp e1;rw [m9] at e;exact ⟨by rw [<- e2,e],by simpa using hl⟩
theorem Ql {K:W.Frag}{B:Tb}{k:Nat}{a:Addr}{h:Heap}(t:zb5 K B h) (e:(psOf K B)[k]?=some a):∃ x c,B.tabs[k]?=some x/\tbAt K x=some (c,a)/\K.lookup a=none/\h.get? a=some (tabObj #[]):=by unfold psOf at e;rw [Η] at e;obtain ⟨x,e1,e2⟩:=Α.mp e;obtain ⟨c,P,h1,h2,h3⟩:=t.at_ k x e1;rw [h1] at e2;have e2:P=a:=e2;subst e2;exact ⟨x,c,e1,h1,h2,h3⟩
theorem zhZ {l:W.OpenLaw}{q:Λ}{loose:List Str}{XP:(Str->Option δ)->Heap->Prop}{d:DefRec}{B:Tb}{rs:List Row}{f:Nat}{r:Row}{y:Str}{wh:Nat}(hn:l.most=some 63) (hdf:d.params.defaults=[])
  (hr:rs[f]?=some r) (hd:d.name=r.name) (hdt:dotted r.name=false) (hps:r.ps=[y]) (t:Tabs B rs)
  (run:∀ ns:List Int,ns.length<=63->yM (wz rs B.lams) wh 60 f [.scr ns] (fun x _=>x.1=.bl true) (tabS B.tabs.length)):W.WalkO q loose XP (fun _ h=>zeZ B rs h) l.row.toRowW d [] (fun f vs=>PySem.call f vs):=by
 refine Att.V3 hn hdf fun w sy s₁ mg mb fa o pm cd doc a vs ns G Y ho hd' hcd hmg hobj hints hlen hg=>?_
 obtain ⟨K,KX,tx,ti⟩:=Y;obtain ⟨fa',fd,F,na⟩:=(tx.defs.at hr).ex;rw [hd] at hmg;have na':=(WN hdt).symm.trans na;have e:=hmg.symm.trans (W.mg_of KX G.T.g na');cases e;have ro:=t.rows.at hr;have md:=zgH t tx KX G.T.g;refine QT (Ps:=psOf K B) (CX:=CX1 l.prog w) (k:=120) (x:=y) (fd:=fd) (sp:=spN (gmOf K rs B) (za (wz rs B.lams) wh 60) f 1) KX G.T.g G.T.b G.T.builtins G.T.nolimit hg hobj hints (ϡ hlen (by decide)) ⟨rfl,rfl,by decide,by decide⟩ (fun b hb=>?_) (fun base KB NB=>?_) (fun s v=>?_) (fun H hT hS=>?_) fun H e s' ⟨_,_,_,_,_,_,_,_,_,_,_,_,z⟩=>z
 ·obtain ⟨p,hp⟩:=ϳ.mp hb;obtain ⟨x,c,e1,e2,e3,e4⟩:=Ql ti hp;obtain ⟨c',P',f1,f2⟩:=md.tabs p x e1;rw [e2] at f1;cases f1;obtain ⟨_,vs',_,_,_,_,_,_,_,q1,q2,q3,q4,_⟩:=((zaG md.gl f2).2 _ KX).1;exact ⟨e4,e3,_,_,vs',q1,q2,q3,q4⟩
 ·have:=fn_e (P:=l.prog) (w:=w) (base:=base) (wh:=wh) (k:=59) md hr F na (zaV wh md 59).2 (zaV wh md 59).1;rw [hps] at this;exact this
 ·obtain ⟨oc,od,kV,doc,pm,an,cdv,ct,osl,rfl,lk,hcd⟩:=F.ex;have hb:=ro.bd kV doc pm an cdv ct [v] (by rw [hps];rfl);rw [hps] at hb;exact .of_eq hb
 ·have hn:∀ b,b∈psOf K B->(if b∈psOf K B then none else H b:Option HO)=none:=fun b hb=>if_pos hb
  refine ⟨rfl,⟨fun b=>if b∈psOf K B then none else H b,psOf K B⟩,[.scr ns],tabS B.tabs.length,_,noX,⟨fun b u e=>?_,?_,ti.nd,(fun k c b h1 h2 _=>hn b (Ξ h2)),(fun k c b h1 h2=>?_)⟩,⟨.ref a,[],rfl,⟨a,rfl,hS _ fun b hb=>if_neg hb⟩,rfl⟩,run ns hlen,fun x v H' g' S' _ _ vx q=>?_,fun _ _ _ _ _ _ _ _ _ z=>z.elim⟩
  ·by_cases hb:b∈psOf K B
   ·have e:=(hn b hb).symm.trans e;cases e
   ·exact (if_neg hb).symm.trans e
  ·show (psOf K B).length=(tabS B.tabs.length).length
   unfold psOf tabS;simp
  ·obtain ⟨rfl,_⟩:=zcY h1;obtain ⟨x,c,e1,e2,e3,e4⟩:=Ql ti h2;refine ⟨(x++(".<locals>.":Str))++("<lambda>":Str),#[],?_,hT b (Ξ h2),.nil⟩
   ·show (B.tabs[k]?).bind _=_
    rw [e1];show (tbAt K x).map _=_
    rw [e2];rfl
  obtain ⟨d,k⟩:=x;cases (show d=.bl true from q);exact vx.sc fun _ z=>z.elim
theorem zjl {α β γ:Type}{o:Option γ}{f:γ->α}{g:γ->β}{a:α}{b:β}(h1:o.map f=some a) (h2:o.map g=some b):o.map (fun s=>(f s,g s))=some (a,b):=by
 cases o with
 | none=>cases h1
 | some s=>cases h1;cases h2;rfl
theorem zjk {p q:Λ}{loose:List Str}{Xt:ς->Bool}{α:Type}{Yf:ς->α}{y:α}{N:Nat}(row:String)
  (h:∀ (b:Bool) (w:ϓ),(W.openEnds gP p (w.withFollow row b) N).map (fun s=>W.openSeen q loose (mj p.main.body) Xt true s)=some (W.openGood q loose))
  (h2:∀ (b:Bool) (w:ϓ),(W.openEnds gP p (w.withFollow row b) N).map Yf=some y):W.LeftO p q loose Xt Yf (fun _=>y) N:=fun w=>by have a:=zjl (h (w.params.followText row) w) (h2 (w.params.followText row) w);rw [ϓ.withFollow_self w row] at a;exact a
theorem zhn {l:W.OpenLaw}{q:Λ}{loose:List Str}{d:DefRec}{B:Tb}{rs:List Row}{f:Nat}{r:Row}{y:Str}{wh:Nat}(N n:Nat) (ok:l.wellSaid=true)
  (left:W.LeftO l.prog q loose (fun s=>W.xlAt q [] s&&W.recOk [] s) (fun s=>K9 (frOf s.heap n) B rs) (fun _=>Ju B rs) N)
  (hdef:W.defOf q l.name=some (d,[])) (hp:l.prog.theDef l.name=some (d.params,d.body,d.scope)) (hk:W.kwWritten? d.params.kwonlyargs d.params.kw_defaults=some [])
  (okk:(W.chainsOk q&&W.opensWell l.prog&&(W.frees l.row.toRowW&&l.row.within.isEmpty))=true) (hb:l.prog.bare) (hw:l.row.toRowW.promised)
  (hn:l.most=some 63) (hdf:d.params.defaults=[]) (hr:rs[f]?=some r) (hd:d.name=r.name) (hdt:dotted r.name=false) (hps:r.ps=[y]) (t:Tabs B rs)
  (run:∀ ns:List Int,ns.length<=63->yM (wz rs B.lams) wh 60 f [.scr ns] (fun x _=>x.1=.bl true) (tabS B.tabs.length)):l.Holds:=
 W.holds_law ok fun said=>W.holds_open (r:=l.row) (q:=q) (loose:=loose) (XP:=W.XL q []) (YP:=fun _ h=>zeZ B rs h) (N:=N) left (fun w s e=>ze8 w s e) (fun w h h' Y k=>Y.elim fun K z=>⟨K,z.1.keeps k,z.2.1,KQ z.2.2 k⟩)
  (fun s e=>W.xl_of s (Ϡ.mp e).1) W.XL.keeps hdef hp hk (fun s e=>W.recFacts_of (Ϡ.mp e).2) (mG _) said okk hb hw (zhZ hn hdf hr hd hdt hps t run)
theorem zfl {p:Nat}{o:Option D}{Q:Prop}(h:o=some (.tab p)) (q:Q):J5 p o Q:=by subst h;exact ⟨rfl,q⟩
theorem zjj {d:D}{f:Nat}{cs:List D}{Q:Nat->List D->Prop}(h:d=.lam f cs) (q:Q f cs):isLm d Q:=by subst h;exact q
theorem zdo {ks:List Key}{vs:List D}{i:Int}{v:D}(h:hasK ks (.inl i)=false) (hl:ks.length+1<=1000000):putD (.dK ks vs) (.int i) v=some (.dK (ks++[.inl i]) (vs++[v])):=by
 show (if fits (ks.length+1)=true then some (D.dK (yz ks vs (bx i) v).1 (yz ks vs (bx i) v).2) else none)=_
 rw [if_pos (fits_of hl)];unfold yz;rw [h];rfl
end EV
namespace Q19
open PySem PySem.Spec PyProof.Rows L2 EV
theorem zd7:W.LeftO ν.prog xj [("ROW_PARTS":Str),("DOOR_PARTS":Str)] (fun s=>W.xlAt xj [] s&&W.recOk [] s) (fun s=>EV.K9 (EV.frOf s.heap 400) B rs) (fun _=>EV.Ju B rs) 4000:=EV.zjk "special-get-raises" (fun b w=>by
 cases b
 ·exact Vo w
 ·exact JW w) (fun b w=>by
 cases b
 ·exact Vn w
 ·exact JV w)
local macro_rules | `(⋯) => `(⟨by decide +kernel, by decide +kernel, rfl, rfl, fun _ _ _ _ _ _ us hl => by first | (obtain ⟨a0, e⟩ := ln1 hl; subst e; rfl) | (obtain ⟨a0, a1, e⟩ := ln2 hl; subst e; rfl) | (obtain ⟨a0, a1, a2, e⟩ := ln3 hl; subst e; rfl) | (obtain ⟨a0, a1, a2, a3, e⟩ := ln4 hl; subst e; rfl) | (obtain ⟨a0, a1, a2, a3, a4, e⟩ := ln5 hl; subst e; rfl) | (obtain ⟨a0, a1, a2, a3, a4, a5, e⟩ := ln6 hl; subst e; rfl)⟩)
theorem J0:zP B Zk:=⋯
theorem Vq:zP B kE:=⋯
theorem Q7:zP B Xg:=⋯
theorem XF:zP B jg:=⋯
theorem vZ:zP B yW:=⋯
theorem Q5:zP B Xe:=⋯
theorem Yg:zP B ut:=⋯
theorem Vp:zP B km:=⋯
theorem Q6:zP B Xf:=⋯
theorem Vr:zP B kI:=⋯
theorem Yi:zP B uw:=⋯
theorem Q9:zP B Xi:=⋯
theorem J1:zP B Zm:=⋯
theorem uF:zP B xH:=⋯
theorem uY:zP B xW:=⋯
theorem Za:zP B vI:=⋯
theorem Vs:zP B kJ:=⋯
theorem Q8:zP B Xh:=⋯
theorem Yh:zP B uv:=⋯
theorem zab:zP B Xk:=⋯
theorem qZ:zP B vH:=⋯
theorem zaa:zP B Xj:=⋯
theorem zbM:zP B Ut:=⋯
theorem vY:zP B yV:=⋯
theorem J2:zP B Zn:=⋯
theorem Yk:zP B uy:=⋯
theorem J3:zP B Zo:=⋯
theorem Vu:zP B kW:=⋯
theorem Yl:zP B uz:=⋯
theorem XH:zP B jh:=⋯
theorem Vv:zP B kY:=⋯
theorem Ym:zP B uA:=⋯
theorem Vt:zP B kO:=⋯
theorem XJ:zP B ji:=⋯
theorem Vx:zP B qb:=⋯
theorem Vw:zP B kZ:=⋯
theorem qt:zP B wN:=⋯
theorem Vy:zP B qd:=⋯
theorem v4:zP B yX:=⋯
theorem uZ:zP B xX:=⋯
theorem qw:zP B wQ:=⋯
theorem v6:zP B xf:=⋯
theorem jy:zP B wF:=⋯
theorem qu:zP B wO:=⋯
theorem qx:zP B wR:=⋯
theorem v5:zP B yZ:=⋯
theorem Yj:zP B ux:=⋯
theorem zjn:zP B zdk:=⋯
theorem zde:AllR (zP B) rs:=⟨J0,Vq,Q7,XF,vZ,Q5,Yg,Vp,Q6,Vr,Yi,Q9,J1,uF,uY,Za,Vs,Q8,Yh,zab,qZ,zaa,zbM,vY,J2,Yk,J3,Vu,Yl,XH,Vv,Ym,Vt,XJ,Vx,Vw,qt,Vy,v4,uZ,qw,v6,jy,qu,qx,v5,Yj,zjn,ϱ⟩
theorem zgS:AllR (KwOk rs) B.kws:=ϱ
theorem tabs:Tabs B rs:=⟨rfl,rfl,zde,zgS⟩
noncomputable def wh:Nat:=600
noncomputable def F:=wz rs B.lams
section
variable {k:Nat}{x0 x1 x2 x3 x4 x5 x6:D}{S:Store}{V:Po}{ex:Xp}
set_option hygiene false
local macro_rules | `(↥($b,$n,$r,$d)) => `(wpCs (za F wh k) ex wh $b $r (told V) S → za F wh (k+1) ex $n $d V S)
theorem xT:↥(ZL,0,[.sh x0],[x0]):=fun h=>zu rfl rfl rfl h
theorem vP:↥(qP,1,[.sh x0],[x0]):=fun h=>zu rfl rfl rfl h
theorem YJ:↥(WF,2,[.sh x0],[x0]):=fun h=>zu rfl rfl rfl h
theorem jd:↥(jo,3,[.sh x0,.sh x1],[x0,x1]):=fun h=>zu rfl rfl rfl h
theorem zR:↥(xu,4,[.sh x0,.sh x1,.sh x2],[x0,x1,x2]):=fun h=>zu rfl rfl rfl h
theorem j5:↥(Wz,5,[.sh x0],[x0]):=fun h=>zu rfl rfl rfl h
theorem zV:↥(uM,6,[.sh x0,.sh x1,.sh x2],[x0,x1,x2]):=fun h=>zu rfl rfl rfl h
theorem j4:↥(qO,7,[.sh x0],[x0]):=fun h=>zu rfl rfl rfl h
theorem uf:↥(WD,8,[.sh x0,.sh x1,.sh x2,.sh x3,.sh x4],[x0,x1,x2,x3,x4]):=fun h=>zu rfl rfl rfl h
theorem zF:↥(qQ,9,[.sh x0,.sh x1,.sh x2,.sh x3,.no],[x0,x1,x2,x3]):=fun h=>zu rfl rfl rfl h
theorem yQ:↥(uO,10,[.sh x0,.no,.no],[x0]):=fun h=>zu rfl rfl rfl h
theorem yU:↥(WK,11,[.sh x0],[x0]):=fun h=>zu rfl rfl rfl h
theorem Ze:↥(ZM,12,[.sh x0,.sh x1],[x0,x1]):=fun h=>zu rfl rfl rfl h
theorem xG:↥(xN,13,[.sh x0,.sh x1],[x0,x1]):=fun h=>zu rfl rfl rfl h
theorem xU:↥(xZ,14,[.sh x0,.sh x1],[x0,x1]):=fun h=>zu rfl rfl rfl h
theorem xO:↥(vN,15,[.sh x0,.sh x1],[x0,x1]):=fun h=>zu rfl rfl rfl h
theorem vQ:↥(qR,16,[.sh x0,.sh x1,.sh x2],[x0,x1,x2]):=fun h=>zu rfl rfl rfl h
theorem wL:↥(xq,17,[.sh x0,.sh x1,.sh x2,.sh x3],[x0,x1,x2,x3]):=fun h=>zu rfl rfl rfl h
theorem ug:↥(uN,18,[.sh x0,.sh x1],[x0,x1]):=fun h=>zu rfl rfl rfl h
theorem zy:↥(WM,19,[.sh x0,.sh x1,.sh x2,.sh x3],[x0,x1,x2,x3]):=fun h=>zu rfl rfl rfl h
theorem vD:↥(vM,20,[.sh x0,.sh x1,.sh x2],[x0,x1,x2]):=fun h=>zu rfl rfl rfl h
theorem YK:↥(WL,21,[.sh x0,.sh x1,.sh x2],[x0,x1,x2]):=fun h=>zu rfl rfl rfl h
theorem Uc:↥(Jp,22,[.sh x0,.sh x1],[x0,x1]):=fun h=>zu rfl rfl rfl h
theorem vO:↥(zG,23,[.sh x0,.no,.no],[x0]):=fun h=>zu rfl rfl rfl h
theorem Jv:↥(ZP,24,[.sh x0,.no,.no,.no,.no],[x0]):=fun h=>zu rfl rfl rfl h
theorem ZW:↥(uP,25,[.sh x0,.no,.no,.no,.no],[x0]):=fun h=>zu rfl rfl rfl h
theorem Jw:↥(ZQ,26,[.sh x0,.no,.no,.no],[x0]):=fun h=>zu rfl rfl rfl h
theorem W0:↥(qU,27,[.sh x0,.sh x1,.no,.no,.no],[x0,x1]):=fun h=>zu rfl rfl rfl h
theorem ZX:↥(uQ,28,[.sh x0,.sh x1],[x0,x1]):=fun h=>zu rfl rfl rfl h
theorem je:↥(jq,29,[.sh x0,.sh x1,.sh x2,.no,.no,.no],[x0,x1,x2]):=fun h=>zu rfl rfl rfl h
theorem W2:↥(qW,30,[.sh x0,.sh x1,.no,.no,.no,.no,.no],[x0,x1]):=fun h=>zu rfl rfl rfl h
theorem ZZ:↥(uR,31,[.sh x0,.sh x1,.sh x2,.sh x3,.no,.no,.no,.no,.no],[x0,x1,x2,x3]):=fun h=>zu rfl rfl rfl h
theorem WY:↥(qT,32,[.sh x0,.sh x1,.sh x2,.sh x3,.sh x4,.no,.no,.no],[x0,x1,x2,x3,x4]):=fun h=>zu rfl rfl rfl h
theorem YL:↥(jr,33,[.sh x0,.sh x1,.sh x2],[x0,x1,x2]):=fun h=>zu rfl rfl rfl h
theorem W4:↥(ye,34,[.sh x0,.sh x1,.sh x2,.sh x3,.sh x4,.sh x5,.no,.no,.no],[x0,x1,x2,x3,x4,x5]):=fun h=>zu rfl rfl rfl h
theorem W3:↥(yt,35,[.sh x0,.sh x1,.sh x2,.sh x3,.sh x4,.sh x5,.no,.no,.no,.no,.no],[x0,x1,x2,x3,x4,x5]):=fun h=>zu rfl rfl rfl h
theorem j6:↥(vh,36,[.sh x0,.sh x1,.no,.no,.no,.no,.no,.no,.no,.no],[x0,x1]):=fun h=>zu rfl rfl rfl h
theorem vR:↥(xF,38,[.sh x0],[x0]):=fun h=>zu rfl rfl rfl h
theorem uT:↥(wg,39,[.sh x0],[x0]):=fun h=>zu rfl rfl rfl h
theorem j8:↥(vp,40,[.sh x0,.sh x1],[x0,x1]):=fun h=>zu rfl rfl rfl h
theorem vV:↥(zJ,41,[.sh x0,.sh x1,.sh x2,.no,.no],[x0,x1,x2]):=fun h=>zu rfl rfl rfl h
theorem jt:↥(wG,42,[.sh x0,.sh x1,.sh x2,.sh x3,.no],[x0,x1,x2,x3]):=fun h=>zu rfl rfl rfl h
theorem j7:↥(vm,43,[.sh x0,.sh x1,.no,.no],[x0,x1]):=fun h=>zu rfl rfl rfl h
theorem j9:↥(zZ,44,[.sh x0,.sh x1,.sh x2,.sh x3,.sh x4,.no,.no,.no,.no,.no,.no,.no,.no,.no,.no],[x0,x1,x2,x3,x4]):=fun h=>zu rfl rfl rfl h
theorem vU:↥(zH,45,[.sh x0,.no,.no,.no,.no,.no],[x0]):=fun h=>zu rfl rfl rfl h
theorem ZV:↥(yh,46,[.sh x0,.sh x1,.no,.no,.no,.no,.no,.no,.no,.no,.no],[x0,x1]):=fun h=>zu rfl rfl rfl h
theorem zh0:↥(zhU,47,[.sh x0,.no,.no,.no],[x0]):=fun h=>zu rfl rfl rfl h
end
end Q19
local macro_rules | `(tactic| omega) => `(tactic| first | decide | with_reducible exact EV.om1 ‹_› (by with_unfolding_all rfl) | with_reducible exact EV.om2 ‹_› (by with_unfolding_all rfl) | with_reducible exact EV.om3 ‹_› (by with_unfolding_all rfl) | lia | omega (config := {}))
open EV in
local macro_rules | `(tactic| infer_instance) => `(tactic| first
 | ((with_reducible apply ziK); (exact rfl))
 | ((with_reducible apply ziL); (exact rfl))
 | ((with_reducible apply zic); (exact rfl))
 | ((with_reducible apply zid); (exact rfl))
 | ((with_reducible apply kp_s); (exact rfl))
 | ((with_reducible apply kp_f); (exact rfl))
 | ((with_reducible apply yK); (first | exact rfl | exact zeX (by simp <;> omega) | exact zdU rfl | exact UL rfl | exact UL (K4 (by decide) (by decide))))
 | ((with_reducible apply ju); (exact rfl))
 | ((with_reducible apply yL); (first | exact Va (by decide) (by decide) | exact rfl | exact YW (by decide) rfl | exact UV (by decide) rfl))
 | ((with_reducible apply zE); (exact rfl); (try simp only [lC, List.zip, List.zipWith, Ϥ, bj, if_true, if_false]))
 | ((with_reducible apply zjS); (exact rfl))
 | ((with_reducible apply zhc); (exact rfl))
 | ((with_reducible apply zhd); (exact rfl))
 | ((with_reducible apply yD); (first | with_reducible rfl | decide | (focus (simp only [isNone, zL, eqi, eqs, eqb, eqn, eqt, eql, eqz, eqc, beq_self_eq_true, Bool.not_true, Bool.not_false, d8, cJ]; done)) | (dsimp only [zL]; decide) | (refine fits_of ?_; (try simp only [Υ, ξ, aY, fK]) <;> omega)))
 | ((with_reducible apply xV); (first | with_reducible rfl | decide | (focus (simp only [isNone, zL, eqi, eqs, eqb, eqn, eqt, eql, eqz, eqc, beq_self_eq_true, Bool.not_true, Bool.not_false, d8, cJ]; done)) | (dsimp only [zL]; decide)))
 | ((with_reducible apply bx_f); (exact rfl))
 | ((with_reducible apply rv_s); (exact rfl))
 | ((with_reducible apply rv_f); (exact rfl))
 | ((with_reducible apply zgl); (exact rfl))
 | ((with_reducible apply zgm); (exact rfl))
 | ((with_reducible apply zhM); (exact rfl))
 | ((with_reducible apply zhb); (exact rfl))
 | ((with_reducible apply zfl); (exact rfl))
 | ((with_reducible apply zjj); (exact rfl))
 | ((with_reducible apply yO); (dsimp only [wpC, zO, xm, zep, zet, zjE, Wc, zjL, zjD, J8, e_or, zjI, zbQ, zjG, zjK, zjJ, jA, zjC, e_bi, zjN, zjF, yj, zes, zer, zjH, zeq, zjM, J7, zhu, wpEs, wpO, wpF, wpI, Ϥ, fz, ϝ, ϥ, fL]))
 | (with_reducible apply zhF)
 | (with_reducible apply kh)
 | (with_reducible apply zfi)
 | (with_reducible apply zfk)
 | (with_reducible apply zfj)
 | (with_reducible apply to_s)
 | (with_reducible apply to_f)
 | (with_reducible apply zcV)
 | (with_reducible apply KJ)
 | (with_reducible apply zfd)
 | (with_reducible apply zfe)
 | (with_reducible apply zfc))
local macro_rules | `(tactic| nofun) => `(tactic| (repeat infer_instance))
namespace Q19
open PySem L2 EV
noncomputable abbrev St (T:Store):Store:=.tab 0::.tab 1::T
noncomputable abbrev yes:Vl:=(.bl true,.st)
noncomputable abbrev no:Vl:=(.bl false,.st)
abbrev Is (K f:Nat) (ds:List D) (v:Vl) (S:Store):Prop:=yM F wh K f ds (fun x S'=>x=v/\S'=S) S
section
variable {K f:Nat}{ds:List D}{S:Store}
theorem Is.go {v:Vl}{V:Po}(h:Is K f ds v S) (q:V v S):yM F wh K f ds V S:=wp_mono h (by rintro _ _ ⟨rfl,rfl⟩;exact q)
end
theorem up {n K:Nat}(h:n+1<=K):∃ k,n<=k/\K=k+1:=⟨K - 1,by omega,by omega⟩
theorem nt {b:Bool}(h:b=true):(!b)=false:=by rw [h];rfl
theorem nf {b:Bool}(h:b=false):(!b)=true:=by rw [h];rfl
theorem wY {s:D->(Option D->Store->Prop)->Store->Prop}{V:List D->Store->Prop}{S:Store}(d:D):∀ (xs acc:List D),acc.length+xs.length<=1000->(∀ x∈xs,∀ Q:Option D->Store->Prop,Q (some d) S->s x Q S)->V (acc++η xs.length d) S->wJ s xs acc V S
 | [],acc,_,_,v=>by rw [show acc++η ([]:List D).length d=acc by simp] at v;exact v
 | x::xs,acc,hl,h,v=>by refine h x θ _ ?_;have hl:acc.length+(xs.length+1)<=1000:=hl;refine yD (fits_of (by omega)) (wY d xs (acc++[d]) (by simp;omega) (fun y hy=>h y (ι _ hy)) ?_);simpa [ϯ] using v
theorem Wq (b:Bool):∀ n,vL (η n (.bl b))=some (η n b)
 | 0=>rfl
 | n+1=>by
  show (vL (η n (.bl b))).map (b::·)=_
  rw [Wq b n];rfl
theorem ue (n:Nat):biD .all [.lst (η n (.bl true))]=some (.bl true,false):=by
 show ((vL (η n (.bl true))).map fun bs=>D.bl (bs.all id)).map (fun d=>(d,false))=_
 rw [Wq];show some (D.bl ((η n true).all id),false)=_
 rw [show (η n true).all id=true by rw [List.all_replicate];split <;> rfl]
section
variable {K:Nat}{S:Store}{i:Int}{l:List D}
theorem jY (hK:1<=K):Is K 0 [.int i] yes S:=by obtain ⟨K,hk,rfl⟩:=up hK;refine xT ?_;nofun;exact ⟨rfl,rfl⟩
theorem zcN (hK:1<=K):Is K 0 [.tup l] no S:=by obtain ⟨K,hk,rfl⟩:=up hK;refine xT ?_;nofun;exact ⟨rfl,rfl⟩
theorem zcO {s:Str}(hK:1<=K):Is K 0 [.str s] no S:=by obtain ⟨K,hk,rfl⟩:=up hK;refine xT ?_;nofun;exact ⟨rfl,rfl⟩
theorem zcP (hK:1<=K):Is K 0 [.non] no S:=by obtain ⟨K,hk,rfl⟩:=up hK;refine xT ?_;nofun;exact ⟨rfl,rfl⟩
theorem zi8 (h0:0<=i) (h1:i < 1000000007) (hK:2<=K):Is K 1 [.int i] yes S:=by obtain ⟨K,hk,rfl⟩:=up hK;refine vP ?_;nofun;refine (jY hk).go ?_;nofun;refine yD (decide_eq_true h0) ?_;nofun;exact ⟨by show (D.bl (decide (i < 1000000007)),Kd.st)=_;rw [decide_eq_true h1],rfl⟩
theorem zgC (hK:2<=K):Is K 1 [.tup l] no S:=by obtain ⟨K,hk,rfl⟩:=up hK;refine vP ?_;nofun;refine (zcN hk).go ?_;nofun;exact ⟨rfl,rfl⟩
noncomputable def sgL:List Str:=["+","-","*","<","="]
theorem zfy {s:Str}(h:s∈sgL) (hK:1<=K):Is K 2 [.str s] yes S:=by
 obtain ⟨K,hk,rfl⟩:=up hK;refine YJ ?_;nofun;refine ⟨?_,rfl⟩;show (D.bl ([D.str "+",.str "-",.str "*",.str "<",.str "="].any fun y=>eqP y (.str s)),Kd.st)=yes
 rw [show ([D.str "+",.str "-",.str "*",.str "<",.str "="].any fun y=>eqP y (.str s))=true by revert s h;decide +kernel]
theorem KH {a b:Int}(hK:1<=K):Is K 6 [.tup l,.int a,.int b] (.bl (decide (a<=l.length)&&decide ((l.length:Int)<=b)),.st) S:=by
 obtain ⟨K,hk,rfl⟩:=up hK;refine zV ?_;nofun;refine zB (fun h1=>?_) (fun h1=>?_)
 ·nofun;refine ⟨?_,rfl⟩;show (D.bl (decide ((l.length:Int)<=b)),Kd.st)=_
  rw [show decide (a<=(l.length:Int))=true from h1,cJ]
 ·nofun;refine ⟨?_,rfl⟩;rw [show decide (a<=(l.length:Int))=false from h1,aA]
theorem tupY {a b:Int}(h1:a<=l.length) (h2:(l.length:Int)<=b) (hK:1<=K):Is K 6 [.tup l,.int a,.int b] yes S:=by have:=KH (S:=S) (l:=l) (a:=a) (b:=b) hK;rw [decide_eq_true h1,decide_eq_true h2] at this;exact this
theorem tupE {n:Int}(h:(l.length:Int)=n) (hK:1<=K):Is K 6 [.tup l,.int n,.int n] yes S:=tupY (by omega) (by omega) hK
theorem zK {s:Str}(hK:1<=K):Is K 7 [.tup (.str s::l)] yes S:=by obtain ⟨K,hk,rfl⟩:=up hK;refine j4 ?_;nofun;refine yD (decide_eq_true (by simp)) ?_;nofun;exact ⟨rfl,rfl⟩
theorem zY {b:Int}(h0:0<=i) (h1:i < b) (hK:2<=K):Is K 12 [.int i,.int b] yes S:=by obtain ⟨K,hk,rfl⟩:=up hK;refine Ze ?_;nofun;refine (jY hk).go ?_;nofun;refine yD (decide_eq_true h0) ?_;nofun;exact ⟨by show (D.bl (decide (i < b)),Kd.st)=_;rw [decide_eq_true h1],rfl⟩
inductive Tg (b:Int):D->Prop
 | non:Tg b .non
 | num {i:Int}:0<=i->i < b->Tg b (.int i)
theorem V0 {b:Int}{d:D}(h:Tg b d) (hK:3<=K):Is K 13 [d,.int b] yes S:=by
 obtain ⟨K,hk,rfl⟩:=up hK;refine xG ?_;cases h with
 | non=>nofun;exact ⟨rfl,rfl⟩
 | num h0 h1=>
  nofun;refine (zY h0 h1 hk).go ?_;nofun;exact ⟨rfl,rfl⟩
end
section
variable {K k:Nat}{T S:Store}{s:Int}{x0 x1:D}{V:Po}{ex:Xp}
theorem Ku (h:wpCs (za F wh k) ex wh [.ret (.call 15 [.var 0,.var 1])] [.sh x0,.sh x1] (told V) S):za F wh (k+1) ex 48 [x0,x1] V S:=zu rfl rfl rfl h
theorem zb7 (h:wpCs (za F wh k) ex wh [.ret (.call 13 [.var 0,.var 1])] [.sh x0,.sh x1] (told V) S):za F wh (k+1) ex 49 [x0,x1] V S:=zu rfl rfl rfl h
theorem zb6 (h:wpCs (za F wh k) ex wh [.ret (.call 14 [.var 0,.var 1])] [.sh x0,.sh x1] (told V) S):za F wh (k+1) ex 50 [x0,x1] V S:=zu rfl rfl rfl h
theorem zgK {i:Int}(h0:0<=i) (h1:i < s) (hK:3<=K):Is K 15 [.tup [.str "slot",.int i],.int s] yes S:=by obtain ⟨K,hk,rfl⟩:=up hK;refine xO ?_;nofun;refine (tupE rfl (by omega)).go ?_;nofun;refine (zY h0 h1 hk).go ?_;nofun;exact ⟨rfl,rfl⟩
theorem zgL {a b c:D}(hK:3<=K):Is K 15 [.tup [a,b,c],.int s] no S:=by obtain ⟨K,hk,rfl⟩:=up hK;refine xO ?_;nofun;refine (KH (by omega)).go ?_;nofun;exact ⟨rfl,rfl⟩
inductive Wt (s:Int):Nat->D->Prop
 | num {n:Nat}{i:Int}:0<=i->i < 1000000007->Wt s n (.int i)
 | slot {n:Nat}{i:Int}:0<=i->i < s->Wt s n (.tup [.str "slot",.int i])
 | tri {n:Nat}{x:Str}{a b:D}:x∈sgL->Wt s n a->Wt s n b->Wt s (n+1) (.tup [.str x,a,b])
theorem Wt.deep {n:Nat}{d:D}(w:Wt s n d) {m:Nat}(h:n<=m):Wt s m d:=by
 induction w generalizing m with
 | num h0 h1=>exact .num h0 h1
 | slot h0 h1=>exact .slot h0 h1
 | tri h0 _ _ i1 i2=>
  obtain ⟨m,rfl⟩:∃ k,m=k+1:=⟨m - 1,by omega⟩
  exact .tri h0 (i1 (by omega)) (i2 (by omega))
theorem za0 {n:Nat}{d:D}(w:Wt s n d):∀ {K:Nat},n+6<=K->Is K 4 [d,.lam 48 [.int s],.int n] yes S:=by
 induction w with
 | num h0 h1=>
  intro K hK;obtain ⟨K,hk,rfl⟩:=up hK;refine zR ?_;nofun;refine (zi8 h0 h1 (by omega)).go ?_;nofun;exact ⟨rfl,rfl⟩
 | slot h0 h1=>
  intro K hK;obtain ⟨K,hk,rfl⟩:=up hK;obtain ⟨K,hk,rfl⟩:=up (show _+4+1<=K from hk);refine zR ?_;nofun;refine (zgC (by omega)).go ?_;nofun;refine Ku ?_;nofun;refine (zgK h0 h1 (by omega)).go ?_;nofun;exact ⟨rfl,rfl⟩
 | @tri n x a b h0 _ _ i1 i2=>
  intro K hK;obtain ⟨K,hk,rfl⟩:=up (show n+6+1<=K by omega);obtain ⟨K,hk',rfl⟩:=up (show n+5+1<=K from hk);refine zR ?_;nofun;refine (zgC (by omega)).go ?_;nofun;refine Ku ?_;nofun;refine (zgL (by omega)).go ?_;nofun;refine xV ?_ ?_
  ·show ((((n+1:Nat):Int))==0)=false
   rw [beq_eq_false_iff_ne];omega
  nofun;refine (zfy h0 (by omega)).go ?_;nofun;have e:(((n+1:Nat):Int)) - 1=(n:Int):=by omega
  rw [e];refine (i1 (by omega)).go ?_;nofun;rw [e];refine (i2 (by omega)).go ?_;nofun;exact ⟨rfl,rfl⟩
theorem jn {d:D}(w:Wt s 3 d) (hK:11<=K):Is K 14 [d,.int s] yes (St T):=by
 obtain ⟨K,hk,rfl⟩:=up hK;obtain ⟨K,hk',rfl⟩:=up hk;refine xU ?_;nofun;show za F wh _ noX 3 [d,.lam 48 [.int s]] _ _
 refine jd ?_;nofun;refine (za0 w (by omega)).go ?_;nofun;exact ⟨rfl,rfl⟩
end
noncomputable def chars (s:Str):List D:=s.cps.toList.map fun c=>.str ⟨#[c]⟩
noncomputable def letD (d:D):Bool:=match inD d (.str "abcdefghijklmnopqrstuvwxyz") with
 | some b=>b
 | none=>false
noncomputable def wdS (s:Str):Bool:=decide (1<=s.length)&&decide (s.length<=8)&&(chars s).all letD&&decide (s.cps.toList.length<=1000)
noncomputable def mkL:List Str:=["do","done","undo","undone"]
section
variable {K:Nat}{T S:Store}{s:Int}{d:D}
theorem wK {w:Str}(h:wdS w=true) (hK:1<=K):Is K 5 [.str w] yes S:=by
 obtain ⟨K,hk,rfl⟩:=up hK;unfold wdS at h;rw [ε,ε,ε,decide_eq_true_eq,decide_eq_true_eq,decide_eq_true_eq,ak] at h;obtain ⟨⟨⟨h1,h2⟩,h3⟩,h4⟩:=h;refine j5 ?_;have e:biD .len [.str w]=some (.int w.length,false):=by
  show (if fits w.length=true then _ else _)=_
  rw [if_pos (fits_of (by omega))]
 nofun;refine yK e ?_;nofun;refine yD (decide_eq_true (by omega)) ?_;nofun;refine xV (nt (decide_eq_true (by show (w.length:Int)<=8;omega))) ?_;nofun;refine xR ?_;dsimp only [wpI,zO];nofun;refine wY (.bl true) (chars w) [] (by simp [chars];simpa using h4) (fun x hx Q hQ=>?_) ?_
 ·refine zE rfl ?_;dsimp only [wpF,Wc,zep,zO,inn,nT,η,Ϩ,Ε,Ϥ];have hx2:=h3 x hx;obtain ⟨c,_,rfl⟩:=Ψ.mp hx;nofun;have:D.bl (letD (.str ⟨#[c]⟩))=.bl true:=by rw [hx2]
  rw [<- this] at hQ;exact hQ
 ·refine yK (ue _) ?_;nofun;exact ⟨rfl,rfl⟩
inductive Rw (s:Int):D->Prop
 | put {i:Int}{e:D}:0<=i->i < s->Wt s 3 e->Rw s (.tup [.str "put",.int i,e])
 | tell {e:D}:Wt s 3 e->Rw s (.tup [.str "tell",e])
 | mark {w:Str}{i:Int}:w∈mkL->0<=i->i < 24->Rw s (.tup [.str "mark",.str w,.int i])
theorem zdf (h:Rw s d) (hK:12<=K):Is K 18 [d,.int s] yes (St T):=by
 obtain ⟨K,hk,rfl⟩:=up hK;refine ug ?_;cases h with
 | put h0 h1 w=>
  nofun;refine (zK (by omega)).go ?_;nofun;refine (zY h0 h1 (by omega)).go ?_;nofun;refine (jn w (by omega)).go ?_;nofun;exact ⟨rfl,rfl⟩
 | tell w=>
  nofun;refine (zK (by omega)).go ?_;nofun;refine (jn w (by omega)).go ?_;nofun;exact ⟨rfl,rfl⟩
 | @mark w i h0 h1 h2=>
  nofun;refine (zK (by omega)).go ?_;nofun;refine xV rfl ?_;nofun;refine yD (show ([D.str "do",.str "done",.str "undo",.str "undone"].any fun y=>eqP y (.str w))=true by clear hk;revert w h0;decide +kernel) ?_;nofun;refine (zY h1 h2 (by omega)).go ?_;nofun;exact ⟨rfl,rfl⟩
end
noncomputable abbrev CD (cts:List (Str×Int)):D:=.dK (cts.map fun p=>.inr p.1) (cts.map fun p=>.int p.2)
theorem Ys:∀ {cts:List (Str×Int)}{f:Str}{n:Int},(cts.map (·.1)).Nodup->(f,n)∈cts->yg (cts.map fun p=>(aq p.1:Key)) (cts.map fun p=>D.int p.2) (.inr f)=some (.int n)
 | (g,m)::cts,f,n,hd,h=>by
  have hd:(g::cts.map (·.1)).Nodup:=hd;rw [bA] at hd;unfold yg;rw [ϐ,ϐ,jz];by_cases e:g=f
  ·rw [if_pos (by rw [e])];rcases χ.mp h with z | z
   ·cases z;rfl
   ·exact absurd (Ψ.mpr ⟨_,z,e.symm⟩) hd.1
  ·rw [if_neg (fun z=>e (aq.inj z))];rcases χ.mp h with z | z
   ·cases z;exact absurd rfl e
   ·have:=Ys hd.2 z;unfold yg at this;cases q:jz (cts.map fun p=>(aq p.1:Key)) (.inr f) with
    | none=>rw [q] at this;cases this
    | some i=>
     rw [q] at this;exact this
theorem qF:∀ {cts:List (Str×Int)}{f:Str},f ∉ cts.map (·.1)->yg (cts.map fun p=>(aq p.1:Key)) (cts.map fun p=>D.int p.2) (.inr f)=none
 | [],f,_=>rfl
 | (g,m)::cts,f,h=>by
  have h:f ∉ g::cts.map (·.1):=h;rw [χ,not_or] at h;have:=qF (cts:=cts) h.2;unfold yg at this ⊢;rw [ϐ,ϐ,jz,if_neg (fun z=>h.1 (aq.inj z).symm)];cases q:jz (cts.map fun p=>(aq p.1:Key)) (.inr f) with
  | none=>rfl
  | some i=>
   rw [q] at this;exact this
inductive Br (s:Int) (cts:List (Str×Int)):D->Prop
 | ask {t e:D}{w:Str}:Tg s t->wdS w=true->Wt s 3 e->Br s cts (.tup [t,.str "ask",.str w,e])
 | call {t:D}{f:Str}{n:Int}{l:List D}:Tg s t->wdS f=true->(f,n)∈cts->(l.length:Int)=n->n<=3->(∀ e∈l,Wt s 3 e)->Br s cts (.tup [t,.str "call",.str f,.tup l])
section
variable {K:Nat}{T S:Store}{s:Int}{d:D}{cts:List (Str×Int)}
theorem vK (h:Tg s d) (hK:4<=K):Is K 49 [d,.int s] yes S:=by obtain ⟨K,hk,rfl⟩:=up hK;refine zb7 ?_;nofun;refine (V0 h hk).go ?_;nofun;exact ⟨rfl,rfl⟩
theorem zcr (h:Wt s 3 d) (hK:12<=K):Is K 50 [d,.int s] yes (St T):=by obtain ⟨K,hk,rfl⟩:=up hK;refine zb6 ?_;nofun;refine (jn h hk).go ?_;nofun;exact ⟨rfl,rfl⟩
theorem br_y (hn:(cts.map (·.1)).Nodup) (h:Br s cts d) (hK:13<=K):Is K 9 [d,CD cts,.lam 49 [.int s],.lam 50 [.int s]] yes (St T):=by
 obtain ⟨K,hk,rfl⟩:=up hK;refine zF (x1:=CD cts) ?_;cases h with
 | ask t w e=>
  nofun;refine (tupE rfl (by omega)).go ?_;nofun;refine (vK t (by omega)).go ?_;nofun;refine (wK w (by omega)).go ?_;nofun;refine (zcr e (by omega)).go ?_;nofun;exact ⟨rfl,rfl⟩
 | @call t f n l tg w m hl hl3 e=>
  nofun;refine (tupE rfl (by omega)).go ?_;nofun;refine (vK tg (by omega)).go ?_;nofun;refine (wK w (by omega)).go ?_;nofun;have e1:=Ys hn m;refine xV (by show (!(yg (cts.map fun p=>(aq p.1:Key)) (cts.map fun p=>D.int p.2) (.inr f)).isSome)=false;rw [e1];rfl) ?_;nofun;refine yL (a:=D.int n) (by show ((some (yg (cts.map fun p=>(aq p.1:Key)) (cts.map fun p=>D.int p.2) (.inr f))).bind id)=_;rw [e1];rfl) ?_;nofun;refine (tupE hl (by omega)).go ?_;nofun;refine xR ?_;dsimp only [wpI,jA,zO,xm];nofun;refine wY (.bl true) l [] (by simp;omega) (fun x hx Q hQ=>?_) ?_
  ·refine zE rfl ?_;dsimp only [wpF,zeq,wpEs,zO,inn,nT,η,Ϩ,Ε,Ϥ];nofun;refine (zcr (e x hx) (by omega)).go ?_;nofun;exact hQ
  ·refine yK (ue _) ?_;nofun;exact ⟨rfl,rfl⟩
theorem ze2 {k:Int}{l:List D}(hn:(cts.map (·.1)).Nodup) (h0:1<=k) (h1:k<=l.length) (h2:l.length<=4) (h:∀ b∈l,Br s cts b) (hK:14<=K):Is K 8 [.int k,.tup l,CD cts,.lam 49 [.int s],.lam 50 [.int s]] yes (St T):=by
 obtain ⟨K,hk,rfl⟩:=up hK;refine uf (x2:=CD cts) ?_;nofun;refine (tupY (by omega) (by omega) (by omega)).go ?_;nofun;refine (jY (by omega)).go ?_;nofun;refine yD (decide_eq_true h0) ?_;nofun;refine xV (nt (decide_eq_true h1)) ?_;nofun;refine xR ?_;dsimp only [wpI,zO];nofun;refine wY (.bl true) l [] (by simp;omega) (fun x hx Q hQ=>?_) ?_
 ·refine zE rfl ?_;dsimp only [wpF,yj,wpEs,zO,inn,nT,η,Ϩ,Ε,Ϥ];nofun;refine (br_y hn (h x hx) (by omega)).go ?_;nofun;exact hQ
 ·refine yK (ue _) ?_;nofun;exact ⟨rfl,rfl⟩
end
inductive Do (s m:Int) (cts:List (Str×Int)):D->Prop
 | go {i:Int}:0<=i->i < m->Do s m cts (.tup [.str "go",.int i])
 | rnd {i:Int}:0<=i->i < m->Do s m cts (.tup [.str "round",.int i])
 | out {i:Int}:0<=i->i < s->Do s m cts (.tup [.str "out",.int i])
 | give {e:D}:Wt s 3 e->Do s m cts (.tup [.str "give",e])
 | fail {e:D}:Wt s 3 e->Do s m cts (.tup [.str "fail",e])
 | fork {e:D}{i j:Int}:Wt s 3 e->0<=i->i < m->0<=j->j < m->Do s m cts (.tup [.str "fork",e,.int i,.int j])
 | want {k i:Int}{l:List D}:1<=k->k<=l.length->l.length<=4->(∀ b∈l,Br s cts b)->0<=i->i < m->Do s m cts (.tup [.str "want",.int k,.tup l,.int i])
inductive Fa (s m:Int):D->Prop
 | non:Fa s m .non
 | at {t:D}{i:Int}:Tg s t->0<=i->i < m->Fa s m (.tup [t,.int i])
inductive Of (m:Int):D->Prop
 | shut:Of m (.str "shut")
 | tg {d:D}:Tg m d->Of m d
section
variable {K:Nat}{T S:Store}{s m:Int}{d:D}{cts:List (Str×Int)}
theorem zc1 {k i:Int}{l:List D}(hn:(cts.map (·.1)).Nodup) (h0:1<=k) (h1:k<=l.length) (h2:l.length<=4) (h:∀ b∈l,Br s cts b) (hK:15<=K):Is K 20 [.tup [.str "want",.int k,.tup l,.int i],.int s,CD cts] yes (St T):=by
 obtain ⟨K,hk,rfl⟩:=up hK;refine vD (x2:=CD cts) ?_;nofun;show za F wh _ noX 8 [.int k,.tup l,CD cts,.lam 49 [.int s],.lam 50 [.int s]] _ _
 refine (ze2 hn h0 h1 h2 h (by omega)).go ?_;nofun;exact ⟨rfl,rfl⟩
theorem zaw (hn:(cts.map (·.1)).Nodup) (h:Do s m cts d) (hK:16<=K):Is K 19 [d,.int s,.int m,CD cts] yes (St T):=by
 obtain ⟨K,hk,rfl⟩:=up hK;refine zy (x3:=CD cts) ?_;cases h with
 | go h0 h1=>
  nofun;refine (zK (by omega)).go ?_;nofun;refine (zY h0 h1 (by omega)).go ?_;nofun;exact ⟨rfl,rfl⟩
 | rnd h0 h1=>
  nofun;refine (zK (by omega)).go ?_;nofun;refine (zY h0 h1 (by omega)).go ?_;nofun;exact ⟨rfl,rfl⟩
 | out h0 h1=>
  nofun;refine (zK (by omega)).go ?_;nofun;refine (zY h0 h1 (by omega)).go ?_;nofun;exact ⟨rfl,rfl⟩
 | give e=>
  nofun;refine (zK (by omega)).go ?_;nofun;refine (jn e (by omega)).go ?_;nofun;exact ⟨rfl,rfl⟩
 | fail e=>
  nofun;refine (zK (by omega)).go ?_;nofun;refine (jn e (by omega)).go ?_;nofun;exact ⟨rfl,rfl⟩
 | fork e h0 h1 h2 h3=>
  nofun;refine (zK (by omega)).go ?_;nofun;refine (jn e (by omega)).go ?_;nofun;refine (zY h0 h1 (by omega)).go ?_;nofun;refine (zY h2 h3 (by omega)).go ?_;nofun;exact ⟨rfl,rfl⟩
 | want h0 h1 h2 h3 h4 h5=>
  nofun;refine (zK (by omega)).go ?_;nofun;refine (zY h4 h5 (by omega)).go ?_;nofun;refine (zc1 hn h0 h1 h2 h3 (by omega)).go ?_;nofun;exact ⟨rfl,rfl⟩
theorem zcG (h:Fa s m d) (hK:4<=K):Is K 21 [d,.int s,.int m] yes S:=by
 obtain ⟨K,hk,rfl⟩:=up hK;refine YK ?_;cases h with
 | non=>nofun;exact ⟨rfl,rfl⟩
 | «at» t h0 h1=>
  nofun;refine (tupE rfl (by omega)).go ?_;nofun;refine (V0 t (by omega)).go ?_;nofun;refine (zY h0 h1 (by omega)).go ?_;nofun;exact ⟨rfl,rfl⟩
theorem zi5 (h:Of m d) (hK:4<=K):Is K 22 [d,.int m] yes S:=by
 obtain ⟨K,hk,rfl⟩:=up hK;refine Uc ?_;cases h with
 | shut=>nofun;exact ⟨rfl,rfl⟩
 | tg t=>
  cases t with
  | non=>
   nofun;refine (V0 .non (by omega)).go ?_;nofun;exact ⟨rfl,rfl⟩
  | num h0 h1=>
   nofun;refine (V0 (.num h0 h1) (by omega)).go ?_;nofun;exact ⟨rfl,rfl⟩
end
noncomputable def fl:D->List Int
 | .tup [_,.int i]=>[i]
 | _=>[]
noncomputable def ol:D->List Int
 | .int i=>[i]
 | _=>[]
inductive Ld:D->D->D->List Int->Prop
 | go {i:Int}{f o:D}:Ld (.tup [.str "go",.int i]) f o [i]
 | rnd {i:Int}{f o:D}:Ld (.tup [.str "round",.int i]) f o (fl f)
 | out {i:Int}{f o:D}:Ld (.tup [.str "out",.int i]) f o (fl f++ol o)
 | give {e f o:D}:Ld (.tup [.str "give",e]) f o []
 | fail {e f o:D}:Ld (.tup [.str "fail",e]) f o (fl f)
 | fork {e f o:D}{i j:Int}:Ld (.tup [.str "fork",e,.int i,.int j]) f o [i,j]
 | want {k b i f o:D}:Ld (.tup [.str "want",k,b,i]) f o (fl f++ol o)
structure Rm (s m:Int) (cts:List (Str×Int)) (d:D) (L:List Int):Prop where
 ex:∃ rows door fall off,d=.tup [.tup rows,door,fall,off]/\rows.length<=60/\(∀ r∈rows,Rw s r)/\Do s m cts door/\Fa s m fall/\Of m off/\Ld door fall off L
section
variable {K:Nat}{T S:Store}{s m:Int}{d:D}{cts:List (Str×Int)}{L:List Int}
theorem zcc (hn:(cts.map (·.1)).Nodup) (h:Rm s m cts d L) (hK:17<=K):Is K 17 [d,.int s,.int m,CD cts] yes (St T):=by
 obtain ⟨rows,door,fall,off,rfl,h1,h2,h3,h4,h5,_⟩:=h.ex;obtain ⟨K,hk,rfl⟩:=up hK;refine wL (x3:=CD cts) ?_;nofun;refine (tupE rfl (by omega)).go ?_;nofun;refine (tupY (by omega) (by omega) (by omega)).go ?_;nofun;refine xR ?_;dsimp only [wpI,jA,zO,xm];nofun;refine wY (.bl true) rows [] (by simp;omega) (fun x hx Q hQ=>?_) ?_
 ·refine zE rfl ?_;dsimp only [wpF,yj,wpEs,zO,inn,nT,η,Ϩ,Ε,Ϥ];nofun;refine (zdf (h2 x hx) (by omega)).go ?_;nofun;exact hQ
 ·refine yK (ue _) ?_;nofun;refine (zaw hn h3 (by omega)).go ?_;nofun;refine (zcG h4 (by omega)).go ?_;nofun;refine (zi5 h5 (by omega)).go ?_;nofun;exact ⟨rfl,rfl⟩
noncomputable def ldT:List C:=zG.drop 4
theorem zgO {l l':List Int}{i:Int}:l.map D.int++[D.int i]=(l++[i]).map D.int:=by rw [aC];rfl
theorem zd6 {w:Str}{l:List Int}{rows:List D}{door fall off:D}{b1 b2:Bool}(h1:([D.str "fail",.str "round",.str "want",.str "out"].any fun y=>eqP y (.str w))=b1) (h2:([D.str "want",.str "out"].any fun y=>eqP y (.str w))=b2) (hf:Fa s m fall) (ho:Of m off) (hl:l.length<=10) (hK:1<=K):
  wpCs (za F wh K) noX wh ldT [.sh (.tup [.tup rows,door,fall,off]),.ow (.lst (l.map D.int)),.sh (.str w)] (told fun x S'=>x=(.lst ((l++(if b1=true then fl fall else [])++(if b2=true then ol off else [])).map D.int),.fr)/\S'=S) S:=by
 have fin:∀ {l':List Int},l'.length<=20->wpCs (za F wh K) noX wh (ldT.drop 1) [.sh (.tup [.tup rows,door,fall,off]),.ow (.lst (l'.map D.int)),.sh (.str w)] (told fun x S'=>x=(.lst ((l'++(if b2=true then ol off else [])).map D.int),.fr)/\S'=S) S:=by
  intro l' hl';dsimp only [ldT,zG,dI];nofun;refine zB (fun h=>?_) (fun h=>?_)
  ·have hb:b2=true:=h2.symm.trans h;subst hb;nofun;cases ho with
   | shut=>
    refine (zcO hK).go ?_;nofun;exact ⟨by rw [if_pos rfl];show _=(D.lst ((l'++[]).map D.int),Kd.fr);rw [Ε],rfl⟩
   | tg t=>
    cases t with
    | non=>
     refine (zcP hK).go ?_;nofun;exact ⟨by rw [if_pos rfl];show _=(D.lst ((l'++[]).map D.int),Kd.fr);rw [Ε],rfl⟩
    | num=>
     refine (jY hK).go ?_;nofun;exact ⟨by rw [if_pos rfl,aC];rfl,rfl⟩
  ·have hb:b2=false:=h2.symm.trans h;subst hb;nofun;exact ⟨by rw [if_neg Κ,Ε],rfl⟩
 obtain ⟨tl,htl⟩:∃ tl,tl=ldT.drop 1:=⟨_,rfl⟩
 rw [<- htl] at fin;show wpCs _ _ _ (ldT.take 1++ldT.drop 1) _ _ _
 rw [<- htl];dsimp only [ldT,zG,dI,cA,Ϙ,Τ];clear htl;nofun;refine zB (fun h=>?_) (fun h=>?_)
 ·have hb:b1=true:=h1.symm.trans h;subst hb;nofun;cases hf with
  | non=>
   nofun;have:=fin (l':=l) (by omega);rw [if_pos rfl,show fl D.non=[] from rfl,Ε];exact this
  | @«at» t i=>
   nofun;rw [if_pos rfl];show wpCs _ _ _ _ [.sh (.tup [.tup rows,door,.tup [t,.int i],off]),.ow (.lst (l.map D.int++[.int i])),.sh (.str w)] (told fun x S'=>x=(D.lst ((l++[i]++_).map D.int),Kd.fr)/\S'=S) _
   rw [zgO (l':=l)];exact fin (l':=l++[i]) (by simp;omega)
 ·have hb:b1=false:=h1.symm.trans h;subst hb;nofun;rw [if_neg Κ,Ε];exact fin (l':=l) (by omega)
theorem zd5 (h:Rm s m cts d L) (hK:2<=K):Is K 23 [d] (.lst (L.map D.int),.fr) S:=by
 obtain ⟨rows,door,fall,off,rfl,_,_,_,hf,ho,hl⟩:=h.ex;obtain ⟨K,hk,rfl⟩:=up hK;refine vO ?_;have fin:=fun {w:Str}{l:List Int}{b1 b2:Bool} h1 h2=>zd6 (K:=K) (S:=S) (w:=w) (l:=l) (rows:=rows) (door:=door) (b1:=b1) (b2:=b2) h1 h2 hf ho
 obtain ⟨tl,htl⟩:∃ tl,tl=ldT:=⟨_,rfl⟩
 rw [<- htl] at fin;show wpCs _ _ _ (zG.take 4++ldT) _ _ _
 rw [<- htl];clear htl;dsimp only [zG,cA,Ϙ,Τ];cases hl with
 | @go i=>nofun;exact fin (w:="go") (l:=[i]) (b1:=false) (b2:=false) (by decide +kernel) (by decide +kernel) (by simp) (by omega)
 | give=>nofun;exact fin (w:="give") (l:=[]) (b1:=false) (b2:=false) (by decide +kernel) (by decide +kernel) (by simp) (by omega)
 | @fork e f o i j=>nofun;exact fin (w:="fork") (l:=[i,j]) (b1:=false) (b2:=false) (by decide +kernel) (by decide +kernel) (by simp) (by omega)
 | rnd=>
  nofun;have:=fin (w:="round") (l:=[]) (b1:=true) (b2:=false) (by decide +kernel) (by decide +kernel) (by simp) (by omega);rw [if_pos rfl,if_neg Κ,Ε] at this;exact this
 | fail=>
  nofun;have:=fin (w:="fail") (l:=[]) (b1:=true) (b2:=false) (by decide +kernel) (by decide +kernel) (by simp) (by omega);rw [if_pos rfl,if_neg Κ,Ε] at this;exact this
 | out=>nofun;exact fin (w:="out") (l:=[]) (b1:=true) (b2:=true) (by decide +kernel) (by decide +kernel) (by simp) (by omega)
 | want=>nofun;exact fin (w:="want") (l:=[]) (b1:=true) (b2:=true) (by decide +kernel) (by decide +kernel) (by simp) (by omega)
end
noncomputable def hasI (ks:List Key) (i:Nat):Bool:=hasK ks (.inl (i:Int))
noncomputable def miss (ks:List Key) (n:Nat):Nat:=((Ϲ n).filter fun i=>!hasI ks i).length
theorem zap {ks:List Key}{i j:Nat}:hasI (ks++[.inl (i:Int)]) j=(hasI ks j||decide (i=j)):=by
 unfold hasI hasK;rw [List.any_append]
 congr 1
 show (decide ((bx (i:Int):Key)=.inl (j:Int))||false)=_
 rw [lV];by_cases h:i=j
 ·subst h;simp
 ·rw [decide_eq_false h,decide_eq_false];intro z;exact h (by have:=bx.inj z;omega)
theorem VF {α:Type}{p q:α->Bool}(h:∀ a,q a=true->p a=true):∀ {l:List α},(l.filter q).length<=(l.filter p).length/\((∃ a∈l,p a=true/\q a=false)->(l.filter q).length < (l.filter p).length)
 | []=>⟨Ζ _,fun ⟨_,z,_⟩=>(nomatch z)⟩
 | a::l=>by
  obtain ⟨i1,i2⟩:=VF h (l:=l);rw [eU,eU];cases hq:q a with
  | true=>
   rw [h a hq,if_pos rfl,if_pos rfl];refine ⟨Nat.succ_le_succ i1,fun ⟨b,hb,h1,h2⟩=>?_⟩;rcases χ.mp hb with rfl | hb
   ·rw [hq] at h2;cases h2
   ·exact Nat.succ_lt_succ (i2 ⟨b,hb,h1,h2⟩)
  | false=>
   rw [if_neg Κ];cases hp:p a with
   | true=>
    rw [if_pos rfl];exact ⟨Nat.le_succ_of_le i1,fun _=>Nat.lt_succ_of_le i1⟩
   | false=>
    rw [if_neg Κ];refine ⟨i1,fun ⟨b,hb,h1,h2⟩=>?_⟩;rcases χ.mp hb with rfl | hb
    ·rw [hp] at h1;cases h1
    ·exact i2 ⟨b,hb,h1,h2⟩
theorem zbE {ks:List Key}{n i:Nat}(hi:i < n) (h:hasI ks i=false):miss (ks++[.inl (i:Int)]) n < miss ks n:=by
 unfold miss;refine (VF (p:=fun i=>!hasI ks i) (q:=fun j=>!hasI (ks++[.inl (i:Int)]) j) (fun a e=>?_)).2 ⟨i,cu.mpr hi,by rw [h];rfl,?_⟩
 ·rw [zap] at e;cases z:hasI ks a with
  | false=>rfl
  | true=>rw [z] at e;cases e
 ·rw [zap,decide_eq_true rfl,mG];rfl
theorem zd1 (ks:List Key) (n:Nat):miss ks n<=n:=by unfold miss;exact ϡ (List.length_filter_le _ _) (by simp)
theorem QR:∀ {n:Nat}{ks:List Key},(∀ i,i < n->hasI ks i=true)->n<=ks.length
 | 0,_,_=>cT _
 | n+1,ks,h=>by
  have m:(bx (n:Int):Key)∈ks:=by have:=h n (eX n);unfold hasI hasK at this;rw [cC] at this;obtain ⟨x,hx,e⟩:=this;rw [<- of_decide_eq_true e];exact hx
  have lt:=(VF (p:=fun _=>true) (q:=fun x:Key=>decide (x≠.inl (n:Int))) (fun _ _=>rfl) (l:=ks)).2 ⟨_,m,rfl,by simp⟩;rw [List.filter_eq_self.mpr (fun _ _=>rfl)] at lt;have:=QR (n:=n) (ks:=ks.filter fun x:Key=>decide (x≠.inl (n:Int))) fun i hi=>by have q:=h i (iw hi);unfold hasI hasK at q ⊢;rw [cC] at q ⊢;obtain ⟨x,hx,e⟩:=q;refine ⟨x,fH.mpr ⟨hx,decide_eq_true ?_⟩,e⟩;rw [of_decide_eq_true e];intro z;have:=bx.inj z;omega
  exact nA this lt
def Free (n:Nat) (L:Nat->List Int):Prop:=∃ f:Nat->Nat,∀ i,i < n->∀ j∈L i,∃ j':Nat,j=(j':Int)/\j' < n/\f j' < f i
theorem Ka {n:Nat}{L:Nat->List Int}{ks:List Key}(fr:Free n L) (h:∀ i,i < n->hasI ks i=true\/∃ j∈L i,hasK ks (.inl j)=false):∀ i,i < n->hasI ks i=true:=by
 obtain ⟨f,hf⟩:=fr;have key:∀ (k i:Nat),f i < k->i < n->hasI ks i=true:=by
  intro k
  induction k with
  | zero=>intro i hi;exact absurd hi (lq _)
  | succ k ih=>
   intro i hi hn;rcases h i hn with z | ⟨j,hj,z⟩
   ·exact z
   ·obtain ⟨j',rfl,h1,h2⟩:=hf i hn j hj;have:=ih j' (by omega) h1;unfold hasI at this;rw [z] at this;cases this
 exact fun i hi=>key (f i+1) i (eX _) hi
theorem Yd {ks:List Key}{vs:List D}{k:Key}(hl:ks.length=vs.length):(yg ks vs k).isSome=hasK ks k:=by
 induction ks generalizing vs with
 | nil=>rfl
 | cons x ks ih=>
  cases vs with
  | nil=>cases hl
  | cons v vs=>
   unfold yg;rw [jz];by_cases e:x=k
   ·rw [if_pos e];unfold hasK;rw [dq,decide_eq_true e];rfl
   ·rw [if_neg e];have:=ih (vs:=vs) (by simpa using hl);unfold yg at this;unfold hasK at this ⊢;rw [dq,decide_eq_false e,d7,<- this];cases jz ks k with
    | none=>rfl
    | some i=>rfl
theorem zaC {s:D->(Option D->Store->Prop)->Store->Prop}{V:List D->Store->Prop}{S:Store}(f:Int->Bool):∀ (xs:List Int) (acc:List Bool),acc.length+xs.length<=1000->(∀ x∈xs,∀ Q:Option D->Store->Prop,Q (some (.bl (f x))) S->s (.int x) Q S) ->
  V ((acc++xs.map f).map D.bl) S->wJ s (xs.map D.int) (acc.map D.bl) V S
 | [],acc,_,_,v=>by simpa [wJ] using v
 | x::xs,acc,hl,h,v=>by
  refine h x θ _ ?_;have e:(acc.map D.bl)++[D.bl (f x)]=(acc++[f x]).map D.bl:=by simp
  have hl':acc.length+(xs.length+1)<=1000:=hl;show tst (fits ((acc.map D.bl).length+1)) (wJ s (xs.map D.int) (acc.map D.bl++[D.bl (f x)]) V S) False
  refine yD (fits_of (by rw [ξ];omega)) ?_;rw [e];exact zaC f xs (acc++[f x]) (by simp;omega) (fun y hy=>h y (ι _ hy)) (by simpa using v)
theorem Wr:∀ l:List Bool,vL (l.map D.bl)=some l
 | []=>rfl
 | b::l=>by show (vL (l.map D.bl)).map (b::·)=_;rw [Wr l];rfl
theorem qY (l:List Bool):biD .all [.lst (l.map D.bl)]=some (.bl (l.all id),false):=by
 show ((vL (l.map D.bl)).map fun bs=>D.bl (bs.all id)).map (fun d=>(d,false))=_
 rw [Wr];rfl
theorem Ld.few {a b c:D}{L:List Int}(h:Ld a b c L):L.length<=2:=by
 have f1:∀ d,(fl d).length<=1:=fun d=>by unfold fl;split <;> simp
 have f2:∀ d,(ol d).length<=1:=fun d=>by unfold ol;split <;> simp
 cases h with
 | go=>simp
 | rnd=>have:=f1 b;omega
 | out=>have:=f1 b;have:=f2 c;simp;omega
 | give=>simp
 | fail=>have:=f1 b;omega
 | fork=>simp
 | want=>have:=f1 b;have:=f2 c;simp;omega
section
variable {K:Nat}{T S:Store}{s m:Int}{cts:List (Str×Int)}{L:Nat->List Int}{rooms:List D}
def rI (rooms:List D) (L:Nat->List Int) (ks0:List Key) (S:Store) (l:List D) (ρ:List Slot) (S':Store):Prop:=
 S'=S/\∃ (ks:List Key) (vs:List D) (g:Bool) (i:Nat) (a b:Slot),l=v8 i (rooms.drop i)/\i<=rooms.length/\ρ=[.sh (.tup rooms),.ow (.dK ks vs),.sh (.bl g),a,b]/\ks.length=vs.length/\ks.length+(rooms.length - i)<=ks0.length+rooms.length /\
  (g=true->miss ks rooms.length < miss ks0 rooms.length)/\(g=false->ks=ks0/\∀ j,j < i->hasI ks0 j=true\/∃ x∈L j,hasK ks0 (.inl x)=false)
theorem zav {i:Nat}{d:D}{l:List D}:v8 i (d::l)=.tup [.int i,d]::v8 (i+1) l:=rfl
def wI (rooms:List D) (L:Nat->List Int) (S:Store) (n:Nat) (ρ:List Slot) (S':Store):Prop:=
 S'=S/\∃ (ks:List Key) (vs:List D) (g:Bool) (a b:Slot),ρ=[.sh (.tup rooms),.ow (.dK ks vs),.sh (.bl g),a,b]/\ks.length=vs.length/\ks.length+n*rooms.length<=200*rooms.length/\(g=true->miss ks rooms.length < n)/\(g=false->∀ j,j < rooms.length->hasI ks j=true\/∃ x∈L j,hasK ks (.inl x)=false)
theorem zfY (hr:∀ i d,rooms[i]?=some d->Rm s m cts d (L i)) (hl:rooms.length<=160) (fr:Free rooms.length L) (hK:3<=K):Is K 24 [.tup rooms] no S:=by
 obtain ⟨K,hk,rfl⟩:=up hK;refine Jv ?_;nofun;refine jC (wI rooms L S) ?_ _ 199 _ _ (by decide) ⟨rfl,[],[],true,.no,.no,rfl,rfl,by show 0+_<=_;omega,fun _=>by have:=zd1 [] rooms.length;omega,fun z=>nomatch z⟩;rintro n ρ S' ⟨rfl,ks,vs,g,a,b,rfl,hv,hsz,hg1,hg2⟩;dsimp only [zO];nofun;refine zB (fun h=>?_) (fun h=>?_)
 ·have h:g=true:=h;have hm:=hg1 h;refine ⟨n - 1,by omega,?_⟩;obtain ⟨n,rfl⟩:∃ k,n=k+1:=⟨n - 1,by omega⟩
  nofun;refine wp_walk (rI rooms L ks S') ?_ ?_ _ _ _ ⟨rfl,ks,vs,false,0,a,b,rfl,cT _,rfl,hv,by omega,(fun z=>nomatch z),fun _=>⟨rfl,fun j z=>absurd z (lq _)⟩⟩
  ·rintro d l ρ S1 ⟨rfl,ks1,vs1,g1,i,a1,b1,el,hi,rfl,hv1,hs1,h1,h2⟩;cases e:rooms.drop i with
   | nil=>rw [e] at el;cases el
   | cons r rest=>
    rw [e,zav] at el;cases el;have hir:rooms[i]?=some r:=by rw [<- List.head?_drop,e];rfl
    have hil:i < rooms.length:=(υ.mp hir).1;have hrest:rest=rooms.drop (i+1):=by rw [<- List.tail_drop,e];rfl
    have R:=hr i r hir;obtain ⟨_,_,_,_,_,_,_,_,_,_,ld⟩:=R.ex;have few:=ld.few;nofun;have e1:(yg ks1 vs1 (.inl (i:Int))).isSome=hasI ks1 i:=Yd hv1;have keep:∀ (a2 b2:Slot),(hasI ks1 i=true\/∃ x∈L i,hasK ks1 (.inl x)=false)->rI rooms L ks S1 (v8 (i+1) rest) [.sh (.tup rooms),.ow (.dK ks1 vs1),.sh (.bl g1),a2,b2] S1:=fun a2 b2 q=>by
     refine ⟨rfl,ks1,vs1,g1,i+1,a2,b2,by rw [hrest],hil,rfl,hv1,by omega,h1,fun z=>?_⟩;obtain ⟨z1,z2⟩:=h2 z;refine ⟨z1,fun j hj=>?_⟩;by_cases e:j=i
     ·rw [e,<- z1];exact q
     ·exact z2 j (by omega)
    refine zB (fun h=>?_) (fun h=>?_)
    ·have h:(!(yg ks1 vs1 (.inl (i:Int))).isSome)=true:=h;rw [e1] at h;have hn:hasI ks1 i=false:=by cases q:hasI ks1 i with
      | false=>rfl
      | true=>rw [q] at h;cases h
     nofun;refine xR ?_;dsimp only [wpI,yj,wpEs,zO];nofun;refine (zd5 R (by omega)).go ?_;nofun;refine zaC (fun x=>hasK ks1 (.inl x)) (L i) [] (by simp;omega) (fun x hx Q hQ=>?_) ?_
     ·refine zE rfl ?_;dsimp only [wpF,Wc,zO,inn,nT,η,Ϩ,Ε,Ϥ];nofun;have:(yg ks1 vs1 (.inl x)).isSome=hasK ks1 (.inl x):=Yd hv1;rw [<- this] at hQ;exact hQ
     ·refine yK (qY _) ?_;nofun;refine zB (fun h=>?_) (fun h=>?_)
      ·nofun;refine yL (zdo (show hasK ks1 (.inl (i:Int))=false from hn) (by omega)) ?_;nofun;refine ⟨rfl,ks1++[.inl (i:Int)],vs1++[.bl true],true,i+1,_,_,by rw [hrest],hil,rfl,by simp [hv1],by simp;omega,fun _=>?_,fun z=>nomatch z⟩;have m1:=zbE hil hn;cases g1 with
       | true=>exact Nat.lt_trans m1 (h1 rfl)
       | false=>rw [<- (h2 rfl).1];exact m1
      ·have h:(([]++(L i).map fun x=>hasK ks1 (.inl x)).all id)=false:=h;nofun;refine keep _ _ (.inr ?_);rw [Τ,ie] at h;obtain ⟨x,hx,e⟩:=nF.mp h;exact ⟨x,hx,by simpa using e⟩
    ·have h:(!(yg ks1 vs1 (.inl (i:Int))).isSome)=false:=h;rw [e1] at h;nofun;refine keep _ _ (.inl ?_);cases q:hasI ks1 i with
     | true=>rfl
     | false=>rw [q] at h;cases h
  ·rintro ρ S1 ⟨rfl,ks1,vs1,g1,i,a1,b1,el,hi,rfl,hv1,hs1,h1,h2⟩;have hi2:rooms.length<=i:=by
    cases e:rooms.drop i with
    | nil=>exact mW.mp e
    | cons r rest=>rw [e] at el;cases el
   nofun;refine ⟨rfl,ks1,vs1,g1,a1,b1,rfl,hv1,?_,fun z=>?_,fun z=>?_⟩
   ·have:(n+1)*rooms.length=n*rooms.length+rooms.length:=Nat.succ_mul _ _;show ks1.length+n*rooms.length<=_
    omega
   ·have:=h1 z;show miss ks1 rooms.length < n
    omega
   ·obtain ⟨z1,z2⟩:=h2 z;rw [z1];exact fun j hj=>z2 j (by omega)
 ·have h:g=false:=h;have all:=Ka fr (hg2 h);have hl2:=QR all;nofun;refine ⟨?_,rfl⟩;show (D.bl (decide ((ks.length:Int) < (rooms.length:Int))),Kd.st)=no
  rw [decide_eq_false (by omega)]
end
structure Mc where
 nm:Str
 k:Int
 s:Int
 rooms:List D
noncomputable def Mc.d (m:Mc):D:=.tup [.str m.nm,.int m.k,.int m.s,.tup m.rooms]
structure Mc.Ok (cts:List (Str×Int)) (m:Mc):Prop where
 wd:wdS m.nm=true
 k0:0<=m.k
 k3:m.k<=3
 ks:m.k<=m.s
 s32:m.s<=32
 one:1<=m.rooms.length
 few:m.rooms.length<=160
 free:∃ L:Nat->List Int,(∀ i d,m.rooms[i]?=some d->Rm m.s m.rooms.length cts d (L i))/\Free m.rooms.length L
noncomputable def ym (ms:List Mc):List (Str×Int):=ms.map fun m=>(m.nm,m.k)
structure Good (ms:List Mc):Prop where
 one:1<=ms.length
 six:ms.length<=6
 nd:(ms.map (·.nm)).Nodup
 ok:∀ m∈ms,m.Ok (ym ms)
theorem qK (ms:List Mc):(ym ms).map (·.1)=ms.map (·.nm):=by unfold ym;rw [bM];rfl
theorem zcL {cts:List (Str×Int)}{f:Str}(h:f ∉ cts.map (·.1)):hasK (cts.map fun p=>(aq p.1:Key)) (.inr f)=false:=by have:=qF h;rw [<- Yd (vs:=cts.map fun p=>D.int p.2) (by simp),this];rfl
section
variable {K:Nat}{T S:Store}{m:Mc}{cts:List (Str×Int)}
theorem zho (h:m.Ok cts) (hK:3<=K):Is K 11 [m.d] yes S:=by obtain ⟨K,hk,rfl⟩:=up hK;have h1:=h.k0;have h2:=h.k3;have h3:=h.ks;have h4:=h.s32;have hw:=h.wd;unfold Mc.d;obtain ⟨nm,k,s,rooms⟩:=m;refine yU ?_;nofun;refine (tupE rfl (by omega)).go ?_;nofun;refine (wK hw (by omega)).go ?_;nofun;refine (zY (b:=33) (show 0<=s from Int.le_trans h1 h3) (show s < 33 from dw h4) hk).go ?_;nofun;refine (zY (b:=4) h1 (show k < 4 from dw h2) hk).go ?_;nofun;exact ⟨by show (D.bl (decide (k<=s)),Kd.st)=_;rw [decide_eq_true h3],rfl⟩
theorem Qh (hn:(cts.map (·.1)).Nodup) (h:m.Ok cts) (hK:18<=K):Is K 16 [.tup m.rooms,.int m.s,CD cts] yes (St T):=by
 obtain ⟨K,hk,rfl⟩:=up hK;obtain ⟨L,hr,fr⟩:=h.free;have h1:=h.one;have h2:=h.few;refine vQ (x2:=CD cts) ?_;nofun;refine (tupY (by omega) (by omega) (by omega)).go ?_;nofun;refine xR ?_;dsimp only [wpI,zO];nofun;refine wY (.bl true) m.rooms [] (by simp;omega) (fun x hx Q hQ=>?_) ?_
 ·obtain ⟨i,hi⟩:=ϳ.mp hx;refine zE rfl ?_;dsimp only [wpF,yj,wpEs,zO,e_bi,inn,nT,η,Ϩ,Ε,Ϥ];nofun;refine (zcc hn (hr i x hi) (by omega)).go ?_;nofun;exact hQ
 ·refine yK (ue _) ?_;nofun;refine (zfY hr h2 fr (by omega)).go ?_;nofun;exact ⟨rfl,rfl⟩
theorem Zv {ms:List Mc}(g:Good ms) (hK:19<=K):Is K 10 [.tup (ms.map Mc.d)] yes (St T):=by
 obtain ⟨K,hk,rfl⟩:=up hK;have h1:=g.one;have h6:=g.six;refine yQ ?_;nofun;refine (tupY (by rw [ξ];omega) (by rw [ξ];omega) (by omega)).go ?_;nofun;refine wp_walk (fun l ρ S'=>S'=St T/\∃ (dn rest:List Mc) (x2:Slot),ms=dn++rest/\l=rest.map Mc.d/\ρ=[.sh (.tup (ms.map Mc.d)),.ow (CD (ym dn)),x2]) ?_ ?_ _ _ _ ⟨rfl,[],ms,.no,rfl,rfl,rfl⟩
 ·rintro d l ρ S' ⟨rfl,dn,rest,x2,em,el,rfl⟩;cases rest with
  | nil=>cases el
  | cons m rest=>
   cases el;have hm:m∈ms:=by rw [em];exact ϣ.mpr (.inr θ)
   have hno:m.nm ∉ (ym dn).map (·.1):=by rw [qK];have nd:=g.nd;rw [em,aC,bZ] at nd;intro z;exact nd.2.2 _ z _ (Ψ.mpr ⟨m,θ,rfl⟩) rfl
   have ok:=g.ok m hm;nofun;refine (zho ok (by omega)).go ?_;have e1:(yg ((ym dn).map fun p=>(aq p.1:Key)) ((ym dn).map fun p=>D.int p.2) (.inr m.nm))=none:=qF hno;have e2:=zcL hno;have hlen:(ym dn).length<=6:=by unfold ym;rw [ξ];rw [em,Υ] at h6;omega
   unfold Mc.d;nofun;refine xV (by show (yg ((ym dn).map fun p=>(aq p.1:Key)) ((ym dn).map fun p=>D.int p.2) (.inr m.nm)).isSome=false;rw [e1];rfl) ?_;nofun;refine yL (Va e2 (by rw [ξ];omega)) ?_;nofun;have e3:CD (ym (dn++[m]))=.dK ((ym dn).map (fun p=>(aq p.1:Key))++[.inr m.nm]) ((ym dn).map (fun p=>D.int p.2)++[.int m.k]):=by unfold ym;simp [CD]
   exact ⟨rfl,dn++[m],rest,.sh m.d,by rw [em];simp,rfl,by rw [e3];rfl⟩
 ·rintro ρ S' ⟨rfl,dn,rest,x2,em,el,rfl⟩;cases rest with
  | cons _ _=>cases el
  | nil=>
   rw [Ε] at em;subst em;nofun;refine xR ?_;dsimp only [wpI,zO];nofun;refine wY (.bl true) (ms.map Mc.d) [] (by simp;omega) (fun x hx Q hQ=>?_) ?_
   ·obtain ⟨m,hm,rfl⟩:=Ψ.mp hx;refine zE rfl ?_;dsimp only [wpF,yj,wpEs,zO,jA,xm,inn,nT,η,Ϩ,Ε,Ϥ];have:=Qh (T:=T) (by rw [qK];exact g.nd) (g.ok m hm) hk;unfold Mc.d;nofun;refine this.go ?_;nofun;exact hQ
   ·refine yK (ue _) ?_;nofun;exact ⟨rfl,rfl⟩
end
theorem Yb {ns:List Int}{v:Int}:ns.map D.int++[.int v]=(ns++[v]).map D.int:=by rw [aC];rfl
theorem wy {lo hi:Int}{d:D}(h:d∈zx lo hi):∃ j,d=.int j/\lo<=j/\j < hi:=by unfold zx at h;obtain ⟨k,hk,rfl⟩:=Ψ.mp h;have:=cu.mp hk;exact ⟨_,rfl,by lia,by lia⟩
theorem yJ {lo hi:Int}:(zx lo hi).length=(hi - lo).toNat:=by unfold zx;simp
noncomputable def pK (ns:List Int) (a:Int):D:=.dK [.inr "row",.inr "at"] [.lst (ns.map D.int),.int a]
structure zU (b:Nat) (ns:List Int) (a:Int):Prop where
 a0:0<=a
 ab:a+b<=1000000
 pos:0 < ns.length
 few:ns.length<=4000
theorem zU.mono {b b':Nat}{ns:List Int}{a:Int}(p:zU b ns a) (h:b'<=b):zU b' ns a:=⟨p.a0,by have:=p.ab;omega,p.pos,p.few⟩
noncomputable abbrev Sp (ns:List Int) (a:Int):Store:=[.tab 0,.tab 1,pK ns a]
def Dr (ns:List Int) (b:Nat) (P:D->Prop) (q:Vl) (S:Store):Prop:=∃ d a,q=(d,.st)/\P d/\zU b ns a/\S=Sp ns a
section
variable {K b:Nat}{ns:List Int}{a:Int}
theorem zQ {many:Int}(hm:0 < many) (p:zU (b+1) ns a) (hK:1<=K):yM F wh K 27 [.ref 2,.int many] (Dr ns b fun d=>∃ x,d=.int x/\0<=x/\x < many) (Sp ns a):=by
 obtain ⟨k,_,rfl⟩:=up hK;have ha:=p.a0;have hb:=p.ab;have hp:=p.pos;refine W0 ?_;nofun;have hl:((Ϩ D.int ns).length:Int)=(ns.length:Int):=by simp
 obtain ⟨t,ht⟩:∃ t,t=a / (ns.length:Int):=⟨_,rfl⟩
 have t0:0<=t:=by rw [ht];exact Int.ediv_nonneg ha (by omega)
 have t1:t<=a:=by rw [ht];exact Int.ediv_le_self _ ha
 obtain ⟨x,_,hx⟩:=ints_get (ns:=ns) (a:=a % (ns.length:Int)) (dC _ (by omega)) (cR _ (by omega));have hlen:ns.length<=1000000:=by have:=p.few;omega
 refine yK (d:=.int t) (by
  show (if (decide (0 < ((Ϩ D.int ns).length:Int))&&decide (((Ϩ D.int ns).length:Int) < 2 ^ 64))=true then some (a / ((Ϩ D.int ns).length:Int)) else none).map (fun k=>(D.int k,false))=_
  rw [hl,decide_eq_true (by omega),decide_eq_true (by omega),ht];rfl) ?_
 nofun;refine yK (zcn (by rw [hl];omega)) ?_;rw [hl];nofun;refine yL hx ?_;nofun;refine yK (UL (Z4 (by omega) (by omega))) ?_;nofun;refine yK (zcn hm) ?_;nofun;exact ⟨_,a+1,rfl,⟨_,rfl,dC _ (by omega),cR _ hm⟩,⟨by omega,by omega,hp,p.few⟩,rfl⟩
theorem Qg (c:Int) {K:Nat}(hK:1<=K) (S:Store):yM F wh K 25 [.int c] (fun q S'=>S'=S/\∃ ns:List Int,ns.length<=60/\q=(.lst (ns.map D.int),.fr)) S:=by
 obtain ⟨k,rfl⟩:∃ k,K=k+1:=⟨K - 1,by omega⟩
 refine ZW ?_;nofun;refine zB (fun h=>?_) (fun h=>?_)
 ·nofun;refine jC (fun n ρ S'=>S'=S/\∃ (ns:List Int) (left:Int),ρ=[.sh (.int c),.ow (.lst (ns.map D.int)),.sh (.int left),.no,.no]/\ns.length+n=60) ?_ _ 60 _ _ (by decide) ⟨rfl,[],_,rfl,rfl⟩;rintro n ρ S' ⟨rfl,ns,left,rfl,hl⟩;dsimp only [J8,J7,Wc,e_bi,zO,xm];nofun;refine zB (fun h1=>?_) (fun h1=>?_)
  ·nofun;refine zB (fun h2=>?_) (fun h2=>?_)
   ·have h2:(ns.length:Int) < 60:=by have:=of_decide_eq_true h2;simpa using this
    refine ⟨n - 1,by omega,?_⟩;nofun;exact ⟨rfl,_,_,by rw [Yb],by simp;omega⟩
   ·nofun;exact ⟨rfl,ns,by omega,rfl⟩
  ·nofun;exact ⟨rfl,ns,by omega,rfl⟩
 ·nofun;refine wp_walk (fun l ρ S'=>S'=S/\∃ (ns:List Int) (x2 x3 x4:Slot),ρ=[.sh (.int c),.ow (.lst (ns.map D.int)),x2,x3,x4]/\ns.length+l.length<=9/\∀ d∈l,∃ j,d=.int j/\0<=j/\j < 9) ?_ ?_ _ _ _ ⟨rfl,[],_,.no,.no,rfl,by decide,fun d hd=>wy hd⟩
  ·rintro d l ρ S' ⟨rfl,ns,x2,x3,x4,rfl,hl,hd⟩;have hl':ns.length+(l.length+1)<=9:=hl;obtain ⟨j,rfl,j0,j1⟩:=hd d (θ ..);nofun;exact ⟨rfl,_,_,_,_,by rw [Yb],by simp;omega,fun d hx=>hd d (ι _ hx)⟩
  ·rintro ρ S' ⟨rfl,ns,x2,x3,x4,rfl,hl,_⟩;have hl:ns.length<=9:=by simpa using hl
   nofun;exact ⟨rfl,ns,by omega,rfl⟩
theorem zf9 (cs:List Int) (hc:cs.length<=63) {K:Nat}(hK:2<=K) (S:Store):yM F wh K 26 [.scr cs] (fun q S'=>S'=S/\∃ ns,q=(pK ns 0,.fr)/\0 < ns.length/\ns.length<=4000) S:=by
 obtain ⟨k,rfl⟩:∃ k,K=k+1:=⟨K - 1,by omega⟩
 refine Jw ?_;nofun;obtain ⟨zs,ez,hz⟩:=zeA cs none (some 63);rw [ez];refine wp_walk (fun l ρ S'=>S'=S/\∃ (ns:List Int) (x2:Slot) (ys:List Int),l=ys.map D.int/\ρ=[.sh (.scr cs),.ow (.lst (ns.map D.int)),x2,.no]/\ns.length+60*ys.length<=3780) ?_ ?_ _ _ _ ⟨rfl,[],.no,zs,rfl,rfl,by simp;omega⟩
 ·rintro d l ρ S' ⟨rfl,ns,x2,ys,el,rfl,hl⟩;cases ys with
  | nil=>cases el
  | cons j ys=>
   cases el;have hl':ns.length+60*(ys.length+1)<=3780:=hl;nofun;refine wp_mono (Qg j (K:=k) (by omega) _) ?_;rintro _ _ ⟨rfl,ms,hm,rfl⟩;nofun;refine ju (jc (by simp;omega)) ?_;nofun;exact ⟨rfl,ns++ms,_,ys,rfl,by rw [<- aC],by simp;omega⟩
 ·rintro ρ S' ⟨rfl,ns,x2,ys,el,rfl,hl⟩;nofun;refine yK (d:=.int ns.sum) (by show ((u5 (ns.map D.int)).map _).map _=_;rw [XX];rfl) ?_;nofun;refine jC (fun n ρ S1=>S1=S'/\∃ (ms:List Int) (v:Int),ρ=[.sh (.scr cs),.ow (.lst (ms.map D.int)),x2,.sh (.int v)]/\0<=v/\v < 2147483629/\40<=ms.length+n/\ms.length+n<=4000) ?_ _ 40 _ _ (by decide) ⟨rfl,ns,_,rfl,dC _ (by decide),cR _ (by decide),by omega,by omega⟩;rintro n ρ S1 ⟨rfl,ms,v,rfl,v0,v1,hm,hm2⟩;dsimp only [Wc,e_bi,zO,xm];nofun;refine zB (fun h1=>?_) (fun h1=>?_)
  ·have h1:(ms.length:Int) < 40:=by have:=of_decide_eq_true h1;simpa using this
   refine ⟨n - 1,by omega,?_⟩;nofun;refine yK (UL (Z4 v0 (by omega))) ?_;nofun;exact ⟨rfl,_,_,by rw [Yb],dC _ (by decide),cR _ (by decide),by simp;omega,by simp;omega⟩
  ·have h1:¬ (ms.length:Int) < 40:=by have:=of_decide_eq_false h1;simpa using this
   nofun;exact ⟨rfl,ms,rfl,by omega,by omega⟩
theorem Dr.go {P:D->Prop}{f:Nat}{ds:List D}{V:Po}(h:yM F wh K f ds (Dr ns b P) (Sp ns a)) (q:∀ d a',P d->zU b ns a'->V (d,.st) (Sp ns a')):yM F wh K f ds V (Sp ns a):=wp_mono h (by rintro _ _ ⟨d,a',rfl,h1,h2,rfl⟩;exact q d a' h1 h2)
theorem yp {l:List D}(hl:0 < l.length) (p:zU (b+1) ns a) (hK:2<=K):yM F wh K 28 [.ref 2,.lst l] (Dr ns b fun d=>d∈l) (Sp ns a):=by
 obtain ⟨k,hk,rfl⟩:=up hK;refine ZX ?_;nofun;refine Dr.go (zQ (many:=(l.length:Int)) (by omega) p hk) ?_;rintro _ a' ⟨x,rfl,x0,x1⟩ p';nofun;have hx:x.toNat < l.length:=by omega
 refine yL (UV x0 (ψ hx)) ?_;nofun;exact ⟨_,a',rfl,cB hx,p',rfl⟩
noncomputable def tw:Nat->Nat
 | 0=>2
 | n+1=>2+2*tw n
noncomputable def numL:List D:=[.int 0,.int 1,.int 2,.int 3,.int 1000000006,.int 1000000005]
theorem zcm {s:Int}{n:Nat}{d:D}(h:d∈numL):Wt s n d:=by simp only [numL,χ,Φ,or_false] at h;rcases h with rfl | rfl | rfl | rfl | rfl | rfl <;> exact .num (by decide) (by decide)
theorem tw_s (n:Nat):tw (n+1)=2+2*tw n:=rfl
theorem ze9 (n:Nat):2<=tw n:=by
 cases n with
 | zero=>exact Ζ _
 | succ n=>rw [tw_s];omega
theorem vq {s:Int}(hs:0<=s):∀ (n:Nat) {K b:Nat}{a:Int},zU (b+tw n) ns a->n+3<=K->yM F wh K 29 [.ref 2,.int s,.int n] (Dr ns b (Wt s n)) (Sp ns a):=by
 intro n
 induction n with
 | zero=>
  intro K b a p hK;obtain ⟨k,hk,rfl⟩:=up hK;refine je ?_;nofun;refine Dr.go (zQ (b:=b+1) (by decide) p (by omega)) ?_;rintro _ a' ⟨x,rfl,x0,x1⟩ p';nofun;have last:za F wh k noX 28 [.ref 2,.lst numL] (fun x S1=>retV x fun o=>nxt (fun ρ' S'=>wpCs (za F wh k) noX wh [] ρ' (told (Dr ns b (Wt s 0))) S') (told (Dr ns b (Wt s 0))) o S1) (Sp ns a'):=by refine Dr.go (yp (by decide) p' (by omega)) ?_;intro d a2 hd p2;nofun;exact ⟨d,a2,rfl,zcm hd,p2,rfl⟩
  refine zB (fun h=>?_) (fun h=>?_)
  ·nofun;refine zB (fun h2=>?_) (fun h2=>?_)
   ·have h2:0 < s:=of_decide_eq_true h2;nofun;refine Dr.go (zQ h2 p' (by omega)) ?_;rintro _ a2 ⟨y,rfl,y0,y1⟩ p2;nofun;exact ⟨_,a2,rfl,.slot y0 y1,p2,rfl⟩
   ·nofun;refine zB (fun h3=>?_) (fun h3=>?_)
    ·nofun;exact last
    ·nofun;exact last
  ·nofun;refine zB (fun h3=>?_) (fun h3=>?_)
   ·nofun;exact last
   ·nofun;exact last
 | succ n ih=>
  intro K b a p hK;obtain ⟨k,hk,rfl⟩:=up (show n+3+1<=K by omega);have t2:=ze9 n;refine je ?_;nofun;have p0:zU (b+(1+2*tw n)+1) ns a:=p.mono (by rw [tw_s];omega);refine Dr.go (zQ (b:=b+(1+2*tw n)) (by decide) p0 (by omega)) ?_;rintro _ a' ⟨x,rfl,x0,x1⟩ p';nofun;have last:za F wh k noX 28 [.ref 2,.lst numL] (fun x S1=>retV x fun o=>nxt (fun ρ' S'=>wpCs (za F wh k) noX wh [] ρ' (told (Dr ns b (Wt s (n+1)))) S') (told (Dr ns b (Wt s (n+1)))) o S1) (Sp ns a'):=by refine Dr.go (yp (b:=b) (by decide) (p'.mono (by omega)) (by omega)) ?_;intro d a2 hd p2;nofun;exact ⟨d,a2,rfl,zcm hd,p2,rfl⟩
  refine zB (fun h=>?_) (fun h=>?_)
  ·nofun;refine zB (fun h2=>?_) (fun h2=>?_)
   ·have h2:0 < s:=of_decide_eq_true h2;nofun;refine Dr.go (zQ (b:=b) h2 (p'.mono (by omega)) (by omega)) ?_;rintro _ a2 ⟨y,rfl,y0,y1⟩ p2;nofun;exact ⟨_,a2,rfl,.slot y0 y1,p2,rfl⟩
   ·nofun;refine zB (fun h3=>?_) (fun h3=>?_)
    ·have h3:x=6:=eq_of_beq (show (x==6)=true from h3);have h:x < 3:=of_decide_eq_true h;omega
    ·nofun;exact last
  ·nofun;refine zB (fun h3=>?_) (fun h3=>?_)
   ·nofun;refine yD (decide_eq_true (by show (0:Int) < ((n+1:Nat):Int);omega)) ?_;nofun;refine Dr.go (yp (b:=b+2*tw n) (by simp) (p'.mono (by omega)) (by omega)) ?_;intro d a2 hd p2;nofun;obtain ⟨sg,rfl,hsg⟩:∃ sg:Str,d=.str sg/\sg∈sgL:=by simp only [χ,Φ,or_false] at hd;rcases hd with rfl | rfl | rfl | rfl | rfl <;> exact ⟨_,rfl,by decide⟩
    have e:(((n+1:Nat):Int)) - 1=(n:Int):=by omega
    rw [e];refine Dr.go (ih (b:=b+tw n) (p2.mono (by omega)) (by omega)) ?_;intro d3 a3 hd3 p3;nofun;rw [e];refine Dr.go (ih (b:=b) (p3.mono (by omega)) (by omega)) ?_;intro d4 a4 hd4 p4;nofun;exact ⟨_,a4,rfl,.tri hsg hd3 hd4,p4,rfl⟩
   ·nofun;exact last
end
inductive Lt (i R:Int):D->Prop
 | non:Lt i R .non
 | num {j:Int}:i < j->j < R->Lt i R (.int j)
section
variable {K b:Nat}{ns:List Int}{a:Int}
theorem QK {i j:Int}(h1:-1000000<=i) (h2:i<=1000000) (h3:-1000000<=j) (h4:j<=1000000):lrgD (.int i) (.int j)=some (.lst (zx i j),true):=by
 show (if (decide (-1000000<=i)&&decide (i<=1000000)&&decide (-1000000<=j)&&decide (j<=1000000))=true then some (D.lst (zx i j),true) else none)=_
 rw [decide_eq_true h1,decide_eq_true h2,decide_eq_true h3,decide_eq_true h4];rfl
theorem bind1 {ρ:List Slot}{i:Nat}{d:D}(hi:i < ρ.length) (h:yF d=false):Kf ρ (.one i) (d,.st)=some (ρ.set i (.sh d)):=by
 show (if (decide (i < ρ.length)&&!yF d)=true then some (ρ.set i (if false=true then .ow d else .sh d)) else none)=_
 rw [h,decide_eq_true hi];rfl
def rwI (ns:List Int) (b:Nat) (s:Int) (l:List D) (ρ:List Slot) (S':Store):Prop:=
 ∃ (a:Int) (acc:List D) (x3 x4 x5 x6:Slot),S'=Sp ns a/\zU (b+32*l.length) ns a/\ρ=[.sh (.ref 2),.sh (.int s),.ow (.lst acc),x3,x4,x5,x6]/\acc.length+l.length<=3/\(∀ r∈acc,Rw s r)/\∀ d∈l,∃ j,d=.int j
theorem za6 {P:D->Prop}{l:List D}{x:D}(h:∀ r∈l,P r) (hx:P x):∀ r∈l++[x],P r:=fun r hr=>by
 rcases ϣ.mp hr with z | z
 ·exact h r z
 ·rw [ω.mp z];exact hx
theorem zd2 {s w j:Int}{acc:List D}{x5 x6:Slot}{Kc:Ko}(hs:0<=s) (p:zU (b+31) ns a) (hl:acc.length<=3) (hK:7<=K) (q:∀ (e:D) (a':Int) (y5 y6:Slot),Rw s e->zU b ns a'->Kc (.next [.sh (.ref 2),.sh (.int s),.ow (.lst (acc++[e])),.sh (.int j),.sh (.int w),y5,y6]) (Sp ns a')):
  wpCs (za F wh K) noX wh [.ite (.and (.cmp .Eq ⇑4 ↥0) (.one (.cmp .Gt ⇑1 ↥0))) [.set (.one 5) (.call 27 [.var 0,.var 1]),.app 2 (.tup [.con (.str "put"),.var 5,.call 29 [.var 0,.var 1,.con (.int 3)]])] [.ite (.cmp .Eq ⇑4 ↥1) [.set (.one 6) (.call 28 [.var 0,.lst [.con (.str "do"),.con (.str "done"),.con (.str "undo"),.con (.str "undone")]]),.app 2 (.tup [.con (.str "mark"),.var 6,.call 27 [.var 0,.con (.int 24)]])] [.app 2 (.tup [.con (.str "tell"),.call 29 [.var 0,.var 1,.con (.int 2)]])]]] [.sh (.ref 2),.sh (.int s),.ow (.lst acc),.sh (.int j),.sh (.int w),x5,x6] Kc (Sp ns a):=by
 have tl:∀ {Kd:Ko},(∀ (e:D) (a':Int) (y5 y6:Slot),Rw s e->zU b ns a'->Kd (.next [.sh (.ref 2),.sh (.int s),.ow (.lst (acc++[e])),.sh (.int j),.sh (.int w),y5,y6]) (Sp ns a')) ->
   wpCs (za F wh K) noX wh [.ite (.cmp .Eq ⇑4 ↥1) [.set (.one 6) (.call 28 [.var 0,.lst [.con (.str "do"),.con (.str "done"),.con (.str "undo"),.con (.str "undone")]]),.app 2 (.tup [.con (.str "mark"),.var 6,.call 27 [.var 0,.con (.int 24)]])] [.app 2 (.tup [.con (.str "tell"),.call 29 [.var 0,.var 1,.con (.int 2)]])]] [.sh (.ref 2),.sh (.int s),.ow (.lst acc),.sh (.int j),.sh (.int w),x5,x6] Kd (Sp ns a):=fun {Kd} q=>by
  nofun;refine zB (fun h=>?_) (fun h=>?_)
  ·nofun;refine Dr.go (yp (b:=b+1) (by simp) (p.mono (by omega)) (by omega)) ?_;intro d a2 hd p2;obtain ⟨sg,rfl,hsg⟩:∃ sg:Str,d=.str sg/\sg∈mkL:=by simp only [χ,Φ,or_false] at hd;rcases hd with rfl | rfl | rfl | rfl <;> exact ⟨_,rfl,by decide⟩
   nofun;refine Dr.go (zQ (b:=b) (by decide) p2 (by omega)) ?_;rintro _ a3 ⟨y,rfl,y0,y1⟩ p3;nofun;exact q _ a3 _ _ (.mark hsg y0 y1) p3
  ·nofun;refine Dr.go (vq hs 2 (b:=b) (p.mono (by show b+14<=_;omega)) (by omega)) ?_;intro d a4 hd4 p4;nofun;exact q _ a4 _ _ (.tell (hd4.deep (by decide))) p4
 refine yO ?_;obtain ⟨tt,ht⟩:∃ tt,tt=[C.ite (.cmp .Eq ⇑4 ↥1) [.set (.one 6) (.call 28 [.var 0,.lst [.con (.str "do"),.con (.str "done"),.con (.str "undo"),.con (.str "undone")]]),.app 2 (.tup [.con (.str "mark"),.var 6,.call 27 [.var 0,.con (.int 24)]])] [.app 2 (.tup [.con (.str "tell"),.call 29 [.var 0,.var 1,.con (.int 2)]])]]:=⟨_,rfl⟩
 rw [<- ht] at tl ⊢;clear ht;dsimp only [wpC,J8,J7,Wc,zO,xm,Ϥ,ϝ,ϥ];nofun;refine zB (fun h=>?_) (fun h=>?_)
 ·nofun;refine zB (fun h2=>?_) (fun h2=>?_)
  ·have h2:0 < s:=of_decide_eq_true h2;nofun;refine Dr.go (zQ (b:=b+30) h2 p (by omega)) ?_;rintro _ a2 ⟨y,rfl,y0,y1⟩ p2;nofun;refine Dr.go (vq hs 3 (b:=b) p2 (by omega)) ?_;intro d a4 hd4 p4;nofun;exact q _ a4 _ _ (.put y0 y1 hd4) p4
  ·refine tl ?_;intro e a' y5 y6 h1 h2;nofun;exact q e a' y5 y6 h1 h2
 ·nofun;refine tl ?_;intro e a' y5 y6 h1 h2;nofun;exact q e a' y5 y6 h1 h2
theorem zbF {s:Int}(hs:0<=s) (p:zU (b+97) ns a) (hK:8<=K):yM F wh K 30 [.ref 2,.int s] (Dr ns b fun d=>∃ rows,d=.tup rows/\rows.length<=3/\∀ r∈rows,Rw s r) (Sp ns a):=by
 obtain ⟨k,hk,rfl⟩:=up hK;refine W2 ?_;nofun;refine Dr.go (zQ (b:=b+96) (by decide) p (by omega)) ?_;rintro _ a' ⟨x,rfl,x0,x1⟩ p';nofun;refine yD (by rw [fits_of (by omega),decide_eq_true (by omega)];rfl) ?_;have hlen:(zx 0 x).length<=3:=by rw [yJ];omega
 refine wp_walk (rwI ns b s) ?_ ?_ _ _ _ ⟨a',[],.no,.no,.no,.no,rfl,p'.mono (by omega),rfl,by simpa using hlen,(fun _ z=>(nomatch z)),fun d hd=>(wy hd).elim fun j q=>⟨j,q.1⟩⟩
 ·rintro d l ρ S' ⟨a2,acc,x3,x4,x5,x6,rfl,p2,rfl,hl,hr,hd⟩;obtain ⟨j,rfl⟩:=hd d θ;have hl':acc.length+(l.length+1)<=3:=hl;have p2':zU (b+32*(l.length+1)) ns a2:=p2;have hd':∀ d∈l,∃ j,d=.int j:=fun d h=>hd d (ι _ h)
  refine zE rfl ?_;dsimp only [Ϥ];refine yO ?_;dsimp only [wpC,yj,wpEs,zO,xm,ϝ];nofun;refine Dr.go (zQ (b:=b+32*l.length+31) (by decide) (p2'.mono (by omega)) (by omega)) ?_;rintro _ a3 ⟨w,rfl,w0,w1⟩ p3;refine zE rfl ?_;refine kh ?_;dsimp only [Ϥ];refine zd2 (b:=b+32*l.length) hs p3 (by omega) hk ?_;intro e a4 y5 y6 he p4;nofun;exact ⟨a4,_,_,_,_,_,rfl,p4,rfl,by simp;omega,za6 hr he,hd'⟩
 ·rintro ρ S' ⟨a2,acc,x3,x4,x5,x6,rfl,p2,rfl,hl,hr,hd⟩;have hl:acc.length<=3:=by simpa using hl
  nofun;exact ⟨_,a2,rfl,⟨acc,rfl,hl,hr⟩,p2.mono (by omega),rfl⟩
theorem jM {i R:Int}(h0:0<=i) (h1:i < R) (h7:R<=7) (p:zU (b+1) ns a) (hK:3<=K):yM F wh K 33 [.ref 2,.int i,.int R] (Dr ns b fun d=>Lt i R d/\(i+1 < R->d≠.non)) (Sp ns a):=by
 obtain ⟨k,hk,rfl⟩:=up hK;refine YL ?_;nofun;refine ju (QK (by omega) (by omega) (by omega) (by omega)) ?_;nofun;have fin:∀ l:List D,0 < l.length->(∀ d∈l,Lt i R d/\(i+1 < R->d≠.non))->za F wh k noX 28 [D.ref 2,.lst l] (fun x S1=>retV x fun o=>nxt (fun ρ' S'=>wpCs (za F wh k) noX wh [] ρ' (told (Dr ns b fun d=>Lt i R d/\(i+1 < R->d≠.non))) S') (told (Dr ns b fun d=>Lt i R d/\(i+1 < R->d≠.non))) o S1) (Sp ns a):=fun l hl h=>by refine Dr.go (yp hl p hk) ?_;intro d a2 hd p2;nofun;exact ⟨d,a2,rfl,h d hd,p2,rfl⟩
 have hr:∀ d∈zx (i+1) R,Lt i R d/\(i+1 < R->d≠.non):=fun d hd=>by obtain ⟨j,rfl,j0,j1⟩:=wy hd;exact ⟨.num (by omega) j1,fun _ z=>(nomatch z)⟩
 by_cases hb:R<=i+1
 ·refine ju (d:=.lst [.non]) (by show mulD (.lst [.non]) (.int (if decide (i+1 >= R)=true then 1 else 0))=_;rw [decide_eq_true (show i+1 >= R from hb)];rfl) ?_;refine ju (jc (by rw [yJ];simp;omega)) ?_;nofun;refine fin _ (by simp) fun d hd=>?_
  rcases ϣ.mp hd with z | z
  ·exact hr d z
  ·rw [ω.mp z];exact ⟨.non,fun z=>absurd z (by omega)⟩
 ·refine ju (d:=.lst []) (by show mulD (.lst [.non]) (.int (if decide (i+1 >= R)=true then 1 else 0))=_;rw [decide_eq_false (show ¬ i+1 >= R from hb)];rfl) ?_;refine ju (jc (by rw [yJ];simp;omega)) ?_;nofun;rw [Ε];exact fin _ (by rw [yJ];omega) hr
end
inductive Al (R:D->D->Prop):List D->List D->Prop
 | nil:Al R [] []
 | cons {x y:D}{xs ys:List D}:R x y->Al R xs ys->Al R (x::xs) (y::ys)
theorem Al.len {R:D->D->Prop}{xs ys:List D}(h:Al R xs ys):ys.length=xs.length:=by
 induction h with
 | nil=>rfl
 | cons _ _ ih=>simp [ih]
theorem Al.all {R:D->D->Prop}{P:D->Prop}{xs ys:List D}(h:Al R xs ys) (q:∀ x y,R x y->P y):∀ y∈ys,P y:=by
 induction h with
 | nil=>exact fun _ z=>(nomatch z)
 | cons r _ ih=>
  intro y hy;rcases χ.mp hy with rfl | hy
  ·exact q _ _ r
  ·exact ih y hy
section
variable {K b:Nat}{ns:List Int}{a:Int}
theorem Yz {s:D->(Option D->Store->Prop)->Store->Prop}{V:List D->Store->Prop}{R:D->D->Prop}{C:Nat}:∀ (xs acc:List D) (a:Int),zU (b+C*xs.length) ns a->acc.length+xs.length<=1000 ->
  (∀ x∈xs,∀ (b:Nat) (a:Int) (Q:Option D->Store->Prop),zU (b+C) ns a->(∀ y a',R x y->zU b ns a'->Q (some y) (Sp ns a'))->s x Q (Sp ns a))->(∀ ys a',Al R xs ys->zU b ns a'->V (acc++ys) (Sp ns a'))->wJ s xs acc V (Sp ns a)
 | [],acc,a,p,_,_,v=>by have:=v [] a .nil (p.mono (by simp));rw [Ε] at this;exact this
 | x::xs,acc,a,p,hl,h,v=>by
  have hl:acc.length+(xs.length+1)<=1000:=hl;have p:zU (b+C*(xs.length+1)) ns a:=p;refine h x θ (b+C*xs.length) a _ (p.mono (by rw [Nat.mul_succ];omega)) fun y a' hy p'=>yD (fits_of (by omega)) (Yz xs (acc++[y]) a' p' (by simp;omega) (fun z hz=>h z (ι _ hz)) fun ys a2 al p2=>?_)
  have:=v (y::ys) a2 (.cons hy al) p2;simpa using this
noncomputable abbrev hD (hs:List (Str×Int×Int)):D:=.lst (hs.map fun h=>.tup [.str h.1,.int h.2.1,.int h.2.2])
noncomputable def hC (hs:List (Str×Int×Int)):List (Str×Int):=hs.map fun h=>(h.1,h.2.1)
structure HdOk (hs:List (Str×Int×Int)):Prop where
 pos:0 < hs.length
 few:hs.length<=3
 wd:∀ h∈hs,wdS h.1=true
 k0:∀ h∈hs,0<=h.2.1
 k3:∀ h∈hs,h.2.1<=3
theorem Zf {s:Int}(hs:0<=s) (h32:s<=32) (p:zU (b+1) ns a) (hK:2<=K) {V:Po}(q:∀ d a',Tg s d->zU b ns a'->V (d,.st) (Sp ns a')):za F wh K noX 28 [.ref 2,.lst ([.non]++zx 0 s)] V (Sp ns a):=by
 refine Dr.go (yp (b:=b) (by simp) p hK) ?_;intro d a2 hd p2;refine q d a2 ?_ p2;rcases ϣ.mp hd with z | z
 ·rw [ω.mp z];exact .non
 ·obtain ⟨j,rfl,j0,j1⟩:=wy z;exact .num j0 j1
theorem zaL {s c:Int}{hs:List (Str×Int×Int)}(h:HdOk hs) (s0:0<=s) (s32:s<=32) (p:zU (b+21) ns a) (hK:5<=K):yM F wh K 31 [.ref 2,.int s,hD hs,.int c] (Dr ns b (Br s (hC hs))) (Sp ns a):=by
 obtain ⟨k,hk,rfl⟩:=up hK;refine ZZ (x2:=hD hs) ?_;nofun;refine ju (QK (by decide) (by decide) (by omega) (by omega)) ?_;refine ju (jc (by rw [yJ];simp;omega)) ?_;nofun;refine Zf (b:=b+20) s0 s32 p (by omega) ?_;intro t a2 ht p2;have ti:yF t=false:=by cases ht <;> rfl
 refine zE (bind1 (ύ rfl) ti) ?_;nofun;refine Dr.go (zQ (b:=b+19) (by decide) p2 (by omega)) ?_;rintro _ a3 ⟨w,rfl,w0,w1⟩ p3;nofun;refine zB (fun h1=>?_) (fun h1=>?_)
 ·nofun;refine Dr.go (yp (b:=b+18) (by simp) p3 (by omega)) ?_;intro d a4 hd p4;obtain ⟨wd,rfl,hw⟩:∃ wd:Str,d=.str wd/\wdS wd=true:=by simp only [χ,Φ,or_false] at hd;rcases hd with rfl | rfl | rfl | rfl <;> exact ⟨_,rfl,by decide +kernel⟩
  nofun;refine Dr.go (vq s0 1 (b:=b) (p4.mono (by show b+6<=_;omega)) (by omega)) ?_;intro e a5 he p5;nofun;exact ⟨_,a5,rfl,.ask ht hw (he.deep (by decide)),p5,rfl⟩
 ·nofun;refine Dr.go (yp (b:=b+18) (by rw [ξ];exact h.pos) p3 (by omega)) ?_;intro d a4 hd p4;obtain ⟨⟨f,n,z⟩,hm,rfl⟩:=Ψ.mp hd;have k0:=h.k0 _ hm;have k3:=h.k3 _ hm;have hw:=h.wd _ hm;dsimp only at k0 k3 hw;nofun;refine xR ?_;dsimp only [wpI,zO];nofun;refine yD (by rw [fits_of (by omega),decide_eq_true (by omega)];rfl) ?_;have hrl:(zx 0 n).length=n.toNat:=by rw [yJ];omega
  refine Yz (b:=b) (R:=fun _ y=>Wt s 1 y) (C:=6) (zx 0 n) [] a4 (p4.mono (by rw [hrl];omega)) (by rw [hrl];simp;omega) (fun x hx b' a' Q p' hQ=>?_) (fun ys a' al p'=>?_)
  ·obtain ⟨j,rfl,j0,j1⟩:=wy hx;refine zE rfl ?_;dsimp only [wpF,yj,wpEs,zO,xm,inn,nT,η,Ϩ,Ε,Ϥ,Ϙ,Τ,ϝ,ϥ,fL];nofun;refine Dr.go (vq s0 1 (b:=b') p' (by omega)) ?_;intro e a5 he p5;nofun;exact hQ e a5 he p5
  ·have hlen:=al.len;rw [hrl] at hlen;rw [Τ];nofun;refine ⟨_,a',rfl,.call ht hw (Ψ.mpr ⟨_,hm,rfl⟩) (by omega) k3 fun e he=>?_,p',rfl⟩;exact (al.all (P:=Wt s 1) (fun _ _ r=>r) e he).deep (by decide)
theorem zcQ {s R:Int}{hs:List (Str×Int×Int)}(h:HdOk hs) (s0:0<=s) (s32:s<=32) (r0:0 < R) (p:zU (b+87) ns a) (hK:6<=K):yM F wh K 32 [.ref 2,.int s,hD hs,.int 1,.int R] (Dr ns b fun d=>∃ k l i,d=.tup [.str "want",.int k,.tup l,.int i]/\Do s R (hC hs) d) (Sp ns a):=by
 obtain ⟨k,hk,rfl⟩:=up hK;refine WY (x2:=hD hs) ?_;nofun;refine Dr.go (yp (b:=b+86) (by simp) p (by omega)) ?_;intro d a2 hd p2;obtain ⟨m,rfl,m0,m1⟩:∃ m:Int,d=.int m/\1<=m/\m<=4:=by simp only [χ,Φ,or_false] at hd;rcases hd with rfl | rfl | rfl | rfl | rfl <;> exact ⟨_,rfl,by decide,by decide⟩
 nofun;refine Dr.go (zQ (b:=b+85) (by omega) p2 (by omega)) ?_;rintro _ a3 ⟨w,rfl,w0,w1⟩ p3;nofun;refine xR ?_;dsimp only [wpI,zO];nofun;refine yD (by rw [fits_of (by omega),decide_eq_true (by omega)];rfl) ?_;have hrl:(zx 0 m).length=m.toNat:=by rw [yJ];omega
 refine Yz (b:=b+1) (R:=fun _ y=>Br s (hC hs) y) (C:=21) (zx 0 m) [] a3 (p3.mono (by rw [hrl];omega)) (by rw [hrl];simp;omega) (fun x hx b' a' Q p' hQ=>?_) (fun ys a' al p'=>?_)
 ·obtain ⟨j,rfl,j0,j1⟩:=wy hx;refine zE rfl ?_;dsimp only [wpF,yj,wpEs,zO,xm,zet,e_bi,Wc,inn,nT,η,Ϩ,Ε,Ϥ,Ϙ,Τ,ϝ,ϥ,fL];nofun;refine Dr.go (zaL h s0 s32 (b:=b') p' (by omega)) ?_;intro e a5 he p5;nofun;exact hQ e a5 he p5
 ·have hlen:=al.len;rw [hrl] at hlen;rw [Τ];nofun;refine Dr.go (zQ (b:=b) r0 p' (by omega)) ?_;rintro _ a4 ⟨x,rfl,x0,x1⟩ p4;nofun;exact ⟨_,a4,rfl,⟨_,ys,x,rfl,.want (by omega) (by omega) (by omega) (al.all fun _ _ r=>r) x0 x1⟩,p4,rfl⟩
end
def DA (i R:Int) (d:D):Prop:=(∃ w r,d=.tup (.str w::r)/\([D.str "go",.str "fork",.str "give"].any fun y=>eqP y (.str w))=true)/\∀ f o,∃ L,Ld d f o L/\∀ j∈L,i < j/\j < R
def DB (d:D):Prop:=(∃ w r,d=.tup (.str w::r)/\([D.str "go",.str "fork",.str "give"].any fun y=>eqP y (.str w))=false)/\∀ f o,∃ L,Ld d f o L/\∀ j∈L,j∈fl f\/j∈ol o
section
variable {K b:Nat}{ns:List Int}{a:Int}{i R s:Int}{hs:List (Str×Int×Int)}
def Zb (i R s:Int) (hs:List (Str×Int×Int)) (d:D):Prop:=Do s R (hC hs) d/\(DA i R d\/DB d)
theorem zeu {k x:Int}{l:List D}(h:Do s R (hC hs) (.tup [.str "want",.int k,.tup l,.int x])):Zb i R s hs (.tup [.str "want",.int k,.tup l,.int x]):=
 ⟨h,.inr ⟨⟨_,_,rfl,by decide +kernel⟩,fun f o=>⟨_,.want,fun j hj=>ϣ.mp hj⟩⟩⟩
theorem zhy {x:Int}(h0:0<=x) (h1:x < s):Zb i R s hs (.tup [.str "out",.int x]):=
 ⟨.out h0 h1,.inr ⟨⟨_,_,rfl,by decide +kernel⟩,fun f o=>⟨_,.out,fun j hj=>ϣ.mp hj⟩⟩⟩
theorem zhx {x:Int}(h0:0<=x) (h1:x < R):Zb i R s hs (.tup [.str "round",.int x]):=
 ⟨.rnd h0 h1,.inr ⟨⟨_,_,rfl,by decide +kernel⟩,fun f o=>⟨_,.rnd,fun j hj=>.inl hj⟩⟩⟩
theorem zey {e:D}(h:Wt s 3 e):Zb i R s hs (.tup [.str "fail",e]):=
 ⟨.fail h,.inr ⟨⟨_,_,rfl,by decide +kernel⟩,fun f o=>⟨_,.fail,fun j hj=>.inl hj⟩⟩⟩
theorem zew {e:D}(h:Wt s 3 e):Zb i R s hs (.tup [.str "give",e]):=
 ⟨.give h,.inl ⟨⟨_,_,rfl,by decide +kernel⟩,fun f o=>⟨_,.give,fun j hj=>(nomatch hj)⟩⟩⟩
theorem zjP {x:Int}(i0:0<=i) (h0:i < x) (h1:x < R):Zb i R s hs (.tup [.str "go",.int x]):=
 ⟨.go (by omega) h1,.inl ⟨⟨_,_,rfl,by decide +kernel⟩,fun f o=>⟨_,.go,fun j hj=>by rw [ω.mp hj];exact ⟨h0,h1⟩⟩⟩⟩
theorem zex {e:D}{x y:Int}(i0:0<=i) (h:Wt s 3 e) (h0:i < x) (h1:x < R) (h2:i < y) (h3:y < R):Zb i R s hs (.tup [.str "fork",e,.int x,.int y]):=
 ⟨.fork h (by omega) h1 (by omega) h3,.inl ⟨⟨_,_,rfl,by decide +kernel⟩,fun f o=>⟨_,.fork,fun j hj=>by
  rcases χ.mp hj with rfl | hj
  ·exact ⟨h0,h1⟩
  ·rw [ω.mp hj];exact ⟨h2,h3⟩⟩⟩⟩
noncomputable def drT:List C:=ye.drop 6
theorem zax {n:D}{w:Int}(s0:0<=s) (r0:0 < R) (p:zU (b+15) ns a) (hK:6<=K):
  wpCs (za F wh K) noX wh drT [.sh (.ref 2),.sh (.int i),.sh (.int s),.sh (.int R),.sh (.int 1),.sh (hD hs),.sh n,.sh (.int w),.no] (told (Dr ns b (Zb i R s hs))) (Sp ns a):=by
 dsimp only [drT,ye,dI];nofun;refine zB (fun h=>?_) (fun h=>?_)
 ·nofun;refine Dr.go (zQ (b:=b) r0 (p.mono (by omega)) (by omega)) ?_;rintro _ a2 ⟨x,rfl,x0,x1⟩ p2;nofun;exact ⟨_,a2,rfl,zhx x0 x1,p2,rfl⟩
 ·nofun;refine Dr.go (yp (b:=b+14) (by simp) p (by omega)) ?_;intro d a2 hd p2;obtain ⟨wd,rfl,hw⟩:∃ wd:Str,d=.str wd/\(wd="give"\/wd="fail"):=by
   simp only [χ,Φ,or_false] at hd;rcases hd with rfl | rfl | rfl
   ·exact ⟨_,rfl,.inl rfl⟩
   ·exact ⟨_,rfl,.inr rfl⟩
   ·exact ⟨_,rfl,.inr rfl⟩
  nofun;refine Dr.go (vq s0 2 (b:=b) p2 (by omega)) ?_;intro e a3 he p3;nofun;refine ⟨_,a3,rfl,?_,p3,rfl⟩;rcases hw with rfl | rfl
  ·exact zew (he.deep (by decide))
  ·exact zey (he.deep (by decide))
noncomputable def drU:List C:=ye.drop 4
theorem zbS {n:D}{w:Int}(s0:0<=s) (i0:0<=i) (i1:i < R) (r7:R<=7) (hn:Lt i R n) (p:zU (b+15) ns a) (hK:7<=K):
  wpCs (za F wh K) noX wh drU [.sh (.ref 2),.sh (.int i),.sh (.int s),.sh (.int R),.sh (.int 1),.sh (hD hs),.sh n,.sh (.int w),.no] (told (Dr ns b (Zb i R s hs))) (Sp ns a):=by
 have fin:=zax (b:=b) (ns:=ns) (a:=a) (K:=K) (i:=i) (R:=R) (s:=s) (hs:=hs) (n:=n) (w:=w) s0 (by omega) p (by omega);obtain ⟨tl,htl⟩:∃ tl,tl=drT:=⟨_,rfl⟩
 rw [<- htl] at fin;show wpCs _ _ _ (drU.take 2++drT) _ _ _
 rw [<- htl];clear htl;dsimp only [drU,ye,dI,cA,Ϙ,Τ];cases hn with
 | non=>
  nofun;refine zB (fun h=>?_) (fun h=>?_)
  ·nofun;refine zB (fun h=>?_) (fun h=>?_)
   ·nofun;exact fin
   ·nofun;exact fin
  ·nofun;refine zB (fun h=>?_) (fun h=>?_)
   ·nofun;exact fin
   ·nofun;exact fin
 | @num x x0 x1=>
  have fork:∀ {e:D}{a':Int},Wt s 3 e->zU (b+1) ns a'->za F wh K noX 33 [.ref 2,.int i,.int R] (Dr ns b fun d=>∃ y,d=.int y/\i < y/\y < R) (Sp ns a'):=fun {e a'} he p'=>by
   refine Dr.go (jM (b:=b) i0 i1 r7 p' (by omega)) ?_;rintro d a2 ⟨hd,hd2⟩ p2;cases hd with
   | non=>exact absurd rfl (hd2 (by omega))
   | num y0 y1=>exact ⟨_,a2,rfl,⟨_,rfl,y0,y1⟩,p2,rfl⟩
  nofun;refine zB (fun h=>?_) (fun h=>?_)
  ·nofun;exact ⟨_,a,rfl,zjP i0 x0 x1,p.mono (by omega),rfl⟩
  ·nofun;refine zB (fun h=>?_) (fun h=>?_)
   ·nofun;refine Dr.go (vq s0 2 (b:=b+1) p (by omega)) ?_;intro e a3 he p3;have ei:yF e=false:=by cases he <;> rfl
    refine zE (bind1 (ύ rfl) ei) ?_;nofun;have he:=he.deep (show 2<=3 by decide);refine Dr.go (fork he p3) ?_;rintro _ a4 ⟨y,rfl,y0,y1⟩ p4;nofun;exact ⟨_,a4,rfl,zex i0 he x0 x1 y0 y1,p4,rfl⟩
   ·nofun;exact fin
theorem zbH (h:HdOk hs) (s0:0<=s) (s32:s<=32) (i0:0<=i) (i1:i < R) (r7:R<=7) (p:zU (b+89) ns a) (hK:8<=K):yM F wh K 34 [.ref 2,.int i,.int s,.int R,.int 1,hD hs] (Dr ns b (Zb i R s hs)) (Sp ns a):=by
 obtain ⟨k,hk,rfl⟩:=up hK;refine W4 (x5:=hD hs) ?_;have fin:=fun {n:D}{w:Int}{a:Int}=>zbS (b:=b) (ns:=ns) (a:=a) (K:=k) (i:=i) (R:=R) (s:=s) (hs:=hs) (n:=n) (w:=w) s0 i0 i1 r7
 obtain ⟨tl,htl⟩:∃ tl,tl=drU:=⟨_,rfl⟩
 rw [<- htl] at fin;show wpCs _ _ _ (ye.take 4++drU) _ _ _
 rw [<- htl];clear htl;dsimp only [ye,cA,Ϙ,Τ];nofun;refine Dr.go (jM (b:=b+88) i0 i1 r7 p (by omega)) ?_;rintro n a2 ⟨hn,hn2⟩ p2;have ni:yF n=false:=by cases hn <;> rfl
 refine zE (bind1 (ύ rfl) ni) ?_;nofun;refine Dr.go (zQ (b:=b+87) (by decide) p2 (by omega)) ?_;rintro _ a3 ⟨w,rfl,w0,w1⟩ p3;nofun;refine zB (fun h1=>?_) (fun h1=>?_)
 ·nofun;refine Dr.go (zcQ h s0 s32 (by omega) (b:=b) p3 (by omega)) ?_;rintro _ a4 ⟨x,l,y,rfl,hd⟩ p4;nofun;exact ⟨_,a4,rfl,zeu hd,p4,rfl⟩
 ·nofun;refine zB (fun h2=>?_) (fun h2=>?_)
  ·nofun;refine zB (fun h3=>?_) (fun h3=>?_)
   ·have h3:0 < s:=of_decide_eq_true h3;nofun;refine Dr.go (zQ (b:=b) h3 (p3.mono (by omega)) (by omega)) ?_;rintro _ a4 ⟨x,rfl,x0,x1⟩ p4;nofun;exact ⟨_,a4,rfl,zhy x0 x1,p4,rfl⟩
   ·nofun;exact fin hn (p3.mono (by omega)) (by omega)
  ·nofun;exact fin hn (p3.mono (by omega)) (by omega)
noncomputable def rmT:List C:=yt.drop 4
theorem room_tail {P:Int->Prop}{rows door n:D}(h:HdOk hs) (s0:0<=s) (s32:s<=32) (i0:0<=i) (i1:i < R) (r7:R<=7) (hn:n=.non\/∃ x,n=.int x/\(0<=x/\x < R)/\P x) (p:zU (b+4) ns a) (hK:4<=K)
  {V:Po}(q:∀ fall off a',Fa s R fall->(∀ j∈fl fall,P j)->Of R off->(∀ j∈ol off,i < j/\j < R)->zU b ns a'->V (.tup [rows,door,fall,off],.st) (Sp ns a')):
  wpCs (za F wh K) noX wh rmT [.sh (.ref 2),.sh (.int i),.sh (.int s),.sh (.int R),.sh (.int 1),.sh (hD hs),.sh rows,.sh door,.sh n,.no,.no] (told V) (Sp ns a):=by
 have off:∀ {fall:D}{a:Int},Fa s R fall->(∀ j∈fl fall,P j)->zU (b+2) ns a->wpCs (za F wh K) noX wh (rmT.drop 2) [.sh (.ref 2),.sh (.int i),.sh (.int s),.sh (.int R),.sh (.int 1),.sh (hD hs),.sh rows,.sh door,.sh n,.sh fall,.no] (told V) (Sp ns a):=fun {fall a} hf hf2 p=>by
  dsimp only [rmT,yt,dI];nofun;refine Dr.go (jM (b:=b+1) i0 i1 r7 p (by omega)) ?_;rintro d a2 ⟨hd,_⟩ p2;nofun;refine Dr.go (yp (b:=b) (by simp) p2 (by omega)) ?_;intro o a3 ho p3;have hof:Of R o/\∀ j∈ol o,i < j/\j < R:=by
   simp only [χ,Φ,or_false] at ho;rcases ho with rfl | rfl | rfl | rfl
   ·exact ⟨.tg .non,fun j z=>(nomatch z)⟩
   ·exact ⟨.shut,fun j z=>(nomatch z)⟩
   ·exact ⟨.shut,fun j z=>(nomatch z)⟩
   ·cases hd with
    | non=>exact ⟨.tg .non,fun j z=>(nomatch z)⟩
    | num y0 y1=>exact ⟨.tg (.num (by omega) y1),fun j z=>by rw [ω.mp z];exact ⟨y0,y1⟩⟩
  have oi:yF o=false:=by
   cases hof.1 with
   | shut=>rfl
   | tg t=>cases t <;> rfl
  refine zE (bind1 (ύ rfl) oi) ?_;nofun;exact q fall o a3 hf hf2 hof.1 hof.2 p3
 obtain ⟨tl,htl⟩:∃ tl,tl=rmT.drop 2:=⟨_,rfl⟩
 rw [<- htl] at off;show wpCs _ _ _ (rmT.take 2++rmT.drop 2) _ _ _
 rw [<- htl];clear htl;dsimp only [rmT,yt,dI,cA,Ϙ,Τ];nofun;refine ju (QK (by decide) (by decide) (by omega) (by omega)) ?_;refine ju (jc (by rw [yJ];simp;omega)) ?_;nofun;refine Zf (b:=b+3) s0 s32 p (by omega) ?_;intro t a2 ht p2;have ti:yF t=false:=by cases ht <;> rfl
 nofun;refine Dr.go (zQ (b:=b+2) (by decide) p2 (by omega)) ?_;rintro _ a3 ⟨w,rfl,w0,w1⟩ p3;nofun;refine zB (fun h1=>?_) (fun h1=>?_)
 ·nofun;exact off .non (fun j z=>(nomatch z)) p3
 ·nofun;rcases hn with rfl | ⟨x,rfl,⟨x0,x1⟩,px⟩
  ·nofun;exact off .non (fun j z=>(nomatch z)) p3
  ·nofun;exact off (.at ht x0 x1) (fun j z=>by rw [ω.mp z];exact px) p3
theorem zbG (h:HdOk hs) (s0:0<=s) (s32:s<=32) (i0:0<=i) (i1:i < R) (r7:R<=7) (p:zU (b+192) ns a) (hK:9<=K):yM F wh K 35 [.ref 2,.int i,.int s,.int R,.int 1,hD hs] (Dr ns b fun d=>∃ L,Rm s R (hC hs) d L/\∀ j∈L,i < j/\j < R) (Sp ns a):=by
 obtain ⟨k,hk,rfl⟩:=up hK;refine W3 (x5:=hD hs) ?_;have fin:=fun {P:Int->Prop}{rows door n:D}{a:Int}=>room_tail (P:=P) (rows:=rows) (door:=door) (n:=n) (b:=b) (ns:=ns) (a:=a) (K:=k) (i:=i) (R:=R) (s:=s) (hs:=hs) h s0 s32 i0 i1 r7
 obtain ⟨tl,htl⟩:∃ tl,tl=rmT:=⟨_,rfl⟩
 rw [<- htl] at fin;show wpCs _ _ _ (yt.take 4++rmT) _ _ _
 rw [<- htl];clear htl;dsimp only [yt,cA,Ϙ,Τ];nofun;refine Dr.go (zbF s0 (b:=b+95) p (by omega)) ?_;rintro _ a2 ⟨rows,rfl,hr3,hr⟩ p2;nofun;refine Dr.go (zbH h s0 s32 i0 i1 r7 (b:=b+6) p2 (by omega)) ?_;rintro door a3 ⟨hd,hk2⟩ p3;have di:yF door=false:=by cases hd <;> rfl
 refine zE (bind1 (ύ rfl) di) ?_;nofun;refine Dr.go (jM (b:=b+5) i0 i1 r7 p3 (by omega)) ?_;rintro n a4 ⟨hn,_⟩ p4;have ni:yF n=false:=by cases hn <;> rfl
 refine zE (bind1 (ύ rfl) ni) ?_;rcases hk2 with ⟨⟨w,r,rfl,hw⟩,hL⟩ | ⟨⟨w,r,rfl,hw⟩,hL⟩
 ·nofun;refine yD hw ?_;nofun;refine Dr.go (zQ (b:=b+4) (by omega) p4 (by omega)) ?_;rintro _ a5 ⟨x,rfl,x0,x1⟩ p5;nofun;refine fin (P:=fun _=>True) (.inr ⟨x,rfl,⟨x0,x1⟩,trivial⟩) p5 (by omega) ?_;intro fall off a6 f1 _ f3 _ p6;obtain ⟨L,l1,l2⟩:=hL fall off;exact ⟨_,a6,rfl,⟨L,⟨rows,_,fall,off,rfl,by omega,hr,hd,f1,f3,l1⟩,l2⟩,p6,rfl⟩
 ·nofun;refine xV hw ?_;nofun
  refine fin (P:=fun j=>i < j/\j < R) (by cases hn with
   | non=>exact .inl rfl
   | num y0 y1=>exact .inr ⟨_,rfl,⟨by omega,y1⟩,y0,y1⟩) (p4.mono (by omega)) (by omega) ?_
  intro fall off a6 f1 f2 f3 f4 p6;obtain ⟨L,l1,l2⟩:=hL fall off;refine ⟨_,a6,rfl,⟨L,⟨rows,_,fall,off,rfl,by omega,hr,hd,f1,f3,l1⟩,fun j hj=>?_⟩,p6,rfl⟩;rcases l2 j hj with z | z
  ·exact f2 j z
  ·exact f4 j z
end
noncomputable abbrev LS (ws:List Str):D:=.lst (ws.map D.str)
noncomputable def nmL:List (List Str):=[["main","a","ab"],["b","main","mainly"],["zz","z","zzz"]]
noncomputable def exL:List Str:=["q"]
theorem zjb:∀ ws∈nmL,ws.length=3/\ws.Nodup/\(∀ w∈ws,wdS w=true)/\∀ w∈ws,w ∉ exL:=by intro ws h;simp only [nmL,χ,Φ,or_false] at h;rcases h with rfl | rfl | rfl <;> exact ⟨rfl,by decide +kernel,by decide +kernel,by decide +kernel⟩
theorem Al.at {R:D->D->Prop}{xs ys:List D}(h:Al R xs ys):∀ {i:Nat}{x y:D},xs[i]?=some x->ys[i]?=some y->R x y:=by
 induction h with
 | nil=>intro i x y e;simp at e
 | cons r _ ih=>
  intro i x y e1 e2;cases i with
  | zero=>simp at e1 e2;subst e1 e2;exact r
  | succ i=>exact ih (by simpa using e1) (by simpa using e2)
theorem zfX {n:Int}{i:Nat}(h:(i:Int) < n):(zx 0 n)[i]?=some (.int i):=by unfold zx;rw [Η,ψ (by simp;omega)];simp
theorem pick {P:Nat->List Int->Prop}(h:∀ i,∃ L,P i L):∃ f:Nat->List Int,∀ i,P i (f i):=⟨fun i=>(h i).choose,fun i=>(h i).choose_spec⟩
theorem JD {s R:Int}{cts:List (Str×Int)}{ys:List D}(r0:0<=R) (al:Al (fun x y=>∃ j:Int,x=.int j/\∃ L,Rm s R cts y L/\∀ q∈L,j < q/\q < R) (zx 0 R) ys):
  (ys.length:Int)=R/\∃ L:Nat->List Int,(∀ i d,ys[i]?=some d->Rm s ys.length cts d (L i))/\Free ys.length L:=by
 have hl:=al.len;rw [yJ] at hl;have hlR:(ys.length:Int)=R:=by omega
 refine ⟨hlR,?_⟩;obtain ⟨L,hL⟩:=pick (P:=fun i L=>∀ d,ys[i]?=some d->Rm s R cts d L/\∀ q∈L,(i:Int) < q/\q < R) fun i=>by
  cases e:ys[i]? with
  | none=>exact ⟨[],fun d z=>(nomatch z)⟩
  | some y=>
   have hi:=(υ.mp e).1;obtain ⟨j,ej,L,h1,h2⟩:=al.at (zfX (by omega)) e;cases ej;exact ⟨L,fun d z=>by cases z;exact ⟨h1,h2⟩⟩
 rw [hlR];refine ⟨L,fun i d e=>(hL i d e).1,fun i=>ys.length - i,fun i hi j hj=>?_⟩;obtain ⟨h1,h2⟩:=(hL i _ (ψ hi)).2 j hj;exact ⟨j.toNat,by omega,by omega,by show ys.length - j.toNat < ys.length - i;omega⟩
section
variable {K b:Nat}{ns:List Int}{a:Int}
def hI (ns:List Int) (b:Nat) (ws:List Str) (n:Int) (l:List D) (ρ:List Slot) (S':Store):Prop:=
 ∃ (a:Int) (hs:List (Str×Int×Int)) (x4 x5:Slot),S'=Sp ns a/\zU (b+2*l.length) ns a/\ρ=[.sh (.ref 2),.sh (.int 1),.sh (LS ws),.ow (hD hs),x4,x5,.no,.no,.no,.no]/\l=zx hs.length n/\(hs.length:Int)<=n /\
  hs.map (·.1)=ws.take hs.length/\∀ h∈hs,0<=h.2.1/\h.2.1<=3/\h.2.1<=h.2.2/\h.2.2<=6
def mI (ns:List Int) (b:Nat) (nm:D) (hs:List (Str×Int×Int)) (l:List D) (ρ:List Slot) (S':Store):Prop:=
 ∃ (a:Int) (ms:List Mc) (x4 x5 x7 x8 x9:Slot),S'=Sp ns a/\zU (b+1345*l.length) ns a/\ρ=[.sh (.ref 2),.sh (.int 1),.sh nm,.sh (hD hs),x4,x5,.ow (.lst (ms.map Mc.d)),x7,x8,x9]/\l=(hs.drop ms.length).map (fun h=>.tup [.str h.1,.int h.2.1,.int h.2.2]) /\
  ms.map (fun m=>(m.nm,m.k,m.s))=hs.take ms.length/\∀ m∈ms,m.Ok (hC hs)
theorem qp (p:zU (b+4050) ns a) (hK:11<=K):yM F wh K 36 [.ref 2,.int 1] (Dr ns b fun d=>∃ ms,d=.tup (ms.map Mc.d)/\Good ms/\ms.length<=3/\∀ m∈ms,m.nm ∉ exL) (Sp ns a):=by
 obtain ⟨k,hk,rfl⟩:=up hK;refine j6 ?_;nofun;refine Dr.go (yp (b:=b+4049) (by simp) p (by omega)) ?_;intro d a2 hd p2;obtain ⟨ws,rfl,hws⟩:∃ ws,d=LS ws/\ws∈nmL:=by
  simp only [χ,Φ,or_false] at hd;rcases hd with rfl | rfl | rfl
  ·exact ⟨_,rfl,θ⟩
  ·exact ⟨_,rfl,ι _ θ⟩
  ·exact ⟨_,rfl,ι _ (ι _ θ)⟩
 obtain ⟨w3,wn,ww,wx⟩:=zjb ws hws;nofun;refine Dr.go (zQ (b:=b+4048) (by decide) p2 (by omega)) ?_;rintro _ a3 ⟨x,rfl,x0,x1⟩ p3;nofun;refine yD (by rw [fits_of (by omega),decide_eq_true (by omega)];rfl) ?_;refine wp_walk (hI ns (b+4036) ws (1+x)) ?_ ?_ _ _ _ ⟨a3,[],.no,.no,rfl,p3.mono (by rw [yJ];omega),rfl,rfl,by simp;omega,rfl,fun _ z=>(nomatch z)⟩
 ·rintro d l ρ S' ⟨a4,hs,x4,x5,rfl,p4,rfl,el,hle,hnm,hb⟩;have hlt:(hs.length:Int) < 1+x:=by
   by_cases z:(hs.length:Int) < 1+x
   ·exact z
   ·rw [zdh (by omega)] at el;cases el
  rw [Ur hlt] at el;cases el;have hi:hs.length < ws.length:=by omega
  have p4':zU (b+4036+2*((zx (hs.length+1) (1+x)).length+1)) ns a4:=p4;nofun;refine Dr.go (zQ (b:=b+4036+2*(zx (hs.length+1) (1+x)).length+1) (by decide) (p4'.mono (by omega)) (by omega)) ?_;rintro _ a5 ⟨y,rfl,y0,y1⟩ p5;nofun;refine yL (UV (by omega) (d:=.str ws[hs.length]) (by rw [Η,show ((hs.length:Int)).toNat=hs.length by omega,ψ hi];rfl)) ?_;nofun;refine Dr.go (zQ (b:=b+4036+2*(zx (hs.length+1) (1+x)).length) (by decide) p5 (by omega)) ?_;rintro _ a6 ⟨z,rfl,z0,z1⟩ p6;nofun;have eh:hD (hs++[(ws[hs.length],y,y+z)])=.lst (hs.map (fun h=>D.tup [.str h.1,.int h.2.1,.int h.2.2])++[.tup [.str ws[hs.length],.int y,.int (y+z)]]):=by
   show D.lst ((hs++_).map _)=_
   rw [aC];rfl
  refine ⟨a6,hs++[(ws[hs.length],y,y+z)],.sh (.int hs.length),.sh (.int y),rfl,p6,by rw [eh],by rw [Υ];rfl,by rw [Υ];simp;omega,?_,fun h hh=>?_⟩
  ·rw [aC,hnm,Υ];show ws.take hs.length++[ws[hs.length]]=ws.take (hs.length+1)
   rw [List.take_succ,ψ hi];rfl
  ·rcases ϣ.mp hh with q | q
   ·exact hb h q
   ·rw [ω.mp q];exact ⟨y0,by show y<=3;omega,by show y<=y+z;omega,by show y+z<=6;omega⟩
 ·rintro ρ S' ⟨a4,hs,x4,x5,rfl,p4,rfl,el,hle,hnm,hb⟩;have hn:(hs.length:Int)=1+x:=by
   by_cases z:(hs.length:Int) < 1+x
   ·rw [Ur z] at el;cases el
   ·omega
  have hlw:hs.length<=3:=by omega
  have hnd:(hs.map (·.1)).Nodup:=by rw [hnm];exact wn.sublist (gZ _ _)
  have hd:HdOk hs:=⟨by omega,hlw,fun h hh=>ww _ (fU (by rw [<- hnm];exact Ψ.mpr ⟨h,hh,rfl⟩)),fun h hh=>(hb h hh).1,fun h hh=>(hb h hh).2.1⟩
  nofun;refine wp_walk (mI ns b (LS ws) hs) ?_ ?_ _ _ _ ⟨a4,[],x4,x5,.no,.no,.no,rfl,p4.mono (by rw [ξ];show _<=b+4036+2*0;omega),rfl,rfl,rfl,fun _ z=>(nomatch z)⟩
  ·rintro d l ρ S' ⟨a5,ms,y4,y5,x7,x8,x9,rfl,p5,rfl,el,hk2,hok⟩;cases e:hs.drop ms.length with
   | nil=>rw [e] at el;cases el
   | cons h rest=>
    obtain ⟨f,n,s⟩:=h;rw [e] at el;cases el;have hget:hs[ms.length]?=some (f,n,s):=by rw [<- List.head?_drop,e];rfl
    have hml:ms.length < hs.length:=(υ.mp hget).1;have hrest:rest=hs.drop (ms.length+1):=by rw [<- List.tail_drop,e];rfl
    have hmem:(f,n,s)∈hs:=Ξ hget;obtain ⟨n0,n3,ns',s6⟩:=hb _ hmem;have hw:=hd.wd _ hmem;dsimp only at n0 n3 ns' s6 hw;have p5':zU (b+1345*(rest.length+1)) ns a5:=by have:zU (b+1345*((D.tup [.str f,.int n,.int s])::rest.map fun h=>D.tup [.str h.1,.int h.2.1,.int h.2.2]).length) ns a5:=p5;rw [aY,ξ] at this;exact this
    nofun;refine Dr.go (zQ (b:=b+1345*rest.length+1344) (by decide) (p5'.mono (by omega)) (by omega)) ?_;rintro _ a6 ⟨y,rfl,y0,y1⟩ p6;nofun;refine xR ?_;dsimp only [wpI,zO];nofun;refine yD (by rw [fits_of (by omega),decide_eq_true (by omega)];rfl) ?_;have hrl:(zx 0 (1+y)).length=(1+y).toNat:=by rw [yJ];omega
    refine Yz (b:=b+1345*rest.length) (R:=fun x z=>∃ j:Int,x=.int j/\∃ L,Rm s (1+y) (hC hs) z L/\∀ q∈L,j < q/\q < 1+y) (C:=192) (zx 0 (1+y)) [] a6 (p6.mono (by rw [hrl];omega)) (by rw [hrl];simp;omega) (fun x hx b' a' Q p' hQ=>?_) (fun ys a' al p'=>?_)
    ·obtain ⟨j,rfl,j0,j1⟩:=wy hx;refine zE rfl ?_;dsimp only [wpF,yj,wpEs,zO,xm,inn,nT,η,Ϩ,Ε,Ϥ,Ϙ,Τ,ϝ,ϥ,fL];nofun;refine Dr.go (zbG hd (by omega) (by omega) j0 j1 (by omega) (b:=b') p' (by omega)) ?_;rintro e2 a7 he p7;have ei:∀ {Q:D->Prop},Q e2->keep (e2,.st) Q:=fun q=>q
     nofun;exact hQ e2 a7 ⟨j,rfl,he⟩ p7
    ·rw [Τ];obtain ⟨hyl,hfree⟩:=JD (by omega) al;nofun;have em:(ms++[(⟨f,n,s,ys⟩:Mc)]).map Mc.d=ms.map Mc.d++[.tup [.str f,.int n,.int s,.tup ys]]:=by rw [aC];rfl
     refine ⟨a',ms++[(⟨f,n,s,ys⟩:Mc)],y4,.sh (.int n),.sh (.str f),.sh (.int s),.sh (.int (1+y)),rfl,by rw [ξ];exact p',by rw [em],by rw [hrest,Υ];rfl,?_,fun m hm=>?_⟩
     ·rw [aC,hk2,Υ];show hs.take ms.length++[(f,n,s)]=hs.take (ms.length+1)
      rw [List.take_succ,hget];rfl
     ·rcases ϣ.mp hm with q | q
      ·exact hok m q
      ·rw [ω.mp q];exact ⟨hw,n0,n3,ns',by show s<=32;omega,by show 1<=ys.length;omega,by show ys.length<=160;omega,hfree⟩
  ·rintro ρ S' ⟨a5,ms,y4,y5,x7,x8,x9,rfl,p5,rfl,el,hk2,hok⟩;have hge:hs.length<=ms.length:=by
    cases e:hs.drop ms.length with
    | nil=>exact mW.mp e
    | cons _ _=>rw [e] at el;cases el
   rw [eZ hge] at hk2;have hlm:ms.length=hs.length:=by have:=congrArg List.length hk2;rw [ξ] at this;exact this
   have ec:ym ms=hC hs:=by rw [<- hk2];unfold ym hC;rw [bM];rfl
   have en:ms.map (·.nm)=hs.map (·.1):=by rw [<- hk2,bM];rfl
   nofun;exact ⟨_,a5,rfl,⟨ms,rfl,⟨by omega,by omega,by rw [en];exact hnd,fun m hm=>by rw [ec];exact hok m hm⟩,by omega,fun m hm=>wx _ (fU (by rw [<- hnm,<- en];exact Ψ.mpr ⟨m,hm,rfl⟩))⟩,p5.mono (by omega),rfl⟩
end
mutual
noncomputable def plD:D->Bool
 | .non=>true
 | .bl _=>true
 | .int _=>true
 | .str s=>decide (s.length<=1000)&&decide (s.cps.toList.length<=1000)
 | .tup l=>plDs l
 | .lst l=>plDs l
 | .dK _ _=>true
 | _=>false
noncomputable def plDs:List D->Bool
 | []=>true
 | d::l=>plD d&&plDs l
end
noncomputable def Zd:D->Bool
 | .int _=>true
 | _=>false
noncomputable def belD (b:Int):D->Bool
 | .int i=>decide (0<=i)&&decide (i < b)
 | _=>false
noncomputable def bonD (b:Int):D->Bool
 | .non=>true
 | d=>belD b d
noncomputable def za7:D->Bool
 | .str s=>[D.str "+",.str "-",.str "*",.str "<",.str "="].any fun y=>eqP y (.str s)
 | _=>false
noncomputable def lenT:D->Int
 | .tup l=>l.length
 | _=>-1
noncomputable def tupD (d:D) (a b:Int):Bool:=decide (0<=lenT d)&&decide (a<=lenT d)&&decide (lenT d<=b)
noncomputable def isS:D->Bool
 | .str _=>true
 | _=>false
noncomputable def wrdD:D->Bool
 | .tup (x::_)=>isS x
 | _=>false
noncomputable def uX (s:Int):D->Bool
 | .tup [.str x,d]=>eqP (.str x) (.str "slot")&&belD s d
 | _=>false
noncomputable def tri:D->Option (D×D×D)
 | .tup [a,b,c]=>some (a,b,c)
 | _=>none
noncomputable def fmlD (s:Int):Nat->D->Bool
  | 0,d=>belD 1000000007 d||uX s d
  | n+1,d=>belD 1000000007 d||uX s d||(match tri d with
    | some (a,b,c)=>za7 a&&fmlD s n b&&fmlD s n c
    | none=>false)
section
variable {K:Nat}{S T:Store}{d:D}{s b:Int}
theorem WT (h:plD d=true) (hK:1<=K):Is K 0 [d] (.bl (Zd d),.st) S:=by
 obtain ⟨K,hk,rfl⟩:=up hK;refine xT ?_;cases d with
 | non=>nofun;exact ⟨rfl,rfl⟩
 | bl b=>nofun;exact ⟨rfl,rfl⟩
 | int i=>nofun;exact ⟨rfl,rfl⟩
 | str s=>nofun;exact ⟨rfl,rfl⟩
 | tup l=>nofun;exact ⟨rfl,rfl⟩
 | lst l=>nofun;exact ⟨rfl,rfl⟩
 | dK _ _=>nofun;exact ⟨rfl,rfl⟩
 | _=>cases h
theorem zhT (h:Zd d=false):belD b d=false:=by
 cases d with
 | int i=>cases h
 | _=>rfl
theorem Ub (h:Zd d=true):∃ i,d=.int i:=by
 cases d with
 | int i=>exact ⟨i,rfl⟩
 | _=>cases h
theorem vg (h:plD d=true) (hK:2<=K):Is K 12 [d,.int b] (.bl (belD b d),.st) S:=by
 obtain ⟨K,hk,rfl⟩:=up hK;refine Ze ?_;nofun;refine (WT h hk).go ?_;cases e:Zd d with
 | false=>
  nofun;exact ⟨by rw [zhT e],rfl⟩
 | true=>
  obtain ⟨i,rfl⟩:=Ub e;nofun;refine zB (fun h1=>?_) (fun h1=>?_)
  ·nofun;exact ⟨by show (D.bl (decide (i < b)),Kd.st)=(D.bl (decide (0<=i)&&decide (i < b)),Kd.st);rw [show decide (0<=i)=true from h1,cJ],rfl⟩
  ·nofun;exact ⟨by show _=(D.bl (decide (0<=i)&&decide (i < b)),Kd.st);rw [show decide (0<=i)=false from h1,aA],rfl⟩
theorem zi9 (h:plD d=true) (hK:2<=K):Is K 1 [d] (.bl (belD 1000000007 d),.st) S:=by
 obtain ⟨K,hk,rfl⟩:=up hK;refine vP ?_;nofun;refine (WT h hk).go ?_;cases e:Zd d with
 | false=>
  nofun;exact ⟨by rw [zhT e],rfl⟩
 | true=>
  obtain ⟨i,rfl⟩:=Ub e;nofun;refine zB (fun h1=>?_) (fun h1=>?_)
  ·nofun;exact ⟨by show (D.bl (decide (i < 1000000007)),Kd.st)=(D.bl (decide (0<=i)&&decide (i < 1000000007)),Kd.st);rw [show decide (0<=i)=true from h1,cJ],rfl⟩
  ·nofun;exact ⟨by show _=(D.bl (decide (0<=i)&&decide (i < 1000000007)),Kd.st);rw [show decide (0<=i)=false from h1,aA],rfl⟩
theorem zhP (h:plD d=true) (hK:3<=K):Is K 13 [d,.int b] (.bl (bonD b d),.st) S:=by
 obtain ⟨K,hk,rfl⟩:=up hK;refine xG ?_;cases d with
 | non=>nofun;exact ⟨rfl,rfl⟩
 | bl x=>nofun;refine (vg h hk).go ?_;nofun;exact ⟨rfl,rfl⟩
 | int i=>nofun;refine (vg h hk).go ?_;nofun;exact ⟨rfl,rfl⟩
 | str x=>nofun;refine (vg h hk).go ?_;nofun;exact ⟨rfl,rfl⟩
 | tup l=>nofun;refine (vg h hk).go ?_;nofun;exact ⟨rfl,rfl⟩
 | lst l=>nofun;refine (vg h hk).go ?_;nofun;exact ⟨rfl,rfl⟩
 | dK _ _=>nofun;refine (vg h hk).go ?_;nofun;exact ⟨rfl,rfl⟩
 | _=>cases h
theorem zfa {a c:Int}(h:plD d=true) (hK:1<=K):Is K 6 [d,.int a,.int c] (.bl (tupD d a c),.st) S:=by
 cases d with
 | tup l=>
  have:=KH (S:=S) (l:=l) (a:=a) (b:=c) hK;have e:tupD (.tup l) a c=(decide (a<=l.length)&&decide ((l.length:Int)<=c)):=by
   show (decide (0<=(l.length:Int))&&decide (a<=(l.length:Int))&&decide ((l.length:Int)<=c))=_
   rw [decide_eq_true (by omega),cJ]
  rw [e];exact this
 | non=>obtain ⟨K,hk,rfl⟩:=up hK;refine zV ?_;nofun;exact ⟨rfl,rfl⟩
 | bl x=>obtain ⟨K,hk,rfl⟩:=up hK;refine zV ?_;nofun;exact ⟨rfl,rfl⟩
 | int i=>obtain ⟨K,hk,rfl⟩:=up hK;refine zV ?_;nofun;exact ⟨rfl,rfl⟩
 | str x=>obtain ⟨K,hk,rfl⟩:=up hK;refine zV ?_;nofun;exact ⟨rfl,rfl⟩
 | lst l=>obtain ⟨K,hk,rfl⟩:=up hK;refine zV ?_;nofun;exact ⟨rfl,rfl⟩
 | dK _ _=>obtain ⟨K,hk,rfl⟩:=up hK;refine zV ?_;nofun;exact ⟨rfl,rfl⟩
 | _=>cases h
theorem zfz (h:plD d=true) (hK:1<=K):Is K 2 [d] (.bl (za7 d),.st) S:=by
 obtain ⟨K,hk,rfl⟩:=up hK;refine YJ ?_;cases d with
 | non=>nofun;exact ⟨rfl,rfl⟩
 | bl b=>nofun;exact ⟨rfl,rfl⟩
 | int i=>nofun;exact ⟨rfl,rfl⟩
 | str s=>nofun;exact ⟨rfl,rfl⟩
 | tup l=>nofun;exact ⟨rfl,rfl⟩
 | lst l=>nofun;exact ⟨rfl,rfl⟩
 | dK _ _=>nofun;exact ⟨rfl,rfl⟩
 | _=>cases h
theorem xP {x:D}{l:List D}(h:plDs (x::l)=true):plD x=true/\plDs l=true:=Ϡ.mp h
theorem zhi (h:plD d=true):isTy .str d=some (isS d):=by
 cases d with
 | non=>rfl
 | bl _=>rfl
 | int _=>rfl
 | str _=>rfl
 | tup _=>rfl
 | lst _=>rfl
 | dK _ _=>rfl
 | _=>cases h
theorem ziV (h:plD d=true):zL S d=d:=by
 cases d with
 | ref _=>cases h
 | _=>rfl
theorem zcx (h:plD d=true):biD (.isinst .str) [zL S d]=some (.bl (isS d),false):=by
 rw [ziV h];show (isTy .str d).map _=_
 rw [zhi h];rfl
theorem zhY (h:plD d=true) (hK:1<=K):Is K 7 [d] (.bl (wrdD d),.st) S:=by
 obtain ⟨K,hk,rfl⟩:=up hK;refine j4 ?_;cases d with
 | tup l=>
  cases l with
  | nil=>nofun;exact ⟨rfl,rfl⟩
  | cons x l=>
   nofun;refine yD (decide_eq_true (by simp)) ?_;nofun;refine yK (zcx (xP h).1) ?_;nofun;exact ⟨rfl,rfl⟩
 | non=>nofun;exact ⟨rfl,rfl⟩
 | bl b=>nofun;exact ⟨rfl,rfl⟩
 | int i=>nofun;exact ⟨rfl,rfl⟩
 | str s=>nofun;exact ⟨rfl,rfl⟩
 | lst l=>nofun;exact ⟨rfl,rfl⟩
 | dK _ _=>nofun;exact ⟨rfl,rfl⟩
 | _=>cases h
theorem zd4 (h:tupD d 2 2=false):uX s d=false:=by
 unfold uX;split
 ·cases h
 ·rfl
theorem zcT (h:tupD d 2 2=true):∃ x y,d=.tup [x,y]:=by
 cases d with
 | tup l=>
  unfold tupD lenT at h;simp only [ε,decide_eq_true_eq] at h;obtain ⟨x,y,rfl⟩:=Kw (l:=l) (by omega);exact ⟨x,y,rfl⟩
 | _=>cases h
theorem zhj (h:isS d=true):∃ x,d=.str x:=by
 cases d with
 | str x=>exact ⟨x,rfl⟩
 | _=>cases h
theorem zgM (h:plD d=true) (hK:3<=K):Is K 15 [d,.int s] (.bl (uX s d),.st) S:=by
 obtain ⟨K,hk,rfl⟩:=up hK;refine xO ?_;nofun;refine (zfa h (by omega)).go ?_;cases e:tupD d 2 2 with
 | false=>
  nofun;exact ⟨by rw [zd4 e],rfl⟩
 | true=>
  obtain ⟨x,y,rfl⟩:=zcT e;have hx:=(xP h).1;have hy:=(xP (xP h).2).1;nofun;refine yK (zcx hx) ?_;nofun;refine zB (fun h1=>?_) (fun h1=>?_)
  ·have h1:(!isS x)=true:=h1;nofun;refine ⟨?_,rfl⟩;show _=(D.bl (uX s (.tup [x,y])),Kd.st)
   cases x with
   | str _=>cases h1
   | _=>rfl
  ·have h1:(!isS x)=false:=h1;obtain ⟨z,rfl⟩:∃ z,x=.str z:=zhj (by simpa using h1)
   nofun;refine zB (fun h2=>?_) (fun h2=>?_)
   ·nofun;refine (vg hy hk).go ?_;nofun;refine ⟨?_,rfl⟩;show _=(D.bl (eqP (.str z) (.str "slot")&&belD s y),Kd.st)
    rw [show eqP (.str z) (.str "slot")=true from h2,cJ]
   ·nofun;refine ⟨?_,rfl⟩;show _=(D.bl (eqP (.str z) (.str "slot")&&belD s y),Kd.st)
    rw [show eqP (.str z) (.str "slot")=false from h2,aA]
theorem zff {x y z:D}(h:tri d=some (x,y,z)):d=.tup [x,y,z]:=by
 unfold tri at h;split at h
 ·cases h;rfl
 ·cases h
theorem zcU {l:List D}(h:tri (.tup l)=none):l.length≠3:=by
 intro e
 match l,e with
 | [a,b,c],_=>cases h
theorem Wa {n:Int}{cs:List C}{Kc:Ko}(h:plD d=true) (hK:4<=K) (q0:(belD 1000000007 d||uX s d)=true->Kc (.ret (.bl true) false) S) (q1:(belD 1000000007 d||uX s d)=false->wpCs (za F wh K) noX wh cs [.sh d,.sh (.lam 48 [.int s]),.sh (.int n)] Kc S):
  wpCs (za F wh K) noX wh (.ite (.or (.call 1 [.var 0]) (.one (.cvl 1 [.var 0]))) [.ret (.con (.bl true))] []::cs) [.sh d,.sh (.lam 48 [.int s]),.sh (.int n)] Kc S:=by
 obtain ⟨K,hk,rfl⟩:=up hK;nofun;refine (zi9 h (by omega)).go ?_;cases e:belD 1000000007 d with
 | true=>
  rw [e,mF] at q0;nofun;exact q0 rfl
 | false=>
  rw [e,d7] at q0 q1;nofun;refine Ku ?_;nofun;refine (zgM h (by omega)).go ?_;cases e2:uX s d with
  | true=>
   nofun;exact q0 e2
  | false=>
   nofun;exact q1 e2
theorem zjs:∀ (n:Nat) {d:D}{K:Nat},plD d=true->n+6<=K->Is K 4 [d,.lam 48 [.int s],.int n] (.bl (fmlD s n d),.st) S:=by
  intro n
  induction n with
  | zero=>
    intro d K h hK;obtain ⟨K,hk,rfl⟩:=up hK;refine zR ?_;refine Wa h (by omega) (fun e=>?_) (fun e=>?_)
    · exact ⟨by show _=(D.bl (belD 1000000007 d||uX s d),Kd.st);rw [e];rfl,rfl⟩
    · nofun;exact ⟨by show _=(D.bl (belD 1000000007 d||uX s d),Kd.st);rw [e],rfl⟩
  | succ n ih=>
    intro d K h hK;obtain ⟨K,hk,rfl⟩:=up (show n+6+1<=K by omega);refine zR ?_;refine Wa h (by omega) (fun e=>?_) (fun e=>?_)
    · refine ⟨?_,rfl⟩;show _=(D.bl (belD 1000000007 d||uX s d||_),Kd.st)
      rw [e,mF];rfl
    · have e3:fmlD s (n+1) d=(match tri d with
          | some (a,b,c)=>za7 a&&fmlD s n b&&fmlD s n c
          | none=>false):=by
        show (belD 1000000007 d||uX s d||_)=_
        rw [e,d7]<;>rfl
      rw [e3];have e0:(((n+1:Nat):Int)) - 1=(n:Int):=by omega
      have ne:eqP (.int ((n+1:Nat):Int)) (.int 0)=false:=by
        show ((((n+1:Nat):Int))==0)=false
        rw [beq_eq_false_iff_ne];omega
      cases ht:tri d with
      | some q=>
        obtain ⟨x,y,z⟩:=q;have ed:=zff ht;subst ed;have hx:=(xP h).1;have hy:=(xP (xP h).2).1;have hz:=(xP (xP (xP h).2).2).1;nofun;refine xV ne ?_;nofun;refine (zfz hx (by omega)).go ?_;cases es:za7 x with
        | false=>
          nofun;exact ⟨rfl,rfl⟩
        | true=>
          nofun;rw [e0];refine (ih hy (by omega)).go ?_;cases ey:fmlD s n y with
          | false=>
            nofun;exact ⟨rfl,rfl⟩
          | true=>
            nofun;rw [e0];refine (ih hz (by omega)).go ?_;nofun;exact ⟨rfl,rfl⟩
      | none=>
        cases d with
        | tup l=>
          have hl:=zcU ht;nofun;refine xV ne ?_;nofun;refine yD (by show (!(((l.length:Int))==3))=true;rw [beq_eq_false_iff_ne.mpr (by omega)];rfl) ?_;nofun;exact ⟨rfl,rfl⟩
        | non=>nofun;refine xV ne ?_;nofun;exact ⟨rfl,rfl⟩
        | bl b=>nofun;refine xV ne ?_;nofun;exact ⟨rfl,rfl⟩
        | int i=>nofun;refine xV ne ?_;nofun;exact ⟨rfl,rfl⟩
        | str s=>nofun;refine xV ne ?_;nofun;exact ⟨rfl,rfl⟩
        | lst l=>nofun;refine xV ne ?_;nofun;exact ⟨rfl,rfl⟩
        | dK _ _=>nofun;refine xV ne ?_;nofun;exact ⟨rfl,rfl⟩
        | _=>cases h
theorem zcD (h:plD d=true) (hK:11<=K):Is K 14 [d,.int s] (.bl (fmlD s 3 d),.st) (St T):=by
 obtain ⟨K,hk,rfl⟩:=up hK;obtain ⟨K,hk',rfl⟩:=up hk;refine xU ?_;nofun;show za F wh _ noX 3 [d,.lam 48 [.int s]] _ _
 refine jd ?_;nofun;refine (zjs 3 h (by omega)).go ?_;nofun;exact ⟨rfl,rfl⟩
theorem zgR (h:plD d=true) (hK:4<=K):Is K 49 [d,.int s] (.bl (bonD s d),.st) S:=by obtain ⟨K,hk,rfl⟩:=up hK;refine zb7 ?_;nofun;refine (zhP h hk).go ?_;nofun;exact ⟨rfl,rfl⟩
theorem zgQ (h:plD d=true) (hK:12<=K):Is K 50 [d,.int s] (.bl (fmlD s 3 d),.st) (St T):=by obtain ⟨K,hk,rfl⟩:=up hK;refine zb6 ?_;nofun;refine (zcD h hk).go ?_;nofun;exact ⟨rfl,rfl⟩
def BW (s:Int) (d:D):Prop:=plD d=true/\fmlD s 3 d=false
noncomputable def badW (s:Int):List D:=[.non,.int (-1),.int 1000000007,.bl true,.str "x",.tup [.str "slot",.int s],.tup [.str "slot",.int (-1)],.tup [.str "slot",.bl true],.lst [.str "slot",.int 0],.tup [.str "slot"],.tup [.str "/",.int 1,.int 1],.tup [.str "+",.int 1],.tup [.str "+",.int 1,.int 1,.int 1],.tup [.str "+",.int 0,.tup [.str "+",.int 0,.tup [.str "+",.int 0,.tup [.str "+",.int 0,.int 0]]]],.tup [.str "<",.int 1,.tup []],.tup []]
theorem zeO (h:d∈badW s):BW s d:=by
 simp only [badW,χ,Φ,or_false] at h;rcases h with rfl | rfl | rfl | rfl | rfl | rfl | rfl | rfl | rfl | rfl | rfl | rfl | rfl | rfl | rfl | rfl
 rotate_left 5
 ·refine ⟨by show (plD (D.str "slot")&&(true&&true))=true;rw [show plD (D.str "slot")=true by decide +kernel];rfl,?_⟩;show (eqP (.str "slot") (.str "slot")&&(decide (0<=s)&&decide (s < s))||false)=false
  rw [decide_eq_false (Int.lt_irrefl s),aM,aM];rfl
 all_goals exact ⟨by decide +kernel,rfl⟩
end
section
variable {K:Nat}{S T:Store}{d bad:D}{s b m:Int}{cts:List (Str×Int)}
theorem zW (h:plD d=true) (e:belD b d=false) (hK:2<=K):Is K 12 [d,.int b] no S:=by have:=vg (S:=S) (b:=b) h hK;rw [e] at this;exact this
theorem Jd (h:BW s d) (hK:11<=K):Is K 14 [d,.int s] no (St T):=by have:=zcD (T:=T) (s:=s) h.1 hK;rw [h.2] at this;exact this
theorem QX (h:plD d=true) (e:bonD s d=false) (hK:4<=K):Is K 49 [d,.int s] no S:=by have:=zgR (S:=S) (s:=s) h hK;rw [e] at this;exact this
theorem zcs (h:BW s d) (hK:12<=K):Is K 50 [d,.int s] no (St T):=by have:=zgQ (T:=T) (s:=s) h.1 hK;rw [h.2] at this;exact this
theorem uo {a c:Int}(h:plD d=true) (e:tupD d a c=false) (hK:1<=K):Is K 6 [d,.int a,.int c] no S:=by have:=zfa (S:=S) (a:=a) (c:=c) h hK;rw [e] at this;exact this
theorem tupN {l:List D}{a c:Int}(e:(l.length:Int) < a\/c < l.length) (hK:1<=K):Is K 6 [.tup l,.int a,.int c] no S:=by
 have:=KH (S:=S) (l:=l) (a:=a) (b:=c) hK
 rw [show (decide (a<=(l.length:Int))&&decide ((l.length:Int)<=c))=false by
  rcases e with e | e
  ·rw [decide_eq_false (by omega),aA]
  ·rw [decide_eq_false (show ¬ (l.length:Int)<=c by omega),aM]] at this
 exact this
theorem Jt (h:plD d=true) (e:wrdD d=false) (hK:1<=K):Is K 7 [d] no S:=by have:=zhY (S:=S) h hK;rw [e] at this;exact this
theorem xM:belD s (.int s)=false:=by
 show (decide (0<=s)&&decide (s < s))=false
 rw [decide_eq_false (Int.lt_irrefl s),aM]
theorem YD:bonD s (.int s)=false:=xM
def BR (s:Int) (d:D):Prop:=∀ {K:Nat}{T:Store},12<=K->Is K 18 [d,.int s] no (St T)
noncomputable def badR (bad:D) (s:Int):List D:=[.non,.tup [],.tup [.str "put"],.tup [.str "put",.int s,.int 0],.tup [.str "put",.int (-1),.int 0],.tup [.str "put",.non,.int 0],.tup [.str "tell"],.tup [.str "tell",bad],.lst [.str "tell",.int 0],.tup [.str "tell",.int 0,.int 0],.tup [.str "mark",.str "tell",.int 0],.tup [.str "mark",.str "do",.int 24],.tup [.str "mark",.str "do",.int (-1)],.tup [.str "mark",.str "do",.bl true],.tup [.str "mark",.non,.int 0],.tup [.str "say",.int 0]]
theorem zeP (hb:BW s bad) (h:d∈badR bad s):BR s d:=by
 intro K T hK;obtain ⟨K,hk,rfl⟩:=up hK;simp only [badR,χ,Φ,or_false] at h;refine ug ?_;rcases h with rfl | rfl | rfl | rfl | rfl | rfl | rfl | rfl | rfl | rfl | rfl | rfl | rfl | rfl | rfl | rfl
 ·nofun;refine (Jt rfl rfl (by omega)).go ?_;nofun;exact ⟨rfl,rfl⟩
 ·nofun;refine (Jt rfl rfl (by omega)).go ?_;nofun;exact ⟨rfl,rfl⟩
 ·nofun;refine (zK (by omega)).go ?_;nofun;exact ⟨rfl,rfl⟩
 ·nofun;refine (zK (by omega)).go ?_;nofun;refine (zW rfl xM (by omega)).go ?_;nofun;exact ⟨rfl,rfl⟩
 ·nofun;refine (zK (by omega)).go ?_;nofun;refine (zW rfl rfl (by omega)).go ?_;nofun;exact ⟨rfl,rfl⟩
 ·nofun;refine (zK (by omega)).go ?_;nofun;refine (zW rfl rfl (by omega)).go ?_;nofun;exact ⟨rfl,rfl⟩
 ·nofun;refine (zK (by omega)).go ?_;nofun;exact ⟨rfl,rfl⟩
 ·nofun;refine (zK (by omega)).go ?_;nofun;refine (Jd hb (by omega)).go ?_;nofun;exact ⟨rfl,rfl⟩
 ·nofun;refine (Jt (by decide +kernel) rfl (by omega)).go ?_;nofun;exact ⟨rfl,rfl⟩
 ·nofun;refine (zK (by omega)).go ?_;nofun;exact ⟨rfl,rfl⟩
 ·nofun;refine (zK (by omega)).go ?_;nofun;exact ⟨rfl,rfl⟩
 ·nofun;refine (zK (by omega)).go ?_;nofun;refine (zW rfl rfl (by omega)).go ?_;nofun;exact ⟨rfl,rfl⟩
 ·nofun;refine (zK (by omega)).go ?_;nofun;refine (zW rfl rfl (by omega)).go ?_;nofun;exact ⟨rfl,rfl⟩
 ·nofun;refine (zK (by omega)).go ?_;nofun;refine (zW rfl rfl (by omega)).go ?_;nofun;exact ⟨rfl,rfl⟩
 ·nofun;refine (zK (by omega)).go ?_;nofun;exact ⟨rfl,rfl⟩
 ·nofun;refine (zK (by omega)).go ?_;nofun;exact ⟨rfl,rfl⟩
end
theorem VP {s:D->(Option D->Store->Prop)->Store->Prop}{V:List D->Store->Prop}{S:Store}(f:D->Bool):∀ (xs:List D) (acc:List Bool),acc.length+xs.length<=1000->(∀ x∈xs,∀ Q:Option D->Store->Prop,Q (some (.bl (f x))) S->s x Q S) ->
  V ((acc++xs.map f).map D.bl) S->wJ s xs (acc.map D.bl) V S
 | [],acc,_,_,v=>by simpa [wJ] using v
 | x::xs,acc,hl,h,v=>by
  refine h x θ _ ?_;have e:(acc.map D.bl)++[D.bl (f x)]=(acc++[f x]).map D.bl:=by simp
  have hl':acc.length+(xs.length+1)<=1000:=hl;show tst (fits ((acc.map D.bl).length+1)) (wJ s xs (acc.map D.bl++[D.bl (f x)]) V S) False
  refine yD (fits_of (by rw [ξ];omega)) ?_;rw [e];exact VP f xs (acc++[f x]) (by simp;omega) (fun y hy=>h y (ι _ hy)) (by simpa using v)
theorem qL {s:D->(Option D->Store->Prop)->Store->Prop}{V:List D->Store->Prop}{S:Store}{bad:D}{xs:List D}(hl:xs.length<=1000) (hb:bad∈xs) (h0:∀ Q:Option D->Store->Prop,Q (some (.bl false)) S->s bad Q S)
  (h1:∀ x∈xs,x≠bad->∀ Q:Option D->Store->Prop,Q (some (.bl true)) S->s x Q S) (v:∀ bs:List Bool,bs.all id=false->V (bs.map D.bl) S):wJ s xs [] V S:=by
 classical
 refine VP (fun x=>if x=bad then false else true) xs [] (by simp;exact hl) (fun x hx Q hQ=>?_) (v _ ?_)
 ·by_cases e:x=bad
  ·rw [if_pos e] at hQ;rw [e];exact h0 Q hQ
  ·rw [if_neg e] at hQ;exact h1 x hx e Q hQ
 ·rw [Τ,ie];refine nF.mpr ⟨bad,hb,?_⟩;show ¬ (if bad=bad then false else true)=true
  rw [if_pos rfl];exact Κ
section
variable {K:Nat}{S T:Store}{d bad:D}{s b m:Int}{cts:List (Str×Int)}
theorem ze1 {w:Str}(h1:w.length<=1000) (h2:w.cps.toList.length<=1000) (hK:1<=K):Is K 5 [.str w] (.bl (wdS w),.st) S:=by
 obtain ⟨K,hk,rfl⟩:=up hK;refine j5 ?_;have e:biD .len [.str w]=some (.int w.length,false):=by
  show (if fits w.length=true then _ else _)=_
  rw [if_pos (fits_of (by omega))]
 nofun;refine yK e ?_;nofun;refine zB (fun h3=>?_) (fun h3=>?_)
 ·have h3:(1:Int)<=w.length:=of_decide_eq_true h3;nofun;refine zB (fun h4=>?_) (fun h4=>?_)
  ·nofun;have h4:(!decide ((w.length:Int)<=8))=true:=h4;have h4:¬ (w.length:Int)<=8:=fun z=>by rw [decide_eq_true z] at h4;cases h4
   refine ⟨?_,rfl⟩;have:wdS w=false:=by unfold wdS;rw [decide_eq_false (show ¬ w.length<=8 by omega),aM,aA,aA]
   rw [this]
  ·nofun;have h4:(!decide ((w.length:Int)<=8))=false:=h4;have h4:(w.length:Int)<=8:=by
    by_cases z:(w.length:Int)<=8
    ·exact z
    ·rw [decide_eq_false z] at h4;cases h4
   refine xR ?_;dsimp only [wpI,zO];nofun;refine VP letD (chars w) [] (by simp [chars];simpa using h2) (fun x hx Q hQ=>?_) ?_
   ·refine zE rfl ?_;dsimp only [wpF,Wc,zep,zO,inn,nT,η,Ϩ,Ε,Ϥ];obtain ⟨c,_,rfl⟩:=Ψ.mp hx;nofun;exact hQ
   ·refine yK (qY _) ?_;nofun;refine ⟨?_,rfl⟩;show (D.bl (([]++(chars w).map letD).all id),Kd.st)=(D.bl (wdS w),Kd.st)
    unfold wdS;rw [decide_eq_true (show 1<=w.length by omega),decide_eq_true (show w.length<=8 by omega),decide_eq_true h2,d8,Τ,ie];rfl
 ·nofun;have h3:¬ (1:Int)<=w.length:=of_decide_eq_false h3;refine ⟨?_,rfl⟩;have:wdS w=false:=by unfold wdS;rw [decide_eq_false (show ¬ 1<=w.length by omega),aA,aA,aA]
  rw [this]
theorem Zc {w:Str}(h:(decide (w.length<=1000)&&decide (w.cps.toList.length<=1000)&&!wdS w)=true) (hK:1<=K):Is K 5 [.str w] no S:=by simp only [ε,decide_eq_true_eq,b7] at h;have:=ze1 (S:=S) h.1.1 h.1.2 hK;rw [h.2] at this;exact this
theorem Ua (hK:1<=K):Is K 5 [.non] no S:=by obtain ⟨K,hk,rfl⟩:=up hK;refine j5 ?_;nofun;exact ⟨rfl,rfl⟩
def BB (s:Int) (cts:List (Str×Int)) (d:D):Prop:=∀ {K:Nat}{T:Store},13<=K->Is K 9 [d,CD cts,.lam 49 [.int s],.lam 50 [.int s]] no (St T)
noncomputable def badB (bad:D) (s:Int) (f:Str) (n:Int):List D:=[.non,.tup [.non,.str "ask",.str "b"],.tup [.int s,.str "ask",.str "b",.int 0],.tup [.int (-1),.str "ask",.str "b",.int 0],.tup [.non,.str "ask",.str "",.int 0],.tup [.non,.str "ask",.str "abcdefghi",.int 0],.tup [.non,.str "ask",.str "B",.int 0],.tup [.non,.str "ask",.str "b",bad],.tup [.non,.str "call",.str "q",.tup []],.tup [.non,.str "call",.str f,.tup (η (n+1).toNat (.int 0))],.tup [.non,.str "call",.str f,.lst (η n.toNat (.int 0))],.tup [.non,.str "call",.str f,.tup (η (max 1 n).toNat bad)],.tup [.non,.str "call",.non,.tup []],.tup [.non,.str "send",.str "b",.int 0],.tup [.str "x",.str "ask",.str "b",.int 0],.lst [.non,.str "ask",.str "b",.int 0]]
theorem Ux {x:D}(h:plD x=true):∀ n,plDs (η n x)=true
 | 0=>rfl
 | n+1=>by
  rw [ϯ];show (plD x&&plDs (η n x))=true
  rw [h,Ux h n];rfl
theorem zaI {f:Str}{n:Int}{x:D}(hn:(cts.map (·.1)).Nodup) (hw:wdS f=true) (hm:(f,n)∈cts) (hx:plD x=true) (h:tupD x n n=false\/∃ l,x=.tup l/\(l.length:Int)=n/\l.length<=1000/\bad∈l/\BW s bad/\∀ y∈l,y=bad) (hK:13<=K):Is K 9 [.tup [.non,.str "call",.str f,x],CD cts,.lam 49 [.int s],.lam 50 [.int s]] no (St T):=by
 obtain ⟨K,hk,rfl⟩:=up hK;refine zF (x1:=CD cts) ?_;nofun;refine (tupE rfl (by omega)).go ?_;nofun;refine (vK .non (by omega)).go ?_;nofun;refine (wK hw (by omega)).go ?_;nofun;have e1:=Ys hn hm;refine xV (by show (!(yg (cts.map fun p=>(aq p.1:Key)) (cts.map fun p=>D.int p.2) (.inr f)).isSome)=false;rw [e1];rfl) ?_;nofun;refine yL (a:=D.int n) (by show ((some (yg (cts.map fun p=>(aq p.1:Key)) (cts.map fun p=>D.int p.2) (.inr f))).bind id)=_;rw [e1];rfl) ?_;nofun;rcases h with h | ⟨l,rfl,hl,h10,hb,bw,hall⟩
 ·refine (uo hx h (by omega)).go ?_;nofun;exact ⟨rfl,rfl⟩
 ·refine (tupE hl (by omega)).go ?_;nofun;refine xR ?_;dsimp only [wpI,jA,zO,xm];nofun;refine qL h10 hb (fun Q hQ=>?_) (fun y hy hne=>absurd (hall y hy) hne) (fun bs hbs=>?_)
  ·refine zE rfl ?_;dsimp only [wpF,zeq,wpEs,zO,inn,nT,η,Ϩ,Ε,Ϥ];nofun;refine (zcs bw (by omega)).go ?_;nofun;exact hQ
  ·refine yK (qY _) ?_;rw [hbs];nofun;exact ⟨rfl,rfl⟩
theorem zeV {f:Str}{n:Int}(hn:(cts.map (·.1)).Nodup) (hq:("q":Str) ∉ cts.map (·.1)) (hw:wdS f=true) (hm:(f,n)∈cts) (n0:0<=n) (n3:n<=3) (hb:BW s bad) (h:d∈badB bad s f n):BB s cts d:=by
 intro K T hK;have hK':=hK;obtain ⟨K,hk,rfl⟩:=up hK;simp only [badB,χ,Φ,or_false] at h;rcases h with rfl | rfl | rfl | rfl | rfl | rfl | rfl | rfl | rfl | rfl | rfl | rfl | rfl | rfl | rfl | rfl
 ·refine zF (x1:=CD cts) ?_;nofun;refine (uo rfl rfl (by omega)).go ?_;nofun;exact ⟨rfl,rfl⟩
 ·refine zF (x1:=CD cts) ?_;nofun;refine (tupN (.inl (by decide)) (by omega)).go ?_;nofun;exact ⟨rfl,rfl⟩
 ·refine zF (x1:=CD cts) ?_;nofun;refine (tupE rfl (by omega)).go ?_;nofun;refine (QX rfl YD (by omega)).go ?_;nofun;exact ⟨rfl,rfl⟩
 ·refine zF (x1:=CD cts) ?_;nofun;refine (tupE rfl (by omega)).go ?_;nofun;refine (QX rfl rfl (by omega)).go ?_;nofun;exact ⟨rfl,rfl⟩
 ·refine zF (x1:=CD cts) ?_;nofun;refine (tupE rfl (by omega)).go ?_;nofun;refine (vK .non (by omega)).go ?_;nofun;refine (Zc (by decide +kernel) (by omega)).go ?_;nofun;exact ⟨rfl,rfl⟩
 ·refine zF (x1:=CD cts) ?_;nofun;refine (tupE rfl (by omega)).go ?_;nofun;refine (vK .non (by omega)).go ?_;nofun;refine (Zc (by decide +kernel) (by omega)).go ?_;nofun;exact ⟨rfl,rfl⟩
 ·refine zF (x1:=CD cts) ?_;nofun;refine (tupE rfl (by omega)).go ?_;nofun;refine (vK .non (by omega)).go ?_;nofun;refine (Zc (by decide +kernel) (by omega)).go ?_;nofun;exact ⟨rfl,rfl⟩
 ·refine zF (x1:=CD cts) ?_;nofun;refine (tupE rfl (by omega)).go ?_;nofun;refine (vK .non (by omega)).go ?_;nofun;refine (wK (by decide +kernel) (by omega)).go ?_;nofun;refine (zcs hb (by omega)).go ?_;nofun;exact ⟨rfl,rfl⟩
 ·refine zF (x1:=CD cts) ?_;nofun;refine (tupE rfl (by omega)).go ?_;nofun;refine (vK .non (by omega)).go ?_;nofun;refine (wK (by decide +kernel) (by omega)).go ?_;nofun;have e1:=qF hq;refine yD (by show (!(yg (cts.map fun p=>(aq p.1:Key)) (cts.map fun p=>D.int p.2) (.inr "q")).isSome)=true;rw [e1];rfl) ?_;nofun;exact ⟨rfl,rfl⟩
 ·refine zaI (bad:=bad) hn hw hm (Ux rfl _) (.inl ?_) hK';show (decide (0<=(((η (n+1).toNat (D.int 0)).length:Nat):Int))&&_&&decide ((((η (n+1).toNat (D.int 0)).length:Nat):Int)<=n))=false
  rw [aJ,decide_eq_false (show ¬ (((n+1).toNat:Nat):Int)<=n by omega),aM]
 ·exact zaI (bad:=bad) hn hw hm (Ux rfl _) (.inl rfl) hK'
 ·refine zaI (bad:=bad) hn hw hm (Ux hb.1 _) ?_ hK';by_cases z:n=0
  ·left;subst z;rfl
  ·right;have e:(max 1 n)=n:=by omega
   refine ⟨_,rfl,by rw [aJ,e];omega,by rw [aJ,e];omega,List.mem_replicate.mpr ⟨by rw [e];omega,rfl⟩,hb,fun y hy=>(List.eq_of_mem_replicate hy)⟩
 ·refine zF (x1:=CD cts) ?_;nofun;refine (tupE rfl (by omega)).go ?_;nofun;refine (vK .non (by omega)).go ?_;nofun;refine (Ua (by omega)).go ?_;nofun;exact ⟨rfl,rfl⟩
 ·refine zF (x1:=CD cts) ?_;nofun;refine (tupE rfl (by omega)).go ?_;nofun;refine (vK .non (by omega)).go ?_;nofun;refine (wK (by decide +kernel) (by omega)).go ?_;nofun;exact ⟨rfl,rfl⟩
 ·refine zF (x1:=CD cts) ?_;nofun;refine (tupE rfl (by omega)).go ?_;nofun;refine (QX (by decide +kernel) rfl (by omega)).go ?_;nofun;exact ⟨rfl,rfl⟩
 ·refine zF (x1:=CD cts) ?_;nofun;refine (uo (by decide +kernel) rfl (by omega)).go ?_;nofun;exact ⟨rfl,rfl⟩
end
section
variable {K:Nat}{S T:Store}{d bad brn:D}{s b m:Int}{cts:List (Str×Int)}
theorem WX {k x:D}(hx:plD x=true) (h:tupD x 1 4=false) (hK:14<=K):Is K 8 [k,x,CD cts,.lam 49 [.int s],.lam 50 [.int s]] no (St T):=by obtain ⟨K,hk,rfl⟩:=up hK;refine uf (x2:=CD cts) ?_;nofun;refine (uo hx h (by omega)).go ?_;nofun;exact ⟨rfl,rfl⟩
theorem WW {k:D}{l:List D}(h1:1<=l.length) (h4:l.length<=4) (hk:plD k=true) (h:Zd k=false\/∃ i:Int,k=.int i/\(i < 1\/(l.length:Int) < i)) (hK:14<=K):Is K 8 [k,.tup l,CD cts,.lam 49 [.int s],.lam 50 [.int s]] no (St T):=by
 obtain ⟨K,_,rfl⟩:=up hK;refine uf (x2:=CD cts) ?_;nofun;refine (tupY (by omega) (by omega) (by omega)).go ?_;nofun;refine (WT hk (by omega)).go ?_;rcases h with h | ⟨i,rfl,h⟩
 ·rw [h];nofun;exact ⟨rfl,rfl⟩
 ·nofun;refine xV rfl ?_;nofun;refine zB (fun h2=>?_) (fun h2=>?_)
  ·have h2:1<=i:=of_decide_eq_true h2;nofun;refine yD (nf (decide_eq_false (by omega))) ?_;nofun;exact ⟨rfl,rfl⟩
  ·nofun;exact ⟨rfl,rfl⟩
theorem Ks {k:Int}{l:List D}(hn:(cts.map (·.1)).Nodup) (h0:1<=k) (h1:k<=l.length) (h2:l.length<=4) (hb:bad∈l) (hbb:BB s cts bad) (h:∀ b∈l,b≠bad->Br s cts b) (hK:14<=K):Is K 8 [.int k,.tup l,CD cts,.lam 49 [.int s],.lam 50 [.int s]] no (St T):=by
 obtain ⟨K,hk,rfl⟩:=up hK;refine uf (x2:=CD cts) ?_;nofun;refine (tupY (by omega) (by omega) (by omega)).go ?_;nofun;refine (jY (by omega)).go ?_;nofun;refine yD (decide_eq_true h0) ?_;nofun;refine xV (nt (decide_eq_true h1)) ?_;nofun;refine xR ?_;dsimp only [wpI,zO];nofun;refine qL (by omega) hb (fun Q hQ=>?_) (fun x hx hne Q hQ=>?_) (fun bs hbs=>?_)
 ·refine zE rfl ?_;dsimp only [wpF,yj,wpEs,zO,inn,nT,η,Ϩ,Ε,Ϥ];nofun;refine (hbb (by omega)).go ?_;nofun;exact hQ
 ·refine zE rfl ?_;dsimp only [wpF,yj,wpEs,zO,inn,nT,η,Ϩ,Ε,Ϥ];nofun;refine (br_y hn (h x hx hne) (by omega)).go ?_;nofun;exact hQ
 ·refine yK (qY _) ?_;rw [hbs];nofun;exact ⟨rfl,rfl⟩
def BD (s m:Int) (cts:List (Str×Int)) (d:D):Prop:=∀ {K:Nat}{T:Store},16<=K->Is K 19 [d,.int s,.int m,CD cts] no (St T)
theorem wW {k x:D}(m0:0 < m) (h:∀ {K:Nat}{T:Store},14<=K->Is K 8 [k,x,CD cts,.lam 49 [.int s],.lam 50 [.int s]] no (St T)):BD s m cts (.tup [.str "want",k,x,.int 0]):=by
 intro K T hK;obtain ⟨K,hk,rfl⟩:=up hK;obtain ⟨K,hk',rfl⟩:=up (show 14+1<=K from hk);refine zy (x3:=CD cts) ?_;nofun;refine (zK (by omega)).go ?_;nofun;refine (zY (by decide) m0 (by omega)).go ?_;nofun;refine vD (x2:=CD cts) ?_;nofun;show za F wh _ noX 8 [k,x,CD cts,.lam 49 [.int s],.lam 50 [.int s]] _ _
 refine (h (by omega)).go ?_;nofun;exact ⟨rfl,rfl⟩
noncomputable abbrev gdB:D:=.tup [.non,.str "ask",.str "b",.int 0]
theorem zjr:Br s cts gdB:=.ask .non (by decide +kernel) (.num (by decide) (by decide))
noncomputable def badD (bad brn:D) (s m:Int):List D:=[.non,.tup [],.tup [.str "go"],.tup [.str "go",.int m],.tup [.str "go",.int (-1)],.tup [.str "go",.bl true],.tup [.str "round",.int m],.tup [.str "round",.non],.tup [.str "fork",bad,.int 0,.int 0],.tup [.str "fork",.int 0,.int m,.int 0],.tup [.str "fork",.int 0,.int 0,.int (-1)],.tup [.str "give",bad],.tup [.str "fail",bad],.tup [.str "out",.int s],.tup [.str "out",.non],.lst [.str "give",.int 0],.tup [.str "stay",.int 0],.tup [.str "give",.int 0,.int 0],.tup [.str "want",.int 0,.tup [gdB],.int 0],.tup [.str "want",.int 2,.tup [gdB],.int 0],.tup [.str "want",.int 1,.tup [],.int 0],.tup [.str "want",.int 1,.tup (η 5 gdB),.int 0],.tup [.str "want",.int 1,.tup [gdB,brn],.int 0],.tup [.str "want",.int 1,.lst [gdB],.int 0],.tup [.str "want",.int 1,.tup [gdB],.int m],.tup [.str "want",.bl true,.tup [gdB],.int 0],.tup [.str "want",.int 1,.tup [brn],.int 0]]
theorem zaN (hn:(cts.map (·.1)).Nodup) (m0:0 < m) (hb:BW s bad) (hbb:BB s cts brn) (h:d∈badD bad brn s m):BD s m cts d:=by
 simp only [badD,χ,Φ,or_false] at h;rcases h with rfl | rfl | rfl | rfl | rfl | rfl | rfl | rfl | rfl | rfl | rfl | rfl | rfl | rfl | rfl | rfl | rfl | rfl | rfl | rfl | rfl | rfl | rfl | rfl | rfl | rfl | rfl
 ·intro K T hK;obtain ⟨K,hk,rfl⟩:=up hK;refine zy (x3:=CD cts) ?_;nofun;refine (Jt rfl rfl (by omega)).go ?_;nofun;exact ⟨rfl,rfl⟩
 ·intro K T hK;obtain ⟨K,hk,rfl⟩:=up hK;refine zy (x3:=CD cts) ?_;nofun;refine (Jt rfl rfl (by omega)).go ?_;nofun;exact ⟨rfl,rfl⟩
 ·intro K T hK;obtain ⟨K,hk,rfl⟩:=up hK;refine zy (x3:=CD cts) ?_;nofun;refine (zK (by omega)).go ?_;nofun;exact ⟨rfl,rfl⟩
 ·intro K T hK;obtain ⟨K,hk,rfl⟩:=up hK;refine zy (x3:=CD cts) ?_;nofun;refine (zK (by omega)).go ?_;nofun;refine (zW rfl xM (by omega)).go ?_;nofun;exact ⟨rfl,rfl⟩
 ·intro K T hK;obtain ⟨K,hk,rfl⟩:=up hK;refine zy (x3:=CD cts) ?_;nofun;refine (zK (by omega)).go ?_;nofun;refine (zW rfl rfl (by omega)).go ?_;nofun;exact ⟨rfl,rfl⟩
 ·intro K T hK;obtain ⟨K,hk,rfl⟩:=up hK;refine zy (x3:=CD cts) ?_;nofun;refine (zK (by omega)).go ?_;nofun;refine (zW rfl rfl (by omega)).go ?_;nofun;exact ⟨rfl,rfl⟩
 ·intro K T hK;obtain ⟨K,hk,rfl⟩:=up hK;refine zy (x3:=CD cts) ?_;nofun;refine (zK (by omega)).go ?_;nofun;refine (zW rfl xM (by omega)).go ?_;nofun;exact ⟨rfl,rfl⟩
 ·intro K T hK;obtain ⟨K,hk,rfl⟩:=up hK;refine zy (x3:=CD cts) ?_;nofun;refine (zK (by omega)).go ?_;nofun;refine (zW rfl rfl (by omega)).go ?_;nofun;exact ⟨rfl,rfl⟩
 ·intro K T hK;obtain ⟨K,hk,rfl⟩:=up hK;refine zy (x3:=CD cts) ?_;nofun;refine (zK (by omega)).go ?_;nofun;refine (Jd hb (by omega)).go ?_;nofun;exact ⟨rfl,rfl⟩
 ·intro K T hK;obtain ⟨K,hk,rfl⟩:=up hK;refine zy (x3:=CD cts) ?_;nofun;refine (zK (by omega)).go ?_;nofun;refine (jn (.num (by decide) (by decide)) (by omega)).go ?_;nofun;refine (zW rfl xM (by omega)).go ?_;nofun;exact ⟨rfl,rfl⟩
 ·intro K T hK;obtain ⟨K,hk,rfl⟩:=up hK;refine zy (x3:=CD cts) ?_;nofun;refine (zK (by omega)).go ?_;nofun;refine (jn (.num (by decide) (by decide)) (by omega)).go ?_;nofun;refine (zY (by decide) m0 (by omega)).go ?_;nofun;refine (zW rfl rfl (by omega)).go ?_;nofun;exact ⟨rfl,rfl⟩
 ·intro K T hK;obtain ⟨K,hk,rfl⟩:=up hK;refine zy (x3:=CD cts) ?_;nofun;refine (zK (by omega)).go ?_;nofun;refine (Jd hb (by omega)).go ?_;nofun;exact ⟨rfl,rfl⟩
 ·intro K T hK;obtain ⟨K,hk,rfl⟩:=up hK;refine zy (x3:=CD cts) ?_;nofun;refine (zK (by omega)).go ?_;nofun;refine (Jd hb (by omega)).go ?_;nofun;exact ⟨rfl,rfl⟩
 ·intro K T hK;obtain ⟨K,hk,rfl⟩:=up hK;refine zy (x3:=CD cts) ?_;nofun;refine (zK (by omega)).go ?_;nofun;refine (zW rfl xM (by omega)).go ?_;nofun;exact ⟨rfl,rfl⟩
 ·intro K T hK;obtain ⟨K,hk,rfl⟩:=up hK;refine zy (x3:=CD cts) ?_;nofun;refine (zK (by omega)).go ?_;nofun;refine (zW rfl rfl (by omega)).go ?_;nofun;exact ⟨rfl,rfl⟩
 ·intro K T hK;obtain ⟨K,hk,rfl⟩:=up hK;refine zy (x3:=CD cts) ?_;nofun;refine (Jt (by decide +kernel) rfl (by omega)).go ?_;nofun;exact ⟨rfl,rfl⟩
 ·intro K T hK;obtain ⟨K,hk,rfl⟩:=up hK;refine zy (x3:=CD cts) ?_;nofun;refine (zK (by omega)).go ?_;nofun;exact ⟨rfl,rfl⟩
 ·intro K T hK;obtain ⟨K,hk,rfl⟩:=up hK;refine zy (x3:=CD cts) ?_;nofun;refine (zK (by omega)).go ?_;nofun;exact ⟨rfl,rfl⟩
 ·exact wW m0 (WW (by simp) (by simp) rfl (.inr ⟨0,rfl,.inl (by decide)⟩))
 ·exact wW m0 (WW (by simp) (by simp) rfl (.inr ⟨2,rfl,.inr (by simp)⟩))
 ·exact wW m0 (WX rfl rfl)
 ·exact wW m0 (WX (by decide +kernel) (by decide +kernel))
 ·exact wW m0 (Ks hn (by decide) (by simp) (by simp) (ι _ θ) hbb fun b hb2 hne=>by
   rcases χ.mp hb2 with rfl | z
   ·exact zjr
   ·exact absurd (ω.mp z) hne)
 ·exact wW m0 (WX (by decide +kernel) rfl)
 ·intro K T hK;obtain ⟨K,hk,rfl⟩:=up hK;refine zy (x3:=CD cts) ?_;nofun;refine (zK (by omega)).go ?_;nofun;refine (zW rfl xM (by omega)).go ?_;nofun;exact ⟨rfl,rfl⟩
 ·exact wW m0 (WW (by simp) (by simp) rfl (.inl rfl))
 ·exact wW m0 (Ks hn (by decide) (by simp) (by simp) θ hbb fun b hb2 hne=>absurd (ω.mp hb2) hne)
end
section
variable {K:Nat}{S T:Store}{d bad:D}{s b m:Int}{cts:List (Str×Int)}
theorem Wu (h:plD d=true) (e:bonD b d=false) (hK:3<=K):Is K 13 [d,.int b] no S:=by have:=zhP (S:=S) (b:=b) h hK;rw [e] at this;exact this
theorem W5 {l:List D}{a c:Int}(hK:1<=K):Is K 6 [.lst l,.int a,.int c] no S:=by obtain ⟨K,hk,rfl⟩:=up hK;refine zV ?_;nofun;exact ⟨rfl,rfl⟩
def BF (s m:Int) (d:D):Prop:=∀ {K:Nat}{S:Store},4<=K->Is K 21 [d,.int s,.int m] no S
def BO (m:Int) (d:D):Prop:=∀ {K:Nat}{S:Store},4<=K->Is K 22 [d,.int m] no S
noncomputable def badF (s m:Int):List D:=[.tup [],.tup [.int 0],.tup [.int s,.int 0],.tup [.int (-1),.int 0],.tup [.non,.int m],.tup [.non,.int (-1)],.lst [.non,.int 0],.int 0,.str "shut",.tup [.non,.non]]
noncomputable def badO (m:Int):List D:=[.int m,.int (-1),.str "open",.bl true,.tup [],.int (0 - m),.str "",.tup [.str "shut"]]
theorem zeU (h:d∈badF s m):BF s m d:=by
 intro K S hK;obtain ⟨K,hk,rfl⟩:=up hK;simp only [badF,χ,Φ,or_false] at h;refine YK ?_;rcases h with rfl | rfl | rfl | rfl | rfl | rfl | rfl | rfl | rfl | rfl
 ·nofun;refine (tupN (.inl (by decide)) (by omega)).go ?_;nofun;exact ⟨rfl,rfl⟩
 ·nofun;refine (tupN (.inl (by decide)) (by omega)).go ?_;nofun;exact ⟨rfl,rfl⟩
 ·nofun;refine (tupE rfl (by omega)).go ?_;nofun;refine (Wu rfl YD (by omega)).go ?_;nofun;exact ⟨rfl,rfl⟩
 ·nofun;refine (tupE rfl (by omega)).go ?_;nofun;refine (Wu rfl rfl (by omega)).go ?_;nofun;exact ⟨rfl,rfl⟩
 ·nofun;refine (tupE rfl (by omega)).go ?_;nofun;refine (V0 .non (by omega)).go ?_;nofun;refine (zW rfl xM (by omega)).go ?_;nofun;exact ⟨rfl,rfl⟩
 ·nofun;refine (tupE rfl (by omega)).go ?_;nofun;refine (V0 .non (by omega)).go ?_;nofun;refine (zW rfl rfl (by omega)).go ?_;nofun;exact ⟨rfl,rfl⟩
 ·nofun;refine (W5 (by omega)).go ?_;nofun;exact ⟨rfl,rfl⟩
 ·nofun;refine (uo rfl rfl (by omega)).go ?_;nofun;exact ⟨rfl,rfl⟩
 ·nofun;refine (uo (by decide +kernel) rfl (by omega)).go ?_;nofun;exact ⟨rfl,rfl⟩
 ·nofun;refine (tupE rfl (by omega)).go ?_;nofun;refine (V0 .non (by omega)).go ?_;nofun;refine (zW rfl rfl (by omega)).go ?_;nofun;exact ⟨rfl,rfl⟩
theorem zeR (m0:0 < m) (h:d∈badO m):BO m d:=by
 intro K S hK;obtain ⟨K,hk,rfl⟩:=up hK;simp only [badO,χ,Φ,or_false] at h;refine Uc ?_;have e0:bonD m (.int (0 - m))=false:=by
  show (decide (0<=0 - m)&&decide (0 - m < m))=false
  rw [decide_eq_false (by omega),aA]
 rcases h with rfl | rfl | rfl | rfl | rfl | rfl | rfl | rfl
 ·nofun;refine (Wu rfl YD (by omega)).go ?_;nofun;exact ⟨rfl,rfl⟩
 ·nofun;refine (Wu rfl rfl (by omega)).go ?_;nofun;exact ⟨rfl,rfl⟩
 ·nofun;exact ⟨rfl,rfl⟩
 ·nofun;refine (Wu rfl rfl (by omega)).go ?_;nofun;exact ⟨rfl,rfl⟩
 ·nofun;refine (Wu rfl rfl (by omega)).go ?_;nofun;exact ⟨rfl,rfl⟩
 ·nofun;refine (Wu rfl e0 (by omega)).go ?_;nofun;exact ⟨rfl,rfl⟩
 ·nofun;exact ⟨rfl,rfl⟩
 ·nofun;refine (Wu (by decide +kernel) rfl (by omega)).go ?_;nofun;exact ⟨rfl,rfl⟩
def BM (s m:Int) (cts:List (Str×Int)) (d:D):Prop:=∀ {K:Nat}{T:Store},17<=K->Is K 17 [d,.int s,.int m,CD cts] no (St T)
theorem jX (h:∀ {K:Nat}{S:Store},1<=K->Is K 6 [d,.int 4,.int 4] no S):BM s m cts d:=by intro K T hK;obtain ⟨K,hk,rfl⟩:=up hK;refine wL (x3:=CD cts) ?_;nofun;refine (h (by omega)).go ?_;nofun;exact ⟨rfl,rfl⟩
theorem V1 {rows door fall off:D}(h:∀ {K:Nat}{S:Store},1<=K->Is K 6 [rows,.int 0,.int 60] no S):BM s m cts (.tup [rows,door,fall,off]):=by intro K T hK;obtain ⟨K,hk,rfl⟩:=up hK;refine wL (x3:=CD cts) ?_;nofun;refine (tupE rfl (by omega)).go ?_;nofun;refine (h (by omega)).go ?_;nofun;exact ⟨rfl,rfl⟩
theorem zhQ {rows:List D}{door fall off:D}(hr:∀ r∈rows,Rw s r) (hb:BR s bad):BM s m cts (.tup [.tup (rows++[bad]),door,fall,off]):=by
 intro K T hK;by_cases hl:rows.length+1<=60
 ·obtain ⟨K,hk,rfl⟩:=up hK;refine wL (x3:=CD cts) ?_;nofun;refine (tupE rfl (by omega)).go ?_;nofun;refine (tupY (by omega) (by simp;omega) (by omega)).go ?_;nofun;refine xR ?_;dsimp only [wpI,jA,zO,xm];nofun;refine qL (bad:=bad) (by simp;omega) (by simp) (fun Q hQ=>?_) (fun x hx hne Q hQ=>?_) (fun bs hbs=>?_)
  ·refine zE rfl ?_;dsimp only [wpF,yj,wpEs,zO,inn,nT,η,Ϩ,Ε,Ϥ];nofun;refine (hb (by omega)).go ?_;nofun;exact hQ
  ·refine zE rfl ?_;dsimp only [wpF,yj,wpEs,zO,inn,nT,η,Ϩ,Ε,Ϥ];nofun
   refine (zdf (hr x (by
    rcases ϣ.mp hx with z | z
    ·exact z
    ·exact absurd (ω.mp z) hne)) (by omega)).go ?_
   nofun;exact hQ
  ·refine yK (qY _) ?_;rw [hbs];nofun;exact ⟨rfl,rfl⟩
 ·exact V1 (fun h=>tupN (.inr (by simp;omega)) h) hK
theorem qN {rows:List D}{door fall off:D}(h60:rows.length<=60) (hr:∀ r∈rows,Rw s r) (h:∀ {K:Nat}{T:Store},16<=K->wpE (za F wh K noX) [.sh (.tup [.tup rows,door,fall,off]),.sh (.int s),.sh (.int m),.sh (CD cts)] (.and (.call 19 [.sub ⇑0 ↥1,.var 1,.var 2,.var 3]) (.and (.call 21 [.sub ⇑0 ↥2,.var 1,.var 2]) (.one (.call 22 [.sub ⇑0 ↥3,.var 2])))) (fun x S'=>x=no/\S'=St T) (St T)):BM s m cts (.tup [.tup rows,door,fall,off]):=by
 intro K T hK;obtain ⟨K,hk,rfl⟩:=up hK;refine wL (x3:=CD cts) ?_;have fin:wpCs (za F wh K) noX wh (xq.drop 2) [.sh (.tup [.tup rows,door,fall,off]),.sh (.int s),.sh (.int m),.sh (CD cts)] (told fun x S'=>x=no/\S'=St T) (St T):=by refine yO ?_;refine zb (Wj K) _ (fun x S' h=>?_) (h (T:=T) hk);obtain ⟨rfl,rfl⟩:=h;nofun;exact ⟨rfl,rfl⟩
 obtain ⟨tl,htl⟩:∃ tl,tl=xq.drop 2:=⟨_,rfl⟩
 rw [<- htl] at fin;show wpCs _ _ _ (xq.take 2++xq.drop 2) _ _ _
 rw [<- htl];clear htl h;dsimp only [xq,cA,Ϙ,Τ];nofun;refine (tupE rfl (by omega)).go ?_;nofun;refine (tupY (by omega) (by omega) (by omega)).go ?_;nofun;refine xR ?_;dsimp only [wpI,jA,zO,xm];nofun;refine wY (.bl true) rows [] (by simp;omega) (fun x hx Q hQ=>?_) ?_
 ·refine zE rfl ?_;dsimp only [wpF,yj,wpEs,zO,inn,nT,η,Ϩ,Ε,Ϥ];nofun;refine (zdf (hr x hx) (by omega)).go ?_;nofun;exact hQ
 ·refine yK (ue _) ?_;nofun;exact fin
theorem zaM {rows:List D}{fall off:D}(h60:rows.length<=60) (hr:∀ r∈rows,Rw s r) (hb:BD s m cts bad):BM s m cts (.tup [.tup rows,bad,fall,off]):=qN h60 hr fun {K T} hK=>by dsimp only [J8,J7,yj,wpEs,jA,zO,xm,ϝ,ϥ];nofun;refine (hb hK).go ?_;nofun;exact ⟨rfl,rfl⟩
theorem zeK {rows:List D}{door off:D}(hn:(cts.map (·.1)).Nodup) (h60:rows.length<=60) (hr:∀ r∈rows,Rw s r) (hd:Do s m cts door) (hb:BF s m bad):BM s m cts (.tup [.tup rows,door,bad,off]):=qN h60 hr fun {K T} hK=>by dsimp only [J8,J7,yj,wpEs,jA,zO,xm,ϝ,ϥ];nofun;refine (zaw hn hd hK).go ?_;nofun;refine (hb (by omega)).go ?_;nofun;exact ⟨rfl,rfl⟩
theorem zhR {rows:List D}{door:D}(hn:(cts.map (·.1)).Nodup) (h60:rows.length<=60) (hr:∀ r∈rows,Rw s r) (hd:Do s m cts door) (hb:BO m bad):BM s m cts (.tup [.tup rows,door,.non,bad]):=qN h60 hr fun {K T} hK=>by dsimp only [J8,J7,yj,wpEs,jA,zO,xm,ϝ,ϥ];nofun;refine (zaw hn hd hK).go ?_;nofun;refine (zcG .non (by omega)).go ?_;nofun;refine (hb (by omega)).go ?_;nofun;exact ⟨rfl,rfl⟩
end
structure Md where
 nm:Str
 k:Int
 s:Int
 rd:D
noncomputable def Md.d (m:Md):D:=.tup [.str m.nm,.int m.k,.int m.s,m.rd]
structure Md.Hd (m:Md):Prop where
 wd:wdS m.nm=true
 k0:0<=m.k
 k3:m.k<=3
 ks:m.k<=m.s
 s32:m.s<=32
noncomputable def ctsM (ms:List Md):List (Str×Int):=ms.map fun m=>(m.nm,m.k)
theorem zcK (ms:List Md):(ctsM ms).map (·.1)=ms.map (·.nm):=by unfold ctsM;rw [bM];rfl
def NM (d:D):Prop:=∀ (K:Nat) (T:Store),19<=K->Is K 10 [d] no (St T)
noncomputable def lpB:List C:=[.ite (.or (.not (.call 11 [.var 2])) (.one (.cmp .In (.sub ⇑2 ↥0) ⇑1))) [.ret (.con (.bl false))] [],.stv 1 (.sub ⇑2 ↥0) (.sub ⇑2 ↥1)]
section
variable {K:Nat}{S T:Store}{d bad val:D}{s b m:Int}{cts:List (Str×Int)}
theorem zcA {m:Md}(h:m.Hd) (hK:3<=K):Is K 11 [m.d] yes S:=by obtain ⟨K,hk,rfl⟩:=up hK;have h1:=h.k0;have h2:=h.k3;have h3:=h.ks;have h4:=h.s32;have hw:=h.wd;unfold Md.d;obtain ⟨nm,k,s,rooms⟩:=m;refine yU ?_;nofun;refine (tupE rfl (by omega)).go ?_;nofun;refine (wK hw (by omega)).go ?_;nofun;refine (zY (b:=33) (show 0<=s from Int.le_trans h1 h3) (show s < 33 from dw h4) hk).go ?_;nofun;refine (zY (b:=4) h1 (show k < 4 from dw h2) hk).go ?_;nofun;exact ⟨by show (D.bl (decide (k<=s)),Kd.st)=_;rw [decide_eq_true h3],rfl⟩
theorem zgJ {m:Md}{dn:List Md}{x2:Slot}{Kc:Ko}(h:m.Hd) (hno:m.nm ∉ dn.map (·.nm)) (hl:dn.length<=100) (hK:3<=K) (q:Kc (.next [.sh val,.ow (CD (ctsM (dn++[m]))),.sh m.d]) S):wpCs (za F wh K) noX wh lpB [.sh val,.ow (CD (ctsM dn)),.sh m.d] Kc S:=by
 have hno:m.nm ∉ (ctsM dn).map (·.1):=by rw [zcK];exact hno
 have e1:(yg ((ctsM dn).map fun p=>(aq p.1:Key)) ((ctsM dn).map fun p=>D.int p.2) (.inr m.nm))=none:=qF hno;have e2:=zcL hno;have e3:CD (ctsM (dn++[m]))=.dK ((ctsM dn).map (fun p=>(aq p.1:Key))++[.inr m.nm]) ((ctsM dn).map (fun p=>D.int p.2)++[.int m.k]):=by unfold ctsM;simp [CD]
 have hlen:(ctsM dn).length<=100:=by unfold ctsM;rw [ξ];exact hl
 have hh:=zcA (S:=S) h hK;rw [e3] at q;unfold lpB;unfold Md.d at hh q ⊢;nofun;refine hh.go ?_;nofun;refine xV (by show (yg ((ctsM dn).map fun p=>(aq p.1:Key)) ((ctsM dn).map fun p=>D.int p.2) (.inr m.nm)).isSome=false;rw [e1];rfl) ?_;nofun;refine yL (Va e2 (by rw [ξ];omega)) ?_;nofun;exact q
theorem ZS {Kc:Ko}{rest:List D}(hK:3<=K):∀ (pre dn:List Md) (x2:Slot),((dn++pre).map (·.nm)).Nodup->(∀ m∈pre,m.Hd)->dn.length+pre.length<=100->(∀ x2,forW (.one 2) (fun ρ=>wpCs (za F wh K) noX wh lpB ρ) rest [.sh val,.ow (CD (ctsM (dn++pre))),x2] Kc S) ->
  forW (.one 2) (fun ρ=>wpCs (za F wh K) noX wh lpB ρ) (pre.map Md.d++rest) [.sh val,.ow (CD (ctsM dn)),x2] Kc S
 | [],dn,x2,_,_,_,q=>by rw [Ε] at q;exact q x2
 | m::pre,dn,x2,nd,hh,hl,q=>by
  have hl:dn.length+(pre.length+1)<=100:=hl;have hno:m.nm ∉ dn.map (·.nm):=by rw [aC,bZ] at nd;intro z;exact nd.2.2 _ z _ (Ψ.mpr ⟨m,θ,rfl⟩) rfl
  have ea:dn++m::pre=(dn++[m])++pre:=by simp
  rw [ϐ,Ϙ];refine zcE ?_;refine zE rfl ?_;refine zgJ (x2:=x2) (hh m θ) hno (by omega) hK ?_;refine KJ ?_;exact ZS hK pre (dn++[m]) _ (by rw [<- ea];exact nd) (fun x hx=>hh x (ι _ hx)) (by simp;omega) (by rw [<- ea];exact q)
theorem uC {pre:List Md}{two:D}{post:List D}(nd:(pre.map (·.nm)).Nodup) (hh:∀ m∈pre,m.Hd) (hl:pre.length<=90) (h:(∀ (K:Nat) (S:Store),3<=K->Is K 11 [two] no S)\/∃ m:Md,two=m.d/\m.Hd/\m.nm∈pre.map (·.nm)) (hi:yF two=false):NM (.tup (pre.map Md.d++two::post)):=by
 intro K T hK;obtain ⟨K,hk,rfl⟩:=up hK;refine yQ ?_;nofun;refine (KH (by omega)).go ?_;generalize (decide ((1:Int)<=((pre.map Md.d++two::post).length:Int))&&decide (((pre.map Md.d++two::post).length:Int)<=6))=c;cases c with
 | false=>
  nofun;exact ⟨rfl,rfl⟩
 | true=>
  nofun;refine ZS (rest:=two::post) (by omega) pre [] .no nd hh (by simp;omega) fun x2=>?_
  refine zcE ?_;refine zE (by show (if (decide (2 < 3)&&!yF two)=true then some _ else none)=_;rw [hi];rfl) ?_;unfold lpB;rcases h with h | ⟨m,rfl,mh,hm⟩
  ·nofun;refine (h _ _ (by omega)).go ?_;nofun;exact ⟨rfl,rfl⟩
  ·have hy:=zcA (S:=St T) mh (show 3<=K by omega);have e1:(yg ((ctsM pre).map fun p=>(aq p.1:Key)) ((ctsM pre).map fun p=>D.int p.2) (.inr m.nm)).isSome=true:=by obtain ⟨x,hx,e⟩:=Ψ.mp hm;have:(x.nm,x.k)∈ctsM pre:=Ψ.mpr ⟨x,hx,rfl⟩;rw [<- e,Ys (by rw [zcK];exact nd) this];rfl
   unfold Md.d at hy ⊢;nofun;refine hy.go ?_;nofun;refine yD e1 ?_;nofun;exact ⟨rfl,rfl⟩
theorem JS {mds:List Md}{two:Md}(nd:(mds.map (·.nm)).Nodup) (hh:∀ m∈mds,m.Hd) (hl:mds.length<=6) (h2:two∈mds) (hb:∀ {K:Nat}{T:Store},18<=K->Is K 16 [two.rd,.int two.s,CD (ctsM mds)] no (St T)) (ho:∀ x∈mds,x.d≠two.d->∀ {K:Nat}{T:Store},18<=K->Is K 16 [x.rd,.int x.s,CD (ctsM mds)] yes (St T)):NM (.tup (mds.map Md.d)):=by
 intro K T hK;obtain ⟨K,hk,rfl⟩:=up hK;have h1:=List.length_pos_of_mem h2;refine yQ ?_;nofun;refine (tupY (by rw [ξ];omega) (by rw [ξ];omega) (by omega)).go ?_;nofun;have w:=ZS (val:=.tup (mds.map Md.d)) (Kc:=nxt (fun ρ' S'=>wpCs (za F wh K) noX wh [.frz 1,.ret (.bi .all [.comp (.one 0) [1] (.seq ⇑0) [] (.call 16 [.sub ⇑0 ↥3,.sub ⇑0 ↥2,.var 1])])] ρ' (told fun x S'=>x=no/\S'=St T) S') (told fun x S'=>x=no/\S'=St T)) (rest:=[]) (K:=K) (S:=St T) (by omega) mds [] .no nd hh (by simp;omega) fun x2=>by
  rw [Τ];show nxt _ _ (.next _) _
  nofun;refine xR ?_;dsimp only [wpI,zO];nofun;refine qL (bad:=two.d) (by rw [ξ];omega) (Ψ.mpr ⟨two,h2,rfl⟩) (fun Q hQ=>?_) (fun x hx hne Q hQ=>?_) (fun bs hbs=>?_)
  ·have hb:=hb (T:=T) hk;refine zE rfl ?_;dsimp only [wpF,yj,wpEs,zO,jA,xm,inn,nT,η,Ϩ,Ε,Ϥ];unfold Md.d;nofun;refine hb.go ?_;nofun;exact hQ
  ·obtain ⟨y,hy,rfl⟩:=Ψ.mp hx;have hb:=ho y hy hne (T:=T) hk;refine zE rfl ?_;dsimp only [wpF,yj,wpEs,zO,jA,xm,inn,nT,η,Ϩ,Ε,Ϥ];unfold Md.d;nofun;refine hb.go ?_;nofun;exact hQ
  ·refine yK (qY _) ?_;rw [hbs];nofun;exact ⟨rfl,rfl⟩
 rw [Ε] at w;exact w
theorem zdg {m:Mc}{i:Nat}(hn:(cts.map (·.1)).Nodup) (h:m.Ok cts) (hi:i < m.rooms.length) (hb:BM m.s m.rooms.length cts bad) (hK:18<=K):Is K 16 [.tup (m.rooms.set i bad),.int m.s,CD cts] no (St T):=by
 obtain ⟨K,hk,rfl⟩:=up hK;obtain ⟨L,hr,fr⟩:=h.free;have h1:=h.one;have h2:=h.few;have hl:(m.rooms.set i bad).length=m.rooms.length:=ϭ;refine vQ (x2:=CD cts) ?_;nofun;refine (tupY (by rw [hl];omega) (by rw [hl];omega) (by omega)).go ?_;nofun;refine xR ?_;dsimp only [wpI,zO];nofun;refine qL (bad:=bad) (by rw [hl];omega) (ϳ.mpr ⟨i,by rw [cV,if_pos rfl,if_pos hi]⟩) (fun Q hQ=>?_) (fun x hx hne Q hQ=>?_) (fun bs hbs=>?_)
 ·refine zE rfl ?_;dsimp only [wpF,yj,wpEs,zO,e_bi,inn,nT,η,Ϩ,Ε,Ϥ];nofun;rw [hl];refine (hb (by omega)).go ?_;nofun;exact hQ
 ·rcases dO hx with z | z
  ·obtain ⟨j,hj⟩:=ϳ.mp z;refine zE rfl ?_;dsimp only [wpF,yj,wpEs,zO,e_bi,inn,nT,η,Ϩ,Ε,Ϥ];nofun;rw [hl];refine (zcc hn (hr j x hj) (by omega)).go ?_;nofun;exact hQ
  ·exact absurd z hne
 ·refine yK (qY _) ?_;rw [hbs];nofun;exact ⟨rfl,rfl⟩
theorem Z6 {x:D}(h:∀ {K:Nat}{S:Store},1<=K->Is K 6 [x,.int 1,.int 160] no S) (hK:18<=K):Is K 16 [x,.int s,CD cts] no (St T):=by obtain ⟨K,hk,rfl⟩:=up hK;refine vQ (x2:=CD cts) ?_;nofun;refine (h (by omega)).go ?_;nofun;exact ⟨rfl,rfl⟩
end
noncomputable def toMd (m:Mc):Md:=⟨m.nm,m.k,m.s,.tup m.rooms⟩
theorem Ui (ms:List Mc):(ms.map toMd).map Md.d=ms.map Mc.d:=by rw [bM];rfl
theorem Z1 (ms:List Mc):(ms.map toMd).map (·.nm)=ms.map (·.nm):=by rw [bM];rfl
theorem zfg (ms:List Mc):ctsM (ms.map toMd)=ym ms:=by unfold ctsM ym;rw [bM];rfl
theorem Uh {ms:List Mc}(g:Good ms):∀ m∈ms.map toMd,m.Hd:=fun m hm=>by obtain ⟨x,hx,rfl⟩:=Ψ.mp hm;have ok:=g.ok x hx;exact ⟨ok.wd,ok.k0,ok.k3,ok.ks,ok.s32⟩
section
variable {K:Nat}{S T:Store}{d bad:D}{s b m:Int}{ms:List Mc}
def HN (d:D):Prop:=∀ (K:Nat) (S:Store),3<=K->Is K 11 [d] no S
theorem yE {i:Nat}{two:D}(g:Good ms) (hi:i < ms.length) (h:HN two) (ht:yF two=false):NM (.tup ((ms.map Mc.d).set i two)):=by
 have e:(ms.map Mc.d).set i two=((ms.take i).map toMd).map Md.d++two::(ms.drop (i+1)).map Mc.d:=by rw [cU,if_pos (by rw [ξ];exact hi),Ui,lU,List.map_drop]
 rw [e];have g6:=g.six;refine uC (pre:=(ms.take i).map toMd) ?_ (fun x hx=>?_) (by rw [ξ];have:=List.length_take_le i ms;omega) (.inl h) ht
 ·rw [Z1,lU];exact g.nd.sublist (gZ _ _)
 ·obtain ⟨y,hy,rfl⟩:=Ψ.mp hx;exact Uh g _ (Ψ.mpr ⟨y,fU hy,rfl⟩)
theorem jH {i:Nat}{m:Mc}{rd:D}(g:Good ms) (hm:ms[i]?=some m) (hb:∀ {K:Nat}{T:Store},18<=K->Is K 16 [rd,.int m.s,CD (ym ms)] no (St T)):NM (.tup ((ms.map Mc.d).set i (.tup [.str m.nm,.int m.k,.int m.s,rd]))):=by
 have hi:=(υ.mp hm).1;have hmm:=Ξ hm;have e:(ms.map Mc.d).set i (.tup [.str m.nm,.int m.k,.int m.s,rd])=((ms.map toMd).set i ⟨m.nm,m.k,m.s,rd⟩).map Md.d:=by rw [mC,Ui];rfl
 have en:((ms.map toMd).set i ⟨m.nm,m.k,m.s,rd⟩).map (·.nm)=ms.map (·.nm):=by
  rw [mC,Z1];refine dX fun j=>?_
  rw [cV];by_cases e:i=j
  ·subst e;rw [if_pos rfl,ξ,if_pos hi,Η,hm];rfl
  ·rw [if_neg e]
 have ec:ctsM ((ms.map toMd).set i ⟨m.nm,m.k,m.s,rd⟩)=ym ms:=by
  rw [<- zfg];unfold ctsM;rw [mC];refine dX fun j=>?_
  rw [cV];by_cases e:i=j
  ·subst e;rw [if_pos rfl,ξ,ξ,if_pos hi,Η,Η,hm];rfl
  ·rw [if_neg e]
 have g6:=g.six;have hn:((ym ms).map (·.1)).Nodup:=by rw [qK];exact g.nd
 rw [e];refine JS (two:=⟨m.nm,m.k,m.s,rd⟩) (by rw [en];exact g.nd) (fun x hx=>?_) (by rw [ϭ,ξ];exact g6) (ϳ.mpr ⟨i,by rw [cV,if_pos rfl,if_pos (by rw [ξ];exact hi)]⟩) (by rw [ec];exact hb) (fun x hx hne=>?_)
 ·rcases dO hx with z | z
  ·exact Uh g x z
  ·have:=Uh g _ (Ψ.mpr ⟨m,hmm,rfl⟩);rw [z];exact ⟨this.wd,this.k0,this.k3,this.ks,this.s32⟩
 ·rcases dO hx with z | z
  ·obtain ⟨y,hy,rfl⟩:=Ψ.mp z;rw [ec];exact fun hK=>Qh hn (g.ok y hy) hK
  ·rw [z] at hne;exact absurd rfl hne
theorem uI (h:∀ {K:Nat}{S:Store},1<=K->Is K 6 [d,.int 4,.int 4] no S):HN d:=by intro K S hK;obtain ⟨K,hk,rfl⟩:=up hK;refine yU ?_;nofun;refine (h (by omega)).go ?_;nofun;exact ⟨rfl,rfl⟩
theorem Yq {w x y z:D}(h:∀ {K:Nat}{S:Store},1<=K->Is K 5 [w] no S):HN (.tup [w,x,y,z]):=by intro K S hK;obtain ⟨K,hk,rfl⟩:=up hK;refine yU ?_;nofun;refine (tupE rfl (by omega)).go ?_;nofun;refine (h (by omega)).go ?_;nofun;exact ⟨rfl,rfl⟩
theorem hn_s {w:Str}{x y z:D}(hw:wdS w=true) (hy:plD y=true) (h:belD 33 y=false):HN (.tup [.str w,x,y,z]):=by intro K S hK;obtain ⟨K,hk,rfl⟩:=up hK;refine yU ?_;nofun;refine (tupE rfl (by omega)).go ?_;nofun;refine (wK hw (by omega)).go ?_;nofun;refine (zW (b:=33) hy h hk).go ?_;nofun;exact ⟨rfl,rfl⟩
theorem hn_k {w:Str}{x z:D}{s:Int}(hw:wdS w=true) (s0:0<=s) (s33:s < 33) (hy:plD x=true) (h:belD 4 x=false):HN (.tup [.str w,x,.int s,z]):=by intro K S hK;obtain ⟨K,hk,rfl⟩:=up hK;refine yU ?_;nofun;refine (tupE rfl (by omega)).go ?_;nofun;refine (wK hw (by omega)).go ?_;nofun;refine (zY (b:=33) s0 s33 hk).go ?_;nofun;refine (zW (b:=4) hy h hk).go ?_;nofun;exact ⟨rfl,rfl⟩
theorem zjq {w:Str}{z:D}{k s:Int}(hw:wdS w=true) (s0:0<=s) (s33:s < 33) (k0:0<=k) (k4:k < 4) (h:s < k):HN (.tup [.str w,.int k,.int s,z]):=by intro K S hK;obtain ⟨K,hk,rfl⟩:=up hK;refine yU ?_;nofun;refine (tupE rfl (by omega)).go ?_;nofun;refine (wK hw (by omega)).go ?_;nofun;refine (zY (b:=33) s0 s33 hk).go ?_;nofun;refine (zY (b:=4) k0 k4 hk).go ?_;nofun;exact ⟨by show (D.bl (decide (k<=s)),Kd.st)=_;rw [decide_eq_false (by omega)],rfl⟩
noncomputable abbrev gvR:D:=.tup [.tup [],.tup [.str "give",.int 0],.non,.non]
noncomputable def badM (m:Mc):List D:=[.non,.tup [.str m.nm,.int m.k,.int m.s],.lst [.str m.nm,.int m.k,.int m.s,.tup m.rooms],.tup [.str "",.int m.k,.int m.s,.tup m.rooms],.tup [.str "abcdefghi",.int m.k,.int m.s,.tup m.rooms],.tup [.str "aB",.int m.k,.int m.s,.tup m.rooms],.tup [.non,.int m.k,.int m.s,.tup m.rooms],.tup [.str m.nm,.int m.k,.int (m.k - 1),.tup [gvR]],.tup [.str m.nm,.int 4,.int 5,.tup [gvR]],.tup [.str m.nm,.int (-1),.int m.s,.tup [gvR]],.tup [.str m.nm,.bl false,.int 0,.tup [gvR]],.tup [.str m.nm,.int m.k,.int 33,.tup m.rooms],.tup [.str m.nm,.int m.k,.non,.tup m.rooms],.tup [.str m.nm,.int m.k,.int m.s,.tup []],.tup [.str m.nm,.int m.k,.int m.s,.lst m.rooms],.tup [.str m.nm,.int m.k,.int m.s,.tup (η 161 gvR)]]
theorem zeS {i:Nat}{m:Mc}{two:D}(g:Good ms) (hm:ms[i]?=some m) (h:two∈badM m):NM (.tup ((ms.map Mc.d).set i two)):=by
 have hi:=(υ.mp hm).1;have ok:=g.ok m (Ξ hm);have hw:=ok.wd;have k0:=ok.k0;have k3:=ok.k3;have ks:=ok.ks;have s32:=ok.s32;have s0:0<=m.s:=by omega
 simp only [badM,χ,Φ,or_false] at h;rcases h with rfl | rfl | rfl | rfl | rfl | rfl | rfl | rfl | rfl | rfl | rfl | rfl | rfl | rfl | rfl | rfl
 ·exact yE g hi (uI (uo rfl rfl)) rfl
 ·exact yE g hi (uI (tupN (.inl (by show (3:Int) < 4;decide)))) rfl
 ·exact yE g hi (uI W5) rfl
 ·exact yE g hi (Yq (Zc (by decide +kernel))) rfl
 ·exact yE g hi (Yq (Zc (by decide +kernel))) rfl
 ·exact yE g hi (Yq (Zc (by decide +kernel))) rfl
 ·exact yE g hi (Yq Ua) rfl
 ·by_cases z:m.k=0
  ·rw [z];exact yE g hi (hn_s hw rfl rfl) rfl
  ·exact yE g hi (zjq hw (by omega) (by omega) k0 (by omega) (by omega)) rfl
 ·exact yE g hi (hn_k hw (by decide) (by decide) rfl rfl) rfl
 ·exact yE g hi (hn_k hw s0 (by omega) rfl rfl) rfl
 ·exact yE g hi (hn_k hw (by decide) (by decide) rfl rfl) rfl
 ·exact yE g hi (hn_s hw rfl rfl) rfl
 ·exact yE g hi (hn_s hw rfl rfl) rfl
 ·exact jH g hm (Z6 (tupN (.inl (by decide))))
 ·exact jH g hm (Z6 W5)
 ·exact jH g hm (Z6 (tupN (.inr (by rw [aJ];decide))))
end
noncomputable def kpO:Vl->Option D
 | (d,.st)=>some d
 | (d,.fr)=>some d
 | _=>none
noncomputable def rdO:Option Slot->Option Vl
 | some (.sh d)=>some (d,.st)
 | some (.ow d)=>some (d,.bo)
 | _=>none
noncomputable def nrD:D->Bool
 | .ref _=>false
 | _=>true
noncomputable def intO:D->Option Int
 | .int i=>some i
 | _=>none
noncomputable def kps (f:E->Option Vl):List E->Option (List D)
 | []=>some []
 | e::es=>(f e).bind fun x=>(kpO x).bind fun d=>(kps f es).map (d::·)
noncomputable def oo (f:E->Option Vl):Option E->Option (Option Int)
 | none=>some none
 | some e=>(f e).bind fun x=>(intO x.1).map some
noncomputable def litE (ρ:List Slot):Nat->E->Option Vl
 | 0,_=>none
 | n+1,e=>match e with
  | .con d=>some (d,.st)
  | .var i=>rdO ρ[i]?
  | .bin op a b=>(litE ρ n a).bind fun x=>(litE ρ n b).bind fun y=>if nrD x.1&&nrD y.1 then (opD op x.1 y.1).map ofB else none
  | .neg a=>(litE ρ n a).bind fun x=>(intO x.1).map fun i=>(.int (-i),.st)
  | .tup es=>(kps (litE ρ n) es).bind fun ds=>if fits ds.length then some (.tup ds,.st) else none
  | .lst es=>(kps (litE ρ n) es).bind fun ds=>if fits ds.length then some (.lst ds,.fr) else none
  | .sub a i=>(litE ρ n a).bind fun x=>(litE ρ n i).bind fun y=>if nrD x.1 then (subD x.1 y.1).map fun d=>(d,.st) else none
  | .slc a lo hi=>(litE ρ n a).bind fun x=>(oo (litE ρ n) lo).bind fun l=>(oo (litE ρ n) hi).bind fun h=>if nrD x.1 then (slcD x.1 l h).map ofB else none
  | .bi b es=>(kps (litE ρ n) es).bind fun ds=>if (ds.length==1||ds.length==2)&&ds.all nrD then (biD b ds).map ofB else none
  | .dic tk ks es=>(kps (litE ρ n) es).bind fun ds=>if J9 tk ks ds then some (dicV tk ks ds,.fr) else none
  | _=>none
theorem JN {d:D}(h:nrD d=true) (S:Store):zL S d=d:=by
 cases d with
 | ref _=>cases h
 | _=>rfl
theorem yG {α β:Type}{o:Option α}{f:α->Option β}{b:β}(h:o.bind f=some b):∃ a,o=some a/\f a=some b:=by
 cases o with
 | none=>cases h
 | some a=>exact ⟨a,rfl,h⟩
theorem JQ {α β:Type}{o:Option α}{f:α->β}{b:β}(h:o.map f=some b):∃ a,o=some a/\f a=b:=by
 cases o with
 | none=>cases h
 | some a=>exact ⟨a,rfl,Ϛ h⟩
theorem if_c {α:Type}{c:Bool}{o:Option α}{b:α}(h:(if c=true then o else none)=some b):c=true/\o=some b:=by
 cases c with
 | true=>exact ⟨rfl,h⟩
 | false=>cases h
theorem zd9 {x:Vl}{d:D}{Q:D->Prop}(h:kpO x=some d) (q:Q d):keep x Q:=by
 obtain ⟨d',k⟩:=x;cases k with
 | st=>cases h;exact q
 | fr=>cases h;exact q
 | _=>cases h
section
variable {cf:Cf}{ρ:List Slot}
theorem XD {f:E->Option Vl}(hf:∀ e x,f e=some x->∀ (V:Po) (S:Store),V x S->wpE cf ρ e V S):∀ {es:List E}{ds:List D},kps f es=some ds->∀ (W:List D->Store->Prop) (S:Store),W ds S->wpEs cf ρ es W S
 | [],ds,h,W,S,q=>by cases h;exact q
 | e::es,ds,h,W,S,q=>by
  obtain ⟨x,h1,h⟩:=yG (show ((f e).bind fun x=>(kpO x).bind fun d=>(kps f es).map (d::·))=some ds from h);obtain ⟨d,h2,h⟩:=yG h;obtain ⟨ds',h3,rfl⟩:=JQ h;show wpE cf ρ e (fun x S1=>keep x fun d=>wpEs cf ρ es (fun ds S2=>W (d::ds) S2) S1) S
  exact hf e x h1 _ S (zd9 h2 (XD hf h3 _ S q))
theorem QZ {f:E->Option Vl}:∀ {es:List E}{ds:List D},kps f es=some ds->es.length=ds.length
 | [],ds,h=>by cases h;rfl
 | e::es,ds,h=>by obtain ⟨x,h1,h⟩:=yG (show ((f e).bind fun x=>(kpO x).bind fun d=>(kps f es).map (d::·))=some ds from h);obtain ⟨d,h2,h⟩:=yG h;obtain ⟨ds',h3,rfl⟩:=JQ h;exact congrArg (·+1) (QZ h3)
theorem zhl {d:D}{i:Int}{Q:Int->Prop}(h:intO d=some i) (q:Q i):isZ d Q:=by
 cases d with
 | int j=>cases h;exact q
 | _=>cases h
theorem zgz {f:E->Option Vl}(hf:∀ e x,f e=some x->∀ (V:Po) (S:Store),V x S->wpE cf ρ e V S) {o:Option E}{i:Option Int}(h:oo f o=some i) (W:Option Int->Store->Prop) (S:Store) (q:W i S):wpO cf ρ o W S:=by
 cases o with
 | none=>cases h;exact q
 | some e=>
  obtain ⟨x,h1,h⟩:=yG (show ((f e).bind fun x=>(intO x.1).map some)=some i from h);obtain ⟨j,h2,rfl⟩:=JQ h;exact hf e x h1 _ S (zhl h2 q)
theorem Yc {o:Option (D×Bool)}{x:Vl}{Q:Vl->Prop}(h:o.map ofB=some x) (q:Q x):opV o Q:=by obtain ⟨p,rfl,rfl⟩:=JQ h;exact q
theorem jl:∀ (n:Nat) (e:E) (x:Vl),litE ρ n e=some x->∀ (V:Po) (S:Store),V x S->wpE cf ρ e V S:=by
 intro n
 induction n with
 | zero=>intro e x h;cases h
 | succ n ih=>
  intro e x h V S q;cases e with
  | con d=>cases h;exact q
  | var i=>
   have h:rdO ρ[i]?=some x:=h;show rdV ρ[i]? fun x=>V x S
   cases e:ρ[i]? with
   | none=>rw [e] at h;cases h
   | some s=>
    rw [e] at h;cases s with
    | sh d=>cases h;exact q
    | ow d=>cases h;exact q
    | _=>cases h
  | bin op a b=>
   obtain ⟨y,h1,h⟩:=yG (show ((litE ρ n a).bind fun x=>(litE ρ n b).bind fun y=>if nrD x.1&&nrD y.1 then (opD op x.1 y.1).map ofB else none)=some x from h);obtain ⟨z,h2,h⟩:=yG h;obtain ⟨h3,h⟩:=if_c h;obtain ⟨h3,h4⟩:=Ϡ.mp h3;refine ih a y h1 _ S (ih b z h2 _ S ?_);rw [JN h3,JN h4];exact Yc h q
  | neg a=>
   obtain ⟨y,h1,h⟩:=yG (show ((litE ρ n a).bind fun x=>(intO x.1).map fun i=>((.int (-i),.st):Vl))=some x from h);obtain ⟨i,h2,rfl⟩:=JQ h;exact ih a y h1 _ S (zhl h2 q)
  | tup es=>
   obtain ⟨ds,h1,h⟩:=yG (show ((kps (litE ρ n) es).bind fun ds=>if fits ds.length then some ((.tup ds,.st):Vl) else none)=some x from h);obtain ⟨h2,h⟩:=if_c h;cases h;exact XD ih h1 _ S (yD h2 q)
  | lst es=>
   obtain ⟨ds,h1,h⟩:=yG (show ((kps (litE ρ n) es).bind fun ds=>if fits ds.length then some ((.lst ds,.fr):Vl) else none)=some x from h);obtain ⟨h2,h⟩:=if_c h;cases h;exact XD ih h1 _ S (yD h2 q)
  | sub a i=>
   obtain ⟨y,h1,h⟩:=yG (show ((litE ρ n a).bind fun x=>(litE ρ n i).bind fun y=>if nrD x.1 then (subD x.1 y.1).map (fun d=>((d,.st):Vl)) else none)=some x from h);obtain ⟨z,h2,h⟩:=yG h;obtain ⟨h3,h⟩:=if_c h;obtain ⟨d,h4,rfl⟩:=JQ h;refine ih a y h1 _ S (ih i z h2 _ S ?_);rw [JN h3];exact yL h4 q
  | slc a lo hi=>
   obtain ⟨y,h1,h⟩:=yG (show ((litE ρ n a).bind fun x=>(oo (litE ρ n) lo).bind fun l=>(oo (litE ρ n) hi).bind fun h=>if nrD x.1 then (slcD x.1 l h).map ofB else none)=some x from h);obtain ⟨l,h2,h⟩:=yG h;obtain ⟨u,h3,h⟩:=yG h;obtain ⟨h4,h⟩:=if_c h;refine ih a y h1 _ S (zgz ih h2 _ S (zgz ih h3 _ S ?_));rw [JN h4];exact Yc h q
  | bi b es=>
   obtain ⟨ds,h1,hB⟩:=yG (show ((kps (litE ρ n) es).bind fun ds=>if (ds.length==1||ds.length==2)&&ds.all nrD then (biD b ds).map ofB else none)=some x from h);obtain ⟨h2,hB⟩:=if_c hB;obtain ⟨h2,h3⟩:=Ϡ.mp h2;have hl:=QZ h1;cases es with
   | nil=>
    cases ds with
    | nil=>cases h2
    | cons _ _=>cases hl
   | cons e es=>
    cases es with
    | cons e' es=>
     have em:ds.map (zL S)=ds:=by refine (mZ fun d hd=>JN (ak.mp h3 d hd) S).trans ?_;simp
     have:wpEs cf ρ (e::e'::es) (fun ds S1=>opV (biD b (ds.map (zL S1))) fun x=>V x S1) S:=XD ih h1 _ S (by rw [em];exact Yc hB q);exact this
    | nil=>
     obtain ⟨y,h4,h1⟩:=yG (show ((litE ρ n e).bind fun x=>(kpO x).bind fun d=>(kps (litE ρ n) []).map (d::·))=some ds from h1);obtain ⟨d,h5,h1⟩:=yG h1;cases h1;have h3:nrD d=true:=by simpa using h3
     have ey:y.1=d:=by
      obtain ⟨y1,y2⟩:=y;cases y2 with
      | st=>cases h5;rfl
      | fr=>cases h5;rfl
      | _=>cases h5
     refine ih e y h4 _ S ?_;rw [ey,JN h3];exact Yc hB q
  | dic tk ks es=>
   obtain ⟨ds,h1,h⟩:=yG (show ((kps (litE ρ n) es).bind fun ds=>if J9 tk ks ds then some ((dicV tk ks ds,.fr):Vl) else none)=some x from h);obtain ⟨h2,h⟩:=if_c h;cases h;exact XD ih h1 _ S (yD h2 q)
  | _=>cases h
end
theorem Yy {s:D->(Option D->Store->Prop)->Store->Prop}{V:List D->Store->Prop}{S:Store}(f:D->D):∀ (xs acc:List D),acc.length+xs.length<=1000->(∀ x∈xs,∀ Q:Option D->Store->Prop,Q (some (f x)) S->s x Q S)->V (acc++xs.map f) S->wJ s xs acc V S
 | [],acc,_,_,v=>by rw [show acc++([]:List D).map f=acc by simp] at v;exact v
 | x::xs,acc,hl,h,v=>by refine h x θ _ ?_;have hl:acc.length+(xs.length+1)<=1000:=hl;refine yD (fits_of (by omega)) (Yy f xs (acc++[f x]) (by simp;omega) (fun y hy=>h y (ι _ hy)) ?_);simpa using v
section
variable {K:Nat}{S T:Store}{d bad brn:D}{s b m:Int}{ms:List Mc}
theorem zjg (hK:1<=K):Is K 39 [.int s] (.lst (badW s),.fr) S:=by obtain ⟨K,hk,rfl⟩:=up hK;refine uT ?_;refine yO ?_;refine jl 9 _ (.lst (badW s),.fr) (by kernel_rfl) _ _ ?_;exact ⟨rfl,rfl⟩
theorem zjh (hK:1<=K):Is K 40 [bad,.int s] (.lst (badR bad s),.fr) S:=by obtain ⟨K,hk,rfl⟩:=up hK;refine j8 ?_;refine yO ?_;refine jl 9 _ (.lst (badR bad s),.fr) (by kernel_rfl) _ _ ?_;exact ⟨rfl,rfl⟩
theorem zjm {f:Str}{n z:Int}{rd:D}{l:List D}(n0:0<=n) (n3:n<=3) (hK:1<=K):Is K 41 [bad,.int s,.tup (.tup [.str f,.int n,.int z,rd]::l)] (.lst (badB bad s f n),.fr) S:=by
 obtain ⟨K,hk,rfl⟩:=up hK;refine vV ?_;have fin:wpCs (za F wh K) noX wh (zJ.drop 1) [.sh bad,.sh (.int s),.sh (.tup (.tup [.str f,.int n,.int z,rd]::l)),.sh (.str f),.sh (.int n)] (told fun x S'=>x=(.lst (badB bad s f n),.fr)/\S'=S) S:=by
  refine yO ?_;refine jl 9 _ (.lst (badB bad s f n),.fr) ?_ _ _ ⟨rfl,rfl⟩;rcases (show n=0\/n=1\/n=2\/n=3 by omega) with rfl | rfl | rfl | rfl
  ·kernel_rfl
  ·kernel_rfl
  ·kernel_rfl
  ·kernel_rfl
 obtain ⟨tl,htl⟩:∃ tl,tl=zJ.drop 1:=⟨_,rfl⟩
 rw [<- htl] at fin;show wpCs _ _ _ (zJ.take 1++zJ.drop 1) _ _ _
 rw [<- htl];clear htl;dsimp only [zJ,cA,Ϙ,Τ];nofun;exact fin
theorem zgN (hK:1<=K):Is K 42 [bad,brn,.int s,.int m] (.lst (badD bad brn s m),.fr) S:=by obtain ⟨K,hk,rfl⟩:=up hK;refine jt ?_;refine yO ?_;refine jl 9 _ (gdB,.st) (by kernel_rfl) _ _ ?_;refine zE rfl ?_;refine kh ?_;refine yO ?_;refine jl 9 _ (.lst (badD bad brn s m),.fr) (by kernel_rfl) _ _ ?_;exact ⟨rfl,rfl⟩
theorem zgb {x:D}(h:plD x=true):yF x=false:=by
 cases x with
 | ins _ _ _=>cases h
 | _=>rfl
theorem zeT {x:D}(h:x∈badF s m):yF x=false:=by simp only [badF,χ,Φ,or_false] at h;rcases h with rfl | rfl | rfl | rfl | rfl | rfl | rfl | rfl | rfl | rfl <;> rfl
theorem zeQ {x:D}(h:x∈badO m):yF x=false:=by simp only [badO,χ,Φ,or_false] at h;rcases h with rfl | rfl | rfl | rfl | rfl | rfl | rfl | rfl <;> rfl
theorem zhS {ρ:List Slot}{i:Nat}{d:D}(hi:i < ρ.length) (h:yF d=false):xn ρ (.one i) (d,false)=some (ρ.set i (.sh d)):=by
 show (if (decide (i < ρ.length)&&!yF d)=true then some (ρ.set i (if false=true then .ow d else .sh d)) else none)=_
 rw [h,decide_eq_true hi];rfl
theorem zjf (hK:1<=K):Is K 43 [.int s,.int m] (.lst ((badF s m).map (fun x=>.tup [x,.non])++(badO m).map fun x=>.tup [.non,x]),.fr) S:=by
 obtain ⟨K,hk,rfl⟩:=up hK;refine j7 ?_;refine yO ?_;refine jl 9 _ (.lst (badF s m),.fr) (by kernel_rfl) _ _ ?_;refine zE (a:=[.sh (.int s),.sh (.int m),.ow (.lst (badF s m)),.no]) rfl ?_;refine kh ?_;refine yO ?_;refine jl 9 _ (.lst (badO m),.fr) (by kernel_rfl) _ _ ?_;refine zE (a:=[.sh (.int s),.sh (.int m),.ow (.lst (badF s m)),.ow (.lst (badO m))]) rfl ?_;refine kh ?_;nofun;refine xR ?_;dsimp only [wpI,zO];nofun;refine Yy (fun x=>.tup [x,.non]) (badF s m) [] (by simp [badF]) (fun x hx Q hQ=>?_) ?_
 ·refine zE (zhS (ύ rfl) (zeT hx)) ?_;dsimp only [wpF,zbQ,wpEs,zO,xm,inn,nT,η,Ϩ,Ε,Ϥ];nofun;exact hQ
 ·refine xR ?_;dsimp only [wpI,zO];nofun;refine Yy (fun x=>.tup [.non,x]) (badO m) [] (by simp [badO]) (fun x hx Q hQ=>?_) ?_
  ·refine zE (zhS (ύ rfl) (zeQ hx)) ?_;dsimp only [wpF,zbQ,wpEs,zO,xm,inn,nT,η,Ϩ,Ε,Ϥ];nofun;exact hQ
  ·rw [Τ,Τ];refine ju (jc (by rw [ξ,ξ];simp [badF,badO])) ?_;nofun;exact ⟨rfl,rfl⟩
theorem zji {m:Mc}(hK:1<=K):Is K 45 [m.d] (.lst (badM m),.fr) S:=by
 obtain ⟨K,hk,rfl⟩:=up hK;unfold Mc.d;refine vU ?_;have fin:wpCs (za F wh K) noX wh (zH.drop 2) [.sh (.tup [.str m.nm,.int m.k,.int m.s,.tup m.rooms]),.sh (.str m.nm),.sh (.int m.k),.sh (.int m.s),.sh (.tup m.rooms),.sh gvR] (told fun x S'=>x=(.lst (badM m),.fr)/\S'=S) S:=by refine yO ?_;refine jl 9 _ (.lst (badM m),.fr) ?_ _ _ ⟨rfl,rfl⟩;kernel_rfl
 obtain ⟨tl,htl⟩:∃ tl,tl=zH.drop 2:=⟨_,rfl⟩
 rw [<- htl] at fin;show wpCs _ _ _ (zH.take 2++zH.drop 2) _ _ _
 rw [<- htl];clear htl;dsimp only [zH,cA,Ϙ,Τ];nofun;exact fin
end
section
variable {K b:Nat}{ns:List Int}{a:Int}{ms:List Mc}
theorem zb2 {x bad:D}{s n:Int}{f:Str}(h:x∈badB bad s f n):yF x=false:=by simp only [badB,χ,Φ,or_false] at h;rcases h with rfl | rfl | rfl | rfl | rfl | rfl | rfl | rfl | rfl | rfl | rfl | rfl | rfl | rfl | rfl | rfl <;> rfl
noncomputable def brT:List C:=zZ.drop 4
theorem zeH {m:Mc}{i k:Nat}{w:Int}{rows:List D}{door fall off bad brn:D}{L:List Int}(g:Good ms) (hm:ms[i]?=some m) (hr:m.rooms[k]?=some (.tup [.tup rows,door,fall,off])) (h60:rows.length<=60) (hrw:∀ r∈rows,Rw m.s r) (hd:Do m.s m.rooms.length (ym ms) door) (hbw:BW m.s bad) (hbb:BB m.s (ym ms) brn) (w0:0<=w) (w4:w<=4) (p:zU (b+1) ns a) (hK:3<=K):
  wpCs (za F wh K) noX wh brT [.sh (.ref 2),.sh (.tup (ms.map Mc.d)),.sh (.int i),.sh (.int k),.sh (.int w),.sh (.str m.nm),.sh (.int m.k),.sh (.int m.s),.sh (.tup m.rooms),.sh (.tup rows),.sh door,.sh fall,.sh off,.sh bad,.sh brn] (told (Dr ns b fun d=>BM m.s m.rooms.length (ym ms) d/\yF d=false)) (Sp ns a):=by
 have hn:((ym ms).map (·.1)).Nodup:=by rw [qK];exact g.nd
 have one:=(g.ok m (Ξ hm)).one;have hsub:subD (.tup m.rooms) (.int k)=some (.tup [.tup rows,door,fall,off]):=YW (by omega) (by rw [show ((k:Int)).toNat=k by omega];exact hr);dsimp only [brT,zZ,dI];rcases (show w=0\/w=1\/w=2\/w=3\/w=4 by omega) with rfl | rfl | rfl | rfl | rfl
 ·nofun;refine (zjh (by omega)).go ?_;nofun;refine Dr.go (yp (b:=b) (by simp [badR]) p (by omega)) ?_;intro d a2 hdm p2;have br:BR m.s d:=zeP hbw hdm;clear hdm hsub;nofun;exact ⟨_,a2,rfl,⟨zhQ hrw br,rfl⟩,p2,rfl⟩
 ·nofun;refine (zgN (by omega)).go ?_;nofun;refine Dr.go (yp (b:=b) (by simp [badD]) p (by omega)) ?_;intro d a2 hdm p2;have bd:BD m.s m.rooms.length (ym ms) d:=zaN hn (by omega) hbw hbb hdm;clear hdm hsub;nofun;exact ⟨_,a2,rfl,⟨zaM h60 hrw bd,rfl⟩,p2,rfl⟩
 ·nofun;refine (zgN (by omega)).go ?_;nofun;refine Dr.go (yp (b:=b) (by simp [badD]) p (by omega)) ?_;intro d a2 hdm p2;have bd:BD m.s m.rooms.length (ym ms) d:=zaN hn (by omega) hbw hbb hdm;clear hdm hsub;nofun;exact ⟨_,a2,rfl,⟨zaM h60 hrw bd,rfl⟩,p2,rfl⟩
 ·nofun;refine (zjf (by omega)).go ?_;nofun;refine Dr.go (yp (b:=b) (by simp [badF]) p (by omega)) ?_;intro d a2 hdm p2;rcases ϣ.mp hdm with z | z
  ·obtain ⟨x,hx,rfl⟩:=Ψ.mp z;have bf:BF m.s m.rooms.length x:=zeU hx;clear hdm hsub z hx;nofun;exact ⟨_,a2,rfl,⟨zeK hn h60 hrw hd bf,rfl⟩,p2,rfl⟩
  ·obtain ⟨x,hx,rfl⟩:=Ψ.mp z;have bo:BO m.rooms.length x:=zeR (by omega) hx;clear hdm hsub z hx;nofun;exact ⟨_,a2,rfl,⟨zhR hn h60 hrw hd bo,rfl⟩,p2,rfl⟩
 ·nofun;refine yL hsub ?_;nofun;refine yL hsub ?_;nofun;refine yL hsub ?_;nofun;refine Dr.go (yp (b:=b) (by simp) p (by omega)) ?_;intro d a2 hdm p2;nofun;refine ⟨d,a2,rfl,?_,p2,rfl⟩;clear hsub;simp only [χ,Φ,or_false] at hdm;rcases hdm with rfl | rfl | rfl | rfl | rfl | rfl
  ·exact ⟨V1 W5,rfl⟩
  ·exact ⟨jX (uo rfl rfl),rfl⟩
  ·exact ⟨jX W5,rfl⟩
  ·exact ⟨jX (tupN (.inl (by show (3:Int) < 4;decide))),rfl⟩
  ·exact ⟨jX (tupN (.inr (by show (4:Int) < 5;decide))),rfl⟩
  ·exact ⟨V1 (tupN (.inr (by decide +kernel))),rfl⟩
theorem Kh {m:Mc}{i k:Nat}{w:Int}(g:Good ms) (hq:("q":Str) ∉ (ym ms).map (·.1)) (hm:ms[i]?=some m) (hk:k < m.rooms.length) (w0:0<=w) (w4:w<=4) (p:zU (b+3) ns a) (hK:4<=K):
  yM F wh K 44 [.ref 2,.tup (ms.map Mc.d),.int i,.int k,.int w] (Dr ns b fun d=>BM m.s m.rooms.length (ym ms) d/\yF d=false) (Sp ns a):=by
 obtain ⟨K,hk',rfl⟩:=up hK;have ok:=g.ok m (Ξ hm);obtain ⟨L,hL,_⟩:=ok.free;have hr:=ψ hk;obtain ⟨rows,door,fall,off,er,h60,hrw,hd,_,_,_⟩:=(hL k _ hr).ex;rw [er] at hr;have hn:((ym ms).map (·.1)).Nodup:=by rw [qK];exact g.nd
 have hmd:subD (.tup (ms.map Mc.d)) (.int i)=some (.tup [.str m.nm,.int m.k,.int m.s,.tup m.rooms]):=YW (by omega) (by rw [Η,show ((i:Int)).toNat=i by omega,hm];rfl);have hsub:subD (.tup m.rooms) (.int k)=some (.tup [.tup rows,door,fall,off]):=YW (by omega) (by rw [show ((k:Int)).toNat=k by omega];exact hr);have one:=g.one;obtain ⟨m0,ms',ems⟩:∃ m0 ms',ms=m0::ms':=by
  cases ms with
  | nil=>simp at one
  | cons x y=>exact ⟨x,y,rfl⟩
 have hm0:m0∈ms:=by rw [ems];exact θ
 have ok0:=g.ok m0 hm0;refine j9 ?_;have fin:=fun {bad brn:D}{a:Int}=>zeH (bad:=bad) (brn:=brn) (b:=b) (ns:=ns) (a:=a) (K:=K) (L:=[]) (w:=w) (k:=k) g hm hr h60 hrw hd
 obtain ⟨tl,htl⟩:∃ tl,tl=brT:=⟨_,rfl⟩
 rw [<- htl] at fin;show wpCs _ _ _ (zZ.take 4++brT) _ _ _
 rw [<- htl];clear htl er;dsimp only [zZ,cA,Ϙ,Τ];nofun;refine yL hmd ?_;nofun;refine yL hsub ?_;nofun;refine (zjg (by omega)).go ?_;nofun;refine Dr.go (yp (b:=b+2) (by simp [badW]) p (by omega)) ?_;intro bad a2 hbad p2;have bw:=zeO hbad;refine zE (bind1 (ύ rfl) (zgb bw.1)) ?_;clear hbad;nofun;have lb:=zjm (K:=K) (S:=Sp ns a2) (bad:=bad) (s:=m.s) (f:=m0.nm) (n:=m0.k) (z:=m0.s) (rd:=.tup m0.rooms) (l:=ms'.map Mc.d) ok0.k0 ok0.k3 (by omega);have e0:(.tup (ms.map Mc.d):D)=.tup (.tup [.str m0.nm,.int m0.k,.int m0.s,.tup m0.rooms]::ms'.map Mc.d):=by rw [ems];rfl
 rw [<- e0] at lb;refine lb.go ?_;nofun;refine Dr.go (yp (b:=b+1) (by simp [badB]) p2 (by omega)) ?_;intro brn a3 hbrn p3;have bb:BB m.s (ym ms) brn:=zeV hn hq ok0.wd (Ψ.mpr ⟨m0,hm0,rfl⟩) ok0.k0 ok0.k3 bw hbrn;refine zE (bind1 (ύ rfl) (zb2 hbrn)) ?_;clear hbrn;exact fin bw bb w0 w4 p3 (by omega)
end
section
variable {K b:Nat}{ns:List Int}{a:Int}{ms:List Mc}{S:Store}
theorem yR {d:D}(h:∀ {K:Nat}{S:Store},1<=K->Is K 6 [d,.int 1,.int 6] no S):NM d:=by intro K T hK;obtain ⟨K,hk,rfl⟩:=up hK;refine yQ ?_;nofun;refine (h (by omega)).go ?_;nofun;exact ⟨rfl,rfl⟩
theorem zbv (g:Good ms) (h3:ms.length<=3) (hK:1<=K):yM F wh K 38 [.tup (ms.map Mc.d)] (fun q S'=>S'=S/\∃ l,q=(.lst l,.fr)/\l.length=12/\∀ d∈l,NM d/\yF d=false) S:=by
 obtain ⟨K,hk,rfl⟩:=up hK;have one:=g.one;obtain ⟨m0,ms',ems⟩:∃ m0 ms',ms=m0::ms':=by
  cases ms with
  | nil=>simp at one
  | cons x y=>exact ⟨x,y,rfl⟩
 have c1:=qI (ms.map Mc.d) none (some 1);rw [ξ] at c1;have hl:(ms.map Mc.d).length<=3:=by rw [ξ];exact h3
 have e1:cutD (ms.map Mc.d) none (some 1)=[m0.d]:=by have:cutD (ms.map Mc.d) none (some ((1:Nat):Int))=(ms.map Mc.d).take 1:=zaA (by rw [ξ];omega);refine this.trans ?_;rw [ems];rfl
 refine vR ?_;nofun;refine xR ?_;dsimp only [wpI,xm];nofun
 refine Yy (fun x=>match x with
  | .int j=>.tup [.str ⟨(η (j+1).toNat (Str.cps "n")).foldl (·++·) #[]⟩,.int 0,.int 0,.tup [gvR]]
  | _=>.non) (zx 0 6) [] (by decide) (fun x hx Q hQ=>?_) ?_
 ·obtain ⟨j,rfl,j0,j1⟩:=wy hx;refine zE rfl ?_;dsimp only [wpF,zbQ,wpEs,zet,zO,xm,inn,nT,η,Ϩ,Ε,Ϥ,Ϙ,Τ,ϝ,ϥ,fL];nofun;refine yK (d:=.str ⟨(η (j+1).toNat (Str.cps "n")).foldl (·++·) #[]⟩) ?_ ?_
  ·show (if (decide (1<=j+1)&&decide (j+1 < 2 ^ 20)&&!((("n":Str).length)==0)&&fits (("n":Str).length*(j+1).toNat))=true then some (D.str ⟨(η (j+1).toNat (Str.cps "n")).foldl (·++·) #[]⟩,false) else none)=_
   rw [decide_eq_true (by omega),decide_eq_true (by omega),fits_of (by rw [show ("n":Str).length=1 by decide +kernel];omega),show ((("n":Str).length)==0)=false by decide +kernel];rfl
  nofun;exact hQ
 ·have r6:(zx 0 6).length=6:=by decide
  nofun;rw [e1];refine ⟨rfl,_,rfl,rfl,fun d hd=>?_⟩;simp only [χ,Φ,or_false] at hd;have hp:=Uh g;have hnd:((ms.map toMd).map (·.nm)).Nodup:=by rw [Z1];exact g.nd
  have hl9:(ms.map toMd).length<=90:=by rw [ξ];omega
  rcases hd with rfl | rfl | rfl | rfl | rfl | rfl | rfl | rfl | rfl | rfl | rfl | rfl
  ·exact ⟨yR (uo rfl rfl),rfl⟩
  ·exact ⟨yR (uo rfl rfl),rfl⟩
  ·exact ⟨yR (uo rfl rfl),rfl⟩
  ·exact ⟨yR (uo (by decide +kernel) rfl),rfl⟩
  ·exact ⟨yR W5,rfl⟩
  ·exact ⟨yR (uo rfl rfl),rfl⟩
  ·exact ⟨yR (tupN (.inl (by decide))),rfl⟩
  ·exact ⟨yR W5,rfl⟩
  ·refine ⟨?_,rfl⟩;have h:=uC (post:=[]) hnd hp hl9 (.inr ⟨toMd m0,rfl,hp _ (Ψ.mpr ⟨m0,by rw [ems];exact θ,rfl⟩),by rw [Z1];exact Ψ.mpr ⟨m0,by rw [ems];exact θ,rfl⟩⟩) rfl;rw [Ui] at h;exact h
  ·refine ⟨?_,rfl⟩;exact uC (pre:=[]) (post:=[]) List.nodup_nil (fun _ z=>(nomatch z)) (by simp) (.inl (uI (tupN (.inl (by omega))))) rfl
  ·refine ⟨?_,rfl⟩;have h:=uC (two:=.non) (post:=[]) hnd hp hl9 (.inl (uI (uo rfl rfl))) rfl;rw [Ui] at h;exact h
  ·exact ⟨yR (tupN (.inr (by simp [r6]))),rfl⟩
theorem zb1 {m:Mc}{x:D}(h:x∈badM m):yF x=false:=by simp only [badM,χ,Φ,or_false] at h;rcases h with rfl | rfl | rfl | rfl | rfl | rfl | rfl | rfl | rfl | rfl | rfl | rfl | rfl | rfl | rfl | rfl <;> rfl
noncomputable def spT:List C:=yh.drop 6
theorem zc4 {l:List D}{i:Nat}{two:D}{x3 x4 x5 x6 x7 x8 x10:Slot}(hi:i < l.length) (h6:l.length<=6) (q:NM (.tup (l.set i two))) (p:zU b ns a) (hK:1<=K):
  wpCs (za F wh K) noX wh spT [.sh (.ref 2),.sh (.tup l),.sh (.int i),x3,x4,x5,x6,x7,x8,.sh two,x10] (told (Dr ns b NM)) (Sp ns a):=by have c1:=qI l none (some (i:Int));have c2:=qI l (some ((i:Int)+1)) none;have e1:cutD l none (some (i:Int))=l.take i:=zaA (by omega);have e2:cutD l (some ((i:Int)+1)) none=l.drop (i+1):=Jk (n:=i+1) hi;dsimp only [spT,yh,dI];nofun;refine ⟨_,a,rfl,?_,p,rfl⟩;rw [e1,e2];rw [cU,if_pos hi] at q;rw [g8];exact q
theorem K3 (g:Good ms) (h3:ms.length<=3) (hq:∀ m∈ms,m.nm ∉ exL) (p:zU (b+6) ns a) (hK:6<=K):yM F wh K 46 [.ref 2,.tup (ms.map Mc.d)] (Dr ns b NM) (Sp ns a):=by
 obtain ⟨K,hk,rfl⟩:=up hK;have one:=g.one;have hl6:(ms.map Mc.d).length<=6:=by rw [ξ];omega
 have hqn:("q":Str) ∉ (ym ms).map (·.1):=by rw [qK];intro z;obtain ⟨x,hx,e⟩:=Ψ.mp z;exact hq x hx (by rw [e];exact θ)
 refine ZV ?_;have fin:=fun {i:Nat}{two:D}{x3 x4 x5 x6 x7 x8 x10:Slot}{a:Int}=>zc4 (K:=K) (b:=b) (ns:=ns) (a:=a) (l:=ms.map Mc.d) (i:=i) (two:=two) (x3:=x3) (x4:=x4) (x5:=x5) (x6:=x6) (x7:=x7) (x8:=x8) (x10:=x10)
 obtain ⟨tl,htl⟩:∃ tl,tl=spT:=⟨_,rfl⟩
 rw [<- htl] at fin;show wpCs _ _ _ (yh.take 6++spT) _ _ _
 rw [<- htl];clear htl;dsimp only [yh,cA,Ϙ,Τ];nofun;refine Dr.go (zQ (b:=b+5) (many:=((ms.map Mc.d).length:Int)) (by rw [ξ];omega) p (by omega)) ?_;rintro _ a2 ⟨x,rfl,x0,x1⟩ p2;rw [ξ] at x1;obtain ⟨i,rfl⟩:∃ i:Nat,x=(i:Int):=⟨x.toNat,by omega⟩
 have hi:i < ms.length:=by omega
 have hid:i < (ms.map Mc.d).length:=by rw [ξ];exact hi
 have hm:ms[i]?=some ms[i]:=ψ hi;obtain ⟨m,em⟩:∃ m,m=ms[i]:=⟨_,rfl⟩
 rw [<- em] at hm;have ok:=g.ok m (Ξ hm);have rone:=ok.one;have few:=ok.few;have hmd:subD (.tup (ms.map Mc.d)) (.int i)=some (.tup [.str m.nm,.int m.k,.int m.s,.tup m.rooms]):=YW (by omega) (by rw [Η,show ((i:Int)).toNat=i by omega,hm];rfl);nofun;refine yL hmd ?_;nofun;refine Dr.go (zQ (b:=b+4) (many:=(m.rooms.length:Int)) (by omega) p2 (by omega)) ?_;rintro _ a3 ⟨y,rfl,y0,y1⟩ p3;obtain ⟨k,rfl⟩:∃ k:Nat,y=(k:Int):=⟨y.toNat,by omega⟩
 have hkk:k < m.rooms.length:=by omega
 nofun;refine Dr.go (zQ (b:=b+3) (by decide) p3 (by omega)) ?_;rintro _ a4 ⟨w,rfl,w0,w1⟩ p4;nofun;refine zB (fun h5=>?_) (fun h5=>?_)
 ·nofun;refine wp_mono (zbv (S:=Sp ns a4) g h3 (by omega)) ?_;rintro _ _ ⟨rfl,l,rfl,hl,hall⟩;nofun;refine Dr.go (yp (b:=b) (by omega) (p4.mono (by omega)) (by omega)) ?_;intro d a5 hd p5;nofun;exact ⟨d,a5,rfl,(hall d hd).1,p5,rfl⟩
 ·have h5:(w==5)=false:=h5;have h5:w≠5:=by simpa using h5
  nofun;refine zB (fun h6=>?_) (fun h6=>?_)
  ·nofun;refine yL hmd ?_;nofun;refine (zji (m:=m) (by omega)).go ?_;nofun;refine Dr.go (yp (b:=b) (by simp [badM]) (p4.mono (by omega)) (by omega)) ?_;intro two a5 hd p5;refine zE (bind1 (ύ rfl) (zb1 hd)) ?_;have nm:=zeS g hm hd;clear hd;nofun;exact fin hid hl6 nm p5 (by omega)
  ·have h6:(w==6)=false:=h6;have h6:w≠6:=by simpa using h6
   nofun;refine Dr.go (Kh (b:=b) g hqn hm hkk w0 (by omega) p4 (by omega)) ?_;rintro one a5 ⟨hd,hins⟩ p5;refine zE (bind1 (ύ rfl) hins) ?_;have c1:=qI m.rooms none (some (k:Int));have c2:=qI m.rooms (some ((k:Int)+1)) none;have e1:cutD m.rooms none (some (k:Int))=m.rooms.take k:=zaA (by omega);have e2:cutD m.rooms (some ((k:Int)+1)) none=m.rooms.drop (k+1):=Jk (n:=k+1) hkk;have es:m.rooms.take k++[one]++m.rooms.drop (k+1)=m.rooms.set k one:=by rw [cU,if_pos hkk,g8];rfl
   have nm:=jH (rd:=.tup (m.rooms.set k one)) g hm fun {K T} hK=>zdg (by rw [qK];exact g.nd) ok hkk hd hK
   rw [<- es,<- e1,<- e2] at nm;clear e1 e2 es hmd;nofun;exact fin hid hl6 nm p5 (by omega)
theorem law_wp (cs:List Int) (hc:cs.length<=63):yM F wh 60 47 [.scr cs] (fun x _=>x.1=.bl true) (St []):=by
 refine zh0 ?_;nofun;refine wp_mono (zf9 cs hc (K:=59) (by decide) _) ?_;rintro _ _ ⟨rfl,ns,rfl,hp,hf⟩;nofun;refine Dr.go (qp (b:=200000) ⟨by decide,by decide,hp,hf⟩ (by decide)) ?_;rintro _ a ⟨ms,rfl,g,h3,hq⟩ p;nofun;obtain ⟨n,hn,n0,n1⟩:∃ n:Int,n=6+(if (cs.length:Int) < 40 then (cs.length:Int) else 40)/\6<=n/\n<=46:=⟨_,rfl,by split <;> omega,by split <;> omega⟩
 rw [<- hn];refine yD (by rw [fits_of (by omega),decide_eq_true (by omega)];rfl) ?_;have hrl:(zx 0 n).length<=46:=by rw [yJ];omega
 refine wp_walk (fun l ρ S'=>∃ (a:Int) (ms:List Mc) (x3:Slot),S'=Sp ns a/\zU (4100*l.length) ns a/\Good ms/\ms.length<=3/\(∀ m∈ms,m.nm ∉ exL)/\ρ=[.sh (.scr cs),.sh (.ref 2),.sh (.tup (ms.map Mc.d)),x3]/\∀ d∈l,∃ j:Int,d=.int j) ?_ ?_ _ _ _ ⟨a,ms,.no,rfl,p.mono (by omega),g,h3,hq,rfl,fun d hd=>(wy hd).elim fun j q=>⟨j,q.1⟩⟩
 ·rintro d l ρ S' ⟨a2,ms,x3,rfl,p2,g,h3,hq,rfl,hd⟩;obtain ⟨j,rfl⟩:=hd d θ;have p2':zU (4100*(l.length+1)) ns a2:=p2;have hd':∀ d∈l,∃ j:Int,d=.int j:=fun d h=>hd d (ι _ h)
  nofun;refine Dr.go (K3 (b:=4100*l.length+4094) g h3 hq (p2'.mono (by omega)) (by decide)) ?_;intro two a3 h2 p3;nofun;refine (h2 59 [pK ns a3] (by decide)).go ?_;nofun;refine zB (fun h5=>?_) (fun h5=>?_)
  ·nofun;refine (Zv g (T:=[pK ns a3]) (by decide)).go ?_;nofun;refine Dr.go (qp (b:=4100*l.length) (p3.mono (by omega)) (by decide)) ?_;rintro _ a4 ⟨ms4,rfl,g4,h4,hq4⟩ p4;nofun;exact ⟨a4,ms4,_,rfl,p4,g4,h4,hq4,rfl,hd'⟩
  ·nofun;exact ⟨a3,ms,_,rfl,p3.mono (by omega),g,h3,hq,rfl,hd'⟩
 ·rintro ρ S' ⟨a2,ms,x3,rfl,p2,g,h3,hq,rfl,hd⟩;nofun;refine (Zv g (T:=[pK ns a2]) (by decide)).go ?_;nofun;rfl
theorem run_law:∀ ns:List Int,ns.length<=63->yM (wz rs B.lams) wh 60 47 [.scr ns] (fun x _=>x.1=.bl true) (EV.tabS B.tabs.length):=law_wp
end
end Q19
open PySem PySem.W PyProof.Rows
theorem PySem.Challenge.cw_errandroom_k19_machines_spoilt_holds : PySem.Challenge.rw_errandroom_k19_machines_spoilt.Holds := by
 exact EV.zhn (q := Q19.xj) (loose := [("ROW_PARTS" : Str), ("DOOR_PARTS" : Str)]) (d := Q19.jm) (B := Q19.B) (rs := Q19.rs) (f := 47) (r := Q19.zdk) (y := "_law_script") (wh := Q19.wh) 4000 400 Q19.zjv Q19.zd7 Q19.zjB Q19.zjA Q19.zjz Q19.zjw Q19.zjx Q19.zju rfl Q19.zjy rfl rfl (by kernel_rfl) rfl Q19.tabs Q19.run_law
