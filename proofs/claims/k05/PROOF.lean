import PyProof.Rows.All
import Wide.All
import OpenK.AllK
import Wide.FinOn
import Lean
import PyProof.EqAt
import PyProof.EqKinds
import PyProof.TupleCall
import PyProof.EnumMake
import PyProof.EnumIter
import PyProof.EnumFor
import PyProof.EnumStmt
import PyProof.WalksEnum
import KE.KRevIter
import PyProof.Rows.Range3
import PyProof.Rows.SortShell
import KE.KTops
import PyProof.Rows.SortRuns
import PyProof.Rows.SortKey
import KE.KSortTup
import PyProof.PureInt
import KE.KDictSum
import PyProof.Rows.SetFrom
import PyProof.SetKind
import PyProof.DictKinds
import PyProof.WalksMore
import PyProof.FactsAll.set_1
import PyProof.CollectWalk
import PyProof.CollectIter
import KE.KSortAsk
import PyProof.DictKeyH
import PyProof.ReprRoads
import PyProof.ListMulRoad
import PyProof.NeKinds
import KE.KEqDict
import KE.KIntText
import PyProof.SumWalkG
import PyProof.Rows.SumGenD
import PyProof.CompMap
import PyProof.RaisesMany
import PyProof.RulesAs
import PyProof.ExcClass2
import PyProof.ExcArgsOwn
import PyProof.IsiBase
import PyProof.ExcAttrAll.ValueError
import PyProof.ExcBaseAll.ValueError
import OpenK.KDescr
import OpenK.KOwn
import KE.KIsAll
import PyProof.NsDelKeeps
import KE.KTryMore
import PyProof.TupleOfGen
import PySem.Challenge.RW_errandroom_k05_faults_of_programs
set_option Elab.async false
set_option linter.all false
set_option maxRecDepth 100000
set_option maxHeartbeats 0
set_option tactic.hygienic false
set_option backward.match.sparseCases false
set_option genSizeOfSpec false
set_option bootstrap.genMatcherCode false
set_option compiler.extract_closed false
open Array renaming length_toList -> Ω, getElem?_toList -> bI, getElem?_eq_getElem -> fj, perm_iff_toList_perm -> lR, size_eq_one_iff -> nA, append_assoc -> nU, toList_push -> oE, toList_zip -> oU, toList_map -> oV
open Bool renaming and_eq_true_iff -> ε, and_eq_true -> ζ, and_false -> Τ, false_ne_true -> ϓ, true_and -> ϖ, false_and -> ϧ, false_eq_true -> aP, or_eq_true_iff -> b8, eq_iff_iff -> d9, false_or -> fL, and_true -> fM, true_or -> gk, or_true -> lg, not_eq_true' -> lq, or_eq_true -> lJ, eq_false_iff -> oR
open Classical renaming choose -> bT, propDecidable -> eZ, choose_spec -> fV
open False renaming elim -> au
open ForInStep renaming yield -> Ϻ, done -> aC
open Int renaming emod_lt_of_pos -> aR, emod_nonneg -> bQ, toNat_natCast -> fK
open List renaming mem_cons_self -> θ, mem_cons_of_mem -> ι, mem_singleton -> μ, all_eq_true -> ν, length_append -> ξ, length_map -> υ, size_toArray -> χ, mem_cons -> ψ, set -> Β, append_nil -> Δ, getElem?_eq_getElem -> Ε, mem_append -> Ζ, getElem?_set_ne -> Θ, getElem?_eq_some_iff -> Ι, replicate -> Κ, mem_map -> Ο, getElem?_map -> Ρ, mem_append_right -> Υ, mem_flatMap -> ϋ, nil_append -> ϑ, map_cons -> ϒ, getElem?_append_left -> ϗ, length_take -> ϛ, length_cons -> Ϝ, getElem?_append_right -> ϝ, flatMap_cons -> ϣ, contains_iff_mem -> Ϥ, length_drop -> ϥ, any_eq_true -> Ϧ, getElem?_set_self -> ϫ, flatMap_append -> ϭ, mem_of_getElem? -> ϴ, range -> Ϲ, length_set -> aq, lookup_cons -> aB, append_assoc -> aG, map_append -> aH, map -> aN, dropLast_subset -> aU, length_eq_zero_iff -> aY, Perm -> aZ, nodup_cons -> bf, map_map -> bA, mem_range -> bG, getD_eq_getElem?_getD -> bH, nodup_append -> bL, mem_append_left -> bM, length_dropLast -> bO, mem_map_of_mem -> bZ, filterMap_cons -> b7, zip_cons_cons -> cz, all_map -> cA, length_replicate -> cI, getElem?_eq_none -> cJ, mem_of_mem_take -> cT, zipWith -> cW, getElem_mem -> cX, getLast?_eq_none_iff -> cZ, all_cons -> dj, find?_cons -> dq, getElem?_replicate -> dw, getElem?_cons_zero -> dz, getElem?_cons_succ -> dB, foldl -> dM, any_cons -> dU, mem_of_mem_drop -> dY, mem_of_getLast? -> dZ, of_mem_zip -> d7, map_congr_left -> eE, drop_eq_getElem_cons -> fu, length_range -> fG, zip -> fW, cons_append -> fX, take_of_length_le -> gh, map_nil -> gj, length_zip -> gC, length_nil -> gD, foldl_cons -> gF, getElem?_toArray -> gH, nodup_nil -> gR, length -> gU, getElem_of_mem -> iu, pairwise_cons -> iB, take_sublist -> iY, set_eq_of_length_le -> mR, map_take -> mU, eq_of_mem_replicate -> mV, Pairwise -> mW, range_succ_eq_map -> nj, getElem?_dropLast -> nu, perm_append_comm -> nG, length_eraseIdx -> nO, mem_filterMap -> nZ, map_singleton -> ou, flatMap_assoc -> oA, pairwise_map -> oK, getElem?_inj -> oM, ext_getElem? -> oN, all_eq_false -> oO
open List.Pairwise renaming nil -> lY
open List.Perm renaming refl -> bR
open Nat renaming le_refl -> Α, beq -> Μ, ne_of_lt -> ό, lt_of_lt_of_le -> ύ, le_trans -> Ϛ, zero_le -> Ϯ, lt_irrefl -> cH, lt_succ_of_lt -> dI, lt_of_le_of_lt -> eY, le_succ -> fJ, ne_of_gt -> gA, le_of_lt -> gB, min_eq_left -> gG, le_of_ble_eq_true -> gP, succ -> lz, le_of_eq -> lB, lt_succ_self -> lG, le_of_not_lt -> lH, mul_le_mul_right -> nR
open Nat.succ renaming inj -> dX
open Ne renaming symm -> eQ
open Option renaming map_eq_some_iff -> Λ, bind_eq_some_iff -> ϐ, some -> ϰ, bind_some -> bz, isSome_map -> eX, map_some -> fZ, getD -> lw, isSome_iff_exists -> lX, getD_some -> nW, getD_none -> nY
open Option.some renaming inj -> ϙ
open Prod.mk renaming inj -> gw
open PyProof.Rows renaming arrOf -> Χ, wpS_bind -> ϟ, slot_tuple_getitem -> Ϭ, SortSt -> aA, wpS_pure -> aJ, Keyed -> bu, KeyOrd -> bD, callWith_type1 -> cj, seqObj -> cM, reverseSlice' -> eF, wpS_forRange -> fB, AllBare -> gm, listUpdate_at -> gn, sortedHeap -> gZ, SortKind -> iJ, envOfC -> lF, pendingOf -> my, mirror_perm -> mH, wpS_modify -> nC, subscriptTail_builtinR -> oF, listItems_at -> oG
open PyProof.Rows.F renaming plain_set_update_loop -> cD, entry_set_update_loop -> fH
open PyProof.Rows.KTD renaming datumAt -> aD, datumAt -> ik
open PyProof.Rows.KeyOrd renaming kle_refl -> bJ, kle_trans -> cU, kle_of_klt -> dC, kle_antisymm -> nJ
open PySem renaming Value -> δ, wpAny_bind -> η, wpAny_pure -> ς, Shared -> ω, wpAny -> Ξ, model -> Φ, Program -> Ψ, mainGlobals -> ϊ, Builtin -> ώ, compareOp -> Ϗ, Expr -> ϔ, World -> ϕ, SetTable -> Ϙ, Around -> ϡ, starEach -> Ϣ, NameKind -> ϯ, Spec -> ϲ, cLine -> Ϸ, Stmt -> ϸ, wpAny_truthy_bool -> ak, wpAny_newObj_type -> ao, sizeLine_eq -> aF, wpAny_setField -> aK, strKind -> aQ, assignEach -> aV, wpAny_holding -> aX, mem_of_lookup -> bh, FuncData -> bw, wpAny_mono -> bK, foldedSetIterable -> bV, binaryOp -> bY, swappedStores -> cg, wpAny_call_entry -> cB, wpAny_typeOf -> cL, bootBuiltins -> cN, wpAny_passesOwn -> cQ, swapsWithSole -> cR, wpAny_setState_of -> cV, Keyword -> cY, wpAny_rule -> dg, sysModules -> dh, World -> du, Scope -> dD, codeAny_builtin -> dG, tupleKind_room_in1 -> dH, rawInt -> dO, Paired -> dR, sliceBounds -> eG, backTo -> eU, wpAny_Call_Name_kw -> fO, assign -> fP, wpAny_pyIter_list -> f9, wpAny_of_eq -> gb, holding -> gf, wpAny_callSpecial?_slot -> gK, swapsWith -> gM, Operator -> gO, CmpOp -> gQ, valueAt -> gY, codeAny_mono -> g8, IsPart -> ir, builtinLookup_eq_fast -> iw, wpAny_field -> iC, storeSet -> iD, keywordEach -> iG, isTrue -> iH, isSubtype_type -> iI, tupleKind -> iQ, treeTable -> iR, relabel -> iT, getItem -> iU, PassesOwn -> iW, wpAny_setEntries_of -> lr, wpAny_standAt -> lC, plainId_quiet -> lD, behindInMarks -> lE, codeAny -> lL, wpAny_askSetting -> mj, pickOrder -> mq, noFill_tuple_add -> mz, DictEntry -> mG, wpAny_loadPart' -> mX, wpAny_execs_nil -> mY, typeLookup_type -> mZ, letOwnedTupleGo -> m5, importedModules -> m6, BoolOp -> m8, setAddHashedIn -> nD, call_meets -> nF, seq_tuple_add -> nP, attributeBase -> nQ, concat_meets -> oH, call_meetsIn -> oJ
open PySem.Around renaming under_plainId -> cP
open PySem.Builtin.List renaming listExtendWith -> cu, listFitsIndex -> dN, listTooLong -> d8, listSameRef -> iZ
open PySem.Builtin.Slice renaming slicePlaces -> cF, sliceAdjust -> dW, sliceApplied -> iz
open PySem.Builtin.Str renaming occurrences -> eO
open PySem.Builtin.Tuple renaming tupleExact -> cO, tupleItemsOf -> iy
open PySem.Calls renaming Name_function_global -> lQ, callWith_builtin -> m9
open PySem.Challenge renaming rw_errandroom_k05_faults_of_programs -> π, pw_errandroom_k05_faults_of_programs -> Ϫ
open PySem.EntryCells renaming newEntry -> mF
open PySem.Env renaming kindOf -> mD
open PySem.F renaming called_set -> aL, plainAttrs_list -> bU, slot_dict_get -> cC, args_tuple_add_2 -> eV, entry_tuple_add -> fC, args_dict_get_3 -> fD, slot_tuple_add -> fQ, entry_dict_get -> fU, plain_list_iadd -> lU, plainAttrs_dict -> lV, plainAttrs_str -> mC, type_dict_get -> mL, slot_set_iter -> mO, plain_set_new -> mQ
open PySem.Heap renaming get?_push_of_some -> ο, lt_size -> Η, get?_push_size -> Ν, SameBut -> ϵ, get?_update_self -> aO, get?_update_other -> bC, get?_update_ne -> c7, get?_none_of_le -> gW, size_push -> lZ
open PySem.Heap.SameBut renaming update -> fY, refl -> gJ
open PySem.NameKind renaming free -> aM
open PySem.Obj renaming mapSeq -> bj, mapFields -> dm, data_mapFields -> iM, isFreed_of_fields -> nM
open PySem.Paired renaming length -> lW
open PySem.ScopeKind renaming function -> m7
open PySem.SeqAt renaming RcNeAt -> Ϩ, EqAt -> ϱ, EqAt -> ig
open PySem.SeqAt.EqAt renaming str_int -> mJ, int_str -> mK
open PySem.SetTable renaming below -> bx, grown -> cG, orStandIn -> ni
open PySem.SetTable.below renaming go -> lO
open PySem.Shared renaming TypeIs -> ie
open PySem.Str renaming ofString -> lu
open PySem.Txt renaming slice -> iK
open PySem.Value renaming ref -> Ϟ, bool -> Ϡ, none -> ϩ, int -> aj, str -> aW, isStrOf -> dJ, type -> lM
open PySem.World renaming withFollow -> di
open PySem.pickOrder renaming go -> lK
open Sum renaming inr -> bc, inl -> gq
open Sum.inr renaming inj -> iV
open True renaming intro -> ϳ
namespace L2
open PySem PySem.Spec PyProof.Rows
abbrev VSP:=δ->ω->Prop
abbrev Key:=Sum Int Str
noncomputable def xF (s:Stmt):Arguments:=match s with
 | .FunctionDef _ a _ _ _ _ _ _ _ _=>a
 | _=>{ posonlyargs:=[],args:=[],vararg:=none,kwonlyargs:=[],kw_defaults:=[],kwarg:=none,defaults:=[] }
noncomputable def yH (s:Stmt):List Stmt:=match s with
 | .FunctionDef _ _ b _ _ _ _ _ _ _=>b
 | _=>[]
noncomputable def zU (s:Stmt):dD:=match s with
 | .FunctionDef _ _ _ _ _ _ sc _ _ _=>sc
 | _=>{ kind:=.function,names:=[],isGenerator:=false,isCoroutine:=false }
noncomputable abbrev veB:List δ:=[.type "ValueError",.type "Exception",.type "BaseException",.type "object"]
end L2
namespace EV
open PySem PySem.Spec PyProof.Rows L2
inductive D where
 | non | bl (b:Bool) | int (i:Int) | str (x:Str)
 | tup (ds:List D) | lst (ds:List D)
 | dK (ks:List Key) (ds:List D) | dT (ks:List (List Key)) (ds:List D)
 | ref (k:Nat) | fn (f:Nat) | scr (ns:List Int) | ktp (ds:List D) | kdc (ps:List (Str×Int)) | dF (ks:List (List Key)) (ds:List D)
 | ins (c:Str) (ns:List Str) (ds:List D)
 deriving Inhabited
inductive Ty where
 | int | bool | str | tuple | list | dict
 deriving DecidableEq
inductive BI where
 | len | abs | int | str | tuple | list | sum | all | any | isinst (t:Ty) | min2 | max2 | sorted | repr | dict | sset | lset | trev
 deriving DecidableEq
inductive MT where
 | get1 | get2 | index | join | split
 deriving DecidableEq
inductive T where
 | one (i:Nat) | tup (is:List Nat) | nst (i:Nat) (is:List Nat)
 deriving DecidableEq
inductive E where
 | var (i:Nat) | con (d:D) | glo (n:Nat) (d:D)
 | bin (op:gO) (a b:E) | neg (a:E)
 | cmp (op:gQ) (a b:E) | chn (o1 o2:gQ) (a b c:E)
 | not (a:E) | and (a b:E) | or (a b:E)
 | ite (c a b:E)
 | tup (es:List E) | lst (es:List E) | dic (tk:Bool) (ks:List Key) (vs:List E)
 | sub (a i:E) | slc (a:E) (lo hi:Option E)
 | bi (b:BI) (es:List E) | mth (m:MT) (o:E) (es:List E)
 | call (f:Nat) (es:List E) | callk (f:Nat) (perm:List Nat) (es:List E) | callv (i:Nat) (es:List E)
 | comp (t:T) (js:List Nat) (it:E) (ifs:List E) (elt:E)
 | box (e:E) | one (e:E) | flip (e:E) | dk1 (a b:E)
 | seq (e:E) | rng (lo:Option E) (hi:E) | enum (e:E) | zip (a b:E) | rev (e:E) | items (e:E) | dwn (es:List E) | keys (e:E)
 | att (cs:List Str) (o:E) (f:Str) | met (ms:List (Str×Nat)) (o:E) (m:Str) (es:List E) | mk (c:Str) (f:Nat) (es:List E)
inductive HB where
 | is (k:Nat) | ve | var (j:Nat) | not (a:HB) | and (a b:HB) | or (a b:HB) | one (a:HB)
inductive C where
 | set (t:T) (e:E)
 | expr (e:E)
 | ret (e:E) | retN
 | ite (c:E) (a b:List C)
 | whl (c:E) (b:List C)
 | forr (t:T) (it:E) (b:List C)
 | app (i:Nat) (e:E) | ext (i:Nat) (e:E)
 | stv (i:Nat) (k v:E) | sti (o k v:E) | appR (o e:E) | pop (i:Nat) | popR (t:T) (o:E) | popO (t:T) (i:Nat)
 | pass | brk | cnt | frz (i:Nat) | frr (i:Nat) | frk (i:Nat)
 | rse (c:Nat) | tri (tb:List (List Nat)) (f:Nat) (es:List E) (c i:Nat) (hs:List (Nat×HB))
 | lin (i:Nat) (es:List E)
 | sta (cs:List Str) (o:E) (f:Str) (e:E) | aua (cs:List Str) (o:E) (f:Str) (op:gO) (e:E)
structure Fn where
 np:Nat
 nv:Nat
 body:List C
structure Ob where
 name:Str
 fields:List Str
 meths:List (Str×Nat)
structure Tb where
 fns:List Str
 pars:List (List Str)
 consts:List (Str×D)
 bare:List Str
 kws:List (Nat×List Str×List Nat)
 cls:List (Str×List Nat)
 obs:List Ob:=[]
structure Row where
 name:Str
 st:Stmt
 ps:List Str
 N:List Str
 fn:Fn
noncomputable def frOf (h:Heap) (n:Nat):W.Frag:=(Ϲ n).filterMap fun a=>(h.get? a).map fun o=>(a,o)
noncomputable def dotted (x:Str):Bool:=x.cps.contains 46
noncomputable def clOf (x:Str):Str:=⟨(x.cps.toList.takeWhile fun c=>c != 46).toArray⟩
noncomputable def snOf (x:Str):Str:=⟨((x.cps.toList.dropWhile fun c=>c != 46).drop 1).toArray⟩
noncomputable def nmOf (x:Str):Str:=if dotted x=true then snOf x else x
noncomputable def caOf (K:W.Frag) (x:Str):Option Addr:=match W.nsIn K ϊ x with
 | some (some (.ref C))=>some C
 | _=>none
noncomputable def atN (K:W.Frag) (x:Str):Option (Option δ):=if dotted x=true then (match caOf K (clOf x) with
  | some C=>W.findIn K (.ref C) (snOf x)
  | none=>none) else W.nsIn K ϊ x
noncomputable def zbn (K:W.Frag) (x:Str):Option (bw×Bool):=match atN K x with
  | some (some (.ref f))=>(match K.lookup f with
     | some ⟨_,_,.func fd,_⟩=>some ({ fd with kwdefaults:=.none,doc:=.none,pyModule:=.none,annotations:=none,code:=.none,closureTuple:=.none },W.codeIn K fd.code x&&W.keepIn K (.ref f))
     | _=>none)
  | _=>none
noncomputable def ZQ:List D->List δ->Bool
 | [],[]=>true
 | .str x::ds,.str y _::vs=>x==y&&ZQ ds vs
 | .int i::ds,.int j _::vs=>i==j&&ZQ ds vs
 | _,_=>false
noncomputable def zgG (K:W.Frag) (a:Addr):Option (Array δ):=(K.lookup a).bind fun o=>match o.cls,o.data with
 | .type t,.seq its _=>if (t=="tuple"&&decide (its.size<=1000))=true then some its else none
 | _,_=>none
noncomputable def zi2 (K:W.Frag) (a:Addr) (ps:List (Str×Int)):Bool:=(match K.lookup a with
  | some o=>(match o.cls with | .type t=>t=="dict" | _=>false)&&o.dict.isNone
  | none=>false)&&KTD.tabLook (KTD.datLooks fun b=>K.lookup b) (fun b=>K.lookup b) a (ps.map fun p=>(p.1,.flat (.int p.2)))
noncomputable def Uu (K:W.Frag) (rs:List Row) (x:Str):D->Bool
 | .int i=>(match W.nsIn K ϊ x with | some (some (.int j _))=>i==j | _=>false)
 | .str y=>(match W.nsIn K ϊ x with | some (some (.str z _))=>y==z | _=>false)
 | .fn i=>(match rs[i]? with | some r=>r.name==x&&!dotted x | none=>false)
 | .ktp ds=>(match W.nsIn K ϊ x with | some (some (.ref a))=>(match zgG K a with | some its=>ZQ ds its.toList | none=>false) | _=>false)
 | .kdc ps=>(match W.nsIn K ϊ x with | some (some (.ref a))=>zi2 K a ps | _=>false)
 | _=>false
noncomputable def zdj (K:W.Frag) (cs:List (Str×List Nat)) (p:Str×List Nat):Bool:=match caOf K p.1 with
  | some C=>W.excIn K C veB "ValueError.__new__"&&W.findIn K (.ref C) "__getattribute__"==some (some (.builtin "BaseException.__getattribute__"))&&W.findIn K (.ref C) "__getattr__"==some none&&W.findIn K (.ref C) "__class__"==some (some (.builtin "object.__class__"))
   &&W.mroIn K C (.type "BaseException")==some true&&W.mroIn K C (.type "object")==some true&&(W.clsIn K C).isSome&&W.kitOne K (.ref C) (.type "ValueError")==some true
   &&(Ϲ cs.length).all fun k=>match cs[k]? with
      | some q=>(match caOf K q.1 with
        | some Ck=>W.kitOne K (.ref C) (.ref Ck)==some (p.2.contains k)&&W.exmOne K (.ref C) (.ref Ck)==some (p.2.contains k)
        | none=>false)
      | none=>false
  | none=>false
noncomputable def obOk (K:W.Frag) (rs:List Row) (o:Ob):Bool:=match caOf K o.name with
  | some C=>W.plainGet K C Str.empty&&W.hasDictIn K C&&W.plainOver K C&&W.findIn K (.ref C) "__setattr__"==some (some (.builtin "object.__setattr__"))
   &&o.fields.all (fun f=>W.findIn K (.ref C) f==some none)&&(!(o.meths.any fun q=>q.1==("__init__":Str))||(W.makesIn K C&&W.keepIn K (.ref C)))
   &&o.meths.all fun q=>match rs[q.2]? with
      | some r=>(match atN K r.name with
        | some (some (.ref a))=>W.findIn K (.ref C) q.1==some (some (.ref a))&&W.isFn K (.ref a)&&W.keepIn K (.ref a)
        | _=>false)
      | none=>false
  | none=>false
noncomputable def Kz (K:W.Frag) (B:Tb) (rs:List Row):List (Option (bw×Bool))×List (Option (Option δ))×List Bool×List Bool×List Bool:=
 (rs.map fun r=>zbn K r.name,B.bare.map fun x=>W.nsIn K ϊ x,B.consts.map fun p=>Uu K rs p.1 p.2,B.cls.map fun p=>zdj K B.cls p,B.obs.map fun o=>obOk K rs o)
noncomputable def Kg (B:Tb) (rs:List Row):List (Option (bw×Bool))×List (Option (Option δ))×List Bool×List Bool×List Bool:=
 (rs.map fun r=>some (W.fnOf (nmOf r.name) r.name (xF r.st) (yH r.st) (zU r.st) .none .none .none .none none .none .none,true),B.bare.map fun _=>some none,B.consts.map fun _=>true,B.cls.map fun _=>true,B.obs.map fun _=>true)
noncomputable def drOf (s:Stmt):DefRec:=match s with
 | .FunctionDef n a b _ _ _ sc _ _ p=>⟨n,a,b,sc,p⟩
 | _=>⟨"",xF s,[],zU s,⟨0,0,0,0⟩⟩
end EV
local macro_rules | `(⇑$n:num) => `(EV.E.var $n)
local macro_rules | `(↥$n:num) => `(EV.E.con (EV.D.int $n)) | `(↥$s:str) => `(EV.E.con (EV.D.str $s))
namespace Q05
open PySem PySem.Spec PyProof.Rows L2 EV
def top (i:Nat):Stmt:=Ϫ.main.body.getD i (.Pass ⟨0,0,0,0⟩)
noncomputable abbrev Z1:List C:=[.ret (.and (.bi (.isinst .int) [⇑0]) (.one (.not (.bi (.isinst .bool) [⇑0]))))]
noncomputable def Zt:EV.Row:=⟨"is_whole",top 4,["one"],["one"],⟨1,1,Z1⟩⟩
noncomputable abbrev qO:List C:=[.ret (.and (.call 0 [⇑0]) (.one (.chn .LtE .Lt ↥0 ⇑0 (.glo 0 (.int 1000000007)))))]
noncomputable def kh:EV.Row:=⟨"is_number",top 5,["one"],["one"],⟨1,1,qO⟩⟩
noncomputable abbrev Vh:List C:=[.ret (.and (.bi (.isinst .str) [⇑0]) (.one (.cmp .In ⇑0 (.glo 1 (.ktp [(.str "+"),(.str "-"),(.str "*"),(.str "<"),(.str "=")])))))]
noncomputable def X5:EV.Row:=⟨"is_sign",top 6,["one"],["one"],⟨1,1,Vh⟩⟩
noncomputable abbrev jk:List C:=[.ret (.call 4 [⇑0,⇑1,(.glo 2 (.int 3))])]
noncomputable def u6:EV.Row:=⟨"is_formula",top 7,["one","is_name"],["one","is_name"],⟨2,2,jk⟩⟩
noncomputable abbrev xf:List C:=[.ite (.or (.call 1 [⇑0]) (.one (.callv 1 [⇑0]))) [.ret (.con (.bl true))] [],.ite (.or (.cmp .Eq ⇑2 ↥0) (.or (.not (.bi (.isinst .tuple) [⇑0])) (.or (.cmp .NotEq (.bi .len [⇑0]) ↥3) (.one (.not (.call 2 [(.sub ⇑0 ↥0)])))))) [.ret (.con (.bl false))] [],.ret (.and (.call 4 [(.sub ⇑0 ↥1),⇑1,(.bin .Sub ⇑2 ↥1)]) (.one (.call 4 [(.sub ⇑0 ↥2),⇑1,(.bin .Sub ⇑2 ↥1)])))]
noncomputable def yV:EV.Row:=⟨"is_formula_within",top 8,["one","is_name","deeper"],["one","is_name","deeper"],⟨3,3,xf⟩⟩
noncomputable abbrev Vf:List C:=[.ite (.or (.not (.bi (.isinst .str) [⇑0])) (.one (.not (.chn .LtE .LtE ↥1 (.bi .len [⇑0]) (.glo 4 (.int 8)))))) [.ret (.con (.bl false))] [],.ret (.bi .all [(.comp (.one 0) [] (.seq ⇑0) [] (.cmp .In ⇑0 (.glo 3 (.str "abcdefghijklmnopqrstuvwxyz"))))])]
noncomputable def X3:EV.Row:=⟨"is_word",top 20,["one"],["one"],⟨1,1,Vf⟩⟩
noncomputable abbrev xP:List C:=[.ret (.or (.cmp .Is ⇑0 (.con .non)) (.one (.call 5 [⇑0])))]
noncomputable def xH:EV.Row:=⟨"is_word_or_none",top 21,["one"],["one"],⟨1,1,xP⟩⟩
noncomputable abbrev uA:List C:=[.ret (.and (.bi (.isinst .tuple) [⇑0]) (.one (.chn .LtE .LtE ⇑1 (.bi .len [⇑0]) ⇑2)))]
noncomputable def uf:EV.Row:=⟨"is_tuple_of",top 22,["one","least","most"],["one","least","most"],⟨3,3,uA⟩⟩
noncomputable abbrev qM:List C:=[.ret (.and (.bi (.isinst .tuple) [⇑0]) (.and (.cmp .Gt (.bi .len [⇑0]) ↥0) (.one (.bi (.isinst .str) [(.sub ⇑0 ↥0)]))))]
noncomputable def j8:EV.Row:=⟨"is_worded",top 23,["one"],["one"],⟨1,1,qM⟩⟩
noncomputable abbrev xQ:List C:=[.ret (.call 3 [⇑0,(.glo 13 (.fn 5))])]
noncomputable def xK:EV.Row:=⟨"is_name_formula",top 24,["one"],["one"],⟨1,1,xQ⟩⟩
noncomputable abbrev jj:List C:=[.ite (.not (.call 7 [⇑0,↥1,(.glo 5 (.int 6))])) [.ret (.con (.bl false))] [],.set (.one 1) (.dic false [] []),.forr (.one 2) (.seq ⇑0) [.ite (.or (.not (.call 11 [⇑2])) (.one (.cmp .In (.sub ⇑2 ↥0) ⇑1))) [.ret (.con (.bl false))] [],.stv 1 (.sub ⇑2 ↥0) (.bi .len [(.sub ⇑2 ↥1)])],.frz 1,.ret (.bi .all [(.comp (.one 0) [1] (.seq ⇑0) [] (.call 13 [⇑0,⇑1]))])]
noncomputable def u5:EV.Row:=⟨"is_program",top 25,["value"],["value","counts","errand"],⟨1,3,jj⟩⟩
noncomputable abbrev Vi:List C:=[.ret (.and (.call 7 [⇑0,↥3,↥3]) (.and (.call 5 [(.sub ⇑0 ↥0)]) (.one (.call 12 [(.sub ⇑0 ↥1)]))))]
noncomputable def X6:EV.Row:=⟨"is_head",top 26,["errand"],["errand"],⟨1,1,Vi⟩⟩
noncomputable abbrev qN:List C:=[.ite (.or (.not (.call 7 [⇑0,↥0,(.glo 6 (.int 3))])) (.one (.not (.bi .all [(.comp (.one 0) [] (.seq ⇑0) [] (.call 5 [⇑0]))])))) [.ret (.con (.bl false))] [],.ret (.cmp .Eq (.bi .lset [⇑0]) (.bi .len [⇑0]))]
noncomputable def j9:EV.Row:=⟨"is_params",top 27,["params"],["params"],⟨1,1,qN⟩⟩
noncomputable abbrev Vj:List C:=[.set (.one 2) (.call 14 [(.sub ⇑0 ↥2)]),.frz 2,.ite (.or (.cmp .Is ⇑2 (.con .non)) (.one (.not (.bi .all [(.comp (.one 0) [1] (.seq ⇑2) [] (.call 17 [⇑0,⇑1]))])))) [.ret (.con (.bl false))] [],.ite (.cmp .Gt (.bi .len [(.call 23 [⇑0])]) (.glo 9 (.int 6))) [.ret (.con (.bl false))] [],.frz 2,.ret (.not (.bi .any [(.comp (.one 0) [] (.seq ⇑2) [(.cmp .Eq (.sub ⇑0 ↥0) ↥"do")] (.call 20 [(.sub ⇑0 ↥2)]))]))]
noncomputable def X7:EV.Row:=⟨"is_body",top 28,["errand","counts"],["errand","counts","rows"],⟨2,3,Vj⟩⟩
noncomputable abbrev uz:List C:=[.set (.one 1) (.lst []),.set (.one 2) (.lst [(.tup [⇑0,↥1])]),.whl (.cmp .Gt (.bi .len [⇑2]) ↥0) [.popO (.one 3) 2,.ite (.not (.call 15 [(.sub ⇑3 ↥0),(.sub ⇑3 ↥1)])) [.ret (.con .non)] [],.ext 1 (.sub ⇑3 ↥0),.ite (.cmp .Gt (.bi .len [⇑1]) (.glo 8 (.int 24))) [.ret (.con .non)] [],.forr (.one 4) (.seq (.sub ⇑3 ↥0)) [.ext 2 (.comp (.one 0) [3] (.seq (.call 21 [⇑4])) [] (.tup [⇑0,(.bin .Add (.sub ⇑1 ↥1) ↥1)]))]],.ret ⇑1]
noncomputable def ue:EV.Row:=⟨"shaped_rows",top 29,["block"],["block","rows","waiting","pair","row"],⟨1,5,uz⟩⟩
noncomputable abbrev yx:List C:=[.set (.one 2) (.ite (.cmp .LtE ⇑1 (.glo 10 (.int 4))) (.glo 7 (.int 8)) ↥0),.ret (.and (.call 7 [⇑0,↥0,⇑2]) (.one (.bi .all [(.comp (.one 0) [] (.seq ⇑0) [] (.call 16 [⇑0]))])))]
noncomputable def xJ:EV.Row:=⟨"is_shaped_block",top 30,["block","deep"],["block","deep","most"],⟨2,3,yx⟩⟩
noncomputable abbrev wW:List C:=[.ret (.and (.call 8 [⇑0]) (.one (.cmp .Eq (.bi .len [⇑0]) (.mth .get2 (.glo 12 (.kdc [(("set":Str),(3:Int)),(("tell":Str),(2:Int)),(("give":Str),(2:Int)),(("fail":Str),(2:Int)),(("if":Str),(4:Int)),(("while":Str),(3:Int)),(("try":Str),(4:Int)),(("do":Str),(3:Int)),(("want":Str),(3:Int))])) [(.sub ⇑0 ↥0),↥0]))))]
noncomputable def wF:EV.Row:=⟨"is_shaped_row",top 31,["row"],["row"],⟨1,1,wW⟩⟩
noncomputable abbrev Ka:List C:=[.ite (.cmp .Eq (.sub ⇑0 ↥0) ↥"set") [.ret (.and (.call 5 [(.sub ⇑0 ↥1)]) (.one (.call 9 [(.sub ⇑0 ↥2)])))] [],.ite (.cmp .Eq (.sub ⇑0 ↥0) ↥"want") [.ret (.call 18 [(.sub ⇑0 ↥1),(.sub ⇑0 ↥2),⇑1,(.glo 14 (.fn 6)),(.glo 15 (.fn 9))])] [],.ite (.cmp .Eq (.sub ⇑0 ↥0) ↥"try") [.ret (.call 6 [(.sub ⇑0 ↥2)])] [],.ret (.or (.cmp .Eq (.sub ⇑0 ↥0) ↥"do") (.one (.call 9 [(.sub ⇑0 ↥1)])))]
noncomputable def Jt:EV.Row:=⟨"is_row",top 32,["row","counts"],["row","counts"],⟨2,2,Ka⟩⟩
noncomputable abbrev Vg:List C:=[.ite (.not (.call 7 [⇑1,↥1,(.glo 11 (.int 4))])) [.ret (.con (.bl false))] [],.ite (.or (.not (.call 0 [⇑0])) (.one (.not (.chn .LtE .LtE ↥1 ⇑0 (.bi .len [⇑1]))))) [.ret (.con (.bl false))] [],.ret (.bi .all [(.comp (.one 0) [2,3,4] (.seq ⇑1) [] (.call 19 [⇑0,⇑1,⇑2,⇑3]))])]
noncomputable def X4:EV.Row:=⟨"is_want",top 33,["least","branches","counts","is_target","is_one"],["least","branches","counts","is_target","is_one"],⟨5,5,Vg⟩⟩
noncomputable abbrev qP:List C:=[.ite (.or (.not (.call 7 [⇑0,↥4,↥4])) (.or (.not (.callv 2 [(.sub ⇑0 ↥0)])) (.one (.not (.bi (.isinst .str) [(.sub ⇑0 ↥1)]))))) [.ret (.con (.bl false))] [],.ite (.not (.call 5 [(.sub ⇑0 ↥2)])) [.ret (.con (.bl false))] [],.ite (.cmp .Eq (.sub ⇑0 ↥1) ↥"ask") [.ret (.callv 3 [(.sub ⇑0 ↥3)])] [],.ite (.or (.cmp .NotEq (.sub ⇑0 ↥1) ↥"call") (.one (.cmp .NotIn (.sub ⇑0 ↥2) ⇑1))) [.ret (.con (.bl false))] [],.set (.one 4) (.sub ⇑1 (.sub ⇑0 ↥2)),.ret (.and (.call 7 [(.sub ⇑0 ↥3),⇑4,⇑4]) (.one (.bi .all [(.comp (.one 0) [3] (.seq (.sub ⇑0 ↥3)) [] (.callv 1 [⇑0]))])))]
noncomputable def kj:EV.Row:=⟨"is_branch",top 34,["branch","counts","is_target","is_one"],["branch","counts","is_target","is_one","count"],⟨4,5,qP⟩⟩
noncomputable abbrev zbL:List C:=[.ret (.bi .any [(.comp (.one 0) [] (.seq (.call 22 [⇑0])) [] (.cmp .Eq (.sub ⇑0 ↥0) ↥"give"))])]
noncomputable def zak:EV.Row:=⟨"gives",top 35,["block"],["block"],⟨1,1,zbL⟩⟩
noncomputable abbrev qQ:List C:=[.ite (.cmp .Eq (.sub ⇑0 ↥0) ↥"if") [.ret (.tup [(.sub ⇑0 ↥2),(.sub ⇑0 ↥3)])] [],.ite (.cmp .Eq (.sub ⇑0 ↥0) ↥"while") [.ret (.tup [(.sub ⇑0 ↥2)])] [],.ite (.cmp .Eq (.sub ⇑0 ↥0) ↥"try") [.ret (.tup [(.sub ⇑0 ↥1),(.sub ⇑0 ↥3)])] [],.ite (.cmp .Eq (.sub ⇑0 ↥0) ↥"do") [.ret (.tup [(.sub ⇑0 ↥1),(.sub ⇑0 ↥2)])] [],.ret (.tup [])]
noncomputable def km:EV.Row:=⟨"blocks_of",top 36,["row"],["row"],⟨1,1,qQ⟩⟩
noncomputable abbrev Ve:List C:=[.set (.one 1) (.lst []),.forr (.one 2) (.seq ⇑0) [.app 1 ⇑2,.forr (.one 3) (.seq (.call 21 [⇑2])) [.ext 1 (.call 22 [⇑3])]],.ret ⇑1]
noncomputable def XX:EV.Row:=⟨"rows_of",top 37,["block"],["block","rows","row","inner"],⟨1,4,Ve⟩⟩
noncomputable abbrev Z0:List C:=[.set (.one 1) (.bi .list [(.sub ⇑0 ↥1)]),.forr (.one 2) (.seq (.call 22 [(.sub ⇑0 ↥2)])) [.ext 1 (.call 24 [⇑2]),.forr (.one 3) (.seq (.call 25 [⇑2])) [.ext 1 (.call 26 [⇑3])]],.frz 1,.ret (.bi .tuple [(.bi .sset [⇑1])])]
noncomputable def Zr:EV.Row:=⟨"names_of",top 38,["errand"],["errand","names","row","one"],⟨1,4,Z0⟩⟩
noncomputable abbrev qL:List C:=[.ite (.cmp .Eq (.sub ⇑0 ↥0) ↥"set") [.ret (.lst [(.sub ⇑0 ↥1)])] [],.ite (.cmp .Eq (.sub ⇑0 ↥0) ↥"try") [.ret (.comp (.one 0) [] (.seq (.lst [(.sub ⇑0 ↥2)])) [(.cmp .IsNot ⇑0 (.con .non))] ⇑0)] [],.ite (.cmp .Eq (.sub ⇑0 ↥0) ↥"want") [.ret (.comp (.one 0) [] (.seq (.sub ⇑0 ↥2)) [(.cmp .IsNot (.sub ⇑0 ↥0) (.con .non))] (.sub ⇑0 ↥0))] [],.ret (.lst [])]
noncomputable def j7:EV.Row:=⟨"set_names",top 39,["row"],["row"],⟨1,1,qL⟩⟩
noncomputable abbrev uB:List C:=[.ite (.cmp .Eq (.sub ⇑0 ↥0) ↥"set") [.ret (.lst [(.sub ⇑0 ↥2)])] [],.ite (.cmp .In (.sub ⇑0 ↥0) (.tup [↥"tell",↥"give",↥"fail",↥"if",↥"while"])) [.ret (.lst [(.sub ⇑0 ↥1)])] [],.set (.one 1) (.lst []),.ite (.cmp .Eq (.sub ⇑0 ↥0) ↥"want") [.forr (.one 2) (.seq (.sub ⇑0 ↥2)) [.ext 1 (.ite (.cmp .Eq (.sub ⇑2 ↥1) ↥"ask") (.lst [(.sub ⇑2 ↥3)]) (.sub ⇑2 ↥3))]] [],.ret ⇑1]
noncomputable def ug:EV.Row:=⟨"formulas_of",top 40,["row"],["row","formulas","branch"],⟨1,3,uB⟩⟩
noncomputable abbrev wX:List C:=[.ite (.bi (.isinst .str) [⇑0]) [.ret (.lst [⇑0])] [],.ite (.bi (.isinst .tuple) [⇑0]) [.ret (.bin .Add (.call 26 [(.sub ⇑0 ↥1)]) (.call 26 [(.sub ⇑0 ↥2)]))] [],.ret (.lst [])]
noncomputable def wG:EV.Row:=⟨"formula_names",top 41,["one"],["one"],⟨1,1,wX⟩⟩
noncomputable abbrev wY:List C:=[.set (.one 2) (.lst []),.set (.one 3) (.bi .abs [⇑0]),.ite (.cmp .GtE ⇑3 (.bin .Pow ↥10 ↥18)) [.whl (.and (.cmp .Gt ⇑3 ↥0) (.one (.cmp .Lt (.bi .len [⇑2]) ⇑1))) [.app 2 (.bin .Mod ⇑3 (.bin .Pow ↥10 ↥6)),.set (.one 3) (.bin .FloorDiv ⇑3 (.bin .Pow ↥10 ↥6))]] [],.forr (.one 4) (.rng (some (.bi .len [⇑2])) ⇑1) [.set (.one 5) (.bin .Mod (.bin .Add (.bin .Add (.bin .Add (.bin .Mult (.bin .Mod ⇑0 ↥1000000007) ↥48271) (.bin .Mult (.bin .Mult ↥977 ⇑4) ⇑4)) (.bin .Mult ↥131 ⇑4)) ↥1) ↥2147483647),.set (.one 5) (.bin .Mod (.bin .Mult ⇑5 ⇑5) ↥2147483647),.app 2 (.bin .Mod (.bin .FloorDiv (.bin .Mod (.bin .Mult (.bin .Add ⇑5 (.bin .Mult ↥40692 (.bin .Add ⇑4 ↥3))) ↥69621) ↥2147483629) ↥8) (.bin .Pow ↥10 ↥6))],.ret ⇑2]
noncomputable def jc:EV.Row:=⟨"_law_draws",top 43,["cell","many"],["cell","many","found","left","k","one"],⟨2,6,wY⟩⟩
noncomputable abbrev qU:List C:=[.ret (.bin .Mod (.bin .FloorDiv (.sub ⇑0 (.bin .Mod ⇑1 (.bi .len [⇑0]))) ↥7) ⇑2)]
noncomputable def kJ:EV.Row:=⟨"_law_draw",top 44,["draws","at","many"],["draws","at","many"],⟨3,3,qU⟩⟩
noncomputable abbrev uD:List C:=[.set (.one 2) (.bi .len [⇑0]),.set (.one 3) (.bin .Mult (.sub ⇑0 (.bin .Mod ⇑1 ⇑2)) (.bin .Pow ↥10 ↥6)),.set (.one 3) (.bin .Add ⇑3 (.sub ⇑0 (.bin .Mod (.bin .Add ⇑1 ↥1) ⇑2))),.set (.one 4) (.bin .Mod (.bin .FloorDiv (.sub ⇑0 (.bin .Mod (.bin .Add ⇑1 ↥2) ⇑2)) ↥7) ↥3),.ret (.sub (.lst [(.bin .Mod ⇑3 ↥5),(.bin .Sub ↥1000000006 (.bin .Mod ⇑3 ↥3)),(.bin .Mod ⇑3 ↥1000000007)]) ⇑4)]
noncomputable def ul:EV.Row:=⟨"_law_number",top 45,["draws","at"],["draws","at","many","far","way"],⟨2,5,uD⟩⟩
noncomputable abbrev Z2:List C:=[.ite (.or (.cmp .Eq ⇑3 ↥0) (.one (.cmp .Eq (.call 28 [⇑0,⇑1,↥4]) ↥0))) [.ite (.and (.cmp .NotEq ⇑2 (.lst [])) (.one (.cmp .Eq (.call 28 [⇑0,(.bin .Add ⇑1 ↥1),↥2]) ↥0))) [.ret (.tup [(.sub ⇑2 (.call 28 [⇑0,(.bin .Add ⇑1 ↥2),(.bi .len [⇑2])])),(.bin .Add ⇑1 ↥5)])] [],.ret (.tup [(.call 29 [⇑0,(.bin .Add ⇑1 ↥2)]),(.bin .Add ⇑1 ↥5)])] [],.set (.tup [4,5]) (.call 30 [⇑0,(.bin .Add ⇑1 ↥2),⇑2,(.bin .Sub ⇑3 ↥1)]),.set (.tup [6,5]) (.call 30 [⇑0,⇑5,⇑2,(.bin .Sub ⇑3 ↥1)]),.ret (.tup [(.tup [(.sub ↥"+-*<=" (.call 28 [⇑0,(.bin .Add ⇑1 ↥1),↥5])),⇑4,⇑6]),⇑5])]
noncomputable def Zu:EV.Row:=⟨"_law_sum",top 46,["draws","at","names","deep"],["draws","at","names","deep","one","then","other"],⟨4,7,Z2⟩⟩
noncomputable abbrev vU:List C:=[.ret (.call 30 [⇑0,(.bin .Add ⇑1 ↥1),⇑2,(.sub (.lst [↥0,↥1,↥1,↥3]) (.call 28 [⇑0,⇑1,↥4]))])]
noncomputable def vM:EV.Row:=⟨"_law_any_sum",top 47,["draws","at","names"],["draws","at","names"],⟨3,3,vU⟩⟩
noncomputable abbrev uF:List C:=[.set (.one 4) (.sub (.bin .Add (.lst [(.con .non)]) ⇑2) (.call 28 [⇑0,⇑1,(.bin .Add ↥1 (.bi .len [⇑2]))])),.ite (.or (.cmp .Eq ⇑3 (.lst [])) (.one (.cmp .Eq (.call 28 [⇑0,(.bin .Add ⇑1 ↥1),↥2]) ↥0))) [.set (.tup [5,6]) (.call 31 [⇑0,(.bin .Add ⇑1 ↥3),⇑2]),.ret (.tup [(.tup [⇑4,↥"ask",(.sub (.lst [↥"bank",↥"b",↥"ask",↥"skyskysk"]) (.call 28 [⇑0,(.bin .Add ⇑1 ↥2),↥4])),⇑5]),⇑6])] [],.set (.one 7) (.sub ⇑3 (.call 28 [⇑0,(.bin .Add ⇑1 ↥2),(.bi .len [⇑3])])),.set (.one 6) (.bin .Add ⇑1 ↥3),.set (.one 8) (.lst []),.forr (.one 9) (.rng none (.sub ⇑7 ↥1)) [.set (.tup [5,6]) (.call 31 [⇑0,⇑6,⇑2]),.app 8 ⇑5],.ret (.tup [(.tup [⇑4,↥"call",(.sub ⇑7 ↥0),(.bi .tuple [⇑8])]),⇑6])]
noncomputable def uo:EV.Row:=⟨"_law_branch",top 48,["draws","at","names","heads"],["draws","at","names","heads","name","one","then","head","given","k"],⟨4,10,uF⟩⟩
noncomputable abbrev qR:List C:=[.set (.one 4) (.lst []),.set (.one 5) (.bin .Add ⇑1 ↥2),.forr (.one 6) (.rng none (.bin .Add ↥1 (.call 28 [⇑0,⇑1,↥4]))) [.set (.tup [7,5]) (.call 32 [⇑0,⇑5,⇑2,⇑3]),.app 4 ⇑7],.ret (.tup [(.tup [↥"want",(.bin .Add ↥1 (.call 28 [⇑0,(.bin .Add ⇑1 ↥1),(.bi .len [⇑4])])),(.bi .tuple [⇑4])]),⇑5])]
noncomputable def kE:EV.Row:=⟨"_law_want",top 49,["draws","at","names","heads"],["draws","at","names","heads","branches","then","k","branch"],⟨4,8,qR⟩⟩
noncomputable abbrev Z3:List C:=[.set (.one 7) (.call 28 [⇑0,⇑1,↥10]),.ite (.cmp .Gt ⇑7 ↥7) [.set (.tup [8,9]) (.call 33 [⇑0,(.bin .Add ⇑1 ↥2),⇑5,⇑6]),.ret (.tup [⇑8,⇑9,⇑3])] [],.set (.one 10) (.sub ⇑5 (.call 28 [⇑0,(.bin .Add ⇑1 ↥1),(.bi .len [⇑5])])),.set (.tup [11,9]) (.call 31 [⇑0,(.bin .Add ⇑1 ↥2),⇑5]),.ite (.cmp .Eq ⇑7 ↥0) [.ret (.tup [(.tup [↥"set",⇑10,⇑11]),⇑9,⇑3])] [],.ite (.cmp .Lt ⇑7 ↥4) [.ret (.tup [(.tup [(.sub (.lst [↥"tell",(.sub (.lst [↥"give",↥"tell"]) (.bi .int [⇑4])),↥"fail"]) (.bin .Sub ⇑7 ↥1)),⇑11]),⇑9,⇑3])] [],.set (.tup [12,9,3]) (.call 35 [⇑0,⇑9,(.bin .Add ⇑2 ↥1),⇑3,⇑4,⇑5,⇑6]),.ite (.cmp .Eq ⇑7 ↥4) [.ret (.tup [(.tup [↥"while",⇑11,⇑12]),⇑9,⇑3])] [],.set (.tup [13,9,3]) (.call 35 [⇑0,⇑9,(.bin .Add ⇑2 ↥1),⇑3,(.or ⇑4 (.one (.cmp .Eq ⇑7 ↥7))),⇑5,⇑6]),.ite (.cmp .Eq ⇑7 ↥5) [.ret (.tup [(.tup [↥"if",⇑11,⇑12,⇑13]),⇑9,⇑3])] [],.ite (.cmp .Eq ⇑7 ↥6) [.ret (.tup [(.tup [↥"try",⇑12,(.sub (.lst [⇑10,(.con .non)]) (.bin .FloorDiv (.call 28 [⇑0,⇑1,↥20]) ↥10)),⇑13]),⇑9,⇑3])] [],.ret (.tup [(.tup [↥"do",⇑12,⇑13]),⇑9,⇑3])]
noncomputable def Zv:EV.Row:=⟨"_law_row",top 50,["draws","at","deep","left","undoing","names","heads"],["draws","at","deep","left","undoing","names","heads","way","row","then","name","one","block","other"],⟨7,14,Z3⟩⟩
noncomputable abbrev jm:List C:=[.set (.one 7) (.lst []),.set (.one 8) (.sub (.lst [↥0,↥1,↥2,↥3,↥8]) (.call 28 [⇑0,⇑1,↥5])),.set (.one 9) (.bin .Add ⇑1 ↥1),.forr (.one 10) (.rng none ⇑8) [.ite (.and (.cmp .Gt ⇑3 ↥0) (.one (.cmp .Lt ⇑2 ↥5))) [.set (.tup [11,9,3]) (.call 34 [⇑0,⇑9,⇑2,(.bin .Sub ⇑3 ↥1),⇑4,⇑5,⇑6]),.app 7 ⇑11] []],.ret (.tup [(.bi .tuple [⇑7]),⇑9,⇑3])]
noncomputable def jd:EV.Row:=⟨"_law_block",top 51,["draws","at","deep","left","undoing","names","heads"],["draws","at","deep","left","undoing","names","heads","rows","many","then","k","row"],⟨7,12,jm⟩⟩
noncomputable abbrev uE:List C:=[.set (.tup [7,8,9]) (.call 35 [⇑0,⇑1,↥1,⇑6,(.con (.bl false)),⇑4,⇑5]),.ret (.tup [(.tup [⇑2,(.bi .tuple [⇑3]),⇑7]),⇑8])]
noncomputable def um:EV.Row:=⟨"_law_errand",top 52,["draws","at","name","params","names","heads","most"],["draws","at","name","params","names","heads","most","block","then","left"],⟨7,10,uE⟩⟩
noncomputable abbrev jl:List C:=[.set (.one 2) (.sub (.lst [(.lst [↥"main",↥"a",↥"ab"]),(.lst [↥"end",↥"main",↥"mainpart"]),(.lst [↥"z",↥"yy",↥"errand"])]) (.call 28 [⇑0,⇑1,↥3])),.ret (.comp (.tup [0,1]) [0,1] (.enum (.slc ⇑2 none (some (.bin .Add ↥1 (.call 28 [⇑0,(.bin .Add ⇑1 ↥1),↥3]))))) [] (.tup [⇑1,(.call 28 [⇑2,(.bin .Add (.bin .Add ⇑3 ↥2) ⇑0),↥4])]))]
noncomputable def u9:EV.Row:=⟨"_law_heads",top 53,["draws","at"],["draws","at","names"],⟨2,3,jl⟩⟩
noncomputable abbrev vQ:List C:=[.set (.one 3) (.call 37 [⇑0,↥0]),.set (.one 4) (.lst [↥"x",↥"xy",↥"set",↥"abcdefgh",↥"end",↥"q"]),.set (.one 5) (.call 28 [⇑0,↥5,↥6]),.set (.one 6) (.slc (.bin .Add (.slc ⇑4 (some ⇑5) none) (.slc ⇑4 none (some ⇑5))) none (some ⇑2)),.set (.one 7) ↥6,.set (.one 8) (.lst []),.frz 3,.forr (.tup [9,10]) (.seq ⇑3) [.frz 3,.frz 6,.set (.tup [11,7]) (.call 36 [⇑0,⇑7,⇑9,(.slc ⇑6 none (some ⇑10)),⇑6,⇑3,⇑1]),.app 8 ⇑11],.ret (.bi .tuple [⇑8])]
noncomputable def vK:EV.Row:=⟨"_law_program",top 54,["draws","most","many"],["draws","most","many","heads","menu","turn","names","then","errands","name","count","errand"],⟨3,12,vQ⟩⟩
noncomputable abbrev ww:List C:=[.set (.one 2) (.call 29 [⇑0,(.bin .Add ⇑1 ↥1)]),.set (.one 3) (.lst [(.con (.bl true)),(.con (.bl false)),(.bin .Sub (.neg ↥1) ⇑2),(.bin .Add ↥1000000007 ⇑2),↥"",↥"X",↥"abcdefghi",↥"x1",(.con .non),(.tup []),(.tup [↥"+",↥1]),(.tup [↥"/",↥1,↥2])]),.set (.one 3) (.bin .Add ⇑3 (.lst [(.lst [↥"+",↥1,↥2]),(.tup [↥"+",↥1,↥2,↥3]),(.tup [↥1,↥2,↥3]),(.tup [↥"+-",↥1,↥2]),(.tup [↥"",↥1,↥2]),(.tup [↥"slot",↥0]),(.tup [↥"+",↥1,(.con .non)])])),.set (.one 3) (.bin .Add ⇑3 (.lst [(.tup [↥"+",(.con (.bl true)),↥1]),(.tup [↥"-",↥1,(.tup [↥"*",↥2,(.con (.bl false))])])])),.set (.one 3) (.bin .Add ⇑3 (.lst [(.tup [↥"*",↥"x y",↥1]),(.tup [↥"+",↥1,(.tup [↥"=",↥1,(.tup [↥"*",↥2,(.tup [↥"-",↥1,↥1])])])]),(.tup [↥"<",(.tup [↥"-",(.tup [↥"-",(.tup [↥"-",↥1,↥1]),↥1]),↥1]),↥1])])),.ret (.sub ⇑3 (.call 28 [⇑0,⇑1,(.bi .len [⇑3])]))]
noncomputable def wg:EV.Row:=⟨"_law_bad_worth",top 55,["draws","at"],["draws","at","far","bad"],⟨2,4,ww⟩⟩
noncomputable abbrev wZ:List C:=[.set (.one 2) (.lst [↥"",↥"abcdefghi",↥"A",↥"xA",↥"x1",↥"x ",↥" x",↥"x.y",↥5,(.con (.bl true)),(.tup [↥"x"]),(.lst [↥"x"])]),.ret (.sub ⇑2 (.call 28 [⇑0,⇑1,(.bi .len [⇑2])]))]
noncomputable def wI:EV.Row:=⟨"_law_bad_name",top 56,["draws","at"],["draws","at","bad"],⟨2,3,wZ⟩⟩
noncomputable abbrev wz:List C:=[.set (.one 2) (.bi .tuple [(.comp (.one 0) [] (.rng none ↥9) [] (.tup [↥"tell",⇑0]))]),.set (.one 3) (.lst [(.lst []),(.lst [(.tup [↥"tell",↥1])]),(.con .non),↥"tell",↥0,(.tup [↥"tell",↥1]),(.tup [↥5]),(.tup [(.tup [])]),(.tup [(.con .non)]),(.tup [(.tup [↥"tell"])]),⇑2,(.tup [↥""])]),.ret (.sub ⇑3 (.call 28 [⇑0,⇑1,(.bi .len [⇑3])]))]
noncomputable def wu:EV.Row:=⟨"_law_bad_block",top 57,["draws","at"],["draws","at","tells","bad"],⟨2,4,wz⟩⟩
noncomputable abbrev yr:List C:=[.set (.one 3) (.tup [(.con .non),↥"ask",↥"b",↥1]),.set (.tup [4,5]) (.sub ⇑2 (.call 28 [⇑0,(.bin .Add ⇑1 ↥1),(.bi .len [⇑2])])),.set (.one 6) (.bi .tuple [(.comp (.one 0) [] (.rng none ⇑5) [] ↥1)]),.set (.one 7) (.call 39 [⇑0,(.bin .Add ⇑1 ↥2)]),.set (.one 8) (.call 40 [⇑0,(.bin .Add ⇑1 ↥5)]),.set (.one 9) (.lst [(.tup [⇑8,↥"ask",↥"b",↥1]),(.tup [↥"x",↥"ask",⇑8,↥1]),(.tup [↥"x",↥"ask",↥"b",⇑7]),(.tup [↥"x",↥"ask",(.con .non),↥1])]),.set (.one 9) (.bin .Add ⇑9 (.lst [(.tup [↥"x",↥"asks",↥"b",↥1]),(.tup [↥"x",(.con .non),↥"b",↥1]),(.tup [↥"x",↥"ask",↥"b"]),(.tup [↥"x",↥"ask",↥"b",↥1,↥1]),(.con .non),(.lst []),(.tup [])])),.set (.one 9) (.bin .Add ⇑9 (.lst [(.lst [↥"x",↥"ask",↥"b",↥1]),(.tup [(.con .non),↥"call",⇑4,(.bin .Add ⇑6 (.tup [↥1]))]),(.tup [(.con .non),↥"call",⇑4,(.bi .list [⇑6])])])),.set (.one 9) (.bin .Add ⇑9 (.lst [(.tup [(.con .non),↥"call",⇑4,(.con .non)]),(.tup [(.con .non),↥"call",↥"nobody",(.tup [])]),(.tup [(.con .non),↥"call",⇑8,(.tup [])])])),.app 9 (.tup [(.con .non),↥"call",(.bin .Add ⇑4 ↥"q"),⇑6]),.set (.one 9) (.bin .Add ⇑9 (.lst [(.tup [(.con .non),↥"call",⇑4,(.bin .Add (.slc ⇑6 (some ↥1) none) (.tup [⇑7]))]),(.tup [(.con .non),↥"call",⇑4,↥1])])),.ite (.cmp .Gt ⇑5 ↥0) [.app 9 (.tup [(.con .non),↥"call",⇑4,(.slc ⇑6 (some ↥1) none)])] [],.set (.one 10) (.lst [(.tup [↥"want",↥0,(.tup [⇑3])]),(.tup [↥"want",↥2,(.tup [⇑3])]),(.tup [↥"want",(.con (.bl true)),(.tup [⇑3])]),(.tup [↥"want",(.con .non),(.tup [⇑3])])]),.set (.one 10) (.bin .Add ⇑10 (.lst [(.tup [↥"want",(.neg ↥1),(.tup [⇑3])]),(.tup [↥"want",↥5,(.tup [⇑3,⇑3,⇑3,⇑3])]),(.tup [↥"want",↥1,(.tup [])]),(.tup [↥"want",↥0,(.tup [])])])),.set (.one 10) (.bin .Add ⇑10 (.lst [(.tup [↥"want",↥1,(.tup [⇑3,⇑3,⇑3,⇑3,⇑3])]),(.tup [↥"want",↥1,(.lst [⇑3])]),(.tup [↥"want",↥1,⇑3]),(.tup [↥"want",↥1,(.con .non)])])),.ite (.cmp .Eq (.call 28 [⇑0,⇑1,↥3]) ↥0) [.ret (.sub ⇑10 (.call 28 [⇑0,(.bin .Add ⇑1 ↥7),(.bi .len [⇑10])]))] [],.set (.one 11) (.comp (.one 0) [3] (.rng none (.call 28 [⇑0,(.bin .Add ⇑1 ↥8),↥4])) [] ⇑1),.lin 11 [(.call 28 [⇑0,(.bin .Add ⇑1 ↥9),(.bin .Add (.bi .len [⇑11]) ↥1)]),(.sub ⇑9 (.call 28 [⇑0,(.bin .Add ⇑1 ↥10),(.bi .len [⇑9])]))],.ret (.tup [↥"want",↥1,(.bi .tuple [⇑11])])]
noncomputable def wH:EV.Row:=⟨"_law_bad_want",top 58,["draws","at","heads"],["draws","at","heads","ask","name","many","given","bad_sum","bad_name","bad","counts","branches"],⟨3,12,yr⟩⟩
noncomputable abbrev vf:List C:=[.set (.one 2) (.lst [(.tup [↥"set",↥"x"]),(.tup [↥"set",↥"x",↥1,↥1]),(.tup [↥"tell"]),(.tup [↥"tell",↥1,↥1]),(.tup [↥"give"]),(.tup [↥"fail",↥1,(.tup [])]),(.tup [↥"if",↥1,(.tup [])])]),.set (.one 2) (.bin .Add ⇑2 (.lst [(.tup [↥"if",↥1,(.tup []),(.tup []),(.tup [])]),(.tup [↥"while",↥1]),(.tup [↥"while",↥1,(.tup []),(.tup [])]),(.tup [↥"try",(.tup []),(.con .non)]),(.tup [↥"try",(.tup []),(.tup [])])])),.set (.one 2) (.bin .Add ⇑2 (.lst [(.tup [↥"do",(.tup [])]),(.tup [↥"do",(.tup []),(.tup []),(.tup [])]),(.tup [↥"want",↥1]),(.tup [↥"tells",↥1]),(.tup [↥"",↥1]),(.tup [↥"Tell",↥1]),(.tup [(.con .non),↥1]),(.tup [↥3,↥1])])),.set (.one 2) (.bin .Add ⇑2 (.lst [(.tup [(.tup [↥"tell"]),↥1]),(.tup [(.lst [↥"tell"]),↥1]),(.tup []),(.lst []),(.lst [↥"tell",↥1]),↥"tell",(.con .non),↥5,(.con (.bl true))])),.set (.one 2) (.bin .Add ⇑2 (.lst [(.tup [↥"undo",(.tup []),(.tup [])]),(.tup [↥"put",↥0,↥1])])),.ret (.sub ⇑2 (.call 28 [⇑0,⇑1,(.bi .len [⇑2])]))]
noncomputable def wJ:EV.Row:=⟨"_law_bad_form",top 59,["draws","at"],["draws","at","bad"],⟨2,3,vf⟩⟩
noncomputable abbrev wy:List C:=[.set (.one 2) (.tup [(.tup [↥"tell",↥1]),(.tup [↥"give",↥1])]),.set (.one 3) (.lst [(.tup [↥"do",(.tup []),⇑2]),(.tup [↥"do",(.tup []),(.tup [(.tup [↥"if",↥1,(.tup []),⇑2])])]),(.tup [↥"do",(.tup []),(.tup [(.tup [↥"do",⇑2,(.tup [])])])])]),.set (.one 3) (.bin .Add ⇑3 (.lst [(.tup [↥"do",(.tup []),(.tup [(.tup [↥"try",(.tup []),(.con .non),(.tup [(.tup [↥"while",↥0,⇑2])])])])]),(.tup [↥"do",(.tup []),(.tup [(.tup [↥"do",(.tup []),⇑2])])])])),.set (.one 4) (.tup [(.tup [↥"tell",↥1])]),.forr (.one 5) (.rng none ↥4) [.set (.one 4) (.tup [(.sub (.lst [(.tup [↥"while",↥0,⇑4]),(.tup [↥"if",↥0,(.tup []),⇑4]),(.tup [↥"try",⇑4,(.con .non),(.tup [])]),(.tup [↥"do",⇑4,(.tup [])])]) (.call 28 [⇑0,(.bin .Add ⇑1 ⇑5),↥4]))])],.app 3 (.sub ⇑4 ↥0),.ret (.sub ⇑3 (.call 28 [⇑0,(.bin .Add ⇑1 ↥5),(.bi .len [⇑3])]))]
noncomputable def wj:EV.Row:=⟨"_law_bad_place",top 60,["draws","at"],["draws","at","give","bad","five","k"],⟨2,6,wy⟩⟩
noncomputable abbrev vR:List C:=[.set (.one 3) (.call 28 [⇑0,⇑1,↥10]),.ite (.cmp .Eq ⇑3 ↥0) [.ret (.call 42 [⇑0,(.bin .Add ⇑1 ↥1),⇑2])] [],.ite (.cmp .Eq ⇑3 ↥1) [.ret (.call 43 [⇑0,(.bin .Add ⇑1 ↥1)])] [],.ite (.cmp .Eq ⇑3 ↥2) [.ret (.call 44 [⇑0,(.bin .Add ⇑1 ↥1)])] [],.set (.one 4) (.call 39 [⇑0,(.bin .Add ⇑1 ↥1)]),.set (.one 5) (.call 40 [⇑0,(.bin .Add ⇑1 ↥4)]),.set (.one 6) (.call 41 [⇑0,(.bin .Add ⇑1 ↥5)]),.set (.one 7) (.lst [(.tup [↥"set",↥"x",⇑4]),(.tup [↥"tell",⇑4]),(.tup [↥"fail",⇑4]),(.tup [↥"if",⇑4,(.tup []),(.tup [])])]),.app 7 (.tup [↥"while",⇑4,(.tup [])]),.set (.one 8) (.lst [(.tup [↥"set",⇑5,↥1]),(.tup [↥"set",(.con .non),↥1]),(.tup [↥"try",(.tup []),⇑5,(.tup [])]),(.tup [↥"try",(.tup [(.tup [↥"tell",↥1])]),⇑5,(.tup [])])]),.set (.one 9) (.lst [(.tup [↥"if",↥1,⇑6,(.tup [])]),(.tup [↥"if",↥1,(.tup []),⇑6]),(.tup [↥"while",↥1,⇑6]),(.tup [↥"try",⇑6,(.con .non),(.tup [])])]),.set (.one 9) (.bin .Add ⇑9 (.lst [(.tup [↥"try",(.tup []),(.con .non),⇑6]),(.tup [↥"do",⇑6,(.tup [])]),(.tup [↥"do",(.tup []),⇑6])])),.frz 7,.frz 8,.frz 9,.set (.one 10) (.sub (.lst [⇑7,⇑8,⇑9]) (.bin .Mod ⇑3 ↥3)),.ret (.sub ⇑10 (.call 28 [⇑0,(.bin .Add ⇑1 ↥6),(.bi .len [⇑10])]))]
noncomputable def vL:EV.Row:=⟨"_law_bad_row",top 61,["draws","at","heads"],["draws","at","heads","way","bad_sum","bad_name","bad_block","sums","names","blocks","some"],⟨3,11,vR⟩⟩
noncomputable abbrev uW:List C:=[.set (.one 4) (.call 28 [⇑0,⇑1,↥6]),.ite (.cmp .Gt ⇑4 ↥1) [.set (.one 3) (.sub (.lst [(.tup [↥"if",↥1,(.tup [⇑3]),(.tup [])]),(.tup [↥"try",(.tup []),(.con .non),(.tup [⇑3])]),(.tup [↥"do",(.tup [⇑3]),(.tup [])]),(.tup [↥"while",↥0,(.tup [⇑3])])]) (.bin .Sub ⇑4 ↥2))] [],.set (.one 5) (.call 28 [⇑0,(.bin .Add ⇑1 ↥1),(.bin .Add (.bi .len [⇑2]) ↥1)]),.ret (.bin .Add (.bin .Add (.slc ⇑2 none (some ⇑5)) (.tup [⇑3])) (.slc ⇑2 (some ⇑5) none))]
noncomputable def Zw:EV.Row:=⟨"_law_put",top 62,["draws","at","block","row"],["draws","at","block","row","way","spot"],⟨4,6,uW⟩⟩
noncomputable abbrev qT:List C:=[.set (.one 1) (.bi .tuple [(.comp (.one 0) [] (.rng none ↥8) [] (.tup [↥"tell",⇑0]))]),.set (.one 2) (.tup [(.tup [↥"if",↥1,⇑1,⇑1]),(.tup [↥"while",↥0,(.slc ⇑1 none (some ⇑0))])]),.ret (.bin .Add ⇑2 (.slc ⇑1 none (some ↥6)))]
noncomputable def kI:EV.Row:=⟨"_law_many",top 63,["many"],["many","tells","rows"],⟨1,3,qT⟩⟩
noncomputable abbrev xR:List C:=[.set (.tup [3,4,5]) ⇑2,.set (.one 6) (.call 40 [⇑0,(.bin .Add ⇑1 ↥1)]),.set (.one 7) (.bi .tuple [(.comp (.one 0) [] (.seq (.lst [↥"x",↥"y",↥"z",↥"xy",↥"yz",↥"zx",↥"xyz"])) [] (.tup [↥"set",⇑0,↥1]))]),.set (.one 8) (.lst [(.tup [⇑6,⇑4,⇑5]),(.tup [⇑3,(.tup [↥"x",⇑6]),⇑5]),(.tup [⇑3,(.tup [↥"x",↥"x"]),⇑5])]),.set (.one 8) (.bin .Add ⇑8 (.lst [(.tup [⇑3,(.bi .list [⇑4]),⇑5]),(.tup [⇑3,(.tup [↥"x",↥"y",↥"z",↥"xy"]),(.tup [])]),(.tup [⇑3,↥"x",(.tup [])]),(.tup [⇑3,(.con .non),⇑5])])),.set (.one 8) (.bin .Add ⇑8 (.lst [(.tup [⇑3,⇑4,(.bi .list [⇑5])]),(.tup [⇑3,⇑4,(.call 41 [⇑0,(.bin .Add ⇑1 ↥2)])]),(.tup [⇑3,(.tup []),(.call 47 [↥1])])])),.set (.one 8) (.bin .Add ⇑8 (.lst [(.tup [⇑3,(.tup []),⇑7]),(.tup [⇑3,⇑4]),(.tup [⇑3,⇑4,⇑5,(.tup [])]),(.lst [⇑3,⇑4,⇑5]),(.con .non),⇑3,(.tup [])])),.ret (.sub ⇑8 (.call 28 [⇑0,⇑1,(.bi .len [⇑8])]))]
noncomputable def xM:EV.Row:=⟨"_law_bad_errand",top 64,["draws","at","errand"],["draws","at","errand","name","params","block","bad_name","seven","bad"],⟨3,9,xR⟩⟩
noncomputable abbrev uC:List C:=[.set (.one 3) (.comp (.one 0) [] (.seq ⇑2) [] (.tup [(.sub ⇑0 ↥0),(.bi .len [(.sub ⇑0 ↥1)])])),.set (.one 4) (.call 28 [⇑0,⇑1,(.bi .len [⇑2])]),.set (.tup [5,6,7]) (.sub ⇑2 ⇑4),.set (.one 8) (.call 28 [⇑0,(.bin .Add ⇑1 ↥1),↥5]),.ite (.cmp .Eq ⇑8 ↥0) [.set (.one 9) (.tup [(.sub (.sub ⇑2 ↥0) ↥0),(.tup []),(.tup [])]),.set (.one 10) (.bi .tuple [(.comp (.one 0) [] (.rng none ↥7) [] (.tup [(.bin .Add ↥"more" (.sub ↥"abcdefg" ⇑0)),(.tup []),(.tup [])]))]),.set (.one 11) (.bin .Add ⇑2 (.slc ⇑10 none (some (.bin .Sub ↥7 (.bi .len [⇑2]))))),.frz 11,.set (.one 12) (.lst [(.bin .Add ⇑2 (.tup [⇑9])),(.bin .Add (.tup [⇑9]) ⇑2),⇑11,(.bi .list [⇑2]),(.bin .Add ⇑2 (.tup [(.con .non)]))]),.ret (.sub ⇑12 (.call 28 [⇑0,(.bin .Add ⇑1 ↥2),(.bi .len [⇑12])]))] [],.ite (.cmp .Eq ⇑8 ↥1) [.set (.one 13) (.call 48 [⇑0,(.bin .Add ⇑1 ↥2),(.sub ⇑2 ⇑4)]),.ret (.bin .Add (.bin .Add (.slc ⇑2 none (some ⇑4)) (.tup [⇑13])) (.slc ⇑2 (some (.bin .Add ⇑4 ↥1)) none))] [],.frz 3,.set (.one 14) (.call 45 [⇑0,(.bin .Add ⇑1 ↥2),⇑3]),.set (.one 15) (.call 46 [⇑0,(.bin .Add ⇑1 ↥20),⇑7,⇑14]),.frz 15,.set (.one 13) (.tup [⇑5,⇑6,⇑15]),.ret (.bin .Add (.bin .Add (.slc ⇑2 none (some ⇑4)) (.tup [⇑13])) (.slc ⇑2 (some (.bin .Add ⇑4 ↥1)) none))]
noncomputable def uh:EV.Row:=⟨"_law_spoilt",top 65,["draws","at","program"],["draws","at","program","heads","spot","name","params","block","way","alike","more","seven","bad","errand","row","changed"],⟨3,16,uC⟩⟩
noncomputable abbrev zjf:List C:=[.ite (.cmp .IsNot (.call 10 [(.tup [(.tup [↥"e",(.tup []),(.call 47 [↥0])])])]) (.con (.bl true))) [.ret (.con (.bl false))] [],.forr (.one 1) (.seq (.bin .Add (.lst [(.bi .len [⇑0])]) (.slc ⇑0 none (some ↥14)))) [.set (.one 2) (.call 27 [⇑1,↥300]),.frz 2,.set (.one 3) (.call 38 [⇑2,↥6,↥3]),.frz 2,.set (.one 4) (.call 49 [⇑2,↥240,⇑3]),.frz 4,.set (.one 5) (.lst [(.call 10 [⇑3]),(.call 10 [⇑4]),(.call 10 [⇑3])]),.ite (.or (.cmp .IsNot (.sub ⇑5 ↥0) (.con (.bl true))) (.or (.cmp .IsNot (.sub ⇑5 ↥1) (.con (.bl false))) (.one (.cmp .IsNot (.sub ⇑5 ↥2) (.con (.bl true)))))) [.ret (.con (.bl false))] []],.ret (.con (.bl true))]
noncomputable def zeV:EV.Row:=⟨"law",top 66,["script"],["script","cell","draws","program","bad","told"],⟨1,6,zjf⟩⟩
noncomputable def rs:List EV.Row:=[Zt,kh,X5,u6,yV,X3,xH,uf,j8,xK,u5,X6,j9,X7,ue,xJ,wF,Jt,X4,kj,zak,km,XX,Zr,j7,ug,wG,jc,kJ,ul,Zu,vM,uo,kE,Zv,jd,um,u9,vK,wg,wI,wu,wH,wJ,wj,vL,Zw,kI,xM,uh,zeV]
noncomputable def B:Tb:=⟨[("is_whole":Str),("is_number":Str),("is_sign":Str),("is_formula":Str),("is_formula_within":Str),("is_word":Str),("is_word_or_none":Str),("is_tuple_of":Str),("is_worded":Str),("is_name_formula":Str),("is_program":Str),("is_head":Str),("is_params":Str),("is_body":Str),("shaped_rows":Str),("is_shaped_block":Str),("is_shaped_row":Str),("is_row":Str),("is_want":Str),("is_branch":Str),("gives":Str),("blocks_of":Str),("rows_of":Str),("names_of":Str),("set_names":Str),("formulas_of":Str),("formula_names":Str),("_law_draws":Str),("_law_draw":Str),("_law_number":Str),("_law_sum":Str),("_law_any_sum":Str),("_law_branch":Str),("_law_want":Str),("_law_row":Str),("_law_block":Str),("_law_errand":Str),("_law_heads":Str),("_law_program":Str),("_law_bad_worth":Str),("_law_bad_name":Str),("_law_bad_block":Str),("_law_bad_want":Str),("_law_bad_form":Str),("_law_bad_place":Str),("_law_bad_row":Str),("_law_put":Str),("_law_many":Str),("_law_bad_errand":Str),("_law_spoilt":Str),("law":Str)],[(["one"]:List Str),(["one"]:List Str),(["one"]:List Str),(["one","is_name"]:List Str),(["one","is_name","deeper"]:List Str),(["one"]:List Str),(["one"]:List Str),(["one","least","most"]:List Str),(["one"]:List Str),(["one"]:List Str),(["value"]:List Str),(["errand"]:List Str),(["params"]:List Str),(["errand","counts"]:List Str),(["block"]:List Str),(["block","deep"]:List Str),(["row"]:List Str),(["row","counts"]:List Str),(["least","branches","counts","is_target","is_one"]:List Str),(["branch","counts","is_target","is_one"]:List Str),(["block"]:List Str),(["row"]:List Str),(["block"]:List Str),(["errand"]:List Str),(["row"]:List Str),(["row"]:List Str),(["one"]:List Str),(["cell","many"]:List Str),(["draws","at","many"]:List Str),(["draws","at"]:List Str),(["draws","at","names","deep"]:List Str),(["draws","at","names"]:List Str),(["draws","at","names","heads"]:List Str),(["draws","at","names","heads"]:List Str),(["draws","at","deep","left","undoing","names","heads"]:List Str),(["draws","at","deep","left","undoing","names","heads"]:List Str),(["draws","at","name","params","names","heads","most"]:List Str),(["draws","at"]:List Str),(["draws","most","many"]:List Str),(["draws","at"]:List Str),(["draws","at"]:List Str),(["draws","at"]:List Str),(["draws","at","heads"]:List Str),(["draws","at"]:List Str),(["draws","at"]:List Str),(["draws","at","heads"]:List Str),(["draws","at","block","row"]:List Str),(["many"]:List Str),(["draws","at","errand"]:List Str),(["draws","at","program"]:List Str),(["script"]:List Str)],[("MODULUS",(.int 1000000007)),("SIGNS",(.ktp [(.str "+"),(.str "-"),(.str "*"),(.str "<"),(.str "=")])),("DEEPEST_TRIPLE",(.int 3)),("LETTERS",(.str "abcdefghijklmnopqrstuvwxyz")),("LONGEST_WORD",(.int 8)),("MOST_ERRANDS",(.int 6)),("MOST_PARAMS",(.int 3)),("MOST_ROWS_OF_BLOCK",(.int 8)),("MOST_ROWS_OF_ERRAND",(.int 24)),("MOST_NAMES",(.int 6)),("DEEPEST_ROW",(.int 4)),("MOST_BRANCHES",(.int 4)),("PARTS",(.kdc [(("set":Str),(3:Int)),(("tell":Str),(2:Int)),(("give":Str),(2:Int)),(("fail":Str),(2:Int)),(("if":Str),(4:Int)),(("while":Str),(3:Int)),(("try":Str),(4:Int)),(("do":Str),(3:Int)),(("want":Str),(3:Int))])),("is_word",(.fn 5)),("is_word_or_none",(.fn 6)),("is_name_formula",(.fn 9))],["abs","all","any","bool","enumerate","int","isinstance","len","list","range","set","sorted","str","tuple"],[],[],[]⟩
noncomputable def yX:PySem.Program:={ Ϫ with main:={ Ϫ.main with body:=(((Ϫ.main.body).eraseIdx 42).eraseIdx 9).eraseIdx 0 } }
theorem V8 (w:du):(W.openEnds iR π.prog (di w "special-get-raises" false) 12000).map (fun s=>W.openSeen yX [("PARTS":Str)] (m6 π.prog.main.body) (fun s=>W.xlAt yX [] s&&W.recOk [] s) true s)=some (W.openGood yX [("PARTS":Str)]):=by kernel_rfl
theorem V7 (w:du):(W.openEnds iR π.prog (di w "special-get-raises" false) 12000).map (fun s=>EV.Kz (EV.frOf s.heap 500) B rs)=some (EV.Kg B rs):=by kernel_rfl
theorem K4 (w:du):(W.openEnds iR π.prog (di w "special-get-raises" true) 12000).map (fun s=>W.openSeen yX [("PARTS":Str)] (m6 π.prog.main.body) (fun s=>W.xlAt yX [] s&&W.recOk [] s) true s)=some (W.openGood yX [("PARTS":Str)]):=by kernel_rfl
theorem K3 (w:du):(W.openEnds iR π.prog (di w "special-get-raises" true) 12000).map (fun s=>EV.Kz (EV.frOf s.heap 500) B rs)=some (EV.Kg B rs):=by kernel_rfl
noncomputable def jh:PySem.DefRec:=EV.drOf (top 66)
theorem zkP:π.wellSaid=true:=by kernel_rfl
theorem zkV:W.defOf yX π.name=some (jh,[]):=by kernel_rfl
theorem zkU:π.prog.theDef π.name=some (jh.params,jh.body,jh.scope):=by kernel_rfl
theorem zkT:W.kwWritten? jh.params.kwonlyargs jh.params.kw_defaults=some []:=by kernel_rfl
theorem zkQ:(W.chainsOk yX&&W.opensWell π.prog&&(W.frees π.row.toRowW&&π.row.within.isEmpty))=true:=by kernel_rfl
theorem zkS:jh.params.defaults=[]:=by kernel_rfl
theorem zkR:π.prog.bare:=⟨rfl,rfl,rfl,rfl,rfl,by decide +kernel⟩
theorem zkO:π.row.toRowW.promised:=by w_witness2
end Q05
namespace L2
open PySem PySem.Spec PyProof.Rows
noncomputable def K5:Key->δ->Bool
 | .inl k,v=>δ.isInt k v
 | .inr x,v=>dJ x v
noncomputable def keyH (w:ϕ):Key->Int
 | .inl k=>hashInt k
 | .inr x=>hashStr w x
theorem zX:∀ {k:Key}{v:δ},K5 k v=true->(∃ i t,k=gq i/\v=aj i t)\/(∃ x t,k=bc x/\v=aW x t)
 | .inl i,v,h=>by obtain ⟨t,e⟩:=δ.isInt_shape (k:=i) (v:=v) h;exact .inl ⟨i,t,rfl,e⟩
 | .inr x,v,h=>by obtain ⟨t,e⟩:=δ.isStrOf_shape (x:=x) (v:=v) h;exact .inr ⟨x,t,rfl,e⟩
theorem zaV (i:Int) (t:Tok):K5 (.inl i) (.int i t)=true:=by simp [K5,δ.isInt]
theorem zaU (x:Str) (t:Tok):K5 (.inr x) (.str x t)=true:=by simp [K5,dJ]
theorem zis (a b:Int):decide ((gq a:Key)=gq b)=(a==b):=by
 by_cases e:a=b
 ·subst e;simp
 ·have h:¬ (gq a:Key)=gq b:=fun q=>e (gq.inj q)
  rw [decide_eq_false h];exact (beq_eq_false_iff_ne.mpr e).symm
theorem zio (a b:Str):decide ((bc a:Key)=bc b)=decide (a=b):=by
 by_cases e:a=b
 ·subst e;simp
 ·have h:¬ (bc a:Key)=bc b:=fun q=>e (iV q)
  rw [decide_eq_false h,decide_eq_false e]
theorem zir (a:Int) (b:Str):decide ((gq a:Key)=bc b)=false:=decide_eq_false (fun q=>nomatch q)
theorem ziq (a:Str) (b:Int):decide ((bc a:Key)=gq b)=false:=decide_eq_false (fun q=>nomatch q)
noncomputable def zZ (prog:Ψ) (w:ϕ):PySem.KeyKind prog w Key where
 is:=K5
 hash:=keyH w
 inj:=fun v a b ha hb=>by
  rcases zX ha with ⟨i,t,rfl,rfl⟩ | ⟨x,t,rfl,rfl⟩
  ·rcases zX hb with ⟨j,u,rfl,e⟩ | ⟨y,u,rfl,e⟩
   ·injection e with e1 _;rw [e1]
   ·exact nomatch e
  ·rcases zX hb with ⟨j,u,rfl,e⟩ | ⟨y,u,rfl,e⟩
   ·exact nomatch e
   ·injection e with e1 _;rw [e1]
 byValue:=fun k v h=>by rcases zX h with ⟨i,t,rfl,rfl⟩ | ⟨x,t,rfl,rfl⟩ <;> rfl
 pyHash:=fun hv h=>by
  rcases zX hv with ⟨i,t,rfl,rfl⟩ | ⟨x,t,rfl,rfl⟩
  ·exact wpAny_pyHash_int h
  ·exact wpAny_pyHash_str h
 eqBool:=fun hu hv h=>by
  rcases zX hu with ⟨i,t,rfl,rfl⟩ | ⟨x,t,rfl,rfl⟩
  ·rcases zX hv with ⟨j,u,rfl,rfl⟩ | ⟨y,u,rfl,rfl⟩
   ·rw [zis] at h;exact wpAny_eqBool_int h
   ·rw [zir] at h;exact mK i t y u _ _ _ _ h
  ·rcases zX hv with ⟨j,u,rfl,rfl⟩ | ⟨y,u,rfl,rfl⟩
   ·rw [ziq] at h;exact mJ x t j u _ _ _ _ h
   ·rw [zio] at h;exact wpAny_eqBool_str h
 «strs»:=fun k x t v h=>by
  rcases zX h with ⟨i,u,rfl,e⟩ | ⟨y,u,rfl,e⟩
  ·exact nomatch e
  ·injection e with e1 _
   subst e1;cases v <;> rfl
theorem V3 (prog:Ψ) (w:ϕ) (i:Int) (t:Tok):(zZ prog w).is (.inl i) (.int i t)=true:=zaV i t
theorem V2 (prog:Ψ) (w:ϕ) (x:Str) (t:Tok):(zZ prog w).is (.inr x) (.str x t)=true:=zaU x t
inductive V where
 | non | bl (b:Bool) | int (i:Int) | str (x:Str) | byt (b:Array UInt8) | flt (b:UInt64) | ref (a:Addr) | ty (n:String)
 deriving DecidableEq
def RelV:V->δ->Prop
 | .non,u=>u=ϩ
 | .bl b,u=>u=Ϡ b
 | .int i,u=>∃ t,u=aj i t
 | .str x,u=>∃ t,u=aW x t
 | .byt b,u=>∃ t,u=δ.bytes b t
 | .flt b,u=>∃ t,u=δ.float b t
 | .ref a,u=>u=Ϟ a
 | .ty n,u=>u=lM n
abbrev Vals:List V->List δ->Prop:=dR RelV
theorem Vals.length {xs:List V}{us:List δ}(r:Vals xs us):xs.length=us.length:=lW r
theorem Vals.get:∀ {xs:List V}{us:List δ}{i:Nat}{x:V},Vals xs us->xs[i]?=some x->∃ u,us[i]?=some u/\RelV x u
 | _,_,_,_,.nil,e=>by simp at e
 | _,_,0,_,.cons r _,e=>by simp at e;subst e;exact ⟨_,rfl,r⟩
 | _,_,i+1,x,.cons _ t,e=>by obtain ⟨u,h1,h2⟩:=Vals.get (i:=i) (x:=x) t (by simpa using e);exact ⟨u,by simpa using h1,h2⟩
theorem Vals.set {x:V}{u:δ}(r:RelV x u):∀ {xs:List V}{us:List δ}(i:Nat),Vals xs us->Vals (xs.set i x) (us.set i u)
 | _,_,_,.nil=>.nil
 | _,_,0,.cons _ t=>.cons r t
 | _,_,i+1,.cons q t=>.cons q (Vals.set r i t)
theorem Vals.append:∀ {xs ys:List V}{us ws:List δ},Vals xs us->Vals ys ws->Vals (xs++ys) (us++ws)
 | _,_,_,_,.nil,s=>s
 | _,_,_,_,.cons r t,s=>.cons r (Vals.append t s)
theorem Vals.take:∀ {xs:List V}{us:List δ}(n:Nat),Vals xs us->Vals (xs.take n) (us.take n)
 | _,_,0,_=>.nil
 | _,_,_+1,.nil=>.nil
 | _,_,n+1,.cons r t=>.cons r (Vals.take n t)
theorem Vals.drop:∀ {xs:List V}{us:List δ}(n:Nat),Vals xs us->Vals (xs.drop n) (us.drop n)
 | _,_,0,r=>r
 | _,_,_+1,.nil=>.nil
 | _,_,n+1,.cons _ t=>Vals.drop n t
def RelO:Option V->Option δ->Prop
 | some v,some u=>RelV v u
 | none,none=>True
 | _,_=>False
def KV {κ:Type}:List (κ×V)->List (κ×δ)->Prop:=dR fun (p:κ×V) (q:κ×δ)=>p.1=q.1/\RelV p.2 q.2
noncomputable def kV:Key->V
 | .inl i=>.int i
 | .inr x=>.str x
inductive HO where
 | lst (xs:List V)
 | tup (xs:List V)
 | dK (kvs:List (Key×V)) | dT (kvs:List (List Key×V))
 | set (S:Int->Bool) (n:Nat)
 | ins (C dx:Addr) (fs:List (Str×V))
 | own (x:Addr)
 | xd (fs:List (Str×V))
 | met (f x:Addr)
 | rng (lo hi:Int)
 | frz (o:Obj) (u:HO)
 | tbl (ps:Array δ)
 | ext (φ:Heap->Prop)
abbrev Hp:=Addr->Option HO
noncomputable def upd (H:Hp) (a:Addr) (o:HO):Hp:=fun b=>if b=a then some o else H b
theorem zg {H:Hp}{a:Addr}{o:HO}:upd H a o a=some o:=by unfold upd;rw [if_pos rfl]
theorem zp {H:Hp}{a b:Addr}{o:HO}(h:b≠a):upd H a o b=H b:=by unfold upd;rw [if_neg h]
theorem zkv {H:Hp}{a b:Addr}{o u:HO}(h:H a=some o) (h':H b=some u) (d:o≠u):a≠b:=by intro e;subst e;rw [h] at h';exact d (ϙ h')
theorem zF {H:Hp}{a b:Addr}{o:HO}(h:H a=some o) (h':H b=none):a≠b:=by intro e;subst e;rw [h] at h';cases h'
section
variable (P:Ψ) (w:ϕ)
def z8 (H:Hp) (h:Heap) (a:Addr):HO->Prop
 | .lst xs=>xs.length<=sizeLine/\∃ (its:List δ) (n:Nat),Vals xs its/\h.get? a=some { cls:=.type "list",data:=.seq its.toArray n }
 | .tup xs=>xs.length<=sizeLine/\∃ its:List δ,Vals xs its/\IsTup h a its.toArray
 | .dK kvs=>kvs.length<=sizeLine/\(a==dh)=false/\∃ vs,KV kvs vs/\h.DictOf (zZ P w) a vs
 | .dT kvs=>kvs.length<=sizeLine/\(a==dh)=false/\∃ xs:List (List Key×Addr×δ),
   dR (fun (p:List Key×V) (q:List Key×Addr×δ)=>p.1=q.1/\H q.2.1=some (.tup (p.1.map kV))/\RelV p.2 q.2.2) kvs xs /\
   ∃ o es ep,h.get? a=some o/\o.ExactDict/\o.data=.dict es ep/\es.toList=xs.map (entryOfKey (iQ (zZ P w)))/\(xs.map (·.1)).Nodup
 | .set S n=>h.SetOf (intKind P w) a S n
 | .ins C dx fs=>H dx=some (.own a)/\fs.length<=1000/\dx≠a/\h.get? a=some (W.instObj C dx) /\
   ∃ mA,h.Ns1 dx mA/\(∀ f,RelO (fs.lookup f) (mA f))/\PySem.Within mA (fs.map (·.1))
 | .own _=>∃ o,h.get? a=some o
 | .xd fs=>∃ mA,h.Ns1 a mA/\∀ f,RelO (fs.lookup f) (mA f)
 | .rng lo hi=>∃ t u v,h.get? a=some { cls:=.type "range",data:=.fields #[.int lo t,.int hi u,.int 1 v] }
 | .frz o u=>h.get? a=some o/\z8 H h a u
 | .tbl ps=>h.get? a=some { cls:=.none,data:=.fields ps }
 | .met f x=>h.get? a=some (W.methodObj (.ref f) (.ref x))
 | .ext φ=>φ h/\(∃ o,h.get? a=some o)/\∀ h1 h2:Heap,φ h1->(∀ o,h1.get? a=some o->h2.get? a=some o)->φ h2
def HOk (H:Hp) (h:Heap):Prop:=∀ a o,H a=some o->z8 P w H h a o
end
section
variable {P:Ψ}{w:ϕ}{H H':Hp}{h h':Heap}{a:Addr}{o:HO}
theorem z8.lt (x:z8 P w H h a o):a < h.objs.size:=by
 cases o with
 | lst xs=>obtain ⟨_,_,_,_,e⟩:=x;exact Η e
 | tup xs=>obtain ⟨_,_,_,p⟩:=x;exact p.lt
 | dK kvs=>obtain ⟨_,_,_,_,o,_,_,e,_⟩:=x;exact Η e
 | dT kvs=>obtain ⟨_,_,_,_,o,_,_,e,_⟩:=x;exact Η e
 | set S n=>obtain ⟨o,_,_,_,e,_⟩:=x;exact Η e
 | ins C dx fs=>obtain ⟨_,_,_,e,_⟩:=x;exact Η e
 | own y=>obtain ⟨_,e⟩:=x;exact Η e
 | xd fs=>obtain ⟨_,⟨_,_,_,e,_⟩,_⟩:=x;exact Η e
 | rng lo hi=>obtain ⟨_,_,_,e⟩:=x;exact Η e
 | frz ob u=>obtain ⟨e,_⟩:=x;exact Η e
 | tbl ps=>exact Η (show h.get? a=some _ from x)
 | met f y=>exact Η (show h.get? a=some _ from x)
 | ext φ=>obtain ⟨_,⟨_,e⟩,_⟩:=x;exact Η e
theorem dR.mapP {α β:Type}{F G:α->β->Prop}:∀ {l₁:List α}{l₂:List β},dR F l₁ l₂->(∀ a b,F a b->G a b)->dR G l₁ l₂
 | _,_,.nil,_=>.nil
 | _,_,.cons r t,f=>.cons (f _ _ r) (dR.mapP t f)
theorem z8.stay (x:z8 P w H h a o) (k:∀ b u,(b=a\/H b=some (.own a))->h.get? b=some u->h'.get? b=some u)
  (ho:∀ b,H b=some (.own a)->H' b=some (.own a)) (ht:∀ b xs,H b=some (.tup xs)->H' b=some (.tup xs)):z8 P w H' h' a o:=by
 induction o with
 | lst xs=>obtain ⟨z,its,n,r,e⟩:=x;exact ⟨z,its,n,r,k _ _ (.inl rfl) e⟩
 | tup xs=>obtain ⟨z,its,r,ob,e,c⟩:=x;exact ⟨z,its,r,ob,k _ _ (.inl rfl) e,c⟩
 | dK kvs=>obtain ⟨z,y,vs,r,ob,es,ep,e,c⟩:=x;exact ⟨z,y,vs,r,ob,es,ep,k _ _ (.inl rfl) e,c⟩
 | dT kvs=>
  obtain ⟨z,y,xs,r,ob,es,ep,e,c⟩:=x;exact ⟨z,y,xs,dR.mapP r fun p q z=>⟨z.1,ht _ _ z.2.1,z.2.2⟩,ob,es,ep,k _ _ (.inl rfl) e,c⟩
 | set S n=>obtain ⟨ob,es,ep,t,e,c⟩:=x;exact ⟨ob,es,ep,t,k _ _ (.inl rfl) e,c⟩
 | ins C dx fs=>
  obtain ⟨d,z,ne,e,mA,⟨od,es,ep,e2,c⟩,r⟩:=x;exact ⟨ho _ d,z,ne,k _ _ (.inl rfl) e,mA,⟨od,es,ep,k _ _ (.inr d) e2,c⟩,r⟩
 | own y=>obtain ⟨ob,e⟩:=x;exact ⟨ob,k _ _ (.inl rfl) e⟩
 | xd fs=>obtain ⟨mA,⟨od,es,ep,e,c⟩,r⟩:=x;exact ⟨mA,⟨od,es,ep,k _ _ (.inl rfl) e,c⟩,r⟩
 | rng lo hi=>obtain ⟨t,u,v,e⟩:=x;exact ⟨t,u,v,k _ _ (.inl rfl) e⟩
 | frz ob u ih=>obtain ⟨e,q⟩:=x;exact ⟨k _ _ (.inl rfl) e,ih q⟩
 | tbl ps=>
  have e:h.get? a=some { cls:=.none,data:=.fields ps }:=x;show h'.get? a=some { cls:=.none,data:=.fields ps }
  exact k a _ (.inl rfl) e
 | met f y=>
  have e:h.get? a=some (W.methodObj (.ref f) (.ref y)):=x;show h'.get? a=some (W.methodObj (.ref f) (.ref y))
  exact k a _ (.inl rfl) e
 | ext φ=>obtain ⟨p,⟨o,e⟩,st⟩:=x;exact ⟨st _ _ p fun o q=>k _ _ (.inl rfl) q,⟨o,k _ _ (.inl rfl) e⟩,st⟩
theorem HOk.lt (x:HOk P w H h) (e:H a=some o):a < h.objs.size:=(x a o e).lt
theorem HOk.fresh (x:HOk P w H h) (e:h.objs.size<=a):H a=none:=by
 cases q:H a with
 | none=>rfl
 | some u=>exact absurd (ύ (x.lt q) e) (cH _)
theorem HOk.kept (x:HOk P w H h) (k:∀ b u,h.get? b=some u->h'.get? b=some u):HOk P w H h':=fun a o e=>
 (x a o e).stay (fun b u _ q=>k b u q) (fun _ q=>q) fun _ _ q=>q
theorem HOk.laid (x:HOk P w H h) (k:∀ b u,h.get? b=some u->h'.get? b=some u) (hp:h.objs.size<=a) (new:z8 P w (upd H a o) h' a o):HOk P w (upd H a o) h':=fun b u e=>by
 have hn:=x.fresh hp;by_cases hb:b=a
 ·subst hb;rw [zg] at e;cases e;exact new
 ·rw [zp hb] at e;exact (x b u e).stay (fun c v _ q=>k c v q) (fun c q=>by rw [zp (zF q hn)];exact q) fun c xs q=>by rw [zp (zF q hn)];exact q
end
def Rd (H:Hp) (a:Addr) (u:HO):Prop:=H a=some u\/∃ o,H a=some (.frz o u)
theorem Rd.ok {P:Ψ}{w:ϕ}{H:Hp}{h:Heap}{a:Addr}{u:HO}(r:Rd H a u) (x:HOk P w H h):z8 P w H h a u:=by
 rcases r with r | ⟨o,r⟩
 ·exact x a u r
 ·obtain ⟨_,q⟩:=x a _ r;exact q
def Mut:Option HO->Prop
 | some (.lst _)=>True
 | some (.dK _)=>True
 | some (.dT _)=>True
 | some (.set _ _)=>True
 | some (.ins _ _ _)=>True
 | some (.ext _)=>True
 | _=>False
section
variable {P:Ψ}{w:ϕ}{H:Hp}{h h':Heap}{x e:Addr}{o':HO}
theorem HOk.write (ok:HOk P w H h) (mu:Mut (H x)) (he:e=x\/H e=some (.own x)) (k:∀ b u,b≠e->h.get? b=some u->h'.get? b=some u) (heo:∃ u,h'.get? e=some u)
  (new:z8 P w (upd H x o') h' x o'):HOk P w (upd H x o') h':=fun b u q=>by
 have nown:∀ c y,H c=some (.own y)->c≠x:=fun c y r z=>by subst z;rw [r] at mu;exact mu
 have ntup:∀ c xs,H c=some (.tup xs)->c≠x:=fun c xs r z=>by subst z;rw [r] at mu;exact mu
 by_cases hb:b=x
 ·subst hb;rw [zg] at q;cases q;exact new
 ·rw [zp hb] at q;by_cases hbe:b=e
  ·have q':H b=some (.own x):=by
    rcases he with z | z
    ·exact absurd (hbe.trans z) hb
    ·rw [hbe];exact z
   rw [q] at q';cases q';obtain ⟨v,hv⟩:=heo;exact ⟨v,by rw [hbe];exact hv⟩
  ·refine (ok b u q).stay (fun c v hc r=>k c v ?_ r) (fun c r=>by rw [zp (nown c b r)];exact r) fun c xs r=>by rw [zp (ntup c xs r)];exact r
   rcases hc with rfl | hc
   ·exact hbe
   ·rintro rfl;rcases he with z | z
    ·exact nown c b hc z
    ·rw [hc] at z;cases z;exact hb rfl
end
structure Un (fs ex:List Addr) (H H':Hp) (h h':Heap):Prop where
 keep:∀ b o,h.get? b=some o->H b=none->b ∉ fs->b ∉ ex->h'.get? b=some o
 slot:∀ b o,h.get? b=some o->H b=none->b∈fs->b ∉ ex->∃ sl,h'.get? b=some { o with slots:=sl }
 free:∀ b o,h.get? b=some o->H b=none->b ∉ ex->H' b=none
 there:∀ b o,h.get? b=some o->b ∉ ex->∃ o',h'.get? b=some o'
 tups:∀ b xs,H b=some (.tup xs)->H' b=some (.tup xs)
 frzs:∀ b o u,H b=some (.frz o u)->H' b=some (.frz o u)
 tbls:∀ b ps,H b=some (.tbl ps)->∃ more,H' b=some (.tbl (ps++more))
section
variable {fs fs' ex ex':List Addr}{H H1 H2:Hp}{h h1 h2 h':Heap}{a x e:Addr}{o:HO}
theorem Un.any (u:Un fs ex H H1 h h1) {b:Addr}{ob:Obj}(q:h.get? b=some ob) (n:H b=none) (hx:b ∉ ex):∃ sl,h1.get? b=some { ob with slots:=sl }:=by
 by_cases hb:b∈fs
 ·exact u.slot b ob q n hb hx
 ·exact ⟨ob.slots,u.keep b ob q n hb hx⟩
theorem Un.trans (a:Un fs ex H H1 h h1) (b:Un fs ex H1 H2 h1 h2):Un fs ex H H2 h h2 where
 keep:=fun c ob q n hc hx=>b.keep c ob (a.keep c ob q n hc hx) (a.free c ob q n hx) hc hx
 slot:=fun c ob q n hc hx=>by obtain ⟨sl,e1⟩:=a.slot c ob q n hc hx;obtain ⟨sl',e2⟩:=b.slot c _ e1 (a.free c ob q n hx) hc hx;exact ⟨sl',e2⟩
 free:=fun c ob q n hx=>by obtain ⟨o',e1⟩:=a.there c ob q hx;exact b.free c o' e1 (a.free c ob q n hx) hx
 there:=fun c ob q hx=>by obtain ⟨o',e1⟩:=a.there c ob q hx;exact b.there c o' e1 hx
 tups:=fun c xs q=>b.tups c xs (a.tups c xs q)
 frzs:=fun c ob xs q=>b.frzs c ob xs (a.frzs c ob xs q)
 tbls:=fun c ps q=>by obtain ⟨m1,e1⟩:=a.tbls c ps q;obtain ⟨m2,e2⟩:=b.tbls c _ e1;exact ⟨m1++m2,by rw [e2,nU]⟩
theorem Un.kept (k:∀ b u,h.get? b=some u->h'.get? b=some u):Un fs ex H H h h':=
 ⟨fun b ob q _ _ _=>k b ob q,fun b ob q _ _ _=>⟨ob.slots,k b ob q⟩,fun _ _ _ n _=>n,fun b ob q _=>⟨ob,k b ob q⟩,fun _ _ q=>q,fun _ _ _ q=>q,fun _ ps q=>⟨#[],by rw [q];simp⟩⟩
theorem Un.refl:Un fs ex H H h h:=Un.kept fun _ _ q=>q
theorem Un.laid (k:∀ b u,h.get? b=some u->h'.get? b=some u) (hp:h.objs.size<=a) (hn:H a=none):Un fs ex H (upd H a o) h h' where
 keep:=fun b u q _ _ _=>k b u q
 slot:=fun b u q _ _ _=>⟨u.slots,k b u q⟩
 free:=fun b u q n _=>by rw [zp (ό (ύ (Η q) hp))];exact n
 there:=fun b u q _=>⟨u,k b u q⟩
 tups:=fun b xs q=>by rw [zp (zF q hn)];exact q
 frzs:=fun b u xs q=>by rw [zp (zF q hn)];exact q
 tbls:=fun b ps q=>⟨#[],by rw [zp (zF q hn),q];simp⟩
theorem Un.write (mu:Mut (H x)) (he:e=x\/H e=some (.own x)) (k:∀ b u,b≠e->h.get? b=some u->h'.get? b=some u) (heo:∃ u,h'.get? e=some u):Un fs ex H (upd H x o) h h':=by
 have hx:∀ b,H b=none->b≠x:=fun b n z=>by subst z;rw [n] at mu;exact mu
 have hb:∀ b,H b=none->b≠e:=fun b n z=>by
  subst z;rcases he with r | r
  ·exact hx b n r
  ·rw [n] at r;cases r
 have hm:∀ b u,H b=some u->¬ Mut (some u)->b≠x:=fun b u q nm z=>by subst z;rw [q] at mu;exact nm mu
 refine ⟨fun b u q n _ _=>k b u (hb b n) q,fun b u q n _ _=>⟨u.slots,k b u (hb b n) q⟩,fun b u q n _=>by rw [zp (hx b n)];exact n,fun b u q _=>?_,
  fun b xs q=>by rw [zp (hm b _ q fun z=>z)];exact q,fun b u xs q=>by rw [zp (hm b _ q fun z=>z)];exact q,fun b ps q=>⟨#[],by rw [zp (hm b _ q fun z=>z),q];simp⟩⟩
 by_cases hbe:b=e
 ·subst hbe;exact heo
 ·exact ⟨u,k b u hbe q⟩
theorem Un.mono (u:Un fs ex H H1 h h1) (hs:∀ b∈fs,b∈fs') (hx:∀ b∈ex,b∈ex'):Un fs' ex' H H1 h h1:=
 ⟨fun b ob q n hb he=>u.keep b ob q n (fun z=>hb (hs b z)) fun z=>he (hx b z),fun _ _ q n _ he=>u.any q n fun z=>he (hx _ z),fun b ob q n he=>u.free b ob q n fun z=>he (hx b z),fun b ob q he=>u.there b ob q fun z=>he (hx b z),u.tups,u.frzs,u.tbls⟩
end
noncomputable def trk (h:Heap) (H:Hp):List Addr:=(Ϲ h.objs.size).filter fun a=>(H a).isSome
noncomputable def hidT (h:Heap) (H:Hp):Heap:=W.hideAll h (trk h H)
theorem zbf (h:Heap) (H:Hp):(hidT h H).objs.size=h.objs.size:=W.hideAll_size _ _
theorem zc0 {h:Heap}{H:Hp}{b:Addr}{o:Obj}(e:h.get? b=some o) (n:H b=none):(hidT h H).get? b=some o:=
 W.hideAll_get _ e fun hm=>by have q:(H b).isSome=true:=(List.mem_filter.mp hm).2;rw [n] at q;simp at q
theorem zfm {h:Heap}{H:Hp}{b:Addr}{o:Obj}(e:(hidT h H).get? b=some o):h.get? b=some o/\H b=none:=by
 have e':h.get? b=some o:=W.of_hideAll (trk h H) e;refine ⟨e',?_⟩;cases q:H b with
 | none=>rfl
 | some x=>
  have hm:b∈trk h H:=List.mem_filter.mpr ⟨bG.mpr (Η e'),by simp [q]⟩;have z:(hidT h H).get? b=none:=W.hideAll_none (trk h H) hm;rw [z] at e;cases e
noncomputable def zgt (g h:Heap) (L:Addr):List (Addr×Obj):=(Ϲ h.objs.size).filterMap fun a=>if a=L\/(g.get? a).isSome=true then none else (h.get? a).map fun o=>(a,o)
noncomputable def rest (g h:Heap) (L d:Addr):List (Addr×Obj):=(zgt g h L).filter fun p=>decide (p.1≠d)
structure Mod (K:W.Frag) (mg:Str->Option δ) (base:Heap):Prop where
 kin:K.In base
 glob:base.Ns ϊ mg
 blt:∃ mb,base.Ns builtinsNs mb/\∀ x:Str,x≠"__name__"->mb x=cN x
 nolimit:base.NoLimit
structure Cx where
 prog:Ψ
 w:ϕ
 K:W.Frag
 mg:Str->Option δ
 base:Heap
 A:ϡ
 N:List Str
 sy:ω
 Hz:Hp
 env:Env
 outer:List Env
 stack:List Env
 ex:List Addr
 fn:Str->Bool
 calm:Bool
 pn:List (Addr×Obj)
 xe:δ->ω->Prop
noncomputable def frs (l:List Env):List Addr:=l.filterMap (·.frame)
noncomputable abbrev Cx.fs (X:Cx):List Addr:=frs X.outer
def Vis (sc:dD) (x:Str):Prop:=sc.names.lookup x=some .local\/sc.names.lookup x=some .cell\/sc.names.lookup x=some .free
def Loc (sc:dD) (x:Str):Prop:=sc.names.lookup x=some .local\/sc.names.lookup x=some .cell
def Look (env:Env) (h:Heap) (m:Str->Option δ) (x:Str) (u:δ):Prop:=
 (env.kindOf x=some .local/\m x=some u)\/((env.kindOf x=some .cell\/env.kindOf x=some .free)/\∃ c,env.cells.lookup x=some c/\h.IsCell c (some u))
structure Cx.Ok (X:Cx):Prop where
 mod:Mod X.K X.mg X.base
 kind:X.env.scope.kind=.function
 glob:X.env.globals=ϊ
 blt:X.env.builtins=builtinsNs
 above:X.sy.heap.objs.size<=X.env.locals
 inj:∀ x y c,X.env.cells.lookup x=some c->X.env.cells.lookup y=some c->x=y
 has:∀ x,(X.env.kindOf x=some .cell\/X.env.kindOf x=some .free)->∃ c,X.env.cells.lookup x=some c
 cab:∀ x c,X.fn x=true->X.env.cells.lookup x=some c->X.sy.heap.objs.size<=c
 hd:X.calm=true->X.A.handled=none
 frames:X.A.frames=some X.stack
 stk:X.stack=X.outer\/(X.stack=X.env::X.outer/\X.env.frame=some X.env.locals)
 exf:∀ b∈X.ex,b≠X.env.locals/\∀ x c,X.env.cells.lookup x=some c->c≠b
 bs:∀ b o,X.base.get? b=some o->X.sy.heap.get? b=some o/\X.Hz b=none
 bsz:X.base.objs.size<=X.sy.heap.objs.size
 noex:∀ b o,X.base.get? b=some o->b ∉ X.ex
 exfs:∀ b∈X.ex,b ∉ X.fs
 funs:X.sy.heap.FunFrames X.base X.outer
 frf:∀ b∈X.fs,X.Hz b=none
structure Inv (X:Cx) (pJ:List (Addr×Obj)) (σ:List (Option V)) (H:Hp) (s:ω):Prop where
 ok:X.Ok
 os:s.os=X.sy.os
 bare:gm s.gens
 base:Un X.fs X.ex X.Hz H X.sy.heap s.heap
 loc:∃ m,s.heap.Ns X.env.locals m/\∀ (i:Nat) (x:Str) (v:V),X.N[i]?=some x->σ[i]?=some (some v)->Vis X.env.scope x->∃ u,RelV v u/\Look X.env s.heap m x u
 cell:∀ x c,X.env.cells.lookup x=some c->∃ v,s.heap.IsCell c v
 free:H X.env.locals=none
 freeC:∀ x c,X.env.cells.lookup x=some c->H c=none
 pin:∀ p∈X.pn++pJ,s.heap.get? p.1=some p.2/\H p.1=none/\p.1≠X.env.locals/\p.1 ∉ X.fs/\∀ v,p.2.data≠.cell v
 hok:HOk X.prog X.w H s.heap
 len:σ.length=X.N.length
section
variable {X:Cx}{pJ:List (Addr×Obj)}{σ:List (Option V)}{H H':Hp}{s:ω}{h':Heap}
theorem Cx.Ok.nofr (ok:X.Ok) {b:Addr}{o:Obj}(e:X.base.get? b=some o):b ∉ X.fs:=fun hb=>by have:=(ok.funs.mem hb).1;rw [e] at this;cases this
theorem Inv.bs (I:Inv X pJ σ H s):∀ b o,X.base.get? b=some o->s.heap.get? b=some o/\H b=none:=fun b o e=>
 ⟨I.base.keep b o (I.ok.bs b o e).1 (I.ok.bs b o e).2 (I.ok.nofr e) (I.ok.noex b o e),I.base.free b o (I.ok.bs b o e).1 (I.ok.bs b o e).2 (I.ok.noex b o e)⟩
theorem Inv.bk (I:Inv X pJ σ H s):∀ b o,X.base.get? b=some o->s.heap.get? b=some o:=fun b o e=>(I.bs b o e).1
theorem Inv.mod (I:Inv X pJ σ H s):Mod X.K X.mg X.base:=I.ok.mod
theorem Inv.kIn (I:Inv X pJ σ H s):X.K.In s.heap:=I.ok.mod.kin.keeps I.bk
theorem Inv.fr (I:Inv X pJ σ H s):∃ m,Fr X.base X.env.locals s.heap m:=
 let ⟨m,hn,_⟩:=I.loc
 ⟨m,hn,I.bk,Ϛ I.ok.bsz I.ok.above⟩
theorem Inv.lt (I:Inv X pJ σ H s):X.env.locals < s.heap.objs.size:=let ⟨_,hn,_⟩:=I.loc;hn.lt
theorem Inv.sz (I:Inv X pJ σ H s):X.sy.heap.objs.size<=s.heap.objs.size:=Ϛ I.ok.above (gB I.lt)
theorem Inv.nofs (I:Inv X pJ σ H s) {a:Addr}(h:s.heap.objs.size<=a):a ∉ X.fs:=fun hb=>by obtain ⟨_,o,ho,_⟩:=I.ok.funs.mem hb;exact absurd (ύ (Η ho) (Ϛ I.sz h)) (cH _)
theorem Inv.cne (I:Inv X pJ σ H s):∀ x c,X.env.cells.lookup x=some c->c≠X.env.locals:=fun x c e z=>by obtain ⟨v,o,ho,hd⟩:=I.cell x c e;obtain ⟨m,⟨o',es,ep,ho',hd',_⟩,_⟩:=I.loc;rw [z,ho'] at ho;cases ho;rw [hd'] at hd;cases hd
theorem Inv.funs (I:Inv X pJ σ H s):s.heap.FunFrames X.base X.outer:=by
 have all:∀ (l:List Env),(∀ b∈frs l,b∈X.fs)->X.sy.heap.FunFrames X.base l->s.heap.FunFrames X.base l:=by
  intro l
  induction l with
  | nil=>intro _ _;trivial
  | cons env r ih=>
   intro hs hl;obtain ⟨hk,⟨L,o,hf,hn,ho,hd⟩,hr⟩:=hl;have hL:L∈X.fs:=hs L (by unfold frs;rw [b7,hf];exact θ);obtain ⟨sl,e⟩:=I.base.slot L o ho (I.ok.frf L hL) hL fun z=>I.ok.exfs L z hL
   exact ⟨hk,⟨L,_,hf,hn,e,hd⟩,ih (fun b hb=>hs b (by unfold frs;rw [b7,hf];exact ι _ hb)) hr⟩
 exact all X.outer (fun _ hb=>hb) I.ok.funs
theorem Inv.stack (I:Inv X pJ σ H s):s.heap.FunFrames X.base X.stack:=by
 rcases I.ok.stk with e | ⟨e,hf⟩
 ·rw [e];exact I.funs
 ·rw [e];obtain ⟨m,hn,_⟩:=I.loc;refine .cons (by rw [I.ok.kind];decide) hf hn ?_ I.funs;exact gW (Ϛ I.ok.bsz I.ok.above)
theorem Inv.Jh (I:Inv X pJ σ H s):∀ b∈frs X.stack,b∈X.env.locals::X.fs:=fun b hb=>by
 rcases I.ok.stk with e | ⟨e,hf⟩
 ·rw [e] at hb;exact ι _ hb
 ·rw [e] at hb;unfold frs at hb;rw [b7,hf] at hb;exact hb
theorem Inv.Vw (I:Inv X pJ σ H s):∀ b∈frs X.stack,H b=none:=fun b hb=>by
 rcases ψ.mp (I.Jh b hb) with e | hb
 ·rw [e];exact I.free
 ·obtain ⟨_,o,ho,_⟩:=I.ok.funs.mem hb;exact I.base.free b o ho (I.ok.frf b hb) fun z=>I.ok.exfs b z hb
theorem Inv.step {g':Array GenState}{t':Nat}{d':Drawn}{ch:List Addr}(I:Inv X pJ σ H s)
  (hch:∀ b∈ch,(b∈X.ex\/X.sy.heap.objs.size<=b)/\b≠X.env.locals/\(∀ x c,X.env.cells.lookup x=some c->c≠b)/\∀ p∈X.pn++pJ,p.1≠b)
  (keep:∀ b o,b≠X.env.locals->b ∉ X.fs->b ∉ ch->s.heap.get? b=some o->H b=none->h'.get? b=some o)
  (slot:∀ b o,b≠X.env.locals->b∈X.fs->b ∉ ch->s.heap.get? b=some o->H b=none->∃ sl,h'.get? b=some { o with slots:=sl }) (free:∀ b o,b ∉ ch->s.heap.get? b=some o->H b=none->H' b=none)
  (there:∀ b o,b ∉ ch->s.heap.get? b=some o->∃ o',h'.get? b=some o')
  (tups:∀ b xs,H b=some (.tup xs)->H' b=some (.tup xs)) (frzs:∀ b o u,H b=some (.frz o u)->H' b=some (.frz o u)) (tbls:∀ b ps,H b=some (.tbl ps)->∃ more,H' b=some (.tbl (ps++more)))
  (ns:∀ m,s.heap.Ns X.env.locals m->h'.Ns X.env.locals m) (hok:HOk X.prog X.w H' h') (hg:gm g'):
  Inv X pJ σ H' { s with heap:=h',gens:=g',drawn:=d',toks:=t' }:=by
 have neL:∀ b o,X.sy.heap.get? b=some o->b≠X.env.locals:=fun b o e=>ό (ύ (Η e) I.ok.above)
 have neC:∀ b o,X.sy.heap.get? b=some o->b ∉ X.ex->b ∉ ch:=fun b o e hx hb=>by
  rcases (hch b hb).1 with z | z
  ·exact hx z
  ·exact absurd (ύ (Η e) z) (cH _)
 have cellK:∀ x c,X.env.cells.lookup x=some c->∀ v,s.heap.IsCell c v->h'.IsCell c v:=fun x c e v ⟨o,ho,hd⟩=>by
  have nch:c ∉ ch:=fun z=>(hch c z).2.2.1 x c e rfl
  by_cases hc:c∈X.fs
  ·obtain ⟨sl,q⟩:=slot c o (I.cne x c e) hc nch ho (I.freeC x c e);exact ⟨_,q,hd⟩
  ·exact ⟨o,keep c o (I.cne x c e) hc nch ho (I.freeC x c e),hd⟩
 refine ⟨I.ok,I.os,hg,⟨fun b o e n hb hx=>?_,fun b o e n hb hx=>?_,fun b o e n hx=>?_,fun b o e hx=>?_,fun b xs e=>tups b xs (I.base.tups b xs e),fun b o xs e=>frzs b o xs (I.base.frzs b o xs e),fun b ps e=>?_⟩,?_,fun x c e=>?_,?_,fun x c e=>?_,fun p hp=>?_,hok,I.len⟩
 ·exact keep b o (neL b o e) hb (neC b o e hx) (I.base.keep b o e n hb hx) (I.base.free b o e n hx)
 ·obtain ⟨sl,e1⟩:=I.base.slot b o e n hb hx;obtain ⟨sl',e2⟩:=slot b _ (neL b o e) hb (neC b o e hx) e1 (I.base.free b o e n hx);exact ⟨sl',e2⟩
 ·obtain ⟨o',e1⟩:=I.base.there b o e hx;exact free b o' (neC b o e hx) e1 (I.base.free b o e n hx)
 ·obtain ⟨o',e1⟩:=I.base.there b o e hx;exact there b o' (neC b o e hx) e1
 ·obtain ⟨m1,e1⟩:=I.base.tbls b ps e;obtain ⟨m2,e2⟩:=tbls b _ e1;exact ⟨m1++m2,by rw [e2,nU]⟩
 ·obtain ⟨m,hn,hl⟩:=I.loc;refine ⟨m,ns m hn,fun i x v e1 e2 e3=>?_⟩;obtain ⟨u,r,l⟩:=hl i x v e1 e2 e3;refine ⟨u,r,?_⟩;rcases l with l | ⟨k,c,e,z⟩
  ·exact .inl l
  ·exact .inr ⟨k,c,e,cellK x c e _ z⟩
 ·obtain ⟨v,z⟩:=I.cell x c e;exact ⟨v,cellK x c e v z⟩
 ·obtain ⟨m,⟨o,_,_,ho,_⟩,_⟩:=I.loc;exact free _ o (fun z=>(hch _ z).2.1 rfl) ho I.free
 ·obtain ⟨v,o,ho,hd⟩:=I.cell x c e;exact free c o (fun z=>(hch c z).2.2.1 x c e rfl) ho (I.freeC x c e)
 ·obtain ⟨e,n,ne,nf,d⟩:=I.pin p hp;have nch:p.1 ∉ ch:=fun z=>(hch p.1 z).2.2.2 p hp rfl
  exact ⟨keep p.1 p.2 ne nf nch e n,free p.1 p.2 nch e n,ne,nf,d⟩
theorem Inv.un {t':Nat}(I:Inv X pJ σ H s) (u:Un X.fs [] H H' s.heap h') (hok:HOk X.prog X.w H' h'):Inv X pJ σ H' { s with heap:=h',toks:=t' }:=by
 obtain ⟨m,⟨o,es,ep,ho,r⟩,_⟩:=id I.loc;obtain ⟨sl,hL⟩:=u.any ho I.free (by simp)
 exact I.step (g':=s.gens) (d':=s.drawn) (ch:=[]) (fun _ z=>nomatch z) (fun b o _ hb _ e n=>u.keep b o e n hb (by simp)) (fun b o _ hb _ e n=>u.slot b o e n hb (by simp)) (fun b o _ e n=>u.free b o e n (by simp)) (fun b o _ e=>u.there b o e (by simp)) u.tups u.frzs u.tbls (fun m' hm=>by
  obtain ⟨o',es',ep',ho',r'⟩:=hm;rw [ho] at ho';cases ho'
  exact ⟨_,es',ep',hL,r'⟩) hok I.bare
theorem Inv.call {g':Array GenState}{t':Nat}{d':Drawn}{ch:List Addr}(I:Inv X pJ σ H s) (u:Un (frs X.stack) ch H H' s.heap h') (hok:HOk X.prog X.w H' h') (hg:gm g')
  (hch:∀ b∈ch,(b∈X.ex\/X.sy.heap.objs.size<=b)/\b≠X.env.locals/\(∀ x c,X.env.cells.lookup x=some c->c≠b)/\∀ p∈X.pn++pJ,p.1≠b):
  Inv X pJ σ H' { s with heap:=h',gens:=g',drawn:=d',toks:=t' }:=by
 obtain ⟨m,⟨o,es,ep,ho,r⟩,_⟩:=id I.loc;obtain ⟨sl,hL⟩:=u.any ho I.free fun z=>(hch _ z).2.1 rfl
 exact I.step (ch:=ch) hch (fun b o hL hb hc e n=>u.keep b o e n (fun z=>(ψ.mp (I.Jh b z)).elim hL hb) hc) (fun b o _ _ hc e n=>u.any e n hc) (fun b o hc e n=>u.free b o e n hc) (fun b o hc e=>u.there b o e hc) u.tups u.frzs u.tbls (fun m' hm=>by
  obtain ⟨o',es',ep',ho',r'⟩:=hm;rw [ho] at ho';cases ho'
  exact ⟨_,es',ep',hL,r'⟩) hok hg
theorem Inv.turned {t':Nat}{it:Addr}(I:Inv X pJ σ H s) (k:∀ b o,b≠it->s.heap.get? b=some o->h'.get? b=some o) (hn:H it=none) (hL:it≠X.env.locals)
  (h1:it∈X.ex\/X.sy.heap.objs.size<=it) (h2:∀ x c,X.env.cells.lookup x=some c->c≠it) (h3:∀ p∈X.pn++pJ,p.1≠it):Inv X pJ σ H { s with heap:=h',toks:=t' }:=by
 have nit:∀ b u,H b=some u->b≠it:=fun b u e z=>by rw [z,hn] at e;cases e
 refine I.step (g':=s.gens) (d':=s.drawn) (ch:=[it]) (fun b hb=>?_) (fun b o _ _ hc e _=>k b o (fun z=>hc (by simp [z])) e) (fun b o _ _ hc e _=>⟨o.slots,k b o (fun z=>hc (by simp [z])) e⟩) (fun _ _ _ _ n=>n)
  (fun b o hc e=>⟨o,k b o (fun z=>hc (by simp [z])) e⟩) (fun _ _ e=>e) (fun _ _ _ e=>e) (fun b ps e=>⟨#[],by rw [e];simp⟩) (fun m hm=>?_) (fun b u e=>?_) I.bare
 ·have e:b=it:=by simpa using hb
  subst e;exact ⟨h1,hL,h2,h3⟩
 ·obtain ⟨o,es,ep,ho,r⟩:=hm;exact ⟨o,es,ep,k _ o (eQ hL) ho,r⟩
 ·refine (I.hok b u e).stay (fun c v hc q=>k c v ?_ q) (fun _ q=>q) fun _ _ q=>q
  rcases hc with z | z
  ·rw [z];exact nit b u e
  ·exact nit c _ z
theorem Inv.tok (I:Inv X pJ σ H s) (t:Nat):Inv X pJ σ H { s with toks:=t }:=I.un (h':=s.heap) (t':=t) Un.refl I.hok
theorem Inv.kept {t':Nat}(I:Inv X pJ σ H s) (k:∀ b u,s.heap.get? b=some u->h'.get? b=some u):Inv X pJ σ H { s with heap:=h',toks:=t' }:=I.un (Un.kept k) (I.hok.kept k)
theorem Inv.laid {a:Addr}{o:HO}{t':Nat}(I:Inv X pJ σ H s) (k:∀ b u,s.heap.get? b=some u->h'.get? b=some u) (hp:s.heap.objs.size<=a) (new:z8 X.prog X.w (upd H a o) h' a o):
  Inv X pJ σ (upd H a o) { s with heap:=h',toks:=t' }:=I.un (Un.laid k hp (I.hok.fresh hp)) (I.hok.laid k hp new)
theorem Inv.write {x e:Addr}{o:HO}{t':Nat}(I:Inv X pJ σ H s) (mu:Mut (H x)) (he:e=x\/H e=some (.own x)) (k:∀ b u,b≠e->s.heap.get? b=some u->h'.get? b=some u) (heo:∃ u,h'.get? e=some u)
  (new:z8 X.prog X.w (upd H x o) h' x o):Inv X pJ σ (upd H x o) { s with heap:=h',toks:=t' }:=I.un (Un.write mu he k heo) (I.hok.write mu he k heo new)
theorem Inv.VH {pins':List (Addr×Obj)}(I:Inv X pJ σ H s) (h:∀ p∈pins',s.heap.get? p.1=some p.2/\H p.1=none/\p.1≠X.env.locals/\p.1 ∉ X.fs/\∀ v,p.2.data≠.cell v):Inv X pins' σ H s:=
 ⟨I.ok,I.os,I.bare,I.base,I.loc,I.cell,I.free,I.freeC,fun p hp=>(Ζ.mp hp).elim (fun z=>I.pin p (bM _ z)) (h p),I.hok,I.len⟩
theorem JF {N:List Str}(hN:N.Nodup) {i j:Nat}{x:Str}(a:N[i]?=some x) (b:N[j]?=some x):i=j:=by obtain ⟨h1,e1⟩:=Ι.mp a;obtain ⟨h2,e2⟩:=Ι.mp b;exact (List.getElem_inj hN).mp (e1.trans e2.symm)
theorem QT {M:Model}{A:ϡ}{E:VSP}{i:Nat}{x:Str}{v:V}{u:δ}{Q:Unit->ω->Prop}(I:Inv X pJ σ H s) (hN:X.N.Nodup) (hi:X.N[i]?=some x) (hx:Loc X.env.scope x) (r:RelV v u)
  (h:∀ s',Inv X pJ (σ.set i (some v)) H s'->(∃ a,ϵ a s.heap s'.heap/\(a=X.env.locals\/X.env.cells.lookup x=some a))->Q () s') (hf:X.fn x=true\/X.env.scope.names.lookup x=some .local:=by first | exact .inl rfl | exact .inr rfl | assumption):Ξ M A (storeName X.env x u) Q E s:=by
 obtain ⟨m,hn,hl⟩:=id I.loc;have hcls:(X.env.scope.kind==.class||(X.env.scope.kind==.module&&X.env.locals != X.env.globals))=false:=by rw [I.ok.kind];rfl
 have hiσ:i < σ.length:=by rw [I.len];exact (Ι.mp hi).1
 have cne:=I.cne;have tracked:∀ {a:Addr}{h':Heap},(∃ o,s.heap.get? a=some o/\H a=none)->ϵ a s.heap h'->HOk X.prog X.w H h':=fun {a h'} ha hs b ob e=>by
  obtain ⟨_,_,hfree⟩:=ha;refine (I.hok b ob e).stay (fun c w' hc q=>(hs.2 c ?_).trans q) (fun _ q=>q) fun _ _ q=>q
  rintro rfl;rcases hc with rfl | hc
  ·rw [hfree] at e;cases e
  ·rw [hfree] at hc;cases hc
 rcases hx with hk | hk
 ·refine wpAny_storeName_local hk hn (fun h' hn' hs=>?_) hcls;obtain ⟨oL,_,_,hoL,_⟩:=id hn;refine h _ ⟨I.ok,I.os,I.bare,⟨fun b o e n hb hx=>?_,fun b o e n hb hx=>?_,I.base.free,fun b o e hx=>?_,I.base.tups,I.base.frzs,I.base.tbls⟩,⟨_,hn',fun j y v' e1 e2 e3=>?_⟩,fun y c e=>?_,I.free,I.freeC,fun p hp=>?_,tracked ⟨oL,hoL,I.free⟩ hs,by simpa using I.len⟩ ⟨_,hs,.inl rfl⟩
  ·exact (hs.2 b (ό (ύ (Η e) I.ok.above))).trans (I.base.keep b o e n hb hx)
  ·obtain ⟨sl,e1⟩:=I.base.slot b o e n hb hx;exact ⟨sl,(hs.2 b (ό (ύ (Η e) I.ok.above))).trans e1⟩
  ·obtain ⟨o',e1⟩:=I.base.there b o e hx;exact ⟨o',(hs.2 b (ό (ύ (Η e) I.ok.above))).trans e1⟩
  ·by_cases hj:j=i
   ·subst hj;rw [hi] at e1;cases e1;rw [ϫ hiσ] at e2;cases e2;exact ⟨u,r,.inl ⟨hk,by simp⟩⟩
   ·rw [Θ (eQ hj)] at e2;obtain ⟨u',r',q⟩:=hl j y v' e1 e2 e3;refine ⟨u',r',?_⟩;rcases q with ⟨k,e⟩ | ⟨k,c,e,z⟩
    ·refine .inl ⟨k,?_⟩;have:y≠x:=fun e=>hj (JF hN e1 (e ▸ hi))
     simp [this,e]
    ·exact .inr ⟨k,c,e,z.sameBut hs (cne y c e)⟩
  ·obtain ⟨w',z⟩:=I.cell y c e;exact ⟨w',z.sameBut hs (cne y c e)⟩
  ·obtain ⟨e,n,ne,nf,d⟩:=I.pin p hp;exact ⟨(hs.2 p.1 ne).trans e,n,ne,nf,d⟩
 ·have hfn:X.fn x=true:=by
   rcases hf with z | z
   ·exact z
   ·rw [z] at hk;cases hk
  obtain ⟨c,hc⟩:=I.ok.has x (.inl hk);obtain ⟨w',z⟩:=I.cell x c hc;refine wpAny_storeName_cell I.ok.kind hk hc z (fun h' hc' hs=>?_);obtain ⟨oc,hoc,hocd⟩:=id z;refine h { s with heap:=h' } ⟨I.ok,I.os,I.bare,⟨fun b o e n hb hx=>?_,fun b o e n hb hx=>?_,I.base.free,fun b o e hx=>?_,I.base.tups,I.base.frzs,I.base.tbls⟩,⟨m,hn.sameBut hs (eQ (cne x c hc)),fun j y v' e1 e2 e3=>?_⟩,fun y c' e=>?_,I.free,I.freeC,fun p hp=>?_,tracked ⟨oc,hoc,I.freeC x c hc⟩ hs,by simpa using I.len⟩ ⟨c,hs,.inr hc⟩
  ·exact (hs.2 b (ό (ύ (Η e) (I.ok.cab x c hfn hc)))).trans (I.base.keep b o e n hb hx)
  ·obtain ⟨sl,e1⟩:=I.base.slot b o e n hb hx;exact ⟨sl,(hs.2 b (ό (ύ (Η e) (I.ok.cab x c hfn hc)))).trans e1⟩
  ·obtain ⟨o',e1⟩:=I.base.there b o e hx;exact ⟨o',(hs.2 b (ό (ύ (Η e) (I.ok.cab x c hfn hc)))).trans e1⟩
  ·by_cases hj:j=i
   ·subst hj;rw [hi] at e1;cases e1;rw [ϫ hiσ] at e2;cases e2;exact ⟨u,r,.inr ⟨.inl hk,c,hc,hc'⟩⟩
   ·rw [Θ (eQ hj)] at e2;obtain ⟨u',r',q⟩:=hl j y v' e1 e2 e3;refine ⟨u',r',?_⟩;rcases q with q | ⟨k,c',e,z'⟩
    ·exact .inl q
    ·refine .inr ⟨k,c',e,z'.sameBut hs ?_⟩;rintro rfl;exact hj (JF hN e1 (I.ok.inj _ _ _ e hc ▸ hi))
  ·by_cases hcc:c'=c
   ·subst hcc;exact ⟨_,hc'⟩
   ·obtain ⟨w2,z2⟩:=I.cell y c' e;exact ⟨w2,z2.sameBut hs hcc⟩
  ·obtain ⟨e,n,ne,nf,d⟩:=I.pin p hp;refine ⟨(hs.2 p.1 ?_).trans e,n,ne,nf,d⟩;intro q;rw [q,hoc] at e;have q':oc=p.2:=ϙ e;exact d w' (by rw [<- q'];exact hocd)
theorem zcf {M:Model}{A:ϡ}{E:VSP}{i:Nat}{x:Str}{v:V}{u:δ}{Q:Unit->ω->Prop}(I:Inv X pJ σ H s) (hN:X.N.Nodup) (hi:X.N[i]?=some x) (hx:Loc X.env.scope x) (r:RelV v u)
  (h:∀ s',Inv X pJ (σ.set i (some v)) H s'->Q () s') (hf:X.fn x=true\/X.env.scope.names.lookup x=some .local:=by first | exact .inl rfl | exact .inr rfl | assumption):Ξ M A (storeName X.env x u) Q E s:=
 QT I hN hi hx r (fun s' I' _=>h s' I') hf
theorem Inv.call' {s':ω}{ch:List Addr}(I:Inv X pJ σ H s) (ho:s'.os=s.os) (u:Un (frs X.stack) ch H H' s.heap s'.heap) (hok:HOk X.prog X.w H' s'.heap) (hg:gm s'.gens)
  (hch:∀ b∈ch,(b∈X.ex\/X.sy.heap.objs.size<=b)/\b≠X.env.locals/\(∀ x c,X.env.cells.lookup x=some c->c≠b)/\∀ p∈X.pn++pJ,p.1≠b):Inv X pJ σ H' s':=by obtain ⟨h',g',d',t',o'⟩:=s';have e:o'=s.os:=ho;subst e;exact I.call (g':=g') (t':=t') (d':=d') u hok hg hch
end
abbrev XK:=δ->Option Addr->Hp->Prop
abbrev St:=List (Option V)
abbrev VK:=V->Hp->Prop
abbrev TE:=St->Hp->VK->Prop
abbrev TT:=St->Hp->(Bool->Hp->Prop)->Prop
abbrev TA:=St->Hp->(List V->Hp->Prop)->Prop
structure Ends where
 nx:St->Hp->Prop
 rt:VK
 bk:St->Hp->Prop:=fun _ _=>False
 ct:St->Hp->Prop:=fun _ _=>False
abbrev TS:=Ends->St->Hp->Prop
def EP (X:Cx) (pJ:List (Addr×Obj)) (σ:St) (Q:VK) (u:δ) (s':ω):Prop:=∃ v H',Inv X pJ σ H' s'/\RelV v u/\Q v H'
def TP (X:Cx) (pJ:List (Addr×Obj)) (σ:St) (Q:Bool->Hp->Prop) (b:Bool) (s':ω):Prop:=∃ H',Inv X pJ σ H' s'/\Q b H'
def AP (X:Cx) (pJ:List (Addr×Obj)) (σ:St) (Q:List V->Hp->Prop) (us:List δ) (s':ω):Prop:=∃ vs H',Inv X pJ σ H' s'/\Vals vs us/\Q vs H'
def SP (X:Cx) (pJ:List (Addr×Obj)) (D:Ends) (f:Flow) (s':ω):Prop:=
 match f with
 | .next=>∃ σ' H',Inv X pJ σ' H' s'/\D.nx σ' H'
 | .brk=>∃ σ' H',Inv X pJ σ' H' s'/\D.bk σ' H'
 | .cont=>∃ σ' H',Inv X pJ σ' H' s'/\D.ct σ' H'
 | .ret u=>∃ v σ' H',Inv X pJ σ' H' s'/\RelV v u/\D.rt v H'
def PE (X:Cx) (e:Expr) (t:TE):Prop:=
 ∀ (pJ:List (Addr×Obj)) (s:ω) (σ:St) (H:Hp) (Q:VK),Inv X pJ σ H s->t σ H Q->Ξ (Φ X.prog X.w) X.A (eval e X.env) (EP X pJ σ Q) X.xe s
def PT (X:Cx) (e:Expr) (t:TT):Prop:=
 ∀ (pJ:List (Addr×Obj)) (s:ω) (σ:St) (H:Hp) (Q:Bool->Hp->Prop),Inv X pJ σ H s->t σ H Q->Ξ (Φ X.prog X.w) X.A (iH e X.env (eval e X.env)) (TP X pJ σ Q) X.xe s
def PW (X:Cx) (e:Expr) (t:TT):Prop:=
 ∀ (whole:Sem δ) (pJ:List (Addr×Obj)) (s:ω) (σ:St) (H:Hp) (Q:Bool->Hp->Prop),Inv X pJ σ H s->t σ H Q->Ξ (Φ X.prog X.w) X.A (iH e X.env whole) (TP X pJ σ Q) X.xe s
theorem PW.pt {X:Cx}{e:Expr}{t:TT}(h:PW X e t):PT X e t:=h _
def PA (X:Cx) (es:List Expr) (t:TA):Prop:=
 ∀ (pos:Pos) (pJ:List (Addr×Obj)) (s:ω) (σ:St) (H:Hp) (Q:List V->Hp->Prop),Inv X pJ σ H s->t σ H Q->Ξ (Φ X.prog X.w) X.A (spliced (eU pos (Ϣ es X.env))) (AP X pJ σ Q) X.xe s
def PS (X:Cx) (st:Stmt) (t:TS):Prop:=
 ∀ (pJ:List (Addr×Obj)) (s:ω) (σ:St) (H:Hp) (D:Ends),Inv X pJ σ H s->t D σ H->Ξ (Φ X.prog X.w) X.A (exec st X.env) (SP X pJ D) X.xe s
def PSs (X:Cx) (st:List Stmt) (t:TS):Prop:=
 ∀ (pJ:List (Addr×Obj)) (s:ω) (σ:St) (H:Hp) (D:Ends),Inv X pJ σ H s->t D σ H->Ξ (Φ X.prog X.w) X.A (execs st X.env) (SP X pJ D) X.xe s
theorem thn {α:Type}{t:Sem α}{Q Q':α->ω->Prop}{M:Model}{A:ϡ}{E:VSP}{s:ω}(h:Ξ M A t Q E s) (hQ:∀ a s,Q a s->Q' a s):Ξ M A t Q' E s:=bK h hQ fun _ _ x=>x
section
variable {X:Cx}
theorem bin {a b:Expr}{ta tb:TE}(ha:PE X a ta) (hb:PE X b tb) {pJ:List (Addr×Obj)}{s:ω}{σ:St}{H:Hp}{R:V->V->Hp->Prop}(I:Inv X pJ σ H s) (h:ta σ H fun x H1=>tb σ H1 fun y H2=>R x y H2)
  {α:Type}{Q:α->ω->Prop}{f:δ->δ->Sem α}
  (hf:∀ v u s2 x y H2,Inv X pJ σ H2 s2->RelV x v->RelV y u->R x y H2->Ξ (Φ X.prog X.w) X.A (f v u) Q X.xe s2):
  Ξ (Φ X.prog X.w) X.A (eval a X.env) (fun v s₁=>Ξ (Φ X.prog X.w) X.A (eval b X.env) (fun u s₂=>Ξ (Φ X.prog X.w) X.A (f v u) Q X.xe s₂) X.xe s₁) X.xe s:=by
 refine thn (ha pJ s σ H _ I h) fun v s1 ⟨x,H1,I1,r1,q1⟩=>?_
 refine thn (hb pJ s1 σ H1 _ I1 q1) fun u s2 ⟨y,H2,I2,r2,q2⟩=>?_
 exact hf v u s2 x y H2 I2 r1 r2 q2
def tVar (i:Nat):TE:=fun σ H Q=>∃ v,σ[i]?=some (some v)/\Q v H
def tC (v:V):TE:=fun _ H Q=>Q v H
theorem kO {i:Nat}{x:Str}{pos:Pos}(hN:X.N[i]?=some x) (hv:Vis X.env.scope x) (hd:(x==("__debug__":Str))=false:=by decide) (hcd:(x==("__classdict__":Str))=false:=by decide):PE X (.Name x pos) (tVar i):=by
 intro pJ s σ H Q I h;obtain ⟨v,e,h⟩:=h;obtain ⟨m,hn,hl⟩:=I.loc;obtain ⟨u,r,l⟩:=hl i x v hN e hv;have fin:EP X pJ σ Q u s:=⟨v,H,I,r,h⟩
 rcases l with ⟨hk,hm⟩ | ⟨hk,c,hc,hcell⟩
 ·exact wpAny_Name (wpAny_loadName_local I.ok.kind hk hn hm fin) hd
 ·rcases hk with hk | hk
  ·exact wpAny_Name (wpAny_loadName_cell I.ok.kind hk hc hcell fin) hd
  ·exact wpAny_Name (wpAny_loadName_free I.ok.kind hk hc hcell fin hcd) hd
theorem zdQ {i j pos}:PE X (.Constant (.int i) j pos) (tC (.int i)):=fun _ _ _ H _ I h=>wpAny_Constant_int ⟨.int i,H,I.tok _,⟨_,rfl⟩,h⟩
theorem zkl {b j pos}:PE X (.Constant (.bool b) j pos) (tC (.bl b)):=fun _ _ _ H _ I h=>Constant_bool ⟨.bl b,H,I,rfl,h⟩
theorem zhM {j pos}:PE X (.Constant .none j pos) (tC .non):=fun _ _ _ H _ I h=>Constant_none ⟨.non,H,I,rfl,h⟩
theorem zdP {x j pos}:PE X (.Constant (.str x) j pos) (tC (.str x)):=fun _ _ _ H _ I h=>Calls.Constant_str ⟨.str x,H,I.tok _,⟨_,rfl⟩,h⟩
def Gl (X:Cx) (x:Str):Prop:=X.env.kindOf x=some .globalImplicit
theorem zaQ {E:VSP}{pJ:List (Addr×Obj)}{s:ω}{σ:St}{H:Hp}{x:Str}{u:δ}{pos:Pos}{Q:VSP}(I:Inv X pJ σ H s) (hg:Gl X x) (hm:X.mg x=some u) (h:Q u s)
  (hd:(x==("__debug__":Str))=false:=by decide):Ξ (Φ X.prog X.w) X.A (eval (.Name x pos) X.env) Q E s:=
 lQ I.ok.kind hg (Calls.loadGlobal_global (by rw [I.ok.glob];exact I.mod.glob.keeps I.bk) hm h) hd
theorem ZG {E:VSP}{pJ:List (Addr×Obj)}{s:ω}{σ:St}{H:Hp}{x:Str}{u:δ}{pos:Pos}{Q:VSP}(I:Inv X pJ σ H s) (hg:Gl X x) (hm:X.mg x=none) (hv:cN x=some u) (h:Q u s)
  (hn:x≠"__name__":=by decide) (hd:(x==("__debug__":Str))=false:=by decide):Ξ (Φ X.prog X.w) X.A (eval (.Name x pos) X.env) Q E s:=by obtain ⟨mb,h1,h2⟩:=I.mod.blt;exact lQ I.ok.kind hg (Calls.loadGlobal_builtin (by rw [I.ok.glob];exact I.mod.glob.keeps I.bk) hm (by rw [I.ok.blt];exact h1.keeps I.bk) ((h2 x hn).trans hv) h) hd
theorem zfc {x:Str}{v:V}{u:δ}{pos:Pos}(hg:Gl X x) (hm:X.mg x=some u) (r:RelV v u) (hd:(x==("__debug__":Str))=false:=by decide):PE X (.Name x pos) (tC v):=
 fun _ _ _ H _ I h=>zaQ I hg hm ⟨v,H,I,r,h⟩ hd
theorem zfg {x:Str}{v:V}{u:δ}{pos:Pos}(hg:Gl X x) (hm:X.mg x=none) (hv:cN x=some u) (r:RelV v u) (hn:x≠"__name__":=by decide) (hd:(x==("__debug__":Str))=false:=by decide):PE X (.Name x pos) (tC v):=
 fun _ _ _ H _ I h=>ZG I hg hm hv ⟨v,H,I,r,h⟩ hn hd
variable {a b:Expr}{ta tb:TE}{pos:Pos}
def tB (t:TE):TT:=fun σ H Q=>t σ H fun x H1=>∃ c,x=.bl c/\Q c H1
theorem zhz {e:Expr}{t:TE}(h:PE X e t) (he:∀ whole,iH e X.env whole=(do let v <- whole;standAt e.pos;gf [v] (truthy v)):=by intro _;rfl):PT X e (tB t):=by intro pJ s σ H Q I hw;refine isTrue_plain (thn (h pJ s σ H _ I hw) fun v s1 ⟨x,H1,I1,r1,q1⟩=>?_) (he _);obtain ⟨d,rfl,q⟩:=q1;cases r1;exact ak ⟨H1,I1,q⟩
variable {tA tB':TT}{rest:List Expr}
def tAnd (t u:TT):TT:=fun σ H Q=>t σ H fun c H1=>if c=true then u σ H1 Q else Q false H1
def tOr (t u:TT):TT:=fun σ H Q=>t σ H fun c H1=>if c=true then Q true H1 else u σ H1 Q
def tNot (t:TT):TT:=fun σ H Q=>t σ H fun c H1=>Q (!c) H1
theorem zeY (ha:PT X a tA):PW X (.BoolOp .And [a] pos) tA:=by
 intro wh pJ s σ H Q I h;refine isTrue_and (thn (ha pJ s σ H Q I h) fun c s1 e=>?_);cases c with
 | true=>exact isTrue_and_nil e
 | false=>exact e
theorem zhw (ha:PT X a tA):PW X (.BoolOp .Or [a] pos) tA:=by
 intro wh pJ s σ H Q I h;refine isTrue_or (thn (ha pJ s σ H Q I h) fun c s1 e=>?_);cases c with
 | false=>exact isTrue_or_nil e
 | true=>exact e
theorem zhx (ha:PT X a tA) (hb:PW X (.BoolOp .And (b::rest) pos) tB'):PW X (.BoolOp .And (a::b::rest) pos) (tAnd tA tB'):=by
 intro wh pJ s σ H Q I h;refine isTrue_and (thn (ha pJ s σ H _ I h) fun c s1 ⟨H1,I1,q1⟩=>?_);cases c with
 | true=>exact hb wh pJ s1 σ H1 Q I1 q1
 | false=>exact ⟨H1,I1,q1⟩
theorem zke (ha:PT X a tA) (hb:PW X (.BoolOp .Or (b::rest) pos) tB'):PW X (.BoolOp .Or (a::b::rest) pos) (tOr tA tB'):=by
 intro wh pJ s σ H Q I h;refine isTrue_or (thn (ha pJ s σ H _ I h) fun c s1 ⟨H1,I1,q1⟩=>?_);cases c with
 | true=>exact ⟨H1,I1,q1⟩
 | false=>exact hb wh pJ s1 σ H1 Q I1 q1
theorem zhA (ha:PT X a tA):PT X (.UnaryOp .Not a pos) (tNot tA):=by intro pJ s σ H Q I h;exact isTrue_not (ha pJ s σ H (fun c H1=>Q (!c) H1) I h)
def zjx (ta tb:TE):TE:=fun σ H Q=>ta σ H fun x H1=>∃ c,x=.bl c/\if c=true then tb σ H1 Q else Q (.bl false) H1
def tOrV (ta tb:TE):TE:=fun σ H Q=>ta σ H fun x H1=>∃ c,x=.bl c/\if c=true then Q (.bl true) H1 else tb σ H1 Q
def zjs (ta:TE):TE:=fun σ H Q=>ta σ H fun x H1=>∃ c,x=.bl c/\Q (.bl (!c)) H1
theorem zhK {op} {t:TE}(h:PE X a t):PE X (.BoolOp op [a] pos) t:=fun pJ s σ H Q I hw=>BoolOp_one (h pJ s σ H Q I hw)
theorem zhP (ha:PE X a ta) (hb:PE X (.BoolOp .And (b::rest) pos) tb):PE X (.BoolOp .And (a::b::rest) pos) (zjx ta tb):=by
 intro pJ s σ H Q I h;refine BoolOp_and (thn (ha pJ s σ H _ I h) fun v s1 ⟨x,H1,I1,r1,q1⟩=>?_);obtain ⟨c,rfl,q1⟩:=q1;cases r1;refine ak ?_;cases c with
 | true=>exact hb pJ s1 σ H1 Q I1 q1
 | false=>exact ⟨.bl false,H1,I1,rfl,q1⟩
theorem zki (ha:PE X a ta) (hb:PE X (.BoolOp .Or (b::rest) pos) tb):PE X (.BoolOp .Or (a::b::rest) pos) (tOrV ta tb):=by
 intro pJ s σ H Q I h;refine BoolOp_or (thn (ha pJ s σ H _ I h) fun v s1 ⟨x,H1,I1,r1,q1⟩=>?_);obtain ⟨c,rfl,q1⟩:=q1;cases r1;refine ak ?_;cases c with
 | false=>exact hb pJ s1 σ H1 Q I1 q1
 | true=>exact ⟨.bl true,H1,I1,rfl,q1⟩
theorem zhL (ha:PE X a ta):PE X (.UnaryOp .Not a pos) (zjs ta):=by intro pJ s σ H Q I h;refine UnaryOp_ (thn (ha pJ s σ H _ I h) fun v s1 ⟨x,H1,I1,r1,q1⟩=>?_);obtain ⟨c,rfl,q1⟩:=q1;cases r1;exact not_of (ak ⟨.bl (!c),H1,I1,rfl,q1⟩)
def tIf (t:TT) (ta tb:TE):TE:=fun σ H Q=>t σ H fun c H1=>if c=true then ta σ H1 Q else tb σ H1 Q
theorem zcB {c:Expr}(hc:PT X c tA) (ha:PE X a ta) (hb:PE X b tb):PE X (.IfExp c a b pos) (tIf tA ta tb):=by
 intro pJ s σ H Q I h;refine wpAny_IfExp (thn (hc pJ s σ H _ I h) fun d s1 ⟨H1,I1,q1⟩=>?_);cases d with
 | true=>exact ha pJ s1 σ H1 Q I1 q1
 | false=>exact hb pJ s1 σ H1 Q I1 q1
end
def SqL (K:W.Frag) (H:Hp) (a:Addr) (xs:List V):Prop:=
 Rd H a (.lst xs) \/
  ∃ (o:Obj) (its:Array δ) (n:Nat),K.lookup a=some o/\o.cls=.type "list"/\o.dict=none/\o.data=.seq its n/\its.size<=sizeLine/\Vals xs its.toList
def SqT (K:W.Frag) (H:Hp) (a:Addr) (xs:List V):Prop:=
 Rd H a (.tup xs) \/
  ∃ (o:Obj) (its:Array δ) (n:Nat),K.lookup a=some o/\o.cls=.type "tuple"/\o.data=.seq its n/\its.size<=sizeLine/\Vals xs its.toList
noncomputable def absV:δ->Option V
 | .none=>some .non
 | .bool b=>some (.bl b)
 | .int i _=>some (.int i)
 | .str x _=>some (.str x)
 | .bytes b _=>some (.byt b)
 | .float b _=>some (.flt b)
 | .ref a=>some (.ref a)
 | .type n=>some (.ty n)
 | _=>none
theorem RelV.abs {x:V}{u:δ}(r:RelV x u):absV u=some x:=by
 cases x with
 | non=>cases r;rfl
 | bl _=>cases r;rfl
 | int _=>obtain ⟨t,rfl⟩:=r;rfl
 | str _=>obtain ⟨t,rfl⟩:=r;rfl
 | byt _=>obtain ⟨t,rfl⟩:=r;rfl
 | flt _=>obtain ⟨t,rfl⟩:=r;rfl
 | ref _=>cases r;rfl
 | ty _=>cases r;rfl
theorem RelV.inj {x y:V}{u:δ}(r:RelV x u) (q:RelV y u):x=y:=ϙ (r.abs.symm.trans q.abs)
theorem Vals.inj:∀ {xs ys:List V}{us:List δ},Vals xs us->Vals ys us->xs=ys
 | _,_,_,.nil,.nil=>rfl
 | _,_,_,.cons r t,.cons r' t'=>by rw [r.inj r',Vals.inj t t']
section
variable {X:Cx}{pJ:List (Addr×Obj)}{σ:St}{H:Hp}{s:ω}{a:Addr}{xs ys:List V}
theorem SqL.of {K:W.Frag}(h:H a=some (.lst xs)):SqL K H a xs:=.inl (.inl h)
theorem SqT.of {K:W.Frag}(h:H a=some (.tup xs)):SqT K H a xs:=.inl (.inl h)
theorem Inv.list (I:Inv X pJ σ H s) (h:SqL X.K H a xs):∃ its:List δ,Vals xs its/\PlainL s.heap a its.toArray/\xs.length<=sizeLine:=by
 rcases h with h | ⟨o,its,n,hk,hc,hd,hs,hz,r⟩
 ·obtain ⟨z,its,n,r,e⟩:=h.ok I.hok;exact ⟨its,r,⟨_,n,e,rfl,rfl,rfl⟩,z⟩
 ·refine ⟨its.toList,r,⟨o,n,I.kIn a o hk,hc,hd,by simpa using hs⟩,?_⟩;have e:=r.length;simp only [Ω] at e;lia
theorem Inv.tuple (I:Inv X pJ σ H s) (h:SqT X.K H a xs):∃ its:List δ,Vals xs its/\IsTup s.heap a its.toArray/\xs.length<=sizeLine:=by
 rcases h with h | ⟨o,its,n,hk,hc,hs,hz,r⟩
 ·obtain ⟨z,its,r,p⟩:=h.ok I.hok;exact ⟨its,r,p,z⟩
 ·refine ⟨its.toList,r,⟨o,I.kIn a o hk,hc,n,by simpa using hs⟩,?_⟩;have e:=r.length;simp only [Ω] at e;lia
theorem Inv.JM (I:Inv X pJ σ H s) (h:SqL X.K H a xs) (h':SqL X.K H a ys):xs=ys:=by
 obtain ⟨its,r,⟨o,n,e,_,_,d⟩,_⟩:=I.list h;obtain ⟨its',r',⟨o',n',e',_,_,d'⟩,_⟩:=I.list h';rw [e] at e';cases e';rw [d] at d'
 injection d' with d1 _
 have:its=its':=by simpa using congrArg Array.toList d1
 subst this;exact r.inj r'
theorem Inv.QJ (I:Inv X pJ σ H s) (h:SqT X.K H a xs) (h':SqT X.K H a ys):xs=ys:=by
 obtain ⟨its,r,⟨o,e,_,n,d⟩,_⟩:=I.tuple h;obtain ⟨its',r',⟨o',e',_,n',d'⟩,_⟩:=I.tuple h';rw [e] at e';cases e';rw [d] at d'
 injection d' with d1 _
 have:its=its':=by simpa using congrArg Array.toList d1
 subst this;exact r.inj r'
end
noncomputable abbrev Cx.wish (X:Cx) (E:VSP):Cx:={ X with xe:=E }
noncomputable abbrev Cx.nox (X:Cx):Cx:=X.wish fun _ _=>False
theorem Cx.Ok.wish {X:Cx}(ok:X.Ok) (E:VSP):(X.wish E).Ok:=
 ⟨ok.mod,ok.kind,ok.glob,ok.blt,ok.above,ok.inj,ok.has,ok.cab,ok.hd,ok.frames,ok.stk,ok.exf,ok.bs,ok.bsz,ok.noex,ok.exfs,ok.funs,ok.frf⟩
theorem Cx.Ok.vI {X:Cx}{E:VSP}(ok:(X.wish E).Ok):X.Ok:=
 ⟨ok.mod,ok.kind,ok.glob,ok.blt,ok.above,ok.inj,ok.has,ok.cab,ok.hd,ok.frames,ok.stk,ok.exf,ok.bs,ok.bsz,ok.noex,ok.exfs,ok.funs,ok.frf⟩
section
variable {X:Cx}{pJ:List (Addr×Obj)}{σ:St}{H:Hp}{s:ω}{E:VSP}
theorem Inv.wish (I:Inv X pJ σ H s) (E:VSP):Inv (X.wish E) pJ σ H s:=⟨I.ok.wish E,I.os,I.bare,I.base,I.loc,I.cell,I.free,I.freeC,I.pin,I.hok,I.len⟩
theorem Inv.vI (I:Inv (X.wish E) pJ σ H s):Inv X pJ σ H s:=⟨I.ok.vI,I.os,I.bare,I.base,I.loc,I.cell,I.free,I.freeC,I.pin,I.hok,I.len⟩
theorem SP.vI {D:Ends}{f:Flow}{s':ω}(h:SP (X.wish E) pJ D f s'):SP X pJ D f s':=by
 cases f with
 | next=>obtain ⟨σ',H',I,q⟩:=h;exact ⟨σ',H',I.vI,q⟩
 | brk=>obtain ⟨σ',H',I,q⟩:=h;exact ⟨σ',H',I.vI,q⟩
 | cont=>obtain ⟨σ',H',I,q⟩:=h;exact ⟨σ',H',I.vI,q⟩
 | ret u=>obtain ⟨v,σ',H',I,r,q⟩:=h;exact ⟨v,σ',H',I.vI,r,q⟩
theorem PE.nox {e:Expr}{t:TE}(h:PE X.nox e t):PE X e t:=fun pJ s σ H Q I hw=>
 bK (h pJ s σ H Q (I.wish _) hw) (fun _ _ ⟨v,H',I',r,q⟩=>⟨v,H',I'.vI,r,q⟩) fun _ _ z=>au z
theorem PT.nox {e:Expr}{t:TT}(h:PT X.nox e t):PT X e t:=fun pJ s σ H Q I hw=>
 bK (h pJ s σ H Q (I.wish _) hw) (fun _ _ ⟨H',I',q⟩=>⟨H',I'.vI,q⟩) fun _ _ z=>au z
theorem PSs.nox {st:List Stmt}{t:TS}(h:PSs X.nox st t):PSs X st t:=fun pJ s σ H D I hw=>
 bK (h pJ s σ H D (I.wish _) hw) (fun _ _ q=>q.vI) fun _ _ z=>au z
end
section
variable {X:Cx}{st:Stmt}{rest:List Stmt}{t u:TS}{e:Expr}{te:TE}{pos:Pos}
def zgQ:TS:=fun D σ H=>D.nx σ H
def tSeq (t u:TS):TS:=fun D σ H=>t { D with nx:=u D } σ H
theorem ze3:PSs X [] zgQ:=fun _ _ σ H _ I h=>mY ⟨σ,H,I,h⟩
theorem zcs (h1:PS X st t) (h2:PSs X rest u):PSs X (st::rest) (tSeq t u):=by
 intro pJ s σ H D I h;refine wpAny_execs_cons (thn (h1 pJ s σ H { D with nx:=u D } I h) fun f s1 q=>?_);cases f with
 | next=>
  obtain ⟨σ',H',I',q⟩:=q;exact h2 pJ s1 σ' H' D I' q
 | ret v=>exact q
 | brk=>exact q
 | cont=>exact q
def zgU:TS:=fun D σ H=>D.bk σ H
def zjv:TS:=fun D σ H=>D.ct σ H
theorem ze6:PS X (.Pass pos) zgQ:=fun _ _ σ H _ I h=>wpAny_Pass ⟨σ,H,I,h⟩
theorem zcu:PS X (.Break pos) zgU:=fun _ _ σ H _ I h=>wpAny_Break ⟨σ,H,I,h⟩
theorem VD:PS X (.Continue pos) zjv:=fun _ _ σ H _ I h=>wpAny_Continue ⟨σ,H,I,h⟩
theorem Inv.quiet {pJ:List (Addr×Obj)}{σ:St}{H:Hp}{s:ω}(I:Inv X pJ σ H s):interactive X.env=false:=by simp [interactive,I.ok.kind]
def zjt (te:TE):TS:=fun D σ H=>te σ H fun _ H1=>D.nx σ H1
theorem Ys (he:PE X e te) (hs:gM e none pos.line X.env=pure false:=by rfl):PS X (.Expr e pos) (zjt te):=by intro pJ s σ H D I h;exact wpAny_Expr_any (thn (he pJ s σ H _ I h) fun v s1 ⟨x,H1,I1,r1,q1⟩=>⟨σ,H1,I1,q1⟩) I.quiet hs
def tRet (te:TE):TS:=fun D σ H=>te σ H D.rt
theorem zdO (he:PE X e te):PS X (.Return (some e) pos) (tRet te):=by intro pJ s σ H D I h;exact wpAny_Return_some (thn (he pJ s σ H _ I h) fun v s1 ⟨x,H1,I1,r1,q1⟩=>⟨x,σ,H1,I1,r1,q1⟩)
def zjq:TS:=fun D _ H=>D.rt .non H
theorem ze4:PS X (.Return none pos) zjq:=fun _ _ σ H _ I h=>wpAny_Return_none ⟨.non,σ,H,I,rfl,h⟩
def tIfS (c:TT) (t u:TS):TS:=fun D σ H=>c σ H fun b H1=>if b=true then t D σ H1 else u D σ H1
theorem zkf {c:Expr}{a b:List Stmt}{tc:TT}(hc:PT X c tc) (ha:PSs X a t) (hb:PSs X b u):PS X (.If c a b pos) (tIfS tc t u):=by
 intro pJ s σ H D I h;refine wpAny_If (thn (hc pJ s σ H _ I h) fun d s1 ⟨H1,I1,q1⟩=>?_);cases d with
 | true=>exact ha pJ s1 σ H1 D I1 q1
 | false=>exact hb pJ s1 σ H1 D I1 q1
end
abbrev TG:=V->St->Hp->(St->Hp->Prop)->Prop
abbrev TGs:=List V->St->Hp->(St->Hp->Prop)->Prop
def PG (X:Cx) (target:Expr) (t:TG):Prop:=
 ∀ (pJ:List (Addr×Obj)) (s:ω) (σ:St) (H:Hp) (v:V) (u:δ) (Q:St->Hp->Prop),Inv X pJ σ H s->RelV v u->t v σ H Q ->
  Ξ (Φ X.prog X.w) X.A (fP target X.env u) (fun _ s'=>∃ σ' H',Inv X pJ σ' H' s'/\Q σ' H') X.xe s
def PGs (X:Cx) (ts:List Expr) (t:TGs):Prop:=
 ∀ (pJ:List (Addr×Obj)) (s:ω) (σ:St) (H:Hp) (vs:List V) (us:List δ) (Q:St->Hp->Prop),Inv X pJ σ H s->Vals vs us->t vs σ H Q ->
  Ξ (Φ X.prog X.w) X.A (assignInOrder ((aV ts X.env).map (·.2)) us) (fun _ s'=>∃ σ' H',Inv X pJ σ' H' s'/\Q σ' H') X.xe s
abbrev TSet:=V->V->V->Hp->(Hp->Prop)->Prop
def PSet (X:Cx) (t:TSet):Prop:=
 ∀ (pJ:List (Addr×Obj)) (s:ω) (σ:St) (H:Hp) (o i v:V) (ov iv u:δ) (Q:Hp->Prop),Inv X pJ σ H s->RelV o ov->RelV i iv->RelV v u->t o i v H Q ->
  Ξ (Φ X.prog X.w) X.A (setItem ov iv u) (fun _ s'=>∃ H',Inv X pJ σ H' s'/\Q H') X.xe s
section
variable {X:Cx}{pos:Pos}
def WM (i:Nat):TG:=fun v σ H Q=>Q (σ.set i (some v)) H
theorem zav {i:Nat}{x:Str}(hN:X.N.Nodup) (hi:X.N[i]?=some x) (hx:Loc X.env.scope x) (hf:X.fn x=true\/X.env.scope.names.lookup x=some .local:=by first | exact .inl rfl | exact .inr rfl | assumption):PG X (.Name x pos) (WM i):=by intro pJ s σ H v u Q I r h;exact wpAny_assign_Name (zcf I hN hi hx r (fun s' I'=>⟨_,H,I',h⟩) hf)
def gNil:TGs:=fun vs σ H Q=>vs=[]/\Q σ H
def zc4 (t:TG) (u:TGs):TGs:=fun vs σ H Q=>∃ v r,vs=v::r/\t v σ H fun σ' H'=>u r σ' H' Q
theorem zat:PGs X [] gNil:=by intro pJ s σ H vs us Q I r h;obtain ⟨e,h⟩:=h;subst e;cases r;exact assignInOrder_nil ⟨σ,H,I,h⟩
theorem Yt {e:Expr}{es:List Expr}{t:TG}{u:TGs}(h1:PG X e t) (h2:PGs X es u)
  (hs:(aV (e::es) X.env).map (·.2)=fP e X.env::(aV es X.env).map (·.2):=by rfl):PGs X (e::es) (zc4 t u):=by
 intro pJ s σ H vs us Q I r h;obtain ⟨v,vr,e1,h⟩:=h;subst e1;cases r with
 | cons r rr=>
  rw [hs];refine assignInOrder_cons (thn (h1 pJ s σ H _ _ _ I r h) fun _ s1 ⟨σ1,H1,I1,q1⟩=>?_);exact h2 pJ s1 σ1 H1 _ _ Q I1 rr q1
def gTup (K:W.Frag) (n:Nat) (t:TGs):TG:=fun v σ H Q=>∃ a xs,v=.ref a/\SqT K H a xs/\xs.length=n/\t xs σ H Q
theorem zau {es:List Expr}{k:Nat}{t:TGs}{n:Nat}(hc:X.calm=true) (h:PGs X es t)
  (hn:(aV es X.env).length=n:=by rfl) (hst:(aV es X.env).findIdx? (·.1)=none:=by rfl):PG X (.Tuple es k pos) (gTup X.K n t):=by
 intro pJ s σ H v u Q I r hw;obtain ⟨a,xs,e1,hq,hl,hw⟩:=hw;subst e1;cases r;obtain ⟨its,rv,ht,hz⟩:=I.tuple hq;refine assign_Tuple_tuple (I.ok.hd hc) ht (by simp [hn,<- hl,rv.length]) hst fun h' hx=>?_
 have I1:Inv X pJ σ H { s with heap:=h' }:=I.kept (t':=s.toks) fun b o e=>hx b o (ό (Η e)) e
 exact h pJ _ σ H xs _ Q I1 (by simpa using rv) hw
def gSub (to ti:TE) (t:TSet):TG:=fun v σ H Q=>to σ H fun o H1=>ti σ H1 fun i H2=>t o i v H2 fun H3=>Q σ H3
theorem zhI {o i:Expr}{to ti:TE}{t:TSet}(ho:PE X o to) (hi:PE X i ti) (hs:PSet X t)
  (ha:∀ v,fP (.Subscript o i pos) X.env v=(do
   let ov <- gf [v] (eval o X.env)
   let iv <- gf [v,ov] (eval i X.env)
   standAt pos
   gf [v,ov,iv] (setItem ov iv v)
   release [v,ov,iv] []):=by intro _;rfl):PG X (.Subscript o i pos) (gSub to ti t):=by intro pJ s σ H v u Q I r h;rw [ha];refine η (aX (thn (ho pJ s σ H _ I h) fun ov s1 ⟨x,H1,I1,r1,q1⟩=>?_));refine η (aX (thn (hi pJ s1 σ H1 _ I1 q1) fun iv s2 ⟨y,H2,I2,r2,q2⟩=>?_));refine η (lC (η (aX (thn (hs pJ s2 σ H2 x y v ov iv u _ I2 r1 r2 r q2) fun _ s3 ⟨H3,I3,q3⟩=>?_))));exact wpAny_release ⟨σ,H3,I3,q3⟩
def tAsg (te:TE) (g:TG):TS:=fun D σ H=>te σ H fun x H1=>g x σ H1 D.nx
theorem Jw {tg e:Expr}{te:TE}{g:TG}(he:PE X e te) (hg:PG X tg g) (hs:cR [tg] e pos.line X.env=pure false:=by rfl) (hw:cg [tg] e X.env=pure none:=by rfl)
  (h1:(aV [tg] X.env).map (·.2)=[fP tg X.env]:=by rfl):PS X (.Assign [tg] e pos) (tAsg te g):=by intro pJ s σ H D I h;refine wpAny_Assign_stores (thn (he pJ s σ H _ I h) fun v s1 ⟨x,H1,I1,r1,q1⟩=>?_) hs hw;rw [h1];exact thn (hg pJ s1 σ H1 x v _ I1 r1 q1) fun _ s2 q=>q
def zgO (c:TT) (tb:TS):TS:=fun D σ H=>∃ W:Nat->St->Hp->Prop,(∃ m,W m σ H)/\∀ m σ H,W m σ H ->
 c σ H fun b H1=>if b=true then ∃ N:St->Hp->Prop,(∀ σ' H',N σ' H'->∃ m',m' < m/\W m' σ' H')/\tb { D with nx:=N,ct:=N,bk:=D.nx } σ H1 else D.nx σ H1
theorem zct {c:Expr}{body:List Stmt}{tc:TT}{tb:TS}(hp:iW (Φ X.prog X.w) X.A X.env X.xe) (hc:PT X c tc) (hb:PSs X body tb):PS X (.While c body [] pos) (zgO tc tb):=by
 intro pJ s σ H D I h;obtain ⟨W,⟨m0,w0⟩,turn⟩:=h;refine wpAny_While (codeAny_whileLoop (fun n s'=>∃ σ' H',Inv X pJ σ' H' s'/\W n σ' H') ?_ m0 ⟨σ,H,I,w0⟩);rintro n s1 ⟨σ1,H1,I1,w1⟩;refine cQ hp (thn (hc pJ s1 σ1 H1 _ I1 (turn n σ1 H1 w1)) fun b s2 ⟨H2,I2,q2⟩=>?_);cases b with
 | true=>
  obtain ⟨N,hN,q2⟩:=q2;rw [if_pos rfl];refine cQ hp (thn (hb pJ s2 σ1 H2 _ I2 q2) fun f s3 q3=>?_);cases f with
  | next=>
   obtain ⟨σ3,H3,I3,n3⟩:=q3;obtain ⟨m',hm,w3⟩:=hN σ3 H3 n3;exact ⟨m',hm,σ3,H3,I3,w3⟩
  | cont=>
   obtain ⟨σ3,H3,I3,n3⟩:=q3;obtain ⟨m',hm,w3⟩:=hN σ3 H3 n3;exact ⟨m',hm,σ3,H3,I3,w3⟩
  | brk=>exact q3
  | ret v=>exact q3
 | false=>
  rw [if_neg ϓ];exact mY ⟨σ1,H2,I2,q2⟩
end
structure It where
 go:Nat->Hp->Prop
 yld:Nat->Hp->V->Hp->Prop
 stop:Nat->Hp->Prop
def FpOk (X:Cx) (pJ:List (Addr×Obj)) (H:Hp) (b:Addr):Prop:=
 H b=none/\b≠X.env.locals/\b ∉ X.fs/\(b∈X.ex\/X.sy.heap.objs.size<=b)/\(∀ x c,X.env.cells.lookup x=some c->c≠b)/\∀ p∈X.pn++pJ,p.1≠b
theorem Inv.fpOk {X:Cx}{pJ:List (Addr×Obj)}{σ:St}{H H':Hp}{s:ω}{b:Addr}(I:Inv X pJ σ H s) (hb:s.heap.objs.size<=b) (hn:H' b=none):FpOk X pJ H' b:=by
 refine ⟨hn,gA (ύ I.lt hb),I.nofs hb,.inr (Ϛ I.sz hb),fun x c e z=>?_,fun p hp z=>?_⟩
 ·obtain ⟨v,q⟩:=I.cell x c e;exact absurd (ύ q.lt (by rw [z];exact hb)) (cH _)
 ·exact absurd (ύ (Η (I.pin p hp).1) (by rw [z];exact hb)) (cH _)
structure Turn (P:Ψ) (w:ϕ) (K:W.Frag) (tg:Expr) (J:It) (fp:List Addr) (it:Addr) (tn:Nat->Heap->Prop):Prop where
 mem:it∈fp
 obj:∀ i h,tn i h->∀ b∈fp,∃ o,h.get? b=some o/\∀ v,o.data≠.cell v
 keep:∀ i h h',tn i h->(∀ b∈fp,∀ o,h.get? b=some o->h'.get? b=some o)->tn i h'
 item:∀ (X:Cx),X.prog=P->X.w=w->X.K=K->X.calm=true->∀ (i:Nat) (pJ:List (Addr×Obj)) (s:ω) (σ:St) (H:Hp) (E:VSP),Inv X pJ σ H s->(∀ b∈fp,FpOk X pJ H b)->tn i s.heap->J.go i H ->
  Ξ (Φ P w) X.A (pyNext (.ref it)) (fun r s1=>∃ u,r=some u /\
   Ξ (Φ P w) X.A (m5 tg (.ref it) u) (fun _ s2=>∃ x H',Inv X pJ σ H' s2/\RelV x u/\J.yld i H x H'/\tn (i+1) s2.heap/\∀ b∈fp,H' b=none) E s1) E s
 done:∀ (X:Cx),X.prog=P->X.w=w->X.K=K->X.calm=true->∀ (i:Nat) (pJ:List (Addr×Obj)) (s:ω) (σ:St) (H:Hp) (E:VSP),Inv X pJ σ H s->(∀ b∈fp,FpOk X pJ H b)->tn i s.heap->J.stop i H ->
  Ξ (Φ P w) X.A (pyNext (.ref it)) (fun r s1=>r=none/\Inv X pJ σ H s1) E s
 self:∀ (A:ϡ) (i:Nat) (s:ω) (Q:VSP) (E:VSP),tn i s.heap->Q (.ref it) s->Ξ (Φ P w) A (pyIter (.ref it)) Q E s
abbrev TI:=St->Hp->(It->Hp->Prop)->Prop
def PIE (X:Cx) (pJ:List (Addr×Obj)) (σ:St) (tg:Expr) (R:It->Hp->Prop) (itv:δ) (s2:ω):Prop:=
 ∃ (it:Addr) (fp:List Addr) (tn:Nat->Heap->Prop) (J:It) (H':Hp),itv=.ref it/\Inv X pJ σ H' s2/\Turn X.prog X.w X.K tg J fp it tn/\tn 0 s2.heap/\(∀ b∈fp,FpOk X pJ H' b)/\R J H'
def PI (X:Cx) (tg iter:Expr) (wi:TI):Prop:=
 ∀ (pJ:List (Addr×Obj)) (s:ω) (σ:St) (H:Hp) (R:It->Hp->Prop),Inv X pJ σ H s->wi σ H R ->
  Ξ (Φ X.prog X.w) X.A (eval iter X.env) (fun v s1=>Ξ (Φ X.prog X.w) X.A (pyIter v) (PIE X pJ σ tg R) X.xe s1) X.xe s
theorem zbi {M:Model}{A:ϡ}{E:VSP}{s:ω}{tg:Expr}{it:Addr}{u:δ}{o:Obj}{n:String}{vs:Array δ}{Q:Unit->ω->Prop}(ho:s.heap.get? it=some o) (hc:o.cls=.type n) (hd:o.data=.fields vs)
    (hn:["enumerate","zip","dict_itemiterator","dict_reverseitemiterator","odict_iterator","itertools.zip_longest","itertools.pairwise"].contains n=false) (hQ:Q () s):Ξ M A (m5 tg (.ref it) u) Q E s:=by
  unfold m5;cases tg <;> first
    | exact ς hQ
    | (cases u <;> first
        | exact ς hQ
        | (refine η (wpAny_load ho ?_)
           rw [hc,hd];show Ξ M A (if (["enumerate","zip","dict_itemiterator","dict_reverseitemiterator","odict_iterator","itertools.zip_longest","itertools.pairwise"].contains n&&vs[0]?==some (dO _))=true then _ else _) Q E s
           rw [if_neg (by intro h;rw [hn,ϧ] at h;cases h)]
           exact ς hQ))
noncomputable def Itl (K:W.Frag) (a:Addr):It:=
 ⟨fun i H=>∃ xs x,SqL K H a xs/\xs[i]?=some x,fun i H x H'=>H'=H/\∀ xs,SqL K H a xs->xs[i]?=some x,fun i H=>∃ xs,SqL K H a xs/\xs.length<=i⟩
noncomputable def Itt (K:W.Frag) (a:Addr):It:=
 ⟨fun i H=>∃ xs x,SqT K H a xs/\xs[i]?=some x,fun i H x H'=>H'=H/\∀ xs,SqT K H a xs->xs[i]?=some x,fun i H=>∃ xs,SqT K H a xs/\xs.length<=i⟩
noncomputable def Itr (lo:Int) (n:Nat):It:=⟨fun i _=>i < n,fun i H x H'=>H'=H/\x=.int (lo+i),fun i _=>n<=i⟩
theorem QG {P:Ψ}{w:ϕ}{K:W.Frag}{tg:Expr}(a it:Addr):Turn P w K tg (Itl K a) [it] it (fun i h=>h.IsListIter it a i) where
 mem:=by simp
 obj:=fun i h st b hb=>by
  have e:b=it:=by simpa using hb
  subst e;obtain ⟨o,e,c,d⟩:=st;exact ⟨o,e,fun v z=>by rw [d] at z;cases z⟩
 keep:=fun i h h' st k=>st.at fun o e=>k it (by simp) o e
 item:=by
  intro X hP hw hK hc i pJ s σ H E I hf st hg;subst hP hw hK;obtain ⟨xs,x,hq,hx⟩:=hg;obtain ⟨its,rv,p,hz⟩:=I.list hq;obtain ⟨u,hu,ru⟩:=rv.get hx;obtain ⟨f0,f1,f2,f3,f4,f5⟩:=hf it (by simp);refine wpAny_pyNext_list_item st p.isList (x:=u) (by simpa using hu) fun h' st' sb=>?_
  have I1:Inv X pJ σ H { s with heap:=h' }:=I.turned (t':=s.toks) (fun b o hb e=>(sb.2 b hb).trans e) f0 f1 f3 f4 f5;obtain ⟨o,e,c,d⟩:=id st';exact ⟨u,rfl,zbi (s:={ s with heap:=h' }) e c d (by decide) ⟨x,H,I1,ru,⟨rfl,fun ys hy=>by rw [I.JM hy hq];exact hx⟩,st',fun b hb=>(hf b hb).1⟩⟩
 done:=by intro X hP hw hK hc i pJ s σ H E I hf st hg;subst hP hw hK;obtain ⟨xs,hq,hx⟩:=hg;obtain ⟨its,rv,p,hz⟩:=I.list hq;obtain ⟨f0,f1,f2,f3,f4,f5⟩:=hf it (by simp);have hl:=rv.length;exact wpAny_pyNext_list_end (I.ok.hd hc) st p.isList (by simp;lia) fun h' eb=>⟨rfl,I.turned (t':=s.toks) (fun b o hb e=>eb b o hb e) f0 f1 f3 f4 f5⟩
 self:=fun _ _ _ _ _ st h=>wpAny_pyIter_listiter st h
theorem Kr {P:Ψ}{w:ϕ}{K:W.Frag}{tg:Expr}(a it:Addr):Turn P w K tg (Itt K a) [it] it (fun i h=>h.IsTupleIter it a i) where
 mem:=by simp
 obj:=fun i h st b hb=>by
  have e:b=it:=by simpa using hb
  subst e;obtain ⟨o,e,c,d⟩:=st;exact ⟨o,e,fun v z=>by rw [d] at z;cases z⟩
 keep:=fun i h h' st k=>st.at fun o e=>k it (by simp) o e
 item:=by
  intro X hP hw hK hc i pJ s σ H E I hf st hg;subst hP hw hK;obtain ⟨xs,x,hq,hx⟩:=hg;obtain ⟨its,rv,p,hz⟩:=I.tuple hq;obtain ⟨u,hu,ru⟩:=rv.get hx;obtain ⟨f0,f1,f2,f3,f4,f5⟩:=hf it (by simp);refine wpAny_pyNext_tuple_item st (show s.heap.IsTuple a its.toArray from p) (x:=u) (by simpa using hu) fun h' st' sb=>?_
  have I1:Inv X pJ σ H { s with heap:=h' }:=I.turned (t':=s.toks) (fun b o hb e=>(sb.2 b hb).trans e) f0 f1 f3 f4 f5;obtain ⟨o,e,c,d⟩:=id st';exact ⟨u,rfl,zbi (s:={ s with heap:=h' }) e c d (by decide) ⟨x,H,I1,ru,⟨rfl,fun ys hy=>by rw [I.QJ hy hq];exact hx⟩,st',fun b hb=>(hf b hb).1⟩⟩
 done:=by intro X hP hw hK hc i pJ s σ H E I hf st hg;subst hP hw hK;obtain ⟨xs,hq,hx⟩:=hg;obtain ⟨its,rv,p,hz⟩:=I.tuple hq;obtain ⟨f0,f1,f2,f3,f4,f5⟩:=hf it (by simp);have hl:=rv.length;exact wpAny_pyNext_tuple_end (I.ok.hd hc) st (show s.heap.IsTuple a its.toArray from p) (by simp;lia) fun h' eb=>⟨rfl,I.turned (t':=s.toks) (fun b o hb e=>eb b o hb e) f0 f1 f3 f4 f5⟩
 self:=fun _ _ _ _ _ st h=>wpAny_pyIter_tupleiter st h
theorem Ks {P:Ψ}{w:ϕ}{K:PySem.W.Frag}{tg:Expr}(it:Addr) (lo:Int) (n:Nat):Turn P w K tg (Itr lo n) [it] it (fun i h=>IsRangeIter h it (lo+(i:Nat)*1) ((n:Int) - (i:Nat)) 1) where
 mem:=by simp
 obj:=fun i h st b hb=>by
  have e:b=it:=by simpa using hb
  subst e
  exact ⟨_,st,fun v z=>by
   have z':Data.fields _=Data.cell v:=z
   cases z'⟩
 keep:=fun i h h' st k=>k it (by simp) _ st
 item:=by
  intro X hP hw hK hc i pJ s σ H E I hf st hg;subst hP hw hK;obtain ⟨f0,f1,f2,f3,f4,f5⟩:=hf it (by simp);have W:=Walks.range (prog:=X.prog) (w:=X.w) (I.ok.hd hc) it lo 1 n;refine W.item i s _ _ hg st fun v h' tk hv st' kk=>?_
  obtain ⟨t,rfl⟩:=hv;have I1:Inv X pJ σ H { s with heap:=h',toks:=tk }:=I.turned (fun b o hb e=>kk b o (by simpa using hb) e) f0 f1 f3 f4 f5;refine ⟨_,rfl,zbi (s:={ s with heap:=h',toks:=tk }) (n:="range_iterator") st' rfl rfl (by decide) ⟨.int (lo+i),H,I1,⟨t,?_⟩,⟨rfl,rfl⟩,st',fun b hb=>(hf b hb).1⟩⟩;rw [Int.mul_one]
 done:=by intro X hP hw hK hc i pJ s σ H E I hf st hg;subst hP hw hK;obtain ⟨f0,f1,f2,f3,f4,f5⟩:=hf it (by simp);exact wpAny_pyNext_range_end (I.ok.hd hc) st (by have:n<=i:=hg;lia) fun h' eb=>⟨rfl,I.turned (t':=s.toks) (fun b o hb e=>eb b o hb e) f0 f1 f3 f4 f5⟩
 self:=fun _ _ _ _ _ st h=>wpAny_pyIter_rangeiter st h
section
variable {X:Cx}{tg:Expr}
theorem Js {pJ:List (Addr×Obj)}{σ:St}{H:Hp}{s:ω}{R:It->Hp->Prop}{E:VSP}{lo hi:Int}{t u v:Tok}{tk:Nat}(I:Inv X pJ σ H s) (h1:-(2 ^ 62)<=lo) (h2:lo < 2 ^ 62) (h3:-(2 ^ 62)<=hi) (h4:hi < 2 ^ 62)
  (q:R (Itr lo (hi - lo).toNat) H):Ξ (Φ X.prog X.w) X.A (pyIter (.ref s.heap.objs.size)) (PIE X pJ σ tg R) E { s with heap:=s.heap.push { cls:=.type "range",data:=.fields #[.int lo t,.int hi u,.int 1 v] },toks:=tk }:=by
 refine wpAny_pyIter_range (IsRange.new ..) (small_one h1 h2 h3 h4) ?_;have I1:Inv X pJ σ H { s with heap:=s.heap.push { cls:=.type "range",data:=.fields #[.int lo t,.int hi u,.int 1 v] },toks:=tk }:=I.kept fun b o e=>ο _ e
 refine ⟨(s.heap.push { cls:=.type "range",data:=.fields #[.int lo t,.int hi u,.int 1 v] }).objs.size,[(s.heap.push { cls:=.type "range",data:=.fields #[.int lo t,.int hi u,.int 1 v] }).objs.size],_,_,H,rfl,
  I1.kept (t':=tk) fun b o e=>ο _ e,Ks _ lo (hi - lo).toNat,?_,fun b hb=>?_,q⟩
 ·have e1:lo+((0:Nat):Int)*1=lo:=by simp
  have e2:(((hi - lo).toNat:Nat):Int) - ((0:Nat):Int)=ώ.Range.rangeSize lo hi 1:=by rw [rangeSize_one];split <;> lia
  show IsRangeIter _ _ (lo+((0:Nat):Int)*1) ((((hi - lo).toNat:Nat):Int) - ((0:Nat):Int)) 1
  rw [e1,e2];exact Ν _ rfl
 ·have e:b=(s.heap.push { cls:=.type "range",data:=.fields #[.int lo t,.int hi u,.int 1 v] }).objs.size:=by simpa using hb
  subst e;exact I1.fpOk (Α _) (I1.hok.fresh (Α _))
def zkF (ta:TA):TI:=fun σ H R=>ta σ H fun vs H1=>∃ j:Int,vs=[.int j]/\-(2 ^ 62)<=j/\j < 2 ^ 62/\R (Itr 0 j.toNat) H1
def zkE (ta:TA):TI:=fun σ H R=>ta σ H fun vs H1=>∃ i j:Int,vs=[.int i,.int j]/\(-(2 ^ 62)<=i/\i < 2 ^ 62/\-(2 ^ 62)<=j/\j < 2 ^ 62)/\R (Itr i (j - i).toNat) H1
theorem zar {a:Expr}{ta:TA}{p pos:Pos}(hg:Gl X "range") (hm:X.mg "range"=none) (ha:PA X [a] ta) (hs:Ϣ [a] X.env=[(false,eval a X.env)]:=by rfl):PI X tg (.Call (.Name "range" p) [a] [] pos) (zkF ta):=by
 intro pJ s σ H R I h;refine Call_ (ZG I hg hm boot_range (cj (thn (ha pos pJ s σ H _ I h) fun us s1 ⟨vs,H1,I1,r1,q1⟩=>?_) hs rfl));obtain ⟨j,e,q1,q2,q⟩:=q1;subst e;cases r1 with
 | cons r rr=>
  cases rr;obtain ⟨t,rfl⟩:=r;exact call_range_1 (Js I1 (by lia) (by lia) q1 q2 (by simpa using q))
theorem zaq {a b:Expr}{ta:TA}{p pos:Pos}(hg:Gl X "range") (hm:X.mg "range"=none) (ha:PA X [a,b] ta) (hs:Ϣ [a,b] X.env=[(false,eval a X.env),(false,eval b X.env)]:=by rfl) (hs2:Ϣ [b] X.env=[(false,eval b X.env)]:=by rfl):
  PI X tg (.Call (.Name "range" p) [a,b] [] pos) (zkE ta):=by
 intro pJ s σ H R I h;refine Call_ (ZG I hg hm boot_range (cj (thn (ha pos pJ s σ H _ I h) fun us s1 ⟨vs,H1,I1,r1,q1⟩=>?_) (by rw [hs,hs2]) (by rw [hs2];rfl)));obtain ⟨i,j,e,⟨q1,q2,q3,q4⟩,q⟩:=q1;subst e;cases r1 with
 | cons r rr=>
  cases rr with
  | cons r' rr=>
   cases rr;obtain ⟨t,rfl⟩:=r;obtain ⟨t',rfl⟩:=r';exact call_range_2 (Js I1 q1 q2 q3 q4 q)
def tFor (wi:TI) (g:TG) (tb:TS):TS:=fun D σ H=>wi σ H fun J H1=>∃ W:Nat->Nat->St->Hp->Prop,(∃ m,W 0 m σ H1)/\∀ i m σ H,W i m σ H ->
 (J.stop i H/\D.nx σ H)\/(J.go i H/\∃ N:St->Hp->Prop,(∀ σ' H',N σ' H'->∃ m',m' < m/\W (i+1) m' σ' H')/\∀ x H',J.yld i H x H'->g x σ H' fun σ2 H2=>tb { D with nx:=N,ct:=N,bk:=D.nx } σ2 H2)
noncomputable def Wb (fp:List Addr) (h:Heap):List (Addr×Obj):=fp.filterMap fun b=>(h.get? b).map fun o=>(b,o)
theorem vm {fp:List Addr}{h:Heap}{b:Addr}{o:Obj}(hb:b∈fp) (e:h.get? b=some o):(b,o)∈Wb fp h:=nZ.mpr ⟨b,hb,by rw [e];rfl⟩
theorem zaB {fp:List Addr}{h:Heap}{p:Addr×Obj}(hp:p∈Wb fp h):p.1∈fp/\h.get? p.1=some p.2:=by
 obtain ⟨b,hb,e⟩:=nZ.mp hp;cases q:h.get? b with
 | none=>rw [q] at e;cases e
 | some o=>
  rw [q] at e;have e':(b,o)=p:=ϙ e;subst e';exact ⟨hb,q⟩
theorem Inv.pinned {pJ:List (Addr×Obj)}{σ:St}{H:Hp}{s:ω}{fp:List Addr}(I:Inv X pJ σ H s) (hf:∀ b∈fp,FpOk X pJ H b) (ho:∀ b∈fp,∃ o,s.heap.get? b=some o/\∀ v,o.data≠.cell v):Inv X (pJ++Wb fp s.heap) σ H s:=
 I.VH fun p hp=>(Ζ.mp hp).elim (fun z=>I.pin p (Υ _ z)) fun z=>by obtain ⟨hb,e⟩:=zaB z;obtain ⟨f0,f1,f2,_⟩:=hf p.1 hb;obtain ⟨o,e',d⟩:=ho p.1 hb;rw [e] at e';cases e';exact ⟨e,f0,f1,f2,d⟩
theorem Inv.uc {pJ pl:List (Addr×Obj)}{σ:St}{H:Hp}{s:ω}(I:Inv X (pJ++pl) σ H s):Inv X pJ σ H s:=I.VH fun p hp=>I.pin p (Υ _ (bM _ hp))
theorem zhC {iter:Expr}{body:List Stmt}{wi:TI}{g:TG}{tb:TS}{pos:Pos}(hp:iW (Φ X.prog X.w) X.A X.env X.xe) (hc:X.calm=true) (hi:PI X tg iter wi) (hg:PG X tg g) (hb:PSs X body tb)
  (hs:∀ x,bV iter X.env x=pure x:=by intro _;rfl):PS X (.For tg iter body [] pos) (tFor wi g tb):=by
 intro pJ s σ H D I h;refine wpAny_For (thn (hi pJ s σ H _ I h) fun v s1 h1=>thn h1 fun itv s2 h2=>?_) hs;obtain ⟨it,fp,tn,J,H2,e,I2,T,st2,f2,W,⟨m0,w0⟩,turn⟩:=h2;subst e;have stat:∀ {H':Hp},(∀ b∈fp,H' b=none)->∀ b∈fp,FpOk X pJ H' b:=fun hn b hb=>⟨hn b hb,(f2 b hb).2⟩
 refine codeAny_forLoop_any (fun n s'=>∃ i σ' H',Inv X pJ σ' H' s'/\tn i s'.heap/\(∀ b∈fp,H' b=none)/\W i n σ' H') ?_ m0 ⟨0,σ,H2,I2,st2,fun b hb=>(f2 b hb).1,w0⟩;rintro n s3 ⟨i,σ3,H3,I3,st3,fr3,w3⟩;rcases turn i n σ3 H3 w3 with ⟨stop,qn⟩ | ⟨go,N,hN,step⟩
 ·refine cQ hp (thn (T.done X rfl rfl rfl hc i pJ s3 σ3 H3 X.xe I3 (stat fr3) st3 stop) fun r s4 ⟨hr,I4⟩=>?_);subst hr;exact mY ⟨σ3,H3,I4,qn⟩
 ·refine cQ hp (thn (T.item X rfl rfl rfl hc i pJ s3 σ3 H3 X.xe I3 (stat fr3) st3 go) fun r s4 ⟨u,hr,h4⟩=>?_);subst hr;refine cQ hp (thn h4 fun _ s5 ⟨x,H5,I5,r5,y5,st5,fr5⟩=>?_);have I5':=I5.pinned (stat fr5) (T.obj _ _ st5);refine cQ hp (thn (hg _ s5 σ3 H5 x u _ I5' r5 (step x H5 y5)) fun _ s6 ⟨σ6,H6,I6,q6⟩=>?_);refine cQ hp (thn (hb _ s6 σ6 H6 _ I6 q6) fun f s7 q7=>?_);have again:∀ {σ7:St}{H7:Hp},Inv X (pJ++Wb fp s5.heap) σ7 H7 s7->N σ7 H7->∃ m,m < n/\∃ i σ' H',Inv X pJ σ' H' s7/\tn i s7.heap/\(∀ b∈fp,H' b=none)/\W i m σ' H':=fun {σ7 H7} I7 n7=>by obtain ⟨m',hm,w7⟩:=hN σ7 H7 n7;refine ⟨m',hm,i+1,σ7,H7,I7.uc,T.keep _ _ _ st5 fun b hb o e=>(I7.pin (b,o) (Υ _ (Υ _ (vm hb e)))).1,fun b hb=>?_,w7⟩;obtain ⟨o,e,d⟩:=T.obj _ _ st5 b hb;exact (I7.pin (b,o) (Υ _ (Υ _ (vm hb e)))).2.1
  cases f with
  | next=>obtain ⟨σ7,H7,I7,n7⟩:=q7;exact again I7 n7
  | cont=>obtain ⟨σ7,H7,I7,n7⟩:=q7;exact again I7 n7
  | brk=>obtain ⟨σ7,H7,I7,q7⟩:=q7;exact ⟨σ7,H7,I7.uc,q7⟩
  | ret v=>obtain ⟨x7,σ7,H7,I7,r7,q7⟩:=q7;exact ⟨x7,σ7,H7,I7.uc,r7,q7⟩
end
abbrev R2:=V->V->Hp->VK->Prop
def OpR (X:Cx) (f:δ->δ->Sem δ) (r:R2):Prop:=
 ∀ (pJ:List (Addr×Obj)) (s:ω) (σ:St) (H:Hp) (x y:V) (v u:δ) (Q:VK),Inv X pJ σ H s->RelV x v->RelV y u->r x y H Q ->
  Ξ (Φ X.prog X.w) X.A (f v u) (EP X pJ σ Q) X.xe s
def UnR (X:Cx) (f:δ->Sem δ) (r:V->Hp->VK->Prop):Prop:=
 ∀ (pJ:List (Addr×Obj)) (s:ω) (σ:St) (H:Hp) (x:V) (v:δ) (Q:VK),Inv X pJ σ H s->RelV x v->r x H Q ->
  Ξ (Φ X.prog X.w) X.A (f v) (EP X pJ σ Q) X.xe s
def yI (X:Cx) (f:δ) (r:List V->Hp->VK->Prop):Prop:=
 ∀ (pJ:List (Addr×Obj)) (s:ω) (σ:St) (H:Hp) (xs:List V) (us:List δ) (Q:VK),Inv X pJ σ H s->Vals xs us->r xs H Q ->
  Ξ (Φ X.prog X.w) X.A (call f us) (EP X pJ σ Q) X.xe s
def tOp (r:R2) (ta tb:TE):TE:=fun σ H Q=>ta σ H fun x H1=>tb σ H1 fun y H2=>r x y H2 Q
def tUn (r:V->Hp->VK->Prop) (ta:TE):TE:=fun σ H Q=>ta σ H fun x H1=>r x H1 Q
def rI (C:Int->Int->Prop) (g:Int->Int->V):R2:=fun x y H Q=>∃ i j,x=.int i/\y=.int j/\C i j/\Q (g i j) H
def rI0 (g:Int->Int->V):R2:=fun x y H Q=>∃ i j,x=.int i/\y=.int j/\Q (g i j) H
def rU (g:Int->V):V->Hp->VK->Prop:=fun x H Q=>∃ i,x=.int i/\Q (g i) H
section
variable {X:Cx}{a b c:Expr}{ta tb tc:TE}{pos:Pos}
theorem binT (ha:PE X a ta) (hb:PE X b tb) {pJ:List (Addr×Obj)}{s:ω}{σ:St}{H:Hp}{R:V->V->Hp->Prop}(I:Inv X pJ σ H s)
  (h:ta σ H fun x H1=>tb σ H1 fun y H2=>R x y H2) {Q:VSP}{f:δ->δ->Sem δ}
  (hf:∀ v u s2 x y H2,Inv X pJ σ H2 s2->RelV x v->RelV y u->R x y H2->Ξ (Φ X.prog X.w) X.A (f v u) Q X.xe s2):
  Ξ (Φ X.prog X.w) X.A (eval a X.env) (fun v s₁=>Ξ (Φ X.prog X.w) X.A (eval b X.env) (fun u s₂=>Ξ (Φ X.prog X.w) X.A (f v u) Q X.xe s₂) X.xe s₁) X.xe s:=by
 refine thn (ha pJ s σ H _ I h) fun v s1 ⟨x,H1,I1,r1,q1⟩=>?_
 refine thn (hb pJ s1 σ H1 _ I1 q1) fun u s2 ⟨y,H2,I2,r2,q2⟩=>?_
 exact hf v u s2 x y H2 I2 r1 r2 q2
theorem zkj {op:gO}{r:R2}(ho:OpR X (bY op) r) (ha:PE X a ta) (hb:PE X b tb):PE X (.BinOp a op b pos) (tOp r ta tb):=by intro pJ s σ H Q I h;exact wpAny_BinOp (binT ha hb I h fun v u s2 x y H2 I2 rx ry q=>ho pJ s2 σ H2 x y v u Q I2 rx ry q)
theorem zkh {op:UnaryOp}{r:V->Hp->VK->Prop}(ho:UnR X (unaryOp op) r) (ha:PE X a ta):PE X (.UnaryOp op a pos) (tUn r ta):=by intro pJ s σ H Q I h;exact UnaryOp_ (thn (ha pJ s σ H _ I h) fun v s1 ⟨x,H1,I1,r1,q1⟩=>ho pJ s1 σ H1 x v Q I1 r1 q1)
theorem opI {f:δ->δ->Sem δ}{C:Int->Int->Prop}{g:Int->Int->Int}
  (rule:∀ (i j:Int) (t u:Tok) (s:ω) (Q:VSP) (E:VSP),C i j->Q (.int (g i j) s.toks) { s with toks:=s.toks+1 }->Ξ (Φ X.prog X.w) X.A (f (.int i t) (.int j u)) Q E s):
  OpR X f (rI C fun i j=>.int (g i j)):=by intro pJ s σ H x y v u Q I rx ry h;obtain ⟨i,j,rfl,rfl,hc,q⟩:=h;obtain ⟨t,rfl⟩:=rx;obtain ⟨t',rfl⟩:=ry;exact rule i j t t' s _ _ hc ⟨.int (g i j),H,I.tok _,⟨_,rfl⟩,q⟩
theorem opI0 {f:δ->δ->Sem δ}{g:Int->Int->Int}
  (rule:∀ (i j:Int) (t u:Tok) (s:ω) (Q:VSP) (E:VSP),Q (.int (g i j) s.toks) { s with toks:=s.toks+1 }->Ξ (Φ X.prog X.w) X.A (f (.int i t) (.int j u)) Q E s):
  OpR X f (rI0 fun i j=>.int (g i j)):=by intro pJ s σ H x y v u Q I rx ry h;obtain ⟨i,j,rfl,rfl,q⟩:=h;obtain ⟨t,rfl⟩:=rx;obtain ⟨t',rfl⟩:=ry;exact rule i j t t' s _ _ ⟨.int (g i j),H,I.tok _,⟨_,rfl⟩,q⟩
theorem opB0 {f:δ->δ->Sem δ}{g:Int->Int->Bool}
  (rule:∀ (i j:Int) (t u:Tok) (s:ω) (Q:VSP) (E:VSP),Q (.bool (g i j)) s->Ξ (Φ X.prog X.w) X.A (f (.int i t) (.int j u)) Q E s):
  OpR X f (rI0 fun i j=>.bl (g i j)):=by intro pJ s σ H x y v u Q I rx ry h;obtain ⟨i,j,rfl,rfl,q⟩:=h;obtain ⟨t,rfl⟩:=rx;obtain ⟨t',rfl⟩:=ry;exact rule i j t t' s _ _ ⟨.bl (g i j),H,I,rfl,q⟩
def CPow (i j:Int):Prop:=0<=j/\j<=1000000/\i.natAbs < 2 ^ 64
def CMul (i j:Int):Prop:=(-(2 ^ 64) < i/\i < 2 ^ 64)\/(-(2 ^ 64) < j/\j < 2 ^ 64)
theorem CMul.ok {i j:Int}(h:CMul i j):IntMulOk i j:=by
 rcases h with ⟨h1,h2⟩ | ⟨h1,h2⟩
 ·exact .of_left (intBits_le_64 h1 h2)
 ·exact .of_right (intBits_le_64 h1 h2)
theorem zh6:OpR X (bY .Add) (rI0 fun i j=>.int (i+j)):=opI0 fun _ _ _ _ _ _ _ q=>add_int q
theorem zhW:OpR X (bY .Sub) (rI0 fun i j=>.int (i - j)):=opI0 fun _ _ _ _ _ _ _ q=>sub_int q
theorem zh0:OpR X (bY .Mult) (rI CMul fun i j=>.int (i*j)):=opI fun _ _ _ _ _ _ _ hc q=>mul_int q hc.ok
theorem zh1:OpR X (bY .Mod) (rI (fun _ j=>0 < j) fun i j=>.int (i % j)):=opI fun i j _ _ _ _ _ hc q=>by have h1:(0:Int) < j:=hc;exact mod_int' (by lia) (by rw [Int.fmod_eq_emod_of_nonneg i (by lia)];exact q)
theorem zhY:OpR X (bY .Pow) (rI CPow fun i j=>.int (i ^ j.toNat)):=opI fun _ _ _ _ _ _ _ hc q=>pow_int_small hc.1 hc.2.1 hc.2.2 q
theorem unI {f:δ->Sem δ}{g:Int->Int}
  (rule:∀ (i:Int) (t:Tok) (s:ω) (Q:VSP) (E:VSP),Q (.int (g i) s.toks) { s with toks:=s.toks+1 }->Ξ (Φ X.prog X.w) X.A (f (.int i t)) Q E s):
  UnR X f (rU fun i=>.int (g i)):=by intro pJ s σ H x v Q I rx h;obtain ⟨i,rfl,q⟩:=h;obtain ⟨t,rfl⟩:=rx;exact rule i t s _ _ ⟨.int (g i),H,I.tok _,⟨_,rfl⟩,q⟩
theorem zgD:UnR X (unaryOp .USub) (rU fun i=>.int (-i)):=unI fun _ _ _ _ _ q=>neg_int q
theorem WQ {pJ:List (Addr×Obj)}{σ:St}{H:Hp}{s:ω}{Q:VK}{k k':Bool}(I:Inv X pJ σ H s) (q:Q (.bl k) H) (e:k=k'):EP X pJ σ Q (.bool k') s:=by subst e;exact ⟨.bl k,H,I,rfl,q⟩
theorem zkm:OpR X (Ϗ .Lt) (rI0 fun i j=>.bl (decide (i < j))):=opB0 fun _ _ _ _ _ _ _ q=>lt_int q
theorem zkn:OpR X (Ϗ .LtE) (rI0 fun i j=>.bl (decide (i<=j))):=opB0 fun _ _ _ _ _ _ _ q=>le_int q
theorem zko:OpR X (Ϗ .Gt) (rI0 fun i j=>.bl (decide (j < i))):=opB0 fun _ _ _ _ _ _ _ q=>gt_int q
theorem zkp:OpR X (Ϗ .GtE) (rI0 fun i j=>.bl (decide (j<=i))):=opB0 fun _ _ _ _ _ _ _ q=>ge_int q
theorem zaz:OpR X (Ϗ .In) (fun x y H Q=>∃ i j,x=.str i/\y=.str j/\Q (.bl (!(eO j i 0 j.length 1).isEmpty)) H):=by intro pJ s σ H x y v u Q I rx ry h;obtain ⟨i,j,rfl,rfl,q⟩:=h;obtain ⟨t,rfl⟩:=rx;obtain ⟨t',rfl⟩:=ry;exact in_str (WQ I q rfl)
theorem zh2:OpR X (Ϗ .Is) (fun x y H Q=>y=.non/\Q (.bl (decide (x=.non))) H):=by
 intro pJ s σ H x y v u Q I rx ry h;obtain ⟨rfl,q⟩:=h;cases ry;refine is_none_gen (WQ I q ?_);cases x <;> first
  | (cases rx;rfl)
  | (obtain ⟨t,rfl⟩:=rx;rfl)
theorem zfh:OpR X (Ϗ .IsNot) (fun x y H Q=>y=.non/\Q (.bl (!decide (x=.non))) H):=by
 intro pJ s σ H x y v u Q I rx ry h;obtain ⟨rfl,q⟩:=h;cases ry;refine isnot_none_gen (WQ I q ?_);cases x <;> first
  | (cases rx;rfl)
  | (obtain ⟨t,rfl⟩:=rx;rfl)
theorem OpR.or {f:δ->δ->Sem δ}{r r':R2}(h:OpR X f r) (h':OpR X f r'):OpR X f (fun x y H Q=>r x y H Q\/r' x y H Q):=by
 intro pJ s σ H x y v u Q I rx ry q;rcases q with q | q
 ·exact h pJ s σ H x y v u Q I rx ry q
 ·exact h' pJ s σ H x y v u Q I rx ry q
theorem zfe {op:gQ}{r:R2}(ho:OpR X (Ϗ op) r) (ha:PE X a ta) (hb:PE X b tb) (hm:lE op b=false):PE X (.Compare a [op] [b] pos) (tOp r ta tb):=by intro pJ s σ H Q I h;exact wpAny_Compare1 (binT ha hb I h fun v u s2 x y H2 I2 rx ry q=>ho pJ s2 σ H2 x y v u Q I2 rx ry q) hm
def zgP (t:TE):TT:=fun σ H Q=>t σ H fun x H'=>∃ k,x=.bl k/\Q k H'
theorem ze2 {op:gQ}{r:R2}(ho:OpR X (Ϗ op) r) (ha:PE X a ta) (hb:PE X b tb) (hm:lE op b=false):PT X (.Compare a [op] [b] pos) (zgP (tOp r ta tb)):=by
 intro pJ s σ H Q I h
 refine wpAny_isTrue_Compare1 (thn (ha pJ s σ H _ I h) fun v s1 ⟨x,H1,I1,r1,q1⟩=>thn (hb pJ s1 σ H1 _ I1 q1) fun u s2 ⟨y,H2,I2,r2,q2⟩=>
  thn (ho pJ s2 σ H2 x y v u _ I2 r1 r2 q2) fun c s3 ⟨z,H3,I3,r3,k,e,q3⟩=>?_) hm
 subst e;cases r3;exact ak ⟨H3,I3,q3⟩
def QQ (r r':R2) (ta tb tc:TE):TE:=fun σ H Q=>ta σ H fun x H1=>tb σ H1 fun y H2=>r x y H2 fun z H3=>∃ k,z=.bl k /\
 (if k=true then tc σ H3 fun w' H4=>r' y w' H4 Q else Q (.bl false) H3)
theorem zcF {op op':gQ}{r r':R2}(ho:OpR X (Ϗ op) r) (ho':OpR X (Ϗ op') r') (ha:PE X a ta) (hb:PE X b tb) (hc:PE X c tc)
  (hm:lastMarks [op,op'] [b,c]=false:=by with_unfolding_all rfl):PE X (.Compare a [op,op'] [b,c] pos) (QQ r r' ta tb tc):=by
 intro pJ s σ H Q I h
 refine Compare_chain (thn (ha pJ s σ H _ I h) fun v s1 ⟨x,H1,I1,r1,q1⟩=>chain_link (thn (hb pJ s1 σ H1 _ I1 q1) fun u s2 ⟨y,H2,I2,r2,q2⟩=>
  thn (ho pJ s2 σ H2 x y v u _ I2 r1 r2 q2) fun d s3 ⟨z,H3,I3,r3,k,e,q3⟩=>?_)) hm
 subst e;cases r3;refine ak ?_;cases k with
 | false=>exact ite_ff ⟨.bl false,H3,I3,rfl,q3⟩
 | true=>exact ite_tt (chain_last (thn (hc pJ s3 σ H3 _ I3 q3) fun w' s4 ⟨z',H4,I4,r4,q4⟩=>ho' pJ s4 σ H4 y z' u w' Q I4 r2 r4 q4))
theorem zcr {op op':gQ}{r r':R2}(ho:OpR X (Ϗ op) r) (ho':OpR X (Ϗ op') r') (ha:PE X a ta) (hb:PE X b tb) (hc:PE X c tc)
  (hm:lastMarks [op,op'] [b,c]=false:=by with_unfolding_all rfl):PT X (.Compare a [op,op'] [b,c] pos) (zgP (QQ r r' ta tb tc)):=by
 intro pJ s σ H Q I h
 refine isTrue_chain (thn (ha pJ s σ H _ I h) fun v s1 ⟨x,H1,I1,r1,q1⟩=>test_link (thn (hb pJ s1 σ H1 _ I1 q1) fun u s2 ⟨y,H2,I2,r2,q2⟩=>
  thn (ho pJ s2 σ H2 x y v u _ I2 r1 r2 q2) fun d s3 ⟨z,H3,I3,r3,k,e,q3⟩=>?_)) hm
 subst e;cases r3;refine ak ?_;cases k with
 | false=>
  obtain ⟨k',e',q'⟩:=q3;cases e';exact ite_ff ⟨H3,I3,q'⟩
 | true=>
  refine ite_tt (test_last (thn (hc pJ s3 σ H3 _ I3 q3) fun w' s4 ⟨z',H4,I4,r4,q4⟩=>thn (ho' pJ s4 σ H4 y z' u w' _ I4 r2 r4 q4) fun d' s5 ⟨z2,H5,I5,r5,k2,e2,q5⟩=>?_));subst e2;cases r5;exact ak ⟨H5,I5,q5⟩
theorem ZF:(sizeLine:Nat) < 2 ^ 63:=by rw [aF];decide
theorem KY:OpR X (bY .Add) (fun x y H Q=>∃ i j,x=.str i/\y=.str j/\i.length+j.length<=sizeLine/\Q (.str (i++j)) H):=by intro pJ s σ H x y v u Q I rx ry h;obtain ⟨i,j,rfl,rfl,hz,q⟩:=h;obtain ⟨t,rfl⟩:=rx;obtain ⟨t',rfl⟩:=ry;exact add_str (fun t' tk=>⟨.str (i++j),H,I.tok _,⟨_,rfl⟩,q⟩) hz
theorem vals1 {x:V}{us:List δ}(r:Vals [x] us):∃ u,us=[u]/\RelV x u:=by
 cases r with
 | cons r1 r2=>cases r2;exact ⟨_,rfl,r1⟩
theorem zdo:yI X (.builtin "abs") (fun xs H Q=>∃ i,xs=[.int i]/\Q (.int (if i < 0 then -i else i)) H):=by intro pJ s σ H xs us Q I r h;obtain ⟨i,rfl,q⟩:=h;obtain ⟨u,rfl,t,rfl⟩:=vals1 r;exact call_abs_int fun u tk=>⟨.int (if i < 0 then -i else i),H,I.tok _,⟨_,rfl⟩,q⟩
theorem W8:yI X (.type "int") (fun xs H Q=>(∃ i,xs=[.int i]/\Q (.int i) H)\/∃ k,xs=[.bl k]/\Q (.int (if k then 1 else 0)) H):=by
 intro pJ s σ H xs us Q I r h;rcases h with ⟨i,rfl,q⟩ | ⟨k,rfl,q⟩
 ·obtain ⟨u,rfl,t,rfl⟩:=vals1 r;exact call_int_int ⟨.int i,H,I,⟨_,rfl⟩,q⟩
 ·obtain ⟨u,rfl,r1⟩:=vals1 r;cases r1;exact call_int_bool ⟨.int (if k then 1 else 0),H,I.tok _,⟨_,rfl⟩,q⟩
end
structure ObjM (h:Heap) (x dx C:Addr) (mA:Str->Option δ):Prop where
 obj:h.get? x=some (W.instObj C dx)
 ns:h.Ns1 dx mA
 ne:dx≠x
set_option tactic.hygienic true in
theorem zaN {h:Heap}{dx:Addr}{mA:Str->Option δ}(n:h.Ns1 dx mA):∃ od,h.get? dx=some od/\∀ name,W.lookIn name od=some (mA name):=by
 obtain ⟨o,es,ep,ho,hd,hk,_,hm⟩:=n;refine ⟨o,ho,fun name=>?_⟩;have e:=hm name;unfold nsFind findBy at e;rw [<- Array.find?_toList] at e;unfold W.lookIn;rw [hd];dsimp only;split
 ·rename_i y q
  rw [q] at e;exact congrArg some e
 ·rename_i q
  rw [q] at e;have a:es.toList.any (·.refKey)=false:=by rw [List.any_eq_false];intro y hy;obtain ⟨z,t,hkey⟩:=hk y (Array.mem_toList_iff.mp hy);simp [mG.refKey,hkey]
  have a':¬ es.toList.any (·.refKey)=true:=by rw [a];exact ϓ
  rw [if_neg a'];exact congrArg some e
theorem ObjM.look {h:Heap}{x dx C:Addr}{mA:Str->Option δ}(I:ObjM h x dx C mA):∃ od,W.InstAt h x (W.instObj C dx) C (some od)/\∀ name,W.lookIn name od=some (mA name):=
 let ⟨od,ho,hl⟩:=zaN I.ns
 ⟨od,⟨I.obj,rfl,rfl,ho⟩,hl⟩
theorem RelO.some_of {v:V}{o:Option δ}(r:RelO (some v) o):∃ u,o=some u/\RelV v u:=by
 cases o with
 | none=>exact (show False from r).elim
 | some u=>exact ⟨u,rfl,r⟩
section
variable {P:Ψ}{w:ϕ}{H H':Hp}{h h':Heap}{a C dx:Addr}{fs fs':List (Str×V)}
theorem zfN (hok:HOk P w H h) (e:H a=some (.ins C dx fs)):∃ mA,ObjM h a dx C mA/\(∀ f,RelO (fs.lookup f) (mA f))/\PySem.Within mA (fs.map (·.1))/\fs.length<=1000/\H dx=some (.own a):=by
 obtain ⟨d,z,ne,ob,mA,n,r,q⟩:=(show z8 P w H h a (.ins C dx fs) from hok a _ e)
 exact ⟨mA,⟨ob,n,ne⟩,r,q,z,d⟩
end
structure Cls (K:W.Frag) (C:Addr):Prop where
 pg:W.plainGet K C Str.empty=true
 hd:W.hasDictIn K C=true
 po:W.plainOver K C=true
 sa:W.findIn K (.ref C) "__setattr__"=some (some (.builtin "object.__setattr__"))
theorem Cls.get {K:W.Frag}{C:Addr}(c:Cls K C) (f:Str):W.plainGet K C f=true:=c.pg
def zji (K:W.Frag) (C:Addr) (f:Str):Prop:=W.findIn K (.ref C) f=some none
structure Meth (K:W.Frag) (C:Addr) (m:Str) (f:Addr):Prop where
 at_:W.findIn K (.ref C) m=some (some (.ref f))
 fn:W.isFn K (.ref f)=true
 kp:W.keepIn K (.ref f)=true
section
variable {X:Cx}{pJ:List (Addr×Obj)}{σ:St}{H:Hp}{s:ω}{A:ϡ}{E:VSP}{Q:VSP}{c:δ}{b:Bool}
inductive TyOf (K:W.Frag) (H:Hp):V->δ->Prop where
 | non:TyOf K H .non (.type "NoneType")
 | bl (x:Bool):TyOf K H (.bl x) (.type "bool")
 | int (i:Int):TyOf K H (.int i) (.type "int")
 | str (x:Str):TyOf K H (.str x) (.type "str")
 | flt (x:UInt64):TyOf K H (.flt x) (.type "float")
 | lst {a:Addr}{xs:List V}(e:H a=some (.lst xs)):TyOf K H (.ref a) (.type "list")
 | frz {a:Addr}{o:Obj}{xs:List V}(e:H a=some (.frz o (.lst xs))):TyOf K H (.ref a) (.type "list")
 | tup {a:Addr}{xs:List V}(e:H a=some (.tup xs)):TyOf K H (.ref a) (.type "tuple")
 | dK {a:Addr}{kvs:List (Key×V)}(e:H a=some (.dK kvs)):TyOf K H (.ref a) (.type "dict")
 | dT {a:Addr}{kvs:List (List Key×V)}(e:H a=some (.dT kvs)):TyOf K H (.ref a) (.type "dict")
 | ins {a C dx:Addr}{fs:List (Str×V)}(e:H a=some (.ins C dx fs)) (cl:Cls K C) (ha:W.findIn K (.ref C) "__class__"=some (some (.builtin "object.__class__")))
   (hn:W.specialIn K (.builtin "object.__class__") "__get__"=some (some (.builtin "getset_descriptor.__get__"))) (htk:W.takesIn K (.builtin "object.__class__")=some true)
   (hm:W.mroIn K C (.type "object")=some true):TyOf K H (.ref a) (.ref C)
theorem za5 {x:V}{u t:δ}(I:Inv X pJ σ H s) (rx:RelV x u) (ty:TyOf X.K H x t) (e:W.kitOne X.K t c=some b) (h:∀ tk,Q (.bool b) { s with toks:=tk }):
  Ξ (Φ X.prog X.w) A (call (.builtin "isinstance") [u,c]) Q E s:=by
 cases ty with
 | non=>cases (show u=ϩ from rx);exact W.kia_one W.kitx_none I.kIn ϳ e (fun z=>nomatch z) h
 | bl y=>cases (show u=Ϡ y from rx);exact W.kia_one W.kitx_bool I.kIn ϳ e (fun z=>nomatch z) h
 | int i=>obtain ⟨t,q⟩:=(show ∃ t,u=aj i t from rx);cases q;exact W.kia_one W.kitx_int I.kIn ϳ e (fun z=>nomatch z) h
 | str y=>obtain ⟨t,q⟩:=(show ∃ t,u=aW y t from rx);cases q;exact W.kia_one W.kitx_str I.kIn ϳ e (fun z=>nomatch z) h
 | flt y=>obtain ⟨t,q⟩:=(show ∃ t,u=δ.float y t from rx);cases q;exact W.kia_one W.kitx_float I.kIn ϳ e (fun z=>nomatch z) h
 | @lst a xs ea=>
  cases (show u=Ϟ a from rx);obtain ⟨_,_,n,_,h1⟩:=(show z8 X.prog X.w H s.heap a (.lst xs) from I.hok a _ ea)
  exact W.kia_one W.kitx_list I.kIn ⟨_,h1,rfl⟩ e (fun z=>nomatch z) h
 | @frz a ob xs ea=>
  cases (show u=Ϟ a from rx);obtain ⟨_,_,_,n,_,h1⟩:=(show z8 X.prog X.w H s.heap a (.frz ob (.lst xs)) from I.hok a _ ea)
  exact W.kia_one W.kitx_list I.kIn ⟨_,h1,rfl⟩ e (fun z=>nomatch z) h
 | @tup a xs ea=>
  cases (show u=Ϟ a from rx);obtain ⟨_,_,_,p⟩:=(show z8 X.prog X.w H s.heap a (.tup xs) from I.hok a _ ea)
  obtain ⟨o,h1,h2,_⟩:=p;exact W.kia_one W.kitx_tuple I.kIn ⟨o,h1,h2⟩ e (fun z=>nomatch z) h
 | @dK a kvs ea=>
  cases (show u=Ϟ a from rx);obtain ⟨_,_,vs,_,p⟩:=(show z8 X.prog X.w H s.heap a (.dK kvs) from I.hok a _ ea)
  obtain ⟨o,es,ep,h1,h2,_⟩:=p;exact W.kia_one W.kitx_dict I.kIn ⟨o,h1,h2.1⟩ e (fun z=>nomatch z) h
 | @dT a kvs ea=>
  cases (show u=Ϟ a from rx);obtain ⟨_,_,xs,_,o,es,ep,h1,h2,_⟩:=(show z8 X.prog X.w H s.heap a (.dT kvs) from I.hok a _ ea)
  exact W.kia_one W.kitx_dict I.kIn ⟨o,h1,h2.1⟩ e (fun z=>nomatch z) h
 | @ins a C dx fs ea cl ha hn htk hm=>
  cases (show u=Ϟ a from rx);obtain ⟨mA,O,_⟩:=zfN I.hok ea;obtain ⟨od,J,_⟩:=O.look;exact W.kia_one (W.kitx_own (cl.get _) cl.hd ha hn htk hm) I.kIn J e (fun z=>nomatch z) h
end
structure Room (k:Nat) (A:ϡ):Prop where
 hd:A.handled=none
 gd:A.guards=some []
 dp:A.depth+3*k+5 < recursionLimit
 un:A.units+16*k+200 < Ϸ
theorem Room.mono {j k:Nat}{A:ϡ}(r:Room k A) (h:j<=k):Room j A:=⟨r.hd,r.gd,by have:=r.dp;lia,by have:=r.un;lia⟩
theorem Room.deeper {k:Nat}{A:ϡ}(r:Room (k+1) A) (env:Env):Room k (A.deeper env):=
 ⟨r.hd,r.gd,by have:=r.dp;show A.depth+1+3*k+5 < _;lia,by have:=r.un;show A.units+3+16*k+200 < _;lia⟩
theorem Room.in1 {k:Nat}{A:ϡ}(r:Room (k+1) A):Room k A.in1:=
 ⟨r.hd,r.gd,by have:=r.dp;show A.depth+3*k+5 < _;lia,by have:=r.un;show A.units+1+16*k+200 < _;lia⟩
theorem Room.depth {k:Nat}{A:ϡ}(r:Room k A):A.depth < recursionLimit:=by have:=r.dp;lia
theorem Room.units {k:Nat}{A:ϡ}(r:Room k A):A.units+64 < Ϸ:=by have:=r.un;lia
def tNil:TA:=fun _ H Q=>Q [] H
def zgT (ta:TE) (tr:TA):TA:=fun σ H Q=>ta σ H fun x H1=>tr σ H1 fun xs H2=>Q (x::xs) H2
section
variable {X:Cx}{e:Expr}{es:List Expr}{te:TE}{t:TA}{pos:Pos}
theorem wK:PA X [] tNil:=fun _ _ _ _ H Q I h=>Calls.spliced_nil ⟨[],H,I,.nil,h⟩
theorem yw (ha:PE X e te) (hr:PA X es t) (hs:Ϣ (e::es) X.env=(false,eval e X.env)::Ϣ es X.env:=by rfl):PA X (e::es) (zgT te t):=by
 intro pos pJ s σ H Q I h;rw [hs];show Ξ _ _ (spliced ((false,eval e X.env)::eU pos (Ϣ es X.env))) _ _ s
 refine Calls.spliced_cons (thn (ha pJ s σ H _ I h) fun u s1 ⟨x,H1,I1,r1,q1⟩=>?_);exact thn (hr pos pJ s1 σ H1 _ I1 q1) fun us s2 ⟨xs,H2,I2,r2,q2⟩=>⟨x::xs,H2,I2,.cons r1 r2,q2⟩
def tTup (t:TA):TE:=fun σ H Q=>t σ H fun xs H1=>xs.length<=sizeLine/\∀ p,H1 p=none->Q (.ref p) (upd H1 p (.tup xs))
def tLst (t:TA):TE:=fun σ H Q=>t σ H fun xs H1=>xs.length<=sizeLine/\∀ p,H1 p=none->Q (.ref p) (upd H1 p (.lst xs))
theorem zhJ {x1} (h:PA X es t):PE X (.Tuple es x1 pos) (tTup t):=by intro pJ s σ H Q I hq;refine wpAny_Tuple_spliced (thn (h pos pJ s σ H _ I hq) fun us s1 ⟨xs,H1,I1,r,z,q⟩=>⟨by rw [<- r.length];exact z,?_⟩);have hf:H1 s1.heap.objs.size=none:=I1.hok.fresh (Α _);refine ⟨.ref s1.heap.objs.size,upd H1 s1.heap.objs.size (.tup xs),I1.laid (t':=s1.toks) (fun b u e=>ο _ e) (Α _) ?_,rfl,q _ hf⟩;exact ⟨z,us,r,⟨_,Ν _ rfl,rfl,_,rfl⟩⟩
theorem zhN (h:PA X es t):PE X (.List es pos) (tLst t):=by intro pJ s σ H Q I hq;refine wpAny_List_spliced (thn (h pos pJ s σ H _ I hq) fun us s1 ⟨xs,H1,I1,r,z,q⟩=>⟨by rw [<- r.length];exact z,?_⟩);have hf:H1 s1.heap.objs.size=none:=I1.hok.fresh (Α _);refine ⟨.ref s1.heap.objs.size,upd H1 s1.heap.objs.size (.lst xs),I1.laid (t':=s1.toks) (fun b u e=>ο _ e) (Α _) ?_,rfl,q _ hf⟩;exact ⟨z,us,0,r,Ν _ rfl⟩
end
abbrev Sp:=List V->Hp->VK->XK->Prop
abbrev CXT:=List Env->Hp->ω->XK->δ->ω->Prop
structure Env0 (P:Ψ) (w:ϕ) (K:W.Frag) (mg:Str->Option δ) (base:Heap) (A:ϡ) (outer:List Env) (s:ω) (H:Hp):Prop where
 frames:A.frames=some outer
 mod:Mod K mg base
 bs:∀ b o,base.get? b=some o->s.heap.get? b=some o/\H b=none
 bsz:base.objs.size<=s.heap.objs.size
 funs:s.heap.FunFrames base outer
 frf:∀ b∈frs outer,H b=none
 hok:HOk P w H s.heap
 bare:gm s.gens
def CE (outer:List Env) (P:Ψ) (w:ϕ) (H:Hp) (s:ω) (Q:VK) (u:δ) (s':ω):Prop:=
 ∃ v H',s'.os=s.os/\gm s'.gens/\Un (frs outer) [] H H' s.heap s'.heap/\HOk P w H' s'.heap/\RelV v u/\Q v H'
def CR (CX:CXT) (outer:List Env) (P:Ψ) (w:ϕ) (H:Hp) (s:ω) (Q:VK) (E:XK) (r:Result) (s':ω):Prop:=
 match r with
 | .ok (.ret u)=>CE outer P w H s Q u s'
 | .ok _=>False
 | .error e=>CX outer H s E e s'
structure FnOk (P:Ψ) (w:ϕ) (K:W.Frag) (mg:Str->Option δ) (base:Heap) (CX:CXT) (k:Nat) (f:Addr) (fd:bw) (ps:List Str) (sp:Sp):Prop where
 len:∀ vs H Q E,sp vs H Q E->vs.length=ps.length
 run:∀ (A:ϡ) (outer:List Env) (s:ω) (H:Hp) (args:Args) (us:List δ) (vs:List V) (Q:VK) (E:XK),Room k A->Env0 P w K mg base A outer s H->BindsTo s fd args (ps.zip us)->Vals vs us->sp vs H Q E ->
  lL (Φ P w) A (.call (.ref f) args) (CR CX outer P w H s Q E) s
theorem FnOk.mono {P:Ψ}{w:ϕ}{K:W.Frag}{mg:Str->Option δ}{base:Heap}{CX:CXT}{j k:Nat}{f:Addr}{fd:bw}{ps:List Str}{sp:Sp}(F:FnOk P w K mg base CX j f fd ps sp) (h:j<=k):
  FnOk P w K mg base CX k f fd ps sp:=⟨F.len,fun A outer s H args us vs Q E hr=>F.run A outer s H args us vs Q E (hr.mono h)⟩
theorem FnOk.imp {P:Ψ}{w:ϕ}{K:W.Frag}{mg:Str->Option δ}{base:Heap}{CX:CXT}{k:Nat}{f:Addr}{fd:bw}{ps:List Str}{sp sp':Sp}(F:FnOk P w K mg base CX k f fd ps sp)
  (h:∀ vs H Q E,sp' vs H Q E->sp vs H Q E):FnOk P w K mg base CX k f fd ps sp':=
 ⟨fun vs H Q E q=>F.len vs H Q E (h _ _ _ _ q),fun A outer s H args us vs Q E hr he hb hv hs=>F.run A outer s H args us vs Q E hr he hb hv (h _ _ _ _ hs)⟩
theorem Env0.in1 {P:Ψ}{w:ϕ}{K:W.Frag}{mg:Str->Option δ}{base:Heap}{A:ϡ}{outer:List Env}{s:ω}{H:Hp}(e:Env0 P w K mg base A outer s H):
  Env0 P w K mg base A.in1 outer s H:=⟨e.frames,e.mod,e.bs,e.bsz,e.funs,e.frf,e.hok,e.bare⟩
section
variable {X:Cx}{pJ:List (Addr×Obj)}{σ:St}{H:Hp}{s s':ω}
theorem Inv.env0 (I:Inv X pJ σ H s):Env0 X.prog X.w X.K X.mg X.base X.A X.stack s H:=
 ⟨I.ok.frames,I.ok.mod,I.bs,Ϛ I.ok.bsz I.sz,I.stack,I.Vw,I.hok,I.bare⟩
theorem Inv.after {Q:VK}{u:δ}(I:Inv X pJ σ H s) (h:CE X.stack X.prog X.w H s Q u s'):EP X pJ σ Q u s':=by obtain ⟨v,H',os,bare,un,hok,r,q⟩:=h;obtain ⟨hh,g,d,t,os'⟩:=s';obtain rfl:os'=s.os:=os;exact ⟨v,H',I.call (h':=hh) (g':=g) (d':=d) (t':=t) (ch:=[]) un hok bare (fun b z=>absurd z (by simp)),r,q⟩
end
def zjw (sp:Sp) (dvs:List V) (E:XK) (t:TA):TE:=fun σ H Q=>t σ H fun vs H1=>sp (vs++dvs) H1 Q E
def Binds (K:W.Frag) (fd:bw) (ps:List Str) (ds:List δ):Prop:=
 ∀ (s:ω) (us:List δ),K.In s.heap->(us++ds).length=ps.length->BindsTo s fd ⟨us,[]⟩ (ps.zip (us++ds))
theorem Binds.all {K:W.Frag}{fd:bw}{ps:List Str}(h:∀ us:List δ,us.length=ps.length->bindArgs fd ⟨us,[]⟩=pure (ps.zip us)):Binds K fd ps []:=fun s us _ hl=>by rw [Δ] at hl ⊢;exact .of_eq (h us hl)
def zbW (CX:CXT) (X:Cx) (E:XK):Prop:=∀ (pJ:List (Addr×Obj)) (σ:St) (H:Hp) (s:ω) (e:δ) (s':ω),Inv X pJ σ H s->CX X.stack H s E e s'->X.xe e s'
section
variable {X:Cx}{CX:CXT}{k:Nat}{f C:Addr}{fd:bw}{ps:List Str}{sp:Sp}{dvs:List V}{ds:List δ}{E:XK}{x m:Str}{p pos apos:Pos}{e o:Expr}{es:List Expr}{ta:TE}{t:TA}
theorem zdK {pJ:List (Addr×Obj)}{σ:St}{H:Hp}{s:ω}{Q:VK}{us:List δ}{vs:List V}(F:FnOk X.prog X.w X.K X.mg X.base CX k f fd ps sp) (hr:Room k X.A) (hb:Binds X.K fd ps ds) (hd:Vals dvs ds) (hx:zbW CX X E)
  (I:Inv X pJ σ H s) (r:Vals vs us) (h:sp (vs++dvs) H Q E):Ξ (Φ X.prog X.w) X.A (call (.ref f) us) (EP X pJ σ Q) X.xe s:=by
 have r2:Vals (vs++dvs) (us++ds):=r.append hd;have hl:(us++ds).length=ps.length:=by rw [<- r2.length];exact F.len _ _ _ _ h
 refine wpAny_call (g8 (F.run X.A X.stack s H ⟨us,[]⟩ (us++ds) (vs++dvs) Q E hr I.env0 (hb s us I.kIn hl) r2 h) fun r s' hq=>?_);cases r with
 | error e=>exact hx pJ σ H s e s' I hq
 | ok fl=>
  cases fl with
  | ret u=>exact I.after hq
  | next=>exact au hq
  | brk=>exact au hq
  | cont=>exact au hq
theorem zff (F:FnOk X.prog X.w X.K X.mg X.base CX k f fd ps sp) (hr:Room k X.A) (hg:Gl X x) (hm:X.mg x=some (.ref f)) (hk:W.keepIn X.K (.ref f)=true) (hb:Binds X.K fd ps ds) (hd:Vals dvs ds) (hx:zbW CX X E)
  (ha:PA X (e::es) t) (hdb:(x==("__debug__":Str))=false:=by decide) (he:Ϣ (e::es) X.env=(false,eval e X.env)::Ϣ es X.env:=by rfl) (hpl:(eU pos (Ϣ es X.env)).any (·.1)=false:=by rfl):
  PE X (.Call (.Name x p) (e::es) [] pos) (zjw sp dvs E t):=by intro pJ s σ H Q I h;refine fO (zaQ I hg hm ?_ hdb);refine W.callWith_K (h₀:=X.base) I.ok.mod.kin hk (thn (ha pos pJ s σ H _ I h) fun us s1 ⟨vs,H1,I1,r,q⟩=>⟨I1.kIn,?_⟩) he hpl;exact zdK F hr hb hd hx I1 r q
structure Mk (K:W.Frag) (C f:Addr):Prop where
 makes:W.makesIn K C=true
 init:W.findIn K (.ref C) "__init__"=some (some (.ref f))
 fn:W.isFn K (.ref f)=true
 kp:W.keepIn K (.ref C)=true
end
def PK (X:Cx) (kws:List cY) (t:TA):Prop:=
 ∀ (pos:Pos) (pJ:List (Addr×Obj)) (s:ω) (σ:St) (H:Hp) (Q:List V->Hp->Prop),Inv X pJ σ H s->t σ H Q->Ξ (Φ X.prog X.w) X.A (evalAll ((backToKw pos (iG kws X.env)).map (·.2))) (AP X pJ σ Q) X.xe s
section
variable {X:Cx}{CX:CXT}{k:Nat}{f C:Addr}{fd:bw}{ps ks:List Str}{sp:Sp}{E:XK}{x m:Str}{p pos apos kpos:Pos}{e o:Expr}{es:List Expr}{kws:List cY}{te ta:TE}{t tk:TA}{nm:Option Str}
theorem zhG:PK X [] tNil:=fun _ _ _ _ H Q I h=>wpAny_evalAll_nil ⟨[],H,I,.nil,h⟩
theorem zfa (ha:PE X e te) (hr:PK X kws t):PK X (⟨nm,e,kpos⟩::kws) (zgT te t):=by
 intro pos pJ s σ H Q I h;show Ξ _ _ (evalAll ((do let v <- eval e X.env;standAt pos;pure v)::(backToKw pos (iG kws X.env)).map (·.2))) _ _ s
 refine wpAny_evalAll_cons (η (thn (ha pJ s σ H _ I h) fun u s1 ⟨x,H1,I1,r1,q1⟩=>η (lC (ς ?_))));exact thn (hr pos pJ s1 σ H1 _ I1 q1) fun us s2 ⟨xs,H2,I2,r2,q2⟩=>⟨x::xs,H2,I2,.cons r1 r2,q2⟩
structure zjj (K:W.Frag) (fd:bw) (ps ks:List Str) (g:List δ->List δ->List δ) (gV:List V->List V->List V):Prop where
 to:∀ (s:ω) (us ws:List δ),K.In s.heap->(g us ws).length=ps.length->BindsTo s fd ⟨us,ks.zip ws⟩ (ps.zip (g us ws))
 rel:∀ {vs:List V}{us:List δ}{zs:List V}{ws:List δ},Vals vs us->Vals zs ws->Vals (gV vs zs) (g us ws)
variable {g:List δ->List δ->List δ}{gV:List V->List V->List V}
end
structure Xk (N P:List Str) (sc:dD):Prop where
 kind:sc.kind=.function
 co:sc.isCoroutine=false
 gen:sc.isGenerator=false
 nd:N.Nodup
 pre:N.take P.length=P
 par:∀ x∈P,sc.names.lookup x=some .local\/sc.names.lookup x=some .cell
 nofree:∀ y∈sc.names,y.2≠.free
theorem Va {kindOf:Str->Option ϯ}{x:Str}:∀ {binds:List (Str×δ)}{m:Str->Option δ},(∀ v,(x,v) ∉ binds)->bindL kindOf binds m x=m x
 | [],_,_=>rfl
 | (n,v)::r,m,h=>by
  unfold bindL;rw [Va fun w hw=>h w (ι _ hw)];split
  ·have:x≠n:=by rintro rfl;exact h v θ
   simp [this]
  ·rfl
theorem Vc {kindOf:Str->Option ϯ}{x:Str}:∀ {binds:List (Str×δ)}{m:Str->Option δ},(∀ v,(x,v) ∉ binds)->bindC kindOf binds m x=m x
 | [],_,_=>rfl
 | (n,v)::r,m,h=>by
  unfold bindC;rw [Vc fun w hw=>h w (ι _ hw)];split
  ·rfl
  ·have:x≠n:=by rintro rfl;exact h v θ
   simp [this]
theorem Vb {kindOf:Str->Option ϯ}{x:Str}{v:δ}:∀ {P:List Str}{vs:List δ}{i:Nat}{m:Str->Option δ},P.Nodup->P[i]?=some x->vs[i]?=some v->kindOf x=some .local ->
  bindL kindOf (P.zip vs) m x=some v
 | [],_,_,_,_,h,_,_=>by simp at h
 | _::_,[],_,_,_,_,h,_=>by simp at h
 | p::P,w::vs,0,m,nd,h1,h2,hk=>by
  simp at h1 h2;subst h1;subst h2;show bindL kindOf ((p,w)::P.zip vs) m p=_
  unfold bindL;rw [Va fun v hv=>(bf.mp nd).1 (d7 hv).1,if_pos hk];simp
 | p::P,w::vs,i+1,m,nd,h1,h2,hk=>by
  show bindL kindOf ((p,w)::P.zip vs) m x=_
  unfold bindL;exact Vb (i:=i) (bf.mp nd).2 (by simpa using h1) (by simpa using h2) hk
theorem Vd {kindOf:Str->Option ϯ}{x:Str}{v:δ}:∀ {P:List Str}{vs:List δ}{i:Nat}{m:Str->Option δ},P.Nodup->P[i]?=some x->vs[i]?=some v->kindOf x≠some .local ->
  bindC kindOf (P.zip vs) m x=some v
 | [],_,_,_,_,h,_,_=>by simp at h
 | _::_,[],_,_,_,_,h,_=>by simp at h
 | p::P,w::vs,0,m,nd,h1,h2,hk=>by
  simp at h1 h2;subst h1;subst h2;show bindC kindOf ((p,w)::P.zip vs) m p=_
  unfold bindC;rw [Vc fun v hv=>(bf.mp nd).1 (d7 hv).1,if_neg hk];simp
 | p::P,w::vs,i+1,m,nd,h1,h2,hk=>by
  show bindC kindOf ((p,w)::P.zip vs) m x=_
  unfold bindC;exact Vd (i:=i) (bf.mp nd).2 (by simpa using h1) (by simpa using h2) hk
noncomputable def start (N:List Str) (vs:List V):St:=vs.map some++Κ (N.length - vs.length) none
noncomputable def cxOf (CX:CXT) (P:Ψ) (w:ϕ) (K:W.Frag) (mg:Str->Option δ) (base:Heap) (N:List Str) (qual:Str) (scope:dD) (f:Addr) (cd:δ) (A:ϡ) (outer:List Env) (s:ω) (H:Hp) (E:XK):Cx where
 prog:=P
 w:=w
 K:=K
 mg:=mg
 base:=base
 A:=A.deeper (lF qual scope s.heap.objs.size f cd)
 N:=N
 sy:=s
 Hz:=H
 env:=lF qual scope s.heap.objs.size f cd
 outer:=outer
 stack:=lF qual scope s.heap.objs.size f cd::outer
 ex:=[]
 calm:=true
 fn:=fun _=>true
 pn:=[]
 xe:=fun e s'=>Ξ (Φ P w) (A.deeper (lF qual scope s.heap.objs.size f cd)) (leaving (lF qual scope s.heap.objs.size f cd) e) (fun _ s''=>CX outer H s E e s'') (fun e' s''=>CX outer H s E e' s'') s'
theorem Xb {sc:dD}{n:Nat}{x:Str}(h:sc.names.lookup x=some .cell):∃ c,(cellsFrom n sc.names []).lookup x=some c:=by have q:=W.cellsFrom_some sc.names n [] (.inl h);exact lX.mp q
theorem za8 {CX:CXT}{P:Ψ}{w:ϕ}{K:W.Frag}{mg:Str->Option δ}{base:Heap}{N ps:List Str}{qual:Str}{scope:dD}{f:Addr}{cd:δ}{A:ϡ}{outer:List Env}{s s1:ω}{H:Hp}{E:XK}{us:List δ}{vs:List V}
  (S:Xk N ps scope) (hd:A.handled=none) (e0:Env0 P w K mg base A outer s H) (hl:vs.length=ps.length) (r:Vals vs us)
  (x:InCallC s s.heap.objs.size (bindL (lF qual scope s.heap.objs.size f cd).kindOf (ps.zip us) fun _=>none) (cellsFrom (s.heap.objs.size+1) scope.names []) (bindC (lF qual scope s.heap.objs.size f cd).kindOf (ps.zip us) fun _=>none) s1):
  Inv (cxOf CX P w K mg base N qual scope f cd A outer s H E) [] (start N vs) H s1:=by
 have hpl:ps.length<=N.length:=by have:=congrArg gU S.pre;rw [ϛ] at this;lia
 obtain ⟨h1,tk,rfl,hk⟩:=x.done;have noA:∀ b:Addr,b ∉ (cxOf CX P w K mg base N qual scope f cd A outer s H E).ex:=fun b z=>absurd (show b∈([]:List Addr) from z) (by simp)
 refine ⟨⟨e0.mod,S.kind,rfl,rfl,Α _,fun y z c h1 h2=>?_,fun y hy=>?_,fun y c _ h=>?_,fun _=>hd,ϡ.frames_deeper e0.frames,.inr ⟨rfl,rfl⟩,fun b z=>absurd z (noA b),e0.bs,e0.bsz,fun b _ _=>noA b,fun b z=>absurd z (noA b),e0.funs,e0.frf⟩,
  rfl,e0.bare,Un.kept hk,⟨_,x.toInCall.ns,fun i y v h1 h2 h3=>?_⟩,fun y c h=>⟨_,x.cell y c h⟩,e0.hok.fresh (Α _),fun y c h=>?_,fun p hp=>absurd (show p∈([]:List (Addr×Obj)) from hp) (by simp),e0.hok.kept hk,?_⟩
 ·exact name_of_addr x.apart (bh h1) (bh h2)
 ·have hy:scope.names.lookup y=some .cell\/scope.names.lookup y=some .free:=hy;rcases hy with hy | hy
  ·exact Xb hy
  ·exact absurd rfl (S.nofree _ (bh hy))
 ·exact gB (x.above y c (bh h))
 ·have hi:i < vs.length:=by
   unfold start at h2;by_cases hi:i < vs.length
   ·exact hi
   ·rw [ϝ (by simpa using hi)] at h2;rw [dw] at h2;split at h2 <;> cases h2
  have ha:vs[i]?=some v:=by
   unfold start at h2;rw [ϗ (by simpa using hi),Ρ] at h2;cases e:vs[i]? with
   | none=>rw [e] at h2;cases h2
   | some a=>rw [e] at h2;cases h2;rfl
  obtain ⟨u,hu,rv⟩:=r.get ha;have hp:ps[i]?=some y:=by rw [<- S.pre,List.getElem?_take_of_lt (by lia)];exact h1
  have ndP:ps.Nodup:=by rw [<- S.pre];exact S.nd.sublist (iY _ _)
  refine ⟨u,rv,?_⟩;rcases S.par y (ϴ hp) with k | k
  ·exact .inl ⟨k,Vb ndP hp hu k⟩
  ·obtain ⟨c,e⟩:=Xb (n:=s.heap.objs.size+1) k;refine .inr ⟨.inl k,c,e,?_⟩;have q:=x.cell y c e;rw [Vd ndP hp hu (by show scope.names.lookup y≠_;rw [k];decide)] at q;exact q
 ·exact e0.hok.fresh (gB (x.above y c (bh h)))
 ·unfold start;show _=N.length
  rw [ξ,υ,cI];lia
theorem ziT {CX:CXT}{P:Ψ}{w:ϕ}{K:W.Frag}{mg:Str->Option δ}{base:Heap}{k:Nat}{f:Addr}{name qual:Str}{params:Arguments}{body:List Stmt}{scope:dD}{dV kV doc pm cdv ct oc:δ}{an od:Option Addr}
  {osl:Array (Option δ)}{N ps:List Str}{sp:Sp}(lk:K.lookup f=some ⟨oc,od,.func (W.fnOf name qual params body scope dV kV doc pm an cdv ct),osl⟩) (hcd:W.codeIn K cdv qual=true) (S:Xk N ps scope)
  (len:∀ vs H Q E,sp vs H Q E->vs.length=ps.length)
  (hbody:∀ (A:ϡ) (outer:List Env) (s:ω) (H:Hp) (vs:List V) (Q:VK) (E:XK),Room k (A.deeper (lF qual scope s.heap.objs.size f cdv))->sp vs H Q E ->
   ∃ t,PSs (cxOf CX P w K mg base N qual scope f cdv A outer s H E) body t/\t { nx:=fun _ H'=>Q .non H',rt:=Q } (start N vs) H):
  FnOk P w K mg base CX (k+1) f (W.fnOf name qual params body scope dV kV doc pm an cdv ct) ps sp:=by
 refine ⟨len,fun A outer s H args us vs Q E hr e0 hb r hsp=>?_⟩;have hl:=len _ _ _ _ hsp;have KX:K.In s.heap:=e0.mod.kin.keeps fun b o e=>(e0.bs b o e).1
 have lim:s.heap.NoLimit:=e0.mod.nolimit.keeps fun b o e=>(e0.bs b o e).1
 have hkind:∀ y∈ps.zip us,scope.names.lookup y.1=some .local\/(scope.names.lookup y.1=some .cell/\((cellsFrom (s.heap.objs.size+1) scope.names []).lookup y.1).isSome=true):=fun ⟨n,v⟩ hy=>by
  rcases S.par n (d7 hy).1 with q | q
  ·exact .inl q
  ·exact .inr ⟨q,W.cellsFrom_some _ _ _ (.inl q)⟩
 refine codeAny_call_function hr.depth (KX _ _ lk) rfl S.co S.gen rfl (W.codeRec_of KX hcd) (hb _ _ _ _ ?_);refine wpAny_newFunctionEnv_cells S.kind hkind fun env he s1 x=>?_
 subst he;refine ⟨lim.keeps x.toInCall.keep,codeAny_func ?_⟩;obtain ⟨t,ht,hq⟩:=hbody A outer s H vs Q E (hr.deeper _) hsp;have I:Inv (cxOf CX P w K mg base N qual scope f cdv A outer s H E) [] (start N vs) H s1:=za8 S hr.hd e0 hl r x;refine bK (ht [] s1 (start N vs) H _ I hq) (fun fl s' hs=>?_) fun e s' hs=>hs
 have fin:∀ {σ':St}{H':Hp}{v:V}{u:δ},Inv (cxOf CX P w K mg base N qual scope f cdv A outer s H E) [] σ' H' s'->RelV v u->Q v H'->CE outer P w H s Q u s':=
  fun {σ' H' v u} J rv q=>⟨v,H',J.os,J.bare,J.base,J.hok,rv,q⟩
 cases fl with
 | ret u=>
  obtain ⟨v,σ',H',J,rv,q⟩:=hs;exact fin J rv q
 | next=>
  obtain ⟨σ',H',J,q⟩:=hs;exact fin (v:=V.non) (u:=ϩ) J rfl q
 | brk=>
  obtain ⟨_,_,_,q⟩:=hs;exact au q
 | cont=>
  obtain ⟨_,_,_,q⟩:=hs;exact au q
section
variable {X:Cx}{x:Str}{p pos:Pos}{e:Expr}{es:List Expr}{t:TA}{id T:String}{r:List V->Hp->VK->Prop}
def tCB (r:List V->Hp->VK->Prop) (t:TA):TE:=fun σ H Q=>t σ H fun vs H1=>r vs H1 Q
theorem jF (hc:yI X (.builtin id) r) (hg:Gl X x) (hm:X.mg x=none) (hv:cN x=some (.builtin id)) (ha:PA X (e::es) t) (hn:x≠"__name__":=by decide) (hdb:(x==("__debug__":Str))=false:=by decide)
  (he:Ϣ (e::es) X.env=(false,eval e X.env)::Ϣ es X.env:=by rfl) (hpl:(eU pos (Ϣ es X.env)).any (·.1)=false:=by rfl):PE X (.Call (.Name x p) (e::es) [] pos) (tCB r t):=by intro pJ s σ H Q I h;refine fO (ZG I hg hm hv ?_ hn hdb);exact PyProof.Rows.callWith_builtin1 (thn (ha pos pJ s σ H _ I h) fun us s1 ⟨vs,H1,I1,r1,q1⟩=>hc pJ s1 σ H1 vs us Q I1 r1 q1) he hpl
theorem Wd (hc:yI X (.type T) r) (hg:Gl X x) (hm:X.mg x=none) (hv:cN x=some (.type T)) (ha:PA X (e::es) t) (hn:x≠"__name__":=by decide) (hdb:(x==("__debug__":Str))=false:=by decide)
  (he:Ϣ (e::es) X.env=(false,eval e X.env)::Ϣ es X.env:=by rfl) (hpl:(eU pos (Ϣ es X.env)).any (·.1)=false:=by rfl):PE X (.Call (.Name x p) (e::es) [] pos) (tCB r t):=by intro pJ s σ H Q I h;refine fO (ZG I hg hm hv ?_ hn hdb);exact cj (thn (ha pos pJ s σ H _ I h) fun us s1 ⟨vs,H1,I1,r1,q1⟩=>hc pJ s1 σ H1 vs us Q I1 r1 q1) he hpl
end
end L2
namespace HT
open PySem PyProof.Rows
section
open PySem.SeqAt
open PySem.AutoSeq1 (wpAny_loadPart')
open PySem.MeetsSeq PySem.MeetsSeq2 PySem.MeetsSeq3
end
section
variable {prog:Ψ}{w:ϕ}{A:ϡ}{E:δ->ω->Prop}{s:ω}
theorem zgd {t b:Addr}{vs ws:List δ}{Q:δ->ω->Prop}(ht:IsTup s.heap t vs.toArray) (hb:IsTup s.heap b ws.toArray) (hv:vs≠[])
  (h1:ws=[]->Q (.ref t) s) (h2:ws≠[]->Q (.ref s.heap.objs.size) { s with heap:=s.heap.push { cls:=.type "tuple",data:=.seq (vs++ws).toArray } })
  (hsz:vs.length+ws.length<=sizeLine):Ξ (Φ prog w) A (bY .Add (.ref t) (.ref b)) Q E s:=by
 obtain ⟨⟨cls,dd,data,sl⟩,ho,hc,n,hd⟩:=id ht;obtain ⟨⟨cls2,dd2,data2,sl2⟩,ho2,hc2,n2,hd2⟩:=id hb;simp only at hc hd hc2 hd2;subst hc hd hc2 hd2;have e:vs.toArray++ws.toArray=(vs++ws).toArray:=by simp
 by_cases hw:ws=[]
 ·exact oH ⟨_,ho,rfl⟩ ⟨_,ho2,rfl⟩ mz nP fQ fC (eV _ _)
   (tuple_addW1 t b vs.toArray ws.toArray n n2 dd dd2 sl sl2 (by simpa using hv) (by simp [hw])) ⟨ho,ho2,h1 hw⟩
 ·refine oH ⟨_,ho,rfl⟩ ⟨_,ho2,rfl⟩ mz nP fQ fC (eV _ _)
   (tuple_addW2 t b vs.toArray ws.toArray n n2 dd dd2 sl sl2 (by simpa using hv) (by simpa using hw) (by rw [χ,χ];exact hsz)) ⟨ho,ho2,?_⟩
  rw [e];exact h2 hw
noncomputable def sIx (n d:Nat):Option Int->Nat
 | none=>d
 | some v=>if v < 0 then (v+(n:Int)).toNat else min v.toNat n
theorem Jq (n d:Nat):sIx n d none=d:=rfl
theorem Q9 (n d k:Nat):sIx n d (some (k:Int))=min k n:=by
 show (if (k:Int) < 0 then ((k:Int)+(n:Int)).toNat else min (k:Int).toNat n)=min k n
 rw [if_neg (by omega),fK]
theorem zhp (n d:Nat) (hd:d<=n) (o:Option Int):sIx n d o<=n:=by
 cases o with
 | none=>exact hd
 | some v=>
  show (if v < 0 then (v+(n:Int)).toNat else min v.toNat n)<=n
  by_cases hv:v < 0
  ·rw [if_pos hv];omega
  ·rw [if_neg hv];exact Nat.min_le_right _ _
theorem zbz (v:Int) (n d:Nat):(if v < 0 then max (v+(n:Int)) 0 else min v (n:Int))=((sIx n d (some v):Nat):Int):=by
 show (if v < 0 then max (v+(n:Int)) 0 else min v (n:Int))=(((if v < 0 then (v+(n:Int)).toNat else min v.toNat n):Nat):Int)
 by_cases hv:v < 0
 ·simp only [if_pos hv];omega
 ·simp only [if_neg hv];omega
theorem Qh (lo hi:Option Int) (n:Nat):dW lo hi 1 (n:Int)=(((sIx n 0 lo:Nat):Int),((sIx n n hi:Nat):Int)):=by
 have h1:¬ ((1:Int) < 0):=by omega
 unfold dW;simp only [h1,if_false];refine Prod.ext ?_ ?_
 ·cases lo with
  | none=>rfl
  | some v=>exact zbz v n 0
 ·cases hi with
  | none=>rfl
  | some v=>exact zbz v n n
theorem KR (i j:Nat):cF (i:Int) (j:Int) 1=j - i:=by
 unfold cF;have h1:(1:Int) > 0:=by omega
 simp only [h1,if_true,Int.ediv_one];split <;> omega
theorem Zo {v:δ}{o:Option Int}{Q:Option Int->ω->Prop}(p:ir v o) (h:Q o s):Ξ (Φ prog w) A (ώ.Slice.slicePartIndex v) Q E s:=by
 cases p with
 | none=>exact slicePart_none h
 | int i t=>exact slicePart_int h
theorem xY {sl:Addr}{vl vu:δ}{lo hi:Option Int}{n:Nat}{Q:Int×Int×Nat->ω->Prop}(hs:s.heap.IsSliceOf sl vl vu .none) (pl:ir vl lo) (pu:ir vu hi)
  (h:Q (((sIx n 0 lo:Nat):Int),1,sIx n n hi - sIx n 0 lo) s):Ξ (Φ prog w) A (iz (.ref sl) (pure (n:Int))) Q E s:=by
 obtain ⟨os,hos,hcs,hds⟩:=id hs;unfold iz ώ.Slice.sliceFields;refine η (η (iC hos hds (x:=vl) rfl (η (iC hos hds (x:=vu) rfl (η (iC hos hds (x:=.none) rfl (ς ?_)))))));refine η (slicePart_none ?_);show Ξ _ _ (if ((1:Int)==0)=true then _ else _) _ _ s
 rw [if_neg (by decide)];refine η (Zo pl (η (Zo pu (η (ς ?_)))));show Ξ _ _ (match dW lo hi 1 (n:Int) with | (lo,hi)=>pure (lo,(1:Int),cF lo hi 1)) _ _ s
 rw [Qh lo hi n];show Ξ _ _ (pure (((sIx n 0 lo:Nat):Int),(1:Int),cF ((sIx n 0 lo:Nat):Int) ((sIx n n hi:Nat):Int) 1)) _ _ s
 rw [KR];exact ς h
theorem zcw (xs:Array δ) (i k:Nat):((Ϲ k).filterMap fun (m:Nat)=>xs[((i:Int)+(m:Int)*1).toNat]?).toArray=((xs.toList.drop i).take k).toArray:=by
 have e:(fun (m:Nat)=>xs[((i:Int)+(m:Int)*1).toNat]?)=fun m=>xs[i+m]?:=by
  funext m
  have:((i:Int)+(m:Int)*1).toNat=i+m:=by omega
  rw [this]
 rw [e];have:=pick_run xs i k;rw [List.filterMap_map] at this;have e2:((fun x=>xs[x]?)∘fun x=>i+x)=fun m=>xs[i+m]?:=rfl
 rw [e2] at this;rw [this]
theorem uR {t sl:Addr}{items:Array δ}{vl vu:δ}{lo hi:Option Int}{Q:δ->ω->Prop}(ht:IsTup s.heap t items) (hs:s.heap.IsSliceOf sl vl vu .none) (pl:ir vl lo) (pu:ir vu hi)
  (hw:¬ (sIx items.size 0 lo=0/\sIx items.size items.size hi=items.size))
  (h:Q (.ref s.heap.objs.size) { s with heap:=s.heap.push { cls:=.type "tuple",data:=.seq ((items.toList.drop (sIx items.size 0 lo)).take (sIx items.size items.size hi - sIx items.size 0 lo)).toArray } })
  (hsz:items.size<=sizeLine):Ξ (Φ prog w) A (iU (.ref t) (.ref sl)) Q E s:=by
 have htake:sizeOk (.seq ((items.toList.drop (sIx items.size 0 lo)).take (sIx items.size items.size hi - sIx items.size 0 lo)).toArray):=by
  show ((items.toList.drop (sIx items.size 0 lo)).take (sIx items.size items.size hi - sIx items.size 0 lo)).toArray.size<=sizeLine
  rw [χ,ϛ,ϥ,Ω];omega
 have hj:sIx items.size items.size hi<=items.size:=zhp _ _ (Α _) hi;obtain ⟨os,hos,hcs,hds⟩:=id hs;have hTs:s.TypeIs (.ref sl) "slice":=⟨os,hos,hcs⟩
 unfold iU
 try with_reducible refine aX ?_
 first | refine η (ς ?_) | skip
 refine η (wpAny_sequenceKey ht.typeIs (by decide) ?_)
 refine η (gK (name:=lu "__getitem__") ht.typeIs Ϭ
  (cB Ϭ ht.typeIs entry_tuple_getitem ?_ (args_tuple_getitem _ _)))
 show Ξ _ _ (iy (.ref t) >>= _) _ _ s
 refine η (tupleItemsOf_ ht ?_);refine η (cL hTs ?_);rw [if_pos (by decide)];refine η (xY hs pl pu ?_);have hno:¬ ((((sIx items.size 0 lo:Nat):Int)==0&&(1:Int)==1&&(sIx items.size items.size hi - sIx items.size 0 lo)==items.size)=true):=by intro q;rw [ζ,ζ] at q;have q1:((sIx items.size 0 lo:Nat):Int)=0:=eq_of_beq q.1.1;have q2:sIx items.size items.size hi - sIx items.size 0 lo=items.size:=eq_of_beq q.2;exact hw ⟨by omega,by omega⟩
 show Ξ _ _ (if (((sIx items.size 0 lo:Nat):Int)==0&&(1:Int)==1&&(sIx items.size items.size hi - sIx items.size 0 lo)==items.size)=true then _ else _) _ _ s
 rw [if_neg hno,zcw]
 first
  | exact η (m:=cO _) (ao (ς ⟨_,rfl,ς h⟩) htake)
  | exact η (m:=cO _) (ao (η (ς (ς ⟨_,rfl,ς h⟩))) htake)
  | exact η (η (m:=cO _) (ao (ς (ς ⟨_,rfl,ς h⟩)) htake))
  | exact η (η (m:=cO _) (ao (ς ⟨_,rfl,ς h⟩) htake))
end
end HT
namespace L2
open PySem PySem.Spec PyProof.Rows
abbrev TO:=St->Hp->(Option Int->Hp->Prop)->Prop
def PO (X:Cx) (e:Option Expr) (t:TO):Prop:=
 ∀ (pJ:List (Addr×Obj)) (s:ω) (σ:St) (H:Hp) (Q:Option Int->Hp->Prop),Inv X pJ σ H s->t σ H Q ->
  Ξ (Φ X.prog X.w) X.A (evalPart e X.env) (fun u s'=>∃ o H',Inv X pJ σ H' s'/\ir u o/\Q o H') X.xe s
def zeu:TO:=fun _ H Q=>Q none H
def zjr (t:TE):TO:=fun σ H Q=>t σ H fun x H1=>∃ i,x=.int i/\Q (some i) H1
section
variable {X:Cx}{e:Expr}{te:TE}{lo hi:Option Expr}{tl th:TO}{pos p2:Pos}
theorem ze9:PO X none zeu:=by intro pJ s σ H Q I h;rw [evalPart_none];exact ς ⟨none,H,I,.none,h⟩
theorem ze8 (h:PE X e te):PO X (some e) (zjr te):=by
 intro pJ s σ H Q I hw;rw [evalPart_some];refine thn (h pJ s σ H _ I hw) fun u s1 ⟨x,H1,I1,r1,q1⟩=>?_
 obtain ⟨i,rfl,q⟩:=q1;obtain ⟨t,rfl⟩:=r1;exact ⟨some i,H1,I1,.int i t,q⟩
def SlR (X:Cx) (r:V->Option Int->Option Int->Hp->VK->Prop):Prop:=
 ∀ (pJ:List (Addr×Obj)) (s:ω) (σ:St) (H:Hp) (x:V) (v vl vu:δ) (lo hi:Option Int) (sl:Addr) (Q:VK),Inv X pJ σ H s->RelV x v->s.heap.IsSliceOf sl vl vu .none->ir vl lo->ir vu hi->r x lo hi H Q ->
  ∃ T id,typeLookup (.type T) "__getitem__"=pure (some (.builtin id))/\s.TypeIs v T/\Ξ (Φ X.prog X.w) X.A (iU v (.ref sl)) (EP X pJ σ Q) X.xe s
theorem SlR.or {r r':V->Option Int->Option Int->Hp->VK->Prop}(h:SlR X r) (h':SlR X r'):SlR X (fun x lo hi H Q=>r x lo hi H Q\/r' x lo hi H Q):=by
 intro pJ s σ H x v vl vu lo hi sl Q I rx hs pl pu q;rcases q with q | q
 ·exact h pJ s σ H x v vl vu lo hi sl Q I rx hs pl pu q
 ·exact h' pJ s σ H x v vl vu lo hi sl Q I rx hs pl pu q
def tSl (r:V->Option Int->Option Int->Hp->VK->Prop) (te:TE) (tl th:TO):TE:=fun σ H Q=>te σ H fun x H1=>tl σ H1 fun l H2=>th σ H2 fun u H3=>r x l u H3 Q
theorem zcA {r:V->Option Int->Option Int->Hp->VK->Prop}(hr:SlR X r) (he:PE X e te) (hl:PO X lo tl) (hu:PO X hi th):PE X (.Subscript e (.Slice lo hi none p2) pos) (tSl r te tl th):=by
 intro pJ s σ H Q I h;refine Subscript_ (thn (he pJ s σ H _ I h) fun v s1 ⟨x,H1,I1,r1,q1⟩=>?_);refine wpAny_Slice (thn (hl pJ s1 σ H1 _ I1 q1) fun vl s2 ⟨l,H2,I2,pl,q2⟩=>thn (hu pJ s2 σ H2 _ I2 q2) fun vu s3 ⟨u,H3,I3,pu,q3⟩=>?_);rw [evalPart_none];refine ς ?_;have I4:Inv X pJ σ H3 { s3 with heap:=s3.heap.push { cls:=.type "slice",data:=.fields #[vl,vu,.none] } }:=I3.kept (t':=s3.toks) fun b ob q=>ο _ q
 obtain ⟨T,id,hT,ht,hg⟩:=hr pJ { s3 with heap:=s3.heap.push { cls:=.type "slice",data:=.fields #[vl,vu,.none] } } σ H3 x v vl vu l u s3.heap.objs.size Q I4 r1 (Heap.IsSliceOf.new ..) pl pu q3;show Ξ (Φ X.prog X.w) X.A (subscriptTail e (.Slice lo hi none p2) v (.ref s3.heap.objs.size)) (EP X pJ σ Q) X.xe { s3 with heap:=s3.heap.push { cls:=.type "slice",data:=.fields #[vl,vu,.none] } }
 exact tail_any (ops:=[.ref s3.heap.objs.size,v]) ht hT hg (by with_unfolding_all rfl)
noncomputable def cutV (xs:List V) (lo hi:Option Int):List V:=(xs.drop (HT.sIx xs.length 0 lo)).take (HT.sIx xs.length xs.length hi - HT.sIx xs.length 0 lo)
theorem qF (xs:List V) (lo hi:Option Int):(cutV xs lo hi).length<=xs.length:=by unfold cutV;rw [ϛ,ϥ];lia
def rSlT (K:W.Frag):V->Option Int->Option Int->Hp->VK->Prop:=fun x lo hi H Q=>∃ a xs,x=.ref a/\SqT K H a xs /\
 ¬ (HT.sIx xs.length 0 lo=0/\HT.sIx xs.length xs.length hi=xs.length)/\∀ p,H p=none->Q (.ref p) (upd H p (.tup (cutV xs lo hi)))
theorem zgX:SlR X (rSlT X.K):=by
 intro pJ s σ H x v vl vu lo hi sl Q I rx hs pl pu h;obtain ⟨a,xs,rfl,hx,hw,q⟩:=h;cases rx;obtain ⟨its,r,ht,hz⟩:=I.tuple hx;have hlen:its.toArray.size=xs.length:=by rw [χ];exact r.length.symm
 refine ⟨"tuple",_,Ϭ.lookup,ht.typeIs,?_⟩;refine HT.uR ht hs pl pu (by rw [hlen];exact hw) ?_ (by rw [hlen];exact hz);rw [hlen];refine ⟨.ref s.heap.objs.size,_,I.laid (t':=s.toks) (o:=.tup (cutV xs lo hi)) (fun b ob q=>ο _ q) (Α _) ?_,rfl,q _ (I.hok.fresh (Α _))⟩;exact ⟨Ϛ (qF xs lo hi) hz,_,(r.drop (HT.sIx xs.length 0 lo)).take (HT.sIx xs.length xs.length hi - HT.sIx xs.length 0 lo),IsTup.new _ _⟩
def zkc (K:W.Frag):R2:=fun x y H Q=>∃ a b xs ys,x=.ref a/\y=.ref b/\SqT K H a xs/\SqT K H b ys/\xs≠[]/\xs.length+ys.length<=sizeLine /\
 (ys=[]->Q (.ref a) H)/\(ys≠[]->∀ p,H p=none->Q (.ref p) (upd H p (.tup (xs++ys))))
theorem Vals.V0 {xs:List V}{us:List δ}(r:Vals xs us):us=[] ↔ xs=[]:=by
 cases r with
 | nil=>simp
 | cons _ _=>simp
theorem zfj:OpR X (bY .Add) (zkc X.K):=by intro pJ s σ H x y v u Q I rx ry h;obtain ⟨a,b,xs,ys,rfl,rfl,ha,hb,hx,hz,q1,q2⟩:=h;cases rx;cases ry;obtain ⟨its,r1,p1,_⟩:=I.tuple ha;obtain ⟨its2,r2,p2,_⟩:=I.tuple hb;refine HT.zgd p1 p2 (fun z=>hx (r1.V0.mp z)) (fun z=>⟨.ref a,H,I,rfl,q1 (r2.V0.mp z)⟩) (fun z=>?_) (by rw [<- r1.length,<- r2.length];exact hz);refine ⟨.ref s.heap.objs.size,_,I.laid (t':=s.toks) (o:=.tup (xs++ys)) (fun b ob q=>ο _ q) (Α _) ?_,rfl,q2 (fun w=>z (r2.V0.mpr w)) _ (I.hok.fresh (Α _))⟩;exact ⟨by rw [ξ];exact hz,_,r1.append r2,IsTup.new _ _⟩
end
noncomputable def ixN (n:Nat) (i:Int):Option Nat:=if 0<=i then (if i < n then some i.toNat else none) else if -(n:Int)<=i then some (i+n).toNat else none
noncomputable def atI {α:Type}(xs:List α) (i:Int):Option α:=(ixN xs.length i).bind fun j=>xs[j]?
theorem za4 {n:Nat}{i:Int}{j:Nat}(h:ixN n i=some j):seqIndex? i n=some j/\j < n/\-(n:Int)<=i/\i < n:=by
 unfold ixN at h;by_cases h0:0<=i
 ·rw [if_pos h0] at h;by_cases h1:i < n
  ·rw [if_pos h1] at h;have e:i.toNat=j:=ϙ h;exact ⟨by rw [seqIndex_of h0 h1,e],by lia,by lia,h1⟩
  ·rw [if_neg h1] at h;cases h
 ·rw [if_neg h0] at h;by_cases h1:-(n:Int)<=i
  ·rw [if_pos h1] at h;have e:(i+n).toNat=j:=ϙ h;exact ⟨by rw [seqIndex_neg (by lia) h1,e],by lia,h1,by lia⟩
  ·rw [if_neg h1] at h;cases h
theorem UT {α:Type}{xs:List α}{i:Int}{v:α}(h:atI xs i=some v):∃ j,seqIndex? i xs.length=some j/\xs[j]?=some v/\j < xs.length/\-(xs.length:Int)<=i/\i < xs.length:=by
 unfold atI at h;cases e:ixN xs.length i with
 | none=>rw [e] at h;cases h
 | some j=>
  rw [e] at h;obtain ⟨h1,h2,h3,h4⟩:=za4 e;exact ⟨j,h1,h,h2,h3,h4⟩
def UW (b:Expr):Prop:=∀ o i,subscripted b false o i=operate [o,i] (iU o i)
def IxR (X:Cx) (r:R2):Prop:=
 ∀ (value slice:Expr) (pJ:List (Addr×Obj)) (s:ω) (σ:St) (H:Hp) (x y:V) (v u:δ) (Q:VK),Inv X pJ σ H s->RelV x v->RelV y u->r x y H Q ->
  subscripted slice false v u=operate [v,u] (iU v u)->Ξ (Φ X.prog X.w) X.A (subscriptTail value slice v u) (EP X pJ σ Q) X.xe s
def MtR (X:Cx) (id:String) (r:V->List V->Hp->VK->Prop):Prop:=
 ∀ (pJ:List (Addr×Obj)) (s:ω) (σ:St) (H:Hp) (x:V) (xs:List V) (v:δ) (us:List δ) (Q:VK),Inv X pJ σ H s->RelV x v->Vals xs us->r x xs H Q ->
  Ξ (Φ X.prog X.w) X.A (call (.builtin id) (v::us)) (EP X pJ σ Q) X.xe s
section
variable {X:Cx}{a b:Expr}{ta tb:TE}{pos:Pos}
theorem IxR.or {r r':R2}(h:IxR X r) (h':IxR X r'):IxR X (fun x y H Q=>r x y H Q\/r' x y H Q):=by
 intro value slice pJ s σ H x y v u Q I rx ry q hs;rcases q with q | q
 ·exact h value slice pJ s σ H x y v u Q I rx ry q hs
 ·exact h' value slice pJ s σ H x y v u Q I rx ry q hs
theorem MtR.or {id:String}{r r':V->List V->Hp->VK->Prop}(h:MtR X id r) (h':MtR X id r'):MtR X id (fun x xs H Q=>r x xs H Q\/r' x xs H Q):=by
 intro pJ s σ H x xs v us Q I rx rs q;rcases q with q | q
 ·exact h pJ s σ H x xs v us Q I rx rs q
 ·exact h' pJ s σ H x xs v us Q I rx rs q
theorem zkk {r:R2}(hr:IxR X r) (ha:PE X a ta) (hb:PE X b tb) (hs:UW b):PE X (.Subscript a b pos) (tOp r ta tb):=by intro pJ s σ H Q I h;exact Subscript_ (binT ha hb I h fun v u s2 x y H2 I2 rx ry q=>hr a b pJ s2 σ H2 x y v u Q I2 rx ry q (hs _ _))
def rIxL (K:W.Frag):R2:=fun x y H Q=>∃ p xs i v,x=.ref p/\y=.int i/\SqL K H p xs/\atI xs i=some v/\Q v H
def rIxT (K:W.Frag):R2:=fun x y H Q=>∃ p xs i v,x=.ref p/\y=.int i/\SqT K H p xs/\atI xs i=some v/\Q v H
def rIxS:R2:=fun x y H Q=>∃ z i c,x=.str z/\y=.int i/\z.length<=sizeLine/\atI z.cps.toList i=some c/\Q (.str ⟨#[c]⟩) H
theorem za3:IxR X (rIxL X.K):=by
 intro value slice pJ s σ H x y v u Q I rx ry h hs;obtain ⟨p,xs,i,z,rfl,rfl,hq,he,q⟩:=h;cases rx;obtain ⟨t,rfl⟩:=ry;obtain ⟨its,r,pl,hz⟩:=I.list hq;obtain ⟨j,h1,h2,h3,h4,h5⟩:=UT he;obtain ⟨w,ew,rw'⟩:=r.get h2;have hl:=r.length;have hn:=ZF;have fin:EP X pJ σ Q w s:=⟨z,H,I,rw',q⟩
 by_cases h0:0<=i
 ·have hj:i.toNat=j:=by rw [seqIndex_of h0 h5] at h1;exact ϙ h1
  exact item_listR pl.isList h0 (by lia) (by rw [hj];simpa using ew) fin hs
 ·have hj:(i+(its.toArray.size:Int)).toNat=j:=by rw [seqIndex_neg (by lia) h4] at h1;rw [χ,<- hl];exact ϙ h1
  exact oF (x:=w) pl.isList.typeIs slot_list_getitem.lookup
   (wpAny_getItem_list_neg (Q:=fun r s'=>r=w/\EP X pJ σ Q r s') pl.isList (by lia) (by rw [χ] <;> lia) (by lia) (by rw [hj];simpa using ew) ⟨rfl,fin⟩) hs
theorem zit:IxR X (rIxT X.K):=by
 intro value slice pJ s σ H x y v u Q I rx ry h hs;obtain ⟨p,xs,i,z,rfl,rfl,hq,he,q⟩:=h;cases rx;obtain ⟨t,rfl⟩:=ry;obtain ⟨its,r,pl,hz⟩:=I.tuple hq;obtain ⟨j,h1,h2,h3,h4,h5⟩:=UT he;obtain ⟨w,ew,rw'⟩:=r.get h2;have hl:=r.length;have hn:=ZF;have fin:EP X pJ σ Q w s:=⟨z,H,I,rw',q⟩
 exact oF (x:=w) pl.typeIs slot_tuple_getitem.lookup
  (getItem_tuple (j:=j) (Q:=fun r s'=>r=w/\EP X pJ σ Q r s') pl (by lia) (by lia) (by rw [χ,<- hl];exact h1) (by simpa using ew) ⟨rfl,fin⟩) hs
theorem ziu:IxR X rIxS:=by
 intro value slice pJ s σ H x y v u Q I rx ry h hs;obtain ⟨z,i,c,rfl,rfl,hz,he,q⟩:=h;obtain ⟨t,rfl⟩:=rx;obtain ⟨t',rfl⟩:=ry;obtain ⟨j,h1,h2,h3,h4,h5⟩:=UT he;have hl:z.cps.toList.length=z.length:=by simp [Str.length]
 rw [hl] at h1 h4 h5;have hn:=ZF
 exact tail_any (typeIs_str s z t) slot_str_getitem.lookup (getItem_str (c:=c) (by
  have e1:decide (i < -(2 ^ 63:Int))=false:=decide_eq_false (by lia);have e2:decide (i >= 2 ^ 63)=false:=decide_eq_false (by lia)
  rw [e1,e2,Bool.or_false]) (by rw [h1];simpa using h2) ⟨.str ⟨#[c]⟩,H,I.tok _,⟨_,rfl⟩,q⟩) hs
theorem K1 (its:List δ) (n j:Nat) (u:δ):bj (·.setIfInBounds j u) { cls:=.type "list",data:=.seq its.toArray n }={ cls:=.type "list",data:=.seq (its.set j u).toArray n }:=by simp [bj]
theorem Inv.lst {pJ:List (Addr×Obj)}{σ:St}{H:Hp}{s:ω}{p:Addr}{xs:List V}(I:Inv X pJ σ H s) (h:H p=some (.lst xs)):
  ∃ (its:List δ) (n:Nat),Vals xs its/\s.heap.get? p=some { cls:=.type "list",data:=.seq its.toArray n }/\xs.length<=sizeLine:=by obtain ⟨z,its,n,r,e⟩:=I.hok p _ h;exact ⟨its,n,r,e,z⟩
theorem Inv.zil {pJ:List (Addr×Obj)}{σ:St}{H:Hp}{s:ω}{p:Addr}{xs ys:List V}{its its':List δ}{n n':Nat}{f:Obj->Obj}(I:Inv X pJ σ H s) (h:H p=some (.lst xs))
  (ho:s.heap.get? p=some { cls:=.type "list",data:=.seq its.toArray n }) (hf:f { cls:=.type "list",data:=.seq its.toArray n }={ cls:=.type "list",data:=.seq its'.toArray n' }) (r:Vals ys its') (hz:ys.length<=sizeLine) (t:Nat):
  Inv X pJ σ (upd H p (.lst ys)) { s with heap:=s.heap.update p f,toks:=t }:=by
 have e:(s.heap.update p f).get? p=some { cls:=.type "list",data:=.seq its'.toArray n' }:=by rw [aO f ho (by rw [hf] <;> rfl),hf]
 refine I.write (x:=p) (e:=p) (by rw [h];trivial) (.inl rfl) (fun b u hb q=>(bC _ _ (eQ hb)).trans q) ⟨_,e⟩ ?_;exact ⟨hz,its',n',r,e⟩
def zhu:V->V->V->Hp->(Hp->Prop)->Prop:=fun o i v H Q=>∃ p xs k j,o=.ref p/\i=.int k/\H p=some (.lst xs)/\ixN xs.length k=some j/\Q (upd H p (.lst (xs.set j v)))
theorem set_list:PSet X zhu:=by
 intro pJ s σ H o i v ov iv u Q I ro ri rv h;obtain ⟨p,xs,k,j,rfl,rfl,hp,hj,q⟩:=h;cases ro;obtain ⟨t,rfl⟩:=ri;obtain ⟨its,n,r,ho,hz⟩:=I.lst hp;obtain ⟨h1,h2,h3,h4⟩:=za4 hj;have hl:=r.length;have hn:=ZF;have I':Inv X pJ σ (upd H p (.lst (xs.set j v))) { s with heap:=s.heap.update p (bj (·.setIfInBounds j u)) }:=
  I.zil hp ho (K1 its n j u) (r.set rv j) (by rw [aq];exact hz) s.toks
 by_cases h0:0<=k
 ·have hk:k.toNat=j:=by rw [seqIndex_of h0 h4] at h1;exact ϙ h1
  exact W.ki_setAt ho h0 (by lia) (by rw [χ,<- hl];exact h4) (by rw [hk];exact ⟨_,I',q⟩)
 ·have hk:(k+(its.toArray.size:Int)).toNat=j:=by rw [seqIndex_neg (by lia) h3] at h1;rw [χ,<- hl];exact ϙ h1
  exact W.ki_setBack ho (by lia) (by rw [χ,<- hl];exact h3) (by lia) (by rw [hk];exact ⟨_,I',q⟩)
theorem XC (lo hi:Option Int) (n:Nat):(eG lo hi none n).1=((HT.sIx n 0 lo:Nat):Int)/\(eG lo hi none n).2.1=((HT.sIx n n hi:Nat):Int)/\(eG lo hi none n).2.2=1:=by
 refine ⟨?_,?_,rfl⟩
 ·cases lo with
  | none=>simp [eG,HT.sIx]
  | some i=>
   simp only [eG,HT.sIx,nY,show (1:Int) > 0 by decide,if_true];by_cases h:i < 0
   ·simp only [h,if_true] <;> lia
   ·simp only [h,if_false] <;> lia
 ·cases hi with
  | none=>simp [eG,HT.sIx]
  | some i=>
   simp only [eG,HT.sIx,nY,show (1:Int) > 0 by decide,if_true];by_cases h:i < 0
   ·simp only [h,if_true] <;> lia
   ·simp only [h,if_false] <;> lia
theorem Yk (its:List δ) (lo hi:Option Int):slicePick its.toArray lo hi none=((its.drop (HT.sIx its.length 0 lo)).take (HT.sIx its.length its.length hi - HT.sIx its.length 0 lo)).toArray:=by obtain ⟨h1,h2,h3⟩:=XC lo hi its.toArray.size;unfold slicePick;rw [h1,h2,h3];simp only [sliceRange_one,pick_run,χ] <;> rfl
def rSlL (K:W.Frag):V->Option Int->Option Int->Hp->VK->Prop:=fun x lo hi H Q=>∃ a xs,x=.ref a/\SqL K H a xs/\∀ p,H p=none->Q (.ref p) (upd H p (.lst (cutV xs lo hi)))
theorem Q0:SlR X (rSlL X.K):=by intro pJ s σ H x v vl vu lo hi sl Q I rx hs pl pu h;obtain ⟨a,xs,rfl,hx,q⟩:=h;cases rx;obtain ⟨its,r,ht,hz⟩:=I.list hx;have hlen:=r.length;refine ⟨"list",_,slot_list_getitem.lookup,ht.isList.typeIs,?_⟩;refine wpAny_getItem_list_slice ht.isList hs pl pu .none (by simp) ?_ (by rw [χ] <;> lia);rw [Yk,<- hlen];refine ⟨.ref s.heap.objs.size,_,I.laid (t':=s.toks) (o:=.lst (cutV xs lo hi)) (fun b ob q=>ο _ q) (Α _) ?_,rfl,q _ (I.hok.fresh (Α _))⟩;exact ⟨Ϛ (qF xs lo hi) hz,_,0,(r.drop (HT.sIx xs.length 0 lo)).take (HT.sIx xs.length xs.length hi - HT.sIx xs.length 0 lo),Ν _ rfl⟩
noncomputable def zfS:V->Bool
 | .non=>true
 | .bl _=>true
 | .int _=>true
 | .str _=>true
 | _=>false
noncomputable def eqV:V->V->Bool
 | .non,.non=>true
 | .bl a,.bl b=>a==b
 | .bl a,.int b=>(if a then 1 else 0)==b
 | .int a,.bl b=>a==(if b then 1 else 0)
 | .int a,.int b=>a==b
 | .str a,.str b=>a==b
 | _,_=>false
theorem zec {A:ϡ}{s:ω}{y x:V}{u v:δ}(ry:RelV y u) (rx:RelV x v) (fy:zfS y=true) (fx:zfS x=true):ϱ A s u v (eqV y x):=by
 cases y with
 | non=>
  cases ry;cases x with
  | non=>cases rx;exact ϱ.same _
  | bl b=>cases rx;exact ϱ.none_bool b
  | int b=>obtain ⟨t,rfl⟩:=rx;exact ϱ.none_int b t
  | str b=>obtain ⟨t,rfl⟩:=rx;exact ϱ.none_str b t
  | _=>exact absurd (show false=true from fx) ϓ
 | bl a=>
  cases ry;cases x with
  | non=>cases rx;exact ϱ.bool_none a
  | bl b=>cases rx;exact ϱ.bool_bool a b
  | int b=>obtain ⟨t,rfl⟩:=rx;exact ϱ.bool_int a b t
  | str b=>obtain ⟨t,rfl⟩:=rx;exact ϱ.bool_str a b t
  | _=>exact absurd (show false=true from fx) ϓ
 | int a=>
  obtain ⟨t',rfl⟩:=ry;cases x with
  | non=>cases rx;exact ϱ.int_none a t'
  | bl b=>cases rx;exact ϱ.int_bool a t' b
  | int b=>obtain ⟨t,rfl⟩:=rx;exact ϱ.int_int a t' b t
  | str b=>obtain ⟨t,rfl⟩:=rx;exact mK a t' b t
  | _=>exact absurd (show false=true from fx) ϓ
 | str a=>
  obtain ⟨t',rfl⟩:=ry;cases x with
  | non=>cases rx;exact ϱ.str_none a t'
  | bl b=>cases rx;exact ϱ.str_bool a t' b
  | int b=>obtain ⟨t,rfl⟩:=rx;exact mJ a t' b t
  | str b=>obtain ⟨t,rfl⟩:=rx;exact ϱ.str_str a t' b t
  | _=>exact absurd (show false=true from fx) ϓ
 | _=>exact absurd (show false=true from fy) ϓ
theorem Wg:OpR X (Ϗ .NotIn) (fun x y H Q=>∃ i j,x=.str i/\y=.str j/\Q (.bl (!(!(eO j i 0 j.length 1).isEmpty))) H):=by intro pJ s σ H x y v u Q I rx ry h;obtain ⟨i,j,rfl,rfl,q⟩:=h;obtain ⟨t,rfl⟩:=rx;obtain ⟨t',rfl⟩:=ry;exact notIn_str ⟨.bl _,H,I,rfl,q⟩
theorem wR:yI X (.builtin "len") (fun xs H Q=>∃ p ys,xs=[.ref p]/\(SqL X.K H p ys\/SqT X.K H p ys)/\Q (.int ys.length) H):=by
 intro pJ s σ H xs us Q I r h;obtain ⟨p,ys,rfl,hq,q⟩:=h;obtain ⟨u,rfl,rx⟩:=vals1 r;cases rx;have hn:=ZF;rcases hq with hq | hq
 ·obtain ⟨its,r',pl,hz⟩:=I.list hq;have hlen:=r'.length;exact Calls.call_len_list pl.isList (by simp only [χ] <;> lia) ⟨.int ys.length,H,I.tok _,⟨s.toks+1,by rw [χ,hlen]⟩,q⟩
 ·obtain ⟨its,r',pl,hz⟩:=I.tuple hq;have hlen:=r'.length;exact len_tuple pl (by simp only [χ] <;> lia) ⟨.int ys.length,H,I.tok _,⟨s.toks+1,by rw [χ,hlen]⟩,q⟩
theorem W7:yI X (.builtin "len") (fun xs H Q=>∃ z,xs=[.str z]/\z.length<=sizeLine/\Q (.int z.length) H):=by intro pJ s σ H xs us Q I r h;obtain ⟨z,rfl,hz,q⟩:=h;obtain ⟨u,rfl,t,rfl⟩:=vals1 r;have hn:=ZF;exact len_str (by lia) ⟨.int z.length,H,I.tok _,⟨_,rfl⟩,q⟩
theorem yI.or {f:δ}{r r':List V->Hp->VK->Prop}(h:yI X f r) (h':yI X f r'):yI X f (fun xs H Q=>r xs H Q\/r' xs H Q):=by
 intro pJ s σ H xs us Q I rs q;rcases q with q | q
 ·exact h pJ s σ H xs us Q I rs q
 ·exact h' pJ s σ H xs us Q I rs q
theorem W6:yI X (.type "list") (fun xs H Q=>∃ p ys,xs=[.ref p]/\(SqL X.K H p ys\/SqT X.K H p ys)/\∀ l,H l=none->Q (.ref l) (upd H l (.lst ys))):=by
 intro pJ s σ H xs us Q I r h;obtain ⟨p,ys,rfl,hq,q⟩:=h;obtain ⟨u,rfl,rx⟩:=vals1 r;cases rx;have fin:∀ (its:List δ),Vals ys its->ys.length<=sizeLine->∀ (h':Heap) (c':Nat),(∀ b o',s.heap.get? b=some o'->h'.get? b=some o') ->
   h'.get? s.heap.objs.size=some { cls:=.type "list",dict:=none,data:=.seq its.toArray c',slots:=#[] }->EP X pJ σ Q (.ref s.heap.objs.size) { s with heap:=h' }:=fun its r' hz h' c' kp e=>
  ⟨.ref s.heap.objs.size,_,I.laid (t':=s.toks) kp (Α _) (show z8 X.prog X.w _ h' _ (.lst ys) from ⟨hz,its,c',r',e⟩),rfl,q _ (I.hok.fresh (Α _))⟩
 rcases hq with hq | hq
 ·obtain ⟨its,r',pl,hz⟩:=I.list hq;have hlen:=r'.length;obtain ⟨o,ho,hc,n,hd⟩:=pl.isList;exact call_list_seq p (.inl rfl) ho hc hd (fun h' c' kp e=>fin its r' hz h' c' kp e) (by simp only [χ] <;> lia)
 ·obtain ⟨its,r',pl,hz⟩:=I.tuple hq;have hlen:=r'.length;obtain ⟨o,ho,hc,n,hd⟩:=pl;exact call_list_seq p (.inr rfl) ho hc hd (fun h' c' kp e=>fin its r' hz h' c' kp e) (by simp only [χ] <;> lia)
theorem Xc:yI X (.type "tuple") (fun xs H Q=>∃ p ys,xs=[.ref p]/\((SqL X.K H p ys/\∀ l,H l=none->Q (.ref l) (upd H l (.tup ys)))\/(SqT X.K H p ys/\Q (.ref p) H))):=by
 intro pJ s σ H xs us Q I r h;obtain ⟨p,ys,rfl,h⟩:=h;obtain ⟨u,rfl,rx⟩:=vals1 r;cases rx;rcases h with ⟨hq,q⟩ | ⟨hq,q⟩
 ·obtain ⟨its,r',pl,hz⟩:=I.list hq;have hlen:=r'.length;refine call_tuple_list pl.isList (fun h' kp=>?_) (by simp only [χ] <;> lia);have I1:Inv X pJ σ H { s with heap:=h' }:=I.kept (t':=s.toks) kp;have I2:Inv X pJ σ (upd H h'.objs.size (.tup ys)) { s with heap:=h'.push { cls:=.type "tuple",data:=.seq its.toArray } }:=
   I1.laid (t':=s.toks) (fun b o e=>ο _ e) (Α _) (show z8 X.prog X.w _ _ _ (.tup ys) from ⟨hz,its,r',IsTup.new _ _⟩)
  exact ⟨.ref h'.objs.size,_,I2,rfl,q _ (I1.hok.fresh (Α _))⟩
 ·obtain ⟨its,r',pl,hz⟩:=I.tuple hq;exact call_tuple_same pl ⟨.ref p,H,I,rfl,q⟩
def tyV (K:W.Frag) (T:String) (x:V) (H:Hp):Prop:=match x with
 | .str _=>T="str"
 | .int _=>T="int"
 | .ref p=>(T="list"/\∃ xs,SqL K H p xs)\/(∃ o,K.lookup p=some o/\o.cls=.type T/\o.dict=none) \/
   (T="dict"/\((∃ kvs,H p=some (.dK kvs))\/∃ kvs,H p=some (.dT kvs)))\/(T="set"/\∃ S n,H p=some (.set S n))
 | _=>False
theorem zdA {pJ:List (Addr×Obj)}{σ:St}{H:Hp}{s:ω}{T:String}{x:V}{v:δ}(I:Inv X pJ σ H s) (r:RelV x v) (ty:tyV X.K T x H):
  s.TypeIs v T/\∀ a,v=.ref a->∃ ob,s.heap.get? a=some ob/\ob.dict=none:=by
 cases x with
 | str z=>
  obtain ⟨t,rfl⟩:=r;cases (show T="str" from ty);exact ⟨typeIs_str s z t,fun _ e=>nomatch e⟩
 | int i=>
  obtain ⟨t,rfl⟩:=r;cases (show T="int" from ty);exact ⟨typeIs_int s i t,fun _ e=>nomatch e⟩
 | ref p=>
  cases r;rcases ty with ⟨rfl,xs,hq⟩ | ⟨o,hk,hc,hd⟩ | ⟨rfl,hk⟩ | ⟨rfl,S,n,hk⟩
  ·obtain ⟨its,_,pl,_⟩:=I.list hq;refine ⟨pl.isList.typeIs,fun a e=>?_⟩;cases e;obtain ⟨o,n,e,c,hd,_⟩:=pl;exact ⟨o,e,hd⟩
  ·refine ⟨⟨o,I.kIn p o hk,hc⟩,fun a e=>?_⟩;cases e;exact ⟨o,I.kIn _ o hk,hd⟩
  ·have z:∃ o,s.heap.get? p=some o/\o.ExactDict:=by
    rcases hk with ⟨kvs,hk⟩ | ⟨kvs,hk⟩
    ·obtain ⟨_,_,_,_,o,_,_,e,ex,_⟩:=I.hok p _ hk;exact ⟨o,e,ex⟩
    ·obtain ⟨_,_,_,_,o,_,_,e,ex,_⟩:=I.hok p _ hk;exact ⟨o,e,ex⟩
   obtain ⟨o,e,ex⟩:=z;refine ⟨⟨o,e,ex.1⟩,fun a e2=>?_⟩;cases e2;exact ⟨o,e,ex.2.1⟩
  ·obtain ⟨o,_,_,_,e,ex,_⟩:=I.hok p _ hk;refine ⟨⟨o,e,ex.1⟩,fun a e2=>?_⟩;cases e2;exact ⟨o,e,ex.2.1⟩
 | _=>exact au ty
def tBM0 (K:W.Frag) (T:String) (r:V->List V->Hp->VK->Prop) (to:TE):TE:=fun σ H Q=>to σ H fun x H1=>tyV K T x H1/\r x [] H1 Q
def tBM (K:W.Frag) (T:String) (r:V->List V->Hp->VK->Prop) (to:TE) (t:TA):TE:=fun σ H Q=>to σ H fun x H1=>tyV K T x H1/\t σ H1 fun xs H2=>r x xs H2 Q
variable {o e:Expr}{es:List Expr}{to:TE}{t:TA}{name:Str}{apos cpos:Pos}{T id:String}{r:V->List V->Hp->VK->Prop}
theorem zhO (pa:PlainAttrs T) (slot:Slot T name id) (hty:typeOf (.builtin id)=pure (.type "method_descriptor")) (hm:MtR X id r) (ho:PE X o to)
  (hbase:nQ o name X.env (eval o X.env)=eval o X.env:=by rfl) (hline:(apos.endLine==cpos.line)=true:=by rfl):PE X (.Call (.Attribute o name apos) [] [] cpos) (tBM0 X.K T r to):=by intro pJ s σ H Q I h;refine wpAny_Call_method0_late hbase hline (thn (ho pJ s σ H _ I h) fun v s1 ⟨x,H1,I1,r1,ty,q1⟩=>?_);obtain ⟨h1,h2⟩:=zdA I1 r1 ty;exact ⟨T,id,pa,slot,hty,h1,h2,m9 rfl (PySem.evalArgs_none (hm pJ s1 σ H1 x [] v [] Q I1 r1 .nil q1))⟩
theorem zcH (pa:PlainAttrs T) (slot:Slot T name id) (hty:typeOf (.builtin id)=pure (.type "method_descriptor")) (hm:MtR X id r) (ho:PE X o to) (ha:PA X (e::es) t)
  (hbase:nQ o name X.env (eval o X.env)=eval o X.env:=by rfl)
  (hfew:((eU cpos (Ϣ (e::es) X.env)).all (fun x=>!x.1)&&(backToKw cpos (iG [] X.env)).all (fun x=>x.1.isSome)
  &&decide ((e::es).length+([]:List cY).length+(if ([]:List cY).isEmpty then 0 else 1) < 30))=true:=by rfl)
  (hline:(apos.endLine==cpos.line)=true:=by rfl) (hs:Ϣ (e::es) X.env=(false,eval e X.env)::Ϣ es X.env:=by rfl) (hplain:(eU cpos (Ϣ es X.env)).any (·.1)=false:=by rfl):
  PE X (.Call (.Attribute o name apos) (e::es) [] cpos) (tBM X.K T r to t):=by intro pJ s σ H Q I h;refine wpAny_Call_method_late hbase hfew hline rfl (thn (ho pJ s σ H _ I h) fun v s1 ⟨x,H1,I1,r1,ty,q1⟩=>?_);obtain ⟨h1,h2⟩:=zdA I1 r1 ty;refine ⟨T,id,pa,slot,hty,h1,h2,?_⟩;have hA:=ha cpos pJ s1 σ H1 _ I1 q1;rw [hs] at hA ⊢;refine m9 (by show (false||(eU cpos (Ϣ es X.env)).any (·.1))=false;rw [hplain] <;> rfl) (Calls.evalArgs_plain ?_);exact thn hA fun us s2 ⟨vs,H2,I2,r2,q2⟩=>hm pJ s2 σ H2 x vs v us Q I2 r1 r2 q2
end
def MtM (X:Cx) (id:String) (r:V->List V->Hp->VK->Prop):Prop:=
 ∀ (pJ:List (Addr×Obj)) (s:ω) (σ:St) (H:Hp) (x:V) (xs:List V) (v:δ) (us:List δ) (Q:VK),Inv X pJ σ H s->RelV x v->Vals xs us->r x xs H Q ->
  Ξ (Φ X.prog X.w) X.A (call (.builtin id) (v::us)) (EP X pJ σ Q) X.xe s
theorem Vals.one:∀ {x:V}{us:List δ},Vals [x] us->∃ u,us=[u]/\RelV x u
 | _,_,.cons r .nil=>⟨_,rfl,r⟩
theorem Vals.two:∀ {x y:V}{us:List δ},Vals [x,y] us->∃ u v,us=[u,v]/\RelV x u/\RelV y v
 | _,_,_,.cons r (.cons q .nil)=>⟨_,_,rfl,r,q⟩
theorem Vals.zero:∀ {us:List δ},Vals [] us->us=[]
 | _,.nil=>rfl
theorem Vals.dropLast {xs:List V}{us:List δ}(h:Vals xs us):Vals xs.dropLast us.dropLast:=by
 induction h with
 | nil=>exact .nil
 | cons r t ih=>
  cases t with
  | nil=>exact .nil
  | cons q t'=>exact .cons r ih
theorem Qc {α:Type}(l:List α):l.eraseIdx (l.length - 1)=l.dropLast:=by
 induction l with
 | nil=>rfl
 | cons a r ih=>
  cases r with
  | nil=>rfl
  | cons b r=>
   have e:(a::b::r).length - 1=((b::r).length - 1)+1:=by have h1:(a::b::r).length=r.length+2:=rfl;have h2:(b::r).length=r.length+1:=rfl;lia
   rw [e,List.eraseIdx_cons_succ,ih]
   all_goals rfl
section
variable {X:Cx}{pJ:List (Addr×Obj)}{σ:St}{H:Hp}{s:ω}{l b:Addr}{xs ys zs:List V}
theorem Inv.lset {its its':List δ}{n:Nat}{f:Array δ->Array δ}{t':Nat}(I:Inv X pJ σ H s) (hH:H l=some (.lst xs))
  (e:s.heap.get? l=some { cls:=.type "list",data:=.seq its.toArray n }) (hf:f its.toArray=its'.toArray) (hv:Vals ys its') (hz:ys.length<=sizeLine):
  Inv X pJ σ (upd H l (.lst ys)) { s with heap:=s.heap.update l (bj f),toks:=t' }:=by have q:=PySem.IsL.update e f;rw [hf] at q;refine I.write (x:=l) (e:=l) (by rw [hH];exact trivial) (.inl rfl) (fun b' u hb hu=>(bC s.heap (bj f) (eQ hb)).trans hu) ⟨_,q⟩ ?_;exact ⟨hz,its',_,hv,q⟩
theorem Inv.lnew {its:List δ}{t':Nat}(I:Inv X pJ σ H s) (hv:Vals ys its) (hz:ys.length<=sizeLine):
  Inv X pJ σ (upd H s.heap.objs.size (.lst ys)) { s with heap:=s.heap.push { cls:=.type "list",data:=.seq its.toArray },toks:=t' }:=
 I.laid (fun _ _ q=>ο _ q) (Α _) ⟨hz,its,0,hv,Ν _ rfl⟩
theorem Inv.fresh (I:Inv X pJ σ H s):H s.heap.objs.size=none:=I.hok.fresh (Α _)
theorem Inv.lstM (I:Inv X pJ σ H s) (hH:H l=some (.lst xs)):xs.length<=sizeLine/\∃ (its:List δ) (n:Nat),Vals xs its/\xs.length=its.length/\s.heap.get? l=some { cls:=.type "list",data:=.seq its.toArray n }:=by obtain ⟨z,its,n,r,e⟩:=I.hok l _ hH;exact ⟨z,its,n,r,r.length,e⟩
theorem JC {n:Nat}(h:n<=sizeLine):d8 n=false:=by unfold d8;exact decide_eq_false (by lia)
end
section
variable {X:Cx}
def zeX:V->List V->Hp->VK->Prop:=fun x vs H Q=>∃ l xs y,x=.ref l/\vs=[y]/\H l=some (.lst xs)/\xs.length < sizeLine/\Q .non (upd H l (.lst (xs++[y])))
theorem Wn:MtM X "list.append" zeX:=by intro pJ s σ H x vs v us Q I rx rv h;obtain ⟨l,xs,y,rfl,rfl,hH,hz,q⟩:=h;cases rx;obtain ⟨u,rfl,ru⟩:=rv.one;obtain ⟨z,its,n,r,hl,e⟩:=I.lstM hH;refine nF F.slot_list_append ⟨_,e,rfl⟩ F.entry_list_append (F.args_list_append_2 _ _) (PySem.list_append l its.toArray n u (by rw [χ];lia)) ⟨e,?_⟩;refine ⟨.non,_,I.lset (its':=its++[u]) hH e (by simp) (r.append (.cons ru .nil)) ?_,rfl,q⟩;rw [ξ,List.length_singleton];lia
def zeW:V->List V->Hp->VK->Prop:=fun x vs H Q=>∃ l b xs zs,x=.ref l/\vs=[.ref b]/\H l=some (.lst xs)/\H b=some (.lst zs)/\xs.length+zs.length<=sizeLine/\Q .non (upd H l (.lst (xs++zs)))
theorem zaH:MtM X "list.extend" zeW:=by
 intro pJ s σ H x vs v us Q I rx rv h;obtain ⟨l,b,xs,zs,rfl,rfl,hH,hB,hz,q⟩:=h;cases rx;obtain ⟨u,rfl,ru⟩:=rv.one;cases ru;obtain ⟨z,its,n,r,hl,e⟩:=I.lstM hH;obtain ⟨z2,its2,n2,r2,hl2,e2⟩:=I.lstM hB;have hsz:its.toArray.size+its2.toArray.size<=sizeLine:=by rw [χ,χ];lia
 have hlong:¬ (!its.toArray.isEmpty&&d8 (its.toArray.size+its2.toArray.size))=true:=by rw [JC hsz,Τ];exact ϓ
 refine nF F.slot_list_extend ⟨_,e,rfl⟩ F.entry_list_extend (F.args_list_extend_2 _ _)
  (AutoSeq1.list_extend_list_list_0 l its.toArray n b its2.toArray n2 hlong (by rw [χ];lia) (by lia)) ⟨e,e2,?_⟩
 refine ⟨.non,_,I.lset (its':=its++its2) hH e (by simp) (r.append r2) ?_,rfl,q⟩;rw [ξ];lia
def rPop:V->List V->Hp->VK->Prop:=fun x vs H Q=>∃ l xs y,x=.ref l/\vs=[]/\H l=some (.lst xs)/\xs[xs.length - 1]?=some y/\Q y (upd H l (.lst xs.dropLast))
theorem zif:MtM X "list.pop" rPop:=by
 intro pJ s σ H x vs v us Q I rx rv h;obtain ⟨l,xs,y,rfl,rfl,hH,hy,q⟩:=h;cases rx;have hus:=rv.zero;subst hus;obtain ⟨z,its,n,r,hl,e⟩:=I.lstM hH;obtain ⟨u,hu,ru⟩:=r.get hy;have hy':its.toArray[its.toArray.size - 1]?=some u:=by
  show its.toArray[its.length - 1]?=some u
  rw [<- bI,<- hl];exact hu
 refine nF F.slot_list_pop ⟨_,e,rfl⟩ F.entry_list_pop (F.args_list_pop_1 _) (MeetsSeq.list_pop_last l its.toArray n u hy' (by rw [χ];lia)) ⟨e,?_⟩;refine ⟨y,_,I.lset (its':=its.dropLast) hH e ?_ r.dropLast ?_,ru,q⟩
 ·show its.toArray.eraseIdxIfInBounds (its.toArray.size - 1)=its.dropLast.toArray
  rw [χ,List.eraseIdxIfInBounds_toArray,Qc]
 ·rw [bO];lia
end
end L2
namespace Att
open PySem PySem.W PySem.Calls PyProof.Rows
theorem qu {P:Params}{h:Heap}:∀ (ns:List Int) (vs:List δ),WellAll P h vs (ns.map WData.int)->IntsAre vs ns:=by
 intro ns
 induction ns with
 | nil=>
  intro vs w;rw [gj] at w;cases w;exact .nil
 | cons n ns ih=>
  intro vs w;rw [ϒ] at w;cases w with
  | cons a b=>
   cases a;exact .cons _ _ (ih _ b)
theorem Q6 {l:OpenLaw}{n:Nat}(hn:l.most=some n) {P:Params}{h:Heap}{args:List WData}{vals:List δ}
  (hpre:l.row.toRowW.claim.pre args=true) (hwl:WellAll P h vals args):
  ∃ a vs ns,vals=[Ϟ a]/\args=[WData.list (ns.map WData.int)]/\h.get? a=some { cls:=.type "list",data:=.seq vs.toArray }/\IntsAre vs ns/\ns.length<=n:=by
 have hsh:WShape.hasAll [] args [.list .int]=true:=(pre_splitW hpre).1;have hc:l.pre.holds [] { args:=args }=true:=(pre_splitW hpre).2;obtain ⟨d,r,rfl,h1,h2⟩:=hasAllW_cons hsh;obtain rfl:=hasAllW_nil h2;obtain ⟨xs,rfl,h3⟩:=hasW_list h1;obtain ⟨ns,rfl⟩:=items_int h3;have hlen:ns.length<=n:=by
  unfold OpenLaw.pre at hc;have h4:(WTm.not (.lt (.lit (.int (n:Int))) (.len (.arg 0)))).holds [] { args:=[.list (ns.map .int)] }=true:=by have h4:=(holds_andW hc).1;rw [hn] at h4;exact h4
  have h5:=condW_of h4 (w_not (w_lt w_lit (w_len_list (w_arg rfl))));rw [υ] at h5;refine lH fun q=>?_
  have q':(n:Int) < ((ns.length:Nat):Int):=by omega
  first
   | (rw [decide_eq_true q'] at h5;exact absurd h5 (by decide))
   | (simp at h5;omega)
 cases hwl with
 | cons w1 w2=>
  cases w2;cases w1 with
  | list ho hall=>exact ⟨_,_,ns,rfl,rfl,ho,qu ns _ hall,hlen⟩
theorem zan (l:OpenLaw) (args:List WData):l.row.toRowW.claim.post args (.bool true) args=true:=
 postW_of (r:=l.row.toRowW) (X:=(true==true))
  (show WShape.has [] (.bool true) .bool=true by first | rfl | decide | simp [WShape.has,WShape.arms,WShape.armsAll])
  (show (WTm.eq .res (.lit (.bool true))).value [] { args:=args,res:=some (.bool true),after:=args }=some (.bool (true==true)) from w_eq_bool (w_res rfl) w_lit) rfl
theorem UL {l:OpenLaw}{n:Nat}{q:Ψ}{loose:List Str}{XP:(Str->Option δ)->Heap->Prop}{YP:ϕ->Heap->Prop}{d:DefRec}
  (hn:l.most=some n) (hdf:d.params.defaults=[])
  (call:∀ (w:ϕ) (sy s₁:ω) (mg mb:Str->Option δ) (fa:Addr) (o:Obj) (pm cd doc:δ) (a:Addr) (vs:List δ) (ns:List Int),
   Ground q loose [] XP w sy mg mb s₁.heap->YP w s₁.heap ->
   s₁.heap.get? fa=some o->o.data=.func (docDef d.name d.params d.body d.scope pm cd doc)->s₁.heap.CodeRec cd d.name->mg d.name=some (.ref fa) ->
   s₁.heap.get? a=some { cls:=.type "list",data:=.seq vs.toArray }->IntsAre vs ns->ns.length<=n->s₁.gens=#[] ->
   lL (Φ l.prog w) callerA (.call (.ref fa) ⟨[.ref a],[]⟩) (fun r s'=>r=.ok (.ret (.bool true))/\OldK s₁.heap s'.heap/\s'.os=s₁.os/\gm s'.gens) s₁):
  WalkO q loose XP YP l.row.toRowW d [] (fun f vs=>PySem.call f vs):=by intro w sy s₁ mg mb G Y fa o pm cd doc dV kV ho hd hcd hD hmg hg args vals as hpre hlay hrd hwl hlo;obtain rfl:dV=.none:=Dflts.none hD hdf;obtain rfl:kV=.none:=Dflts.noKw hD;obtain ⟨a,vs,ns,rfl,rfl,hobj,hints,hlen⟩:=Q6 hn hpre hwl;refine enter_call (g8 (call w sy s₁ mg mb fa o pm cd doc a vs ns G Y ho (fd_plain hd) hcd hmg hobj hints hlen hg) fun r s' hq=>?_);obtain ⟨rfl,h2,h3,h4⟩:=hq;exact ⟨.inl ⟨.bool true,.bool true,[],rfl,fun _=>rfl,.bool true,zan l _,fun _=>⟨lY,fun _ hm=>(nomatch hm)⟩⟩,h2,h3,h4⟩
end Att
namespace L2
open PySem PySem.Spec PyProof.Rows
theorem Xw:∀ {vs:List δ}{ns:List Int},IntsAre vs ns->Vals (ns.map V.int) vs
 | _,_,.nil=>.nil
 | _,_,.cons n t h=>.cons ⟨t,rfl⟩ (Xw h)
def Only (H:Hp):Prop:=∀ b,H b=none\/∃ o xs,H b=some (.frz o (.lst xs))
theorem zcW {P:Ψ}{w:ϕ}{K:W.Frag}{mg mb:Str->Option δ}{CX:CXT}{k:Nat}{fa a:Addr}{fd:bw}{x:Str}{sp:Sp}{s₁:ω}{vs:List δ}{ns:List Int}
  (KX:K.In s₁.heap) (hns:s₁.heap.Ns ϊ mg) (hb:s₁.heap.Ns builtinsNs mb) (hbb:∀ x:Str,x≠"__name__"->mb x=cN x) (hlim:s₁.heap.NoLimit) (hg:s₁.gens=#[])
  (ha:s₁.heap.get? a=some { cls:=.type "list",data:=.seq vs.toArray }) (hi:IntsAre vs ns) (hl:ns.length<=sizeLine) (hr:Room k callerA)
  (F:∀ base:Heap,K.In base->base.Ns ϊ mg->FnOk P w K mg base CX k fa fd [x] sp) (hbind:∀ (s:ω) (u:δ),BindsTo s fd ⟨[u],[]⟩ [(x,u)])
  (hsp:∀ H:Hp,Only H->SqL K H a (ns.map V.int)->sp [.ref a] H (fun v _=>v=.bl true) fun _ _ _=>False)
  (hCX:∀ H e s',CX [] H s₁ (fun _ _ _=>False) e s'->False):
  lL (Φ P w) callerA (.call (.ref fa) ⟨[.ref a],[]⟩) (fun r s'=>r=.ok (.ret (.bool true))/\OldK s₁.heap s'.heap/\s'.os=s₁.os/\gm s'.gens) s₁:=by
 have rv:=Xw hi;have lenV:=hi.length;have core:∀ H:Hp,Only H->SqL K H a (ns.map V.int)->HOk P w H s₁.heap->(∀ b,H b≠none->b=a)->(H a≠none->K.lookup a=none) ->
   lL (Φ P w) callerA (.call (.ref fa) ⟨[.ref a],[]⟩) (fun r s'=>r=.ok (.ret (.bool true))/\OldK s₁.heap s'.heap/\s'.os=s₁.os/\gm s'.gens) s₁:=by
  intro H hO hS hok hA hK;have Xg:∀ {b:Addr}{o:Obj},s₁.heap.get? b=some o->H b=none->(hidT s₁.heap H).get? b=some o:=fun e n=>zc0 e n
  have noA:∀ {b:Addr}{o:Obj}{es:Array mG}{ep:Nat},s₁.heap.get? b=some o->o.data=.dict es ep->H b=none:=fun {b o es ep} e d=>by
   cases q:H b with
   | none=>rfl
   | some u=>
    have e':b=a:=hA b (by rw [q];simp);subst e';rw [ha] at e;cases e;have d':Data.seq vs.toArray _=Data.dict es ep:=d;cases d'
  have nsK:∀ {b:Addr}{m:Str->Option δ},s₁.heap.Ns b m->(hidT s₁.heap H).Ns b m:=fun {b m} ⟨o,es,ep,e,d,r⟩=>⟨o,es,ep,Xg e (noA e d),d,r⟩
  have hKb:K.In (hidT s₁.heap H):=fun b o e=>Xg (KX b o e) (by
   cases q:H b with
   | none=>rfl
   | some u=>
    have e':b=a:=hA b (by rw [q];simp);subst e'
    rw [hK (by rw [q];simp)] at e;cases e)
  have hM:Mod K mg (hidT s₁.heap H):=⟨hKb,nsK hns,⟨mb,nsK hb,hbb⟩,let ⟨mc,h1,h2⟩:=hlim;⟨mc,nsK h1,h2⟩⟩
  have e0:Env0 P w K mg (hidT s₁.heap H) callerA [] s₁ H:=⟨rfl,hM,fun b o e=>zfm e,lB (zbf _ _),trivial,fun b hb=>absurd (show b∈([]:List Addr) from hb) (by simp),hok,.of_eq hg⟩
  refine g8 ((F _ hKb (nsK hns)).run callerA [] s₁ H ⟨[.ref a],[]⟩ [.ref a] [.ref a] _ _ hr e0 (hbind s₁ (.ref a)) (.cons rfl .nil) (hsp H hO hS)) fun r s' h=>?_
  cases r with
  | error e=>exact (hCX H e s' h).elim
  | ok fl=>
   cases fl with
   | next=>exact au h
   | brk=>exact au h
   | cont=>exact au h
   | ret u=>
    obtain ⟨v,H',os,bare,un,hok',r',q⟩:=h;have q':v=.bl true:=q;subst q';obtain rfl:u=Ϡ true:=r';refine ⟨rfl,OldK.of_keep fun b o e=>?_,os,bare⟩;cases q:H b with
    | none=>exact un.keep b o e q (by intro z;exact absurd (show b∈([]:List Addr) from z) (by simp)) (by simp)
    | some u=>
     rcases hO b with z | ⟨ob,xs,z⟩
     ·rw [q] at z;cases z
     ·have z2:=un.frzs b ob _ z;obtain ⟨e1,_⟩:=hok b _ z;obtain ⟨e2,_⟩:=hok' b _ z2;rw [e] at e1;cases e1;exact e2
 cases hk:K.lookup a with
 | some o=>
  have e:=KX a o hk;rw [ha] at e;cases e;refine core (fun _=>none) (fun _=>.inl rfl) (.inr ⟨_,vs.toArray,_,hk,rfl,rfl,rfl,by rw [χ,lenV];exact hl,by simpa using rv⟩) (fun b u z=>by have z':(none:Option HO)=some u:=z;cases z') (fun b z=>absurd rfl z) fun z=>absurd rfl z
 | none=>
  refine core (fun b=>if b=a then some (.frz { cls:=.type "list",data:=.seq vs.toArray } (.lst (ns.map V.int))) else none) (fun b=>?_) (.inl (.inr ⟨{ cls:=.type "list",data:=.seq vs.toArray },if_pos rfl⟩)) (fun b u z=>?_) (fun b z=>?_) fun _=>hk
  ·by_cases hb:b=a
   ·exact .inr ⟨_,_,if_pos hb⟩
   ·exact .inl (if_neg hb)
  ·by_cases hb:b=a
   ·have z':=(if_pos hb).symm.trans z;cases z';subst hb;exact ⟨ha,by rw [υ];exact hl,vs,_,rv,ha⟩
   ·have z':=(if_neg hb).symm.trans z;cases z'
  ·by_cases hb:b=a
   ·exact hb
   ·exact absurd (if_neg hb) z
abbrev CX0:CXT:=fun _ _ _ _ _ _=>False
abbrev E0:XK:=fun _ _ _=>False
structure Fun (K:W.Frag) (x qual:Str) (st:Stmt) (f:Addr) (fd:bw):Prop where
 ex:∃ (oc:δ) (od:Option Addr) (kV doc pm:δ) (an:Option Addr) (cdv ct:δ) (osl:Array (Option δ)),
  fd=W.fnOf x qual (xF st) (yH st) (zU st) .none kV doc pm an cdv ct/\K.lookup f=some ⟨oc,od,.func fd,osl⟩/\W.codeIn K cdv qual=true
 kp:W.keepIn K (.ref f)=true
section
variable {P:Ψ}{w:ϕ}{K:W.Frag}{mg:Str->Option δ}{base:Heap}
theorem Fun.ok {x qual:Str}{st:Stmt}{f:Addr}{fd:bw}{N ps:List Str}{k:Nat}{sp:Sp}(F:Fun K x qual st f fd) (S:Xk N ps (zU st)) (len:∀ vs H Q E,sp vs H Q E->vs.length=ps.length)
  (hbody:∀ (cdv:δ) (A:ϡ) (outer:List Env) (s:ω) (H:Hp) (vs:List V) (Q:VK) (E:XK),Room k (A.deeper (lF qual (zU st) s.heap.objs.size f cdv))->sp vs H Q E ->
   ∃ t,PSs (cxOf CX0 P w K mg base N qual (zU st) f cdv A outer s H E).nox (yH st) t/\t { nx:=fun _ H'=>Q .non H',rt:=Q } (start N vs) H):FnOk P w K mg base CX0 (k+1) f fd ps sp:=by
 obtain ⟨oc,od,kV,doc,pm,an,cdv,ct,osl,rfl,lk,hcd⟩:=F.ex;refine ziT lk hcd S len fun A outer s H vs Q E hr hsp=>?_
 obtain ⟨t,h,q⟩:=hbody cdv A outer s H vs Q E hr hsp;exact ⟨t,h.nox,q⟩
theorem Fun.binds {x qual:Str}{st:Stmt}{f:Addr}{fd:bw}{ps:List Str}(F:Fun K x qual st f fd)
  (h:∀ (kV doc pm:δ) (an:Option Addr) (cdv ct:δ) (us:List δ),us.length=ps.length->bindArgs (W.fnOf x qual (xF st) (yH st) (zU st) .none kV doc pm an cdv ct) ⟨us,[]⟩=pure (ps.zip us)):Binds K fd ps []:=by obtain ⟨oc,od,kV,doc,pm,an,cdv,ct,osl,rfl,lk,hcd⟩:=F.ex;exact .all (h kV doc pm an cdv ct)
theorem ziQ {x qual:Str}{st:Stmt}{f:Addr}{oc:δ}{od an:Option Addr}{osl:Array (Option δ)}{kV doc pm cdv ct:δ}(l:K.lookup f=some ⟨oc,od,.func (W.fnOf x qual (xF st) (yH st) (zU st) .none kV doc pm an cdv ct),osl⟩)
  (c:W.codeIn K cdv qual=true) (k:W.keepIn K (.ref f)=true):Fun K x qual st f (W.fnOf x qual (xF st) (yH st) (zU st) .none kV doc pm an cdv ct):=⟨⟨oc,od,kV,doc,pm,an,cdv,ct,osl,rfl,l,c⟩,k⟩
end
theorem iteF {A B:Prop}(h:B):if false=true then A else B:=by rw [if_neg ϓ];exact h
theorem iteT {A B:Prop}(h:A):if true=true then A else B:=by rw [if_pos rfl];exact h
def Same (H H':Hp):Prop:=∀ b o,H b=some o->H' b=some o
theorem Same.refl (H:Hp):Same H H:=fun _ _ h=>h
theorem Same.trans {H H1 H2:Hp}(a:Same H H1) (b:Same H1 H2):Same H H2:=fun c o h=>b c o (a c o h)
theorem Same.free {H H':Hp}(e:Same H H') {l:Addr}(h:H' l=Option.none):H l=Option.none:=by
 cases q:H l with
 | none=>rfl
 | some o=>
  rw [e l o q] at h;cases h
theorem Same.seq {K:W.Frag}{H H':Hp}{a:Addr}{xs:List V}(e:Same H H') (h:SqL K H a xs):SqL K H' a xs:=by
 rcases h with (h | ⟨o,h⟩) | h
 ·exact .inl (.inl (e _ _ h))
 ·exact .inl (.inr ⟨o,e _ _ h⟩)
 ·exact .inr h
noncomputable def Ite (K:W.Frag) (l:Addr):It:=
 ⟨fun i H=>∃ xs x,SqL K H l xs/\xs[i]?=some x,fun i H x H'=>∃ p y,H p=none/\x=.ref p/\H'=upd H p (.tup [.int i,y])/\∀ xs,SqL K H l xs->xs[i]?=some y,fun i H=>∃ xs,SqL K H l xs/\xs.length<=i⟩
theorem QH {P:Ψ}{w:ϕ}{K:W.Frag}{elts:List Expr}{kk:Nat}{pos:Pos}(l e it:Addr) (hne:e≠it):
  Turn P w K (.Tuple elts kk pos) (Ite K l) [e,it] e (fun i h=>(∃ old,IsEnum h e it i old)/\h.IsListIter it l i) where
 mem:=by simp
 obj:=fun i h st b hb=>by
  obtain ⟨⟨old,he⟩,hit⟩:=st;have hb':b=e\/b=it:=by simpa using hb
  rcases hb' with rfl | rfl
  ·exact ⟨_,he,fun v z=>by cases z⟩
  ·obtain ⟨o,q,c,d⟩:=hit;exact ⟨o,q,fun v z=>by rw [d] at z;cases z⟩
 keep:=fun i h h' st k=>by obtain ⟨⟨old,he⟩,hit⟩:=st;exact ⟨⟨old,k e (by simp) _ he⟩,hit.at fun o q=>k it (by simp) o q⟩
 item:=by
  intro X hP hw hK hc i pJ s σ H E I hf st hg;subst hP hw hK;obtain ⟨⟨old,he⟩,hit⟩:=st;obtain ⟨xs,x,hq,hx⟩:=hg;obtain ⟨its,rv,p,hz⟩:=I.list hq;obtain ⟨u,hu,ru⟩:=rv.get hx;have f1:=hf e (by simp);have f2:=hf it (by simp);have hT:H s.heap.objs.size=none:=I.hok.fresh (Α _);refine wpAny_pyNext_enum_item he hit p.isList (x:=u) (by simpa using hu) hne fun h' ho hit' hTp hsz hk=>⟨_,rfl,?_⟩
  refine wpAny_letOwnedTupleGo_enum ho fun h2 he2 hs2=>?_
  have kept:∀ b o,b ∉ [e,it]->s.heap.get? b=some o->h2.get? b=some o:=fun b o hb q=>(hs2.2 b fun z=>hb (by simp [z])).trans (hk b o (fun z=>hb (by simp [z])) (fun z=>hb (by simp [z])) q)
  have nT:∀ b o,s.heap.get? b=some o->b≠s.heap.objs.size:=fun b o q=>ό (Η q)
  have htr:∀ b o,H b=some o->b ∉ [e,it]:=fun b o q hb=>by
   have hb':b=e\/b=it:=by simpa using hb
   rcases hb' with rfl | rfl
   ·rw [f1.1] at q;cases q
   ·rw [f2.1] at q;cases q
  have eT:h2.get? s.heap.objs.size=some { cls:=.type "tuple",data:=.seq #[.int i s.toks,u] }:=(hs2.2 _ (gA (Η he))).trans hTp;have hok:HOk X.prog X.w (upd H s.heap.objs.size (.tup [.int i,x])) h2:=fun b o q=>by
   by_cases hb:b=s.heap.objs.size
   ·subst hb;rw [zg] at q;cases q;exact ⟨by show 2<=sizeLine;decide,[.int i s.toks,u],.cons ⟨_,rfl⟩ (.cons ru .nil),⟨_,eT,rfl,_,rfl⟩⟩
   ·rw [zp hb] at q;refine (I.hok b o q).stay (fun c v hcv r=>kept c v ?_ r) (fun c r=>by rw [zp (zF r hT)];exact r) fun c ys r=>by rw [zp (zF r hT)];exact r
    rcases hcv with rfl | hcv
    ·exact htr _ _ q
    ·exact htr _ _ hcv
  refine ⟨.ref s.heap.objs.size,upd H s.heap.objs.size (.tup [.int i,x]),?_,rfl,⟨_,x,hT,rfl,rfl,fun ys hy=>by rw [I.JM hy hq];exact hx⟩,⟨⟨u,by simpa using he2⟩,hit'.at fun o q=>(hs2.2 it hne.symm).trans q⟩,fun b hb=>?_⟩
  ·refine Inv.step (s:=s) (H:=H) (h':=h2) (g':=s.gens) (d':=s.drawn) (t':=s.toks+1) (ch:=[e,it]) I (fun b hb=>?_) (fun b o _ _ hb q _=>kept b o hb q) (fun b o _ _ hb q _=>⟨o.slots,kept b o hb q⟩) (fun b o _ q n=>by rw [zp (nT b o q)];exact n) (fun b o hb q=>⟨o,kept b o hb q⟩)
    (fun b ys q=>by rw [zp (zF q hT)];exact q) (fun b o v q=>by rw [zp (zF q hT)];exact q) (fun b ps q=>⟨#[],by rw [zp (zF q hT),q];simp⟩) (fun m hm=>?_) hok I.bare
   ·have hb':b=e\/b=it:=by simpa using hb
    rcases hb' with rfl | rfl
    ·exact ⟨f1.2.2.2.1,f1.2.1,f1.2.2.2.2.1,f1.2.2.2.2.2⟩
    ·exact ⟨f2.2.2.2.1,f2.2.1,f2.2.2.2.2.1,f2.2.2.2.2.2⟩
   ·obtain ⟨o,es,ep,q,r⟩:=hm
    exact ⟨o,es,ep,kept _ o (fun hb=>by
     have hb':X.env.locals=e\/X.env.locals=it:=by simpa using hb
     rcases hb' with z | z
     ·exact f1.2.1 z.symm
     ·exact f2.2.1 z.symm) q,r⟩
  ·have hb':b=e\/b=it:=by simpa using hb
   rcases hb' with rfl | rfl
   ·rw [zp (nT _ _ he)];exact f1.1
   ·obtain ⟨o,q,_⟩:=hit;rw [zp (nT _ _ q)];exact f2.1
 done:=by intro X hP hw hK hc i pJ s σ H E I hf st hg;subst hP hw hK;obtain ⟨⟨old,he⟩,hit⟩:=st;obtain ⟨xs,hq,hx⟩:=hg;obtain ⟨its,rv,p,hz⟩:=I.list hq;obtain ⟨f0,f1,f2,f3,f4,f5⟩:=hf it (by simp);have hl:=rv.length;exact wpAny_pyNext_enum_end (I.ok.hd hc) he hit p.isList (by simp;lia) fun h' eb=>⟨rfl,I.turned (t':=s.toks) (fun b o hb q=>eb b o hb q) f0 f1 f3 f4 f5⟩
 self:=fun A i s Q E st h=>by obtain ⟨⟨old,he⟩,_⟩:=st;exact wpAny_pyIter_enum he h
section
variable {κ:Type} [DecidableEq κ]
noncomputable def valV (kvs:List (κ×V)) (k:κ):Option V:=(kvs.find? fun kv=>decide (kv.1=k)).map (·.2)
noncomputable def putK (kvs:List (κ×V)) (k:κ) (v:V):List (κ×V):=
 if (kvs.any fun kv=>decide (kv.1=k))=true then kvs.map (fun kv=>if kv.1=k then (kv.1,v) else kv) else kvs++[(k,v)]
theorem v7 {p:κ×V}{r:List (κ×V)}{k:κ}(e:p.1=k):valV (p::r) k=some p.2:=by simp [valV,dq,e]
theorem v8 {p:κ×V}{r:List (κ×V)}{k:κ}(e:¬ p.1=k):valV (p::r) k=valV r k:=by simp [valV,dq,e]
theorem U9 (k:κ):∀ kvs:List (κ×V),(kvs.any fun kv=>decide (kv.1=k))=(valV kvs k).isSome
 | []=>rfl
 | p::r=>by
  rw [dU];by_cases e:p.1=k
  ·simp only [v7 e,decide_eq_true e,gk,Option.isSome_some]
  ·rw [v8 e,decide_eq_false e,fL];exact U9 k r
theorem vX (kvs:List (κ×V)) (k:κ) (v:V):(putK kvs k v).length<=kvs.length+1:=by
 unfold putK;split
 ·rw [υ];lia
 ·rw [ξ,Ϝ,gD];lia
theorem RelO.wM {o:Option V}{u:Option δ}(r:RelO o u):o.isSome=u.isSome:=by
 cases o with
 | none=>cases u with
  | none=>rfl
  | some _=>exact (show False from r).elim
 | some _=>cases u with
  | none=>exact (show False from r).elim
  | some _=>rfl
theorem RelO.getD {o:Option V}{u:Option δ}{d:V}{d':δ}(r:RelO o u) (rd:RelV d d'):RelV (o.getD d) (u.getD d'):=by
 cases o with
 | none=>cases u with
  | none=>exact rd
  | some _=>exact (show False from r).elim
 | some _=>cases u with
  | none=>exact (show False from r).elim
  | some _=>exact r
theorem KV.val {kvs:List (κ×V)}{vs:List (κ×δ)}(r:KV kvs vs) (k:κ):RelO (valV kvs k) (gY vs k):=by
 unfold KV at r
 induction r with
 | nil=>exact ϳ
 | @cons p q ps qs h t ih=>
  obtain ⟨h1,h2⟩:=h;by_cases e:p.1=k
  ·have e':q.1=k:=h1.symm.trans e;have b:gY (q::qs) k=some q.2:=by simp [gY,dq,e']
   rw [v7 e,b];exact h2
  ·have e':¬ q.1=k:=fun z=>e (h1.trans z)
   have b:gY (q::qs) k=gY qs k:=by simp [gY,dq,e']
   rw [v8 e,b];exact ih
theorem KV.any {kvs:List (κ×V)}{vs:List (κ×δ)}(r:KV kvs vs) (k:κ):(kvs.any fun kv=>decide (kv.1=k))=vs.any fun kv=>decide (kv.1=k):=by
 unfold KV at r
 induction r with
 | nil=>rfl
 | cons h t ih=>rw [dU,dU,ih,h.1]
theorem KV.repl {kvs:List (κ×V)}{vs:List (κ×δ)}(r:KV kvs vs) (k:κ) {y:V}{u:δ}(ry:RelV y u):
  KV (kvs.map fun kv=>if kv.1=k then (kv.1,y) else kv) (vs.map fun kv=>if kv.1=k then (kv.1,u) else kv):=by
 unfold KV at r ⊢
 induction r with
 | nil=>exact .nil
 | @cons p q ps qs h t ih=>
  rw [ϒ,ϒ];refine .cons ?_ ih;obtain ⟨h1,h2⟩:=h;by_cases e:p.1=k
  ·rw [if_pos e,if_pos (h1.symm.trans e)];exact ⟨h1,ry⟩
  ·rw [if_neg e,if_neg (fun z=>e (h1.trans z))];exact ⟨h1,h2⟩
theorem KV.put {kvs:List (κ×V)}{vs:List (κ×δ)}(r:KV kvs vs) (k:κ) {y:V}{u:δ}(ry:RelV y u):KV (putK kvs k y) (stored vs k u):=by
 unfold putK stored;rw [r.any k];by_cases e:(vs.any fun kv=>decide (kv.1=k))=true
 ·rw [if_pos e,if_pos e];exact r.repl k ry
 ·rw [if_neg e,if_neg e];exact dR.snoc r ⟨rfl,ry⟩
theorem KV.keys {kvs:List (κ×V)}{vs:List (κ×δ)}(r:KV kvs vs):kvs.map (·.1)=vs.map (·.1):=by
 unfold KV at r
 induction r with
 | nil=>rfl
 | cons h t ih=>rw [ϒ,ϒ,ih,h.1]
theorem KV.length {kvs:List (κ×V)}{vs:List (κ×δ)}(r:KV kvs vs):kvs.length=vs.length:=lW r
end
theorem Uk {P:Ψ}{w:ϕ}{k:Key}{u:δ}(r:RelV (kV k) u):(zZ P w).is k u=true:=by
 cases k with
 | inl i=>obtain ⟨t,e⟩:=(show ∃ t,u=aj i t from r);subst e;exact V3 P w i t
 | inr x=>obtain ⟨t,e⟩:=(show ∃ t,u=aW x t from r);subst e;exact V2 P w x t
theorem Wy {P:Ψ}{w:ϕ}:∀ {ks:List Key}{us:List δ},Vals (ks.map kV) us->ItemsAre (zZ P w) ks us
 | [],_,r=>by rw [gj] at r;cases r;exact .nil
 | k::ks,_,r=>by
  rw [ϒ] at r;cases r with
  | cons h t=>exact .cons (Uk h) (Wy t)
abbrev KT (H:Hp):List (List Key×V)->List (List Key×Addr×δ)->Prop:=dR fun p q=>p.1=q.1/\H q.2.1=some (.tup (p.1.map kV))/\RelV p.2 q.2.2
theorem KT.val {H:Hp}{kvs:List (List Key×V)}{xs:List (List Key×Addr×δ)}(r:KT H kvs xs) (k:List Key):RelO (valV kvs k) ((atKey xs k).map (·.2)):=by
 induction r with
 | nil=>exact ϳ
 | @cons p q ps qs h t ih=>
  obtain ⟨h1,_,h2⟩:=h;by_cases e:p.1=k
  ·have e':q.1=k:=h1.symm.trans e;have b:atKey (q::qs) k=some q.2:=by simp [atKey,dq,e']
   rw [v7 e,b];exact h2
  ·have e':¬ q.1=k:=fun z=>e (h1.trans z)
   have b:atKey (q::qs) k=atKey qs k:=by simp [atKey,dq,e']
   rw [v8 e,b];exact ih
theorem KT.repl {H:Hp}{kvs:List (List Key×V)}{xs:List (List Key×Addr×δ)}(r:KT H kvs xs) (k:List Key) {y:V}{u:δ}(ry:RelV y u):
  KT H (kvs.map fun kv=>if kv.1=k then (kv.1,y) else kv) (xs.map (putAt k u)):=by
 induction r with
 | nil=>exact .nil
 | @cons p q ps qs h t ih=>
  rw [ϒ,ϒ];refine .cons ?_ ih;obtain ⟨h1,h2,h3⟩:=h;unfold putAt;by_cases e:p.1=k
  ·rw [if_pos e,if_pos (h1.symm.trans e)];exact ⟨h1,h2,ry⟩
  ·rw [if_neg e,if_neg (fun z=>e (h1.trans z))];exact ⟨h1,h2,h3⟩
theorem KT.put {H:Hp}{kvs:List (List Key×V)}{xs:List (List Key×Addr×δ)}(r:KT H kvs xs) (k:List Key) {b:Addr}{y:V}{u:δ}(hb:H b=some (.tup (k.map kV))) (ry:RelV y u):
  KT H (putK kvs k y) (storedH xs k b u):=by
 have e:(kvs.any fun kv=>decide (kv.1=k))=(atKey xs k).isSome:=by rw [U9,(r.val k).wM,eX]
 unfold putK storedH;rw [e];by_cases q:(atKey xs k).isSome=true
 ·rw [if_pos q,if_pos q];exact r.repl k ry
 ·rw [if_neg q,if_neg q];exact dR.snoc r ⟨rfl,hb,ry⟩
theorem KT.keeps {H H':Hp}{kvs:List (List Key×V)}{xs:List (List Key×Addr×δ)}(r:KT H kvs xs) (ht:∀ b ys,H b=some (.tup ys)->H' b=some (.tup ys)):KT H' kvs xs:=
 dR.mapP r fun _ _ z=>⟨z.1,ht _ _ z.2.1,z.2.2⟩
section
variable {P:Ψ}{w:ϕ}{H:Hp}{h:Heap}{a:Addr}
theorem zhs {u:HO}(ok:HOk P w H h) (e:Rd H a u):z8 P w H h a u:=e.ok ok
theorem Y8 {kvs:List (Key×V)}(ok:HOk P w H h) (e:Rd H a (.dK kvs)):kvs.length<=sizeLine/\(a==dh)=false/\∃ vs,KV kvs vs/\h.DictOf (zZ P w) a vs:=
 show z8 P w H h a (.dK kvs) from zhs ok e
theorem zi0 {kvs:List (Key×V)}(ok:HOk P w H h) (e:H a=some (.dK kvs)):kvs.length<=sizeLine/\(a==dh)=false/\∃ vs,KV kvs vs/\h.DictOf (zZ P w) a vs:=Y8 ok (.inl e)
theorem ZJ {ks:List Key}(ok:HOk P w H h) (e:H a=some (.tup (ks.map kV))):(iQ (zZ P w)).is h ks a:=by
 obtain ⟨_,its,r,o,h1,h2,n,h3⟩:=(show z8 P w H h a (.tup (ks.map kV)) from ok a _ e)
 exact ⟨o,its.toArray,n,h1,h2,h3,by simpa using Wy r⟩
theorem Qd {kvs:List (List Key×V)}(ok:HOk P w H h) (e:Rd H a (.dT kvs)):kvs.length<=sizeLine/\(a==dh)=false /\
  ∃ xs,KT H kvs xs/\h.DictOfH (iQ (zZ P w)) a xs:=by
 obtain ⟨z,y,xs,r,o,es,ep,h1,h2,h3,h4,h5⟩:=(show z8 P w H h a (.dT kvs) from zhs ok e)
 refine ⟨z,y,xs,r,o,es,ep,h1,h2,h3,h4,fun x hx=>?_,h5⟩;have all:∀ {l:List (List Key×V)}{m:List (List Key×Addr×δ)},KT H l m->∀ x∈m,(iQ (zZ P w)).is h x.1 x.2.1:=by
  intro l m q
  induction q with
  | nil=>intro x hx;exact nomatch hx
  | @cons p q ps qs hq t ih=>
   intro x hx;rcases ψ.mp hx with e | hx
   ·subst e;exact ZJ ok (by rw [<- hq.1];exact hq.2.1)
   ·exact ih x hx
 exact all r x hx
theorem zk5 {kvs:List (List Key×V)}(ok:HOk P w H h) (e:H a=some (.dT kvs)):kvs.length<=sizeLine/\(a==dh)=false /\
  ∃ xs,KT H kvs xs/\h.DictOfH (iQ (zZ P w)) a xs:=Qd ok (.inl e)
end
def DGet (H:Hp) (a:Addr) (y:V) (r:Option V):Prop:=
 (∃ kvs k,Rd H a (.dK kvs)/\y=kV k/\r=valV kvs k)\/∃ kvs k b,Rd H a (.dT kvs)/\y=.ref b/\H b=some (.tup (k.map kV))/\r=valV kvs k
def DPut (H:Hp) (a:Addr) (y v:V) (H':Hp):Prop:=
 (∃ kvs k,H a=some (.dK kvs)/\y=kV k/\kvs.length < sizeLine/\H'=upd H a (.dK (putK kvs k v))) \/
 ∃ kvs k b,H a=some (.dT kvs)/\y=.ref b/\H b=some (.tup (k.map kV))/\kvs.length < sizeLine/\H'=upd H a (.dT (putK kvs k v))
theorem DGet.k {H:Hp}{a:Addr}{kvs:List (Key×V)}{k:Key}(e:H a=some (.dK kvs)):DGet H a (kV k) (valV kvs k):=.inl ⟨kvs,k,.inl e,rfl,rfl⟩
theorem DGet.t {H:Hp}{a b:Addr}{kvs:List (List Key×V)}{k:List Key}(e:H a=some (.dT kvs)) (eb:H b=some (.tup (k.map kV))):DGet H a (.ref b) (valV kvs k):=.inr ⟨kvs,k,b,.inl e,rfl,eb,rfl⟩
theorem DPut.k {H:Hp}{a:Addr}{kvs:List (Key×V)}{k:Key}{v:V}(e:H a=some (.dK kvs)) (hl:kvs.length < sizeLine):DPut H a (kV k) v (upd H a (.dK (putK kvs k v))):=.inl ⟨kvs,k,e,rfl,hl,rfl⟩
theorem DPut.t {H:Hp}{a b:Addr}{kvs:List (List Key×V)}{k:List Key}{v:V}(e:H a=some (.dT kvs)) (eb:H b=some (.tup (k.map kV))) (hl:kvs.length < sizeLine):
  DPut H a (.ref b) v (upd H a (.dT (putK kvs k v))):=.inr ⟨kvs,k,b,e,rfl,eb,hl,rfl⟩
section
variable {X:Cx}{pJ:List (Addr×Obj)}{σ:St}{H:Hp}{s:ω}{a:Addr}{y v:V}{u r:δ}{o:Option V}{A:ϡ}{E:VSP}
theorem Inv.big (I:Inv X pJ σ H s):dh < s.heap.objs.size:=by have h:ϊ < s.heap.objs.size:=(I.mod.glob.keeps I.bk).lt;exact Nat.lt_trans (by decide) h
theorem zbt {Q:VSP}(hu:A.units+1 < Ϸ) (I:Inv X pJ σ H s) (g:DGet H a y (some v)) (ry:RelV y u) (h:∀ w' s',Inv X pJ σ H s'->RelV v w'->Q w' s'):
  Ξ (Φ X.prog X.w) A (iU (.ref a) u) Q E s:=by
 rcases g with ⟨kvs,k,e,ey,l⟩ | ⟨kvs,k,b,e,ey,eb,l⟩
 ·subst ey;obtain ⟨z,hd,vs,rel,dd⟩:=Y8 I.hok e;obtain ⟨w',hw,rw'⟩:=RelO.some_of (v:=v) (o:=gY vs k) (by rw [l];exact rel.val k);exact wpAny_getItem_of (Uk ry) dd.mapOf hw (h w' _ (I.tok _) rw')
 ·subst ey;cases (show u=Ϟ b from ry);obtain ⟨z,hd,xs,rel,dd⟩:=Qd I.hok e;obtain ⟨w',hw,rw'⟩:=RelO.some_of (v:=v) (o:=(atKey xs k).map (·.2)) (by rw [l];exact rel.val k);obtain ⟨p,hp,hp2⟩:=Λ.mp hw;refine wpAny_getItem_heap (dH hu) (ZJ I.hok eb) dd hp ?_;rw [hp2];exact h w' _ (I.tok _) rw'
theorem d_in {Q:VSP}(hu:A.units+1 < Ϸ) (I:Inv X pJ σ H s) (g:DGet H a y o) (ry:RelV y u) (h:∀ s',Inv X pJ σ H s'->Q (.bool o.isSome) s'):
  Ξ (Φ X.prog X.w) A (Ϗ .In u (.ref a)) Q E s:=by
 rcases g with ⟨kvs,k,e,ey,l⟩ | ⟨kvs,k,b,e,ey,eb,l⟩
 ·subst ey;obtain ⟨z,hd,vs,rel,dd⟩:=Y8 I.hok e;refine wpAny_in_of (Uk ry) hd dd.mapOf ?_;rw [<- (rel.val k).wM,<- l];exact h _ (I.tok _)
 ·subst ey;cases (show u=Ϟ b from ry);obtain ⟨z,hd,xs,rel,dd⟩:=Qd I.hok e;refine wpAny_in_heap (dH hu) (ZJ I.hok eb) hd dd ?_;have q:=(rel.val k).wM;rw [eX] at q;rw [<- q,<- l];exact h _ (I.tok _)
theorem zf3 {Q:VSP}(hu:A.units+1 < Ϸ) (I:Inv X pJ σ H s) (g:DGet H a y o) (ry:RelV y u) (h:∀ s',Inv X pJ σ H s'->Q (.bool (!o.isSome)) s'):
  Ξ (Φ X.prog X.w) A (Ϗ .NotIn u (.ref a)) Q E s:=by
 rcases g with ⟨kvs,k,e,ey,l⟩ | ⟨kvs,k,b,e,ey,eb,l⟩
 ·subst ey;obtain ⟨z,hd,vs,rel,dd⟩:=Y8 I.hok e;refine wpAny_notIn_of (Uk ry) hd dd.mapOf ?_;rw [<- (rel.val k).wM,<- l];exact h _ (I.tok _)
 ·subst ey;cases (show u=Ϟ b from ry);obtain ⟨z,hd,xs,rel,dd⟩:=Qd I.hok e;refine wpAny_notIn_heap (dH hu) (ZJ I.hok eb) hd dd ?_;have q:=(rel.val k).wM;rw [eX] at q;rw [<- q,<- l];exact h _ (I.tok _)
theorem Y9 {h':Heap}{t':Nat}{ob:HO}(I:Inv X pJ σ H s) (mu:Mut (H a)) (hs:ϵ a s.heap h') (he:∃ q,h'.get? a=some q) (new:z8 X.prog X.w (upd H a ob) h' a ob):
  Inv X pJ σ (upd H a ob) { s with heap:=h',toks:=t' }:=
 I.write (x:=a) (e:=a) mu (.inl rfl) (fun b q hb z=>(hs.2 b hb).trans z) he new
theorem zed {P:Ψ}{w:ϕ}{H':Hp}{h':Heap}{kvs:List (Key×V)}{vs:List (Key×δ)}(z:kvs.length<=sizeLine) (hd:(a==dh)=false) (rel:KV kvs vs) (dd:h'.DictOf (zZ P w) a vs):
  z8 P w H' h' a (.dK kvs):=⟨z,hd,vs,rel,dd⟩
theorem zbs {H':Hp}{Q:Unit->ω->Prop}(hu:A.units+1 < Ϸ) (I:Inv X pJ σ H s) (g:DPut H a y v H') (ry:RelV y u) (rv:RelV v r) (h:∀ s',Inv X pJ σ H' s'->Q () s'):
  Ξ (Φ X.prog X.w) A (setItem (.ref a) u r) Q E s:=by
 rcases g with ⟨kvs,k,e,ey,l,eH⟩ | ⟨kvs,k,b,e,ey,eb,l,eH⟩
 ·subst ey eH;obtain ⟨z,hd,vs,rel,dd⟩:=zi0 I.hok e;have hz:vs.length<=sizeLine:=by rw [<- rel.length];exact z
  have hl:(putK kvs k v).length<=sizeLine:=by have:=vX kvs k v;lia
  refine wpAny_setItem_pairs (hsz:=hz) (Uk ry) dd fun h' dd' hs=>h _ ?_
  have he:∃ q,h'.get? a=some q:=let ⟨q,_,_,hq,_⟩:=dd';⟨q,hq⟩
  exact Y9 I (by rw [e];exact ϳ) hs he (zed hl hd (rel.put k rv) dd')
 ·subst ey eH;cases (show u=Ϟ b from ry);obtain ⟨z,hd,xs,rel,dd⟩:=zk5 I.hok e;have hz:xs.length<=sizeLine:=by rw [<- lW rel];exact z
  have hl:(putK kvs k v).length<=sizeLine:=by have:=vX kvs k v;lia
  refine wpAny_setItem_heap (hsz:=hz) (dH hu) (ZJ I.hok eb) dd fun h' dd' hs=>h _ ?_
  obtain ⟨q,es,ep,hq,h2,h3,h4,_,h5⟩:=dd';refine Y9 I (by rw [e];exact ϳ) hs ⟨q,hq⟩ ⟨hl,hd,_,(rel.put k eb rv).keeps fun c ys ec=>?_,q,es,ep,hq,h2,h3,h4,h5⟩;rw [zp (zkv ec e (fun z=>nomatch z))];exact ec
end
section
variable {X:Cx}{pJ:List (Addr×Obj)}{σ:St}{H:Hp}{s:ω}{a:Addr}{kvs:List (Key×V)}{k:Key}{u:δ}{A:ϡ}{E:VSP}
theorem zk6 {Q:VSP}(I:Inv X pJ σ H s) (e:Rd H a (.dK kvs)) (h:∀ t s',Inv X pJ σ H s'->Q (.int kvs.length t) s'):Ξ (Φ X.prog X.w) A (call (.builtin "len") [.ref a]) Q E s:=by obtain ⟨z,hd,vs,rel,dd⟩:=Y8 I.hok e;refine call_len_dict hd dd (by rw [<- rel.length];rw [aF] at z;lia) ?_;rw [<- rel.length];exact h _ _ (I.tok _)
end
theorem Us {X:Cx}{pJ:List (Addr×Obj)}{σ:St}{H:Hp}{s:ω}{a:Addr}{y:V}{o:Option V}(I:Inv X pJ σ H s) (g:DGet H a y o):s.TypeIs (.ref a) "dict":=by
 rcases g with ⟨kvs,k,e,_,_⟩ | ⟨kvs,k,b,e,_,_,_⟩
 ·obtain ⟨_,_,vs,_,dd⟩:=Y8 I.hok e;exact dd.typeIs
 ·obtain ⟨_,_,xs,_,dd⟩:=Qd I.hok e;exact dd.typeIs
theorem J1 {P:Ψ}{w:ϕ}{H:Hp}(h:Heap) (hb:dh < h.objs.size):z8 P w H (h.push { cls:=.type "dict",data:=.dict #[] }) h.objs.size (.dK []):=
 ⟨Ϯ _,beq_eq_false_iff_ne.mpr (eQ (ό hb)),[],.nil,Heap.DictOf.new h⟩
theorem zdb {P:Ψ}{w:ϕ}{H:Hp}(h:Heap) (hb:dh < h.objs.size):z8 P w H (h.push { cls:=.type "dict",data:=.dict #[] }) h.objs.size (.dT []):=
 ⟨Ϯ _,beq_eq_false_iff_ne.mpr (eQ (ό hb)),[],.nil,_,#[],0,Ν _ rfl,⟨rfl,rfl,rfl⟩,rfl,rfl,gR⟩
def zgS:TE:=fun _ H Q=>∀ p,H p=none->Q (.ref p) (upd H p (.dK []))
def zgR:TE:=fun _ H Q=>∀ p,H p=none->Q (.ref p) (upd H p (.dT []))
section
variable {X:Cx}{pos:Pos}
theorem zcD:PE X (.Dict [] [] pos) zgS:=fun pJ s σ H Q I h=>
 wpAny_Dict_empty ⟨.ref s.heap.objs.size,_,I.laid (a:=s.heap.objs.size) (o:=.dK []) (t':=s.toks) (fun _ _ q=>ο _ q) (Α _) (J1 s.heap I.big),rfl,h _ (I.hok.fresh (Α _))⟩
theorem zcC:PE X (.Dict [] [] pos) zgR:=fun pJ s σ H Q I h=>
 wpAny_Dict_empty ⟨.ref s.heap.objs.size,_,I.laid (a:=s.heap.objs.size) (o:=.dT []) (t':=s.toks) (fun _ _ q=>ο _ q) (Α _) (zdb s.heap I.big),rfl,h _ (I.hok.fresh (Α _))⟩
end
def Jf:List (TE×TE)->St->Hp->(List (V×V)->Hp->Prop)->Prop
 | [],_,H,Q=>Q [] H
 | (tk,tv)::r,σ,H,Q=>tk σ H fun x H1=>tv σ H1 fun y H2=>Jf r σ H2 fun ps H3=>Q ((x,y)::ps) H3
abbrev VV:List (V×V)->List (δ×δ)->Prop:=dR fun p q=>RelV p.1 q.1/\RelV p.2 q.2
def PPs (X:Cx) (pos:Pos) (keys:List (Option Expr)) (values:List Expr) (trs:List (TE×TE)):Prop:=
 ∀ (pJ:List (Addr×Obj)) (s:ω) (σ:St) (H:Hp) (Q:List (V×V)->Hp->Prop),Inv X pJ σ H s->Jf trs σ H Q ->
  Ξ (Φ X.prog X.w) X.A (evalPairs (pairTrees keys values X.env pos)) (fun vs s'=>∃ ps H',Inv X pJ σ H' s'/\VV ps vs/\Q ps H') X.xe s
theorem ze7 {X:Cx}{pos:Pos}:PPs X pos [] [] []:=fun pJ s σ H Q I h=>pairTrees_nil_walk ⟨[],H,I,.nil,h⟩
theorem zcv {X:Cx}{pos:Pos}{k v:Expr}{ks:List (Option Expr)}{vs:List Expr}{tk tv:TE}{trs:List (TE×TE)}(hk:PE X k tk) (hv:PE X v tv) (hr:PPs X pos ks vs trs):
  PPs X pos (some k::ks) (v::vs) ((tk,tv)::trs):=fun pJ s σ H Q I h=>
 pairTrees_cons_walk (thn (hk pJ s σ H _ I h) fun u s1 ⟨x,H1,I1,rx,q1⟩=>thn (hv pJ s1 σ H1 _ I1 q1) fun w2 s2 ⟨y,H2,I2,ry,q2⟩=>
  thn (hr pJ s2 σ H2 _ I2 q2) fun ws s3 ⟨ps,H3,I3,rel,q3⟩=>⟨(x,y)::ps,H3,I3,.cons ⟨rx,ry⟩ rel,q3⟩)
noncomputable def jg (kvs more:List (Key×V)):List (Key×V):=more.foldl (fun acc kv=>putK acc kv.1 kv.2) kvs
theorem KV.merge:∀ {more:List (Key×V)}{rs:List (Key×δ)}{kvs:List (Key×V)}{vs:List (Key×δ)},KV more rs->KV kvs vs->KV (jg kvs more) (merged vs rs):=by
 intro more rs kvs vs r;unfold KV at r
 induction r generalizing kvs vs with
 | nil=>intro q;exact q
 | @cons p q ps qs h t ih=>
  intro r0;have e:KV (putK kvs p.1 p.2) (stored vs q.1 q.2):=by have:=r0.put p.1 h.2;rw [<- h.1];exact this
  exact ih e
theorem ut:∀ (more kvs:List (Key×V)),(jg kvs more).length<=kvs.length+more.length
 | [],kvs=>by show kvs.length<=kvs.length+0;lia
 | p::r,kvs=>by
  have h1:=ut r (putK kvs p.1 p.2);have h2:=vX kvs p.1 p.2;show (jg (putK kvs p.1 p.2) r).length<=_
  rw [Ϝ];lia
theorem ZW {P:Ψ}{w:ϕ}:∀ {kvs:List (Key×V)}{ws:List (δ×δ)},VV (kvs.map fun kv=>(kV kv.1,kv.2)) ws->∃ rs,Carries (zZ P w) ws rs/\KV kvs rs
 | [],_,r=>by rw [gj] at r;cases r;exact ⟨[],ϳ,.nil⟩
 | p::kvs,_,r=>by
  rw [ϒ] at r;cases r with
  | @cons a b as bs h t=>
   obtain ⟨rs,c,q⟩:=ZW (P:=P) (w:=w) t;obtain ⟨b1,b2⟩:=b;exact ⟨(p.1,b2)::rs,⟨Uk h.1,rfl,c⟩,.cons ⟨rfl,h.2⟩ q⟩
def zju (trs:List (TE×TE)):TE:=fun σ H Q=>∀ p,H p=none->Jf trs σ (upd H p (.dK [])) fun ps H2=>H2 p=some (.dK [])/\∃ kvs:List (Key×V),ps=kvs.map (fun kv=>(kV kv.1,kv.2))/\kvs.length<=15/\Q (.ref p) (upd H2 p (.dK (jg [] kvs)))
theorem zfd {X:Cx}{pos:Pos}{keys:List (Option Expr)}{values:List Expr}{trs:List (TE×TE)}(h:PPs X pos keys values trs) (hall:keys.all (·.isSome)=true) (hl:keys.length=values.length) (h0:keys≠[])
  (h15:keys.length<=15):PE X (.Dict keys values pos) (zju trs):=by
 intro pJ s σ H Q I q;have hn:=I.hok.fresh (Α s.heap.objs.size);have I1:=I.laid (a:=s.heap.objs.size) (o:=.dK []) (h':=s.heap.push { cls:=.type "dict",data:=.dict #[] }) (t':=s.toks) (fun _ _ q=>ο _ q) (Α _) (J1 s.heap I.big);refine wpAny_Dict_walk (knd:=zZ X.prog X.w) hall hl h0 h15 (thn (h pJ _ σ _ _ I1 (q _ hn)) fun ws s2 ⟨ps,H2,I2,rel,e,kvs,ep,lk,q2⟩=>?_);subst ep;obtain ⟨rs,c,rk⟩:=ZW (P:=X.prog) (w:=X.w) rel;obtain ⟨z,hd,vs0,r0,dd⟩:=zi0 I2.hok e;cases r0;refine ⟨rs,c,dd,fun h' dd' hs=>⟨.ref s.heap.objs.size,_,?_,rfl,q2⟩⟩;have hz:(jg [] kvs).length<=sizeLine:=by have h1:=ut kvs [];rw [gD] at h1;rw [aF];lia
 have he:∃ q,h'.get? s.heap.objs.size=some q:=let ⟨q,_,_,hq,_⟩:=dd';⟨q,hq⟩
 exact Y9 I2 (by rw [e];exact ϳ) hs he (zed hz hd (rk.merge .nil) dd')
def IsD (H:Hp) (a:Addr):Prop:=(∃ kvs,Rd H a (.dK kvs))\/∃ kvs,Rd H a (.dT kvs)
section
variable {X:Cx}{pJ:List (Addr×Obj)}{σ:St}{H:Hp}{s:ω}{a:Addr}{y d:V}{u r:δ}{o:Option V}{A:ϡ}{E:VSP}
theorem zi4 {Q:VSP}(hu:A.units+1 < Ϸ) (I:Inv X pJ σ H s) (g:DGet H a y o) (ry:RelV y u) (rd:RelV d r) (h:∀ w' s',Inv X pJ σ H s'->RelV (o.getD d) w'->Q w' s'):
  Ξ (Φ X.prog X.w) A (call (.builtin "dict.get") [.ref a,u,r]) Q E s:=by
 rcases g with ⟨kvs,k,e,ey,l⟩ | ⟨kvs,k,b,e,ey,eb,l⟩
 ·subst ey;obtain ⟨z,hd,vs,rel,dd⟩:=Y8 I.hok e;refine oJ cC dd.typeIs fU (fD _ _ _) (meets_dict_get_default (zZ X.prog X.w) a (Uk ry) hd r) ⟨_,dd.mapOf,h _ _ (I.tok _) ?_⟩;rw [l];exact (rel.val k).getD rd
 ·subst ey;cases (show u=Ϟ b from ry);obtain ⟨z,hd,xs,rel,dd⟩:=Qd I.hok e;refine oJ cC dd.typeIs fU (fD _ _ _) (meetsH_dict_get_default (iQ (zZ X.prog X.w)) a b hd r) ⟨dH hu,k,xs,ZJ I.hok eb,dd,h _ _ (I.tok _) ?_⟩;rw [l];exact (rel.val k).getD rd
end
section
variable {X:Cx}
def zkb (K:W.Frag):V->List V->Hp->VK->Prop:=fun x vs H Q=>∃ l b xs zs,x=.ref l/\vs=[.ref b]/\H l=some (.lst xs)/\(H b=some (.lst zs)\/SqT K H b zs)/\xs.length+zs.length<=sizeLine/\Q .non (upd H l (.lst (xs++zs)))
theorem zfC:MtM X "list.extend" (zkb X.K):=by
 intro pJ s σ H x vs v us Q I rx rv h;obtain ⟨l,b,xs,zs,e1,e2,hH,hB,hz,q⟩:=h;rcases hB with hB | hB
 ·exact zaH pJ s σ H x vs v us Q I rx rv ⟨l,b,xs,zs,e1,e2,hH,hB,hz,q⟩
 ·subst e1 e2;cases rx;obtain ⟨u,rfl,ru⟩:=rv.one;cases ru;obtain ⟨z,its,n,r,hl,e⟩:=I.lstM hH;obtain ⟨its2,r2,⟨o,ho,hc,n2,hd⟩,z2⟩:=I.tuple hB;have l1:=r.length;have l2:=r2.length;have hsz:its.toArray.size+its2.toArray.size<=sizeLine:=by rw [χ,χ];omega
  refine cB F.slot_list_extend ⟨_,e,rfl⟩ F.entry_list_extend ?_ (F.args_list_extend_2 _ _);show Ξ _ _ (cu (.ref l) (.ref b) .none) _ _ _
  unfold cu;refine η (cL (T:="tuple") ⟨o,ho,hc⟩ ?_);rw [if_pos (by simp)];refine η (oG ho hd (η (oG e rfl ?_)));rw [if_neg (by rw [JC hsz,Τ];exact ϓ)];refine η (gn e rfl (ς ⟨_,rfl,?_⟩) (by rw [χ];omega) (by rw [Array.size_append];omega));refine ⟨.non,_,I.lset (f:=fun x=>x++its2.toArray) (its':=its++its2) (t':=s.toks) hH e (by simp) (r.append r2) ?_,rfl,q⟩;rw [ξ];omega
theorem Xv:∀ {xs:List V}{us:List δ}(n:Nat),Vals xs us->Vals (xs.take n) (us.take n)
 | _,_,_,.nil=>by simp;exact .nil
 | _,_,0,.cons _ _=>.nil
 | _,_,n+1,.cons h t=>.cons h (Xv n t)
theorem Xy:∀ {xs:List V}{us:List δ}(n:Nat),Vals xs us->Vals (xs.drop n) (us.drop n)
 | _,_,_,.nil=>by simp;exact .nil
 | _,_,0,.cons h t=>.cons h t
 | _,_,n+1,.cons _ t=>Xy n t
def rIns:V->List V->Hp->VK->Prop:=fun x vs H Q=>∃ l xs k y,x=.ref l/\vs=[.int (k:Nat),y]/\H l=some (.lst xs)/\k<=xs.length/\xs.length < 1000000/\Q .non (upd H l (.lst (xs.take k++y::xs.drop k)))
theorem zig:MtM X "list.insert" rIns:=by
 intro pJ s σ H x vs v us Q I rx rv h;obtain ⟨l,xs,k,y,rfl,rfl,hH,hk,hz,q⟩:=h;cases rx;obtain ⟨u1,us',rfl,r1,rv'⟩:∃ a b,us=a::b/\RelV (.int (k:Nat)) a/\Vals [y] b:=by cases rv with | cons h t=>exact ⟨_,_,rfl,h,t⟩
 obtain ⟨u2,rfl,r2⟩:=rv'.one;obtain ⟨t,rfl⟩:=(show ∃ t,u1=aj (k:Nat) t from r1)
 obtain ⟨z,its,n,r,hl,e⟩:=I.lstM hH;clear r1 rv rv';have hi0:∃ i:Int,i=((k:Nat):Int):=⟨_,rfl⟩
 obtain ⟨i,hi⟩:=hi0;rw [<- hi];have hf:¬ (!dN i)=true:=by
  have:dN i=true:=by unfold dN;simp;omega
  rw [this];exact ϓ
 refine nF F.slot_list_insert ⟨_,e,rfl⟩ F.entry_list_insert (F.args_list_insert_3 _ _ _) (AutoSeq1.list_insert_list_int_val_1 l its.toArray n i t u2 hf (by rw [χ];omega)) ⟨e,?_⟩;refine ⟨.non,_,I.lset (its':=its.take k++u2::its.drop k) hH e ?_ ((Xv k r).append (.cons r2 (Xy k r))) ?_,rfl,q⟩
 ·have hk':k<=its.length:=by omega
  have hneg:¬ (i < 0):=by omega
  have hin:i.toNat=k:=by omega
  simp only [χ,if_neg hneg,hin,gG hk'];apply Array.ext';simp;rw [gh (by simp)]
 ·rw [ξ,Ϝ,ϛ,ϥ,aF];omega
end
theorem PE.imp {X:Cx}{e:Expr}{t t':TE}(h:PE X e t) (i:∀ σ H Q,t' σ H Q->t σ H Q):PE X e t':=fun pJ s σ H Q I q=>h pJ s σ H Q I (i σ H Q q)
theorem PT.imp {X:Cx}{e:Expr}{t t':TT}(h:PT X e t) (i:∀ σ H Q,t' σ H Q->t σ H Q):PT X e t':=fun pJ s σ H Q I q=>h pJ s σ H Q I (i σ H Q q)
theorem PA.imp {X:Cx}{e:List Expr}{t t':TA}(h:PA X e t) (i:∀ σ H Q,t' σ H Q->t σ H Q):PA X e t':=fun pos pJ s σ H Q I q=>h pos pJ s σ H Q I (i σ H Q q)
theorem PS.imp {X:Cx}{e:Stmt}{t t':TS}(h:PS X e t) (i:∀ D σ H,t' D σ H->t D σ H):PS X e t':=fun pJ s σ H D I q=>h pJ s σ H D I (i D σ H q)
theorem PSs.imp {X:Cx}{e:List Stmt}{t t':TS}(h:PSs X e t) (i:∀ D σ H,t' D σ H->t D σ H):PSs X e t':=fun pJ s σ H D I q=>h pJ s σ H D I (i D σ H q)
section
variable {fs ex:List Addr}{H H1:Hp}{h h1 h':Heap}{C:Addr}
theorem Un.sameBut (u:Un fs ex H H1 h h1) (sb:ϵ C h1 h') (hC:h.objs.size<=C):Un fs ex H H1 h h':=by
 have ne:∀ b o,h.get? b=some o->b≠C:=fun b o e=>ό (ύ (Η e) hC)
 refine ⟨fun b o e n hb hx=>(sb.2 b (ne b o e)).trans (u.keep b o e n hb hx),fun b o e n hb hx=>?_,u.free,fun b o e hx=>?_,u.tups,u.frzs,u.tbls⟩
 ·obtain ⟨sl,q⟩:=u.slot b o e n hb hx;exact ⟨sl,(sb.2 b (ne b o e)).trans q⟩
 ·obtain ⟨o',q⟩:=u.there b o e hx;exact ⟨o',(sb.2 b (ne b o e)).trans q⟩
theorem HOk.sameBut {P:Ψ}{w:ϕ}(x:HOk P w H h) (sb:ϵ C h h') (hC:H C=none):HOk P w H h':=fun b o e=>by
 refine (x b o e).stay (fun c v hc q=>(sb.2 c ?_).trans q) (fun _ q=>q) fun _ _ q=>q
 rintro rfl;rcases hc with rfl | hc
 ·rw [hC] at e;cases e
 ·rw [hC] at hc;cases hc
end
noncomputable def rows (σ:St) (js:List Nat):St:=js.map fun j=>σ.getD j none
section
variable {X:Cx}
theorem Uy:yI X (.builtin "isinstance") (fun xs H Q=>∃ x T t b,xs=[x,.ty T]/\TyOf X.K H x t/\W.kitOne X.K t (.type T)=some b/\Q (.bl b) H):=by intro pJ s σ H vs us Q I rv h;obtain ⟨x,T,t,b,rfl,ty,e,q⟩:=h;obtain ⟨u,v,rfl,ru,rt⟩:=rv.two;cases (show v=lM T from rt);exact za5 I ru ty e fun tk=>⟨.bl b,H,I.tok tk,rfl,q⟩
theorem zh3:OpR X (Ϗ .Is) (fun x y H Q=>∃ a b,x=.bl a/\y=.bl b/\Q (.bl (a==b)) H):=by intro pJ s σ H x y v u Q I rx ry h;obtain ⟨a,b,rfl,rfl,q⟩:=h;cases rx;cases ry;exact is_bool (WQ I q rfl)
theorem zfi:OpR X (Ϗ .IsNot) (fun x y H Q=>∃ a b,x=.bl a/\y=.bl b/\Q (.bl (a != b)) H):=by intro pJ s σ H x y v u Q I rx ry h;obtain ⟨a,b,rfl,rfl,q⟩:=h;cases rx;cases ry;exact isnot_bool (WQ I q rfl)
def zla (_ j:Int):Prop:=0 < j/\j < 2 ^ 64
theorem zcL:OpR X (bY .FloorDiv) (rI zla fun i j=>.int (i / j)):=opI fun i j _ _ _ _ _ hc q=>by
 have e:i.fdiv j=i / j:=Int.fdiv_eq_ediv_of_nonneg _ (Int.le_of_lt hc.1);refine floordiv_int (by have:=hc.1;lia) (by rw [e];exact q) (.inl (PyProof.noPylong_of_log2 ?_));have h1:j.natAbs < 2 ^ 64:=by have:=hc.2;have:=hc.1;lia
 by_cases h0:j.natAbs=0
 ·rw [h0];decide
 ·have:=(Nat.log2_lt h0).mpr h1;lia
theorem zeo:∀ {bs:List Bool}{us:List δ},Vals (bs.map V.bl) us->us=bs.map Ϡ
 | [],_,.nil=>rfl
 | b::bs,_,.cons r t=>by cases (show _=Ϡ b from r);rw [zeo t];rfl
theorem KH (bs:List Bool):((Ϲ bs.length).all fun i=>(bs[i]?).getD true)=bs.all id:=by
 rw [d9,ν,ν];constructor
 ·intro h b hb;obtain ⟨i,hi,rfl⟩:=iu hb;have:=h i (bG.mpr hi);simpa [Ε hi] using this
 ·intro h i hi;have hi':=bG.mp hi;have:=h _ (cX hi');simpa [Ε hi'] using this
theorem KD (bs:List Bool):((Ϲ bs.length).any fun i=>(bs[i]?).getD false)=bs.any id:=by
 rw [d9,Ϧ,Ϧ];constructor
 ·rintro ⟨i,hi,e⟩;have hi':=bG.mp hi;exact ⟨_,cX hi',by simpa [Ε hi'] using e⟩
 ·rintro ⟨b,hb,e⟩;obtain ⟨i,hi,rfl⟩:=iu hb;exact ⟨i,bG.mpr hi,by simpa [Ε hi] using e⟩
theorem zdn (hc:X.calm=true):yI X (.builtin "all") (fun xs H Q=>∃ (p:Addr) (bs:List Bool),xs=[.ref p]/\SqL X.K H p (bs.map V.bl)/\Q (.bl (bs.all id)) H):=by
 intro pJ s σ H vs us Q I rv h;obtain ⟨p,bs,rfl,hq,q⟩:=h;obtain ⟨u,rfl,ru⟩:=rv.one;cases (show u=Ϟ p from ru);obtain ⟨its,rv,hp,hz⟩:=I.list hq;obtain rfl:=zeo rv;have hl:=hp.isList;have hlt:p < s.heap.objs.size:=by obtain ⟨_,e,_⟩:=hl;exact Η e
 have hh:X.A.handled=none:=I.ok.hd hc;refine call_all_walk (f9 hl ?_)
 refine ⟨s.heap.objs.size,[s.heap.objs.size,p],[s.heap.objs.size],(bs.map Ϡ).toArray.size,_,_,fun i=>(bs[i]?).getD true,rfl,Walks.list (A:=X.A.in1) hh _ p (ό hlt) (bs.map Ϡ).toArray,
  ⟨⟨_,Ν _ rfl,rfl,rfl⟩,hl.push _⟩,fun i v s' Q' E' hP hQ=>?_,fun h' tk hk=>?_⟩
 ·have hP':(bs.map Ϡ)[i]?=some v:=by simpa using hP
  rw [Ρ] at hP';cases e:bs[i]? with
  | none=>rw [e] at hP';cases hP'
  | some b=>
   rw [e] at hP';cases hP';simp only [e,nW] at hQ;exact ak hQ
 ·have e:((Ϲ (bs.map Ϡ).toArray.size).all fun i=>(bs[i]?).getD true)=bs.all id:=by rw [χ,υ];exact KH bs
  rw [e];exact ⟨.bl _,H,I.kept (LSm.kept_iter hk),rfl,q⟩
theorem zdm (hc:X.calm=true):yI X (.builtin "any") (fun xs H Q=>∃ (p:Addr) (bs:List Bool),xs=[.ref p]/\SqL X.K H p (bs.map V.bl)/\Q (.bl (bs.any id)) H):=by
 intro pJ s σ H vs us Q I rv h;obtain ⟨p,bs,rfl,hq,q⟩:=h;obtain ⟨u,rfl,ru⟩:=rv.one;cases (show u=Ϟ p from ru);obtain ⟨its,rv,hp,hz⟩:=I.list hq;obtain rfl:=zeo rv;have hl:=hp.isList;have hlt:p < s.heap.objs.size:=by obtain ⟨_,e,_⟩:=hl;exact Η e
 have hh:X.A.handled=none:=I.ok.hd hc;refine call_any_walk (f9 hl ?_)
 refine ⟨s.heap.objs.size,[s.heap.objs.size,p],[s.heap.objs.size],(bs.map Ϡ).toArray.size,_,_,fun i=>(bs[i]?).getD false,rfl,Walks.list (A:=X.A.in1) hh _ p (ό hlt) (bs.map Ϡ).toArray,
  ⟨⟨_,Ν _ rfl,rfl,rfl⟩,hl.push _⟩,fun i v s' Q' E' hP hQ=>?_,fun h' tk hk=>?_⟩
 ·have hP':(bs.map Ϡ)[i]?=some v:=by simpa using hP
  rw [Ρ] at hP';cases e:bs[i]? with
  | none=>rw [e] at hP';cases hP'
  | some b=>
   rw [e] at hP';cases hP';simp only [e,nW] at hQ;exact ak hQ
 ·have e:((Ϲ (bs.map Ϡ).toArray.size).any fun i=>(bs[i]?).getD false)=bs.any id:=by rw [χ,υ];exact KD bs
  rw [e];exact ⟨.bl _,H,I.kept (LSm.kept_iter hk),rfl,q⟩
end
end L2
namespace HT
open PySem PyProof.Rows
open PySem.SeqAt
open PySem.AutoSeq1 (wpAny_loadPart')
open PySem.MeetsSeq PySem.MeetsSeq2 PySem.MeetsSeq3
section
variable {prog:Ψ}{w:ϕ}{A:ϡ}{E:δ->ω->Prop}{s:ω}
theorem zdk {t b:Addr}{ws:List δ}{Q:δ->ω->Prop}(ht:IsTup s.heap t ([]:List δ).toArray) (hb:IsTup s.heap b ws.toArray)
  (h:Q (.ref b) s):Ξ (Φ prog w) A (bY .Add (.ref t) (.ref b)) Q E s:=by
 obtain ⟨⟨cls,dd,data,sl⟩,ho,hc,n,hd⟩:=id ht;obtain ⟨⟨cls2,dd2,data2,sl2⟩,ho2,hc2,n2,hd2⟩:=id hb;simp only at hc hd hc2 hd2;subst hc hd hc2 hd2;exact oH ⟨_,ho,rfl⟩ ⟨_,ho2,rfl⟩ mz nP fQ fC (eV _ _)
   (tuple_addW0 t b ([]:List δ).toArray ws.toArray n n2 dd dd2 sl sl2 (by simp)) ⟨ho,ho2,h⟩
theorem vZ {t sl:Addr}{items:Array δ}{vl vu:δ}{lo hi:Option Int}{Q:δ->ω->Prop}(ht:IsTup s.heap t items) (hs:s.heap.IsSliceOf sl vl vu .none) (pl:ir vl lo) (pu:ir vu hi)
  (hw:sIx items.size 0 lo=0/\sIx items.size items.size hi=items.size) (h:Q (.ref t) s):Ξ (Φ prog w) A (iU (.ref t) (.ref sl)) Q E s:=by
 obtain ⟨os,hos,hcs,hds⟩:=id hs;have hTs:s.TypeIs (.ref sl) "slice":=⟨os,hos,hcs⟩
 unfold iU
 try with_reducible refine aX ?_
 first | refine η (ς ?_) | skip
 refine η (wpAny_sequenceKey ht.typeIs (by decide) ?_)
 refine η (gK (name:=lu "__getitem__") ht.typeIs Ϭ
  (cB Ϭ ht.typeIs entry_tuple_getitem ?_ (args_tuple_getitem _ _)))
 show Ξ _ _ (iy (.ref t) >>= _) _ _ s
 refine η (tupleItemsOf_ ht ?_);refine η (cL hTs ?_);rw [if_pos (by decide)];refine η (xY hs pl pu ?_);have hyes:(((sIx items.size 0 lo:Nat):Int)==0&&(1:Int)==1&&(sIx items.size items.size hi - sIx items.size 0 lo)==items.size)=true:=by rw [hw.1,hw.2];simp
 show Ξ _ _ (if (((sIx items.size 0 lo:Nat):Int)==0&&(1:Int)==1&&(sIx items.size items.size hi - sIx items.size 0 lo)==items.size)=true then _ else _) _ _ s
 rw [if_pos hyes];unfold ώ.Tuple.tupleIsExact
 first
  | (refine η (η (cL ht.typeIs (ς ?_)));rw [if_pos (by decide)];exact η (dg (ς ⟨_,rfl,ς h⟩)))
  | (refine η (η (cL ht.typeIs (ς ?_)));rw [if_pos (by decide)];exact η (dg (η (ς (ς ⟨_,rfl,ς h⟩)))))
  | (refine η (η (η (cL ht.typeIs (ς ?_))));rw [if_pos (by decide)];exact η (dg (ς (ς ⟨_,rfl,ς h⟩))))
  | (refine η (η (cL ht.typeIs (ς ?_)));rw [if_pos (by decide)];trace_state;done)
end
end HT
namespace L2
open PySem PySem.Spec PyProof.Rows
section
variable {X:Cx}
def zhv (K:W.Frag):R2:=fun x y H Q=>∃ a b ys,x=.ref a/\y=.ref b/\SqT K H a []/\SqT K H b ys/\Q (.ref b) H
theorem zcM:OpR X (bY .Add) (zhv X.K):=by intro pJ s σ H x y v u Q I rx ry h;obtain ⟨a,b,ys,rfl,rfl,ha,hb,q⟩:=h;cases rx;cases ry;obtain ⟨its,r1,p1,_⟩:=I.tuple ha;obtain ⟨its2,r2,p2,_⟩:=I.tuple hb;cases r1;exact HT.zdk p1 p2 ⟨.ref b,H,I,rfl,q⟩
def rSlW (K:W.Frag):V->Option Int->Option Int->Hp->VK->Prop:=fun x lo hi H Q=>∃ a xs,x=.ref a/\SqT K H a xs/\(HT.sIx xs.length 0 lo=0/\HT.sIx xs.length xs.length hi=xs.length)/\Q (.ref a) H
theorem zeD:SlR X (rSlW X.K):=by
 intro pJ s σ H x v vl vu lo hi sl Q I rx hs pl pu h;obtain ⟨a,xs,rfl,hx,hw,q⟩:=h;cases rx;obtain ⟨its,r,ht,hz⟩:=I.tuple hx;have hlen:its.toArray.size=xs.length:=by rw [χ];exact r.length.symm
 refine ⟨"tuple",_,Ϭ.lookup,ht.typeIs,?_⟩;exact HT.vZ ht hs pl pu (by rw [hlen];exact hw) ⟨.ref a,H,I,rfl,q⟩
end
end L2
namespace EV
open PySem PySem.Spec PyProof.Rows L2
noncomputable abbrev Store:=List D
structure Gm where
 K:W.Frag
 fa:Nat->Option Addr
 ca:Nat->Option Addr
structure G where
 R:Hp
 α:List Addr
def KTup (K:W.Frag) (a:Addr) (xs:List V):Prop:=∃ (o:Obj) (its:Array δ) (n:Nat),K.lookup a=some o/\o.cls=.type "tuple"/\o.data=.seq its n/\its.size<=sizeLine/\Vals xs its.toList
def KDic (K:W.Frag) (a:Addr) (ps:List (Str×Int)):Prop:=(∃ o,K.lookup a=some o/\o.cls=.type "dict"/\o.dict=none)/\∀ h:Heap,K.In h->KTD.TextTab h a (ps.map fun p=>(p.1,.flat (.int p.2)))
mutual
def Has (Γ:Gm) (g:G):D->V->Prop
 | .non,v=>v=.non
 | .bl b,v=>v=.bl b
 | .int i,v=>v=.int i
 | .str x,v=>v=.str x
 | .tup ds,v=>∃ a vs,v=.ref a/\g.R a=some (.tup vs)/\Hass Γ g ds vs
 | .lst ds,v=>∃ a vs,v=.ref a/\g.R a=some (.lst vs)/\Hass Γ g ds vs
 | .dK ks ds,v=>∃ a vs,v=.ref a/\g.R a=some (.dK (ks.zip vs))/\ks.length=ds.length/\Hass Γ g ds vs
 | .dT ks ds,v=>∃ a vs,v=.ref a/\g.R a=some (.dT (ks.zip vs))/\ks.length=ds.length/\Hass Γ g ds vs
 | .ref k,v=>∃ a,g.α[k]?=some a/\v=.ref a
 | .fn f,v=>∃ a,Γ.fa f=some a/\v=.ref a
 | .scr ns,v=>∃ a,v=.ref a/\SqL Γ.K g.R a (ns.map V.int)
 | .ktp ds,v=>∃ a vs,v=.ref a/\KTup Γ.K a vs/\Hass Γ g ds vs
 | .kdc ps,v=>∃ a,v=.ref a/\KDic Γ.K a ps
 | .dF ks ds,v=>∃ a vs o,v=.ref a/\g.R a=some (.frz o (.dT (ks.zip vs)))/\ks.length=ds.length/\Hass Γ g ds vs
 | .ins c ns ds,v=>∃ a C dx vs,v=.ref a/\caOf Γ.K c=some C/\g.R a=some (.ins C dx (ns.zip vs))/\ns.length=ds.length/\Hass Γ g ds vs
def Hass (Γ:Gm) (g:G):List D->List V->Prop
 | [],vs=>vs=[]
 | d::ds,vs=>∃ v r,vs=v::r/\Has Γ g d v/\Hass Γ g ds r
end
structure Le (g g':G):Prop where
 rr:Same g.R g'.R
 aa:∀ (k:Nat) (a:Addr),g.α[k]?=some a->g'.α[k]?=some a
theorem Le.refl (g:G):Le g g:=⟨Same.refl _,fun _ _ h=>h⟩
theorem Le.trans {g g1 g2:G}(a:Le g g1) (b:Le g1 g2):Le g g2:=⟨a.rr.trans b.rr,fun k c h=>b.aa k c (a.aa k c h)⟩
mutual
theorem JS {Γ:Gm}{g g':G}(e:Le g g'):∀ (d:D) (v:V),Has Γ g d v->Has Γ g' d v
 | .non,_,h=>h
 | .bl _,_,h=>h
 | .int _,_,h=>h
 | .str _,_,h=>h
 | .tup ds,_,⟨a,vs,h1,h2,h3⟩=>⟨a,vs,h1,e.rr _ _ h2,yp e ds vs h3⟩
 | .lst ds,_,⟨a,vs,h1,h2,h3⟩=>⟨a,vs,h1,e.rr _ _ h2,yp e ds vs h3⟩
 | .dK ks ds,_,⟨a,vs,h1,h2,h4,h3⟩=>⟨a,vs,h1,e.rr _ _ h2,h4,yp e ds vs h3⟩
 | .dT ks ds,_,⟨a,vs,h1,h2,h4,h3⟩=>⟨a,vs,h1,e.rr _ _ h2,h4,yp e ds vs h3⟩
 | .ref k,_,⟨a,h1,h2⟩=>⟨a,e.aa _ _ h1,h2⟩
 | .fn f,_,h=>h
 | .scr _,_,⟨a,h1,h2⟩=>⟨a,h1,e.rr.seq h2⟩
 | .ktp ds,_,⟨a,vs,h1,h2,h3⟩=>⟨a,vs,h1,h2,yp e ds vs h3⟩
 | .kdc _,_,h=>h
 | .dF ks ds,_,⟨a,vs,o,h1,h2,h4,h3⟩=>⟨a,vs,o,h1,e.rr _ _ h2,h4,yp e ds vs h3⟩
 | .ins c ns ds,_,⟨a,C,dx,vs,h1,h0,h2,h4,h3⟩=>⟨a,C,dx,vs,h1,h0,e.rr _ _ h2,h4,yp e ds vs h3⟩
theorem yp {Γ:Gm}{g g':G}(e:Le g g'):∀ (ds:List D) (vs:List V),Hass Γ g ds vs->Hass Γ g' ds vs
 | [],_,h=>h
 | d::ds,_,⟨v,r,h1,h2,h3⟩=>⟨v,r,h1,JS e d v h2,yp e ds r h3⟩
end
theorem Has.mono {Γ:Gm}{g g':G}{d:D}{v:V}(h:Has Γ g d v) (e:Le g g'):Has Γ g' d v:=JS e d v h
theorem Hass.mono {Γ:Gm}{g g':G}{d:List D}{v:List V}(h:Hass Γ g d v) (e:Le g g'):Hass Γ g' d v:=yp e d v h
section
variable {Γ:Gm}{g:G}
theorem Hass.len:∀ {ds:List D}{vs:List V},Hass Γ g ds vs->vs.length=ds.length
 | [],_,h=>by cases (show _=[] from h);rfl
 | d::ds,_,⟨v,r,h1,_,h3⟩=>by subst h1;simp [Hass.len h3]
theorem Hass.get:∀ {ds:List D}{vs:List V}{i:Nat}{d:D},Hass Γ g ds vs->ds[i]?=some d->∃ v,vs[i]?=some v/\Has Γ g d v
 | [],_,_,_,_,e=>by simp at e
 | d::ds,_,0,_,⟨v,r,h1,h2,_⟩,e=>by subst h1;simp at e;subst e;exact ⟨v,rfl,h2⟩
 | d::ds,_,i+1,_,⟨v,r,h1,_,h3⟩,e=>by subst h1;obtain ⟨u,q,hu⟩:=Hass.get (i:=i) h3 (by simpa using e);exact ⟨u,by simpa using q,hu⟩
theorem Hass.of:∀ {ds:List D}{vs:List V},vs.length=ds.length->(∀ (i:Nat) (d:D) (v:V),ds[i]?=some d->vs[i]?=some v->Has Γ g d v)->Hass Γ g ds vs
 | [],[],_,_=>rfl
 | d::ds,v::vs,hl,h=>⟨v,vs,rfl,h 0 d v rfl rfl,Hass.of (by simpa using hl) fun i d v e1 e2=>h (i+1) d v (by simpa using e1) (by simpa using e2)⟩
 | [],_::_,hl,_=>by simp at hl
 | _::_,[],hl,_=>by simp at hl
theorem Hass.one {d:D}{vs:List V}(h:Hass Γ g [d] vs):∃ v,vs=[v]/\Has Γ g d v:=by obtain ⟨v,r,e,hd,hr⟩:=h;cases (show r=[] from hr);exact ⟨v,e,hd⟩
theorem Hass.two {d e:D}{vs:List V}(h:Hass Γ g [d,e] vs):∃ v u,vs=[v,u]/\Has Γ g d v/\Has Γ g e u:=by obtain ⟨v,r,e1,hd,hr⟩:=h;obtain ⟨u,e2,he⟩:=Hass.one hr;subst e2;exact ⟨v,u,e1,hd,he⟩
theorem Hass.mk1 {d:D}{v:V}(h:Has Γ g d v):Hass Γ g [d] [v]:=⟨v,[],rfl,h,rfl⟩
theorem Hass.app:∀ {ds es:List D}{vs us:List V},Hass Γ g ds vs->Hass Γ g es us->Hass Γ g (ds++es) (vs++us)
 | [],_,_,_,h,k=>by cases (show _=[] from h);exact k
 | d::ds,_,_,_,⟨v,r,h1,h2,h3⟩,k=>by subst h1;exact ⟨v,_,rfl,h2,Hass.app h3 k⟩
theorem Hass.drop {ds:List D}{vs:List V}(n:Nat) (h:Hass Γ g ds vs):Hass Γ g (ds.drop n) (vs.drop n):=by
 refine Hass.of (by rw [ϥ,ϥ,h.len]) fun i d v e1 e2=>?_
 rw [List.getElem?_drop] at e1 e2;obtain ⟨u,q,hu⟩:=h.get e1;rw [q] at e2;cases e2;exact hu
set_option tactic.hygienic true in
theorem Hass.take {ds:List D}{vs:List V}(n:Nat) (h:Hass Γ g ds vs):Hass Γ g (ds.take n) (vs.take n):=by
 refine Hass.of (by rw [ϛ,ϛ,h.len]) fun i d v e1 e2=>?_
 rw [List.getElem?_take] at e1 e2;split at e1
 ·rename_i hi
  rw [if_pos hi] at e2;obtain ⟨u,q,hu⟩:=h.get e1;rw [q] at e2;cases e2;exact hu
 ·cases e1
set_option tactic.hygienic true in
theorem Hass.set {ds:List D}{vs:List V}{d:D}{v:V}(n:Nat) (h:Hass Γ g ds vs) (hd:Has Γ g d v):Hass Γ g (ds.set n d) (vs.set n v):=by
 refine Hass.of (by rw [aq,aq,h.len]) fun i d' v' e1 e2=>?_
 rw [List.getElem?_set] at e1 e2;split at e1
 ·rename_i hi
  rw [if_pos hi] at e2;split at e1
  ·split at e2
   ·cases e1;cases e2;exact hd
   ·cases e2
  ·cases e1
 ·rename_i hi
  rw [if_neg hi] at e2;obtain ⟨u,q,hu⟩:=h.get e1;rw [q] at e2;cases e2;exact hu
theorem Hass.ints:∀ {ns:List Int},Hass Γ g (ns.map D.int) (ns.map V.int)
 | []=>rfl
 | _::_=>⟨_,_,rfl,rfl,Hass.ints⟩
end
def MutF:HO->Prop
 | .frz _ _=>True
 | o=>Mut (some o)
def z9 (Γ:Gm) (H:Hp) (g:G) (a:Addr):D->Prop
 | .lst ds=>∃ vs,H a=some (.lst vs)/\Hass Γ g ds vs
 | .dK ks ds=>∃ vs,H a=some (.dK (ks.zip vs))/\ks.length=ds.length/\Hass Γ g ds vs
 | .dT ks ds=>∃ vs,H a=some (.dT (ks.zip vs))/\ks.length=ds.length/\Hass Γ g ds vs
 | .ref _=>∃ o,g.R a=some o/\H a=some o/\MutF o
 | .ins c ns ds=>∃ C dx vs,caOf Γ.K c=some C/\H a=some (.ins C dx (ns.zip vs))/\ns.length=ds.length/\Hass Γ g ds vs
 | _=>False
noncomputable def gone:D->Bool
 | .ref _=>true
 | _=>false
theorem z9.mono {Γ:Gm}{H H':Hp}{g g':G}{a:Addr}{c:D}(h:z9 Γ H g a c) (e:Le g g') (hh:∀ o,H a=some o->H' a=some o):z9 Γ H' g' a c:=by
 cases c with
 | lst ds=>obtain ⟨vs,h1,h2⟩:=h;exact ⟨vs,hh _ h1,h2.mono e⟩
 | dK ks ds=>obtain ⟨vs,h1,h3,h2⟩:=h;exact ⟨vs,hh _ h1,h3,h2.mono e⟩
 | dT ks ds=>obtain ⟨vs,h1,h3,h2⟩:=h;exact ⟨vs,hh _ h1,h3,h2.mono e⟩
 | non=>exact h
 | bl=>exact h
 | int=>exact h
 | str=>exact h
 | tup=>exact h
 | ref=>obtain ⟨o,h1,h2,h3⟩:=h;exact ⟨o,e.rr _ _ h1,hh _ h2,h3⟩
 | fn=>exact h
 | scr=>exact h
 | ktp=>exact h
 | kdc=>exact h
 | dF=>exact h
 | ins=>obtain ⟨C,dx,vs,h0,h1,h3,h2⟩:=h;exact ⟨C,dx,vs,h0,hh _ h1,h3,h2.mono e⟩
theorem z9.WD {Γ:Gm}{H:Hp}{g:G}{a:Addr}{c:D}(h:z9 Γ H g a c):∃ o,H a=some o/\MutF o:=by
 cases c with
 | lst ds=>obtain ⟨vs,h1,h2⟩:=h;exact ⟨_,h1,ϳ⟩
 | dK ks ds=>obtain ⟨vs,h1,h3,h2⟩:=h;exact ⟨_,h1,ϳ⟩
 | dT ks ds=>obtain ⟨vs,h1,h3,h2⟩:=h;exact ⟨_,h1,ϳ⟩
 | non=>exact h.elim
 | bl=>exact h.elim
 | int=>exact h.elim
 | str=>exact h.elim
 | tup=>exact h.elim
 | ref=>obtain ⟨o,h1,h2,h3⟩:=h;exact ⟨o,h2,h3⟩
 | fn=>exact h.elim
 | scr=>exact h.elim
 | ktp=>exact h.elim
 | kdc=>exact h.elim
 | dF=>exact h.elim
 | ins=>obtain ⟨C,dx,vs,h0,h1,h3,h2⟩:=h;exact ⟨_,h1,ϳ⟩
structure WOk (Γ:Gm) (H:Hp) (g:G) (S:Store):Prop where
 rh:Same g.R H
 len:g.α.length=S.length
 nd:g.α.Nodup
 off:∀ (k:Nat) (c:D) (a:Addr),S[k]?=some c->g.α[k]?=some a->gone c=false->g.R a=none
 cell:∀ (k:Nat) (c:D) (a:Addr),S[k]?=some c->g.α[k]?=some a->z9 Γ H g a c
structure Step (H:Hp) (g:G) (H':Hp) (g':G):Prop where
 le:Le g g'
 fr:∀ a o,H a=some o->a ∉ g.α->H' a=some o
 ex:∀ a o,H a=some o->∃ o',H' a=some o'
 na:∀ a∈g'.α,a∈g.α\/H a=none
 nr:∀ a,g'.R a≠none->g.R a≠none\/H a=none\/a∈g.α\/∃ xs,H a=some (.tup xs)
theorem Step.refl (H:Hp) (g:G):Step H g H g:=⟨Le.refl g,fun _ _ h _=>h,fun _ o h=>⟨o,h⟩,fun _ h=>.inl h,fun _ h=>.inl h⟩
theorem Step.JD {H H':Hp}{g g':G}(s:Step H g H' g') {a:Addr}(h:H' a=none):H a=none:=by
 cases q:H a with
 | none=>rfl
 | some o=>
  obtain ⟨o',e⟩:=s.ex a o q;rw [e] at h;cases h
theorem Step.trans {H H1 H2:Hp}{g g1 g2:G}(a:Step H g H1 g1) (b:Step H1 g1 H2 g2):Step H g H2 g2 where
 le:=a.le.trans b.le
 fr:=fun x o h n=>b.fr x o (a.fr x o h n) fun m=>by
  rcases a.na x m with q | q
  ·exact n q
  ·rw [h] at q;cases q
 ex:=fun x o h=>let ⟨o1,h1⟩:=a.ex x o h;b.ex x o1 h1
 na:=fun x m=>by
  rcases b.na x m with q | q
  ·exact a.na x q
  ·exact .inr (a.JD q)
 nr:=fun x m=>by
  rcases b.nr x m with q | q | q | ⟨xs,q⟩
  ·exact a.nr x q
  ·exact .inr (.inl (a.JD q))
  ·rcases a.na x q with q | q
   ·exact .inr (.inr (.inl q))
   ·exact .inr (.inl q)
  ·by_cases hx:x∈g.α
   ·exact .inr (.inr (.inl hx))
   ·cases e:H x with
    | none=>exact .inr (.inl rfl)
    | some o=>
     have:=a.fr x o e hx;rw [q] at this;cases this;exact .inr (.inr (.inr ⟨xs,rfl⟩))
theorem Step.of_same {H H':Hp}{g g':G}(s:Same H H') (le:Le g g') (na:∀ a∈g'.α,a∈g.α\/H a=none) (nr:∀ a,g'.R a≠none->g.R a≠none\/H a=none):Step H g H' g':=
 ⟨le,fun a o h _=>s a o h,fun a o h=>⟨o,s a o h⟩,na,fun a h=>(nr a h).imp id .inl⟩
def VOk (Γ:Gm) (H:Hp) (d:D) (fr:Bool) (v:V) (H':Hp) (g':G):Prop:=
 if fr=true then ∃ a,v=.ref a/\H a=none/\g'.R a=none/\a ∉ g'.α/\z9 Γ H' g' a d else Has Γ g' d v
noncomputable def G.put (g:G) (a:Addr) (o:HO):G:={ g with R:=upd g.R a o }
noncomputable def G.cell (g:G) (a:Addr):G:={ g with α:=g.α++[a] }
theorem Le.put {g:G}{a:Addr}{o:HO}(h:g.R a=none):Le g (g.put a o):=⟨fun b u q=>by
 show upd g.R a o b=some u
 rw [zp (zF q h)];exact q,fun _ _ q=>q⟩
theorem Le.cell {g:G}{a:Addr}:Le g (g.cell a):=⟨Same.refl _,fun k b q=>by
 show (g.α++[a])[k]?=some b
 rw [ϗ (Ι.mp q).1];exact q⟩
section
variable {Γ:Gm}{H H':Hp}{g g':G}{S:Store}{d:D}{v:V}{a:Addr}
theorem WOk.put {o:HO}(w:WOk Γ H g S) (h:H a=some o) (hn:g.R a=none) (ha:a ∉ g.α):WOk Γ H (g.put a o) S where
 rh:=fun b u q=>by
  by_cases hb:b=a
  ·subst hb;have q':upd g.R b o b=some u:=q;rw [zg] at q';cases q';exact h
  ·have q':upd g.R a o b=some u:=q;rw [zp hb] at q';exact w.rh b u q'
 len:=w.len
 nd:=w.nd
 off:=fun k c b h1 h2 h3=>by
  show upd g.R a o b=none
  have hne:b≠a:=by rintro rfl;exact ha (ϴ h2)
  rw [zp hne];exact w.off k c b h1 h2 h3
 cell:=fun k c b h1 h2=>(w.cell k c b h1 h2).mono (Le.put hn) fun _ q=>q
theorem Step.put {o:HO}(s:Step H g H' g') (hn:g'.R a=none) (h:H a=none):Step H g H' (g'.put a o) where
 le:=s.le.trans (Le.put hn)
 fr:=s.fr
 ex:=s.ex
 na:=s.na
 nr:=fun b q=>by
  by_cases hb:b=a
  ·subst hb;exact .inr (.inl h)
  ·have q':upd g'.R a o b≠none:=q;rw [zp hb] at q';exact s.nr b q'
theorem ZP {o:HO}(hn:g.R a=none) (ho:H a=some o) (h:z9 Γ H g a d):Has Γ (g.put a o) d (.ref a):=by
 have le:Le g (g.put a o):=Le.put hn;have hr:(g.put a o).R a=some o:=zg;cases d with
 | lst ds=>obtain ⟨vs,h1,h2⟩:=h;rw [h1] at ho;cases ho;exact ⟨a,vs,rfl,hr,h2.mono le⟩
 | dK ks ds=>obtain ⟨vs,h1,h3,h2⟩:=h;rw [h1] at ho;cases ho;exact ⟨a,vs,rfl,hr,h3,h2.mono le⟩
 | dT ks ds=>obtain ⟨vs,h1,h3,h2⟩:=h;rw [h1] at ho;cases ho;exact ⟨a,vs,rfl,hr,h3,h2.mono le⟩
 | non=>exact h.elim
 | bl=>exact h.elim
 | int=>exact h.elim
 | str=>exact h.elim
 | tup=>exact h.elim
 | ref=>obtain ⟨o,h1,_⟩:=h;rw [hn] at h1;cases h1
 | fn=>exact h.elim
 | scr=>exact h.elim
 | ktp=>exact h.elim
 | kdc=>exact h.elim
 | dF=>exact h.elim
 | ins=>obtain ⟨C,dx,vs,h0,h1,h3,h2⟩:=h;rw [h1] at ho;cases ho;exact ⟨a,C,dx,vs,rfl,h0,hr,h3,h2.mono le⟩
@[simp] noncomputable def WF:D->Bool:=fun _=>false
theorem freeze {fr:Bool}(s:Step H g H' g') (w:WOk Γ H' g' S) (h:VOk Γ H d fr v H' g') (hi:WF d=false):∃ g2,Step H g H' g2/\WOk Γ H' g2 S/\Has Γ g2 d v/\Le g' g2:=by
 cases fr with
 | false=>exact ⟨g',s,w,h,Le.refl _⟩
 | true=>
  obtain ⟨a,rfl,h0,hn,ha,hc⟩:=(show ∃ a,v=.ref a/\H a=none/\g'.R a=none/\a ∉ g'.α/\z9 Γ H' g' a d from h)
  obtain ⟨o,ho,_⟩:=hc.WD;exact ⟨g'.put a o,s.put hn h0,w.put ho hn ha,ZP hn ho hc,Le.put hn⟩
theorem zjd (s:Step H g H' g') (w:WOk Γ H' g' S) (h:VOk Γ H d true v H' g'):∃ g2,Step H g H' g2/\WOk Γ H' g2 (S++[d])/\Has Γ g2 (.ref S.length) v:=by
 obtain ⟨a,rfl,h0,hn,ha,hc⟩:=(show ∃ a,v=.ref a/\H a=none/\g'.R a=none/\a ∉ g'.α/\z9 Γ H' g' a d from h)
 refine ⟨g'.cell a,⟨s.le.trans Le.cell,s.fr,s.ex,fun b hb=>?_,s.nr⟩,⟨w.rh,?_,?_,fun k c b h1 h2 h3=>?_,fun k c b h1 h2=>?_⟩,a,?_,rfl⟩
 ·rcases Ζ.mp hb with q | q
  ·exact s.na b q
  ·rw [μ.mp q];exact .inr h0
 ·show (g'.α++[a]).length=(S++[d]).length
  simp [w.len]
 ·show (g'.α++[a]).Nodup
  exact nd_snocA w.nd ha
 ·have h2':(g'.α++[a])[k]?=some b:=h2;by_cases hk:k < S.length
  ·rw [ϗ hk] at h1;rw [ϗ (by rw [w.len];exact hk)] at h2';exact w.off k c b h1 h2' h3
  ·rw [ϝ (by rw [w.len];lia)] at h2';have:=ϴ h2';rw [μ.mp this];exact hn
 ·have h2':(g'.α++[a])[k]?=some b:=h2;by_cases hk:k < S.length
  ·rw [ϗ hk] at h1;rw [ϗ (by rw [w.len];exact hk)] at h2';exact (w.cell k c b h1 h2').mono Le.cell fun _ q=>q
  ·rw [ϝ (by lia)] at h1;rw [ϝ (by rw [w.len];lia)] at h2';have e0:k - S.length=0:=by
    cases q:k - S.length with
    | zero=>rfl
    | succ n=>rw [q] at h1;simp at h1
   rw [e0] at h1;rw [w.len,e0] at h2';simp at h1 h2';subst h1 h2';exact hc.mono Le.cell fun _ q=>q
 ·show (g'.α++[a])[S.length]?=some a
  rw [<- w.len];simp
where
 nd_snocA:∀ {l:List Addr}{k:Addr},l.Nodup->¬ k∈l->(l++[k]).Nodup:=fun {l k} h hk=>by rw [bL];exact ⟨h,by simp,fun x hx y hy=>by rw [μ.mp hy];rintro rfl;exact hk hx⟩
end
end EV
namespace TS
open PySem PyProof.Rows
set_option backward.match.sparseCases true
variable {O:bD}{key:bu->O.α}{G:bu->Prop}{kd:iJ}{M:Model}{A:ϡ}{E:δ->ω->Prop}{s:ω}
section
def LtOk (O:bD) (key:bu->O.α) (G:bu->Prop) (kd:iJ) (M:Model) (A:ϡ) (E:δ->ω->Prop) (s:ω):Prop:=
 ∀ (x y:bu) (st:aA) (Q:Option Bool->aA->Prop),G x->G y->kindOf st=kd->Q (some (O.blt (key x) (key y))) st->wpS M A E s (lt' x y) Q st
noncomputable def dk:bu:=(.none,.none)
noncomputable def kk (key:bu->O.α) (xs:Array bu) (i:Nat):O.α:=key (xs[i]?.getD dk)
def Srt (key:bu->O.α) (xs:Array bu) (lo hi:Nat):Prop:=∀ i j,lo<=i->i<=j->j < hi->O.kle (kk key xs i) (kk key xs j)
structure Bs (G:bu->Prop) (kd:iJ) (az:Array bu) (p:Array (Nat×Nat×Nat)) (st:aA):Prop where
 perm:(Χ st).Perm az
 good:∀ x∈az.toList,G x
 kind:kindOf st=kd
 failed:failedOf st=none
 pend:my st=p
variable {az:Array bu}{p:Array (Nat×Nat×Nat)}
theorem Bs.size {st:aA}(h:Bs G kd az p st):(Χ st).size=az.size:=h.perm.size_eq
theorem Bs.set {st:aA}(h:Bs G kd az p st) {xs:Array bu}(q:xs.Perm (Χ st)):Bs G kd az p (setArr st xs):=⟨q.trans h.perm,h.good,h.kind,h.failed,h.pend⟩
theorem Bs.item {st:aA}(h:Bs G kd az p st) {i:Nat}(hi:i < az.size):∃ x,(Χ st)[i]?=some x/\G x/\kk key (Χ st) i=key x:=by
 have hi':i < (Χ st).size:=by rw [h.size];exact hi
 have e:(Χ st)[i]?=some (Χ st)[i]:=getElem?_pos _ i hi';refine ⟨(Χ st)[i],e,h.good _ ((lR.mp h.perm).mem_iff.mp (by simp)),?_⟩;unfold kk;rw [e];rfl
theorem Qo {arr:Array bu}{i:Nat}{x:bu}{Q:bu->aA->Prop}{st:aA}(e:arr[i]?=some x) (h:Q x st):wpS M A E s (elem' arr i) Q st:=by rw [elem'_eq,e];exact aJ h
theorem wp_at (L:LtOk O key G kd M A E s) {st:aA}(h:Bs G kd az p st) {i j:Nat}(hi:i < az.size) (hj:j < az.size) {Q:Option Bool->aA->Prop}
  (q:Q (some (O.blt (kk key (Χ st) i) (kk key (Χ st) j))) st):wpS M A E s (ltAt' i j) Q st:=by obtain ⟨x,e1,g1,k1⟩:=h.item (key:=key) hi;obtain ⟨y,e2,g2,k2⟩:=h.item (key:=key) hj;rw [ltAt'_eq];refine ϟ (wpS_get (ϟ (Qo e1 (ϟ (Qo e2 (L x y st Q g1 g2 h.kind ?_))))));rw [<- k1,<- k2];exact q
theorem U0 {st:aA}{i j:Nat}{Q:Unit->aA->Prop}(h:Q () (setArr st (mirror (Χ st) i j ((j - i) / 2)))):wpS M A E s (eF i j) Q st:=by rw [reverseSlice'_eq];exact nC h
theorem zaT {xs ys:Array bu}{i j:Nat}(h:xs[i]?=ys[j]?):kk key xs i=kk key ys j:=by unfold kk;rw [h]
set_option tactic.hygienic true in
theorem qe {xs:Array bu}{i j:Nat}(hj:j<=xs.size) (k:Nat):kk key (mirror xs i j ((j - i) / 2)) k=if i<=k/\k < j then kk key xs (i+j - 1 - k) else kk key xs k:=by
 have e:=getElem?_mirror_all (i:=i) hj k;split
 ·rename_i h;rw [if_pos h] at e;exact zaT e
 ·rename_i h;rw [if_neg h] at e;exact zaT e
theorem JG {xs:Array bu}{i j k:Nat}(hj:j<=xs.size) (hk:k < i):(mirror xs i j ((j - i) / 2))[k]?=xs[k]?:=by rw [getElem?_mirror_all hj,if_neg (by lia)]
set_option tactic.hygienic true in
theorem V9 {xs:Array bu}{i j:Nat}(hj:j<=xs.size) (h:∀ k,i<=k->k < j->kk key xs k=kk key xs (j - 1)) (k:Nat):kk key (mirror xs i j ((j - i) / 2)) k=kk key xs k:=by
 rw [qe hj];split
 ·rename_i q
  exact (h _ (by omega) (by omega)).trans (h k q.1 q.2).symm
 ·rfl
theorem Srt.one {xs:Array bu}{lo:Nat}:Srt key xs lo (lo+1):=fun i j h1 h2 h3=>by
 obtain rfl:i=j:=by lia
 exact bJ _
theorem Srt.more {xs:Array bu}{lo n:Nat}(h:Srt key xs lo (lo+n)) (h1:1<=n) (k:O.kle (kk key xs (lo+n - 1)) (kk key xs (lo+n))):Srt key xs lo (lo+(n+1)):=fun i j a b c=>by
 by_cases e:j < lo+n
 ·exact h i j a b e
 ·obtain rfl:j=lo+n:=by lia
  by_cases e:i=lo+n
  ·subst e;exact bJ _
  ·exact cU (h i (lo+n - 1) a (by lia) (by lia)) k
theorem zdy (L:LtOk O key G kd M A E s) {st:aA}(b:Bs G kd az p st) {lo a nrem:Nat}(h1:1<=a) (ha:a<=nrem) (h2:lo+nrem<=az.size) (hs:Srt key (Χ st) lo (lo+a)) {Q:Option (Option Nat)×Nat->aA->Prop}
  (q:∀ n,a<=n->n<=nrem->Srt key (Χ st) lo (lo+n)->(n=nrem\/O.klt (kk key (Χ st) (lo+n)) (kk key (Χ st) (lo+n - 1)))->Q (none,n) st):
  wpS M A E s (forIn [a:nrem] ((none,a):Option (Option Nat)×Nat) fun _ c=>do
   let x <- ltAt' (lo+c.2) (lo+c.2 - 1)
   match x with
   | some smaller=>if smaller=true then pure (aC (none,c.2)) else pure (Ϻ (none,c.2+1))
   | _=>pure (aC (some none,c.2))) Q st:=by
 refine fB (I:=fun x c st'=>st'=st/\c=(none,x)/\Srt key (Χ st) lo (lo+x)) ?_ ?_ ⟨rfl,rfl,hs⟩
 ·rintro x c st' hx hn ⟨rfl,rfl,hs⟩;dsimp only;refine ϟ (wp_at L b (by lia) (by lia) ?_);cases hl:O.blt (kk key (Χ st') (lo+x)) (kk key (Χ st') (lo+x - 1)) with
  | true=>exact aJ (q x hx (by lia) hs (.inr hl))
  | false=>exact aJ ⟨rfl,rfl,hs.more (by lia) hl⟩
 ·rintro c st' ⟨rfl,rfl,hs⟩;rw [show max a nrem=nrem by lia] at hs ⊢;exact q nrem ha (Α _) hs (.inl rfl)
def Fal (key:bu->O.α) (xs:Array bu) (lo hi:Nat):Prop:=∀ i j,lo<=i->i<=j->j < hi->O.kle (kk key xs j) (kk key xs i)
theorem Fal.more {xs:Array bu}{lo n:Nat}(h:Fal key xs lo (lo+n)) (h1:1<=n) (k:O.kle (kk key xs (lo+n)) (kk key xs (lo+n - 1))):Fal key xs lo (lo+(n+1)):=fun i j a b c=>by
 by_cases e:j < lo+n
 ·exact h i j a b e
 ·obtain rfl:j=lo+n:=by lia
  by_cases e:i=lo+n
  ·subst e;exact bJ _
  ·exact cU k (h i (lo+n - 1) a (by lia) (by lia))
theorem Fal.same {xs ys:Array bu}{lo hi:Nat}(h:Fal key xs lo hi) (e:∀ k,kk key ys k=kk key xs k):Fal key ys lo hi:=fun i j a b c=>by rw [e,e];exact h i j a b c
theorem Qm (L:LtOk O key G kd M A E s) {st:aA}(b:Bs G kd az p st) {lo n nrem:Nat}(h1:1<=n) (hn:n<=nrem) (h2:lo+nrem<=az.size) (hs:Fal key (Χ st) lo (lo+n)) {Q:Option Nat->aA->Prop}
  (q:∀ m st',Bs G kd az p st'->1<=m->m<=nrem->Srt key (Χ st') lo (lo+m)->(∀ k,k < lo->(Χ st')[k]?=(Χ st)[k]?)->Q (some m) st'):
  wpS M A E s (do
   eF lo (lo+n)
   let c <- forIn [n:nrem] ((none,n):Option (Option Nat)×Nat) fun _ c=>do
    let x <- ltAt' (lo+c.2) (lo+c.2 - 1)
    match x with
    | some smaller=>if smaller=true then pure (aC (none,c.2)) else pure (Ϻ (none,c.2+1))
    | _=>pure (aC (some none,c.2))
   match c.1 with
   | some r=>pure r
   | none=>pure (some c.2)) Q st:=by
 have hz:lo+n<=(Χ st).size:=by rw [b.size];lia
 refine ϟ (U0 ?_);have b':=b.set (mH (Χ st) lo (lo+n) ((lo+n - lo) / 2));refine ϟ (zdy L b' h1 hn h2 ?_ fun m m1 m2 ms _=>aJ (q m _ b' (by lia) m2 ms fun k hk=>JG hz hk));intro i j a b c;show O.kle (kk key (mirror (Χ st) lo (lo+n) ((lo+n - lo) / 2)) i) (kk key (mirror (Χ st) lo (lo+n) ((lo+n - lo) / 2)) j)
 rw [qe hz,qe hz,if_pos (by lia),if_pos (by lia)];exact hs _ _ (by lia) (by lia) (by lia)
end
section
variable {az:Array bu}{p:Array (Nat×Nat×Nat)}
theorem Qn (L:LtOk O key G kd M A E s) {st:aA}(b:Bs G kd az p st) {lo n nrem:Nat}(h1:1<=n) (hn:n<=nrem) (h2:lo+nrem<=az.size) (hs:Fal key (Χ st) lo (lo+n)) {Q:Option Nat->aA->Prop}
  (q:∀ m st',Bs G kd az p st'->1<=m->m<=nrem->Srt key (Χ st') lo (lo+m)->(∀ k,k < lo->(Χ st')[k]?=(Χ st)[k]?)->Q (some m) st'):
  wpS M A E s (do
   let c <- forIn [n:nrem] ((none,n,0):Option (Option Nat)×Nat×Nat) fun _ c=>do
    let x <- ltAt' (lo+c.2.1) (lo+c.2.1 - 1)
    match x with
    | some smaller=>
     if smaller=true then
      if c.2.2 > 0 then do
       let _ <- eF (lo+c.2.1 - (c.2.2+1)) (lo+c.2.1)
       pure (Ϻ (none,c.2.1+1,0))
      else pure (Ϻ (none,c.2.1+1,0))
     else do
      let x <- ltAt' (lo+c.2.1 - 1) (lo+c.2.1)
      match x with
      | some larger=>if larger=true then pure (aC (none,c.2.1,c.2.2)) else pure (Ϻ (none,c.2.1+1,c.2.2+1))
      | _=>pure (aC (some none,c.2.1,c.2.2))
    | _=>pure (aC (some none,c.2.1,c.2.2))
   match c.1 with
   | some r=>pure r
   | none=>
    if c.2.2 > 0 then do
     let _ <- eF (lo+c.2.1 - (c.2.2+1)) (lo+c.2.1)
     do
      eF lo (lo+c.2.1)
      let c <- forIn [c.2.1:nrem] ((none,c.2.1):Option (Option Nat)×Nat) fun _ c=>do
       let x <- ltAt' (lo+c.2) (lo+c.2 - 1)
       match x with
       | some smaller=>if smaller=true then pure (aC (none,c.2)) else pure (Ϻ (none,c.2+1))
       | _=>pure (aC (some none,c.2))
      match c.1 with
      | some r=>pure r
      | none=>pure (some c.2)
    else do
     eF lo (lo+c.2.1)
     let c <- forIn [c.2.1:nrem] ((none,c.2.1):Option (Option Nat)×Nat) fun _ c=>do
      let x <- ltAt' (lo+c.2) (lo+c.2 - 1)
      match x with
      | some smaller=>if smaller=true then pure (aC (none,c.2)) else pure (Ϻ (none,c.2+1))
      | _=>pure (aC (some none,c.2))
     match c.1 with
     | some r=>pure r
     | none=>pure (some c.2)) Q st:=by
 refine ϟ (wpS_mono (fB (I:=fun x c st'=>∃ e,c=(none,x,e)/\Bs G kd az p st'/\Fal key (Χ st') lo (lo+x)/\e+1<=x/\(∀ i,lo+x - (e+1)<=i->i < lo+x->kk key (Χ st') i=kk key (Χ st') (lo+x - 1))/\∀ k,k < lo->(Χ st')[k]?=(Χ st)[k]?)
  (Q:=fun c st'=>∃ m e,c=(none,m,e)/\n<=m/\m<=nrem/\Bs G kd az p st'/\Fal key (Χ st') lo (lo+m)/\e+1<=m/\(∀ i,lo+m - (e+1)<=i->i < lo+m->kk key (Χ st') i=kk key (Χ st') (lo+m - 1))/\∀ k,k < lo->(Χ st')[k]?=(Χ st)[k]?) ?_ ?_ ⟨0,rfl,b,hs,by lia,fun i h1 h2=>by congr 1;lia,fun _ _=>rfl⟩) ?_)
 ·rintro x c st' hx hn ⟨e,rfl,b',f',he,hq,hk⟩;dsimp only;have hz:lo+x<=(Χ st').size:=by rw [b'.size];lia
  refine ϟ (wp_at L b' (by lia) (by lia) ?_);cases hl:O.blt (kk key (Χ st') (lo+x)) (kk key (Χ st') (lo+x - 1)) with
  | true=>
   have f2:=f'.more (by lia) (dC hl);dsimp only;rw [if_pos rfl];by_cases he0:e > 0
   ·rw [if_pos he0];have same:=V9 (key:=key) hz hq;exact ϟ (U0 (aJ ⟨0,rfl,b'.set (mH _ _ _ _),f2.same same,by lia,fun i h1 h2=>by congr 1;lia,fun k h=>(JG hz (by lia)).trans (hk k h)⟩))
   ·rw [if_neg he0];exact aJ ⟨0,rfl,b',f2,by lia,fun i h1 h2=>by congr 1;lia,hk⟩
  | false=>
   dsimp only;rw [if_neg (by decide)];refine ϟ (wp_at L b' (by lia) (by lia) ?_);cases hg:O.blt (kk key (Χ st') (lo+x - 1)) (kk key (Χ st') (lo+x)) with
   | true=>exact aJ ⟨x,e,rfl,hx,by lia,b',f',he,hq,hk⟩
   | false=>
    have eq:kk key (Χ st') (lo+x)=kk key (Χ st') (lo+x - 1):=nJ hg hl;refine aJ ⟨e+1,rfl,b',f'.more (by lia) hg,by lia,fun i h1 h2=>?_,hk⟩;rw [show lo+(x+1) - 1=lo+x by lia,eq];by_cases hi:i=lo+x
    ·rw [hi];exact eq
    ·exact hq i (by lia) (by lia)
 ·rintro c st' ⟨e,rfl,b',f',he,hq,hk⟩;rw [show max n nrem=nrem by lia] at f' he hq ⊢;exact ⟨nrem,e,rfl,hn,Α _,b',f',he,hq,hk⟩
 ·rintro c st' ⟨m,e,rfl,m1,m2,b',f',he,hq,hk⟩;dsimp only;have hz:lo+m<=(Χ st').size:=by rw [b'.size];lia
  by_cases he0:e > 0
  ·rw [if_pos he0];have same:=V9 (key:=key) hz hq;refine ϟ (U0 (Qm L (b'.set (mH _ _ _ _)) (by lia) m2 h2 (f'.same same) fun m' st2 b2 a1 a2 a3 a4=>q m' st2 b2 a1 a2 a3 fun k h=>?_));exact (a4 k h).trans ((JG hz (by lia)).trans (hk k h))
  ·rw [if_neg he0];exact Qm L b' (by lia) m2 h2 f' fun m' st2 b2 a1 a2 a3 a4=>q m' st2 b2 a1 a2 a3 fun k h=>(a4 k h).trans (hk k h)
theorem zgy {α:Type}{m m':StateT aA Sem α}{Q:α->aA->Prop}{st:aA}(e:m'=m) (h:wpS M A E s m Q st):wpS M A E s m' Q st:=e ▸ h
theorem bd {α β:Type}{m m':StateT aA Sem α}{f f':α->StateT aA Sem β}(e:m=m') (h:∀ a,f a=f' a):(m >>= f)=(m' >>= f'):=by rw [e,funext h]
theorem zbY (L:LtOk O key G kd M A E s) {st:aA}(b:Bs G kd az p st) {lo nrem:Nat}(h1:1<=nrem) (h2:lo+nrem<=az.size) {Q:Option Nat->aA->Prop}
  (q:∀ m st',Bs G kd az p st'->1<=m->m<=nrem->Srt key (Χ st') lo (lo+m)->(∀ k,k < lo->(Χ st')[k]?=(Χ st)[k]?)->Q (some m) st'):wpS M A E s (countRun' lo nrem) Q st:=by
 rw [countRun'_eq];refine ϟ (zdy L b (Α 1) h1 h2 Srt.one fun n n1 n2 hs ho=>?_);dsimp only;by_cases hn:n=nrem
 ·rw [if_pos (by simpa using hn)];exact aJ (q n st b n1 n2 hs fun _ _=>rfl)
 ·rw [if_neg (by simpa using hn)];have hlt:=ho.resolve_left hn;have hz:lo+n<=(Χ st).size:=by rw [b.size];lia
  by_cases hg:n > 1
  ·rw [if_pos hg];refine ϟ (wp_at L b (by lia) (by lia) ?_);cases hr:O.blt (kk key (Χ st) lo) (kk key (Χ st) (lo+n - 1)) with
   | true=>exact aJ (q n st b n1 n2 hs fun _ _=>rfl)
   | false=>
    dsimp only;rw [if_neg (by decide)];have all:∀ k,lo<=k->k < lo+n->kk key (Χ st) k=kk key (Χ st) (lo+n - 1):=fun k a c=>
     nJ (hs k (lo+n - 1) a (by lia) (by lia)) (cU hr (hs lo k (Α _) a c))
    have same:=V9 (key:=key) hz all;have f0:Fal key (Χ st) lo (lo+(n+1)):=fun i j a c d=>by
     by_cases e:j < lo+n
     ·rw [all i a (by lia),all j (by lia) e];exact bJ _
     ·obtain rfl:j=lo+n:=by lia
      by_cases e:i=lo+n
      ·rw [e];exact bJ _
      ·rw [all i a (by lia)];exact dC hlt
    refine ϟ (U0 ?_);refine ϟ (wpS_lift (dg ⟨rfl,?_⟩));refine zgy ?e (Qn L (b.set (mH _ _ _ _)) (by lia) (by lia) h2 (f0.same same) fun m' st2 b2 a1 a2 a3 a4=>q m' st2 b2 a1 a2 a3 fun k h=>(a4 k h).trans (JG hz h))
    case e=>
     refine bd rfl fun c=>?_
     obtain ⟨r,n',e'⟩:=c;cases r with
     | some r=>rfl
     | none=>
      dsimp only;split
      ·refine bd rfl fun _=>bd rfl fun _=>bd rfl fun c=>?_
       obtain ⟨r,_⟩:=c;cases r <;> rfl
      ·refine bd rfl fun _=>bd rfl fun c=>?_
       obtain ⟨r,_⟩:=c;cases r <;> rfl
  ·rw [if_neg hg];obtain rfl:n=1:=by lia
   refine ϟ (wpS_lift (dg ⟨rfl,?_⟩));refine zgy ?e (Qn L b (n:=1+1) (by lia) (by lia) h2 (fun i j a c d=>?_) q)
   case e=>
    refine bd rfl fun c=>?_
    obtain ⟨r,n',e'⟩:=c;cases r with
    | some r=>rfl
    | none=>
     dsimp only;split
     ·refine bd rfl fun _=>bd rfl fun _=>bd rfl fun c=>?_
      obtain ⟨r,_⟩:=c;cases r <;> rfl
     ·refine bd rfl fun _=>bd rfl fun c=>?_
      obtain ⟨r,_⟩:=c;cases r <;> rfl
   by_cases e:i=j
   ·rw [e];exact bJ _
   ·obtain rfl:i=lo:=by lia
    obtain rfl:j=i+1:=by lia
    exact dC hlt
set_option tactic.hygienic true in
theorem Ws {xs:Array bu}{src d:Nat}(hs:src < xs.size) (hd:d<=src) (k:Nat):kk key (bubble xs src d) k=if k=src - d then kk key xs src else if src - d < k/\k<=src then kk key xs (k - 1) else kk key xs k:=by
 have e:=getElem?_bubble hs d hd k;split
 ·rename_i h;rw [if_pos h] at e;exact zaT e
 ·rename_i h
  rw [if_neg h] at e;split
  ·rename_i h;rw [if_pos h] at e;exact zaT e
  ·rename_i h;rw [if_neg h] at e;exact zaT e
theorem zgz (L:LtOk O key G kd M A E s) {st:aA}(b:Bs G kd az p st) {lo n ok:Nat}(h1:1<=ok) (hok:ok<=n) (h2:lo+n<=az.size) (hs:Srt key (Χ st) lo (lo+ok)) {Q:Bool->aA->Prop}
  (q:∀ st',Bs G kd az p st'->Srt key (Χ st') lo (lo+n)->(∀ k,k < lo->(Χ st')[k]?=(Χ st)[k]?)->Q true st'):wpS M A E s (binarySort' lo n ok) Q st:=by
 rw [binarySort'_eq]
 refine ϟ (wpS_mono (fB (I:=fun k c st'=>c=(none,())/\Bs G kd az p st'/\Srt key (Χ st') lo (lo+k)/\∀ k,k < lo->(Χ st')[k]?=(Χ st)[k]?)
  (Q:=fun c st'=>c=(none,())/\Bs G kd az p st'/\Srt key (Χ st') lo (lo+n)/\∀ k,k < lo->(Χ st')[k]?=(Χ st)[k]?) ?_ ?_ ⟨rfl,b,by rw [show max ok 1=ok by lia];exact hs,fun _ _=>rfl⟩) ?_)
 ·rintro k c st' hk hkn ⟨rfl,b',hs',hq⟩;have hz:lo+k < (Χ st').size:=by rw [b'.size];lia
  dsimp only
  refine ϟ (wpS_mono (fB (I:=fun x c st2=>st2=st'/\∃ l r,c=(none,l,r)/\l<=r/\r<=k/\r - l<=k - x/\(∀ i,i < l->O.kle (kk key (Χ st') (lo+i)) (kk key (Χ st') (lo+k)))/\∀ i,r<=i->i < k->O.kle (kk key (Χ st') (lo+k)) (kk key (Χ st') (lo+i)))
   (Q:=fun c st2=>st2=st'/\∃ l r,c=(none,l,r)/\l<=k/\(∀ i,i < l->O.kle (kk key (Χ st') (lo+i)) (kk key (Χ st') (lo+k)))/\∀ i,l<=i->i < k->O.kle (kk key (Χ st') (lo+k)) (kk key (Χ st') (lo+i))) ?_ ?_ ⟨rfl,0,k,rfl,by lia,by lia,by lia,fun i hi=>by lia,fun i h1 h2=>by lia⟩) ?_)
  ·rintro x c st2 _ hx ⟨rfl,l,r,rfl,hlr,hrk,hm,hlo,hhi⟩;dsimp only;by_cases hg:l >= r
   ·rw [if_pos hg];obtain rfl:l=r:=by lia
    exact aJ ⟨rfl,l,l,rfl,hrk,hlo,hhi⟩
   ·rw [if_neg hg];refine ϟ (wp_at L b' (by lia) (by lia) ?_);cases hl:O.blt (kk key (Χ st2) (lo+k)) (kk key (Χ st2) (lo+(l+r) / 2)) with
    | true=>exact aJ ⟨rfl,l,(l+r) / 2,rfl,by lia,by lia,by lia,hlo,fun i h1 h2=>cU (dC hl) (hs' _ _ (by lia) (by lia) (by lia))⟩
    | false=>exact aJ ⟨rfl,(l+r) / 2+1,r,rfl,by lia,by lia,by lia,fun i h1=>cU (hs' (lo+i) (lo+(l+r) / 2) (by lia) (by lia) (by lia)) hl,hhi⟩
  ·rintro c st2 ⟨rfl,l,r,rfl,hlr,hrk,hm,hlo,hhi⟩;obtain rfl:l=r:=by lia
   exact ⟨rfl,l,l,rfl,hrk,hlo,hhi⟩
  ·rintro c st2 ⟨rfl,l,r,rfl,hlk,hlo,hhi⟩;dsimp only;rw [moveDown'_eq];refine ϟ (nC (aJ ⟨rfl,b'.set (bubble_perm _ _ _),fun i j h1 h2 h3=>?_,fun i hi=>?_⟩))
   ·show O.kle (kk key (bubble (Χ st2) (lo+k) (lo+k - (lo+l))) i) (kk key (bubble (Χ st2) (lo+k) (lo+k - (lo+l))) j)
    rw [Ws hz (by lia),Ws hz (by lia),show lo+k - (lo+k - (lo+l))=lo+l by lia];have lo':∀ i,lo<=i->i < lo+l->O.kle (kk key (Χ st2) i) (kk key (Χ st2) (lo+k)):=fun i a c=>by
     have:=hlo (i - lo) (by lia)
     rwa [show lo+(i - lo)=i by lia] at this
    have hi':∀ i,lo+l<=i->i < lo+k->O.kle (kk key (Χ st2) (lo+k)) (kk key (Χ st2) i):=fun i a c=>by
     have:=hhi (i - lo) (by lia) (by lia)
     rwa [show lo+(i - lo)=i by lia] at this
    repeat' split
    all_goals first
     | (exfalso;lia)
     | exact bJ _
     | exact lo' _ (by lia) (by lia)
     | exact hi' _ (by lia) (by lia)
     | exact hs' _ _ (by lia) (by lia) (by lia)
   ·refine Eq.trans ?_ (hq i hi);show (bubble (Χ st2) (lo+k) (lo+k - (lo+l)))[i]?=_
    rw [getElem?_bubble hz _ (by lia),if_neg (by lia),if_neg (by lia)]
 ·rintro c st' ⟨hc,b',hs',hq⟩;rw [show max (max ok 1) n=n by lia] at hs';exact ⟨hc,b',hs',hq⟩
 ·rintro c st' ⟨rfl,b',hs',hq⟩;exact aJ (q st' b' hs' hq)
end
section
variable {az:Array bu}
def Rn (key:bu->O.α) (G:bu->Prop) (kd:iJ) (az:Array bu) (lo:Nat) (st:aA):Prop:=
 (lo=0/\Bs G kd az #[] st)\/(lo=az.size/\Bs G kd az #[(0,lo,0)] st/\Srt key (Χ st) 0 lo)
theorem zek (L:LtOk O key G kd M A E s) {st:aA}(b:Bs G kd az #[] st) (h2:2<=az.size) (h64:az.size < 64) {Q:Unit->aA->Prop}
  (q:∀ st',(Χ st').Perm az->failedOf st'=none->Srt key (Χ st') 0 az.size->Q () st'):wpS M A E s sortRuns' Q st:=by
 have hr:minRun' az.size az.size 0=az.size:=by
  obtain ⟨f,e⟩:∃ f,az.size=f+1:=⟨az.size - 1,by lia⟩
  rw [e,minRun'_succ,if_pos (by lia),Nat.add_zero]
 rw [sortRuns'_eq];refine ϟ (wpS_get ?_);dsimp only;rw [b.size,hr];refine ϟ (wpS_mono (fB (I:=fun x c st'=>∃ lo,c=(none,lo)/\lo<=az.size/\(lo=az.size\/x<=lo)/\Rn key G kd az lo st') (Q:=fun c st'=>c=(none,az.size)/\Rn key G kd az az.size st') ?_ ?_ ⟨0,rfl,by lia,.inr (Α _),.inl ⟨rfl,b⟩⟩) ?_)
 ·rintro x c st1 _ hx ⟨lo,rfl,hlo,hp,rn⟩;dsimp only;by_cases hg:lo >= az.size
  ·rw [if_pos hg];obtain rfl:lo=az.size:=by lia
   exact aJ ⟨rfl,rn⟩
  ·rw [if_neg hg];rcases rn with ⟨rfl,b1⟩ | ⟨e,_⟩
   ·refine ϟ (zbY L b1 (by lia) (by lia) fun m st2 b2 m1 m2 ms _=>?_);dsimp only;by_cases hm:m < az.size
    ·rw [if_pos hm];refine ϟ (wpS_lift (dg ⟨rfl,?_⟩));refine ϟ (zgz L b2 m1 (by lia) (by lia) ms fun st3 b3 ss _=>?_);rw [if_neg (by decide)];refine ϟ (wpS_get ?_);rw [show (my st3)=#[] from b3.pend,show (#[]:Array (Nat×Nat×Nat)).back?=none from rfl];refine ϟ (nC (aJ ⟨0+min (az.size - 0) az.size,rfl,by lia,.inl (by lia),.inr ⟨by lia,⟨b3.perm,b3.good,b3.kind,b3.failed,?_⟩,ss⟩⟩));show (my st3).push _=_
     rw [b3.pend,Nat.zero_add];rfl
    ·rw [if_neg hm];refine ϟ (wpS_get ?_);rw [show (my st2)=#[] from b2.pend,show (#[]:Array (Nat×Nat×Nat)).back?=none from rfl];refine ϟ (nC (aJ ⟨0+m,rfl,by lia,.inl (by lia),.inr ⟨by lia,⟨b2.perm,b2.good,b2.kind,b2.failed,?_⟩,ms⟩⟩));show (my st2).push _=_
     rw [b2.pend,Nat.zero_add];rfl
   ·lia
 ·rintro c st1 ⟨lo,rfl,hlo,hp,rn⟩;obtain rfl:lo=az.size:=by lia
  exact ⟨rfl,rn⟩
 ·rintro c st1 ⟨rfl,rn⟩;dsimp only;obtain ⟨b1,hs⟩:Bs G kd az #[(0,az.size,0)] st1/\Srt key (Χ st1) 0 az.size:=by
   rcases rn with ⟨h,_⟩ | ⟨_,h1,h3⟩
   ·lia
   ·exact ⟨h1,h3⟩
  refine ϟ (wpS_mono (fB (I:=fun y c st'=>c=(none,())/\st'=st1) (Q:=fun c st'=>c=(none,())/\st'=st1) ?_ (fun _ _ h=>h) ⟨rfl,rfl⟩) ?_)
  ·rintro y c st2 _ hy ⟨rfl,rfl⟩;refine ϟ (wpS_get ?_);rw [b1.pend,if_pos (show (#[(0,az.size,0)]:Array (Nat×Nat×Nat)).size<=1 from Α 1)];exact aJ ⟨rfl,rfl⟩
  ·rintro c st2 ⟨rfl,rfl⟩;exact aJ (q st2 b1.perm b1.failed hs)
end
def zjk:List δ->List Int->Prop
 | [],[]=>True
 | v::vs,n::ns=>(∃ t,v=.int n t)/\zjk vs ns
 | _,_=>False
section
variable {prog:Ψ}{w:ϕ}{kz:δ->List Int}
structure Tu (kz:δ->List Int) (h:Heap) (v:δ):Prop where
 it:∃ b o xs m,v=.ref b/\h.get? b=some o/\o.cls=.type "tuple"/\o.data=.seq xs m/\zjk xs.toList (kz v)
 ne:kz v≠[]
theorem Tu.keep {h h':Heap}{v:δ}(t:Tu kz h v) (k:∀ b o,v=.ref b->h.get? b=some o->h'.get? b=some o):Tu kz h' v:=by obtain ⟨⟨b,o,xs,m,e1,e2,e3,e4,e5⟩,n⟩:=t;exact ⟨⟨b,o,xs,m,e1,k b o e1 e2,e3,e4,e5⟩,n⟩
theorem tups {h:Heap}:∀ (vs:List δ),(∀ v∈vs,Tu kz h v)->∃ fs,fs.length=vs.length/\W.KatTups h vs fs/\∀ v∈fs,∃ n t,v=aj n t
 | [],_=>⟨[],rfl,W.KatTups.nil,fun v h=>nomatch h⟩
 | v::vs,hv=>by
  obtain ⟨fs,e,t,q⟩:=tups vs fun u hu=>hv u (ι _ hu)
  obtain ⟨⟨b,o,xs,m,e1,e2,e3,e4,e5⟩,n⟩:=hv v θ;obtain ⟨k,ks,hk⟩:=List.exists_cons_of_ne_nil n;rw [hk] at e5;cases hx:xs.toList with
  | nil=>rw [hx] at e5;exact e5.elim
  | cons u us=>
   rw [hx] at e5;obtain ⟨⟨t',e6⟩,_⟩:=e5;have h0:xs[0]?=some u:=by
    have:xs.toList[0]?=some u:=by rw [hx];rfl
    simpa using this
   subst e1;refine ⟨u::fs,by simp [e],W.KatTups.cons e2 e3 e4 h0 t,fun v hv=>?_⟩;rcases ψ.mp hv with rfl | hv
   ·exact ⟨k,t',e6⟩
   ·exact q v hv
theorem Z5:∀ (vs:List δ),vs.zip vs=vs.map fun v=>(v,v)
 | []=>rfl
 | v::vs=>by rw [cz,Z5 vs];rfl
def uX (O:bD) (kz:δ->O.α) (vs out:List δ):Prop:=out.Perm vs/\out.Pairwise fun x y=>O.blt (kz y) (kz x)=false
theorem Zz {O:bD}{kz:δ->O.α}{vs:List δ}{st:aA}(h:(Χ st).Perm (vs.toArray.zip vs.toArray)) (hs:Srt (O:=O) (fun x=>kz x.1) (Χ st) 0 (vs.toArray.zip vs.toArray).size):uX O kz vs ((Χ st).map (·.2)).toList:=by
 have hz:(vs.toArray.zip vs.toArray).toList=vs.map fun v=>(v,v):=by rw [oU];exact Z5 vs
 have p:=lR.mp h;rw [hz] at p;have same:∀ x∈(Χ st).toList,x.1=x.2:=fun x hx=>by obtain ⟨v,_,rfl⟩:=Ο.mp (p.mem_iff.mp hx);rfl
 refine ⟨?_,?_⟩
 ·rw [oV];have:=p.map (fun x:bu=>x.2)
  rwa [bA,show ((fun x:bu=>x.2)∘fun v=>(v,v))=(id:δ->δ) from rfl,List.map_id] at this
 ·rw [oV,oK];refine List.pairwise_iff_getElem.mpr fun i j h1 h2 h3=>?_
  have hsz:(Χ st).size=(vs.toArray.zip vs.toArray).size:=h.size_eq;have hj:j < (Χ st).size:=by simpa using h2
  have:=hs i j (Ϯ _) (by omega) (by omega);unfold kk at this;rw [getElem?_pos (Χ st) i (by omega),getElem?_pos (Χ st) j hj] at this;have e1:=same (Χ st)[i] (by simp);have e2:=same (Χ st)[j] (by simp);have h4:O.blt (kz (Χ st)[j].1) (kz (Χ st)[i].1)=false:=this;rw [e1,e2] at h4;simpa using h4
theorem zch {O:bD}{kz:δ->O.α}{kd:iJ}{a:Addr}{vs:List δ}{n:Nat}{P:Fin->ω->Prop}(ho:s.heap.get? a=some (cM "list" vs.toArray n)) (h128:vs.length < 64)
  (hk:∀ h',2<=vs.length->(∀ b o,b≠a->s.heap.get? b=some o->h'.get? b=some o)->(∀ Q:iJ->ω->Prop,Q kd { s with heap:=h' }->Ξ (Φ prog w) A (keyKind' vs.toArray) Q E { s with heap:=h' })/\LtOk O (fun x=>kz x.1) (fun x=>∃ v∈vs,x=(v,v)) kd (Φ prog w) A E { s with heap:=h' })
  (h:∀ out:Array δ,uX O kz vs out.toList->P (.done (.ret .none)) { s with heap:=gZ s.heap a vs out }):Ξ (Φ prog w) A (ώ.«list.sort» ⟨[.ref a],[]⟩) P E s:=by
 have ha:a < s.heap.objs.size:=Η ho;have hsl:vs.length<=sizeLine:=by rw [aF];lia
 obtain ⟨e1,ho1⟩:∃ e1,(s.heap.update a (bj fun _=>#[])).get? a=some (cM "list" #[] e1):=⟨_,get?_update_seq ho (fun _=>#[])⟩
 rw [list_sort_plain];refine η (oG ho rfl (η (gn ho rfl (η (seqEpoch_at ho1 rfl (η (wpAny_newTuple (η (wpAny_newList (aX ?_) (Ϯ _))) (by simpa using hsl))))) (by simpa using hsl) (Ϯ _))));have ho6:(((s.heap.update a (bj fun _=>#[])).push (cM "tuple" vs.toArray 0)).push (cM "list" #[] 0)).get? a=some (cM "list" #[] e1):=
  ο _ (ο _ ho1)
 have kp:∀ b o,b≠a->s.heap.get? b=some o->(((s.heap.update a (bj fun _=>#[])).push (cM "tuple" vs.toArray 0)).push (cM "list" #[] 0)).get? b=some o:=fun b o hb e=>
  ο _ (ο _ (by rw [c7 _ _ _ _ hb];exact e))
 show Ξ (Φ prog w) A _ P E { s with heap:=((s.heap.update a (bj fun _=>#[])).push (cM "tuple" vs.toArray 0)).push (cM "list" #[] 0) }
 have tail:∀ st':aA,uX O kz vs ((Χ st').map (·.2)).toList->((Χ st').map (·.2)).size=vs.length->failedOf st'=none->Ξ (Φ prog w) A (do
   let touched:=(<- seqEpoch a) != e1
   ώ.List.listUpdate (.ref a) fun _=>(Χ st').map (·.2)
   if let some e:=failedOf st' then rule "list.sort.comparison-raised";throw e
   if touched then rule "list.sort.modified";raiseError "ValueError" "list modified during sort"
   ret .none) P E { s with heap:=((s.heap.update a (bj fun _=>#[])).push (cM "tuple" vs.toArray 0)).push (cM "list" #[] 0) }:=fun st' k z f=>by refine η (seqEpoch_at ho6 rfl (η (gn ho6 rfl ?_ (Ϯ _) (by lia))));rw [f];simp only [bne_self_eq_false,aP,if_false];exact ς (h _ k)
 have pz:(vs.toArray.zip vs.toArray).size=vs.length:=by simp
 by_cases h2:vs.toArray.size < 2
 ·rw [if_pos h2,if_pos h2];refine η (ς ?_);dsimp only;rw [StateT.run_pure];refine η (ς ?_);refine tail (aA.mk' general' (vs.toArray.zip vs.toArray) #[] 7 none) (Zz (Array.Perm.refl _) fun i j a c e=>?_) (by rw [Array.size_map];exact pz) rfl;have h2':vs.length < 2:=by simpa using h2
  obtain rfl:i=j:=by lia
  exact bJ _
 ·have h2':2<=vs.length:=by simpa using h2
  rw [if_neg h2,if_neg h2];obtain ⟨k1,L⟩:=hk _ h2' kp;refine η (k1 _ ?_)
  have B:Bs (fun x=>∃ v∈vs,x=(v,v)) kd (vs.toArray.zip vs.toArray) #[] (aA.mk' kd (vs.toArray.zip vs.toArray) #[] 7 none):=⟨Array.Perm.refl _,fun x hx=>by
   rw [oU,show vs.toArray.toList=vs from rfl,Z5] at hx;obtain ⟨v,hm,rfl⟩:=Ο.mp hx
   exact ⟨v,hm,rfl⟩,rfl,rfl,rfl⟩
  refine η (bK (zek (Q:=fun _ st'=>(Χ st').Perm (vs.toArray.zip vs.toArray)/\failedOf st'=none/\Srt (O:=O) (fun x=>kz x.1) (Χ st') 0 (vs.toArray.zip vs.toArray).size) L B (by lia) (by lia) fun st' a1 a2 a3=>⟨a1,a2,a3⟩) ?_ fun _ _ e=>e);rintro ⟨⟨⟩,st'⟩ s' ⟨rfl,a1,a2,a3⟩;exact tail st' (Zz a1 a3) (by rw [Array.size_map,a1.size_eq];exact pz) a2
end
noncomputable def txOf:Int×δ->Str
 | (_,.str x _)=>x
 | _=>⟨#[]⟩
section
variable {prog:Ψ}{w:ϕ}
def Tx (w:ϕ) (e:Int×δ):Prop:=∃ x t,e=(hashStr w x,aW x t)
structure St (w:ϕ) (h:Heap) (a:Addr) (led:Bool) (es:Array (Int×δ)) (ep:Nat) (tb:Ϙ):Prop where
 at_:∃ o,h.get? a=some o/\o.ExactSet/\o.data=.set es ep tb
 tx:∀ e∈es.toList,Tx w e
 fit:tb.fits es.size=true
 led_:tb.led=led
 pl:es.size=0\/tb.plain=false
def Ts (w:ϕ) (h:Heap) (a:Addr) (led:Bool) (ks:List Str):Prop:=∃ es ep tb,St w h a led es ep tb/\(es.toList.map txOf).Perm ks
theorem St.el {h:Heap}{a:Addr}{led:Bool}{es:Array (Int×δ)}{ep:Nat}{tb:Ϙ}(z:∀ e∈es.toList,Tx w e):ElemsOf (aQ prog w) es.toList:=fun e he=>by obtain ⟨x,t,rfl⟩:=z e he;exact ⟨⟨x,by simp [aQ,dJ],rfl⟩,rfl⟩
theorem zfx (t:Ϙ) (es:Array (Int×δ)) (h:Int) (x:δ):(layNew t es h x).2.1.led=t.led:=by
 unfold layNew;split
 ·show (ni _ _).led=t.led
  unfold ni;split <;> rfl
 ·rfl
set_option tactic.hygienic true in
theorem zag (t:Ϙ) (es:Array (Int×δ)) (n:Nat):(relayAll t es n).2.1.led=t.led/\(t.plain=false->(relayAll t es n).2.1.plain=false):=by
 unfold relayAll;split
 ·rename_i t' o e
  have k:t'.led=t.led/\t'.plain=t.plain:=by unfold Ϙ.relaid Ϙ.laid at e;obtain ⟨ow,_,e2⟩:=ϐ.mp e;cases e2;exact ⟨rfl,rfl⟩
  dsimp only;split
  ·exact ⟨k.1,fun h=>k.2.trans h⟩
  ·exact ⟨rfl,fun _=>rfl⟩
 ·exact ⟨rfl,fun _=>rfl⟩
theorem zdN {h:Heap}{a:Addr}{o:Obj}{es es':Array (Int×δ)}{ep:Nat}{t t':Ϙ}(ho:h.get? a=some o) (hx:o.ExactSet) (hd:o.data=.set es ep t):
  ∃ u,(h.update a (Obj.putSet es' t')).get? a=some u/\u.ExactSet/\u.data=.set es' (ep+1) t':=by have k:=aO (Obj.putSet es' t') ho (by rw [putSet_of es' t' hd];rfl);rw [putSet_of es' t' hd] at k;exact ⟨_,k,hx,rfl⟩
noncomputable def addK (ks:List Str) (x:Str):List Str:=if x∈ks then ks else ks++[x]
theorem zfT {x:Str}:∀ {l:List (Int×δ)},(∀ e∈l,Tx w e)->((l.findIdx? fun e=>(aQ prog w).is x e.2).isSome=true ↔ x∈l.map txOf):=by
 intro l h;rw [List.findIdx?_isSome,Ϧ,Ο];constructor
 ·rintro ⟨e,h1,h2⟩;obtain ⟨y,t,rfl⟩:=h e h1;exact ⟨_,h1,by simpa [aQ,dJ,txOf] using h2⟩
 ·rintro ⟨e,h1,h2⟩;obtain ⟨y,t,rfl⟩:=h e h1;exact ⟨_,h1,by simpa [aQ,dJ,txOf] using h2⟩
theorem zjh {a:Addr}{led:Bool}{ks:List Str}{x:Str}{t:Tok}{Q:Bool->ω->Prop}(hS:Ts w s.heap a led ks) (hn:ks.length+1 < 4096)
  (q:∀ (b:Bool) (h':Heap),ϵ a s.heap h'->Ts w h' a led (addK ks x)->Q b { s with heap:=h' }):Ξ (Φ prog w) A (setAddHashed a (.str x t) (hashStr w x)) Q E s:=by
 obtain ⟨es,ep,tb,⟨⟨o,ho,hx,hd⟩,tx,fit,l1,pl⟩,pm⟩:=hS;have hel:ElemsOf (aQ prog w) es.toList:=St.el (h:=s.heap) (a:=a) (led:=led) (ep:=ep) (tb:=tb) tx;have sz:es.size=ks.length:=by rw [<- Ω,<- pm.length_eq,υ]
 have key:(aQ prog w).is x (.str x t)=true:=by simp [aQ,dJ]
 unfold setAddHashed nD;refine aX (η (cV ho hd fit ?_));dsimp only;rw [byScan_of (knd:=aQ prog w) rfl (by rw [sz];show _ < 4096;omega) hel];rw [if_pos rfl];unfold setAddByScan;refine η (η (dg (η (wpAny_setScan_of (knd:=aQ prog w) (k:=x) key ho hd fit hel ?_))));have fi:=zfT (prog:=prog) (w:=w) (x:=x) tx;cases hr:List.findIdx? (fun e=>(aQ prog w).is x e.2) es.toList with
 | some j=>
  rw [hr] at fi;have m:x∈ks:=pm.mem_iff.mp (fi.mp rfl);refine ς (ς ?_);have k:=q false s.heap (gJ a s.heap) ⟨es,ep,tb,⟨⟨o,ho,hx,hd⟩,tx,fit,l1,pl⟩,by rw [addK,if_pos m];exact pm⟩;exact k
 | none=>
  rw [hr] at fi;have m:x ∉ ks:=fun m=>by cases fi.mpr (pm.mem_iff.mpr m)
  dsimp only;have p1:=layNew_perm tb es (hashStr w x) (.str x t);have p2:=layNew_fits tb es (hashStr w x) (.str x t);have p3:=zfx tb es (hashStr w x) (.str x t);show Ξ _ _ (match layNew tb es (hashStr w x) (.str x t) with | (es,t,wd,gave)=>_) _ _ _
  generalize layNew tb es (hashStr w x) (.str x t)=L at p1 p2 p3 ⊢;obtain ⟨e1,t1,wd,gv⟩:=L;dsimp only at p1 p2 p3 ⊢;rw [oE] at p1;have tx1:∀ e∈e1.toList,Tx w e:=fun e he=>by
   rcases Ζ.mp (p1.mem_iff.mp he) with he | he
   ·exact tx e he
   ·rw [μ] at he;exact ⟨x,t,he⟩
  have sz1:e1.size=ks.length+1:=by rw [<- Ω,p1.length_eq,ξ,Ω,sz];rfl
  have pm1:(e1.toList.map txOf).Perm (addK ks x):=by rw [addK,if_neg m];refine (p1.map txOf).trans ?_;rw [aH];exact pm.append (bR _)
  have tail:∀ (t2:Ϙ) (Q:Bool->ω->Prop),t2.fits e1.size=true->t2.led=led->t2.plain=false->(∀ (h':Heap),ϵ a s.heap h'->Ts w h' a led (addK ks x)->Q true { s with heap:=h' }) ->
    Ξ (Φ prog w) A (do
     iD a e1 t2
     if (!wd&&t2.tooFull)=true then
      match relayAll t2 e1 (cG e1.size) with
      | (es,t,gave)=>do
       (match gave with | true=>rule "set.scan.the-table-gave-way" | false=>pure ())
       iD a es t
       pure (some true)
     else pure (some true)) (fun r s'=>∃ b,r=some b/\Q b s') E s:=fun t2 Q f2 l2 q2 q=>by
   refine η (wpAny_storeSet_of ho hd ?_ (by rw [sz1,aF];omega));obtain ⟨u,hu,hux,hud⟩:=zdN (es':=e1) (t':=t2) ho hx hd;split
   ·have r1:=relayAll_perm t2 e1 (cG e1.size);have r2:=relayAll_fits t2 e1 (cG e1.size);have r3:=zag t2 e1 (cG e1.size);generalize relayAll t2 e1 (cG e1.size)=R at r1 r2 r3 ⊢;obtain ⟨e2,t3,g2⟩:=R;dsimp only at r1 r2 r3 ⊢;have sz2:e2.size=e1.size:=by rw [<- Ω,r1.length_eq,Ω]
    obtain ⟨v,hv,hvx,hvd⟩:=zdN (es':=e2) (t':=t3) hu hux hud;have fin:Ξ (Φ prog w) A (do iD a e2 t3;pure (some true)) (fun r s'=>∃ b,r=some b/\Q b s') E { s with heap:=s.heap.update a (Obj.putSet e1 t2) }:=
     η (wpAny_storeSet_of hu hud (ς ⟨true,rfl,q _ ((fY _ a _).trans (fY _ a _))
      ⟨e2,_,t3,⟨⟨v,hv,hvx,hvd⟩,fun e he=>tx1 e (r1.mem_iff.mp he),r2,r3.1.trans l2,.inr (r3.2 q2)⟩,(r1.map txOf).trans pm1⟩⟩) (by rw [sz2,sz1,aF];omega))
    cases g2 with
    | true=>exact η (dg fin)
    | false=>exact η (ς fin)
   ·exact ς ⟨true,rfl,q _ (fY _ a _) ⟨e1,_,t2,⟨⟨u,hu,hux,hud⟩,tx1,f2,l2,.inr q2⟩,pm1⟩⟩
  have go:∀ (t2:Ϙ),t2.fits e1.size=true->t2.led=led->t2.plain=false->Ξ (Φ prog w) A (do
     iD a e1 t2
     if (!wd&&t2.tooFull)=true then
      match relayAll t2 e1 (cG e1.size) with
      | (es,t,gave)=>do
       (match gave with | true=>rule "set.scan.the-table-gave-way" | false=>pure ())
       iD a es t
       pure (some true)
     else pure (some true)) (fun r s'=>Ξ (Φ prog w) A (match r with | some added=>pure added | none=>nD a (.str x t) (hashStr w x) 99999) Q E s') E s:=fun t2 f l p=>
   bK (tail t2 (fun b s'=>Q b s') f l p fun h' a1 a2=>q true h' a1 a2) (fun r s' ⟨b,e,k⟩=>by rw [e];exact ς k) fun _ _ e=>e
  have mid:Ξ (Φ prog w) A (do
     let byValue <- if t1.plain then hashByValue 8 (.str x t) else pure true
     let t2:=if byValue then t1 else { t1 with plain:=false }
     iD a e1 t2
     if (!wd&&t2.tooFull)=true then
      match relayAll t2 e1 (cG e1.size) with
      | (es,t,gave)=>do
       (match gave with | true=>rule "set.scan.the-table-gave-way" | false=>pure ())
       iD a es t
       pure (some true)
     else pure (some true)) (fun r s'=>Ξ (Φ prog w) A (match r with | some added=>pure added | none=>nD a (.str x t) (hashStr w x) 99999) Q E s') E s:=by
   cases hp:t1.plain with
   | true=>
    rw [if_pos rfl];refine η (ς ?_);exact go { t1 with plain:=false } (Ϙ.fits_plain_off p2) (p3.trans l1) rfl
   | false=>
    rw [if_neg (by simp)];refine η (ς ?_);exact go t1 p2 (p3.trans l1) hp
  cases gv with
  | true=>exact η (dg mid)
  | false=>exact η (ς mid)
noncomputable def ledW (w:ϕ):Bool:=!(w.params.followText "set-order")
noncomputable def set0 (w:ϕ):Obj:={ cls:=.type "set",dict:=none,data:=.set #[] 0 (.fresh 0 0 (ledW w)) }
theorem ts0 {h:Heap}{a:Addr}(ho:h.get? a=some (set0 w)):Ts w h a (ledW w) []:=
 ⟨#[],0,_,⟨⟨_,ho,⟨rfl,rfl,rfl⟩,rfl⟩,(fun e he=>nomatch he),rfl,rfl,.inl rfl⟩,bR _⟩
theorem Ts.keep {h h':Heap}{a:Addr}{led:Bool}{ks:List Str}(t:Ts w h a led ks) (k:∀ o,h.get? a=some o->h'.get? a=some o):Ts w h' a led ks:=by obtain ⟨es,ep,tb,⟨⟨o,ho,r⟩,x1,x2,x3,x4⟩,pm⟩:=t;exact ⟨es,ep,tb,⟨⟨o,k o ho,r⟩,x1,x2,x3,x4⟩,pm⟩
noncomputable def JB (ks:List Str):List Str:=ks.foldl addK []
theorem zgv (ks:List Str) (x:Str):(addK ks x).length<=ks.length+1:=by unfold addK;split <;> simp
theorem zeG (a:δ) {Q₁:δ->ω->Prop}(h:Q₁ (.ref s.heap.objs.size) { s with heap:=s.heap.push (set0 w) }):
  lL (Φ prog w) A (.call (.builtin "set.__new__") ⟨[.type "set",a],[]⟩) (wants Q₁ E) s:=by
 refine codeAny_of_tree ?_;show Ξ _ A.in1 (do checkBuiltinCall "set.__new__" ⟨[.type "set",a],[]⟩;again (.builtin "set.__new__" ⟨[.type "set",a],[]⟩)) _ _ s
 refine η (gb (PySem.F.newCall_set_1 a) (ς ⟨lD mQ _,dG PySem.F.entry_set_new ?_⟩));rw [cP mQ _];unfold ώ.«set.__new__» ώ.Frozenset.newClass;have hsub:=sub_set_self;obtain ⟨hp,g,d,tk,os⟩:=s;dsimp only
 wp_walk
 refine mj (ς ?_);dsimp only;simp only [newObj];exact η (wpAny_alloc (ς (ς h)))
theorem zfV {R:Result->ω->Prop}{I:Addr}{fp wr:List Addr}{G:Array GenState->Array GenState->Prop}{n:Nat}{P:Nat->δ->Prop}{Sx:Nat->ω->Prop}
  (W:WalksS prog w A.in1 I fp wr G n P Sx) (S:Addr) (hS:S ∉ fp) {led:Bool}{val:List Str}(hv:val.length=n) (hP:∀ i v,P i v->∀ x,val[i]?=some x->∃ t,v=.str x t) (hb:n+1 < 4096):
  ∀ (k:Nat) (ks:List Str) (s:ω),k<=n->ks.length<=n - k->Sx (n - k) s->Ts w s.heap S led ks ->
   (∀ s',Moved (S::wr) G s s'->Ts w s'.heap S led ((val.drop (n - k)).foldl addK ks)->R (.ok (.ret .none)) s') ->
   lL (Φ prog w) A (.builtin "set.update.loop" ⟨[.ref S,.ref I],[]⟩) R s:=by
 have nw:S ∉ wr:=fun h=>hS (W.sub _ h)
 have sub:∀ b∈wr,b∈S::wr:=fun b hb=>ι _ hb
 intro k
 induction k with
 | zero=>
  intro ks s _ _ st hs r;refine dG fH ?_;rw [cP cD _];refine η (W.done s _ _ st fun s' m=>ς (r s' (m.mono sub) ?_));rw [List.drop_eq_nil_of_le (by omega)];exact hs.keep fun o e=>m.heap S o nw e
 | succ k ih=>
  intro ks s hk hl st hs r;obtain ⟨x,hx⟩:∃ x,val[n - (k+1)]?=some x:=⟨val[n - (k+1)]'(by omega),Ε _⟩
  have dr:val.drop (n - (k+1))=x::val.drop (n - k):=by rw [fu (by omega),show n - (k+1)+1=n - k by omega];rw [Ε (by omega)] at hx;rw [ϙ hx]
  refine dG fH ?_;rw [cP cD _];refine η (W.item _ s _ _ (by omega) st fun v s' hp st' m=>?_);obtain ⟨t,rfl⟩:=hP _ v hp x hx;have hs':=hs.keep (h':=s'.heap) fun o e=>m.heap S o nw e
  refine η (aX ?_);unfold setAdd;refine aX (η (wpAny_pyHash_str (x:=x) (zjh (s:={ s' with toks:=s'.toks+1 }) hs' (by omega) fun b h' sb hs2=>?_)));rw [show n - (k+1)+1=n - k by omega] at st';refine ς ⟨lD cD _,ih (addK ks x) _ (by omega) (by have:=zgv ks x;omega) (W.frame _ s' _ _ st' (fJ _) fun b hb o e=>?_) hs2 fun s2 m2 z=>?_⟩
  ·rw [sb.2 b (fun h:b=S=>hS (by rw [<- h];exact hb))];exact e
  ·refine r s2 (Moved.trans W.gtrans ((m.mono sub).then_heap (fJ _) fun b o hb e=>?_) m2) (by rw [dr];exact z);rw [sb.2 b (fun h:b=S=>hb (by rw [h];exact θ))];exact e
structure Row (prog:Ψ) (w:ϕ) (T:String) (l:Addr) (its:Array δ) (OK:Heap->Prop) (Sx:Addr->Nat->Heap->Prop) (itO:Obj):Prop where
 there:∀ h,OK h->∃ o,h.get? l=some o/\o.cls=.type T
 keep:∀ h h',OK h->(∀ o,h.get? l=some o->h'.get? l=some o)->OK h'
 it:∀ {A:ϡ}{E:δ->ω->Prop}{s:ω}{Q:δ->ω->Prop},OK s.heap->Q (.ref s.heap.objs.size) { s with heap:=s.heap.push itO }->Ξ (Φ prog w) A (pyIter (.ref l)) Q E s
 wk:∀ {A:ϡ}(I:Addr),A.handled=none->l≠I->Walks prog w A I [I,l] [I] its.size (fun i v=>its[i]?=some v) (Sx I)
 st:∀ h,OK h->Sx h.objs.size 0 (h.push itO)
 n1:isSubtype (.type T) (.type "set")=pure false
 n2:isSubtype (.type T) (.type "frozenset")=pure false
 n3:(lM T==lM "dict")=false
theorem rowL (l:Addr) (its:Array δ):Row prog w "list" l its (fun h=>h.IsList l its) (fun I i h=>h.IsListIter I l i/\h.IsList l its) { cls:=.type "list_iterator",data:=.fields #[.ref l,.int 0 0] } where
 there:=fun h ⟨o,e,c,_⟩=>⟨o,e,c⟩
 keep:=fun h h' ⟨o,e,r⟩ k=>⟨o,k o e,r⟩
 it:=fun h q=>f9 h q
 wk:=fun I hh hn=>Walks.list hh I l hn its
 st:=fun h k=>⟨⟨_,Ν _ rfl,rfl,rfl⟩,k.push _⟩
 n1:=PySem.F.sub_list_set
 n2:=PySem.F.sub_list_frozenset
 n3:=by decide
theorem rowT (l:Addr) (its:Array δ):Row prog w "tuple" l its (fun h=>h.IsTuple l its) (fun I i h=>h.IsTupleIter I l i/\h.IsTuple l its) { cls:=.type "tuple_iterator",data:=.fields #[.ref l,.int 0 0] } where
 there:=fun h ⟨o,e,c,_⟩=>⟨o,e,c⟩
 keep:=fun h h' ⟨o,e,r⟩ k=>⟨o,k o e,r⟩
 it:=fun h q=>wpAny_pyIter_tuple h q
 wk:=fun I hh hn=>Walks.tuple hh I l hn its
 st:=fun h ⟨o,e,r⟩=>⟨⟨_,Ν _ rfl,rfl,rfl⟩,⟨o,ο _ e,r⟩⟩
 n1:=by rw [iI];kernel_rfl
 n2:=by rw [iI];kernel_rfl
 n3:=by decide
theorem zdl {T:String}{l:Addr}{its:Array δ}{OK:Heap->Prop}{Sx:Addr->Nat->Heap->Prop}{itO:Obj}{val:List Str}{Q:δ->ω->Prop}(R:Row prog w T l its OK Sx itO) (hh:A.handled=none) (hl:OK s.heap)
  (hv:val.length=its.size) (hP:∀ (i:Nat) (v:δ),its[i]?=some v->∀ x,val[i]?=some x->∃ t,v=.str x t) (hb:its.size+1 < 4096)
  (h:∀ (h':Heap) (tk:Nat),Ts w h' s.heap.objs.size (ledW w) (JB val)->(∀ b o,s.heap.get? b=some o->h'.get? b=some o)->Q (.ref s.heap.objs.size) { s with heap:=h',toks:=tk }):
  Ξ (Φ prog w) A (call (.type "set") [.ref l]) Q E s:=by
 obtain ⟨c,tl,hmro⟩:=aL.mro;have hmade:=aL.made;have hsub:=aL.sub;refine wpAny_call (codeAny_of_tree ?_);show Ξ _ _ (callAny (.type "set") _) _ _ _
 refine ς ⟨Code.quiet_builtin _ (by decide +kernel),dG PySem.F.entry_type_call ?_⟩;rw [ϡ.under_plain (weight_type_call_type "set" [.ref l] []) rfl];have h1:=aL.notType;have h2:=aL.canCreate;have hct:=PySem.F.typeCall_set_1 (.ref l)
 repeat (any_goals (first | assumption | wp_step))
 refine g8 (zeG (.ref l) (E:=E) (Q₁:=fun ob s1=>ob=.ref s.heap.objs.size/\s1={ s with heap:=s.heap.push (set0 w) }) ⟨rfl,rfl⟩) fun r s1 hr=>?_
 cases r with
 | error e=>exact hr
 | ok fl=>
  cases fl with
  | ret ob=>
   obtain ⟨rfl,rfl⟩:=hr;have hS:(s.heap.push (set0 w)).get? s.heap.objs.size=some (set0 w):=Ν _ rfl;have hT:ie { s with heap:=s.heap.push (set0 w) } (.ref s.heap.objs.size) "set":=⟨_,hS,rfl⟩
   have hli:=aL.init.lookup;have hbi:=aL.init.bind (.ref s.heap.objs.size)
   repeat (any_goals (first | assumption | wp_step))
   refine g8 (codeAny_call_builtin (R:=wants (fun r s2=>r=.none/\∃ h' tk,s2={ s with heap:=h',toks:=tk }/\Ts w h' s.heap.objs.size (ledW w) (JB val)/\∀ b o,s.heap.get? b=some o->h'.get? b=some o) E)
    aL.init.plain PySem.F.entry_set_init (check_set_init_1 hT ?_)) fun r2 s2 hr2=>?_
   ·obtain ⟨ol,hol,hcl⟩:=R.there _ hl;have lt:=Η hol;have hol':(s.heap.push (set0 w)).get? l=some ol:=ο _ hol;have ok1:OK (s.heap.push (set0 w)):=R.keep _ _ hl fun o e=>ο _ e
    have k1:=R.n1;have k2:=R.n2;have k3:=R.n3;have hty:ie { s with heap:=s.heap.push (set0 w) } (.ref l) T:=⟨_,hol',hcl⟩
    unfold ώ.«set.__init__» noKeywords ώ.Frozenset.updateFrom;generalize hPI:pyIter=PI
    wp_walk
    subst hPI;have hh3:A.in1.in1.in1.handled=none:=by simp [hh]
    have sz:(s.heap.push (set0 w)).objs.size=s.heap.objs.size+1:=by rw [lZ]
    have ne:l≠(s.heap.push (set0 w)).objs.size:=by rw [sz];exact ό (dI lt)
    refine R.it (s:={ s with heap:=s.heap.push (set0 w) }) ok1 (η (wpAny_runValue (zfV (led:=ledW w) (val:=val) (R.wk _ hh3 ne).toS s.heap.objs.size ?_ hv hP hb its.size [] _ (Α _) (Ϯ _) ?_ ?_ fun s' m z=>?_)))
    ·rw [sz];intro hm;rcases ψ.mp hm with e | hm
     ·exact ό (lG _) e
     ·rw [μ] at hm;exact gA lt hm
    ·rw [Nat.sub_self];exact R.st _ ok1
    ·exact ts0 (ο _ hS)
    ·rw [Nat.sub_self,List.drop_zero] at z;obtain ⟨h',g',d',tk',os'⟩:=s';have e1:g'=s.gens:=m.gens;have e2:d'=s.drawn:=m.drawn;have e3:os'=s.os:=m.os;subst e1 e2 e3;refine ς (ς ⟨rfl,h',tk',rfl,z,fun b o e=>?_⟩);have lb:=Η e;refine m.heap b o ?_ (ο _ (ο _ e));rw [sz];intro hm;rcases ψ.mp hm with e | hm
     ·exact ό lb e
     ·rw [μ] at hm;exact ό (dI lb) hm
   ·cases r2 with
    | error e=>exact hr2
    | ok fl2=>
     cases fl2 with
     | ret r=>
      obtain ⟨rfl,h',tk,rfl,z,hk⟩:=hr2
      repeat (any_goals (first | assumption | wp_step))
      exact h _ _ z hk
     | _=>exact hr2.elim
  | _=>exact hr.elim
theorem zbA {src:Source}{n:Nat}{Q:Nat->ω->Prop}(hn:n≠0) (q:∀ i d,i < n->Q i { s with drawn:=d }):Ξ (Φ prog w) A (choose src n) Q E s:=by intro Γ p h;exact ⟨hn,q _ _ (Nat.mod_lt _ (Nat.pos_of_ne_zero hn))⟩
theorem Yu {α:Type}:∀ (xs:List α) (i:Nat) (hi:i < xs.length),(xs[i]::xs.eraseIdx i).Perm xs
 | x::xs,0,_=>bR _
 | x::xs,i+1,hi=>(aZ.swap _ _ _).trans ((Yu xs i (by simpa using hi)).cons x)
theorem zz {α:Type}(n:Nat):∀ (xs:List α) (s:ω) {Q:List α->ω->Prop},xs.length=n->(∀ ys d,ys.Perm xs->Q ys { s with drawn:=d })->Ξ (Φ prog w) A (drawOrder n xs) Q E s:=by
 induction n with
 | zero=>
  intro xs s Q h q;cases xs with
  | nil=>exact ς (q [] s.drawn (bR _))
  | cons x xs=>cases h
 | succ n ih=>
  intro xs s Q h q;cases xs with
  | nil=>cases h
  | cons x xs=>
   show Ξ _ _ (choose .order (x::xs).length >>= _) _ _ _
   refine η (zbA (by simp) fun i d hi=>?_);rw [Ε hi];refine η (ih _ _ (by rw [nO,if_pos hi];simp at h;simp [h]) fun ys d' p=>ς ?_);refine q _ d' ((p.cons _).trans ?_);exact Yu _ _ hi
end
theorem Yj:Slot "set_iterator" "__next__" "set_iterator.__next__":=
 .of (owner:="set_iterator") (n:="__next__") (by rw [mZ,iw];kernel_rfl) (by decide +kernel) (by decide +kernel) (by decide +kernel)
  (by first | exact .inl (by decide +kernel) | exact .inr (by decide +kernel)) (by rw [iI];kernel_rfl)
theorem zc8:entryFor table "set_iterator.__next__"=some ώ.«set_iterator.__next__»:=entryFor_of_fast (by kernel_rfl)
theorem zgr (a:δ):argsOk "set_iterator.__next__" ⟨[a],[]⟩:=by unfold argsOk;kernel_rfl
theorem Ur:entryFor table "set.__iter__"=some ώ.«frozenset.__iter__»:=entryFor_alias (id':="frozenset.__iter__") (by kernel_rfl) rfl (by decide +kernel) (by kernel_rfl)
section
variable {prog:Ψ}{w:ϕ}
theorem zey {P:Fin->ω->Prop}(hh:A.handled=none) (q:∀ (e:δ) (h':Heap),(∀ b o,s.heap.get? b=some o->h'.get? b=some o)->ie { s with heap:=h' } e "StopIteration"->E e { s with heap:=h' }):
  Ξ (Φ prog w) A (do raiseNew (<- newExc (.type "StopIteration") []):Sem Fin) P E s:=by refine η ?_;simp only [newExc,newTuple];refine η (ao ?_ (by size_fits));refine η (m:=firstArgMember _ _) (gb (a:=ϩ) (by first | rfl | (simp only [firstArgMember];rfl)) ?_);refine ao ?_ (by size_fits);simp only [raiseNew];refine η (wpAny_handled ?_);rw [hh];exact η (ς (wpAny_throw (q (.ref _) _ (fun b o e=>ο _ (ο _ e)) ⟨_,Ν _ rfl,rfl⟩)))
theorem zaF {I:Addr}{Q:Option δ->ω->Prop}(hT:s.TypeIs (.ref I) "set_iterator")
  (h:Ξ (Φ prog w) A.in1 (ώ.«set_iterator.__next__» ⟨[.ref I],[]⟩) (fun f s'=>∃ x,f=.done (.ret x)/\Q (some x) s') (fun e s'=>s'.TypeIs e "StopIteration"/\Q none s') s):Ξ (Φ prog w) A (pyNext (.ref I)) Q E s:=by
 unfold pyNext;refine η (wpAny_attempt (gK (name:=lu "__next__") hT Yj (cB Yj hT zc8 (bK h (fun f s' k=>?_) fun e s' k=>?_) (zgr _))))
 ·obtain ⟨x,rfl,k⟩:=k;exact ⟨x,rfl,ς k⟩
 ·exact η (wpAny_isInstance (T:="StopIteration") (b:=true) k.1 isSubtype_stop (ς k.2))
noncomputable def SI (f:δ) (i n ep:Nat) (a:Addr):Obj:={ cls:=.type "set_iterator",data:=.fields #[f,.int i 0,.ref a,.int n 0,.int ep 0] }
def Fst (w:ϕ) (h:Heap) (I a tp:Addr) (es:Array (Int×δ)) (ep:Nat) (tb:Ϙ) (ord:List (Int×δ)) (i:Nat) (f:δ):Prop:=
 (w.params.followText "set-order"=true/\(∃ k:Nat,f=.int k 0)/\ord=(mq (w.params.setOrder a ep) es).toList) \/
 (w.params.followText "set-order"=false/\∃ (js:List Nat),f=.ref tp/\tp≠I/\(∃ o n,h.get? tp=some o/\o.data=.seq (js.map fun j:Nat=>aj j 0).toArray n)/\js.length=ord.length/\∀ (k:Nat) j,js[k]?=some j->es[j]?=ord[k]?) \/
 (w.params.followText "set-order"=false/\es.size<=1/\tb.led=true/\ord=es.toList/\f=.int (if i=0 then 0 else tb.place.getD 0 0+1:Nat) 0)
theorem Wc {α:Type}(nx:Nat->Nat):∀ (n k:Nat) (l:List α) (out:Array α),l.length=n->(lK nx n k l out).toList.Perm (out.toList++l)
 | 0,k,[],out,_=>by simp [lK]
 | n+1,k,x::l,out,h=>by unfold lK;have hi:nx k % (x::l).length < (x::l).length:=Nat.mod_lt _ (by simp);rw [Ε hi];dsimp only;refine (Wc nx n (k+1) _ _ (by rw [nO,if_pos hi];simp at h;simp [h])).trans ?_;rw [oE,aG];exact (Yu _ _ hi).append_left _
end
section
variable {prog:Ψ}{w:ϕ}{I a tp:Addr}{led:Bool}{es:Array (Int×δ)}{ep:Nat}{tb:Ϙ}{ord:List (Int×δ)}{i:Nat}{f:δ}
structure Wk (w:ϕ) (h:Heap) (I a tp:Addr) (led:Bool) (es:Array (Int×δ)) (ep:Nat) (tb:Ϙ) (ord:List (Int×δ)) (i:Nat):Prop where
 ne:a≠I
 st:St w h a led es ep tb
 it:∃ f,h.get? I=some (SI f i es.size ep a)/\Fst w h I a tp es ep tb ord i f
theorem Zi {h:Heap}{o:Obj}{vs:Array δ}{k:Nat}{x:δ}(ho:h.get? I=some { cls:=.type "set_iterator",data:=.fields vs }):
  (h.update I (dm (·.setIfInBounds k x))).get? I=some { cls:=.type "set_iterator",data:=.fields (vs.setIfInBounds k x) }:=
 aO _ ho rfl
theorem Xd {Q:Bool->ω->Prop}(q:Q (w.params.followText "set-order") s):Ξ (Φ prog w) A setsByText Q E s:=η (mj (ς q))
theorem zaC {Q:Option (δ×Nat)->ω->Prop}{n:Nat}(st:St w s.heap a led es ep tb) (c:w.params.followText "set-order"=true) (q:Q ((mq (w.params.setOrder a ep) es)[i]?.map fun e=>(e.2,n)) s):Ξ (Φ prog w) A (setNext a n i ep) Q E s:=by obtain ⟨⟨so,so1,so2,so3⟩,tx,fit,l1,pl⟩:=st;unfold setNext;refine η (cV so1 so3 fit (η (Xd ?_)));rw [c,if_pos rfl,if_neg (by simp)];unfold setWalk;refine η (η (cV so1 so3 fit (η (Xd ?_))));rw [c,if_pos rfl];exact η (mj (ς (ς q)))
theorem zdU {Q:Option (δ×Nat)->ω->Prop}{n:Nat}(st:St w s.heap a led es ep tb) (c:w.params.followText "set-order"=false) (c2:es.size<=1) (c3:tb.led=true)
  (q:Q (match es[bx tb.place n]?,tb.place[bx tb.place n]? with | some (_,x),some j=>some (x,j+1) | _,_=>none) s):Ξ (Φ prog w) A (setNext a n i ep) Q E s:=by
 obtain ⟨⟨so,so1,so2,so3⟩,tx,fit,l1,pl⟩:=st;unfold setNext;refine η (cV so1 so3 fit (η (Xd ?_)));rw [c,if_neg (by simp)];show Ξ _ _ (if (!tb.plain&&decide (es.size > 1))=true then _ else _) _ _ _
 rw [if_neg (by simp;omega)];refine η (gb (a:=()) ?_ (ς q));show (if (!tb.led&&!es.isEmpty)=true then unsupported "set:maker-not-led" else pure ())=pure ()
 rw [c3];rfl
theorem zcQ {Q:δ->ω->Prop}{n:Nat}{x:Int×δ}(st:St w s.heap a led es ep tb) (e:es[n]?=some x) (q:Q x.2 s):Ξ (Φ prog w) A (setNextDrawn a n ep) Q E s:=by obtain ⟨⟨so,so1,so2,so3⟩,tx,fit,l1,pl⟩:=st;unfold setNextDrawn;refine η (cV so1 so3 fit ?_);dsimp only;rw [if_neg (by simp),e];exact ς q
theorem next_item {Q:Option δ->ω->Prop}{x:Int×δ}(k:Wk w s.heap I a tp led es ep tb ord i) (hx:ord[i]?=some x)
  (q:∀ h',(∀ b o,b≠I->s.heap.get? b=some o->h'.get? b=some o)->Wk w h' I a tp led es ep tb ord (i+1)->Q (some x.2) { s with heap:=h' }):Ξ (Φ prog w) A (pyNext (.ref I)) Q E s:=by
 obtain ⟨ne,st,f,ho,fs⟩:=k;obtain ⟨⟨so,so1,so2,so3⟩,tx,fit,l1,pl⟩:=id st;refine zaF ⟨_,ho,rfl⟩ ?_;unfold ώ.«set_iterator.__next__»;refine η (gb (a:=(Ϟ I,[])) rfl (η (wpAny_fieldsOf ho rfl ?_)));dsimp only;refine η (lr so1 so3 fit ?_);rw [if_neg (by simp)];have keepS:∀ {h':Heap},(∀ b o,b≠I->s.heap.get? b=some o->h'.get? b=some o)->St w h' a led es ep tb:=fun kk=>⟨⟨so,kk a so ne so1,so2,so3⟩,tx,fit,l1,pl⟩
 have kk1:∀ {y:Nat}{z:δ}{h:Heap},(∀ b o,b≠I->s.heap.get? b=some o->h.get? b=some o)->∀ b o,b≠I->s.heap.get? b=some o->(h.update I (dm (·.setIfInBounds y z))).get? b=some o:=fun hk b o hb e=>by rw [c7 _ _ _ _ hb];exact hk b o hb e
 have kk0:∀ b o,b≠I->s.heap.get? b=some o->s.heap.get? b=some o:=fun _ _ _ e=>e
 rcases fs with ⟨c1,⟨k,rfl⟩,c3⟩ | ⟨c1,js,rfl,c2,⟨o,n,c3,c4⟩,c5,c6⟩ | ⟨c1,c2,c3,c4,rfl⟩
 ·refine η (zaC (i:=i) (n:=k) (ep:=ep) st c1 ?_);rw [<- bI,<- c3,hx];dsimp only [fZ];have e1:=Zi (o:=so) (k:=0) (x:=dO (k:Nat)) ho;refine η (aK ho rfl (by simp) (η (aK e1 rfl (by simp) (ς ⟨_,rfl,q _ (kk1 (kk1 kk0)) ⟨ne,keepS (kk1 (kk1 kk0)),_,?_,.inl ⟨c1,⟨k,rfl⟩,c3⟩⟩⟩))));rw [Zi (o:=so) e1];simp [SI,dO]
 ·refine η (wpAny_seqItems c3 c4 ?_);have hj:∃ j,js[i]?=some j:=by
   have:i < js.length:=by rw [c5];exact (Ι.mp hx).1
   exact ⟨_,Ε this⟩
  obtain ⟨j,hj⟩:=hj;dsimp only;rw [fK,gH,Ρ,hj];dsimp only [fZ];refine η (zcQ (n:=j) (ep:=ep) st (by rw [c6 i j hj];exact hx) (η (aK ho rfl (by simp) (ς ⟨_,rfl,q _ (kk1 kk0) ⟨ne,keepS (kk1 kk0),_,?_,.inr (.inl ⟨c1,js,rfl,c2,⟨o,n,kk1 kk0 tp o c2 c3,c4⟩,c5,c6⟩)⟩⟩))));rw [Zi (o:=so) ho];simp [SI,dO]
 ·subst c4;have i0:i=0:=by have:=(Ι.mp hx).1;rw [Ω] at this;omega
  subst i0;have p1:tb.place.size=1:=by have:=(Ι.mp hx).1;rw [Ω] at this;have f:=fit;unfold Ϙ.fits at f;simp only [ζ,beq_iff_eq] at f;omega
  obtain ⟨j,pj⟩:∃ j,tb.place=#[j]:=nA.mp p1
  obtain ⟨x1,x2⟩:=x;refine η (zdU (n:=0) (i:=0) (ep:=ep) st c1 c2 c3 ?_);rw [pj];have b0:bx #[j] 0=0:=by simp [bx,lO]
  rw [b0,<- bI,hx,show (#[j]:Array Nat)[0]?=some j from rfl];dsimp only;have e1:=Zi (o:=so) (k:=0) (x:=dO (j+1:Nat)) ho;refine η (aK ho rfl (by simp) (η (aK e1 rfl (by simp) (ς ⟨_,rfl,q _ (kk1 (kk1 kk0)) ⟨ne,keepS (kk1 (kk1 kk0)),_,?_,.inr (.inr ⟨c1,c2,c3,rfl,rfl⟩)⟩⟩))));rw [Zi (o:=so) e1,pj];simp [SI,dO]
theorem next_end {Q:Option δ->ω->Prop}(hh:A.handled=none) (k:Wk w s.heap I a tp led es ep tb ord ord.length) (hp:ord.Perm es.toList)
  (q:∀ h',(∀ b o,b≠I->s.heap.get? b=some o->h'.get? b=some o)->Q none { s with heap:=h' }):Ξ (Φ prog w) A (pyNext (.ref I)) Q E s:=by
 obtain ⟨ne,st,f,ho,fs⟩:=k;obtain ⟨⟨so,so1,so2,so3⟩,tx,fit,l1,pl⟩:=id st;have sz:ord.length=es.size:=by rw [hp.length_eq,Ω]
 refine zaF ⟨_,ho,rfl⟩ ?_;unfold ώ.«set_iterator.__next__»;refine η (gb (a:=(Ϟ I,[])) rfl (η (wpAny_fieldsOf ho rfl ?_)));dsimp only;refine η (lr so1 so3 fit ?_);rw [if_neg (by simp)];have kk1:∀ {y:Nat}{z:δ}{h:Heap},(∀ b o,b≠I->s.heap.get? b=some o->h.get? b=some o)->∀ b o,b≠I->s.heap.get? b=some o->(h.update I (dm (·.setIfInBounds y z))).get? b=some o:=fun hk b o hb e=>by rw [c7 _ _ _ _ hb];exact hk b o hb e
 have kk0:∀ b o,b≠I->s.heap.get? b=some o->s.heap.get? b=some o:=fun _ _ _ e=>e
 have fin:∀ (h:Heap) (P:Fin->ω->Prop),(∀ b o,b≠I->s.heap.get? b=some o->h.get? b=some o)->Ξ (Φ prog w) A.in1 (do raiseNew (<- newExc (.type "StopIteration") []):Sem Fin) P (fun e s'=>s'.TypeIs e "StopIteration"/\Q none s') { s with heap:=h }:=fun h P hk=>
  zey (s:={ s with heap:=h }) (by simpa using hh) fun e h' k1 k2=>⟨k2,q h' fun b o hb e=>k1 b o (hk b o hb e)⟩
 rcases fs with ⟨c1,⟨k,rfl⟩,c3⟩ | ⟨c1,js,rfl,c2,⟨o,n,c3,c4⟩,c5,c6⟩ | ⟨c1,c2,c3,c4,rfl⟩
 ·refine η (zaC (i:=ord.length) (n:=k) (ep:=ep) st c1 ?_);rw [<- bI,<- c3,cJ (Α _)];dsimp only [Option.map_none];exact η (aK ho rfl (by simp) (fin _ _ (kk1 kk0)))
 ·refine η (wpAny_seqItems c3 c4 ?_);dsimp only;rw [fK,gH,Ρ,cJ (by rw [c5];exact Α _)];dsimp only [Option.map_none];have e1:=Zi (o:=so) (k:=0) (x:=dO 0) ho;exact η (aK ho rfl (by simp) (η (aK e1 rfl (by simp) (fin _ _ (kk1 (kk1 kk0))))))
 ·subst c4;have ft:tb.place.size=es.size:=by have f:=fit;unfold Ϙ.fits at f;simp only [ζ,beq_iff_eq] at f;exact f.1
  obtain ⟨n,hn,hb⟩:∃ n:Nat,(if es.toList.length=0 then 0 else tb.place.getD 0 0+1:Nat)=n/\es.size<=bx tb.place n:=by
   refine ⟨_,rfl,?_⟩;rcases Nat.lt_or_ge 0 es.size with h | h
   ·have p1:tb.place.size=1:=by omega
    obtain ⟨j,pj⟩:∃ j,tb.place=#[j]:=nA.mp p1
    rw [if_neg (by rw [Ω];omega),pj];have b1:bx #[j] (j+1)=1:=by simp [bx,lO]
    have b2:(#[j]:Array Nat).getD 0 0=j:=rfl;rw [b2,b1];omega
   ·omega
  rw [hn];refine η (zdU (n:=n) (i:=es.toList.length) (ep:=ep) st c1 c2 c3 ?_);rw [Array.getElem?_eq_none hb];dsimp only;exact η (aK ho rfl (by simp) (fin _ _ (kk1 kk0)))
theorem Wk.keep {h h':Heap}(k:Wk w h I a tp led es ep tb ord i) (kk:∀ b∈[I,a,tp],∀ o,h.get? b=some o->h'.get? b=some o):Wk w h' I a tp led es ep tb ord i:=by
 obtain ⟨ne,⟨⟨so,so1,so2⟩,z1,z2,z3,z4⟩,f,ho,fs⟩:=k;refine ⟨ne,⟨⟨so,kk a (by simp) so so1,so2⟩,z1,z2,z3,z4⟩,f,kk _ (by simp) _ ho,?_⟩;rcases fs with c | ⟨c1,js,c2,c3,⟨o,n,c4,c5⟩,c6⟩ | c
 ·exact .inl c
 ·exact .inr (.inl ⟨c1,js,c2,c3,⟨o,n,kk _ (by simp) _ c4,c5⟩,c6⟩)
 ·exact .inr (.inr c)
set_option tactic.hygienic true in
theorem zfK {Q:δ->ω->Prop}(st:St w s.heap a (ledW w) es ep tb) (hz:es.size<=sizeLine) (q:∀ (ord:List (Int×δ)) (I tp:Addr) (h':Heap) (d:Drawn),ord.Perm es.toList->(∀ b o,s.heap.get? b=some o->h'.get? b=some o)->s.heap.get? I=none->(tp=a\/s.heap.get? tp=none)->Wk w h' I a tp (ledW w) es ep tb ord 0->Q (.ref I) { s with heap:=h',drawn:=d }):
  Ξ (Φ prog w) A (pyIter (.ref a)) Q E s:=by
 obtain ⟨⟨so,so1,so2,so3⟩,tx,fit,l1,pl⟩:=id st;have hT:s.TypeIs (.ref a) "set":=⟨_,so1,so2.1⟩
 refine wpAny_pyIter_slot hT mO (cB mO hT Ur ?_ (PySem.F.args_set_iter_1 _));unfold ώ.«frozenset.__iter__» ώ.Frozenset.slot0 ώ.Frozenset.sizeOf setDrawn;refine η (gb (a:=a) rfl (η (η (lr so1 so3 fit (ς ?_)))));refine η (η (cV so1 so3 fit (η (Xd (ς ?_)))));have nI:∀ {h:Heap},s.heap.objs.size<=h.objs.size->s.heap.get? h.objs.size=none:=fun {h} hl=>by
  cases e:s.heap.get? h.objs.size with
  | none=>rfl
  | some o=>exact absurd (Η e) (Nat.not_lt.mpr hl)
 have na:∀ {h:Heap},s.heap.objs.size<=h.objs.size->a≠h.objs.size:=fun {h} hl e=>cH _ (ύ (e ▸ Η so1) hl)
 have fin:∀ (f:δ) (tp:Addr) (ord:List (Int×δ)) (h:Heap) (d:Drawn),s.heap.objs.size<=h.objs.size->(∀ b o,s.heap.get? b=some o->h.get? b=some o)->ord.Perm es.toList->(tp=a\/s.heap.get? tp=none)->Fst w (h.push (SI f 0 es.size ep a)) h.objs.size a tp es ep tb ord 0 f ->
   Ξ (Φ prog w) A.in1 (do ret (<- newFields "set_iterator" [f,dO 0,.ref a,dO es.size,dO (<- setEpoch a)])) (fun f' s'=>∃ v,f'=.done (.ret v)/\∃ T u,s'.TypeIs v T/\typeLookup (.type T) (lu "__next__")=pure (some u)/\Q v s') E { s with heap:=h,drawn:=d }:=by intro f tp ord h d hl hk pm ht fs;refine η (wpAny_setEpoch_of (hk a so so1) so3 fit (η (ao (ς ⟨_,rfl,"set_iterator",_,⟨_,Ν _ rfl,rfl⟩,Yj.lookup,?_⟩))));refine q ord h.objs.size tp (h.push (SI f 0 es.size ep a)) d pm (fun b o e=>ο _ (hk b o e)) (nI hl) ht ⟨na hl,⟨⟨so,ο _ (hk a so so1),so2,so3⟩,tx,fit,l1,pl⟩,f,Ν _ rfl,fs⟩
 cases c:w.params.followText "set-order" with
 | true=>
  show Ξ _ _ (if (!true&&(!tb.plain&&decide (es.size > 1)))=true then _ else _) _ _ _
  rw [if_neg (by simp)];refine η (ς (fin (dO 0) a _ s.heap s.drawn (Α _) (fun _ _ e=>e) ?_ (.inl rfl) (.inl ⟨c,⟨0,rfl⟩,rfl⟩)));exact Wc _ _ _ _ _ (Ω ..)
 | false=>
  show Ξ _ _ (if (!false&&(!tb.plain&&decide (es.size > 1)))=true then _ else _) _ _ _
  split
  ·rename_i g
   refine η (zz _ _ _ (fG ..) fun js d pj=>η (wpAny_newTuple ?_ (by rw [υ,pj.length_eq,fG];exact hz)));have lj:js.length=es.size:=by rw [pj.length_eq,fG]
   have jb:∀ j∈js,j < es.size:=fun j hj=>bG.mp (pj.mem_iff.mp hj)
   have om:∀ js:List Nat,(∀ j∈js,j < es.size)->(js.filterMap (es[·]?)).length=js.length/\∀ (k:Nat) (j:Nat),js[k]?=some j->es[j]?=(js.filterMap (es[·]?))[k]?:=by
    intro js
    induction js with
    | nil=>exact fun _=>⟨rfl,fun k j h=>by simp at h⟩
    | cons x js ih=>
     intro hb;obtain ⟨h1,h2⟩:=ih fun j hj=>hb j (ι _ hj)
     have hx:es[x]?=some (es[x]'(hb x θ)):=fj _;rw [b7,hx];refine ⟨by simp [h1],fun k j h=>?_⟩;cases k with
     | zero=>cases (ϙ h);rw [hx];rfl
     | succ k=>exact h2 k j h
   obtain ⟨o1,o2⟩:=om js jb;refine fin (.ref s.heap.objs.size) s.heap.objs.size (js.filterMap (es[·]?)) _ d (by rw [size_push'];exact fJ _) (fun b o e=>ο _ e) ?_ (.inr (nI (Α _))) (.inr (.inl ⟨c,js,rfl,?_,⟨_,_,ο _ (Ν _ rfl),rfl⟩,o1.symm,o2⟩))
   ·refine (pj.filterMap _).trans ?_;rw [show (fun x=>es[x]?)=fun i=>es[i]? from rfl,filterMap_getElem?_range]
   ·rw [size_push'];exact ό (lG _)
  ·rename_i g
   refine η (ς (fin (dO 0) a es.toList s.heap s.drawn (Α _) (fun _ _ e=>e) (bR _) (.inl rfl) (.inr (.inr ⟨c,?_,?_,rfl,rfl⟩))))
   ·rcases pl with p | p
    ·omega
    ·rw [p] at g;simp at g;omega
   ·rw [l1,ledW,c];rfl
end
theorem Jm:Slot "set_iterator" "__iter__" "set_iterator.__iter__":=
 .of (owner:="set_iterator") (n:="__iter__") (by rw [mZ,iw];kernel_rfl) (by decide +kernel) (by decide +kernel) (by decide +kernel)
  (by first | exact .inl (by decide +kernel) | exact .inr (by decide +kernel)) (by rw [iI];kernel_rfl)
theorem zbp:entryFor table "set_iterator.__iter__"=some ώ.«dict_keyiterator.__iter__»:=entryFor_alias (id':="dict_keyiterator.__iter__") (by kernel_rfl) rfl (by decide +kernel) (by kernel_rfl)
theorem zdw (a:δ):argsOk "set_iterator.__iter__" ⟨[a],[]⟩:=by unfold argsOk;kernel_rfl
theorem zeH:typeLookup (.type "set") "__len__"=pure (some (.builtin "set.__len__")):=by rw [mZ,iw];kernel_rfl
section
variable {prog:Ψ}{w:ϕ}{I a tp:Addr}{led:Bool}{es:Array (Int×δ)}{ep:Nat}{tb:Ϙ}{ord:List (Int×δ)}{i:Nat}{f:δ}
theorem zb5 (hh:A.handled=none) (hp:ord.Perm es.toList):Walks prog w A I [I,a,tp] [I] ord.length (fun i v=>(ord.map (·.2))[i]?=some v) (fun i h=>Wk w h I a tp led es ep tb ord i) where
 sub:=fun b hb=>by simp at hb;simp [hb]
 frame:=fun _ _ _ st hk=>st.keep hk
 item:=fun i s Q E hi st hQ=>next_item (x:=ord[i]) st (Ε hi) fun h' k st'=>hQ _ h' s.toks (by simp [hi]) st' fun b o hb e=>k b o (by simpa using hb) e
 done:=fun s Q E st hQ=>next_end hh st hp fun h' k=>hQ h' s.toks fun b o hb e=>k b o (by simpa using hb) e
 self:=fun i s Q E st hQ=>by
  obtain ⟨f,ho,_⟩:=st.it;have hT:s.TypeIs (.ref I) "set_iterator":=⟨_,ho,rfl⟩
  refine wpAny_pyIter_slot hT Jm (cB Jm hT zbp ?_ (zdw _));exact ς ⟨_,rfl,"set_iterator",_,hT,Yj.lookup,hQ⟩
theorem Uw {R:List δ->ω->Prop}(hh:A.handled=none) (st:St w s.heap a (ledW w) es ep tb) (hz:es.size < 4096)
  (h:∀ (ord:List (Int×δ)) (h':Heap) (tk:Nat) (d:Drawn),ord.Perm es.toList->s.heap.objs.size<=h'.objs.size->(∀ b o,s.heap.get? b=some o->h'.get? b=some o)->R (ord.map (·.2)) { s with heap:=h',toks:=tk,drawn:=d }):Ξ (Φ prog w) A (collect (.ref a)) R E s:=by
 obtain ⟨⟨so,so1,so2,so3⟩,z1,z2,z3,z4⟩:=id st;have hn:es.size<=sizeLine:=by rw [aF];omega
 have lt:=Η so1;unfold collect;refine η (wpAny_runValue (dG PySem.F.entry_proto_collect ?_));rw [cP PySem.F.plain_proto_collect _];show Ξ _ A.in1 (newList [] >>= fun l=>again (.builtin "list.__iadd__" ⟨[l,.ref a],[]⟩)) _ _ s
 refine η (ao (ς ⟨lD lU _,dG PySem.F.entry_list_iadd ?_⟩));rw [cP lU _];show Ξ _ A.in1 (cu (.ref s.heap.objs.size) (.ref a) (.ref s.heap.objs.size)) _ _ _
 generalize h1e:s.heap.push { cls:=.type "list",data:=.seq ([]:List δ).toArray }=h1;have k1:∀ b o,s.heap.get? b=some o->h1.get? b=some o:=fun b o e=>by rw [<- h1e];exact ο _ e
 have hS:h1.get? s.heap.objs.size=some { cls:=.type "list",data:=.seq #[] }:=by rw [<- h1e];exact Ν _ rfl
 have st1:St w h1 a (ledW w) es ep tb:=⟨⟨so,k1 a so so1,so2,so3⟩,z1,z2,z3,z4⟩
 have hT:∀ (h:Heap) (d:Drawn),(∀ b o,h1.get? b=some o->h.get? b=some o)->ie { s with heap:=h,drawn:=d } (.ref a) "set":=fun h d k=>⟨so,k a so (k1 a so so1),so2.1⟩
 have nSa:s.heap.objs.size≠a:=gA lt;unfold cu;refine η (cL (hT h1 s.drawn fun _ _ e=>e) ?_);have e1:iZ (.ref s.heap.objs.size) (.ref a)=false:=by simp [iZ,nSa]
 rw [if_neg (by rw [e1];decide)];refine η (zfK (s:={ s with heap:=h1 }) st1 hn fun ord I tp h2 d pm k2 nI nt wk=>?_);refine η (aX ?_);unfold ώ.List.listLengthHint;refine η (wpAny_specialOf (hT h2 d k2) zeH ?_)
 (generalize hid:("set.__len__":String)=id0;wp_delta;rw [show splitId id0=some ("set","__len__") from by subst hid;decide +kernel];subst hid)
 refine η (wpAny_isInstance (b:=true) (hT h2 d k2) sub_set_self ?_);rw [if_neg (by simp),if_pos (by decide +kernel)];refine η (cL (hT h2 d k2) (ς ?_));rw [if_pos (by decide +kernel)];have nIS:I≠s.heap.objs.size:=fun e=>by rw [e] at nI;have nI:h1.get? _=none:=nI;rw [hS] at nI;cases nI
 have ntS:tp≠s.heap.objs.size:=fun e=>by
  rcases nt with z | z
  ·exact nSa (e.symm.trans z)
  ·rw [e] at z;have z:h1.get? _=none:=z;rw [hS] at z;cases z
 have hSf:s.heap.objs.size ∉ [I,a,tp]:=fun hm=>by
  rcases ψ.mp hm with z | hm
  ·exact nIS z.symm
  ·rcases ψ.mp hm with z | hm
   ·exact nSa z
   ·exact ntS (μ.mp hm).symm
 have hS2:=k2 _ _ hS;have hS3:=aO (bj (·.push ϩ)) hS2 rfl;have hS4:=aO (bj (·.pop)) hS3 rfl;refine η (dg (η ?_));unfold ώ.List.listTouch;refine η (gn hS2 rfl (gn hS3 rfl ?_ (by rw [aF];decide) (by rw [aF];decide)) (by rw [aF];decide) (by rw [aF];decide));have kk:∀ b o,b≠s.heap.objs.size->h2.get? b=some o->((h2.update s.heap.objs.size (bj (·.push ϩ))).update s.heap.objs.size (bj (·.pop))).get? b=some o:=fun b o hb e=>by rw [c7 _ _ _ _ hb,c7 _ _ _ _ hb];exact e
 refine ς ⟨lD PySem.F.plain_extend_loop _,codeAny_extend_loopS (zb5 (led:=ledW w) (es:=es) (ep:=ep) (tb:=tb) (tp:=tp) (a:=a) (by simpa using hh) pm).toS (by rw [pm.length_eq,Ω];exact hn) s.heap.objs.size hSf _ ord.length 0 _ #[] _ rfl (Ϯ _)
  (wk.keep fun b hb o e=>kk b o (fun z=>hSf (z ▸ hb)) e) hS4 (ItemsOf.nil _) fun s' acc c m hS' hacc=>?_⟩
 refine η (wpAny_load hS' (ς ?_));have ea:acc.toList=ord.map (·.2):=by
  apply oN;intro j;by_cases hj:j < acc.size
  ·rw [bI,fj hj,hacc.2 j _ (fj hj)]
  ·rw [cJ (by rw [Ω];omega),cJ (by rw [υ,<- hacc.1];omega)]
 obtain ⟨h',g',d',tk',os'⟩:=s';have g1:g'=s.gens:=m.gens;have g2:d'=d:=m.drawn;have g3:os'=s.os:=m.os;subst g1 g2 g3;rw [ea];refine h ord h' tk' d' pm ?_ fun b o e=>?_
 ·have:=Η hS';exact gB this
 ·have hb:b≠s.heap.objs.size:=ό (Η e);refine m.heap b o (fun hm=>?_) (kk b o hb (k2 b o (k1 b o e)));rcases ψ.mp hm with z | hm
  ·exact hb z
  ·rw [μ.mp hm] at e;have nI:h1.get? I=none:=nI;rw [k1 _ _ e] at nI;cases nI
end
noncomputable def strB (x y:Str):Bool:=decide (x.cps.toList < y.cps.toList)
theorem zex (x:Str):strB x x=false:=decide_eq_false (List.lt_irrefl _)
theorem zgW (x y z:Str) (h:strB x y=true) (k:strB y z=true):strB x z=true:=decide_eq_true (List.lt_trans (of_decide_eq_true h) (of_decide_eq_true k))
theorem zew (x y z:Str) (h:strB x z=true):strB x y=true\/strB y z=true:=by
 by_cases k:x.cps.toList < y.cps.toList
 ·exact .inl (decide_eq_true k)
 ·right;have k:y.cps.toList<=x.cps.toList:=List.not_lt.mp k;exact decide_eq_true (List.lt_of_le_of_lt k (of_decide_eq_true h))
theorem QS (x y:Str) (h:strB x y=false) (k:strB y x=false):x=y:=by have h1:y.cps.toList<=x.cps.toList:=List.not_lt.mp (of_decide_eq_false h);have h2:x.cps.toList<=y.cps.toList:=List.not_lt.mp (of_decide_eq_false k);have e:=List.le_antisymm h2 h1;obtain ⟨⟨l⟩⟩:=x;obtain ⟨⟨m⟩⟩:=y;cases (show l=m from e);rfl
noncomputable def strO:bD:=⟨Str,strB,zex,zgW,zew,QS⟩
noncomputable def strV:δ->Str
 | .str x _=>x
 | _=>⟨#[]⟩
def IsTx (v:δ):Prop:=∃ x t,v=.str x t
section
variable {prog:Ψ}{w:ϕ}
theorem zik {G:bu->Prop}(hg:∀ x,G x->IsTx x.1):LtOk strO (fun x=>strV x.1) G oneType' (Φ prog w) A E s:=by intro x y st Q gx gy hk q;obtain ⟨a,t,e1⟩:=hg x gx;obtain ⟨b,u,f1⟩:=hg y gy;rw [lt'_eq];refine ϟ (wpS_get ?_);have q:Q (some (strB (strV x.1) (strV y.1))) st:=q;rw [e1,f1] at q;rw [hk,e1,f1];exact ϟ (wpS_lift (wpAny_attempt (W.kas_lt_str ⟨rfl,aJ q⟩)))
theorem zcY {vs:List δ}(h2:2<=vs.length) (hv:∀ v∈vs,IsTx v) {Q:iJ->ω->Prop}(q:Q oneType' s):Ξ (Φ prog w) A (keyKind' vs.toArray) Q E s:=
 W.kas_kind (T:=.type "str") h2 (fun v hm=>by
  obtain ⟨x,t,rfl⟩:=hv v hm
  exact fun _ _ _ _ _ q=>ς q) (by decide +kernel) (by decide +kernel) q
theorem zcg {a:Addr}{vs:List δ}{n:Nat}{P:Fin->ω->Prop}(ho:s.heap.get? a=some (cM "list" vs.toArray n)) (hv:∀ v∈vs,IsTx v) (h128:vs.length < 64)
  (h:∀ out:Array δ,uX strO strV vs out.toList->P (.done (.ret .none)) { s with heap:=gZ s.heap a vs out }):Ξ (Φ prog w) A (ώ.«list.sort» ⟨[.ref a],[]⟩) P E s:=by refine zch (O:=strO) (kz:=strV) (kd:=oneType') ho h128 (fun h' h2 kp=>⟨fun Q q=>zcY (s:={ s with heap:=h' }) h2 hv q,zik fun x hx=>?_⟩) h;obtain ⟨v,hm,rfl⟩:=hx;exact hv v hm
theorem zfU {vs:List δ}{Q:δ->ω->Prop}(hv:∀ v∈vs,IsTx v) (h128:vs.length < 64)
  (h:∀ out:Array δ,uX strO strV vs out.toList->Q (.ref s.heap.objs.size) { s with heap:=gZ (s.heap.push (cM "list" vs.toArray 0)) s.heap.objs.size vs out }):
  Ξ (Φ prog w) A (do
   let l <- newList vs
   let _ <- gf [l] (call (.builtin "list.sort") [l])
   ret l) (fun f s'=>∃ v,f=.done (.ret v)/\Q v s') E s:=by
 have hsl:vs.length<=sizeLine:=by rw [aF];omega
 refine η (wpAny_newList ?_ (by simpa using hsl));have e2:(s.heap.push (cM "list" vs.toArray 0)).get? s.heap.objs.size=some (cM "list" vs.toArray 0):=Ν _ rfl;refine η (aX (cB slot_list_sort ⟨_,e2,rfl⟩ entry_list_sort (zcg (s:={ s with heap:=s.heap.push (cM "list" vs.toArray 0) }) e2 hv h128 fun out k=>⟨_,rfl,ς ⟨_,rfl,h out k⟩⟩) (args_list_sort _)))
theorem Kw {a:Addr}{es:Array (Int×δ)}{ep:Nat}{tb:Ϙ}{Q:δ->ω->Prop}(hh:A.handled=none) (st:St w s.heap a (ledW w) es ep tb) (h128:es.size < 64)
  (h:∀ (vs:List δ) (out:Array δ) (h':Heap) (tk:Nat) (d:Drawn),vs.Perm (es.toList.map (·.2))->uX strO strV vs out.toList->s.heap.objs.size<=h'.objs.size->(∀ b o,s.heap.get? b=some o->h'.get? b=some o) ->
   Q (.ref h'.objs.size) { s with heap:=gZ (h'.push (cM "list" vs.toArray 0)) h'.objs.size vs out,toks:=tk,drawn:=d }):
  Ξ (Φ prog w) A (call (.builtin "sorted") [.ref a]) Q E s:=by
 refine Calls.call_function_entry kind_sorted plain_sorted entry_sorted (args_sorted1 _) ?_;unfold ώ.«sorted»;refine η (m:=checkCount "sorted" 1 1 _) (ς (η (Uw (by simpa using hh) st (by omega) fun ord h' tk d pm hg hk=>?_)));refine zfU (s:={ s with heap:=h',toks:=tk,drawn:=d }) (fun v hv=>?_) (by rw [υ,pm.length_eq,Ω];exact h128) fun out k=>h _ out h' tk d (pm.map _) k hg hk
 obtain ⟨e,he,rfl⟩:=Ο.mp hv;obtain ⟨x,t,rfl⟩:=st.tx e (pm.mem_iff.mp he);exact ⟨x,t,rfl⟩
end
open PySem PyProof.Rows PySem.W
section
variable {prog:Ψ}{w:ϕ}
def Raw (h:Heap) (d:Addr) (es:Array mG) (ep:Nat):Prop:=∃ o,h.get? d=some o/\o.ExactDict/\o.data=.dict es ep
theorem Raw.typeIs {d:Addr}{ep:Nat}{es:Array mG}(hm:Raw s.heap d es ep):s.TypeIs (.ref d) "dict":=let ⟨o,ho,hc,_⟩:=hm;⟨o,ho,hc.1⟩
theorem Raw.keep {h h':Heap}{d:Addr}{ep:Nat}{es:Array mG}(hm:Raw h d es ep) (k:∀ o,h.get? d=some o->h'.get? d=some o):Raw h' d es ep:=let ⟨o,ho,r⟩:=hm;⟨o,k o ho,r⟩
end
end TS
namespace EV
open PySem L2
theorem non (h:false=true):false=true:=h
theorem nobE {p:Prop}(h:false=true):p:=nomatch h
noncomputable def LIM:Nat:=1000000
noncomputable def fits (n:Nat):Bool:=n<=LIM
noncomputable def yg (i:Int):Bool:=decide (-(2 ^ 64) < i)&&decide (i < 2 ^ 64)
noncomputable def addD:D->D->Option (D×Bool)
 | .int i,.int j=>some (.int (i+j),false)
 | .str x,.str y=>if fits (x.length+y.length) then some (.str (x++y),false) else none
 | .tup a,.tup b=>if fits (a.length+b.length) then some (.tup (a++b),false) else none
 | .lst a,.lst b=>if fits (a.length+b.length) then some (.lst (a++b),true) else none
 | _,_=>none
noncomputable def mulD:D->D->Option (D×Bool)
 | .int i,.int j=>if yg i||yg j then some (.int (i*j),false) else none
 | _,_=>none
noncomputable def num2 (f:Int->Int->Option Int):D->D->Option (D×Bool)
 | .int i,.int j=>(f i j).map fun k=>(.int k,false)
 | _,_=>none
noncomputable def opD (op:gO) (a b:D):Option (D×Bool):=match op with
 | .Add=>addD a b
 | .Sub=>num2 (fun i j=>some (i - j)) a b
 | .Mult=>mulD a b
 | .FloorDiv=>num2 (fun i j=>if decide (0 < j)&&decide (j < 2 ^ 64) then some (i / j) else none) a b
 | .Mod=>num2 (fun i j=>if decide (0 < j) then some (i % j) else none) a b
 | .Pow=>num2 (fun i j=>if decide (0<=j)&&decide (j<=1000000)&&yg i then some (i ^ j.toNat) else none) a b
 | _=>none
mutual
noncomputable def eqP:D->D->Bool
 | .non,.non=>true
 | .bl a,.bl b=>a==b
 | .bl a,.int j=>(if a then 1 else 0)==j
 | .int i,.bl b=>i==(if b then 1 else 0)
 | .int a,.int b=>a==b
 | .str a,.str b=>a==b
 | .tup a,.tup b=>eqPs a b
 | .lst a,.lst b=>eqPs a b
 | _,_=>false
noncomputable def eqPs:List D->List D->Bool
 | [],[]=>true
 | a::as,b::bs=>eqP a b&&eqPs as bs
 | _,_=>false
end
mutual
noncomputable def okP:Nat->D->Bool
 | _,.non=>true
 | _,.bl _=>true
 | _,.int _=>true
 | _,.str _=>true
 | 0,.tup _=>false
 | n+1,.tup a=>okPs n a
 | 0,.lst _=>false
 | n+1,.lst a=>okPs n a
 | _,_=>false
noncomputable def okPs:Nat->List D->Bool
 | _,[]=>true
 | n,a::as=>okP n a&&okPs n as
end
noncomputable def eqD (a b:D):Option Bool:=if okP 60 a&&okP 60 b then some (eqP a b) else none
noncomputable def keyD:D->Option Key
 | .int i=>some (.inl i)
 | .str x=>some (.inr x)
 | _=>none
noncomputable def YH:List D->Option (List Key)
 | []=>some []
 | d::ds=>match keyD d,YH ds with
  | some k,some ks=>some (k::ks)
  | _,_=>none
noncomputable def yZ {κ:Type} [DecidableEq κ]:List κ->κ->Option Nat
 | [],_=>none
 | k::ks,x=>if k=x then some 0 else (yZ ks x).map (·+1)
noncomputable def xV {κ:Type} [DecidableEq κ] (ks:List κ) (ds:List D) (k:κ):Option D:=(yZ ks k).bind fun i=>ds[i]?
noncomputable def mapK {κ α:Type} [DecidableEq κ]:List κ->List α->κ->α->List α
 | k::ks,d::ds,x,y=>(if k=x then y else d)::mapK ks ds x y
 | _,ds,_,_=>ds
noncomputable def hasK {κ:Type} [DecidableEq κ] (ks:List κ) (k:κ):Bool:=ks.any fun x=>decide (x=k)
noncomputable def yu {κ α:Type} [DecidableEq κ] (ks:List κ) (ds:List α) (k:κ) (d:α):List κ×List α:=
 if hasK ks k=true then (ks,mapK ks ds k d) else (ks++[k],ds++[d])
noncomputable def isNone:D->Bool
 | .non=>true
 | _=>false
noncomputable def wN:D->D->Option (Option D)
 | .dK ks ds,k=>(keyD k).map (xV ks ds)
 | .dT ks ds,.tup t=>(YH t).map (xV ks ds)
 | .dF ks ds,.tup t=>(YH t).map (xV ks ds)
 | _,_=>none
noncomputable def isSc:D->Bool
 | .lst _=>false
 | d=>okP 59 d
noncomputable def memD (l:List D) (d:D):Option Bool:=if isSc d&&l.all isSc then some (l.any fun y=>eqP y d) else none
noncomputable def zH (S:Store):D->D
 | .ref k=>(S[k]?).getD .non
 | d=>d
noncomputable def int2 (f:Int->Int->Bool):D->D->Option Bool
 | .int i,.int j=>some (f i j)
 | _,_=>none
noncomputable def isD (a:D):D->Option Bool
  | .non=>some (isNone a)
  | .bl b=>(match a with
    | .bl a=>some (a==b)
    | _=>none)
  | _=>none
noncomputable def inD (a:D):D->Option Bool
  | .lst l=>memD l a
  | .tup l=>memD l a
  | .ktp l=>memD l a
  | .str y=>(match a with
    | .str x=>some (!(eO y x 0 y.length 1).isEmpty)
    | _=>none)
  | .dK ks ds=>(wN (.dK ks ds) a).map (·.isSome)
  | .dT ks ds=>(wN (.dT ks ds) a).map (·.isSome)
  | .dF ks ds=>(wN (.dF ks ds) a).map (·.isSome)
  | _=>none
noncomputable def YZ:List D->Option (List Int)
 | []=>some []
 | .int i::r=>(YZ r).map (i::·)
 | _::_=>none
noncomputable def neD:D->D->Option Bool
 | .dK ks vs,.dK ks' vs'=>if decide (ks=ks')&&decide ks.Nodup&&decide (YZ vs=YZ vs')&&(YZ vs).isSome then some false else none
 | a,b=>(eqD a b).map (!·)
noncomputable def cmpD (op:gQ) (a b:D):Option Bool:=match op with
 | .Eq=>eqD a b
 | .NotEq=>neD a b
 | .Lt=>int2 (fun i j=>decide (i < j)) a b
 | .LtE=>int2 (fun i j=>decide (i<=j)) a b
 | .Gt=>int2 (fun i j=>decide (j < i)) a b
 | .GtE=>int2 (fun i j=>decide (j<=i)) a b
 | .Is=>isD a b
 | .IsNot=>(isD a b).map (!·)
 | .In=>inD a b
 | .NotIn=>(inD a b).map (!·)
noncomputable abbrev idx (n:Nat) (i:Int):Option Nat:=ixN n i
noncomputable def subD:D->D->Option D
 | .tup l,.int i=>(idx l.length i).bind fun k=>l[k]?
 | .lst l,.int i=>(idx l.length i).bind fun k=>l[k]?
 | .scr l,.int i=>(idx l.length i).bind fun k=>(l[k]?).map D.int
 | .str x,.int i=>if fits x.length then (idx x.cps.toList.length i).bind fun k=>(x.cps.toList[k]?).map fun c=>.str ⟨#[c]⟩ else none
 | .dK ks ds,k=>(wN (.dK ks ds) k).bind id
 | .dT ks ds,k=>(wN (.dT ks ds) k).bind id
 | .dF ks ds,k=>(wN (.dF ks ds) k).bind id
 | _,_=>none
noncomputable def cutD (l:List D) (lo hi:Option Int):List D:=(l.drop (HT.sIx l.length 0 lo)).take (HT.sIx l.length l.length hi - HT.sIx l.length 0 lo)
noncomputable def slcD (d:D) (lo hi:Option Int):Option (D×Bool):=
 match d with
 | .tup l=>some (.tup (cutD l lo hi),false)
 | .lst l=>some (.lst (cutD l lo hi),true)
 | .scr l=>some (.lst (cutD (l.map D.int) lo hi),true)
 | .str x=>if fits x.length then some (.str (iK x lo hi),false) else none
 | _=>none
noncomputable def insD (l:List D):List D->Option (List D)
 | [.int j,d]=>if (decide (0<=j)&&decide (j<=l.length)&&fits (l.length+1))=true then some (l.take j.toNat++d::l.drop j.toNat) else none
 | _=>none
noncomputable def dk1D:List D->Option D
 | [.tup t,v]=>(YH t).map fun k=>.dT [k] [v]
 | _=>none
noncomputable def ziV:D->Option (D×Bool)
 | .lst l=>some (.lst l.reverse,true)
 | .tup l=>some (.tup l.reverse,false)
 | _=>none
noncomputable def uy:List D->Option (List Bool)
 | []=>some []
 | .bl b::r=>(uy r).map (b::·)
 | _::_=>none
noncomputable def isTy:Ty->D->Option Bool
 | t,.int _=>some (t==.int)
 | t,.bl _=>some (t==.bool||t==.int)
 | t,.str _=>some (t==.str)
 | t,.tup _=>some (t==.tuple)
 | t,.lst _=>some (t==.list)
 | t,.dK _ _=>some (t==.dict)
 | t,.non=>some false
 | _,_=>none
noncomputable def seqD:D->Option (List D)
 | .tup l=>some l
 | .lst l=>some l
 | .scr l=>some (l.map D.int)
 | .ktp l=>some l
 | _=>none
noncomputable def itrD:D->Option (List D)
 | .str x=>some (x.cps.toList.map fun c=>.str ⟨#[c]⟩)
 | d=>seqD d
noncomputable def lenD:D->Option (D×Bool)
 | .tup l=>some (.int l.length,false)
 | .lst l=>some (.int l.length,false)
 | .scr l=>some (.int l.length,false)
 | .str x=>if fits x.length then some (.int x.length,false) else none
 | .dK ks _=>some (.int ks.length,false)
 | _=>none
noncomputable def absD:D->Option (D×Bool)
 | .int i=>some (.int (if i < 0 then -i else i),false)
 | _=>none
noncomputable def intOf:D->Option (D×Bool)
 | .bl b=>some (.int (if b then 1 else 0),false)
 | .int i=>some (.int i,false)
 | _=>none
noncomputable def lotD:D->Option (List D)
 | .lst l=>some l
 | .tup l=>some l
 | _=>none
noncomputable def onL (f:List D->Option D):D->Option (D×Bool)
 | .lst l=>(f l).map fun d=>(d,false)
 | _=>none
noncomputable def keyOf:Key->D
 | .inl i=>.int i
 | .inr x=>.str x
noncomputable def zd1:List (List Key)->List D->List D
 | k::ks,d::ds=>.tup [.tup (k.map keyOf),d]::zd1 ks ds
 | _,_=>[]
noncomputable def strL (x y:Str):Bool:=decide (x.cps.toList < y.cps.toList)
noncomputable def insS (k:Str):List Str->List Str
 | []=>[k]
 | x::l=>if strL x k then x::insS k l else k::x::l
noncomputable def Zb:List Str->List Str
 | []=>[]
 | k::l=>insS k (Zb l)
noncomputable def yo (ks:List Str):List Str:=ks.foldl (fun l x=>if x∈l then l else l++[x]) []
noncomputable def vV:List D->Option (List Str)
 | []=>some []
 | .str x::r=>(vV r).map (x::·)
 | _::_=>none
noncomputable def zeA (d:D):Option (D×Bool):=((lotD d).bind vV).bind fun ks=>if (decide (ks.length < 4095)&&decide ((yo ks).length < 64))=true then some (.lst ((Zb (yo ks)).map D.str),true) else none
noncomputable def zky (d:D):Option (D×Bool):=((lotD d).bind vV).bind fun ks=>if decide (ks.length < 4095)=true then some (.int (yo ks).length,false) else none
noncomputable def bi2:BI->D->D->Option (D×Bool)
 | _,_,_=>none
noncomputable def biD (b:BI) (ds:List D):Option (D×Bool):=match ds with
  | [d]=>(match b with
    | .len=>lenD d
    | .abs=>absD d
    | .int=>intOf d
    | .tuple=>(lotD d).map fun l=>(.tup l,false)
    | .list=>(lotD d).map fun l=>(.lst l,true)
    | .all=>onL (fun l=>(uy l).map fun bs=>.bl (bs.all id)) d
    | .any=>onL (fun l=>(uy l).map fun bs=>.bl (bs.any id)) d
    | .isinst t=>(isTy t d).map fun b=>(.bl b,false)
    | .sset=>zeA d
    | .lset=>zky d
    | _=>none)
  | [d,e]=>bi2 b d e
  | _=>none
noncomputable def mthK:MT->D->Bool
 | .get2,.dK _ _=>true
 | .get2,.dT _ _=>true
 | .get2,.kdc _=>true
 | _,_=>false
noncomputable def zin (ps:List (Str×Int)):D->D->Option (D×Bool)
 | .str k,x=>some (((aD k ps).map D.int).getD x,false)
 | _,_=>none
noncomputable def mthD:MT->D->List D->Option (D×Bool)
 | .index,_,_=>none
 | .get1,_,_=>none
 | .get2,.kdc ps,[k,x]=>zin ps k x
 | .get2,d,[k,x]=>(wN d k).map fun o=>(o.getD x,false)
 | .join,_,_=>none
 | .split,_,_=>none
 | _,_,_=>none
noncomputable def nT:T->Nat
 | .one _=>1
 | .nst _ is=>1+is.length
 | .tup is=>is.length
noncomputable def uT:Nat->List D->List D
 | _,[]=>[]
 | n,d::ds=>.tup [.int n,d]::uT (n+1) ds
noncomputable def zkN:D->Option (List D)
 | .lst l=>some l
 | _=>none
noncomputable def zV (lo hi:Int):List D:=(Ϲ (hi - lo).toNat).map fun (k:Nat)=>.int (lo+(k:Int))
noncomputable def dwnD:List D->Option (List D)
 | [.int i,.int j,.int k]=>if (decide (k=-1)&&decide (-1000000<=i)&&decide (i<=1000000)&&decide (-1000000<=j)&&decide (j<=1000000))=true then some (zV (j+1) (i+1)).reverse else none
 | _=>none
noncomputable def zdd (tk:Bool) (ks:List Key) (ds:List D):Bool:=decide (ks.length=ds.length)&&decide ks.Nodup&&decide (ks.length<=15)&&(!tk||ks.isEmpty)
inductive Slot where
 | no | sh (d:D) | ow (d:D)
 deriving Inhabited
inductive O where
 | next (ρ:List Slot) | ret (d:D) (fr:Bool) | brk (ρ:List Slot) | cnt (ρ:List Slot)
noncomputable def nst2:D->Option (D×List D)
  | .tup l=>(match l with
    | x::r=>(match r with
      | y::z=>(match z with
        | []=>(match y with
          | .tup ds=>some (x,ds)
          | _=>none)
        | _=>none)
      | _=>none)
    | _=>none)
  | _=>none
theorem zft {d:D}{p:D×List D}(h:nst2 d=some p):d=.tup [p.1,.tup p.2]:=by
 cases d with
 | tup l=>
  cases l with
  | nil=>cases h
  | cons x r=>
   cases r with
   | nil=>cases h
   | cons y z=>
    cases z with
    | cons _ _=>cases h
    | nil=>
     cases y with
     | tup ds=>cases h;rfl
     | _=>cases h
 | _=>cases h
noncomputable def yD (ρ:List Slot):T->D×Bool->Option (List Slot)
 | .one i,(d,fr)=>if i < ρ.length&&!WF d then some (ρ.set i (if fr=true then .ow d else .sh d)) else none
 | .tup is,(.tup ds,_)=>if is.length=ds.length/\is.Nodup/\is.all (· < ρ.length) then some ((is.zip ds).foldl (fun r p=>r.set p.1 (.sh p.2)) ρ) else none
 | .nst i is,(d,_)=>(nst2 d).bind fun p=>if i < ρ.length/\is.length=p.2.length/\is.Nodup/\is.all (· < ρ.length) then some ((is.zip p.2).foldl (fun r p=>r.set p.1 (.sh p.2)) (ρ.set i (.sh p.1))) else none
 | _,_=>none
noncomputable def putD:D->D->D->Option D
 | .lst l,.int i,d=>(idx l.length i).map fun k=>.lst (l.set k d)
 | .dK ks ds,k,d=>(keyD k).bind fun k=>if fits (ks.length+1) then some (let p:=yu ks ds k d;.dK p.1 p.2) else none
 | .dT ks ds,.tup t,d=>(YH t).bind fun k=>if fits (ks.length+1) then some (let p:=yu ks ds k d;.dT p.1 p.2) else none
 | _,_,_=>none
noncomputable def zkD:Option D->Bool
 | some (.lst _)=>true
 | _=>false
noncomputable def extD:D->Option (List D)
 | .lst l=>some l
 | .tup l=>some l
 | _=>none
noncomputable def entry (fn:Fn) (ds:List D):List Slot:=ds.map Slot.sh++Κ (fn.nv - ds.length) Slot.no
inductive Kd where
 | st | fr | bo
noncomputable abbrev Vl:=D×Kd
abbrev Po:=Vl->Store->Prop
abbrev Cf:=Nat->List D->Po->Store->Prop
noncomputable def kd:Bool->Kd
 | true=>.fr
 | false=>.st
noncomputable def ofB (p:D×Bool):Vl:=(p.1,kd p.2)
def opt {α:Type}:Option α->(α->Prop)->Prop
 | some a,Q=>Q a
 | none,_=>False
def opV (o:Option (D×Bool)) (Q:Vl->Prop):Prop:=opt o fun p=>Q (ofB p)
def optS:Option (List Slot)->(List Slot->Prop)->Prop:=opt
def tst:Bool->Prop->Prop->Prop
 | true,T,_=>T
 | false,_,F=>F
def isB:D->(Bool->Prop)->Prop
 | .bl b,Q=>Q b
 | _,_=>False
def isF:D->(Nat->Prop)->Prop
 | .fn f,Q=>Q f
 | _,_=>False
def isZ:D->(Int->Prop)->Prop
 | .int i,Q=>Q i
 | _,_=>False
def keep:Vl->(D->Prop)->Prop
 | (d,.st),Q=>Q d
 | (d,.fr),Q=>Q d
 | _,_=>False
def sel:Option Slot->(D->Prop)->(D->Prop)->Prop
 | some (.sh d),Q,_=>Q d
 | some (.ow d),_,Q=>Q d
 | _,_,_=>False
def rdV (s:Option Slot) (Q:Vl->Prop):Prop:=sel s (fun d=>Q (d,.st)) (fun d=>Q (d,.bo))
def boxd:Vl->(D->Prop)->Prop
 | (d,.fr),Q=>Q d
 | _,_=>False
def xu (step:D->(Option D->Store->Prop)->Store->Prop):List D->List D->(List D->Store->Prop)->Store->Prop
 | [],acc,V,S=>V acc S
 | d::ds,acc,V,S=>step d (fun o S1=>match o with
  | some x=>tst (fits (acc.length+1)) (xu step ds (acc++[x]) V S1) False
  | none=>xu step ds acc V S1) S
noncomputable def inn (ρ:List Slot) (t:T) (js:List Nat):List Slot:=Κ (nT t) .no++js.map fun j=>(ρ[j]?).getD .no
noncomputable def dicV (tk:Bool) (ks:List Key) (ds:List D):D:=if tk=true then .dT [] [] else .dK ks ds
def isR:D->(Nat->Prop)->Prop
 | .ref n,Q=>Q n
 | _,_=>False
def isDT:Option D->(List (List Key)->List D->Prop)->Prop
 | some (.dT ks ds),Q=>Q ks ds
 | _,_=>False
def owT:Option Slot->(List (List Key)->List D->Prop)->Prop
 | some (.ow (.dT ks ds)),Q=>Q ks ds
 | _,_=>False
theorem zdS {s:Option Slot}{Q:List (List Key)->List D->Prop}(h:owT s Q):∃ ks ds,s=some (.ow (.dT ks ds))/\Q ks ds:=by
 unfold owT at h;split at h
 ·exact ⟨_,_,rfl,h⟩
 ·exact h.elim
theorem zfM {s:Option D}{Q:List (List Key)->List D->Prop}(h:isDT s Q):∃ ks ds,s=some (.dT ks ds)/\Q ks ds:=by
 cases s with
 | none=>exact h.elim
 | some s=>
  cases s with
  | dT ks ds=>exact ⟨ks,ds,rfl,h⟩
  | _=>exact h.elim
theorem ziB {s:Option D}{ks:List (List Key)}{ds:List D}{Q:List (List Key)->List D->Prop}(h:s=some (.dT ks ds)) (q:Q ks ds):isDT s Q:=by subst h;exact q
mutual
def wpE (cf:Cf) (ρ:List Slot):E->Po->Store->Prop
 | .var i,V,S=>rdV ρ[i]? fun x=>V x S
 | .con d,V,S=>V (d,.st) S
 | .glo _ d,V,S=>V (d,.st) S
 | .bin op a b,V,S=>wpE cf ρ a (fun x S1=>wpE cf ρ b (fun y S2=>opV (opD op (zH S2 x.1) (zH S2 y.1)) fun x=>V x S2) S1) S
 | .neg a,V,S=>wpE cf ρ a (fun x S1=>isZ x.1 fun i=>V (.int (-i),.st) S1) S
 | .cmp op a b,V,S=>wpE cf ρ a (fun x S1=>wpE cf ρ b (fun y S2=>opt (cmpD op (zH S2 x.1) (zH S2 y.1)) fun r=>V (.bl r,.st) S2) S1) S
 | .chn o1 o2 a b c,V,S=>wpE cf ρ a (fun x S1=>wpE cf ρ b (fun y S2=>opt (cmpD o1 (zH S2 x.1) (zH S2 y.1)) fun r=>tst r (wpE cf ρ c (fun z S3=>opt (cmpD o2 (zH S3 y.1) (zH S3 z.1)) fun r=>V (.bl r,.st) S3) S2) (V (.bl false,.st) S2)) S1) S
 | .not a,V,S=>wpE cf ρ a (fun x S1=>isB x.1 fun b=>V (.bl (!b),.st) S1) S
 | .and a b,V,S=>wpE cf ρ a (fun x S1=>isB x.1 fun r=>tst r (wpE cf ρ b V S1) (V (.bl false,.st) S1)) S
 | .or a b,V,S=>wpE cf ρ a (fun x S1=>isB x.1 fun r=>tst r (V (.bl true,.st) S1) (wpE cf ρ b V S1)) S
 | .ite c a b,V,S=>wpE cf ρ c (fun x S1=>isB x.1 fun r=>tst r (wpE cf ρ a V S1) (wpE cf ρ b V S1)) S
 | .tup es,V,S=>wpEs cf ρ es (fun ds S1=>tst (fits ds.length) (V (.tup ds,.st) S1) False) S
 | .lst es,V,S=>wpEs cf ρ es (fun ds S1=>tst (fits ds.length) (V (.lst ds,.fr) S1) False) S
 | .dic tk ks es,V,S=>wpEs cf ρ es (fun ds S1=>tst (zdd tk ks ds) (V (dicV tk ks ds,.fr) S1) False) S
 | .sub a i,V,S=>wpE cf ρ a (fun x S1=>wpE cf ρ i (fun y S2=>opt (subD (zH S2 x.1) y.1) fun d=>V (d,.st) S2) S1) S
 | .slc a lo hi,V,S=>wpE cf ρ a (fun x S1=>wpO cf ρ lo (fun l S2=>wpO cf ρ hi (fun h S3=>opV (slcD (zH S3 x.1) l h) fun x=>V x S3) S2) S1) S
 | .bi b [e],V,S=>wpE cf ρ e (fun x S1=>opV (biD b [zH S1 x.1]) fun x=>V x S1) S
 | .bi b es,V,S=>wpEs cf ρ es (fun ds S1=>opV (biD b (ds.map (zH S1))) fun x=>V x S1) S
 | .mth m o es,V,S=>wpE cf ρ o (fun x S1=>tst (mthK m (zH S1 x.1)) (wpEs cf ρ es (fun ds S2=>opV (mthD m (zH S2 x.1) ds) fun x=>V x S2) S1) False) S
 | .call f es,V,S=>wpEs cf ρ es (fun ds S1=>cf f ds V S1) S
 | .callk f perm es,V,S=>wpEs cf ρ es (fun ds S1=>opt (perm.mapM fun i=>ds[i]?) fun ds=>cf f ds V S1) S
 | .comp t js it ifs elt,V,S=>wpI cf ρ it (fun its S1=>xu (fun d K S=>optS (yD (inn ρ t js) t (d,false)) fun ρ'=>wpF cf ρ' ifs (fun b S1=>tst b (wpE cf ρ' elt (fun x S2=>keep x fun d=>K (some d) S2) S1) (K none S1)) S) its [] (fun ds S2=>V (.lst ds,.fr) S2) S1) S
 | .box e,V,S=>wpE cf ρ e (fun x S1=>boxd x fun d=>V (.ref S1.length,.st) (S1++[d])) S
 | .callv i es,V,S=>rdV ρ[i]? fun x=>isF x.1 fun f=>wpEs cf ρ es (fun ds S1=>cf f ds V S1) S
 | .one e,V,S=>wpE cf ρ e V S
 | .dk1 a b,V,S=>wpE cf ρ a (fun x S1=>keep x fun d=>wpE cf ρ b (fun y S2=>keep y fun e=>opt (dk1D [d,e]) fun r=>V (r,.fr) S2) S1) S
 | .flip e,V,S=>wpE cf ρ e (fun x S1=>opV (ziV (zH S1 x.1)) fun x=>V x S1) S
 | _,_,_=>False
def wpEs (cf:Cf) (ρ:List Slot):List E->(List D->Store->Prop)->Store->Prop
 | [],W,S=>W [] S
 | e::es,W,S=>wpE cf ρ e (fun x S1=>keep x fun d=>wpEs cf ρ es (fun ds S2=>W (d::ds) S2) S1) S
def wpO (cf:Cf) (ρ:List Slot):Option E->(Option Int->Store->Prop)->Store->Prop
 | none,W,S=>W none S
 | some e,W,S=>wpE cf ρ e (fun x S1=>isZ x.1 fun i=>W (some i) S1) S
def wpF (cf:Cf) (ρ:List Slot):List E->(Bool->Store->Prop)->Store->Prop
 | [],W,S=>W true S
 | [e],W,S=>wpE cf ρ e (fun x S1=>isB x.1 fun b=>W b S1) S
 | _,_,_=>False
def wpI (cf:Cf) (ρ:List Slot):E->(List D->Store->Prop)->Store->Prop
 | .dwn es,W,S=>wpEs cf ρ es (fun ds S1=>opt (dwnD ds) fun l=>W l S1) S
 | .rev hi,W,S=>wpE cf ρ hi (fun x S1=>isZ x.1 fun h=>tst (fits h.toNat&&decide (-1000000<=h)) (W (zV 0 h).reverse S1) False) S
 | .rng none hi,W,S=>wpE cf ρ hi (fun x S1=>isZ x.1 fun h=>tst (fits h.toNat&&decide (-1000000<=h)) (W (zV 0 h) S1) False) S
 | .rng (some lo) hi,W,S=>wpE cf ρ lo (fun y S1=>wpE cf ρ hi (fun x S2=>isZ y.1 fun l=>isZ x.1 fun h=>tst (fits (h - l).toNat&&decide (-1000000<=h)&&decide (-1000000<=l)&&decide (h<=1000000)&&decide (l<=1000000)) (W (zV l h) S2) False) S1) S
 | .enum e,W,S=>wpE cf ρ e (fun x S1=>keep x fun d=>opt (zkN d) fun l=>W (uT 0 l) S1) S
 | .seq e,W,S=>wpE cf ρ e (fun x S1=>keep x fun d=>opt (itrD d) fun l=>W l S1) S
 | .items e,W,S=>wpE cf ρ e (fun x S1=>keep x fun r=>isR r fun k=>isDT S1[k]? fun ks ds=>W (zd1 ks ds) (S1.set k (.ref k))) S
 | _,_,_=>False
end
def wpX (cf:Cf) (ρ:List Slot) (e:E) (V:Po) (S:Store):Prop:=wpE cf ρ e V S
noncomputable def Zg (ρ:List Slot) (t:T):Vl->Option (List Slot)
 | (d,.st)=>yD ρ t (d,false)
 | (d,.fr)=>yD ρ t (d,true)
 | _=>none
def retV:Vl->(O->Prop)->Prop
 | (d,.st),K=>K (.ret d false)
 | (d,.fr),K=>K (.ret d true)
 | _,_=>False
def owL:Option Slot->(List D->Prop)->Prop
 | some (.ow (.lst l)),Q=>Q l
 | _,_=>False
def owD:Option Slot->(D->Prop)->Prop
 | some (.ow d),Q=>Q d
 | _,_=>False
def frW:Option Slot->Store->(Nat->List D->Prop)->Prop
  | some (.sh (.ref k)),S,Q=>(match S[k]? with
    | some (.lst l)=>Q k l
    | _=>False)
  | _,_,_=>False
set_option tactic.hygienic true in
theorem zd7 {s:Option Slot}{S:Store}{Q:Nat->List D->Prop}(h:frW s S Q):∃ k l,s=some (.sh (.ref k))/\S[k]?=some (.lst l)/\Q k l:=by
 unfold frW at h;split at h
 ·split at h
  ·rename_i e;exact ⟨_,_,rfl,e,h⟩
  ·exact h.elim
 ·exact h.elim
theorem ziR {k:Nat}{l:List D}{S:Store}{Q:Nat->List D->Prop}(h:S[k]?=some (.lst l)) (q:Q k l):frW (some (.sh (.ref k))) S Q:=by
  show (match S[k]? with
    | some (.lst l)=>Q k l
    | _=>False)
  rw [h];exact q
def isL:Option D->(List D->Prop)->Prop
 | some (.lst l),Q=>Q l
 | _,_=>False
noncomputable def fz:Slot->Slot
 | .ow d=>.sh d
 | s=>s
abbrev Ko:=O->Store->Prop
def nxt (f:List Slot->Store->Prop) (K:Ko):Ko
 | .next ρ,S=>f ρ S
 | o,S=>K o S
def trn (K:Ko) (I:List Slot->Store->Prop):Ko
 | .next ρ,S=>I ρ S
 | .cnt ρ,S=>I ρ S
 | .brk ρ,S=>K (.next ρ) S
 | .ret d fr,S=>K (.ret d fr) S
def forW (t:T) (b:List Slot->Ko->Store->Prop):List D->List Slot->Ko->Store->Prop
 | [],ρ,K,S=>K (.next ρ) S
 | d::l,ρ,K,S=>optS (yD ρ t (d,false)) fun ρ1=>b ρ1 (trn K fun ρ' S'=>forW t b l ρ' K S') S
def whlW (c:List Slot->Po->Store->Prop) (b:List Slot->Ko->Store->Prop):Nat->List Slot->Ko->Store->Prop
 | 0,_,_,_=>False
 | n+1,ρ,K,S=>c ρ (fun x S1=>isB x.1 fun r=>tst r (b ρ (trn K fun ρ' S'=>whlW c b n ρ' K S') S1) (K (.next ρ) S1)) S
abbrev Xp:=Nat->Store->Prop
noncomputable def noX:Xp:=fun _ _=>False
noncomputable def subT (tb:List (List Nat)) (c k:Nat):Bool:=match tb[c]? with
 | some l=>l.contains k
 | none=>false
mutual
def wpC (cx:Xp->Cf) (ex:Xp) (w:Nat):C->List Slot->Ko->Store->Prop
 | .set t (.box e),ρ,K,S=>wpE (cx noX) ρ e (fun x S1=>boxd x fun d=>optS (yD ρ t (.ref S1.length,false)) fun ρ2=>K (.next ρ2) (S1++[d])) S
 | .set t e,ρ,K,S=>wpE (cx noX) ρ e (fun x S1=>optS (Zg ρ t x) fun ρ2=>K (.next ρ2) S1) S
 | .expr e,ρ,K,S=>wpE (cx noX) ρ e (fun _ S1=>K (.next ρ) S1) S
 | .ret (.var i),ρ,K,S=>sel ρ[i]? (fun d=>K (.ret d false) S) (fun d=>K (.ret d true) S)
 | .ret e,ρ,K,S=>wpE (cx noX) ρ e (fun x S1=>retV x fun o=>K o S1) S
 | .retN,ρ,K,S=>K (.ret .non false) S
 | .ite e A B,ρ,K,S=>wpE (cx noX) ρ e (fun x S1=>isB x.1 fun b=>tst b (wpCs cx ex w A ρ K S1) (wpCs cx ex w B ρ K S1)) S
 | .whl e A,ρ,K,S=>whlW (fun ρ=>wpX (cx noX) ρ e) (fun ρ=>wpCs cx ex w A ρ) w ρ K S
 | .forr t it A,ρ,K,S=>wpI (cx noX) ρ it (fun l S1=>forW t (fun ρ=>wpCs cx ex w A ρ) l ρ K S1) S
 | .app i e,ρ,K,S=>owL ρ[i]? fun l=>wpE (cx noX) ρ e (fun x S1=>keep x fun d=>tst (fits (l.length+1)) (K (.next (ρ.set i (.ow (.lst (l++[d]))))) S1) False) S
 | .ext i e,ρ,K,S=>owL ρ[i]? fun l=>wpE (cx noX) ρ e (fun x S1=>keep x fun d=>opt (extD d) fun m=>tst (fits (l.length+m.length)) (K (.next (ρ.set i (.ow (.lst (l++m))))) S1) False) S
 | .stv i k v,ρ,K,S=>owD ρ[i]? fun c=>wpE (cx noX) ρ v (fun x S1=>keep x fun d=>wpE (cx noX) ρ k (fun y S2=>keep y fun e=>opt (putD c e d) fun c'=>K (.next (ρ.set i (.ow c'))) S2) S1) S
 | .sti o k v,ρ,K,S=>wpE (cx noX) ρ v (fun x S1=>keep x fun d=>wpE (cx noX) ρ o (fun z S2=>keep z fun r=>wpE (cx noX) ρ k (fun y S3=>keep y fun e=>isR r fun n=>opt S3[n]? fun c=>opt (putD c e d) fun c'=>K (.next ρ) (S3.set n c')) S2) S1) S
 | .pop i,ρ,K,S=>owL ρ[i]? fun l=>tst (!l.isEmpty) (K (.next (ρ.set i (.ow (.lst l.dropLast)))) S) False
 | .appR o e,ρ,K,S=>wpE (cx noX) ρ o (fun z S1=>keep z fun r=>isR r fun n=>tst (zkD S1[n]?) (wpE (cx noX) ρ e (fun x S2=>keep x fun d=>isL S2[n]? fun l=>tst (fits (l.length+1)) (K (.next ρ) (S2.set n (.lst (l++[d])))) False) S1) False) S
 | .popO t i,ρ,K,S=>owL ρ[i]? fun l=>opt l.getLast? fun d=>optS (yD (ρ.set i (.ow (.lst l.dropLast))) t (d,false)) fun ρ2=>K (.next ρ2) S
 | .popR t o,ρ,K,S=>wpE (cx noX) ρ o (fun z S1=>keep z fun r=>isR r fun n=>isL S1[n]? fun l=>opt l.getLast? fun d=>optS (yD ρ t (d,false)) fun ρ2=>K (.next ρ2) (S1.set n (.lst l.dropLast))) S
 | .pass,ρ,K,S=>K (.next ρ) S
 | .brk,ρ,K,S=>K (.brk ρ) S
 | .cnt,ρ,K,S=>K (.cnt ρ) S
 | .frz i,ρ,K,S=>K (.next (ρ.set i (fz ((ρ[i]?).getD .no)))) S
 | .frk i,ρ,K,S=>owT ρ[i]? fun ks ds=>K (.next (ρ.set i (.sh (.dF ks ds)))) S
 | .sta _ _ _ _,_,_,_=>False
 | .aua _ _ _ _ _,_,_,_=>False
 | .lin i es,ρ,K,S=>owL ρ[i]? fun l=>wpEs (cx noX) ρ es (fun ds S1=>opt (insD l ds) fun m=>K (.next (ρ.set i (.ow (.lst m)))) S1) S
 | .rse c,_,_,S=>ex c S
 | .tri _ _ _ _ _ _,_,_,_=>False
 | .frr i,ρ,K,S=>frW ρ[i]? S fun k l=>K (.next (ρ.set i (.sh (.lst l)))) (S.set k (.ref k))
def wpCs (cx:Xp->Cf) (ex:Xp) (w:Nat):List C->List Slot->Ko->Store->Prop
 | [],ρ,K,S=>K (.next ρ) S
 | c::cs,ρ,K,S=>wpC cx ex w c ρ (nxt (fun ρ' S'=>wpCs cx ex w cs ρ' K S') K) S
end
def told (V:Po):Ko
 | .ret d fr,S=>V (d,kd fr) S
 | .next _,S=>V (.non,.st) S
 | _,_=>False
def za (F:Nat->Option Fn) (w:Nat):Nat->Xp->Cf
 | 0=>fun _ _ _ _ _=>False
 | k+1=>fun ex f ds V S=>opt (F f) fun fn=>ds.length=fn.np/\wpCs (za F w k) ex w fn.body (entry fn ds) (told V) S
abbrev qI (F:Nat->Option Fn) (w k:Nat):Cf:=za F w k noX
section
theorem zm {α:Type}{o:Option α}{P Q:α->Prop}(h:∀ a,P a->Q a):opt o P->opt o Q:=by
 cases o with
 | some a=>exact h a
 | none=>exact id
theorem zJ {b:Bool}{P P' Q Q':Prop}(h:P->P') (k:Q->Q'):tst b P Q->tst b P' Q':=by
 cases b with
 | true=>exact h
 | false=>exact k
theorem xq {d:D}{P Q:Bool->Prop}(h:∀ a,P a->Q a):isB d P->isB d Q:=by cases d <;> first | exact h _ | exact id
theorem JQ {d:D}{P Q:Nat->Prop}(h:∀ a,P a->Q a):isF d P->isF d Q:=by cases d <;> first | exact h _ | exact id
theorem vp {d:D}{P Q:Int->Prop}(h:∀ a,P a->Q a):isZ d P->isZ d Q:=by cases d <;> first | exact h _ | exact id
theorem zN {x:Vl}{P Q:D->Prop}(h:∀ a,P a->Q a):keep x P->keep x Q:=by obtain ⟨d,k⟩:=x;cases k <;> first | exact h _ | exact id
theorem W9 {x:Vl}{P Q:D->Prop}(h:∀ a,P a->Q a):boxd x P->boxd x Q:=by obtain ⟨d,k⟩:=x;cases k <;> first | exact h _ | exact id
theorem Ym {s:Option Slot}{P P' Q Q':D->Prop}(h:∀ a,P a->P' a) (k:∀ a,Q a->Q' a):sel s P Q->sel s P' Q':=by
 cases s with
 | none=>exact id
 | some s=>cases s <;> first | exact h _ | exact k _ | exact id
theorem jT {s:D->(Option D->Store->Prop)->Store->Prop}(hs:∀ d K K' S,(∀ o S,K o S->K' o S)->s d K S->s d K' S):∀ {l acc:List D}{V V':List D->Store->Prop}{S:Store},(∀ a S,V a S->V' a S)->xu s l acc V S->xu s l acc V' S
 | [],_,_,_,_,h=>h _ _
 | d::l,acc,V,V',S,h=>hs d _ _ S fun o S1=>by
  cases o with
  | some x=>exact zJ (jT hs h) id
  | none=>exact jT hs h
def Mono (cf:Cf):Prop:=∀ f ds (V V':Po) S,(∀ x S,V x S->V' x S)->cf f ds V S->cf f ds V' S
variable {cf:Cf}
theorem jM {s:D}{P Q:Nat->Prop}(h:∀ a,P a->Q a):isR s P->isR s Q:=by cases s <;> first | exact h _ | exact id
theorem zcI {s:Option Slot}{P Q:List (List Key)->List D->Prop}(h:∀ a b,P a b->Q a b) (p:owT s P):owT s Q:=by obtain ⟨ks,ds,rfl,q⟩:=zdS p;exact h _ _ q
theorem za6 {s:Option D}{P Q:List (List Key)->List D->Prop}(h:∀ a b,P a b->Q a b) (p:isDT s P):isDT s Q:=by obtain ⟨ks,ds,e,q⟩:=zfM p;exact ziB e (h _ _ q)
mutual
theorem zb (hc:Mono cf):∀ (e:E) {ρ:List Slot}{V V':Po}{S:Store},(∀ x S,V x S->V' x S)->wpE cf ρ e V S->wpE cf ρ e V' S
 | .var i,_,_,_,_,h,k=>Ym (fun _=>h _ _) (fun _=>h _ _) k
 | .con d,_,_,_,_,h,k=>h _ _ k
 | .glo _ d,_,_,_,_,h,k=>h _ _ k
 | .bin op a b,_,_,_,_,h,k=>zb hc a (fun _ _=>zb hc b fun _ _=>zm fun _=>h _ _) k
 | .neg a,_,_,_,_,h,k=>zb hc a (fun _ _=>vp fun _=>h _ _) k
 | .cmp op a b,_,_,_,_,h,k=>zb hc a (fun _ _=>zb hc b fun _ _=>zm fun _=>h _ _) k
 | .chn o1 o2 a b c,_,_,_,_,h,k=>zb hc a (fun _ _=>zb hc b fun _ _=>zm fun _=>zJ (zb hc c fun _ _=>zm fun _=>h _ _) (h _ _)) k
 | .not a,_,_,_,_,h,k=>zb hc a (fun _ _=>xq fun _=>h _ _) k
 | .and a b,_,_,_,_,h,k=>zb hc a (fun _ _=>xq fun _=>zJ (zb hc b h) (h _ _)) k
 | .or a b,_,_,_,_,h,k=>zb hc a (fun _ _=>xq fun _=>zJ (h _ _) (zb hc b h)) k
 | .ite c a b,_,_,_,_,h,k=>zb hc c (fun _ _=>xq fun _=>zJ (zb hc a h) (zb hc b h)) k
 | .tup es,_,_,_,_,h,k=>zR hc es (fun _ _=>zJ (h _ _) id) k
 | .lst es,_,_,_,_,h,k=>zR hc es (fun _ _=>zJ (h _ _) id) k
 | .dic _ _ es,_,_,_,_,h,k=>zR hc es (fun _ _=>zJ (h _ _) id) k
 | .sub a b,_,_,_,_,h,k=>zb hc a (fun _ _=>zb hc b fun _ _=>zm fun _=>h _ _) k
 | .slc a l u,_,_,_,_,h,k=>zb hc a (fun _ _=>U3 hc l fun _ _=>U3 hc u fun _ _=>zm fun _=>h _ _) k
 | .bi b [],_,_,_,_,h,k=>zR hc [] (fun _ _=>zm fun _=>h _ _) k
 | .bi b [e],_,_,_,_,h,k=>zb hc e (fun _ _=>zm fun _=>h _ _) k
 | .bi b (e::f::es),_,_,_,_,h,k=>zR hc (e::f::es) (fun _ _=>zm fun _=>h _ _) k
 | .mth m o es,_,_,_,_,h,k=>zb hc o (fun _ _=>zJ (zR hc es fun _ _=>zm fun _=>h _ _) id) k
 | .call f es,_,_,_,_,h,k=>zR hc es (fun _ _=>hc _ _ _ _ _ h) k
 | .callk f p es,_,_,_,_,h,k=>zR hc es (fun _ _=>zm fun _=>hc _ _ _ _ _ h) k
 | .comp t js it ifs elt,ρ,V,V',S,h,k=>by
  refine U4 hc it (fun its S1 q=>?_) k;refine jT ?_ ?_ q
  ·intro d K K' S q;exact zm fun ρ'=>zbZ hc ifs fun b S1=>zJ (zb hc elt fun x S2=>zN fun d=>q _ _) (q _ _)
  ·exact fun ds S2=>h _ _
 | .box e,_,_,_,_,h,k=>zb hc e (fun _ _=>W9 fun _=>h _ _) k
 | .one e,_,_,_,_,h,k=>zb hc e h k
 | .flip e,_,_,_,_,h,k=>zb hc e (fun _ _=>zm fun _=>h _ _) k
 | .dk1 a b,_,_,_,_,h,k=>zb hc a (fun _ _=>zN fun _=>zb hc b fun _ _=>zN fun _=>zm fun _=>h _ _) k
 | .callv i es,_,_,_,_,h,k=>Ym (fun _=>JQ fun _=>zR hc es fun _ _=>hc _ _ _ _ _ h) (fun _=>JQ fun _=>zR hc es fun _ _=>hc _ _ _ _ _ h) k
 | .att _ _ _,_,_,_,_,_,k=>k
 | .met _ _ _ _,_,_,_,_,_,k=>k
 | .mk _ _ _,_,_,_,_,_,k=>k
 | .seq _,_,_,_,_,_,k=>k
 | .rng _ _,_,_,_,_,_,k=>k
 | .enum _,_,_,_,_,_,k=>k
 | .zip _ _,_,_,_,_,_,k=>k
 | .rev _,_,_,_,_,_,k=>k
 | .dwn _,_,_,_,_,_,k=>k
 | .items _,_,_,_,_,_,k=>k
theorem zR (hc:Mono cf):∀ (es:List E) {ρ:List Slot}{V V':List D->Store->Prop}{S:Store},(∀ x S,V x S->V' x S)->wpEs cf ρ es V S->wpEs cf ρ es V' S
 | [],_,_,_,_,h,k=>h _ _ k
 | e::es,_,_,_,_,h,k=>zb hc e (fun _ _=>zN fun _=>zR hc es fun _ _=>h _ _) k
theorem U3 (hc:Mono cf):∀ (o:Option E) {ρ:List Slot}{V V':Option Int->Store->Prop}{S:Store},(∀ x S,V x S->V' x S)->wpO cf ρ o V S->wpO cf ρ o V' S
 | none,_,_,_,_,h,k=>h _ _ k
 | some e,_,_,_,_,h,k=>zb hc e (fun _ _=>vp fun _=>h _ _) k
theorem zbZ (hc:Mono cf):∀ (es:List E) {ρ:List Slot}{V V':Bool->Store->Prop}{S:Store},(∀ x S,V x S->V' x S)->wpF cf ρ es V S->wpF cf ρ es V' S
 | [],_,_,_,_,h,k=>h _ _ k
 | [e],_,_,_,_,h,k=>zb hc e (fun _ _=>xq fun _=>h _ _) k
 | _::_::_,_,_,_,_,_,k=>k
theorem U4 (hc:Mono cf):∀ (e:E) {ρ:List Slot}{V V':List D->Store->Prop}{S:Store},(∀ x S,V x S->V' x S)->wpI cf ρ e V S->wpI cf ρ e V' S
 | .rng none e,_,_,_,_,h,k=>zb hc e (fun _ _=>vp fun _=>zJ (h _ _) id) k
 | .rng (some a) e,_,_,_,_,h,k=>zb hc a (fun _ _=>zb hc e fun _ _=>vp fun _=>vp fun _=>zJ (h _ _) id) k
 | .enum e,_,_,_,_,h,k=>zb hc e (fun _ _=>zN fun _=>zm fun _=>h _ _) k
 | .seq e,_,_,_,_,h,k=>zb hc e (fun _ _=>zN fun _=>zm fun _=>h _ _) k
 | .var _,_,_,_,_,_,k=>k
 | .con _,_,_,_,_,_,k=>k
 | .glo _ _,_,_,_,_,_,k=>k
 | .bin _ _ _,_,_,_,_,_,k=>k
 | .neg _,_,_,_,_,_,k=>k
 | .cmp _ _ _,_,_,_,_,_,k=>k
 | .chn _ _ _ _ _,_,_,_,_,_,k=>k
 | .not _,_,_,_,_,_,k=>k
 | .and _ _,_,_,_,_,_,k=>k
 | .or _ _,_,_,_,_,_,k=>k
 | .ite _ _ _,_,_,_,_,_,k=>k
 | .tup _,_,_,_,_,_,k=>k
 | .lst _,_,_,_,_,_,k=>k
 | .dic _ _ _,_,_,_,_,_,k=>k
 | .sub _ _,_,_,_,_,_,k=>k
 | .slc _ _ _,_,_,_,_,_,k=>k
 | .bi _ _,_,_,_,_,_,k=>k
 | .mth _ _ _,_,_,_,_,_,k=>k
 | .call _ _,_,_,_,_,_,k=>k
 | .callk _ _ _,_,_,_,_,_,k=>k
 | .callv _ _,_,_,_,_,_,k=>k
 | .comp _ _ _ _ _,_,_,_,_,_,k=>k
 | .box _,_,_,_,_,_,k=>k
 | .one _,_,_,_,_,_,k=>k
 | .flip _,_,_,_,_,_,k=>k
 | .dk1 _ _,_,_,_,_,_,k=>k
 | .att _ _ _,_,_,_,_,_,k=>k
 | .met _ _ _ _,_,_,_,_,_,k=>k
 | .mk _ _ _,_,_,_,_,_,k=>k
 | .zip _ _,_,_,_,_,_,k=>k
 | .dwn es,_,_,_,_,h,k=>zR hc es (fun _ _=>zm fun _=>h _ _) k
 | .rev e,_,_,_,_,h,k=>zb hc e (fun _ _=>vp fun _=>zJ (h _ _) id) k
 | .keys _,_,_,_,_,_,k=>k
 | .items e,_,_,_,_,h,k=>zb hc e (fun _ _=>zN fun _=>jM fun _=>za6 fun _ _=>h _ _) k
end
theorem zc5 {s:Option Slot}{S:Store}{P Q:Nat->List D->Prop}(h:∀ k l,P k l->Q k l) (p:frW s S P):frW s S Q:=by obtain ⟨k,l,rfl,e,q⟩:=zd7 p;exact ziR e (h k l q)
theorem uq {s:Option Slot}{P Q:List D->Prop}(h:∀ a,P a->Q a):owL s P->owL s Q:=by
 cases s with
 | none=>exact id
 | some s=>
  cases s with
  | ow d=>cases d <;> first | exact h _ | exact id
  | _=>exact id
theorem zcJ {s:Option Slot}{P Q:D->Prop}(h:∀ a,P a->Q a):owD s P->owD s Q:=by
 cases s with
 | none=>exact id
 | some s=>cases s <;> first | exact h _ | exact id
theorem JP {s:Option D}{P Q:List D->Prop}(h:∀ a,P a->Q a):isL s P->isL s Q:=by
 cases s with
 | none=>exact id
 | some s=>cases s <;> first | exact h _ | exact id
theorem zaf {x:Vl}{P Q:O->Prop}(h:∀ a,P a->Q a):retV x P->retV x Q:=by obtain ⟨d,k⟩:=x;cases k <;> first | exact h _ | exact id
theorem zcP {f f':List Slot->Store->Prop}{K K':Ko}(h:∀ ρ S,f ρ S->f' ρ S) (k:∀ o S,K o S->K' o S):∀ o S,nxt f K o S->nxt f' K' o S:=by intro o S;cases o <;> first | exact h _ _ | exact k _ _
theorem jA {f f':List Slot->Store->Prop}{K K':Ko}(h:∀ ρ S,f ρ S->f' ρ S) (k:∀ o S,K o S->K' o S):∀ o S,trn K f o S->trn K' f' o S:=by intro o S;cases o <;> first | exact h _ _ | exact k _ _
theorem WN {t:T}{b b':List Slot->Ko->Store->Prop}(hb:∀ ρ (V V':Ko) S,(∀ x S,V x S->V' x S)->b ρ V S->b' ρ V' S) {K K':Ko}(k:∀ o S,K o S->K' o S):∀ {l:List D}{ρ:List Slot}{S:Store},forW t b l ρ K S->forW t b' l ρ K' S
 | [],_,_,h=>k _ _ h
 | d::l,_,_,h=>zm (fun _=>hb _ _ _ _ (jA (fun _ _=>WN hb k) k)) h
theorem Xl {c:List Slot->Po->Store->Prop}{b b':List Slot->Ko->Store->Prop}(hc:∀ ρ (V V':Po) S,(∀ x S,V x S->V' x S)->c ρ V S->c ρ V' S) (hb:∀ ρ (V V':Ko) S,(∀ x S,V x S->V' x S)->b ρ V S->b' ρ V' S) {K K':Ko}(k:∀ o S,K o S->K' o S):∀ {n:Nat}{ρ:List Slot}{S:Store},whlW c b n ρ K S->whlW c b' n ρ K' S
 | 0,_,_,h=>h
 | n+1,_,_,h=>hc _ _ _ _ (fun _ _=>xq fun _=>zJ (hb _ _ _ _ (jA (fun _ _=>Xl hc hb k) k)) (k _ _)) h
variable {w:Nat}
def Vm (cx:Xp->Cf):Prop:=∀ ex ex' f ds V V' S,(∀ c S,ex c S->ex' c S)->(∀ x S,V x S->V' x S)->cx ex f ds V S->cx ex' f ds V' S
theorem Vm.no {cx:Xp->Cf}(h:Vm cx) {ex:Xp}:Mono (cx ex):=fun f ds V V' S q k=>h ex ex f ds V V' S (fun _ _=>id) q k
section
variable {cx:Xp->Cf}{w:Nat}
theorem zcn (hc:Vm cx) (e:E) {ex ex':Xp}{ρ:List Slot}{K K':Ko}{S:Store}(h:∀ o S,K o S->K' o S) (k:wpC cx ex w (.ret e) ρ K S):wpC cx ex' w (.ret e) ρ K' S:=by cases e <;> first | exact Ym (fun _=>h _ _) (fun _=>h _ _) k | exact zb hc.no _ (fun _ _=>zaf fun _=>h _ _) k
theorem zcl (hc:Vm cx) (t:T) (e:E) {ex ex':Xp}{ρ:List Slot}{K K':Ko}{S:Store}(h:∀ o S,K o S->K' o S) (k:wpC cx ex w (.set t e) ρ K S):wpC cx ex' w (.set t e) ρ K' S:=by cases e <;> first | exact zb hc.no _ (fun _ _=>zm fun _=>h _ _) k | exact zb hc.no _ (fun _ _=>W9 fun _=>zm fun _=>h _ _) k
mutual
theorem zb0 (hc:Vm cx):∀ (c:C) {ex ex':Xp}{ρ:List Slot}{K K':Ko}{S:Store},(∀ c S,ex c S->ex' c S)->(∀ o S,K o S->K' o S)->wpC cx ex w c ρ K S->wpC cx ex' w c ρ K' S
 | .set t e,_,_,_,_,_,_,x,h,k=>zcl hc t e h (ex:=_) (ex':=_) k
 | .expr e,_,_,_,_,_,_,x,h,k=>zb hc.no e (fun _ _=>h _ _) k
 | .ret e,_,_,_,_,_,_,x,h,k=>zcn hc e h (ex:=_) (ex':=_) k
 | .retN,_,_,_,_,_,_,x,h,k=>h _ _ k
 | .ite e A B,_,_,_,_,_,_,x,h,k=>zb hc.no e (fun _ _=>xq fun _=>zJ (yC hc A x h) (yC hc B x h)) k
 | .whl e A,ex,ex',ρ,K,K',S,x,h,k=>by
  have k:whlW (fun ρ=>wpE (cx noX) ρ e) (fun ρ=>wpCs cx ex w A ρ) w ρ K S:=k;refine Xl ?_ ?_ h k
  ·exact fun ρ V V' S q=>zb hc.no e q
  ·exact fun ρ V V' S q=>yC hc A x q
 | .forr t it A,ex,ex',ρ,K,K',S,x,h,k=>by refine U4 hc.no it (fun l S1 q=>?_) k;refine WN ?_ h q;exact fun ρ V V' S q=>yC hc A x q
 | .app i e,_,_,_,_,_,_,x,h,k=>uq (fun _=>zb hc.no e fun _ _=>zN fun _=>zJ (h _ _) id) k
 | .ext i e,_,_,_,_,_,_,x,h,k=>uq (fun _=>zb hc.no e fun _ _=>zN fun _=>zm fun _=>zJ (h _ _) id) k
 | .stv i a v,_,_,_,_,_,_,x,h,k=>zcJ (fun _=>zb hc.no v fun _ _=>zN fun _=>zb hc.no a fun _ _=>zN fun _=>zm fun _=>h _ _) k
 | .sti o a v,_,_,_,_,_,_,x,h,k=>zb hc.no v (fun _ _=>zN fun _=>zb hc.no o fun _ _=>zN fun _=>zb hc.no a fun _ _=>zN fun _=>jM fun _=>zm fun _=>zm fun _=>h _ _) k
 | .pop i,_,_,_,_,_,_,x,h,k=>uq (fun _=>zJ (h _ _) id) k
 | .appR o e,_,_,_,_,_,_,x,h,k=>zb hc.no o (fun _ _=>zN fun _=>jM fun _=>zJ (zb hc.no e fun _ _=>zN fun _=>JP fun _=>zJ (h _ _) id) id) k
 | .popO t i,_,_,_,_,_,_,x,h,k=>uq (fun _=>zm fun _=>zm fun _=>h _ _) k
 | .popR t o,_,_,_,_,_,_,x,h,k=>zb hc.no o (fun _ _=>zN fun _=>jM fun _=>JP fun _=>zm fun _=>zm fun _=>h _ _) k
 | .pass,_,_,_,_,_,_,x,h,k=>h _ _ k
 | .brk,_,_,_,_,_,_,x,h,k=>h _ _ k
 | .cnt,_,_,_,_,_,_,x,h,k=>h _ _ k
 | .frz i,_,_,_,_,_,_,x,h,k=>h _ _ k
 | .frk i,_,_,_,_,_,_,x,h,k=>zcI (fun _ _=>h _ _) k
 | .sta _ _ _ _,_,_,_,_,_,_,x,h,k=>k
 | .aua _ _ _ _ _,_,_,_,_,_,_,x,h,k=>k
 | .lin i es,_,_,_,_,_,_,x,h,k=>uq (fun _=>zR hc.no es fun _ _=>zm fun _=>h _ _) k
 | .rse c,_,_,_,_,_,_,x,h,k=>x _ _ k
 | .tri _ _ _ _ _ _,_,_,_,_,_,_,x,h,k=>k
 | .frr i,_,_,_,_,_,_,x,h,k=>zc5 (fun _ _=>h _ _) k
theorem yC (hc:Vm cx):∀ (cs:List C) {ex ex':Xp}{ρ:List Slot}{K K':Ko}{S:Store},(∀ c S,ex c S->ex' c S)->(∀ o S,K o S->K' o S)->wpCs cx ex w cs ρ K S->wpCs cx ex' w cs ρ K' S
 | [],_,_,_,_,_,_,x,h,k=>h _ _ k
 | c::cs,_,_,_,_,_,_,x,h,k=>zb0 hc c x (zcP (fun _ _=>yC hc cs x h) h) k
end
theorem QM {V V':Po}(h:∀ x S,V x S->V' x S):∀ o S,told V o S->told V' o S:=by intro o S;cases o <;> first | exact h _ _ | exact id
theorem yO {F:Nat->Option Fn}:∀ k,Vm (za F w k)
 | 0=>fun _ _ _ _ _ _ _ _ _ h=>h
 | k+1=>fun ex ex' f ds V V' S hx h q=>zm (fun _ ⟨a,b⟩=>⟨a,yC (yO k) _ hx (QM h) b⟩) q
theorem zbD {F:Nat->Option Fn}(k:Nat):Mono (qI F w k):=(yO k).no
end
end
open PySem PySem.Spec PyProof.Rows L2
def Rdb (Γ:Gm) (H:Hp) (g:G):D->V->Prop
 | .tup ds,v=>∃ a vs,v=.ref a/\g.R a=some (.tup vs)/\Hass Γ g ds vs
 | .lst ds,v=>∃ a vs,v=.ref a/\H a=some (.lst vs)/\Hass Γ g ds vs
 | .dK ks ds,v=>∃ a vs,v=.ref a/\H a=some (.dK (ks.zip vs))/\ks.length=ds.length/\Hass Γ g ds vs
 | .dT ks ds,v=>∃ a vs,v=.ref a/\H a=some (.dT (ks.zip vs))/\ks.length=ds.length/\Hass Γ g ds vs
 | .non,v=>v=.non
 | .bl b,v=>v=.bl b
 | .int i,v=>v=.int i
 | .str x,v=>v=.str x
 | .ref _,v=>∃ a,v=.ref a
 | .fn f,v=>∃ a,Γ.fa f=some a/\v=.ref a
 | .scr ns,v=>∃ a,v=.ref a/\SqL Γ.K H a (ns.map V.int)
 | .ktp ds,v=>∃ a vs,v=.ref a/\KTup Γ.K a vs/\Hass Γ g ds vs
 | .kdc ps,v=>∃ a,v=.ref a/\KDic Γ.K a ps
 | .dF ks ds,v=>∃ a vs o,v=.ref a/\H a=some (.frz o (.dT (ks.zip vs)))/\ks.length=ds.length/\Hass Γ g ds vs
 | .ins _ _ _,v=>∃ a,v=.ref a
section
variable {Γ:Gm}{H H':Hp}{g g':G}{S:Store}{d:D}{v:V}{a:Addr}
theorem zaj (w:WOk Γ H g S) (h:Has Γ g d v):Rdb Γ H g (zH S d) v:=by
 cases d with
 | non=>exact h
 | bl=>exact h
 | int=>exact h
 | str=>exact h
 | fn f=>exact h
 | tup ds=>exact h
 | lst ds=>obtain ⟨a,vs,h1,h2,h3⟩:=h;exact ⟨a,vs,h1,w.rh _ _ h2,h3⟩
 | scr ns=>obtain ⟨a,h1,h2⟩:=h;exact ⟨a,h1,w.rh.seq h2⟩
 | dK ks ds=>obtain ⟨a,vs,h1,h2,h4,h3⟩:=h;exact ⟨a,vs,h1,w.rh _ _ h2,h4,h3⟩
 | dT ks ds=>obtain ⟨a,vs,h1,h2,h4,h3⟩:=h;exact ⟨a,vs,h1,w.rh _ _ h2,h4,h3⟩
 | ktp=>exact h
 | kdc=>exact h
 | dF ks ds=>obtain ⟨a,vs,o,h1,h2,h4,h3⟩:=h;exact ⟨a,vs,o,h1,w.rh _ _ h2,h4,h3⟩
 | ins=>obtain ⟨a,_,_,_,h1,_⟩:=h;exact ⟨a,h1⟩
 | ref k=>
  obtain ⟨a,h1,rfl⟩:=h;have hk:k < S.length:=by rw [<- w.len];exact (Ι.mp h1).1
  have e:S[k]?=some S[k]:=Ε hk;have c:=w.cell k _ a e h1;show Rdb Γ H g ((S[k]?).getD .non) (.ref a)
  rw [e];show Rdb Γ H g S[k] (.ref a)
  generalize S[k]=x at c;cases x with
  | lst ds=>obtain ⟨vs,h1,h2⟩:=c;exact ⟨a,vs,rfl,h1,h2⟩
  | dK ks ds=>obtain ⟨vs,h1,h3,h2⟩:=c;exact ⟨a,vs,rfl,h1,h3,h2⟩
  | dT ks ds=>obtain ⟨vs,h1,h3,h2⟩:=c;exact ⟨a,vs,rfl,h1,h3,h2⟩
  | non=>exact c.elim
  | bl=>exact c.elim
  | int=>exact c.elim
  | str=>exact c.elim
  | tup=>exact c.elim
  | ref=>exact ⟨a,rfl⟩
  | fn=>exact c.elim
  | scr=>exact c.elim
  | ktp=>exact c.elim
  | kdc=>exact c.elim
  | dF=>exact c.elim
  | ins=>exact ⟨a,rfl⟩
def Fin (Γ:Gm) (H:Hp) (g:G) (S:Store) (d:D) (fr:Bool) (Q:VK):Prop:=
 ∀ v H' g',Step H g H' g'->Same H H'->WOk Γ H' g' S->VOk Γ H d fr v H' g'->Q v H'
variable {Q:VK}
theorem zf (w:WOk Γ H g S) (q:Fin Γ H g S d false Q) (h:Has Γ g d v):Q v H:=q v H g (Step.refl H g) (Same.refl H) w h
theorem WOk.laid {o:HO}(w:WOk Γ H g S) (h:H a=none):WOk Γ (upd H a o) g S where
 rh:=fun b u q=>by have e:=w.rh b u q;rw [zp (zF e h)];exact e
 len:=w.len
 nd:=w.nd
 off:=w.off
 cell:=fun k c b h1 h2=>(w.cell k c b h1 h2).mono (Le.refl g) fun o e=>by rw [zp (zF e h)];exact e
theorem WOk.notR (w:WOk Γ H g S) (h:H a=none):g.R a=none:=by
 cases q:g.R a with
 | none=>rfl
 | some o=>rw [w.rh a o q] at h;cases h
theorem WOk.notA (w:WOk Γ H g S) (h:H a=none):a ∉ g.α:=fun m=>by
 obtain ⟨k,hk,e⟩:=iu m;have hk':k < S.length:=by rw [<- w.len];exact hk
 obtain ⟨o,ho,_⟩:=(w.cell k _ a (Ε hk') (by rw [Ε hk,e])).WD;rw [ho] at h;cases h
theorem yL {o:HO}(h:H a=none):Same H (upd H a o):=fun b u q=>by rw [zp (zF q h)];exact q
theorem Y5 {ds:List D}{vs:List V}(w:WOk Γ H g S) (q:Fin Γ H g S (.tup ds) false Q) (h:Hass Γ g ds vs) (ha:H a=none):Q (.ref a) (upd H a (.tup vs)):=by have hr:=w.notR ha;refine q _ _ (g.put a (.tup vs)) ?_ (yL ha) ((w.laid ha).put zg hr (w.notA ha)) ⟨a,vs,rfl,zg,h.mono (Le.put hr)⟩;exact (Step.of_same (yL ha) (Le.refl g) (fun _ h=>.inl h) fun _ h=>.inl h).put hr ha
theorem v5 {ds:List D}{vs:List V}(w:WOk Γ H g S) (q:Fin Γ H g S (.lst ds) true Q) (h:Hass Γ g ds vs) (ha:H a=none):Q (.ref a) (upd H a (.lst vs)):=
 q _ _ g (Step.of_same (yL ha) (Le.refl g) (fun _ h=>.inl h) fun _ h=>.inl h) (yL ha) (w.laid ha) ⟨a,rfl,ha,w.notR ha,w.notA ha,vs,zg,h⟩
end
theorem zd0 {n:Nat}(h:fits n=true):n < sizeLine:=eY (of_decide_eq_true h) (by decide)
theorem wL {n:Nat}(h:fits n=true):n<=sizeLine:=gB (zd0 h)
def RDo (Γ:Gm) (r:R2) (a b:D) (d:D) (fr:Bool):Prop:=
 ∀ (S:Store) (H:Hp) (g:G) (x y:V) (Q:VK),WOk Γ H g S->Rdb Γ H g a x->Rdb Γ H g b y->Fin Γ H g S d fr Q->r x y H Q
section
variable {X:Cx}{Γ:Gm}
def zkd:R2:=fun x y H Q=>∃ l b xs zs,x=.ref l/\y=.ref b/\H l=some (.lst xs)/\H b=some (.lst zs)/\xs.length+zs.length<=sizeLine/\∀ p,H p=none->Q (.ref p) (upd H p (.lst (xs++zs)))
theorem zfk:OpR X (bY .Add) zkd:=by
 intro pJ s σ H x y v u Q I rx ry h;obtain ⟨l,b,xs,zs,rfl,rfl,hH,hB,hz,q⟩:=h;cases rx;cases ry;obtain ⟨z,its,n,r,e⟩:=I.hok _ _ hH;obtain ⟨z2,its2,n2,r2,e2⟩:=I.hok _ _ hB;have hl:=r.length;have hl2:=r2.length;refine PySem.P.add_list e e2 ?_ (by rw [χ,χ];omega);have ea:its.toArray++its2.toArray=(its++its2).toArray:=by simp
 rw [ea];exact ⟨.ref _,_,I.lnew (t':=s.toks) (r.append r2) (by rw [ξ];omega),rfl,q _ I.fresh⟩
theorem Yz {f:Int->Int->Option Int}{a b:D}{p:D×Bool}(h:num2 f a b=some p):∃ i j k,a=.int i/\b=.int j/\f i j=some k/\p=(.int k,false):=by
 cases a with
 | int i=>
  cases b with
  | int j=>
   obtain ⟨k,e,rfl⟩:=Λ.mp (show (f i j).map (fun k=>(D.int k,false))=some p from h);exact ⟨i,j,k,rfl,rfl,e,rfl⟩
  | _=>cases h
 | _=>cases h
set_option tactic.hygienic true in
theorem zgu {a b:D}{d:D}{fr:Bool}(hK:X.K=Γ.K) (h:addD a b=some (d,fr)):∃ r,OpR X (bY .Add) r/\RDo Γ r a b d fr:=by
 cases a with
 | int i=>
  cases b with
  | int j=>
   cases h;exact ⟨_,zh6,fun S H g x y Q w hx hy q=>⟨_,_,hx,hy,zf w q rfl⟩⟩
  | _=>cases h
 | str s=>
  cases b with
  | str u=>
   have h:(if fits (s.length+u.length)=true then some (D.str (s++u),false) else none)=some (d,fr):=h;split at h
   ·rename_i hf
    cases h;exact ⟨_,KY,fun S H g x y Q w hx hy q=>⟨_,_,hx,hy,wL hf,zf w q rfl⟩⟩
   ·cases h
  | _=>cases h
 | tup s=>
  cases b with
  | tup u=>
   have h:(if fits (s.length+u.length)=true then some (D.tup (s++u),false) else none)=some (d,fr):=h;split at h
   ·rename_i hf
    cases h;refine ⟨_,zfj.or zcM,fun S H g x y Q w ⟨a,xs,e1,e2,e3⟩ ⟨b,ys,f1,f2,f3⟩ q=>?_⟩;rw [hK];have h1:=e3.len;have h2:=f3.len;have hz:=wL hf;by_cases hx:xs=[]
    ·subst hx;refine .inr ⟨a,b,ys,e1,f1,SqT.of (w.rh _ _ e2),SqT.of (w.rh _ _ f2),?_⟩;have e0:=aY.mp h1.symm;subst e0;exact zf w q ⟨b,ys,rfl,f2,f3⟩
    ·refine .inl ⟨a,b,xs,ys,e1,f1,SqT.of (w.rh _ _ e2),SqT.of (w.rh _ _ f2),hx,by lia,fun z=>?_,fun _ p hp=>Y5 w q (e3.app f3) hp⟩;subst z;have e0:=aY.mp h2.symm;subst e0;refine zf w q ⟨a,xs,rfl,e2,?_⟩;rw [Δ];exact e3
   ·cases h
  | _=>cases h
 | lst s=>
  cases b with
  | lst u=>
   have h:(if fits (s.length+u.length)=true then some (D.lst (s++u),true) else none)=some (d,fr):=h;split at h
   ·rename_i hf
    cases h;refine ⟨_,zfk,fun S H g x y Q w ⟨a,xs,e1,e2,e3⟩ ⟨b,ys,f1,f2,f3⟩ q=>?_⟩;have h1:=e3.len;have h2:=f3.len;have hz:=wL hf;exact ⟨a,b,xs,ys,e1,f1,e2,f2,by lia,fun p hp=>v5 w q (e3.app f3) hp⟩
   ·cases h
  | _=>cases h
 | _=>cases h
set_option tactic.hygienic true in
theorem zfy {a b:D}{d:D}{fr:Bool}(h:mulD a b=some (d,fr)):∃ r,OpR X (bY .Mult) r/\RDo Γ r a b d fr:=by
 cases a with
 | int i=>
  cases b with
  | int j=>
   have h:(if (yg i||yg j)=true then some (D.int (i*j),false) else none)=some (d,fr):=h;split at h
   ·rename_i hf
    cases h;refine ⟨_,zh0,fun S H g x y Q w hx hy q=>⟨_,_,hx,hy,?_,zf w q rfl⟩⟩;simp only [yg,lJ,ζ,decide_eq_true_eq] at hf;exact hf
   ·cases h
  | _=>cases h
 | _=>cases h
set_option tactic.hygienic true in
theorem zhX {op:gO}{a b:D}{d:D}{fr:Bool}(hK:X.K=Γ.K) (h:opD op a b=some (d,fr)):∃ r,OpR X (bY op) r/\RDo Γ r a b d fr:=by
 cases op with
 | Add=>exact zgu hK h
 | Mult=>exact zfy h
 | Sub=>
  obtain ⟨i,j,k,rfl,rfl,e,e2⟩:=Yz h;cases e;cases e2;exact ⟨_,zhW,fun S H g x y Q w hx hy q=>⟨_,_,hx,hy,zf w q rfl⟩⟩
 | FloorDiv=>
  obtain ⟨i,j,k,rfl,rfl,e,e2⟩:=Yz h;cases e2;split at e
  ·rename_i hf
   cases e;refine ⟨_,zcL,fun S H g x y Q w hx hy q=>⟨_,_,hx,hy,?_,zf w q rfl⟩⟩;simp only [ζ,decide_eq_true_eq] at hf;exact hf
  ·cases e
 | Mod=>
  obtain ⟨i,j,k,rfl,rfl,e,e2⟩:=Yz h;cases e2;split at e
  ·rename_i hf
   cases e;exact ⟨_,zh1,fun S H g x y Q w hx hy q=>⟨_,_,hx,hy,of_decide_eq_true hf,zf w q rfl⟩⟩
  ·cases e
 | Pow=>
  obtain ⟨i,j,k,rfl,rfl,e,e2⟩:=Yz h;cases e2;split at e
  ·rename_i hf
   cases e;refine ⟨_,zhY,fun S H g x y Q w hx hy q=>⟨_,_,hx,hy,?_,zf w q rfl⟩⟩;simp only [yg,ζ,decide_eq_true_eq] at hf;exact ⟨hf.1.1,hf.1.2,by omega⟩
  ·cases e
 | _=>cases h
end
open PySem PySem.Spec PyProof.Rows L2 SeqAt
section
variable {X:Cx}{pJ:List (Addr×Obj)}{σ:L2.St}{H:Hp}{s:ω}{Γ:Gm}{g:G}
theorem zeB (sr:Same g.R H) {a:Addr}{xs ys:List V}(h:g.R a=some (.tup xs)) (h':g.R a=some (.tup ys)):xs=ys:=by rw [h] at h';cases h';rfl
theorem zeU (sr:Same g.R H) {a:Addr}{xs ys:List V}(h:g.R a=some (.lst xs)) (h':g.R a=some (.lst ys)):xs=ys:=by rw [h] at h';cases h';rfl
theorem zgK (sr:Same g.R H) {a b:Addr}{xs ys:List V}(h:g.R a=some (.lst xs)) (h':g.R b=some (.tup ys)):a≠b:=by rintro rfl;rw [h] at h';cases h'
mutual
theorem Y6 (I:Inv X pJ σ H s) (hK:X.K=Γ.K) (sr:Same g.R H):∀ (n:Nat) (a b:D) (x:V),okP n a=true->okP n b=true->Has Γ g a x->Has Γ g b x->eqP a b=true
 | n,.non,b,x,_,kb,ha,hb=>by
  cases (show x=.non from ha);cases b with
  | non=>rfl
  | bl=>cases (show V.non=_ from hb)
  | int=>cases (show V.non=_ from hb)
  | str=>cases (show V.non=_ from hb)
  | tup=>obtain ⟨_,_,h,_⟩:=hb;cases h
  | lst=>obtain ⟨_,_,h,_⟩:=hb;cases h
  | _=>cases n <;> exact nobE kb
 | n,.bl c,b,x,_,kb,ha,hb=>by
  cases (show x=.bl c from ha);cases b with
  | non=>cases (show V.bl c=_ from hb)
  | bl=>cases (show V.bl c=_ from hb);exact beq_self_eq_true c
  | int=>cases (show V.bl c=_ from hb)
  | str=>cases (show V.bl c=_ from hb)
  | tup=>obtain ⟨_,_,h,_⟩:=hb;cases h
  | lst=>obtain ⟨_,_,h,_⟩:=hb;cases h
  | _=>cases n <;> exact nobE kb
 | n,.int c,b,x,_,kb,ha,hb=>by
  cases (show x=.int c from ha);cases b with
  | non=>cases (show V.int c=_ from hb)
  | bl=>cases (show V.int c=_ from hb)
  | int=>cases (show V.int c=_ from hb);exact beq_self_eq_true c
  | str=>cases (show V.int c=_ from hb)
  | tup=>obtain ⟨_,_,h,_⟩:=hb;cases h
  | lst=>obtain ⟨_,_,h,_⟩:=hb;cases h
  | _=>cases n <;> exact nobE kb
 | n,.str c,b,x,_,kb,ha,hb=>by
  cases (show x=.str c from ha);cases b with
  | non=>cases (show V.str c=_ from hb)
  | bl=>cases (show V.str c=_ from hb)
  | int=>cases (show V.str c=_ from hb)
  | str=>cases (show V.str c=_ from hb);exact beq_self_eq_true c
  | tup=>obtain ⟨_,_,h,_⟩:=hb;cases h
  | lst=>obtain ⟨_,_,h,_⟩:=hb;cases h
  | _=>cases n <;> exact nobE kb
 | 0,.tup as,b,x,ka,_,_,_=>nobE ka
 | n+1,.tup as,b,x,ka,kb,⟨a,xs,h1,h2,h3⟩,hb=>by
  subst h1;cases b with
  | non=>cases (show V.ref a=_ from hb)
  | bl=>cases (show V.ref a=_ from hb)
  | int=>cases (show V.ref a=_ from hb)
  | str=>cases (show V.ref a=_ from hb)
  | tup bs=>
   obtain ⟨a',ys,f1,f2,f3⟩:=hb;cases f1;have e:=zeB sr h2 f2;subst e;exact qD I hK sr n as bs xs ka kb h3 f3
  | lst bs=>
   obtain ⟨a',ys,f1,f2,f3⟩:=hb;cases f1;exact absurd rfl (zgK sr f2 h2)
  | _=>exact nobE kb
 | 0,.lst as,b,x,ka,_,_,_=>nobE ka
 | n+1,.lst as,b,x,ka,kb,⟨a,xs,h1,h2,h3⟩,hb=>by
  subst h1;cases b with
  | non=>cases (show V.ref a=_ from hb)
  | bl=>cases (show V.ref a=_ from hb)
  | int=>cases (show V.ref a=_ from hb)
  | str=>cases (show V.ref a=_ from hb)
  | tup bs=>
   obtain ⟨a',ys,f1,f2,f3⟩:=hb;cases f1;exact absurd rfl (zgK sr h2 f2)
  | lst bs=>
   obtain ⟨a',ys,f1,f2,f3⟩:=hb;cases f1;have e:=zeU sr h2 f2;subst e;exact qD I hK sr n as bs xs ka kb h3 f3
  | _=>exact nobE kb
 | n,.dK _ _,b,x,ka,_,_,_=>by revert ka;cases n <;> exact nobE
 | n,.dT _ _,b,x,ka,_,_,_=>by revert ka;cases n <;> exact nobE
 | n,.ref _,b,x,ka,_,_,_=>by revert ka;cases n <;> exact nobE
 | n,.fn _,b,x,ka,_,_,_=>by revert ka;cases n <;> exact nobE
 | n,.scr _,b,x,ka,_,_,_=>by revert ka;cases n <;> exact nobE
 | n,.ktp _,b,x,ka,_,_,_=>by revert ka;cases n <;> exact nobE
 | n,.kdc _,b,x,ka,_,_,_=>by revert ka;cases n <;> exact nobE
 | n,.dF _ _,b,x,ka,_,_,_=>by revert ka;cases n <;> exact nobE
 | n,.ins _ _ _,b,x,ka,_,_,_=>by revert ka;cases n <;> exact nobE
theorem qD (I:Inv X pJ σ H s) (hK:X.K=Γ.K) (sr:Same g.R H):∀ (n:Nat) (as bs:List D) (xs:List V),okPs n as=true->okPs n bs=true->Hass Γ g as xs->Hass Γ g bs xs->eqPs as bs=true
 | n,[],bs,xs,_,_,ha,hb=>by
  cases (show xs=[] from ha);cases bs with
  | nil=>rfl
  | cons=>obtain ⟨_,_,h,_⟩:=hb;cases h
 | n,a::as,bs,xs,ka,kb,⟨v,r,h1,h2,h3⟩,hb=>by
  subst h1;cases bs with
  | nil=>cases (show _=[] from hb)
  | cons b bs=>
   obtain ⟨v',r',f1,f2,f3⟩:=hb;cases f1;have ka':(okP n a&&okPs n as)=true:=ka;have kb':(okP n b&&okPs n bs)=true:=kb;rw [ζ] at ka' kb';show (eqP a b&&eqPs as bs)=true
   rw [Y6 I hK sr n a b v ka'.1 kb'.1 h2 f2,qD I hK sr n as bs r ka'.2 kb'.2 h3 f3];rfl
end
theorem jP:∀ (as bs:List D),as.length=bs.length->eqPs as bs=(Ϲ as.length).all fun i=>eqP (as.getD i .non) (bs.getD i .non)
 | [],[],_=>rfl
 | a::as,b::bs,h=>by
  have ih:=jP as bs (by simpa using h);show (eqP a b&&eqPs as bs)=_
  rw [ih,Ϝ,nj,dj,cA];rfl
 | [],_::_,h=>by simp at h
 | _::_,[],h=>by simp at h
theorem jO:∀ (as bs:List D),as.length≠bs.length->eqPs as bs=false
 | [],[],h=>absurd rfl h
 | a::as,b::bs,h=>by
  show (eqP a b&&eqPs as bs)=_
  rw [jO as bs (by simpa using h),Τ]
 | [],_::_,h=>rfl
 | _::_,[],h=>rfl
theorem jL {as bs:List D}{xs ys:List V}{us ws:List δ}{n:Nat}{A:ϡ}(ka:okPs n as=true) (kb:okPs n bs=true) (ha:Hass Γ g as xs) (hb:Hass Γ g bs ys) (ra:Vals xs us) (rb:Vals ys ws)
  (ih:∀ (a b:D) (x y:V) (u v:δ),a∈as->okP n a=true->okP n b=true->Has Γ g a x->Has Γ g b y->RelV x u->RelV y v->EqAt A s u v (eqP a b)):
  ∀ (j:Nat) (h1:j < us.toArray.size) (h2:j < ws.toArray.size),EqAt A s us.toArray[j] ws.toArray[j] (eqP (as.getD j .non) (bs.getD j .non)):=by
 intro j h1 h2;have l1:=ra.length;have l2:=rb.length;have l3:=ha.len;have l4:=hb.len;simp only [χ] at h1 h2;have k1:j < as.length:=by lia
 have k2:j < bs.length:=by lia
 obtain ⟨x,ex,hx⟩:=ha.get (Ε k1);obtain ⟨y,ey,hy⟩:=hb.get (Ε k2);obtain ⟨u,eu,ru⟩:=ra.get ex;obtain ⟨v,ev,rv⟩:=rb.get ey;have e1:us.toArray[j]'(by simpa using h1)=u:=by simpa [Ε h1] using eu
 have e2:ws.toArray[j]'(by simpa using h2)=v:=by simpa [Ε h2] using ev
 have g1:as.getD j .non=as[j]:=by simp [bH,k1]
 have g2:bs.getD j .non=bs[j]:=by simp [bH,k2]
 rw [e1,e2,g1,g2];have all:∀ (l:List D),okPs n l=true->∀ d∈l,okP n d=true:=by
  intro l
  induction l with
  | nil=>intro _ d hd;cases hd
  | cons c l il=>
   intro k d hd;have k':(okP n c&&okPs n l)=true:=k;rw [ζ] at k';rcases ψ.mp hd with rfl | hd
   ·exact k'.1
   ·exact il k'.2 d hd
 exact ih _ _ x y u v (cX k1) (all as ka _ (cX k1)) (all bs kb _ (cX k2)) hx hy ru rv
theorem isT {a:Addr}{its:Array δ}{h:Heap}(p:IsTup h a its):h.IsTuple a its:=p
theorem units_in1 (A:ϡ):A.in1.units=A.units+1:=rfl
noncomputable def scD:D->Option V
 | .non=>some .non
 | .bl b=>some (.bl b)
 | .int i=>some (.int i)
 | .str x=>some (.str x)
 | _=>none
theorem wC {d:D}{w x:V}(h:scD d=some w) (hh:Has Γ g d x):x=w:=by
 cases d <;> first | cases h | skip
 all_goals exact hh
theorem jC {d:D}{w:V}(h:scD d=some w):zfS w=true:=by
 cases d <;> first | cases h | skip
 all_goals rfl
theorem zdF {a b:D}{x y:V}(h:scD a=some x) (h':scD b=some y):eqV x y=eqP a b:=by
 cases a <;> first | cases h | skip
 all_goals (cases b <;> first | cases h' | skip)
 all_goals rfl
theorem yh {n:Nat}{d:D}(h:okP n d=true):(∃ w,scD d=some w)\/(∃ m ds,n=m+1/\d=.tup ds/\okPs m ds=true)\/(∃ m ds,n=m+1/\d=.lst ds/\okPs m ds=true):=by
 cases d with
 | non=>exact .inl ⟨_,rfl⟩
 | bl=>exact .inl ⟨_,rfl⟩
 | int=>exact .inl ⟨_,rfl⟩
 | str=>exact .inl ⟨_,rfl⟩
 | tup ds=>cases n with
  | zero=>exact nobE h
  | succ m=>exact .inr (.inl ⟨m,ds,rfl,rfl,h⟩)
 | lst ds=>cases n with
  | zero=>exact nobE h
  | succ m=>exact .inr (.inr ⟨m,ds,rfl,rfl,h⟩)
 | _=>cases n <;> exact nobE h
section
variable {A:ϡ}{l:Addr}{its:Array δ}{w:V}{v:δ}{d:D}
theorem zbM (p:s.heap.IsTuple l its) (hu:A.units < Ϸ) (h:scD d=some w) (r:RelV w v):EqAt A s (.ref l) v false:=by
 cases d with
 | non=>cases h;cases (show v=ϩ from r);exact EqAt.tuple_none p hu
 | bl b=>cases h;cases (show v=Ϡ b from r);exact EqAt.tuple_bool b p hu
 | int i=>cases h;obtain ⟨t,rfl⟩:=(show ∃ t,v=aj i t from r);exact EqAt.tuple_int i t p hu
 | str i=>cases h;obtain ⟨t,rfl⟩:=(show ∃ t,v=aW i t from r);exact EqAt.tuple_str i t p hu
 | _=>cases h
theorem zbN (p:s.heap.IsTuple l its) (hu:A.units < Ϸ) (h:scD d=some w) (r:RelV w v):EqAt A s v (.ref l) false:=by
 cases d with
 | non=>cases h;cases (show v=ϩ from r);exact EqAt.none_tuple p hu
 | bl b=>cases h;cases (show v=Ϡ b from r);exact EqAt.bool_tuple b p hu
 | int i=>cases h;obtain ⟨t,rfl⟩:=(show ∃ t,v=aj i t from r);exact EqAt.int_tuple i t p hu
 | str i=>cases h;obtain ⟨t,rfl⟩:=(show ∃ t,v=aW i t from r);exact EqAt.str_tuple i t p hu
 | _=>cases h
theorem zbP (p:s.heap.IsList l its) (hu:A.units < Ϸ) (h:scD d=some w) (r:RelV w v):EqAt A s (.ref l) v false:=by
 cases d with
 | non=>cases h;cases (show v=ϩ from r);exact EqAt.list_none p hu
 | bl b=>cases h;cases (show v=Ϡ b from r);exact EqAt.list_bool b p hu
 | int i=>cases h;obtain ⟨t,rfl⟩:=(show ∃ t,v=aj i t from r);exact EqAt.list_int i t p hu
 | str i=>cases h;obtain ⟨t,rfl⟩:=(show ∃ t,v=aW i t from r);exact EqAt.list_str i t p hu
 | _=>cases h
theorem zbO (p:s.heap.IsList l its) (hu:A.units < Ϸ) (h:scD d=some w) (r:RelV w v):EqAt A s v (.ref l) false:=by
 cases d with
 | non=>cases h;cases (show v=ϩ from r);exact EqAt.none_list p hu
 | bl b=>cases h;cases (show v=Ϡ b from r);exact EqAt.bool_list b p hu
 | int i=>cases h;obtain ⟨t,rfl⟩:=(show ∃ t,v=aj i t from r);exact EqAt.int_list i t p hu
 | str i=>cases h;obtain ⟨t,rfl⟩:=(show ∃ t,v=aW i t from r);exact EqAt.str_list i t p hu
 | _=>cases h
end
theorem yl {d:D}{w:V}{bs:List D}(h:scD d=some w):eqP d (.tup bs)=false/\eqP (.tup bs) d=false/\eqP d (.lst bs)=false/\eqP (.lst bs) d=false:=by
 cases d <;> first | cases h | skip
 all_goals exact ⟨rfl,rfl,rfl,rfl⟩
theorem zdL {as bs:List D}{xs ys:List V}{us ws:List δ}(r1:Vals xs us) (r2:Vals ys ws) (h3:Hass Γ g as xs) (f3:Hass Γ g bs ys):
  ((Ϲ (min us.toArray.size ws.toArray.size)).all (fun j=>eqP (as.getD j .non) (bs.getD j .non))&&us.toArray.size==ws.toArray.size)=eqPs as bs:=by
 have l1:=r1.length;have l2:=r2.length;have l3:=h3.len;have l4:=f3.len;simp only [χ];by_cases hl:as.length=bs.length
 ·rw [jP as bs hl];have m1:us.length=as.length:=by lia
  have m2:ws.length=as.length:=by lia
  rw [m1,m2];simp
 ·rw [jO as bs hl];have:¬ us.length=ws.length:=by lia
  simp [this]
theorem zdM {as bs:List D}{xs ys:List V}{us ws:List δ}{a b:Addr}{n:Nat}{A:ϡ}(ka:okPs n as=true) (kb:okPs n bs=true) (p1:PlainL s.heap a us.toArray) (p2:PlainL s.heap b ws.toArray) (r1:Vals xs us) (r2:Vals ys ws)
  (h3:Hass Γ g as xs) (f3:Hass Γ g bs ys) (hu:A.units < Ϸ) (ih:∀ (a b:D) (x y:V) (u v:δ),a∈as->okP n a=true->okP n b=true->Has Γ g a x->Has Γ g b y->RelV x u->RelV y v->EqAt A.in1 s u v (eqP a b)):
  RcAt A s (.ref a) (.ref b) (eqPs as bs):=by
 have l1:=r1.length;have l2:=r2.length;have l3:=h3.len;have l4:=f3.len;by_cases hl:as.length=bs.length
 ·have k:=RcAt.lists p1.isList p2.isList (by simp only [χ];lia) hu (jL (A:=A.in1) ka kb h3 f3 r1 r2 ih);have m1:us.toArray.size=as.length:=by simp only [χ];lia
  rw [m1,<- jP as bs hl] at k;exact k
 ·rw [jO as bs hl];exact RcAt.lists_lengths (A:=A) p1.isList p2.isList (by simp only [χ,bne_iff_ne];lia) hu
theorem Y7 (I:Inv X pJ σ H s) (hK:X.K=Γ.K) (sr:Same g.R H):∀ (n:Nat) (a b:D) (x y:V) (u v:δ) (A:ϡ),A.units+n+1 < Ϸ->okP n a=true->okP n b=true->Has Γ g a x->Has Γ g b y->RelV x u->RelV y v->EqAt A s u v (eqP a b):=by
 intro n
 induction n with
 | zero=>
  intro a b x y u v A hu ka kb ha hb ru rv;rcases yh ka with ⟨w,hw⟩ | ⟨m,ds,e,_⟩ | ⟨m,ds,e,_⟩
  ·rcases yh kb with ⟨w',hw'⟩ | ⟨m,ds,e,_⟩ | ⟨m,ds,e,_⟩
   ·rw [wC hw ha] at ru;rw [wC hw' hb] at rv;rw [<- zdF hw hw'];exact zec ru rv (jC hw) (jC hw')
   ·cases e
   ·cases e
  ·cases e
  ·cases e
 | succ n ih=>
  intro a b x y u v A hu ka kb ha hb ru rv;have hu':A.units < Ϸ:=by lia
  have hin:A.in1.units+n+1 < Ϸ:=by rw [units_in1];lia
  rcases yh ka with ⟨w,hw⟩ | ⟨m,as,e,e1,kas⟩ | ⟨m,as,e,e1,kas⟩
  ·rcases yh kb with ⟨w',hw'⟩ | ⟨m,bs,e,e2,kbs⟩ | ⟨m,bs,e,e2,kbs⟩
   ·rw [wC hw ha] at ru;rw [wC hw' hb] at rv;rw [<- zdF hw hw'];exact zec ru rv (jC hw) (jC hw')
   ·subst e2;rw [wC hw ha] at ru;obtain ⟨b,ys,rfl,f2,f3⟩:=hb;cases rv;obtain ⟨ws,r2,p2,_⟩:=I.tuple (SqT.of (sr _ _ f2));rw [(yl hw).1];exact zbN (isT p2) hu' hw ru
   ·subst e2;rw [wC hw ha] at ru;obtain ⟨b,ys,rfl,f2,f3⟩:=hb;cases rv;obtain ⟨ws,r2,p2,_⟩:=I.list (SqL.of (sr _ _ f2));rw [(yl hw).2.2.1];exact zbO p2.isList hu' hw ru
  ·subst e1;cases e;obtain ⟨a,xs,rfl,h2,h3⟩:=ha;cases ru;obtain ⟨us,r1,p1,_⟩:=I.tuple (SqT.of (sr _ _ h2));rcases yh kb with ⟨w',hw'⟩ | ⟨m,bs,e,e2,kbs⟩ | ⟨m,bs,e,e2,kbs⟩
   ·rw [wC hw' hb] at rv;rw [(yl hw').2.1];exact zbM (isT p1) hu' hw' rv
   ·subst e2;cases e;obtain ⟨b,ys,rfl,f2,f3⟩:=hb;cases rv;by_cases e:a=b
    ·subst e;have:=Y6 I hK sr (n+1) (.tup as) (.tup bs) (.ref a) ka kb ⟨a,xs,rfl,h2,h3⟩ ⟨a,ys,rfl,f2,f3⟩;rw [this];exact EqAt.same _
    ·obtain ⟨ws,r2,p2,_⟩:=I.tuple (SqT.of (sr _ _ f2));have k:=RcAt.tuples (isT p1) (isT p2) hu' (jL (A:=A.in1) kas kbs h3 f3 r1 r2 fun a b x y u v _ ka kb ha hb ru rv=>ih a b x y u v A.in1 hin ka kb ha hb ru rv);rw [zdL r1 r2 h3 f3] at k;exact EqAt.of_refs e k
   ·subst e2;cases e;obtain ⟨b,ys,rfl,f2,f3⟩:=hb;cases rv;obtain ⟨ws,r2,p2,_⟩:=I.list (SqL.of (sr _ _ f2));exact EqAt.tuple_list (isT p1) p2.isList hu'
  ·subst e1;cases e;obtain ⟨a,xs,rfl,h2,h3⟩:=ha;cases ru;obtain ⟨us,r1,p1,_⟩:=I.list (SqL.of (sr _ _ h2));rcases yh kb with ⟨w',hw'⟩ | ⟨m,bs,e,e2,kbs⟩ | ⟨m,bs,e,e2,kbs⟩
   ·rw [wC hw' hb] at rv;rw [(yl hw').2.2.2];exact zbP p1.isList hu' hw' rv
   ·subst e2;cases e;obtain ⟨b,ys,rfl,f2,f3⟩:=hb;cases rv;obtain ⟨ws,r2,p2,_⟩:=I.tuple (SqT.of (sr _ _ f2));exact EqAt.list_tuple p1.isList (isT p2) hu'
   ·subst e2;cases e;obtain ⟨b,ys,rfl,f2,f3⟩:=hb;cases rv;by_cases e:a=b
    ·subst e;have:=Y6 I hK sr (n+1) (.lst as) (.lst bs) (.ref a) ka kb ⟨a,xs,rfl,h2,h3⟩ ⟨a,ys,rfl,f2,f3⟩;rw [this];exact EqAt.same _
    ·obtain ⟨ws,r2,p2,_⟩:=I.list (SqL.of (sr _ _ f2));exact EqAt.of_refs e (zdM kas kbs p1 p2 r1 r2 h3 f3 hu' fun a b x y u v _ ka kb ha hb ru rv=>ih a b x y u v A.in1 hin ka kb ha hb ru rv)
end
section
variable {X:Cx}{pJ:List (Addr×Obj)}{σ:L2.St}{H:Hp}{s:ω}{Γ:Gm}{g:G}
section
variable {A:ϡ}{l:Addr}{its:Array δ}{w:V}{v:δ}{d:D}
theorem XR (p:s.heap.IsTuple l its) (hu:A.units < Ϸ) (h:scD d=some w) (r:RelV w v):RcAt A s (.ref l) v false/\RcAt A s v (.ref l) false/\Ϩ A s (.ref l) v true/\Ϩ A s v (.ref l) true:=by
 cases d with
 | non=>cases h;cases (show v=ϩ from r);exact ⟨RcAt.tuple_none p hu,RcAt.none_tuple p hu,Ϩ.tuple_none p hu,Ϩ.none_tuple p hu⟩
 | bl b=>cases h;cases (show v=Ϡ b from r);exact ⟨RcAt.tuple_bool b p hu,RcAt.bool_tuple b p hu,Ϩ.tuple_bool b p hu,Ϩ.bool_tuple b p hu⟩
 | int i=>cases h;obtain ⟨t,rfl⟩:=(show ∃ t,v=aj i t from r);exact ⟨RcAt.tuple_int i t p hu,RcAt.int_tuple i t p hu,Ϩ.tuple_int i t p hu,Ϩ.int_tuple i t p hu⟩
 | str i=>cases h;obtain ⟨t,rfl⟩:=(show ∃ t,v=aW i t from r);exact ⟨RcAt.tuple_str i t p hu,RcAt.str_tuple i t p hu,Ϩ.tuple_str i t p hu,Ϩ.str_tuple i t p hu⟩
 | _=>cases h
theorem XS (p:s.heap.IsList l its) (hu:A.units < Ϸ) (h:scD d=some w) (r:RelV w v):RcAt A s (.ref l) v false/\RcAt A s v (.ref l) false/\Ϩ A s (.ref l) v true/\Ϩ A s v (.ref l) true:=by
 cases d with
 | non=>cases h;cases (show v=ϩ from r);exact ⟨RcAt.list_none p hu,RcAt.none_list p hu,Ϩ.list_none p hu,Ϩ.none_list p hu⟩
 | bl b=>cases h;cases (show v=Ϡ b from r);exact ⟨RcAt.list_bool b p hu,RcAt.bool_list b p hu,Ϩ.list_bool b p hu,Ϩ.bool_list b p hu⟩
 | int i=>cases h;obtain ⟨t,rfl⟩:=(show ∃ t,v=aj i t from r);exact ⟨RcAt.list_int i t p hu,RcAt.int_list i t p hu,Ϩ.list_int i t p hu,Ϩ.int_list i t p hu⟩
 | str i=>cases h;obtain ⟨t,rfl⟩:=(show ∃ t,v=aW i t from r);exact ⟨RcAt.list_str i t p hu,RcAt.str_list i t p hu,Ϩ.list_str i t p hu,Ϩ.str_list i t p hu⟩
 | _=>cases h
theorem zco {a b:D}{x y:V}{u v:δ}(h:scD a=some x) (h':scD b=some y) (r:RelV x u) (r':RelV y v):RcAt A s u v (eqP a b)/\Ϩ A s u v (!eqP a b):=by
 cases a with
 | non=>
  cases h;cases (show u=ϩ from r);cases b with
  | non=>cases h';cases (show v=ϩ from r');exact ⟨RcAt.none_none,Ϩ.none_none⟩
  | bl b=>cases h';cases (show v=Ϡ b from r');exact ⟨RcAt.none_bool _,Ϩ.none_bool _⟩
  | int b=>cases h';obtain ⟨t,rfl⟩:=(show ∃ t,v=aj b t from r');exact ⟨RcAt.none_int _ _,Ϩ.none_int _ _⟩
  | str b=>cases h';obtain ⟨t,rfl⟩:=(show ∃ t,v=aW b t from r');exact ⟨RcAt.none_str _ _,Ϩ.none_str _ _⟩
  | _=>cases h'
 | bl a=>
  cases h;cases (show u=Ϡ a from r);cases b with
  | non=>cases h';cases (show v=ϩ from r');exact ⟨RcAt.bool_none _,Ϩ.bool_none _⟩
  | bl b=>cases h';cases (show v=Ϡ b from r');exact ⟨RcAt.bool_bool _ _,Ϩ.bool_bool _ _⟩
  | int b=>cases h';obtain ⟨t,rfl⟩:=(show ∃ t,v=aj b t from r');exact ⟨RcAt.bool_int _ _ _,Ϩ.bool_int _ _ _⟩
  | str b=>cases h';obtain ⟨t,rfl⟩:=(show ∃ t,v=aW b t from r');exact ⟨RcAt.bool_str _ _ _,Ϩ.bool_str _ _ _⟩
  | _=>cases h'
 | int a=>
  cases h;obtain ⟨t',rfl⟩:=(show ∃ t,u=aj a t from r)
  cases b with
  | non=>cases h';cases (show v=ϩ from r');exact ⟨RcAt.int_none _ _,Ϩ.int_none _ _⟩
  | bl b=>cases h';cases (show v=Ϡ b from r');exact ⟨RcAt.int_bool _ _ _,Ϩ.int_bool _ _ _⟩
  | int b=>cases h';obtain ⟨t,rfl⟩:=(show ∃ t,v=aj b t from r');exact ⟨RcAt.int_int _ _ _ _,Ϩ.int_int _ _ _ _⟩
  | str b=>cases h';obtain ⟨t,rfl⟩:=(show ∃ t,v=aW b t from r');exact ⟨RcAt.int_str _ _ _ _,Ϩ.int_str _ _ _ _⟩
  | _=>cases h'
 | str a=>
  cases h;obtain ⟨t',rfl⟩:=(show ∃ t,u=aW a t from r)
  cases b with
  | non=>cases h';cases (show v=ϩ from r');exact ⟨RcAt.str_none _ _,Ϩ.str_none _ _⟩
  | bl b=>cases h';cases (show v=Ϡ b from r');exact ⟨RcAt.str_bool _ _ _,Ϩ.str_bool _ _ _⟩
  | int b=>cases h';obtain ⟨t,rfl⟩:=(show ∃ t,v=aj b t from r');exact ⟨RcAt.str_int _ _ _ _,Ϩ.str_int _ _ _ _⟩
  | str b=>cases h';obtain ⟨t,rfl⟩:=(show ∃ t,v=aW b t from r');exact ⟨RcAt.str_str _ _ _ _,Ϩ.str_str _ _ _ _⟩
  | _=>cases h'
 | _=>cases h
end
theorem uL {d:D}{w x:V}(h:scD d=some w) (hh:Rdb Γ H g d x):x=w:=by
 cases d <;> first | cases h | skip
 all_goals exact hh
theorem rc_D (I:Inv X pJ σ H s) (hK:X.K=Γ.K) (sr:Same g.R H) (n:Nat) (a b:D) (x y:V) (u v:δ) (A:ϡ) (hu:A.units+n+1 < Ϸ) (ka:okP n a=true) (kb:okP n b=true) (ha:Rdb Γ H g a x) (hb:Rdb Γ H g b y) (ru:RelV x u) (rv:RelV y v):
  RcAt A s u v (eqP a b)/\Ϩ A s u v (!eqP a b):=by
 have hu':A.units < Ϸ:=by lia
 rcases yh ka with ⟨w,hw⟩ | ⟨m,as,e,e1,kas⟩ | ⟨m,as,e,e1,kas⟩
 ·rcases yh kb with ⟨w',hw'⟩ | ⟨m,bs,e,e2,kbs⟩ | ⟨m,bs,e,e2,kbs⟩
  ·rw [uL hw ha] at ru;rw [uL hw' hb] at rv;exact zco hw hw' ru rv
  ·subst e2;rw [uL hw ha] at ru;obtain ⟨b,ys,rfl,f2,f3⟩:=hb;cases rv;obtain ⟨ws,r2,p2,_⟩:=I.tuple (SqT.of (sr _ _ f2));rw [(yl hw).1];have k:=XR (A:=A) (isT p2) hu' hw ru;exact ⟨k.2.1,k.2.2.2⟩
  ·subst e2;rw [uL hw ha] at ru;obtain ⟨b,ys,rfl,f2,f3⟩:=hb;cases rv;obtain ⟨ws,r2,p2,_⟩:=I.list (SqL.of f2);rw [(yl hw).2.2.1];have k:=XS (A:=A) p2.isList hu' hw ru;exact ⟨k.2.1,k.2.2.2⟩
 ·subst e1;cases e;have hin:A.in1.units+m+1 < Ϸ:=by rw [units_in1];lia
  obtain ⟨a,xs,rfl,h2,h3⟩:=ha;cases ru;obtain ⟨us,r1,p1,_⟩:=I.tuple (SqT.of (sr _ _ h2));rcases yh kb with ⟨w',hw'⟩ | ⟨m',bs,e,e2,kbs⟩ | ⟨m',bs,e,e2,kbs⟩
  ·rw [uL hw' hb] at rv;rw [(yl hw').2.1];have k:=XR (A:=A) (isT p1) hu' hw' rv;exact ⟨k.1,k.2.2.1⟩
  ·subst e2;cases e;obtain ⟨b,ys,rfl,f2,f3⟩:=hb;cases rv;obtain ⟨ws,r2,p2,_⟩:=I.tuple (SqT.of (sr _ _ f2));have it:=jL (A:=A.in1) kas kbs h3 f3 r1 r2 fun a b x y u v _ ka kb ha hb ru rv=>Y7 I hK sr m a b x y u v A.in1 hin ka kb ha hb ru rv
   have k1:=RcAt.tuples (isT p1) (isT p2) hu' it;have k2:=Ϩ.tuples (isT p1) (isT p2) hu' it;rw [zdL r1 r2 h3 f3] at k1 k2;exact ⟨k1,k2⟩
  ·subst e2;cases e;obtain ⟨b,ys,rfl,f2,f3⟩:=hb;cases rv;obtain ⟨ws,r2,p2,_⟩:=I.list (SqL.of f2);exact ⟨RcAt.tuple_list (isT p1) p2.isList hu',Ϩ.tuple_list (isT p1) p2.isList hu'⟩
 ·subst e1;cases e;have hin:A.in1.units+m+1 < Ϸ:=by rw [units_in1];lia
  obtain ⟨a,xs,rfl,h2,h3⟩:=ha;cases ru;obtain ⟨us,r1,p1,_⟩:=I.list (SqL.of h2);rcases yh kb with ⟨w',hw'⟩ | ⟨m',bs,e,e2,kbs⟩ | ⟨m',bs,e,e2,kbs⟩
  ·rw [uL hw' hb] at rv;rw [(yl hw').2.2.2];have k:=XS (A:=A) p1.isList hu' hw' rv;exact ⟨k.1,k.2.2.1⟩
  ·subst e2;cases e;obtain ⟨b,ys,rfl,f2,f3⟩:=hb;cases rv;obtain ⟨ws,r2,p2,_⟩:=I.tuple (SqT.of (sr _ _ f2));exact ⟨RcAt.list_tuple p1.isList (isT p2) hu',Ϩ.list_tuple p1.isList (isT p2) hu'⟩
  ·subst e2;cases e;obtain ⟨b,ys,rfl,f2,f3⟩:=hb;cases rv;obtain ⟨ws,r2,p2,_⟩:=I.list (SqL.of f2);have ih:∀ (a b:D) (x y:V) (u v:δ),a∈as->okP m a=true->okP m b=true->Has Γ g a x->Has Γ g b y->RelV x u->RelV y v->EqAt A.in1 s u v (eqP a b):=fun a b x y u v _ ka kb ha hb ru rv=>Y7 I hK sr m a b x y u v A.in1 hin ka kb ha hb ru rv
   refine ⟨zdM kas kbs p1 p2 r1 r2 h3 f3 hu' ih,?_⟩;have l1:=r1.length;have l2:=r2.length;have l3:=h3.len;have l4:=f3.len;show Ϩ A s _ _ (!eqPs as bs)
   by_cases hl:as.length=bs.length
   ·have k:=Ϩ.lists p1.isList p2.isList (by simp only [χ];lia) hu' (jL (A:=A.in1) kas kbs h3 f3 r1 r2 ih);have m1:us.toArray.size=as.length:=by simp only [χ];lia
    rw [m1,<- jP as bs hl] at k;exact k
   ·rw [jO as bs hl];exact Ϩ.lists_lengths (A:=A) p1.isList p2.isList (by simp only [χ,bne_iff_ne];lia) hu'
end
def rDat (Γ:Gm) (a b:D) (z:D):R2:=fun x y H Q=>∃ g,Same g.R H/\Rdb Γ H g a x/\Rdb Γ H g b y/\∀ v,(∀ g,Has Γ g z v)->Q v H
theorem Jr {Γ:Gm}{a b:D}{c:Bool}:RDo Γ (rDat Γ a b (.bl c)) a b (.bl c) false:=fun S H g x y Q w hx hy q=>⟨g,w.rh,hx,hy,fun v hv=>zf w q (hv g)⟩
section
variable {X:Cx}{Γ:Gm}
theorem zh5 (hK:X.K=Γ.K) (hu:X.A.units+61 < Ϸ) {a b:D}(ka:okP 60 a=true) (kb:okP 60 b=true):OpR X (Ϗ .Eq) (rDat Γ a b (.bl (eqP a b))):=by intro pJ s σ H x y v u Q I rx ry ⟨g,sr,ha,hb,q⟩;exact (rc_D I hK sr 60 a b x y v u X.A hu ka kb ha hb rx ry).1 X.prog X.w X.xe _ ⟨.bl _,H,I,rfl,q _ fun _=>rfl⟩
theorem zhZ (hK:X.K=Γ.K) (hu:X.A.units+61 < Ϸ) {a b:D}(ka:okP 60 a=true) (kb:okP 60 b=true):OpR X (Ϗ .NotEq) (rDat Γ a b (.bl (!eqP a b))):=by intro pJ s σ H x y v u Q I rx ry ⟨g,sr,ha,hb,q⟩;exact (rc_D I hK sr 60 a b x y v u X.A hu ka kb ha hb rx ry).2 X.prog X.w X.xe _ ⟨.bl _,H,I,rfl,q _ fun _=>rfl⟩
end
section
variable {Γ:Gm}{H:Hp}{g:G}
theorem ZL {d:D}{x:V}(h:Rdb Γ H g d x):decide (x=.non)=isNone d:=by
 cases d with
 | non=>cases (show x=.non from h);rfl
 | bl=>cases (show x=.bl _ from h);rfl
 | int=>cases (show x=.int _ from h);rfl
 | str=>cases (show x=.str _ from h);rfl
 | tup=>obtain ⟨_,_,rfl,_⟩:=h;rfl
 | lst=>obtain ⟨_,_,rfl,_⟩:=h;rfl
 | dK=>obtain ⟨_,_,rfl,_⟩:=h;rfl
 | dT=>obtain ⟨_,_,rfl,_⟩:=h;rfl
 | ref=>obtain ⟨_,rfl⟩:=h;rfl
 | fn=>obtain ⟨_,_,rfl⟩:=h;rfl
 | scr=>obtain ⟨_,rfl,_⟩:=h;rfl
 | ktp=>obtain ⟨_,_,rfl,_⟩:=h;rfl
 | kdc=>obtain ⟨_,rfl,_⟩:=h;rfl
 | dF=>obtain ⟨_,_,_,rfl,_⟩:=h;rfl
 | ins=>obtain ⟨_,rfl⟩:=h;rfl
theorem jJ {κ:Type} [DecidableEq κ] (k:κ):∀ {ks:List κ}{ds:List D}{vs:List V},ks.length=ds.length->Hass Γ g ds vs ->
  (∀ d,xV ks ds k=some d->∃ v,valV (ks.zip vs) k=some v/\Has Γ g d v)/\(xV ks ds k=none->valV (ks.zip vs) k=none)
 | [],[],vs,_,h=>by
  refine ⟨fun d e=>?_,fun _=>?_⟩
  ·simp [xV,yZ] at e
  ·rfl
 | k'::ks,d'::ds,vs,hl,⟨v,r,e1,hv,hr⟩=>by
  subst e1;have ih:=jJ k (ks:=ks) (ds:=ds) (vs:=r) (by simpa using hl) hr;show (∀ d,xV (k'::ks) (d'::ds) k=some d->∃ v',valV ((k',v)::ks.zip r) k=some v'/\_)/\(_->valV ((k',v)::ks.zip r) k=none)
  by_cases e:k'=k
  ·have e2:xV (k'::ks) (d'::ds) k=some d':=by simp [xV,yZ,e]
   rw [e2,v7 (p:=(k',v)) e];exact ⟨fun d h=>⟨v,rfl,by cases h;exact hv⟩,fun h=>by cases h⟩
  ·have e2:xV (k'::ks) (d'::ds) k=xV ks ds k:=by simp only [xV,yZ,if_neg e];cases yZ ks k <;> rfl
   rw [e2,v8 (p:=(k',v)) e];exact ih
 | [],_::_,_,hl,_=>by simp at hl
 | _::_,[],_,hl,_=>by simp at hl
theorem zfI {d:D}{k:Key}{x:V}(h:keyD d=some k) (hh:Rdb Γ H g d x):x=kV k:=by
 cases d <;> first | cases h | skip
 all_goals exact hh
theorem JN {d:D}{k:Key}{x:V}(h:keyD d=some k) (hh:Has Γ g d x):x=kV k:=by
 cases d <;> first | cases h | skip
 all_goals exact hh
set_option tactic.hygienic true in
theorem jK:∀ {l:List D}{ks:List Key}{xs:List V},YH l=some ks->Hass Γ g l xs->xs=ks.map kV
 | [],ks,xs,h,hh=>by cases (show some []=some ks from h);exact hh
 | d::l,ks,xs,h,⟨v,r,e,hv,hr⟩=>by
  subst e;simp only [YH] at h;split at h
  ·rename_i k ks' e1 e2
   cases h;rw [JN e1 hv,jK e2 hr];rfl
  ·cases h
theorem WR {S:Store}{c k:D}{o:Option D}{x y:V}(w:WOk Γ H g S) (h:wN c k=some o) (hc:Rdb Γ H g c x) (hk:Rdb Γ H g k y):
  ∃ a v,x=.ref a/\DGet H a y v/\IsD H a/\(∀ d,o=some d->∃ u,v=some u/\Has Γ g d u)/\(o=none->v=none):=by
 cases c with
 | dK ks ds=>
  obtain ⟨a,vs,rfl,h1,h2,h3⟩:=hc;simp only [wN,Λ] at h;obtain ⟨k',e1,e2⟩:=h;obtain ⟨z1,z2⟩:=jJ k' h2 h3;refine ⟨a,valV (ks.zip vs) k',rfl,.inl ⟨_,k',.inl h1,zfI e1 hk,rfl⟩,.inl ⟨_,.inl h1⟩,fun d e=>?_,fun e=>?_⟩
  ·exact z1 d (e2.trans e)
  ·exact z2 (e2.trans e)
 | dT ks ds=>
  obtain ⟨a,vs,rfl,h1,h2,h3⟩:=hc;cases k with
  | tup t=>
   obtain ⟨b,ys,rfl,f1,f2⟩:=hk;simp only [wN,Λ] at h;obtain ⟨k',e1,e2⟩:=h;obtain ⟨z1,z2⟩:=jJ k' h2 h3;have ey:=jK e1 f2;refine ⟨a,valV (ks.zip vs) k',rfl,.inr ⟨_,k',b,.inl h1,rfl,by rw [<- ey];exact w.rh _ _ f1,rfl⟩,.inr ⟨_,.inl h1⟩,fun d e=>?_,fun e=>?_⟩
   ·exact z1 d (e2.trans e)
   ·exact z2 (e2.trans e)
  | _=>cases h
 | dF ks ds=>
  obtain ⟨a,vs,o,rfl,h1,h2,h3⟩:=hc;cases k with
  | tup t=>
   obtain ⟨b,ys,rfl,f1,f2⟩:=hk;simp only [wN,Λ] at h;obtain ⟨k',e1,e2⟩:=h;obtain ⟨z1,z2⟩:=jJ k' h2 h3;have ey:=jK e1 f2;refine ⟨a,valV (ks.zip vs) k',rfl,.inr ⟨_,k',b,.inr ⟨o,h1⟩,rfl,by rw [<- ey];exact w.rh _ _ f1,rfl⟩,.inr ⟨_,.inr ⟨o,h1⟩⟩,fun d e=>?_,fun e=>?_⟩
   ·exact z1 d (e2.trans e)
   ·exact z2 (e2.trans e)
  | _=>cases h
 | _=>cases h
end
section
variable {X:Cx}{Γ:Gm}
def rInD (neg:Bool):R2:=fun x y H Q=>∃ a o,y=.ref a/\DGet H a x o/\Q (.bl (if neg then !o.isSome else o.isSome)) H
theorem zh4 (hu:X.A.units+1 < Ϸ):OpR X (Ϗ .In) (rInD false):=by intro pJ s σ H x y v u Q I rx ry ⟨a,o,e,h,q⟩;subst e;cases ry;exact d_in hu I h rx fun s' I'=>⟨.bl o.isSome,H,I',rfl,q⟩
theorem zax (hu:X.A.units+1 < Ϸ):OpR X (Ϗ .NotIn) (rInD true):=by intro pJ s σ H x y v u Q I rx ry ⟨a,o,e,h,q⟩;subst e;cases ry;exact zf3 hu I h rx fun s' I'=>⟨.bl (!o.isSome),H,I',rfl,q⟩
theorem zjy {H:Hp}{g:G}{S:Store}{d:D}{l:List D}{x:V}(hK:X.K=Γ.K) (w:WOk Γ H g S) (h:seqD d=some l) (hd:Rdb Γ H g d x):∃ a xs,x=.ref a/\(SqL X.K H a xs\/SqT X.K H a xs)/\Hass Γ g l xs:=by
 cases d with
 | tup ds=>cases h;obtain ⟨a,vs,e,h1,h2⟩:=hd;exact ⟨a,vs,e,.inr (SqT.of (w.rh _ _ h1)),h2⟩
 | lst ds=>cases h;obtain ⟨a,vs,e,h1,h2⟩:=hd;exact ⟨a,vs,e,.inl (SqL.of h1),h2⟩
 | scr ns=>cases h;obtain ⟨a,e,h1⟩:=hd;exact ⟨a,_,e,.inl (by rw [hK];exact h1),Hass.ints⟩
 | ktp ds=>cases h;obtain ⟨a,vs,e,h1,h2⟩:=hd;exact ⟨a,vs,e,.inr (by rw [hK];exact .inr h1),h2⟩
 | _=>cases h
theorem ziO {H:Hp}{g:G}{a:D}{x:V}(h:isSc a=true) (hx:Rdb Γ H g a x):Has Γ g a x:=by
 cases a with
 | non | bl _ | int _ | str _ | tup _=>exact hx
 | _=>cases (show false=true from h)
theorem zg1 {a:D}(h:isSc a=true):okP 59 a=true:=by
 cases a with
 | lst _=>cases (show false=true from h)
 | _=>exact h
noncomputable def memE (Γ:Gm) (g:G) (l:List D) (a:D) (w:δ):Bool:=@decide (∃ d∈l,∃ y,Has Γ g d y/\RelV y w/\eqP d a=true) (eZ _)
theorem jG {g:G}{l:List D}{a:D}{w:δ}:memE Γ g l a w=true ↔ ∃ d∈l,∃ y,Has Γ g d y/\RelV y w/\eqP d a=true:=⟨@of_decide_eq_true _ (eZ _),@decide_eq_true _ (eZ _)⟩
theorem zdZ {g:G}:∀ {l:List D}{xs:List V}{us:List δ},Hass Γ g l xs->Vals xs us->∀ d∈l,∃ y w,w∈us/\Has Γ g d y/\RelV y w
 | [],_,_,_,_,d,hd=>by cases hd
 | c::l,_,_,⟨v,r,rfl,hc,hr⟩,.cons q t,d,hd=>by
  rcases ψ.mp hd with rfl | hd
  ·exact ⟨v,_,θ,hc,q⟩
  ·obtain ⟨y,w,h1,h2⟩:=zdZ hr t d hd;exact ⟨y,w,ι _ h1,h2⟩
theorem zaI {g:G}:∀ {l:List D}{xs:List V}{us:List δ},Hass Γ g l xs->Vals xs us->∀ w∈us,∃ d∈l,∃ y,Has Γ g d y/\RelV y w
 | [],_,_,h,t,w,hw=>by cases (show _=[] from h);cases t;cases hw
 | c::l,_,_,⟨v,r,rfl,hc,hr⟩,.cons q t,w,hw=>by
  rcases ψ.mp hw with rfl | hw
  ·exact ⟨c,θ,v,hc,q⟩
  ·obtain ⟨d,h1,h2⟩:=zaI hr t w hw;exact ⟨d,ι _ h1,h2⟩
theorem jH {g:G}{l:List D}{a:D}{xs:List V}{us:List δ}(h:Hass Γ g l xs) (t:Vals xs us):us.toArray.any (memE Γ g l a)=l.any fun d=>eqP d a:=by
 rw [show us.toArray.any (memE Γ g l a)=us.any (memE Γ g l a) by simp,d9,Ϧ,Ϧ];constructor
 ·rintro ⟨w,_,e⟩;obtain ⟨d,hd,_,_,_,q⟩:=jG.mp e;exact ⟨d,hd,q⟩
 ·rintro ⟨d,hd,q⟩;obtain ⟨y,w,h1,h2,h3⟩:=zdZ h t d hd;exact ⟨w,h1,jG.mpr ⟨d,hd,y,h2,h3,q⟩⟩
theorem YG {pJ:List (Addr×Obj)}{σ:L2.St}{H:Hp}{s:ω}{g:G}{l:List D}{a:D}{x:V}{v:δ}{xs:List V}{us:List δ}(I:Inv X pJ σ H s) (hK:X.K=Γ.K) (sr:Same g.R H) (hu:X.A.units+61 < Ϸ) (ka:isSc a=true) (kl:l.all isSc=true) (hx:Rdb Γ H g a x) (rx:RelV x v) (h:Hass Γ g l xs) (t:Vals xs us) (w:δ) (hw:w∈us.toArray):ig X.A.in1 s w v (memE Γ g l a w):=by
 have go:∀ d∈l,∀ y,Has Γ g d y->RelV y w->ig X.A.in1 s w v (eqP d a):=fun d hd y h1 h2=>Y7 I hK sr 59 d a y x w v _ (by rw [units_in1];omega) (zg1 (ν.mp kl d hd)) (zg1 ka) h1 (ziO ka hx) h2 rx
 cases e:memE Γ g l a w with
 | true=>
  obtain ⟨d,hd,y,h1,h2,q⟩:=jG.mp e;rw [<- q];exact go d hd y h1 h2
 | false=>
  obtain ⟨d,hd,y,h1,h2⟩:=zaI h t w (by simpa using hw);have q:eqP d a=false:=oR.mpr fun q=>oR.mp e (jG.mpr ⟨d,hd,y,h1,h2,q⟩)
  rw [<- q];exact go d hd y h1 h2
theorem ziK {l:List D}{a b:D}{c:Bool}(hK:X.K=Γ.K) (hu:X.A.units+61 < Ϸ) (hs:seqD b=some l) (h:memD l a=some c):(∃ r,OpR X (Ϗ .In) r/\RDo Γ r a b (.bl c) false)/\∃ r,OpR X (Ϗ .NotIn) r/\RDo Γ r a b (.bl (!c)) false:=by
 have h:(if (isSc a&&l.all isSc)=true then some (l.any fun y=>eqP y a) else none)=some c:=h;by_cases hf:(isSc a&&l.all isSc)=true
 ·rw [if_pos hf] at h;cases h;rw [ζ] at hf;refine ⟨⟨fun x y H Q=>∃ g S,WOk Γ H g S/\Rdb Γ H g a x/\Rdb Γ H g b y/\∀ v,(∀ g,Has Γ g (.bl (l.any fun y=>eqP y a)) v)->Q v H,?_,fun S H g x y Q w hx hy q=>⟨g,S,w,hx,hy,fun v hv=>zf w q (hv g)⟩⟩,fun x y H Q=>∃ g S,WOk Γ H g S/\Rdb Γ H g a x/\Rdb Γ H g b y/\∀ v,(∀ g,Has Γ g (.bl (!l.any fun y=>eqP y a)) v)->Q v H,?_,fun S H g x y Q w hx hy q=>⟨g,S,w,hx,hy,fun v hv=>zf w q (hv g)⟩⟩
  all_goals
   intro pJ s σ H x y v u Q I rx ry ⟨g,S,w,hx,hy,q⟩;obtain ⟨p,xs,e,hq,hh⟩:=zjy hK w hs hy;subst e;cases ry;rcases hq with hq | hq
  ·obtain ⟨its,r,pl,hz⟩:=I.list hq;refine PySem.SeqAt.in_listAt (memE Γ g l a) pl.isList (YG I hK w.rh hu hf.1 hf.2 hx rx hh r) ⟨.bl _,H,I,rfl,?_⟩;rw [jH hh r];exact q _ fun _=>rfl
  ·obtain ⟨its,r,pl,hz⟩:=I.tuple hq;refine PySem.SeqAt.in_tupleAt (memE Γ g l a) pl (YG I hK w.rh hu hf.1 hf.2 hx rx hh r) ⟨.bl _,H,I,rfl,?_⟩;rw [jH hh r];exact q _ fun _=>rfl
  ·obtain ⟨its,r,pl,hz⟩:=I.list hq;refine PySem.SeqAt.notIn_listAt (memE Γ g l a) pl.isList (YG I hK w.rh hu hf.1 hf.2 hx rx hh r) ⟨.bl _,H,I,rfl,?_⟩;rw [jH hh r];exact q _ fun _=>rfl
  ·obtain ⟨its,r,pl,hz⟩:=I.tuple hq;refine PySem.SeqAt.notIn_tupleAt (memE Γ g l a) pl (YG I hK w.rh hu hf.1 hf.2 hx rx hh r) ⟨.bl _,H,I,rfl,?_⟩;rw [jH hh r];exact q _ fun _=>rfl
 ·rw [if_neg hf] at h;cases h
theorem zbc {a b:D}{neg:Bool}{o:Option D}(hu1:X.A.units+1 < Ϸ) (e:wN b a=some o):RDo Γ (rInD neg) a b (.bl (if neg then !o.isSome else o.isSome)) false:=by
 intro S H g x y Q w hx hy q;obtain ⟨p,v,e1,e2,_,e3,e4⟩:=WR w e hy hx;refine ⟨p,v,e1,e2,zf w q ?_⟩;cases o with
 | none=>rw [e4 rfl];rfl
 | some d=>obtain ⟨z,hz,_⟩:=e3 d rfl;rw [hz];rfl
theorem Y0 {f:Int->Int->Bool}{a b:D}{c:Bool}(h:int2 f a b=some c):∃ i j,a=.int i/\b=.int j/\c=f i j:=by
 cases a with
 | int i=>
  cases b with
  | int j=>cases h;exact ⟨i,j,rfl,rfl,rfl⟩
  | _=>cases h
 | _=>cases h
theorem zbd {a b:D}{c:Bool}(hK:X.K=Γ.K) (hu:X.A.units+61 < Ϸ) (hu1:X.A.units+1 < Ϸ) (h:inD a b=some c):(∃ r,OpR X (Ϗ .In) r/\RDo Γ r a b (.bl c) false)/\∃ r,OpR X (Ϗ .NotIn) r/\RDo Γ r a b (.bl (!c)) false:=by
 have sq:∀ l,seqD b=some l->memD l a=some c->(∃ r,OpR X (Ϗ .In) r/\RDo Γ r a b (.bl c) false)/\∃ r,OpR X (Ϗ .NotIn) r/\RDo Γ r a b (.bl (!c)) false:=fun l h1 h2=>ziK hK hu h1 h2
 have dc:(wN b a).map (·.isSome)=some c->(∃ r,OpR X (Ϗ .In) r/\RDo Γ r a b (.bl c) false)/\∃ r,OpR X (Ϗ .NotIn) r/\RDo Γ r a b (.bl (!c)) false:=fun h=>by obtain ⟨o,e,rfl⟩:=Λ.mp h;exact ⟨⟨_,zh4 hu1,zbc (neg:=false) hu1 e⟩,_,zax hu1,zbc (neg:=true) hu1 e⟩
 cases b with
 | lst l=>exact sq l rfl h
 | tup l=>exact sq l rfl h
 | ktp l=>exact sq l rfl h
 | str y=>
  cases a with
  | str x=>
   cases h;exact ⟨⟨_,zaz,fun S H g u v Q w hx hy q=>⟨x,y,hx,hy,zf w q rfl⟩⟩,_,Wg,fun S H g u v Q w hx hy q=>⟨x,y,hx,hy,zf w q rfl⟩⟩
  | _=>cases h
 | dK ks ds=>exact dc h
 | dT ks ds=>exact dc h
 | dF ks ds=>exact dc h
 | _=>cases h
theorem za7 {a b:D}{c:Bool}(h:isD a b=some c):(∃ r,OpR X (Ϗ .Is) r/\RDo Γ r a b (.bl c) false)/\∃ r,OpR X (Ϗ .IsNot) r/\RDo Γ r a b (.bl (!c)) false:=by
 cases b with
 | non=>
  cases h;exact ⟨⟨_,zh2,fun S H g x y Q w hx hy q=>⟨hy,zf w q (by rw [ZL hx];rfl)⟩⟩,_,zfh,fun S H g x y Q w hx hy q=>⟨hy,zf w q (by rw [ZL hx];rfl)⟩⟩
 | bl j=>
  cases a with
  | bl i=>
   cases h;exact ⟨⟨_,zh3,fun S H g x y Q w hx hy q=>⟨_,_,hx,hy,zf w q rfl⟩⟩,_,zfi,fun S H g x y Q w hx hy q=>⟨_,_,hx,hy,zf w q rfl⟩⟩
  | _=>cases h
 | _=>cases h
theorem zeb {a b:D}{c:Bool}(h:eqD a b=some c):okP 60 a=true/\okP 60 b=true/\c=eqP a b:=by
 have h:(if (okP 60 a&&okP 60 b)=true then some (eqP a b) else none)=some c:=h;by_cases hk:(okP 60 a&&okP 60 b)=true
 ·rw [if_pos hk] at h;cases h;rw [ζ] at hk;exact ⟨hk.1,hk.2,rfl⟩
 ·rw [if_neg hk] at h;cases h
theorem ints_of {g:G}:∀ {l:List D}{ns:List Int}{xs:List V},YZ l=some ns->Hass Γ g l xs->xs=ns.map V.int
 | [],ns,xs,h,hh=>by cases (show some []=some ns from h);exact hh
 | d::l,ns,xs,h,⟨v,r,e,hv,hr⟩=>by
  subst e;cases d with
  | int i=>
   simp only [YZ,Λ] at h;obtain ⟨ms,e1,e2⟩:=h;subst e2;rw [show v=V.int i from hv,ints_of e1 hr];rfl
  | _=>cases h
theorem kv_mem {kvs:List (Key×V)}{vs:List (Key×δ)}(r:KV kvs vs):∀ p∈vs,∃ q∈kvs,q.1=p.1/\RelV q.2 p.2:=by
 unfold KV at r
 induction r with
 | nil=>intro p hp;cases hp
 | cons h t ih=>
  intro p hp;rcases ψ.mp hp with rfl | hp
  ·exact ⟨_,θ,h⟩
  ·obtain ⟨q,hq,e⟩:=ih p hp;exact ⟨q,ι _ hq,e⟩
theorem Qy:∀ {kvs:List (Key×V)},(kvs.map (·.1)).Nodup->∀ q∈kvs,valV kvs q.1=some q.2
 | [],_,q,hq=>by cases hq
 | p::r,h,q,hq=>by
  rw [ϒ,bf] at h;rcases ψ.mp hq with rfl | hq
  ·exact v7 rfl
  ·rw [v8 fun e=>h.1 (by rw [e];exact bZ hq)];exact Qy h.2 q hq
theorem zbe {A:ϡ}{s:ω}{kb:List (Key×δ)}:∀ (r:List (Key×δ)),(∀ p∈r,∃ i t t',p.2=aj i t/\gY kb p.1=some (.int i t'))->W.KeqHits A s kb r true
 | [],_=>.nil
 | (k,v)::r,h=>by obtain ⟨i,t,t',e1,e2⟩:=h (k,v) θ;have e1:v=.int i t:=e1;subst e1;have q:=ig.int_int (A:=A) (s:=s) i t i t';rw [beq_self_eq_true] at q;exact .hit (e:=true) (b:=true) e2 q (zbe r fun p hp=>h p (ι _ hp))
def rNeD:R2:=fun x y H Q=>∃ a b kvs,x=.ref a/\y=.ref b/\Rd H a (.dK kvs)/\Rd H b (.dK kvs)/\(kvs.map (·.1)).Nodup/\(∀ p∈kvs,∃ i,p.2=V.int i)/\Q (.bl false) H
theorem zay (hu:X.A.units < Ϸ):OpR X (Ϗ .NotEq) rNeD:=by
 intro pJ s σ H x y v u Q I rx ry ⟨a,b,kvs,e1,e2,ha,hb,hn,hi,q⟩;subst e1 e2;cases rx;cases ry;obtain ⟨_,sa,va,ra,da⟩:=Y8 I.hok ha;obtain ⟨_,sb,vb,rb,db⟩:=Y8 I.hok hb;refine W.keq_ne (r:=true) sa sb da db hu (fun _=>zbe va fun p hp=>?_) ?_
 ·obtain ⟨z,hz,e1,e2⟩:=kv_mem ra p hp;obtain ⟨i,e3⟩:=hi z hz;rw [e3] at e2;obtain ⟨t,e2⟩:=e2;have rv:=rb.val z.1;rw [Qy hn z hz,e3,e1] at rv;cases e4:gY vb p.1 with
  | none=>rw [e4] at rv;exact rv.elim
  | some w=>
   rw [e4] at rv;obtain ⟨t',e5⟩:=(show RelV (.int i) w from rv)
   exact ⟨i,t,t',e2,by rw [e5]⟩
 ·rw [<- ra.length,<- rb.length,beq_self_eq_true];exact ⟨.bl false,H,I,rfl,q⟩
set_option tactic.hygienic true in
theorem zic {ks ks':List Key}{vs vs':List D}{c:Bool}(h:neD (.dK ks vs) (.dK ks' vs')=some c):RDo Γ rNeD (.dK ks vs) (.dK ks' vs') (.bl c) false:=by
 have h:(if (decide (ks=ks')&&decide ks.Nodup&&decide (YZ vs=YZ vs')&&(YZ vs).isSome)=true then some false else none)=some c:=h;split at h
 ·rename_i hc
  cases h;simp only [ζ,decide_eq_true_eq] at hc;obtain ⟨⟨⟨e1,hn⟩,e2⟩,e3⟩:=hc;subst e1;intro S H g x y Q w ⟨a,xs,hx,h1,h2,h3⟩ ⟨b,ys,hy,f1,f2,f3⟩ q;obtain ⟨ns,e4⟩:=lX.mp e3;have z1:=ints_of e4 h3;have z2:=ints_of (e2.symm.trans e4) f3;refine ⟨a,b,ks.zip (ns.map V.int),hx,hy,.inl (by rw [h1,z1]),.inl (by rw [f1,z2]),?_,fun p hp=>?_,zf w q rfl⟩
  ·rw [List.map_fst_zip (by rw [<- z1,h3.len,<- h2];exact Α _)];exact hn
  ·obtain ⟨i,_,e⟩:=Ο.mp (d7 hp).2;exact ⟨i,e.symm⟩
 ·cases h
theorem zf8 {op:gQ}{a b:D}{c:Bool}(hK:X.K=Γ.K) (hu:X.A.units+61 < Ϸ) (h:cmpD op a b=some c):∃ r,OpR X (Ϗ op) r/\RDo Γ r a b (.bl c) false:=by
 have hu1:X.A.units+1 < Ϸ:=by lia
 cases op with
 | Eq=>
  obtain ⟨h1,h2,rfl⟩:=zeb h;exact ⟨_,zh5 hK hu h1 h2,Jr⟩
 | NotEq=>
  have old:(eqD a b).map (!·)=some c->∃ r,OpR X (Ϗ .NotEq) r/\RDo Γ r a b (.bl c) false:=fun h=>by obtain ⟨c',e,rfl⟩:=Λ.mp h;obtain ⟨h1,h2,rfl⟩:=zeb e;exact ⟨_,zhZ hK hu h1 h2,Jr⟩
  have h:neD a b=some c:=h;cases a with
  | dK ks vs=>
   cases b with
   | dK ks' vs'=>exact ⟨_,zay (by lia),zic h⟩
   | _=>exact old h
  | _=>exact old h
 | Lt=>obtain ⟨i,j,rfl,rfl,rfl⟩:=Y0 h;exact ⟨_,zkm,fun S H g x y Q w hx hy q=>⟨_,_,hx,hy,zf w q rfl⟩⟩
 | LtE=>obtain ⟨i,j,rfl,rfl,rfl⟩:=Y0 h;exact ⟨_,zkn,fun S H g x y Q w hx hy q=>⟨_,_,hx,hy,zf w q rfl⟩⟩
 | Gt=>obtain ⟨i,j,rfl,rfl,rfl⟩:=Y0 h;exact ⟨_,zko,fun S H g x y Q w hx hy q=>⟨_,_,hx,hy,zf w q rfl⟩⟩
 | GtE=>obtain ⟨i,j,rfl,rfl,rfl⟩:=Y0 h;exact ⟨_,zkp,fun S H g x y Q w hx hy q=>⟨_,_,hx,hy,zf w q rfl⟩⟩
 | Is=>exact (za7 h).1
 | IsNot=>
  obtain ⟨c',e,rfl⟩:=Λ.mp (show (isD a b).map (!·)=some c from h);exact (za7 e).2
 | In=>exact (zbd hK hu hu1 h).1
 | NotIn=>
  obtain ⟨c',e,rfl⟩:=Λ.mp (show (inD a b).map (!·)=some c from h);exact (zbd hK hu hu1 e).2
def rIxD:R2:=fun x y H Q=>∃ a v,x=.ref a/\DGet H a y (some v)/\Q v H
theorem Ul (hu:X.A.units+1 < Ϸ):IxR X rIxD:=by intro value slice pJ s σ H x y v u Q I rx ry ⟨a,z,e,g,q⟩ hs;subst e;cases rx;exact tail_any (Us I g) PySem.F.slot_dict_getitem.lookup (zbt hu I g ry fun w' s' I' r'=>⟨z,H,I',r',q⟩) hs
theorem zbQ {g:G}{l:List D}{xs:List V}{i:Int}{d:D}(h:Hass Γ g l xs) (e:((ixN l.length i).bind fun k=>l[k]?)=some d):∃ v,atI xs i=some v/\Has Γ g d v:=by obtain ⟨k,e1,e2⟩:=ϐ.mp e;obtain ⟨v,hv,hd⟩:=h.get e2;refine ⟨v,?_,hd⟩;unfold atI;rw [h.len,e1];exact hv
set_option tactic.hygienic true in
theorem ziv {a b d:D}(hK:X.K=Γ.K) (hu:X.A.units+1 < Ϸ) (h:subD a b=some d):∃ r,IxR X r/\RDo Γ r a b d false:=by
 unfold subD at h;split at h
 ·refine ⟨_,zit,fun S H g x y Q w ⟨p,xs,e,h1,h2⟩ hy q=>?_⟩;obtain ⟨v,e1,e2⟩:=zbQ h2 h;exact ⟨p,xs,_,v,e,hy,SqT.of (w.rh _ _ h1),e1,zf w q e2⟩
 ·refine ⟨_,za3,fun S H g x y Q w ⟨p,xs,e,h1,h2⟩ hy q=>?_⟩;obtain ⟨v,e1,e2⟩:=zbQ h2 h;exact ⟨p,xs,_,v,e,hy,SqL.of h1,e1,zf w q e2⟩
 ·rename_i l i
  refine ⟨_,za3,fun S H g x y Q w ⟨p,e,h1⟩ hy q=>?_⟩;have h':((ixN (l.map D.int).length i).bind fun k=>(l.map D.int)[k]?)=some d:=by rw [υ];simpa [Ρ] using h
  obtain ⟨v,e1,e2⟩:=zbQ (Hass.ints (Γ:=Γ) (g:=g)) h';exact ⟨p,_,_,v,e,hy,by rw [hK];exact h1,e1,zf w q e2⟩
 ·split at h
  ·rename_i hf
   obtain ⟨k,e1,e2⟩:=ϐ.mp h;obtain ⟨c,e3,e4⟩:=Λ.mp e2;subst e4;refine ⟨_,ziu,fun S H g x y Q w hx hy q=>⟨_,_,c,hx,hy,wL hf,?_,zf w q rfl⟩⟩;unfold atI;have e1':ixN _ _=some k:=e1;rw [e1'];exact e3
  ·cases h
 ·obtain ⟨o,e1,e2⟩:=ϐ.mp h;refine ⟨_,Ul hu,fun S H g x y Q w hx hy q=>?_⟩;obtain ⟨p,v,f1,f2,_,f3,_⟩:=WR w e1 hx hy;obtain ⟨z,hz,hd⟩:=f3 d e2;exact ⟨p,z,f1,by rw [<- hz];exact f2,zf w q hd⟩
 ·obtain ⟨o,e1,e2⟩:=ϐ.mp h;refine ⟨_,Ul hu,fun S H g x y Q w hx hy q=>?_⟩;obtain ⟨p,v,f1,f2,_,f3,_⟩:=WR w e1 hx hy;obtain ⟨z,hz,hd⟩:=f3 d e2;exact ⟨p,z,f1,by rw [<- hz];exact f2,zf w q hd⟩
 ·obtain ⟨o,e1,e2⟩:=ϐ.mp h;refine ⟨_,Ul hu,fun S H g x y Q w hx hy q=>?_⟩;obtain ⟨p,v,f1,f2,_,f3,_⟩:=WR w e1 hx hy;obtain ⟨z,hz,hd⟩:=f3 d e2;exact ⟨p,z,f1,by rw [<- hz];exact f2,zf w q hd⟩
 ·cases h
theorem Ut {g:G}{l:List D}{xs:List V}(lo hi:Option Int) (h:Hass Γ g l xs):Hass Γ g (cutD l lo hi) (cutV xs lo hi):=by unfold cutD cutV;rw [h.len];exact (h.drop _).take _
def RDs (Γ:Gm) (r:V->Option Int->Option Int->Hp->VK->Prop) (a:D) (lo hi:Option Int) (d:D) (fr:Bool):Prop:=
 ∀ (S:Store) (H:Hp) (g:G) (x:V) (Q:VK),WOk Γ H g S->Rdb Γ H g a x->Fin Γ H g S d fr Q->r x lo hi H Q
def rSlS:V->Option Int->Option Int->Hp->VK->Prop:=fun x lo hi H Q=>∃ z,x=.str z/\z.length<=sizeLine/\Q (.str (iK z lo hi)) H
theorem zaw {v:δ}{o:Option Int}(h:ir v o):∃ p:Option (Int×Tok),v=partValue p/\p.map (·.1)=o:=by
 cases h with
 | none=>exact ⟨none,rfl,rfl⟩
 | int i t=>exact ⟨some (i,t),rfl,rfl⟩
theorem zgY:SlR X rSlS:=by intro pJ s σ H x v vl vu lo hi sl Q I rx hs pl pu ⟨z,e,hz,q⟩;subst e;obtain ⟨t,rfl⟩:=rx;obtain ⟨p,rfl,rfl⟩:=zaw pl;obtain ⟨p',rfl,rfl⟩:=zaw pu;refine ⟨"str",_,PySem.F.slot_str_getitem.lookup,typeIs_str _ _ _,wpAny_getItem_str_slice (l:=p) (u:=p') (st:=none) hs rfl ?_⟩;exact post_val_or_str ⟨Ϛ (Txt.slice_le z _ _) hz,fun t' k=>⟨.str (iK z (p.map (·.1)) (p'.map (·.1))),H,I.tok _,⟨t',rfl⟩,q⟩⟩
set_option tactic.hygienic true in
theorem zgZ {a d:D}{lo hi:Option Int}{fr:Bool}(hK:X.K=Γ.K) (h:slcD a lo hi=some (d,fr)):∃ r,SlR X r/\RDs Γ r a lo hi d fr:=by
 unfold slcD at h;split at h
 ·rename_i l
  cases h;refine ⟨_,zgX.or zeD,fun S H g x Q w ⟨p,xs,e,h1,h2⟩ q=>?_⟩;by_cases hw:HT.sIx xs.length 0 lo=0/\HT.sIx xs.length xs.length hi=xs.length
  ·refine .inr ⟨p,xs,e,SqT.of (w.rh _ _ h1),hw,zf w q ?_⟩;have ec:cutD l lo hi=l:=by unfold cutD;rw [<- h2.len,hw.1,hw.2,List.drop_zero,Nat.sub_zero,gh (by rw [h2.len];exact Α _)]
   rw [ec];exact ⟨p,xs,rfl,h1,h2⟩
  ·exact .inl ⟨p,xs,e,SqT.of (w.rh _ _ h1),hw,fun b hb=>Y5 w q (Ut lo hi h2) hb⟩
 ·cases h;exact ⟨_,Q0,fun S H g x Q w ⟨p,xs,e,h1,h2⟩ q=>⟨p,xs,e,SqL.of h1,fun b hb=>v5 w q (Ut lo hi h2) hb⟩⟩
 ·cases h;exact ⟨_,Q0,fun S H g x Q w ⟨p,e,h1⟩ q=>⟨p,_,e,by rw [hK];exact h1,fun b hb=>v5 w q (Ut lo hi Hass.ints) hb⟩⟩
 ·split at h
  ·rename_i hf
   cases h;exact ⟨_,zgY,fun S H g x Q w hx q=>⟨_,hx,wL hf,zf w q rfl⟩⟩
  ·cases h
 ·cases h
end
noncomputable def SetX (w:ϕ) (a:Addr) (ks:List Str):HO:=.ext fun h=>TS.Ts w h a (TS.ledW w) ks
theorem U7:∀ {xs:List Str}{us:List δ},Vals (xs.map V.str) us->us.map TS.strV=xs/\∀ v∈us,TS.IsTx v
 | [],_,.nil=>⟨rfl,fun v h=>nomatch h⟩
 | x::xs,_,.cons r q=>by
  obtain ⟨t,rfl⟩:=r;obtain ⟨h1,h2⟩:=U7 q;refine ⟨by rw [ϒ,h1];rfl,fun v hv=>?_⟩;rcases ψ.mp hv with rfl | hv
  ·exact ⟨x,t,rfl⟩
  ·exact h2 v hv
theorem Ja:∀ {us:List δ},(∀ v∈us,TS.IsTx v)->Vals ((us.map TS.strV).map V.str) us
 | [],_=>.nil
 | u::us,h=>by obtain ⟨x,t,rfl⟩:=h u θ;exact .cons ⟨t,rfl⟩ (Ja fun v hv=>h v (ι _ hv))
theorem zkB {X:Cx}{pJ:List (Addr×Obj)}{σ:L2.St}{H:Hp}{s:ω}{h':Heap}{a:Addr}{o:HO}{t':Nat}{d':Drawn}(I:L2.Inv X pJ σ H s) (k:∀ b u,s.heap.get? b=some u->h'.get? b=some u) (hp:s.heap.objs.size<=a) (new:z8 X.prog X.w (upd H a o) h' a o):
  L2.Inv X pJ σ (upd H a o) { s with heap:=h',toks:=t',drawn:=d' }:=by have J:=I.laid (t':=t') k hp new;exact ⟨J.ok,J.os,J.bare,J.base,J.loc,J.cell,J.free,J.freeC,J.pin,J.hok,J.len⟩
theorem W5 {X:Cx}(hc:X.calm=true):yI X (.type "set") (fun xs H Q=>∃ p,∃ ks:List Str,xs=[.ref p]/\(SqL X.K H p (ks.map V.str)\/SqT X.K H p (ks.map V.str))/\ks.length < 4095/\∀ a,H a=none->Q (.ref a) (upd H a (SetX X.w a (TS.JB ks)))):=by
 intro pJ s σ H xs us Q I r ⟨p,ks,e,hq,hn,q⟩;subst e;obtain ⟨u,rfl,rx⟩:=vals1 r;cases (show u=Ϟ p from rx);have fin:∀ (its:List δ) {T:String}{OK:Heap->Prop}{Sx:Addr->Nat->Heap->Prop}{itO:Obj},Vals (ks.map V.str) its->TS.Row X.prog X.w T p its.toArray OK Sx itO->OK s.heap->Ξ (Φ X.prog X.w) X.A (call (.type "set") [.ref p]) (EP X pJ σ Q) X.xe s:=fun its T OK Sx itO v R ok=>by
  obtain ⟨v1,v2⟩:=U7 v;have lk:ks.length=its.length:=by rw [<- v1,υ]
  refine TS.zdl (val:=ks) R (I.ok.hd hc) ok (by simpa using lk) (fun i v e x hx=>?_) (by simp;omega) fun h' tk z k=>?_
  ·rw [gH] at e;rw [<- v1,Ρ,e] at hx;obtain ⟨y,t,rfl⟩:=v2 v (ϴ e);cases hx;exact ⟨t,rfl⟩
  ·obtain ⟨es,ep,tb,st,pm⟩:=id z;obtain ⟨o,ho,_⟩:=st.at_;exact ⟨.ref s.heap.objs.size,_,I.laid (t':=tk) (o:=SetX X.w s.heap.objs.size (TS.JB ks)) k (Α _) ⟨z,⟨o,ho⟩,fun h1 h2 y kk=>y.keep kk⟩,rfl,q _ (I.hok.fresh (Α _))⟩
 rcases hq with hq | hq
 ·obtain ⟨its,v,pl,_⟩:=I.list hq;exact fin its v (TS.rowL p its.toArray) pl.isList
 ·obtain ⟨its,v,pl,_⟩:=I.tuple hq;exact fin its v (TS.rowT p its.toArray) (show s.heap.IsTuple p its.toArray from pl)
theorem W4 {X:Cx}(hc:X.calm=true):yI X (.builtin "sorted") (fun xs H Q=>∃ a,∃ ks:List Str,xs=[.ref a]/\H a=some (SetX X.w a ks)/\ks.length < 64 /\
  ∀ (ms:List Str) (l:Addr),ms.Perm ks->ms.Pairwise (fun x y=>TS.strB y x=false)->H l=none->Q (.ref l) (upd H l (.lst (ms.map V.str)))):=by
 intro pJ s σ H xs us Q I r ⟨a,ks,e,hq,hn,q⟩;subst e;obtain ⟨u,rfl,rx⟩:=vals1 r;cases (show u=Ϟ a from rx);obtain ⟨⟨es,ep,tb,st,pm⟩,_⟩:=(show z8 X.prog X.w H s.heap a (SetX X.w a ks) from I.hok a _ hq)
 have sz:es.size=ks.length:=by rw [<- pm.length_eq,υ,Ω]
 refine TS.Kw (I.ok.hd hc) st (by omega) fun vs out h' tk d pv k hg hk=>?_
 have tx:∀ v∈vs,TS.IsTx v:=fun v hv=>by obtain ⟨e,he,rfl⟩:=Ο.mp (pv.mem_iff.mp hv);obtain ⟨x,t,rfl⟩:=st.tx e he;exact ⟨x,t,rfl⟩
 have txo:∀ v∈out.toList,TS.IsTx v:=fun v hv=>tx v (k.1.mem_iff.mp hv)
 have e2:(h'.push (cM "list" vs.toArray 0)).get? h'.objs.size=some (cM "list" vs.toArray 0):=Ν _ rfl;obtain ⟨c,hc⟩:=sortedHeap_at (out:=out) e2;have hc2:(gZ (h'.push (cM "list" vs.toArray 0)) h'.objs.size vs out).get? h'.objs.size=some { cls:=.type "list",dict:=none,data:=.seq out.toList.toArray c,slots:=#[] }:=by rw [hc,Array.toArray_toList]
 have tot:(out.toList.map TS.strV).Perm ks:=by refine ((k.1.trans pv).map _).trans ?_;rw [bA];refine aZ.trans (aZ.of_eq (eE fun e he=>?_)) pm;obtain ⟨x,t,rfl⟩:=st.tx e he;rfl
 have I2:=zkB I (t':=tk) (d':=d) (a:=h'.objs.size) (o:=.lst ((out.toList.map TS.strV).map V.str)) (h':=gZ (h'.push (cM "list" vs.toArray 0)) h'.objs.size vs out)
  (fun b o e=>by
   have lt:=Η (hk b o e);rw [sortedHeap_old (ό lt) (by rw [size_push'];exact dI lt)]
   exact ο _ (hk b o e)) hg (show z8 X.prog X.w _ _ _ (.lst _) from ⟨by rw [υ,tot.length_eq,aF];omega,out.toList,c,Ja txo,hc2⟩)
 refine ⟨.ref h'.objs.size,_,I2,rfl,q _ _ tot ?_ (I.hok.fresh hg)⟩;rw [oK];exact k.2
theorem zbE {X:Cx}:yI X (.builtin "len") (fun xs H Q=>∃ a,∃ ks:List Str,xs=[.ref a]/\H a=some (SetX X.w a ks)/\ks.length < 4096/\Q (.int ks.length) H):=by
 intro pJ s σ H xs us Q I r ⟨a,ks,e,hq,hn,q⟩;subst e;obtain ⟨u,rfl,rx⟩:=vals1 r;cases (show u=Ϟ a from rx);obtain ⟨⟨es,ep,tb,st,pm⟩,_⟩:=(show z8 X.prog X.w H s.heap a (SetX X.w a ks) from I.hok a _ hq)
 obtain ⟨o,ho,hx,hd⟩:=st.at_;have sz:es.size=ks.length:=by rw [<- pm.length_eq,υ,Ω]
 refine call_len_set ho hx hd st.fit (by omega) ⟨.int ks.length,H,I.tok _,⟨_,by rw [sz]⟩,q⟩
def Rdbs (Γ:Gm) (H:Hp) (g:G):List D->List V->Prop
 | [],vs=>vs=[]
 | d::ds,vs=>∃ v r,vs=v::r/\Rdb Γ H g d v/\Rdbs Γ H g ds r
theorem zai {Γ:Gm}{H:Hp}{g:G}{S:Store}(w:WOk Γ H g S):∀ {ds:List D}{vs:List V},Hass Γ g ds vs->Rdbs Γ H g (ds.map (zH S)) vs
 | [],_,h=>h
 | d::ds,_,⟨v,r,e,h1,h2⟩=>⟨v,r,e,zaj w h1,zai w h2⟩
def RDc (Γ:Gm) (r:List V->Hp->VK->Prop) (ds:List D) (d:D) (fr:Bool):Prop:=
 ∀ (S:Store) (H:Hp) (g:G) (xs:List V) (Q:VK),WOk Γ H g S->Rdbs Γ H g ds xs->Fin Γ H g S d fr Q->r xs H Q
section
variable {X:Cx}{Γ:Gm}
theorem rd1 {H:Hp}{g:G}{d:D}{xs:List V}(h:Rdbs Γ H g [d] xs):∃ v,xs=[v]/\Rdb Γ H g d v:=by obtain ⟨v,r,e,h1,h2⟩:=h;cases (show r=[] from h2);exact ⟨v,e,h1⟩
theorem qK {g:G}:∀ {l:List D}{ns:List Bool}{xs:List V},uy l=some ns->Hass Γ g l xs->xs=ns.map V.bl
 | [],ns,xs,h,hh=>by cases (show some []=some ns from h);exact hh
 | d::l,ns,xs,h,⟨v,r,e,hv,hr⟩=>by
  subst e;cases d with
  | bl i=>
   simp only [uy,Λ] at h;obtain ⟨ms,e1,e2⟩:=h;subst e2;rw [show v=V.bl i from hv,qK e1 hr];rfl
  | _=>cases h
noncomputable def biV:BI->δ
 | .len=>.builtin "len" | .abs=>.builtin "abs" | .int=>.type "int" | .str=>.type "str" | .tuple=>.type "tuple" | .list=>.type "list"
 | .sum=>.builtin "sum" | .all=>.builtin "all" | .any=>.builtin "any" | .isinst _=>.builtin "isinstance" | .min2=>.builtin "min" | .max2=>.builtin "max" | .sorted=>.builtin "sorted" | .repr=>.builtin "repr" | .dict=>.type "dict" | .sset=>.builtin "sorted" | .lset=>.builtin "len" | .trev=>.type "tuple"
noncomputable def isI:BI->Bool
 | .isinst _=>true
 | .sset=>true
 | .lset=>true
 | .trev=>true
 | _=>false
set_option tactic.hygienic true in
theorem zfG {d0:D}{d:D}{fr:Bool}(hK:X.K=Γ.K) (h:lenD d0=some (d,fr)):∃ r,yI X (.builtin "len") r/\RDc Γ r [d0] d fr:=by
 cases d0 with
 | tup l=>
  cases h;refine ⟨_,wR,fun S H g xs Q w hx q=>?_⟩;obtain ⟨v,rfl,p,ys,rfl,h1,h2⟩:=rd1 hx;exact ⟨p,ys,rfl,.inr (SqT.of (w.rh _ _ h1)),zf w q (by rw [h2.len];rfl)⟩
 | lst l=>
  cases h;refine ⟨_,wR,fun S H g xs Q w hx q=>?_⟩;obtain ⟨v,rfl,p,ys,rfl,h1,h2⟩:=rd1 hx;exact ⟨p,ys,rfl,.inl (SqL.of h1),zf w q (by rw [h2.len];rfl)⟩
 | scr l=>
  cases h;refine ⟨_,wR,fun S H g xs Q w hx q=>?_⟩;obtain ⟨v,rfl,p,rfl,h1⟩:=rd1 hx;exact ⟨p,_,rfl,.inl (by rw [hK];exact h1),zf w q (by rw [υ];rfl)⟩
 | str x=>
  have h:(if fits x.length=true then some (D.int x.length,false) else none)=some (d,fr):=h;split at h
  ·rename_i hf
   cases h;refine ⟨_,W7,fun S H g xs Q w hx q=>?_⟩;obtain ⟨v,rfl,hv⟩:=rd1 hx;exact ⟨_,by rw [show v=_ from hv],wL hf,zf w q rfl⟩
  ·cases h
 | dK ks vs=>
  cases h;refine ⟨fun xs H Q=>∃ d kvs,xs=[.ref d]/\Rd H d (.dK kvs)/\Q (.int kvs.length) H,?_,fun S H g xs Q w hx q=>?_⟩
  ·intro pJ s σ H xs us Q I r hh;obtain ⟨d,kvs,rfl,hd,q⟩:=hh;obtain ⟨u,rfl,ru⟩:=vals1 r;cases (show u=Ϟ d from ru);exact zk6 I hd fun t s' I'=>⟨.int kvs.length,H,I',⟨t,rfl⟩,q⟩
  ·obtain ⟨v,rfl,p,ys,rfl,h1,h2,h3⟩:=rd1 hx;refine ⟨p,_,rfl,.inl h1,zf w q ?_⟩;rw [gC,h3.len,<- h2,Nat.min_self];rfl
 | _=>cases h
theorem zdT {f:List D->Option D}{d0:D}{p:D×Bool}(h:onL f d0=some p):∃ l d,d0=.lst l/\f l=some d/\p=(d,false):=by
 cases d0 with
 | lst l=>
  obtain ⟨d,e,rfl⟩:=Λ.mp (show (f l).map (fun d=>(d,false))=some p from h);exact ⟨l,d,rfl,e,rfl⟩
 | _=>cases h
theorem zaM {d0:D}{l:List D}(h:lotD d0=some l):d0=.lst l\/d0=.tup l:=by
 cases d0 with
 | lst m=>cases h;exact .inl rfl
 | tup m=>cases h;exact .inr rfl
 | _=>cases h
theorem Vv {g:G}:∀ {l:List D}{ns:List Str}{xs:List V},vV l=some ns->Hass Γ g l xs->xs=ns.map V.str
 | [],ns,xs,h,hh=>by cases (show some []=some ns from h);exact hh
 | d::l,ns,xs,h,⟨v,r,e,hv,hr⟩=>by
  subst e;cases d with
  | str i=>
   simp only [vV,Λ] at h;obtain ⟨ms,e1,e2⟩:=h;subst e2;rw [show v=V.str i from hv,Vv e1 hr];rfl
  | _=>cases h
theorem JR {g:G}:∀ ks:List Str,Hass Γ g (ks.map D.str) (ks.map V.str)
 | []=>rfl
 | x::ks=>⟨_,_,rfl,rfl,JR ks⟩
theorem qw (k:Str):∀ l,(insS k l).Perm (k::l)
 | []=>bR _
 | x::l=>by
  unfold insS;split
  ·exact ((qw k l).cons x).trans (aZ.swap _ _ _)
  ·exact bR _
theorem Zn:∀ l,(Zb l).Perm l
 | []=>bR _
 | k::l=>(qw k (Zb l)).trans ((Zn l).cons k)
abbrev LeS (x y:Str):Prop:=TS.strB y x=false
set_option tactic.hygienic true in
theorem zbb (k:Str):∀ l,l.Pairwise LeS->(insS k l).Pairwise LeS
 | [],_=>List.pairwise_singleton _ _
 | x::l,h=>by
  obtain ⟨h1,h2⟩:=iB.mp h;unfold insS;split
  ·rename_i c
   refine iB.mpr ⟨fun y hy=>?_,zbb k l h2⟩;rcases ψ.mp ((qw k l).mem_iff.mp hy) with rfl | hy
   ·exact dC (O:=TS.strO) c
   ·exact h1 y hy
  ·rename_i c
   have c:LeS k x:=by show TS.strB x k=false;revert c;show ¬ TS.strB x k=true->_;cases TS.strB x k <;> simp
   refine iB.mpr ⟨fun y hy=>?_,h⟩;rcases ψ.mp hy with rfl | hy
   ·exact c
   ·exact cU (O:=TS.strO) c (h1 y hy)
theorem Jj:∀ l,(Zb l).Pairwise LeS
 | []=>lY
 | k::l=>zbb k _ (Jj l)
theorem QX {l m:List Str}(h:m.Perm l) (k:m.Pairwise LeS):m=Zb l:=
 (h.trans (Zn l).symm).eq_of_pairwise (fun a b _ _ h1 h2=>TS.QS a b h2 h1) k (Jj l)
theorem zgi {b:BI}{d0 d1 d:D}{fr:Bool}(hc:X.calm=true) (h:bi2 b d0 d1=some (d,fr)):∃ r,yI X (biV b) r/\RDc Γ r [d0,d1] d fr:=by
 cases b with
 | _=>cases h
theorem zgj {b:BI}{d0:D}{d:D}{fr:Bool}(hK:X.K=Γ.K) (hg:X.A.guards=some []) (hu:X.A.units+61 < Ϸ) (hc:X.calm=true) (hi:isI b=false) (h:biD b [d0]=some (d,fr)):∃ r,yI X (biV b) r/\RDc Γ r [d0] d fr:=by
 cases b with
 | len=>exact zfG hK h
 | abs=>
  cases d0 with
  | int i=>
   cases h;refine ⟨_,zdo,fun S H g xs Q w hx q=>?_⟩;obtain ⟨v,rfl,hv⟩:=rd1 hx;exact ⟨_,by rw [show v=_ from hv],zf w q rfl⟩
  | _=>cases h
 | int=>
  cases d0 with
  | bl b=>
   cases h;refine ⟨_,W8,fun S H g xs Q w hx q=>?_⟩;obtain ⟨v,rfl,hv⟩:=rd1 hx;exact .inr ⟨_,by rw [show v=_ from hv],zf w q rfl⟩
  | int i=>
   cases h;refine ⟨_,W8,fun S H g xs Q w hx q=>?_⟩;obtain ⟨v,rfl,hv⟩:=rd1 hx;exact .inl ⟨_,by rw [show v=_ from hv],zf w q rfl⟩
  | _=>cases h
 | tuple=>
  obtain ⟨l,e,e2⟩:=Λ.mp (show (lotD d0).map (fun l=>(D.tup l,false))=some (d,fr) from h);cases e2;refine ⟨_,Xc,fun S H g xs Q w hx q=>?_⟩;rcases zaM e with rfl | rfl
  ·obtain ⟨v,rfl,p,ys,rfl,h1,h2⟩:=rd1 hx;exact ⟨p,ys,rfl,.inl ⟨SqL.of h1,fun l hl=>Y5 w q h2 hl⟩⟩
  ·obtain ⟨v,rfl,p,ys,rfl,h1,h2⟩:=rd1 hx;exact ⟨p,ys,rfl,.inr ⟨SqT.of (w.rh _ _ h1),zf w q ⟨p,ys,rfl,h1,h2⟩⟩⟩
 | list=>
  obtain ⟨l,e,e2⟩:=Λ.mp (show (lotD d0).map (fun l=>(D.lst l,true))=some (d,fr) from h);cases e2;refine ⟨_,W6,fun S H g xs Q w hx q=>?_⟩;rcases zaM e with rfl | rfl
  ·obtain ⟨v,rfl,p,ys,rfl,h1,h2⟩:=rd1 hx;exact ⟨p,ys,rfl,.inl (SqL.of h1),fun l hl=>v5 w q h2 hl⟩
  ·obtain ⟨v,rfl,p,ys,rfl,h1,h2⟩:=rd1 hx;exact ⟨p,ys,rfl,.inr (SqT.of (w.rh _ _ h1)),fun l hl=>v5 w q h2 hl⟩
 | sum=>cases h
 | all=>
  obtain ⟨l,z,rfl,e,e2⟩:=zdT h;cases e2;obtain ⟨ns,e3,rfl⟩:=Λ.mp e;refine ⟨_,zdn hc,fun S H g xs Q w hx q=>?_⟩;obtain ⟨v,rfl,p,ys,rfl,h1,h2⟩:=rd1 hx;exact ⟨p,ns,rfl,by rw [<- qK e3 h2];exact SqL.of h1,zf w q rfl⟩
 | any=>
  obtain ⟨l,z,rfl,e,e2⟩:=zdT h;cases e2;obtain ⟨ns,e3,rfl⟩:=Λ.mp e;refine ⟨_,zdm hc,fun S H g xs Q w hx q=>?_⟩;obtain ⟨v,rfl,p,ys,rfl,h1,h2⟩:=rd1 hx;exact ⟨p,ns,rfl,by rw [<- qK e3 h2];exact SqL.of h1,zf w q rfl⟩
 | isinst t=>cases hi
 | str=>cases h
 | min2=>cases h
 | max2=>cases h
 | sorted=>cases h
 | sset=>cases hi
 | lset=>cases hi
 | trev=>cases hi
 | repr=>cases h
 | dict=>cases h
theorem zef {b:BI}{ds:List D}{d:D}{fr:Bool}(hK:X.K=Γ.K) (hg:X.A.guards=some []) (hu:X.A.units+61 < Ϸ) (hc:X.calm=true) (hi:isI b=false) (h:biD b ds=some (d,fr)):∃ r,yI X (biV b) r/\RDc Γ r ds d fr:=by
 match ds,h with
 | [],h=>cases h
 | [d0],h=>exact zgj hK hg hu hc hi h
 | [d0,d1],h=>exact zgi hc h
 | _::_::_::_,h=>cases h
noncomputable def tyS:Ty->String
 | .int=>"int" | .bool=>"bool" | .str=>"str" | .tuple=>"tuple" | .list=>"list" | .dict=>"dict"
theorem ziE {t:Ty}{a:D}{c:Bool}(hK:X.K=Γ.K) (h:isTy t a=some c):
  ∃ r,yI X (.builtin "isinstance") r/\∀ (S:Store) (H:Hp) (g:G) (x:V) (Q:VK),WOk Γ H g S->Rdb Γ H g a x->Q (.bl c) H->r [x,.ty (tyS t)] H Q:=by
 refine ⟨_,Uy,fun S H g x Q w hx q=>?_⟩;have go:∀ ty,TyOf X.K H x (.type ty)->W.kitOne X.K (.type ty) (.type (tyS t))=some c->_:=fun ty h1 h2=>(⟨x,tyS t,.type ty,c,rfl,h1,h2,q⟩:∃ x' T t' b,[x,V.ty (tyS t)]=[x',.ty T]/\TyOf X.K H x' t'/\W.kitOne X.K t' (.type T)=some b/\Q (.bl b) H)
 cases a with
 | non=>cases h;cases (show x=.non from hx);exact go _ .non (by cases t <;> rfl)
 | bl b=>cases (show x=.bl b from hx);exact go _ (.bl b) (by cases t <;> exact h)
 | int b=>cases (show x=.int b from hx);exact go _ (.int b) (by cases t <;> exact h)
 | str b=>cases (show x=.str b from hx);exact go _ (.str b) (by cases t <;> exact h)
 | tup l=>obtain ⟨p,ys,rfl,h1,h2⟩:=hx;exact go _ (.tup (w.rh _ _ h1)) (by cases t <;> exact h)
 | lst l=>obtain ⟨p,ys,rfl,h1,h2⟩:=hx;exact go _ (.lst h1) (by cases t <;> exact h)
 | dK ks l=>obtain ⟨p,ys,rfl,h1,h2⟩:=hx;exact go _ (.dK h1) (by cases t <;> exact h)
 | _=>cases h
end
mutual
noncomputable def KC:D->D->Bool
 | .non,.non=>true
 | .bl a,.bl b=>a==b
 | .int a,.int b=>a==b
 | .str a,.str b=>a==b
 | .tup a,.tup b=>XM a b
 | .ktp a,.ktp b=>XM a b
 | .fn a,.fn b=>a==b
 | .kdc a,.kdc b=>decide (a=b)
 | _,_=>false
noncomputable def XM:List D->List D->Bool
 | [],[]=>true
 | a::as,b::bs=>KC a b&&XM as bs
 | _,_=>false
end
mutual
theorem Jp:∀ (a b:D),KC a b=true->a=b
 | .non,b,h=>by cases b with | non=>rfl | _=>cases h
 | .bl a,b,h=>by cases b with | bl b=>rw [eq_of_beq (show (a==b)=true from h)] | _=>cases h
 | .int a,b,h=>by cases b with | int b=>rw [eq_of_beq (show (a==b)=true from h)] | _=>cases h
 | .str a,b,h=>by cases b with | str b=>rw [eq_of_beq (show (a==b)=true from h)] | _=>cases h
 | .tup a,b,h=>by cases b with | tup b=>rw [j6 a b h] | _=>cases h
 | .ktp a,b,h=>by cases b with | ktp b=>rw [j6 a b h] | _=>cases h
 | .fn a,b,h=>by cases b with | fn b=>rw [eq_of_beq (show (a==b)=true from h)] | _=>cases h
 | .kdc a,b,h=>by cases b with | kdc b=>rw [of_decide_eq_true (show decide (a=b)=true from h)] | _=>cases h
 | .lst _,b,h=>by cases b <;> cases h
 | .dK _ _,b,h=>by cases b <;> cases h
 | .dT _ _,b,h=>by cases b <;> cases h
 | .dF _ _,b,h=>by cases b <;> cases h
 | .ins _ _ _,b,h=>by cases b <;> cases h
 | .ref _,b,h=>by cases b <;> cases h
 | .scr _,b,h=>by cases b <;> cases h
theorem j6:∀ (a b:List D),XM a b=true->a=b
 | [],[],_=>rfl
 | a::as,b::bs,h=>by have h':(KC a b&&XM as bs)=true:=h;rw [ζ] at h';rw [Jp a b h'.1,j6 as bs h'.2]
 | [],_::_,h=>by cases h
 | _::_,[],h=>by cases h
end
structure Cc where
 names:List (Str×ϯ)
 N:List Str
 fn:Bool
noncomputable def visK:Option ϯ->Bool
 | some .local=>true
 | some .cell=>true
 | some .free=>true
 | _=>false
noncomputable def gloK:Option ϯ->Bool
 | some .globalImplicit=>true
 | _=>false
noncomputable def xg (x:Str):Bool:=!(x==("__debug__":Str))&&!(x==("__classdict__":Str))&&!(x==("__name__":Str))&&!dotted x
noncomputable def vN:Expr->Bool
 | .Set _ _ _=>false
 | _=>true
noncomputable def notStar:Expr->Bool
 | .Starred _ _=>false
 | _=>true
noncomputable def biS:BI->Str
 | .len=>"len" | .abs=>"abs" | .int=>"int" | .str=>"str" | .tuple=>"tuple" | .list=>"list" | .sum=>"sum" | .all=>"all" | .any=>"any" | .isinst _=>"isinstance" | .min2=>"min" | .max2=>"max" | .sorted=>"sorted" | .repr=>"repr" | .dict=>"dict" | .sset=>"sorted" | .lset=>"len" | .trev=>"tuple"
noncomputable def tyN:Ty->Str
 | .int=>"int" | .bool=>"bool" | .str=>"str" | .tuple=>"tuple" | .list=>"list" | .dict=>"dict"
noncomputable def relK (names:List (Str×ϯ)):List (Str×ϯ)->List (Str×ϯ):=fun l=>l.map fun (n,k)=>if (k==.free&&names.lookup n==some .cell) then (n,.cell) else (n,k)
noncomputable def namesOf:List Expr->Option (List Str)
 | []=>some []
 | .Name x _::r=>(namesOf r).map (x::·)
 | _=>none
noncomputable def xU:Expr->Option (List Str)
 | .Name x _=>some [x]
 | .Tuple es _ _=>namesOf es
 | _=>none
noncomputable def tIs:T->List Nat
 | .one i=>[i]
 | .nst i is=>i::is
 | .tup is=>is
noncomputable def Wz:Expr->Bool
 | .Tuple _ _ _=>true
 | _=>false
noncomputable def ziG:T->Bool
 | .tup _=>true
 | .nst _ _=>true
 | _=>false
noncomputable def stoK (c:Cc) (x:Str):Bool:=match c.names.lookup x with
 | some .local=>true
 | some .cell=>c.fn
 | _=>false
noncomputable def YW:T->Bool
 | .nst _ _=>true
 | _=>false
noncomputable def zdv:Expr->Option (Str×Pos×List Expr×Nat×Pos×Nat×Pos)
  | .Tuple es k p=>(match es with
    | a::r=>(match a with
      | .Name x q=>(match r with
        | b::z=>(match z with
          | []=>(match b with
            | .Tuple fs k2 p2=>some (x,q,fs,k2,p2,k,p)
            | _=>none)
          | _=>none)
        | _=>none)
      | _=>none)
    | _=>none)
  | _=>none
noncomputable def chkT (c:Cc) (t:T) (x:Expr):Bool:=if YW t=true then (match zdv x with
  | some q=>(match namesOf q.2.2.1 with
    | some ns=>(q.1::ns).length==(tIs t).length&&((tIs t).zip (q.1::ns)).all fun p=>c.N[p.1]?==some p.2&&stoK c p.2
    | none=>false)
  | none=>false) else Wz x==ziG t&&(match xU x with
  | some ns=>ns.length==(tIs t).length&&((tIs t).zip ns).all fun p=>c.N[p.1]?==some p.2&&stoK c p.2
  | none=>false)
noncomputable def chkS (c:Cc) (sc:dD) (js:List Nat):Bool:=
 (sc.kind==.function)&&sc.names.all (fun y=>y.2 != .cell)&&sc.names.all (fun y=>y.2 != .local||sc.names.lookup y.1==some .local)&&sc.names.all (fun y=>y.2 != .free||sc.names.lookup y.1==some .free) &&
 sc.names.all (fun y=>y.2 != .free||c.names.lookup y.1==some .cell||c.names.lookup y.1==some .free) &&
 js.all fun j=>match c.N[j]? with
  | some y=>(c.names.lookup y==some .cell||c.names.lookup y==some .free)&&sc.names.lookup y==some .free
  | none=>false
noncomputable def inner (c:Cc) (sc:dD) (xs:List Str) (js:List Nat):Cc:=⟨relK c.names sc.names,xs++js.map (fun j=>c.N.getD j ""),false⟩
noncomputable def zd5:Expr->Bool
 | .Tuple _ _ _=>true
 | _=>false
noncomputable def keyC:Key->Const->Bool
 | .inl i,.int j=>i==j
 | .inr s,.str t=>s==t
 | _,_=>false
noncomputable def W3:List Key->List (Option Expr)->Bool
 | [],[]=>true
 | k::ks,some (.Constant q _ _)::r=>keyC k q&&W3 ks r
 | _,_=>false
noncomputable def sole {α:Type}:List α->Option α
  | a::r=>(match r with
    | []=>some a
    | _=>none)
  | _=>none
theorem Yi {α:Type}{l:List α}{a:α}(h:sole l=some a):l=[a]:=by
 cases l with
 | nil=>cases h
 | cons b r=>
  cases r with
  | nil=>cases h;rfl
  | cons _ _=>cases h
noncomputable def asName:Expr->Option (Str×Pos)
 | .Name n p=>some (n,p)
 | _=>none
theorem vg {x:Expr}{q:Str×Pos}(h:asName x=some q):x=.Name q.1 q.2:=by cases x <;> first | (cases h;rfl) | cases h
noncomputable def zbR:Expr->Option (Expr×Expr×Pos)
 | .Subscript a b p=>some (a,b,p)
 | _=>none
theorem zdu {x:Expr}{q:Expr×Expr×Pos}(h:zbR x=some q):x=.Subscript q.1 q.2.1 q.2.2:=by cases x <;> first | (cases h;rfl) | cases h
noncomputable def Xi:Expr->Option (Expr×Str×Pos)
 | .Attribute a m p=>some (a,m,p)
 | _=>none
theorem Xh {x:Expr}{q:Expr×Str×Pos}(h:Xi x=some q):x=.Attribute q.1 q.2.1 q.2.2:=by cases x <;> first | (cases h;rfl) | cases h
noncomputable def vO {α:Type}:List α->Bool
 | []=>true
 | _=>false
theorem uv {α:Type}{l:List α}(h:vO l=true):l=[]:=by
 cases l with
 | nil=>rfl
 | cons _ _=>cases h
noncomputable def mtS:MT->Str
 | .get1=>"get" | .get2=>"get" | .index=>"index" | .join=>"join" | .split=>"split"
noncomputable def zhE:Expr->Bool
 | .Call _ _ _ _=>false
 | _=>true
noncomputable def Wa:Expr->Bool
 | .Call _ (_::_) _ _=>true
 | x=>zhE x
noncomputable def zap:Expr->Bool
 | .Call _ _ _ _=>true
 | .List _ _=>true
 | .Dict _ _ _=>true
 | .BinOp _ _ _ _=>true
 | _=>false
noncomputable def uZ:Expr->Option (Str×Expr)
 | .Call (.Name y _) [z] [] _=>some (y,z)
 | _=>none
mutual
noncomputable def chkE (B:Tb) (c:Cc):E->Expr->Bool
  | .var i,.Name x _=>c.N[i]?==some x&&visK (c.names.lookup x)&&xg x
  | .con d,.Constant k _ _=>match d,k with
    | .non,.none=>true
    | .bl a,.bool b=>a==b
    | .int a,.int b=>a==b
    | .str a,.str b=>a==b
    | _,_=>false
  | .glo n d,.Name x _=>(match B.consts[n]? with
    | some p=>p.1==x&&KC p.2 d
    | none=>false)&&gloK (c.names.lookup x)&&xg x
  | .bin op a b,.BinOp x op' y _=>op==op'&&chkE B c a x&&chkE B c b y
  | .neg a,.UnaryOp op x _=>op==.USub&&chkE B c a x
  | .cmp op a b,.Compare x [op'] [y] _=>op==op'&&chkE B c a x&&chkE B c b y&&vN y
  | .chn o1 o2 a b d,.Compare x [p1,p2] [y,z] _=>o1==p1&&o2==p2&&chkE B c a x&&chkE B c b y&&chkE B c d z&&vN z
  | .not a,.UnaryOp op x _=>op==.Not&&chkE B c a x
  | .and a b,.BoolOp op (x::y::r) p=>op==.And&&chkE B c a x&&chkE B c b (.BoolOp .And (y::r) p)
  | .or a b,.BoolOp op (x::y::r) p=>op==.Or&&chkE B c a x&&chkE B c b (.BoolOp .Or (y::r) p)
  | .one a,.BoolOp op [x] _=>chkE B c a x
  | .ite t a b,.IfExp x y z _=>chkE B c t x&&chkE B c a y&&chkE B c b z
  | .tup es,.Tuple xs _ _=>zY B c es xs
  | .lst es,.List xs _=>zY B c es xs
  | .dic tk ks es,.Dict keys vs _=>W3 ks keys&&jy B c es vs&&decide (ks.length=es.length)&&decide (ks.length<=15)
  | .sub a i,.Subscript x y _=>chkE B c a x&&chkE B c i y
  | .slc a lo hi,.Subscript x (.Slice l h none _) _=>chkE B c a x&&chkO B c lo l&&chkO B c hi h
  | .bi b es,.Call (.Name x _) args [] _=>(match b with
    | .isinst t=>x==("isinstance":Str)&&B.bare.contains x&&B.bare.contains (tyN t)&&gloK (c.names.lookup x)&&(match es,args with
      | [e],[y,.Name z _]=>chkE B c e y&&notStar y&&z==tyN t&&gloK (c.names.lookup z)
      | _,_=>false)
    | .sset=>x==("sorted":Str)&&B.bare.contains x&&gloK (c.names.lookup x)&&(match es,args with
      | [e],[q]=>(match uZ q with
        | some (y,z)=>y==("set":Str)&&B.bare.contains y&&gloK (c.names.lookup y)&&chkE B c e z&&notStar z
        | none=>false)
      | _,_=>false)
    | .lset=>x==("len":Str)&&B.bare.contains x&&gloK (c.names.lookup x)&&(match es,args with
      | [e],[q]=>(match uZ q with
        | some (y,z)=>y==("set":Str)&&B.bare.contains y&&gloK (c.names.lookup y)&&chkE B c e z&&notStar z
        | none=>false)
      | _,_=>false)
    | .trev=>false
    | b=>x==biS b&&B.bare.contains x&&gloK (c.names.lookup x)&&zY B c es args&&!es.isEmpty)
  | .call f es,.Call (.Name x _) args [] _=>B.fns[f]?==some x&&gloK (c.names.lookup x)&&xg x&&zY B c es args&&!es.isEmpty
  | .callv i es,.Call (.Name x _) args [] _=>c.N[i]?==some x&&visK (c.names.lookup x)&&xg x&&zY B c es args&&!es.isEmpty
  | .mth m o es,.Call f args kws cp=>(match Xi f with
    | some q=>q.2.1==mtS m&&chkE B c o q.1&&zY B c es args&&vO kws&&q.2.2.endLine==cp.line&&Wa q.1&&decide (1<=es.length)&&decide (es.length<=9)
    | none=>false)
  | .box e,x=>zap x&&chkE B c e x
  | .comp t js it ifs elt,.ListComp y [⟨tgt,iter,cs,k⟩] sc _=>k==0&&chkS c sc js&&chkI B c it tgt iter&&vN iter&&(match xU tgt with
    | some xs=>decide ((xs++js.map (fun j=>c.N.getD j "")).Nodup)&&nT t==xs.length&&tIs t==Ϲ xs.length&&chkT (inner c sc xs js) t tgt&&chkE B (inner c sc xs js) elt y&&jy B (inner c sc xs js) ifs cs&&decide (ifs.length<=1)
    | none=>false)
  | _,_=>false
noncomputable def chkI (B:Tb) (c:Cc):E->Expr->Expr->Bool
 | .seq e,_,x=>chkE B c e x
 | .keys e,_,x=>chkE B c e x
 | .enum e,tg,.Call (.Name f _) [y] [] _=>zd5 tg&&f==("enumerate":Str)&&B.bare.contains f&&gloK (c.names.lookup f)&&chkE B c e y&&notStar y
 | .rng none hi,_,.Call (.Name f _) [y] [] _=>f==("range":Str)&&B.bare.contains f&&gloK (c.names.lookup f)&&chkE B c hi y&&notStar y
 | .rng (some lo) hi,_,.Call (.Name f _) [x,y] [] _=>f==("range":Str)&&B.bare.contains f&&gloK (c.names.lookup f)&&chkE B c lo x&&notStar x&&chkE B c hi y&&notStar y
 | _,_,_=>false
noncomputable def zY (B:Tb) (c:Cc):List E->List Expr->Bool
 | [],[]=>true
 | e::es,x::xs=>chkE B c e x&&notStar x&&zY B c es xs
 | _,_=>false
noncomputable def jy (B:Tb) (c:Cc):List E->List Expr->Bool
 | [],[]=>true
 | e::es,x::xs=>chkE B c e x&&jy B c es xs
 | _,_=>false
noncomputable def chkO (B:Tb) (c:Cc):Option E->Option Expr->Bool
 | none,none=>true
 | some e,some x=>chkE B c e x
 | _,_=>false
noncomputable def zgc (B:Tb) (c:Cc):List E->List cY->Bool
 | [],[]=>true
 | e::es,⟨some _,x,_⟩::xs=>chkE B c e x&&zgc B c es xs
 | _,_=>false
end
theorem Yy {x:ϔ}{Q:ϔ->Prop}(h:Μ x.ctorIdx 0=true) (f:∀ a0 a1 a2,Q (.BoolOp a0 a1 a2)):Q x:=by
 revert h;cases x with
 | BoolOp a0 a1 a2=>exact fun _=>f a0 a1 a2
 | _=>exact nobE
theorem zfr {x:ϔ}{Q:ϔ->Prop}(h:Μ x.ctorIdx 2=true) (f:∀ a0 a1 a2 a3,Q (.BinOp a0 a1 a2 a3)):Q x:=by
 revert h;cases x with
 | BinOp a0 a1 a2 a3=>exact fun _=>f a0 a1 a2 a3
 | _=>exact nobE
theorem Wi {x:ϔ}{Q:ϔ->Prop}(h:Μ x.ctorIdx 3=true) (f:∀ a0 a1 a2,Q (.UnaryOp a0 a1 a2)):Q x:=by
 revert h;cases x with
 | UnaryOp a0 a1 a2=>exact fun _=>f a0 a1 a2
 | _=>exact nobE
theorem zfq {x:ϔ}{Q:ϔ->Prop}(h:Μ x.ctorIdx 5=true) (f:∀ a0 a1 a2 a3,Q (.IfExp a0 a1 a2 a3)):Q x:=by
 revert h;cases x with
 | IfExp a0 a1 a2 a3=>exact fun _=>f a0 a1 a2 a3
 | _=>exact nobE
theorem zh9 {x:ϔ}{Q:ϔ->Prop}(h:Μ x.ctorIdx 6=true) (f:∀ a0 a1 a2,Q (.Dict a0 a1 a2)):Q x:=by
 revert h;cases x with
 | Dict a0 a1 a2=>exact fun _=>f a0 a1 a2
 | _=>exact nobE
theorem ZC {x:ϔ}{Q:ϔ->Prop}(h:Μ x.ctorIdx 8=true) (f:∀ a0 a1 a2 a3,Q (.ListComp a0 a1 a2 a3)):Q x:=by
 revert h;cases x with
 | ListComp a0 a1 a2 a3=>exact fun _=>f a0 a1 a2 a3
 | _=>exact nobE
theorem Wl {x:ϔ}{Q:ϔ->Prop}(h:Μ x.ctorIdx 15=true) (f:∀ a0 a1 a2 a3,Q (.Compare a0 a1 a2 a3)):Q x:=by
 revert h;cases x with
 | Compare a0 a1 a2 a3=>exact fun _=>f a0 a1 a2 a3
 | _=>exact nobE
theorem je {x:ϔ}{Q:ϔ->Prop}(h:Μ x.ctorIdx 16=true) (f:∀ a0 a1 a2 a3,Q (.Call a0 a1 a2 a3)):Q x:=by
 revert h;cases x with
 | Call a0 a1 a2 a3=>exact fun _=>f a0 a1 a2 a3
 | _=>exact nobE
theorem ZD {x:ϔ}{Q:ϔ->Prop}(h:Μ x.ctorIdx 19=true) (f:∀ a0 a1 a2,Q (.Constant a0 a1 a2)):Q x:=by
 revert h;cases x with
 | Constant a0 a1 a2=>exact fun _=>f a0 a1 a2
 | _=>exact nobE
theorem VP {x:ϔ}{Q:ϔ->Prop}(h:Μ x.ctorIdx 20=true) (f:∀ a0 a1 a2,Q (.Attribute a0 a1 a2)):Q x:=by
 revert h;cases x with
 | Attribute a0 a1 a2=>exact fun _=>f a0 a1 a2
 | _=>exact nobE
theorem kW {x:ϔ}{Q:ϔ->Prop}(h:Μ x.ctorIdx 21=true) (f:∀ a0 a1 a2,Q (.Subscript a0 a1 a2)):Q x:=by
 revert h;cases x with
 | Subscript a0 a1 a2=>exact fun _=>f a0 a1 a2
 | _=>exact nobE
theorem ur {x:ϔ}{Q:ϔ->Prop}(h:Μ x.ctorIdx 23=true) (f:∀ a0 a1,Q (.Name a0 a1)):Q x:=by
 revert h;cases x with
 | Name a0 a1=>exact fun _=>f a0 a1
 | _=>exact nobE
theorem ofList {x:ϔ}{Q:ϔ->Prop}(h:Μ x.ctorIdx 24=true) (f:∀ a0 a1,Q (.List a0 a1)):Q x:=by
 revert h;cases x with
 | List a0 a1=>exact fun _=>f a0 a1
 | _=>exact nobE
theorem zfn {x:ϔ}{Q:ϔ->Prop}(h:Μ x.ctorIdx 25=true) (f:∀ a0 a1 a2,Q (.Tuple a0 a1 a2)):Q x:=by
 revert h;cases x with
 | Tuple a0 a1 a2=>exact fun _=>f a0 a1 a2
 | _=>exact nobE
theorem zfo {x:ϔ}{Q:ϔ->Prop}(h:Μ x.ctorIdx 26=true) (f:∀ a0 a1 a2 a3,Q (.Slice a0 a1 a2 a3)):Q x:=by
 revert h;cases x with
 | Slice a0 a1 a2 a3=>exact fun _=>f a0 a1 a2 a3
 | _=>exact nobE
theorem kY {x:ϸ}{Q:ϸ->Prop}(h:Μ x.ctorIdx 5=true) (f:∀ a0 a1 a2,Q (.Assign a0 a1 a2)):Q x:=by
 revert h;cases x with
 | Assign a0 a1 a2=>exact fun _=>f a0 a1 a2
 | _=>exact nobE
theorem Yx {x:ϸ}{Q:ϸ->Prop}(h:Μ x.ctorIdx 24=true) (f:∀ a0 a1,Q (.Expr a0 a1)):Q x:=by
 revert h;cases x with
 | Expr a0 a1=>exact fun _=>f a0 a1
 | _=>exact nobE
theorem Wj {x:ϸ}{Q:ϸ->Prop}(h:Μ x.ctorIdx 3=true) (f:∀ a0 a1,Q (.Return a0 a1)):Q x:=by
 revert h;cases x with
 | Return a0 a1=>exact fun _=>f a0 a1
 | _=>exact nobE
theorem zkq {x:ϸ}{Q:ϸ->Prop}(h:Μ x.ctorIdx 12=true) (f:∀ a0 a1 a2 a3,Q (.If a0 a1 a2 a3)):Q x:=by
 revert h;cases x with
 | If a0 a1 a2 a3=>exact fun _=>f a0 a1 a2 a3
 | _=>exact nobE
theorem zcN {x:ϸ}{Q:ϸ->Prop}(h:Μ x.ctorIdx 11=true) (f:∀ a0 a1 a2 a3,Q (.While a0 a1 a2 a3)):Q x:=by
 revert h;cases x with
 | While a0 a1 a2 a3=>exact fun _=>f a0 a1 a2 a3
 | _=>exact nobE
theorem zh8 {x:ϸ}{Q:ϸ->Prop}(h:Μ x.ctorIdx 9=true) (f:∀ a0 a1 a2 a3 a4,Q (.For a0 a1 a2 a3 a4)):Q x:=by
 revert h;cases x with
 | For a0 a1 a2 a3 a4=>exact fun _=>f a0 a1 a2 a3 a4
 | _=>exact nobE
theorem zfp {x:ϸ}{Q:ϸ->Prop}(h:Μ x.ctorIdx 25=true) (f:∀ a0,Q (.Pass a0)):Q x:=by
 revert h;cases x with
 | Pass a0=>exact fun _=>f a0
 | _=>exact nobE
theorem zcO {x:ϸ}{Q:ϸ->Prop}(h:Μ x.ctorIdx 26=true) (f:∀ a0,Q (.Break a0)):Q x:=by
 revert h;cases x with
 | Break a0=>exact fun _=>f a0
 | _=>exact nobE
theorem VM {x:ϸ}{Q:ϸ->Prop}(h:Μ x.ctorIdx 27=true) (f:∀ a0,Q (.Continue a0)):Q x:=by
 revert h;cases x with
 | Continue a0=>exact fun _=>f a0
 | _=>exact nobE
structure EnvO (Γ:Gm) (Hz H:Hp) (g:G) (ρ:List Slot) (σ:L2.St):Prop where
 len:ρ.length=σ.length
 sh:∀ (i:Nat) (d:D),ρ[i]?=some (.sh d)->∃ v,σ[i]?=some (some v)/\Has Γ g d v
 ow:∀ (i:Nat) (d:D),ρ[i]?=some (.ow d)->∃ a,σ[i]?=some (some (.ref a))/\Hz a=none/\g.R a=none/\a ∉ g.α/\z9 Γ H g a d/\WF d=false
 inj:∀ (i j:Nat) (d e:D) (a:Addr),ρ[i]?=some (.ow d)->ρ[j]?=some (.ow e)->σ[i]?=some (some (.ref a))->σ[j]?=some (some (.ref a))->i=j
section
variable {Γ:Gm}{H H':Hp}{g g':G}{S:Store}{a:Addr}
theorem WOk.zP {o:HO}(w:WOk Γ H g S) (hr:g.R a=none) (ha:a ∉ g.α):WOk Γ (upd H a o) g S where
 rh:=fun b u q=>by
  have e:=w.rh b u q;have:b≠a:=by rintro rfl;rw [hr] at q;cases q
  rw [zp this];exact e
 len:=w.len
 nd:=w.nd
 off:=w.off
 cell:=fun k c b h1 h2=>(w.cell k c b h1 h2).mono (Le.refl g) fun o e=>by
  have:b≠a:=by rintro rfl;exact ha (ϴ h2)
  rw [zp this];exact e
theorem Step.zP {o:HO}(s:Step H g H' g') (h:H a=none):Step H g (upd H' a o) g' where
 le:=s.le
 fr:=fun b u e n=>by rw [zp (zF e h)];exact s.fr b u e n
 ex:=fun b u e=>by rw [zp (zF e h)];exact s.ex b u e
 na:=s.na
 nr:=s.nr
theorem Step.kept {o:HO}(s:Step H g H' g') (h:H a=some o) (hr:g.R a=none) (ha:a ∉ g.α) (hm:MutF o:=by trivial):H' a=some o/\g'.R a=none/\a ∉ g'.α:=by
 refine ⟨s.fr a o h ha,?_,fun m=>?_⟩
 ·cases q:g'.R a with
  | none=>rfl
  | some u=>
   rcases s.nr a (by rw [q];simp) with z | z | z | ⟨xs,z⟩
   ·exact absurd hr z
   ·rw [h] at z;cases z
   ·exact absurd z ha
   ·rw [h] at z;cases z;exact hm.elim
 ·rcases s.na a m with z | z
  ·exact ha z
  ·rw [h] at z;cases z
end
section
variable {Γ:Gm}{Hz H H':Hp}{g g':G}{S:Store}{ρ:List Slot}{σ:L2.St}
theorem zr (env:EnvO Γ Hz H g ρ σ) (st:Step H g H' g'):EnvO Γ Hz H' g' ρ σ:=by
 refine ⟨env.len,fun i d h=>?_,fun i d h=>?_,env.inj⟩
 ·obtain ⟨v,h1,h2⟩:=env.sh i d h;exact ⟨v,h1,h2.mono st.le⟩
 ·obtain ⟨a,h1,h2,h3,h4,h5,h6⟩:=env.ow i d h;obtain ⟨o,ho,hm⟩:=h5.WD;obtain ⟨k1,k2,k3⟩:=st.kept ho h3 h4 hm;exact ⟨a,h1,h2,k2,k3,h5.mono st.le fun o' z=>by rw [ho] at z;cases z;exact k1,h6⟩
def VN (Γ:Gm) (Hb:Hp) (x:Vl) (v:V) (H:Hp) (g:G):Prop:=match x.2 with
 | .st=>Has Γ g x.1 v
 | .fr=>∃ a,v=.ref a/\Hb a=none/\g.R a=none/\a ∉ g.α/\z9 Γ H g a x.1
 | .bo=>∃ a,v=.ref a/\g.R a=none/\a ∉ g.α/\z9 Γ H g a x.1
theorem VN.of {Hb:Hp}{d:D}{fr:Bool}{v:V}(h:VOk Γ Hb d fr v H g):VN Γ Hb (ofB (d,fr)) v H g:=by cases fr <;> exact h
theorem VN.back {H1:Hp}{g1:G}{x:Vl}{v:V}(h:VN Γ H1 x v H' g') (s:Step H g H1 g1):VN Γ H x v H' g':=by
 obtain ⟨d,k⟩:=x;cases k with
 | fr=>
  obtain ⟨a,e,h0,r⟩:=h;exact ⟨a,e,s.JD h0,r⟩
 | _=>exact h
theorem VN.step {Hb:Hp}{x:Vl}{v:V}(h:VN Γ Hb x v H g) (s:Step H g H' g'):VN Γ Hb x v H' g':=by
 obtain ⟨d,k⟩:=x;cases k with
 | st=>exact (show Has Γ g d v from h).mono s.le
 | fr=>
  obtain ⟨a,e,h0,h1,h2,h3⟩:=h;obtain ⟨o,ho,hm⟩:=h3.WD;obtain ⟨k1,k2,k3⟩:=s.kept ho h1 h2 hm;exact ⟨a,e,h0,k2,k3,h3.mono s.le fun o' q=>by rw [ho] at q;cases q;exact k1⟩
 | bo=>
  obtain ⟨a,e,h1,h2,h3⟩:=h;obtain ⟨o,ho,hm⟩:=h3.WD;obtain ⟨k1,k2,k3⟩:=s.kept ho h1 h2 hm;exact ⟨a,e,k2,k3,h3.mono s.le fun o' q=>by rw [ho] at q;cases q;exact k1⟩
theorem J6 {a:Addr}{d:D}(hr:g.R a=none) (h:z9 Γ H g a d):Rdb Γ H g (zH S d) (.ref a):=by
 cases d with
 | lst ds=>obtain ⟨vs,h1,h2⟩:=h;exact ⟨a,vs,rfl,h1,h2⟩
 | dK ks ds=>obtain ⟨vs,h1,h3,h2⟩:=h;exact ⟨a,vs,rfl,h1,h3,h2⟩
 | dT ks ds=>obtain ⟨vs,h1,h3,h2⟩:=h;exact ⟨a,vs,rfl,h1,h3,h2⟩
 | ref=>obtain ⟨o,h1,_⟩:=h;rw [hr] at h1;cases h1
 | ins=>exact ⟨a,rfl⟩
 | _=>exact h.elim
theorem VN.rdb {Hb:Hp}{x:Vl}{v:V}(h:VN Γ Hb x v H g) (w:WOk Γ H g S):Rdb Γ H g (zH S x.1) v:=by
 obtain ⟨d,k⟩:=x;cases k with
 | st=>exact zaj w h
 | fr=>obtain ⟨a,rfl,_,h1,_,h3⟩:=h;exact J6 h1 h3
 | bo=>obtain ⟨a,rfl,h1,_,h3⟩:=h;exact J6 h1 h3
theorem VN.sc {Hb:Hp}{d:D}{k:Kd}{v:V}(h:VN Γ Hb (d,k) v H g) (hc:∀ a,¬ z9 Γ H g a d):Has Γ g d v:=by
 cases k with
 | st=>exact h
 | fr=>obtain ⟨a,_,_,_,_,h3⟩:=h;exact (hc a h3).elim
 | bo=>obtain ⟨a,_,_,_,h3⟩:=h;exact (hc a h3).elim
theorem VN.keep {x:Vl}{v:V}{Q:D->Prop}(h:VN Γ H x v H' g') (st:Step H g H' g') (w:WOk Γ H' g' S) (k:EV.keep x Q):∃ g2,Step H g H' g2/\WOk Γ H' g2 S/\Has Γ g2 x.1 v/\Q x.1:=by
 obtain ⟨d,kk⟩:=x;cases kk with
 | st=>exact ⟨g',st,w,h,k⟩
 | fr=>
  obtain ⟨g2,a,b,c,_⟩:=freeze (fr:=true) st w h rfl;exact ⟨g2,a,b,c,k⟩
 | bo=>exact k.elim
end
def TX (Γ:Gm) (cf:Cf) (e:E):TE:=fun σ H Q=>∃ ρ S V g Hz,wpE cf ρ e V S/\WOk Γ H g S/\EnvO Γ Hz H g ρ σ/\∀ x v H' g' S',Step H g H' g'->WOk Γ H' g' S'->VN Γ H x v H' g'->V x S'->Q v H'
def TB (Γ:Gm) (cf:Cf) (e:E):TT:=fun σ H Q=>∃ ρ S V g Hz,wpE cf ρ e V S/\WOk Γ H g S/\EnvO Γ Hz H g ρ σ/\∀ x H' g' S',Step H g H' g'->WOk Γ H' g' S'->V x S'->isB x.1 fun b=>Q b H'
def TXs (Γ:Gm) (cf:Cf) (es:List E):TA:=fun σ H Q=>∃ ρ S W g Hz,wpEs cf ρ es W S/\WOk Γ H g S/\EnvO Γ Hz H g ρ σ/\∀ ds vs H' g' S',Step H g H' g'->WOk Γ H' g' S'->Hass Γ g' ds vs->W ds S'->Q vs H'
def TXo (Γ:Gm) (cf:Cf) (o:Option E):TO:=fun σ H Q=>∃ ρ S W g Hz,wpO cf ρ o W S/\WOk Γ H g S/\EnvO Γ Hz H g ρ σ/\∀ i H' g' S',Step H g H' g'->WOk Γ H' g' S'->W i S'->Q i H'
section
variable {Γ:Gm}{cf:Cf}{σ:L2.St}{H:Hp}{P:Prop}
theorem goX {e:E}{Q:VK}(h:TX Γ cf e σ H Q) (f:∀ ρ S V g Hz,wpE cf ρ e V S->WOk Γ H g S->EnvO Γ Hz H g ρ σ->(∀ x v H' g' S',Step H g H' g'->WOk Γ H' g' S'->VN Γ H x v H' g'->V x S'->Q v H')->P):P:=
 let ⟨ρ,S,V,g,Hz,a,b,c,d⟩:=h;f ρ S V g Hz a b c d
theorem goB {e:E}{Q} (h:TB Γ cf e σ H Q) (f:∀ ρ S V g Hz,wpE cf ρ e V S->WOk Γ H g S->EnvO Γ Hz H g ρ σ->(∀ x H' g' S',Step H g H' g'->WOk Γ H' g' S'->V x S'->isB x.1 fun b=>Q b H')->P):P:=
 let ⟨ρ,S,V,g,Hz,a,b,c,d⟩:=h;f ρ S V g Hz a b c d
theorem goS {es:List E}{Q} (h:TXs Γ cf es σ H Q) (f:∀ ρ S W g Hz,wpEs cf ρ es W S->WOk Γ H g S->EnvO Γ Hz H g ρ σ->(∀ ds vs H' g' S',Step H g H' g'->WOk Γ H' g' S'->Hass Γ g' ds vs->W ds S'->Q vs H')->P):P:=
 let ⟨ρ,S,V,g,Hz,a,b,c,d⟩:=h;f ρ S V g Hz a b c d
theorem goO {o:Option E}{Q} (h:TXo Γ cf o σ H Q) (f:∀ ρ S W g Hz,wpO cf ρ o W S->WOk Γ H g S->EnvO Γ Hz H g ρ σ->(∀ i H' g' S',Step H g H' g'->WOk Γ H' g' S'->W i S'->Q i H')->P):P:=
 let ⟨ρ,S,V,g,Hz,a,b,c,d⟩:=h;f ρ S V g Hz a b c d
end
def rAny (X:Cx) (f:δ->δ->Sem δ):R2:=fun x y H Q=>∃ r,OpR X f r/\r x y H Q
theorem VJ {X:Cx}{f:δ->δ->Sem δ}:OpR X f (rAny X f):=fun pJ s σ H x y v u Q I rx ry ⟨_,h,q⟩=>h pJ s σ H x y v u Q I rx ry q
def zix (X:Cx):R2:=fun x y H Q=>∃ r,IxR X r/\r x y H Q
theorem ziw {X:Cx}:IxR X (zix X):=fun a b pJ s σ H x y v u Q I rx ry ⟨_,h,q⟩=>h a b pJ s σ H x y v u Q I rx ry q
def zjz (X:Cx):V->Option Int->Option Int->Hp->VK->Prop:=fun x l u H Q=>∃ r,SlR X r/\r x l u H Q
theorem zg0 {X:Cx}:SlR X (zjz X):=fun pJ s σ H x v vl vu lo hi sl Q I rx hs pl pu ⟨_,h,q⟩=>h pJ s σ H x v vl vu lo hi sl Q I rx hs pl pu q
def zga (X:Cx) (f:δ):List V->Hp->VK->Prop:=fun xs H Q=>∃ r,yI X f r/\r xs H Q
theorem ZR {X:Cx}{f:δ}:yI X f (zga X f):=fun pJ s σ H xs us Q I rv ⟨_,h,q⟩=>h pJ s σ H xs us Q I rv q
section
variable {X:Cx}{Γ:Gm}{cf:Cf}{x y z:Expr}{pos p:Pos}{a b c:E}
theorem zg2 {i:Nat}{n:Str}(hN:X.N[i]?=some n) (hv:Vis X.env.scope n) (hd:(n==("__debug__":Str))=false) (hcd:(n==("__classdict__":Str))=false):PE X (.Name n pos) (TX Γ cf (.var i)):=by
 refine (kO hN hv hd hcd).imp fun σ H Q h0=>goX h0 fun ρ S V g Hz hw w env k=>?_
 have hw:sel ρ[i]? (fun d=>V (d,.st) S) (fun d=>V (d,.bo) S):=hw;cases e:ρ[i]? with
 | none=>rw [e] at hw;exact hw.elim
 | some s=>
  rw [e] at hw;cases s with
  | no=>exact hw.elim
  | sh d=>
   obtain ⟨v,h1,h2⟩:=env.sh i d e;exact ⟨v,h1,k (d,.st) v H g S (Step.refl H g) w h2 hw⟩
  | ow d=>
   obtain ⟨a,h1,h2,h3,h4,h5,_⟩:=env.ow i d e;exact ⟨_,h1,k (d,.bo) _ H g S (Step.refl H g) w ⟨a,rfl,h3,h4,h5⟩ hw⟩
theorem zhm {t:V}{d:D}{e:E}(h:PE X x (tC t)) (hd:∀ g,Has Γ g d t) (he:∀ ρ V S,wpE cf ρ e V S->V (d,.st) S):PE X x (TX Γ cf e):=h.imp fun σ H Q h0=>goX h0 fun ρ S V g Hz hw w env k=>k (d,.st) _ H g S (Step.refl H g) w (hd g) (he _ _ _ hw)
theorem two {G1:V->V->Hp->Prop}{σ:L2.St}{H:Hp}{ρ:List Slot}{S:Store}{g:G}{Hz:Hp}{W:Vl->Vl->Store->Prop}(hw:wpE cf ρ a (fun x S1=>wpE cf ρ b (fun y S2=>W x y S2) S1) S) (w:WOk Γ H g S) (env:EnvO Γ Hz H g ρ σ)
  (k:∀ x y u v H' g' S',Step H g H' g'->WOk Γ H' g' S'->VN Γ H x u H' g'->VN Γ H y v H' g'->W x y S'->G1 u v H'):TX Γ cf a σ H fun u H1=>TX Γ cf b σ H1 fun v H2=>G1 u v H2:=
 ⟨ρ,S,_,g,Hz,hw,w,env,fun x u H1 g1 S1 st1 w1 v1 h1=>⟨ρ,S1,_,g1,Hz,h1,w1,zr env st1,fun y v H2 g2 S2 st2 w2 v2 h2=>k x y u v H2 g2 S2 (st1.trans st2) w2 (v1.step st2) (v2.back st1) h2⟩⟩
theorem zj4 {op:gO}(hK:X.K=Γ.K) (ha:PE X x (TX Γ cf a)) (hb:PE X y (TX Γ cf b)):PE X (.BinOp x op y pos) (TX Γ cf (.bin op a b)):=
 (zkj VJ ha hb).imp fun σ H Q h0=>goX h0 fun ρ S V g Hz hw w env k=>two hw w env fun x y u v H' g' S' st w' vx vy h=>by
  have h:opt (opD op (zH S' x.1) (zH S' y.1)) (fun p=>V (ofB p) S'):=h;cases eo:opD op (zH S' x.1) (zH S' y.1) with
  | none=>rw [eo] at h;exact h.elim
  | some p=>
   rw [eo] at h;obtain ⟨r,h1,h2⟩:=zhX (X:=X) hK eo;exact ⟨r,h1,h2 S' H' g' u v Q w' (vx.rdb w') (vy.rdb w') fun t H2 g2 st2 _ w2 vo=>k _ t H2 g2 S' (st.trans st2) w2 ((VN.of vo).back st) h⟩
theorem cmp2 {op:gQ}{u v:V}{dx dy:Vl}{Hb H':Hp}{g':G}{S':Store}{Q:VK}{T:Bool->Prop}(hK:X.K=Γ.K) (hu:X.A.units+61 < Ϸ) (w':WOk Γ H' g' S') (vx:VN Γ Hb dx u H' g') (vy:VN Γ Hb dy v H' g') (h:opt (cmpD op (zH S' dx.1) (zH S' dy.1)) T)
  (k:∀ r H2 g2,Step H' g' H2 g2->WOk Γ H2 g2 S'->T r->Q (.bl r) H2):rAny X (Ϗ op) u v H' Q:=by
 cases eo:cmpD op (zH S' dx.1) (zH S' dy.1) with
 | none=>rw [eo] at h;exact h.elim
 | some r=>
  rw [eo] at h;obtain ⟨r2,h1,h2⟩:=zf8 (X:=X) hK hu eo;refine ⟨r2,h1,h2 S' H' g' u v Q w' (vx.rdb w') (vy.rdb w') fun t H2 g2 st2 _ w2 vo=>?_⟩;cases (show t=.bl r from vo);exact k r H2 g2 st2 w2 h
theorem zj1 {op:gQ}(hK:X.K=Γ.K) (hu:X.A.units+61 < Ϸ) (ha:PE X x (TX Γ cf a)) (hb:PE X y (TX Γ cf b)) (hm:lE op y=false):PE X (.Compare x [op] [y] pos) (TX Γ cf (.cmp op a b))/\PT X (.Compare x [op] [y] pos) (TB Γ cf (.cmp op a b)):=
 ⟨(zfe VJ ha hb hm).imp fun σ H Q h0=>goX h0 fun ρ S V g Hz hw w env k=>two hw w env fun x y u v H' g' S' st w' vx vy h=>cmp2 hK hu w' vx vy h fun r H2 g2 st2 w2 h=>k (.bl r,.st) _ H2 g2 S' (st.trans st2) w2 rfl h,
 (ze2 VJ ha hb hm).imp fun σ H Q h0=>goB h0 fun ρ S V g Hz hw w env k=>two hw w env fun x y u v H' g' S' st w' vx vy h=>cmp2 hK hu w' vx vy h fun r H2 g2 st2 w2 h=>⟨r,rfl,k (.bl r,.st) H2 g2 S' (st.trans st2) w2 h⟩⟩
theorem chn3 {o1 o2:gQ}{σ:L2.St}{H:Hp}{Q:VK}{ρ:List Slot}{S:Store}{g:G}{Hz:Hp}{V:Po}(hK:X.K=Γ.K) (hu:X.A.units+61 < Ϸ) (hw:wpE cf ρ (.chn o1 o2 a b c) V S) (w:WOk Γ H g S) (env:EnvO Γ Hz H g ρ σ)
  (k:∀ r H' g' S',Step H g H' g'->WOk Γ H' g' S'->V (.bl r,.st) S'->Q (.bl r) H'):QQ (rAny X (Ϗ o1)) (rAny X (Ϗ o2)) (TX Γ cf a) (TX Γ cf b) (TX Γ cf c) σ H Q:=
 two hw w env fun x y u v H' g' S' st w' vx vy h=>cmp2 hK hu w' vx vy h fun r H2 g2 st2 w2 h=>⟨r,rfl,by
  cases r with
  | false=>exact iteF (k false H2 g2 S' (st.trans st2) w2 h)
  | true=>exact iteT ⟨ρ,S',_,g2,Hz,h,w2,zr env (st.trans st2),fun z t H3 g3 S3 st3 w3 vz h3=>cmp2 hK hu w3 (vy.step (st2.trans st3)) (vz.back (st.trans st2)) h3 fun r H4 g4 st4 w4 h4=>k r H4 g4 S3 (((st.trans st2).trans st3).trans st4) w4 h4⟩⟩
theorem zj2 {o1 o2:gQ}(hK:X.K=Γ.K) (hu:X.A.units+61 < Ϸ) (ha:PE X x (TX Γ cf a)) (hb:PE X y (TX Γ cf b)) (hc:PE X z (TX Γ cf c)) (hm:lastMarks [o1,o2] [y,z]=false):PE X (.Compare x [o1,o2] [y,z] pos) (TX Γ cf (.chn o1 o2 a b c))/\PT X (.Compare x [o1,o2] [y,z] pos) (TB Γ cf (.chn o1 o2 a b c)):=
 ⟨(zcF VJ VJ ha hb hc hm).imp fun σ H Q h0=>goX h0 fun ρ S V g Hz hw w env k=>chn3 hK hu hw w env fun r H' g' S' st w' h=>k (.bl r,.st) _ H' g' S' st w' rfl h,
 (zcr VJ VJ ha hb hc hm).imp fun σ H Q h0=>goB h0 fun ρ S V g Hz hw w env k=>chn3 hK hu hw w env fun r H' g' S' st w' h=>⟨r,rfl,k _ H' g' S' st w' h⟩⟩
theorem uw {d:D}{Q:Bool->Prop}(h:isB d Q):∃ b,d=.bl b/\Q b:=by
 cases d with
 | bl b=>exact ⟨b,rfl,h⟩
 | _=>exact h.elim
theorem ziF {d:D}{Q:Int->Prop}(h:isZ d Q):∃ b,d=.int b/\Q b:=by
 cases d with
 | int b=>exact ⟨b,rfl,h⟩
 | _=>exact h.elim
theorem VN.bl {Hb H:Hp}{g:G}{x:Vl}{v:V}{Q:Bool->Prop}(h:VN Γ Hb x v H g) (k:isB x.1 Q):∃ b,v=.bl b/\Q b:=by obtain ⟨d,kk⟩:=x;obtain ⟨b,rfl,q⟩:=uw k;exact ⟨b,h.sc fun _ z=>z.elim,q⟩
theorem VN.int {Hb H:Hp}{g:G}{x:Vl}{v:V}{Q:Int->Prop}(h:VN Γ Hb x v H g) (k:isZ x.1 Q):∃ b,v=.int b/\Q b:=by obtain ⟨d,kk⟩:=x;obtain ⟨b,rfl,q⟩:=ziF k;exact ⟨b,h.sc fun _ z=>z.elim,q⟩
theorem zjQ (h:PE X x (TX Γ cf a)):PE X (.UnaryOp .USub x pos) (TX Γ cf (.neg a)):=
 (zkh zgD h).imp fun σ H Q h0=>goX h0 fun ρ S V g Hz hw w env k=>⟨ρ,S,_,g,Hz,hw,w,env,fun x v H' g' S' st w' vx h=>by
  obtain ⟨i,e,q⟩:=vx.int h
  exact ⟨i,e,k (.int (-i),.st) _ H' g' S' st w' rfl q⟩⟩
theorem zg3 (h:PE X x (TX Γ cf a)) (he:∀ whole,iH x X.env whole=(do let v <- whole;standAt x.pos;gf [v] (truthy v))):PT X x (TB Γ cf a):=
 (zhz h he).imp fun σ H Q h0=>goB h0 fun ρ S V g Hz hw w env k=>⟨ρ,S,_,g,Hz,hw,w,env,fun x v H' g' S' st w' vx h=>vx.bl (k x H' g' S' st w' h)⟩
theorem zhe (h:PT X x (TB Γ cf a)):PT X (.UnaryOp .Not x pos) (TB Γ cf (.not a)):=
 (zhA h).imp fun σ H Q h0=>goB h0 fun ρ S V g Hz hw w env k=>⟨ρ,S,_,g,Hz,hw,w,env,fun x H' g' S' st w' h=>by
  obtain ⟨b,e,q⟩:=uw h;rw [e]
  exact k (.bl (!b),.st) H' g' S' st w' q⟩
theorem zjP (h:PE X x (TX Γ cf a)):PE X (.UnaryOp .Not x pos) (TX Γ cf (.not a)):=
 (zhL h).imp fun σ H Q h0=>goX h0 fun ρ S V g Hz hw w env k=>⟨ρ,S,_,g,Hz,hw,w,env,fun x v H' g' S' st w' vx h=>by
  obtain ⟨b,e,q⟩:=vx.bl h
  exact ⟨b,e,k (.bl (!b),.st) _ H' g' S' st w' rfl q⟩⟩
theorem zb9 {σ:L2.St}{H H1:Hp}{g g1:G}{Q:VK}{ρ:List Slot}{V:Po}{S1:Store}{Hz:Hp}(st:Step H g H1 g1) (w1:WOk Γ H1 g1 S1) (env:EnvO Γ Hz H g ρ σ) (k:∀ x v H' g' S',Step H g H' g'->WOk Γ H' g' S'->VN Γ H x v H' g'->V x S'->Q v H') (hw:wpE cf ρ a V S1):TX Γ cf a σ H1 Q:=
 ⟨ρ,S1,V,g1,Hz,hw,w1,zr env st,fun y u H2 g2 S2 st2 w2 vy hy=>k y u H2 g2 S2 (st.trans st2) w2 (vy.back st) hy⟩
theorem zcc {σ:L2.St}{H H1:Hp}{g g1:G}{Q:Bool->Hp->Prop}{ρ:List Slot}{V:Po}{S1:Store}{Hz:Hp}(st:Step H g H1 g1) (w1:WOk Γ H1 g1 S1) (env:EnvO Γ Hz H g ρ σ) (k:∀ x H' g' S',Step H g H' g'->WOk Γ H' g' S'->V x S'->isB x.1 fun b=>Q b H') (hw:wpE cf ρ a V S1):TB Γ cf a σ H1 Q:=
 ⟨ρ,S1,V,g1,Hz,hw,w1,zr env st,fun y H2 g2 S2 st2 w2 hy=>k y H2 g2 S2 (st.trans st2) w2 hy⟩
theorem zj6 {rest:List Expr}(ha:PE X x (TX Γ cf a)) (hb:PE X (.BoolOp .And (y::rest) pos) (TX Γ cf b)):PE X (.BoolOp .And (x::y::rest) pos) (TX Γ cf (.and a b)):=
 (zhP ha hb).imp fun σ H Q h0=>goX h0 fun ρ S V g Hz hw w env k=>⟨ρ,S,_,g,Hz,hw,w,env,fun x v H1 g1 S1 st w1 vx h=>by
  obtain ⟨r,e,q⟩:=vx.bl h;refine ⟨r,e,?_⟩;cases r with
  | false=>exact iteF (k (.bl false,.st) _ H1 g1 S1 st w1 rfl q)
  | true=>exact iteT (zb9 st w1 env k q)⟩
theorem s_or {rest:List Expr}(ha:PE X x (TX Γ cf a)) (hb:PE X (.BoolOp .Or (y::rest) pos) (TX Γ cf b)):PE X (.BoolOp .Or (x::y::rest) pos) (TX Γ cf (.or a b)):=
 (zki ha hb).imp fun σ H Q h0=>goX h0 fun ρ S V g Hz hw w env k=>⟨ρ,S,_,g,Hz,hw,w,env,fun x v H1 g1 S1 st w1 vx h=>by
  obtain ⟨r,e,q⟩:=vx.bl h;refine ⟨r,e,?_⟩;cases r with
  | true=>exact iteT (k (.bl true,.st) _ H1 g1 S1 st w1 rfl q)
  | false=>exact iteF (zb9 st w1 env k q)⟩
theorem PW.impE {t t':TT}(h:PW X x t) (i:∀ σ H Q,t' σ H Q->t σ H Q):PW X x t':=fun wh pJ s σ H Q I q=>h wh pJ s σ H Q I (i σ H Q q)
theorem zho {rest:List Expr}(ha:PT X x (TB Γ cf a)) (hb:PW X (.BoolOp .And (y::rest) pos) (TB Γ cf b)):PW X (.BoolOp .And (x::y::rest) pos) (TB Γ cf (.and a b)):=
 PW.impE (zhx ha hb) fun σ H Q h0=>goB h0 fun ρ S V g Hz hw w env k=>⟨ρ,S,_,g,Hz,hw,w,env,fun x H1 g1 S1 st w1 h=>by
  obtain ⟨r,e,q⟩:=uw h;rw [e];show (if r=true then _ else _)
  cases r with
  | false=>exact iteF (k (.bl false,.st) H1 g1 S1 st w1 q)
  | true=>exact iteT (zcc st w1 env k q)⟩
theorem zjO {rest:List Expr}(ha:PT X x (TB Γ cf a)) (hb:PW X (.BoolOp .Or (y::rest) pos) (TB Γ cf b)):PW X (.BoolOp .Or (x::y::rest) pos) (TB Γ cf (.or a b)):=
 PW.impE (zke ha hb) fun σ H Q h0=>goB h0 fun ρ S V g Hz hw w env k=>⟨ρ,S,_,g,Hz,hw,w,env,fun x H1 g1 S1 st w1 h=>by
  obtain ⟨r,e,q⟩:=uw h;rw [e];show (if r=true then _ else _)
  cases r with
  | true=>exact iteT (k (.bl true,.st) H1 g1 S1 st w1 q)
  | false=>exact iteF (zcc st w1 env k q)⟩
theorem zdI {op:m8}(h:PT X x (TB Γ cf a)):PW X (.BoolOp op [x] pos) (TB Γ cf (.one a)):=by
 cases op with
 | And=>exact zeY h
 | Or=>exact zhw h
theorem zjU (hc:PT X x (TB Γ cf c)) (ha:PE X y (TX Γ cf a)) (hb:PE X z (TX Γ cf b)):PE X (.IfExp x y z pos) (TX Γ cf (.ite c a b)):=
 (zcB hc ha hb).imp fun σ H Q h0=>goX h0 fun ρ S V g Hz hw w env k=>⟨ρ,S,_,g,Hz,hw,w,env,fun x H1 g1 S1 st w1 h=>by
  obtain ⟨r,e,q⟩:=uw h;rw [e];show (if r=true then _ else _)
  cases r with
  | true=>exact iteT (zb9 st w1 env k q)
  | false=>exact iteF (zb9 st w1 env k q)⟩
theorem zc (h:notStar x=true) (xs:List Expr) (env:Env):Ϣ (x::xs) env=(false,eval x env)::Ϣ xs env:=by cases x <;> first | rfl | cases h
theorem zhf:PA X [] (TXs Γ cf []):=wK.imp fun σ H Q h0=>goS h0 fun ρ S W g Hz hw w env k=>k [] [] H g S (Step.refl H g) w rfl hw
theorem args_cons {es:List E}{σ:L2.St}{H:Hp}{Q:List V->Hp->Prop}(h:TXs Γ cf (a::es) σ H Q):TX Γ cf a σ H fun v H1=>TXs Γ cf es σ H1 fun vs H2=>Q (v::vs) H2:=by obtain ⟨ρ,S,W,g,Hz,hw,w,env,k⟩:=h;refine ⟨ρ,S,_,g,Hz,hw,w,env,fun x v H1 g1 S1 st w1 vx h=>?_⟩;obtain ⟨g2,st2,w2,hx,q⟩:=vx.keep st w1 h;exact ⟨ρ,S1,_,g2,Hz,q,w2,zr env st2,fun ds vs H3 g3 S3 st3 w3 hs h3=>k (x.1::ds) _ H3 g3 S3 (st2.trans st3) w3 ⟨v,vs,rfl,hx.mono st3.le,hs⟩ h3⟩
theorem zdJ {xs:List Expr}{es:List E}(hs:notStar x=true) (h1:PE X x (TX Γ cf a)) (h2:PA X xs (TXs Γ cf es)):PA X (x::xs) (TXs Γ cf (a::es)):=
 (yw h1 h2 (zc hs _ _)).imp fun σ H Q h=>args_cons h
theorem vJ {r:Bool}{T:Prop}(h:tst r T False):r=true/\T:=by
 cases r with
 | true=>exact ⟨rfl,h⟩
 | false=>exact h.elim
theorem yd {α:Type}{o:Option α}{Q:α->Prop}(h:opt o Q):∃ a,o=some a/\Q a:=by
 cases o with
 | some a=>exact ⟨a,rfl,h⟩
 | none=>exact h.elim
theorem zjF {xs:List Expr}{es:List E}{kk:Nat}(h:PA X xs (TXs Γ cf es)):PE X (.Tuple xs kk pos) (TX Γ cf (.tup es)):=
 (zhJ h).imp fun σ H Q h0=>goX h0 fun ρ S V g Hz hw w env k=>⟨ρ,S,_,g,Hz,hw,w,env,fun ds vs H1 g1 S1 st w1 hv h=>by
  obtain ⟨hf,q⟩:=vJ h
  exact ⟨by rw [hv.len];exact wL hf,fun p hp=>Y5 (Q:=Q) w1 (fun v H2 g2 st2 _ w2 vo=>k (.tup ds,.st) v H2 g2 S1 (st.trans st2) w2 vo q) hv hp⟩⟩
theorem zjS {xs:List Expr}{es:List E}(h:PA X xs (TXs Γ cf es)):PE X (.List xs pos) (TX Γ cf (.lst es)):=
 (zhN h).imp fun σ H Q h0=>goX h0 fun ρ S V g Hz hw w env k=>⟨ρ,S,_,g,Hz,hw,w,env,fun ds vs H1 g1 S1 st w1 hv h=>by
  obtain ⟨hf,q⟩:=vJ h
  exact ⟨by rw [hv.len];exact wL hf,fun p hp=>v5 (Q:=Q) w1 (fun v H2 g2 st2 _ w2 vo=>k (.lst ds,.fr) v H2 g2 S1 (st.trans st2) w2 ((VN.of (fr:=true) vo).back st) q) hv hp⟩⟩
set_option tactic.hygienic true in
theorem zjG (hK:X.K=Γ.K) (hu:X.A.units+1 < Ϸ) (ha:PE X x (TX Γ cf a)) (hb:PE X y (TX Γ cf b)) (hp:UW y):PE X (.Subscript x y pos) (TX Γ cf (.sub a b)):=
 (zkk ziw ha hb hp).imp fun σ H Q h0=>goX h0 fun ρ S V g Hz hw w env k=>two (G1:=fun u v H'=>zix X u v H' Q) hw w env fun x y u v H' g' S' st w' vx vy h=>by
  obtain ⟨d,eo,q⟩:=yd h;obtain ⟨r,h1,h2⟩:=ziv (X:=X) hK hu eo;have e:zH S' y.1=y.1:=by
   cases hy:y.1 with
   | ref n=>
    rw [hy] at eo;unfold subD at eo;split at eo <;> first | cases eo | (rename_i hh;cases hh) | skip
    all_goals (simp [wN,keyD] at eo)
   | _=>rfl
  have vb:=vy.rdb w';rw [e] at vb;exact ⟨r,h1,h2 S' H' g' u v Q w' (vx.rdb w') vb fun t H2 g2 st2 _ w2 vo=>k (d,.st) t H2 g2 S' (st.trans st2) w2 vo q⟩
theorem zjN:PO X none (TXo Γ cf none):=fun pJ s σ H Q I h0=>goO h0 fun ρ S W g Hz hw w env k=>ze9 pJ s σ H Q I (k none H g S (Step.refl H g) w hw)
theorem s_po (h:PE X x (TX Γ cf a)):PO X (some x) (TXo Γ cf (some a)):=fun pJ s σ H Q I h0=>goO h0 fun ρ S W g Hz hw w env k=>ze8 h pJ s σ H Q I ⟨ρ,S,_,g,Hz,hw,w,env,fun x v H1 g1 S1 st w1 vx h=>by
 obtain ⟨i,e,q⟩:=vx.int h
 exact ⟨i,e,k (some i) H1 g1 S1 st w1 q⟩⟩
theorem zjJ {lo hi:Option Expr}{l u:Option E}{p2:Pos}(hK:X.K=Γ.K) (h:PE X x (TX Γ cf a)) (hl:PO X lo (TXo Γ cf l)) (hh:PO X hi (TXo Γ cf u)):PE X (.Subscript x (.Slice lo hi none p2) pos) (TX Γ cf (.slc a l u)):=
 (zcA zg0 h hl hh).imp fun σ H Q h0=>goX h0 fun ρ S V g Hz hw w env k=>⟨ρ,S,_,g,Hz,hw,w,env,fun x v H1 g1 S1 st1 w1 vx h1=>⟨ρ,S1,_,g1,Hz,h1,w1,zr env st1,fun i H2 g2 S2 st2 w2 h2=>⟨ρ,S2,_,g2,Hz,h2,w2,zr env (st1.trans st2),fun j H3 g3 S3 st3 w3 h3=>by
  obtain ⟨⟨d,fr⟩,eo,q⟩:=yd h3;obtain ⟨r,r1,r2⟩:=zgZ (X:=X) (Γ:=Γ) hK eo;have st:=(st1.trans st2).trans st3
  exact ⟨r,r1,r2 S3 H3 g3 v Q w3 ((vx.step (st2.trans st3)).rdb w3) fun t H4 g4 st4 _ w4 vo=>k _ t H4 g4 S3 (st.trans st4) w4 ((VN.of vo).back st) q⟩⟩⟩⟩
end
end EV
namespace L2
open PySem PySem.Spec PyProof.Rows
noncomputable def cxG (X:Cx) (sc:dD) (cl:List (Str×Addr)) (xs:List Str) (js:List Nat) (C:Addr) (s3:ω) (H3:Hp) (fp:List Addr):Cx:=
 { X with N:=xs++js.map (fun j=>X.N.getD j ""),sy:=s3,Hz:=H3,env:=compEnvC sc cl C X.env,outer:=X.stack,stack:=X.stack,ex:=fp,fn:=fun _=>false,pn:=[],xe:=fun _ _=>False }
structure Qi (X:Cx) (sc:dD) (cl:List (Str×Addr)) (xs:List Str) (js:List Nat):Prop where
 clos:closureFor sc X.env=pure cl
 cell:∀ y∈sc.names,y.2≠.cell
 kind:sc.kind=.function
 names:∀ y∈sc.names,y.2=.local->sc.names.lookup y.1=some .local
 sub:∀ y c,cl.lookup y=some c->X.env.cells.lookup y=some c
 has:∀ y,((iT sc X.env).names.lookup y=some .cell\/(iT sc X.env).names.lookup y=some .free)->∃ c,cl.lookup y=some c
 free:∀ j∈js,∀ y,X.N[j]?=some y->Vis X.env.scope y/\X.env.kindOf y≠some .local/\(∃ c,cl.lookup y=some c)/\((iT sc X.env).names.lookup y=some .cell\/(iT sc X.env).names.lookup y=some .free)
 inN:∀ j∈js,j < X.N.length
section
variable {X:Cx}{pJ:List (Addr×Obj)}{σ:St}{H3:Hp}{s3:ω}{sc:dD}{cl:List (Str×Addr)}{xs:List Str}{js:List Nat}{fp:List Addr}{h1:Heap}{o:Obj}{tk:Nat}
theorem za9 (I:Inv X pJ σ H3 s3) (K:Qi X sc cl xs js) (hns:h1.Ns s3.heap.objs.size fun _=>none) (hsb:ϵ s3.heap.objs.size (s3.heap.push o) h1)
  (hfp:∀ b∈fp,FpOk X pJ H3 b/\b < s3.heap.objs.size):
  Inv (cxG X sc cl xs js s3.heap.objs.size s3 H3 fp) [] (Κ xs.length none++rows σ js) H3 { s3 with heap:=h1,toks:=tk }:=by
 have kept:∀ b u,s3.heap.get? b=some u->h1.get? b=some u:=fun b u e=>(hsb.2 b (ό (Η e))).trans (ο _ e)
 refine ⟨⟨I.ok.mod,K.kind,I.ok.glob,I.ok.blt,Α _,fun y z c e1 e2=>I.ok.inj y z c (K.sub _ _ e1) (K.sub _ _ e2),fun y hy=>K.has y hy,fun y c hf=>absurd (show false=true from hf) ϓ,I.ok.hd,I.ok.frames,.inl rfl,
  fun b hb=>⟨ό (hfp b hb).2,fun y c e=>(hfp b hb).1.2.2.2.2.1 y c (K.sub _ _ e)⟩,I.bs,Ϛ I.ok.bsz I.sz,fun b o' e hb=>?_,fun b hb z=>?_,I.stack,I.Vw⟩,
  rfl,I.bare,Un.kept kept,⟨_,hns,fun i y v e1 e2 e3=>?_⟩,fun y c e=>?_,I.hok.fresh (Α _),fun y c e=>I.freeC y c (K.sub _ _ e),fun p hp=>absurd (show p∈([]:List (Addr×Obj)) from hp) (by simp),I.hok.kept kept,?_⟩
 ·rcases (hfp b hb).1.2.2.2.1 with z | z
  ·exact I.ok.noex b o' e z
  ·exact absurd (ύ (Η e) (Ϛ I.ok.bsz z)) (cH _)
 ·rcases ψ.mp (I.Jh b z) with q | q
  ·exact (hfp b hb).1.2.1 q
  ·exact (hfp b hb).1.2.2.1 q
 ·by_cases hi:i < xs.length
  ·rw [ϗ (by simpa using hi),dw,if_pos hi] at e2;cases e2
  ·have hi':xs.length<=i:=by lia
   have e1':(js.map fun j=>X.N.getD j "")[i - xs.length]?=some y:=by have q:(xs++js.map fun j=>X.N.getD j "")[i]?=some y:=e1;rw [ϝ hi'] at q;exact q
   have e2':(rows σ js)[i - xs.length]?=some (some v):=by rw [ϝ (by simpa using hi')] at e2;simpa using e2
   generalize i - xs.length=i at e1' e2';rw [Ρ] at e1';unfold rows at e2';rw [Ρ] at e2';cases ej:js[i]? with
   | none=>rw [ej] at e1';cases e1'
   | some j=>
    rw [ej] at e1' e2';simp only [fZ,ϰ.injEq] at e1' e2';have hj:=ϴ ej;have hlt:=K.inN j hj;have eN:X.N[j]?=some y:=by rw [<- e1',bH,Ε hlt];rfl
    have eS:σ[j]?=some (some v):=by
     rw [bH] at e2';cases q:σ[j]? with
     | none=>rw [q] at e2';cases e2'
     | some z=>rw [q] at e2';simpa using e2'
    obtain ⟨hv,hnl,⟨c,hc⟩,hk⟩:=K.free j hj y eN;obtain ⟨m,_,hl⟩:=I.loc;obtain ⟨u,r,l⟩:=hl j y v eN eS hv;refine ⟨u,r,?_⟩;rcases l with ⟨k,_⟩ | ⟨k,c',e',z⟩
    ·exact absurd k hnl
    ·have:c'=c:=ϙ (e'.symm.trans (K.sub _ _ hc));subst this;obtain ⟨oc,hoc,hd⟩:=z;exact .inr ⟨hk,c',hc,oc,kept _ _ hoc,hd⟩
 ·obtain ⟨v,oc,hoc,hd⟩:=I.cell y c (K.sub _ _ e);exact ⟨v,oc,kept _ _ hoc,hd⟩
 ·simp [rows,cxG]
def PTs (X:Cx) (ifs:List Expr) (t:TT):Prop:=
 ∀ (pJ:List (Addr×Obj)) (s:ω) (σ:St) (H:Hp) (Q:Bool->Hp->Prop),Inv X pJ σ H s->t σ H Q ->
  Ξ (Φ X.prog X.w) X.A (forIn ifs true fun c r=>if r=true then do let ok <- iH c X.env (eval c X.env);pure (Ϻ ok) else pure (Ϻ r)) (TP X pJ σ Q) X.xe s
theorem ze1:PTs X [] (fun _ H Q=>Q true H):=fun _ _ _ H _ I h=>wpAny_tests_nil ⟨H,I,h⟩
theorem ze0 {c:Expr}{t:TT}(h:PT X c t):PTs X [c] t:=fun pJ s σ H Q I q=>wpAny_tests_one (h pJ s σ H Q I q)
def Zj (n:Nat) (js:List Nat) (wi:TI) (tg:TG) (tt:TT) (te:TE) (Qe:Addr->Hp->Prop):St->Hp->Prop:=fun σ H=>wi σ H fun J H1=>∀ D,H1 D=none ->
 ∃ W:Nat->Nat->List V->St->Hp->Prop,(∃ m,W 0 m [] (Κ n none++rows σ js) (upd H1 D (.lst [])))/\∀ i m ys τ H2,W i m ys τ H2 ->
  (J.stop i H2/\Qe D H2)\/(J.go i H2/\∀ z H3,J.yld i H2 z H3->tg z τ H3 fun τ3 H3=>tt τ3 H3 fun b H4=>
   if b=true then te τ3 H4 fun v H5=>H5 D=some (.lst ys)/\ys.length < sizeLine/\∃ m',m' < m/\W (i+1) m' (ys++[v]) τ3 (upd H5 D (.lst (ys++[v])))
   else ∃ m',m' < m/\W (i+1) m' ys τ3 H4)
theorem WW {elt iter tgt:Expr}{ifs:List Expr}{pos pos':Pos}{wi:TI}{tg:TG}{tt:TT}{te:TE}{Qe:Addr->Hp->Prop}{use:Option (δ->Sem Unit)}{Q':VSP}{H:Hp}{s:ω}(hc:X.calm=true) (K:Qi X sc cl xs js) (hi:PI X tgt iter wi)
  (hg:∀ C s3 H3 fp,PG (cxG X sc cl xs js C s3 H3 fp) tgt tg) (ht:∀ C s3 H3 fp,PTs (cxG X sc cl xs js C s3 H3 fp) ifs tt) (he:∀ C s3 H3 fp,PE (cxG X sc cl xs js C s3 H3 fp) elt te) (hs:∀ v,bV iter X.env v=pure v)
  (I:Inv X pJ σ H s) (h:Zj xs.length js wi tg tt te Qe σ H)
  (fin:∀ (D C:Addr) (s6:ω) (H5:Hp) (m:Str->Option δ),s6.heap.Ns C m->FpOk X pJ H5 C->(∀ h',ϵ C s6.heap h'->Inv X pJ σ H5 { s6 with heap:=h' })->Qe D H5->compPost (Φ X.prog X.w) X.A X.xe use Q' (.ref D) C (.ok .next) s6):
  Ξ (Φ X.prog X.w) X.A (comprehension (.ListComp elt [⟨tgt,iter,ifs,0⟩] sc pos) sc X.env pos' (newList []) false (eval iter X.env) use) Q' X.xe s:=by
 refine wpAny_comprehension_free (use:=use) rfl hs K.clos K.kind K.names ?_;refine thn (hi pJ s σ H _ I h) fun v s1 h1=>thn h1 fun itv s2 h2=>?_
 obtain ⟨it,fp,tn,J,H2,e,I2,T,st2,f2,h⟩:=h2;subst e;have hD:H2 s2.heap.objs.size=none:=I2.fresh;obtain ⟨W,⟨m0,w0⟩,turn⟩:=h _ hD;have I3:Inv X pJ σ (upd H2 s2.heap.objs.size (.lst [])) { s2 with heap:=s2.heap.push { cls:=.type "list",data:=.seq ([]:List δ).toArray },toks:=s2.toks }:=I2.lnew (its:=[]) .nil (Ϯ _);have fpLt:∀ b∈fp,b < s2.heap.objs.size:=fun b hb=>let ⟨o,e,_⟩:=T.obj _ _ st2 b hb;Η e
 refine ao (wpAny_newFunctionEnv K.cell (by intro y hy;simp at hy) (fun h₁ hns₁ hsb₁=>?_) K.kind);generalize hs3:({ s2 with heap:=s2.heap.push { cls:=.type "list",data:=.seq ([]:List δ).toArray },toks:=s2.toks }:ω)=s3 at I3;have hs3':({ s2 with heap:=s2.heap.push { cls:=.type "list",data:=.seq ([]:List δ).toArray } }:ω)=s3:=hs3
 (try rw [hs3'] at hns₁);(try rw [hs3'] at hsb₁);(try rw [hs3'])
 have hsz:s3.heap.objs.size=s2.heap.objs.size+1:=by rw [<- hs3,lZ]
 generalize hH3:upd H2 s2.heap.objs.size (.lst [])=H3 at I3 w0;have fp3:∀ b∈fp,FpOk X pJ H3 b/\b < s3.heap.objs.size:=fun b hb=>by refine ⟨⟨?_,(f2 b hb).2⟩,by rw [hsz];exact dI (fpLt b hb)⟩;rw [<- hH3,zp (ό (fpLt b hb))];exact (f2 b hb).1
 have I4:=za9 (tk:=s3.toks+([]:List (Str×δ)).length) I3 K hns₁ hsb₁ fp3;have st4:tn 0 h₁:=T.keep _ _ _ st2 fun b hb o e=>(hsb₁.2 b (ό (fp3 b hb).2)).trans (ο _ (by rw [<- hs3];exact ο _ e))
 have stat:∀ {H':Hp}{pl:List (Addr×Obj)},(∀ b∈fp,H' b=none)->(∀ p∈pl,p.1 ∉ fp)->∀ b∈fp,FpOk (cxG X sc cl xs js s3.heap.objs.size s3 H3 fp) pl H' b:=fun {H'} {pl} hn hp b hb=>
  ⟨hn b hb,ό (fp3 b hb).2,fun z=>by
   rcases ψ.mp (I3.Jh b z) with q | q
   ·exact (f2 b hb).2.1 q
   ·exact (f2 b hb).2.2.1 q,.inl hb,fun y c e=>(f2 b hb).2.2.2.2.1 y c (K.sub _ _ e),fun p hp' z=>by
    have hp'':p∈pl:=by simpa [cxG] using hp'
    exact hp p hp'' (z ▸ hb)⟩
 have loop:∀ s4:ω,s4={ s3 with heap:=h₁,toks:=s3.toks+([]:List (Str×δ)).length } ->
   lL (Φ X.prog X.w) X.A (.compLoop (.ListComp elt [⟨tgt,iter,ifs,0⟩] sc pos) 0 (.ref it) (.ref s2.heap.objs.size) (compEnvC sc cl s3.heap.objs.size X.env))
    (compPost (Φ X.prog X.w) X.A X.xe use Q' (.ref s2.heap.objs.size) s3.heap.objs.size) s4:=by
  rintro s4 rfl;refine codeAny_loop rfl (fun n s'=>∃ i ys τ H',Inv (cxG X sc cl xs js s3.heap.objs.size s3 H3 fp) [] τ H' s'/\tn i s'.heap/\(∀ b∈fp,H' b=none)/\W i n ys τ H') ?_ m0 ⟨0,[],_,H3,I4,st4,fun b hb=>(fp3 b hb).1.1,w0⟩;rintro n s5 ⟨i,ys,τ,H5,I5,st5,fr5,w5⟩;show Ξ _ X.A ((compTurn (.ListComp elt [⟨tgt,iter,ifs,0⟩] sc pos) 0 (.ref it) (.ref s2.heap.objs.size) (compEnvC sc cl s3.heap.objs.size X.env)).onRaise (fun x=>do noteFrame x (compEnvC sc cl s3.heap.objs.size X.env);theTreesLotGoes x)) _ _ s5
  refine wpAny_noted ?_;rw [compTurn_list];refine η (lC (η ?_));rcases turn i n ys τ H5 w5 with ⟨stop,q⟩ | ⟨go,step⟩
  ·refine thn (T.done (cxG X sc cl xs js s3.heap.objs.size s3 H3 fp) rfl rfl rfl hc i [] s5 τ H5 _ I5 (stat fr5 (fun p hp=>absurd hp (by simp))) st5 stop) fun r s6 ⟨hr,I6⟩=>?_
   subst hr;refine ς ?_;obtain ⟨m,hn,_⟩:=I6.loc;refine fin _ _ s6 H5 m hn (I3.fpOk (Α _) I6.free) (fun h' sb=>?_) q;have u:=(show Un (frs X.stack) fp H3 H5 s3.heap s6.heap from I6.base).sameBut sb (Α _);exact I3.call' (s':={ s6 with heap:=h' }) (ch:=fp) I6.os u (I6.hok.sameBut sb I6.free) I6.bare fun b hb=>⟨(f2 b hb).2.2.2.1,(f2 b hb).2.1,(f2 b hb).2.2.2.2.1,(f2 b hb).2.2.2.2.2⟩
  ·refine thn (T.item (cxG X sc cl xs js s3.heap.objs.size s3 H3 fp) rfl rfl rfl hc i [] s5 τ H5 _ I5 (stat fr5 (fun p hp=>absurd hp (by simp))) st5 go) fun r s6 ⟨u,hr,h6⟩=>?_
   subst hr;refine η (thn h6 fun _ s7 ⟨z,H7,I7,r7,y7,st7,fr7⟩=>?_);have I7':=I7.pinned (stat fr7 (fun p hp=>absurd hp (by simp))) (T.obj _ _ st7);have done:∀ {σ':St}{H':Hp}{s':ω}{ys':List V}{m':Nat},Inv (cxG X sc cl xs js s3.heap.objs.size s3 H3 fp) ([]++Wb fp s7.heap) σ' H' s'->m' < n->W (i+1) m' ys' σ' H'->∃ m,m < n/\∃ i ys τ H',Inv (cxG X sc cl xs js s3.heap.objs.size s3 H3 fp) [] τ H' s'/\tn i s'.heap/\(∀ b∈fp,H' b=none)/\W i m ys τ H':=fun {σ' H' s' ys' m'} I' hm w'=>
    ⟨m',hm,i+1,ys',σ',H',I'.uc,T.keep _ _ _ st7 fun b hb o e=>(I'.pin (b,o) (Υ _ (Υ _ (vm hb e)))).1,fun b hb=>by
     obtain ⟨o,e,d⟩:=T.obj _ _ st7 b hb
     exact (I'.pin (b,o) (Υ _ (Υ _ (vm hb e)))).2.1,w'⟩
   refine η (bK (hg _ _ _ _ _ s7 τ H7 z u _ I7' r7 (step z H7 y7)) (fun _ s8 ⟨σ8,H8,I8,q8⟩=>?_) fun _ _ z=>au z);refine η (bK (ht _ _ _ _ _ s8 σ8 H8 _ I8 q8) (fun ok s9 ⟨H9,I9,q9⟩=>?_) fun _ _ z=>au z);cases ok with
   | false=>
    rw [if_neg ϓ] at q9;obtain ⟨m',hm,w9⟩:=q9;exact ς ⟨rfl,done I9 hm w9⟩
   | true=>
    rw [if_pos rfl] at q9;refine η (η (bK (he _ _ _ _ _ s9 _ _ _ I9 q9) (fun v9 s10 ⟨x9,H10,I10,r9,q10⟩=>?_) fun _ _ z=>au z));obtain ⟨hD9,hlen,m',hm,w10⟩:=q10;have ap:=Wn (X:=cxG X sc cl xs js s3.heap.objs.size s3 H3 fp) _ s10 _ H10 (.ref s2.heap.objs.size) [x9] (.ref s2.heap.objs.size) [v9] (fun _ H'=>H'=upd H10 s2.heap.objs.size (.lst (ys++[x9]))) I10 rfl (.cons r9 .nil) ⟨_,ys,x9,rfl,rfl,hD9,hlen,rfl⟩;refine η (bK ap (fun _ s11 ⟨_,H11,I11,_,e11⟩=>?_) fun _ _ z=>au z);subst e11;exact ς (ς ⟨rfl,done I11 hm w10⟩)
 exact codeAny_compStart_list (loop _ rfl) (T.self _ 0 _ _ _ st4 (loop _ rfl))
theorem zcE {elt iter tgt:Expr}{ifs:List Expr}{pos:Pos}{wi:TI}{tg:TG}{tt:TT}{te:TE}(hc:X.calm=true) (K:Qi X sc cl xs js) (hi:PI X tgt iter wi)
  (hg:∀ C s3 H3 fp,PG (cxG X sc cl xs js C s3 H3 fp) tgt tg) (ht:∀ C s3 H3 fp,PTs (cxG X sc cl xs js C s3 H3 fp) ifs tt) (he:∀ C s3 H3 fp,PE (cxG X sc cl xs js C s3 H3 fp) elt te) (hs:∀ v,bV iter X.env v=pure v):
  PE X (.ListComp elt [⟨tgt,iter,ifs,0⟩] sc pos) (fun σ H Q=>Zj xs.length js wi tg tt te (fun D H'=>Q (.ref D) H') σ H):=by intro pJ s σ H Q I h;rw [eval_ListComp];exact WW (use:=none) (Q':=EP X pJ σ Q) hc K hi hg ht he hs I h fun D C s6 H5 m hn fp inv q=>⟨m,hn,fun h' sb=>⟨.ref D,H5,inv h' sb,rfl,q⟩⟩
theorem KJ {elt iter tgt:Expr}{ifs:List Expr}{pos spos npos:Pos}{wi:TI}{tg:TG}{tt:TT}{te:TE}{n:Str}{i:Nat}(hc:X.calm=true) (K:Qi X sc cl xs js) (hi:PI X tgt iter wi)
  (hg:∀ C s3 H3 fp,PG (cxG X sc cl xs js C s3 H3 fp) tgt tg) (ht:∀ C s3 H3 fp,PTs (cxG X sc cl xs js C s3 H3 fp) ifs tt) (he:∀ C s3 H3 fp,PE (cxG X sc cl xs js C s3 H3 fp) elt te) (hs:∀ v,bV iter X.env v=pure v)
  (hp:PG X (.Name n npos) (WM i)) (hsw:gM (.ListComp elt [⟨tgt,iter,ifs,0⟩] sc pos) (some (.Name n npos)) spos.line X.env=pure true):
  PS X (.Assign [.Name n npos] (.ListComp elt [⟨tgt,iter,ifs,0⟩] sc pos) spos) (fun D σ H=>Zj xs.length js wi tg tt te (fun Da H'=>D.nx (σ.set i (some (.ref Da))) H') σ H):=by
 intro pJ s σ H D I h;rw [exec_Assign_Name_used _ _ _ _ hsw];refine η (lC (η ?_));show Ξ _ X.A (do let _ <- comprehension (.ListComp elt [⟨tgt,iter,ifs,0⟩] sc pos) sc X.env _ (newList []) false (eval iter X.env) (some (fP (.Name n npos) X.env))) _ _ s
 refine η (bK (WW (use:=some (fP (.Name n npos) X.env)) (Q':=fun _ s'=>SP X pJ D .next s') hc K hi hg ht he hs I h ?_) (fun _ s' q=>ς (ς q)) fun _ _ z=>z);intro Da C s6 H5 m hn fp inv q;obtain ⟨oC,es,ep,hoC,hdC,hrC⟩:=id hn;have I6:=inv s6.heap (gJ C s6.heap);have I6':Inv X (pJ++[(C,oC)]) σ H5 { s6 with heap:=s6.heap }:=I6.VH fun p hp=>(Ζ.mp hp).elim (fun z=>I6.pin p (Υ _ z)) fun z=>by rw [μ.mp z];exact ⟨hoC,fp.1,fp.2.1,fp.2.2.1,fun v e=>by rw [hdC] at e;cases e⟩
 show Ξ _ X.A (fP (.Name n npos) X.env (.ref Da)) _ _ s6
 refine thn (hp _ s6 σ H5 (.ref Da) (.ref Da) _ I6' rfl q) fun _ s7 ⟨σ7,H7,I7,q7⟩=>?_
 have hC7:=(I7.pin (C,oC) (Υ _ (Υ _ (μ.mpr rfl))))
 refine ⟨m,⟨oC,es,ep,hC7.1,hdC,hrC⟩,fun h' sb=>⟨σ7,H7,?_,q7⟩⟩;have I8:Inv X pJ σ7 H7 s7:=I7.uc;exact I8.turned (t':=s7.toks) (fun b o hb e=>(sb.2 b hb).trans e) hC7.2.1 fp.2.1 fp.2.2.2.1 fp.2.2.2.2.1 fun p hp=>fp.2.2.2.2.2 p hp
def CSet (X:Cx) (x:Expr) (t:TE):Prop:=∀ (n:Str) (npos spos:Pos) (i:Nat),PG X (.Name n npos) (WM i)->gM x (some (.Name n npos)) spos.line X.env=pure true ->
 PS X (.Assign [.Name n npos] x spos) (fun D σ H=>t σ H fun v H'=>D.nx (σ.set i (some v)) H')
theorem zdp {X:Cx}{x:Expr}{t t':TE}(h:PE X x t/\CSet X x t) (i:∀ σ H Q,t' σ H Q->t σ H Q):PE X x t'/\CSet X x t':=
 ⟨h.1.imp i,fun n np sp j hp hs=>(h.2 n np sp j hp hs).imp fun D σ H q=>i σ H _ q⟩
theorem zbu {elt iter tgt:Expr}{ifs:List Expr}{pos:Pos}{wi:TI}{tg:TG}{tt:TT}{te:TE}(hc:X.calm=true) (K:Qi X sc cl xs js) (hi:PI X tgt iter wi)
  (hg:∀ C s3 H3 fp,PG (cxG X sc cl xs js C s3 H3 fp) tgt tg) (ht:∀ C s3 H3 fp,PTs (cxG X sc cl xs js C s3 H3 fp) ifs tt) (he:∀ C s3 H3 fp,PE (cxG X sc cl xs js C s3 H3 fp) elt te) (hs:∀ v,bV iter X.env v=pure v):
  PE X (.ListComp elt [⟨tgt,iter,ifs,0⟩] sc pos) (fun σ H Q=>Zj xs.length js wi tg tt te (fun D H'=>Q (.ref D) H') σ H)/\CSet X (.ListComp elt [⟨tgt,iter,ifs,0⟩] sc pos) (fun σ H Q=>Zj xs.length js wi tg tt te (fun D H'=>Q (.ref D) H') σ H):=
 ⟨zcE hc K hi hg ht he hs,fun n np sp i hp hsw=>KJ hc K hi hg ht he hs hp hsw⟩
end
structure Fly (h:Heap) (e T C:Addr):Prop where
 oe:∃ o vs,h.get? e=some o/\(o.cls=.ref C/\o.dict=none)/\o.data=.fields vs/\vs[1]?=some (.ref T)
 ne:T≠e
 ot:∃ o ts,h.get? T=some o/\o.data=.fields ts/\ts[3]?=some .none
structure Chg (fs ex:List Addr) (h h':Heap):Prop where
 keep:∀ b o,h.get? b=some o->b ∉ fs->b ∉ ex->h'.get? b=some o
 slot:∀ b o,h.get? b=some o->b ∉ ex->∃ sl,h'.get? b=some { o with slots:=sl }
 size:h.objs.size<=h'.objs.size
theorem Chg.mono {fs ex ex':List Addr}{h h':Heap}(c:Chg fs ex h h') (q:∀ b,b∈ex->b∈ex'):Chg fs ex' h h':=
 ⟨fun b o e n x=>c.keep b o e n fun z=>x (q b z),fun b o e x=>c.slot b o e fun z=>x (q b z),c.size⟩
theorem Chg.trans {fs ex:List Addr}{h h1 h2:Heap}(a:Chg fs ex h h1) (b:Chg fs ex h1 h2):Chg fs ex h h2:=
 ⟨fun c o e n x=>b.keep c o (a.keep c o e n x) n x,fun c o e x=>by
  obtain ⟨sl,e1⟩:=a.slot c o e x;obtain ⟨sl',e2⟩:=b.slot c _ e1 x
  exact ⟨sl',e2⟩,Ϛ a.size b.size⟩
theorem Chg.upd {fs:List Addr}{h:Heap}{a:Addr}(f:Obj->Obj):Chg fs [a] h (h.update a f):=
  ⟨fun b o e _ x=>by rw [bC _ _ (fun z=>x (by rw [z];exact θ))];exact e,
   fun b o e x=>⟨o.slots,by rw [bC _ _ (fun z=>x (by rw [z];exact θ))];exact e⟩,lB (Heap.size_after_update ..).symm⟩
theorem Chg.psh {fs ex:List Addr}{h:Heap}(o:Obj):Chg fs ex h (h.push o):=
 ⟨fun b u e _ _=>ο _ e,fun b u e _=>⟨u.slots,ο _ e⟩,by rw [lZ];exact fJ _⟩
section
variable {M:Model}{A:ϡ}{E:VSP}{s:ω}{base:Heap}{env:Env}{outer:List Env}{L e T C:Addr}{Q:Unit->ω->Prop}
theorem zc9 {oe:Obj}{vs:Array δ}{head:δ}{had:Bool}(hfr:A.frames=some (env::outer)) (hl:s.heap.FunFrames base (env::outer)) (hf:env.frame=some L) (he:s.heap.get? e=some oe) (hc:oe.cls=.ref C/\oe.dict=none) (hd:oe.data=.fields vs) (hz:1 < vs.size)
  (h:∀ h' T,Chg (frs (env::outer)) [e] s.heap h'->s.heap.get? T=none->Fly h' e T C->Q () { s with heap:=h' }):
  Ξ M A (do let a <- frameOf env;let pl <- entryPlaceOf L had;let b <- mF head a .none (dO L) .none pl;setField (.ref e) 1 b) (fun _ s'=>Ξ M A (setFlight (.ref e) none) Q E s') E s:=by
 have nf:e ∉ frs (env::outer):=fun hm=>by obtain ⟨_,o,ho,q⟩:=hl.mem hm;rw [he] at ho;cases ho;exact q vs hd
 refine η (wpAny_frameOf_fun hfr hl hf fun h1 s1=>η (wpAny_entryPlaceOf fun pl hp=>?_));unfold mF newFields;refine η (ao ?_ (hp.sizeOk5 _ _ _ _ _));have e1:h1.get? e=some oe:=(s1.2.1 e nf).trans he;generalize hob:({ cls:=.type "traceback",dict:=none,data:=.fields ([head,.ref L,.none,dO L,.none]++(if pl.isEmpty then Κ 6 ϩ else pl)).toArray }:Obj)=ob;have e2:=ο (h:=h1) ob e1;refine aK e2 hd hz ?_;have ne:h1.objs.size≠e:=gA (Η e1);have d3:=iM hd (·.setIfInBounds 1 (Ϟ h1.objs.size));have e3:=aO (dm (·.setIfInBounds 1 (Ϟ h1.objs.size))) e2 (nM d3);have t3:=(bC (h1.push ob) (dm (·.setIfInBounds 1 (Ϟ h1.objs.size))) (eQ ne)).trans (Ν h1 (by rw [<- hob];rfl));unfold setFlight;refine η (iC e3 d3 (x:=.ref h1.objs.size) (by simp [hz]) ?_);rw [if_pos (show (Ϟ h1.objs.size != ϩ)=true from by simp)];have dt:ob.data=.fields ([head,.ref L,.none,dO L,.none]++(if pl.isEmpty then Κ 6 ϩ else pl)).toArray:=by rw [<- hob]
 refine aK t3 dt (by simp only [χ,ξ,Ϝ,gD] <;> omega) (h _ h1.objs.size ?_ ?_ ?_)
 ·have c1:Chg (frs (env::outer)) [e,h1.objs.size] s.heap h1:=⟨fun b o q n _=>(s1.2.1 b n).trans q,fun b o q _=>s1.2.2 b o q,lB s1.1.symm⟩
  have c4:=((c1.trans (Chg.psh ob)).trans ((Chg.upd _).mono fun b q=>by rw [μ.mp q];exact θ)).trans ((Chg.upd (h:=(h1.push ob).update e (dm (·.setIfInBounds 1 (Ϟ h1.objs.size)))) (dm (·.setIfInBounds 3 ((none:Option Addr).elim ϩ fun f=>dO f)))).mono fun b q=>by rw [μ.mp q];exact ι _ θ);have nT:∀ b o,s.heap.get? b=some o->b≠h1.objs.size:=fun b o q z=>by have:=Η q;rw [z,s1.1] at this;exact cH _ this
  refine ⟨fun b o q n x=>c4.keep b o q n fun z=>?_,fun b o q x=>c4.slot b o q fun z=>?_,c4.size⟩
  ·rcases ψ.mp z with z | z
   ·exact x (by rw [z];exact θ)
   ·exact nT b o q (μ.mp z)
  ·rcases ψ.mp z with z | z
   ·exact x (by rw [z];exact θ)
   ·exact nT b o q (μ.mp z)
 ·exact gW (lB s1.1.symm)
 ·refine ⟨⟨_,_,(bC _ _ ne).trans e3,?_,d3,by simp [hz]⟩,ne,⟨_,_,aO _ t3 (nM (iM dt _)),iM dt _,?_⟩⟩
  ·rw [Obj.cls_mapFields];exact ⟨hc.1,by obtain ⟨a,b,d,e⟩:=oe;cases d <;> exact hc.2⟩
  ·first | (simp;done) | (rcases hp with rfl | ⟨_,_,_,_,_,_,_,rfl⟩ <;> simp)
theorem KZ {oe:Obj}{vs:Array δ}(hfr:A.frames=some (env::outer)) (hl:s.heap.FunFrames base (env::outer)) (hf:env.frame=some L) (he:s.heap.get? e=some oe) (hc:oe.cls=.ref C/\oe.dict=none) (hd:oe.data=.fields vs) (h1:vs[1]?=some .none)
  (h:∀ h' T,Chg (frs (env::outer)) [e] s.heap h'->s.heap.get? T=none->Fly h' e T C->Q () { s with heap:=h' }):
  Ξ M A (noteFrame (.ref e) env) (fun _ s'=>Ξ M A (setFlight (.ref e) none) Q E s') E s:=by unfold noteFrame;simp only [hf];refine η (iC he hd h1 ?_);rw [if_neg (by decide)];exact zc9 hfr hl hf he hc hd (Array.getElem?_eq_some_iff.mp h1).1 h
end
theorem z8.there {P:Ψ}{w:ϕ}{H:Hp}{h:Heap}{a:Addr}{o:HO}(x:z8 P w H h a o):∃ ob,h.get? a=some ob:=by
 cases o with
 | lst xs=>obtain ⟨_,_,_,_,e⟩:=x;exact ⟨_,e⟩
 | tup xs=>obtain ⟨_,_,_,ob,e,_⟩:=x;exact ⟨_,e⟩
 | dK kvs=>obtain ⟨_,_,_,_,o,_,_,e,_⟩:=x;exact ⟨_,e⟩
 | dT kvs=>obtain ⟨_,_,_,_,o,_,_,e,_⟩:=x;exact ⟨_,e⟩
 | set S n=>obtain ⟨o,_,_,_,e,_⟩:=x;exact ⟨_,e⟩
 | ins C dx fs=>obtain ⟨_,_,_,e,_⟩:=x;exact ⟨_,e⟩
 | own y=>obtain ⟨_,e⟩:=x;exact ⟨_,e⟩
 | xd fs=>obtain ⟨_,⟨_,_,_,e,_⟩,_⟩:=x;exact ⟨_,e⟩
 | rng lo hi=>obtain ⟨_,_,_,e⟩:=x;exact ⟨_,e⟩
 | frz ob u=>obtain ⟨e,_⟩:=x;exact ⟨_,e⟩
 | tbl ps=>exact ⟨_,(show h.get? a=some _ from x)⟩
 | met f y=>exact ⟨_,(show h.get? a=some _ from x)⟩
 | ext φ=>obtain ⟨_,⟨_,e⟩,_⟩:=x;exact ⟨_,e⟩
theorem HOk.zfu {P:Ψ}{w:ϕ}{H:Hp}{h:Heap}{a:Addr}(x:HOk P w H h) (n:h.get? a=none):H a=none:=by
 cases q:H a with
 | none=>rfl
 | some o=>
  obtain ⟨ob,e⟩:=(x a o q).there;rw [n] at e;cases e
theorem HOk.chg {P:Ψ}{w:ϕ}{H:Hp}{h h':Heap}{fs ex:List Addr}(x:HOk P w H h) (c:Chg fs ex h h') (hf:∀ b∈fs,H b=none) (hx:∀ b∈ex,H b=none):HOk P w H h':=fun a o e=>
 (x a o e).stay (fun b u hb q=>by
  have hs:∃ v,H b=some v:=by
   rcases hb with rfl | hb
   ·exact ⟨_,e⟩
   ·exact ⟨_,hb⟩
  obtain ⟨v,hv⟩:=hs
  exact c.keep b u q (fun z=>by rw [hf b z] at hv;cases hv) fun z=>by rw [hx b z] at hv;cases hv) (fun _ q=>q) fun _ _ q=>q
theorem Un.chg {fs fs' ex:List Addr}{H H':Hp}{h h1 h2:Heap}(u:Un fs [] H H' h h1) (c:Chg fs' ex h1 h2) (hx:∀ b∈ex,h.get? b=none) (hf:∀ b∈fs',b∈fs\/h.get? b=none):Un fs [] H H' h h2:=by
 have nx:∀ b o,h.get? b=some o->b ∉ ex:=fun b o e z=>by rw [hx b z] at e;cases e
 refine ⟨fun b o e n hb z=>c.keep b o (u.keep b o e n hb z) (fun q=>(hf b q).elim hb fun w=>by rw [w] at e;cases e) (nx b o e),fun b o e n hb z=>?_,u.free,fun b o e z=>?_,u.tups,u.frzs,u.tbls⟩
 ·obtain ⟨sl,e1⟩:=u.slot b o e n hb z;obtain ⟨sl',e2⟩:=c.slot b _ e1 (nx b o e);exact ⟨sl',e2⟩
 ·obtain ⟨o',e1⟩:=u.there b o e z;obtain ⟨sl,e2⟩:=c.slot b o' e1 (nx b o e);exact ⟨_,e2⟩
def CX1 (P:Ψ) (w:ϕ):CXT:=fun outer H s E e s'=>∃ (ea T C:Addr) (H':Hp),e=.ref ea/\Fly s'.heap ea T C/\(s.heap.get? ea=none/\s.heap.get? T=none)/\(H' ea=none/\H' T=none)/\s'.os=s.os/\gm s'.gens/\Un (frs outer) [] H H' s.heap s'.heap/\HOk P w H' s'.heap/\E e (some C) H'
section
variable {X:Cx}{pJ:List (Addr×Obj)}{σ:St}{H:Hp}{s:ω}{E E':XK}{W:VSP}
theorem qb {fs:List Addr}{H H':Hp}{h h':Heap}{b:Addr}(u:Un fs [] H H' h h') (n:h'.get? b=none):h.get? b=none:=by
 cases q:h.get? b with
 | none=>rfl
 | some o=>
  obtain ⟨o',e⟩:=u.there b o q (by simp);rw [n] at e;cases e
theorem zfR (hf:X.env.frame=some X.env.locals):frs (X.env::X.outer)=X.env.locals::X.fs:=by unfold frs;rw [b7,hf];rfl
theorem zfQ (I:Inv X pJ σ H s) (hf:X.env.frame=some X.env.locals):∀ b∈frs (X.env::X.outer),b∈X.fs\/X.sy.heap.get? b=none:=fun b hb=>by
 rw [zfR hf] at hb;rcases ψ.mp hb with rfl | hb
 ·exact .inr (gW I.ok.above)
 ·exact .inl hb
theorem leave_new {h':Heap}{ea C:Addr}{args:List δ}(hs:X.stack=X.env::X.outer) (hf:X.env.frame=some X.env.locals) (hex:X.ex=[]) (I:Inv X pJ σ H s) (m:Heap.MadeExcOf s.heap h' ea (.ref C) args) (hE:E (.ref ea) (some C) H):
  Ξ (Φ X.prog X.w) X.A (leaving X.env (.ref ea)) (fun _ s''=>CX1 X.prog X.w X.outer X.Hz X.sy E (.ref ea) s'') W { s with heap:=h' }:=by
 have u0:Un X.fs [] X.Hz H X.sy.heap s.heap:=by have:=I.base;rw [hex] at this;exact this
 obtain ⟨t,he,nt,ht⟩:=m.there;have fr:=I.stack;rw [hs] at fr;have st:=I.ok.frames;rw [hs] at st;have back:∀ b,h'.get? b=none->s.heap.get? b=none:=fun b n=>by
  cases q:s.heap.get? b with
  | none=>rfl
  | some o=>rw [m.keeps b o q] at n;cases n
 unfold leaving;refine η (KZ (base:=X.base) (C:=C) st (fr.of_keeps fun b o q _=>⟨o,m.keeps b o q,rfl⟩) hf he ⟨rfl,rfl⟩ rfl rfl fun h2 T c nT F=>?_);have nT':=back T nT;refine ⟨ea,T,C,H,rfl,F,⟨qb u0 m.new,qb u0 nT'⟩,⟨I.hok.zfu m.new,I.hok.zfu nT'⟩,I.os,I.bare,?_,?_,hE⟩
 ·refine (u0.trans (Un.kept m.keeps)).chg c (fun b hb=>?_) (zfQ I hf);rw [μ.mp hb];exact qb u0 m.new
 ·refine (I.hok.kept m.keeps).chg c (fun b hb=>?_) fun b hb=>?_
  ·rw [<- hs] at hb;exact I.Vw b hb
  ·rw [μ.mp hb];exact I.hok.zfu m.new
end
open PySem PySem.Spec PySem.W PyProof.Rows
structure XCls (K:Frag) (C:Addr):Prop where
 ga:findIn K (.ref C) "__getattribute__"=some (some (.builtin "BaseException.__getattribute__"))
 gr:findIn K (.ref C) "__getattr__"=some none
 cl:findIn K (.ref C) "__class__"=some (some (.builtin "object.__class__"))
 mb:mroIn K C (.type "BaseException")=some true
 mo:mroIn K C (.type "object")=some true
 it:(clsIn K C).isSome=true
section
variable {prog:Ψ}{w:ϕ}{A:ϡ}{E:VSP}{h:Heap}{g:Array GenState}{d:Drawn}{t:Nat}{os:OsState}{a:Addr}{o:Obj}{K:Frag}{C:Addr}
end
section
variable {X:Cx}{pJ:List (Addr×Obj)}{σ σ':St}{H:Hp}{s:ω}{x:Str}{i:Nat}{ea C:Addr}{oe:Obj}
end
section
variable {X:Cx}{pJ:List (Addr×Obj)}{σ:St}{H:Hp}{s:ω}{C:Addr}{bmB:List δ}
end
end L2
namespace EV
open PySem PySem.Spec PyProof.Rows L2
structure KCls (Γ:Gm) (tb:List (List Nat)) (c:Nat) (C:Addr):Prop where
 ca:Γ.ca c=some C
 ex:W.excIn Γ.K C veB "ValueError.__new__"=true
 xc:XCls Γ.K C
 sub:∀ k Ck,Γ.ca k=some Ck->W.kitOne Γ.K (.ref C) (.ref Ck)=some (subT tb c k)
 ve:W.kitOne Γ.K (.ref C) (.type "ValueError")=some true
 em:∀ k Ck,Γ.ca k=some Ck->W.exmOne Γ.K (.ref C) (.ref Ck)=some (subT tb c k)
structure FnI (Γ:Gm) (B:Tb) (cf:Nat->Nat->Sp) (k:Nat) (P:Ψ) (w:ϕ) (K:W.Frag) (mg:Str->Option δ) (base:Heap) (f:Nat) (x:Str):Prop where
 ex:∃ (a:Addr) (fd:bw) (ps:List Str),Γ.fa f=some a/\(dotted x=false->mg x=some (.ref a))/\W.keepIn K (.ref a)=true/\Binds K fd ps []/\B.pars[f]?=some ps/\FnOk P w K mg base (CX1 P w) (2*k) a fd ps (cf f ps.length) /\
  ∀ (ks:List Str) (perm:List Nat),perm.length=ps.length->(∀ i∈perm,i < ks.length)->perm.map (fun i=>ks.getD i "")=ps->ks.length=ps.length->(f,ks,perm)∈B.kws ->
   zjj K fd ps ks (fun us ws=>if ws.length=ks.length then us++perm.map fun i=>ws.getD i .none else []) (fun vs zs=>if zs.length=ks.length then vs++perm.map fun i=>zs.getD i .non else [])
structure ObOk (Γ:Gm) (o:Ob) (C:Addr):Prop where
 ca:caOf Γ.K o.name=some C
 cl:Cls Γ.K C
 fl:∀ f∈o.fields,zji Γ.K C f
 mt:∀ (m:Str) (i:Nat),(m,i)∈o.meths->∃ a,Γ.fa i=some a/\Meth Γ.K C m a
 mkk:∀ i:Nat,(("__init__":Str),i)∈o.meths->∃ a,Γ.fa i=some a/\Mk Γ.K C a
structure XOk (Γ:Gm) (B:Tb) (cf:Nat->Nat->Sp) (k:Nat) (X:Cx) (c:Cc):Prop where
 hK:X.K=Γ.K
 nm:X.env.scope.names=c.names
 kd:X.env.scope.kind=.function
 N:X.N=c.N
 nd:X.N.Nodup
 fn:c.fn=true->∀ x,X.fn x=true
 calm:X.calm=true
 room:Room (2*k+1) X.A
 cells:∀ x,(c.names.lookup x=some .cell\/c.names.lookup x=some .free)->∃ a,X.env.cells.lookup x=some a
 fns:∀ (f:Nat) (x:Str),B.fns[f]?=some x->FnI Γ B cf k X.prog X.w X.K X.mg X.base f x
 bare:∀ x∈B.bare,X.mg x=none
 consts:∀ (n:Nat) (x:Str) (d:D),B.consts[n]?=some (x,d)->∃ u v,X.mg x=some u/\RelV v u/\∀ g,Has Γ g d v
 fa:∀ (f:Nat) (a:Addr),Γ.fa f=some a->∃ x,B.fns[f]?=some x
 cl:∀ (c:Nat) (x:Str) (l:List Nat),B.cls[c]?=some (x,l)->∃ C,X.mg x=some (.ref C)/\KCls Γ (B.cls.map (·.2)) c C
 ca:∀ (c:Nat) (C:Addr),Γ.ca c=some C->∃ x l,B.cls[c]?=some (x,l)
 ob:∀ o∈B.obs,∃ C,X.mg o.name=some (.ref C)/\ObOk Γ o C
section
variable {Γ:Gm}{B:Tb}{cf:Nat->Nat->Sp}{k:Nat}{X:Cx}{c:Cc}
theorem XOk.rm (x:XOk Γ B cf k X c):Room (2*k) X.A:=x.room.mono (fJ _)
theorem XOk.u61 (x:XOk Γ B cf k X c):X.A.units+61 < Ϸ:=by have:=x.room.un;lia
theorem XOk.u1 (x:XOk Γ B cf k X c):X.A.units+1 < Ϸ:=by have:=x.room.un;lia
theorem XOk.vis (x:XOk Γ B cf k X c) {n:Str}(h:visK (c.names.lookup n)=true):Vis X.env.scope n:=by
 unfold Vis;rw [x.nm];cases q:c.names.lookup n with
 | none=>rw [q] at h;cases h
 | some kd=>rw [q] at h;cases kd <;> first | exact .inl rfl | exact .inr (.inl rfl) | exact .inr (.inr rfl) | cases h
theorem XOk.glob (x:XOk Γ B cf k X c) {n:Str}(h:gloK (c.names.lookup n)=true):Gl X n:=by
 unfold Gl mD;rw [x.nm];cases q:c.names.lookup n with
 | none=>rw [q] at h;cases h
 | some kd=>rw [q] at h;cases kd <;> first | rfl | cases h
theorem yz {n:Str}(h:xg n=true):(n==("__debug__":Str))=false/\(n==("__classdict__":Str))=false/\n≠("__name__":Str):=by unfold xg at h;simp only [ζ,lq] at h;exact ⟨h.1.1.1,h.1.1.2,by simpa using h.1.2⟩
theorem zb7 {n:Str}(h:xg n=true):dotted n=false:=by unfold xg at h;simp only [ζ,lq] at h;exact h.2
theorem XOk.pg (x:XOk Γ B cf k X c) {i:Nat}{n:Str}{pos:Pos}(hi:c.N[i]?=some n) (hs:stoK c n=true):PG X (.Name n pos) (WM i):=by
 have hi':X.N[i]?=some n:=by rw [x.N];exact hi
 unfold stoK at hs;cases q:c.names.lookup n with
 | none=>rw [q] at hs;cases hs
 | some kd=>
  rw [q] at hs;have q':X.env.scope.names.lookup n=some kd:=by rw [x.nm];exact q
  cases kd with
  | «local»=>exact zav x.nd hi' (.inl q') (.inr q')
  | cell=>exact zav x.nd hi' (.inr q') (.inl (x.fn hs n))
  | _=>cases hs
def WL:List Nat->TGs
 | []=>gNil
 | i::is=>zc4 (WM i) (WL is)
theorem zas (x:XOk Γ B cf k X c):∀ {es:List Expr}{ns:List Str}{is:List Nat},EV.namesOf es=some ns->ns.length=is.length->((is.zip ns).all fun p=>c.N[p.1]?==some p.2&&stoK c p.2)=true ->
  PGs X es (WL is)/\(aV es X.env).length=is.length/\(aV es X.env).findIdx? (·.1)=none
 | [],ns,is,h,hl,_=>by
  cases (show some []=some ns from h);cases is with
  | nil=>exact ⟨zat,rfl,rfl⟩
  | cons=>simp at hl
 | e::es,ns,is,h,hl,ha=>by
  cases e with
  | Name n pos=>
   simp only [EV.namesOf,Λ] at h;obtain ⟨r,h1,h2⟩:=h;subst h2;cases is with
   | nil=>simp at hl
   | cons i is=>
    simp only [cz,dj,ζ] at ha;obtain ⟨⟨ha1,ha2⟩,ha3⟩:=ha;obtain ⟨g1,g2,g3⟩:=zas x h1 (by simpa using hl) ha3;refine ⟨Yt (x.pg (eq_of_beq ha1) ha2) g1,?_,?_⟩
    ·show (_::aV es X.env).length=_
     rw [Ϝ,g2,Ϝ]
    ·show List.findIdx? _ ((false,_)::aV es X.env)=none
     rw [List.findIdx?_cons];simp [g3]
  | _=>simp [EV.namesOf] at h
def tgOf (K:W.Frag):T->TG
 | .nst i is=>gTup K 2 (zc4 (WM i) (zc4 (gTup K is.length (WL is)) gNil))
 | .one i=>WM i
 | .tup is=>gTup K is.length (WL is)
theorem Kc {x:Expr}{q:Str×Pos×List Expr×Nat×Pos×Nat×Pos}(h:zdv x=some q):x=.Tuple [.Name q.1 q.2.1,.Tuple q.2.2.1 q.2.2.2.1 q.2.2.2.2.1] q.2.2.2.2.2.1 q.2.2.2.2.2.2:=by
 cases x with
 | Tuple es k p=>
  cases es with
  | nil=>cases h
  | cons a r=>
   cases a with
   | Name n pos=>
    cases r with
    | nil=>cases h
    | cons b z=>
     cases z with
     | cons _ _=>cases h
     | nil=>
      cases b with
      | Tuple fs k2 p2=>cases h;rfl
      | _=>cases h
   | _=>cases h
 | _=>cases h
theorem zet (x:XOk Γ B cf k X c) {t:T}{tgt:Expr}(hn:YW t=true) (h:chkT c t tgt=true):PG X tgt (tgOf X.K t):=by
  cases t with
  | nst i is=>
    unfold chkT at h;rw [if_pos hn] at h;cases e:zdv tgt with
    | none=>rw [e] at h;cases h
    | some q=>
      rw [e] at h
      have h:(match namesOf q.2.2.1 with
        | some ns=>(q.1::ns).length==(i::is).length&&((i::is).zip (q.1::ns)).all fun p=>c.N[p.1]?==some p.2&&stoK c p.2
        | none=>false)=true:=h
      rw [Kc e];cases en:namesOf q.2.2.1 with
      | none=>rw [en] at h;cases h
      | some ns=>
        rw [en] at h;simp only [cz,dj,ζ] at h;obtain ⟨h1,⟨h2,h3⟩,h4⟩:=h;have h1:ns.length=is.length:=by simpa using h1
        obtain ⟨g1,g2,g3⟩:=zas x en h1 h4;exact zau x.calm (Yt (x.pg (eq_of_beq h2) h3) (Yt (zau x.calm g1 g2 g3) zat)) rfl rfl
  | _=>cases hn
theorem Je (x:XOk Γ B cf k X c) {t:T}{tgt:Expr}(h:chkT c t tgt=true):PG X tgt (tgOf X.K t):=by
 by_cases hnst:YW t=true
 ·exact zet x hnst h
 unfold chkT at h;rw [if_neg hnst] at h;rw [ζ] at h;obtain ⟨h1,h2⟩:=h;cases tgt with
 | Name n pos=>
  cases t with
  | one i=>
   simp only [xU,tIs,cz,List.zip_nil_right,dj,List.all_nil,fM,ζ] at h2;exact x.pg (eq_of_beq h2.2.1) h2.2.2
  | tup is=>cases h1
  | nst _ _=>exact absurd rfl hnst
 | Tuple es kk pos=>
  cases t with
  | one i=>cases h1
  | nst _ _=>exact absurd rfl hnst
  | tup is=>
   simp only [xU,tIs] at h2;cases hn:EV.namesOf es with
   | none=>rw [hn] at h2;cases h2
   | some ns=>
    rw [hn] at h2;simp only [ζ,beq_iff_eq] at h2;obtain ⟨g1,g2,g3⟩:=zas x hn h2.1 (by simpa using h2.2);exact zau x.calm g1 g2 g3
 | _=>simp [xU] at h2
noncomputable def vH (cells:List (Str×Addr)):List (Str×ϯ)->List (Str×Addr)->List (Str×Addr)
 | [],acc=>acc
 | (n,kd)::r,acc=>if (kd==aM)=true then vH cells r ((n,(cells.lookup n).getD 0)::acc) else vH cells r acc
theorem qG {env:Env}:∀ (names:List (Str×ϯ)) (acc:List (Str×Addr)),(∀ y∈names,y.2=.free->∃ a,env.cells.lookup y.1=some a) ->
  (forIn names acc fun x cs=>match x with
   | (name,kind)=>if (kind==aM)=true then do let a <- cellOf env name;pure (Ϻ ((name,a)::cs)) else pure (Ϻ cs):Sem (List (Str×Addr)))=pure (vH env.cells names acc)
 | [],acc,_=>rfl
 | (n,kd)::r,acc,h=>by
  rw [List.forIn_cons];by_cases hk:(kd==aM)=true
  ·obtain ⟨a,ha⟩:=h (n,kd) θ (eq_of_beq hk);have ha:env.cells.lookup n=some a:=ha;simp only [hk,if_true];have:cellOf env n=pure a:=by unfold cellOf;rw [ha]
   rw [this];simp only [pure_bind];rw [qG r _ fun y hy=>h y (ι _ hy)];simp [vH,hk,ha]
  ·simp only [hk];simp only [aP,if_false,pure_bind];rw [qG r _ fun y hy=>h y (ι _ hy)];simp [vH,hk]
theorem zf9 {env:Env}{sc:dD}(h:∀ y∈sc.names,y.2=.free->∃ a,env.cells.lookup y.1=some a):closureFor sc env=pure (vH env.cells sc.names []):=by
 unfold closureFor;have:=qG sc.names [] h
 first
  | exact (congrArg (fun z=>z >>= pure) this).trans (by simp)
  | (simp only [bind_pure];exact this)
  | exact this
theorem xN {cells:List (Str×Addr)}{y:Str}:∀ (names:List (Str×ϯ)) (acc:List (Str×Addr)),(∀ z∈names,z.2=.free->∃ a,cells.lookup z.1=some a)->(∀ c,acc.lookup y=some c->cells.lookup y=some c) ->
  (∀ c,(vH cells names acc).lookup y=some c->cells.lookup y=some c)/\((y,aM)∈names\/(∃ c,acc.lookup y=some c)->∃ c,(vH cells names acc).lookup y=some c)
 | [],acc,_,h=>⟨h,fun q=>by
  rcases q with q | q
  ·cases q
  ·exact q⟩
 | (n,kd)::r,acc,hh,h=>by
  by_cases hk:(kd==aM)=true
  ·obtain ⟨a,ha⟩:=hh (n,kd) θ (eq_of_beq hk);have ha:cells.lookup n=some a:=ha;have e:vH cells ((n,kd)::r) acc=vH cells r ((n,a)::acc):=by simp [vH,hk,ha]
   rw [e]
   obtain ⟨i1,i2⟩:=xN (y:=y) r ((n,a)::acc) (fun z hz=>hh z (ι _ hz)) (fun c q=>by
    rw [aB] at q;cases hy:y==n with
    | true=>rw [hy] at q;cases q;rw [eq_of_beq hy];exact ha
    | false=>rw [hy] at q;exact h c q)
   refine ⟨i1,fun q=>i2 ?_⟩;rcases q with q | ⟨c,q⟩
   ·rcases ψ.mp q with q | q
    ·right;cases q;exact ⟨a,List.lookup_cons_self⟩
    ·exact .inl q
   ·right;rw [aB];cases hy:y==n with
    | true=>exact ⟨a,rfl⟩
    | false=>exact ⟨c,q⟩
  ·have e:vH cells ((n,kd)::r) acc=vH cells r acc:=by simp [vH,hk]
   rw [e];obtain ⟨i1,i2⟩:=xN (y:=y) r acc (fun z hz=>hh z (ι _ hz)) h;refine ⟨i1,fun q=>i2 ?_⟩;rcases q with q | q
   ·rcases ψ.mp q with q | q
    ·cases q;exact absurd rfl hk
    ·exact .inl q
   ·exact .inr q
theorem ud (x:XOk Γ B cf k X c) (sc:dD):(iT sc X.env).names=relK c.names sc.names:=by
 unfold iT relK;simp only [x.kd,mD,x.nm]
 congr 1
 funext y
 have e:(m7==m7)=true:=rfl;rw [e,fM]
theorem XQ {names l:List (Str×ϯ)}{y:Str}{kd:ϯ}(hc:∀ z∈l,z.2≠.cell):(relK names l).lookup y=some kd->kd=.cell\/kd=.free->(y,aM)∈l:=by
 intro h hk
 induction l with
 | nil=>cases h
 | cons p l ih=>
  obtain ⟨n,q⟩:=p;have hq:=hc (n,q) θ;show (y,aM)∈(n,q)::l
  unfold relK at h;rw [ϒ] at h;by_cases e:(q==aM&&names.lookup n==some .cell)=true
  ·simp only [e,if_true] at h;rw [aB] at h;cases hy:y==n with
   | true=>
    rw [ζ] at e;rw [eq_of_beq hy,eq_of_beq e.1];exact θ
   | false=>
    rw [hy] at h;exact ι _ (ih (fun z hz=>hc z (ι _ hz)) h)
  ·simp only [e,aP,if_false] at h;rw [aB] at h;cases hy:y==n with
   | true=>
    rw [hy] at h;cases h;rcases hk with hk | hk
    ·exact absurd hk hq
    ·rw [hk,eq_of_beq hy];exact θ
   | false=>
    rw [hy] at h;exact ι _ (ih (fun z hz=>hc z (ι _ hz)) h)
theorem zah {names l:List (Str×ϯ)}{y:Str}(h:l.lookup y=some .free):(relK names l).lookup y=some .cell\/(relK names l).lookup y=some .free:=by
 induction l with
 | nil=>cases h
 | cons p l ih=>
  obtain ⟨n,q⟩:=p;rw [aB] at h;unfold relK;rw [ϒ];cases hy:y==n with
  | true=>
   rw [hy] at h;cases h;by_cases e:(aM==aM&&names.lookup n==some .cell)=true
   ·left;simp only [e,if_true,aB,hy]
   ·right;simp only [e,aP,if_false,aB,hy]
  | false=>
   rw [hy] at h;have:=ih h;by_cases e:(q==aM&&names.lookup n==some .cell)=true
   ·simp only [e,if_true,aB,hy];exact this
   ·simp only [e,aP,if_false,aB,hy];exact this
theorem J3 (x:XOk Γ B cf k X c) {sc:dD}{js:List Nat}{xs:List Str}(h:chkS c sc js=true):Qi X sc (vH X.env.cells sc.names []) xs js:=by
 unfold chkS at h;simp only [ζ,ν,beq_iff_eq] at h;obtain ⟨⟨⟨⟨⟨h1,h2⟩,h3⟩,h4⟩,h5⟩,h6⟩:=h;have hc:∀ y∈sc.names,y.2≠.cell:=fun y hy=>by simpa using h2 y hy
 have hcell:∀ y∈sc.names,y.2=.free->∃ a,X.env.cells.lookup y.1=some a:=fun y hy hf=>by have:=h5 y hy;rw [hf] at this;refine x.cells y.1 ?_;simpa using this
 refine ⟨zf9 hcell,hc,h1,fun y hy hl=>?_,fun y c' q=>(xN sc.names [] hcell (fun _ q=>by cases q)).1 c' q,fun y hy=>?_,fun j hj y hy=>?_,fun j hj=>?_⟩
 ·have:=h3 y hy;rw [hl] at this;simpa using this
 ·rw [ud x] at hy;refine (xN sc.names [] hcell (fun _ q=>by cases q)).2 (.inl ?_);rcases hy with q | q
  ·exact XQ hc q (.inl rfl)
  ·exact XQ hc q (.inr rfl)
 ·have q:=h6 j hj;rw [x.N] at hy;rw [hy] at q;simp only [ζ,lJ,beq_iff_eq] at q;refine ⟨?_,?_,(xN sc.names [] hcell (fun _ q=>by cases q)).2 (.inl (bh q.2)),?_⟩
  ·unfold Vis;rw [x.nm];rcases q.1 with z | z
   ·exact .inr (.inl z)
   ·exact .inr (.inr z)
  ·unfold mD;rw [x.nm];rcases q.1 with z | z <;> rw [z] <;> decide
  ·rw [ud x];exact zah q.2
 ·have q:=h6 j hj;cases e:c.N[j]? with
  | none=>rw [e] at q;cases q
  | some y=>rw [x.N];exact (Ι.mp e).1
theorem Ql (x:XOk Γ B cf k X c) {sc:dD}{js:List Nat}{xs:List Str}(h:chkS c sc js=true) (hn:(xs++js.map (fun j=>c.N.getD j "")).Nodup) (C:Addr) (s3:ω) (H3:Hp) (fp:List Addr):
  XOk Γ B cf k (cxG X sc (vH X.env.cells sc.names []) xs js C s3 H3 fp) (inner c sc xs js):=by
 have K:=J3 (xs:=xs) x h;refine ⟨x.hK,ud x sc,K.kind,by show xs++js.map (fun j=>X.N.getD j "")=_;rw [x.N];rfl,by show (xs++js.map (fun j=>X.N.getD j "")).Nodup;rw [x.N];exact hn,fun q=>absurd (show false=true from q) ϓ,x.calm,x.room,fun y hy=>?_,x.fns,x.bare,x.consts,x.fa,x.cl,x.ca,x.ob⟩;have hy':(iT sc X.env).names.lookup y=some .cell\/(iT sc X.env).names.lookup y=some .free:=by rw [ud x];exact hy
 exact K.has y hy'
end
end EV
namespace L2
open PySem PySem.Spec PyProof.Rows
section
variable {X:Cx}{tg:Expr}
theorem ziz {pJ:List (Addr×Obj)}{σ:St}{H:Hp}{s:ω}{R:It->Hp->Prop}{a:Addr}(I:Inv X pJ σ H s) (h:((∃ xs,SqL X.K H a xs)/\R (Itl X.K a) H)\/((∃ xs,SqT X.K H a xs)/\R (Itt X.K a) H)):Ξ (Φ X.prog X.w) X.A (pyIter (.ref a)) (PIE X pJ σ tg R) X.xe s:=by
 have fp:∀ b∈[s.heap.objs.size],FpOk X pJ H b:=fun b hb=>by rw [μ.mp hb];exact I.fpOk (Α _) (I.hok.fresh (Α _))
 rcases h with ⟨⟨xs,hq⟩,q⟩ | ⟨⟨xs,hq⟩,q⟩
 ·obtain ⟨its,rv,p,hz⟩:=I.list hq;exact f9 p.isList ⟨s.heap.objs.size,[s.heap.objs.size],_,_,H,rfl,I.kept (t':=s.toks) fun b o e=>ο _ e,QG a _,⟨_,Ν _ rfl,rfl,rfl⟩,fp,q⟩
 ·obtain ⟨its,rv,p,hz⟩:=I.tuple hq;exact wpAny_pyIter_tuple (show s.heap.IsTuple a its.toArray from p) ⟨s.heap.objs.size,[s.heap.objs.size],_,_,H,rfl,I.kept (t':=s.toks) fun b o e=>ο _ e,Kr a _,⟨_,Ν _ rfl,rfl,rfl⟩,fp,q⟩
noncomputable def Its (x:Str):It:=⟨fun i _=>i < x.cps.size,fun i H v H'=>H'=H/\∃ c,x.cps[i]?=some c/\v=.str ⟨#[c]⟩,fun i _=>x.cps.size<=i⟩
theorem QF {P:Ψ}{w:ϕ}{K:W.Frag}{tg:Expr}(x:Str) (t:Tok) (it:Addr):Turn P w K tg (Its x) [it] it (fun i h=>h.IsStrIter it "str_ascii_iterator" x t i) where
 mem:=by simp
 obj:=fun i h st b hb=>by
  have e:b=it:=by simpa using hb
  subst e;obtain ⟨o,e,c,d⟩:=st;exact ⟨o,e,fun v z=>by rw [d] at z;cases z⟩
 keep:=fun i h h' st k=>by obtain ⟨o,e,r⟩:=st;exact ⟨o,k it (by simp) o e,r⟩
 item:=by
  intro X hP hw hK hc i pJ s σ H E I hf st hg;subst hP hw hK;obtain ⟨f0,f1,f2,f3,f4,f5⟩:=hf it (by simp);refine (Walks.strAscii (prog:=X.prog) (w:=X.w) (I.ok.hd hc) it x t).item i s _ _ hg st fun v h' tk hv st' kk=>?_
  obtain ⟨c,u,h1,rfl⟩:=hv;have I1:Inv X pJ σ H { s with heap:=h',toks:=tk }:=I.turned (fun b o hb e=>kk b o (by simpa using hb) e) f0 f1 f3 f4 f5;obtain ⟨o,e,c1,d⟩:=id st';exact ⟨_,rfl,zbi (s:={ s with heap:=h',toks:=tk }) e c1 d (by decide) ⟨.str ⟨#[c]⟩,H,I1,⟨u,rfl⟩,⟨rfl,c,h1,rfl⟩,st',fun b hb=>(hf b hb).1⟩⟩
 done:=by intro X hP hw hK hc i pJ s σ H E I hf st hg;subst hP hw hK;obtain ⟨f0,f1,f2,f3,f4,f5⟩:=hf it (by simp);have hg:x.cps.size<=i:=hg;exact wpAny_pyNext_ascii_end (I.ok.hd hc) st (by simp [hg]) fun h' eb=>⟨rfl,I.turned (t':=s.toks) (fun b o hb e=>eb b o hb e) f0 f1 f3 f4 f5⟩
 self:=fun _ _ _ _ _ st h=>wpAny_pyIter_striter_ascii st h
theorem QD {P:Ψ}{w:ϕ}{K:W.Frag}{tg:Expr}(x:Str) (t:Tok) (it:Addr):Turn P w K tg (Its x) [it] it (fun i h=>h.IsStrIter it "str_iterator" x t i) where
 mem:=by simp
 obj:=fun i h st b hb=>by
  have e:b=it:=by simpa using hb
  subst e;obtain ⟨o,e,c,d⟩:=st;exact ⟨o,e,fun v z=>by rw [d] at z;cases z⟩
 keep:=fun i h h' st k=>by obtain ⟨o,e,r⟩:=st;exact ⟨o,k it (by simp) o e,r⟩
 item:=by
  intro X hP hw hK hc i pJ s σ H E I hf st hg;subst hP hw hK;obtain ⟨f0,f1,f2,f3,f4,f5⟩:=hf it (by simp);refine (Walks.strWide (prog:=X.prog) (w:=X.w) (I.ok.hd hc) it x t).item i s _ _ hg st fun v h' tk hv st' kk=>?_
  obtain ⟨c,u,h1,rfl⟩:=hv;have I1:Inv X pJ σ H { s with heap:=h',toks:=tk }:=I.turned (fun b o hb e=>kk b o (by simpa using hb) e) f0 f1 f3 f4 f5;obtain ⟨o,e,c1,d⟩:=id st';exact ⟨_,rfl,zbi (s:={ s with heap:=h',toks:=tk }) e c1 d (by decide) ⟨.str ⟨#[c]⟩,H,I1,⟨u,rfl⟩,⟨rfl,c,h1,rfl⟩,st',fun b hb=>(hf b hb).1⟩⟩
 done:=by intro X hP hw hK hc i pJ s σ H E I hf st hg;subst hP hw hK;obtain ⟨f0,f1,f2,f3,f4,f5⟩:=hf it (by simp);have hg:x.cps.size<=i:=hg;exact wpAny_pyNext_wide_end (I.ok.hd hc) st (by simp [hg]) fun h' eb=>⟨rfl,I.turned (t':=s.toks) (fun b o hb e=>eb b o hb e) f0 f1 f3 f4 f5⟩
 self:=fun _ _ _ _ _ st h=>wpAny_pyIter_striter_wide st h
theorem zfL {pJ:List (Addr×Obj)}{σ:St}{H:Hp}{s:ω}{R:It->Hp->Prop}{z:Str}{t:Tok}(I:Inv X pJ σ H s) (h:R (Its z) H):Ξ (Φ X.prog X.w) X.A (pyIter (.str z t)) (PIE X pJ σ tg R) X.xe s:=by
 have fp:∀ b∈[s.heap.objs.size],FpOk X pJ H b:=fun b hb=>by rw [μ.mp hb];exact I.fpOk (Α _) (I.hok.fresh (Α _))
 cases ha:z.cps.all (· < 128) with
 | false=>exact wpAny_pyIter_wide ha ⟨s.heap.objs.size,[s.heap.objs.size],_,_,H,rfl,I.kept (t':=s.toks) fun b o e=>ο _ e,QD z t _,⟨_,Ν _ rfl,rfl,rfl⟩,fp,h⟩
 | true=>exact wpAny_pyIter_ascii ha ⟨s.heap.objs.size,[s.heap.objs.size],_,_,H,rfl,I.kept (t':=s.toks) fun b o e=>ο _ e,QF z t _,⟨_,Ν _ rfl,rfl,rfl⟩,fp,h⟩
theorem zhH {l:Expr}{tl:TE}(hl:PE X l tl):PI X tg l (fun σ H R=>tl σ H fun x H1=>(∃ a,x=.ref a/\(((∃ xs,SqL X.K H1 a xs)/\R (Itl X.K a) H1)\/((∃ xs,SqT X.K H1 a xs)/\R (Itt X.K a) H1)))\/∃ z,x=.str z/\R (Its z) H1):=by
 intro pJ s σ H R I h;refine thn (hl pJ s σ H _ I h) fun v s1 ⟨x,H1,I1,r1,q⟩=>?_
 rcases q with ⟨a,e,q⟩ | ⟨z,e,q⟩
 ·subst e;cases r1;exact ziz I1 q
 ·subst e;obtain ⟨t,rfl⟩:=r1;exact zfL I1 q
theorem zcx {a:Expr}{ta:TA}{p pos:Pos}{elts:List Expr}{kk:Nat}{tp:Pos}(hg:Gl X "enumerate") (hm:X.mg "enumerate"=none) (hv:cN "enumerate"=some (.type "enumerate")) (ha:PA X [a] ta) (hs:Ϣ [a] X.env=[(false,eval a X.env)]):
  PI X (.Tuple elts kk tp) (.Call (.Name "enumerate" p) [a] [] pos) (fun σ H R=>ta σ H fun vs H1=>∃ l,vs=[.ref l]/\(((∃ xs,SqL X.K H1 l xs)/\R (Ite X.K l) H1)\/False)):=by
 intro pJ s σ H R I h;refine Call_ (ZG I hg hm hv (cj (thn (ha pos pJ s σ H _ I h) fun us s1 ⟨vs,H1,I1,r1,q1⟩=>?_) hs rfl));obtain ⟨l,e,q1⟩:=q1;subst e;obtain ⟨u,rfl,ru⟩:=r1.one;cases (show u=Ϟ l from ru);have fp:∀ b∈[s1.heap.objs.size+1,s1.heap.objs.size],FpOk X pJ H1 b:=fun b hb=>by
  have hb':b=s1.heap.objs.size+1\/b=s1.heap.objs.size:=by simpa using hb
  rcases hb' with rfl | rfl
  ·exact I1.fpOk (by lia) (I1.hok.fresh (by lia))
  ·exact I1.fpOk (Α _) (I1.hok.fresh (Α _))
 rcases q1 with ⟨⟨xs,hq⟩,q⟩ | q
 ·obtain ⟨its,rv,pl,hz⟩:=I1.list hq;refine call_enumerate_list pl.isList fun h' he hit hsz hk=>?_
  have I2:Inv X pJ σ H1 { s1 with heap:=h' }:=I1.kept (t':=s1.toks) hk;exact wpAny_pyIter_enum he ⟨_,[s1.heap.objs.size+1,s1.heap.objs.size],_,_,H1,rfl,I2,QH l _ _ (Nat.succ_ne_self _),⟨⟨_,he⟩,hit⟩,fp,q⟩
 ·exact q.elim
end
end L2
namespace EV
open PySem PySem.Spec PyProof.Rows L2
section
variable {Γ:Gm}{Hz:Hp}{ρ:List Slot}
theorem zA {α:Type}{l:List α}{i j:Nat}{a b:α}:(l.set i a)[j]?=some b->(i=j/\i < l.length/\b=a)\/(i≠j/\l[j]?=some b):=by
 intro h;by_cases e:i=j
 ·subst e;by_cases hi:i < l.length
  ·rw [ϫ hi] at h;cases h;exact .inl ⟨rfl,hi,rfl⟩
  ·rw [mR (by lia)] at h;rw [cJ (by lia)] at h;cases h
 ·rw [Θ e] at h;exact .inr ⟨e,h⟩
theorem EnvO.zeJ {H:Hp}{g:G}{σ:L2.St}{i:Nat}{d:D}{v:V}(env:EnvO Γ Hz H g ρ σ) (h:Has Γ g d v):EnvO Γ Hz H g (ρ.set i (.sh d)) (σ.set i (some v)):=by
 have hl:=env.len;refine ⟨by simp [hl],fun j e q=>?_,fun j e q=>?_,fun j j' e e' a q1 q2 q3 q4=>?_⟩
 ·rcases zA q with ⟨rfl,h1,h2⟩ | ⟨h1,h2⟩
  ·cases h2;exact ⟨v,ϫ (by lia),h⟩
  ·obtain ⟨u,e1,e2⟩:=env.sh j e h2;exact ⟨u,by rw [Θ h1];exact e1,e2⟩
 ·rcases zA q with ⟨rfl,h1,h2⟩ | ⟨h1,h2⟩
  ·cases h2
  ·obtain ⟨a,e1,e2⟩:=env.ow j e h2;exact ⟨a,by rw [Θ h1];exact e1,e2⟩
 ·rcases zA q1 with ⟨rfl,h1,h2⟩ | ⟨h1,h2⟩
  ·cases h2
  ·rcases zA q2 with ⟨rfl,h3,h4⟩ | ⟨h3,h4⟩
   ·cases h4
   ·rw [Θ h1] at q3;rw [Θ h3] at q4;exact env.inj j j' e e' a h2 h4 q3 q4
theorem EnvO.zjC {H:Hp}{g:G}{σ:L2.St}{i:Nat}{d:D}{a:Addr}(env:EnvO Γ Hz H g ρ σ) (h0:Hz a=none) (hr:g.R a=none) (ha:a ∉ g.α) (hc:z9 Γ H g a d) (hi:WF d=false)
  (ne:∀ (j:Nat) (d':D),ρ[j]?=some (.ow d')->j≠i->σ[j]?≠some (some (.ref a))):EnvO Γ Hz H g (ρ.set i (.ow d)) (σ.set i (some (.ref a))):=by
 have hl:=env.len;refine ⟨by simp [hl],fun j e q=>?_,fun j e q=>?_,fun j j' e e' b q1 q2 q3 q4=>?_⟩
 ·rcases zA q with ⟨rfl,h1,h2⟩ | ⟨h1,h2⟩
  ·cases h2
  ·obtain ⟨u,e1,e2⟩:=env.sh j e h2;exact ⟨u,by rw [Θ h1];exact e1,e2⟩
 ·rcases zA q with ⟨rfl,h1,h2⟩ | ⟨h1,h2⟩
  ·cases h2;exact ⟨a,ϫ (by lia),h0,hr,ha,hc,hi⟩
  ·obtain ⟨b,e1,e2⟩:=env.ow j e h2;exact ⟨b,by rw [Θ h1];exact e1,e2⟩
 ·rcases zA q1 with ⟨rfl,h1,h2⟩ | ⟨h1,h2⟩
  ·rcases zA q2 with ⟨rfl,h3,h4⟩ | ⟨h3,h4⟩
   ·rfl
   ·rw [ϫ (by lia)] at q3;cases q3;rw [Θ h3] at q4;exact absurd q4 (ne j' e' h4 (eQ h3))
  ·rcases zA q2 with ⟨rfl,h3,h4⟩ | ⟨h3,h4⟩
   ·rw [ϫ (by lia)] at q4;cases q4;rw [Θ h1] at q3;exact absurd q3 (ne j e h2 (eQ h1))
   ·rw [Θ h1] at q3;rw [Θ h3] at q4;exact env.inj j j' e e' b h2 h4 q3 q4
theorem qy {Q:L2.St->Hp->Prop}{H:Hp}{g:G}:∀ {is:List Nat}{ds:List D}{vs:List V}{ρ:List Slot}{σ:L2.St},is.length=ds.length->Hass Γ g ds vs->EnvO Γ Hz H g ρ σ ->
  (∀ σ',EnvO Γ Hz H g ((is.zip ds).foldl (fun r p=>r.set p.1 (.sh p.2)) ρ) σ'->Q σ' H)->WL is vs σ H Q
 | [],[],vs,ρ,σ,_,h,env,q=>by cases (show vs=[] from h);exact ⟨rfl,q σ env⟩
 | i::is,d::ds,vs,ρ,σ,hl,⟨v,r,e,hd,hr⟩,env,q=>by subst e;exact ⟨v,r,rfl,qy (by simpa using hl) hr (env.zeJ hd) q⟩
 | [],_::_,_,_,_,hl,_,_,_=>by simp at hl
 | _::_,[],_,_,_,hl,_,_,_=>by simp at hl
set_option tactic.hygienic true in
theorem jZ {K:W.Frag}{t:T}{ρ':List Slot}{H:Hp}{g:G}{σ:L2.St}{d:D}{fr:Bool}{v:V}{Q:L2.St->Hp->Prop}(hb:yD ρ t (d,fr)=some ρ') (env:EnvO Γ Hz H g ρ σ) (sr:Same g.R H) (vo:VOk Γ Hz d fr v H g)
  (ne:fr=true->∀ (i:Nat) (d:D),ρ[i]?=some (.ow d)->σ[i]?≠some (some v)) (q:∀ σ',EnvO Γ Hz H g ρ' σ'->Q σ' H):tgOf K t v σ H Q:=by
 cases t with
 | one i=>
  simp only [yD] at hb;split at hb
  ·rename_i hc
   rw [ζ] at hc;have hi:WF d=false:=by simpa using hc.2
   cases hb;refine q _ ?_;cases fr with
   | false=>exact env.zeJ vo
   | true=>
    obtain ⟨a,e,h0,hr,ha,hcell⟩:=(show ∃ a,v=.ref a/\Hz a=none/\g.R a=none/\a ∉ g.α/\z9 Γ H g a d from vo)
    subst e;exact env.zjC h0 hr ha hcell hi fun j d' h _=>ne rfl j d' h
  ·cases hb
 | tup is=>
  cases d with
  | tup ds=>
   simp only [yD] at hb;split at hb
   ·rename_i hc
    cases hb;have hv:Has Γ g (.tup ds) v:=by
     cases fr with
     | false=>exact vo
     | true=>obtain ⟨_,_,_,_,_,hc⟩:=(show ∃ a,v=.ref a/\Hz a=none/\g.R a=none/\a ∉ g.α/\z9 Γ H g a (.tup ds) from vo);exact hc.elim
    obtain ⟨a,vs,rfl,h1,h2⟩:=hv;exact ⟨a,vs,rfl,SqT.of (sr _ _ h1),by rw [h2.len,hc.1],qy hc.1 h2 env q⟩
   ·cases hb
  | _=>simp [yD] at hb
 | nst i is=>
  have hb:((nst2 d).bind fun p=>if i < ρ.length/\is.length=p.2.length/\is.Nodup/\is.all (· < ρ.length) then some ((is.zip p.2).foldl (fun r p=>r.set p.1 (.sh p.2)) (ρ.set i (.sh p.1))) else none)=some ρ':=by cases d <;> exact hb
  cases e:nst2 d with
  | none=>rw [e] at hb;cases hb
  | some p=>
   rw [e] at hb;obtain ⟨y,ds⟩:=p;have ed:=zft e;subst ed;have hb:(if i < ρ.length/\is.length=ds.length/\is.Nodup/\is.all (· < ρ.length) then some ((is.zip ds).foldl (fun r p=>r.set p.1 (.sh p.2)) (ρ.set i (.sh y))) else none)=some ρ':=hb;by_cases hc:i < ρ.length/\is.length=ds.length/\is.Nodup/\is.all (· < ρ.length)
   ·rw [if_pos hc] at hb;cases hb;have hv:Has Γ g (.tup [y,.tup ds]) v:=by
     cases fr with
     | false=>exact vo
     | true=>obtain ⟨_,_,_,_,_,hc⟩:=(show ∃ a,v=.ref a/\Hz a=none/\g.R a=none/\a ∉ g.α/\z9 Γ H g a (.tup [y,.tup ds]) from vo);exact hc.elim
    obtain ⟨a,vs,rfl,h1,h2⟩:=hv;obtain ⟨u,u2,rfl,h3,h4⟩:=h2.two;obtain ⟨b,ws,rfl,h5,h6⟩:=h4;exact ⟨a,_,rfl,SqT.of (sr _ _ h1),rfl,u,_,rfl,.ref b,[],rfl,b,ws,rfl,SqT.of (sr _ _ h5),by rw [h6.len,hc.2.1],qy hc.2.1 h6 (env.zeJ h3) fun σ' env'=>⟨rfl,q σ' env'⟩⟩
   ·rw [if_neg hc] at hb;cases hb
end
structure ItOk (Γ:Gm) (J:It) (l:List D) (g:G):Prop where
 go:∀ (i:Nat) (H:Hp) (g':G),Le g g'->Same g'.R H->i < l.length->J.go i H
 stop:∀ (i:Nat) (H:Hp) (g':G),Le g g'->Same g'.R H->l.length<=i->J.stop i H
 yld:∀ (i:Nat) (H:Hp) (g':G) (S:Store) (z:V) (H':Hp) (d:D),Le g g'->WOk Γ H g' S->l[i]?=some d->J.yld i H z H'->∃ g2,Step H g' H' g2/\Same H H'/\WOk Γ H' g2 S/\Has Γ g2 d z
theorem vq:∀ (n:Nat) (l:List D),(uT n l).length=l.length
 | _,[]=>rfl
 | n,d::l=>by show (uT (n+1) l).length+1=_;rw [vq];rfl
theorem J0:∀ (n:Nat) (l:List D) (i:Nat) (d:D),(uT n l)[i]?=some d->∃ d0,l[i]?=some d0/\d=.tup [.int ((n+i:Nat):Int),d0]
 | _,[],i,d,h=>by simp [uT] at h
 | n,x::l,0,d,h=>by have h:some (D.tup [.int n,x])=some d:=h;cases h;exact ⟨x,rfl,rfl⟩
 | n,x::l,i+1,d,h=>by
  have h:(uT (n+1) l)[i]?=some d:=by simpa [uT] using h
  obtain ⟨d0,e1,e2⟩:=J0 (n+1) l i d h;refine ⟨d0,by simpa using e1,?_⟩;rw [e2,show n+1+i=n+(i+1) by lia]
def TXi (Γ:Gm) (cf:Cf) (e:E):TI:=fun σ H Q=>∃ ρ S W g Hz,wpI cf ρ e W S/\WOk Γ H g S/\EnvO Γ Hz H g ρ σ/\∀ l J H' g' S',Step H g H' g'->WOk Γ H' g' S'->ItOk Γ J l g'->W l S'->Q J H'
def TXf (Γ:Gm) (cf:Cf) (es:List E):TT:=fun σ H Q=>∃ ρ S W g Hz,wpF cf ρ es W S/\WOk Γ H g S/\EnvO Γ Hz H g ρ σ/\∀ b H' g' S',Step H g H' g'->WOk Γ H' g' S'->W b S'->Q b H'
theorem goI {Γ:Gm}{cf:Cf}{σ:L2.St}{H:Hp}{P:Prop}{e:E}{Q} (h:TXi Γ cf e σ H Q) (f:∀ ρ S W g Hz,wpI cf ρ e W S->WOk Γ H g S->EnvO Γ Hz H g ρ σ->(∀ l J H' g' S',Step H g H' g'->WOk Γ H' g' S'->ItOk Γ J l g'->W l S'->Q J H')->P):P:=
 let ⟨ρ,S,V,g,Hz,a,b,c,d⟩:=h;f ρ S V g Hz a b c d
theorem goF {Γ:Gm}{cf:Cf}{σ:L2.St}{H:Hp}{P:Prop}{es:List E}{Q} (h:TXf Γ cf es σ H Q) (f:∀ ρ S W g Hz,wpF cf ρ es W S->WOk Γ H g S->EnvO Γ Hz H g ρ σ->(∀ b H' g' S',Step H g H' g'->WOk Γ H' g' S'->W b S'->Q b H')->P):P:=
 let ⟨ρ,S,V,g,Hz,a,b,c,d⟩:=h;f ρ S V g Hz a b c d
section
variable {X:Cx}{Γ:Gm}{S:Store}{x y z tgt:Expr}{pos p tp:Pos}{cf:Cf}{a b:E}{elts:List Expr}{kk:Nat}
theorem PI.imp {wi wi':TI}(h:PI X tgt x wi) (i:∀ σ H Q,wi' σ H Q->wi σ H Q):PI X tgt x wi':=fun pJ s σ H Q I q=>h pJ s σ H Q I (i σ H Q q)
theorem zd4 {a:Addr}{vs:List V}{l:List D}{g:G}(h:∀ g',Le g g'->∀ H,Same g'.R H->SqL X.K H a vs) (hh:Hass Γ g l vs):ItOk Γ (Itl X.K a) l g where
 go:=fun i H g' le sr hi=>⟨vs,vs[i]'(by rw [hh.len];exact hi),h g' le H sr,by simp [hh.len,hi]⟩
 stop:=fun i H g' le sr hi=>⟨vs,h g' le H sr,by rw [hh.len];exact hi⟩
 yld:=fun i H g' S z H' d le w hd y=>by obtain ⟨e,y⟩:=y;subst e;obtain ⟨v,hv,hd'⟩:=hh.get hd;have e2:=y vs (h g' le _ w.rh);rw [hv] at e2;cases e2;exact ⟨g',Step.refl _ _,Same.refl _,w,hd'.mono le⟩
theorem zd2 {a:Addr}{vs:List V}{l:List D}{g:G}(h:∀ g',Le g g'->∀ H,Same g'.R H->SqT X.K H a vs) (hh:Hass Γ g l vs):ItOk Γ (Itt X.K a) l g where
 go:=fun i H g' le sr hi=>⟨vs,vs[i]'(by rw [hh.len];exact hi),h g' le H sr,by simp [hh.len,hi]⟩
 stop:=fun i H g' le sr hi=>⟨vs,h g' le H sr,by rw [hh.len];exact hi⟩
 yld:=fun i H g' S z H' d le w hd y=>by obtain ⟨e,y⟩:=y;subst e;obtain ⟨v,hv,hd'⟩:=hh.get hd;have e2:=y vs (h g' le _ w.rh);rw [hv] at e2;cases e2;exact ⟨g',Step.refl _ _,Same.refl _,w,hd'.mono le⟩
theorem ziy {z:Str}{g:G}:ItOk Γ (Its z) (z.cps.toList.map fun c=>D.str ⟨#[c]⟩) g where
 go:=fun i H g' le sr hi=>by
  show i < z.cps.size
  simpa using hi
 stop:=fun i H g' le sr hi=>by
  show z.cps.size<=i
  simpa using hi
 yld:=fun i H g' S v H' d le w hd y=>by obtain ⟨e,c,e1,e2⟩:=y;subst e e2;refine ⟨g',Step.refl _ _,Same.refl _,w,?_⟩;rw [Ρ,bI,e1] at hd;cases hd;rfl
theorem zd3 {lo:Int}{n:Nat}{g:G}:ItOk Γ (Itr lo n) ((Ϲ n).map fun (k:Nat)=>D.int (lo+(k:Int))) g where
 go:=fun i H g' le sr hi=>by
  show i < n
  simpa using hi
 stop:=fun i H g' le sr hi=>by
  show n<=i
  simpa using hi
 yld:=fun i H g' S z H' d le w hd y=>by
  obtain ⟨e,y⟩:=y;subst e y;refine ⟨g',Step.refl _ _,Same.refl _,w,?_⟩;rw [Ρ] at hd;cases q:(Ϲ n)[i]? with
  | none=>rw [q] at hd;cases hd
  | some j=>
   rw [q] at hd;cases hd;have:=(Ι.mp q).2;simp at this;subst this;rfl
theorem zbX {l:List D}{vs:List V}{g g':G}{H:Hp}{i:Nat}{d:D}{a:Addr}{y:V}(hh:Hass Γ g l vs) (le:Le g g') (w:WOk Γ H g' S) (hd:(uT 0 l)[i]?=some d) (ha:H a=none) (hy:vs[i]?=some y):
  ∃ g2,Step H g' (upd H a (.tup [.int i,y])) g2/\Same H (upd H a (.tup [.int i,y]))/\WOk Γ (upd H a (.tup [.int i,y])) g2 S/\Has Γ g2 d (.ref a):=by obtain ⟨d0,e1,e2⟩:=J0 0 l i d hd;obtain ⟨v,hv,hd'⟩:=hh.get e1;rw [hy] at hv;cases hv;have hr:=w.notR ha;refine ⟨g'.put a (.tup [.int i,y]),(Step.of_same (yL ha) (Le.refl g') (fun _ h=>.inl h) fun _ h=>.inl h).put hr ha,yL ha,(w.laid ha).put zg hr (w.notA ha),?_⟩;rw [e2,show 0+i=i by lia];exact ⟨a,[.int i,y],rfl,zg,.int i,[y],rfl,rfl,y,[],rfl,(hd'.mono le).mono (Le.put hr),rfl⟩
theorem ziA {a:Addr}{vs:List V}{l:List D}{g:G}(h:∀ g',Le g g'->∀ H,Same g'.R H->SqL X.K H a vs) (hh:Hass Γ g l vs):ItOk Γ (Ite X.K a) (uT 0 l) g where
 go:=fun i H g' le sr hi=>by rw [vq] at hi;exact ⟨vs,vs[i]'(by rw [hh.len];exact hi),h g' le H sr,by simp [hh.len,hi]⟩
 stop:=fun i H g' le sr hi=>by rw [vq] at hi;exact ⟨vs,h g' le H sr,by rw [hh.len];exact hi⟩
 yld:=fun i H g' S z H' d le w hd yy=>by obtain ⟨p,y,hp,rfl,rfl,hy⟩:=yy;exact zbX hh le w hd hp (hy vs (h g' le _ w.rh))
theorem zjL (hK:X.K=Γ.K) (h:PE X x (TX Γ cf a)):PI X tgt x (TXi Γ cf (.seq a)):=
 PI.imp (zhH h) fun σ H Q h0=>goI h0 fun ρ S W g Hz hw w env k=>⟨ρ,S,_,g,Hz,hw,w,env,fun x v H1 g1 S1 st w1 vx h=>by
  obtain ⟨g2,st2,w2,hx,q⟩:=vx.keep st w1 h;obtain ⟨l,el,q⟩:=yd q;generalize x.1=d at *;cases d with
  | lst l'=>
   cases el;obtain ⟨a,vs,e1,h1,h2⟩:=hx;exact .inl ⟨a,e1,.inl ⟨⟨vs,SqL.of (w2.rh _ _ h1)⟩,k _ _ H1 g2 S1 st2 w2 (zd4 (fun g3 le H2 sr=>SqL.of (sr _ _ (le.rr _ _ h1))) h2) q⟩⟩
  | tup l'=>
   cases el;obtain ⟨a,vs,e1,h1,h2⟩:=hx;exact .inl ⟨a,e1,.inr ⟨⟨vs,SqT.of (w2.rh _ _ h1)⟩,k _ _ H1 g2 S1 st2 w2 (zd2 (fun g3 le H2 sr=>SqT.of (sr _ _ (le.rr _ _ h1))) h2) q⟩⟩
  | scr ns=>
   cases el;obtain ⟨a,e1,h1⟩:=hx;exact .inl ⟨a,e1,.inl ⟨⟨_,by rw [hK];exact w2.rh.seq h1⟩,k _ _ H1 g2 S1 st2 w2 (zd4 (fun g3 le H2 sr=>by rw [hK];exact sr.seq (le.rr.seq h1)) Hass.ints) q⟩⟩
  | str z=>
   cases el;exact .inr ⟨z,hx,k _ _ H1 g2 S1 st2 w2 ziy q⟩
  | ktp l'=>
   cases el;obtain ⟨a,vs,e1,h1,h2⟩:=hx;exact .inl ⟨a,e1,.inr ⟨⟨vs,by rw [hK];exact .inr h1⟩,k _ _ H1 g2 S1 st2 w2 (zd2 (fun g3 le H2 sr=>by rw [hK];exact .inr h1) h2) q⟩⟩
  | _=>cases el⟩
theorem zhk (hK:X.K=Γ.K) (hg:Gl X "enumerate") (hm:X.mg "enumerate"=none) (hs:notStar x=true) (h:PE X x (TX Γ cf a)):PI X (.Tuple elts kk tp) (.Call (.Name "enumerate" p) [x] [] pos) (TXi Γ cf (.enum a)):=
 PI.imp (zcx hg hm rfl (yw h wK (zc hs _ _)) (zc hs _ _)) fun σ H Q h0=>goI h0 fun ρ S W g Hz hw w env k=>⟨ρ,S,_,g,Hz,hw,w,env,fun x v H1 g1 S1 st w1 vx h=>by
  obtain ⟨g2,st2,w2,hx,q⟩:=vx.keep st w1 h;obtain ⟨l,el,q⟩:=yd q;generalize x.1=d at *;cases d with
  | lst l'=>
   cases el;obtain ⟨a,vs,e1,h1,h2⟩:=hx;exact ⟨a,by rw [e1],.inl ⟨⟨vs,SqL.of (w2.rh _ _ h1)⟩,k _ _ H1 g2 S1 st2 w2 (ziA (fun g3 le H2 sr=>SqL.of (sr _ _ (le.rr _ _ h1))) h2) q⟩⟩
  | _=>cases el⟩
theorem zg9 (hg:Gl X "range") (hm:X.mg "range"=none) (hs:notStar x=true) (h:PE X x (TX Γ cf a)):PI X tgt (.Call (.Name "range" p) [x] [] pos) (TXi Γ cf (.rng none a)):=
 PI.imp (zar hg hm (yw h wK (zc hs _ _)) (zc hs _ _)) fun σ H Q h0=>goI h0 fun ρ S W g Hz hw w env k=>⟨ρ,S,_,g,Hz,hw,w,env,fun x v H1 g1 S1 st w1 vx h=>by
  obtain ⟨j,e,q⟩:=vx.int h;obtain ⟨hf,q⟩:=vJ q;rw [ζ] at hf;have h1:j.toNat<=1000000:=of_decide_eq_true hf.1;have h2:-1000000<=j:=of_decide_eq_true hf.2;refine ⟨j,by rw [e],by lia,by lia,k _ _ H1 g1 S1 st w1 ?_ q⟩;have:=zd3 (Γ:=Γ) (lo:=0) (n:=(j - 0).toNat) (g:=g1);rw [show (j - 0).toNat=j.toNat by lia] at this;rw [show zV 0 j=(Ϲ j.toNat).map fun (k:Nat)=>D.int (0+(k:Int)) by unfold zV;rw [show (j - 0).toNat=j.toNat by lia]]
  exact this⟩
theorem zg8 (hg:Gl X "range") (hm:X.mg "range"=none) (hs:notStar x=true) (hs2:notStar y=true) (hl:PE X x (TX Γ cf a)) (h:PE X y (TX Γ cf b)):PI X tgt (.Call (.Name "range" p) [x,y] [] pos) (TXi Γ cf (.rng (some a) b)):=
 PI.imp (zaq hg hm (yw hl (yw h wK (zc hs2 _ _)) (zc hs _ _)) (by rw [zc hs,zc hs2];rfl) (zc hs2 _ _)) fun σ H Q h0=>goI h0 fun ρ S W g Hz hw w env k=>two (G1:=fun u v H'=>∃ i j:Int,[u,v]=[.int i,.int j]/\(-(2 ^ 62)<=i/\i < 2 ^ 62/\-(2 ^ 62)<=j/\j < 2 ^ 62)/\Q (Itr i (j - i).toNat) H') hw w env fun x y u v H' g' S' st w' vx vy h=>by obtain ⟨l,e,h⟩:=vx.int h;obtain ⟨j,e2,h⟩:=vy.int h;obtain ⟨hf,q⟩:=vJ h;simp only [ζ,decide_eq_true_eq] at hf;exact ⟨l,j,by rw [e,e2],⟨by omega,by omega,by omega,by omega⟩,k _ _ H' g' S' st w' zd3 q⟩
theorem s_fn:PTs X [] (TXf Γ cf []):=fun pJ s σ H Q I h0=>goF h0 fun ρ S W g Hz hw w env k=>ze1 pJ s σ H Q I (k true H g S (Step.refl H g) w hw)
theorem s_f1 (h:PT X x (TB Γ cf a)):PTs X [x] (TXf Γ cf [a]):=fun pJ s σ H Q I h0=>goF h0 fun ρ S W g Hz hw w env k=>ze0 h pJ s σ H Q I ⟨ρ,S,_,g,Hz,hw,w,env,fun x H1 g1 S1 st w1 h=>by
 obtain ⟨b,e,q⟩:=uw h;rw [e]
 exact k b H1 g1 S1 st w1 q⟩
end
theorem JV {α β:Type}{f:α->β}:∀ (l:List (Nat×α)) (r:List β) (i:Nat),(∀ p∈l,p.1≠i)->(l.foldl (fun r p=>r.set p.1 (f p.2)) r)[i]?=r[i]?
 | [],_,_,_=>rfl
 | p::l,r,i,h=>by rw [gF,JV l _ i fun q hq=>h q (ι _ hq),Θ (h p θ)]
theorem JT {α β:Type}{f:α->β}:∀ (l:List (Nat×α)) (r:List β),(l.foldl (fun r p=>r.set p.1 (f p.2)) r).length=r.length
 | [],_=>rfl
 | p::l,r=>by rw [gF,JT l,aq]
theorem Qf {ρ ρ':List Slot}{t:T}{d:D}(hn:YW t=false) (h:yD ρ t (d,false)=some ρ'):ρ'.length=ρ.length/\∀ i,i ∉ tIs t->ρ'[i]?=ρ[i]?:=by
 cases t with
 | one j=>
  simp only [yD] at h;split at h
  ·cases h;exact ⟨by simp,fun i hi=>by rw [Θ];rintro rfl;exact hi (by simp [tIs])⟩
  ·cases h
 | tup is=>
  cases d with
  | tup ds=>
   simp only [yD] at h;split at h
   ·cases h;refine ⟨JT _ _,fun i hi=>JV _ _ i fun p hp=>?_⟩;rintro rfl;obtain ⟨p1,p2⟩:=p;exact hi (d7 hp).1
   ·cases h
  | _=>simp [yD] at h
 | nst _ _=>cases hn
theorem qx {ρ:List Slot}{t:T}{js:List Nat}{i:Nat}{s:Slot}(h:(inn ρ t js)[i]?=some s):s=.no\/(nT t<=i/\∃ j,js[i - nT t]?=some j/\ρ[j]?=some s):=by
 unfold inn at h;by_cases hi:i < nT t
 ·rw [ϗ (by simpa using hi),dw,if_pos hi] at h;cases h;exact .inl rfl
 ·rw [ϝ (by simpa using lH hi),cI,Ρ] at h;cases e:js[i - nT t]? with
  | none=>rw [e] at h;cases h
  | some j=>
   rw [e] at h;cases q:ρ[j]? with
   | none=>simp [q] at h;exact .inl h.symm
   | some z=>simp [q] at h;subst h;exact .inr ⟨by lia,j,rfl,q⟩
theorem jD {σ:L2.St}{js:List Nat}{n i j:Nat}{v:V}(hi:n<=i) (hj:js[i - n]?=some j) (h:σ[j]?=some (some v)):(Κ n none++rows σ js)[i]?=some (some v):=by rw [ϝ (by simpa using hi),cI];unfold rows;rw [Ρ,hj];simp [bH,h]
section
variable {Γ:Gm}{Hz H:Hp}{g:G}{ρ:List Slot}{σ τ:L2.St}{t:T}{js:List Nat}
theorem zfY (env:EnvO Γ Hz H g ρ σ) (hj:js.Nodup):EnvO Γ Hz H g (inn ρ t js) (Κ (nT t) none++rows σ js):=by
 refine ⟨by simp [inn,rows],fun i d e=>?_,fun i d e=>?_,fun i j d e a h1 h2 h3 h4=>?_⟩
 ·rcases qx e with q | ⟨hi,j,e1,e2⟩
  ·cases q
  ·obtain ⟨v,h1,h2⟩:=env.sh j d e2;exact ⟨v,jD hi e1 h1,h2⟩
 ·rcases qx e with q | ⟨hi,j,e1,e2⟩
  ·cases q
  ·obtain ⟨a,h1,h2⟩:=env.ow j d e2;exact ⟨a,jD hi e1 h1,h2⟩
 ·rcases qx h1 with q | ⟨hi,k,e1,e2⟩
  ·cases q
  rcases qx h2 with q | ⟨hi',k',e1',e2'⟩
  ·cases q
  obtain ⟨b,q1,_⟩:=env.ow k d e2;obtain ⟨b',q1',_⟩:=env.ow k' e e2';have z:=jD hi e1 q1;have z':=jD hi' e1' q1';rw [h3] at z;rw [h4] at z';cases z;cases z';have hk:=env.inj k k' d e a e2 e2' q1 q1';subst hk;have:=(oM (Ι.mp e1).1 hj).mp (e1.trans e1'.symm);lia
theorem JX {ρ':List Slot}{d:D}(hn:YW t=false) (hix:∀ i∈tIs t,i < nT t) (hs:yD (inn ρ t js) t (d,false)=some ρ') (env:EnvO Γ Hz H g ρ' τ):EnvO Γ Hz H g (inn ρ t js) τ:=by
 obtain ⟨h1,h2⟩:=Qf hn hs;have key:∀ i s,(inn ρ t js)[i]?=some s->s≠Slot.no->ρ'[i]?=some s:=fun i s e ne=>by
  rw [h2 i fun m=>?_]
  ·exact e
  ·rcases qx e with q | ⟨hi,_⟩
   ·exact ne q
   ·have:=hix i m;lia
 exact ⟨h1.symm.trans env.len,fun i d e=>env.sh i d (key i _ e (by simp)),fun i d e=>env.ow i d (key i _ e (by simp)),fun i j d e a q1 q2 q3 q4=>env.inj i j d e a (key i _ q1 (by simp)) (key j _ q2 (by simp)) q3 q4⟩
end
section
variable {X:Cx}{Γ:Gm}{cf:Cf}{t:T}{js:List Nat}{it elt:E}{ifs:List E}
def zge (cf:Cf) (ρ:List Slot) (t:T) (js:List Nat) (ifs:List E) (elt:E):D->(Option D->Store->Prop)->Store->Prop:=fun d K S=>opt (yD (inn ρ t js) t (d,false)) fun ρ'=>wpF cf ρ' ifs (fun b S1=>tst b (wpE cf ρ' elt (fun x S2=>keep x fun d=>K (some d) S2) S1) (K none S1)) S
theorem zdg {n:Nat}{Qe:Addr->Hp->Prop}{σ:L2.St}{H:Hp}{V:Po}{ρ:List Slot}{S:Store}{g:G}{Hz:Hp}(hn:YW t=false) (hix:∀ i∈tIs t,i < nT t) (ht:nT t=n) (hjs:js.Nodup) (hw:wpE cf ρ (.comp t js it ifs elt) V S) (w:WOk Γ H g S) (env:EnvO Γ Hz H g ρ σ)
  (k:∀ ds Da H' g' S',Step H g H' g'->WOk Γ H' g' S'->VN Γ H (.lst ds,.fr) (.ref Da) H' g'->V (.lst ds,.fr) S'->Qe Da H'):Zj n js (TXi Γ cf it) (tgOf X.K t) (TXf Γ cf ifs) (TX Γ cf elt) Qe σ H:=by
 subst ht;refine ⟨ρ,S,_,g,Hz,hw,w,env,fun l J H1 g1 S1 st1 w1 hJ h1 Da hDa=>?_⟩;have h1:xu (zge cf ρ t js ifs elt) l [] (fun ds S2=>V (.lst ds,.fr) S2) S1:=h1;refine ⟨fun i m ys τ H2=>m=l.length - i/\i<=l.length/\∃ g2 S2 acc,Step H1 g1 H2 g2/\WOk Γ H2 g2 S2/\EnvO Γ (upd Hz Da (.lst [])) H2 g2 (inn ρ t js) τ/\H2 Da=some (.lst ys)/\g2.R Da=none/\Da ∉ g2.α/\Hass Γ g2 acc ys/\fits acc.length=true/\xu (zge cf ρ t js ifs elt) (l.drop i) acc (fun ds S2=>V (.lst ds,.fr) S2) S2,⟨_,rfl,Ϯ _,g1,S1,[],?_⟩,?_⟩
 ·have st:=(Step.refl H1 g1).zP (o:=.lst []) hDa;have e1:=zr (zfY (t:=t) env hjs) st1;refine ⟨st,w1.laid hDa,zr ⟨e1.len,e1.sh,fun i d e=>?_,e1.inj⟩ st,zg,w1.notR hDa,w1.notA hDa,rfl,rfl,h1⟩;obtain ⟨b,f1,f2,f3,f4,f5,f6⟩:=e1.ow i d e;obtain ⟨o,ho,_⟩:=f5.WD;exact ⟨b,f1,by rw [zp (zF ho hDa)];exact f2,f3,f4,f5,f6⟩
 ·rintro i m ys τ H2 ⟨rfl,hi,g2,S2,acc,st2,w2,env2,hD2,hR2,hA2,hh2,hf2,hr2⟩;by_cases hlt:i < l.length
  ·refine .inr ⟨hJ.go i H2 g2 st2.le w2.rh hlt,fun z H3 hy=>?_⟩;obtain ⟨g3,st3,_,w3,hz⟩:=hJ.yld i H2 g2 S2 z H3 l[i] st2.le w2 (Ε hlt) hy;rw [fu hlt] at hr2;obtain ⟨hD3,hR3,hA3⟩:=st3.kept hD2 hR2 hA2;obtain ⟨ρ',es,hr3⟩:=yd (show opt (yD (inn ρ t js) t (l[i],false)) _ from hr2);refine jZ es (zr env2 st3) w3.rh (fr:=false) hz (fun h=>by cases h) fun τ3 env3=>⟨ρ',S2,_,g3,_,hr3,w3,env3,fun b H4 g4 S4 st4 w4 h4=>?_⟩
   obtain ⟨hD4,hR4,hA4⟩:=st4.kept hD3 hR3 hA3;cases b with
   | false=>
    rw [if_neg ϓ];exact ⟨l.length - (i+1),by omega,rfl,hlt,g4,S4,acc,(st2.trans st3).trans st4,w4,JX hn hix es (zr env3 st4),hD4,hR4,hA4,hh2.mono (st3.le.trans st4.le),hf2,h4⟩
   | true=>
    rw [if_pos rfl];refine ⟨ρ',S4,_,g4,_,h4,w4,zr env3 st4,fun x v H5 g5 S5 st5 w5 vx h5=>?_⟩;obtain ⟨g6,st6,w6,hx,q⟩:=vx.keep st5 w5 h5;obtain ⟨hf,q⟩:=vJ q;obtain ⟨hD5,hR5,hA5⟩:=st6.kept hD4 hR4 hA4;have st7:=(((st2.trans st3).trans st4).trans st6).zP (o:=.lst (ys++[v])) hDa;have env6:=JX hn hix es (zr (zr env3 st4) st6);refine ⟨hD5,by rw [hh2.len];exact zd0 hf2,l.length - (i+1),by omega,rfl,hlt,g6,S5,acc++[x.1],st7,w6.zP hR5 hA5,?_,zg,hR5,hA5,(hh2.mono ((st3.le.trans st4.le).trans st6.le)).app (Hass.mk1 hx),by rw [ξ];exact hf,q⟩;refine ⟨env6.len,env6.sh,fun i d e=>?_,env6.inj⟩;obtain ⟨b,f1,f2,f3,f4,f5,f6⟩:=env6.ow i d e;have hb:b≠Da:=by rintro rfl;rw [zg] at f2;cases f2
    exact ⟨b,f1,f2,f3,f4,f5.mono (Le.refl g6) fun o z=>by rw [zp hb];exact z,f6⟩
  ·have e:i=l.length:=by omega
   subst e;refine .inl ⟨hJ.stop _ H2 g2 st2.le w2.rh (Α _),?_⟩;rw [List.drop_length] at hr2;exact k acc Da H2 g2 S2 (st1.trans st2) w2 ⟨Da,rfl,st1.JD hDa,hR2,hA2,ys,hD2,hh2⟩ hr2
end
end EV
namespace L2
open PySem PyProof PyProof.Rows PySem.W
variable {X:Cx}{x st:Expr}{te ts:TE}{p2 pos:Pos}
end L2
namespace EV
open PySem PySem.Spec PyProof.Rows L2
def spN (Γ:Gm) (cx:Xp->Cf) (f n:Nat):Sp:=fun vs H Q E=>vs.length=n/\∃ g ds S V ex,WOk Γ H g S/\Hass Γ g ds vs/\cx ex f ds V S/\(∀ x v H' g' S',Step H g H' g'->WOk Γ H' g' S'->VN Γ H x v H' g'->V x S'->Q v H')/\∀ c e C H' g' S',Step H g H' g'->WOk Γ H' g' S'->Γ.ca c=some C->ex c S'->E e (some C) H'
theorem zhQ {X:Cx}:zbW (CX1 X.prog X.w) X E0:=fun _ _ _ _ _ _ _ ⟨_,_,_,_,_,_,_,_,_,_,_,_,h⟩=>h.elim
def CfN (B:Tb) (cf:Cf):Prop:=∀ f ds V S ps,B.pars[f]?=some ps->cf f ds V S->ds.length=ps.length
theorem Wq:∀ (kvs acc:List (Key×V)),(acc++kvs).map (·.1) |>.Nodup->jg acc kvs=acc++kvs
 | [],acc,_=>by simp [jg]
 | p::r,acc,h=>by
  have hn:¬ (acc.any fun kv=>decide (kv.1=p.1))=true:=by intro q;rw [Ϧ] at q;obtain ⟨kv,hm,he⟩:=q;have he:=of_decide_eq_true he;rw [aH,bL] at h;exact h.2.2 kv.1 (bZ hm) p.1 (by simp) he
  have e:putK acc p.1 p.2=acc++[p]:=by unfold putK;rw [if_neg hn]
  show jg (putK acc p.1 p.2) r=_
  rw [e,Wq r (acc++[p]) (by simpa using h)];simp
section
variable {X:Cx}{Γ:Gm}{B:Tb}{cx:Xp->Cf}{k:Nat}{c:Cc}{x y z:Expr}{pos p:Pos}{a:E}{es:List E}
theorem yP {xs:List Expr}{env:Env}{pos:Pos}(h:∀ x∈xs,notStar x=true):(eU pos (Ϣ xs env)).any (·.1)=false:=by
 induction xs with
 | nil=>rfl
 | cons a l ih=>
  rw [zc (h a θ)];show (false||(eU pos (Ϣ l env)).any (·.1))=false
  rw [ih fun z hz=>h z (ι _ hz)];rfl
set_option tactic.hygienic true in
theorem zgf (b:BI):cN (biS b)=some (biV b):=by
 cases b with
 | isinst q=>cases q <;> decide +kernel
 | _=>decide +kernel
theorem s_call {f:Nat}{n:Str}{xs:List Expr}(hcf:CfN B (cx noX)) (ok:XOk Γ B (spN Γ cx) k X c) (hf:B.fns[f]?=some n) (hdt:dotted n=false) (hg:Gl X n) (hdb:(n==("__debug__":Str))=false) (hs:∀ z∈x::xs,notStar z=true) (h:PA X (x::xs) (TXs Γ (cx noX) es)):PE X (.Call (.Name n p) (x::xs) [] pos) (TX Γ (cx noX) (.call f es)):=by
 obtain ⟨a,fd,ps,h1,h2,h3,h4,h5,h6,_⟩:=(ok.fns f n hf).ex;refine (zff h6 ok.rm hg (h2 hdt) h3 h4 .nil zhQ h hdb (zc (hs x θ) _ _) (yP fun z hz=>hs z (ι _ hz))).imp fun σ H Q h0=>goX h0 fun ρ S V g Hz hw w env kk=>⟨ρ,S,_,g,Hz,hw,w,env,fun ds vs H1 g1 S1 st w1 hv hc=>?_⟩
 show spN Γ cx f ps.length (vs++[]) _ _ _
 rw [Δ];exact ⟨by rw [hv.len];exact hcf f ds V S1 ps h5 hc,g1,ds,S1,V,noX,w1,hv,hc,fun x v H2 g2 S2 st2 w2 vx q=>kk x v H2 g2 S2 (st.trans st2) w2 (vx.back st) q,fun _ _ _ _ _ _ _ _ _ z=>z.elim⟩
theorem ziI {d:D}{Q:Nat->Prop}(h:isF d Q):∃ f,d=.fn f/\Q f:=by
 cases d with
 | fn f=>exact ⟨f,rfl,h⟩
 | _=>exact h.elim
theorem zcG {n:Str}{xs:List Expr}{te:TE}{t:TA}(he:PE X (.Name n p) te) (ha:PA X (x::xs) t) (hs:Ϣ (x::xs) X.env=(false,eval x X.env)::Ϣ xs X.env) (hpl:(eU pos (Ϣ xs X.env)).any (·.1)=false):
  PE X (.Call (.Name n p) (x::xs) [] pos) (fun σ H Q=>te σ H fun v H1=>∃ f k fd ps sp,v=.ref f/\W.keepIn X.K (.ref f)=true/\FnOk X.prog X.w X.K X.mg X.base (CX1 X.prog X.w) k f fd ps sp/\Room k X.A/\Binds X.K fd ps []/\t σ H1 fun vs H2=>sp (vs++[]) H2 Q E0):=by intro pJ s σ H Q I h;refine fO (thn (he pJ s σ H _ I h) fun u s1 ⟨v,H1,I1,r,f,k,fd,ps,sp,ev,hk,F,hr,hb,q⟩=>?_);subst ev;cases (show u=Ϟ f from r);refine W.callWith_K (h₀:=X.base) I1.ok.mod.kin hk (thn (ha pos pJ s1 σ H1 _ I1 q) fun us s2 ⟨vs,H2,I2,r2,q2⟩=>⟨I2.kIn,?_⟩) hs hpl;exact zdK F hr hb .nil zhQ I2 r2 q2
theorem zeQ {i:Nat}{n:Str}{xs:List Expr}(hcf:CfN B (cx noX)) (ok:XOk Γ B (spN Γ cx) k X c) (hN:X.N[i]?=some n) (hv:Vis X.env.scope n) (hd:(n==("__debug__":Str))=false) (hcd:(n==("__classdict__":Str))=false) (hs:∀ z∈x::xs,notStar z=true) (h:PA X (x::xs) (TXs Γ (cx noX) es)):PE X (.Call (.Name n p) (x::xs) [] pos) (TX Γ (cx noX) (.callv i es)):=by
 refine (zcG (zg2 (cf:=cx noX) (Γ:=Γ) hN hv hd hcd) h (zc (hs x θ) _ _) (yP fun z hz=>hs z (ι _ hz))).imp fun σ H Q h0=>goX h0 fun ρ S V g Hz hw w env kk=>⟨ρ,S,(fun y S1=>isF y.1 fun f=>wpEs (cx noX) ρ es (fun ds S2=>cx noX f ds V S2) S1),g,Hz,hw,w,env,fun y v H1 g1 S1 st w1 vx h1=>?_⟩
 obtain ⟨f,ef,h1⟩:=ziI h1;have hr:=vx.rdb w1;rw [ef] at hr;obtain ⟨a,ea,rfl⟩:=hr;obtain ⟨m,hm⟩:=ok.fa f a ea;obtain ⟨a',fd,ps,g1',g2,g3,g4,g5,g6,_⟩:=(ok.fns f m hm).ex;have eq:a'=a:=ϙ (g1'.symm.trans ea);subst eq;refine ⟨a',2*k,fd,ps,spN Γ cx f ps.length,rfl,g3,g6,ok.rm,g4,ρ,S1,_,g1,Hz,h1,w1,zr env st,fun ds vs H2 g2 S2 st2 w2 hv hc=>?_⟩;show spN Γ cx f ps.length (vs++[]) _ _ _
 rw [Δ];exact ⟨by rw [hv.len];exact hcf f ds V S2 ps g5 hc,g2,ds,S2,V,noX,w2,hv,hc,fun x v H3 g3 S3 st3 w3 vx q=>kk x v H3 g3 S3 ((st.trans st2).trans st3) w3 (vx.back (st.trans st2)) q,fun _ _ _ _ _ _ _ _ _ z=>z.elim⟩
theorem zhh:PK X [] (TXs Γ (cx noX) []):=fun pos pJ s σ H Q I h0=>goS h0 fun ρ S W g Hz hw w env kk=>zhG pos pJ s σ H Q I (kk [] [] H g S (Step.refl H g) w rfl hw)
theorem zeN {n:Str}{kp:Pos}{kws:List cY}(h1:PE X x (TX Γ (cx noX) a)) (h2:PK X kws (TXs Γ (cx noX) es)):PK X (⟨some n,x,kp⟩::kws) (TXs Γ (cx noX) (a::es)):=fun pos pJ s σ H Q I h=>zfa h1 h2 pos pJ s σ H Q I (args_cons h)
theorem zk8 {b:BI}{xs:List Expr}{t:TA}{e:E}(ok:XOk Γ B (spN Γ cx) k X c) (hg:Gl X (biS b)) (hm:X.mg (biS b)=none) (hs:∀ z∈x::xs,notStar z=true) (h:PA X (x::xs) t) (i:∀ σ H Q,TX Γ (cx noX) e σ H Q->t σ H fun vs H1=>zga X (biV b) vs H1 Q):PE X (.Call (.Name (biS b) p) (x::xs) [] pos) (TX Γ (cx noX) e):=by
 have hn:biS b≠("__name__":Str):=by
  cases b with
  | isinst q=>cases q <;> decide
  | _=>decide
 have hdb:(biS b==("__debug__":Str))=false:=by
  cases b with
  | isinst q=>cases q <;> decide
  | _=>decide
 have he:=zc (hs x θ) xs X.env;have hpl:=yP (pos:=pos) (env:=X.env) fun z hz=>hs z (ι _ hz)
 have bb:=zgf b;cases hb:biV b with
 | builtin id=>rw [hb] at bb i;exact (jF ZR hg hm bb h hn hdb he hpl).imp i
 | type T=>rw [hb] at bb i;exact (Wd ZR hg hm bb h hn hdb he hpl).imp i
 | _=>cases b <;> cases hb
theorem s_is {t:Ty}{pz:Pos}(ok:XOk Γ B (spN Γ cx) k X c) (hg:Gl X "isinstance") (hm:X.mg "isinstance"=none) (hgt:Gl X (tyN t)) (hmt:X.mg (tyN t)=none) (hs:notStar x=true) (h:PE X x (TX Γ (cx noX) a)):PE X (.Call (.Name "isinstance" p) [x,.Name (tyN t) pz] [] pos) (TX Γ (cx noX) (.bi (.isinst t) [a])):=by
 have hvt:cN (tyN t)=some (.type (tyS t)):=by cases t <;> decide +kernel
 have hn:tyN t≠("__name__":Str):=by cases t <;> decide
 have hdb:(tyN t==("__debug__":Str))=false:=by cases t <;> decide
 refine (jF (id:="isinstance") ZR hg hm (by decide +kernel) (yw h (yw (zfg (v:=.ty (tyS t)) hgt hmt hvt rfl hn hdb) wK rfl) (zc hs _ _)) (by decide) (by decide) (zc hs _ _) rfl).imp fun σ H Q h0=>goX h0 fun ρ S V g Hz hw w env kk=>⟨ρ,S,_,g,Hz,hw,w,env,fun x v H1 g1 S1 st w1 vx h1=>?_⟩
 obtain ⟨⟨d,fr⟩,eb,q⟩:=yd h1;have eb:(isTy t (zH S1 x.1)).map (fun b=>(D.bl b,false))=some (d,fr):=eb;cases e2:isTy t (zH S1 x.1) with
 | none=>rw [e2] at eb;cases eb
 | some b=>
  rw [e2] at eb;cases eb;obtain ⟨r,r1,r2⟩:=ziE (X:=X) (Γ:=Γ) ok.hK e2;exact ⟨r,r1,r2 S1 H1 g1 v Q w1 (vx.rdb w1) (kk (.bl b,.st) _ H1 g1 S1 st w1 rfl q)⟩
def PPd (X:Cx) (pos:Pos) (keys:List (Option Expr)) (vals:List Expr) (ks:List Key) (t:TA):Prop:=∃ trs,PPs X pos keys vals trs/\∀ σ H (Q:List (V×V)->Hp->Prop),t σ H (fun vs H'=>Q ((ks.zip vs).map fun kv=>(kV kv.1,kv.2)) H')->Jf trs σ H Q
theorem zhc:PPd X pos [] [] [] (TXs Γ (cx noX) []):=⟨[],ze7,fun σ H Q h0=>goS h0 fun ρ S W g Hz hw w env kk=>kk [] [] H g S (Step.refl H g) w rfl hw⟩
theorem zeM {q:Const}{n:Nat}{p:Pos}{kx:Key}{keys:List (Option Expr)}{vals:List Expr}{ks:List Key}(hk:PE X (.Constant q n p) (tC (kV kx))) (h1:PE X x (TX Γ (cx noX) a)) (h2:PPd X pos keys vals ks (TXs Γ (cx noX) es)):PPd X pos (some (.Constant q n p)::keys) (x::vals) (kx::ks) (TXs Γ (cx noX) (a::es)):=by obtain ⟨trs,hp,ht⟩:=h2;refine ⟨_,zcv hk h1 hp,fun σ H Q h=>?_⟩;obtain ⟨ρ,S,V,g,Hz,hw,w,env,kk⟩:=args_cons h;exact ⟨ρ,S,V,g,Hz,hw,w,env,fun x v H1 g1 S1 st w1 vx q=>ht σ H1 _ (kk x v H1 g1 S1 st w1 vx q)⟩
theorem zhl {keys:List (Option Expr)}{vals:List Expr}{ks:List Key}(h:PPd X pos keys vals ks (TXs Γ (cx noX) es)) (hall:keys.all (·.isSome)=true) (hl:keys.length=vals.length) (h0:keys≠[]) (h15:keys.length<=15):PE X (.Dict keys vals pos) (TX Γ (cx noX) (.dic false ks es)):=by
 obtain ⟨trs,hp,ht⟩:=h;refine (zfd hp hall hl h0 h15).imp fun σ H Q h0=>goX h0 fun ρ S V g Hz hw w env kk p hp=>ht σ _ _ ?_
 have st0:=(Step.refl H g).zP (o:=.dK []) hp;refine ⟨ρ,S,_,g,Hz,hw,w.laid hp,zr env st0,fun ds vs H2 g2 S2 st2 w2 h2 q=>?_⟩;obtain ⟨hd,q⟩:=vJ q;unfold zdd at hd;simp only [ζ,decide_eq_true_eq] at hd;obtain ⟨⟨⟨hk,hn⟩,hz⟩,_⟩:=hd;obtain ⟨k1,k2,k3⟩:=st2.kept zg (w.notR hp) (w.notA hp);have el:ks.length=vs.length:=by rw [h2.len];exact hk
 refine ⟨k1,ks.zip vs,rfl,by rw [gC];lia,?_⟩
 rw [Wq _ [] (by
  rw [ϑ,List.map_fst_zip (by lia)]
  exact hn)]
 exact kk (.dK ks ds,.fr) (.ref p) _ g2 S2 ((st0.trans st2).zP hp) (w2.zP k2 k3) ⟨p,rfl,hp,k2,k3,vs,zg,hk,h2⟩ q
theorem zeP:PE X (.Dict [] [] pos) (TX Γ (cx noX) (.dic false [] [])):=zcD.imp fun σ H Q h0=>goX h0 fun ρ S V g Hz hw w env kk p hp=>
 kk (.dK [] [],.fr) (.ref p) _ g S ((Step.refl H g).zP hp) (w.laid hp) ⟨p,rfl,hp,w.notR hp,w.notA hp,[],zg,rfl,rfl⟩ hw
theorem zeO {ks:List Key}:PE X (.Dict [] [] pos) (TX Γ (cx noX) (.dic true [] [])):=zcC.imp fun σ H Q h0=>goX h0 fun ρ S V g Hz hw w env kk p hp=>
 kk (.dT [] [],.fr) (.ref p) _ g S ((Step.refl H g).zP hp) (w.laid hp) ⟨p,rfl,hp,w.notR hp,w.notA hp,[],zg,rfl,rfl⟩ hw
end
open PySem.AutoSeq1 (wpAny_loadPart')
open PySem.MeetsSeq PySem.MeetsSeq2 PySem.MeetsSeq3 PySem.SeqAt PySem.SeqRoads2
section
variable {X:Cx}{Γ:Gm}{S:Store}{x y:Expr}{pos:Pos}
def zka:V->List V->Hp->VK->Prop:=fun x xs H Q=>∃ a y z v,x=.ref a/\xs=[y,z]/\DGet H a y v/\Q (v.getD z) H
def zj9 (K:W.Frag):V->List V->Hp->VK->Prop:=fun x xs H Q=>∃ a k z ps,x=.ref a/\xs=[.str k,z]/\KDic K a ps/\(∀ i,ik k ps=some i->Q (.int i) H)/\(ik k ps=none->Q z H)
theorem datum_int {k:Str}:∀ ps:List (Str×Int),ik k (ps.map fun p=>(p.1,KTD.Dat.flat (.int p.2)))=(ik k ps).map fun i=>KTD.Dat.flat (.int i)
 | []=>rfl
 | p::ps=>by
  have ih:=datum_int (k:=k) ps;simp only [ϒ,ik];split
  ·rfl
  ·exact ih
theorem zfA:MtR X "dict.get" (zj9 X.K):=by
 rintro pJ s σ H x xs v us Q I rx rv ⟨a,k,z,ps,rfl,rfl,⟨_,kd⟩,q1,q2⟩;cases rx;obtain ⟨u,u2,rfl,⟨t,rfl⟩,ru2⟩:=rv.two;have T:KTD.Here s.heap s.heap a _:=⟨kd s.heap I.kIn,fun _ _ e=>e⟩
 refine oJ cC T.typeIs fU (fD _ _ _) KTD.meets_get2 ⟨T,fun d v e hv=>?_,fun e=>?_⟩
 ·rw [datum_int] at e;obtain ⟨i,e1,rfl⟩:=Λ.mp e;obtain ⟨t,rfl⟩:=(show ∃ t,v=aj i t from PyProof.V.Flat.int_inv hv)
  exact ⟨.int i,H,I.tok _,⟨t,rfl⟩,q1 i e1⟩
 ·rw [datum_int,Option.map_eq_none_iff] at e;exact ⟨z,H,I.tok _,ru2,q2 e⟩
theorem zfB (hu:X.A.units+1 < Ϸ):MtR X "dict.get" zka:=by rintro pJ s σ H x xs v us Q I rx rv ⟨a,y,z,o,rfl,rfl,g,q⟩;cases rx;obtain ⟨u,u2,rfl,ru,ru2⟩:=rv.two;exact zi4 hu I g ru ru2 fun w s' I' r'=>⟨_,H,I',r',q⟩
theorem zfP {c k:D}{o:Option D}(h:wN c k=some o) (S:Store):zH S k=k:=by cases k <;> first | rfl | (cases c <;> cases h)
def RDm (Γ:Gm) (r:V->List V->Hp->VK->Prop) (d0:D) (ds:List D) (d:D) (fr:Bool):Prop:=
 ∀ S H g x xs Q,WOk Γ H g S->Rdb Γ H g d0 x->Hass Γ g ds xs->Fin Γ H g S d fr Q->r x xs H Q
noncomputable def mtT:MT->String
 | .index=>"list"
 | .get1=>"dict"
 | .get2=>"dict"
 | _=>"str"
noncomputable def mtI:MT->String
 | .index=>"list.index"
 | .get1=>"dict.get"
 | .get2=>"dict.get"
 | .join=>"str.join"
 | .split=>"str.split"
theorem zaW {d1:D}(hK:X.K=Γ.K) (h:mthK .get1 d1=true\/mthK .get2 d1=true) {H:Hp}{g:G}{v:V}(hr:Rdb Γ H g d1 v):tyV X.K "dict" v H:=by
 cases d1 with
 | dK ks ds=>
  obtain ⟨a,vs,rfl,h1,_⟩:=hr;exact .inr (.inr (.inl ⟨rfl,.inl ⟨_,h1⟩⟩))
 | dT ks ds=>
  obtain ⟨a,vs,rfl,h1,_⟩:=hr;exact .inr (.inr (.inl ⟨rfl,.inr ⟨_,h1⟩⟩))
 | kdc ps=>
  obtain ⟨a,rfl,⟨o,h1⟩,_⟩:=hr;exact .inr (.inl ⟨o,by rw [hK];exact h1⟩)
 | _=>rcases h with h | h <;> cases h
theorem zid {m:MT}{d0:D}{ds:List D}{d:D}{fr:Bool}(hK:X.K=Γ.K) (hu:X.A.units+61 < Ϸ) (h:mthD m d0 ds=some (d,fr)):∃ r,MtR X (mtI m) r/\RDm Γ r d0 ds d fr:=by
 have hu1:X.A.units+1 < Ϸ:=by lia
 cases m with
 | index=>cases h
 | get1=>cases h
 | get2=>
  match ds,h with
  | [],h=>cases d0 <;> cases h
  | [_],h=>cases d0 <;> cases h
  | _::_::_::_,h=>cases d0 <;> cases h
  | [kk,xx],h=>
   have hh:(∃ ps,d0=.kdc ps/\zin ps kk xx=some (d,fr))\/(wN d0 kk).map (fun o=>(o.getD xx,false))=some (d,fr):=by
    cases d0 with
    | kdc ps=>exact .inl ⟨ps,rfl,h⟩
    | _=>exact .inr h
   rcases hh with ⟨ps,rfl,h⟩ | h
   ·cases kk with
    | str x=>
     cases h;refine ⟨_,zfA,fun S H g y ys Q w h1 h2 q=>?_⟩;obtain ⟨u,u2,rfl,h3,h5⟩:=h2.two;cases (show u=.str x from h3);obtain ⟨a,rfl,h6⟩:=h1;refine ⟨a,x,u2,ps,rfl,rfl,by rw [hK];exact h6,fun i e=>?_,fun e=>?_⟩
     ·rw [e] at q;exact zf w q rfl
     ·rw [e] at q;exact zf w q h5
    | _=>cases h
   cases e:wN d0 kk with
   | none=>rw [e] at h;cases h
   | some o=>
    rw [e] at h;cases h;refine ⟨_,zfB hu1,fun S H g y ys Q w h1 h2 q=>?_⟩;obtain ⟨u,u2,rfl,h3,h5⟩:=h2.two;have h4:=zaj w h3;rw [zfP e S] at h4;obtain ⟨a,v,rfl,g1,g2,g3,g4⟩:=WR w e h1 h4;refine ⟨a,u,u2,v,rfl,rfl,g1,?_⟩;cases o with
    | none=>rw [g4 rfl];exact zf w q h5
    | some d=>
     obtain ⟨z,rfl,hz⟩:=g3 d rfl;exact zf w q hz
 | join=>cases h
 | split=>cases h
theorem Xg {env:Env}{name:Str}{s0:Sem δ}(h:Wa x=true):nQ x name env s0=s0:=by
 cases x with
 | Call f args kws p=>
  cases args with
  | nil=>cases h
  | cons a l=>cases f <;> rfl
 | _=>rfl
theorem zbm {xs:List Expr}{env:Env}{cpos:Pos}(hs:∀ z∈xs,notStar z=true) (hl:xs.length<=9):((eU cpos (Ϣ xs env)).all (fun x=>!x.1)&&(backToKw cpos (iG [] env)).all (fun x=>x.1.isSome)
  &&decide (xs.length+([]:List cY).length+(if ([]:List cY).isEmpty then 0 else 1) < 30))=true:=by
 have h1:(eU cpos (Ϣ xs env)).all (fun x=>!x.1)=true:=by have:=yP (pos:=cpos) (env:=env) hs;rw [List.all_eq_not_any_not];simpa using this
 rw [h1,decide_eq_true (show xs.length+([]:List cY).length+(if ([]:List cY).isEmpty then 0 else 1) < 30 from (by simp;lia))];rfl
theorem zfz (m:MT):PlainAttrs (mtT m)/\PySem.Slot (mtT m) (mtS m) (mtI m)/\typeOf (.builtin (mtI m))=pure (.type "method_descriptor"):=by
 cases m with
 | index=>exact ⟨bU,PySem.F.slot_list_index,PySem.F.type_list_index⟩
 | get1=>exact ⟨lV,cC,mL⟩
 | get2=>exact ⟨lV,cC,mL⟩
 | join=>exact ⟨mC,PySem.F.slot_str_join,PySem.F.type_str_join⟩
 | split=>exact ⟨mC,PySem.F.slot_str_split,PySem.F.type_str_split⟩
theorem zkw {m:MT}{d1:D}(hK:X.K=Γ.K) (h:mthK m d1=true) {H:Hp}{g:G}{v:V}(hr:Rdb Γ H g d1 v):tyV X.K (mtT m) v H:=by
 cases m with
 | index=>cases d1 <;> cases h
 | get1=>exact zaW hK (.inl h) hr
 | get2=>exact zaW hK (.inr h) hr
 | join=>
  cases d1 with
  | str x=>cases (show v=.str x from hr);exact rfl
  | _=>cases h
 | split=>
  cases d1 with
  | str x=>cases (show v=.str x from hr);exact rfl
  | _=>cases h
def zkx (X:Cx) (id:String):V->List V->Hp->VK->Prop:=fun x xs H Q=>∃ r,MtR X id r/\r x xs H Q
theorem zih {id:String}:MtR X id (zkx X id):=fun pJ s σ H x xs v us Q I rx rv ⟨_,h,q⟩=>h pJ s σ H x xs v us Q I rx rv q
theorem zjR {B:Tb}{cx:Xp->Cf}{k:Nat}{c:Cc}{a:E}{es:List E}{m:MT}{ys:List Expr}{apos cpos:Pos}(ok:XOk Γ B (spN Γ cx) k X c) (ha:PE X x (TX Γ (cx noX) a)) (hs:∀ z∈y::ys,notStar z=true) (hb:PA X (y::ys) (TXs Γ (cx noX) es)) (hl:(apos.endLine==cpos.line)=true) (hp:Wa x=true) (h9:(y::ys).length<=9):
  PE X (.Call (.Attribute x (mtS m) apos) (y::ys) [] cpos) (TX Γ (cx noX) (.mth m a es)):=by
 obtain ⟨m1,m2,m3⟩:=zfz m;refine (zcH m1 m2 m3 zih ha hb (Xg hp) (zbm hs h9) hl (zc (hs y θ) ys X.env) (yP fun z hz=>hs z (ι _ hz))).imp fun σ H Q h0=>goX h0 fun ρ S V g Hz hw w env kk=>⟨ρ,S,_,g,Hz,hw,w,env,fun x v H1 g1 S1 st w1 vx h1=>?_⟩
 obtain ⟨hk,h1⟩:=vJ h1;refine ⟨zkw ok.hK hk (vx.rdb w1),ρ,S1,_,g1,Hz,h1,w1,zr env st,fun ds vs H2 g2 S2 st2 w2 hv h2=>?_⟩;obtain ⟨⟨d,fr⟩,eb,q⟩:=yd h2;obtain ⟨r,r1,r2⟩:=zid (X:=X) ok.hK ok.u61 eb;exact ⟨r,r1,r2 S2 H2 g2 v vs Q w2 ((vx.step st2).rdb w2) hv fun u H3 g3 st3 _ w3 vo=>kk _ u H3 g3 S2 ((st.trans st2).trans st3) w3 ((VN.of vo).back (st.trans st2)) q⟩
end
section
variable {X:Cx}{Γ:Gm}{B:Tb}{cx:Xp->Cf}{k:Nat}{c:Cc}{x y z:Expr}{pos p apos cpos:Pos}{a:E}{es:List E}
end
theorem zaA:∀ (ks l:List Str),(ks.foldl (fun l x=>if x∈l then l else l++[x]) l).length<=l.length+ks.length
 | [],l=>Α _
 | k::ks,l=>by
  refine Ϛ (zaA ks _) ?_;dsimp only;split
  ·simp
  ·simp;omega
theorem zfl (ks:List Str):(yo ks).length<=ks.length:=by have:=zaA ks [];simpa [yo] using this
theorem XJ {x z:Expr}{y:Str}(h:uZ x=some (y,z)):∃ p pos,x=.Call (.Name y p) [z] [] pos:=by
 unfold uZ at h;split at h
 ·cases h;exact ⟨_,_,rfl⟩
 ·cases h
section
variable {X:Cx}{Γ:Gm}{cx:Xp->Cf}{B:Tb}{k:Nat}{c:Cc}{x y z:Expr}{pos p:Pos}{a b:E}
theorem zea {H:Hp}{g:G}{S:Store}{d:D}{fr:Bool}{Q:VK}{a:Addr}{o:HO}(w:WOk Γ H g S) (q:Fin Γ H g S d fr Q) (ha:H a=none):Fin Γ (upd H a o) g S d fr Q:=fun v H' g' st sm w' vo=>
 q v H' g' ((Step.of_same (yL ha) (Le.refl g) (fun _ h=>.inl h) fun _ h=>.inl h).trans st) ((yL ha).trans sm) w' (by
  cases fr with
  | false=>exact vo
  | true=>
   obtain ⟨l,e,h1,h2⟩:=(show ∃ a',v=.ref a'/\upd H a o a'=none/\_ from vo)
   exact ⟨l,e,(yL ha).free h1,h2⟩)
theorem JK {d0:D}{ks:List Str}{H:Hp}{g:G}{S:Store}{v:V}(hK:X.K=Γ.K) (w:WOk Γ H g S) (h:(lotD d0).bind vV=some ks) (hv:Rdb Γ H g d0 v):∃ p,v=.ref p/\(SqL X.K H p (ks.map V.str)\/SqT X.K H p (ks.map V.str)):=by
 obtain ⟨l,e1,e2⟩:=ϐ.mp h;rcases zaM e1 with rfl | rfl
 ·obtain ⟨p,ys,rfl,h1,h2⟩:=hv;exact ⟨p,rfl,.inl (by rw [<- Vv e2 h2];exact SqL.of h1)⟩
 ·obtain ⟨p,ys,rfl,h1,h2⟩:=hv;exact ⟨p,rfl,.inr (by rw [<- Vv e2 h2];exact SqT.of (w.rh _ _ h1))⟩
theorem zdD {t:TE}(ok:XOk Γ B (spN Γ cx) k X c) (hg:Gl X "set") (hm:X.mg "set"=none) (hs:notStar z=true) (h:PE X z t):PE X (.Call (.Name "set" p) [z] [] pos) (fun σ H Q=>t σ H fun v H1=>zga X (.type "set") [v] H1 Q):=
 (Wd ZR hg hm (by decide +kernel) (yw h wK (zc hs _ _)) (by decide) (by decide) (zc hs _ _) rfl).imp fun _ _ _ q=>q
set_option tactic.hygienic true in
theorem zg4 {p' pos':Pos}(ok:XOk Γ B (spN Γ cx) k X c) (hg:Gl X "set") (hm:X.mg "set"=none) (hg':Gl X "sorted") (hm':X.mg "sorted"=none) (hs:notStar z=true) (h:PE X z (TX Γ (cx noX) a)):
  PE X (.Call (.Name "sorted" p') [.Call (.Name "set" p) [z] [] pos] [] pos') (TX Γ (cx noX) (.bi .sset [a])):=by
 refine (jF (id:="sorted") ZR hg' hm' (by decide +kernel) (yw (zdD ok hg hm hs h) wK (zc rfl _ _)) (by decide) (by decide) (zc rfl _ _) rfl).imp fun σ H Q h0=>goX h0 fun ρ S V g Hz hw w env kk=>⟨ρ,S,_,g,Hz,hw,w,env,fun x v H1 g1 S1 st w1 vx h1=>?_⟩
 obtain ⟨⟨d,fr⟩,eb,q⟩:=yd h1;obtain ⟨ks,e1,e2⟩:=ϐ.mp (show ((lotD (zH S1 x.1)).bind vV).bind _=some (d,fr) from eb);split at e2
 ·rename_i hl
  cases e2;obtain ⟨l1,l2⟩:=ε.mp hl;obtain ⟨p,rfl,sq⟩:=JK (X:=X) ok.hK w1 e1 (vx.rdb w1);refine ⟨_,W5 ok.calm,p,ks,rfl,sq,of_decide_eq_true l1,fun a ha=>⟨_,W4 ok.calm,a,yo ks,rfl,zg,of_decide_eq_true l2,fun ms l pm up hl=>?_⟩⟩;refine v5 (w1.laid ha) (zea (d:=.lst ((Zb (yo ks)).map D.str)) w1 (fun u H2 g2 st2 _ w2 vo=>kk _ u H2 g2 S1 (st.trans st2) w2 ((VN.of vo).back st) q) ha) ?_ hl;rw [<- QX pm up];exact JR _
 ·cases e2
set_option tactic.hygienic true in
theorem zhg {p' pos':Pos}(ok:XOk Γ B (spN Γ cx) k X c) (hg:Gl X "set") (hm:X.mg "set"=none) (hg':Gl X "len") (hm':X.mg "len"=none) (hs:notStar z=true) (h:PE X z (TX Γ (cx noX) a)):
  PE X (.Call (.Name "len" p') [.Call (.Name "set" p) [z] [] pos] [] pos') (TX Γ (cx noX) (.bi .lset [a])):=by
 refine (jF (id:="len") ZR hg' hm' (by decide +kernel) (yw (zdD ok hg hm hs h) wK (zc rfl _ _)) (by decide) (by decide) (zc rfl _ _) rfl).imp fun σ H Q h0=>goX h0 fun ρ S V g Hz hw w env kk=>⟨ρ,S,_,g,Hz,hw,w,env,fun x v H1 g1 S1 st w1 vx h1=>?_⟩
 obtain ⟨⟨d,fr⟩,eb,q⟩:=yd h1;obtain ⟨ks,e1,e2⟩:=ϐ.mp (show ((lotD (zH S1 x.1)).bind vV).bind _=some (d,fr) from eb);split at e2
 ·rename_i hl
  cases e2;obtain ⟨p,rfl,sq⟩:=JK (X:=X) ok.hK w1 e1 (vx.rdb w1);refine ⟨_,W5 ok.calm,p,ks,rfl,sq,of_decide_eq_true hl,fun a ha=>⟨_,zbE,a,yo ks,rfl,zg,?_,?_⟩⟩
  ·exact eY (zfl ks) (dI (of_decide_eq_true hl))
  ·exact zf (w1.laid ha) (zea (d:=.int (yo ks).length) w1 (fun u H2 g2 st2 _ w2 vo=>kk _ u H2 g2 S1 (st.trans st2) w2 ((VN.of vo).back st) q) ha) rfl
 ·cases e2
end
section
variable {prog:Ψ}{w:ϕ}{A:ϡ}{E:VSP}{s:ω}
end
section
variable {X:Cx}{Γ:Gm}{S:Store}{cf:Cf}{a:E}{elts:List Expr}{kk:Nat}{ap cp tp:Pos}
end
section
variable {X:Cx}{tg:Expr}
end
section
variable {X:Cx}{Γ:Gm}{S:Store}{cf:Cf}{a:E}{tgt x:Expr}
theorem zhi (_:PE X x (TX Γ cf a)):PI X tgt x (TXi Γ cf (.keys a)):=fun _ _ _ _ _ _ h0=>goI h0 fun _ _ _ _ _ hw _ _ _=>au hw
end
end EV
namespace L2
open PySem PySem.Spec PyProof.Rows
variable {X:Cx}
end L2
namespace EV
open PySem PySem.Spec PyProof.Rows L2
variable {X:Cx}{Γ:Gm}{cf:Cf}{a b:E}{k v:Expr}{pos:Pos}
noncomputable def qt:Expr->Bool
 | .BoolOp _ _ _=>true
 | _=>false
section
variable {Γ:Gm}{B:Tb}{cx:Xp->Cf}{k:Nat}
theorem zhB {X:Cx}{x y z:Expr}{pos:Pos}{t a b:E}(hc:PT X x (TB Γ (cx noX) t)) (ha:PT X y (TB Γ (cx noX) a)) (hb:PT X z (TB Γ (cx noX) b)):PT X (.IfExp x y z pos) (TB Γ (cx noX) (.ite t a b)):=by
 intro pJ s σ H Q I ⟨ρ,S,V,g,Hz,hw,w,env,kk⟩;have eq:iH (.IfExp x y z pos) X.env (eval (.IfExp x y z pos) X.env)=(iH x X.env (eval x X.env) >>= fun t=>if t=true then iH y X.env (eval y X.env) else iH z X.env (eval z X.env)):=rfl;rw [eq];refine η (thn (hc pJ s σ H (fun r H'=>if r=true then TB Γ (cx noX) a σ H' Q else TB Γ (cx noX) b σ H' Q) I ⟨ρ,S,_,g,Hz,hw,w,env,fun x H1 g1 S1 st w1 h=>?_⟩) fun r s1 ⟨H1,I1,q⟩=>?_)
 ·obtain ⟨r,e,q⟩:=uw h;rw [e];show (if r=true then _ else _)
  cases r with
  | true=>exact iteT (zcc st w1 env kk q)
  | false=>exact iteF (zcc st w1 env kk q)
 ·cases r with
  | true=>rw [if_pos rfl] at q ⊢;exact ha pJ s1 σ H1 Q I1 q
  | false=>rw [if_neg ϓ] at q ⊢;exact hb pJ s1 σ H1 Q I1 q
def SE (Γ:Gm) (B:Tb) (cx:Xp->Cf) (k:Nat) (e:E):Prop:=∀ (X:Cx) (c:Cc) (x:Expr),XOk Γ B (spN Γ cx) k X c->chkE B c e x=true->PE X x (TX Γ (cx noX) e)/\PT X x (TB Γ (cx noX) e)/\(qt x=true->PW X x (TB Γ (cx noX) e))
theorem only {X:Cx}{x:Expr}{e:E}(h:PE X x (TX Γ (cx noX) e)) (hn:qt x=false) (he:∀ whole,iH x X.env whole=(do let v <- whole;standAt x.pos;gf [v] (truthy v))):PE X x (TX Γ (cx noX) e)/\PT X x (TB Γ (cx noX) e)/\(qt x=true->PW X x (TB Γ (cx noX) e)):=
 ⟨h,zg3 h he,fun q=>by rw [hn] at q;cases q⟩
theorem none_of {X:Cx}{x:Expr}{e:E}(h:∀ ρ V S,¬ wpE (cx noX) ρ e V S):PE X x (TX Γ (cx noX) e)/\PT X x (TB Γ (cx noX) e)/\(qt x=true->PW X x (TB Γ (cx noX) e)):=
 ⟨fun _ _ _ _ _ _ ⟨_,_,_,_,_,q,_⟩=>(h _ _ _ q).elim,fun _ _ _ _ _ _ ⟨_,_,_,_,_,q,_⟩=>(h _ _ _ q).elim,fun _ _ _ _ _ _ _ _ ⟨_,_,_,_,_,q,_⟩=>(h _ _ _ q).elim⟩
theorem vh {c:Cc}:∀ {es:List E}{xs:List Expr},zY B c es xs=true->∀ z∈xs,notStar z=true
 | [],[],_=>fun z hz=>by cases hz
 | e::es,x::xs,h=>by
  have h:(chkE B c e x&&notStar x&&zY B c es xs)=true:=h;rw [ζ,ζ] at h;intro z hz;rcases ψ.mp hz with rfl | hz
  ·exact h.1.2
  ·exact vh h.2 z hz
 | [],_::_,h=>nobE h
 | _::_,[],h=>nobE h
theorem zaE {c:Cc}{lo hi st:Option Expr}{pos:Pos}:∀ (e:E),chkE B c e (.Slice lo hi st pos)=true->False
 | .box e,h=>nobE h
 | .var _,h=>nobE h
 | .con _,h=>nobE h
 | .glo _ _,h=>nobE h
 | .bin _ _ _,h=>nobE h
 | .neg _,h=>nobE h
 | .cmp _ _ _,h=>nobE h
 | .chn _ _ _ _ _,h=>nobE h
 | .not _,h=>nobE h
 | .and _ _,h=>nobE h
 | .or _ _,h=>nobE h
 | .ite _ _ _,h=>nobE h
 | .tup _,h=>nobE h
 | .lst _,h=>nobE h
 | .dic _ _ _,h=>nobE h
 | .sub _ _,h=>nobE h
 | .slc _ _ _,h=>nobE h
 | .bi _ _,h=>nobE h
 | .mth _ _ _,h=>nobE h
 | .call _ _,h=>nobE h
 | .callk _ _ _,h=>nobE h
 | .callv _ _,h=>nobE h
 | .comp _ _ _ _ _,h=>nobE h
 | .one _,h=>nobE h
 | .flip _,h=>nobE h
 | .dk1 _ _,h=>nobE h
 | .seq _,h=>nobE h
 | .rng _ _,h=>nobE h
 | .enum _,h=>nobE h
 | .zip _ _,h=>nobE h
 | .rev _,h=>nobE h
 | .dwn _,h=>nobE h
 | .keys _,h=>nobE h
 | .items _,h=>nobE h
theorem KQ {c:Cc}{e:E}{y:Expr}(h:chkE B c e y=true):UW y:=by
 cases y with
 | Slice lo hi st pos=>exact (zaE e h).elim
 | _=>exact fun _ _=>rfl
theorem WP {iter:Expr}(h:vN iter=true) (env:Env) (v:δ):bV iter env v=pure v:=by cases iter <;> first | rfl | cases h
set_option tactic.hygienic true in
theorem zi5 {X:Cx}{d:D}{q:Const}{n:Nat}{pos:Pos}{c:Cc}(h:chkE B c (.con d) (.Constant q n pos)=true):∃ t,PE X (.Constant q n pos) (tC t)/\∀ g,Has Γ g d t:=by
 cases q with
 | none=>cases d <;> first | exact ⟨_,zhM,fun _=>rfl⟩ | exact nobE h
 | bool b=>cases d <;> first | (rename_i b';have e:=eq_of_beq (show (b'==b)=true from h);subst e;exact ⟨_,zkl,fun _=>rfl⟩) | exact nobE h
 | int b=>cases d <;> first | (rename_i b';have e:=eq_of_beq (show (b'==b)=true from h);subst e;exact ⟨_,zdQ,fun _=>rfl⟩) | exact nobE h
 | str b=>cases d <;> first | (rename_i b';have e:=eq_of_beq (show (b'==b)=true from h);subst e;exact ⟨_,zdP,fun _=>rfl⟩) | exact nobE h
 | _=>cases d <;> exact nobE h
theorem ZV {k0:Key}{ks:List Key}{keys:List (Option Expr)}(h:W3 (k0::ks) keys=true):∃ q n p r,keys=some (.Constant q n p)::r/\(∀ X:Cx,PE X (.Constant q n p) (tC (kV k0)))/\W3 ks r=true:=by
 cases keys with
 | nil=>exact nobE h
 | cons o r=>
  cases o with
  | none=>exact nobE h
  | some x=>
   have hb:Μ x.ctorIdx 19=true:=by revert h;cases x <;> first | exact non | exact fun _=>rfl
   revert h;apply ZD hb;clear hb;intro q n p h;have h:(keyC k0 q&&W3 ks r)=true:=h;rw [ζ] at h;refine ⟨q,n,p,r,rfl,fun X=>?_,h.2⟩;have h1:=h.1;cases k0 with
   | inl i=>
    cases q with
    | int j=>rw [show i=j from eq_of_beq h1];exact zdQ
    | _=>exact nobE h1
   | inr i=>
    cases q with
    | str j=>rw [show i=j from eq_of_beq h1];exact zdP
    | _=>exact nobE h1
theorem W2:∀ {ks:List Key}{keys:List (Option Expr)},W3 ks keys=true->ks.length=keys.length/\keys.all (·.isSome)=true
 | [],[],_=>⟨rfl,rfl⟩
 | [],_::_,h=>nobE h
 | k0::ks,keys,h=>by obtain ⟨q,n,p,r,rfl,_,hr⟩:=ZV h;obtain ⟨a,b⟩:=W2 hr;exact ⟨by simp [a],by simpa using b⟩
theorem W0 {c:Cc}:∀ {es:List E}{xs:List Expr},jy B c es xs=true->es.length=xs.length
 | [],[],_=>rfl
 | [],_::_,h=>nobE h
 | _::_,[],h=>nobE h
 | e::es,x::xs,h=>by have h:(chkE B c e x&&jy B c es xs)=true:=h;rw [ζ] at h;simp [W0 h.2]
theorem yJ {a:Bool}(h:(a&&false)=true):False:=by rw [Τ] at h;cases h
theorem qH {c:Cc}:∀ {es:List E}{xs:List Expr},zY B c es xs=true->es.length=xs.length
 | [],[],_=>rfl
 | [],_::_,h=>nobE h
 | _::_,[],h=>nobE h
 | e::es,x::xs,h=>by have h:(chkE B c e x&&notStar x&&zY B c es xs)=true:=h;rw [ζ] at h;simp [qH h.2]
theorem zie {c:Cc}{m:MT}{o:E}{es:List E}{f:Expr}{args:List Expr}{kws:List cY}{pos:Pos}(h:chkE B c (.mth m o es) (.Call f args kws pos)=true):
    ∃ w ap y ys,f=.Attribute w (mtS m) ap/\args=y::ys/\kws=[]/\chkE B c o w=true/\zY B c es (y::ys)=true/\(ap.endLine==pos.line)=true/\Wa w=true/\(y::ys).length<=9:=by
  have h:(match Xi f with
    | some q=>q.2.1==mtS m&&chkE B c o q.1&&zY B c es args&&vO kws&&q.2.2.endLine==pos.line&&Wa q.1&&decide (1<=es.length)&&decide (es.length<=9)
    | none=>false)=true:=h
  cases e:Xi f with
  | none=>rw [e] at h;cases h
  | some q=>
    rw [e] at h;simp only [ζ,decide_eq_true_eq] at h;obtain ⟨⟨⟨⟨⟨⟨⟨h1,h2⟩,h3⟩,h4⟩,h5⟩,h6⟩,h7⟩,h8⟩:=h;have hl:=qH h3;cases args with
    | nil=>simp at hl;simp [hl] at h7
    | cons y ys=>
      refine ⟨q.1,q.2.2,y,ys,?_,rfl,uv h4,h2,h3,h5,h6,by lia⟩;rw [Xh e,eq_of_beq h1]
def TXr (Γ:Gm) (cf:Cf):List E->TA
 | [e]=>fun σ H Q=>TX Γ cf e σ H fun v H1=>Q [v] H1
 | es=>TXs Γ cf es
theorem yq {b:BI}{n:Str}{c:Cc}{X:Cx}{es:List E}{args:List Expr}{p pos:Pos}(ok:XOk Γ B (spN Γ cx) k X c) (hi:isI b=false) (h:(n==biS b&&B.bare.contains n&&gloK (c.names.lookup n)&&zY B c es args&&!es.isEmpty)=true)
  (ih:zY B c es args=true->PA X args (TXr Γ (cx noX) es)):PE X (.Call (.Name n p) args [] pos) (TX Γ (cx noX) (.bi b es))/\PT X (.Call (.Name n p) args [] pos) (TB Γ (cx noX) (.bi b es))/\(qt (.Call (.Name n p) args [] pos)=true->PW X (.Call (.Name n p) args [] pos) (TB Γ (cx noX) (.bi b es))):=by
 simp only [ζ] at h;obtain ⟨⟨⟨⟨h1,h2⟩,h3⟩,h4⟩,h5⟩:=h;have e1:=eq_of_beq h1;subst e1;refine only ?_ rfl fun _=>rfl
 have ih:=ih h4;have hst:=vh h4;cases args with
 | nil=>
  cases es with
  | nil=>cases h5
  | cons _ _=>exact nobE h4
 | cons x xs=>
  refine zk8 ok (ok.glob h3) (ok.bare _ (Ϥ.mp h2)) hst ih fun σ H Q h0=>goX h0 fun ρ S V g Hz hw w env kk=>?_
  match es,hw with
  | [],_=>cases h5
  | [e],hw=>exact ⟨ρ,S,_,g,Hz,hw,w,env,fun x v H1 g1 S1 st w1 vx h1=>by
   obtain ⟨⟨d,fr⟩,eb,q⟩:=yd h1;obtain ⟨r,r1,r2⟩:=zef (X:=X) (Γ:=Γ) ok.hK ok.room.gd ok.u61 ok.calm hi eb
   exact ⟨r,r1,r2 S1 H1 g1 [v] Q w1 ⟨v,[],rfl,vx.rdb w1,rfl⟩ fun u H2 g2 st2 _ w2 vo=>kk _ u H2 g2 S1 (st.trans st2) w2 ((VN.of vo).back st) q⟩⟩
  | e1::e2::es,hw=>exact ⟨ρ,S,_,g,Hz,hw,w,env,fun ds vs H1 g1 S1 st w1 hv h1=>by
   obtain ⟨⟨d,fr⟩,eb,q⟩:=yd h1;obtain ⟨r,r1,r2⟩:=zef (X:=X) (Γ:=Γ) ok.hK ok.room.gd ok.u61 ok.calm hi eb
   exact ⟨r,r1,r2 S1 H1 g1 vs Q w1 (zai w1 hv) fun u H2 g2 st2 _ w2 vo=>kk _ u H2 g2 S1 (st.trans st2) w2 ((VN.of vo).back st) q⟩⟩
theorem zdh {X:Cx}{c:Cc}{sc:dD}{js:List Nat}{xs:List Str}{t:T}{it elt:E}{ifs:List E}{cs:List Expr}{tgt iter y:Expr}{pos:Pos}(ok:XOk Γ B (spN Γ cx) k X c) (hs:chkS c sc js=true) (hn:vN iter=true) (nd:(xs++js.map (fun j=>c.N.getD j "")).Nodup)
  (hst:YW t=false) (ht:nT t=xs.length) (hr:tIs t=Ϲ xs.length) (hT:chkT (inner c sc xs js) t tgt=true) (hi:PI X tgt iter (TXi Γ (cx noX) it))
  (hz:∀ X,XOk Γ B (spN Γ cx) k X (inner c sc xs js)->PTs X cs (TXf Γ (cx noX) ifs)) (he:∀ X,XOk Γ B (spN Γ cx) k X (inner c sc xs js)->PE X y (TX Γ (cx noX) elt)):
  PE X (.ListComp y [⟨tgt,iter,cs,0⟩] sc pos) (TX Γ (cx noX) (.comp t js it ifs elt))/\CSet X (.ListComp y [⟨tgt,iter,cs,0⟩] sc pos) (TX Γ (cx noX) (.comp t js it ifs elt)):=by
 have okI:=fun C s3 H3 fp=>Ql ok hs nd C s3 H3 fp
 refine zdp (zbu (xs:=xs) (tg:=tgOf X.K t) ok.calm (J3 ok hs) hi (fun C s3 H3 fp=>Je (okI C s3 H3 fp) hT) (fun C s3 H3 fp=>hz _ (okI C s3 H3 fp)) (fun C s3 H3 fp=>he _ (okI C s3 H3 fp)) (WP hn X.env)) fun σ H Q h0=>goX h0 fun ρ S V g Hz hw w env kk=>?_
 refine zdg (X:=X) (Qe:=fun D H'=>Q (.ref D) H') hst (fun i hi=>?_) ht ?_ hw w env fun ds Da H' g' S' st w' vx q=>kk _ _ H' g' S' st w' vx q
 ·rw [hr] at hi;rw [ht];exact bG.mp hi
 ·exact mW.of_map _ (fun a b (h:c.N.getD a ""≠c.N.getD b "") e=>h (by rw [e])) (bL.mp nd).2.1
theorem WX {t:T}{js:List Nat}{it:E}{ifs:List E}{elt:E}{X:Cx}{c:Cc}{tgt iter y:Expr}{cs:List Expr}{kk:Int}{sc:dD}{pos:Pos}(hI:∀ X c tgt x,XOk Γ B (spN Γ cx) k X c->chkI B c it tgt x=true->PI X tgt x (TXi Γ (cx noX) it)) (hF:∀ X c xs,XOk Γ B (spN Γ cx) k X c->jy B c ifs xs=true->ifs.length<=1->PTs X xs (TXf Γ (cx noX) ifs)) (hE:∀ X c x,XOk Γ B (spN Γ cx) k X c->chkE B c elt x=true->PE X x (TX Γ (cx noX) elt))
    (ok:XOk Γ B (spN Γ cx) k X c) (h:chkE B c (.comp t js it ifs elt) (.ListComp y [⟨tgt,iter,cs,kk⟩] sc pos)=true):PE X (.ListComp y [⟨tgt,iter,cs,kk⟩] sc pos) (TX Γ (cx noX) (.comp t js it ifs elt))/\CSet X (.ListComp y [⟨tgt,iter,cs,kk⟩] sc pos) (TX Γ (cx noX) (.comp t js it ifs elt)):=by
  have h:(kk==0&&chkS c sc js&&chkI B c it tgt iter&&vN iter&&(match xU tgt with
    | some xs=>decide ((xs++js.map (fun j=>c.N.getD j "")).Nodup)&&nT t==xs.length&&tIs t==Ϲ xs.length&&chkT (inner c sc xs js) t tgt&&chkE B (inner c sc xs js) elt y&&jy B (inner c sc xs js) ifs cs&&decide (ifs.length<=1)
    | none=>false))=true:=h
  simp only [ζ] at h;obtain ⟨⟨⟨⟨h1,h2⟩,h3⟩,h4⟩,h5⟩:=h;have e1:=eq_of_beq h1;subst e1;cases ht:xU tgt with
  | none=>rw [ht] at h5;cases h5
  | some xs=>
    rw [ht] at h5;simp only [ζ] at h5;obtain ⟨⟨⟨⟨⟨⟨h6,h7⟩,h8⟩,h9⟩,h10⟩,h11⟩,h12⟩:=h5;have hst:YW t=false:=by
      cases t with
      | nst i is=>
        exfalso;cases q:zdv tgt with
        | none=>unfold chkT at h9;rw [if_pos (show YW (.nst i is)=true from rfl),q] at h9;cases h9
        | some z=>rw [Kc q] at ht;cases ht
      | _=>rfl
    exact zdh ok h2 h4 (of_decide_eq_true h6) hst (eq_of_beq h7) (eq_of_beq h8) h9 (hI X c tgt iter ok h3) (fun X ok'=>hF X _ cs ok' h11 (of_decide_eq_true h12)) fun X ok'=>hE X _ y ok' h10
mutual
theorem sA (hcf:CfN B (cx noX)) (hm:Mono (cx noX)):∀ (e:E),SE Γ B cx k e
  | .var i=>fun X c x ok h=>by
    have hb:Μ x.ctorIdx 23=true:=by revert h;cases x <;> first | exact non | exact fun _=>rfl
    revert h;apply ur hb;clear hb;intro n pos h;have h:(c.N[i]?==some n&&visK (c.names.lookup n)&&xg n)=true:=h;rw [ζ,ζ] at h;obtain ⟨h1,h2,_⟩:=yz h.2;exact only (zg2 (by rw [ok.N];exact eq_of_beq h.1.1) (ok.vis h.1.2) h1 h2) rfl fun _=>rfl
  | .con d=>fun X c x ok h=>by
    have hb:Μ x.ctorIdx 19=true:=by revert h;cases x <;> first | exact non | exact fun _=>rfl
    revert h;apply ZD hb;clear hb;intro q n pos h;obtain ⟨t,h1,h2⟩:=zi5 (Γ:=Γ) (X:=X) h;exact only (zhm h1 h2 fun _ _ _ q=>q) rfl fun _=>rfl
  | .glo m d=>fun X c x ok h=>by
    have hb:Μ x.ctorIdx 23=true:=by revert h;cases x <;> first | exact non | exact fun _=>rfl
    revert h;apply ur hb;clear hb;intro n pos h
    have h:((match B.consts[m]? with
      | some p=>p.1==n&&KC p.2 d
      | none=>false)&&gloK (c.names.lookup n)&&xg n)=true:=h
    rw [ζ,ζ] at h;cases e:B.consts[m]? with
    | none=>rw [e] at h;cases h.1.1
    | some q=>
      rw [e] at h;obtain ⟨y,d'⟩:=q;have h1:(y==n&&KC d' d)=true:=h.1.1;rw [ζ] at h1;have e1:=eq_of_beq h1.1;have e2:=Jp _ _ h1.2;subst e1 e2;obtain ⟨u,v,g1,g2,g3⟩:=ok.consts m y d' e;exact only (zhm (zfc (ok.glob h.1.2) g1 g2 (yz h.2).1) g3 fun _ _ _ q=>q) rfl fun _=>rfl
  | .bin op a b=>fun X c x ok h=>by
    have hb:Μ x.ctorIdx 2=true:=by revert h;cases x <;> first | exact non | exact fun _=>rfl
    revert h;apply zfr hb;clear hb;intro l op' r pos h;have h:(op==op'&&chkE B c a l&&chkE B c b r)=true:=h;rw [ζ,ζ] at h;have e1:=eq_of_beq h.1.1;subst e1;exact only (zj4 ok.hK (sA hcf hm a X c l ok h.1.2).1 (sA hcf hm b X c r ok h.2).1) rfl fun _=>rfl
  | .neg a=>fun X c x ok h=>by
    have hb:Μ x.ctorIdx 3=true:=by revert h;cases x <;> first | exact non | exact fun _=>rfl
    revert h;apply Wi hb;clear hb;intro op l pos h;have h:(op==PySem.UnaryOp.USub&&chkE B c a l)=true:=h;rw [ζ] at h;have e1:=eq_of_beq h.1;subst e1;exact only (zjQ (sA hcf hm a X c l ok h.2).1) rfl fun _=>rfl
  | .cmp op a b=>fun X c x ok h=>by
    have hb:Μ x.ctorIdx 15=true:=by revert h;cases x <;> first | exact non | exact fun _=>rfl
    revert h;apply Wl hb;clear hb;intro l ops rs pos h
    match ops,rs,h with
    | [op'],[r],h=>
      have h:(op==op'&&chkE B c a l&&chkE B c b r&&vN r)=true:=h;rw [ζ,ζ,ζ] at h;have e1:=eq_of_beq h.1.1.1;subst e1;have hm':lE op r=false:=by cases r <;> first | rfl | cases h.2
      have:=zj1 (pos:=pos) ok.hK ok.u61 (sA hcf hm a X c l ok h.1.1.2).1 (sA hcf hm b X c r ok h.1.2).1 hm';exact ⟨this.1,this.2,fun q=>by cases q⟩
    | [],_,h=>exact nobE h
    | [_],[],h=>exact nobE h
    | [_],_::_::_,h=>exact nobE h
    | _::_::_,_,h=>exact nobE h
  | .chn o1 o2 a b d=>fun X c x ok h=>by
    have hb:Μ x.ctorIdx 15=true:=by revert h;cases x <;> first | exact non | exact fun _=>rfl
    revert h;apply Wl hb;clear hb;intro l ops rs pos h
    match ops,rs,h with
    | [p1,p2],[r1,r2],h=>
      have h:(o1==p1&&o2==p2&&chkE B c a l&&chkE B c b r1&&chkE B c d r2&&vN r2)=true:=h;simp only [ζ] at h;obtain ⟨⟨⟨⟨⟨h1,h2⟩,h3⟩,h4⟩,h5⟩,h6⟩:=h;have e1:=eq_of_beq h1;have e2:=eq_of_beq h2;subst e1 e2;have hm':lastMarks [o1,o2] [r1,r2]=false:=by cases r2 <;> first | rfl | cases h6
      have:=zj2 (pos:=pos) ok.hK ok.u61 (sA hcf hm a X c l ok h3).1 (sA hcf hm b X c r1 ok h4).1 (sA hcf hm d X c r2 ok h5).1 hm';exact ⟨this.1,this.2,fun q=>by cases q⟩
    | [],_,h=>exact nobE h
    | [_],_,h=>exact nobE h
    | [_,_],[],h=>exact nobE h
    | [_,_],[_],h=>exact nobE h
    | [_,_],_::_::_::_,h=>exact nobE h
    | _::_::_::_,_,h=>exact nobE h
  | .not a=>fun X c x ok h=>by
    have hb:Μ x.ctorIdx 3=true:=by revert h;cases x <;> first | exact non | exact fun _=>rfl
    revert h;apply Wi hb;clear hb;intro op l pos h;have h:(op==PySem.UnaryOp.Not&&chkE B c a l)=true:=h;rw [ζ] at h;have e1:=eq_of_beq h.1;subst e1;obtain ⟨i1,i2,_⟩:=sA hcf hm a X c l ok h.2;exact ⟨zjP i1,zhe i2,fun q=>by cases q⟩
  | .and a b=>fun X c x ok h=>by
    have hb:Μ x.ctorIdx 0=true:=by revert h;cases x <;> first | exact non | exact fun _=>rfl
    revert h;apply Yy hb;clear hb;intro op vs pos h
    match vs,h with
    | l::r::rest,h=>
      have h:(op==m8.And&&chkE B c a l&&chkE B c b (.BoolOp .And (r::rest) pos))=true:=h;rw [ζ,ζ] at h;have e1:=eq_of_beq h.1.1;subst e1;obtain ⟨i1,i2,_⟩:=sA hcf hm a X c l ok h.1.2;obtain ⟨j1,_,j3⟩:=sA hcf hm b X c _ ok h.2;have w:=zho i2 (j3 rfl);exact ⟨zj6 i1 j1,w.pt,fun _=>w⟩
    | [],h=>exact nobE h
    | [_],h=>exact nobE h
  | .or a b=>fun X c x ok h=>by
    have hb:Μ x.ctorIdx 0=true:=by revert h;cases x <;> first | exact non | exact fun _=>rfl
    revert h;apply Yy hb;clear hb;intro op vs pos h
    match vs,h with
    | l::r::rest,h=>
      have h:(op==m8.Or&&chkE B c a l&&chkE B c b (.BoolOp .Or (r::rest) pos))=true:=h;rw [ζ,ζ] at h;have e1:=eq_of_beq h.1.1;subst e1;obtain ⟨i1,i2,_⟩:=sA hcf hm a X c l ok h.1.2;obtain ⟨j1,_,j3⟩:=sA hcf hm b X c _ ok h.2;have w:=zjO i2 (j3 rfl);exact ⟨s_or i1 j1,w.pt,fun _=>w⟩
    | [],h=>exact nobE h
    | [_],h=>exact nobE h
  | .one a=>fun X c x ok h=>by
    have hb:Μ x.ctorIdx 0=true:=by revert h;cases x <;> first | exact non | exact fun _=>rfl
    revert h;apply Yy hb;clear hb;intro op vs pos h
    match vs,h with
    | [l],h=>
      obtain ⟨i1,i2,_⟩:=sA hcf hm a X c l ok (show chkE B c a l=true from h);exact ⟨zhK i1,(zdI i2).pt,fun _=>zdI i2⟩
    | [],h=>exact nobE h
    | _::_::_,h=>exact nobE h
  | .ite t a b=>fun X c x ok h=>by
    have hb:Μ x.ctorIdx 5=true:=by revert h;cases x <;> first | exact non | exact fun _=>rfl
    revert h;apply zfq hb;clear hb;intro l y z pos h;have h:(chkE B c t l&&chkE B c a y&&chkE B c b z)=true:=h;rw [ζ,ζ] at h;obtain ⟨_,i2,_⟩:=sA hcf hm t X c l ok h.1.1;obtain ⟨j1,j2,_⟩:=sA hcf hm a X c y ok h.1.2;obtain ⟨k1,k2,_⟩:=sA hcf hm b X c z ok h.2;exact ⟨zjU i2 j1 k1,zhB i2 j2 k2,fun q=>by cases q⟩
  | .tup es=>fun X c x ok h=>by
    have hb:Μ x.ctorIdx 25=true:=by revert h;cases x <;> first | exact non | exact fun _=>rfl
    revert h;apply zfn hb;clear hb;intro xs kk pos h;exact only (zjF (sEs hcf hm es X c xs ok h)) rfl fun _=>rfl
  | .lst es=>fun X c x ok h=>by
    have hb:Μ x.ctorIdx 24=true:=by revert h;cases x <;> first | exact non | exact fun _=>rfl
    revert h;apply ofList hb;clear hb;intro xs pos h;exact only (zjS (sEs hcf hm es X c xs ok h)) rfl fun _=>rfl
  | .sub a i=>fun X c x ok h=>by
    have hb:Μ x.ctorIdx 21=true:=by revert h;cases x <;> first | exact non | exact fun _=>rfl
    revert h;apply kW hb;clear hb;intro l y pos h;have h:(chkE B c a l&&chkE B c i y)=true:=h;rw [ζ] at h;exact only (zjG ok.hK ok.u1 (sA hcf hm a X c l ok h.1).1 (sA hcf hm i X c y ok h.2).1 (KQ h.2)) rfl fun _=>rfl
  | .slc a lo hi=>fun X c x ok h=>by
    have hb:Μ x.ctorIdx 21=true:=by revert h;cases x <;> first | exact non | exact fun _=>rfl
    revert h;apply kW hb;clear hb;intro l y pos h;have hb:Μ y.ctorIdx 26=true:=by revert h;cases y <;> first | exact non | exact fun _=>rfl
    revert h;apply zfo hb;clear hb;intro lo' hi' st p2 h;cases st with
    | none=>
      have h:(chkE B c a l&&chkO B c lo lo'&&chkO B c hi hi')=true:=h;rw [ζ,ζ] at h;exact only (zjJ ok.hK (sA hcf hm a X c l ok h.1.1).1 (sO hcf hm lo X c lo' ok h.1.2) (sO hcf hm hi X c hi' ok h.2)) rfl fun _=>rfl
    | some _=>exact nobE h
  | .bi b es=>fun X c x ok h=>by
    have hb:Μ x.ctorIdx 16=true:=by revert h;cases x <;> first | exact non | exact fun _=>rfl
    revert h;apply je hb;clear hb;intro f args kws pos h;have hb:Μ f.ctorIdx 23=true:=by revert h;cases f <;> first | exact non | exact fun _=>rfl
    revert h;apply ur hb;clear hb;intro n p h;cases kws with
    | nil=>
      cases b with
      | isinst t=>
        match es,args,h with
        | [],_,h=>exact (yJ (show (_&&false)=true from h)).elim
        | _::_::_,_,h=>exact (yJ (show (_&&false)=true from h)).elim
        | [_],[],h=>exact (yJ (show (_&&false)=true from h)).elim
        | [_],[_],h=>exact (yJ (show (_&&false)=true from h)).elim
        | [_],_::z::_::_,h=>cases z <;> exact (yJ (show (_&&false)=true from h)).elim
        | [e],[y,z],h=>
          cases z with
          | Name z pz=>
            have h:(n==("isinstance":Str)&&B.bare.contains n&&B.bare.contains (tyN t)&&gloK (c.names.lookup n)&&(chkE B c e y&&notStar y&&z==tyN t&&gloK (c.names.lookup z)))=true:=h;simp only [ζ] at h;obtain ⟨⟨⟨⟨h1,h2⟩,h3⟩,h4⟩,⟨⟨h5,h6⟩,h7⟩,h8⟩:=h;have e1:=eq_of_beq h1;have e2:=eq_of_beq h7;subst e1 e2;exact only (s_is ok (ok.glob h4) (ok.bare _ (Ϥ.mp h2)) (ok.glob h8) (ok.bare _ (Ϥ.mp h3)) h6 (sA hcf hm e X c y ok h5).1) rfl fun _=>rfl
          | _=>exact (yJ (show (_&&false)=true from h)).elim
      | len=>exact yq ok rfl (show (n==biS .len&&B.bare.contains n&&gloK (c.names.lookup n)&&zY B c es args&&!es.isEmpty)=true from h) fun q=>sRs hcf hm es X c args ok q
      | abs=>exact yq ok rfl (show (n==biS .abs&&B.bare.contains n&&gloK (c.names.lookup n)&&zY B c es args&&!es.isEmpty)=true from h) fun q=>sRs hcf hm es X c args ok q
      | int=>exact yq ok rfl (show (n==biS .int&&B.bare.contains n&&gloK (c.names.lookup n)&&zY B c es args&&!es.isEmpty)=true from h) fun q=>sRs hcf hm es X c args ok q
      | str=>exact yq ok rfl (show (n==biS .str&&B.bare.contains n&&gloK (c.names.lookup n)&&zY B c es args&&!es.isEmpty)=true from h) fun q=>sRs hcf hm es X c args ok q
      | tuple=>exact yq ok rfl (show (n==biS .tuple&&B.bare.contains n&&gloK (c.names.lookup n)&&zY B c es args&&!es.isEmpty)=true from h) fun q=>sRs hcf hm es X c args ok q
      | list=>exact yq ok rfl (show (n==biS .list&&B.bare.contains n&&gloK (c.names.lookup n)&&zY B c es args&&!es.isEmpty)=true from h) fun q=>sRs hcf hm es X c args ok q
      | sum=>exact yq ok rfl (show (n==biS .sum&&B.bare.contains n&&gloK (c.names.lookup n)&&zY B c es args&&!es.isEmpty)=true from h) fun q=>sRs hcf hm es X c args ok q
      | all=>exact yq ok rfl (show (n==biS .all&&B.bare.contains n&&gloK (c.names.lookup n)&&zY B c es args&&!es.isEmpty)=true from h) fun q=>sRs hcf hm es X c args ok q
      | any=>exact yq ok rfl (show (n==biS .any&&B.bare.contains n&&gloK (c.names.lookup n)&&zY B c es args&&!es.isEmpty)=true from h) fun q=>sRs hcf hm es X c args ok q
      | min2=>exact yq ok rfl (show (n==biS .min2&&B.bare.contains n&&gloK (c.names.lookup n)&&zY B c es args&&!es.isEmpty)=true from h) fun q=>sRs hcf hm es X c args ok q
      | max2=>exact yq ok rfl (show (n==biS .max2&&B.bare.contains n&&gloK (c.names.lookup n)&&zY B c es args&&!es.isEmpty)=true from h) fun q=>sRs hcf hm es X c args ok q
      | sorted=>exact yq ok rfl (show (n==biS .sorted&&B.bare.contains n&&gloK (c.names.lookup n)&&zY B c es args&&!es.isEmpty)=true from h) fun q=>sRs hcf hm es X c args ok q
      | repr=>exact yq ok rfl (show (n==biS .repr&&B.bare.contains n&&gloK (c.names.lookup n)&&zY B c es args&&!es.isEmpty)=true from h) fun q=>sRs hcf hm es X c args ok q
      | dict=>exact yq ok rfl (show (n==biS .dict&&B.bare.contains n&&gloK (c.names.lookup n)&&zY B c es args&&!es.isEmpty)=true from h) fun q=>sRs hcf hm es X c args ok q
      | sset=>
        match es,args,h with
        | [],_,h=>exact (yJ (show (_&&false)=true from h)).elim
        | _::_::_,_,h=>exact (yJ (show (_&&false)=true from h)).elim
        | [_],[],h=>exact (yJ (show (_&&false)=true from h)).elim
        | [_],_::_::_,h=>exact (yJ (show (_&&false)=true from h)).elim
        | [e],[z],h=>
          have h9:(n==("sorted":Str)&&B.bare.contains n&&gloK (c.names.lookup n)&&(match uZ z with
            | some (y,u)=>y==("set":Str)&&B.bare.contains y&&gloK (c.names.lookup y)&&chkE B c e u&&notStar u
            | none=>false))=true:=h
          cases hz:uZ z with
          | none=>rw [hz] at h9;exact (yJ h9).elim
          | some q=>
            obtain ⟨y,u⟩:=q;rw [hz] at h9;obtain ⟨py,pu,rfl⟩:=XJ hz;simp only [ζ] at h9;obtain ⟨⟨⟨h1,h2⟩,h3⟩,⟨⟨⟨h4,h5⟩,h6⟩,h7⟩,h8⟩:=h9;have e1:=eq_of_beq h1;have e2:=eq_of_beq h4;subst e1 e2;exact only (zg4 ok (ok.glob h6) (ok.bare _ (Ϥ.mp h5)) (ok.glob h3) (ok.bare _ (Ϥ.mp h2)) h8 (sA hcf hm e X c u ok h7).1) rfl fun _=>rfl
      | lset=>
        match es,args,h with
        | [],_,h=>exact (yJ (show (_&&false)=true from h)).elim
        | _::_::_,_,h=>exact (yJ (show (_&&false)=true from h)).elim
        | [_],[],h=>exact (yJ (show (_&&false)=true from h)).elim
        | [_],_::_::_,h=>exact (yJ (show (_&&false)=true from h)).elim
        | [e],[z],h=>
          have h9:(n==("len":Str)&&B.bare.contains n&&gloK (c.names.lookup n)&&(match uZ z with
            | some (y,u)=>y==("set":Str)&&B.bare.contains y&&gloK (c.names.lookup y)&&chkE B c e u&&notStar u
            | none=>false))=true:=h
          cases hz:uZ z with
          | none=>rw [hz] at h9;exact (yJ h9).elim
          | some q=>
            obtain ⟨y,u⟩:=q;rw [hz] at h9;obtain ⟨py,pu,rfl⟩:=XJ hz;simp only [ζ] at h9;obtain ⟨⟨⟨h1,h2⟩,h3⟩,⟨⟨⟨h4,h5⟩,h6⟩,h7⟩,h8⟩:=h9;have e1:=eq_of_beq h1;have e2:=eq_of_beq h4;subst e1 e2;exact only (zhg ok (ok.glob h6) (ok.bare _ (Ϥ.mp h5)) (ok.glob h3) (ok.bare _ (Ϥ.mp h2)) h8 (sA hcf hm e X c u ok h7).1) rfl fun _=>rfl
      | trev=>exact nobE h
    | cons _ _=>exact nobE h
  | .call f es=>fun X c x ok h=>by
    have hb:Μ x.ctorIdx 16=true:=by revert h;cases x <;> first | exact non | exact fun _=>rfl
    revert h;apply je hb;clear hb;intro q args kws pos h;have hb:Μ q.ctorIdx 23=true:=by revert h;cases q <;> first | exact non | exact fun _=>rfl
    revert h;apply ur hb;clear hb;intro n p h;cases kws with
    | nil=>
      have h:(B.fns[f]?==some n&&gloK (c.names.lookup n)&&xg n&&zY B c es args&&!es.isEmpty)=true:=h;simp only [ζ] at h;obtain ⟨⟨⟨⟨h1,h2⟩,h3⟩,h4⟩,h5⟩:=h;cases args with
      | nil=>
        cases es with
        | nil=>cases h5
        | cons _ _=>exact nobE h4
      | cons y ys=>exact only (s_call hcf ok (eq_of_beq h1) (zb7 h3) (ok.glob h2) (yz h3).1 (vh h4) (sEs hcf hm es X c (y::ys) ok h4)) rfl fun _=>rfl
    | cons _ _=>exact nobE h
  | .callk f perm es=>fun X c x ok h=>nobE h
  | .comp t js it ifs elt=>fun X c x ok h=>by
    have hb:Μ x.ctorIdx 8=true:=by revert h;cases x <;> first | exact non | exact fun _=>rfl
    revert h;apply ZC hb;clear hb;intro y gens sc pos h
    match gens,h with
    | [⟨tgt,iter,cs,kk⟩],h=>exact only (WX (fun X c tgt x ok q=>sI hcf hm it X c tgt x ok q) (fun X c xs ok q l=>sFs hcf hm ifs X c xs ok q l) (fun X c x ok q=>(sA hcf hm elt X c x ok q).1) ok h).1 rfl fun _=>rfl
    | [],h=>exact nobE h
    | ⟨_,_,_,_⟩::⟨_,_,_,_⟩::_,h=>exact nobE h
  | .box e=>fun X c x ok h=>by
    have h:(zap x&&chkE B c e x)=true:=h;rw [ζ] at h
    have pe:PE X x (TX Γ (cx noX) (.box e)):=((sA hcf hm e X c x ok h.2).1).imp fun σ H Q ⟨ρ,S,V,g,Hz,hw,w,env,kk⟩=>⟨ρ,S,_,g,Hz,hw,w,env,fun y v H1 g1 S1 st w1 vx q=>by
      obtain ⟨d,k⟩:=y;cases k with
      | fr=>
        obtain ⟨g2,s2,w2,h2⟩:=zjd st w1 vx;exact kk (.ref S1.length,.st) v H1 g2 _ s2 w2 h2 q
      | _=>exact q.elim⟩
    have hp:=h.1;cases x <;> first | exact only pe rfl fun _=>rfl | exact nobE hp
  | .dic tk ks es=>fun X c x ok h=>by
    have hb:Μ x.ctorIdx 6=true:=by revert h;cases x <;> first | exact non | exact fun _=>rfl
    revert h;apply zh9 hb;clear hb;intro keys vals pos h;have h:(W3 ks keys&&jy B c es vals&&decide (ks.length=es.length)&&decide (ks.length<=15))=true:=h;simp only [ζ,decide_eq_true_eq] at h;obtain ⟨⟨⟨h1,h2⟩,h3⟩,h4⟩:=h;refine only ?_ rfl fun _=>rfl
    cases ks with
    | nil=>
      cases keys with
      | cons _ _=>exact nobE h1
      | nil=>
        cases es with
        | cons _ _=>cases h3
        | nil=>
          cases vals with
          | cons _ _=>exact nobE h2
          | nil=>
            cases tk with
            | true=>exact zeO (ks:=[])
            | false=>exact zeP
    | cons k0 ks=>
      have hps:=sPs (pos:=pos) hcf hm es X c vals (k0::ks) keys ok h2 h1 h3;obtain ⟨l1,l2⟩:=W2 h1;have l3:=W0 h2;have hd:=zhl hps l2 (by rw [<- l1,h3,l3]) (fun z=>by rw [z] at l1;cases l1) (by rw [<- l1];exact h4);cases tk with
      | false=>exact hd
      | true=>exact hd.imp fun σ H Q ⟨ρ,S,V,g,Hz,hw,w,env,kk⟩=>⟨ρ,S,V,g,Hz,zR hm es (fun ds S1 q=>by
        obtain ⟨hq,_⟩:=vJ q;unfold zdd at hq
        simp at hq) hw,w,env,kk⟩
  | .mth m o es=>fun X c x ok h=>by
    have hb:Μ x.ctorIdx 16=true:=by revert h;cases x <;> first | exact non | exact fun _=>rfl
    revert h;apply je hb;clear hb;intro f args kws pos h;obtain ⟨w,ap,y,ys,rfl,rfl,rfl,h1,h2,h3,h4,h5⟩:=zie h;exact only (zjR ok (sA hcf hm o X c w ok h1).1 (vh h2) (sEs hcf hm es X c (y::ys) ok h2) h3 h4 h5) rfl fun _=>rfl
  | .att cs o f=>fun X c x ok h=>nobE h
  | .met ms o m es=>fun X c x ok h=>nobE h
  | .mk n f es=>fun X c x ok h=>nobE h
  | .flip e=>fun X c x ok h=>nobE h
  | .dk1 a b=>fun X c x ok h=>nobE h
  | .callv i es=>fun X c x ok h=>by
    have hb:Μ x.ctorIdx 16=true:=by revert h;cases x <;> first | exact non | exact fun _=>rfl
    revert h;apply je hb;clear hb;intro q args kws pos h;have hb:Μ q.ctorIdx 23=true:=by revert h;cases q <;> first | exact non | exact fun _=>rfl
    revert h;apply ur hb;clear hb;intro n p h;cases kws with
    | nil=>
      have h:(c.N[i]?==some n&&visK (c.names.lookup n)&&xg n&&zY B c es args&&!es.isEmpty)=true:=h;simp only [ζ] at h;obtain ⟨⟨⟨⟨h1,h2⟩,h3⟩,h4⟩,h5⟩:=h;obtain ⟨p1,p2,_⟩:=yz h3;cases args with
      | nil=>
        cases es with
        | nil=>cases h5
        | cons _ _=>exact nobE h4
      | cons y ys=>exact only (zeQ hcf ok (by rw [ok.N];exact eq_of_beq h1) (ok.vis h2) p1 p2 (vh h4) (sEs hcf hm es X c (y::ys) ok h4)) rfl fun _=>rfl
    | cons _ _=>exact nobE h
  | .seq _=>fun X c x ok h=>none_of fun _ _ _ q=>q
  | .rng _ _=>fun X c x ok h=>none_of fun _ _ _ q=>q
  | .enum _=>fun X c x ok h=>none_of fun _ _ _ q=>q
  | .zip _ _=>fun X c x ok h=>none_of fun _ _ _ q=>q
  | .rev _=>fun X c x ok h=>none_of fun _ _ _ q=>q
  | .dwn _=>fun X c x ok h=>none_of fun _ _ _ q=>q
  | .keys _=>fun X c x ok h=>none_of fun _ _ _ q=>q
  | .items _=>fun X c x ok h=>none_of fun _ _ _ q=>q
theorem sRs (hcf:CfN B (cx noX)) (hm:Mono (cx noX)):∀ (es:List E) (X:Cx) (c:Cc) (xs:List Expr),XOk Γ B (spN Γ cx) k X c->zY B c es xs=true->PA X xs (TXr Γ (cx noX) es)
 | [],X,c,xs,ok,h=>by
  cases xs with
  | nil=>exact zhf
  | cons _ _=>exact nobE h
 | [e],X,c,xs,ok,h=>by
  cases xs with
  | nil=>exact nobE h
  | cons x xs=>
   have h:(chkE B c e x&&notStar x&&zY B c [] xs)=true:=h;rw [ζ,ζ] at h;cases xs with
   | nil=>exact yw (sA hcf hm e X c x ok h.1.1).1 wK (zc h.1.2 _ _)
   | cons _ _=>exact nobE h.2
 | e::f::es,X,c,xs,ok,h=>by
  cases xs with
  | nil=>exact nobE h
  | cons x xs=>
   have h:(chkE B c e x&&notStar x&&zY B c (f::es) xs)=true:=h;rw [ζ,ζ] at h;exact zdJ h.1.2 (sA hcf hm e X c x ok h.1.1).1 (sEs hcf hm (f::es) X c xs ok h.2)
theorem sEs (hcf:CfN B (cx noX)) (hm:Mono (cx noX)):∀ (es:List E) (X:Cx) (c:Cc) (xs:List Expr),XOk Γ B (spN Γ cx) k X c->zY B c es xs=true->PA X xs (TXs Γ (cx noX) es)
 | [],X,c,xs,ok,h=>by
  cases xs with
  | nil=>exact zhf
  | cons _ _=>exact nobE h
 | e::es,X,c,xs,ok,h=>by
  cases xs with
  | nil=>exact nobE h
  | cons x xs=>
   have h:(chkE B c e x&&notStar x&&zY B c es xs)=true:=h;rw [ζ,ζ] at h;exact zdJ h.1.2 (sA hcf hm e X c x ok h.1.1).1 (sEs hcf hm es X c xs ok h.2)
theorem sPs {pos:Pos}(hcf:CfN B (cx noX)) (hm:Mono (cx noX)):∀ (es:List E) (X:Cx) (c:Cc) (vals:List Expr) (ks:List Key) (keys:List (Option Expr)),XOk Γ B (spN Γ cx) k X c->jy B c es vals=true->W3 ks keys=true->ks.length=es.length->PPd X pos keys vals ks (TXs Γ (cx noX) es)
 | [],X,c,vals,ks,keys,ok,h,hk,hl=>by
  cases vals with
  | cons _ _=>exact nobE h
  | nil=>
   cases ks with
   | cons _ _=>cases hl
   | nil=>
    cases keys with
    | cons _ _=>exact nobE hk
    | nil=>exact zhc
 | a::es,X,c,vals,ks,keys,ok,h,hk,hl=>by
  cases vals with
  | nil=>exact nobE h
  | cons x vals=>
   have h:(chkE B c a x&&jy B c es vals)=true:=h;rw [ζ] at h;cases ks with
   | nil=>cases hl
   | cons k0 ks=>
    obtain ⟨q,n,p,r,rfl,hc,hr⟩:=ZV hk;exact zeM (hc X) (sA hcf hm a X c x ok h.1).1 (sPs hcf hm es X c vals ks r ok h.2 hr (by simpa using hl))
theorem sKs (hcf:CfN B (cx noX)) (hm:Mono (cx noX)):∀ (es:List E) (X:Cx) (c:Cc) (kws:List cY),XOk Γ B (spN Γ cx) k X c->zgc B c es kws=true->PK X kws (TXs Γ (cx noX) es)
 | [],X,c,xs,ok,h=>by
  cases xs with
  | nil=>exact zhh
  | cons _ _=>exact nobE h
 | e::es,X,c,xs,ok,h=>by
  cases xs with
  | nil=>exact nobE h
  | cons q xs=>
   obtain ⟨n,x,kp⟩:=q;cases n with
   | none=>exact nobE h
   | some n=>
    have h:(chkE B c e x&&zgc B c es xs)=true:=h;rw [ζ] at h;exact zeN (sA hcf hm e X c x ok h.1).1 (sKs hcf hm es X c xs ok h.2)
theorem sI (hcf:CfN B (cx noX)) (hm:Mono (cx noX)):∀ (e:E) (X:Cx) (c:Cc) (tgt x:Expr),XOk Γ B (spN Γ cx) k X c->chkI B c e tgt x=true->PI X tgt x (TXi Γ (cx noX) e)
 | .seq e,X,c,tgt,x,ok,h=>zjL ok.hK (sA hcf hm e X c x ok h).1
 | .keys e,X,c,tgt,x,ok,h=>zhi (sA hcf hm e X c x ok h).1
 | .rng none hi,X,c,tgt,x,ok,h=>by
  have hb:Μ x.ctorIdx 16=true:=by revert h;cases x <;> first | exact non | exact fun _=>rfl
  revert h;apply je hb;clear hb;intro q args kws pos h;have hb:Μ q.ctorIdx 23=true:=by revert h;cases q <;> first | exact non | exact fun _=>rfl
  revert h;apply ur hb;clear hb;intro n p h;cases kws with
  | nil=>
   match args,h with
   | [y],h=>
    have h:(n==("range":Str)&&B.bare.contains n&&gloK (c.names.lookup n)&&chkE B c hi y&&notStar y)=true:=h;simp only [ζ] at h;obtain ⟨⟨⟨⟨h1,h2⟩,h3⟩,h4⟩,h5⟩:=h;have e1:=eq_of_beq h1;subst e1;exact zg9 (ok.glob h3) (ok.bare _ (Ϥ.mp h2)) h5 (sA hcf hm hi X c y ok h4).1
   | [],h=>exact nobE h
   | _::_::_,h=>exact nobE h
  | cons _ _=>rcases args with _ | ⟨_,_ | ⟨_,_ | ⟨_,_⟩⟩⟩ <;> exact nobE h
 | .rng (some lo) hi,X,c,tgt,x,ok,h=>by
  have hb:Μ x.ctorIdx 16=true:=by revert h;cases x <;> first | exact non | exact fun _=>rfl
  revert h;apply je hb;clear hb;intro q args kws pos h;have hb:Μ q.ctorIdx 23=true:=by revert h;cases q <;> first | exact non | exact fun _=>rfl
  revert h;apply ur hb;clear hb;intro n p h;cases kws with
  | nil=>
   match args,h with
   | [x,y],h=>
    have h:(n==("range":Str)&&B.bare.contains n&&gloK (c.names.lookup n)&&chkE B c lo x&&notStar x&&chkE B c hi y&&notStar y)=true:=h;simp only [ζ] at h;obtain ⟨⟨⟨⟨⟨⟨h1,h2⟩,h3⟩,h4⟩,h5⟩,h6⟩,h7⟩:=h;have e1:=eq_of_beq h1;subst e1;exact zg8 (ok.glob h3) (ok.bare _ (Ϥ.mp h2)) h5 h7 (sA hcf hm lo X c x ok h4).1 (sA hcf hm hi X c y ok h6).1
   | [],h=>exact nobE h
   | [_],h=>exact nobE h
   | _::_::_::_,h=>exact nobE h
  | cons _ _=>rcases args with _ | ⟨_,_ | ⟨_,_ | ⟨_,_⟩⟩⟩ <;> exact nobE h
 | .enum e,X,c,tgt,x,ok,h=>by
  have hb:Μ x.ctorIdx 16=true:=by revert h;cases x <;> first | exact non | exact fun _=>rfl
  revert h;apply je hb;clear hb;intro q args kws pos h;have hb:Μ q.ctorIdx 23=true:=by revert h;cases q <;> first | exact non | exact fun _=>rfl
  revert h;apply ur hb;clear hb;intro n p h;cases kws with
  | nil=>
   match args,h with
   | [y],h=>
    have h:(zd5 tgt&&n==("enumerate":Str)&&B.bare.contains n&&gloK (c.names.lookup n)&&chkE B c e y&&notStar y)=true:=h;simp only [ζ] at h;obtain ⟨⟨⟨⟨⟨h0,h1⟩,h2⟩,h3⟩,h4⟩,h5⟩:=h;have e1:=eq_of_beq h1;subst e1;cases tgt with
    | Tuple elts kk tp=>exact zhk ok.hK (ok.glob h3) (ok.bare _ (Ϥ.mp h2)) h5 (sA hcf hm e X c y ok h4).1
    | _=>exact nobE h0
   | [],h=>exact nobE h
   | _::_::_,h=>exact nobE h
  | cons _ _=>rcases args with _ | ⟨_,_ | ⟨_,_⟩⟩ <;> exact nobE h
 | .var _,X,c,tgt,x,ok,h=>nobE h
 | .con _,X,c,tgt,x,ok,h=>nobE h
 | .glo _ _,X,c,tgt,x,ok,h=>nobE h
 | .bin _ _ _,X,c,tgt,x,ok,h=>nobE h
 | .neg _,X,c,tgt,x,ok,h=>nobE h
 | .cmp _ _ _,X,c,tgt,x,ok,h=>nobE h
 | .chn _ _ _ _ _,X,c,tgt,x,ok,h=>nobE h
 | .not _,X,c,tgt,x,ok,h=>nobE h
 | .and _ _,X,c,tgt,x,ok,h=>nobE h
 | .or _ _,X,c,tgt,x,ok,h=>nobE h
 | .ite _ _ _,X,c,tgt,x,ok,h=>nobE h
 | .tup _,X,c,tgt,x,ok,h=>nobE h
 | .lst _,X,c,tgt,x,ok,h=>nobE h
 | .dic _ _ _,X,c,tgt,x,ok,h=>nobE h
 | .sub _ _,X,c,tgt,x,ok,h=>nobE h
 | .slc _ _ _,X,c,tgt,x,ok,h=>nobE h
 | .bi _ _,X,c,tgt,x,ok,h=>nobE h
 | .mth _ _ _,X,c,tgt,x,ok,h=>nobE h
 | .call _ _,X,c,tgt,x,ok,h=>nobE h
 | .callk _ _ _,X,c,tgt,x,ok,h=>nobE h
 | .callv _ _,X,c,tgt,x,ok,h=>nobE h
 | .comp _ _ _ _ _,X,c,tgt,x,ok,h=>nobE h
 | .box _,X,c,tgt,x,ok,h=>nobE h
 | .one _,X,c,tgt,x,ok,h=>nobE h
 | .flip _,X,c,tgt,x,ok,h=>nobE h
 | .dk1 _ _,X,c,tgt,x,ok,h=>nobE h
 | .att _ _ _,X,c,tgt,x,ok,h=>nobE h
 | .met _ _ _ _,X,c,tgt,x,ok,h=>nobE h
 | .mk _ _ _,X,c,tgt,x,ok,h=>nobE h
 | .zip _ _,X,c,tgt,x,ok,h=>nobE h
 | .dwn es,X,c,tgt,x,ok,h=>nobE h
 | .rev hi,X,c,tgt,x,ok,h=>nobE h
 | .items e,X,c,tgt,x,ok,h=>nobE h
theorem sFs (hcf:CfN B (cx noX)) (hm:Mono (cx noX)):∀ (es:List E) (X:Cx) (c:Cc) (xs:List Expr),XOk Γ B (spN Γ cx) k X c->jy B c es xs=true->es.length<=1->PTs X xs (TXf Γ (cx noX) es)
 | [],X,c,xs,ok,h,_=>by
  cases xs with
  | nil=>exact s_fn
  | cons _ _=>exact nobE h
 | [e],X,c,xs,ok,h,_=>by
  cases xs with
  | nil=>exact nobE h
  | cons x xs=>
   have h:(chkE B c e x&&jy B c [] xs)=true:=h;rw [ζ] at h;cases xs with
   | nil=>exact s_f1 (sA hcf hm e X c x ok h.1).2.1
   | cons _ _=>cases (show false=true from h.2)
 | _::_::_,X,c,xs,ok,h,hl=>by exfalso;simp at hl
theorem sO (hcf:CfN B (cx noX)) (hm:Mono (cx noX)):∀ (o:Option E) (X:Cx) (c:Cc) (x:Option Expr),XOk Γ B (spN Γ cx) k X c->chkO B c o x=true->PO X x (TXo Γ (cx noX) o)
 | none,X,c,x,ok,h=>by
  cases x with
  | none=>exact zjN
  | some _=>exact nobE h
 | some o,X,c,x,ok,h=>by
  cases x with
  | none=>exact nobE h
  | some x=>exact s_po (sA hcf hm o X c x ok h).1
end
theorem sCS (hcf:CfN B (cx noX)) (hm:Mono (cx noX)) {t:T}{js:List Nat}{it:E}{ifs:List E}{elt:E}{X:Cx}{c:Cc}{x:Expr}(ok:XOk Γ B (spN Γ cx) k X c) (h:chkE B c (.comp t js it ifs elt) x=true):CSet X x (TX Γ (cx noX) (.comp t js it ifs elt)):=by
 have hb:Μ x.ctorIdx 8=true:=by revert h;cases x <;> first | exact non | exact fun _=>rfl
 revert h;apply ZC hb;clear hb;intro y gens sc pos h
 match gens,h with
 | [⟨tgt,iter,cs,kk⟩],h=>exact (WX (sI hcf hm it) (sFs hcf hm ifs) (fun X c x ok q=>(sA hcf hm elt X c x ok q).1) ok h).2
 | [],h=>exact nobE h
 | ⟨_,_,_,_⟩::⟨_,_,_,_⟩::_,h=>exact nobE h
end
section
variable {X:Cx}{Γ:Gm}{Hz H:Hp}{gz g:G}{ρ:List Slot}{σ:L2.St}{S:Store}{x:Expr}{a:Addr}
theorem EnvO.Kq {i:Nat}{c c':D}{o':HO}(env:EnvO Γ Hz H g ρ σ) (hi:ρ[i]?=some (.ow c)) (ha:σ[i]?=some (some (.ref a))) (hc:z9 Γ (upd H a o') g a c') (hin:WF c'=false):EnvO Γ Hz (upd H a o') g (ρ.set i (.ow c')) σ:=by
 obtain ⟨a',e1,e2,e3,e4,e5,e6⟩:=env.ow i c hi;rw [ha] at e1;cases e1;refine ⟨by rw [aq];exact env.len,fun j e q=>?_,fun j e q=>?_,fun j j' e e' b q1 q2 q3 q4=>?_⟩
 ·rcases zA q with ⟨rfl,h1,h2⟩ | ⟨h1,h2⟩
  ·cases h2
  ·exact env.sh j e h2
 ·rcases zA q with ⟨rfl,h1,h2⟩ | ⟨h1,h2⟩
  ·cases h2;exact ⟨a,ha,e2,e3,e4,hc,hin⟩
  ·obtain ⟨b,f1,f2,f3,f4,f5,f6⟩:=env.ow j e h2;have hb:b≠a:=by rintro rfl;exact h1 (env.inj i j c e b hi h2 ha f1)
   exact ⟨b,f1,f2,f3,f4,f5.mono (Le.refl g) fun o z=>by rw [zp hb];exact z,f6⟩
 ·have ow:∀ {j:Nat}{e:D},(ρ.set i (Slot.ow c'))[j]?=some (.ow e)->∃ e,ρ[j]?=some (.ow e):=fun {j e} q=>by
   rcases zA q with ⟨rfl,h1,h2⟩ | ⟨h1,h2⟩
   ·exact ⟨c,hi⟩
   ·exact ⟨e,h2⟩
  obtain ⟨_,w1⟩:=ow q1;obtain ⟨_,w2⟩:=ow q2;exact env.inj j j' _ _ b w1 w2 q3 q4
theorem Step.J5 {H':Hp}{g':G}{o':HO}(s:Step H g H' g') (ha:a∈g'.α):Step H g (upd H' a o') g' where
 le:=s.le
 fr:=fun b u e n=>by
  have hb:b≠a:=by
   rintro rfl;rcases s.na b ha with q | q
   ·exact n q
   ·rw [e] at q;cases q
  rw [zp hb];exact s.fr b u e n
 ex:=fun b u e=>by
  by_cases hb:b=a
  ·subst hb;exact ⟨o',zg⟩
  ·rw [zp hb];exact s.ex b u e
 na:=s.na
 nr:=s.nr
theorem WOk.J5 {o':HO}{n:Nat}{c c':D}(w:WOk Γ H g S) (he:S[n]?=some c) (hg:gone c=false) (hn:g.α[n]?=some a) (hc:z9 Γ (upd H a o') g a c'):WOk Γ (upd H a o') g (S.set n c') where
 rh:=fun b u q=>by
  have hb:b≠a:=by rintro rfl;rw [w.off n c b he hn hg] at q;cases q
  rw [zp hb];exact w.rh b u q
 len:=by rw [aq];exact w.len
 nd:=w.nd
 off:=fun k d b h1 h2 h3=>by
  rcases zA h1 with ⟨rfl,z1,rfl⟩ | ⟨z1,z2⟩
  ·rw [hn] at h2;cases h2;exact w.off _ c _ he hn hg
  ·exact w.off k d b z2 h2 h3
 cell:=fun k c b h1 h2=>by
  rcases zA h1 with ⟨rfl,z1,rfl⟩ | ⟨z1,z2⟩
  ·rw [hn] at h2;cases h2;exact hc
  ·have hb:b≠a:=by rintro rfl;exact z1 ((nodup_inj w.nd hn h2))
   exact (w.cell k c b z2 h2).mono (Le.refl g) fun o z=>by rw [zp hb];exact z
where
 nodup_inj:∀ {l:List Addr}{i j:Nat}{b:Addr},l.Nodup->l[i]?=some b->l[j]?=some b->i=j:=fun {l i j b} nd h1 h2=>by
  have hi:=(Ι.mp h1).1;have hj:=(Ι.mp h2).1;have e:l[i]?=l[j]?:=by rw [h1,h2]
  exact (oM hi nd).mp e
theorem size_of {n:Nat}(h:fits (n+1)=true):n < sizeLine:=by have:=wL h;lia
theorem zbl {env:Env}{cpos:Pos}(hs:notStar x=true):((eU cpos (Ϣ [x] env)).all (fun x=>!x.1)&&(backToKw cpos (iG [] env)).all (fun x=>x.1.isSome)
  &&decide (([x]:List Expr).length+([]:List cY).length+(if ([]:List cY).isEmpty then 0 else 1) < 30))=true:=by rw [zc hs];rfl
theorem zc3 {ds:List D}{vs:List V}(h:Hass Γ g ds vs):Hass Γ g ds.dropLast vs.dropLast:=by
 have hl:=h.len;refine Hass.of (by rw [bO,bO,hl]) fun j d v e1 e2=>?_
 have hj:j < ds.dropLast.length:=(Ι.mp e1).1;rw [bO] at hj;rw [nu,if_pos hj] at e1;rw [nu,if_pos (by rw [hl];exact hj)] at e2;obtain ⟨u,e3,e4⟩:=h.get e1;rw [e3] at e2;cases e2;exact e4
end
section
variable {κ:Type} [DecidableEq κ]
theorem JH {α:Type}:∀ (ks:List κ) (ds:List α) (k:κ) (d:α),(mapK ks ds k d).length=ds.length
 | [],ds,_,_=>by cases ds <;> rfl
 | _::_,[],_,_=>rfl
 | a::ks,b::ds,k,d=>by simp [mapK,JH ks ds k d]
theorem Qk:∀ (ks:List κ) (vs:List V) (k:κ),ks.length=vs.length->((ks.zip vs).any fun kv=>decide (kv.1=k))=hasK ks k
 | [],[],_,_=>rfl
 | a::ks,v::vs,k,h=>by have:=Qk ks vs k (by simpa using h);unfold hasK at this ⊢;simp only [cz,dU,this]
 | [],_::_,_,h=>by simp at h
 | _::_,[],_,h=>by simp at h
theorem Qj:∀ (ks:List κ) (vs:List V) (k:κ) (v:V),(ks.zip vs).map (fun kv=>if kv.1=k then (kv.1,v) else kv)=ks.zip (mapK ks vs k v)
 | [],vs,_,_=>by cases vs <;> rfl
 | _::_,[],_,_=>rfl
 | a::ks,u::vs,k,v=>by
  have:=Qj ks vs k v;simp only [cz,ϒ,this,mapK];by_cases h:a=k
  ·simp [h]
  ·simp [h]
theorem Jv {ks:List κ}{vs:List V}{k:κ}{v:V}(h:ks.length=vs.length):putK (ks.zip vs) k v=(yu ks vs k v).1.zip (yu ks vs k v).2:=by
 unfold putK yu;rw [Qk ks vs k h];by_cases q:hasK ks k=true
 ·rw [if_pos q,if_pos q,Qj]
 ·rw [if_neg q,if_neg q];simp [List.zip_append h]
theorem X8 {α:Type}{ks:List κ}{ds:List α}{k:κ}{d:α}(h:ks.length=ds.length):(yu ks ds k d).1.length=(yu ks ds k d).2.length:=by
 unfold yu;split
 ·simp [JH,h]
 ·simp [h]
theorem WK {Γ:Gm}{g:G}:∀ {ks:List κ}{ds:List D}{vs:List V}{k:κ}{d:D}{v:V},Hass Γ g ds vs->Has Γ g d v->Hass Γ g (mapK ks ds k d) (mapK ks vs k v)
 | [],ds,vs,_,_,_,h,_=>by
  have e1:mapK ([]:List κ) ds=fun _ _=>ds:=by funext a b;cases ds <;> rfl
  have e2:mapK ([]:List κ) vs=fun _ _=>vs:=by funext a b;cases vs <;> rfl
  rw [e1,e2];exact h
 | _::_,[],vs,_,_,_,h,_=>by cases (show vs=[] from h);exact rfl
 | a::ks,b::ds,_,k,d,v,⟨u,r,e,h1,h2⟩,hd=>by
  subst e;refine ⟨if a=k then v else u,mapK ks r k v,rfl,?_,WK h2 hd⟩;split
  ·exact hd
  ·exact h1
theorem ZM {Γ:Gm}{g:G}{ks:List κ}{ds:List D}{vs:List V}{k:κ}{d:D}{v:V}(h:Hass Γ g ds vs) (hd:Has Γ g d v):Hass Γ g (yu ks ds k d).2 (yu ks vs k v).2:=by
 unfold yu;split
 ·exact WK h hd
 ·exact h.app (Hass.mk1 hd)
theorem Zx {α β:Type}{ks:List κ}{ds:List α}{es:List β}{k:κ}{d:α}{e:β}:(yu ks ds k d).1=(yu ks es k e).1:=by unfold yu;split <;> rfl
end
def zht:TSet:=fun o i v H Q=>zhu o i v H Q\/∃ a H',o=.ref a/\DPut H a i v H'/\Q H'
theorem zeI {X:Cx}(hu:X.A.units+1 < Ϸ):PSet X zht:=by
 intro pJ s σ H o i v ov iv u Q I r1 r2 r3 h;rcases h with h | ⟨a,H',rfl,hp,q⟩
 ·exact set_list pJ s σ H o i v ov iv u Q I r1 r2 r3 h
 ·cases r1;exact zbs hu I hp r2 r3 fun s' I'=>⟨H',I',q⟩
set_option tactic.hygienic true in
theorem zcq {Γ:Gm}{H:Hp}{g:G}{a:Addr}{c c' kd d:D}{vk vd:V}(h:putD c kd d=some c') (hc:z9 Γ H g a c) (sm:Same g.R H) (hk:Has Γ g kd vk) (hd:Has Γ g d vd):
    ∃ o',(∀ Q:Hp->Prop,Q (upd H a o')->zht (.ref a) vk vd H Q)/\z9 Γ (upd H a o') g a c'/\WF c'=false:=by
  cases c with
  | lst l=>
   cases kd with
   | int i=>
    have h:(idx l.length i).map (fun k=>D.lst (l.set k d))=some c':=h;cases e:idx l.length i with
    | none=>rw [e] at h;cases h
    | some j=>
      rw [e] at h;cases h;obtain ⟨vs,h1,h2⟩:=hc;cases (show vk=.int i from hk);refine ⟨.lst (vs.set j vd),fun Q q=>.inl ⟨a,vs,i,j,rfl,rfl,h1,by rw [h2.len];exact e,q⟩,⟨_,zg,h2.set j hd⟩,rfl⟩
   | _=>cases h
  | dK ks ds=>
    have h:(keyD kd).bind (fun k=>if fits (ks.length+1) then some (let p:=yu ks ds k d;D.dK p.1 p.2) else none)=some c':=by cases kd <;> exact h
    cases e:keyD kd with
    | none=>rw [e] at h;cases h
    | some k=>
      rw [e] at h;have h:(if fits (ks.length+1)=true then some (D.dK (yu ks ds k d).1 (yu ks ds k d).2) else none)=some c':=h;split at h
      · rename_i hf
        cases h;obtain ⟨vs,h1,h2,h3⟩:=hc;have ek:=JN e hk;subst ek;have el:ks.length=vs.length:=by rw [h3.len];exact h2
        refine ⟨.dK ((yu ks vs k vd).1.zip (yu ks vs k vd).2),fun Q q=>.inr ⟨a,_,rfl,DPut.k h1 (by rw [gC];have:=size_of hf;lia),?_⟩,⟨_,?_,X8 h2,ZM h3 hd⟩,rfl⟩
        · rw [Jv el];exact q
        · rw [zg,Zx (ds:=ds) (es:=vs) (d:=d) (e:=vd)]
      · cases h
  | dT ks ds=>
   cases kd with
   | tup t=>
    have h:(YH t).bind (fun k=>if fits (ks.length+1) then some (let p:=yu ks ds k d;D.dT p.1 p.2) else none)=some c':=h;cases e:YH t with
    | none=>rw [e] at h;cases h
    | some k=>
      rw [e] at h;have h:(if fits (ks.length+1)=true then some (D.dT (yu ks ds k d).1 (yu ks ds k d).2) else none)=some c':=h;split at h
      · rename_i hf
        cases h;obtain ⟨vs,h1,h2,h3⟩:=hc;obtain ⟨b,us,rfl,h4,h5⟩:=hk;have ek:=jK e h5;subst ek;have el:ks.length=vs.length:=by rw [h3.len];exact h2
        refine ⟨.dT ((yu ks vs k vd).1.zip (yu ks vs k vd).2),fun Q q=>.inr ⟨a,_,rfl,DPut.t h1 (sm _ _ h4) (by rw [gC];have:=size_of hf;lia),?_⟩,⟨_,?_,X8 h2,ZM h3 hd⟩,rfl⟩
        · rw [Jv el];exact q
        · rw [zg,Zx (ds:=ds) (es:=vs) (d:=d) (e:=vd)]
      · cases h
   | _=>cases h
  | _=>cases h
structure EN (Γ:Gm) (Hz:Hp) (gz g:G) (E:Ends) (K:Ko):Prop where
 nx:∀ ρ σ H g' S,Step Hz gz H g'->Le g g'->WOk Γ H g' S->EnvO Γ Hz H g' ρ σ->K (.next ρ) S->E.nx σ H
 bk:∀ ρ σ H g' S,Step Hz gz H g'->Le g g'->WOk Γ H g' S->EnvO Γ Hz H g' ρ σ->K (.brk ρ) S->E.bk σ H
 ct:∀ ρ σ H g' S,Step Hz gz H g'->Le g g'->WOk Γ H g' S->EnvO Γ Hz H g' ρ σ->K (.cnt ρ) S->E.ct σ H
 rt:∀ d fr v H g' S,Step Hz gz H g'->Le g g'->WOk Γ H g' S->VOk Γ Hz d fr v H g'->K (.ret d fr) S->E.rt v H
theorem EN.le {Γ:Gm}{Hz:Hp}{gz g g1:G}{E:Ends}{K:Ko}(n:EN Γ Hz gz g E K) (le:Le g g1):EN Γ Hz gz g1 E K:=
 ⟨fun ρ σ H g' S st l=>n.nx ρ σ H g' S st (le.trans l),fun ρ σ H g' S st l=>n.bk ρ σ H g' S st (le.trans l),fun ρ σ H g' S st l=>n.ct ρ σ H g' S st (le.trans l),fun d fr v H g' S st l=>n.rt d fr v H g' S st (le.trans l)⟩
def TK (Γ:Gm) (Hz:Hp) (gz:G) (W:List Slot->Ko->Store->Prop):TS:=fun E σ H=>∃ ρ S K g,W ρ K S/\Step Hz gz H g/\WOk Γ H g S/\EnvO Γ Hz H g ρ σ/\EN Γ Hz gz g E K
theorem goK {Γ:Gm}{Hz:Hp}{gz:G}{W:List Slot->Ko->Store->Prop}{E:Ends}{σ:L2.St}{H:Hp}{P:Prop}(h:TK Γ Hz gz W E σ H) (f:∀ ρ S K g,W ρ K S->Step Hz gz H g->WOk Γ H g S->EnvO Γ Hz H g ρ σ->EN Γ Hz gz g E K->P):P:=
 let ⟨ρ,S,K,g,a,b,c,d,e⟩:=h;f ρ S K g a b c d e
abbrev TC (Γ:Gm) (cx:Xp->Cf) (ex:Xp) (w:Nat) (Hz:Hp) (gz:G) (c:C):TS:=TK Γ Hz gz (wpC cx ex w c)
abbrev TCs (Γ:Gm) (cx:Xp->Cf) (ex:Xp) (w:Nat) (Hz:Hp) (gz:G) (cs:List C):TS:=TK Γ Hz gz (wpCs cx ex w cs)
section
variable {X:Cx}{Γ:Gm}{cx:Xp->Cf}{ex:Xp}{w:Nat}{Hz:Hp}{gz:G}{st:Stmt}{sts aa bb:List Stmt}{x y z tgt o:Expr}{pos p spos:Pos}{e a b:E}{s:C}{ss A B:List C}
theorem Ku {i:Expr}(h:∀ lo hi st p,i≠.Slice lo hi st p) (v:δ) (env:Env):fP (.Subscript o i pos) env v=(do
   let ov <- gf [v] (eval o env)
   let iv <- gf [v,ov] (eval i env)
   standAt pos
   gf [v,ov,iv] (setItem ov iv v)
   release [v,ov,iv] []):=by cases i <;> first | rfl | exact absurd rfl (h _ _ _ _)
theorem zhd:PS X (.Pass pos) (TC Γ cx ex w Hz gz .pass):=ze6.imp fun E σ H h0=>goK h0 fun ρ S K g hw st wk env n=>n.nx ρ σ H g S st (Le.refl g) wk env hw
theorem zj3:PS X (.Break pos) (TC Γ cx ex w Hz gz .brk):=zcu.imp fun E σ H h0=>goK h0 fun ρ S K g hw st wk env n=>n.bk ρ σ H g S st (Le.refl g) wk env hw
theorem zj0:PS X (.Continue pos) (TC Γ cx ex w Hz gz .cnt):=VD.imp fun E σ H h0=>goK h0 fun ρ S K g hw st wk env n=>n.ct ρ σ H g S st (Le.refl g) wk env hw
theorem zg5:PSs X [] (TCs Γ cx ex w Hz gz []):=ze3.imp fun E σ H h0=>goK h0 fun ρ S K g hw st wk env n=>n.nx ρ σ H g S st (Le.refl g) wk env hw
theorem zeL (h1:PS X st (TC Γ cx ex w Hz gz s)) (h2:PSs X sts (TCs Γ cx ex w Hz gz ss)):PSs X (st::sts) (TCs Γ cx ex w Hz gz (s::ss)):=
 (zcs h1 h2).imp fun E σ H h0=>goK h0 fun ρ S K g hw st wk env n=>⟨ρ,S,_,g,hw,st,wk,env,fun ρ' σ' H' g' S' st' le w' env' q=>⟨ρ',S',K,g',q,st',w',env',n.le le⟩,n.bk,n.ct,n.rt⟩
theorem zfZ {H:Hp}{g:G}{ρ:List Slot}{σ:L2.St}{S:Store}{i:Nat}(st:Step Hz gz H g) (wk:WOk Γ H g S) (env:EnvO Γ Hz H g ρ σ):∃ g',Step Hz gz H g'/\Le g g'/\WOk Γ H g' S/\EnvO Γ Hz H g' (ρ.set i (fz ((ρ[i]?).getD .no))) σ:=by
 have same:∀ s,ρ[i]?=some s->ρ.set i s=ρ:=fun s h=>by
  apply oN;intro j;by_cases hj:i=j
  ·subst hj;rw [ϫ (Ι.mp h).1,h]
  ·rw [Θ hj]
 cases e:ρ[i]? with
 | none=>
  refine ⟨g,st,Le.refl g,wk,?_⟩;rw [mR (List.getElem?_eq_none_iff.mp e)];exact env
 | some s=>
  cases s with
  | no=>exact ⟨g,st,Le.refl g,wk,by rw [show fz ((some Slot.no).getD .no)=.no from rfl,same _ e];exact env⟩
  | sh d=>exact ⟨g,st,Le.refl g,wk,by rw [show fz ((some (Slot.sh d)).getD .no)=.sh d from rfl,same _ e];exact env⟩
  | ow d=>
   obtain ⟨a,h1,h2,h3,h4,h5,h6⟩:=env.ow i d e;obtain ⟨ob,ho,_⟩:=h5.WD;have le:Le g (g.put a ob):=Le.put h3;refine ⟨g.put a ob,st.put h3 h2,le,wk.put ho h3 h4,by simp [env.len],fun j d' q=>?_,fun j d' q=>?_,fun j j' d1 d2 b q1 q2 q3 q4=>?_⟩
   ·rcases zA q with ⟨rfl,_,z⟩ | ⟨_,z⟩
    ·cases z;exact ⟨.ref a,h1,ZP h3 ho h5⟩
    ·obtain ⟨v,f1,f2⟩:=env.sh j d' z;exact ⟨v,f1,f2.mono le⟩
   ·rcases zA q with ⟨rfl,_,z⟩ | ⟨hne,z⟩
    ·cases z
    ·obtain ⟨b,f1,f2,f3,f4,f5,f6⟩:=env.ow j d' z;have hb:b≠a:=by rintro rfl;exact hne (env.inj i j d d' b e z h1 f1)
     exact ⟨b,f1,f2,by show upd g.R a ob b=none;rw [zp hb];exact f3,f4,f5.mono le fun _ z=>z,f6⟩
   ·rcases zA q1 with ⟨_,_,z⟩ | ⟨_,z1⟩
    ·cases z
    rcases zA q2 with ⟨_,_,z⟩ | ⟨_,z2⟩
    ·cases z
    exact env.inj j j' d1 d2 b z1 z2 q3 q4
theorem zf0 {H:Hp}{g:G}{ρ:List Slot}{σ:L2.St}{S:Store}{i k:Nat}{l:List D}(st:Step Hz gz H g) (wk:WOk Γ H g S) (env:EnvO Γ Hz H g ρ σ) (hi:ρ[i]?=some (.sh (.ref k))) (hk:S[k]?=some (.lst l)):
  ∃ g',Step Hz gz H g'/\Le g g'/\WOk Γ H g' (S.set k (.ref k))/\EnvO Γ Hz H g' (ρ.set i (.sh (.lst l))) σ:=by
 obtain ⟨v,h1,a,ha,e⟩:=env.sh i _ hi;subst e;have hn:g.R a=none:=wk.off k _ a hk ha rfl;obtain ⟨vs,ho,hv⟩:=wk.cell k _ a hk ha;have le:Le g (g.put a (.lst vs)):=Le.put hn;have hr:(g.put a (.lst vs)).R a=some (.lst vs):=zg;refine ⟨g.put a (.lst vs),⟨st.le.trans le,st.fr,st.ex,st.na,fun b q=>?_⟩,le,⟨fun b u q=>?_,by rw [aq];exact wk.len,wk.nd,fun j c b q1 q2 q3=>?_,fun j c b q1 q2=>?_⟩,by simp [env.len],fun j d' q=>?_,fun j d' q=>?_,fun j j' d1 d2 b q1 q2 q3 q4=>?_⟩
 ·by_cases hb:b=a
  ·subst hb;rcases st.na b (ϴ ha) with z | z
   ·exact .inr (.inr (.inl z))
   ·exact .inr (.inl z)
  ·have q':upd g.R a (.lst vs) b≠none:=q;rw [zp hb] at q';exact st.nr b q'
 ·have q':upd g.R a (.lst vs) b=some u:=q;by_cases hb:b=a
  ·subst hb;rw [zg] at q';cases q';exact ho
  ·rw [zp hb] at q';exact wk.rh b u q'
 ·rcases zA q1 with ⟨rfl,_,z⟩ | ⟨hne,z⟩
  ·rw [z] at q3;cases q3
  ·show upd g.R a (.lst vs) b=none
   have hb:b≠a:=by rintro rfl;exact hne (WOk.J5.nodup_inj wk.nd ha q2)
   rw [zp hb];exact wk.off j c b z q2 q3
 ·rcases zA q1 with ⟨rfl,_,z⟩ | ⟨hne,z⟩
  ·have q2:g.α[k]?=some b:=q2;rw [ha] at q2;cases q2;rw [z];exact ⟨_,hr,ho,ϳ⟩
  ·exact (wk.cell j c b z q2).mono le fun _ z=>z
 ·rcases zA q with ⟨rfl,_,z⟩ | ⟨_,z⟩
  ·cases z;exact ⟨.ref a,h1,a,vs,rfl,hr,hv.mono le⟩
  ·obtain ⟨v,f1,f2⟩:=env.sh j d' z;exact ⟨v,f1,f2.mono le⟩
 ·rcases zA q with ⟨rfl,_,z⟩ | ⟨hne,z⟩
  ·cases z
  ·obtain ⟨b,f1,f2,f3,f4,f5,f6⟩:=env.ow j d' z;have hb:b≠a:=by rintro rfl;exact f4 (ϴ ha)
   exact ⟨b,f1,f2,by show upd g.R a (.lst vs) b=none;rw [zp hb];exact f3,f4,f5.mono le fun _ z=>z,f6⟩
 ·rcases zA q1 with ⟨_,_,z⟩ | ⟨_,z1⟩
  ·cases z
  rcases zA q2 with ⟨_,_,z⟩ | ⟨_,z2⟩
  ·cases z
  exact env.inj j j' d1 d2 b z1 z2 q3 q4
theorem zjW {i:Nat}(h2:PSs X sts (TCs Γ cx ex w Hz gz ss)):PSs X sts (TCs Γ cx ex w Hz gz (.frr i::ss)):=
 h2.imp fun E σ H h0=>goK h0 fun ρ S K g hw st wk env n=>by obtain ⟨k,l,e1,e2,hw⟩:=zd7 hw;obtain ⟨g',st',le,w',env'⟩:=zf0 st wk env e1 e2;exact ⟨_,_,K,g',hw,st',w',env',n.le le⟩
theorem zjV {i:Nat}(h2:PSs X sts (TCs Γ cx ex w Hz gz ss)):PSs X sts (TCs Γ cx ex w Hz gz (.frz i::ss)):=
 h2.imp fun E σ H h0=>goK h0 fun ρ S K g hw st wk env n=>by obtain ⟨g',st',le,w',env'⟩:=zfZ (i:=i) st wk env;exact ⟨_,S,K,g',hw,st',w',env',n.le le⟩
theorem zjX {i:Nat}(h2:PSs X sts (TCs Γ cx ex w Hz gz ss)):PSs X sts (TCs Γ cx ex w Hz gz (.frk i::ss)):=by
 intro pJ s σ H E I h0;refine goK h0 fun ρ S K g hw st wk env n=>?_
 obtain ⟨ks,ds,e,hw⟩:=zdS hw;obtain ⟨a,h1,h2',h3,h4,⟨vs,hH,hlen,hv⟩,h6⟩:=env.ow i _ e;have hob:=(show z8 X.prog X.w H s.heap a (.dT (ks.zip vs)) from I.hok a _ hH)
 obtain ⟨_,_,_,_,o,_,_,g1,_⟩:=id hob;have I4:=Y9 (a:=a) (h':=s.heap) (t':=s.toks) (ob:=.frz o (.dT (ks.zip vs))) I (by rw [hH];exact ϳ) (gJ a _) ⟨o,g1⟩
  ⟨g1,hob.stay (fun b u _ e=>e) (fun b e=>by
   have hb:b≠a:=by rintro rfl;rw [hH] at e;cases e
   rw [zp hb];exact e) fun b ys e=>by
   have hb:b≠a:=by rintro rfl;rw [hH] at e;cases e
   rw [zp hb];exact e⟩
 have le:Le g (g.put a (.frz o (.dT (ks.zip vs)))):=Le.put h3;refine h2 pJ s σ _ E I4 ⟨_,S,K,g.put a (.frz o (.dT (ks.zip vs))),hw,(st.zP h2').put h3 h2',(wk.zP h3 h4).put zg h3 h4,⟨by simp [env.len],fun j d' q=>?_,fun j d' q=>?_,fun j j' d1 d2 b q1 q2 q3 q4=>?_⟩,n.le le⟩
 ·rcases zA q with ⟨rfl,_,z⟩ | ⟨_,z⟩
  ·cases z;exact ⟨.ref a,h1,a,vs,o,rfl,zg,hlen,hv.mono le⟩
  ·obtain ⟨v,f1,f2⟩:=env.sh j d' z;exact ⟨v,f1,f2.mono le⟩
 ·rcases zA q with ⟨rfl,_,z⟩ | ⟨hne,z⟩
  ·cases z
  ·obtain ⟨b,f1,f2,f3,f4,f5,f6⟩:=env.ow j d' z;have hb:b≠a:=by rintro rfl;exact hne (env.inj i j _ d' b e z h1 f1)
   exact ⟨b,f1,f2,by show upd g.R a _ b=none;rw [zp hb];exact f3,f4,f5.mono le fun _ z=>by rw [zp hb];exact z,f6⟩
 ·rcases zA q1 with ⟨_,_,z⟩ | ⟨_,z1⟩
  ·cases z
  rcases zA q2 with ⟨_,_,z⟩ | ⟨_,z2⟩
  ·cases z
  exact env.inj j j' d1 d2 b z1 z2 q3 q4
theorem zhj (h:PE X x (TX Γ (cx noX) e)) (hs:gM x none pos.line X.env=pure false):PS X (.Expr x pos) (TC Γ cx ex w Hz gz (.expr e)):=
 (Ys h hs).imp fun E σ H h0=>goK h0 fun ρ S K g hw st wk env n=>⟨ρ,S,_,g,Hz,hw,wk,env,fun x v H1 g1 S1 s1 w1 vx q=>n.nx ρ σ H1 g1 S1 (st.trans s1) s1.le w1 (zr env s1) q⟩
theorem zjM (hn:∀ i,e≠.var i) (h:PE X x (TX Γ (cx noX) e)):PS X (.Return (some x) pos) (TC Γ cx ex w Hz gz (.ret e)):=
 (zdO h).imp fun E σ H h0=>goK h0 fun ρ S K g hw st wk env n=>by
  have hw:wpE (cx noX) ρ e (fun x S1=>retV x fun o=>K o S1) S:=by cases e <;> first | exact absurd rfl (hn _) | exact hw
  refine ⟨ρ,S,_,g,Hz,hw,wk,env,fun x v H1 g1 S1 s1 w1 vx q=>?_⟩;obtain ⟨d,k⟩:=x;cases k with
  | st=>exact n.rt d false v H1 g1 S1 (st.trans s1) s1.le w1 vx q
  | fr=>exact n.rt d true v H1 g1 S1 (st.trans s1) s1.le w1 (vx.back st) q
  | bo=>exact q.elim
theorem zha {i:Nat}{n:Str}(hN:X.N[i]?=some n) (hv:Vis X.env.scope n) (hd:(n==("__debug__":Str))=false) (hcd:(n==("__classdict__":Str))=false):PS X (.Return (some (.Name n p)) pos) (TC Γ cx ex w Hz gz (.ret (.var i))):=
 (zdO (kO hN hv hd hcd)).imp fun E σ H h0=>goK h0 fun ρ S K g hw st wk env n=>by
  have hw:sel ρ[i]? (fun d=>K (.ret d false) S) (fun d=>K (.ret d true) S):=hw;cases e:ρ[i]? with
  | none=>rw [e] at hw;exact hw.elim
  | some s=>
   rw [e] at hw;cases s with
   | no=>exact hw.elim
   | sh d=>
    obtain ⟨v,h1,h2⟩:=env.sh i d e;exact ⟨v,h1,n.rt d false v H g S st (Le.refl g) wk h2 hw⟩
   | ow d=>
    obtain ⟨a,h1,h2,h3,h4,h5,h6⟩:=env.ow i d e;exact ⟨.ref a,h1,n.rt d true _ H g S st (Le.refl g) wk ⟨a,rfl,h2,h3,h4,h5⟩ hw⟩
theorem zhb:PS X (.Return none pos) (TC Γ cx ex w Hz gz .retN):=ze4.imp fun E σ H h0=>goK h0 fun ρ S K g hw st wk env n=>n.rt .non false .non H g S st (Le.refl g) wk rfl hw
theorem s_if (h:PT X x (TB Γ (cx noX) e)) (ha:PSs X aa (TCs Γ cx ex w Hz gz A)) (hb:PSs X bb (TCs Γ cx ex w Hz gz B)):PS X (.If x aa bb pos) (TC Γ cx ex w Hz gz (.ite e A B)):=
 (zkf h ha hb).imp fun E σ H h0=>goK h0 fun ρ S K g hw st wk env n=>⟨ρ,S,_,g,Hz,hw,wk,env,fun x H1 g1 S1 s1 w1 h=>by
  obtain ⟨r,e,q⟩:=uw h;rw [e];show (if r=true then _ else _)
  cases r with
  | true=>exact iteT ⟨ρ,S1,K,g1,q,st.trans s1,w1,zr env s1,n.le s1.le⟩
  | false=>exact iteF ⟨ρ,S1,K,g1,q,st.trans s1,w1,zr env s1,n.le s1.le⟩⟩
theorem fresh_ne {H:Hp}{g:G}{ρ:List Slot}{σ:L2.St}{v:V}{d:D}{H1:Hp}{g1:G}(env:EnvO Γ Hz H g ρ σ) (vx:VN Γ H (d,.fr) v H1 g1):∀ (i:Nat) (d:D),ρ[i]?=some (.ow d)->σ[i]?≠some (some v):=fun i d' hi e=>by obtain ⟨a,rfl,h0,_⟩:=vx;obtain ⟨b,f1,_,_,_,f5,_⟩:=env.ow i d' hi;rw [f1] at e;cases e;obtain ⟨o,ho,_⟩:=f5.WD;rw [h0] at ho;cases ho
theorem Q5 {H H1:Hp}{g g1:G}{ρ ρ2:List Slot}{σ:L2.St}{S1:Store}{t:T}{x:Vl}{v:V}{E:Ends}{K:Ko}(st:Step Hz gz H g) (env:EnvO Γ Hz H g ρ σ) (n:EN Γ Hz gz g E K) (s1:Step H g H1 g1) (w1:WOk Γ H1 g1 S1) (vx:VN Γ H x v H1 g1) (hb:Zg ρ t x=some ρ2) (q:K (.next ρ2) S1):tgOf X.K t v σ H1 fun σ' H'=>E.nx σ' H':=by
 have env1:=zr env s1;obtain ⟨d,k⟩:=x;cases k with
 | st=>exact jZ (fr:=false) hb env1 w1.rh vx (fun h=>by cases h) fun σ' env'=>n.nx _ σ' H1 g1 S1 (st.trans s1) s1.le w1 env' q
 | fr=>exact jZ (fr:=true) hb env1 w1.rh (vx.back st) (fun _=>fresh_ne env vx) fun σ' env'=>n.nx _ σ' H1 g1 S1 (st.trans s1) s1.le w1 env' q
 | bo=>cases hb
noncomputable def zfv:E->Bool
 | .box _=>false
 | _=>true
theorem zdE {ρ:List Slot}{t:T}{K:Ko}{S:Store}(hn:zfv e=true) (hw:wpC cx ex w (.set t e) ρ K S):wpE (cx noX) ρ e (fun x S1=>opt (Zg ρ t x) fun ρ2=>K (.next ρ2) S1) S:=by cases e <;> first | exact hw | cases hn
theorem zjK {t:T}(hn:zfv e=true) (h:PE X x (TX Γ (cx noX) e)) (hg:PG X tgt (tgOf X.K t)) (hs:cR [tgt] x pos.line X.env=pure false) (hw:cg [tgt] x X.env=pure none) (ha:(aV [tgt] X.env).map (·.2)=[fP tgt X.env]):PS X (.Assign [tgt] x pos) (TC Γ cx ex w Hz gz (.set t e)):=
 (Jw h hg hs hw ha).imp fun E σ H h0=>goK h0 fun ρ S K g hw st wk env n=>⟨ρ,S,_,g,Hz,zdE hn hw,wk,env,fun x v H1 g1 S1 s1 w1 vx q=>by
  obtain ⟨ρ2,hb,q⟩:=yd q
  exact Q5 (X:=X) st env n s1 w1 vx hb q⟩
theorem zg7 {t:T}(h:PE X x (TX Γ (cx noX) e)) (hg:PG X tgt (tgOf X.K t)) (hs:cR [tgt] x pos.line X.env=pure false) (hw:cg [tgt] x X.env=pure none) (ha:(aV [tgt] X.env).map (·.2)=[fP tgt X.env]):PS X (.Assign [tgt] x pos) (TC Γ cx ex w Hz gz (.set t (.box e))):=
 (Jw h hg hs hw ha).imp fun E σ H h0=>goK h0 fun ρ S K g hw st wk env n=>⟨ρ,S,_,g,Hz,hw,wk,env,fun x v H1 g1 S1 s1 w1 vx q=>by
  obtain ⟨d,k⟩:=x;cases k with
  | fr=>
   obtain ⟨ρ2,hb,q⟩:=yd q;obtain ⟨g2,s2,w2,h2⟩:=zjd s1 w1 vx;exact Q5 (X:=X) (x:=(.ref S1.length,.st)) st env n s2 w2 h2 hb q
  | _=>exact q.elim⟩
theorem zg6 {t:T}{js:List Nat}{it elt:E}{ifs:List E}{i:Nat}{n:Str}{np:Pos}(h:CSet X x (TX Γ (cx noX) (.comp t js it ifs elt))) (hp:PG X (.Name n np) (WM i)) (hsw:gM x (some (.Name n np)) pos.line X.env=pure true):PS X (.Assign [.Name n np] x pos) (TC Γ cx ex w Hz gz (.set (.one i) (.comp t js it ifs elt))):=
 (h n np pos i hp hsw).imp fun E σ H h0=>goK h0 fun ρ S K g hw st wk env n=>⟨ρ,S,_,g,Hz,zdE rfl hw,wk,env,fun x v H1 g1 S1 s1 w1 vx q=>by
  obtain ⟨ρ2,hb,q⟩:=yd q
  exact Q5 (X:=X) (t:=.one i) st env n s1 w1 vx hb q⟩
theorem zeK (ht:PT X x (TB Γ (cx noX) e)) (hb:PSs X aa (TCs Γ cx ex w Hz gz A)) (hp:iW (Φ X.prog X.w) X.A X.env X.xe):PS X (.While x aa [] pos) (TC Γ cx ex w Hz gz (.whl e A)):=
 (zct hp ht hb).imp fun E σ H h0=>goK h0 fun ρ S K g hw st wk env n=>by
  have hw:whlW (fun ρ=>wpE (cx noX) ρ e) (fun ρ=>wpCs cx ex w A ρ) w ρ K S:=hw;refine ⟨fun m σ H=>∃ ρ S g1,whlW (fun ρ=>wpE (cx noX) ρ e) (fun ρ=>wpCs cx ex w A ρ) m ρ K S/\Step Hz gz H g1/\Le g g1/\WOk Γ H g1 S/\EnvO Γ Hz H g1 ρ σ,⟨w,ρ,S,g,hw,st,Le.refl g,wk,env⟩,?_⟩;rintro m σ H ⟨ρ,S,g1,hw,st,le,wk,env⟩;cases m with
  | zero=>exact hw.elim
  | succ m=>
   refine ⟨ρ,S,_,g1,Hz,hw,wk,env,fun x H2 g2 S2 s2 w2 h=>?_⟩;obtain ⟨r,e,q⟩:=uw h;rw [e];show (if r=true then _ else _)
   cases r with
   | false=>exact iteF (n.nx ρ σ H2 g2 S2 (st.trans s2) (le.trans s2.le) w2 (zr env s2) q)
   | true=>
    refine iteT ⟨fun σ' H'=>∃ ρ S g1,whlW (fun ρ=>wpE (cx noX) ρ _) (fun ρ=>wpCs cx ex w A ρ) m ρ K S/\Step Hz gz H' g1/\Le g g1/\WOk Γ H' g1 S/\EnvO Γ Hz H' g1 ρ σ',fun σ' H' q=>⟨m,lG m,q⟩,ρ,S2,_,g2,q,st.trans s2,w2,zr env s2,?_⟩;have l2:=le.trans s2.le;exact ⟨fun ρ' σ' H' g' S' st' l w' env' q=>⟨ρ',S',g',q,st',l2.trans l,w',env'⟩,fun ρ' σ' H' g' S' st' l w' env' q=>n.nx ρ' σ' H' g' S' st' (l2.trans l) w' env' q,fun ρ' σ' H' g' S' st' l w' env' q=>⟨ρ',S',g',q,st',l2.trans l,w',env'⟩,fun d fr v H' g' S' st' l w' vo q=>n.rt d fr v H' g' S' st' (l2.trans l) w' vo q⟩
theorem zjY {t:T}{it:E}(hi:PI X tgt x (TXi Γ (cx noX) it)) (hg:PG X tgt (tgOf X.K t)) (hb:PSs X aa (TCs Γ cx ex w Hz gz A)) (hp:iW (Φ X.prog X.w) X.A X.env X.xe) (hc:X.calm=true) (hs:∀ v,bV x X.env v=pure v):PS X (.For tgt x aa [] pos) (TC Γ cx ex w Hz gz (.forr t it A)):=
 (zhC hp hc hi hg hb hs).imp fun E σ H h0=>goK h0 fun ρ S K g hw st wk env n=>⟨ρ,S,_,g,Hz,hw,wk,env,fun l J H1 g1 S1 s1 w1 hJ h1=>by
  refine ⟨fun i m σ H=>m=l.length - i/\i<=l.length/\∃ ρ S g2,forW t (fun ρ=>wpCs cx ex w A ρ) (l.drop i) ρ K S/\Step Hz gz H g2/\Le g1 g2/\WOk Γ H g2 S/\EnvO Γ Hz H g2 ρ σ,⟨_,rfl,Ϯ _,ρ,S1,g1,h1,st.trans s1,Le.refl g1,w1,zr env s1⟩,?_⟩;rintro i m σ H ⟨rfl,hi,ρ,S,g2,hw,st2,le,wk,env⟩;by_cases hlt:i < l.length
  ·refine .inr ⟨hJ.go i H g2 le wk.rh hlt,fun σ' H'=>∃ ρ S g3,forW t (fun ρ=>wpCs cx ex w A ρ) (l.drop (i+1)) ρ K S/\Step Hz gz H' g3/\Le g1 g3/\WOk Γ H' g3 S/\EnvO Γ Hz H' g3 ρ σ',fun σ' H' q=>⟨l.length - (i+1),by omega,rfl,hlt,q⟩,fun z H3 hy=>?_⟩;obtain ⟨g3,st3,_,w3,hz⟩:=hJ.yld i H g2 S z H3 l[i] le wk (Ε hlt) hy;rw [fu hlt] at hw;obtain ⟨ρ',es,hw⟩:=yd (show opt (yD ρ t (l[i],false)) _ from hw);have l3:=le.trans st3.le;have l4:=s1.le.trans l3;refine jZ (fr:=false) es (zr env st3) w3.rh hz (fun h=>by cases h) fun σ3 env3=>⟨ρ',S,_,g3,hw,st2.trans st3,w3,env3,?_⟩
   exact ⟨fun ρ' σ' H' g' S' st' l w' env' q=>⟨ρ',S',g',q,st',l3.trans l,w',env'⟩,fun ρ' σ' H' g' S' st' l w' env' q=>n.nx ρ' σ' H' g' S' st' (l4.trans l) w' env' q,fun ρ' σ' H' g' S' st' l w' env' q=>⟨ρ',S',g',q,st',l3.trans l,w',env'⟩,fun d fr v H' g' S' st' l w' vo q=>n.rt d fr v H' g' S' st' (l4.trans l) w' vo q⟩
  ·have e:i=l.length:=by omega
   subst e;rw [List.drop_length] at hw
   exact .inl ⟨hJ.stop _ H g2 le wk.rh (Α _),n.nx ρ σ H g2 S st2 (s1.le.trans le) wk env hw⟩⟩
theorem Jz {s:Option Slot}{Q:List D->Prop}(h:owL s Q):∃ l,s=some (.ow (.lst l))/\Q l:=by
 cases s with
 | none=>exact h.elim
 | some s=>
  cases s with
  | ow d=>
   cases d with
   | lst l=>exact ⟨l,rfl,h⟩
   | _=>exact h.elim
  | _=>exact h.elim
theorem zhU {s:Option Slot}{Q:D->Prop}(h:owD s Q):∃ l,s=some (.ow l)/\Q l:=by
 cases s with
 | none=>exact h.elim
 | some s=>
  cases s with
  | ow d=>exact ⟨d,rfl,h⟩
  | _=>exact h.elim
section
variable {i:Nat}{n:Str}{apos cpos:Pos}
theorem zj5 (hN:X.N[i]?=some n) (hv:Vis X.env.scope n) (hd:(n==("__debug__":Str))=false) (hcd:(n==("__classdict__":Str))=false) (hx:PE X x (TX Γ (cx noX) e)) (hs:notStar x=true) (hl:(apos.endLine==cpos.line)=true):
  PS X (.Expr (.Call (.Attribute (.Name n p) "append" apos) [x] [] cpos) pos) (TC Γ cx ex w Hz gz (.app i e)):=
 (Ys (zcH bU PySem.F.slot_list_append PySem.F.type_list_append Wn (kO hN hv hd hcd) (yw hx wK (zc hs _ _)) rfl (zbl hs) hl (zc hs _ _) rfl)).imp fun E σ H h0=>goK h0 fun ρ S K g hw st wk env n=>by obtain ⟨l,eo,hw⟩:=Jz hw;obtain ⟨a,h1,h2,h3,h4,h5,h6⟩:=env.ow i _ eo;obtain ⟨vs,h7,h8⟩:=h5;refine ⟨.ref a,h1,.inl ⟨rfl,vs,SqL.of h7⟩,ρ,S,_,g,Hz,hw,wk,env,fun x v H1 g1 S1 s1 w1 vx q=>?_⟩;obtain ⟨g2,s2,w2,hx,q⟩:=vx.keep s1 w1 q;obtain ⟨hf,q⟩:=vJ q;have env2:=zr env s2;obtain ⟨k1,k2,k3⟩:=s2.kept h7 h3 h4;refine ⟨a,vs,v,rfl,rfl,k1,by rw [h8.len];exact size_of hf,n.nx _ σ _ g2 S1 ((st.trans s2).zP h2) s2.le (w2.zP k2 k3) (env2.Kq (c':=.lst (l++[x.1])) eo h1 ⟨vs++[v],zg,(h8.mono s2.le).app (Hass.mk1 hx)⟩ rfl) q⟩
theorem zjZ (hN:X.N[i]?=some n) (hv:Vis X.env.scope n) (hd:(n==("__debug__":Str))=false) (hcd:(n==("__classdict__":Str))=false) (hx:PE X x (TX Γ (cx noX) e)) (hs:notStar x=true) (hl:(apos.endLine==cpos.line)=true):
  PS X (.Expr (.Call (.Attribute (.Name n p) "extend" apos) [x] [] cpos) pos) (TC Γ cx ex w Hz gz (.ext i e)):=
 (Ys (zcH bU PySem.F.slot_list_extend PySem.F.type_list_extend zfC (kO hN hv hd hcd) (yw hx wK (zc hs _ _)) rfl (zbl hs) hl (zc hs _ _) rfl)).imp fun E σ H h0=>goK h0 fun ρ S K g hw st wk env n=>by
  obtain ⟨l,eo,hw⟩:=Jz hw;obtain ⟨a,h1,h2,h3,h4,h5,h6⟩:=env.ow i _ eo;obtain ⟨vs,h7,h8⟩:=h5;refine ⟨.ref a,h1,.inl ⟨rfl,vs,SqL.of h7⟩,ρ,S,_,g,Hz,hw,wk,env,fun x v H1 g1 S1 s1 w1 vx q0=>?_⟩;obtain ⟨g2,s2,w2,hx,q1⟩:=vx.keep s1 w1 q0;obtain ⟨m,em,q2⟩:=yd q1;obtain ⟨hf,q⟩:=vJ q2;clear q0 q1 q2;have env2:=zr env s2;obtain ⟨k1,k2,k3⟩:=s2.kept h7 h3 h4;generalize x.1=d at *;cases d with
  | lst m'=>
   cases em;obtain ⟨b,zs,rfl,hb1,hb2⟩:=hx;exact ⟨a,b,vs,zs,rfl,rfl,k1,.inl (w2.rh _ _ hb1),by rw [h8.len,hb2.len];exact wL hf,n.nx _ σ _ g2 S1 ((st.trans s2).zP h2) s2.le (w2.zP k2 k3) (env2.Kq (c':=.lst (l++m)) eo h1 ⟨vs++zs,zg,(h8.mono s2.le).app hb2⟩ rfl) q⟩
  | tup m'=>
   cases em;obtain ⟨b,zs,rfl,hb1,hb2⟩:=hx;exact ⟨a,b,vs,zs,rfl,rfl,k1,.inr (SqT.of (w2.rh _ _ hb1)),by rw [h8.len,hb2.len];exact wL hf,n.nx _ σ _ g2 S1 ((st.trans s2).zP h2) s2.le (w2.zP k2 k3) (env2.Kq (c':=.lst (l++m)) eo h1 ⟨vs++zs,zg,(h8.mono s2.le).app hb2⟩ rfl) q⟩
  | _=>cases em
theorem zdH {t:T}(hN:X.N[i]?=some n) (hv:Vis X.env.scope n) (hd:(n==("__debug__":Str))=false) (hcd:(n==("__classdict__":Str))=false) (hl:(apos.endLine==cpos.line)=true) (hg:PG X tgt (tgOf X.K t)) (hs:cR [tgt] (.Call (.Attribute (.Name n p) "pop" apos) [] [] cpos) pos.line X.env=pure false) (hw:cg [tgt] (.Call (.Attribute (.Name n p) "pop" apos) [] [] cpos) X.env=pure none) (ha:(aV [tgt] X.env).map (·.2)=[fP tgt X.env]):
  PS X (.Assign [tgt] (.Call (.Attribute (.Name n p) "pop" apos) [] [] cpos) pos) (TC Γ cx ex w Hz gz (.popO t i)):=
 (Jw (zhO bU PySem.F.slot_list_pop PySem.F.type_list_pop zif (kO hN hv hd hcd) rfl hl) hg hs hw ha).imp fun E σ H h0=>goK h0 fun ρ S K g hw st wk env n=>by obtain ⟨l,eo,hw⟩:=Jz hw;obtain ⟨d,eg,q⟩:=yd hw;obtain ⟨ρ2,eb,q⟩:=yd q;obtain ⟨a,h1,h2,h3,h4,h5,h6⟩:=env.ow i _ eo;obtain ⟨vs,h7,h8⟩:=h5;have hn:=h8.len;rw [List.getLast?_eq_getElem?] at eg;obtain ⟨y,hy,hh⟩:=h8.get eg;have w2:=wk.zP (o:=.lst vs.dropLast) h3 h4;exact ⟨.ref a,h1,.inl ⟨rfl,vs,SqL.of h7⟩,a,vs,y,rfl,rfl,h7,by rw [hn];exact hy,jZ (fr:=false) eb (env.Kq (c':=.lst l.dropLast) eo h1 ⟨vs.dropLast,zg,zc3 h8⟩ rfl) w2.rh hh (fun h=>by cases h) fun σ' env'=>n.nx _ σ' _ g S (st.zP h2) (Le.refl g) w2 env' q⟩
theorem zjH {ix:Expr}{ke ve:E}(hu:X.A.units+1 < Ϸ) (hN:X.N[i]?=some n) (hv:Vis X.env.scope n) (hd:(n==("__debug__":Str))=false) (hcd:(n==("__classdict__":Str))=false) (hx:PE X x (TX Γ (cx noX) ve)) (hi:PE X ix (TX Γ (cx noX) ke)) (hns:∀ lo hi st p,ix≠.Slice lo hi st p)
  (hs:cR [.Subscript (.Name n p) ix pos] x spos.line X.env=pure false) (hw:cg [.Subscript (.Name n p) ix pos] x X.env=pure none) (ha:(aV [.Subscript (.Name n p) ix pos] X.env).map (·.2)=[fP (.Subscript (.Name n p) ix pos) X.env]):
  PS X (.Assign [.Subscript (.Name n p) ix pos] x spos) (TC Γ cx ex w Hz gz (.stv i ke ve)):=
 (Jw hx (zhI (kO hN hv hd hcd) hi (zeI hu) (fun v=>Ku hns v X.env)) hs hw ha).imp fun E σ H h0=>goK h0 fun ρ S K g hw st wk env n=>by obtain ⟨c,eo,hw⟩:=zhU hw;obtain ⟨a,h1,h2,h3,h4,h5,h6⟩:=env.ow i _ eo;refine ⟨ρ,S,_,g,Hz,hw,wk,env,fun x v H1 g1 S1 s1 w1 vx q=>?_⟩;obtain ⟨g2,s2,w2,hx,q⟩:=vx.keep s1 w1 q;refine ⟨.ref a,h1,ρ,S1,_,g2,Hz,q,w2,zr env s2,fun y u H3 g3 S3 s3 w3 vy q=>?_⟩;obtain ⟨g4,s4,w4,hy,q⟩:=vy.keep s3 w3 q;obtain ⟨c',ep,q⟩:=yd q;have s5:=s2.trans s4;have env4:=zr env s5;obtain ⟨a',f1,f2,f3,f4,f5,f6⟩:=env4.ow i _ eo;rw [h1] at f1;cases f1;obtain ⟨o',b1,b2,b3⟩:=zcq ep f5 w4.rh hy (hx.mono s4.le);exact b1 _ (n.nx _ σ _ g4 S3 ((st.trans s5).zP h2) s5.le (w4.zP f3 f4) (env4.Kq eo h1 b2 b3) q)
end
end
section
variable {X:Cx}{Γ:Gm}{B:Tb}{cx:Xp->Cf}{ex:Xp}{w k:Nat}{c:Cc}{Hz:Hp}{gz:G}{x y:Expr}{pos tpos:Pos}{o e:E}{f:Str}{cs:List Str}
set_option tactic.hygienic true in
theorem zfO {l ds m:List D}(h:insD l ds=some m):∃ j d,ds=[.int j,d]/\0<=j/\j<=l.length/\fits (l.length+1)=true/\m=l.take j.toNat++d::l.drop j.toNat:=by
 match ds,h with
 | [.int j,d],h=>
  have h:(if (decide (0<=j)&&decide (j<=l.length)&&fits (l.length+1))=true then some (l.take j.toNat++d::l.drop j.toNat) else none)=some m:=h;split at h
  ·rename_i hc
   rw [ζ,ζ] at hc;cases h;exact ⟨j,d,rfl,of_decide_eq_true hc.1.1,of_decide_eq_true hc.1.2,hc.2,rfl⟩
  ·cases h
theorem zjT {i:Nat}{es:List E}{n:Str}{p apos cpos:Pos}{ys:List Expr}(hN:X.N[i]?=some n) (hv:Vis X.env.scope n) (hd:(n==("__debug__":Str))=false) (hcd:(n==("__classdict__":Str))=false) (hs:∀ z∈y::ys,notStar z=true) (hb:PA X (y::ys) (TXs Γ (cx noX) es)) (h9:(y::ys).length<=9) (hl:(apos.endLine==cpos.line)=true):
  PS X (.Expr (.Call (.Attribute (.Name n p) "insert" apos) (y::ys) [] cpos) pos) (TC Γ cx ex w Hz gz (.lin i es)):=
 (Ys (zcH bU PySem.F.slot_list_insert PySem.F.type_list_insert zig (kO hN hv hd hcd) hb rfl (zbm hs h9) hl (zc (hs y θ) ys X.env) (yP fun z hz=>hs z (ι _ hz)))).imp fun E σ H h0=>goK h0 fun ρ S K g hw st wk env n=>by
  obtain ⟨l,eo,hw⟩:=Jz hw;obtain ⟨a,h1,h2,h3,h4,h5,h6⟩:=env.ow i _ eo;obtain ⟨vs,h7,h8⟩:=h5;refine ⟨.ref a,h1,.inl ⟨rfl,vs,SqL.of h7⟩,ρ,S,_,g,Hz,hw,wk,env,fun ds us H1 g1 S1 s1 w1 hds q0=>?_⟩;obtain ⟨m,em,q⟩:=yd q0;obtain ⟨j,d,rfl,j0,j1,hf,rfl⟩:=zfO em;obtain ⟨u,v,rfl,hu,hd⟩:=Hass.two hds;cases (show u=.int j from hu);obtain ⟨k1,k2,k3⟩:=s1.kept h7 h3 h4;have hj:j=((j.toNat:Nat):Int):=by omega
  have hf':l.length+1<=1000000:=of_decide_eq_true hf;have h8':=h8.mono s1.le;refine ⟨a,vs,j.toNat,v,rfl,by rw [<- hj],k1,by rw [h8.len];omega,by rw [h8.len];omega,n.nx _ σ _ g1 S1 ((st.trans s1).zP h2) s1.le (w1.zP k2 k3) ((zr env s1).Kq (c':=.lst (l.take j.toNat++d::l.drop j.toNat)) eo h1 ⟨_,zg,(h8'.take _).app ⟨v,_,rfl,hd,h8'.drop _⟩⟩ rfl) q⟩
end
section
variable {Γ:Gm}{Hz H:Hp}{g:G}{ρ ρ':List Slot}{σ:L2.St}
theorem EnvO.put {j:Nat}{d:D}{v:V}(env:EnvO Γ Hz H g ρ σ) (hv:Has Γ g d v):EnvO Γ Hz H g (ρ.set j (.sh d)) (σ.set j (some v)):=by
 refine ⟨by rw [aq,aq];exact env.len,fun i e q=>?_,fun i e q=>?_,fun i i' e e' b q1 q2 q3 q4=>?_⟩
 ·rcases zA q with ⟨rfl,h1,h2⟩ | ⟨h1,h2⟩
  ·cases h2;exact ⟨v,ϫ (by rw [<- env.len];exact h1),hv⟩
  ·obtain ⟨u,e1,e2⟩:=env.sh i e h2;exact ⟨u,by rw [Θ h1];exact e1,e2⟩
 ·rcases zA q with ⟨rfl,h1,h2⟩ | ⟨h1,h2⟩
  ·cases h2
  ·obtain ⟨a,e1,e2⟩:=env.ow i e h2;exact ⟨a,by rw [Θ h1];exact e1,e2⟩
 ·have ne:∀ {i:Nat}{e:D},(ρ.set j (Slot.sh d))[i]?=some (.ow e)->j≠i/\ρ[i]?=some (.ow e):=fun {i e} q=>by
   rcases zA q with ⟨rfl,h1,h2⟩ | ⟨h1,h2⟩
   ·cases h2
   ·exact ⟨h1,h2⟩
  obtain ⟨n1,w1⟩:=ne q1;obtain ⟨n2,w2⟩:=ne q2;rw [Θ n1] at q3;rw [Θ n2] at q4;exact env.inj i i' e e' b w1 w2 q3 q4
theorem EnvO.no {j:Nat}{v:Option V}(env:EnvO Γ Hz H g ρ σ):EnvO Γ Hz H g (ρ.set j .no) (σ.set j v):=by
 have ne:∀ {i:Nat}{s:Slot},(ρ.set j Slot.no)[i]?=some s->s≠.no->j≠i/\ρ[i]?=some s:=fun {i s} q hs=>by
  rcases zA q with ⟨rfl,h1,h2⟩ | ⟨h1,h2⟩
  ·exact absurd h2.symm (fun z=>hs z.symm)
  ·exact ⟨h1,h2⟩
 refine ⟨by rw [aq,aq];exact env.len,fun i e q=>?_,fun i e q=>?_,fun i i' e e' b q1 q2 q3 q4=>?_⟩
 ·obtain ⟨n,w⟩:=ne q nofun;rw [Θ n];exact env.sh i e w
 ·obtain ⟨n,w⟩:=ne q nofun;rw [Θ n];exact env.ow i e w
 ·obtain ⟨n1,w1⟩:=ne q1 nofun;obtain ⟨n2,w2⟩:=ne q2 nofun;rw [Θ n1] at q3;rw [Θ n2] at q4;exact env.inj i i' e e' b w1 w2 q3 q4
end
section
variable {Γ:Gm}{B:Tb}{sp:Nat->Nat->Sp}{k:Nat}{X:Cx}{c:Cc}{i cn:Nat}{ea C:Addr}{oe:Obj}
end
section
variable {Γ:Gm}{B:Tb}{cx:Xp->Cf}{ex:Xp}{k w:Nat}{X:Cx}{c:Cc}{Hz:Hp}{gz:G}{i ce f:Nat}{tb:List (List Nat)}{hs:List (Nat×HB)}{es:List E}
end
noncomputable def VR:Expr->Bool
 | .ListComp _ _ _ _=>false
 | .SetComp _ _ _ _=>false
 | .DictComp _ _ _ _ _=>false
 | _=>true
noncomputable def YX:E->Bool
 | .comp _ _ _ _ _=>true
 | _=>false
noncomputable def kZ:Expr->Bool
 | .Tuple _ _ _=>false
 | _=>true
noncomputable def Z4 (c:Cc) (n:Str) (np:Pos):Expr->Bool
 | .ListComp _ _ sc p=>c.names.lookup n==some .local&&np.line==p.line&&!(sc.names.any fun (m,k)=>m==n&&(k==.local||k==.cell))
 | _=>false
noncomputable def chkN (c:Cc) (i:Nat) (n:Str):Bool:=c.N[i]?==some n&&visK (c.names.lookup n)&&xg n
structure Meth where
 o:Expr
 m:Str
 ap:Pos
 x:Expr
 cp:Pos
noncomputable def zbT:Expr->Option Meth
 | .Call f args kws cp=>if vO kws=true then (Xi f).bind fun q=>(sole args).map fun x=>⟨q.1,q.2.1,q.2.2,x,cp⟩ else none
 | _=>none
set_option tactic.hygienic true in
theorem zbS {x:Expr}{q:Meth}(h:zbT x=some q):x=.Call (.Attribute q.o q.m q.ap) [q.x] [] q.cp:=by
 cases x with
 | Call f args kws cp=>
  have h:(if vO kws=true then (Xi f).bind fun q=>(sole args).map fun x=>(⟨q.1,q.2.1,q.2.2,x,cp⟩:Meth) else none)=some q:=h;split at h
  ·rename_i hn
   cases e1:Xi f with
   | none=>rw [e1] at h;cases h
   | some z=>
    rw [e1] at h;cases e2:sole args with
    | none=>rw [e2] at h;cases h
    | some y=>
     rw [e2] at h;cases h;rw [uv hn,Xh e1,Yi e2]
  ·cases h
 | _=>cases h
noncomputable def uV (B:Tb) (c:Cc) (name:Str) (i:Nat) (e:E) (x:Expr):Bool:=match zbT x with
  | some q=>(match asName q.o with
    | some r=>chkN c i r.1&&q.m==name&&chkE B c e q.x&&notStar q.x&&q.ap.endLine==q.cp.line
    | none=>false)
  | none=>false
theorem ZS {B:Tb}{c:Cc}{name:Str}{i:Nat}{e:E}{x:Expr}(h:uV B c name i e x=true):∃ n np ap y cp,x=.Call (.Attribute (.Name n np) name ap) [y] [] cp/\chkN c i n=true/\chkE B c e y=true/\notStar y=true/\(ap.endLine==cp.line)=true:=by
  unfold uV at h;cases e1:zbT x with
  | none=>rw [e1] at h;cases h
  | some q=>
    rw [e1] at h
    have h:(match asName q.o with
      | some r=>chkN c i r.1&&q.m==name&&chkE B c e q.x&&notStar q.x&&q.ap.endLine==q.cp.line
      | none=>false)=true:=h
    cases e2:asName q.o with
    | none=>rw [e2] at h;cases h
    | some r=>
      rw [e2] at h;have h:(chkN c i r.1&&q.m==name&&chkE B c e q.x&&notStar q.x&&q.ap.endLine==q.cp.line)=true:=h;simp only [ζ] at h;obtain ⟨⟨⟨⟨h1,h2⟩,h3⟩,h4⟩,h5⟩:=h;refine ⟨r.1,r.2,q.ap,q.x,q.cp,?_,h1,h3,h4,h5⟩;rw [zbS e1,vg e2,eq_of_beq h2]
noncomputable def asM0:Expr->Option (Expr×Str×Pos×Pos)
  | .Call f as ks cp=>(match f with
    | .Attribute o m ap=>(match as with
      | []=>(match ks with
        | []=>some (o,m,ap,cp)
        | _=>none)
      | _=>none)
    | _=>none)
  | _=>none
theorem zgq {x:Expr}{q:Expr×Str×Pos×Pos}(h:asM0 x=some q):x=.Call (.Attribute q.1 q.2.1 q.2.2.1) [] [] q.2.2.2:=by
 have hb:Μ x.ctorIdx 16=true:=by revert h;cases x <;> first | exact fun _=>rfl | (intro h;cases h)
 revert h;apply je hb;clear hb;intro f as ks cp h;have hb:Μ f.ctorIdx 20=true:=by revert h;cases f <;> first | exact fun _=>rfl | (intro h;cases h)
 revert h;apply VP hb;clear hb;intro o m ap h;cases as with
 | cons _ _=>cases h
 | nil=>
  cases ks with
  | cons _ _=>cases h
  | nil=>cases h;rfl
noncomputable def WY (c:Cc) (i:Nat) (x:Expr):Bool:=match asM0 x with
  | some q=>(match asName q.1 with
    | some r=>chkN c i r.1&&q.2.1==("pop":Str)&&q.2.2.1.endLine==q.2.2.2.line
    | none=>false)
  | none=>false
theorem zbB {c:Cc}{i:Nat}{x:Expr}(h:WY c i x=true):∃ n np ap cp,x=.Call (.Attribute (.Name n np) "pop" ap) [] [] cp/\chkN c i n=true/\(ap.endLine==cp.line)=true:=by
  unfold WY at h;cases e1:asM0 x with
  | none=>rw [e1] at h;cases h
  | some q=>
    rw [e1] at h
    have h:(match asName q.1 with
      | some r=>chkN c i r.1&&q.2.1==("pop":Str)&&q.2.2.1.endLine==q.2.2.2.line
      | none=>false)=true:=h
    cases e2:asName q.1 with
    | none=>rw [e2] at h;cases h
    | some r=>
      rw [e2] at h;have h:(chkN c i r.1&&q.2.1==("pop":Str)&&q.2.2.1.endLine==q.2.2.2.line)=true:=h;rw [ζ,ζ] at h;refine ⟨r.1,r.2,q.2.2.1,q.2.2.2,?_,h.1.1,h.2⟩;rw [zgq e1,vg e2,eq_of_beq h.1.2]
noncomputable def isNT:Expr->Bool
 | .Name _ _=>true
 | .Tuple _ _ _=>true
 | _=>false
noncomputable def zbV:Expr->Option (Expr×List Expr×List cY×Pos)
 | .Call f a k p=>some (f,a,k,p)
 | _=>none
theorem zbU {x:Expr}{q:Expr×List Expr×List cY×Pos}(h:zbV x=some q):x=.Call q.1 q.2.1 q.2.2.1 q.2.2.2:=by cases x <;> first | (cases h;rfl) | cases h
noncomputable def J4 (B:Tb) (c:Cc) (i:Nat) (es:List E) (x:Expr):Bool:=match zbV x with
  | some t=>(match Xi t.1 with
    | some q=>(match asName q.1 with
      | some r=>chkN c i r.1&&q.2.1==("insert":Str)&&zY B c es t.2.1&&vO t.2.2.1&&q.2.2.endLine==t.2.2.2.line&&decide (es.length=2)
      | none=>false)
    | none=>false)
  | none=>false
theorem zbC {B:Tb}{c:Cc}{i:Nat}{es:List E}{x:Expr}(h:J4 B c i es x=true):∃ n np ap ys cp,x=.Call (.Attribute (.Name n np) "insert" ap) ys [] cp/\chkN c i n=true/\zY B c es ys=true/\(ap.endLine==cp.line)=true/\es.length=2:=by
 unfold J4 at h;cases e1:zbV x with
 | none=>rw [e1] at h;exact nobE h
 | some t=>
  rw [e1] at h;obtain ⟨f,as,ks,cp⟩:=t;dsimp only at h;cases e2:Xi f with
  | none=>rw [e2] at h;exact nobE h
  | some q=>
   rw [e2] at h;dsimp only at h;cases e3:asName q.1 with
   | none=>rw [e3] at h;exact nobE h
   | some r=>
    rw [e3] at h;dsimp only at h;simp only [ζ] at h;obtain ⟨⟨⟨⟨⟨h1,h2⟩,h3⟩,h4⟩,h5⟩,h6⟩:=h;refine ⟨r.1,r.2,q.2.2,as,cp,?_,h1,h3,h5,of_decide_eq_true h6⟩;rw [zbU e1];dsimp only;rw [Xh e2,vg e3,eq_of_beq h2,uv h4]
mutual
noncomputable def chkC (B:Tb) (c:Cc):C->Stmt->Bool
  | .set t e,.Assign ts x _=>(match sole ts with
    | some tg=>chkE B c e x&&chkT c t tg&&(match asName tg with
      | some q=>!Z4 c q.1 q.2 x||YX e
      | none=>Wz tg&&kZ x)
    | none=>false)
  | .expr e,.Expr x _=>chkE B c e x&&VR x
  | .ret e,.Return v _=>(match v with
    | some x=>chkE B c e x
    | none=>false)
  | .retN,.Return v _=>v.isNone
  | .ite e a b,.If x aa bb _=>chkE B c e x&&v6 B c a aa&&v6 B c b bb
  | .whl e b,.While x bb r _=>chkE B c e x&&v6 B c b bb&&vO r
  | .forr t it b,.For tgt x bb r _=>chkI B c it tgt x&&chkT c t tgt&&vN x&&v6 B c b bb&&vO r
  | .app i e,.Expr x _=>uV B c "append" i e x
  | .ext i e,.Expr x _=>uV B c "extend" i e x
  | .popO t i,.Assign ts x _=>(match sole ts with
    | some tg=>chkT c t tg&&isNT tg&&WY c i x
    | none=>false)
  | .stv i k v,.Assign ts x _=>(match (sole ts).bind zbR with
    | some q=>(match asName q.1 with
      | some r=>chkN c i r.1&&chkE B c k q.2.1&&chkE B c v x
      | none=>false)
    | none=>false)
  | .lin i es,.Expr x _=>J4 B c i es x
  | .pass,.Pass _=>true
  | .brk,.Break _=>true
  | .cnt,.Continue _=>true
  | _,_=>false
noncomputable def v6 (B:Tb) (c:Cc):List C->List Stmt->Bool
 | .frz _::ss,xs=>v6 B c ss xs
 | .frr _::ss,xs=>v6 B c ss xs
 | .frk _::ss,xs=>v6 B c ss xs
 | [],[]=>true
 | s::ss,x::xs=>chkC B c s x&&v6 B c ss xs
 | _,_=>false
end
structure XSt (Γ:Gm) (B:Tb) (cx:Xp->Cf) (ex:Xp) (Hz:Hp) (gz:G) (k:Nat) (X:Cx) (c:Cc):Prop where
 ok:XOk Γ B (spN Γ cx) k X c
 fn:c.fn=true
 own:iW (Φ X.prog X.w) X.A X.env X.xe
 hcf:∀ ex,CfN B (cx ex)
 hm:Vm cx
 sk:X.stack=X.env::X.outer
 fr:X.env.frame=some X.env.locals
 xr:∀ pJ σ H s g S c C h' ea args,Inv X pJ σ H s->Step Hz gz H g->WOk Γ H g S->ex c S->Γ.ca c=some C->Heap.MadeExcOf s.heap h' ea (.ref C) args->X.xe (.ref ea) { s with heap:=h' }
section
variable {Γ:Gm}{B:Tb}{cx:Xp->Cf}{ex:Xp}{k w:Nat}{X:Cx}{c:Cc}{Hz:Hp}{gz:G}{x:Expr}{e:E}{n:Str}{pos np:Pos}{i:Nat}
theorem XSt.pe (ok:XSt Γ B cx ex Hz gz k X c) (h:chkE B c e x=true):PE X x (TX Γ (cx noX) e):=(sA (ok.hcf noX) ok.hm.no e X c x ok.ok h).1
theorem XSt.pt (ok:XSt Γ B cx ex Hz gz k X c) (h:chkE B c e x=true):PT X x (TB Γ (cx noX) e):=(sA (ok.hcf noX) ok.hm.no e X c x ok.ok h).2.1
theorem noSl {y:Expr}(h:chkE B c e y=true):∀ lo hi st p,y≠.Slice lo hi st p:=fun lo hi st p q=>by subst q;exact zaE e h
theorem jf (h:VR x=true) (t:Option Expr) (l:Nat) (env:Env):gM x t l env=pure false:=by cases x <;> first | rfl | cases h
theorem zcd (x o y:Expr) (p:Pos) (l:Nat) (env:Env):cR [.Subscript o y p] x l env=pure false:=by cases x <;> rfl
theorem Jg (x:Expr) (es:List Expr) (kk:Nat) (p:Pos) (l:Nat) (env:Env):cR [.Tuple es kk p] x l env=pure false:=by cases x <;> rfl
theorem Kv (x o y:Expr) (p:Pos) (env:Env):cg [.Subscript o y p] x env=pure none:=by cases x <;> rfl
theorem j5 (x:Expr) (n:Str) (p:Pos) (env:Env):cg [.Name n p] x env=pure none:=by cases x <;> rfl
theorem Zk (h:kZ x=true) (es:List Expr) (kk:Nat) (p:Pos) (env:Env):cg [.Tuple es kk p] x env=pure none:=by cases x <;> first | rfl | cases h
theorem noSC {y:Expr}{g:List Comprehension}{sc:dD}{p:Pos}(e:E) (h:chkE B c e (.SetComp y g sc p)=true):False:=by
 cases e with
 | box e=>exact nobE h
 | _=>exact nobE h
theorem noDC {y z:Expr}{g:List Comprehension}{sc:dD}{p:Pos}(e:E) (h:chkE B c e (.DictComp y z g sc p)=true):False:=by
 cases e with
 | box e=>exact nobE h
 | _=>exact nobE h
theorem QR (ok:XOk Γ B (spN Γ cx) k X c) (hx:chkE B c e x=true) (l:Nat):gM x (some (.Name n np)) l X.env=pure (Z4 c n np x):=by
 have hk:X.env.kindOf n=c.names.lookup n:=by unfold mD;rw [ok.nm]
 have hb:X.env.blockKind=.function:=by unfold Env.blockKind;rw [ok.kd];rfl
 cases x with
 | ListComp y g sc p=>
  show pure (X.env.blockKind==.function&&X.env.kindOf n==some .local&&np.line==p.line&&!(sc.names.any fun (m,k)=>m==n&&(k==.local||k==.cell)))=(pure (c.names.lookup n==some .local&&np.line==p.line&&!(sc.names.any fun (m,k)=>m==n&&(k==.local||k==.cell))):Sem Bool)
  rw [hb,hk];rfl
 | SetComp y g sc p=>exact (noSC e hx).elim
 | DictComp y g a sc p=>exact (noDC e hx).elim
 | _=>rfl
theorem zdG (ok:XSt Γ B cx ex Hz gz k X c) {t:T}{tgt:Expr}(h1:chkE B c e x=true) (hpg:PG X tgt (tgOf X.K t)) (hs:cR [tgt] x pos.line X.env=pure false) (hw:cg [tgt] x X.env=pure none) (ha:(aV [tgt] X.env).map (·.2)=[fP tgt X.env]):PS X (.Assign [tgt] x pos) (TC Γ cx ex w Hz gz (.set t e)):=by
 cases hn:zfv e with
 | true=>exact zjK hn (ok.pe h1) hpg hs hw ha
 | false=>
  cases e with
  | box e=>exact zg7 (ok.pe (e:=e) (ζ _ _ ▸ (show (zap x&&chkE B c e x)=true from h1)).2) hpg hs hw ha
  | _=>cases hn
theorem zhn (ok:XSt Γ B cx ex Hz gz k X c) {t:T}{ts:List Expr}(h:chkC B c (.set t e) (.Assign ts x pos)=true):PS X (.Assign ts x pos) (TC Γ cx ex w Hz gz (.set t e)):=by
  have h:(match sole ts with
    | some tg=>chkE B c e x&&chkT c t tg&&(match asName tg with
      | some q=>!Z4 c q.1 q.2 x||YX e
      | none=>Wz tg&&kZ x)
    | none=>false)=true:=h
  cases e1:sole ts with
  | none=>rw [e1] at h;cases h
  | some tg=>
    rw [e1] at h;have et:=Yi e1;subst et
    have h:(chkE B c e x&&chkT c t tg&&(match asName tg with
      | some q=>!Z4 c q.1 q.2 x||YX e
      | none=>Wz tg&&kZ x))=true:=h
    rw [ζ,ζ] at h;obtain ⟨⟨h1,h2⟩,h3⟩:=h;have hpg:=Je ok.ok h2;cases e2:asName tg with
    | some q=>
      rw [e2] at h3;have et:=vg e2;obtain ⟨n,np⟩:=q;subst et;have h3:(!Z4 c n np x||YX e)=true:=h3;have hsw:=QR (n:=n) (np:=np) ok.ok h1 pos.line;cases ha:Z4 c n np x with
      | false=>
        rw [ha] at hsw;exact zdG ok h1 hpg hsw (j5 x n np X.env) rfl
      | true=>
        rw [ha] at h3 hsw;cases e with
        | comp t' js it ifs elt=>
          cases t with
          | one i=>exact zg6 (sCS (ok.hcf noX) ok.hm.no ok.ok h1) hpg hsw
          | tup is=>exact nobE h2
          | nst _ _=>exact nobE h2
        | _=>cases h3
    | none=>
      rw [e2] at h3;have h3:(Wz tg&&kZ x)=true:=h3;rw [ζ] at h3;cases tg with
      | Tuple es kk p=>exact zdG ok h1 hpg (Jg x es kk p pos.line X.env) (Zk h3.2 es kk p X.env) rfl
      | _=>cases h3.1
theorem s_rt (ok:XSt Γ B cx ex Hz gz k X c) (h:chkE B c e x=true):PS X (.Return (some x) pos) (TC Γ cx ex w Hz gz (.ret e)):=by
 by_cases hv:∃ i,e=.var i
 ·obtain ⟨i,rfl⟩:=hv;have hb:Μ x.ctorIdx 23=true:=by revert h;cases x <;> first | exact non | exact fun _=>rfl
  revert h;apply ur hb;clear hb;intro n p h;have h:(c.N[i]?==some n&&visK (c.names.lookup n)&&xg n)=true:=h;simp only [ζ] at h;obtain ⟨q1,q2,_⟩:=yz h.2;exact zha (by rw [ok.ok.N];exact eq_of_beq h.1.1) (ok.ok.vis h.1.2) q1 q2
 ·exact zjM (fun i q=>hv ⟨i,q⟩) (ok.pe h)
theorem zdt {ts:List Expr}{q:Expr×Expr×Pos}(h:(sole ts).bind zbR=some q):ts=[.Subscript q.1 q.2.1 q.2.2]:=by
 cases e1:sole ts with
 | none=>rw [e1] at h;cases h
 | some tg=>
  rw [e1] at h;rw [Yi e1,zdu h]
theorem zjI (ok:XSt Γ B cx ex Hz gz k X c) {kx v:E}{ts:List Expr}(h:chkC B c (.stv i kx v) (.Assign ts x pos)=true):PS X (.Assign ts x pos) (TC Γ cx ex w Hz gz (.stv i kx v)):=by
  have h:(match (sole ts).bind zbR with
    | some q=>(match asName q.1 with
      | some r=>chkN c i r.1&&chkE B c kx q.2.1&&chkE B c v x
      | none=>false)
    | none=>false)=true:=h
  cases e2:(sole ts).bind zbR with
  | none=>rw [e2] at h;cases h
  | some q=>
    rw [e2] at h;have et:=zdt e2;subst et;obtain ⟨o,y,sp⟩:=q
    have h:(match asName o with
      | some r=>chkN c i r.1&&chkE B c kx y&&chkE B c v x
      | none=>false)=true:=h
    cases e3:asName o with
    | none=>rw [e3] at h;cases h
    | some r=>
      rw [e3] at h;have et:=vg e3;subst et;obtain ⟨n,np⟩:=r;have h:(chkN c i n&&chkE B c kx y&&chkE B c v x)=true:=h;unfold chkN at h;simp only [ζ] at h;obtain ⟨⟨h1,h2⟩,h3⟩:=h;obtain ⟨q1,q2,_⟩:=yz h1.2;exact zjH ok.ok.u1 (by rw [ok.ok.N];exact eq_of_beq h1.1.1) (ok.ok.vis h1.1.2) q1 q2 (ok.pe h3) (ok.pe h2) (noSl h2) (zcd x _ y sp pos.line X.env) (Kv x _ y sp X.env) rfl
mutual
theorem sC (ok:XSt Γ B cx ex Hz gz k X c):∀ (s:C) (st:Stmt),chkC B c s st=true->PS X st (TC Γ cx ex w Hz gz s)
  | .set t e,st,h=>by
    have hb:Μ st.ctorIdx 5=true:=by revert h;cases st <;> first | exact non | exact fun _=>rfl
    revert h;apply kY hb;clear hb;intro ts x pos h;exact zhn ok h
  | .expr e,st,h=>by
    have hb:Μ st.ctorIdx 24=true:=by revert h;cases st <;> first | exact non | exact fun _=>rfl
    revert h;apply Yx hb;clear hb;intro x pos h;have h:(chkE B c e x&&VR x)=true:=h;simp only [ζ] at h;exact zhj (ok.pe h.1) (jf h.2 none pos.line X.env)
  | .ret e,st,h=>by
    have hb:Μ st.ctorIdx 3=true:=by revert h;cases st <;> first | exact non | exact fun _=>rfl
    revert h;apply Wj hb;clear hb;intro v pos h;cases v with
    | none=>exact nobE h
    | some x=>exact s_rt ok h
  | .retN,st,h=>by
    have hb:Μ st.ctorIdx 3=true:=by revert h;cases st <;> first | exact non | exact fun _=>rfl
    revert h;apply Wj hb;clear hb;intro v pos h;cases v with
    | some x=>exact nobE h
    | none=>exact zhb
  | .ite e a b,st,h=>by
    have hb:Μ st.ctorIdx 12=true:=by revert h;cases st <;> first | exact non | exact fun _=>rfl
    revert h;apply zkq hb;clear hb;intro x aa bb pos h;have h:(chkE B c e x&&v6 B c a aa&&v6 B c b bb)=true:=h;simp only [ζ] at h;exact s_if (ok.pt h.1.1) (sCs ok a aa h.1.2) (sCs ok b bb h.2)
  | .whl e b,st,h=>by
    have hb:Μ st.ctorIdx 11=true:=by revert h;cases st <;> first | exact non | exact fun _=>rfl
    revert h;apply zcN hb;clear hb;intro x bb r pos h;have h:(chkE B c e x&&v6 B c b bb&&vO r)=true:=h;simp only [ζ] at h;have hr:=uv h.2;subst hr;exact zeK (ok.pt h.1.1) (sCs ok b bb h.1.2) ok.own
  | .forr t it b,st,h=>by
    have hb:Μ st.ctorIdx 9=true:=by revert h;cases st <;> first | exact non | exact fun _=>rfl
    revert h;apply zh8 hb;clear hb;intro tgt x bb r pos h;have h:(chkI B c it tgt x&&chkT c t tgt&&vN x&&v6 B c b bb&&vO r)=true:=h;simp only [ζ] at h;obtain ⟨⟨⟨⟨h1,h2⟩,h3⟩,h4⟩,h5⟩:=h;have hr:=uv h5;subst hr;exact zjY (sI (ok.hcf noX) ok.hm.no it X c tgt x ok.ok h1) (Je ok.ok h2) (sCs ok b bb h4) ok.own ok.ok.calm (WP h3 X.env)
  | .app i e,st,h=>by
    have hb:Μ st.ctorIdx 24=true:=by revert h;cases st <;> first | exact non | exact fun _=>rfl
    revert h;apply Yx hb;clear hb;intro x pos h;obtain ⟨n,np,ap,y,cp,rfl,h1,h3,h4,h5⟩:=ZS (show uV B c "append" i e x=true from h);unfold chkN at h1;simp only [ζ] at h1;obtain ⟨q1,q2,_⟩:=yz h1.2;exact zj5 (by rw [ok.ok.N];exact eq_of_beq h1.1.1) (ok.ok.vis h1.1.2) q1 q2 (ok.pe h3) h4 h5
  | .ext i e,st,h=>by
    have hb:Μ st.ctorIdx 24=true:=by revert h;cases st <;> first | exact non | exact fun _=>rfl
    revert h;apply Yx hb;clear hb;intro x pos h;obtain ⟨n,np,ap,y,cp,rfl,h1,h3,h4,h5⟩:=ZS (show uV B c "extend" i e x=true from h);unfold chkN at h1;simp only [ζ] at h1;obtain ⟨q1,q2,_⟩:=yz h1.2;exact zjZ (by rw [ok.ok.N];exact eq_of_beq h1.1.1) (ok.ok.vis h1.1.2) q1 q2 (ok.pe h3) h4 h5
  | .stv i kx v,st,h=>by
    have hb:Μ st.ctorIdx 5=true:=by revert h;cases st <;> first | exact non | exact fun _=>rfl
    revert h;apply kY hb;clear hb;intro ts x pos h;exact zjI ok h
  | .sti o kx v,st,h=>nobE h
  | .appR o e,st,h=>nobE h
  | .pop i,st,h=>nobE h
  | .popO t i,st,h=>by
    have hb:Μ st.ctorIdx 5=true:=by revert h;cases st <;> first | exact non | exact fun _=>rfl
    revert h;apply kY hb;clear hb;intro ts x pos h
    have h:(match sole ts with
      | some tg=>chkT c t tg&&isNT tg&&WY c i x
      | none=>false)=true:=h
    cases e1:sole ts with
    | none=>rw [e1] at h;cases h
    | some tg=>
      rw [e1] at h;have et:=Yi e1;subst et;have h:(chkT c t tg&&isNT tg&&WY c i x)=true:=h;rw [ζ,ζ] at h;obtain ⟨⟨h2,h3⟩,h0⟩:=h;obtain ⟨n,np,ap,cp,rfl,h1,h5⟩:=zbB h0;unfold chkN at h1;simp only [ζ] at h1;obtain ⟨q1,q2,_⟩:=yz h1.2;have hpg:=Je ok.ok h2;have hN:X.N[i]?=some n:=by rw [ok.ok.N];exact eq_of_beq h1.1.1
      cases tg with
      | Tuple es kk p=>exact zdH hN (ok.ok.vis h1.1.2) q1 q2 h5 hpg (Jg _ es kk p pos.line X.env) (Zk rfl es kk p X.env) rfl
      | Name m p=>exact zdH hN (ok.ok.vis h1.1.2) q1 q2 h5 hpg (jf (x:=.Call (.Attribute (.Name n np) "pop" ap) [] [] cp) rfl (some (.Name m p)) pos.line X.env) (j5 _ _ _ _) rfl
      | _=>cases h3
  | .popR t o,st,h=>nobE h
  | .pass,st,h=>by
    have hb:Μ st.ctorIdx 25=true:=by revert h;cases st <;> first | exact non | exact fun _=>rfl
    revert h;apply zfp hb;clear hb;intro pos h;exact zhd
  | .brk,st,h=>by
    have hb:Μ st.ctorIdx 26=true:=by revert h;cases st <;> first | exact non | exact fun _=>rfl
    revert h;apply zcO hb;clear hb;intro pos h;exact zj3
  | .cnt,st,h=>by
    have hb:Μ st.ctorIdx 27=true:=by revert h;cases st <;> first | exact non | exact fun _=>rfl
    revert h;apply VM hb;clear hb;intro pos h;exact zj0
  | .lin i es,st,h=>by
    have hb:Μ st.ctorIdx 24=true:=by revert h;cases st <;> first | exact non | exact fun _=>rfl
    revert h;apply Yx hb;clear hb;intro x pos h;obtain ⟨n,np,ap,ys,cp,rfl,h1,h3,h5,h6⟩:=zbC (show J4 B c i es x=true from h);unfold chkN at h1;simp only [ζ] at h1;obtain ⟨q1,q2,_⟩:=yz h1.2;have hl:=qH h3;cases ys with
    | nil=>rw [h6] at hl;cases hl
    | cons y ys=>exact zjT (by rw [ok.ok.N];exact eq_of_beq h1.1.1) (ok.ok.vis h1.1.2) q1 q2 (vh h3) (sEs (ok.hcf noX) ok.hm.no es X c (y::ys) ok.ok h3) (by rw [<- hl,h6];decide) h5
  | .sta cs o f e,st,h=>nobE h
  | .aua cs o f op e,st,h=>nobE h
  | .rse cn,st,h=>nobE h
  | .tri tb f es ce i hs,st,h=>nobE h
  | .frz _,st,h=>by revert h;cases st <;> exact nobE
  | .frr _,st,h=>by revert h;cases st <;> exact nobE
  | .frk _,st,h=>by revert h;cases st <;> exact nobE
theorem sCs (ok:XSt Γ B cx ex Hz gz k X c):∀ (ss:List C) (sts:List Stmt),v6 B c ss sts=true->PSs X sts (TCs Γ cx ex w Hz gz ss)
 | [],sts,h=>by
  cases sts with
  | nil=>exact zg5
  | cons _ _=>exact nobE h
 | s::ss,sts,h=>by
  by_cases hf:∃ i,s=.frz i
  ·obtain ⟨i,rfl⟩:=hf;exact zjV (sCs ok ss sts (by cases sts <;> exact h))
  by_cases hr:∃ i,s=.frr i
  ·obtain ⟨i,rfl⟩:=hr;exact zjW (sCs ok ss sts (by cases sts <;> exact h))
  by_cases hk:∃ i,s=.frk i
  ·obtain ⟨i,rfl⟩:=hk;exact zjX (sCs ok ss sts (by cases sts <;> exact h))
  ·cases sts with
   | nil=>cases s <;> first | exact nobE h | exact absurd ⟨_,rfl⟩ hf | exact absurd ⟨_,rfl⟩ hr | exact absurd ⟨_,rfl⟩ hk
   | cons st sts=>
    have h:(chkC B c s st&&v6 B c ss sts)=true:=by cases s <;> first | exact h | exact absurd ⟨_,rfl⟩ hf | exact absurd ⟨_,rfl⟩ hr | exact absurd ⟨_,rfl⟩ hk
    rw [ζ] at h;exact zeL (sC ok s st h.1) (sCs ok ss sts h.2)
end
end
theorem ln1 {α:Type}:∀ {l:List α},l.length=1->∃ a,l=[a]
 | [a],_=>⟨a,rfl⟩
theorem ln2 {α:Type}{l:List α}(h:l.length=2):∃ a0 a1,l=[a0,a1]:=by
 cases l with
 | nil=>cases h
 | cons a0 l=>
  obtain ⟨a1,rfl⟩:=ln1 (dX h);exact ⟨a0,a1,rfl⟩
theorem ln3 {α:Type}{l:List α}(h:l.length=3):∃ a0 a1 a2,l=[a0,a1,a2]:=by
 cases l with
 | nil=>cases h
 | cons a0 l=>
  obtain ⟨a1,a2,rfl⟩:=ln2 (dX h);exact ⟨a0,a1,a2,rfl⟩
theorem ln4 {α:Type}{l:List α}(h:l.length=4):∃ a0 a1 a2 a3,l=[a0,a1,a2,a3]:=by
 cases l with
 | nil=>cases h
 | cons a0 l=>
  obtain ⟨a1,a2,a3,rfl⟩:=ln3 (dX h);exact ⟨a0,a1,a2,a3,rfl⟩
theorem ln5 {α:Type}{l:List α}(h:l.length=5):∃ a0 a1 a2 a3 a4,l=[a0,a1,a2,a3,a4]:=by
 cases l with
 | nil=>cases h
 | cons a0 l=>
  obtain ⟨a1,a2,a3,a4,rfl⟩:=ln4 (dX h);exact ⟨a0,a1,a2,a3,a4,rfl⟩
theorem ln6 {α:Type}{l:List α}(h:l.length=6):∃ a0 a1 a2 a3 a4 a5,l=[a0,a1,a2,a3,a4,a5]:=by
 cases l with
 | nil=>cases h
 | cons a0 l=>
  obtain ⟨a1,a2,a3,a4,a5,rfl⟩:=ln5 (dX h);exact ⟨a0,a1,a2,a3,a4,a5,rfl⟩
theorem ln7 {α:Type}{l:List α}(h:l.length=7):∃ a0 a1 a2 a3 a4 a5 a6,l=[a0,a1,a2,a3,a4,a5,a6]:=by
 cases l with
 | nil=>cases h
 | cons a0 l=>
  obtain ⟨a1,a2,a3,a4,a5,a6,rfl⟩:=ln6 (dX h);exact ⟨a0,a1,a2,a3,a4,a5,a6,rfl⟩
theorem Vk {K:W.Frag}{x:Str}(h:dotted x=false):atN K x=W.nsIn K ϊ x:=by unfold atN;rw [h];rfl
noncomputable def v4 (rs:List Row):Nat->Option Fn:=fun i=>(rs[i]?).map (·.fn)
noncomputable def Q8 (N ps:List Str) (sc:dD):Bool:=
 (sc.kind==.function)&&!sc.isCoroutine&&!sc.isGenerator&&decide N.Nodup&&(N.take ps.length==ps)&&ps.all (fun x=>sc.names.lookup x==some .local||sc.names.lookup x==some .cell)&&sc.names.all (fun y=>y.2 != .free)
theorem Q7 {N ps:List Str}{sc:dD}(h:Q8 N ps sc=true):Xk N ps sc:=by unfold Q8 at h;simp only [ζ,ν,lJ,decide_eq_true_eq,lq,beq_iff_eq,bne_iff_ne] at h;obtain ⟨⟨⟨⟨⟨⟨h1,h2⟩,h3⟩,h4⟩,h5⟩,h6⟩,h7⟩:=h;exact ⟨h1,h2,h3,h4,h5,h6,h7⟩
structure zL (B:Tb) (r:Row):Prop where
 sc:Q8 r.N r.ps (zU r.st)=true
 ck:v6 B ⟨(zU r.st).names,r.N,true⟩ r.fn.body (yH r.st)=true
 np:r.fn.np=r.ps.length
 nv:r.fn.nv=r.N.length
 bd:∀ (kV doc pm:δ) (an:Option Addr) (cdv ct:δ) (us:List δ),us.length=r.ps.length->bindArgs (W.fnOf (nmOf r.name) r.name (xF r.st) (yH r.st) (zU r.st) .none kV doc pm an cdv ct) ⟨us,[]⟩=pure (r.ps.zip us)
def KwOk (rs:List Row) (q:Nat×List Str×List Nat):Prop:=q.2.1≠[]/\∀ r,rs[q.1]?=some r->∀ (kV doc pm:δ) (an:Option Addr) (cdv ct:δ) (ws:List δ),ws.length=q.2.1.length ->
 bindArgs (W.fnOf (nmOf r.name) r.name (xF r.st) (yH r.st) (zU r.st) .none kV doc pm an cdv ct) ⟨[],q.2.1.zip ws⟩=pure (r.ps.zip (q.2.2.map fun i=>ws.getD i .none))
structure Vn (K:W.Frag) (x:Str) (st:Stmt):Prop where
 ex:∃ f fd,Fun K (nmOf x) x st f fd/\atN K x=some (some (.ref f))
theorem zi3 {K:W.Frag}{x:Str}{st:Stmt}{f:Addr}{oc:δ}{od an:Option Addr}{osl:Array (Option δ)}{kV doc pm cdv ct:δ}(a:atN K x=some (some (.ref f)))
  (l:K.lookup f=some ⟨oc,od,.func (W.fnOf (nmOf x) x (xF st) (yH st) (zU st) .none kV doc pm an cdv ct),osl⟩) (c:W.codeIn K cdv x=true) (k:W.keepIn K (.ref f)=true):Vn K x st:=⟨f,_,ziQ l c k,a⟩
noncomputable def faOf (K:W.Frag) (r:Row):Option Addr:=open Classical in if h:∃ f,∃ fd,Fun K (nmOf r.name) r.name r.st f fd/\atN K r.name=some (some (.ref f)) then some (bT h) else none
theorem Uq {K:W.Frag}{r:Row}(h:∃ f,∃ fd,Fun K (nmOf r.name) r.name r.st f fd/\atN K r.name=some (some (.ref f))):faOf K r=some (bT h):=by unfold faOf;exact dif_pos h
noncomputable def gmOf (K:W.Frag) (rs:List Row) (cs:List (Str×List Nat)):Gm where
 K:=K
 fa:=fun i=>(rs[i]?).bind (faOf K)
 ca:=fun c=>(cs[c]?).bind fun p=>caOf K p.1
def AllR {α:Type}(Q:α->Prop):List α->Prop
 | []=>True
 | a::r=>Q a/\AllR Q r
theorem AllR.at {α:Type}{Q:α->Prop}:∀ {l:List α}{i:Nat}{a:α},AllR Q l->l[i]?=some a->Q a
 | [],_,_,_,h=>by simp at h
 | b::r,0,a,⟨h,_⟩,e=>by simp at e;subst e;exact h
 | b::r,i+1,a,⟨_,h⟩,e=>AllR.at (i:=i) h (by simpa using e)
theorem AllR.mem {α:Type}{Q:α->Prop}:∀ {l:List α}{a:α},AllR Q l->a∈l->Q a
 | b::r,a,⟨h,t⟩,e=>by
  rcases ψ.mp e with rfl | q
  ·exact h
  ·exact AllR.mem t q
structure zdx (K:W.Frag) (mg:Str->Option δ) (B:Tb) (rs:List Row):Prop where
 fns:B.fns=rs.map (·.name)
 pars:B.pars=rs.map (·.ps)
 rows:AllR (zL B) rs
 kws:AllR (KwOk rs) B.kws
 defs:AllR (fun r=>Vn K r.name r.st) rs
 gl:∀ x u,W.nsIn K ϊ x=some u->mg x=u
 bare:∀ x∈B.bare,W.nsIn K ϊ x=some none
 consts:∀ (n:Nat) (x:Str) (d:D),B.consts[n]?=some (x,d)->∃ u v,W.nsIn K ϊ x=some (some u)/\RelV v u/\∀ g,Has (gmOf K rs B.cls) g d v
 cls:∀ (c:Nat) (x:Str) (l:List Nat),B.cls[c]?=some (x,l)->∃ C,W.nsIn K ϊ x=some (some (.ref C))/\KCls (gmOf K rs B.cls) (B.cls.map (·.2)) c C
 obs:∀ o∈B.obs,∃ C,W.nsIn K ϊ o.name=some (some (.ref C))/\ObOk (gmOf K rs B.cls) o C
section
variable {P:Ψ}{w:ϕ}{K:W.Frag}{mg:Str->Option δ}{base:Heap}{B:Tb}{rs:List Row}
theorem zk7 {F:Nat->Option Fn}{wh:Nat}(h:∀ f fn ps,F f=some fn->B.pars[f]?=some ps->fn.np=ps.length):∀ k ex,CfN B (za F wh k ex)
 | 0,_=>fun _ _ _ _ _ _ q=>q.elim
 | k+1,_=>fun f ds V S ps hp q=>by obtain ⟨fn,e,hl,_⟩:=yd q;rw [hl,h f fn ps e hp]
theorem QV {Γ:Gm}{H:Hp}{g:G}{fn:Fn}{N:List Str}{ds:List D}{vs:List V}(h:Hass Γ g ds vs) (hn:fn.nv=N.length):EnvO Γ H H g (entry fn ds) (L2.start N vs):=by
 have hl:=h.len;have key:∀ (i:Nat) (s:Slot),(entry fn ds)[i]?=some s->(∃ d,ds[i]?=some d/\s=.sh d)\/s=.no:=by
  intro i s e;unfold entry at e;by_cases hi:i < ds.length
  ·rw [ϗ (by simpa using hi),Ρ,Ε hi] at e;cases e;exact .inl ⟨ds[i],Ε hi,rfl⟩
  ·rw [ϝ (by simpa using lH hi),dw] at e;split at e
   ·cases e;exact .inr rfl
   ·cases e
 refine ⟨?_,fun i d e=>?_,fun i d e=>?_,fun i j d e a h1=>?_⟩
 ·unfold entry L2.start;simp [hl,hn]
 ·rcases key i _ e with ⟨d',e1,e2⟩ | e2
  ·cases e2;obtain ⟨v,q,hv⟩:=h.get e1;refine ⟨v,?_,hv⟩;unfold L2.start;have hi:=(Ι.mp q).1;rw [ϗ (by simpa using hi),Ρ,q];rfl
  ·cases e2
 ·rcases key i _ e with ⟨d',e1,e2⟩ | e2 <;> cases e2
 ·rcases key i _ h1 with ⟨d',e1,e2⟩ | e2 <;> cases e2
theorem fn_e {wh k f:Nat}{r:Row}{fa:Addr}{fd:bw}(md:zdx K mg B rs) (hr:rs[f]?=some r) (F:Fun K (nmOf r.name) r.name r.st fa fd) (ih:∀ (g:Nat) (x:Str),B.fns[g]?=some x->FnI (gmOf K rs B.cls) B (spN (gmOf K rs B.cls) (za (v4 rs) wh k)) k P w K mg base g x):
  FnOk P w K mg base (CX1 P w) (2*k+1+1) fa fd r.ps (spN (gmOf K rs B.cls) (za (v4 rs) wh (k+1)) f r.ps.length):=by
 have ro:=md.rows.at hr;have sc:=Q7 ro.sc
 have hcf:∀ ex,CfN B (za (v4 rs) wh k ex):=zk7 (fun f fn ps h1 h2=>by
  unfold v4 at h1;rw [md.pars,Ρ] at h2;cases e:rs[f]? with
  | none=>rw [e] at h1;cases h1
  | some q=>
   rw [e] at h1 h2;cases h1;cases h2
   exact (md.rows.at e).np) k
 obtain ⟨oc,od,kV,doc,pm,an,cdv,ct,osl,rfl,lk,hcd⟩:=F.ex;refine ziT lk hcd sc (fun vs H Q E h=>h.1) fun A outer s H vs Q E hrm h=>?_
 obtain ⟨hl,g,ds,S,V,ex,wok,hh,hc,kk,kx⟩:=h;obtain ⟨fn,e1,_,hc⟩:=yd hc;have e2:v4 rs f=some r.fn:=by unfold v4;rw [hr];rfl
 rw [e2] at e1;cases e1;refine ⟨TCs (gmOf K rs B.cls) (za (v4 rs) wh k) ex wh H g r.fn.body,sCs (c:=⟨(zU r.st).names,r.N,true⟩) ⟨⟨rfl,rfl,sc.kind,rfl,sc.nd,fun _ _=>rfl,rfl,hrm,fun x hx=>?_,ih,fun x hx=>?_,fun n x d e=>?_,fun f a e=>?_,fun c x l e=>?_,fun c C e=>?_,fun o ho=>?_⟩,rfl,iW.leaving,hcf,yO k,rfl,rfl,fun pJ σ H1 s1 g1 S1 c C h' ea args I st wo hex hca m=>L2.leave_new (X:=cxOf (CX1 P w) P w K mg base r.N r.name (zU r.st) fa cdv A outer s H E) rfl rfl rfl I m (kx c (.ref ea) C H1 g1 S1 st wo hca hex)⟩ r.fn.body (yH r.st) ro.ck,entry r.fn ds,S,_,g,hc,Step.refl H g,wok,QV hh ro.nv,?_⟩
 ·rcases hx with hx | hx
  ·exact Xb hx
  ·exact absurd rfl (sc.nofree _ (bh hx))
 ·exact md.gl x none (md.bare x hx)
 ·obtain ⟨u,v,e1,e2,e3⟩:=md.consts n x d e;exact ⟨u,v,md.gl x (some u) e1,e2,e3⟩
 ·obtain ⟨r,er,_⟩:=ϐ.mp (show (rs[f]?).bind (faOf K)=some a from e);exact ⟨r.name,by rw [md.fns,Ρ,er];rfl⟩
 ·obtain ⟨C,e1,e2⟩:=md.cls c x l e;exact ⟨C,md.gl x _ e1,e2⟩
 ·obtain ⟨p,ep,_⟩:=ϐ.mp (show (B.cls[c]?).bind (fun p=>caOf K p.1)=some C from e);exact ⟨p.1,p.2,ep⟩
 ·obtain ⟨C,e1,e2⟩:=md.obs o ho;exact ⟨C,md.gl _ _ e1,e2⟩
 ·exact ⟨fun ρ σ' H' g' S' st le w' env q=>kk (.non,.st) .non H' g' S' st w' rfl q,fun ρ σ' H' g' S' st le w' env q=>q.elim,fun ρ σ' H' g' S' st le w' env q=>q.elim,fun d fr v H' g' S' st le w' vo q=>kk (d,kd fr) v H' g' S' st w' (VN.of vo) q⟩
theorem fn_0 {f:Nat}{wh:Nat}{fa:Addr}{fd:bw}{ps:List Str}{Γ:Gm}{F:Nat->Option Fn}:FnOk P w K mg base (CX1 P w) 0 fa fd ps (spN Γ (za F wh 0) f ps.length):=
 ⟨fun vs H Q E h=>h.1,fun A outer s H args us vs Q E hr he hb hv ⟨_,g,ds,S,V,_,_,_,hc,_⟩=>hc.elim⟩
theorem Xx:∀ {zs:List V}{ws:List δ}(i:Nat),Vals zs ws->RelV (zs.getD i .non) (ws.getD i .none)
 | _,_,_,.nil=>rfl
 | _,_,0,.cons h _=>h
 | _,_,i+1,.cons _ t=>by have:=Xx i t;simpa using this
theorem U8 {zs:List V}{ws:List δ}(h:Vals zs ws):∀ (perm:List Nat),Vals (perm.map fun i=>zs.getD i .non) (perm.map fun i=>ws.getD i .none)
 | []=>.nil
 | i::r=>.cons (Xx i h) (U8 h r)
theorem zd8 {wh k:Nat}(md:zdx K mg B rs) (h:∀ (f:Nat) (r:Row) (fa:Addr) (fd:bw),rs[f]?=some r->Fun K (nmOf r.name) r.name r.st fa fd->FnOk P w K mg base (CX1 P w) (2*k) fa fd r.ps (spN (gmOf K rs B.cls) (za (v4 rs) wh k) f r.ps.length)):
  ∀ (f:Nat) (x:Str),B.fns[f]?=some x->FnI (gmOf K rs B.cls) B (spN (gmOf K rs B.cls) (za (v4 rs) wh k)) k P w K mg base f x:=by
 intro f x hx;rw [md.fns,Ρ] at hx;cases hr:rs[f]? with
 | none=>rw [hr] at hx;cases hx
 | some r=>
  rw [hr] at hx;cases hx;have da:∃ f,∃ fd,Fun K (nmOf r.name) r.name r.st f fd/\atN K r.name=some (some (.ref f)):=(md.defs.at hr).ex;obtain ⟨fd,F,na⟩:=fV da;have ro:=md.rows.at hr;refine ⟨bT da,fd,r.ps,?_,fun hd=>md.gl _ _ (by rw [<- na];unfold atN;rw [hd];rfl),F.kp,F.binds ro.bd,?_,h f r _ fd hr F,fun ks perm h1 h2 h3 h4 h5=>?_⟩
  ·show (rs[f]?).bind (faOf K)=_
   rw [hr];exact Uq da
  ·rw [md.pars,Ρ,hr];rfl
  ·have hk:=md.kws.mem h5;obtain ⟨oc,od,kV,doc,pm,an,cdv,ct,osl,hfd,lk,hcd⟩:=F.ex;refine ⟨fun s us ws _ hl=>?_,fun {vs us zs ws} r1 r2=>?_⟩
   ·have hl:(if ws.length=ks.length then us++perm.map fun i=>ws.getD i .none else []).length=r.ps.length:=hl;show BindsTo s fd ⟨us,ks.zip ws⟩ (r.ps.zip (if ws.length=ks.length then us++perm.map fun i=>ws.getD i .none else []))
    by_cases hw:ws.length=ks.length
    ·rw [if_pos hw] at hl ⊢;have hu:us=[]:=by
      cases us with
      | nil=>rfl
      | cons _ _=>simp at hl;lia
     subst hu;rw [hfd];exact .of_eq (hk.2 r hr kV doc pm an cdv ct ws hw)
    ·rw [if_neg hw] at hl ⊢;have h0:r.ps=[]:=aY.mp hl.symm;have hk0:ks=[]:=aY.mp (by rw [h4,h0];rfl);exact absurd hk0 hk.1
   ·show Vals (if zs.length=ks.length then vs++perm.map fun i=>zs.getD i .non else []) (if ws.length=ks.length then us++perm.map fun i=>ws.getD i .none else [])
    rw [r2.length];split
    ·exact r1.append (U8 r2 perm)
    ·exact .nil
theorem zei (wh:Nat) (md:zdx K mg B rs):∀ (k f:Nat) (x:Str),B.fns[f]?=some x->FnI (gmOf K rs B.cls) B (spN (gmOf K rs B.cls) (za (v4 rs) wh k)) k P w K mg base f x
 | 0=>zd8 md fun f r fa fd hr F=>fn_0
 | k+1=>zd8 md fun f r fa fd hr F=>fn_e md hr F (zei wh md k)
end
structure Txt (K:W.Frag) (B:Tb) (rs:List Row):Prop where
 defs:AllR (fun r=>Vn K r.name r.st) rs
 bare:AllR (fun x=>W.nsIn K ϊ x=some none) B.bare
 consts:∀ (n:Nat) (x:Str) (d:D),B.consts[n]?=some (x,d)->∃ u v,W.nsIn K ϊ x=some (some u)/\RelV v u/\∀ g,Has (gmOf K rs B.cls) g d v
 cls:∀ (c:Nat) (x:Str) (l:List Nat),B.cls[c]?=some (x,l)->∃ C,W.nsIn K ϊ x=some (some (.ref C))/\KCls (gmOf K rs B.cls) (B.cls.map (·.2)) c C
 obs:∀ o∈B.obs,∃ C,W.nsIn K ϊ o.name=some (some (.ref C))/\ObOk (gmOf K rs B.cls) o C
structure Tabs (B:Tb) (rs:List Row):Prop where
 fns:B.fns=rs.map (·.name)
 pars:B.pars=rs.map (·.ps)
 rows:AllR (zL B) rs
 kws:AllR (KwOk rs) B.kws
theorem zii {K:W.Frag}{B:Tb}{rs:List Row}{h:Heap}{mg:Str->Option δ}(t:Tabs B rs) (x:Txt K B rs) (X:K.In h) (N:h.Ns ϊ mg):zdx K mg B rs where
 fns:=t.fns
 pars:=t.pars
 rows:=t.rows
 kws:=t.kws
 defs:=x.defs
 gl:=fun y u e=>by
  cases u with
  | none=>exact W.mg_none_of X N e
  | some v=>exact W.mg_of X N e
 bare:=fun y hy=>x.bare.mem hy
 consts:=x.consts
 cls:=x.cls
 obs:=x.obs
theorem zgb {K:W.Frag}{rs:List Row}{cs:List (Str×List Nat)}{x:Str}{i:Int}{t:Tok}(h:W.nsIn K ϊ x=some (some (.int i t))):∃ u v,W.nsIn K ϊ x=some (some u)/\RelV v u/\∀ g,Has (gmOf K rs cs) g (.int i) v:=⟨_,.int i,h,⟨t,rfl⟩,fun _=>rfl⟩
theorem zi9 {K:W.Frag}{rs:List Row}{cs:List (Str×List Nat)}{i:Nat}{r:Row}(hr:rs[i]?=some r) (d:Vn K r.name r.st) (hdt:dotted r.name=false):∃ u v,W.nsIn K ϊ r.name=some (some u)/\RelV v u/\∀ g,Has (gmOf K rs cs) g (.fn i) v:=by
 obtain ⟨fd,_,e⟩:=fV d.ex;have e:=(Vk hdt).symm.trans e;refine ⟨.ref (bT d.ex),.ref (bT d.ex),e,rfl,fun g=>⟨bT d.ex,?_,rfl⟩⟩;show (rs[i]?).bind (faOf K)=_
 rw [hr];exact Uq d.ex
theorem zf5 {K:W.Frag}{rs:List Row}{cs:List (Str×List Nat)}{x i:Str}{t:Tok}(h:W.nsIn K ϊ x=some (some (.str i t))):∃ u v,W.nsIn K ϊ x=some (some u)/\RelV v u/\∀ g,Has (gmOf K rs cs) g (.str i) v:=⟨_,.str i,h,⟨t,rfl⟩,fun _=>rfl⟩
open PySem L2
theorem zd6 {n:Nat}{a:Int}(h0:0<=a) (h1:a < (n:Int)):idx n a=some a.toNat:=by
 show (if 0<=a then (if a < n then some a.toNat else none) else _)=_
 rw [if_pos h0,if_pos h1]
theorem Wo {i j:Int}(h:0 < j):opD .Mod (.int i) (.int j)=some (.int (i % j),false):=by
 show (if decide (0 < j)=true then some (i % j) else none).map (fun k=>(D.int k,false))=_
 rw [if_pos (decide_eq_true h)];rfl
theorem zdY {i j:Int}(h:yg i=true):opD .Mult (.int i) (.int j)=some (.int (i*j),false):=by
 show (if (yg i||yg j)=true then some (D.int (i*j),false) else none)=_
 rw [if_pos (by rw [h];rfl)]
theorem zaG {i j:Int}(h:yg j=true):opD .Mult (.int i) (.int j)=some (.int (i*j),false):=by
 show (if (yg i||yg j)=true then some (D.int (i*j),false) else none)=_
 rw [if_pos (by rw [h,lg])]
theorem Jl {i:Int}(h0:0<=i) (h1:i < 4294967296):yg i=true:=by unfold yg;rw [decide_eq_true (by lia),decide_eq_true (by lia)];rfl
theorem fits_of {n:Nat}(h:n<=1000000):fits n=true:=decide_eq_true h
theorem zaL {l:List D}{a:Int}{d:D}(h0:0<=a) (h:l[a.toNat]?=some d):subD (.lst l) (.int a)=some d:=by
 show ((idx l.length a).bind fun k=>l[k]?)=_
 have:=(Ι.mp h).1;rw [zd6 h0 (by lia)];exact h
theorem Xz {l:List D}{a:Int}{d:D}(h0:0<=a) (h:l[a.toNat]?=some d):subD (.tup l) (.int a)=some d:=by
 show ((idx l.length a).bind fun k=>l[k]?)=_
 have:=(Ι.mp h).1;rw [zd6 h0 (by lia)];exact h
theorem Yp {lo hi:Int}{d:D}(h:d∈zV lo hi):∃ j,d=.int j/\lo<=j/\j < hi:=by unfold zV at h;obtain ⟨k,hk,e⟩:=Ο.mp h;have:=bG.mp hk;exact ⟨lo+k,e.symm,by lia,by lia⟩
theorem uM (lo hi:Int):(zV lo hi).length=(hi - lo).toNat:=by unfold zV;rw [υ,fG]
theorem Yw {n:Nat}:∀ {l:List D},(∀ d∈l,okP n d=true)->okPs n l=true
 | [],_=>rfl
 | d::l,h=>by
  show (okP n d&&okPs n l)=true
  rw [h d (θ ..),Yw fun x hx=>h x (ι _ hx)];rfl
theorem zkM {a b:D}(ha:okP 60 a=true) (hb:okP 60 b=true):cmpD .Eq a b=some (eqP a b):=by
 show (if (okP 60 a&&okP 60 b)=true then some (eqP a b) else none)=_
 rw [ha,hb];rfl
theorem zku {a b:D}(ha:okP 60 a=true) (hb:okP 60 b=true):cmpD .NotEq a b=some (!eqP a b):=by
 have e:cmpD .NotEq a b=(if (okP 60 a&&okP 60 b)=true then some (eqP a b) else none).map (!·):=by
  cases a with
  | dK=>exact nobE ha
  | _=>rfl
 rw [e,ha,hb];rfl
theorem xX {a b:List D}(h:a.length+b.length<=1000000):opD .Add (.tup a) (.tup b)=some (.tup (a++b),false):=by
 show (if fits (a.length+b.length)=true then some (D.tup (a++b),false) else none)=_
 rw [if_pos (fits_of h)]
theorem UV {a b:List D}(h:a.length+b.length<=1000000):opD .Add (.lst a) (.lst b)=some (.lst (a++b),true):=by
 show (if fits (a.length+b.length)=true then some (D.lst (a++b),true) else none)=_
 rw [if_pos (fits_of h)]
theorem WT {l:List D}{n:Nat}(h:n<=l.length):cutD l none (some (n:Int))=l.take n:=by unfold cutD;rw [HT.Jq,HT.Q9,gG h];rfl
theorem J2 {l:List D}{n:Nat}(h:n<=l.length):cutD l (some (n:Int)) none=l.drop n:=by unfold cutD;rw [HT.Jq,HT.Q9,gG h,gh (by rw [ϥ];lia)]
section
variable {α:Type}{F:Nat->Option Fn}{cf:Cf}{cx:Xp->Cf}{ex:Xp}{w k f:Nat}{ds:List D}{V V':Po}{S:Store}{K:Ko}{ρ:List Slot}{x:Vl}{d:D}{b:Bool}{l:List D}{c:C}{cs:List C}
theorem zE {o:Option α}{Q:α->Prop}{a:α}(h:o=some a) (q:Q a):opt o Q:=by subst h;exact q
theorem zQ {o:Option (List Slot)}{Q:List Slot->Prop}{a:List Slot}(h:o=some a) (q:Q a):optS o Q:=by subst h;exact q
theorem zT {o:Option (D×Bool)}{Q:Vl->Prop}(h:o=some (d,false)) (q:Q (d,.st)):opV o Q:=by subst h;exact q
theorem Wf {o:Option (D×Bool)}{Q:Vl->Prop}(h:o=some (d,true)) (q:Q (d,.fr)):opV o Q:=by subst h;exact q
theorem yf {T F:Prop}(h:b=true) (q:T):tst b T F:=by subst h;exact q
theorem wB {T F:Prop}(h:b=false) (q:F):tst b T F:=by subst h;exact q
theorem zj {T F:Prop}(t:b=true->T) (f:b=false->F):tst b T F:=by
 cases b with
 | true=>exact t rfl
 | false=>exact f rfl
theorem kp_s {Q:D->Prop}(h:x=(d,.st)) (q:Q d):keep x Q:=by subst h;exact q
theorem kp_f {Q:D->Prop}(h:x=(d,.fr)) (q:Q d):keep x Q:=by subst h;exact q
theorem bx_f {Q:D->Prop}(h:x=(d,.fr)) (q:Q d):boxd x Q:=by subst h;exact q
theorem rv_s {Q:O->Prop}(h:x=(d,.st)) (q:Q (.ret d false)):retV x Q:=by subst h;exact q
theorem rv_f {Q:O->Prop}(h:x=(d,.fr)) (q:Q (.ret d true)):retV x Q:=by subst h;exact q
theorem Xf {Q:Bool->Prop}(h:d=.bl b) (q:Q b):isB d Q:=by subst h;exact q
theorem ziD {Q:Nat->Prop}{f:Nat}(h:d=.fn f) (q:Q f):isF d Q:=by subst h;exact q
theorem ZK {Q:Int->Prop}{i:Int}(h:d=.int i) (q:Q i):isZ d Q:=by subst h;exact q
theorem zjD {s:Option Slot}{P Q:D->Prop}(h:s=some (.sh d)) (q:P d):sel s P Q:=by subst h;exact q
theorem zjE {s:Option Slot}{P Q:D->Prop}(h:s=some (.ow d)) (q:Q d):sel s P Q:=by subst h;exact q
theorem yc {s:Option Slot}{Q:Vl->Prop}(h:s=some (.sh d)) (q:Q (d,.st)):rdV s Q:=by subst h;exact q
theorem zj8 {s:Option Slot}{Q:Vl->Prop}(h:s=some (.ow d)) (q:Q (d,.bo)):rdV s Q:=by subst h;exact q
theorem zdR {s:Option Slot}{Q:List D->Prop}(h:s=some (.ow (.lst l))) (q:Q l):owL s Q:=by subst h;exact q
theorem zhT {s:Option Slot}{Q:D->Prop}(h:s=some (.ow d)) (q:Q d):owD s Q:=by subst h;exact q
theorem zja {s:Option D}{Q:List D->Prop}(h:s=some (.lst l)) (q:Q l):isL s Q:=by subst h;exact q
theorem ziC {n:Nat}{Q:Nat->Prop}(h:d=.ref n) (q:Q n):isR d Q:=by subst h;exact q
theorem zu (h:wpC cx ex w c ρ (nxt (fun ρ' S'=>wpCs cx ex w cs ρ' K S') K) S):wpCs cx ex w (c::cs) ρ K S:=h
theorem vP (h:K (.next ρ) S):wpCs cx ex w [] ρ K S:=h
theorem zM {g:List Slot->Store->Prop}(h:g ρ S):nxt g K (.next ρ) S:=h
theorem zgL {g:List Slot->Store->Prop}(h:K (.ret d b) S):nxt g K (.ret d b) S:=h
theorem zgN {g:List Slot->Store->Prop}(h:K (.brk ρ) S):nxt g K (.brk ρ) S:=h
theorem zgM {g:List Slot->Store->Prop}(h:K (.cnt ρ) S):nxt g K (.cnt ρ) S:=h
theorem to_s (h:V (d,.st) S):told V (.ret d false) S:=h
theorem to_f (h:V (d,.fr) S):told V (.ret d true) S:=h
theorem zes (h:V (.non,.st) S):told V (.next ρ) S:=h
theorem zer {I:List Slot->Store->Prop}(h:I ρ S):trn K I (.next ρ) S:=h
theorem zgI {I:List Slot->Store->Prop}(h:I ρ S):trn K I (.cnt ρ) S:=h
theorem zgJ {I:List Slot->Store->Prop}(h:K (.next ρ) S):trn K I (.brk ρ) S:=h
theorem zgH {I:List Slot->Store->Prop}(h:K (.ret d b) S):trn K I (.ret d b) S:=h
theorem wp_mono (h:za F w k ex f ds V S) (q:∀ x S,V x S->V' x S):za F w k ex f ds V' S:=(yO k).no f ds V V' S q h
theorem zq {fn:Fn}{bd:List C}(hf:F f=some fn) (hl:ds.length=fn.np) (hb:fn.body=bd) (h:wpCs (za F w k) ex w bd (entry fn ds) (told V) S):za F w (k+1) ex f ds V S:=by
 show opt (F f) _
 rw [hf];exact ⟨hl,by rw [hb];exact h⟩
theorem wp_walk {t:T}{A:List C}(I:List D->List Slot->Store->Prop)
  (step:∀ d l ρ S,I (d::l) ρ S->optS (yD ρ t (d,false)) fun ρ1=>wpCs (za F w k) ex w A ρ1 (trn K (I l)) S)
  (fin:∀ ρ S,I [] ρ S->K (.next ρ) S):∀ (l:List D) (ρ:List Slot) (S:Store),I l ρ S->forW t (fun ρ=>wpCs (za F w k) ex w A ρ) l ρ K S
 | [],ρ,S,h=>fin ρ S h
 | d::l,ρ,S,h=>zm (fun ρ1 q=>yC (yO k) A (fun _ _=>id) (jA (fun ρ S=>wp_walk I step fin l ρ S) fun _ _=>id) q) (step d l ρ S h)
theorem Z6 {e:E}{A:List C}(I:Nat->List Slot->Store->Prop)
  (step:∀ n ρ S,I n ρ S->wpE (qI F w k) ρ e (fun x S1=>isB x.1 fun b=>tst b (∃ m,n=m+1/\wpCs (za F w k) ex w A ρ (trn K (I m)) S1) (K (.next ρ) S1)) S):
  ∀ (N n:Nat) (ρ:List Slot) (S:Store),n < N->I n ρ S->whlW (fun ρ=>wpX (qI F w k) ρ e) (fun ρ=>wpCs (za F w k) ex w A ρ) N ρ K S
 | 0,n,ρ,S,hn,h=>absurd hn (Nat.not_lt_zero n)
 | N+1,n,ρ,S,hn,h=>zb (zbD k) e (fun x S1=>xq fun b=>zJ (fun ⟨m,e,q⟩=>yC (yO k) A (fun _ _=>id) (jA (fun ρ S=>Z6 I step N m ρ S (by lia)) fun _ _=>id) q) id) (step n ρ S h)
theorem zG {i:Nat}:wpE cf ρ (.var i) V S=(rdV ρ[i]? fun x=>V x S):=rfl
theorem zW {d:D}:wpE cf ρ (.con d) V S=(V (d,.st) S):=rfl
theorem ziY {n:Nat}{d:D}:wpE cf ρ (.glo n d) V S=(V (d,.st) S):=rfl
theorem vG {op:gO}{a:E}{b:E}:wpE cf ρ (.bin op a b) V S=(wpE cf ρ a (fun x S1=>wpE cf ρ b (fun y S2=>opV (opD op (zH S2 x.1) (zH S2 y.1)) fun x=>V x S2) S1) S):=rfl
theorem zkX {a:E}:wpE cf ρ (.neg a) V S=(wpE cf ρ a (fun x S1=>isZ x.1 fun i=>V (.int (-i),.st) S1) S):=rfl
theorem vD {op:gQ}{a:E}{b:E}:wpE cf ρ (.cmp op a b) V S=(wpE cf ρ a (fun x S1=>wpE cf ρ b (fun y S2=>opt (cmpD op (zH S2 x.1) (zH S2 y.1)) fun r=>V (.bl r,.st) S2) S1) S):=rfl
theorem zk2 {o1:gQ}{o2:gQ}{a:E}{b:E}{c:E}:wpE cf ρ (.chn o1 o2 a b c) V S=(wpE cf ρ a (fun x S1=>wpE cf ρ b (fun y S2=>opt (cmpD o1 (zH S2 x.1) (zH S2 y.1)) fun r=>tst r (wpE cf ρ c (fun z S3=>opt (cmpD o2 (zH S3 y.1) (zH S3 z.1)) fun r=>V (.bl r,.st) S3) S2) (V (.bl false,.st) S2)) S1) S):=rfl
theorem zkW {a:E}:wpE cf ρ (.not a) V S=(wpE cf ρ a (fun x S1=>isB x.1 fun b=>V (.bl (!b),.st) S1) S):=rfl
theorem zf2 {a:E}{b:E}:wpE cf ρ (.and a b) V S=(wpE cf ρ a (fun x S1=>isB x.1 fun r=>tst r (wpE cf ρ b V S1) (V (.bl false,.st) S1)) S):=rfl
theorem e_or {a:E}{b:E}:wpE cf ρ (.or a b) V S=(wpE cf ρ a (fun x S1=>isB x.1 fun r=>tst r (V (.bl true,.st) S1) (wpE cf ρ b V S1)) S):=rfl
theorem zkZ {c:E}{a:E}{b:E}:wpE cf ρ (.ite c a b) V S=(wpE cf ρ c (fun x S1=>isB x.1 fun r=>tst r (wpE cf ρ a V S1) (wpE cf ρ b V S1)) S):=rfl
theorem ux {es:List E}:wpE cf ρ (.tup es) V S=(wpEs cf ρ es (fun ds S1=>tst (fits ds.length) (V (.tup ds,.st) S1) False) S):=rfl
theorem zda {es:List E}:wpE cf ρ (.lst es) V S=(wpEs cf ρ es (fun ds S1=>tst (fits ds.length) (V (.lst ds,.fr) S1) False) S):=rfl
theorem zk1 {tk:Bool}{ks:List Key}{es:List E}:wpE cf ρ (.dic tk ks es) V S=(wpEs cf ρ es (fun ds S1=>tst (zdd tk ks ds) (V (dicV tk ks ds,.fr) S1) False) S):=rfl
theorem vC {a:E}{i:E}:wpE cf ρ (.sub a i) V S=(wpE cf ρ a (fun x S1=>wpE cf ρ i (fun y S2=>opt (subD (zH S2 x.1) y.1) fun d=>V (d,.st) S2) S1) S):=rfl
theorem zbq {a:E}{lo:Option E}{hi:Option E}:wpE cf ρ (.slc a lo hi) V S=(wpE cf ρ a (fun x S1=>wpO cf ρ lo (fun l S2=>wpO cf ρ hi (fun h S3=>opV (slcD (zH S3 x.1) l h) fun x=>V x S3) S2) S1) S):=rfl
theorem e_bi {b:BI}{e:E}:wpE cf ρ (.bi b [e]) V S=(wpE cf ρ e (fun x S1=>opV (biD b [zH S1 x.1]) fun x=>V x S1) S):=rfl
theorem zk4 {b:BI}{e e':E}:wpE cf ρ (.bi b [e,e']) V S=(wpEs cf ρ [e,e'] (fun ds S1=>opV (biD b (ds.map (zH S1))) fun x=>V x S1) S):=rfl
theorem zkY {m:MT}{o:E}{es:List E}:wpE cf ρ (.mth m o es) V S=(wpE cf ρ o (fun x S1=>tst (mthK m (zH S1 x.1)) (wpEs cf ρ es (fun ds S2=>opV (mthD m (zH S2 x.1) ds) fun x=>V x S2) S1) False) S):=rfl
theorem ym {f:Nat}{es:List E}:wpE cf ρ (.call f es) V S=(wpEs cf ρ es (fun ds S1=>cf f ds V S1) S):=rfl
theorem zf1 {f:Nat}{perm:List Nat}{es:List E}:wpE cf ρ (.callk f perm es) V S=(wpEs cf ρ es (fun ds S1=>opt (perm.mapM fun i=>ds[i]?) fun ds=>cf f ds V S1) S):=rfl
theorem zk3 {e:E}:wpE cf ρ (.box e) V S=(wpE cf ρ e (fun x S1=>boxd x fun d=>V (.ref S1.length,.st) (S1++[d])) S):=rfl
theorem zbr {i:Nat}{es:List E}:wpE cf ρ (.callv i es) V S=(rdV ρ[i]? fun x=>isF x.1 fun f=>wpEs cf ρ es (fun ds S1=>cf f ds V S1) S):=rfl
theorem ziX {e:E}:wpE cf ρ (.one e) V S=(wpE cf ρ e V S):=rfl
theorem zk0 {a b:E}:wpE cf ρ (.dk1 a b) V S=(wpE cf ρ a (fun x S1=>keep x fun d=>wpE cf ρ b (fun y S2=>keep y fun e=>opt (dk1D [d,e]) fun r=>V (r,.fr) S2) S1) S):=rfl
theorem ziZ {e:E}:wpE cf ρ (.flip e) V S=(wpE cf ρ e (fun x S1=>opV (ziV (zH S1 x.1)) fun x=>V x S1) S):=rfl
theorem xG {t:T}{js:List Nat}{it elt:E}{ifs:List E}(h:wpI cf ρ it (fun its S1=>xu (zge cf ρ t js ifs elt) its [] (fun ds S2=>V (.lst ds,.fr) S2) S1) S):wpE cf ρ (.comp t js it ifs elt) V S:=h
end
noncomputable def kp (p:List Int):List Key:=p.map gq
theorem zam {ks:List Key}{vs:List D}{s:Str}{v:D}(h:hasK ks (.inr s)=false) (hl:ks.length+1<=1000000):putD (.dK ks vs) (.str s) v=some (.dK (ks++[.inr s]) (vs++[v])):=by
 show (if fits (ks.length+1)=true then some (D.dK (yu ks vs (bc s) v).1 (yu ks vs (bc s) v).2) else none)=_
 rw [if_pos (fits_of hl)];unfold yu;rw [h];rfl
theorem zf4 (ns:List Int) (lo hi:Option Int):∃ ms:List Int,cutD (ns.map D.int) lo hi=ms.map D.int/\ms.length<=ns.length:=by unfold cutD;rw [<- List.map_drop,<- mU];refine ⟨_,rfl,?_⟩;rw [ϛ,ϥ];lia
theorem QZ {x k:Int}(h0:0 < k) (h1:k<=4294967296):yg (x % k)=true:=Jl (bQ _ (by lia)) (by have:=aR x h0;lia)
theorem jE {lo hi:Int}(h:lo < hi):zV lo hi=.int lo::zV (lo+1) hi:=by
 unfold zV;obtain ⟨m,hm⟩:∃ m,(hi - lo).toNat=m+1:=⟨(hi - lo).toNat - 1,by lia⟩
 have e:(hi - (lo+1)).toNat=m:=by lia
 rw [hm,e,nj,ϒ,bA]
 congr 1
 ·simp
 ·refine eE fun k _=>?_
  simp;lia
theorem zad {lo hi:Int}(h:hi<=lo):zV lo hi=[]:=by unfold zV;rw [show (hi - lo).toNat=0 by lia];rfl
theorem om1 {a b K:Nat}(h:b<=K) (e:Nat.ble a b=true):a<=K:=Ϛ (gP e) h
theorem om2 {a b K:Nat}(h:b<=K+1) (e:Nat.ble (a+1) b=true):a<=K:=Nat.le_of_succ_le_succ (Ϛ (gP e) h)
theorem om3 {b K:Nat}(h:b<=K) (e:Nat.ble 1 b=true):K=K - 1+1:=(Nat.sub_add_cancel (Ϛ (gP e) h)).symm
theorem frIn {h:Heap}:∀ (l:List Addr) (a:Addr) (o:Obj),(l.filterMap fun a=>(h.get? a).map fun o=>(a,o)).lookup a=some o->h.get? a=some o
 | [],a,o,e=>by cases e
 | b::l,a,o,e=>by
  rw [b7] at e;cases q:h.get? b with
  | none=>rw [q] at e;exact frIn l a o e
  | some x=>
   rw [q] at e;dsimp only [fZ] at e;rw [aB] at e;cases hb:a==b with
   | true=>
    rw [hb] at e;cases eq_of_beq hb;exact q.trans e
   | false=>
    rw [hb] at e;exact frIn l a o e
set_option tactic.hygienic true in
theorem zde {K:W.Frag}{x:Str}{st:Stmt}(e:zbn K x=some (W.fnOf (nmOf x) x (xF st) (yH st) (zU st) .none .none .none .none none .none .none,true)):Vn K x st:=by
 unfold zbn at e;split at e
 ·rename_i f hf
  split at e
  ·rename_i oc od fd osl hl
   obtain ⟨e1,e2⟩:=gw (ϙ e);obtain ⟨c,k⟩:=ε.mp e2;generalize hnn:nmOf x=nn at e1;cases fd;cases e1;dsimp only at hnn;subst hnn;exact zi3 hf hl c k
  ·cases e
 ·cases e
set_option tactic.hygienic true in
theorem zeq {K:W.Frag}{a:Addr}{its:Array δ}(h:zgG K a=some its):∃ o n,K.lookup a=some o/\o.cls=.type "tuple"/\o.data=.seq its n/\its.size<=sizeLine:=by
 obtain ⟨o,e1,e2⟩:=ϐ.mp h;split at e2
 ·rename_i t js n c1 c2
  split at e2
  ·rename_i c
   cases e2;obtain ⟨c3,c4⟩:=ε.mp c;exact ⟨o,n,e1,by rw [c1,eq_of_beq c3],c2,Ϛ (of_decide_eq_true c4) (by rw [aF];decide)⟩
  ·cases e2
 ·cases e2
theorem Up:∀ (ds:List D) (vs:List δ),ZQ ds vs=true->∃ xs:List V,Vals xs vs/\∀ (Γ:Gm) (g:G),Hass Γ g ds xs
 | [],[],_=>⟨[],.nil,fun _ _=>rfl⟩
 | .str x::ds,.str y t::vs,h=>by obtain ⟨h1,h2⟩:=ε.mp (show (x==y&&ZQ ds vs)=true from h);obtain ⟨xs,v,k⟩:=Up ds vs h2;exact ⟨.str x::xs,.cons ⟨t,by rw [eq_of_beq h1]⟩ v,fun Γ g=>⟨_,_,rfl,rfl,k Γ g⟩⟩
 | .int x::ds,.int y t::vs,h=>by obtain ⟨h1,h2⟩:=ε.mp (show (x==y&&ZQ ds vs)=true from h);obtain ⟨xs,v,k⟩:=Up ds vs h2;exact ⟨.int x::xs,.cons ⟨t,by rw [eq_of_beq h1]⟩ v,fun Γ g=>⟨_,_,rfl,rfl,k Γ g⟩⟩
set_option tactic.hygienic true in
theorem zi1 {K:W.Frag}{a:Addr}{ps:List (Str×Int)}(h:zi2 K a ps=true):KDic K a ps:=by
 obtain ⟨h1,h2⟩:=ε.mp h;refine ⟨?_,fun h k=>W.kt_text_in k h2⟩;split at h1
 ·rename_i o e
  obtain ⟨h3,h4⟩:=ε.mp h1;split at h3
  ·rename_i t c
   exact ⟨o,e,by rw [c,eq_of_beq h3],Option.isNone_iff_eq_none.mp h4⟩
  ·cases h3
 ·cases h1
set_option tactic.hygienic true in
theorem zi8 {K:W.Frag}{rs:List Row}{cs:List (Str×List Nat)}{c:Nat}{p:Str×List Nat}(hp:cs[c]?=some p) (h:zdj K cs p=true):∃ C,W.nsIn K ϊ p.1=some (some (.ref C))/\KCls (gmOf K rs cs) (cs.map (·.2)) c C:=by
 unfold zdj at h;cases e:caOf K p.1 with
 | none=>rw [e] at h;cases h
 | some C=>
  rw [e] at h;simp only [ζ,beq_iff_eq,ν] at h;obtain ⟨⟨⟨⟨⟨⟨⟨⟨h1,h2⟩,h3⟩,h4⟩,h5⟩,h6⟩,h7⟩,h8⟩,h9⟩:=h;have hs:∀ k,subT (cs.map (·.2)) c k=p.2.contains k:=fun k=>by unfold subT;rw [Ρ,hp];rfl
  have hq:∀ k Ck,(gmOf K rs cs).ca k=some Ck->W.kitOne K (.ref C) (.ref Ck)=some (p.2.contains k)/\W.exmOne K (.ref C) (.ref Ck)=some (p.2.contains k):=fun k Ck hk=>by obtain ⟨q,e1,e2⟩:=ϐ.mp (show (cs[k]?).bind (fun p=>caOf K p.1)=some Ck from hk);have:=h9 k (bG.mpr (Ι.mp e1).1);rw [e1] at this;dsimp only at this;rw [e2] at this;simp only [ζ,beq_iff_eq] at this;exact this
  refine ⟨C,?_,⟨?_,h1,⟨h2,h3,h4,h5,h6,h7⟩,fun k Ck hk=>by rw [hs];exact (hq k Ck hk).1,h8,fun k Ck hk=>by rw [hs];exact (hq k Ck hk).2⟩⟩
  ·unfold caOf at e;split at e
   ·rename_i z;cases e;exact z
   ·cases e
  ·show (cs[c]?).bind (fun p=>caOf K p.1)=some C
   rw [hp];exact e
set_option tactic.hygienic true in
theorem zkr {K:W.Frag}{rs:List Row}{cs:List (Str×List Nat)}{o:Ob}(hd:AllR (fun r=>Vn K r.name r.st) rs) (h:obOk K rs o=true):∃ C,W.nsIn K ϊ o.name=some (some (.ref C))/\ObOk (gmOf K rs cs) o C:=by
 unfold obOk at h;cases e:caOf K o.name with
 | none=>rw [e] at h;cases h
 | some C=>
  rw [e] at h;simp only [ζ,beq_iff_eq,ν] at h;obtain ⟨⟨⟨⟨⟨⟨h1,h2⟩,h3⟩,h4⟩,h5⟩,h6⟩,h7⟩:=h;have key:∀ (m:Str) (i:Nat),(m,i)∈o.meths->∃ a,(gmOf K rs cs).fa i=some a/\L2.Meth K C m a:=fun m i hm=>by
   have:=h7 (m,i) hm;dsimp only at this;cases er:rs[i]? with
   | none=>rw [er] at this;cases this
   | some r=>
    rw [er] at this;dsimp only at this;have da:=(hd.at er).ex;obtain ⟨fd,F,na⟩:=fV da;rw [na] at this;simp only [ζ,beq_iff_eq] at this;refine ⟨bT da,?_,⟨this.1.1,this.1.2,this.2⟩⟩;show (rs[i]?).bind (faOf K)=_
    rw [er];exact Uq da
  refine ⟨C,?_,⟨e,⟨h1,h2,h3,h4⟩,h5,key,fun i hi=>?_⟩⟩
  ·unfold caOf at e;split at e
   ·rename_i z;cases e;exact z
   ·cases e
  ·obtain ⟨a,e1,mt⟩:=key "__init__" i hi;have hy:(o.meths.any fun q=>q.1==("__init__":Str))=true:=Ϧ.mpr ⟨_,hi,by simp⟩;rw [hy] at h6;have h6:(W.makesIn K C&&W.keepIn K (.ref C))=true:=by simpa using h6
   rw [ζ] at h6;exact ⟨a,e1,⟨h6.1,mt.at_,mt.fn,h6.2⟩⟩
theorem vB {α β:Type}{f g:α->β}{Q:α->Prop}(h:∀ a,f a=g a->Q a):∀ {l:List α},l.map f=l.map g->AllR Q l
 | [],_=>trivial
 | a::l,e=>by obtain ⟨e1,e2⟩:=List.cons.inj e;exact ⟨h a e1,vB h e2⟩
set_option tactic.hygienic true in
theorem zi6 {K:W.Frag}{rs:List Row}{cs:List (Str×List Nat)}{x:Str}{d:D}(hd:AllR (fun r=>Vn K r.name r.st) rs) (e:Uu K rs x d=true):∃ u v,W.nsIn K ϊ x=some (some u)/\RelV v u/\∀ g,Has (gmOf K rs cs) g d v:=by
 cases d with
 | int i=>
  unfold Uu at e;dsimp only at e;split at e
  ·rename_i j t q
   cases eq_of_beq e;exact zgb q
  ·cases e
 | str y=>
  unfold Uu at e;dsimp only at e;split at e
  ·rename_i j t q
   cases eq_of_beq e;exact zf5 q
  ·cases e
 | fn i=>
  unfold Uu at e;dsimp only at e;split at e
  ·rename_i r q
   rw [ζ] at e;cases eq_of_beq e.1;exact zi9 q (hd.at q) (by simpa using e.2)
  ·cases e
 | ktp ds=>
  unfold Uu at e;dsimp only at e;split at e
  ·rename_i a q
   split at e
   ·rename_i its z
    obtain ⟨o,n,z1,z2,z3,z4⟩:=zeq z;obtain ⟨xs,v,k⟩:=Up _ _ e;exact ⟨.ref a,.ref a,q,rfl,fun g=>⟨a,xs,rfl,⟨o,its,n,z1,z2,z3,z4,v⟩,k _ g⟩⟩
   ·cases e
  ·cases e
 | kdc ps=>
  unfold Uu at e;dsimp only at e;split at e
  ·rename_i a q
   exact ⟨.ref a,.ref a,q,rfl,fun g=>⟨a,rfl,zi1 e⟩⟩
  ·cases e
 | _=>cases e
theorem zgE {K:W.Frag}{B:Tb}{rs:List Row}(e:Kz K B rs=Kg B rs):Txt K B rs:=by obtain ⟨e1,e2⟩:=gw e;obtain ⟨e2,e3⟩:=gw e2;obtain ⟨e3,e4⟩:=gw e3;obtain ⟨e4,e5⟩:=gw e4;have ho:AllR (fun o=>obOk K rs o=true) B.obs:=vB (fun p q=>q) e5;have hk:AllR (fun p=>zdj K B.cls p=true) B.cls:=vB (fun p q=>q) e4;have hd:AllR (fun r=>Vn K r.name r.st) rs:=vB (fun r q=>zde q) e1;have hc:AllR (fun p:Str×D=>∃ u v,W.nsIn K ϊ p.1=some (some u)/\RelV v u/\∀ g,Has (gmOf K rs B.cls) g p.2 v) B.consts:=vB (fun p q=>zi6 hd q) e3;exact ⟨hd,vB (fun x q=>q) e2,fun n x d q=>hc.at q,fun c x l q=>zi8 q (hk.at q),fun o hm=>zkr hd (ho.mem hm)⟩
abbrev zgw (B:Tb) (rs:List Row) (h:Heap):Prop:=∃ K:W.Frag,K.In h/\Txt K B rs
theorem zgF {B:Tb}{rs:List Row}{n:Nat}(w:ϕ) (s:ω) (e:Kz (frOf s.heap n) B rs=Kg B rs):zgw B rs s.heap:=⟨frOf s.heap n,fun a o q=>frIn _ a o q,zgE e⟩
theorem zjo {l:W.OpenLaw}{q:Ψ}{loose:List Str}{XP:(Str->Option δ)->Heap->Prop}{d:DefRec}{B:Tb}{rs:List Row}{f:Nat}{r:Row}{y:Str}{wh:Nat}(hn:l.most=some 63) (hdf:d.params.defaults=[])
  (hr:rs[f]?=some r) (hd:d.name=r.name) (hdt:dotted r.name=false) (hps:r.ps=[y]) (t:Tabs B rs)
  (run:∀ ns:List Int,ns.length<=63->qI (v4 rs) wh 60 f [.scr ns] (fun x _=>x.1=.bl true) []):W.WalkO q loose XP (fun _ h=>zgw B rs h) l.row.toRowW d [] (fun f vs=>PySem.call f vs):=by
 refine Att.UL hn hdf fun w sy s₁ mg mb fa o pm cd doc a vs ns G Y ho hd' hcd hmg hobj hints hlen hg=>?_
 obtain ⟨K,KX,tx⟩:=Y;obtain ⟨fa',fd,F,na⟩:=(tx.defs.at hr).ex;rw [hd] at hmg;have na:=(Vk hdt).symm.trans na;have e:=hmg.symm.trans (W.mg_of KX G.T.g na);cases e;have ro:=t.rows.at hr;refine zcW (CX:=CX1 l.prog w) (k:=120) (x:=y) (fd:=fd) (sp:=spN (gmOf K rs B.cls) (za (v4 rs) wh 60) f 1) KX G.T.g G.T.b G.T.builtins G.T.nolimit hg hobj hints (Ϛ hlen (by decide)) ⟨rfl,rfl,by decide,by decide⟩ (fun base KB NB=>?_) (fun s v=>?_) (fun H hO hS=>?_) fun H e s' ⟨_,_,_,_,_,_,_,_,_,_,_,_,z⟩=>z
 ·have md:=zii t tx KX G.T.g;have:=fn_e (P:=l.prog) (w:=w) (base:=base) (wh:=wh) (k:=59) md hr F (zei wh md 59);rw [hps] at this;exact this
 ·obtain ⟨oc,od,kV,doc,pm,an,cdv,ct,osl,rfl,lk,hcd⟩:=F.ex;have hb:=ro.bd kV doc pm an cdv ct [v] (by rw [hps];rfl);rw [hps] at hb;exact .of_eq hb
 ·refine ⟨rfl,⟨H,[]⟩,[.scr ns],[],_,noX,⟨Same.refl H,rfl,gR,(fun k c b h1 _ _=>by cases h1),(fun k c b h1 _=>by cases h1)⟩,⟨.ref a,[],rfl,⟨a,rfl,hS⟩,rfl⟩,run ns hlen,fun x v H' g' S' _ _ vx q=>?_,fun _ _ _ _ _ _ _ _ _ z=>z.elim⟩;obtain ⟨d,k⟩:=x;cases (show d=.bl true from q);exact vx.sc fun _ z=>z.elim
theorem zkA {α β γ:Type}{o:Option γ}{f:γ->α}{g:γ->β}{a:α}{b:β}(h1:o.map f=some a) (h2:o.map g=some b):o.map (fun s=>(f s,g s))=some (a,b):=by
 cases o with
 | none=>cases h1
 | some s=>cases h1;cases h2;rfl
theorem zkz {p q:Ψ}{loose:List Str}{Xt:ω->Bool}{α:Type}{Yf:ω->α}{y:α}{N:Nat}(row:String)
  (h:∀ (b:Bool) (w:ϕ),(W.openEnds iR p (w.withFollow row b) N).map (fun s=>W.openSeen q loose (m6 p.main.body) Xt true s)=some (W.openGood q loose))
  (h2:∀ (b:Bool) (w:ϕ),(W.openEnds iR p (w.withFollow row b) N).map Yf=some y):W.LeftO p q loose Xt Yf (fun _=>y) N:=fun w=>by have a:=zkA (h (w.params.followText row) w) (h2 (w.params.followText row) w);rw [ϕ.withFollow_self w row] at a;exact a
theorem ziM {l:W.OpenLaw}{q:Ψ}{loose:List Str}{d:DefRec}{B:Tb}{rs:List Row}{f:Nat}{r:Row}{y:Str}{wh:Nat}(N n:Nat) (ok:l.wellSaid=true)
  (left:W.LeftO l.prog q loose (fun s=>W.xlAt q [] s&&W.recOk [] s) (fun s=>Kz (frOf s.heap n) B rs) (fun _=>Kg B rs) N)
  (hdef:W.defOf q l.name=some (d,[])) (hp:l.prog.theDef l.name=some (d.params,d.body,d.scope)) (hk:W.kwWritten? d.params.kwonlyargs d.params.kw_defaults=some [])
  (okk:(W.chainsOk q&&W.opensWell l.prog&&(W.frees l.row.toRowW&&l.row.within.isEmpty))=true) (hb:l.prog.bare) (hw:l.row.toRowW.promised)
  (hn:l.most=some 63) (hdf:d.params.defaults=[]) (hr:rs[f]?=some r) (hd:d.name=r.name) (hdt:dotted r.name=false) (hps:r.ps=[y]) (t:Tabs B rs)
  (run:∀ ns:List Int,ns.length<=63->qI (v4 rs) wh 60 f [.scr ns] (fun x _=>x.1=.bl true) []):l.Holds:=
 W.holds_law ok fun said=>W.holds_open (r:=l.row) (q:=q) (loose:=loose) (XP:=W.XL q []) (YP:=fun _ h=>zgw B rs h) (N:=N) left (fun w s e=>zgF w s e) (fun w h h' Y k=>Y.elim fun K z=>⟨K,z.1.keeps k,z.2⟩)
  (fun s e=>W.xl_of s (ε.mp e).1) W.XL.keeps hdef hp hk (fun s e=>W.recFacts_of (ε.mp e).2) (lg _) said okk hb hw (zjo hn hdf hr hd hdt hps t run)
end EV
namespace Q05
open PySem PySem.Spec PyProof.Rows L2 EV
theorem zfH:W.LeftO π.prog yX [("PARTS":Str)] (fun s=>W.xlAt yX [] s&&W.recOk [] s) (fun s=>EV.Kz (EV.frOf s.heap 500) B rs) (fun _=>EV.Kg B rs) 12000:=EV.zkz "special-get-raises" (fun b w=>by
 cases b
 ·exact V8 w
 ·exact K4 w) (fun b w=>by
 cases b
 ·exact V7 w
 ·exact K3 w)
local macro_rules | `(⋯) => `(⟨by decide +kernel, by decide +kernel, rfl, rfl, fun _ _ _ _ _ _ us hl => by first | (obtain ⟨a0, e⟩ := ln1 hl; subst e; rfl) | (obtain ⟨a0, a1, e⟩ := ln2 hl; subst e; rfl) | (obtain ⟨a0, a1, a2, e⟩ := ln3 hl; subst e; rfl) | (obtain ⟨a0, a1, a2, a3, e⟩ := ln4 hl; subst e; rfl) | (obtain ⟨a0, a1, a2, a3, a4, e⟩ := ln5 hl; subst e; rfl) | (obtain ⟨a0, a1, a2, a3, a4, a5, a6, e⟩ := ln7 hl; subst e; rfl)⟩)
theorem K7:zL B Zt:=⋯
theorem Ud:zL B kh:=⋯
theorem za0:zL B X5:=⋯
theorem Wu:zL B u6:=⋯
theorem vY:zL B yV:=⋯
theorem zaY:zL B X3:=⋯
theorem uN:zL B xH:=⋯
theorem YK:zL B uf:=⋯
theorem Ub:zL B j8:=⋯
theorem uP:zL B xK:=⋯
theorem Wt:zL B u5:=⋯
theorem za1:zL B X6:=⋯
theorem Uc:zL B j9:=⋯
theorem za2:zL B X7:=⋯
theorem YJ:zL B ue:=⋯
theorem uO:zL B xJ:=⋯
theorem qg:zL B wF:=⋯
theorem zcZ:zL B Jt:=⋯
theorem zaZ:zL B X4:=⋯
theorem Ue:zL B kj:=⋯
theorem zfJ:zL B zak:=⋯
theorem Ug:zL B km:=⋯
theorem zaX:zL B XX:=⋯
theorem K6:zL B Zr:=⋯
theorem Ua:zL B j7:=⋯
theorem YL:zL B ug:=⋯
theorem qi:zL B wG:=⋯
theorem Ww:zL B jc:=⋯
theorem Uj:zL B kJ:=⋯
theorem YQ:zL B ul:=⋯
theorem K8:zL B Zu:=⋯
theorem Zf:zL B vM:=⋯
theorem YT:zL B uo:=⋯
theorem Uh:zL B kE:=⋯
theorem K9:zL B Zv:=⋯
theorem Wx:zL B jd:=⋯
theorem YS:zL B um:=⋯
theorem Wv:zL B u9:=⋯
theorem Zd:zL B vK:=⋯
theorem ju:zL B wg:=⋯
theorem ql:zL B wI:=⋯
theorem jx:zL B wu:=⋯
theorem qj:zL B wH:=⋯
theorem qm:zL B wJ:=⋯
theorem jw:zL B wj:=⋯
theorem Ze:zL B vL:=⋯
theorem Qa:zL B Zw:=⋯
theorem Ui:zL B kI:=⋯
theorem uQ:zL B xM:=⋯
theorem YM:zL B uh:=⋯
theorem zkC:zL B zeV:=⋯
theorem zeR:AllR (zL B) rs:=⟨K7,Ud,za0,Wu,vY,zaY,uN,YK,Ub,uP,Wt,za1,Uc,za2,YJ,uO,qg,zcZ,zaZ,Ue,zfJ,Ug,zaX,K6,Ua,YL,qi,Ww,Uj,YQ,K8,Zf,YT,Uh,K9,Wx,YS,Wv,Zd,ju,ql,jx,qj,qm,jw,Ze,Qa,Ui,uQ,YM,zkC,ϳ⟩
theorem zim:AllR (KwOk rs) B.kws:=ϳ
theorem tabs:Tabs B rs:=⟨rfl,rfl,zeR,zim⟩
noncomputable def wh:Nat:=600
noncomputable def F:=v4 rs
section
variable {k:Nat}{x0 x1 x2 x3 x4 x5 x6:D}{S:Store}{V:Po}{ex:Xp}
set_option hygiene false
local macro_rules | `(↥($b,$n,$r,$d)) => `(wpCs (za F wh k) ex wh $b $r (told V) S → za F wh (k+1) ex $n $d V S)
theorem Kl:↥(Z1,0,[.sh x0],[x0]):=fun h=>zq rfl rfl rfl h
theorem Vq:↥(qO,1,[.sh x0],[x0]):=fun h=>zq rfl rfl rfl h
theorem Qv:↥(Vh,2,[.sh x0],[x0]):=fun h=>zq rfl rfl rfl h
theorem Xq:↥(jk,3,[.sh x0,.sh x1],[x0,x1]):=fun h=>zq rfl rfl rfl h
theorem yR:↥(xf,4,[.sh x0,.sh x1,.sh x2],[x0,x1,x2]):=fun h=>zq rfl rfl rfl h
theorem Qt:↥(Vf,5,[.sh x0],[x0]):=fun h=>zq rfl rfl rfl h
theorem uG:↥(xP,6,[.sh x0],[x0]):=fun h=>zq rfl rfl rfl h
theorem Yb:↥(uA,7,[.sh x0,.sh x1,.sh x2],[x0,x1,x2]):=fun h=>zq rfl rfl rfl h
theorem Vo:↥(qM,8,[.sh x0],[x0]):=fun h=>zq rfl rfl rfl h
theorem uI:↥(xQ,9,[.sh x0],[x0]):=fun h=>zq rfl rfl rfl h
theorem Xo:↥(jj,10,[.sh x0,.no,.no],[x0]):=fun h=>zq rfl rfl rfl h
theorem Qw:↥(Vi,11,[.sh x0],[x0]):=fun h=>zq rfl rfl rfl h
theorem Vp:↥(qN,12,[.sh x0],[x0]):=fun h=>zq rfl rfl rfl h
theorem Qx:↥(Vj,13,[.sh x0,.sh x1,.no],[x0,x1]):=fun h=>zq rfl rfl rfl h
theorem Z9:↥(uz,14,[.sh x0,.no,.no,.no,.no],[x0]):=fun h=>zq rfl rfl rfl h
theorem uH:↥(yx,15,[.sh x0,.sh x1,.no],[x0,x1]):=fun h=>zq rfl rfl rfl h
theorem jU:↥(wW,16,[.sh x0],[x0]):=fun h=>zq rfl rfl rfl h
theorem zb6:↥(Ka,17,[.sh x0,.sh x1],[x0,x1]):=fun h=>zq rfl rfl rfl h
theorem Qu:↥(Vg,18,[.sh x0,.sh x1,.sh x2,.sh x3,.sh x4],[x0,x1,x2,x3,x4]):=fun h=>zq rfl rfl rfl h
theorem Vr:↥(qP,19,[.sh x0,.sh x1,.sh x2,.sh x3,.no],[x0,x1,x2,x3]):=fun h=>zq rfl rfl rfl h
theorem zen:↥(zbL,20,[.sh x0],[x0]):=fun h=>zq rfl rfl rfl h
theorem yU:↥(qQ,21,[.sh x0],[x0]):=fun h=>zq rfl rfl rfl h
theorem Xn:↥(Ve,22,[.sh x0,.no,.no,.no],[x0]):=fun h=>zq rfl rfl rfl h
theorem Kh:↥(Z0,23,[.sh x0,.no,.no,.no],[x0]):=fun h=>zq rfl rfl rfl h
theorem xT:↥(qL,24,[.sh x0],[x0]):=fun h=>zq rfl rfl rfl h
theorem yK:↥(uB,25,[.sh x0,.no,.no],[x0]):=fun h=>zq rfl rfl rfl h
theorem yS:↥(wX,26,[.sh x0],[x0]):=fun h=>zq rfl rfl rfl h
theorem Xu:↥(wY,27,[.sh x0,.sh x1,.no,.no,.no,.no],[x0,x1]):=fun h=>zq rfl rfl rfl h
theorem Vu:↥(qU,28,[.sh x0,.sh x1,.sh x2],[x0,x1,x2]):=fun h=>zq rfl rfl rfl h
theorem Yd:↥(uD,29,[.sh x0,.sh x1,.no,.no,.no],[x0,x1]):=fun h=>zq rfl rfl rfl h
theorem Zh:↥(Z2,30,[.sh x0,.sh x1,.sh x2,.sh x3,.no,.no,.no],[x0,x1,x2,x3]):=fun h=>zq rfl rfl rfl h
theorem Za:↥(vU,31,[.sh x0,.sh x1,.sh x2],[x0,x1,x2]):=fun h=>zq rfl rfl rfl h
theorem Yg:↥(uF,32,[.sh x0,.sh x1,.sh x2,.sh x3,.no,.no,.no,.no,.no,.no],[x0,x1,x2,x3]):=fun h=>zq rfl rfl rfl h
theorem Vs:↥(qR,33,[.sh x0,.sh x1,.sh x2,.sh x3,.no,.no,.no,.no],[x0,x1,x2,x3]):=fun h=>zq rfl rfl rfl h
theorem Km:↥(Z3,34,[.sh x0,.sh x1,.sh x2,.sh x3,.sh x4,.sh x5,.sh x6,.no,.no,.no,.no,.no,.no,.no],[x0,x1,x2,x3,x4,x5,x6]):=fun h=>zq rfl rfl rfl h
theorem uY:↥(jm,35,[.sh x0,.sh x1,.sh x2,.sh x3,.sh x4,.sh x5,.sh x6,.no,.no,.no,.no,.no],[x0,x1,x2,x3,x4,x5,x6]):=fun h=>zq rfl rfl rfl h
theorem Ye:↥(uE,36,[.sh x0,.sh x1,.sh x2,.sh x3,.sh x4,.sh x5,.sh x6,.no,.no,.no],[x0,x1,x2,x3,x4,x5,x6]):=fun h=>zq rfl rfl rfl h
theorem Xr:↥(jl,37,[.sh x0,.sh x1,.no],[x0,x1]):=fun h=>zq rfl rfl rfl h
theorem qY:↥(vQ,38,[.sh x0,.sh x1,.sh x2,.no,.no,.no,.no,.no,.no,.no,.no,.no],[x0,x1,x2]):=fun h=>zq rfl rfl rfl h
theorem jn:↥(ww,39,[.sh x0,.sh x1,.no,.no],[x0,x1]):=fun h=>zq rfl rfl rfl h
theorem jW:↥(wZ,40,[.sh x0,.sh x1,.no],[x0,x1]):=fun h=>zq rfl rfl rfl h
theorem jq:↥(wz,41,[.sh x0,.sh x1,.no,.no],[x0,x1]):=fun h=>zq rfl rfl rfl h
theorem jV:↥(yr,42,[.sh x0,.sh x1,.sh x2,.no,.no,.no,.no,.no,.no,.no,.no,.no],[x0,x1,x2]):=fun h=>zq rfl rfl rfl h
theorem jX:↥(vf,43,[.sh x0,.sh x1,.no],[x0,x1]):=fun h=>zq rfl rfl rfl h
theorem jo:↥(wy,44,[.sh x0,.sh x1,.no,.no,.no,.no],[x0,x1]):=fun h=>zq rfl rfl rfl h
theorem qZ:↥(vR,45,[.sh x0,.sh x1,.sh x2,.no,.no,.no,.no,.no,.no,.no,.no],[x0,x1,x2]):=fun h=>zq rfl rfl rfl h
theorem Kp:↥(uW,46,[.sh x0,.sh x1,.sh x2,.sh x3,.no,.no],[x0,x1,x2,x3]):=fun h=>zq rfl rfl rfl h
theorem Vt:↥(qT,47,[.sh x0,.no,.no],[x0]):=fun h=>zq rfl rfl rfl h
theorem uJ:↥(xR,48,[.sh x0,.sh x1,.sh x2,.no,.no,.no,.no,.no,.no],[x0,x1,x2]):=fun h=>zq rfl rfl rfl h
theorem Yc:↥(uC,49,[.sh x0,.sh x1,.sh x2,.no,.no,.no,.no,.no,.no,.no,.no,.no,.no,.no,.no,.no],[x0,x1,x2]):=fun h=>zq rfl rfl rfl h
theorem zjp:↥(zjf,50,[.sh x0,.no,.no,.no,.no,.no],[x0]):=fun h=>zq rfl rfl rfl h
end
end Q05
local macro_rules | `(tactic| omega) => `(tactic| first | decide | with_reducible exact EV.om1 ‹_› (by with_unfolding_all rfl) | with_reducible exact EV.om2 ‹_› (by with_unfolding_all rfl) | with_reducible exact EV.om3 ‹_› (by with_unfolding_all rfl) | lia | omega (config := {}))
open EV in
local macro_rules | `(tactic| infer_instance) => `(tactic| first
 | ((with_reducible apply yc); (exact rfl))
 | ((with_reducible apply zj8); (exact rfl))
 | ((with_reducible apply zjD); (exact rfl))
 | ((with_reducible apply zjE); (exact rfl))
 | ((with_reducible apply kp_s); (exact rfl))
 | ((with_reducible apply kp_f); (exact rfl))
 | ((with_reducible apply zT); (first | exact rfl | exact xX (by simp <;> omega) | exact zaG rfl | exact zdY rfl | exact zdY (QZ (by decide) (by decide))))
 | ((with_reducible apply Wf); (exact rfl))
 | ((with_reducible apply zE); (first | exact zam (by decide) (by decide) | exact rfl | exact Xz (by decide) rfl | exact zaL (by decide) rfl))
 | ((with_reducible apply zQ); (exact rfl); (try simp only [dM, fW, cW, Β, aP, if_true, if_false]))
 | ((with_reducible apply Xf); (exact rfl))
 | ((with_reducible apply ZK); (exact rfl))
 | ((with_reducible apply ziD); (exact rfl))
 | ((with_reducible apply yf); (first | with_reducible rfl | decide | (focus (simp only [isNone, zH, eqP, eqPs, beq_self_eq_true, Bool.not_true, Bool.not_false, fM, ϖ]; done)) | (dsimp only [zH]; decide) | (refine fits_of ?_; (try simp only [ξ, υ, Ϝ, gD]) <;> omega)))
 | ((with_reducible apply wB); (first | with_reducible rfl | decide | (focus (simp only [isNone, zH, eqP, eqPs, beq_self_eq_true, Bool.not_true, Bool.not_false, fM, ϖ]; done)) | (dsimp only [zH]; decide)))
 | ((with_reducible apply bx_f); (exact rfl))
 | ((with_reducible apply rv_s); (exact rfl))
 | ((with_reducible apply rv_f); (exact rfl))
 | ((with_reducible apply zdR); (exact rfl))
 | ((with_reducible apply zhT); (exact rfl))
 | ((with_reducible apply zja); (exact rfl))
 | ((with_reducible apply ziC); (exact rfl))
 | ((with_reducible apply zu); (dsimp only [wpC, zG, zW, ziY, vG, zkX, vD, zk2, zkW, zf2, e_or, zkZ, ux, zda, zk1, zk0, vC, zbq, e_bi, zk4, zkY, ym, zf1, zbr, zk3, ziX, ziZ, wpEs, wpO, wpF, wpI, Β, fz, dz, dB, lw]))
 | (with_reducible apply vP)
 | (with_reducible apply zM)
 | (with_reducible apply zgL)
 | (with_reducible apply zgN)
 | (with_reducible apply zgM)
 | (with_reducible apply to_s)
 | (with_reducible apply to_f)
 | (with_reducible apply zes)
 | (with_reducible apply zer)
 | (with_reducible apply zgI)
 | (with_reducible apply zgJ)
 | (with_reducible apply zgH))
local macro_rules | `(tactic| nofun) => `(tactic| (repeat infer_instance))
namespace Q05
open PySem L2 EV
abbrev Is (K f:Nat) (ds:List D) (v:Vl) (S:Store):Prop:=qI F wh K f ds (fun x S'=>x=v/\S'=S) S
abbrev Sm (K f:Nat) (ds:List D) (P:Vl->Prop) (S:Store):Prop:=qI F wh K f ds (fun x S'=>P x/\S'=S) S
abbrev Tl (K f:Nat) (ds:List D) (b:Bool) (S:Store):Prop:=Is K f ds (.bl b,.st) S
section
variable {K f:Nat}{ds:List D}{S:Store}
theorem Is.go {v:Vl}{V:Po}(h:Is K f ds v S) (q:V v S):qI F wh K f ds V S:=wp_mono h (by rintro _ _ ⟨rfl,rfl⟩;exact q)
theorem Sm.go {P:Vl->Prop}{V:Po}(h:Sm K f ds P S) (q:∀ x,P x->V x S):qI F wh K f ds V S:=wp_mono h (by rintro x _ ⟨h1,rfl⟩;exact q x h1)
end
theorem up {n K:Nat}(h:n+1<=K):∃ k,n<=k/\K=k+1:=⟨K - 1,by omega,by omega⟩
theorem nf {b:Bool}(h:b=false):(!b)=true:=by rw [h];rfl
mutual
noncomputable def plD:D->Bool
 | .non=>true
 | .bl _=>true
 | .int _=>true
 | .str s=>decide (s.length<=1000)&&decide (s.cps.toList.length<=1000)
 | .tup l=>decide (l.length<=1000)&&plDs l
 | .lst l=>decide (l.length<=1000)&&plDs l
 | _=>false
noncomputable def plDs:List D->Bool
 | []=>true
 | d::l=>plD d&&plDs l
end
theorem zx:∀ {l:List D}{d:D},plDs l=true->d∈l->plD d=true
 | e::l,d,h,m=>by
  obtain ⟨h1,h2⟩:=ε.mp (show (plD e&&plDs l)=true from h);rcases ψ.mp m with rfl | m
  ·exact h1
  ·exact zx h2 m
noncomputable def zgA:D->Bool
 | .int _=>true
 | _=>false
noncomputable def numD:D->Bool
 | .int i=>decide (0<=i)&&decide (i < 1000000007)
 | _=>false
noncomputable def sgL:List Str:=["+","-","*","<","="]
noncomputable def chars (s:Str):List D:=s.cps.toList.map fun c=>.str ⟨#[c]⟩
noncomputable def letD (d:D):Bool:=match inD d (.str "abcdefghijklmnopqrstuvwxyz") with
 | some b=>b
 | none=>false
noncomputable def wdS (s:Str):Bool:=decide (1<=s.length)&&decide (s.length<=8)&&(chars s).all letD
noncomputable def zB:D->Bool
 | .str s=>wdS s
 | _=>false
noncomputable def XD:D->Bool
 | .str s=>(sgL.map D.str).any fun y=>eqP y (.str s)
 | _=>false
section
variable {K:Nat}{S:Store}{d:D}
theorem U5 (h:plD d=true) (hK:1<=K):Tl K 0 [d] (zgA d) S:=by
 obtain ⟨K,hk,rfl⟩:=up hK;refine Kl ?_;cases d with
 | non=>nofun;exact ⟨rfl,rfl⟩
 | bl b=>nofun;exact ⟨rfl,rfl⟩
 | int i=>nofun;exact ⟨rfl,rfl⟩
 | str s=>nofun;exact ⟨rfl,rfl⟩
 | tup l=>nofun;exact ⟨rfl,rfl⟩
 | lst l=>nofun;exact ⟨rfl,rfl⟩
 | _=>cases h
theorem zdV (h:plD d=true) (hK:2<=K):Tl K 1 [d] (numD d) S:=by
 obtain ⟨K,hk,rfl⟩:=up hK;refine Vq ?_;nofun;refine (U5 h hk).go ?_;cases d with
 | int i=>
  nofun;refine yf rfl ?_;nofun;refine zj (fun h1=>?_) (fun h1=>?_)
  ·nofun;refine ⟨?_,rfl⟩;show (D.bl (decide (i < 1000000007)),Kd.st)=(D.bl (decide (0<=i)&&decide (i < 1000000007)),Kd.st)
   rw [show decide (0<=i)=true from h1,ϖ]
  ·nofun;refine ⟨?_,rfl⟩;show (D.bl false,Kd.st)=(D.bl (decide (0<=i)&&decide (i < 1000000007)),Kd.st)
   rw [show decide (0<=i)=false from h1,ϧ]
 | non=>nofun;exact ⟨rfl,rfl⟩
 | bl b=>nofun;exact ⟨rfl,rfl⟩
 | str s=>nofun;exact ⟨rfl,rfl⟩
 | tup l=>nofun;exact ⟨rfl,rfl⟩
 | lst l=>nofun;exact ⟨rfl,rfl⟩
 | _=>cases h
theorem zeE (h:plD d=true) (hK:1<=K):Tl K 2 [d] (XD d) S:=by
 obtain ⟨K,hk,rfl⟩:=up hK;refine Qv ?_;cases d with
 | str s=>nofun;exact ⟨rfl,rfl⟩
 | non=>nofun;exact ⟨rfl,rfl⟩
 | bl b=>nofun;exact ⟨rfl,rfl⟩
 | int i=>nofun;exact ⟨rfl,rfl⟩
 | tup l=>nofun;exact ⟨rfl,rfl⟩
 | lst l=>nofun;exact ⟨rfl,rfl⟩
 | _=>cases h
theorem wO {s:D->(Option D->Store->Prop)->Store->Prop}{V:List D->Store->Prop}{S:Store}(f:D->Bool):∀ (xs:List D) (acc:List Bool),acc.length+xs.length<=1000->(∀ x∈xs,∀ Q:Option D->Store->Prop,Q (some (.bl (f x))) S->s x Q S) ->
  V ((acc++xs.map f).map D.bl) S->xu s xs (acc.map D.bl) V S
 | [],acc,_,_,v=>by simpa [xu] using v
 | x::xs,acc,hl,h,v=>by
  refine h x θ _ ?_;have e:(acc.map D.bl)++[D.bl (f x)]=(acc++[f x]).map D.bl:=by simp
  have hl':acc.length+(xs.length+1)<=1000:=hl;show tst (fits ((acc.map D.bl).length+1)) (xu s xs (acc.map D.bl++[D.bl (f x)]) V S) False
  refine yf (fits_of (by rw [υ];omega)) ?_;rw [e];exact wO f xs (acc++[f x]) (by simp;omega) (fun y hy=>h y (ι _ hy)) (by simpa using v)
theorem qJ:∀ l:List Bool,uy (l.map D.bl)=some l
 | []=>rfl
 | b::l=>by show (uy (l.map D.bl)).map (b::·)=_;rw [qJ l];rfl
theorem qX (l:List Bool):biD .all [.lst (l.map D.bl)]=some (.bl (l.all id),false):=by
 show ((uy (l.map D.bl)).map fun bs=>D.bl (bs.all id)).map (fun d=>(d,false))=_
 rw [qJ];rfl
theorem zeh (l:List Bool):biD .any [.lst (l.map D.bl)]=some (.bl (l.any id),false):=by
 show ((uy (l.map D.bl)).map fun bs=>D.bl (bs.any id)).map (fun d=>(d,false))=_
 rw [qJ];rfl
theorem yQ (h:plD d=true) (hK:1<=K):Tl K 5 [d] (zB d) S:=by
 obtain ⟨K,hk,rfl⟩:=up hK;refine Qt ?_;cases d with
 | str s=>
  obtain ⟨h1,h2⟩:=ε.mp (show (decide (s.length<=1000)&&decide (s.cps.toList.length<=1000))=true from h);have h1:=of_decide_eq_true h1;have h2:=of_decide_eq_true h2;have e:biD .len [.str s]=some (.int s.length,false):=by
   show (if fits s.length=true then _ else _)=_
   rw [if_pos (fits_of (by omega))]
  nofun;refine zT e ?_;nofun;refine zj (fun h3=>?_) (fun h3=>?_)
  ·have h3:(1:Int)<=s.length:=of_decide_eq_true h3;nofun;refine zj (fun h4=>?_) (fun h4=>?_)
   ·nofun;have h4:(!decide ((s.length:Int)<=8))=true:=h4;have h4:¬ (s.length:Int)<=8:=fun z=>by rw [decide_eq_true z] at h4;cases h4
    refine ⟨?_,rfl⟩;show (D.bl false,Kd.st)=(D.bl (wdS s),Kd.st)
    have:wdS s=false:=by unfold wdS;rw [decide_eq_false (show ¬ s.length<=8 by omega),Τ,ϧ]
    rw [this]
   ·nofun;have h4:(!decide ((s.length:Int)<=8))=false:=h4;have h4:(s.length:Int)<=8:=by
     by_cases z:(s.length:Int)<=8
     ·exact z
     ·rw [decide_eq_false z] at h4;cases h4
    refine xG ?_;dsimp only [wpI,zG];nofun;refine wO letD (chars s) [] (by simp [chars];omega) (fun x hx Q hQ=>?_) ?_
    ·refine zQ rfl ?_;dsimp only [wpF,vD,ziY,zG,inn,nT,Κ,aN,Δ,Β];obtain ⟨c,_,rfl⟩:=Ο.mp hx;nofun;exact hQ
    ·refine zT (qX _) ?_;nofun;refine ⟨?_,rfl⟩;show (D.bl (([]++(chars s).map letD).all id),Kd.st)=(D.bl (wdS s),Kd.st)
     unfold wdS;rw [decide_eq_true (show 1<=s.length by omega),decide_eq_true (show s.length<=8 by omega),ϑ,cA];rfl
  ·nofun;have h3:¬ (1:Int)<=s.length:=of_decide_eq_false h3;refine ⟨?_,rfl⟩;show (D.bl false,Kd.st)=(D.bl (wdS s),Kd.st)
   have:wdS s=false:=by unfold wdS;rw [decide_eq_false (show ¬ 1<=s.length by omega),ϧ,ϧ]
   rw [this]
 | non=>nofun;exact ⟨rfl,rfl⟩
 | bl b=>nofun;exact ⟨rfl,rfl⟩
 | int i=>nofun;exact ⟨rfl,rfl⟩
 | tup l=>nofun;exact ⟨rfl,rfl⟩
 | lst l=>nofun;exact ⟨rfl,rfl⟩
 | _=>cases h
noncomputable def tri3:D->Option (D×D×D)
 | .tup [g,a,b]=>some (g,a,b)
 | _=>none
noncomputable def fmlD:Nat->D->Bool
  | 0,d=>numD d||zB d
  | k+1,d=>numD d||zB d||(match tri3 d with
    | some t=>XD t.1&&(fmlD k t.2.1&&fmlD k t.2.2)
    | none=>false)
theorem QL {l:List D}(h:tri3 (.tup l)=none):l.length≠3:=by
 intro z
 match l,z with
 | [_,_,_],_=>cases h
theorem Jd {d g a b:D}(h:tri3 d=some (g,a,b)):d=.tup [g,a,b]:=by
 unfold tri3 at h;split at h
 ·cases h;rfl
 ·cases h
theorem ziU:∀ (k:Nat) (d:D),plD d=true->∀ (K:Nat) (S:Store),k+3<=K->Tl K 4 [d,.fn 5,.int k] (fmlD k d) S:=by
 intro k
 induction k with
 | zero=>
  intro d h K S hK;obtain ⟨K,hk,rfl⟩:=up hK;refine yR ?_;nofun;refine (zdV h (by omega)).go ?_;nofun;refine zj (fun h1=>?_) (fun h1=>?_)
  ·nofun;refine ⟨?_,rfl⟩;show (D.bl true,Kd.st)=(D.bl (numD d||zB d),Kd.st)
   rw [h1];rfl
  ·nofun;refine (yQ h (by omega)).go ?_;nofun;refine zj (fun h2=>?_) (fun h2=>?_)
   ·nofun;refine ⟨?_,rfl⟩;show (D.bl true,Kd.st)=(D.bl (numD d||zB d),Kd.st)
    rw [h1,h2];rfl
   ·nofun;refine ⟨?_,rfl⟩;show (D.bl false,Kd.st)=(D.bl (numD d||zB d),Kd.st)
    rw [h1,h2];rfl
 | succ k ih=>
  intro d h K S hK;obtain ⟨K,hk,rfl⟩:=up hK;have e:((k+1:Nat):Int) - 1=(k:Int):=by omega
  have z:eqP (.int ((k+1:Nat):Int)) (.int 0)=false:=by
   show (((k+1:Nat):Int)==0)=false
   exact beq_eq_false_iff_ne.mpr (by omega)
  refine yR ?_;nofun;refine (zdV h (by omega)).go ?_;nofun;refine zj (fun h1=>?_) (fun h1=>?_)
  ·nofun;refine ⟨?_,rfl⟩;show (D.bl true,Kd.st)=(D.bl (fmlD (k+1) d),Kd.st)
   unfold fmlD;rw [h1];rfl
  nofun;refine (yQ h (by omega)).go ?_;nofun;refine zj (fun h2=>?_) (fun h2=>?_)
  ·nofun;refine ⟨?_,rfl⟩;show (D.bl true,Kd.st)=(D.bl (fmlD (k+1) d),Kd.st)
   unfold fmlD;rw [h1,h2];rfl
  nofun;refine wB z ?_;have hno:tri3 d=none->fmlD (k+1) d=false:=fun h3=>by unfold fmlD;rw [h1,h2,h3];rfl
  cases d with
  | non=>nofun;exact ⟨by rw [hno rfl],rfl⟩
  | bl b=>nofun;exact ⟨by rw [hno rfl],rfl⟩
  | int i=>nofun;exact ⟨by rw [hno rfl],rfl⟩
  | str s=>nofun;exact ⟨by rw [hno rfl],rfl⟩
  | lst l=>nofun;exact ⟨by rw [hno rfl],rfl⟩
  | tup l=>
   nofun;cases ht:tri3 (.tup l) with
   | none=>
    have h3:=QL ht;refine yf (nf (show (((l.length:Nat):Int)==3)=false from beq_eq_false_iff_ne.mpr (by omega))) ?_;nofun;exact ⟨by rw [hno ht],rfl⟩
   | some t=>
    obtain ⟨g,a,b⟩:=t;cases Jd ht;have hp:plDs [g,a,b]=true:=(ε.mp (show (decide (([g,a,b]:List D).length<=1000)&&plDs [g,a,b])=true from h)).2;have pg:=zx hp (show g∈[g,a,b] by simp);have pa:=zx hp (show a∈[g,a,b] by simp);have pb:=zx hp (show b∈[g,a,b] by simp);have hf:fmlD (k+1) (.tup [g,a,b])=(XD g&&(fmlD k a&&fmlD k b)):=by rw [fmlD,h1,h2,ht];rfl
    rw [hf];nofun;refine (zeE pg (by omega)).go ?_;nofun;refine zj (fun h3=>?_) (fun h3=>?_)
    ·nofun;have h3:XD g=false:=by simpa using h3
     exact ⟨by rw [h3];rfl,rfl⟩
    ·have h3:XD g=true:=by simpa using h3
     nofun;rw [e];refine (ih _ pa _ _ (by omega)).go ?_;nofun;refine zj (fun h4=>?_) (fun h4=>?_)
     ·nofun;rw [e];refine (ih _ pb _ _ (by omega)).go ?_;nofun;exact ⟨by rw [h3,h4];rfl,rfl⟩
     ·nofun;exact ⟨by rw [h3,h4];rfl,rfl⟩
  | _=>cases h
end
noncomputable def wonD:D->Bool
 | .non=>true
 | d=>zB d
noncomputable def tupD (d:D) (a b:Int):Bool:=match d with
 | .tup l=>decide (a<=l.length)&&decide ((l.length:Int)<=b)
 | _=>false
noncomputable def hd1:D->Option (Str×List D)
 | .tup (.str w::l)=>some (w,l)
 | _=>none
noncomputable def We:List (Str×Int):=[("set",3),("tell",2),("give",2),("fail",2),("if",4),("while",3),("try",4),("do",3),("want",3)]
noncomputable def yj (w:Str):Int:=(aD w We).getD 0
noncomputable def zy (d:D):Bool:=match hd1 d with
 | some p=>((p.2.length+1:Nat):Int)==yj p.1
 | none=>false
noncomputable def Zc (deep:Int):Int:=if deep<=4 then 8 else 0
noncomputable def xZ (d:D) (deep:Int):Bool:=match d with
 | .tup l=>decide ((l.length:Int)<=Zc deep)&&l.all zy
 | _=>false
section
variable {K:Nat}{S:Store}{d:D}
theorem zdz (h:plD d=true) (hK:2<=K):Tl K 6 [d] (wonD d) S:=by
 obtain ⟨K,hk,rfl⟩:=up hK;refine uG ?_;cases d with
 | non=>nofun;exact ⟨rfl,rfl⟩
 | bl b=>nofun;refine (yQ h hk).go ?_;nofun;exact ⟨rfl,rfl⟩
 | int i=>nofun;refine (yQ h hk).go ?_;nofun;exact ⟨rfl,rfl⟩
 | str s=>nofun;refine (yQ h hk).go ?_;nofun;exact ⟨rfl,rfl⟩
 | tup l=>nofun;refine (yQ h hk).go ?_;nofun;exact ⟨rfl,rfl⟩
 | lst l=>nofun;refine (yQ h hk).go ?_;nofun;exact ⟨rfl,rfl⟩
 | _=>cases h
theorem jY {a b:Int}(h:plD d=true) (hK:1<=K):Tl K 7 [d,.int a,.int b] (tupD d a b) S:=by
 obtain ⟨K,hk,rfl⟩:=up hK;refine Yb ?_;cases d with
 | tup l=>
  nofun;refine zj (fun h1=>?_) (fun h1=>?_)
  ·nofun;refine ⟨?_,rfl⟩;show (D.bl (decide ((l.length:Int)<=b)),Kd.st)=(D.bl (decide (a<=l.length)&&decide ((l.length:Int)<=b)),Kd.st)
   rw [show decide (a<=(l.length:Int))=true from h1,ϖ]
  ·nofun;refine ⟨?_,rfl⟩;show (D.bl false,Kd.st)=(D.bl (decide (a<=l.length)&&decide ((l.length:Int)<=b)),Kd.st)
   rw [show decide (a<=(l.length:Int))=false from h1,ϧ]
 | non=>nofun;exact ⟨rfl,rfl⟩
 | bl b=>nofun;exact ⟨rfl,rfl⟩
 | int i=>nofun;exact ⟨rfl,rfl⟩
 | str s=>nofun;exact ⟨rfl,rfl⟩
 | lst l=>nofun;exact ⟨rfl,rfl⟩
 | _=>cases h
theorem Qq (h:plD d=true) (hK:1<=K):Tl K 8 [d] ((hd1 d).isSome) S:=by
 obtain ⟨K,hk,rfl⟩:=up hK;refine Vo ?_;cases d with
 | tup l=>
  cases l with
  | nil=>nofun;exact ⟨rfl,rfl⟩
  | cons e l=>
   have hp:=(ε.mp (show (decide ((e::l).length<=1000)&&plDs (e::l))=true from h)).2;have pe:=zx hp (show e∈e::l by simp);nofun;refine yf (decide_eq_true (by simp)) ?_;cases e with
   | str w=>nofun;exact ⟨rfl,rfl⟩
   | non=>nofun;exact ⟨rfl,rfl⟩
   | bl b=>nofun;exact ⟨rfl,rfl⟩
   | int i=>nofun;exact ⟨rfl,rfl⟩
   | tup l=>nofun;exact ⟨rfl,rfl⟩
   | lst l=>nofun;exact ⟨rfl,rfl⟩
   | _=>cases pe
 | non=>nofun;exact ⟨rfl,rfl⟩
 | bl b=>nofun;exact ⟨rfl,rfl⟩
 | int i=>nofun;exact ⟨rfl,rfl⟩
 | str s=>nofun;exact ⟨rfl,rfl⟩
 | lst l=>nofun;exact ⟨rfl,rfl⟩
 | _=>cases h
theorem zcR (h:plD d=true) (hK:8<=K):Tl K 9 [d] (fmlD 3 d) S:=by obtain ⟨K,hk,rfl⟩:=up hK;refine uI ?_;nofun;obtain ⟨K,hk,rfl⟩:=up hk;refine Xq ?_;nofun;refine (ziU 3 d h _ _ (by omega)).go ?_;nofun;exact ⟨rfl,rfl⟩
theorem zc2 {w:Str}{l:List D}(h:hd1 d=some (w,l)):d=.tup (.str w::l):=by
 unfold hd1 at h;split at h
 ·cases h;rfl
 ·cases h
theorem zci (h:plD d=true) (hK:2<=K):Tl K 16 [d] (zy d) S:=by
 obtain ⟨K,hk,rfl⟩:=up hK;refine jU ?_;nofun;refine (Qq h hk).go ?_;cases e:hd1 d with
 | none=>
  nofun;exact ⟨by unfold zy;rw [e],rfl⟩
 | some p=>
  obtain ⟨w,l⟩:=p;cases zc2 e;nofun;refine zE (Xz (d:=.str w) (by decide) rfl) ?_;nofun;have hp:(Option.map D.int (aD w We)).getD (D.int 0)=D.int (yj w):=by unfold yj;cases aD w We <;> rfl
  have hq:cmpD .Eq (.int ((l.length+1:Nat):Int)) (zH S ((Option.map D.int (aD w We)).getD (D.int 0)))=some (((l.length+1:Nat):Int)==yj w):=by rw [hp];rfl
  refine zE hq ?_;nofun;exact ⟨rfl,rfl⟩
theorem zcj {deep:Int}(h:plD d=true) (hK:3<=K):Tl K 15 [d,.int deep] (xZ d deep) S:=by
 obtain ⟨K,hk,rfl⟩:=up hK;refine uH ?_;have key:∀ m:Int,Zc deep=m->wpCs (za F wh K) noX wh (yx.drop 1) [.sh d,.sh (.int deep),.sh (.int m)] (told fun x S'=>x=(D.bl (xZ d deep),Kd.st)/\S'=S) S:=by
  intro m hm;nofun;refine (jY h (by omega)).go ?_;cases d with
  | tup l=>
   obtain ⟨hl,hp⟩:=ε.mp (show (decide (l.length<=1000)&&plDs l)=true from h);have hl:=of_decide_eq_true hl;have h0:tupD (.tup l) 0 m=decide ((l.length:Int)<=m):=by
    show (decide ((0:Int)<=l.length)&&decide ((l.length:Int)<=m))=_
    rw [decide_eq_true (show (0:Int)<=l.length by omega),ϖ]
   have hs:xZ (.tup l) deep=(decide ((l.length:Int)<=m)&&l.all zy):=by unfold xZ;rw [hm]
   rw [hs,h0];nofun;refine zj (fun h1=>?_) (fun h1=>?_)
   ·rw [h1];nofun;dsimp only [ziX,e_bi];refine xG ?_;dsimp only [wpI,zG];nofun;refine wO zy l [] (by simp;omega) (fun x hx Q hQ=>?_) ?_
    ·refine zQ rfl ?_;dsimp only [wpF,ym,wpEs,zG,inn,nT,Κ,aN,Δ,Β];nofun;refine (zci (zx hp hx) (by omega)).go ?_;nofun;exact hQ
    ·refine zT (qX _) ?_;nofun;refine ⟨?_,rfl⟩;rw [ϑ,cA,ϖ];rfl
   ·rw [h1];nofun;exact ⟨rfl,rfl⟩
  | non=>nofun;exact ⟨rfl,rfl⟩
  | bl b=>nofun;exact ⟨rfl,rfl⟩
  | int i=>nofun;exact ⟨rfl,rfl⟩
  | str s=>nofun;exact ⟨rfl,rfl⟩
  | lst l=>nofun;exact ⟨rfl,rfl⟩
  | _=>cases h
 nofun;refine zj (fun h1=>?_) (fun h1=>?_)
 ·nofun;exact key 8 (if_pos (of_decide_eq_true h1))
 ·nofun;exact key 0 (if_neg (of_decide_eq_false h1))
end
noncomputable def quad:D->Option (D×D×D×D)
 | .tup [a,b,c,d]=>some (a,b,c,d)
 | _=>none
noncomputable def isS:D->Option Str
 | .str s=>some s
 | _=>none
noncomputable def items:D->List D
 | .tup l=>l
 | _=>[]
noncomputable def cntK (ks:List Key) (ns:List Int) (f:Str):Option Int:=(yZ ks (.inr f)).bind fun i=>ns[i]?
noncomputable def jz (ks:List Key) (ns:List Int) (f:D) (x:D):Bool:=match isS f with
  | some f=>(match cntK ks ns f with
    | some n=>tupD x n n&&(items x).all (fmlD 3)
    | none=>false)
  | none=>false
noncomputable def brnD (ks:List Key) (ns:List Int) (d:D):Bool:=match quad d with
  | some (t,w,f,x)=>wonD t&&(match isS w with
    | some w=>zB f&&(if eqP (.str w) (.str "ask") then fmlD 3 x else eqP (.str w) (.str "call")&&jz ks ns f x)
    | none=>false)
  | none=>false
theorem zal {d a b c e:D}(h:quad d=some (a,b,c,e)):d=.tup [a,b,c,e]:=by
 unfold quad at h;split at h
 ·cases h;rfl
 ·cases h
theorem zcp {l:List D}(h:quad (.tup l)=none):l.length≠4:=by
 intro z
 match l,z with
 | [_,_,_,_],_=>cases h
theorem JL {ks:List Key}{ns:List Int}{f:Str}:xV ks (ns.map D.int) (.inr f)=(cntK ks ns f).map D.int:=by
 unfold xV cntK;cases yZ ks (bc f) with
 | none=>rfl
 | some i=>show (ns.map D.int)[i]?=(ns[i]?).map D.int;rw [Ρ]
section
variable {K:Nat}{S:Store}{d:D}{ks:List Key}{ns:List Int}
theorem pl_l {l:List D}(h:plD (.tup l)=true):l.length<=1000/\plDs l=true:=
 let q:=ε.mp (show (decide (l.length<=1000)&&plDs l)=true from h)
 ⟨of_decide_eq_true q.1,q.2⟩
theorem zkg (h:plD d=true):zH S d=d:=by
 cases d with
 | ref _=>cases h
 | _=>rfl
theorem ziH (h:plD d=true) (hs:isS d=none):isTy .str d=some false:=by
 cases d with
 | str s=>cases hs
 | non=>rfl
 | bl _=>rfl
 | int _=>rfl
 | tup _=>rfl
 | lst _=>rfl
 | _=>cases h
theorem jQ (h:zB d=true):∃ s,d=.str s:=by
 cases d with
 | str s=>exact ⟨s,rfl⟩
 | _=>cases h
theorem zjb (h:plD d=true) (hK:9<=K):Tl K 19 [d,.dK ks (ns.map D.int),.fn 6,.fn 9] (brnD ks ns d) S:=by
  obtain ⟨K,hk,rfl⟩:=up hK;refine Vr (x1:=.dK ks (ns.map D.int)) (x2:=.fn 6) (x3:=.fn 9) ?_;nofun;refine (jY h (by omega)).go ?_;cases hq:quad d with
  | none=>
    have h4:tupD d 4 4=false:=by
      cases d with
      | tup l=>
        have:=zcp hq;show (decide ((4:Int)<=l.length)&&decide ((l.length:Int)<=4))=false
        by_cases z:(4:Int)<=l.length
        · rw [decide_eq_false (show ¬ (l.length:Int)<=4 by omega),Τ]
        · rw [decide_eq_false z,ϧ]
      | _=>rfl
    rw [h4];nofun;exact ⟨by unfold brnD;rw [hq],rfl⟩
  | some t=>
    obtain ⟨t,w,f,x⟩:=t;cases zal hq;obtain ⟨_,hp⟩:=pl_l h;have pt:=zx hp (show t∈[t,w,f,x] by simp);have pw:=zx hp (show w∈[t,w,f,x] by simp);have pf:=zx hp (show f∈[t,w,f,x] by simp);have px:=zx hp (show x∈[t,w,f,x] by simp);have h4:tupD (.tup [t,w,f,x]) 4 4=true:=rfl
    have hb:brnD ks ns (.tup [t,w,f,x])=(wonD t&&(match isS w with
      | some w=>zB f&&(if eqP (.str w) (.str "ask") then fmlD 3 x else eqP (.str w) (.str "call")&&jz ks ns f x)
      | none=>false)):=rfl
    rw [h4,hb];nofun;refine (zdz pt (by omega)).go ?_;nofun;refine zj (fun h1=>?_) (fun h1=>?_)
    · nofun;have h1:wonD t=false:=by simpa using h1
      exact ⟨by rw [h1];rfl,rfl⟩
    have h1:wonD t=true:=by simpa using h1
    rw [h1];nofun;cases hw:isS w with
    | none=>
      refine zT (d:=.bl false) (by rw [zkg pw];show (isTy .str w).map _=_;rw [ziH pw hw];rfl) ?_;nofun;exact ⟨rfl,rfl⟩
    | some w'=>
      have ew:w=.str w':=by
        cases w with
        | str s=>cases hw;rfl
        | _=>cases hw
      subst ew;nofun;refine (yQ pf (by omega)).go ?_;nofun;refine zj (fun h2=>?_) (fun h2=>?_)
      · nofun;have h2:zB f=false:=by simpa using h2
        exact ⟨by rw [h2];rfl,rfl⟩
      have h2:zB f=true:=by simpa using h2
      rw [h2,ϖ,ϖ];obtain ⟨f',rfl⟩:=jQ h2;nofun;refine zj (fun h3=>?_) (fun h3=>?_)
      · nofun;refine (zcR px (by omega)).go ?_;nofun;exact ⟨by rw [if_pos (show eqP (.str w') (.str "ask")=true from h3)],rfl⟩
      have h3:eqP (.str w') (.str "ask")=false:=h3;have e3:(if eqP (.str w') (.str "ask")=true then fmlD 3 x else eqP (.str w') (.str "call")&&jz ks ns (.str f') x)=(eqP (.str w') (.str "call")&&jz ks ns (.str f') x):=by rw [h3];rfl
      rw [e3];nofun;refine zj (fun h4=>?_) (fun h4=>?_)
      · nofun;have h4:eqP (.str w') (.str "call")=false:=by simpa using (show (!eqP (.str w') (.str "call"))=true from h4)
        exact ⟨by rw [h4];rfl,rfl⟩
      have h4:eqP (.str w') (.str "call")=true:=by simpa using (show (!eqP (.str w') (.str "call"))=false from h4)
      rw [h4,ϖ];nofun;have hl:=JL (ks:=ks) (ns:=ns) (f:=f');cases hc:cntK ks ns f' with
      | none=>
        rw [hc] at hl;refine yf (by show (!(xV ks (ns.map D.int) (.inr f')).isSome)=true;rw [hl];rfl) ?_;nofun;exact ⟨by show _=(D.bl (match cntK ks ns f' with | some n=>_ | none=>false),Kd.st);rw [hc],rfl⟩
      | some n=>
        rw [hc] at hl;refine wB (by show (!(xV ks (ns.map D.int) (.inr f')).isSome)=false;rw [hl];rfl) ?_;nofun;refine zE (show subD (.dK ks (ns.map D.int)) (.str f')=some (.int n) from hl) ?_;nofun;refine (jY px (by omega)).go ?_;have e5:jz ks ns (.str f') x=(tupD x n n&&(items x).all (fmlD 3)):=by
          show (match cntK ks ns f' with | some n=>tupD x n n&&(items x).all (fmlD 3) | none=>false)=_
          rw [hc]
        rw [e5];nofun;refine zj (fun h5=>?_) (fun h5=>?_)
        · rw [h5,ϖ];cases x with
          | tup l=>
            obtain ⟨hl,hp2⟩:=pl_l px;nofun;refine xG ?_;dsimp only [wpI,vC,zG,zW];nofun;refine wO (fmlD 3) l [] (by simp;omega) (fun y hy Q hQ=>?_) ?_
            · refine zQ rfl ?_;dsimp only [wpF,zbr,wpEs,zG,inn,nT,Κ,aN,Δ,Β];nofun;refine (zcR (zx hp2 hy) (by omega)).go ?_;nofun;exact hQ
            · refine zT (qX _) ?_;nofun;refine ⟨?_,rfl⟩;rw [ϑ,cA];rfl
          | _=>cases h5
        · rw [h5];nofun;exact ⟨rfl,rfl⟩
end
noncomputable def lstB (a:D) (n:Nat):Bool:=match a with
 | .int i=>decide (1<=i)&&decide (i<=n)
 | _=>false
noncomputable def Z8 (ks:List Key) (ns:List Int) (a b:D):Bool:=tupD b 1 4&&lstB a (items b).length&&(items b).all (brnD ks ns)
section
variable {K:Nat}{S:Store}{d a b:D}{ks:List Key}{ns:List Int}
theorem zel (ha:plD a=true) (hb:plD b=true) (hK:10<=K):Tl K 18 [a,b,.dK ks (ns.map D.int),.fn 6,.fn 9] (Z8 ks ns a b) S:=by
 obtain ⟨K,hk,rfl⟩:=up hK;refine Qu (x2:=.dK ks (ns.map D.int)) (x3:=.fn 6) (x4:=.fn 9) ?_;nofun;refine (jY hb (by omega)).go ?_;nofun;refine zj (fun h1=>?_) (fun h1=>?_)
 ·nofun;have h1:tupD b 1 4=false:=by simpa using h1
  exact ⟨by unfold Z8;rw [h1];rfl,rfl⟩
 have h1:tupD b 1 4=true:=by simpa using h1
 have e1:Z8 ks ns a b=(lstB a (items b).length&&(items b).all (brnD ks ns)):=by unfold Z8;rw [h1];rfl
 rw [e1];cases b with
 | tup l=>
  obtain ⟨hl,hp⟩:=pl_l hb;nofun;refine (U5 ha (by omega)).go ?_;cases a with
  | int i=>
   nofun;refine wB rfl ?_;nofun;have fin:∀ z:Bool,lstB (.int i) l.length=z->(z=false->(D.bl false,Kd.st)=(D.bl (lstB (.int i) l.length&&l.all (brnD ks ns)),Kd.st)):=fun z hz q=>by rw [hz,q];rfl
   refine zj (fun h2=>?_) (fun h2=>?_)
   ·have h2:(1:Int)<=i:=of_decide_eq_true h2;nofun;refine zj (fun h3=>?_) (fun h3=>?_)
    ·nofun;have h3:(!decide (i<=(l.length:Int)))=true:=h3;have h3:decide (i<=(l.length:Int))=false:=by simpa using h3
     exact ⟨fin _ (by show (decide (1<=i)&&decide (i<=(l.length:Int)))=false;rw [h3,Τ]) rfl,rfl⟩
    ·have h3:(!decide (i<=(l.length:Int)))=false:=h3;have h3:decide (i<=(l.length:Int))=true:=by simpa using h3
     have e2:lstB (.int i) (items (.tup l)).length=true:=by show (decide (1<=i)&&decide (i<=(l.length:Int)))=true;rw [h3,decide_eq_true h2];rfl
     rw [e2,ϖ];nofun;refine xG ?_;dsimp only [wpI,zG];nofun;refine wO (brnD ks ns) l [] (by simp;omega) (fun x hx Q hQ=>?_) ?_
     ·refine zQ rfl ?_;dsimp only [wpF,ym,wpEs,zG,inn,nT,Κ,aN,Δ,Β];nofun;refine (zjb (zx hp hx) (by omega)).go ?_;nofun;exact hQ
     ·refine zT (qX _) ?_;nofun;refine ⟨?_,rfl⟩;rw [ϑ,cA];rfl
   ·nofun;have h2:decide ((1:Int)<=i)=false:=h2;exact ⟨fin _ (by show (decide (1<=i)&&decide (i<=(l.length:Int)))=false;rw [h2,ϧ]) rfl,rfl⟩
  | non=>nofun;exact ⟨rfl,rfl⟩
  | bl b=>nofun;exact ⟨rfl,rfl⟩
  | str s=>nofun;exact ⟨rfl,rfl⟩
  | tup l=>nofun;exact ⟨rfl,rfl⟩
  | lst l=>nofun;exact ⟨rfl,rfl⟩
  | _=>cases ha
 | _=>cases h1
end
noncomputable def rowD (ks:List Key) (ns:List Int) (d:D):Bool:=match hd1 d with
 | some p=>if eqP (.str p.1) (.str "set") then zB (p.2.getD 0 .non)&&fmlD 3 (p.2.getD 1 .non)
  else if eqP (.str p.1) (.str "want") then Z8 ks ns (p.2.getD 0 .non) (p.2.getD 1 .non)
  else if eqP (.str p.1) (.str "try") then wonD (p.2.getD 1 .non)
  else eqP (.str p.1) (.str "do")||fmlD 3 (p.2.getD 0 .non)
 | none=>false
theorem Jy (w:Str):yj w≠1:=by
 unfold yj We;simp only [aD]
 repeat' split
 all_goals decide
section
variable {K:Nat}{S:Store}{d:D}{ks:List Key}{ns:List Int}
theorem XH {w:Str}{l:List D}(h:zy (.tup (.str w::l))=true):((l.length+1:Nat):Int)=yj w:=eq_of_beq h
theorem eqS {w v:Str}(h:eqP (.str w) (.str v)=true):w=v:=eq_of_beq (show (w==v)=true from h)
theorem zhr (h:plD d=true) (hs:zy d=true) (hK:11<=K):Tl K 17 [d,.dK ks (ns.map D.int)] (rowD ks ns d) S:=by
 obtain ⟨K,hk,rfl⟩:=up hK;cases e:hd1 d with
 | none=>unfold zy at hs;rw [e] at hs;cases hs
 | some p=>
  obtain ⟨w,l⟩:=p;cases zc2 e;obtain ⟨_,hp⟩:=pl_l h;have hlen:=XH hs;refine zb6 (x1:=.dK ks (ns.map D.int)) ?_;nofun;refine zj (fun h1=>?_) (fun h1=>?_)
  ·have h1:eqP (.str w) (.str "set")=true:=h1;cases eqS h1;have h2:l.length=2:=by
    have:yj "set"=3:=by decide +kernel
    omega
   obtain ⟨a,b,rfl⟩:∃ a b,l=[a,b]:=by
    match l,h2 with
    | [a,b],_=>exact ⟨a,b,rfl⟩
   have pa:=zx hp (show a∈[_,a,b] by simp);have pb:=zx hp (show b∈[_,a,b] by simp);nofun;refine (yQ pa (by omega)).go ?_;nofun;refine zj (fun h3=>?_) (fun h3=>?_)
   ·nofun;refine (zcR pb (by omega)).go ?_;nofun;exact ⟨by show _=(D.bl (zB a&&fmlD 3 b),Kd.st);rw [h3];rfl,rfl⟩
   ·nofun;exact ⟨by show _=(D.bl (zB a&&fmlD 3 b),Kd.st);rw [h3];rfl,rfl⟩
  have h1:eqP (.str w) (.str "set")=false:=h1;nofun;refine zj (fun h2=>?_) (fun h2=>?_)
  ·have h2:eqP (.str w) (.str "want")=true:=h2;cases eqS h2;have h3:l.length=2:=by
    have:yj "want"=3:=by decide +kernel
    omega
   obtain ⟨a,b,rfl⟩:∃ a b,l=[a,b]:=by
    match l,h3 with
    | [a,b],_=>exact ⟨a,b,rfl⟩
   have pa:=zx hp (show a∈[_,a,b] by simp);have pb:=zx hp (show b∈[_,a,b] by simp);nofun;refine (zel pa pb (by omega)).go ?_;nofun;exact ⟨rfl,rfl⟩
  have h2:eqP (.str w) (.str "want")=false:=h2;nofun;refine zj (fun h3=>?_) (fun h3=>?_)
  ·have h3:eqP (.str w) (.str "try")=true:=h3;cases eqS h3;have h4:l.length=3:=by
    have:yj "try"=4:=by decide +kernel
    omega
   obtain ⟨a,b,c,rfl⟩:∃ a b c,l=[a,b,c]:=by
    match l,h4 with
    | [a,b,c],_=>exact ⟨a,b,c,rfl⟩
   have pb:=zx hp (show b∈[_,a,b,c] by simp);nofun;refine (zdz pb (by omega)).go ?_;nofun;exact ⟨rfl,rfl⟩
  have h3:eqP (.str w) (.str "try")=false:=h3;have er:rowD ks ns (.tup (.str w::l))=(eqP (.str w) (.str "do")||fmlD 3 (l.getD 0 .non)):=by unfold rowD;rw [e];dsimp only;rw [h1,h2,h3];rfl
  rw [er];nofun;refine zj (fun h4=>?_) (fun h4=>?_)
  ·have h4:eqP (.str w) (.str "do")=true:=h4;nofun;exact ⟨by rw [h4];rfl,rfl⟩
  have h4:eqP (.str w) (.str "do")=false:=h4;cases l with
  | nil=>exact absurd hlen.symm (Jy w)
  | cons a l=>
   have pa:=zx hp (show a∈_::a::l by simp);nofun;refine (zcR pa (by omega)).go ?_;nofun;exact ⟨by rw [h4];rfl,rfl⟩
end
noncomputable def blkD (d:D):List D:=match hd1 d with
 | some p=>if eqP (.str p.1) (.str "if") then [p.2.getD 1 .non,p.2.getD 2 .non]
  else if eqP (.str p.1) (.str "while") then [p.2.getD 1 .non]
  else if eqP (.str p.1) (.str "try") then [p.2.getD 0 .non,p.2.getD 2 .non]
  else if eqP (.str p.1) (.str "do") then [p.2.getD 0 .non,p.2.getD 1 .non] else []
 | none=>[]
section
variable {K:Nat}{S:Store}{d:D}
theorem len2 {l:List D}(h:l.length=2):∃ a b,l=[a,b]:=by
 match l,h with
 | [a,b],_=>exact ⟨a,b,rfl⟩
theorem len3 {l:List D}(h:l.length=3):∃ a b c,l=[a,b,c]:=by
 match l,h with
 | [a,b,c],_=>exact ⟨a,b,c,rfl⟩
theorem xO (h:plD d=true) (hs:zy d=true) (hK:1<=K):Is K 21 [d] (.tup (blkD d),.st) S/\(blkD d).length<=2/\plDs (blkD d)=true:=by
 obtain ⟨K,hk,rfl⟩:=up hK;cases e:hd1 d with
 | none=>unfold zy at hs;rw [e] at hs;cases hs
 | some p=>
  obtain ⟨w,l⟩:=p;cases zc2 e;obtain ⟨_,hp⟩:=pl_l h;have hlen:=XH hs
  have hb:blkD (.tup (.str w::l))=(if eqP (.str w) (.str "if") then [l.getD 1 .non,l.getD 2 .non]
   else if eqP (.str w) (.str "while") then [l.getD 1 .non]
   else if eqP (.str w) (.str "try") then [l.getD 0 .non,l.getD 2 .non]
   else if eqP (.str w) (.str "do") then [l.getD 0 .non,l.getD 1 .non] else []):=rfl
  rw [hb];by_cases h1:eqP (.str w) (.str "if")=true
  ·cases eqS h1;obtain ⟨a,b,c,rfl⟩:=len3 (l:=l) (by have:yj "if"=4:=(by decide +kernel);omega);have pb:=zx hp (show b∈[_,a,b,c] by simp);have pc:=zx hp (show c∈[_,a,b,c] by simp);refine ⟨?_,(show ([b,c]:List D).length<=2 from Α 2),by show (plD b&&(plD c&&true))=true;rw [pb,pc];rfl⟩;refine yU ?_;nofun;exact ⟨rfl,rfl⟩
  rw [if_neg h1];have h1:eqP (.str w) (.str "if")=false:=by simpa using h1
  by_cases h2:eqP (.str w) (.str "while")=true
  ·cases eqS h2;obtain ⟨a,b,rfl⟩:=len2 (l:=l) (by have:yj "while"=3:=(by decide +kernel);omega);have pb:=zx hp (show b∈[_,a,b] by simp);refine ⟨?_,(show ([b]:List D).length<=2 from fJ 1),by show (plD b&&true)=true;rw [pb];rfl⟩;refine yU ?_;nofun;exact ⟨rfl,rfl⟩
  rw [if_neg h2];have h2:eqP (.str w) (.str "while")=false:=by simpa using h2
  by_cases h3:eqP (.str w) (.str "try")=true
  ·cases eqS h3;obtain ⟨a,b,c,rfl⟩:=len3 (l:=l) (by have:yj "try"=4:=(by decide +kernel);omega);have pa:=zx hp (show a∈[_,a,b,c] by simp);have pc:=zx hp (show c∈[_,a,b,c] by simp);refine ⟨?_,(show ([a,c]:List D).length<=2 from Α 2),by show (plD a&&(plD c&&true))=true;rw [pa,pc];rfl⟩;refine yU ?_;nofun;exact ⟨rfl,rfl⟩
  rw [if_neg h3];have h3:eqP (.str w) (.str "try")=false:=by simpa using h3
  by_cases h4:eqP (.str w) (.str "do")=true
  ·cases eqS h4;obtain ⟨a,b,rfl⟩:=len2 (l:=l) (by have:yj "do"=3:=(by decide +kernel);omega);have pa:=zx hp (show a∈[_,a,b] by simp);have pb:=zx hp (show b∈[_,a,b] by simp);refine ⟨?_,(show ([a,b]:List D).length<=2 from Α 2),by show (plD a&&(plD b&&true))=true;rw [pa,pb];rfl⟩;refine yU ?_;nofun;exact ⟨rfl,rfl⟩
  rw [if_neg h4];have h4:eqP (.str w) (.str "do")=false:=by simpa using h4
  refine ⟨?_,by decide,rfl⟩;refine yU ?_;nofun;refine wB h1 ?_;nofun;refine wB h2 ?_;nofun;refine wB h3 ?_;nofun;refine wB h4 ?_;nofun;exact ⟨rfl,rfl⟩
noncomputable def prOf (p:D×Int):D:=.tup [p.1,.int p.2]
noncomputable def inn1 (k:Int) (r:D):List (D×Int):=(blkD r).map fun x=>(x,k+1)
noncomputable def jr (p:D×Int):List (D×Int):=(items p.1).flatMap (inn1 p.2)
noncomputable def shF:Nat->List (D×Int)->List D->Option (List D)
 | 0,wt,rows=>if wt.isEmpty then some rows else none
 | n+1,wt,rows=>match wt.getLast? with
  | none=>some rows
  | some p=>if xZ p.1 p.2&&decide (rows.length+(items p.1).length<=24) then shF n (wt.dropLast++jr p) (rows++items p.1) else none
noncomputable def shV:Option (List D)->Vl
 | some rs=>(.lst rs,.fr)
 | none=>(.non,.st)
theorem Yl:∀ (k:Int) (l:List D),l.all zy=true->plDs l=true->(l.flatMap (inn1 k)).length<=2*l.length/\∀ p∈l.flatMap (inn1 k),plD p.1=true
 | k,[],_,_=>⟨Α 0,fun p hp=>by cases hp⟩
 | k,r::l,h1,h2=>by
  obtain ⟨a1,a2⟩:=ε.mp (show (zy r&&l.all zy)=true from h1);obtain ⟨b1,b2⟩:=ε.mp (show (plD r&&plDs l)=true from h2);obtain ⟨i1,i2⟩:=Yl k l a2 b2;obtain ⟨_,c1,c2⟩:=xO (K:=1) (S:=[]) b1 a1 (Α 1);refine ⟨?_,fun p hp=>?_⟩
  ·rw [ϣ,ξ,Ϝ];have:(inn1 k r).length=(blkD r).length:=by unfold inn1;rw [υ]
   omega
  ·rw [ϣ] at hp;rcases Ζ.mp hp with hp | hp
   ·obtain ⟨x,hx,rfl⟩:=Ο.mp hp;exact zx c2 hx
   ·exact i2 p hp
end
theorem xW {s:D->(Option D->Store->Prop)->Store->Prop}{V:List D->Store->Prop}{S:Store}(f:D->D):∀ (xs acc:List D),acc.length+xs.length<=1000->(∀ x∈xs,∀ Q:Option D->Store->Prop,Q (some (f x)) S->s x Q S)->V (acc++xs.map f) S->xu s xs acc V S
 | [],acc,_,_,v=>by rw [show acc++([]:List D).map f=acc by simp] at v;exact v
 | x::xs,acc,hl,h,v=>by refine h x θ _ ?_;have hl:acc.length+(xs.length+1)<=1000:=hl;refine yf (fits_of (by omega)) (xW f xs (acc++[f x]) (by simp;omega) (fun y hy=>h y (ι _ hy)) ?_);simpa using v
theorem zhD:∀ {l m:List D},plDs (l++m)=true->plDs l=true
 | [],_,_=>rfl
 | d::l,m,h=>by
  obtain ⟨h1,h2⟩:=ε.mp (show (plD d&&plDs (l++m))=true from h);show (plD d&&plDs l)=true
  rw [h1,zhD h2];rfl
theorem jB {n:Nat}{wt:List (D×Int)}{rows:List D}{p:D×Int}(h:wt.getLast?=some p):shF (n+1) wt rows=if xZ p.1 p.2&&decide (rows.length+(items p.1).length<=24) then shF n (wt.dropLast++jr p) (rows++items p.1) else none:=by
  show (match wt.getLast? with
    | none=>some rows
    | some p=>if xZ p.1 p.2&&decide (rows.length+(items p.1).length<=24) then shF n (wt.dropLast++jr p) (rows++items p.1) else none)=_
  rw [h]
theorem zeF {n:Nat}{rows:List D}:shF n [] rows=some rows:=by cases n <;> rfl
section
variable {K:Nat}{S:Store}{d:D}
theorem XF (h:plD d=true) (hK:4<=K):Is K 14 [d] (shV (shF 49 [(d,1)] [])) S:=by
 obtain ⟨K,hk,rfl⟩:=up hK;refine Z9 ?_;nofun;generalize hR:shF 49 [(d,1)] []=R;refine Z6 (fun n ρ S'=>S'=S/\∃ (rs:List D) (wt:List (D×Int)) (x3 x4:Slot),ρ=[.sh d,.ow (.lst rs),.ow (.lst (wt.map prOf)),x3,x4]/\(∀ p∈wt,plD p.1=true)/\rs.length<=24/\shF n wt rs=R/\wt.length+2*(24 - rs.length)<=n/\n<=49) ?_ _ 49 _ _ (by decide)
  ⟨rfl,[],[(d,1)],.no,.no,rfl,fun p hp=>by rw [μ.mp hp];exact h,by decide,hR,Α 49,by decide⟩
 rintro n ρ S' ⟨rfl,rs,wt,x3,x4,rfl,hp,hr,hF,hn,hN⟩;dsimp only [wpX,vD,e_bi,zG,zW,zf2];nofun;refine zj (fun hl=>?_) (fun hl=>?_)
 ·have hl:0 < wt.length:=by have:=of_decide_eq_true hl;simp at this;omega
  obtain ⟨n,rfl⟩:∃ m,n=m+1:=⟨n - 1,by omega⟩
  obtain ⟨p,e1⟩:∃ p,wt.getLast?=some p:=by
   cases e:wt.getLast? with
   | none=>rw [cZ] at e;rw [e] at hl;cases hl
   | some p=>exact ⟨p,rfl⟩
  have e2:(wt.map prOf).getLast?=some (prOf p):=by rw [List.getLast?_map,e1];rfl
  have e3:(wt.map prOf).dropLast=wt.dropLast.map prOf:=by rw [List.map_dropLast]
  have pp:=hp p (dZ e1);have hd:wt.dropLast.length=wt.length - 1:=bO;rw [jB e1] at hF;refine ⟨n,rfl,?_⟩;nofun;refine zE e2 ?_;rw [e3];nofun;refine (zcj pp (by omega)).go ?_;nofun;refine zj (fun h1=>?_) (fun h1=>?_)
  ·nofun;have h1:xZ p.1 p.2=false:=by simpa using h1
   rw [h1] at hF;exact ⟨by rw [<- hF];rfl,rfl⟩
  have h1:xZ p.1 p.2=true:=by simpa using h1
  rw [h1,ϖ] at hF;obtain ⟨b,k⟩:=p;cases b with
  | tup b=>
   obtain ⟨hb1,hb2⟩:=ε.mp (show (decide ((b.length:Int)<=Zc k)&&b.all zy)=true from h1);have hb8:b.length<=8:=by
    have:=of_decide_eq_true hb1;have h8:Zc k<=8:=by unfold Zc;split <;> omega
    omega
   obtain ⟨_,hpb⟩:=pl_l pp;obtain ⟨m1,m2⟩:=Yl k b hb2 hpb;nofun;refine zj (fun h2=>?_) (fun h2=>?_)
   ·nofun;have h2:((24:Int) < ((rs++b).length:Nat)):=of_decide_eq_true h2;have h3:decide (rs.length+(items (.tup b)).length<=24)=false:=decide_eq_false (by rw [ξ] at h2;show ¬ rs.length+b.length<=24;omega);rw [h3] at hF;exact ⟨by rw [<- hF];rfl,rfl⟩
   have h2:¬ ((24:Int) < ((rs++b).length:Nat)):=of_decide_eq_false h2;have h24:rs.length+b.length<=24:=by rw [ξ] at h2;omega
   have h3:decide (rs.length+(items (.tup b)).length<=24)=true:=decide_eq_true h24;rw [h3] at hF;have hF:shF n (wt.dropLast++b.flatMap (inn1 k)) (rs++b)=R:=hF;nofun;refine wp_walk (fun l' ρ S''=>S''=S'/\∃ (c:List D) (x4:Slot),ρ=[.sh d,.ow (.lst (rs++b)),.ow (.lst ((wt.dropLast++c.flatMap (inn1 k)).map prOf)),.sh (prOf (.tup b,k)),x4]/\c++l'=b) ?_ ?_ _ _ _
    ⟨rfl,[],x4,by simp,rfl⟩
   ·rintro r l' ρ S'' ⟨rfl,c,x4,rfl,hc⟩;have hm:r∈b:=by rw [<- hc];simp
    obtain ⟨q1,q2,q3⟩:=xO (K:=K) (S:=S'') (zx hpb hm) (ν.mp hb2 r hm) (by omega);nofun;refine xG ?_;dsimp only [wpI,ym,wpEs,zG];nofun;refine q1.go ?_;nofun;refine xW (fun x=>prOf (x,k+1)) (blkD r) [] (by simp;omega) (fun x hx Q hQ=>?_) ?_
    ·refine zQ rfl ?_;dsimp only [wpF,ux,vG,vC,zW,wpEs,zG,inn,nT,Κ,aN,Δ,Β];nofun;exact hQ
    ·rw [ϑ];have hcl:(c.flatMap (inn1 k)).length<=2*c.length:=(Yl k c (by rw [<- hc] at hb2;rw [List.all_append] at hb2;exact (ε.mp hb2).1) (by rw [<- hc] at hpb;exact zhD hpb)).1;have hcb:c.length<=b.length:=by rw [<- hc,ξ];omega
     nofun;refine ⟨rfl,c++[r],.sh r,?_,by rw [<- hc];simp⟩;have he:(wt.dropLast++c.flatMap (inn1 k)).map prOf++(blkD r).map (fun x=>prOf (x,k+1))=(wt.dropLast++(c++[r]).flatMap (inn1 k)).map prOf:=by simp [inn1,ϭ]
     rw [<- he]
   ·rintro ρ S'' ⟨rfl,c,x4,rfl,hc⟩;rw [Δ] at hc;subst hc;nofun;refine ⟨rfl,_,_,_,_,rfl,fun p hp'=>?_,by rw [ξ];exact h24,hF,?_,by omega⟩
    ·rcases Ζ.mp hp' with z | z
     ·exact hp p (aU _ z)
     ·exact m2 p z
    ·rw [ξ,ξ];omega
  | _=>cases h1
 ·nofun;have hl:wt=[]:=by
   cases wt with
   | nil=>rfl
   | cons a l=>exact absurd (of_decide_eq_false hl) (by simp)
  subst hl;rw [zeF] at hF;exact ⟨by rw [<- hF];rfl,rfl⟩
end
noncomputable def txs:List D->List Str
 | []=>[]
 | .str s::l=>s::txs l
 | _::l=>txs l
noncomputable def parD (d:D):Bool:=tupD d 0 3&&((items d).all zB&&((yo (txs (items d))).length:Int)==(items d).length)
noncomputable def hdD (d:D):Bool:=match tri3 d with
 | some (n,p,_)=>zB n&&parD p
 | none=>false
theorem zdB:∀ {l:List D},l.all zB=true->vV l=some (txs l)
 | [],_=>rfl
 | d::l,h=>by
  obtain ⟨h1,h2⟩:=ε.mp (show (zB d&&l.all zB)=true from h);obtain ⟨s,rfl⟩:=jQ h1;show (vV l).map (s::·)=_
  rw [zdB h2];rfl
theorem QC:∀ {l:List D},l.all zB=true->(txs l).length=l.length
 | [],_=>rfl
 | d::l,h=>by
  obtain ⟨h1,h2⟩:=ε.mp (show (zB d&&l.all zB)=true from h);obtain ⟨s,rfl⟩:=jQ h1;show (txs l).length+1=l.length+1
  rw [QC h2]
section
variable {K:Nat}{S:Store}{d:D}
theorem zhR (h:plD d=true) (hK:2<=K):Tl K 12 [d] (parD d) S:=by
 obtain ⟨K,hk,rfl⟩:=up hK;refine Vp ?_;nofun;refine (jY h (by omega)).go ?_;nofun;refine zj (fun h1=>?_) (fun h1=>?_)
 ·nofun;have h1:tupD d 0 3=false:=by simpa using h1
  exact ⟨by unfold parD;rw [h1];rfl,rfl⟩
 have h1:tupD d 0 3=true:=by simpa using h1
 have e1:parD d=((items d).all zB&&((yo (txs (items d))).length:Int)==(items d).length):=by unfold parD;rw [h1];rfl
 rw [e1];cases d with
 | tup l=>
  obtain ⟨hl,hp⟩:=pl_l h;nofun;refine xG ?_;dsimp only [wpI,zG];nofun;refine wO zB l [] (by simp;omega) (fun x hx Q hQ=>?_) ?_
  ·refine zQ rfl ?_;dsimp only [wpF,ym,wpEs,zG,inn,nT,Κ,aN,Δ,Β];nofun;refine (yQ (zx hp hx) (by omega)).go ?_;nofun;exact hQ
  ·refine zT (qX _) ?_;have ea:([]++l.map zB).all id=l.all zB:=by rw [ϑ,cA];rfl
   rw [ea];nofun;refine zj (fun h2=>?_) (fun h2=>?_)
   ·nofun;have h2:l.all zB=false:=by simpa using (show (!l.all zB)=true from h2)
    exact ⟨by show _=(D.bl (l.all zB&&_),Kd.st);rw [h2];rfl,rfl⟩
   have h2:l.all zB=true:=by
    cases z:l.all zB with
    | true=>rfl
    | false=>rw [z] at h2;cases h2
   have e2:((items (.tup l)).all zB&&((yo (txs (items (.tup l)))).length:Int)==(items (.tup l)).length)=(((yo (txs l)).length:Int)==(l.length:Int)):=by
    show (l.all zB&&_)=_
    rw [h2];rfl
   rw [e2];have es:biD .lset [.tup l]=some (.int (yo (txs l)).length,false):=by
    show (((some l).bind vV).bind fun ks=>if decide (ks.length < 4095)=true then some (D.int (yo ks).length,false) else none)=_
    rw [show (some l).bind vV=some (txs l) from zdB h2];show (if decide ((txs l).length < 4095)=true then _ else _)=_
    rw [if_pos (decide_eq_true (by rw [QC h2];omega))]
   nofun;refine zT es ?_;nofun;exact ⟨rfl,rfl⟩
 | _=>cases h1
theorem zkH (h:plD d=true) (hK:3<=K):Tl K 11 [d] (hdD d) S:=by
 obtain ⟨K,hk,rfl⟩:=up hK;refine Qw ?_;nofun;refine (jY h (by omega)).go ?_;cases ht:tri3 d with
 | none=>
  have h3:tupD d 3 3=false:=by
   cases d with
   | tup l=>
    have:=QL ht;show (decide ((3:Int)<=l.length)&&decide ((l.length:Int)<=3))=false
    by_cases z:(3:Int)<=l.length
    ·rw [decide_eq_false (show ¬ (l.length:Int)<=3 by omega),Τ]
    ·rw [decide_eq_false z,ϧ]
   | _=>rfl
  rw [h3];nofun;exact ⟨by unfold hdD;rw [ht],rfl⟩
 | some t=>
  obtain ⟨n,p,b⟩:=t;cases Jd ht;obtain ⟨_,hp⟩:=pl_l h;have pn:=zx hp (show n∈[n,p,b] by simp);have pp:=zx hp (show p∈[n,p,b] by simp);have h3:tupD (.tup [n,p,b]) 3 3=true:=rfl;have hb:hdD (.tup [n,p,b])=(zB n&&parD p):=rfl;rw [h3,hb];nofun;refine (yQ pn (by omega)).go ?_;nofun;refine zj (fun h1=>?_) (fun h1=>?_)
  ·nofun;refine (zhR pp (by omega)).go ?_;nofun;exact ⟨by rw [h1];rfl,rfl⟩
  ·nofun;exact ⟨by rw [h1];rfl,rfl⟩
end
noncomputable def nest:Nat->D->Bool
  | 0,d=>(match d with
    | .tup l=>l.isEmpty
    | _=>false)
  | n+1,d=>(match d with
    | .tup l=>decide (l.length<=8)&&l.all fun r=>zy r&&(blkD r).all (nest n)
    | _=>false)
noncomputable def zK:Nat->D->List D
 | 0,_=>[]
 | n+1,d=>(items d).flatMap fun r=>r::(blkD r).flatMap (zK n)
noncomputable def inR (n:Nat) (r:D):List D:=r::(blkD r).flatMap (zK n)
theorem zab {n:Nat}{d:D}:zK (n+1) d=(items d).flatMap (inR n):=rfl
theorem xm:∀ {n:Nat}{d:D},nest n d=true->∃ l,d=.tup l
 | 0,.tup l,_=>⟨l,rfl⟩
 | n+1,.tup l,_=>⟨l,rfl⟩
noncomputable def cap:Nat->Nat
 | 0=>0
 | n+1=>8*(1+2*cap n)
theorem qz {α β:Type}{f:α->List β}{c:Nat}:∀ {l:List α},(∀ a∈l,(f a).length<=c)->(l.flatMap f).length<=l.length*c
 | [],_=>Ϯ _
 | a::l,h=>by
  rw [ϣ,ξ,Ϝ];have h1:=h a θ;have h2:=qz (l:=l) fun b hb=>h b (ι _ hb)
  rw [Nat.succ_mul];omega
theorem ziL {n:Nat}{r:D}(h2:(blkD r).length<=2) (h:∀ x∈blkD r,(zK n x).length<=cap n):(inR n r).length<=1+2*cap n:=by unfold inR;have:=qz h;have:=nR (cap n) h2;rw [Ϝ];omega
theorem Yo:∀ {n:Nat}{d:D},plD d=true->nest n d=true->(zK n d).length<=cap n
 | 0,_,_,_=>Α 0
 | n+1,d,hp,h=>by
  obtain ⟨l,rfl⟩:=xm h;obtain ⟨h8,ha⟩:=ε.mp (show (decide (l.length<=8)&&l.all fun r=>zy r&&(blkD r).all (nest n))=true from h);have h8:=of_decide_eq_true h8;obtain ⟨_,hpl⟩:=pl_l hp;rw [zab];have hh:∀ r∈l,(inR n r).length<=1+2*cap n:=fun r hr=>by obtain ⟨s1,s2⟩:=ε.mp (ν.mp ha r hr);obtain ⟨_,c1,c2⟩:=xO (K:=1) (S:=[]) (zx hpl hr) s1 (Α 1);exact ziL c1 fun x hx=>Yo (zx c2 hx) (ν.mp s2 x hx)
  have h1:=qz (f:=inR n) hh;have h2:=nR (1+2*cap n) h8;show (l.flatMap (inR n)).length<=8*(1+2*cap n)
  omega
theorem zee:∀ n,n<=4->cap n<=40000
 | 0,_=>by decide
 | 1,_=>by decide
 | 2,_=>by decide
 | 3,_=>by decide
 | 4,_=>by decide
theorem XN:∀ (n:Nat) (d:D),n<=4->plD d=true->nest n d=true->∀ (K:Nat) (S:Store),n+2<=K->Is K 22 [d] (.lst (zK n d),.fr) S:=by
 intro n
 induction n with
 | zero=>
  intro d h4 hp h K S hK;obtain ⟨K,hk,rfl⟩:=up hK;obtain ⟨l,rfl⟩:=xm h;cases l with
  | nil=>
   refine Xn ?_;nofun;exact ⟨rfl,rfl⟩
  | cons a l=>cases h
 | succ n ih=>
  intro d h4 hp h K S hK;obtain ⟨K,hk,rfl⟩:=up hK;have hc:=Yo hp h;have hc4:=zee _ h4;obtain ⟨l,rfl⟩:=xm h;obtain ⟨h8,ha⟩:=ε.mp (show (decide (l.length<=8)&&l.all fun r=>zy r&&(blkD r).all (nest n))=true from h);obtain ⟨_,hpl⟩:=pl_l hp;rw [zab] at hc;have hc:(l.flatMap (inR n)).length<=cap (n+1):=hc;refine Xn ?_;nofun;refine wp_walk (fun l' ρ S'=>S'=S/\∃ (c:List D) (x2 x3:Slot),ρ=[.sh (.tup l),.ow (.lst (c.flatMap (inR n))),x2,x3]/\c++l'=l) ?_ ?_ _ _ _ ⟨rfl,[],.no,.no,rfl,rfl⟩
  ·rintro r l' ρ S' ⟨rfl,c,x2,x3,rfl,hcl⟩;have hm:r∈l:=by rw [<- hcl];simp
   obtain ⟨s1,s2⟩:=ε.mp (ν.mp ha r hm);obtain ⟨q1,q2,q3⟩:=xO (K:=K) (S:=S') (zx hpl hm) s1 (by omega);have hle:(c.flatMap (inR n)).length+(inR n r).length<=cap (n+1):=by rw [<- hcl] at hc;rw [ϭ,ϣ,ξ,ξ] at hc;omega
   have hir:(inR n r).length=1+((blkD r).flatMap (zK n)).length:=by unfold inR;rw [Ϝ];omega
   nofun;refine q1.go ?_;nofun;refine wp_walk (fun b' ρ S''=>S''=S'/\∃ (e:List D) (x3:Slot),ρ=[.sh (.tup l),.ow (.lst (c.flatMap (inR n)++r::e.flatMap (zK n))),.sh r,x3]/\e++b'=blkD r) ?_ ?_ _ _ _ ⟨rfl,[],x3,rfl,rfl⟩
   ·rintro b b' ρ S'' ⟨rfl,e,x3,rfl,he⟩;have hb:b∈blkD r:=by rw [<- he];simp
    have hbl:(e.flatMap (zK n)).length+(zK n b).length<=((blkD r).flatMap (zK n)).length:=by rw [<- he,ϭ,ϣ,ξ,ξ];omega
    nofun;refine (ih b (by omega) (zx q3 hb) (ν.mp s2 b hb) _ _ hk).go ?_;nofun;refine ⟨rfl,e++[b],.sh b,?_,by rw [<- he];simp⟩;simp [ϭ]
   ·rintro ρ S'' ⟨rfl,e,x3,rfl,he⟩;rw [Δ] at he;subst he;nofun;refine ⟨rfl,c++[r],.sh r,x3,?_,by rw [<- hcl];simp⟩;simp [ϭ,inR]
  ·rintro ρ S' ⟨rfl,c,x2,x3,rfl,hcl⟩;rw [Δ] at hcl;subst hcl;nofun;exact ⟨rfl,rfl⟩
theorem zbv {s:D->(Option D->Store->Prop)->Store->Prop}{V:List D->Store->Prop}{S:Store}(f:D->Bool):∀ (xs:List D) (acc:List Bool),acc.length+xs.length<=900000->(∀ x∈xs,∀ Q:Option D->Store->Prop,Q (some (.bl (f x))) S->s x Q S) ->
  V ((acc++xs.map f).map D.bl) S->xu s xs (acc.map D.bl) V S
 | [],acc,_,_,v=>by simpa [xu] using v
 | x::xs,acc,hl,h,v=>by
  refine h x θ _ ?_;have e:(acc.map D.bl)++[D.bl (f x)]=(acc++[f x]).map D.bl:=by simp
  have hl':acc.length+(xs.length+1)<=900000:=hl;show tst (fits ((acc.map D.bl).length+1)) (xu s xs (acc.map D.bl++[D.bl (f x)]) V S) False
  refine yf (fits_of (by rw [υ];omega)) ?_;rw [e];exact zbv f xs (acc++[f x]) (by simp;omega) (fun y hy=>h y (ι _ hy)) (by simpa using v)
noncomputable def isG (d:D):Bool:=match hd1 d with
 | some p=>eqP (.str p.1) (.str "give")
 | none=>false
noncomputable def givD (n:Nat) (d:D):Bool:=(zK n d).any isG
theorem Yn:∀ {n:Nat}{d:D},plD d=true->nest n d=true->∀ r∈zK n d,zy r=true/\plD r=true
 | 0,_,_,_=>fun r hr=>by cases hr
 | n+1,d,hp,h=>fun r hr=>by
  obtain ⟨l,rfl⟩:=xm h;obtain ⟨h8,ha⟩:=ε.mp (show (decide (l.length<=8)&&l.all fun r=>zy r&&(blkD r).all (nest n))=true from h);obtain ⟨_,hpl⟩:=pl_l hp;obtain ⟨x,hx,hr⟩:=ϋ.mp hr;obtain ⟨s1,s2⟩:=ε.mp (ν.mp ha x hx);rcases ψ.mp hr with rfl | hr
  ·exact ⟨s1,zx hpl hx⟩
  ·obtain ⟨b,hb,hr⟩:=ϋ.mp hr;obtain ⟨_,_,c2⟩:=xO (K:=1) (S:=[]) (zx hpl hx) s1 (Α 1);exact Yn (zx c2 hb) (ν.mp s2 b hb) r hr
theorem zck {d:D}(h:zy d=true):∃ w l,d=.tup (.str w::l)/\hd1 d=some (w,l):=by
 cases e:hd1 d with
 | none=>unfold zy at h;rw [e] at h;cases h
 | some p=>exact ⟨p.1,p.2,zc2 e,rfl⟩
section
variable {K:Nat}{S:Store}{d:D}
theorem ziP {n:Nat}(h4:n<=4) (hp:plD d=true) (h:nest n d=true) (hK:n+3<=K):Tl K 20 [d] (givD n d) S:=by
 obtain ⟨K,hk,rfl⟩:=up hK;have hc:=Ϛ (Yo hp h) (zee n h4);refine zen ?_;nofun;refine xG ?_;dsimp only [wpI,ym,wpEs,zG];nofun;refine (XN n d h4 hp h _ _ hk).go ?_;nofun;refine zbv isG (zK n d) [] (by simp;omega) (fun x hx Q hQ=>?_) ?_
 ·obtain ⟨s1,s2⟩:=Yn hp h x hx;obtain ⟨w,l,rfl,e⟩:=zck s1;refine zQ rfl ?_;dsimp only [wpF,vD,vC,zW,wpEs,zG,inn,nT,Κ,aN,Δ,Β];nofun;exact hQ
 ·refine zT (zeh _) ?_;nofun;refine ⟨?_,rfl⟩;rw [ϑ,List.any_map];rfl
end
noncomputable def V1 (p:D×Int):Bool:=nest (5 - p.2).toNat p.1
def okK (p:D×Int):Prop:=1<=p.2/\p.2<=5
theorem qd {b:List D}{k:Int}(hk:1<=k/\k<=4):V1 (.tup b,k)=(decide (b.length<=8)&&b.all fun r=>zy r&&(inn1 k r).all V1):=by
 have e:(5 - k).toNat=(5 - (k+1)).toNat+1:=by omega
 show nest (5 - k).toNat (.tup b)=_
 rw [e];show (decide (b.length<=8)&&b.all fun r=>zy r&&(blkD r).all (nest (5 - (k+1)).toNat))=_
 congr 2
 funext r
 unfold inn1;rw [cA];rfl
theorem last_eq {α:Type}{l:List α}{a:α}(h:l.getLast?=some a):l=l.dropLast++[a]:=by
 cases l with
 | nil=>cases h
 | cons b l=>
  have hn:b::l≠[]:=by simp
  rw [List.getLast?_eq_some_getLast hn] at h;cases h;exact (List.dropLast_concat_getLast hn).symm
set_option tactic.hygienic true in
theorem Q4:∀ (n:Nat) (wt:List (D×Int)) (rows:List D),(∀ p∈wt,okK p)->(∃ p∈wt,V1 p=false)->shF n wt rows=none
 | 0,wt,rows,_,⟨p,hp,_⟩=>by
  show (if wt.isEmpty then some rows else none)=none
  cases wt with
  | nil=>cases hp
  | cons _ _=>rfl
 | n+1,wt,rows,hk,⟨p,hp,hn⟩=>by
  cases e:wt.getLast? with
  | none=>rw [cZ] at e;rw [e] at hp;cases hp
  | some q=>
   rw [jB e];split
   ·rename_i hc
    obtain ⟨c1,c2⟩:=ε.mp hc;have hq:=hk q (dZ e);obtain ⟨b,k⟩:=q;cases b with
    | tup b=>
     obtain ⟨hb1,hb2⟩:=ε.mp (show (decide ((b.length:Int)<=Zc k)&&b.all zy)=true from c1);have hb1:=of_decide_eq_true hb1;have hq:1<=k/\k<=5:=hq;have wt_eq:wt=wt.dropLast++[(.tup b,k)]:=last_eq e;by_cases h5:k<=4
     ·have hm8:Zc k=8:=if_pos h5;refine Q4 n _ _ (fun p hp=>?_) ?_
      ·rcases Ζ.mp hp with z | z
       ·exact hk p (aU _ z)
       ·obtain ⟨r,_,hr⟩:=ϋ.mp z;obtain ⟨x,_,rfl⟩:=Ο.mp hr;exact ⟨by show 1<=k+1;omega,by show k+1<=5;omega⟩
      ·rw [wt_eq] at hp;rcases Ζ.mp hp with z | z
       ·exact ⟨p,bM _ z,hn⟩
       ·rw [μ.mp z,qd ⟨hq.1,h5⟩,decide_eq_true (show b.length<=8 by omega),ϖ] at hn;obtain ⟨r,hr,hx⟩:=oO.mp hn;have hx:¬ (zy r&&(inn1 k r).all V1)=true:=hx;rw [ν.mp hb2 r hr,ϖ] at hx;have hx:(inn1 k r).all V1=false:=by simpa using hx
        obtain ⟨y,hy,hz⟩:=oO.mp hx;exact ⟨y,Υ _ (ϋ.mpr ⟨r,hr,hy⟩),by simpa using hz⟩
     ·have h5:k=5:=by omega
      subst h5;have hm0:Zc 5=0:=rfl;have hbn:b=[]:=aY.mp (by rw [hm0] at hb1;omega);subst hbn;have hmo:jr (.tup [],5)=[]:=rfl;rw [hmo,Δ];refine Q4 n _ _ (fun p hp=>hk p (aU _ hp)) ?_;rw [wt_eq] at hp;rcases Ζ.mp hp with z | z
      ·exact ⟨p,z,hn⟩
      ·rw [μ.mp z] at hn;cases hn
    | _=>cases c1
   ·rfl
noncomputable def yE (p:D×Int):List D:=zK (5 - p.2).toNat p.1
theorem Zq {b:List D}{k:Int}(hk:1<=k/\k<=4):yE (.tup b,k)=b.flatMap fun r=>r::(inn1 k r).flatMap yE:=by
 have e:(5 - k).toNat=(5 - (k+1)).toNat+1:=by omega
 show zK (5 - k).toNat (.tup b)=_
 rw [e];show (b.flatMap fun r=>r::(blkD r).flatMap (zK (5 - (k+1)).toNat))=_
 congr 1
 funext r
 unfold inn1;rw [List.flatMap_map];rfl
theorem qC {f:D->List D}:∀ (b:List D),(b.flatMap fun r=>r::f r).Perm (b++b.flatMap f)
 | []=>.refl _
 | r::b=>by rw [ϣ,ϣ,fX,fX];refine .cons r ?_;refine ((qC b).append_left (f r)).trans ?_;rw [<- aG,<- aG];exact (nG).append_right _
theorem Vy:∀ (n:Nat) (wt:List (D×Int)) (rows:List D),(∀ p∈wt,okK p/\plD p.1=true/\V1 p=true)->rows.length+(wt.flatMap yE).length<=24->wt.length+2*(24 - rows.length)<=n ->
  ∃ rs,shF n wt rows=some rs/\rs.Perm (rows++wt.flatMap yE)
 | 0,wt,rows,_,h,hn=>by have hw:wt=[]:=aY.mp (by omega);subst hw;exact ⟨rows,rfl,by simp⟩
 | n+1,wt,rows,hk,h,hn=>by
  cases e:wt.getLast? with
  | none=>
   rw [cZ] at e;subst e;exact ⟨rows,rfl,by simp⟩
  | some q=>
   obtain ⟨hq,pq,nq⟩:=hk q (dZ e);obtain ⟨b,k⟩:=q;have wt_eq:=last_eq e;have hlen:wt.length=wt.dropLast.length+1:=by rw [bO];have:0 < wt.length:=(by rw [wt_eq];simp);omega
   obtain ⟨b,rfl⟩:=xm nq;have hq:1<=k/\k<=5:=hq;rw [jB e];have hfl:wt.flatMap yE=wt.dropLast.flatMap yE++yE (.tup b,k):=by
    conv=>lhs;rw [wt_eq]
    rw [ϭ];simp
   by_cases h4:k<=4
   ·rw [qd ⟨hq.1,h4⟩] at nq;obtain ⟨n8,na⟩:=ε.mp nq;have n8:=of_decide_eq_true n8;have hsr:b.all zy=true:=ν.mpr fun r hr=>(ε.mp (ν.mp na r hr)).1
    obtain ⟨_,hpl⟩:=pl_l pq;obtain ⟨m1,m2⟩:=Yl k b hsr hpl;have pm:(yE (.tup b,k)).Perm (b++(jr (.tup b,k)).flatMap yE):=by
     rw [Zq ⟨hq.1,h4⟩];refine (qC b).trans ?_;show aZ _ (b++(b.flatMap (inn1 k)).flatMap yE)
     rw [oA]
    have pl:=pm.length_eq;rw [ξ] at pl;rw [hfl,ξ] at h;have c1:xZ (.tup b) k=true:=by
     show (decide ((b.length:Int)<=Zc k)&&b.all zy)=true
     rw [hsr,show Zc k=8 from if_pos h4,decide_eq_true (show (b.length:Int)<=8 by omega)];rfl
    rw [if_pos (by show (xZ (.tup b) k&&decide (rows.length+b.length<=24))=true;rw [c1,decide_eq_true (by omega)];rfl)];have hrl:(rows++b).length=rows.length+b.length:=ξ
    obtain ⟨rs,e1,e2⟩:=Vy n (wt.dropLast++jr (.tup b,k)) (rows++b) (fun p hp=>by
     rcases Ζ.mp hp with z | z
     ·exact hk p (aU _ z)
     ·refine ⟨?_,m2 p z,?_⟩
      ·obtain ⟨r,_,hr⟩:=ϋ.mp z;obtain ⟨x,_,rfl⟩:=Ο.mp hr;exact ⟨by show 1<=k+1;omega,by show k+1<=5;omega⟩
      ·obtain ⟨r,hr0,hr⟩:=ϋ.mp z
       exact ν.mp (ε.mp (ν.mp na r hr0)).2 p hr) (by rw [hrl,ϭ,ξ];omega) (by rw [hrl,ξ];have:(jr (.tup b,k)).length<=2*b.length:=m1;omega)
    refine ⟨rs,e1,e2.trans ?_⟩;rw [hfl,ϭ];have p1:(wt.dropLast.flatMap yE++yE (.tup b,k)).Perm (wt.dropLast.flatMap yE++(b++(jr (.tup b,k)).flatMap yE)):=pm.append_left _;refine aZ.trans ?_ (p1.symm.append_left rows);rw [aG];refine aZ.append_left rows ?_;rw [<- aG,<- aG];exact nG.append_right _
   ·have h5:k=5:=by omega
    subst h5;have hb:b=[]:=by
     cases b with
     | nil=>rfl
     | cons _ _=>cases nq
    subst hb;rw [if_pos (by show (xZ (.tup []) 5&&decide (rows.length+0<=24))=true;rw [decide_eq_true (by omega)];rfl)];have hmo:jr (.tup [],5)=[]:=rfl;have hri:rows++items (.tup [])=rows:=Δ _;have hrp:yE (.tup [],5)=[]:=rfl;rw [hmo,Δ,hri];rw [hrp,Δ] at hfl;rw [hfl] at h ⊢;exact Vy n _ rows (fun p hp=>hk p (aU _ hp)) h (by omega)
set_option tactic.hygienic true in
theorem Vx:∀ (n:Nat) (wt:List (D×Int)) (rows:List D),(∀ p∈wt,okK p/\V1 p=true)->rows.length<=24->24 < rows.length+(wt.flatMap yE).length->shF n wt rows=none
 | 0,wt,rows,_,hr,h=>by
  show (if wt.isEmpty then some rows else none)=none
  cases wt with
  | nil=>simp at h;omega
  | cons _ _=>rfl
 | n+1,wt,rows,hk,hr,h=>by
  cases e:wt.getLast? with
  | none=>
   rw [cZ] at e;subst e;simp at h;omega
  | some q=>
   obtain ⟨hq,nq⟩:=hk q (dZ e);obtain ⟨b,k⟩:=q;have wt_eq:=last_eq e;obtain ⟨b,rfl⟩:=xm nq;have hq:1<=k/\k<=5:=hq;rw [jB e];have hfl:wt.flatMap yE=wt.dropLast.flatMap yE++yE (.tup b,k):=by
    conv=>lhs;rw [wt_eq]
    rw [ϭ];simp
   split
   ·rename_i hc
    have hle:rows.length+b.length<=24:=of_decide_eq_true (ε.mp hc).2;have hrl:(rows++b).length=rows.length+b.length:=ξ;by_cases h4:k<=4
    ·rw [qd ⟨hq.1,h4⟩] at nq;obtain ⟨n8,na⟩:=ε.mp nq;have pm:(yE (.tup b,k)).Perm (b++(jr (.tup b,k)).flatMap yE):=by
      rw [Zq ⟨hq.1,h4⟩];refine (qC b).trans ?_;show aZ _ (b++(b.flatMap (inn1 k)).flatMap yE)
      rw [oA]
     have pl:=pm.length_eq;rw [ξ] at pl;rw [hfl,ξ] at h;refine Vx n _ (rows++b) (fun p hp=>?_) (by omega) (by rw [hrl,ϭ,ξ];omega);rcases Ζ.mp hp with z | z
     ·exact hk p (aU _ z)
     ·obtain ⟨r,hr0,hr⟩:=ϋ.mp z;refine ⟨?_,ν.mp (ε.mp (ν.mp na r hr0)).2 p hr⟩;obtain ⟨x,_,rfl⟩:=Ο.mp hr;exact ⟨by show 1<=k+1;omega,by show k+1<=5;omega⟩
    ·have h5:k=5:=by omega
     subst h5;have hb:b=[]:=by
      cases b with
      | nil=>rfl
      | cons _ _=>cases nq
     subst hb;have hmo:jr (.tup [],5)=[]:=rfl;have hri:rows++items (.tup [])=rows:=Δ _;have hrp:yE (.tup [],5)=[]:=rfl;show shF n (wt.dropLast++jr (.tup [],5)) (rows++items (.tup []))=none
     rw [hmo,Δ,hri];rw [hrp,Δ] at hfl;rw [hfl] at h;exact Vx n _ rows (fun p hp=>hk p (aU _ hp)) hr h
   ·rfl
section
variable {K:Nat}{S:Store}{d:D}
theorem Ky (hp:plD d=true) (hn:nest 4 d=true) (h24:(zK 4 d).length<=24) (hK:4<=K):Sm K 14 [d] (fun x=>∃ rs,x=(.lst rs,.fr)/\rs.Perm (zK 4 d)) S:=by
 have e:([(d,(1:Int))]:List (D×Int)).flatMap yE=zK 4 d:=by
  show zK 4 d++[]=_
  rw [Δ]
 obtain ⟨rs,e1,e2⟩:=Vy 49 [(d,1)] [] (fun p h=>by rw [μ.mp h];exact ⟨⟨by show (1:Int)<=1;omega,by show (1:Int)<=5;omega⟩,hp,hn⟩) (by rw [e];simpa using h24) (Α 49);rw [e] at e2;have:=XF (S:=S) hp hK;rw [e1] at this;exact this.go ⟨⟨rs,rfl,e2⟩,rfl⟩
theorem Q3 (hp:plD d=true) (h:nest 4 d=false\/24 < (zK 4 d).length) (hK:4<=K):Is K 14 [d] (.non,.st) S:=by
 have e:([(d,(1:Int))]:List (D×Int)).flatMap yE=zK 4 d:=by
  show zK 4 d++[]=_
  rw [Δ]
 have hk:∀ p∈([(d,(1:Int))]:List (D×Int)),okK p:=fun p h=>by rw [μ.mp h];exact ⟨by show (1:Int)<=1;omega,by show (1:Int)<=5;omega⟩
 have e1:shF 49 [(d,1)] []=none:=by
  cases hn:nest 4 d with
  | false=>exact Q4 49 _ _ hk ⟨(d,1),by simp,hn⟩
  | true=>
   rcases h with h | h
   ·rw [hn] at h;cases h
   ·exact Vx 49 _ [] (fun p hp=>⟨hk p hp,by rw [μ.mp hp];exact hn⟩) (by simp) (by rw [e];simpa using h)
 have:=XF (S:=S) hp hK;rw [e1] at this;exact this
end
noncomputable abbrev LS (ns:List Str):D:=.lst (ns.map D.str)
noncomputable def strL:D->List Str
 | .str s=>[s]
 | _=>[]
noncomputable def fnD:Nat->D->List Str
  | 0,d=>strL d
  | k+1,d=>(match tri3 d with
    | some t=>fnD k t.2.1++fnD k t.2.2
    | none=>strL d)
theorem zfs {d:D}(h:numD d=true):∃ i,d=.int i:=by
 cases d with
 | int i=>exact ⟨i,rfl⟩
 | _=>cases h
section
variable {K:Nat}{S:Store}{d:D}
theorem zbj (h:(numD d||zB d)=true) (hK:1<=K) (k:Nat):Is K 26 [d] (LS (fnD k d),.fr) S/\(fnD k d).length<=2 ^ k:=by
 obtain ⟨K,hk,rfl⟩:=up hK;have hp:1<=2 ^ k:=Nat.one_le_two_pow;rcases b8.mp h with h | h
 ·obtain ⟨i,rfl⟩:=zfs h;have e:fnD k (.int i)=[]:=by cases k <;> rfl
  rw [e];refine ⟨?_,Ϯ _⟩;refine yS ?_;nofun;exact ⟨rfl,rfl⟩
 ·obtain ⟨s,rfl⟩:=jQ h;have e:fnD k (.str s)=[s]:=by cases k <;> rfl
  rw [e];refine ⟨?_,hp⟩;refine yS ?_;nofun;exact ⟨rfl,rfl⟩
theorem ziS:∀ (k:Nat) (d:D),k<=3->fmlD k d=true->∀ (K:Nat) (S:Store),k+1<=K->Is K 26 [d] (LS (fnD k d),.fr) S/\(fnD k d).length<=2 ^ k:=by
  intro k
  induction k with
  | zero=>exact fun d _ h K S hK=>zbj h hK 0
  | succ k ih=>
    intro d h3 h K S hK;cases hl:(numD d||zB d) with
    | true=>exact zbj hl (by omega) (k+1)
    | false=>
      have h:((numD d||zB d)||(match tri3 d with
        | some t=>XD t.1&&(fmlD k t.2.1&&fmlD k t.2.2)
        | none=>false))=true:=h
      rw [hl,fL] at h;cases ht:tri3 d with
      | none=>rw [ht] at h;cases h
      | some t=>
        obtain ⟨g,a,b⟩:=t;rw [ht] at h;cases Jd ht;obtain ⟨_,h⟩:=ε.mp h;obtain ⟨ha,hb⟩:=ε.mp h;obtain ⟨K,hk,rfl⟩:=up hK;obtain ⟨a1,a2⟩:=ih a (by omega) ha K S hk;obtain ⟨b1,b2⟩:=ih b (by omega) hb K S hk;have hq:2 ^ k<=2 ^ 3:=Nat.pow_le_pow_right (by decide) (by omega);have hr:2 ^ (k+1)=2 ^ k+2 ^ k:=by rw [Nat.pow_succ];omega
        have e:fnD (k+1) (.tup [g,a,b])=fnD k a++fnD k b:=rfl;rw [e];refine ⟨?_,by rw [ξ];omega⟩;refine yS ?_;nofun;refine a1.go ?_;nofun;refine b1.go ?_;refine Wf (UV (by simp;omega)) ?_;nofun;exact ⟨by simp [LS],rfl⟩
theorem Xa {s:D->(Option D->Store->Prop)->Store->Prop}{V:List D->Store->Prop}{S:Store}(g:D->D):∀ (xs:List D) (acc:List Str),acc.length+xs.length<=1000->(∀ x∈xs,g x=.non\/∃ t,g x=.str t)->(∀ x∈xs,∀ Q:Option D->Store->Prop,(g x=.non->Q none S)->(∀ t,g x=.str t->Q (some (.str t)) S)->s x Q S) ->
  V ((acc++txs (xs.map g)).map D.str) S->xu s xs (acc.map D.str) V S
 | [],acc,_,_,_,v=>by simpa [xu,txs] using v
 | x::xs,acc,hl,hg,h,v=>by
  have hl':acc.length+(xs.length+1)<=1000:=hl;have hg':=fun y hy=>hg y (ι _ hy)
  have h':=fun y hy=>h y (ι _ hy)
  rcases hg x θ with e | ⟨t,e⟩
  ·refine h x θ _ (fun _=>?_) (fun t e'=>by rw [e] at e';cases e');refine Xa g xs acc (by omega) hg' h' ?_;have e2:txs ((x::xs).map g)=txs (xs.map g):=by rw [ϒ,e];rfl
   rw [e2] at v;exact v
  ·refine h x θ _ (fun e'=>by rw [e] at e';cases e') (fun t' e'=>?_);rw [e] at e';cases e';have e1:(acc.map D.str)++[D.str t]=(acc++[t]).map D.str:=by simp
   show tst (fits ((acc.map D.str).length+1)) (xu s xs (acc.map D.str++[D.str t]) V S) False
   refine yf (fits_of (by rw [υ];omega)) ?_;rw [e1];refine Xa g xs (acc++[t]) (by simp;omega) hg' h' ?_;have e2:txs ((x::xs).map g)=t::txs (xs.map g):=by rw [ϒ,e];rfl
   rw [e2] at v;simpa using v
end
noncomputable def h0 (b:D):D:=match quad b with
 | some q=>q.1
 | none=>.non
noncomputable def brF (b:D):List D:=match quad b with
 | some q=>if eqP q.2.1 (.str "ask") then [q.2.2.2] else items q.2.2.2
 | none=>[]
noncomputable def nmS (d:D):List Str:=match hd1 d with
 | some p=>if eqP (.str p.1) (.str "set") then txs [p.2.getD 0 .non]
  else if eqP (.str p.1) (.str "try") then txs [p.2.getD 1 .non]
  else if eqP (.str p.1) (.str "want") then txs ((items (p.2.getD 1 .non)).map h0) else []
 | none=>[]
noncomputable def tgL:List Str:=["tell","give","fail","if","while"]
noncomputable def nmF (d:D):List D:=match hd1 d with
 | some p=>if eqP (.str p.1) (.str "set") then [p.2.getD 1 .non]
  else if (tgL.map D.str).any (fun y=>eqP y (.str p.1)) then [p.2.getD 0 .non]
  else if eqP (.str p.1) (.str "want") then (items (p.2.getD 1 .non)).flatMap brF else []
 | none=>[]
theorem zb1 {d:D}(h:wonD d=true):d=.non\/∃ s,d=.str s:=by
 cases d with
 | non=>exact .inl rfl
 | str s=>exact .inr ⟨s,rfl⟩
 | _=>cases h
theorem zf6 {ks:List Key}{ns:List Int}{f:Str}{n:Int}(h:cntK ks ns f=some n):n∈ns:=by
 unfold cntK at h;cases e:yZ ks (.inr f) with
 | none=>rw [e] at h;cases h
 | some i=>rw [e] at h;exact ϴ h
theorem zca {d:D}{a b:Int}(h:tupD d a b=true):∃ l,d=.tup l/\a<=l.length/\(l.length:Int)<=b:=by
 cases d with
 | tup l=>
  obtain ⟨h1,h2⟩:=ε.mp (show (decide (a<=l.length)&&decide ((l.length:Int)<=b))=true from h);exact ⟨l,rfl,of_decide_eq_true h1,of_decide_eq_true h2⟩
 | _=>cases h
theorem Jb:∀ (l:List D),(txs l).length<=l.length
 | []=>Α 0
 | d::l=>by
  have:=Jb l;cases d with
  | str s=>exact Nat.succ_le_succ this
  | _=>exact Nat.le_succ_of_le this
section
variable {K:Nat}{S:Store}{d:D}{ks:List Key}{ns:List Int}
theorem Xe {x:D}(hn:∀ n∈ns,n<=3) (h:brnD ks ns x=true):∃ t w f y,x=.tup [t,.str w,f,y]/\wonD t=true/\((eqP (.str w) (.str "ask")=true/\fmlD 3 y=true)\/(eqP (.str w) (.str "ask")=false/\∃ l,y=.tup l/\l.length<=3/\l.all (fmlD 3)=true)):=by
 unfold brnD at h;cases e:quad x with
 | none=>rw [e] at h;cases h
 | some q=>
  obtain ⟨t,w,f,y⟩:=q;rw [e] at h;cases zal e;obtain ⟨h1,h⟩:=ε.mp h;cases e2:isS w with
  | none=>rw [e2] at h;cases h
  | some w'=>
   have ew:w=.str w':=by
    cases w with
    | str s=>cases e2;rfl
    | _=>cases e2
   cases ew;rw [e2] at h;obtain ⟨h2,h⟩:=ε.mp h;refine ⟨t,w',f,y,rfl,h1,?_⟩;cases e3:eqP (.str w') (.str "ask") with
   | true=>rw [e3] at h;exact .inl ⟨rfl,h⟩
   | false=>
    rw [e3] at h;refine .inr ⟨rfl,?_⟩;obtain ⟨_,h⟩:=ε.mp h;unfold jz at h;cases e4:isS f with
    | none=>rw [e4] at h;cases h
    | some f'=>
     rw [e4] at h;dsimp only at h;cases e5:cntK ks ns f' with
     | none=>rw [e5] at h;cases h
     | some n=>
      rw [e5] at h;obtain ⟨h3,h4⟩:=ε.mp h;obtain ⟨l,rfl,h5,h6⟩:=zca h3;have:=hn n (zf6 e5);exact ⟨l,rfl,by omega,h4⟩
theorem U6 {a b:D}(h:Z8 ks ns a b=true):∃ l,b=.tup l/\l.length<=4/\l.all (brnD ks ns)=true:=by unfold Z8 at h;obtain ⟨h1,h2⟩:=ε.mp h;obtain ⟨h1,_⟩:=ε.mp h1;obtain ⟨l,rfl,_,h3⟩:=zca h1;exact ⟨l,rfl,by omega,h2⟩
theorem zdC (hn:∀ n∈ns,n<=3) (hp:plD d=true) (hs:zy d=true) (hr:rowD ks ns d=true) (hK:1<=K):Is K 24 [d] (LS (nmS d),.fr) S/\(nmS d).length<=4:=by
 obtain ⟨K,hk,rfl⟩:=up hK;obtain ⟨w,l,rfl,e⟩:=zck hs;have hlen:=XH hs;obtain ⟨_,hpl⟩:=pl_l hp
 have hb:nmS (.tup (.str w::l))=(if eqP (.str w) (.str "set") then txs [l.getD 0 .non]
  else if eqP (.str w) (.str "try") then txs [l.getD 1 .non]
  else if eqP (.str w) (.str "want") then txs ((items (l.getD 1 .non)).map h0) else []):=rfl
 rw [hb];by_cases h1:eqP (.str w) (.str "set")=true
 ·cases eqS h1;obtain ⟨a,b,rfl⟩:=len2 (l:=l) (by have:yj "set"=3:=(by decide +kernel);omega);have hr:(zB a&&fmlD 3 b)=true:=hr;obtain ⟨ha,_⟩:=ε.mp hr;obtain ⟨s,rfl⟩:=jQ ha;refine ⟨?_,(show 1<=4 from by decide)⟩;refine xT ?_;nofun;exact ⟨rfl,rfl⟩
 rw [if_neg h1];have h1:eqP (.str w) (.str "set")=false:=by simpa using h1
 by_cases h2:eqP (.str w) (.str "try")=true
 ·cases eqS h2;obtain ⟨a,b,c,rfl⟩:=len3 (l:=l) (by have:yj "try"=4:=(by decide +kernel);omega);have hr:wonD b=true:=hr;refine ⟨?_,Ϛ (Jb [b]) (show 1<=4 from by decide)⟩;refine xT ?_;nofun;refine xG ?_;dsimp only [wpI,vC,zG,zW,zda,wpEs];nofun;refine Xa id [b] [] (by simp) (fun x hx=>by rw [μ.mp hx];exact zb1 hr) (fun x hx Q q0 q1=>?_) ?_
  ·rw [μ.mp hx] at q0 q1 ⊢;refine zQ rfl ?_;dsimp only [wpF,vD,zW,zG,inn,nT,Κ,aN,Δ,Β];rcases zb1 hr with rfl | ⟨s,rfl⟩
   ·nofun;exact q0 rfl
   ·nofun;exact q1 s rfl
  ·nofun;exact ⟨rfl,rfl⟩
 rw [if_neg h2];have h2:eqP (.str w) (.str "try")=false:=by simpa using h2
 by_cases h3:eqP (.str w) (.str "want")=true
 ·cases eqS h3;obtain ⟨a,b,rfl⟩:=len2 (l:=l) (by have:yj "want"=3:=(by decide +kernel);omega);have hr:Z8 ks ns a b=true:=hr;obtain ⟨bs,rfl,h4,hb⟩:=U6 hr;refine ⟨?_,Ϛ (Jb (bs.map h0)) (by rw [υ];exact h4)⟩;refine xT ?_;nofun;refine xG ?_;dsimp only [wpI,vC,zG,zW];nofun;refine Xa h0 bs [] (by simp;omega) (fun x hx=>?_) (fun x hx Q q0 q1=>?_) ?_
  ·obtain ⟨t,w,f,y,rfl,ht,_⟩:=Xe hn (ν.mp hb x hx);exact zb1 ht
  ·obtain ⟨t,w,f,y,rfl,ht,_⟩:=Xe hn (ν.mp hb x hx);refine zQ rfl ?_;dsimp only [wpF,vD,vC,zW,zG,inn,nT,Κ,aN,Δ,Β];rcases zb1 ht with rfl | ⟨s,rfl⟩
   ·nofun;exact q0 rfl
   ·nofun;exact q1 s rfl
  ·nofun;exact ⟨rfl,rfl⟩
 rw [if_neg h3];have h3:eqP (.str w) (.str "want")=false:=by simpa using h3
 refine ⟨?_,Ϯ _⟩;refine xT ?_;nofun;refine wB h1 ?_;nofun;refine wB h2 ?_;nofun;refine wB h3 ?_;nofun;exact ⟨rfl,rfl⟩
theorem zjc {x:D}(hn:∀ n∈ns,n<=3) (h:brnD ks ns x=true):(brF x).length<=3/\∀ e∈brF x,fmlD 3 e=true:=by
 obtain ⟨t,w,f,y,rfl,ht,h⟩:=Xe hn h;have e:brF (.tup [t,.str w,f,y])=if eqP (.str w) (.str "ask") then [y] else items y:=rfl
 rw [e];rcases h with ⟨h1,h2⟩ | ⟨h1,l,rfl,h3,h4⟩
 ·rw [h1];exact ⟨(by decide:1<=3),fun e he=>by rw [μ.mp he];exact h2⟩
 ·rw [h1];exact ⟨h3,fun e he=>ν.mp h4 e he⟩
theorem zd9 (hn:∀ n∈ns,n<=3) (hp:plD d=true) (hs:zy d=true) (hr:rowD ks ns d=true) (hK:1<=K):Is K 25 [d] (.lst (nmF d),.fr) S/\(nmF d).length<=12/\∀ e∈nmF d,fmlD 3 e=true:=by
 obtain ⟨K,hk,rfl⟩:=up hK;obtain ⟨w,l,rfl,e⟩:=zck hs;have hlen:=XH hs;obtain ⟨_,hpl⟩:=pl_l hp
 have hb:nmF (.tup (.str w::l))=(if eqP (.str w) (.str "set") then [l.getD 1 .non]
  else if (tgL.map D.str).any (fun y=>eqP y (.str w)) then [l.getD 0 .non]
  else if eqP (.str w) (.str "want") then (items (l.getD 1 .non)).flatMap brF else []):=rfl
 rw [hb];by_cases h1:eqP (.str w) (.str "set")=true
 ·cases eqS h1;obtain ⟨a,b,rfl⟩:=len2 (l:=l) (by have:yj "set"=3:=(by decide +kernel);omega);have hr:(zB a&&fmlD 3 b)=true:=hr;obtain ⟨_,hb⟩:=ε.mp hr;refine ⟨?_,(show 1<=12 from by decide),fun e (he:e∈[b])=>by rw [μ.mp he];exact hb⟩;refine yK ?_;nofun;exact ⟨rfl,rfl⟩
 rw [if_neg h1];have h1:eqP (.str w) (.str "set")=false:=by simpa using h1
 by_cases h2:(tgL.map D.str).any (fun y=>eqP y (.str w))=true
 ·rw [if_pos h2];have hf:fmlD 3 (l.getD 0 .non)=true/\∃ a l',l=a::l':=by
   have h2:(eqP (.str "tell") (.str w)||(eqP (.str "give") (.str w)||(eqP (.str "fail") (.str w)||(eqP (.str "if") (.str w)||(eqP (.str "while") (.str w)||false)))))=true:=h2;refine ⟨?_,?_⟩
   ·rcases b8.mp h2 with h | h2
    ·cases eqS h;exact hr
    rcases b8.mp h2 with h | h2
    ·cases eqS h;exact hr
    rcases b8.mp h2 with h | h2
    ·cases eqS h;exact hr
    rcases b8.mp h2 with h | h2
    ·cases eqS h;exact hr
    rcases b8.mp h2 with h | h2
    ·cases eqS h;exact hr
    ·cases h2
   ·cases l with
    | nil=>exact absurd hlen.symm (Jy w)
    | cons a l=>exact ⟨a,l,rfl⟩
  obtain ⟨hf,a,l,rfl⟩:=hf;refine ⟨?_,(show 1<=12 from by decide),fun e (he:e∈[a])=>by rw [μ.mp he];exact hf⟩;refine yK ?_;nofun;refine wB h1 ?_;nofun;refine yf h2 ?_;nofun;exact ⟨rfl,rfl⟩
 rw [if_neg h2];have h2:(tgL.map D.str).any (fun y=>eqP y (.str w))=false:=by simpa using h2
 by_cases h3:eqP (.str w) (.str "want")=true
 ·cases eqS h3;obtain ⟨a,b,rfl⟩:=len2 (l:=l) (by have:yj "want"=3:=(by decide +kernel);omega);have hr:Z8 ks ns a b=true:=hr;obtain ⟨bs,rfl,h4,hb⟩:=U6 hr;have hbk:=fun x hx=>zjc hn (ν.mp hb x hx)
  have e1:(bs.flatMap brF).length<=bs.length*3:=qz fun x hx=>(hbk x hx).1
  rw [if_pos h3];refine ⟨?_,(by show (bs.flatMap brF).length<=12;omega),fun e he=>?_⟩
  ·refine yK ?_;nofun;refine wp_walk (fun l ρ S'=>S'=S/\∃ (fs:List D) (x2:Slot),ρ=[.sh (.tup [.str "want",a,.tup bs]),.ow (.lst fs),x2]/\fs++l.flatMap brF=bs.flatMap brF/\∀ b∈l,brnD ks ns b=true) ?_ ?_ _ _ _ ⟨rfl,[],.no,rfl,rfl,fun b hb'=>ν.mp hb b hb'⟩
   ·rintro x l ρ S' ⟨rfl,fs,x2,rfl,hf,hbl⟩;have hl:fs.length+((brF x).length+(l.flatMap brF).length)<=12:=by have:=congrArg gU hf;rw [ϣ,ξ,ξ] at this;omega
    obtain ⟨t,w,f,y,rfl,ht,h⟩:=Xe hn (hbl x θ);have hbl':=fun b hx=>hbl b (ι _ hx)
    have eb:brF (.tup [t,.str w,f,y])=if eqP (.str w) (.str "ask") then [y] else items y:=rfl
    rw [eb] at hl;rcases h with ⟨h1,h2⟩ | ⟨h1,l',rfl,h3,h4⟩
    ·rw [h1] at hl eb;nofun;refine yf h1 ?_;have hl:fs.length+(1+(l.flatMap brF).length)<=12:=hl;nofun;exact ⟨rfl,_,_,rfl,by rw [<- hf,ϣ,eb];simp,hbl'⟩
    ·rw [h1] at hl eb;nofun;refine wB h1 ?_;have hl:fs.length+(l'.length+(l.flatMap brF).length)<=12:=hl;nofun;exact ⟨rfl,_,_,rfl,by rw [<- hf,ϣ,eb];simp [items],hbl'⟩
   ·rintro ρ S' ⟨rfl,fs,x2,rfl,hf,_⟩;have hf:fs=bs.flatMap brF:=by rw [<- hf];simp
    nofun;exact ⟨by rw [hf];rfl,rfl⟩
  ·obtain ⟨x,hx,he⟩:=ϋ.mp (show e∈bs.flatMap brF from he);exact (hbk x hx).2 e he
 rw [if_neg h3];have h3:eqP (.str w) (.str "want")=false:=by simpa using h3
 refine ⟨?_,Ϯ _,fun e he=>by cases he⟩;refine yK ?_;nofun;refine wB h1 ?_;nofun;refine wB h2 ?_;nofun;refine wB h3 ?_;nofun;exact ⟨rfl,rfl⟩
end
noncomputable def nmR (d:D):List Str:=nmS d++(nmF d).flatMap (fnD 3)
noncomputable def nms (p b:D):List Str:=txs (items p)++(zK 4 b).flatMap nmR
theorem QB:∀ {l:List D},l.all zB=true->(txs l).map D.str=l
 | [],_=>rfl
 | d::l,h=>by
  obtain ⟨h1,h2⟩:=ε.mp (show (zB d&&l.all zB)=true from h);obtain ⟨s,rfl⟩:=jQ h1;show D.str s::(txs l).map D.str=_
  rw [QB h2]
theorem zba (k:Str):∀ l:List Str,(insS k l).length=l.length+1
 | []=>rfl
 | x::l=>by
  unfold insS;split
  ·simp [zba k l]
  ·rfl
theorem Ji:∀ l:List Str,(Zb l).length=l.length
 | []=>rfl
 | k::l=>by
  show (insS k (Zb l)).length=_
  rw [zba,Ji l];rfl
theorem strs_map:∀ ns:List Str,vV (ns.map D.str)=some ns
 | []=>rfl
 | n::ns=>by
  show (vV (ns.map D.str)).map (n::·)=_
  rw [strs_map ns];rfl
theorem zez {ns:List Str}(h:(yo ns).length < 64) (hl:ns.length<=4000):biD .sset [LS ns]=some (.lst ((Zb (yo ns)).map D.str),true):=by
 show zeA (LS ns)=_
 unfold zeA;rw [show (lotD (LS ns)).bind vV=some ns from strs_map ns,bz,if_pos];rw [decide_eq_true (by omega),decide_eq_true h];rfl
section
variable {K:Nat}{S:Store}{d:D}{ks:List Key}{ns:List Int}
theorem zfw (hn:∀ n∈ns,n<=3) (hp:plD d=true) (hs:zy d=true) (hr:rowD ks ns d=true):(nmR d).length<=100:=by
 obtain ⟨_,h1⟩:=zdC (K:=1) (S:=[]) hn hp hs hr (Α 1);obtain ⟨_,h2,h3⟩:=zd9 (K:=1) (S:=[]) hn hp hs hr (Α 1);have:((nmF d).flatMap (fnD 3)).length<=(nmF d).length*8:=qz fun e he=>(ziS 3 e (by decide) (h3 e he) 4 [] (by decide)).2
 unfold nmR;rw [ξ];omega
theorem zcS (hn:∀ n∈ns,n<=3) {n b:D}{ps:List D}(hp:plD (.tup [n,.tup ps,b])=true) (h3:ps.length<=3) (hw:ps.all zB=true) (hb:nest 4 b=true) (h24:(zK 4 b).length<=24) (hr:(zK 4 b).all (rowD ks ns)=true) (h64:(yo (nms (.tup ps) b)).length < 64) (hK:7<=K):Sm K 23 [.tup [n,.tup ps,b]] (fun x=>∃ l:List D,x=(.tup l,.st)/\l.length=(yo (nms (.tup ps) b)).length) S:=by
 obtain ⟨K,hk,rfl⟩:=up hK;obtain ⟨_,hpl⟩:=pl_l hp;have pb:=zx hpl (show b∈[n,.tup ps,b] by simp);have hsh:=Yn pb hb;generalize hT:nms (.tup ps) b=T at h64;have hT:txs ps++(zK 4 b).flatMap nmR=T:=hT;refine Kh (x0:=.tup _) ?_;nofun;refine (XN 4 b (by decide) pb hb _ _ (by omega)).go ?_;nofun;have e0:ps=(txs ps).map D.str:=(QB hw).symm;have l0:=Jb ps;refine wp_walk (fun l ρ S'=>S'=S/\∃ (ts:List Str) (x2 x3:Slot),ρ=[.sh (.tup [n,.tup ps,b]),.ow (LS ts),x2,x3]/\ts++l.flatMap nmR=T/\(∀ r∈l,r∈zK 4 b)/\ts.length+100*l.length<=2500) ?_ ?_ _ _ _ ⟨rfl,txs ps,.no,.no,by rw [LS,<- e0],hT,fun r h=>h,by omega⟩
 ·rintro d l ρ S' ⟨rfl,ts,x2,x3,rfl,ht,hm,hl⟩;have hl:ts.length+100*(l.length+1)<=2500:=hl;have hd:=hm d θ;obtain ⟨d1,d2⟩:=hsh d hd;have d3:=ν.mp hr d hd;obtain ⟨s1,s2⟩:=zdC (K:=K) (S:=S') hn d2 d1 d3 (by omega);obtain ⟨f1,f2,f3⟩:=zd9 (K:=K) (S:=S') hn d2 d1 d3 (by omega);have hlen:=zfw hn d2 d1 d3;nofun;refine s1.go ?_;nofun;refine f1.go ?_;nofun;refine wp_walk (fun l' ρ S''=>S''=S'/\∃ (us:List Str) (x3:Slot),ρ=[.sh (.tup [n,.tup ps,b]),.ow (LS us),.sh d,x3]/\us++l'.flatMap (fnD 3)=ts++nmR d/\(∀ e∈l',fmlD 3 e=true)) ?_ ?_ _ _ _ ⟨rfl,ts++nmS d,x3,by simp [LS],by rw [nmR,aG],f3⟩
  ·rintro e l' ρ S'' ⟨rfl,us,x3,rfl,hu,hf⟩;obtain ⟨g1,g2⟩:=ziS 3 e (by decide) (hf e θ) K S'' (by omega);have hlu:us.length+(fnD 3 e).length<=2500:=by have:=congrArg gU hu;rw [ϣ,ξ,ξ,ξ] at this;omega
   nofun;refine g1.go ?_;nofun;exact ⟨rfl,us++fnD 3 e,.sh e,by simp [LS],by rw [<- hu];simp,fun e he=>hf e (ι _ he)⟩
  ·rintro ρ S'' ⟨rfl,us,x3,rfl,hu,_⟩;have hu:us=ts++nmR d:=by rw [<- hu];simp
   nofun;exact ⟨rfl,us,_,_,rfl,by rw [<- ht,hu];simp,fun r hx=>hm r (ι _ hx),by rw [hu,ξ];omega⟩
 ·rintro ρ S' ⟨rfl,ts,x2,x3,rfl,ht,_,hl⟩;have ht:ts=T:=by rw [<- ht];simp
  cases ht;nofun;refine Wf (zez h64 (by simp at hl;omega)) ?_;nofun;exact ⟨⟨_,rfl,by rw [υ,Ji]⟩,rfl⟩
end
noncomputable def doG (d:D):Bool:=match hd1 d with
 | some p=>eqP (.str p.1) (.str "do")&&givD 3 (p.2.getD 1 .non)
 | none=>false
noncomputable def vW (ks:List Key) (ns:List Int) (b:D):Bool:=nest 4 b&&decide ((zK 4 b).length<=24)&&(zK 4 b).all (rowD ks ns)
noncomputable def wV (ks:List Key) (ns:List Int) (p b:D):Bool:=vW ks ns b&&(decide ((yo (nms p b)).length<=6)&&!(zK 4 b).any doG)
theorem Uv {s:D->(Option D->Store->Prop)->Store->Prop}{V:List D->Store->Prop}{S:Store}(t f:D->Bool):∀ (xs:List D) (acc:List Bool),acc.length+xs.length<=1000->(∀ x∈xs,∀ Q:Option D->Store->Prop,(t x=false->Q none S)->(t x=true->Q (some (.bl (f x))) S)->s x Q S) ->
  (∀ l:List Bool,l.any id=(acc.any id||xs.any fun x=>t x&&f x)->V (l.map D.bl) S)->xu s xs (acc.map D.bl) V S
 | [],acc,_,_,v=>v acc (by simp)
 | x::xs,acc,hl,h,v=>by
  have hl':acc.length+(xs.length+1)<=1000:=hl;have h':=fun y hy=>h y (ι _ hy)
  refine h x θ _ (fun e=>?_) (fun e=>?_)
  ·refine Uv t f xs acc (by omega) h' fun l q=>v l (by rw [q,dU,e,ϧ,fL])
  ·have e1:(acc.map D.bl)++[D.bl (f x)]=(acc++[f x]).map D.bl:=by simp
   show tst (fits ((acc.map D.bl).length+1)) (xu s xs (acc.map D.bl++[D.bl (f x)]) V S) False
   refine yf (fits_of (by rw [υ];omega)) ?_;rw [e1];refine Uv t f xs (acc++[f x]) (by simp;omega) h' fun l q=>v l (by rw [q,dU,e,List.any_append];simp [Bool.or_assoc])
theorem YC:∀ {n:Nat}{d:D},plD d=true->nest (n+1) d=true->∀ r∈zK (n+1) d,∀ x∈blkD r,nest n x=true
 | n,d,hp,h,r,hr,x,hx=>by
  obtain ⟨l,rfl⟩:=xm h;obtain ⟨h8,ha⟩:=ε.mp (show (decide (l.length<=8)&&l.all fun r=>zy r&&(blkD r).all (nest n))=true from h);obtain ⟨_,hpl⟩:=pl_l hp;obtain ⟨y,hy,hr⟩:=ϋ.mp hr;obtain ⟨s1,s2⟩:=ε.mp (ν.mp ha y hy);rcases ψ.mp hr with rfl | hr
  ·exact ν.mp s2 x hx
  ·obtain ⟨b,hb,hr⟩:=ϋ.mp hr;obtain ⟨_,_,c2⟩:=xO (K:=1) (S:=[]) (zx hpl hy) s1 (Α 1);cases n with
   | zero=>cases hr
   | succ n=>
    have:=YC (zx c2 hb) (ν.mp s2 b hb) r hr x hx;exact nest_up this
where
 nest_up:∀ {n:Nat}{d:D},nest n d=true->nest (n+1) d=true
 | 0,d,h=>by
  cases d with
  | tup l=>
   cases l with
   | nil=>rfl
   | cons _ _=>cases h
  | _=>cases h
 | n+1,d,h=>by
  obtain ⟨l,rfl⟩:=xm h;obtain ⟨h8,ha⟩:=ε.mp (show (decide (l.length<=8)&&l.all fun r=>zy r&&(blkD r).all (nest n))=true from h);show (decide (l.length<=8)&&l.all fun r=>zy r&&(blkD r).all (nest (n+1)))=true
  rw [h8,ϖ,ν];intro r hr;obtain ⟨s1,s2⟩:=ε.mp (ν.mp ha r hr);rw [s1,ϖ,ν];exact fun x hx=>nest_up (ν.mp s2 x hx)
section
variable {K:Nat}{S:Store}{ks:List Key}{ns:List Int}
theorem zcz {f:D->Bool}{l m:List D}(h:l.Perm m):l.all f=m.all f:=by rw [d9,ν,ν];exact ⟨fun q x hx=>q x (h.mem_iff.mpr hx),fun q x hx=>q x (h.mem_iff.mp hx)⟩
theorem zcy {f:D->Bool}{l m:List D}(h:l.Perm m):l.any f=m.any f:=by rw [d9,Ϧ,Ϧ];exact ⟨fun ⟨x,hx,q⟩=>⟨x,h.mem_iff.mp hx,q⟩,fun ⟨x,hx,q⟩=>⟨x,h.mem_iff.mpr hx,q⟩⟩
theorem zgg (hn:∀ n∈ns,n<=3) {n b:D}{ps:List D}(hp:plD (.tup [n,.tup ps,b])=true) (h3:ps.length<=3) (hw:ps.all zB=true) (h64:vW ks ns b=true->(yo (nms (.tup ps) b)).length < 64) (hK:12<=K):Tl K 13 [.tup [n,.tup ps,b],.dK ks (ns.map D.int)] (wV ks ns (.tup ps) b) S:=by
  obtain ⟨K,hk,rfl⟩:=up hK;obtain ⟨_,hpl⟩:=pl_l hp;have pb:=zx hpl (show b∈[n,.tup ps,b] by simp);refine Qx (x0:=.tup _) (x1:=.dK ks (ns.map D.int)) ?_;nofun;cases hb:(nest 4 b&&decide ((zK 4 b).length<=24)) with
  | false=>
    have hd:wV ks ns (.tup ps) b=false:=by unfold wV vW;rw [hb];rfl
    rw [hd]
    refine (Q3 pb (by
      rcases Bool.and_eq_false_iff.mp hb with h | h
      · exact .inl h
      · exact .inr (by have:=of_decide_eq_false h;omega)) (by omega)).go ?_
    nofun;exact ⟨rfl,rfl⟩
  | true=>
    obtain ⟨hb,h24⟩:=ε.mp hb;have h24:(zK 4 b).length<=24:=of_decide_eq_true h24;have hsh:=Yn pb hb;have hin:=YC pb hb;have er:vW ks ns b=(zK 4 b).all (rowD ks ns):=by unfold vW;rw [hb,decide_eq_true h24];rfl
    rw [er] at h64;refine (Ky pb hb h24 (by omega)).go ?_;rintro _ ⟨rs,rfl,hperm⟩;have hlen:=hperm.length_eq;nofun;refine xG ?_;dsimp only [wpI,zG];nofun;refine wO (rowD ks ns) rs [] (by simp;omega) (fun x hx Q hQ=>?_) ?_
    · obtain ⟨d1,d2⟩:=hsh x (hperm.mem_iff.mp hx);refine zQ rfl ?_;dsimp only [wpF,ym,wpEs,zG,inn,nT,Κ,aN,Δ,Β];nofun;refine (zhr d2 d1 (by omega)).go ?_;nofun;exact hQ
    · refine zT (qX _) ?_;have ea:([]++rs.map (rowD ks ns)).all id=(zK 4 b).all (rowD ks ns):=by rw [ϑ,cA,<- zcz hperm];rfl
      rw [ea];nofun;refine zj (fun h=>?_) (fun h=>?_)
      · nofun;have h:(zK 4 b).all (rowD ks ns)=false:=by simpa using (show (!(zK 4 b).all (rowD ks ns))=true from h)
        exact ⟨by unfold wV;rw [er,h];rfl,rfl⟩
      have h:(zK 4 b).all (rowD ks ns)=true:=by
        cases z:(zK 4 b).all (rowD ks ns) with
        | true=>rfl
        | false=>rw [z] at h;cases h
      have e1:wV ks ns (.tup ps) b=(decide ((yo (nms (.tup ps) b)).length<=6)&&!(zK 4 b).any doG):=by unfold wV;rw [er,h];rfl
      rw [e1];nofun;refine (zcS hn hp h3 hw hb h24 h (h64 h) (by omega)).go ?_;rintro _ ⟨l,rfl,hl⟩;rw [<- hl];nofun;refine zj (fun h6=>?_) (fun h6=>?_)
      · have h6:(6:Int) < (l.length:Int):=of_decide_eq_true h6;nofun;exact ⟨by rw [decide_eq_false (show ¬ l.length<=6 by omega)];rfl,rfl⟩
      have h6:¬ (6:Int) < (l.length:Int):=of_decide_eq_false h6;rw [decide_eq_true (show l.length<=6 by omega),ϖ];nofun;refine xG ?_;dsimp only [wpI,zG];nofun
      refine Uv (fun d=>match hd1 d with
        | some p=>eqP (.str p.1) (.str "do")
        | none=>false) (fun d=>match hd1 d with
        | some p=>givD 3 (p.2.getD 1 .non)
        | none=>false) rs [] (by simp;omega) (fun x hx Q q0 q1=>?_) (fun bs hbs=>?_)
      · have hx:=hperm.mem_iff.mp hx;obtain ⟨d1,d2⟩:=hsh x hx;have hi:=hin x hx;obtain ⟨w,l',rfl,e⟩:=zck d1;refine zQ rfl ?_;dsimp only [wpF,vD,vC,zW,ym,wpEs,zG,inn,nT,Κ,aN,Δ,Β];nofun;refine zj (fun h=>?_) (fun h=>?_)
        · have h:eqP (.str w) (.str "do")=true:=h;have hlen:=XH d1;cases eqS h;obtain ⟨u,v,rfl⟩:=len2 (l:=l') (by have:yj "do"=3:=(by decide +kernel);omega);obtain ⟨_,d3⟩:=pl_l d2;nofun;refine (ziP (n:=3) (by decide) (zx d3 (show v∈[_,u,v] by simp)) (hi v (by show v∈[u,v];simp)) (by omega)).go ?_;nofun;exact q1 rfl
        · exact q0 h
      · refine zT (zeh _) ?_;nofun;refine ⟨?_,rfl⟩;rw [hbs,<- zcy hperm,List.any_nil,fL]
        have ef:∀ x:D,((match hd1 x with
          | some p=>eqP (.str p.1) (.str "do")
          | none=>false)&&(match hd1 x with
          | some p=>givD 3 (p.2.getD 1 .non)
          | none=>false))=doG x:=fun x=>by unfold doG;cases hd1 x <;> rfl
        simp only [ef]
end
noncomputable def nmT (n:D):Str:=match isS n with
 | some t=>t
 | none=>""
noncomputable def hdsD:List D->List Key->List Int->Option (List Key×List Int)
  | [],ks,ns=>some (ks,ns)
  | e::l,ks,ns=>(match tri3 e with
    | some t=>if hdD e&&!(cntK ks ns (nmT t.1)).isSome then hdsD l (ks++[.inr (nmT t.1)]) (ns++[((items t.2.1).length:Int)]) else none
    | none=>none)
noncomputable def wU (ks:List Key) (ns:List Int) (e:D):Bool:=match tri3 e with
 | some t=>wV ks ns t.2.1 t.2.2
 | none=>false
noncomputable def VG (d:D):Bool:=tupD d 1 6&&(match hdsD (items d) [] [] with
  | some q=>(items d).all (wU q.1 q.2)
  | none=>false)
def EF (ks:List Key) (ns:List Int) (e:D):Prop:=∀ n p b,tri3 e=some (n,p,b)->vW ks ns b=true->(yo (nms p b)).length < 64
theorem Y4 {k:Key}:∀ {ks:List Key},hasK ks k=(yZ ks k).isSome
 | []=>rfl
 | q::ks=>by
  show (decide (q=k)||hasK ks k)=(if q=k then some 0 else (yZ ks k).map (·+1)).isSome
  by_cases h:q=k
  ·rw [if_pos h,decide_eq_true h];rfl
  ·rw [if_neg h,decide_eq_false h,Y4 (ks:=ks),fL];cases yZ ks k <;> rfl
theorem zbk {k:Key}:∀ {ks:List Key}{i:Nat},yZ ks k=some i->i < ks.length
 | [],_,h=>by cases h
 | q::ks,i,h=>by
  have h:(if q=k then some 0 else (yZ ks k).map (·+1))=some i:=h;by_cases e:q=k
  ·rw [if_pos e] at h;cases h;exact Nat.succ_pos _
  ·rw [if_neg e] at h;cases z:yZ ks k with
   | none=>rw [z] at h;cases h
   | some j=>rw [z] at h;cases h;exact Nat.succ_lt_succ (zbk z)
theorem zby {ks:List Key}{ns:List Int}{t:Str}(hl:ks.length=ns.length) (h:(cntK ks ns t).isSome=false):hasK ks (.inr t)=false:=by
 rw [Y4];unfold cntK at h;cases e:yZ ks (.inr t) with
 | none=>rfl
 | some i=>
  rw [e] at h;have:=zbk e;rw [bz,Ε (by omega)] at h;cases h
theorem zbh {e:D}(h:hdD e=true):∃ t ps b,e=.tup [.str t,.tup ps,b]/\ps.length<=3/\ps.all zB=true:=by
 unfold hdD at h;cases ht:tri3 e with
 | none=>rw [ht] at h;cases h
 | some q=>
  obtain ⟨n,p,b⟩:=q;rw [ht] at h;cases Jd ht;obtain ⟨h1,h2⟩:=ε.mp h;obtain ⟨t,rfl⟩:=jQ h1;unfold parD at h2;obtain ⟨h2,h3⟩:=ε.mp h2;obtain ⟨h3,_⟩:=ε.mp h3;obtain ⟨ps,rfl,_,h4⟩:=zca h2;exact ⟨t,ps,b,rfl,by omega,h3⟩
section
variable {K:Nat}{S:Store}{d:D}
theorem VF (hp:plD d=true) (hf:∀ es,d=.tup es->es.length<=6->∀ ks ns,hdsD es [] []=some (ks,ns)->(∀ n∈ns,n<=3)->∀ e∈es,EF ks ns e) (hK:13<=K):Tl K 10 [d] (VG d) S:=by
  obtain ⟨K,hk,rfl⟩:=up hK;refine Xo ?_;nofun;refine (jY hp (by omega)).go ?_;nofun;refine zj (fun h1=>?_) (fun h1=>?_)
  · nofun;have h1:tupD d 1 6=false:=by simpa using h1
    exact ⟨by unfold VG;rw [h1];rfl,rfl⟩
  have h1:tupD d 1 6=true:=by simpa using h1
  have e1:VG d=(match hdsD (items d) [] [] with
    | some q=>(items d).all (wU q.1 q.2)
    | none=>false):=by unfold VG;rw [h1];rfl
  rw [e1];obtain ⟨es,rfl,_,h6⟩:=zca h1;have hf:=hf es rfl (by omega);obtain ⟨_,hpl⟩:=pl_l hp;have ei:items (.tup es)=es:=rfl;rw [ei];nofun;refine wp_walk (fun l ρ S'=>S'=S/\∃ (dn:List D) (ks:List Key) (ns:List Int) (x2:Slot),dn++l=es/\(∀ e∈dn,hdD e=true)/\hdsD l ks ns=hdsD es [] []/\ks.length=ns.length/\ks.length+l.length<=6/\(∀ n∈ns,n<=3)/\ρ=[.sh (.tup es),.ow (.dK ks (ns.map D.int)),x2]) ?_ ?_ _ _ _ ⟨rfl,[],[],[],.no,rfl,fun e he=>(by cases he),rfl,rfl,by simp;omega,fun e he=>(by cases he),rfl⟩
  · rintro e l ρ S' ⟨rfl,dn,ks,ns,x2,hd,hdn,hh,hlen,hl6,hn,rfl⟩;have hl6:ks.length+(l.length+1)<=6:=hl6;have pe:plD e=true:=zx hpl (by rw [<- hd];simp);nofun;refine (zkH pe (by omega)).go ?_;nofun
    have fin:hdsD (e::l) ks ns=none->(match hdsD es [] [] with
      | some q=>es.all (wU q.1 q.2)
      | none=>false)=false:=fun h=>by rw [<- hh,h]
    refine zj (fun h2=>?_) (fun h2=>?_)
    · nofun;have h2:hdD e=false:=by simpa using h2
      have z:hdsD (e::l) ks ns=none:=by
        unfold hdsD;cases tri3 e with
        | none=>rfl
        | some t=>dsimp only;rw [h2];rfl
      exact ⟨by rw [fin z],rfl⟩
    have h2:hdD e=true:=by simpa using h2
    obtain ⟨t,ps,b,rfl,hp3,hw⟩:=zbh h2;have eh:hdsD (.tup [.str t,.tup ps,b]::l) ks ns=if hdD (.tup [.str t,.tup ps,b])&&!(cntK ks ns t).isSome then hdsD l (ks++[.inr t]) (ns++[(ps.length:Int)]) else none:=rfl
    rw [h2,ϖ] at eh;have ec:(xV ks (ns.map D.int) (.inr t)).isSome=(cntK ks ns t).isSome:=by rw [JL,eX]
    nofun;refine zj (fun h3=>?_) (fun h3=>?_)
    · have h3:(xV ks (ns.map D.int) (.inr t)).isSome=true:=h3;nofun;rw [<- ec,h3] at eh;exact ⟨by rw [fin eh],rfl⟩
    have h3:(xV ks (ns.map D.int) (.inr t)).isSome=false:=h3;rw [<- ec,h3] at eh;nofun;refine zE (zam (zby hlen (by rw [<- ec];exact h3)) (by omega)) ?_;nofun;refine ⟨rfl,dn++[.tup [.str t,.tup ps,b]],ks++[.inr t],ns++[(ps.length:Int)],.sh (.tup [.str t,.tup ps,b]),by rw [<- hd];simp,fun e he=>?_,?_,by simp [hlen],by simp;omega,fun n hx=>?_,by simp⟩
    · rcases Ζ.mp he with he | he
      · exact hdn e he
      · rw [μ.mp he];exact h2
    · rw [<- hh,eh];rfl
    · rcases Ζ.mp hx with hx | hx
      · exact hn n hx
      · rw [μ.mp hx];omega
  · rintro ρ S' ⟨rfl,dn,ks,ns,x2,hd,hdn,hh,hlen,hl6,hn,rfl⟩;rw [Δ] at hd;subst hd;have hh:hdsD dn [] []=some (ks,ns):=hh.symm;have hf:=hf ks ns hh hn;rw [hh];nofun;refine xG ?_;dsimp only [wpI,zG];nofun;refine wO (wU ks ns) dn [] (by simp;omega) (fun x hx Q hQ=>?_) ?_
    · have px:=zx hpl hx;obtain ⟨t,ps,b,rfl,hp3,hw⟩:=zbh (hdn x hx);have hfx:=hf _ hx (.str t) (.tup ps) b rfl;refine zQ rfl ?_;dsimp only [wpF,ym,wpEs,zG,inn,nT,Κ,aN,Δ,Β];nofun;refine (zgg hn px hp3 hw hfx (by omega)).go ?_;nofun;exact hQ
    · refine zT (qX _) ?_;nofun;refine ⟨?_,rfl⟩;rw [ϑ,cA];rfl
end
noncomputable def kpO:Vl->Option D
 | (d,.st)=>some d
 | (d,.fr)=>some d
 | _=>none
noncomputable def rdO:Option Slot->Option Vl
 | some (.sh d)=>some (d,.st)
 | some (.ow d)=>some (d,.bo)
 | _=>none
noncomputable def nrD:D->Bool
 | .ref _=>false
 | _=>true
noncomputable def intO:D->Option Int
 | .int i=>some i
 | _=>none
noncomputable def blO:D->Option Bool
 | .bl b=>some b
 | _=>none
noncomputable def kps (f:E->Option Vl):List E->Option (List D)
 | []=>some []
 | e::es=>(f e).bind fun x=>(kpO x).bind fun d=>(kps f es).map (d::·)
noncomputable def oo (f:E->Option Vl):Option E->Option (Option Int)
 | none=>some none
 | some e=>(f e).bind fun x=>(intO x.1).map some
noncomputable def litE (ρ:List Slot):Nat->E->Option Vl
 | 0,_=>none
 | n+1,e=>match e with
  | .con d=>some (d,.st)
  | .var i=>rdO ρ[i]?
  | .bin op a b=>(litE ρ n a).bind fun x=>(litE ρ n b).bind fun y=>if nrD x.1&&nrD y.1 then (opD op x.1 y.1).map ofB else none
  | .neg a=>(litE ρ n a).bind fun x=>(intO x.1).map fun i=>(.int (-i),.st)
  | .tup es=>(kps (litE ρ n) es).bind fun ds=>if fits ds.length then some (.tup ds,.st) else none
  | .lst es=>(kps (litE ρ n) es).bind fun ds=>if fits ds.length then some (.lst ds,.fr) else none
  | .sub a i=>(litE ρ n a).bind fun x=>(litE ρ n i).bind fun y=>if nrD x.1 then (subD x.1 y.1).map fun d=>(d,.st) else none
  | .slc a lo hi=>(litE ρ n a).bind fun x=>(oo (litE ρ n) lo).bind fun l=>(oo (litE ρ n) hi).bind fun h=>if nrD x.1 then (slcD x.1 l h).map ofB else none
  | .cmp op a b=>(litE ρ n a).bind fun x=>(litE ρ n b).bind fun y=>if nrD x.1&&nrD y.1 then (cmpD op x.1 y.1).map fun r=>(.bl r,.st) else none
  | .or a b=>(litE ρ n a).bind fun x=>(blO x.1).bind fun r=>if r=true then some (.bl true,.st) else litE ρ n b
  | .one a=>litE ρ n a
  | .bi b es=>(kps (litE ρ n) es).bind fun ds=>if ds.length==1&&ds.all nrD then (biD b ds).map ofB else none
  | _=>none
theorem YB {d:D}(h:nrD d=true) (S:Store):zH S d=d:=by
 cases d with
 | ref _=>cases h
 | _=>rfl
theorem ye {α β:Type}{o:Option α}{f:α->Option β}{b:β}(h:o.bind f=some b):∃ a,o=some a/\f a=some b:=by
 cases o with
 | none=>cases h
 | some a=>exact ⟨a,rfl,h⟩
theorem V5 {α β:Type}{o:Option α}{f:α->β}{b:β}(h:o.map f=some b):∃ a,o=some a/\f a=b:=by
 cases o with
 | none=>cases h
 | some a=>exact ⟨a,rfl,ϙ h⟩
theorem if_c {α:Type}{c:Bool}{o:Option α}{b:α}(h:(if c=true then o else none)=some b):c=true/\o=some b:=by
 cases c with
 | true=>exact ⟨rfl,h⟩
 | false=>cases h
theorem zaS {x:Vl}{d:D}{Q:D->Prop}(h:kpO x=some d) (q:Q d):keep x Q:=by
 obtain ⟨d',k⟩:=x;cases k with
 | st=>cases h;exact q
 | fr=>cases h;exact q
 | _=>cases h
section
variable {cf:Cf}{ρ:List Slot}
theorem Wr {f:E->Option Vl}(hf:∀ e x,f e=some x->∀ (V:Po) (S:Store),V x S->wpE cf ρ e V S):∀ {es:List E}{ds:List D},kps f es=some ds->∀ (W:List D->Store->Prop) (S:Store),W ds S->wpEs cf ρ es W S
 | [],ds,h,W,S,q=>by cases h;exact q
 | e::es,ds,h,W,S,q=>by
  obtain ⟨x,h1,h⟩:=ye (show ((f e).bind fun x=>(kpO x).bind fun d=>(kps f es).map (d::·))=some ds from h);obtain ⟨d,h2,h⟩:=ye h;obtain ⟨ds',h3,rfl⟩:=V5 h;show wpE cf ρ e (fun x S1=>keep x fun d=>wpEs cf ρ es (fun ds S2=>W (d::ds) S2) S1) S
  exact hf e x h1 _ S (zaS h2 (Wr hf h3 _ S q))
theorem zaR {f:E->Option Vl}:∀ {es:List E}{ds:List D},kps f es=some ds->es.length=ds.length
 | [],ds,h=>by cases h;rfl
 | e::es,ds,h=>by obtain ⟨x,h1,h⟩:=ye (show ((f e).bind fun x=>(kpO x).bind fun d=>(kps f es).map (d::·))=some ds from h);obtain ⟨d,h2,h⟩:=ye h;obtain ⟨ds',h3,rfl⟩:=V5 h;exact congrArg (·+1) (zaR h3)
theorem ziJ {d:D}{i:Int}{Q:Int->Prop}(h:intO d=some i) (q:Q i):isZ d Q:=by
 cases d with
 | int j=>cases h;exact q
 | _=>cases h
theorem zh7 {f:E->Option Vl}(hf:∀ e x,f e=some x->∀ (V:Po) (S:Store),V x S->wpE cf ρ e V S) {o:Option E}{i:Option Int}(h:oo f o=some i) (W:Option Int->Store->Prop) (S:Store) (q:W i S):wpO cf ρ o W S:=by
 cases o with
 | none=>cases h;exact q
 | some e=>
  obtain ⟨x,h1,h⟩:=ye (show ((f e).bind fun x=>(intO x.1).map some)=some i from h);obtain ⟨j,h2,rfl⟩:=V5 h;exact hf e x h1 _ S (ziJ h2 q)
theorem V4 {o:Option (D×Bool)}{x:Vl}{Q:Vl->Prop}(h:o.map ofB=some x) (q:Q x):opV o Q:=by obtain ⟨p,rfl,rfl⟩:=V5 h;exact q
theorem yW:∀ (n:Nat) (e:E) (x:Vl),litE ρ n e=some x->∀ (V:Po) (S:Store),V x S->wpE cf ρ e V S:=by
 intro n
 induction n with
 | zero=>intro e x h;cases h
 | succ n ih=>
  intro e x h V S q;cases e with
  | con d=>cases h;exact q
  | var i=>
   have h:rdO ρ[i]?=some x:=h;show rdV ρ[i]? fun x=>V x S
   cases e:ρ[i]? with
   | none=>rw [e] at h;cases h
   | some s=>
    rw [e] at h;cases s with
    | sh d=>cases h;exact q
    | ow d=>cases h;exact q
    | _=>cases h
  | bin op a b=>
   obtain ⟨y,h1,h⟩:=ye (show ((litE ρ n a).bind fun x=>(litE ρ n b).bind fun y=>if nrD x.1&&nrD y.1 then (opD op x.1 y.1).map ofB else none)=some x from h);obtain ⟨z,h2,h⟩:=ye h;obtain ⟨h3,h⟩:=if_c h;obtain ⟨h3,h4⟩:=ε.mp h3;refine ih a y h1 _ S (ih b z h2 _ S ?_);rw [YB h3,YB h4];exact V4 h q
  | neg a=>
   obtain ⟨y,h1,h⟩:=ye (show ((litE ρ n a).bind fun x=>(intO x.1).map fun i=>((.int (-i),.st):Vl))=some x from h);obtain ⟨i,h2,rfl⟩:=V5 h;exact ih a y h1 _ S (ziJ h2 q)
  | tup es=>
   obtain ⟨ds,h1,h⟩:=ye (show ((kps (litE ρ n) es).bind fun ds=>if fits ds.length then some ((.tup ds,.st):Vl) else none)=some x from h);obtain ⟨h2,h⟩:=if_c h;cases h;exact Wr ih h1 _ S (yf h2 q)
  | lst es=>
   obtain ⟨ds,h1,h⟩:=ye (show ((kps (litE ρ n) es).bind fun ds=>if fits ds.length then some ((.lst ds,.fr):Vl) else none)=some x from h);obtain ⟨h2,h⟩:=if_c h;cases h;exact Wr ih h1 _ S (yf h2 q)
  | sub a i=>
   obtain ⟨y,h1,h⟩:=ye (show ((litE ρ n a).bind fun x=>(litE ρ n i).bind fun y=>if nrD x.1 then (subD x.1 y.1).map (fun d=>((d,.st):Vl)) else none)=some x from h);obtain ⟨z,h2,h⟩:=ye h;obtain ⟨h3,h⟩:=if_c h;obtain ⟨d,h4,rfl⟩:=V5 h;refine ih a y h1 _ S (ih i z h2 _ S ?_);rw [YB h3];exact zE h4 q
  | slc a lo hi=>
   obtain ⟨y,h1,h⟩:=ye (show ((litE ρ n a).bind fun x=>(oo (litE ρ n) lo).bind fun l=>(oo (litE ρ n) hi).bind fun h=>if nrD x.1 then (slcD x.1 l h).map ofB else none)=some x from h);obtain ⟨l,h2,h⟩:=ye h;obtain ⟨u,h3,h⟩:=ye h;obtain ⟨h4,h⟩:=if_c h;refine ih a y h1 _ S (zh7 ih h2 _ S (zh7 ih h3 _ S ?_));rw [YB h4];exact V4 h q
  | cmp op a b=>
   obtain ⟨y,h1,h⟩:=ye (show ((litE ρ n a).bind fun x=>(litE ρ n b).bind fun y=>if nrD x.1&&nrD y.1 then (cmpD op x.1 y.1).map (fun r=>((.bl r,.st):Vl)) else none)=some x from h);obtain ⟨z,h2,h⟩:=ye h;obtain ⟨h3,h⟩:=if_c h;obtain ⟨h3,h4⟩:=ε.mp h3;obtain ⟨r,h5,rfl⟩:=V5 h;refine ih a y h1 _ S (ih b z h2 _ S ?_);rw [YB h3,YB h4];exact zE h5 q
  | or a b=>
   obtain ⟨y,h1,h⟩:=ye (show ((litE ρ n a).bind fun x=>(blO x.1).bind fun r=>if r=true then some ((.bl true,.st):Vl) else litE ρ n b)=some x from h);obtain ⟨r,h2,h⟩:=ye h;refine ih a y h1 _ S ?_;obtain ⟨y1,y2⟩:=y;cases y1 with
   | bl s=>
    cases h2;cases r with
    | true=>cases h;exact q
    | false=>exact ih b x h V S q
   | _=>cases h2
  | one a=>exact ih a x h V S q
  | bi b es=>
   obtain ⟨ds,h1,h⟩:=ye (show ((kps (litE ρ n) es).bind fun ds=>if ds.length==1&&ds.all nrD then (biD b ds).map ofB else none)=some x from h);obtain ⟨h2,h⟩:=if_c h;obtain ⟨h2,h3⟩:=ε.mp h2;have hl:=zaR h1;have h2:ds.length=1:=eq_of_beq h2;cases es with
   | nil=>rw [h2] at hl;cases hl
   | cons e es=>
    cases es with
    | cons _ _=>rw [h2] at hl;cases hl
    | nil=>
     obtain ⟨y,h4,h1⟩:=ye (show ((litE ρ n e).bind fun x=>(kpO x).bind fun d=>(kps (litE ρ n) []).map (d::·))=some ds from h1);obtain ⟨d,h5,h1⟩:=ye h1;cases h1;have h3:nrD d=true:=by simpa using h3
     have ey:y.1=d:=by
      obtain ⟨y1,y2⟩:=y;cases y2 with
      | st=>cases h5;rfl
      | fr=>cases h5;rfl
      | _=>cases h5
     refine ih e y h4 _ S ?_;rw [ey,YB h3];exact V4 h q
  | _=>cases h
end
section
variable {cx:Xp->Cf}{ex:Xp}{w:Nat}{cs:List C}{ρ ρ2:List Slot}{G:Ko}{S:Store}
theorem VB {t:T}{e:E}{x:Vl}(h:litE ρ 9 e=some x) (hb:Zg ρ t x=some ρ2) (q:wpCs cx ex w cs ρ2 G S):wpCs cx ex w (.set t e::cs) ρ G S:=by
 have:wpC cx ex w (.set t e) ρ (nxt (fun ρ' S'=>wpCs cx ex w cs ρ' G S') G) S=wpE (cx noX) ρ e (fun x S1=>optS (Zg ρ t x) fun ρ2=>nxt (fun ρ' S'=>wpCs cx ex w cs ρ' G S') G (.next ρ2) S1) S:=by
  cases e with
  | box e=>cases h
  | _=>rfl
 refine zu ?_;rw [this];exact yW 9 e x h _ S (zQ hb q)
theorem yt {i:Nat}{e:E}{d:D}(h:litE ρ 9 e=some (d,.fr)) (hb:yD ρ (.one i) (d,true)=some (ρ.set i (.ow d))) (e2:ρ.set i (.ow d)=ρ2) (q:wpCs cx ex w cs ρ2 G S):wpCs cx ex w (.set (.one i) e::cs) ρ G S:=VB h hb (by rw [e2];exact q)
theorem Vz {i:Nat}{e:E}{d:D}(h:litE ρ 9 e=some (d,.st)) (hb:yD ρ (.one i) (d,false)=some (ρ.set i (.sh d))) (e2:ρ.set i (.sh d)=ρ2) (q:wpCs cx ex w cs ρ2 G S):wpCs cx ex w (.set (.one i) e::cs) ρ G S:=VB h hb (by rw [e2];exact q)
theorem yN {i:Nat}{d:D}{Q:List Slot->Prop}(hb:yD ρ (.one i) (d,false)=some (ρ.set i (.sh d))) (e2:ρ.set i (.sh d)=ρ2) (q:Q ρ2):optS (Zg ρ (.one i) (d,.st)) Q:=zQ hb (by rw [e2];exact q)
theorem Xj {i:Nat}{e:E}{x:Vl}{d:D}{l:List D}(hr:ρ[i]?=some (.ow (.lst l))) (h:litE ρ 9 e=some x) (hk:kpO x=some d) (hf:fits (l.length+1)=true) (e2:ρ.set i (.ow (.lst (l++[d])))=ρ2) (q:wpCs cx ex w cs ρ2 G S):wpCs cx ex w (.app i e::cs) ρ G S:=
 zu (zdR hr (yW 9 e x h _ S (zaS hk (yf hf (by rw [e2];exact q)))))
end
section
variable {cx:Xp->Cf}{ex:Xp}{w:Nat}{cs:List C}{ρ:List Slot}{G:Ko}{S:Store}
theorem zO {t:T}{f:Nat}{es:List E}{ds:List D}(h:kps (litE ρ 9) es=some ds) (q:cx noX f ds (fun x S1=>optS (Zg ρ t x) fun ρ2=>wpCs cx ex w cs ρ2 G S1) S):wpCs cx ex w (.set t (.call f es)::cs) ρ G S:=
 zu (Wr (fun e x h=>yW 9 e x h) h _ S q)
theorem Yr {f:Nat}{es:List E}{ds:List D}(h:kps (litE ρ 9) es=some ds) (q:cx noX f ds (fun x S1=>retV x fun o=>G o S1) S):wpCs cx ex w [.ret (.call f es)] ρ (nxt (fun ρ' S'=>wpCs cx ex w cs ρ' G S') G) S:=by
 refine zu (Wr (fun e x h=>yW 9 e x h) h _ S ?_);have:(fun (x:Vl) S1=>retV x fun o=>nxt (fun ρ' S'=>wpCs cx ex w [] ρ' (nxt (fun ρ' S'=>wpCs cx ex w cs ρ' G S') G) S') (nxt (fun ρ' S'=>wpCs cx ex w cs ρ' G S') G) o S1)=(fun (x:Vl) S1=>retV x fun o=>G o S1):=by
  funext x S1
  obtain ⟨d,k⟩:=x;cases k <;> rfl
 rw [this];exact q
theorem xn {f:E->Option Vl}{e:E}{es:List E}{x:Vl}{d:D}{ds:List D}(h:f e=some x) (hk:kpO x=some d) (t:kps f es=some ds):kps f (e::es)=some (d::ds):=by
 show ((f e).bind fun x=>(kpO x).bind fun d=>(kps f es).map (d::·))=_
 rw [h,bz,hk,bz,t];rfl
theorem zaP {n:Nat}{es:List E}{ds:List D}(h:kps (litE ρ n) es=some ds) (hf:fits ds.length=true):litE ρ (n+1) (.tup es)=some (.tup ds,.st):=by
 show ((kps (litE ρ n) es).bind fun ds=>if fits ds.length then some ((.tup ds,.st):Vl) else none)=_
 rw [h,bz,if_pos hf]
end
theorem zae {cx:Xp->Cf}{ex:Xp}{w:Nat}{ρ:List Slot}{G:Ko}{S:Store}{op:gO}{e1 e2:E}{d:D}(h:litE ρ 9 (.bin op e1 e2)=some (d,.st)) (q:G (.ret d false) S):wpCs cx ex w [.ret (.bin op e1 e2)] ρ G S:=by
 refine zu ?_;show wpE (cx noX) ρ (.bin op e1 e2) (fun x S1=>retV x fun o=>nxt (fun ρ' S'=>wpCs cx ex w [] ρ' G S') G o S1) S
 exact yW 9 _ _ h _ S q
theorem zhV {ρ ρ2:List Slot}{i:Nat}{d:D}{Q:List Slot->Prop}(hb:yD ρ (.one i) (d,true)=some (ρ.set i (.ow d))) (e2:ρ.set i (.ow d)=ρ2) (q:Q ρ2):optS (Zg ρ (.one i) (d,.fr)) Q:=zQ hb (by rw [e2];exact q)
theorem V6 {ρ:List Slot}{n:Nat}{e i:E}{x y:Vl}{d:D}(h1:litE ρ n e=some x) (h2:litE ρ n i=some y) (hr:nrD x.1=true) (h:subD x.1 y.1=some d):litE ρ (n+1) (.sub e i)=some (d,.st):=by
 show ((litE ρ n e).bind fun x=>(litE ρ n i).bind fun y=>if nrD x.1 then (subD x.1 y.1).map (fun d=>((d,.st):Vl)) else none)=_
 rw [h1,bz,h2,bz,if_pos hr,h];rfl
theorem fz_s {cx:Xp->Cf}{ex:Xp}{w:Nat}{cs:List C}{ρ ρ2:List Slot}{G:Ko}{S:Store}{i:Nat}(h:ρ.set i (fz ((ρ[i]?).getD .no))=ρ2) (q:wpCs cx ex w cs ρ2 G S):wpCs cx ex w (.frz i::cs) ρ G S:=zu (by rw [<- h] at q;exact q)
theorem Yq {cx:Xp->Cf}{ex:Xp}{w:Nat}{ρ:List Slot}{G:Ko}{S:Store}{es:List E}{d:D}(h:litE ρ 9 (.tup es)=some (d,.st)) (q:G (.ret d false) S):wpCs cx ex w [.ret (.tup es)] ρ G S:=by
 refine zu ?_;show wpE (cx noX) ρ (.tup es) (fun x S1=>retV x fun o=>nxt (fun ρ' S'=>wpCs cx ex w [] ρ' G S') G o S1) S
 exact yW 9 _ _ h _ S q
theorem zcK {ρ ρ1 ρ2:List Slot}{is:List Nat}{ds:List D}{Q:List Slot->Prop}(hb:yD ρ (.tup is) (.tup ds,false)=some ρ1) (e:ρ1=ρ2) (q:Q ρ2):optS (Zg ρ (.tup is) (.tup ds,.st)) Q:=zQ hb (by rw [e];exact q)
theorem Um {cx:Xp->Cf}{ex:Xp}{w:Nat}{cs:List C}{ρ:List Slot}{G:Ko}{S:Store}{c:E}{A:List C}{b:Bool}{k:Kd}(h:litE ρ 9 c=some (.bl b,k)) (T:b=true->wpCs cx ex w A ρ (nxt (fun ρ' S'=>wpCs cx ex w cs ρ' G S') G) S) (N:b=false->wpCs cx ex w cs ρ G S):wpCs cx ex w (.ite c A []::cs) ρ G S:=
 zu (yW 9 c _ h _ S (Xf rfl (zj T N)))
noncomputable def menu:List Str:=["x","xy","set","abcdefgh","end","q"]
section
variable {K:Nat}{S:Store}
def In (n:Int):Prop:=0<=n/\n < 1000000007
end
inductive Fm:Nat->D->Prop where
 | nm {k:Nat}{s:Str}(h:s∈menu):Fm k (.str s)
 | num {k:Nat}{i:Int}(h:In i):Fm k (.int i)
 | op {k:Nat}{g:Str}{a b:D}(h:g∈sgL) (ha:Fm k a) (hb:Fm k b):Fm (k+1) (.tup [.str g,a,b])
theorem Fm.mono:∀ {k:Nat}{d:D},Fm k d->∀ {m:Nat},k<=m->Fm m d
 | _,_,.nm h,_,_=>.nm h
 | _,_,.num h,_,_=>.num h
 | k+1,_,.op h ha hb,m,q=>by
  obtain ⟨m,rfl⟩:∃ j,m=j+1:=⟨m - 1,by omega⟩
  exact .op h (ha.mono (by omega)) (hb.mono (by omega))
noncomputable def whoL:List Str:=["bank","b","ask","skyskysk"]
theorem zgB:∀ s∈whoL,wdS s=true:=by decide +kernel
def NmO (d:D):Prop:=d=.non\/∃ s∈menu,d=.str s
inductive Brn (C:Str->Nat->Prop):D->Prop where
 | ask {n e:D}{w:Str}(hn:NmO n) (hw:w∈whoL) (he:Fm 3 e):Brn C (.tup [n,.str "ask",.str w,e])
 | call {n:D}{f:Str}{l:List D}(hn:NmO n) (hf:wdS f=true) (hc:C f l.length) (h3:l.length<=3) (he:∀ e∈l,Fm 3 e):Brn C (.tup [n,.str "call",.str f,.tup l])
inductive RwB (C:Str->Nat->Prop) (B:Bool->Nat->List D->Prop):Bool->Nat->D->Prop where
 | set {u:Bool}{s:Str}{e:D}(hs:s∈menu) (he:Fm 3 e):RwB C B u 1 (.tup [.str "set",.str s,e])
 | tell {u:Bool}{e:D}(he:Fm 3 e):RwB C B u 1 (.tup [.str "tell",e])
 | fail {u:Bool}{e:D}(he:Fm 3 e):RwB C B u 1 (.tup [.str "fail",e])
 | give {e:D}(he:Fm 3 e):RwB C B false 1 (.tup [.str "give",e])
 | want {u:Bool}{i:Int}{bs:List D}(h1:1<=i) (h2:i<=bs.length) (h4:bs.length<=4) (hb:∀ b∈bs,Brn C b):RwB C B u 1 (.tup [.str "want",.int i,.tup bs])
 | whl {u:Bool}{e:D}{a:Nat}{b:List D}(he:Fm 3 e) (hb:B u a b):RwB C B u (a+1) (.tup [.str "while",e,.tup b])
 | iff {u:Bool}{e:D}{a a':Nat}{b b':List D}(he:Fm 3 e) (hb:B u a b) (hb':B u a' b'):RwB C B u (a+a'+1) (.tup [.str "if",e,.tup b,.tup b'])
 | tri {u:Bool}{n:D}{a a':Nat}{b b':List D}(hn:NmO n) (hb:B u a b) (hb':B u a' b'):RwB C B u (a+a'+1) (.tup [.str "try",.tup b,n,.tup b'])
 | doo {u:Bool}{a a':Nat}{b b':List D}(hb:B u a b) (hb':B true a' b'):RwB C B u (a+a'+1) (.tup [.str "do",.tup b,.tup b'])
inductive Rws (R:Nat->D->Prop):Nat->List D->Prop where
 | nil:Rws R 0 []
 | cons {a m:Nat}{d:D}{l:List D}(h:R a d) (t:Rws R m l):Rws R (a+m) (d::l)
def Bk (C:Str->Nat->Prop):Nat->Bool->Nat->List D->Prop
 | 0,_,m,l=>l=[]/\m=0
 | n+1,u,m,l=>l.length<=8/\Rws (RwB C (Bk C n) u) m l
section
variable {C:Str->Nat->Prop}{B:Bool->Nat->List D->Prop}{u:Bool}{a:Nat}{d:D}{K:Nat}{S:Store}
theorem fm1 {e:D}(h:Fm 3 e):∀ x∈[e],Fm 3 x:=fun x hx=>by rw [μ.mp hx];exact h
theorem Rws.len {R:Nat->D->Prop}(hR:∀ a d,R a d->1<=a) {m:Nat}{l:List D}(h:Rws R m l):l.length<=m:=by
 induction h with
 | nil=>exact Α _
 | cons h t ih=>have:=hR _ _ h;simp;omega
theorem Rws.app {R:Nat->D->Prop}{m n:Nat}{l k:List D}(h:Rws R m l) (h':Rws R n k):Rws R (m+n) (l++k):=by
 induction h with
 | nil=>simpa using h'
 | cons h t ih=>rw [Nat.add_assoc];exact .cons h ih
end
noncomputable def er (t:Str) (ps:List Str) (b:List D):D:=.tup [.str t,.tup (ps.map D.str),.tup b]
structure ErOk (C:Str->Nat->Prop) (t:Str) (ps:List Str) (b:List D):Prop where
 wd:wdS t=true
 ps3:ps.length<=3
 psm:∀ s∈ps,s∈menu
 psn:ps.Nodup
 bk:∃ m,m<=24/\Bk C 4 false m b
noncomputable abbrev Er:=Str×List Str×List D
noncomputable def erD (p:Er):D:=er p.1 p.2.1 p.2.2
noncomputable def prD (es:List Er):D:=.tup (es.map erD)
noncomputable abbrev LI (xs:List Int):D:=.lst (xs.map D.int)
theorem zds {xs:List Int}(h:0 < xs.length) (a:Int):∃ v,subD (LI xs) (.int (a % ((xs.map D.int).length:Int)))=some (.int v):=by
 rw [υ];have hp:(0:Int) < (xs.length:Int):=by omega
 have h0:=bQ a (show (xs.length:Int)≠0 by omega);have h1:=aR a hp;refine ⟨xs[(a % (xs.length:Int)).toNat]'(by omega),zaL h0 ?_⟩;rw [Ρ,Ε (by omega)];rfl
theorem len_pos {xs:List Int}(h:0 < xs.length):(0:Int) < ((xs.map D.int).length:Int):=by rw [υ];omega
theorem yG {l:List D}{v:Int}(h0:0<=v) (h1:v < l.length):∃ d∈l,subD (.lst l) (.int v)=some d:=⟨l[v.toNat]'(by omega),cX _,zaL h0 (Ε (by omega))⟩
theorem Jk (xs:List Int) (v:Int):xs.map D.int++[D.int v]=(xs++[v]).map D.int:=by rw [aH];rfl
theorem uU {c l0:Int}{xs:List Int}{S:Store}{K:Nat}{V:Po}(hl:xs.length<=300) (q:∀ ys:List Int,ys.length=300->V (LI ys,.fr) S):
  wpCs (za F wh K) noX wh (wY.drop 3) [.sh (.int c),.sh (.int 300),.ow (LI xs),.sh (.int l0),.no,.no] (told V) S:=by
 show wpCs _ _ _ [_,_] _ _ _
 nofun;refine yf (by rw [υ];simp [fits,LIM];omega) ?_;refine wp_walk (fun rem ρ S'=>S'=S/\∃ (j:Int) (ys:List Int) (x4 x5:Slot),rem=zV j 300/\j=ys.length/\j<=300/\ρ=[.sh (.int c),.sh (.int 300),.ow (LI ys),.sh (.int l0),x4,x5]) ?_ ?_ _ _ _ ⟨rfl,xs.length,xs,.no,.no,by rw [υ],rfl,by omega,rfl⟩
 ·rintro d rem ρ S' ⟨rfl,j,ys,x4,x5,e1,hy,h300,rfl⟩;by_cases hj:j < 300
  ·rw [jE (by omega)] at e1;cases e1;nofun;refine zT (zaG (Jl (by omega) (by omega))) ?_;nofun;rw [Jk];exact ⟨rfl,j+1,_,_,_,rfl,by rw [ξ,hy];rfl,by omega,rfl⟩
  ·rw [zad (by omega)] at e1;cases e1
 ·rintro ρ S' ⟨rfl,j,ys,x4,x5,e1,hy,h300,rfl⟩;nofun;by_cases hj:j < 300
  ·rw [jE (by omega)] at e1;cases e1
  ·exact q ys (by omega)
theorem zdc {c:Int}{K:Nat}{S:Store}(hK:1<=K):Sm K 27 [.int c,.int 300] (fun x=>∃ ys:List Int,x=(LI ys,.fr)/\ys.length=300) S:=by
 obtain ⟨K,hk,rfl⟩:=up hK;refine Xu ?_;nofun;refine zj (fun h=>?_) (fun h=>?_)
 ·nofun;refine Z6 (fun n ρ S'=>S'=S/\∃ (ys:List Int) (l:Int),ys.length+n=300/\ρ=[.sh (.int c),.sh (.int 300),.ow (LI ys),.sh (.int l),.no,.no]) ?_ 600 300 _ _ (by decide) ⟨rfl,[],_,rfl,rfl⟩;rintro n ρ S' ⟨rfl,ys,l,hn,rfl⟩;dsimp only [wpX,vD,e_bi,zG,zW,zf2];nofun;refine zj (fun h1=>?_) (fun h1=>?_)
  ·nofun;refine zj (fun h2=>?_) (fun h2=>?_)
   ·have h2:=of_decide_eq_true h2;rw [υ] at h2;refine ⟨n - 1,by omega,?_⟩;nofun;rw [Jk];exact ⟨rfl,_,_,by rw [ξ];simp;omega,rfl⟩
   ·nofun;exact uU (by omega) fun ys h=>⟨⟨ys,rfl,h⟩,rfl⟩
  ·nofun;exact uU (by omega) fun ys h=>⟨⟨ys,rfl,h⟩,rfl⟩
 ·nofun;exact uU (xs:=[]) (by decide) fun ys h=>⟨⟨ys,rfl,h⟩,rfl⟩
section
variable {xs:List Int}{K:Nat}{S:Store}
variable {ns:List Str}
def Dr (m:Int) (x:Vl):Prop:=∃ v:Int,x=(.int v,.st)/\0<=v/\v < m
theorem zz {a m:Int}(hx:0 < xs.length) (hm:0 < m) (hK:1<=K):Sm K 28 [LI xs,.int a,.int m] (Dr m) S:=by obtain ⟨K,hk,rfl⟩:=up hK;obtain ⟨v,e⟩:=zds hx a;refine Vu ?_;nofun;refine zT (Wo (len_pos hx)) ?_;refine zE e ?_;nofun;refine zT (Wo hm) ?_;nofun;exact ⟨⟨_,rfl,bQ _ (by omega),aR _ hm⟩,rfl⟩
theorem zij (x:Int):In (x % 1000000007):=⟨bQ _ (by decide),aR _ (by decide)⟩
theorem zaO {a:Int}(hx:0 < xs.length) (hK:1<=K):Sm K 29 [LI xs,.int a] (fun x=>∃ v,x=(.int v,.st)/\In v) S:=by
 obtain ⟨K,hk,rfl⟩:=up hK;obtain ⟨v,e⟩:=zds hx a;obtain ⟨v1,e1⟩:=zds hx (a+1);obtain ⟨v2,e2⟩:=zds hx (a+2);refine Yd ?_;nofun;refine zT (Wo (len_pos hx)) ?_;refine zE e ?_;nofun;refine zT (Wo (len_pos hx)) ?_;refine zE e1 ?_;nofun;refine zT (Wo (len_pos hx)) ?_;refine zE e2 ?_;nofun;have h0:=bQ (v2 / 7) (show (3:Int)≠0 by decide);have h1:=aR (v2 / 7) (show (0:Int) < 3 by decide);generalize hw:v2 / 7 % 3=w at *;have hc:w=0\/w=1\/w=2:=by omega
 generalize v*10 ^ Int.toNat 6+v1=q;have k5:=bQ q (show (5:Int)≠0 by decide);have l5:=aR q (show (0:Int) < 5 by decide);have k3:=bQ q (show (3:Int)≠0 by decide);have l3:=aR q (show (0:Int) < 3 by decide);rcases hc with rfl | rfl | rfl
 ·nofun;exact ⟨⟨_,rfl,k5,by omega⟩,rfl⟩
 ·nofun;exact ⟨⟨_,rfl,by omega,by omega⟩,rfl⟩
 ·nofun;exact ⟨⟨_,rfl,zij _⟩,rfl⟩
theorem zjB {v:Int}(h0:0<=v) (h:v < 5):∃ s∈sgL,subD (.str "+-*<=") (.int v)=some (.str s):=by
 have hc:v=0\/v=1\/v=2\/v=3\/v=4:=by omega
 rcases hc with rfl | rfl | rfl | rfl | rfl
 ·exact ⟨"+",by simp [sgL],by with_unfolding_all rfl⟩
 ·exact ⟨"-",by simp [sgL],by with_unfolding_all rfl⟩
 ·exact ⟨"*",by simp [sgL],by with_unfolding_all rfl⟩
 ·exact ⟨"<",by simp [sgL],by with_unfolding_all rfl⟩
 ·exact ⟨"=",by simp [sgL],by with_unfolding_all rfl⟩
def Ft (k:Nat) (x:Vl):Prop:=∃ e t,x=(.tup [e,.int t],.st)/\Fm k e
structure NsOk (ns:List Str):Prop where
 pos:0 < ns.length
 six:ns.length<=6
 mem:∀ s∈ns,s∈menu
theorem zkt (o:NsOk ns) {v:Int}(h0:0<=v) (h1:v < ((ns.map D.str).length:Int)):∃ s∈menu,subD (LS ns) (.int v)=some (.str s):=by obtain ⟨d,hd,e⟩:=yG h0 h1;obtain ⟨s,hs,rfl⟩:=Ο.mp hd;exact ⟨s,o.mem s hs,e⟩
theorem zia (o:NsOk ns):(0:Int) < ((ns.map D.str).length:Int):=by have:=o.pos;rw [υ];omega
theorem zks (o:NsOk ns):cmpD .NotEq (LS ns) (.lst [])=some true:=by
 have h:=o.pos;cases ns with
 | nil=>cases h
 | cons s r=>
  have:okP 60 (LS (s::r))=true:=Yw (n:=59) (l:=(s::r).map D.str) fun d hd=>by obtain ⟨_,_,rfl⟩:=Ο.mp hd;rfl
  rw [zku this rfl];rfl
theorem zgV (hx:0 < xs.length) (o:NsOk ns):∀ (k:Nat) (a:Int) (K:Nat) (S:Store),k+2<=K->Sm K 30 [LI xs,.int a,LS ns,.int k] (Ft k) S:=by
 have leaf:∀ (k:Nat) (a:Int) (K:Nat) (S:Store) (G:Ko),1<=K->(∀ e t,Fm k e->G (.ret (.tup [e,.int t]) false) S)->wpCs (za F wh K) noX wh [.ite (.and (.cmp .NotEq ⇑2 (.lst [])) (.one (.cmp .Eq (.call 28 [⇑0,(.bin .Add ⇑1 ↥1),↥2]) ↥0))) [.ret (.tup [(.sub ⇑2 (.call 28 [⇑0,(.bin .Add ⇑1 ↥2),(.bi .len [⇑2])])),(.bin .Add ⇑1 ↥5)])] [],.ret (.tup [(.call 29 [⇑0,(.bin .Add ⇑1 ↥2)]),(.bin .Add ⇑1 ↥5)])] [.sh (LI xs),.sh (.int a),.sh (LS ns),.sh (.int k),.no,.no,.no] G S:=by
  intro k a K S G hK hG;nofun;refine zE (zks o) ?_;nofun;refine (zz hx (by decide) hK).go ?_;rintro _ ⟨v,rfl,h0,h1⟩;nofun;refine zj (fun h=>?_) (fun h=>?_)
  ·nofun;refine (zz hx (zia o) hK).go ?_;rintro _ ⟨v,rfl,h0,h1⟩;obtain ⟨s,hs,e⟩:=zkt o h0 h1;nofun;refine zE e ?_;nofun;exact hG _ _ (.nm hs)
  ·nofun;refine (zaO hx hK).go ?_;rintro _ ⟨v,rfl,hv⟩;nofun;exact hG _ _ (.num hv)
 intro k
 induction k with
 | zero=>
  intro a K S hK;obtain ⟨K,hk,rfl⟩:=up hK;refine Zh ?_
  repeat first | exact leaf 0 a K S _ (by omega) (fun e t h=>⟨⟨e,t,rfl,h⟩,rfl⟩) | infer_instance
 | succ k ih=>
  intro a K S hK;obtain ⟨K,hk,rfl⟩:=up hK;refine Zh ?_;nofun;refine wB (beq_false_of_ne (by omega)) ?_;nofun;refine (zz hx (by decide) (by omega)).go ?_;rintro _ ⟨v,rfl,h0,h1⟩;nofun;refine zj (fun h=>?_) (fun h=>?_)
  ·repeat first | exact leaf (k+1) a K S _ (by omega) (fun e t h=>⟨⟨e,t,rfl,h⟩,rfl⟩) | infer_instance
  ·nofun;rw [show ((k+1:Nat):Int) - 1=(k:Int) by omega];refine (ih _ K S hk).go ?_;rintro _ ⟨e1,t1,rfl,o1⟩;nofun;rw [show ((k+1:Nat):Int) - 1=(k:Int) by omega];refine (ih _ K S hk).go ?_;rintro _ ⟨e2,t2,rfl,o2⟩;nofun;refine (zz hx (by decide) (by omega)).go ?_;rintro _ ⟨v,rfl,h0,h1⟩;obtain ⟨g,hg,e⟩:=zjB h0 h1;nofun;refine zE e ?_;nofun;exact ⟨⟨_,_,rfl,.op hg o1 o2⟩,rfl⟩
theorem qW {a:Int}(hx:0 < xs.length) (o:NsOk ns) (hK:6<=K):Sm K 31 [LI xs,.int a,LS ns] (Ft 3) S:=by
 obtain ⟨K,hk,rfl⟩:=up hK;refine Za ?_;nofun;refine (zz hx (by decide) (by omega)).go ?_;rintro _ ⟨v,rfl,h0,h1⟩;obtain ⟨k,k3,e⟩:∃ k:Nat,k<=3/\subD (.lst [.int 0,.int 1,.int 1,.int 3]) (.int v)=some (.int k):=by
  have hc:v=0\/v=1\/v=2\/v=3:=by omega
  rcases hc with rfl | rfl | rfl | rfl
  ·exact ⟨0,by decide,rfl⟩
  ·exact ⟨1,by decide,rfl⟩
  ·exact ⟨1,by decide,rfl⟩
  ·exact ⟨3,by decide,rfl⟩
 nofun;refine zE e ?_;nofun;refine (zgV hx o k _ K S (by omega)).go ?_;rintro _ ⟨e,t,rfl,h⟩;nofun;exact ⟨⟨_,_,rfl,h.mono k3⟩,rfl⟩
end
noncomputable def hgD (h:Str×Nat):D:=.tup [.str h.1,.int (h.2:Int)]
noncomputable def hsD (hs:List (Str×Nat)):D:=.lst (hs.map hgD)
structure HsOk (C:Str->Nat->Prop) (hs:List (Str×Nat)):Prop where
 pos:0 < hs.length
 three:hs.length<=3
 ok:∀ h∈hs,C h.1 h.2/\wdS h.1=true/\h.2<=3
section
variable {C:Str->Nat->Prop}{xs:List Int}{ns:List Str}{hs:List (Str×Nat)}{K:Nat}{S:Store}{a:Int}
theorem zkG (o:HsOk C hs):cmpD .Eq (hsD hs) (.lst [])=some false:=by
 have h:=o.pos;cases hs with
 | nil=>cases h
 | cons s r=>
  have:okP 60 (hsD (s::r))=true:=Yw (n:=59) (l:=(s::r).map hgD) fun d hd=>by obtain ⟨_,_,rfl⟩:=Ο.mp hd;rfl
  rw [zkM this rfl];rfl
theorem zib (o:NsOk ns) {v:Int}(h0:0<=v) (h1:v < 1+((ns.map D.str).length:Int)):∃ d,NmO d/\subD (.lst (.non::ns.map D.str)) (.int v)=some d:=by
 obtain ⟨d,hd,e⟩:=yG (l:=.non::ns.map D.str) h0 (by simp at h1 ⊢;omega);refine ⟨d,?_,e⟩;rcases ψ.mp hd with rfl | hd
 ·exact .inl rfl
 ·obtain ⟨s,hs,rfl⟩:=Ο.mp hd;exact .inr ⟨s,o.mem s hs,rfl⟩
theorem zbF (hx:0 < xs.length) (o:NsOk ns) (oh:HsOk C hs) (hK:7<=K):Sm K 32 [LI xs,.int a,LS ns,hsD hs] (fun x=>∃ b t,x=(.tup [b,.int t],.st)/\Brn C b) S:=by
 obtain ⟨K,hk,rfl⟩:=up hK;have six:=o.six;have hp:(0:Int) < 1+((ns.map D.str).length:Int):=by omega
 refine Yg ?_;nofun;refine Wf (UV (a:=[.non]) (by simp;omega)) ?_;nofun;refine (zz hx hp (by omega)).go ?_;rintro _ ⟨v,rfl,h0,h1⟩;obtain ⟨nm,hnm,e⟩:=zib o h0 h1;nofun;refine zE (show subD (.lst ([.non]++ns.map D.str)) (.int v)=some nm from e) ?_;have ei:WF nm=false:=rfl;nofun;refine zE (zkG oh) ?_;nofun;refine (zz hx (by decide) (by omega)).go ?_;rintro _ ⟨v,rfl,h0,h1⟩;nofun;refine zj (fun h=>?_) (fun h=>?_)
 ·nofun;refine (qW hx o (by omega)).go ?_;rintro _ ⟨e1,t1,rfl,o1⟩;nofun;refine (zz hx (by decide) (by omega)).go ?_;rintro _ ⟨v,rfl,h0,h1⟩;obtain ⟨d,hd,e⟩:=yG (l:=whoL.map D.str) h0 h1;obtain ⟨w,hw,rfl⟩:=Ο.mp hd;nofun;refine zE e ?_;nofun;exact ⟨⟨_,_,rfl,.ask hnm hw o1⟩,rfl⟩
 ·nofun;refine (zz hx (by have:=oh.pos;simp;omega) (by omega)).go ?_;rintro _ ⟨v,rfl,h0,h1⟩;obtain ⟨d,hd,e⟩:=yG (l:=hs.map hgD) h0 h1;obtain ⟨⟨f,c⟩,hh,rfl⟩:=Ο.mp hd;obtain ⟨hC,hw,h3⟩:=oh.ok _ hh;have h3:c<=3:=h3;nofun;refine zE e ?_;nofun;refine yf (by simp [fits,LIM];omega) ?_;refine wp_walk (fun l ρ S'=>S'=S/\∃ (gs:List D) (t:Int) (x5 x9:Slot),ρ=[.sh (LI xs),.sh (.int a),.sh (LS ns),.sh (hsD hs),.sh nm,x5,.sh (.int t),.sh (hgD (f,c)),.ow (.lst gs),x9]/\(∀ g∈gs,Fm 3 g)/\gs.length+l.length=c/\∀ d∈l,∃ j,d=D.int j) ?_ ?_ _ _ _
   ⟨rfl,[],_,.no,.no,rfl,by simp,by rw [uM];simp,fun d hd=>(Yp hd).elim fun j q=>⟨j,q.1⟩⟩
  ·rintro d l ρ S' ⟨rfl,gs,t,x5,x9,rfl,hg,hl,hd⟩;have hl:gs.length+(l.length+1)=c:=hl;obtain ⟨j,rfl⟩:=hd d θ;nofun;refine (qW hx o (by omega)).go ?_;rintro _ ⟨e1,t1,rfl,o1⟩;nofun;exact ⟨rfl,_,_,_,_,rfl,fun g hg'=>(Ζ.mp hg').elim (hg g) (fm1 o1 g),by simp;omega,fun d hx=>hd d (ι _ hx)⟩
  ·rintro ρ S' ⟨rfl,gs,t,x5,x9,rfl,hg,hl,hd⟩;have hl:gs.length=c:=by simpa using hl
   nofun;exact ⟨⟨_,_,rfl,.call hnm hw (by rw [hl];exact hC) (by omega) hg⟩,rfl⟩
theorem zb2 (hx:0 < xs.length) (o:NsOk ns) (oh:HsOk C hs) (hK:8<=K):Sm K 33 [LI xs,.int a,LS ns,hsD hs] (fun x=>∃ i bs t,x=(.tup [.tup [.str "want",.int i,.tup bs],.int t],.st)/\1<=i/\i<=(bs.length:Int)/\bs.length<=4/\∀ b∈bs,Brn C b) S:=by
 obtain ⟨K,hk,rfl⟩:=up hK;refine Vs ?_;nofun;refine (zz hx (by decide) (by omega)).go ?_;rintro _ ⟨v,rfl,h0,h1⟩;nofun;refine yf (by simp [fits,LIM];omega) ?_;refine wp_walk (fun l ρ S'=>S'=S/\∃ (bs:List D) (t:Int) (x6 x7:Slot),ρ=[.sh (LI xs),.sh (.int a),.sh (LS ns),.sh (hsD hs),.ow (.lst bs),.sh (.int t),x6,x7]/\(∀ b∈bs,Brn C b)/\bs.length+l.length=(1+v).toNat/\∀ d∈l,∃ j,d=D.int j) ?_ ?_ _ _ _
  ⟨rfl,[],_,.no,.no,rfl,by simp,by rw [uM];simp,fun d hd=>(Yp hd).elim fun j q=>⟨j,q.1⟩⟩
 ·rintro d l ρ S' ⟨rfl,bs,t,x6,x7,rfl,hb,hl,hd⟩;have hl:bs.length+(l.length+1)=(1+v).toNat:=hl;obtain ⟨j,rfl⟩:=hd d θ;nofun;refine (zbF hx o oh (by omega)).go ?_;rintro _ ⟨b,t1,rfl,o1⟩;nofun;exact ⟨rfl,_,_,_,_,rfl,fun g hg'=>(Ζ.mp hg').elim (hb g) (fun e=>by rw [μ.mp e];exact o1),by simp;omega,fun d hx=>hd d (ι _ hx)⟩
 ·rintro ρ S' ⟨rfl,bs,t,x6,x7,rfl,hb,hl,hd⟩;have hl:bs.length=(1+v).toNat:=by simpa using hl
  nofun;refine (zz hx (by omega) (by omega)).go ?_;rintro _ ⟨w,rfl,w0,w1⟩;nofun;exact ⟨⟨_,_,_,rfl,by omega,by omega,by omega,hb⟩,rfl⟩
end
section
variable (C:Str->Nat->Prop) (xs:List Int) (ns:List Str) (hs:List (Str×Nat))
def zjm (n:Nat):Prop:=∀ (K:Nat) (S:Store) (a:Int) (lf:Nat) (u:Bool),lf<=24->2*n+10<=K->Sm K 35 [LI xs,.int a,.int (5 - (n:Int)),.int (lf:Int),.bl u,LS ns,hsD hs] (fun x=>∃ b t m l',x=(.tup [.tup b,.int t,.int ((l':Nat):Int)],.st)/\Bk C n u m b/\l'+m=lf) S
def RwAt (n:Nat):Prop:=∀ (K:Nat) (S:Store) (a:Int) (lf:Nat) (u:Bool),lf<=24->2*n+11<=K->Sm K 34 [LI xs,.int a,.int (4 - (n:Int)),.int (lf:Int),.bl u,LS ns,hsD hs] (fun x=>∃ r t m l',x=(.tup [r,.int t,.int ((l':Nat):Int)],.st)/\RwB C (Bk C n) u m r/\l'+m=lf+1) S
end
section
variable {xs:List Int}{K:Nat}{S:Store}{a:Int}
theorem yM {ex:Xp}{ρ:List Slot}{G:Ko}{i:Nat}{e:E}{l:List D}{k:Kd}(hx:0 < xs.length) (hK:1<=K) (hi:rdO ρ[i]?=some (.lst l,k)) (h0:ρ[0]?=some (.sh (LI xs))) (he:litE ρ 9 e=some (.int a,.st)) (hl:0 < l.length) (q:∀ d∈l,G (.ret d false) S):wpCs (za F wh K) ex wh [.ret (.sub (.var i) (.call 28 [⇑0,e,(.bi .len [(.var i)])]))] ρ G S:=by
 have hv:∀ (V:Po),V (.lst l,k) S->wpE (za F wh K noX) ρ (.var i) V S:=fun V q=>yW 1 (.var i) _ hi V S q
 refine zu ?_;show wpE (za F wh K noX) ρ (.sub (.var i) (.call 28 [⇑0,e,(.bi .len [(.var i)])])) (fun x S1=>retV x fun o=>nxt (fun ρ' S'=>wpCs (za F wh K) ex wh [] ρ' G S') G o S1) S
 rw [vC];refine hv _ ?_;rw [ym];dsimp only [wpEs,zG];refine yc h0 ?_;refine kp_s rfl ?_;refine yW 9 e _ he _ S ?_;refine kp_s rfl ?_;rw [e_bi];refine hv _ ?_;refine zT (d:=.int l.length) rfl ?_;refine kp_s rfl ?_;refine (zz hx (by omega) hK).go ?_;rintro _ ⟨j,rfl,j0,j1⟩;obtain ⟨d,hd,e⟩:=yG (l:=l) j0 j1;refine zE e ?_;exact rv_s rfl (q d hd)
theorem Jo {ex:Xp}{ρ:List Slot}{G:Ko}{cs:List C}{t:T}{i:Nat}{e:E}{l:List D}{k:Kd}(hx:0 < xs.length) (hK:1<=K) (hi:rdO ρ[i]?=some (.lst l,k)) (h0:ρ[0]?=some (.sh (LI xs))) (he:litE ρ 9 e=some (.int a,.st)) (hl:0 < l.length) (q:∀ d∈l,∃ ρ2,yD ρ t (d,false)=some ρ2/\wpCs (za F wh K) ex wh cs ρ2 G S):wpCs (za F wh K) ex wh (.set t (.sub (.var i) (.call 28 [⇑0,e,(.bi .len [(.var i)])]))::cs) ρ G S:=by
 have hv:∀ (V:Po),V (.lst l,k) S->wpE (za F wh K noX) ρ (.var i) V S:=fun V q=>yW 1 (.var i) _ hi V S q
 refine zu ?_;show wpE (za F wh K noX) ρ (.sub (.var i) (.call 28 [⇑0,e,(.bi .len [(.var i)])])) (fun x S1=>optS (Zg ρ t x) fun ρ2=>wpCs (za F wh K) ex wh cs ρ2 G S1) S
 rw [vC];refine hv _ ?_;rw [ym];dsimp only [wpEs,zG];refine yc h0 ?_;refine kp_s rfl ?_;refine yW 9 e _ he _ S ?_;refine kp_s rfl ?_;rw [e_bi];refine hv _ ?_;refine zT (d:=.int l.length) rfl ?_;refine kp_s rfl ?_;refine (zz hx (by omega) hK).go ?_;rintro _ ⟨j,rfl,j0,j1⟩;obtain ⟨d,hd,e⟩:=yG (l:=l) j0 j1;obtain ⟨ρ2,h1,h2⟩:=q d hd;refine zE e ?_;exact zQ h1 h2
end
section
variable {C:Str->Nat->Prop}{xs:List Int}{ns:List Str}{hs:List (Str×Nat)}
theorem zeT (hx:0 < xs.length) (o:NsOk ns) (oh:HsOk C hs) {n:Nat}(hB:zjm C xs ns hs n):RwAt C xs ns hs n:=by
 intro K S a lf u hlf hK;obtain ⟨K,hk,rfl⟩:=up hK;have e4:(4 - (n:Int))+1=5 - (n:Int):=by omega
 refine Km ?_;refine zO (ds:=[LI xs,.int a,.int 10]) rfl ?_;refine (zz hx (by decide) (by omega)).go ?_;rintro _ ⟨v,rfl,h0,h1⟩;refine yN rfl (by dsimp only [Β]) ?_;refine Um (b:=decide ((7:Int) < v)) rfl (fun h=>?_) (fun h=>?_)
 ·refine zO (ds:=[LI xs,.int (a+2),LS ns,hsD hs]) rfl ?_;refine (zb2 hx o oh (by omega)).go ?_;rintro _ ⟨i,bs,t,rfl,i1,i2,i4,hb⟩;refine zcK rfl (by dsimp only [dM,fW,cW,Β]) ?_;exact Yq rfl ⟨⟨_,_,1,lf,rfl,.want i1 i2 i4 hb,rfl⟩,rfl⟩
 have h7:v<=7:=by have:=of_decide_eq_false h;omega
 refine Jo (l:=ns.map D.str) (a:=a+1) hx (by omega) rfl rfl rfl (by rw [υ];exact o.pos) fun d hd=>?_
 obtain ⟨s,hs',rfl⟩:=Ο.mp hd;have hs':=o.mem s hs';refine ⟨_,rfl,?_⟩;dsimp only [Β,aP,if_false];refine zO (ds:=[LI xs,.int (a+2),LS ns]) rfl ?_;refine (qW hx o (by omega)).go ?_;rintro _ ⟨e1,t1,rfl,o1⟩;refine zcK rfl (by dsimp only [dM,fW,cW,Β]) ?_;refine Um (b:=v==0) rfl (fun h=>?_) (fun z0=>?_)
 ·exact Yq rfl ⟨⟨_,_,1,lf,rfl,.set hs' o1,rfl⟩,rfl⟩
 have z0:v≠0:=by simpa using z0
 refine Um (b:=decide (v < 4)) rfl (fun h=>?_) (fun h=>?_)
 ·have h:=of_decide_eq_true h;have hc:v=1\/v=2\/v=3:=by omega
  rcases hc with rfl | rfl | rfl
  ·cases u <;> exact Yq rfl ⟨⟨_,_,1,lf,rfl,.tell o1,rfl⟩,rfl⟩
  ·cases u
   ·exact Yq rfl ⟨⟨_,_,1,lf,rfl,.give o1,rfl⟩,rfl⟩
   ·exact Yq rfl ⟨⟨_,_,1,lf,rfl,.tell o1,rfl⟩,rfl⟩
  ·cases u <;> exact Yq rfl ⟨⟨_,_,1,lf,rfl,.fail o1,rfl⟩,rfl⟩
 have h:=of_decide_eq_false h;refine zO (ds:=[LI xs,.int t1,.int ((4 - (n:Int))+1),.int lf,.bl u,LS ns,hsD hs]) rfl ?_;rw [e4];refine (hB K S _ lf u hlf hk).go ?_;rintro _ ⟨b,t,m,l',rfl,hb,hm⟩;refine zcK rfl (by dsimp only [dM,fW,cW,Β]) ?_;refine Um (b:=v==4) rfl (fun h=>?_) (fun z4=>?_)
 ·exact Yq rfl ⟨⟨_,_,m+1,l',rfl,.whl o1 hb,by omega⟩,rfl⟩
 have z4:v≠4:=by simpa using z4
 refine zO (ds:=[LI xs,.int t,.int ((4 - (n:Int))+1),.int (l':Int),.bl (u||v==7),LS ns,hsD hs]) (by cases u <;> rfl) ?_;rw [e4];refine (hB K S _ l' (u||v==7) (by omega) hk).go ?_;rintro _ ⟨b',t',m',l2,rfl,hb',hm'⟩;refine zcK rfl (by dsimp only [dM,fW,cW,Β]) ?_;refine Um (b:=v==5) rfl (fun z5=>?_) (fun z5=>?_)
 ·have z5:v=5:=by simpa using z5
  subst z5;rw [show (u||((5:Int)==7))=u by cases u <;> rfl] at hb';exact Yq rfl ⟨⟨_,_,m+m'+1,l2,rfl,.iff o1 hb hb',by omega⟩,rfl⟩
 have z5:v≠5:=by simpa using z5
 refine Um (b:=v==6) rfl (fun z6=>?_) (fun z6=>?_)
 ·have z6:v=6:=by simpa using z6
  subst z6;rw [show (u||((6:Int)==7))=u by cases u <;> rfl] at hb';nofun;refine (zz hx (by decide) (by omega)).go ?_;rintro _ ⟨w,rfl,w0,w1⟩;obtain ⟨d,hd,e⟩:=yG (l:=[.str s,.non]) (show 0<=w / 10 by omega) (show w / 10 < 2 by omega);have hd:NmO d:=by
   rcases ψ.mp hd with rfl | hd
   ·exact .inr ⟨s,hs',rfl⟩
   ·rw [μ.mp hd];exact .inl rfl
  nofun;refine zE e ?_;nofun;exact ⟨⟨_,_,m+m'+1,l2,rfl,.tri hd hb hb',by omega⟩,rfl⟩
 ·have z6:v≠6:=by simpa using z6
  have z7:v=7:=by omega
  subst z7;rw [show (u||((7:Int)==7))=true by cases u <;> rfl] at hb';exact Yq rfl ⟨⟨_,_,m+m'+1,l2,rfl,.doo hb hb',by omega⟩,rfl⟩
theorem zaK {v:Int}(h0:0<=v) (h1:v < 5):∃ i:Int,0<=i/\i<=8/\subD (.lst [.int 0,.int 1,.int 2,.int 3,.int 8]) (.int v)=some (.int i):=by
 have hc:v=0\/v=1\/v=2\/v=3\/v=4:=by omega
 rcases hc with rfl | rfl | rfl | rfl | rfl
 ·exact ⟨0,by decide,by decide,rfl⟩
 ·exact ⟨1,by decide,by decide,rfl⟩
 ·exact ⟨2,by decide,by decide,rfl⟩
 ·exact ⟨3,by decide,by decide,rfl⟩
 ·exact ⟨8,by decide,by decide,rfl⟩
theorem zgh (hx:0 < xs.length) (o:NsOk ns) (oh:HsOk C hs):∀ (n:Nat),zjm C xs ns hs n:=by
 intro n
 induction n with
 | zero=>
  intro K S a lf u hlf hK;obtain ⟨K,hk,rfl⟩:=up hK;refine uY ?_;nofun;refine (zz hx (by decide) (by omega)).go ?_;rintro _ ⟨v,rfl,h0,h1⟩;obtain ⟨i,i0,i1,e⟩:=zaK h0 h1;nofun;refine zE e ?_;nofun;refine yf (by simp [fits,LIM];omega) ?_;refine wp_walk (fun l ρ S'=>S'=S/\∃ x10,ρ=[.sh (LI xs),.sh (.int a),.sh (.int (5 - ((0:Nat):Int))),.sh (.int lf),.sh (.bl u),.sh (LS ns),.sh (hsD hs),.ow (.lst []),.sh (.int i),.sh (.int (a+1)),x10,.no]/\∀ d∈l,∃ j,d=D.int j) ?_ ?_ _ _ _ ⟨rfl,.no,rfl,fun d hd=>(Yp hd).elim fun j q=>⟨j,q.1⟩⟩
  ·rintro d l ρ S' ⟨rfl,x10,rfl,hd⟩;obtain ⟨j,rfl⟩:=hd d θ;nofun;refine zj (fun h=>?_) (fun h=>?_)
   ·nofun;exact ⟨rfl,_,rfl,fun d hx=>hd d (ι _ hx)⟩
   ·nofun;exact ⟨rfl,_,rfl,fun d hx=>hd d (ι _ hx)⟩
  ·rintro ρ S' ⟨rfl,x10,rfl,hd⟩;nofun;exact ⟨⟨_,_,0,lf,rfl,⟨rfl,rfl⟩,rfl⟩,rfl⟩
 | succ n ih=>
  intro K S a lf u hlf hK;obtain ⟨K,hk,rfl⟩:=up hK;have e4:5 - ((n+1:Nat):Int)=4 - (n:Int):=by omega
  rw [e4];refine uY ?_;nofun;refine (zz hx (by decide) (by omega)).go ?_;rintro _ ⟨v,rfl,h0,h1⟩;obtain ⟨i,i0,i1,e⟩:=zaK h0 h1;nofun;refine zE e ?_;nofun;refine yf (by simp [fits,LIM];omega) ?_;refine wp_walk (fun l ρ S'=>S'=S/\∃ (rs:List D) (l' m:Nat) (t:Int) (x10 x11:Slot),ρ=[.sh (LI xs),.sh (.int a),.sh (.int (4 - (n:Int))),.sh (.int (l':Int)),.sh (.bl u),.sh (LS ns),.sh (hsD hs),.ow (.lst rs),.sh (.int i),.sh (.int t),x10,x11]/\Rws (RwB C (Bk C n) u) m rs/\l'+m=lf/\rs.length+l.length<=8/\∀ d∈l,∃ j,d=D.int j) ?_ ?_ _ _ _
   ⟨rfl,[],lf,0,_,.no,.no,rfl,.nil,rfl,by rw [uM];simp;omega,fun d hd=>(Yp hd).elim fun j q=>⟨j,q.1⟩⟩
  ·rintro d l ρ S' ⟨rfl,rs,l',m,t,x10,x11,rfl,hr,hm,hl,hd⟩;have hl:rs.length+(l.length+1)<=8:=hl;have hd':=fun d hx=>hd d (ι _ hx)
   obtain ⟨j,rfl⟩:=hd d θ;nofun;refine zj (fun h=>?_) (fun h=>?_)
   ·have hp:0 < l':=by have:=of_decide_eq_true h;omega
    nofun;refine yf (decide_eq_true (by omega)) ?_;nofun;rw [show (l':Int) - 1=((l' - 1:Nat):Int) by omega];refine (zeT hx o oh ih K S' _ (l' - 1) u (by omega) (by omega)).go ?_;rintro _ ⟨r,t2,m2,l2,rfl,hr2,hm2⟩;nofun;exact ⟨rfl,_,l2,m+(m2+0),_,_,_,rfl,hr.app (.cons hr2 .nil),by omega,by simp;omega,hd'⟩
   ·nofun;exact ⟨rfl,_,l',m,_,_,_,rfl,hr,hm,by omega,hd'⟩
  ·rintro ρ S' ⟨rfl,rs,l',m,t,x10,x11,rfl,hr,hm,hl,hd⟩;nofun;exact ⟨⟨_,_,m,l',rfl,⟨by simpa using hl,hr⟩,hm⟩,rfl⟩
theorem zbo (hx:0 < xs.length) (o:NsOk ns) (oh:HsOk C hs) {K:Nat}{S:Store}{a:Int}{t:Str}{ps:List Str}(hK:19<=K):Sm K 36 [LI xs,.int a,.str t,LS ps,LS ns,hsD hs,.int 6] (fun x=>∃ b p m,x=(.tup [er t ps b,.int p],.st)/\m<=24/\Bk C 4 false m b) S:=by obtain ⟨K,hk,rfl⟩:=up hK;refine Ye ?_;nofun;refine (zgh hx o oh 4 K S a 6 false (by decide) hk).go ?_;rintro _ ⟨b,p,m,l',rfl,hb,hm⟩;nofun;exact ⟨⟨b,p,m,rfl,by omega,hb⟩,rfl⟩
end
inductive Al (R:D->D->Prop):List D->List D->Prop where
 | nil:Al R [] []
 | cons {x y:D}{l m:List D}(h:R x y) (t:Al R l m):Al R (x::l) (y::m)
theorem zbw {s:D->(Option D->Store->Prop)->Store->Prop}{V:List D->Store->Prop}{S:Store}{R:D->D->Prop}:∀ (xs acc:List D),acc.length+xs.length<=1000->(∀ x∈xs,∀ Q:Option D->Store->Prop,(∀ y,R x y->Q (some y) S)->s x Q S)->(∀ ys,Al R xs ys->V (acc++ys) S)->xu s xs acc V S
 | [],acc,_,_,v=>by have:=v [] .nil;rw [Δ] at this;exact this
 | x::xs,acc,hl,h,v=>by
  have hl:acc.length+(xs.length+1)<=1000:=hl;refine h x θ _ fun y hy=>yf (fits_of (by omega)) (zbw xs (acc++[y]) (by simp;omega) (fun z hz=>h z (ι _ hz)) fun ys a=>?_)
  have:=v (y::ys) (.cons hy a);simpa using this
noncomputable def hdL:List Str:=["main","a","ab","end","mainpart","z","yy","errand"]
theorem ziN:∀ s∈hdL,wdS s=true:=by decide +kernel
structure HdOk (hs:List (Str×Nat)):Prop where
 pos:0 < hs.length
 three:hs.length<=3
 nd:(hs.map fun h=>h.1).Nodup
 ok:∀ h∈hs,h.1∈hdL/\h.2<=3
abbrev C0 (hs:List (Str×Nat)):Str->Nat->Prop:=fun f c=>(f,c)∈hs
theorem HdOk.hs {hs:List (Str×Nat)}(o:HdOk hs):HsOk (C0 hs) hs:=⟨o.pos,o.three,fun h hh=>⟨hh,ziN _ (o.ok h hh).1,(o.ok h hh).2⟩⟩
section
variable {xs:List Int}{K:Nat}{S:Store}
noncomputable def h3L:List (List Str):=[["main","a","ab"],["end","main","mainpart"],["z","yy","errand"]]
theorem Kf:∀ (n:Nat) (ws:List Str) (ys:List D),Al (fun x y=>∃ (s:Str) (k:Int) (c:Nat),x=.tup [.int k,.str s]/\y=hgD (s,c)/\c<=3) (uT n (ws.map D.str)) ys->∃ hs:List (Str×Nat),ys=hs.map hgD/\hs.map (fun h=>h.1)=ws/\∀ h∈hs,h.2<=3
 | n,[],_,.nil=>⟨[],rfl,rfl,by simp⟩
 | n,w::ws,_,.cons ⟨s,k,c,e,h,hc⟩ t=>by
  obtain ⟨hs,e1,e2,e3⟩:=Kf (n+1) ws _ t;have e:D.tup [.int n,.str w]=.tup [.int k,.str s]:=e;cases e;refine ⟨(w,c)::hs,by rw [h,e1];rfl,by rw [<- e2];rfl,fun h hh=>?_⟩;rcases ψ.mp hh with rfl | hh
  ·exact hc
  ·exact e3 h hh
theorem JZ:∀ (n:Nat) (ws:List Str),∀ x∈uT n (ws.map D.str),∃ (s:Str) (k:Int),x=.tup [.int k,.str s]
 | n,[],x,h=>by cases h
 | n,w::ws,x,h=>by
  rcases ψ.mp h with rfl | h
  ·exact ⟨w,n,rfl⟩
  ·exact JZ (n+1) ws x h
theorem vq:∀ (n:Nat) (ws:List Str),(uT n (ws.map D.str)).length=ws.length
 | n,[]=>rfl
 | n,w::ws=>congrArg (·+1) (vq (n+1) ws)
theorem zcb {v:Int}(h0:0<=v) (h1:v < 3):∃ ws∈h3L,subD (.lst (h3L.map LS)) (.int v)=some (LS ws):=by obtain ⟨d,hd,e⟩:=yG (l:=h3L.map LS) h0 h1;obtain ⟨ws,hw,rfl⟩:=Ο.mp hd;exact ⟨ws,hw,e⟩
theorem zkJ:∀ ws∈h3L,ws.length=3/\ws.Nodup/\∀ s∈ws,s∈hdL:=by decide +kernel
theorem zc1 (hx:0 < xs.length) (hK:2<=K):Sm K 37 [LI xs,.int 0] (fun x=>∃ hs,x=(hsD hs,.fr)/\HdOk hs) S:=by
 obtain ⟨K,hk,rfl⟩:=up hK;refine Xr ?_;nofun;refine (zz hx (by decide) hk).go ?_;rintro _ ⟨v,rfl,h0,h1⟩;obtain ⟨ws,hw,e⟩:=zcb h0 h1;obtain ⟨w3,wn,wm⟩:=zkJ ws hw;nofun;refine zE e ?_;nofun;refine xG ?_;dsimp only [wpI,zbq,zG,wpO,vG,zW,ym,wpEs];nofun;refine (zz hx (by decide) hk).go ?_;rintro _ ⟨w,rfl,w0,w1⟩;obtain ⟨j,hj,j1,j3⟩:∃ j:Nat,(1+w)=(j:Int)/\1<=j/\j<=3:=⟨(1+w).toNat,by omega,by omega,by omega⟩
 nofun;rw [hj,WT (by simp;omega),<- mU];nofun;refine zbw (R:=fun x y=>∃ (s:Str) (k:Int) (c:Nat),x=.tup [.int k,.str s]/\y=hgD (s,c)/\c<=3) _ [] (by rw [vq];simp;omega) (fun x hx' Q hQ=>?_) fun ys al=>?_
 ·obtain ⟨s,k,rfl⟩:=JZ _ _ x hx';refine zQ rfl ?_;dsimp only [wpF,ux,ym,vG,zW,wpEs,zG,inn,nT,Κ,aN,Δ,Β];nofun;refine (zz hx (by decide) hk).go ?_;rintro _ ⟨c,rfl,c0,c1⟩;nofun;exact hQ _ ⟨s,k,c.toNat,rfl,by rw [hgD,Int.toNat_of_nonneg c0],by omega⟩
 ·obtain ⟨hs,rfl,e2,e3⟩:=Kf _ _ _ al;have hl:hs.length=j:=by have:=congrArg gU e2;simpa [w3,gG j3] using this
  nofun;refine ⟨⟨hs,rfl,by omega,by omega,by rw [e2];exact wn.sublist (iY ..),fun h hh=>⟨wm _ ?_,e3 h hh⟩⟩,rfl⟩;have:h.1∈ws.take j:=by rw [<- e2];exact bZ (f:=fun h:Str×Nat=>h.1) hh
  exact cT this
end
structure EsOk (hs:List (Str×Nat)) (es:List Er):Prop where
 hd:HdOk hs
 eq:es.map (fun p=>(p.1,p.2.1.length))=hs
 ok:∀ p∈es,ErOk (C0 hs) p.1 p.2.1 p.2.2
noncomputable abbrev zfF:List D:=[.str "x",.str "xy",.str "set",.str "abcdefgh",.str "end",.str "q"]
theorem zep {v:Int}(h0:0<=v) (h1:v < 6):∃ ns:List Str,opD .Add (.lst (cutD zfF (some v) none)) (.lst (cutD zfF none (some v)))=some (LS ns,true)/\cutD (ns.map D.str) none (some 3)=(ns.take 3).map D.str/\NsOk (ns.take 3)/\(ns.take 3).Nodup/\(ns.take 3).length=3:=by
 have k:∀ ns:List Str,(decide ((0 < ns.length)/\ns.length<=6/\(∀ s∈ns,s∈menu))=true)->NsOk ns:=fun ns h=>⟨(of_decide_eq_true h).1,(of_decide_eq_true h).2.1,(of_decide_eq_true h).2.2⟩
 have hc:v=0\/v=1\/v=2\/v=3\/v=4\/v=5:=by omega
 rcases hc with rfl | rfl | rfl | rfl | rfl | rfl
 ·exact ⟨["x","xy","set","abcdefgh","end","q"],rfl,rfl,k _ (by decide +kernel),by decide +kernel,rfl⟩
 ·exact ⟨["xy","set","abcdefgh","end","q","x"],rfl,rfl,k _ (by decide +kernel),by decide +kernel,rfl⟩
 ·exact ⟨["set","abcdefgh","end","q","x","xy"],rfl,rfl,k _ (by decide +kernel),by decide +kernel,rfl⟩
 ·exact ⟨["abcdefgh","end","q","x","xy","set"],rfl,rfl,k _ (by decide +kernel),by decide +kernel,rfl⟩
 ·exact ⟨["end","q","x","xy","set","abcdefgh"],rfl,rfl,k _ (by decide +kernel),by decide +kernel,rfl⟩
 ·exact ⟨["q","x","xy","set","abcdefgh","end"],rfl,rfl,k _ (by decide +kernel),by decide +kernel,rfl⟩
section
variable {xs:List Int}{K:Nat}{S:Store}
theorem KN (hx:0 < xs.length) (hK:20<=K):Sm K 38 [LI xs,.int 6,.int 3] (fun x=>∃ hs es,x=(prD es,.st)/\EsOk hs es) S:=by
 obtain ⟨K,hk,rfl⟩:=up hK;refine qY ?_;nofun;refine (zc1 hx (by omega)).go ?_;rintro _ ⟨hs,rfl,o⟩;have h3:=o.three;nofun;refine (zz hx (by decide) (by omega)).go ?_;rintro _ ⟨v,rfl,h0,h1⟩;obtain ⟨ns6,e3,e4,on,nn,n6⟩:=zep h0 h1;nofun;refine Wf e3 ?_;nofun;rw [e4];generalize ns6.take 3=ns at *;refine wp_walk (fun l ρ S'=>S'=S/\∃ (es:List Er) (r:List (Str×Nat)) (t:Int) (x6 x9 x10 x11:Slot),l=r.map hgD/\es.map (fun p=>(p.1,p.2.1.length))++r=hs/\(x6=.ow (LS ns)\/x6=.sh (LS ns))/\ρ=[.sh (LI xs),.sh (.int 6),.sh (.int 3),.sh (hsD hs),.ow (.lst zfF),.sh (.int v),x6,.sh (.int t),.ow (.lst (es.map erD)),x9,x10,x11]/\∀ p∈es,ErOk (C0 hs) p.1 p.2.1 p.2.2) ?_ ?_ _ _ _
  ⟨rfl,[],hs,_,_,.no,.no,.no,rfl,rfl,.inl rfl,rfl,by simp⟩
 ·rintro d l ρ S' ⟨rfl,es,r,t,x6,x9,x10,x11,el,eh,h6,rfl,he⟩;cases r with
  | nil=>cases el
  | cons h r=>
   obtain ⟨rfl,rfl⟩:=List.cons.inj el;obtain ⟨f,c⟩:=h;have hm:(f,c)∈hs:=by rw [<- eh];exact Υ _ θ
   obtain ⟨hf,hc⟩:=o.ok _ hm;have hc:c<=3:=hc;have ec:cutD (ns.map D.str) none (some (c:Int))=(ns.take c).map D.str:=by rw [WT (by simp;omega),<- mU]
   have hel:es.length+(r.length+1)<=3:=by have:=congrArg gU eh;simp at this;omega
   rcases h6 with rfl | rfl <;>
   ·nofun;rw [ec];refine (zbo hx on o.hs (by omega)).go ?_;rintro _ ⟨b,p,m,rfl,m24,hb⟩;nofun;refine ⟨rfl,es++[(f,ns.take c,b)],r,p,_,_,_,_,rfl,?_,.inr rfl,by rw [aH];rfl,fun q hq=>?_⟩
    ·rw [<- eh];simp [n6];omega
    ·rcases Ζ.mp hq with hq | hq
     ·exact he q hq
     ·rw [μ.mp hq];exact ⟨ziN f hf,by simp;omega,fun s hs=>on.mem s (cT hs),nn.sublist (iY ..),m,m24,hb⟩
 ·rintro ρ S' ⟨rfl,es,r,t,x6,x9,x10,x11,el,eh,h6,rfl,he⟩;cases r with
  | cons=>cases el
  | nil=>
   rw [Δ] at eh;nofun;exact ⟨⟨hs,es,rfl,o,eh,he⟩,rfl⟩
end
theorem YD:∀ s∈menu,wdS s=true:=by decide +kernel
theorem YF:∀ s∈menu,plD (.str s)=true:=by decide +kernel
theorem zjA:∀ s∈sgL,XD (.str s)=true/\plD (.str s)=true:=by decide +kernel
theorem zgC:∀ s∈whoL,plD (.str s)=true:=by decide +kernel
theorem Qs {s:Str}(h:wdS s=true):plD (.str s)=true:=by
 unfold wdS at h;obtain ⟨h,h3⟩:=ε.mp h;obtain ⟨h1,h2⟩:=ε.mp h;have h2:=of_decide_eq_true h2;show (decide (s.length<=1000)&&decide (s.cps.toList.length<=1000))=true
 have e:s.cps.toList.length=s.length:=rfl;rw [e,decide_eq_true (by omega)];rfl
theorem uK {a b m:List Str}(ha:∀ s∈a,s∈m) (hb:∀ s∈b,s∈m):∀ s∈a++b,s∈m:=fun s h=>(Ζ.mp h).elim (ha s) (hb s)
theorem wA:∀ {k:Nat}{d:D},Fm k d->fmlD k d=true/\plD d=true/\∀ s∈fnD k d,s∈menu:=by
 intro k d h
 induction h with
 | @nm k s h=>
  have e:fnD k (.str s)=[s]:=by cases k <;> rfl
  refine ⟨?_,YF s h,by rw [e];exact fun x hx=>by rw [μ.mp hx];exact h⟩;have hw:zB (.str s)=true:=YD s h;cases k with
  | zero=>show (numD (.str s)||zB (.str s))=true;rw [hw,lg]
  | succ k=>show ((numD (.str s)||zB (.str s))||_)=true;rw [hw,lg,gk]
 | @num k i h=>
  have e:fnD k (.int i)=[]:=by cases k <;> rfl
  have hn:numD (.int i)=true:=by
   show (decide (0<=i)&&decide (i < 1000000007))=true
   rw [decide_eq_true h.1,decide_eq_true h.2];rfl
  refine ⟨?_,rfl,by rw [e];exact fun x hx=>by cases hx⟩;cases k with
  | zero=>show (numD (.int i)||zB (.int i))=true;rw [hn,gk]
  | succ k=>show ((numD (.int i)||zB (.int i))||_)=true;rw [hn,gk,gk]
 | @op k g a b hg ha hb iha ihb=>
  obtain ⟨a1,a2,a3⟩:=iha;obtain ⟨b1,b2,b3⟩:=ihb;obtain ⟨g1,g2⟩:=zjA g hg;refine ⟨?_,?_,uK a3 b3⟩
  ·show ((numD (.tup [.str g,a,b])||zB (.tup [.str g,a,b]))||(XD (.str g)&&(fmlD k a&&fmlD k b)))=true
   rw [g1,a1,b1];rfl
  ·show (plD (.str g)&&(plD a&&(plD b&&true)))=true
   rw [g2,a2,b2];rfl
theorem Wm {d:D}(h:NmO d):wonD d=true/\plD d=true/\(∀ s∈txs [d],s∈menu):=by
 rcases h with rfl | ⟨s,hs,rfl⟩
 ·exact ⟨rfl,rfl,fun s h=>by cases h⟩
 ·exact ⟨YD s hs,YF s hs,fun x hx=>by rw [μ.mp hx];exact hs⟩
theorem zao:∀ {l:List D},(∀ d∈l,plD d=true)->plDs l=true
 | [],_=>rfl
 | d::l,h=>by
  show (plD d&&plDs l)=true
  rw [h d θ,zao fun x hx=>h x (ι _ hx)];rfl
theorem xj {l:List D}(hl:l.length<=1000) (h:∀ d∈l,plD d=true):plD (.tup l)=true:=by
 show (decide (l.length<=1000)&&plDs l)=true
 rw [decide_eq_true hl,zao h];rfl
theorem Jx {l:List D}(hl:l.length<=1000) (h:∀ d∈l,plD d=true):plD (.lst l)=true:=by
 show (decide (l.length<=1000)&&plDs l)=true
 rw [decide_eq_true hl,zao h];rfl
theorem Jc {l:List D}{a b:Int}(h1:a<=l.length) (h2:(l.length:Int)<=b):tupD (.tup l) a b=true:=by
 show (decide (a<=l.length)&&decide ((l.length:Int)<=b))=true
 rw [decide_eq_true h1,decide_eq_true h2];rfl
def CtD (C:Str->Nat->Prop) (ks:List Key) (ns:List Int):Prop:=∀ f c,C f c->cntK ks ns f=some (c:Int)
section
variable {C:Str->Nat->Prop}{d:D}{ks:List Key}{ns:List Int}
theorem J7 (h:Brn C d):plD d=true/\(CtD C ks ns->brnD ks ns d=true)/\(∀ s∈txs [h0 d],s∈menu)/\(∀ e∈brF d,∀ s∈fnD 3 e,s∈menu):=by
  cases h with
  | @ask n e w hn hw he=>
    obtain ⟨n1,n2,n3⟩:=Wm hn;obtain ⟨e1,e2,e3⟩:=wA he;refine ⟨?_,fun _=>?_,n3,fun x hx=>by rw [μ.mp (show x∈[e] from hx)];exact e3⟩
    · show (plD n&&(plD (.str "ask")&&(plD (.str w)&&(plD e&&true))))=true
      rw [n2,zgC w hw,e2];rfl
    · show (wonD n&&(wdS w&&fmlD 3 e))=true
      rw [n1,zgB w hw,e1];rfl
  | @call n f l hn hf hc h3 he=>
    obtain ⟨n1,n2,n3⟩:=Wm hn;refine ⟨?_,fun c=>?_,n3,fun x hx=>(wA (he x hx)).2.2⟩
    · show (plD n&&(plD (.str "call")&&(plD (.str f)&&(plD (.tup l)&&true))))=true
      rw [n2,Qs hf,xj (by omega) fun x hx=>(wA (he x hx)).2.1];rfl
    · show (wonD n&&(wdS f&&(true&&jz ks ns (.str f) (.tup l))))=true
      have ec:jz ks ns (.str f) (.tup l)=true:=by
        show (match cntK ks ns f with
          | some n=>tupD (.tup l) n n&&l.all (fmlD 3)
          | none=>false)=true
        rw [c f _ hc];show (tupD (.tup l) l.length l.length&&l.all (fmlD 3))=true
        rw [Jc (Int.le_refl _) (Int.le_refl _),ϖ,ν];exact fun x hx=>(wA (he x hx)).1
      rw [n1,hf,ec];rfl
theorem zb8 (d:D) (l:List D):txs (d::l)=txs [d]++txs l:=by cases d <;> rfl
theorem Qz {g:D->D}{m:List Str}:∀ {l:List D},(∀ d∈l,∀ s∈txs [g d],s∈m)->∀ s∈txs (l.map g),s∈m
 | [],_=>fun s h=>by cases h
 | d::l,h=>by rw [ϒ,zb8];exact uK (h d θ) (Qz fun x hx=>h x (ι _ hx))
end
def Ar (C:Str->Nat->Prop) (u:Bool) (r:D):Prop:=∃ n v a,n<=3/\(u=true->v=true)/\RwB C (Bk C n) v a r
section
variable {C:Str->Nat->Prop}{n:Nat}{u:Bool}{a:Nat}{r:D}
theorem Ar.up {v:Bool}(h:Ar C v r) (hu:u=true->v=true):Ar C u r:=by obtain ⟨n,w,a,h1,h2,h3⟩:=h;exact ⟨n,w,a,h1,fun e=>h2 (hu e),h3⟩
def BkF (C:Str->Nat->Prop) (n:Nat):Prop:=∀ (u:Bool) (m:Nat) (b:List D),Bk C n u m b->nest n (.tup b)=true/\plD (.tup b)=true/\(zK n (.tup b)).length=m/\∀ r∈zK n (.tup b),Ar C u r
theorem zem {i:Int}{bs:List D}(h4:bs.length<=4) (hb:∀ b∈bs,Brn C b):plD (.tup [.str "want",.int i,.tup bs])=true:=by
 show (plD (.str "want")&&(plD (.int i)&&(plD (.tup bs)&&true)))=true
 rw [xj (by omega) fun x hx=>(J7 (ks:=[]) (ns:=[]) (hb x hx)).1];rfl
theorem rw2 {b b':List D}{v:Bool}{m m':Nat}(hB:BkF C n) (self:Ar C u r) (hs:zy r=true) (hk:blkD r=[.tup b,.tup b']) (hp:plD (.tup b)=true->plD (.tup b')=true->plD r=true) (hb:Bk C n u m b) (hb':Bk C n v m' b') (hv:u=true->v=true):zy r=true/\(blkD r).all (nest n)=true/\plD r=true/\(inR n r).length=m+m'+1/\∀ x∈inR n r,Ar C u x:=by
 obtain ⟨b1,b2,b3,b4⟩:=hB _ _ _ hb;obtain ⟨c1,c2,c3,c4⟩:=hB _ _ _ hb';have ei:inR n r=r::(zK n (.tup b)++zK n (.tup b')):=by unfold inR;rw [hk];simp
 refine ⟨hs,?_,hp b2 c2,?_,fun x hx=>?_⟩
 ·rw [hk,dj,dj,b1,c1];rfl
 ·rw [ei,Ϝ,ξ,b3,c3]
 ·rw [ei] at hx;rcases ψ.mp hx with rfl | hx
  ·exact self
  ·exact (Ζ.mp hx).elim (b4 x) fun h=>(c4 x h).up hv
theorem zj7 (hB:BkF C n) (h3:n<=3) (h:RwB C (Bk C n) u a r):zy r=true/\(blkD r).all (nest n)=true/\plD r=true/\(inR n r).length=a/\∀ x∈inR n r,Ar C u x:=by
 have self:Ar C u r:=⟨n,u,a,h3,id,h⟩
 have one:∀ {x:D},x∈[r]->Ar C u x:=fun hx=>by rw [μ.mp hx];exact self
 cases h with
 | @set _ s e hs he=>
  refine ⟨rfl,rfl,?_,rfl,fun x hx=>one hx⟩;show (plD (.str "set")&&(plD (.str s)&&(plD e&&true)))=true
  rw [YF s hs,(wA he).2.1];rfl
 | @tell _ e he=>
  refine ⟨rfl,rfl,?_,rfl,fun x hx=>one hx⟩;show (plD (.str "tell")&&(plD e&&true))=true
  rw [(wA he).2.1];rfl
 | @fail _ e he=>
  refine ⟨rfl,rfl,?_,rfl,fun x hx=>one hx⟩;show (plD (.str "fail")&&(plD e&&true))=true
  rw [(wA he).2.1];rfl
 | @give e he=>
  refine ⟨rfl,rfl,?_,rfl,fun x hx=>one hx⟩;show (plD (.str "give")&&(plD e&&true))=true
  rw [(wA he).2.1];rfl
 | @want _ i bs h1 h2 h4 hb=>exact ⟨rfl,rfl,zem h4 hb,rfl,fun x hx=>one hx⟩
 | @whl _ e a b he hb=>
  obtain ⟨b1,b2,b3,b4⟩:=hB _ _ _ hb;refine ⟨rfl,?_,?_,?_,fun x hx=>?_⟩
  ·show (nest n (.tup b)&&true)=true
   rw [b1];rfl
  ·show (plD (.str "while")&&(plD e&&(plD (.tup b)&&true)))=true
   rw [(wA he).2.1,b2];rfl
  ·show (zK n (.tup b)++[]).length+1=_
   rw [Δ,b3]
  ·rcases ψ.mp (show x∈_::(zK n (.tup b)++[]) from hx) with rfl | hx
   ·exact self
   ·rw [Δ] at hx;exact b4 x hx
 | @iff _ e a a' b b' he hb hb'=>
  exact rw2 hB self rfl rfl (fun p q=>by
   show (plD (.str "if")&&(plD e&&(plD (.tup b)&&(plD (.tup b')&&true))))=true
   rw [(wA he).2.1,p,q];rfl) hb hb' id
 | @tri _ m a a' b b' hn hb hb'=>
  exact rw2 hB self rfl rfl (fun p q=>by
   show (plD (.str "try")&&(plD (.tup b)&&(plD m&&(plD (.tup b')&&true))))=true
   rw [(Wm hn).2.1,p,q];rfl) hb hb' id
 | @doo _ a a' b b' hb hb'=>
  exact rw2 hB self rfl rfl (fun p q=>by
   show (plD (.str "do")&&(plD (.tup b)&&(plD (.tup b')&&true)))=true
   rw [p,q];rfl) hb hb' fun _=>rfl
theorem zhq (hB:BkF C n) (h3:n<=3) {m:Nat}{l:List D}(h:Rws (RwB C (Bk C n) u) m l):(l.all fun r=>zy r&&(blkD r).all (nest n))=true/\(∀ r∈l,plD r=true)/\(l.flatMap (inR n)).length=m/\∀ x∈l.flatMap (inR n),Ar C u x:=by
 induction h with
 | nil=>exact ⟨rfl,fun r h=>(by cases h),rfl,fun r h=>(by cases h)⟩
 | @cons a m d l h t ih=>
  obtain ⟨i1,i2,i3,i4⟩:=ih;obtain ⟨r1,r2,r3,r4,r5⟩:=zj7 hB h3 h;refine ⟨?_,fun x hx=>?_,?_,fun x hx=>?_⟩
  ·rw [dj,r1,r2,i1];rfl
  ·rcases ψ.mp hx with rfl | hx
   ·exact r3
   ·exact i2 x hx
  ·rw [ϣ,ξ,r4,i3]
  ·rw [ϣ] at hx;exact (Ζ.mp hx).elim (r5 x) (i4 x)
theorem UG:∀ n,n<=4->BkF C n
 | 0,_=>fun u m b h=>by obtain ⟨rfl,rfl⟩:=h;exact ⟨rfl,rfl,rfl,fun r h=>(by cases h)⟩
 | n+1,h4=>fun u m b h=>by
  obtain ⟨h8,h⟩:=h;obtain ⟨i1,i2,i3,i4⟩:=zhq (UG n (by omega)) (by omega) h;refine ⟨?_,xj (by omega) i2,i3,i4⟩;show (decide (b.length<=8)&&b.all fun r=>zy r&&(blkD r).all (nest n))=true
  rw [decide_eq_true h8,i1];rfl
theorem RwB.lift {B B':Bool->Nat->List D->Prop}(hB:∀ u m l,B u m l->B' u m l) {d:D}:RwB C B u a d->RwB C B' u a d
 | .set a b=>.set a b
 | .tell a=>.tell a
 | .fail a=>.fail a
 | .give a=>.give a
 | .want a b c d=>.want a b c d
 | .whl a b=>.whl a (hB _ _ _ b)
 | .iff a b c=>.iff a (hB _ _ _ b) (hB _ _ _ c)
 | .tri a b c=>.tri a (hB _ _ _ b) (hB _ _ _ c)
 | .doo a b=>.doo (hB _ _ _ a) (hB _ _ _ b)
theorem Rws.imp {R R':Nat->D->Prop}(h:∀ a d,R a d->R' a d) {m:Nat}{l:List D}(r:Rws R m l):Rws R' m l:=by
 induction r with
 | nil=>exact .nil
 | cons x t ih=>exact .cons (h _ _ x) ih
theorem Bk.up:∀ {n:Nat}{u:Bool}{m:Nat}{l:List D},Bk C n u m l->Bk C (n+1) u m l
 | 0,_,_,_,q=>by obtain ⟨rfl,rfl⟩:=q;exact ⟨Ϯ _,.nil⟩
 | n+1,_,_,_,q=>⟨q.1,q.2.imp fun _ _=>RwB.lift fun _ _ _=>Bk.up⟩
theorem Bk.to3 {m:Nat}{l:List D}(h3:n<=3) (h:Bk C n u m l):Bk C 3 u m l:=by
 have:n=0\/n=1\/n=2\/n=3:=by omega
 rcases this with rfl | rfl | rfl | rfl
 ·exact h.up.up.up
 ·exact h.up.up
 ·exact h.up
 ·exact h
variable {ks:List Key}{ns:List Int}
theorem zjg (h:Ar C u r) (hc:CtD C ks ns):rowD ks ns r=true:=by
 obtain ⟨n,v,a,h3,hu,h⟩:=h;cases h with
 | @set _ s e hs he=>
  show (wdS s&&fmlD 3 e)=true
  rw [YD s hs,(wA he).1];rfl
 | tell he=>exact (wA he).1
 | fail he=>exact (wA he).1
 | give he=>exact (wA he).1
 | whl he hb=>exact (wA he).1
 | iff he hb hb'=>exact (wA he).1
 | tri hn hb hb'=>exact (Wm hn).1
 | doo hb hb'=>rfl
 | @want _ i bs h1 h2 h4 hb=>
  show (tupD (.tup bs) 1 4&&(decide (1<=i)&&decide (i<=(bs.length:Int)))&&bs.all (brnD ks ns))=true
  rw [Jc (by omega) (by omega),decide_eq_true h1,decide_eq_true h2];show bs.all (brnD ks ns)=true
  rw [ν];exact fun x hx=>(J7 (hb x hx)).2.1 hc
theorem Ke (h:Ar C u r):∀ s∈nmR r,s∈menu:=by
 obtain ⟨n,v,a,h3,hu,h⟩:=h;have f1:∀ {e:D},Fm 3 e->∀ s∈[]++(fnD 3 e++[]),s∈menu:=fun he=>by rw [ϑ,Δ];exact (wA he).2.2
 cases h with
 | @set _ s e hs he=>
  show ∀ x∈[s]++(fnD 3 e++[]),x∈menu
  rw [Δ];exact uK (fun x hx=>by rw [μ.mp hx];exact hs) (wA he).2.2
 | tell he=>exact f1 he
 | fail he=>exact f1 he
 | give he=>exact f1 he
 | whl he hb=>exact f1 he
 | iff he hb hb'=>exact f1 he
 | @tri _ m _ _ _ _ hn hb hb'=>
  show ∀ s∈txs [m]++[],s∈menu
  rw [Δ];exact (Wm hn).2.2
 | doo hb hb'=>exact fun s hs=>by cases hs
 | @want _ i bs h1 h2 h4 hb=>
  show ∀ s∈txs (bs.map h0)++(bs.flatMap brF).flatMap (fnD 3),s∈menu
  refine uK (Qz fun x hx=>(J7 (ks:=[]) (ns:=[]) (hb x hx)).2.2.1) fun s hs=>?_
  obtain ⟨e,he,hs⟩:=ϋ.mp hs;obtain ⟨x,hx,he⟩:=ϋ.mp he;exact (J7 (ks:=[]) (ns:=[]) (hb x hx)).2.2.2 e he s hs
theorem zgs (h:Ar C true r):isG r=false:=by obtain ⟨n,v,a,h3,hu,h⟩:=h;cases hu rfl;cases h <;> rfl
theorem zk9 (h:Ar C u r):doG r=false:=by
 obtain ⟨n,v,a,h3,hu,h⟩:=h;cases h with
 | @doo _ _ a' b b' hb hb'=>
  show givD 3 (.tup b')=false
  obtain ⟨_,_,_,h⟩:=UG 3 (by decide) _ _ _ (hb'.to3 h3);cases e:givD 3 (.tup b') with
  | false=>rfl
  | true=>
   obtain ⟨x,hx,q⟩:=Ϧ.mp e;rw [zgs (h x hx)] at q;cases q
 | _=>rfl
end
theorem zdX:∀ {l m:List Str},l.Nodup->(∀ x∈l,x∈m)->l.length<=m.length
 | [],m,_,_=>Ϯ _
 | x::l,m,hn,hs=>by
  obtain ⟨h1,h2⟩:=bf.mp hn;have hx:=hs x θ;have:=zdX (l:=l) (m:=m.erase x) h2 fun y hy=>(List.mem_erase_of_ne (fun (e:y=x)=>h1 (by rw [<- e];exact hy))).mpr (hs y (ι _ hy))
  rw [List.length_erase_of_mem hx] at this;have:=List.length_pos_of_mem hx;simp;omega
theorem VL:∀ (ks acc m:List Str),acc.Nodup->(∀ x∈acc,x∈m)->(∀ x∈ks,x∈m)->(ks.foldl (fun l x=>if x∈l then l else l++[x]) acc).Nodup/\∀ x∈ks.foldl (fun l x=>if x∈l then l else l++[x]) acc,x∈m
 | [],acc,m,h1,h2,_=>⟨h1,h2⟩
 | k::ks,acc,m,h1,h2,h3=>by
  rw [gF];have h4:=fun x hx=>h3 x (ι _ hx)
  by_cases h:k∈acc
  ·rw [if_pos h];exact VL ks acc m h1 h2 h4
  ·rw [if_neg h];refine VL ks _ m ?_ (fun x hx=>(Ζ.mp hx).elim (h2 x) (fun e=>by rw [μ.mp e];exact h3 k θ)) h4;rw [bL];exact ⟨h1,by simp,fun a ha b hb e=>h (by rw [<- μ.mp hb,<- e];exact ha)⟩
theorem Yv {ks m:List Str}(h:∀ x∈ks,x∈m):(yo ks).length<=m.length:=by obtain ⟨h1,h2⟩:=VL ks [] m gR (fun x hx=>by cases hx) h;exact zdX (m:=m) h1 h2
theorem Wh:∀ (ks acc:List Str),(acc++ks).Nodup->ks.foldl (fun l x=>if x∈l then l else l++[x]) acc=acc++ks
 | [],acc,_=>by simp
 | k::ks,acc,h=>by
  rw [gF,if_neg (fun hk=>by
   rw [bL] at h
   exact h.2.2 k hk k θ rfl),Wh ks _ (by simpa using h)]
  simp
theorem Yh:∀ ps:List Str,txs (ps.map D.str)=ps
 | []=>rfl
 | p::ps=>congrArg (p::·) (Yh ps)
section
variable {C:Str->Nat->Prop}{t:Str}{ps:List Str}{b:List D}{ks:List Key}{ns:List Int}
theorem Qp (h:∀ s∈ps,s∈menu):(ps.map D.str).all zB=true:=by rw [ν];intro x hx;obtain ⟨s,hs,rfl⟩:=Ο.mp hx;exact YD s (h s hs)
theorem zhS (h3:ps.length<=3) (hm:∀ s∈ps,s∈menu) (hn:ps.Nodup):parD (.tup (ps.map D.str))=true:=by
 show (tupD (.tup (ps.map D.str)) 0 3&&((ps.map D.str).all zB&&((yo (txs (ps.map D.str))).length:Int)==((ps.map D.str).length:Int)))=true
 have e:yo ps=ps:=by simpa [yo] using Wh ps [] (by simpa using hn)
 rw [Jc (by omega) (by rw [υ];omega),Qp hm,Yh,e,υ];simp
theorem zkL (o:ErOk C t ps b):hdD (er t ps b)=true:=by
 show (wdS t&&parD (.tup (ps.map D.str)))=true
 rw [o.wd,zhS o.ps3 o.psm o.psn];rfl
theorem ze5 (hm:∀ s∈ps,s∈menu) (h3:ps.length<=3):plD (.tup (ps.map D.str))=true:=xj (by rw [υ];omega) fun d hd=>by obtain ⟨s,hs,rfl⟩:=Ο.mp hd;exact YF s (hm s hs)
theorem zfW (o:ErOk C t ps b):plD (er t ps b)=true:=by
 obtain ⟨m,hm,hb⟩:=o.bk;show (plD (.str t)&&(plD (.tup (ps.map D.str))&&(plD (.tup b)&&true)))=true
 rw [Qs o.wd,ze5 o.psm o.ps3,(UG 4 (by decide) _ _ _ hb).2.1];rfl
theorem JW (o:ErOk C t ps b):∀ s∈nms (.tup (ps.map D.str)) (.tup b),s∈menu:=by
 obtain ⟨m,hm,hb⟩:=o.bk;obtain ⟨b1,b2,b3,b4⟩:=UG 4 (by decide) _ _ _ hb;refine uK (by show ∀ s∈txs (ps.map D.str),s∈menu;rw [Yh];exact o.psm) fun s hs=>?_
 obtain ⟨r,hr,hs⟩:=ϋ.mp hs;exact Ke (b4 r hr) s hs
theorem ziW (o:ErOk C t ps b):EF ks ns (er t ps b):=by intro n p b' e _;cases e;exact eY (Yv (JW o)) (by decide)
theorem zfX (o:ErOk C t ps b) (hc:CtD C ks ns):wU ks ns (er t ps b)=true:=by
 obtain ⟨m,hm,hb⟩:=o.bk;obtain ⟨b1,b2,b3,b4⟩:=UG 4 (by decide) _ _ _ hb;show wV ks ns (.tup (ps.map D.str)) (.tup b)=true
 have e1:(zK 4 (.tup b)).all (rowD ks ns)=true:=ν.mpr fun r hr=>zjg (b4 r hr) hc
 have e2:(zK 4 (.tup b)).any doG=false:=by
  cases e:(zK 4 (.tup b)).any doG with
  | false=>rfl
  | true=>
   obtain ⟨r,hr,q⟩:=Ϧ.mp e;rw [zk9 (b4 r hr)] at q;cases q
 have e3:(yo (nms (.tup (ps.map D.str)) (.tup b))).length<=6:=Yv (JW o);unfold wV vW;rw [b1,e1,e2,decide_eq_true e3,decide_eq_true (by omega)];rfl
end
noncomputable def nmH (e:D):Str:=match tri3 e with
 | some t=>nmT t.1
 | none=>""
noncomputable def ctH (e:D):Int:=match tri3 e with
 | some t=>((items t.2.1).length:Int)
 | none=>0
theorem ji {ks:List Key}{ns:List Int}{f:Str}:yZ ks (.inr f)=none->cntK ks ns f=none:=fun h=>by unfold cntK;rw [h];rfl
theorem find_none {t:Key}:∀ {ks:List Key},t ∉ ks->yZ ks t=none
 | [],_=>rfl
 | p::ks,h=>by
  show (if p=t then some 0 else (yZ ks t).map (·+1))=none
  rw [if_neg (fun e=>h (by rw [<- e];exact θ)),find_none (fun q=>h (ι _ q))];rfl
theorem zc6 {t:Key}{ks:List Key}(h:t∈ks):∃ i,yZ ks t=some i:=by
 induction ks with
 | nil=>cases h
 | cons p ks ih=>
  show ∃ i,(if p=t then some 0 else (yZ ks t).map (·+1))=some i
  by_cases e:p=t
  ·rw [if_pos e];exact ⟨0,rfl⟩
  ·rw [if_neg e];rcases ψ.mp h with h | h
   ·exact absurd h.symm e
   ·obtain ⟨i,hi⟩:=ih h;rw [hi];exact ⟨i+1,rfl⟩
theorem jN:∀ {l:List D}{ks:List Key}{ns:List Int}{q:List Key×List Int},ks.length=ns.length->hdsD l ks ns=some q->(∀ e∈l,hdD e=true/\bc (nmH e) ∉ ks)/\(l.map nmH).Nodup/\q=(ks++l.map (fun e=>bc (nmH e)),ns++l.map ctH)
 | [],ks,ns,q,_,h=>by have h:some (ks,ns)=some q:=h;cases h;exact ⟨fun e h=>(by cases h),gR,by simp⟩
 | e::l,ks,ns,q,hl,h=>by
  unfold hdsD at h;cases ht:tri3 e with
  | none=>rw [ht] at h;cases h
  | some t=>
   rw [ht] at h;dsimp only at h;have en:nmH e=nmT t.1:=by unfold nmH;rw [ht]
   have ec:ctH e=((items t.2.1).length:Int):=by unfold ctH;rw [ht]
   rw [<- en,<- ec] at h;cases hb:(hdD e&&!(cntK ks ns (nmH e)).isSome) with
   | false=>rw [hb] at h;cases h
   | true=>
    rw [hb] at h;obtain ⟨h1,h2⟩:=ε.mp hb;have h2:(cntK ks ns (nmH e)).isSome=false:=by simpa using h2
    have h3:bc (nmH e) ∉ ks:=fun hm=>by obtain ⟨i,hi⟩:=zc6 hm;have:=zby hl h2;rw [Y4,hi] at this;cases this
    obtain ⟨i1,i2,i3⟩:=jN (by simp [hl]) (show hdsD l _ _=some q from h);refine ⟨fun x hx=>?_,?_,by rw [i3];simp⟩
    ·rcases ψ.mp hx with rfl | hx
     ·exact ⟨h1,h3⟩
     ·exact ⟨(i1 x hx).1,fun hm=>(i1 x hx).2 (bM _ hm)⟩
    ·rw [ϒ,bf];refine ⟨fun hm=>?_,i2⟩;obtain ⟨x,hx,ex⟩:=Ο.mp hm;exact (i1 x hx).2 (Υ _ (by rw [ex];exact θ))
theorem zbg:∀ {l:List D}{ks:List Key}{ns:List Int},ks.length=ns.length->(∀ e∈l,hdD e=true/\bc (nmH e) ∉ ks)->(l.map nmH).Nodup->hdsD l ks ns=some (ks++l.map (fun e=>bc (nmH e)),ns++l.map ctH)
 | [],ks,ns,_,_,_=>by show some (ks,ns)=_;simp
 | e::l,ks,ns,hl,h,hn=>by
  obtain ⟨h1,h2⟩:=h e θ;obtain ⟨t,ps,b,rfl,_,_⟩:=zbh h1;obtain ⟨n1,n2⟩:=bf.mp (show (nmH (.tup [.str t,.tup ps,b])::l.map nmH).Nodup from hn);have hc:cntK ks ns t=none:=ji (find_none h2);show (if hdD (.tup [.str t,.tup ps,b])&&!(cntK ks ns t).isSome then hdsD l (ks++[.inr t]) (ns++[(ps.length:Int)]) else none)=_
  rw [h1,hc];show hdsD l (ks++[.inr t]) (ns++[(ps.length:Int)])=_
  rw [zbg (by simp [hl]) (fun x hx=>⟨(h x (ι _ hx)).1,fun hm=>?_⟩) n2]
  ·simp;exact ⟨rfl,rfl⟩
  ·rcases Ζ.mp hm with hm | hm
   ·exact (h x (ι _ hx)).2 hm
   ·have:=iV (μ.mp hm);exact n1 (by show t∈_;rw [<- this];exact bZ hx)
noncomputable def kH (hs:List (Str×Nat)):List Key:=hs.map fun h=>.inr h.1
noncomputable def nH (hs:List (Str×Nat)):List Int:=hs.map fun h=>(h.2:Int)
theorem zbx {f:Str}{c:Nat}:∀ {hs:List (Str×Nat)},(hs.map fun h=>h.1).Nodup->(f,c)∈hs->cntK (kH hs) (nH hs) f=some (c:Int)
 | [],_,h=>by cases h
 | q::hs,hn,h=>by
  obtain ⟨h1,h2⟩:=bf.mp (show (q.1::hs.map fun h=>h.1).Nodup from hn);show (if (bc q.1:Key)=.inr f then some 0 else (yZ (kH hs) (.inr f)).map (·+1)).bind (fun i=>(nH (q::hs))[i]?)=_
  rcases ψ.mp h with rfl | h
  ·rw [if_pos rfl];rfl
  ·rw [if_neg (fun z=>h1 (by rw [iV z];exact bZ (f:=fun h:Str×Nat=>h.1) h))];have:=zbx h2 h;unfold cntK at this;cases q:yZ (kH hs) (.inr f) with
   | none=>rw [q] at this;cases this
   | some i=>rw [q] at this;exact this
theorem zi7 {f:Str}{hs:List (Str×Nat)}(h:f ∉ hs.map fun h=>h.1):cntK (kH hs) (nH hs) f=none:=ji (find_none fun hm=>by
 obtain ⟨q,hq,e⟩:=Ο.mp hm
 exact h (by rw [<- iV e];exact bZ (f:=fun h:Str×Nat=>h.1) hq))
def PF (d:D):Prop:=∀ es,d=.tup es->es.length<=6->∀ ks ns,hdsD es [] []=some (ks,ns)->(∀ n∈ns,n<=3)->∀ e∈es,EF ks ns e
structure Bad (d:D):Prop where
 pl:plD d=true
 no:VG d=false
 pf:PF d
theorem J8 {es:List D}(hl:es.length<=1000) (hp:∀ e∈es,plD e=true) (h:hdsD es [] []=none):Bad (.tup es):=by
  refine ⟨xj hl hp,?_,?_⟩
  · show (tupD (.tup es) 1 6&&(match hdsD es [] [] with
      | some q=>es.all (wU q.1 q.2)
      | none=>false))=false
    rw [h,Τ]
  · intro es' e _ ks ns h';cases e;rw [h] at h';cases h'
theorem zeg {es:List D}{e:D}(hl:es.length<=1000) (hp:∀ e∈es,plD e=true) (hm:e∈es) (h:hdD e=false):Bad (.tup es):=J8 hl hp (by
 cases z:hdsD es [] [] with
 | none=>rfl
 | some q=>
  have:=((jN rfl z).1 e hm).1
  rw [h] at this;cases this)
theorem zbK {es:List D}(hl:es.length<=1000) (hp:∀ e∈es,plD e=true) (h:¬ (es.map nmH).Nodup):Bad (.tup es):=J8 hl hp (by
 cases z:hdsD es [] [] with
 | none=>rfl
 | some q=>exact absurd (jN rfl z).2.1 h)
theorem zdr {es:List D}(hl:es.length<=1000) (hp:∀ e∈es,plD e=true) (h:6 < es.length):Bad (.tup es):=by
 refine ⟨xj hl hp,?_,?_⟩
 ·have:tupD (.tup es) 1 6=false:=by
   show (decide ((1:Int)<=es.length)&&decide ((es.length:Int)<=6))=false
   rw [decide_eq_false (show ¬ (es.length:Int)<=6 by omega),Τ]
  show (tupD (.tup es) 1 6&&_)=false
  rw [this,ϧ]
 ·intro es' e h6;cases e;omega
theorem zje {d:D}(hp:plD d=true) (h:∀ l,d≠.tup l):Bad d:=by
 refine ⟨hp,?_,fun es e=>absurd e (h es)⟩;cases d with
 | tup l=>exact absurd rfl (h l)
 | _=>rfl
theorem J9 {es:List D}{e:D}(hl:es.length<=1000) (hp:∀ e∈es,plD e=true) (hm:e∈es) (h:∀ ks ns,hdsD es [] []=some (ks,ns)->wU ks ns e=false/\∀ x∈es,EF ks ns x):Bad (.tup es):=by
  refine ⟨xj hl hp,?_,?_⟩
  · show (tupD (.tup es) 1 6&&(match hdsD es [] [] with
      | some q=>es.all (wU q.1 q.2)
      | none=>false))=false
    cases z:hdsD es [] [] with
    | none=>exact Τ _
    | some q=>
      obtain ⟨ks,ns⟩:=q;have h:=(h ks ns z).1;have:es.all (wU ks ns)=false:=by
        cases y:es.all (wU ks ns) with
        | false=>rfl
        | true=>rw [ν.mp y e hm] at h;cases h
      show (_&&es.all (wU ks ns))=false
      rw [this,Τ]
  · intro es' e' _ ks ns z _;cases e';exact (h ks ns z).2
section
variable {hs:List (Str×Nat)}{es:List Er}
theorem EsOk.names (o:EsOk hs es):(es.map erD).map nmH=hs.map fun h=>h.1:=by rw [<- o.eq,bA,bA];rfl
theorem EsOk.keys (o:EsOk hs es):(es.map erD).map (fun e=>(bc (nmH e):Key))=kH hs:=by unfold kH;rw [<- o.eq,bA,bA];rfl
theorem EsOk.cnts (o:EsOk hs es):(es.map erD).map ctH=nH hs:=by
 unfold nH;rw [<- o.eq,bA,bA];refine eE fun p _=>?_
 show ((p.2.1.map D.str).length:Int)=_
 rw [υ];rfl
theorem EsOk.ct (o:EsOk hs es):CtD (C0 hs) (kH hs) (nH hs):=fun f c h=>zbx o.hd.nd h
theorem EsOk.len (o:EsOk hs es):es.length=hs.length:=by rw [<- o.eq,υ]
theorem zfb (o:EsOk hs es):plD (prD es)=true/\VG (prD es)=true/\PF (prD es):=by
  have l3:=o.hd.three;have l1:=o.hd.pos;have ol:=o.len;have hh:hdsD (es.map erD) [] []=some (kH hs,nH hs):=by
    rw [zbg rfl (fun e he=>?_) (by rw [o.names];exact o.hd.nd),o.keys,o.cnts]
    · rfl
    · obtain ⟨p,hp,rfl⟩:=Ο.mp he;exact ⟨zkL (o.ok p hp),fun h=>by cases h⟩
  refine ⟨xj (by rw [υ];omega) fun e he=>?_,?_,?_⟩
  · obtain ⟨p,hp,rfl⟩:=Ο.mp he;exact zfW (o.ok p hp)
  · show (tupD (.tup (es.map erD)) 1 6&&(match hdsD (es.map erD) [] [] with
      | some q=>(es.map erD).all (wU q.1 q.2)
      | none=>false))=true
    rw [hh,Jc (by rw [υ];omega) (by rw [υ];omega),ϖ];show (es.map erD).all (wU (kH hs) (nH hs))=true
    rw [ν];intro e he;obtain ⟨p,hp,rfl⟩:=Ο.mp he;exact zfX (o.ok p hp) o.ct
  · intro es' e _ ks ns _ _ x hx;cases e;obtain ⟨p,hp,rfl⟩:=Ο.mp hx;exact ziW (o.ok p hp)
end
noncomputable def okR (ks:List Key) (ns:List Int) (r:D):Bool:=zy r&&(blkD r).all (nest 3)&&rowD ks ns r
noncomputable def wraps (r:D):List D:=[r,.tup [.str "if",.int 1,.tup [r],.tup []],.tup [.str "try",.tup [],.non,.tup [r]],.tup [.str "do",.tup [r],.tup []],.tup [.str "while",.int 0,.tup [r]]]
theorem zgx {r r':D}(h:r'∈wraps r):r'=r\/.tup [r]∈blkD r':=by
 rcases ψ.mp h with h | h
 ·exact .inl h
 refine .inr ?_;rcases ψ.mp h with rfl | h
 ·exact (show D.tup [r]∈[.tup [r],.tup []] by simp)
 rcases ψ.mp h with rfl | h
 ·exact (show D.tup [r]∈[.tup [],.tup [r]] by simp)
 rcases ψ.mp h with rfl | h
 ·exact (show D.tup [r]∈[.tup [r],.tup []] by simp)
 ·cases μ.mp h;exact (show D.tup [r]∈[.tup [r]] by simp)
theorem zej {r r':D}(hp:plD r=true) (h:r'∈wraps r):plD r'=true:=by
 rcases ψ.mp h with rfl | h
 ·exact hp
 rcases ψ.mp h with rfl | h
 ·show (plD (.str "if")&&(plD (.int 1)&&((decide (1<=1000)&&(plD r&&true))&&(plD (.tup [])&&true))))=true
  rw [hp];rfl
 rcases ψ.mp h with rfl | h
 ·show (plD (.str "try")&&(plD (.tup [])&&(plD .non&&((decide (1<=1000)&&(plD r&&true))&&true))))=true
  rw [hp];rfl
 rcases ψ.mp h with rfl | h
 ·show (plD (.str "do")&&((decide (1<=1000)&&(plD r&&true))&&(plD (.tup [])&&true)))=true
  rw [hp];rfl
 ·cases μ.mp h;show (plD (.str "while")&&(plD (.int 0)&&((decide (1<=1000)&&(plD r&&true))&&true)))=true
  rw [hp];rfl
theorem zeZ {ks:List Key}{ns:List Int}{r r':D}{l:List D}(h:okR ks ns r=false) (hr:r'∈wraps r) (hm:r'∈l):vW ks ns (.tup l)=false:=by
 cases z:vW ks ns (.tup l) with
 | false=>rfl
 | true=>
  exfalso;unfold vW at z;obtain ⟨z1,z2⟩:=ε.mp z;obtain ⟨z1,_⟩:=ε.mp z1;obtain ⟨_,ha⟩:=ε.mp (show (decide (l.length<=8)&&l.all fun r=>zy r&&(blkD r).all (nest 3))=true from z1);obtain ⟨s1,s2⟩:=ε.mp (ν.mp ha r' hm);have z2:=ν.mp z2;have hin:∀ x∈inR 3 r',rowD ks ns x=true:=fun x hx=>z2 x (ϋ.mpr ⟨r',hm,hx⟩)
  have hok:okR ks ns r=true:=by
   unfold okR;rcases zgx hr with rfl | hb
   ·rw [s1,s2,hin r' θ];rfl
   ·have n3:=ν.mp s2 _ hb;obtain ⟨_,n3⟩:=ε.mp (show (decide (1<=8)&&((zy r&&(blkD r).all (nest 2))&&true))=true from n3);obtain ⟨n3,_⟩:=ε.mp n3;obtain ⟨n3,n4⟩:=ε.mp n3;have n5:(blkD r).all (nest 3)=true:=ν.mpr fun x hx=>YC.nest_up (ν.mp n4 x hx)
    rw [n3,n5,hin r (ι _ (ϋ.mpr ⟨_,hb,ϋ.mpr ⟨r,by exact θ,θ⟩⟩))];rfl
  rw [h] at hok;cases hok
theorem fc {p:D->Prop}{a:D}{l:List D}(h:p a) (t:∀ x∈l,p x):∀ x∈a::l,p x:=List.forall_mem_cons.2 ⟨h,t⟩
theorem fn0 {p:D->Prop}:∀ x∈([]:List D),p x:=fun _ h=>by cases h
noncomputable def badW (v:Int):List D:=[.bl true,.bl false,.int (-1 - v),.int (1000000007+v),.str "",.str "X",.str "abcdefghi",.str "x1",.non,.tup [],.tup [.str "+",.int 1],.tup [.str "/",.int 1,.int 2],
 .lst [.str "+",.int 1,.int 2],.tup [.str "+",.int 1,.int 2,.int 3],.tup [.int 1,.int 2,.int 3],.tup [.str "+-",.int 1,.int 2],.tup [.str "",.int 1,.int 2],.tup [.str "slot",.int 0],.tup [.str "+",.int 1,.non],
 .tup [.str "+",.bl true,.int 1],.tup [.str "-",.int 1,.tup [.str "*",.int 2,.bl false]],
 .tup [.str "*",.str "x y",.int 1],.tup [.str "+",.int 1,.tup [.str "=",.int 1,.tup [.str "*",.int 2,.tup [.str "-",.int 1,.int 1]]]],.tup [.str "<",.tup [.str "-",.tup [.str "-",.tup [.str "-",.int 1,.int 1],.int 1],.int 1],.int 1]]
noncomputable def bW (d:D):Bool:=plD d&&!fmlD 3 d
theorem zgm {v:Int}(h0:0<=v):∀ d∈badW v,bW d=true:=by
 intro d hd;have hi:∀ i:Int,(i < 0\/1000000007<=i)->bW (.int i)=true:=fun i h=>by
  have:numD (.int i)=false:=by
   show (decide (0<=i)&&decide (i < 1000000007))=false
   rcases h with h | h
   ·rw [decide_eq_false (by omega),ϧ]
   ·rw [decide_eq_false (show ¬ i < 1000000007 by omega),Τ]
  show (true&&!((numD (.int i)||false)||false))=true
  rw [this];rfl
 rcases ψ.mp hd with rfl | hd
 ·decide +kernel
 rcases ψ.mp hd with rfl | hd
 ·decide +kernel
 rcases ψ.mp hd with rfl | hd
 ·exact hi _ (.inl (by omega))
 rcases ψ.mp hd with rfl | hd
 ·exact hi _ (.inr (by omega))
 ·have:((badW 0).drop 4).all bW=true:=by decide +kernel
  exact ν.mp this d hd
noncomputable def badN:List D:=[.str "",.str "abcdefghi",.str "A",.str "xA",.str "x1",.str "x ",.str " x",.str "x.y",.int 5,.bl true,.tup [.str "x"],.lst [.str "x"]]
noncomputable def bN (d:D):Bool:=plD d&&!wonD d
theorem zgn:badN.all bN=true:=by decide +kernel
noncomputable abbrev telL (n:Int):List D:=(zV 0 n).map fun d=>.tup [.str "tell",d]
noncomputable def badB:List D:=[.lst [],.lst [.tup [.str "tell",.int 1]],.non,.str "tell",.int 0,.tup [.str "tell",.int 1],.tup [.int 5],.tup [.tup []],.tup [.non],.tup [.tup [.str "tell"]],.tup (telL 9),.tup [.str ""]]
noncomputable def bB (d:D):Bool:=plD d&&!nest 4 d
theorem zgp:badB.all bB=true:=by decide +kernel
noncomputable def badF:List D:=[.tup [.str "set",.str "x"],.tup [.str "set",.str "x",.int 1,.int 1],.tup [.str "tell"],.tup [.str "tell",.int 1,.int 1],.tup [.str "give"],.tup [.str "fail",.int 1,.tup []],.tup [.str "if",.int 1,.tup []],
 .tup [.str "if",.int 1,.tup [],.tup [],.tup []],.tup [.str "while",.int 1],.tup [.str "while",.int 1,.tup [],.tup []],.tup [.str "try",.tup [],.non],.tup [.str "try",.tup [],.tup []],
 .tup [.str "do",.tup []],.tup [.str "do",.tup [],.tup [],.tup []],.tup [.str "want",.int 1],.tup [.str "tells",.int 1],.tup [.str "",.int 1],.tup [.str "Tell",.int 1],.tup [.non,.int 1],.tup [.int 3,.int 1],
 .tup [.tup [.str "tell"],.int 1],.tup [.lst [.str "tell"],.int 1],.tup [],.lst [],.lst [.str "tell",.int 1],.str "tell",.non,.int 5,.bl true,
 .tup [.str "undo",.tup [],.tup []],.tup [.str "put",.int 0,.int 1]]
noncomputable def bF (d:D):Bool:=plD d&&!zy d
theorem zgo:badF.all bF=true:=by decide +kernel
section
variable {xs:List Int}{K:Nat}{S:Store}{a:Int}
theorem zbG (hx:0 < xs.length) (hK:2<=K):Sm K 39 [LI xs,.int a] (fun x=>∃ d,x=(d,.st)/\bW d=true) S:=by obtain ⟨K,hk,rfl⟩:=up hK;refine jn ?_;refine zu ?_;dsimp only [wpC,ym,wpEs,zG,vG,zW];nofun;refine (zaO hx hk).go ?_;rintro _ ⟨v,rfl,v0,_⟩;refine yN rfl (by dsimp only [Β]) ?_;refine zM ?_;refine yt (d:=.lst ((badW v).take 12)) (by kernel_rfl) rfl (by dsimp only [Β]) ?_;refine yt (d:=.lst ((badW v).take 19)) (by kernel_rfl) rfl (by dsimp only [Β]) ?_;refine yt (d:=.lst ((badW v).take 21)) (by kernel_rfl) rfl (by dsimp only [Β]) ?_;refine yt (d:=.lst (badW v)) (by kernel_rfl) rfl (by dsimp only [Β]) ?_;exact yM (l:=badW v) hx hk rfl rfl rfl (show 0 < 24 by decide) fun d hd=>⟨⟨d,rfl,zgm v0 d hd⟩,rfl⟩
theorem UJ (hx:0 < xs.length) (hK:2<=K):Sm K 40 [LI xs,.int a] (fun x=>∃ d,x=(d,.st)/\bN d=true) S:=by obtain ⟨K,hk,rfl⟩:=up hK;refine jW ?_;refine yt (d:=.lst badN) (by kernel_rfl) rfl (by dsimp only [Β]) ?_;exact yM (l:=badN) hx hk rfl rfl rfl (by decide) fun d hd=>⟨⟨d,rfl,ν.mp zgn d hd⟩,rfl⟩
theorem zgl (hx:0 < xs.length) (hK:2<=K):Sm K 43 [LI xs,.int a] (fun x=>∃ d,x=(d,.st)/\bF d=true) S:=by obtain ⟨K,hk,rfl⟩:=up hK;refine jX ?_;refine yt (d:=.lst (badF.take 7)) (by kernel_rfl) rfl (by dsimp only [Β]) ?_;refine yt (d:=.lst (badF.take 12)) (by kernel_rfl) rfl (by dsimp only [Β]) ?_;refine yt (d:=.lst (badF.take 20)) (by kernel_rfl) rfl (by dsimp only [Β]) ?_;refine yt (d:=.lst (badF.take 29)) (by kernel_rfl) rfl (by dsimp only [Β]) ?_;refine yt (d:=.lst badF) (by kernel_rfl) rfl (by dsimp only [Β]) ?_;exact yM (l:=badF) hx hk rfl rfl rfl (by decide) fun d hd=>⟨⟨d,rfl,ν.mp zgo d hd⟩,rfl⟩
theorem zbJ (hx:0 < xs.length) (hK:2<=K):Sm K 41 [LI xs,.int a] (fun x=>∃ d,x=(d,.st)/\bB d=true) S:=by
 obtain ⟨K,hk,rfl⟩:=up hK;refine jq ?_;refine zu ?_;dsimp only [wpC,e_bi];refine xG ?_;dsimp only [wpI,zW];nofun;refine xW (fun d=>.tup [.str "tell",d]) (zV 0 9) [] (by decide) (fun x hx Q hQ=>?_) ?_
 ·refine zQ rfl ?_;dsimp only [wpF,ux,zW,wpEs,zG,inn,nT,Κ,aN,Δ,Β];nofun;exact hQ
 rw [ϑ];refine zT (d:=.tup (telL 9)) rfl ?_;refine yN rfl (by dsimp only [Β]) ?_;refine zM ?_;refine yt (d:=.lst badB) (by kernel_rfl) rfl (by dsimp only [Β]) ?_;exact yM (l:=badB) hx hk rfl rfl rfl (by decide) fun d hd=>⟨⟨d,rfl,ν.mp zgp d hd⟩,rfl⟩
end
noncomputable def askD:D:=.tup [.non,.str "ask",.str "b",.int 1]
noncomputable def jR (f q:Str) (bs bn:D) (g:List D):List D:=[.tup [bn,.str "ask",.str "b",.int 1],.tup [.str "x",.str "ask",bn,.int 1],.tup [.str "x",.str "ask",.str "b",bs],.tup [.str "x",.str "ask",.non,.int 1],
 .tup [.str "x",.str "asks",.str "b",.int 1],.tup [.str "x",.non,.str "b",.int 1],.tup [.str "x",.str "ask",.str "b"],.tup [.str "x",.str "ask",.str "b",.int 1,.int 1],.non,.lst [],.tup [],
 .lst [.str "x",.str "ask",.str "b",.int 1],.tup [.non,.str "call",.str f,.tup (g++[.int 1])],.tup [.non,.str "call",.str f,.lst g],
 .tup [.non,.str "call",.str f,.non],.tup [.non,.str "call",.str "nobody",.tup []],.tup [.non,.str "call",bn,.tup []],
 .tup [.non,.str "call",.str q,.tup g],
 .tup [.non,.str "call",.str f,.tup (g.drop 1++[bs])],.tup [.non,.str "call",.str f,.int 1]]
noncomputable def zcX (f:Str) (g:List D):List D:=if g.isEmpty then [] else [.tup [.non,.str "call",.str f,.tup (g.drop 1)]]
theorem Z7 {d:D}(h:wonD d=false):zB d=false:=by
 cases d with
 | non=>cases h
 | _=>exact h
section
variable {ks:List Key}{ns:List Int}{f q:Str}{bs bn:D}{c:Nat}
def BrB (ks:List Key) (ns:List Int) (d:D):Prop:=plD d=true/\brnD ks ns d=false
theorem wQ {x:D}(h:jz ks ns (.str f) x=false):brnD ks ns (.tup [.non,.str "call",.str f,x])=false:=by
 show (true&&(wdS f&&(true&&jz ks ns (.str f) x)))=false
 rw [h,Τ,Τ];rfl
theorem vA {x:D}{n:Int}(h:cntK ks ns f=some n) (ht:(tupD x n n&&(items x).all (fmlD 3))=false):jz ks ns (.str f) x=false:=by
  show (match cntK ks ns f with
    | some n=>tupD x n n&&(items x).all (fmlD 3)
    | none=>false)=false
  rw [h];exact ht
theorem ZX {x:D}(h:cntK ks ns f=none):jz ks ns (.str f) x=false:=by
  show (match cntK ks ns f with
    | some n=>tupD x n n&&(items x).all (fmlD 3)
    | none=>false)=false
  rw [h]
theorem QK {l:List D}{n:Int}(h:(l.length:Int)≠n):tupD (.tup l) n n=false:=by
 show (decide (n<=l.length)&&decide ((l.length:Int)<=n))=false
 by_cases z:n<=(l.length:Int)
 ·rw [decide_eq_false (show ¬ (l.length:Int)<=n by omega),Τ]
 ·rw [decide_eq_false z,ϧ]
noncomputable abbrev yF (c:Nat):List D:=Κ c (.int 1)
theorem g_pl (c:Nat):∀ d∈yF c,plD d=true:=fun d hd=>by rw [mV hd];rfl
theorem pl4 {a b:D}(ha:plD a=true) (hb:plD b=true):plD (.tup [.non,.str "call",a,b])=true:=by
 show (true&&(plD (.str "call")&&(plD a&&(plD b&&true))))=true
 rw [ha,hb];rfl
theorem zb4 (h1:cntK ks ns f=some (c:Int)) (h2:cntK ks ns q=none) (h3:cntK ks ns "nobody"=none) (hf:plD (.str f)=true) (hq:plD (.str q)=true) (hs:bW bs=true) (hn:bN bn=true) (hc:c<=3):∀ d∈jR f q bs bn (yF c)++zcX f (yF c),BrB ks ns d:=by
 obtain ⟨s1,s2⟩:=ε.mp hs;have s2:fmlD 3 bs=false:=by simpa using s2
 obtain ⟨n1,n2⟩:=ε.mp hn;have n2:wonD bn=false:=by simpa using n2
 have n3:=Z7 n2;have gl:(yF c).length=c:=cI;have gp:=g_pl c;have g2:∀ d∈(yF c).drop 1,plD d=true:=fun d hd=>gp d (dY hd)
 have gt:plD (.tup (yF c))=true:=xj (by omega) gp;have hl:∀ d∈zcX f (yF c),BrB ks ns d:=by
  intro d hd;cases c with
  | zero=>cases hd
  | succ c=>
   cases μ.mp (show d∈[_] from hd);refine ⟨pl4 hf (xj (by rw [ϥ,gl];omega) g2),wQ (vA h1 ?_)⟩;rw [QK (by rw [ϥ,gl];omega)];rfl
 suffices hw:∀ d∈jR f q bs bn (yF c),BrB ks ns d from fun d hd=>(Ζ.mp hd).elim (hw d) (hl d)
 refine fc ?_ (fc ?_ (fc ?_ (fc ?_ (fc ?_ (fc ?_ (fc ?_ (fc ?_ (fc ?_ (fc ?_ (fc ?_ (fc ?_ (fc ?_ (fc ?_ (fc ?_ (fc ?_ (fc ?_ (fc ?_ (fc ?_ (fc ?_ fn0)))))))))))))))))))
 ·refine ⟨?_,?_⟩
  ·show (plD bn&&true)=true
   rw [n1];rfl
  ·show (wonD bn&&_)=false
   rw [n2];rfl
 ·refine ⟨?_,?_⟩
  ·show (true&&(true&&(plD bn&&true)))=true
   rw [n1];rfl
  ·show (wonD (.str "x")&&(zB bn&&_))=false
   rw [n3];exact Τ _
 ·refine ⟨?_,?_⟩
  ·show (true&&(true&&(true&&(plD bs&&true))))=true
   rw [s1];rfl
  ·show (wonD (.str "x")&&(zB (.str "b")&&fmlD 3 bs))=false
   rw [s2,Τ,Τ]
 ·exact ⟨rfl,by kernel_rfl⟩
 ·exact ⟨rfl,by kernel_rfl⟩
 ·exact ⟨rfl,by kernel_rfl⟩
 ·exact ⟨rfl,rfl⟩
 ·exact ⟨rfl,rfl⟩
 ·exact ⟨rfl,rfl⟩
 ·exact ⟨rfl,rfl⟩
 ·exact ⟨rfl,rfl⟩
 ·exact ⟨rfl,rfl⟩
 ·refine ⟨pl4 hf (xj (by rw [ξ,gl];simp;omega) fun d hd=>?_),wQ (vA h1 ?_)⟩
  ·rcases Ζ.mp hd with hd | hd
   ·exact gp d hd
   ·rw [μ.mp hd];rfl
  ·rw [QK (by rw [ξ,gl];simp;omega)];rfl
 ·exact ⟨pl4 hf (Jx (by omega) gp),wQ (vA h1 rfl)⟩
 ·exact ⟨pl4 hf rfl,wQ (vA h1 rfl)⟩
 ·exact ⟨rfl,wQ (ZX h3)⟩
 ·refine ⟨pl4 n1 rfl,?_⟩;show (true&&(zB bn&&_))=false
  rw [n3];rfl
 ·exact ⟨pl4 hq gt,wQ (ZX h2)⟩
 ·refine ⟨pl4 hf (xj (by rw [ξ,ϥ,gl];simp;omega) fun d hd=>?_),wQ (vA h1 ?_)⟩
  ·rcases Ζ.mp hd with hd | hd
   ·exact g2 d hd
   ·rw [μ.mp hd];exact s1
  ·have:(items (.tup ((yF c).drop 1++[bs]))).all (fmlD 3)=false:=by
    show ((yF c).drop 1++[bs]).all (fmlD 3)=false
    rw [List.all_append];show (_&&(fmlD 3 bs&&true))=false
    rw [s2];exact Τ _
   rw [this,Τ]
 ·exact ⟨pl4 hf rfl,wQ (vA h1 rfl)⟩
noncomputable def cntL:List (D×D):=[(.int 0,.tup [askD]),(.int 2,.tup [askD]),(.bl true,.tup [askD]),(.non,.tup [askD]),(.int (-1),.tup [askD]),(.int 5,.tup [askD,askD,askD,askD]),(.int 1,.tup []),(.int 0,.tup []),(.int 1,.tup [askD,askD,askD,askD,askD]),(.int 1,.lst [askD]),(.int 1,askD),(.int 1,.non)]
noncomputable def cntW:List D:=cntL.map fun p=>.tup [.str "want",p.1,p.2]
theorem zf7:(cntL.all fun p=>plD (.tup [.str "want",p.1,p.2])&&!(tupD p.2 1 4&&lstB p.1 (items p.2).length&&(items p.2).all fun d=>(quad d).isSome))=true:=by decide +kernel
def RwX (ks:List Key) (ns:List Int) (r:D):Prop:=plD r=true/\okR ks ns r=false
theorem wD {r:D}(hp:plD r=true) (h:rowD ks ns r=false):RwX ks ns r:=⟨hp,by unfold okR;rw [h,Τ]⟩
theorem zdi:∀ r∈cntW,RwX ks ns r:=fun r hr=>by
 obtain ⟨p,hp,rfl⟩:=Ο.mp hr;obtain ⟨h1,h2⟩:=ε.mp (ν.mp zf7 p hp);refine wD h1 ?_;show (tupD p.2 1 4&&lstB p.1 (items p.2).length&&(items p.2).all (brnD ks ns))=false
 cases z:(tupD p.2 1 4&&lstB p.1 (items p.2).length&&(items p.2).all (brnD ks ns)) with
 | false=>rfl
 | true=>
  obtain ⟨z1,z2⟩:=ε.mp z;have z3:((items p.2).all fun d=>(quad d).isSome)=true:=ν.mpr fun d hd=>by
   have:=ν.mp z2 d hd;unfold brnD at this;cases e:quad d with
   | none=>rw [e] at this;cases this
   | some _=>rfl
  rw [z1,z3] at h2;cases h2
theorem zjn {bs:List D}{d:D}(hd:d∈bs) (hp:∀ x∈bs,plD x=true) (hl:bs.length<=1000) (h:brnD ks ns d=false):RwX ks ns (.tup [.str "want",.int 1,.tup bs]):=by
 refine wD ?_ ?_
 ·show (plD (.str "want")&&(true&&(plD (.tup bs)&&true)))=true
  rw [xj hl hp];rfl
 ·show (tupD (.tup bs) 1 4&&lstB (.int 1) bs.length&&bs.all (brnD ks ns))=false
  have:bs.all (brnD ks ns)=false:=by
   cases z:bs.all (brnD ks ns) with
   | false=>rfl
   | true=>rw [ν.mp z d hd] at h;cases h
  rw [this,Τ]
end
section
variable {xs:List Int}{K:Nat}{S:Store}{a:Int}
theorem zac (d:D) (n:Int):(zV 0 n).map (fun _=>d)=Κ n.toNat d:=by rw [List.map_const',uM];simp
variable {hs:List (Str×Nat)}{ks:List Key}{ns:List Int}
theorem Xm {W:List D}{V:Po}{x4 x5 x6 x7 x8:Slot}(hx:0 < xs.length) (hK:1<=K) (h0:0 < W.length) (hW:∀ d∈W,BrB ks ns d) (q:∀ r,RwX ks ns r->V (r,.st) S):wpCs (za F wh K) noX wh (yr.drop 12) [.sh (LI xs),.sh (.int a),.sh (hsD hs),.sh askD,x4,x5,x6,x7,x8,.ow (.lst W),.no,.no] (told V) S:=by
 show wpCs _ _ _ [_,_,_,_,_,_,_] _ _ _
 refine yt (d:=.lst (cntW.take 4)) (by kernel_rfl) rfl (by dsimp only [Β]) ?_;refine yt (d:=.lst (cntW.take 8)) (by kernel_rfl) rfl (by dsimp only [Β]) ?_;refine yt (d:=.lst cntW) (by kernel_rfl) rfl (by dsimp only [Β]) ?_;refine zu ?_;dsimp only [wpC,vD,ym,wpEs,zG,zW];nofun;refine (zz hx (by decide) hK).go ?_;rintro _ ⟨v,rfl,v0,v1⟩;refine zE (show cmpD .Eq (.int v) (.int 0)=some (v==0) from rfl) ?_;refine Xf rfl ?_;refine zj (fun h=>?_) (fun h=>?_)
 ·exact yM (l:=cntW) hx hK rfl rfl rfl (by decide) fun d hd=>q d (zdi d hd)
 refine vP ?_;refine zM ?_;refine zu ?_;dsimp only [wpC];refine xG ?_;dsimp only [wpI,ym,wpEs,zG,zW,vG];nofun;refine (zz hx (by decide) hK).go ?_;rintro _ ⟨u,rfl,u0,u1⟩;nofun;refine yf (by simp [fits,LIM];omega) ?_;refine xW (fun _=>askD) (zV 0 u) [] (by rw [uM];simp;omega) (fun x hx Q hQ=>?_) ?_
 ·refine zQ rfl ?_;dsimp only [wpF,zG,inn,nT,Κ,aN,Δ,Β];nofun;exact hQ
 rw [ϑ,zac];have hal:(Κ u.toNat askD).length<=4:=by rw [cI];omega
 have hap:∀ x∈Κ u.toNat askD,plD x=true:=fun x hx=>by rw [mV hx];rfl
 generalize Κ u.toNat askD=A at hal hap ⊢;refine zQ rfl ?_;simp only [Β];refine zM ?_;refine zu ?_;dsimp only [wpC,ym,wpEs,zG,zW,vG,e_bi,vC];nofun;refine (zz hx (by omega) hK).go ?_;rintro _ ⟨i,rfl,i0,i1⟩;nofun;refine (zz hx (by omega) hK).go ?_;rintro _ ⟨j,rfl,j0,j1⟩;obtain ⟨d,hd,e⟩:=yG (l:=W) j0 j1;refine zE e ?_;nofun;have ei:insD A [.int i,d]=some (A.take i.toNat++d::A.drop i.toNat):=by
  show (if (decide (0<=i)&&decide (i<=A.length)&&fits (A.length+1))=true then some (A.take i.toNat++d::A.drop i.toNat) else none)=_
  rw [decide_eq_true i0,decide_eq_true (show i<=(A.length:Int) by omega),fits_of (by omega)];rfl
 refine zE ei ?_;refine zM ?_;simp only [Β];have el:(A.take i.toNat++d::A.drop i.toNat).length<=1000:=by rw [ξ,Ϝ,ϛ,ϥ];omega
 have em:d∈A.take i.toNat++d::A.drop i.toNat:=Υ _ θ;have ep:∀ x∈A.take i.toNat++d::A.drop i.toNat,plD x=true:=fun x hx=>by
  rcases Ζ.mp hx with hx | hx
  ·exact hap x (cT hx)
  ·rcases ψ.mp hx with rfl | hx
   ·exact (hW x hd).1
   ·exact hap x (dY hx)
 generalize A.take i.toNat++d::A.drop i.toNat=B at el em ep ⊢;nofun;exact q _ (zjn em ep el (hW d hd).2)
theorem q_at:∀ f∈hdL,∃ q:Str,opD .Add (.str f) (.str "q")=some (.str q,false)/\q ∉ hdL/\plD (.str q)=true:=by
  intro f hf
  have k:∀ f∈hdL,(match opD .Add (.str f) (.str "q") with
    | some (.str q,false)=>decide (q ∉ hdL)&&plD (.str q)
    | _=>false)=true:=by decide +kernel
  have:=k f hf;cases e:opD .Add (.str f) (.str "q") with
  | none=>rw [e] at this;cases this
  | some p=>
    obtain ⟨d,b⟩:=p;rw [e] at this;cases d with
    | str q=>
      cases b with
      | false=>
        obtain ⟨h1,h2⟩:=ε.mp this;exact ⟨q,rfl,of_decide_eq_true h1,h2⟩
      | true=>cases this
    | _=>cases this
theorem zkI:∀ f∈hdL,plD (.str f)=true:=by decide +kernel
theorem zaD:("nobody":Str) ∉ hdL:=by decide +kernel
theorem zdW (oh:HdOk hs) {q:Str}(h:q ∉ hdL):cntK (kH hs) (nH hs) q=none:=zi7 fun hm=>by obtain ⟨p,hp,rfl⟩:=Ο.mp hm;exact h (oh.ok p hp).1
theorem zb3 {f q:Str}{bs bn:D}{V:Po}{c:Nat}(cc:c=0\/c=1\/c=2\/c=3) (hx:0 < xs.length) (hK:1<=K) (eq:opD .Add (.str f) (.str "q")=some (.str q,false)) (hW:∀ d∈jR f q bs bn (yF c)++zcX f (yF c),BrB ks ns d) (z:∀ r,RwX ks ns r->V (r,.st) S):wpCs (za F wh K) noX wh (yr.drop 5) [.sh (LI xs),.sh (.int a),.sh (hsD hs),.sh askD,.sh (.str f),.sh (.int c),.sh (.tup (yF c)),.sh bs,.sh bn,.no,.no,.no] (told V) S:=by
 show wpCs _ _ _ [_,_,_,_,_,_,_,_,_,_,_,_,_,_] _ _ _
 refine yt (d:=.lst ((jR f q bs bn (yF c)).take 4)) (by kernel_rfl) rfl (by dsimp only [Β]) ?_;refine yt (d:=.lst ((jR f q bs bn (yF c)).take 11)) (by kernel_rfl) rfl (by dsimp only [Β]) ?_;refine yt (d:=.lst ((jR f q bs bn (yF c)).take 14)) (by rcases cc with rfl | rfl | rfl | rfl <;> kernel_rfl) rfl (by dsimp only [Β]) ?_;refine yt (d:=.lst ((jR f q bs bn (yF c)).take 17)) (by kernel_rfl) rfl (by dsimp only [Β]) ?_;refine Xj (l:=(jR f q bs bn (yF c)).take 17) rfl (zaP (xn rfl rfl (xn rfl rfl (xn (x:=(.str q,.st)) (by show (Option.map ofB (opD .Add (.str f) (.str "q")))=_;rw [eq];rfl) rfl (xn rfl rfl rfl)))) rfl) rfl rfl (by dsimp only [Β]) ?_;refine yt (d:=.lst (jR f q bs bn (yF c))) (by rcases cc with rfl | rfl | rfl | rfl <;> kernel_rfl) rfl (by dsimp only [Β]) ?_;refine Um (b:=decide ((0:Int) < c)) rfl (fun h=>?_) (fun _=>Xm (W:=jR f q bs bn (yF c)) hx hK (show 0 < 20 by decide) (fun d hd=>hW d (bM _ hd)) z);have h:=of_decide_eq_true h;have el:zcX f (yF c)=[.tup [.non,.str "call",.str f,.tup ((yF c).drop 1)]]:=by
  cases c with
  | zero=>cases h
  | succ c=>rfl
 rw [el] at hW;refine Xj (x:=(.tup [.non,.str "call",.str f,.tup ((yF c).drop 1)],.st)) (l:=jR f q bs bn (yF c)) rfl (by rcases cc with rfl | rfl | rfl | rfl <;> kernel_rfl) rfl rfl (by dsimp only [Β]) ?_;refine vP ?_;refine zM ?_;exact Xm hx hK (show 0 < 21 by decide) hW z
theorem Qg (hx:0 < xs.length) (oh:HdOk hs) (hK:4<=K):Sm K 42 [LI xs,.int a,hsD hs] (fun x=>∃ r,x=(r,.st)/\RwX (kH hs) (nH hs) r) S:=by
 obtain ⟨K,hk,rfl⟩:=up hK;refine jV ?_;refine Vz (d:=askD) (by kernel_rfl) rfl (by dsimp only [Β]) ?_;refine Jo (l:=hs.map hgD) (a:=a+1) hx (by omega) rfl rfl rfl (by rw [υ];exact oh.pos) fun d hd=>?_
 obtain ⟨⟨f,c⟩,hh,rfl⟩:=Ο.mp hd;obtain ⟨hf,hc⟩:=oh.ok _ hh;have hc:c<=3:=hc;obtain ⟨q,eq,qn,qp⟩:=q_at f hf;refine ⟨_,rfl,?_⟩;simp only [dM,fW,cW,Β];refine zu ?_;dsimp only [wpC,e_bi];refine xG ?_;dsimp only [wpI,zG];nofun;refine yf (by simp [fits,LIM];omega) ?_;refine xW (fun _=>.int 1) (zV 0 c) [] (by rw [uM];simp;omega) (fun x hx Q hQ=>?_) ?_
 ·refine zQ rfl ?_;dsimp only [wpF,zW,inn,nT,Κ,aN,Δ,Β];nofun;exact hQ
 rw [ϑ,zac];refine zT (d:=.tup (yF c)) rfl ?_;refine yN rfl (by dsimp only [Β]) ?_;refine zM ?_;refine zO (ds:=[LI xs,.int (a+2)]) rfl ?_;refine (zbG hx (by omega)).go ?_;rintro _ ⟨bs,rfl,hbs⟩;refine yN rfl (by dsimp only [Β]) ?_;refine zO (ds:=[LI xs,.int (a+5)]) rfl ?_;refine (UJ hx (by omega)).go ?_;rintro _ ⟨bn,rfl,hbn⟩;refine yN rfl (by dsimp only [Β]) ?_;have hW:=zb4 (ks:=kH hs) (ns:=nH hs) (f:=f) (q:=q) (zbx oh.nd hh) (zdW oh qn) (zdW oh zaD) (zkI f hf) qp hbs hbn hc;have cc:c=0\/c=1\/c=2\/c=3:=by omega
 exact zb3 cc hx (by omega) eq hW fun r h=>⟨⟨r,rfl,h⟩,rfl⟩
end
noncomputable def Uo:D:=.tup [.tup [.str "tell",.int 1],.tup [.str "give",.int 1]]
noncomputable def G5:List D:=[.tup [.str "do",.tup [],Uo],.tup [.str "do",.tup [],.tup [.tup [.str "if",.int 1,.tup [],Uo]]],.tup [.str "do",.tup [],.tup [.tup [.str "do",Uo,.tup []]]],.tup [.str "do",.tup [],.tup [.tup [.str "try",.tup [],.non,.tup [.tup [.str "while",.int 0,Uo]]]]],.tup [.str "do",.tup [],.tup [.tup [.str "do",.tup [],Uo]]]]
noncomputable def zeS (b:D):List D:=[.tup [.str "while",.int 0,b],.tup [.str "if",.int 0,.tup [],b],.tup [.str "try",b,.non,.tup []],.tup [.str "do",b,.tup []]]
theorem zcm {r' b:D}{n:Nat}(h:r'∈zeS b) (hp:plD b=true) (hn:nest n b=false):plD r'=true/\nest (n+1) (.tup [r'])=false:=by
 have k:∀ {r'},b∈blkD r'->nest (n+1) (.tup [r'])=false:=fun {r'} hb=>by
  show (decide (1<=8)&&((zy r'&&(blkD r').all (nest n))&&true))=false
  have:(blkD r').all (nest n)=false:=by
   cases z:(blkD r').all (nest n) with
   | false=>rfl
   | true=>rw [ν.mp z b hb] at hn;cases hn
  rw [this,Τ];rfl
 rcases ψ.mp h with rfl | h
 ·exact ⟨by show (true&&(true&&(plD b&&true)))=true;rw [hp];rfl,k (show b∈[b] by simp)⟩
 rcases ψ.mp h with rfl | h
 ·exact ⟨by show (true&&(true&&(true&&(plD b&&true))))=true;rw [hp];rfl,k (show b∈[.tup [],b] by simp)⟩
 rcases ψ.mp h with rfl | h
 ·exact ⟨by show (true&&(plD b&&true))=true;rw [hp];rfl,k (show b∈[b,.tup []] by simp)⟩
 ·cases μ.mp h;exact ⟨by show (true&&(plD b&&true))=true;rw [hp];rfl,k (show b∈[b,.tup []] by simp)⟩
theorem zhF {r:D}(h:plD r=true):plD (.tup [r])=true:=by
 show (plD r&&true)=true
 rw [h];rfl
def RwY (ks:List Key) (ns:List Int) (r:D):Prop:=RwX ks ns r\/r∈G5
section
variable {xs:List Int}{K:Nat}{S:Store}{a:Int}{hs:List (Str×Nat)}{ks:List Key}{ns:List Int}
theorem zdf {r:D}(hp:plD r=true) (hn:nest 4 (.tup [r])=false):RwX ks ns r:=by refine ⟨hp,?_⟩;have hn:(decide (1<=8)&&((zy r&&(blkD r).all (nest 3))&&true))=false:=hn;rw [fM] at hn;have hn:(zy r&&(blkD r).all (nest 3))=false:=hn;unfold okR;rw [hn];rfl
theorem zgk (hx:0 < xs.length) (hK:2<=K):Sm K 44 [LI xs,.int a] (fun x=>∃ r,x=(r,.st)/\RwY ks ns r) S:=by
 obtain ⟨K,hk,rfl⟩:=up hK;refine jo ?_;refine Vz (d:=Uo) (by kernel_rfl) rfl (by dsimp only [Β]) ?_;refine yt (d:=.lst (G5.take 3)) (by kernel_rfl) rfl (by dsimp only [Β]) ?_;refine yt (d:=.lst G5) (by kernel_rfl) rfl (by dsimp only [Β]) ?_;refine Vz (d:=.tup [.tup [.str "tell",.int 1]]) (by kernel_rfl) rfl (by dsimp only [Β]) ?_;refine zu ?_;dsimp only [wpC,wpI,zW];nofun;refine wp_walk (fun l ρ S'=>S'=S/\∃ (j:Nat) (r:D) (x5:Slot),l=zV (j:Int) 4/\j<=4/\plD r=true/\nest j (.tup [r])=false/\ρ=[.sh (LI xs),.sh (.int a),.sh Uo,.ow (.lst G5),.sh (.tup [r]),x5]) ?_ ?_ _ _ _ ⟨rfl,0,.tup [.str "tell",.int 1],.no,rfl,by decide,rfl,rfl,rfl⟩
 ·rintro d l ρ S' ⟨rfl,j,r,x5,e1,j4,hp,hn,rfl⟩;by_cases hj:(j:Int) < 4
  ·rw [jE (by omega)] at e1;cases e1;refine zQ rfl ?_;refine zu ?_;dsimp only [wpC,ux,wpEs,vC];refine yW 9 _ (.lst (zeS (.tup [r])),.fr) (by kernel_rfl) _ _ ?_;dsimp only [ym,wpEs,zG,vG,zW];nofun;refine (zz hx (by decide) hk).go ?_;rintro _ ⟨i,rfl,i0,i1⟩;obtain ⟨r',hr',e⟩:=yG (l:=zeS (.tup [r])) i0 i1;refine zE e ?_;obtain ⟨p1,p2⟩:=zcm hr' (zhF hp) hn;nofun;exact ⟨rfl,j+1,r',_,rfl,by omega,p1,p2,rfl⟩
  ·rw [zad (by omega)] at e1;cases e1
 ·rintro ρ S' ⟨rfl,j,r,x5,e1,j4,hp,hn,rfl⟩;have hj:j=4:=by
   by_cases hj:(j:Int) < 4
   ·rw [jE (by omega)] at e1;cases e1
   ·omega
  cases hj;refine zM ?_;refine Xj (x:=(r,.st)) (d:=r) (l:=G5) rfl rfl rfl rfl (by dsimp only [Β]) ?_;refine yM (l:=G5++[r]) (a:=a+5) hx hk rfl rfl rfl (show 0 < 6 by decide) fun d hd=>?_
  rcases Ζ.mp hd with hd | hd
  ·exact ⟨⟨d,rfl,.inr hd⟩,rfl⟩
  ·cases μ.mp hd;exact ⟨⟨r,rfl,.inl (zdf hp hn)⟩,rfl⟩
noncomputable def sumL (bs:D):List D:=[.tup [.str "set",.str "x",bs],.tup [.str "tell",bs],.tup [.str "fail",bs],.tup [.str "if",bs,.tup [],.tup []],.tup [.str "while",bs,.tup []]]
noncomputable def namL (bn:D):List D:=[.tup [.str "set",bn,.int 1],.tup [.str "set",.non,.int 1],.tup [.str "try",.tup [],bn,.tup []],.tup [.str "try",.tup [.tup [.str "tell",.int 1]],bn,.tup []]]
noncomputable def blkL (bb:D):List D:=[.tup [.str "if",.int 1,bb,.tup []],.tup [.str "if",.int 1,.tup [],bb],.tup [.str "while",.int 1,bb],.tup [.str "try",bb,.non,.tup []],.tup [.str "try",.tup [],.non,bb],.tup [.str "do",bb,.tup []],.tup [.str "do",.tup [],bb]]
theorem zce {bs:D}(hs:bW bs=true):∀ r∈sumL bs,RwX ks ns r:=by
 obtain ⟨s1,s2⟩:=ε.mp hs;have s2:fmlD 3 bs=false:=by simpa using s2
 refine fc ?_ (fc ?_ (fc ?_ (fc ?_ (fc ?_ fn0))))
 ·refine wD (by show (true&&(true&&(plD bs&&true)))=true;rw [s1];rfl) ?_;show (zB (.str "x")&&fmlD 3 bs)=false
  rw [s2,Τ]
 all_goals exact wD (by show (true&&(plD bs&&true))=true;rw [s1];rfl) s2
theorem zcT {bn:D}(hn:bN bn=true):∀ r∈namL bn,RwX ks ns r:=by
 obtain ⟨n1,n2⟩:=ε.mp hn;have n2:wonD bn=false:=by simpa using n2
 have n3:=Z7 n2;refine fc ?_ (fc ?_ (fc ?_ (fc ?_ fn0)))
 ·refine wD (by show (true&&(plD bn&&true))=true;rw [n1];rfl) ?_;show (zB bn&&_)=false
  rw [n3];rfl
 ·exact wD rfl rfl
 ·exact wD (by show (true&&(true&&(plD bn&&true)))=true;rw [n1];rfl) n2
 ·exact wD (by show (true&&(true&&(plD bn&&true)))=true;rw [n1];rfl) n2
theorem zdq {bb:D}(hb:bB bb=true):∀ r∈blkL bb,RwX ks ns r:=by
 obtain ⟨b1,b2⟩:=ε.mp hb;have b2:nest 4 bb=false:=by simpa using b2
 have b3:nest 3 bb=false:=by
  cases z:nest 3 bb with
  | false=>rfl
  | true=>rw [YC.nest_up z] at b2;cases b2
 have k:∀ {r},plD r=true->bb∈blkD r->RwX ks ns r:=fun {r} hp hm=>by
  refine ⟨hp,?_⟩;have:(blkD r).all (nest 3)=false:=by
   cases z:(blkD r).all (nest 3) with
   | false=>rfl
   | true=>rw [ν.mp z bb hm] at b3;cases b3
  unfold okR;rw [this,Τ,ϧ]
 refine fc ?_ (fc ?_ (fc ?_ (fc ?_ (fc ?_ (fc ?_ (fc ?_ fn0))))))
 ·exact k (by show (true&&(true&&(plD bb&&true)))=true;rw [b1];rfl) (show bb∈[bb,.tup []] by simp)
 ·exact k (by show (true&&(true&&(true&&(plD bb&&true))))=true;rw [b1];rfl) (show bb∈[.tup [],bb] by simp)
 ·exact k (by show (true&&(true&&(plD bb&&true)))=true;rw [b1];rfl) (show bb∈[bb] by simp)
 ·exact k (by show (true&&(plD bb&&true))=true;rw [b1];rfl) (show bb∈[bb,.tup []] by simp)
 ·exact k (by show (true&&(true&&(true&&(plD bb&&true))))=true;rw [b1];rfl) (show bb∈[.tup [],bb] by simp)
 ·exact k (by show (true&&(plD bb&&true))=true;rw [b1];rfl) (show bb∈[bb,.tup []] by simp)
 ·exact k (by show (true&&(true&&(plD bb&&true)))=true;rw [b1];rfl) (show bb∈[.tup [],bb] by simp)
theorem zkK {r:D}(h:bF r=true):RwX ks ns r:=by
 obtain ⟨b1,b2⟩:=ε.mp h;have b2:zy r=false:=by simpa using b2
 refine ⟨b1,?_⟩;unfold okR;rw [b2];rfl
theorem zbH (hx:0 < xs.length) (oh:HdOk hs) (hK:5<=K):Sm K 45 [LI xs,.int a,hsD hs] (fun x=>∃ r,x=(r,.st)/\RwY (kH hs) (nH hs) r) S:=by
 obtain ⟨K,hk,rfl⟩:=up hK;refine qZ ?_;refine zO (ds:=[LI xs,.int a,.int 10]) rfl ?_;refine (zz hx (by decide) (by omega)).go ?_;rintro _ ⟨v,rfl,v0,v1⟩;refine yN rfl (by dsimp only [Β]) ?_;have cmpv:∀ k:Int,cmpD .Eq (.int v) (.int k)=some (v==k):=fun _=>rfl
 refine zu ?_;dsimp only [wpC,vD,zG,zW];refine yc rfl ?_;refine zE (cmpv 0) ?_;refine Xf rfl ?_;refine zj (fun h=>?_) (fun h=>?_)
 ·refine Yr (ds:=[LI xs,.int (a+1),hsD hs]) rfl ?_;refine (Qg hx oh (by omega)).go ?_;rintro _ ⟨r,rfl,hr⟩;exact ⟨⟨r,rfl,.inl hr⟩,rfl⟩
 refine vP ?_;refine zM ?_;refine zu ?_;dsimp only [wpC,vD,zG,zW];refine yc rfl ?_;refine zE (cmpv 1) ?_;refine Xf rfl ?_;refine zj (fun h=>?_) (fun h=>?_)
 ·refine Yr (ds:=[LI xs,.int (a+1)]) rfl ?_;refine (zgl hx (by omega)).go ?_;rintro _ ⟨r,rfl,hr⟩;exact ⟨⟨r,rfl,.inl (zkK hr)⟩,rfl⟩
 refine vP ?_;refine zM ?_;refine zu ?_;dsimp only [wpC,vD,zG,zW];refine yc rfl ?_;refine zE (cmpv 2) ?_;refine Xf rfl ?_;refine zj (fun h=>?_) (fun h=>?_)
 ·refine Yr (ds:=[LI xs,.int (a+1)]) rfl ?_;refine (zgk (ks:=kH hs) (ns:=nH hs) hx (by omega)).go ?_;rintro _ ⟨r,rfl,hr⟩;exact ⟨⟨r,rfl,hr⟩,rfl⟩
 refine vP ?_;refine zM ?_;refine zO (ds:=[LI xs,.int (a+1)]) rfl ?_;refine (zbG hx (by omega)).go ?_;rintro _ ⟨bs,rfl,hbs⟩;refine yN rfl (by dsimp only [Β]) ?_;refine zO (ds:=[LI xs,.int (a+4)]) rfl ?_;refine (UJ hx (by omega)).go ?_;rintro _ ⟨bn,rfl,hbn⟩;refine yN rfl (by dsimp only [Β]) ?_;refine zO (ds:=[LI xs,.int (a+5)]) rfl ?_;refine (zbJ hx (by omega)).go ?_;rintro _ ⟨bb,rfl,hbb⟩;refine yN rfl (by dsimp only [Β]) ?_;refine yt (d:=.lst ((sumL bs).take 4)) (by kernel_rfl) rfl (by dsimp only [Β]) ?_;refine Xj (x:=(.tup [.str "while",bs,.tup []],.st)) (l:=(sumL bs).take 4) rfl (by kernel_rfl) rfl rfl (by dsimp only [Β]) ?_;refine yt (d:=.lst (namL bn)) (by kernel_rfl) rfl (by dsimp only [Β]) ?_;refine yt (d:=.lst ((blkL bb).take 4)) (by kernel_rfl) rfl (by dsimp only [Β]) ?_;refine yt (d:=.lst (blkL bb)) (by kernel_rfl) rfl (by dsimp only [Β]) ?_;nofun;obtain ⟨d,hd,e⟩:=yG (l:=[.lst (sumL bs),.lst (namL bn),.lst (blkL bb)]) (bQ v (by decide)) (show v % 3 < 3 from aR v (by decide));have hd:∃ l:List D,d=.lst l/\0 < l.length/\∀ r∈l,RwX (kH hs) (nH hs) r:=by
  rcases ψ.mp hd with rfl | hd
  ·exact ⟨_,rfl,show 0 < 5 by decide,zce hbs⟩
  rcases ψ.mp hd with rfl | hd
  ·exact ⟨_,rfl,show 0 < 4 by decide,zcT hbn⟩
  ·cases μ.mp hd;exact ⟨_,rfl,show 0 < 7 by decide,zdq hbb⟩
 obtain ⟨l,rfl,hl,hr⟩:=hd;refine zE e ?_;refine yN rfl (by dsimp only [Β]) ?_;refine zM ?_;exact yM (l:=l) (a:=a+6) hx (by omega) rfl rfl rfl hl fun r hx=>⟨⟨r,rfl,.inl (hr r hx)⟩,rfl⟩
end
section
variable {xs:List Int}{K:Nat}{S:Store}{a:Int}
theorem Ju {b:List D}{r':D}{v:D}{V:Po}(hx:0 < xs.length) (hK:1<=K) (hb:b.length<=8) (q:∀ i,V (.tup (b.take i++[r']++b.drop i),.st) S):wpCs (za F wh K) noX wh (uW.drop 2) [.sh (LI xs),.sh (.int a),.sh (.tup b),.sh r',.sh v,.no] (told V) S:=by
 show wpCs _ _ _ [_,_] _ _ _
 refine zO (ds:=[LI xs,.int (a+1),.int ((b.length:Int)+1)]) rfl ?_;refine (zz hx (by omega) hK).go ?_;rintro _ ⟨i,rfl,i0,i1⟩;refine yN rfl (by dsimp only [Β]) ?_;obtain ⟨n,rfl⟩:∃ n:Nat,i=(n:Int):=⟨i.toNat,by omega⟩
 have hn:n<=b.length:=by omega
 refine zu ?_;dsimp only [wpC,vG,zbq,zG,wpO,ux,wpEs];refine yc rfl ?_;refine yc rfl ?_;refine ZK rfl ?_;refine zT (d:=.tup (b.take n)) (by show some (D.tup (cutD b none (some (n:Int))),false)=_;rw [WT hn]) ?_;refine yc rfl ?_;refine kp_s rfl ?_;refine yf rfl ?_;refine zT (xX (by rw [ϛ];simp;omega)) ?_;refine yc rfl ?_;refine yc rfl ?_;refine ZK rfl ?_;refine zT (d:=.tup (b.drop n)) (by show some (D.tup (cutD b (some (n:Int)) none),false)=_;rw [J2 hn]) ?_;refine zT (xX (by rw [ξ,ϛ,ϥ];simp;omega)) ?_;exact q n
theorem zhy {b:List D}{r:D}(hx:0 < xs.length) (hb:b.length<=8) (hK:2<=K):Sm K 46 [LI xs,.int a,.tup b,r] (fun x=>∃ r' i,x=(.tup (b.take i++[r']++b.drop i),.st)/\r'∈wraps r) S:=by
 obtain ⟨K,hk,rfl⟩:=up hK;refine Kp (x3:=r) ?_;refine zO (ds:=[LI xs,.int a,.int 6]) rfl ?_;refine (zz hx (by decide) hk).go ?_;rintro _ ⟨v,rfl,v0,v1⟩;refine yN rfl (by dsimp only [Β]) ?_;refine zu ?_;dsimp only [wpC,vD,zG,zW];refine yc rfl ?_;refine zE (show cmpD .Gt (.int v) (.int 1)=some (decide ((1:Int) < v)) from rfl) ?_;refine Xf rfl ?_;refine zj (fun h=>?_) (fun h=>?_)
 ·have h:=of_decide_eq_true h;refine zu ?_;dsimp only [wpC,vC];refine yW 9 _ (.lst ((wraps r).drop 1),.fr) (by kernel_rfl) _ _ ?_;dsimp only [vG,zG,zW];refine yc rfl ?_;refine zT (d:=.int (v - 2)) rfl ?_;obtain ⟨r',hr',e⟩:=yG (l:=(wraps r).drop 1) (show 0<=v - 2 by omega) (show v - 2 < 4 by omega);refine zE e ?_;refine yN rfl (by dsimp only [Β]) ?_;refine zM ?_;refine vP ?_;refine zM ?_;exact Ju hx hk hb fun i=>⟨⟨r',i,rfl,dY hr'⟩,rfl⟩
 ·refine vP ?_;refine zM ?_;exact Ju hx hk hb fun i=>⟨⟨r,i,rfl,θ⟩,rfl⟩
noncomputable def jt (m:Nat):List D:=[.tup [.str "if",.int 1,.tup (telL 8),.tup (telL 8)],.tup [.str "while",.int 0,.tup ((telL 8).take m)]]++(telL 8).take 6
theorem zaJ {m:Nat}(hm:m=0\/m=1) (hK:1<=K):Is K 47 [.int m] (.tup (jt m),.st) S:=by
 obtain ⟨K,hk,rfl⟩:=up hK;refine Vt ?_;refine zu ?_;dsimp only [wpC,e_bi];refine xG ?_;dsimp only [wpI,zW];nofun;refine xW (fun d=>.tup [.str "tell",d]) (zV 0 8) [] (by decide) (fun x hx Q hQ=>?_) ?_
 ·refine zQ rfl ?_;dsimp only [wpF,ux,zW,wpEs,zG,inn,nT,Κ,aN,Δ,Β];nofun;exact hQ
 rw [ϑ];refine zT (d:=.tup (telL 8)) rfl ?_;refine yN rfl (by dsimp only [Β]) ?_;refine zM ?_;rcases hm with rfl | rfl
 ·refine Vz (d:=.tup ((jt 0).take 2)) (by kernel_rfl) rfl (by dsimp only [Β]) ?_;exact zae (d:=.tup (jt 0)) (by kernel_rfl) ⟨rfl,rfl⟩
 ·refine Vz (d:=.tup ((jt 1).take 2)) (by kernel_rfl) rfl (by dsimp only [Β]) ?_;exact zae (d:=.tup (jt 1)) (by kernel_rfl) ⟨rfl,rfl⟩
noncomputable def sevW:List D:=[.str "x",.str "y",.str "z",.str "xy",.str "yz",.str "zx",.str "xyz"]
noncomputable def sevD:D:=.tup (sevW.map fun d=>.tup [.str "set",d,.int 1])
noncomputable def errL (t:Str) (p b:List D) (bn bb:D):List D:=[.tup [bn,.tup p,.tup b],.tup [.str t,.tup [.str "x",bn],.tup b],.tup [.str t,.tup [.str "x",.str "x"],.tup b],
 .tup [.str t,.lst p,.tup b],.tup [.str t,.tup [.str "x",.str "y",.str "z",.str "xy"],.tup []],.tup [.str t,.str "x",.tup []],.tup [.str t,.non,.tup b],
 .tup [.str t,.tup p,.lst b],.tup [.str t,.tup p,bb],.tup [.str t,.tup [],.tup (jt 1)],
 .tup [.str t,.tup [],sevD],.tup [.str t,.tup p],.tup [.str t,.tup p,.tup b,.tup []],.lst [.str t,.tup p,.tup b],.non,.str t,.tup []]
def ErX (e:D):Prop:=plD e=true/\(hdD e=false\/∀ ks ns,wU ks ns e=false/\EF ks ns e)
theorem pl3 {a b c:D}(ha:plD a=true) (hb:plD b=true) (hc:plD c=true):plD (.tup [a,b,c])=true:=by
 show (plD a&&(plD b&&(plD c&&true)))=true
 rw [ha,hb,hc];rfl
theorem Uz {n p b:D}(h:∀ ks ns,vW ks ns b=false):∀ ks ns,wU ks ns (.tup [n,p,b])=false/\EF ks ns (.tup [n,p,b]):=fun ks ns=>by
 refine ⟨?_,fun n' p' b' e hb=>?_⟩
 ·show wV ks ns p b=false
  unfold wV;rw [h];rfl
 ·cases e;rw [h] at hb;cases hb
theorem zaa {b:D}(h:nest 4 b=false):∀ ks ns,vW ks ns b=false:=fun ks ns=>by unfold vW;rw [h];rfl
theorem Zy {p:D}(n b:D) (h:parD p=false):hdD (.tup [n,p,b])=false:=by
 show (zB n&&parD p)=false
 rw [h,Τ]
variable {C:Str->Nat->Prop}{t:Str}{ps:List Str}{b:List D}
theorem zc7 {bn bb:D}(o:ErOk C t ps b) (hn:bN bn=true) (hb:bB bb=true):∀ e∈errL t (ps.map D.str) b bn bb,ErX e:=by
 obtain ⟨n1,n2⟩:=ε.mp hn;have n2:wonD bn=false:=by simpa using n2
 have n3:=Z7 n2;obtain ⟨b1,b2⟩:=ε.mp hb;have b2:nest 4 bb=false:=by simpa using b2
 obtain ⟨m,hm,hk⟩:=o.bk;have pb:plD (.tup b)=true:=(UG 4 (by decide) _ _ _ hk).2.1;have pp:=ze5 o.psm o.ps3;have pt:plD (.str t)=true:=Qs o.wd;obtain ⟨l1,l2⟩:=pl_l pb;obtain ⟨l3,l4⟩:=pl_l pp;refine fc ?_ (fc ?_ (fc ?_ (fc ?_ (fc ?_ (fc ?_ (fc ?_ (fc ?_ (fc ?_ (fc ?_ (fc ?_ (fc ?_ (fc ?_ (fc ?_ (fc ?_ (fc ?_ (fc ?_ fn0))))))))))))))))
 ·refine ⟨pl3 n1 pp pb,.inl ?_⟩;show (zB bn&&_)=false
  rw [n3];rfl
 ·refine ⟨pl3 pt (by show (true&&(plD bn&&true))=true;rw [n1];rfl) pb,.inl (Zy _ _ ?_)⟩;show (true&&((zB (.str "x")&&(zB bn&&true))&&_))=false
  rw [n3];simp
 ·exact ⟨pl3 pt rfl pb,.inl (Zy _ _ (by decide +kernel))⟩
 ·exact ⟨pl3 pt (Jx l3 fun d hd=>zx l4 hd) pb,.inl (Zy _ _ rfl)⟩
 ·exact ⟨pl3 pt rfl rfl,.inl (Zy _ _ rfl)⟩
 ·exact ⟨pl3 pt rfl rfl,.inl (Zy _ _ rfl)⟩
 ·exact ⟨pl3 pt rfl pb,.inl (Zy _ _ rfl)⟩
 ·exact ⟨pl3 pt pp (Jx l1 fun d hd=>zx l2 hd),.inr (Uz (zaa rfl))⟩
 ·exact ⟨pl3 pt pp b1,.inr (Uz (zaa b2))⟩
 ·refine ⟨pl3 pt rfl (by decide +kernel),.inr (Uz fun ks ns=>?_)⟩;have:(nest 4 (.tup (jt 1))&&decide ((zK 4 (.tup (jt 1))).length<=24))=false:=by decide +kernel
  unfold vW;rw [this];rfl
 ·have h7:(yo (nms (.tup []) sevD)).length=7:=by decide +kernel
  refine ⟨pl3 pt rfl (by decide +kernel),.inr fun ks ns=>⟨?_,fun n' p' b' e _=>?_⟩⟩
  ·show wV ks ns (.tup []) sevD=false
   unfold wV;rw [h7];show (vW ks ns sevD&&(false&&_))=false
   rw [ϧ,Τ]
  ·cases e;rw [h7];decide
 ·exact ⟨by show (plD (.str t)&&(plD (.tup (ps.map D.str))&&true))=true;rw [pt,pp];rfl,.inl rfl⟩
 ·exact ⟨by show (plD (.str t)&&(plD (.tup (ps.map D.str))&&(plD (.tup b)&&true)))=true;rw [pt,pp,pb];rfl,.inl rfl⟩
 ·exact ⟨by show (plD (.str t)&&(plD (.tup (ps.map D.str))&&(plD (.tup b)&&true)))=true;rw [pt,pp,pb];rfl,.inl rfl⟩
 ·exact ⟨rfl,.inl rfl⟩
 ·exact ⟨pt,.inl rfl⟩
 ·exact ⟨rfl,.inl rfl⟩
theorem zbI (hx:0 < xs.length) (o:ErOk C t ps b) (hK:3<=K):Sm K 48 [LI xs,.int a,er t ps b] (fun x=>∃ e,x=(e,.st)/\ErX e) S:=by
 obtain ⟨K,hk,rfl⟩:=up hK;refine uJ (x2:=.tup _) ?_;refine VB (x:=(er t ps b,.st)) rfl rfl ?_;simp only [dM,fW,cW,Β];refine zO (ds:=[LI xs,.int (a+1)]) rfl ?_;refine (UJ hx (by omega)).go ?_;rintro _ ⟨bn,rfl,hbn⟩;refine yN rfl (by dsimp only [Β]) ?_;refine zu ?_;dsimp only [wpC,e_bi];refine xG ?_;dsimp only [wpI];refine yW 9 _ (.lst sevW,.fr) (by kernel_rfl) _ _ ?_;refine kp_f rfl ?_;refine zE (show itrD (.lst sevW)=some sevW from rfl) ?_;refine xW (fun d=>.tup [.str "set",d,.int 1]) sevW [] (by decide) (fun x hx Q hQ=>?_) ?_
 ·refine zQ rfl ?_;dsimp only [wpF,ux,zW,wpEs,zG,inn,nT,Κ,aN,Δ,Β];nofun;exact hQ
 rw [ϑ];refine zT (d:=sevD) rfl ?_;refine yN rfl (by dsimp only [Β]) ?_;refine zM ?_;have lp:(ps.map D.str).length<=3:=by rw [υ];exact o.ps3
 have lb:b.length<=8:=o.bk.elim fun m q=>q.2.1
 have hE:=fun bb=>zc7 (bb:=bb) o hbn
 generalize ps.map D.str=p at lp hE ⊢;refine yt (d:=.lst ((errL t p b bn .non).take 3)) (by kernel_rfl) rfl (by dsimp only [Β]) ?_;refine yt (d:=.lst ((errL t p b bn .non).take 7)) (by kernel_rfl) rfl (by dsimp only [Β]) ?_;refine zu ?_;dsimp only [wpC,vG];refine yW 9 ⇑8 (.lst ((errL t p b bn .non).take 7),.bo) rfl _ _ ?_;dsimp only [zda,ux,e_bi,ym,wpEs,zG,zW,vG];nofun;refine (zbJ hx (by omega)).go ?_;rintro _ ⟨bb,rfl,hbb⟩;nofun;refine (zaJ (m:=1) (.inr rfl) (by omega)).go ?_;refine kp_s rfl ?_;refine yf rfl ?_;refine kp_s rfl ?_;refine yf rfl ?_;refine Wf (d:=.lst ((errL t p b bn bb).take 10)) (by kernel_rfl) ?_;refine zQ rfl ?_;simp only [Β,aP,if_true,if_false];refine zM ?_;refine yt (d:=.lst (errL t p b bn bb)) (by kernel_rfl) rfl (by dsimp only [Β]) ?_;exact yM (l:=errL t p b bn bb) hx (by omega) rfl rfl rfl (show 0 < 17 by decide) fun e he=>⟨⟨e,rfl,hE bb hbb e he⟩,rfl⟩
end
theorem spl {α:Type}:∀ (l:List α) (i:Nat) (x:α),l[i]?=some x->∃ u v,l=u++x::v/\u.length=i
 | [],i,x,h=>by cases h
 | y::l,0,x,h=>by cases h;exact ⟨[],l,rfl,rfl⟩
 | y::l,i+1,x,h=>by obtain ⟨u,v,e,hl⟩:=spl l i x h;exact ⟨y::u,v,by rw [e];rfl,by rw [Ϝ,hl]⟩
section
variable {hs:List (Str×Nat)}{u v:List Er}{p:Er}
def ErY (hs:List (Str×Nat)) (p:Er) (e:D):Prop:=plD e=true/\(hdD e=false\/(∀ ks ns,wU ks ns e=false/\EF ks ns e)\/(nmH e=p.1/\ctH e=(p.2.1.length:Int)/\wU (kH hs) (nH hs) e=false/\EF (kH hs) (nH hs) e))
theorem ZZ (o:EsOk hs (u++p::v)) {e:D}(h:ErY hs p e):Bad (.tup (u.map erD++[e]++v.map erD)):=by
 obtain ⟨hp,h⟩:=h;have l3:(u++p::v).length<=3:=by rw [o.len];exact o.hd.three
 have hl:(u.map erD++[e]++v.map erD).length<=1000:=by simp at l3 ⊢;omega
 have good:∀ x∈u.map erD++[e]++v.map erD,x=e\/∃ q∈u++p::v,x=erD q:=fun x hx=>by
  rcases Ζ.mp hx with hx | hx
  ·rcases Ζ.mp hx with hx | hx
   ·obtain ⟨q,hq,rfl⟩:=Ο.mp hx;exact .inr ⟨q,bM _ hq,rfl⟩
   ·exact .inl (μ.mp hx)
  ·obtain ⟨q,hq,rfl⟩:=Ο.mp hx;exact .inr ⟨q,Υ _ (ι _ hq),rfl⟩
 have pl:∀ x∈u.map erD++[e]++v.map erD,plD x=true:=fun x hx=>by
  rcases good x hx with rfl | ⟨q,hq,rfl⟩
  ·exact hp
  ·exact zfW (o.ok q hq)
 have hm:e∈u.map erD++[e]++v.map erD:=by simp
 have ef:∀ ks ns,EF ks ns e->∀ x∈u.map erD++[e]++v.map erD,EF ks ns x:=fun ks ns he x hx=>by
  rcases good x hx with rfl | ⟨q,hq,rfl⟩
  ·exact he
  ·exact ziW (o.ok q hq)
 rcases h with h | h | ⟨h1,h2,h3,h4⟩
 ·exact zeg hl pl hm h
 ·exact J9 hl pl hm fun ks ns _=>⟨(h ks ns).1,ef ks ns (h ks ns).2⟩
 ·refine J9 hl pl hm fun ks ns z=>?_
  obtain ⟨_,_,z⟩:=jN rfl z;have hc:((p.2.1.map D.str).length:Int)=(p.2.1.length:Int):=by rw [υ]
  have e1:(u.map erD++[e]++v.map erD).map (fun e=>(bc (nmH e):Key))=kH hs:=by rw [<- o.keys];simp only [aH,ϒ,gj,aG,fX,ϑ];rw [h1];rfl
  have e2:(u.map erD++[e]++v.map erD).map ctH=nH hs:=by rw [<- o.cnts];simp only [aH,ϒ,gj,aG,fX,ϑ];rw [h2,<- hc];rfl
  rw [e1,e2] at z;cases z;exact ⟨h3,ef _ _ h4⟩
theorem zjl:(G5.all fun r=>plD r&&(wraps r).all fun r'=>(inR 3 r').any doG&&(inR 3 r').all fun x=>(nmR x).isEmpty)=true:=by decide +kernel
theorem ErX.y {e:D}(h:ErX e):ErY hs p e:=⟨h.1,h.2.elim .inl fun q=>.inr (.inl q)⟩
theorem Ux {C:Str->Nat->Prop}{t:Str}{ps:List Str}{b:List D}{r r':D}{i:Nat}(o:ErOk C t ps b) (hr:RwY (kH hs) (nH hs) r) (hw:r'∈wraps r):ErY hs (t,ps,b) (.tup [.str t,.tup (ps.map D.str),.tup (b.take i++[r']++b.drop i)]):=by
 obtain ⟨m,hm,hk⟩:=o.bk;obtain ⟨k1,k2,k3,k4⟩:=UG 4 (by decide) _ _ _ hk;obtain ⟨l1,l2⟩:=pl_l k2;have l8:b.length<=8:=hk.1;have hm:r'∈b.take i++[r']++b.drop i:=by simp
 have pr:plD r'=true:=by
  refine zej ?_ hw;rcases hr with hr | hr
  ·exact hr.1
  ·exact (ε.mp (ν.mp zjl r hr)).1
 have mem:∀ x∈b.take i++[r']++b.drop i,x=r'\/x∈b:=fun x hx=>by
  rcases Ζ.mp hx with hx | hx
  ·rcases Ζ.mp hx with hx | hx
   ·exact .inr (cT hx)
   ·exact .inl (μ.mp hx)
  ·exact .inr (dY hx)
 have pl:plD (.tup (b.take i++[r']++b.drop i))=true:=xj (by simp;omega) fun x hx=>by
  rcases mem x hx with rfl | hx
  ·exact pr
  ·exact zx l2 hx
 refine ⟨pl3 (Qs o.wd) (ze5 o.psm o.ps3) pl,.inr (.inr ⟨rfl,by show ((ps.map D.str).length:Int)=_;rw [υ],?_⟩)⟩;generalize hL:b.take i++[r']++b.drop i=L at hm mem;rcases hr with ⟨_,hr⟩ | hr
 ·have hb:=zeZ (l:=L) hr hw hm;refine ⟨?_,fun n' p' b' e hx=>?_⟩
  ·show wV (kH hs) (nH hs) (.tup (ps.map D.str)) (.tup L)=false
   unfold wV;rw [hb];rfl
  ·cases e;rw [hb] at hx;cases hx
 ·obtain ⟨g1,g2⟩:=ε.mp (ν.mp (ε.mp (ν.mp zjl r hr)).2 r' hw);have hin:∀ x∈inR 3 r',x∈zK 4 (.tup L):=fun x hx=>ϋ.mpr ⟨r',hm,hx⟩
  refine ⟨?_,fun n' p' b' e _=>?_⟩
  ·show wV (kH hs) (nH hs) (.tup (ps.map D.str)) (.tup L)=false
   unfold wV;have:(zK 4 (.tup L)).any doG=true:=by obtain ⟨x,hx,q⟩:=Ϧ.mp g1;exact Ϧ.mpr ⟨x,hin x hx,q⟩
   rw [this];simp
  ·cases e;refine eY (Yv (m:=menu) (uK (by show ∀ s∈txs (ps.map D.str),s∈menu;rw [Yh];exact o.psm) fun s hs=>?_)) (by decide);obtain ⟨x,hx,hs⟩:=ϋ.mp hs;obtain ⟨y,hy,hx⟩:=ϋ.mp (show x∈L.flatMap (inR 3) from hx);rcases mem y hy with rfl | hy
   ·have:=ν.mp g2 x hx;cases z:nmR x with
    | nil=>rw [z] at hs;cases hs
    | cons _ _=>rw [z] at this;cases this
   ·exact Ke (k4 x (ϋ.mpr ⟨y,hy,hx⟩)) s hs
end
noncomputable def zcV (d:D):D:=match (subD (.str "abcdefg") d).bind fun c=>opD .Add (.str "more") c with
 | some q=>.tup [q.1,.tup [],.tup []]
 | none=>.non
noncomputable abbrev zcU:List D:=(zV 0 7).map zcV
theorem zfE:∀ d∈zV 0 7,∃ c s,subD (.str "abcdefg") d=some c/\zH [] c=c/\nrD c=true/\opD .Add (.str "more") c=some (s,false)/\zcV d=.tup [s,.tup [],.tup []]:=by
  intro d hd
  have k:∀ d∈zV 0 7,(match subD (.str "abcdefg") d with
    | some c=>nrD c&&(match opD .Add (.str "more") c with
      | some (_,false)=>true
      | _=>false)
    | none=>false)=true:=by decide +kernel
  have:=k d hd;cases e:subD (.str "abcdefg") d with
  | none=>rw [e] at this;cases this
  | some c=>
    rw [e] at this;obtain ⟨h1,h2⟩:=ε.mp this;cases e2:opD .Add (.str "more") c with
    | none=>rw [e2] at h2;cases h2
    | some q=>
      obtain ⟨s,b⟩:=q;rw [e2] at h2;cases b with
      | true=>cases h2
      | false=>exact ⟨c,s,rfl,YB h1 [],h1,e2,by unfold zcV;rw [e,bz,e2]⟩
theorem zfD:zcU.all plD=true:=by decide +kernel
section
variable {xs:List Int}{K:Nat}{S:Store}{a:Int}{hs:List (Str×Nat)}{es:List Er}
theorem Zm {ex:Xp}{ρ:List Slot}{G:Ko}{A:List D}{n:Nat}{e:D}(h2:ρ[2]?=some (.sh (.tup A))) (h4:ρ[4]?=some (.sh (.int (n:Int)))) (h13:ρ[13]?=some (.sh e)) (hl:A.length<=6) (hn:n+1<=A.length) (q:G (.ret (.tup (A.take n++[e]++A.drop (n+1))) false) S):wpCs (za F wh K) ex wh [.ret (.bin .Add (.bin .Add (.slc ⇑2 none (some ⇑4)) (.tup [⇑13])) (.slc ⇑2 (some (.bin .Add ⇑4 ↥1)) none))] ρ G S:=by refine zu ?_;dsimp only [wpC,vG,zbq,zG,wpO,ux,wpEs,zW];refine yc h2 ?_;refine yc h4 ?_;refine ZK rfl ?_;refine zT (d:=.tup (A.take n)) (by show some (D.tup (cutD A none (some (n:Int))),false)=_;rw [WT (by omega)]) ?_;refine yc h13 ?_;refine kp_s rfl ?_;refine yf rfl ?_;refine zT (xX (by rw [ϛ];simp;omega)) ?_;refine yc h2 ?_;refine yc h4 ?_;refine zT (d:=.int ((n:Int)+1)) rfl ?_;refine ZK rfl ?_;refine zT (d:=.tup (A.drop (n+1))) (by show some (D.tup (cutD A (some ((n+1:Nat):Int)) none),false)=_;rw [J2 hn]) ?_;refine zT (xX (by rw [ξ,ϛ,ϥ];simp;omega)) ?_;exact q
theorem zeC {p0:Er}{r0:List Er}{V:Po}{x3 x4 x5 x6 x7 x8 x13 x14 x15:Slot}{cs:List C}(hx:0 < xs.length) (hk:1<=K) (o:EsOk hs (p0::r0)) (z:∀ d,Bad d->V (d,.st) S):wpCs (za F wh K) noX wh [.set (.one 9) (.tup [(.sub (.sub ⇑2 ↥0) ↥0),(.tup []),(.tup [])]),.set (.one 10) (.bi .tuple [(.comp (.one 0) [] (.rng none ↥7) [] (.tup [(.bin .Add ↥"more" (.sub ↥"abcdefg" ⇑0)),(.tup []),(.tup [])]))]),.set (.one 11) (.bin .Add ⇑2 (.slc ⇑10 none (some (.bin .Sub ↥7 (.bi .len [⇑2]))))),.frz 11,.set (.one 12) (.lst [(.bin .Add ⇑2 (.tup [⇑9])),(.bin .Add (.tup [⇑9]) ⇑2),⇑11,(.bi .list [⇑2]),(.bin .Add ⇑2 (.tup [(.con .non)]))]),.ret (.sub ⇑12 (.call 28 [⇑0,(.bin .Add ⇑1 ↥2),(.bi .len [⇑12])]))] [.sh (LI xs),.sh (.int a),.sh (.tup ((p0::r0).map erD)),x3,x4,x5,x6,x7,x8,.no,.no,.no,.no,x13,x14,x15] (nxt (fun ρ' S'=>wpCs (za F wh K) noX wh cs ρ' (told V) S') (told V)) S:=by
 have l3:(p0::r0).length<=3:=by rw [o.len];exact o.hd.three
 have lA:((p0::r0).map erD).length<=3:=by rw [υ];exact l3
 have op:=o.ok p0 θ;have pA:∀ x∈(p0::r0).map erD,plD x=true:=fun x hx=>by obtain ⟨q,hq,rfl⟩:=Ο.mp hx;exact zfW (o.ok q hq)
 have pal:plD (.tup [.str p0.1,.tup [],.tup []])=true:=pl3 (Qs op.wd) rfl rfl;have nal:nmH (.tup [.str p0.1,.tup [],.tup []])=p0.1:=rfl;have hal:p0.1∈((p0::r0).map erD).map nmH:=θ;refine Vz (d:=.tup [.str p0.1,.tup [],.tup []]) (zaP (xn (x:=(.str p0.1,.st)) (V6 (x:=(erD p0,.st)) (y:=(.int 0,.st)) (V6 (x:=(.tup ((p0::r0).map erD),.st)) (y:=(.int 0,.st)) rfl rfl rfl (Xz (by decide) rfl)) rfl rfl (Xz (by decide) rfl)) rfl rfl) rfl) rfl (by dsimp only [Β]) ?_;have l1:1<=((p0::r0).map erD).length:=by rw [υ];exact Nat.succ_le_succ (Ϯ _)
 generalize (p0::r0).map erD=A at lA pA hal l1 ⊢;generalize D.tup [.str p0.1,.tup [],.tup []]=al at pal nal ⊢;refine zu ?_;dsimp only [wpC,e_bi];refine xG ?_;dsimp only [wpI,zW];nofun;refine xW zcV (zV 0 7) [] (by decide) (fun x hx Q hQ=>?_) ?_
 ·obtain ⟨c,s,e1,_,e3,e4,e5⟩:=zfE x hx;rw [e5] at hQ;refine zQ rfl ?_;dsimp only [wpF,ux,vG,vC,zW,wpEs,zG,inn,nT,Κ,aN,Δ,Β];refine yf rfl ?_;refine yc rfl ?_;refine zE e1 ?_;refine zT (d:=s) (by rw [YB e3];exact e4) ?_;nofun;exact hQ
 rw [ϑ];refine zT (d:=.tup zcU) rfl ?_;refine yN rfl (by dsimp only [Β]) ?_;refine zM ?_;obtain ⟨k,hk7,ek⟩:∃ k:Nat,k+A.length=7/\(7:Int) - (A.length:Int)=(k:Int):=⟨7 - A.length,by omega,by omega⟩
 have lm:zcU.length=7:=by decide +kernel
 have pm:=ν.mp zfD;generalize zcU=M at lm pm ⊢;refine zu ?_;dsimp only [wpC,vG,zbq,zG,wpO,zW,e_bi];refine yc rfl ?_;refine yc rfl ?_;refine yc rfl ?_;refine zT (d:=.int (A.length:Int)) rfl ?_;refine zT (d:=.int ((7:Int) - (A.length:Int))) rfl ?_;refine ZK rfl ?_;refine zT (d:=.tup (M.take k)) (by show some (D.tup (cutD M none (some ((7:Int) - (A.length:Int)))),false)=_;rw [ek,WT (by omega)]) ?_;refine zT (d:=.tup (A++M.take k)) (xX (by rw [ϛ];omega)) ?_;refine yN rfl (by dsimp only [Β]) ?_;refine zM ?_;have b3:Bad (.tup (A++M.take k)):=zdr (by rw [ξ,ϛ];omega) (fun x hx=>(Ζ.mp hx).elim (pA x) fun h=>pm x (cT h)) (by rw [ξ,ϛ];omega);generalize D.tup (A++M.take k)=sv at b3 ⊢;refine fz_s (by dsimp only [Β,fz,dz,dB,lw]) ?_;refine zu ?_;dsimp only [wpC,zda,wpEs,vG,zG,ux,e_bi,zW];refine yc rfl ?_;refine yc rfl ?_;refine kp_s rfl ?_;refine yf rfl ?_;refine zT (d:=.tup (A++[al])) (xX (by simp;omega)) ?_;refine kp_s rfl ?_;refine yc rfl ?_;refine kp_s rfl ?_;refine yf rfl ?_;refine yc rfl ?_;refine zT (d:=.tup ([al]++A)) (xX (by simp;omega)) ?_;refine kp_s rfl ?_;refine yc rfl ?_;refine kp_s rfl ?_;refine yc rfl ?_;refine Wf (d:=.lst A) rfl ?_;refine kp_f rfl ?_;refine yc rfl ?_;refine kp_s rfl ?_;refine yf rfl ?_;refine zT (d:=.tup (A++[D.non])) (xX (by simp;omega)) ?_;refine kp_s rfl ?_;refine yf rfl ?_;refine zhV rfl (by dsimp only [Β]) ?_;refine zM ?_;refine yM (l:=[.tup (A++[al]),.tup ([al]++A),sv,.lst A,.tup (A++[D.non])]) (a:=a+2) hx hk rfl rfl rfl (show 0 < 5 by decide) fun d hd=>z d ?_
 rcases ψ.mp hd with rfl | hd
 ·refine zbK (by simp;omega) (fun x hx=>(Ζ.mp hx).elim (pA x) fun h=>by rw [μ.mp h];exact pal) fun hn=>?_
  rw [aH,bL] at hn;exact hn.2.2 _ hal _ (by rw [ou,nal];exact θ) rfl
 rcases ψ.mp hd with rfl | hd
 ·refine zbK (by simp;omega) (fun x hx=>(Ζ.mp hx).elim (fun h=>by rw [μ.mp h];exact pal) (pA x)) fun hn=>?_
  rw [aH,bL] at hn;exact hn.2.2 _ (by rw [ou,nal];exact θ) _ hal rfl
 rcases ψ.mp hd with rfl | hd
 ·exact b3
 rcases ψ.mp hd with rfl | hd
 ·exact zje (Jx (by omega) pA) fun l h=>by cases h
 ·cases μ.mp hd;exact zeg (e:=.non) (by simp;omega) (fun x hx=>(Ζ.mp hx).elim (pA x) fun h=>by rw [μ.mp h];rfl) (by simp) rfl
theorem QW (hx:0 < xs.length) (o:EsOk hs es) (hK:7<=K):Sm K 49 [LI xs,.int a,prD es] (fun x=>∃ d,x=(d,.st)/\Bad d) S:=by
 obtain ⟨K,hk,rfl⟩:=up hK;have l3:es.length<=3:=by rw [o.len];exact o.hd.three
 have l1:1<=es.length:=by rw [o.len];exact o.hd.pos
 refine Yc (x2:=.tup _) ?_;refine zu ?_;dsimp only [wpC];refine xG ?_;dsimp only [wpI,zG];refine yc rfl ?_;refine kp_s rfl ?_;refine zE (show itrD (prD es)=some (es.map erD) from rfl) ?_;refine xW (fun e=>.tup [.str (nmH e),.int (ctH e)]) (es.map erD) [] (by simp;omega) (fun x hx Q hQ=>?_) ?_
 ·obtain ⟨p,hp,rfl⟩:=Ο.mp hx;refine zQ rfl ?_;dsimp only [wpF,ux,vC,e_bi,zW,wpEs,zG,inn,nT,Κ,aN,Δ,Β];nofun;exact hQ
 have eh:(es.map erD).map (fun e=>D.tup [.str (nmH e),.int (ctH e)])=hs.map hgD:=by
  rw [<- o.eq,bA,bA];refine eE fun p _=>?_
  show D.tup [.str p.1,.int ((p.2.1.map D.str).length:Int)]=.tup [.str p.1,.int (p.2.1.length:Int)]
  rw [υ]
 rw [ϑ,eh];refine zhV rfl (by dsimp only [Β]) ?_;refine zM ?_;refine zO (ds:=[LI xs,.int a,.int ((es.map erD).length:Int)]) rfl ?_;refine (zz hx (by rw [υ];omega) (by omega)).go ?_;rintro _ ⟨i,rfl,i0,i1⟩;rw [υ] at i1;refine yN rfl (by dsimp only [Β]) ?_;obtain ⟨n,rfl⟩:∃ n:Nat,i=(n:Int):=⟨i.toNat,by omega⟩
 obtain ⟨p,hp⟩:∃ p,es[n]?=some p:=⟨es[n]'(by omega),Ε (by omega)⟩
 obtain ⟨u,v,eu,hu⟩:=spl es n p hp;have op:=o.ok p (by rw [eu];simp);have lA:(es.map erD).length<=6:=by rw [υ];omega
 have lN:n+1<=(es.map erD).length:=by rw [υ];omega
 have et:(es.map erD).take n=u.map erD:=by rw [eu,aH,List.take_left' (by rw [υ];exact hu)]
 have ed:(es.map erD).drop (n+1)=v.map erD:=by rw [eu,aH,ϒ,show u.map erD++erD p::v.map erD=(u.map erD++[erD p])++v.map erD by simp,List.drop_left' (by rw [ξ,υ,hu];rfl)]
 have es1:subD (.tup (es.map erD)) (.int (n:Int))=some (erD p):=Xz (by omega) (by rw [Ρ,fK,hp];rfl);refine zu ?_;dsimp only [wpC,vC,zG];refine yc rfl ?_;refine yc rfl ?_;refine zE es1 ?_;refine zQ rfl ?_;simp only [dM,fW,cW,Β];refine zM ?_;refine zO (ds:=[LI xs,.int (a+1),.int 5]) rfl ?_;refine (zz hx (by decide) (by omega)).go ?_;rintro _ ⟨w,rfl,w0,w1⟩;refine yN rfl (by dsimp only [Β]) ?_;have cmpw:∀ k:Int,cmpD .Eq (.int w) (.int k)=some (w==k):=fun _=>rfl
 refine zu ?_;dsimp only [wpC,vD,zG,zW];refine yc rfl ?_;refine zE (cmpw 0) ?_;refine Xf rfl ?_;refine zj (fun h=>?_) (fun h=>?_)
 ·cases es with
  | nil=>cases l1
  | cons p0 r0=>exact zeC hx (by omega) o fun d hd=>⟨⟨d,rfl,hd⟩,rfl⟩
 refine vP ?_;refine zM ?_;refine zu ?_;dsimp only [wpC,vD,zG,zW];refine yc rfl ?_;refine zE (cmpw 1) ?_;refine Xf rfl ?_;refine zj (fun h=>?_) (fun h=>?_)
 ·refine zO (ds:=[LI xs,.int (a+2),erD p]) (xn rfl rfl (xn rfl rfl (xn (V6 (x:=(.tup (es.map erD),.st)) (y:=(.int (n:Int),.st)) rfl rfl rfl es1) rfl rfl))) ?_;refine (zbI hx op (by omega)).go ?_;rintro _ ⟨e,rfl,he⟩;refine yN rfl (by dsimp only [Β]) ?_;refine Zm (A:=es.map erD) (n:=n) (e:=e) rfl rfl rfl lA lN ?_;rw [et,ed];subst eu;exact ⟨⟨_,rfl,ZZ o he.y⟩,rfl⟩
 refine vP ?_;refine zM ?_;refine fz_s (by dsimp only [Β,fz,dz,dB,lw]) ?_;refine zO (ds:=[LI xs,.int (a+2),hsD hs]) rfl ?_;refine (zbH hx o.hd (by omega)).go ?_;rintro _ ⟨r,rfl,hr⟩;refine yN rfl (by dsimp only [Β]) ?_;refine zO (ds:=[LI xs,.int (a+20),.tup p.2.2,r]) rfl ?_;refine (zhy hx (op.bk.elim fun m q=>q.2.1) (by omega)).go ?_;rintro _ ⟨r',j,rfl,hw⟩;refine yN rfl (by dsimp only [Β]) ?_;refine fz_s (by dsimp only [Β,fz,dz,dB,lw]) ?_;refine Vz (d:=.tup [.str p.1,.tup (p.2.1.map D.str),.tup (p.2.2.take j++[r']++p.2.2.drop j)]) rfl rfl (by dsimp only [Β]) ?_;refine Zm (A:=es.map erD) (n:=n) (e:=.tup [.str p.1,.tup (p.2.1.map D.str),.tup (p.2.2.take j++[r']++p.2.2.drop j)]) rfl rfl rfl lA lN ?_;rw [et,ed];subst eu;exact ⟨⟨_,rfl,ZZ o (Ux op hr hw)⟩,rfl⟩
theorem law_wp:∀ ns:List Int,ns.length<=63->qI F wh 60 50 [.scr ns] (fun x _=>x.1=.bl true) []:=by
 intro ns h63;obtain ⟨ms,em,hm⟩:=zf4 ns none (some 14);have p0:plD (.tup [.tup [.str "e",.tup [],.tup (jt 0)]])=true:=by decide +kernel
 have p1:VG (.tup [.tup [.str "e",.tup [],.tup (jt 0)]])=true:=by decide +kernel
 have p2:∀ es,D.tup [.tup [.str "e",.tup [],.tup (jt 0)]]=.tup es->es.length<=6->∀ ks ns,hdsD es [] []=some (ks,ns)->(∀ n∈ns,n<=3)->∀ e∈es,EF ks ns e:=fun es e _ ks ns _ _ x hx=>by
  cases e;cases μ.mp hx;intro n' p' b' e _;cases e;have:(yo (nms (.tup []) (.tup (jt 0)))).length=0:=by decide +kernel
  rw [this];decide
 refine zjp ?_;refine zu ?_;dsimp only [wpC,vD,ym,ux,wpEs,zW];nofun;refine (zaJ (m:=0) (.inl rfl) (by decide)).go ?_;nofun;refine (VF p0 p2 (by decide)).go ?_;rw [p1];nofun;rw [em];refine Wf (UV (a:=[.int ns.length]) (by simp;omega)) ?_;nofun;refine wp_walk (fun l ρ S'=>∃ (x1 x2 x3 x4 x5:Slot),ρ=[.sh (.scr ns),x1,x2,x3,x4,x5]/\∀ d∈l,∃ j,d=D.int j) ?_ ?_ _ _ _
  ⟨.no,.no,.no,.no,.no,rfl,fun d hd=>?_⟩
 ·rintro d l ρ S ⟨x1,x2,x3,x4,x5,rfl,hd⟩;have hd':=fun d hx=>hd d (ι _ hx)
  obtain ⟨j,rfl⟩:=hd d θ;nofun;refine (zdc (by decide)).go ?_;rintro _ ⟨xs,rfl,hx⟩;have hx:0 < xs.length:=by omega
  nofun;refine (KN hx (by decide)).go ?_;rintro _ ⟨hs,es,rfl,o⟩;obtain ⟨g1,g2,g3⟩:=zfb o;nofun;refine (QW hx o (by decide)).go ?_;rintro _ ⟨b,rfl,hb⟩;have t1:=fun S=>VF (K:=59) (S:=S) g1 g3 (by decide)
  have t2:=fun S=>VF (K:=59) (S:=S) hb.pl hb.pf (by decide)
  rw [g2] at t1;rw [hb.no] at t2;nofun;refine (t1 _).go ?_;nofun;refine (t2 _).go ?_;nofun;refine (t1 _).go ?_;nofun;exact ⟨_,_,_,_,_,rfl,hd'⟩
 ·rintro ρ S ⟨x1,x2,x3,x4,x5,rfl,hd⟩;nofun;exact rfl
 ·rcases Ζ.mp hd with hd | hd
  ·exact ⟨_,μ.mp hd⟩
  ·obtain ⟨i,_,rfl⟩:=Ο.mp hd;exact ⟨i,rfl⟩
theorem run_law:∀ ns:List Int,ns.length<=63->qI (v4 rs) wh 60 50 [.scr ns] (fun x _=>x.1=.bl true) []:=law_wp
end
end Q05
open PySem PySem.W PyProof.Rows
theorem PySem.Challenge.cw_errandroom_k05_faults_of_programs_holds : PySem.Challenge.rw_errandroom_k05_faults_of_programs.Holds := by
 exact EV.ziM (q := Q05.yX) (loose := [("PARTS" : Str)]) (d := Q05.jh) (B := Q05.B) (rs := Q05.rs) (f := 50) (r := Q05.zeV) (y := "script") (wh := Q05.wh) 12000 500 Q05.zkP Q05.zfH Q05.zkV Q05.zkU Q05.zkT Q05.zkQ Q05.zkR Q05.zkO rfl Q05.zkS rfl rfl (by decide +kernel) rfl Q05.tabs Q05.run_law
