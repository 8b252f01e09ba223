import PyProof.Rows.All
import Wide.All
import OpenK.AllK
import Wide.FinOn
import Lean
import PyProof.EqAt
import PyProof.EqKinds
import PyProof.TupleCall
import PyProof.EnumMake
import PyProof.EnumIter
import PyProof.EnumFor
import PyProof.EnumStmt
import PyProof.WalksEnum
import PyProof.ZipIter
import KE.KRevIter
import PyProof.Rows.Range3
import PyProof.Rows.SortShell
import KE.KTops
import PyProof.Rows.SortRuns
import PyProof.Rows.SortKey
import KE.KSortTup
import PyProof.PureInt
import KE.KDictSum
import PyProof.Rows.SetFrom
import PyProof.SetKind
import PyProof.DictKinds
import PyProof.WalksMore
import PyProof.FactsAll.set_1
import PyProof.CollectWalk
import PyProof.CollectIter
import KE.KSortAsk
import PyProof.DictKeyH
import PyProof.ReprRoads
import PyProof.ListMulRoad
import PyProof.NeKinds
import KE.KEqDict
import KE.KIntText
import PyProof.SumWalkG
import PyProof.Rows.SumGenD
import PyProof.CompMap
import PyProof.RaisesMany
import PyProof.RulesAs
import PyProof.ExcClass2
import PyProof.ExcArgsOwn
import PyProof.IsiBase
import PyProof.ExcAttrAll.ValueError
import PyProof.ExcBaseAll.ValueError
import OpenK.KDescr
import OpenK.KOwn
import KE.KIsAll
import PyProof.NsDelKeeps
import KE.KTryMore
import PyProof.TupleOfGen
import PySem.Challenge.RW_errandroom_k06_worths_as_texts
set_option Elab.async false
set_option linter.all false
set_option maxRecDepth 100000
set_option maxHeartbeats 0
set_option tactic.hygienic false
set_option backward.match.sparseCases false
set_option genSizeOfSpec false
set_option bootstrap.genMatcherCode false
set_option compiler.extract_closed false
open Array renaming getElem?_eq_some_iff -> bB, length_toList -> cJ, append_assoc -> lR
open Bool renaming and_eq_true -> γ, and_eq_true_iff -> Ζ, false_ne_true -> Ν, false_eq_true -> ϣ, false_and -> aA, eq_false_iff -> aP, not_eq_true' -> bx, and_false -> bD, eq_iff_iff -> cI, or_eq_true -> dN, and_true -> fj, true_and -> iT, not_true -> iU, or_true -> lw, or_eq_true_iff -> lQ
open Classical renaming choose -> aQ, propDecidable -> cR, choose_spec -> dw, byContradiction -> gD
open False renaming elim -> ϗ
open ForInStep renaming yield -> c7
open Int renaming emod_lt_of_pos -> ao, emod_nonneg -> aO
open List renaming mem_cons_of_mem -> η, mem_cons_self -> θ, getElem?_eq_some_iff -> ο, size_toArray -> ς, getElem?_set_ne -> υ, mem_cons -> χ, getElem?_eq_getElem -> ψ, contains_iff_mem -> Β, replicate -> Ι, getElem?_set_self -> Κ, mem_singleton -> Μ, length_append -> Ο, all_eq_true -> Ρ, getElem?_map -> Υ, length_cons -> ϊ, mem_append_right -> ύ, length_map -> ώ, getElem?_append_right -> ϒ, getElem?_append_left -> ϖ, range -> ϛ, append_nil -> Ϝ, not_mem_nil -> Ϟ, lookup_cons -> ϟ, mem_of_getElem? -> ϡ, length_set -> ϥ, set -> ϱ, map_cons -> ϳ, getD_eq_getElem?_getD -> ϵ, mem_range -> au, any_eq_true -> aF, zip_cons_cons -> aH, length_take -> aV, getElem_mem -> aW, mem_map -> aX, mem_append -> bc, length_drop -> bG, takeWhile_cons -> bI, filterMap_cons -> bJ, all_cons -> bL, nil_append -> bO, find?_cons -> bQ, lookup -> bU, length_eq_zero_iff -> bV, getElem?_replicate -> bW, take_of_length_le -> b8, length_replicate -> cz, of_mem_zip -> cF, nodup_cons -> cG, length_nil -> cH, drop_eq_getElem_cons -> cT, ext_getElem? -> cX, any_cons -> cZ, map_append -> dI, length_zip -> dJ, all_append -> dM, replicate_succ -> eV, map_eq_nil_iff -> eX, dropWhile_cons -> eY, set_set -> fZ, flatten_cons -> f9, all_map -> gf, length_tail -> gC, eq_nil_of_length_eq_zero -> gM, forIn_cons -> gP, drop_zero -> ir, drop_drop -> iu, set_eq_of_length_le -> iR, getElem?_cons_zero -> lg, takeWhile_sublist -> lq, range_succ_eq_map -> lr, mem_iff_getElem? -> lD, getElem?_eq_none -> lE, mem_append_left -> lK, getElem_of_mem -> lO, mem_filterMap -> lW, nodup_append -> mq, getElem?_inj -> my
open Nat renaming beq -> Α, le_refl -> Η, lt_of_lt_of_le -> Ψ, ne_of_lt -> ϔ, le_trans -> ϕ, le_of_ble_eq_true -> ϝ, zero_le -> bF, lt_irrefl -> bN, lt_succ_self -> dz, le_of_eq -> dH, pow_pos -> eE, pow_le_pow_right -> eF, succ -> gn, ne_of_gt -> gq, le_of_lt -> gw, le_of_not_lt -> gK, pow_succ -> lC, lt_of_le_of_lt -> mj
open Nat.succ renaming inj -> cD
open Ne renaming symm -> bA
open Option renaming bind_eq_some_iff -> ζ, map_eq_some_iff -> ι, some -> ό, isSome_iff_exists -> bH, isSome_map -> fB, isSome_some -> lH, getD_none -> lU, bind_some -> lV
open Option.some renaming inj -> Λ, injEq -> iQ
open Prod.mk renaming inj -> dG
open PyProof.Rows renaming slot_tuple_getitem -> ϧ, callWith_type1 -> cu, AllBare -> dC, Keyed -> dU, fact_slice_sn -> fu, envOfC -> gG, assignInOrder_cons -> gH, subscriptTail_builtinR -> lX
open PySem renaming Value -> δ, wpAny_bind -> ε, Shared -> ν, wpAny_pure -> π, wpAny -> Θ, model -> Ξ, Program -> Τ, compareOp -> Ω, mainGlobals -> ϋ, Around -> Ϗ, starEach -> ϐ, Expr -> ϑ, World -> ϙ, Builtin -> Ϛ, wpAny_field -> Ϥ, NameKind -> ϩ, Spec -> ϫ, keywordEach -> ϯ, cLine -> ϰ, Stmt -> ϲ, swappedStores -> Ϲ, wpAny_truthy_bool -> Ϻ, wpAny_newObj_type -> aj, Keyword -> aq, mem_of_lookup -> aB, wpAny_callSpecial?_slot -> aC, assignEach -> aD, FuncData -> aG, wpAny_mono -> aJ, wpAny_Call_Name_kw -> aK, binaryOp -> aL, backToKw -> aM, Operator -> aN, foldedSetIterable -> aU, wpAny_seqItems -> aY, bootBuiltins -> bu, wpAny_passesOwn -> bz, swapsWithSole -> bC, backTo -> bK, wpAny_call_entry -> bM, IsPair -> bY, attributeBase -> bZ, Scope -> b7, wpAny_setField_rec -> cg, swapsWith -> cj, Paired -> cB, wpAny_standAt -> cL, wpAny_onRaise -> cM, wpAny_holding -> cN, sliceBounds -> cO, wpAny_typeOf -> cU, codeAny_mono -> cV, wpAny_setField -> dh, wpAny_rule -> di, tupleKind_room_in1 -> dj, sysModules -> dm, holding -> dB, assign -> dD, noteFrame -> dO, intText? -> dR, CmpOp -> dW, valueAt -> d7, rawInt -> d8, isTrue -> d9, IsPart -> eG, wpAny_execs_nil -> eO, wpAny_updateSeq_pair -> fG, sizeLine_eq -> fH, constantsAlone -> fJ, Within -> fK, IsZip -> fO, setFlight -> fQ, relabel -> fU, getItem -> fV, codeAny -> fW, PassesOwn -> fY, wpAny_Assign_stores -> gh, foldedForSure -> gA, behindInMarks -> gB, wpAny_pyIter_tuple -> gF, wpAny_pyIter_list -> gQ, wpAny_loadPart_at -> gR, standAt -> gU, SetTable -> gW, tupleKind -> iw, noFill_tuple_add -> iy, DictEntry -> iH, wpAny_loadPart' -> iV, letOwnedTupleGo -> iW, BoolOp -> iZ, wpAny_call -> lz, wpAny_bindName -> lA, typeIs_str -> lB, seq_tuple_add -> lL, assignInOrder -> lM, concat_meets -> lZ
open PySem.Around renaming under -> fD
open PySem.Builtin.Slice renaming slicePlaces -> bf, sliceAdjust -> cC, sliceApplied -> fc
open PySem.Builtin.SmallTypes renaming nextOf -> dX
open PySem.Builtin.Str renaming occurrences -> Φ, strSliceIndices -> fC
open PySem.Builtin.Tuple renaming tupleExact -> bw, tupleItemsOf -> eZ
open PySem.Calls renaming Name_function_global -> gZ, evalArgs_plain -> lF
open PySem.Challenge renaming rw_errandroom_k06_worths_as_texts -> ω, pw_errandroom_k06_worths_as_texts -> Ϩ
open PySem.Code renaming isFrame -> lu
open PySem.EntryCells renaming newEntry -> iG
open PySem.Env renaming kindOf -> fP
open PySem.F renaming args_tuple_add_2 -> cQ, entry_tuple_add -> cW, slot_tuple_add -> dq, plainAttrs_str -> du, plainAttrs_list -> ie, plainAttrs_dict -> ig, slot_str_index -> iB, type_dict_get -> iK, slot_dict_get -> iM
open PySem.Heap renaming get?_push_of_some -> ξ, lt_size -> Δ, get?_push_size -> Χ, size_push -> ϭ, SameBut -> Ϯ, get?_update_other -> Ϸ, get?_update_self -> bj, get?_none_of_le -> dY, MadeExcOf -> dZ
open PySem.Heap.SameBut renaming update -> gY, refl -> iD
open PySem.NameKind renaming free -> ak
open PySem.NumText renaming digitsVal -> ϓ, digitsVal_snoc -> iC, AllDigits -> lJ
open PySem.Obj renaming mapFields -> aR, data_mapFields -> aZ, isFreed_of_fields -> cA, mapSeq -> fM
open PySem.Paired renaming length -> ik
open PySem.ScopeKind renaming function -> iY
open PySem.SeqAt renaming RcNeAt -> Ϡ, EqAt -> Ϫ, EqAt -> bT, notIn_tupleAt -> fX, notIn_listAt -> gm, in_tupleAt -> gJ, in_listAt -> gO
open PySem.SeqAt.EqAt renaming str_int -> iI, int_str -> iJ
open PySem.Str renaming length_append -> μ, ofString -> ϸ
open PySem.StrLaws renaming sliceText -> lG, occ_head -> lN
open PySem.Txt renaming slice -> bh, slice -> fL, join -> gj
open PySem.Value renaming ref -> Ε, none -> Ϙ, bool -> Ϣ, int -> Ϧ, str -> ϴ, type -> cP, builtin -> eQ, isStrOf -> iz
open PySem.W renaming looks_findIn -> lY
open Sum renaming inr -> cY, inl -> eU
open True renaming intro -> Ϭ
namespace L2
open PySem PySem.Spec PyProof.Rows
abbrev VSP:=δ->ν->Prop
abbrev Key:=Sum Int Str
noncomputable def yQ (s:Stmt):Arguments:=match s with
 | .FunctionDef _ a _ _ _ _ _ _ _ _=>a
 | _=>{ posonlyargs:=[],args:=[],vararg:=none,kwonlyargs:=[],kw_defaults:=[],kwarg:=none,defaults:=[] }
noncomputable def yz (s:Stmt):List Stmt:=match s with
 | .FunctionDef _ _ b _ _ _ _ _ _ _=>b
 | _=>[]
noncomputable def zO (s:Stmt):b7:=match s with
 | .FunctionDef _ _ _ _ _ _ sc _ _ _=>sc
 | _=>{ kind:=.function,names:=[],isGenerator:=false,isCoroutine:=false }
noncomputable abbrev veB:List δ:=[.type "ValueError",.type "Exception",.type "BaseException",.type "object"]
end L2
namespace EV
open PySem PySem.Spec PyProof.Rows L2
inductive D where
 | non | bl (b:Bool) | int (i:Int) | str (x:Str)
 | tup (ds:List D) | lst (ds:List D)
 | dK (ks:List Key) (ds:List D) | dT (ks:List (List Key)) (ds:List D)
 | ref (k:Nat) | fn (f:Nat) | scr (ns:List Int) | ktp (ds:List D) | kdc (ps:List (Str×Int)) | dF (ks:List (List Key)) (ds:List D)
 | ins (c:Str) (ns:List Str) (ds:List D)
 deriving Inhabited
inductive Ty where
 | int | bool | str | tuple | list | dict
 deriving DecidableEq
inductive BI where
 | len | abs | int | str | tuple | list | sum | all | any | isinst (t:Ty) | min2 | max2 | sorted | repr | dict | sset | lset | trev
 deriving DecidableEq
inductive MT where
 | get1 | get2 | index | join | split | sidx
 deriving DecidableEq
inductive T where
 | one (i:Nat) | tup (is:List Nat) | nst (i:Nat) (is:List Nat)
 deriving DecidableEq
inductive E where
 | var (i:Nat) | con (d:D) | glo (n:Nat) (d:D)
 | bin (op:aN) (a b:E) | neg (a:E)
 | cmp (op:dW) (a b:E) | chn (o1 o2:dW) (a b c:E)
 | not (a:E) | and (a b:E) | or (a b:E)
 | ite (c a b:E)
 | tup (es:List E) | lst (es:List E) | dic (tk:Bool) (ks:List Key) (vs:List E)
 | sub (a i:E) | slc (a:E) (lo hi:Option E)
 | bi (b:BI) (es:List E) | mth (m:MT) (o:E) (es:List E)
 | call (f:Nat) (es:List E) | callk (f:Nat) (perm:List Nat) (es:List E) | callv (i:Nat) (es:List E)
 | comp (t:T) (js:List Nat) (it:E) (ifs:List E) (elt:E)
 | box (e:E) | one (e:E) | flip (e:E) | dk1 (a b:E)
 | seq (e:E) | rng (lo:Option E) (hi:E) | enum (e:E) | zip (a b:E) | rev (e:E) | items (e:E) | dwn (es:List E) | keys (e:E)
 | att (cs:List Str) (o:E) (f:Str) | met (ms:List (Str×Nat)) (o:E) (m:Str) (es:List E) | mk (c:Str) (f:Nat) (es:List E)
inductive HB where
 | is (k:Nat) | isT (ks:List Nat) | ve | var (j:Nat) | not (a:HB) | and (a b:HB) | or (a b:HB) | one (a:HB)
inductive C where
 | set (t:T) (e:E)
 | expr (e:E)
 | ret (e:E) | retN
 | ite (c:E) (a b:List C)
 | whl (c:E) (b:List C)
 | forr (t:T) (it:E) (b:List C)
 | app (i:Nat) (e:E) | ext (i:Nat) (e:E)
 | stv (i:Nat) (k v:E) | sti (o k v:E) | appR (o e:E) | pop (i:Nat) | popR (t:T) (o:E) | popO (t:T) (i:Nat)
 | pass | brk | cnt | frz (i:Nat) | frr (i:Nat) | frk (i:Nat)
 | rse (c:Nat) | tri (tb:List (List Nat)) (f:Nat) (es:List E) (c i:Nat) (hs:List (Nat×HB))
 | lin (i:Nat) (es:List E)
 | stx (i f:Nat) (es:List E) | sw2 (i j:Nat) (a b:E)
 | trx (tb:List (List Nat)) (j f:Nat) (es:List E) (c i:Nat) (h:HB) (a b:List D) (els:List C)
 | sta (cs:List Str) (o:E) (f:Str) (e:E) | aua (cs:List Str) (o:E) (f:Str) (op:aN) (e:E)
structure Fn where
 np:Nat
 nv:Nat
 body:List C
structure Ob where
 name:Str
 fields:List Str
 meths:List (Str×Nat)
structure Tb where
 fns:List Str
 pars:List (List Str)
 consts:List (Str×D)
 bare:List Str
 kws:List (Nat×List Str×List Nat)
 cls:List (Str×List Nat)
 obs:List Ob:=[]
structure Row where
 name:Str
 st:Stmt
 ps:List Str
 N:List Str
 fn:Fn
noncomputable def frOf (h:Heap) (n:Nat):W.Frag:=(ϛ n).filterMap fun a=>(h.get? a).map fun o=>(a,o)
noncomputable def dotted (x:Str):Bool:=x.cps.contains 46
noncomputable def clOf (x:Str):Str:=⟨(x.cps.toList.takeWhile fun c=>c != 46).toArray⟩
noncomputable def snOf (x:Str):Str:=⟨((x.cps.toList.dropWhile fun c=>c != 46).drop 1).toArray⟩
noncomputable def nmOf (x:Str):Str:=if dotted x=true then snOf x else x
noncomputable def caOf (K:W.Frag) (x:Str):Option Addr:=match W.nsIn K ϋ x with
 | some (some (.ref C))=>some C
 | _=>none
noncomputable def atN (K:W.Frag) (x:Str):Option (Option δ):=if dotted x=true then (match caOf K (clOf x) with
  | some C=>W.findIn K (.ref C) (snOf x)
  | none=>none) else W.nsIn K ϋ x
noncomputable def Ka (K:W.Frag) (x:Str):Option (aG×Bool):=match atN K x with
  | some (some (.ref f))=>(match K.lookup f with
     | some ⟨_,_,.func fd,_⟩=>some ({ fd with kwdefaults:=.none,doc:=.none,pyModule:=.none,annotations:=none,code:=.none,closureTuple:=.none },W.codeIn K fd.code x&&W.keepIn K (.ref f))
     | _=>none)
  | _=>none
noncomputable def kZ:List D->List δ->Bool
 | [],[]=>true
 | .str x::ds,.str y _::vs=>x==y&&kZ ds vs
 | .int i::ds,.int j _::vs=>i==j&&kZ ds vs
 | _,_=>false
noncomputable def zd3 (K:W.Frag) (a:Addr):Option (Array δ):=(K.lookup a).bind fun o=>match o.cls,o.data with
 | .type t,.seq its _=>if (t=="tuple"&&decide (its.size<=1000))=true then some its else none
 | _,_=>none
noncomputable def zgy (K:W.Frag) (a:Addr) (ps:List (Str×Int)):Bool:=(match K.lookup a with
  | some o=>(match o.cls with | .type t=>t=="dict" | _=>false)&&o.dict.isNone
  | none=>false)&&KTD.tabLook (KTD.datLooks fun b=>K.lookup b) (fun b=>K.lookup b) a (ps.map fun p=>(p.1,.flat (.int p.2)))
noncomputable def XH (K:W.Frag) (rs:List Row) (x:Str):D->Bool
 | .int i=>(match W.nsIn K ϋ x with | some (some (.int j _))=>i==j | _=>false)
 | .str y=>(match W.nsIn K ϋ x with | some (some (.str z _))=>y==z | _=>false)
 | .fn i=>(match rs[i]? with | some r=>r.name==x&&!dotted x | none=>false)
 | .ktp ds=>(match W.nsIn K ϋ x with | some (some (.ref a))=>(match zd3 K a with | some its=>kZ ds its.toList | none=>false) | _=>false)
 | .kdc ps=>(match W.nsIn K ϋ x with | some (some (.ref a))=>zgy K a ps | _=>false)
 | _=>false
noncomputable def zav (K:W.Frag) (cs:List (Str×List Nat)) (p:Str×List Nat):Bool:=match caOf K p.1 with
  | some C=>W.excIn K C veB "ValueError.__new__"&&W.findIn K (.ref C) "__getattribute__"==some (some (.builtin "BaseException.__getattribute__"))&&W.findIn K (.ref C) "__getattr__"==some none&&W.findIn K (.ref C) "__class__"==some (some (.builtin "object.__class__"))
   &&W.mroIn K C (.type "BaseException")==some true&&W.mroIn K C (.type "object")==some true&&(W.clsIn K C).isSome&&W.kitOne K (.ref C) (.type "ValueError")==some true
   &&(ϛ cs.length).all fun k=>match cs[k]? with
      | some q=>(match caOf K q.1 with
        | some Ck=>W.kitOne K (.ref C) (.ref Ck)==some (p.2.contains k)&&W.exmOne K (.ref C) (.ref Ck)==some (p.2.contains k)
        | none=>false)
      | none=>false
  | none=>false
noncomputable def obOk (K:W.Frag) (rs:List Row) (o:Ob):Bool:=match caOf K o.name with
  | some C=>W.plainGet K C Str.empty&&W.hasDictIn K C&&W.plainOver K C&&W.findIn K (.ref C) "__setattr__"==some (some (.builtin "object.__setattr__"))
   &&o.fields.all (fun f=>W.findIn K (.ref C) f==some none)&&(!(o.meths.any fun q=>q.1==("__init__":Str))||(W.makesIn K C&&W.keepIn K (.ref C)))
   &&o.meths.all fun q=>match rs[q.2]? with
      | some r=>(match atN K r.name with
        | some (some (.ref a))=>W.findIn K (.ref C) q.1==some (some (.ref a))&&W.isFn K (.ref a)&&W.keepIn K (.ref a)
        | _=>false)
      | none=>false
  | none=>false
noncomputable def Qv (K:W.Frag) (B:Tb) (rs:List Row):List (Option (aG×Bool))×List (Option (Option δ))×List Bool×List Bool×List Bool:=
 (rs.map fun r=>Ka K r.name,B.bare.map fun x=>W.nsIn K ϋ x,B.consts.map fun p=>XH K rs p.1 p.2,B.cls.map fun p=>zav K B.cls p,B.obs.map fun o=>obOk K rs o)
noncomputable def Qm (B:Tb) (rs:List Row):List (Option (aG×Bool))×List (Option (Option δ))×List Bool×List Bool×List Bool:=
 (rs.map fun r=>some (W.fnOf (nmOf r.name) r.name (yQ r.st) (yz r.st) (zO r.st) .none .none .none .none none .none .none,true),B.bare.map fun _=>some none,B.consts.map fun _=>true,B.cls.map fun _=>true,B.obs.map fun _=>true)
noncomputable def drOf (s:Stmt):DefRec:=match s with
 | .FunctionDef n a b _ _ _ sc _ _ p=>⟨n,a,b,sc,p⟩
 | _=>⟨"",yQ s,[],zO s,⟨0,0,0,0⟩⟩
noncomputable def zdr:Stmt->List Stmt
 | .ClassDef _ _ _ b _ _ _ _ _ _ _=>b
 | _=>[]
end EV
local macro_rules | `(⇑$n:num) => `(EV.E.var $n)
local macro_rules | `(↥$n:num) => `(EV.E.con (EV.D.int $n)) | `(↥$s:str) => `(EV.E.con (EV.D.str $s))
namespace Q06
open PySem PySem.Spec PyProof.Rows L2 EV
def top (i:Nat):Stmt:=Ϩ.main.body.getD i (.Pass ⟨0,0,0,0⟩)
noncomputable def mtop (i j:Nat):Stmt:=(EV.zdr (top i)).getD j (.Pass ⟨0,0,0,0⟩)
noncomputable abbrev qd:List C:=[.ret (.and (.bi (.isinst .int) [⇑0]) (.one (.not (.bi (.isinst .bool) [⇑0]))))]
noncomputable def j5:EV.Row:=⟨"is_whole",top 10,["one"],["one"],⟨1,1,qd⟩⟩
noncomputable abbrev jH:List C:=[.ret (.and (.call 0 [⇑0]) (.one (.chn .LtE .Lt ↥0 ⇑0 (.glo 0 (.int 1000000007)))))]
noncomputable def u9:EV.Row:=⟨"is_number",top 11,["one"],["one"],⟨1,1,jH⟩⟩
noncomputable abbrev YH:List C:=[.ret (.and (.bi (.isinst .str) [⇑0]) (.one (.cmp .In ⇑0 (.glo 1 (.ktp [(.str "+"),(.str "-"),(.str "*"),(.str "<"),(.str "=")])))))]
noncomputable def ZG:EV.Row:=⟨"is_sign",top 12,["one"],["one"],⟨1,1,YH⟩⟩
noncomputable abbrev uo:List C:=[.ret (.call 4 [⇑0,⇑1,(.glo 2 (.int 3))])]
noncomputable def ud:EV.Row:=⟨"is_formula",top 13,["one","is_name"],["one","is_name"],⟨2,2,uo⟩⟩
noncomputable abbrev yK:List C:=[.ite (.or (.call 1 [⇑0]) (.one (.callv 1 [⇑0]))) [.ret (.con (.bl true))] [],.ite (.or (.cmp .Eq ⇑2 ↥0) (.or (.not (.bi (.isinst .tuple) [⇑0])) (.or (.cmp .NotEq (.bi .len [⇑0]) ↥3) (.one (.not (.call 2 [(.sub ⇑0 ↥0)])))))) [.ret (.con (.bl false))] [],.ret (.and (.call 4 [(.sub ⇑0 ↥1),⇑1,(.bin .Sub ⇑2 ↥1)]) (.one (.call 4 [(.sub ⇑0 ↥2),⇑1,(.bin .Sub ⇑2 ↥1)])))]
noncomputable def yI:EV.Row:=⟨"is_formula_within",top 14,["one","is_name","deeper"],["one","is_name","deeper"],⟨3,3,yK⟩⟩
noncomputable abbrev YG:List C:=[.ite (.or (.not (.bi (.isinst .str) [⇑0])) (.one (.not (.chn .LtE .LtE ↥1 (.bi .len [⇑0]) (.glo 4 (.int 8)))))) [.ret (.con (.bl false))] [],.ret (.bi .all [(.comp (.one 0) [] (.seq ⇑0) [] (.cmp .In ⇑0 (.glo 3 (.str "abcdefghijklmnopqrstuvwxyz"))))])]
noncomputable def ZF:EV.Row:=⟨"is_word",top 18,["one"],["one"],⟨1,1,YG⟩⟩
noncomputable abbrev yZ:List C:=[.ret (.call 3 [⇑0,(.glo 8 (.fn 5))])]
noncomputable def yU:EV.Row:=⟨"is_name_formula",top 19,["one"],["one"],⟨1,1,yZ⟩⟩
noncomputable abbrev ul:List C:=[.ite (.bi (.isinst .tuple) [⇑0]) [.ret (.bin .Add (.bin .Add (.bin .Add (.bin .Add ↥"(" (.call 7 [(.sub ⇑0 ↥1)])) (.sub ⇑0 ↥0)) (.call 7 [(.sub ⇑0 ↥2)])) ↥")")] [],.ret (.bi .str [⇑0])]
noncomputable def v8:EV.Row:=⟨"worth_text",top 21,["one"],["one"],⟨1,1,ul⟩⟩
noncomputable abbrev um:List C:=[.ite (.not (.bi (.isinst .str) [⇑0])) [.rse 1] [],.set (.one 1) (.mk "Signs" 27 [⇑0]),.stx 2 9 [⇑1,(.glo 2 (.int 3))],.ite (.or (.not (.call 6 [⇑2])) (.one (.cmp .NotEq (.call 7 [⇑2]) ⇑0))) [.rse 1] [],.ret ⇑2]
noncomputable def uc:EV.Row:=⟨"read_worth",top 27,["text"],["text","signs","one"],⟨1,3,um⟩⟩
noncomputable abbrev jF:List C:=[.ite (.cmp .NotEq (.met [(("Signs":Str),28)] ⇑0 "ahead" []) ↥"(") [.ret (.call 10 [⇑0])] [],.ite (.cmp .Eq ⇑1 ↥0) [.rse 1] [],.expr (.met [(("Signs":Str),29)] ⇑0 "taken" []),.stx 2 9 [⇑0,(.bin .Sub ⇑1 ↥1)],.set (.one 3) (.met [(("Signs":Str),29)] ⇑0 "taken" []),.stx 4 9 [⇑0,(.bin .Sub ⇑1 ↥1)],.expr (.met [(("Signs":Str),29)] ⇑0 "taken" []),.frz 3,.ret (.tup [⇑3,⇑2,⇑4])]
noncomputable def u5:EV.Row:=⟨"read_part",top 28,["signs","deeper"],["signs","deeper","left","sign","right"],⟨2,5,jF⟩⟩
noncomputable abbrev jG:List C:=[.set (.one 1) (.lst []),.whl (.and (.cmp .NotEq (.met [(("Signs":Str),28)] ⇑0 "ahead" []) ↥"") (.one (.cmp .In (.met [(("Signs":Str),28)] ⇑0 "ahead" []) (.glo 6 (.str "abcdefghijklmnopqrstuvwxyz0123456789"))))) [.app 1 (.met [(("Signs":Str),29)] ⇑0 "taken" [])],.frz 1,.ret (.call 11 [(.mth .join ↥"" [⇑1])])]
noncomputable def u6:EV.Row:=⟨"read_leaf",top 29,["signs"],["signs","leaf"],⟨1,2,jG⟩⟩
noncomputable abbrev wI:List C:=[.ite (.and (.chn .LtE .LtE ↥1 (.bi .len [⇑0]) (.glo 7 (.int 10))) (.one (.bi .all [(.comp (.one 0) [] (.seq ⇑0) [] (.cmp .In ⇑0 (.glo 5 (.str "0123456789"))))]))) [.ret (.bi .int [⇑0])] [],.ret ⇑0]
noncomputable def wD:EV.Row:=⟨"read_figures",top 30,["text"],["text"],⟨1,1,wI⟩⟩
noncomputable abbrev wJ:List C:=[.set (.one 1) (.lst []),.set (.one 2) (.bi .abs [⇑0]),.ite (.cmp .GtE ⇑2 (.bin .Pow ↥10 ↥18)) [.forr (.one 3) (.rng none ↥60) [.ite (.cmp .Gt ⇑2 ↥0) [.app 1 (.bin .Mod ⇑2 (.bin .Pow ↥10 ↥6)),.set (.one 2) (.bin .FloorDiv ⇑2 (.bin .Pow ↥10 ↥6))] []],.ret ⇑1] [],.forr (.one 3) (.rng none ↥8) [.set (.one 4) (.bin .Mod (.bin .Mult (.bin .Add (.bin .Add (.bin .Add (.bin .Mod ⇑0 ↥2147483647) (.bin .Mult (.bin .Mult ↥977 ⇑3) ⇑3)) (.bin .Mult ↥31 ⇑3)) ↥1) ↥48271) ↥2147483647),.set (.one 4) (.bin .Mod (.bin .Mult ⇑4 ⇑4) ↥2147483647),.app 1 (.bin .Mod (.bin .FloorDiv (.bin .Mod (.bin .Mult (.bin .Add ⇑4 (.bin .Mult ↥40692 (.bin .Add ⇑3 ↥3))) ↥69621) ↥2147483629) ↥8) (.bin .Pow ↥10 ↥6))],.ret ⇑1]
noncomputable def wF:EV.Row:=⟨"_law_numbers",top 32,["_law_cell"],["_law_cell","_law_found","_law_left","_law_k","_law_one"],⟨1,5,wJ⟩⟩
noncomputable abbrev v5:List C:=[.set (.one 1) (.lst []),.forr (.one 2) (.seq (.slc ⇑0 none (some ↥63))) [.set (.one 1) (.bin .Add ⇑1 (.call 12 [⇑2]))],.ite (.cmp .Eq ⇑1 (.lst [])) [.set (.one 1) (.call 12 [↥0])] [],.frz 1,.ret (.lst [⇑1,↥0,(.bin .Mod (.bin .Add ↥7919 (.bin .Mult ↥40693 (.bi .sum [⇑1]))) ↥2147483629)])]
noncomputable def j6:EV.Row:=⟨"_law_pot",top 33,["_law_script"],["_law_script","_law_found","_law_cell"],⟨1,3,v5⟩⟩
noncomputable abbrev jK:List C:=[.set (.one 2) (.sub ⇑0 ↥1),.sti ⇑0 ↥1 (.bin .Add ⇑2 ↥1),.ite (.cmp .Lt ⇑2 (.bi .len [(.sub ⇑0 ↥0)])) [.ret (.bin .Mod (.sub (.sub ⇑0 ↥0) ⇑2) ⇑1)] [],.sti ⇑0 ↥2 (.bin .Mod (.bin .Add (.bin .Add (.bin .Mult (.sub ⇑0 ↥2) (.sub ⇑0 ↥2)) ↥40692) ⇑2) ↥2147483629),.ret (.bin .Mod (.bin .Mod (.bin .FloorDiv (.sub ⇑0 ↥2) ↥8) (.bin .Pow ↥10 ↥6)) ⇑1)]
noncomputable def jc:EV.Row:=⟨"_law_take",top 34,["_law_pot_here","_law_many"],["_law_pot_here","_law_many","_law_at"],⟨2,3,jK⟩⟩
noncomputable abbrev jJ:List C:=[.set (.one 1) (.call 14 [⇑0,↥4]),.ite (.cmp .Eq ⇑1 ↥0) [.ret (.sub (.lst [↥"end",↥"ask",↥"call",↥"set",↥"if",↥"errand",↥"catch",↥"undo",↥"else",↥"want",↥"try",↥"do",↥"tell",↥"give",↥"fail",↥"while"]) (.call 14 [⇑0,↥16]))] [],.ite (.cmp .Eq ⇑1 ↥1) [.ret (.slc ↥"aaaaaaaa" none (some (.bin .Add ↥1 (.call 14 [⇑0,↥8]))))] [],.set (.one 2) ↥"",.forr (.one 3) (.rng none (.sub (.lst [↥1,(.bin .Add ↥1 (.call 14 [⇑0,↥8]))]) (.bin .Sub ⇑1 ↥2))) [.set (.one 2) (.bin .Add ⇑2 (.sub ↥"abcdefghijklmnopqrstuvwxyz" (.call 14 [⇑0,↥26])))],.ret ⇑2]
noncomputable def jb:EV.Row:=⟨"_law_word",top 35,["_law_pot_here"],["_law_pot_here","_law_way","_law_found","_law_k"],⟨1,4,jJ⟩⟩
noncomputable abbrev uq:List C:=[.set (.one 2) (.lst []),.forr (.one 3) (.rng none ⇑1) [.set (.one 4) (.call 15 [⇑0]),.ite (.cmp .NotIn ⇑4 ⇑2) [.frz 4,.app 2 ⇑4] []],.ret ⇑2]
noncomputable def uf:EV.Row:=⟨"_law_words",top 36,["_law_pot_here","_law_many"],["_law_pot_here","_law_many","_law_found","_law_k","_law_one"],⟨2,5,uq⟩⟩
noncomputable abbrev yO:List C:=[.set (.one 3) (.call 14 [⇑0,↥6]),.ite (.and (.cmp .Gt ⇑2 ↥0) (.one (.cmp .Gt ⇑3 ↥2))) [.set (.one 4) (.sub ↥"+-*<=" (.call 14 [⇑0,↥5])),.set (.one 5) (.call 17 [⇑0,⇑1,(.bin .Sub ⇑2 ↥1)]),.ret (.tup [⇑4,⇑5,(.call 17 [⇑0,⇑1,(.bin .Sub ⇑2 ↥1)])])] [],.ite (.and (.cmp .Eq (.bin .Mod ⇑3 ↥2) ↥0) (.one (.cmp .NotEq ⇑1 (.lst [])))) [.ret (.sub ⇑1 (.call 14 [⇑0,(.bi .len [⇑1])]))] [],.ite (.cmp .Eq ⇑3 ↥1) [.ret (.call 14 [⇑0,↥12])] [],.ite (.cmp .Eq ⇑3 ↥3) [.ret (.bin .Sub ↥1000000006 (.call 14 [⇑0,↥3]))] [],.set (.one 5) (.call 14 [⇑0,(.bin .Pow ↥10 ↥6)]),.ret (.bin .Mod (.bin .Add (.bin .Mult ⇑5 (.bin .Pow ↥10 ↥6)) (.call 14 [⇑0,(.bin .Pow ↥10 ↥6)])) ↥1000000007)]
noncomputable def ue:EV.Row:=⟨"_law_worth",top 37,["_law_pot_here","_law_names","_law_deep"],["_law_pot_here","_law_names","_law_deep","_law_way","_law_sign","_law_one"],⟨3,6,yO⟩⟩
noncomputable abbrev wj:List C:=[.set (.one 1) ↥" !\"#$&'()*+,-./0123456789:;<=>?@ABCDEFGHIJKLMNOPQRSTUVWXYZ[\\]^_`",.ret (.sub (.bin .Add ⇑1 ↥"abcdefghijklmnopqrstuvwxyz{|}~\n") (.bin .Mod ⇑0 ↥95))]
noncomputable def xT:EV.Row:=⟨"_law_any_sign",top 38,["_law_number"],["_law_number","_law_some"],⟨1,2,wj⟩⟩
noncomputable abbrev xf:List C:=[.ite (.bi (.isinst .tuple) [⇑0]) [.ret (.bin .Add (.bin .Add (.bin .Add (.bin .Add ↥"(" (.call 19 [(.sub ⇑0 ↥1)])) (.sub ⇑0 ↥0)) (.call 19 [(.sub ⇑0 ↥2)])) ↥")")] [],.ret (.bi .str [⇑0])]
noncomputable def yV:EV.Row:=⟨"_law_worth_text",top 39,["_law_one"],["_law_one"],⟨1,1,xf⟩⟩
noncomputable abbrev jL:List C:=[.ite (.bi (.isinst .tuple) [⇑1]) [.ite (.or (.not (.bi (.isinst .tuple) [⇑0])) (.one (.cmp .NotEq (.bi .len [⇑0]) (.bi .len [⇑1])))) [.ret (.con (.bl false))] [],.ret (.bi .all [(.comp (.tup [0,1]) [] (.zip ⇑0 ⇑1) [] (.call 20 [⇑0,⇑1]))])] [],.ite (.bi (.isinst .int) [⇑1]) [.ret (.and (.bi (.isinst .int) [⇑0]) (.and (.not (.bi (.isinst .bool) [⇑0])) (.one (.cmp .Eq ⇑0 ⇑1))))] [],.ite (.cmp .Is ⇑1 (.con .non)) [.ret (.cmp .Is ⇑0 (.con .non))] [],.ret (.and (.bi (.isinst .str) [⇑0]) (.one (.cmp .Eq ⇑0 ⇑1)))]
noncomputable def jd:EV.Row:=⟨"_law_same",top 40,["_law_found","_law_due"],["_law_found","_law_due"],⟨2,2,jL⟩⟩
noncomputable abbrev jM:List C:=[.trx [[0],[1,0],[2,0],[3,0],[4,0]] 1 8 [⇑0] 0 2 (.and (.is 1) (.and .ve (.one (.not (.isT [2,3,4]))))) [(.str "none"),.non] [(.str "other"),.non] [.ret (.tup [↥"read",⇑1])]]
noncomputable def je:EV.Row:=⟨"_law_read",top 41,["_law_text"],["_law_text","_law_found","e"],⟨1,3,jM⟩⟩
noncomputable abbrev vK:List C:=[.set (.one 1) (.lst []),.set (.one 2) ↥"",.forr (.one 3) (.seq (.bin .Add ⇑0 ↥"(")) [.ite (.cmp .In ⇑3 ↥"()+-*<=") [.ite (.cmp .NotEq ⇑2 ↥"") [.app 1 ⇑2] [],.app 1 ⇑3,.set (.one 2) ↥""] [.set (.one 2) (.bin .Add ⇑2 ⇑3)]],.ret (.slc ⇑1 none (some (.neg ↥1)))]
noncomputable def vp:EV.Row:=⟨"_law_tokens",top 42,["_law_text"],["_law_text","_law_found","_law_word_here","_law_sign"],⟨1,4,vK⟩⟩
noncomputable abbrev jN:List C:=[.ite (.bi .all [(.comp (.one 0) [] (.seq ⇑0) [] (.cmp .In ⇑0 ↥"abcdefghijklmnopqrstuvwxyz"))]) [.ret (.slc (.lst [⇑0]) none (some (.bi .int [(.cmp .Lt (.bi .len [⇑0]) ↥9)])))] [],.set (.one 1) ↥0,.forr (.one 2) (.seq (.slc ⇑0 none (some ↥11))) [.ite (.cmp .NotIn ⇑2 ↥"0123456789") [.ret (.lst [])] [],.set (.one 1) (.bin .Add (.bin .Mult ↥10 ⇑1) (.mth .sidx ↥"0123456789" [⇑2]))],.ret (.slc (.lst [⇑1]) none (some (.bi .int [(.and (.cmp .Lt ⇑1 ↥1000000007) (.one (.cmp .Eq (.bi .str [⇑1]) ⇑0)))])))]
noncomputable def jf:EV.Row:=⟨"_law_atom",top 43,["_law_word_here"],["_law_word_here","_law_number","_law_sign"],⟨1,3,jN⟩⟩
noncomputable abbrev qe:List C:=[.set (.one 1) (.lst []),.forr (.one 2) (.seq (.call 22 [⇑0])) [.ite (.cmp .In ⇑2 ↥"()+-*<=") [.app 1 ⇑2] [.set (.one 3) (.call 23 [⇑2]),.ite (.cmp .Eq ⇑3 (.lst [])) [.ret (.tup [↥"none",(.con .non)])] [],.app 1 (.lst [(.sub ⇑3 ↥0),↥0])],.ite (.cmp .Eq ⇑2 ↥")") [.ite (.or (.cmp .Lt (.bi .len [⇑1]) ↥5) (.or (.cmp .NotEq (.sub ⇑1 (.neg ↥5)) ↥"(") (.one (.cmp .NotIn (.sub ⇑1 (.neg ↥3)) (.bi .list [↥"+-*<="]))))) [.ret (.tup [↥"none",(.con .non)])] [],.sw2 4 5 (.sub ⇑1 (.neg ↥4)) (.sub ⇑1 (.neg ↥2)),.ite (.or (.not (.bi (.isinst .list) [⇑4])) (.one (.not (.bi (.isinst .list) [⇑5])))) [.ret (.tup [↥"none",(.con .non)])] [],.set (.one 1) (.bin .Add (.slc ⇑1 none (some (.neg ↥5))) (.lst [(.lst [(.tup [(.sub ⇑1 (.neg ↥3)),(.sub ⇑4 ↥0),(.sub ⇑5 ↥0)]),(.bin .Add ↥1 (.bi .max2 [(.sub ⇑4 ↥1),(.sub ⇑5 ↥1)]))])]))] []],.ite (.or (.cmp .NotEq (.bi .len [⇑1]) ↥1) (.or (.not (.bi (.isinst .list) [(.sub ⇑1 ↥0)])) (.one (.cmp .Gt (.sub (.sub ⇑1 ↥0) ↥1) ↥3)))) [.ret (.tup [↥"none",(.con .non)])] [],.ret (.tup [↥"read",(.sub (.sub ⇑1 ↥0) ↥0)])]
noncomputable def j7:EV.Row:=⟨"_law_due",top 44,["_law_text"],["_law_text","_law_held","_law_token","_law_atom_here","_law_one","_law_other"],⟨1,6,qe⟩⟩
noncomputable abbrev vL:List C:=[.set (.one 2) (.call 14 [⇑0,↥8]),.set (.one 3) (.call 14 [⇑0,(.bin .Add (.bi .len [⇑1]) ↥1)]),.set (.one 4) (.call 18 [(.call 14 [⇑0,(.bin .Pow ↥10 ↥6)])]),.ite (.cmp .Eq ⇑2 ↥2) [.ret (.bin .Add (.bin .Add (.slc ⇑1 none (some ⇑3)) ⇑4) (.slc ⇑1 (some (.bin .Add ⇑3 ↥1)) none))] [],.ite (.cmp .Eq ⇑2 ↥3) [.ret (.bin .Add (.slc ⇑1 none (some ⇑3)) (.slc ⇑1 (some (.bin .Add ⇑3 ↥1)) none))] [],.ite (.cmp .Eq ⇑2 ↥4) [.ret (.bin .Add (.bin .Add (.slc ⇑1 none (some ⇑3)) ⇑4) (.slc ⇑1 (some ⇑3) none))] [],.ite (.cmp .Eq ⇑2 ↥5) [.ret (.bin .Add (.bin .Add (.bin .Add ↥"(" ⇑1) (.sub ↥"+-*<=" (.bin .Mod ⇑3 ↥5))) ↥"x)")] [],.ite (.cmp .Eq ⇑2 ↥6) [.ret (.bin .Add (.bin .Add (.bin .Add ↥"(0" (.sub ↥"+-*<=" (.bin .Mod ⇑3 ↥5))) ⇑1) ↥")")] [],.ite (.cmp .Eq ⇑2 ↥7) [.set (.one 5) (.lst [↥"",↥"()",↥"(1)",↥"(1+2",↥"1+2",↥"((1+2)",↥"(1+2)+3",↥"(1+2))",↥"((1+2))",↥"(1+)",↥"(+1)"]),.set (.one 5) (.bin .Add ⇑5 (.lst [↥"(+)",↥"1000000006",↥"1000000007",↥"9999999999",↥"10000000000",↥"00",↥"01",↥"-1"])),.set (.one 5) (.bin .Add ⇑5 (.lst [↥"+1",↥"0",↥"-0",↥"007"])),.set (.one 5) (.bin .Add ⇑5 (.lst [↥"abcdefgh",↥"abcdefghi",↥"A",↥"a1",↥"1a",↥"(1 + 2)",↥"(1+2) ",↥" 1",↥"1\n"])),.set (.one 5) (.bin .Add ⇑5 (.lst [↥"a\n",↥"(a=b=c)",↥"(1==1)",↥"(1<=2)",↥"(a b)",↥"a b",↥"a=",↥"=",↥"(((1+1)+1)+1)"])),.set (.one 5) (.bin .Add ⇑5 (.lst [↥"((((1+1)+1)+1)+1)"])),.set (.one 5) (.bin .Add ⇑5 (.lst [↥"(1+(1+(1+1)))",↥"(1+(1+(1+(1+1))))",↥")",↥"(",↥")(",↥"(a-b)(c-d)",↥"1.0",↥"1_0"])),.ret (.sub ⇑5 (.call 14 [⇑0,(.bi .len [⇑5])]))] [],.ret ⇑1]
noncomputable def vq:EV.Row:=⟨"_law_spoilt",top 45,["_law_pot_here","_law_text"],["_law_pot_here","_law_text","_law_way","_law_at","_law_sign","_law_some"],⟨2,6,vL⟩⟩
noncomputable abbrev zgH:List C:=[.set (.one 1) (.box (.call 13 [⇑0])),.set (.one 2) (.call 14 [⇑1,↥4]),.set (.one 3) (.call 17 [⇑1,(.call 16 [⇑1,⇑2]),↥3]),.set (.one 4) (.call 19 [⇑3]),.set (.one 5) (.call 7 [⇑3]),.ite (.or (.not (.bi (.isinst .str) [⇑5])) (.one (.cmp .NotEq ⇑5 ⇑4))) [.ret (.con (.bl false))] [],.ite (.not (.call 20 [(.call 21 [⇑4]),(.tup [↥"read",⇑3])])) [.ret (.con (.bl false))] [],.set (.one 6) (.call 25 [⇑1,⇑4]),.frz 6,.set (.one 7) (.call 24 [⇑6]),.frz 6,.ite (.or (.not (.call 20 [(.call 21 [⇑6]),⇑7])) (.one (.not (.call 20 [(.call 21 [⇑6]),⇑7])))) [.ret (.con (.bl false))] [],.set (.one 8) (.sub (.lst [(.con .non),↥3,(.con (.bl true)),(.tup [⇑4]),(.lst [⇑4]),(.tup [↥"+",↥1,↥2])]) (.call 14 [⇑1,↥6])),.set (.one 9) (.bin .Add ↥4 (.call 14 [⇑1,↥1997])),.set (.one 10) (.sub (.lst [(.bin .Mult ↥"(" ⇑9),(.bin .Add (.bin .Add (.bin .Mult ↥"(" ⇑9) ↥"1") (.bin .Mult ↥"+1)" ⇑9))]) (.bin .Mod ⇑9 ↥2)),.ite (.or (.cmp .NotEq (.call 21 [⇑8]) (.tup [↥"none",(.con .non)])) (.one (.cmp .NotEq (.call 21 [⇑10]) (.tup [↥"none",(.con .non)])))) [.ret (.con (.bl false))] [],.ite (.not (.call 20 [(.callk 8 [0] [⇑4]),⇑3])) [.ret (.con (.bl false))] [],.ret (.and (.call 20 [(.call 21 [⇑4]),(.tup [↥"read",⇑3])]) (.one (.cmp .Eq (.callk 7 [0] [⇑3]) ⇑4)))]
noncomputable def zcn:EV.Row:=⟨"law",top 46,["_law_script"],["_law_script","_law_pot_here","_law_way","_law_one","_law_text","_law_told","_law_other","_law_due_here","_law_thing","_law_many","_law_great"],⟨1,11,zgH⟩⟩
noncomputable abbrev xO:List C:=[.sta [("Signs":Str)] ⇑0 "text" ⇑1,.sta [("Signs":Str)] ⇑0 "at" ↥0]
noncomputable def xJ:EV.Row:=⟨"Signs.__init__",mtop 26 0,["self","text"],["self","text"],⟨2,2,xO⟩⟩
noncomputable abbrev vN:List C:=[.ret (.slc (.att [("Signs":Str)] ⇑0 "text") (some (.att [("Signs":Str)] ⇑0 "at")) (some (.bin .Add (.att [("Signs":Str)] ⇑0 "at") ↥1)))]
noncomputable def vB:EV.Row:=⟨"Signs.ahead",mtop 26 1,["self"],["self"],⟨1,1,vN⟩⟩
noncomputable abbrev vM:List C:=[.aua [("Signs":Str)] ⇑0 "at" .Add ↥1,.ret (.slc (.att [("Signs":Str)] ⇑0 "text") (some (.bin .Sub (.att [("Signs":Str)] ⇑0 "at") ↥1)) (some (.att [("Signs":Str)] ⇑0 "at")))]
noncomputable def vA:EV.Row:=⟨"Signs.taken",mtop 26 2,["self"],["self"],⟨1,1,vM⟩⟩
noncomputable def rs:List EV.Row:=[j5,u9,ZG,ud,yI,ZF,yU,v8,uc,u5,u6,wD,wF,j6,jc,jb,uf,ue,xT,yV,jd,je,vp,jf,j7,vq,zcn,xJ,vB,vA]
noncomputable def B:Tb:=⟨["is_whole","is_number","is_sign","is_formula","is_formula_within","is_word","is_name_formula","worth_text","read_worth","read_part","read_leaf","read_figures","_law_numbers","_law_pot","_law_take","_law_word","_law_words","_law_worth","_law_any_sign","_law_worth_text","_law_same","_law_read","_law_tokens","_law_atom","_law_due","_law_spoilt","law","Signs.__init__","Signs.ahead","Signs.taken"],[["one"],["one"],["one"],["one","is_name"],["one","is_name","deeper"],["one"],["one"],["one"],["text"],["signs","deeper"],["signs"],["text"],["_law_cell"],["_law_script"],["_law_pot_here","_law_many"],["_law_pot_here"],["_law_pot_here","_law_many"],["_law_pot_here","_law_names","_law_deep"],["_law_number"],["_law_one"],["_law_found","_law_due"],["_law_text"],["_law_text"],["_law_word_here"],["_law_text"],["_law_pot_here","_law_text"],["_law_script"],["self","text"],["self"],["self"]],[("MODULUS",(.int 1000000007)),("SIGNS",(.ktp [(.str "+"),(.str "-"),(.str "*"),(.str "<"),(.str "=")])),("DEEPEST_TRIPLE",(.int 3)),("LETTERS",(.str "abcdefghijklmnopqrstuvwxyz")),("LONGEST_WORD",(.int 8)),("FIGURES",(.str "0123456789")),("LEAF_SIGNS",(.str "abcdefghijklmnopqrstuvwxyz0123456789")),("MOST_FIGURES",(.int 10)),("is_word",(.fn 5))],["ValueError","abs","all","bool","int","isinstance","len","list","max","range","str","sum","tuple","zip"],[(7,["one"],[0]),(8,["text"],[0])],[("ErrandError",[0]),("NoText",[1,0]),("NoErrand",[2,0]),("TooMany",[3,0]),("NoRow",[4,0])],[⟨"Signs",[("text":Str),("at":Str)],[(("__init__":Str),27),(("ahead":Str),28),(("taken":Str),29)]⟩]⟩
noncomputable def jq:PySem.Program:={ Ϩ with main:={ Ϩ.main with body:=((((((Ϩ.main.body).eraseIdx 31).eraseIdx 22).eraseIdx 20).eraseIdx 15).eraseIdx 6).eraseIdx 0 } }
theorem zcZ:W.LeftO ω.prog jq [] (fun s=>W.xlAt jq [] s&&W.recOk [] s) (fun s=>EV.Qv (EV.frOf s.heap 500) B rs) (fun _=>EV.Qm B rs) 12000:=fun w=>by kernel_rfl
noncomputable def ug:PySem.DefRec:=EV.drOf (top 46)
theorem zid:ω.wellSaid=true:=by kernel_rfl
theorem zij:W.defOf jq ω.name=some (ug,[]):=by kernel_rfl
theorem zii:ω.prog.theDef ω.name=some (ug.params,ug.body,ug.scope):=by kernel_rfl
theorem zih:W.kwWritten? ug.params.kwonlyargs ug.params.kw_defaults=some []:=by kernel_rfl
theorem zie:(W.chainsOk jq&&W.opensWell ω.prog&&(W.frees ω.row.toRowW&&ω.row.within.isEmpty))=true:=by kernel_rfl
theorem zig:ug.params.defaults=[]:=by kernel_rfl
theorem zif:ω.prog.bare:=⟨rfl,rfl,rfl,rfl,rfl,by decide +kernel⟩
theorem zic:ω.row.toRowW.promised:=by w_witness2
end Q06
namespace L2
open PySem PySem.Spec PyProof.Rows
noncomputable def Vu:Key->δ->Bool
 | .inl k,v=>δ.isInt k v
 | .inr x,v=>iz x v
noncomputable def keyH (w:ϙ):Key->Int
 | .inl k=>hashInt k
 | .inr x=>hashStr w x
theorem zW:∀ {k:Key}{v:δ},Vu k v=true->(∃ i t,k=eU i/\v=Ϧ i t)\/(∃ x t,k=cY x/\v=ϴ x t)
 | .inl i,v,h=>by obtain ⟨t,e⟩:=δ.isInt_shape (k:=i) (v:=v) h;exact .inl ⟨i,t,rfl,e⟩
 | .inr x,v,h=>by obtain ⟨t,e⟩:=δ.isStrOf_shape (x:=x) (v:=v) h;exact .inr ⟨x,t,rfl,e⟩
theorem JD (i:Int) (t:Tok):Vu (.inl i) (.int i t)=true:=by simp [Vu,δ.isInt]
theorem JC (x:Str) (t:Tok):Vu (.inr x) (.str x t)=true:=by simp [Vu,iz]
theorem zfP (a b:Int):decide ((eU a:Key)=eU b)=(a==b):=by
 by_cases e:a=b
 ·subst e;simp
 ·have h:¬ (eU a:Key)=eU b:=fun q=>e (eU.inj q)
  rw [decide_eq_false h];exact (beq_eq_false_iff_ne.mpr e).symm
theorem zfM (a b:Str):decide ((cY a:Key)=cY b)=decide (a=b):=by
 by_cases e:a=b
 ·subst e;simp
 ·have h:¬ (cY a:Key)=cY b:=fun q=>e (cY.inj q)
  rw [decide_eq_false h,decide_eq_false e]
theorem zfO (a:Int) (b:Str):decide ((eU a:Key)=cY b)=false:=decide_eq_false (fun q=>nomatch q)
theorem zfN (a:Str) (b:Int):decide ((cY a:Key)=eU b)=false:=decide_eq_false (fun q=>nomatch q)
noncomputable def yt (prog:Τ) (w:ϙ):PySem.KeyKind prog w Key where
 is:=Vu
 hash:=keyH w
 inj:=fun v a b ha hb=>by
  rcases zW ha with ⟨i,t,rfl,rfl⟩ | ⟨x,t,rfl,rfl⟩
  ·rcases zW hb with ⟨j,u,rfl,e⟩ | ⟨y,u,rfl,e⟩
   ·injection e with e1 _;rw [e1]
   ·exact nomatch e
  ·rcases zW hb with ⟨j,u,rfl,e⟩ | ⟨y,u,rfl,e⟩
   ·exact nomatch e
   ·injection e with e1 _;rw [e1]
 byValue:=fun k v h=>by rcases zW h with ⟨i,t,rfl,rfl⟩ | ⟨x,t,rfl,rfl⟩ <;> rfl
 pyHash:=fun hv h=>by
  rcases zW hv with ⟨i,t,rfl,rfl⟩ | ⟨x,t,rfl,rfl⟩
  ·exact wpAny_pyHash_int h
  ·exact wpAny_pyHash_str h
 eqBool:=fun hu hv h=>by
  rcases zW hu with ⟨i,t,rfl,rfl⟩ | ⟨x,t,rfl,rfl⟩
  ·rcases zW hv with ⟨j,u,rfl,rfl⟩ | ⟨y,u,rfl,rfl⟩
   ·rw [zfP] at h;exact wpAny_eqBool_int h
   ·rw [zfO] at h;exact iJ i t y u _ _ _ _ h
  ·rcases zW hv with ⟨j,u,rfl,rfl⟩ | ⟨y,u,rfl,rfl⟩
   ·rw [zfN] at h;exact iI x t j u _ _ _ _ h
   ·rw [zfM] at h;exact wpAny_eqBool_str h
 «strs»:=fun k x t v h=>by
  rcases zW h with ⟨i,u,rfl,e⟩ | ⟨y,u,rfl,e⟩
  ·exact nomatch e
  ·injection e with e1 _
   subst e1;cases v <;> rfl
theorem Xe (prog:Τ) (w:ϙ) (i:Int) (t:Tok):(yt prog w).is (.inl i) (.int i t)=true:=JD i t
theorem Xd (prog:Τ) (w:ϙ) (x:Str) (t:Tok):(yt prog w).is (.inr x) (.str x t)=true:=JC x t
inductive V where
 | non | bl (b:Bool) | int (i:Int) | str (x:Str) | byt (b:Array UInt8) | flt (b:UInt64) | ref (a:Addr) | ty (n:String)
 deriving DecidableEq
def RelV:V->δ->Prop
 | .non,u=>u=Ϙ
 | .bl b,u=>u=Ϣ b
 | .int i,u=>∃ t,u=Ϧ i t
 | .str x,u=>∃ t,u=ϴ x t
 | .byt b,u=>∃ t,u=δ.bytes b t
 | .flt b,u=>∃ t,u=δ.float b t
 | .ref a,u=>u=Ε a
 | .ty n,u=>u=cP n
abbrev Vals:List V->List δ->Prop:=cB RelV
theorem Vals.length {xs:List V}{us:List δ}(r:Vals xs us):xs.length=us.length:=ik r
theorem Vals.get:∀ {xs:List V}{us:List δ}{i:Nat}{x:V},Vals xs us->xs[i]?=some x->∃ u,us[i]?=some u/\RelV x u
 | _,_,_,_,.nil,e=>by simp at e
 | _,_,0,_,.cons r _,e=>by simp at e;subst e;exact ⟨_,rfl,r⟩
 | _,_,i+1,x,.cons _ t,e=>by obtain ⟨u,h1,h2⟩:=Vals.get (i:=i) (x:=x) t (by simpa using e);exact ⟨u,by simpa using h1,h2⟩
theorem Vals.set {x:V}{u:δ}(r:RelV x u):∀ {xs:List V}{us:List δ}(i:Nat),Vals xs us->Vals (xs.set i x) (us.set i u)
 | _,_,_,.nil=>.nil
 | _,_,0,.cons _ t=>.cons r t
 | _,_,i+1,.cons q t=>.cons q (Vals.set r i t)
theorem Vals.append:∀ {xs ys:List V}{us ws:List δ},Vals xs us->Vals ys ws->Vals (xs++ys) (us++ws)
 | _,_,_,_,.nil,s=>s
 | _,_,_,_,.cons r t,s=>.cons r (Vals.append t s)
theorem Vals.take:∀ {xs:List V}{us:List δ}(n:Nat),Vals xs us->Vals (xs.take n) (us.take n)
 | _,_,0,_=>.nil
 | _,_,_+1,.nil=>.nil
 | _,_,n+1,.cons r t=>.cons r (Vals.take n t)
theorem Vals.drop:∀ {xs:List V}{us:List δ}(n:Nat),Vals xs us->Vals (xs.drop n) (us.drop n)
 | _,_,0,r=>r
 | _,_,_+1,.nil=>.nil
 | _,_,n+1,.cons _ t=>Vals.drop n t
def RelO:Option V->Option δ->Prop
 | some v,some u=>RelV v u
 | none,none=>True
 | _,_=>False
def KV {κ:Type}:List (κ×V)->List (κ×δ)->Prop:=cB fun (p:κ×V) (q:κ×δ)=>p.1=q.1/\RelV p.2 q.2
noncomputable def kV:Key->V
 | .inl i=>.int i
 | .inr x=>.str x
inductive HO where
 | lst (xs:List V)
 | tup (xs:List V)
 | dK (kvs:List (Key×V)) | dT (kvs:List (List Key×V))
 | set (S:Int->Bool) (n:Nat)
 | ins (C dx:Addr) (fs:List (Str×V))
 | own (x:Addr)
 | xd (fs:List (Str×V))
 | met (f x:Addr)
 | rng (lo hi:Int)
 | frz (o:Obj) (u:HO)
 | tbl (ps:Array δ)
 | ext (φ:Heap->Prop)
abbrev Hp:=Addr->Option HO
noncomputable def upd (H:Hp) (a:Addr) (o:HO):Hp:=fun b=>if b=a then some o else H b
theorem zy {H:Hp}{a:Addr}{o:HO}:upd H a o a=some o:=by unfold upd;rw [if_pos rfl]
theorem zm {H:Hp}{a b:Addr}{o:HO}(h:b≠a):upd H a o b=H b:=by unfold upd;rw [if_neg h]
theorem zhX {H:Hp}{a b:Addr}{o u:HO}(h:H a=some o) (h':H b=some u) (d:o≠u):a≠b:=by intro e;subst e;rw [h] at h';exact d (Λ h')
theorem zA {H:Hp}{a b:Addr}{o:HO}(h:H a=some o) (h':H b=none):a≠b:=by intro e;subst e;rw [h] at h';cases h'
section
variable (P:Τ) (w:ϙ)
def yo (H:Hp) (h:Heap) (a:Addr):HO->Prop
 | .lst xs=>xs.length<=sizeLine/\∃ (its:List δ) (n:Nat),Vals xs its/\h.get? a=some { cls:=.type "list",data:=.seq its.toArray n }
 | .tup xs=>xs.length<=sizeLine/\∃ its:List δ,Vals xs its/\IsTup h a its.toArray
 | .dK kvs=>kvs.length<=sizeLine/\(a==dm)=false/\∃ vs,KV kvs vs/\h.DictOf (yt P w) a vs
 | .dT kvs=>kvs.length<=sizeLine/\(a==dm)=false/\∃ xs:List (List Key×Addr×δ),
   cB (fun (p:List Key×V) (q:List Key×Addr×δ)=>p.1=q.1/\H q.2.1=some (.tup (p.1.map kV))/\RelV p.2 q.2.2) kvs xs /\
   ∃ o es ep,h.get? a=some o/\o.ExactDict/\o.data=.dict es ep/\es.toList=xs.map (entryOfKey (iw (yt P w)))/\(xs.map (·.1)).Nodup
 | .set S n=>h.SetOf (intKind P w) a S n
 | .ins C dx fs=>H dx=some (.own a)/\fs.length<=1000/\dx≠a/\h.get? a=some (W.instObj C dx) /\
   ∃ mA,h.Ns1 dx mA/\(∀ f,RelO (fs.lookup f) (mA f))/\fK mA (fs.map (·.1))
 | .own _=>∃ o,h.get? a=some o
 | .xd fs=>∃ mA,h.Ns1 a mA/\∀ f,RelO (fs.lookup f) (mA f)
 | .rng lo hi=>∃ t u v,h.get? a=some { cls:=.type "range",data:=.fields #[.int lo t,.int hi u,.int 1 v] }
 | .frz o u=>h.get? a=some o/\yo H h a u
 | .tbl ps=>h.get? a=some { cls:=.none,data:=.fields ps }
 | .met f x=>h.get? a=some (W.methodObj (.ref f) (.ref x))
 | .ext φ=>φ h/\(∃ o,h.get? a=some o)/\∀ h1 h2:Heap,φ h1->(∀ o,h1.get? a=some o->h2.get? a=some o)->φ h2
def HOk (H:Hp) (h:Heap):Prop:=∀ a o,H a=some o->yo P w H h a o
end
section
variable {P:Τ}{w:ϙ}{H H':Hp}{h h':Heap}{a:Addr}{o:HO}
theorem yo.lt (x:yo P w H h a o):a < h.objs.size:=by
 cases o with
 | lst xs=>obtain ⟨_,_,_,_,e⟩:=x;exact Δ e
 | tup xs=>obtain ⟨_,_,_,p⟩:=x;exact p.lt
 | dK kvs=>obtain ⟨_,_,_,_,o,_,_,e,_⟩:=x;exact Δ e
 | dT kvs=>obtain ⟨_,_,_,_,o,_,_,e,_⟩:=x;exact Δ e
 | set S n=>obtain ⟨o,_,_,_,e,_⟩:=x;exact Δ e
 | ins C dx fs=>obtain ⟨_,_,_,e,_⟩:=x;exact Δ e
 | own y=>obtain ⟨_,e⟩:=x;exact Δ e
 | xd fs=>obtain ⟨_,⟨_,_,_,e,_⟩,_⟩:=x;exact Δ e
 | rng lo hi=>obtain ⟨_,_,_,e⟩:=x;exact Δ e
 | frz ob u=>obtain ⟨e,_⟩:=x;exact Δ e
 | tbl ps=>exact Δ (show h.get? a=some _ from x)
 | met f y=>exact Δ (show h.get? a=some _ from x)
 | ext φ=>obtain ⟨_,⟨_,e⟩,_⟩:=x;exact Δ e
theorem cB.mapP {α β:Type}{F G:α->β->Prop}:∀ {l₁:List α}{l₂:List β},cB F l₁ l₂->(∀ a b,F a b->G a b)->cB G l₁ l₂
 | _,_,.nil,_=>.nil
 | _,_,.cons r t,f=>.cons (f _ _ r) (cB.mapP t f)
theorem yo.stay (x:yo P w H h a o) (k:∀ b u,(b=a\/H b=some (.own a))->h.get? b=some u->h'.get? b=some u)
  (ho:∀ b,H b=some (.own a)->H' b=some (.own a)) (ht:∀ b xs,H b=some (.tup xs)->H' b=some (.tup xs)):yo P w H' h' a o:=by
 induction o with
 | lst xs=>obtain ⟨z,its,n,r,e⟩:=x;exact ⟨z,its,n,r,k _ _ (.inl rfl) e⟩
 | tup xs=>obtain ⟨z,its,r,ob,e,c⟩:=x;exact ⟨z,its,r,ob,k _ _ (.inl rfl) e,c⟩
 | dK kvs=>obtain ⟨z,y,vs,r,ob,es,ep,e,c⟩:=x;exact ⟨z,y,vs,r,ob,es,ep,k _ _ (.inl rfl) e,c⟩
 | dT kvs=>
  obtain ⟨z,y,xs,r,ob,es,ep,e,c⟩:=x;exact ⟨z,y,xs,cB.mapP r fun p q z=>⟨z.1,ht _ _ z.2.1,z.2.2⟩,ob,es,ep,k _ _ (.inl rfl) e,c⟩
 | set S n=>obtain ⟨ob,es,ep,t,e,c⟩:=x;exact ⟨ob,es,ep,t,k _ _ (.inl rfl) e,c⟩
 | ins C dx fs=>
  obtain ⟨d,z,ne,e,mA,⟨od,es,ep,e2,c⟩,r⟩:=x;exact ⟨ho _ d,z,ne,k _ _ (.inl rfl) e,mA,⟨od,es,ep,k _ _ (.inr d) e2,c⟩,r⟩
 | own y=>obtain ⟨ob,e⟩:=x;exact ⟨ob,k _ _ (.inl rfl) e⟩
 | xd fs=>obtain ⟨mA,⟨od,es,ep,e,c⟩,r⟩:=x;exact ⟨mA,⟨od,es,ep,k _ _ (.inl rfl) e,c⟩,r⟩
 | rng lo hi=>obtain ⟨t,u,v,e⟩:=x;exact ⟨t,u,v,k _ _ (.inl rfl) e⟩
 | frz ob u ih=>obtain ⟨e,q⟩:=x;exact ⟨k _ _ (.inl rfl) e,ih q⟩
 | tbl ps=>
  have e:h.get? a=some { cls:=.none,data:=.fields ps }:=x;show h'.get? a=some { cls:=.none,data:=.fields ps }
  exact k a _ (.inl rfl) e
 | met f y=>
  have e:h.get? a=some (W.methodObj (.ref f) (.ref y)):=x;show h'.get? a=some (W.methodObj (.ref f) (.ref y))
  exact k a _ (.inl rfl) e
 | ext φ=>obtain ⟨p,⟨o,e⟩,st⟩:=x;exact ⟨st _ _ p fun o q=>k _ _ (.inl rfl) q,⟨o,k _ _ (.inl rfl) e⟩,st⟩
theorem HOk.lt (x:HOk P w H h) (e:H a=some o):a < h.objs.size:=(x a o e).lt
theorem HOk.fresh (x:HOk P w H h) (e:h.objs.size<=a):H a=none:=by
 cases q:H a with
 | none=>rfl
 | some u=>exact absurd (Ψ (x.lt q) e) (bN _)
theorem HOk.kept (x:HOk P w H h) (k:∀ b u,h.get? b=some u->h'.get? b=some u):HOk P w H h':=fun a o e=>
 (x a o e).stay (fun b u _ q=>k b u q) (fun _ q=>q) fun _ _ q=>q
theorem HOk.laid (x:HOk P w H h) (k:∀ b u,h.get? b=some u->h'.get? b=some u) (hp:h.objs.size<=a) (new:yo P w (upd H a o) h' a o):HOk P w (upd H a o) h':=fun b u e=>by
 have hn:=x.fresh hp;by_cases hb:b=a
 ·subst hb;rw [zy] at e;cases e;exact new
 ·rw [zm hb] at e;exact (x b u e).stay (fun c v _ q=>k c v q) (fun c q=>by rw [zm (zA q hn)];exact q) fun c xs q=>by rw [zm (zA q hn)];exact q
end
def Rd (H:Hp) (a:Addr) (u:HO):Prop:=H a=some u\/∃ o,H a=some (.frz o u)
theorem Rd.ok {P:Τ}{w:ϙ}{H:Hp}{h:Heap}{a:Addr}{u:HO}(r:Rd H a u) (x:HOk P w H h):yo P w H h a u:=by
 rcases r with r | ⟨o,r⟩
 ·exact x a u r
 ·obtain ⟨_,q⟩:=x a _ r;exact q
def Mut:Option HO->Prop
 | some (.lst _)=>True
 | some (.dK _)=>True
 | some (.dT _)=>True
 | some (.set _ _)=>True
 | some (.ins _ _ _)=>True
 | some (.ext _)=>True
 | _=>False
section
variable {P:Τ}{w:ϙ}{H:Hp}{h h':Heap}{x e:Addr}{o':HO}
theorem HOk.write (ok:HOk P w H h) (mu:Mut (H x)) (he:e=x\/H e=some (.own x)) (k:∀ b u,b≠e->h.get? b=some u->h'.get? b=some u) (heo:∃ u,h'.get? e=some u)
  (new:yo P w (upd H x o') h' x o'):HOk P w (upd H x o') h':=fun b u q=>by
 have nown:∀ c y,H c=some (.own y)->c≠x:=fun c y r z=>by subst z;rw [r] at mu;exact mu
 have ntup:∀ c xs,H c=some (.tup xs)->c≠x:=fun c xs r z=>by subst z;rw [r] at mu;exact mu
 by_cases hb:b=x
 ·subst hb;rw [zy] at q;cases q;exact new
 ·rw [zm hb] at q;by_cases hbe:b=e
  ·have q':H b=some (.own x):=by
    rcases he with z | z
    ·exact absurd (hbe.trans z) hb
    ·rw [hbe];exact z
   rw [q] at q';cases q';obtain ⟨v,hv⟩:=heo;exact ⟨v,by rw [hbe];exact hv⟩
  ·refine (ok b u q).stay (fun c v hc r=>k c v ?_ r) (fun c r=>by rw [zm (nown c b r)];exact r) fun c xs r=>by rw [zm (ntup c xs r)];exact r
   rcases hc with rfl | hc
   ·exact hbe
   ·rintro rfl;rcases he with z | z
    ·exact nown c b hc z
    ·rw [hc] at z;cases z;exact hb rfl
end
structure Un (fs ex:List Addr) (H H':Hp) (h h':Heap):Prop where
 keep:∀ b o,h.get? b=some o->H b=none->b ∉ fs->b ∉ ex->h'.get? b=some o
 slot:∀ b o,h.get? b=some o->H b=none->b∈fs->b ∉ ex->∃ sl,h'.get? b=some { o with slots:=sl }
 free:∀ b o,h.get? b=some o->H b=none->b ∉ ex->H' b=none
 there:∀ b o,h.get? b=some o->b ∉ ex->∃ o',h'.get? b=some o'
 tups:∀ b xs,H b=some (.tup xs)->H' b=some (.tup xs)
 frzs:∀ b o u,H b=some (.frz o u)->H' b=some (.frz o u)
 tbls:∀ b ps,H b=some (.tbl ps)->∃ more,H' b=some (.tbl (ps++more))
section
variable {fs fs' ex ex':List Addr}{H H1 H2:Hp}{h h1 h2 h':Heap}{a x e:Addr}{o:HO}
theorem Un.any (u:Un fs ex H H1 h h1) {b:Addr}{ob:Obj}(q:h.get? b=some ob) (n:H b=none) (hx:b ∉ ex):∃ sl,h1.get? b=some { ob with slots:=sl }:=by
 by_cases hb:b∈fs
 ·exact u.slot b ob q n hb hx
 ·exact ⟨ob.slots,u.keep b ob q n hb hx⟩
theorem Un.trans (a:Un fs ex H H1 h h1) (b:Un fs ex H1 H2 h1 h2):Un fs ex H H2 h h2 where
 keep:=fun c ob q n hc hx=>b.keep c ob (a.keep c ob q n hc hx) (a.free c ob q n hx) hc hx
 slot:=fun c ob q n hc hx=>by obtain ⟨sl,e1⟩:=a.slot c ob q n hc hx;obtain ⟨sl',e2⟩:=b.slot c _ e1 (a.free c ob q n hx) hc hx;exact ⟨sl',e2⟩
 free:=fun c ob q n hx=>by obtain ⟨o',e1⟩:=a.there c ob q hx;exact b.free c o' e1 (a.free c ob q n hx) hx
 there:=fun c ob q hx=>by obtain ⟨o',e1⟩:=a.there c ob q hx;exact b.there c o' e1 hx
 tups:=fun c xs q=>b.tups c xs (a.tups c xs q)
 frzs:=fun c ob xs q=>b.frzs c ob xs (a.frzs c ob xs q)
 tbls:=fun c ps q=>by obtain ⟨m1,e1⟩:=a.tbls c ps q;obtain ⟨m2,e2⟩:=b.tbls c _ e1;exact ⟨m1++m2,by rw [e2,lR]⟩
theorem Un.kept (k:∀ b u,h.get? b=some u->h'.get? b=some u):Un fs ex H H h h':=
 ⟨fun b ob q _ _ _=>k b ob q,fun b ob q _ _ _=>⟨ob.slots,k b ob q⟩,fun _ _ _ n _=>n,fun b ob q _=>⟨ob,k b ob q⟩,fun _ _ q=>q,fun _ _ _ q=>q,fun _ ps q=>⟨#[],by rw [q];simp⟩⟩
theorem Un.refl:Un fs ex H H h h:=Un.kept fun _ _ q=>q
theorem Un.laid (k:∀ b u,h.get? b=some u->h'.get? b=some u) (hp:h.objs.size<=a) (hn:H a=none):Un fs ex H (upd H a o) h h' where
 keep:=fun b u q _ _ _=>k b u q
 slot:=fun b u q _ _ _=>⟨u.slots,k b u q⟩
 free:=fun b u q n _=>by rw [zm (ϔ (Ψ (Δ q) hp))];exact n
 there:=fun b u q _=>⟨u,k b u q⟩
 tups:=fun b xs q=>by rw [zm (zA q hn)];exact q
 frzs:=fun b u xs q=>by rw [zm (zA q hn)];exact q
 tbls:=fun b ps q=>⟨#[],by rw [zm (zA q hn),q];simp⟩
theorem Un.write (mu:Mut (H x)) (he:e=x\/H e=some (.own x)) (k:∀ b u,b≠e->h.get? b=some u->h'.get? b=some u) (heo:∃ u,h'.get? e=some u):Un fs ex H (upd H x o) h h':=by
 have hx:∀ b,H b=none->b≠x:=fun b n z=>by subst z;rw [n] at mu;exact mu
 have hb:∀ b,H b=none->b≠e:=fun b n z=>by
  subst z;rcases he with r | r
  ·exact hx b n r
  ·rw [n] at r;cases r
 have hm:∀ b u,H b=some u->¬ Mut (some u)->b≠x:=fun b u q nm z=>by subst z;rw [q] at mu;exact nm mu
 refine ⟨fun b u q n _ _=>k b u (hb b n) q,fun b u q n _ _=>⟨u.slots,k b u (hb b n) q⟩,fun b u q n _=>by rw [zm (hx b n)];exact n,fun b u q _=>?_,
  fun b xs q=>by rw [zm (hm b _ q fun z=>z)];exact q,fun b u xs q=>by rw [zm (hm b _ q fun z=>z)];exact q,fun b ps q=>⟨#[],by rw [zm (hm b _ q fun z=>z),q];simp⟩⟩
 by_cases hbe:b=e
 ·subst hbe;exact heo
 ·exact ⟨u,k b u hbe q⟩
end
noncomputable def trk (h:Heap) (H:Hp):List Addr:=(ϛ h.objs.size).filter fun a=>(H a).isSome
noncomputable def hidT (h:Heap) (H:Hp):Heap:=W.hideAll h (trk h H)
theorem J0 (h:Heap) (H:Hp):(hidT h H).objs.size=h.objs.size:=W.hideAll_size _ _
theorem zai {h:Heap}{H:Hp}{b:Addr}{o:Obj}(e:h.get? b=some o) (n:H b=none):(hidT h H).get? b=some o:=
 W.hideAll_get _ e fun hm=>by have q:(H b).isSome=true:=(List.mem_filter.mp hm).2;rw [n] at q;simp at q
theorem zcJ {h:Heap}{H:Hp}{b:Addr}{o:Obj}(e:(hidT h H).get? b=some o):h.get? b=some o/\H b=none:=by
 have e':h.get? b=some o:=W.of_hideAll (trk h H) e;refine ⟨e',?_⟩;cases q:H b with
 | none=>rfl
 | some x=>
  have hm:b∈trk h H:=List.mem_filter.mpr ⟨au.mpr (Δ e'),by simp [q]⟩;have z:(hidT h H).get? b=none:=W.hideAll_none (trk h H) hm;rw [z] at e;cases e
noncomputable def zdM (g h:Heap) (L:Addr):List (Addr×Obj):=(ϛ h.objs.size).filterMap fun a=>if a=L\/(g.get? a).isSome=true then none else (h.get? a).map fun o=>(a,o)
noncomputable def rest (g h:Heap) (L d:Addr):List (Addr×Obj):=(zdM g h L).filter fun p=>decide (p.1≠d)
structure Mod (K:W.Frag) (mg:Str->Option δ) (base:Heap):Prop where
 kin:K.In base
 glob:base.Ns ϋ mg
 blt:∃ mb,base.Ns builtinsNs mb/\∀ x:Str,x≠"__name__"->mb x=bu x
 nolimit:base.NoLimit
structure Cx where
 prog:Τ
 w:ϙ
 K:W.Frag
 mg:Str->Option δ
 base:Heap
 A:Ϗ
 N:List Str
 sy:ν
 Hz:Hp
 env:Env
 outer:List Env
 stack:List Env
 ex:List Addr
 fn:Str->Bool
 calm:Bool
 pn:List (Addr×Obj)
 xe:δ->ν->Prop
noncomputable def frs (l:List Env):List Addr:=l.filterMap (·.frame)
noncomputable abbrev Cx.fs (X:Cx):List Addr:=frs X.outer
def Vis (sc:b7) (x:Str):Prop:=sc.names.lookup x=some .local\/sc.names.lookup x=some .cell\/sc.names.lookup x=some .free
def Loc (sc:b7) (x:Str):Prop:=sc.names.lookup x=some .local\/sc.names.lookup x=some .cell
def Look (env:Env) (h:Heap) (m:Str->Option δ) (x:Str) (u:δ):Prop:=
 (env.kindOf x=some .local/\m x=some u)\/((env.kindOf x=some .cell\/env.kindOf x=some .free)/\∃ c,env.cells.lookup x=some c/\h.IsCell c (some u))
structure Cx.Ok (X:Cx):Prop where
 mod:Mod X.K X.mg X.base
 kind:X.env.scope.kind=.function
 glob:X.env.globals=ϋ
 blt:X.env.builtins=builtinsNs
 above:X.sy.heap.objs.size<=X.env.locals
 inj:∀ x y c,X.env.cells.lookup x=some c->X.env.cells.lookup y=some c->x=y
 has:∀ x,(X.env.kindOf x=some .cell\/X.env.kindOf x=some .free)->∃ c,X.env.cells.lookup x=some c
 cab:∀ x c,X.fn x=true->X.env.cells.lookup x=some c->X.sy.heap.objs.size<=c
 hd:X.calm=true->X.A.handled=none
 frames:X.A.frames=some X.stack
 stk:X.stack=X.outer\/(X.stack=X.env::X.outer/\X.env.frame=some X.env.locals)
 exf:∀ b∈X.ex,b≠X.env.locals/\∀ x c,X.env.cells.lookup x=some c->c≠b
 bs:∀ b o,X.base.get? b=some o->X.sy.heap.get? b=some o/\X.Hz b=none
 bsz:X.base.objs.size<=X.sy.heap.objs.size
 noex:∀ b o,X.base.get? b=some o->b ∉ X.ex
 exfs:∀ b∈X.ex,b ∉ X.fs
 funs:X.sy.heap.FunFrames X.base X.outer
 frf:∀ b∈X.fs,X.Hz b=none
structure Inv (X:Cx) (pj:List (Addr×Obj)) (σ:List (Option V)) (H:Hp) (s:ν):Prop where
 ok:X.Ok
 os:s.os=X.sy.os
 bare:dC s.gens
 base:Un X.fs X.ex X.Hz H X.sy.heap s.heap
 loc:∃ m,s.heap.Ns X.env.locals m/\∀ (i:Nat) (x:Str) (v:V),X.N[i]?=some x->σ[i]?=some (some v)->Vis X.env.scope x->∃ u,RelV v u/\Look X.env s.heap m x u
 cell:∀ x c,X.env.cells.lookup x=some c->∃ v,s.heap.IsCell c v
 free:H X.env.locals=none
 freeC:∀ x c,X.env.cells.lookup x=some c->H c=none
 pin:∀ p∈X.pn++pj,s.heap.get? p.1=some p.2/\H p.1=none/\p.1≠X.env.locals/\p.1 ∉ X.fs/\∀ v,p.2.data≠.cell v
 hok:HOk X.prog X.w H s.heap
 len:σ.length=X.N.length
section
variable {X:Cx}{pj:List (Addr×Obj)}{σ:List (Option V)}{H H':Hp}{s:ν}{h':Heap}
theorem Cx.Ok.nofr (ok:X.Ok) {b:Addr}{o:Obj}(e:X.base.get? b=some o):b ∉ X.fs:=fun hb=>by have:=(ok.funs.mem hb).1;rw [e] at this;cases this
theorem Inv.bs (I:Inv X pj σ H s):∀ b o,X.base.get? b=some o->s.heap.get? b=some o/\H b=none:=fun b o e=>
 ⟨I.base.keep b o (I.ok.bs b o e).1 (I.ok.bs b o e).2 (I.ok.nofr e) (I.ok.noex b o e),I.base.free b o (I.ok.bs b o e).1 (I.ok.bs b o e).2 (I.ok.noex b o e)⟩
theorem Inv.bk (I:Inv X pj σ H s):∀ b o,X.base.get? b=some o->s.heap.get? b=some o:=fun b o e=>(I.bs b o e).1
theorem Inv.mod (I:Inv X pj σ H s):Mod X.K X.mg X.base:=I.ok.mod
theorem Inv.kIn (I:Inv X pj σ H s):X.K.In s.heap:=I.ok.mod.kin.keeps I.bk
theorem Inv.fr (I:Inv X pj σ H s):∃ m,Fr X.base X.env.locals s.heap m:=
 let ⟨m,hn,_⟩:=I.loc
 ⟨m,hn,I.bk,ϕ I.ok.bsz I.ok.above⟩
theorem Inv.lt (I:Inv X pj σ H s):X.env.locals < s.heap.objs.size:=let ⟨_,hn,_⟩:=I.loc;hn.lt
theorem Inv.sz (I:Inv X pj σ H s):X.sy.heap.objs.size<=s.heap.objs.size:=ϕ I.ok.above (gw I.lt)
theorem Inv.nofs (I:Inv X pj σ H s) {a:Addr}(h:s.heap.objs.size<=a):a ∉ X.fs:=fun hb=>by obtain ⟨_,o,ho,_⟩:=I.ok.funs.mem hb;exact absurd (Ψ (Δ ho) (ϕ I.sz h)) (bN _)
theorem Inv.cne (I:Inv X pj σ H s):∀ x c,X.env.cells.lookup x=some c->c≠X.env.locals:=fun x c e z=>by obtain ⟨v,o,ho,hd⟩:=I.cell x c e;obtain ⟨m,⟨o',es,ep,ho',hd',_⟩,_⟩:=I.loc;rw [z,ho'] at ho;cases ho;rw [hd'] at hd;cases hd
theorem Inv.funs (I:Inv X pj σ H s):s.heap.FunFrames X.base X.outer:=by
 have all:∀ (l:List Env),(∀ b∈frs l,b∈X.fs)->X.sy.heap.FunFrames X.base l->s.heap.FunFrames X.base l:=by
  intro l
  induction l with
  | nil=>intro _ _;trivial
  | cons env r ih=>
   intro hs hl;obtain ⟨hk,⟨L,o,hf,hn,ho,hd⟩,hr⟩:=hl;have hL:L∈X.fs:=hs L (by unfold frs;rw [bJ,hf];exact θ);obtain ⟨sl,e⟩:=I.base.slot L o ho (I.ok.frf L hL) hL fun z=>I.ok.exfs L z hL
   exact ⟨hk,⟨L,_,hf,hn,e,hd⟩,ih (fun b hb=>hs b (by unfold frs;rw [bJ,hf];exact η _ hb)) hr⟩
 exact all X.outer (fun _ hb=>hb) I.ok.funs
theorem Inv.stack (I:Inv X pj σ H s):s.heap.FunFrames X.base X.stack:=by
 rcases I.ok.stk with e | ⟨e,hf⟩
 ·rw [e];exact I.funs
 ·rw [e];obtain ⟨m,hn,_⟩:=I.loc;refine .cons (by rw [I.ok.kind];decide) hf hn ?_ I.funs;exact dY (ϕ I.ok.bsz I.ok.above)
theorem Inv.Wa (I:Inv X pj σ H s):∀ b∈frs X.stack,b∈X.env.locals::X.fs:=fun b hb=>by
 rcases I.ok.stk with e | ⟨e,hf⟩
 ·rw [e] at hb;exact η _ hb
 ·rw [e] at hb;unfold frs at hb;rw [bJ,hf] at hb;exact hb
theorem Inv.uW (I:Inv X pj σ H s):∀ b∈frs X.stack,H b=none:=fun b hb=>by
 rcases χ.mp (I.Wa b hb) with e | hb
 ·rw [e];exact I.free
 ·obtain ⟨_,o,ho,_⟩:=I.ok.funs.mem hb;exact I.base.free b o ho (I.ok.frf b hb) fun z=>I.ok.exfs b z hb
theorem Inv.step {g':Array GenState}{t':Nat}{d':Drawn}{ch:List Addr}(I:Inv X pj σ H s)
  (hch:∀ b∈ch,(b∈X.ex\/X.sy.heap.objs.size<=b)/\b≠X.env.locals/\(∀ x c,X.env.cells.lookup x=some c->c≠b)/\∀ p∈X.pn++pj,p.1≠b)
  (keep:∀ b o,b≠X.env.locals->b ∉ X.fs->b ∉ ch->s.heap.get? b=some o->H b=none->h'.get? b=some o)
  (slot:∀ b o,b≠X.env.locals->b∈X.fs->b ∉ ch->s.heap.get? b=some o->H b=none->∃ sl,h'.get? b=some { o with slots:=sl }) (free:∀ b o,b ∉ ch->s.heap.get? b=some o->H b=none->H' b=none)
  (there:∀ b o,b ∉ ch->s.heap.get? b=some o->∃ o',h'.get? b=some o')
  (tups:∀ b xs,H b=some (.tup xs)->H' b=some (.tup xs)) (frzs:∀ b o u,H b=some (.frz o u)->H' b=some (.frz o u)) (tbls:∀ b ps,H b=some (.tbl ps)->∃ more,H' b=some (.tbl (ps++more)))
  (ns:∀ m,s.heap.Ns X.env.locals m->h'.Ns X.env.locals m) (hok:HOk X.prog X.w H' h') (hg:dC g'):
  Inv X pj σ H' { s with heap:=h',gens:=g',drawn:=d',toks:=t' }:=by
 have neL:∀ b o,X.sy.heap.get? b=some o->b≠X.env.locals:=fun b o e=>ϔ (Ψ (Δ e) I.ok.above)
 have neC:∀ b o,X.sy.heap.get? b=some o->b ∉ X.ex->b ∉ ch:=fun b o e hx hb=>by
  rcases (hch b hb).1 with z | z
  ·exact hx z
  ·exact absurd (Ψ (Δ e) z) (bN _)
 have cellK:∀ x c,X.env.cells.lookup x=some c->∀ v,s.heap.IsCell c v->h'.IsCell c v:=fun x c e v ⟨o,ho,hd⟩=>by
  have nch:c ∉ ch:=fun z=>(hch c z).2.2.1 x c e rfl
  by_cases hc:c∈X.fs
  ·obtain ⟨sl,q⟩:=slot c o (I.cne x c e) hc nch ho (I.freeC x c e);exact ⟨_,q,hd⟩
  ·exact ⟨o,keep c o (I.cne x c e) hc nch ho (I.freeC x c e),hd⟩
 refine ⟨I.ok,I.os,hg,⟨fun b o e n hb hx=>?_,fun b o e n hb hx=>?_,fun b o e n hx=>?_,fun b o e hx=>?_,fun b xs e=>tups b xs (I.base.tups b xs e),fun b o xs e=>frzs b o xs (I.base.frzs b o xs e),fun b ps e=>?_⟩,?_,fun x c e=>?_,?_,fun x c e=>?_,fun p hp=>?_,hok,I.len⟩
 ·exact keep b o (neL b o e) hb (neC b o e hx) (I.base.keep b o e n hb hx) (I.base.free b o e n hx)
 ·obtain ⟨sl,e1⟩:=I.base.slot b o e n hb hx;obtain ⟨sl',e2⟩:=slot b _ (neL b o e) hb (neC b o e hx) e1 (I.base.free b o e n hx);exact ⟨sl',e2⟩
 ·obtain ⟨o',e1⟩:=I.base.there b o e hx;exact free b o' (neC b o e hx) e1 (I.base.free b o e n hx)
 ·obtain ⟨o',e1⟩:=I.base.there b o e hx;exact there b o' (neC b o e hx) e1
 ·obtain ⟨m1,e1⟩:=I.base.tbls b ps e;obtain ⟨m2,e2⟩:=tbls b _ e1;exact ⟨m1++m2,by rw [e2,lR]⟩
 ·obtain ⟨m,hn,hl⟩:=I.loc;refine ⟨m,ns m hn,fun i x v e1 e2 e3=>?_⟩;obtain ⟨u,r,l⟩:=hl i x v e1 e2 e3;refine ⟨u,r,?_⟩;rcases l with l | ⟨k,c,e,z⟩
  ·exact .inl l
  ·exact .inr ⟨k,c,e,cellK x c e _ z⟩
 ·obtain ⟨v,z⟩:=I.cell x c e;exact ⟨v,cellK x c e v z⟩
 ·obtain ⟨m,⟨o,_,_,ho,_⟩,_⟩:=I.loc;exact free _ o (fun z=>(hch _ z).2.1 rfl) ho I.free
 ·obtain ⟨v,o,ho,hd⟩:=I.cell x c e;exact free c o (fun z=>(hch c z).2.2.1 x c e rfl) ho (I.freeC x c e)
 ·obtain ⟨e,n,ne,nf,d⟩:=I.pin p hp;have nch:p.1 ∉ ch:=fun z=>(hch p.1 z).2.2.2 p hp rfl
  exact ⟨keep p.1 p.2 ne nf nch e n,free p.1 p.2 nch e n,ne,nf,d⟩
theorem Inv.un {t':Nat}(I:Inv X pj σ H s) (u:Un X.fs [] H H' s.heap h') (hok:HOk X.prog X.w H' h'):Inv X pj σ H' { s with heap:=h',toks:=t' }:=by
 obtain ⟨m,⟨o,es,ep,ho,r⟩,_⟩:=id I.loc;obtain ⟨sl,hL⟩:=u.any ho I.free (by simp)
 exact I.step (g':=s.gens) (d':=s.drawn) (ch:=[]) (fun _ z=>nomatch z) (fun b o _ hb _ e n=>u.keep b o e n hb (by simp)) (fun b o _ hb _ e n=>u.slot b o e n hb (by simp)) (fun b o _ e n=>u.free b o e n (by simp)) (fun b o _ e=>u.there b o e (by simp)) u.tups u.frzs u.tbls (fun m' hm=>by
  obtain ⟨o',es',ep',ho',r'⟩:=hm;rw [ho] at ho';cases ho'
  exact ⟨_,es',ep',hL,r'⟩) hok I.bare
theorem Inv.call {g':Array GenState}{t':Nat}{d':Drawn}{ch:List Addr}(I:Inv X pj σ H s) (u:Un (frs X.stack) ch H H' s.heap h') (hok:HOk X.prog X.w H' h') (hg:dC g')
  (hch:∀ b∈ch,(b∈X.ex\/X.sy.heap.objs.size<=b)/\b≠X.env.locals/\(∀ x c,X.env.cells.lookup x=some c->c≠b)/\∀ p∈X.pn++pj,p.1≠b):
  Inv X pj σ H' { s with heap:=h',gens:=g',drawn:=d',toks:=t' }:=by
 obtain ⟨m,⟨o,es,ep,ho,r⟩,_⟩:=id I.loc;obtain ⟨sl,hL⟩:=u.any ho I.free fun z=>(hch _ z).2.1 rfl
 exact I.step (ch:=ch) hch (fun b o hL hb hc e n=>u.keep b o e n (fun z=>(χ.mp (I.Wa b z)).elim hL hb) hc) (fun b o _ _ hc e n=>u.any e n hc) (fun b o hc e n=>u.free b o e n hc) (fun b o hc e=>u.there b o e hc) u.tups u.frzs u.tbls (fun m' hm=>by
  obtain ⟨o',es',ep',ho',r'⟩:=hm;rw [ho] at ho';cases ho'
  exact ⟨_,es',ep',hL,r'⟩) hok hg
theorem Inv.turned {t':Nat}{it:Addr}(I:Inv X pj σ H s) (k:∀ b o,b≠it->s.heap.get? b=some o->h'.get? b=some o) (hn:H it=none) (hL:it≠X.env.locals)
  (h1:it∈X.ex\/X.sy.heap.objs.size<=it) (h2:∀ x c,X.env.cells.lookup x=some c->c≠it) (h3:∀ p∈X.pn++pj,p.1≠it):Inv X pj σ H { s with heap:=h',toks:=t' }:=by
 have nit:∀ b u,H b=some u->b≠it:=fun b u e z=>by rw [z,hn] at e;cases e
 refine I.step (g':=s.gens) (d':=s.drawn) (ch:=[it]) (fun b hb=>?_) (fun b o _ _ hc e _=>k b o (fun z=>hc (by simp [z])) e) (fun b o _ _ hc e _=>⟨o.slots,k b o (fun z=>hc (by simp [z])) e⟩) (fun _ _ _ _ n=>n)
  (fun b o hc e=>⟨o,k b o (fun z=>hc (by simp [z])) e⟩) (fun _ _ e=>e) (fun _ _ _ e=>e) (fun b ps e=>⟨#[],by rw [e];simp⟩) (fun m hm=>?_) (fun b u e=>?_) I.bare
 ·have e:b=it:=by simpa using hb
  subst e;exact ⟨h1,hL,h2,h3⟩
 ·obtain ⟨o,es,ep,ho,r⟩:=hm;exact ⟨o,es,ep,k _ o (bA hL) ho,r⟩
 ·refine (I.hok b u e).stay (fun c v hc q=>k c v ?_ q) (fun _ q=>q) fun _ _ q=>q
  rcases hc with z | z
  ·rw [z];exact nit b u e
  ·exact nit c _ z
theorem Inv.tok (I:Inv X pj σ H s) (t:Nat):Inv X pj σ H { s with toks:=t }:=I.un (h':=s.heap) (t':=t) Un.refl I.hok
theorem Inv.kept {t':Nat}(I:Inv X pj σ H s) (k:∀ b u,s.heap.get? b=some u->h'.get? b=some u):Inv X pj σ H { s with heap:=h',toks:=t' }:=I.un (Un.kept k) (I.hok.kept k)
theorem Inv.laid {a:Addr}{o:HO}{t':Nat}(I:Inv X pj σ H s) (k:∀ b u,s.heap.get? b=some u->h'.get? b=some u) (hp:s.heap.objs.size<=a) (new:yo X.prog X.w (upd H a o) h' a o):
  Inv X pj σ (upd H a o) { s with heap:=h',toks:=t' }:=I.un (Un.laid k hp (I.hok.fresh hp)) (I.hok.laid k hp new)
theorem Inv.write {x e:Addr}{o:HO}{t':Nat}(I:Inv X pj σ H s) (mu:Mut (H x)) (he:e=x\/H e=some (.own x)) (k:∀ b u,b≠e->s.heap.get? b=some u->h'.get? b=some u) (heo:∃ u,h'.get? e=some u)
  (new:yo X.prog X.w (upd H x o) h' x o):Inv X pj σ (upd H x o) { s with heap:=h',toks:=t' }:=I.un (Un.write mu he k heo) (I.hok.write mu he k heo new)
theorem Inv.Y5 {pins':List (Addr×Obj)}(I:Inv X pj σ H s) (h:∀ p∈pins',s.heap.get? p.1=some p.2/\H p.1=none/\p.1≠X.env.locals/\p.1 ∉ X.fs/\∀ v,p.2.data≠.cell v):Inv X pins' σ H s:=
 ⟨I.ok,I.os,I.bare,I.base,I.loc,I.cell,I.free,I.freeC,fun p hp=>(bc.mp hp).elim (fun z=>I.pin p (lK _ z)) (h p),I.hok,I.len⟩
theorem qK {N:List Str}(hN:N.Nodup) {i j:Nat}{x:Str}(a:N[i]?=some x) (b:N[j]?=some x):i=j:=by obtain ⟨h1,e1⟩:=ο.mp a;obtain ⟨h2,e2⟩:=ο.mp b;exact (List.getElem_inj hN).mp (e1.trans e2.symm)
theorem Ui {M:Model}{A:Ϗ}{E:VSP}{i:Nat}{x:Str}{v:V}{u:δ}{Q:Unit->ν->Prop}(I:Inv X pj σ H s) (hN:X.N.Nodup) (hi:X.N[i]?=some x) (hx:Loc X.env.scope x) (r:RelV v u)
  (h:∀ s',Inv X pj (σ.set i (some v)) H s'->(∃ a,Ϯ a s.heap s'.heap/\(a=X.env.locals\/X.env.cells.lookup x=some a))->Q () s') (hf:X.fn x=true\/X.env.scope.names.lookup x=some .local:=by first | exact .inl rfl | exact .inr rfl | assumption):Θ M A (storeName X.env x u) Q E s:=by
 obtain ⟨m,hn,hl⟩:=id I.loc;have hcls:(X.env.scope.kind==.class||(X.env.scope.kind==.module&&X.env.locals != X.env.globals))=false:=by rw [I.ok.kind];rfl
 have hiσ:i < σ.length:=by rw [I.len];exact (ο.mp hi).1
 have cne:=I.cne;have tracked:∀ {a:Addr}{h':Heap},(∃ o,s.heap.get? a=some o/\H a=none)->Ϯ a s.heap h'->HOk X.prog X.w H h':=fun {a h'} ha hs b ob e=>by
  obtain ⟨_,_,hfree⟩:=ha;refine (I.hok b ob e).stay (fun c w' hc q=>(hs.2 c ?_).trans q) (fun _ q=>q) fun _ _ q=>q
  rintro rfl;rcases hc with rfl | hc
  ·rw [hfree] at e;cases e
  ·rw [hfree] at hc;cases hc
 rcases hx with hk | hk
 ·refine wpAny_storeName_local hk hn (fun h' hn' hs=>?_) hcls;obtain ⟨oL,_,_,hoL,_⟩:=id hn;refine h _ ⟨I.ok,I.os,I.bare,⟨fun b o e n hb hx=>?_,fun b o e n hb hx=>?_,I.base.free,fun b o e hx=>?_,I.base.tups,I.base.frzs,I.base.tbls⟩,⟨_,hn',fun j y v' e1 e2 e3=>?_⟩,fun y c e=>?_,I.free,I.freeC,fun p hp=>?_,tracked ⟨oL,hoL,I.free⟩ hs,by simpa using I.len⟩ ⟨_,hs,.inl rfl⟩
  ·exact (hs.2 b (ϔ (Ψ (Δ e) I.ok.above))).trans (I.base.keep b o e n hb hx)
  ·obtain ⟨sl,e1⟩:=I.base.slot b o e n hb hx;exact ⟨sl,(hs.2 b (ϔ (Ψ (Δ e) I.ok.above))).trans e1⟩
  ·obtain ⟨o',e1⟩:=I.base.there b o e hx;exact ⟨o',(hs.2 b (ϔ (Ψ (Δ e) I.ok.above))).trans e1⟩
  ·by_cases hj:j=i
   ·subst hj;rw [hi] at e1;cases e1;rw [Κ hiσ] at e2;cases e2;exact ⟨u,r,.inl ⟨hk,by simp⟩⟩
   ·rw [υ (bA hj)] at e2;obtain ⟨u',r',q⟩:=hl j y v' e1 e2 e3;refine ⟨u',r',?_⟩;rcases q with ⟨k,e⟩ | ⟨k,c,e,z⟩
    ·refine .inl ⟨k,?_⟩;have:y≠x:=fun e=>hj (qK hN e1 (e ▸ hi))
     simp [this,e]
    ·exact .inr ⟨k,c,e,z.sameBut hs (cne y c e)⟩
  ·obtain ⟨w',z⟩:=I.cell y c e;exact ⟨w',z.sameBut hs (cne y c e)⟩
  ·obtain ⟨e,n,ne,nf,d⟩:=I.pin p hp;exact ⟨(hs.2 p.1 ne).trans e,n,ne,nf,d⟩
 ·have hfn:X.fn x=true:=by
   rcases hf with z | z
   ·exact z
   ·rw [z] at hk;cases hk
  obtain ⟨c,hc⟩:=I.ok.has x (.inl hk);obtain ⟨w',z⟩:=I.cell x c hc;refine wpAny_storeName_cell I.ok.kind hk hc z (fun h' hc' hs=>?_);obtain ⟨oc,hoc,hocd⟩:=id z;refine h { s with heap:=h' } ⟨I.ok,I.os,I.bare,⟨fun b o e n hb hx=>?_,fun b o e n hb hx=>?_,I.base.free,fun b o e hx=>?_,I.base.tups,I.base.frzs,I.base.tbls⟩,⟨m,hn.sameBut hs (bA (cne x c hc)),fun j y v' e1 e2 e3=>?_⟩,fun y c' e=>?_,I.free,I.freeC,fun p hp=>?_,tracked ⟨oc,hoc,I.freeC x c hc⟩ hs,by simpa using I.len⟩ ⟨c,hs,.inr hc⟩
  ·exact (hs.2 b (ϔ (Ψ (Δ e) (I.ok.cab x c hfn hc)))).trans (I.base.keep b o e n hb hx)
  ·obtain ⟨sl,e1⟩:=I.base.slot b o e n hb hx;exact ⟨sl,(hs.2 b (ϔ (Ψ (Δ e) (I.ok.cab x c hfn hc)))).trans e1⟩
  ·obtain ⟨o',e1⟩:=I.base.there b o e hx;exact ⟨o',(hs.2 b (ϔ (Ψ (Δ e) (I.ok.cab x c hfn hc)))).trans e1⟩
  ·by_cases hj:j=i
   ·subst hj;rw [hi] at e1;cases e1;rw [Κ hiσ] at e2;cases e2;exact ⟨u,r,.inr ⟨.inl hk,c,hc,hc'⟩⟩
   ·rw [υ (bA hj)] at e2;obtain ⟨u',r',q⟩:=hl j y v' e1 e2 e3;refine ⟨u',r',?_⟩;rcases q with q | ⟨k,c',e,z'⟩
    ·exact .inl q
    ·refine .inr ⟨k,c',e,z'.sameBut hs ?_⟩;rintro rfl;exact hj (qK hN e1 (I.ok.inj _ _ _ e hc ▸ hi))
  ·by_cases hcc:c'=c
   ·subst hcc;exact ⟨_,hc'⟩
   ·obtain ⟨w2,z2⟩:=I.cell y c' e;exact ⟨w2,z2.sameBut hs hcc⟩
  ·obtain ⟨e,n,ne,nf,d⟩:=I.pin p hp;refine ⟨(hs.2 p.1 ?_).trans e,n,ne,nf,d⟩;intro q;rw [q,hoc] at e;have q':oc=p.2:=Λ e;exact d w' (by rw [<- q'];exact hocd)
theorem uy {M:Model}{A:Ϗ}{E:VSP}{i:Nat}{x:Str}{v:V}{u:δ}{Q:Unit->ν->Prop}(I:Inv X pj σ H s) (hN:X.N.Nodup) (hi:X.N[i]?=some x) (hx:Loc X.env.scope x) (r:RelV v u)
  (h:∀ s',Inv X pj (σ.set i (some v)) H s'->Q () s') (hf:X.fn x=true\/X.env.scope.names.lookup x=some .local:=by first | exact .inl rfl | exact .inr rfl | assumption):Θ M A (storeName X.env x u) Q E s:=
 Ui I hN hi hx r (fun s' I' _=>h s' I') hf
theorem Inv.call' {s':ν}{ch:List Addr}(I:Inv X pj σ H s) (ho:s'.os=s.os) (u:Un (frs X.stack) ch H H' s.heap s'.heap) (hok:HOk X.prog X.w H' s'.heap) (hg:dC s'.gens)
  (hch:∀ b∈ch,(b∈X.ex\/X.sy.heap.objs.size<=b)/\b≠X.env.locals/\(∀ x c,X.env.cells.lookup x=some c->c≠b)/\∀ p∈X.pn++pj,p.1≠b):Inv X pj σ H' s':=by obtain ⟨h',g',d',t',o'⟩:=s';have e:o'=s.os:=ho;subst e;exact I.call (g':=g') (t':=t') (d':=d') u hok hg hch
end
abbrev XK:=δ->Option Addr->Hp->Prop
abbrev St:=List (Option V)
abbrev VK:=V->Hp->Prop
abbrev TE:=St->Hp->VK->Prop
abbrev TT:=St->Hp->(Bool->Hp->Prop)->Prop
abbrev TA:=St->Hp->(List V->Hp->Prop)->Prop
structure Ends where
 nx:St->Hp->Prop
 rt:VK
 bk:St->Hp->Prop:=fun _ _=>False
 ct:St->Hp->Prop:=fun _ _=>False
abbrev TS:=Ends->St->Hp->Prop
def EP (X:Cx) (pj:List (Addr×Obj)) (σ:St) (Q:VK) (u:δ) (s':ν):Prop:=∃ v H',Inv X pj σ H' s'/\RelV v u/\Q v H'
def TP (X:Cx) (pj:List (Addr×Obj)) (σ:St) (Q:Bool->Hp->Prop) (b:Bool) (s':ν):Prop:=∃ H',Inv X pj σ H' s'/\Q b H'
def AP (X:Cx) (pj:List (Addr×Obj)) (σ:St) (Q:List V->Hp->Prop) (us:List δ) (s':ν):Prop:=∃ vs H',Inv X pj σ H' s'/\Vals vs us/\Q vs H'
def SP (X:Cx) (pj:List (Addr×Obj)) (D:Ends) (f:Flow) (s':ν):Prop:=
 match f with
 | .next=>∃ σ' H',Inv X pj σ' H' s'/\D.nx σ' H'
 | .brk=>∃ σ' H',Inv X pj σ' H' s'/\D.bk σ' H'
 | .cont=>∃ σ' H',Inv X pj σ' H' s'/\D.ct σ' H'
 | .ret u=>∃ v σ' H',Inv X pj σ' H' s'/\RelV v u/\D.rt v H'
def PE (X:Cx) (e:Expr) (t:TE):Prop:=
 ∀ (pj:List (Addr×Obj)) (s:ν) (σ:St) (H:Hp) (Q:VK),Inv X pj σ H s->t σ H Q->Θ (Ξ X.prog X.w) X.A (eval e X.env) (EP X pj σ Q) X.xe s
def PT (X:Cx) (e:Expr) (t:TT):Prop:=
 ∀ (pj:List (Addr×Obj)) (s:ν) (σ:St) (H:Hp) (Q:Bool->Hp->Prop),Inv X pj σ H s->t σ H Q->Θ (Ξ X.prog X.w) X.A (d9 e X.env (eval e X.env)) (TP X pj σ Q) X.xe s
def PW (X:Cx) (e:Expr) (t:TT):Prop:=
 ∀ (whole:Sem δ) (pj:List (Addr×Obj)) (s:ν) (σ:St) (H:Hp) (Q:Bool->Hp->Prop),Inv X pj σ H s->t σ H Q->Θ (Ξ X.prog X.w) X.A (d9 e X.env whole) (TP X pj σ Q) X.xe s
theorem PW.pt {X:Cx}{e:Expr}{t:TT}(h:PW X e t):PT X e t:=h _
def PA (X:Cx) (es:List Expr) (t:TA):Prop:=
 ∀ (pos:Pos) (pj:List (Addr×Obj)) (s:ν) (σ:St) (H:Hp) (Q:List V->Hp->Prop),Inv X pj σ H s->t σ H Q->Θ (Ξ X.prog X.w) X.A (spliced (bK pos (ϐ es X.env))) (AP X pj σ Q) X.xe s
def PS (X:Cx) (st:Stmt) (t:TS):Prop:=
 ∀ (pj:List (Addr×Obj)) (s:ν) (σ:St) (H:Hp) (D:Ends),Inv X pj σ H s->t D σ H->Θ (Ξ X.prog X.w) X.A (exec st X.env) (SP X pj D) X.xe s
def PSs (X:Cx) (st:List Stmt) (t:TS):Prop:=
 ∀ (pj:List (Addr×Obj)) (s:ν) (σ:St) (H:Hp) (D:Ends),Inv X pj σ H s->t D σ H->Θ (Ξ X.prog X.w) X.A (execs st X.env) (SP X pj D) X.xe s
theorem thn {α:Type}{t:Sem α}{Q Q':α->ν->Prop}{M:Model}{A:Ϗ}{E:VSP}{s:ν}(h:Θ M A t Q E s) (hQ:∀ a s,Q a s->Q' a s):Θ M A t Q' E s:=aJ h hQ fun _ _ x=>x
section
variable {X:Cx}
theorem bin {a b:Expr}{ta tb:TE}(ha:PE X a ta) (hb:PE X b tb) {pj:List (Addr×Obj)}{s:ν}{σ:St}{H:Hp}{R:V->V->Hp->Prop}(I:Inv X pj σ H s) (h:ta σ H fun x H1=>tb σ H1 fun y H2=>R x y H2)
  {α:Type}{Q:α->ν->Prop}{f:δ->δ->Sem α}
  (hf:∀ v u s2 x y H2,Inv X pj σ H2 s2->RelV x v->RelV y u->R x y H2->Θ (Ξ X.prog X.w) X.A (f v u) Q X.xe s2):
  Θ (Ξ X.prog X.w) X.A (eval a X.env) (fun v s₁=>Θ (Ξ X.prog X.w) X.A (eval b X.env) (fun u s₂=>Θ (Ξ X.prog X.w) X.A (f v u) Q X.xe s₂) X.xe s₁) X.xe s:=by
 refine thn (ha pj s σ H _ I h) fun v s1 ⟨x,H1,I1,r1,q1⟩=>?_
 refine thn (hb pj s1 σ H1 _ I1 q1) fun u s2 ⟨y,H2,I2,r2,q2⟩=>?_
 exact hf v u s2 x y H2 I2 r1 r2 q2
def tVar (i:Nat):TE:=fun σ H Q=>∃ v,σ[i]?=some (some v)/\Q v H
def tC (v:V):TE:=fun _ H Q=>Q v H
theorem j9 {i:Nat}{x:Str}{pos:Pos}(hN:X.N[i]?=some x) (hv:Vis X.env.scope x) (hd:(x==("__debug__":Str))=false:=by decide) (hcd:(x==("__classdict__":Str))=false:=by decide):PE X (.Name x pos) (tVar i):=by
 intro pj s σ H Q I h;obtain ⟨v,e,h⟩:=h;obtain ⟨m,hn,hl⟩:=I.loc;obtain ⟨u,r,l⟩:=hl i x v hN e hv;have fin:EP X pj σ Q u s:=⟨v,H,I,r,h⟩
 rcases l with ⟨hk,hm⟩ | ⟨hk,c,hc,hcell⟩
 ·exact wpAny_Name (wpAny_loadName_local I.ok.kind hk hn hm fin) hd
 ·rcases hk with hk | hk
  ·exact wpAny_Name (wpAny_loadName_cell I.ok.kind hk hc hcell fin) hd
  ·exact wpAny_Name (wpAny_loadName_free I.ok.kind hk hc hcell fin hcd) hd
theorem zbk {i j pos}:PE X (.Constant (.int i) j pos) (tC (.int i)):=fun _ _ _ H _ I h=>wpAny_Constant_int ⟨.int i,H,I.tok _,⟨_,rfl⟩,h⟩
theorem zhP {b j pos}:PE X (.Constant (.bool b) j pos) (tC (.bl b)):=fun _ _ _ H _ I h=>Constant_bool ⟨.bl b,H,I,rfl,h⟩
theorem ze6 {j pos}:PE X (.Constant .none j pos) (tC .non):=fun _ _ _ H _ I h=>Constant_none ⟨.non,H,I,rfl,h⟩
theorem Ja {x j pos}:PE X (.Constant (.str x) j pos) (tC (.str x)):=fun _ _ _ H _ I h=>Calls.Constant_str ⟨.str x,H,I.tok _,⟨_,rfl⟩,h⟩
def Gl (X:Cx) (x:Str):Prop:=X.env.kindOf x=some .globalImplicit
theorem wM {E:VSP}{pj:List (Addr×Obj)}{s:ν}{σ:St}{H:Hp}{x:Str}{u:δ}{pos:Pos}{Q:VSP}(I:Inv X pj σ H s) (hg:Gl X x) (hm:X.mg x=some u) (h:Q u s)
  (hd:(x==("__debug__":Str))=false:=by decide):Θ (Ξ X.prog X.w) X.A (eval (.Name x pos) X.env) Q E s:=
 gZ I.ok.kind hg (Calls.loadGlobal_global (by rw [I.ok.glob];exact I.mod.glob.keeps I.bk) hm h) hd
theorem Z1 {E:VSP}{pj:List (Addr×Obj)}{s:ν}{σ:St}{H:Hp}{x:Str}{u:δ}{pos:Pos}{Q:VSP}(I:Inv X pj σ H s) (hg:Gl X x) (hm:X.mg x=none) (hv:bu x=some u) (h:Q u s)
  (hn:x≠"__name__":=by decide) (hd:(x==("__debug__":Str))=false:=by decide):Θ (Ξ X.prog X.w) X.A (eval (.Name x pos) X.env) Q E s:=by obtain ⟨mb,h1,h2⟩:=I.mod.blt;exact gZ I.ok.kind hg (Calls.loadGlobal_builtin (by rw [I.ok.glob];exact I.mod.glob.keeps I.bk) hm (by rw [I.ok.blt];exact h1.keeps I.bk) ((h2 x hn).trans hv) h) hd
theorem Y6 {x:Str}{v:V}{u:δ}{pos:Pos}(hg:Gl X x) (hm:X.mg x=some u) (r:RelV v u) (hd:(x==("__debug__":Str))=false:=by decide):PE X (.Name x pos) (tC v):=
 fun _ _ _ H _ I h=>wM I hg hm ⟨v,H,I,r,h⟩ hd
theorem Jd {x:Str}{v:V}{u:δ}{pos:Pos}(hg:Gl X x) (hm:X.mg x=none) (hv:bu x=some u) (r:RelV v u) (hn:x≠"__name__":=by decide) (hd:(x==("__debug__":Str))=false:=by decide):PE X (.Name x pos) (tC v):=
 fun _ _ _ H _ I h=>Z1 I hg hm hv ⟨v,H,I,r,h⟩ hn hd
variable {a b:Expr}{ta tb:TE}{pos:Pos}
def tB (t:TE):TT:=fun σ H Q=>t σ H fun x H1=>∃ c,x=.bl c/\Q c H1
theorem zbe {e:Expr}{t:TE}(h:PE X e t) (he:∀ whole,d9 e X.env whole=(do let v <- whole;gU e.pos;dB [v] (truthy v)):=by intro _;rfl):PT X e (tB t):=by intro pj s σ H Q I hw;refine isTrue_plain (thn (h pj s σ H _ I hw) fun v s1 ⟨x,H1,I1,r1,q1⟩=>?_) (he _);obtain ⟨d,rfl,q⟩:=q1;cases r1;exact Ϻ ⟨H1,I1,q⟩
variable {tA tB':TT}{rest:List Expr}
def tAnd (t u:TT):TT:=fun σ H Q=>t σ H fun c H1=>if c=true then u σ H1 Q else Q false H1
def tOr (t u:TT):TT:=fun σ H Q=>t σ H fun c H1=>if c=true then Q true H1 else u σ H1 Q
def tNot (t:TT):TT:=fun σ H Q=>t σ H fun c H1=>Q (!c) H1
theorem UJ (ha:PT X a tA):PW X (.BoolOp .And [a] pos) tA:=by
 intro wh pj s σ H Q I h;refine isTrue_and (thn (ha pj s σ H Q I h) fun c s1 e=>?_);cases c with
 | true=>exact isTrue_and_nil e
 | false=>exact e
theorem zbc (ha:PT X a tA):PW X (.BoolOp .Or [a] pos) tA:=by
 intro wh pj s σ H Q I h;refine isTrue_or (thn (ha pj s σ H Q I h) fun c s1 e=>?_);cases c with
 | false=>exact isTrue_or_nil e
 | true=>exact e
theorem zbd (ha:PT X a tA) (hb:PW X (.BoolOp .And (b::rest) pos) tB'):PW X (.BoolOp .And (a::b::rest) pos) (tAnd tA tB'):=by
 intro wh pj s σ H Q I h;refine isTrue_and (thn (ha pj s σ H _ I h) fun c s1 ⟨H1,I1,q1⟩=>?_);cases c with
 | true=>exact hb wh pj s1 σ H1 Q I1 q1
 | false=>exact ⟨H1,I1,q1⟩
theorem zeT (ha:PT X a tA) (hb:PW X (.BoolOp .Or (b::rest) pos) tB'):PW X (.BoolOp .Or (a::b::rest) pos) (tOr tA tB'):=by
 intro wh pj s σ H Q I h;refine isTrue_or (thn (ha pj s σ H _ I h) fun c s1 ⟨H1,I1,q1⟩=>?_);cases c with
 | true=>exact ⟨H1,I1,q1⟩
 | false=>exact hb wh pj s1 σ H1 Q I1 q1
theorem zbf (ha:PT X a tA):PT X (.UnaryOp .Not a pos) (tNot tA):=by intro pj s σ H Q I h;exact isTrue_not (ha pj s σ H (fun c H1=>Q (!c) H1) I h)
def zg1 (ta tb:TE):TE:=fun σ H Q=>ta σ H fun x H1=>∃ c,x=.bl c/\if c=true then tb σ H1 Q else Q (.bl false) H1
def tOrV (ta tb:TE):TE:=fun σ H Q=>ta σ H fun x H1=>∃ c,x=.bl c/\if c=true then Q (.bl true) H1 else tb σ H1 Q
def zgW (ta:TE):TE:=fun σ H Q=>ta σ H fun x H1=>∃ c,x=.bl c/\Q (.bl (!c)) H1
theorem zbh {op} {t:TE}(h:PE X a t):PE X (.BoolOp op [a] pos) t:=fun pj s σ H Q I hw=>BoolOp_one (h pj s σ H Q I hw)
theorem zbl (ha:PE X a ta) (hb:PE X (.BoolOp .And (b::rest) pos) tb):PE X (.BoolOp .And (a::b::rest) pos) (zg1 ta tb):=by
 intro pj s σ H Q I h;refine BoolOp_and (thn (ha pj s σ H _ I h) fun v s1 ⟨x,H1,I1,r1,q1⟩=>?_);obtain ⟨c,rfl,q1⟩:=q1;cases r1;refine Ϻ ?_;cases c with
 | true=>exact hb pj s1 σ H1 Q I1 q1
 | false=>exact ⟨.bl false,H1,I1,rfl,q1⟩
theorem ze5 (ha:PE X a ta) (hb:PE X (.BoolOp .Or (b::rest) pos) tb):PE X (.BoolOp .Or (a::b::rest) pos) (tOrV ta tb):=by
 intro pj s σ H Q I h;refine BoolOp_or (thn (ha pj s σ H _ I h) fun v s1 ⟨x,H1,I1,r1,q1⟩=>?_);obtain ⟨c,rfl,q1⟩:=q1;cases r1;refine Ϻ ?_;cases c with
 | false=>exact hb pj s1 σ H1 Q I1 q1
 | true=>exact ⟨.bl true,H1,I1,rfl,q1⟩
theorem zbi (ha:PE X a ta):PE X (.UnaryOp .Not a pos) (zgW ta):=by intro pj s σ H Q I h;refine UnaryOp_ (thn (ha pj s σ H _ I h) fun v s1 ⟨x,H1,I1,r1,q1⟩=>?_);obtain ⟨c,rfl,q1⟩:=q1;cases r1;exact not_of (Ϻ ⟨.bl (!c),H1,I1,rfl,q1⟩)
def tIf (t:TT) (ta tb:TE):TE:=fun σ H Q=>t σ H fun c H1=>if c=true then ta σ H1 Q else tb σ H1 Q
theorem QR {c:Expr}(hc:PT X c tA) (ha:PE X a ta) (hb:PE X b tb):PE X (.IfExp c a b pos) (tIf tA ta tb):=by
 intro pj s σ H Q I h;refine wpAny_IfExp (thn (hc pj s σ H _ I h) fun d s1 ⟨H1,I1,q1⟩=>?_);cases d with
 | true=>exact ha pj s1 σ H1 Q I1 q1
 | false=>exact hb pj s1 σ H1 Q I1 q1
end
def SqL (K:W.Frag) (H:Hp) (a:Addr) (xs:List V):Prop:=
 Rd H a (.lst xs) \/
  ∃ (o:Obj) (its:Array δ) (n:Nat),K.lookup a=some o/\o.cls=.type "list"/\o.dict=none/\o.data=.seq its n/\its.size<=sizeLine/\Vals xs its.toList
def SqT (K:W.Frag) (H:Hp) (a:Addr) (xs:List V):Prop:=
 Rd H a (.tup xs) \/
  ∃ (o:Obj) (its:Array δ) (n:Nat),K.lookup a=some o/\o.cls=.type "tuple"/\o.data=.seq its n/\its.size<=sizeLine/\Vals xs its.toList
noncomputable def absV:δ->Option V
 | .none=>some .non
 | .bool b=>some (.bl b)
 | .int i _=>some (.int i)
 | .str x _=>some (.str x)
 | .bytes b _=>some (.byt b)
 | .float b _=>some (.flt b)
 | .ref a=>some (.ref a)
 | .type n=>some (.ty n)
 | _=>none
theorem RelV.abs {x:V}{u:δ}(r:RelV x u):absV u=some x:=by
 cases x with
 | non=>cases r;rfl
 | bl _=>cases r;rfl
 | int _=>obtain ⟨t,rfl⟩:=r;rfl
 | str _=>obtain ⟨t,rfl⟩:=r;rfl
 | byt _=>obtain ⟨t,rfl⟩:=r;rfl
 | flt _=>obtain ⟨t,rfl⟩:=r;rfl
 | ref _=>cases r;rfl
 | ty _=>cases r;rfl
theorem RelV.inj {x y:V}{u:δ}(r:RelV x u) (q:RelV y u):x=y:=Λ (r.abs.symm.trans q.abs)
theorem Vals.inj:∀ {xs ys:List V}{us:List δ},Vals xs us->Vals ys us->xs=ys
 | _,_,_,.nil,.nil=>rfl
 | _,_,_,.cons r t,.cons r' t'=>by rw [r.inj r',Vals.inj t t']
section
variable {X:Cx}{pj:List (Addr×Obj)}{σ:St}{H:Hp}{s:ν}{a:Addr}{xs ys:List V}
theorem SqL.of {K:W.Frag}(h:H a=some (.lst xs)):SqL K H a xs:=.inl (.inl h)
theorem SqT.of {K:W.Frag}(h:H a=some (.tup xs)):SqT K H a xs:=.inl (.inl h)
theorem Inv.list (I:Inv X pj σ H s) (h:SqL X.K H a xs):∃ its:List δ,Vals xs its/\PlainL s.heap a its.toArray/\xs.length<=sizeLine:=by
 rcases h with h | ⟨o,its,n,hk,hc,hd,hs,hz,r⟩
 ·obtain ⟨z,its,n,r,e⟩:=h.ok I.hok;exact ⟨its,r,⟨_,n,e,rfl,rfl,rfl⟩,z⟩
 ·refine ⟨its.toList,r,⟨o,n,I.kIn a o hk,hc,hd,by simpa using hs⟩,?_⟩;have e:=r.length;simp only [cJ] at e;lia
theorem Inv.tuple (I:Inv X pj σ H s) (h:SqT X.K H a xs):∃ its:List δ,Vals xs its/\IsTup s.heap a its.toArray/\xs.length<=sizeLine:=by
 rcases h with h | ⟨o,its,n,hk,hc,hs,hz,r⟩
 ·obtain ⟨z,its,r,p⟩:=h.ok I.hok;exact ⟨its,r,p,z⟩
 ·refine ⟨its.toList,r,⟨o,I.kIn a o hk,hc,n,by simpa using hs⟩,?_⟩;have e:=r.length;simp only [cJ] at e;lia
theorem Inv.zac (I:Inv X pj σ H s) (h:SqL X.K H a xs) (h':SqL X.K H a ys):xs=ys:=by
 obtain ⟨its,r,⟨o,n,e,_,_,d⟩,_⟩:=I.list h;obtain ⟨its',r',⟨o',n',e',_,_,d'⟩,_⟩:=I.list h';rw [e] at e';cases e';rw [d] at d'
 injection d' with d1 _
 have:its=its':=by simpa using congrArg Array.toList d1
 subst this;exact r.inj r'
theorem Inv.uU (I:Inv X pj σ H s) (h:SqT X.K H a xs) (h':SqT X.K H a ys):xs=ys:=by
 obtain ⟨its,r,⟨o,e,_,n,d⟩,_⟩:=I.tuple h;obtain ⟨its',r',⟨o',e',_,n',d'⟩,_⟩:=I.tuple h';rw [e] at e';cases e';rw [d] at d'
 injection d' with d1 _
 have:its=its':=by simpa using congrArg Array.toList d1
 subst this;exact r.inj r'
end
noncomputable abbrev Cx.wish (X:Cx) (E:VSP):Cx:={ X with xe:=E }
noncomputable abbrev Cx.nox (X:Cx):Cx:=X.wish fun _ _=>False
theorem Cx.Ok.wish {X:Cx}(ok:X.Ok) (E:VSP):(X.wish E).Ok:=
 ⟨ok.mod,ok.kind,ok.glob,ok.blt,ok.above,ok.inj,ok.has,ok.cab,ok.hd,ok.frames,ok.stk,ok.exf,ok.bs,ok.bsz,ok.noex,ok.exfs,ok.funs,ok.frf⟩
theorem Cx.Ok.yS {X:Cx}{E:VSP}(ok:(X.wish E).Ok):X.Ok:=
 ⟨ok.mod,ok.kind,ok.glob,ok.blt,ok.above,ok.inj,ok.has,ok.cab,ok.hd,ok.frames,ok.stk,ok.exf,ok.bs,ok.bsz,ok.noex,ok.exfs,ok.funs,ok.frf⟩
section
variable {X:Cx}{pj:List (Addr×Obj)}{σ:St}{H:Hp}{s:ν}{E:VSP}
theorem Inv.wish (I:Inv X pj σ H s) (E:VSP):Inv (X.wish E) pj σ H s:=⟨I.ok.wish E,I.os,I.bare,I.base,I.loc,I.cell,I.free,I.freeC,I.pin,I.hok,I.len⟩
theorem Inv.yS (I:Inv (X.wish E) pj σ H s):Inv X pj σ H s:=⟨I.ok.yS,I.os,I.bare,I.base,I.loc,I.cell,I.free,I.freeC,I.pin,I.hok,I.len⟩
theorem SP.yS {D:Ends}{f:Flow}{s':ν}(h:SP (X.wish E) pj D f s'):SP X pj D f s':=by
 cases f with
 | next=>obtain ⟨σ',H',I,q⟩:=h;exact ⟨σ',H',I.yS,q⟩
 | brk=>obtain ⟨σ',H',I,q⟩:=h;exact ⟨σ',H',I.yS,q⟩
 | cont=>obtain ⟨σ',H',I,q⟩:=h;exact ⟨σ',H',I.yS,q⟩
 | ret u=>obtain ⟨v,σ',H',I,r,q⟩:=h;exact ⟨v,σ',H',I.yS,r,q⟩
theorem PE.nox {e:Expr}{t:TE}(h:PE X.nox e t):PE X e t:=fun pj s σ H Q I hw=>
 aJ (h pj s σ H Q (I.wish _) hw) (fun _ _ ⟨v,H',I',r,q⟩=>⟨v,H',I'.yS,r,q⟩) fun _ _ z=>ϗ z
theorem PT.nox {e:Expr}{t:TT}(h:PT X.nox e t):PT X e t:=fun pj s σ H Q I hw=>
 aJ (h pj s σ H Q (I.wish _) hw) (fun _ _ ⟨H',I',q⟩=>⟨H',I'.yS,q⟩) fun _ _ z=>ϗ z
theorem PSs.nox {st:List Stmt}{t:TS}(h:PSs X.nox st t):PSs X st t:=fun pj s σ H D I hw=>
 aJ (h pj s σ H D (I.wish _) hw) (fun _ _ q=>q.yS) fun _ _ z=>ϗ z
end
section
variable {X:Cx}{st:Stmt}{rest:List Stmt}{t u:TS}{e:Expr}{te:TE}{pos:Pos}
def zee:TS:=fun D σ H=>D.nx σ H
def tSeq (t u:TS):TS:=fun D σ H=>t { D with nx:=u D } σ H
theorem qH:PSs X [] zee:=fun _ _ σ H _ I h=>eO ⟨σ,H,I,h⟩
theorem uC (h1:PS X st t) (h2:PSs X rest u):PSs X (st::rest) (tSeq t u):=by
 intro pj s σ H D I h;refine wpAny_execs_cons (thn (h1 pj s σ H { D with nx:=u D } I h) fun f s1 q=>?_);cases f with
 | next=>
  obtain ⟨σ',H',I',q⟩:=q;exact h2 pj s1 σ' H' D I' q
 | ret v=>exact q
 | brk=>exact q
 | cont=>exact q
def zeh:TS:=fun D σ H=>D.bk σ H
def zgZ:TS:=fun D σ H=>D.ct σ H
theorem zcu:PS X (.Pass pos) zee:=fun _ _ σ H _ I h=>wpAny_Pass ⟨σ,H,I,h⟩
theorem QJ:PS X (.Break pos) zeh:=fun _ _ σ H _ I h=>wpAny_Break ⟨σ,H,I,h⟩
theorem Y4:PS X (.Continue pos) zgZ:=fun _ _ σ H _ I h=>wpAny_Continue ⟨σ,H,I,h⟩
theorem Inv.quiet {pj:List (Addr×Obj)}{σ:St}{H:Hp}{s:ν}(I:Inv X pj σ H s):interactive X.env=false:=by simp [interactive,I.ok.kind]
def zgY (te:TE):TS:=fun D σ H=>te σ H fun _ H1=>D.nx σ H1
theorem UV (he:PE X e te) (hs:cj e none pos.line X.env=pure false:=by rfl):PS X (.Expr e pos) (zgY te):=by intro pj s σ H D I h;exact wpAny_Expr_any (thn (he pj s σ H _ I h) fun v s1 ⟨x,H1,I1,r1,q1⟩=>⟨σ,H1,I1,q1⟩) I.quiet hs
def tRet (te:TE):TS:=fun D σ H=>te σ H D.rt
theorem UL (he:PE X e te):PS X (.Return (some e) pos) (tRet te):=by intro pj s σ H D I h;exact wpAny_Return_some (thn (he pj s σ H _ I h) fun v s1 ⟨x,H1,I1,r1,q1⟩=>⟨x,σ,H1,I1,r1,q1⟩)
def zgU:TS:=fun D _ H=>D.rt .non H
theorem zct:PS X (.Return none pos) zgU:=fun _ _ σ H _ I h=>wpAny_Return_none ⟨.non,σ,H,I,rfl,h⟩
def tIfS (c:TT) (t u:TS):TS:=fun D σ H=>c σ H fun b H1=>if b=true then t D σ H1 else u D σ H1
theorem zeW {c:Expr}{a b:List Stmt}{tc:TT}(hc:PT X c tc) (ha:PSs X a t) (hb:PSs X b u):PS X (.If c a b pos) (tIfS tc t u):=by
 intro pj s σ H D I h;refine wpAny_If (thn (hc pj s σ H _ I h) fun d s1 ⟨H1,I1,q1⟩=>?_);cases d with
 | true=>exact ha pj s1 σ H1 D I1 q1
 | false=>exact hb pj s1 σ H1 D I1 q1
end
abbrev TG:=V->St->Hp->(St->Hp->Prop)->Prop
abbrev TGs:=List V->St->Hp->(St->Hp->Prop)->Prop
def PG (X:Cx) (target:Expr) (t:TG):Prop:=
 ∀ (pj:List (Addr×Obj)) (s:ν) (σ:St) (H:Hp) (v:V) (u:δ) (Q:St->Hp->Prop),Inv X pj σ H s->RelV v u->t v σ H Q ->
  Θ (Ξ X.prog X.w) X.A (dD target X.env u) (fun _ s'=>∃ σ' H',Inv X pj σ' H' s'/\Q σ' H') X.xe s
def PGs (X:Cx) (ts:List Expr) (t:TGs):Prop:=
 ∀ (pj:List (Addr×Obj)) (s:ν) (σ:St) (H:Hp) (vs:List V) (us:List δ) (Q:St->Hp->Prop),Inv X pj σ H s->Vals vs us->t vs σ H Q ->
  Θ (Ξ X.prog X.w) X.A (lM ((aD ts X.env).map (·.2)) us) (fun _ s'=>∃ σ' H',Inv X pj σ' H' s'/\Q σ' H') X.xe s
abbrev TSet:=V->V->V->Hp->(Hp->Prop)->Prop
def PSet (X:Cx) (t:TSet):Prop:=
 ∀ (pj:List (Addr×Obj)) (s:ν) (σ:St) (H:Hp) (o i v:V) (ov iv u:δ) (Q:Hp->Prop),Inv X pj σ H s->RelV o ov->RelV i iv->RelV v u->t o i v H Q ->
  Θ (Ξ X.prog X.w) X.A (setItem ov iv u) (fun _ s'=>∃ H',Inv X pj σ H' s'/\Q H') X.xe s
section
variable {X:Cx}{pos:Pos}
def Yh (i:Nat):TG:=fun v σ H Q=>Q (σ.set i (some v)) H
theorem U8 {i:Nat}{x:Str}(hN:X.N.Nodup) (hi:X.N[i]?=some x) (hx:Loc X.env.scope x) (hf:X.fn x=true\/X.env.scope.names.lookup x=some .local:=by first | exact .inl rfl | exact .inr rfl | assumption):PG X (.Name x pos) (Yh i):=by intro pj s σ H v u Q I r h;exact wpAny_assign_Name (uy I hN hi hx r (fun s' I'=>⟨_,H,I',h⟩) hf)
def gNil:TGs:=fun vs σ H Q=>vs=[]/\Q σ H
def zal (t:TG) (u:TGs):TGs:=fun vs σ H Q=>∃ v r,vs=v::r/\t v σ H fun σ' H'=>u r σ' H' Q
theorem U6:PGs X [] gNil:=by intro pj s σ H vs us Q I r h;obtain ⟨e,h⟩:=h;subst e;cases r;exact assignInOrder_nil ⟨σ,H,I,h⟩
theorem qI {e:Expr}{es:List Expr}{t:TG}{u:TGs}(h1:PG X e t) (h2:PGs X es u)
  (hs:(aD (e::es) X.env).map (·.2)=dD e X.env::(aD es X.env).map (·.2):=by rfl):PGs X (e::es) (zal t u):=by
 intro pj s σ H vs us Q I r h;obtain ⟨v,vr,e1,h⟩:=h;subst e1;cases r with
 | cons r rr=>
  rw [hs];refine gH (thn (h1 pj s σ H _ _ _ I r h) fun _ s1 ⟨σ1,H1,I1,q1⟩=>?_);exact h2 pj s1 σ1 H1 _ _ Q I1 rr q1
def gTup (K:W.Frag) (n:Nat) (t:TGs):TG:=fun v σ H Q=>∃ a xs,v=.ref a/\SqT K H a xs/\xs.length=n/\t xs σ H Q
theorem U7 {es:List Expr}{k:Nat}{t:TGs}{n:Nat}(hc:X.calm=true) (h:PGs X es t)
  (hn:(aD es X.env).length=n:=by rfl) (hst:(aD es X.env).findIdx? (·.1)=none:=by rfl):PG X (.Tuple es k pos) (gTup X.K n t):=by
 intro pj s σ H v u Q I r hw;obtain ⟨a,xs,e1,hq,hl,hw⟩:=hw;subst e1;cases r;obtain ⟨its,rv,ht,hz⟩:=I.tuple hq;refine assign_Tuple_tuple (I.ok.hd hc) ht (by simp [hn,<- hl,rv.length]) hst fun h' hx=>?_
 have I1:Inv X pj σ H { s with heap:=h' }:=I.kept (t':=s.toks) fun b o e=>hx b o (ϔ (Δ e)) e
 exact h pj _ σ H xs _ Q I1 (by simpa using rv) hw
def gSub (to ti:TE) (t:TSet):TG:=fun v σ H Q=>to σ H fun o H1=>ti σ H1 fun i H2=>t o i v H2 fun H3=>Q σ H3
theorem ze4 {o i:Expr}{to ti:TE}{t:TSet}(ho:PE X o to) (hi:PE X i ti) (hs:PSet X t)
  (ha:∀ v,dD (.Subscript o i pos) X.env v=(do
   let ov <- dB [v] (eval o X.env)
   let iv <- dB [v,ov] (eval i X.env)
   gU pos
   dB [v,ov,iv] (setItem ov iv v)
   release [v,ov,iv] []):=by intro _;rfl):PG X (.Subscript o i pos) (gSub to ti t):=by intro pj s σ H v u Q I r h;rw [ha];refine ε (cN (thn (ho pj s σ H _ I h) fun ov s1 ⟨x,H1,I1,r1,q1⟩=>?_));refine ε (cN (thn (hi pj s1 σ H1 _ I1 q1) fun iv s2 ⟨y,H2,I2,r2,q2⟩=>?_));refine ε (cL (ε (cN (thn (hs pj s2 σ H2 x y v ov iv u _ I2 r1 r2 r q2) fun _ s3 ⟨H3,I3,q3⟩=>?_))));exact wpAny_release ⟨σ,H3,I3,q3⟩
def tAsg (te:TE) (g:TG):TS:=fun D σ H=>te σ H fun x H1=>g x σ H1 D.nx
theorem UW {tg e:Expr}{te:TE}{g:TG}(he:PE X e te) (hg:PG X tg g) (hs:bC [tg] e pos.line X.env=pure false:=by rfl) (hw:Ϲ [tg] e X.env=pure none:=by rfl)
  (h1:(aD [tg] X.env).map (·.2)=[dD tg X.env]:=by rfl):PS X (.Assign [tg] e pos) (tAsg te g):=by intro pj s σ H D I h;refine gh (thn (he pj s σ H _ I h) fun v s1 ⟨x,H1,I1,r1,q1⟩=>?_) hs hw;rw [h1];exact thn (hg pj s1 σ H1 x v _ I1 r1 q1) fun _ s2 q=>q
def tPar (i j:Nat) (ta:TA):TS:=fun D σ H=>ta σ H fun vs H1=>∃ v w,vs=[v,w]/\D.nx ((σ.set i (some v)).set j (some w)) H1
theorem zeV {i j:Nat}{x y:Str}{a b:Expr}{ta:TA}{px py pt:Pos}{kt k2 pt2} (hc:X.calm=true) (hN:X.N.Nodup) (hi:X.N[i]?=some x) (hj:X.N[j]?=some y) (hij:i≠j)
  (hx:X.env.scope.names.lookup x=some .local) (hy:X.env.scope.names.lookup y=some .local) (ha:PA X [a,b] ta)
  (hw:Ϲ [.Tuple [.Name x px,.Name y py] kt pt] (.Tuple [a,b] k2 pt2) X.env=pure (some [x,y]))
  (hs:bC [.Tuple [.Name x px,.Name y py] kt pt] (.Tuple [a,b] k2 pt2) pos.line X.env=pure false:=by rfl):
  PS X (.Assign [.Tuple [.Name x px,.Name y py] kt pt] (.Tuple [a,b] k2 pt2) pos) (tPar i j ta):=by
 intro pj s σ H D I h;rw [exec_Assign_arm];refine ε (cL ?_);rw [hs];refine ε (π ?_);rw [if_neg (by decide)];refine ε (Tuple_ (thn (ha _ pj s σ H _ I h) fun us s1 ⟨vs,H1,I1,r1,q1⟩=>?_));obtain ⟨v,w,e1,q1⟩:=q1;subst e1;obtain ⟨u1,u2,rfl,rv,rw'⟩:∃ u1 u2,us=[u1,u2]/\RelV v u1/\RelV w u2:=by
  cases r1 with
  | cons p q=>
   cases q with
   | cons p' q'=>
    cases q';exact ⟨_,_,rfl,p,p'⟩
 refine aj ?_ (by show 2<=sizeLine;decide);have I2:Inv X pj σ H1 { s1 with heap:=s1.heap.push { cls:=.type "tuple",data:=.seq [u1,u2].toArray } }:=I1.kept (t':=s1.toks) fun b o e=>ξ _ e
 rw [hw];refine ε (π ?_);show Θ (Ξ X.prog X.w) X.A (do rule "assign.swapped-stores";let items <- unpackItems (.ref s1.heap.objs.size) 2 none;lM [fun v=>bindName X.env y v,fun v=>bindName X.env x v] items.reverse;pure Flow.next) _ _ _
 refine ε (di (ε (unpackItems_tuple (items:=#[u1,u2]) (I.ok.hd hc) (IsTup.new s1.heap _) fun h' hx'=>?_)));have I3:=I2.kept (h':=h') (t':=s1.toks) fun b o e=>hx' b o (ϔ (Δ e)) e
 show Θ _ _ (lM [fun v=>bindName X.env y v,fun v=>bindName X.env x v] [u2,u1] >>= fun _=>pure Flow.next) _ _ _
 refine ε (gH (lA (uy I3 hN hj (.inl hy) rw' (fun s2 I4=>?_) (.inr hy))));refine gH (lA (uy I4 hN hi (.inl hx) rv (fun s3 I5=>assignInOrder_nil (π ?_)) (.inr hx)));rw [List.set_comm _ _ (bA hij)] at I5;exact ⟨_,H1,I5,q1⟩
def zec (c:TT) (tb:TS):TS:=fun D σ H=>∃ W:Nat->St->Hp->Prop,(∃ m,W m σ H)/\∀ m σ H,W m σ H ->
 c σ H fun b H1=>if b=true then ∃ N:St->Hp->Prop,(∀ σ' H',N σ' H'->∃ m',m' < m/\W m' σ' H')/\tb { D with nx:=N,ct:=N,bk:=D.nx } σ H1 else D.nx σ H1
theorem QH {c:Expr}{body:List Stmt}{tc:TT}{tb:TS}(hp:fY (Ξ X.prog X.w) X.A X.env X.xe) (hc:PT X c tc) (hb:PSs X body tb):PS X (.While c body [] pos) (zec tc tb):=by
 intro pj s σ H D I h;obtain ⟨W,⟨m0,w0⟩,turn⟩:=h;refine wpAny_While (codeAny_whileLoop (fun n s'=>∃ σ' H',Inv X pj σ' H' s'/\W n σ' H') ?_ m0 ⟨σ,H,I,w0⟩);rintro n s1 ⟨σ1,H1,I1,w1⟩;refine bz hp (thn (hc pj s1 σ1 H1 _ I1 (turn n σ1 H1 w1)) fun b s2 ⟨H2,I2,q2⟩=>?_);cases b with
 | true=>
  obtain ⟨N,hN,q2⟩:=q2;rw [if_pos rfl];refine bz hp (thn (hb pj s2 σ1 H2 _ I2 q2) fun f s3 q3=>?_);cases f with
  | next=>
   obtain ⟨σ3,H3,I3,n3⟩:=q3;obtain ⟨m',hm,w3⟩:=hN σ3 H3 n3;exact ⟨m',hm,σ3,H3,I3,w3⟩
  | cont=>
   obtain ⟨σ3,H3,I3,n3⟩:=q3;obtain ⟨m',hm,w3⟩:=hN σ3 H3 n3;exact ⟨m',hm,σ3,H3,I3,w3⟩
  | brk=>exact q3
  | ret v=>exact q3
 | false=>
  rw [if_neg Ν];exact eO ⟨σ1,H2,I2,q2⟩
end
structure It where
 go:Nat->Hp->Prop
 yld:Nat->Hp->V->Hp->Prop
 stop:Nat->Hp->Prop
def FpOk (X:Cx) (pj:List (Addr×Obj)) (H:Hp) (b:Addr):Prop:=
 H b=none/\b≠X.env.locals/\b ∉ X.fs/\(b∈X.ex\/X.sy.heap.objs.size<=b)/\(∀ x c,X.env.cells.lookup x=some c->c≠b)/\∀ p∈X.pn++pj,p.1≠b
theorem Inv.fpOk {X:Cx}{pj:List (Addr×Obj)}{σ:St}{H H':Hp}{s:ν}{b:Addr}(I:Inv X pj σ H s) (hb:s.heap.objs.size<=b) (hn:H' b=none):FpOk X pj H' b:=by
 refine ⟨hn,gq (Ψ I.lt hb),I.nofs hb,.inr (ϕ I.sz hb),fun x c e z=>?_,fun p hp z=>?_⟩
 ·obtain ⟨v,q⟩:=I.cell x c e;exact absurd (Ψ q.lt (by rw [z];exact hb)) (bN _)
 ·exact absurd (Ψ (Δ (I.pin p hp).1) (by rw [z];exact hb)) (bN _)
structure Turn (P:Τ) (w:ϙ) (K:W.Frag) (tg:Expr) (J:It) (fp:List Addr) (it:Addr) (tn:Nat->Heap->Prop):Prop where
 mem:it∈fp
 obj:∀ i h,tn i h->∀ b∈fp,∃ o,h.get? b=some o/\∀ v,o.data≠.cell v
 keep:∀ i h h',tn i h->(∀ b∈fp,∀ o,h.get? b=some o->h'.get? b=some o)->tn i h'
 item:∀ (X:Cx),X.prog=P->X.w=w->X.K=K->X.calm=true->∀ (i:Nat) (pj:List (Addr×Obj)) (s:ν) (σ:St) (H:Hp) (E:VSP),Inv X pj σ H s->(∀ b∈fp,FpOk X pj H b)->tn i s.heap->J.go i H ->
  Θ (Ξ P w) X.A (pyNext (.ref it)) (fun r s1=>∃ u,r=some u /\
   Θ (Ξ P w) X.A (iW tg (.ref it) u) (fun _ s2=>∃ x H',Inv X pj σ H' s2/\RelV x u/\J.yld i H x H'/\tn (i+1) s2.heap/\∀ b∈fp,H' b=none) E s1) E s
 done:∀ (X:Cx),X.prog=P->X.w=w->X.K=K->X.calm=true->∀ (i:Nat) (pj:List (Addr×Obj)) (s:ν) (σ:St) (H:Hp) (E:VSP),Inv X pj σ H s->(∀ b∈fp,FpOk X pj H b)->tn i s.heap->J.stop i H ->
  Θ (Ξ P w) X.A (pyNext (.ref it)) (fun r s1=>r=none/\Inv X pj σ H s1) E s
 self:∀ (A:Ϗ) (i:Nat) (s:ν) (Q:VSP) (E:VSP),tn i s.heap->Q (.ref it) s->Θ (Ξ P w) A (pyIter (.ref it)) Q E s
abbrev TI:=St->Hp->(It->Hp->Prop)->Prop
def PIE (X:Cx) (pj:List (Addr×Obj)) (σ:St) (tg:Expr) (R:It->Hp->Prop) (itv:δ) (s2:ν):Prop:=
 ∃ (it:Addr) (fp:List Addr) (tn:Nat->Heap->Prop) (J:It) (H':Hp),itv=.ref it/\Inv X pj σ H' s2/\Turn X.prog X.w X.K tg J fp it tn/\tn 0 s2.heap/\(∀ b∈fp,FpOk X pj H' b)/\R J H'
def PI (X:Cx) (tg iter:Expr) (wi:TI):Prop:=
 ∀ (pj:List (Addr×Obj)) (s:ν) (σ:St) (H:Hp) (R:It->Hp->Prop),Inv X pj σ H s->wi σ H R ->
  Θ (Ξ X.prog X.w) X.A (eval iter X.env) (fun v s1=>Θ (Ξ X.prog X.w) X.A (pyIter v) (PIE X pj σ tg R) X.xe s1) X.xe s
theorem J7 {M:Model}{A:Ϗ}{E:VSP}{s:ν}{tg:Expr}{it:Addr}{u:δ}{o:Obj}{n:String}{vs:Array δ}{Q:Unit->ν->Prop}(ho:s.heap.get? it=some o) (hc:o.cls=.type n) (hd:o.data=.fields vs)
    (hn:["enumerate","zip","dict_itemiterator","dict_reverseitemiterator","odict_iterator","itertools.zip_longest","itertools.pairwise"].contains n=false) (hQ:Q () s):Θ M A (iW tg (.ref it) u) Q E s:=by
  unfold iW;cases tg <;> first
    | exact π hQ
    | (cases u <;> first
        | exact π hQ
        | (refine ε (wpAny_load ho ?_)
           rw [hc,hd];show Θ M A (if (["enumerate","zip","dict_itemiterator","dict_reverseitemiterator","odict_iterator","itertools.zip_longest","itertools.pairwise"].contains n&&vs[0]?==some (d8 _))=true then _ else _) Q E s
           rw [if_neg (by intro h;rw [hn,aA] at h;cases h)]
           exact π hQ))
noncomputable def Itl (K:W.Frag) (a:Addr):It:=
 ⟨fun i H=>∃ xs x,SqL K H a xs/\xs[i]?=some x,fun i H x H'=>H'=H/\∀ xs,SqL K H a xs->xs[i]?=some x,fun i H=>∃ xs,SqL K H a xs/\xs.length<=i⟩
noncomputable def Itt (K:W.Frag) (a:Addr):It:=
 ⟨fun i H=>∃ xs x,SqT K H a xs/\xs[i]?=some x,fun i H x H'=>H'=H/\∀ xs,SqT K H a xs->xs[i]?=some x,fun i H=>∃ xs,SqT K H a xs/\xs.length<=i⟩
noncomputable def Itr (lo:Int) (n:Nat):It:=⟨fun i _=>i < n,fun i H x H'=>H'=H/\x=.int (lo+i),fun i _=>n<=i⟩
theorem V9 {P:Τ}{w:ϙ}{K:W.Frag}{tg:Expr}(a it:Addr):Turn P w K tg (Itl K a) [it] it (fun i h=>h.IsListIter it a i) where
 mem:=by simp
 obj:=fun i h st b hb=>by
  have e:b=it:=by simpa using hb
  subst e;obtain ⟨o,e,c,d⟩:=st;exact ⟨o,e,fun v z=>by rw [d] at z;cases z⟩
 keep:=fun i h h' st k=>st.at fun o e=>k it (by simp) o e
 item:=by
  intro X hP hw hK hc i pj s σ H E I hf st hg;subst hP hw hK;obtain ⟨xs,x,hq,hx⟩:=hg;obtain ⟨its,rv,p,hz⟩:=I.list hq;obtain ⟨u,hu,ru⟩:=rv.get hx;obtain ⟨f0,f1,f2,f3,f4,f5⟩:=hf it (by simp);refine wpAny_pyNext_list_item st p.isList (x:=u) (by simpa using hu) fun h' st' sb=>?_
  have I1:Inv X pj σ H { s with heap:=h' }:=I.turned (t':=s.toks) (fun b o hb e=>(sb.2 b hb).trans e) f0 f1 f3 f4 f5;obtain ⟨o,e,c,d⟩:=id st';exact ⟨u,rfl,J7 (s:={ s with heap:=h' }) e c d (by decide) ⟨x,H,I1,ru,⟨rfl,fun ys hy=>by rw [I.zac hy hq];exact hx⟩,st',fun b hb=>(hf b hb).1⟩⟩
 done:=by intro X hP hw hK hc i pj s σ H E I hf st hg;subst hP hw hK;obtain ⟨xs,hq,hx⟩:=hg;obtain ⟨its,rv,p,hz⟩:=I.list hq;obtain ⟨f0,f1,f2,f3,f4,f5⟩:=hf it (by simp);have hl:=rv.length;exact wpAny_pyNext_list_end (I.ok.hd hc) st p.isList (by simp;lia) fun h' eb=>⟨rfl,I.turned (t':=s.toks) (fun b o hb e=>eb b o hb e) f0 f1 f3 f4 f5⟩
 self:=fun _ _ _ _ _ st h=>wpAny_pyIter_listiter st h
theorem W9 {P:Τ}{w:ϙ}{K:W.Frag}{tg:Expr}(a it:Addr):Turn P w K tg (Itt K a) [it] it (fun i h=>h.IsTupleIter it a i) where
 mem:=by simp
 obj:=fun i h st b hb=>by
  have e:b=it:=by simpa using hb
  subst e;obtain ⟨o,e,c,d⟩:=st;exact ⟨o,e,fun v z=>by rw [d] at z;cases z⟩
 keep:=fun i h h' st k=>st.at fun o e=>k it (by simp) o e
 item:=by
  intro X hP hw hK hc i pj s σ H E I hf st hg;subst hP hw hK;obtain ⟨xs,x,hq,hx⟩:=hg;obtain ⟨its,rv,p,hz⟩:=I.tuple hq;obtain ⟨u,hu,ru⟩:=rv.get hx;obtain ⟨f0,f1,f2,f3,f4,f5⟩:=hf it (by simp);refine wpAny_pyNext_tuple_item st (show s.heap.IsTuple a its.toArray from p) (x:=u) (by simpa using hu) fun h' st' sb=>?_
  have I1:Inv X pj σ H { s with heap:=h' }:=I.turned (t':=s.toks) (fun b o hb e=>(sb.2 b hb).trans e) f0 f1 f3 f4 f5;obtain ⟨o,e,c,d⟩:=id st';exact ⟨u,rfl,J7 (s:={ s with heap:=h' }) e c d (by decide) ⟨x,H,I1,ru,⟨rfl,fun ys hy=>by rw [I.uU hy hq];exact hx⟩,st',fun b hb=>(hf b hb).1⟩⟩
 done:=by intro X hP hw hK hc i pj s σ H E I hf st hg;subst hP hw hK;obtain ⟨xs,hq,hx⟩:=hg;obtain ⟨its,rv,p,hz⟩:=I.tuple hq;obtain ⟨f0,f1,f2,f3,f4,f5⟩:=hf it (by simp);have hl:=rv.length;exact wpAny_pyNext_tuple_end (I.ok.hd hc) st (show s.heap.IsTuple a its.toArray from p) (by simp;lia) fun h' eb=>⟨rfl,I.turned (t':=s.toks) (fun b o hb e=>eb b o hb e) f0 f1 f3 f4 f5⟩
 self:=fun _ _ _ _ _ st h=>wpAny_pyIter_tupleiter st h
theorem Va {P:Τ}{w:ϙ}{K:PySem.W.Frag}{tg:Expr}(it:Addr) (lo:Int) (n:Nat):Turn P w K tg (Itr lo n) [it] it (fun i h=>IsRangeIter h it (lo+(i:Nat)*1) ((n:Int) - (i:Nat)) 1) where
 mem:=by simp
 obj:=fun i h st b hb=>by
  have e:b=it:=by simpa using hb
  subst e
  exact ⟨_,st,fun v z=>by
   have z':Data.fields _=Data.cell v:=z
   cases z'⟩
 keep:=fun i h h' st k=>k it (by simp) _ st
 item:=by
  intro X hP hw hK hc i pj s σ H E I hf st hg;subst hP hw hK;obtain ⟨f0,f1,f2,f3,f4,f5⟩:=hf it (by simp);have W:=Walks.range (prog:=X.prog) (w:=X.w) (I.ok.hd hc) it lo 1 n;refine W.item i s _ _ hg st fun v h' tk hv st' kk=>?_
  obtain ⟨t,rfl⟩:=hv;have I1:Inv X pj σ H { s with heap:=h',toks:=tk }:=I.turned (fun b o hb e=>kk b o (by simpa using hb) e) f0 f1 f3 f4 f5;refine ⟨_,rfl,J7 (s:={ s with heap:=h',toks:=tk }) (n:="range_iterator") st' rfl rfl (by decide) ⟨.int (lo+i),H,I1,⟨t,?_⟩,⟨rfl,rfl⟩,st',fun b hb=>(hf b hb).1⟩⟩;rw [Int.mul_one]
 done:=by intro X hP hw hK hc i pj s σ H E I hf st hg;subst hP hw hK;obtain ⟨f0,f1,f2,f3,f4,f5⟩:=hf it (by simp);exact wpAny_pyNext_range_end (I.ok.hd hc) st (by have:n<=i:=hg;lia) fun h' eb=>⟨rfl,I.turned (t':=s.toks) (fun b o hb e=>eb b o hb e) f0 f1 f3 f4 f5⟩
 self:=fun _ _ _ _ _ st h=>wpAny_pyIter_rangeiter st h
section
variable {X:Cx}{tg:Expr}
theorem QB {pj:List (Addr×Obj)}{σ:St}{H:Hp}{s:ν}{R:It->Hp->Prop}{E:VSP}{lo hi:Int}{t u v:Tok}{tk:Nat}(I:Inv X pj σ H s) (h1:-(2 ^ 62)<=lo) (h2:lo < 2 ^ 62) (h3:-(2 ^ 62)<=hi) (h4:hi < 2 ^ 62)
  (q:R (Itr lo (hi - lo).toNat) H):Θ (Ξ X.prog X.w) X.A (pyIter (.ref s.heap.objs.size)) (PIE X pj σ tg R) E { s with heap:=s.heap.push { cls:=.type "range",data:=.fields #[.int lo t,.int hi u,.int 1 v] },toks:=tk }:=by
 refine wpAny_pyIter_range (IsRange.new ..) (small_one h1 h2 h3 h4) ?_;have I1:Inv X pj σ H { s with heap:=s.heap.push { cls:=.type "range",data:=.fields #[.int lo t,.int hi u,.int 1 v] },toks:=tk }:=I.kept fun b o e=>ξ _ e
 refine ⟨(s.heap.push { cls:=.type "range",data:=.fields #[.int lo t,.int hi u,.int 1 v] }).objs.size,[(s.heap.push { cls:=.type "range",data:=.fields #[.int lo t,.int hi u,.int 1 v] }).objs.size],_,_,H,rfl,
  I1.kept (t':=tk) fun b o e=>ξ _ e,Va _ lo (hi - lo).toNat,?_,fun b hb=>?_,q⟩
 ·have e1:lo+((0:Nat):Int)*1=lo:=by simp
  have e2:(((hi - lo).toNat:Nat):Int) - ((0:Nat):Int)=Ϛ.Range.rangeSize lo hi 1:=by rw [rangeSize_one];split <;> lia
  show IsRangeIter _ _ (lo+((0:Nat):Int)*1) ((((hi - lo).toNat:Nat):Int) - ((0:Nat):Int)) 1
  rw [e1,e2];exact Χ _ rfl
 ·have e:b=(s.heap.push { cls:=.type "range",data:=.fields #[.int lo t,.int hi u,.int 1 v] }).objs.size:=by simpa using hb
  subst e;exact I1.fpOk (Η _) (I1.hok.fresh (Η _))
def zh9 (ta:TA):TI:=fun σ H R=>ta σ H fun vs H1=>∃ j:Int,vs=[.int j]/\-(2 ^ 62)<=j/\j < 2 ^ 62/\R (Itr 0 j.toNat) H1
theorem U4 {a:Expr}{ta:TA}{p pos:Pos}(hg:Gl X "range") (hm:X.mg "range"=none) (ha:PA X [a] ta) (hs:ϐ [a] X.env=[(false,eval a X.env)]:=by rfl):PI X tg (.Call (.Name "range" p) [a] [] pos) (zh9 ta):=by
 intro pj s σ H R I h;refine Call_ (Z1 I hg hm boot_range (cu (thn (ha pos pj s σ H _ I h) fun us s1 ⟨vs,H1,I1,r1,q1⟩=>?_) hs rfl));obtain ⟨j,e,q1,q2,q⟩:=q1;subst e;cases r1 with
 | cons r rr=>
  cases rr;obtain ⟨t,rfl⟩:=r;exact call_range_1 (QB I1 (by lia) (by lia) q1 q2 (by simpa using q))
def tFor (wi:TI) (g:TG) (tb:TS):TS:=fun D σ H=>wi σ H fun J H1=>∃ W:Nat->Nat->St->Hp->Prop,(∃ m,W 0 m σ H1)/\∀ i m σ H,W i m σ H ->
 (J.stop i H/\D.nx σ H)\/(J.go i H/\∃ N:St->Hp->Prop,(∀ σ' H',N σ' H'->∃ m',m' < m/\W (i+1) m' σ' H')/\∀ x H',J.yld i H x H'->g x σ H' fun σ2 H2=>tb { D with nx:=N,ct:=N,bk:=D.nx } σ2 H2)
noncomputable def ZK (fp:List Addr) (h:Heap):List (Addr×Obj):=fp.filterMap fun b=>(h.get? b).map fun o=>(b,o)
theorem wu {fp:List Addr}{h:Heap}{b:Addr}{o:Obj}(hb:b∈fp) (e:h.get? b=some o):(b,o)∈ZK fp h:=lW.mpr ⟨b,hb,by rw [e];rfl⟩
theorem Jk {fp:List Addr}{h:Heap}{p:Addr×Obj}(hp:p∈ZK fp h):p.1∈fp/\h.get? p.1=some p.2:=by
 obtain ⟨b,hb,e⟩:=lW.mp hp;cases q:h.get? b with
 | none=>rw [q] at e;cases e
 | some o=>
  rw [q] at e;have e':(b,o)=p:=Λ e;subst e';exact ⟨hb,q⟩
theorem Inv.pinned {pj:List (Addr×Obj)}{σ:St}{H:Hp}{s:ν}{fp:List Addr}(I:Inv X pj σ H s) (hf:∀ b∈fp,FpOk X pj H b) (ho:∀ b∈fp,∃ o,s.heap.get? b=some o/\∀ v,o.data≠.cell v):Inv X (pj++ZK fp s.heap) σ H s:=
 I.Y5 fun p hp=>(bc.mp hp).elim (fun z=>I.pin p (ύ _ z)) fun z=>by obtain ⟨hb,e⟩:=Jk z;obtain ⟨f0,f1,f2,_⟩:=hf p.1 hb;obtain ⟨o,e',d⟩:=ho p.1 hb;rw [e] at e';cases e';exact ⟨e,f0,f1,f2,d⟩
theorem Inv.wZ {pj pl:List (Addr×Obj)}{σ:St}{H:Hp}{s:ν}(I:Inv X (pj++pl) σ H s):Inv X pj σ H s:=I.Y5 fun p hp=>I.pin p (ύ _ (lK _ hp))
theorem zeX {iter:Expr}{body:List Stmt}{wi:TI}{g:TG}{tb:TS}{pos:Pos}(hp:fY (Ξ X.prog X.w) X.A X.env X.xe) (hc:X.calm=true) (hi:PI X tg iter wi) (hg:PG X tg g) (hb:PSs X body tb)
  (hs:∀ x,aU iter X.env x=pure x:=by intro _;rfl):PS X (.For tg iter body [] pos) (tFor wi g tb):=by
 intro pj s σ H D I h;refine wpAny_For (thn (hi pj s σ H _ I h) fun v s1 h1=>thn h1 fun itv s2 h2=>?_) hs;obtain ⟨it,fp,tn,J,H2,e,I2,T,st2,f2,W,⟨m0,w0⟩,turn⟩:=h2;subst e;have stat:∀ {H':Hp},(∀ b∈fp,H' b=none)->∀ b∈fp,FpOk X pj H' b:=fun hn b hb=>⟨hn b hb,(f2 b hb).2⟩
 refine codeAny_forLoop_any (fun n s'=>∃ i σ' H',Inv X pj σ' H' s'/\tn i s'.heap/\(∀ b∈fp,H' b=none)/\W i n σ' H') ?_ m0 ⟨0,σ,H2,I2,st2,fun b hb=>(f2 b hb).1,w0⟩;rintro n s3 ⟨i,σ3,H3,I3,st3,fr3,w3⟩;rcases turn i n σ3 H3 w3 with ⟨stop,qn⟩ | ⟨go,N,hN,step⟩
 ·refine bz hp (thn (T.done X rfl rfl rfl hc i pj s3 σ3 H3 X.xe I3 (stat fr3) st3 stop) fun r s4 ⟨hr,I4⟩=>?_);subst hr;exact eO ⟨σ3,H3,I4,qn⟩
 ·refine bz hp (thn (T.item X rfl rfl rfl hc i pj s3 σ3 H3 X.xe I3 (stat fr3) st3 go) fun r s4 ⟨u,hr,h4⟩=>?_);subst hr;refine bz hp (thn h4 fun _ s5 ⟨x,H5,I5,r5,y5,st5,fr5⟩=>?_);have I5':=I5.pinned (stat fr5) (T.obj _ _ st5);refine bz hp (thn (hg _ s5 σ3 H5 x u _ I5' r5 (step x H5 y5)) fun _ s6 ⟨σ6,H6,I6,q6⟩=>?_);refine bz hp (thn (hb _ s6 σ6 H6 _ I6 q6) fun f s7 q7=>?_);have again:∀ {σ7:St}{H7:Hp},Inv X (pj++ZK fp s5.heap) σ7 H7 s7->N σ7 H7->∃ m,m < n/\∃ i σ' H',Inv X pj σ' H' s7/\tn i s7.heap/\(∀ b∈fp,H' b=none)/\W i m σ' H':=fun {σ7 H7} I7 n7=>by obtain ⟨m',hm,w7⟩:=hN σ7 H7 n7;refine ⟨m',hm,i+1,σ7,H7,I7.wZ,T.keep _ _ _ st5 fun b hb o e=>(I7.pin (b,o) (ύ _ (ύ _ (wu hb e)))).1,fun b hb=>?_,w7⟩;obtain ⟨o,e,d⟩:=T.obj _ _ st5 b hb;exact (I7.pin (b,o) (ύ _ (ύ _ (wu hb e)))).2.1
  cases f with
  | next=>obtain ⟨σ7,H7,I7,n7⟩:=q7;exact again I7 n7
  | cont=>obtain ⟨σ7,H7,I7,n7⟩:=q7;exact again I7 n7
  | brk=>obtain ⟨σ7,H7,I7,q7⟩:=q7;exact ⟨σ7,H7,I7.wZ,q7⟩
  | ret v=>obtain ⟨x7,σ7,H7,I7,r7,q7⟩:=q7;exact ⟨x7,σ7,H7,I7.wZ,r7,q7⟩
end
abbrev R2:=V->V->Hp->VK->Prop
def OpR (X:Cx) (f:δ->δ->Sem δ) (r:R2):Prop:=
 ∀ (pj:List (Addr×Obj)) (s:ν) (σ:St) (H:Hp) (x y:V) (v u:δ) (Q:VK),Inv X pj σ H s->RelV x v->RelV y u->r x y H Q ->
  Θ (Ξ X.prog X.w) X.A (f v u) (EP X pj σ Q) X.xe s
def UnR (X:Cx) (f:δ->Sem δ) (r:V->Hp->VK->Prop):Prop:=
 ∀ (pj:List (Addr×Obj)) (s:ν) (σ:St) (H:Hp) (x:V) (v:δ) (Q:VK),Inv X pj σ H s->RelV x v->r x H Q ->
  Θ (Ξ X.prog X.w) X.A (f v) (EP X pj σ Q) X.xe s
def yp (X:Cx) (f:δ) (r:List V->Hp->VK->Prop):Prop:=
 ∀ (pj:List (Addr×Obj)) (s:ν) (σ:St) (H:Hp) (xs:List V) (us:List δ) (Q:VK),Inv X pj σ H s->Vals xs us->r xs H Q ->
  Θ (Ξ X.prog X.w) X.A (call f us) (EP X pj σ Q) X.xe s
def tOp (r:R2) (ta tb:TE):TE:=fun σ H Q=>ta σ H fun x H1=>tb σ H1 fun y H2=>r x y H2 Q
def tUn (r:V->Hp->VK->Prop) (ta:TE):TE:=fun σ H Q=>ta σ H fun x H1=>r x H1 Q
def rI (C:Int->Int->Prop) (g:Int->Int->V):R2:=fun x y H Q=>∃ i j,x=.int i/\y=.int j/\C i j/\Q (g i j) H
def rI0 (g:Int->Int->V):R2:=fun x y H Q=>∃ i j,x=.int i/\y=.int j/\Q (g i j) H
def rU (g:Int->V):V->Hp->VK->Prop:=fun x H Q=>∃ i,x=.int i/\Q (g i) H
section
variable {X:Cx}{a b c:Expr}{ta tb tc:TE}{pos:Pos}
theorem binT (ha:PE X a ta) (hb:PE X b tb) {pj:List (Addr×Obj)}{s:ν}{σ:St}{H:Hp}{R:V->V->Hp->Prop}(I:Inv X pj σ H s)
  (h:ta σ H fun x H1=>tb σ H1 fun y H2=>R x y H2) {Q:VSP}{f:δ->δ->Sem δ}
  (hf:∀ v u s2 x y H2,Inv X pj σ H2 s2->RelV x v->RelV y u->R x y H2->Θ (Ξ X.prog X.w) X.A (f v u) Q X.xe s2):
  Θ (Ξ X.prog X.w) X.A (eval a X.env) (fun v s₁=>Θ (Ξ X.prog X.w) X.A (eval b X.env) (fun u s₂=>Θ (Ξ X.prog X.w) X.A (f v u) Q X.xe s₂) X.xe s₁) X.xe s:=by
 refine thn (ha pj s σ H _ I h) fun v s1 ⟨x,H1,I1,r1,q1⟩=>?_
 refine thn (hb pj s1 σ H1 _ I1 q1) fun u s2 ⟨y,H2,I2,r2,q2⟩=>?_
 exact hf v u s2 x y H2 I2 r1 r2 q2
theorem zhN {op:aN}{r:R2}(ho:OpR X (aL op) r) (ha:PE X a ta) (hb:PE X b tb):PE X (.BinOp a op b pos) (tOp r ta tb):=by intro pj s σ H Q I h;exact wpAny_BinOp (binT ha hb I h fun v u s2 x y H2 I2 rx ry q=>ho pj s2 σ H2 x y v u Q I2 rx ry q)
theorem zhM {op:UnaryOp}{r:V->Hp->VK->Prop}(ho:UnR X (unaryOp op) r) (ha:PE X a ta):PE X (.UnaryOp op a pos) (tUn r ta):=by intro pj s σ H Q I h;exact UnaryOp_ (thn (ha pj s σ H _ I h) fun v s1 ⟨x,H1,I1,r1,q1⟩=>ho pj s1 σ H1 x v Q I1 r1 q1)
theorem opI {f:δ->δ->Sem δ}{C:Int->Int->Prop}{g:Int->Int->Int}
  (rule:∀ (i j:Int) (t u:Tok) (s:ν) (Q:VSP) (E:VSP),C i j->Q (.int (g i j) s.toks) { s with toks:=s.toks+1 }->Θ (Ξ X.prog X.w) X.A (f (.int i t) (.int j u)) Q E s):
  OpR X f (rI C fun i j=>.int (g i j)):=by intro pj s σ H x y v u Q I rx ry h;obtain ⟨i,j,rfl,rfl,hc,q⟩:=h;obtain ⟨t,rfl⟩:=rx;obtain ⟨t',rfl⟩:=ry;exact rule i j t t' s _ _ hc ⟨.int (g i j),H,I.tok _,⟨_,rfl⟩,q⟩
theorem opI0 {f:δ->δ->Sem δ}{g:Int->Int->Int}
  (rule:∀ (i j:Int) (t u:Tok) (s:ν) (Q:VSP) (E:VSP),Q (.int (g i j) s.toks) { s with toks:=s.toks+1 }->Θ (Ξ X.prog X.w) X.A (f (.int i t) (.int j u)) Q E s):
  OpR X f (rI0 fun i j=>.int (g i j)):=by intro pj s σ H x y v u Q I rx ry h;obtain ⟨i,j,rfl,rfl,q⟩:=h;obtain ⟨t,rfl⟩:=rx;obtain ⟨t',rfl⟩:=ry;exact rule i j t t' s _ _ ⟨.int (g i j),H,I.tok _,⟨_,rfl⟩,q⟩
theorem opB0 {f:δ->δ->Sem δ}{g:Int->Int->Bool}
  (rule:∀ (i j:Int) (t u:Tok) (s:ν) (Q:VSP) (E:VSP),Q (.bool (g i j)) s->Θ (Ξ X.prog X.w) X.A (f (.int i t) (.int j u)) Q E s):
  OpR X f (rI0 fun i j=>.bl (g i j)):=by intro pj s σ H x y v u Q I rx ry h;obtain ⟨i,j,rfl,rfl,q⟩:=h;obtain ⟨t,rfl⟩:=rx;obtain ⟨t',rfl⟩:=ry;exact rule i j t t' s _ _ ⟨.bl (g i j),H,I,rfl,q⟩
def CPow (i j:Int):Prop:=0<=j/\j<=1000000/\i.natAbs < 2 ^ 64
def CMul (i j:Int):Prop:=(-(2 ^ 64) < i/\i < 2 ^ 64)\/(-(2 ^ 64) < j/\j < 2 ^ 64)
theorem CMul.ok {i j:Int}(h:CMul i j):IntMulOk i j:=by
 rcases h with ⟨h1,h2⟩ | ⟨h1,h2⟩
 ·exact .of_left (intBits_le_64 h1 h2)
 ·exact .of_right (intBits_le_64 h1 h2)
theorem zfp:OpR X (aL .Add) (rI0 fun i j=>.int (i+j)):=opI0 fun _ _ _ _ _ _ _ q=>add_int q
theorem zff:OpR X (aL .Sub) (rI0 fun i j=>.int (i - j)):=opI0 fun _ _ _ _ _ _ _ q=>sub_int q
theorem zfj:OpR X (aL .Mult) (rI CMul fun i j=>.int (i*j)):=opI fun _ _ _ _ _ _ _ hc q=>mul_int q hc.ok
theorem zfk:OpR X (aL .Mod) (rI (fun _ j=>0 < j) fun i j=>.int (i % j)):=opI fun i j _ _ _ _ _ hc q=>by have h1:(0:Int) < j:=hc;exact mod_int' (by lia) (by rw [Int.fmod_eq_emod_of_nonneg i (by lia)];exact q)
theorem zfh:OpR X (aL .Pow) (rI CPow fun i j=>.int (i ^ j.toNat)):=opI fun _ _ _ _ _ _ _ hc q=>pow_int_small hc.1 hc.2.1 hc.2.2 q
theorem unI {f:δ->Sem δ}{g:Int->Int}
  (rule:∀ (i:Int) (t:Tok) (s:ν) (Q:VSP) (E:VSP),Q (.int (g i) s.toks) { s with toks:=s.toks+1 }->Θ (Ξ X.prog X.w) X.A (f (.int i t)) Q E s):
  UnR X f (rU fun i=>.int (g i)):=by intro pj s σ H x v Q I rx h;obtain ⟨i,rfl,q⟩:=h;obtain ⟨t,rfl⟩:=rx;exact rule i t s _ _ ⟨.int (g i),H,I.tok _,⟨_,rfl⟩,q⟩
theorem zdY:UnR X (unaryOp .USub) (rU fun i=>.int (-i)):=unI fun _ _ _ _ _ q=>neg_int q
theorem Yk {pj:List (Addr×Obj)}{σ:St}{H:Hp}{s:ν}{Q:VK}{k k':Bool}(I:Inv X pj σ H s) (q:Q (.bl k) H) (e:k=k'):EP X pj σ Q (.bool k') s:=by subst e;exact ⟨.bl k,H,I,rfl,q⟩
theorem zhQ:OpR X (Ω .Lt) (rI0 fun i j=>.bl (decide (i < j))):=opB0 fun _ _ _ _ _ _ _ q=>lt_int q
theorem zhR:OpR X (Ω .LtE) (rI0 fun i j=>.bl (decide (i<=j))):=opB0 fun _ _ _ _ _ _ _ q=>le_int q
theorem zhS:OpR X (Ω .Gt) (rI0 fun i j=>.bl (decide (j < i))):=opB0 fun _ _ _ _ _ _ _ q=>gt_int q
theorem zhT:OpR X (Ω .GtE) (rI0 fun i j=>.bl (decide (j<=i))):=opB0 fun _ _ _ _ _ _ _ q=>ge_int q
theorem Ji:OpR X (Ω .In) (fun x y H Q=>∃ i j,x=.str i/\y=.str j/\Q (.bl (!(Φ j i 0 j.length 1).isEmpty)) H):=by intro pj s σ H x y v u Q I rx ry h;obtain ⟨i,j,rfl,rfl,q⟩:=h;obtain ⟨t,rfl⟩:=rx;obtain ⟨t',rfl⟩:=ry;exact in_str (Yk I q rfl)
theorem zfl:OpR X (Ω .Is) (fun x y H Q=>y=.non/\Q (.bl (decide (x=.non))) H):=by
 intro pj s σ H x y v u Q I rx ry h;obtain ⟨rfl,q⟩:=h;cases ry;refine is_none_gen (Yk I q ?_);cases x <;> first
  | (cases rx;rfl)
  | (obtain ⟨t,rfl⟩:=rx;rfl)
theorem zcE:OpR X (Ω .IsNot) (fun x y H Q=>y=.non/\Q (.bl (!decide (x=.non))) H):=by
 intro pj s σ H x y v u Q I rx ry h;obtain ⟨rfl,q⟩:=h;cases ry;refine isnot_none_gen (Yk I q ?_);cases x <;> first
  | (cases rx;rfl)
  | (obtain ⟨t,rfl⟩:=rx;rfl)
theorem OpR.or {f:δ->δ->Sem δ}{r r':R2}(h:OpR X f r) (h':OpR X f r'):OpR X f (fun x y H Q=>r x y H Q\/r' x y H Q):=by
 intro pj s σ H x y v u Q I rx ry q;rcases q with q | q
 ·exact h pj s σ H x y v u Q I rx ry q
 ·exact h' pj s σ H x y v u Q I rx ry q
theorem zcB {op:dW}{r:R2}(ho:OpR X (Ω op) r) (ha:PE X a ta) (hb:PE X b tb) (hm:gB op b=false):PE X (.Compare a [op] [b] pos) (tOp r ta tb):=by intro pj s σ H Q I h;exact wpAny_Compare1 (binT ha hb I h fun v u s2 x y H2 I2 rx ry q=>ho pj s2 σ H2 x y v u Q I2 rx ry q) hm
def zed (t:TE):TT:=fun σ H Q=>t σ H fun x H'=>∃ k,x=.bl k/\Q k H'
theorem zcs {op:dW}{r:R2}(ho:OpR X (Ω op) r) (ha:PE X a ta) (hb:PE X b tb) (hm:gB op b=false):PT X (.Compare a [op] [b] pos) (zed (tOp r ta tb)):=by
 intro pj s σ H Q I h
 refine wpAny_isTrue_Compare1 (thn (ha pj s σ H _ I h) fun v s1 ⟨x,H1,I1,r1,q1⟩=>thn (hb pj s1 σ H1 _ I1 q1) fun u s2 ⟨y,H2,I2,r2,q2⟩=>
  thn (ho pj s2 σ H2 x y v u _ I2 r1 r2 q2) fun c s3 ⟨z,H3,I3,r3,k,e,q3⟩=>?_) hm
 subst e;cases r3;exact Ϻ ⟨H3,I3,q3⟩
def Ud (r r':R2) (ta tb tc:TE):TE:=fun σ H Q=>ta σ H fun x H1=>tb σ H1 fun y H2=>r x y H2 fun z H3=>∃ k,z=.bl k /\
 (if k=true then tc σ H3 fun w' H4=>r' y w' H4 Q else Q (.bl false) H3)
theorem QT {op op':dW}{r r':R2}(ho:OpR X (Ω op) r) (ho':OpR X (Ω op') r') (ha:PE X a ta) (hb:PE X b tb) (hc:PE X c tc)
  (hm:lastMarks [op,op'] [b,c]=false:=by with_unfolding_all rfl):PE X (.Compare a [op,op'] [b,c] pos) (Ud r r' ta tb tc):=by
 intro pj s σ H Q I h
 refine Compare_chain (thn (ha pj s σ H _ I h) fun v s1 ⟨x,H1,I1,r1,q1⟩=>chain_link (thn (hb pj s1 σ H1 _ I1 q1) fun u s2 ⟨y,H2,I2,r2,q2⟩=>
  thn (ho pj s2 σ H2 x y v u _ I2 r1 r2 q2) fun d s3 ⟨z,H3,I3,r3,k,e,q3⟩=>?_)) hm
 subst e;cases r3;refine Ϻ ?_;cases k with
 | false=>exact ite_ff ⟨.bl false,H3,I3,rfl,q3⟩
 | true=>exact ite_tt (chain_last (thn (hc pj s3 σ H3 _ I3 q3) fun w' s4 ⟨z',H4,I4,r4,q4⟩=>ho' pj s4 σ H4 y z' u w' Q I4 r2 r4 q4))
theorem QG {op op':dW}{r r':R2}(ho:OpR X (Ω op) r) (ho':OpR X (Ω op') r') (ha:PE X a ta) (hb:PE X b tb) (hc:PE X c tc)
  (hm:lastMarks [op,op'] [b,c]=false:=by with_unfolding_all rfl):PT X (.Compare a [op,op'] [b,c] pos) (zed (Ud r r' ta tb tc)):=by
 intro pj s σ H Q I h
 refine isTrue_chain (thn (ha pj s σ H _ I h) fun v s1 ⟨x,H1,I1,r1,q1⟩=>test_link (thn (hb pj s1 σ H1 _ I1 q1) fun u s2 ⟨y,H2,I2,r2,q2⟩=>
  thn (ho pj s2 σ H2 x y v u _ I2 r1 r2 q2) fun d s3 ⟨z,H3,I3,r3,k,e,q3⟩=>?_)) hm
 subst e;cases r3;refine Ϻ ?_;cases k with
 | false=>
  obtain ⟨k',e',q'⟩:=q3;cases e';exact ite_ff ⟨H3,I3,q'⟩
 | true=>
  refine ite_tt (test_last (thn (hc pj s3 σ H3 _ I3 q3) fun w' s4 ⟨z',H4,I4,r4,q4⟩=>thn (ho' pj s4 σ H4 y z' u w' _ I4 r2 r4 q4) fun d' s5 ⟨z2,H5,I5,r5,k2,e2,q5⟩=>?_));subst e2;cases r5;exact Ϻ ⟨H5,I5,q5⟩
theorem kE:(sizeLine:Nat) < 2 ^ 63:=by rw [fH];decide
theorem Vm:OpR X (aL .Add) (fun x y H Q=>∃ i j,x=.str i/\y=.str j/\i.length+j.length<=sizeLine/\Q (.str (i++j)) H):=by intro pj s σ H x y v u Q I rx ry h;obtain ⟨i,j,rfl,rfl,hz,q⟩:=h;obtain ⟨t,rfl⟩:=rx;obtain ⟨t',rfl⟩:=ry;exact add_str (fun t' tk=>⟨.str (i++j),H,I.tok _,⟨_,rfl⟩,q⟩) hz
theorem vals1 {x:V}{us:List δ}(r:Vals [x] us):∃ u,us=[u]/\RelV x u:=by
 cases r with
 | cons r1 r2=>cases r2;exact ⟨_,rfl,r1⟩
theorem vals2 {x y:V}{us:List δ}(r:Vals [x,y] us):∃ u w',us=[u,w']/\RelV x u/\RelV y w':=by
 cases r with
 | cons r1 r2=>
  cases r2 with
  | cons r3 r4=>cases r4;exact ⟨_,_,rfl,r1,r3⟩
theorem zaA:yp X (.builtin "abs") (fun xs H Q=>∃ i,xs=[.int i]/\Q (.int (if i < 0 then -i else i)) H):=by intro pj s σ H xs us Q I r h;obtain ⟨i,rfl,q⟩:=h;obtain ⟨u,rfl,t,rfl⟩:=vals1 r;exact call_abs_int fun u tk=>⟨.int (if i < 0 then -i else i),H,I.tok _,⟨_,rfl⟩,q⟩
theorem KQ (hc:X.calm=true):yp X (.builtin "max") (fun xs H Q=>∃ i j,xs=[.int i,.int j]/\Q (.int (if j > i then j else i)) H):=by
 intro pj s σ H xs us Q I r h;obtain ⟨i,j,rfl,q⟩:=h;obtain ⟨u,w',rfl,⟨t,rfl⟩,⟨t',rfl⟩⟩:=vals2 r;refine max_two_ints (I.ok.hd hc) fun h' tk k=>⟨_,H,I.kept k,?_,q⟩
 by_cases hj:j > i
 ·rw [if_pos hj,if_pos hj];exact ⟨_,rfl⟩
 ·rw [if_neg hj,if_neg hj];exact ⟨_,rfl⟩
theorem Yw:yp X (.type "int") (fun xs H Q=>(∃ i,xs=[.int i]/\Q (.int i) H)\/∃ k,xs=[.bl k]/\Q (.int (if k then 1 else 0)) H):=by
 intro pj s σ H xs us Q I r h;rcases h with ⟨i,rfl,q⟩ | ⟨k,rfl,q⟩
 ·obtain ⟨u,rfl,t,rfl⟩:=vals1 r;exact call_int_int ⟨.int i,H,I,⟨_,rfl⟩,q⟩
 ·obtain ⟨u,rfl,r1⟩:=vals1 r;cases r1;exact call_int_bool ⟨.int (if k then 1 else 0),H,I.tok _,⟨_,rfl⟩,q⟩
theorem Ys:yp X (.type "str") (fun xs H Q=>∃ i,xs=[.int i]/\i.natAbs.log2 < 1920/\Q (.str (toString i)) H):=by intro pj s σ H xs us Q I r h;obtain ⟨i,rfl,hz,q⟩:=h;obtain ⟨u,rfl,t,rfl⟩:=vals1 r;exact PySem.P.str_of_int hz ⟨.str _,H,I.tok _,⟨_,rfl⟩,q⟩
end
structure ObjM (h:Heap) (x dx C:Addr) (mA:Str->Option δ):Prop where
 obj:h.get? x=some (W.instObj C dx)
 ns:h.Ns1 dx mA
 ne:dx≠x
set_option tactic.hygienic true in
theorem Jx {h:Heap}{dx:Addr}{mA:Str->Option δ}(n:h.Ns1 dx mA):∃ od,h.get? dx=some od/\∀ name,W.lookIn name od=some (mA name):=by
 obtain ⟨o,es,ep,ho,hd,hk,_,hm⟩:=n;refine ⟨o,ho,fun name=>?_⟩;have e:=hm name;unfold nsFind findBy at e;rw [<- Array.find?_toList] at e;unfold W.lookIn;rw [hd];dsimp only;split
 ·rename_i y q
  rw [q] at e;exact congrArg some e
 ·rename_i q
  rw [q] at e;have a:es.toList.any (·.refKey)=false:=by rw [List.any_eq_false];intro y hy;obtain ⟨z,t,hkey⟩:=hk y (Array.mem_toList_iff.mp hy);simp [iH.refKey,hkey]
  have a':¬ es.toList.any (·.refKey)=true:=by rw [a];exact Ν
  rw [if_neg a'];exact congrArg some e
theorem ObjM.look {h:Heap}{x dx C:Addr}{mA:Str->Option δ}(I:ObjM h x dx C mA):∃ od,W.InstAt h x (W.instObj C dx) C (some od)/\∀ name,W.lookIn name od=some (mA name):=
 let ⟨od,ho,hl⟩:=Jx I.ns
 ⟨od,⟨I.obj,rfl,rfl,ho⟩,hl⟩
section
variable {prog:Τ}{w:ϙ}{A:Ϗ}{E:VSP}{s:ν}{K:W.Frag}{x dx C f:Addr}{mA:Str->Option δ}{name:Str}{v:δ}
theorem zdb {expr:Bool}{Q:VSP}(X:K.In s.heap) (I:ObjM s.heap x dx C mA) (hg:W.plainGet K C name=true) (hh:W.hasDictIn K C=true)
  (ha:W.findIn K (.ref C) name=some none) (hv:mA name=some v) (hv':W.handedIn v=true) (h:Q v { s with toks:=s.toks+1 }):
  Θ (Ξ prog w) A (getAttr (.ref x) name expr) Q E s:=by obtain ⟨od,J,hl⟩:=I.look;exact W.get_value X J (W.plainGet_of hg).1 (W.findObj_own hh ha rfl (by rw [hl,hv])) hv' h
theorem zak {pl:Sem Bool}{Q:δ×List δ->ν->Prop}(X:K.In s.heap) (I:ObjM s.heap x dx C mA) (hg:W.plainGet K C name=true)
  (hf:W.findIn K (.ref C) name=some (some (.ref f))) (ht:W.isFn K (.ref f)=true) (hv:mA name=none) (h:Q (.ref f,[.ref x]) s):
  Θ (Ξ prog w) A (getMethod (.ref x) name pl) Q E s:=by obtain ⟨od,J,hl⟩:=I.look;exact W.method_fn X J (W.plainGet_of hg).1 (W.plainGet_of hg).2 hf (beq_iff_eq.mp ht) (by show (W.lookIn name od).map (·.isSome)=some false;rw [hl,hv];rfl) h
theorem zb9 {ns:List Str}{Q:Unit->ν->Prop}(X:K.In s.heap) (I:ObjM s.heap x dx C mA)
  (hs:W.findIn K (.ref C) "__setattr__"=some (some (.builtin "object.__setattr__"))) (hp:W.plainOver K C=true) (ht:W.takerIn K C name=some none) (hh:W.hasDictIn K C=true)
  (hw:fK mA ns) (hsz:ns.length<=sizeLine)
  (h:∀ h',ObjM h' x dx C (fun y=>if y=name then some v else mA y)->Ϯ dx s.heap h'->Q () { s with heap:=h',toks:=s.toks+2 }):
  Θ (Ξ prog w) A (setAttr (.ref x) name v) Q E s:=by
 obtain ⟨od,J,hl⟩:=I.look;refine W.set_plain X J hs (W.osa_open (s:={ s with toks:=s.toks+1 }) (r:=none) X J hp ht fun b=>?_);obtain ⟨cd,hc,hd'⟩:=W.any_some hh;have hx:s.heap.get? x=some ⟨.ref C,some dx,.plain,#[]⟩:=I.obj;refine ε (π (ε (ε (wpAny_loadPart hx (ε (W.Looks.here (s:={ s with toks:=s.toks+1 }) (W.looks_clsIn X hc) ?_))))));rw [hd'];refine π (a:=some dx) (ε (π (ε ?_)));refine wpAny_nsSet1 (s:={ s with toks:=s.toks+1 }) I.ns fun h' hn2 hs2=>?_
 obtain ⟨oD,esD,epD,hoD,hdD,hcD⟩:=hn2.count (fK.cons name v hw);refine ε (wpAny_lookBehind hoD (by rw [hdD];exact pastItsLine_dict (ϕ hcD (by rw [ϊ];lia))) ?_);exact π (h _ ⟨(hs2.2 _ (bA I.ne)).trans I.obj,hn2,I.ne⟩ hs2)
theorem Q8 {R:Result->ν->Prop}{vs:List δ}{kw:List (Str×δ)}(X:K.In s.heap) (hm:W.makesIn K C=true)
  (hi:W.findIn K (.ref C) "__init__"=some (some (.ref f))) (hf:W.typeIn K (.ref f)=some (.type "function"))
  (h:fW (Ξ prog w) (A.under (.builtin "type.__call__" ⟨.ref C::vs,kw⟩)) (.call (.ref f) ⟨.ref (s.heap.objs.size+1)::vs,kw⟩) (W.InitBack (s.heap.objs.size+1) R)
   { s with heap:=(s.heap.push W.emptyDict).push (W.instObj C s.heap.objs.size) }):
  fW (Ξ prog w) A (.call (.ref C) ⟨vs,kw⟩) R s:=by obtain ⟨hh,g,d,t,os⟩:=s;exact W.make_core (W.makes_of X hm) (W.looks_findIn X hi) (fun self=>W.bind_fn X self hf) (.inl rfl) h
end
noncomputable def putF (f:Str) (v:V):List (Str×V)->List (Str×V)
 | []=>[(f,v)]
 | (g,x)::r=>if g=f then (g,v)::r else (g,x)::putF f v r
theorem jk (f g:Str) (v:V):∀ fs:List (Str×V),(putF f v fs).lookup g=if g=f then some v else fs.lookup g
 | []=>by
  show bU g [(f,v)]=_
  by_cases h:g=f
  ·have hb:(g==f)=true:=beq_iff_eq.mpr h;simp only [bU,hb,if_pos h]
  ·have hb:(g==f)=false:=beq_eq_false_iff_ne.mpr h;simp only [bU,hb,if_neg h]
 | (k,x)::r=>by
  have ih:=jk f g v r;rw [show putF f v ((k,x)::r)=(if k=f then (k,v)::r else (k,x)::putF f v r) from rfl];by_cases hk:k=f
  ·rw [if_pos hk];by_cases h:g=k
   ·have hb:(g==k)=true:=beq_iff_eq.mpr h;simp only [bU,hb,if_pos (h.trans hk)]
   ·have hb:(g==k)=false:=beq_eq_false_iff_ne.mpr h;simp only [bU,hb,if_neg (fun e:g=f=>h (e.trans hk.symm))]
  ·rw [if_neg hk];by_cases h:g=k
   ·have hb:(g==k)=true:=beq_iff_eq.mpr h;simp only [bU,hb,if_neg (fun e:g=f=>hk (h.symm.trans e))]
   ·have hb:(g==k)=false:=beq_eq_false_iff_ne.mpr h;simp only [bU,hb];exact ih
theorem jt (f:Str) (v:V):∀ fs:List (Str×V),f∈(putF f v fs).map (·.1)/\∀ g,g∈fs.map (·.1)->g∈(putF f v fs).map (·.1)
 | []=>⟨by simp [putF],fun g h=>by simp at h⟩
 | (k,x)::r=>by
  obtain ⟨i1,i2⟩:=jt f v r;rw [show putF f v ((k,x)::r)=(if k=f then (k,v)::r else (k,x)::putF f v r) from rfl];by_cases hk:k=f
  ·rw [if_pos hk];subst hk;exact ⟨by simp,fun g h=>by simpa using h⟩
  ·rw [if_neg hk];refine ⟨?_,fun g h=>?_⟩
   ·rw [ϳ];exact η _ i1
   ·rw [ϳ] at h ⊢;rcases χ.mp h with e | e
    ·exact χ.mpr (.inl e)
    ·exact η _ (i2 g e)
theorem jo (f:Str) (v:V):∀ fs:List (Str×V),(putF f v fs).length<=fs.length+1
 | []=>by simp [putF]
 | (k,x)::r=>by
  have ih:=jo f v r;rw [show putF f v ((k,x)::r)=(if k=f then (k,v)::r else (k,x)::putF f v r) from rfl];by_cases hk:k=f
  ·rw [if_pos hk,ϊ,ϊ];lia
  ·rw [if_neg hk,ϊ,ϊ];lia
theorem RelO.some_of {v:V}{o:Option δ}(r:RelO (some v) o):∃ u,o=some u/\RelV v u:=by
 cases o with
 | none=>exact (show False from r).elim
 | some u=>exact ⟨u,rfl,r⟩
theorem RelO.none_of {o:Option δ}(r:RelO none o):o=none:=by
 cases o with
 | none=>rfl
 | some u=>exact (show False from r).elim
theorem J1 {v:V}{u:δ}(r:RelV v u):W.handedIn u=true:=by
 cases v with
 | non=>cases (show u=Ϙ from r);rfl
 | bl b=>cases (show u=Ϣ b from r);rfl
 | int i=>obtain ⟨t,e⟩:=(show ∃ t,u=Ϧ i t from r);cases e;rfl
 | str x=>obtain ⟨t,e⟩:=(show ∃ t,u=ϴ x t from r);cases e;rfl
 | byt b=>obtain ⟨t,e⟩:=(show ∃ t,u=δ.bytes b t from r);cases e;rfl
 | flt b=>obtain ⟨t,e⟩:=(show ∃ t,u=δ.float b t from r);cases e;rfl
 | ref a=>cases (show u=Ε a from r);rfl
 | ty n=>cases (show u=cP n from r);rfl
section
variable {P:Τ}{w:ϙ}{H H':Hp}{h h':Heap}{a C dx:Addr}{fs fs':List (Str×V)}
theorem qY (hok:HOk P w H h) (e:H a=some (.ins C dx fs)):∃ mA,ObjM h a dx C mA/\(∀ f,RelO (fs.lookup f) (mA f))/\fK mA (fs.map (·.1))/\fs.length<=1000/\H dx=some (.own a):=by
 obtain ⟨d,z,ne,ob,mA,n,r,q⟩:=(show yo P w H h a (.ins C dx fs) from hok a _ e)
 exact ⟨mA,⟨ob,n,ne⟩,r,q,z,d⟩
end
structure Cls (K:W.Frag) (C:Addr):Prop where
 pg:W.plainGet K C Str.empty=true
 hd:W.hasDictIn K C=true
 po:W.plainOver K C=true
 sa:W.findIn K (.ref C) "__setattr__"=some (some (.builtin "object.__setattr__"))
theorem Cls.get {K:W.Frag}{C:Addr}(c:Cls K C) (f:Str):W.plainGet K C f=true:=c.pg
def vP (K:W.Frag) (C:Addr) (f:Str):Prop:=W.findIn K (.ref C) f=some none
theorem vP.taker {K:W.Frag}{C:Addr}{f:Str}(n:vP K C f):W.takerIn K C f=some none:=by unfold W.takerIn;rw [show W.findIn K (.ref C) f=some none from n];rfl
structure Meth (K:W.Frag) (C:Addr) (m:Str) (f:Addr):Prop where
 at_:W.findIn K (.ref C) m=some (some (.ref f))
 fn:W.isFn K (.ref f)=true
 kp:W.keepIn K (.ref f)=true
section
variable {X:Cx}{pj:List (Addr×Obj)}{σ:St}{H:Hp}{s:ν}{a C dx:Addr}{fs:List (Str×V)}{f:Str}{v:V}{A:Ϗ}{E:VSP}
theorem kY {b:Bool}{Q:VSP}(I:Inv X pj σ H s) (e:H a=some (.ins C dx fs)) (c:Cls X.K C) (n:vP X.K C f) (l:fs.lookup f=some v)
  (h:∀ u s',Inv X pj σ H s'->RelV v u->Q u s'):Θ (Ξ X.prog X.w) A (getAttr (.ref a) f b) Q E s:=by obtain ⟨mA,O,r,_,_,_⟩:=qY I.hok e;obtain ⟨u,hu,ru⟩:=RelO.some_of (v:=v) (o:=mA f) (by rw [<- l];exact r f);exact zdb I.kIn O (c.get f) c.hd n hu (J1 ru) (h u _ (I.tok _) ru)
theorem kW {m:Str}{g:Addr}{pl:Sem Bool}{Q:δ×List δ->ν->Prop}(I:Inv X pj σ H s) (e:H a=some (.ins C dx fs)) (c:Cls X.K C) (k:Meth X.K C m g) (l:fs.lookup m=none)
  (h:Q (.ref g,[.ref a]) s):Θ (Ξ X.prog X.w) A (getMethod (.ref a) m pl) Q E s:=by obtain ⟨mA,O,r,_,_,_⟩:=qY I.hok e;have hn:mA m=none:=RelO.none_of (by rw [<- l];exact r m);exact zak I.kIn O (c.get m) k.at_ k.fn hn h
theorem j4 {y:V}{u:δ}{Q:Unit->ν->Prop}(I:Inv X pj σ H s) (e:H a=some (.ins C dx fs)) (c:Cls X.K C) (n:vP X.K C f) (hl:fs.length < 1000) (ry:RelV y u)
  (h:∀ s',Inv X pj σ (upd H a (.ins C dx (putF f y fs))) s'->Q () s'):Θ (Ξ X.prog X.w) A (setAttr (.ref a) f u) Q E s:=by
 obtain ⟨mA,O,r,wi,_,ho⟩:=qY I.hok e;have hz:(fs.map (·.1)).length<=sizeLine:=by rw [ώ,fH];lia
 refine zb9 I.kIn O c.sa c.po n.taker c.hd wi hz fun h' O' sb=>h _ ?_
 have hd:∃ o,h'.get? dx=some o:=let ⟨o,_,_,e',_⟩:=O'.ns;⟨o,e'⟩
 refine I.write (x:=a) (e:=dx) (by rw [e];exact Ϭ) (.inr ho) (fun b q hb z=>(sb.2 b hb).trans z) hd ?_;refine ⟨by rw [zm O.ne];exact ho,?_,O.ne,O'.obj,_,O'.ns,fun g=>?_,fun g hg=>?_⟩
 ·have:=jo f y fs;lia
 ·show RelO ((putF f y fs).lookup g) (if g=f then some u else mA g)
  rw [jk];by_cases q:g=f
  ·rw [if_pos q,if_pos q];exact ry
  ·rw [if_neg q,if_neg q];exact r g
 ·by_cases q:g=f
  ·rw [q];exact (jt f y fs).1
  ·refine (jt f y fs).2 g (wi g fun z=>hg ?_);show (if g=f then some u else mA g)=none
   rw [if_neg q];exact z
theorem Inv.made (I:Inv X pj σ H s):Inv X pj σ (upd (upd H s.heap.objs.size (.own (s.heap.objs.size+1))) (s.heap.objs.size+1) (.ins C s.heap.objs.size []))
  { s with heap:=(s.heap.push W.emptyDict).push (W.instObj C s.heap.objs.size) }:=by
 have e1:(s.heap.push W.emptyDict).get? s.heap.objs.size=some W.emptyDict:=Χ s.heap rfl;have e2:((s.heap.push W.emptyDict).push (W.instObj C s.heap.objs.size)).get? (s.heap.objs.size+1)=some (W.instObj C s.heap.objs.size):=by
  have:=Χ (s.heap.push W.emptyDict) (o:=W.instObj C s.heap.objs.size) rfl
  rwa [ϭ] at this
 have e3:(s.heap.push W.emptyDict).Ns s.heap.objs.size (fun _=>none):=⟨W.emptyDict,#[],_,e1,rfl,(fun e he=>absurd he (by simp)),fun _=>rfl⟩
 have I1:=I.laid (a:=s.heap.objs.size) (o:=.own (s.heap.objs.size+1)) (h':=s.heap.push W.emptyDict) (t':=s.toks) (fun b u q=>ξ _ q) (Η _) ⟨_,e1⟩;refine I1.laid (a:=s.heap.objs.size+1) (o:=.ins C s.heap.objs.size []) (t':=s.toks) (fun b u q=>ξ _ q) (dH (ϭ _ _)) ?_;have ne:s.heap.objs.size≠s.heap.objs.size+1:=ϔ (dz _);refine ⟨by rw [zm ne,zy],bF _,ne,e2,fun _=>none,(Heap.Ns1.of_empty e3).at fun o q=>ξ _ q,fun _=>Ϭ,fun y hy=>absurd rfl hy⟩
theorem zdC {prog:Τ}{w:ϙ}{env:Env}{e:Expr}{f:Str}{pos:Pos}{s:ν}{Q:VSP}(hb:bZ e f env (eval e env)=eval e env)
  (h:Θ (Ξ prog w) A (eval e env) (fun o s₁=>Θ (Ξ prog w) A (getAttr o f true) Q E s₁) E s):Θ (Ξ prog w) A (eval (.Attribute e f pos) env) Q E s:=
 Attribute_any_ h (by rw [arm_eval_Attribute,hb])
end
def tFld (K:W.Frag) (ta:TE) (f:Str):TE:=fun σ H Q=>ta σ H fun x H1=>∃ a C dx fs v,x=.ref a/\H1 a=some (.ins C dx fs)/\Cls K C/\vP K C f/\fs.lookup f=some v/\Q v H1
def sFld (K:W.Frag) (ta tv:TE) (f:Str):TS:=fun D σ H=>tv σ H fun y H1=>ta σ H1 fun x H2=>∃ a C dx fs,x=.ref a/\H2 a=some (.ins C dx fs)/\Cls K C/\vP K C f/\fs.length < 1000 /\
 D.nx σ (upd H2 a (.ins C dx (putF f y fs)))
def InOp (X:Cx) (op:aN) (rd:V->V->Hp->VK->Prop):Prop:=
 ∀ (pj:List (Addr×Obj)) (s:ν) (σ:St) (H:Hp) (x y:V) (u v:δ) (Q:VK),Inv X pj σ H s->RelV x u->RelV y v->rd x y H Q->Θ (Ξ X.prog X.w) X.A (inplaceOp op u v) (EP X pj σ Q) X.xe s
def zci (K:W.Frag) (ta tv:TE) (rd:V->V->Hp->VK->Prop) (f:Str):TS:=fun D σ H=>ta σ H fun x H1=>∃ a C dx fs v,x=.ref a/\H1 a=some (.ins C dx fs)/\Cls K C/\vP K C f/\fs.lookup f=some v /\
 tv σ H1 fun y H2=>rd v y H2 fun z H3=>∃ dx' fs',H3 a=some (.ins C dx' fs')/\fs'.length < 1000/\D.nx σ (upd H3 a (.ins C dx' (putF f z fs')))
section
variable {X:Cx}{o e value:Expr}{f:Str}{pos pos' tpos:Pos}{ta tv:TE}
theorem ze9 (he:PE X e ta) (hb:bZ e f X.env (eval e X.env)=eval e X.env):PE X (.Attribute e f pos) (tFld X.K ta f):=by intro pj s σ H Q I h;refine zdC hb (thn (he pj s σ H _ I h) fun u s1 ⟨x,H1,I1,rx,a,C,dx,fs,v,ex,ea,c,n,l,q⟩=>?_);subst ex;obtain rfl:u=Ε a:=rx;exact kY I1 ea c n l fun u' s2 I2 ru=>⟨v,H1,I2,ru,q⟩
theorem zeY (ha:PE X o ta) (hv:PE X value tv) (hs:cj value (some (.Attribute o f pos')) pos.line X.env=pure false):PS X (.Assign [.Attribute o f pos'] value pos) (sFld X.K ta tv f):=by intro pj s σ H D I h;refine plainObj_wpAny_Assign_Attribute (thn (hv pj s σ H _ I h) fun u s1 ⟨y,H1,I1,ry,q⟩=>thn (ha pj s1 σ H1 _ I1 q) fun ov s2 ⟨x,H2,I2,rx,a,C,dx,fs,ex,ea,c,n,l,q2⟩=>?_) hs;subst ex;obtain rfl:ov=Ε a:=rx;exact j4 I2 ea c n l ry fun s3 I3=>⟨σ,_,I3,q2⟩
theorem UT {op:aN}{rd:V->V->Hp->VK->Prop}(ha:PE X o ta) (hv:PE X value tv) (hop:InOp X op rd):PS X (.AugAssign (.Attribute o f tpos) op value pos) (zci X.K ta tv rd f):=by
 intro pj s σ H D I h;refine wpAny_AugAssign_AttributeAny (thn (ha pj s σ H _ I h) fun ov s1 ⟨x,H1,I1,rx,a,C,dx,fs,v,ex,ea,c,n,l,q⟩=>?_);subst ex;obtain rfl:ov=Ε a:=rx;refine kY I1 ea c n l fun u s2 I2 ru=>thn (hv pj s2 σ H1 _ I2 q) fun w3 s3 ⟨y,H2,I3,ry,q3⟩=>thn (hop pj s3 σ H2 v y u w3 _ I3 ru ry q3) fun w4 s4 ⟨z,H3,I4,rz,dx',fs',ea',l',q4⟩=>?_
 exact j4 I4 ea' c n l' rz fun s5 I5=>⟨σ,_,I5,q4⟩
def rAdd:V->V->Hp->VK->Prop:=fun x y H Q=>∃ i j,x=.int i/\y=.int j/\Q (.int (i+j)) H
def rSub:V->V->Hp->VK->Prop:=fun x y H Q=>∃ i j,x=.int i/\y=.int j/\Q (.int (i - j)) H
theorem zgc:InOp X .Add rAdd:=by
 rintro pj s σ H x y u v Q I rx ry ⟨i,j,rfl,rfl,q⟩;obtain ⟨t,rfl⟩:=(show ∃ t,u=Ϧ i t from rx)
 obtain ⟨t',rfl⟩:=(show ∃ t',v=Ϧ j t' from ry)
 exact PyProof.Rows.iadd_int ⟨.int (i+j),H,I.tok _,⟨_,rfl⟩,q⟩
theorem zf8:InOp X .Sub rSub:=by
 rintro pj s σ H x y u v Q I rx ry ⟨i,j,rfl,rfl,q⟩;obtain ⟨t,rfl⟩:=(show ∃ t,u=Ϧ i t from rx)
 obtain ⟨t',rfl⟩:=(show ∃ t',v=Ϧ j t' from ry)
 exact PyProof.Rows.isub_int ⟨.int (i - j),H,I.tok _,⟨_,rfl⟩,q⟩
end
section
variable {X:Cx}{pj:List (Addr×Obj)}{σ:St}{H:Hp}{s:ν}{A:Ϗ}{E:VSP}{Q:VSP}{c:δ}{b:Bool}
inductive TyOf (K:W.Frag) (H:Hp):V->δ->Prop where
 | non:TyOf K H .non (.type "NoneType")
 | bl (x:Bool):TyOf K H (.bl x) (.type "bool")
 | int (i:Int):TyOf K H (.int i) (.type "int")
 | str (x:Str):TyOf K H (.str x) (.type "str")
 | flt (x:UInt64):TyOf K H (.flt x) (.type "float")
 | lst {a:Addr}{xs:List V}(e:H a=some (.lst xs)):TyOf K H (.ref a) (.type "list")
 | frz {a:Addr}{o:Obj}{xs:List V}(e:H a=some (.frz o (.lst xs))):TyOf K H (.ref a) (.type "list")
 | tup {a:Addr}{xs:List V}(e:H a=some (.tup xs)):TyOf K H (.ref a) (.type "tuple")
 | dK {a:Addr}{kvs:List (Key×V)}(e:H a=some (.dK kvs)):TyOf K H (.ref a) (.type "dict")
 | dT {a:Addr}{kvs:List (List Key×V)}(e:H a=some (.dT kvs)):TyOf K H (.ref a) (.type "dict")
 | ins {a C dx:Addr}{fs:List (Str×V)}(e:H a=some (.ins C dx fs)) (cl:Cls K C) (ha:W.findIn K (.ref C) "__class__"=some (some (.builtin "object.__class__")))
   (hn:W.specialIn K (.builtin "object.__class__") "__get__"=some (some (.builtin "getset_descriptor.__get__"))) (htk:W.takesIn K (.builtin "object.__class__")=some true)
   (hm:W.mroIn K C (.type "object")=some true):TyOf K H (.ref a) (.ref C)
theorem JN {x:V}{u t:δ}(I:Inv X pj σ H s) (rx:RelV x u) (ty:TyOf X.K H x t) (e:W.kitOne X.K t c=some b) (h:∀ tk,Q (.bool b) { s with toks:=tk }):
  Θ (Ξ X.prog X.w) A (call (.builtin "isinstance") [u,c]) Q E s:=by
 cases ty with
 | non=>cases (show u=Ϙ from rx);exact W.kia_one W.kitx_none I.kIn Ϭ e (fun z=>nomatch z) h
 | bl y=>cases (show u=Ϣ y from rx);exact W.kia_one W.kitx_bool I.kIn Ϭ e (fun z=>nomatch z) h
 | int i=>obtain ⟨t,q⟩:=(show ∃ t,u=Ϧ i t from rx);cases q;exact W.kia_one W.kitx_int I.kIn Ϭ e (fun z=>nomatch z) h
 | str y=>obtain ⟨t,q⟩:=(show ∃ t,u=ϴ y t from rx);cases q;exact W.kia_one W.kitx_str I.kIn Ϭ e (fun z=>nomatch z) h
 | flt y=>obtain ⟨t,q⟩:=(show ∃ t,u=δ.float y t from rx);cases q;exact W.kia_one W.kitx_float I.kIn Ϭ e (fun z=>nomatch z) h
 | @lst a xs ea=>
  cases (show u=Ε a from rx);obtain ⟨_,_,n,_,h1⟩:=(show yo X.prog X.w H s.heap a (.lst xs) from I.hok a _ ea)
  exact W.kia_one W.kitx_list I.kIn ⟨_,h1,rfl⟩ e (fun z=>nomatch z) h
 | @frz a ob xs ea=>
  cases (show u=Ε a from rx);obtain ⟨_,_,_,n,_,h1⟩:=(show yo X.prog X.w H s.heap a (.frz ob (.lst xs)) from I.hok a _ ea)
  exact W.kia_one W.kitx_list I.kIn ⟨_,h1,rfl⟩ e (fun z=>nomatch z) h
 | @tup a xs ea=>
  cases (show u=Ε a from rx);obtain ⟨_,_,_,p⟩:=(show yo X.prog X.w H s.heap a (.tup xs) from I.hok a _ ea)
  obtain ⟨o,h1,h2,_⟩:=p;exact W.kia_one W.kitx_tuple I.kIn ⟨o,h1,h2⟩ e (fun z=>nomatch z) h
 | @dK a kvs ea=>
  cases (show u=Ε a from rx);obtain ⟨_,_,vs,_,p⟩:=(show yo X.prog X.w H s.heap a (.dK kvs) from I.hok a _ ea)
  obtain ⟨o,es,ep,h1,h2,_⟩:=p;exact W.kia_one W.kitx_dict I.kIn ⟨o,h1,h2.1⟩ e (fun z=>nomatch z) h
 | @dT a kvs ea=>
  cases (show u=Ε a from rx);obtain ⟨_,_,xs,_,o,es,ep,h1,h2,_⟩:=(show yo X.prog X.w H s.heap a (.dT kvs) from I.hok a _ ea)
  exact W.kia_one W.kitx_dict I.kIn ⟨o,h1,h2.1⟩ e (fun z=>nomatch z) h
 | @ins a C dx fs ea cl ha hn htk hm=>
  cases (show u=Ε a from rx);obtain ⟨mA,O,_⟩:=qY I.hok ea;obtain ⟨od,J,_⟩:=O.look;exact W.kia_one (W.kitx_own (cl.get _) cl.hd ha hn htk hm) I.kIn J e (fun z=>nomatch z) h
end
structure Room (k:Nat) (A:Ϗ):Prop where
 hd:A.handled=none
 gd:A.guards=some []
 dp:A.depth+3*k+5 < recursionLimit
 un:A.units+16*k+200 < ϰ
theorem Room.mono {j k:Nat}{A:Ϗ}(r:Room k A) (h:j<=k):Room j A:=⟨r.hd,r.gd,by have:=r.dp;lia,by have:=r.un;lia⟩
theorem Room.deeper {k:Nat}{A:Ϗ}(r:Room (k+1) A) (env:Env):Room k (A.deeper env):=
 ⟨r.hd,r.gd,by have:=r.dp;show A.depth+1+3*k+5 < _;lia,by have:=r.un;show A.units+3+16*k+200 < _;lia⟩
theorem Room.in1 {k:Nat}{A:Ϗ}(r:Room (k+1) A):Room k A.in1:=
 ⟨r.hd,r.gd,by have:=r.dp;show A.depth+3*k+5 < _;lia,by have:=r.un;show A.units+1+16*k+200 < _;lia⟩
theorem Vr {A:Ϗ}{C:Addr}{us:List δ}{kw:List (Str×δ)}:(A.under (.builtin "type.__call__" ⟨.ref C::us,kw⟩)).depth=A.depth+1:=by first | rfl | simp [fD,Code.weight,Code.isCreation,Code.isGuard,Code.isCaller,Code.frames,lu,guardIds]
theorem Vq {A:Ϗ}{C:Addr}{us:List δ}{kw:List (Str×δ)}:(A.under (.builtin "type.__call__" ⟨.ref C::us,kw⟩)).units=A.units+1:=by first | rfl | simp [fD,Code.cUnits,Code.frames,lu]
theorem Xg {A:Ϗ}{C:Addr}{us:List δ}{kw:List (Str×δ)}(h:A.guards=some []):(A.under (.builtin "type.__call__" ⟨.ref C::us,kw⟩)).guards=some []:=by simp [fD,h,PySem.pushGuards_eq,Code.guards,Code.isGuard,guardIds]
theorem Room.make {k:Nat}{A:Ϗ}(r:Room (k+1) A) (C:Addr) (us:List δ) (kw:List (Str×δ)):Room k (A.under (.builtin "type.__call__" ⟨.ref C::us,kw⟩)):=
 ⟨r.hd,Xg r.gd,by have:=r.dp;rw [Vr];lia,by have:=r.un;rw [Vq];lia⟩
theorem Room.depth {k:Nat}{A:Ϗ}(r:Room k A):A.depth < recursionLimit:=by have:=r.dp;lia
theorem Room.units {k:Nat}{A:Ϗ}(r:Room k A):A.units+64 < ϰ:=by have:=r.un;lia
def tNil:TA:=fun _ H Q=>Q [] H
def zef (ta:TE) (tr:TA):TA:=fun σ H Q=>ta σ H fun x H1=>tr σ H1 fun xs H2=>Q (x::xs) H2
section
variable {X:Cx}{e:Expr}{es:List Expr}{te:TE}{t:TA}{pos:Pos}
theorem xM:PA X [] tNil:=fun _ _ _ _ H Q I h=>Calls.spliced_nil ⟨[],H,I,.nil,h⟩
theorem zZ (ha:PE X e te) (hr:PA X es t) (hs:ϐ (e::es) X.env=(false,eval e X.env)::ϐ es X.env:=by rfl):PA X (e::es) (zef te t):=by
 intro pos pj s σ H Q I h;rw [hs];show Θ _ _ (spliced ((false,eval e X.env)::bK pos (ϐ es X.env))) _ _ s
 refine Calls.spliced_cons (thn (ha pj s σ H _ I h) fun u s1 ⟨x,H1,I1,r1,q1⟩=>?_);exact thn (hr pos pj s1 σ H1 _ I1 q1) fun us s2 ⟨xs,H2,I2,r2,q2⟩=>⟨x::xs,H2,I2,.cons r1 r2,q2⟩
def tTup (t:TA):TE:=fun σ H Q=>t σ H fun xs H1=>xs.length<=sizeLine/\∀ p,H1 p=none->Q (.ref p) (upd H1 p (.tup xs))
def tLst (t:TA):TE:=fun σ H Q=>t σ H fun xs H1=>xs.length<=sizeLine/\∀ p,H1 p=none->Q (.ref p) (upd H1 p (.lst xs))
theorem U9 {x1} (h:PA X es t):PE X (.Tuple es x1 pos) (tTup t):=by intro pj s σ H Q I hq;refine wpAny_Tuple_spliced (thn (h pos pj s σ H _ I hq) fun us s1 ⟨xs,H1,I1,r,z,q⟩=>⟨by rw [<- r.length];exact z,?_⟩);have hf:H1 s1.heap.objs.size=none:=I1.hok.fresh (Η _);refine ⟨.ref s1.heap.objs.size,upd H1 s1.heap.objs.size (.tup xs),I1.laid (t':=s1.toks) (fun b u e=>ξ _ e) (Η _) ?_,rfl,q _ hf⟩;exact ⟨z,us,r,⟨_,Χ _ rfl,rfl,_,rfl⟩⟩
theorem ze8 (h:PA X es t):PE X (.List es pos) (tLst t):=by intro pj s σ H Q I hq;refine wpAny_List_spliced (thn (h pos pj s σ H _ I hq) fun us s1 ⟨xs,H1,I1,r,z,q⟩=>⟨by rw [<- r.length];exact z,?_⟩);have hf:H1 s1.heap.objs.size=none:=I1.hok.fresh (Η _);refine ⟨.ref s1.heap.objs.size,upd H1 s1.heap.objs.size (.lst xs),I1.laid (t':=s1.toks) (fun b u e=>ξ _ e) (Η _) ?_,rfl,q _ hf⟩;exact ⟨z,us,0,r,Χ _ rfl⟩
end
abbrev Sp:=List V->Hp->VK->XK->Prop
abbrev CXT:=List Env->Hp->ν->XK->δ->ν->Prop
structure Env0 (P:Τ) (w:ϙ) (K:W.Frag) (mg:Str->Option δ) (base:Heap) (A:Ϗ) (outer:List Env) (s:ν) (H:Hp):Prop where
 frames:A.frames=some outer
 mod:Mod K mg base
 bs:∀ b o,base.get? b=some o->s.heap.get? b=some o/\H b=none
 bsz:base.objs.size<=s.heap.objs.size
 funs:s.heap.FunFrames base outer
 frf:∀ b∈frs outer,H b=none
 hok:HOk P w H s.heap
 bare:dC s.gens
def CE (outer:List Env) (P:Τ) (w:ϙ) (H:Hp) (s:ν) (Q:VK) (u:δ) (s':ν):Prop:=
 ∃ v H',s'.os=s.os/\dC s'.gens/\Un (frs outer) [] H H' s.heap s'.heap/\HOk P w H' s'.heap/\RelV v u/\Q v H'
def CR (CX:CXT) (outer:List Env) (P:Τ) (w:ϙ) (H:Hp) (s:ν) (Q:VK) (E:XK) (r:Result) (s':ν):Prop:=
 match r with
 | .ok (.ret u)=>CE outer P w H s Q u s'
 | .ok _=>False
 | .error e=>CX outer H s E e s'
structure FnOk (P:Τ) (w:ϙ) (K:W.Frag) (mg:Str->Option δ) (base:Heap) (CX:CXT) (k:Nat) (f:Addr) (fd:aG) (ps:List Str) (sp:Sp):Prop where
 len:∀ vs H Q E,sp vs H Q E->vs.length=ps.length
 run:∀ (A:Ϗ) (outer:List Env) (s:ν) (H:Hp) (args:Args) (us:List δ) (vs:List V) (Q:VK) (E:XK),Room k A->Env0 P w K mg base A outer s H->BindsTo s fd args (ps.zip us)->Vals vs us->sp vs H Q E ->
  fW (Ξ P w) A (.call (.ref f) args) (CR CX outer P w H s Q E) s
theorem Env0.make {P:Τ}{w:ϙ}{K:W.Frag}{mg:Str->Option δ}{base:Heap}{A:Ϗ}{outer:List Env}{s:ν}{H:Hp}(e:Env0 P w K mg base A outer s H) (C:Addr) (us:List δ) (kw:List (Str×δ)):
  Env0 P w K mg base (A.under (.builtin "type.__call__" ⟨.ref C::us,kw⟩)) outer s H:=⟨by first | exact e.frames | (simpa [fD,Code.envs,lu,pushEnvs] using e.frames),e.mod,e.bs,e.bsz,e.funs,e.frf,e.hok,e.bare⟩
theorem Env0.in1 {P:Τ}{w:ϙ}{K:W.Frag}{mg:Str->Option δ}{base:Heap}{A:Ϗ}{outer:List Env}{s:ν}{H:Hp}(e:Env0 P w K mg base A outer s H):
  Env0 P w K mg base A.in1 outer s H:=⟨e.frames,e.mod,e.bs,e.bsz,e.funs,e.frf,e.hok,e.bare⟩
section
variable {X:Cx}{pj:List (Addr×Obj)}{σ:St}{H:Hp}{s s':ν}
theorem Inv.env0 (I:Inv X pj σ H s):Env0 X.prog X.w X.K X.mg X.base X.A X.stack s H:=
 ⟨I.ok.frames,I.ok.mod,I.bs,ϕ I.ok.bsz I.sz,I.stack,I.uW,I.hok,I.bare⟩
theorem Inv.after {Q:VK}{u:δ}(I:Inv X pj σ H s) (h:CE X.stack X.prog X.w H s Q u s'):EP X pj σ Q u s':=by obtain ⟨v,H',os,bare,un,hok,r,q⟩:=h;obtain ⟨hh,g,d,t,os'⟩:=s';obtain rfl:os'=s.os:=os;exact ⟨v,H',I.call (h':=hh) (g':=g) (d':=d) (t':=t) (ch:=[]) un hok bare (fun b z=>absurd z (by simp)),r,q⟩
end
def zg0 (sp:Sp) (dvs:List V) (E:XK) (t:TA):TE:=fun σ H Q=>t σ H fun vs H1=>sp (vs++dvs) H1 Q E
def zgX (C:Addr) (sp:Sp) (dvs:List V) (E:XK) (t:TA):TE:=fun σ H Q=>t σ H fun vs H1=>∀ x dx,H1 x=none->H1 dx=none->dx≠x ->
 sp (.ref x::(vs++dvs)) (upd (upd H1 dx (.own x)) x (.ins C dx [])) (fun v H2=>v=.non/\Q (.ref x) H2) E
def Binds (K:W.Frag) (fd:aG) (ps:List Str) (ds:List δ):Prop:=
 ∀ (s:ν) (us:List δ),K.In s.heap->(us++ds).length=ps.length->BindsTo s fd ⟨us,[]⟩ (ps.zip (us++ds))
theorem Binds.all {K:W.Frag}{fd:aG}{ps:List Str}(h:∀ us:List δ,us.length=ps.length->bindArgs fd ⟨us,[]⟩=pure (ps.zip us)):Binds K fd ps []:=fun s us _ hl=>by rw [Ϝ] at hl ⊢;exact .of_eq (h us hl)
def jO (CX:CXT) (X:Cx) (E:XK):Prop:=∀ (pj:List (Addr×Obj)) (σ:St) (H:Hp) (s:ν) (e:δ) (s':ν),Inv X pj σ H s->CX X.stack H s E e s'->X.xe e s'
section
variable {X:Cx}{CX:CXT}{k:Nat}{f C:Addr}{fd:aG}{ps:List Str}{sp:Sp}{dvs:List V}{ds:List δ}{E:XK}{x m:Str}{p pos apos:Pos}{e o:Expr}{es:List Expr}{ta:TE}{t:TA}
theorem We {pj:List (Addr×Obj)}{σ:St}{H:Hp}{s:ν}{Q:VK}{us:List δ}{vs:List V}(F:FnOk X.prog X.w X.K X.mg X.base CX k f fd ps sp) (hr:Room k X.A) (hb:Binds X.K fd ps ds) (hd:Vals dvs ds) (hx:jO CX X E)
  (I:Inv X pj σ H s) (r:Vals vs us) (h:sp (vs++dvs) H Q E):Θ (Ξ X.prog X.w) X.A (call (.ref f) us) (EP X pj σ Q) X.xe s:=by
 have r2:Vals (vs++dvs) (us++ds):=r.append hd;have hl:(us++ds).length=ps.length:=by rw [<- r2.length];exact F.len _ _ _ _ h
 refine lz (cV (F.run X.A X.stack s H ⟨us,[]⟩ (us++ds) (vs++dvs) Q E hr I.env0 (hb s us I.kIn hl) r2 h) fun r s' hq=>?_);cases r with
 | error e=>exact hx pj σ H s e s' I hq
 | ok fl=>
  cases fl with
  | ret u=>exact I.after hq
  | next=>exact ϗ hq
  | brk=>exact ϗ hq
  | cont=>exact ϗ hq
theorem zcC (F:FnOk X.prog X.w X.K X.mg X.base CX k f fd ps sp) (hr:Room k X.A) (hg:Gl X x) (hm:X.mg x=some (.ref f)) (hk:W.keepIn X.K (.ref f)=true) (hb:Binds X.K fd ps ds) (hd:Vals dvs ds) (hx:jO CX X E)
  (ha:PA X (e::es) t) (hdb:(x==("__debug__":Str))=false:=by decide) (he:ϐ (e::es) X.env=(false,eval e X.env)::ϐ es X.env:=by rfl) (hpl:(bK pos (ϐ es X.env)).any (·.1)=false:=by rfl):
  PE X (.Call (.Name x p) (e::es) [] pos) (zg0 sp dvs E t):=by intro pj s σ H Q I h;refine aK (wM I hg hm ?_ hdb);refine W.callWith_K (h₀:=X.base) I.ok.mod.kin hk (thn (ha pos pj s σ H _ I h) fun us s1 ⟨vs,H1,I1,r,q⟩=>⟨I1.kIn,?_⟩) he hpl;exact We F hr hb hd hx I1 r q
structure Mk (K:W.Frag) (C f:Addr):Prop where
 makes:W.makesIn K C=true
 init:W.findIn K (.ref C) "__init__"=some (some (.ref f))
 fn:W.isFn K (.ref f)=true
 kp:W.keepIn K (.ref C)=true
theorem Qx {pj:List (Addr×Obj)}{σ:St}{H:Hp}{s:ν}{Q:VK}{us:List δ}{vs:List V}(M:Mk X.K C f) (F:FnOk X.prog X.w X.K X.mg X.base CX k f fd ps sp) (hr:Room (k+1) X.A) (hb:Binds X.K fd ps ds) (hd:Vals dvs ds)
  (hx:jO CX X E) (I:Inv X pj σ H s) (r:Vals vs us)
  (h:∀ x dx,H x=none->H dx=none->dx≠x->sp (.ref x::(vs++dvs)) (upd (upd H dx (.own x)) x (.ins C dx [])) (fun v H2=>v=.non/\Q (.ref x) H2) E):
  Θ (Ξ X.prog X.w) X.A (call (.ref C) us) (EP X pj σ Q) X.xe s:=by
 have hq:=h (s.heap.objs.size+1) s.heap.objs.size (I.hok.fresh (Nat.le_succ _)) (I.hok.fresh (Η _)) (ϔ (dz _));have I2:=Inv.made (C:=C) I;have r2:Vals (V.ref (s.heap.objs.size+1)::(vs++dvs)) (Ε (s.heap.objs.size+1)::(us++ds)):=.cons rfl (r.append hd);have hl:(Ε (s.heap.objs.size+1)::us++ds).length=ps.length:=by have e:=r2.length;rw [F.len _ _ _ _ hq] at e;exact e.symm
 refine lz (Q8 (f:=f) I.kIn M.makes M.init (beq_iff_eq.mp M.fn) (cV (F.run _ X.stack _ _ ⟨Ε (s.heap.objs.size+1)::us,[]⟩ (Ε (s.heap.objs.size+1)::(us++ds)) _ _ E (hr.make C us [])
  (I2.env0.make C us []) (hb _ (Ε (s.heap.objs.size+1)::us) I2.kIn hl) r2 hq) fun r s' hq'=>?_))
 cases r with
 | error e=>exact hx pj σ _ _ e s' I2 hq'
 | ok fl=>
  cases fl with
  | ret u=>
   obtain ⟨v,H',I3,rv,ev,q3⟩:=I2.after hq';subst ev;exact ⟨rv,⟨V.ref (s.heap.objs.size+1),H',I3,rfl,q3⟩⟩
  | next=>exact ϗ hq'
  | brk=>exact ϗ hq'
  | cont=>exact ϗ hq'
theorem zcA (M:Mk X.K C f) (F:FnOk X.prog X.w X.K X.mg X.base CX k f fd ps sp) (hr:Room (k+1) X.A) (hg:Gl X x) (hm:X.mg x=some (.ref C)) (hb:Binds X.K fd ps ds) (hd:Vals dvs ds) (hx:jO CX X E)
  (ha:PA X (e::es) t) (hdb:(x==("__debug__":Str))=false:=by decide) (he:ϐ (e::es) X.env=(false,eval e X.env)::ϐ es X.env:=by rfl) (hpl:(bK pos (ϐ es X.env)).any (·.1)=false:=by rfl):
  PE X (.Call (.Name x p) (e::es) [] pos) (zgX C sp dvs E t):=by intro pj s σ H Q I h;refine aK (wM I hg hm ?_ hdb);refine W.callWith_K (h₀:=X.base) I.ok.mod.kin M.kp (thn (ha pos pj s σ H _ I h) fun us s1 ⟨vs,H1,I1,r,q⟩=>⟨I1.kIn,?_⟩) he hpl;exact Qx M F hr hb hd hx I1 r q
end
def PK (X:Cx) (kws:List aq) (t:TA):Prop:=
 ∀ (pos:Pos) (pj:List (Addr×Obj)) (s:ν) (σ:St) (H:Hp) (Q:List V->Hp->Prop),Inv X pj σ H s->t σ H Q->Θ (Ξ X.prog X.w) X.A (evalAll ((aM pos (ϯ kws X.env)).map (·.2))) (AP X pj σ Q) X.xe s
section
variable {X:Cx}{CX:CXT}{k:Nat}{f C:Addr}{fd:aG}{ps ks:List Str}{sp:Sp}{E:XK}{x m:Str}{p pos apos kpos:Pos}{e o:Expr}{es:List Expr}{kws:List aq}{te ta:TE}{t tk:TA}{nm:Option Str}
theorem ze1:PK X [] tNil:=fun _ _ _ _ H Q I h=>wpAny_evalAll_nil ⟨[],H,I,.nil,h⟩
theorem zcy (ha:PE X e te) (hr:PK X kws t):PK X (⟨nm,e,kpos⟩::kws) (zef te t):=by
 intro pos pj s σ H Q I h;show Θ _ _ (evalAll ((do let v <- eval e X.env;gU pos;pure v)::(aM pos (ϯ kws X.env)).map (·.2))) _ _ s
 refine wpAny_evalAll_cons (ε (thn (ha pj s σ H _ I h) fun u s1 ⟨x,H1,I1,r1,q1⟩=>ε (cL (π ?_))));exact thn (hr pos pj s1 σ H1 _ I1 q1) fun us s2 ⟨xs,H2,I2,r2,q2⟩=>⟨x::xs,H2,I2,.cons r1 r2,q2⟩
structure Qg (K:W.Frag) (fd:aG) (ps ks:List Str) (g:List δ->List δ->List δ) (gV:List V->List V->List V):Prop where
 to:∀ (s:ν) (us ws:List δ),K.In s.heap->(g us ws).length=ps.length->BindsTo s fd ⟨us,ks.zip ws⟩ (ps.zip (g us ws))
 rel:∀ {vs:List V}{us:List δ}{zs:List V}{ws:List δ},Vals vs us->Vals zs ws->Vals (gV vs zs) (g us ws)
def zeg (sp:Sp) (gV:List V->List V->List V) (E:XK) (t tk:TA):TE:=fun σ H Q=>t σ H fun vs H1=>tk σ H1 fun zs H2=>sp (gV vs zs) H2 Q E
variable {g:List δ->List δ->List δ}{gV:List V->List V->List V}
theorem zcj {pj:List (Addr×Obj)}{σ:St}{H:Hp}{s:ν}{Q:VK}{us ws:List δ}{vs zs:List V}(F:FnOk X.prog X.w X.K X.mg X.base CX k f fd ps sp) (hr:Room k X.A) (hb:Qg X.K fd ps ks g gV) (hx:jO CX X E)
  (I:Inv X pj σ H s) (r:Vals vs us) (rz:Vals zs ws) (h:sp (gV vs zs) H Q E):Θ (Ξ X.prog X.w) X.A (call (.ref f) us (ks.zip ws)) (EP X pj σ Q) X.xe s:=by
 have r2:=hb.rel r rz;have hl:(g us ws).length=ps.length:=by rw [<- r2.length];exact F.len _ _ _ _ h
 refine lz (cV (F.run X.A X.stack s H ⟨us,ks.zip ws⟩ (g us ws) (gV vs zs) Q E hr I.env0 (hb.to s us ws I.kIn hl) r2 h) fun r s' hq=>?_);cases r with
 | error e=>exact hx pj σ H s e s' I hq
 | ok fl=>
  cases fl with
  | ret u=>exact I.after hq
  | next=>exact ϗ hq
  | brk=>exact ϗ hq
  | cont=>exact ϗ hq
end
structure Zk (N P:List Str) (sc:b7):Prop where
 kind:sc.kind=.function
 co:sc.isCoroutine=false
 gen:sc.isGenerator=false
 nd:N.Nodup
 pre:N.take P.length=P
 par:∀ x∈P,sc.names.lookup x=some .local\/sc.names.lookup x=some .cell
 nofree:∀ y∈sc.names,y.2≠.free
theorem YB {kindOf:Str->Option ϩ}{x:Str}:∀ {binds:List (Str×δ)}{m:Str->Option δ},(∀ v,(x,v) ∉ binds)->bindL kindOf binds m x=m x
 | [],_,_=>rfl
 | (n,v)::r,m,h=>by
  unfold bindL;rw [YB fun w hw=>h w (η _ hw)];split
  ·have:x≠n:=by rintro rfl;exact h v θ
   simp [this]
  ·rfl
theorem YD {kindOf:Str->Option ϩ}{x:Str}:∀ {binds:List (Str×δ)}{m:Str->Option δ},(∀ v,(x,v) ∉ binds)->bindC kindOf binds m x=m x
 | [],_,_=>rfl
 | (n,v)::r,m,h=>by
  unfold bindC;rw [YD fun w hw=>h w (η _ hw)];split
  ·rfl
  ·have:x≠n:=by rintro rfl;exact h v θ
   simp [this]
theorem YC {kindOf:Str->Option ϩ}{x:Str}{v:δ}:∀ {P:List Str}{vs:List δ}{i:Nat}{m:Str->Option δ},P.Nodup->P[i]?=some x->vs[i]?=some v->kindOf x=some .local ->
  bindL kindOf (P.zip vs) m x=some v
 | [],_,_,_,_,h,_,_=>by simp at h
 | _::_,[],_,_,_,_,h,_=>by simp at h
 | p::P,w::vs,0,m,nd,h1,h2,hk=>by
  simp at h1 h2;subst h1;subst h2;show bindL kindOf ((p,w)::P.zip vs) m p=_
  unfold bindL;rw [YB fun v hv=>(cG.mp nd).1 (cF hv).1,if_pos hk];simp
 | p::P,w::vs,i+1,m,nd,h1,h2,hk=>by
  show bindL kindOf ((p,w)::P.zip vs) m x=_
  unfold bindL;exact YC (i:=i) (cG.mp nd).2 (by simpa using h1) (by simpa using h2) hk
theorem YF {kindOf:Str->Option ϩ}{x:Str}{v:δ}:∀ {P:List Str}{vs:List δ}{i:Nat}{m:Str->Option δ},P.Nodup->P[i]?=some x->vs[i]?=some v->kindOf x≠some .local ->
  bindC kindOf (P.zip vs) m x=some v
 | [],_,_,_,_,h,_,_=>by simp at h
 | _::_,[],_,_,_,_,h,_=>by simp at h
 | p::P,w::vs,0,m,nd,h1,h2,hk=>by
  simp at h1 h2;subst h1;subst h2;show bindC kindOf ((p,w)::P.zip vs) m p=_
  unfold bindC;rw [YD fun v hv=>(cG.mp nd).1 (cF hv).1,if_neg hk];simp
 | p::P,w::vs,i+1,m,nd,h1,h2,hk=>by
  show bindC kindOf ((p,w)::P.zip vs) m x=_
  unfold bindC;exact YF (i:=i) (cG.mp nd).2 (by simpa using h1) (by simpa using h2) hk
noncomputable def start (N:List Str) (vs:List V):St:=vs.map some++Ι (N.length - vs.length) none
noncomputable def cxOf (CX:CXT) (P:Τ) (w:ϙ) (K:W.Frag) (mg:Str->Option δ) (base:Heap) (N:List Str) (qual:Str) (scope:b7) (f:Addr) (cd:δ) (A:Ϗ) (outer:List Env) (s:ν) (H:Hp) (E:XK):Cx where
 prog:=P
 w:=w
 K:=K
 mg:=mg
 base:=base
 A:=A.deeper (gG qual scope s.heap.objs.size f cd)
 N:=N
 sy:=s
 Hz:=H
 env:=gG qual scope s.heap.objs.size f cd
 outer:=outer
 stack:=gG qual scope s.heap.objs.size f cd::outer
 ex:=[]
 calm:=true
 fn:=fun _=>true
 pn:=[]
 xe:=fun e s'=>Θ (Ξ P w) (A.deeper (gG qual scope s.heap.objs.size f cd)) (leaving (gG qual scope s.heap.objs.size f cd) e) (fun _ s''=>CX outer H s E e s'') (fun e' s''=>CX outer H s E e' s'') s'
theorem Zg {sc:b7}{n:Nat}{x:Str}(h:sc.names.lookup x=some .cell):∃ c,(cellsFrom n sc.names []).lookup x=some c:=by have q:=W.cellsFrom_some sc.names n [] (.inl h);exact bH.mp q
theorem JR {CX:CXT}{P:Τ}{w:ϙ}{K:W.Frag}{mg:Str->Option δ}{base:Heap}{N ps:List Str}{qual:Str}{scope:b7}{f:Addr}{cd:δ}{A:Ϗ}{outer:List Env}{s s1:ν}{H:Hp}{E:XK}{us:List δ}{vs:List V}
  (S:Zk N ps scope) (hd:A.handled=none) (e0:Env0 P w K mg base A outer s H) (hl:vs.length=ps.length) (r:Vals vs us)
  (x:InCallC s s.heap.objs.size (bindL (gG qual scope s.heap.objs.size f cd).kindOf (ps.zip us) fun _=>none) (cellsFrom (s.heap.objs.size+1) scope.names []) (bindC (gG qual scope s.heap.objs.size f cd).kindOf (ps.zip us) fun _=>none) s1):
  Inv (cxOf CX P w K mg base N qual scope f cd A outer s H E) [] (start N vs) H s1:=by
 have hpl:ps.length<=N.length:=by have:=congrArg List.length S.pre;rw [aV] at this;lia
 obtain ⟨h1,tk,rfl,hk⟩:=x.done;have noA:∀ b:Addr,b ∉ (cxOf CX P w K mg base N qual scope f cd A outer s H E).ex:=fun b z=>absurd (show b∈([]:List Addr) from z) (by simp)
 refine ⟨⟨e0.mod,S.kind,rfl,rfl,Η _,fun y z c h1 h2=>?_,fun y hy=>?_,fun y c _ h=>?_,fun _=>hd,Ϗ.frames_deeper e0.frames,.inr ⟨rfl,rfl⟩,fun b z=>absurd z (noA b),e0.bs,e0.bsz,fun b _ _=>noA b,fun b z=>absurd z (noA b),e0.funs,e0.frf⟩,
  rfl,e0.bare,Un.kept hk,⟨_,x.toInCall.ns,fun i y v h1 h2 h3=>?_⟩,fun y c h=>⟨_,x.cell y c h⟩,e0.hok.fresh (Η _),fun y c h=>?_,fun p hp=>absurd (show p∈([]:List (Addr×Obj)) from hp) (by simp),e0.hok.kept hk,?_⟩
 ·exact name_of_addr x.apart (aB h1) (aB h2)
 ·have hy:scope.names.lookup y=some .cell\/scope.names.lookup y=some .free:=hy;rcases hy with hy | hy
  ·exact Zg hy
  ·exact absurd rfl (S.nofree _ (aB hy))
 ·exact gw (x.above y c (aB h))
 ·have hi:i < vs.length:=by
   unfold start at h2;by_cases hi:i < vs.length
   ·exact hi
   ·rw [ϒ (by simpa using hi)] at h2;rw [bW] at h2;split at h2 <;> cases h2
  have ha:vs[i]?=some v:=by
   unfold start at h2;rw [ϖ (by simpa using hi),Υ] at h2;cases e:vs[i]? with
   | none=>rw [e] at h2;cases h2
   | some a=>rw [e] at h2;cases h2;rfl
  obtain ⟨u,hu,rv⟩:=r.get ha;have hp:ps[i]?=some y:=by rw [<- S.pre,List.getElem?_take_of_lt (by lia)];exact h1
  have ndP:ps.Nodup:=by rw [<- S.pre];exact S.nd.sublist (List.take_sublist _ _)
  refine ⟨u,rv,?_⟩;rcases S.par y (ϡ hp) with k | k
  ·exact .inl ⟨k,YC ndP hp hu k⟩
  ·obtain ⟨c,e⟩:=Zg (n:=s.heap.objs.size+1) k;refine .inr ⟨.inl k,c,e,?_⟩;have q:=x.cell y c e;rw [YF ndP hp hu (by show scope.names.lookup y≠_;rw [k];decide)] at q;exact q
 ·exact e0.hok.fresh (gw (x.above y c (aB h)))
 ·unfold start;show _=N.length
  rw [Ο,ώ,cz];lia
theorem zgi {CX:CXT}{P:Τ}{w:ϙ}{K:W.Frag}{mg:Str->Option δ}{base:Heap}{k:Nat}{f:Addr}{name qual:Str}{params:Arguments}{body:List Stmt}{scope:b7}{dV kV doc pm cdv ct oc:δ}{an od:Option Addr}
  {osl:Array (Option δ)}{N ps:List Str}{sp:Sp}(lk:K.lookup f=some ⟨oc,od,.func (W.fnOf name qual params body scope dV kV doc pm an cdv ct),osl⟩) (hcd:W.codeIn K cdv qual=true) (S:Zk N ps scope)
  (len:∀ vs H Q E,sp vs H Q E->vs.length=ps.length)
  (hbody:∀ (A:Ϗ) (outer:List Env) (s:ν) (H:Hp) (vs:List V) (Q:VK) (E:XK),Room k (A.deeper (gG qual scope s.heap.objs.size f cdv))->sp vs H Q E ->
   ∃ t,PSs (cxOf CX P w K mg base N qual scope f cdv A outer s H E) body t/\t { nx:=fun _ H'=>Q .non H',rt:=Q } (start N vs) H):
  FnOk P w K mg base CX (k+1) f (W.fnOf name qual params body scope dV kV doc pm an cdv ct) ps sp:=by
 refine ⟨len,fun A outer s H args us vs Q E hr e0 hb r hsp=>?_⟩;have hl:=len _ _ _ _ hsp;have KX:K.In s.heap:=e0.mod.kin.keeps fun b o e=>(e0.bs b o e).1
 have lim:s.heap.NoLimit:=e0.mod.nolimit.keeps fun b o e=>(e0.bs b o e).1
 have hkind:∀ y∈ps.zip us,scope.names.lookup y.1=some .local\/(scope.names.lookup y.1=some .cell/\((cellsFrom (s.heap.objs.size+1) scope.names []).lookup y.1).isSome=true):=fun ⟨n,v⟩ hy=>by
  rcases S.par n (cF hy).1 with q | q
  ·exact .inl q
  ·exact .inr ⟨q,W.cellsFrom_some _ _ _ (.inl q)⟩
 refine codeAny_call_function hr.depth (KX _ _ lk) rfl S.co S.gen rfl (W.codeRec_of KX hcd) (hb _ _ _ _ ?_);refine wpAny_newFunctionEnv_cells S.kind hkind fun env he s1 x=>?_
 subst he;refine ⟨lim.keeps x.toInCall.keep,codeAny_func ?_⟩;obtain ⟨t,ht,hq⟩:=hbody A outer s H vs Q E (hr.deeper _) hsp;have I:Inv (cxOf CX P w K mg base N qual scope f cdv A outer s H E) [] (start N vs) H s1:=JR S hr.hd e0 hl r x;refine aJ (ht [] s1 (start N vs) H _ I hq) (fun fl s' hs=>?_) fun e s' hs=>hs
 have fin:∀ {σ':St}{H':Hp}{v:V}{u:δ},Inv (cxOf CX P w K mg base N qual scope f cdv A outer s H E) [] σ' H' s'->RelV v u->Q v H'->CE outer P w H s Q u s':=
  fun {σ' H' v u} J rv q=>⟨v,H',J.os,J.bare,J.base,J.hok,rv,q⟩
 cases fl with
 | ret u=>
  obtain ⟨v,σ',H',J,rv,q⟩:=hs;exact fin J rv q
 | next=>
  obtain ⟨σ',H',J,q⟩:=hs;exact fin (v:=V.non) (u:=Ϙ) J rfl q
 | brk=>
  obtain ⟨_,_,_,q⟩:=hs;exact ϗ q
 | cont=>
  obtain ⟨_,_,_,q⟩:=hs;exact ϗ q
section
variable {X:Cx}{x:Str}{p pos:Pos}{e:Expr}{es:List Expr}{t:TA}{id T:String}{r:List V->Hp->VK->Prop}
def tCB (r:List V->Hp->VK->Prop) (t:TA):TE:=fun σ H Q=>t σ H fun vs H1=>r vs H1 Q
theorem uD (hc:yp X (.builtin id) r) (hg:Gl X x) (hm:X.mg x=none) (hv:bu x=some (.builtin id)) (ha:PA X (e::es) t) (hn:x≠"__name__":=by decide) (hdb:(x==("__debug__":Str))=false:=by decide)
  (he:ϐ (e::es) X.env=(false,eval e X.env)::ϐ es X.env:=by rfl) (hpl:(bK pos (ϐ es X.env)).any (·.1)=false:=by rfl):PE X (.Call (.Name x p) (e::es) [] pos) (tCB r t):=by intro pj s σ H Q I h;refine aK (Z1 I hg hm hv ?_ hn hdb);exact PyProof.Rows.callWith_builtin1 (thn (ha pos pj s σ H _ I h) fun us s1 ⟨vs,H1,I1,r1,q1⟩=>hc pj s1 σ H1 vs us Q I1 r1 q1) he hpl
theorem Jb (hc:yp X (.type T) r) (hg:Gl X x) (hm:X.mg x=none) (hv:bu x=some (.type T)) (ha:PA X (e::es) t) (hn:x≠"__name__":=by decide) (hdb:(x==("__debug__":Str))=false:=by decide)
  (he:ϐ (e::es) X.env=(false,eval e X.env)::ϐ es X.env:=by rfl) (hpl:(bK pos (ϐ es X.env)).any (·.1)=false:=by rfl):PE X (.Call (.Name x p) (e::es) [] pos) (tCB r t):=by intro pj s σ H Q I h;refine aK (Z1 I hg hm hv ?_ hn hdb);exact cu (thn (ha pos pj s σ H _ I h) fun us s1 ⟨vs,H1,I1,r1,q1⟩=>hc pj s1 σ H1 vs us Q I1 r1 q1) he hpl
end
end L2
namespace HT
open PySem PyProof.Rows
section
open PySem.SeqAt
open PySem.AutoSeq1 (wpAny_loadPart')
open PySem.MeetsSeq PySem.MeetsSeq2 PySem.MeetsSeq3
end
section
variable {prog:Τ}{w:ϙ}{A:Ϗ}{E:δ->ν->Prop}{s:ν}
theorem zdw {t b:Addr}{vs ws:List δ}{Q:δ->ν->Prop}(ht:IsTup s.heap t vs.toArray) (hb:IsTup s.heap b ws.toArray) (hv:vs≠[])
  (h1:ws=[]->Q (.ref t) s) (h2:ws≠[]->Q (.ref s.heap.objs.size) { s with heap:=s.heap.push { cls:=.type "tuple",data:=.seq (vs++ws).toArray } })
  (hsz:vs.length+ws.length<=sizeLine):Θ (Ξ prog w) A (aL .Add (.ref t) (.ref b)) Q E s:=by
 obtain ⟨⟨cls,dd,data,sl⟩,ho,hc,n,hd⟩:=id ht;obtain ⟨⟨cls2,dd2,data2,sl2⟩,ho2,hc2,n2,hd2⟩:=id hb;simp only at hc hd hc2 hd2;subst hc hd hc2 hd2;have e:vs.toArray++ws.toArray=(vs++ws).toArray:=by simp
 by_cases hw:ws=[]
 ·exact lZ ⟨_,ho,rfl⟩ ⟨_,ho2,rfl⟩ iy lL dq cW (cQ _ _)
   (tuple_addW1 t b vs.toArray ws.toArray n n2 dd dd2 sl sl2 (by simpa using hv) (by simp [hw])) ⟨ho,ho2,h1 hw⟩
 ·refine lZ ⟨_,ho,rfl⟩ ⟨_,ho2,rfl⟩ iy lL dq cW (cQ _ _)
   (tuple_addW2 t b vs.toArray ws.toArray n n2 dd dd2 sl sl2 (by simpa using hv) (by simpa using hw) (by rw [ς,ς];exact hsz)) ⟨ho,ho2,?_⟩
  rw [e];exact h2 hw
noncomputable def sIx (n d:Nat):Option Int->Nat
 | none=>d
 | some v=>if v < 0 then (v+(n:Int)).toNat else min v.toNat n
theorem Wc (n d:Nat):sIx n d none=d:=rfl
theorem zeM (n d:Nat) (hd:d<=n) (o:Option Int):sIx n d o<=n:=by
 cases o with
 | none=>exact hd
 | some v=>
  show (if v < 0 then (v+(n:Int)).toNat else min v.toNat n)<=n
  by_cases hv:v < 0
  ·rw [if_pos hv];omega
  ·rw [if_neg hv];exact Nat.min_le_right _ _
theorem Kr (v:Int) (n d:Nat):(if v < 0 then max (v+(n:Int)) 0 else min v (n:Int))=((sIx n d (some v):Nat):Int):=by
 show (if v < 0 then max (v+(n:Int)) 0 else min v (n:Int))=(((if v < 0 then (v+(n:Int)).toNat else min v.toNat n):Nat):Int)
 by_cases hv:v < 0
 ·simp only [if_pos hv];omega
 ·simp only [if_neg hv];omega
theorem VH (lo hi:Option Int) (n:Nat):cC lo hi 1 (n:Int)=(((sIx n 0 lo:Nat):Int),((sIx n n hi:Nat):Int)):=by
 have h1:¬ ((1:Int) < 0):=by omega
 unfold cC;simp only [h1,if_false];refine Prod.ext ?_ ?_
 ·cases lo with
  | none=>rfl
  | some v=>exact Kr v n 0
 ·cases hi with
  | none=>rfl
  | some v=>exact Kr v n n
theorem Vj (i j:Nat):bf (i:Int) (j:Int) 1=j - i:=by
 unfold bf;have h1:(1:Int) > 0:=by omega
 simp only [h1,if_true,Int.ediv_one];split <;> omega
theorem jZ {v:δ}{o:Option Int}{Q:Option Int->ν->Prop}(p:eG v o) (h:Q o s):Θ (Ξ prog w) A (Ϛ.Slice.slicePartIndex v) Q E s:=by
 cases p with
 | none=>exact slicePart_none h
 | int i t=>exact slicePart_int h
theorem xH {sl:Addr}{vl vu:δ}{lo hi:Option Int}{n:Nat}{Q:Int×Int×Nat->ν->Prop}(hs:s.heap.IsSliceOf sl vl vu .none) (pl:eG vl lo) (pu:eG vu hi)
  (h:Q (((sIx n 0 lo:Nat):Int),1,sIx n n hi - sIx n 0 lo) s):Θ (Ξ prog w) A (fc (.ref sl) (pure (n:Int))) Q E s:=by
 obtain ⟨os,hos,hcs,hds⟩:=id hs;unfold fc Ϛ.Slice.sliceFields;refine ε (ε (Ϥ hos hds (x:=vl) rfl (ε (Ϥ hos hds (x:=vu) rfl (ε (Ϥ hos hds (x:=.none) rfl (π ?_)))))));refine ε (slicePart_none ?_);show Θ _ _ (if ((1:Int)==0)=true then _ else _) _ _ s
 rw [if_neg (by decide)];refine ε (jZ pl (ε (jZ pu (ε (π ?_)))));show Θ _ _ (match cC lo hi 1 (n:Int) with | (lo,hi)=>pure (lo,(1:Int),bf lo hi 1)) _ _ s
 rw [VH lo hi n];show Θ _ _ (pure (((sIx n 0 lo:Nat):Int),(1:Int),bf ((sIx n 0 lo:Nat):Int) ((sIx n n hi:Nat):Int) 1)) _ _ s
 rw [Vj];exact π h
theorem QL (xs:Array δ) (i k:Nat):((ϛ k).filterMap fun (m:Nat)=>xs[((i:Int)+(m:Int)*1).toNat]?).toArray=((xs.toList.drop i).take k).toArray:=by
 have e:(fun (m:Nat)=>xs[((i:Int)+(m:Int)*1).toNat]?)=fun m=>xs[i+m]?:=by
  funext m
  have:((i:Int)+(m:Int)*1).toNat=i+m:=by omega
  rw [this]
 rw [e];have:=pick_run xs i k;rw [List.filterMap_map] at this;have e2:((fun x=>xs[x]?)∘fun x=>i+x)=fun m=>xs[i+m]?:=rfl
 rw [e2] at this;rw [this]
theorem vY {t sl:Addr}{items:Array δ}{vl vu:δ}{lo hi:Option Int}{Q:δ->ν->Prop}(ht:IsTup s.heap t items) (hs:s.heap.IsSliceOf sl vl vu .none) (pl:eG vl lo) (pu:eG vu hi)
  (hw:¬ (sIx items.size 0 lo=0/\sIx items.size items.size hi=items.size))
  (h:Q (.ref s.heap.objs.size) { s with heap:=s.heap.push { cls:=.type "tuple",data:=.seq ((items.toList.drop (sIx items.size 0 lo)).take (sIx items.size items.size hi - sIx items.size 0 lo)).toArray } })
  (hsz:items.size<=sizeLine):Θ (Ξ prog w) A (fV (.ref t) (.ref sl)) Q E s:=by
 have htake:sizeOk (.seq ((items.toList.drop (sIx items.size 0 lo)).take (sIx items.size items.size hi - sIx items.size 0 lo)).toArray):=by
  show ((items.toList.drop (sIx items.size 0 lo)).take (sIx items.size items.size hi - sIx items.size 0 lo)).toArray.size<=sizeLine
  rw [ς,aV,bG,cJ];omega
 have hj:sIx items.size items.size hi<=items.size:=zeM _ _ (Η _) hi;obtain ⟨os,hos,hcs,hds⟩:=id hs;have hTs:s.TypeIs (.ref sl) "slice":=⟨os,hos,hcs⟩
 unfold fV
 try with_reducible refine cN ?_
 first | refine ε (π ?_) | skip
 refine ε (wpAny_sequenceKey ht.typeIs (by decide) ?_)
 refine ε (aC (name:=ϸ "__getitem__") ht.typeIs ϧ
  (bM ϧ ht.typeIs entry_tuple_getitem ?_ (args_tuple_getitem _ _)))
 show Θ _ _ (eZ (.ref t) >>= _) _ _ s
 refine ε (tupleItemsOf_ ht ?_);refine ε (cU hTs ?_);rw [if_pos (by decide)];refine ε (xH hs pl pu ?_);have hno:¬ ((((sIx items.size 0 lo:Nat):Int)==0&&(1:Int)==1&&(sIx items.size items.size hi - sIx items.size 0 lo)==items.size)=true):=by intro q;rw [γ,γ] at q;have q1:((sIx items.size 0 lo:Nat):Int)=0:=eq_of_beq q.1.1;have q2:sIx items.size items.size hi - sIx items.size 0 lo=items.size:=eq_of_beq q.2;exact hw ⟨by omega,by omega⟩
 show Θ _ _ (if (((sIx items.size 0 lo:Nat):Int)==0&&(1:Int)==1&&(sIx items.size items.size hi - sIx items.size 0 lo)==items.size)=true then _ else _) _ _ s
 rw [if_neg hno,QL]
 first
  | exact ε (m:=bw _) (aj (π ⟨_,rfl,π h⟩) htake)
  | exact ε (m:=bw _) (aj (ε (π (π ⟨_,rfl,π h⟩))) htake)
  | exact ε (ε (m:=bw _) (aj (π (π ⟨_,rfl,π h⟩)) htake))
  | exact ε (ε (m:=bw _) (aj (π ⟨_,rfl,π h⟩) htake))
end
end HT
namespace L2
open PySem PySem.Spec PyProof.Rows
abbrev TO:=St->Hp->(Option Int->Hp->Prop)->Prop
def PO (X:Cx) (e:Option Expr) (t:TO):Prop:=
 ∀ (pj:List (Addr×Obj)) (s:ν) (σ:St) (H:Hp) (Q:Option Int->Hp->Prop),Inv X pj σ H s->t σ H Q ->
  Θ (Ξ X.prog X.w) X.A (evalPart e X.env) (fun u s'=>∃ o H',Inv X pj σ H' s'/\eG u o/\Q o H') X.xe s
def zb2:TO:=fun _ H Q=>Q none H
def zgV (t:TE):TO:=fun σ H Q=>t σ H fun x H1=>∃ i,x=.int i/\Q (some i) H1
section
variable {X:Cx}{e:Expr}{te:TE}{lo hi:Option Expr}{tl th:TO}{pos p2:Pos}
theorem zcx:PO X none zb2:=by intro pj s σ H Q I h;rw [evalPart_none];exact π ⟨none,H,I,.none,h⟩
theorem zcw (h:PE X e te):PO X (some e) (zgV te):=by
 intro pj s σ H Q I hw;rw [evalPart_some];refine thn (h pj s σ H _ I hw) fun u s1 ⟨x,H1,I1,r1,q1⟩=>?_
 obtain ⟨i,rfl,q⟩:=q1;obtain ⟨t,rfl⟩:=r1;exact ⟨some i,H1,I1,.int i t,q⟩
def SlR (X:Cx) (r:V->Option Int->Option Int->Hp->VK->Prop):Prop:=
 ∀ (pj:List (Addr×Obj)) (s:ν) (σ:St) (H:Hp) (x:V) (v vl vu:δ) (lo hi:Option Int) (sl:Addr) (Q:VK),Inv X pj σ H s->RelV x v->s.heap.IsSliceOf sl vl vu .none->eG vl lo->eG vu hi->r x lo hi H Q ->
  ∃ T id,typeLookup (.type T) "__getitem__"=pure (some (.builtin id))/\s.TypeIs v T/\Θ (Ξ X.prog X.w) X.A (fV v (.ref sl)) (EP X pj σ Q) X.xe s
theorem SlR.or {r r':V->Option Int->Option Int->Hp->VK->Prop}(h:SlR X r) (h':SlR X r'):SlR X (fun x lo hi H Q=>r x lo hi H Q\/r' x lo hi H Q):=by
 intro pj s σ H x v vl vu lo hi sl Q I rx hs pl pu q;rcases q with q | q
 ·exact h pj s σ H x v vl vu lo hi sl Q I rx hs pl pu q
 ·exact h' pj s σ H x v vl vu lo hi sl Q I rx hs pl pu q
def tSl (r:V->Option Int->Option Int->Hp->VK->Prop) (te:TE) (tl th:TO):TE:=fun σ H Q=>te σ H fun x H1=>tl σ H1 fun l H2=>th σ H2 fun u H3=>r x l u H3 Q
theorem QM {r:V->Option Int->Option Int->Hp->VK->Prop}(hr:SlR X r) (he:PE X e te) (hl:PO X lo tl) (hu:PO X hi th):PE X (.Subscript e (.Slice lo hi none p2) pos) (tSl r te tl th):=by
 intro pj s σ H Q I h;refine Subscript_ (thn (he pj s σ H _ I h) fun v s1 ⟨x,H1,I1,r1,q1⟩=>?_);refine wpAny_Slice (thn (hl pj s1 σ H1 _ I1 q1) fun vl s2 ⟨l,H2,I2,pl,q2⟩=>thn (hu pj s2 σ H2 _ I2 q2) fun vu s3 ⟨u,H3,I3,pu,q3⟩=>?_);rw [evalPart_none];refine π ?_;have I4:Inv X pj σ H3 { s3 with heap:=s3.heap.push { cls:=.type "slice",data:=.fields #[vl,vu,.none] } }:=I3.kept (t':=s3.toks) fun b ob q=>ξ _ q
 obtain ⟨T,id,hT,ht,hg⟩:=hr pj { s3 with heap:=s3.heap.push { cls:=.type "slice",data:=.fields #[vl,vu,.none] } } σ H3 x v vl vu l u s3.heap.objs.size Q I4 r1 (Heap.IsSliceOf.new ..) pl pu q3;show Θ (Ξ X.prog X.w) X.A (subscriptTail e (.Slice lo hi none p2) v (.ref s3.heap.objs.size)) (EP X pj σ Q) X.xe { s3 with heap:=s3.heap.push { cls:=.type "slice",data:=.fields #[vl,vu,.none] } }
 exact tail_any (ops:=[.ref s3.heap.objs.size,v]) ht hT hg (by with_unfolding_all rfl)
noncomputable def cutV (xs:List V) (lo hi:Option Int):List V:=(xs.drop (HT.sIx xs.length 0 lo)).take (HT.sIx xs.length xs.length hi - HT.sIx xs.length 0 lo)
theorem jA (xs:List V) (lo hi:Option Int):(cutV xs lo hi).length<=xs.length:=by unfold cutV;rw [aV,bG];lia
def rSlT (K:W.Frag):V->Option Int->Option Int->Hp->VK->Prop:=fun x lo hi H Q=>∃ a xs,x=.ref a/\SqT K H a xs /\
 ¬ (HT.sIx xs.length 0 lo=0/\HT.sIx xs.length xs.length hi=xs.length)/\∀ p,H p=none->Q (.ref p) (upd H p (.tup (cutV xs lo hi)))
theorem zem:SlR X (rSlT X.K):=by
 intro pj s σ H x v vl vu lo hi sl Q I rx hs pl pu h;obtain ⟨a,xs,rfl,hx,hw,q⟩:=h;cases rx;obtain ⟨its,r,ht,hz⟩:=I.tuple hx;have hlen:its.toArray.size=xs.length:=by rw [ς];exact r.length.symm
 refine ⟨"tuple",_,ϧ.lookup,ht.typeIs,?_⟩;refine HT.vY ht hs pl pu (by rw [hlen];exact hw) ?_ (by rw [hlen];exact hz);rw [hlen];refine ⟨.ref s.heap.objs.size,_,I.laid (t':=s.toks) (o:=.tup (cutV xs lo hi)) (fun b ob q=>ξ _ q) (Η _) ?_,rfl,q _ (I.hok.fresh (Η _))⟩;exact ⟨ϕ (jA xs lo hi) hz,_,(r.drop (HT.sIx xs.length 0 lo)).take (HT.sIx xs.length xs.length hi - HT.sIx xs.length 0 lo),IsTup.new _ _⟩
def zhK (K:W.Frag):R2:=fun x y H Q=>∃ a b xs ys,x=.ref a/\y=.ref b/\SqT K H a xs/\SqT K H b ys/\xs≠[]/\xs.length+ys.length<=sizeLine /\
 (ys=[]->Q (.ref a) H)/\(ys≠[]->∀ p,H p=none->Q (.ref p) (upd H p (.tup (xs++ys))))
theorem Vals.Xb {xs:List V}{us:List δ}(r:Vals xs us):us=[] ↔ xs=[]:=by
 cases r with
 | nil=>simp
 | cons _ _=>simp
theorem zcH:OpR X (aL .Add) (zhK X.K):=by intro pj s σ H x y v u Q I rx ry h;obtain ⟨a,b,xs,ys,rfl,rfl,ha,hb,hx,hz,q1,q2⟩:=h;cases rx;cases ry;obtain ⟨its,r1,p1,_⟩:=I.tuple ha;obtain ⟨its2,r2,p2,_⟩:=I.tuple hb;refine HT.zdw p1 p2 (fun z=>hx (r1.Xb.mp z)) (fun z=>⟨.ref a,H,I,rfl,q1 (r2.Xb.mp z)⟩) (fun z=>?_) (by rw [<- r1.length,<- r2.length];exact hz);refine ⟨.ref s.heap.objs.size,_,I.laid (t':=s.toks) (o:=.tup (xs++ys)) (fun b ob q=>ξ _ q) (Η _) ?_,rfl,q2 (fun w=>z (r2.Xb.mpr w)) _ (I.hok.fresh (Η _))⟩;exact ⟨by rw [Ο];exact hz,_,r1.append r2,IsTup.new _ _⟩
end
noncomputable def ixN (n:Nat) (i:Int):Option Nat:=if 0<=i then (if i < n then some i.toNat else none) else if -(n:Int)<=i then some (i+n).toNat else none
noncomputable def atI {α:Type}(xs:List α) (i:Int):Option α:=(ixN xs.length i).bind fun j=>xs[j]?
theorem JM {n:Nat}{i:Int}{j:Nat}(h:ixN n i=some j):seqIndex? i n=some j/\j < n/\-(n:Int)<=i/\i < n:=by
 unfold ixN at h;by_cases h0:0<=i
 ·rw [if_pos h0] at h;by_cases h1:i < n
  ·rw [if_pos h1] at h;have e:i.toNat=j:=Λ h;exact ⟨by rw [seqIndex_of h0 h1,e],by lia,by lia,h1⟩
  ·rw [if_neg h1] at h;cases h
 ·rw [if_neg h0] at h;by_cases h1:-(n:Int)<=i
  ·rw [if_pos h1] at h;have e:(i+n).toNat=j:=Λ h;exact ⟨by rw [seqIndex_neg (by lia) h1,e],by lia,h1,by lia⟩
  ·rw [if_neg h1] at h;cases h
theorem XN {α:Type}{xs:List α}{i:Int}{v:α}(h:atI xs i=some v):∃ j,seqIndex? i xs.length=some j/\xs[j]?=some v/\j < xs.length/\-(xs.length:Int)<=i/\i < xs.length:=by
 unfold atI at h;cases e:ixN xs.length i with
 | none=>rw [e] at h;cases h
 | some j=>
  rw [e] at h;obtain ⟨h1,h2,h3,h4⟩:=JM e;exact ⟨j,h1,h,h2,h3,h4⟩
def XR (b:Expr):Prop:=∀ o i,subscripted b false o i=operate [o,i] (fV o i)
def IxR (X:Cx) (r:R2):Prop:=
 ∀ (value slice:Expr) (pj:List (Addr×Obj)) (s:ν) (σ:St) (H:Hp) (x y:V) (v u:δ) (Q:VK),Inv X pj σ H s->RelV x v->RelV y u->r x y H Q ->
  subscripted slice false v u=operate [v,u] (fV v u)->Θ (Ξ X.prog X.w) X.A (subscriptTail value slice v u) (EP X pj σ Q) X.xe s
def MtR (X:Cx) (id:String) (r:V->List V->Hp->VK->Prop):Prop:=
 ∀ (pj:List (Addr×Obj)) (s:ν) (σ:St) (H:Hp) (x:V) (xs:List V) (v:δ) (us:List δ) (Q:VK),Inv X pj σ H s->RelV x v->Vals xs us->r x xs H Q ->
  Θ (Ξ X.prog X.w) X.A (call (.builtin id) (v::us)) (EP X pj σ Q) X.xe s
section
variable {X:Cx}{a b:Expr}{ta tb:TE}{pos:Pos}
theorem IxR.or {r r':R2}(h:IxR X r) (h':IxR X r'):IxR X (fun x y H Q=>r x y H Q\/r' x y H Q):=by
 intro value slice pj s σ H x y v u Q I rx ry q hs;rcases q with q | q
 ·exact h value slice pj s σ H x y v u Q I rx ry q hs
 ·exact h' value slice pj s σ H x y v u Q I rx ry q hs
theorem MtR.or {id:String}{r r':V->List V->Hp->VK->Prop}(h:MtR X id r) (h':MtR X id r'):MtR X id (fun x xs H Q=>r x xs H Q\/r' x xs H Q):=by
 intro pj s σ H x xs v us Q I rx rs q;rcases q with q | q
 ·exact h pj s σ H x xs v us Q I rx rs q
 ·exact h' pj s σ H x xs v us Q I rx rs q
theorem zhO {r:R2}(hr:IxR X r) (ha:PE X a ta) (hb:PE X b tb) (hs:XR b):PE X (.Subscript a b pos) (tOp r ta tb):=by intro pj s σ H Q I h;exact Subscript_ (binT ha hb I h fun v u s2 x y H2 I2 rx ry q=>hr a b pj s2 σ H2 x y v u Q I2 rx ry q (hs _ _))
def rIxL (K:W.Frag):R2:=fun x y H Q=>∃ p xs i v,x=.ref p/\y=.int i/\SqL K H p xs/\atI xs i=some v/\Q v H
def rIxT (K:W.Frag):R2:=fun x y H Q=>∃ p xs i v,x=.ref p/\y=.int i/\SqT K H p xs/\atI xs i=some v/\Q v H
def rIxS:R2:=fun x y H Q=>∃ z i c,x=.str z/\y=.int i/\z.length<=sizeLine/\atI z.cps.toList i=some c/\Q (.str ⟨#[c]⟩) H
theorem JL:IxR X (rIxL X.K):=by
 intro value slice pj s σ H x y v u Q I rx ry h hs;obtain ⟨p,xs,i,z,rfl,rfl,hq,he,q⟩:=h;cases rx;obtain ⟨t,rfl⟩:=ry;obtain ⟨its,r,pl,hz⟩:=I.list hq;obtain ⟨j,h1,h2,h3,h4,h5⟩:=XN he;obtain ⟨w,ew,rw'⟩:=r.get h2;have hl:=r.length;have hn:=kE;have fin:EP X pj σ Q w s:=⟨z,H,I,rw',q⟩
 by_cases h0:0<=i
 ·have hj:i.toNat=j:=by rw [seqIndex_of h0 h5] at h1;exact Λ h1
  exact item_listR pl.isList h0 (by lia) (by rw [hj];simpa using ew) fin hs
 ·have hj:(i+(its.toArray.size:Int)).toNat=j:=by rw [seqIndex_neg (by lia) h4] at h1;rw [ς,<- hl];exact Λ h1
  exact lX (x:=w) pl.isList.typeIs slot_list_getitem.lookup
   (wpAny_getItem_list_neg (Q:=fun r s'=>r=w/\EP X pj σ Q r s') pl.isList (by lia) (by rw [ς] <;> lia) (by lia) (by rw [hj];simpa using ew) ⟨rfl,fin⟩) hs
theorem zfQ:IxR X (rIxT X.K):=by
 intro value slice pj s σ H x y v u Q I rx ry h hs;obtain ⟨p,xs,i,z,rfl,rfl,hq,he,q⟩:=h;cases rx;obtain ⟨t,rfl⟩:=ry;obtain ⟨its,r,pl,hz⟩:=I.tuple hq;obtain ⟨j,h1,h2,h3,h4,h5⟩:=XN he;obtain ⟨w,ew,rw'⟩:=r.get h2;have hl:=r.length;have hn:=kE;have fin:EP X pj σ Q w s:=⟨z,H,I,rw',q⟩
 exact lX (x:=w) pl.typeIs slot_tuple_getitem.lookup
  (getItem_tuple (j:=j) (Q:=fun r s'=>r=w/\EP X pj σ Q r s') pl (by lia) (by lia) (by rw [ς,<- hl];exact h1) (by simpa using ew) ⟨rfl,fin⟩) hs
theorem zfR:IxR X rIxS:=by
 intro value slice pj s σ H x y v u Q I rx ry h hs;obtain ⟨z,i,c,rfl,rfl,hz,he,q⟩:=h;obtain ⟨t,rfl⟩:=rx;obtain ⟨t',rfl⟩:=ry;obtain ⟨j,h1,h2,h3,h4,h5⟩:=XN he;have hl:z.cps.toList.length=z.length:=by simp [Str.length]
 rw [hl] at h1 h4 h5;have hn:=kE
 exact tail_any (lB s z t) slot_str_getitem.lookup (getItem_str (c:=c) (by
  have e1:decide (i < -(2 ^ 63:Int))=false:=decide_eq_false (by lia);have e2:decide (i >= 2 ^ 63)=false:=decide_eq_false (by lia)
  rw [e1,e2,Bool.or_false]) (by rw [h1];simpa using h2) ⟨.str ⟨#[c]⟩,H,I.tok _,⟨_,rfl⟩,q⟩) hs
theorem Vp (its:List δ) (n j:Nat) (u:δ):fM (·.setIfInBounds j u) { cls:=.type "list",data:=.seq its.toArray n }={ cls:=.type "list",data:=.seq (its.set j u).toArray n }:=by simp [fM]
theorem Inv.lst {pj:List (Addr×Obj)}{σ:St}{H:Hp}{s:ν}{p:Addr}{xs:List V}(I:Inv X pj σ H s) (h:H p=some (.lst xs)):
  ∃ (its:List δ) (n:Nat),Vals xs its/\s.heap.get? p=some { cls:=.type "list",data:=.seq its.toArray n }/\xs.length<=sizeLine:=by obtain ⟨z,its,n,r,e⟩:=I.hok p _ h;exact ⟨its,n,r,e,z⟩
theorem Inv.zfG {pj:List (Addr×Obj)}{σ:St}{H:Hp}{s:ν}{p:Addr}{xs ys:List V}{its its':List δ}{n n':Nat}{f:Obj->Obj}(I:Inv X pj σ H s) (h:H p=some (.lst xs))
  (ho:s.heap.get? p=some { cls:=.type "list",data:=.seq its.toArray n }) (hf:f { cls:=.type "list",data:=.seq its.toArray n }={ cls:=.type "list",data:=.seq its'.toArray n' }) (r:Vals ys its') (hz:ys.length<=sizeLine) (t:Nat):
  Inv X pj σ (upd H p (.lst ys)) { s with heap:=s.heap.update p f,toks:=t }:=by
 have e:(s.heap.update p f).get? p=some { cls:=.type "list",data:=.seq its'.toArray n' }:=by rw [bj f ho (by rw [hf] <;> rfl),hf]
 refine I.write (x:=p) (e:=p) (by rw [h];trivial) (.inl rfl) (fun b u hb q=>(Ϸ _ _ (bA hb)).trans q) ⟨_,e⟩ ?_;exact ⟨hz,its',n',r,e⟩
def zeR:V->V->V->Hp->(Hp->Prop)->Prop:=fun o i v H Q=>∃ p xs k j,o=.ref p/\i=.int k/\H p=some (.lst xs)/\ixN xs.length k=some j/\Q (upd H p (.lst (xs.set j v)))
theorem set_list:PSet X zeR:=by
 intro pj s σ H o i v ov iv u Q I ro ri rv h;obtain ⟨p,xs,k,j,rfl,rfl,hp,hj,q⟩:=h;cases ro;obtain ⟨t,rfl⟩:=ri;obtain ⟨its,n,r,ho,hz⟩:=I.lst hp;obtain ⟨h1,h2,h3,h4⟩:=JM hj;have hl:=r.length;have hn:=kE;have I':Inv X pj σ (upd H p (.lst (xs.set j v))) { s with heap:=s.heap.update p (fM (·.setIfInBounds j u)) }:=
  I.zfG hp ho (Vp its n j u) (r.set rv j) (by rw [ϥ];exact hz) s.toks
 by_cases h0:0<=k
 ·have hk:k.toNat=j:=by rw [seqIndex_of h0 h4] at h1;exact Λ h1
  exact W.ki_setAt ho h0 (by lia) (by rw [ς,<- hl];exact h4) (by rw [hk];exact ⟨_,I',q⟩)
 ·have hk:(k+(its.toArray.size:Int)).toNat=j:=by rw [seqIndex_neg (by lia) h3] at h1;rw [ς,<- hl];exact Λ h1
  exact W.ki_setBack ho (by lia) (by rw [ς,<- hl];exact h3) (by lia) (by rw [hk];exact ⟨_,I',q⟩)
theorem Zv (lo hi:Option Int) (n:Nat):(cO lo hi none n).1=((HT.sIx n 0 lo:Nat):Int)/\(cO lo hi none n).2.1=((HT.sIx n n hi:Nat):Int)/\(cO lo hi none n).2.2=1:=by
 refine ⟨?_,?_,rfl⟩
 ·cases lo with
  | none=>simp [cO,HT.sIx]
  | some i=>
   simp only [cO,HT.sIx,lU,show (1:Int) > 0 by decide,if_true];by_cases h:i < 0
   ·simp only [h,if_true] <;> lia
   ·simp only [h,if_false] <;> lia
 ·cases hi with
  | none=>simp [cO,HT.sIx]
  | some i=>
   simp only [cO,HT.sIx,lU,show (1:Int) > 0 by decide,if_true];by_cases h:i < 0
   ·simp only [h,if_true] <;> lia
   ·simp only [h,if_false] <;> lia
theorem qD (its:List δ) (lo hi:Option Int):slicePick its.toArray lo hi none=((its.drop (HT.sIx its.length 0 lo)).take (HT.sIx its.length its.length hi - HT.sIx its.length 0 lo)).toArray:=by obtain ⟨h1,h2,h3⟩:=Zv lo hi its.toArray.size;unfold slicePick;rw [h1,h2,h3];simp only [sliceRange_one,pick_run,ς] <;> rfl
def rSlL (K:W.Frag):V->Option Int->Option Int->Hp->VK->Prop:=fun x lo hi H Q=>∃ a xs,x=.ref a/\SqL K H a xs/\∀ p,H p=none->Q (.ref p) (upd H p (.lst (cutV xs lo hi)))
theorem Um:SlR X (rSlL X.K):=by intro pj s σ H x v vl vu lo hi sl Q I rx hs pl pu h;obtain ⟨a,xs,rfl,hx,q⟩:=h;cases rx;obtain ⟨its,r,ht,hz⟩:=I.list hx;have hlen:=r.length;refine ⟨"list",_,slot_list_getitem.lookup,ht.isList.typeIs,?_⟩;refine wpAny_getItem_list_slice ht.isList hs pl pu .none (by simp) ?_ (by rw [ς] <;> lia);rw [qD,<- hlen];refine ⟨.ref s.heap.objs.size,_,I.laid (t':=s.toks) (o:=.lst (cutV xs lo hi)) (fun b ob q=>ξ _ q) (Η _) ?_,rfl,q _ (I.hok.fresh (Η _))⟩;exact ⟨ϕ (jA xs lo hi) hz,_,0,(r.drop (HT.sIx xs.length 0 lo)).take (HT.sIx xs.length xs.length hi - HT.sIx xs.length 0 lo),Χ _ rfl⟩
noncomputable def zdc:V->Bool
 | .non=>true
 | .bl _=>true
 | .int _=>true
 | .str _=>true
 | _=>false
noncomputable def eqV:V->V->Bool
 | .non,.non=>true
 | .bl a,.bl b=>a==b
 | .bl a,.int b=>(if a then 1 else 0)==b
 | .int a,.bl b=>a==(if b then 1 else 0)
 | .int a,.int b=>a==b
 | .str a,.str b=>a==b
 | _,_=>false
theorem zbI {A:Ϗ}{s:ν}{y x:V}{u v:δ}(ry:RelV y u) (rx:RelV x v) (fy:zdc y=true) (fx:zdc x=true):Ϫ A s u v (eqV y x):=by
 cases y with
 | non=>
  cases ry;cases x with
  | non=>cases rx;exact Ϫ.same _
  | bl b=>cases rx;exact Ϫ.none_bool b
  | int b=>obtain ⟨t,rfl⟩:=rx;exact Ϫ.none_int b t
  | str b=>obtain ⟨t,rfl⟩:=rx;exact Ϫ.none_str b t
  | _=>exact absurd (show false=true from fx) Ν
 | bl a=>
  cases ry;cases x with
  | non=>cases rx;exact Ϫ.bool_none a
  | bl b=>cases rx;exact Ϫ.bool_bool a b
  | int b=>obtain ⟨t,rfl⟩:=rx;exact Ϫ.bool_int a b t
  | str b=>obtain ⟨t,rfl⟩:=rx;exact Ϫ.bool_str a b t
  | _=>exact absurd (show false=true from fx) Ν
 | int a=>
  obtain ⟨t',rfl⟩:=ry;cases x with
  | non=>cases rx;exact Ϫ.int_none a t'
  | bl b=>cases rx;exact Ϫ.int_bool a t' b
  | int b=>obtain ⟨t,rfl⟩:=rx;exact Ϫ.int_int a t' b t
  | str b=>obtain ⟨t,rfl⟩:=rx;exact iJ a t' b t
  | _=>exact absurd (show false=true from fx) Ν
 | str a=>
  obtain ⟨t',rfl⟩:=ry;cases x with
  | non=>cases rx;exact Ϫ.str_none a t'
  | bl b=>cases rx;exact Ϫ.str_bool a t' b
  | int b=>obtain ⟨t,rfl⟩:=rx;exact iI a t' b t
  | str b=>obtain ⟨t,rfl⟩:=rx;exact Ϫ.str_str a t' b t
  | _=>exact absurd (show false=true from fx) Ν
 | _=>exact absurd (show false=true from fy) Ν
theorem ZP:OpR X (Ω .NotIn) (fun x y H Q=>∃ i j,x=.str i/\y=.str j/\Q (.bl (!(!(Φ j i 0 j.length 1).isEmpty))) H):=by intro pj s σ H x y v u Q I rx ry h;obtain ⟨i,j,rfl,rfl,q⟩:=h;obtain ⟨t,rfl⟩:=rx;obtain ⟨t',rfl⟩:=ry;exact notIn_str ⟨.bl _,H,I,rfl,q⟩
theorem wg:yp X (.builtin "len") (fun xs H Q=>∃ p ys,xs=[.ref p]/\(SqL X.K H p ys\/SqT X.K H p ys)/\Q (.int ys.length) H):=by
 intro pj s σ H xs us Q I r h;obtain ⟨p,ys,rfl,hq,q⟩:=h;obtain ⟨u,rfl,rx⟩:=vals1 r;cases rx;have hn:=kE;rcases hq with hq | hq
 ·obtain ⟨its,r',pl,hz⟩:=I.list hq;have hlen:=r'.length;exact Calls.call_len_list pl.isList (by simp only [ς] <;> lia) ⟨.int ys.length,H,I.tok _,⟨s.toks+1,by rw [ς,hlen]⟩,q⟩
 ·obtain ⟨its,r',pl,hz⟩:=I.tuple hq;have hlen:=r'.length;exact len_tuple pl (by simp only [ς] <;> lia) ⟨.int ys.length,H,I.tok _,⟨s.toks+1,by rw [ς,hlen]⟩,q⟩
theorem Yv:yp X (.builtin "len") (fun xs H Q=>∃ z,xs=[.str z]/\z.length<=sizeLine/\Q (.int z.length) H):=by intro pj s σ H xs us Q I r h;obtain ⟨z,rfl,hz,q⟩:=h;obtain ⟨u,rfl,t,rfl⟩:=vals1 r;have hn:=kE;exact len_str (by lia) ⟨.int z.length,H,I.tok _,⟨_,rfl⟩,q⟩
theorem yp.or {f:δ}{r r':List V->Hp->VK->Prop}(h:yp X f r) (h':yp X f r'):yp X f (fun xs H Q=>r xs H Q\/r' xs H Q):=by
 intro pj s σ H xs us Q I rs q;rcases q with q | q
 ·exact h pj s σ H xs us Q I rs q
 ·exact h' pj s σ H xs us Q I rs q
theorem Yu:yp X (.type "list") (fun xs H Q=>∃ p ys,xs=[.ref p]/\(SqL X.K H p ys\/SqT X.K H p ys)/\∀ l,H l=none->Q (.ref l) (upd H l (.lst ys))):=by
 intro pj s σ H xs us Q I r h;obtain ⟨p,ys,rfl,hq,q⟩:=h;obtain ⟨u,rfl,rx⟩:=vals1 r;cases rx;have fin:∀ (its:List δ),Vals ys its->ys.length<=sizeLine->∀ (h':Heap) (c':Nat),(∀ b o',s.heap.get? b=some o'->h'.get? b=some o') ->
   h'.get? s.heap.objs.size=some { cls:=.type "list",dict:=none,data:=.seq its.toArray c',slots:=#[] }->EP X pj σ Q (.ref s.heap.objs.size) { s with heap:=h' }:=fun its r' hz h' c' kp e=>
  ⟨.ref s.heap.objs.size,_,I.laid (t':=s.toks) kp (Η _) (show yo X.prog X.w _ h' _ (.lst ys) from ⟨hz,its,c',r',e⟩),rfl,q _ (I.hok.fresh (Η _))⟩
 rcases hq with hq | hq
 ·obtain ⟨its,r',pl,hz⟩:=I.list hq;have hlen:=r'.length;obtain ⟨o,ho,hc,n,hd⟩:=pl.isList;exact call_list_seq p (.inl rfl) ho hc hd (fun h' c' kp e=>fin its r' hz h' c' kp e) (by simp only [ς] <;> lia)
 ·obtain ⟨its,r',pl,hz⟩:=I.tuple hq;have hlen:=r'.length;obtain ⟨o,ho,hc,n,hd⟩:=pl;exact call_list_seq p (.inr rfl) ho hc hd (fun h' c' kp e=>fin its r' hz h' c' kp e) (by simp only [ς] <;> lia)
def tyV (K:W.Frag) (T:String) (x:V) (H:Hp):Prop:=match x with
 | .str _=>T="str"
 | .int _=>T="int"
 | .ref p=>(T="list"/\∃ xs,SqL K H p xs)\/(∃ o,K.lookup p=some o/\o.cls=.type T/\o.dict=none) \/
   (T="dict"/\((∃ kvs,H p=some (.dK kvs))\/∃ kvs,H p=some (.dT kvs)))\/(T="set"/\∃ S n,H p=some (.set S n))
 | _=>False
theorem zdZ {pj:List (Addr×Obj)}{σ:St}{H:Hp}{s:ν}{T:String}{x:V}{v:δ}(I:Inv X pj σ H s) (r:RelV x v) (ty:tyV X.K T x H):
  s.TypeIs v T/\∀ a,v=.ref a->∃ ob,s.heap.get? a=some ob/\ob.dict=none:=by
 cases x with
 | str z=>
  obtain ⟨t,rfl⟩:=r;cases (show T="str" from ty);exact ⟨lB s z t,fun _ e=>nomatch e⟩
 | int i=>
  obtain ⟨t,rfl⟩:=r;cases (show T="int" from ty);exact ⟨typeIs_int s i t,fun _ e=>nomatch e⟩
 | ref p=>
  cases r;rcases ty with ⟨rfl,xs,hq⟩ | ⟨o,hk,hc,hd⟩ | ⟨rfl,hk⟩ | ⟨rfl,S,n,hk⟩
  ·obtain ⟨its,_,pl,_⟩:=I.list hq;refine ⟨pl.isList.typeIs,fun a e=>?_⟩;cases e;obtain ⟨o,n,e,c,hd,_⟩:=pl;exact ⟨o,e,hd⟩
  ·refine ⟨⟨o,I.kIn p o hk,hc⟩,fun a e=>?_⟩;cases e;exact ⟨o,I.kIn _ o hk,hd⟩
  ·have z:∃ o,s.heap.get? p=some o/\o.ExactDict:=by
    rcases hk with ⟨kvs,hk⟩ | ⟨kvs,hk⟩
    ·obtain ⟨_,_,_,_,o,_,_,e,ex,_⟩:=I.hok p _ hk;exact ⟨o,e,ex⟩
    ·obtain ⟨_,_,_,_,o,_,_,e,ex,_⟩:=I.hok p _ hk;exact ⟨o,e,ex⟩
   obtain ⟨o,e,ex⟩:=z;refine ⟨⟨o,e,ex.1⟩,fun a e2=>?_⟩;cases e2;exact ⟨o,e,ex.2.1⟩
  ·obtain ⟨o,_,_,_,e,ex,_⟩:=I.hok p _ hk;refine ⟨⟨o,e,ex.1⟩,fun a e2=>?_⟩;cases e2;exact ⟨o,e,ex.2.1⟩
 | _=>exact ϗ ty
def tBM (K:W.Frag) (T:String) (r:V->List V->Hp->VK->Prop) (to:TE) (t:TA):TE:=fun σ H Q=>to σ H fun x H1=>tyV K T x H1/\t σ H1 fun xs H2=>r x xs H2 Q
variable {o e:Expr}{es:List Expr}{to:TE}{t:TA}{name:Str}{apos cpos:Pos}{T id:String}{r:V->List V->Hp->VK->Prop}
theorem zfa (pa:PlainAttrs T) (slot:Slot T name id) (hty:typeOf (.builtin id)=pure (.type "method_descriptor")) (hm:MtR X id r) (ho:PE X o to) (ha:PA X (e::es) t)
  (hbase:bZ o name X.env (eval o X.env)=eval o X.env:=by rfl)
  (hfew:((bK cpos (ϐ (e::es) X.env)).all (fun x=>!x.1)&&(aM cpos (ϯ [] X.env)).all (fun x=>x.1.isSome)
  &&decide ((e::es).length+([]:List aq).length+(if ([]:List aq).isEmpty then 0 else 1) < 30))=true:=by rfl)
  (hline:(apos.endLine==cpos.line)=true:=by rfl) (hs:ϐ (e::es) X.env=(false,eval e X.env)::ϐ es X.env:=by rfl) (hplain:(bK cpos (ϐ es X.env)).any (·.1)=false:=by rfl):
  PE X (.Call (.Attribute o name apos) (e::es) [] cpos) (tBM X.K T r to t):=by intro pj s σ H Q I h;refine wpAny_Call_method_late hbase hfew hline rfl (thn (ho pj s σ H _ I h) fun v s1 ⟨x,H1,I1,r1,ty,q1⟩=>?_);obtain ⟨h1,h2⟩:=zdZ I1 r1 ty;refine ⟨T,id,pa,slot,hty,h1,h2,?_⟩;have hA:=ha cpos pj s1 σ H1 _ I1 q1;rw [hs] at hA ⊢;refine Calls.callWith_builtin (by show (false||(bK cpos (ϐ es X.env)).any (·.1))=false;rw [hplain] <;> rfl) (lF ?_);exact thn hA fun us s2 ⟨vs,H2,I2,r2,q2⟩=>hm pj s2 σ H2 x vs v us Q I2 r1 r2 q2
end
def MtM (X:Cx) (id:String) (r:V->List V->Hp->VK->Prop):Prop:=
 ∀ (pj:List (Addr×Obj)) (s:ν) (σ:St) (H:Hp) (x:V) (xs:List V) (v:δ) (us:List δ) (Q:VK),Inv X pj σ H s->RelV x v->Vals xs us->r x xs H Q ->
  Θ (Ξ X.prog X.w) X.A (call (.builtin id) (v::us)) (EP X pj σ Q) X.xe s
theorem Vals.one:∀ {x:V}{us:List δ},Vals [x] us->∃ u,us=[u]/\RelV x u
 | _,_,.cons r .nil=>⟨_,rfl,r⟩
theorem Vals.two:∀ {x y:V}{us:List δ},Vals [x,y] us->∃ u v,us=[u,v]/\RelV x u/\RelV y v
 | _,_,_,.cons r (.cons q .nil)=>⟨_,_,rfl,r,q⟩
section
variable {X:Cx}{pj:List (Addr×Obj)}{σ:St}{H:Hp}{s:ν}{l b:Addr}{xs ys zs:List V}
theorem Inv.lset {its its':List δ}{n:Nat}{f:Array δ->Array δ}{t':Nat}(I:Inv X pj σ H s) (hH:H l=some (.lst xs))
  (e:s.heap.get? l=some { cls:=.type "list",data:=.seq its.toArray n }) (hf:f its.toArray=its'.toArray) (hv:Vals ys its') (hz:ys.length<=sizeLine):
  Inv X pj σ (upd H l (.lst ys)) { s with heap:=s.heap.update l (fM f),toks:=t' }:=by have q:=PySem.IsL.update e f;rw [hf] at q;refine I.write (x:=l) (e:=l) (by rw [hH];exact trivial) (.inl rfl) (fun b' u hb hu=>(Ϸ s.heap (fM f) (bA hb)).trans hu) ⟨_,q⟩ ?_;exact ⟨hz,its',_,hv,q⟩
theorem Inv.lnew {its:List δ}{t':Nat}(I:Inv X pj σ H s) (hv:Vals ys its) (hz:ys.length<=sizeLine):
  Inv X pj σ (upd H s.heap.objs.size (.lst ys)) { s with heap:=s.heap.push { cls:=.type "list",data:=.seq its.toArray },toks:=t' }:=
 I.laid (fun _ _ q=>ξ _ q) (Η _) ⟨hz,its,0,hv,Χ _ rfl⟩
theorem Inv.fresh (I:Inv X pj σ H s):H s.heap.objs.size=none:=I.hok.fresh (Η _)
theorem Inv.lstM (I:Inv X pj σ H s) (hH:H l=some (.lst xs)):xs.length<=sizeLine/\∃ (its:List δ) (n:Nat),Vals xs its/\xs.length=its.length/\s.heap.get? l=some { cls:=.type "list",data:=.seq its.toArray n }:=by obtain ⟨z,its,n,r,e⟩:=I.hok l _ hH;exact ⟨z,its,n,r,r.length,e⟩
end
section
variable {X:Cx}
def zco:V->List V->Hp->VK->Prop:=fun x vs H Q=>∃ l xs y,x=.ref l/\vs=[y]/\H l=some (.lst xs)/\xs.length < sizeLine/\Q .non (upd H l (.lst (xs++[y])))
theorem Z0:MtM X "list.append" zco:=by intro pj s σ H x vs v us Q I rx rv h;obtain ⟨l,xs,y,rfl,rfl,hH,hz,q⟩:=h;cases rx;obtain ⟨u,rfl,ru⟩:=rv.one;obtain ⟨z,its,n,r,hl,e⟩:=I.lstM hH;refine call_meets F.slot_list_append ⟨_,e,rfl⟩ F.entry_list_append (F.args_list_append_2 _ _) (PySem.list_append l its.toArray n u (by rw [ς];lia)) ⟨e,?_⟩;refine ⟨.non,_,I.lset (its':=its++[u]) hH e (by simp) (r.append (.cons ru .nil)) ?_,rfl,q⟩;rw [Ο,List.length_singleton];lia
end
end L2
namespace Att
open PySem PySem.W PySem.Calls PyProof.Rows
theorem jw {P:Params}{h:Heap}:∀ (ns:List Int) (vs:List δ),WellAll P h vs (ns.map WData.int)->IntsAre vs ns:=by
 intro ns
 induction ns with
 | nil=>
  intro vs w;rw [List.map_nil] at w;cases w;exact .nil
 | cons n ns ih=>
  intro vs w;rw [ϳ] at w;cases w with
  | cons a b=>
   cases a;exact .cons _ _ (ih _ b)
theorem Uo {l:OpenLaw}{n:Nat}(hn:l.most=some n) {P:Params}{h:Heap}{args:List WData}{vals:List δ}
  (hpre:l.row.toRowW.claim.pre args=true) (hwl:WellAll P h vals args):
  ∃ a vs ns,vals=[Ε a]/\args=[WData.list (ns.map WData.int)]/\h.get? a=some { cls:=.type "list",data:=.seq vs.toArray }/\IntsAre vs ns/\ns.length<=n:=by
 have hsh:WShape.hasAll [] args [.list .int]=true:=(pre_splitW hpre).1;have hc:l.pre.holds [] { args:=args }=true:=(pre_splitW hpre).2;obtain ⟨d,r,rfl,h1,h2⟩:=hasAllW_cons hsh;obtain rfl:=hasAllW_nil h2;obtain ⟨xs,rfl,h3⟩:=hasW_list h1;obtain ⟨ns,rfl⟩:=items_int h3;have hlen:ns.length<=n:=by
  unfold OpenLaw.pre at hc;have h4:(WTm.not (.lt (.lit (.int (n:Int))) (.len (.arg 0)))).holds [] { args:=[.list (ns.map .int)] }=true:=by have h4:=(holds_andW hc).1;rw [hn] at h4;exact h4
  have h5:=condW_of h4 (w_not (w_lt w_lit (w_len_list (w_arg rfl))));rw [ώ] at h5;refine gK fun q=>?_
  have q':(n:Int) < ((ns.length:Nat):Int):=by omega
  first
   | (rw [decide_eq_true q'] at h5;exact absurd h5 (by decide))
   | (simp at h5;omega)
 cases hwl with
 | cons w1 w2=>
  cases w2;cases w1 with
  | list ho hall=>exact ⟨_,_,ns,rfl,rfl,ho,jw ns _ hall,hlen⟩
theorem U0 (l:OpenLaw) (args:List WData):l.row.toRowW.claim.post args (.bool true) args=true:=
 postW_of (r:=l.row.toRowW) (X:=(true==true))
  (show WShape.has [] (.bool true) .bool=true by first | rfl | decide | simp [WShape.has,WShape.arms,WShape.armsAll])
  (show (WTm.eq .res (.lit (.bool true))).value [] { args:=args,res:=some (.bool true),after:=args }=some (.bool (true==true)) from w_eq_bool (w_res rfl) w_lit) rfl
theorem XM {l:OpenLaw}{n:Nat}{q:Τ}{loose:List Str}{XP:(Str->Option δ)->Heap->Prop}{YP:ϙ->Heap->Prop}{d:DefRec}
  (hn:l.most=some n) (hdf:d.params.defaults=[])
  (call:∀ (w:ϙ) (sy s₁:ν) (mg mb:Str->Option δ) (fa:Addr) (o:Obj) (pm cd doc:δ) (a:Addr) (vs:List δ) (ns:List Int),
   Ground q loose [] XP w sy mg mb s₁.heap->YP w s₁.heap ->
   s₁.heap.get? fa=some o->o.data=.func (docDef d.name d.params d.body d.scope pm cd doc)->s₁.heap.CodeRec cd d.name->mg d.name=some (.ref fa) ->
   s₁.heap.get? a=some { cls:=.type "list",data:=.seq vs.toArray }->IntsAre vs ns->ns.length<=n->s₁.gens=#[] ->
   fW (Ξ l.prog w) callerA (.call (.ref fa) ⟨[.ref a],[]⟩) (fun r s'=>r=.ok (.ret (.bool true))/\OldK s₁.heap s'.heap/\s'.os=s₁.os/\dC s'.gens) s₁):
  WalkO q loose XP YP l.row.toRowW d [] (fun f vs=>PySem.call f vs):=by intro w sy s₁ mg mb G Y fa o pm cd doc dV kV ho hd hcd hD hmg hg args vals as hpre hlay hrd hwl hlo;obtain rfl:dV=.none:=Dflts.none hD hdf;obtain rfl:kV=.none:=Dflts.noKw hD;obtain ⟨a,vs,ns,rfl,rfl,hobj,hints,hlen⟩:=Uo hn hpre hwl;refine enter_call (cV (call w sy s₁ mg mb fa o pm cd doc a vs ns G Y ho (fd_plain hd) hcd hmg hobj hints hlen hg) fun r s' hq=>?_);obtain ⟨rfl,h2,h3,h4⟩:=hq;exact ⟨.inl ⟨.bool true,.bool true,[],rfl,fun _=>rfl,.bool true,U0 l _,fun _=>⟨List.Pairwise.nil,fun _ hm=>(nomatch hm)⟩⟩,h2,h3,h4⟩
end Att
namespace L2
open PySem PySem.Spec PyProof.Rows
theorem Zq:∀ {vs:List δ}{ns:List Int},IntsAre vs ns->Vals (ns.map V.int) vs
 | _,_,.nil=>.nil
 | _,_,.cons n t h=>.cons ⟨t,rfl⟩ (Zq h)
def Only (H:Hp):Prop:=∀ b,H b=none\/∃ o xs,H b=some (.frz o (.lst xs))
theorem zaf {P:Τ}{w:ϙ}{K:W.Frag}{mg mb:Str->Option δ}{CX:CXT}{k:Nat}{fa a:Addr}{fd:aG}{x:Str}{sp:Sp}{s₁:ν}{vs:List δ}{ns:List Int}
  (KX:K.In s₁.heap) (hns:s₁.heap.Ns ϋ mg) (hb:s₁.heap.Ns builtinsNs mb) (hbb:∀ x:Str,x≠"__name__"->mb x=bu x) (hlim:s₁.heap.NoLimit) (hg:s₁.gens=#[])
  (ha:s₁.heap.get? a=some { cls:=.type "list",data:=.seq vs.toArray }) (hi:IntsAre vs ns) (hl:ns.length<=sizeLine) (hr:Room k callerA)
  (F:∀ base:Heap,K.In base->base.Ns ϋ mg->FnOk P w K mg base CX k fa fd [x] sp) (hbind:∀ (s:ν) (u:δ),BindsTo s fd ⟨[u],[]⟩ [(x,u)])
  (hsp:∀ H:Hp,Only H->SqL K H a (ns.map V.int)->sp [.ref a] H (fun v _=>v=.bl true) fun _ _ _=>False)
  (hCX:∀ H e s',CX [] H s₁ (fun _ _ _=>False) e s'->False):
  fW (Ξ P w) callerA (.call (.ref fa) ⟨[.ref a],[]⟩) (fun r s'=>r=.ok (.ret (.bool true))/\OldK s₁.heap s'.heap/\s'.os=s₁.os/\dC s'.gens) s₁:=by
 have rv:=Zq hi;have lenV:=hi.length;have core:∀ H:Hp,Only H->SqL K H a (ns.map V.int)->HOk P w H s₁.heap->(∀ b,H b≠none->b=a)->(H a≠none->K.lookup a=none) ->
   fW (Ξ P w) callerA (.call (.ref fa) ⟨[.ref a],[]⟩) (fun r s'=>r=.ok (.ret (.bool true))/\OldK s₁.heap s'.heap/\s'.os=s₁.os/\dC s'.gens) s₁:=by
  intro H hO hS hok hA hK;have wW:∀ {b:Addr}{o:Obj},s₁.heap.get? b=some o->H b=none->(hidT s₁.heap H).get? b=some o:=fun e n=>zai e n
  have noA:∀ {b:Addr}{o:Obj}{es:Array iH}{ep:Nat},s₁.heap.get? b=some o->o.data=.dict es ep->H b=none:=fun {b o es ep} e d=>by
   cases q:H b with
   | none=>rfl
   | some u=>
    have e':b=a:=hA b (by rw [q];simp);subst e';rw [ha] at e;cases e;have d':Data.seq vs.toArray _=Data.dict es ep:=d;cases d'
  have nsK:∀ {b:Addr}{m:Str->Option δ},s₁.heap.Ns b m->(hidT s₁.heap H).Ns b m:=fun {b m} ⟨o,es,ep,e,d,r⟩=>⟨o,es,ep,wW e (noA e d),d,r⟩
  have hKb:K.In (hidT s₁.heap H):=fun b o e=>wW (KX b o e) (by
   cases q:H b with
   | none=>rfl
   | some u=>
    have e':b=a:=hA b (by rw [q];simp);subst e'
    rw [hK (by rw [q];simp)] at e;cases e)
  have hM:Mod K mg (hidT s₁.heap H):=⟨hKb,nsK hns,⟨mb,nsK hb,hbb⟩,let ⟨mc,h1,h2⟩:=hlim;⟨mc,nsK h1,h2⟩⟩
  have e0:Env0 P w K mg (hidT s₁.heap H) callerA [] s₁ H:=⟨rfl,hM,fun b o e=>zcJ e,dH (J0 _ _),trivial,fun b hb=>absurd (show b∈([]:List Addr) from hb) (by simp),hok,.of_eq hg⟩
  refine cV ((F _ hKb (nsK hns)).run callerA [] s₁ H ⟨[.ref a],[]⟩ [.ref a] [.ref a] _ _ hr e0 (hbind s₁ (.ref a)) (.cons rfl .nil) (hsp H hO hS)) fun r s' h=>?_
  cases r with
  | error e=>exact (hCX H e s' h).elim
  | ok fl=>
   cases fl with
   | next=>exact ϗ h
   | brk=>exact ϗ h
   | cont=>exact ϗ h
   | ret u=>
    obtain ⟨v,H',os,bare,un,hok',r',q⟩:=h;have q':v=.bl true:=q;subst q';obtain rfl:u=Ϣ true:=r';refine ⟨rfl,OldK.of_keep fun b o e=>?_,os,bare⟩;cases q:H b with
    | none=>exact un.keep b o e q (by intro z;exact absurd (show b∈([]:List Addr) from z) (by simp)) (by simp)
    | some u=>
     rcases hO b with z | ⟨ob,xs,z⟩
     ·rw [q] at z;cases z
     ·have z2:=un.frzs b ob _ z;obtain ⟨e1,_⟩:=hok b _ z;obtain ⟨e2,_⟩:=hok' b _ z2;rw [e] at e1;cases e1;exact e2
 cases hk:K.lookup a with
 | some o=>
  have e:=KX a o hk;rw [ha] at e;cases e;refine core (fun _=>none) (fun _=>.inl rfl) (.inr ⟨_,vs.toArray,_,hk,rfl,rfl,rfl,by rw [ς,lenV];exact hl,by simpa using rv⟩) (fun b u z=>by have z':(none:Option HO)=some u:=z;cases z') (fun b z=>absurd rfl z) fun z=>absurd rfl z
 | none=>
  refine core (fun b=>if b=a then some (.frz { cls:=.type "list",data:=.seq vs.toArray } (.lst (ns.map V.int))) else none) (fun b=>?_) (.inl (.inr ⟨{ cls:=.type "list",data:=.seq vs.toArray },if_pos rfl⟩)) (fun b u z=>?_) (fun b z=>?_) fun _=>hk
  ·by_cases hb:b=a
   ·exact .inr ⟨_,_,if_pos hb⟩
   ·exact .inl (if_neg hb)
  ·by_cases hb:b=a
   ·have z':=(if_pos hb).symm.trans z;cases z';subst hb;exact ⟨ha,by rw [ώ];exact hl,vs,_,rv,ha⟩
   ·have z':=(if_neg hb).symm.trans z;cases z'
  ·by_cases hb:b=a
   ·exact hb
   ·exact absurd (if_neg hb) z
abbrev CX0:CXT:=fun _ _ _ _ _ _=>False
abbrev E0:XK:=fun _ _ _=>False
structure Fun (K:W.Frag) (x qual:Str) (st:Stmt) (f:Addr) (fd:aG):Prop where
 ex:∃ (oc:δ) (od:Option Addr) (kV doc pm:δ) (an:Option Addr) (cdv ct:δ) (osl:Array (Option δ)),
  fd=W.fnOf x qual (yQ st) (yz st) (zO st) .none kV doc pm an cdv ct/\K.lookup f=some ⟨oc,od,.func fd,osl⟩/\W.codeIn K cdv qual=true
 kp:W.keepIn K (.ref f)=true
section
variable {P:Τ}{w:ϙ}{K:W.Frag}{mg:Str->Option δ}{base:Heap}
theorem Fun.ok {x qual:Str}{st:Stmt}{f:Addr}{fd:aG}{N ps:List Str}{k:Nat}{sp:Sp}(F:Fun K x qual st f fd) (S:Zk N ps (zO st)) (len:∀ vs H Q E,sp vs H Q E->vs.length=ps.length)
  (hbody:∀ (cdv:δ) (A:Ϗ) (outer:List Env) (s:ν) (H:Hp) (vs:List V) (Q:VK) (E:XK),Room k (A.deeper (gG qual (zO st) s.heap.objs.size f cdv))->sp vs H Q E ->
   ∃ t,PSs (cxOf CX0 P w K mg base N qual (zO st) f cdv A outer s H E).nox (yz st) t/\t { nx:=fun _ H'=>Q .non H',rt:=Q } (start N vs) H):FnOk P w K mg base CX0 (k+1) f fd ps sp:=by
 obtain ⟨oc,od,kV,doc,pm,an,cdv,ct,osl,rfl,lk,hcd⟩:=F.ex;refine zgi lk hcd S len fun A outer s H vs Q E hr hsp=>?_
 obtain ⟨t,h,q⟩:=hbody cdv A outer s H vs Q E hr hsp;exact ⟨t,h.nox,q⟩
theorem Fun.binds {x qual:Str}{st:Stmt}{f:Addr}{fd:aG}{ps:List Str}(F:Fun K x qual st f fd)
  (h:∀ (kV doc pm:δ) (an:Option Addr) (cdv ct:δ) (us:List δ),us.length=ps.length->bindArgs (W.fnOf x qual (yQ st) (yz st) (zO st) .none kV doc pm an cdv ct) ⟨us,[]⟩=pure (ps.zip us)):Binds K fd ps []:=by obtain ⟨oc,od,kV,doc,pm,an,cdv,ct,osl,rfl,lk,hcd⟩:=F.ex;exact .all (h kV doc pm an cdv ct)
theorem zgg {x qual:Str}{st:Stmt}{f:Addr}{oc:δ}{od an:Option Addr}{osl:Array (Option δ)}{kV doc pm cdv ct:δ}(l:K.lookup f=some ⟨oc,od,.func (W.fnOf x qual (yQ st) (yz st) (zO st) .none kV doc pm an cdv ct),osl⟩)
  (c:W.codeIn K cdv qual=true) (k:W.keepIn K (.ref f)=true):Fun K x qual st f (W.fnOf x qual (yQ st) (yz st) (zO st) .none kV doc pm an cdv ct):=⟨⟨oc,od,kV,doc,pm,an,cdv,ct,osl,rfl,l,c⟩,k⟩
end
theorem iteF {A B:Prop}(h:B):if false=true then A else B:=by rw [if_neg Ν];exact h
theorem iteT {A B:Prop}(h:A):if true=true then A else B:=by rw [if_pos rfl];exact h
def Same (H H':Hp):Prop:=∀ b o,H b=some o->H' b=some o
theorem Same.refl (H:Hp):Same H H:=fun _ _ h=>h
theorem Same.trans {H H1 H2:Hp}(a:Same H H1) (b:Same H1 H2):Same H H2:=fun c o h=>b c o (a c o h)
theorem Same.free {H H':Hp}(e:Same H H') {l:Addr}(h:H' l=Option.none):H l=Option.none:=by
 cases q:H l with
 | none=>rfl
 | some o=>
  rw [e l o q] at h;cases h
theorem Same.seq {K:W.Frag}{H H':Hp}{a:Addr}{xs:List V}(e:Same H H') (h:SqL K H a xs):SqL K H' a xs:=by
 rcases h with (h | ⟨o,h⟩) | h
 ·exact .inl (.inl (e _ _ h))
 ·exact .inl (.inr ⟨o,e _ _ h⟩)
 ·exact .inr h
theorem yr {prog:Τ}{w:ϙ}{A:Ϗ}{E:VSP}{s:ν}{it l:Addr}{i:Nat}{items:Array δ}{x:δ}{Q:VSP}(hit:s.heap.IsTupleIter it l i) (hl:s.heap.IsTuple l items) (hx:items[i]?=some x)
  (hQ:∀ h':Heap,h'.IsTupleIter it l (i+1)->Ϯ it s.heap h'->Q x { s with heap:=h' }):Θ (Ξ prog w) A (dX (.ref it)) Q E s:=by obtain ⟨o,ho,hc,hd⟩:=id hit;obtain ⟨ol,hol,left,nl,hdl⟩:=hl;refine ε (aC hit.typeIs F.slot_tuple_iterator_next (bM F.slot_tuple_iterator_next hit.typeIs F.entry_tuple_iterator_next ?_ (F.args_tuple_iterator_next_1 (.ref it))));refine ε ?_;rw [show slotArgs "__next__" 0 { pos:=[Ε it] }=pure (Ε it,[]) from rfl];refine π ?_;refine ε (Ϥ ho hd rfl ?_);refine ε (Ϥ ho hd rfl ?_);refine ε (aY hol hdl ?_);have hx':items[((i:Int)).toNat]?=some x:=hx;simp only [hx'];refine ε (dh ho hd (by simp) (π ⟨x,rfl,π (hQ _ ⟨_,bj _ ho (cA (aZ hd _)),(Obj.cls_mapFields o _).trans hc,?_⟩ (gY s.heap it _))⟩));rw [aZ hd];simp [d8]
theorem xN {prog:Τ}{w:ϙ}{A:Ϗ}{E:VSP}{s:ν}{it l:Addr}{i:Nat}{items:Array δ}{Q:VSP}(hh:A.handled=none) (hit:s.heap.IsTupleIter it l i) (hl:s.heap.IsTuple l items) (hx:items[i]?=none)
  (hE:∀ (h':Heap) (e:Addr),Heap.ExtBut it s.heap h'->(∃ o,h'.get? e=some o/\o.cls=cP "StopIteration")->E (Ε e) { s with heap:=h' }):Θ (Ξ prog w) A (dX (.ref it)) Q E s:=by
 obtain ⟨o,ho,hc,hd⟩:=id hit;obtain ⟨ol,hol,left,nl,hdl⟩:=hl;refine ε (aC hit.typeIs F.slot_tuple_iterator_next (bM F.slot_tuple_iterator_next hit.typeIs F.entry_tuple_iterator_next ?_ (F.args_tuple_iterator_next_1 (.ref it))));refine ε ?_;rw [show slotArgs "__next__" 0 { pos:=[Ε it] }=pure (Ε it,[]) from rfl];refine π ?_;refine ε (Ϥ ho hd rfl ?_);refine ε (Ϥ ho hd rfl ?_);refine ε (aY hol hdl ?_);have hx':items[((i:Int)).toNat]?=none:=hx;simp only [hx'];refine ε (di (ε (dh ho hd (by simp) ?_)));refine ε ?_;refine ε (aj ?_);refine ε (wpAny_of_eq rfl (aj ?_));refine ε (wpAny_handled ?_);rw [show A.in1.handled=none from hh];refine wpAny_throw (hE _ _ (fun b o' hb hg=>?_) ⟨_,Χ _ rfl,rfl⟩)
 ·exact ξ _ (ξ _ (by rw [(gY s.heap it _).2 b hb];exact hg))
def TIt (h:Heap) (i l:Addr) (k:Nat) (xs:Array δ):Prop:=h.IsTupleIter i l k/\h.IsTuple l xs
theorem TIt.kp {h h':Heap}{i l z:Addr}{k:Nat}{xs:Array δ}(t:TIt h i l k xs) (e:Heap.ExtBut z h h') (a:i≠z) (b:l≠z):TIt h' i l k xs:=by obtain ⟨⟨o,o1,o2⟩,p,p1,p2⟩:=t;exact ⟨⟨o,e i o a o1,o2⟩,p,e l p b p1,p2⟩
theorem TIt.it {h h':Heap}{i l:Addr}{k m:Nat}{xs:Array δ}(t:TIt h i l k xs) (hi:h'.IsTupleIter i l m) (e:Ϯ i h h') (b:l≠i):TIt h' i l m xs:=by obtain ⟨_,p,p1,p2⟩:=t;exact ⟨hi,p,e.extBut l p b p1,p2⟩
section
variable {prog:Τ}{w:ϙ}{A:Ϗ}{E:VSP}{s:ν}{z TI TO i1 i2 l1 l2:Addr}{k1 k2:Nat}{xs ys:Array δ}{x y a b:δ}
theorem VR {Q:Option δ->ν->Prop}(D:ZipApart z TI TO i1 i2 l1 l2) (hz:fO s.heap z TI TO .none) (hTI:bY s.heap TI (.ref i1) (.ref i2)) (hTO:bY s.heap TO a b)
  (t1:TIt s.heap i1 l1 k1 xs) (t2:TIt s.heap i2 l2 k2 ys) (hx:xs[k1]?=some x) (hy:ys[k2]?=some y)
  (hQ:∀ h',fO h' z TI TO (d8 s.heap.objs.size)->bY h' TO x y->TIt h' i1 l1 (k1+1) xs->TIt h' i2 l2 (k2+1) ys->bY h' s.heap.objs.size x y->h'.objs.size=s.heap.objs.size+1 ->
   (∀ c o,c≠z->c≠TO->c≠i1->c≠i2->s.heap.get? c=some o->h'.get? c=some o)->Q (some (.ref s.heap.objs.size)) { s with heap:=h' }):
  Θ (Ξ prog w) A (pyNext (.ref z)) Q E s:=by
 have ty:s.TypeIs (.ref z) "zip":=⟨_,hz,rfl⟩
 refine ε (wpAny_attempt (aC ty F.slot_zip_next (bM F.slot_zip_next ty F.entry_zip_next ?_ (F.args_zip_next_1 _))));refine ε ?_;rw [show slotArgs "__next__" 0 { pos:=[Ε z] }=pure (Ε z,[]) from rfl];refine π ?_;refine ε (Ϥ hz rfl (x:=.bool false) rfl ?_);refine ε (Ϥ hz rfl (x:=.ref TI) rfl ?_);refine ε (aY hTI rfl ?_);refine ε ?_;refine ε (Ϥ hz rfl (x:=.none) rfl (π ?_));simp only [if_true];refine ε (di (ε (Ϥ hz rfl (x:=.ref TO) rfl ?_)));refine ε (cg hz (by simp) fun g1 q1 e1=>?_);have q1:fO g1 z TI TO .ellipsis:=q1;refine ε ?_;simp only [List.zipIdx_cons,List.zipIdx_nil,gP,List.forIn_nil];have a1:=t1.kp e1.extBut D.i1z D.l1z;refine ε (ε (cM (ε (yr a1.1 a1.2 hx fun g2 n2 e2=>π ?_))));have b1:=a1.it n2 e2 D.l1i1;have p2:bY g2 TO a b:=e2.extBut _ _ D.TOi1 (e1.extBut _ _ D.TOz hTO);refine ε (aY p2 rfl (ε (fG p2 fun g3 p3 e3=>?_)));have p3:bY g3 TO x b:=p3;refine ε (wpAny_letGo (π ?_));have a2:=((t2.kp e1.extBut D.i2z D.l2z).kp e2.extBut D.i12.symm D.l2i1).kp e3.extBut D.TOi2.symm D.l2TO;refine ε (ε (cM (ε (yr a2.1 a2.2 hy fun g4 n4 e4=>π ?_))));have b2:=a2.it n4 e4 D.l2i2;have p4:bY g4 TO x b:=e4.extBut _ _ D.TOi2 p3;refine ε (aY p4 rfl (ε (fG p4 fun g5 p5 e5=>?_)));have p5:bY g5 TO x y:=p5;refine ε (wpAny_letGo (π (π ?_)));refine ε (aY p5 rfl (ε (wpAny_newTuple ?_ (by rw [fH];simp))));have sz:g5.objs.size=s.heap.objs.size:=by rw [e5.1,e4.1,e3.1,e2.1,e1.1]
 have q5:fO g5 z TI TO .ellipsis:=e5.extBut _ _ D.TOz.symm (e4.extBut _ _ D.i2z.symm (e3.extBut _ _ D.TOz.symm (e2.extBut _ _ D.i1z.symm q1)));have kp:∀ c o,c≠z->c≠TO->c≠i1->c≠i2->s.heap.get? c=some o->g5.get? c=some o:=fun c o c1 c2 c3 c4 e=>e5.extBut _ _ c2 (e4.extBut _ _ c4 (e3.extBut _ _ c2 (e2.extBut _ _ c3 (e1.extBut _ _ c1 e))))
 have c1:=((b1.kp e3.extBut D.TOi1.symm D.l1TO).kp e4.extBut D.i12 D.l1i2).kp e5.extBut D.TOi1.symm D.l1TO;have c2:=b2.kp e5.extBut D.TOi2.symm D.l2TO;refine ε ?_;have q6:fO (g5.push { cls:=.type "tuple",data:=.seq #[x,y] }) z TI TO .ellipsis:=ξ _ q5;refine ε (cg q6 (by simp) fun g7 q7 e7=>?_);have q7:fO g7 z TI TO (d8 g5.objs.size):=q7;refine cg q7 (by simp) fun g8 q8 e8=>?_
 have q8:fO g8 z TI TO (d8 g5.objs.size):=q8;have up:Heap.ExtBut z g5 g8:=fun c o n e=>e8.extBut _ _ n (e7.extBut _ _ n (ξ _ e))
 have zl:g5.objs.size≠z:=gq (Δ q5);have np:bY g8 g5.objs.size x y:=e8.extBut _ _ zl (e7.extBut _ _ zl (Χ _ rfl));have s8:g8.objs.size=g5.objs.size+1:=by rw [e8.1,e7.1,ϭ]
 rw [sz] at q8 np s8;refine π ⟨_,rfl,π ?_⟩;show Q (some (.ref g5.objs.size)) _
 rw [sz];exact hQ g8 q8 (up _ _ D.TOz p5) (c1.kp up D.i1z D.l1z) (c2.kp up D.i2z D.l2z) np s8 fun c o n1 n2 n3 n4 e=>up c o n1 (kp c o n1 n2 n3 n4 e)
theorem Qh {Q:Option δ->ν->Prop}(hh:A.handled=none) (D:ZipApart z TI TO i1 i2 l1 l2) (hz:fO s.heap z TI TO .none) (hTI:bY s.heap TI (.ref i1) (.ref i2)) (hTO:bY s.heap TO a b)
  (t1:TIt s.heap i1 l1 k1 xs) (t2:TIt s.heap i2 l2 k2 ys) (he:xs[k1]?=none\/ys[k2]?=none)
  (hQ:∀ h',(∀ c o,c≠z->c≠TO->c≠i1->c≠i2->s.heap.get? c=some o->h'.get? c=some o)->Q none { s with heap:=h' }):
  Θ (Ξ prog w) A (pyNext (.ref z)) Q E s:=by
 have ty:s.TypeIs (.ref z) "zip":=⟨_,hz,rfl⟩
 refine ε (wpAny_attempt (aC ty F.slot_zip_next (bM F.slot_zip_next ty F.entry_zip_next ?_ (F.args_zip_next_1 _))));refine ε ?_;rw [show slotArgs "__next__" 0 { pos:=[Ε z] }=pure (Ε z,[]) from rfl];refine π ?_;refine ε (Ϥ hz rfl (x:=.bool false) rfl ?_);refine ε (Ϥ hz rfl (x:=.ref TI) rfl ?_);refine ε (aY hTI rfl ?_);refine ε ?_;refine ε (Ϥ hz rfl (x:=.none) rfl (π ?_));simp only [if_true];refine ε (di (ε (Ϥ hz rfl (x:=.ref TO) rfl ?_)));refine ε (cg hz (by simp) fun g1 q1 e1=>?_);have q1:fO g1 z TI TO .ellipsis:=q1;refine ε ?_;simp only [List.zipIdx_cons,List.zipIdx_nil,gP,List.forIn_nil];have a1:=t1.kp e1.extBut D.i1z D.l1z;have stop:∀ {g:Heap}{e:Addr}{E2:VSP},fO g z TI TO .ellipsis->(∃ o,g.get? e=some o/\o.cls=cP "StopIteration")->(∀ c o,c≠z->c≠TO->c≠i1->c≠i2->s.heap.get? c=some o->g.get? c=some o)->Θ (Ξ prog w) A.in1 (setField (.ref z) 0 .none) (fun _ s'=>Θ (Ξ prog w) A (do if (<- isInstance (.ref e) (.type "StopIteration")) then pure none else throw (.ref e)) Q E s') E2 { s with heap:=g }:=by
  intro g e E2 q ⟨o,ho,hc⟩ k;have hez:e≠z:=fun n=>by subst n;rw [q] at ho;cases ho;simp at hc
  refine cg q (by simp) fun g' _ e'=>?_
  refine ε (wpAny_isInstance (T:="StopIteration") (b:=true) ⟨o,e'.extBut _ _ hez ho,hc⟩ isSubtype_stop ?_);exact π (hQ g' fun c o c1 c2 c3 c4 n=>e'.extBut _ _ c1 (k c o c1 c2 c3 c4 n))
 cases hx:xs[k1]? with
 | none=>
  refine ε (ε (cM (ε (xN (by exact hh) a1.1 a1.2 hx fun g2 e e2 ho=>?_))));exact stop (e2 _ _ D.i1z.symm q1) ho fun c o c1 _ c3 _ n=>e2 _ _ c3 (e1.extBut _ _ c1 n)
 | some x=>
  have hy:ys[k2]?=none:=by rcases he with h | h;rw [hx] at h;cases h;exact h
  refine ε (ε (cM (ε (yr a1.1 a1.2 hx fun g2 n2 e2=>π ?_))));have p2:bY g2 TO a b:=e2.extBut _ _ D.TOi1 (e1.extBut _ _ D.TOz hTO);refine ε (aY p2 rfl (ε (fG p2 fun g3 p3 e3=>?_)));refine ε (wpAny_letGo (π ?_));have a2:=((t2.kp e1.extBut D.i2z D.l2z).kp e2.extBut D.i12.symm D.l2i1).kp e3.extBut D.TOi2.symm D.l2TO;refine ε (ε (cM (ε (xN (by exact hh) a2.1 a2.2 hy fun g4 e e4 ho=>?_))));exact stop (e4 _ _ D.i2z.symm (e3.extBut _ _ D.TOz.symm (e2.extBut _ _ D.i1z.symm q1))) ho fun c o c1 c2 c3 c4 n=>e4 _ _ c4 (e3.extBut _ _ c2 (e2.extBut _ _ c3 (e1.extBut _ _ c1 n)))
end
theorem jg {h:Heap}{o:Obj}{n:Addr}(e:h.objs.size=n) (hf:o.isFreed=false):(h.push o).get? n=some o:=e ▸ Χ h hf
theorem jT (l1 l2:Addr) (xs ys:Array δ):Meets (Ϛ.«zip.__new__» ⟨[.type "zip",.ref l1,.ref l2],[]⟩) fun _ R s=>s.heap.IsTuple l1 xs/\s.heap.IsTuple l2 ys/\∀ h',h'.objs.size=s.heap.objs.size+5 ->
   fO h' (s.heap.objs.size+4) (s.heap.objs.size+2) (s.heap.objs.size+3) .none->bY h' (s.heap.objs.size+2) (.ref s.heap.objs.size) (.ref (s.heap.objs.size+1))->bY h' (s.heap.objs.size+3) .none .none ->
   h'.IsTupleIter s.heap.objs.size l1 0->h'.IsTupleIter (s.heap.objs.size+1) l2 0->(∀ c o,s.heap.get? c=some o->h'.get? c=some o)->R (.ok (.ret (.ref (s.heap.objs.size+4)))) { s with heap:=h' }:=
 .of_wp fun prog w A R s h=>by
  obtain ⟨hp,g,d,tk,os⟩:=s;obtain ⟨hl1,hl2,h⟩:=h;have hsub:=sub_zip;have hL1:Heap.IsTuple (ν.heap ⟨hp,g,d,tk,os⟩) l1 xs:=hl1;have hL2:Heap.IsTuple (ν.heap ⟨hp.push { cls:=.type "tuple_iterator",data:=.fields #[.ref l1,.int 0 0] },g,d,tk,os⟩) l2 ys:=by obtain ⟨p,p1,p2⟩:=hl2;exact ⟨p,ξ _ p1,p2⟩
  wp_walk using gF hL1,gF hL2
  refine ⟨_,rfl,?_⟩;simp only [ϭ];have up:∀ {g:Heap}{o:Obj}{c:Addr}{p:Obj},g.get? c=some p->(g.push o).get? c=some p:=fun e=>ξ _ e
  refine h _ (by simp only [ϭ]) ?_ ?_ ?_ ⟨{ cls:=.type "tuple_iterator",data:=.fields #[.ref l1,.int 0 0] },?_,rfl,rfl⟩ ⟨{ cls:=.type "tuple_iterator",data:=.fields #[.ref l2,.int 0 0] },?_,rfl,rfl⟩ fun c o e=>up (up (up (up (up e))))
  ·exact jg (by simp only [ϭ]) rfl
  ·exact up (up (jg (by simp only [ϭ]) rfl))
  ·exact up (jg (by simp only [ϭ]) rfl)
  ·exact up (up (up (up (jg rfl rfl))))
  ·exact up (up (up (jg (by simp only [ϭ]) rfl)))
theorem KH {prog:Τ}{w:ϙ}{A:Ϗ}{E:VSP}{s:ν}{l1 l2:Addr}{xs ys:Array δ}{Q:VSP}(hl1:s.heap.IsTuple l1 xs) (hl2:s.heap.IsTuple l2 ys)
  (h:∀ h',h'.objs.size=s.heap.objs.size+5->fO h' (s.heap.objs.size+4) (s.heap.objs.size+2) (s.heap.objs.size+3) .none->bY h' (s.heap.objs.size+2) (.ref s.heap.objs.size) (.ref (s.heap.objs.size+1))->bY h' (s.heap.objs.size+3) .none .none ->
   h'.IsTupleIter s.heap.objs.size l1 0->h'.IsTupleIter (s.heap.objs.size+1) l2 0->(∀ c o,s.heap.get? c=some o->h'.get? c=some o)->Q (.ref (s.heap.objs.size+4)) { s with heap:=h' }):
  Θ (Ξ prog w) A (call (.type "zip") [.ref l1,.ref l2]) Q E s:=
 callType_new F.called_zip (by decide) (F.typeCall_zip_2 _ _) (F.newCall_zip_2 _ _) (fun obj=>F.args_object_init_3 obj _ _) F.entry_zip_new (jT l1 l2 xs ys) ⟨hl1,hl2,fun h' a b c d e f k=>⟨⟨_,b,rfl⟩,h h' a b c d e f k⟩⟩
noncomputable def Itz (K:W.Frag) (l m:Addr):It:=
 ⟨fun i H=>∃ xs ys x y,SqT K H l xs/\SqT K H m ys/\xs[i]?=some x/\ys[i]?=some y,fun i H x H'=>∃ p y z,H p=none/\x=.ref p/\H'=upd H p (.tup [y,z])/\(∀ xs,SqT K H l xs->xs[i]?=some y)/\∀ ys,SqT K H m ys->ys[i]?=some z,fun i H=>∃ xs ys,SqT K H l xs/\SqT K H m ys/\(xs.length<=i\/ys.length<=i)⟩
theorem zdQ {n l m:Nat}(a:l < n) (b:m < n):ZipApart (n+4) (n+2) (n+3) n (n+1) l m:=by constructor <;> exact @id (@Ne Nat _ _) (by omega)
theorem V6 {P:Τ}{w:ϙ}{K:W.Frag}{elts:List Expr}{kk:Nat}{pos:Pos}{z TI TO i1 i2 l m:Addr}(D:ZipApart z TI TO i1 i2 l m):
  Turn P w K (.Tuple elts kk pos) (Itz K l m) [z,TI,TO,i1,i2] z (fun i h=>fO h z TI TO .none/\bY h TI (.ref i1) (.ref i2)/\(∃ a b,bY h TO a b)/\h.IsTupleIter i1 l i/\h.IsTupleIter i2 m i) where
 mem:=by simp
 obj:=fun i h st b hb=>by
  obtain ⟨hz,hTI,⟨a,c,hTO⟩,⟨o1,p1,_,d1⟩,⟨o2,p2,_,d2⟩⟩:=st;simp only [χ,Ϟ,or_false] at hb;rcases hb with rfl | rfl | rfl | rfl | rfl
  ·exact ⟨_,hz,fun v z=>by cases z⟩
  ·exact ⟨_,hTI,fun v z=>by cases z⟩
  ·exact ⟨_,hTO,fun v z=>by cases z⟩
  ·exact ⟨o1,p1,fun v z=>by rw [d1] at z;cases z⟩
  ·exact ⟨o2,p2,fun v z=>by rw [d2] at z;cases z⟩
 keep:=fun i h h' st k=>by obtain ⟨hz,hTI,⟨a,c,hTO⟩,h1,h2⟩:=st;exact ⟨k z (by simp) _ hz,k TI (by simp) _ hTI,⟨a,c,k TO (by simp) _ hTO⟩,h1.at fun o q=>k i1 (by simp) o q,h2.at fun o q=>k i2 (by simp) o q⟩
 item:=by
  intro X hP hw hK hc i pj s σ H E I hf st hg;subst hP hw hK;obtain ⟨hz,hTI,⟨a,c,hTO⟩,h1,h2⟩:=st;obtain ⟨xs,ys,x,y,hq1,hq2,hx,hy⟩:=hg;obtain ⟨its1,rv1,pl1,_⟩:=I.tuple hq1;obtain ⟨its2,rv2,pl2,_⟩:=I.tuple hq2;obtain ⟨u,hu,ru⟩:=rv1.get hx;obtain ⟨v,hv,rv⟩:=rv2.get hy;have hT:H s.heap.objs.size=none:=I.hok.fresh (Η _);refine VR D hz hTI hTO ⟨h1,(show s.heap.IsTuple l its1.toArray from pl1)⟩ ⟨h2,(show s.heap.IsTuple m its2.toArray from pl2)⟩ (x:=u) (y:=v) (by simpa using hu) (by simpa using hv) fun h' ho hTO' t1 t2 hTp hsz hk=>⟨_,rfl,?_⟩
  refine wpAny_letOwnedTupleGo_zip ho fun g2 z2 hs2=>?_
  have kept:∀ b o,b ∉ [z,TO,i1,i2]->s.heap.get? b=some o->g2.get? b=some o:=fun b o hb q=>by simp only [χ,Ϟ,or_false,not_or] at hb;exact hs2.extBut _ _ hb.1 (hk b o hb.1 hb.2.1 hb.2.2.1 hb.2.2.2 q)
  have nT:∀ b o,s.heap.get? b=some o->b≠s.heap.objs.size:=fun b o q=>ϔ (Δ q)
  have sub:∀ {b},b∈[z,TO,i1,i2]->b∈[z,TI,TO,i1,i2]:=fun {b} hb=>by simp only [χ,Ϟ,or_false] at hb ⊢;rcases hb with e | e | e | e <;> simp [e]
  have htr:∀ b o,H b=some o->b ∉ [z,TO,i1,i2]:=fun b o q hb=>by rw [(hf b (sub hb)).1] at q;cases q
  have eT:g2.get? s.heap.objs.size=some { cls:=.type "tuple",data:=.seq #[u,v] }:=(hs2.2 _ (gq (Δ hz))).trans hTp;have hok:HOk X.prog X.w (upd H s.heap.objs.size (.tup [x,y])) g2:=fun b o q=>by
   by_cases hb:b=s.heap.objs.size
   ·subst hb;rw [zy] at q;cases q;exact ⟨by show 2<=sizeLine;decide,[u,v],.cons ru (.cons rv .nil),⟨_,eT,rfl,_,rfl⟩⟩
   ·rw [zm hb] at q;refine (I.hok b o q).stay (fun c v hcv r=>kept c v ?_ r) (fun c r=>by rw [zm (zA r hT)];exact r) fun c ys r=>by rw [zm (zA r hT)];exact r
    rcases hcv with rfl | hcv
    ·exact htr _ _ q
    ·exact htr _ _ hcv
  refine ⟨.ref s.heap.objs.size,upd H s.heap.objs.size (.tup [x,y]),?_,rfl,⟨_,x,y,hT,rfl,rfl,fun ys hy=>by rw [I.uU hy hq1];exact hx,fun ys hy'=>by rw [I.uU hy' hq2];exact hy⟩,⟨z2,kept _ _ (by simp only [χ,Ϟ,or_false,not_or];exact ⟨D.TIz,D.TITO,D.TIi1,D.TIi2⟩) hTI,⟨u,v,hs2.extBut _ _ D.TOz hTO'⟩,t1.1.at fun o q=>hs2.extBut _ _ D.i1z q,t2.1.at fun o q=>hs2.extBut _ _ D.i2z q⟩,fun b hb=>?_⟩
  ·refine Inv.step (s:=s) (H:=H) (h':=g2) (g':=s.gens) (d':=s.drawn) (t':=s.toks) (ch:=[z,TO,i1,i2]) I (fun b hb=>?_) (fun b o _ _ hb q _=>kept b o hb q) (fun b o _ _ hb q _=>⟨o.slots,kept b o hb q⟩) (fun b o _ q n=>by rw [zm (nT b o q)];exact n) (fun b o hb q=>⟨o,kept b o hb q⟩)
    (fun b ys q=>by rw [zm (zA q hT)];exact q) (fun b o v q=>by rw [zm (zA q hT)];exact q) (fun b ps q=>⟨#[],by rw [zm (zA q hT),q];simp⟩) (fun m hm=>?_) hok I.bare
   ·have f:=hf b (sub hb);exact ⟨f.2.2.2.1,f.2.1,f.2.2.2.2.1,f.2.2.2.2.2⟩
   ·obtain ⟨o,es,ep,q,r⟩:=hm;exact ⟨o,es,ep,kept _ o (fun hb=>(hf _ (sub hb)).2.1 rfl) q,r⟩
  ·have f:=hf b hb;by_cases hq:b=s.heap.objs.size
   ·exfalso;subst hq;obtain ⟨o1,p1,_⟩:=h1;obtain ⟨o2,p2,_⟩:=h2;have n1:=nT _ _ hz;have n2:=nT _ _ hTI;have n3:=nT _ _ hTO;have n4:=nT _ _ p1;have n5:=nT _ _ p2;simp only [χ,Ϟ,or_false] at hb;rcases hb with e | e | e | e | e
    ·exact n1 e.symm
    ·exact n2 e.symm
    ·exact n3 e.symm
    ·exact n4 e.symm
    ·exact n5 e.symm
   ·rw [zm hq];exact f.1
 done:=by
  intro X hP hw hK hc i pj s σ H E I hf st hg;subst hP hw hK;obtain ⟨hz,hTI,⟨a,c,hTO⟩,h1,h2⟩:=st;obtain ⟨xs,ys,hq1,hq2,hx⟩:=hg;obtain ⟨its1,rv1,pl1,_⟩:=I.tuple hq1;obtain ⟨its2,rv2,pl2,_⟩:=I.tuple hq2;have e1:=rv1.length;have e2:=rv2.length;refine Qh (I.ok.hd hc) D hz hTI hTO ⟨h1,(show s.heap.IsTuple l its1.toArray from pl1)⟩ ⟨h2,(show s.heap.IsTuple m its2.toArray from pl2)⟩ (by simp;omega) fun h' hk=>⟨rfl,?_⟩
  have kept:∀ b o,b ∉ [z,TO,i1,i2]->s.heap.get? b=some o->h'.get? b=some o:=fun b o hb q=>by simp only [χ,Ϟ,or_false,not_or] at hb;exact hk b o hb.1 hb.2.1 hb.2.2.1 hb.2.2.2 q
  have sub:∀ {b},b∈[z,TO,i1,i2]->b∈[z,TI,TO,i1,i2]:=fun {b} hb=>by simp only [χ,Ϟ,or_false] at hb ⊢;rcases hb with e | e | e | e <;> simp [e]
  have htr:∀ b o,H b=some o->b ∉ [z,TO,i1,i2]:=fun b o q hb=>by rw [(hf b (sub hb)).1] at q;cases q
  refine I.step (g':=s.gens) (d':=s.drawn) (t':=s.toks) (ch:=[z,TO,i1,i2]) (fun b hb=>?_) (fun b o _ _ hb q _=>kept b o hb q) (fun b o _ _ hb q _=>⟨o.slots,kept b o hb q⟩) (fun _ _ _ _ n=>n) (fun b o hb q=>⟨o,kept b o hb q⟩)
   (fun _ _ e=>e) (fun _ _ _ e=>e) (fun b ps e=>⟨#[],by rw [e];simp⟩) (fun m hm=>?_) (fun b u e=>?_) I.bare
  ·have f:=hf b (sub hb);exact ⟨f.2.2.2.1,f.2.1,f.2.2.2.2.1,f.2.2.2.2.2⟩
  ·obtain ⟨o,es,ep,q,r⟩:=hm;exact ⟨o,es,ep,kept _ o (fun hb=>(hf _ (sub hb)).2.1 rfl) q,r⟩
  ·refine (I.hok b u e).stay (fun c v hcv q=>kept c v ?_ q) (fun _ q=>q) fun _ _ q=>q
   rcases hcv with rfl | hcv
   ·exact htr _ _ e
   ·exact htr _ _ hcv
 self:=fun A i s Q E st h=>wpAny_pyIter_zip st.1 h
section
variable {X:Cx}{elts:List Expr}{kk:Nat}{tp:Pos}
def iZip (K:W.Frag) (ta:TA):TI:=fun σ H R=>ta σ H fun vs H1=>∃ a b,vs=[.ref a,.ref b]/\(∃ xs,SqT K H1 a xs)/\(∃ ys,SqT K H1 b ys)/\R (Itz K a b) H1
theorem ze2 {a b:Expr}{ta:TA}{p pos:Pos}(hg:Gl X "zip") (hm:X.mg "zip"=none) (hv:bu "zip"=some (.type "zip")) (ha:PA X [a,b] ta) (hs:ϐ [a,b] X.env=[(false,eval a X.env),(false,eval b X.env)]) (hs2:ϐ [b] X.env=[(false,eval b X.env)]):PI X (.Tuple elts kk tp) (.Call (.Name "zip" p) [a,b] [] pos) (iZip X.K ta):=by
 intro pj s σ H R I h;refine Call_ (Z1 I hg hm hv (cu (thn (ha pos pj s σ H _ I h) fun us s1 ⟨vs,H1,I1,r1,q1⟩=>?_) (by rw [hs,hs2]) (by rw [hs2];rfl)));obtain ⟨l,m,e,⟨xs,hq1⟩,⟨ys,hq2⟩,q⟩:=q1;subst e;obtain ⟨u,v,rfl,ru,rv⟩:=r1.two;cases (show u=Ε l from ru);cases (show v=Ε m from rv);obtain ⟨its1,rv1,pl1,_⟩:=I1.tuple hq1;obtain ⟨its2,rv2,pl2,_⟩:=I1.tuple hq2;have p1:s1.heap.IsTuple l its1.toArray:=pl1;have p2:s1.heap.IsTuple m its2.toArray:=pl2;refine KH p1 p2 fun h' hsz hz hTI hTO h1 h2 hk=>?_
 have I2:Inv X pj σ H1 { s1 with heap:=h' }:=I1.kept (t':=s1.toks) hk;obtain ⟨o1,g1,_⟩:=p1;obtain ⟨o2,g2,_⟩:=p2;have b1:=Δ g1;have b2:=Δ g2;refine wpAny_pyIter_zip hz ⟨_,[s1.heap.objs.size+4,s1.heap.objs.size+2,s1.heap.objs.size+3,s1.heap.objs.size,s1.heap.objs.size+1],_,_,H1,rfl,I2,V6 (zdQ b1 b2),⟨hz,hTI,⟨_,_,hTO⟩,h1,h2⟩,fun b hb=>?_,q⟩;have hb':s1.heap.objs.size<=b:=by simp only [χ,Ϟ,or_false] at hb;rcases hb with rfl | rfl | rfl | rfl | rfl <;> first | exact Η _ | exact Nat.le_add_right _ _
 exact I1.fpOk hb' (I1.hok.fresh hb')
end
section
variable {κ:Type} [DecidableEq κ]
noncomputable def valV (kvs:List (κ×V)) (k:κ):Option V:=(kvs.find? fun kv=>decide (kv.1=k)).map (·.2)
noncomputable def putK (kvs:List (κ×V)) (k:κ) (v:V):List (κ×V):=
 if (kvs.any fun kv=>decide (kv.1=k))=true then kvs.map (fun kv=>if kv.1=k then (kv.1,v) else kv) else kvs++[(k,v)]
theorem wX {p:κ×V}{r:List (κ×V)}{k:κ}(e:p.1=k):valV (p::r) k=some p.2:=by simp [valV,bQ,e]
theorem wY {p:κ×V}{r:List (κ×V)}{k:κ}(e:¬ p.1=k):valV (p::r) k=valV r k:=by simp [valV,bQ,e]
theorem X7 (k:κ):∀ kvs:List (κ×V),(kvs.any fun kv=>decide (kv.1=k))=(valV kvs k).isSome
 | []=>rfl
 | p::r=>by
  rw [cZ];by_cases e:p.1=k
  ·simp only [wX e,decide_eq_true e,Bool.true_or,lH]
  ·rw [wY e,decide_eq_false e,Bool.false_or];exact X7 k r
theorem jl (kvs:List (κ×V)) (k:κ) (v:V):(putK kvs k v).length<=kvs.length+1:=by
 unfold putK;split
 ·rw [ώ];lia
 ·rw [Ο,ϊ,cH];lia
theorem RelO.xX {o:Option V}{u:Option δ}(r:RelO o u):o.isSome=u.isSome:=by
 cases o with
 | none=>cases u with
  | none=>rfl
  | some _=>exact (show False from r).elim
 | some _=>cases u with
  | none=>exact (show False from r).elim
  | some _=>rfl
theorem RelO.getD {o:Option V}{u:Option δ}{d:V}{d':δ}(r:RelO o u) (rd:RelV d d'):RelV (o.getD d) (u.getD d'):=by
 cases o with
 | none=>cases u with
  | none=>exact rd
  | some _=>exact (show False from r).elim
 | some _=>cases u with
  | none=>exact (show False from r).elim
  | some _=>exact r
theorem KV.val {kvs:List (κ×V)}{vs:List (κ×δ)}(r:KV kvs vs) (k:κ):RelO (valV kvs k) (d7 vs k):=by
 unfold KV at r
 induction r with
 | nil=>exact Ϭ
 | @cons p q ps qs h t ih=>
  obtain ⟨h1,h2⟩:=h;by_cases e:p.1=k
  ·have e':q.1=k:=h1.symm.trans e;have b:d7 (q::qs) k=some q.2:=by simp [d7,bQ,e']
   rw [wX e,b];exact h2
  ·have e':¬ q.1=k:=fun z=>e (h1.trans z)
   have b:d7 (q::qs) k=d7 qs k:=by simp [d7,bQ,e']
   rw [wY e,b];exact ih
theorem KV.any {kvs:List (κ×V)}{vs:List (κ×δ)}(r:KV kvs vs) (k:κ):(kvs.any fun kv=>decide (kv.1=k))=vs.any fun kv=>decide (kv.1=k):=by
 unfold KV at r
 induction r with
 | nil=>rfl
 | cons h t ih=>rw [cZ,cZ,ih,h.1]
theorem KV.repl {kvs:List (κ×V)}{vs:List (κ×δ)}(r:KV kvs vs) (k:κ) {y:V}{u:δ}(ry:RelV y u):
  KV (kvs.map fun kv=>if kv.1=k then (kv.1,y) else kv) (vs.map fun kv=>if kv.1=k then (kv.1,u) else kv):=by
 unfold KV at r ⊢
 induction r with
 | nil=>exact .nil
 | @cons p q ps qs h t ih=>
  rw [ϳ,ϳ];refine .cons ?_ ih;obtain ⟨h1,h2⟩:=h;by_cases e:p.1=k
  ·rw [if_pos e,if_pos (h1.symm.trans e)];exact ⟨h1,ry⟩
  ·rw [if_neg e,if_neg (fun z=>e (h1.trans z))];exact ⟨h1,h2⟩
theorem KV.put {kvs:List (κ×V)}{vs:List (κ×δ)}(r:KV kvs vs) (k:κ) {y:V}{u:δ}(ry:RelV y u):KV (putK kvs k y) (stored vs k u):=by
 unfold putK stored;rw [r.any k];by_cases e:(vs.any fun kv=>decide (kv.1=k))=true
 ·rw [if_pos e,if_pos e];exact r.repl k ry
 ·rw [if_neg e,if_neg e];exact cB.snoc r ⟨rfl,ry⟩
theorem KV.length {kvs:List (κ×V)}{vs:List (κ×δ)}(r:KV kvs vs):kvs.length=vs.length:=ik r
end
theorem JK {P:Τ}{w:ϙ}{k:Key}{u:δ}(r:RelV (kV k) u):(yt P w).is k u=true:=by
 cases k with
 | inl i=>obtain ⟨t,e⟩:=(show ∃ t,u=Ϧ i t from r);subst e;exact Xe P w i t
 | inr x=>obtain ⟨t,e⟩:=(show ∃ t,u=ϴ x t from r);subst e;exact Xd P w x t
theorem Z8 {P:Τ}{w:ϙ}:∀ {ks:List Key}{us:List δ},Vals (ks.map kV) us->ItemsAre (yt P w) ks us
 | [],_,r=>by rw [List.map_nil] at r;cases r;exact .nil
 | k::ks,_,r=>by
  rw [ϳ] at r;cases r with
  | cons h t=>exact .cons (JK h) (Z8 t)
abbrev KT (H:Hp):List (List Key×V)->List (List Key×Addr×δ)->Prop:=cB fun p q=>p.1=q.1/\H q.2.1=some (.tup (p.1.map kV))/\RelV p.2 q.2.2
theorem KT.val {H:Hp}{kvs:List (List Key×V)}{xs:List (List Key×Addr×δ)}(r:KT H kvs xs) (k:List Key):RelO (valV kvs k) ((atKey xs k).map (·.2)):=by
 induction r with
 | nil=>exact Ϭ
 | @cons p q ps qs h t ih=>
  obtain ⟨h1,_,h2⟩:=h;by_cases e:p.1=k
  ·have e':q.1=k:=h1.symm.trans e;have b:atKey (q::qs) k=some q.2:=by simp [atKey,bQ,e']
   rw [wX e,b];exact h2
  ·have e':¬ q.1=k:=fun z=>e (h1.trans z)
   have b:atKey (q::qs) k=atKey qs k:=by simp [atKey,bQ,e']
   rw [wY e,b];exact ih
theorem KT.repl {H:Hp}{kvs:List (List Key×V)}{xs:List (List Key×Addr×δ)}(r:KT H kvs xs) (k:List Key) {y:V}{u:δ}(ry:RelV y u):
  KT H (kvs.map fun kv=>if kv.1=k then (kv.1,y) else kv) (xs.map (putAt k u)):=by
 induction r with
 | nil=>exact .nil
 | @cons p q ps qs h t ih=>
  rw [ϳ,ϳ];refine .cons ?_ ih;obtain ⟨h1,h2,h3⟩:=h;unfold putAt;by_cases e:p.1=k
  ·rw [if_pos e,if_pos (h1.symm.trans e)];exact ⟨h1,h2,ry⟩
  ·rw [if_neg e,if_neg (fun z=>e (h1.trans z))];exact ⟨h1,h2,h3⟩
theorem KT.put {H:Hp}{kvs:List (List Key×V)}{xs:List (List Key×Addr×δ)}(r:KT H kvs xs) (k:List Key) {b:Addr}{y:V}{u:δ}(hb:H b=some (.tup (k.map kV))) (ry:RelV y u):
  KT H (putK kvs k y) (storedH xs k b u):=by
 have e:(kvs.any fun kv=>decide (kv.1=k))=(atKey xs k).isSome:=by rw [X7,(r.val k).xX,fB]
 unfold putK storedH;rw [e];by_cases q:(atKey xs k).isSome=true
 ·rw [if_pos q,if_pos q];exact r.repl k ry
 ·rw [if_neg q,if_neg q];exact cB.snoc r ⟨rfl,hb,ry⟩
theorem KT.keeps {H H':Hp}{kvs:List (List Key×V)}{xs:List (List Key×Addr×δ)}(r:KT H kvs xs) (ht:∀ b ys,H b=some (.tup ys)->H' b=some (.tup ys)):KT H' kvs xs:=
 cB.mapP r fun _ _ z=>⟨z.1,ht _ _ z.2.1,z.2.2⟩
section
variable {P:Τ}{w:ϙ}{H:Hp}{h:Heap}{a:Addr}
theorem zeP {u:HO}(ok:HOk P w H h) (e:Rd H a u):yo P w H h a u:=e.ok ok
theorem Yl {kvs:List (Key×V)}(ok:HOk P w H h) (e:Rd H a (.dK kvs)):kvs.length<=sizeLine/\(a==dm)=false/\∃ vs,KV kvs vs/\h.DictOf (yt P w) a vs:=
 show yo P w H h a (.dK kvs) from zeP ok e
theorem zit {kvs:List (Key×V)}(ok:HOk P w H h) (e:H a=some (.dK kvs)):kvs.length<=sizeLine/\(a==dm)=false/\∃ vs,KV kvs vs/\h.DictOf (yt P w) a vs:=Yl ok (.inl e)
theorem Z2 {ks:List Key}(ok:HOk P w H h) (e:H a=some (.tup (ks.map kV))):(iw (yt P w)).is h ks a:=by
 obtain ⟨_,its,r,o,h1,h2,n,h3⟩:=(show yo P w H h a (.tup (ks.map kV)) from ok a _ e)
 exact ⟨o,its.toArray,n,h1,h2,h3,by simpa using Z8 r⟩
theorem Kh {kvs:List (List Key×V)}(ok:HOk P w H h) (e:Rd H a (.dT kvs)):kvs.length<=sizeLine/\(a==dm)=false /\
  ∃ xs,KT H kvs xs/\h.DictOfH (iw (yt P w)) a xs:=by
 obtain ⟨z,y,xs,r,o,es,ep,h1,h2,h3,h4,h5⟩:=(show yo P w H h a (.dT kvs) from zeP ok e)
 refine ⟨z,y,xs,r,o,es,ep,h1,h2,h3,h4,fun x hx=>?_,h5⟩;have all:∀ {l:List (List Key×V)}{m:List (List Key×Addr×δ)},KT H l m->∀ x∈m,(iw (yt P w)).is h x.1 x.2.1:=by
  intro l m q
  induction q with
  | nil=>intro x hx;exact nomatch hx
  | @cons p q ps qs hq t ih=>
   intro x hx;rcases χ.mp hx with e | hx
   ·subst e;exact Z2 ok (by rw [<- hq.1];exact hq.2.1)
   ·exact ih x hx
 exact all r x hx
theorem zis {kvs:List (List Key×V)}(ok:HOk P w H h) (e:H a=some (.dT kvs)):kvs.length<=sizeLine/\(a==dm)=false /\
  ∃ xs,KT H kvs xs/\h.DictOfH (iw (yt P w)) a xs:=Kh ok (.inl e)
end
def DGet (H:Hp) (a:Addr) (y:V) (r:Option V):Prop:=
 (∃ kvs k,Rd H a (.dK kvs)/\y=kV k/\r=valV kvs k)\/∃ kvs k b,Rd H a (.dT kvs)/\y=.ref b/\H b=some (.tup (k.map kV))/\r=valV kvs k
def DPut (H:Hp) (a:Addr) (y v:V) (H':Hp):Prop:=
 (∃ kvs k,H a=some (.dK kvs)/\y=kV k/\kvs.length < sizeLine/\H'=upd H a (.dK (putK kvs k v))) \/
 ∃ kvs k b,H a=some (.dT kvs)/\y=.ref b/\H b=some (.tup (k.map kV))/\kvs.length < sizeLine/\H'=upd H a (.dT (putK kvs k v))
theorem DGet.k {H:Hp}{a:Addr}{kvs:List (Key×V)}{k:Key}(e:H a=some (.dK kvs)):DGet H a (kV k) (valV kvs k):=.inl ⟨kvs,k,.inl e,rfl,rfl⟩
theorem DGet.t {H:Hp}{a b:Addr}{kvs:List (List Key×V)}{k:List Key}(e:H a=some (.dT kvs)) (eb:H b=some (.tup (k.map kV))):DGet H a (.ref b) (valV kvs k):=.inr ⟨kvs,k,b,.inl e,rfl,eb,rfl⟩
theorem DPut.k {H:Hp}{a:Addr}{kvs:List (Key×V)}{k:Key}{v:V}(e:H a=some (.dK kvs)) (hl:kvs.length < sizeLine):DPut H a (kV k) v (upd H a (.dK (putK kvs k v))):=.inl ⟨kvs,k,e,rfl,hl,rfl⟩
theorem DPut.t {H:Hp}{a b:Addr}{kvs:List (List Key×V)}{k:List Key}{v:V}(e:H a=some (.dT kvs)) (eb:H b=some (.tup (k.map kV))) (hl:kvs.length < sizeLine):
  DPut H a (.ref b) v (upd H a (.dT (putK kvs k v))):=.inr ⟨kvs,k,b,e,rfl,eb,hl,rfl⟩
section
variable {X:Cx}{pj:List (Addr×Obj)}{σ:St}{H:Hp}{s:ν}{a:Addr}{y v:V}{u r:δ}{o:Option V}{A:Ϗ}{E:VSP}
theorem Kp {Q:VSP}(hu:A.units+1 < ϰ) (I:Inv X pj σ H s) (g:DGet H a y (some v)) (ry:RelV y u) (h:∀ w' s',Inv X pj σ H s'->RelV v w'->Q w' s'):
  Θ (Ξ X.prog X.w) A (fV (.ref a) u) Q E s:=by
 rcases g with ⟨kvs,k,e,ey,l⟩ | ⟨kvs,k,b,e,ey,eb,l⟩
 ·subst ey;obtain ⟨z,hd,vs,rel,dd⟩:=Yl I.hok e;obtain ⟨w',hw,rw'⟩:=RelO.some_of (v:=v) (o:=d7 vs k) (by rw [l];exact rel.val k);exact wpAny_getItem_of (JK ry) dd.mapOf hw (h w' _ (I.tok _) rw')
 ·subst ey;cases (show u=Ε b from ry);obtain ⟨z,hd,xs,rel,dd⟩:=Kh I.hok e;obtain ⟨w',hw,rw'⟩:=RelO.some_of (v:=v) (o:=(atKey xs k).map (·.2)) (by rw [l];exact rel.val k);obtain ⟨p,hp,hp2⟩:=ι.mp hw;refine wpAny_getItem_heap (dj hu) (Z2 I.hok eb) dd hp ?_;rw [hp2];exact h w' _ (I.tok _) rw'
theorem d_in {Q:VSP}(hu:A.units+1 < ϰ) (I:Inv X pj σ H s) (g:DGet H a y o) (ry:RelV y u) (h:∀ s',Inv X pj σ H s'->Q (.bool o.isSome) s'):
  Θ (Ξ X.prog X.w) A (Ω .In u (.ref a)) Q E s:=by
 rcases g with ⟨kvs,k,e,ey,l⟩ | ⟨kvs,k,b,e,ey,eb,l⟩
 ·subst ey;obtain ⟨z,hd,vs,rel,dd⟩:=Yl I.hok e;refine wpAny_in_of (JK ry) hd dd.mapOf ?_;rw [<- (rel.val k).xX,<- l];exact h _ (I.tok _)
 ·subst ey;cases (show u=Ε b from ry);obtain ⟨z,hd,xs,rel,dd⟩:=Kh I.hok e;refine wpAny_in_heap (dj hu) (Z2 I.hok eb) hd dd ?_;have q:=(rel.val k).xX;rw [fB] at q;rw [<- q,<- l];exact h _ (I.tok _)
theorem zdn {Q:VSP}(hu:A.units+1 < ϰ) (I:Inv X pj σ H s) (g:DGet H a y o) (ry:RelV y u) (h:∀ s',Inv X pj σ H s'->Q (.bool (!o.isSome)) s'):
  Θ (Ξ X.prog X.w) A (Ω .NotIn u (.ref a)) Q E s:=by
 rcases g with ⟨kvs,k,e,ey,l⟩ | ⟨kvs,k,b,e,ey,eb,l⟩
 ·subst ey;obtain ⟨z,hd,vs,rel,dd⟩:=Yl I.hok e;refine wpAny_notIn_of (JK ry) hd dd.mapOf ?_;rw [<- (rel.val k).xX,<- l];exact h _ (I.tok _)
 ·subst ey;cases (show u=Ε b from ry);obtain ⟨z,hd,xs,rel,dd⟩:=Kh I.hok e;refine wpAny_notIn_heap (dj hu) (Z2 I.hok eb) hd dd ?_;have q:=(rel.val k).xX;rw [fB] at q;rw [<- q,<- l];exact h _ (I.tok _)
theorem XD {h':Heap}{t':Nat}{ob:HO}(I:Inv X pj σ H s) (mu:Mut (H a)) (hs:Ϯ a s.heap h') (he:∃ q,h'.get? a=some q) (new:yo X.prog X.w (upd H a ob) h' a ob):
  Inv X pj σ (upd H a ob) { s with heap:=h',toks:=t' }:=
 I.write (x:=a) (e:=a) mu (.inl rfl) (fun b q hb z=>(hs.2 b hb).trans z) he new
theorem zgv {P:Τ}{w:ϙ}{H':Hp}{h':Heap}{kvs:List (Key×V)}{vs:List (Key×δ)}(z:kvs.length<=sizeLine) (hd:(a==dm)=false) (rel:KV kvs vs) (dd:h'.DictOf (yt P w) a vs):
  yo P w H' h' a (.dK kvs):=⟨z,hd,vs,rel,dd⟩
theorem Km {H':Hp}{Q:Unit->ν->Prop}(hu:A.units+1 < ϰ) (I:Inv X pj σ H s) (g:DPut H a y v H') (ry:RelV y u) (rv:RelV v r) (h:∀ s',Inv X pj σ H' s'->Q () s'):
  Θ (Ξ X.prog X.w) A (setItem (.ref a) u r) Q E s:=by
 rcases g with ⟨kvs,k,e,ey,l,eH⟩ | ⟨kvs,k,b,e,ey,eb,l,eH⟩
 ·subst ey eH;obtain ⟨z,hd,vs,rel,dd⟩:=zit I.hok e;have hz:vs.length<=sizeLine:=by rw [<- rel.length];exact z
  have hl:(putK kvs k v).length<=sizeLine:=by have:=jl kvs k v;lia
  refine wpAny_setItem_pairs (hsz:=hz) (JK ry) dd fun h' dd' hs=>h _ ?_
  have he:∃ q,h'.get? a=some q:=let ⟨q,_,_,hq,_⟩:=dd';⟨q,hq⟩
  exact XD I (by rw [e];exact Ϭ) hs he (zgv hl hd (rel.put k rv) dd')
 ·subst ey eH;cases (show u=Ε b from ry);obtain ⟨z,hd,xs,rel,dd⟩:=zis I.hok e;have hz:xs.length<=sizeLine:=by rw [<- ik rel];exact z
  have hl:(putK kvs k v).length<=sizeLine:=by have:=jl kvs k v;lia
  refine wpAny_setItem_heap (hsz:=hz) (dj hu) (Z2 I.hok eb) dd fun h' dd' hs=>h _ ?_
  obtain ⟨q,es,ep,hq,h2,h3,h4,_,h5⟩:=dd';refine XD I (by rw [e];exact Ϭ) hs ⟨q,hq⟩ ⟨hl,hd,_,(rel.put k eb rv).keeps fun c ys ec=>?_,q,es,ep,hq,h2,h3,h4,h5⟩;rw [zm (zhX ec e (fun z=>nomatch z))];exact ec
end
section
variable {X:Cx}{pj:List (Addr×Obj)}{σ:St}{H:Hp}{s:ν}{a:Addr}{kvs:List (Key×V)}{k:Key}{u:δ}{A:Ϗ}{E:VSP}
theorem ziv {Q:VSP}(I:Inv X pj σ H s) (e:Rd H a (.dK kvs)) (h:∀ t s',Inv X pj σ H s'->Q (.int kvs.length t) s'):Θ (Ξ X.prog X.w) A (call (.builtin "len") [.ref a]) Q E s:=by obtain ⟨z,hd,vs,rel,dd⟩:=Yl I.hok e;refine call_len_dict hd dd (by rw [<- rel.length];rw [fH] at z;lia) ?_;rw [<- rel.length];exact h _ _ (I.tok _)
end
theorem XC {X:Cx}{pj:List (Addr×Obj)}{σ:St}{H:Hp}{s:ν}{a:Addr}{y:V}{o:Option V}(I:Inv X pj σ H s) (g:DGet H a y o):s.TypeIs (.ref a) "dict":=by
 rcases g with ⟨kvs,k,e,_,_⟩ | ⟨kvs,k,b,e,_,_,_⟩
 ·obtain ⟨_,_,vs,_,dd⟩:=Yl I.hok e;exact dd.typeIs
 ·obtain ⟨_,_,xs,_,dd⟩:=Kh I.hok e;exact dd.typeIs
def Uc:List (TE×TE)->St->Hp->(List (V×V)->Hp->Prop)->Prop
 | [],_,H,Q=>Q [] H
 | (tk,tv)::r,σ,H,Q=>tk σ H fun x H1=>tv σ H1 fun y H2=>Uc r σ H2 fun ps H3=>Q ((x,y)::ps) H3
abbrev VV:List (V×V)->List (δ×δ)->Prop:=cB fun p q=>RelV p.1 q.1/\RelV p.2 q.2
def PPs (X:Cx) (pos:Pos) (keys:List (Option Expr)) (values:List Expr) (trs:List (TE×TE)):Prop:=
 ∀ (pj:List (Addr×Obj)) (s:ν) (σ:St) (H:Hp) (Q:List (V×V)->Hp->Prop),Inv X pj σ H s->Uc trs σ H Q ->
  Θ (Ξ X.prog X.w) X.A (evalPairs (pairTrees keys values X.env pos)) (fun vs s'=>∃ ps H',Inv X pj σ H' s'/\VV ps vs/\Q ps H') X.xe s
theorem zcv {X:Cx}{pos:Pos}:PPs X pos [] [] []:=fun pj s σ H Q I h=>pairTrees_nil_walk ⟨[],H,I,.nil,h⟩
theorem QK {X:Cx}{pos:Pos}{k v:Expr}{ks:List (Option Expr)}{vs:List Expr}{tk tv:TE}{trs:List (TE×TE)}(hk:PE X k tk) (hv:PE X v tv) (hr:PPs X pos ks vs trs):
  PPs X pos (some k::ks) (v::vs) ((tk,tv)::trs):=fun pj s σ H Q I h=>
 pairTrees_cons_walk (thn (hk pj s σ H _ I h) fun u s1 ⟨x,H1,I1,rx,q1⟩=>thn (hv pj s1 σ H1 _ I1 q1) fun w2 s2 ⟨y,H2,I2,ry,q2⟩=>
  thn (hr pj s2 σ H2 _ I2 q2) fun ws s3 ⟨ps,H3,I3,rel,q3⟩=>⟨(x,y)::ps,H3,I3,.cons ⟨rx,ry⟩ rel,q3⟩)
def IsD (H:Hp) (a:Addr):Prop:=(∃ kvs,Rd H a (.dK kvs))\/∃ kvs,Rd H a (.dT kvs)
theorem PE.imp {X:Cx}{e:Expr}{t t':TE}(h:PE X e t) (i:∀ σ H Q,t' σ H Q->t σ H Q):PE X e t':=fun pj s σ H Q I q=>h pj s σ H Q I (i σ H Q q)
theorem PT.imp {X:Cx}{e:Expr}{t t':TT}(h:PT X e t) (i:∀ σ H Q,t' σ H Q->t σ H Q):PT X e t':=fun pj s σ H Q I q=>h pj s σ H Q I (i σ H Q q)
theorem PA.imp {X:Cx}{e:List Expr}{t t':TA}(h:PA X e t) (i:∀ σ H Q,t' σ H Q->t σ H Q):PA X e t':=fun pos pj s σ H Q I q=>h pos pj s σ H Q I (i σ H Q q)
theorem PS.imp {X:Cx}{e:Stmt}{t t':TS}(h:PS X e t) (i:∀ D σ H,t' D σ H->t D σ H):PS X e t':=fun pj s σ H D I q=>h pj s σ H D I (i D σ H q)
theorem PSs.imp {X:Cx}{e:List Stmt}{t t':TS}(h:PSs X e t) (i:∀ D σ H,t' D σ H->t D σ H):PSs X e t':=fun pj s σ H D I q=>h pj s σ H D I (i D σ H q)
section
variable {fs ex:List Addr}{H H1:Hp}{h h1 h':Heap}{C:Addr}
theorem Un.sameBut (u:Un fs ex H H1 h h1) (sb:Ϯ C h1 h') (hC:h.objs.size<=C):Un fs ex H H1 h h':=by
 have ne:∀ b o,h.get? b=some o->b≠C:=fun b o e=>ϔ (Ψ (Δ e) hC)
 refine ⟨fun b o e n hb hx=>(sb.2 b (ne b o e)).trans (u.keep b o e n hb hx),fun b o e n hb hx=>?_,u.free,fun b o e hx=>?_,u.tups,u.frzs,u.tbls⟩
 ·obtain ⟨sl,q⟩:=u.slot b o e n hb hx;exact ⟨sl,(sb.2 b (ne b o e)).trans q⟩
 ·obtain ⟨o',q⟩:=u.there b o e hx;exact ⟨o',(sb.2 b (ne b o e)).trans q⟩
theorem HOk.sameBut {P:Τ}{w:ϙ}(x:HOk P w H h) (sb:Ϯ C h h') (hC:H C=none):HOk P w H h':=fun b o e=>by
 refine (x b o e).stay (fun c v hc q=>(sb.2 c ?_).trans q) (fun _ q=>q) fun _ _ q=>q
 rintro rfl;rcases hc with rfl | hc
 ·rw [hC] at e;cases e
 ·rw [hC] at hc;cases hc
end
noncomputable def rows (σ:St) (js:List Nat):St:=js.map fun j=>σ.getD j none
section
variable {X:Cx}
theorem XJ:yp X (.builtin "isinstance") (fun xs H Q=>∃ x T t b,xs=[x,.ty T]/\TyOf X.K H x t/\W.kitOne X.K t (.type T)=some b/\Q (.bl b) H):=by intro pj s σ H vs us Q I rv h;obtain ⟨x,T,t,b,rfl,ty,e,q⟩:=h;obtain ⟨u,v,rfl,ru,rt⟩:=rv.two;cases (show v=cP T from rt);exact JN I ru ty e fun tk=>⟨.bl b,H,I.tok tk,rfl,q⟩
theorem zfm:OpR X (Ω .Is) (fun x y H Q=>∃ a b,x=.bl a/\y=.bl b/\Q (.bl (a==b)) H):=by intro pj s σ H x y v u Q I rx ry h;obtain ⟨a,b,rfl,rfl,q⟩:=h;cases rx;cases ry;exact is_bool (Yk I q rfl)
theorem zcF:OpR X (Ω .IsNot) (fun x y H Q=>∃ a b,x=.bl a/\y=.bl b/\Q (.bl (a != b)) H):=by intro pj s σ H x y v u Q I rx ry h;obtain ⟨a,b,rfl,rfl,q⟩:=h;cases rx;cases ry;exact isnot_bool (Yk I q rfl)
def ziC (_ j:Int):Prop:=0 < j/\j < 2 ^ 64
theorem QZ:OpR X (aL .FloorDiv) (rI ziC fun i j=>.int (i / j)):=opI fun i j _ _ _ _ _ hc q=>by
 have e:i.fdiv j=i / j:=Int.fdiv_eq_ediv_of_nonneg _ (Int.le_of_lt hc.1);refine floordiv_int (by have:=hc.1;lia) (by rw [e];exact q) (.inl (PyProof.noPylong_of_log2 ?_));have h1:j.natAbs < 2 ^ 64:=by have:=hc.2;have:=hc.1;lia
 by_cases h0:j.natAbs=0
 ·rw [h0];decide
 ·have:=(Nat.log2_lt h0).mpr h1;lia
theorem zdX:∀ {bs:List Bool}{us:List δ},Vals (bs.map V.bl) us->us=bs.map Ϣ
 | [],_,.nil=>rfl
 | b::bs,_,.cons r t=>by cases (show _=Ϣ b from r);rw [zdX t];rfl
theorem Vg (bs:List Bool):((ϛ bs.length).all fun i=>(bs[i]?).getD true)=bs.all id:=by
 rw [cI,Ρ,Ρ];constructor
 ·intro h b hb;obtain ⟨i,hi,rfl⟩:=lO hb;have:=h i (au.mpr hi);simpa [ψ hi] using this
 ·intro h i hi;have hi':=au.mp hi;have:=h _ (aW hi');simpa [ψ hi'] using this
theorem zaz (hc:X.calm=true):yp X (.builtin "all") (fun xs H Q=>∃ (p:Addr) (bs:List Bool),xs=[.ref p]/\SqL X.K H p (bs.map V.bl)/\Q (.bl (bs.all id)) H):=by
 intro pj s σ H vs us Q I rv h;obtain ⟨p,bs,rfl,hq,q⟩:=h;obtain ⟨u,rfl,ru⟩:=rv.one;cases (show u=Ε p from ru);obtain ⟨its,rv,hp,hz⟩:=I.list hq;obtain rfl:=zdX rv;have hl:=hp.isList;have hlt:p < s.heap.objs.size:=by obtain ⟨_,e,_⟩:=hl;exact Δ e
 have hh:X.A.handled=none:=I.ok.hd hc;refine call_all_walk (gQ hl ?_)
 refine ⟨s.heap.objs.size,[s.heap.objs.size,p],[s.heap.objs.size],(bs.map Ϣ).toArray.size,_,_,fun i=>(bs[i]?).getD true,rfl,Walks.list (A:=X.A.in1) hh _ p (ϔ hlt) (bs.map Ϣ).toArray,
  ⟨⟨_,Χ _ rfl,rfl,rfl⟩,hl.push _⟩,fun i v s' Q' E' hP hQ=>?_,fun h' tk hk=>?_⟩
 ·have hP':(bs.map Ϣ)[i]?=some v:=by simpa using hP
  rw [Υ] at hP';cases e:bs[i]? with
  | none=>rw [e] at hP';cases hP'
  | some b=>
   rw [e] at hP';cases hP';simp only [e,Option.getD_some] at hQ;exact Ϻ hQ
 ·have e:((ϛ (bs.map Ϣ).toArray.size).all fun i=>(bs[i]?).getD true)=bs.all id:=by rw [ς,ώ];exact Vg bs
  rw [e];exact ⟨.bl _,H,I.kept (LSm.kept_iter hk),rfl,q⟩
theorem Jc {CX:CXT}{k:Nat}{f:Addr}{fd:aG}{ps ks:List Str}{sp:Sp}{E:XK}{x:Str}{p pos:Pos}{kws:List aq}{tk:TA}{g:List δ->List δ->List δ}{gV:List V->List V->List V}
  (F:FnOk X.prog X.w X.K X.mg X.base CX k f fd ps sp) (hr:Room k X.A) (hg:Gl X x) (hm:X.mg x=some (.ref f)) (hk:W.keepIn X.K (.ref f)=true) (hb:Qg X.K fd ps ks g gV) (hx:jO CX X E)
  (hkw:PK X kws tk) (hall:(aM pos (ϯ kws X.env)).all (·.1.isSome)=true:=by rfl) (hks:(aM pos (ϯ kws X.env)).filterMap (·.1)=ks:=by rfl)
  (hdb:(x==("__debug__":Str))=false:=by decide) (hpl:((bK pos (ϐ [] X.env)).any (·.1)||(aM pos (ϯ kws X.env)).any (·.1.isNone))=false:=by rfl):
  PE X (.Call (.Name x p) [] kws pos) (zeg sp gV E tNil tk):=by intro pj s σ H Q I h;refine aK (wM I hg hm ?_ hdb);refine W.callWith_KW0 (h₀:=X.base) I.ok.mod.kin hk hall (thn (hkw pos pj s σ H _ I h) fun ws s2 ⟨zs,H2,I2,rz,q2⟩=>⟨I2.kIn,?_⟩) hpl;rw [hks];exact zcj (us:=[]) (vs:=[]) F hr hb hx I2 .nil rz q2
end
end L2
namespace HT
open PySem PyProof.Rows
open PySem.SeqAt
open PySem.AutoSeq1 (wpAny_loadPart')
open PySem.MeetsSeq PySem.MeetsSeq2 PySem.MeetsSeq3
section
variable {prog:Τ}{w:ϙ}{A:Ϗ}{E:δ->ν->Prop}{s:ν}
theorem zax {t b:Addr}{ws:List δ}{Q:δ->ν->Prop}(ht:IsTup s.heap t ([]:List δ).toArray) (hb:IsTup s.heap b ws.toArray)
  (h:Q (.ref b) s):Θ (Ξ prog w) A (aL .Add (.ref t) (.ref b)) Q E s:=by
 obtain ⟨⟨cls,dd,data,sl⟩,ho,hc,n,hd⟩:=id ht;obtain ⟨⟨cls2,dd2,data2,sl2⟩,ho2,hc2,n2,hd2⟩:=id hb;simp only at hc hd hc2 hd2;subst hc hd hc2 hd2;exact lZ ⟨_,ho,rfl⟩ ⟨_,ho2,rfl⟩ iy lL dq cW (cQ _ _)
   (tuple_addW0 t b ([]:List δ).toArray ws.toArray n n2 dd dd2 sl sl2 (by simp)) ⟨ho,ho2,h⟩
theorem wR {t sl:Addr}{items:Array δ}{vl vu:δ}{lo hi:Option Int}{Q:δ->ν->Prop}(ht:IsTup s.heap t items) (hs:s.heap.IsSliceOf sl vl vu .none) (pl:eG vl lo) (pu:eG vu hi)
  (hw:sIx items.size 0 lo=0/\sIx items.size items.size hi=items.size) (h:Q (.ref t) s):Θ (Ξ prog w) A (fV (.ref t) (.ref sl)) Q E s:=by
 obtain ⟨os,hos,hcs,hds⟩:=id hs;have hTs:s.TypeIs (.ref sl) "slice":=⟨os,hos,hcs⟩
 unfold fV
 try with_reducible refine cN ?_
 first | refine ε (π ?_) | skip
 refine ε (wpAny_sequenceKey ht.typeIs (by decide) ?_)
 refine ε (aC (name:=ϸ "__getitem__") ht.typeIs ϧ
  (bM ϧ ht.typeIs entry_tuple_getitem ?_ (args_tuple_getitem _ _)))
 show Θ _ _ (eZ (.ref t) >>= _) _ _ s
 refine ε (tupleItemsOf_ ht ?_);refine ε (cU hTs ?_);rw [if_pos (by decide)];refine ε (xH hs pl pu ?_);have hyes:(((sIx items.size 0 lo:Nat):Int)==0&&(1:Int)==1&&(sIx items.size items.size hi - sIx items.size 0 lo)==items.size)=true:=by rw [hw.1,hw.2];simp
 show Θ _ _ (if (((sIx items.size 0 lo:Nat):Int)==0&&(1:Int)==1&&(sIx items.size items.size hi - sIx items.size 0 lo)==items.size)=true then _ else _) _ _ s
 rw [if_pos hyes];unfold Ϛ.Tuple.tupleIsExact
 first
  | (refine ε (ε (cU ht.typeIs (π ?_)));rw [if_pos (by decide)];exact ε (di (π ⟨_,rfl,π h⟩)))
  | (refine ε (ε (cU ht.typeIs (π ?_)));rw [if_pos (by decide)];exact ε (di (ε (π (π ⟨_,rfl,π h⟩)))))
  | (refine ε (ε (ε (cU ht.typeIs (π ?_))));rw [if_pos (by decide)];exact ε (di (π (π ⟨_,rfl,π h⟩))))
  | (refine ε (ε (cU ht.typeIs (π ?_)));rw [if_pos (by decide)];trace_state;done)
end
end HT
namespace L2
open PySem PySem.Spec PyProof.Rows
section
variable {X:Cx}
def zeS (K:W.Frag):R2:=fun x y H Q=>∃ a b ys,x=.ref a/\y=.ref b/\SqT K H a []/\SqT K H b ys/\Q (.ref b) H
theorem Q0:OpR X (aL .Add) (zeS X.K):=by intro pj s σ H x y v u Q I rx ry h;obtain ⟨a,b,ys,rfl,rfl,ha,hb,q⟩:=h;cases rx;cases ry;obtain ⟨its,r1,p1,_⟩:=I.tuple ha;obtain ⟨its2,r2,p2,_⟩:=I.tuple hb;cases r1;exact HT.zax p1 p2 ⟨.ref b,H,I,rfl,q⟩
def rSlW (K:W.Frag):V->Option Int->Option Int->Hp->VK->Prop:=fun x lo hi H Q=>∃ a xs,x=.ref a/\SqT K H a xs/\(HT.sIx xs.length 0 lo=0/\HT.sIx xs.length xs.length hi=xs.length)/\Q (.ref a) H
theorem zb5:SlR X (rSlW X.K):=by
 intro pj s σ H x v vl vu lo hi sl Q I rx hs pl pu h;obtain ⟨a,xs,rfl,hx,hw,q⟩:=h;cases rx;obtain ⟨its,r,ht,hz⟩:=I.tuple hx;have hlen:its.toArray.size=xs.length:=by rw [ς];exact r.length.symm
 refine ⟨"tuple",_,ϧ.lookup,ht.typeIs,?_⟩;exact HT.wR ht hs pl pu (by rw [hlen];exact hw) ⟨.ref a,H,I,rfl,q⟩
end
end L2
namespace EV
open PySem PySem.Spec PyProof.Rows L2
noncomputable abbrev Store:=List D
structure Gm where
 K:W.Frag
 fa:Nat->Option Addr
 ca:Nat->Option Addr
structure G where
 R:Hp
 α:List Addr
def KTup (K:W.Frag) (a:Addr) (xs:List V):Prop:=∃ (o:Obj) (its:Array δ) (n:Nat),K.lookup a=some o/\o.cls=.type "tuple"/\o.data=.seq its n/\its.size<=sizeLine/\Vals xs its.toList
def KDic (K:W.Frag) (a:Addr) (ps:List (Str×Int)):Prop:=(∃ o,K.lookup a=some o/\o.cls=.type "dict"/\o.dict=none)/\∀ h:Heap,K.In h->KTD.TextTab h a (ps.map fun p=>(p.1,.flat (.int p.2)))
mutual
def Has (Γ:Gm) (g:G):D->V->Prop
 | .non,v=>v=.non
 | .bl b,v=>v=.bl b
 | .int i,v=>v=.int i
 | .str x,v=>v=.str x
 | .tup ds,v=>∃ a vs,v=.ref a/\g.R a=some (.tup vs)/\Hass Γ g ds vs
 | .lst ds,v=>∃ a vs,v=.ref a/\g.R a=some (.lst vs)/\Hass Γ g ds vs
 | .dK ks ds,v=>∃ a vs,v=.ref a/\g.R a=some (.dK (ks.zip vs))/\ks.length=ds.length/\Hass Γ g ds vs
 | .dT ks ds,v=>∃ a vs,v=.ref a/\g.R a=some (.dT (ks.zip vs))/\ks.length=ds.length/\Hass Γ g ds vs
 | .ref k,v=>∃ a,g.α[k]?=some a/\v=.ref a
 | .fn f,v=>∃ a,Γ.fa f=some a/\v=.ref a
 | .scr ns,v=>∃ a,v=.ref a/\SqL Γ.K g.R a (ns.map V.int)
 | .ktp ds,v=>∃ a vs,v=.ref a/\KTup Γ.K a vs/\Hass Γ g ds vs
 | .kdc ps,v=>∃ a,v=.ref a/\KDic Γ.K a ps
 | .dF ks ds,v=>∃ a vs o,v=.ref a/\g.R a=some (.frz o (.dT (ks.zip vs)))/\ks.length=ds.length/\Hass Γ g ds vs
 | .ins c ns ds,v=>∃ a C dx vs,v=.ref a/\caOf Γ.K c=some C/\g.R a=some (.ins C dx (ns.zip vs))/\ns.length=ds.length/\Hass Γ g ds vs
def Hass (Γ:Gm) (g:G):List D->List V->Prop
 | [],vs=>vs=[]
 | d::ds,vs=>∃ v r,vs=v::r/\Has Γ g d v/\Hass Γ g ds r
end
structure Le (g g':G):Prop where
 rr:Same g.R g'.R
 aa:∀ (k:Nat) (a:Addr),g.α[k]?=some a->g'.α[k]?=some a
theorem Le.refl (g:G):Le g g:=⟨Same.refl _,fun _ _ h=>h⟩
theorem Le.trans {g g1 g2:G}(a:Le g g1) (b:Le g1 g2):Le g g2:=⟨a.rr.trans b.rr,fun k c h=>b.aa k c (a.aa k c h)⟩
theorem Same.rd {H H':Hp}{a:Addr}{u:HO}(e:Same H H') (h:Rd H a u):Rd H' a u:=by
 rcases h with h | ⟨o,h⟩
 ·exact .inl (e _ _ h)
 ·exact .inr ⟨o,e _ _ h⟩
mutual
theorem WF {Γ:Gm}{g g':G}(e:Le g g'):∀ (d:D) (v:V),Has Γ g d v->Has Γ g' d v
 | .non,_,h=>h
 | .bl _,_,h=>h
 | .int _,_,h=>h
 | .str _,_,h=>h
 | .tup ds,_,⟨a,vs,h1,h2,h3⟩=>⟨a,vs,h1,e.rr _ _ h2,yh e ds vs h3⟩
 | .lst ds,_,⟨a,vs,h1,h2,h3⟩=>⟨a,vs,h1,e.rr _ _ h2,yh e ds vs h3⟩
 | .dK ks ds,_,⟨a,vs,h1,h2,h4,h3⟩=>⟨a,vs,h1,e.rr _ _ h2,h4,yh e ds vs h3⟩
 | .dT ks ds,_,⟨a,vs,h1,h2,h4,h3⟩=>⟨a,vs,h1,e.rr _ _ h2,h4,yh e ds vs h3⟩
 | .ref k,_,⟨a,h1,h2⟩=>⟨a,e.aa _ _ h1,h2⟩
 | .fn f,_,h=>h
 | .scr _,_,⟨a,h1,h2⟩=>⟨a,h1,e.rr.seq h2⟩
 | .ktp ds,_,⟨a,vs,h1,h2,h3⟩=>⟨a,vs,h1,h2,yh e ds vs h3⟩
 | .kdc _,_,h=>h
 | .dF ks ds,_,⟨a,vs,o,h1,h2,h4,h3⟩=>⟨a,vs,o,h1,e.rr _ _ h2,h4,yh e ds vs h3⟩
 | .ins c ns ds,_,⟨a,C,dx,vs,h1,h0,h2,h4,h3⟩=>⟨a,C,dx,vs,h1,h0,e.rr _ _ h2,h4,yh e ds vs h3⟩
theorem yh {Γ:Gm}{g g':G}(e:Le g g'):∀ (ds:List D) (vs:List V),Hass Γ g ds vs->Hass Γ g' ds vs
 | [],_,h=>h
 | d::ds,_,⟨v,r,h1,h2,h3⟩=>⟨v,r,h1,WF e d v h2,yh e ds r h3⟩
end
theorem Has.mono {Γ:Gm}{g g':G}{d:D}{v:V}(h:Has Γ g d v) (e:Le g g'):Has Γ g' d v:=WF e d v h
theorem Hass.mono {Γ:Gm}{g g':G}{d:List D}{v:List V}(h:Hass Γ g d v) (e:Le g g'):Hass Γ g' d v:=yh e d v h
section
variable {Γ:Gm}{g:G}
theorem Hass.len:∀ {ds:List D}{vs:List V},Hass Γ g ds vs->vs.length=ds.length
 | [],_,h=>by cases (show _=[] from h);rfl
 | d::ds,_,⟨v,r,h1,_,h3⟩=>by subst h1;simp [Hass.len h3]
theorem Hass.get:∀ {ds:List D}{vs:List V}{i:Nat}{d:D},Hass Γ g ds vs->ds[i]?=some d->∃ v,vs[i]?=some v/\Has Γ g d v
 | [],_,_,_,_,e=>by simp at e
 | d::ds,_,0,_,⟨v,r,h1,h2,_⟩,e=>by subst h1;simp at e;subst e;exact ⟨v,rfl,h2⟩
 | d::ds,_,i+1,_,⟨v,r,h1,_,h3⟩,e=>by subst h1;obtain ⟨u,q,hu⟩:=Hass.get (i:=i) h3 (by simpa using e);exact ⟨u,by simpa using q,hu⟩
theorem Hass.of:∀ {ds:List D}{vs:List V},vs.length=ds.length->(∀ (i:Nat) (d:D) (v:V),ds[i]?=some d->vs[i]?=some v->Has Γ g d v)->Hass Γ g ds vs
 | [],[],_,_=>rfl
 | d::ds,v::vs,hl,h=>⟨v,vs,rfl,h 0 d v rfl rfl,Hass.of (by simpa using hl) fun i d v e1 e2=>h (i+1) d v (by simpa using e1) (by simpa using e2)⟩
 | [],_::_,hl,_=>by simp at hl
 | _::_,[],hl,_=>by simp at hl
theorem Hass.one {d:D}{vs:List V}(h:Hass Γ g [d] vs):∃ v,vs=[v]/\Has Γ g d v:=by obtain ⟨v,r,e,hd,hr⟩:=h;cases (show r=[] from hr);exact ⟨v,e,hd⟩
theorem Hass.two {d e:D}{vs:List V}(h:Hass Γ g [d,e] vs):∃ v u,vs=[v,u]/\Has Γ g d v/\Has Γ g e u:=by obtain ⟨v,r,e1,hd,hr⟩:=h;obtain ⟨u,e2,he⟩:=Hass.one hr;subst e2;exact ⟨v,u,e1,hd,he⟩
theorem Hass.mk1 {d:D}{v:V}(h:Has Γ g d v):Hass Γ g [d] [v]:=⟨v,[],rfl,h,rfl⟩
theorem Hass.app:∀ {ds es:List D}{vs us:List V},Hass Γ g ds vs->Hass Γ g es us->Hass Γ g (ds++es) (vs++us)
 | [],_,_,_,h,k=>by cases (show _=[] from h);exact k
 | d::ds,_,_,_,⟨v,r,h1,h2,h3⟩,k=>by subst h1;exact ⟨v,_,rfl,h2,Hass.app h3 k⟩
theorem Hass.drop {ds:List D}{vs:List V}(n:Nat) (h:Hass Γ g ds vs):Hass Γ g (ds.drop n) (vs.drop n):=by
 refine Hass.of (by rw [bG,bG,h.len]) fun i d v e1 e2=>?_
 rw [List.getElem?_drop] at e1 e2;obtain ⟨u,q,hu⟩:=h.get e1;rw [q] at e2;cases e2;exact hu
set_option tactic.hygienic true in
theorem Hass.take {ds:List D}{vs:List V}(n:Nat) (h:Hass Γ g ds vs):Hass Γ g (ds.take n) (vs.take n):=by
 refine Hass.of (by rw [aV,aV,h.len]) fun i d v e1 e2=>?_
 rw [List.getElem?_take] at e1 e2;split at e1
 ·rename_i hi
  rw [if_pos hi] at e2;obtain ⟨u,q,hu⟩:=h.get e1;rw [q] at e2;cases e2;exact hu
 ·cases e1
set_option tactic.hygienic true in
theorem Hass.set {ds:List D}{vs:List V}{d:D}{v:V}(n:Nat) (h:Hass Γ g ds vs) (hd:Has Γ g d v):Hass Γ g (ds.set n d) (vs.set n v):=by
 refine Hass.of (by rw [ϥ,ϥ,h.len]) fun i d' v' e1 e2=>?_
 rw [List.getElem?_set] at e1 e2;split at e1
 ·rename_i hi
  rw [if_pos hi] at e2;split at e1
  ·split at e2
   ·cases e1;cases e2;exact hd
   ·cases e2
  ·cases e1
 ·rename_i hi
  rw [if_neg hi] at e2;obtain ⟨u,q,hu⟩:=h.get e1;rw [q] at e2;cases e2;exact hu
theorem Hass.ints:∀ {ns:List Int},Hass Γ g (ns.map D.int) (ns.map V.int)
 | []=>rfl
 | _::_=>⟨_,_,rfl,rfl,Hass.ints⟩
end
def MutF:HO->Prop
 | .frz _ _=>True
 | o=>Mut (some o)
def zY (Γ:Gm) (H:Hp) (g:G) (a:Addr):D->Prop
 | .lst ds=>∃ vs,H a=some (.lst vs)/\Hass Γ g ds vs
 | .dK ks ds=>∃ vs,H a=some (.dK (ks.zip vs))/\ks.length=ds.length/\Hass Γ g ds vs
 | .dT ks ds=>∃ vs,H a=some (.dT (ks.zip vs))/\ks.length=ds.length/\Hass Γ g ds vs
 | .ref _=>∃ o,g.R a=some o/\H a=some o/\MutF o
 | .ins c ns ds=>∃ C dx vs,caOf Γ.K c=some C/\H a=some (.ins C dx (ns.zip vs))/\ns.length=ds.length/\Hass Γ g ds vs
 | _=>False
noncomputable def gone:D->Bool
 | .ref _=>true
 | _=>false
theorem zY.mono {Γ:Gm}{H H':Hp}{g g':G}{a:Addr}{c:D}(h:zY Γ H g a c) (e:Le g g') (hh:∀ o,H a=some o->H' a=some o):zY Γ H' g' a c:=by
 cases c with
 | lst ds=>obtain ⟨vs,h1,h2⟩:=h;exact ⟨vs,hh _ h1,h2.mono e⟩
 | dK ks ds=>obtain ⟨vs,h1,h3,h2⟩:=h;exact ⟨vs,hh _ h1,h3,h2.mono e⟩
 | dT ks ds=>obtain ⟨vs,h1,h3,h2⟩:=h;exact ⟨vs,hh _ h1,h3,h2.mono e⟩
 | non=>exact h
 | bl=>exact h
 | int=>exact h
 | str=>exact h
 | tup=>exact h
 | ref=>obtain ⟨o,h1,h2,h3⟩:=h;exact ⟨o,e.rr _ _ h1,hh _ h2,h3⟩
 | fn=>exact h
 | scr=>exact h
 | ktp=>exact h
 | kdc=>exact h
 | dF=>exact h
 | ins=>obtain ⟨C,dx,vs,h0,h1,h3,h2⟩:=h;exact ⟨C,dx,vs,h0,hh _ h1,h3,h2.mono e⟩
theorem zY.qU {Γ:Gm}{H:Hp}{g:G}{a:Addr}{c:D}(h:zY Γ H g a c):∃ o,H a=some o/\MutF o:=by
 cases c with
 | lst ds=>obtain ⟨vs,h1,h2⟩:=h;exact ⟨_,h1,Ϭ⟩
 | dK ks ds=>obtain ⟨vs,h1,h3,h2⟩:=h;exact ⟨_,h1,Ϭ⟩
 | dT ks ds=>obtain ⟨vs,h1,h3,h2⟩:=h;exact ⟨_,h1,Ϭ⟩
 | non=>exact h.elim
 | bl=>exact h.elim
 | int=>exact h.elim
 | str=>exact h.elim
 | tup=>exact h.elim
 | ref=>obtain ⟨o,h1,h2,h3⟩:=h;exact ⟨o,h2,h3⟩
 | fn=>exact h.elim
 | scr=>exact h.elim
 | ktp=>exact h.elim
 | kdc=>exact h.elim
 | dF=>exact h.elim
 | ins=>obtain ⟨C,dx,vs,h0,h1,h3,h2⟩:=h;exact ⟨_,h1,Ϭ⟩
structure WOk (Γ:Gm) (H:Hp) (g:G) (S:Store):Prop where
 rh:Same g.R H
 len:g.α.length=S.length
 nd:g.α.Nodup
 off:∀ (k:Nat) (c:D) (a:Addr),S[k]?=some c->g.α[k]?=some a->gone c=false->g.R a=none
 cell:∀ (k:Nat) (c:D) (a:Addr),S[k]?=some c->g.α[k]?=some a->zY Γ H g a c
structure Step (H:Hp) (g:G) (H':Hp) (g':G):Prop where
 le:Le g g'
 fr:∀ a o,H a=some o->a ∉ g.α->H' a=some o
 ex:∀ a o,H a=some o->∃ o',H' a=some o'
 na:∀ a∈g'.α,a∈g.α\/H a=none
 nr:∀ a,g'.R a≠none->g.R a≠none\/H a=none\/a∈g.α\/∃ xs,H a=some (.tup xs)
theorem Step.refl (H:Hp) (g:G):Step H g H g:=⟨Le.refl g,fun _ _ h _=>h,fun _ o h=>⟨o,h⟩,fun _ h=>.inl h,fun _ h=>.inl h⟩
theorem Step.Wq {H H':Hp}{g g':G}(s:Step H g H' g') {a:Addr}(h:H' a=none):H a=none:=by
 cases q:H a with
 | none=>rfl
 | some o=>
  obtain ⟨o',e⟩:=s.ex a o q;rw [e] at h;cases h
theorem Step.trans {H H1 H2:Hp}{g g1 g2:G}(a:Step H g H1 g1) (b:Step H1 g1 H2 g2):Step H g H2 g2 where
 le:=a.le.trans b.le
 fr:=fun x o h n=>b.fr x o (a.fr x o h n) fun m=>by
  rcases a.na x m with q | q
  ·exact n q
  ·rw [h] at q;cases q
 ex:=fun x o h=>let ⟨o1,h1⟩:=a.ex x o h;b.ex x o1 h1
 na:=fun x m=>by
  rcases b.na x m with q | q
  ·exact a.na x q
  ·exact .inr (a.Wq q)
 nr:=fun x m=>by
  rcases b.nr x m with q | q | q | ⟨xs,q⟩
  ·exact a.nr x q
  ·exact .inr (.inl (a.Wq q))
  ·rcases a.na x q with q | q
   ·exact .inr (.inr (.inl q))
   ·exact .inr (.inl q)
  ·by_cases hx:x∈g.α
   ·exact .inr (.inr (.inl hx))
   ·cases e:H x with
    | none=>exact .inr (.inl rfl)
    | some o=>
     have:=a.fr x o e hx;rw [q] at this;cases this;exact .inr (.inr (.inr ⟨xs,rfl⟩))
theorem Step.of_same {H H':Hp}{g g':G}(s:Same H H') (le:Le g g') (na:∀ a∈g'.α,a∈g.α\/H a=none) (nr:∀ a,g'.R a≠none->g.R a≠none\/H a=none):Step H g H' g':=
 ⟨le,fun a o h _=>s a o h,fun a o h=>⟨o,s a o h⟩,na,fun a h=>(nr a h).imp id .inl⟩
def VOk (Γ:Gm) (H:Hp) (d:D) (fr:Bool) (v:V) (H':Hp) (g':G):Prop:=
 if fr=true then ∃ a,v=.ref a/\H a=none/\g'.R a=none/\a ∉ g'.α/\zY Γ H' g' a d else Has Γ g' d v
noncomputable def G.put (g:G) (a:Addr) (o:HO):G:={ g with R:=upd g.R a o }
noncomputable def G.cell (g:G) (a:Addr):G:={ g with α:=g.α++[a] }
theorem Le.put {g:G}{a:Addr}{o:HO}(h:g.R a=none):Le g (g.put a o):=⟨fun b u q=>by
 show upd g.R a o b=some u
 rw [zm (zA q h)];exact q,fun _ _ q=>q⟩
theorem Le.cell {g:G}{a:Addr}:Le g (g.cell a):=⟨Same.refl _,fun k b q=>by
 show (g.α++[a])[k]?=some b
 rw [ϖ (ο.mp q).1];exact q⟩
section
variable {Γ:Gm}{H H':Hp}{g g':G}{S:Store}{d:D}{v:V}{a:Addr}
theorem WOk.put {o:HO}(w:WOk Γ H g S) (h:H a=some o) (hn:g.R a=none) (ha:a ∉ g.α):WOk Γ H (g.put a o) S where
 rh:=fun b u q=>by
  by_cases hb:b=a
  ·subst hb;have q':upd g.R b o b=some u:=q;rw [zy] at q';cases q';exact h
  ·have q':upd g.R a o b=some u:=q;rw [zm hb] at q';exact w.rh b u q'
 len:=w.len
 nd:=w.nd
 off:=fun k c b h1 h2 h3=>by
  show upd g.R a o b=none
  have hne:b≠a:=by rintro rfl;exact ha (ϡ h2)
  rw [zm hne];exact w.off k c b h1 h2 h3
 cell:=fun k c b h1 h2=>(w.cell k c b h1 h2).mono (Le.put hn) fun _ q=>q
theorem Step.put {o:HO}(s:Step H g H' g') (hn:g'.R a=none) (h:H a=none):Step H g H' (g'.put a o) where
 le:=s.le.trans (Le.put hn)
 fr:=s.fr
 ex:=s.ex
 na:=s.na
 nr:=fun b q=>by
  by_cases hb:b=a
  ·subst hb;exact .inr (.inl h)
  ·have q':upd g'.R a o b≠none:=q;rw [zm hb] at q';exact s.nr b q'
theorem kO {o:HO}(hn:g.R a=none) (ho:H a=some o) (h:zY Γ H g a d):Has Γ (g.put a o) d (.ref a):=by
 have le:Le g (g.put a o):=Le.put hn;have hr:(g.put a o).R a=some o:=zy;cases d with
 | lst ds=>obtain ⟨vs,h1,h2⟩:=h;rw [h1] at ho;cases ho;exact ⟨a,vs,rfl,hr,h2.mono le⟩
 | dK ks ds=>obtain ⟨vs,h1,h3,h2⟩:=h;rw [h1] at ho;cases ho;exact ⟨a,vs,rfl,hr,h3,h2.mono le⟩
 | dT ks ds=>obtain ⟨vs,h1,h3,h2⟩:=h;rw [h1] at ho;cases ho;exact ⟨a,vs,rfl,hr,h3,h2.mono le⟩
 | non=>exact h.elim
 | bl=>exact h.elim
 | int=>exact h.elim
 | str=>exact h.elim
 | tup=>exact h.elim
 | ref=>obtain ⟨o,h1,_⟩:=h;rw [hn] at h1;cases h1
 | fn=>exact h.elim
 | scr=>exact h.elim
 | ktp=>exact h.elim
 | kdc=>exact h.elim
 | dF=>exact h.elim
 | ins=>obtain ⟨C,dx,vs,h0,h1,h3,h2⟩:=h;rw [h1] at ho;cases ho;exact ⟨a,C,dx,vs,rfl,h0,hr,h3,h2.mono le⟩
@[simp] noncomputable def wA:D->Bool:=fun _=>false
theorem freeze {fr:Bool}(s:Step H g H' g') (w:WOk Γ H' g' S) (h:VOk Γ H d fr v H' g') (hi:wA d=false):∃ g2,Step H g H' g2/\WOk Γ H' g2 S/\Has Γ g2 d v/\Le g' g2:=by
 cases fr with
 | false=>exact ⟨g',s,w,h,Le.refl _⟩
 | true=>
  obtain ⟨a,rfl,h0,hn,ha,hc⟩:=(show ∃ a,v=.ref a/\H a=none/\g'.R a=none/\a ∉ g'.α/\zY Γ H' g' a d from h)
  obtain ⟨o,ho,_⟩:=hc.qU;exact ⟨g'.put a o,s.put hn h0,w.put ho hn ha,kO hn ho hc,Le.put hn⟩
theorem zdy (s:Step H g H' g') (w:WOk Γ H' g' S) (h:VOk Γ H d true v H' g'):∃ g2,Step H g H' g2/\WOk Γ H' g2 (S++[d])/\Has Γ g2 (.ref S.length) v:=by
 obtain ⟨a,rfl,h0,hn,ha,hc⟩:=(show ∃ a,v=.ref a/\H a=none/\g'.R a=none/\a ∉ g'.α/\zY Γ H' g' a d from h)
 refine ⟨g'.cell a,⟨s.le.trans Le.cell,s.fr,s.ex,fun b hb=>?_,s.nr⟩,⟨w.rh,?_,?_,fun k c b h1 h2 h3=>?_,fun k c b h1 h2=>?_⟩,a,?_,rfl⟩
 ·rcases bc.mp hb with q | q
  ·exact s.na b q
  ·rw [Μ.mp q];exact .inr h0
 ·show (g'.α++[a]).length=(S++[d]).length
  simp [w.len]
 ·show (g'.α++[a]).Nodup
  exact nd_snocA w.nd ha
 ·have h2':(g'.α++[a])[k]?=some b:=h2;by_cases hk:k < S.length
  ·rw [ϖ hk] at h1;rw [ϖ (by rw [w.len];exact hk)] at h2';exact w.off k c b h1 h2' h3
  ·rw [ϒ (by rw [w.len];lia)] at h2';have:=ϡ h2';rw [Μ.mp this];exact hn
 ·have h2':(g'.α++[a])[k]?=some b:=h2;by_cases hk:k < S.length
  ·rw [ϖ hk] at h1;rw [ϖ (by rw [w.len];exact hk)] at h2';exact (w.cell k c b h1 h2').mono Le.cell fun _ q=>q
  ·rw [ϒ (by lia)] at h1;rw [ϒ (by rw [w.len];lia)] at h2';have e0:k - S.length=0:=by
    cases q:k - S.length with
    | zero=>rfl
    | succ n=>rw [q] at h1;simp at h1
   rw [e0] at h1;rw [w.len,e0] at h2';simp at h1 h2';subst h1 h2';exact hc.mono Le.cell fun _ q=>q
 ·show (g'.α++[a])[S.length]?=some a
  rw [<- w.len];simp
where
 nd_snocA:∀ {l:List Addr}{k:Addr},l.Nodup->¬ k∈l->(l++[k]).Nodup:=fun {l k} h hk=>by rw [mq];exact ⟨h,by simp,fun x hx y hy=>by rw [Μ.mp hy];rintro rfl;exact hk hx⟩
end
end EV
namespace TS
open PySem PyProof.Rows
set_option backward.match.sparseCases true
variable {O:KeyOrd}{key:dU->O.α}{G:dU->Prop}{kd:SortKind}{M:Model}{A:Ϗ}{E:δ->ν->Prop}{s:ν}
section
noncomputable def dk:dU:=(.none,.none)
noncomputable def kk (key:dU->O.α) (xs:Array dU) (i:Nat):O.α:=key (xs[i]?.getD dk)
def Srt (key:dU->O.α) (xs:Array dU) (lo hi:Nat):Prop:=∀ i j,lo<=i->i<=j->j < hi->O.kle (kk key xs i) (kk key xs j)
structure Bs (G:dU->Prop) (kd:SortKind) (az:Array dU) (p:Array (Nat×Nat×Nat)) (st:SortSt):Prop where
 perm:(arrOf st).Perm az
 good:∀ x∈az.toList,G x
 kind:kindOf st=kd
 failed:failedOf st=none
 pend:pendingOf st=p
variable {az:Array dU}{p:Array (Nat×Nat×Nat)}
theorem Bs.size {st:SortSt}(h:Bs G kd az p st):(arrOf st).size=az.size:=h.perm.size_eq
theorem Bs.set {st:SortSt}(h:Bs G kd az p st) {xs:Array dU}(q:xs.Perm (arrOf st)):Bs G kd az p (setArr st xs):=⟨q.trans h.perm,h.good,h.kind,h.failed,h.pend⟩
theorem Bs.item {st:SortSt}(h:Bs G kd az p st) {i:Nat}(hi:i < az.size):∃ x,(arrOf st)[i]?=some x/\G x/\kk key (arrOf st) i=key x:=by
 have hi':i < (arrOf st).size:=by rw [h.size];exact hi
 have e:(arrOf st)[i]?=some (arrOf st)[i]:=getElem?_pos _ i hi';refine ⟨(arrOf st)[i],e,h.good _ ((Array.perm_iff_toList_perm.mp h.perm).mem_iff.mp (by simp)),?_⟩;unfold kk;rw [e];rfl
theorem Srt.one {xs:Array dU}{lo:Nat}:Srt key xs lo (lo+1):=fun i j h1 h2 h3=>by
 obtain rfl:i=j:=by lia
 exact KeyOrd.kle_refl _
def Fal (key:dU->O.α) (xs:Array dU) (lo hi:Nat):Prop:=∀ i j,lo<=i->i<=j->j < hi->O.kle (kk key xs j) (kk key xs i)
theorem Fal.same {xs ys:Array dU}{lo hi:Nat}(h:Fal key xs lo hi) (e:∀ k,kk key ys k=kk key xs k):Fal key ys lo hi:=fun i j a b c=>by rw [e,e];exact h i j a b c
end
def zgO:List δ->List Int->Prop
 | [],[]=>True
 | v::vs,n::ns=>(∃ t,v=.int n t)/\zgO vs ns
 | _,_=>False
section
variable {prog:Τ}{w:ϙ}{kz:δ->List Int}
structure Tu (kz:δ->List Int) (h:Heap) (v:δ):Prop where
 it:∃ b o xs m,v=.ref b/\h.get? b=some o/\o.cls=.type "tuple"/\o.data=.seq xs m/\zgO xs.toList (kz v)
 ne:kz v≠[]
theorem Tu.keep {h h':Heap}{v:δ}(t:Tu kz h v) (k:∀ b o,v=.ref b->h.get? b=some o->h'.get? b=some o):Tu kz h' v:=by obtain ⟨⟨b,o,xs,m,e1,e2,e3,e4,e5⟩,n⟩:=t;exact ⟨⟨b,o,xs,m,e1,k b o e1 e2,e3,e4,e5⟩,n⟩
end
noncomputable def txOf:Int×δ->Str
 | (_,.str x _)=>x
 | _=>⟨#[]⟩
section
variable {prog:Τ}{w:ϙ}
def Tx (w:ϙ) (e:Int×δ):Prop:=∃ x t,e=(hashStr w x,ϴ x t)
structure St (w:ϙ) (h:Heap) (a:Addr) (led:Bool) (es:Array (Int×δ)) (ep:Nat) (tb:gW):Prop where
 at_:∃ o,h.get? a=some o/\o.ExactSet/\o.data=.set es ep tb
 tx:∀ e∈es.toList,Tx w e
 fit:tb.fits es.size=true
 led_:tb.led=led
 pl:es.size=0\/tb.plain=false
def Ts (w:ϙ) (h:Heap) (a:Addr) (led:Bool) (ks:List Str):Prop:=∃ es ep tb,St w h a led es ep tb/\(es.toList.map txOf).Perm ks
theorem St.el {h:Heap}{a:Addr}{led:Bool}{es:Array (Int×δ)}{ep:Nat}{tb:gW}(z:∀ e∈es.toList,Tx w e):ElemsOf (PySem.strKind prog w) es.toList:=fun e he=>by obtain ⟨x,t,rfl⟩:=z e he;exact ⟨⟨x,by simp [PySem.strKind,iz],rfl⟩,rfl⟩
theorem Ts.keep {h h':Heap}{a:Addr}{led:Bool}{ks:List Str}(t:Ts w h a led ks) (k:∀ o,h.get? a=some o->h'.get? a=some o):Ts w h' a led ks:=by obtain ⟨es,ep,tb,⟨⟨o,ho,r⟩,x1,x2,x3,x4⟩,pm⟩:=t;exact ⟨es,ep,tb,⟨⟨o,k o ho,r⟩,x1,x2,x3,x4⟩,pm⟩
structure Row (prog:Τ) (w:ϙ) (T:String) (l:Addr) (its:Array δ) (OK:Heap->Prop) (Sx:Addr->Nat->Heap->Prop) (itO:Obj):Prop where
 there:∀ h,OK h->∃ o,h.get? l=some o/\o.cls=.type T
 keep:∀ h h',OK h->(∀ o,h.get? l=some o->h'.get? l=some o)->OK h'
 it:∀ {A:Ϗ}{E:δ->ν->Prop}{s:ν}{Q:δ->ν->Prop},OK s.heap->Q (.ref s.heap.objs.size) { s with heap:=s.heap.push itO }->Θ (Ξ prog w) A (pyIter (.ref l)) Q E s
 wk:∀ {A:Ϗ}(I:Addr),A.handled=none->l≠I->Walks prog w A I [I,l] [I] its.size (fun i v=>its[i]?=some v) (Sx I)
 st:∀ h,OK h->Sx h.objs.size 0 (h.push itO)
 n1:isSubtype (.type T) (.type "set")=pure false
 n2:isSubtype (.type T) (.type "frozenset")=pure false
 n3:(cP T==cP "dict")=false
noncomputable def SI (f:δ) (i n ep:Nat) (a:Addr):Obj:={ cls:=.type "set_iterator",data:=.fields #[f,.int i 0,.ref a,.int n 0,.int ep 0] }
def Fst (w:ϙ) (h:Heap) (I a tp:Addr) (es:Array (Int×δ)) (ep:Nat) (tb:gW) (ord:List (Int×δ)) (i:Nat) (f:δ):Prop:=
 (w.params.followText "set-order"=true/\(∃ k:Nat,f=.int k 0)/\ord=(pickOrder (w.params.setOrder a ep) es).toList) \/
 (w.params.followText "set-order"=false/\∃ (js:List Nat),f=.ref tp/\tp≠I/\(∃ o n,h.get? tp=some o/\o.data=.seq (js.map fun j:Nat=>Ϧ j 0).toArray n)/\js.length=ord.length/\∀ (k:Nat) j,js[k]?=some j->es[j]?=ord[k]?) \/
 (w.params.followText "set-order"=false/\es.size<=1/\tb.led=true/\ord=es.toList/\f=.int (if i=0 then 0 else tb.place.getD 0 0+1:Nat) 0)
end
section
variable {prog:Τ}{w:ϙ}{I a tp:Addr}{led:Bool}{es:Array (Int×δ)}{ep:Nat}{tb:gW}{ord:List (Int×δ)}{i:Nat}{f:δ}
structure Wk (w:ϙ) (h:Heap) (I a tp:Addr) (led:Bool) (es:Array (Int×δ)) (ep:Nat) (tb:gW) (ord:List (Int×δ)) (i:Nat):Prop where
 ne:a≠I
 st:St w h a led es ep tb
 it:∃ f,h.get? I=some (SI f i es.size ep a)/\Fst w h I a tp es ep tb ord i f
theorem Wk.keep {h h':Heap}(k:Wk w h I a tp led es ep tb ord i) (kk:∀ b∈[I,a,tp],∀ o,h.get? b=some o->h'.get? b=some o):Wk w h' I a tp led es ep tb ord i:=by
 obtain ⟨ne,⟨⟨so,so1,so2⟩,z1,z2,z3,z4⟩,f,ho,fs⟩:=k;refine ⟨ne,⟨⟨so,kk a (by simp) so so1,so2⟩,z1,z2,z3,z4⟩,f,kk _ (by simp) _ ho,?_⟩;rcases fs with c | ⟨c1,js,c2,c3,⟨o,n,c4,c5⟩,c6⟩ | c
 ·exact .inl c
 ·exact .inr (.inl ⟨c1,js,c2,c3,⟨o,n,kk _ (by simp) _ c4,c5⟩,c6⟩)
 ·exact .inr (.inr c)
end
open PySem PyProof.Rows PySem.W
section
variable {prog:Τ}{w:ϙ}
def Raw (h:Heap) (d:Addr) (es:Array iH) (ep:Nat):Prop:=∃ o,h.get? d=some o/\o.ExactDict/\o.data=.dict es ep
theorem Raw.typeIs {d:Addr}{ep:Nat}{es:Array iH}(hm:Raw s.heap d es ep):s.TypeIs (.ref d) "dict":=let ⟨o,ho,hc,_⟩:=hm;⟨o,ho,hc.1⟩
theorem Raw.keep {h h':Heap}{d:Addr}{ep:Nat}{es:Array iH}(hm:Raw h d es ep) (k:∀ o,h.get? d=some o->h'.get? d=some o):Raw h' d es ep:=let ⟨o,ho,r⟩:=hm;⟨o,k o ho,r⟩
end
end TS
namespace EV
open PySem L2
theorem non (h:false=true):false=true:=h
theorem nobE {p:Prop}(h:false=true):p:=nomatch h
noncomputable def LIM:Nat:=1000000
noncomputable def fits (n:Nat):Bool:=n<=LIM
noncomputable def z7 (i:Int):Bool:=decide (-(2 ^ 64) < i)&&decide (i < 2 ^ 64)
noncomputable def addD:D->D->Option (D×Bool)
 | .int i,.int j=>some (.int (i+j),false)
 | .str x,.str y=>if fits (x.length+y.length) then some (.str (x++y),false) else none
 | .tup a,.tup b=>if fits (a.length+b.length) then some (.tup (a++b),false) else none
 | .lst a,.lst b=>if fits (a.length+b.length) then some (.lst (a++b),true) else none
 | _,_=>none
noncomputable def mulD:D->D->Option (D×Bool)
 | .int i,.int j=>if z7 i||z7 j then some (.int (i*j),false) else none
 | .str x,.int n=>if (decide (2<=n)&&decide (n < 2 ^ 20)&&!(x.length==0)&&fits (x.length*n.toNat))=true then some (.str ⟨(Ι n.toNat x.cps).foldl (·++·) #[]⟩,false) else none
 | _,_=>none
noncomputable def num2 (f:Int->Int->Option Int):D->D->Option (D×Bool)
 | .int i,.int j=>(f i j).map fun k=>(.int k,false)
 | _,_=>none
noncomputable def opD (op:aN) (a b:D):Option (D×Bool):=match op with
 | .Add=>addD a b
 | .Sub=>num2 (fun i j=>some (i - j)) a b
 | .Mult=>mulD a b
 | .FloorDiv=>num2 (fun i j=>if decide (0 < j)&&decide (j < 2 ^ 64) then some (i / j) else none) a b
 | .Mod=>num2 (fun i j=>if decide (0 < j) then some (i % j) else none) a b
 | .Pow=>num2 (fun i j=>if decide (0<=j)&&decide (j<=1000000)&&z7 i then some (i ^ j.toNat) else none) a b
 | _=>none
mutual
noncomputable def eqP:D->D->Bool
 | .non,.non=>true
 | .bl a,.bl b=>a==b
 | .bl a,.int j=>(if a then 1 else 0)==j
 | .int i,.bl b=>i==(if b then 1 else 0)
 | .int a,.int b=>a==b
 | .str a,.str b=>a==b
 | .tup a,.tup b=>eqPs a b
 | .lst a,.lst b=>eqPs a b
 | _,_=>false
noncomputable def eqPs:List D->List D->Bool
 | [],[]=>true
 | a::as,b::bs=>eqP a b&&eqPs as bs
 | _,_=>false
end
mutual
noncomputable def okP:Nat->D->Bool
 | _,.non=>true
 | _,.bl _=>true
 | _,.int _=>true
 | _,.str _=>true
 | 0,.tup _=>false
 | n+1,.tup a=>okPs n a
 | 0,.lst _=>false
 | n+1,.lst a=>okPs n a
 | _,_=>false
noncomputable def okPs:Nat->List D->Bool
 | _,[]=>true
 | n,a::as=>okP n a&&okPs n as
end
noncomputable def eqD (a b:D):Option Bool:=if okP 60 a&&okP 60 b then some (eqP a b) else none
noncomputable def keyD:D->Option Key
 | .int i=>some (.inl i)
 | .str x=>some (.inr x)
 | _=>none
noncomputable def qM:List D->Option (List Key)
 | []=>some []
 | d::ds=>match keyD d,qM ds with
  | some k,some ks=>some (k::ks)
  | _,_=>none
noncomputable def qZ {κ:Type} [DecidableEq κ]:List κ->κ->Option Nat
 | [],_=>none
 | k::ks,x=>if k=x then some 0 else (qZ ks x).map (·+1)
noncomputable def xu {κ:Type} [DecidableEq κ] (ks:List κ) (ds:List D) (k:κ):Option D:=(qZ ks k).bind fun i=>ds[i]?
noncomputable def mapK {κ α:Type} [DecidableEq κ]:List κ->List α->κ->α->List α
 | k::ks,d::ds,x,y=>(if k=x then y else d)::mapK ks ds x y
 | _,ds,_,_=>ds
noncomputable def hasK {κ:Type} [DecidableEq κ] (ks:List κ) (k:κ):Bool:=ks.any fun x=>decide (x=k)
noncomputable def yq {κ α:Type} [DecidableEq κ] (ks:List κ) (ds:List α) (k:κ) (d:α):List κ×List α:=
 if hasK ks k=true then (ks,mapK ks ds k d) else (ks++[k],ds++[d])
noncomputable def isNone:D->Bool
 | .non=>true
 | _=>false
noncomputable def vZ:D->D->Option (Option D)
 | .dK ks ds,k=>(keyD k).map (xu ks ds)
 | .dT ks ds,.tup t=>(qM t).map (xu ks ds)
 | .dF ks ds,.tup t=>(qM t).map (xu ks ds)
 | _,_=>none
noncomputable def isSc:D->Bool
 | .lst _=>false
 | d=>okP 59 d
noncomputable def isStr:D->Bool
 | .str _=>true
 | _=>false
noncomputable def isLs:D->Bool
 | .lst _=>true
 | _=>false
noncomputable def memD (l:List D) (d:D):Option Bool:=if isSc d&&l.all isSc then some (l.any fun y=>eqP y d) else if isLs d&&l.all isStr then some false else none
noncomputable def zF (S:Store):D->D
 | .ref k=>(S[k]?).getD .non
 | d=>d
noncomputable def int2 (f:Int->Int->Bool):D->D->Option Bool
 | .int i,.int j=>some (f i j)
 | _,_=>none
noncomputable def isD (a:D):D->Option Bool
  | .non=>some (isNone a)
  | .bl b=>(match a with
    | .bl a=>some (a==b)
    | _=>none)
  | _=>none
noncomputable def inD (a:D):D->Option Bool
  | .lst l=>memD l a
  | .tup l=>memD l a
  | .ktp l=>memD l a
  | .str y=>(match a with
    | .str x=>some (!(Φ y x 0 y.length 1).isEmpty)
    | _=>none)
  | .dK ks ds=>(vZ (.dK ks ds) a).map (·.isSome)
  | .dT ks ds=>(vZ (.dT ks ds) a).map (·.isSome)
  | .dF ks ds=>(vZ (.dF ks ds) a).map (·.isSome)
  | _=>none
noncomputable def vX:List D->Option (List Int)
 | []=>some []
 | .int i::r=>(vX r).map (i::·)
 | _::_=>none
noncomputable def neD:D->D->Option Bool
 | .dK ks vs,.dK ks' vs'=>if decide (ks=ks')&&decide ks.Nodup&&decide (vX vs=vX vs')&&(vX vs).isSome then some false else none
 | a,b=>(eqD a b).map (!·)
noncomputable def cmpD (op:dW) (a b:D):Option Bool:=match op with
 | .Eq=>eqD a b
 | .NotEq=>neD a b
 | .Lt=>int2 (fun i j=>decide (i < j)) a b
 | .LtE=>int2 (fun i j=>decide (i<=j)) a b
 | .Gt=>int2 (fun i j=>decide (j < i)) a b
 | .GtE=>int2 (fun i j=>decide (j<=i)) a b
 | .Is=>isD a b
 | .IsNot=>(isD a b).map (!·)
 | .In=>inD a b
 | .NotIn=>(inD a b).map (!·)
noncomputable abbrev idx (n:Nat) (i:Int):Option Nat:=ixN n i
noncomputable def subD:D->D->Option D
 | .tup l,.int i=>(idx l.length i).bind fun k=>l[k]?
 | .lst l,.int i=>(idx l.length i).bind fun k=>l[k]?
 | .scr l,.int i=>(idx l.length i).bind fun k=>(l[k]?).map D.int
 | .str x,.int i=>if fits x.length then (idx x.cps.toList.length i).bind fun k=>(x.cps.toList[k]?).map fun c=>.str ⟨#[c]⟩ else none
 | .dK ks ds,k=>(vZ (.dK ks ds) k).bind id
 | .dT ks ds,k=>(vZ (.dT ks ds) k).bind id
 | .dF ks ds,k=>(vZ (.dF ks ds) k).bind id
 | _,_=>none
noncomputable def cutD (l:List D) (lo hi:Option Int):List D:=(l.drop (HT.sIx l.length 0 lo)).take (HT.sIx l.length l.length hi - HT.sIx l.length 0 lo)
noncomputable def slcD (d:D) (lo hi:Option Int):Option (D×Bool):=
 match d with
 | .tup l=>some (.tup (cutD l lo hi),false)
 | .lst l=>some (.lst (cutD l lo hi),true)
 | .scr l=>some (.lst (cutD (l.map D.int) lo hi),true)
 | .str x=>if fits x.length then some (.str (fL x lo hi),false) else none
 | _=>none
noncomputable def insD (l:List D):List D->Option (List D)
 | [.int j,d]=>if (decide (0<=j)&&decide (j<=l.length)&&fits (l.length+1))=true then some (l.take j.toNat++d::l.drop j.toNat) else none
 | _=>none
noncomputable def putN (f:Str):List Str->List Str
 | []=>[f]
 | g::r=>if g=f then g::r else g::putN f r
noncomputable def putA {α:Type}(f:Str) (d:α):List Str->List α->List α
 | g::r,x::l=>if g=f then d::l else x::putA f d r l
 | _,_=>[d]
noncomputable def augD (op:aN):D->D->Option D
  | .int i,.int j=>(match op with
    | .Add=>some (.int (i+j))
    | .Sub=>some (.int (i - j))
    | _=>none)
  | _,_=>none
noncomputable def dk1D:List D->Option D
 | [.tup t,v]=>(qM t).map fun k=>.dT [k] [v]
 | _=>none
noncomputable def zgm:D->Option (D×Bool)
 | .lst l=>some (.lst l.reverse,true)
 | .tup l=>some (.tup l.reverse,false)
 | _=>none
noncomputable def jE:List D->Option (List Bool)
 | []=>some []
 | .bl b::r=>(jE r).map (b::·)
 | _::_=>none
noncomputable def isTy:Ty->D->Option Bool
 | t,.int _=>some (t==.int)
 | t,.bl _=>some (t==.bool||t==.int)
 | t,.str _=>some (t==.str)
 | t,.tup _=>some (t==.tuple)
 | t,.lst _=>some (t==.list)
 | t,.dK _ _=>some (t==.dict)
 | t,.non=>some false
 | _,_=>none
noncomputable def seqD:D->Option (List D)
 | .tup l=>some l
 | .lst l=>some l
 | .scr l=>some (l.map D.int)
 | .ktp l=>some l
 | _=>none
noncomputable def itrD:D->Option (List D)
 | .str x=>some (x.cps.toList.map fun c=>.str ⟨#[c]⟩)
 | d=>seqD d
noncomputable def lenD:D->Option (D×Bool)
 | .tup l=>some (.int l.length,false)
 | .lst l=>some (.int l.length,false)
 | .scr l=>some (.int l.length,false)
 | .str x=>if fits x.length then some (.int x.length,false) else none
 | .dK ks _=>some (.int ks.length,false)
 | _=>none
noncomputable def absD:D->Option (D×Bool)
 | .int i=>some (.int (if i < 0 then -i else i),false)
 | _=>none
noncomputable def intOf:D->Option (D×Bool)
 | .str x=>if decide (x.length<=640)=true then (dR x).map fun n=>(.int n,false) else none
 | .bl b=>some (.int (if b then 1 else 0),false)
 | .int i=>some (.int i,false)
 | _=>none
noncomputable def lotD:D->Option (List D)
 | .lst l=>some l
 | .tup l=>some l
 | _=>none
noncomputable def lstD:D->Option (List D)
 | .str x=>if fits x.length then some (x.cps.toList.map fun c=>.str ⟨#[c]⟩) else none
 | d=>lotD d
noncomputable def onL (f:List D->Option D):D->Option (D×Bool)
 | .lst l=>(f l).map fun d=>(d,false)
 | _=>none
noncomputable def keyOf:Key->D
 | .inl i=>.int i
 | .inr x=>.str x
noncomputable def zby:List (List Key)->List D->List D
 | k::ks,d::ds=>.tup [.tup (k.map keyOf),d]::zby ks ds
 | _,_=>[]
noncomputable def qz:List D->Option (List Str)
 | []=>some []
 | .str x::r=>(qz r).map (x::·)
 | _::_=>none
noncomputable def strD:D->Option (D×Bool)
 | .int i=>if decide (i.natAbs.log2 < 1920) then some (.str (toString i),false) else none
 | .str x=>some (.str x,false)
 | _=>none
noncomputable def zh5 (x:Str) (d:D):Option (D×Bool):=((lotD d).bind qz).bind fun ys=>if fits ((ys.map (·.length)).sum+ys.length*x.length) then some (.str (gj x ys),false) else none
noncomputable def bi2:BI->D->D->Option (D×Bool)
 | .max2,d,e=>num2 (fun i j=>some (if j > i then j else i)) d e
 | _,_,_=>none
noncomputable def biD (b:BI) (ds:List D):Option (D×Bool):=match ds with
  | [d]=>(match b with
    | .len=>lenD d
    | .abs=>absD d
    | .int=>intOf d
    | .list=>(lstD d).map fun l=>(.lst l,true)
    | .sum=>onL (fun l=>(vX l).map fun ns=>.int ns.sum) d
    | .all=>onL (fun l=>(jE l).map fun bs=>.bl (bs.all id)) d
    | .isinst t=>(isTy t d).map fun b=>(.bl b,false)
    | .str=>strD d
    | _=>none)
  | [d,e]=>bi2 b d e
  | _=>none
noncomputable def mthK:MT->D->Bool
 | .join,.str _=>true
 | .sidx,.str _=>true
 | _,_=>false
noncomputable def zg4 (x:Str):D->Option (D×Bool)
 | .str y=>(Φ x y 0 x.length 1).head?.map fun (i:Nat)=>(.int (i:Int),false)
 | _=>none
noncomputable def mthD:MT->D->List D->Option (D×Bool)
 | .index,_,_=>none
 | .get1,_,_=>none
 | .get2,_,_=>none
 | .join,.str x,[d]=>zh5 x d
 | .split,_,_=>none
 | .sidx,.str x,[d]=>zg4 x d
 | _,_,_=>none
noncomputable def nT:T->Nat
 | .one _=>1
 | .nst _ is=>1+is.length
 | .tup is=>is.length
noncomputable def zgp:Nat->List D->List D
 | _,[]=>[]
 | n,d::ds=>.tup [.int n,d]::zgp (n+1) ds
noncomputable def zib:D->Option (List D)
 | .tup l=>some l
 | .lst l=>some l
 | _=>none
noncomputable def pairD:List D->List D->List D
 | a::as,b::bs=>.tup [a,b]::pairD as bs
 | _,_=>[]
noncomputable def tup2:D->D->Option (List D)
 | .tup a,.tup b=>some (pairD a b)
 | _,_=>none
noncomputable def yC (lo hi:Int):List D:=(ϛ (hi - lo).toNat).map fun (k:Nat)=>.int (lo+(k:Int))
noncomputable def dwnD:List D->Option (List D)
 | [.int i,.int j,.int k]=>if (decide (k=-1)&&decide (-1000000<=i)&&decide (i<=1000000)&&decide (-1000000<=j)&&decide (j<=1000000))=true then some (yC (j+1) (i+1)).reverse else none
 | _=>none
noncomputable def zgx (tk:Bool) (ks:List Key) (ds:List D):Bool:=decide (ks.length=ds.length)&&decide ks.Nodup&&decide (ks.length<=15)&&(!tk||ks.isEmpty)
inductive Slot where
 | no | sh (d:D) | ow (d:D)
 deriving Inhabited
inductive O where
 | next (ρ:List Slot) | ret (d:D) (fr:Bool) | brk (ρ:List Slot) | cnt (ρ:List Slot)
noncomputable def nst2:D->Option (D×List D)
  | .tup l=>(match l with
    | x::r=>(match r with
      | y::z=>(match z with
        | []=>(match y with
          | .tup ds=>some (x,ds)
          | _=>none)
        | _=>none)
      | _=>none)
    | _=>none)
  | _=>none
theorem zcP {d:D}{p:D×List D}(h:nst2 d=some p):d=.tup [p.1,.tup p.2]:=by
 cases d with
 | tup l=>
  cases l with
  | nil=>cases h
  | cons x r=>
   cases r with
   | nil=>cases h
   | cons y z=>
    cases z with
    | cons _ _=>cases h
    | nil=>
     cases y with
     | tup ds=>cases h;rfl
     | _=>cases h
 | _=>cases h
noncomputable def yR (ρ:List Slot):T->D×Bool->Option (List Slot)
 | .one i,(d,fr)=>if i < ρ.length&&!wA d then some (ρ.set i (if fr=true then .ow d else .sh d)) else none
 | .tup is,(.tup ds,_)=>if is.length=ds.length/\is.Nodup/\is.all (· < ρ.length) then some ((is.zip ds).foldl (fun r p=>r.set p.1 (.sh p.2)) ρ) else none
 | .nst i is,(d,_)=>(nst2 d).bind fun p=>if i < ρ.length/\is.length=p.2.length/\is.Nodup/\is.all (· < ρ.length) then some ((is.zip p.2).foldl (fun r p=>r.set p.1 (.sh p.2)) (ρ.set i (.sh p.1))) else none
 | _,_=>none
noncomputable def putD:D->D->D->Option D
 | .lst l,.int i,d=>(idx l.length i).map fun k=>.lst (l.set k d)
 | .dK ks ds,k,d=>(keyD k).bind fun k=>if fits (ks.length+1) then some (let p:=yq ks ds k d;.dK p.1 p.2) else none
 | .dT ks ds,.tup t,d=>(qM t).bind fun k=>if fits (ks.length+1) then some (let p:=yq ks ds k d;.dT p.1 p.2) else none
 | _,_,_=>none
noncomputable def zh6:Option D->Bool
 | some (.lst _)=>true
 | _=>false
noncomputable def extD:D->Option (List D)
 | .lst l=>some l
 | .tup l=>some l
 | _=>none
noncomputable def entry (fn:Fn) (ds:List D):List Slot:=ds.map Slot.sh++Ι (fn.nv - ds.length) Slot.no
inductive Kd where
 | st | fr | bo
noncomputable abbrev Vl:=D×Kd
abbrev Po:=Vl->Store->Prop
abbrev Cf:=Nat->List D->Po->Store->Prop
noncomputable def kd:Bool->Kd
 | true=>.fr
 | false=>.st
noncomputable def ofB (p:D×Bool):Vl:=(p.1,kd p.2)
def opt {α:Type}:Option α->(α->Prop)->Prop
 | some a,Q=>Q a
 | none,_=>False
def opV (o:Option (D×Bool)) (Q:Vl->Prop):Prop:=opt o fun p=>Q (ofB p)
def optS:Option (List Slot)->(List Slot->Prop)->Prop:=opt
def tst:Bool->Prop->Prop->Prop
 | true,T,_=>T
 | false,_,F=>F
def isB:D->(Bool->Prop)->Prop
 | .bl b,Q=>Q b
 | _,_=>False
def isF:D->(Nat->Prop)->Prop
 | .fn f,Q=>Q f
 | _,_=>False
def isZ:D->(Int->Prop)->Prop
 | .int i,Q=>Q i
 | _,_=>False
def keep:Vl->(D->Prop)->Prop
 | (d,.st),Q=>Q d
 | (d,.fr),Q=>Q d
 | _,_=>False
def sel:Option Slot->(D->Prop)->(D->Prop)->Prop
 | some (.sh d),Q,_=>Q d
 | some (.ow d),_,Q=>Q d
 | _,_,_=>False
def rdV (s:Option Slot) (Q:Vl->Prop):Prop:=sel s (fun d=>Q (d,.st)) (fun d=>Q (d,.bo))
def boxd:Vl->(D->Prop)->Prop
 | (d,.fr),Q=>Q d
 | _,_=>False
def uR (step:D->(Option D->Store->Prop)->Store->Prop):List D->List D->(List D->Store->Prop)->Store->Prop
 | [],acc,V,S=>V acc S
 | d::ds,acc,V,S=>step d (fun o S1=>match o with
  | some x=>tst (fits (acc.length+1)) (uR step ds (acc++[x]) V S1) False
  | none=>uR step ds acc V S1) S
noncomputable def inn (ρ:List Slot) (t:T) (js:List Nat):List Slot:=Ι (nT t) .no++js.map fun j=>(ρ[j]?).getD .no
noncomputable def dicV (tk:Bool) (ks:List Key) (ds:List D):D:=if tk=true then .dT [] [] else .dK ks ds
def isR:D->(Nat->Prop)->Prop
 | .ref n,Q=>Q n
 | _,_=>False
def isDT:Option D->(List (List Key)->List D->Prop)->Prop
 | some (.dT ks ds),Q=>Q ks ds
 | _,_=>False
def owT:Option Slot->(List (List Key)->List D->Prop)->Prop
 | some (.ow (.dT ks ds)),Q=>Q ks ds
 | _,_=>False
theorem zbm {s:Option Slot}{Q:List (List Key)->List D->Prop}(h:owT s Q):∃ ks ds,s=some (.ow (.dT ks ds))/\Q ks ds:=by
 unfold owT at h;split at h
 ·exact ⟨_,_,rfl,h⟩
 ·exact h.elim
theorem zc5 {s:Option D}{Q:List (List Key)->List D->Prop}(h:isDT s Q):∃ ks ds,s=some (.dT ks ds)/\Q ks ds:=by
 cases s with
 | none=>exact h.elim
 | some s=>
  cases s with
  | dT ks ds=>exact ⟨ks,ds,rfl,h⟩
  | _=>exact h.elim
theorem zfZ {s:Option D}{ks:List (List Key)}{ds:List D}{Q:List (List Key)->List D->Prop}(h:s=some (.dT ks ds)) (q:Q ks ds):isDT s Q:=by subst h;exact q
theorem isRr {s:D}{Q:Nat->Prop}(h:isR s Q):∃ n,s=.ref n/\Q n:=by
 cases s with
 | ref n=>exact ⟨n,rfl,h⟩
 | _=>exact h.elim
def isOb (S:Store) (d:D) (Q:Nat->Str->List Str->List D->Prop):Prop:=isR d fun k=>match S[k]? with
 | some (.ins c ns ds)=>Q k c ns ds
 | _=>False
set_option tactic.hygienic true in
theorem qR {S:Store}{d:D}{Q:Nat->Str->List Str->List D->Prop}(h:isOb S d Q):∃ k c ns ds,d=.ref k/\S[k]?=some (.ins c ns ds)/\Q k c ns ds:=by
 obtain ⟨k,rfl,q⟩:=isRr h;split at q
 ·rename_i e;exact ⟨k,_,_,_,rfl,e,q⟩
 ·exact q.elim
theorem xZ {S:Store}{k:Nat}{c:Str}{ns:List Str}{ds:List D}{Q:Nat->Str->List Str->List D->Prop}(e:S[k]?=some (.ins c ns ds)) (q:Q k c ns ds):isOb S (.ref k) Q:=by
  show (match S[k]? with
    | some (.ins c ns ds)=>Q k c ns ds
    | _=>False)
  rw [e];exact q
def isN:D->Prop->Prop
 | .non,P=>P
 | _,_=>False
theorem zbC {d:D}{P:Prop}(h:isN d P):d=.non/\P:=by
 cases d with
 | non=>exact ⟨rfl,h⟩
 | _=>exact h.elim
mutual
def wpE (cf:Cf) (ρ:List Slot):E->Po->Store->Prop
 | .var i,V,S=>rdV ρ[i]? fun x=>V x S
 | .con d,V,S=>V (d,.st) S
 | .glo _ d,V,S=>V (d,.st) S
 | .bin op a b,V,S=>wpE cf ρ a (fun x S1=>wpE cf ρ b (fun y S2=>opV (opD op (zF S2 x.1) (zF S2 y.1)) fun x=>V x S2) S1) S
 | .neg a,V,S=>wpE cf ρ a (fun x S1=>isZ x.1 fun i=>V (.int (-i),.st) S1) S
 | .cmp op a b,V,S=>wpE cf ρ a (fun x S1=>wpE cf ρ b (fun y S2=>opt (cmpD op (zF S2 x.1) (zF S2 y.1)) fun r=>V (.bl r,.st) S2) S1) S
 | .chn o1 o2 a b c,V,S=>wpE cf ρ a (fun x S1=>wpE cf ρ b (fun y S2=>opt (cmpD o1 (zF S2 x.1) (zF S2 y.1)) fun r=>tst r (wpE cf ρ c (fun z S3=>opt (cmpD o2 (zF S3 y.1) (zF S3 z.1)) fun r=>V (.bl r,.st) S3) S2) (V (.bl false,.st) S2)) S1) S
 | .not a,V,S=>wpE cf ρ a (fun x S1=>isB x.1 fun b=>V (.bl (!b),.st) S1) S
 | .and a b,V,S=>wpE cf ρ a (fun x S1=>isB x.1 fun r=>tst r (wpE cf ρ b V S1) (V (.bl false,.st) S1)) S
 | .or a b,V,S=>wpE cf ρ a (fun x S1=>isB x.1 fun r=>tst r (V (.bl true,.st) S1) (wpE cf ρ b V S1)) S
 | .ite c a b,V,S=>wpE cf ρ c (fun x S1=>isB x.1 fun r=>tst r (wpE cf ρ a V S1) (wpE cf ρ b V S1)) S
 | .tup es,V,S=>wpEs cf ρ es (fun ds S1=>tst (fits ds.length) (V (.tup ds,.st) S1) False) S
 | .lst es,V,S=>wpEs cf ρ es (fun ds S1=>tst (fits ds.length) (V (.lst ds,.fr) S1) False) S
 | .dic tk ks es,V,S=>wpEs cf ρ es (fun ds S1=>tst (zgx tk ks ds) (V (dicV tk ks ds,.fr) S1) False) S
 | .sub a i,V,S=>wpE cf ρ a (fun x S1=>wpE cf ρ i (fun y S2=>opt (subD (zF S2 x.1) y.1) fun d=>V (d,.st) S2) S1) S
 | .slc a lo hi,V,S=>wpE cf ρ a (fun x S1=>wpO cf ρ lo (fun l S2=>wpO cf ρ hi (fun h S3=>opV (slcD (zF S3 x.1) l h) fun x=>V x S3) S2) S1) S
 | .bi b [e],V,S=>wpE cf ρ e (fun x S1=>opV (biD b [zF S1 x.1]) fun x=>V x S1) S
 | .bi b es,V,S=>wpEs cf ρ es (fun ds S1=>opV (biD b (ds.map (zF S1))) fun x=>V x S1) S
 | .mth m o es,V,S=>wpE cf ρ o (fun x S1=>tst (mthK m (zF S1 x.1)) (wpEs cf ρ es (fun ds S2=>opV (mthD m (zF S2 x.1) ds) fun x=>V x S2) S1) False) S
 | .call f es,V,S=>wpEs cf ρ es (fun ds S1=>cf f ds V S1) S
 | .callk f perm es,V,S=>wpEs cf ρ es (fun ds S1=>opt (perm.mapM fun i=>ds[i]?) fun ds=>cf f ds V S1) S
 | .comp t js it ifs elt,V,S=>wpI cf ρ it (fun its S1=>uR (fun d K S=>optS (yR (inn ρ t js) t (d,false)) fun ρ'=>wpF cf ρ' ifs (fun b S1=>tst b (wpE cf ρ' elt (fun x S2=>keep x fun d=>K (some d) S2) S1) (K none S1)) S) its [] (fun ds S2=>V (.lst ds,.fr) S2) S1) S
 | .box e,V,S=>wpE cf ρ e (fun x S1=>boxd x fun d=>V (.ref S1.length,.st) (S1++[d])) S
 | .callv i es,V,S=>rdV ρ[i]? fun x=>isF x.1 fun f=>wpEs cf ρ es (fun ds S1=>cf f ds V S1) S
 | .one e,V,S=>wpE cf ρ e V S
 | .dk1 a b,V,S=>wpE cf ρ a (fun x S1=>keep x fun d=>wpE cf ρ b (fun y S2=>keep y fun e=>opt (dk1D [d,e]) fun r=>V (r,.fr) S2) S1) S
 | .flip e,V,S=>wpE cf ρ e (fun x S1=>opV (zgm (zF S1 x.1)) fun x=>V x S1) S
 | .att cs o f,V,S=>wpE cf ρ o (fun x S1=>keep x fun r=>isOb S1 r fun _ c ns ds=>tst (cs.contains c) (opt (xu ns ds f) fun d=>V (d,.st) S1) False) S
 | .met ms o m es,V,S=>wpE cf ρ o (fun x S1=>keep x fun r=>isOb S1 r fun k c ns _=>tst (!ns.contains m) (opt (ms.lookup c) fun f=>wpEs cf ρ es (fun ds S2=>cf f (.ref k::ds) V S2) S1) False) S
 | .mk c f es,V,S=>wpEs cf ρ es (fun ds S1=>cf f (.ref S1.length::ds) (fun x S2=>isN x.1 (V (.ref S1.length,.st) S2)) (S1++[.ins c [] []])) S
 | _,_,_=>False
def wpEs (cf:Cf) (ρ:List Slot):List E->(List D->Store->Prop)->Store->Prop
 | [],W,S=>W [] S
 | e::es,W,S=>wpE cf ρ e (fun x S1=>keep x fun d=>wpEs cf ρ es (fun ds S2=>W (d::ds) S2) S1) S
def wpO (cf:Cf) (ρ:List Slot):Option E->(Option Int->Store->Prop)->Store->Prop
 | none,W,S=>W none S
 | some e,W,S=>wpE cf ρ e (fun x S1=>isZ x.1 fun i=>W (some i) S1) S
def wpF (cf:Cf) (ρ:List Slot):List E->(Bool->Store->Prop)->Store->Prop
 | [],W,S=>W true S
 | [e],W,S=>wpE cf ρ e (fun x S1=>isB x.1 fun b=>W b S1) S
 | _,_,_=>False
def wpI (cf:Cf) (ρ:List Slot):E->(List D->Store->Prop)->Store->Prop
 | .dwn es,W,S=>wpEs cf ρ es (fun ds S1=>opt (dwnD ds) fun l=>W l S1) S
 | .rev hi,W,S=>wpE cf ρ hi (fun x S1=>isZ x.1 fun h=>tst (fits h.toNat&&decide (-1000000<=h)) (W (yC 0 h).reverse S1) False) S
 | .rng none hi,W,S=>wpE cf ρ hi (fun x S1=>isZ x.1 fun h=>tst (fits h.toNat&&decide (-1000000<=h)) (W (yC 0 h) S1) False) S
 | .rng (some lo) hi,W,S=>wpE cf ρ lo (fun y S1=>wpE cf ρ hi (fun x S2=>isZ y.1 fun l=>isZ x.1 fun h=>tst (fits (h - l).toNat&&decide (-1000000<=h)&&decide (-1000000<=l)&&decide (h<=1000000)&&decide (l<=1000000)) (W (yC l h) S2) False) S1) S
 | .enum e,W,S=>wpE cf ρ e (fun x S1=>keep x fun d=>opt (zib d) fun l=>W (zgp 0 l) S1) S
 | .seq e,W,S=>wpE cf ρ e (fun x S1=>keep x fun d=>opt (itrD d) fun l=>W l S1) S
 | .zip a b,W,S=>wpE cf ρ a (fun x S1=>keep x fun d=>wpE cf ρ b (fun y S2=>keep y fun e=>opt (tup2 d e) fun l=>W l S2) S1) S
 | .items e,W,S=>wpE cf ρ e (fun x S1=>keep x fun r=>isR r fun k=>isDT S1[k]? fun ks ds=>W (zby ks ds) (S1.set k (.ref k))) S
 | _,_,_=>False
end
def wpX (cf:Cf) (ρ:List Slot) (e:E) (V:Po) (S:Store):Prop:=wpE cf ρ e V S
noncomputable def VD (ρ:List Slot) (t:T):Vl->Option (List Slot)
 | (d,.st)=>yR ρ t (d,false)
 | (d,.fr)=>yR ρ t (d,true)
 | _=>none
def retV:Vl->(O->Prop)->Prop
 | (d,.st),K=>K (.ret d false)
 | (d,.fr),K=>K (.ret d true)
 | _,_=>False
def owL:Option Slot->(List D->Prop)->Prop
 | some (.ow (.lst l)),Q=>Q l
 | _,_=>False
def owD:Option Slot->(D->Prop)->Prop
 | some (.ow d),Q=>Q d
 | _,_=>False
def frW:Option Slot->Store->(Nat->List D->Prop)->Prop
  | some (.sh (.ref k)),S,Q=>(match S[k]? with
    | some (.lst l)=>Q k l
    | _=>False)
  | _,_,_=>False
set_option tactic.hygienic true in
theorem zbD {s:Option Slot}{S:Store}{Q:Nat->List D->Prop}(h:frW s S Q):∃ k l,s=some (.sh (.ref k))/\S[k]?=some (.lst l)/\Q k l:=by
 unfold frW at h;split at h
 ·split at h
  ·rename_i e;exact ⟨_,_,rfl,e,h⟩
  ·exact h.elim
 ·exact h.elim
theorem zgh {k:Nat}{l:List D}{S:Store}{Q:Nat->List D->Prop}(h:S[k]?=some (.lst l)) (q:Q k l):frW (some (.sh (.ref k))) S Q:=by
  show (match S[k]? with
    | some (.lst l)=>Q k l
    | _=>False)
  rw [h];exact q
def isL:Option D->(List D->Prop)->Prop
 | some (.lst l),Q=>Q l
 | _,_=>False
noncomputable def fz:Slot->Slot
 | .ow d=>.sh d
 | s=>s
abbrev Ko:=O->Store->Prop
def nxt (f:List Slot->Store->Prop) (K:Ko):Ko
 | .next ρ,S=>f ρ S
 | o,S=>K o S
def trn (K:Ko) (I:List Slot->Store->Prop):Ko
 | .next ρ,S=>I ρ S
 | .cnt ρ,S=>I ρ S
 | .brk ρ,S=>K (.next ρ) S
 | .ret d fr,S=>K (.ret d fr) S
def forW (t:T) (b:List Slot->Ko->Store->Prop):List D->List Slot->Ko->Store->Prop
 | [],ρ,K,S=>K (.next ρ) S
 | d::l,ρ,K,S=>optS (yR ρ t (d,false)) fun ρ1=>b ρ1 (trn K fun ρ' S'=>forW t b l ρ' K S') S
def whlW (c:List Slot->Po->Store->Prop) (b:List Slot->Ko->Store->Prop):Nat->List Slot->Ko->Store->Prop
 | 0,_,_,_=>False
 | n+1,ρ,K,S=>c ρ (fun x S1=>isB x.1 fun r=>tst r (b ρ (trn K fun ρ' S'=>whlW c b n ρ' K S') S1) (K (.next ρ) S1)) S
abbrev Xp:=Nat->Store->Prop
noncomputable def noX:Xp:=fun _ _=>False
noncomputable def subT (tb:List (List Nat)) (c k:Nat):Bool:=match tb[c]? with
 | some l=>l.contains k
 | none=>false
noncomputable def hbV (tb:List (List Nat)) (c:Nat) (va:Nat->Option Bool):HB->Option Bool
 | .is k=>some (subT tb c k)
 | .isT ks=>some (ks.any fun k=>subT tb c k)
 | .ve=>some true
 | .var j=>va j
 | .not a=>(hbV tb c va a).map (!·)
 | .and a b=>(hbV tb c va a).bind fun x=>if x=true then hbV tb c va b else some false
 | .or a b=>(hbV tb c va a).bind fun x=>if x=true then some true else hbV tb c va b
 | .one a=>hbV tb c va a
mutual
def wpC (cx:Xp->Cf) (ex:Xp) (w:Nat):C->List Slot->Ko->Store->Prop
 | .set t (.box e),ρ,K,S=>wpE (cx noX) ρ e (fun x S1=>boxd x fun d=>optS (yR ρ t (.ref S1.length,false)) fun ρ2=>K (.next ρ2) (S1++[d])) S
 | .set t e,ρ,K,S=>wpE (cx noX) ρ e (fun x S1=>optS (VD ρ t x) fun ρ2=>K (.next ρ2) S1) S
 | .expr e,ρ,K,S=>wpE (cx noX) ρ e (fun _ S1=>K (.next ρ) S1) S
 | .ret (.var i),ρ,K,S=>sel ρ[i]? (fun d=>K (.ret d false) S) (fun d=>K (.ret d true) S)
 | .ret e,ρ,K,S=>wpE (cx noX) ρ e (fun x S1=>retV x fun o=>K o S1) S
 | .retN,ρ,K,S=>K (.ret .non false) S
 | .ite e A B,ρ,K,S=>wpE (cx noX) ρ e (fun x S1=>isB x.1 fun b=>tst b (wpCs cx ex w A ρ K S1) (wpCs cx ex w B ρ K S1)) S
 | .whl e A,ρ,K,S=>whlW (fun ρ=>wpX (cx noX) ρ e) (fun ρ=>wpCs cx ex w A ρ) w ρ K S
 | .forr t it A,ρ,K,S=>wpI (cx noX) ρ it (fun l S1=>forW t (fun ρ=>wpCs cx ex w A ρ) l ρ K S1) S
 | .app i e,ρ,K,S=>owL ρ[i]? fun l=>wpE (cx noX) ρ e (fun x S1=>keep x fun d=>tst (fits (l.length+1)) (K (.next (ρ.set i (.ow (.lst (l++[d]))))) S1) False) S
 | .ext i e,ρ,K,S=>owL ρ[i]? fun l=>wpE (cx noX) ρ e (fun x S1=>keep x fun d=>opt (extD d) fun m=>tst (fits (l.length+m.length)) (K (.next (ρ.set i (.ow (.lst (l++m))))) S1) False) S
 | .stv i k v,ρ,K,S=>owD ρ[i]? fun c=>wpE (cx noX) ρ v (fun x S1=>keep x fun d=>wpE (cx noX) ρ k (fun y S2=>keep y fun e=>opt (putD c e d) fun c'=>K (.next (ρ.set i (.ow c'))) S2) S1) S
 | .sti o k v,ρ,K,S=>wpE (cx noX) ρ v (fun x S1=>keep x fun d=>wpE (cx noX) ρ o (fun z S2=>keep z fun r=>wpE (cx noX) ρ k (fun y S3=>keep y fun e=>isR r fun n=>opt S3[n]? fun c=>opt (putD c e d) fun c'=>K (.next ρ) (S3.set n c')) S2) S1) S
 | .pop i,ρ,K,S=>owL ρ[i]? fun l=>tst (!l.isEmpty) (K (.next (ρ.set i (.ow (.lst l.dropLast)))) S) False
 | .appR o e,ρ,K,S=>wpE (cx noX) ρ o (fun z S1=>keep z fun r=>isR r fun n=>tst (zh6 S1[n]?) (wpE (cx noX) ρ e (fun x S2=>keep x fun d=>isL S2[n]? fun l=>tst (fits (l.length+1)) (K (.next ρ) (S2.set n (.lst (l++[d])))) False) S1) False) S
 | .popO t i,ρ,K,S=>owL ρ[i]? fun l=>opt l.getLast? fun d=>optS (yR (ρ.set i (.ow (.lst l.dropLast))) t (d,false)) fun ρ2=>K (.next ρ2) S
 | .popR t o,ρ,K,S=>wpE (cx noX) ρ o (fun z S1=>keep z fun r=>isR r fun n=>isL S1[n]? fun l=>opt l.getLast? fun d=>optS (yR ρ t (d,false)) fun ρ2=>K (.next ρ2) (S1.set n (.lst l.dropLast))) S
 | .pass,ρ,K,S=>K (.next ρ) S
 | .brk,ρ,K,S=>K (.brk ρ) S
 | .cnt,ρ,K,S=>K (.cnt ρ) S
 | .frz i,ρ,K,S=>K (.next (ρ.set i (fz ((ρ[i]?).getD .no)))) S
 | .frk i,ρ,K,S=>owT ρ[i]? fun ks ds=>K (.next (ρ.set i (.sh (.dF ks ds)))) S
 | .sta cs o f e,ρ,K,S=>wpE (cx noX) ρ e (fun x S1=>keep x fun d=>wpE (cx noX) ρ o (fun z S2=>keep z fun r=>isOb S2 r fun k c ns ds=>tst (cs.contains c&&decide (ns.length < 999)) (K (.next ρ) (S2.set k (.ins c (putN f ns) (putA f d ns ds)))) False) S1) S
 | .aua cs o f op e,ρ,K,S=>wpE (cx noX) ρ o (fun z S1=>keep z fun r=>isOb S1 r fun k c ns ds=>tst (cs.contains c) (opt (xu ns ds f) fun a=>wpE (cx noX) ρ e (fun y S2=>isOb S2 (.ref k) fun _ c' ns' ds'=>opt (augD op a y.1) fun b=>tst (decide (c'=c)&&decide (ns'.length < 999)) (K (.next ρ) (S2.set k (.ins c (putN f ns') (putA f b ns' ds')))) False) S1) False) S
 | .lin i es,ρ,K,S=>owL ρ[i]? fun l=>wpEs (cx noX) ρ es (fun ds S1=>opt (insD l ds) fun m=>K (.next (ρ.set i (.ow (.lst m)))) S1) S
 | .rse c,_,_,S=>ex c S
 | .stx i f es,ρ,K,S=>wpEs (cx noX) ρ es (fun ds S1=>cx ex f ds (fun x S2=>optS (VD ρ (.one i) x) fun ρ2=>K (.next ρ2) S2) S1) S
 | .sw2 i j a b,ρ,K,S=>wpE (cx noX) ρ a (fun x S1=>keep x fun d=>wpE (cx noX) ρ b (fun y S2=>keep y fun e=>optS (yR ρ (.tup [i,j]) (.tup [d,e],false)) fun ρ2=>K (.next ρ2) S2) S1) S
 | .trx tb j f es ce i h a b els,ρ,K,S=>wpEs (cx noX) ρ es (fun ds S1=>cx (fun c S2=>tst (subT tb c ce) (opt (hbV tb c (fun _=>none) h) fun r=>K (.ret (.tup (if r=true then a else b)) false) S2) False) f ds (fun x S2=>optS (VD ρ (.one j) x) fun ρ2=>wpCs cx ex w els ρ2 K S2) S1) S
 | .tri _ _ _ _ _ _,_,_,_=>False
 | .frr i,ρ,K,S=>frW ρ[i]? S fun k l=>K (.next (ρ.set i (.sh (.lst l)))) (S.set k (.ref k))
def wpCs (cx:Xp->Cf) (ex:Xp) (w:Nat):List C->List Slot->Ko->Store->Prop
 | [],ρ,K,S=>K (.next ρ) S
 | c::cs,ρ,K,S=>wpC cx ex w c ρ (nxt (fun ρ' S'=>wpCs cx ex w cs ρ' K S') K) S
end
def told (V:Po):Ko
 | .ret d fr,S=>V (d,kd fr) S
 | .next _,S=>V (.non,.st) S
 | _,_=>False
def zg (F:Nat->Option Fn) (w:Nat):Nat->Xp->Cf
 | 0=>fun _ _ _ _ _=>False
 | k+1=>fun ex f ds V S=>opt (F f) fun fn=>ds.length=fn.np/\wpCs (zg F w k) ex w fn.body (entry fn ds) (told V) S
abbrev yl (F:Nat->Option Fn) (w k:Nat):Cf:=zg F w k noX
section
theorem zf {α:Type}{o:Option α}{P Q:α->Prop}(h:∀ a,P a->Q a):opt o P->opt o Q:=by
 cases o with
 | some a=>exact h a
 | none=>exact id
theorem zx {b:Bool}{P P' Q Q':Prop}(h:P->P') (k:Q->Q'):tst b P Q->tst b P' Q':=by
 cases b with
 | true=>exact h
 | false=>exact k
theorem yN {d:D}{P Q:Bool->Prop}(h:∀ a,P a->Q a):isB d P->isB d Q:=by cases d <;> first | exact h _ | exact id
theorem WD {d:D}{P Q:Nat->Prop}(h:∀ a,P a->Q a):isF d P->isF d Q:=by cases d <;> first | exact h _ | exact id
theorem ww {d:D}{P Q:Int->Prop}(h:∀ a,P a->Q a):isZ d P->isZ d Q:=by cases d <;> first | exact h _ | exact id
theorem zq {x:Vl}{P Q:D->Prop}(h:∀ a,P a->Q a):keep x P->keep x Q:=by obtain ⟨d,k⟩:=x;cases k <;> first | exact h _ | exact id
theorem Yx {x:Vl}{P Q:D->Prop}(h:∀ a,P a->Q a):boxd x P->boxd x Q:=by obtain ⟨d,k⟩:=x;cases k <;> first | exact h _ | exact id
theorem qF {s:Option Slot}{P P' Q Q':D->Prop}(h:∀ a,P a->P' a) (k:∀ a,Q a->Q' a):sel s P Q->sel s P' Q':=by
 cases s with
 | none=>exact id
 | some s=>cases s <;> first | exact h _ | exact k _ | exact id
theorem uQ {s:D->(Option D->Store->Prop)->Store->Prop}(hs:∀ d K K' S,(∀ o S,K o S->K' o S)->s d K S->s d K' S):∀ {l acc:List D}{V V':List D->Store->Prop}{S:Store},(∀ a S,V a S->V' a S)->uR s l acc V S->uR s l acc V' S
 | [],_,_,_,_,h=>h _ _
 | d::l,acc,V,V',S,h=>hs d _ _ S fun o S1=>by
  cases o with
  | some x=>exact zx (uQ hs h) id
  | none=>exact uQ hs h
def Mono (cf:Cf):Prop:=∀ f ds (V V':Po) S,(∀ x S,V x S->V' x S)->cf f ds V S->cf f ds V' S
variable {cf:Cf}
theorem uM {s:D}{P Q:Nat->Prop}(h:∀ a,P a->Q a):isR s P->isR s Q:=by cases s <;> first | exact h _ | exact id
theorem QW {s:Option Slot}{P Q:List (List Key)->List D->Prop}(h:∀ a b,P a b->Q a b) (p:owT s P):owT s Q:=by obtain ⟨ks,ds,rfl,q⟩:=zbm p;exact h _ _ q
theorem JP {s:Option D}{P Q:List (List Key)->List D->Prop}(h:∀ a b,P a b->Q a b) (p:isDT s P):isDT s Q:=by obtain ⟨ks,ds,e,q⟩:=zc5 p;exact zfZ e (h _ _ q)
theorem xY {S:Store}{d:D}{P Q:Nat->Str->List Str->List D->Prop}(h:∀ a b c e,P a b c e->Q a b c e) (p:isOb S d P):isOb S d Q:=by obtain ⟨k,c,ns,ds,rfl,e,q⟩:=qR p;exact xZ e (h _ _ _ _ q)
theorem zah {d:D}{P Q:Prop}(h:P->Q) (p:isN d P):isN d Q:=by obtain ⟨rfl,q⟩:=zbC p;exact h q
mutual
theorem za (hc:Mono cf):∀ (e:E) {ρ:List Slot}{V V':Po}{S:Store},(∀ x S,V x S->V' x S)->wpE cf ρ e V S->wpE cf ρ e V' S
 | .var i,_,_,_,_,h,k=>qF (fun _=>h _ _) (fun _=>h _ _) k
 | .con d,_,_,_,_,h,k=>h _ _ k
 | .glo _ d,_,_,_,_,h,k=>h _ _ k
 | .bin op a b,_,_,_,_,h,k=>za hc a (fun _ _=>za hc b fun _ _=>zf fun _=>h _ _) k
 | .neg a,_,_,_,_,h,k=>za hc a (fun _ _=>ww fun _=>h _ _) k
 | .cmp op a b,_,_,_,_,h,k=>za hc a (fun _ _=>za hc b fun _ _=>zf fun _=>h _ _) k
 | .chn o1 o2 a b c,_,_,_,_,h,k=>za hc a (fun _ _=>za hc b fun _ _=>zf fun _=>zx (za hc c fun _ _=>zf fun _=>h _ _) (h _ _)) k
 | .not a,_,_,_,_,h,k=>za hc a (fun _ _=>yN fun _=>h _ _) k
 | .and a b,_,_,_,_,h,k=>za hc a (fun _ _=>yN fun _=>zx (za hc b h) (h _ _)) k
 | .or a b,_,_,_,_,h,k=>za hc a (fun _ _=>yN fun _=>zx (h _ _) (za hc b h)) k
 | .ite c a b,_,_,_,_,h,k=>za hc c (fun _ _=>yN fun _=>zx (za hc a h) (za hc b h)) k
 | .tup es,_,_,_,_,h,k=>zG hc es (fun _ _=>zx (h _ _) id) k
 | .lst es,_,_,_,_,h,k=>zG hc es (fun _ _=>zx (h _ _) id) k
 | .dic _ _ es,_,_,_,_,h,k=>zG hc es (fun _ _=>zx (h _ _) id) k
 | .sub a b,_,_,_,_,h,k=>za hc a (fun _ _=>za hc b fun _ _=>zf fun _=>h _ _) k
 | .slc a l u,_,_,_,_,h,k=>za hc a (fun _ _=>XX hc l fun _ _=>XX hc u fun _ _=>zf fun _=>h _ _) k
 | .bi b [],_,_,_,_,h,k=>zG hc [] (fun _ _=>zf fun _=>h _ _) k
 | .bi b [e],_,_,_,_,h,k=>za hc e (fun _ _=>zf fun _=>h _ _) k
 | .bi b (e::f::es),_,_,_,_,h,k=>zG hc (e::f::es) (fun _ _=>zf fun _=>h _ _) k
 | .mth m o es,_,_,_,_,h,k=>za hc o (fun _ _=>zx (zG hc es fun _ _=>zf fun _=>h _ _) id) k
 | .call f es,_,_,_,_,h,k=>zG hc es (fun _ _=>hc _ _ _ _ _ h) k
 | .callk f p es,_,_,_,_,h,k=>zG hc es (fun _ _=>zf fun _=>hc _ _ _ _ _ h) k
 | .comp t js it ifs elt,ρ,V,V',S,h,k=>by
  refine X3 hc it (fun its S1 q=>?_) k;refine uQ ?_ ?_ q
  ·intro d K K' S q;exact zf fun ρ'=>Qi hc ifs fun b S1=>zx (za hc elt fun x S2=>zq fun d=>q _ _) (q _ _)
  ·exact fun ds S2=>h _ _
 | .box e,_,_,_,_,h,k=>za hc e (fun _ _=>Yx fun _=>h _ _) k
 | .one e,_,_,_,_,h,k=>za hc e h k
 | .flip e,_,_,_,_,h,k=>za hc e (fun _ _=>zf fun _=>h _ _) k
 | .dk1 a b,_,_,_,_,h,k=>za hc a (fun _ _=>zq fun _=>za hc b fun _ _=>zq fun _=>zf fun _=>h _ _) k
 | .callv i es,_,_,_,_,h,k=>qF (fun _=>WD fun _=>zG hc es fun _ _=>hc _ _ _ _ _ h) (fun _=>WD fun _=>zG hc es fun _ _=>hc _ _ _ _ _ h) k
 | .att _ o _,_,_,_,_,h,k=>za hc o (fun _ _=>zq fun _=>xY fun _ _ _ _=>zx (zf fun _=>h _ _) id) k
 | .met _ o _ es,_,_,_,_,h,k=>za hc o (fun _ _=>zq fun _=>xY fun _ _ _ _=>zx (zf fun _=>zG hc es fun _ _=>hc _ _ _ _ _ h) id) k
 | .mk _ _ es,_,_,_,_,h,k=>zG hc es (fun _ _=>hc _ _ _ _ _ fun _ _=>zah (h _ _)) k
 | .seq _,_,_,_,_,_,k=>k
 | .rng _ _,_,_,_,_,_,k=>k
 | .enum _,_,_,_,_,_,k=>k
 | .zip _ _,_,_,_,_,_,k=>k
 | .rev _,_,_,_,_,_,k=>k
 | .dwn _,_,_,_,_,_,k=>k
 | .items _,_,_,_,_,_,k=>k
theorem zG (hc:Mono cf):∀ (es:List E) {ρ:List Slot}{V V':List D->Store->Prop}{S:Store},(∀ x S,V x S->V' x S)->wpEs cf ρ es V S->wpEs cf ρ es V' S
 | [],_,_,_,_,h,k=>h _ _ k
 | e::es,_,_,_,_,h,k=>za hc e (fun _ _=>zq fun _=>zG hc es fun _ _=>h _ _) k
theorem XX (hc:Mono cf):∀ (o:Option E) {ρ:List Slot}{V V':Option Int->Store->Prop}{S:Store},(∀ x S,V x S->V' x S)->wpO cf ρ o V S->wpO cf ρ o V' S
 | none,_,_,_,_,h,k=>h _ _ k
 | some e,_,_,_,_,h,k=>za hc e (fun _ _=>ww fun _=>h _ _) k
theorem Qi (hc:Mono cf):∀ (es:List E) {ρ:List Slot}{V V':Bool->Store->Prop}{S:Store},(∀ x S,V x S->V' x S)->wpF cf ρ es V S->wpF cf ρ es V' S
 | [],_,_,_,_,h,k=>h _ _ k
 | [e],_,_,_,_,h,k=>za hc e (fun _ _=>yN fun _=>h _ _) k
 | _::_::_,_,_,_,_,_,k=>k
theorem X3 (hc:Mono cf):∀ (e:E) {ρ:List Slot}{V V':List D->Store->Prop}{S:Store},(∀ x S,V x S->V' x S)->wpI cf ρ e V S->wpI cf ρ e V' S
 | .rng none e,_,_,_,_,h,k=>za hc e (fun _ _=>ww fun _=>zx (h _ _) id) k
 | .rng (some a) e,_,_,_,_,h,k=>za hc a (fun _ _=>za hc e fun _ _=>ww fun _=>ww fun _=>zx (h _ _) id) k
 | .enum e,_,_,_,_,h,k=>za hc e (fun _ _=>zq fun _=>zf fun _=>h _ _) k
 | .seq e,_,_,_,_,h,k=>za hc e (fun _ _=>zq fun _=>zf fun _=>h _ _) k
 | .var _,_,_,_,_,_,k=>k
 | .con _,_,_,_,_,_,k=>k
 | .glo _ _,_,_,_,_,_,k=>k
 | .bin _ _ _,_,_,_,_,_,k=>k
 | .neg _,_,_,_,_,_,k=>k
 | .cmp _ _ _,_,_,_,_,_,k=>k
 | .chn _ _ _ _ _,_,_,_,_,_,k=>k
 | .not _,_,_,_,_,_,k=>k
 | .and _ _,_,_,_,_,_,k=>k
 | .or _ _,_,_,_,_,_,k=>k
 | .ite _ _ _,_,_,_,_,_,k=>k
 | .tup _,_,_,_,_,_,k=>k
 | .lst _,_,_,_,_,_,k=>k
 | .dic _ _ _,_,_,_,_,_,k=>k
 | .sub _ _,_,_,_,_,_,k=>k
 | .slc _ _ _,_,_,_,_,_,k=>k
 | .bi _ _,_,_,_,_,_,k=>k
 | .mth _ _ _,_,_,_,_,_,k=>k
 | .call _ _,_,_,_,_,_,k=>k
 | .callk _ _ _,_,_,_,_,_,k=>k
 | .callv _ _,_,_,_,_,_,k=>k
 | .comp _ _ _ _ _,_,_,_,_,_,k=>k
 | .box _,_,_,_,_,_,k=>k
 | .one _,_,_,_,_,_,k=>k
 | .flip _,_,_,_,_,_,k=>k
 | .dk1 _ _,_,_,_,_,_,k=>k
 | .att _ _ _,_,_,_,_,_,k=>k
 | .met _ _ _ _,_,_,_,_,_,k=>k
 | .mk _ _ _,_,_,_,_,_,k=>k
 | .zip a b,_,_,_,_,h,k=>za hc a (fun _ _=>zq fun _=>za hc b fun _ _=>zq fun _=>zf fun _=>h _ _) k
 | .dwn es,_,_,_,_,h,k=>zG hc es (fun _ _=>zf fun _=>h _ _) k
 | .rev e,_,_,_,_,h,k=>za hc e (fun _ _=>ww fun _=>zx (h _ _) id) k
 | .keys _,_,_,_,_,_,k=>k
 | .items e,_,_,_,_,h,k=>za hc e (fun _ _=>zq fun _=>uM fun _=>JP fun _ _=>h _ _) k
end
theorem zam {s:Option Slot}{S:Store}{P Q:Nat->List D->Prop}(h:∀ k l,P k l->Q k l) (p:frW s S P):frW s S Q:=by obtain ⟨k,l,rfl,e,q⟩:=zbD p;exact zgh e (h k l q)
theorem vC {s:Option Slot}{P Q:List D->Prop}(h:∀ a,P a->Q a):owL s P->owL s Q:=by
 cases s with
 | none=>exact id
 | some s=>
  cases s with
  | ow d=>cases d <;> first | exact h _ | exact id
  | _=>exact id
theorem QX {s:Option Slot}{P Q:D->Prop}(h:∀ a,P a->Q a):owD s P->owD s Q:=by
 cases s with
 | none=>exact id
 | some s=>cases s <;> first | exact h _ | exact id
theorem Wz {s:Option D}{P Q:List D->Prop}(h:∀ a,P a->Q a):isL s P->isL s Q:=by
 cases s with
 | none=>exact id
 | some s=>cases s <;> first | exact h _ | exact id
theorem Uv {x:Vl}{P Q:O->Prop}(h:∀ a,P a->Q a):retV x P->retV x Q:=by obtain ⟨d,k⟩:=x;cases k <;> first | exact h _ | exact id
theorem Q5 {f f':List Slot->Store->Prop}{K K':Ko}(h:∀ ρ S,f ρ S->f' ρ S) (k:∀ o S,K o S->K' o S):∀ o S,nxt f K o S->nxt f' K' o S:=by intro o S;cases o <;> first | exact h _ _ | exact k _ _
theorem ux {f f':List Slot->Store->Prop}{K K':Ko}(h:∀ ρ S,f ρ S->f' ρ S) (k:∀ o S,K o S->K' o S):∀ o S,trn K f o S->trn K' f' o S:=by intro o S;cases o <;> first | exact h _ _ | exact k _ _
theorem Yi {t:T}{b b':List Slot->Ko->Store->Prop}(hb:∀ ρ (V V':Ko) S,(∀ x S,V x S->V' x S)->b ρ V S->b' ρ V' S) {K K':Ko}(k:∀ o S,K o S->K' o S):∀ {l:List D}{ρ:List Slot}{S:Store},forW t b l ρ K S->forW t b' l ρ K' S
 | [],_,_,h=>k _ _ h
 | d::l,_,_,h=>zf (fun _=>hb _ _ _ _ (ux (fun _ _=>Yi hb k) k)) h
theorem Zm {c:List Slot->Po->Store->Prop}{b b':List Slot->Ko->Store->Prop}(hc:∀ ρ (V V':Po) S,(∀ x S,V x S->V' x S)->c ρ V S->c ρ V' S) (hb:∀ ρ (V V':Ko) S,(∀ x S,V x S->V' x S)->b ρ V S->b' ρ V' S) {K K':Ko}(k:∀ o S,K o S->K' o S):∀ {n:Nat}{ρ:List Slot}{S:Store},whlW c b n ρ K S->whlW c b' n ρ K' S
 | 0,_,_,h=>h
 | n+1,_,_,h=>hc _ _ _ _ (fun _ _=>yN fun _=>zx (hb _ _ _ _ (ux (fun _ _=>Zm hc hb k) k)) (k _ _)) h
variable {w:Nat}
def YK (cx:Xp->Cf):Prop:=∀ ex ex' f ds V V' S,(∀ c S,ex c S->ex' c S)->(∀ x S,V x S->V' x S)->cx ex f ds V S->cx ex' f ds V' S
theorem YK.no {cx:Xp->Cf}(h:YK cx) {ex:Xp}:Mono (cx ex):=fun f ds V V' S q k=>h ex ex f ds V V' S (fun _ _=>id) q k
section
variable {cx:Xp->Cf}{w:Nat}
theorem Qy (hc:YK cx) (e:E) {ex ex':Xp}{ρ:List Slot}{K K':Ko}{S:Store}(h:∀ o S,K o S->K' o S) (k:wpC cx ex w (.ret e) ρ K S):wpC cx ex' w (.ret e) ρ K' S:=by cases e <;> first | exact qF (fun _=>h _ _) (fun _=>h _ _) k | exact za hc.no _ (fun _ _=>Uv fun _=>h _ _) k
theorem Qu (hc:YK cx) (t:T) (e:E) {ex ex':Xp}{ρ:List Slot}{K K':Ko}{S:Store}(h:∀ o S,K o S->K' o S) (k:wpC cx ex w (.set t e) ρ K S):wpC cx ex' w (.set t e) ρ K' S:=by cases e <;> first | exact za hc.no _ (fun _ _=>zf fun _=>h _ _) k | exact za hc.no _ (fun _ _=>Yx fun _=>zf fun _=>h _ _) k
mutual
theorem Qj (hc:YK cx):∀ (c:C) {ex ex':Xp}{ρ:List Slot}{K K':Ko}{S:Store},(∀ c S,ex c S->ex' c S)->(∀ o S,K o S->K' o S)->wpC cx ex w c ρ K S->wpC cx ex' w c ρ K' S
 | .set t e,_,_,_,_,_,_,x,h,k=>Qu hc t e h (ex:=_) (ex':=_) k
 | .expr e,_,_,_,_,_,_,x,h,k=>za hc.no e (fun _ _=>h _ _) k
 | .ret e,_,_,_,_,_,_,x,h,k=>Qy hc e h (ex:=_) (ex':=_) k
 | .retN,_,_,_,_,_,_,x,h,k=>h _ _ k
 | .ite e A B,_,_,_,_,_,_,x,h,k=>za hc.no e (fun _ _=>yN fun _=>zx (yg hc A x h) (yg hc B x h)) k
 | .whl e A,ex,ex',ρ,K,K',S,x,h,k=>by
  have k:whlW (fun ρ=>wpE (cx noX) ρ e) (fun ρ=>wpCs cx ex w A ρ) w ρ K S:=k;refine Zm ?_ ?_ h k
  ·exact fun ρ V V' S q=>za hc.no e q
  ·exact fun ρ V V' S q=>yg hc A x q
 | .forr t it A,ex,ex',ρ,K,K',S,x,h,k=>by refine X3 hc.no it (fun l S1 q=>?_) k;refine Yi ?_ h q;exact fun ρ V V' S q=>yg hc A x q
 | .app i e,_,_,_,_,_,_,x,h,k=>vC (fun _=>za hc.no e fun _ _=>zq fun _=>zx (h _ _) id) k
 | .ext i e,_,_,_,_,_,_,x,h,k=>vC (fun _=>za hc.no e fun _ _=>zq fun _=>zf fun _=>zx (h _ _) id) k
 | .stv i a v,_,_,_,_,_,_,x,h,k=>QX (fun _=>za hc.no v fun _ _=>zq fun _=>za hc.no a fun _ _=>zq fun _=>zf fun _=>h _ _) k
 | .sti o a v,_,_,_,_,_,_,x,h,k=>za hc.no v (fun _ _=>zq fun _=>za hc.no o fun _ _=>zq fun _=>za hc.no a fun _ _=>zq fun _=>uM fun _=>zf fun _=>zf fun _=>h _ _) k
 | .pop i,_,_,_,_,_,_,x,h,k=>vC (fun _=>zx (h _ _) id) k
 | .appR o e,_,_,_,_,_,_,x,h,k=>za hc.no o (fun _ _=>zq fun _=>uM fun _=>zx (za hc.no e fun _ _=>zq fun _=>Wz fun _=>zx (h _ _) id) id) k
 | .popO t i,_,_,_,_,_,_,x,h,k=>vC (fun _=>zf fun _=>zf fun _=>h _ _) k
 | .popR t o,_,_,_,_,_,_,x,h,k=>za hc.no o (fun _ _=>zq fun _=>uM fun _=>Wz fun _=>zf fun _=>zf fun _=>h _ _) k
 | .pass,_,_,_,_,_,_,x,h,k=>h _ _ k
 | .brk,_,_,_,_,_,_,x,h,k=>h _ _ k
 | .cnt,_,_,_,_,_,_,x,h,k=>h _ _ k
 | .frz i,_,_,_,_,_,_,x,h,k=>h _ _ k
 | .frk i,_,_,_,_,_,_,x,h,k=>QW (fun _ _=>h _ _) k
 | .sta _ o _ e,_,_,_,_,_,_,x,h,k=>za hc.no e (fun _ _=>zq fun _=>za hc.no o fun _ _=>zq fun _=>xY fun _ _ _ _=>zx (h _ _) id) k
 | .aua _ o _ _ e,_,_,_,_,_,_,x,h,k=>za hc.no o (fun _ _=>zq fun _=>xY fun _ _ _ _=>zx (zf fun _=>za hc.no e fun _ _=>xY fun _ _ _ _=>zf fun _=>zx (h _ _) id) id) k
 | .lin i es,_,_,_,_,_,_,x,h,k=>vC (fun _=>zG hc.no es fun _ _=>zf fun _=>h _ _) k
 | .rse c,_,_,_,_,_,_,x,h,k=>x _ _ k
 | .stx i f es,_,_,_,_,_,_,x,h,k=>zG hc.no es (fun _ _=>hc _ _ _ _ _ _ _ x fun _ _=>zf fun _=>h _ _) k
 | .sw2 i j a b,_,_,_,_,_,_,x,h,k=>za hc.no a (fun _ _=>zq fun _=>za hc.no b fun _ _=>zq fun _=>zf fun _=>h _ _) k
 | .trx tb j f es ce i hb a b els,_,_,_,_,_,_,x,h,k=>zG hc.no es (fun _ _=>hc _ _ _ _ _ _ _ (fun _ _=>zx (zf fun _=>h _ _) id) fun _ _=>zf fun _=>yg hc els x h) k
 | .tri _ _ _ _ _ _,_,_,_,_,_,_,x,h,k=>k
 | .frr i,_,_,_,_,_,_,x,h,k=>zam (fun _ _=>h _ _) k
theorem yg (hc:YK cx):∀ (cs:List C) {ex ex':Xp}{ρ:List Slot}{K K':Ko}{S:Store},(∀ c S,ex c S->ex' c S)->(∀ o S,K o S->K' o S)->wpCs cx ex w cs ρ K S->wpCs cx ex' w cs ρ K' S
 | [],_,_,_,_,_,_,x,h,k=>h _ _ k
 | c::cs,_,_,_,_,_,_,x,h,k=>Qj hc c x (Q5 (fun _ _=>yg hc cs x h) h) k
end
theorem Ua {V V':Po}(h:∀ x S,V x S->V' x S):∀ o S,told V o S->told V' o S:=by intro o S;cases o <;> first | exact h _ _ | exact id
theorem zM {F:Nat->Option Fn}:∀ k,YK (zg F w k)
 | 0=>fun _ _ _ _ _ _ _ _ _ h=>h
 | k+1=>fun ex ex' f ds V V' S hx h q=>zf (fun _ ⟨a,b⟩=>⟨a,yg (zM k) _ hx (Ua h) b⟩) q
theorem KN {F:Nat->Option Fn}(k:Nat):Mono (yl F w k):=(zM k).no
end
theorem X4 (hc:Mono cf):∀ (es:List E) {ρ:List Slot}{W:List D->Store->Prop}{S:Store},wpEs cf ρ es W S->wpEs cf ρ es (fun ds S=>W ds S/\ds.length=es.length) S
 | [],_,_,_,h=>⟨h,rfl⟩
 | e::es,_,_,_,h=>za hc e (fun _ _=>zq fun _ q=>zG hc es (fun _ _ q=>⟨q.1,by rw [ϊ,q.2];rfl⟩) (X4 hc es q)) h
end
open PySem PySem.Spec PyProof.Rows L2
def Rdb (Γ:Gm) (H:Hp) (g:G):D->V->Prop
 | .tup ds,v=>∃ a vs,v=.ref a/\g.R a=some (.tup vs)/\Hass Γ g ds vs
 | .lst ds,v=>∃ a vs,v=.ref a/\H a=some (.lst vs)/\Hass Γ g ds vs
 | .dK ks ds,v=>∃ a vs,v=.ref a/\H a=some (.dK (ks.zip vs))/\ks.length=ds.length/\Hass Γ g ds vs
 | .dT ks ds,v=>∃ a vs,v=.ref a/\H a=some (.dT (ks.zip vs))/\ks.length=ds.length/\Hass Γ g ds vs
 | .non,v=>v=.non
 | .bl b,v=>v=.bl b
 | .int i,v=>v=.int i
 | .str x,v=>v=.str x
 | .ref _,v=>∃ a,v=.ref a
 | .fn f,v=>∃ a,Γ.fa f=some a/\v=.ref a
 | .scr ns,v=>∃ a,v=.ref a/\SqL Γ.K H a (ns.map V.int)
 | .ktp ds,v=>∃ a vs,v=.ref a/\KTup Γ.K a vs/\Hass Γ g ds vs
 | .kdc ps,v=>∃ a,v=.ref a/\KDic Γ.K a ps
 | .dF ks ds,v=>∃ a vs o,v=.ref a/\H a=some (.frz o (.dT (ks.zip vs)))/\ks.length=ds.length/\Hass Γ g ds vs
 | .ins _ _ _,v=>∃ a,v=.ref a
section
variable {Γ:Gm}{H H':Hp}{g g':G}{S:Store}{d:D}{v:V}{a:Addr}
theorem za9 (w:WOk Γ H g S) (h:Has Γ g d v):Rdb Γ H g (zF S d) v:=by
 cases d with
 | non=>exact h
 | bl=>exact h
 | int=>exact h
 | str=>exact h
 | fn f=>exact h
 | tup ds=>exact h
 | lst ds=>obtain ⟨a,vs,h1,h2,h3⟩:=h;exact ⟨a,vs,h1,w.rh _ _ h2,h3⟩
 | scr ns=>obtain ⟨a,h1,h2⟩:=h;exact ⟨a,h1,w.rh.seq h2⟩
 | dK ks ds=>obtain ⟨a,vs,h1,h2,h4,h3⟩:=h;exact ⟨a,vs,h1,w.rh _ _ h2,h4,h3⟩
 | dT ks ds=>obtain ⟨a,vs,h1,h2,h4,h3⟩:=h;exact ⟨a,vs,h1,w.rh _ _ h2,h4,h3⟩
 | ktp=>exact h
 | kdc=>exact h
 | dF ks ds=>obtain ⟨a,vs,o,h1,h2,h4,h3⟩:=h;exact ⟨a,vs,o,h1,w.rh _ _ h2,h4,h3⟩
 | ins=>obtain ⟨a,_,_,_,h1,_⟩:=h;exact ⟨a,h1⟩
 | ref k=>
  obtain ⟨a,h1,rfl⟩:=h;have hk:k < S.length:=by rw [<- w.len];exact (ο.mp h1).1
  have e:S[k]?=some S[k]:=ψ hk;have c:=w.cell k _ a e h1;show Rdb Γ H g ((S[k]?).getD .non) (.ref a)
  rw [e];show Rdb Γ H g S[k] (.ref a)
  generalize S[k]=x at c;cases x with
  | lst ds=>obtain ⟨vs,h1,h2⟩:=c;exact ⟨a,vs,rfl,h1,h2⟩
  | dK ks ds=>obtain ⟨vs,h1,h3,h2⟩:=c;exact ⟨a,vs,rfl,h1,h3,h2⟩
  | dT ks ds=>obtain ⟨vs,h1,h3,h2⟩:=c;exact ⟨a,vs,rfl,h1,h3,h2⟩
  | non=>exact c.elim
  | bl=>exact c.elim
  | int=>exact c.elim
  | str=>exact c.elim
  | tup=>exact c.elim
  | ref=>exact ⟨a,rfl⟩
  | fn=>exact c.elim
  | scr=>exact c.elim
  | ktp=>exact c.elim
  | kdc=>exact c.elim
  | dF=>exact c.elim
  | ins=>exact ⟨a,rfl⟩
def Fin (Γ:Gm) (H:Hp) (g:G) (S:Store) (d:D) (fr:Bool) (Q:VK):Prop:=
 ∀ v H' g',Step H g H' g'->Same H H'->WOk Γ H' g' S->VOk Γ H d fr v H' g'->Q v H'
variable {Q:VK}
theorem zc (w:WOk Γ H g S) (q:Fin Γ H g S d false Q) (h:Has Γ g d v):Q v H:=q v H g (Step.refl H g) (Same.refl H) w h
theorem WOk.laid {o:HO}(w:WOk Γ H g S) (h:H a=none):WOk Γ (upd H a o) g S where
 rh:=fun b u q=>by have e:=w.rh b u q;rw [zm (zA e h)];exact e
 len:=w.len
 nd:=w.nd
 off:=w.off
 cell:=fun k c b h1 h2=>(w.cell k c b h1 h2).mono (Le.refl g) fun o e=>by rw [zm (zA e h)];exact e
theorem WOk.notR (w:WOk Γ H g S) (h:H a=none):g.R a=none:=by
 cases q:g.R a with
 | none=>rfl
 | some o=>rw [w.rh a o q] at h;cases h
theorem WOk.notA (w:WOk Γ H g S) (h:H a=none):a ∉ g.α:=fun m=>by
 obtain ⟨k,hk,e⟩:=lO m;have hk':k < S.length:=by rw [<- w.len];exact hk
 obtain ⟨o,ho,_⟩:=(w.cell k _ a (ψ hk') (by rw [ψ hk,e])).qU;rw [ho] at h;cases h
theorem xq {o:HO}(h:H a=none):Same H (upd H a o):=fun b u q=>by rw [zm (zA q h)];exact q
theorem Za {ds:List D}{vs:List V}(w:WOk Γ H g S) (q:Fin Γ H g S (.tup ds) false Q) (h:Hass Γ g ds vs) (ha:H a=none):Q (.ref a) (upd H a (.tup vs)):=by have hr:=w.notR ha;refine q _ _ (g.put a (.tup vs)) ?_ (xq ha) ((w.laid ha).put zy hr (w.notA ha)) ⟨a,vs,rfl,zy,h.mono (Le.put hr)⟩;exact (Step.of_same (xq ha) (Le.refl g) (fun _ h=>.inl h) fun _ h=>.inl h).put hr ha
theorem wV {ds:List D}{vs:List V}(w:WOk Γ H g S) (q:Fin Γ H g S (.lst ds) true Q) (h:Hass Γ g ds vs) (ha:H a=none):Q (.ref a) (upd H a (.lst vs)):=
 q _ _ g (Step.of_same (xq ha) (Le.refl g) (fun _ h=>.inl h) fun _ h=>.inl h) (xq ha) (w.laid ha) ⟨a,rfl,ha,w.notR ha,w.notA ha,vs,zy,h⟩
end
theorem zbw {n:Nat}(h:fits n=true):n < sizeLine:=mj (of_decide_eq_true h) (by decide)
theorem xW {n:Nat}(h:fits n=true):n<=sizeLine:=gw (zbw h)
def RDo (Γ:Gm) (r:R2) (a b:D) (d:D) (fr:Bool):Prop:=
 ∀ (S:Store) (H:Hp) (g:G) (x y:V) (Q:VK),WOk Γ H g S->Rdb Γ H g a x->Rdb Γ H g b y->Fin Γ H g S d fr Q->r x y H Q
section
variable {X:Cx}{Γ:Gm}
def zhL:R2:=fun x y H Q=>∃ l b xs zs,x=.ref l/\y=.ref b/\H l=some (.lst xs)/\H b=some (.lst zs)/\xs.length+zs.length<=sizeLine/\∀ p,H p=none->Q (.ref p) (upd H p (.lst (xs++zs)))
theorem zcI:OpR X (aL .Add) zhL:=by
 intro pj s σ H x y v u Q I rx ry h;obtain ⟨l,b,xs,zs,rfl,rfl,hH,hB,hz,q⟩:=h;cases rx;cases ry;obtain ⟨z,its,n,r,e⟩:=I.hok _ _ hH;obtain ⟨z2,its2,n2,r2,e2⟩:=I.hok _ _ hB;have hl:=r.length;have hl2:=r2.length;refine PySem.P.add_list e e2 ?_ (by rw [ς,ς];omega);have ea:its.toArray++its2.toArray=(its++its2).toArray:=by simp
 rw [ea];exact ⟨.ref _,_,I.lnew (t':=s.toks) (r.append r2) (by rw [Ο];omega),rfl,q _ I.fresh⟩
theorem ji {f:Int->Int->Option Int}{a b:D}{p:D×Bool}(h:num2 f a b=some p):∃ i j k,a=.int i/\b=.int j/\f i j=some k/\p=(.int k,false):=by
 cases a with
 | int i=>
  cases b with
  | int j=>
   obtain ⟨k,e,rfl⟩:=ι.mp (show (f i j).map (fun k=>(D.int k,false))=some p from h);exact ⟨i,j,k,rfl,rfl,e,rfl⟩
  | _=>cases h
 | _=>cases h
set_option tactic.hygienic true in
theorem zdO {a b:D}{d:D}{fr:Bool}(hK:X.K=Γ.K) (h:addD a b=some (d,fr)):∃ r,OpR X (aL .Add) r/\RDo Γ r a b d fr:=by
 cases a with
 | int i=>
  cases b with
  | int j=>
   cases h;exact ⟨_,zfp,fun S H g x y Q w hx hy q=>⟨_,_,hx,hy,zc w q rfl⟩⟩
  | _=>cases h
 | str s=>
  cases b with
  | str u=>
   have h:(if fits (s.length+u.length)=true then some (D.str (s++u),false) else none)=some (d,fr):=h;split at h
   ·rename_i hf
    cases h;exact ⟨_,Vm,fun S H g x y Q w hx hy q=>⟨_,_,hx,hy,xW hf,zc w q rfl⟩⟩
   ·cases h
  | _=>cases h
 | tup s=>
  cases b with
  | tup u=>
   have h:(if fits (s.length+u.length)=true then some (D.tup (s++u),false) else none)=some (d,fr):=h;split at h
   ·rename_i hf
    cases h;refine ⟨_,zcH.or Q0,fun S H g x y Q w ⟨a,xs,e1,e2,e3⟩ ⟨b,ys,f1,f2,f3⟩ q=>?_⟩;rw [hK];have h1:=e3.len;have h2:=f3.len;have hz:=xW hf;by_cases hx:xs=[]
    ·subst hx;refine .inr ⟨a,b,ys,e1,f1,SqT.of (w.rh _ _ e2),SqT.of (w.rh _ _ f2),?_⟩;have e0:=bV.mp h1.symm;subst e0;exact zc w q ⟨b,ys,rfl,f2,f3⟩
    ·refine .inl ⟨a,b,xs,ys,e1,f1,SqT.of (w.rh _ _ e2),SqT.of (w.rh _ _ f2),hx,by lia,fun z=>?_,fun _ p hp=>Za w q (e3.app f3) hp⟩;subst z;have e0:=bV.mp h2.symm;subst e0;refine zc w q ⟨a,xs,rfl,e2,?_⟩;rw [Ϝ];exact e3
   ·cases h
  | _=>cases h
 | lst s=>
  cases b with
  | lst u=>
   have h:(if fits (s.length+u.length)=true then some (D.lst (s++u),true) else none)=some (d,fr):=h;split at h
   ·rename_i hf
    cases h;refine ⟨_,zcI,fun S H g x y Q w ⟨a,xs,e1,e2,e3⟩ ⟨b,ys,f1,f2,f3⟩ q=>?_⟩;have h1:=e3.len;have h2:=f3.len;have hz:=xW hf;exact ⟨a,b,xs,ys,e1,f1,e2,f2,by lia,fun p hp=>wV w q (e3.app f3) hp⟩
   ·cases h
  | _=>cases h
 | _=>cases h
theorem zcG:OpR X (aL .Mult) (fun x y H Q=>∃ i n,x=.str i/\y=.int n/\(2<=n/\n < 2 ^ 20/\(i.length==0)=false/\i.length*n.toNat<=sizeLine)/\Q (.str ⟨(Ι n.toNat i.cps).foldl (·++·) #[]⟩) H):=by
 intro pj s σ H x y v u Q I rx ry h;obtain ⟨i,n,rfl,rfl,⟨h1,h2,h3,h4⟩,q⟩:=h;obtain ⟨t,rfl⟩:=rx;obtain ⟨t',rfl⟩:=ry;have hl:Ϛ.Str.tooLong (i.length*n.toNat)=false:=decide_eq_false (by omega);have e1:(n==1)=false:=beq_eq_false_iff_ne.mpr (by omega);have hz:sizeLine<=2 ^ 40:=by decide
 refine PySem.P.mul_str (by rw [decide_eq_false (by omega),decide_eq_false (by omega)];rfl) (fun _ _ q=>?_) (fun _ _=>hl) ?_
 ·have a1:(i.length:Int)<=2 ^ 40:=by have:i.length*1<=i.length*n.toNat:=Nat.mul_le_mul_left _ (by omega);omega
  have a2:(2 ^ 43 - 1:Int)<=(2 ^ 63 - 1) / n:=by rw [Int.le_ediv_iff_mul_le (by omega)];have:(2 ^ 43 - 1)*n<=(2 ^ 43 - 1)*2 ^ 20:=Int.mul_le_mul_of_nonneg_left (by omega) (by decide);omega
  omega
 ·rw [if_neg (by omega),e1,h3];exact ⟨PySem.fits_reps hl,.str _,H,I.tok _,⟨_,rfl⟩,q⟩
set_option tactic.hygienic true in
theorem zcT {a b:D}{d:D}{fr:Bool}(h:mulD a b=some (d,fr)):∃ r,OpR X (aL .Mult) r/\RDo Γ r a b d fr:=by
 cases a with
 | int i=>
  cases b with
  | int j=>
   have h:(if (z7 i||z7 j)=true then some (D.int (i*j),false) else none)=some (d,fr):=h;split at h
   ·rename_i hf
    cases h;refine ⟨_,zfj,fun S H g x y Q w hx hy q=>⟨_,_,hx,hy,?_,zc w q rfl⟩⟩;simp only [z7,dN,γ,decide_eq_true_eq] at hf;exact hf
   ·cases h
  | _=>cases h
 | str z=>
  cases b with
  | int n=>
   have h:(if (decide (2<=n)&&decide (n < 2 ^ 20)&&!(z.length==0)&&fits (z.length*n.toNat))=true then some (D.str ⟨(Ι n.toNat z.cps).foldl (·++·) #[]⟩,false) else none)=some (d,fr):=h;split at h
   ·rename_i hf
    cases h;simp only [γ,decide_eq_true_eq,bx] at hf;exact ⟨_,zcG,fun S H g x y Q w hx hy q=>⟨_,_,hx,hy,⟨hf.1.1.1,hf.1.1.2,hf.1.2,xW hf.2⟩,zc w q rfl⟩⟩
   ·cases h
  | _=>cases h
 | _=>cases h
set_option tactic.hygienic true in
theorem zfg {op:aN}{a b:D}{d:D}{fr:Bool}(hK:X.K=Γ.K) (h:opD op a b=some (d,fr)):∃ r,OpR X (aL op) r/\RDo Γ r a b d fr:=by
 cases op with
 | Add=>exact zdO hK h
 | Mult=>exact zcT h
 | Sub=>
  obtain ⟨i,j,k,rfl,rfl,e,e2⟩:=ji h;cases e;cases e2;exact ⟨_,zff,fun S H g x y Q w hx hy q=>⟨_,_,hx,hy,zc w q rfl⟩⟩
 | FloorDiv=>
  obtain ⟨i,j,k,rfl,rfl,e,e2⟩:=ji h;cases e2;split at e
  ·rename_i hf
   cases e;refine ⟨_,QZ,fun S H g x y Q w hx hy q=>⟨_,_,hx,hy,?_,zc w q rfl⟩⟩;simp only [γ,decide_eq_true_eq] at hf;exact hf
  ·cases e
 | Mod=>
  obtain ⟨i,j,k,rfl,rfl,e,e2⟩:=ji h;cases e2;split at e
  ·rename_i hf
   cases e;exact ⟨_,zfk,fun S H g x y Q w hx hy q=>⟨_,_,hx,hy,of_decide_eq_true hf,zc w q rfl⟩⟩
  ·cases e
 | Pow=>
  obtain ⟨i,j,k,rfl,rfl,e,e2⟩:=ji h;cases e2;split at e
  ·rename_i hf
   cases e;refine ⟨_,zfh,fun S H g x y Q w hx hy q=>⟨_,_,hx,hy,?_,zc w q rfl⟩⟩;simp only [z7,γ,decide_eq_true_eq] at hf;exact ⟨hf.1.1,hf.1.2,by omega⟩
  ·cases e
 | _=>cases h
end
open PySem PySem.Spec PyProof.Rows L2 SeqAt
section
variable {X:Cx}{pj:List (Addr×Obj)}{σ:L2.St}{H:Hp}{s:ν}{Γ:Gm}{g:G}
theorem zb4 (sr:Same g.R H) {a:Addr}{xs ys:List V}(h:g.R a=some (.tup xs)) (h':g.R a=some (.tup ys)):xs=ys:=by rw [h] at h';cases h';rfl
theorem zcm (sr:Same g.R H) {a:Addr}{xs ys:List V}(h:g.R a=some (.lst xs)) (h':g.R a=some (.lst ys)):xs=ys:=by rw [h] at h';cases h';rfl
theorem zd7 (sr:Same g.R H) {a b:Addr}{xs ys:List V}(h:g.R a=some (.lst xs)) (h':g.R b=some (.tup ys)):a≠b:=by rintro rfl;rw [h] at h';cases h'
mutual
theorem Zb (I:Inv X pj σ H s) (hK:X.K=Γ.K) (sr:Same g.R H):∀ (n:Nat) (a b:D) (x:V),okP n a=true->okP n b=true->Has Γ g a x->Has Γ g b x->eqP a b=true
 | n,.non,b,x,_,kb,ha,hb=>by
  cases (show x=.non from ha);cases b with
  | non=>rfl
  | bl=>cases (show V.non=_ from hb)
  | int=>cases (show V.non=_ from hb)
  | str=>cases (show V.non=_ from hb)
  | tup=>obtain ⟨_,_,h,_⟩:=hb;cases h
  | lst=>obtain ⟨_,_,h,_⟩:=hb;cases h
  | _=>cases n <;> exact nobE kb
 | n,.bl c,b,x,_,kb,ha,hb=>by
  cases (show x=.bl c from ha);cases b with
  | non=>cases (show V.bl c=_ from hb)
  | bl=>cases (show V.bl c=_ from hb);exact beq_self_eq_true c
  | int=>cases (show V.bl c=_ from hb)
  | str=>cases (show V.bl c=_ from hb)
  | tup=>obtain ⟨_,_,h,_⟩:=hb;cases h
  | lst=>obtain ⟨_,_,h,_⟩:=hb;cases h
  | _=>cases n <;> exact nobE kb
 | n,.int c,b,x,_,kb,ha,hb=>by
  cases (show x=.int c from ha);cases b with
  | non=>cases (show V.int c=_ from hb)
  | bl=>cases (show V.int c=_ from hb)
  | int=>cases (show V.int c=_ from hb);exact beq_self_eq_true c
  | str=>cases (show V.int c=_ from hb)
  | tup=>obtain ⟨_,_,h,_⟩:=hb;cases h
  | lst=>obtain ⟨_,_,h,_⟩:=hb;cases h
  | _=>cases n <;> exact nobE kb
 | n,.str c,b,x,_,kb,ha,hb=>by
  cases (show x=.str c from ha);cases b with
  | non=>cases (show V.str c=_ from hb)
  | bl=>cases (show V.str c=_ from hb)
  | int=>cases (show V.str c=_ from hb)
  | str=>cases (show V.str c=_ from hb);exact beq_self_eq_true c
  | tup=>obtain ⟨_,_,h,_⟩:=hb;cases h
  | lst=>obtain ⟨_,_,h,_⟩:=hb;cases h
  | _=>cases n <;> exact nobE kb
 | 0,.tup as,b,x,ka,_,_,_=>nobE ka
 | n+1,.tup as,b,x,ka,kb,⟨a,xs,h1,h2,h3⟩,hb=>by
  subst h1;cases b with
  | non=>cases (show V.ref a=_ from hb)
  | bl=>cases (show V.ref a=_ from hb)
  | int=>cases (show V.ref a=_ from hb)
  | str=>cases (show V.ref a=_ from hb)
  | tup bs=>
   obtain ⟨a',ys,f1,f2,f3⟩:=hb;cases f1;have e:=zb4 sr h2 f2;subst e;exact jz I hK sr n as bs xs ka kb h3 f3
  | lst bs=>
   obtain ⟨a',ys,f1,f2,f3⟩:=hb;cases f1;exact absurd rfl (zd7 sr f2 h2)
  | _=>exact nobE kb
 | 0,.lst as,b,x,ka,_,_,_=>nobE ka
 | n+1,.lst as,b,x,ka,kb,⟨a,xs,h1,h2,h3⟩,hb=>by
  subst h1;cases b with
  | non=>cases (show V.ref a=_ from hb)
  | bl=>cases (show V.ref a=_ from hb)
  | int=>cases (show V.ref a=_ from hb)
  | str=>cases (show V.ref a=_ from hb)
  | tup bs=>
   obtain ⟨a',ys,f1,f2,f3⟩:=hb;cases f1;exact absurd rfl (zd7 sr h2 f2)
  | lst bs=>
   obtain ⟨a',ys,f1,f2,f3⟩:=hb;cases f1;have e:=zcm sr h2 f2;subst e;exact jz I hK sr n as bs xs ka kb h3 f3
  | _=>exact nobE kb
 | n,.dK _ _,b,x,ka,_,_,_=>by revert ka;cases n <;> exact nobE
 | n,.dT _ _,b,x,ka,_,_,_=>by revert ka;cases n <;> exact nobE
 | n,.ref _,b,x,ka,_,_,_=>by revert ka;cases n <;> exact nobE
 | n,.fn _,b,x,ka,_,_,_=>by revert ka;cases n <;> exact nobE
 | n,.scr _,b,x,ka,_,_,_=>by revert ka;cases n <;> exact nobE
 | n,.ktp _,b,x,ka,_,_,_=>by revert ka;cases n <;> exact nobE
 | n,.kdc _,b,x,ka,_,_,_=>by revert ka;cases n <;> exact nobE
 | n,.dF _ _,b,x,ka,_,_,_=>by revert ka;cases n <;> exact nobE
 | n,.ins _ _ _,b,x,ka,_,_,_=>by revert ka;cases n <;> exact nobE
theorem jz (I:Inv X pj σ H s) (hK:X.K=Γ.K) (sr:Same g.R H):∀ (n:Nat) (as bs:List D) (xs:List V),okPs n as=true->okPs n bs=true->Hass Γ g as xs->Hass Γ g bs xs->eqPs as bs=true
 | n,[],bs,xs,_,_,ha,hb=>by
  cases (show xs=[] from ha);cases bs with
  | nil=>rfl
  | cons=>obtain ⟨_,_,h,_⟩:=hb;cases h
 | n,a::as,bs,xs,ka,kb,⟨v,r,h1,h2,h3⟩,hb=>by
  subst h1;cases bs with
  | nil=>cases (show _=[] from hb)
  | cons b bs=>
   obtain ⟨v',r',f1,f2,f3⟩:=hb;cases f1;have ka':(okP n a&&okPs n as)=true:=ka;have kb':(okP n b&&okPs n bs)=true:=kb;rw [γ] at ka' kb';show (eqP a b&&eqPs as bs)=true
   rw [Zb I hK sr n a b v ka'.1 kb'.1 h2 f2,jz I hK sr n as bs r ka'.2 kb'.2 h3 f3];rfl
end
theorem uO:∀ (as bs:List D),as.length=bs.length->eqPs as bs=(ϛ as.length).all fun i=>eqP (as.getD i .non) (bs.getD i .non)
 | [],[],_=>rfl
 | a::as,b::bs,h=>by
  have ih:=uO as bs (by simpa using h);show (eqP a b&&eqPs as bs)=_
  rw [ih,ϊ,lr,bL,gf];rfl
 | [],_::_,h=>by simp at h
 | _::_,[],h=>by simp at h
theorem uN:∀ (as bs:List D),as.length≠bs.length->eqPs as bs=false
 | [],[],h=>absurd rfl h
 | a::as,b::bs,h=>by
  show (eqP a b&&eqPs as bs)=_
  rw [uN as bs (by simpa using h),bD]
 | [],_::_,h=>rfl
 | _::_,[],h=>rfl
theorem uL {as bs:List D}{xs ys:List V}{us ws:List δ}{n:Nat}{A:Ϗ}(ka:okPs n as=true) (kb:okPs n bs=true) (ha:Hass Γ g as xs) (hb:Hass Γ g bs ys) (ra:Vals xs us) (rb:Vals ys ws)
  (ih:∀ (a b:D) (x y:V) (u v:δ),a∈as->okP n a=true->okP n b=true->Has Γ g a x->Has Γ g b y->RelV x u->RelV y v->EqAt A s u v (eqP a b)):
  ∀ (j:Nat) (h1:j < us.toArray.size) (h2:j < ws.toArray.size),EqAt A s us.toArray[j] ws.toArray[j] (eqP (as.getD j .non) (bs.getD j .non)):=by
 intro j h1 h2;have l1:=ra.length;have l2:=rb.length;have l3:=ha.len;have l4:=hb.len;simp only [ς] at h1 h2;have k1:j < as.length:=by lia
 have k2:j < bs.length:=by lia
 obtain ⟨x,ex,hx⟩:=ha.get (ψ k1);obtain ⟨y,ey,hy⟩:=hb.get (ψ k2);obtain ⟨u,eu,ru⟩:=ra.get ex;obtain ⟨v,ev,rv⟩:=rb.get ey;have e1:us.toArray[j]'(by simpa using h1)=u:=by simpa [ψ h1] using eu
 have e2:ws.toArray[j]'(by simpa using h2)=v:=by simpa [ψ h2] using ev
 have g1:as.getD j .non=as[j]:=by simp [ϵ,k1]
 have g2:bs.getD j .non=bs[j]:=by simp [ϵ,k2]
 rw [e1,e2,g1,g2];have all:∀ (l:List D),okPs n l=true->∀ d∈l,okP n d=true:=by
  intro l
  induction l with
  | nil=>intro _ d hd;cases hd
  | cons c l il=>
   intro k d hd;have k':(okP n c&&okPs n l)=true:=k;rw [γ] at k';rcases χ.mp hd with rfl | hd
   ·exact k'.1
   ·exact il k'.2 d hd
 exact ih _ _ x y u v (aW k1) (all as ka _ (aW k1)) (all bs kb _ (aW k2)) hx hy ru rv
theorem isT {a:Addr}{its:Array δ}{h:Heap}(p:IsTup h a its):h.IsTuple a its:=p
theorem units_in1 (A:Ϗ):A.in1.units=A.units+1:=rfl
noncomputable def scD:D->Option V
 | .non=>some .non
 | .bl b=>some (.bl b)
 | .int i=>some (.int i)
 | .str x=>some (.str x)
 | _=>none
theorem xR {d:D}{w x:V}(h:scD d=some w) (hh:Has Γ g d x):x=w:=by
 cases d <;> first | cases h | skip
 all_goals exact hh
theorem uz {d:D}{w:V}(h:scD d=some w):zdc w=true:=by
 cases d <;> first | cases h | skip
 all_goals rfl
theorem za2 {a b:D}{x y:V}(h:scD a=some x) (h':scD b=some y):eqV x y=eqP a b:=by
 cases a <;> first | cases h | skip
 all_goals (cases b <;> first | cases h' | skip)
 all_goals rfl
theorem z9 {n:Nat}{d:D}(h:okP n d=true):(∃ w,scD d=some w)\/(∃ m ds,n=m+1/\d=.tup ds/\okPs m ds=true)\/(∃ m ds,n=m+1/\d=.lst ds/\okPs m ds=true):=by
 cases d with
 | non=>exact .inl ⟨_,rfl⟩
 | bl=>exact .inl ⟨_,rfl⟩
 | int=>exact .inl ⟨_,rfl⟩
 | str=>exact .inl ⟨_,rfl⟩
 | tup ds=>cases n with
  | zero=>exact nobE h
  | succ m=>exact .inr (.inl ⟨m,ds,rfl,rfl,h⟩)
 | lst ds=>cases n with
  | zero=>exact nobE h
  | succ m=>exact .inr (.inr ⟨m,ds,rfl,rfl,h⟩)
 | _=>cases n <;> exact nobE h
section
variable {A:Ϗ}{l:Addr}{its:Array δ}{w:V}{v:δ}{d:D}
theorem KZ (p:s.heap.IsTuple l its) (hu:A.units < ϰ) (h:scD d=some w) (r:RelV w v):EqAt A s (.ref l) v false:=by
 cases d with
 | non=>cases h;cases (show v=Ϙ from r);exact EqAt.tuple_none p hu
 | bl b=>cases h;cases (show v=Ϣ b from r);exact EqAt.tuple_bool b p hu
 | int i=>cases h;obtain ⟨t,rfl⟩:=(show ∃ t,v=Ϧ i t from r);exact EqAt.tuple_int i t p hu
 | str i=>cases h;obtain ⟨t,rfl⟩:=(show ∃ t,v=ϴ i t from r);exact EqAt.tuple_str i t p hu
 | _=>cases h
theorem K1 (p:s.heap.IsTuple l its) (hu:A.units < ϰ) (h:scD d=some w) (r:RelV w v):EqAt A s v (.ref l) false:=by
 cases d with
 | non=>cases h;cases (show v=Ϙ from r);exact EqAt.none_tuple p hu
 | bl b=>cases h;cases (show v=Ϣ b from r);exact EqAt.bool_tuple b p hu
 | int i=>cases h;obtain ⟨t,rfl⟩:=(show ∃ t,v=Ϧ i t from r);exact EqAt.int_tuple i t p hu
 | str i=>cases h;obtain ⟨t,rfl⟩:=(show ∃ t,v=ϴ i t from r);exact EqAt.str_tuple i t p hu
 | _=>cases h
theorem K4 (p:s.heap.IsList l its) (hu:A.units < ϰ) (h:scD d=some w) (r:RelV w v):EqAt A s (.ref l) v false:=by
 cases d with
 | non=>cases h;cases (show v=Ϙ from r);exact EqAt.list_none p hu
 | bl b=>cases h;cases (show v=Ϣ b from r);exact EqAt.list_bool b p hu
 | int i=>cases h;obtain ⟨t,rfl⟩:=(show ∃ t,v=Ϧ i t from r);exact EqAt.list_int i t p hu
 | str i=>cases h;obtain ⟨t,rfl⟩:=(show ∃ t,v=ϴ i t from r);exact EqAt.list_str i t p hu
 | _=>cases h
theorem K3 (p:s.heap.IsList l its) (hu:A.units < ϰ) (h:scD d=some w) (r:RelV w v):EqAt A s v (.ref l) false:=by
 cases d with
 | non=>cases h;cases (show v=Ϙ from r);exact EqAt.none_list p hu
 | bl b=>cases h;cases (show v=Ϣ b from r);exact EqAt.bool_list b p hu
 | int i=>cases h;obtain ⟨t,rfl⟩:=(show ∃ t,v=Ϧ i t from r);exact EqAt.int_list i t p hu
 | str i=>cases h;obtain ⟨t,rfl⟩:=(show ∃ t,v=ϴ i t from r);exact EqAt.str_list i t p hu
 | _=>cases h
end
theorem ye {d:D}{w:V}{bs:List D}(h:scD d=some w):eqP d (.tup bs)=false/\eqP (.tup bs) d=false/\eqP d (.lst bs)=false/\eqP (.lst bs) d=false:=by
 cases d <;> first | cases h | skip
 all_goals exact ⟨rfl,rfl,rfl,rfl⟩
theorem zba {as bs:List D}{xs ys:List V}{us ws:List δ}(r1:Vals xs us) (r2:Vals ys ws) (h3:Hass Γ g as xs) (f3:Hass Γ g bs ys):
  ((ϛ (min us.toArray.size ws.toArray.size)).all (fun j=>eqP (as.getD j .non) (bs.getD j .non))&&us.toArray.size==ws.toArray.size)=eqPs as bs:=by
 have l1:=r1.length;have l2:=r2.length;have l3:=h3.len;have l4:=f3.len;simp only [ς];by_cases hl:as.length=bs.length
 ·rw [uO as bs hl];have m1:us.length=as.length:=by lia
  have m2:ws.length=as.length:=by lia
  rw [m1,m2];simp
 ·rw [uN as bs hl];have:¬ us.length=ws.length:=by lia
  simp [this]
theorem zbb {as bs:List D}{xs ys:List V}{us ws:List δ}{a b:Addr}{n:Nat}{A:Ϗ}(ka:okPs n as=true) (kb:okPs n bs=true) (p1:PlainL s.heap a us.toArray) (p2:PlainL s.heap b ws.toArray) (r1:Vals xs us) (r2:Vals ys ws)
  (h3:Hass Γ g as xs) (f3:Hass Γ g bs ys) (hu:A.units < ϰ) (ih:∀ (a b:D) (x y:V) (u v:δ),a∈as->okP n a=true->okP n b=true->Has Γ g a x->Has Γ g b y->RelV x u->RelV y v->EqAt A.in1 s u v (eqP a b)):
  RcAt A s (.ref a) (.ref b) (eqPs as bs):=by
 have l1:=r1.length;have l2:=r2.length;have l3:=h3.len;have l4:=f3.len;by_cases hl:as.length=bs.length
 ·have k:=RcAt.lists p1.isList p2.isList (by simp only [ς];lia) hu (uL (A:=A.in1) ka kb h3 f3 r1 r2 ih);have m1:us.toArray.size=as.length:=by simp only [ς];lia
  rw [m1,<- uO as bs hl] at k;exact k
 ·rw [uN as bs hl];exact RcAt.lists_lengths (A:=A) p1.isList p2.isList (by simp only [ς,bne_iff_ne];lia) hu
theorem Zc (I:Inv X pj σ H s) (hK:X.K=Γ.K) (sr:Same g.R H):∀ (n:Nat) (a b:D) (x y:V) (u v:δ) (A:Ϗ),A.units+n+1 < ϰ->okP n a=true->okP n b=true->Has Γ g a x->Has Γ g b y->RelV x u->RelV y v->EqAt A s u v (eqP a b):=by
 intro n
 induction n with
 | zero=>
  intro a b x y u v A hu ka kb ha hb ru rv;rcases z9 ka with ⟨w,hw⟩ | ⟨m,ds,e,_⟩ | ⟨m,ds,e,_⟩
  ·rcases z9 kb with ⟨w',hw'⟩ | ⟨m,ds,e,_⟩ | ⟨m,ds,e,_⟩
   ·rw [xR hw ha] at ru;rw [xR hw' hb] at rv;rw [<- za2 hw hw'];exact zbI ru rv (uz hw) (uz hw')
   ·cases e
   ·cases e
  ·cases e
  ·cases e
 | succ n ih=>
  intro a b x y u v A hu ka kb ha hb ru rv;have hu':A.units < ϰ:=by lia
  have hin:A.in1.units+n+1 < ϰ:=by rw [units_in1];lia
  rcases z9 ka with ⟨w,hw⟩ | ⟨m,as,e,e1,kas⟩ | ⟨m,as,e,e1,kas⟩
  ·rcases z9 kb with ⟨w',hw'⟩ | ⟨m,bs,e,e2,kbs⟩ | ⟨m,bs,e,e2,kbs⟩
   ·rw [xR hw ha] at ru;rw [xR hw' hb] at rv;rw [<- za2 hw hw'];exact zbI ru rv (uz hw) (uz hw')
   ·subst e2;rw [xR hw ha] at ru;obtain ⟨b,ys,rfl,f2,f3⟩:=hb;cases rv;obtain ⟨ws,r2,p2,_⟩:=I.tuple (SqT.of (sr _ _ f2));rw [(ye hw).1];exact K1 (isT p2) hu' hw ru
   ·subst e2;rw [xR hw ha] at ru;obtain ⟨b,ys,rfl,f2,f3⟩:=hb;cases rv;obtain ⟨ws,r2,p2,_⟩:=I.list (SqL.of (sr _ _ f2));rw [(ye hw).2.2.1];exact K3 p2.isList hu' hw ru
  ·subst e1;cases e;obtain ⟨a,xs,rfl,h2,h3⟩:=ha;cases ru;obtain ⟨us,r1,p1,_⟩:=I.tuple (SqT.of (sr _ _ h2));rcases z9 kb with ⟨w',hw'⟩ | ⟨m,bs,e,e2,kbs⟩ | ⟨m,bs,e,e2,kbs⟩
   ·rw [xR hw' hb] at rv;rw [(ye hw').2.1];exact KZ (isT p1) hu' hw' rv
   ·subst e2;cases e;obtain ⟨b,ys,rfl,f2,f3⟩:=hb;cases rv;by_cases e:a=b
    ·subst e;have:=Zb I hK sr (n+1) (.tup as) (.tup bs) (.ref a) ka kb ⟨a,xs,rfl,h2,h3⟩ ⟨a,ys,rfl,f2,f3⟩;rw [this];exact EqAt.same _
    ·obtain ⟨ws,r2,p2,_⟩:=I.tuple (SqT.of (sr _ _ f2));have k:=RcAt.tuples (isT p1) (isT p2) hu' (uL (A:=A.in1) kas kbs h3 f3 r1 r2 fun a b x y u v _ ka kb ha hb ru rv=>ih a b x y u v A.in1 hin ka kb ha hb ru rv);rw [zba r1 r2 h3 f3] at k;exact EqAt.of_refs e k
   ·subst e2;cases e;obtain ⟨b,ys,rfl,f2,f3⟩:=hb;cases rv;obtain ⟨ws,r2,p2,_⟩:=I.list (SqL.of (sr _ _ f2));exact EqAt.tuple_list (isT p1) p2.isList hu'
  ·subst e1;cases e;obtain ⟨a,xs,rfl,h2,h3⟩:=ha;cases ru;obtain ⟨us,r1,p1,_⟩:=I.list (SqL.of (sr _ _ h2));rcases z9 kb with ⟨w',hw'⟩ | ⟨m,bs,e,e2,kbs⟩ | ⟨m,bs,e,e2,kbs⟩
   ·rw [xR hw' hb] at rv;rw [(ye hw').2.2.2];exact K4 p1.isList hu' hw' rv
   ·subst e2;cases e;obtain ⟨b,ys,rfl,f2,f3⟩:=hb;cases rv;obtain ⟨ws,r2,p2,_⟩:=I.tuple (SqT.of (sr _ _ f2));exact EqAt.list_tuple p1.isList (isT p2) hu'
   ·subst e2;cases e;obtain ⟨b,ys,rfl,f2,f3⟩:=hb;cases rv;by_cases e:a=b
    ·subst e;have:=Zb I hK sr (n+1) (.lst as) (.lst bs) (.ref a) ka kb ⟨a,xs,rfl,h2,h3⟩ ⟨a,ys,rfl,f2,f3⟩;rw [this];exact EqAt.same _
    ·obtain ⟨ws,r2,p2,_⟩:=I.list (SqL.of (sr _ _ f2));exact EqAt.of_refs e (zbb kas kbs p1 p2 r1 r2 h3 f3 hu' fun a b x y u v _ ka kb ha hb ru rv=>ih a b x y u v A.in1 hin ka kb ha hb ru rv)
end
section
variable {X:Cx}{pj:List (Addr×Obj)}{σ:L2.St}{H:Hp}{s:ν}{Γ:Gm}{g:G}
section
variable {A:Ϗ}{l:Addr}{its:Array δ}{w:V}{v:δ}{d:D}
theorem ZC (p:s.heap.IsTuple l its) (hu:A.units < ϰ) (h:scD d=some w) (r:RelV w v):RcAt A s (.ref l) v false/\RcAt A s v (.ref l) false/\Ϡ A s (.ref l) v true/\Ϡ A s v (.ref l) true:=by
 cases d with
 | non=>cases h;cases (show v=Ϙ from r);exact ⟨RcAt.tuple_none p hu,RcAt.none_tuple p hu,Ϡ.tuple_none p hu,Ϡ.none_tuple p hu⟩
 | bl b=>cases h;cases (show v=Ϣ b from r);exact ⟨RcAt.tuple_bool b p hu,RcAt.bool_tuple b p hu,Ϡ.tuple_bool b p hu,Ϡ.bool_tuple b p hu⟩
 | int i=>cases h;obtain ⟨t,rfl⟩:=(show ∃ t,v=Ϧ i t from r);exact ⟨RcAt.tuple_int i t p hu,RcAt.int_tuple i t p hu,Ϡ.tuple_int i t p hu,Ϡ.int_tuple i t p hu⟩
 | str i=>cases h;obtain ⟨t,rfl⟩:=(show ∃ t,v=ϴ i t from r);exact ⟨RcAt.tuple_str i t p hu,RcAt.str_tuple i t p hu,Ϡ.tuple_str i t p hu,Ϡ.str_tuple i t p hu⟩
 | _=>cases h
theorem ZD (p:s.heap.IsList l its) (hu:A.units < ϰ) (h:scD d=some w) (r:RelV w v):RcAt A s (.ref l) v false/\RcAt A s v (.ref l) false/\Ϡ A s (.ref l) v true/\Ϡ A s v (.ref l) true:=by
 cases d with
 | non=>cases h;cases (show v=Ϙ from r);exact ⟨RcAt.list_none p hu,RcAt.none_list p hu,Ϡ.list_none p hu,Ϡ.none_list p hu⟩
 | bl b=>cases h;cases (show v=Ϣ b from r);exact ⟨RcAt.list_bool b p hu,RcAt.bool_list b p hu,Ϡ.list_bool b p hu,Ϡ.bool_list b p hu⟩
 | int i=>cases h;obtain ⟨t,rfl⟩:=(show ∃ t,v=Ϧ i t from r);exact ⟨RcAt.list_int i t p hu,RcAt.int_list i t p hu,Ϡ.list_int i t p hu,Ϡ.int_list i t p hu⟩
 | str i=>cases h;obtain ⟨t,rfl⟩:=(show ∃ t,v=ϴ i t from r);exact ⟨RcAt.list_str i t p hu,RcAt.str_list i t p hu,Ϡ.list_str i t p hu,Ϡ.str_list i t p hu⟩
 | _=>cases h
theorem Qz {a b:D}{x y:V}{u v:δ}(h:scD a=some x) (h':scD b=some y) (r:RelV x u) (r':RelV y v):RcAt A s u v (eqP a b)/\Ϡ A s u v (!eqP a b):=by
 cases a with
 | non=>
  cases h;cases (show u=Ϙ from r);cases b with
  | non=>cases h';cases (show v=Ϙ from r');exact ⟨RcAt.none_none,Ϡ.none_none⟩
  | bl b=>cases h';cases (show v=Ϣ b from r');exact ⟨RcAt.none_bool _,Ϡ.none_bool _⟩
  | int b=>cases h';obtain ⟨t,rfl⟩:=(show ∃ t,v=Ϧ b t from r');exact ⟨RcAt.none_int _ _,Ϡ.none_int _ _⟩
  | str b=>cases h';obtain ⟨t,rfl⟩:=(show ∃ t,v=ϴ b t from r');exact ⟨RcAt.none_str _ _,Ϡ.none_str _ _⟩
  | _=>cases h'
 | bl a=>
  cases h;cases (show u=Ϣ a from r);cases b with
  | non=>cases h';cases (show v=Ϙ from r');exact ⟨RcAt.bool_none _,Ϡ.bool_none _⟩
  | bl b=>cases h';cases (show v=Ϣ b from r');exact ⟨RcAt.bool_bool _ _,Ϡ.bool_bool _ _⟩
  | int b=>cases h';obtain ⟨t,rfl⟩:=(show ∃ t,v=Ϧ b t from r');exact ⟨RcAt.bool_int _ _ _,Ϡ.bool_int _ _ _⟩
  | str b=>cases h';obtain ⟨t,rfl⟩:=(show ∃ t,v=ϴ b t from r');exact ⟨RcAt.bool_str _ _ _,Ϡ.bool_str _ _ _⟩
  | _=>cases h'
 | int a=>
  cases h;obtain ⟨t',rfl⟩:=(show ∃ t,u=Ϧ a t from r)
  cases b with
  | non=>cases h';cases (show v=Ϙ from r');exact ⟨RcAt.int_none _ _,Ϡ.int_none _ _⟩
  | bl b=>cases h';cases (show v=Ϣ b from r');exact ⟨RcAt.int_bool _ _ _,Ϡ.int_bool _ _ _⟩
  | int b=>cases h';obtain ⟨t,rfl⟩:=(show ∃ t,v=Ϧ b t from r');exact ⟨RcAt.int_int _ _ _ _,Ϡ.int_int _ _ _ _⟩
  | str b=>cases h';obtain ⟨t,rfl⟩:=(show ∃ t,v=ϴ b t from r');exact ⟨RcAt.int_str _ _ _ _,Ϡ.int_str _ _ _ _⟩
  | _=>cases h'
 | str a=>
  cases h;obtain ⟨t',rfl⟩:=(show ∃ t,u=ϴ a t from r)
  cases b with
  | non=>cases h';cases (show v=Ϙ from r');exact ⟨RcAt.str_none _ _,Ϡ.str_none _ _⟩
  | bl b=>cases h';cases (show v=Ϣ b from r');exact ⟨RcAt.str_bool _ _ _,Ϡ.str_bool _ _ _⟩
  | int b=>cases h';obtain ⟨t,rfl⟩:=(show ∃ t,v=Ϧ b t from r');exact ⟨RcAt.str_int _ _ _ _,Ϡ.str_int _ _ _ _⟩
  | str b=>cases h';obtain ⟨t,rfl⟩:=(show ∃ t,v=ϴ b t from r');exact ⟨RcAt.str_str _ _ _ _,Ϡ.str_str _ _ _ _⟩
  | _=>cases h'
 | _=>cases h
end
theorem vR {d:D}{w x:V}(h:scD d=some w) (hh:Rdb Γ H g d x):x=w:=by
 cases d <;> first | cases h | skip
 all_goals exact hh
theorem rc_D (I:Inv X pj σ H s) (hK:X.K=Γ.K) (sr:Same g.R H) (n:Nat) (a b:D) (x y:V) (u v:δ) (A:Ϗ) (hu:A.units+n+1 < ϰ) (ka:okP n a=true) (kb:okP n b=true) (ha:Rdb Γ H g a x) (hb:Rdb Γ H g b y) (ru:RelV x u) (rv:RelV y v):
  RcAt A s u v (eqP a b)/\Ϡ A s u v (!eqP a b):=by
 have hu':A.units < ϰ:=by lia
 rcases z9 ka with ⟨w,hw⟩ | ⟨m,as,e,e1,kas⟩ | ⟨m,as,e,e1,kas⟩
 ·rcases z9 kb with ⟨w',hw'⟩ | ⟨m,bs,e,e2,kbs⟩ | ⟨m,bs,e,e2,kbs⟩
  ·rw [vR hw ha] at ru;rw [vR hw' hb] at rv;exact Qz hw hw' ru rv
  ·subst e2;rw [vR hw ha] at ru;obtain ⟨b,ys,rfl,f2,f3⟩:=hb;cases rv;obtain ⟨ws,r2,p2,_⟩:=I.tuple (SqT.of (sr _ _ f2));rw [(ye hw).1];have k:=ZC (A:=A) (isT p2) hu' hw ru;exact ⟨k.2.1,k.2.2.2⟩
  ·subst e2;rw [vR hw ha] at ru;obtain ⟨b,ys,rfl,f2,f3⟩:=hb;cases rv;obtain ⟨ws,r2,p2,_⟩:=I.list (SqL.of f2);rw [(ye hw).2.2.1];have k:=ZD (A:=A) p2.isList hu' hw ru;exact ⟨k.2.1,k.2.2.2⟩
 ·subst e1;cases e;have hin:A.in1.units+m+1 < ϰ:=by rw [units_in1];lia
  obtain ⟨a,xs,rfl,h2,h3⟩:=ha;cases ru;obtain ⟨us,r1,p1,_⟩:=I.tuple (SqT.of (sr _ _ h2));rcases z9 kb with ⟨w',hw'⟩ | ⟨m',bs,e,e2,kbs⟩ | ⟨m',bs,e,e2,kbs⟩
  ·rw [vR hw' hb] at rv;rw [(ye hw').2.1];have k:=ZC (A:=A) (isT p1) hu' hw' rv;exact ⟨k.1,k.2.2.1⟩
  ·subst e2;cases e;obtain ⟨b,ys,rfl,f2,f3⟩:=hb;cases rv;obtain ⟨ws,r2,p2,_⟩:=I.tuple (SqT.of (sr _ _ f2));have it:=uL (A:=A.in1) kas kbs h3 f3 r1 r2 fun a b x y u v _ ka kb ha hb ru rv=>Zc I hK sr m a b x y u v A.in1 hin ka kb ha hb ru rv
   have k1:=RcAt.tuples (isT p1) (isT p2) hu' it;have k2:=Ϡ.tuples (isT p1) (isT p2) hu' it;rw [zba r1 r2 h3 f3] at k1 k2;exact ⟨k1,k2⟩
  ·subst e2;cases e;obtain ⟨b,ys,rfl,f2,f3⟩:=hb;cases rv;obtain ⟨ws,r2,p2,_⟩:=I.list (SqL.of f2);exact ⟨RcAt.tuple_list (isT p1) p2.isList hu',Ϡ.tuple_list (isT p1) p2.isList hu'⟩
 ·subst e1;cases e;have hin:A.in1.units+m+1 < ϰ:=by rw [units_in1];lia
  obtain ⟨a,xs,rfl,h2,h3⟩:=ha;cases ru;obtain ⟨us,r1,p1,_⟩:=I.list (SqL.of h2);rcases z9 kb with ⟨w',hw'⟩ | ⟨m',bs,e,e2,kbs⟩ | ⟨m',bs,e,e2,kbs⟩
  ·rw [vR hw' hb] at rv;rw [(ye hw').2.2.2];have k:=ZD (A:=A) p1.isList hu' hw' rv;exact ⟨k.1,k.2.2.1⟩
  ·subst e2;cases e;obtain ⟨b,ys,rfl,f2,f3⟩:=hb;cases rv;obtain ⟨ws,r2,p2,_⟩:=I.tuple (SqT.of (sr _ _ f2));exact ⟨RcAt.list_tuple p1.isList (isT p2) hu',Ϡ.list_tuple p1.isList (isT p2) hu'⟩
  ·subst e2;cases e;obtain ⟨b,ys,rfl,f2,f3⟩:=hb;cases rv;obtain ⟨ws,r2,p2,_⟩:=I.list (SqL.of f2);have ih:∀ (a b:D) (x y:V) (u v:δ),a∈as->okP m a=true->okP m b=true->Has Γ g a x->Has Γ g b y->RelV x u->RelV y v->EqAt A.in1 s u v (eqP a b):=fun a b x y u v _ ka kb ha hb ru rv=>Zc I hK sr m a b x y u v A.in1 hin ka kb ha hb ru rv
   refine ⟨zbb kas kbs p1 p2 r1 r2 h3 f3 hu' ih,?_⟩;have l1:=r1.length;have l2:=r2.length;have l3:=h3.len;have l4:=f3.len;show Ϡ A s _ _ (!eqPs as bs)
   by_cases hl:as.length=bs.length
   ·have k:=Ϡ.lists p1.isList p2.isList (by simp only [ς];lia) hu' (uL (A:=A.in1) kas kbs h3 f3 r1 r2 ih);have m1:us.toArray.size=as.length:=by simp only [ς];lia
    rw [m1,<- uO as bs hl] at k;exact k
   ·rw [uN as bs hl];exact Ϡ.lists_lengths (A:=A) p1.isList p2.isList (by simp only [ς,bne_iff_ne];lia) hu'
end
def rDat (Γ:Gm) (a b:D) (z:D):R2:=fun x y H Q=>∃ g,Same g.R H/\Rdb Γ H g a x/\Rdb Γ H g b y/\∀ v,(∀ g,Has Γ g z v)->Q v H
theorem Wf {Γ:Gm}{a b:D}{c:Bool}:RDo Γ (rDat Γ a b (.bl c)) a b (.bl c) false:=fun S H g x y Q w hx hy q=>⟨g,w.rh,hx,hy,fun v hv=>zc w q (hv g)⟩
section
variable {X:Cx}{Γ:Gm}
theorem zfo (hK:X.K=Γ.K) (hu:X.A.units+61 < ϰ) {a b:D}(ka:okP 60 a=true) (kb:okP 60 b=true):OpR X (Ω .Eq) (rDat Γ a b (.bl (eqP a b))):=by intro pj s σ H x y v u Q I rx ry ⟨g,sr,ha,hb,q⟩;exact (rc_D I hK sr 60 a b x y v u X.A hu ka kb ha hb rx ry).1 X.prog X.w X.xe _ ⟨.bl _,H,I,rfl,q _ fun _=>rfl⟩
theorem zfi (hK:X.K=Γ.K) (hu:X.A.units+61 < ϰ) {a b:D}(ka:okP 60 a=true) (kb:okP 60 b=true):OpR X (Ω .NotEq) (rDat Γ a b (.bl (!eqP a b))):=by intro pj s σ H x y v u Q I rx ry ⟨g,sr,ha,hb,q⟩;exact (rc_D I hK sr 60 a b x y v u X.A hu ka kb ha hb rx ry).2 X.prog X.w X.xe _ ⟨.bl _,H,I,rfl,q _ fun _=>rfl⟩
end
section
variable {Γ:Gm}{H:Hp}{g:G}
theorem kI {d:D}{x:V}(h:Rdb Γ H g d x):decide (x=.non)=isNone d:=by
 cases d with
 | non=>cases (show x=.non from h);rfl
 | bl=>cases (show x=.bl _ from h);rfl
 | int=>cases (show x=.int _ from h);rfl
 | str=>cases (show x=.str _ from h);rfl
 | tup=>obtain ⟨_,_,rfl,_⟩:=h;rfl
 | lst=>obtain ⟨_,_,rfl,_⟩:=h;rfl
 | dK=>obtain ⟨_,_,rfl,_⟩:=h;rfl
 | dT=>obtain ⟨_,_,rfl,_⟩:=h;rfl
 | ref=>obtain ⟨_,rfl⟩:=h;rfl
 | fn=>obtain ⟨_,_,rfl⟩:=h;rfl
 | scr=>obtain ⟨_,rfl,_⟩:=h;rfl
 | ktp=>obtain ⟨_,_,rfl,_⟩:=h;rfl
 | kdc=>obtain ⟨_,rfl,_⟩:=h;rfl
 | dF=>obtain ⟨_,_,_,rfl,_⟩:=h;rfl
 | ins=>obtain ⟨_,rfl⟩:=h;rfl
theorem uI {κ:Type} [DecidableEq κ] (k:κ):∀ {ks:List κ}{ds:List D}{vs:List V},ks.length=ds.length->Hass Γ g ds vs ->
  (∀ d,xu ks ds k=some d->∃ v,valV (ks.zip vs) k=some v/\Has Γ g d v)/\(xu ks ds k=none->valV (ks.zip vs) k=none)
 | [],[],vs,_,h=>by
  refine ⟨fun d e=>?_,fun _=>?_⟩
  ·simp [xu,qZ] at e
  ·rfl
 | k'::ks,d'::ds,vs,hl,⟨v,r,e1,hv,hr⟩=>by
  subst e1;have ih:=uI k (ks:=ks) (ds:=ds) (vs:=r) (by simpa using hl) hr;show (∀ d,xu (k'::ks) (d'::ds) k=some d->∃ v',valV ((k',v)::ks.zip r) k=some v'/\_)/\(_->valV ((k',v)::ks.zip r) k=none)
  by_cases e:k'=k
  ·have e2:xu (k'::ks) (d'::ds) k=some d':=by simp [xu,qZ,e]
   rw [e2,wX (p:=(k',v)) e];exact ⟨fun d h=>⟨v,rfl,by cases h;exact hv⟩,fun h=>by cases h⟩
  ·have e2:xu (k'::ks) (d'::ds) k=xu ks ds k:=by simp only [xu,qZ,if_neg e];cases qZ ks k <;> rfl
   rw [e2,wY (p:=(k',v)) e];exact ih
 | [],_::_,_,hl,_=>by simp at hl
 | _::_,[],_,hl,_=>by simp at hl
theorem zc1 {d:D}{k:Key}{x:V}(h:keyD d=some k) (hh:Rdb Γ H g d x):x=kV k:=by
 cases d <;> first | cases h | skip
 all_goals exact hh
theorem Wy {d:D}{k:Key}{x:V}(h:keyD d=some k) (hh:Has Γ g d x):x=kV k:=by
 cases d <;> first | cases h | skip
 all_goals exact hh
set_option tactic.hygienic true in
theorem uJ:∀ {l:List D}{ks:List Key}{xs:List V},qM l=some ks->Hass Γ g l xs->xs=ks.map kV
 | [],ks,xs,h,hh=>by cases (show some []=some ks from h);exact hh
 | d::l,ks,xs,h,⟨v,r,e,hv,hr⟩=>by
  subst e;simp only [qM] at h;split at h
  ·rename_i k ks' e1 e2
   cases h;rw [Wy e1 hv,uJ e2 hr];rfl
  ·cases h
theorem WR {S:Store}{c k:D}{o:Option D}{x y:V}(w:WOk Γ H g S) (h:vZ c k=some o) (hc:Rdb Γ H g c x) (hk:Rdb Γ H g k y):
  ∃ a v,x=.ref a/\DGet H a y v/\IsD H a/\(∀ d,o=some d->∃ u,v=some u/\Has Γ g d u)/\(o=none->v=none):=by
 cases c with
 | dK ks ds=>
  obtain ⟨a,vs,rfl,h1,h2,h3⟩:=hc;simp only [vZ,ι] at h;obtain ⟨k',e1,e2⟩:=h;obtain ⟨z1,z2⟩:=uI k' h2 h3;refine ⟨a,valV (ks.zip vs) k',rfl,.inl ⟨_,k',.inl h1,zc1 e1 hk,rfl⟩,.inl ⟨_,.inl h1⟩,fun d e=>?_,fun e=>?_⟩
  ·exact z1 d (e2.trans e)
  ·exact z2 (e2.trans e)
 | dT ks ds=>
  obtain ⟨a,vs,rfl,h1,h2,h3⟩:=hc;cases k with
  | tup t=>
   obtain ⟨b,ys,rfl,f1,f2⟩:=hk;simp only [vZ,ι] at h;obtain ⟨k',e1,e2⟩:=h;obtain ⟨z1,z2⟩:=uI k' h2 h3;have ey:=uJ e1 f2;refine ⟨a,valV (ks.zip vs) k',rfl,.inr ⟨_,k',b,.inl h1,rfl,by rw [<- ey];exact w.rh _ _ f1,rfl⟩,.inr ⟨_,.inl h1⟩,fun d e=>?_,fun e=>?_⟩
   ·exact z1 d (e2.trans e)
   ·exact z2 (e2.trans e)
  | _=>cases h
 | dF ks ds=>
  obtain ⟨a,vs,o,rfl,h1,h2,h3⟩:=hc;cases k with
  | tup t=>
   obtain ⟨b,ys,rfl,f1,f2⟩:=hk;simp only [vZ,ι] at h;obtain ⟨k',e1,e2⟩:=h;obtain ⟨z1,z2⟩:=uI k' h2 h3;have ey:=uJ e1 f2;refine ⟨a,valV (ks.zip vs) k',rfl,.inr ⟨_,k',b,.inr ⟨o,h1⟩,rfl,by rw [<- ey];exact w.rh _ _ f1,rfl⟩,.inr ⟨_,.inr ⟨o,h1⟩⟩,fun d e=>?_,fun e=>?_⟩
   ·exact z1 d (e2.trans e)
   ·exact z2 (e2.trans e)
  | _=>cases h
 | _=>cases h
end
section
variable {X:Cx}{Γ:Gm}
def rInD (neg:Bool):R2:=fun x y H Q=>∃ a o,y=.ref a/\DGet H a x o/\Q (.bl (if neg then !o.isSome else o.isSome)) H
theorem zfn (hu:X.A.units+1 < ϰ):OpR X (Ω .In) (rInD false):=by intro pj s σ H x y v u Q I rx ry ⟨a,o,e,h,q⟩;subst e;cases ry;exact d_in hu I h rx fun s' I'=>⟨.bl o.isSome,H,I',rfl,q⟩
theorem Jg (hu:X.A.units+1 < ϰ):OpR X (Ω .NotIn) (rInD true):=by intro pj s σ H x y v u Q I rx ry ⟨a,o,e,h,q⟩;subst e;cases ry;exact zdn hu I h rx fun s' I'=>⟨.bl (!o.isSome),H,I',rfl,q⟩
theorem zek {H:Hp}{g:G}{S:Store}{d:D}{l:List D}{x:V}(hK:X.K=Γ.K) (w:WOk Γ H g S) (h:seqD d=some l) (hd:Rdb Γ H g d x):∃ a xs,x=.ref a/\(SqL X.K H a xs\/SqT X.K H a xs)/\Hass Γ g l xs:=by
 cases d with
 | tup ds=>cases h;obtain ⟨a,vs,e,h1,h2⟩:=hd;exact ⟨a,vs,e,.inr (SqT.of (w.rh _ _ h1)),h2⟩
 | lst ds=>cases h;obtain ⟨a,vs,e,h1,h2⟩:=hd;exact ⟨a,vs,e,.inl (SqL.of h1),h2⟩
 | scr ns=>cases h;obtain ⟨a,e,h1⟩:=hd;exact ⟨a,_,e,.inl (by rw [hK];exact h1),Hass.ints⟩
 | ktp ds=>cases h;obtain ⟨a,vs,e,h1,h2⟩:=hd;exact ⟨a,vs,e,.inr (by rw [hK];exact .inr h1),h2⟩
 | _=>cases h
theorem zge {H:Hp}{g:G}{a:D}{x:V}(h:isSc a=true) (hx:Rdb Γ H g a x):Has Γ g a x:=by
 cases a with
 | non | bl _ | int _ | str _ | tup _=>exact hx
 | _=>cases (show false=true from h)
theorem zes {a:D}(h:isSc a=true):okP 59 a=true:=by
 cases a with
 | lst _=>cases (show false=true from h)
 | _=>exact h
noncomputable def memE (Γ:Gm) (g:G) (l:List D) (a:D) (w:δ):Bool:=@decide (∃ d∈l,∃ y,Has Γ g d y/\RelV y w/\eqP d a=true) (cR _)
theorem uG {g:G}{l:List D}{a:D}{w:δ}:memE Γ g l a w=true ↔ ∃ d∈l,∃ y,Has Γ g d y/\RelV y w/\eqP d a=true:=⟨@of_decide_eq_true _ (cR _),@decide_eq_true _ (cR _)⟩
theorem zbt {g:G}:∀ {l:List D}{xs:List V}{us:List δ},Hass Γ g l xs->Vals xs us->∀ d∈l,∃ y w,w∈us/\Has Γ g d y/\RelV y w
 | [],_,_,_,_,d,hd=>by cases hd
 | c::l,_,_,⟨v,r,rfl,hc,hr⟩,.cons q t,d,hd=>by
  rcases χ.mp hd with rfl | hd
  ·exact ⟨v,_,θ,hc,q⟩
  ·obtain ⟨y,w,h1,h2⟩:=zbt hr t d hd;exact ⟨y,w,η _ h1,h2⟩
theorem Xf {g:G}:∀ {l:List D}{xs:List V}{us:List δ},Hass Γ g l xs->Vals xs us->∀ w∈us,∃ d∈l,∃ y,Has Γ g d y/\RelV y w
 | [],_,_,h,t,w,hw=>by cases (show _=[] from h);cases t;cases hw
 | c::l,_,_,⟨v,r,rfl,hc,hr⟩,.cons q t,w,hw=>by
  rcases χ.mp hw with rfl | hw
  ·exact ⟨c,θ,v,hc,q⟩
  ·obtain ⟨d,h1,h2⟩:=Xf hr t w hw;exact ⟨d,η _ h1,h2⟩
theorem uH {g:G}{l:List D}{a:D}{xs:List V}{us:List δ}(h:Hass Γ g l xs) (t:Vals xs us):us.toArray.any (memE Γ g l a)=l.any fun d=>eqP d a:=by
 rw [show us.toArray.any (memE Γ g l a)=us.any (memE Γ g l a) by simp,cI,aF,aF];constructor
 ·rintro ⟨w,_,e⟩;obtain ⟨d,hd,_,_,_,q⟩:=uG.mp e;exact ⟨d,hd,q⟩
 ·rintro ⟨d,hd,q⟩;obtain ⟨y,w,h1,h2,h3⟩:=zbt h t d hd;exact ⟨w,h1,uG.mpr ⟨d,hd,y,h2,h3,q⟩⟩
theorem qL {pj:List (Addr×Obj)}{σ:L2.St}{H:Hp}{s:ν}{g:G}{l:List D}{a:D}{x:V}{v:δ}{xs:List V}{us:List δ}(I:Inv X pj σ H s) (hK:X.K=Γ.K) (sr:Same g.R H) (hu:X.A.units+61 < ϰ) (ka:isSc a=true) (kl:l.all isSc=true) (hx:Rdb Γ H g a x) (rx:RelV x v) (h:Hass Γ g l xs) (t:Vals xs us) (w:δ) (hw:w∈us.toArray):bT X.A.in1 s w v (memE Γ g l a w):=by
 have go:∀ d∈l,∀ y,Has Γ g d y->RelV y w->bT X.A.in1 s w v (eqP d a):=fun d hd y h1 h2=>Zc I hK sr 59 d a y x w v _ (by rw [units_in1];omega) (zes (Ρ.mp kl d hd)) (zes ka) h1 (zge ka hx) h2 rx
 cases e:memE Γ g l a w with
 | true=>
  obtain ⟨d,hd,y,h1,h2,q⟩:=uG.mp e;rw [<- q];exact go d hd y h1 h2
 | false=>
  obtain ⟨d,hd,y,h1,h2⟩:=Xf h t w (by simpa using hw);have q:eqP d a=false:=aP.mpr fun q=>aP.mp e (uG.mpr ⟨d,hd,y,h1,h2,q⟩)
  rw [<- q];exact go d hd y h1 h2
theorem Wu {pj:List (Addr×Obj)}{σ:L2.St}{H:Hp}{s:ν}{g:G}{l m:List D}{x:V}{v:δ}(I:Inv X pj σ H s) (hu:X.A.units+61 < ϰ) (kl:l.all isStr=true) (hx:Rdb Γ H g (.lst m) x) (rx:RelV x v):∀ {xs:List V}{us:List δ},Hass Γ g l xs->Vals xs us->∀ w∈us.toArray,bT X.A.in1 s w v ((fun _=>false) w):=by
 intro xs us h t w hw;obtain ⟨d,hd,y,h1,h2⟩:=Xf h t w (by simpa using hw);have hs:=Ρ.mp kl d hd;obtain ⟨p,ys,rfl,hp,_⟩:=hx;cases rx;obtain ⟨its,r,pl,hz⟩:=I.list (SqL.of hp);cases d with
 | str z=>
  cases (show y=.str z from h1);obtain ⟨t,rfl⟩:=h2;exact bT.str_list z t pl.isList (by rw [units_in1];omega)
 | _=>cases hs
theorem zda {l m:List D}{b:D}(hK:X.K=Γ.K) (hu:X.A.units+61 < ϰ) (hs:seqD b=some l) (kl:l.all isStr=true):(∃ r,OpR X (Ω .In) r/\RDo Γ r (.lst m) b (.bl false) false)/\∃ r,OpR X (Ω .NotIn) r/\RDo Γ r (.lst m) b (.bl true) false:=by
 refine ⟨⟨fun x y H Q=>∃ g S,WOk Γ H g S/\Rdb Γ H g (.lst m) x/\Rdb Γ H g b y/\∀ v,(∀ g,Has Γ g (.bl false) v)->Q v H,?_,fun S H g x y Q w hx hy q=>⟨g,S,w,hx,hy,fun v hv=>zc w q (hv g)⟩⟩,fun x y H Q=>∃ g S,WOk Γ H g S/\Rdb Γ H g (.lst m) x/\Rdb Γ H g b y/\∀ v,(∀ g,Has Γ g (.bl true) v)->Q v H,?_,fun S H g x y Q w hx hy q=>⟨g,S,w,hx,hy,fun v hv=>zc w q (hv g)⟩⟩
 all_goals
  intro pj s σ H x y v u Q I rx ry ⟨g,S,w,hx,hy,q⟩;obtain ⟨p,xs,e,hq,hh⟩:=zek hK w hs hy;subst e;cases ry;have no:∀ us:List δ,us.toArray.any (fun _=>false)=false:=fun us=>by simp
  rcases hq with hq | hq
 ·obtain ⟨its,r,pl,hz⟩:=I.list hq;refine gO (fun _=>false) pl.isList (Wu I hu kl hx rx hh r) ⟨.bl _,H,I,rfl,?_⟩;rw [no];exact q _ fun _=>rfl
 ·obtain ⟨its,r,pl,hz⟩:=I.tuple hq;refine gJ (fun _=>false) pl (Wu I hu kl hx rx hh r) ⟨.bl _,H,I,rfl,?_⟩;rw [no];exact q _ fun _=>rfl
 ·obtain ⟨its,r,pl,hz⟩:=I.list hq;refine gm (fun _=>false) pl.isList (Wu I hu kl hx rx hh r) ⟨.bl _,H,I,rfl,?_⟩;rw [no];exact q _ fun _=>rfl
 ·obtain ⟨its,r,pl,hz⟩:=I.tuple hq;refine fX (fun _=>false) pl (Wu I hu kl hx rx hh r) ⟨.bl _,H,I,rfl,?_⟩;rw [no];exact q _ fun _=>rfl
set_option tactic.hygienic true in
theorem zf9 {l:List D}{a b:D}{c:Bool}(hK:X.K=Γ.K) (hu:X.A.units+61 < ϰ) (hs:seqD b=some l) (h:memD l a=some c):(∃ r,OpR X (Ω .In) r/\RDo Γ r a b (.bl c) false)/\∃ r,OpR X (Ω .NotIn) r/\RDo Γ r a b (.bl (!c)) false:=by
 have h:(if (isSc a&&l.all isSc)=true then some (l.any fun y=>eqP y a) else if (isLs a&&l.all isStr)=true then some false else none)=some c:=h;by_cases hf:(isSc a&&l.all isSc)=true
 ·rw [if_pos hf] at h;cases h;rw [γ] at hf;refine ⟨⟨fun x y H Q=>∃ g S,WOk Γ H g S/\Rdb Γ H g a x/\Rdb Γ H g b y/\∀ v,(∀ g,Has Γ g (.bl (l.any fun y=>eqP y a)) v)->Q v H,?_,fun S H g x y Q w hx hy q=>⟨g,S,w,hx,hy,fun v hv=>zc w q (hv g)⟩⟩,fun x y H Q=>∃ g S,WOk Γ H g S/\Rdb Γ H g a x/\Rdb Γ H g b y/\∀ v,(∀ g,Has Γ g (.bl (!l.any fun y=>eqP y a)) v)->Q v H,?_,fun S H g x y Q w hx hy q=>⟨g,S,w,hx,hy,fun v hv=>zc w q (hv g)⟩⟩
  all_goals
   intro pj s σ H x y v u Q I rx ry ⟨g,S,w,hx,hy,q⟩;obtain ⟨p,xs,e,hq,hh⟩:=zek hK w hs hy;subst e;cases ry;rcases hq with hq | hq
  ·obtain ⟨its,r,pl,hz⟩:=I.list hq;refine gO (memE Γ g l a) pl.isList (qL I hK w.rh hu hf.1 hf.2 hx rx hh r) ⟨.bl _,H,I,rfl,?_⟩;rw [uH hh r];exact q _ fun _=>rfl
  ·obtain ⟨its,r,pl,hz⟩:=I.tuple hq;refine gJ (memE Γ g l a) pl (qL I hK w.rh hu hf.1 hf.2 hx rx hh r) ⟨.bl _,H,I,rfl,?_⟩;rw [uH hh r];exact q _ fun _=>rfl
  ·obtain ⟨its,r,pl,hz⟩:=I.list hq;refine gm (memE Γ g l a) pl.isList (qL I hK w.rh hu hf.1 hf.2 hx rx hh r) ⟨.bl _,H,I,rfl,?_⟩;rw [uH hh r];exact q _ fun _=>rfl
  ·obtain ⟨its,r,pl,hz⟩:=I.tuple hq;refine fX (memE Γ g l a) pl (qL I hK w.rh hu hf.1 hf.2 hx rx hh r) ⟨.bl _,H,I,rfl,?_⟩;rw [uH hh r];exact q _ fun _=>rfl
 ·rw [if_neg hf] at h;split at h
  ·rename_i hl
   cases h;rw [γ] at hl;cases a with
   | lst m=>exact zda hK hu hs hl.2
   | _=>cases hl.1
  ·cases h
theorem JV {a b:D}{neg:Bool}{o:Option D}(hu1:X.A.units+1 < ϰ) (e:vZ b a=some o):RDo Γ (rInD neg) a b (.bl (if neg then !o.isSome else o.isSome)) false:=by
 intro S H g x y Q w hx hy q;obtain ⟨p,v,e1,e2,_,e3,e4⟩:=WR w e hy hx;refine ⟨p,v,e1,e2,zc w q ?_⟩;cases o with
 | none=>rw [e4 rfl];rfl
 | some d=>obtain ⟨z,hz,_⟩:=e3 d rfl;rw [hz];rfl
theorem qX {f:Int->Int->Bool}{a b:D}{c:Bool}(h:int2 f a b=some c):∃ i j,a=.int i/\b=.int j/\c=f i j:=by
 cases a with
 | int i=>
  cases b with
  | int j=>cases h;exact ⟨i,j,rfl,rfl,rfl⟩
  | _=>cases h
 | _=>cases h
theorem JW {a b:D}{c:Bool}(hK:X.K=Γ.K) (hu:X.A.units+61 < ϰ) (hu1:X.A.units+1 < ϰ) (h:inD a b=some c):(∃ r,OpR X (Ω .In) r/\RDo Γ r a b (.bl c) false)/\∃ r,OpR X (Ω .NotIn) r/\RDo Γ r a b (.bl (!c)) false:=by
 have sq:∀ l,seqD b=some l->memD l a=some c->(∃ r,OpR X (Ω .In) r/\RDo Γ r a b (.bl c) false)/\∃ r,OpR X (Ω .NotIn) r/\RDo Γ r a b (.bl (!c)) false:=fun l h1 h2=>zf9 hK hu h1 h2
 have dc:(vZ b a).map (·.isSome)=some c->(∃ r,OpR X (Ω .In) r/\RDo Γ r a b (.bl c) false)/\∃ r,OpR X (Ω .NotIn) r/\RDo Γ r a b (.bl (!c)) false:=fun h=>by obtain ⟨o,e,rfl⟩:=ι.mp h;exact ⟨⟨_,zfn hu1,JV (neg:=false) hu1 e⟩,_,Jg hu1,JV (neg:=true) hu1 e⟩
 cases b with
 | lst l=>exact sq l rfl h
 | tup l=>exact sq l rfl h
 | ktp l=>exact sq l rfl h
 | str y=>
  cases a with
  | str x=>
   cases h;exact ⟨⟨_,Ji,fun S H g u v Q w hx hy q=>⟨x,y,hx,hy,zc w q rfl⟩⟩,_,ZP,fun S H g u v Q w hx hy q=>⟨x,y,hx,hy,zc w q rfl⟩⟩
  | _=>cases h
 | dK ks ds=>exact dc h
 | dT ks ds=>exact dc h
 | dF ks ds=>exact dc h
 | _=>cases h
theorem JQ {a b:D}{c:Bool}(h:isD a b=some c):(∃ r,OpR X (Ω .Is) r/\RDo Γ r a b (.bl c) false)/\∃ r,OpR X (Ω .IsNot) r/\RDo Γ r a b (.bl (!c)) false:=by
 cases b with
 | non=>
  cases h;exact ⟨⟨_,zfl,fun S H g x y Q w hx hy q=>⟨hy,zc w q (by rw [kI hx];rfl)⟩⟩,_,zcE,fun S H g x y Q w hx hy q=>⟨hy,zc w q (by rw [kI hx];rfl)⟩⟩
 | bl j=>
  cases a with
  | bl i=>
   cases h;exact ⟨⟨_,zfm,fun S H g x y Q w hx hy q=>⟨_,_,hx,hy,zc w q rfl⟩⟩,_,zcF,fun S H g x y Q w hx hy q=>⟨_,_,hx,hy,zc w q rfl⟩⟩
  | _=>cases h
 | _=>cases h
theorem zbH {a b:D}{c:Bool}(h:eqD a b=some c):okP 60 a=true/\okP 60 b=true/\c=eqP a b:=by
 have h:(if (okP 60 a&&okP 60 b)=true then some (eqP a b) else none)=some c:=h;by_cases hk:(okP 60 a&&okP 60 b)=true
 ·rw [if_pos hk] at h;cases h;rw [γ] at hk;exact ⟨hk.1,hk.2,rfl⟩
 ·rw [if_neg hk] at h;cases h
theorem ints_of {g:G}:∀ {l:List D}{ns:List Int}{xs:List V},vX l=some ns->Hass Γ g l xs->xs=ns.map V.int
 | [],ns,xs,h,hh=>by cases (show some []=some ns from h);exact hh
 | d::l,ns,xs,h,⟨v,r,e,hv,hr⟩=>by
  subst e;cases d with
  | int i=>
   simp only [vX,ι] at h;obtain ⟨ms,e1,e2⟩:=h;subst e2;rw [show v=V.int i from hv,ints_of e1 hr];rfl
  | _=>cases h
theorem kv_mem {kvs:List (Key×V)}{vs:List (Key×δ)}(r:KV kvs vs):∀ p∈vs,∃ q∈kvs,q.1=p.1/\RelV q.2 p.2:=by
 unfold KV at r
 induction r with
 | nil=>intro p hp;cases hp
 | cons h t ih=>
  intro p hp;rcases χ.mp hp with rfl | hp
  ·exact ⟨_,θ,h⟩
  ·obtain ⟨q,hq,e⟩:=ih p hp;exact ⟨q,η _ hq,e⟩
theorem V5:∀ {kvs:List (Key×V)},(kvs.map (·.1)).Nodup->∀ q∈kvs,valV kvs q.1=some q.2
 | [],_,q,hq=>by cases hq
 | p::r,h,q,hq=>by
  rw [ϳ,cG] at h;rcases χ.mp hq with rfl | hq
  ·exact wX rfl
  ·rw [wY fun e=>h.1 (by rw [e];exact List.mem_map_of_mem hq)];exact V5 h.2 q hq
theorem JZ {A:Ϗ}{s:ν}{kb:List (Key×δ)}:∀ (r:List (Key×δ)),(∀ p∈r,∃ i t t',p.2=Ϧ i t/\d7 kb p.1=some (.int i t'))->W.KeqHits A s kb r true
 | [],_=>.nil
 | (k,v)::r,h=>by obtain ⟨i,t,t',e1,e2⟩:=h (k,v) θ;have e1:v=.int i t:=e1;subst e1;have q:=bT.int_int (A:=A) (s:=s) i t i t';rw [beq_self_eq_true] at q;exact .hit (e:=true) (b:=true) e2 q (JZ r fun p hp=>h p (η _ hp))
def rNeD:R2:=fun x y H Q=>∃ a b kvs,x=.ref a/\y=.ref b/\Rd H a (.dK kvs)/\Rd H b (.dK kvs)/\(kvs.map (·.1)).Nodup/\(∀ p∈kvs,∃ i,p.2=V.int i)/\Q (.bl false) H
theorem Jh (hu:X.A.units < ϰ):OpR X (Ω .NotEq) rNeD:=by
 intro pj s σ H x y v u Q I rx ry ⟨a,b,kvs,e1,e2,ha,hb,hn,hi,q⟩;subst e1 e2;cases rx;cases ry;obtain ⟨_,sa,va,ra,da⟩:=Yl I.hok ha;obtain ⟨_,sb,vb,rb,db⟩:=Yl I.hok hb;refine W.keq_ne (r:=true) sa sb da db hu (fun _=>JZ va fun p hp=>?_) ?_
 ·obtain ⟨z,hz,e1,e2⟩:=kv_mem ra p hp;obtain ⟨i,e3⟩:=hi z hz;rw [e3] at e2;obtain ⟨t,e2⟩:=e2;have rv:=rb.val z.1;rw [V5 hn z hz,e3,e1] at rv;cases e4:d7 vb p.1 with
  | none=>rw [e4] at rv;exact rv.elim
  | some w=>
   rw [e4] at rv;obtain ⟨t',e5⟩:=(show RelV (.int i) w from rv)
   exact ⟨i,t,t',e2,by rw [e5]⟩
 ·rw [<- ra.length,<- rb.length,beq_self_eq_true];exact ⟨.bl false,H,I,rfl,q⟩
set_option tactic.hygienic true in
theorem zfw {ks ks':List Key}{vs vs':List D}{c:Bool}(h:neD (.dK ks vs) (.dK ks' vs')=some c):RDo Γ rNeD (.dK ks vs) (.dK ks' vs') (.bl c) false:=by
 have h:(if (decide (ks=ks')&&decide ks.Nodup&&decide (vX vs=vX vs')&&(vX vs).isSome)=true then some false else none)=some c:=h;split at h
 ·rename_i hc
  cases h;simp only [γ,decide_eq_true_eq] at hc;obtain ⟨⟨⟨e1,hn⟩,e2⟩,e3⟩:=hc;subst e1;intro S H g x y Q w ⟨a,xs,hx,h1,h2,h3⟩ ⟨b,ys,hy,f1,f2,f3⟩ q;obtain ⟨ns,e4⟩:=bH.mp e3;have z1:=ints_of e4 h3;have z2:=ints_of (e2.symm.trans e4) f3;refine ⟨a,b,ks.zip (ns.map V.int),hx,hy,.inl (by rw [h1,z1]),.inl (by rw [f1,z2]),?_,fun p hp=>?_,zc w q rfl⟩
  ·rw [List.map_fst_zip (by rw [<- z1,h3.len,<- h2];exact Η _)];exact hn
  ·obtain ⟨i,_,e⟩:=aX.mp (cF hp).2;exact ⟨i,e.symm⟩
 ·cases h
theorem zdq {op:dW}{a b:D}{c:Bool}(hK:X.K=Γ.K) (hu:X.A.units+61 < ϰ) (h:cmpD op a b=some c):∃ r,OpR X (Ω op) r/\RDo Γ r a b (.bl c) false:=by
 have hu1:X.A.units+1 < ϰ:=by lia
 cases op with
 | Eq=>
  obtain ⟨h1,h2,rfl⟩:=zbH h;exact ⟨_,zfo hK hu h1 h2,Wf⟩
 | NotEq=>
  have old:(eqD a b).map (!·)=some c->∃ r,OpR X (Ω .NotEq) r/\RDo Γ r a b (.bl c) false:=fun h=>by obtain ⟨c',e,rfl⟩:=ι.mp h;obtain ⟨h1,h2,rfl⟩:=zbH e;exact ⟨_,zfi hK hu h1 h2,Wf⟩
  have h:neD a b=some c:=h;cases a with
  | dK ks vs=>
   cases b with
   | dK ks' vs'=>exact ⟨_,Jh (by lia),zfw h⟩
   | _=>exact old h
  | _=>exact old h
 | Lt=>obtain ⟨i,j,rfl,rfl,rfl⟩:=qX h;exact ⟨_,zhQ,fun S H g x y Q w hx hy q=>⟨_,_,hx,hy,zc w q rfl⟩⟩
 | LtE=>obtain ⟨i,j,rfl,rfl,rfl⟩:=qX h;exact ⟨_,zhR,fun S H g x y Q w hx hy q=>⟨_,_,hx,hy,zc w q rfl⟩⟩
 | Gt=>obtain ⟨i,j,rfl,rfl,rfl⟩:=qX h;exact ⟨_,zhS,fun S H g x y Q w hx hy q=>⟨_,_,hx,hy,zc w q rfl⟩⟩
 | GtE=>obtain ⟨i,j,rfl,rfl,rfl⟩:=qX h;exact ⟨_,zhT,fun S H g x y Q w hx hy q=>⟨_,_,hx,hy,zc w q rfl⟩⟩
 | Is=>exact (JQ h).1
 | IsNot=>
  obtain ⟨c',e,rfl⟩:=ι.mp (show (isD a b).map (!·)=some c from h);exact (JQ e).2
 | In=>exact (JW hK hu hu1 h).1
 | NotIn=>
  obtain ⟨c',e,rfl⟩:=ι.mp (show (inD a b).map (!·)=some c from h);exact (JW hK hu hu1 e).2
def rIxD:R2:=fun x y H Q=>∃ a v,x=.ref a/\DGet H a y (some v)/\Q v H
theorem Xq (hu:X.A.units+1 < ϰ):IxR X rIxD:=by intro value slice pj s σ H x y v u Q I rx ry ⟨a,z,e,g,q⟩ hs;subst e;cases rx;exact tail_any (XC I g) PySem.F.slot_dict_getitem.lookup (Kp hu I g ry fun w' s' I' r'=>⟨z,H,I',r',q⟩) hs
theorem K5 {g:G}{l:List D}{xs:List V}{i:Int}{d:D}(h:Hass Γ g l xs) (e:((ixN l.length i).bind fun k=>l[k]?)=some d):∃ v,atI xs i=some v/\Has Γ g d v:=by obtain ⟨k,e1,e2⟩:=ζ.mp e;obtain ⟨v,hv,hd⟩:=h.get e2;refine ⟨v,?_,hd⟩;unfold atI;rw [h.len,e1];exact hv
set_option tactic.hygienic true in
theorem zfS {a b d:D}(hK:X.K=Γ.K) (hu:X.A.units+1 < ϰ) (h:subD a b=some d):∃ r,IxR X r/\RDo Γ r a b d false:=by
 unfold subD at h;split at h
 ·refine ⟨_,zfQ,fun S H g x y Q w ⟨p,xs,e,h1,h2⟩ hy q=>?_⟩;obtain ⟨v,e1,e2⟩:=K5 h2 h;exact ⟨p,xs,_,v,e,hy,SqT.of (w.rh _ _ h1),e1,zc w q e2⟩
 ·refine ⟨_,JL,fun S H g x y Q w ⟨p,xs,e,h1,h2⟩ hy q=>?_⟩;obtain ⟨v,e1,e2⟩:=K5 h2 h;exact ⟨p,xs,_,v,e,hy,SqL.of h1,e1,zc w q e2⟩
 ·rename_i l i
  refine ⟨_,JL,fun S H g x y Q w ⟨p,e,h1⟩ hy q=>?_⟩;have h':((ixN (l.map D.int).length i).bind fun k=>(l.map D.int)[k]?)=some d:=by rw [ώ];simpa [Υ] using h
  obtain ⟨v,e1,e2⟩:=K5 (Hass.ints (Γ:=Γ) (g:=g)) h';exact ⟨p,_,_,v,e,hy,by rw [hK];exact h1,e1,zc w q e2⟩
 ·split at h
  ·rename_i hf
   obtain ⟨k,e1,e2⟩:=ζ.mp h;obtain ⟨c,e3,e4⟩:=ι.mp e2;subst e4;refine ⟨_,zfR,fun S H g x y Q w hx hy q=>⟨_,_,c,hx,hy,xW hf,?_,zc w q rfl⟩⟩;unfold atI;have e1':ixN _ _=some k:=e1;rw [e1'];exact e3
  ·cases h
 ·obtain ⟨o,e1,e2⟩:=ζ.mp h;refine ⟨_,Xq hu,fun S H g x y Q w hx hy q=>?_⟩;obtain ⟨p,v,f1,f2,_,f3,_⟩:=WR w e1 hx hy;obtain ⟨z,hz,hd⟩:=f3 d e2;exact ⟨p,z,f1,by rw [<- hz];exact f2,zc w q hd⟩
 ·obtain ⟨o,e1,e2⟩:=ζ.mp h;refine ⟨_,Xq hu,fun S H g x y Q w hx hy q=>?_⟩;obtain ⟨p,v,f1,f2,_,f3,_⟩:=WR w e1 hx hy;obtain ⟨z,hz,hd⟩:=f3 d e2;exact ⟨p,z,f1,by rw [<- hz];exact f2,zc w q hd⟩
 ·obtain ⟨o,e1,e2⟩:=ζ.mp h;refine ⟨_,Xq hu,fun S H g x y Q w hx hy q=>?_⟩;obtain ⟨p,v,f1,f2,_,f3,_⟩:=WR w e1 hx hy;obtain ⟨z,hz,hd⟩:=f3 d e2;exact ⟨p,z,f1,by rw [<- hz];exact f2,zc w q hd⟩
 ·cases h
theorem XF {g:G}{l:List D}{xs:List V}(lo hi:Option Int) (h:Hass Γ g l xs):Hass Γ g (cutD l lo hi) (cutV xs lo hi):=by unfold cutD cutV;rw [h.len];exact (h.drop _).take _
def RDs (Γ:Gm) (r:V->Option Int->Option Int->Hp->VK->Prop) (a:D) (lo hi:Option Int) (d:D) (fr:Bool):Prop:=
 ∀ (S:Store) (H:Hp) (g:G) (x:V) (Q:VK),WOk Γ H g S->Rdb Γ H g a x->Fin Γ H g S d fr Q->r x lo hi H Q
def rSlS:V->Option Int->Option Int->Hp->VK->Prop:=fun x lo hi H Q=>∃ z,x=.str z/\z.length<=sizeLine/\Q (.str (fL z lo hi)) H
theorem Je {v:δ}{o:Option Int}(h:eG v o):∃ p:Option (Int×Tok),v=partValue p/\p.map (·.1)=o:=by
 cases h with
 | none=>exact ⟨none,rfl,rfl⟩
 | int i t=>exact ⟨some (i,t),rfl,rfl⟩
theorem zen:SlR X rSlS:=by intro pj s σ H x v vl vu lo hi sl Q I rx hs pl pu ⟨z,e,hz,q⟩;subst e;obtain ⟨t,rfl⟩:=rx;obtain ⟨p,rfl,rfl⟩:=Je pl;obtain ⟨p',rfl,rfl⟩:=Je pu;refine ⟨"str",_,PySem.F.slot_str_getitem.lookup,lB _ _ _,wpAny_getItem_str_slice (l:=p) (u:=p') (st:=none) hs rfl ?_⟩;exact post_val_or_str ⟨ϕ (Txt.slice_le z _ _) hz,fun t' k=>⟨.str (fL z (p.map (·.1)) (p'.map (·.1))),H,I.tok _,⟨t',rfl⟩,q⟩⟩
set_option tactic.hygienic true in
theorem zeo {a d:D}{lo hi:Option Int}{fr:Bool}(hK:X.K=Γ.K) (h:slcD a lo hi=some (d,fr)):∃ r,SlR X r/\RDs Γ r a lo hi d fr:=by
 unfold slcD at h;split at h
 ·rename_i l
  cases h;refine ⟨_,zem.or zb5,fun S H g x Q w ⟨p,xs,e,h1,h2⟩ q=>?_⟩;by_cases hw:HT.sIx xs.length 0 lo=0/\HT.sIx xs.length xs.length hi=xs.length
  ·refine .inr ⟨p,xs,e,SqT.of (w.rh _ _ h1),hw,zc w q ?_⟩;have ec:cutD l lo hi=l:=by unfold cutD;rw [<- h2.len,hw.1,hw.2,ir,Nat.sub_zero,b8 (by rw [h2.len];exact Η _)]
   rw [ec];exact ⟨p,xs,rfl,h1,h2⟩
  ·exact .inl ⟨p,xs,e,SqT.of (w.rh _ _ h1),hw,fun b hb=>Za w q (XF lo hi h2) hb⟩
 ·cases h;exact ⟨_,Um,fun S H g x Q w ⟨p,xs,e,h1,h2⟩ q=>⟨p,xs,e,SqL.of h1,fun b hb=>wV w q (XF lo hi h2) hb⟩⟩
 ·cases h;exact ⟨_,Um,fun S H g x Q w ⟨p,e,h1⟩ q=>⟨p,_,e,by rw [hK];exact h1,fun b hb=>wV w q (XF lo hi Hass.ints) hb⟩⟩
 ·split at h
  ·rename_i hf
   cases h;exact ⟨_,zen,fun S H g x Q w hx q=>⟨_,hx,xW hf,zc w q rfl⟩⟩
  ·cases h
 ·cases h
end
def Rdbs (Γ:Gm) (H:Hp) (g:G):List D->List V->Prop
 | [],vs=>vs=[]
 | d::ds,vs=>∃ v r,vs=v::r/\Rdb Γ H g d v/\Rdbs Γ H g ds r
theorem UG {Γ:Gm}{H:Hp}{g:G}{S:Store}(w:WOk Γ H g S):∀ {ds:List D}{vs:List V},Hass Γ g ds vs->Rdbs Γ H g (ds.map (zF S)) vs
 | [],_,h=>h
 | d::ds,_,⟨v,r,e,h1,h2⟩=>⟨v,r,e,za9 w h1,UG w h2⟩
def RDc (Γ:Gm) (r:List V->Hp->VK->Prop) (ds:List D) (d:D) (fr:Bool):Prop:=
 ∀ (S:Store) (H:Hp) (g:G) (xs:List V) (Q:VK),WOk Γ H g S->Rdbs Γ H g ds xs->Fin Γ H g S d fr Q->r xs H Q
section
variable {X:Cx}{Γ:Gm}
theorem rd1 {H:Hp}{g:G}{d:D}{xs:List V}(h:Rdbs Γ H g [d] xs):∃ v,xs=[v]/\Rdb Γ H g d v:=by obtain ⟨v,r,e,h1,h2⟩:=h;cases (show r=[] from h2);exact ⟨v,e,h1⟩
theorem zdW:∀ {ns:List Int}{us:List δ},Vals (ns.map V.int) us->∀ (i:Nat) (v:δ),us[i]?=some v->∃ t,v=Ϧ (ns.getD i 0) t
 | [],_,.nil,i,v,h=>by simp at h
 | n::ns,_,.cons r q,0,v,h=>by obtain ⟨t,rfl⟩:=r;simp at h;exact ⟨t,h.symm⟩
 | n::ns,_,.cons r q,i+1,v,h=>by have:=zdW q i v (by simpa using h);simpa using this
theorem KJ (hc:X.calm=true):yp X (.builtin "sum") (fun xs H Q=>∃ (p:Addr) (ns:List Int),xs=[.ref p]/\SqL X.K H p (ns.map V.int)/\Q (.int ns.sum) H):=by
 intro pj s σ H vs us Q I rv h;obtain ⟨p,ns,rfl,hq,q⟩:=h;obtain ⟨u,rfl,ru⟩:=rv.one;cases (show u=Ε p from ru);obtain ⟨its,rv,hp,hz⟩:=I.list hq;have hl:=hp.isList;have hlt:p < s.heap.objs.size:=by obtain ⟨_,e,_⟩:=hl;exact Δ e
 have hh:X.A.handled=none:=I.ok.hd hc;have hlen:=rv.length;rw [ώ] at hlen;refine call_sum_walkG (gQ hl ?_)
 refine ⟨s.heap.objs.size,[s.heap.objs.size,p],[s.heap.objs.size],its.toArray.size,_,_,fun i=>ns.getD i 0,rfl,Walks.list (A:=X.A.in1) hh _ p (ϔ hlt) its.toArray,
  ⟨⟨_,Χ _ rfl,rfl,rfl⟩,hl.push _⟩,fun b hb=>?_,fun i v hP=>?_,fun h' tk t' hk=>?_⟩
 ·rcases χ.mp hb with rfl | hb
  ·show _ < (s.heap.push _).objs.size
   rw [ϭ];exact dz _
  ·rw [Μ.mp hb];show _ < (s.heap.push _).objs.size
   rw [ϭ];exact Nat.lt_succ_of_lt hlt
 ·exact zdW rv i v (by simpa using hP)
 ·refine ⟨.int ns.sum,H,I.kept (LSm.kept_iter hk),⟨t',?_⟩,q⟩;rw [preSum_getD,ς,<- hlen,List.take_length]
theorem Yz {g:G}:∀ {l:List D}{ns:List Bool}{xs:List V},jE l=some ns->Hass Γ g l xs->xs=ns.map V.bl
 | [],ns,xs,h,hh=>by cases (show some []=some ns from h);exact hh
 | d::l,ns,xs,h,⟨v,r,e,hv,hr⟩=>by
  subst e;cases d with
  | bl i=>
   simp only [jE,ι] at h;obtain ⟨ms,e1,e2⟩:=h;subst e2;rw [show v=V.bl i from hv,Yz e1 hr];rfl
  | _=>cases h
noncomputable def biV:BI->δ
 | .len=>.builtin "len" | .abs=>.builtin "abs" | .int=>.type "int" | .str=>.type "str" | .tuple=>.type "tuple" | .list=>.type "list"
 | .sum=>.builtin "sum" | .all=>.builtin "all" | .any=>.builtin "any" | .isinst _=>.builtin "isinstance" | .min2=>.builtin "min" | .max2=>.builtin "max" | .sorted=>.builtin "sorted" | .repr=>.builtin "repr" | .dict=>.type "dict" | .sset=>.builtin "sorted" | .lset=>.builtin "len" | .trev=>.type "tuple"
noncomputable def isI:BI->Bool
 | .isinst _=>true
 | .sset=>true
 | .lset=>true
 | .trev=>true
 | _=>false
set_option tactic.hygienic true in
theorem zcY {d0:D}{d:D}{fr:Bool}(hK:X.K=Γ.K) (h:lenD d0=some (d,fr)):∃ r,yp X (.builtin "len") r/\RDc Γ r [d0] d fr:=by
 cases d0 with
 | tup l=>
  cases h;refine ⟨_,wg,fun S H g xs Q w hx q=>?_⟩;obtain ⟨v,rfl,p,ys,rfl,h1,h2⟩:=rd1 hx;exact ⟨p,ys,rfl,.inr (SqT.of (w.rh _ _ h1)),zc w q (by rw [h2.len];rfl)⟩
 | lst l=>
  cases h;refine ⟨_,wg,fun S H g xs Q w hx q=>?_⟩;obtain ⟨v,rfl,p,ys,rfl,h1,h2⟩:=rd1 hx;exact ⟨p,ys,rfl,.inl (SqL.of h1),zc w q (by rw [h2.len];rfl)⟩
 | scr l=>
  cases h;refine ⟨_,wg,fun S H g xs Q w hx q=>?_⟩;obtain ⟨v,rfl,p,rfl,h1⟩:=rd1 hx;exact ⟨p,_,rfl,.inl (by rw [hK];exact h1),zc w q (by rw [ώ];rfl)⟩
 | str x=>
  have h:(if fits x.length=true then some (D.int x.length,false) else none)=some (d,fr):=h;split at h
  ·rename_i hf
   cases h;refine ⟨_,Yv,fun S H g xs Q w hx q=>?_⟩;obtain ⟨v,rfl,hv⟩:=rd1 hx;exact ⟨_,by rw [show v=_ from hv],xW hf,zc w q rfl⟩
  ·cases h
 | dK ks vs=>
  cases h;refine ⟨fun xs H Q=>∃ d kvs,xs=[.ref d]/\Rd H d (.dK kvs)/\Q (.int kvs.length) H,?_,fun S H g xs Q w hx q=>?_⟩
  ·intro pj s σ H xs us Q I r hh;obtain ⟨d,kvs,rfl,hd,q⟩:=hh;obtain ⟨u,rfl,ru⟩:=vals1 r;cases (show u=Ε d from ru);exact ziv I hd fun t s' I'=>⟨.int kvs.length,H,I',⟨t,rfl⟩,q⟩
  ·obtain ⟨v,rfl,p,ys,rfl,h1,h2,h3⟩:=rd1 hx;refine ⟨p,_,rfl,.inl h1,zc w q ?_⟩;rw [dJ,h3.len,<- h2,Nat.min_self];rfl
 | _=>cases h
theorem zbn {f:List D->Option D}{d0:D}{p:D×Bool}(h:onL f d0=some p):∃ l d,d0=.lst l/\f l=some d/\p=(d,false):=by
 cases d0 with
 | lst l=>
  obtain ⟨d,e,rfl⟩:=ι.mp (show (f l).map (fun d=>(d,false))=some p from h);exact ⟨l,d,rfl,e,rfl⟩
 | _=>cases h
theorem Ye {g:G}:∀ (l:List Nat),Hass Γ g (l.map fun c=>D.str ⟨#[c]⟩) (l.map fun c=>V.str ⟨#[c]⟩)
 | []=>rfl
 | x::l=>⟨.str _,_,rfl,rfl,Ye l⟩
theorem jX:∀ (l:List Nat) (us:List δ),us.length=l.length->(∀ (i:Nat) (c:Nat) (u:δ),l[i]?=some c->us[i]?=some u->∃ t,u=ϴ ⟨#[c]⟩ t)->Vals (l.map fun c=>V.str ⟨#[c]⟩) us
 | [],[],_,_=>.nil
 | [],_::_,h,_=>by simp at h
 | _::_,[],h,_=>by simp at h
 | c::l,u::us,h,k=>.cons (k 0 c u rfl rfl) (jX l us (by simpa using h) fun i c u e1 e2=>k (i+1) c u e1 e2)
theorem Yt (hc:X.calm=true):yp X (.type "list") (fun xs H Q=>∃ x,xs=[.str x]/\x.length<=sizeLine/\∀ l,H l=none->Q (.ref l) (upd H l (.lst (x.cps.toList.map fun c=>V.str ⟨#[c]⟩)))):=by
 intro pj s σ H xs us Q I r h;obtain ⟨x,rfl,hz,q⟩:=h;obtain ⟨u,rfl,rx⟩:=vals1 r;obtain ⟨t,rfl⟩:=rx;refine PySem.call_list_str (I.ok.hd hc) x t (fun h' tk acc c' kp e it=>?_) hz;obtain ⟨e1,e2⟩:=it;have rv:Vals (x.cps.toList.map fun c=>V.str ⟨#[c]⟩) acc.toList:=jX _ _ (by simpa using e1) fun i c u h1 h2=>by
  obtain ⟨c',t',h3,h4⟩:=e2 i u (by simpa using h2);have h1:x.cps[i]?=some c:=by simpa using h1
  rw [h1] at h3;cases h3;exact ⟨t',h4⟩
 exact ⟨.ref s.heap.objs.size,_,I.laid (t':=tk) kp (Η _) (show yo X.prog X.w _ h' _ (.lst (x.cps.toList.map fun c=>V.str ⟨#[c]⟩)) from ⟨by rw [ώ,cJ];exact hz,acc.toList,c',rv,by simpa using e⟩),rfl,q _ (I.hok.fresh (Η _))⟩
theorem zbv {d0:D}{l:List D}(h:lotD d0=some l):d0=.lst l\/d0=.tup l:=by
 cases d0 with
 | lst m=>cases h;exact .inl rfl
 | tup m=>cases h;exact .inr rfl
 | _=>cases h
theorem YZ {g:G}:∀ {l:List D}{ns:List Str}{xs:List V},qz l=some ns->Hass Γ g l xs->xs=ns.map V.str
 | [],ns,xs,h,hh=>by cases (show some []=some ns from h);exact hh
 | d::l,ns,xs,h,⟨v,r,e,hv,hr⟩=>by
  subst e;cases d with
  | str i=>
   simp only [qz,ι] at h;obtain ⟨ms,e1,e2⟩:=h;subst e2;rw [show v=V.str i from hv,YZ e1 hr];rfl
  | _=>cases h
theorem rd2 {H:Hp}{g:G}{d e:D}{xs:List V}(h:Rdbs Γ H g [d,e] xs):∃ u v,xs=[u,v]/\Rdb Γ H g d u/\Rdb Γ H g e v:=by obtain ⟨v,r,e,h1,h2⟩:=h;obtain ⟨u,rfl,h3⟩:=rd1 h2;exact ⟨v,u,e,h1,h3⟩
theorem zdA {b:BI}{d0 d1 d:D}{fr:Bool}(hc:X.calm=true) (h:bi2 b d0 d1=some (d,fr)):∃ r,yp X (biV b) r/\RDc Γ r [d0,d1] d fr:=by
 cases b with
 | max2=>
  obtain ⟨i,j,k,rfl,rfl,e,e2⟩:=ji (show num2 (fun i j=>some (if j > i then j else i)) d0 d1=some (d,fr) from h);cases e2;cases e;refine ⟨_,KQ hc,fun S H g xs Q w hx q=>?_⟩;obtain ⟨u,v,rfl,h1,h2⟩:=rd2 hx;exact ⟨i,j,by rw [show u=_ from h1,show v=_ from h2],zc w q rfl⟩
 | _=>cases h
theorem Yr:yp X (.type "str") (fun xs H Q=>∃ x,xs=[.str x]/\Q (.str x) H):=by intro pj s σ H xs us Q I r ⟨x,e,q⟩;subst e;obtain ⟨u,rfl,t,rfl⟩:=vals1 r;exact PySem.P.str_of_str ⟨.str x,H,I,⟨t,rfl⟩,q⟩
theorem KY:yp X (.type "int") (fun xs H Q=>∃ x n,xs=[.str x]/\dR x=some n/\x.length<=640/\Q (.int n) H):=by intro pj s σ H xs us Q I r ⟨x,n,e,hn,hl,q⟩;subst e;obtain ⟨u,rfl,t,rfl⟩:=vals1 r;exact W.KIN.call_text hn hl ⟨.int n,H,I.tok _,⟨_,rfl⟩,q⟩
set_option tactic.hygienic true in
theorem zb3 {d0 d:D}{fr:Bool}(h:strD d0=some (d,fr)):∃ r,yp X (.type "str") r/\RDc Γ r [d0] d fr:=by
 cases d0 with
 | int i=>
  have h:(if decide (i.natAbs.log2 < 1920)=true then some (D.str (toString i),false) else none)=some (d,fr):=h;split at h
  ·rename_i hi
   cases h;refine ⟨_,Ys,fun S H g xs Q w hx q=>?_⟩;obtain ⟨v,rfl,hv⟩:=rd1 hx;exact ⟨i,by rw [show v=_ from hv],of_decide_eq_true hi,zc w q rfl⟩
  ·cases h
 | str x=>
  cases h;refine ⟨_,Yr,fun S H g xs Q w hx q=>?_⟩;obtain ⟨v,rfl,hv⟩:=rd1 hx;exact ⟨x,by rw [show v=_ from hv],zc w q rfl⟩
 | _=>cases h
set_option tactic.hygienic true in
theorem zdB {b:BI}{d0:D}{d:D}{fr:Bool}(hK:X.K=Γ.K) (hg:X.A.guards=some []) (hu:X.A.units+61 < ϰ) (hc:X.calm=true) (hi:isI b=false) (h:biD b [d0]=some (d,fr)):∃ r,yp X (biV b) r/\RDc Γ r [d0] d fr:=by
 cases b with
 | len=>exact zcY hK h
 | abs=>
  cases d0 with
  | int i=>
   cases h;refine ⟨_,zaA,fun S H g xs Q w hx q=>?_⟩;obtain ⟨v,rfl,hv⟩:=rd1 hx;exact ⟨_,by rw [show v=_ from hv],zc w q rfl⟩
  | _=>cases h
 | int=>
  cases d0 with
  | bl b=>
   cases h;refine ⟨_,Yw,fun S H g xs Q w hx q=>?_⟩;obtain ⟨v,rfl,hv⟩:=rd1 hx;exact .inr ⟨_,by rw [show v=_ from hv],zc w q rfl⟩
  | str x=>
   have h:(if decide (x.length<=640)=true then (dR x).map fun n=>(D.int n,false) else none)=some (d,fr):=h;split at h
   ·rename_i hl
    obtain ⟨m,e1,e2⟩:=ι.mp h;cases e2;refine ⟨_,KY,fun S H g xs Q w hx q=>?_⟩;obtain ⟨v,rfl,hv⟩:=rd1 hx;exact ⟨x,m,by rw [show v=_ from hv],e1,of_decide_eq_true hl,zc w q rfl⟩
   ·cases h
  | int i=>
   cases h;refine ⟨_,Yw,fun S H g xs Q w hx q=>?_⟩;obtain ⟨v,rfl,hv⟩:=rd1 hx;exact .inl ⟨_,by rw [show v=_ from hv],zc w q rfl⟩
  | _=>cases h
 | tuple=>cases h
 | list=>
  obtain ⟨l,e,e2⟩:=ι.mp (show (lstD d0).map (fun l=>(D.lst l,true))=some (d,fr) from h);cases e2;by_cases hs:∃ x,d0=.str x
  ·obtain ⟨x,rfl⟩:=hs;have e:(if fits x.length=true then some (x.cps.toList.map fun c=>D.str ⟨#[c]⟩) else none)=some l:=e;split at e
   ·rename_i hf
    cases e;refine ⟨_,Yt hc,fun S H g xs Q w hx q=>?_⟩;obtain ⟨v,rfl,hv⟩:=rd1 hx;exact ⟨x,by rw [show v=.str x from hv],xW hf,fun l hl=>wV w q (Ye _) hl⟩
   ·cases e
  have e:lotD d0=some l:=by
   cases d0 with
   | str x=>exact absurd ⟨x,rfl⟩ hs
   | _=>exact e
  refine ⟨_,Yu,fun S H g xs Q w hx q=>?_⟩;rcases zbv e with rfl | rfl
  ·obtain ⟨v,rfl,p,ys,rfl,h1,h2⟩:=rd1 hx;exact ⟨p,ys,rfl,.inl (SqL.of h1),fun l hl=>wV w q h2 hl⟩
  ·obtain ⟨v,rfl,p,ys,rfl,h1,h2⟩:=rd1 hx;exact ⟨p,ys,rfl,.inr (SqT.of (w.rh _ _ h1)),fun l hl=>wV w q h2 hl⟩
 | sum=>
  obtain ⟨l,z,rfl,e,e2⟩:=zbn h;cases e2;obtain ⟨ns,e3,rfl⟩:=ι.mp e;refine ⟨_,KJ hc,fun S H g xs Q w hx q=>?_⟩;obtain ⟨v,rfl,p,ys,rfl,h1,h2⟩:=rd1 hx;exact ⟨p,ns,rfl,by rw [<- ints_of e3 h2];exact SqL.of h1,zc w q rfl⟩
 | all=>
  obtain ⟨l,z,rfl,e,e2⟩:=zbn h;cases e2;obtain ⟨ns,e3,rfl⟩:=ι.mp e;refine ⟨_,zaz hc,fun S H g xs Q w hx q=>?_⟩;obtain ⟨v,rfl,p,ys,rfl,h1,h2⟩:=rd1 hx;exact ⟨p,ns,rfl,by rw [<- Yz e3 h2];exact SqL.of h1,zc w q rfl⟩
 | any=>cases h
 | isinst t=>cases hi
 | str=>exact zb3 h
 | min2=>cases h
 | max2=>cases h
 | sorted=>cases h
 | sset=>cases hi
 | lset=>cases hi
 | trev=>cases hi
 | repr=>cases h
 | dict=>cases h
theorem zbM {b:BI}{ds:List D}{d:D}{fr:Bool}(hK:X.K=Γ.K) (hg:X.A.guards=some []) (hu:X.A.units+61 < ϰ) (hc:X.calm=true) (hi:isI b=false) (h:biD b ds=some (d,fr)):∃ r,yp X (biV b) r/\RDc Γ r ds d fr:=by
 match ds,h with
 | [],h=>cases h
 | [d0],h=>exact zdB hK hg hu hc hi h
 | [d0,d1],h=>exact zdA hc h
 | _::_::_::_,h=>cases h
noncomputable def tyS:Ty->String
 | .int=>"int" | .bool=>"bool" | .str=>"str" | .tuple=>"tuple" | .list=>"list" | .dict=>"dict"
theorem zf2 {t:Ty}{a:D}{c:Bool}(hK:X.K=Γ.K) (h:isTy t a=some c):
  ∃ r,yp X (.builtin "isinstance") r/\∀ (S:Store) (H:Hp) (g:G) (x:V) (Q:VK),WOk Γ H g S->Rdb Γ H g a x->Q (.bl c) H->r [x,.ty (tyS t)] H Q:=by
 refine ⟨_,XJ,fun S H g x Q w hx q=>?_⟩;have go:∀ ty,TyOf X.K H x (.type ty)->W.kitOne X.K (.type ty) (.type (tyS t))=some c->_:=fun ty h1 h2=>(⟨x,tyS t,.type ty,c,rfl,h1,h2,q⟩:∃ x' T t' b,[x,V.ty (tyS t)]=[x',.ty T]/\TyOf X.K H x' t'/\W.kitOne X.K t' (.type T)=some b/\Q (.bl b) H)
 cases a with
 | non=>cases h;cases (show x=.non from hx);exact go _ .non (by cases t <;> rfl)
 | bl b=>cases (show x=.bl b from hx);exact go _ (.bl b) (by cases t <;> exact h)
 | int b=>cases (show x=.int b from hx);exact go _ (.int b) (by cases t <;> exact h)
 | str b=>cases (show x=.str b from hx);exact go _ (.str b) (by cases t <;> exact h)
 | tup l=>obtain ⟨p,ys,rfl,h1,h2⟩:=hx;exact go _ (.tup (w.rh _ _ h1)) (by cases t <;> exact h)
 | lst l=>obtain ⟨p,ys,rfl,h1,h2⟩:=hx;exact go _ (.lst h1) (by cases t <;> exact h)
 | dK ks l=>obtain ⟨p,ys,rfl,h1,h2⟩:=hx;exact go _ (.dK h1) (by cases t <;> exact h)
 | _=>cases h
end
mutual
noncomputable def Vf:D->D->Bool
 | .non,.non=>true
 | .bl a,.bl b=>a==b
 | .int a,.int b=>a==b
 | .str a,.str b=>a==b
 | .tup a,.tup b=>Zy a b
 | .ktp a,.ktp b=>Zy a b
 | .fn a,.fn b=>a==b
 | .kdc a,.kdc b=>decide (a=b)
 | _,_=>false
noncomputable def Zy:List D->List D->Bool
 | [],[]=>true
 | a::as,b::bs=>Vf a b&&Zy as bs
 | _,_=>false
end
mutual
theorem Wb:∀ (a b:D),Vf a b=true->a=b
 | .non,b,h=>by cases b with | non=>rfl | _=>cases h
 | .bl a,b,h=>by cases b with | bl b=>rw [eq_of_beq (show (a==b)=true from h)] | _=>cases h
 | .int a,b,h=>by cases b with | int b=>rw [eq_of_beq (show (a==b)=true from h)] | _=>cases h
 | .str a,b,h=>by cases b with | str b=>rw [eq_of_beq (show (a==b)=true from h)] | _=>cases h
 | .tup a,b,h=>by cases b with | tup b=>rw [uY a b h] | _=>cases h
 | .ktp a,b,h=>by cases b with | ktp b=>rw [uY a b h] | _=>cases h
 | .fn a,b,h=>by cases b with | fn b=>rw [eq_of_beq (show (a==b)=true from h)] | _=>cases h
 | .kdc a,b,h=>by cases b with | kdc b=>rw [of_decide_eq_true (show decide (a=b)=true from h)] | _=>cases h
 | .lst _,b,h=>by cases b <;> cases h
 | .dK _ _,b,h=>by cases b <;> cases h
 | .dT _ _,b,h=>by cases b <;> cases h
 | .dF _ _,b,h=>by cases b <;> cases h
 | .ins _ _ _,b,h=>by cases b <;> cases h
 | .ref _,b,h=>by cases b <;> cases h
 | .scr _,b,h=>by cases b <;> cases h
theorem uY:∀ (a b:List D),Zy a b=true->a=b
 | [],[],_=>rfl
 | a::as,b::bs,h=>by have h':(Vf a b&&Zy as bs)=true:=h;rw [γ] at h';rw [Wb a b h'.1,uY as bs h'.2]
 | [],_::_,h=>by cases h
 | _::_,[],h=>by cases h
end
structure Cc where
 names:List (Str×ϩ)
 N:List Str
 fn:Bool
noncomputable def visK:Option ϩ->Bool
 | some .local=>true
 | some .cell=>true
 | some .free=>true
 | _=>false
noncomputable def gloK:Option ϩ->Bool
 | some .globalImplicit=>true
 | _=>false
noncomputable def zL (x:Str):Bool:=!(x==("__debug__":Str))&&!(x==("__classdict__":Str))&&!(x==("__name__":Str))&&!dotted x
noncomputable def vI (B:Tb) (f:Str) (c:Str):Bool:=B.obs.any fun o=>o.name==c&&o.fields.contains f
noncomputable def Vo (B:Tb) (m:Str) (p:Str×Nat):Bool:=B.obs.any fun o=>o.name==p.1&&o.meths.contains (m,p.2)
noncomputable def wH:Expr->Bool
 | .Set _ _ _=>false
 | _=>true
noncomputable def notStar:Expr->Bool
 | .Starred _ _=>false
 | _=>true
noncomputable def biS:BI->Str
 | .len=>"len" | .abs=>"abs" | .int=>"int" | .str=>"str" | .tuple=>"tuple" | .list=>"list" | .sum=>"sum" | .all=>"all" | .any=>"any" | .isinst _=>"isinstance" | .min2=>"min" | .max2=>"max" | .sorted=>"sorted" | .repr=>"repr" | .dict=>"dict" | .sset=>"sorted" | .lset=>"len" | .trev=>"tuple"
noncomputable def tyN:Ty->Str
 | .int=>"int" | .bool=>"bool" | .str=>"str" | .tuple=>"tuple" | .list=>"list" | .dict=>"dict"
noncomputable def yP:List aq->Option (List Str)
 | []=>some []
 | ⟨some x,_,_⟩::r=>(yP r).map (x::·)
 | _=>none
noncomputable def relK (names:List (Str×ϩ)):List (Str×ϩ)->List (Str×ϩ):=fun l=>l.map fun (n,k)=>if (k==.free&&names.lookup n==some .cell) then (n,.cell) else (n,k)
noncomputable def namesOf:List Expr->Option (List Str)
 | []=>some []
 | .Name x _::r=>(namesOf r).map (x::·)
 | _=>none
noncomputable def xm:Expr->Option (List Str)
 | .Name x _=>some [x]
 | .Tuple es _ _=>namesOf es
 | _=>none
noncomputable def tIs:T->List Nat
 | .one i=>[i]
 | .nst i is=>i::is
 | .tup is=>is
noncomputable def Z9:Expr->Bool
 | .Tuple _ _ _=>true
 | _=>false
noncomputable def zf4:T->Bool
 | .tup _=>true
 | .nst _ _=>true
 | _=>false
noncomputable def stoK (c:Cc) (x:Str):Bool:=match c.names.lookup x with
 | some .local=>true
 | some .cell=>c.fn
 | _=>false
noncomputable def qT:T->Bool
 | .nst _ _=>true
 | _=>false
noncomputable def zaM:Expr->Option (Str×Pos×List Expr×Nat×Pos×Nat×Pos)
  | .Tuple es k p=>(match es with
    | a::r=>(match a with
      | .Name x q=>(match r with
        | b::z=>(match z with
          | []=>(match b with
            | .Tuple fs k2 p2=>some (x,q,fs,k2,p2,k,p)
            | _=>none)
          | _=>none)
        | _=>none)
      | _=>none)
    | _=>none)
  | _=>none
noncomputable def chkT (c:Cc) (t:T) (x:Expr):Bool:=if qT t=true then (match zaM x with
  | some q=>(match namesOf q.2.2.1 with
    | some ns=>(q.1::ns).length==(tIs t).length&&((tIs t).zip (q.1::ns)).all fun p=>c.N[p.1]?==some p.2&&stoK c p.2
    | none=>false)
  | none=>false) else Z9 x==zf4 t&&(match xm x with
  | some ns=>ns.length==(tIs t).length&&((tIs t).zip ns).all fun p=>c.N[p.1]?==some p.2&&stoK c p.2
  | none=>false)
noncomputable def chkS (c:Cc) (sc:b7) (js:List Nat):Bool:=
 (sc.kind==.function)&&sc.names.all (fun y=>y.2 != .cell)&&sc.names.all (fun y=>y.2 != .local||sc.names.lookup y.1==some .local)&&sc.names.all (fun y=>y.2 != .free||sc.names.lookup y.1==some .free) &&
 sc.names.all (fun y=>y.2 != .free||c.names.lookup y.1==some .cell||c.names.lookup y.1==some .free) &&
 js.all fun j=>match c.N[j]? with
  | some y=>(c.names.lookup y==some .cell||c.names.lookup y==some .free)&&sc.names.lookup y==some .free
  | none=>false
noncomputable def inner (c:Cc) (sc:b7) (xs:List Str) (js:List Nat):Cc:=⟨relK c.names sc.names,xs++js.map (fun j=>c.N.getD j ""),false⟩
noncomputable def zbB:Expr->Bool
 | .Tuple _ _ _=>true
 | _=>false
noncomputable def keyC:Key->Const->Bool
 | .inl i,.int j=>i==j
 | .inr s,.str t=>s==t
 | _,_=>false
noncomputable def KC:List Key->List (Option Expr)->Bool
 | [],[]=>true
 | k::ks,some (.Constant q _ _)::r=>keyC k q&&KC ks r
 | _,_=>false
noncomputable def sole {α:Type}:List α->Option α
  | a::r=>(match r with
    | []=>some a
    | _=>none)
  | _=>none
theorem xn {α:Type}{l:List α}{a:α}(h:sole l=some a):l=[a]:=by
 cases l with
 | nil=>cases h
 | cons b r=>
  cases r with
  | nil=>cases h;rfl
  | cons _ _=>cases h
noncomputable def asName:Expr->Option (Str×Pos)
 | .Name n p=>some (n,p)
 | _=>none
theorem zH {x:Expr}{q:Str×Pos}(h:asName x=some q):x=.Name q.1 q.2:=by cases x <;> first | (cases h;rfl) | cases h
noncomputable def K6:Expr->Option (Expr×Expr×Pos)
 | .Subscript a b p=>some (a,b,p)
 | _=>none
theorem zaI {x:Expr}{q:Expr×Expr×Pos}(h:K6 x=some q):x=.Subscript q.1 q.2.1 q.2.2:=by cases x <;> first | (cases h;rfl) | cases h
noncomputable def wC:Expr->Option (Expr×Str×Pos)
 | .Attribute a m p=>some (a,m,p)
 | _=>none
theorem vO {x:Expr}{q:Expr×Str×Pos}(h:wC x=some q):x=.Attribute q.1 q.2.1 q.2.2:=by cases x <;> first | (cases h;rfl) | cases h
noncomputable def yc {α:Type}:List α->Bool
 | []=>true
 | _=>false
theorem yd {α:Type}{l:List α}(h:yc l=true):l=[]:=by
 cases l with
 | nil=>rfl
 | cons _ _=>cases h
noncomputable def mtS:MT->Str
 | .get1=>"get" | .get2=>"get" | .sidx=>"index" | .index=>"index" | .join=>"join" | .split=>"split"
noncomputable def ze0:Expr->Bool
 | .Call _ _ _ _=>false
 | _=>true
noncomputable def xK:Expr->Bool
 | .Call _ (_::_) _ _=>true
 | x=>ze0 x
noncomputable def U3:Expr->Bool
 | .Call _ _ _ _=>true
 | .List _ _=>true
 | .Dict _ _ _=>true
 | .BinOp _ _ _ _=>true
 | _=>false
mutual
noncomputable def chkE (B:Tb) (c:Cc):E->Expr->Bool
  | .var i,.Name x _=>c.N[i]?==some x&&visK (c.names.lookup x)&&zL x
  | .con d,.Constant k _ _=>match d,k with
    | .non,.none=>true
    | .bl a,.bool b=>a==b
    | .int a,.int b=>a==b
    | .str a,.str b=>a==b
    | _,_=>false
  | .glo n d,.Name x _=>(match B.consts[n]? with
    | some p=>p.1==x&&Vf p.2 d
    | none=>false)&&gloK (c.names.lookup x)&&zL x
  | .bin op a b,.BinOp x op' y _=>op==op'&&chkE B c a x&&chkE B c b y
  | .neg a,.UnaryOp op x _=>op==.USub&&chkE B c a x
  | .cmp op a b,.Compare x [op'] [y] _=>op==op'&&chkE B c a x&&chkE B c b y&&wH y
  | .chn o1 o2 a b d,.Compare x [p1,p2] [y,z] _=>o1==p1&&o2==p2&&chkE B c a x&&chkE B c b y&&chkE B c d z&&wH z
  | .not a,.UnaryOp op x _=>op==.Not&&chkE B c a x
  | .and a b,.BoolOp op (x::y::r) p=>op==.And&&chkE B c a x&&chkE B c b (.BoolOp .And (y::r) p)
  | .or a b,.BoolOp op (x::y::r) p=>op==.Or&&chkE B c a x&&chkE B c b (.BoolOp .Or (y::r) p)
  | .one a,.BoolOp op [x] _=>chkE B c a x
  | .ite t a b,.IfExp x y z _=>chkE B c t x&&chkE B c a y&&chkE B c b z
  | .tup es,.Tuple xs _ _=>zN B c es xs
  | .lst es,.List xs _=>zN B c es xs
  | .sub a i,.Subscript x y _=>chkE B c a x&&chkE B c i y
  | .slc a lo hi,.Subscript x (.Slice l h none _) _=>chkE B c a x&&chkO B c lo l&&chkO B c hi h
  | .bi b es,.Call (.Name x _) args [] _=>(match b with
    | .isinst t=>x==("isinstance":Str)&&B.bare.contains x&&B.bare.contains (tyN t)&&gloK (c.names.lookup x)&&(match es,args with
      | [e],[y,.Name z _]=>chkE B c e y&&notStar y&&z==tyN t&&gloK (c.names.lookup z)
      | _,_=>false)
    | .sset=>false
    | .lset=>false
    | .trev=>false
    | b=>x==biS b&&B.bare.contains x&&gloK (c.names.lookup x)&&zN B c es args&&!es.isEmpty)
  | .call f es,.Call (.Name x _) args [] _=>B.fns[f]?==some x&&gloK (c.names.lookup x)&&zL x&&zN B c es args&&!es.isEmpty
  | .callk f perm es,.Call (.Name x _) [] kws _=>B.fns[f]?==some x&&gloK (c.names.lookup x)&&zL x&&Yp B c es kws&&(match yP kws,B.pars[f]? with
    | some ks,some ps=>perm.length==ps.length&&perm.all (· < ks.length)&&perm.map (fun i=>ks.getD i "")==ps&&ks.length==ps.length&&B.kws.contains (f,ks,perm)
    | _,_=>false)
  | .callv i es,.Call (.Name x _) args [] _=>c.N[i]?==some x&&visK (c.names.lookup x)&&zL x&&zN B c es args&&!es.isEmpty
  | .mth m o es,.Call f args kws cp=>(match wC f with
    | some q=>q.2.1==mtS m&&chkE B c o q.1&&zN B c es args&&yc kws&&q.2.2.endLine==cp.line&&xK q.1&&decide (1<=es.length)&&decide (es.length<=9)
    | none=>false)
  | .att cs o f,.Attribute x g _=>f==g&&chkE B c o x&&xK x&&cs.all (vI B f)
  | .met ms o m es,.Call f args kws cp=>(match wC f with
    | some q=>q.2.1==m&&chkE B c o q.1&&zN B c es args&&yc kws&&q.2.2.endLine==cp.line&&xK q.1&&ms.all (Vo B m)&&decide (es.length<=9)
    | none=>false)
  | .mk n f es,.Call (.Name x _) args [] _=>n==x&&gloK (c.names.lookup x)&&zL x&&zN B c es args&&!es.isEmpty&&B.obs.any (fun o=>o.name==n&&o.meths.contains ("__init__",f))
  | .box e,x=>U3 x&&chkE B c e x
  | .comp t js it ifs elt,.ListComp y [⟨tgt,iter,cs,k⟩] sc _=>k==0&&chkS c sc js&&chkI B c it tgt iter&&wH iter&&(match xm tgt with
    | some xs=>decide ((xs++js.map (fun j=>c.N.getD j "")).Nodup)&&nT t==xs.length&&tIs t==ϛ xs.length&&chkT (inner c sc xs js) t tgt&&chkE B (inner c sc xs js) elt y&&Yq B (inner c sc xs js) ifs cs&&decide (ifs.length<=1)
    | none=>false)
  | _,_=>false
noncomputable def chkI (B:Tb) (c:Cc):E->Expr->Expr->Bool
 | .seq e,_,x=>chkE B c e x
 | .keys e,_,x=>chkE B c e x
 | .rng none hi,_,.Call (.Name f _) [y] [] _=>f==("range":Str)&&B.bare.contains f&&gloK (c.names.lookup f)&&chkE B c hi y&&notStar y
 | .zip a b,tg,.Call (.Name f _) [x,y] [] _=>zbB tg&&f==("zip":Str)&&B.bare.contains f&&gloK (c.names.lookup f)&&chkE B c a x&&notStar x&&chkE B c b y&&notStar y
 | _,_,_=>false
noncomputable def zN (B:Tb) (c:Cc):List E->List Expr->Bool
 | [],[]=>true
 | e::es,x::xs=>chkE B c e x&&notStar x&&zN B c es xs
 | _,_=>false
noncomputable def Yq (B:Tb) (c:Cc):List E->List Expr->Bool
 | [],[]=>true
 | e::es,x::xs=>chkE B c e x&&Yq B c es xs
 | _,_=>false
noncomputable def chkO (B:Tb) (c:Cc):Option E->Option Expr->Bool
 | none,none=>true
 | some e,some x=>chkE B c e x
 | _,_=>false
noncomputable def Yp (B:Tb) (c:Cc):List E->List aq->Bool
 | [],[]=>true
 | e::es,⟨some _,x,_⟩::xs=>chkE B c e x&&Yp B c es xs
 | _,_=>false
end
theorem yF {x:ϑ}{Q:ϑ->Prop}(h:Α x.ctorIdx 0=true) (f:∀ a0 a1 a2,Q (.BoolOp a0 a1 a2)):Q x:=by
 revert h;cases x with
 | BoolOp a0 a1 a2=>exact fun _=>f a0 a1 a2
 | _=>exact nobE
theorem zcO {x:ϑ}{Q:ϑ->Prop}(h:Α x.ctorIdx 2=true) (f:∀ a0 a1 a2 a3,Q (.BinOp a0 a1 a2 a3)):Q x:=by
 revert h;cases x with
 | BinOp a0 a1 a2 a3=>exact fun _=>f a0 a1 a2 a3
 | _=>exact nobE
theorem vD {x:ϑ}{Q:ϑ->Prop}(h:Α x.ctorIdx 3=true) (f:∀ a0 a1 a2,Q (.UnaryOp a0 a1 a2)):Q x:=by
 revert h;cases x with
 | UnaryOp a0 a1 a2=>exact fun _=>f a0 a1 a2
 | _=>exact nobE
theorem zcN {x:ϑ}{Q:ϑ->Prop}(h:Α x.ctorIdx 5=true) (f:∀ a0 a1 a2 a3,Q (.IfExp a0 a1 a2 a3)):Q x:=by
 revert h;cases x with
 | IfExp a0 a1 a2 a3=>exact fun _=>f a0 a1 a2 a3
 | _=>exact nobE
theorem kh {x:ϑ}{Q:ϑ->Prop}(h:Α x.ctorIdx 8=true) (f:∀ a0 a1 a2 a3,Q (.ListComp a0 a1 a2 a3)):Q x:=by
 revert h;cases x with
 | ListComp a0 a1 a2 a3=>exact fun _=>f a0 a1 a2 a3
 | _=>exact nobE
theorem ZW {x:ϑ}{Q:ϑ->Prop}(h:Α x.ctorIdx 15=true) (f:∀ a0 a1 a2 a3,Q (.Compare a0 a1 a2 a3)):Q x:=by
 revert h;cases x with
 | Compare a0 a1 a2 a3=>exact fun _=>f a0 a1 a2 a3
 | _=>exact nobE
theorem vG {x:ϑ}{Q:ϑ->Prop}(h:Α x.ctorIdx 16=true) (f:∀ a0 a1 a2 a3,Q (.Call a0 a1 a2 a3)):Q x:=by
 revert h;cases x with
 | Call a0 a1 a2 a3=>exact fun _=>f a0 a1 a2 a3
 | _=>exact nobE
theorem vU {x:ϑ}{Q:ϑ->Prop}(h:Α x.ctorIdx 19=true) (f:∀ a0 a1 a2,Q (.Constant a0 a1 a2)):Q x:=by
 revert h;cases x with
 | Constant a0 a1 a2=>exact fun _=>f a0 a1 a2
 | _=>exact nobE
theorem Y9 {x:ϑ}{Q:ϑ->Prop}(h:Α x.ctorIdx 20=true) (f:∀ a0 a1 a2,Q (.Attribute a0 a1 a2)):Q x:=by
 revert h;cases x with
 | Attribute a0 a1 a2=>exact fun _=>f a0 a1 a2
 | _=>exact nobE
theorem jh {x:ϑ}{Q:ϑ->Prop}(h:Α x.ctorIdx 21=true) (f:∀ a0 a1 a2,Q (.Subscript a0 a1 a2)):Q x:=by
 revert h;cases x with
 | Subscript a0 a1 a2=>exact fun _=>f a0 a1 a2
 | _=>exact nobE
theorem wG {x:ϑ}{Q:ϑ->Prop}(h:Α x.ctorIdx 23=true) (f:∀ a0 a1,Q (.Name a0 a1)):Q x:=by
 revert h;cases x with
 | Name a0 a1=>exact fun _=>f a0 a1
 | _=>exact nobE
theorem ofList {x:ϑ}{Q:ϑ->Prop}(h:Α x.ctorIdx 24=true) (f:∀ a0 a1,Q (.List a0 a1)):Q x:=by
 revert h;cases x with
 | List a0 a1=>exact fun _=>f a0 a1
 | _=>exact nobE
theorem zcK {x:ϑ}{Q:ϑ->Prop}(h:Α x.ctorIdx 25=true) (f:∀ a0 a1 a2,Q (.Tuple a0 a1 a2)):Q x:=by
 revert h;cases x with
 | Tuple a0 a1 a2=>exact fun _=>f a0 a1 a2
 | _=>exact nobE
theorem zcL {x:ϑ}{Q:ϑ->Prop}(h:Α x.ctorIdx 26=true) (f:∀ a0 a1 a2 a3,Q (.Slice a0 a1 a2 a3)):Q x:=by
 revert h;cases x with
 | Slice a0 a1 a2 a3=>exact fun _=>f a0 a1 a2 a3
 | _=>exact nobE
theorem ZV {x:ϲ}{Q:ϲ->Prop}(h:Α x.ctorIdx 5=true) (f:∀ a0 a1 a2,Q (.Assign a0 a1 a2)):Q x:=by
 revert h;cases x with
 | Assign a0 a1 a2=>exact fun _=>f a0 a1 a2
 | _=>exact nobE
theorem Jl {x:ϲ}{Q:ϲ->Prop}(h:Α x.ctorIdx 24=true) (f:∀ a0 a1,Q (.Expr a0 a1)):Q x:=by
 revert h;cases x with
 | Expr a0 a1=>exact fun _=>f a0 a1
 | _=>exact nobE
theorem ZS {x:ϲ}{Q:ϲ->Prop}(h:Α x.ctorIdx 3=true) (f:∀ a0 a1,Q (.Return a0 a1)):Q x:=by
 revert h;cases x with
 | Return a0 a1=>exact fun _=>f a0 a1
 | _=>exact nobE
theorem zhU {x:ϲ}{Q:ϲ->Prop}(h:Α x.ctorIdx 12=true) (f:∀ a0 a1 a2 a3,Q (.If a0 a1 a2 a3)):Q x:=by
 revert h;cases x with
 | If a0 a1 a2 a3=>exact fun _=>f a0 a1 a2 a3
 | _=>exact nobE
theorem Q3 {x:ϲ}{Q:ϲ->Prop}(h:Α x.ctorIdx 11=true) (f:∀ a0 a1 a2 a3,Q (.While a0 a1 a2 a3)):Q x:=by
 revert h;cases x with
 | While a0 a1 a2 a3=>exact fun _=>f a0 a1 a2 a3
 | _=>exact nobE
theorem zfs {x:ϲ}{Q:ϲ->Prop}(h:Α x.ctorIdx 9=true) (f:∀ a0 a1 a2 a3 a4,Q (.For a0 a1 a2 a3 a4)):Q x:=by
 revert h;cases x with
 | For a0 a1 a2 a3 a4=>exact fun _=>f a0 a1 a2 a3 a4
 | _=>exact nobE
theorem zcM {x:ϲ}{Q:ϲ->Prop}(h:Α x.ctorIdx 25=true) (f:∀ a0,Q (.Pass a0)):Q x:=by
 revert h;cases x with
 | Pass a0=>exact fun _=>f a0
 | _=>exact nobE
theorem Q4 {x:ϲ}{Q:ϲ->Prop}(h:Α x.ctorIdx 26=true) (f:∀ a0,Q (.Break a0)):Q x:=by
 revert h;cases x with
 | Break a0=>exact fun _=>f a0
 | _=>exact nobE
theorem Y8 {x:ϲ}{Q:ϲ->Prop}(h:Α x.ctorIdx 27=true) (f:∀ a0,Q (.Continue a0)):Q x:=by
 revert h;cases x with
 | Continue a0=>exact fun _=>f a0
 | _=>exact nobE
structure EnvO (Γ:Gm) (Hz H:Hp) (g:G) (ρ:List Slot) (σ:L2.St):Prop where
 len:ρ.length=σ.length
 sh:∀ (i:Nat) (d:D),ρ[i]?=some (.sh d)->∃ v,σ[i]?=some (some v)/\Has Γ g d v
 ow:∀ (i:Nat) (d:D),ρ[i]?=some (.ow d)->∃ a,σ[i]?=some (some (.ref a))/\Hz a=none/\g.R a=none/\a ∉ g.α/\zY Γ H g a d/\wA d=false
 inj:∀ (i j:Nat) (d e:D) (a:Addr),ρ[i]?=some (.ow d)->ρ[j]?=some (.ow e)->σ[i]?=some (some (.ref a))->σ[j]?=some (some (.ref a))->i=j
section
variable {Γ:Gm}{H H':Hp}{g g':G}{S:Store}{a:Addr}
theorem WOk.xU {o:HO}(w:WOk Γ H g S) (hr:g.R a=none) (ha:a ∉ g.α):WOk Γ (upd H a o) g S where
 rh:=fun b u q=>by
  have e:=w.rh b u q;have:b≠a:=by rintro rfl;rw [hr] at q;cases q
  rw [zm this];exact e
 len:=w.len
 nd:=w.nd
 off:=w.off
 cell:=fun k c b h1 h2=>(w.cell k c b h1 h2).mono (Le.refl g) fun o e=>by
  have:b≠a:=by rintro rfl;exact ha (ϡ h2)
  rw [zm this];exact e
theorem Step.xU {o:HO}(s:Step H g H' g') (h:H a=none):Step H g (upd H' a o) g' where
 le:=s.le
 fr:=fun b u e n=>by rw [zm (zA e h)];exact s.fr b u e n
 ex:=fun b u e=>by rw [zm (zA e h)];exact s.ex b u e
 na:=s.na
 nr:=s.nr
theorem Step.kept {o:HO}(s:Step H g H' g') (h:H a=some o) (hr:g.R a=none) (ha:a ∉ g.α) (hm:MutF o:=by trivial):H' a=some o/\g'.R a=none/\a ∉ g'.α:=by
 refine ⟨s.fr a o h ha,?_,fun m=>?_⟩
 ·cases q:g'.R a with
  | none=>rfl
  | some u=>
   rcases s.nr a (by rw [q];simp) with z | z | z | ⟨xs,z⟩
   ·exact absurd hr z
   ·rw [h] at z;cases z
   ·exact absurd z ha
   ·rw [h] at z;cases z;exact hm.elim
 ·rcases s.na a m with z | z
  ·exact ha z
  ·rw [h] at z;cases z
end
section
variable {Γ:Gm}{Hz H H':Hp}{g g':G}{S:Store}{ρ:List Slot}{σ:L2.St}
theorem zj (env:EnvO Γ Hz H g ρ σ) (st:Step H g H' g'):EnvO Γ Hz H' g' ρ σ:=by
 refine ⟨env.len,fun i d h=>?_,fun i d h=>?_,env.inj⟩
 ·obtain ⟨v,h1,h2⟩:=env.sh i d h;exact ⟨v,h1,h2.mono st.le⟩
 ·obtain ⟨a,h1,h2,h3,h4,h5,h6⟩:=env.ow i d h;obtain ⟨o,ho,hm⟩:=h5.qU;obtain ⟨k1,k2,k3⟩:=st.kept ho h3 h4 hm;exact ⟨a,h1,h2,k2,k3,h5.mono st.le fun o' z=>by rw [ho] at z;cases z;exact k1,h6⟩
def VN (Γ:Gm) (Hb:Hp) (x:Vl) (v:V) (H:Hp) (g:G):Prop:=match x.2 with
 | .st=>Has Γ g x.1 v
 | .fr=>∃ a,v=.ref a/\Hb a=none/\g.R a=none/\a ∉ g.α/\zY Γ H g a x.1
 | .bo=>∃ a,v=.ref a/\g.R a=none/\a ∉ g.α/\zY Γ H g a x.1
theorem VN.of {Hb:Hp}{d:D}{fr:Bool}{v:V}(h:VOk Γ Hb d fr v H g):VN Γ Hb (ofB (d,fr)) v H g:=by cases fr <;> exact h
theorem VN.back {H1:Hp}{g1:G}{x:Vl}{v:V}(h:VN Γ H1 x v H' g') (s:Step H g H1 g1):VN Γ H x v H' g':=by
 obtain ⟨d,k⟩:=x;cases k with
 | fr=>
  obtain ⟨a,e,h0,r⟩:=h;exact ⟨a,e,s.Wq h0,r⟩
 | _=>exact h
theorem VN.step {Hb:Hp}{x:Vl}{v:V}(h:VN Γ Hb x v H g) (s:Step H g H' g'):VN Γ Hb x v H' g':=by
 obtain ⟨d,k⟩:=x;cases k with
 | st=>exact (show Has Γ g d v from h).mono s.le
 | fr=>
  obtain ⟨a,e,h0,h1,h2,h3⟩:=h;obtain ⟨o,ho,hm⟩:=h3.qU;obtain ⟨k1,k2,k3⟩:=s.kept ho h1 h2 hm;exact ⟨a,e,h0,k2,k3,h3.mono s.le fun o' q=>by rw [ho] at q;cases q;exact k1⟩
 | bo=>
  obtain ⟨a,e,h1,h2,h3⟩:=h;obtain ⟨o,ho,hm⟩:=h3.qU;obtain ⟨k1,k2,k3⟩:=s.kept ho h1 h2 hm;exact ⟨a,e,k2,k3,h3.mono s.le fun o' q=>by rw [ho] at q;cases q;exact k1⟩
theorem WX {a:Addr}{d:D}(hr:g.R a=none) (h:zY Γ H g a d):Rdb Γ H g (zF S d) (.ref a):=by
 cases d with
 | lst ds=>obtain ⟨vs,h1,h2⟩:=h;exact ⟨a,vs,rfl,h1,h2⟩
 | dK ks ds=>obtain ⟨vs,h1,h3,h2⟩:=h;exact ⟨a,vs,rfl,h1,h3,h2⟩
 | dT ks ds=>obtain ⟨vs,h1,h3,h2⟩:=h;exact ⟨a,vs,rfl,h1,h3,h2⟩
 | ref=>obtain ⟨o,h1,_⟩:=h;rw [hr] at h1;cases h1
 | ins=>exact ⟨a,rfl⟩
 | _=>exact h.elim
theorem VN.rdb {Hb:Hp}{x:Vl}{v:V}(h:VN Γ Hb x v H g) (w:WOk Γ H g S):Rdb Γ H g (zF S x.1) v:=by
 obtain ⟨d,k⟩:=x;cases k with
 | st=>exact za9 w h
 | fr=>obtain ⟨a,rfl,_,h1,_,h3⟩:=h;exact WX h1 h3
 | bo=>obtain ⟨a,rfl,h1,_,h3⟩:=h;exact WX h1 h3
theorem VN.sc {Hb:Hp}{d:D}{k:Kd}{v:V}(h:VN Γ Hb (d,k) v H g) (hc:∀ a,¬ zY Γ H g a d):Has Γ g d v:=by
 cases k with
 | st=>exact h
 | fr=>obtain ⟨a,_,_,_,_,h3⟩:=h;exact (hc a h3).elim
 | bo=>obtain ⟨a,_,_,_,h3⟩:=h;exact (hc a h3).elim
theorem VN.keep {x:Vl}{v:V}{Q:D->Prop}(h:VN Γ H x v H' g') (st:Step H g H' g') (w:WOk Γ H' g' S) (k:EV.keep x Q):∃ g2,Step H g H' g2/\WOk Γ H' g2 S/\Has Γ g2 x.1 v/\Q x.1:=by
 obtain ⟨d,kk⟩:=x;cases kk with
 | st=>exact ⟨g',st,w,h,k⟩
 | fr=>
  obtain ⟨g2,a,b,c,_⟩:=freeze (fr:=true) st w h rfl;exact ⟨g2,a,b,c,k⟩
 | bo=>exact k.elim
end
def TX (Γ:Gm) (cf:Cf) (e:E):TE:=fun σ H Q=>∃ ρ S V g Hz,wpE cf ρ e V S/\WOk Γ H g S/\EnvO Γ Hz H g ρ σ/\∀ x v H' g' S',Step H g H' g'->WOk Γ H' g' S'->VN Γ H x v H' g'->V x S'->Q v H'
def TB (Γ:Gm) (cf:Cf) (e:E):TT:=fun σ H Q=>∃ ρ S V g Hz,wpE cf ρ e V S/\WOk Γ H g S/\EnvO Γ Hz H g ρ σ/\∀ x H' g' S',Step H g H' g'->WOk Γ H' g' S'->V x S'->isB x.1 fun b=>Q b H'
def TXs (Γ:Gm) (cf:Cf) (es:List E):TA:=fun σ H Q=>∃ ρ S W g Hz,wpEs cf ρ es W S/\WOk Γ H g S/\EnvO Γ Hz H g ρ σ/\∀ ds vs H' g' S',Step H g H' g'->WOk Γ H' g' S'->Hass Γ g' ds vs->W ds S'->Q vs H'
def TXo (Γ:Gm) (cf:Cf) (o:Option E):TO:=fun σ H Q=>∃ ρ S W g Hz,wpO cf ρ o W S/\WOk Γ H g S/\EnvO Γ Hz H g ρ σ/\∀ i H' g' S',Step H g H' g'->WOk Γ H' g' S'->W i S'->Q i H'
section
variable {Γ:Gm}{cf:Cf}{σ:L2.St}{H:Hp}{P:Prop}
theorem goX {e:E}{Q:VK}(h:TX Γ cf e σ H Q) (f:∀ ρ S V g Hz,wpE cf ρ e V S->WOk Γ H g S->EnvO Γ Hz H g ρ σ->(∀ x v H' g' S',Step H g H' g'->WOk Γ H' g' S'->VN Γ H x v H' g'->V x S'->Q v H')->P):P:=
 let ⟨ρ,S,V,g,Hz,a,b,c,d⟩:=h;f ρ S V g Hz a b c d
theorem goB {e:E}{Q} (h:TB Γ cf e σ H Q) (f:∀ ρ S V g Hz,wpE cf ρ e V S->WOk Γ H g S->EnvO Γ Hz H g ρ σ->(∀ x H' g' S',Step H g H' g'->WOk Γ H' g' S'->V x S'->isB x.1 fun b=>Q b H')->P):P:=
 let ⟨ρ,S,V,g,Hz,a,b,c,d⟩:=h;f ρ S V g Hz a b c d
theorem goS {es:List E}{Q} (h:TXs Γ cf es σ H Q) (f:∀ ρ S W g Hz,wpEs cf ρ es W S->WOk Γ H g S->EnvO Γ Hz H g ρ σ->(∀ ds vs H' g' S',Step H g H' g'->WOk Γ H' g' S'->Hass Γ g' ds vs->W ds S'->Q vs H')->P):P:=
 let ⟨ρ,S,V,g,Hz,a,b,c,d⟩:=h;f ρ S V g Hz a b c d
theorem goO {o:Option E}{Q} (h:TXo Γ cf o σ H Q) (f:∀ ρ S W g Hz,wpO cf ρ o W S->WOk Γ H g S->EnvO Γ Hz H g ρ σ->(∀ i H' g' S',Step H g H' g'->WOk Γ H' g' S'->W i S'->Q i H')->P):P:=
 let ⟨ρ,S,V,g,Hz,a,b,c,d⟩:=h;f ρ S V g Hz a b c d
end
def rAny (X:Cx) (f:δ->δ->Sem δ):R2:=fun x y H Q=>∃ r,OpR X f r/\r x y H Q
theorem Y7 {X:Cx}{f:δ->δ->Sem δ}:OpR X f (rAny X f):=fun pj s σ H x y v u Q I rx ry ⟨_,h,q⟩=>h pj s σ H x y v u Q I rx ry q
def zfU (X:Cx):R2:=fun x y H Q=>∃ r,IxR X r/\r x y H Q
theorem zfT {X:Cx}:IxR X (zfU X):=fun a b pj s σ H x y v u Q I rx ry ⟨_,h,q⟩=>h a b pj s σ H x y v u Q I rx ry q
def zg3 (X:Cx):V->Option Int->Option Int->Hp->VK->Prop:=fun x l u H Q=>∃ r,SlR X r/\r x l u H Q
theorem zep {X:Cx}:SlR X (zg3 X):=fun pj s σ H x v vl vu lo hi sl Q I rx hs pl pu ⟨_,h,q⟩=>h pj s σ H x v vl vu lo hi sl Q I rx hs pl pu q
def zgE (X:Cx) (f:δ):List V->Hp->VK->Prop:=fun xs H Q=>∃ r,yp X f r/\r xs H Q
theorem Ks {X:Cx}{f:δ}:yp X f (zgE X f):=fun pj s σ H xs us Q I rv ⟨_,h,q⟩=>h pj s σ H xs us Q I rv q
section
variable {X:Cx}{Γ:Gm}{cf:Cf}{x y z:Expr}{pos p:Pos}{a b c:E}
theorem zet {i:Nat}{n:Str}(hN:X.N[i]?=some n) (hv:Vis X.env.scope n) (hd:(n==("__debug__":Str))=false) (hcd:(n==("__classdict__":Str))=false):PE X (.Name n pos) (TX Γ cf (.var i)):=by
 refine (j9 hN hv hd hcd).imp fun σ H Q h0=>goX h0 fun ρ S V g Hz hw w env k=>?_
 have hw:sel ρ[i]? (fun d=>V (d,.st) S) (fun d=>V (d,.bo) S):=hw;cases e:ρ[i]? with
 | none=>rw [e] at hw;exact hw.elim
 | some s=>
  rw [e] at hw;cases s with
  | no=>exact hw.elim
  | sh d=>
   obtain ⟨v,h1,h2⟩:=env.sh i d e;exact ⟨v,h1,k (d,.st) v H g S (Step.refl H g) w h2 hw⟩
  | ow d=>
   obtain ⟨a,h1,h2,h3,h4,h5,_⟩:=env.ow i d e;exact ⟨_,h1,k (d,.bo) _ H g S (Step.refl H g) w ⟨a,rfl,h3,h4,h5⟩ hw⟩
theorem zeJ {t:V}{d:D}{e:E}(h:PE X x (tC t)) (hd:∀ g,Has Γ g d t) (he:∀ ρ V S,wpE cf ρ e V S->V (d,.st) S):PE X x (TX Γ cf e):=h.imp fun σ H Q h0=>goX h0 fun ρ S V g Hz hw w env k=>k (d,.st) _ H g S (Step.refl H g) w (hd g) (he _ _ _ hw)
theorem two {G1:V->V->Hp->Prop}{σ:L2.St}{H:Hp}{ρ:List Slot}{S:Store}{g:G}{Hz:Hp}{W:Vl->Vl->Store->Prop}(hw:wpE cf ρ a (fun x S1=>wpE cf ρ b (fun y S2=>W x y S2) S1) S) (w:WOk Γ H g S) (env:EnvO Γ Hz H g ρ σ)
  (k:∀ x y u v H' g' S',Step H g H' g'->WOk Γ H' g' S'->VN Γ H x u H' g'->VN Γ H y v H' g'->W x y S'->G1 u v H'):TX Γ cf a σ H fun u H1=>TX Γ cf b σ H1 fun v H2=>G1 u v H2:=
 ⟨ρ,S,_,g,Hz,hw,w,env,fun x u H1 g1 S1 st1 w1 v1 h1=>⟨ρ,S1,_,g1,Hz,h1,w1,zj env st1,fun y v H2 g2 S2 st2 w2 v2 h2=>k x y u v H2 g2 S2 (st1.trans st2) w2 (v1.step st2) (v2.back st1) h2⟩⟩
theorem zhD {op:aN}(hK:X.K=Γ.K) (ha:PE X x (TX Γ cf a)) (hb:PE X y (TX Γ cf b)):PE X (.BinOp x op y pos) (TX Γ cf (.bin op a b)):=
 (zhN Y7 ha hb).imp fun σ H Q h0=>goX h0 fun ρ S V g Hz hw w env k=>two hw w env fun x y u v H' g' S' st w' vx vy h=>by
  have h:opt (opD op (zF S' x.1) (zF S' y.1)) (fun p=>V (ofB p) S'):=h;cases eo:opD op (zF S' x.1) (zF S' y.1) with
  | none=>rw [eo] at h;exact h.elim
  | some p=>
   rw [eo] at h;obtain ⟨r,h1,h2⟩:=zfg (X:=X) hK eo;exact ⟨r,h1,h2 S' H' g' u v Q w' (vx.rdb w') (vy.rdb w') fun t H2 g2 st2 _ w2 vo=>k _ t H2 g2 S' (st.trans st2) w2 ((VN.of vo).back st) h⟩
theorem cmp2 {op:dW}{u v:V}{dx dy:Vl}{Hb H':Hp}{g':G}{S':Store}{Q:VK}{T:Bool->Prop}(hK:X.K=Γ.K) (hu:X.A.units+61 < ϰ) (w':WOk Γ H' g' S') (vx:VN Γ Hb dx u H' g') (vy:VN Γ Hb dy v H' g') (h:opt (cmpD op (zF S' dx.1) (zF S' dy.1)) T)
  (k:∀ r H2 g2,Step H' g' H2 g2->WOk Γ H2 g2 S'->T r->Q (.bl r) H2):rAny X (Ω op) u v H' Q:=by
 cases eo:cmpD op (zF S' dx.1) (zF S' dy.1) with
 | none=>rw [eo] at h;exact h.elim
 | some r=>
  rw [eo] at h;obtain ⟨r2,h1,h2⟩:=zdq (X:=X) hK hu eo;refine ⟨r2,h1,h2 S' H' g' u v Q w' (vx.rdb w') (vy.rdb w') fun t H2 g2 st2 _ w2 vo=>?_⟩;cases (show t=.bl r from vo);exact k r H2 g2 st2 w2 h
theorem zhA {op:dW}(hK:X.K=Γ.K) (hu:X.A.units+61 < ϰ) (ha:PE X x (TX Γ cf a)) (hb:PE X y (TX Γ cf b)) (hm:gB op y=false):PE X (.Compare x [op] [y] pos) (TX Γ cf (.cmp op a b))/\PT X (.Compare x [op] [y] pos) (TB Γ cf (.cmp op a b)):=
 ⟨(zcB Y7 ha hb hm).imp fun σ H Q h0=>goX h0 fun ρ S V g Hz hw w env k=>two hw w env fun x y u v H' g' S' st w' vx vy h=>cmp2 hK hu w' vx vy h fun r H2 g2 st2 w2 h=>k (.bl r,.st) _ H2 g2 S' (st.trans st2) w2 rfl h,
 (zcs Y7 ha hb hm).imp fun σ H Q h0=>goB h0 fun ρ S V g Hz hw w env k=>two hw w env fun x y u v H' g' S' st w' vx vy h=>cmp2 hK hu w' vx vy h fun r H2 g2 st2 w2 h=>⟨r,rfl,k (.bl r,.st) H2 g2 S' (st.trans st2) w2 h⟩⟩
theorem chn3 {o1 o2:dW}{σ:L2.St}{H:Hp}{Q:VK}{ρ:List Slot}{S:Store}{g:G}{Hz:Hp}{V:Po}(hK:X.K=Γ.K) (hu:X.A.units+61 < ϰ) (hw:wpE cf ρ (.chn o1 o2 a b c) V S) (w:WOk Γ H g S) (env:EnvO Γ Hz H g ρ σ)
  (k:∀ r H' g' S',Step H g H' g'->WOk Γ H' g' S'->V (.bl r,.st) S'->Q (.bl r) H'):Ud (rAny X (Ω o1)) (rAny X (Ω o2)) (TX Γ cf a) (TX Γ cf b) (TX Γ cf c) σ H Q:=
 two hw w env fun x y u v H' g' S' st w' vx vy h=>cmp2 hK hu w' vx vy h fun r H2 g2 st2 w2 h=>⟨r,rfl,by
  cases r with
  | false=>exact iteF (k false H2 g2 S' (st.trans st2) w2 h)
  | true=>exact iteT ⟨ρ,S',_,g2,Hz,h,w2,zj env (st.trans st2),fun z t H3 g3 S3 st3 w3 vz h3=>cmp2 hK hu w3 (vy.step (st2.trans st3)) (vz.back (st.trans st2)) h3 fun r H4 g4 st4 w4 h4=>k r H4 g4 S3 (((st.trans st2).trans st3).trans st4) w4 h4⟩⟩
theorem zhB {o1 o2:dW}(hK:X.K=Γ.K) (hu:X.A.units+61 < ϰ) (ha:PE X x (TX Γ cf a)) (hb:PE X y (TX Γ cf b)) (hc:PE X z (TX Γ cf c)) (hm:lastMarks [o1,o2] [y,z]=false):PE X (.Compare x [o1,o2] [y,z] pos) (TX Γ cf (.chn o1 o2 a b c))/\PT X (.Compare x [o1,o2] [y,z] pos) (TB Γ cf (.chn o1 o2 a b c)):=
 ⟨(QT Y7 Y7 ha hb hc hm).imp fun σ H Q h0=>goX h0 fun ρ S V g Hz hw w env k=>chn3 hK hu hw w env fun r H' g' S' st w' h=>k (.bl r,.st) _ H' g' S' st w' rfl h,
 (QG Y7 Y7 ha hb hc hm).imp fun σ H Q h0=>goB h0 fun ρ S V g Hz hw w env k=>chn3 hK hu hw w env fun r H' g' S' st w' h=>⟨r,rfl,k _ H' g' S' st w' h⟩⟩
theorem vH {d:D}{Q:Bool->Prop}(h:isB d Q):∃ b,d=.bl b/\Q b:=by
 cases d with
 | bl b=>exact ⟨b,rfl,h⟩
 | _=>exact h.elim
theorem zf3 {d:D}{Q:Int->Prop}(h:isZ d Q):∃ b,d=.int b/\Q b:=by
 cases d with
 | int b=>exact ⟨b,rfl,h⟩
 | _=>exact h.elim
theorem VN.bl {Hb H:Hp}{g:G}{x:Vl}{v:V}{Q:Bool->Prop}(h:VN Γ Hb x v H g) (k:isB x.1 Q):∃ b,v=.bl b/\Q b:=by obtain ⟨d,kk⟩:=x;obtain ⟨b,rfl,q⟩:=vH k;exact ⟨b,h.sc fun _ z=>z.elim,q⟩
theorem VN.int {Hb H:Hp}{g:G}{x:Vl}{v:V}{Q:Int->Prop}(h:VN Γ Hb x v H g) (k:isZ x.1 Q):∃ b,v=.int b/\Q b:=by obtain ⟨d,kk⟩:=x;obtain ⟨b,rfl,q⟩:=zf3 k;exact ⟨b,h.sc fun _ z=>z.elim,q⟩
theorem zhq (h:PE X x (TX Γ cf a)):PE X (.UnaryOp .USub x pos) (TX Γ cf (.neg a)):=
 (zhM zdY h).imp fun σ H Q h0=>goX h0 fun ρ S V g Hz hw w env k=>⟨ρ,S,_,g,Hz,hw,w,env,fun x v H' g' S' st w' vx h=>by
  obtain ⟨i,e,q⟩:=vx.int h
  exact ⟨i,e,k (.int (-i),.st) _ H' g' S' st w' rfl q⟩⟩
theorem zeu (h:PE X x (TX Γ cf a)) (he:∀ whole,d9 x X.env whole=(do let v <- whole;gU x.pos;dB [v] (truthy v))):PT X x (TB Γ cf a):=
 (zbe h he).imp fun σ H Q h0=>goB h0 fun ρ S V g Hz hw w env k=>⟨ρ,S,_,g,Hz,hw,w,env,fun x v H' g' S' st w' vx h=>vx.bl (k x H' g' S' st w' h)⟩
theorem zeE (h:PT X x (TB Γ cf a)):PT X (.UnaryOp .Not x pos) (TB Γ cf (.not a)):=
 (zbf h).imp fun σ H Q h0=>goB h0 fun ρ S V g Hz hw w env k=>⟨ρ,S,_,g,Hz,hw,w,env,fun x H' g' S' st w' h=>by
  obtain ⟨b,e,q⟩:=vH h;rw [e]
  exact k (.bl (!b),.st) H' g' S' st w' q⟩
theorem zhp (h:PE X x (TX Γ cf a)):PE X (.UnaryOp .Not x pos) (TX Γ cf (.not a)):=
 (zbi h).imp fun σ H Q h0=>goX h0 fun ρ S V g Hz hw w env k=>⟨ρ,S,_,g,Hz,hw,w,env,fun x v H' g' S' st w' vx h=>by
  obtain ⟨b,e,q⟩:=vx.bl h
  exact ⟨b,e,k (.bl (!b),.st) _ H' g' S' st w' rfl q⟩⟩
theorem Qn {σ:L2.St}{H H1:Hp}{g g1:G}{Q:VK}{ρ:List Slot}{V:Po}{S1:Store}{Hz:Hp}(st:Step H g H1 g1) (w1:WOk Γ H1 g1 S1) (env:EnvO Γ Hz H g ρ σ) (k:∀ x v H' g' S',Step H g H' g'->WOk Γ H' g' S'->VN Γ H x v H' g'->V x S'->Q v H') (hw:wpE cf ρ a V S1):TX Γ cf a σ H1 Q:=
 ⟨ρ,S1,V,g1,Hz,hw,w1,zj env st,fun y u H2 g2 S2 st2 w2 vy hy=>k y u H2 g2 S2 (st.trans st2) w2 (vy.back st) hy⟩
theorem Qp {σ:L2.St}{H H1:Hp}{g g1:G}{Q:Bool->Hp->Prop}{ρ:List Slot}{V:Po}{S1:Store}{Hz:Hp}(st:Step H g H1 g1) (w1:WOk Γ H1 g1 S1) (env:EnvO Γ Hz H g ρ σ) (k:∀ x H' g' S',Step H g H' g'->WOk Γ H' g' S'->V x S'->isB x.1 fun b=>Q b H') (hw:wpE cf ρ a V S1):TB Γ cf a σ H1 Q:=
 ⟨ρ,S1,V,g1,Hz,hw,w1,zj env st,fun y H2 g2 S2 st2 w2 hy=>k y H2 g2 S2 (st.trans st2) w2 hy⟩
theorem zhH {rest:List Expr}(ha:PE X x (TX Γ cf a)) (hb:PE X (.BoolOp .And (y::rest) pos) (TX Γ cf b)):PE X (.BoolOp .And (x::y::rest) pos) (TX Γ cf (.and a b)):=
 (zbl ha hb).imp fun σ H Q h0=>goX h0 fun ρ S V g Hz hw w env k=>⟨ρ,S,_,g,Hz,hw,w,env,fun x v H1 g1 S1 st w1 vx h=>by
  obtain ⟨r,e,q⟩:=vx.bl h;refine ⟨r,e,?_⟩;cases r with
  | false=>exact iteF (k (.bl false,.st) _ H1 g1 S1 st w1 rfl q)
  | true=>exact iteT (Qn st w1 env k q)⟩
theorem s_or {rest:List Expr}(ha:PE X x (TX Γ cf a)) (hb:PE X (.BoolOp .Or (y::rest) pos) (TX Γ cf b)):PE X (.BoolOp .Or (x::y::rest) pos) (TX Γ cf (.or a b)):=
 (ze5 ha hb).imp fun σ H Q h0=>goX h0 fun ρ S V g Hz hw w env k=>⟨ρ,S,_,g,Hz,hw,w,env,fun x v H1 g1 S1 st w1 vx h=>by
  obtain ⟨r,e,q⟩:=vx.bl h;refine ⟨r,e,?_⟩;cases r with
  | true=>exact iteT (k (.bl true,.st) _ H1 g1 S1 st w1 rfl q)
  | false=>exact iteF (Qn st w1 env k q)⟩
theorem PW.impE {t t':TT}(h:PW X x t) (i:∀ σ H Q,t' σ H Q->t σ H Q):PW X x t':=fun wh pj s σ H Q I q=>h wh pj s σ H Q I (i σ H Q q)
theorem zeL {rest:List Expr}(ha:PT X x (TB Γ cf a)) (hb:PW X (.BoolOp .And (y::rest) pos) (TB Γ cf b)):PW X (.BoolOp .And (x::y::rest) pos) (TB Γ cf (.and a b)):=
 PW.impE (zbd ha hb) fun σ H Q h0=>goB h0 fun ρ S V g Hz hw w env k=>⟨ρ,S,_,g,Hz,hw,w,env,fun x H1 g1 S1 st w1 h=>by
  obtain ⟨r,e,q⟩:=vH h;rw [e];show (if r=true then _ else _)
  cases r with
  | false=>exact iteF (k (.bl false,.st) H1 g1 S1 st w1 q)
  | true=>exact iteT (Qp st w1 env k q)⟩
theorem zho {rest:List Expr}(ha:PT X x (TB Γ cf a)) (hb:PW X (.BoolOp .Or (y::rest) pos) (TB Γ cf b)):PW X (.BoolOp .Or (x::y::rest) pos) (TB Γ cf (.or a b)):=
 PW.impE (zeT ha hb) fun σ H Q h0=>goB h0 fun ρ S V g Hz hw w env k=>⟨ρ,S,_,g,Hz,hw,w,env,fun x H1 g1 S1 st w1 h=>by
  obtain ⟨r,e,q⟩:=vH h;rw [e];show (if r=true then _ else _)
  cases r with
  | true=>exact iteT (k (.bl true,.st) H1 g1 S1 st w1 q)
  | false=>exact iteF (Qp st w1 env k q)⟩
theorem za4 {op:iZ}(h:PT X x (TB Γ cf a)):PW X (.BoolOp op [x] pos) (TB Γ cf (.one a)):=by
 cases op with
 | And=>exact UJ h
 | Or=>exact zbc h
theorem zhu (hc:PT X x (TB Γ cf c)) (ha:PE X y (TX Γ cf a)) (hb:PE X z (TX Γ cf b)):PE X (.IfExp x y z pos) (TX Γ cf (.ite c a b)):=
 (QR hc ha hb).imp fun σ H Q h0=>goX h0 fun ρ S V g Hz hw w env k=>⟨ρ,S,_,g,Hz,hw,w,env,fun x H1 g1 S1 st w1 h=>by
  obtain ⟨r,e,q⟩:=vH h;rw [e];show (if r=true then _ else _)
  cases r with
  | true=>exact iteT (Qn st w1 env k q)
  | false=>exact iteF (Qn st w1 env k q)⟩
theorem zb (h:notStar x=true) (xs:List Expr) (env:Env):ϐ (x::xs) env=(false,eval x env)::ϐ xs env:=by cases x <;> first | rfl | cases h
theorem zeF:PA X [] (TXs Γ cf []):=xM.imp fun σ H Q h0=>goS h0 fun ρ S W g Hz hw w env k=>k [] [] H g S (Step.refl H g) w rfl hw
theorem args_cons {es:List E}{σ:L2.St}{H:Hp}{Q:List V->Hp->Prop}(h:TXs Γ cf (a::es) σ H Q):TX Γ cf a σ H fun v H1=>TXs Γ cf es σ H1 fun vs H2=>Q (v::vs) H2:=by obtain ⟨ρ,S,W,g,Hz,hw,w,env,k⟩:=h;refine ⟨ρ,S,_,g,Hz,hw,w,env,fun x v H1 g1 S1 st w1 vx h=>?_⟩;obtain ⟨g2,st2,w2,hx,q⟩:=vx.keep st w1 h;exact ⟨ρ,S1,_,g2,Hz,q,w2,zj env st2,fun ds vs H3 g3 S3 st3 w3 hs h3=>k (x.1::ds) _ H3 g3 S3 (st2.trans st3) w3 ⟨v,vs,rfl,hx.mono st3.le,hs⟩ h3⟩
theorem za5 {xs:List Expr}{es:List E}(hs:notStar x=true) (h1:PE X x (TX Γ cf a)) (h2:PA X xs (TXs Γ cf es)):PA X (x::xs) (TXs Γ cf (a::es)):=
 (zZ h1 h2 (zb hs _ _)).imp fun σ H Q h=>args_cons h
theorem xG {r:Bool}{T:Prop}(h:tst r T False):r=true/\T:=by
 cases r with
 | true=>exact ⟨rfl,h⟩
 | false=>exact h.elim
theorem zV {α:Type}{o:Option α}{Q:α->Prop}(h:opt o Q):∃ a,o=some a/\Q a:=by
 cases o with
 | some a=>exact ⟨a,rfl,h⟩
 | none=>exact h.elim
theorem zha {xs:List Expr}{es:List E}{kk:Nat}(h:PA X xs (TXs Γ cf es)):PE X (.Tuple xs kk pos) (TX Γ cf (.tup es)):=
 (U9 h).imp fun σ H Q h0=>goX h0 fun ρ S V g Hz hw w env k=>⟨ρ,S,_,g,Hz,hw,w,env,fun ds vs H1 g1 S1 st w1 hv h=>by
  obtain ⟨hf,q⟩:=xG h
  exact ⟨by rw [hv.len];exact xW hf,fun p hp=>Za (Q:=Q) w1 (fun v H2 g2 st2 _ w2 vo=>k (.tup ds,.st) v H2 g2 S1 (st.trans st2) w2 vo q) hv hp⟩⟩
theorem zht {xs:List Expr}{es:List E}(h:PA X xs (TXs Γ cf es)):PE X (.List xs pos) (TX Γ cf (.lst es)):=
 (ze8 h).imp fun σ H Q h0=>goX h0 fun ρ S V g Hz hw w env k=>⟨ρ,S,_,g,Hz,hw,w,env,fun ds vs H1 g1 S1 st w1 hv h=>by
  obtain ⟨hf,q⟩:=xG h
  exact ⟨by rw [hv.len];exact xW hf,fun p hp=>wV (Q:=Q) w1 (fun v H2 g2 st2 _ w2 vo=>k (.lst ds,.fr) v H2 g2 S1 (st.trans st2) w2 ((VN.of (fr:=true) vo).back st) q) hv hp⟩⟩
set_option tactic.hygienic true in
theorem zhd (hK:X.K=Γ.K) (hu:X.A.units+1 < ϰ) (ha:PE X x (TX Γ cf a)) (hb:PE X y (TX Γ cf b)) (hp:XR y):PE X (.Subscript x y pos) (TX Γ cf (.sub a b)):=
 (zhO zfT ha hb hp).imp fun σ H Q h0=>goX h0 fun ρ S V g Hz hw w env k=>two (G1:=fun u v H'=>zfU X u v H' Q) hw w env fun x y u v H' g' S' st w' vx vy h=>by
  obtain ⟨d,eo,q⟩:=zV h;obtain ⟨r,h1,h2⟩:=zfS (X:=X) hK hu eo;have e:zF S' y.1=y.1:=by
   cases hy:y.1 with
   | ref n=>
    rw [hy] at eo;unfold subD at eo;split at eo <;> first | cases eo | (rename_i hh;cases hh) | skip
    all_goals (simp [vZ,keyD] at eo)
   | _=>rfl
  have vb:=vy.rdb w';rw [e] at vb;exact ⟨r,h1,h2 S' H' g' u v Q w' (vx.rdb w') vb fun t H2 g2 st2 _ w2 vo=>k (d,.st) t H2 g2 S' (st.trans st2) w2 vo q⟩
theorem zhn:PO X none (TXo Γ cf none):=fun pj s σ H Q I h0=>goO h0 fun ρ S W g Hz hw w env k=>zcx pj s σ H Q I (k none H g S (Step.refl H g) w hw)
theorem s_po (h:PE X x (TX Γ cf a)):PO X (some x) (TXo Γ cf (some a)):=fun pj s σ H Q I h0=>goO h0 fun ρ S W g Hz hw w env k=>zcw h pj s σ H Q I ⟨ρ,S,_,g,Hz,hw,w,env,fun x v H1 g1 S1 st w1 vx h=>by
 obtain ⟨i,e,q⟩:=vx.int h
 exact ⟨i,e,k (some i) H1 g1 S1 st w1 q⟩⟩
theorem zhi {lo hi:Option Expr}{l u:Option E}{p2:Pos}(hK:X.K=Γ.K) (h:PE X x (TX Γ cf a)) (hl:PO X lo (TXo Γ cf l)) (hh:PO X hi (TXo Γ cf u)):PE X (.Subscript x (.Slice lo hi none p2) pos) (TX Γ cf (.slc a l u)):=
 (QM zep h hl hh).imp fun σ H Q h0=>goX h0 fun ρ S V g Hz hw w env k=>⟨ρ,S,_,g,Hz,hw,w,env,fun x v H1 g1 S1 st1 w1 vx h1=>⟨ρ,S1,_,g1,Hz,h1,w1,zj env st1,fun i H2 g2 S2 st2 w2 h2=>⟨ρ,S2,_,g2,Hz,h2,w2,zj env (st1.trans st2),fun j H3 g3 S3 st3 w3 h3=>by
  obtain ⟨⟨d,fr⟩,eo,q⟩:=zV h3;obtain ⟨r,r1,r2⟩:=zeo (X:=X) (Γ:=Γ) hK eo;have st:=(st1.trans st2).trans st3
  exact ⟨r,r1,r2 S3 H3 g3 v Q w3 ((vx.step (st2.trans st3)).rdb w3) fun t H4 g4 st4 _ w4 vo=>k _ t H4 g4 S3 (st.trans st4) w4 ((VN.of vo).back st) q⟩⟩⟩⟩
end
end EV
namespace L2
open PySem PySem.Spec PyProof.Rows
noncomputable def cxG (X:Cx) (sc:b7) (cl:List (Str×Addr)) (xs:List Str) (js:List Nat) (C:Addr) (s3:ν) (H3:Hp) (fp:List Addr):Cx:=
 { X with N:=xs++js.map (fun j=>X.N.getD j ""),sy:=s3,Hz:=H3,env:=compEnvC sc cl C X.env,outer:=X.stack,stack:=X.stack,ex:=fp,fn:=fun _=>false,pn:=[],xe:=fun _ _=>False }
structure VJ (X:Cx) (sc:b7) (cl:List (Str×Addr)) (xs:List Str) (js:List Nat):Prop where
 clos:closureFor sc X.env=pure cl
 cell:∀ y∈sc.names,y.2≠.cell
 kind:sc.kind=.function
 names:∀ y∈sc.names,y.2=.local->sc.names.lookup y.1=some .local
 sub:∀ y c,cl.lookup y=some c->X.env.cells.lookup y=some c
 has:∀ y,((fU sc X.env).names.lookup y=some .cell\/(fU sc X.env).names.lookup y=some .free)->∃ c,cl.lookup y=some c
 free:∀ j∈js,∀ y,X.N[j]?=some y->Vis X.env.scope y/\X.env.kindOf y≠some .local/\(∃ c,cl.lookup y=some c)/\((fU sc X.env).names.lookup y=some .cell\/(fU sc X.env).names.lookup y=some .free)
 inN:∀ j∈js,j < X.N.length
section
variable {X:Cx}{pj:List (Addr×Obj)}{σ:St}{H3:Hp}{s3:ν}{sc:b7}{cl:List (Str×Addr)}{xs:List Str}{js:List Nat}{fp:List Addr}{h1:Heap}{o:Obj}{tk:Nat}
theorem JS (I:Inv X pj σ H3 s3) (K:VJ X sc cl xs js) (hns:h1.Ns s3.heap.objs.size fun _=>none) (hsb:Ϯ s3.heap.objs.size (s3.heap.push o) h1)
  (hfp:∀ b∈fp,FpOk X pj H3 b/\b < s3.heap.objs.size):
  Inv (cxG X sc cl xs js s3.heap.objs.size s3 H3 fp) [] (Ι xs.length none++rows σ js) H3 { s3 with heap:=h1,toks:=tk }:=by
 have kept:∀ b u,s3.heap.get? b=some u->h1.get? b=some u:=fun b u e=>(hsb.2 b (ϔ (Δ e))).trans (ξ _ e)
 refine ⟨⟨I.ok.mod,K.kind,I.ok.glob,I.ok.blt,Η _,fun y z c e1 e2=>I.ok.inj y z c (K.sub _ _ e1) (K.sub _ _ e2),fun y hy=>K.has y hy,fun y c hf=>absurd (show false=true from hf) Ν,I.ok.hd,I.ok.frames,.inl rfl,
  fun b hb=>⟨ϔ (hfp b hb).2,fun y c e=>(hfp b hb).1.2.2.2.2.1 y c (K.sub _ _ e)⟩,I.bs,ϕ I.ok.bsz I.sz,fun b o' e hb=>?_,fun b hb z=>?_,I.stack,I.uW⟩,
  rfl,I.bare,Un.kept kept,⟨_,hns,fun i y v e1 e2 e3=>?_⟩,fun y c e=>?_,I.hok.fresh (Η _),fun y c e=>I.freeC y c (K.sub _ _ e),fun p hp=>absurd (show p∈([]:List (Addr×Obj)) from hp) (by simp),I.hok.kept kept,?_⟩
 ·rcases (hfp b hb).1.2.2.2.1 with z | z
  ·exact I.ok.noex b o' e z
  ·exact absurd (Ψ (Δ e) (ϕ I.ok.bsz z)) (bN _)
 ·rcases χ.mp (I.Wa b z) with q | q
  ·exact (hfp b hb).1.2.1 q
  ·exact (hfp b hb).1.2.2.1 q
 ·by_cases hi:i < xs.length
  ·rw [ϖ (by simpa using hi),bW,if_pos hi] at e2;cases e2
  ·have hi':xs.length<=i:=by lia
   have e1':(js.map fun j=>X.N.getD j "")[i - xs.length]?=some y:=by have q:(xs++js.map fun j=>X.N.getD j "")[i]?=some y:=e1;rw [ϒ hi'] at q;exact q
   have e2':(rows σ js)[i - xs.length]?=some (some v):=by rw [ϒ (by simpa using hi')] at e2;simpa using e2
   generalize i - xs.length=i at e1' e2';rw [Υ] at e1';unfold rows at e2';rw [Υ] at e2';cases ej:js[i]? with
   | none=>rw [ej] at e1';cases e1'
   | some j=>
    rw [ej] at e1' e2';simp only [Option.map_some,iQ] at e1' e2';have hj:=ϡ ej;have hlt:=K.inN j hj;have eN:X.N[j]?=some y:=by rw [<- e1',ϵ,ψ hlt];rfl
    have eS:σ[j]?=some (some v):=by
     rw [ϵ] at e2';cases q:σ[j]? with
     | none=>rw [q] at e2';cases e2'
     | some z=>rw [q] at e2';simpa using e2'
    obtain ⟨hv,hnl,⟨c,hc⟩,hk⟩:=K.free j hj y eN;obtain ⟨m,_,hl⟩:=I.loc;obtain ⟨u,r,l⟩:=hl j y v eN eS hv;refine ⟨u,r,?_⟩;rcases l with ⟨k,_⟩ | ⟨k,c',e',z⟩
    ·exact absurd k hnl
    ·have:c'=c:=Λ (e'.symm.trans (K.sub _ _ hc));subst this;obtain ⟨oc,hoc,hd⟩:=z;exact .inr ⟨hk,c',hc,oc,kept _ _ hoc,hd⟩
 ·obtain ⟨v,oc,hoc,hd⟩:=I.cell y c (K.sub _ _ e);exact ⟨v,oc,kept _ _ hoc,hd⟩
 ·simp [rows,cxG]
def PTs (X:Cx) (ifs:List Expr) (t:TT):Prop:=
 ∀ (pj:List (Addr×Obj)) (s:ν) (σ:St) (H:Hp) (Q:Bool->Hp->Prop),Inv X pj σ H s->t σ H Q ->
  Θ (Ξ X.prog X.w) X.A (forIn ifs true fun c r=>if r=true then do let ok <- d9 c X.env (eval c X.env);pure (c7 ok) else pure (c7 r)) (TP X pj σ Q) X.xe s
theorem zcr:PTs X [] (fun _ H Q=>Q true H):=fun _ _ _ H _ I h=>wpAny_tests_nil ⟨H,I,h⟩
theorem zcq {c:Expr}{t:TT}(h:PT X c t):PTs X [c] t:=fun pj s σ H Q I q=>wpAny_tests_one (h pj s σ H Q I q)
def jY (n:Nat) (js:List Nat) (wi:TI) (tg:TG) (tt:TT) (te:TE) (Qe:Addr->Hp->Prop):St->Hp->Prop:=fun σ H=>wi σ H fun J H1=>∀ D,H1 D=none ->
 ∃ W:Nat->Nat->List V->St->Hp->Prop,(∃ m,W 0 m [] (Ι n none++rows σ js) (upd H1 D (.lst [])))/\∀ i m ys τ H2,W i m ys τ H2 ->
  (J.stop i H2/\Qe D H2)\/(J.go i H2/\∀ z H3,J.yld i H2 z H3->tg z τ H3 fun τ3 H3=>tt τ3 H3 fun b H4=>
   if b=true then te τ3 H4 fun v H5=>H5 D=some (.lst ys)/\ys.length < sizeLine/\∃ m',m' < m/\W (i+1) m' (ys++[v]) τ3 (upd H5 D (.lst (ys++[v])))
   else ∃ m',m' < m/\W (i+1) m' ys τ3 H4)
theorem Ym {elt iter tgt:Expr}{ifs:List Expr}{pos pos':Pos}{wi:TI}{tg:TG}{tt:TT}{te:TE}{Qe:Addr->Hp->Prop}{use:Option (δ->Sem Unit)}{Q':VSP}{H:Hp}{s:ν}(hc:X.calm=true) (K:VJ X sc cl xs js) (hi:PI X tgt iter wi)
  (hg:∀ C s3 H3 fp,PG (cxG X sc cl xs js C s3 H3 fp) tgt tg) (ht:∀ C s3 H3 fp,PTs (cxG X sc cl xs js C s3 H3 fp) ifs tt) (he:∀ C s3 H3 fp,PE (cxG X sc cl xs js C s3 H3 fp) elt te) (hs:∀ v,aU iter X.env v=pure v)
  (I:Inv X pj σ H s) (h:jY xs.length js wi tg tt te Qe σ H)
  (fin:∀ (D C:Addr) (s6:ν) (H5:Hp) (m:Str->Option δ),s6.heap.Ns C m->FpOk X pj H5 C->(∀ h',Ϯ C s6.heap h'->Inv X pj σ H5 { s6 with heap:=h' })->Qe D H5->compPost (Ξ X.prog X.w) X.A X.xe use Q' (.ref D) C (.ok .next) s6):
  Θ (Ξ X.prog X.w) X.A (comprehension (.ListComp elt [⟨tgt,iter,ifs,0⟩] sc pos) sc X.env pos' (newList []) false (eval iter X.env) use) Q' X.xe s:=by
 refine wpAny_comprehension_free (use:=use) rfl hs K.clos K.kind K.names ?_;refine thn (hi pj s σ H _ I h) fun v s1 h1=>thn h1 fun itv s2 h2=>?_
 obtain ⟨it,fp,tn,J,H2,e,I2,T,st2,f2,h⟩:=h2;subst e;have hD:H2 s2.heap.objs.size=none:=I2.fresh;obtain ⟨W,⟨m0,w0⟩,turn⟩:=h _ hD;have I3:Inv X pj σ (upd H2 s2.heap.objs.size (.lst [])) { s2 with heap:=s2.heap.push { cls:=.type "list",data:=.seq ([]:List δ).toArray },toks:=s2.toks }:=I2.lnew (its:=[]) .nil (bF _);have fpLt:∀ b∈fp,b < s2.heap.objs.size:=fun b hb=>let ⟨o,e,_⟩:=T.obj _ _ st2 b hb;Δ e
 refine aj (wpAny_newFunctionEnv K.cell (by intro y hy;simp at hy) (fun h₁ hns₁ hsb₁=>?_) K.kind);generalize hs3:({ s2 with heap:=s2.heap.push { cls:=.type "list",data:=.seq ([]:List δ).toArray },toks:=s2.toks }:ν)=s3 at I3;have hs3':({ s2 with heap:=s2.heap.push { cls:=.type "list",data:=.seq ([]:List δ).toArray } }:ν)=s3:=hs3
 (try rw [hs3'] at hns₁);(try rw [hs3'] at hsb₁);(try rw [hs3'])
 have hsz:s3.heap.objs.size=s2.heap.objs.size+1:=by rw [<- hs3,ϭ]
 generalize hH3:upd H2 s2.heap.objs.size (.lst [])=H3 at I3 w0;have fp3:∀ b∈fp,FpOk X pj H3 b/\b < s3.heap.objs.size:=fun b hb=>by refine ⟨⟨?_,(f2 b hb).2⟩,by rw [hsz];exact Nat.lt_succ_of_lt (fpLt b hb)⟩;rw [<- hH3,zm (ϔ (fpLt b hb))];exact (f2 b hb).1
 have I4:=JS (tk:=s3.toks+([]:List (Str×δ)).length) I3 K hns₁ hsb₁ fp3;have st4:tn 0 h₁:=T.keep _ _ _ st2 fun b hb o e=>(hsb₁.2 b (ϔ (fp3 b hb).2)).trans (ξ _ (by rw [<- hs3];exact ξ _ e))
 have stat:∀ {H':Hp}{pl:List (Addr×Obj)},(∀ b∈fp,H' b=none)->(∀ p∈pl,p.1 ∉ fp)->∀ b∈fp,FpOk (cxG X sc cl xs js s3.heap.objs.size s3 H3 fp) pl H' b:=fun {H'} {pl} hn hp b hb=>
  ⟨hn b hb,ϔ (fp3 b hb).2,fun z=>by
   rcases χ.mp (I3.Wa b z) with q | q
   ·exact (f2 b hb).2.1 q
   ·exact (f2 b hb).2.2.1 q,.inl hb,fun y c e=>(f2 b hb).2.2.2.2.1 y c (K.sub _ _ e),fun p hp' z=>by
    have hp'':p∈pl:=by simpa [cxG] using hp'
    exact hp p hp'' (z ▸ hb)⟩
 have loop:∀ s4:ν,s4={ s3 with heap:=h₁,toks:=s3.toks+([]:List (Str×δ)).length } ->
   fW (Ξ X.prog X.w) X.A (.compLoop (.ListComp elt [⟨tgt,iter,ifs,0⟩] sc pos) 0 (.ref it) (.ref s2.heap.objs.size) (compEnvC sc cl s3.heap.objs.size X.env))
    (compPost (Ξ X.prog X.w) X.A X.xe use Q' (.ref s2.heap.objs.size) s3.heap.objs.size) s4:=by
  rintro s4 rfl;refine codeAny_loop rfl (fun n s'=>∃ i ys τ H',Inv (cxG X sc cl xs js s3.heap.objs.size s3 H3 fp) [] τ H' s'/\tn i s'.heap/\(∀ b∈fp,H' b=none)/\W i n ys τ H') ?_ m0 ⟨0,[],_,H3,I4,st4,fun b hb=>(fp3 b hb).1.1,w0⟩;rintro n s5 ⟨i,ys,τ,H5,I5,st5,fr5,w5⟩;show Θ _ X.A ((compTurn (.ListComp elt [⟨tgt,iter,ifs,0⟩] sc pos) 0 (.ref it) (.ref s2.heap.objs.size) (compEnvC sc cl s3.heap.objs.size X.env)).onRaise (fun x=>do dO x (compEnvC sc cl s3.heap.objs.size X.env);theTreesLotGoes x)) _ _ s5
  refine wpAny_noted ?_;rw [compTurn_list];refine ε (cL (ε ?_));rcases turn i n ys τ H5 w5 with ⟨stop,q⟩ | ⟨go,step⟩
  ·refine thn (T.done (cxG X sc cl xs js s3.heap.objs.size s3 H3 fp) rfl rfl rfl hc i [] s5 τ H5 _ I5 (stat fr5 (fun p hp=>absurd hp (by simp))) st5 stop) fun r s6 ⟨hr,I6⟩=>?_
   subst hr;refine π ?_;obtain ⟨m,hn,_⟩:=I6.loc;refine fin _ _ s6 H5 m hn (I3.fpOk (Η _) I6.free) (fun h' sb=>?_) q;have u:=(show Un (frs X.stack) fp H3 H5 s3.heap s6.heap from I6.base).sameBut sb (Η _);exact I3.call' (s':={ s6 with heap:=h' }) (ch:=fp) I6.os u (I6.hok.sameBut sb I6.free) I6.bare fun b hb=>⟨(f2 b hb).2.2.2.1,(f2 b hb).2.1,(f2 b hb).2.2.2.2.1,(f2 b hb).2.2.2.2.2⟩
  ·refine thn (T.item (cxG X sc cl xs js s3.heap.objs.size s3 H3 fp) rfl rfl rfl hc i [] s5 τ H5 _ I5 (stat fr5 (fun p hp=>absurd hp (by simp))) st5 go) fun r s6 ⟨u,hr,h6⟩=>?_
   subst hr;refine ε (thn h6 fun _ s7 ⟨z,H7,I7,r7,y7,st7,fr7⟩=>?_);have I7':=I7.pinned (stat fr7 (fun p hp=>absurd hp (by simp))) (T.obj _ _ st7);have done:∀ {σ':St}{H':Hp}{s':ν}{ys':List V}{m':Nat},Inv (cxG X sc cl xs js s3.heap.objs.size s3 H3 fp) ([]++ZK fp s7.heap) σ' H' s'->m' < n->W (i+1) m' ys' σ' H'->∃ m,m < n/\∃ i ys τ H',Inv (cxG X sc cl xs js s3.heap.objs.size s3 H3 fp) [] τ H' s'/\tn i s'.heap/\(∀ b∈fp,H' b=none)/\W i m ys τ H':=fun {σ' H' s' ys' m'} I' hm w'=>
    ⟨m',hm,i+1,ys',σ',H',I'.wZ,T.keep _ _ _ st7 fun b hb o e=>(I'.pin (b,o) (ύ _ (ύ _ (wu hb e)))).1,fun b hb=>by
     obtain ⟨o,e,d⟩:=T.obj _ _ st7 b hb
     exact (I'.pin (b,o) (ύ _ (ύ _ (wu hb e)))).2.1,w'⟩
   refine ε (aJ (hg _ _ _ _ _ s7 τ H7 z u _ I7' r7 (step z H7 y7)) (fun _ s8 ⟨σ8,H8,I8,q8⟩=>?_) fun _ _ z=>ϗ z);refine ε (aJ (ht _ _ _ _ _ s8 σ8 H8 _ I8 q8) (fun ok s9 ⟨H9,I9,q9⟩=>?_) fun _ _ z=>ϗ z);cases ok with
   | false=>
    rw [if_neg Ν] at q9;obtain ⟨m',hm,w9⟩:=q9;exact π ⟨rfl,done I9 hm w9⟩
   | true=>
    rw [if_pos rfl] at q9;refine ε (ε (aJ (he _ _ _ _ _ s9 _ _ _ I9 q9) (fun v9 s10 ⟨x9,H10,I10,r9,q10⟩=>?_) fun _ _ z=>ϗ z));obtain ⟨hD9,hlen,m',hm,w10⟩:=q10;have ap:=Z0 (X:=cxG X sc cl xs js s3.heap.objs.size s3 H3 fp) _ s10 _ H10 (.ref s2.heap.objs.size) [x9] (.ref s2.heap.objs.size) [v9] (fun _ H'=>H'=upd H10 s2.heap.objs.size (.lst (ys++[x9]))) I10 rfl (.cons r9 .nil) ⟨_,ys,x9,rfl,rfl,hD9,hlen,rfl⟩;refine ε (aJ ap (fun _ s11 ⟨_,H11,I11,_,e11⟩=>?_) fun _ _ z=>ϗ z);subst e11;exact π (π ⟨rfl,done I11 hm w10⟩)
 exact codeAny_compStart_list (loop _ rfl) (T.self _ 0 _ _ _ st4 (loop _ rfl))
theorem QS {elt iter tgt:Expr}{ifs:List Expr}{pos:Pos}{wi:TI}{tg:TG}{tt:TT}{te:TE}(hc:X.calm=true) (K:VJ X sc cl xs js) (hi:PI X tgt iter wi)
  (hg:∀ C s3 H3 fp,PG (cxG X sc cl xs js C s3 H3 fp) tgt tg) (ht:∀ C s3 H3 fp,PTs (cxG X sc cl xs js C s3 H3 fp) ifs tt) (he:∀ C s3 H3 fp,PE (cxG X sc cl xs js C s3 H3 fp) elt te) (hs:∀ v,aU iter X.env v=pure v):
  PE X (.ListComp elt [⟨tgt,iter,ifs,0⟩] sc pos) (fun σ H Q=>jY xs.length js wi tg tt te (fun D H'=>Q (.ref D) H') σ H):=by intro pj s σ H Q I h;rw [eval_ListComp];exact Ym (use:=none) (Q':=EP X pj σ Q) hc K hi hg ht he hs I h fun D C s6 H5 m hn fp inv q=>⟨m,hn,fun h' sb=>⟨.ref D,H5,inv h' sb,rfl,q⟩⟩
theorem Vh {elt iter tgt:Expr}{ifs:List Expr}{pos spos npos:Pos}{wi:TI}{tg:TG}{tt:TT}{te:TE}{n:Str}{i:Nat}(hc:X.calm=true) (K:VJ X sc cl xs js) (hi:PI X tgt iter wi)
  (hg:∀ C s3 H3 fp,PG (cxG X sc cl xs js C s3 H3 fp) tgt tg) (ht:∀ C s3 H3 fp,PTs (cxG X sc cl xs js C s3 H3 fp) ifs tt) (he:∀ C s3 H3 fp,PE (cxG X sc cl xs js C s3 H3 fp) elt te) (hs:∀ v,aU iter X.env v=pure v)
  (hp:PG X (.Name n npos) (Yh i)) (hsw:cj (.ListComp elt [⟨tgt,iter,ifs,0⟩] sc pos) (some (.Name n npos)) spos.line X.env=pure true):
  PS X (.Assign [.Name n npos] (.ListComp elt [⟨tgt,iter,ifs,0⟩] sc pos) spos) (fun D σ H=>jY xs.length js wi tg tt te (fun Da H'=>D.nx (σ.set i (some (.ref Da))) H') σ H):=by
 intro pj s σ H D I h;rw [exec_Assign_Name_used _ _ _ _ hsw];refine ε (cL (ε ?_));show Θ _ X.A (do let _ <- comprehension (.ListComp elt [⟨tgt,iter,ifs,0⟩] sc pos) sc X.env _ (newList []) false (eval iter X.env) (some (dD (.Name n npos) X.env))) _ _ s
 refine ε (aJ (Ym (use:=some (dD (.Name n npos) X.env)) (Q':=fun _ s'=>SP X pj D .next s') hc K hi hg ht he hs I h ?_) (fun _ s' q=>π (π q)) fun _ _ z=>z);intro Da C s6 H5 m hn fp inv q;obtain ⟨oC,es,ep,hoC,hdC,hrC⟩:=id hn;have I6:=inv s6.heap (iD C s6.heap);have I6':Inv X (pj++[(C,oC)]) σ H5 { s6 with heap:=s6.heap }:=I6.Y5 fun p hp=>(bc.mp hp).elim (fun z=>I6.pin p (ύ _ z)) fun z=>by rw [Μ.mp z];exact ⟨hoC,fp.1,fp.2.1,fp.2.2.1,fun v e=>by rw [hdC] at e;cases e⟩
 show Θ _ X.A (dD (.Name n npos) X.env (.ref Da)) _ _ s6
 refine thn (hp _ s6 σ H5 (.ref Da) (.ref Da) _ I6' rfl q) fun _ s7 ⟨σ7,H7,I7,q7⟩=>?_
 have hC7:=(I7.pin (C,oC) (ύ _ (ύ _ (Μ.mpr rfl))))
 refine ⟨m,⟨oC,es,ep,hC7.1,hdC,hrC⟩,fun h' sb=>⟨σ7,H7,?_,q7⟩⟩;have I8:Inv X pj σ7 H7 s7:=I7.wZ;exact I8.turned (t':=s7.toks) (fun b o hb e=>(sb.2 b hb).trans e) hC7.2.1 fp.2.1 fp.2.2.2.1 fp.2.2.2.2.1 fun p hp=>fp.2.2.2.2.2 p hp
def CSet (X:Cx) (x:Expr) (t:TE):Prop:=∀ (n:Str) (npos spos:Pos) (i:Nat),PG X (.Name n npos) (Yh i)->cj x (some (.Name n npos)) spos.line X.env=pure true ->
 PS X (.Assign [.Name n npos] x spos) (fun D σ H=>t σ H fun v H'=>D.nx (σ.set i (some v)) H')
theorem zaB {X:Cx}{x:Expr}{t t':TE}(h:PE X x t/\CSet X x t) (i:∀ σ H Q,t' σ H Q->t σ H Q):PE X x t'/\CSet X x t':=
 ⟨h.1.imp i,fun n np sp j hp hs=>(h.2 n np sp j hp hs).imp fun D σ H q=>i σ H _ q⟩
theorem Kq {elt iter tgt:Expr}{ifs:List Expr}{pos:Pos}{wi:TI}{tg:TG}{tt:TT}{te:TE}(hc:X.calm=true) (K:VJ X sc cl xs js) (hi:PI X tgt iter wi)
  (hg:∀ C s3 H3 fp,PG (cxG X sc cl xs js C s3 H3 fp) tgt tg) (ht:∀ C s3 H3 fp,PTs (cxG X sc cl xs js C s3 H3 fp) ifs tt) (he:∀ C s3 H3 fp,PE (cxG X sc cl xs js C s3 H3 fp) elt te) (hs:∀ v,aU iter X.env v=pure v):
  PE X (.ListComp elt [⟨tgt,iter,ifs,0⟩] sc pos) (fun σ H Q=>jY xs.length js wi tg tt te (fun D H'=>Q (.ref D) H') σ H)/\CSet X (.ListComp elt [⟨tgt,iter,ifs,0⟩] sc pos) (fun σ H Q=>jY xs.length js wi tg tt te (fun D H'=>Q (.ref D) H') σ H):=
 ⟨QS hc K hi hg ht he hs,fun n np sp i hp hsw=>Vh hc K hi hg ht he hs hp hsw⟩
end
structure Fly (h:Heap) (e T C:Addr):Prop where
 oe:∃ o vs,h.get? e=some o/\(o.cls=.ref C/\o.dict=none)/\o.data=.fields vs/\vs[1]?=some (.ref T)
 ne:T≠e
 ot:∃ o ts,h.get? T=some o/\o.data=.fields ts/\ts[3]?=some .none
structure Chg (fs ex:List Addr) (h h':Heap):Prop where
 keep:∀ b o,h.get? b=some o->b ∉ fs->b ∉ ex->h'.get? b=some o
 slot:∀ b o,h.get? b=some o->b ∉ ex->∃ sl,h'.get? b=some { o with slots:=sl }
 size:h.objs.size<=h'.objs.size
theorem Chg.mono {fs ex ex':List Addr}{h h':Heap}(c:Chg fs ex h h') (q:∀ b,b∈ex->b∈ex'):Chg fs ex' h h':=
 ⟨fun b o e n x=>c.keep b o e n fun z=>x (q b z),fun b o e x=>c.slot b o e fun z=>x (q b z),c.size⟩
theorem Chg.trans {fs ex:List Addr}{h h1 h2:Heap}(a:Chg fs ex h h1) (b:Chg fs ex h1 h2):Chg fs ex h h2:=
 ⟨fun c o e n x=>b.keep c o (a.keep c o e n x) n x,fun c o e x=>by
  obtain ⟨sl,e1⟩:=a.slot c o e x;obtain ⟨sl',e2⟩:=b.slot c _ e1 x
  exact ⟨sl',e2⟩,ϕ a.size b.size⟩
theorem Chg.upd {fs:List Addr}{h:Heap}{a:Addr}(f:Obj->Obj):Chg fs [a] h (h.update a f):=
  ⟨fun b o e _ x=>by rw [Ϸ _ _ (fun z=>x (by rw [z];exact θ))];exact e,
   fun b o e x=>⟨o.slots,by rw [Ϸ _ _ (fun z=>x (by rw [z];exact θ))];exact e⟩,dH (Heap.size_after_update ..).symm⟩
theorem Chg.psh {fs ex:List Addr}{h:Heap}(o:Obj):Chg fs ex h (h.push o):=
 ⟨fun b u e _ _=>ξ _ e,fun b u e _=>⟨u.slots,ξ _ e⟩,by rw [ϭ];exact Nat.le_succ _⟩
section
variable {M:Model}{A:Ϗ}{E:VSP}{s:ν}{base:Heap}{env:Env}{outer:List Env}{L e T C:Addr}{Q:Unit->ν->Prop}
theorem WP {oe:Obj}{vs:Array δ}{head:δ}{had:Bool}(hfr:A.frames=some (env::outer)) (hl:s.heap.FunFrames base (env::outer)) (hf:env.frame=some L) (he:s.heap.get? e=some oe) (hc:oe.cls=.ref C/\oe.dict=none) (hd:oe.data=.fields vs) (hz:1 < vs.size)
  (h:∀ h' T,Chg (frs (env::outer)) [e] s.heap h'->s.heap.get? T=none->Fly h' e T C->Q () { s with heap:=h' }):
  Θ M A (do let a <- frameOf env;let pl <- entryPlaceOf L had;let b <- iG head a .none (d8 L) .none pl;setField (.ref e) 1 b) (fun _ s'=>Θ M A (fQ (.ref e) none) Q E s') E s:=by
 have nf:e ∉ frs (env::outer):=fun hm=>by obtain ⟨_,o,ho,q⟩:=hl.mem hm;rw [he] at ho;cases ho;exact q vs hd
 refine ε (wpAny_frameOf_fun hfr hl hf fun h1 s1=>ε (wpAny_entryPlaceOf fun pl hp=>?_));unfold iG newFields;refine ε (aj ?_ (hp.sizeOk5 _ _ _ _ _));have e1:h1.get? e=some oe:=(s1.2.1 e nf).trans he;generalize hob:({ cls:=.type "traceback",dict:=none,data:=.fields ([head,.ref L,.none,d8 L,.none]++(if pl.isEmpty then Ι 6 Ϙ else pl)).toArray }:Obj)=ob;have e2:=ξ (h:=h1) ob e1;refine dh e2 hd hz ?_;have ne:h1.objs.size≠e:=gq (Δ e1);have d3:=aZ hd (·.setIfInBounds 1 (Ε h1.objs.size));have e3:=bj (aR (·.setIfInBounds 1 (Ε h1.objs.size))) e2 (cA d3);have t3:=(Ϸ (h1.push ob) (aR (·.setIfInBounds 1 (Ε h1.objs.size))) (bA ne)).trans (Χ h1 (by rw [<- hob];rfl));unfold fQ;refine ε (Ϥ e3 d3 (x:=.ref h1.objs.size) (by simp [hz]) ?_);rw [if_pos (show (Ε h1.objs.size != Ϙ)=true from by simp)];have dt:ob.data=.fields ([head,.ref L,.none,d8 L,.none]++(if pl.isEmpty then Ι 6 Ϙ else pl)).toArray:=by rw [<- hob]
 refine dh t3 dt (by simp only [ς,Ο,ϊ,cH] <;> omega) (h _ h1.objs.size ?_ ?_ ?_)
 ·have c1:Chg (frs (env::outer)) [e,h1.objs.size] s.heap h1:=⟨fun b o q n _=>(s1.2.1 b n).trans q,fun b o q _=>s1.2.2 b o q,dH s1.1.symm⟩
  have c4:=((c1.trans (Chg.psh ob)).trans ((Chg.upd _).mono fun b q=>by rw [Μ.mp q];exact θ)).trans ((Chg.upd (h:=(h1.push ob).update e (aR (·.setIfInBounds 1 (Ε h1.objs.size)))) (aR (·.setIfInBounds 3 ((none:Option Addr).elim Ϙ fun f=>d8 f)))).mono fun b q=>by rw [Μ.mp q];exact η _ θ);have nT:∀ b o,s.heap.get? b=some o->b≠h1.objs.size:=fun b o q z=>by have:=Δ q;rw [z,s1.1] at this;exact bN _ this
  refine ⟨fun b o q n x=>c4.keep b o q n fun z=>?_,fun b o q x=>c4.slot b o q fun z=>?_,c4.size⟩
  ·rcases χ.mp z with z | z
   ·exact x (by rw [z];exact θ)
   ·exact nT b o q (Μ.mp z)
  ·rcases χ.mp z with z | z
   ·exact x (by rw [z];exact θ)
   ·exact nT b o q (Μ.mp z)
 ·exact dY (dH s1.1.symm)
 ·refine ⟨⟨_,_,(Ϸ _ _ ne).trans e3,?_,d3,by simp [hz]⟩,ne,⟨_,_,bj _ t3 (cA (aZ dt _)),aZ dt _,?_⟩⟩
  ·rw [Obj.cls_mapFields];exact ⟨hc.1,by obtain ⟨a,b,d,e⟩:=oe;cases d <;> exact hc.2⟩
  ·first | (simp;done) | (rcases hp with rfl | ⟨_,_,_,_,_,_,_,rfl⟩ <;> simp)
theorem Vn {oe:Obj}{vs:Array δ}(hfr:A.frames=some (env::outer)) (hl:s.heap.FunFrames base (env::outer)) (hf:env.frame=some L) (he:s.heap.get? e=some oe) (hc:oe.cls=.ref C/\oe.dict=none) (hd:oe.data=.fields vs) (h1:vs[1]?=some .none)
  (h:∀ h' T,Chg (frs (env::outer)) [e] s.heap h'->s.heap.get? T=none->Fly h' e T C->Q () { s with heap:=h' }):
  Θ M A (dO (.ref e) env) (fun _ s'=>Θ M A (fQ (.ref e) none) Q E s') E s:=by unfold dO;simp only [hf];refine ε (Ϥ he hd h1 ?_);rw [if_neg (by decide)];exact WP hfr hl hf he hc hd (bB.mp h1).1 h
theorem ZX (hfr:A.frames=some (env::outer)) (hl:s.heap.FunFrames base (env::outer)) (hf:env.frame=some L) (F:Fly s.heap e T C)
  (h:∀ h' T',Chg (frs (env::outer)) [e,T] s.heap h'->s.heap.get? T'=none->Fly h' e T' C->Q () { s with heap:=h' }):
  Θ M A (dO (.ref e) env) (fun _ s'=>Θ M A (fQ (.ref e) none) Q E s') E s:=by
 obtain ⟨⟨oe,vs,he,hc,hd,h1⟩,ne,⟨oT,ts,hT,dT,h3⟩⟩:=F;unfold dO;simp only [hf];refine ε (Ϥ he hd h1 ?_);rw [if_pos (show (Ε T != Ϙ)=true from by simp)];refine ε (Ϥ hT dT h3 ?_);rw [if_neg (show ¬ ((Ϙ==d8 L)=true) from by simp [d8])];refine ε (dh hT dT (bB.mp h3).1 ?_);have other:∀ b,b≠T->(s.heap.update T (aR (·.setIfInBounds 3 Ϙ))).get? b=s.heap.get? b:=fun b q=>Ϸ _ _ (bA q)
 refine WP (s:={ s with heap:=s.heap.update T (aR (·.setIfInBounds 3 Ϙ)) }) hfr (hl.of_keeps fun b o q n=>⟨o,(other b fun z=>?_).trans q,rfl⟩) hf ((other e (bA ne)).trans he) hc hd (bB.mp h1).1 fun h' T' c n F=>h h' T' ?_ ?_ F
 ·rw [z,hT] at q;cases q;exact n ts dT
 ·exact ((Chg.upd _).mono fun b q=>by rw [Μ.mp q];exact η _ θ).trans (c.mono fun b q=>by rw [Μ.mp q];exact θ)
 ·by_cases z:T'=T
  ·subst z;have q:=bj (aR (·.setIfInBounds 3 Ϙ)) hT (cA (aZ dT _));have n':(s.heap.update T' (aR (·.setIfInBounds 3 Ϙ))).get? T'=none:=n;rw [q] at n';cases n'
  ·exact (other T' z).symm.trans n
end
theorem yo.there {P:Τ}{w:ϙ}{H:Hp}{h:Heap}{a:Addr}{o:HO}(x:yo P w H h a o):∃ ob,h.get? a=some ob:=by
 cases o with
 | lst xs=>obtain ⟨_,_,_,_,e⟩:=x;exact ⟨_,e⟩
 | tup xs=>obtain ⟨_,_,_,ob,e,_⟩:=x;exact ⟨_,e⟩
 | dK kvs=>obtain ⟨_,_,_,_,o,_,_,e,_⟩:=x;exact ⟨_,e⟩
 | dT kvs=>obtain ⟨_,_,_,_,o,_,_,e,_⟩:=x;exact ⟨_,e⟩
 | set S n=>obtain ⟨o,_,_,_,e,_⟩:=x;exact ⟨_,e⟩
 | ins C dx fs=>obtain ⟨_,_,_,e,_⟩:=x;exact ⟨_,e⟩
 | own y=>obtain ⟨_,e⟩:=x;exact ⟨_,e⟩
 | xd fs=>obtain ⟨_,⟨_,_,_,e,_⟩,_⟩:=x;exact ⟨_,e⟩
 | rng lo hi=>obtain ⟨_,_,_,e⟩:=x;exact ⟨_,e⟩
 | frz ob u=>obtain ⟨e,_⟩:=x;exact ⟨_,e⟩
 | tbl ps=>exact ⟨_,(show h.get? a=some _ from x)⟩
 | met f y=>exact ⟨_,(show h.get? a=some _ from x)⟩
 | ext φ=>obtain ⟨_,⟨_,e⟩,_⟩:=x;exact ⟨_,e⟩
theorem HOk.Jq {P:Τ}{w:ϙ}{H:Hp}{h:Heap}{a:Addr}(x:HOk P w H h) (n:h.get? a=none):H a=none:=by
 cases q:H a with
 | none=>rfl
 | some o=>
  obtain ⟨ob,e⟩:=(x a o q).there;rw [n] at e;cases e
theorem HOk.chg {P:Τ}{w:ϙ}{H:Hp}{h h':Heap}{fs ex:List Addr}(x:HOk P w H h) (c:Chg fs ex h h') (hf:∀ b∈fs,H b=none) (hx:∀ b∈ex,H b=none):HOk P w H h':=fun a o e=>
 (x a o e).stay (fun b u hb q=>by
  have hs:∃ v,H b=some v:=by
   rcases hb with rfl | hb
   ·exact ⟨_,e⟩
   ·exact ⟨_,hb⟩
  obtain ⟨v,hv⟩:=hs
  exact c.keep b u q (fun z=>by rw [hf b z] at hv;cases hv) fun z=>by rw [hx b z] at hv;cases hv) (fun _ q=>q) fun _ _ q=>q
theorem Un.chg {fs fs' ex:List Addr}{H H':Hp}{h h1 h2:Heap}(u:Un fs [] H H' h h1) (c:Chg fs' ex h1 h2) (hx:∀ b∈ex,h.get? b=none) (hf:∀ b∈fs',b∈fs\/h.get? b=none):Un fs [] H H' h h2:=by
 have nx:∀ b o,h.get? b=some o->b ∉ ex:=fun b o e z=>by rw [hx b z] at e;cases e
 refine ⟨fun b o e n hb z=>c.keep b o (u.keep b o e n hb z) (fun q=>(hf b q).elim hb fun w=>by rw [w] at e;cases e) (nx b o e),fun b o e n hb z=>?_,u.free,fun b o e z=>?_,u.tups,u.frzs,u.tbls⟩
 ·obtain ⟨sl,e1⟩:=u.slot b o e n hb z;obtain ⟨sl',e2⟩:=c.slot b _ e1 (nx b o e);exact ⟨sl',e2⟩
 ·obtain ⟨o',e1⟩:=u.there b o e z;obtain ⟨sl,e2⟩:=c.slot b o' e1 (nx b o e);exact ⟨_,e2⟩
def CX1 (P:Τ) (w:ϙ):CXT:=fun outer H s E e s'=>∃ (ea T C:Addr) (H':Hp),e=.ref ea/\Fly s'.heap ea T C/\(s.heap.get? ea=none/\s.heap.get? T=none)/\(H' ea=none/\H' T=none)/\s'.os=s.os/\dC s'.gens/\Un (frs outer) [] H H' s.heap s'.heap/\HOk P w H' s'.heap/\E e (some C) H'
section
variable {X:Cx}{pj:List (Addr×Obj)}{σ:St}{H:Hp}{s:ν}{E E':XK}{W:VSP}
theorem yJ {fs:List Addr}{H H':Hp}{h h':Heap}{b:Addr}(u:Un fs [] H H' h h') (n:h'.get? b=none):h.get? b=none:=by
 cases q:h.get? b with
 | none=>rfl
 | some o=>
  obtain ⟨o',e⟩:=u.there b o q (by simp);rw [n] at e;cases e
theorem J9 (hf:X.env.frame=some X.env.locals):frs (X.env::X.outer)=X.env.locals::X.fs:=by unfold frs;rw [bJ,hf];rfl
theorem J8 (I:Inv X pj σ H s) (hf:X.env.frame=some X.env.locals):∀ b∈frs (X.env::X.outer),b∈X.fs\/X.sy.heap.get? b=none:=fun b hb=>by
 rw [J9 hf] at hb;rcases χ.mp hb with rfl | hb
 ·exact .inr (dY I.ok.above)
 ·exact .inl hb
theorem leave_new {h':Heap}{ea C:Addr}{args:List δ}(hs:X.stack=X.env::X.outer) (hf:X.env.frame=some X.env.locals) (hex:X.ex=[]) (I:Inv X pj σ H s) (m:dZ s.heap h' ea (.ref C) args) (hE:E (.ref ea) (some C) H):
  Θ (Ξ X.prog X.w) X.A (leaving X.env (.ref ea)) (fun _ s''=>CX1 X.prog X.w X.outer X.Hz X.sy E (.ref ea) s'') W { s with heap:=h' }:=by
 have u0:Un X.fs [] X.Hz H X.sy.heap s.heap:=by have:=I.base;rw [hex] at this;exact this
 obtain ⟨t,he,nt,ht⟩:=m.there;have fr:=I.stack;rw [hs] at fr;have st:=I.ok.frames;rw [hs] at st;have back:∀ b,h'.get? b=none->s.heap.get? b=none:=fun b n=>by
  cases q:s.heap.get? b with
  | none=>rfl
  | some o=>rw [m.keeps b o q] at n;cases n
 unfold leaving;refine ε (Vn (base:=X.base) (C:=C) st (fr.of_keeps fun b o q _=>⟨o,m.keeps b o q,rfl⟩) hf he ⟨rfl,rfl⟩ rfl rfl fun h2 T c nT F=>?_);have nT':=back T nT;refine ⟨ea,T,C,H,rfl,F,⟨yJ u0 m.new,yJ u0 nT'⟩,⟨I.hok.Jq m.new,I.hok.Jq nT'⟩,I.os,I.bare,?_,?_,hE⟩
 ·refine (u0.trans (Un.kept m.keeps)).chg c (fun b hb=>?_) (J8 I hf);rw [Μ.mp hb];exact yJ u0 m.new
 ·refine (I.hok.kept m.keeps).chg c (fun b hb=>?_) fun b hb=>?_
  ·rw [<- hs] at hb;exact I.uW b hb
  ·rw [Μ.mp hb];exact I.hok.Jq m.new
theorem Inv.thrown {e:δ}{s':ν}(I:Inv X pj σ H s) (c:CX1 X.prog X.w X.stack H s E e s'):∃ (ea T C:Addr) (H':Hp),e=.ref ea/\Fly s'.heap ea T C/\(s.heap.get? ea=none/\s.heap.get? T=none)/\(H' ea=none/\H' T=none)/\Un (frs X.stack) [] H H' s.heap s'.heap/\Inv X pj σ H' s'/\E e (some C) H':=by obtain ⟨ea,T,C,H',e1,F,n1,n2,os,bare,un,hok,h⟩:=c;exact ⟨ea,T,C,H',e1,F,n1,n2,un,I.call' os un hok bare (fun b z=>absurd z (by simp)),h⟩
theorem Vt {e:δ}{s':ν}(hs:X.stack=X.env::X.outer) (hf:X.env.frame=some X.env.locals) (hex:X.ex=[]) (I:Inv X pj σ H s) (cx:CX1 X.prog X.w X.stack H s E' e s') (hE:∀ C H',E' e C H'->E e C H'):
  Θ (Ξ X.prog X.w) X.A (leaving X.env e) (fun _ s''=>CX1 X.prog X.w X.outer X.Hz X.sy E e s'') W s':=by
 obtain ⟨ea,T,C,H',rfl,F,n1,n2,un,J,h⟩:=I.thrown cx;have u0:Un X.fs [] X.Hz H X.sy.heap s.heap:=by have:=I.base;rw [hex] at this;exact this
 have u1:Un X.fs [] X.Hz H' X.sy.heap s'.heap:=by have:=J.base;rw [hex] at this;exact this
 have fr:=J.stack;rw [hs] at fr;have st:=I.ok.frames;rw [hs] at st;unfold leaving;refine ε (ZX (base:=X.base) (C:=C) st fr hf F fun h2 T' c nT F'=>?_);refine ⟨ea,T',C,H',rfl,F',⟨yJ u0 n1.1,yJ u1 nT⟩,⟨n2.1,J.hok.Jq nT⟩,J.os,J.bare,?_,?_,hE _ _ h⟩
 ·refine u1.chg c (fun b hb=>?_) (J8 J hf);rcases χ.mp hb with rfl | hb
  ·exact yJ u0 n1.1
  ·rw [Μ.mp hb];exact yJ u0 n1.2
 ·refine J.hok.chg c (fun b hb=>?_) fun b hb=>?_
  ·rw [<- hs] at hb;exact J.uW b hb
  ·rcases χ.mp hb with rfl | hb
   ·exact n2.1
   ·rw [Μ.mp hb];exact n2.2
theorem Jp {e:δ}{s':ν}{R:Unit->ν->Prop}(hs:X.stack=X.env::X.outer) (hf:X.env.frame=some X.env.locals) (I:Inv X pj σ H s) (cx:CX1 X.prog X.w X.stack H s E e s')
  (k:∀ (ea T C:Addr) (H':Hp) (h2:Heap),e=.ref ea->Fly h2 ea T C->s.heap.get? ea=none->s.heap.get? T=none->H' ea=none->H' T=none->Inv X pj σ H' { s' with heap:=h2 }->E e (some C) H'->R () { s' with heap:=h2 }):
  Θ (Ξ X.prog X.w) X.A (dO e X.env) (fun _ s2=>Θ (Ξ X.prog X.w) X.A (fQ e none) R W s2) W s':=by
 obtain ⟨ea,T,C,H',rfl,F,n1,n2,un,J,h⟩:=I.thrown cx;have fr:=J.stack;rw [hs] at fr;have st:=I.ok.frames;rw [hs] at st;refine ZX (base:=X.base) (C:=C) st fr hf F fun h2 T' c nT F'=>?_
 have un2:Un (frs X.stack) [] H H' s.heap h2:=by
  refine un.chg c (fun b hb=>?_) fun b hb=>.inl (by rw [hs];exact hb)
  rcases χ.mp hb with rfl | hb
  ·exact n1.1
  ·rw [Μ.mp hb];exact n1.2
 have hok2:HOk X.prog X.w H' h2:=by
  refine J.hok.chg c (fun b hb=>?_) fun b hb=>?_
  ·rw [<- hs] at hb;exact J.uW b hb
  ·rcases χ.mp hb with rfl | hb
   ·exact n2.1
   ·rw [Μ.mp hb];exact n2.2
 have hT:s.heap.get? T'=none:=by
  cases q:s.heap.get? T' with
  | none=>rfl
  | some o=>
   obtain ⟨o',e'⟩:=un.there T' o q (by simp);have nT':s'.heap.get? T'=none:=nT;rw [nT'] at e';cases e'
 exact k ea T' C H' h2 rfl F' n1.1 hT n2.1 (J.hok.Jq nT) (I.call' (s':={ s' with heap:=h2 }) (J.os.trans I.os.symm) un2 hok2 J.bare (fun b z=>absurd z (by simp))) h
end
open PySem PySem.Spec PySem.W PyProof.Rows
structure XCls (K:Frag) (C:Addr):Prop where
 ga:findIn K (.ref C) "__getattribute__"=some (some (.builtin "BaseException.__getattribute__"))
 gr:findIn K (.ref C) "__getattr__"=some none
 cl:findIn K (.ref C) "__class__"=some (some (.builtin "object.__class__"))
 mb:mroIn K C (.type "BaseException")=some true
 mo:mroIn K C (.type "object")=some true
 it:(clsIn K C).isSome=true
section
variable {prog:Τ}{w:ϙ}{A:Ϗ}{E:VSP}{h:Heap}{g:Array GenState}{d:Drawn}{t:Nat}{os:OsState}{a:Addr}{o:Obj}{K:Frag}{C:Addr}
theorem W4 {tk:Tok}{Q:PySem.Fin->ν->Prop}(X:K.In h) (c:XCls K C) (I:W.InstAt h a o C none) (hq:Q (.done (.ret (.ref C))) ⟨h,g,d,t,os⟩):
  Θ (Ξ prog w) A (Ϛ.«object.__getattribute__» ⟨[.ref a,.str "__class__" tk],[]⟩) Q E ⟨h,g,d,t,os⟩:=by
 have hx:=I.at_;have hc:=I.cls;have f5:=F.typeOf_object_class;have f6:=F.slot_gs_get.lookup;have f7:=F.slot_gs_set.lookup;have hT5:(⟨h,g,d,t,os⟩:ν).TypeIs (.builtin "object.__class__") "getset_descriptor":=F.typeOf_object_class
 repeat (any_goals (first | assumption | (with_reducible refine gR hx ?_;rw [hc]) | with_reducible refine (lY (M:=Ξ prog w) X c.cl).at ?_ | wp_step))
 refine W.class_get (od:=none) X I c.mo ?_
 repeat (any_goals (first | assumption | wp_step))
theorem W5 {M:Model}{nameV:δ}{Q:Unit->ν->Prop}(X:K.In h) (c:XCls K C) (I:W.InstAt h a o C none) (hq:Q () ⟨h,g,d,t,os⟩):Θ M A (checkBuiltinCall "BaseException.__getattribute__" ⟨[.ref a,nameV],[]⟩) Q E ⟨h,g,d,t,os⟩:=by
 have hk:builtinKind "BaseException.__getattribute__"=some .slot:=by decide +kernel
 have hsplit:splitId "BaseException.__getattribute__"=some ("BaseException","__getattribute__"):=by decide +kernel
 have ha:=F.args_bexc_ga (.ref a) nameV;have hx:=I.at_;have hc:=I.cls;simp only [checkBuiltinCall,hk,hsplit];refine ε ?_
 ·unfold isInstance
  repeat (first | (with_reducible refine gR hx ?_;rw [hc]) | with_reducible refine (looks_mroIn (M:=M) X c.mb).at ?_ | wp_step)
  exact hq
theorem zbO {tk:Tok}{Q:VSP}(X:K.In h) (c:XCls K C) (I:W.InstAt h a o C none) (hq:Q (.ref C) ⟨h,g,d,t,os⟩):Θ (Ξ prog w) A (getAttrBy (.ref a) (.str "__class__" tk) false) Q E ⟨h,g,d,t,os⟩:=by
 have FB:=F.attr_ValueError;have f3:=FB.ga.bind (.ref a);have hx:=I.at_;have hc:=I.cls;have hx2:(eQ "BaseException.__getattribute__"==eQ "object.__getattribute__")=false:=by decide +kernel
 have hx1:(onTheHeap (Ε C)&&eQ "BaseException.__getattribute__"==eQ "object.__getattribute__")=false:=by rw [hx2];rfl
 repeat (any_goals (first | assumption | (with_reducible refine gR hx ?_;rw [hc]) | with_reducible refine (lY (M:=Ξ prog w) X c.ga).at ?_ | with_reducible refine (lY (M:=Ξ prog w) X c.gr).at ?_ | wp_step))
 refine codeAny_call_builtin FB.ga.plain F.entry_bexc_ga (W5 X c I (W4 X c I ?_))
 repeat (any_goals (first | assumption | wp_step))
theorem V1 {Q:Option δ->ν->Prop}(X:K.In h) (c:XCls K C) (I:W.InstAt h a o C none) (hq:Q (some (.ref C)) ⟨h,g,d,t+1,os⟩):Θ (Ξ prog w) A (getAttr? (.ref a) "__class__") Q E ⟨h,g,d,t,os⟩:=by
 unfold getAttr? getAttrBy?
 repeat (any_goals (first | assumption | with_reducible apply zbO X c I | wp_step))
set_option tactic.hygienic true in
theorem Wx (c:XCls K C):W.KitX K (.ref a) (.ref C) (fun h=>W.InstAt h a o C none) where
 ty:=fun _ _ _ I=>I.type
 it:=fun _ _ X _=>by
  obtain ⟨cd,hcD⟩:=bH.mp c.it;unfold clsIn at hcD;split at hcD
  ·rename_i c' d' cd' sl' ho
   intro A' Q' E' s' k q;unfold isType loadHead;exact ε (wpAny_loadPart (k _ _ (X _ _ ho)) (π q))
  ·cases hcD
 ne:=fun h tp dd its n sl X htp=>by
  obtain ⟨cd,hcD⟩:=bH.mp c.it;refine aP.mpr fun q=>?_
  have e:C=tp:=Ε.inj (beq_iff_eq.mp q);subst e;unfold clsIn at hcD;split at hcD
  ·rename_i c' d' cd' sl' ho
   have z:=(X _ _ ho).symm.trans htp;cases z
  ·cases hcD
 ca:=fun {_ _ _ _ _ s} X I k=>by obtain ⟨h,g,d,t,os⟩:=s;exact V1 X c I k
end
section
variable {X:Cx}{pj:List (Addr×Obj)}{σ σ':St}{H:Hp}{s:ν}{x:Str}{i:Nat}{ea C:Addr}{oe:Obj}
theorem Inv.locs {h':Heap}{m':Str->Option δ}{t':Nat}(I:Inv X pj σ H s) (hn:h'.Ns X.env.locals m') (hs:Ϯ X.env.locals s.heap h') (hl:σ'.length=σ.length)
  (hm:∀ (i:Nat) (x:Str) (v:V),X.N[i]?=some x->σ'[i]?=some (some v)->Vis X.env.scope x->∃ u,RelV v u/\Look X.env s.heap m' x u):Inv X pj σ' H { s with heap:=h',toks:=t' }:=by
 obtain ⟨m,hn0,_⟩:=id I.loc;obtain ⟨oL,_,_,hoL,_⟩:=id hn0;have ab:∀ b o,X.sy.heap.get? b=some o->b≠X.env.locals:=fun b o e=>ϔ (Ψ (Δ e) I.ok.above)
 have ky:∀ b o,X.sy.heap.get? b=some o->h'.get? b=s.heap.get? b:=fun b o e=>hs.2 b (ab b o e)
 refine ⟨I.ok,I.os,I.bare,⟨fun b o e n hb hx=>(ky b o e).trans (I.base.keep b o e n hb hx),fun b o e n hb hx=>?_,I.base.free,fun b o e hx=>?_,I.base.tups,I.base.frzs,I.base.tbls⟩,⟨m',hn,fun i x v e1 e2 e3=>?_⟩,fun y c e=>?_,I.free,I.freeC,fun p hp=>?_,fun b ob e=>?_,hl.trans I.len⟩
 ·obtain ⟨sl,e1⟩:=I.base.slot b o e n hb hx;exact ⟨sl,(ky b o e).trans e1⟩
 ·obtain ⟨o',e1⟩:=I.base.there b o e hx;exact ⟨o',(ky b o e).trans e1⟩
 ·obtain ⟨u,r,q⟩:=hm i x v e1 e2 e3;refine ⟨u,r,?_⟩;rcases q with q | ⟨k,c,e,z⟩
  ·exact .inl q
  ·exact .inr ⟨k,c,e,z.sameBut hs (I.cne x c e)⟩
 ·obtain ⟨w',z⟩:=I.cell y c e;exact ⟨w',z.sameBut hs (I.cne y c e)⟩
 ·obtain ⟨e,n,ne,nf,d⟩:=I.pin p hp;exact ⟨(hs.2 p.1 ne).trans e,n,ne,nf,d⟩
 ·refine (I.hok b ob e).stay (fun c w' hc q=>(hs.2 c ?_).trans q) (fun _ q=>q) fun _ _ q=>q
  rintro rfl;rcases hc with rfl | hc
  ·rw [I.free] at e;cases e
  ·rw [I.free] at hc;cases hc
theorem zdm {M:Model}{A:Ϗ}{E:VSP}{pos:Pos}{Q:Unit->ν->Prop}(I:Inv X pj σ H s) (hN:X.N.Nodup) (hi:X.N[i]?=some x) (hk:X.env.kindOf x=some .local)
  (h:∀ s',Inv X pj (σ.set i none) H s'->Q () s'):Θ M A (do bindName X.env x .none;unbindBehindTheSuite X.env x pos) Q E s:=by
 have hk':X.env.scope.names.lookup x=some .local:=hk;have hp:(X.env.scope.kind==.class||(X.env.scope.kind==.module&&X.env.locals != X.env.globals))=false:=by rw [I.ok.kind];rfl
 refine ε (lA ?_);obtain ⟨m,hn,hl⟩:=id I.loc;refine wpAny_storeName_local hk hn (fun h1 hn1 hs1=>?_) hp;unfold unbindBehindTheSuite;refine cM ?_;unfold unbindName;refine ε (wpAny_point (ε ?_));unfold deleteName;simp only [hk,hp];rw [if_neg (by decide)];refine ε (wpAny_nsDel_keeps hn1 fun h2 v hn2 hs2=>?_);simp only [if_true,lH,iU,ϣ,if_false];refine π (wpAny_point (h _ ?_));refine I.locs hn2 (hs1.trans hs2) (by rw [ϥ]) fun j y v' e1 e2 e3=>?_
 by_cases hj:j=i
 ·subst hj;by_cases q:j < σ.length
  ·rw [Κ q] at e2;cases e2
  ·rw [lE (by rw [ϥ];omega)] at e2;cases e2
 ·rw [υ (bA hj)] at e2;have hy:y≠x:=fun e=>hj (qK hN e1 (e ▸ hi))
  obtain ⟨u',r',q⟩:=hl j y v' e1 e2 e3;refine ⟨u',r',?_⟩;rcases q with ⟨k,e⟩ | q
  ·exact .inl ⟨k,by simp [hy,e]⟩
  ·exact .inr q
noncomputable def Cx.hnd (X:Cx) (ea:Addr) (oe:Obj):Cx:={ X with A:=X.A.mark (some (.ref ea)),calm:=false,pn:=(ea,oe)::X.pn,xe:=fun _ _=>False }
theorem Inv.hnd (I:Inv X pj σ H s) (h1:s.heap.get? ea=some oe) (h2:H ea=none) (h3:ea≠X.env.locals) (h4:ea ∉ X.fs) (h5:∀ v,oe.data≠.cell v):Inv (X.hnd ea oe) pj σ H s:=
 ⟨⟨I.ok.mod,I.ok.kind,I.ok.glob,I.ok.blt,I.ok.above,I.ok.inj,I.ok.has,I.ok.cab,(fun z=>nomatch z),I.ok.frames,I.ok.stk,I.ok.exf,I.ok.bs,I.ok.bsz,I.ok.noex,I.ok.exfs,I.ok.funs,I.ok.frf⟩,I.os,I.bare,I.base,I.loc,I.cell,I.free,I.freeC,
  fun p hp=>by
   rcases χ.mp hp with rfl | hp
   ·exact ⟨h1,h2,h3,h4,h5⟩
   ·exact I.pin p hp,I.hok,I.len⟩
theorem Inv.zgT (ok:X.Ok) (I:Inv (X.hnd ea oe) pj σ H s):Inv X pj σ H s:=
 ⟨ok,I.os,I.bare,I.base,I.loc,I.cell,I.free,I.freeC,fun p hp=>I.pin p (η _ hp),I.hok,I.len⟩
theorem zay {k:V}{u:δ}{b:Bool}(c:XCls X.K C) (hc:oe.cls=.ref C) (hd:oe.dict=none) (hn:notCls oe=true) (r:RelV k u) (hu:∀ u',RelV k u'->u'=u) (hk:kitOne X.K (.ref C) u=some b):yp (X.hnd ea oe) (.builtin "isinstance") (fun xs H Q=>xs=[.ref ea,k]/\Q (.bl b) H):=by
 intro pj s σ H xs us Q I rv ⟨e,q⟩;subst e;cases rv with
 | cons r1 rv=>
  cases rv with
  | cons r2 rv=>
   cases rv;cases (show _=Ε ea from r1);cases hu _ r2;have p:=(I.pin (ea,oe) θ).1;exact kia_one (K:=X.K) (Wx (o:=oe) c) (show X.K.In s.heap from I.kIn) ⟨p,hc,hn,by rw [hd];trivial⟩ hk (fun z=>nomatch z) fun tk=>⟨.bl b,H,I.tok tk,rfl,q⟩
end
section
variable {X:Cx}{pj:List (Addr×Obj)}{σ:St}{H:Hp}{s:ν}{C:Addr}{bmB:List δ}
set_option tactic.hygienic true in
theorem zdf {K:Frag}{h:Heap}{newId:String}(X:K.In h) (q:excIn K C bmB newId=true):∃ bm N nm q bs hdct sn sub ab col dd k0 k1 k2 k3 k5 mN,h.get? C=some (excClassObj nm q C N bs bm hdct sn sub ab col dd k0 k1 k2 k3 k5 newId)/\h.Ns N mN/\mN "__init__"=none/\OwnTail h bmB bm:=by
 unfold excIn at q;split at q
 ·rename_i dd cd sl ho
  split at q
  ·rename_i C' bm k0 k1 k2 k3 n k5 hm hs
   simp only [γ,beq_iff_eq,bx] at q;obtain ⟨⟨⟨⟨⟨rfl,rfl⟩,hdel⟩,ht⟩,hok⟩,hni⟩:=q;obtain ⟨nm,bs,mro,ns,qn,hd,sn,sub,ab,col,del⟩:=cd;dsimp only at hm hdel hok hni;subst hm hdel;have hsl:sl=#[k0,k1,k2,k3,some (.builtin n),k5]:=by obtain ⟨l⟩:=sl;simp only at hs;rw [hs]
   subst hsl;exact ⟨bm,ns,nm,qn,bs,hd,sn,sub,ab,col,dd,k0,k1,k2,k3,k5,_,X _ _ ho,.of_isNs (isNs_of_in X hok),nsMap_none_of_in X hok hni,tail_of_in X ht⟩
  ·cases q
 ·cases q
theorem QC {x msg:Str}{j:Nat}{np cp p pos:Pos}{Q:Flow->ν->Prop}(I:Inv X pj σ H s) (hc:X.calm=true) (hg:Gl X x) (hm:X.mg x=some (.ref C)) (hd:(x==("__debug__":Str))=false) (q:excIn X.K C veB "ValueError.__new__"=true)
  (h:∀ s1 h' ea args,Inv X pj σ H s1->dZ s1.heap h' ea (.ref C) args->X.xe (.ref ea) { s1 with heap:=h' }):
  Θ (Ξ X.prog X.w) X.A (exec (.Raise (some (.Call (.Name x np) [.Constant (.str msg) j p] [] cp)) none pos) X.env) Q X.xe s:=by
 obtain ⟨bm,N,nm,q,bs,hdct,sn,sub,ab,col,dd,k0,k1,k2,k3,k5,mN,hC,hN,hni,T⟩:=zdf I.ok.mod.kin q;have FB:=F.excBase_ValueError;refine wpAny_Raise_call_subT (C:=C) (nm:=nm) (q:=q) (N:=N) (bs:=bs) (bm:=bm) (hdct:=hdct) (sn:=sn) (sub:=sub) (ab:=ab) (col:=col) (dd:=dd) (k0:=k0) (k1:=k1) (k2:=k2) (k3:=k3) (k5:=k5) FB (mN:=mN) (T.hasType FB.hasBase) (I.ok.hd hc) rfl hni (wM I hg hm ⟨rfl,?_⟩ hd);have hp:PA X [.Constant (.str msg) j p] _:=zZ Ja xM;refine lF (thn (hp cp pj s σ H (fun xs H'=>H'=H/\xs.length=1) I ⟨rfl,rfl⟩) fun vs s2 ⟨xs,H2,I2,r,e,hx⟩=>?_);subst e;have hl:vs.length<=sizeLine:=by rw [<- r.length,hx];decide
 exact ⟨rfl,hl,I2.bk _ _ hC,hN.keeps I2.bk,T.keeps I2.bk,fun h' e m=>h s2 h' e vs I2 m⟩
end
end L2
namespace EV
open PySem PySem.Spec PyProof.Rows L2
structure KCls (Γ:Gm) (tb:List (List Nat)) (c:Nat) (C:Addr):Prop where
 ca:Γ.ca c=some C
 ex:W.excIn Γ.K C veB "ValueError.__new__"=true
 xc:XCls Γ.K C
 sub:∀ k Ck,Γ.ca k=some Ck->W.kitOne Γ.K (.ref C) (.ref Ck)=some (subT tb c k)
 ve:W.kitOne Γ.K (.ref C) (.type "ValueError")=some true
 em:∀ k Ck,Γ.ca k=some Ck->W.exmOne Γ.K (.ref C) (.ref Ck)=some (subT tb c k)
structure FnI (Γ:Gm) (B:Tb) (cf:Nat->Nat->Sp) (k:Nat) (P:Τ) (w:ϙ) (K:W.Frag) (mg:Str->Option δ) (base:Heap) (f:Nat) (x:Str):Prop where
 ex:∃ (a:Addr) (fd:aG) (ps:List Str),Γ.fa f=some a/\(dotted x=false->mg x=some (.ref a))/\W.keepIn K (.ref a)=true/\Binds K fd ps []/\B.pars[f]?=some ps/\FnOk P w K mg base (CX1 P w) (2*k) a fd ps (cf f ps.length) /\
  ∀ (ks:List Str) (perm:List Nat),perm.length=ps.length->(∀ i∈perm,i < ks.length)->perm.map (fun i=>ks.getD i "")=ps->ks.length=ps.length->(f,ks,perm)∈B.kws ->
   Qg K fd ps ks (fun us ws=>if ws.length=ks.length then us++perm.map fun i=>ws.getD i .none else []) (fun vs zs=>if zs.length=ks.length then vs++perm.map fun i=>zs.getD i .non else [])
structure ObOk (Γ:Gm) (o:Ob) (C:Addr):Prop where
 ca:caOf Γ.K o.name=some C
 cl:Cls Γ.K C
 fl:∀ f∈o.fields,vP Γ.K C f
 mt:∀ (m:Str) (i:Nat),(m,i)∈o.meths->∃ a,Γ.fa i=some a/\Meth Γ.K C m a
 mkk:∀ i:Nat,(("__init__":Str),i)∈o.meths->∃ a,Γ.fa i=some a/\Mk Γ.K C a
structure XOk (Γ:Gm) (B:Tb) (cf:Nat->Nat->Sp) (k:Nat) (X:Cx) (c:Cc):Prop where
 hK:X.K=Γ.K
 nm:X.env.scope.names=c.names
 kd:X.env.scope.kind=.function
 N:X.N=c.N
 nd:X.N.Nodup
 fn:c.fn=true->∀ x,X.fn x=true
 calm:X.calm=true
 room:Room (2*k+1) X.A
 cells:∀ x,(c.names.lookup x=some .cell\/c.names.lookup x=some .free)->∃ a,X.env.cells.lookup x=some a
 fns:∀ (f:Nat) (x:Str),B.fns[f]?=some x->FnI Γ B cf k X.prog X.w X.K X.mg X.base f x
 bare:∀ x∈B.bare,X.mg x=none
 consts:∀ (n:Nat) (x:Str) (d:D),B.consts[n]?=some (x,d)->∃ u v,X.mg x=some u/\RelV v u/\∀ g,Has Γ g d v
 fa:∀ (f:Nat) (a:Addr),Γ.fa f=some a->∃ x,B.fns[f]?=some x
 cl:∀ (c:Nat) (x:Str) (l:List Nat),B.cls[c]?=some (x,l)->∃ C,X.mg x=some (.ref C)/\KCls Γ (B.cls.map (·.2)) c C
 ca:∀ (c:Nat) (C:Addr),Γ.ca c=some C->∃ x l,B.cls[c]?=some (x,l)
 ob:∀ o∈B.obs,∃ C,X.mg o.name=some (.ref C)/\ObOk Γ o C
section
variable {Γ:Gm}{B:Tb}{cf:Nat->Nat->Sp}{k:Nat}{X:Cx}{c:Cc}
theorem XOk.rm (x:XOk Γ B cf k X c):Room (2*k) X.A:=x.room.mono (Nat.le_succ _)
theorem XOk.u61 (x:XOk Γ B cf k X c):X.A.units+61 < ϰ:=by have:=x.room.un;lia
theorem XOk.u1 (x:XOk Γ B cf k X c):X.A.units+1 < ϰ:=by have:=x.room.un;lia
theorem XOk.vis (x:XOk Γ B cf k X c) {n:Str}(h:visK (c.names.lookup n)=true):Vis X.env.scope n:=by
 unfold Vis;rw [x.nm];cases q:c.names.lookup n with
 | none=>rw [q] at h;cases h
 | some kd=>rw [q] at h;cases kd <;> first | exact .inl rfl | exact .inr (.inl rfl) | exact .inr (.inr rfl) | cases h
theorem XOk.glob (x:XOk Γ B cf k X c) {n:Str}(h:gloK (c.names.lookup n)=true):Gl X n:=by
 unfold Gl fP;rw [x.nm];cases q:c.names.lookup n with
 | none=>rw [q] at h;cases h
 | some kd=>rw [q] at h;cases kd <;> first | rfl | cases h
theorem zQ {n:Str}(h:zL n=true):(n==("__debug__":Str))=false/\(n==("__classdict__":Str))=false/\n≠("__name__":Str):=by unfold zL at h;simp only [γ,bx] at h;exact ⟨h.1.1.1,h.1.1.2,by simpa using h.1.2⟩
theorem uw {n:Str}(h:zL n=true):dotted n=false:=by unfold zL at h;simp only [γ,bx] at h;exact h.2
theorem XOk.pg (x:XOk Γ B cf k X c) {i:Nat}{n:Str}{pos:Pos}(hi:c.N[i]?=some n) (hs:stoK c n=true):PG X (.Name n pos) (Yh i):=by
 have hi':X.N[i]?=some n:=by rw [x.N];exact hi
 unfold stoK at hs;cases q:c.names.lookup n with
 | none=>rw [q] at hs;cases hs
 | some kd=>
  rw [q] at hs;have q':X.env.scope.names.lookup n=some kd:=by rw [x.nm];exact q
  cases kd with
  | «local»=>exact U8 x.nd hi' (.inl q') (.inr q')
  | cell=>exact U8 x.nd hi' (.inr q') (.inl (x.fn hs n))
  | _=>cases hs
def Yg:List Nat->TGs
 | []=>gNil
 | i::is=>zal (Yh i) (Yg is)
theorem U5 (x:XOk Γ B cf k X c):∀ {es:List Expr}{ns:List Str}{is:List Nat},EV.namesOf es=some ns->ns.length=is.length->((is.zip ns).all fun p=>c.N[p.1]?==some p.2&&stoK c p.2)=true ->
  PGs X es (Yg is)/\(aD es X.env).length=is.length/\(aD es X.env).findIdx? (·.1)=none
 | [],ns,is,h,hl,_=>by
  cases (show some []=some ns from h);cases is with
  | nil=>exact ⟨U6,rfl,rfl⟩
  | cons=>simp at hl
 | e::es,ns,is,h,hl,ha=>by
  cases e with
  | Name n pos=>
   simp only [EV.namesOf,ι] at h;obtain ⟨r,h1,h2⟩:=h;subst h2;cases is with
   | nil=>simp at hl
   | cons i is=>
    simp only [aH,bL,γ] at ha;obtain ⟨⟨ha1,ha2⟩,ha3⟩:=ha;obtain ⟨g1,g2,g3⟩:=U5 x h1 (by simpa using hl) ha3;refine ⟨qI (x.pg (eq_of_beq ha1) ha2) g1,?_,?_⟩
    ·show (_::aD es X.env).length=_
     rw [ϊ,g2,ϊ]
    ·show List.findIdx? _ ((false,_)::aD es X.env)=none
     rw [List.findIdx?_cons];simp [g3]
  | _=>simp [EV.namesOf] at h
def tgOf (K:W.Frag):T->TG
 | .nst i is=>gTup K 2 (zal (Yh i) (zal (gTup K is.length (Yg is)) gNil))
 | .one i=>Yh i
 | .tup is=>gTup K is.length (Yg is)
theorem W2 {x:Expr}{q:Str×Pos×List Expr×Nat×Pos×Nat×Pos}(h:zaM x=some q):x=.Tuple [.Name q.1 q.2.1,.Tuple q.2.2.1 q.2.2.2.1 q.2.2.2.2.1] q.2.2.2.2.2.1 q.2.2.2.2.2.2:=by
 cases x with
 | Tuple es k p=>
  cases es with
  | nil=>cases h
  | cons a r=>
   cases a with
   | Name n pos=>
    cases r with
    | nil=>cases h
    | cons b z=>
     cases z with
     | cons _ _=>cases h
     | nil=>
      cases b with
      | Tuple fs k2 p2=>cases h;rfl
      | _=>cases h
   | _=>cases h
 | _=>cases h
theorem zb1 (x:XOk Γ B cf k X c) {t:T}{tgt:Expr}(hn:qT t=true) (h:chkT c t tgt=true):PG X tgt (tgOf X.K t):=by
  cases t with
  | nst i is=>
    unfold chkT at h;rw [if_pos hn] at h;cases e:zaM tgt with
    | none=>rw [e] at h;cases h
    | some q=>
      rw [e] at h
      have h:(match namesOf q.2.2.1 with
        | some ns=>(q.1::ns).length==(i::is).length&&((i::is).zip (q.1::ns)).all fun p=>c.N[p.1]?==some p.2&&stoK c p.2
        | none=>false)=true:=h
      rw [W2 e];cases en:namesOf q.2.2.1 with
      | none=>rw [en] at h;cases h
      | some ns=>
        rw [en] at h;simp only [aH,bL,γ] at h;obtain ⟨h1,⟨h2,h3⟩,h4⟩:=h;have h1:ns.length=is.length:=by simpa using h1
        obtain ⟨g1,g2,g3⟩:=U5 x en h1 h4;exact U7 x.calm (qI (x.pg (eq_of_beq h2) h3) (qI (U7 x.calm g1 g2 g3) U6)) rfl rfl
  | _=>cases hn
theorem Zt (x:XOk Γ B cf k X c) {t:T}{tgt:Expr}(h:chkT c t tgt=true):PG X tgt (tgOf X.K t):=by
 by_cases hnst:qT t=true
 ·exact zb1 x hnst h
 unfold chkT at h;rw [if_neg hnst] at h;rw [γ] at h;obtain ⟨h1,h2⟩:=h;cases tgt with
 | Name n pos=>
  cases t with
  | one i=>
   simp only [xm,tIs,aH,List.zip_nil_right,bL,List.all_nil,fj,γ] at h2;exact x.pg (eq_of_beq h2.2.1) h2.2.2
  | tup is=>cases h1
  | nst _ _=>exact absurd rfl hnst
 | Tuple es kk pos=>
  cases t with
  | one i=>cases h1
  | nst _ _=>exact absurd rfl hnst
  | tup is=>
   simp only [xm,tIs] at h2;cases hn:EV.namesOf es with
   | none=>rw [hn] at h2;cases h2
   | some ns=>
    rw [hn] at h2;simp only [γ,beq_iff_eq] at h2;obtain ⟨g1,g2,g3⟩:=U5 x hn h2.1 (by simpa using h2.2);exact U7 x.calm g1 g2 g3
 | _=>simp [xm] at h2
noncomputable def wB (cells:List (Str×Addr)):List (Str×ϩ)->List (Str×Addr)->List (Str×Addr)
 | [],acc=>acc
 | (n,kd)::r,acc=>if (kd==ak)=true then wB cells r ((n,(cells.lookup n).getD 0)::acc) else wB cells r acc
theorem jB {env:Env}:∀ (names:List (Str×ϩ)) (acc:List (Str×Addr)),(∀ y∈names,y.2=.free->∃ a,env.cells.lookup y.1=some a) ->
  (forIn names acc fun x cs=>match x with
   | (name,kind)=>if (kind==ak)=true then do let a <- cellOf env name;pure (c7 ((name,a)::cs)) else pure (c7 cs):Sem (List (Str×Addr)))=pure (wB env.cells names acc)
 | [],acc,_=>rfl
 | (n,kd)::r,acc,h=>by
  rw [gP];by_cases hk:(kd==ak)=true
  ·obtain ⟨a,ha⟩:=h (n,kd) θ (eq_of_beq hk);have ha:env.cells.lookup n=some a:=ha;simp only [hk,if_true];have:cellOf env n=pure a:=by unfold cellOf;rw [ha]
   rw [this];simp only [pure_bind];rw [jB r _ fun y hy=>h y (η _ hy)];simp [wB,hk,ha]
  ·simp only [hk];simp only [ϣ,if_false,pure_bind];rw [jB r _ fun y hy=>h y (η _ hy)];simp [wB,hk]
theorem zds {env:Env}{sc:b7}(h:∀ y∈sc.names,y.2=.free->∃ a,env.cells.lookup y.1=some a):closureFor sc env=pure (wB env.cells sc.names []):=by
 unfold closureFor;have:=jB sc.names [] h
 first
  | exact (congrArg (fun z=>z >>= pure) this).trans (by simp)
  | (simp only [bind_pure];exact this)
  | exact this
theorem yX {cells:List (Str×Addr)}{y:Str}:∀ (names:List (Str×ϩ)) (acc:List (Str×Addr)),(∀ z∈names,z.2=.free->∃ a,cells.lookup z.1=some a)->(∀ c,acc.lookup y=some c->cells.lookup y=some c) ->
  (∀ c,(wB cells names acc).lookup y=some c->cells.lookup y=some c)/\((y,ak)∈names\/(∃ c,acc.lookup y=some c)->∃ c,(wB cells names acc).lookup y=some c)
 | [],acc,_,h=>⟨h,fun q=>by
  rcases q with q | q
  ·cases q
  ·exact q⟩
 | (n,kd)::r,acc,hh,h=>by
  by_cases hk:(kd==ak)=true
  ·obtain ⟨a,ha⟩:=hh (n,kd) θ (eq_of_beq hk);have ha:cells.lookup n=some a:=ha;have e:wB cells ((n,kd)::r) acc=wB cells r ((n,a)::acc):=by simp [wB,hk,ha]
   rw [e]
   obtain ⟨i1,i2⟩:=yX (y:=y) r ((n,a)::acc) (fun z hz=>hh z (η _ hz)) (fun c q=>by
    rw [ϟ] at q;cases hy:y==n with
    | true=>rw [hy] at q;cases q;rw [eq_of_beq hy];exact ha
    | false=>rw [hy] at q;exact h c q)
   refine ⟨i1,fun q=>i2 ?_⟩;rcases q with q | ⟨c,q⟩
   ·rcases χ.mp q with q | q
    ·right;cases q;exact ⟨a,List.lookup_cons_self⟩
    ·exact .inl q
   ·right;rw [ϟ];cases hy:y==n with
    | true=>exact ⟨a,rfl⟩
    | false=>exact ⟨c,q⟩
  ·have e:wB cells ((n,kd)::r) acc=wB cells r acc:=by simp [wB,hk]
   rw [e];obtain ⟨i1,i2⟩:=yX (y:=y) r acc (fun z hz=>hh z (η _ hz)) h;refine ⟨i1,fun q=>i2 ?_⟩;rcases q with q | q
   ·rcases χ.mp q with q | q
    ·cases q;exact absurd rfl hk
    ·exact .inl q
   ·exact .inr q
theorem vh (x:XOk Γ B cf k X c) (sc:b7):(fU sc X.env).names=relK c.names sc.names:=by
 unfold fU relK;simp only [x.kd,fP,x.nm]
 congr 1
 funext y
 have e:(iY==iY)=true:=rfl;rw [e,fj]
theorem Zz {names l:List (Str×ϩ)}{y:Str}{kd:ϩ}(hc:∀ z∈l,z.2≠.cell):(relK names l).lookup y=some kd->kd=.cell\/kd=.free->(y,ak)∈l:=by
 intro h hk
 induction l with
 | nil=>cases h
 | cons p l ih=>
  obtain ⟨n,q⟩:=p;have hq:=hc (n,q) θ;show (y,ak)∈(n,q)::l
  unfold relK at h;rw [ϳ] at h;by_cases e:(q==ak&&names.lookup n==some .cell)=true
  ·simp only [e,if_true] at h;rw [ϟ] at h;cases hy:y==n with
   | true=>
    rw [γ] at e;rw [eq_of_beq hy,eq_of_beq e.1];exact θ
   | false=>
    rw [hy] at h;exact η _ (ih (fun z hz=>hc z (η _ hz)) h)
  ·simp only [e,ϣ,if_false] at h;rw [ϟ] at h;cases hy:y==n with
   | true=>
    rw [hy] at h;cases h;rcases hk with hk | hk
    ·exact absurd hk hq
    ·rw [hk,eq_of_beq hy];exact θ
   | false=>
    rw [hy] at h;exact η _ (ih (fun z hz=>hc z (η _ hz)) h)
theorem Uy {names l:List (Str×ϩ)}{y:Str}(h:l.lookup y=some .free):(relK names l).lookup y=some .cell\/(relK names l).lookup y=some .free:=by
 induction l with
 | nil=>cases h
 | cons p l ih=>
  obtain ⟨n,q⟩:=p;rw [ϟ] at h;unfold relK;rw [ϳ];cases hy:y==n with
  | true=>
   rw [hy] at h;cases h;by_cases e:(ak==ak&&names.lookup n==some .cell)=true
   ·left;simp only [e,if_true,ϟ,hy]
   ·right;simp only [e,ϣ,if_false,ϟ,hy]
  | false=>
   rw [hy] at h;have:=ih h;by_cases e:(q==ak&&names.lookup n==some .cell)=true
   ·simp only [e,if_true,ϟ,hy];exact this
   ·simp only [e,ϣ,if_false,ϟ,hy];exact this
theorem WT (x:XOk Γ B cf k X c) {sc:b7}{js:List Nat}{xs:List Str}(h:chkS c sc js=true):VJ X sc (wB X.env.cells sc.names []) xs js:=by
 unfold chkS at h;simp only [γ,Ρ,beq_iff_eq] at h;obtain ⟨⟨⟨⟨⟨h1,h2⟩,h3⟩,h4⟩,h5⟩,h6⟩:=h;have hc:∀ y∈sc.names,y.2≠.cell:=fun y hy=>by simpa using h2 y hy
 have hcell:∀ y∈sc.names,y.2=.free->∃ a,X.env.cells.lookup y.1=some a:=fun y hy hf=>by have:=h5 y hy;rw [hf] at this;refine x.cells y.1 ?_;simpa using this
 refine ⟨zds hcell,hc,h1,fun y hy hl=>?_,fun y c' q=>(yX sc.names [] hcell (fun _ q=>by cases q)).1 c' q,fun y hy=>?_,fun j hj y hy=>?_,fun j hj=>?_⟩
 ·have:=h3 y hy;rw [hl] at this;simpa using this
 ·rw [vh x] at hy;refine (yX sc.names [] hcell (fun _ q=>by cases q)).2 (.inl ?_);rcases hy with q | q
  ·exact Zz hc q (.inl rfl)
  ·exact Zz hc q (.inr rfl)
 ·have q:=h6 j hj;rw [x.N] at hy;rw [hy] at q;simp only [γ,dN,beq_iff_eq] at q;refine ⟨?_,?_,(yX sc.names [] hcell (fun _ q=>by cases q)).2 (.inl (aB q.2)),?_⟩
  ·unfold Vis;rw [x.nm];rcases q.1 with z | z
   ·exact .inr (.inl z)
   ·exact .inr (.inr z)
  ·unfold fP;rw [x.nm];rcases q.1 with z | z <;> rw [z] <;> decide
  ·rw [vh x];exact Uy q.2
 ·have q:=h6 j hj;cases e:c.N[j]? with
  | none=>rw [e] at q;cases q
  | some y=>rw [x.N];exact (ο.mp e).1
theorem V0 (x:XOk Γ B cf k X c) {sc:b7}{js:List Nat}{xs:List Str}(h:chkS c sc js=true) (hn:(xs++js.map (fun j=>c.N.getD j "")).Nodup) (C:Addr) (s3:ν) (H3:Hp) (fp:List Addr):
  XOk Γ B cf k (cxG X sc (wB X.env.cells sc.names []) xs js C s3 H3 fp) (inner c sc xs js):=by
 have K:=WT (xs:=xs) x h;refine ⟨x.hK,vh x sc,K.kind,by show xs++js.map (fun j=>X.N.getD j "")=_;rw [x.N];rfl,by show (xs++js.map (fun j=>X.N.getD j "")).Nodup;rw [x.N];exact hn,fun q=>absurd (show false=true from q) Ν,x.calm,x.room,fun y hy=>?_,x.fns,x.bare,x.consts,x.fa,x.cl,x.ca,x.ob⟩;have hy':(fU sc X.env).names.lookup y=some .cell\/(fU sc X.env).names.lookup y=some .free:=by rw [vh x];exact hy
 exact K.has y hy'
end
end EV
namespace L2
open PySem PySem.Spec PyProof.Rows
section
variable {X:Cx}{tg:Expr}
theorem zfX {pj:List (Addr×Obj)}{σ:St}{H:Hp}{s:ν}{R:It->Hp->Prop}{a:Addr}(I:Inv X pj σ H s) (h:((∃ xs,SqL X.K H a xs)/\R (Itl X.K a) H)\/((∃ xs,SqT X.K H a xs)/\R (Itt X.K a) H)):Θ (Ξ X.prog X.w) X.A (pyIter (.ref a)) (PIE X pj σ tg R) X.xe s:=by
 have fp:∀ b∈[s.heap.objs.size],FpOk X pj H b:=fun b hb=>by rw [Μ.mp hb];exact I.fpOk (Η _) (I.hok.fresh (Η _))
 rcases h with ⟨⟨xs,hq⟩,q⟩ | ⟨⟨xs,hq⟩,q⟩
 ·obtain ⟨its,rv,p,hz⟩:=I.list hq;exact gQ p.isList ⟨s.heap.objs.size,[s.heap.objs.size],_,_,H,rfl,I.kept (t':=s.toks) fun b o e=>ξ _ e,V9 a _,⟨_,Χ _ rfl,rfl,rfl⟩,fp,q⟩
 ·obtain ⟨its,rv,p,hz⟩:=I.tuple hq;exact gF (show s.heap.IsTuple a its.toArray from p) ⟨s.heap.objs.size,[s.heap.objs.size],_,_,H,rfl,I.kept (t':=s.toks) fun b o e=>ξ _ e,W9 a _,⟨_,Χ _ rfl,rfl,rfl⟩,fp,q⟩
noncomputable def Its (x:Str):It:=⟨fun i _=>i < x.cps.size,fun i H v H'=>H'=H/\∃ c,x.cps[i]?=some c/\v=.str ⟨#[c]⟩,fun i _=>x.cps.size<=i⟩
theorem V8 {P:Τ}{w:ϙ}{K:W.Frag}{tg:Expr}(x:Str) (t:Tok) (it:Addr):Turn P w K tg (Its x) [it] it (fun i h=>h.IsStrIter it "str_ascii_iterator" x t i) where
 mem:=by simp
 obj:=fun i h st b hb=>by
  have e:b=it:=by simpa using hb
  subst e;obtain ⟨o,e,c,d⟩:=st;exact ⟨o,e,fun v z=>by rw [d] at z;cases z⟩
 keep:=fun i h h' st k=>by obtain ⟨o,e,r⟩:=st;exact ⟨o,k it (by simp) o e,r⟩
 item:=by
  intro X hP hw hK hc i pj s σ H E I hf st hg;subst hP hw hK;obtain ⟨f0,f1,f2,f3,f4,f5⟩:=hf it (by simp);refine (Walks.strAscii (prog:=X.prog) (w:=X.w) (I.ok.hd hc) it x t).item i s _ _ hg st fun v h' tk hv st' kk=>?_
  obtain ⟨c,u,h1,rfl⟩:=hv;have I1:Inv X pj σ H { s with heap:=h',toks:=tk }:=I.turned (fun b o hb e=>kk b o (by simpa using hb) e) f0 f1 f3 f4 f5;obtain ⟨o,e,c1,d⟩:=id st';exact ⟨_,rfl,J7 (s:={ s with heap:=h',toks:=tk }) e c1 d (by decide) ⟨.str ⟨#[c]⟩,H,I1,⟨u,rfl⟩,⟨rfl,c,h1,rfl⟩,st',fun b hb=>(hf b hb).1⟩⟩
 done:=by intro X hP hw hK hc i pj s σ H E I hf st hg;subst hP hw hK;obtain ⟨f0,f1,f2,f3,f4,f5⟩:=hf it (by simp);have hg:x.cps.size<=i:=hg;exact wpAny_pyNext_ascii_end (I.ok.hd hc) st (by simp [hg]) fun h' eb=>⟨rfl,I.turned (t':=s.toks) (fun b o hb e=>eb b o hb e) f0 f1 f3 f4 f5⟩
 self:=fun _ _ _ _ _ st h=>wpAny_pyIter_striter_ascii st h
theorem V7 {P:Τ}{w:ϙ}{K:W.Frag}{tg:Expr}(x:Str) (t:Tok) (it:Addr):Turn P w K tg (Its x) [it] it (fun i h=>h.IsStrIter it "str_iterator" x t i) where
 mem:=by simp
 obj:=fun i h st b hb=>by
  have e:b=it:=by simpa using hb
  subst e;obtain ⟨o,e,c,d⟩:=st;exact ⟨o,e,fun v z=>by rw [d] at z;cases z⟩
 keep:=fun i h h' st k=>by obtain ⟨o,e,r⟩:=st;exact ⟨o,k it (by simp) o e,r⟩
 item:=by
  intro X hP hw hK hc i pj s σ H E I hf st hg;subst hP hw hK;obtain ⟨f0,f1,f2,f3,f4,f5⟩:=hf it (by simp);refine (Walks.strWide (prog:=X.prog) (w:=X.w) (I.ok.hd hc) it x t).item i s _ _ hg st fun v h' tk hv st' kk=>?_
  obtain ⟨c,u,h1,rfl⟩:=hv;have I1:Inv X pj σ H { s with heap:=h',toks:=tk }:=I.turned (fun b o hb e=>kk b o (by simpa using hb) e) f0 f1 f3 f4 f5;obtain ⟨o,e,c1,d⟩:=id st';exact ⟨_,rfl,J7 (s:={ s with heap:=h',toks:=tk }) e c1 d (by decide) ⟨.str ⟨#[c]⟩,H,I1,⟨u,rfl⟩,⟨rfl,c,h1,rfl⟩,st',fun b hb=>(hf b hb).1⟩⟩
 done:=by intro X hP hw hK hc i pj s σ H E I hf st hg;subst hP hw hK;obtain ⟨f0,f1,f2,f3,f4,f5⟩:=hf it (by simp);have hg:x.cps.size<=i:=hg;exact wpAny_pyNext_wide_end (I.ok.hd hc) st (by simp [hg]) fun h' eb=>⟨rfl,I.turned (t':=s.toks) (fun b o hb e=>eb b o hb e) f0 f1 f3 f4 f5⟩
 self:=fun _ _ _ _ _ st h=>wpAny_pyIter_striter_wide st h
theorem zc4 {pj:List (Addr×Obj)}{σ:St}{H:Hp}{s:ν}{R:It->Hp->Prop}{z:Str}{t:Tok}(I:Inv X pj σ H s) (h:R (Its z) H):Θ (Ξ X.prog X.w) X.A (pyIter (.str z t)) (PIE X pj σ tg R) X.xe s:=by
 have fp:∀ b∈[s.heap.objs.size],FpOk X pj H b:=fun b hb=>by rw [Μ.mp hb];exact I.fpOk (Η _) (I.hok.fresh (Η _))
 cases ha:z.cps.all (· < 128) with
 | false=>exact wpAny_pyIter_wide ha ⟨s.heap.objs.size,[s.heap.objs.size],_,_,H,rfl,I.kept (t':=s.toks) fun b o e=>ξ _ e,V7 z t _,⟨_,Χ _ rfl,rfl,rfl⟩,fp,h⟩
 | true=>exact wpAny_pyIter_ascii ha ⟨s.heap.objs.size,[s.heap.objs.size],_,_,H,rfl,I.kept (t':=s.toks) fun b o e=>ξ _ e,V8 z t _,⟨_,Χ _ rfl,rfl,rfl⟩,fp,h⟩
theorem ze3 {l:Expr}{tl:TE}(hl:PE X l tl):PI X tg l (fun σ H R=>tl σ H fun x H1=>(∃ a,x=.ref a/\(((∃ xs,SqL X.K H1 a xs)/\R (Itl X.K a) H1)\/((∃ xs,SqT X.K H1 a xs)/\R (Itt X.K a) H1)))\/∃ z,x=.str z/\R (Its z) H1):=by
 intro pj s σ H R I h;refine thn (hl pj s σ H _ I h) fun v s1 ⟨x,H1,I1,r1,q⟩=>?_
 rcases q with ⟨a,e,q⟩ | ⟨z,e,q⟩
 ·subst e;cases r1;exact zfX I1 q
 ·subst e;obtain ⟨t,rfl⟩:=r1;exact zc4 I1 q
end
end L2
namespace EV
open PySem PySem.Spec PyProof.Rows L2
section
variable {Γ:Gm}{Hz:Hp}{ρ:List Slot}
theorem zz {α:Type}{l:List α}{i j:Nat}{a b:α}:(l.set i a)[j]?=some b->(i=j/\i < l.length/\b=a)\/(i≠j/\l[j]?=some b):=by
 intro h;by_cases e:i=j
 ·subst e;by_cases hi:i < l.length
  ·rw [Κ hi] at h;cases h;exact .inl ⟨rfl,hi,rfl⟩
  ·rw [iR (by lia)] at h;rw [lE (by lia)] at h;cases h
 ·rw [υ e] at h;exact .inr ⟨e,h⟩
theorem EnvO.zcb {H:Hp}{g:G}{σ:L2.St}{i:Nat}{d:D}{v:V}(env:EnvO Γ Hz H g ρ σ) (h:Has Γ g d v):EnvO Γ Hz H g (ρ.set i (.sh d)) (σ.set i (some v)):=by
 have hl:=env.len;refine ⟨by simp [hl],fun j e q=>?_,fun j e q=>?_,fun j j' e e' a q1 q2 q3 q4=>?_⟩
 ·rcases zz q with ⟨rfl,h1,h2⟩ | ⟨h1,h2⟩
  ·cases h2;exact ⟨v,Κ (by lia),h⟩
  ·obtain ⟨u,e1,e2⟩:=env.sh j e h2;exact ⟨u,by rw [υ h1];exact e1,e2⟩
 ·rcases zz q with ⟨rfl,h1,h2⟩ | ⟨h1,h2⟩
  ·cases h2
  ·obtain ⟨a,e1,e2⟩:=env.ow j e h2;exact ⟨a,by rw [υ h1];exact e1,e2⟩
 ·rcases zz q1 with ⟨rfl,h1,h2⟩ | ⟨h1,h2⟩
  ·cases h2
  ·rcases zz q2 with ⟨rfl,h3,h4⟩ | ⟨h3,h4⟩
   ·cases h4
   ·rw [υ h1] at q3;rw [υ h3] at q4;exact env.inj j j' e e' a h2 h4 q3 q4
theorem EnvO.zg6 {H:Hp}{g:G}{σ:L2.St}{i:Nat}{d:D}{a:Addr}(env:EnvO Γ Hz H g ρ σ) (h0:Hz a=none) (hr:g.R a=none) (ha:a ∉ g.α) (hc:zY Γ H g a d) (hi:wA d=false)
  (ne:∀ (j:Nat) (d':D),ρ[j]?=some (.ow d')->j≠i->σ[j]?≠some (some (.ref a))):EnvO Γ Hz H g (ρ.set i (.ow d)) (σ.set i (some (.ref a))):=by
 have hl:=env.len;refine ⟨by simp [hl],fun j e q=>?_,fun j e q=>?_,fun j j' e e' b q1 q2 q3 q4=>?_⟩
 ·rcases zz q with ⟨rfl,h1,h2⟩ | ⟨h1,h2⟩
  ·cases h2
  ·obtain ⟨u,e1,e2⟩:=env.sh j e h2;exact ⟨u,by rw [υ h1];exact e1,e2⟩
 ·rcases zz q with ⟨rfl,h1,h2⟩ | ⟨h1,h2⟩
  ·cases h2;exact ⟨a,Κ (by lia),h0,hr,ha,hc,hi⟩
  ·obtain ⟨b,e1,e2⟩:=env.ow j e h2;exact ⟨b,by rw [υ h1];exact e1,e2⟩
 ·rcases zz q1 with ⟨rfl,h1,h2⟩ | ⟨h1,h2⟩
  ·rcases zz q2 with ⟨rfl,h3,h4⟩ | ⟨h3,h4⟩
   ·rfl
   ·rw [Κ (by lia)] at q3;cases q3;rw [υ h3] at q4;exact absurd q4 (ne j' e' h4 (bA h3))
  ·rcases zz q2 with ⟨rfl,h3,h4⟩ | ⟨h3,h4⟩
   ·rw [Κ (by lia)] at q4;cases q4;rw [υ h1] at q3;exact absurd q3 (ne j e h2 (bA h1))
   ·rw [υ h1] at q3;rw [υ h3] at q4;exact env.inj j j' e e' b h2 h4 q3 q4
theorem jy {Q:L2.St->Hp->Prop}{H:Hp}{g:G}:∀ {is:List Nat}{ds:List D}{vs:List V}{ρ:List Slot}{σ:L2.St},is.length=ds.length->Hass Γ g ds vs->EnvO Γ Hz H g ρ σ ->
  (∀ σ',EnvO Γ Hz H g ((is.zip ds).foldl (fun r p=>r.set p.1 (.sh p.2)) ρ) σ'->Q σ' H)->Yg is vs σ H Q
 | [],[],vs,ρ,σ,_,h,env,q=>by cases (show vs=[] from h);exact ⟨rfl,q σ env⟩
 | i::is,d::ds,vs,ρ,σ,hl,⟨v,r,e,hd,hr⟩,env,q=>by subst e;exact ⟨v,r,rfl,jy (by simpa using hl) hr (env.zcb hd) q⟩
 | [],_::_,_,_,_,hl,_,_,_=>by simp at hl
 | _::_,[],_,_,_,hl,_,_,_=>by simp at hl
set_option tactic.hygienic true in
theorem qx {K:W.Frag}{t:T}{ρ':List Slot}{H:Hp}{g:G}{σ:L2.St}{d:D}{fr:Bool}{v:V}{Q:L2.St->Hp->Prop}(hb:yR ρ t (d,fr)=some ρ') (env:EnvO Γ Hz H g ρ σ) (sr:Same g.R H) (vo:VOk Γ Hz d fr v H g)
  (ne:fr=true->∀ (i:Nat) (d:D),ρ[i]?=some (.ow d)->σ[i]?≠some (some v)) (q:∀ σ',EnvO Γ Hz H g ρ' σ'->Q σ' H):tgOf K t v σ H Q:=by
 cases t with
 | one i=>
  simp only [yR] at hb;split at hb
  ·rename_i hc
   rw [γ] at hc;have hi:wA d=false:=by simpa using hc.2
   cases hb;refine q _ ?_;cases fr with
   | false=>exact env.zcb vo
   | true=>
    obtain ⟨a,e,h0,hr,ha,hcell⟩:=(show ∃ a,v=.ref a/\Hz a=none/\g.R a=none/\a ∉ g.α/\zY Γ H g a d from vo)
    subst e;exact env.zg6 h0 hr ha hcell hi fun j d' h _=>ne rfl j d' h
  ·cases hb
 | tup is=>
  cases d with
  | tup ds=>
   simp only [yR] at hb;split at hb
   ·rename_i hc
    cases hb;have hv:Has Γ g (.tup ds) v:=by
     cases fr with
     | false=>exact vo
     | true=>obtain ⟨_,_,_,_,_,hc⟩:=(show ∃ a,v=.ref a/\Hz a=none/\g.R a=none/\a ∉ g.α/\zY Γ H g a (.tup ds) from vo);exact hc.elim
    obtain ⟨a,vs,rfl,h1,h2⟩:=hv;exact ⟨a,vs,rfl,SqT.of (sr _ _ h1),by rw [h2.len,hc.1],jy hc.1 h2 env q⟩
   ·cases hb
  | _=>simp [yR] at hb
 | nst i is=>
  have hb:((nst2 d).bind fun p=>if i < ρ.length/\is.length=p.2.length/\is.Nodup/\is.all (· < ρ.length) then some ((is.zip p.2).foldl (fun r p=>r.set p.1 (.sh p.2)) (ρ.set i (.sh p.1))) else none)=some ρ':=by cases d <;> exact hb
  cases e:nst2 d with
  | none=>rw [e] at hb;cases hb
  | some p=>
   rw [e] at hb;obtain ⟨y,ds⟩:=p;have ed:=zcP e;subst ed;have hb:(if i < ρ.length/\is.length=ds.length/\is.Nodup/\is.all (· < ρ.length) then some ((is.zip ds).foldl (fun r p=>r.set p.1 (.sh p.2)) (ρ.set i (.sh y))) else none)=some ρ':=hb;by_cases hc:i < ρ.length/\is.length=ds.length/\is.Nodup/\is.all (· < ρ.length)
   ·rw [if_pos hc] at hb;cases hb;have hv:Has Γ g (.tup [y,.tup ds]) v:=by
     cases fr with
     | false=>exact vo
     | true=>obtain ⟨_,_,_,_,_,hc⟩:=(show ∃ a,v=.ref a/\Hz a=none/\g.R a=none/\a ∉ g.α/\zY Γ H g a (.tup [y,.tup ds]) from vo);exact hc.elim
    obtain ⟨a,vs,rfl,h1,h2⟩:=hv;obtain ⟨u,u2,rfl,h3,h4⟩:=h2.two;obtain ⟨b,ws,rfl,h5,h6⟩:=h4;exact ⟨a,_,rfl,SqT.of (sr _ _ h1),rfl,u,_,rfl,.ref b,[],rfl,b,ws,rfl,SqT.of (sr _ _ h5),by rw [h6.len,hc.2.1],jy hc.2.1 h6 (env.zcb h3) fun σ' env'=>⟨rfl,q σ' env'⟩⟩
   ·rw [if_neg hc] at hb;cases hb
end
structure ItOk (Γ:Gm) (J:It) (l:List D) (g:G):Prop where
 go:∀ (i:Nat) (H:Hp) (g':G),Le g g'->Same g'.R H->i < l.length->J.go i H
 stop:∀ (i:Nat) (H:Hp) (g':G),Le g g'->Same g'.R H->l.length<=i->J.stop i H
 yld:∀ (i:Nat) (H:Hp) (g':G) (S:Store) (z:V) (H':Hp) (d:D),Le g g'->WOk Γ H g' S->l[i]?=some d->J.yld i H z H'->∃ g2,Step H g' H' g2/\Same H H'/\WOk Γ H' g2 S/\Has Γ g2 d z
def TXi (Γ:Gm) (cf:Cf) (e:E):TI:=fun σ H Q=>∃ ρ S W g Hz,wpI cf ρ e W S/\WOk Γ H g S/\EnvO Γ Hz H g ρ σ/\∀ l J H' g' S',Step H g H' g'->WOk Γ H' g' S'->ItOk Γ J l g'->W l S'->Q J H'
def TXf (Γ:Gm) (cf:Cf) (es:List E):TT:=fun σ H Q=>∃ ρ S W g Hz,wpF cf ρ es W S/\WOk Γ H g S/\EnvO Γ Hz H g ρ σ/\∀ b H' g' S',Step H g H' g'->WOk Γ H' g' S'->W b S'->Q b H'
theorem goI {Γ:Gm}{cf:Cf}{σ:L2.St}{H:Hp}{P:Prop}{e:E}{Q} (h:TXi Γ cf e σ H Q) (f:∀ ρ S W g Hz,wpI cf ρ e W S->WOk Γ H g S->EnvO Γ Hz H g ρ σ->(∀ l J H' g' S',Step H g H' g'->WOk Γ H' g' S'->ItOk Γ J l g'->W l S'->Q J H')->P):P:=
 let ⟨ρ,S,V,g,Hz,a,b,c,d⟩:=h;f ρ S V g Hz a b c d
theorem goF {Γ:Gm}{cf:Cf}{σ:L2.St}{H:Hp}{P:Prop}{es:List E}{Q} (h:TXf Γ cf es σ H Q) (f:∀ ρ S W g Hz,wpF cf ρ es W S->WOk Γ H g S->EnvO Γ Hz H g ρ σ->(∀ b H' g' S',Step H g H' g'->WOk Γ H' g' S'->W b S'->Q b H')->P):P:=
 let ⟨ρ,S,V,g,Hz,a,b,c,d⟩:=h;f ρ S V g Hz a b c d
section
variable {X:Cx}{Γ:Gm}{S:Store}{x y z tgt:Expr}{pos p tp:Pos}{cf:Cf}{a b:E}{elts:List Expr}{kk:Nat}
theorem PI.imp {wi wi':TI}(h:PI X tgt x wi) (i:∀ σ H Q,wi' σ H Q->wi σ H Q):PI X tgt x wi':=fun pj s σ H Q I q=>h pj s σ H Q I (i σ H Q q)
theorem zbA {a:Addr}{vs:List V}{l:List D}{g:G}(h:∀ g',Le g g'->∀ H,Same g'.R H->SqL X.K H a vs) (hh:Hass Γ g l vs):ItOk Γ (Itl X.K a) l g where
 go:=fun i H g' le sr hi=>⟨vs,vs[i]'(by rw [hh.len];exact hi),h g' le H sr,by simp [hh.len,hi]⟩
 stop:=fun i H g' le sr hi=>⟨vs,h g' le H sr,by rw [hh.len];exact hi⟩
 yld:=fun i H g' S z H' d le w hd y=>by obtain ⟨e,y⟩:=y;subst e;obtain ⟨v,hv,hd'⟩:=hh.get hd;have e2:=y vs (h g' le _ w.rh);rw [hv] at e2;cases e2;exact ⟨g',Step.refl _ _,Same.refl _,w,hd'.mono le⟩
theorem zbz {a:Addr}{vs:List V}{l:List D}{g:G}(h:∀ g',Le g g'->∀ H,Same g'.R H->SqT X.K H a vs) (hh:Hass Γ g l vs):ItOk Γ (Itt X.K a) l g where
 go:=fun i H g' le sr hi=>⟨vs,vs[i]'(by rw [hh.len];exact hi),h g' le H sr,by simp [hh.len,hi]⟩
 stop:=fun i H g' le sr hi=>⟨vs,h g' le H sr,by rw [hh.len];exact hi⟩
 yld:=fun i H g' S z H' d le w hd y=>by obtain ⟨e,y⟩:=y;subst e;obtain ⟨v,hv,hd'⟩:=hh.get hd;have e2:=y vs (h g' le _ w.rh);rw [hv] at e2;cases e2;exact ⟨g',Step.refl _ _,Same.refl _,w,hd'.mono le⟩
theorem zfW {z:Str}{g:G}:ItOk Γ (Its z) (z.cps.toList.map fun c=>D.str ⟨#[c]⟩) g where
 go:=fun i H g' le sr hi=>by
  show i < z.cps.size
  simpa using hi
 stop:=fun i H g' le sr hi=>by
  show z.cps.size<=i
  simpa using hi
 yld:=fun i H g' S v H' d le w hd y=>by obtain ⟨e,c,e1,e2⟩:=y;subst e e2;refine ⟨g',Step.refl _ _,Same.refl _,w,?_⟩;rw [Υ,Array.getElem?_toList,e1] at hd;cases hd;rfl
theorem zfY {lo:Int}{n:Nat}{g:G}:ItOk Γ (Itr lo n) ((ϛ n).map fun (k:Nat)=>D.int (lo+(k:Int))) g where
 go:=fun i H g' le sr hi=>by
  show i < n
  simpa using hi
 stop:=fun i H g' le sr hi=>by
  show n<=i
  simpa using hi
 yld:=fun i H g' S z H' d le w hd y=>by
  obtain ⟨e,y⟩:=y;subst e y;refine ⟨g',Step.refl _ _,Same.refl _,w,?_⟩;rw [Υ] at hd;cases q:(ϛ n)[i]? with
  | none=>rw [q] at hd;cases hd
  | some j=>
   rw [q] at hd;cases hd;have:=(ο.mp q).2;simp at this;subst this;rfl
theorem zhk (hK:X.K=Γ.K) (h:PE X x (TX Γ cf a)):PI X tgt x (TXi Γ cf (.seq a)):=
 PI.imp (ze3 h) fun σ H Q h0=>goI h0 fun ρ S W g Hz hw w env k=>⟨ρ,S,_,g,Hz,hw,w,env,fun x v H1 g1 S1 st w1 vx h=>by
  obtain ⟨g2,st2,w2,hx,q⟩:=vx.keep st w1 h;obtain ⟨l,el,q⟩:=zV q;generalize x.1=d at *;cases d with
  | lst l'=>
   cases el;obtain ⟨a,vs,e1,h1,h2⟩:=hx;exact .inl ⟨a,e1,.inl ⟨⟨vs,SqL.of (w2.rh _ _ h1)⟩,k _ _ H1 g2 S1 st2 w2 (zbA (fun g3 le H2 sr=>SqL.of (sr _ _ (le.rr _ _ h1))) h2) q⟩⟩
  | tup l'=>
   cases el;obtain ⟨a,vs,e1,h1,h2⟩:=hx;exact .inl ⟨a,e1,.inr ⟨⟨vs,SqT.of (w2.rh _ _ h1)⟩,k _ _ H1 g2 S1 st2 w2 (zbz (fun g3 le H2 sr=>SqT.of (sr _ _ (le.rr _ _ h1))) h2) q⟩⟩
  | scr ns=>
   cases el;obtain ⟨a,e1,h1⟩:=hx;exact .inl ⟨a,e1,.inl ⟨⟨_,by rw [hK];exact w2.rh.seq h1⟩,k _ _ H1 g2 S1 st2 w2 (zbA (fun g3 le H2 sr=>by rw [hK];exact sr.seq (le.rr.seq h1)) Hass.ints) q⟩⟩
  | str z=>
   cases el;exact .inr ⟨z,hx,k _ _ H1 g2 S1 st2 w2 zfW q⟩
  | ktp l'=>
   cases el;obtain ⟨a,vs,e1,h1,h2⟩:=hx;exact .inl ⟨a,e1,.inr ⟨⟨vs,by rw [hK];exact .inr h1⟩,k _ _ H1 g2 S1 st2 w2 (zbz (fun g3 le H2 sr=>by rw [hK];exact .inr h1) h2) q⟩⟩
  | _=>cases el⟩
theorem zez (hg:Gl X "range") (hm:X.mg "range"=none) (hs:notStar x=true) (h:PE X x (TX Γ cf a)):PI X tgt (.Call (.Name "range" p) [x] [] pos) (TXi Γ cf (.rng none a)):=
 PI.imp (U4 hg hm (zZ h xM (zb hs _ _)) (zb hs _ _)) fun σ H Q h0=>goI h0 fun ρ S W g Hz hw w env k=>⟨ρ,S,_,g,Hz,hw,w,env,fun x v H1 g1 S1 st w1 vx h=>by
  obtain ⟨j,e,q⟩:=vx.int h;obtain ⟨hf,q⟩:=xG q;rw [γ] at hf;have h1:j.toNat<=1000000:=of_decide_eq_true hf.1;have h2:-1000000<=j:=of_decide_eq_true hf.2;refine ⟨j,by rw [e],by lia,by lia,k _ _ H1 g1 S1 st w1 ?_ q⟩;have:=zfY (Γ:=Γ) (lo:=0) (n:=(j - 0).toNat) (g:=g1);rw [show (j - 0).toNat=j.toNat by lia] at this;rw [show yC 0 j=(ϛ j.toNat).map fun (k:Nat)=>D.int (0+(k:Int)) by unfold yC;rw [show (j - 0).toNat=j.toNat by lia]]
  exact this⟩
theorem s_fn:PTs X [] (TXf Γ cf []):=fun pj s σ H Q I h0=>goF h0 fun ρ S W g Hz hw w env k=>zcr pj s σ H Q I (k true H g S (Step.refl H g) w hw)
theorem s_f1 (h:PT X x (TB Γ cf a)):PTs X [x] (TXf Γ cf [a]):=fun pj s σ H Q I h0=>goF h0 fun ρ S W g Hz hw w env k=>zcq h pj s σ H Q I ⟨ρ,S,_,g,Hz,hw,w,env,fun x H1 g1 S1 st w1 h=>by
 obtain ⟨b,e,q⟩:=vH h;rw [e]
 exact k b H1 g1 S1 st w1 q⟩
end
theorem WM {α β:Type}{f:α->β}:∀ (l:List (Nat×α)) (r:List β) (i:Nat),(∀ p∈l,p.1≠i)->(l.foldl (fun r p=>r.set p.1 (f p.2)) r)[i]?=r[i]?
 | [],_,_,_=>rfl
 | p::l,r,i,h=>by rw [List.foldl_cons,WM l _ i fun q hq=>h q (η _ hq),υ (h p θ)]
theorem WL {α β:Type}{f:α->β}:∀ (l:List (Nat×α)) (r:List β),(l.foldl (fun r p=>r.set p.1 (f p.2)) r).length=r.length
 | [],_=>rfl
 | p::l,r=>by rw [List.foldl_cons,WL l,ϥ]
theorem VF {ρ ρ':List Slot}{t:T}{d:D}(hn:qT t=false) (h:yR ρ t (d,false)=some ρ'):ρ'.length=ρ.length/\∀ i,i ∉ tIs t->ρ'[i]?=ρ[i]?:=by
 cases t with
 | one j=>
  simp only [yR] at h;split at h
  ·cases h;exact ⟨by simp,fun i hi=>by rw [υ];rintro rfl;exact hi (by simp [tIs])⟩
  ·cases h
 | tup is=>
  cases d with
  | tup ds=>
   simp only [yR] at h;split at h
   ·cases h;refine ⟨WL _ _,fun i hi=>WM _ _ i fun p hp=>?_⟩;rintro rfl;obtain ⟨p1,p2⟩:=p;exact hi (cF hp).1
   ·cases h
  | _=>simp [yR] at h
 | nst _ _=>cases hn
theorem jx {ρ:List Slot}{t:T}{js:List Nat}{i:Nat}{s:Slot}(h:(inn ρ t js)[i]?=some s):s=.no\/(nT t<=i/\∃ j,js[i - nT t]?=some j/\ρ[j]?=some s):=by
 unfold inn at h;by_cases hi:i < nT t
 ·rw [ϖ (by simpa using hi),bW,if_pos hi] at h;cases h;exact .inl rfl
 ·rw [ϒ (by simpa using gK hi),cz,Υ] at h;cases e:js[i - nT t]? with
  | none=>rw [e] at h;cases h
  | some j=>
   rw [e] at h;cases q:ρ[j]? with
   | none=>simp [q] at h;exact .inl h.symm
   | some z=>simp [q] at h;subst h;exact .inr ⟨by lia,j,rfl,q⟩
theorem uA {σ:L2.St}{js:List Nat}{n i j:Nat}{v:V}(hi:n<=i) (hj:js[i - n]?=some j) (h:σ[j]?=some (some v)):(Ι n none++rows σ js)[i]?=some (some v):=by rw [ϒ (by simpa using hi),cz];unfold rows;rw [Υ,hj];simp [ϵ,h]
section
variable {Γ:Gm}{Hz H:Hp}{g:G}{ρ:List Slot}{σ τ:L2.St}{t:T}{js:List Nat}
theorem zdg (env:EnvO Γ Hz H g ρ σ) (hj:js.Nodup):EnvO Γ Hz H g (inn ρ t js) (Ι (nT t) none++rows σ js):=by
 refine ⟨by simp [inn,rows],fun i d e=>?_,fun i d e=>?_,fun i j d e a h1 h2 h3 h4=>?_⟩
 ·rcases jx e with q | ⟨hi,j,e1,e2⟩
  ·cases q
  ·obtain ⟨v,h1,h2⟩:=env.sh j d e2;exact ⟨v,uA hi e1 h1,h2⟩
 ·rcases jx e with q | ⟨hi,j,e1,e2⟩
  ·cases q
  ·obtain ⟨a,h1,h2⟩:=env.ow j d e2;exact ⟨a,uA hi e1 h1,h2⟩
 ·rcases jx h1 with q | ⟨hi,k,e1,e2⟩
  ·cases q
  rcases jx h2 with q | ⟨hi',k',e1',e2'⟩
  ·cases q
  obtain ⟨b,q1,_⟩:=env.ow k d e2;obtain ⟨b',q1',_⟩:=env.ow k' e e2';have z:=uA hi e1 q1;have z':=uA hi' e1' q1';rw [h3] at z;rw [h4] at z';cases z;cases z';have hk:=env.inj k k' d e a e2 e2' q1 q1';subst hk;have:=(my (ο.mp e1).1 hj).mp (e1.trans e1'.symm);lia
theorem WN {ρ':List Slot}{d:D}(hn:qT t=false) (hix:∀ i∈tIs t,i < nT t) (hs:yR (inn ρ t js) t (d,false)=some ρ') (env:EnvO Γ Hz H g ρ' τ):EnvO Γ Hz H g (inn ρ t js) τ:=by
 obtain ⟨h1,h2⟩:=VF hn hs;have key:∀ i s,(inn ρ t js)[i]?=some s->s≠Slot.no->ρ'[i]?=some s:=fun i s e ne=>by
  rw [h2 i fun m=>?_]
  ·exact e
  ·rcases jx e with q | ⟨hi,_⟩
   ·exact ne q
   ·have:=hix i m;lia
 exact ⟨h1.symm.trans env.len,fun i d e=>env.sh i d (key i _ e (by simp)),fun i d e=>env.ow i d (key i _ e (by simp)),fun i j d e a q1 q2 q3 q4=>env.inj i j d e a (key i _ q1 (by simp)) (key j _ q2 (by simp)) q3 q4⟩
end
section
variable {X:Cx}{Γ:Gm}{cf:Cf}{t:T}{js:List Nat}{it elt:E}{ifs:List E}
def zdx (cf:Cf) (ρ:List Slot) (t:T) (js:List Nat) (ifs:List E) (elt:E):D->(Option D->Store->Prop)->Store->Prop:=fun d K S=>opt (yR (inn ρ t js) t (d,false)) fun ρ'=>wpF cf ρ' ifs (fun b S1=>tst b (wpE cf ρ' elt (fun x S2=>keep x fun d=>K (some d) S2) S1) (K none S1)) S
theorem zat {n:Nat}{Qe:Addr->Hp->Prop}{σ:L2.St}{H:Hp}{V:Po}{ρ:List Slot}{S:Store}{g:G}{Hz:Hp}(hn:qT t=false) (hix:∀ i∈tIs t,i < nT t) (ht:nT t=n) (hjs:js.Nodup) (hw:wpE cf ρ (.comp t js it ifs elt) V S) (w:WOk Γ H g S) (env:EnvO Γ Hz H g ρ σ)
  (k:∀ ds Da H' g' S',Step H g H' g'->WOk Γ H' g' S'->VN Γ H (.lst ds,.fr) (.ref Da) H' g'->V (.lst ds,.fr) S'->Qe Da H'):jY n js (TXi Γ cf it) (tgOf X.K t) (TXf Γ cf ifs) (TX Γ cf elt) Qe σ H:=by
 subst ht;refine ⟨ρ,S,_,g,Hz,hw,w,env,fun l J H1 g1 S1 st1 w1 hJ h1 Da hDa=>?_⟩;have h1:uR (zdx cf ρ t js ifs elt) l [] (fun ds S2=>V (.lst ds,.fr) S2) S1:=h1;refine ⟨fun i m ys τ H2=>m=l.length - i/\i<=l.length/\∃ g2 S2 acc,Step H1 g1 H2 g2/\WOk Γ H2 g2 S2/\EnvO Γ (upd Hz Da (.lst [])) H2 g2 (inn ρ t js) τ/\H2 Da=some (.lst ys)/\g2.R Da=none/\Da ∉ g2.α/\Hass Γ g2 acc ys/\fits acc.length=true/\uR (zdx cf ρ t js ifs elt) (l.drop i) acc (fun ds S2=>V (.lst ds,.fr) S2) S2,⟨_,rfl,bF _,g1,S1,[],?_⟩,?_⟩
 ·have st:=(Step.refl H1 g1).xU (o:=.lst []) hDa;have e1:=zj (zdg (t:=t) env hjs) st1;refine ⟨st,w1.laid hDa,zj ⟨e1.len,e1.sh,fun i d e=>?_,e1.inj⟩ st,zy,w1.notR hDa,w1.notA hDa,rfl,rfl,h1⟩;obtain ⟨b,f1,f2,f3,f4,f5,f6⟩:=e1.ow i d e;obtain ⟨o,ho,_⟩:=f5.qU;exact ⟨b,f1,by rw [zm (zA ho hDa)];exact f2,f3,f4,f5,f6⟩
 ·rintro i m ys τ H2 ⟨rfl,hi,g2,S2,acc,st2,w2,env2,hD2,hR2,hA2,hh2,hf2,hr2⟩;by_cases hlt:i < l.length
  ·refine .inr ⟨hJ.go i H2 g2 st2.le w2.rh hlt,fun z H3 hy=>?_⟩;obtain ⟨g3,st3,_,w3,hz⟩:=hJ.yld i H2 g2 S2 z H3 l[i] st2.le w2 (ψ hlt) hy;rw [cT hlt] at hr2;obtain ⟨hD3,hR3,hA3⟩:=st3.kept hD2 hR2 hA2;obtain ⟨ρ',es,hr3⟩:=zV (show opt (yR (inn ρ t js) t (l[i],false)) _ from hr2);refine qx es (zj env2 st3) w3.rh (fr:=false) hz (fun h=>by cases h) fun τ3 env3=>⟨ρ',S2,_,g3,_,hr3,w3,env3,fun b H4 g4 S4 st4 w4 h4=>?_⟩
   obtain ⟨hD4,hR4,hA4⟩:=st4.kept hD3 hR3 hA3;cases b with
   | false=>
    rw [if_neg Ν];exact ⟨l.length - (i+1),by omega,rfl,hlt,g4,S4,acc,(st2.trans st3).trans st4,w4,WN hn hix es (zj env3 st4),hD4,hR4,hA4,hh2.mono (st3.le.trans st4.le),hf2,h4⟩
   | true=>
    rw [if_pos rfl];refine ⟨ρ',S4,_,g4,_,h4,w4,zj env3 st4,fun x v H5 g5 S5 st5 w5 vx h5=>?_⟩;obtain ⟨g6,st6,w6,hx,q⟩:=vx.keep st5 w5 h5;obtain ⟨hf,q⟩:=xG q;obtain ⟨hD5,hR5,hA5⟩:=st6.kept hD4 hR4 hA4;have st7:=(((st2.trans st3).trans st4).trans st6).xU (o:=.lst (ys++[v])) hDa;have env6:=WN hn hix es (zj (zj env3 st4) st6);refine ⟨hD5,by rw [hh2.len];exact zbw hf2,l.length - (i+1),by omega,rfl,hlt,g6,S5,acc++[x.1],st7,w6.xU hR5 hA5,?_,zy,hR5,hA5,(hh2.mono ((st3.le.trans st4.le).trans st6.le)).app (Hass.mk1 hx),by rw [Ο];exact hf,q⟩;refine ⟨env6.len,env6.sh,fun i d e=>?_,env6.inj⟩;obtain ⟨b,f1,f2,f3,f4,f5,f6⟩:=env6.ow i d e;have hb:b≠Da:=by rintro rfl;rw [zy] at f2;cases f2
    exact ⟨b,f1,f2,f3,f4,f5.mono (Le.refl g6) fun o z=>by rw [zm hb];exact z,f6⟩
  ·have e:i=l.length:=by omega
   subst e;refine .inl ⟨hJ.stop _ H2 g2 st2.le w2.rh (Η _),?_⟩;rw [List.drop_length] at hr2;exact k acc Da H2 g2 S2 (st1.trans st2) w2 ⟨Da,rfl,st1.Wq hDa,hR2,hA2,ys,hD2,hh2⟩ hr2
end
theorem Wl:∀ (a b:List D) (i:Nat) (d:D),(pairD a b)[i]?=some d->∃ x y,a[i]?=some x/\b[i]?=some y/\d=.tup [x,y]
 | [],b,i,d,h=>by cases b <;> simp [pairD] at h
 | _::_,[],i,d,h=>by simp [pairD] at h
 | x::a,y::b,0,d,h=>by have h:some (D.tup [x,y])=some d:=h;cases h;exact ⟨x,y,rfl,rfl,rfl⟩
 | x::a,y::b,i+1,d,h=>Wl a b i d (by simpa [pairD] using h)
theorem uE:∀ (a b:List D),(pairD a b).length=min a.length b.length
 | [],b=>by cases b <;> simp [pairD]
 | _::_,[]=>by simp [pairD]
 | x::a,y::b=>by
  have:=uE a b;show (pairD a b).length+1=_
  simp only [ϊ];omega
section
variable {X:Cx}{Γ:Gm}{x y:Expr}{pos p tp:Pos}{cf:Cf}{a b:E}{elts:List Expr}{kk:Nat}
theorem zfV {a b:Addr}{vs us:List V}{l m:List D}{g:G}(h1:∀ g',Le g g'->∀ H,Same g'.R H->SqT X.K H a vs) (h2:∀ g',Le g g'->∀ H,Same g'.R H->SqT X.K H b us) (hh:Hass Γ g l vs) (hm:Hass Γ g m us):ItOk Γ (Itz X.K a b) (pairD l m) g where
 go:=fun i H g' le sr hi=>by rw [uE] at hi;have e1:=hh.len;have e2:=hm.len;exact ⟨vs,us,vs[i]'(by omega),us[i]'(by omega),h1 g' le H sr,h2 g' le H sr,ψ _,ψ _⟩
 stop:=fun i H g' le sr hi=>by rw [uE] at hi;have e1:=hh.len;have e2:=hm.len;exact ⟨vs,us,h1 g' le H sr,h2 g' le H sr,by omega⟩
 yld:=fun i H g' S z H' d le w hd yy=>by obtain ⟨q,y,z,hp,rfl,rfl,hy,hz⟩:=yy;obtain ⟨d1,d2,e1,e2,rfl⟩:=Wl l m i d hd;obtain ⟨v,f1,f2⟩:=hh.get e1;obtain ⟨u,f3,f4⟩:=hm.get e2;have q1:=hy vs (h1 g' le _ w.rh);have q2:=hz us (h2 g' le _ w.rh);rw [f1] at q1;rw [f3] at q2;cases q1;cases q2;have hr:=w.notR hp;refine ⟨g'.put q (.tup [y,z]),(Step.of_same (xq hp) (Le.refl g') (fun _ h=>.inl h) fun _ h=>.inl h).put hr hp,xq hp,(w.laid hp).put zy hr (w.notA hp),?_⟩;exact ⟨q,[y,z],rfl,zy,y,[z],rfl,(f2.mono le).mono (Le.put hr),z,[],rfl,(f4.mono le).mono (Le.put hr),rfl⟩
theorem zg9 (hg:Gl X "zip") (hm:X.mg "zip"=none) (hs:notStar x=true) (hs2:notStar y=true) (ha:PE X x (TX Γ cf a)) (hb:PE X y (TX Γ cf b)):PI X (.Tuple elts kk tp) (.Call (.Name "zip" p) [x,y] [] pos) (TXi Γ cf (.zip a b)):=
 PI.imp (ze2 hg hm rfl (zZ ha (zZ hb xM (zb hs2 _ _)) (zb hs _ _)) (by rw [zb hs,zb hs2];rfl) (zb hs2 _ _)) fun σ H Q h0=>goI h0 fun ρ S W g Hz hw w env k=>⟨ρ,S,_,g,Hz,hw,w,env,fun x v H1 g1 S1 st w1 vx h=>by
  obtain ⟨g2,st2,w2,hx,q⟩:=vx.keep st w1 h;refine ⟨ρ,S1,_,g2,Hz,q,w2,zj env st2,fun y u H3 g3 S3 s3 w3 vy q=>?_⟩;obtain ⟨g4,s4,w4,hy,q⟩:=vy.keep s3 w3 q;obtain ⟨l,el,q⟩:=zV q;have hx:=hx.mono s4.le;generalize x.1=d at *;generalize y.1=e at *;cases d with
  | tup l1=>
   cases e with
   | tup l2=>
    cases el;obtain ⟨a,vs,e1,h1,h2⟩:=hx;obtain ⟨b,us,e2,h3,h4⟩:=hy;exact ⟨a,b,by rw [e1,e2],⟨vs,SqT.of (w4.rh _ _ h1)⟩,⟨us,SqT.of (w4.rh _ _ h3)⟩,k _ _ H3 g4 S3 (st2.trans s4) w4 (zfV (fun g5 le H2 sr=>SqT.of (sr _ _ (le.rr _ _ h1))) (fun g5 le H2 sr=>SqT.of (sr _ _ (le.rr _ _ h3))) h2 h4) q⟩
   | _=>cases el
  | _=>cases el⟩
end
end EV
namespace L2
open PySem PyProof PyProof.Rows PySem.W
variable {X:Cx}{x st:Expr}{te ts:TE}{p2 pos:Pos}
end L2
namespace EV
open PySem PySem.Spec PyProof.Rows L2
def spN (Γ:Gm) (cx:Xp->Cf) (f n:Nat):Sp:=fun vs H Q E=>vs.length=n/\∃ g ds S V ex,WOk Γ H g S/\Hass Γ g ds vs/\cx ex f ds V S/\(∀ x v H' g' S',Step H g H' g'->WOk Γ H' g' S'->VN Γ H x v H' g'->V x S'->Q v H')/\∀ c e C H' g' S',Step H g H' g'->WOk Γ H' g' S'->Γ.ca c=some C->ex c S'->E e (some C) H'
theorem Vk {X:Cx}:jO (CX1 X.prog X.w) X E0:=fun _ _ _ _ _ _ _ ⟨_,_,_,_,_,_,_,_,_,_,_,_,h⟩=>h.elim
def CfN (B:Tb) (cf:Cf):Prop:=∀ f ds V S ps,B.pars[f]?=some ps->cf f ds V S->ds.length=ps.length
section
variable {X:Cx}{Γ:Gm}{B:Tb}{cx:Xp->Cf}{k:Nat}{c:Cc}{x y z:Expr}{pos p:Pos}{a:E}{es:List E}
theorem yf {xs:List Expr}{env:Env}{pos:Pos}(h:∀ x∈xs,notStar x=true):(bK pos (ϐ xs env)).any (·.1)=false:=by
 induction xs with
 | nil=>rfl
 | cons a l ih=>
  rw [zb (h a θ)];show (false||(bK pos (ϐ l env)).any (·.1))=false
  rw [ih fun z hz=>h z (η _ hz)];rfl
set_option tactic.hygienic true in
theorem zdz (b:BI):bu (biS b)=some (biV b):=by
 cases b with
 | isinst q=>cases q <;> decide +kernel
 | _=>decide +kernel
theorem s_call {f:Nat}{n:Str}{xs:List Expr}(hcf:CfN B (cx noX)) (ok:XOk Γ B (spN Γ cx) k X c) (hf:B.fns[f]?=some n) (hdt:dotted n=false) (hg:Gl X n) (hdb:(n==("__debug__":Str))=false) (hs:∀ z∈x::xs,notStar z=true) (h:PA X (x::xs) (TXs Γ (cx noX) es)):PE X (.Call (.Name n p) (x::xs) [] pos) (TX Γ (cx noX) (.call f es)):=by
 obtain ⟨a,fd,ps,h1,h2,h3,h4,h5,h6,_⟩:=(ok.fns f n hf).ex;refine (zcC h6 ok.rm hg (h2 hdt) h3 h4 .nil Vk h hdb (zb (hs x θ) _ _) (yf fun z hz=>hs z (η _ hz))).imp fun σ H Q h0=>goX h0 fun ρ S V g Hz hw w env kk=>⟨ρ,S,_,g,Hz,hw,w,env,fun ds vs H1 g1 S1 st w1 hv hc=>?_⟩
 show spN Γ cx f ps.length (vs++[]) _ _ _
 rw [Ϝ];exact ⟨by rw [hv.len];exact hcf f ds V S1 ps h5 hc,g1,ds,S1,V,noX,w1,hv,hc,fun x v H2 g2 S2 st2 w2 vx q=>kk x v H2 g2 S2 (st.trans st2) w2 (vx.back st) q,fun _ _ _ _ _ _ _ _ _ z=>z.elim⟩
theorem zf6 {d:D}{Q:Nat->Prop}(h:isF d Q):∃ f,d=.fn f/\Q f:=by
 cases d with
 | fn f=>exact ⟨f,rfl,h⟩
 | _=>exact h.elim
theorem QV {n:Str}{xs:List Expr}{te:TE}{t:TA}(he:PE X (.Name n p) te) (ha:PA X (x::xs) t) (hs:ϐ (x::xs) X.env=(false,eval x X.env)::ϐ xs X.env) (hpl:(bK pos (ϐ xs X.env)).any (·.1)=false):
  PE X (.Call (.Name n p) (x::xs) [] pos) (fun σ H Q=>te σ H fun v H1=>∃ f k fd ps sp,v=.ref f/\W.keepIn X.K (.ref f)=true/\FnOk X.prog X.w X.K X.mg X.base (CX1 X.prog X.w) k f fd ps sp/\Room k X.A/\Binds X.K fd ps []/\t σ H1 fun vs H2=>sp (vs++[]) H2 Q E0):=by intro pj s σ H Q I h;refine aK (thn (he pj s σ H _ I h) fun u s1 ⟨v,H1,I1,r,f,k,fd,ps,sp,ev,hk,F,hr,hb,q⟩=>?_);subst ev;cases (show u=Ε f from r);refine W.callWith_K (h₀:=X.base) I1.ok.mod.kin hk (thn (ha pos pj s1 σ H1 _ I1 q) fun us s2 ⟨vs,H2,I2,r2,q2⟩=>⟨I2.kIn,?_⟩) hs hpl;exact We F hr hb .nil Vk I2 r2 q2
theorem zcg {i:Nat}{n:Str}{xs:List Expr}(hcf:CfN B (cx noX)) (ok:XOk Γ B (spN Γ cx) k X c) (hN:X.N[i]?=some n) (hv:Vis X.env.scope n) (hd:(n==("__debug__":Str))=false) (hcd:(n==("__classdict__":Str))=false) (hs:∀ z∈x::xs,notStar z=true) (h:PA X (x::xs) (TXs Γ (cx noX) es)):PE X (.Call (.Name n p) (x::xs) [] pos) (TX Γ (cx noX) (.callv i es)):=by
 refine (QV (zet (cf:=cx noX) (Γ:=Γ) hN hv hd hcd) h (zb (hs x θ) _ _) (yf fun z hz=>hs z (η _ hz))).imp fun σ H Q h0=>goX h0 fun ρ S V g Hz hw w env kk=>⟨ρ,S,(fun y S1=>isF y.1 fun f=>wpEs (cx noX) ρ es (fun ds S2=>cx noX f ds V S2) S1),g,Hz,hw,w,env,fun y v H1 g1 S1 st w1 vx h1=>?_⟩
 obtain ⟨f,ef,h1⟩:=zf6 h1;have hr:=vx.rdb w1;rw [ef] at hr;obtain ⟨a,ea,rfl⟩:=hr;obtain ⟨m,hm⟩:=ok.fa f a ea;obtain ⟨a',fd,ps,g1',g2,g3,g4,g5,g6,_⟩:=(ok.fns f m hm).ex;have eq:a'=a:=Λ (g1'.symm.trans ea);subst eq;refine ⟨a',2*k,fd,ps,spN Γ cx f ps.length,rfl,g3,g6,ok.rm,g4,ρ,S1,_,g1,Hz,h1,w1,zj env st,fun ds vs H2 g2 S2 st2 w2 hv hc=>?_⟩;show spN Γ cx f ps.length (vs++[]) _ _ _
 rw [Ϝ];exact ⟨by rw [hv.len];exact hcf f ds V S2 ps g5 hc,g2,ds,S2,V,noX,w2,hv,hc,fun x v H3 g3 S3 st3 w3 vx q=>kk x v H3 g3 S3 ((st.trans st2).trans st3) w3 (vx.back (st.trans st2)) q,fun _ _ _ _ _ _ _ _ _ z=>z.elim⟩
theorem zeG:PK X [] (TXs Γ (cx noX) []):=fun pos pj s σ H Q I h0=>goS h0 fun ρ S W g Hz hw w env kk=>ze1 pos pj s σ H Q I (kk [] [] H g S (Step.refl H g) w rfl hw)
theorem zcf {n:Str}{kp:Pos}{kws:List aq}(h1:PE X x (TX Γ (cx noX) a)) (h2:PK X kws (TXs Γ (cx noX) es)):PK X (⟨some n,x,kp⟩::kws) (TXs Γ (cx noX) (a::es)):=fun pos pj s σ H Q I h=>zcy h1 h2 pos pj s σ H Q I (args_cons h)
theorem Ju {g:G}{ds ds':List D}{vs:List V}{perm:List Nat}(h:perm.mapM (fun i=>ds[i]?)=some ds') (hv:Hass Γ g ds vs):Hass Γ g ds' (perm.map fun i=>vs.getD i .non):=by
 induction perm generalizing ds' with
 | nil=>
  simp at h;subst h;rfl
 | cons i r ih=>
  rw [List.mapM_cons] at h;cases e:ds[i]? with
  | none=>rw [e] at h;cases h
  | some d=>
   rw [e] at h;simp only [Option.bind_eq_bind,lV] at h;cases e2:r.mapM (fun i=>ds[i]?) with
   | none=>rw [e2] at h;cases h
   | some l=>
    rw [e2] at h;cases h;obtain ⟨v,hv',hd⟩:=hv.get e;refine ⟨v,_,?_,hd,ih e2⟩;simp [ϵ,hv']
theorem zc0 {kws:List aq}{ks:List Str}{env:Env}{pos:Pos}(h:yP kws=some ks):(aM pos (ϯ kws env)).all (·.1.isSome)=true/\(aM pos (ϯ kws env)).filterMap (·.1)=ks/\(aM pos (ϯ kws env)).any (·.1.isNone)=false:=by
 induction kws generalizing ks with
 | nil=>cases h;exact ⟨rfl,rfl,rfl⟩
 | cons q r ih=>
  obtain ⟨n,v,kp⟩:=q;cases n with
  | none=>cases h
  | some n=>
   simp only [yP,ι] at h;obtain ⟨l,h1,h2⟩:=h;subst h2;obtain ⟨i1,i2,i3⟩:=ih h1;refine ⟨?_,?_,?_⟩
   ·show (true&&(aM pos (ϯ r env)).all (·.1.isSome))=true
    rw [i1];rfl
   ·show n::(aM pos (ϯ r env)).filterMap (·.1)=n::l
    rw [i2]
   ·show (false||(aM pos (ϯ r env)).any (·.1.isNone))=false
    rw [i3];rfl
theorem zch {f:Nat}{n:Str}{kws:List aq}{ks ps:List Str}{perm:List Nat}(hm:Mono (cx noX)) (ok:XOk Γ B (spN Γ cx) k X c) (hf:B.fns[f]?=some n) (hdt:dotted n=false) (hg:Gl X n) (hdb:(n==("__debug__":Str))=false) (h:PK X kws (TXs Γ (cx noX) es))
  (hk:yP kws=some ks) (hp:B.pars[f]?=some ps) (h1:perm.length=ps.length) (h2:∀ i∈perm,i < ks.length) (h3:perm.map (fun i=>ks.getD i "")=ps) (h4:ks.length=ps.length) (h5:(f,ks,perm)∈B.kws) (h6:es.length=ks.length):PE X (.Call (.Name n p) [] kws pos) (TX Γ (cx noX) (.callk f perm es)):=by
 obtain ⟨a,fd,ps',g1,g2,g3,g4,g5,g6,g7⟩:=(ok.fns f n hf).ex;have e5:ps'=ps:=Λ (g5.symm.trans hp);subst e5;obtain ⟨k1,k2,k3⟩:=zc0 (env:=X.env) (pos:=pos) hk;refine (Jc g6 ok.rm hg (g2 hdt) g3 (g7 ks perm h1 h2 h3 h4 h5) Vk h k1 k2 hdb (by rw [k3];rfl)).imp fun σ H Q h0=>goX h0 fun ρ S V g Hz hw w env kk=>⟨ρ,S,_,g,Hz,X4 hm es hw,w,env,fun ds vs H1 g1 S1 st w1 hv ⟨hc,hl⟩=>?_⟩
 obtain ⟨ds',em,hc⟩:=zV hc;have hz:vs.length=ks.length:=by rw [hv.len,hl,h6]
 show spN Γ cx f ps'.length (if vs.length=ks.length then []++perm.map fun i=>vs.getD i .non else []) _ _ _
 rw [if_pos hz,bO];exact ⟨by simp [h1],g1,ds',S1,V,noX,w1,Ju em hv,hc,fun x v H2 g2 S2 st2 w2 vx q=>kk x v H2 g2 S2 (st.trans st2) w2 (vx.back st) q,fun _ _ _ _ _ _ _ _ _ z=>z.elim⟩
theorem zix {b:BI}{xs:List Expr}{t:TA}{e:E}(ok:XOk Γ B (spN Γ cx) k X c) (hg:Gl X (biS b)) (hm:X.mg (biS b)=none) (hs:∀ z∈x::xs,notStar z=true) (h:PA X (x::xs) t) (i:∀ σ H Q,TX Γ (cx noX) e σ H Q->t σ H fun vs H1=>zgE X (biV b) vs H1 Q):PE X (.Call (.Name (biS b) p) (x::xs) [] pos) (TX Γ (cx noX) e):=by
 have hn:biS b≠("__name__":Str):=by
  cases b with
  | isinst q=>cases q <;> decide
  | _=>decide
 have hdb:(biS b==("__debug__":Str))=false:=by
  cases b with
  | isinst q=>cases q <;> decide
  | _=>decide
 have he:=zb (hs x θ) xs X.env;have hpl:=yf (pos:=pos) (env:=X.env) fun z hz=>hs z (η _ hz)
 have bb:=zdz b;cases hb:biV b with
 | builtin id=>rw [hb] at bb i;exact (uD Ks hg hm bb h hn hdb he hpl).imp i
 | type T=>rw [hb] at bb i;exact (Jb Ks hg hm bb h hn hdb he hpl).imp i
 | _=>cases b <;> cases hb
theorem s_is {t:Ty}{pz:Pos}(ok:XOk Γ B (spN Γ cx) k X c) (hg:Gl X "isinstance") (hm:X.mg "isinstance"=none) (hgt:Gl X (tyN t)) (hmt:X.mg (tyN t)=none) (hs:notStar x=true) (h:PE X x (TX Γ (cx noX) a)):PE X (.Call (.Name "isinstance" p) [x,.Name (tyN t) pz] [] pos) (TX Γ (cx noX) (.bi (.isinst t) [a])):=by
 have hvt:bu (tyN t)=some (.type (tyS t)):=by cases t <;> decide +kernel
 have hn:tyN t≠("__name__":Str):=by cases t <;> decide
 have hdb:(tyN t==("__debug__":Str))=false:=by cases t <;> decide
 refine (uD (id:="isinstance") Ks hg hm (by decide +kernel) (zZ h (zZ (Jd (v:=.ty (tyS t)) hgt hmt hvt rfl hn hdb) xM rfl) (zb hs _ _)) (by decide) (by decide) (zb hs _ _) rfl).imp fun σ H Q h0=>goX h0 fun ρ S V g Hz hw w env kk=>⟨ρ,S,_,g,Hz,hw,w,env,fun x v H1 g1 S1 st w1 vx h1=>?_⟩
 obtain ⟨⟨d,fr⟩,eb,q⟩:=zV h1;have eb:(isTy t (zF S1 x.1)).map (fun b=>(D.bl b,false))=some (d,fr):=eb;cases e2:isTy t (zF S1 x.1) with
 | none=>rw [e2] at eb;cases eb
 | some b=>
  rw [e2] at eb;cases eb;obtain ⟨r,r1,r2⟩:=zf2 (X:=X) (Γ:=Γ) ok.hK e2;exact ⟨r,r1,r2 S1 H1 g1 v Q w1 (vx.rdb w1) (kk (.bl b,.st) _ H1 g1 S1 st w1 rfl q)⟩
def PPd (X:Cx) (pos:Pos) (keys:List (Option Expr)) (vals:List Expr) (ks:List Key) (t:TA):Prop:=∃ trs,PPs X pos keys vals trs/\∀ σ H (Q:List (V×V)->Hp->Prop),t σ H (fun vs H'=>Q ((ks.zip vs).map fun kv=>(kV kv.1,kv.2)) H')->Uc trs σ H Q
theorem zeC:PPd X pos [] [] [] (TXs Γ (cx noX) []):=⟨[],zcv,fun σ H Q h0=>goS h0 fun ρ S W g Hz hw w env kk=>kk [] [] H g S (Step.refl H g) w rfl hw⟩
theorem zce {q:Const}{n:Nat}{p:Pos}{kx:Key}{keys:List (Option Expr)}{vals:List Expr}{ks:List Key}(hk:PE X (.Constant q n p) (tC (kV kx))) (h1:PE X x (TX Γ (cx noX) a)) (h2:PPd X pos keys vals ks (TXs Γ (cx noX) es)):PPd X pos (some (.Constant q n p)::keys) (x::vals) (kx::ks) (TXs Γ (cx noX) (a::es)):=by obtain ⟨trs,hp,ht⟩:=h2;refine ⟨_,QK hk h1 hp,fun σ H Q h=>?_⟩;obtain ⟨ρ,S,V,g,Hz,hw,w,env,kk⟩:=args_cons h;exact ⟨ρ,S,V,g,Hz,hw,w,env,fun x v H1 g1 S1 st w1 vx q=>ht σ H1 _ (kk x v H1 g1 S1 st w1 vx q)⟩
end
open PySem.AutoSeq1 (wpAny_loadPart')
open PySem.MeetsSeq PySem.MeetsSeq2 PySem.MeetsSeq3 PySem.SeqAt PySem.SeqRoads2
section
variable {X:Cx}{Γ:Gm}{S:Store}{x y:Expr}{pos:Pos}
theorem qy:∀ {ys:List Str}{us:List δ},Vals (ys.map V.str) us->PyProof.Rows.StrsAre us ys
 | [],_,.nil=>.nil
 | y::ys,_,.cons ⟨t,e⟩ q=>by subst e;exact .cons y t (qy q)
def rJoin (K:W.Frag):V->List V->Hp->VK->Prop:=fun x xs H Q=>∃ z a ys,x=.str z/\xs=[.ref a]/\(SqL K H a (ys.map V.str)\/SqT K H a (ys.map V.str))/\(ys.map (·.length)).sum+ys.length*z.length<=16777216/\Q (.str (gj z ys)) H
theorem zcW:MtR X "str.join" (rJoin X.K):=by
 rintro pj s σ H x xs v us Q I rx rv ⟨z,a,ys,rfl,rfl,hq,hz,q⟩;obtain ⟨t,rfl⟩:=rx;obtain ⟨u,rfl,ru⟩:=rv.one;cases (show u=Ε a from ru);rcases hq with hq | hq
 ·obtain ⟨its,r,hp,_⟩:=I.list hq;exact PyProof.Rows.join_list hp.isList (by simpa using qy r) hz fun t' k=>⟨.str _,H,I.tok _,⟨t',rfl⟩,q⟩
 ·obtain ⟨its,r,hp,_⟩:=I.tuple hq;exact PyProof.Rows.join_tuple hp (by simpa using qy r) hz fun t' k=>⟨.str _,H,I.tok _,⟨t',rfl⟩,q⟩
theorem zcV:MtR X "str.index" (fun x xs H Q=>∃ z y i rest,x=.str z/\xs=[.str y]/\Φ z y 0 z.length 1=i::rest/\Q (.int (i:Nat)) H):=by rintro pj s σ H x xs v us Q I rx rv ⟨z,y,i,rest,rfl,rfl,ho,q⟩;obtain ⟨t,rfl⟩:=rx;obtain ⟨u,rfl,ru⟩:=rv.one;obtain ⟨t',rfl⟩:=ru;exact call_gives iB (lB _ _ _) PySem.F.entry_str_index (PySem.F.args_str_index_2 _ _) (PySem.gives_str_index z y t t' i rest ho) ⟨.int i,H,I.tok _,⟨_,rfl⟩,q⟩
def RDm (Γ:Gm) (r:V->List V->Hp->VK->Prop) (d0:D) (ds:List D) (d:D) (fr:Bool):Prop:=
 ∀ S H g x xs Q,WOk Γ H g S->Rdb Γ H g d0 x->Hass Γ g ds xs->Fin Γ H g S d fr Q->r x xs H Q
noncomputable def mtT:MT->String
 | .index=>"list"
 | .get1=>"dict"
 | .get2=>"dict"
 | _=>"str"
noncomputable def mtI:MT->String
 | .index=>"list.index"
 | .sidx=>"str.index"
 | .get1=>"dict.get"
 | .get2=>"dict.get"
 | .join=>"str.join"
 | .split=>"str.split"
theorem JF {d1:D}(hK:X.K=Γ.K) (h:mthK .get1 d1=true\/mthK .get2 d1=true) {H:Hp}{g:G}{v:V}(hr:Rdb Γ H g d1 v):tyV X.K "dict" v H:=by
 cases d1 with
 | dK ks ds=>
  obtain ⟨a,vs,rfl,h1,_⟩:=hr;exact .inr (.inr (.inl ⟨rfl,.inl ⟨_,h1⟩⟩))
 | dT ks ds=>
  obtain ⟨a,vs,rfl,h1,_⟩:=hr;exact .inr (.inr (.inl ⟨rfl,.inr ⟨_,h1⟩⟩))
 | kdc ps=>
  obtain ⟨a,rfl,⟨o,h1⟩,_⟩:=hr;exact .inr (.inl ⟨o,by rw [hK];exact h1⟩)
 | _=>rcases h with h | h <;> cases h
set_option tactic.hygienic true in
theorem zfy {m:MT}{d0:D}{ds:List D}{d:D}{fr:Bool}(hK:X.K=Γ.K) (hu:X.A.units+61 < ϰ) (h:mthD m d0 ds=some (d,fr)):∃ r,MtR X (mtI m) r/\RDm Γ r d0 ds d fr:=by
 have hu1:X.A.units+1 < ϰ:=by lia
 cases m with
 | index=>cases h
 | get1=>cases h
 | get2=>cases h
 | join=>
  cases d0 with
  | str z=>
   match ds,h with
   | [],h=>cases h
   | _::_::_,h=>cases h
   | [x],h=>
    obtain ⟨ys,e1,h⟩:=ζ.mp (show (((lotD x).bind qz).bind fun ys=>if fits ((ys.map (·.length)).sum+ys.length*z.length)=true then some (D.str (gj z ys),false) else none)=some (d,fr) from h);obtain ⟨l,e2,e3⟩:=ζ.mp e1;split at h
    ·rename_i hf
     cases h;refine ⟨_,zcW,fun S H g y us Q w h1 h2 q=>?_⟩;obtain ⟨u,rfl,h3⟩:=h2.one;have hz:(ys.map (·.length)).sum+ys.length*z.length<=16777216:=ϕ (of_decide_eq_true hf) (by decide);rcases zbv e2 with rfl | rfl
     ·obtain ⟨a,vs,rfl,f1,f2⟩:=h3;exact ⟨z,a,ys,h1,rfl,.inl (by rw [<- YZ e3 f2];exact SqL.of (w.rh _ _ f1)),hz,zc w q rfl⟩
     ·obtain ⟨a,vs,rfl,f1,f2⟩:=h3;exact ⟨z,a,ys,h1,rfl,.inr (by rw [<- YZ e3 f2];exact SqT.of (w.rh _ _ f1)),hz,zc w q rfl⟩
    ·cases h
  | _=>match ds,h with
   | [],h=>cases h
   | [_],h=>cases h
   | _::_::_,h=>cases h
 | split=>cases h
 | sidx=>
  cases d0 with
  | str z=>
   match ds,h with
   | [],h=>cases h
   | _::_::_,h=>cases h
   | [x],h=>
    cases x with
    | str y=>
     obtain ⟨i,e1,e2⟩:=ι.mp (show (Φ z y 0 z.length 1).head?.map (fun (i:Nat)=>(D.int (i:Int),false))=some (d,fr) from h);cases e2;obtain ⟨rest,e1⟩:=List.head?_eq_some_iff.mp e1;refine ⟨_,zcV,fun S H g v us Q w h1 h2 q=>?_⟩;obtain ⟨u,rfl,h3⟩:=h2.one;cases (show u=.str y from h3);exact ⟨z,y,i,rest,h1,rfl,e1,zc w q rfl⟩
    | _=>cases h
  | _=>match ds,h with
   | [],h=>cases h
   | [_],h=>cases h
   | _::_::_,h=>cases h
theorem wW {env:Env}{name:Str}{s0:Sem δ}(h:xK x=true):bZ x name env s0=s0:=by
 cases x with
 | Call f args kws p=>
  cases args with
  | nil=>cases h
  | cons a l=>cases f <;> rfl
 | _=>rfl
theorem Xv {xs:List Expr}{env:Env}{cpos:Pos}(hs:∀ z∈xs,notStar z=true) (hl:xs.length<=9):((bK cpos (ϐ xs env)).all (fun x=>!x.1)&&(aM cpos (ϯ [] env)).all (fun x=>x.1.isSome)
  &&decide (xs.length+([]:List aq).length+(if ([]:List aq).isEmpty then 0 else 1) < 30))=true:=by
 have h1:(bK cpos (ϐ xs env)).all (fun x=>!x.1)=true:=by have:=yf (pos:=cpos) (env:=env) hs;rw [List.all_eq_not_any_not];simpa using this
 rw [h1,decide_eq_true (show xs.length+([]:List aq).length+(if ([]:List aq).isEmpty then 0 else 1) < 30 from (by simp;lia))];rfl
theorem zcU (m:MT):PlainAttrs (mtT m)/\PySem.Slot (mtT m) (mtS m) (mtI m)/\typeOf (.builtin (mtI m))=pure (.type "method_descriptor"):=by
 cases m with
 | index=>exact ⟨ie,PySem.F.slot_list_index,PySem.F.type_list_index⟩
 | get1=>exact ⟨ig,iM,iK⟩
 | get2=>exact ⟨ig,iM,iK⟩
 | sidx=>exact ⟨du,iB,PySem.F.type_str_index⟩
 | join=>exact ⟨du,PySem.F.slot_str_join,PySem.F.type_str_join⟩
 | split=>exact ⟨du,PySem.F.slot_str_split,PySem.F.type_str_split⟩
theorem zhY {m:MT}{d1:D}(hK:X.K=Γ.K) (h:mthK m d1=true) {H:Hp}{g:G}{v:V}(hr:Rdb Γ H g d1 v):tyV X.K (mtT m) v H:=by
 cases m with
 | index=>cases d1 <;> cases h
 | get1=>exact JF hK (.inl h) hr
 | get2=>exact JF hK (.inr h) hr
 | join=>
  cases d1 with
  | str x=>cases (show v=.str x from hr);exact rfl
  | _=>cases h
 | split=>
  cases d1 with
  | str x=>cases (show v=.str x from hr);exact rfl
  | _=>cases h
 | sidx=>
  cases d1 with
  | str x=>cases (show v=.str x from hr);exact rfl
  | _=>cases h
def zhZ (X:Cx) (id:String):V->List V->Hp->VK->Prop:=fun x xs H Q=>∃ r,MtR X id r/\r x xs H Q
theorem zfA {id:String}:MtR X id (zhZ X id):=fun pj s σ H x xs v us Q I rx rv ⟨_,h,q⟩=>h pj s σ H x xs v us Q I rx rv q
theorem zhr {B:Tb}{cx:Xp->Cf}{k:Nat}{c:Cc}{a:E}{es:List E}{m:MT}{ys:List Expr}{apos cpos:Pos}(ok:XOk Γ B (spN Γ cx) k X c) (ha:PE X x (TX Γ (cx noX) a)) (hs:∀ z∈y::ys,notStar z=true) (hb:PA X (y::ys) (TXs Γ (cx noX) es)) (hl:(apos.endLine==cpos.line)=true) (hp:xK x=true) (h9:(y::ys).length<=9):
  PE X (.Call (.Attribute x (mtS m) apos) (y::ys) [] cpos) (TX Γ (cx noX) (.mth m a es)):=by
 obtain ⟨m1,m2,m3⟩:=zcU m;refine (zfa m1 m2 m3 zfA ha hb (wW hp) (Xv hs h9) hl (zb (hs y θ) ys X.env) (yf fun z hz=>hs z (η _ hz))).imp fun σ H Q h0=>goX h0 fun ρ S V g Hz hw w env kk=>⟨ρ,S,_,g,Hz,hw,w,env,fun x v H1 g1 S1 st w1 vx h1=>?_⟩
 obtain ⟨hk,h1⟩:=xG h1;refine ⟨zhY ok.hK hk (vx.rdb w1),ρ,S1,_,g1,Hz,h1,w1,zj env st,fun ds vs H2 g2 S2 st2 w2 hv h2=>?_⟩;obtain ⟨⟨d,fr⟩,eb,q⟩:=zV h2;obtain ⟨r,r1,r2⟩:=zfy (X:=X) ok.hK ok.u61 eb;exact ⟨r,r1,r2 S2 H2 g2 v vs Q w2 ((vx.step st2).rdb w2) hv fun u H3 g3 st3 _ w3 vo=>kk _ u H3 g3 S2 ((st.trans st2).trans st3) w3 ((VN.of vo).back (st.trans st2)) q⟩
end
section
variable {Γ:Gm}{g:G}
theorem Wv (f:Str):∀ {ns:List Str}{ds:List D}{vs:List V},ns.length=ds.length->Hass Γ g ds vs ->
  (∀ d,xu ns ds f=some d->∃ v,(ns.zip vs).lookup f=some v/\Has Γ g d v)/\(ns.contains f=false->(ns.zip vs).lookup f=none)
 | [],_,vs,_,_=>⟨fun d h=>(by cases h),fun _=>rfl⟩
 | n::ns,[],_,h,_=>by cases h
 | n::ns,d::ds,_,hl,⟨v,r,rfl,hd,hr⟩=>by
  obtain ⟨i1,i2⟩:=Wv f (cD hl) hr;by_cases e:n=f
  ·subst e;refine ⟨fun d' h=>?_,fun h=>?_⟩
   ·simp only [xu,qZ,if_true,lV,lg,iQ] at h;subst h;exact ⟨v,by simp [bU],hd⟩
   ·simp at h
  ·have e':(f==n)=false:=by simpa using fun z=>e z.symm
   refine ⟨fun d' h=>?_,fun h=>?_⟩
   ·have h':xu ns ds f=some d':=by
     simp only [xu,qZ,if_neg e] at h ⊢;cases q:qZ ns f with
     | none=>rw [q] at h;cases h
     | some i=>rw [q] at h;simpa using h
    obtain ⟨v',h1,h2⟩:=i1 d' h';exact ⟨v',by rw [aH,ϟ,e'];exact h1,h2⟩
   ·rw [List.contains_cons,e',Bool.false_or] at h;rw [aH,ϟ,e'];exact i2 h
theorem Wh {f:Str}{v:V}:∀ {ns:List Str}{vs:List V},ns.length=vs.length->putF f v (ns.zip vs)=(putN f ns).zip (putA f v ns vs)
 | [],[],_=>rfl
 | n::ns,x::vs,h=>by
  show (if n=f then (n,v)::ns.zip vs else (n,x)::putF f v (ns.zip vs))=(if n=f then n::ns else n::putN f ns).zip (if n=f then v::vs else x::putA f v ns vs)
  by_cases e:n=f
  ·rw [if_pos e,if_pos e,if_pos e];rfl
  ·rw [if_neg e,if_neg e,if_neg e,Wh (cD h)];rfl
 | [],_::_,h=>by cases h
 | _::_,[],h=>by cases h
theorem Wi {α:Type}{f:Str}{v:α}:∀ {ns:List Str}{vs:List α},ns.length=vs.length->(putN f ns).length=(putA f v ns vs).length
 | [],[],_=>rfl
 | n::ns,x::vs,h=>by
  show (if n=f then n::ns else n::putN f ns).length=(if n=f then v::vs else x::putA f v ns vs).length
  by_cases e:n=f
  ·rw [if_pos e,if_pos e];exact h
  ·rw [if_neg e,if_neg e,ϊ,ϊ,Wi (cD h)]
 | [],_::_,h=>by cases h
 | _::_,[],h=>by cases h
theorem Yc {f:Str}{d:D}{v:V}(hd:Has Γ g d v):∀ {ns:List Str}{ds:List D}{vs:List V},ns.length=ds.length->Hass Γ g ds vs->Hass Γ g (putA f d ns ds) (putA f v ns vs)
 | [],[],_,_,h=>by cases (show _=[] from h);exact Hass.mk1 hd
 | n::ns,x::ds,_,hl,⟨y,r,rfl,hx,hr⟩=>by
  show Hass Γ g (if n=f then d::ds else x::putA f d ns ds) (if n=f then v::r else y::putA f v ns r)
  by_cases e:n=f
  ·rw [if_pos e,if_pos e];exact ⟨v,r,rfl,hd,hr⟩
  ·rw [if_neg e,if_neg e];exact ⟨y,_,rfl,hx,Yc hd (cD hl) hr⟩
 | [],_::_,_,h,_=>by cases h
 | _::_,[],_,h,_=>by cases h
end
section
variable {X:Cx}{Γ:Gm}{B:Tb}{cx:Xp->Cf}{k:Nat}{c:Cc}{x y z:Expr}{pos p apos cpos:Pos}{a:E}{es:List E}
theorem zbG {B:Tb}{f n:Str}(h:vI B f n=true):∃ o∈B.obs,o.name=n/\f∈o.fields:=by unfold vI at h;obtain ⟨o,ho,h⟩:=aF.mp h;rw [γ] at h;exact ⟨o,ho,eq_of_beq h.1,Β.mp h.2⟩
theorem zbo {B:Tb}{m:Str}{q:Str×Nat}(h:Vo B m q=true):∃ o∈B.obs,o.name=q.1/\(m,q.2)∈o.meths:=by unfold Vo at h;obtain ⟨o,ho,h⟩:=aF.mp h;rw [γ] at h;exact ⟨o,ho,eq_of_beq h.1,Β.mp h.2⟩
theorem uK {H:Hp}{g:G}{H':Hp}{g':G}{S:Store}{x:Vl}{v:V}{R:Nat->Str->List Str->List D->Prop}(vx:VN Γ H x v H' g') (s:Step H g H' g') (w:WOk Γ H' g' S) (q:keep x fun r=>isOb S r R):
  ∃ i n ns ds a C dx vs,v=.ref a/\g'.α[i]?=some a/\S[i]?=some (.ins n ns ds)/\R i n ns ds/\caOf Γ.K n=some C/\H' a=some (.ins C dx (ns.zip vs))/\ns.length=ds.length/\Hass Γ g' ds vs:=by
 obtain ⟨d,kd⟩:=x;cases kd with
 | st=>
  obtain ⟨i,n,ns,ds,rfl,e,q⟩:=qR (show isOb S d R from q);obtain ⟨a,h1,rfl⟩:=(show ∃ a,g'.α[i]?=some a/\v=.ref a from vx)
  obtain ⟨C,dx,vs,h2,h3,h4,h5⟩:=w.cell i _ a e h1;exact ⟨i,n,ns,ds,a,C,dx,vs,rfl,h1,e,q,h2,h3,h4,h5⟩
 | fr=>
  obtain ⟨i,n,ns,ds,rfl,e,q⟩:=qR (show isOb S d R from q);obtain ⟨a,_,_,h1,_,o,h2,_⟩:=(show ∃ a,v=.ref a/\H a=none/\g'.R a=none/\a ∉ g'.α/\zY Γ H' g' a (.ref i) from vx)
  rw [h1] at h2;cases h2
 | bo=>exact q.elim
theorem zhF {cs:List Str}{f:Str}(ok:XOk Γ B (spN Γ cx) k X c) (ha:PE X x (TX Γ (cx noX) a)) (hp:xK x=true) (hc:∀ n∈cs,vI B f n=true):PE X (.Attribute x f pos) (TX Γ (cx noX) (.att cs a f)):=by
 refine (ze9 ha (wW hp)).imp fun σ H Q h0=>goX h0 fun ρ S V g Hz hw w env kk=>⟨ρ,S,_,g,Hz,hw,w,env,fun y v H1 g1 S1 st w1 vx q=>?_⟩
 obtain ⟨i,n,ns,ds,b,C,dx,vs,rfl,h1,h2,q1,h3,h4,h5,h6⟩:=uK vx st w1 q;obtain ⟨hn,q2⟩:=xG q1;obtain ⟨d,e,q3⟩:=zV q2;obtain ⟨o,ho,hno,hf⟩:=zbG (hc n (Β.mp hn));subst hno;obtain ⟨C',hm,oo⟩:=ok.ob o ho;have eC:C'=C:=Λ (oo.ca.symm.trans h3);subst eC;obtain ⟨u,hu,hd⟩:=(Wv f h5 h6).1 d e;exact ⟨b,C',dx,_,u,rfl,h4,ok.hK ▸ oo.cl,ok.hK ▸ oo.fl f hf,hu,kk (d,.st) u H1 g1 S1 st w1 hd q3⟩
theorem zbs {M:Model}{A:Ϗ}{Ex:VSP}{env:Env}{o:Expr}{m:Str}{args:List Expr}{s:ν}{Q:VSP}(hbase:bZ o m env (eval o env)=eval o env)
  (hfew:((bK pos (ϐ args env)).all (fun x=>!x.1)&&(aM pos (ϯ [] env)).all (fun x=>x.1.isSome)
  &&decide (args.length+([]:List aq).length+(if ([]:List aq).isEmpty then 0 else 1) < 30))=true) (hline:(apos.endLine==pos.line)=true)
  (h:Θ M A (eval o env) (fun ov s₁=>∀ pl,Θ M A (getMethod ov m pl) (fun fx s₂=>Θ M A (callWith pos fx.1 fx.2 (bK pos (ϐ args env)) (aM pos (ϯ [] env))) Q Ex s₂) Ex s₁) Ex s):
  Θ M A (eval (.Call (.Attribute o m apos) args [] pos) env) Q Ex s:=by
 rw [arm_eval_Call,hbase];refine ε (aJ h (fun ov s₁ h₁=>?_) fun _ _ e=>e);refine ε (cL ?_);have hform:methodCallForm (args.length+([]:List aq).length) (bK pos (ϐ args env)) (aM pos (ϯ [] env))=true:=hfew;have hpos:methodCallPos true o env apos pos=pure pos:=by unfold methodCallPos;simp [hline]
 unfold methodCall;rw [hform];refine ε (cN (aJ (h₁ _) (fun fx s₂ h₂=>?_) fun _ _ e=>e));exact ε (wpAny_of_eq hpos h₂)
theorem ze7 {m:Str}{xs:List Expr}{ta:TE}{t:TA}(he:PE X x ta) (hb:bZ x m X.env (eval x X.env)=eval x X.env) (hs:∀ z∈y::xs,notStar z=true) (h9:(y::xs).length<=9) (hl:(apos.endLine==cpos.line)=true) (ha:PA X (y::xs) t):
  PE X (.Call (.Attribute x m apos) (y::xs) [] cpos) (fun σ H Q=>ta σ H fun v H1=>∃ a C dx fs f k fd ps sp,v=.ref a/\H1 a=some (.ins C dx fs)/\fs.lookup m=none/\Cls X.K C/\Meth X.K C m f/\FnOk X.prog X.w X.K X.mg X.base (CX1 X.prog X.w) k f fd ps sp/\Room k X.A/\Binds X.K fd ps [] /\
   t σ H1 fun vs H2=>sp (.ref a::(vs++[])) H2 Q E0):=by intro pj s σ H Q I h;refine zbs hb (Xv hs h9) hl (thn (he pj s σ H _ I h) fun u s1 ⟨v,H1,I1,r,a,C,dx,fs,f,k,fd,ps,sp,ev,ea,l,cl,mt,F,hr,hbd,q⟩ pl=>?_);subst ev;cases (show u=Ε a from r);refine kW I1 ea cl mt l ?_;refine W.callWith_K (first:=[.ref a]) (h₀:=X.base) I.ok.mod.kin mt.kp (thn (ha cpos pj s1 σ H1 _ I1 q) fun us s2 ⟨vs,H2,I2,r2,q2⟩=>⟨I2.kIn,?_⟩) (zb (hs y θ) _ _) (yf fun z hz=>hs z (η _ hz));exact We (us:=.ref a::us) (vs:=.ref a::vs) F hr hbd .nil Vk I2 (.cons rfl r2) q2
theorem zcz {m:Str}{ta:TE}(he:PE X x ta) (hb:bZ x m X.env (eval x X.env)=eval x X.env) (hl:(apos.endLine==cpos.line)=true):
  PE X (.Call (.Attribute x m apos) [] [] cpos) (fun σ H Q=>ta σ H fun v H1=>∃ a C dx fs f k fd ps sp,v=.ref a/\H1 a=some (.ins C dx fs)/\fs.lookup m=none/\Cls X.K C/\Meth X.K C m f/\FnOk X.prog X.w X.K X.mg X.base (CX1 X.prog X.w) k f fd ps sp/\Room k X.A/\Binds X.K fd ps [] /\
   sp [.ref a] H1 Q E0):=by intro pj s σ H Q I h;refine zbs hb (Xv (xs:=[]) (fun z hz=>by cases hz) (bF _)) hl (thn (he pj s σ H _ I h) fun u s1 ⟨v,H1,I1,r,a,C,dx,fs,f,k,fd,ps,sp,ev,ea,l,cl,mt,F,hr,hbd,q⟩ pl=>?_);subst ev;cases (show u=Ε a from r);refine kW I1 ea cl mt l ?_;exact W.callWith_K0 (first:=[.ref a]) I1.kIn mt.kp (We (us:=[.ref a]) (vs:=[.ref a]) F hr hbd .nil Vk I1 (.cons rfl .nil) q)
theorem zab {ms:List (Str×Nat)}{n:Str}{i:Nat}(h:ms.lookup n=some i):(n,i)∈ms:=by
 induction ms with
 | nil=>cases h
 | cons q r ih=>
  obtain ⟨a,b⟩:=q;rw [ϟ] at h;cases e:n==a with
  | true=>rw [e] at h;cases h;rw [eq_of_beq e];exact θ
  | false=>rw [e] at h;exact η _ (ih h)
theorem zhs {ms:List (Str×Nat)}{m:Str}{ys:List Expr}(hcf:CfN B (cx noX)) (ok:XOk Γ B (spN Γ cx) k X c) (ha:PE X x (TX Γ (cx noX) a)) (hp:xK x=true) (hs:∀ z∈ys,notStar z=true) (h9:ys.length<=9) (hl:(apos.endLine==cpos.line)=true) (hb:PA X ys (TXs Γ (cx noX) es)) (hee:ys=[]->es=[])
  (hc:∀ q∈ms,Vo B m q=true):PE X (.Call (.Attribute x m apos) ys [] cpos) (TX Γ (cx noX) (.met ms a m es)):=by
 have key:∀ {σ:L2.St}{H H1:Hp}{Q:VK}{S1:Store}{y:Vl}{v:L2.V}{g1 g:G}{ρ:List Slot}{V:Po},VN Γ H y v H1 g1->Step H g H1 g1->WOk Γ H1 g1 S1 ->
   (keep y fun r=>isOb S1 r fun k c ns _=>tst (!ns.contains m) (opt (ms.lookup c) fun f=>wpEs (cx noX) ρ es (fun ds S2=>cx noX f (.ref k::ds) V S2) S1) False) ->
   ∃ a C dx fs f fd ps i j,v=.ref a/\H1 a=some (.ins C dx fs)/\fs.lookup m=none/\Cls X.K C/\Meth X.K C m f/\FnOk X.prog X.w X.K X.mg X.base (CX1 X.prog X.w) (2*k) f fd ps (spN Γ cx i ps.length)/\Room (2*k) X.A/\Binds X.K fd ps []/\B.pars[i]?=some ps/\g1.α[j]?=some a /\
    wpEs (cx noX) ρ es (fun ds S2=>cx noX i (.ref j::ds) V S2) S1:=by intro σ H H1 Q S1 y v g1 g ρ V vx st w1 q;obtain ⟨j,n,ns,ds,b,C,dx,vs,rfl,h1,h2,q1,h3,h4,h5,h6⟩:=uK vx st w1 q;obtain ⟨hn,q2⟩:=xG q1;obtain ⟨i,e,q3⟩:=zV q2;obtain ⟨o,ho,hno,hf⟩:=zbo (hc _ (zab e));cases hno;obtain ⟨C',hm,oo⟩:=ok.ob o ho;have eC:C'=C:=Λ (oo.ca.symm.trans h3);subst eC;obtain ⟨f,ef,mt⟩:=oo.mt m i hf;obtain ⟨nm,hnm⟩:=ok.fa i f ef;obtain ⟨f',fd,ps,g1',g2,g3,g4,g5,g6,_⟩:=(ok.fns i nm hnm).ex;have eq:f'=f:=Λ (g1'.symm.trans ef);subst eq;exact ⟨b,C',dx,_,f',fd,ps,i,j,rfl,h4,(Wv m h5 h6).2 (by simpa using hn),ok.hK ▸ oo.cl,ok.hK ▸ mt,g6,ok.rm,g4,g5,h1,q3⟩
 cases ys with
 | nil=>
  cases hee rfl;refine (zcz ha (wW hp) hl).imp fun σ H Q h0=>goX h0 fun ρ S V g Hz hw w env kk=>⟨ρ,S,_,g,Hz,hw,w,env,fun y v H1 g1 S1 st w1 vx q=>?_⟩
  obtain ⟨b,C,dx,fs,f,fd,ps,i,j,e1,e2,e3,e4,e5,e6,e7,e8,e9,e10,q⟩:=key (σ:=σ) (Q:=Q) vx st w1 q;refine ⟨b,C,dx,fs,f,2*k,fd,ps,_,e1,e2,e3,e4,e5,e6,e7,e8,?_⟩;have hc:cx noX i [.ref j] V S1:=q;have hv:Hass Γ g1 [.ref j] [.ref b]:=Hass.mk1 ⟨b,e10,rfl⟩;exact ⟨by rw [hv.len];exact hcf i _ V S1 ps e9 hc,g1,_,S1,V,noX,w1,hv,hc,fun x v H2 g2 S2 st2 w2 vx q=>kk x v H2 g2 S2 (st.trans st2) w2 (vx.back st) q,fun _ _ _ _ _ _ _ _ _ z=>z.elim⟩
 | cons y0 ys=>
  refine (ze7 ha (wW hp) hs h9 hl hb).imp fun σ H Q h0=>goX h0 fun ρ S V g Hz hw w env kk=>⟨ρ,S,_,g,Hz,hw,w,env,fun y v H1 g1 S1 st w1 vx q=>?_⟩
  obtain ⟨b,C,dx,fs,f,fd,ps,i,j,e1,e2,e3,e4,e5,e6,e7,e8,e9,e10,q⟩:=key (σ:=σ) (Q:=Q) vx st w1 q;refine ⟨b,C,dx,fs,f,2*k,fd,ps,_,e1,e2,e3,e4,e5,e6,e7,e8,ρ,S1,_,g1,Hz,q,w1,zj env st,fun ds vs H2 g2 S2 st2 w2 hv hc=>?_⟩;have hv':Hass Γ g2 (.ref j::ds) (.ref b::vs):=⟨_,_,rfl,⟨b,st2.le.aa _ _ e10,rfl⟩,hv⟩
  show spN Γ cx i ps.length (.ref b::(vs++[])) H2 Q E0
  rw [Ϝ];exact ⟨by rw [hv'.len];exact hcf i _ V S2 ps e9 hc,g2,_,S2,V,noX,w2,hv',hc,fun x v H3 g3 S3 st3 w3 vx q=>kk x v H3 g3 S3 ((st.trans st2).trans st3) w3 (vx.back (st.trans st2)) q,fun _ _ _ _ _ _ _ _ _ z=>z.elim⟩
theorem WOk.out {H:Hp}{g:G}{S:Store}(w:WOk Γ H g S) {b:Addr}(h:H b=none):g.R b=none/\b ∉ g.α:=by
 refine ⟨?_,fun m=>?_⟩
 ·cases e:g.R b with
  | none=>rfl
  | some o=>rw [w.rh _ _ e] at h;cases h
 ·obtain ⟨i,hi,e⟩:=List.mem_iff_getElem.mp m;have e':g.α[i]?=some b:=by rw [ψ hi,e]
  have hs:i < S.length:=by rw [<- w.len];exact hi
  obtain ⟨o,ho,_⟩:=(w.cell i _ b (ψ hs) e').qU;rw [ho] at h;cases h
theorem s_mk {n:Str}{i:Nat}{ys:List Expr}(hcf:CfN B (cx noX)) (ok:XOk Γ B (spN Γ cx) k X c) (hg:Gl X n) (hdb:(n==("__debug__":Str))=false) (hs:∀ z∈y::ys,notStar z=true) (hb:PA X (y::ys) (TXs Γ (cx noX) es)) (ho:∃ o∈B.obs,o.name=n/\(("__init__":Str),i)∈o.meths):
  PE X (.Call (.Name n p) (y::ys) [] pos) (TX Γ (cx noX) (.mk n i es)):=by
 obtain ⟨o,ho,hno,hi⟩:=ho;subst hno;obtain ⟨C,hm,oo⟩:=ok.ob o ho;obtain ⟨f,ef,M⟩:=oo.mkk i hi;obtain ⟨nm,hnm⟩:=ok.fa i f ef;obtain ⟨f',fd,ps,g1',g2,g3,g4,g5,g6,_⟩:=(ok.fns i nm hnm).ex;have eq:f'=f:=Λ (g1'.symm.trans ef);subst eq;refine (zcA (ok.hK ▸ M) g6 ok.room hg hm g4 .nil Vk hb hdb (zb (hs y θ) _ _) (yf fun z hz=>hs z (η _ hz))).imp fun σ H Q h0=>goX h0 fun ρ S V g Hz hw w env kk=>⟨ρ,S,_,g,Hz,hw,w,env,fun ds vs H1 g1 S1 st w1 hv hc=>?_⟩
 intro x dx hx hdx hne;show spN Γ cx i ps.length (.ref x::(vs++[])) _ _ _
 rw [Ϝ];have hx':upd H1 dx (.own x) x=none:=by rw [zm (bA hne)];exact hx
 have sm:Same H1 (upd (upd H1 dx (.own x)) x (.ins C dx [])):=fun b u q=>by
  have hb:b≠x:=by rintro rfl;rw [hx] at q;cases q
  have hb2:b≠dx:=by rintro rfl;rw [hdx] at q;cases q
  rw [zm hb,zm hb2];exact q
 have w2:WOk Γ (upd (upd H1 dx (.own x)) x (.ins C dx [])) g1 S1:=(w1.laid hdx).laid hx';have s2:Step H1 g1 (upd (upd H1 dx (.own x)) x (.ins C dx [])) g1:=Step.of_same sm (Le.refl _) (fun _ h=>.inl h) (fun _ h=>.inl h);obtain ⟨o1,o2⟩:=w1.out hx;obtain ⟨g2,s3,w3,h3⟩:=zdy (d:=.ins o.name [] []) (v:=.ref x) s2 w2 ⟨x,rfl,hx,o1,o2,C,dx,[],oo.ca,zy,rfl,rfl⟩;have hv':Hass Γ g2 (.ref S1.length::ds) (.ref x::vs):=⟨_,_,rfl,h3,hv.mono s3.le⟩
 refine ⟨by rw [hv'.len];exact hcf i _ _ _ ps g5 hc,g2,_,_,_,noX,w3,hv',hc,fun z v H4 g4 S4 st4 w4 vz q=>?_,fun _ _ _ _ _ _ _ _ _ z=>z.elim⟩;obtain ⟨e,q⟩:=zbC q;obtain ⟨d,kd⟩:=z;cases (show d=.non from e);refine ⟨?_,kk (.ref S1.length,.st) (.ref x) H4 g4 S4 ((st.trans s3).trans st4) w4 (h3.mono st4.le) q⟩;cases kd with
 | st=>exact vz
 | fr=>obtain ⟨_,_,_,_,_,z⟩:=vz;exact z.elim
 | bo=>obtain ⟨_,_,_,_,z⟩:=vz;exact z.elim
end
section
variable {prog:Τ}{w:ϙ}{A:Ϗ}{E:VSP}{s:ν}
end
section
variable {X:Cx}{Γ:Gm}{S:Store}{cf:Cf}{a:E}{elts:List Expr}{kk:Nat}{ap cp tp:Pos}
end
section
variable {X:Cx}{tg:Expr}
end
section
variable {X:Cx}{Γ:Gm}{S:Store}{cf:Cf}{a:E}{tgt x:Expr}
theorem zeH (_:PE X x (TX Γ cf a)):PI X tgt x (TXi Γ cf (.keys a)):=fun _ _ _ _ _ _ h0=>goI h0 fun _ _ _ _ _ hw _ _ _=>ϗ hw
end
end EV
namespace L2
open PySem PySem.Spec PyProof.Rows
variable {X:Cx}
end L2
namespace EV
open PySem PySem.Spec PyProof.Rows L2
variable {X:Cx}{Γ:Gm}{cf:Cf}{a b:E}{k v:Expr}{pos:Pos}
noncomputable def wO:Expr->Bool
 | .BoolOp _ _ _=>true
 | _=>false
section
variable {Γ:Gm}{B:Tb}{cx:Xp->Cf}{k:Nat}
theorem zeU {X:Cx}{x y z:Expr}{pos:Pos}{t a b:E}(hc:PT X x (TB Γ (cx noX) t)) (ha:PT X y (TB Γ (cx noX) a)) (hb:PT X z (TB Γ (cx noX) b)):PT X (.IfExp x y z pos) (TB Γ (cx noX) (.ite t a b)):=by
 intro pj s σ H Q I ⟨ρ,S,V,g,Hz,hw,w,env,kk⟩;have eq:d9 (.IfExp x y z pos) X.env (eval (.IfExp x y z pos) X.env)=(d9 x X.env (eval x X.env) >>= fun t=>if t=true then d9 y X.env (eval y X.env) else d9 z X.env (eval z X.env)):=rfl;rw [eq];refine ε (thn (hc pj s σ H (fun r H'=>if r=true then TB Γ (cx noX) a σ H' Q else TB Γ (cx noX) b σ H' Q) I ⟨ρ,S,_,g,Hz,hw,w,env,fun x H1 g1 S1 st w1 h=>?_⟩) fun r s1 ⟨H1,I1,q⟩=>?_)
 ·obtain ⟨r,e,q⟩:=vH h;rw [e];show (if r=true then _ else _)
  cases r with
  | true=>exact iteT (Qp st w1 env kk q)
  | false=>exact iteF (Qp st w1 env kk q)
 ·cases r with
  | true=>rw [if_pos rfl] at q ⊢;exact ha pj s1 σ H1 Q I1 q
  | false=>rw [if_neg Ν] at q ⊢;exact hb pj s1 σ H1 Q I1 q
def SE (Γ:Gm) (B:Tb) (cx:Xp->Cf) (k:Nat) (e:E):Prop:=∀ (X:Cx) (c:Cc) (x:Expr),XOk Γ B (spN Γ cx) k X c->chkE B c e x=true->PE X x (TX Γ (cx noX) e)/\PT X x (TB Γ (cx noX) e)/\(wO x=true->PW X x (TB Γ (cx noX) e))
theorem only {X:Cx}{x:Expr}{e:E}(h:PE X x (TX Γ (cx noX) e)) (hn:wO x=false) (he:∀ whole,d9 x X.env whole=(do let v <- whole;gU x.pos;dB [v] (truthy v))):PE X x (TX Γ (cx noX) e)/\PT X x (TB Γ (cx noX) e)/\(wO x=true->PW X x (TB Γ (cx noX) e)):=
 ⟨h,zeu h he,fun q=>by rw [hn] at q;cases q⟩
theorem none_of {X:Cx}{x:Expr}{e:E}(h:∀ ρ V S,¬ wpE (cx noX) ρ e V S):PE X x (TX Γ (cx noX) e)/\PT X x (TB Γ (cx noX) e)/\(wO x=true->PW X x (TB Γ (cx noX) e)):=
 ⟨fun _ _ _ _ _ _ ⟨_,_,_,_,_,q,_⟩=>(h _ _ _ q).elim,fun _ _ _ _ _ _ ⟨_,_,_,_,_,q,_⟩=>(h _ _ _ q).elim,fun _ _ _ _ _ _ _ _ ⟨_,_,_,_,_,q,_⟩=>(h _ _ _ q).elim⟩
theorem yE {c:Cc}:∀ {es:List E}{xs:List Expr},zN B c es xs=true->∀ z∈xs,notStar z=true
 | [],[],_=>fun z hz=>by cases hz
 | e::es,x::xs,h=>by
  have h:(chkE B c e x&&notStar x&&zN B c es xs)=true:=h;rw [γ,γ] at h;intro z hz;rcases χ.mp hz with rfl | hz
  ·exact h.1.2
  ·exact yE h.2 z hz
 | [],_::_,h=>nobE h
 | _::_,[],h=>nobE h
theorem Jr {c:Cc}{lo hi st:Option Expr}{pos:Pos}:∀ (e:E),chkE B c e (.Slice lo hi st pos)=true->False
 | .box e,h=>nobE h
 | .var _,h=>nobE h
 | .con _,h=>nobE h
 | .glo _ _,h=>nobE h
 | .bin _ _ _,h=>nobE h
 | .neg _,h=>nobE h
 | .cmp _ _ _,h=>nobE h
 | .chn _ _ _ _ _,h=>nobE h
 | .not _,h=>nobE h
 | .and _ _,h=>nobE h
 | .or _ _,h=>nobE h
 | .ite _ _ _,h=>nobE h
 | .tup _,h=>nobE h
 | .lst _,h=>nobE h
 | .dic _ _ _,h=>nobE h
 | .sub _ _,h=>nobE h
 | .slc _ _ _,h=>nobE h
 | .bi _ _,h=>nobE h
 | .mth _ _ _,h=>nobE h
 | .call _ _,h=>nobE h
 | .callk _ _ _,h=>nobE h
 | .callv _ _,h=>nobE h
 | .comp _ _ _ _ _,h=>nobE h
 | .one _,h=>nobE h
 | .flip _,h=>nobE h
 | .dk1 _ _,h=>nobE h
 | .seq _,h=>nobE h
 | .rng _ _,h=>nobE h
 | .enum _,h=>nobE h
 | .zip _ _,h=>nobE h
 | .rev _,h=>nobE h
 | .dwn _,h=>nobE h
 | .keys _,h=>nobE h
 | .items _,h=>nobE h
theorem Vi {c:Cc}{e:E}{y:Expr}(h:chkE B c e y=true):XR y:=by
 cases y with
 | Slice lo hi st pos=>exact (Jr e h).elim
 | _=>exact fun _ _=>rfl
theorem Yj {iter:Expr}(h:wH iter=true) (env:Env) (v:δ):aU iter env v=pure v:=by cases iter <;> first | rfl | cases h
set_option tactic.hygienic true in
theorem zbL {X:Cx}{d:D}{q:Const}{n:Nat}{pos:Pos}{c:Cc}(h:chkE B c (.con d) (.Constant q n pos)=true):∃ t,PE X (.Constant q n pos) (tC t)/\∀ g,Has Γ g d t:=by
 cases q with
 | none=>cases d <;> first | exact ⟨_,ze6,fun _=>rfl⟩ | exact nobE h
 | bool b=>cases d <;> first | (rename_i b';have e:=eq_of_beq (show (b'==b)=true from h);subst e;exact ⟨_,zhP,fun _=>rfl⟩) | exact nobE h
 | int b=>cases d <;> first | (rename_i b';have e:=eq_of_beq (show (b'==b)=true from h);subst e;exact ⟨_,zbk,fun _=>rfl⟩) | exact nobE h
 | str b=>cases d <;> first | (rename_i b';have e:=eq_of_beq (show (b'==b)=true from h);subst e;exact ⟨_,Ja,fun _=>rfl⟩) | exact nobE h
 | _=>cases d <;> exact nobE h
theorem Vz {k0:Key}{ks:List Key}{keys:List (Option Expr)}(h:KC (k0::ks) keys=true):∃ q n p r,keys=some (.Constant q n p)::r/\(∀ X:Cx,PE X (.Constant q n p) (tC (kV k0)))/\KC ks r=true:=by
 cases keys with
 | nil=>exact nobE h
 | cons o r=>
  cases o with
  | none=>exact nobE h
  | some x=>
   have hb:Α x.ctorIdx 19=true:=by revert h;cases x <;> first | exact non | exact fun _=>rfl
   revert h;apply vU hb;clear hb;intro q n p h;have h:(keyC k0 q&&KC ks r)=true:=h;rw [γ] at h;refine ⟨q,n,p,r,rfl,fun X=>?_,h.2⟩;have h1:=h.1;cases k0 with
   | inl i=>
    cases q with
    | int j=>rw [show i=j from eq_of_beq h1];exact zbk
    | _=>exact nobE h1
   | inr i=>
    cases q with
    | str j=>rw [show i=j from eq_of_beq h1];exact Ja
    | _=>exact nobE h1
theorem qi {a:Bool}(h:(a&&false)=true):False:=by rw [bD] at h;cases h
theorem jD {c:Cc}:∀ {es:List E}{xs:List Expr},zN B c es xs=true->es.length=xs.length
 | [],[],_=>rfl
 | [],_::_,h=>nobE h
 | _::_,[],h=>nobE h
 | e::es,x::xs,h=>by have h:(chkE B c e x&&notStar x&&zN B c es xs)=true:=h;rw [γ] at h;simp [jD h.2]
theorem zfz {c:Cc}{m:MT}{o:E}{es:List E}{f:Expr}{args:List Expr}{kws:List aq}{pos:Pos}(h:chkE B c (.mth m o es) (.Call f args kws pos)=true):
    ∃ w ap y ys,f=.Attribute w (mtS m) ap/\args=y::ys/\kws=[]/\chkE B c o w=true/\zN B c es (y::ys)=true/\(ap.endLine==pos.line)=true/\xK w=true/\(y::ys).length<=9:=by
  have h:(match wC f with
    | some q=>q.2.1==mtS m&&chkE B c o q.1&&zN B c es args&&yc kws&&q.2.2.endLine==pos.line&&xK q.1&&decide (1<=es.length)&&decide (es.length<=9)
    | none=>false)=true:=h
  cases e:wC f with
  | none=>rw [e] at h;cases h
  | some q=>
    rw [e] at h;simp only [γ,decide_eq_true_eq] at h;obtain ⟨⟨⟨⟨⟨⟨⟨h1,h2⟩,h3⟩,h4⟩,h5⟩,h6⟩,h7⟩,h8⟩:=h;have hl:=jD h3;cases args with
    | nil=>simp at hl;simp [hl] at h7
    | cons y ys=>
      refine ⟨q.1,q.2.2,y,ys,?_,rfl,yd h4,h2,h3,h5,h6,by lia⟩;rw [vO e,eq_of_beq h1]
theorem Yo {c:Cc}:∀ {es:List E}{kws:List aq},Yp B c es kws=true->es.length=kws.length
 | [],[],_=>rfl
 | [],_::_,h=>nobE h
 | _::_,[],h=>nobE h
 | e::es,⟨none,x,p⟩::kws,h=>nobE h
 | e::es,⟨some n,x,p⟩::kws,h=>by have h:(chkE B c e x&&Yp B c es kws)=true:=h;rw [γ] at h;simp [Yo h.2]
theorem jr:∀ {kws:List aq}{ks:List Str},yP kws=some ks->ks.length=kws.length
 | [],ks,h=>by cases h;rfl
 | ⟨none,x,p⟩::kws,ks,h=>by cases h
 | ⟨some n,x,p⟩::kws,ks,h=>by
  have h:(yP kws).map (n::·)=some ks:=h;cases e:yP kws with
  | none=>rw [e] at h;cases h
  | some l=>
   rw [e] at h;cases h;simp [jr e]
def TXr (Γ:Gm) (cf:Cf):List E->TA
 | [e]=>fun σ H Q=>TX Γ cf e σ H fun v H1=>Q [v] H1
 | es=>TXs Γ cf es
theorem ym {b:BI}{n:Str}{c:Cc}{X:Cx}{es:List E}{args:List Expr}{p pos:Pos}(ok:XOk Γ B (spN Γ cx) k X c) (hi:isI b=false) (h:(n==biS b&&B.bare.contains n&&gloK (c.names.lookup n)&&zN B c es args&&!es.isEmpty)=true)
  (ih:zN B c es args=true->PA X args (TXr Γ (cx noX) es)):PE X (.Call (.Name n p) args [] pos) (TX Γ (cx noX) (.bi b es))/\PT X (.Call (.Name n p) args [] pos) (TB Γ (cx noX) (.bi b es))/\(wO (.Call (.Name n p) args [] pos)=true->PW X (.Call (.Name n p) args [] pos) (TB Γ (cx noX) (.bi b es))):=by
 simp only [γ] at h;obtain ⟨⟨⟨⟨h1,h2⟩,h3⟩,h4⟩,h5⟩:=h;have e1:=eq_of_beq h1;subst e1;refine only ?_ rfl fun _=>rfl
 have ih:=ih h4;have hst:=yE h4;cases args with
 | nil=>
  cases es with
  | nil=>cases h5
  | cons _ _=>exact nobE h4
 | cons x xs=>
  refine zix ok (ok.glob h3) (ok.bare _ (Β.mp h2)) hst ih fun σ H Q h0=>goX h0 fun ρ S V g Hz hw w env kk=>?_
  match es,hw with
  | [],_=>cases h5
  | [e],hw=>exact ⟨ρ,S,_,g,Hz,hw,w,env,fun x v H1 g1 S1 st w1 vx h1=>by
   obtain ⟨⟨d,fr⟩,eb,q⟩:=zV h1;obtain ⟨r,r1,r2⟩:=zbM (X:=X) (Γ:=Γ) ok.hK ok.room.gd ok.u61 ok.calm hi eb
   exact ⟨r,r1,r2 S1 H1 g1 [v] Q w1 ⟨v,[],rfl,vx.rdb w1,rfl⟩ fun u H2 g2 st2 _ w2 vo=>kk _ u H2 g2 S1 (st.trans st2) w2 ((VN.of vo).back st) q⟩⟩
  | e1::e2::es,hw=>exact ⟨ρ,S,_,g,Hz,hw,w,env,fun ds vs H1 g1 S1 st w1 hv h1=>by
   obtain ⟨⟨d,fr⟩,eb,q⟩:=zV h1;obtain ⟨r,r1,r2⟩:=zbM (X:=X) (Γ:=Γ) ok.hK ok.room.gd ok.u61 ok.calm hi eb
   exact ⟨r,r1,r2 S1 H1 g1 vs Q w1 (UG w1 hv) fun u H2 g2 st2 _ w2 vo=>kk _ u H2 g2 S1 (st.trans st2) w2 ((VN.of vo).back st) q⟩⟩
theorem VB {f:Nat}{n:Str}{c:Cc}{X:Cx}{es:List E}{perm:List Nat}{kws:List aq}{p pos:Pos}(hm:Mono (cx noX)) (ok:XOk Γ B (spN Γ cx) k X c) (h:(B.fns[f]?==some n&&gloK (c.names.lookup n)&&zL n&&Yp B c es kws&&(match yP kws,B.pars[f]? with
      | some ks,some ps=>perm.length==ps.length&&perm.all (· < ks.length)&&perm.map (fun i=>ks.getD i "")==ps&&ks.length==ps.length&&B.kws.contains (f,ks,perm)
      | _,_=>false))=true) (ih:Yp B c es kws=true->PK X kws (TXs Γ (cx noX) es)):PE X (.Call (.Name n p) [] kws pos) (TX Γ (cx noX) (.callk f perm es)):=by
  simp only [γ] at h;obtain ⟨⟨⟨⟨h1,h2⟩,h3⟩,h4⟩,h5⟩:=h;cases hk:yP kws with
  | none=>rw [hk] at h5;cases h5
  | some ks=>
    cases hp:B.pars[f]? with
    | none=>rw [hk,hp] at h5;cases h5
    | some ps=>
      rw [hk,hp] at h5;simp only [γ,beq_iff_eq,Ρ,decide_eq_true_eq] at h5;obtain ⟨⟨⟨⟨g1,g2⟩,g3⟩,g4⟩,g5⟩:=h5;exact zch hm ok (eq_of_beq h1) (uw h3) (ok.glob h2) (zQ h3).1 (ih h4) hk hp g1 g2 g3 g4 (Β.mp g5) (by rw [Yo h4,jr hk])
theorem zau {X:Cx}{c:Cc}{sc:b7}{js:List Nat}{xs:List Str}{t:T}{it elt:E}{ifs:List E}{cs:List Expr}{tgt iter y:Expr}{pos:Pos}(ok:XOk Γ B (spN Γ cx) k X c) (hs:chkS c sc js=true) (hn:wH iter=true) (nd:(xs++js.map (fun j=>c.N.getD j "")).Nodup)
  (hst:qT t=false) (ht:nT t=xs.length) (hr:tIs t=ϛ xs.length) (hT:chkT (inner c sc xs js) t tgt=true) (hi:PI X tgt iter (TXi Γ (cx noX) it))
  (hz:∀ X,XOk Γ B (spN Γ cx) k X (inner c sc xs js)->PTs X cs (TXf Γ (cx noX) ifs)) (he:∀ X,XOk Γ B (spN Γ cx) k X (inner c sc xs js)->PE X y (TX Γ (cx noX) elt)):
  PE X (.ListComp y [⟨tgt,iter,cs,0⟩] sc pos) (TX Γ (cx noX) (.comp t js it ifs elt))/\CSet X (.ListComp y [⟨tgt,iter,cs,0⟩] sc pos) (TX Γ (cx noX) (.comp t js it ifs elt)):=by
 have okI:=fun C s3 H3 fp=>V0 ok hs nd C s3 H3 fp
 refine zaB (Kq (xs:=xs) (tg:=tgOf X.K t) ok.calm (WT ok hs) hi (fun C s3 H3 fp=>Zt (okI C s3 H3 fp) hT) (fun C s3 H3 fp=>hz _ (okI C s3 H3 fp)) (fun C s3 H3 fp=>he _ (okI C s3 H3 fp)) (Yj hn X.env)) fun σ H Q h0=>goX h0 fun ρ S V g Hz hw w env kk=>?_
 refine zat (X:=X) (Qe:=fun D H'=>Q (.ref D) H') hst (fun i hi=>?_) ht ?_ hw w env fun ds Da H' g' S' st w' vx q=>kk _ _ H' g' S' st w' vx q
 ·rw [hr] at hi;rw [ht];exact au.mp hi
 ·exact List.Pairwise.of_map _ (fun a b (h:c.N.getD a ""≠c.N.getD b "") e=>h (by rw [e])) (mq.mp nd).2.1
theorem Yn {t:T}{js:List Nat}{it:E}{ifs:List E}{elt:E}{X:Cx}{c:Cc}{tgt iter y:Expr}{cs:List Expr}{kk:Int}{sc:b7}{pos:Pos}(hI:∀ X c tgt x,XOk Γ B (spN Γ cx) k X c->chkI B c it tgt x=true->PI X tgt x (TXi Γ (cx noX) it)) (hF:∀ X c xs,XOk Γ B (spN Γ cx) k X c->Yq B c ifs xs=true->ifs.length<=1->PTs X xs (TXf Γ (cx noX) ifs)) (hE:∀ X c x,XOk Γ B (spN Γ cx) k X c->chkE B c elt x=true->PE X x (TX Γ (cx noX) elt))
    (ok:XOk Γ B (spN Γ cx) k X c) (h:chkE B c (.comp t js it ifs elt) (.ListComp y [⟨tgt,iter,cs,kk⟩] sc pos)=true):PE X (.ListComp y [⟨tgt,iter,cs,kk⟩] sc pos) (TX Γ (cx noX) (.comp t js it ifs elt))/\CSet X (.ListComp y [⟨tgt,iter,cs,kk⟩] sc pos) (TX Γ (cx noX) (.comp t js it ifs elt)):=by
  have h:(kk==0&&chkS c sc js&&chkI B c it tgt iter&&wH iter&&(match xm tgt with
    | some xs=>decide ((xs++js.map (fun j=>c.N.getD j "")).Nodup)&&nT t==xs.length&&tIs t==ϛ xs.length&&chkT (inner c sc xs js) t tgt&&chkE B (inner c sc xs js) elt y&&Yq B (inner c sc xs js) ifs cs&&decide (ifs.length<=1)
    | none=>false))=true:=h
  simp only [γ] at h;obtain ⟨⟨⟨⟨h1,h2⟩,h3⟩,h4⟩,h5⟩:=h;have e1:=eq_of_beq h1;subst e1;cases ht:xm tgt with
  | none=>rw [ht] at h5;cases h5
  | some xs=>
    rw [ht] at h5;simp only [γ] at h5;obtain ⟨⟨⟨⟨⟨⟨h6,h7⟩,h8⟩,h9⟩,h10⟩,h11⟩,h12⟩:=h5;have hst:qT t=false:=by
      cases t with
      | nst i is=>
        exfalso;cases q:zaM tgt with
        | none=>unfold chkT at h9;rw [if_pos (show qT (.nst i is)=true from rfl),q] at h9;cases h9
        | some z=>rw [W2 q] at ht;cases ht
      | _=>rfl
    exact zau ok h2 h4 (of_decide_eq_true h6) hst (eq_of_beq h7) (eq_of_beq h8) h9 (hI X c tgt iter ok h3) (fun X ok'=>hF X _ cs ok' h11 (of_decide_eq_true h12)) fun X ok'=>hE X _ y ok' h10
mutual
theorem sA (hcf:CfN B (cx noX)) (hm:Mono (cx noX)):∀ (e:E),SE Γ B cx k e
  | .var i=>fun X c x ok h=>by
    have hb:Α x.ctorIdx 23=true:=by revert h;cases x <;> first | exact non | exact fun _=>rfl
    revert h;apply wG hb;clear hb;intro n pos h;have h:(c.N[i]?==some n&&visK (c.names.lookup n)&&zL n)=true:=h;rw [γ,γ] at h;obtain ⟨h1,h2,_⟩:=zQ h.2;exact only (zet (by rw [ok.N];exact eq_of_beq h.1.1) (ok.vis h.1.2) h1 h2) rfl fun _=>rfl
  | .con d=>fun X c x ok h=>by
    have hb:Α x.ctorIdx 19=true:=by revert h;cases x <;> first | exact non | exact fun _=>rfl
    revert h;apply vU hb;clear hb;intro q n pos h;obtain ⟨t,h1,h2⟩:=zbL (Γ:=Γ) (X:=X) h;exact only (zeJ h1 h2 fun _ _ _ q=>q) rfl fun _=>rfl
  | .glo m d=>fun X c x ok h=>by
    have hb:Α x.ctorIdx 23=true:=by revert h;cases x <;> first | exact non | exact fun _=>rfl
    revert h;apply wG hb;clear hb;intro n pos h
    have h:((match B.consts[m]? with
      | some p=>p.1==n&&Vf p.2 d
      | none=>false)&&gloK (c.names.lookup n)&&zL n)=true:=h
    rw [γ,γ] at h;cases e:B.consts[m]? with
    | none=>rw [e] at h;cases h.1.1
    | some q=>
      rw [e] at h;obtain ⟨y,d'⟩:=q;have h1:(y==n&&Vf d' d)=true:=h.1.1;rw [γ] at h1;have e1:=eq_of_beq h1.1;have e2:=Wb _ _ h1.2;subst e1 e2;obtain ⟨u,v,g1,g2,g3⟩:=ok.consts m y d' e;exact only (zeJ (Y6 (ok.glob h.1.2) g1 g2 (zQ h.2).1) g3 fun _ _ _ q=>q) rfl fun _=>rfl
  | .bin op a b=>fun X c x ok h=>by
    have hb:Α x.ctorIdx 2=true:=by revert h;cases x <;> first | exact non | exact fun _=>rfl
    revert h;apply zcO hb;clear hb;intro l op' r pos h;have h:(op==op'&&chkE B c a l&&chkE B c b r)=true:=h;rw [γ,γ] at h;have e1:=eq_of_beq h.1.1;subst e1;exact only (zhD ok.hK (sA hcf hm a X c l ok h.1.2).1 (sA hcf hm b X c r ok h.2).1) rfl fun _=>rfl
  | .neg a=>fun X c x ok h=>by
    have hb:Α x.ctorIdx 3=true:=by revert h;cases x <;> first | exact non | exact fun _=>rfl
    revert h;apply vD hb;clear hb;intro op l pos h;have h:(op==PySem.UnaryOp.USub&&chkE B c a l)=true:=h;rw [γ] at h;have e1:=eq_of_beq h.1;subst e1;exact only (zhq (sA hcf hm a X c l ok h.2).1) rfl fun _=>rfl
  | .cmp op a b=>fun X c x ok h=>by
    have hb:Α x.ctorIdx 15=true:=by revert h;cases x <;> first | exact non | exact fun _=>rfl
    revert h;apply ZW hb;clear hb;intro l ops rs pos h
    match ops,rs,h with
    | [op'],[r],h=>
      have h:(op==op'&&chkE B c a l&&chkE B c b r&&wH r)=true:=h;rw [γ,γ,γ] at h;have e1:=eq_of_beq h.1.1.1;subst e1;have hm':gB op r=false:=by cases r <;> first | rfl | cases h.2
      have:=zhA (pos:=pos) ok.hK ok.u61 (sA hcf hm a X c l ok h.1.1.2).1 (sA hcf hm b X c r ok h.1.2).1 hm';exact ⟨this.1,this.2,fun q=>by cases q⟩
    | [],_,h=>exact nobE h
    | [_],[],h=>exact nobE h
    | [_],_::_::_,h=>exact nobE h
    | _::_::_,_,h=>exact nobE h
  | .chn o1 o2 a b d=>fun X c x ok h=>by
    have hb:Α x.ctorIdx 15=true:=by revert h;cases x <;> first | exact non | exact fun _=>rfl
    revert h;apply ZW hb;clear hb;intro l ops rs pos h
    match ops,rs,h with
    | [p1,p2],[r1,r2],h=>
      have h:(o1==p1&&o2==p2&&chkE B c a l&&chkE B c b r1&&chkE B c d r2&&wH r2)=true:=h;simp only [γ] at h;obtain ⟨⟨⟨⟨⟨h1,h2⟩,h3⟩,h4⟩,h5⟩,h6⟩:=h;have e1:=eq_of_beq h1;have e2:=eq_of_beq h2;subst e1 e2;have hm':lastMarks [o1,o2] [r1,r2]=false:=by cases r2 <;> first | rfl | cases h6
      have:=zhB (pos:=pos) ok.hK ok.u61 (sA hcf hm a X c l ok h3).1 (sA hcf hm b X c r1 ok h4).1 (sA hcf hm d X c r2 ok h5).1 hm';exact ⟨this.1,this.2,fun q=>by cases q⟩
    | [],_,h=>exact nobE h
    | [_],_,h=>exact nobE h
    | [_,_],[],h=>exact nobE h
    | [_,_],[_],h=>exact nobE h
    | [_,_],_::_::_::_,h=>exact nobE h
    | _::_::_::_,_,h=>exact nobE h
  | .not a=>fun X c x ok h=>by
    have hb:Α x.ctorIdx 3=true:=by revert h;cases x <;> first | exact non | exact fun _=>rfl
    revert h;apply vD hb;clear hb;intro op l pos h;have h:(op==PySem.UnaryOp.Not&&chkE B c a l)=true:=h;rw [γ] at h;have e1:=eq_of_beq h.1;subst e1;obtain ⟨i1,i2,_⟩:=sA hcf hm a X c l ok h.2;exact ⟨zhp i1,zeE i2,fun q=>by cases q⟩
  | .and a b=>fun X c x ok h=>by
    have hb:Α x.ctorIdx 0=true:=by revert h;cases x <;> first | exact non | exact fun _=>rfl
    revert h;apply yF hb;clear hb;intro op vs pos h
    match vs,h with
    | l::r::rest,h=>
      have h:(op==iZ.And&&chkE B c a l&&chkE B c b (.BoolOp .And (r::rest) pos))=true:=h;rw [γ,γ] at h;have e1:=eq_of_beq h.1.1;subst e1;obtain ⟨i1,i2,_⟩:=sA hcf hm a X c l ok h.1.2;obtain ⟨j1,_,j3⟩:=sA hcf hm b X c _ ok h.2;have w:=zeL i2 (j3 rfl);exact ⟨zhH i1 j1,w.pt,fun _=>w⟩
    | [],h=>exact nobE h
    | [_],h=>exact nobE h
  | .or a b=>fun X c x ok h=>by
    have hb:Α x.ctorIdx 0=true:=by revert h;cases x <;> first | exact non | exact fun _=>rfl
    revert h;apply yF hb;clear hb;intro op vs pos h
    match vs,h with
    | l::r::rest,h=>
      have h:(op==iZ.Or&&chkE B c a l&&chkE B c b (.BoolOp .Or (r::rest) pos))=true:=h;rw [γ,γ] at h;have e1:=eq_of_beq h.1.1;subst e1;obtain ⟨i1,i2,_⟩:=sA hcf hm a X c l ok h.1.2;obtain ⟨j1,_,j3⟩:=sA hcf hm b X c _ ok h.2;have w:=zho i2 (j3 rfl);exact ⟨s_or i1 j1,w.pt,fun _=>w⟩
    | [],h=>exact nobE h
    | [_],h=>exact nobE h
  | .one a=>fun X c x ok h=>by
    have hb:Α x.ctorIdx 0=true:=by revert h;cases x <;> first | exact non | exact fun _=>rfl
    revert h;apply yF hb;clear hb;intro op vs pos h
    match vs,h with
    | [l],h=>
      obtain ⟨i1,i2,_⟩:=sA hcf hm a X c l ok (show chkE B c a l=true from h);exact ⟨zbh i1,(za4 i2).pt,fun _=>za4 i2⟩
    | [],h=>exact nobE h
    | _::_::_,h=>exact nobE h
  | .ite t a b=>fun X c x ok h=>by
    have hb:Α x.ctorIdx 5=true:=by revert h;cases x <;> first | exact non | exact fun _=>rfl
    revert h;apply zcN hb;clear hb;intro l y z pos h;have h:(chkE B c t l&&chkE B c a y&&chkE B c b z)=true:=h;rw [γ,γ] at h;obtain ⟨_,i2,_⟩:=sA hcf hm t X c l ok h.1.1;obtain ⟨j1,j2,_⟩:=sA hcf hm a X c y ok h.1.2;obtain ⟨k1,k2,_⟩:=sA hcf hm b X c z ok h.2;exact ⟨zhu i2 j1 k1,zeU i2 j2 k2,fun q=>by cases q⟩
  | .tup es=>fun X c x ok h=>by
    have hb:Α x.ctorIdx 25=true:=by revert h;cases x <;> first | exact non | exact fun _=>rfl
    revert h;apply zcK hb;clear hb;intro xs kk pos h;exact only (zha (sEs hcf hm es X c xs ok h)) rfl fun _=>rfl
  | .lst es=>fun X c x ok h=>by
    have hb:Α x.ctorIdx 24=true:=by revert h;cases x <;> first | exact non | exact fun _=>rfl
    revert h;apply ofList hb;clear hb;intro xs pos h;exact only (zht (sEs hcf hm es X c xs ok h)) rfl fun _=>rfl
  | .sub a i=>fun X c x ok h=>by
    have hb:Α x.ctorIdx 21=true:=by revert h;cases x <;> first | exact non | exact fun _=>rfl
    revert h;apply jh hb;clear hb;intro l y pos h;have h:(chkE B c a l&&chkE B c i y)=true:=h;rw [γ] at h;exact only (zhd ok.hK ok.u1 (sA hcf hm a X c l ok h.1).1 (sA hcf hm i X c y ok h.2).1 (Vi h.2)) rfl fun _=>rfl
  | .slc a lo hi=>fun X c x ok h=>by
    have hb:Α x.ctorIdx 21=true:=by revert h;cases x <;> first | exact non | exact fun _=>rfl
    revert h;apply jh hb;clear hb;intro l y pos h;have hb:Α y.ctorIdx 26=true:=by revert h;cases y <;> first | exact non | exact fun _=>rfl
    revert h;apply zcL hb;clear hb;intro lo' hi' st p2 h;cases st with
    | none=>
      have h:(chkE B c a l&&chkO B c lo lo'&&chkO B c hi hi')=true:=h;rw [γ,γ] at h;exact only (zhi ok.hK (sA hcf hm a X c l ok h.1.1).1 (sO hcf hm lo X c lo' ok h.1.2) (sO hcf hm hi X c hi' ok h.2)) rfl fun _=>rfl
    | some _=>exact nobE h
  | .bi b es=>fun X c x ok h=>by
    have hb:Α x.ctorIdx 16=true:=by revert h;cases x <;> first | exact non | exact fun _=>rfl
    revert h;apply vG hb;clear hb;intro f args kws pos h;have hb:Α f.ctorIdx 23=true:=by revert h;cases f <;> first | exact non | exact fun _=>rfl
    revert h;apply wG hb;clear hb;intro n p h;cases kws with
    | nil=>
      cases b with
      | isinst t=>
        match es,args,h with
        | [],_,h=>exact (qi (show (_&&false)=true from h)).elim
        | _::_::_,_,h=>exact (qi (show (_&&false)=true from h)).elim
        | [_],[],h=>exact (qi (show (_&&false)=true from h)).elim
        | [_],[_],h=>exact (qi (show (_&&false)=true from h)).elim
        | [_],_::z::_::_,h=>cases z <;> exact (qi (show (_&&false)=true from h)).elim
        | [e],[y,z],h=>
          cases z with
          | Name z pz=>
            have h:(n==("isinstance":Str)&&B.bare.contains n&&B.bare.contains (tyN t)&&gloK (c.names.lookup n)&&(chkE B c e y&&notStar y&&z==tyN t&&gloK (c.names.lookup z)))=true:=h;simp only [γ] at h;obtain ⟨⟨⟨⟨h1,h2⟩,h3⟩,h4⟩,⟨⟨h5,h6⟩,h7⟩,h8⟩:=h;have e1:=eq_of_beq h1;have e2:=eq_of_beq h7;subst e1 e2;exact only (s_is ok (ok.glob h4) (ok.bare _ (Β.mp h2)) (ok.glob h8) (ok.bare _ (Β.mp h3)) h6 (sA hcf hm e X c y ok h5).1) rfl fun _=>rfl
          | _=>exact (qi (show (_&&false)=true from h)).elim
      | len=>exact ym ok rfl (show (n==biS .len&&B.bare.contains n&&gloK (c.names.lookup n)&&zN B c es args&&!es.isEmpty)=true from h) fun q=>sRs hcf hm es X c args ok q
      | abs=>exact ym ok rfl (show (n==biS .abs&&B.bare.contains n&&gloK (c.names.lookup n)&&zN B c es args&&!es.isEmpty)=true from h) fun q=>sRs hcf hm es X c args ok q
      | int=>exact ym ok rfl (show (n==biS .int&&B.bare.contains n&&gloK (c.names.lookup n)&&zN B c es args&&!es.isEmpty)=true from h) fun q=>sRs hcf hm es X c args ok q
      | str=>exact ym ok rfl (show (n==biS .str&&B.bare.contains n&&gloK (c.names.lookup n)&&zN B c es args&&!es.isEmpty)=true from h) fun q=>sRs hcf hm es X c args ok q
      | tuple=>exact ym ok rfl (show (n==biS .tuple&&B.bare.contains n&&gloK (c.names.lookup n)&&zN B c es args&&!es.isEmpty)=true from h) fun q=>sRs hcf hm es X c args ok q
      | list=>exact ym ok rfl (show (n==biS .list&&B.bare.contains n&&gloK (c.names.lookup n)&&zN B c es args&&!es.isEmpty)=true from h) fun q=>sRs hcf hm es X c args ok q
      | sum=>exact ym ok rfl (show (n==biS .sum&&B.bare.contains n&&gloK (c.names.lookup n)&&zN B c es args&&!es.isEmpty)=true from h) fun q=>sRs hcf hm es X c args ok q
      | all=>exact ym ok rfl (show (n==biS .all&&B.bare.contains n&&gloK (c.names.lookup n)&&zN B c es args&&!es.isEmpty)=true from h) fun q=>sRs hcf hm es X c args ok q
      | any=>exact ym ok rfl (show (n==biS .any&&B.bare.contains n&&gloK (c.names.lookup n)&&zN B c es args&&!es.isEmpty)=true from h) fun q=>sRs hcf hm es X c args ok q
      | min2=>exact ym ok rfl (show (n==biS .min2&&B.bare.contains n&&gloK (c.names.lookup n)&&zN B c es args&&!es.isEmpty)=true from h) fun q=>sRs hcf hm es X c args ok q
      | max2=>exact ym ok rfl (show (n==biS .max2&&B.bare.contains n&&gloK (c.names.lookup n)&&zN B c es args&&!es.isEmpty)=true from h) fun q=>sRs hcf hm es X c args ok q
      | sorted=>exact ym ok rfl (show (n==biS .sorted&&B.bare.contains n&&gloK (c.names.lookup n)&&zN B c es args&&!es.isEmpty)=true from h) fun q=>sRs hcf hm es X c args ok q
      | repr=>exact ym ok rfl (show (n==biS .repr&&B.bare.contains n&&gloK (c.names.lookup n)&&zN B c es args&&!es.isEmpty)=true from h) fun q=>sRs hcf hm es X c args ok q
      | dict=>exact ym ok rfl (show (n==biS .dict&&B.bare.contains n&&gloK (c.names.lookup n)&&zN B c es args&&!es.isEmpty)=true from h) fun q=>sRs hcf hm es X c args ok q
      | sset=>exact nobE h
      | lset=>exact nobE h
      | trev=>exact nobE h
    | cons _ _=>exact nobE h
  | .call f es=>fun X c x ok h=>by
    have hb:Α x.ctorIdx 16=true:=by revert h;cases x <;> first | exact non | exact fun _=>rfl
    revert h;apply vG hb;clear hb;intro q args kws pos h;have hb:Α q.ctorIdx 23=true:=by revert h;cases q <;> first | exact non | exact fun _=>rfl
    revert h;apply wG hb;clear hb;intro n p h;cases kws with
    | nil=>
      have h:(B.fns[f]?==some n&&gloK (c.names.lookup n)&&zL n&&zN B c es args&&!es.isEmpty)=true:=h;simp only [γ] at h;obtain ⟨⟨⟨⟨h1,h2⟩,h3⟩,h4⟩,h5⟩:=h;cases args with
      | nil=>
        cases es with
        | nil=>cases h5
        | cons _ _=>exact nobE h4
      | cons y ys=>exact only (s_call hcf ok (eq_of_beq h1) (uw h3) (ok.glob h2) (zQ h3).1 (yE h4) (sEs hcf hm es X c (y::ys) ok h4)) rfl fun _=>rfl
    | cons _ _=>exact nobE h
  | .callk f perm es=>fun X c x ok h=>by
    have hb:Α x.ctorIdx 16=true:=by revert h;cases x <;> first | exact non | exact fun _=>rfl
    revert h;apply vG hb;clear hb;intro q args kws pos h;have hb:Α q.ctorIdx 23=true:=by revert h;cases q <;> first | exact non | exact fun _=>rfl
    revert h;apply wG hb;clear hb;intro n p h;cases args with
    | nil=>
      refine only (VB hm ok ?_ fun q=>sKs hcf hm es X c kws ok q) rfl fun _=>rfl
      cases kws <;> exact h
    | cons _ _=>exact nobE h
  | .comp t js it ifs elt=>fun X c x ok h=>by
    have hb:Α x.ctorIdx 8=true:=by revert h;cases x <;> first | exact non | exact fun _=>rfl
    revert h;apply kh hb;clear hb;intro y gens sc pos h
    match gens,h with
    | [⟨tgt,iter,cs,kk⟩],h=>exact only (Yn (fun X c tgt x ok q=>sI hcf hm it X c tgt x ok q) (fun X c xs ok q l=>sFs hcf hm ifs X c xs ok q l) (fun X c x ok q=>(sA hcf hm elt X c x ok q).1) ok h).1 rfl fun _=>rfl
    | [],h=>exact nobE h
    | ⟨_,_,_,_⟩::⟨_,_,_,_⟩::_,h=>exact nobE h
  | .box e=>fun X c x ok h=>by
    have h:(U3 x&&chkE B c e x)=true:=h;rw [γ] at h
    have pe:PE X x (TX Γ (cx noX) (.box e)):=((sA hcf hm e X c x ok h.2).1).imp fun σ H Q ⟨ρ,S,V,g,Hz,hw,w,env,kk⟩=>⟨ρ,S,_,g,Hz,hw,w,env,fun y v H1 g1 S1 st w1 vx q=>by
      obtain ⟨d,k⟩:=y;cases k with
      | fr=>
        obtain ⟨g2,s2,w2,h2⟩:=zdy st w1 vx;exact kk (.ref S1.length,.st) v H1 g2 _ s2 w2 h2 q
      | _=>exact q.elim⟩
    have hp:=h.1;cases x <;> first | exact only pe rfl fun _=>rfl | exact nobE hp
  | .dic tk ks es=>fun X c x ok h=>nobE h
  | .mth m o es=>fun X c x ok h=>by
    have hb:Α x.ctorIdx 16=true:=by revert h;cases x <;> first | exact non | exact fun _=>rfl
    revert h;apply vG hb;clear hb;intro f args kws pos h;obtain ⟨w,ap,y,ys,rfl,rfl,rfl,h1,h2,h3,h4,h5⟩:=zfz h;exact only (zhr ok (sA hcf hm o X c w ok h1).1 (yE h2) (sEs hcf hm es X c (y::ys) ok h2) h3 h4 h5) rfl fun _=>rfl
  | .att cs o f=>fun X c x ok h=>by
    have hb:Α x.ctorIdx 20=true:=by revert h;cases x <;> first | exact non | exact fun _=>rfl
    revert h;apply Y9 hb;clear hb;intro y g pos h;have h:(f==g&&chkE B c o y&&xK y&&cs.all (vI B f))=true:=h;simp only [γ] at h;obtain ⟨⟨⟨h1,h2⟩,h3⟩,h4⟩:=h;have e1:=eq_of_beq h1;subst e1;exact only (zhF ok (sA hcf hm o X c y ok h2).1 h3 (Ρ.mp h4)) rfl fun _=>rfl
  | .met ms o m es=>fun X c x ok h=>by
    have hb:Α x.ctorIdx 16=true:=by revert h;cases x <;> first | exact non | exact fun _=>rfl
    revert h;apply vG hb;clear hb;intro f args kws pos h
    have h:(match wC f with
      | some q=>q.2.1==m&&chkE B c o q.1&&zN B c es args&&yc kws&&q.2.2.endLine==pos.line&&xK q.1&&ms.all (Vo B m)&&decide (es.length<=9)
      | none=>false)=true:=h
    cases e:wC f with
    | none=>rw [e] at h;exact nobE h
    | some q=>
      rw [e] at h;have h:(q.2.1==m&&chkE B c o q.1&&zN B c es args&&yc kws&&q.2.2.endLine==pos.line&&xK q.1&&ms.all (Vo B m)&&decide (es.length<=9))=true:=h;simp only [γ] at h;obtain ⟨⟨⟨⟨⟨⟨⟨h1,h2⟩,h3⟩,h4⟩,h5⟩,h6⟩,h7⟩,h8⟩:=h;have e1:=eq_of_beq h1;subst e1;cases vO e;cases yd h4;exact only (zhs hcf ok (sA hcf hm o X c q.1 ok h2).1 h6 (yE h3) (by rw [<- jD h3];exact of_decide_eq_true h8) h5 (sEs hcf hm es X c args ok h3) (fun z=>by subst z;cases es with | nil=>rfl | cons _ _=>exact nobE h3) (Ρ.mp h7)) rfl fun _=>rfl
  | .mk n f es=>fun X c x ok h=>by
    have hb:Α x.ctorIdx 16=true:=by revert h;cases x <;> first | exact non | exact fun _=>rfl
    revert h;apply vG hb;clear hb;intro q args kws pos h;have hb:Α q.ctorIdx 23=true:=by revert h;cases q <;> first | exact non | exact fun _=>rfl
    revert h;apply wG hb;clear hb;intro nm p h;cases kws with
    | nil=>
      have h:(n==nm&&gloK (c.names.lookup nm)&&zL nm&&zN B c es args&&!es.isEmpty&&B.obs.any (fun o=>o.name==n&&o.meths.contains (("__init__":Str),f)))=true:=h;simp only [γ] at h;obtain ⟨⟨⟨⟨⟨h1,h2⟩,h3⟩,h4⟩,h5⟩,h6⟩:=h;have e1:=eq_of_beq h1;subst e1;cases args with
      | nil=>
        cases es with
        | nil=>cases h5
        | cons _ _=>exact nobE h4
      | cons y ys=>exact only (s_mk hcf ok (ok.glob h2) (zQ h3).1 (yE h4) (sEs hcf hm es X c (y::ys) ok h4) (zbo (q:=(n,f)) h6)) rfl fun _=>rfl
    | cons _ _=>exact nobE h
  | .flip e=>fun X c x ok h=>nobE h
  | .dk1 a b=>fun X c x ok h=>nobE h
  | .callv i es=>fun X c x ok h=>by
    have hb:Α x.ctorIdx 16=true:=by revert h;cases x <;> first | exact non | exact fun _=>rfl
    revert h;apply vG hb;clear hb;intro q args kws pos h;have hb:Α q.ctorIdx 23=true:=by revert h;cases q <;> first | exact non | exact fun _=>rfl
    revert h;apply wG hb;clear hb;intro n p h;cases kws with
    | nil=>
      have h:(c.N[i]?==some n&&visK (c.names.lookup n)&&zL n&&zN B c es args&&!es.isEmpty)=true:=h;simp only [γ] at h;obtain ⟨⟨⟨⟨h1,h2⟩,h3⟩,h4⟩,h5⟩:=h;obtain ⟨p1,p2,_⟩:=zQ h3;cases args with
      | nil=>
        cases es with
        | nil=>cases h5
        | cons _ _=>exact nobE h4
      | cons y ys=>exact only (zcg hcf ok (by rw [ok.N];exact eq_of_beq h1) (ok.vis h2) p1 p2 (yE h4) (sEs hcf hm es X c (y::ys) ok h4)) rfl fun _=>rfl
    | cons _ _=>exact nobE h
  | .seq _=>fun X c x ok h=>none_of fun _ _ _ q=>q
  | .rng _ _=>fun X c x ok h=>none_of fun _ _ _ q=>q
  | .enum _=>fun X c x ok h=>none_of fun _ _ _ q=>q
  | .zip _ _=>fun X c x ok h=>none_of fun _ _ _ q=>q
  | .rev _=>fun X c x ok h=>none_of fun _ _ _ q=>q
  | .dwn _=>fun X c x ok h=>none_of fun _ _ _ q=>q
  | .keys _=>fun X c x ok h=>none_of fun _ _ _ q=>q
  | .items _=>fun X c x ok h=>none_of fun _ _ _ q=>q
theorem sRs (hcf:CfN B (cx noX)) (hm:Mono (cx noX)):∀ (es:List E) (X:Cx) (c:Cc) (xs:List Expr),XOk Γ B (spN Γ cx) k X c->zN B c es xs=true->PA X xs (TXr Γ (cx noX) es)
 | [],X,c,xs,ok,h=>by
  cases xs with
  | nil=>exact zeF
  | cons _ _=>exact nobE h
 | [e],X,c,xs,ok,h=>by
  cases xs with
  | nil=>exact nobE h
  | cons x xs=>
   have h:(chkE B c e x&&notStar x&&zN B c [] xs)=true:=h;rw [γ,γ] at h;cases xs with
   | nil=>exact zZ (sA hcf hm e X c x ok h.1.1).1 xM (zb h.1.2 _ _)
   | cons _ _=>exact nobE h.2
 | e::f::es,X,c,xs,ok,h=>by
  cases xs with
  | nil=>exact nobE h
  | cons x xs=>
   have h:(chkE B c e x&&notStar x&&zN B c (f::es) xs)=true:=h;rw [γ,γ] at h;exact za5 h.1.2 (sA hcf hm e X c x ok h.1.1).1 (sEs hcf hm (f::es) X c xs ok h.2)
theorem sEs (hcf:CfN B (cx noX)) (hm:Mono (cx noX)):∀ (es:List E) (X:Cx) (c:Cc) (xs:List Expr),XOk Γ B (spN Γ cx) k X c->zN B c es xs=true->PA X xs (TXs Γ (cx noX) es)
 | [],X,c,xs,ok,h=>by
  cases xs with
  | nil=>exact zeF
  | cons _ _=>exact nobE h
 | e::es,X,c,xs,ok,h=>by
  cases xs with
  | nil=>exact nobE h
  | cons x xs=>
   have h:(chkE B c e x&&notStar x&&zN B c es xs)=true:=h;rw [γ,γ] at h;exact za5 h.1.2 (sA hcf hm e X c x ok h.1.1).1 (sEs hcf hm es X c xs ok h.2)
theorem sPs {pos:Pos}(hcf:CfN B (cx noX)) (hm:Mono (cx noX)):∀ (es:List E) (X:Cx) (c:Cc) (vals:List Expr) (ks:List Key) (keys:List (Option Expr)),XOk Γ B (spN Γ cx) k X c->Yq B c es vals=true->KC ks keys=true->ks.length=es.length->PPd X pos keys vals ks (TXs Γ (cx noX) es)
 | [],X,c,vals,ks,keys,ok,h,hk,hl=>by
  cases vals with
  | cons _ _=>exact nobE h
  | nil=>
   cases ks with
   | cons _ _=>cases hl
   | nil=>
    cases keys with
    | cons _ _=>exact nobE hk
    | nil=>exact zeC
 | a::es,X,c,vals,ks,keys,ok,h,hk,hl=>by
  cases vals with
  | nil=>exact nobE h
  | cons x vals=>
   have h:(chkE B c a x&&Yq B c es vals)=true:=h;rw [γ] at h;cases ks with
   | nil=>cases hl
   | cons k0 ks=>
    obtain ⟨q,n,p,r,rfl,hc,hr⟩:=Vz hk;exact zce (hc X) (sA hcf hm a X c x ok h.1).1 (sPs hcf hm es X c vals ks r ok h.2 hr (by simpa using hl))
theorem sKs (hcf:CfN B (cx noX)) (hm:Mono (cx noX)):∀ (es:List E) (X:Cx) (c:Cc) (kws:List aq),XOk Γ B (spN Γ cx) k X c->Yp B c es kws=true->PK X kws (TXs Γ (cx noX) es)
 | [],X,c,xs,ok,h=>by
  cases xs with
  | nil=>exact zeG
  | cons _ _=>exact nobE h
 | e::es,X,c,xs,ok,h=>by
  cases xs with
  | nil=>exact nobE h
  | cons q xs=>
   obtain ⟨n,x,kp⟩:=q;cases n with
   | none=>exact nobE h
   | some n=>
    have h:(chkE B c e x&&Yp B c es xs)=true:=h;rw [γ] at h;exact zcf (sA hcf hm e X c x ok h.1).1 (sKs hcf hm es X c xs ok h.2)
theorem sI (hcf:CfN B (cx noX)) (hm:Mono (cx noX)):∀ (e:E) (X:Cx) (c:Cc) (tgt x:Expr),XOk Γ B (spN Γ cx) k X c->chkI B c e tgt x=true->PI X tgt x (TXi Γ (cx noX) e)
 | .seq e,X,c,tgt,x,ok,h=>zhk ok.hK (sA hcf hm e X c x ok h).1
 | .keys e,X,c,tgt,x,ok,h=>zeH (sA hcf hm e X c x ok h).1
 | .rng none hi,X,c,tgt,x,ok,h=>by
  have hb:Α x.ctorIdx 16=true:=by revert h;cases x <;> first | exact non | exact fun _=>rfl
  revert h;apply vG hb;clear hb;intro q args kws pos h;have hb:Α q.ctorIdx 23=true:=by revert h;cases q <;> first | exact non | exact fun _=>rfl
  revert h;apply wG hb;clear hb;intro n p h;cases kws with
  | nil=>
   match args,h with
   | [y],h=>
    have h:(n==("range":Str)&&B.bare.contains n&&gloK (c.names.lookup n)&&chkE B c hi y&&notStar y)=true:=h;simp only [γ] at h;obtain ⟨⟨⟨⟨h1,h2⟩,h3⟩,h4⟩,h5⟩:=h;have e1:=eq_of_beq h1;subst e1;exact zez (ok.glob h3) (ok.bare _ (Β.mp h2)) h5 (sA hcf hm hi X c y ok h4).1
   | [],h=>exact nobE h
   | _::_::_,h=>exact nobE h
  | cons _ _=>rcases args with _ | ⟨_,_ | ⟨_,_ | ⟨_,_⟩⟩⟩ <;> exact nobE h
 | .rng (some _) _,X,c,tgt,x,ok,h=>nobE h
 | .enum e,X,c,tgt,x,ok,h=>nobE h
 | .var _,X,c,tgt,x,ok,h=>nobE h
 | .con _,X,c,tgt,x,ok,h=>nobE h
 | .glo _ _,X,c,tgt,x,ok,h=>nobE h
 | .bin _ _ _,X,c,tgt,x,ok,h=>nobE h
 | .neg _,X,c,tgt,x,ok,h=>nobE h
 | .cmp _ _ _,X,c,tgt,x,ok,h=>nobE h
 | .chn _ _ _ _ _,X,c,tgt,x,ok,h=>nobE h
 | .not _,X,c,tgt,x,ok,h=>nobE h
 | .and _ _,X,c,tgt,x,ok,h=>nobE h
 | .or _ _,X,c,tgt,x,ok,h=>nobE h
 | .ite _ _ _,X,c,tgt,x,ok,h=>nobE h
 | .tup _,X,c,tgt,x,ok,h=>nobE h
 | .lst _,X,c,tgt,x,ok,h=>nobE h
 | .dic _ _ _,X,c,tgt,x,ok,h=>nobE h
 | .sub _ _,X,c,tgt,x,ok,h=>nobE h
 | .slc _ _ _,X,c,tgt,x,ok,h=>nobE h
 | .bi _ _,X,c,tgt,x,ok,h=>nobE h
 | .mth _ _ _,X,c,tgt,x,ok,h=>nobE h
 | .call _ _,X,c,tgt,x,ok,h=>nobE h
 | .callk _ _ _,X,c,tgt,x,ok,h=>nobE h
 | .callv _ _,X,c,tgt,x,ok,h=>nobE h
 | .comp _ _ _ _ _,X,c,tgt,x,ok,h=>nobE h
 | .box _,X,c,tgt,x,ok,h=>nobE h
 | .one _,X,c,tgt,x,ok,h=>nobE h
 | .flip _,X,c,tgt,x,ok,h=>nobE h
 | .dk1 _ _,X,c,tgt,x,ok,h=>nobE h
 | .att _ _ _,X,c,tgt,x,ok,h=>nobE h
 | .met _ _ _ _,X,c,tgt,x,ok,h=>nobE h
 | .mk _ _ _,X,c,tgt,x,ok,h=>nobE h
 | .zip a b,X,c,tgt,x,ok,h=>by
  have hb:Α x.ctorIdx 16=true:=by revert h;cases x <;> first | exact non | exact fun _=>rfl
  revert h;apply vG hb;clear hb;intro q args kws pos h;have hb:Α q.ctorIdx 23=true:=by revert h;cases q <;> first | exact non | exact fun _=>rfl
  revert h;apply wG hb;clear hb;intro n p h;cases kws with
  | nil=>
   match args,h with
   | [x,y],h=>
    have h:(zbB tgt&&n==("zip":Str)&&B.bare.contains n&&gloK (c.names.lookup n)&&chkE B c a x&&notStar x&&chkE B c b y&&notStar y)=true:=h;simp only [γ] at h;obtain ⟨⟨⟨⟨⟨⟨⟨h0,h1⟩,h2⟩,h3⟩,h4⟩,h5⟩,h6⟩,h7⟩:=h;have e1:=eq_of_beq h1;subst e1;cases tgt with
    | Tuple elts kk tp=>exact zg9 (ok.glob h3) (ok.bare _ (Β.mp h2)) h5 h7 (sA hcf hm a X c x ok h4).1 (sA hcf hm b X c y ok h6).1
    | _=>exact nobE h0
   | [],h=>exact nobE h
   | [_],h=>exact nobE h
   | _::_::_::_,h=>exact nobE h
  | cons _ _=>rcases args with _ | ⟨_,_ | ⟨_,_ | ⟨_,_⟩⟩⟩ <;> exact nobE h
 | .dwn es,X,c,tgt,x,ok,h=>nobE h
 | .rev hi,X,c,tgt,x,ok,h=>nobE h
 | .items e,X,c,tgt,x,ok,h=>nobE h
theorem sFs (hcf:CfN B (cx noX)) (hm:Mono (cx noX)):∀ (es:List E) (X:Cx) (c:Cc) (xs:List Expr),XOk Γ B (spN Γ cx) k X c->Yq B c es xs=true->es.length<=1->PTs X xs (TXf Γ (cx noX) es)
 | [],X,c,xs,ok,h,_=>by
  cases xs with
  | nil=>exact s_fn
  | cons _ _=>exact nobE h
 | [e],X,c,xs,ok,h,_=>by
  cases xs with
  | nil=>exact nobE h
  | cons x xs=>
   have h:(chkE B c e x&&Yq B c [] xs)=true:=h;rw [γ] at h;cases xs with
   | nil=>exact s_f1 (sA hcf hm e X c x ok h.1).2.1
   | cons _ _=>cases (show false=true from h.2)
 | _::_::_,X,c,xs,ok,h,hl=>by exfalso;simp at hl
theorem sO (hcf:CfN B (cx noX)) (hm:Mono (cx noX)):∀ (o:Option E) (X:Cx) (c:Cc) (x:Option Expr),XOk Γ B (spN Γ cx) k X c->chkO B c o x=true->PO X x (TXo Γ (cx noX) o)
 | none,X,c,x,ok,h=>by
  cases x with
  | none=>exact zhn
  | some _=>exact nobE h
 | some o,X,c,x,ok,h=>by
  cases x with
  | none=>exact nobE h
  | some x=>exact s_po (sA hcf hm o X c x ok h).1
end
theorem sCS (hcf:CfN B (cx noX)) (hm:Mono (cx noX)) {t:T}{js:List Nat}{it:E}{ifs:List E}{elt:E}{X:Cx}{c:Cc}{x:Expr}(ok:XOk Γ B (spN Γ cx) k X c) (h:chkE B c (.comp t js it ifs elt) x=true):CSet X x (TX Γ (cx noX) (.comp t js it ifs elt)):=by
 have hb:Α x.ctorIdx 8=true:=by revert h;cases x <;> first | exact non | exact fun _=>rfl
 revert h;apply kh hb;clear hb;intro y gens sc pos h
 match gens,h with
 | [⟨tgt,iter,cs,kk⟩],h=>exact (Yn (sI hcf hm it) (sFs hcf hm ifs) (fun X c x ok q=>(sA hcf hm elt X c x ok q).1) ok h).2
 | [],h=>exact nobE h
 | ⟨_,_,_,_⟩::⟨_,_,_,_⟩::_,h=>exact nobE h
end
section
variable {X:Cx}{Γ:Gm}{Hz H:Hp}{gz g:G}{ρ:List Slot}{σ:L2.St}{S:Store}{x:Expr}{a:Addr}
theorem EnvO.zgS {i:Nat}{c c':D}{o':HO}(env:EnvO Γ Hz H g ρ σ) (hi:ρ[i]?=some (.ow c)) (ha:σ[i]?=some (some (.ref a))) (hc:zY Γ (upd H a o') g a c') (hin:wA c'=false):EnvO Γ Hz (upd H a o') g (ρ.set i (.ow c')) σ:=by
 obtain ⟨a',e1,e2,e3,e4,e5,e6⟩:=env.ow i c hi;rw [ha] at e1;cases e1;refine ⟨by rw [ϥ];exact env.len,fun j e q=>?_,fun j e q=>?_,fun j j' e e' b q1 q2 q3 q4=>?_⟩
 ·rcases zz q with ⟨rfl,h1,h2⟩ | ⟨h1,h2⟩
  ·cases h2
  ·exact env.sh j e h2
 ·rcases zz q with ⟨rfl,h1,h2⟩ | ⟨h1,h2⟩
  ·cases h2;exact ⟨a,ha,e2,e3,e4,hc,hin⟩
  ·obtain ⟨b,f1,f2,f3,f4,f5,f6⟩:=env.ow j e h2;have hb:b≠a:=by rintro rfl;exact h1 (env.inj i j c e b hi h2 ha f1)
   exact ⟨b,f1,f2,f3,f4,f5.mono (Le.refl g) fun o z=>by rw [zm hb];exact z,f6⟩
 ·have ow:∀ {j:Nat}{e:D},(ρ.set i (Slot.ow c'))[j]?=some (.ow e)->∃ e,ρ[j]?=some (.ow e):=fun {j e} q=>by
   rcases zz q with ⟨rfl,h1,h2⟩ | ⟨h1,h2⟩
   ·exact ⟨c,hi⟩
   ·exact ⟨e,h2⟩
  obtain ⟨_,w1⟩:=ow q1;obtain ⟨_,w2⟩:=ow q2;exact env.inj j j' _ _ b w1 w2 q3 q4
theorem EnvO.qt {o':HO}(env:EnvO Γ Hz H g ρ σ) (ha:a∈g.α):EnvO Γ Hz (upd H a o') g ρ σ:=by
 refine ⟨env.len,env.sh,fun i d h=>?_,env.inj⟩;obtain ⟨b,f1,f2,f3,f4,f5,f6⟩:=env.ow i d h;have hb:b≠a:=by rintro rfl;exact f4 ha
 exact ⟨b,f1,f2,f3,f4,f5.mono (Le.refl g) fun o z=>by rw [zm hb];exact z,f6⟩
theorem Step.yw {H':Hp}{g':G}{o':HO}(s:Step H g H' g') (ha:a∈g'.α):Step H g (upd H' a o') g' where
 le:=s.le
 fr:=fun b u e n=>by
  have hb:b≠a:=by
   rintro rfl;rcases s.na b ha with q | q
   ·exact n q
   ·rw [e] at q;cases q
  rw [zm hb];exact s.fr b u e n
 ex:=fun b u e=>by
  by_cases hb:b=a
  ·subst hb;exact ⟨o',zy⟩
  ·rw [zm hb];exact s.ex b u e
 na:=s.na
 nr:=s.nr
theorem WOk.yw {o':HO}{n:Nat}{c c':D}(w:WOk Γ H g S) (he:S[n]?=some c) (hg:gone c=false) (hn:g.α[n]?=some a) (hc:zY Γ (upd H a o') g a c'):WOk Γ (upd H a o') g (S.set n c') where
 rh:=fun b u q=>by
  have hb:b≠a:=by rintro rfl;rw [w.off n c b he hn hg] at q;cases q
  rw [zm hb];exact w.rh b u q
 len:=by rw [ϥ];exact w.len
 nd:=w.nd
 off:=fun k d b h1 h2 h3=>by
  rcases zz h1 with ⟨rfl,z1,rfl⟩ | ⟨z1,z2⟩
  ·rw [hn] at h2;cases h2;exact w.off _ c _ he hn hg
  ·exact w.off k d b z2 h2 h3
 cell:=fun k c b h1 h2=>by
  rcases zz h1 with ⟨rfl,z1,rfl⟩ | ⟨z1,z2⟩
  ·rw [hn] at h2;cases h2;exact hc
  ·have hb:b≠a:=by rintro rfl;exact z1 ((nodup_inj w.nd hn h2))
   exact (w.cell k c b z2 h2).mono (Le.refl g) fun o z=>by rw [zm hb];exact z
where
 nodup_inj:∀ {l:List Addr}{i j:Nat}{b:Addr},l.Nodup->l[i]?=some b->l[j]?=some b->i=j:=fun {l i j b} nd h1 h2=>by
  have hi:=(ο.mp h1).1;have hj:=(ο.mp h2).1;have e:l[i]?=l[j]?:=by rw [h1,h2]
  exact (my hi nd).mp e
theorem size_of {n:Nat}(h:fits (n+1)=true):n < sizeLine:=by have:=xW h;lia
theorem zde {env:Env}{cpos:Pos}(hs:notStar x=true):((bK cpos (ϐ [x] env)).all (fun x=>!x.1)&&(aM cpos (ϯ [] env)).all (fun x=>x.1.isSome)
  &&decide (([x]:List Expr).length+([]:List aq).length+(if ([]:List aq).isEmpty then 0 else 1) < 30))=true:=by rw [zb hs];rfl
end
section
variable {κ:Type} [DecidableEq κ]
theorem Ws {α:Type}:∀ (ks:List κ) (ds:List α) (k:κ) (d:α),(mapK ks ds k d).length=ds.length
 | [],ds,_,_=>by cases ds <;> rfl
 | _::_,[],_,_=>rfl
 | a::ks,b::ds,k,d=>by simp [mapK,Ws ks ds k d]
theorem VP:∀ (ks:List κ) (vs:List V) (k:κ),ks.length=vs.length->((ks.zip vs).any fun kv=>decide (kv.1=k))=hasK ks k
 | [],[],_,_=>rfl
 | a::ks,v::vs,k,h=>by have:=VP ks vs k (by simpa using h);unfold hasK at this ⊢;simp only [aH,cZ,this]
 | [],_::_,_,h=>by simp at h
 | _::_,[],_,h=>by simp at h
theorem VL:∀ (ks:List κ) (vs:List V) (k:κ) (v:V),(ks.zip vs).map (fun kv=>if kv.1=k then (kv.1,v) else kv)=ks.zip (mapK ks vs k v)
 | [],vs,_,_=>by cases vs <;> rfl
 | _::_,[],_,_=>rfl
 | a::ks,u::vs,k,v=>by
  have:=VL ks vs k v;simp only [aH,ϳ,this,mapK];by_cases h:a=k
  ·simp [h]
  ·simp [h]
theorem Wg {ks:List κ}{vs:List V}{k:κ}{v:V}(h:ks.length=vs.length):putK (ks.zip vs) k v=(yq ks vs k v).1.zip (yq ks vs k v).2:=by
 unfold putK yq;rw [VP ks vs k h];by_cases q:hasK ks k=true
 ·rw [if_pos q,if_pos q,VL]
 ·rw [if_neg q,if_neg q];simp [List.zip_append h]
theorem ZJ {α:Type}{ks:List κ}{ds:List α}{k:κ}{d:α}(h:ks.length=ds.length):(yq ks ds k d).1.length=(yq ks ds k d).2.length:=by
 unfold yq;split
 ·simp [Ws,h]
 ·simp [h]
theorem Yd {Γ:Gm}{g:G}:∀ {ks:List κ}{ds:List D}{vs:List V}{k:κ}{d:D}{v:V},Hass Γ g ds vs->Has Γ g d v->Hass Γ g (mapK ks ds k d) (mapK ks vs k v)
 | [],ds,vs,_,_,_,h,_=>by
  have e1:mapK ([]:List κ) ds=fun _ _=>ds:=by funext a b;cases ds <;> rfl
  have e2:mapK ([]:List κ) vs=fun _ _=>vs:=by funext a b;cases vs <;> rfl
  rw [e1,e2];exact h
 | _::_,[],vs,_,_,_,h,_=>by cases (show vs=[] from h);exact rfl
 | a::ks,b::ds,_,k,d,v,⟨u,r,e,h1,h2⟩,hd=>by
  subst e;refine ⟨if a=k then v else u,mapK ks r k v,rfl,?_,Yd h2 hd⟩;split
  ·exact hd
  ·exact h1
theorem kJ {Γ:Gm}{g:G}{ks:List κ}{ds:List D}{vs:List V}{k:κ}{d:D}{v:V}(h:Hass Γ g ds vs) (hd:Has Γ g d v):Hass Γ g (yq ks ds k d).2 (yq ks vs k v).2:=by
 unfold yq;split
 ·exact Yd h hd
 ·exact h.app (Hass.mk1 hd)
theorem j8 {α β:Type}{ks:List κ}{ds:List α}{es:List β}{k:κ}{d:α}{e:β}:(yq ks ds k d).1=(yq ks es k e).1:=by unfold yq;split <;> rfl
end
def zeQ:TSet:=fun o i v H Q=>zeR o i v H Q\/∃ a H',o=.ref a/\DPut H a i v H'/\Q H'
theorem zca {X:Cx}(hu:X.A.units+1 < ϰ):PSet X zeQ:=by
 intro pj s σ H o i v ov iv u Q I r1 r2 r3 h;rcases h with h | ⟨a,H',rfl,hp,q⟩
 ·exact set_list pj s σ H o i v ov iv u Q I r1 r2 r3 h
 ·cases r1;exact Km hu I hp r2 r3 fun s' I'=>⟨H',I',q⟩
set_option tactic.hygienic true in
theorem QF {Γ:Gm}{H:Hp}{g:G}{a:Addr}{c c' kd d:D}{vk vd:V}(h:putD c kd d=some c') (hc:zY Γ H g a c) (sm:Same g.R H) (hk:Has Γ g kd vk) (hd:Has Γ g d vd):
    ∃ o',(∀ Q:Hp->Prop,Q (upd H a o')->zeQ (.ref a) vk vd H Q)/\zY Γ (upd H a o') g a c'/\wA c'=false:=by
  cases c with
  | lst l=>
   cases kd with
   | int i=>
    have h:(idx l.length i).map (fun k=>D.lst (l.set k d))=some c':=h;cases e:idx l.length i with
    | none=>rw [e] at h;cases h
    | some j=>
      rw [e] at h;cases h;obtain ⟨vs,h1,h2⟩:=hc;cases (show vk=.int i from hk);refine ⟨.lst (vs.set j vd),fun Q q=>.inl ⟨a,vs,i,j,rfl,rfl,h1,by rw [h2.len];exact e,q⟩,⟨_,zy,h2.set j hd⟩,rfl⟩
   | _=>cases h
  | dK ks ds=>
    have h:(keyD kd).bind (fun k=>if fits (ks.length+1) then some (let p:=yq ks ds k d;D.dK p.1 p.2) else none)=some c':=by cases kd <;> exact h
    cases e:keyD kd with
    | none=>rw [e] at h;cases h
    | some k=>
      rw [e] at h;have h:(if fits (ks.length+1)=true then some (D.dK (yq ks ds k d).1 (yq ks ds k d).2) else none)=some c':=h;split at h
      · rename_i hf
        cases h;obtain ⟨vs,h1,h2,h3⟩:=hc;have ek:=Wy e hk;subst ek;have el:ks.length=vs.length:=by rw [h3.len];exact h2
        refine ⟨.dK ((yq ks vs k vd).1.zip (yq ks vs k vd).2),fun Q q=>.inr ⟨a,_,rfl,DPut.k h1 (by rw [dJ];have:=size_of hf;lia),?_⟩,⟨_,?_,ZJ h2,kJ h3 hd⟩,rfl⟩
        · rw [Wg el];exact q
        · rw [zy,j8 (ds:=ds) (es:=vs) (d:=d) (e:=vd)]
      · cases h
  | dT ks ds=>
   cases kd with
   | tup t=>
    have h:(qM t).bind (fun k=>if fits (ks.length+1) then some (let p:=yq ks ds k d;D.dT p.1 p.2) else none)=some c':=h;cases e:qM t with
    | none=>rw [e] at h;cases h
    | some k=>
      rw [e] at h;have h:(if fits (ks.length+1)=true then some (D.dT (yq ks ds k d).1 (yq ks ds k d).2) else none)=some c':=h;split at h
      · rename_i hf
        cases h;obtain ⟨vs,h1,h2,h3⟩:=hc;obtain ⟨b,us,rfl,h4,h5⟩:=hk;have ek:=uJ e h5;subst ek;have el:ks.length=vs.length:=by rw [h3.len];exact h2
        refine ⟨.dT ((yq ks vs k vd).1.zip (yq ks vs k vd).2),fun Q q=>.inr ⟨a,_,rfl,DPut.t h1 (sm _ _ h4) (by rw [dJ];have:=size_of hf;lia),?_⟩,⟨_,?_,ZJ h2,kJ h3 hd⟩,rfl⟩
        · rw [Wg el];exact q
        · rw [zy,j8 (ds:=ds) (es:=vs) (d:=d) (e:=vd)]
      · cases h
   | _=>cases h
  | _=>cases h
structure EN (Γ:Gm) (Hz:Hp) (gz g:G) (E:Ends) (K:Ko):Prop where
 nx:∀ ρ σ H g' S,Step Hz gz H g'->Le g g'->WOk Γ H g' S->EnvO Γ Hz H g' ρ σ->K (.next ρ) S->E.nx σ H
 bk:∀ ρ σ H g' S,Step Hz gz H g'->Le g g'->WOk Γ H g' S->EnvO Γ Hz H g' ρ σ->K (.brk ρ) S->E.bk σ H
 ct:∀ ρ σ H g' S,Step Hz gz H g'->Le g g'->WOk Γ H g' S->EnvO Γ Hz H g' ρ σ->K (.cnt ρ) S->E.ct σ H
 rt:∀ d fr v H g' S,Step Hz gz H g'->Le g g'->WOk Γ H g' S->VOk Γ Hz d fr v H g'->K (.ret d fr) S->E.rt v H
theorem EN.le {Γ:Gm}{Hz:Hp}{gz g g1:G}{E:Ends}{K:Ko}(n:EN Γ Hz gz g E K) (le:Le g g1):EN Γ Hz gz g1 E K:=
 ⟨fun ρ σ H g' S st l=>n.nx ρ σ H g' S st (le.trans l),fun ρ σ H g' S st l=>n.bk ρ σ H g' S st (le.trans l),fun ρ σ H g' S st l=>n.ct ρ σ H g' S st (le.trans l),fun d fr v H g' S st l=>n.rt d fr v H g' S st (le.trans l)⟩
def TK (Γ:Gm) (Hz:Hp) (gz:G) (W:List Slot->Ko->Store->Prop):TS:=fun E σ H=>∃ ρ S K g,W ρ K S/\Step Hz gz H g/\WOk Γ H g S/\EnvO Γ Hz H g ρ σ/\EN Γ Hz gz g E K
theorem goK {Γ:Gm}{Hz:Hp}{gz:G}{W:List Slot->Ko->Store->Prop}{E:Ends}{σ:L2.St}{H:Hp}{P:Prop}(h:TK Γ Hz gz W E σ H) (f:∀ ρ S K g,W ρ K S->Step Hz gz H g->WOk Γ H g S->EnvO Γ Hz H g ρ σ->EN Γ Hz gz g E K->P):P:=
 let ⟨ρ,S,K,g,a,b,c,d,e⟩:=h;f ρ S K g a b c d e
abbrev TC (Γ:Gm) (cx:Xp->Cf) (ex:Xp) (w:Nat) (Hz:Hp) (gz:G) (c:C):TS:=TK Γ Hz gz (wpC cx ex w c)
abbrev TCs (Γ:Gm) (cx:Xp->Cf) (ex:Xp) (w:Nat) (Hz:Hp) (gz:G) (cs:List C):TS:=TK Γ Hz gz (wpCs cx ex w cs)
section
variable {X:Cx}{Γ:Gm}{cx:Xp->Cf}{ex:Xp}{w:Nat}{Hz:Hp}{gz:G}{st:Stmt}{sts aa bb:List Stmt}{x y z tgt o:Expr}{pos p spos:Pos}{e a b:E}{s:C}{ss A B:List C}
theorem Vb {i:Expr}(h:∀ lo hi st p,i≠.Slice lo hi st p) (v:δ) (env:Env):dD (.Subscript o i pos) env v=(do
   let ov <- dB [v] (eval o env)
   let iv <- dB [v,ov] (eval i env)
   gU pos
   dB [v,ov,iv] (setItem ov iv v)
   release [v,ov,iv] []):=by cases i <;> first | rfl | exact absurd rfl (h _ _ _ _)
theorem zeD:PS X (.Pass pos) (TC Γ cx ex w Hz gz .pass):=zcu.imp fun E σ H h0=>goK h0 fun ρ S K g hw st wk env n=>n.nx ρ σ H g S st (Le.refl g) wk env hw
theorem zhC:PS X (.Break pos) (TC Γ cx ex w Hz gz .brk):=QJ.imp fun E σ H h0=>goK h0 fun ρ S K g hw st wk env n=>n.bk ρ σ H g S st (Le.refl g) wk env hw
theorem zhz:PS X (.Continue pos) (TC Γ cx ex w Hz gz .cnt):=Y4.imp fun E σ H h0=>goK h0 fun ρ S K g hw st wk env n=>n.ct ρ σ H g S st (Le.refl g) wk env hw
theorem zew:PSs X [] (TCs Γ cx ex w Hz gz []):=qH.imp fun E σ H h0=>goK h0 fun ρ S K g hw st wk env n=>n.nx ρ σ H g S st (Le.refl g) wk env hw
theorem zcd (h1:PS X st (TC Γ cx ex w Hz gz s)) (h2:PSs X sts (TCs Γ cx ex w Hz gz ss)):PSs X (st::sts) (TCs Γ cx ex w Hz gz (s::ss)):=
 (uC h1 h2).imp fun E σ H h0=>goK h0 fun ρ S K g hw st wk env n=>⟨ρ,S,_,g,hw,st,wk,env,fun ρ' σ' H' g' S' st' le w' env' q=>⟨ρ',S',K,g',q,st',w',env',n.le le⟩,n.bk,n.ct,n.rt⟩
theorem zdh {H:Hp}{g:G}{ρ:List Slot}{σ:L2.St}{S:Store}{i:Nat}(st:Step Hz gz H g) (wk:WOk Γ H g S) (env:EnvO Γ Hz H g ρ σ):∃ g',Step Hz gz H g'/\Le g g'/\WOk Γ H g' S/\EnvO Γ Hz H g' (ρ.set i (fz ((ρ[i]?).getD .no))) σ:=by
 have same:∀ s,ρ[i]?=some s->ρ.set i s=ρ:=fun s h=>by
  apply cX;intro j;by_cases hj:i=j
  ·subst hj;rw [Κ (ο.mp h).1,h]
  ·rw [υ hj]
 cases e:ρ[i]? with
 | none=>
  refine ⟨g,st,Le.refl g,wk,?_⟩;rw [iR (List.getElem?_eq_none_iff.mp e)];exact env
 | some s=>
  cases s with
  | no=>exact ⟨g,st,Le.refl g,wk,by rw [show fz ((some Slot.no).getD .no)=.no from rfl,same _ e];exact env⟩
  | sh d=>exact ⟨g,st,Le.refl g,wk,by rw [show fz ((some (Slot.sh d)).getD .no)=.sh d from rfl,same _ e];exact env⟩
  | ow d=>
   obtain ⟨a,h1,h2,h3,h4,h5,h6⟩:=env.ow i d e;obtain ⟨ob,ho,_⟩:=h5.qU;have le:Le g (g.put a ob):=Le.put h3;refine ⟨g.put a ob,st.put h3 h2,le,wk.put ho h3 h4,by simp [env.len],fun j d' q=>?_,fun j d' q=>?_,fun j j' d1 d2 b q1 q2 q3 q4=>?_⟩
   ·rcases zz q with ⟨rfl,_,z⟩ | ⟨_,z⟩
    ·cases z;exact ⟨.ref a,h1,kO h3 ho h5⟩
    ·obtain ⟨v,f1,f2⟩:=env.sh j d' z;exact ⟨v,f1,f2.mono le⟩
   ·rcases zz q with ⟨rfl,_,z⟩ | ⟨hne,z⟩
    ·cases z
    ·obtain ⟨b,f1,f2,f3,f4,f5,f6⟩:=env.ow j d' z;have hb:b≠a:=by rintro rfl;exact hne (env.inj i j d d' b e z h1 f1)
     exact ⟨b,f1,f2,by show upd g.R a ob b=none;rw [zm hb];exact f3,f4,f5.mono le fun _ z=>z,f6⟩
   ·rcases zz q1 with ⟨_,_,z⟩ | ⟨_,z1⟩
    ·cases z
    rcases zz q2 with ⟨_,_,z⟩ | ⟨_,z2⟩
    ·cases z
    exact env.inj j j' d1 d2 b z1 z2 q3 q4
theorem QD {c kd d c':D}(h:putD c kd d=some c'):gone c=false:=by cases c <;> first | rfl | cases h
theorem zdi {H:Hp}{g:G}{ρ:List Slot}{σ:L2.St}{S:Store}{i k:Nat}{l:List D}(st:Step Hz gz H g) (wk:WOk Γ H g S) (env:EnvO Γ Hz H g ρ σ) (hi:ρ[i]?=some (.sh (.ref k))) (hk:S[k]?=some (.lst l)):
  ∃ g',Step Hz gz H g'/\Le g g'/\WOk Γ H g' (S.set k (.ref k))/\EnvO Γ Hz H g' (ρ.set i (.sh (.lst l))) σ:=by
 obtain ⟨v,h1,a,ha,e⟩:=env.sh i _ hi;subst e;have hn:g.R a=none:=wk.off k _ a hk ha rfl;obtain ⟨vs,ho,hv⟩:=wk.cell k _ a hk ha;have le:Le g (g.put a (.lst vs)):=Le.put hn;have hr:(g.put a (.lst vs)).R a=some (.lst vs):=zy;refine ⟨g.put a (.lst vs),⟨st.le.trans le,st.fr,st.ex,st.na,fun b q=>?_⟩,le,⟨fun b u q=>?_,by rw [ϥ];exact wk.len,wk.nd,fun j c b q1 q2 q3=>?_,fun j c b q1 q2=>?_⟩,by simp [env.len],fun j d' q=>?_,fun j d' q=>?_,fun j j' d1 d2 b q1 q2 q3 q4=>?_⟩
 ·by_cases hb:b=a
  ·subst hb;rcases st.na b (ϡ ha) with z | z
   ·exact .inr (.inr (.inl z))
   ·exact .inr (.inl z)
  ·have q':upd g.R a (.lst vs) b≠none:=q;rw [zm hb] at q';exact st.nr b q'
 ·have q':upd g.R a (.lst vs) b=some u:=q;by_cases hb:b=a
  ·subst hb;rw [zy] at q';cases q';exact ho
  ·rw [zm hb] at q';exact wk.rh b u q'
 ·rcases zz q1 with ⟨rfl,_,z⟩ | ⟨hne,z⟩
  ·rw [z] at q3;cases q3
  ·show upd g.R a (.lst vs) b=none
   have hb:b≠a:=by rintro rfl;exact hne (WOk.yw.nodup_inj wk.nd ha q2)
   rw [zm hb];exact wk.off j c b z q2 q3
 ·rcases zz q1 with ⟨rfl,_,z⟩ | ⟨hne,z⟩
  ·have q2:g.α[k]?=some b:=q2;rw [ha] at q2;cases q2;rw [z];exact ⟨_,hr,ho,Ϭ⟩
  ·exact (wk.cell j c b z q2).mono le fun _ z=>z
 ·rcases zz q with ⟨rfl,_,z⟩ | ⟨_,z⟩
  ·cases z;exact ⟨.ref a,h1,a,vs,rfl,hr,hv.mono le⟩
  ·obtain ⟨v,f1,f2⟩:=env.sh j d' z;exact ⟨v,f1,f2.mono le⟩
 ·rcases zz q with ⟨rfl,_,z⟩ | ⟨hne,z⟩
  ·cases z
  ·obtain ⟨b,f1,f2,f3,f4,f5,f6⟩:=env.ow j d' z;have hb:b≠a:=by rintro rfl;exact f4 (ϡ ha)
   exact ⟨b,f1,f2,by show upd g.R a (.lst vs) b=none;rw [zm hb];exact f3,f4,f5.mono le fun _ z=>z,f6⟩
 ·rcases zz q1 with ⟨_,_,z⟩ | ⟨_,z1⟩
  ·cases z
  rcases zz q2 with ⟨_,_,z⟩ | ⟨_,z2⟩
  ·cases z
  exact env.inj j j' d1 d2 b z1 z2 q3 q4
theorem zhw {i:Nat}(h2:PSs X sts (TCs Γ cx ex w Hz gz ss)):PSs X sts (TCs Γ cx ex w Hz gz (.frr i::ss)):=
 h2.imp fun E σ H h0=>goK h0 fun ρ S K g hw st wk env n=>by obtain ⟨k,l,e1,e2,hw⟩:=zbD hw;obtain ⟨g',st',le,w',env'⟩:=zdi st wk env e1 e2;exact ⟨_,_,K,g',hw,st',w',env',n.le le⟩
theorem zhv {i:Nat}(h2:PSs X sts (TCs Γ cx ex w Hz gz ss)):PSs X sts (TCs Γ cx ex w Hz gz (.frz i::ss)):=
 h2.imp fun E σ H h0=>goK h0 fun ρ S K g hw st wk env n=>by obtain ⟨g',st',le,w',env'⟩:=zdh (i:=i) st wk env;exact ⟨_,S,K,g',hw,st',w',env',n.le le⟩
theorem zhx {i:Nat}(h2:PSs X sts (TCs Γ cx ex w Hz gz ss)):PSs X sts (TCs Γ cx ex w Hz gz (.frk i::ss)):=by
 intro pj s σ H E I h0;refine goK h0 fun ρ S K g hw st wk env n=>?_
 obtain ⟨ks,ds,e,hw⟩:=zbm hw;obtain ⟨a,h1,h2',h3,h4,⟨vs,hH,hlen,hv⟩,h6⟩:=env.ow i _ e;have hob:=(show yo X.prog X.w H s.heap a (.dT (ks.zip vs)) from I.hok a _ hH)
 obtain ⟨_,_,_,_,o,_,_,g1,_⟩:=id hob;have I4:=XD (a:=a) (h':=s.heap) (t':=s.toks) (ob:=.frz o (.dT (ks.zip vs))) I (by rw [hH];exact Ϭ) (iD a _) ⟨o,g1⟩
  ⟨g1,hob.stay (fun b u _ e=>e) (fun b e=>by
   have hb:b≠a:=by rintro rfl;rw [hH] at e;cases e
   rw [zm hb];exact e) fun b ys e=>by
   have hb:b≠a:=by rintro rfl;rw [hH] at e;cases e
   rw [zm hb];exact e⟩
 have le:Le g (g.put a (.frz o (.dT (ks.zip vs)))):=Le.put h3;refine h2 pj s σ _ E I4 ⟨_,S,K,g.put a (.frz o (.dT (ks.zip vs))),hw,(st.xU h2').put h3 h2',(wk.xU h3 h4).put zy h3 h4,⟨by simp [env.len],fun j d' q=>?_,fun j d' q=>?_,fun j j' d1 d2 b q1 q2 q3 q4=>?_⟩,n.le le⟩
 ·rcases zz q with ⟨rfl,_,z⟩ | ⟨_,z⟩
  ·cases z;exact ⟨.ref a,h1,a,vs,o,rfl,zy,hlen,hv.mono le⟩
  ·obtain ⟨v,f1,f2⟩:=env.sh j d' z;exact ⟨v,f1,f2.mono le⟩
 ·rcases zz q with ⟨rfl,_,z⟩ | ⟨hne,z⟩
  ·cases z
  ·obtain ⟨b,f1,f2,f3,f4,f5,f6⟩:=env.ow j d' z;have hb:b≠a:=by rintro rfl;exact hne (env.inj i j _ d' b e z h1 f1)
   exact ⟨b,f1,f2,by show upd g.R a _ b=none;rw [zm hb];exact f3,f4,f5.mono le fun _ z=>by rw [zm hb];exact z,f6⟩
 ·rcases zz q1 with ⟨_,_,z⟩ | ⟨_,z1⟩
  ·cases z
  rcases zz q2 with ⟨_,_,z⟩ | ⟨_,z2⟩
  ·cases z
  exact env.inj j j' d1 d2 b z1 z2 q3 q4
theorem zeI (h:PE X x (TX Γ (cx noX) e)) (hs:cj x none pos.line X.env=pure false):PS X (.Expr x pos) (TC Γ cx ex w Hz gz (.expr e)):=
 (UV h hs).imp fun E σ H h0=>goK h0 fun ρ S K g hw st wk env n=>⟨ρ,S,_,g,Hz,hw,wk,env,fun x v H1 g1 S1 s1 w1 vx q=>n.nx ρ σ H1 g1 S1 (st.trans s1) s1.le w1 (zj env s1) q⟩
theorem zhm (hn:∀ i,e≠.var i) (h:PE X x (TX Γ (cx noX) e)):PS X (.Return (some x) pos) (TC Γ cx ex w Hz gz (.ret e)):=
 (UL h).imp fun E σ H h0=>goK h0 fun ρ S K g hw st wk env n=>by
  have hw:wpE (cx noX) ρ e (fun x S1=>retV x fun o=>K o S1) S:=by cases e <;> first | exact absurd rfl (hn _) | exact hw
  refine ⟨ρ,S,_,g,Hz,hw,wk,env,fun x v H1 g1 S1 s1 w1 vx q=>?_⟩;obtain ⟨d,k⟩:=x;cases k with
  | st=>exact n.rt d false v H1 g1 S1 (st.trans s1) s1.le w1 vx q
  | fr=>exact n.rt d true v H1 g1 S1 (st.trans s1) s1.le w1 (vx.back st) q
  | bo=>exact q.elim
theorem zeA {i:Nat}{n:Str}(hN:X.N[i]?=some n) (hv:Vis X.env.scope n) (hd:(n==("__debug__":Str))=false) (hcd:(n==("__classdict__":Str))=false):PS X (.Return (some (.Name n p)) pos) (TC Γ cx ex w Hz gz (.ret (.var i))):=
 (UL (j9 hN hv hd hcd)).imp fun E σ H h0=>goK h0 fun ρ S K g hw st wk env n=>by
  have hw:sel ρ[i]? (fun d=>K (.ret d false) S) (fun d=>K (.ret d true) S):=hw;cases e:ρ[i]? with
  | none=>rw [e] at hw;exact hw.elim
  | some s=>
   rw [e] at hw;cases s with
   | no=>exact hw.elim
   | sh d=>
    obtain ⟨v,h1,h2⟩:=env.sh i d e;exact ⟨v,h1,n.rt d false v H g S st (Le.refl g) wk h2 hw⟩
   | ow d=>
    obtain ⟨a,h1,h2,h3,h4,h5,h6⟩:=env.ow i d e;exact ⟨.ref a,h1,n.rt d true _ H g S st (Le.refl g) wk ⟨a,rfl,h2,h3,h4,h5⟩ hw⟩
theorem zeB:PS X (.Return none pos) (TC Γ cx ex w Hz gz .retN):=zct.imp fun E σ H h0=>goK h0 fun ρ S K g hw st wk env n=>n.rt .non false .non H g S st (Le.refl g) wk rfl hw
theorem s_if (h:PT X x (TB Γ (cx noX) e)) (ha:PSs X aa (TCs Γ cx ex w Hz gz A)) (hb:PSs X bb (TCs Γ cx ex w Hz gz B)):PS X (.If x aa bb pos) (TC Γ cx ex w Hz gz (.ite e A B)):=
 (zeW h ha hb).imp fun E σ H h0=>goK h0 fun ρ S K g hw st wk env n=>⟨ρ,S,_,g,Hz,hw,wk,env,fun x H1 g1 S1 s1 w1 h=>by
  obtain ⟨r,e,q⟩:=vH h;rw [e];show (if r=true then _ else _)
  cases r with
  | true=>exact iteT ⟨ρ,S1,K,g1,q,st.trans s1,w1,zj env s1,n.le s1.le⟩
  | false=>exact iteF ⟨ρ,S1,K,g1,q,st.trans s1,w1,zj env s1,n.le s1.le⟩⟩
theorem fresh_ne {H:Hp}{g:G}{ρ:List Slot}{σ:L2.St}{v:V}{d:D}{H1:Hp}{g1:G}(env:EnvO Γ Hz H g ρ σ) (vx:VN Γ H (d,.fr) v H1 g1):∀ (i:Nat) (d:D),ρ[i]?=some (.ow d)->σ[i]?≠some (some v):=fun i d' hi e=>by obtain ⟨a,rfl,h0,_⟩:=vx;obtain ⟨b,f1,_,_,_,f5,_⟩:=env.ow i d' hi;rw [f1] at e;cases e;obtain ⟨o,ho,_⟩:=f5.qU;rw [h0] at ho;cases ho
theorem Zx {H H1:Hp}{g g1:G}{ρ ρ2:List Slot}{σ:L2.St}{S1:Store}{t:T}{x:Vl}{v:V}{E:Ends}{K:Ko}(st:Step Hz gz H g) (env:EnvO Γ Hz H g ρ σ) (n:EN Γ Hz gz g E K) (s1:Step H g H1 g1) (w1:WOk Γ H1 g1 S1) (vx:VN Γ H x v H1 g1) (hb:VD ρ t x=some ρ2) (q:K (.next ρ2) S1):tgOf X.K t v σ H1 fun σ' H'=>E.nx σ' H':=by
 have env1:=zj env s1;obtain ⟨d,k⟩:=x;cases k with
 | st=>exact qx (fr:=false) hb env1 w1.rh vx (fun h=>by cases h) fun σ' env'=>n.nx _ σ' H1 g1 S1 (st.trans s1) s1.le w1 env' q
 | fr=>exact qx (fr:=true) hb env1 w1.rh (vx.back st) (fun _=>fresh_ne env vx) fun σ' env'=>n.nx _ σ' H1 g1 S1 (st.trans s1) s1.le w1 env' q
 | bo=>cases hb
noncomputable def zcS:E->Bool
 | .box _=>false
 | _=>true
theorem za1 {ρ:List Slot}{t:T}{K:Ko}{S:Store}(hn:zcS e=true) (hw:wpC cx ex w (.set t e) ρ K S):wpE (cx noX) ρ e (fun x S1=>opt (VD ρ t x) fun ρ2=>K (.next ρ2) S1) S:=by cases e <;> first | exact hw | cases hn
theorem zhj {t:T}(hn:zcS e=true) (h:PE X x (TX Γ (cx noX) e)) (hg:PG X tgt (tgOf X.K t)) (hs:bC [tgt] x pos.line X.env=pure false) (hw:Ϲ [tgt] x X.env=pure none) (ha:(aD [tgt] X.env).map (·.2)=[dD tgt X.env]):PS X (.Assign [tgt] x pos) (TC Γ cx ex w Hz gz (.set t e)):=
 (UW h hg hs hw ha).imp fun E σ H h0=>goK h0 fun ρ S K g hw st wk env n=>⟨ρ,S,_,g,Hz,za1 hn hw,wk,env,fun x v H1 g1 S1 s1 w1 vx q=>by
  obtain ⟨ρ2,hb,q⟩:=zV q
  exact Zx (X:=X) st env n s1 w1 vx hb q⟩
theorem zey {t:T}(h:PE X x (TX Γ (cx noX) e)) (hg:PG X tgt (tgOf X.K t)) (hs:bC [tgt] x pos.line X.env=pure false) (hw:Ϲ [tgt] x X.env=pure none) (ha:(aD [tgt] X.env).map (·.2)=[dD tgt X.env]):PS X (.Assign [tgt] x pos) (TC Γ cx ex w Hz gz (.set t (.box e))):=
 (UW h hg hs hw ha).imp fun E σ H h0=>goK h0 fun ρ S K g hw st wk env n=>⟨ρ,S,_,g,Hz,hw,wk,env,fun x v H1 g1 S1 s1 w1 vx q=>by
  obtain ⟨d,k⟩:=x;cases k with
  | fr=>
   obtain ⟨ρ2,hb,q⟩:=zV q;obtain ⟨g2,s2,w2,h2⟩:=zdy s1 w1 vx;exact Zx (X:=X) (x:=(.ref S1.length,.st)) st env n s2 w2 h2 hb q
  | _=>exact q.elim⟩
theorem zex {t:T}{js:List Nat}{it elt:E}{ifs:List E}{i:Nat}{n:Str}{np:Pos}(h:CSet X x (TX Γ (cx noX) (.comp t js it ifs elt))) (hp:PG X (.Name n np) (Yh i)) (hsw:cj x (some (.Name n np)) pos.line X.env=pure true):PS X (.Assign [.Name n np] x pos) (TC Γ cx ex w Hz gz (.set (.one i) (.comp t js it ifs elt))):=
 (h n np pos i hp hsw).imp fun E σ H h0=>goK h0 fun ρ S K g hw st wk env n=>⟨ρ,S,_,g,Hz,za1 rfl hw,wk,env,fun x v H1 g1 S1 s1 w1 vx q=>by
  obtain ⟨ρ2,hb,q⟩:=zV q
  exact Zx (X:=X) (t:=.one i) st env n s1 w1 vx hb q⟩
theorem zcc (ht:PT X x (TB Γ (cx noX) e)) (hb:PSs X aa (TCs Γ cx ex w Hz gz A)) (hp:fY (Ξ X.prog X.w) X.A X.env X.xe):PS X (.While x aa [] pos) (TC Γ cx ex w Hz gz (.whl e A)):=
 (QH hp ht hb).imp fun E σ H h0=>goK h0 fun ρ S K g hw st wk env n=>by
  have hw:whlW (fun ρ=>wpE (cx noX) ρ e) (fun ρ=>wpCs cx ex w A ρ) w ρ K S:=hw;refine ⟨fun m σ H=>∃ ρ S g1,whlW (fun ρ=>wpE (cx noX) ρ e) (fun ρ=>wpCs cx ex w A ρ) m ρ K S/\Step Hz gz H g1/\Le g g1/\WOk Γ H g1 S/\EnvO Γ Hz H g1 ρ σ,⟨w,ρ,S,g,hw,st,Le.refl g,wk,env⟩,?_⟩;rintro m σ H ⟨ρ,S,g1,hw,st,le,wk,env⟩;cases m with
  | zero=>exact hw.elim
  | succ m=>
   refine ⟨ρ,S,_,g1,Hz,hw,wk,env,fun x H2 g2 S2 s2 w2 h=>?_⟩;obtain ⟨r,e,q⟩:=vH h;rw [e];show (if r=true then _ else _)
   cases r with
   | false=>exact iteF (n.nx ρ σ H2 g2 S2 (st.trans s2) (le.trans s2.le) w2 (zj env s2) q)
   | true=>
    refine iteT ⟨fun σ' H'=>∃ ρ S g1,whlW (fun ρ=>wpE (cx noX) ρ _) (fun ρ=>wpCs cx ex w A ρ) m ρ K S/\Step Hz gz H' g1/\Le g g1/\WOk Γ H' g1 S/\EnvO Γ Hz H' g1 ρ σ',fun σ' H' q=>⟨m,dz m,q⟩,ρ,S2,_,g2,q,st.trans s2,w2,zj env s2,?_⟩;have l2:=le.trans s2.le;exact ⟨fun ρ' σ' H' g' S' st' l w' env' q=>⟨ρ',S',g',q,st',l2.trans l,w',env'⟩,fun ρ' σ' H' g' S' st' l w' env' q=>n.nx ρ' σ' H' g' S' st' (l2.trans l) w' env' q,fun ρ' σ' H' g' S' st' l w' env' q=>⟨ρ',S',g',q,st',l2.trans l,w',env'⟩,fun d fr v H' g' S' st' l w' vo q=>n.rt d fr v H' g' S' st' (l2.trans l) w' vo q⟩
theorem zhy {t:T}{it:E}(hi:PI X tgt x (TXi Γ (cx noX) it)) (hg:PG X tgt (tgOf X.K t)) (hb:PSs X aa (TCs Γ cx ex w Hz gz A)) (hp:fY (Ξ X.prog X.w) X.A X.env X.xe) (hc:X.calm=true) (hs:∀ v,aU x X.env v=pure v):PS X (.For tgt x aa [] pos) (TC Γ cx ex w Hz gz (.forr t it A)):=
 (zeX hp hc hi hg hb hs).imp fun E σ H h0=>goK h0 fun ρ S K g hw st wk env n=>⟨ρ,S,_,g,Hz,hw,wk,env,fun l J H1 g1 S1 s1 w1 hJ h1=>by
  refine ⟨fun i m σ H=>m=l.length - i/\i<=l.length/\∃ ρ S g2,forW t (fun ρ=>wpCs cx ex w A ρ) (l.drop i) ρ K S/\Step Hz gz H g2/\Le g1 g2/\WOk Γ H g2 S/\EnvO Γ Hz H g2 ρ σ,⟨_,rfl,bF _,ρ,S1,g1,h1,st.trans s1,Le.refl g1,w1,zj env s1⟩,?_⟩;rintro i m σ H ⟨rfl,hi,ρ,S,g2,hw,st2,le,wk,env⟩;by_cases hlt:i < l.length
  ·refine .inr ⟨hJ.go i H g2 le wk.rh hlt,fun σ' H'=>∃ ρ S g3,forW t (fun ρ=>wpCs cx ex w A ρ) (l.drop (i+1)) ρ K S/\Step Hz gz H' g3/\Le g1 g3/\WOk Γ H' g3 S/\EnvO Γ Hz H' g3 ρ σ',fun σ' H' q=>⟨l.length - (i+1),by omega,rfl,hlt,q⟩,fun z H3 hy=>?_⟩;obtain ⟨g3,st3,_,w3,hz⟩:=hJ.yld i H g2 S z H3 l[i] le wk (ψ hlt) hy;rw [cT hlt] at hw;obtain ⟨ρ',es,hw⟩:=zV (show opt (yR ρ t (l[i],false)) _ from hw);have l3:=le.trans st3.le;have l4:=s1.le.trans l3;refine qx (fr:=false) es (zj env st3) w3.rh hz (fun h=>by cases h) fun σ3 env3=>⟨ρ',S,_,g3,hw,st2.trans st3,w3,env3,?_⟩
   exact ⟨fun ρ' σ' H' g' S' st' l w' env' q=>⟨ρ',S',g',q,st',l3.trans l,w',env'⟩,fun ρ' σ' H' g' S' st' l w' env' q=>n.nx ρ' σ' H' g' S' st' (l4.trans l) w' env' q,fun ρ' σ' H' g' S' st' l w' env' q=>⟨ρ',S',g',q,st',l3.trans l,w',env'⟩,fun d fr v H' g' S' st' l w' vo q=>n.rt d fr v H' g' S' st' (l4.trans l) w' vo q⟩
  ·have e:i=l.length:=by omega
   subst e;rw [List.drop_length] at hw
   exact .inl ⟨hJ.stop _ H g2 le wk.rh (Η _),n.nx ρ σ H g2 S st2 (s1.le.trans le) wk env hw⟩⟩
theorem zfc {s:Option Slot}{Q:List D->Prop}(h:owL s Q):∃ l,s=some (.ow (.lst l))/\Q l:=by
 cases s with
 | none=>exact h.elim
 | some s=>
  cases s with
  | ow d=>
   cases d with
   | lst l=>exact ⟨l,rfl,h⟩
   | _=>exact h.elim
  | _=>exact h.elim
theorem zf5 {s:D}{Q:Nat->Prop}(h:isR s Q):∃ n,s=.ref n/\Q n:=by
 cases s with
 | ref n=>exact ⟨n,rfl,h⟩
 | _=>exact h.elim
section
variable {i:Nat}{n:Str}{apos cpos:Pos}
theorem zhG (hN:X.N[i]?=some n) (hv:Vis X.env.scope n) (hd:(n==("__debug__":Str))=false) (hcd:(n==("__classdict__":Str))=false) (hx:PE X x (TX Γ (cx noX) e)) (hs:notStar x=true) (hl:(apos.endLine==cpos.line)=true):
  PS X (.Expr (.Call (.Attribute (.Name n p) "append" apos) [x] [] cpos) pos) (TC Γ cx ex w Hz gz (.app i e)):=
 (UV (zfa ie PySem.F.slot_list_append PySem.F.type_list_append Z0 (j9 hN hv hd hcd) (zZ hx xM (zb hs _ _)) rfl (zde hs) hl (zb hs _ _) rfl)).imp fun E σ H h0=>goK h0 fun ρ S K g hw st wk env n=>by obtain ⟨l,eo,hw⟩:=zfc hw;obtain ⟨a,h1,h2,h3,h4,h5,h6⟩:=env.ow i _ eo;obtain ⟨vs,h7,h8⟩:=h5;refine ⟨.ref a,h1,.inl ⟨rfl,vs,SqL.of h7⟩,ρ,S,_,g,Hz,hw,wk,env,fun x v H1 g1 S1 s1 w1 vx q=>?_⟩;obtain ⟨g2,s2,w2,hx,q⟩:=vx.keep s1 w1 q;obtain ⟨hf,q⟩:=xG q;have env2:=zj env s2;obtain ⟨k1,k2,k3⟩:=s2.kept h7 h3 h4;refine ⟨a,vs,v,rfl,rfl,k1,by rw [h8.len];exact size_of hf,n.nx _ σ _ g2 S1 ((st.trans s2).xU h2) s2.le (w2.xU k2 k3) (env2.zgS (c':=.lst (l++[x.1])) eo h1 ⟨vs++[v],zy,(h8.mono s2.le).app (Hass.mk1 hx)⟩ rfl) q⟩
theorem zhf {ix:Expr}{oe ke ve:E}(hu:X.A.units+1 < ϰ) (hx:PE X x (TX Γ (cx noX) ve)) (ho:PE X o (TX Γ (cx noX) oe)) (hi:PE X ix (TX Γ (cx noX) ke)) (hns:∀ lo hi st p,ix≠.Slice lo hi st p)
  (hs:bC [.Subscript o ix pos] x spos.line X.env=pure false) (hw:Ϲ [.Subscript o ix pos] x X.env=pure none) (ha:(aD [.Subscript o ix pos] X.env).map (·.2)=[dD (.Subscript o ix pos) X.env]):
  PS X (.Assign [.Subscript o ix pos] x spos) (TC Γ cx ex w Hz gz (.sti oe ke ve)):=
 (UW hx (ze4 ho hi (zca hu) (fun v=>Vb hns v X.env)) hs hw ha).imp fun E σ H h0=>goK h0 fun ρ S K g hw st wk env n=>by refine ⟨ρ,S,_,g,Hz,hw,wk,env,fun x v H1 g1 S1 s1 w1 vx q=>?_⟩;obtain ⟨g2,s2,w2,hx,q⟩:=vx.keep s1 w1 q;refine ⟨ρ,S1,_,g2,Hz,q,w2,zj env s2,fun z t H3 g3 S3 s3 w3 vz q=>?_⟩;obtain ⟨g4,s4,w4,hz,q⟩:=vz.keep s3 w3 q;refine ⟨ρ,S3,_,g4,Hz,q,w4,zj env (s2.trans s4),fun y u H5 g5 S5 s5 w5 vy q=>?_⟩;obtain ⟨g6,s6,w6,hy,q⟩:=vy.keep s5 w5 q;obtain ⟨m,er,q⟩:=zf5 q;obtain ⟨c,eo,q⟩:=zV q;obtain ⟨c',ep,q⟩:=zV q;rw [er] at hz;obtain ⟨a,ha2,rfl⟩:=hz.mono s6.le;obtain ⟨o',b1,b2,b3⟩:=QF ep (w6.cell m c a eo ha2) w6.rh hy (hx.mono (s4.le.trans s6.le));have hm:=ϡ ha2;have s7:=(s2.trans s4).trans s6;exact b1 _ (n.nx _ σ _ g6 _ ((st.trans s7).yw hm) s7.le (w6.yw eo (QD ep) ha2 b2) ((zj env s7).qt hm) q)
end
end
section
variable {X:Cx}{Γ:Gm}{B:Tb}{cx:Xp->Cf}{ex:Xp}{w k:Nat}{c:Cc}{Hz:Hp}{gz:G}{x y:Expr}{pos tpos:Pos}{o e:E}{f:Str}{cs:List Str}
theorem zbF (ok:XOk Γ B (spN Γ cx) k X c) {n:Str}{C:Addr}(h:vI B f n=true) (hC:caOf Γ.K n=some C):Cls X.K C/\vP X.K C f:=by obtain ⟨o,ho,hno,hf⟩:=zbG h;subst hno;obtain ⟨C',hm,oo⟩:=ok.ob o ho;have eC:C'=C:=Λ (oo.ca.symm.trans hC);subst eC;exact ⟨ok.hK ▸ oo.cl,ok.hK ▸ oo.fl f hf⟩
theorem Ue (value:Expr) (tp:Pos) (l:Nat) (env:Env) (z:Expr):cj value (some (.Attribute z f tp)) l env=pure false:=by unfold cj;cases value <;> rfl
theorem Zh {H:Hp}{g:G}{a C dx:Addr}{n:Str}{ns:List Str}{ds:List D}{vs:List V}{d:D}{v:V}(h1:caOf Γ.K n=some C) (hl:ns.length=ds.length) (h2:Hass Γ g ds vs) (hd:Has Γ g d v):
  zY Γ (upd H a (.ins C dx (putF f v (ns.zip vs)))) g a (.ins n (putN f ns) (putA f d ns ds)):=by
 have hv:ns.length=vs.length:=by rw [hl,h2.len]
 exact ⟨C,dx,putA f v ns vs,h1,by rw [zy,Wh hv],Wi hl,Yc hd hl h2⟩
theorem VM {ns:List Str}{vs:List V}(h:ns.length < 999):(ns.zip vs).length < 1000:=by rw [dJ];omega
theorem zhg (ok:XOk Γ B (spN Γ cx) k X c) (ho:PE X x (TX Γ (cx noX) o)) (hv:PE X y (TX Γ (cx noX) e)) (hc:∀ n∈cs,vI B f n=true):PS X (.Assign [.Attribute x f tpos] y pos) (TC Γ cx ex w Hz gz (.sta cs o f e)):=
 (zeY ho hv (Ue _ _ _ _ _)).imp fun E σ H h0=>goK h0 fun ρ S K g hw st wk env n=>by refine ⟨ρ,S,_,g,Hz,hw,wk,env,fun x v H1 g1 S1 s1 w1 vx q=>?_⟩;obtain ⟨g2,s2,w2,hx,q1⟩:=vx.keep s1 w1 q;refine ⟨ρ,S1,_,g2,Hz,q1,w2,zj env s2,fun z t H3 g3 S3 s3 w3 vz q=>?_⟩;obtain ⟨i,nm,ns,ds,b,C,dx,vs,rfl,h1,h2,q3,h3,h4,h5,h6⟩:=uK vz s3 w3 q;obtain ⟨hn,q4⟩:=xG q3;rw [γ] at hn;obtain ⟨c1,c2⟩:=zbF ok (hc nm (Β.mp hn.1)) h3;have hm:=ϡ h1;have s5:=s2.trans s3;exact ⟨b,C,dx,_,rfl,h4,c1,c2,VM (of_decide_eq_true hn.2),n.nx _ σ _ g3 _ ((st.trans s5).yw hm) s5.le (w3.yw h2 rfl h1 (Zh h3 h5 h6 (hx.mono s3.le))) ((zj env s5).qt hm) q4⟩
theorem zgI {op:aN}{d d' r:D}(h:augD op d d'=some r):∃ i j,d=.int i/\d'=.int j/\((op=.Add/\r=.int (i+j))\/(op=.Sub/\r=.int (i - j))):=by
 cases d with
 | int i=>
  cases d' with
  | int j=>
   cases op with
   | Add=>cases h;exact ⟨i,j,rfl,rfl,.inl ⟨rfl,rfl⟩⟩
   | Sub=>cases h;exact ⟨i,j,rfl,rfl,.inr ⟨rfl,rfl⟩⟩
   | _=>cases h
  | _=>cases h
 | _=>cases h
def rAug (op:aN):V->V->Hp->VK->Prop:=fun x y H Q=>∃ i j,x=.int i/\y=.int j/\((op=.Add/\Q (.int (i+j)) H)\/(op=.Sub/\Q (.int (i - j)) H))
theorem zgb {op:aN}:InOp X op (rAug op):=by
 rintro pj s σ H x y u v Q I rx ry ⟨i,j,ei,ej,q⟩;rcases q with ⟨rfl,q⟩ | ⟨rfl,q⟩
 ·exact zgc pj s σ H x y u v Q I rx ry ⟨i,j,ei,ej,q⟩
 ·exact zf8 pj s σ H x y u v Q I rx ry ⟨i,j,ei,ej,q⟩
theorem zdV {Hb H:Hp}{g:G}{z:Vl}{v:V}{i:Int}(h:VN Γ Hb z v H g) (e:z.1=.int i):v=.int i:=by
 obtain ⟨d,kd⟩:=z;cases (show d=.int i from e);cases kd with
 | st=>exact h
 | fr=>obtain ⟨_,_,_,_,_,z⟩:=h;exact z.elim
 | bo=>obtain ⟨_,_,_,_,z⟩:=h;exact z.elim
theorem zhE {op:aN}(ok:XOk Γ B (spN Γ cx) k X c) (ho:PE X x (TX Γ (cx noX) o)) (hv:PE X y (TX Γ (cx noX) e)) (hc:∀ n∈cs,vI B f n=true):PS X (.AugAssign (.Attribute x f tpos) op y pos) (TC Γ cx ex w Hz gz (.aua cs o f op e)):=
 (UT ho hv zgb).imp fun E σ H h0=>goK h0 fun ρ S K g hw st wk env n=>by
  refine ⟨ρ,S,_,g,Hz,hw,wk,env,fun z t H1 g1 S1 s1 w1 vz q=>?_⟩;obtain ⟨i,nm,ns,ds,b,C,dx,vs,rfl,h1,h2,q3,h3,h4,h5,h6⟩:=uK vz s1 w1 q;obtain ⟨hn,q4⟩:=xG q3;obtain ⟨d,ed,q5⟩:=zV q4;obtain ⟨c1,c2⟩:=zbF ok (hc nm (Β.mp hn)) h3;obtain ⟨u,hu,hd⟩:=(Wv f h5 h6).1 d ed;refine ⟨b,C,dx,_,u,rfl,h4,c1,c2,hu,ρ,S1,_,g1,Hz,q5,w1,zj env s1,fun z v H3 g3 S3 s3 w3 vz q=>?_⟩;obtain ⟨i',nm',ns',ds',ei,h2',q6⟩:=qR q;cases ei;obtain ⟨r,er,q7⟩:=zV q6;obtain ⟨ht,q8⟩:=xG q7;rw [γ] at ht;cases of_decide_eq_true ht.1;obtain ⟨p,j,e1,e2,e3⟩:=zgI er;subst e1;cases (show u=.int p from hd);have e4:=zdV vz e2;subst e4;have h1':=s3.le.aa _ _ h1;obtain ⟨C',dx',vs',f1,f2,f3,f4⟩:=w3.cell i _ b h2' h1';have eC:C'=C:=Λ (f1.symm.trans h3);subst eC;have hm:=ϡ h1';have s5:=s1.trans s3;refine ⟨p,j,rfl,rfl,?_⟩;rcases e3 with ⟨eo,rfl⟩ | ⟨eo,rfl⟩
  ·exact .inl ⟨eo,dx',_,f2,VM (of_decide_eq_true ht.2),n.nx _ σ _ g3 _ ((st.trans s5).yw hm) s5.le (w3.yw h2' rfl h1' (Zh (d:=.int (p+j)) f1 f3 f4 rfl)) ((zj env s5).qt hm) q8⟩
  ·exact .inr ⟨eo,dx',_,f2,VM (of_decide_eq_true ht.2),n.nx _ σ _ g3 _ ((st.trans s5).yw hm) s5.le (w3.yw h2' rfl h1' (Zh (d:=.int (p - j)) f1 f3 f4 rfl)) ((zj env s5).qt hm) q8⟩
end
noncomputable def stB:Option (Option V)->Option Bool
 | some (some (.bl b))=>some b
 | _=>none
theorem zej {o:Option (Option V)}{b:Bool}(h:stB o=some b):o=some (some (.bl b)):=by
 unfold stB at h;split at h
 ·cases h;rfl
 ·cases h
theorem wQ {tb:List (List Nat)}{c:Nat}{va va':Nat->Option Bool}(h:∀ j b,va j=some b->va' j=some b):∀ (x:HB) (b:Bool),hbV tb c va x=some b->hbV tb c va' x=some b
 | .is k,b,e=>e
 | .isT ks,b,e=>e
 | .ve,b,e=>e
 | .var j,b,e=>h j b e
 | .one a,b,e=>wQ h a b e
 | .not a,b,e=>by obtain ⟨x,e1,e2⟩:=ι.mp e;exact ι.mpr ⟨x,wQ h a x e1,e2⟩
 | .and a a',b,e=>by
  obtain ⟨x,e1,e2⟩:=ζ.mp e;refine ζ.mpr ⟨x,wQ h a x e1,?_⟩;cases x with
  | true=>exact wQ h a' b e2
  | false=>exact e2
 | .or a a',b,e=>by
  obtain ⟨x,e1,e2⟩:=ζ.mp e;refine ζ.mpr ⟨x,wQ h a x e1,?_⟩;cases x with
  | true=>exact e2
  | false=>exact wQ h a' b e2
section
variable {Γ:Gm}{Hz H:Hp}{g:G}{ρ ρ':List Slot}{σ:L2.St}
theorem EnvO.put {j:Nat}{d:D}{v:V}(env:EnvO Γ Hz H g ρ σ) (hv:Has Γ g d v):EnvO Γ Hz H g (ρ.set j (.sh d)) (σ.set j (some v)):=by
 refine ⟨by rw [ϥ,ϥ];exact env.len,fun i e q=>?_,fun i e q=>?_,fun i i' e e' b q1 q2 q3 q4=>?_⟩
 ·rcases zz q with ⟨rfl,h1,h2⟩ | ⟨h1,h2⟩
  ·cases h2;exact ⟨v,Κ (by rw [<- env.len];exact h1),hv⟩
  ·obtain ⟨u,e1,e2⟩:=env.sh i e h2;exact ⟨u,by rw [υ h1];exact e1,e2⟩
 ·rcases zz q with ⟨rfl,h1,h2⟩ | ⟨h1,h2⟩
  ·cases h2
  ·obtain ⟨a,e1,e2⟩:=env.ow i e h2;exact ⟨a,by rw [υ h1];exact e1,e2⟩
 ·have ne:∀ {i:Nat}{e:D},(ρ.set j (Slot.sh d))[i]?=some (.ow e)->j≠i/\ρ[i]?=some (.ow e):=fun {i e} q=>by
   rcases zz q with ⟨rfl,h1,h2⟩ | ⟨h1,h2⟩
   ·cases h2
   ·exact ⟨h1,h2⟩
  obtain ⟨n1,w1⟩:=ne q1;obtain ⟨n2,w2⟩:=ne q2;rw [υ n1] at q3;rw [υ n2] at q4;exact env.inj i i' e e' b w1 w2 q3 q4
theorem EnvO.no {j:Nat}{v:Option V}(env:EnvO Γ Hz H g ρ σ):EnvO Γ Hz H g (ρ.set j .no) (σ.set j v):=by
 have ne:∀ {i:Nat}{s:Slot},(ρ.set j Slot.no)[i]?=some s->s≠.no->j≠i/\ρ[i]?=some s:=fun {i s} q hs=>by
  rcases zz q with ⟨rfl,h1,h2⟩ | ⟨h1,h2⟩
  ·exact absurd h2.symm (fun z=>hs z.symm)
  ·exact ⟨h1,h2⟩
 refine ⟨by rw [ϥ,ϥ];exact env.len,fun i e q=>?_,fun i e q=>?_,fun i i' e e' b q1 q2 q3 q4=>?_⟩
 ·obtain ⟨n,w⟩:=ne q nofun;rw [υ n];exact env.sh i e w
 ·obtain ⟨n,w⟩:=ne q nofun;rw [υ n];exact env.ow i e w
 ·obtain ⟨n1,w1⟩:=ne q1 nofun;obtain ⟨n2,w2⟩:=ne q2 nofun;rw [υ n1] at q3;rw [υ n2] at q4;exact env.inj i i' e e' b w1 w2 q3 q4
end
noncomputable def asIs:Expr->Option (Str×Pos×Str×Pos×Str×Pos×Pos)
  | .Call f as ks cp=>(asName f).bind fun q=>(match as with
    | [x,y]=>(asName x).bind fun a=>(asName y).bind fun b=>if yc ks=true then some (q.1,q.2,a.1,a.2,b.1,b.2,cp) else none
    | _=>none)
  | _=>none
set_option tactic.hygienic true in
theorem K9 {x:Expr}{q:Str×Pos×Str×Pos×Str×Pos×Pos}(h:asIs x=some q):x=.Call (.Name q.1 q.2.1) [.Name q.2.2.1 q.2.2.2.1,.Name q.2.2.2.2.1 q.2.2.2.2.2.1] [] q.2.2.2.2.2.2:=by
 cases x with
 | Call f as ks cp=>
  obtain ⟨r,e1,h⟩:=ζ.mp (show (asName f).bind _=some q from h)
  match as,h with
  | [x,y],h=>
   obtain ⟨a,e2,h⟩:=ζ.mp h;obtain ⟨b,e3,h⟩:=ζ.mp h;split at h
   ·rename_i hn
    cases h;rw [zH e1,zH e2,zH e3,yd hn]
   ·cases h
  | [],h=>cases h
  | [_],h=>cases h
  | _::_::_::_,h=>cases h
 | _=>cases h
noncomputable def VG:Expr->Option (List Expr×Nat×Pos)
 | .Tuple es k p=>some (es,k,p)
 | _=>none
theorem uP {x:Expr}{q:List Expr×Nat×Pos}(h:VG x=some q):x=.Tuple q.1 q.2.1 q.2.2:=by cases x <;> first | (cases h;rfl) | cases h
noncomputable def zaN:Expr->Option (Str×Pos×Str×Pos×List Expr×Nat×Pos×Pos)
  | .Call f as ks cp=>(asName f).bind fun q=>(match as with
    | [x,y]=>(asName x).bind fun a=>(VG y).bind fun b=>if yc ks=true then some (q.1,q.2,a.1,a.2,b.1,b.2.1,b.2.2,cp) else none
    | _=>none)
  | _=>none
set_option tactic.hygienic true in
theorem W3 {x:Expr}{q:Str×Pos×Str×Pos×List Expr×Nat×Pos×Pos}(h:zaN x=some q):x=.Call (.Name q.1 q.2.1) [.Name q.2.2.1 q.2.2.2.1,.Tuple q.2.2.2.2.1 q.2.2.2.2.2.1 q.2.2.2.2.2.2.1] [] q.2.2.2.2.2.2.2:=by
 cases x with
 | Call f as ks cp=>
  obtain ⟨r,e1,h⟩:=ζ.mp (show (asName f).bind _=some q from h)
  match as,h with
  | [x,y],h=>
   obtain ⟨a,e2,h⟩:=ζ.mp h;obtain ⟨b,e3,h⟩:=ζ.mp h;split at h
   ·rename_i hn
    cases h;rw [zH e1,zH e2,uP e3,yd hn]
   ·cases h
  | [],h=>cases h
  | [_],h=>cases h
  | _::_::_::_,h=>cases h
 | _=>cases h
noncomputable def zdu (B:Tb) (c:Cc) (k:Nat) (x:Expr):Bool:=match asName x with
 | some q=>(B.cls[k]?).map (·.1)==some q.1&&gloK (c.names.lookup q.1)&&zL q.1
 | none=>false
noncomputable def zaw (B:Tb) (c:Cc):List Nat->List Expr->Bool
  | [],xs=>yc xs
  | k::ks,xs=>(match xs with
    | []=>false
    | x::xs=>zdu B c k x&&zaw B c ks xs)
noncomputable def jC (B:Tb) (c:Cc) (i:Nat) (ks:List Nat) (x:Expr):Bool:=match zaN x with
 | some q=>q.1==("isinstance":Str)&&B.bare.contains q.1&&gloK (c.names.lookup q.1)&&c.N[i]?==some q.2.2.1&&visK (c.names.lookup q.2.2.1)&&zL q.2.2.1&&zaw B c ks q.2.2.2.2.1&&decide (ks.length<=9)
 | none=>false
noncomputable def v4 (B:Tb) (c:Cc) (i:Nat) (n:Str) (x:Expr):Bool:=match asIs x with
 | some q=>q.1==("isinstance":Str)&&B.bare.contains q.1&&gloK (c.names.lookup q.1)&&c.N[i]?==some q.2.2.1&&visK (c.names.lookup q.2.2.1)&&zL q.2.2.1&&q.2.2.2.2.1==n&&gloK (c.names.lookup n)&&zL n
 | none=>false
noncomputable def chkH (B:Tb) (c:Cc) (i:Nat):HB->Expr->Bool
  | .is k,x=>(match B.cls[k]? with
    | some p=>v4 B c i p.1 x
    | none=>false)
  | .isT ks,x=>jC B c i ks x
  | .ve,x=>v4 B c i "ValueError" x&&B.bare.contains ("ValueError":Str)
  | .var j,x=>(match asName x with
    | some q=>c.N[j]?==some q.1&&visK (c.names.lookup q.1)&&zL q.1
    | none=>false)
  | .not a,.UnaryOp op x _=>(match op with
    | .Not=>chkH B c i a x
    | _=>false)
  | .and a b,.BoolOp op vs p=>(match op,vs with
    | .And,x::y::r=>chkH B c i a x&&chkH B c i b (.BoolOp .And (y::r) p)
    | _,_=>false)
  | .or a b,.BoolOp op vs p=>(match op,vs with
    | .Or,x::y::r=>chkH B c i a x&&chkH B c i b (.BoolOp .Or (y::r) p)
    | _,_=>false)
  | .one a,.BoolOp _ vs _=>(match vs with
    | [x]=>chkH B c i a x
    | _=>false)
  | _,_=>false
def tHB (tb:List (List Nat)) (cn i:Nat) (ea:Addr) (h:HB):TE:=fun σ H Q=>σ[i]?=some (some (.ref ea))/\∃ b,hbV tb cn (fun j=>stB σ[j]?) h=some b/\∀ H',Same H H'->Q (.bl b) H'
section
variable {Γ:Gm}{B:Tb}{sp:Nat->Nat->Sp}{k:Nat}{X:Cx}{c:Cc}{i cn:Nat}{ea C:Addr}{oe:Obj}
theorem zbj {n:Str}{x:Expr}{v:V}{u:δ}{b:Bool}(ok:XOk Γ B sp k X c) (xc:XCls X.K C) (hc:oe.cls=.ref C) (hd:oe.dict=none) (hn:W.notCls oe=true) (h:v4 B c i n x=true) (r:RelV v u) (hu:∀ u',RelV v u'->u'=u) (hk:W.kitOne X.K (.ref C) u=some b)
  (hp:∀ pos,PE (X.hnd ea oe) (.Name n pos) (tC v)):PE (X.hnd ea oe) x (fun σ H Q=>σ[i]?=some (some (.ref ea))/\Q (.bl b) H):=by
 unfold v4 at h;cases e:asIs x with
 | none=>rw [e] at h;cases h
 | some q=>
  rw [e] at h;simp only [γ] at h;obtain ⟨⟨⟨⟨⟨⟨⟨⟨h1,h2⟩,h3⟩,h4⟩,h5⟩,h6⟩,h7⟩,h8⟩,h9⟩:=h;have ex:=K9 e;obtain ⟨f,fp,a,ap,m,mp,cp⟩:=q;dsimp only at h1 h2 h3 h4 h5 h6 h7 ex;have e1:=eq_of_beq h1;have e7:=eq_of_beq h7;subst e1 e7 ex;obtain ⟨p1,p2,p3⟩:=zQ h6;have hN:(X.hnd ea oe).N[i]?=some a:=by show X.N[i]?=some a;rw [ok.N];exact eq_of_beq h4
  refine (uD (X:=X.hnd ea oe) (id:="isinstance") (zay xc hc hd hn r hu hk) (show Gl X "isinstance" from ok.glob h3) (ok.bare _ (Β.mp h2)) (by decide +kernel) (zZ (j9 hN (show Vis X.env.scope a from ok.vis h5) p1 p2) (zZ (hp mp) xM)) (by decide) (by decide)).imp fun σ H Q ⟨q1,q2⟩=>?_
  exact ⟨_,q1,rfl,q2⟩
theorem KR {b:Bool}{Cs:List Addr}(xc:XCls X.K C) (hc:oe.cls=.ref C) (hd:oe.dict=none) (hn:W.notCls oe=true) (hk:W.kitAny X.K (.ref C) (Cs.map Ε)=some b):yp (X.hnd ea oe) (.builtin "isinstance") (fun xs H Q=>∃ p,xs=[.ref ea,.ref p]/\H p=some (.tup (Cs.map V.ref))/\Q (.bl b) H):=by
 intro pj s σ H xs us Q I rv ⟨p,e,hp,q⟩;subst e;obtain ⟨u,v,rfl,r1,r2⟩:=rv.two;cases (show u=Ε ea from r1);cases (show v=Ε p from r2);obtain ⟨its,r,⟨o,ho,hoc,n,hod⟩,hz⟩:=I.tuple (SqT.of hp);have ei:its=Cs.map Ε:=by
  clear hk hp ho hod hz
  induction Cs generalizing its with
  | nil=>cases r;rfl
  | cons a Cs ih=>
   cases r with
   | cons r1 r=>
    cases (show _=Ε a from r1);rw [ih _ r];rfl
 subst ei;have pe:=(I.pin (ea,oe) θ).1;obtain ⟨oc,od,oda,os⟩:=o;cases hoc;cases hod;exact W.kia_tup (K:=X.K) (Wx (o:=oe) xc) (show X.K.In s.heap from I.kIn) ⟨pe,hc,hn,by rw [hd];trivial⟩ ho hk (fun z=>nomatch z) fun tk=>⟨.bl b,H,I.tok tk,rfl,q⟩
theorem zfv (ok:XOk Γ B sp k X c) (kc:KCls Γ (B.cls.map (·.2)) cn C):∀ (ks:List Nat) (xs:List Expr),zaw B c ks xs=true->∃ Cs:List Addr,PA (X.hnd ea oe) xs (fun _ H Q=>Q (Cs.map V.ref) H)/\W.kitAny X.K (.ref C) (Cs.map Ε)=some (ks.any fun k=>subT (B.cls.map (·.2)) cn k)/\Cs.length=ks.length
  | [],xs,h=>by cases yd h;exact ⟨[],xM.imp fun σ H Q q=>q,rfl,rfl⟩
  | m::ks,xs,h=>by
    cases xs with
    | nil=>exact nobE h
    | cons x xs=>
      obtain ⟨h1,h2⟩:=Ζ.mp (show (zdu B c m x&&zaw B c ks xs)=true from h);obtain ⟨Cs,i1,i2,i3⟩:=zfv ok kc ks xs h2;unfold zdu at h1;cases e:asName x with
      | none=>rw [e] at h1;exact nobE h1
      | some q=>
        rw [e] at h1;simp only [γ] at h1;obtain ⟨⟨g1,g2⟩,g3⟩:=h1;obtain ⟨⟨n',l⟩,e1,e2⟩:=ι.mp (eq_of_beq g1);have ex:=zH e;subst ex;obtain ⟨Cm,hm,km⟩:=ok.cl m n' l e1;have e2:n'=q.1:=e2;subst e2;refine ⟨Cm::Cs,(zZ (Y6 (X:=X.hnd ea oe) (v:=.ref Cm) (show Gl X q.1 from ok.glob g2) hm rfl (zQ g3).1) i1 (zb rfl _ _)).imp fun σ H Q q=>q,?_,by simp [i3]⟩;have hs:W.kitOne X.K (.ref C) (.ref Cm)=some (subT (B.cls.map (·.2)) cn m):=ok.hK ▸ kc.sub m Cm km.ca
        show (match W.kitOne X.K (.ref C) (.ref Cm) with
          | some true=>some true
          | some false=>W.kitAny X.K (.ref C) (Cs.map Ε)
          | none=>none)=_
        rw [hs,cZ];cases subT (B.cls.map (·.2)) cn m with
        | true=>rfl
        | false=>exact i2
theorem zhI {ks:List Nat}{x:Expr}(ok:XOk Γ B sp k X c) (kc:KCls Γ (B.cls.map (·.2)) cn C) (hc:oe.cls=.ref C) (hd:oe.dict=none) (hn:W.notCls oe=true) (h:jC B c i ks x=true):PE (X.hnd ea oe) x (tHB (B.cls.map (·.2)) cn i ea (.isT ks)):=by
 unfold jC at h;cases e:zaN x with
 | none=>rw [e] at h;exact nobE h
 | some q=>
  rw [e] at h;simp only [γ] at h;obtain ⟨⟨⟨⟨⟨⟨⟨h1,h2⟩,h3⟩,h4⟩,h5⟩,h6⟩,h7⟩,h8⟩:=h;have ex:=W3 e;obtain ⟨f,fp,a,ap,es,kk,tp,cp⟩:=q;dsimp only at h1 h2 h3 h4 h5 h6 h7 ex;have e1:=eq_of_beq h1;subst e1 ex;obtain ⟨p1,p2,p3⟩:=zQ h6;obtain ⟨Cs,i1,i2,i3⟩:=zfv (ea:=ea) (oe:=oe) ok kc ks es h7;have hN:(X.hnd ea oe).N[i]?=some a:=by show X.N[i]?=some a;rw [ok.N];exact eq_of_beq h4
  refine (uD (X:=X.hnd ea oe) (id:="isinstance") (KR (ok.hK ▸ kc.xc) hc hd hn i2) (show Gl X "isinstance" from ok.glob h3) (ok.bare _ (Β.mp h2)) (by decide +kernel) (zZ (j9 hN (show Vis X.env.scope a from ok.vis h5) p1 p2) (zZ (U9 i1) xM)) (by decide) (by decide)).imp fun σ H Q ⟨q1,b,q2,q3⟩=>?_
  cases q2;exact ⟨_,q1,by rw [ώ,i3];exact ϕ (of_decide_eq_true h8) (by decide),fun p hp=>⟨p,rfl,zy,q3 _ (xq hp)⟩⟩
theorem sH (ok:XOk Γ B sp k X c) (kc:KCls Γ (B.cls.map (·.2)) cn C) (hc:oe.cls=.ref C) (hd:oe.dict=none) (hn:W.notCls oe=true):∀ (h:HB) (x:Expr),chkH B c i h x=true->PE (X.hnd ea oe) x (tHB (B.cls.map (·.2)) cn i ea h)
  | .is m,x,h=>by
    have h:(match B.cls[m]? with
      | some p=>v4 B c i p.1 x
      | none=>false)=true:=by cases x <;> exact h
    cases e:B.cls[m]? with
    | none=>rw [e] at h;cases h
    | some p=>
      rw [e] at h;have h':v4 B c i p.1 x=true:=h;obtain ⟨Cm,hm,km⟩:=ok.cl m p.1 p.2 e;have hg:gloK (c.names.lookup p.1)=true/\zL p.1=true:=by
        unfold v4 at h';split at h'
        · simp only [γ] at h';exact ⟨h'.1.2,h'.2⟩
        · cases h'
      refine (zbj (v:=.ref Cm) (u:=.ref Cm) ok (ok.hK ▸ kc.xc) hc hd hn h' rfl (fun u' r=>r) (ok.hK ▸ kc.sub m Cm km.ca) fun pos=>Y6 (show Gl X p.1 from ok.glob hg.1) hm rfl (zQ hg.2).1).imp fun σ H Q ⟨q1,b,q2,q3⟩=>⟨q1,?_⟩
      cases q2;exact q3 H (Same.refl H)
  | .isT ks,x,h=>zhI ok kc hc hd hn (show jC B c i ks x=true by cases x <;> exact h)
  | .ve,x,h=>by
    have h:(v4 B c i "ValueError" x&&B.bare.contains ("ValueError":Str))=true:=by cases x <;> exact h
    rw [γ] at h;have hg:gloK (c.names.lookup ("ValueError":Str))=true:=by
      have h':=h.1;unfold v4 at h';split at h'
      · simp only [γ] at h';exact h'.1.2
      · cases h'
    refine (zbj (v:=.ty "ValueError") (u:=.type "ValueError") ok (ok.hK ▸ kc.xc) hc hd hn h.1 rfl (fun u' r=>r) (ok.hK ▸ kc.ve) fun pos=>Jd (show Gl X "ValueError" from ok.glob hg) (ok.bare _ (Β.mp h.2)) (by decide +kernel) rfl (by decide) (by decide)).imp fun σ H Q ⟨q1,b,q2,q3⟩=>⟨q1,?_⟩
    cases q2;exact q3 H (Same.refl H)
  | .var j,x,h=>by
    have h:(match asName x with
      | some q=>c.N[j]?==some q.1&&visK (c.names.lookup q.1)&&zL q.1
      | none=>false)=true:=by cases x <;> exact h
    cases e:asName x with
    | none=>rw [e] at h;cases h
    | some q=>
      rw [e] at h;have h':(c.N[j]?==some q.1&&visK (c.names.lookup q.1)&&zL q.1)=true:=h;have ex:=zH e;subst ex;rw [γ,γ] at h';obtain ⟨⟨h1,h2⟩,h3⟩:=h';obtain ⟨p1,p2,p3⟩:=zQ h3;refine (j9 (X:=X.hnd ea oe) (by show X.N[j]?=some q.1;rw [ok.N];exact eq_of_beq h1) (show Vis X.env.scope q.1 from ok.vis h2) p1 p2).imp fun σ H Q ⟨q1,b,q2,q3⟩=>⟨_,zej q2,q3 H (Same.refl H)⟩
  | .not a,x,h=>by
    have hb:Α x.ctorIdx 3=true:=by revert h;cases x <;> first | exact non | exact fun _=>rfl
    revert h;apply vD hb;clear hb;intro op x p h;cases op with
    | Not=>
      refine (zbi (sH ok kc hc hd hn a x h)).imp fun σ H Q ⟨q1,b,q2,q3⟩=>?_
      obtain ⟨y,e1,e2⟩:=ι.mp q2;subst e2;exact ⟨q1,y,e1,fun H' s=>⟨y,rfl,q3 H' s⟩⟩
    | _=>exact nobE h
  | .and a b,x,h=>by
    have hb:Α x.ctorIdx 0=true:=by revert h;cases x <;> first | exact non | exact fun _=>rfl
    revert h;apply yF hb;clear hb;intro op vs p h;cases op with
    | Or=>exact nobE (by cases vs <;> exact h)
    | And=>
    cases vs with
    | nil=>exact nobE h
    | cons x vs=>
    cases vs with
    | nil=>exact nobE h
    | cons y r=>
    obtain ⟨h1,h2⟩:=Ζ.mp (show (chkH B c i a x&&chkH B c i b (.BoolOp .And (y::r) p))=true from h);refine (zbl (sH ok kc hc hd hn a x h1) (sH ok kc hc hd hn b _ h2)).imp fun σ H Q ⟨q1,v,q2,q3⟩=>?_
    obtain ⟨z,e1,e2⟩:=ζ.mp q2;refine ⟨q1,z,e1,fun H1 s1=>⟨z,rfl,?_⟩⟩;cases z with
    | true=>exact iteT ⟨q1,v,e2,fun H2 s2=>q3 H2 (s1.trans s2)⟩
    | false=>cases e2;exact iteF (q3 H1 s1)
  | .or a b,x,h=>by
    have hb:Α x.ctorIdx 0=true:=by revert h;cases x <;> first | exact non | exact fun _=>rfl
    revert h;apply yF hb;clear hb;intro op vs p h;cases op with
    | And=>exact nobE (by cases vs <;> exact h)
    | Or=>
    cases vs with
    | nil=>exact nobE h
    | cons x vs=>
    cases vs with
    | nil=>exact nobE h
    | cons y r=>
    obtain ⟨h1,h2⟩:=Ζ.mp (show (chkH B c i a x&&chkH B c i b (.BoolOp .Or (y::r) p))=true from h);refine (ze5 (sH ok kc hc hd hn a x h1) (sH ok kc hc hd hn b _ h2)).imp fun σ H Q ⟨q1,v,q2,q3⟩=>?_
    obtain ⟨z,e1,e2⟩:=ζ.mp q2;refine ⟨q1,z,e1,fun H1 s1=>⟨z,rfl,?_⟩⟩;cases z with
    | true=>cases e2;exact iteT (q3 H1 s1)
    | false=>exact iteF ⟨q1,v,e2,fun H2 s2=>q3 H2 (s1.trans s2)⟩
  | .one a,x,h=>by
    have hb:Α x.ctorIdx 0=true:=by revert h;cases x <;> first | exact non | exact fun _=>rfl
    revert h;apply yF hb;clear hb;intro op vs p h;cases vs with
    | nil=>exact nobE h
    | cons x vs=>
    cases vs with
    | cons _ _=>exact nobE h
    | nil=>exact (zbh (sH ok kc hc hd hn a x h)).imp fun σ H Q q=>q
termination_by structural h=>h
def tHT (tb:List (List Nat)) (cn i:Nat) (ea:Addr) (h:HB):TT:=fun σ H Q=>σ[i]?=some (some (.ref ea))/\∃ b,hbV tb cn (fun j=>stB σ[j]?) h=some b/\∀ H',Same H H'->Q b H'
noncomputable def J2:Expr->Bool
 | .Call _ _ _ _=>true
 | .Name _ _=>true
 | _=>false
theorem zfK {x:Expr}(h:J2 x=true) (env:Env) (wh:Sem δ):d9 x env wh=(do let v <- wh;gU x.pos;dB [v] (truthy v)):=by cases x <;> first | rfl | cases h
theorem Jz {n:Str}{x:Expr}(h:v4 B c i n x=true):J2 x=true:=by
 unfold v4 at h;cases e:asIs x with
 | none=>rw [e] at h;exact nobE h
 | some q=>rw [K9 e];rfl
theorem zad {ks:List Nat}{x:Expr}(h:jC B c i ks x=true):J2 x=true:=by
 unfold jC at h;cases e:zaN x with
 | none=>rw [e] at h;exact nobE h
 | some q=>rw [W3 e];rfl
theorem zae (ok:XOk Γ B sp k X c) (kc:KCls Γ (B.cls.map (·.2)) cn C) (hc:oe.cls=.ref C) (hd:oe.dict=none) (hn:W.notCls oe=true) (h:HB) (x:Expr) (hh:chkH B c i h x=true) (hl:J2 x=true):PT (X.hnd ea oe) x (tHT (B.cls.map (·.2)) cn i ea h)/\(wO x=true->PW (X.hnd ea oe) x (tHT (B.cls.map (·.2)) cn i ea h)):=
 ⟨(zbe (sH ok kc hc hd hn h x hh) (zfK hl _)).imp fun σ H Q ⟨q1,b,e,q⟩=>⟨q1,b,e,fun H' s=>⟨b,rfl,q H' s⟩⟩,fun z=>by cases x <;> first | exact nobE z | exact nobE hl⟩
theorem sHT (ok:XOk Γ B sp k X c) (kc:KCls Γ (B.cls.map (·.2)) cn C) (hc:oe.cls=.ref C) (hd:oe.dict=none) (hn:W.notCls oe=true):∀ (h:HB) (x:Expr),chkH B c i h x=true->PT (X.hnd ea oe) x (tHT (B.cls.map (·.2)) cn i ea h)/\(wO x=true->PW (X.hnd ea oe) x (tHT (B.cls.map (·.2)) cn i ea h))
  | .is m,x,h=>by
    have hl:J2 x=true:=by
      have h:(match B.cls[m]? with
        | some p=>v4 B c i p.1 x
        | none=>false)=true:=by cases x <;> exact h
      cases e:B.cls[m]? with
      | none=>rw [e] at h;exact nobE h
      | some p=>rw [e] at h;exact Jz h
    exact zae ok kc hc hd hn _ x h hl
  | .isT ks,x,h=>zae ok kc hc hd hn _ x h (zad (show jC B c i ks x=true by cases x <;> exact h))
  | .ve,x,h=>zae ok kc hc hd hn _ x h (by
    have h:(v4 B c i "ValueError" x&&B.bare.contains ("ValueError":Str))=true:=by cases x <;> exact h
    exact Jz (Ζ.mp h).1)
  | .var j,x,h=>zae ok kc hc hd hn _ x h (by
    have h:(match asName x with
      | some q=>c.N[j]?==some q.1&&visK (c.names.lookup q.1)&&zL q.1
      | none=>false)=true:=by cases x <;> exact h
    cases e:asName x with
    | none=>rw [e] at h;exact nobE h
    | some q=>rw [zH e];rfl)
  | .not a,x,h=>by
    have hb:Α x.ctorIdx 3=true:=by revert h;cases x <;> first | exact non | exact fun _=>rfl
    revert h;apply vD hb;clear hb;intro op x p h;cases op with
    | Not=>
      refine ⟨(zbf (sHT ok kc hc hd hn a x h).1).imp fun σ H Q ⟨q1,b,q2,q3⟩=>?_,fun z=>nobE z⟩;obtain ⟨y,e1,e2⟩:=ι.mp q2;subst e2;exact ⟨q1,y,e1,q3⟩
    | _=>exact nobE h
  | .and a b,x,h=>by
    have hb:Α x.ctorIdx 0=true:=by revert h;cases x <;> first | exact non | exact fun _=>rfl
    revert h;apply yF hb;clear hb;intro op vs p h;cases op with
    | Or=>exact nobE (by cases vs <;> exact h)
    | And=>
    cases vs with
    | nil=>exact nobE h
    | cons x vs=>
    cases vs with
    | nil=>exact nobE h
    | cons y r=>
    obtain ⟨h1,h2⟩:=Ζ.mp (show (chkH B c i a x&&chkH B c i b (.BoolOp .And (y::r) p))=true from h);have w:PW (X.hnd ea oe) (.BoolOp .And (x::y::r) p) (tHT (B.cls.map (·.2)) cn i ea (.and a b)):=PW.impE (zbd (sHT ok kc hc hd hn a x h1).1 ((sHT ok kc hc hd hn b _ h2).2 rfl)) fun σ H Q ⟨q1,v,q2,q3⟩=>by
      obtain ⟨z,e1,e2⟩:=ζ.mp q2;refine ⟨q1,z,e1,fun H1 s1=>?_⟩;cases z with
      | true=>exact iteT ⟨q1,v,e2,fun H2 s2=>q3 H2 (s1.trans s2)⟩
      | false=>cases e2;exact iteF (q3 H1 s1)
    exact ⟨w.pt,fun _=>w⟩
  | .or a b,x,h=>by
    have hb:Α x.ctorIdx 0=true:=by revert h;cases x <;> first | exact non | exact fun _=>rfl
    revert h;apply yF hb;clear hb;intro op vs p h;cases op with
    | And=>exact nobE (by cases vs <;> exact h)
    | Or=>
    cases vs with
    | nil=>exact nobE h
    | cons x vs=>
    cases vs with
    | nil=>exact nobE h
    | cons y r=>
    obtain ⟨h1,h2⟩:=Ζ.mp (show (chkH B c i a x&&chkH B c i b (.BoolOp .Or (y::r) p))=true from h);have w:PW (X.hnd ea oe) (.BoolOp .Or (x::y::r) p) (tHT (B.cls.map (·.2)) cn i ea (.or a b)):=PW.impE (zeT (sHT ok kc hc hd hn a x h1).1 ((sHT ok kc hc hd hn b _ h2).2 rfl)) fun σ H Q ⟨q1,v,q2,q3⟩=>by
      obtain ⟨z,e1,e2⟩:=ζ.mp q2;refine ⟨q1,z,e1,fun H1 s1=>?_⟩;cases z with
      | true=>cases e2;exact iteT (q3 H1 s1)
      | false=>exact iteF ⟨q1,v,e2,fun H2 s2=>q3 H2 (s1.trans s2)⟩
    exact ⟨w.pt,fun _=>w⟩
  | .one a,x,h=>by
    have hb:Α x.ctorIdx 0=true:=by revert h;cases x <;> first | exact non | exact fun _=>rfl
    revert h;apply yF hb;clear hb;intro op vs p h;cases vs with
    | nil=>exact nobE h
    | cons x vs=>
    cases vs with
    | cons _ _=>exact nobE h
    | nil=>
      have w:PW (X.hnd ea oe) (.BoolOp op [x] p) (tHT (B.cls.map (·.2)) cn i ea (.one a)):=by
        cases op with
        | And=>exact UJ (sHT ok kc hc hd hn a x h).1
        | Or=>exact zbc (sHT ok kc hc hd hn a x h).1
      exact ⟨w.pt,fun _=>w⟩
termination_by structural h=>h
noncomputable def zdI:Stmt->Option (Expr×Pos)
 | .Return v p=>v.map fun x=>(x,p)
 | _=>none
theorem zaL {st:Stmt}{q:Expr×Pos}(h:zdI st=some q):st=.Return (some q.1) q.2:=by
 cases st with
 | Return v p=>
  obtain ⟨x,e1,e2⟩:=ι.mp (show v.map _=some q from h);subst e1 e2;rfl
 | _=>cases h
noncomputable def asIf:Stmt->Option (Expr×List Stmt×List Stmt×Pos)
 | .If x a b p=>some (x,a,b,p)
 | _=>none
theorem zdJ {st:Stmt}{q:Expr×List Stmt×List Stmt×Pos}(h:asIf st=some q):st=.If q.1 q.2.1 q.2.2.1 q.2.2.2:=by cases st <;> first | (cases h;rfl) | cases h
noncomputable def qb (B:Tb) (c:Cc) (as:List D) (st:Stmt):Bool:=match zdI st with
  | some q=>(match VG q.1 with
    | some t=>zN B c (as.map E.con) t.1&&decide (as.length<=9)
    | none=>false)
  | none=>false
theorem zbK {Y:Cx}:∀ (as:List D) (xs:List Expr),zN B c (as.map E.con) xs=true->∃ vs,PA Y xs (fun _ H Q=>Q vs H)/\(∀ g,Hass Γ g as vs)/\vs.length=as.length
 | [],xs,h=>by
  cases xs with
  | nil=>exact ⟨[],xM.imp fun σ H Q q=>q,fun _=>rfl,rfl⟩
  | cons _ _=>exact nobE h
 | d::as,xs,h=>by
  cases xs with
  | nil=>exact nobE h
  | cons x xs=>
   have h:(chkE B c (.con d) x&&notStar x&&zN B c (as.map E.con) xs)=true:=h;rw [γ,γ] at h;obtain ⟨⟨h1,h2⟩,h3⟩:=h;obtain ⟨vs,i1,i2,i3⟩:=zbK (Y:=Y) as xs h3;have hb:Α x.ctorIdx 19=true:=by revert h1;cases x <;> first | exact non | exact fun _=>rfl
   revert h1 h2;apply vU hb;clear hb;intro q n pos h1 h2;obtain ⟨t,p1,p2⟩:=zbL (Γ:=Γ) (X:=Y) h1;exact ⟨t::vs,(zZ p1 i1 (zb h2 _ _)).imp fun σ H Q q=>q,fun g=>⟨t,vs,rfl,p2 g,i2 g⟩,by simp [i3]⟩
theorem za8 {Y:Cx}{as:List D}{st:Stmt}(h:qb B c as st=true):∃ vs,PS Y st (fun D σ H=>∀ p,H p=none->D.rt (.ref p) (upd H p (.tup vs)))/\∀ g,Hass Γ g as vs:=by
 unfold qb at h;cases e:zdI st with
 | none=>rw [e] at h;exact nobE h
 | some q=>
  rw [e] at h;obtain ⟨x,pos⟩:=q;dsimp only at h;cases e2:VG x with
  | none=>rw [e2] at h;exact nobE h
  | some t=>
   rw [e2] at h;have h:(zN B c (as.map E.con) t.1&&decide (as.length<=9))=true:=h;rw [γ] at h;obtain ⟨vs,i1,i2,i3⟩:=zbK (Γ:=Γ) (Y:=Y) as t.1 h.1;rw [zaL e,uP e2];exact ⟨vs,(UL (U9 i1)).imp fun D σ H q=>⟨by rw [i3];exact ϕ (of_decide_eq_true h.2) (by decide),q⟩,i2⟩
noncomputable def Kz (B:Tb) (c:Cc) (i:Nat) (h:HB) (a:List D) (st:Stmt):Bool:=match asIf st with
  | some q=>chkH B c i h q.1&&(match sole q.2.1 with
    | some s=>qb B c a s
    | none=>false)&&yc q.2.2.1
  | none=>false
noncomputable def zdv (B:Tb) (c:Cc) (i:Nat) (h:HB) (a b:List D):List Stmt->Bool
 | [s1,s2]=>Kz B c i h a s1&&qb B c b s2
 | _=>false
theorem sHR {h:HB}{a b:List D}{ss:List Stmt}(ok:XOk Γ B sp k X c) (kc:KCls Γ (B.cls.map (·.2)) cn C) (hc:oe.cls=.ref C) (hd:oe.dict=none) (hn:W.notCls oe=true) (hh:zdv B c i h a b ss=true):
  ∃ va vb,(∀ g,Hass Γ g a va)/\(∀ g,Hass Γ g b vb)/\PSs (X.hnd ea oe) ss (fun D σ H=>σ[i]?=some (some (.ref ea))/\∃ r,hbV (B.cls.map (·.2)) cn (fun _=>none) h=some r/\∀ H',Same H H'->∀ p,H' p=none->D.rt (.ref p) (upd H' p (.tup (if r=true then va else vb)))):=by
 match ss,hh with
 | [],hh=>exact nobE hh
 | [_],hh=>exact nobE hh
 | _::_::_::_,hh=>exact nobE hh
 | [s1,s2],hh=>
  obtain ⟨h1,h2⟩:=Ζ.mp (show (Kz B c i h a s1&&qb B c b s2)=true from hh);obtain ⟨vb,p2,b2⟩:=za8 (Γ:=Γ) (Y:=X.hnd ea oe) h2;unfold Kz at h1;cases e:asIf s1 with
  | none=>rw [e] at h1;exact nobE h1
  | some q=>
   rw [e] at h1;obtain ⟨x,aa,bb,pos⟩:=q;dsimp only at h1;cases e2:sole aa with
   | none=>rw [e2] at h1;simp at h1
   | some s=>
    rw [e2] at h1;have h1:(chkH B c i h x&&qb B c a s&&yc bb)=true:=h1;rw [γ,γ] at h1;obtain ⟨⟨g1,g2⟩,g3⟩:=h1;obtain ⟨va,p1,b1⟩:=za8 (Γ:=Γ) (Y:=X.hnd ea oe) g2;have ea':=xn e2;have eb':=yd g3;subst ea' eb';rw [zdJ e];refine ⟨va,vb,b1,b2,(uC (zeW (sHT (ea:=ea) ok kc hc hd hn h x g1).1 (uC p1 qH) qH) (uC p2 qH)).imp fun D σ H ⟨q1,r,q2,q3⟩=>⟨q1,r,wQ (fun j b z=>by cases z) h r q2,fun H1 s1=>?_⟩⟩;cases r with
    | true=>exact iteT fun p hp=>q3 H1 s1 p hp
    | false=>exact iteF fun p hp=>q3 H1 s1 p hp
noncomputable def Qa:Stmt->Option (List Expr×Expr×Pos)
 | .Assign ts x p=>some (ts,x,p)
 | _=>none
theorem Zi {st:Stmt}{q:List Expr×Expr×Pos}(h:Qa st=some q):st=.Assign q.1 q.2.1 q.2.2:=by cases st <;> first | (cases h;rfl) | cases h
end
theorem zei {env:Env}{x y:Str}{px py pt p2:Pos}{kt k2:Nat}{a b:Expr}(hb:env.blockKind=.function) (hx:env.kindOf x=some .local) (hy:env.kindOf y=some .local) (hl:px.line=py.line) (hxy:x≠y) (ha:notStar a=true) (hb':notStar b=true) (hf:(gA 8 a&&gA 8 b)=false) (hc:(fJ 8 a&&fJ 8 b)=false):
  Ϲ [.Tuple [.Name x px,.Name y py] kt pt] (.Tuple [a,b] k2 p2) env=pure (some [x,y]):=by
 have e1:(Expr.Name x px).pos=px:=rfl;have ed:[x,y].eraseDups.length=2:=by simp [List.eraseDups_cons,bA hxy]
 unfold Ϲ;simp [hb,hx,hy,hl,e1,hf,hc,ed];intro h;rcases h with h | h
 ·cases a <;> first | exact nobE ha | cases h
 ·cases b <;> first | exact nobE hb' | cases h
section
variable {Γ:Gm}{B:Tb}{cx:Xp->Cf}{ex:Xp}{k w:Nat}{X:Cx}{c:Cc}{Hz:Hp}{gz:G}{i ce f:Nat}{tb:List (List Nat)}{hs:List (Nat×HB)}{es:List E}
theorem zhl {n msg:Str}{j cn:Nat}{l:List Nat}{np cp p pos:Pos}(ok:XOk Γ B (spN Γ cx) k X c) (hn:B.cls[cn]?=some (n,l)) (hg:Gl X n) (hd:(n==("__debug__":Str))=false)
  (xr:∀ pj σ H s g S c C h' ea args,Inv X pj σ H s->Step Hz gz H g->WOk Γ H g S->ex c S->Γ.ca c=some C->dZ s.heap h' ea (.ref C) args->X.xe (.ref ea) { s with heap:=h' }):
  PS X (.Raise (some (.Call (.Name n np) [.Constant (.str msg) j p] [] cp)) none pos) (TC Γ cx ex w Hz gz (.rse cn)):=fun pj s σ H D I h0=>goK h0 fun ρ S K g hw st wk env nn=>by obtain ⟨C,hm,kc⟩:=ok.cl cn n l hn;exact QC I ok.calm hg hm hd (ok.hK ▸ kc.ex) fun s1 h' ea args I1 m=>xr pj σ H s1 g S cn C h' ea args I1 st wk hw kc.ca m
theorem zhc {i j:Nat}{n m:Str}{x y:Expr}{a b:E}{px py pt p2 pos:Pos}{kt k2:Nat}(ok:XOk Γ B (spN Γ cx) k X c) (hi:X.N[i]?=some n) (hj:X.N[j]?=some m) (hij:i≠j) (hx:X.env.scope.names.lookup n=some .local) (hy:X.env.scope.names.lookup m=some .local) (ha:PE X x (TX Γ (cx noX) a)) (hb:PE X y (TX Γ (cx noX) b)) (hs:notStar x=true) (hs2:notStar y=true)
  (hw:Ϲ [.Tuple [.Name n px,.Name m py] kt pt] (.Tuple [x,y] k2 p2) X.env=pure (some [n,m])):
  PS X (.Assign [.Tuple [.Name n px,.Name m py] kt pt] (.Tuple [x,y] k2 p2) pos) (TC Γ cx ex w Hz gz (.sw2 i j a b)):=
 (zeV ok.calm ok.nd hi hj hij hx hy (zZ ha (zZ hb xM (zb hs2 _ _)) (zb hs _ _)) hw rfl).imp fun E σ H h0=>goK h0 fun ρ S K g hw st wk env nn=>⟨ρ,S,_,g,Hz,hw,wk,env,fun x v H1 g1 S1 s1 w1 vx q=>by
  obtain ⟨g2,s2,w2,hx,q⟩:=vx.keep s1 w1 q;refine ⟨ρ,S1,_,g2,Hz,q,w2,zj env s2,fun y u H3 g3 S3 s3 w3 vy q=>?_⟩;obtain ⟨g4,s4,w4,hy,q⟩:=vy.keep s3 w3 q;obtain ⟨ρ2,hb,q⟩:=zV q;refine ⟨v,u,rfl,?_⟩;have eb:ρ2=(ρ.set i (.sh x.1)).set j (.sh y.1):=by
   have hb:(if [i,j].length=[x.1,y.1].length/\[i,j].Nodup/\[i,j].all (· < ρ.length)=true then some ((ρ.set i (.sh x.1)).set j (.sh y.1)) else none)=some ρ2:=hb;split at hb
   ·cases hb;rfl
   ·cases hb
  subst eb
  exact nn.nx _ _ H3 g4 S3 (st.trans (s2.trans s4)) (s2.le.trans s4.le) w4 (((zj env (s2.trans s4)).put (hx.mono s4.le)).put hy) q⟩
theorem WOk.same {H H':Hp}{g:G}{S:Store}(w:WOk Γ H g S) (s:Same H H'):WOk Γ H' g S:=⟨w.rh.trans s,w.len,w.nd,w.off,fun k c a h1 h2=>(w.cell k c a h1 h2).mono (Le.refl g) fun o e=>s a o e⟩
def Xw (Γ:Gm) (ex:Xp) (H1:Hp) (g1:G):XK:=fun _ C H'=>∃ c C0 g2 S2,C=some C0/\Γ.ca c=some C0/\Step H1 g1 H' g2/\WOk Γ H' g2 S2/\ex c S2
theorem zdR {n:Str}{x:Expr}{xs:List Expr}{fp cp:Pos}{QQ:VSP}{E2:VSP}{V:Po}{exx:Xp}{pj:List (Addr×Obj)}{σ:L2.St}{H:Hp}{s:ν}{ρ:List Slot}{S:Store}{g:G}
  (ok:XOk Γ B (spN Γ cx) k X c) (hcf:∀ ex,CfN B (cx ex)) (hf:B.fns[f]?=some n) (hdt:dotted n=false) (hg:Gl X n) (hdb:(n==("__debug__":Str))=false) (hst:∀ z∈x::xs,notStar z=true) (ha:PA (X.wish E2) (x::xs) (TXs Γ (cx noX) es))
  (I:Inv X pj σ H s) (hw:wpEs (cx noX) ρ es (fun ds S1=>cx exx f ds V S1) S) (wk:WOk Γ H g S) (env:EnvO Γ Hz H g ρ σ)
  (hok:∀ y v u H' g' S' s',Inv X pj σ H' s'->RelV v u->Step H g H' g'->WOk Γ H' g' S'->VN Γ H y v H' g'->V y S'->QQ u s')
  (herr:∀ H1 g1 s1 e s',Inv X pj σ H1 s1->Step H g H1 g1->CX1 X.prog X.w X.stack H1 s1 (Xw Γ exx H1 g1) e s'->E2 e s'):
  Θ (Ξ X.prog X.w) X.A (eval (.Call (.Name n fp) (x::xs) [] cp) X.env) QQ E2 s:=by
 obtain ⟨a,fd,ps,f1,f2,f3,f4,f5,f6,_⟩:=(ok.fns f n hf).ex;have I2:Inv (X.wish E2) pj σ H s:=I.wish _;refine aK (wM I hg (f2 hdt) ?_ hdb)
 refine W.callWith_K (h₀:=X.base) I.ok.mod.kin f3 (thn (ha cp pj s σ H (fun vs H1=>∃ ds g1 S1,Step H g H1 g1/\WOk Γ H1 g1 S1/\Hass Γ g1 ds vs/\cx exx f ds V S1) I2
  ⟨ρ,S,_,g,Hz,hw,wk,env,fun ds vs H1 g1 S1 st1 w1 hv hc=>⟨ds,g1,S1,st1,w1,hv,hc⟩⟩) fun us s1 ⟨vs,H1,I1,r,ds,g1,S1,st1,w1,hv,hc⟩=>⟨I1.kIn,?_⟩) (zb (hst x θ) _ _) (yf fun z hz=>hst z (η _ hz))
 have hl:vs.length=ps.length:=by rw [hv.len];exact hcf _ f ds _ S1 ps f5 hc
 have hl':(us++[]).length=ps.length:=by rw [Ϝ,<- r.length];exact hl
 have hb:=f4 s1 us I1.kIn hl';rw [Ϝ] at hb
 refine lz (cV (f6.run X.A X.stack s1 H1 ⟨us,[]⟩ us vs (fun v H'=>∃ y g2 S2,Step H1 g1 H' g2/\WOk Γ H' g2 S2/\VN Γ H1 y v H' g2/\V y S2)
  (Xw Γ exx H1 g1) ok.rm I1.env0 hb r
  ⟨hl,g1,ds,S1,_,_,w1,hv,hc,fun x v H' g' S' s2 w2 vx q=>⟨x,g',S',s2,w2,vx,q⟩,fun c e C H' g' S' s2 w2 hca q=>⟨c,C,g',S',rfl,hca,s2,w2,q⟩⟩) fun r s' hq=>?_)
 cases r with
 | ok fl=>
  cases fl with
  | ret u=>
   obtain ⟨v,H',I',rv,y,g2,S2,s2,w2,vy,q⟩:=I1.after hq;exact hok y v u H' g2 S2 s' I'.yS rv (st1.trans s2) w2 (vy.back st1) q
  | next=>exact ϗ hq
  | brk=>exact ϗ hq
  | cont=>exact ϗ hq
 | error e=>exact herr H1 g1 s1 e s' I1.yS st1 hq
theorem zhe {n nm:Str}{x:Expr}{xs:List Expr}{fp cp np pos:Pos}(ok:XOk Γ B (spN Γ cx) k X c) (hcf:∀ ex,CfN B (cx ex)) (hf:B.fns[f]?=some n) (hdt:dotted n=false) (hg:Gl X n) (hdb:(n==("__debug__":Str))=false) (hst:∀ z∈x::xs,notStar z=true) (ha:∀ E,PA (X.wish E) (x::xs) (TXs Γ (cx noX) es))
  (hpg:PG X (.Name nm np) (tgOf X.K (.one i)))
  (xp:∀ pj σ H1 s1 g1 e s',Inv X pj σ H1 s1->Step Hz gz H1 g1->CX1 X.prog X.w X.stack H1 s1 (Xw Γ ex H1 g1) e s'->X.xe e s'):
  PS X (.Assign [.Name nm np] (.Call (.Name n fp) (x::xs) [] cp) pos) (TC Γ cx ex w Hz gz (.stx i f es)):=by
 intro pj s σ H D I h0;refine goK h0 fun ρ S K g hw st wk env nn=>?_
 refine gh (zdR ok hcf hf hdt hg hdb hst (ha _) I hw wk env (fun y v u H' g' S' s' I' rv st' w' vy q=>?_) fun H1 g1 s1 e s' I1 st1 hq=>xp pj σ H1 s1 g1 e s' I1 (st.trans st1) hq) rfl rfl;obtain ⟨ρ2,hb,q⟩:=zV q;exact thn (hpg pj s' σ H' v u _ I' rv (Zx (X:=X) (t:=.one i) st env nn st' w' vy hb q)) fun _ s2 q=>q
theorem zhb {n nm cnm jn:Str}{l:List Nat}{x:Expr}{xs:List Expr}{fp cp ep cnp hp jp pos:Pos}{b0:Stmt}{suite orelse:List Stmt}{j:Nat}{h:HB}{a b:List D}{els:List C}(ok:XOk Γ B (spN Γ cx) k X c) (sk:X.stack=X.env::X.outer) (fr:X.env.frame=some X.env.locals) (hcf:∀ ex,CfN B (cx ex)) (hf:B.fns[f]?=some n) (hdt:dotted n=false) (hg:Gl X n) (hdb:(n==("__debug__":Str))=false)
  (hst:∀ z∈x::xs,notStar z=true) (ha:∀ E,PA (X.wish E) (x::xs) (TXs Γ (cx noX) es)) (hpg:∀ E,PG (X.wish E) (.Name jn jp) (tgOf X.K (.one j))) (htb:tb=B.cls.map (·.2)) (hce:B.cls[ce]?=some (cnm,l)) (hgc:Gl X cnm) (hdc:(cnm==("__debug__":Str))=false)
  (hN:X.N[i]?=some nm) (hloc:X.env.kindOf nm=some .local) (hsu:zdv B c i h a b (b0::suite)=true) (hel:PSs X orelse (TCs Γ cx ex w Hz gz els)):
  PS X (.Try [.Assign [.Name jn jp] (.Call (.Name n fp) (x::xs) [] cp) ep] [.ExceptHandler (some (.Name cnm cnp)) (some nm) (b0::suite) hp] orelse [] pos) (TC Γ cx ex w Hz gz (.trx tb j f es ce i h a b els)):=by
 intro pj s σ H D I h0;refine goK h0 fun ρ S K g hw st wk env nn=>?_
 obtain ⟨Cc,hmc,kcc⟩:=ok.cl ce cnm l hce;refine wpAny_Try_except ?_;generalize hE2:(fun e s₁=>Θ (Ξ X.prog X.w) X.A (dO e X.env) (fun _ s₂=>Θ (Ξ X.prog X.w) X.A (fQ e none) (fun _ s₃=>Θ (Ξ X.prog X.w) X.A (handleBy e X.env [.ExceptHandler (some (.Name cnm cnp)) (some nm) (b0::suite) hp]) (SP X pj D) X.xe s₃) X.xe s₂) X.xe s₁)=E2;refine wpAny_execs_cons (gh (zdR ok hcf hf hdt hg hdb hst (ha E2) I hw wk env (fun y v u H' g' S' s' I' rv st' w' vy q=>?_) fun H1 g1 s1 e s' I1 st1 hq=>?_) rfl rfl)
 ·obtain ⟨ρ2,hb,q⟩:=zV q;have I2:Inv (X.wish E2) pj σ H' s':=I'.wish _
  have key:tgOf X.K (.one j) v σ H' fun σ' H''=>TCs Γ cx ex w Hz gz els D σ' H'':=Zx (X:=X) (t:=.one j) (E:={ nx:=fun σ' H''=>TCs Γ cx ex w Hz gz els D σ' H'',rt:=fun _ _=>False }) (K:=fun o S3=>match o with
   | .next ρ3=>wpCs cx ex w els ρ3 K S3
   | _=>False) st env ⟨fun ρ' σ' H'' g'' S'' t1 le w'' env'' z=>⟨ρ',S'',K,g'',z,t1,w'',env'',nn.le le⟩,fun _ _ _ _ _ _ _ _ _ z=>z.elim,fun _ _ _ _ _ _ _ _ _ z=>z.elim,fun _ _ _ _ _ _ _ _ _ _ z=>z.elim⟩ st' w' vy hb q
  refine thn (hpg E2 pj s' σ H' v u _ I2 rv key) fun _ s2 ⟨σ2,H2,I3,q3⟩=>?_
  exact eO (hel pj s2 σ2 H2 D I3.yS q3)
 ·subst hE2;refine Jp (X:=X) (W:=X.xe) sk fr I1 hq fun ea T C H' h2 ee F n1 n2 n3 n4 J hE=>?_
  subst ee;obtain ⟨cn,C0,g2,S2,eC,hca,s2,w2,hx⟩:=hE;cases eC;obtain ⟨hsub,hx⟩:=xG hx;obtain ⟨r,eh,hK⟩:=zV hx;obtain ⟨x',l',ecl⟩:=ok.ca cn C hca;obtain ⟨C',hm',kc⟩:=ok.cl cn x' l' ecl;have eC:C'=C:=Λ (kc.ca.symm.trans hca);subst eC;obtain ⟨⟨oe,us',he,⟨hcl,hdi⟩,hd,h1⟩,ne,⟨oT,ts,hT,dT,h3⟩⟩:=F;have hncl:PySem.W.notCls oe=true:=by unfold PySem.W.notCls;rw [hd]
  have hex1:∀ b o,s1.heap.get? b=some o->ea≠b:=fun b o q z=>by rw [<- z,n1] at q;cases q
  obtain ⟨m0,⟨oL,_,_,hoL,_⟩,_⟩:=id I1.loc
  have J3:Inv (X.hnd ea oe) pj σ H' { s' with heap:=h2 }:=J.hnd he n3 (hex1 _ _ hoL) (fun z=>by
   have:=I1.stack.mem (b:=ea) (by rw [sk,show (X.env::X.outer).filterMap (·.frame)=frs (X.env::X.outer) from rfl,J9 fr];exact η _ z);obtain ⟨_,o,ho,_⟩:=this
   exact hex1 _ _ ho rfl) (fun v q=>by rw [hd] at q;cases q)
  show Θ (Ξ X.prog X.w) X.A (handleBy (.ref ea) X.env _) (SP X pj D) X.xe _
  refine wpAny_handleBy_cons (codeAny_handlers_test ?_) (by intro q;cases q);refine wM (X:=X.hnd ea oe) J3 hgc hmc ?_ hdc;have LT:PySem.W.Looks (Ξ X.prog X.w) h2 (typeOf (.ref ea)) (.ref C'):=hcl ▸ (PySem.W.Looks.ld he).andThen .now;have hem:=kc.em ce Cc kcc.ca;rw [<- htb,hsub,<- ok.hK] at hem;refine (PySem.W.exm_one (K:=X.K) J.kIn LT hem).at ?_;show fW _ _ _ _ _
  refine codeAny_handlers_suite_as ?_;refine wpAny_setFlight_none he hd h1 hT dT (bB.mp h3).1 ?_;rw [show ({ s' with heap:=h2 }:ν).heap.update T (aR (·.setIfInBounds 3 .none))=h2 from Heap.update_setField_same h2 T oT ts 3 .none hT dT h3];refine uy (X:=X.hnd ea oe) J3 (show X.N.Nodup from ok.nd) hN (.inl hloc) (v:=.ref ea) rfl (fun s4 J4=>?_) (.inr hloc);have hi:i < σ.length:=by rw [I.len];exact (ο.mp hN).1
  obtain ⟨va,vb,b1,b2,hps⟩:=sHR (ea:=ea) ok kc hcl hdi hncl hsu;rw [htb] at eh;have hab:∀ g,Hass Γ g (if r=true then a else b) (if r=true then va else vb):=fun g=>by
   cases r with
   | true=>exact b1 g
   | false=>exact b2 g
  refine aJ (hps pj s4 (σ.set i (some (.ref ea))) H' { nx:=fun _ _=>False,rt:=fun v H5=>∃ g5,Step H' g2 H5 g5/\WOk Γ H5 g5 S2/\Has Γ g5 (.tup (if r=true then a else b)) v } J4 ⟨Κ hi,r,eh,fun H1 t1 p hp=>?_⟩) (fun fl s5 q=>?_) fun _ _ z=>z.elim
  ·have t2:Step H' g2 H1 g2:=Step.of_same t1 (Le.refl g2) (fun _ h=>.inl h) fun _ h=>.inl h
   exact Za (Q:=fun v H5=>∃ g5,Step H' g2 H5 g5/\WOk Γ H5 g5 S2/\Has Γ g5 (.tup (if r=true then a else b)) v) (w2.same t1) (fun v H5 g5 t3 _ w5 hv=>⟨g5,t2.trans t3,w5,hv⟩) (hab g2) hp
  cases fl with
  | ret u=>
   obtain ⟨v,σ5,H5,J5,rv,g5,t5,w5,hv⟩:=q;refine zdm (J5.zgT I.ok) ok.nd hN hloc fun s6 J6=>⟨v,_,H5,J6,rv,?_⟩
   exact nn.rt (.tup (if r=true then a else b)) false v H5 g5 S2 ((st.trans (st1.trans s2)).trans t5) ((st1.le.trans s2.le).trans t5.le) w5 hv hK
  | brk=>obtain ⟨_,_,_,z⟩:=q;exact z.elim
  | cont=>obtain ⟨_,_,_,z⟩:=q;exact z.elim
  | next=>obtain ⟨_,_,_,z⟩:=q;exact z.elim
end
noncomputable def Xa:Expr->Bool
 | .ListComp _ _ _ _=>false
 | .SetComp _ _ _ _=>false
 | .DictComp _ _ _ _ _=>false
 | _=>true
noncomputable def qW:E->Bool
 | .comp _ _ _ _ _=>true
 | _=>false
noncomputable def jj:Expr->Bool
 | .Tuple _ _ _=>false
 | _=>true
noncomputable def qg (c:Cc) (n:Str) (np:Pos):Expr->Bool
 | .ListComp _ _ sc p=>c.names.lookup n==some .local&&np.line==p.line&&!(sc.names.any fun (m,k)=>m==n&&(k==.local||k==.cell))
 | _=>false
noncomputable def chkN (c:Cc) (i:Nat) (n:Str):Bool:=c.N[i]?==some n&&visK (c.names.lookup n)&&zL n
structure Meth where
 o:Expr
 m:Str
 ap:Pos
 x:Expr
 cp:Pos
noncomputable def K8:Expr->Option Meth
 | .Call f args kws cp=>if yc kws=true then (wC f).bind fun q=>(sole args).map fun x=>⟨q.1,q.2.1,q.2.2,x,cp⟩ else none
 | _=>none
set_option tactic.hygienic true in
theorem K7 {x:Expr}{q:Meth}(h:K8 x=some q):x=.Call (.Attribute q.o q.m q.ap) [q.x] [] q.cp:=by
 cases x with
 | Call f args kws cp=>
  have h:(if yc kws=true then (wC f).bind fun q=>(sole args).map fun x=>(⟨q.1,q.2.1,q.2.2,x,cp⟩:Meth) else none)=some q:=h;split at h
  ·rename_i hn
   cases e1:wC f with
   | none=>rw [e1] at h;cases h
   | some z=>
    rw [e1] at h;cases e2:sole args with
    | none=>rw [e2] at h;cases h
    | some y=>
     rw [e2] at h;cases h;rw [yd hn,vO e1,xn e2]
  ·cases h
 | _=>cases h
noncomputable def Zf (B:Tb) (c:Cc) (name:Str) (i:Nat) (e:E) (x:Expr):Bool:=match K8 x with
  | some q=>(match asName q.o with
    | some r=>chkN c i r.1&&q.m==name&&chkE B c e q.x&&notStar q.x&&q.ap.endLine==q.cp.line
    | none=>false)
  | none=>false
theorem Vy {B:Tb}{c:Cc}{name:Str}{i:Nat}{e:E}{x:Expr}(h:Zf B c name i e x=true):∃ n np ap y cp,x=.Call (.Attribute (.Name n np) name ap) [y] [] cp/\chkN c i n=true/\chkE B c e y=true/\notStar y=true/\(ap.endLine==cp.line)=true:=by
  unfold Zf at h;cases e1:K8 x with
  | none=>rw [e1] at h;cases h
  | some q=>
    rw [e1] at h
    have h:(match asName q.o with
      | some r=>chkN c i r.1&&q.m==name&&chkE B c e q.x&&notStar q.x&&q.ap.endLine==q.cp.line
      | none=>false)=true:=h
    cases e2:asName q.o with
    | none=>rw [e2] at h;cases h
    | some r=>
      rw [e2] at h;have h:(chkN c i r.1&&q.m==name&&chkE B c e q.x&&notStar q.x&&q.ap.endLine==q.cp.line)=true:=h;simp only [γ] at h;obtain ⟨⟨⟨⟨h1,h2⟩,h3⟩,h4⟩,h5⟩:=h;refine ⟨r.1,r.2,q.ap,q.x,q.cp,?_,h1,h3,h4,h5⟩;rw [K7 e1,zH e2,eq_of_beq h2]
noncomputable def asRx:Expr->Option Str
  | .Call f as ks _=>(asName f).bind fun q=>(match as with
    | [a]=>(match a with
      | .Constant k _ _=>(match k with
        | .str _=>if yc ks=true then some q.1 else none
        | _=>none)
      | _=>none)
    | _=>none)
  | _=>none
set_option tactic.hygienic true in
theorem zdG {x:Expr}{n:Str}(h:asRx x=some n):∃ np msg j p cp,x=.Call (.Name n np) [.Constant (.str msg) j p] [] cp:=by
 cases x with
 | Call f as ks cp=>
  obtain ⟨q,e1,h⟩:=ζ.mp (show (asName f).bind _=some n from h)
  match as,h with
  | [a],h=>
   cases a with
   | Constant k j p=>
    cases k with
    | str m=>
     have h:(if yc ks=true then some q.1 else none)=some n:=h;split at h
     ·rename_i hn
      cases h;rw [zH e1,yd hn];exact ⟨_,_,_,_,_,rfl⟩
     ·cases h
    | _=>cases h
   | _=>cases h
  | [],h=>cases h
  | _::_::_,h=>cases h
 | _=>cases h
noncomputable def zdH:Stmt->Option Str
 | .Raise e c _=>e.bind fun x=>if c.isNone=true then asRx x else none
 | _=>none
set_option tactic.hygienic true in
theorem zaK {st:Stmt}{n:Str}(h:zdH st=some n):∃ np msg j p cp pos,st=.Raise (some (.Call (.Name n np) [.Constant (.str msg) j p] [] cp)) none pos:=by
 cases st with
 | Raise e c pos=>
  obtain ⟨x,e1,h⟩:=ζ.mp (show e.bind _=some n from h);split at h
  ·rename_i hc
   obtain ⟨np,msg,j,p,cp,rfl⟩:=zdG h;cases c with
   | none=>subst e1;exact ⟨_,_,_,_,_,_,rfl⟩
   | some _=>cases hc
  ·cases h
 | _=>cases h
noncomputable def asH1:ExceptHandler->Option (Str×Pos×Str×List Stmt×Pos)
 | .ExceptHandler t n ss p=>t.bind fun t=>(asName t).bind fun q=>n.bind fun n=>some (q.1,q.2,n,ss,p)
noncomputable def Ky (B:Tb) (c:Cc) (cn:Nat) (st:Stmt):Bool:=match zdH st with
 | some n=>(B.cls[cn]?).map (·.1)==some n&&gloK (c.names.lookup n)&&zL n
 | none=>false
noncomputable def zdL:Stmt->Option (Expr×aN×Expr×Pos)
 | .AugAssign t op x p=>some (t,op,x,p)
 | _=>none
theorem zaO {st:Stmt}{q:Expr×aN×Expr×Pos}(h:zdL st=some q):st=.AugAssign q.1 q.2.1 q.2.2.1 q.2.2.2:=by cases st <;> first | (cases h;rfl) | cases h
noncomputable def Kw (B:Tb) (c:Cc) (cs:List Str) (o:E) (f:Str) (e:E) (st:Stmt):Bool:=match Qa st with
  | some t=>(match (sole t.1).bind wC with
    | some q=>q.2.1==f&&chkE B c o q.1&&chkE B c e t.2.1&&cs.all (vI B f)
    | none=>false)
  | none=>false
noncomputable def KD (B:Tb) (c:Cc) (cs:List Str) (o:E) (f:Str) (op:aN) (e:E) (st:Stmt):Bool:=match zdL st with
  | some t=>(match wC t.1 with
    | some q=>q.2.1==f&&t.2.1==op&&chkE B c o q.1&&chkE B c e t.2.2.1&&cs.all (vI B f)
    | none=>false)
  | none=>false
noncomputable def asCl:Expr->Option (Str×Pos×List Expr×Pos)
 | .Call f as ks cp=>(asName f).bind fun q=>if yc ks=true then some (q.1,q.2,as,cp) else none
 | _=>none
set_option tactic.hygienic true in
theorem zdK {x:Expr}{q:Str×Pos×List Expr×Pos}(h:asCl x=some q):x=.Call (.Name q.1 q.2.1) q.2.2.1 [] q.2.2.2:=by
 cases x with
 | Call f as ks cp=>
  obtain ⟨r,e1,h⟩:=ζ.mp (show (asName f).bind _=some q from h);split at h
  ·rename_i hn
   cases h;rw [zH e1,yd hn]
  ·cases h
 | _=>cases h
structure Stx where
 nm:Str
 np:Pos
 n:Str
 fp:Pos
 xs:List Expr
 cp:Pos
 pos:Pos
noncomputable def zaJ (st:Stmt):Option Stx:=(Qa st).bind fun t=>((sole t.1).bind asName).bind fun q=>(asCl t.2.1).map fun r=>⟨q.1,q.2,r.1,r.2.1,r.2.2.1,r.2.2.2,t.2.2⟩
theorem W0 {st:Stmt}{q:Stx}(h:zaJ st=some q):st=.Assign [.Name q.nm q.np] (.Call (.Name q.n q.fp) q.xs [] q.cp) q.pos:=by obtain ⟨t,e1,h⟩:=ζ.mp h;obtain ⟨r,e2,h⟩:=ζ.mp h;obtain ⟨z,e3,e6⟩:=ζ.mp e2;obtain ⟨y,e4,e5⟩:=ι.mp h;subst e5;rw [Zi e1,xn e3,zH e6,zdK e4]
noncomputable def Kv (B:Tb) (c:Cc) (i f:Nat) (es:List E) (st:Stmt):Bool:=match zaJ st with
 | some q=>chkT c (.one i) (.Name q.nm q.np)&&B.fns[f]?==some q.n&&gloK (c.names.lookup q.n)&&zL q.n&&zN B c es q.xs&&!es.isEmpty
 | none=>false
structure Sw2 where
 n:Str
 px:Pos
 m:Str
 py:Pos
 kt:Nat
 pt:Pos
 x:Expr
 y:Expr
 k2:Nat
 p2:Pos
 pos:Pos
noncomputable def pr2:List Expr->Option (Expr×Expr)
 | [a,b]=>some (a,b)
 | _=>none
theorem zbg {l:List Expr}{q:Expr×Expr}(h:pr2 l=some q):l=[q.1,q.2]:=by
 match l,h with
 | [a,b],h=>cases h;rfl
 | [],h=>cases h
 | [_],h=>cases h
 | _::_::_::_,h=>cases h
noncomputable def zdF (st:Stmt):Option Sw2:=(Qa st).bind fun t=>((sole t.1).bind VG).bind fun q=>(pr2 q.1).bind fun ab=>(asName ab.1).bind fun a=>(asName ab.2).bind fun b=>(VG t.2.1).bind fun r=>(pr2 r.1).map fun xy=>⟨a.1,a.2,b.1,b.2,q.2.1,q.2.2,xy.1,xy.2,r.2.1,r.2.2,t.2.2⟩
theorem zaG {st:Stmt}{q:Sw2}(h:zdF st=some q):st=.Assign [.Tuple [.Name q.n q.px,.Name q.m q.py] q.kt q.pt] (.Tuple [q.x,q.y] q.k2 q.p2) q.pos:=by obtain ⟨t,e1,h⟩:=ζ.mp h;obtain ⟨r,e2,h⟩:=ζ.mp h;obtain ⟨z,e3,e2⟩:=ζ.mp e2;obtain ⟨ab,e4,h⟩:=ζ.mp h;obtain ⟨a,e5,h⟩:=ζ.mp h;obtain ⟨b,e6,h⟩:=ζ.mp h;obtain ⟨u,e7,h⟩:=ζ.mp h;obtain ⟨xy,e8,e9⟩:=ι.mp h;subst e9;rw [Zi e1,xn e3,uP e2,zbg e4,zH e5,zH e6,uP e7,zbg e8]
noncomputable def Ku (B:Tb) (c:Cc) (i j:Nat) (a b:E) (st:Stmt):Bool:=match zdF st with
 | some q=>c.N[i]?==some q.n&&c.N[j]?==some q.m&&!(i==j)&&c.names.lookup q.n==some .local&&c.names.lookup q.m==some .local&&q.px.line==q.py.line&&!(q.n==q.m)&&notStar q.x&&notStar q.y&&!(gA 8 q.x&&gA 8 q.y)&&!(fJ 8 q.x&&fJ 8 q.y)&&chkE B c a q.x&&chkE B c b q.y
 | none=>false
structure Trx where
 s:Stx
 cnm:Str
 cnp:Pos
 nm:Str
 ss:List Stmt
 hp:Pos
 o:List Stmt
 pos:Pos
noncomputable def zaF:Stmt->Option Trx
 | .Try b hs o f pos=>(sole b).bind fun b=>(zaJ b).bind fun q=>(sole hs).bind fun h=>(asH1 h).bind fun r=>if yc f=true then some ⟨q,r.1,r.2.1,r.2.2.1,r.2.2.2.1,r.2.2.2.2,o,pos⟩ else none
 | _=>none
set_option tactic.hygienic true in
theorem zaE {s:Stmt}{t:Trx}(h:zaF s=some t):s=.Try [.Assign [.Name t.s.nm t.s.np] (.Call (.Name t.s.n t.s.fp) t.s.xs [] t.s.cp) t.s.pos] [.ExceptHandler (some (.Name t.cnm t.cnp)) (some t.nm) t.ss t.hp] t.o [] t.pos:=by
 cases s with
 | Try b hs o f pos=>
  obtain ⟨b1,e1,h⟩:=ζ.mp (show (sole b).bind _=some t from h);obtain ⟨q,e2,h⟩:=ζ.mp h;obtain ⟨h1,e3,h⟩:=ζ.mp h;obtain ⟨r,e4,h⟩:=ζ.mp h;split at h
  ·rename_i hn
   cases h;obtain ⟨ty,nm,ss,p⟩:=h1;obtain ⟨ty,rfl,e4⟩:=ζ.mp (show ty.bind _=some r from e4);obtain ⟨z,e5,e4⟩:=ζ.mp e4;obtain ⟨nm,rfl,e4⟩:=ζ.mp e4;cases e4;rw [xn e1,W0 e2,xn e3,zH e5,yd hn]
  ·cases h
 | _=>cases h
noncomputable def WW (B:Tb) (c:Cc) (tb:List (List Nat)) (j f:Nat) (es:List E) (ce i:Nat) (h:HB) (a b:List D) (t:Trx):Bool:=chkT c (.one j) (.Name t.s.nm t.s.np)&&B.fns[f]?==some t.s.n&&gloK (c.names.lookup t.s.n)&&zL t.s.n&&zN B c es t.s.xs&&!es.isEmpty&&tb==B.cls.map (·.2)&&(B.cls[ce]?).map (·.1)==some t.cnm&&gloK (c.names.lookup t.cnm)&&zL t.cnm&&c.N[i]?==some t.nm&&c.names.lookup t.nm==some .local&&zdv B c i h a b t.ss
mutual
noncomputable def chkC (B:Tb) (c:Cc):C->Stmt->Bool
  | .set t e,.Assign ts x _=>(match sole ts with
    | some tg=>chkE B c e x&&chkT c t tg&&(match asName tg with
      | some q=>!qg c q.1 q.2 x||qW e
      | none=>Z9 tg&&jj x)
    | none=>false)
  | .expr e,.Expr x _=>chkE B c e x&&Xa x
  | .ret e,.Return v _=>(match v with
    | some x=>chkE B c e x
    | none=>false)
  | .retN,.Return v _=>v.isNone
  | .ite e a b,.If x aa bb _=>chkE B c e x&&xP B c a aa&&xP B c b bb
  | .whl e b,.While x bb r _=>chkE B c e x&&xP B c b bb&&yc r
  | .forr t it b,.For tgt x bb r _=>chkI B c it tgt x&&chkT c t tgt&&wH x&&xP B c b bb&&yc r
  | .app i e,.Expr x _=>Zf B c "append" i e x
  | .sti o k v,.Assign ts x _=>(match (sole ts).bind K6 with
    | some q=>chkE B c o q.1&&chkE B c k q.2.1&&chkE B c v x
    | none=>false)
  | .rse cn,st=>Ky B c cn st
  | .stx i f es,st=>Kv B c i f es st
  | .sw2 i j a b,st=>Ku B c i j a b st
  | .trx tb j f es ce i h a b els,st=>(match zaF st with
    | some t=>WW B c tb j f es ce i h a b t&&xP B c els t.o
    | none=>false)
  | .sta cs o f e,st=>Kw B c cs o f e st
  | .aua cs o f op e,st=>KD B c cs o f op e st
  | .pass,.Pass _=>true
  | .brk,.Break _=>true
  | .cnt,.Continue _=>true
  | _,_=>false
noncomputable def xP (B:Tb) (c:Cc):List C->List Stmt->Bool
 | .frz _::ss,xs=>xP B c ss xs
 | .frr _::ss,xs=>xP B c ss xs
 | .frk _::ss,xs=>xP B c ss xs
 | [],[]=>true
 | s::ss,x::xs=>chkC B c s x&&xP B c ss xs
 | _,_=>false
end
structure XSt (Γ:Gm) (B:Tb) (cx:Xp->Cf) (ex:Xp) (Hz:Hp) (gz:G) (k:Nat) (X:Cx) (c:Cc):Prop where
 ok:XOk Γ B (spN Γ cx) k X c
 fn:c.fn=true
 own:fY (Ξ X.prog X.w) X.A X.env X.xe
 hcf:∀ ex,CfN B (cx ex)
 hm:YK cx
 sk:X.stack=X.env::X.outer
 fr:X.env.frame=some X.env.locals
 xr:∀ pj σ H s g S c C h' ea args,Inv X pj σ H s->Step Hz gz H g->WOk Γ H g S->ex c S->Γ.ca c=some C->dZ s.heap h' ea (.ref C) args->X.xe (.ref ea) { s with heap:=h' }
 xp:∀ pj σ H1 s1 g1 e s',Inv X pj σ H1 s1->Step Hz gz H1 g1->CX1 X.prog X.w X.stack H1 s1 (Xw Γ ex H1 g1) e s'->X.xe e s'
section
variable {Γ:Gm}{B:Tb}{cx:Xp->Cf}{ex:Xp}{k w:Nat}{X:Cx}{c:Cc}{Hz:Hp}{gz:G}{x:Expr}{e:E}{n:Str}{pos np:Pos}{i:Nat}
theorem XSt.okE (ok:XSt Γ B cx ex Hz gz k X c) (E:VSP):XOk Γ B (spN Γ cx) k (X.wish E) c:=⟨ok.ok.hK,ok.ok.nm,ok.ok.kd,ok.ok.N,ok.ok.nd,ok.ok.fn,ok.ok.calm,ok.ok.room,ok.ok.cells,ok.ok.fns,ok.ok.bare,ok.ok.consts,ok.ok.fa,ok.ok.cl,ok.ok.ca,ok.ok.ob⟩
theorem XSt.pe (ok:XSt Γ B cx ex Hz gz k X c) (h:chkE B c e x=true):PE X x (TX Γ (cx noX) e):=(sA (ok.hcf noX) ok.hm.no e X c x ok.ok h).1
theorem XSt.pt (ok:XSt Γ B cx ex Hz gz k X c) (h:chkE B c e x=true):PT X x (TB Γ (cx noX) e):=(sA (ok.hcf noX) ok.hm.no e X c x ok.ok h).2.1
theorem noSl {y:Expr}(h:chkE B c e y=true):∀ lo hi st p,y≠.Slice lo hi st p:=fun lo hi st p q=>by subst q;exact Jr e h
theorem ZZ (h:Xa x=true) (t:Option Expr) (l:Nat) (env:Env):cj x t l env=pure false:=by cases x <;> first | rfl | cases h
theorem Qs (x o y:Expr) (p:Pos) (l:Nat) (env:Env):bC [.Subscript o y p] x l env=pure false:=by cases x <;> rfl
theorem Qq (x:Expr) (es:List Expr) (kk:Nat) (p:Pos) (l:Nat) (env:Env):bC [.Tuple es kk p] x l env=pure false:=by cases x <;> rfl
theorem Vd (x o y:Expr) (p:Pos) (env:Env):Ϲ [.Subscript o y p] x env=pure none:=by cases x <;> rfl
theorem Y0 (x:Expr) (n:Str) (p:Pos) (env:Env):Ϲ [.Name n p] x env=pure none:=by cases x <;> rfl
theorem Vc (h:jj x=true) (es:List Expr) (kk:Nat) (p:Pos) (env:Env):Ϲ [.Tuple es kk p] x env=pure none:=by cases x <;> first | rfl | cases h
theorem noSC {y:Expr}{g:List Comprehension}{sc:b7}{p:Pos}(e:E) (h:chkE B c e (.SetComp y g sc p)=true):False:=by
 cases e with
 | box e=>exact nobE h
 | _=>exact nobE h
theorem noDC {y z:Expr}{g:List Comprehension}{sc:b7}{p:Pos}(e:E) (h:chkE B c e (.DictComp y z g sc p)=true):False:=by
 cases e with
 | box e=>exact nobE h
 | _=>exact nobE h
theorem Ug (ok:XOk Γ B (spN Γ cx) k X c) (hx:chkE B c e x=true) (l:Nat):cj x (some (.Name n np)) l X.env=pure (qg c n np x):=by
 have hk:X.env.kindOf n=c.names.lookup n:=by unfold fP;rw [ok.nm]
 have hb:X.env.blockKind=.function:=by unfold Env.blockKind;rw [ok.kd];rfl
 cases x with
 | ListComp y g sc p=>
  show pure (X.env.blockKind==.function&&X.env.kindOf n==some .local&&np.line==p.line&&!(sc.names.any fun (m,k)=>m==n&&(k==.local||k==.cell)))=(pure (c.names.lookup n==some .local&&np.line==p.line&&!(sc.names.any fun (m,k)=>m==n&&(k==.local||k==.cell))):Sem Bool)
  rw [hb,hk];rfl
 | SetComp y g sc p=>exact (noSC e hx).elim
 | DictComp y g a sc p=>exact (noDC e hx).elim
 | _=>rfl
theorem za3 (ok:XSt Γ B cx ex Hz gz k X c) {t:T}{tgt:Expr}(h1:chkE B c e x=true) (hpg:PG X tgt (tgOf X.K t)) (hs:bC [tgt] x pos.line X.env=pure false) (hw:Ϲ [tgt] x X.env=pure none) (ha:(aD [tgt] X.env).map (·.2)=[dD tgt X.env]):PS X (.Assign [tgt] x pos) (TC Γ cx ex w Hz gz (.set t e)):=by
 cases hn:zcS e with
 | true=>exact zhj hn (ok.pe h1) hpg hs hw ha
 | false=>
  cases e with
  | box e=>exact zey (ok.pe (e:=e) (γ _ _ ▸ (show (U3 x&&chkE B c e x)=true from h1)).2) hpg hs hw ha
  | _=>cases hn
theorem zeK (ok:XSt Γ B cx ex Hz gz k X c) {t:T}{ts:List Expr}(h:chkC B c (.set t e) (.Assign ts x pos)=true):PS X (.Assign ts x pos) (TC Γ cx ex w Hz gz (.set t e)):=by
  have h:(match sole ts with
    | some tg=>chkE B c e x&&chkT c t tg&&(match asName tg with
      | some q=>!qg c q.1 q.2 x||qW e
      | none=>Z9 tg&&jj x)
    | none=>false)=true:=h
  cases e1:sole ts with
  | none=>rw [e1] at h;cases h
  | some tg=>
    rw [e1] at h;have et:=xn e1;subst et
    have h:(chkE B c e x&&chkT c t tg&&(match asName tg with
      | some q=>!qg c q.1 q.2 x||qW e
      | none=>Z9 tg&&jj x))=true:=h
    rw [γ,γ] at h;obtain ⟨⟨h1,h2⟩,h3⟩:=h;have hpg:=Zt ok.ok h2;cases e2:asName tg with
    | some q=>
      rw [e2] at h3;have et:=zH e2;obtain ⟨n,np⟩:=q;subst et;have h3:(!qg c n np x||qW e)=true:=h3;have hsw:=Ug (n:=n) (np:=np) ok.ok h1 pos.line;cases ha:qg c n np x with
      | false=>
        rw [ha] at hsw;exact za3 ok h1 hpg hsw (Y0 x n np X.env) rfl
      | true=>
        rw [ha] at h3 hsw;cases e with
        | comp t' js it ifs elt=>
          cases t with
          | one i=>exact zex (sCS (ok.hcf noX) ok.hm.no ok.ok h1) hpg hsw
          | tup is=>exact nobE h2
          | nst _ _=>exact nobE h2
        | _=>cases h3
    | none=>
      rw [e2] at h3;have h3:(Z9 tg&&jj x)=true:=h3;rw [γ] at h3;cases tg with
      | Tuple es kk p=>exact za3 ok h1 hpg (Qq x es kk p pos.line X.env) (Vc h3.2 es kk p X.env) rfl
      | _=>cases h3.1
theorem s_rt (ok:XSt Γ B cx ex Hz gz k X c) (h:chkE B c e x=true):PS X (.Return (some x) pos) (TC Γ cx ex w Hz gz (.ret e)):=by
 by_cases hv:∃ i,e=.var i
 ·obtain ⟨i,rfl⟩:=hv;have hb:Α x.ctorIdx 23=true:=by revert h;cases x <;> first | exact non | exact fun _=>rfl
  revert h;apply wG hb;clear hb;intro n p h;have h:(c.N[i]?==some n&&visK (c.names.lookup n)&&zL n)=true:=h;simp only [γ] at h;obtain ⟨q1,q2,_⟩:=zQ h.2;exact zeA (by rw [ok.ok.N];exact eq_of_beq h.1.1) (ok.ok.vis h.1.2) q1 q2
 ·exact zhm (fun i q=>hv ⟨i,q⟩) (ok.pe h)
theorem zaH {ts:List Expr}{q:Expr×Expr×Pos}(h:(sole ts).bind K6=some q):ts=[.Subscript q.1 q.2.1 q.2.2]:=by
 cases e1:sole ts with
 | none=>rw [e1] at h;cases h
 | some tg=>
  rw [e1] at h;rw [xn e1,zaI h]
theorem zhh (ok:XSt Γ B cx ex Hz gz k X c) {o kx v:E}{ts:List Expr}(h:chkC B c (.sti o kx v) (.Assign ts x pos)=true):PS X (.Assign ts x pos) (TC Γ cx ex w Hz gz (.sti o kx v)):=by
  have h:(match (sole ts).bind K6 with
    | some q=>chkE B c o q.1&&chkE B c kx q.2.1&&chkE B c v x
    | none=>false)=true:=h
  cases e2:(sole ts).bind K6 with
  | none=>rw [e2] at h;cases h
  | some q=>
    rw [e2] at h;have et:=zaH e2;subst et;obtain ⟨z,y,sp⟩:=q;have h:(chkE B c o z&&chkE B c kx y&&chkE B c v x)=true:=h;simp only [γ] at h;obtain ⟨⟨h1,h2⟩,h3⟩:=h;exact zhf ok.ok.u1 (ok.pe h3) (ok.pe h1) (ok.pe h2) (noSl h2) (Qs x z y sp pos.line X.env) (Vd x z y sp X.env) rfl
mutual
theorem sC (ok:XSt Γ B cx ex Hz gz k X c):∀ (s:C) (st:Stmt),chkC B c s st=true->PS X st (TC Γ cx ex w Hz gz s)
  | .set t e,st,h=>by
    have hb:Α st.ctorIdx 5=true:=by revert h;cases st <;> first | exact non | exact fun _=>rfl
    revert h;apply ZV hb;clear hb;intro ts x pos h;exact zeK ok h
  | .expr e,st,h=>by
    have hb:Α st.ctorIdx 24=true:=by revert h;cases st <;> first | exact non | exact fun _=>rfl
    revert h;apply Jl hb;clear hb;intro x pos h;have h:(chkE B c e x&&Xa x)=true:=h;simp only [γ] at h;exact zeI (ok.pe h.1) (ZZ h.2 none pos.line X.env)
  | .ret e,st,h=>by
    have hb:Α st.ctorIdx 3=true:=by revert h;cases st <;> first | exact non | exact fun _=>rfl
    revert h;apply ZS hb;clear hb;intro v pos h;cases v with
    | none=>exact nobE h
    | some x=>exact s_rt ok h
  | .retN,st,h=>by
    have hb:Α st.ctorIdx 3=true:=by revert h;cases st <;> first | exact non | exact fun _=>rfl
    revert h;apply ZS hb;clear hb;intro v pos h;cases v with
    | some x=>exact nobE h
    | none=>exact zeB
  | .ite e a b,st,h=>by
    have hb:Α st.ctorIdx 12=true:=by revert h;cases st <;> first | exact non | exact fun _=>rfl
    revert h;apply zhU hb;clear hb;intro x aa bb pos h;have h:(chkE B c e x&&xP B c a aa&&xP B c b bb)=true:=h;simp only [γ] at h;exact s_if (ok.pt h.1.1) (sCs ok a aa h.1.2) (sCs ok b bb h.2)
  | .whl e b,st,h=>by
    have hb:Α st.ctorIdx 11=true:=by revert h;cases st <;> first | exact non | exact fun _=>rfl
    revert h;apply Q3 hb;clear hb;intro x bb r pos h;have h:(chkE B c e x&&xP B c b bb&&yc r)=true:=h;simp only [γ] at h;have hr:=yd h.2;subst hr;exact zcc (ok.pt h.1.1) (sCs ok b bb h.1.2) ok.own
  | .forr t it b,st,h=>by
    have hb:Α st.ctorIdx 9=true:=by revert h;cases st <;> first | exact non | exact fun _=>rfl
    revert h;apply zfs hb;clear hb;intro tgt x bb r pos h;have h:(chkI B c it tgt x&&chkT c t tgt&&wH x&&xP B c b bb&&yc r)=true:=h;simp only [γ] at h;obtain ⟨⟨⟨⟨h1,h2⟩,h3⟩,h4⟩,h5⟩:=h;have hr:=yd h5;subst hr;exact zhy (sI (ok.hcf noX) ok.hm.no it X c tgt x ok.ok h1) (Zt ok.ok h2) (sCs ok b bb h4) ok.own ok.ok.calm (Yj h3 X.env)
  | .app i e,st,h=>by
    have hb:Α st.ctorIdx 24=true:=by revert h;cases st <;> first | exact non | exact fun _=>rfl
    revert h;apply Jl hb;clear hb;intro x pos h;obtain ⟨n,np,ap,y,cp,rfl,h1,h3,h4,h5⟩:=Vy (show Zf B c "append" i e x=true from h);unfold chkN at h1;simp only [γ] at h1;obtain ⟨q1,q2,_⟩:=zQ h1.2;exact zhG (by rw [ok.ok.N];exact eq_of_beq h1.1.1) (ok.ok.vis h1.1.2) q1 q2 (ok.pe h3) h4 h5
  | .ext i e,st,h=>nobE h
  | .stv i kx v,st,h=>nobE h
  | .sti o kx v,st,h=>by
    have hb:Α st.ctorIdx 5=true:=by revert h;cases st <;> first | exact non | exact fun _=>rfl
    revert h;apply ZV hb;clear hb;intro ts x pos h;exact zhh ok h
  | .appR o e,st,h=>nobE h
  | .pop i,st,h=>nobE h
  | .popO t i,st,h=>nobE h
  | .popR t o,st,h=>nobE h
  | .pass,st,h=>by
    have hb:Α st.ctorIdx 25=true:=by revert h;cases st <;> first | exact non | exact fun _=>rfl
    revert h;apply zcM hb;clear hb;intro pos h;exact zeD
  | .brk,st,h=>by
    have hb:Α st.ctorIdx 26=true:=by revert h;cases st <;> first | exact non | exact fun _=>rfl
    revert h;apply Q4 hb;clear hb;intro pos h;exact zhC
  | .cnt,st,h=>by
    have hb:Α st.ctorIdx 27=true:=by revert h;cases st <;> first | exact non | exact fun _=>rfl
    revert h;apply Y8 hb;clear hb;intro pos h;exact zhz
  | .lin i es,st,h=>nobE h
  | .sta cs o f e,st,h=>by
    have h:Kw B c cs o f e st=true:=by cases st <;> exact h
    unfold Kw at h;cases ea:Qa st with
    | none=>rw [ea] at h;exact nobE h
    | some t=>
    rw [ea] at h;obtain ⟨ts,x,p⟩:=t
    have h0:(match (sole ts).bind wC with
      | some q=>q.2.1==f&&chkE B c o q.1&&chkE B c e x&&cs.all (vI B f)
      | none=>false)=true:=h
    clear h;rw [Zi ea];cases eb:(sole ts).bind wC with
    | none=>rw [eb] at h0;exact nobE h0
    | some q=>
      rw [eb] at h0;have h':(q.2.1==f&&chkE B c o q.1&&chkE B c e x&&cs.all (vI B f))=true:=h0;simp only [γ] at h';obtain ⟨⟨⟨h1,h2⟩,h3⟩,h4⟩:=h';obtain ⟨tg,e1,e2⟩:=ζ.mp eb;have es:=xn e1;have en:=vO e2;have ef:=eq_of_beq h1;subst es en ef;exact zhg ok.ok (sA (ok.hcf noX) ok.hm.no o X c q.1 ok.ok h2).1 (sA (ok.hcf noX) ok.hm.no e X c x ok.ok h3).1 (Ρ.mp h4)
  | .aua cs o f op e,st,h=>by
    have h:KD B c cs o f op e st=true:=by cases st <;> exact h
    unfold KD at h;cases ea:zdL st with
    | none=>rw [ea] at h;exact nobE h
    | some t=>
    rw [ea] at h;obtain ⟨tg,op',x,p⟩:=t
    have h0:(match wC tg with
      | some q=>q.2.1==f&&op'==op&&chkE B c o q.1&&chkE B c e x&&cs.all (vI B f)
      | none=>false)=true:=h
    clear h;rw [zaO ea];cases eb:wC tg with
    | none=>rw [eb] at h0;exact nobE h0
    | some q=>
      rw [eb] at h0;have h':(q.2.1==f&&op'==op&&chkE B c o q.1&&chkE B c e x&&cs.all (vI B f))=true:=h0;simp only [γ] at h';obtain ⟨⟨⟨⟨h1,h5⟩,h2⟩,h3⟩,h4⟩:=h';have en:=vO eb;have ef:=eq_of_beq h1;have eo:=eq_of_beq h5;subst en ef eo;exact zhE ok.ok (sA (ok.hcf noX) ok.hm.no o X c q.1 ok.ok h2).1 (sA (ok.hcf noX) ok.hm.no e X c x ok.ok h3).1 (Ρ.mp h4)
  | .rse cn,st,h=>by
    have h:Ky B c cn st=true:=by cases st <;> exact h
    unfold Ky at h;cases e:zdH st with
    | none=>rw [e] at h;cases h
    | some n=>
      rw [e] at h;have h':((B.cls[cn]?).map (·.1)==some n&&gloK (c.names.lookup n)&&zL n)=true:=h;rw [γ,γ] at h';obtain ⟨⟨h1,h2⟩,h3⟩:=h';obtain ⟨np,msg,j,p,cp,pos,rfl⟩:=zaK e;obtain ⟨⟨n',l⟩,e1,e2⟩:=ι.mp (eq_of_beq h1);cases e2;exact zhl ok.ok e1 (ok.ok.glob h2) (zQ h3).1 ok.xr
  | .stx i f es,st,h=>by
    have h:Kv B c i f es st=true:=by cases st <;> exact h
    unfold Kv at h;cases e:zaJ st with
    | none=>rw [e] at h;exact nobE h
    | some q=>
      rw [e] at h;have h':=h;clear h;simp only [γ] at h';obtain ⟨⟨⟨⟨⟨h1,h2⟩,h3⟩,h4⟩,h5⟩,h6⟩:=h';rw [W0 e];obtain ⟨nm,np,n,fp,xs,cp,pos⟩:=q;dsimp only at h1 h2 h3 h4 h5 ⊢;cases xs with
      | nil=>
        cases es with
        | nil=>cases h6
        | cons _ _=>exact nobE h5
      | cons y ys=>
        exact zhe ok.ok ok.hcf (eq_of_beq h2) (uw h4) (ok.ok.glob h3) (zQ h4).1 (yE h5) (fun E=>sEs (ok.hcf noX) ok.hm.no es (X.wish E) c (y::ys) (ok.okE E) h5) (Zt ok.ok h1) ok.xp
  | .sw2 i j a b,st,h=>by
    have h:Ku B c i j a b st=true:=by cases st <;> exact h
    unfold Ku at h;cases e:zdF st with
    | none=>rw [e] at h;exact nobE h
    | some q=>
      rw [e] at h;have h':=h;clear h;simp only [γ,bx] at h';obtain ⟨⟨⟨⟨⟨⟨⟨⟨⟨⟨⟨⟨h1,h2⟩,h3⟩,h4⟩,h5⟩,h6⟩,h7⟩,h8⟩,h9⟩,h10⟩,h11⟩,h12⟩,h13⟩:=h';rw [zaG e];have l1:X.env.scope.names.lookup q.n=some .local:=by rw [ok.ok.nm];exact eq_of_beq h4
      have l2:X.env.scope.names.lookup q.m=some .local:=by rw [ok.ok.nm];exact eq_of_beq h5
      have hb:X.env.blockKind=.function:=by unfold Env.blockKind;rw [ok.ok.kd];rfl
      exact zhc ok.ok (by rw [ok.ok.N];exact eq_of_beq h1) (by rw [ok.ok.N];exact eq_of_beq h2) (beq_eq_false_iff_ne.mp h3) l1 l2 (ok.pe h12) (ok.pe h13) h8 h9 (zei hb l1 l2 (eq_of_beq h6) (beq_eq_false_iff_ne.mp h7) h8 h9 h10 h11)
  | .trx tb j f es ce i hb a b els,st,h=>by
    have h:(match zaF st with
      | some t=>WW B c tb j f es ce i hb a b t&&xP B c els t.o
      | none=>false)=true:=by cases st <;> exact h
    cases e:zaF st with
    | none=>rw [e] at h;exact nobE h
    | some t=>
      rw [e] at h;have h':(WW B c tb j f es ce i hb a b t&&xP B c els t.o)=true:=h;clear h;rw [γ] at h';obtain ⟨h0,hel⟩:=h';unfold WW at h0;simp only [γ] at h0;obtain ⟨⟨⟨⟨⟨⟨⟨⟨⟨⟨⟨⟨h1,h2⟩,h3⟩,h4⟩,h5⟩,h6⟩,h7⟩,h8⟩,h9⟩,h10⟩,h11⟩,h12⟩,h13⟩:=h0;rw [zaE e];obtain ⟨⟨jn,jp,n,fp,xs,cp,ep⟩,cnm,cnp,nm,ss,hp,o,pos⟩:=t;dsimp only at h1 h2 h3 h4 h5 h8 h9 h10 h11 h12 h13 hel ⊢;obtain ⟨⟨n',l⟩,e1,e2⟩:=ι.mp (eq_of_beq h8);cases e2;cases xs with
      | nil=>
        cases es with
        | nil=>cases h6
        | cons _ _=>exact nobE h5
      | cons y ys=>
        cases ss with
        | nil=>exact nobE h13
        | cons b0 ss=>
          have hl:X.env.kindOf nm=some .local:=by unfold fP;rw [ok.ok.nm];exact eq_of_beq h12
          exact zhb ok.ok ok.sk ok.fr ok.hcf (eq_of_beq h2) (uw h4) (ok.ok.glob h3) (zQ h4).1 (yE h5) (fun E=>sEs (ok.hcf noX) ok.hm.no es (X.wish E) c (y::ys) (ok.okE E) h5) (fun E=>Zt (ok.okE E) h1) (eq_of_beq h7) e1 (ok.ok.glob h9) (zQ h10).1 (by rw [ok.ok.N];exact eq_of_beq h11) hl h13 (sCs ok els o hel)
  | .tri tb f es ce i hs,st,h=>nobE h
  | .frz _,st,h=>by revert h;cases st <;> exact nobE
  | .frr _,st,h=>by revert h;cases st <;> exact nobE
  | .frk _,st,h=>by revert h;cases st <;> exact nobE
theorem sCs (ok:XSt Γ B cx ex Hz gz k X c):∀ (ss:List C) (sts:List Stmt),xP B c ss sts=true->PSs X sts (TCs Γ cx ex w Hz gz ss)
 | [],sts,h=>by
  cases sts with
  | nil=>exact zew
  | cons _ _=>exact nobE h
 | s::ss,sts,h=>by
  by_cases hf:∃ i,s=.frz i
  ·obtain ⟨i,rfl⟩:=hf;exact zhv (sCs ok ss sts (by cases sts <;> exact h))
  by_cases hr:∃ i,s=.frr i
  ·obtain ⟨i,rfl⟩:=hr;exact zhw (sCs ok ss sts (by cases sts <;> exact h))
  by_cases hk:∃ i,s=.frk i
  ·obtain ⟨i,rfl⟩:=hk;exact zhx (sCs ok ss sts (by cases sts <;> exact h))
  ·cases sts with
   | nil=>cases s <;> first | exact nobE h | exact absurd ⟨_,rfl⟩ hf | exact absurd ⟨_,rfl⟩ hr | exact absurd ⟨_,rfl⟩ hk
   | cons st sts=>
    have h:(chkC B c s st&&xP B c ss sts)=true:=by cases s <;> first | exact h | exact absurd ⟨_,rfl⟩ hf | exact absurd ⟨_,rfl⟩ hr | exact absurd ⟨_,rfl⟩ hk
    rw [γ] at h;exact zcd (sC ok s st h.1) (sCs ok ss sts h.2)
end
end
theorem ln1 {α:Type}:∀ {l:List α},l.length=1->∃ a,l=[a]
 | [a],_=>⟨a,rfl⟩
theorem ln2 {α:Type}{l:List α}(h:l.length=2):∃ a0 a1,l=[a0,a1]:=by
 cases l with
 | nil=>cases h
 | cons a0 l=>
  obtain ⟨a1,rfl⟩:=ln1 (cD h);exact ⟨a0,a1,rfl⟩
theorem ln3 {α:Type}{l:List α}(h:l.length=3):∃ a0 a1 a2,l=[a0,a1,a2]:=by
 cases l with
 | nil=>cases h
 | cons a0 l=>
  obtain ⟨a1,a2,rfl⟩:=ln2 (cD h);exact ⟨a0,a1,a2,rfl⟩
theorem YJ {K:W.Frag}{x:Str}(h:dotted x=false):atN K x=W.nsIn K ϋ x:=by unfold atN;rw [h];rfl
noncomputable def wU (rs:List Row):Nat->Option Fn:=fun i=>(rs[i]?).map (·.fn)
noncomputable def Uq (N ps:List Str) (sc:b7):Bool:=
 (sc.kind==.function)&&!sc.isCoroutine&&!sc.isGenerator&&decide N.Nodup&&(N.take ps.length==ps)&&ps.all (fun x=>sc.names.lookup x==some .local||sc.names.lookup x==some .cell)&&sc.names.all (fun y=>y.2 != .free)
theorem Up {N ps:List Str}{sc:b7}(h:Uq N ps sc=true):Zk N ps sc:=by unfold Uq at h;simp only [γ,Ρ,dN,decide_eq_true_eq,bx,beq_iff_eq,bne_iff_ne] at h;obtain ⟨⟨⟨⟨⟨⟨h1,h2⟩,h3⟩,h4⟩,h5⟩,h6⟩,h7⟩:=h;exact ⟨h1,h2,h3,h4,h5,h6,h7⟩
structure z8 (B:Tb) (r:Row):Prop where
 sc:Uq r.N r.ps (zO r.st)=true
 ck:xP B ⟨(zO r.st).names,r.N,true⟩ r.fn.body (yz r.st)=true
 np:r.fn.np=r.ps.length
 nv:r.fn.nv=r.N.length
 bd:∀ (kV doc pm:δ) (an:Option Addr) (cdv ct:δ) (us:List δ),us.length=r.ps.length->bindArgs (W.fnOf (nmOf r.name) r.name (yQ r.st) (yz r.st) (zO r.st) .none kV doc pm an cdv ct) ⟨us,[]⟩=pure (r.ps.zip us)
def KwOk (rs:List Row) (q:Nat×List Str×List Nat):Prop:=q.2.1≠[]/\∀ r,rs[q.1]?=some r->∀ (kV doc pm:δ) (an:Option Addr) (cdv ct:δ) (ws:List δ),ws.length=q.2.1.length ->
 bindArgs (W.fnOf (nmOf r.name) r.name (yQ r.st) (yz r.st) (zO r.st) .none kV doc pm an cdv ct) ⟨[],q.2.1.zip ws⟩=pure (r.ps.zip (q.2.2.map fun i=>ws.getD i .none))
structure YL (K:W.Frag) (x:Str) (st:Stmt):Prop where
 ex:∃ f fd,Fun K (nmOf x) x st f fd/\atN K x=some (some (.ref f))
theorem zgA {K:W.Frag}{x:Str}{st:Stmt}{f:Addr}{oc:δ}{od an:Option Addr}{osl:Array (Option δ)}{kV doc pm cdv ct:δ}(a:atN K x=some (some (.ref f)))
  (l:K.lookup f=some ⟨oc,od,.func (W.fnOf (nmOf x) x (yQ st) (yz st) (zO st) .none kV doc pm an cdv ct),osl⟩) (c:W.codeIn K cdv x=true) (k:W.keepIn K (.ref f)=true):YL K x st:=⟨f,_,zgg l c k,a⟩
noncomputable def faOf (K:W.Frag) (r:Row):Option Addr:=open Classical in if h:∃ f,∃ fd,Fun K (nmOf r.name) r.name r.st f fd/\atN K r.name=some (some (.ref f)) then some (aQ h) else none
theorem Xx {K:W.Frag}{r:Row}(h:∃ f,∃ fd,Fun K (nmOf r.name) r.name r.st f fd/\atN K r.name=some (some (.ref f))):faOf K r=some (aQ h):=by unfold faOf;exact dif_pos h
noncomputable def gmOf (K:W.Frag) (rs:List Row) (cs:List (Str×List Nat)):Gm where
 K:=K
 fa:=fun i=>(rs[i]?).bind (faOf K)
 ca:=fun c=>(cs[c]?).bind fun p=>caOf K p.1
def AllR {α:Type}(Q:α->Prop):List α->Prop
 | []=>True
 | a::r=>Q a/\AllR Q r
theorem AllR.at {α:Type}{Q:α->Prop}:∀ {l:List α}{i:Nat}{a:α},AllR Q l->l[i]?=some a->Q a
 | [],_,_,_,h=>by simp at h
 | b::r,0,a,⟨h,_⟩,e=>by simp at e;subst e;exact h
 | b::r,i+1,a,⟨_,h⟩,e=>AllR.at (i:=i) h (by simpa using e)
theorem AllR.mem {α:Type}{Q:α->Prop}:∀ {l:List α}{a:α},AllR Q l->a∈l->Q a
 | b::r,a,⟨h,t⟩,e=>by
  rcases χ.mp e with rfl | q
  ·exact h
  ·exact AllR.mem t q
structure zaP (K:W.Frag) (mg:Str->Option δ) (B:Tb) (rs:List Row):Prop where
 fns:B.fns=rs.map (·.name)
 pars:B.pars=rs.map (·.ps)
 rows:AllR (z8 B) rs
 kws:AllR (KwOk rs) B.kws
 defs:AllR (fun r=>YL K r.name r.st) rs
 gl:∀ x u,W.nsIn K ϋ x=some u->mg x=u
 bare:∀ x∈B.bare,W.nsIn K ϋ x=some none
 consts:∀ (n:Nat) (x:Str) (d:D),B.consts[n]?=some (x,d)->∃ u v,W.nsIn K ϋ x=some (some u)/\RelV v u/\∀ g,Has (gmOf K rs B.cls) g d v
 cls:∀ (c:Nat) (x:Str) (l:List Nat),B.cls[c]?=some (x,l)->∃ C,W.nsIn K ϋ x=some (some (.ref C))/\KCls (gmOf K rs B.cls) (B.cls.map (·.2)) c C
 obs:∀ o∈B.obs,∃ C,W.nsIn K ϋ o.name=some (some (.ref C))/\ObOk (gmOf K rs B.cls) o C
section
variable {P:Τ}{w:ϙ}{K:W.Frag}{mg:Str->Option δ}{base:Heap}{B:Tb}{rs:List Row}
theorem ziw {F:Nat->Option Fn}{wh:Nat}(h:∀ f fn ps,F f=some fn->B.pars[f]?=some ps->fn.np=ps.length):∀ k ex,CfN B (zg F wh k ex)
 | 0,_=>fun _ _ _ _ _ _ q=>q.elim
 | k+1,_=>fun f ds V S ps hp q=>by obtain ⟨fn,e,hl,_⟩:=zV q;rw [hl,h f fn ps e hp]
theorem Uj {Γ:Gm}{H:Hp}{g:G}{fn:Fn}{N:List Str}{ds:List D}{vs:List V}(h:Hass Γ g ds vs) (hn:fn.nv=N.length):EnvO Γ H H g (entry fn ds) (L2.start N vs):=by
 have hl:=h.len;have key:∀ (i:Nat) (s:Slot),(entry fn ds)[i]?=some s->(∃ d,ds[i]?=some d/\s=.sh d)\/s=.no:=by
  intro i s e;unfold entry at e;by_cases hi:i < ds.length
  ·rw [ϖ (by simpa using hi),Υ,ψ hi] at e;cases e;exact .inl ⟨ds[i],ψ hi,rfl⟩
  ·rw [ϒ (by simpa using gK hi),bW] at e;split at e
   ·cases e;exact .inr rfl
   ·cases e
 refine ⟨?_,fun i d e=>?_,fun i d e=>?_,fun i j d e a h1=>?_⟩
 ·unfold entry L2.start;simp [hl,hn]
 ·rcases key i _ e with ⟨d',e1,e2⟩ | e2
  ·cases e2;obtain ⟨v,q,hv⟩:=h.get e1;refine ⟨v,?_,hv⟩;unfold L2.start;have hi:=(ο.mp q).1;rw [ϖ (by simpa using hi),Υ,q];rfl
  ·cases e2
 ·rcases key i _ e with ⟨d',e1,e2⟩ | e2 <;> cases e2
 ·rcases key i _ h1 with ⟨d',e1,e2⟩ | e2 <;> cases e2
theorem fn_e {wh k f:Nat}{r:Row}{fa:Addr}{fd:aG}(md:zaP K mg B rs) (hr:rs[f]?=some r) (F:Fun K (nmOf r.name) r.name r.st fa fd) (ih:∀ (g:Nat) (x:Str),B.fns[g]?=some x->FnI (gmOf K rs B.cls) B (spN (gmOf K rs B.cls) (zg (wU rs) wh k)) k P w K mg base g x):
  FnOk P w K mg base (CX1 P w) (2*k+1+1) fa fd r.ps (spN (gmOf K rs B.cls) (zg (wU rs) wh (k+1)) f r.ps.length):=by
 have ro:=md.rows.at hr;have sc:=Up ro.sc
 have hcf:∀ ex,CfN B (zg (wU rs) wh k ex):=ziw (fun f fn ps h1 h2=>by
  unfold wU at h1;rw [md.pars,Υ] at h2;cases e:rs[f]? with
  | none=>rw [e] at h1;cases h1
  | some q=>
   rw [e] at h1 h2;cases h1;cases h2
   exact (md.rows.at e).np) k
 obtain ⟨oc,od,kV,doc,pm,an,cdv,ct,osl,rfl,lk,hcd⟩:=F.ex;refine zgi lk hcd sc (fun vs H Q E h=>h.1) fun A outer s H vs Q E hrm h=>?_
 obtain ⟨hl,g,ds,S,V,ex,wok,hh,hc,kk,kx⟩:=h;obtain ⟨fn,e1,_,hc⟩:=zV hc;have e2:wU rs f=some r.fn:=by unfold wU;rw [hr];rfl
 rw [e2] at e1;cases e1
 refine ⟨TCs (gmOf K rs B.cls) (zg (wU rs) wh k) ex wh H g r.fn.body,sCs (c:=⟨(zO r.st).names,r.N,true⟩) ⟨⟨rfl,rfl,sc.kind,rfl,sc.nd,fun _ _=>rfl,rfl,hrm,fun x hx=>?_,ih,fun x hx=>?_,fun n x d e=>?_,fun f a e=>?_,fun c x l e=>?_,fun c C e=>?_,fun o ho=>?_⟩,rfl,fY.leaving,hcf,zM k,rfl,rfl,fun pj σ H1 s1 g1 S1 c C h' ea args I st wo hex hca m=>L2.leave_new (X:=cxOf (CX1 P w) P w K mg base r.N r.name (zO r.st) fa cdv A outer s H E) rfl rfl rfl I m (kx c (.ref ea) C H1 g1 S1 st wo hca hex),fun pj σ H1 s1 g1 e s' I st hq=>L2.Vt (X:=cxOf (CX1 P w) P w K mg base r.N r.name (zO r.st) fa cdv A outer s H E) rfl rfl rfl I hq fun C H' z=>by
  obtain ⟨c,C0,g2,S2,eC,hca,s2,w2,q⟩:=z;subst eC
  exact kx c e C0 H' g2 S2 (st.trans s2) w2 hca q⟩ r.fn.body (yz r.st) ro.ck,entry r.fn ds,S,_,g,hc,Step.refl H g,wok,Uj hh ro.nv,?_⟩
 ·rcases hx with hx | hx
  ·exact Zg hx
  ·exact absurd rfl (sc.nofree _ (aB hx))
 ·exact md.gl x none (md.bare x hx)
 ·obtain ⟨u,v,e1,e2,e3⟩:=md.consts n x d e;exact ⟨u,v,md.gl x (some u) e1,e2,e3⟩
 ·obtain ⟨r,er,_⟩:=ζ.mp (show (rs[f]?).bind (faOf K)=some a from e);exact ⟨r.name,by rw [md.fns,Υ,er];rfl⟩
 ·obtain ⟨C,e1,e2⟩:=md.cls c x l e;exact ⟨C,md.gl x _ e1,e2⟩
 ·obtain ⟨p,ep,_⟩:=ζ.mp (show (B.cls[c]?).bind (fun p=>caOf K p.1)=some C from e);exact ⟨p.1,p.2,ep⟩
 ·obtain ⟨C,e1,e2⟩:=md.obs o ho;exact ⟨C,md.gl _ _ e1,e2⟩
 ·exact ⟨fun ρ σ' H' g' S' st le w' env q=>kk (.non,.st) .non H' g' S' st w' rfl q,fun ρ σ' H' g' S' st le w' env q=>q.elim,fun ρ σ' H' g' S' st le w' env q=>q.elim,fun d fr v H' g' S' st le w' vo q=>kk (d,kd fr) v H' g' S' st w' (VN.of vo) q⟩
theorem fn_0 {f:Nat}{wh:Nat}{fa:Addr}{fd:aG}{ps:List Str}{Γ:Gm}{F:Nat->Option Fn}:FnOk P w K mg base (CX1 P w) 0 fa fd ps (spN Γ (zg F wh 0) f ps.length):=
 ⟨fun vs H Q E h=>h.1,fun A outer s H args us vs Q E hr he hb hv ⟨_,g,ds,S,V,_,_,_,hc,_⟩=>hc.elim⟩
theorem Zr:∀ {zs:List V}{ws:List δ}(i:Nat),Vals zs ws->RelV (zs.getD i .non) (ws.getD i .none)
 | _,_,_,.nil=>rfl
 | _,_,0,.cons h _=>h
 | _,_,i+1,.cons _ t=>by have:=Zr i t;simpa using this
theorem X6 {zs:List V}{ws:List δ}(h:Vals zs ws):∀ (perm:List Nat),Vals (perm.map fun i=>zs.getD i .non) (perm.map fun i=>ws.getD i .none)
 | []=>.nil
 | i::r=>.cons (Zr i h) (X6 h r)
theorem zbE {wh k:Nat}(md:zaP K mg B rs) (h:∀ (f:Nat) (r:Row) (fa:Addr) (fd:aG),rs[f]?=some r->Fun K (nmOf r.name) r.name r.st fa fd->FnOk P w K mg base (CX1 P w) (2*k) fa fd r.ps (spN (gmOf K rs B.cls) (zg (wU rs) wh k) f r.ps.length)):
  ∀ (f:Nat) (x:Str),B.fns[f]?=some x->FnI (gmOf K rs B.cls) B (spN (gmOf K rs B.cls) (zg (wU rs) wh k)) k P w K mg base f x:=by
 intro f x hx;rw [md.fns,Υ] at hx;cases hr:rs[f]? with
 | none=>rw [hr] at hx;cases hx
 | some r=>
  rw [hr] at hx;cases hx;have da:∃ f,∃ fd,Fun K (nmOf r.name) r.name r.st f fd/\atN K r.name=some (some (.ref f)):=(md.defs.at hr).ex;obtain ⟨fd,F,na⟩:=dw da;have ro:=md.rows.at hr;refine ⟨aQ da,fd,r.ps,?_,fun hd=>md.gl _ _ (by rw [<- na];unfold atN;rw [hd];rfl),F.kp,F.binds ro.bd,?_,h f r _ fd hr F,fun ks perm h1 h2 h3 h4 h5=>?_⟩
  ·show (rs[f]?).bind (faOf K)=_
   rw [hr];exact Xx da
  ·rw [md.pars,Υ,hr];rfl
  ·have hk:=md.kws.mem h5;obtain ⟨oc,od,kV,doc,pm,an,cdv,ct,osl,hfd,lk,hcd⟩:=F.ex;refine ⟨fun s us ws _ hl=>?_,fun {vs us zs ws} r1 r2=>?_⟩
   ·have hl:(if ws.length=ks.length then us++perm.map fun i=>ws.getD i .none else []).length=r.ps.length:=hl;show BindsTo s fd ⟨us,ks.zip ws⟩ (r.ps.zip (if ws.length=ks.length then us++perm.map fun i=>ws.getD i .none else []))
    by_cases hw:ws.length=ks.length
    ·rw [if_pos hw] at hl ⊢;have hu:us=[]:=by
      cases us with
      | nil=>rfl
      | cons _ _=>simp at hl;lia
     subst hu;rw [hfd];exact .of_eq (hk.2 r hr kV doc pm an cdv ct ws hw)
    ·rw [if_neg hw] at hl ⊢;have h0:r.ps=[]:=bV.mp hl.symm;have hk0:ks=[]:=bV.mp (by rw [h4,h0];rfl);exact absurd hk0 hk.1
   ·show Vals (if zs.length=ks.length then vs++perm.map fun i=>zs.getD i .non else []) (if ws.length=ks.length then us++perm.map fun i=>ws.getD i .none else [])
    rw [r2.length];split
    ·exact r1.append (X6 r2 perm)
    ·exact .nil
theorem zbN (wh:Nat) (md:zaP K mg B rs):∀ (k f:Nat) (x:Str),B.fns[f]?=some x->FnI (gmOf K rs B.cls) B (spN (gmOf K rs B.cls) (zg (wU rs) wh k)) k P w K mg base f x
 | 0=>zbE md fun f r fa fd hr F=>fn_0
 | k+1=>zbE md fun f r fa fd hr F=>fn_e md hr F (zbN wh md k)
end
structure Txt (K:W.Frag) (B:Tb) (rs:List Row):Prop where
 defs:AllR (fun r=>YL K r.name r.st) rs
 bare:AllR (fun x=>W.nsIn K ϋ x=some none) B.bare
 consts:∀ (n:Nat) (x:Str) (d:D),B.consts[n]?=some (x,d)->∃ u v,W.nsIn K ϋ x=some (some u)/\RelV v u/\∀ g,Has (gmOf K rs B.cls) g d v
 cls:∀ (c:Nat) (x:Str) (l:List Nat),B.cls[c]?=some (x,l)->∃ C,W.nsIn K ϋ x=some (some (.ref C))/\KCls (gmOf K rs B.cls) (B.cls.map (·.2)) c C
 obs:∀ o∈B.obs,∃ C,W.nsIn K ϋ o.name=some (some (.ref C))/\ObOk (gmOf K rs B.cls) o C
structure Tabs (B:Tb) (rs:List Row):Prop where
 fns:B.fns=rs.map (·.name)
 pars:B.pars=rs.map (·.ps)
 rows:AllR (z8 B) rs
 kws:AllR (KwOk rs) B.kws
theorem zfB {K:W.Frag}{B:Tb}{rs:List Row}{h:Heap}{mg:Str->Option δ}(t:Tabs B rs) (x:Txt K B rs) (X:K.In h) (N:h.Ns ϋ mg):zaP K mg B rs where
 fns:=t.fns
 pars:=t.pars
 rows:=t.rows
 kws:=t.kws
 defs:=x.defs
 gl:=fun y u e=>by
  cases u with
  | none=>exact W.mg_none_of X N e
  | some v=>exact W.mg_of X N e
 bare:=fun y hy=>x.bare.mem hy
 consts:=x.consts
 cls:=x.cls
 obs:=x.obs
theorem zdt {K:W.Frag}{rs:List Row}{cs:List (Str×List Nat)}{x:Str}{i:Int}{t:Tok}(h:W.nsIn K ϋ x=some (some (.int i t))):∃ u v,W.nsIn K ϋ x=some (some u)/\RelV v u/\∀ g,Has (gmOf K rs cs) g (.int i) v:=⟨_,.int i,h,⟨t,rfl⟩,fun _=>rfl⟩
theorem zgF {K:W.Frag}{rs:List Row}{cs:List (Str×List Nat)}{i:Nat}{r:Row}(hr:rs[i]?=some r) (d:YL K r.name r.st) (hdt:dotted r.name=false):∃ u v,W.nsIn K ϋ r.name=some (some u)/\RelV v u/\∀ g,Has (gmOf K rs cs) g (.fn i) v:=by
 obtain ⟨fd,_,e⟩:=dw d.ex;have e:=(YJ hdt).symm.trans e;refine ⟨.ref (aQ d.ex),.ref (aQ d.ex),e,rfl,fun g=>⟨aQ d.ex,?_,rfl⟩⟩;show (rs[i]?).bind (faOf K)=_
 rw [hr];exact Xx d.ex
theorem zdp {K:W.Frag}{rs:List Row}{cs:List (Str×List Nat)}{x i:Str}{t:Tok}(h:W.nsIn K ϋ x=some (some (.str i t))):∃ u v,W.nsIn K ϋ x=some (some u)/\RelV v u/\∀ g,Has (gmOf K rs cs) g (.str i) v:=⟨_,.str i,h,⟨t,rfl⟩,fun _=>rfl⟩
open PySem L2
theorem JX {n:Nat}{a:Int}(h0:0<=a) (h1:a < (n:Int)):idx n a=some a.toNat:=by
 show (if 0<=a then (if a < n then some a.toNat else none) else _)=_
 rw [if_pos h0,if_pos h1]
theorem zbq {i j:Int}(h:0 < j):opD .Mod (.int i) (.int j)=some (.int (i % j),false):=by
 show (if decide (0 < j)=true then some (i % j) else none).map (fun k=>(D.int k,false))=_
 rw [if_pos (decide_eq_true h)];rfl
theorem Jt {i j:Int}(h:z7 i=true):opD .Mult (.int i) (.int j)=some (.int (i*j),false):=by
 show (if (z7 i||z7 j)=true then some (D.int (i*j),false) else none)=_
 rw [if_pos (by rw [h];rfl)]
theorem Js {i j:Int}(h:z7 j=true):opD .Mult (.int i) (.int j)=some (.int (i*j),false):=by
 show (if (z7 i||z7 j)=true then some (D.int (i*j),false) else none)=_
 rw [if_pos (by rw [h,lw])]
theorem qC {i:Int}(h0:0<=i) (h1:i < 4294967296):z7 i=true:=by unfold z7;rw [decide_eq_true (by lia),decide_eq_true (by lia)];rfl
theorem fits_of {n:Nat}(h:n<=1000000):fits n=true:=decide_eq_true h
theorem Wt {l:List D}{a:Int}{d:D}(h0:0<=a) (h:l[a.toNat]?=some d):subD (.lst l) (.int a)=some d:=by
 show ((idx l.length a).bind fun k=>l[k]?)=_
 have:=(ο.mp h).1;rw [JX h0 (by lia)];exact h
theorem zd2 {l:List D}{a:Int}{d:D}(h0:0<=a) (h:l[a.toNat]?=some d):subD (.tup l) (.int a)=some d:=by
 show ((idx l.length a).bind fun k=>l[k]?)=_
 have:=(ο.mp h).1;rw [JX h0 (by lia)];exact h
theorem ints_get {ns:List Int}{a:Int}(h0:0<=a) (h1:a < (ns.length:Int)):∃ x,x∈ns/\subD (.lst (ns.map D.int)) (.int a)=some (.int x):=by
 have hl:a.toNat < ns.length:=by lia
 refine ⟨ns[a.toNat],aW hl,Wt h0 ?_⟩;rw [Υ,ψ hl];rfl
theorem ZR (n:Nat):∀ (ns:List Int),okPs n (ns.map D.int)=true
 | []=>rfl
 | i::ns=>by
  show (okP n (.int i)&&okPs n (ns.map D.int))=true
  rw [ZR n ns];cases n <;> rfl
theorem Yb:∀ (ns:List Int),vX (ns.map D.int)=some ns
 | []=>rfl
 | i::ns=>by
  show (vX (ns.map D.int)).map (i::·)=_
  rw [Yb ns];rfl
theorem zgo {a b:D}(ha:okP 60 a=true) (hb:okP 60 b=true):cmpD .Eq a b=some (eqP a b):=by
 show (if (okP 60 a&&okP 60 b)=true then some (eqP a b) else none)=_
 rw [ha,hb];rfl
theorem zfx {a b:D}(ha:okP 60 a=true) (hb:okP 60 b=true):cmpD .NotEq a b=some (!eqP a b):=by
 have e:cmpD .NotEq a b=(if (okP 60 a&&okP 60 b)=true then some (eqP a b) else none).map (!·):=by
  cases a with
  | dK=>exact nobE ha
  | _=>rfl
 rw [e,ha,hb];rfl
theorem zdN {a b:List D}(h:a.length+b.length<=1000000):opD .Add (.tup a) (.tup b)=some (.tup (a++b),false):=by
 show (if fits (a.length+b.length)=true then some (D.tup (a++b),false) else none)=_
 rw [if_pos (fits_of h)]
theorem XQ {a b:List D}(h:a.length+b.length<=1000000):opD .Add (.lst a) (.lst b)=some (.lst (a++b),true):=by
 show (if fits (a.length+b.length)=true then some (D.lst (a++b),true) else none)=_
 rw [if_pos (fits_of h)]
section
variable {α:Type}{F:Nat->Option Fn}{cf:Cf}{cx:Xp->Cf}{ex:Xp}{w k f:Nat}{ds:List D}{V V':Po}{S:Store}{K:Ko}{ρ:List Slot}{x:Vl}{d:D}{b:Bool}{l:List D}{c:C}{cs:List C}
theorem zp {o:Option α}{Q:α->Prop}{a:α}(h:o=some a) (q:Q a):opt o Q:=by subst h;exact q
theorem z6 {o:Option (List Slot)}{Q:List Slot->Prop}{a:List Slot}(h:o=some a) (q:Q a):optS o Q:=by subst h;exact q
theorem zr {o:Option (D×Bool)}{Q:Vl->Prop}(h:o=some (d,false)) (q:Q (d,.st)):opV o Q:=by subst h;exact q
theorem ZM {o:Option (D×Bool)}{Q:Vl->Prop}(h:o=some (d,true)) (q:Q (d,.fr)):opV o Q:=by subst h;exact q
theorem zJ {T F:Prop}(h:b=true) (q:T):tst b T F:=by subst h;exact q
theorem wK {T F:Prop}(h:b=false) (q:F):tst b T F:=by subst h;exact q
theorem zE {T F:Prop}(t:b=true->T) (f:b=false->F):tst b T F:=by
 cases b with
 | true=>exact t rfl
 | false=>exact f rfl
theorem kp_s {Q:D->Prop}(h:x=(d,.st)) (q:Q d):keep x Q:=by subst h;exact q
theorem kp_f {Q:D->Prop}(h:x=(d,.fr)) (q:Q d):keep x Q:=by subst h;exact q
theorem bx_f {Q:D->Prop}(h:x=(d,.fr)) (q:Q d):boxd x Q:=by subst h;exact q
theorem rv_s {Q:O->Prop}(h:x=(d,.st)) (q:Q (.ret d false)):retV x Q:=by subst h;exact q
theorem rv_f {Q:O->Prop}(h:x=(d,.fr)) (q:Q (.ret d true)):retV x Q:=by subst h;exact q
theorem yu {Q:Bool->Prop}(h:d=.bl b) (q:Q b):isB d Q:=by subst h;exact q
theorem zf1 {Q:Nat->Prop}{f:Nat}(h:d=.fn f) (q:Q f):isF d Q:=by subst h;exact q
theorem yM {Q:Int->Prop}{i:Int}(h:d=.int i) (q:Q i):isZ d Q:=by subst h;exact q
theorem zg7 {s:Option Slot}{P Q:D->Prop}(h:s=some (.sh d)) (q:P d):sel s P Q:=by subst h;exact q
theorem zg8 {s:Option Slot}{P Q:D->Prop}(h:s=some (.ow d)) (q:Q d):sel s P Q:=by subst h;exact q
theorem zU {s:Option Slot}{Q:Vl->Prop}(h:s=some (.sh d)) (q:Q (d,.st)):rdV s Q:=by subst h;exact q
theorem vm {s:Option Slot}{Q:Vl->Prop}(h:s=some (.ow d)) (q:Q (d,.bo)):rdV s Q:=by subst h;exact q
theorem Wm {s:Option Slot}{Q:List D->Prop}(h:s=some (.ow (.lst l))) (q:Q l):owL s Q:=by subst h;exact q
theorem zfb {s:Option Slot}{Q:D->Prop}(h:s=some (.ow d)) (q:Q d):owD s Q:=by subst h;exact q
theorem zgG {s:Option D}{Q:List D->Prop}(h:s=some (.lst l)) (q:Q l):isL s Q:=by subst h;exact q
theorem zf0 {n:Nat}{Q:Nat->Prop}(h:d=.ref n) (q:Q n):isR d Q:=by subst h;exact q
theorem zu (h:wpC cx ex w c ρ (nxt (fun ρ' S'=>wpCs cx ex w cs ρ' K S') K) S):wpCs cx ex w (c::cs) ρ K S:=h
theorem yW (h:K (.next ρ) S):wpCs cx ex w [] ρ K S:=h
theorem zB {g:List Slot->Store->Prop}(h:g ρ S):nxt g K (.next ρ) S:=h
theorem zd9 {g:List Slot->Store->Prop}(h:K (.ret d b) S):nxt g K (.ret d b) S:=h
theorem zeb {g:List Slot->Store->Prop}(h:K (.brk ρ) S):nxt g K (.brk ρ) S:=h
theorem zea {g:List Slot->Store->Prop}(h:K (.cnt ρ) S):nxt g K (.cnt ρ) S:=h
theorem to_s (h:V (d,.st) S):told V (.ret d false) S:=h
theorem to_f (h:V (d,.fr) S):told V (.ret d true) S:=h
theorem Ub (h:V (.non,.st) S):told V (.next ρ) S:=h
theorem zbX {I:List Slot->Store->Prop}(h:I ρ S):trn K I (.next ρ) S:=h
theorem zd5 {I:List Slot->Store->Prop}(h:I ρ S):trn K I (.cnt ρ) S:=h
theorem zd6 {I:List Slot->Store->Prop}(h:K (.next ρ) S):trn K I (.brk ρ) S:=h
theorem zd4 {I:List Slot->Store->Prop}(h:K (.ret d b) S):trn K I (.ret d b) S:=h
theorem wp_mono (h:zg F w k ex f ds V S) (q:∀ x S,V x S->V' x S):zg F w k ex f ds V' S:=(zM k).no f ds V V' S q h
theorem zP {fn:Fn}{bd:List C}(hf:F f=some fn) (hl:ds.length=fn.np) (hb:fn.body=bd) (h:wpCs (zg F w k) ex w bd (entry fn ds) (told V) S):zg F w (k+1) ex f ds V S:=by
 show opt (F f) _
 rw [hf];exact ⟨hl,by rw [hb];exact h⟩
theorem wp_walk {t:T}{A:List C}(I:List D->List Slot->Store->Prop)
  (step:∀ d l ρ S,I (d::l) ρ S->optS (yR ρ t (d,false)) fun ρ1=>wpCs (zg F w k) ex w A ρ1 (trn K (I l)) S)
  (fin:∀ ρ S,I [] ρ S->K (.next ρ) S):∀ (l:List D) (ρ:List Slot) (S:Store),I l ρ S->forW t (fun ρ=>wpCs (zg F w k) ex w A ρ) l ρ K S
 | [],ρ,S,h=>fin ρ S h
 | d::l,ρ,S,h=>zf (fun ρ1 q=>yg (zM k) A (fun _ _=>id) (ux (fun ρ S=>wp_walk I step fin l ρ S) fun _ _=>id) q) (step d l ρ S h)
theorem XS {e:E}{A:List C}(I:Nat->List Slot->Store->Prop)
  (step:∀ n ρ S,I n ρ S->wpE (yl F w k) ρ e (fun x S1=>isB x.1 fun b=>tst b (∃ m,n=m+1/\wpCs (zg F w k) ex w A ρ (trn K (I m)) S1) (K (.next ρ) S1)) S):
  ∀ (N n:Nat) (ρ:List Slot) (S:Store),n < N->I n ρ S->whlW (fun ρ=>wpX (yl F w k) ρ e) (fun ρ=>wpCs (zg F w k) ex w A ρ) N ρ K S
 | 0,n,ρ,S,hn,h=>absurd hn (Nat.not_lt_zero n)
 | N+1,n,ρ,S,hn,h=>za (KN k) e (fun x S1=>yN fun b=>zx (fun ⟨m,e,q⟩=>yg (zM k) A (fun _ _=>id) (ux (fun ρ S=>XS I step N m ρ S (by lia)) fun _ _=>id) q) id) (step n ρ S h)
theorem zX {i:Nat}:wpE cf ρ (.var i) V S=(rdV ρ[i]? fun x=>V x S):=rfl
theorem yj {d:D}:wpE cf ρ (.con d) V S=(V (d,.st) S):=rfl
theorem zap {n:Nat}{d:D}:wpE cf ρ (.glo n d) V S=(V (d,.st) S):=rfl
theorem Xz {op:aN}{a:E}{b:E}:wpE cf ρ (.bin op a b) V S=(wpE cf ρ a (fun x S1=>wpE cf ρ b (fun y S2=>opV (opD op (zF S2 x.1) (zF S2 y.1)) fun x=>V x S2) S1) S):=rfl
theorem Kf {a:E}:wpE cf ρ (.neg a) V S=(wpE cf ρ a (fun x S1=>isZ x.1 fun i=>V (.int (-i),.st) S1) S):=rfl
theorem xx {op:dW}{a:E}{b:E}:wpE cf ρ (.cmp op a b) V S=(wpE cf ρ a (fun x S1=>wpE cf ρ b (fun y S2=>opt (cmpD op (zF S2 x.1) (zF S2 y.1)) fun r=>V (.bl r,.st) S2) S1) S):=rfl
theorem zio {o1:dW}{o2:dW}{a:E}{b:E}{c:E}:wpE cf ρ (.chn o1 o2 a b c) V S=(wpE cf ρ a (fun x S1=>wpE cf ρ b (fun y S2=>opt (cmpD o1 (zF S2 x.1) (zF S2 y.1)) fun r=>tst r (wpE cf ρ c (fun z S3=>opt (cmpD o2 (zF S3 y.1) (zF S3 z.1)) fun r=>V (.bl r,.st) S3) S2) (V (.bl false,.st) S2)) S1) S):=rfl
theorem zao {a:E}:wpE cf ρ (.not a) V S=(wpE cf ρ a (fun x S1=>isB x.1 fun b=>V (.bl (!b),.st) S1) S):=rfl
theorem zdl {a:E}{b:E}:wpE cf ρ (.and a b) V S=(wpE cf ρ a (fun x S1=>isB x.1 fun r=>tst r (wpE cf ρ b V S1) (V (.bl false,.st) S1)) S):=rfl
theorem e_or {a:E}{b:E}:wpE cf ρ (.or a b) V S=(wpE cf ρ a (fun x S1=>isB x.1 fun r=>tst r (V (.bl true,.st) S1) (wpE cf ρ b V S1)) S):=rfl
theorem zim {c:E}{a:E}{b:E}:wpE cf ρ (.ite c a b) V S=(wpE cf ρ c (fun x S1=>isB x.1 fun r=>tst r (wpE cf ρ a V S1) (wpE cf ρ b V S1)) S):=rfl
theorem zan {es:List E}:wpE cf ρ (.tup es) V S=(wpEs cf ρ es (fun ds S1=>tst (fits ds.length) (V (.tup ds,.st) S1) False) S):=rfl
theorem Xy {es:List E}:wpE cf ρ (.lst es) V S=(wpEs cf ρ es (fun ds S1=>tst (fits ds.length) (V (.lst ds,.fr) S1) False) S):=rfl
theorem zin {tk:Bool}{ks:List Key}{es:List E}:wpE cf ρ (.dic tk ks es) V S=(wpEs cf ρ es (fun ds S1=>tst (zgx tk ks ds) (V (dicV tk ks ds,.fr) S1) False) S):=rfl
theorem Zd {a:E}{i:E}:wpE cf ρ (.sub a i) V S=(wpE cf ρ a (fun x S1=>wpE cf ρ i (fun y S2=>opt (subD (zF S2 x.1) y.1) fun d=>V (d,.st) S2) S1) S):=rfl
theorem Kc {a:E}{lo:Option E}{hi:Option E}:wpE cf ρ (.slc a lo hi) V S=(wpE cf ρ a (fun x S1=>wpO cf ρ lo (fun l S2=>wpO cf ρ hi (fun h S3=>opV (slcD (zF S3 x.1) l h) fun x=>V x S3) S2) S1) S):=rfl
theorem e_bi {b:BI}{e:E}:wpE cf ρ (.bi b [e]) V S=(wpE cf ρ e (fun x S1=>opV (biD b [zF S1 x.1]) fun x=>V x S1) S):=rfl
theorem zgr {b:BI}{e e':E}:wpE cf ρ (.bi b [e,e']) V S=(wpEs cf ρ [e,e'] (fun ds S1=>opV (biD b (ds.map (zF S1))) fun x=>V x S1) S):=rfl
theorem zik {m:MT}{o:E}{es:List E}:wpE cf ρ (.mth m o es) V S=(wpE cf ρ o (fun x S1=>tst (mthK m (zF S1 x.1)) (wpEs cf ρ es (fun ds S2=>opV (mthD m (zF S2 x.1) ds) fun x=>V x S2) S1) False) S):=rfl
theorem WQ {f:Nat}{es:List E}:wpE cf ρ (.call f es) V S=(wpEs cf ρ es (fun ds S1=>cf f ds V S1) S):=rfl
theorem zdk {f:Nat}{perm:List Nat}{es:List E}:wpE cf ρ (.callk f perm es) V S=(wpEs cf ρ es (fun ds S1=>opt (perm.mapM fun i=>ds[i]?) fun ds=>cf f ds V S1) S):=rfl
theorem ziq {e:E}:wpE cf ρ (.box e) V S=(wpE cf ρ e (fun x S1=>boxd x fun d=>V (.ref S1.length,.st) (S1++[d])) S):=rfl
theorem zdj {i:Nat}{es:List E}:wpE cf ρ (.callv i es) V S=(rdV ρ[i]? fun x=>isF x.1 fun f=>wpEs cf ρ es (fun ds S1=>cf f ds V S1) S):=rfl
theorem Ke {e:E}:wpE cf ρ (.one e) V S=(wpE cf ρ e V S):=rfl
theorem zgq {e:E}:wpE cf ρ (.flip e) V S=(wpE cf ρ e (fun x S1=>opV (zgm (zF S1 x.1)) fun x=>V x S1) S):=rfl
theorem zbR {t:T}{js:List Nat}{it elt:E}{ifs:List E}(h:wpI cf ρ it (fun its S1=>uR (zdx cf ρ t js ifs elt) its [] (fun ds S2=>V (.lst ds,.fr) S2) S1) S):wpE cf ρ (.comp t js it ifs elt) V S:=h
end
theorem zgB {l:List D}{x:D}:cutD (l++[x]) none (some (-1))=l:=by
 unfold cutD;rw [HT.Wc];have:HT.sIx (l++[x]).length (l++[x]).length (some (-1))=l.length:=by
  show (if (-1:Int) < 0 then (-1+((l++[x]).length:Int)).toNat else min (-1:Int).toNat (l++[x]).length)=_
  rw [if_pos (by decide),Ο];simp;lia
 rw [this];simp
theorem zcp {ks:List Key}{vs:List D}{s:Str}{v:D}(h:hasK ks (.inr s)=false) (hl:ks.length+1<=1000000):putD (.dK ks vs) (.str s) v=some (.dK (ks++[.inr s]) (vs++[v])):=by
 show (if fits (ks.length+1)=true then some (D.dK (yq ks vs (cY s) v).1 (yq ks vs (cY s) v).2) else none)=_
 rw [if_pos (fits_of hl)];unfold yq;rw [h];rfl
theorem zdo (ns:List Int) (lo hi:Option Int):∃ ms:List Int,cutD (ns.map D.int) lo hi=ms.map D.int/\ms.length<=ns.length:=by unfold cutD;rw [<- List.map_drop,<- List.map_take];refine ⟨_,rfl,?_⟩;rw [aV,bG];lia
theorem Ul {x k:Int}(h0:0 < k) (h1:k<=4294967296):z7 (x % k)=true:=qC (aO _ (by lia)) (by have:=ao x h0;lia)
theorem uB {lo hi:Int}(h:lo < hi):yC lo hi=.int lo::yC (lo+1) hi:=by
 unfold yC;obtain ⟨m,hm⟩:∃ m,(hi - lo).toNat=m+1:=⟨(hi - lo).toNat - 1,by lia⟩
 have e:(hi - (lo+1)).toNat=m:=by lia
 rw [hm,e,lr,ϳ,List.map_map]
 congr 1
 ·simp
 ·refine List.map_congr_left fun k _=>?_
  simp;lia
theorem Uu {lo hi:Int}(h:hi<=lo):yC lo hi=[]:=by unfold yC;rw [show (hi - lo).toNat=0 by lia];rfl
theorem om1 {a b K:Nat}(h:b<=K) (e:Nat.ble a b=true):a<=K:=ϕ (ϝ e) h
theorem om2 {a b K:Nat}(h:b<=K+1) (e:Nat.ble (a+1) b=true):a<=K:=Nat.le_of_succ_le_succ (ϕ (ϝ e) h)
theorem om3 {b K:Nat}(h:b<=K) (e:Nat.ble 1 b=true):K=K - 1+1:=(Nat.sub_add_cancel (ϕ (ϝ e) h)).symm
theorem frIn {h:Heap}:∀ (l:List Addr) (a:Addr) (o:Obj),(l.filterMap fun a=>(h.get? a).map fun o=>(a,o)).lookup a=some o->h.get? a=some o
 | [],a,o,e=>by cases e
 | b::l,a,o,e=>by
  rw [bJ] at e;cases q:h.get? b with
  | none=>rw [q] at e;exact frIn l a o e
  | some x=>
   rw [q] at e;dsimp only [Option.map_some] at e;rw [ϟ] at e;cases hb:a==b with
   | true=>
    rw [hb] at e;cases eq_of_beq hb;exact q.trans e
   | false=>
    rw [hb] at e;exact frIn l a o e
set_option tactic.hygienic true in
theorem zas {K:W.Frag}{x:Str}{st:Stmt}(e:Ka K x=some (W.fnOf (nmOf x) x (yQ st) (yz st) (zO st) .none .none .none .none none .none .none,true)):YL K x st:=by
 unfold Ka at e;split at e
 ·rename_i f hf
  split at e
  ·rename_i oc od fd osl hl
   obtain ⟨e1,e2⟩:=dG (Λ e);obtain ⟨c,k⟩:=Ζ.mp e2;generalize hnn:nmOf x=nn at e1;cases fd;cases e1;dsimp only at hnn;subst hnn;exact zgA hf hl c k
  ·cases e
 ·cases e
set_option tactic.hygienic true in
theorem zbW {K:W.Frag}{a:Addr}{its:Array δ}(h:zd3 K a=some its):∃ o n,K.lookup a=some o/\o.cls=.type "tuple"/\o.data=.seq its n/\its.size<=sizeLine:=by
 obtain ⟨o,e1,e2⟩:=ζ.mp h;split at e2
 ·rename_i t js n c1 c2
  split at e2
  ·rename_i c
   cases e2;obtain ⟨c3,c4⟩:=Ζ.mp c;exact ⟨o,n,e1,by rw [c1,eq_of_beq c3],c2,ϕ (of_decide_eq_true c4) (by rw [fH];decide)⟩
  ·cases e2
 ·cases e2
theorem Xu:∀ (ds:List D) (vs:List δ),kZ ds vs=true->∃ xs:List V,Vals xs vs/\∀ (Γ:Gm) (g:G),Hass Γ g ds xs
 | [],[],_=>⟨[],.nil,fun _ _=>rfl⟩
 | .str x::ds,.str y t::vs,h=>by obtain ⟨h1,h2⟩:=Ζ.mp (show (x==y&&kZ ds vs)=true from h);obtain ⟨xs,v,k⟩:=Xu ds vs h2;exact ⟨.str x::xs,.cons ⟨t,by rw [eq_of_beq h1]⟩ v,fun Γ g=>⟨_,_,rfl,rfl,k Γ g⟩⟩
 | .int x::ds,.int y t::vs,h=>by obtain ⟨h1,h2⟩:=Ζ.mp (show (x==y&&kZ ds vs)=true from h);obtain ⟨xs,v,k⟩:=Xu ds vs h2;exact ⟨.int x::xs,.cons ⟨t,by rw [eq_of_beq h1]⟩ v,fun Γ g=>⟨_,_,rfl,rfl,k Γ g⟩⟩
set_option tactic.hygienic true in
theorem zgw {K:W.Frag}{a:Addr}{ps:List (Str×Int)}(h:zgy K a ps=true):KDic K a ps:=by
 obtain ⟨h1,h2⟩:=Ζ.mp h;refine ⟨?_,fun h k=>W.kt_text_in k h2⟩;split at h1
 ·rename_i o e
  obtain ⟨h3,h4⟩:=Ζ.mp h1;split at h3
  ·rename_i t c
   exact ⟨o,e,by rw [c,eq_of_beq h3],Option.isNone_iff_eq_none.mp h4⟩
  ·cases h3
 ·cases h1
set_option tactic.hygienic true in
theorem zgD {K:W.Frag}{rs:List Row}{cs:List (Str×List Nat)}{c:Nat}{p:Str×List Nat}(hp:cs[c]?=some p) (h:zav K cs p=true):∃ C,W.nsIn K ϋ p.1=some (some (.ref C))/\KCls (gmOf K rs cs) (cs.map (·.2)) c C:=by
 unfold zav at h;cases e:caOf K p.1 with
 | none=>rw [e] at h;cases h
 | some C=>
  rw [e] at h;simp only [γ,beq_iff_eq,Ρ] at h;obtain ⟨⟨⟨⟨⟨⟨⟨⟨h1,h2⟩,h3⟩,h4⟩,h5⟩,h6⟩,h7⟩,h8⟩,h9⟩:=h;have hs:∀ k,subT (cs.map (·.2)) c k=p.2.contains k:=fun k=>by unfold subT;rw [Υ,hp];rfl
  have hq:∀ k Ck,(gmOf K rs cs).ca k=some Ck->W.kitOne K (.ref C) (.ref Ck)=some (p.2.contains k)/\W.exmOne K (.ref C) (.ref Ck)=some (p.2.contains k):=fun k Ck hk=>by obtain ⟨q,e1,e2⟩:=ζ.mp (show (cs[k]?).bind (fun p=>caOf K p.1)=some Ck from hk);have:=h9 k (au.mpr (ο.mp e1).1);rw [e1] at this;dsimp only at this;rw [e2] at this;simp only [γ,beq_iff_eq] at this;exact this
  refine ⟨C,?_,⟨?_,h1,⟨h2,h3,h4,h5,h6,h7⟩,fun k Ck hk=>by rw [hs];exact (hq k Ck hk).1,h8,fun k Ck hk=>by rw [hs];exact (hq k Ck hk).2⟩⟩
  ·unfold caOf at e;split at e
   ·rename_i z;cases e;exact z
   ·cases e
  ·show (cs[c]?).bind (fun p=>caOf K p.1)=some C
   rw [hp];exact e
set_option tactic.hygienic true in
theorem zhV {K:W.Frag}{rs:List Row}{cs:List (Str×List Nat)}{o:Ob}(hd:AllR (fun r=>YL K r.name r.st) rs) (h:obOk K rs o=true):∃ C,W.nsIn K ϋ o.name=some (some (.ref C))/\ObOk (gmOf K rs cs) o C:=by
 unfold obOk at h;cases e:caOf K o.name with
 | none=>rw [e] at h;cases h
 | some C=>
  rw [e] at h;simp only [γ,beq_iff_eq,Ρ] at h;obtain ⟨⟨⟨⟨⟨⟨h1,h2⟩,h3⟩,h4⟩,h5⟩,h6⟩,h7⟩:=h;have key:∀ (m:Str) (i:Nat),(m,i)∈o.meths->∃ a,(gmOf K rs cs).fa i=some a/\L2.Meth K C m a:=fun m i hm=>by
   have:=h7 (m,i) hm;dsimp only at this;cases er:rs[i]? with
   | none=>rw [er] at this;cases this
   | some r=>
    rw [er] at this;dsimp only at this;have da:=(hd.at er).ex;obtain ⟨fd,F,na⟩:=dw da;rw [na] at this;simp only [γ,beq_iff_eq] at this;refine ⟨aQ da,?_,⟨this.1.1,this.1.2,this.2⟩⟩;show (rs[i]?).bind (faOf K)=_
    rw [er];exact Xx da
  refine ⟨C,?_,⟨e,⟨h1,h2,h3,h4⟩,h5,key,fun i hi=>?_⟩⟩
  ·unfold caOf at e;split at e
   ·rename_i z;cases e;exact z
   ·cases e
  ·obtain ⟨a,e1,mt⟩:=key "__init__" i hi;have hy:(o.meths.any fun q=>q.1==("__init__":Str))=true:=aF.mpr ⟨_,hi,by simp⟩;rw [hy] at h6;have h6:(W.makesIn K C&&W.keepIn K (.ref C))=true:=by simpa using h6
   rw [γ] at h6;exact ⟨a,e1,⟨h6.1,mt.at_,mt.fn,h6.2⟩⟩
theorem wy {α β:Type}{f g:α->β}{Q:α->Prop}(h:∀ a,f a=g a->Q a):∀ {l:List α},l.map f=l.map g->AllR Q l
 | [],_=>trivial
 | a::l,e=>by obtain ⟨e1,e2⟩:=List.cons.inj e;exact ⟨h a e1,wy h e2⟩
set_option tactic.hygienic true in
theorem zgC {K:W.Frag}{rs:List Row}{cs:List (Str×List Nat)}{x:Str}{d:D}(hd:AllR (fun r=>YL K r.name r.st) rs) (e:XH K rs x d=true):∃ u v,W.nsIn K ϋ x=some (some u)/\RelV v u/\∀ g,Has (gmOf K rs cs) g d v:=by
 cases d with
 | int i=>
  unfold XH at e;dsimp only at e;split at e
  ·rename_i j t q
   cases eq_of_beq e;exact zdt q
  ·cases e
 | str y=>
  unfold XH at e;dsimp only at e;split at e
  ·rename_i j t q
   cases eq_of_beq e;exact zdp q
  ·cases e
 | fn i=>
  unfold XH at e;dsimp only at e;split at e
  ·rename_i r q
   rw [γ] at e;cases eq_of_beq e.1;exact zgF q (hd.at q) (by simpa using e.2)
  ·cases e
 | ktp ds=>
  unfold XH at e;dsimp only at e;split at e
  ·rename_i a q
   split at e
   ·rename_i its z
    obtain ⟨o,n,z1,z2,z3,z4⟩:=zbW z;obtain ⟨xs,v,k⟩:=Xu _ _ e;exact ⟨.ref a,.ref a,q,rfl,fun g=>⟨a,xs,rfl,⟨o,its,n,z1,z2,z3,z4,v⟩,k _ g⟩⟩
   ·cases e
  ·cases e
 | kdc ps=>
  unfold XH at e;dsimp only at e;split at e
  ·rename_i a q
   exact ⟨.ref a,.ref a,q,rfl,fun g=>⟨a,rfl,zgw e⟩⟩
  ·cases e
 | _=>cases e
theorem zd0 {K:W.Frag}{B:Tb}{rs:List Row}(e:Qv K B rs=Qm B rs):Txt K B rs:=by obtain ⟨e1,e2⟩:=dG e;obtain ⟨e2,e3⟩:=dG e2;obtain ⟨e3,e4⟩:=dG e3;obtain ⟨e4,e5⟩:=dG e4;have ho:AllR (fun o=>obOk K rs o=true) B.obs:=wy (fun p q=>q) e5;have hk:AllR (fun p=>zav K B.cls p=true) B.cls:=wy (fun p q=>q) e4;have hd:AllR (fun r=>YL K r.name r.st) rs:=wy (fun r q=>zas q) e1;have hc:AllR (fun p:Str×D=>∃ u v,W.nsIn K ϋ p.1=some (some u)/\RelV v u/\∀ g,Has (gmOf K rs B.cls) g p.2 v) B.consts:=wy (fun p q=>zgC hd q) e3;exact ⟨hd,wy (fun x q=>q) e2,fun n x d q=>hc.at q,fun c x l q=>zgD q (hk.at q),fun o hm=>zhV hd (ho.mem hm)⟩
abbrev zdP (B:Tb) (rs:List Row) (h:Heap):Prop:=∃ K:W.Frag,K.In h/\Txt K B rs
theorem zd1 {B:Tb}{rs:List Row}{n:Nat}(w:ϙ) (s:ν) (e:Qv (frOf s.heap n) B rs=Qm B rs):zdP B rs s.heap:=⟨frOf s.heap n,fun a o q=>frIn _ a o q,zd0 e⟩
theorem zgQ {l:W.OpenLaw}{q:Τ}{loose:List Str}{XP:(Str->Option δ)->Heap->Prop}{d:DefRec}{B:Tb}{rs:List Row}{f:Nat}{r:Row}{y:Str}{wh:Nat}(hn:l.most=some 63) (hdf:d.params.defaults=[])
  (hr:rs[f]?=some r) (hd:d.name=r.name) (hdt:dotted r.name=false) (hps:r.ps=[y]) (t:Tabs B rs)
  (run:∀ ns:List Int,ns.length<=63->yl (wU rs) wh 60 f [.scr ns] (fun x _=>x.1=.bl true) []):W.WalkO q loose XP (fun _ h=>zdP B rs h) l.row.toRowW d [] (fun f vs=>PySem.call f vs):=by
 refine Att.XM hn hdf fun w sy s₁ mg mb fa o pm cd doc a vs ns G Y ho hd' hcd hmg hobj hints hlen hg=>?_
 obtain ⟨K,KX,tx⟩:=Y;obtain ⟨fa',fd,F,na⟩:=(tx.defs.at hr).ex;rw [hd] at hmg;have na:=(YJ hdt).symm.trans na;have e:=hmg.symm.trans (W.mg_of KX G.T.g na);cases e;have ro:=t.rows.at hr;refine zaf (CX:=CX1 l.prog w) (k:=120) (x:=y) (fd:=fd) (sp:=spN (gmOf K rs B.cls) (zg (wU rs) wh 60) f 1) KX G.T.g G.T.b G.T.builtins G.T.nolimit hg hobj hints (ϕ hlen (by decide)) ⟨rfl,rfl,by decide,by decide⟩ (fun base KB NB=>?_) (fun s v=>?_) (fun H hO hS=>?_) fun H e s' ⟨_,_,_,_,_,_,_,_,_,_,_,_,z⟩=>z
 ·have md:=zfB t tx KX G.T.g;have:=fn_e (P:=l.prog) (w:=w) (base:=base) (wh:=wh) (k:=59) md hr F (zbN wh md 59);rw [hps] at this;exact this
 ·obtain ⟨oc,od,kV,doc,pm,an,cdv,ct,osl,rfl,lk,hcd⟩:=F.ex;have hb:=ro.bd kV doc pm an cdv ct [v] (by rw [hps];rfl);rw [hps] at hb;exact .of_eq hb
 ·refine ⟨rfl,⟨H,[]⟩,[.scr ns],[],_,noX,⟨Same.refl H,rfl,List.nodup_nil,(fun k c b h1 _ _=>by cases h1),(fun k c b h1 _=>by cases h1)⟩,⟨.ref a,[],rfl,⟨a,rfl,hS⟩,rfl⟩,run ns hlen,fun x v H' g' S' _ _ vx q=>?_,fun _ _ _ _ _ _ _ _ _ z=>z.elim⟩;obtain ⟨d,k⟩:=x;cases (show d=.bl true from q);exact vx.sc fun _ z=>z.elim
theorem zgd {l:W.OpenLaw}{q:Τ}{loose:List Str}{d:DefRec}{B:Tb}{rs:List Row}{f:Nat}{r:Row}{y:Str}{wh:Nat}(N n:Nat) (ok:l.wellSaid=true)
  (left:W.LeftO l.prog q loose (fun s=>W.xlAt q [] s&&W.recOk [] s) (fun s=>Qv (frOf s.heap n) B rs) (fun _=>Qm B rs) N)
  (hdef:W.defOf q l.name=some (d,[])) (hp:l.prog.theDef l.name=some (d.params,d.body,d.scope)) (hk:W.kwWritten? d.params.kwonlyargs d.params.kw_defaults=some [])
  (okk:(W.chainsOk q&&W.opensWell l.prog&&(W.frees l.row.toRowW&&l.row.within.isEmpty))=true) (hb:l.prog.bare) (hw:l.row.toRowW.promised)
  (hn:l.most=some 63) (hdf:d.params.defaults=[]) (hr:rs[f]?=some r) (hd:d.name=r.name) (hdt:dotted r.name=false) (hps:r.ps=[y]) (t:Tabs B rs)
  (run:∀ ns:List Int,ns.length<=63->yl (wU rs) wh 60 f [.scr ns] (fun x _=>x.1=.bl true) []):l.Holds:=
 W.holds_law ok fun said=>W.holds_open (r:=l.row) (q:=q) (loose:=loose) (XP:=W.XL q []) (YP:=fun _ h=>zdP B rs h) (N:=N) left (fun w s e=>zd1 w s e) (fun w h h' Y k=>Y.elim fun K z=>⟨K,z.1.keeps k,z.2⟩)
  (fun s e=>W.xl_of s (Ζ.mp e).1) W.XL.keeps hdef hp hk (fun s e=>W.recFacts_of (Ζ.mp e).2) (lw _) said okk hb hw (zgQ hn hdf hr hd hdt hps t run)
end EV
namespace Q06
open PySem PySem.Spec PyProof.Rows L2 EV
local macro_rules | `(⋯) => `(⟨by decide +kernel, by decide +kernel, rfl, rfl, fun _ _ _ _ _ _ us hl => by first | (obtain ⟨a0, e⟩ := ln1 hl; subst e; rfl) | (obtain ⟨a0, a1, e⟩ := ln2 hl; subst e; rfl) | (obtain ⟨a0, a1, a2, e⟩ := ln3 hl; subst e; rfl)⟩)
theorem Vv:z8 B j5:=⋯
theorem Xj:z8 B u9:=⋯
theorem JH:z8 B ZG:=⋯
theorem Z5:z8 B ud:=⋯
theorem wN:z8 B yI:=⋯
theorem JG:z8 B ZF:=⋯
theorem vV:z8 B yU:=⋯
theorem Z3:z8 B v8:=⋯
theorem Z4:z8 B uc:=⋯
theorem Xh:z8 B u5:=⋯
theorem Xi:z8 B u6:=⋯
theorem jU:z8 B wD:=⋯
theorem jV:z8 B wF:=⋯
theorem Vw:z8 B j6:=⋯
theorem Xl:z8 B jc:=⋯
theorem Xk:z8 B jb:=⋯
theorem Z7:z8 B uf:=⋯
theorem Z6:z8 B ue:=⋯
theorem ju:z8 B xT:=⋯
theorem vW:z8 B yV:=⋯
theorem Xm:z8 B jd:=⋯
theorem Xn:z8 B je:=⋯
theorem qN:z8 B vp:=⋯
theorem Xo:z8 B jf:=⋯
theorem Vx:z8 B j7:=⋯
theorem qO:z8 B vq:=⋯
theorem zh4:z8 B zcn:=⋯
theorem uv:z8 B xJ:=⋯
theorem qQ:z8 B vB:=⋯
theorem qP:z8 B vA:=⋯
theorem zck:AllR (z8 B) rs:=⟨Vv,Xj,JH,Z5,wN,JG,vV,Z3,Z4,Xh,Xi,jU,jV,Vw,Xl,Xk,Z7,Z6,ju,vW,Xm,Xn,qN,Xo,Vx,qO,zh4,uv,qQ,qP,Ϭ⟩
theorem zfL:AllR (KwOk rs) B.kws:=⟨⟨by decide,fun r hr=>by
 cases hr
 exact fun _ _ _ _ _ _ us hl=>by obtain ⟨a0,e⟩:=ln1 hl;subst e;rfl⟩,⟨by decide,fun r hr=>by
 cases hr
 exact fun _ _ _ _ _ _ us hl=>by obtain ⟨a0,e⟩:=ln1 hl;subst e;rfl⟩,Ϭ⟩
theorem tabs:Tabs B rs:=⟨rfl,rfl,zck,zfL⟩
noncomputable def wh:Nat:=400
noncomputable def F:=wU rs
section
variable {k:Nat}{x0 x1 x2 x3 x4 x5 x6:D}{S:Store}{V:Po}{ex:Xp}
set_option hygiene false
local macro_rules | `(↥($b,$n,$r,$d)) => `(wpCs (zg F wh k) ex wh $b $r (told V) S → zg F wh (k+1) ex $n $d V S)
theorem W6:↥(qd,0,[.sh x0],[x0]):=fun h=>zP rfl rfl rfl h
theorem YQ:↥(jH,1,[.sh x0],[x0]):=fun h=>zP rfl rfl rfl h
theorem V4:↥(YH,2,[.sh x0],[x0]):=fun h=>zP rfl rfl rfl h
theorem Zn:↥(uo,3,[.sh x0,.sh x1],[x0,x1]):=fun h=>zP rfl rfl rfl h
theorem yH:↥(yK,4,[.sh x0,.sh x1,.sh x2],[x0,x1,x2]):=fun h=>zP rfl rfl rfl h
theorem V3:↥(YG,5,[.sh x0],[x0]):=fun h=>zP rfl rfl rfl h
theorem vQ:↥(yZ,6,[.sh x0],[x0]):=fun h=>zP rfl rfl rfl h
theorem yx:↥(ul,7,[.sh x0],[x0]):=fun h=>zP rfl rfl rfl h
theorem xQ:↥(um,8,[.sh x0,.no,.no],[x0]):=fun h=>zP rfl rfl rfl h
theorem xg:↥(jF,9,[.sh x0,.sh x1,.no,.no,.no],[x0,x1]):=fun h=>zP rfl rfl rfl h
theorem YM:↥(jG,10,[.sh x0,.no],[x0]):=fun h=>zP rfl rfl rfl h
theorem jP:↥(wI,11,[.sh x0],[x0]):=fun h=>zP rfl rfl rfl h
theorem jQ:↥(wJ,12,[.sh x0,.no,.no,.no,.no],[x0]):=fun h=>zP rfl rfl rfl h
theorem W7:↥(v5,13,[.sh x0,.no,.no],[x0]):=fun h=>zP rfl rfl rfl h
theorem YT:↥(jK,14,[.sh x0,.sh x1,.no],[x0,x1]):=fun h=>zP rfl rfl rfl h
theorem YS:↥(jJ,15,[.sh x0,.no,.no,.no],[x0]):=fun h=>zP rfl rfl rfl h
theorem Zo:↥(uq,16,[.sh x0,.sh x1,.no,.no,.no],[x0,x1]):=fun h=>zP rfl rfl rfl h
theorem v7:↥(yO,17,[.sh x0,.sh x1,.sh x2,.no,.no,.no],[x0,x1,x2]):=fun h=>zP rfl rfl rfl h
theorem uT:↥(wj,18,[.sh x0,.no],[x0]):=fun h=>zP rfl rfl rfl h
theorem zR:↥(xf,19,[.sh x0],[x0]):=fun h=>zP rfl rfl rfl h
theorem xj:↥(jL,20,[.sh x0,.sh x1],[x0,x1]):=fun h=>zP rfl rfl rfl h
theorem YW:↥(jM,21,[.sh x0,.no,.no],[x0]):=fun h=>zP rfl rfl rfl h
theorem qj:↥(vK,22,[.sh x0,.no,.no,.no],[x0]):=fun h=>zP rfl rfl rfl h
theorem YX:↥(jN,23,[.sh x0,.no,.no],[x0]):=fun h=>zP rfl rfl rfl h
theorem W8:↥(qe,24,[.sh x0,.no,.no,.no,.no,.no],[x0]):=fun h=>zP rfl rfl rfl h
theorem ql:↥(vL,25,[.sh x0,.sh x1,.no,.no,.no,.no],[x0,x1]):=fun h=>zP rfl rfl rfl h
theorem zgR:↥(zgH,26,[.sh x0,.no,.no,.no,.no,.no,.no,.no,.no,.no,.no],[x0]):=fun h=>zP rfl rfl rfl h
theorem ut:↥(xO,27,[.sh x0,.sh x1],[x0,x1]):=fun h=>zP rfl rfl rfl h
theorem qp:↥(vN,28,[.sh x0],[x0]):=fun h=>zP rfl rfl rfl h
theorem qm:↥(vM,29,[.sh x0],[x0]):=fun h=>zP rfl rfl rfl h
end
end Q06
local macro_rules | `(tactic| omega) => `(tactic| first | decide | with_reducible exact EV.om1 ‹_› (by with_unfolding_all rfl) | with_reducible exact EV.om2 ‹_› (by with_unfolding_all rfl) | with_reducible exact EV.om3 ‹_› (by with_unfolding_all rfl) | lia | omega (config := {}))
open EV in
local macro_rules | `(tactic| infer_instance) => `(tactic| first
 | ((with_reducible apply zU); (exact rfl))
 | ((with_reducible apply vm); (exact rfl))
 | ((with_reducible apply zg7); (exact rfl))
 | ((with_reducible apply zg8); (exact rfl))
 | ((with_reducible apply kp_s); (exact rfl))
 | ((with_reducible apply kp_f); (exact rfl))
 | ((with_reducible apply zr); (first | exact rfl | exact zdN (by simp <;> omega) | exact Js rfl | exact Jt rfl | exact Jt (Ul (by decide) (by decide))))
 | ((with_reducible apply ZM); (exact rfl))
 | ((with_reducible apply zp); (first | exact zcp (by decide) (by decide) | exact rfl | exact zd2 (by decide) rfl | exact Wt (by decide) rfl))
 | ((with_reducible apply z6); (exact rfl); (try simp only [List.foldl, List.zip, List.zipWith, ϱ, ϣ, if_true, if_false]))
 | ((with_reducible apply yu); (exact rfl))
 | ((with_reducible apply yM); (exact rfl))
 | ((with_reducible apply zf1); (exact rfl))
 | ((with_reducible apply zJ); (first | with_reducible rfl | decide | (focus (simp only [isNone, zF, eqP, eqPs, beq_self_eq_true, iU, Bool.not_false, fj, iT]; done)) | (dsimp only [zF]; decide) | (refine fits_of ?_; (try simp only [Ο, ώ, ϊ, cH]) <;> omega)))
 | ((with_reducible apply wK); (first | with_reducible rfl | decide | (focus (simp only [isNone, zF, eqP, eqPs, beq_self_eq_true, iU, Bool.not_false, fj, iT]; done)) | (dsimp only [zF]; decide)))
 | ((with_reducible apply bx_f); (exact rfl))
 | ((with_reducible apply rv_s); (exact rfl))
 | ((with_reducible apply rv_f); (exact rfl))
 | ((with_reducible apply Wm); (exact rfl))
 | ((with_reducible apply zfb); (exact rfl))
 | ((with_reducible apply zgG); (exact rfl))
 | ((with_reducible apply zf0); (exact rfl))
 | ((with_reducible apply zu); (dsimp only [wpC, zX, yj, zap, Xz, Kf, xx, zio, zao, zdl, e_or, zim, zan, Xy, zin, Zd, Kc, e_bi, zgr, zik, WQ, zdk, zdj, ziq, Ke, zgq, wpEs, wpO, wpF, wpI, ϱ, fz, lg, List.getElem?_cons_succ, Option.getD]))
 | (with_reducible apply yW)
 | (with_reducible apply zB)
 | (with_reducible apply zd9)
 | (with_reducible apply zeb)
 | (with_reducible apply zea)
 | (with_reducible apply to_s)
 | (with_reducible apply to_f)
 | (with_reducible apply Ub)
 | (with_reducible apply zbX)
 | (with_reducible apply zd5)
 | (with_reducible apply zd6)
 | (with_reducible apply zd4))
local macro_rules | `(tactic| nofun) => `(tactic| (repeat infer_instance))
namespace Q06
open PySem L2 EV
theorem Wr {ns:List Int}{v:Int}:ns.map D.int++[.int v]=(ns++[v]).map D.int:=by rw [dI];rfl
noncomputable def pK (ns:List Int) (a m:Int):D:=.lst [.lst (ns.map D.int),.int a,.int m]
structure xF (a m:Int):Prop where
 a0:0<=a
 m0:0<=m
 m1:m < 2147483629
theorem zT {many:Int}(hm:0 < many) {K:Nat}(hK:1<=K) {ns:List Int}{a m:Int}{T:Store}(p:xF a m):yl F wh K 14 [.ref 0,.int many] (fun q S=>∃ x a' m',q=(.int x,.st)/\0<=x/\x < many/\xF a' m'/\S=pK ns a' m'::T) (pK ns a m::T):=by
 obtain ⟨k,rfl⟩:∃ k,K=k+1:=⟨K - 1,by omega⟩
 have ha:=p.a0;refine YT ?_;nofun;refine zE (fun h=>?_) (fun h=>?_)
 ·obtain ⟨x,_,hx⟩:=ints_get p.a0 (by simpa using h);nofun;refine zp hx ?_;nofun;refine zr (zbq hm) ?_;nofun;exact ⟨_,a+1,m,rfl,aO _ (by omega),ao _ hm,⟨by omega,p.m0,p.m1⟩,rfl⟩
 ·nofun;refine zr (Jt (qC p.m0 (by have:=p.m1;omega))) ?_;nofun;refine zr (zbq hm) ?_;nofun;exact ⟨_,a+1,(m*m+40692+a) % 2147483629,rfl,aO _ (by omega),ao _ hm,⟨by omega,aO _ (by omega),ao _ (by omega)⟩,rfl⟩
theorem zcl {lo hi:Int}{d:D}(h:d∈yC lo hi):∃ j,d=.int j/\lo<=j/\j < hi:=by unfold yC at h;obtain ⟨k,hk,rfl⟩:=aX.mp h;have:=au.mp hk;exact ⟨_,rfl,by lia,by lia⟩
theorem kj (c:Int) {K:Nat}(hK:1<=K) (S:Store):yl F wh K 12 [.int c] (fun q S'=>S'=S/\∃ ns:List Int,ns.length<=60/\q=(.lst (ns.map D.int),.fr)) S:=by
 obtain ⟨k,rfl⟩:∃ k,K=k+1:=⟨K - 1,by omega⟩
 refine jQ ?_;nofun;refine zE (fun h=>?_) (fun h=>?_)
 ·nofun;refine wp_walk (fun l ρ S'=>S'=S/\∃ (ns:List Int) (left:Int) (x3 x4:Slot),ρ=[.sh (.int c),.ow (.lst (ns.map D.int)),.sh (.int left),x3,x4]/\ns.length+l.length<=60) ?_ ?_ _ _ _ ⟨rfl,[],_,.no,.no,rfl,by decide⟩
  ·rintro d l ρ S' ⟨rfl,ns,left,x3,x4,rfl,hl⟩;have hl':ns.length+(l.length+1)<=60:=hl;nofun;refine zE (fun h1=>?_) (fun h1=>?_)
   ·nofun;exact ⟨rfl,_,_,_,_,by rw [Wr],by simp;omega⟩
   ·nofun;exact ⟨rfl,_,_,_,_,rfl,by omega⟩
  ·rintro ρ S' ⟨rfl,ns,left,x3,x4,rfl,hl⟩;have hl:ns.length<=60:=by simpa using hl
   nofun;exact ⟨rfl,ns,by omega,rfl⟩
 ·nofun;refine wp_walk (fun l ρ S'=>S'=S/\∃ (ns:List Int) (x2 x3 x4:Slot),ρ=[.sh (.int c),.ow (.lst (ns.map D.int)),x2,x3,x4]/\ns.length+l.length<=8/\∀ d∈l,∃ j,d=.int j/\0<=j/\j < 8) ?_ ?_ _ _ _ ⟨rfl,[],_,.no,.no,rfl,by decide,fun d hd=>zcl hd⟩
  ·rintro d l ρ S' ⟨rfl,ns,x2,x3,x4,rfl,hl,hd⟩;have hl':ns.length+(l.length+1)<=8:=hl;obtain ⟨j,rfl,j0,j1⟩:=hd d (θ ..);nofun;refine zr (Js (qC j0 (by omega))) ?_;nofun;refine ⟨rfl,_,_,_,_,by rw [Wr],by simp;omega,fun d hx=>hd d (η _ hx)⟩
  ·rintro ρ S' ⟨rfl,ns,x2,x3,x4,rfl,hl,_⟩;have hl:ns.length<=8:=by simpa using hl
   nofun;exact ⟨rfl,ns,by omega,rfl⟩
theorem zeZ (cs:List Int) (hc:cs.length<=63) {K:Nat}(hK:2<=K) (S:Store):yl F wh K 13 [.scr cs] (fun q S'=>S'=S/\∃ ns m,q=(pK ns 0 m,.fr)/\xF 0 m) S:=by
 obtain ⟨k,rfl⟩:∃ k,K=k+1:=⟨K - 1,by omega⟩
 refine W7 ?_;nofun;obtain ⟨zs,ez,hz⟩:=zdo cs none (some 63);rw [ez];refine wp_walk (fun l ρ S'=>S'=S/\∃ (ns:List Int) (x2:Slot) (ys:List Int),l=ys.map D.int/\ρ=[.sh (.scr cs),.ow (.lst (ns.map D.int)),x2]/\ns.length+60*ys.length<=3780) ?_ ?_ _ _ _ ⟨rfl,[],.no,zs,rfl,rfl,by simp;omega⟩
 ·rintro d l ρ S' ⟨rfl,ns,x2,ys,el,rfl,hl⟩;cases ys with
  | nil=>cases el
  | cons j ys=>
   cases el;have hl':ns.length+60*(ys.length+1)<=3780:=hl;nofun;refine wp_mono (kj j (K:=k) (by omega) _) ?_;rintro _ _ ⟨rfl,ms,hm,rfl⟩;nofun;refine ZM (XQ (by simp;omega)) ?_;nofun;exact ⟨rfl,ns++ms,_,ys,rfl,by rw [<- dI],by simp;omega⟩
 ·rintro ρ S' ⟨rfl,ns,x2,ys,el,rfl,hl⟩;have fin:∀ (ms:List Int) (ρ:List Slot),ρ=[.sh (.scr cs),.ow (.lst (ms.map D.int)),x2]->wpCs (zg F wh k) noX wh (v5.drop 3) ρ (told fun q S''=>S''=S'/\∃ ns m,q=(pK ns 0 m,.fr)/\xF 0 m) S':=by
   rintro ms _ rfl;show wpCs _ _ _ [_,_] _ _ _
   nofun;refine zr (d:=.int ms.sum) (by show ((vX (ms.map D.int)).map _).map _=_;rw [Yb];rfl) ?_;nofun;exact ⟨rfl,ms,_,rfl,by decide,aO _ (by decide),ao _ (by decide)⟩
  nofun;refine zp (zgo (ZR 59 ns) rfl) ?_;nofun;refine zE (fun h=>?_) (fun h=>?_)
  ·nofun;refine wp_mono (kj 0 (K:=k) (by omega) _) ?_;rintro _ _ ⟨rfl,ms,hm,rfl⟩
   repeat first | exact fin ms _ rfl | infer_instance
  ·repeat first | exact fin ns _ rfl | infer_instance
def lows (s:Str):Prop:=∀ c∈s.cps.toList,97<=c/\c<=122
structure Wd (s:Str):Prop where
 lo:1<=s.length
 hi:s.length<=8
 ab:lows s
noncomputable def wdB (s:Str):Bool:=decide (1<=s.length)&&decide (s.length<=8)&&s.cps.toList.all fun c=>decide (97<=c)&&decide (c<=122)
theorem zdT {s:Str}(h:wdB s=true):Wd s:=by unfold wdB at h;simp only [γ,decide_eq_true_eq,Ρ] at h;exact ⟨h.1.1,h.1.2,fun c hc=>h.2 c hc⟩
noncomputable def kwL:List Str:=["end","ask","call","set","if","errand","catch","undo","else","want","try","do","tell","give","fail","while"]
theorem zh2:∀ s∈kwL,Wd s:=by
 have:kwL.all wdB=true:=by decide +kernel
 intro s hs;exact zdT (Ρ.mp this s hs)
theorem zh3 {v:Int}(h0:0<=v) (h:v < 16):∃ s∈kwL,subD (.lst (kwL.map D.str)) (.int v)=some (.str s):=by
 have hl:v.toNat < kwL.length:=by show v.toNat < 16;omega
 refine ⟨kwL[v.toNat],aW hl,Wt h0 ?_⟩;rw [Υ,ψ hl];rfl
noncomputable abbrev abc:Str:="abcdefghijklmnopqrstuvwxyz"
theorem zgM:abc.cps.toList=(ϛ 26).map (97+·):=by decide +kernel
theorem zgN {v:Int}(h0:0<=v) (h:v < 26):subD (.str abc) (.int v)=some (.str ⟨#[97+v.toNat]⟩):=by
 show (if fits abc.length=true then (idx abc.cps.toList.length v).bind fun k=>(abc.cps.toList[k]?).map fun c=>D.str ⟨#[c]⟩ else none)=_
 rw [if_pos (by decide),zgM,JX h0 (by simp;omega)];show ((((ϛ 26).map (97+·))[v.toNat]?).map fun c=>D.str ⟨#[c]⟩)=_
 rw [Υ,List.getElem?_range (by omega)];rfl
theorem ziz {v:Int}(h0:0<=v) (h:v < 8):Wd (bh "aaaaaaaa" none (some (1+v))):=by
 have hc:v=0\/v=1\/v=2\/v=3\/v=4\/v=5\/v=6\/v=7:=by omega
 rcases hc with rfl | rfl | rfl | rfl | rfl | rfl | rfl | rfl <;> exact zdT (by decide +kernel)
theorem zaa:lows "":=fun c hc=>by
 have e:("":Str).cps.toList=[]:=by decide +kernel
 rw [e] at hc;cases hc
theorem Jw {s:Str}{v:Nat}(h:lows s) (hv:v < 26):lows (s++⟨#[97+v]⟩)/\(s++⟨#[97+v]⟩).length=s.length+1:=by
 constructor
 ·intro c hc;rw [Str.cps_append,Array.toList_append,bc] at hc;rcases hc with hc | hc
  ·exact h c hc
  ·simp at hc;omega
 ·rw [μ];rfl
theorem zbS {K:Nat}(hK:2<=K) {ns:List Int}{a m:Int}{T:Store}(p:xF a m):yl F wh K 15 [.ref 0] (fun q S=>∃ s a' m',q=(.str s,.st)/\Wd s/\xF a' m'/\S=pK ns a' m'::T) (pK ns a m::T):=by
 obtain ⟨K,rfl⟩:∃ k,K=k+1:=⟨K - 1,by omega⟩
 refine YS ?_;nofun;refine wp_mono (zT (by decide) (by omega) p) ?_;rintro _ _ ⟨w,a1,m1,rfl,w0,w1,p1,rfl⟩;nofun;refine zE (fun h=>?_) (fun h=>?_)
 ·nofun;refine wp_mono (zT (by decide) (by omega) p1) ?_;rintro _ _ ⟨v,a2,m2,rfl,v0,v1,p2,rfl⟩;obtain ⟨s,hs,e⟩:=zh3 v0 v1;refine zp e ?_;nofun;exact ⟨s,a2,m2,rfl,zh2 s hs,p2,rfl⟩
 ·nofun;refine zE (fun h1=>?_) (fun h1=>?_)
  ·nofun;refine wp_mono (zT (by decide) (by omega) p1) ?_;rintro _ _ ⟨v,a2,m2,rfl,v0,v1,p2,rfl⟩;nofun;exact ⟨_,a2,m2,rfl,ziz v0 v1,p2,rfl⟩
  ·nofun;refine wp_mono (zT (by decide) (by omega) p1) ?_;rintro _ _ ⟨v,a2,m2,rfl,v0,v1,p2,rfl⟩;nofun;have hw:w=2\/w=3:=by have:=ne_of_beq_false (show (w==0)=false from h);have:=ne_of_beq_false (show (w==1)=false from h1);omega
   have loop:∀ (n:Int),1<=n->n<=8->∀ ρ,ρ=[.sh (.ref 0),.sh (.int w),.sh (.str ""),.no]->forW (.one 3) (fun ρ=>wpCs (zg F wh K) noX wh [.set (.one 2) (.bin .Add ⇑2 (.sub ↥"abcdefghijklmnopqrstuvwxyz" (.call 14 [⇑0,↥26])))] ρ) (yC 0 n) ρ (nxt (fun ρ' S'=>wpCs (zg F wh K) noX wh [.ret ⇑2] ρ' (told fun q S=>∃ s a' m',q=(.str s,.st)/\Wd s/\xF a' m'/\S=pK ns a' m'::T) S') (told fun q S=>∃ s a' m',q=(.str s,.st)/\Wd s/\xF a' m'/\S=pK ns a' m'::T)) (pK ns a2 m2::T):=by
    intro n n1 n8 ρ hρ;refine wp_walk (fun l ρ S'=>∃ (j:Int) (s:Str) (a m:Int) (x3:Slot),l=yC j n/\j=s.length/\j<=n/\lows s/\xF a m/\S'=pK ns a m::T/\ρ=[.sh (.ref 0),.sh (.int w),.sh (.str s),x3]) ?_ ?_ _ _ _ ⟨0,"",a2,m2,.no,rfl,rfl,by omega,zaa,p2,rfl,hρ⟩
    ·rintro d l ρ S' ⟨j,s,a,m,x3,el,ej,hj,hs,p,rfl,rfl⟩;by_cases hn:j < n
     ·rw [uB hn] at el;cases el;nofun;refine wp_mono (zT (by decide) (by omega) p) ?_;rintro _ _ ⟨u,a3,m3,rfl,u0,u1,p3,rfl⟩;refine zp (zgN u0 u1) ?_;obtain ⟨g1,g2⟩:=Jw (s:=s) (v:=u.toNat) hs (by omega);refine zr (d:=.str (s++⟨#[97+u.toNat]⟩)) ?_ ?_
      ·show (if fits (s.length+(⟨#[97+u.toNat]⟩:Str).length)=true then _ else _)=_
       rw [if_pos (fits_of (by show s.length+1<=_;omega))]
      nofun;exact ⟨j+1,_,a3,m3,_,rfl,by rw [g2];omega,by omega,g1,p3,rfl,rfl⟩
     ·rw [Uu (by omega)] at el;cases el
    ·rintro ρ S' ⟨j,s,a,m,x3,el,ej,hj,hs,p,rfl,rfl⟩;nofun;by_cases hn:j < n
     ·rw [uB hn] at el;cases el
     ·exact ⟨s,a,m,rfl,⟨by omega,by omega,hs⟩,p,rfl⟩
   rcases hw with rfl | rfl
   ·nofun;exact loop 1 (by decide) (by decide) _ rfl
   ·nofun;refine zJ (by simp [fits,LIM];omega) ?_;exact loop (1+v) (by omega) (by omega) _ rfl
noncomputable abbrev LS (ws:List Str):D:=.lst (ws.map D.str)
theorem Ur:∀ (ws:List Str),(ws.map D.str).all isSc=true
 | []=>rfl
 | _::ws=>by
  show (true&&(ws.map D.str).all isSc)=true
  rw [Ur ws];rfl
theorem ZQ (n:Nat):∀ (ws:List Str),okPs n (ws.map D.str)=true
 | []=>rfl
 | w::ws=>by
  show (okP n (.str w)&&okPs n (ws.map D.str))=true
  rw [ZQ n ws];cases n <;> rfl
theorem Q6 (s:Str) (ws:List Str):cmpD .NotIn (.str s) (LS ws)=some (!((ws.map D.str).any fun y=>eqP y (.str s))):=by
 show ((if (isSc (.str s)&&(ws.map D.str).all isSc)=true then some ((ws.map D.str).any fun y=>eqP y (.str s)) else none).map (!·))=_
 rw [Ur];rfl
theorem Qt (ws:List Str) (s:Str):ws.map D.str++[D.str s]=(ws++[s]).map D.str:=by rw [dI];rfl
theorem Qk {many:Int}(h0:0<=many) (h1:many<=1000) {K:Nat}(hK:3<=K) {ns:List Int}{a m:Int}{T:Store}(p:xF a m):yl F wh K 16 [.ref 0,.int many] (fun q S=>∃ ws a' m',q=(LS ws,.fr)/\(∀ s∈ws,Wd s)/\(ws.length:Int)<=many/\(0 < many->ws≠[])/\xF a' m'/\S=pK ns a' m'::T) (pK ns a m::T):=by
 obtain ⟨K,rfl⟩:∃ k,K=k+1:=⟨K - 1,by omega⟩
 refine Zo ?_;nofun;refine zJ (by simp [fits,LIM];omega) ?_;refine wp_walk (fun l ρ S'=>∃ (j:Int) (ws:List Str) (a m:Int) (x3 x4:Slot),l=yC j many/\0<=j/\j<=many/\(ws.length:Int)<=j/\(∀ s∈ws,Wd s)/\(0 < j->ws≠[])/\xF a m/\S'=pK ns a m::T/\ρ=[.sh (.ref 0),.sh (.int many),.ow (LS ws),x3,x4]) ?_ ?_ _ _ _ ⟨0,[],a,m,.no,.no,rfl,by omega,h0,by simp,(fun s hs=>nomatch hs),(fun h=>absurd h (by decide)),p,rfl,rfl⟩
 ·rintro d l ρ S' ⟨j,ws,a,m,x3,x4,el,j0,jm,hl,hw,hn,p,rfl,rfl⟩;by_cases hj:j < many
  ·rw [uB hj] at el;cases el;nofun;refine wp_mono (zbS (by omega) p) ?_;rintro _ _ ⟨s,a2,m2,rfl,ws1,p2,rfl⟩;nofun;refine zp (Q6 s ws) ?_;nofun;refine zE (fun h=>?_) (fun h=>?_)
   ·nofun;rw [Qt]
    exact ⟨j+1,ws++[s],a2,m2,_,_,rfl,by omega,by omega,by simp;omega,fun z hz=>by
     rcases bc.mp hz with hz | hz
     ·exact hw z hz
     ·rw [Μ.mp hz];exact ws1,fun _=>by simp,p2,rfl,rfl⟩
   ·nofun;exact ⟨j+1,ws,a2,m2,_,_,rfl,by omega,by omega,by omega,hw,(fun _ e=>by subst e;cases h),p2,rfl,rfl⟩
  ·rw [Uu (by omega)] at el;cases el
 ·rintro ρ S' ⟨j,ws,a,m,x3,x4,el,j0,jm,hl,hw,hn,p,rfl,rfl⟩;nofun;by_cases hj:j < many
  ·rw [uB hj] at el;cases el
  ·have e:j=many:=by omega
   subst e;exact ⟨ws,a,m,rfl,hw,hl,hn,p,rfl⟩
def In (n:Int):Prop:=0<=n/\n < 1000000007
inductive Ex where
 | nm (s:Str) | num (n:Int) | op (g:Str) (a b:Ex)
noncomputable def Ex.toD:Ex->D
 | .nm s=>.str s
 | .num n=>.int n
 | .op g a b=>.tup [.str g,a.toD,b.toD]
noncomputable def sgL:List Str:=["+","-","*","<","="]
def Ex.Ok:Nat->Ex->Prop
 | _,.nm s=>Wd s
 | _,.num n=>In n
 | 0,.op _ _ _=>False
 | k+1,.op g a b=>g∈sgL/\a.Ok k/\b.Ok k
theorem zg5 {v:Int}(h0:0<=v) (h:v < 5):∃ s∈sgL,subD (.str "+-*<=") (.int v)=some (.str s):=by
 have hc:v=0\/v=1\/v=2\/v=3\/v=4:=by omega
 rcases hc with rfl | rfl | rfl | rfl | rfl
 ·exact ⟨"+",by simp [sgL],by with_unfolding_all rfl⟩
 ·exact ⟨"-",by simp [sgL],by with_unfolding_all rfl⟩
 ·exact ⟨"*",by simp [sgL],by with_unfolding_all rfl⟩
 ·exact ⟨"<",by simp [sgL],by with_unfolding_all rfl⟩
 ·exact ⟨"=",by simp [sgL],by with_unfolding_all rfl⟩
theorem Uh {ws:List Str}{v:Int}(h0:0<=v) (h:v < ((ws.map D.str).length:Int)):∃ s∈ws,subD (LS ws) (.int v)=some (.str s):=by
 rw [ώ] at h;have hl:v.toNat < ws.length:=by omega
 refine ⟨ws[v.toNat],aW hl,Wt h0 ?_⟩;rw [Υ,ψ hl];rfl
theorem Vs:∀ {k:Nat}{e:Ex},e.Ok 0->e.Ok k
 | 0,_,h=>h
 | k+1,.nm s,h=>h
 | k+1,.num n,h=>h
 | k+1,.op _ _ _,h=>h.elim
theorem zc6:∀ (e:Ex),wA e.toD=false
 | .nm _=>rfl
 | .num _=>rfl
 | .op _ _ _=>rfl
theorem bind1 {ρ:List Slot}{i:Nat}{d:D}(hi:i < ρ.length) (h:wA d=false):VD ρ (.one i) (d,.st)=some (ρ.set i (.sh d)):=by
 show (if (decide (i < ρ.length)&&!wA d)=true then some (ρ.set i (if false=true then .ow d else .sh d)) else none)=_
 rw [h,decide_eq_true hi];rfl
theorem zgf {ws:List Str}(hw:∀ s∈ws,Wd s) {ns:List Int}{T:Store}:∀ (k:Nat) (a m:Int) (K:Nat),xF a m->k+2<=K->yl F wh K 17 [.ref 0,LS ws,.int k] (fun q S=>∃ (e:Ex) (a' m':Int),q=(e.toD,.st)/\e.Ok k/\xF a' m'/\S=pK ns a' m'::T) (pK ns a m::T):=by
 have leaf:∀ (k:Nat) (w a m:Int) (K:Nat),1<=K->0<=w->xF a m->∀ ρ,ρ=[.sh (.ref 0),.sh (LS ws),.sh (.int k),.sh (.int w),.no,.no]->wpCs (zg F wh K) noX wh (yO.drop 2) ρ (told fun q S=>∃ (e:Ex) (a' m':Int),q=(e.toD,.st)/\e.Ok k/\xF a' m'/\S=pK ns a' m'::T) (pK ns a m::T):=by
  intro k w a m K hK hw0 p ρ hρ;subst hρ;have rest:∀ ρ,ρ=[.sh (.ref 0),.sh (LS ws),.sh (.int k),.sh (.int w),.no,.no]->wpCs (zg F wh K) noX wh (yO.drop 3) ρ (told fun q S=>∃ (e:Ex) (a' m':Int),q=(e.toD,.st)/\e.Ok k/\xF a' m'/\S=pK ns a' m'::T) (pK ns a m::T):=by
   rintro _ rfl;show wpCs _ _ _ [_,_,_,_] _ _ _
   nofun;refine zE (fun h=>?_) (fun h=>?_)
   ·nofun;refine wp_mono (zT (by decide) hK p) ?_;rintro _ _ ⟨v,a2,m2,rfl,v0,v1,p2,rfl⟩;nofun;exact ⟨.num v,a2,m2,rfl,Vs (k:=k) (e:=.num v) ⟨v0,by omega⟩,p2,rfl⟩
   ·nofun;refine zE (fun h=>?_) (fun h=>?_)
    ·nofun;refine wp_mono (zT (by decide) hK p) ?_;rintro _ _ ⟨v,a2,m2,rfl,v0,v1,p2,rfl⟩;nofun;exact ⟨.num _,a2,m2,rfl,Vs (k:=k) (e:=.num _) ⟨by omega,by omega⟩,p2,rfl⟩
    ·nofun;refine wp_mono (zT (by decide) hK p) ?_;rintro _ _ ⟨v,a2,m2,rfl,v0,v1,p2,rfl⟩;nofun;refine wp_mono (zT (by decide) hK p2) ?_;rintro _ _ ⟨u,a3,m3,rfl,u0,u1,p3,rfl⟩;nofun;exact ⟨.num _,a3,m3,rfl,Vs (k:=k) (e:=.num _) ⟨aO _ (by decide),ao _ (by decide)⟩,p3,rfl⟩
  show wpCs _ _ _ [_,_,_,_,_] _ _ _
  nofun;refine zE (fun h=>?_) (fun h=>?_)
  ·nofun;refine zp (zfx (ZQ 59 ws) rfl) ?_;nofun;cases ws with
   | nil=>
    repeat first | exact rest _ rfl | infer_instance
   | cons s ws=>
    nofun;refine wp_mono (zT (by simp) hK p) ?_;rintro _ _ ⟨v,a2,m2,rfl,v0,v1,p2,rfl⟩;obtain ⟨z,hz,e⟩:=Uh (ws:=s::ws) v0 v1;refine zp e ?_;nofun;exact ⟨.nm z,a2,m2,rfl,Vs (k:=k) (e:=.nm z) (hw z hz),p2,rfl⟩
  ·repeat first | exact rest _ rfl | infer_instance
 intro k
 induction k with
 | zero=>
  intro a m K p hK;obtain ⟨K,rfl⟩:∃ k,K=k+1:=⟨K - 1,by omega⟩
  refine v7 ?_;nofun;refine wp_mono (zT (by decide) (by omega) p) ?_;rintro _ _ ⟨w,a1,m1,rfl,w0,w1,p1,rfl⟩
  repeat first | exact leaf 0 w a1 m1 K (by omega) w0 p1 _ rfl | infer_instance
 | succ k ih=>
  intro a m K p hK;obtain ⟨K,rfl⟩:∃ k,K=k+1:=⟨K - 1,by omega⟩
  refine v7 ?_;nofun;refine wp_mono (zT (by decide) (by omega) p) ?_;rintro _ _ ⟨w,a1,m1,rfl,w0,w1,p1,rfl⟩;nofun;refine zJ (decide_eq_true (by omega)) ?_;nofun;refine zE (fun h=>?_) (fun h=>?_)
  ·nofun;refine wp_mono (zT (by decide) (by omega) p1) ?_;rintro _ _ ⟨v,a2,m2,rfl,v0,v1,p2,rfl⟩;obtain ⟨g,hg,e⟩:=zg5 v0 v1;refine zp e ?_;nofun;rw [show ((k+1:Nat):Int) - 1=(k:Int) by omega];refine wp_mono (ih a2 m2 K p2 (by omega)) ?_;rintro _ _ ⟨e1,a3,m3,rfl,o1,p3,rfl⟩;refine z6 (bind1 (by simp) (zc6 e1)) ?_;simp only [ϱ];nofun;rw [show ((k+1:Nat):Int) - 1=(k:Int) by omega];refine wp_mono (ih a3 m3 K p3 (by omega)) ?_;rintro _ _ ⟨e2,a4,m4,rfl,o2,p4,rfl⟩;nofun;exact ⟨.op g e1 e2,a4,m4,rfl,⟨hg,o1,o2⟩,p4,rfl⟩
  ·repeat first | exact leaf (k+1) w a1 m1 K (by omega) w0 p1 _ rfl | infer_instance
noncomputable def wt:Ex->Str
 | .nm s=>s
 | .num n=>toString n
 | .op g a b=>"("++wt a++g++wt b++")"
theorem zK {x y:Str}(h:x.length+y.length<=1000000):opD .Add (.str x) (.str y)=some (.str (x++y),false):=by
 show (if fits (x.length+y.length)=true then some (D.str (x++y),false) else none)=_
 rw [if_pos (fits_of h)]
theorem Zw {g:Str}(h:g∈sgL):g.length=1:=by
 have h:g="+"\/g="-"\/g="*"\/g="<"\/g="=":=by simpa [sgL] using h
 rcases h with rfl | rfl | rfl | rfl | rfl <;> decide +kernel
theorem Jm {n:Int}(h:In n):(ϸ (toString n)).length<=20:=by obtain ⟨h0,h1⟩:=h;have q:=int_text_length_le10 (a:=n) (k:=10) (by decide) (by omega);rw [ofString_length];omega
theorem qJ {n:Int}(h:In n):n.natAbs.log2 < 1920:=by
 obtain ⟨h0,h1⟩:=h;by_cases hz:n.natAbs=0
 ·rw [hz];decide
 ·have:=(Nat.log2_lt (k:=34) hz).mpr (show n.natAbs < 2 ^ 34 by omega);omega
theorem jW:∀ {k:Nat}{e:Ex},e.Ok k->(wt e).length<=20*4 ^ k
 | k,.nm s,h=>by
  have h:Wd s:=by cases k <;> exact h
  have:=h.hi;have:1<=4 ^ k:=eE (by decide);show s.length<=_
  omega
 | k,.num n,h=>by
  have h:In n:=by cases k <;> exact h
  have:=Jm h;have:1<=4 ^ k:=eE (by decide);show (ϸ (toString n)).length<=_
  omega
 | 0,.op _ _ _,h=>h.elim
 | k+1,.op g a b,h=>by
  have h1:=Zw h.1;have h2:=jW h.2.1;have h3:=jW h.2.2;have h4:1<=4 ^ k:=eE (by decide);have h5:4 ^ (k+1)=4*4 ^ k:=by rw [lC];omega
  show ("("++wt a++g++wt b++")":Str).length<=_
  rw [μ,μ,μ,μ];have e1:("(":Str).length=1:=by decide +kernel
  have e2:(")":Str).length=1:=by decide +kernel
  omega
theorem zbP:∀ (k:Nat) (e:Ex),k<=3->e.Ok k->∀ (K:Nat),k+1<=K->∀ S,yl F wh K 7 [e.toD] (fun x S'=>x=(.str (wt e),.st)/\S'=S) S:=by
 intro k
 induction k with
 | zero=>
  intro e hk o K hK S;obtain ⟨K,rfl⟩:∃ k,K=k+1:=⟨K - 1,by omega⟩
  cases e with
  | nm s=>
   refine yx (x0:=.str s) ?_;nofun;exact ⟨rfl,rfl⟩
  | num n=>
   refine yx (x0:=.int n) ?_;nofun;refine zr (d:=.str (toString n)) (by show (if decide (n.natAbs.log2 < 1920)=true then _ else _)=_;rw [if_pos (decide_eq_true (qJ o))]) ?_;nofun;exact ⟨rfl,rfl⟩
  | op g a b=>exact o.elim
 | succ k ih=>
  intro e hk o K hK S;obtain ⟨K,rfl⟩:∃ k,K=k+1:=⟨K - 1,by omega⟩
  cases e with
  | nm s=>
   refine yx (x0:=.str s) ?_;nofun;exact ⟨rfl,rfl⟩
  | num n=>
   refine yx (x0:=.int n) ?_;nofun;refine zr (d:=.str (toString n)) (by show (if decide (n.natAbs.log2 < 1920)=true then _ else _)=_;rw [if_pos (decide_eq_true (qJ o))]) ?_;nofun;exact ⟨rfl,rfl⟩
  | op g a b=>
   obtain ⟨o1,o2,o3⟩:=o;have h1:=Zw o1;have h2:=jW o2;have h3:=jW o3;have h4:4 ^ k<=4 ^ 3:=eF (by decide) (by omega);have h4':4 ^ k<=64:=h4;have e1:("(":Str).length=1:=by decide +kernel
   have e2:(")":Str).length=1:=by decide +kernel
   refine yx (x0:=.tup [.str g,a.toD,b.toD]) ?_;nofun;refine wp_mono (ih a (by omega) o2 K (by omega) S) ?_;rintro _ S ⟨rfl,rfl⟩;refine zr (zK (by omega)) ?_;nofun;refine zr (zK (by rw [μ];omega)) ?_;nofun;refine wp_mono (ih b (by omega) o3 K (by omega) S) ?_;rintro _ S ⟨rfl,rfl⟩;refine zr (zK (by rw [μ,μ];omega)) ?_;nofun;refine zr (zK (by rw [μ,μ,μ];omega)) ?_;nofun;exact ⟨rfl,rfl⟩
theorem zfE:∀ (k:Nat) (e:Ex),k<=3->e.Ok k->∀ (K:Nat),k+1<=K->∀ S,yl F wh K 19 [e.toD] (fun x S'=>x=(.str (wt e),.st)/\S'=S) S:=by
 intro k
 induction k with
 | zero=>
  intro e hk o K hK S;obtain ⟨K,rfl⟩:∃ k,K=k+1:=⟨K - 1,by omega⟩
  cases e with
  | nm s=>
   refine zR (x0:=.str s) ?_;nofun;exact ⟨rfl,rfl⟩
  | num n=>
   refine zR (x0:=.int n) ?_;nofun;refine zr (d:=.str (toString n)) (by show (if decide (n.natAbs.log2 < 1920)=true then _ else _)=_;rw [if_pos (decide_eq_true (qJ o))]) ?_;nofun;exact ⟨rfl,rfl⟩
  | op g a b=>exact o.elim
 | succ k ih=>
  intro e hk o K hK S;obtain ⟨K,rfl⟩:∃ k,K=k+1:=⟨K - 1,by omega⟩
  cases e with
  | nm s=>
   refine zR (x0:=.str s) ?_;nofun;exact ⟨rfl,rfl⟩
  | num n=>
   refine zR (x0:=.int n) ?_;nofun;refine zr (d:=.str (toString n)) (by show (if decide (n.natAbs.log2 < 1920)=true then _ else _)=_;rw [if_pos (decide_eq_true (qJ o))]) ?_;nofun;exact ⟨rfl,rfl⟩
  | op g a b=>
   obtain ⟨o1,o2,o3⟩:=o;have h1:=Zw o1;have h2:=jW o2;have h3:=jW o3;have h4:4 ^ k<=4 ^ 3:=eF (by decide) (by omega);have h4':4 ^ k<=64:=h4;have e1:("(":Str).length=1:=by decide +kernel
   have e2:(")":Str).length=1:=by decide +kernel
   refine zR (x0:=.tup [.str g,a.toD,b.toD]) ?_;nofun;refine wp_mono (ih a (by omega) o2 K (by omega) S) ?_;rintro _ S ⟨rfl,rfl⟩;refine zr (zK (by omega)) ?_;nofun;refine zr (zK (by rw [μ];omega)) ?_;nofun;refine wp_mono (ih b (by omega) o3 K (by omega) S) ?_;rintro _ S ⟨rfl,rfl⟩;refine zr (zK (by rw [μ,μ];omega)) ?_;nofun;refine zr (zK (by rw [μ,μ,μ];omega)) ?_;nofun;exact ⟨rfl,rfl⟩
abbrev Is (K f:Nat) (ds:List D) (v:Vl) (S:Store):Prop:=yl F wh K f ds (fun x S'=>x=v/\S'=S) S
abbrev Sm (K f:Nat) (ds:List D) (P:Vl->Prop) (S:Store):Prop:=yl F wh K f ds (fun x S'=>P x/\S'=S) S
abbrev Tl (K f:Nat) (ds:List D) (b:Bool) (S:Store):Prop:=Is K f ds (.bl b,.st) S
section
variable {K f:Nat}{ds:List D}{S:Store}
theorem Is.go {v:Vl}{V:Po}(h:Is K f ds v S) (q:V v S):yl F wh K f ds V S:=wp_mono h (by rintro _ _ ⟨rfl,rfl⟩;exact q)
theorem Sm.go {P:Vl->Prop}{V:Po}(h:Sm K f ds P S) (q:∀ x,P x->V x S):yl F wh K f ds V S:=wp_mono h (by rintro x _ ⟨h1,rfl⟩;exact q x h1)
end
theorem up {n K:Nat}(h:n+1<=K):∃ k,n<=k/\K=k+1:=⟨K - 1,by omega,by omega⟩
theorem nf {b:Bool}(h:b=false):(!b)=true:=by rw [h];rfl
mutual
noncomputable def plD:D->Bool
 | .non=>true
 | .bl _=>true
 | .int _=>true
 | .str s=>decide (s.length<=1000)&&decide (s.cps.toList.length<=1000)
 | .tup l=>decide (l.length<=1000)&&plDs l
 | .lst l=>decide (l.length<=1000)&&plDs l
 | _=>false
noncomputable def plDs:List D->Bool
 | []=>true
 | d::l=>plD d&&plDs l
end
theorem Wj:∀ {l:List D}{d:D},plDs l=true->d∈l->plD d=true
 | e::l,d,h,m=>by
  obtain ⟨h1,h2⟩:=Ζ.mp (show (plD e&&plDs l)=true from h);rcases χ.mp m with rfl | m
  ·exact h1
  ·exact Wj h2 m
noncomputable def zdS:D->Bool
 | .int _=>true
 | _=>false
noncomputable def numD:D->Bool
 | .int i=>decide (0<=i)&&decide (i < 1000000007)
 | _=>false
noncomputable def chars (s:Str):List D:=s.cps.toList.map fun c=>.str ⟨#[c]⟩
noncomputable def letD (d:D):Bool:=match inD d (.str "abcdefghijklmnopqrstuvwxyz") with
 | some b=>b
 | none=>false
noncomputable def wdS (s:Str):Bool:=decide (1<=s.length)&&decide (s.length<=8)&&(chars s).all letD
noncomputable def ur:D->Bool
 | .str s=>wdS s
 | _=>false
noncomputable def jR:D->Bool
 | .str s=>(sgL.map D.str).any fun y=>eqP y (.str s)
 | _=>false
section
variable {K:Nat}{S:Store}{d:D}
theorem Ql (h:plD d=true) (hK:1<=K):Tl K 0 [d] (zdS d) S:=by
 obtain ⟨K,hk,rfl⟩:=up hK;refine W6 ?_;cases d with
 | non=>nofun;exact ⟨rfl,rfl⟩
 | bl b=>nofun;exact ⟨rfl,rfl⟩
 | int i=>nofun;exact ⟨rfl,rfl⟩
 | str s=>nofun;exact ⟨rfl,rfl⟩
 | tup l=>nofun;exact ⟨rfl,rfl⟩
 | lst l=>nofun;exact ⟨rfl,rfl⟩
 | _=>cases h
theorem zbp (h:plD d=true) (hK:2<=K):Tl K 1 [d] (numD d) S:=by
 obtain ⟨K,hk,rfl⟩:=up hK;refine YQ ?_;nofun;refine (Ql h hk).go ?_;cases d with
 | int i=>
  nofun;refine zJ rfl ?_;nofun;refine zE (fun h1=>?_) (fun h1=>?_)
  ·nofun;refine ⟨?_,rfl⟩;show (D.bl (decide (i < 1000000007)),Kd.st)=(D.bl (decide (0<=i)&&decide (i < 1000000007)),Kd.st)
   rw [show decide (0<=i)=true from h1,iT]
  ·nofun;refine ⟨?_,rfl⟩;show (D.bl false,Kd.st)=(D.bl (decide (0<=i)&&decide (i < 1000000007)),Kd.st)
   rw [show decide (0<=i)=false from h1,aA]
 | non=>nofun;exact ⟨rfl,rfl⟩
 | bl b=>nofun;exact ⟨rfl,rfl⟩
 | str s=>nofun;exact ⟨rfl,rfl⟩
 | tup l=>nofun;exact ⟨rfl,rfl⟩
 | lst l=>nofun;exact ⟨rfl,rfl⟩
 | _=>cases h
theorem zb6 (h:plD d=true) (hK:1<=K):Tl K 2 [d] (jR d) S:=by
 obtain ⟨K,hk,rfl⟩:=up hK;refine V4 ?_;cases d with
 | str s=>nofun;exact ⟨rfl,rfl⟩
 | non=>nofun;exact ⟨rfl,rfl⟩
 | bl b=>nofun;exact ⟨rfl,rfl⟩
 | int i=>nofun;exact ⟨rfl,rfl⟩
 | tup l=>nofun;exact ⟨rfl,rfl⟩
 | lst l=>nofun;exact ⟨rfl,rfl⟩
 | _=>cases h
theorem Ze {s:D->(Option D->Store->Prop)->Store->Prop}{V:List D->Store->Prop}{S:Store}(f:D->Bool):∀ (xs:List D) (acc:List Bool),acc.length+xs.length<=1000->(∀ x∈xs,∀ Q:Option D->Store->Prop,Q (some (.bl (f x))) S->s x Q S) ->
  V ((acc++xs.map f).map D.bl) S->uR s xs (acc.map D.bl) V S
 | [],acc,_,_,v=>by simpa [uR] using v
 | x::xs,acc,hl,h,v=>by
  refine h x θ _ ?_;have e:(acc.map D.bl)++[D.bl (f x)]=(acc++[f x]).map D.bl:=by simp
  have hl':acc.length+(xs.length+1)<=1000:=hl;show tst (fits ((acc.map D.bl).length+1)) (uR s xs (acc.map D.bl++[D.bl (f x)]) V S) False
  refine zJ (fits_of (by rw [ώ];omega)) ?_;rw [e];exact Ze f xs (acc++[f x]) (by simp;omega) (fun y hy=>h y (η _ hy)) (by simpa using v)
theorem Yy:∀ l:List Bool,jE (l.map D.bl)=some l
 | []=>rfl
 | b::l=>by show (jE (l.map D.bl)).map (b::·)=_;rw [Yy l];rfl
theorem Qc (l:List Bool):biD .all [.lst (l.map D.bl)]=some (.bl (l.all id),false):=by
 show ((jE (l.map D.bl)).map fun bs=>D.bl (bs.all id)).map (fun d=>(d,false))=_
 rw [Yy];rfl
theorem V2 (h:plD d=true) (hK:1<=K):Tl K 5 [d] (ur d) S:=by
 obtain ⟨K,hk,rfl⟩:=up hK;refine V3 ?_;cases d with
 | str s=>
  obtain ⟨h1,h2⟩:=Ζ.mp (show (decide (s.length<=1000)&&decide (s.cps.toList.length<=1000))=true from h);have h1:=of_decide_eq_true h1;have h2:=of_decide_eq_true h2;have e:biD .len [.str s]=some (.int s.length,false):=by
   show (if fits s.length=true then _ else _)=_
   rw [if_pos (fits_of (by omega))]
  nofun;refine zr e ?_;nofun;refine zE (fun h3=>?_) (fun h3=>?_)
  ·have h3:(1:Int)<=s.length:=of_decide_eq_true h3;nofun;refine zE (fun h4=>?_) (fun h4=>?_)
   ·nofun;have h4:(!decide ((s.length:Int)<=8))=true:=h4;have h4:¬ (s.length:Int)<=8:=fun z=>by rw [decide_eq_true z] at h4;cases h4
    refine ⟨?_,rfl⟩;show (D.bl false,Kd.st)=(D.bl (wdS s),Kd.st)
    have:wdS s=false:=by unfold wdS;rw [decide_eq_false (show ¬ s.length<=8 by omega),bD,aA]
    rw [this]
   ·nofun;have h4:(!decide ((s.length:Int)<=8))=false:=h4;have h4:(s.length:Int)<=8:=by
     by_cases z:(s.length:Int)<=8
     ·exact z
     ·rw [decide_eq_false z] at h4;cases h4
    refine zbR ?_;dsimp only [wpI,zX];nofun;refine Ze letD (chars s) [] (by simp [chars];omega) (fun x hx Q hQ=>?_) ?_
    ·refine z6 rfl ?_;dsimp only [wpF,xx,zap,zX,inn,nT,Ι,List.map,Ϝ,ϱ];obtain ⟨c,_,rfl⟩:=aX.mp hx;nofun;exact hQ
    ·refine zr (Qc _) ?_;nofun;refine ⟨?_,rfl⟩;show (D.bl (([]++(chars s).map letD).all id),Kd.st)=(D.bl (wdS s),Kd.st)
     unfold wdS;rw [decide_eq_true (show 1<=s.length by omega),decide_eq_true (show s.length<=8 by omega),bO,gf];rfl
  ·nofun;have h3:¬ (1:Int)<=s.length:=of_decide_eq_false h3;refine ⟨?_,rfl⟩;show (D.bl false,Kd.st)=(D.bl (wdS s),Kd.st)
   have:wdS s=false:=by unfold wdS;rw [decide_eq_false (show ¬ 1<=s.length by omega),aA,aA]
   rw [this]
 | non=>nofun;exact ⟨rfl,rfl⟩
 | bl b=>nofun;exact ⟨rfl,rfl⟩
 | int i=>nofun;exact ⟨rfl,rfl⟩
 | tup l=>nofun;exact ⟨rfl,rfl⟩
 | lst l=>nofun;exact ⟨rfl,rfl⟩
 | _=>cases h
noncomputable def tri3:D->Option (D×D×D)
 | .tup [g,a,b]=>some (g,a,b)
 | _=>none
noncomputable def fmlD:Nat->D->Bool
  | 0,d=>numD d||ur d
  | k+1,d=>numD d||ur d||(match tri3 d with
    | some t=>jR t.1&&(fmlD k t.2.1&&fmlD k t.2.2)
    | none=>false)
theorem zbY {l:List D}(h:tri3 (.tup l)=none):l.length≠3:=by
 intro z
 match l,z with
 | [_,_,_],_=>cases h
theorem zaV {d g a b:D}(h:tri3 d=some (g,a,b)):d=.tup [g,a,b]:=by
 unfold tri3 at h;split at h
 ·cases h;rfl
 ·cases h
theorem zgj:∀ (k:Nat) (d:D),plD d=true->∀ (K:Nat) (S:Store),k+3<=K->Tl K 4 [d,.fn 5,.int k] (fmlD k d) S:=by
 intro k
 induction k with
 | zero=>
  intro d h K S hK;obtain ⟨K,hk,rfl⟩:=up hK;refine yH ?_;nofun;refine (zbp h (by omega)).go ?_;nofun;refine zE (fun h1=>?_) (fun h1=>?_)
  ·nofun;refine ⟨?_,rfl⟩;show (D.bl true,Kd.st)=(D.bl (numD d||ur d),Kd.st)
   rw [h1];rfl
  ·nofun;refine (V2 h (by omega)).go ?_;nofun;refine zE (fun h2=>?_) (fun h2=>?_)
   ·nofun;refine ⟨?_,rfl⟩;show (D.bl true,Kd.st)=(D.bl (numD d||ur d),Kd.st)
    rw [h1,h2];rfl
   ·nofun;refine ⟨?_,rfl⟩;show (D.bl false,Kd.st)=(D.bl (numD d||ur d),Kd.st)
    rw [h1,h2];rfl
 | succ k ih=>
  intro d h K S hK;obtain ⟨K,hk,rfl⟩:=up hK;have e:((k+1:Nat):Int) - 1=(k:Int):=by omega
  have z:eqP (.int ((k+1:Nat):Int)) (.int 0)=false:=by
   show (((k+1:Nat):Int)==0)=false
   exact beq_eq_false_iff_ne.mpr (by omega)
  refine yH ?_;nofun;refine (zbp h (by omega)).go ?_;nofun;refine zE (fun h1=>?_) (fun h1=>?_)
  ·nofun;refine ⟨?_,rfl⟩;show (D.bl true,Kd.st)=(D.bl (fmlD (k+1) d),Kd.st)
   unfold fmlD;rw [h1];rfl
  nofun;refine (V2 h (by omega)).go ?_;nofun;refine zE (fun h2=>?_) (fun h2=>?_)
  ·nofun;refine ⟨?_,rfl⟩;show (D.bl true,Kd.st)=(D.bl (fmlD (k+1) d),Kd.st)
   unfold fmlD;rw [h1,h2];rfl
  nofun;refine wK z ?_;have hno:tri3 d=none->fmlD (k+1) d=false:=fun h3=>by unfold fmlD;rw [h1,h2,h3];rfl
  cases d with
  | non=>nofun;exact ⟨by rw [hno rfl],rfl⟩
  | bl b=>nofun;exact ⟨by rw [hno rfl],rfl⟩
  | int i=>nofun;exact ⟨by rw [hno rfl],rfl⟩
  | str s=>nofun;exact ⟨by rw [hno rfl],rfl⟩
  | lst l=>nofun;exact ⟨by rw [hno rfl],rfl⟩
  | tup l=>
   nofun;cases ht:tri3 (.tup l) with
   | none=>
    have h3:=zbY ht;refine zJ (nf (show (((l.length:Nat):Int)==3)=false from beq_eq_false_iff_ne.mpr (by omega))) ?_;nofun;exact ⟨by rw [hno ht],rfl⟩
   | some t=>
    obtain ⟨g,a,b⟩:=t;cases zaV ht;have hp:plDs [g,a,b]=true:=(Ζ.mp (show (decide (([g,a,b]:List D).length<=1000)&&plDs [g,a,b])=true from h)).2;have pg:=Wj hp (show g∈[g,a,b] by simp);have pa:=Wj hp (show a∈[g,a,b] by simp);have pb:=Wj hp (show b∈[g,a,b] by simp);have hf:fmlD (k+1) (.tup [g,a,b])=(jR g&&(fmlD k a&&fmlD k b)):=by rw [fmlD,h1,h2,ht];rfl
    rw [hf];nofun;refine (zb6 pg (by omega)).go ?_;nofun;refine zE (fun h3=>?_) (fun h3=>?_)
    ·nofun;have h3:jR g=false:=by simpa using h3
     exact ⟨by rw [h3];rfl,rfl⟩
    ·have h3:jR g=true:=by simpa using h3
     nofun;rw [e];refine (ih _ pa _ _ (by omega)).go ?_;nofun;refine zE (fun h4=>?_) (fun h4=>?_)
     ·nofun;rw [e];refine (ih _ pb _ _ (by omega)).go ?_;nofun;exact ⟨by rw [h3,h4];rfl,rfl⟩
     ·nofun;exact ⟨by rw [h3,h4];rfl,rfl⟩
  | _=>cases h
theorem zhW (h:plD d=true) (hK:8<=K):Tl K 6 [d] (fmlD 3 d) S:=by obtain ⟨K,hk,rfl⟩:=up hK;refine vQ ?_;nofun;obtain ⟨K,hk,rfl⟩:=up hk;refine Zn ?_;nofun;refine (zgj 3 d h _ _ (by omega)).go ?_;nofun;exact ⟨rfl,rfl⟩
end
noncomputable abbrev cs (s:Str):List Nat:=s.cps.toList
noncomputable def mk (l:List Nat):Str:=⟨l.toArray⟩
theorem yG (l:List Nat):cs (mk l)=l:=by simp [mk]
theorem Q7 (s:Str):mk (cs s)=s:=by cases s;simp [mk]
theorem uV {a b:Str}(h:cs a=cs b):a=b:=by rw [<- Q7 a,<- Q7 b,h]
theorem uh (a b:Str):cs (a++b)=cs a++cs b:=by
 show (a.cps++b.cps).toList=_
 simp
theorem yD (s:Str):s.length=(cs s).length:=by simp [Str.length]
theorem zbr {a b:List Nat}(h:mk a=mk b):a=b:=by rw [<- yG a,<- yG b,h]
theorem yL (l:List Nat):(mk l).length=l.length:=by rw [yD,yG]
theorem zfq (c:Nat):(⟨#[c]⟩:Str)=mk [c]:=rfl
theorem at1 {y:Str}{c i:Nat}:StrLaws.At y (mk [c]) y.length i ↔ (cs y)[i]?=some c:=by
 have e:y.length=y.cps.size:=rfl;constructor
 ·rintro ⟨h1,h2⟩;have h1:i+1<=y.cps.size:=h1;have h2:y.cps.extract i (i+1)=#[c]:=eq_of_beq h2;have h3:(y.cps.extract i (i+1))[0]?=some c:=by rw [h2];rfl
  rw [Array.getElem?_extract] at h3;rw [if_pos (by omega)] at h3;simpa using h3
 ·intro h;have hi:i < y.cps.size:=by simpa using (ο.mp h).1
  refine ⟨by show i+1<=y.cps.size;omega,?_⟩;show (y.cps.extract i (i+1)==#[c])=true
  rw [beq_iff_eq];apply Array.ext
  ·simp;omega
  ·intro k h1 h2;have hk:k=0:=by simpa using h2
   subst hk;have:=(ο.mp h).2;simpa using this
theorem in1 (y:Str) (c:Nat):inD (.str (mk [c])) (.str y)=some ((cs y).contains c):=by
 show some (!(Φ y (mk [c]) 0 y.length 1).isEmpty)=_
 congr 1
 rcases lN y (mk [c]) 1 (Η 1) with ⟨h,n⟩ | ⟨i,r,h,a,n⟩
 ·rw [h]
  symm
  rw [show (!([]:List Nat).isEmpty)=false from rfl,aP];intro q;obtain ⟨i,e⟩:=lD.mp (Β.mp q);exact n i (at1.mpr e)
 ·rw [h]
  symm
  exact Β.mpr (lD.mpr ⟨i,at1.mp a⟩)
theorem zh7 {y w:Str}{c:Nat}(h1:c∈cs w) (h2:c ∉ cs y):inD (.str w) (.str y)=some false:=by
 show some (!(Φ y w 0 y.length 1).isEmpty)=_
 rcases lN y w 1 (Η 1) with ⟨h,n⟩ | ⟨i,r,h,a,n⟩
 ·rw [h];rfl
 ·exfalso;have e:y.cps.extract i (i+w.length)=w.cps:=eq_of_beq a.2;have h1:c∈w.cps:=by simpa using h1
  rw [<- e] at h1;obtain ⟨k,hk,rfl⟩:=Array.mem_extract_iff_getElem.mp h1;exact h2 (by simp)
noncomputable def lt (c:Nat):Bool:=decide (97<=c)&&decide (c<=122)
noncomputable def dg (c:Nat):Bool:=decide (48<=c)&&decide (c<=57)
noncomputable def spL:List Nat:=[40,41,43,45,42,60,61]
noncomputable def sp (c:Nat):Bool:=spL.contains c
noncomputable def lf (c:Nat):Bool:=lt c||dg c
theorem zbu (c:Nat):((ϛ 26).map (97+·)).contains c=lt c:=by
 rw [cI,Β,aX];unfold lt;rw [γ,decide_eq_true_eq,decide_eq_true_eq];constructor
 ·rintro ⟨k,hk,rfl⟩;have:=au.mp hk;exact ⟨by omega,by omega⟩
 ·rintro ⟨h1,h2⟩;exact ⟨c - 97,au.mpr (by omega),by omega⟩
theorem zbJ (c:Nat):((ϛ 10).map (48+·)).contains c=dg c:=by
 rw [cI,Β,aX];unfold dg;rw [γ,decide_eq_true_eq,decide_eq_true_eq];constructor
 ·rintro ⟨k,hk,rfl⟩;have:=au.mp hk;exact ⟨by omega,by omega⟩
 ·rintro ⟨h1,h2⟩;exact ⟨c - 48,au.mpr (by omega),by omega⟩
theorem zga (c:Nat):inD (.str (mk [c])) (.str "abcdefghijklmnopqrstuvwxyz")=some (lt c):=by rw [in1,show cs "abcdefghijklmnopqrstuvwxyz"=(ϛ 26).map (97+·) by decide +kernel,zbu]
theorem zc9 (c:Nat):inD (.str (mk [c])) (.str "0123456789")=some (dg c):=by rw [in1,show cs "0123456789"=(ϛ 10).map (48+·) by decide +kernel,zbJ]
theorem zh8 (c:Nat):inD (.str (mk [c])) (.str "abcdefghijklmnopqrstuvwxyz0123456789")=some (lf c):=by
 rw [in1,show cs "abcdefghijklmnopqrstuvwxyz0123456789"=(ϛ 26).map (97+·)++(ϛ 10).map (48+·) by decide +kernel];have:∀ a b:List Nat,(a++b).contains c=(a.contains c||b.contains c):=fun a b=>by simp
 rw [this,zbu,zbJ];rfl
theorem zel:cs "()+-*<="=spL:=by decide +kernel
theorem zc8 (c:Nat):inD (.str (mk [c])) (.str "()+-*<=")=some (sp c):=by rw [in1,zel];rfl
theorem zfH {c:Nat}(h:lf c=true):sp c=false:=by unfold lf lt dg at h;simp only [dN,γ,decide_eq_true_eq] at h;rw [aP];intro q;have q:=Β.mp q;simp only [spL,χ,Ϟ,or_false] at q;omega
theorem zg2 {c:Nat}(h:sp c=true):lf c=false:=by rw [aP];intro q;rw [zfH q] at h;cases h
noncomputable def sgn:List Nat->Str
 | []=>mk []
 | c::_=>mk [c]
set_option tactic.hygienic true in
theorem zaZ (t:Str) (i:Nat):bh t (some (i:Int)) (some ((i:Int)+1))=sgn ((cs t).drop i):=by
 have hl:t.length=(cs t).length:=yD t;by_cases h:i < t.length
 ·rw [eq_of_beq (PyProof.Rows.slice_closesL (x:=t) (i:=i) (j:=(i:Int)+1) (by omega) (by omega) (by omega))];rw [show ((i:Int)+1 - i).toNat=1 by omega,show (i:Int).toNat=i by omega];rw [cT (show i < (cs t).length by omega)];rfl
 ·rw [List.drop_eq_nil_of_le (by omega)];apply uV;rw [show cs (sgn [])=[] by rfl];have:=PyProof.Txt.length_slice_le t (some (i:Int)) (some ((i:Int)+1));show cs (lG t (some (i:Int)) (some ((i:Int)+1)))=[]
  have e:fC (some (i:Int)) (some ((i:Int)+1)) 1 t.length=[]:=by
   have a1:¬ (i:Int) < 0:=by omega
   have a2:¬ (i:Int)+1 < 0:=by omega
   have e1:max (0:Int) (min (i:Int) (t.length:Int))=t.length:=by omega
   have e2:max (0:Int) (min ((i:Int)+1) (t.length:Int))=t.length:=by omega
   simp [fC,a1,a2,e1,e2,sliceRange]
  unfold lG;rw [e];split
  ·rename_i q
   have q:0=t.length:=by simpa using q
   exact gM (by omega)
  ·rfl
section
variable {cf:Cf}{ρ:List Slot}{V:Po}{S:Store}
theorem zgs {l:List Str}{o:E}{f:Str}:wpE cf ρ (.att l o f) V S=(wpE cf ρ o (fun x S1=>keep x fun r=>isOb S1 r fun _ c ns ds=>tst (l.contains c) (opt (xu ns ds f) fun d=>V (d,.st) S1) False) S):=rfl
theorem zil {ms:List (Str×Nat)}{o:E}{m:Str}{es:List E}:wpE cf ρ (.met ms o m es) V S=(wpE cf ρ o (fun x S1=>keep x fun r=>isOb S1 r fun k c ns _=>tst (!ns.contains m) (opt (ms.lookup c) fun f=>wpEs cf ρ es (fun ds S2=>cf f (.ref k::ds) V S2) S1) False) S):=rfl
noncomputable abbrev ob (t:Str) (i:Nat):D:=.ins "Signs" ["text","at"] [.str t,.int (i:Int)]
variable {r i:Nat}{t:Str}
theorem zgJ (h0:ρ[0]?=some (.sh (.ref r))) (hr:S[r]?=some (ob t i)) (q:V (.str t,.st) S):wpE cf ρ (.att [("Signs":Str)] ⇑0 "text") V S:=by rw [zgs,zX];refine zU h0 ?_;refine xZ hr ?_;refine zJ rfl ?_;exact zp rfl q
theorem zaC (h0:ρ[0]?=some (.sh (.ref r))) (hr:S[r]?=some (ob t i)) (q:V (.int (i:Int),.st) S):wpE cf ρ (.att [("Signs":Str)] ⇑0 "at") V S:=by rw [zgs,zX];refine zU h0 ?_;refine xZ hr ?_;refine zJ rfl ?_;exact zp rfl q
theorem xV {m:Str}{f:Nat}(h0:ρ[0]?=some (.sh (.ref r))) (hr:S[r]?=some (ob t i)) (hm:(m==("text":Str)||m==("at":Str))=false) (q:cf f [.ref r] V S):wpE cf ρ (.met [(("Signs":Str),f)] ⇑0 m []) V S:=by
 rw [zil,zX];refine zU h0 ?_;refine xZ hr ?_;refine zJ ?_ ?_
 ·show (!(m==("text":Str)||(m==("at":Str)||false)))=true
  rw [Bool.or_false,hm];rfl
 refine zp (a:=f) ?_ q;rfl
end
section
variable {K r i:Nat}{t:Str}{S:Store}
theorem wz (hr:S[r]?=some (ob t i)) (ht:t.length<=9000) (hK:1<=K):Is K 28 [.ref r] (.str (sgn ((cs t).drop i)),.st) S:=by
 obtain ⟨K,hk,rfl⟩:=up hK;refine qp ?_;refine zu ?_;dsimp only [wpC,Kc,wpO];refine zgJ rfl hr ?_;refine zaC rfl hr ?_;refine yM rfl ?_;rw [Xz];refine zaC rfl hr ?_;rw [yj];refine zr rfl ?_;refine yM rfl ?_;refine zr (d:=.str (sgn ((cs t).drop i))) ?_ ?_
 ·show (if fits t.length=true then some (D.str (bh t (some (i:Int)) (some ((i:Int)+1))),false) else none)=_
  rw [if_pos (fits_of (by omega)),zaZ]
 ·nofun;exact ⟨rfl,rfl⟩
theorem vf (hr:S[r]?=some (ob t i)) (ht:t.length<=9000) (hK:1<=K):yl F wh K 29 [.ref r] (fun x S'=>x=(.str (sgn ((cs t).drop i)),.st)/\S'=S.set r (ob t (i+1))) S:=by
 obtain ⟨K,hk,rfl⟩:=up hK;refine qm ?_;refine zu ?_;have hlt:r < S.length:=(ο.mp hr).1;have hr2:(S.set r (ob t (i+1)))[r]?=some (ob t (i+1)):=Κ hlt;dsimp only [wpC,zX,yj];refine zU rfl ?_;refine xZ hr ?_;refine zJ rfl ?_;refine zp rfl ?_;refine xZ hr ?_;refine zp rfl ?_;refine zJ rfl ?_;refine zu ?_;dsimp only [wpC,Kc,wpO];refine zgJ rfl hr2 ?_;rw [Xz];refine zaC rfl hr2 ?_;rw [yj];refine zr rfl ?_;refine yM rfl ?_;refine zaC rfl hr2 ?_;refine yM rfl ?_;refine zr (d:=.str (sgn ((cs t).drop i))) ?_ ?_
 ·show (if fits t.length=true then some (D.str (bh t (some (((i+1:Nat):Int) - 1)) (some ((i+1:Nat):Int))),false) else none)=_
  rw [if_pos (fits_of (by omega)),show ((i+1:Nat):Int) - 1=(i:Int) by omega,show ((i+1:Nat):Int)=(i:Int)+1 by omega,zaZ]
 ·nofun;exact ⟨rfl,rfl⟩
end
theorem allIn {cf:Cf}{ρ:List Slot}{V:Po}{S:Store}{j:Nat}{w:List Nat}{y:Str}{X:E}{f:Nat->Bool}(hj:ρ[j]?=some (.sh (.str (mk w)))) (hl:w.length<=1000) (hX:∀ ρ' (V':Po) S',V' (.str y,.st) S'->wpE cf ρ' X V' S') (hf:∀ c,inD (.str (mk [c])) (.str y)=some (f c)) (q:V (.bl (w.all f),.st) S):wpE cf ρ (.bi .all [.comp (.one 0) [] (.seq (.var j)) [] (.cmp .In ⇑0 X)]) V S:=by
  rw [e_bi];refine zbR ?_;dsimp only [wpI,zX];refine zU hj ?_;refine kp_s rfl ?_;refine zp (a:=w.map fun c=>D.str (mk [c])) ?_ ?_
  · show some ((cs (mk w)).map fun c=>D.str ⟨#[c]⟩)=_
    rw [yG];rfl
  refine Ze (fun d=>match inD d (.str y) with
    | some b=>b
    | none=>false) _ [] (by simp;omega) (fun x hx Q hQ=>?_) ?_
  · obtain ⟨c,_,rfl⟩:=aX.mp hx;refine z6 rfl ?_;dsimp only [wpF,xx,zX,inn,nT,Ι,List.map,Ϝ,ϱ];refine zJ rfl ?_;refine zU rfl ?_;refine hX _ _ _ ?_;refine zp (hf c) ?_;refine kp_s rfl ?_;have:=hQ;rw [hf c] at this;exact this
  · refine zr (Qc _) ?_
    have e:(([]:List Bool)++(w.map fun c=>D.str (mk [c])).map fun d=>match inD d (.str y) with
      | some b=>b
      | none=>false).all id=w.all f:=by
      rw [bO,List.map_map,gf]
      congr 1
      funext c
      show (match inD (.str (mk [c])) (.str y) with
        | some b=>b
        | none=>false)=f c
      rw [hf c]
    rw [e];exact q
noncomputable def fgB (w:List Nat):Bool:=decide (1<=w.length)&&decide (w.length<=10)&&w.all dg
noncomputable def fgD (w:List Nat):D:=if fgB w=true then .int ((ϓ w:Nat):Int) else .str (mk w)
theorem zgz {w:List Nat}(h:w.all dg=true):lJ w:=fun c hc=>by have:=Ρ.mp h c hc;unfold dg at this;rw [γ,decide_eq_true_eq,decide_eq_true_eq] at this;exact this
theorem int_mk {w:List Nat}(h:w.all dg=true) (h1:1<=w.length) (h2:w.length<=600):biD .int [.str (mk w)]=some (.int ((ϓ w:Nat):Int),false):=by
 show (if decide ((mk w).length<=640)=true then (dR (mk w)).map fun n=>(D.int n,false) else none)=_
 rw [if_pos (decide_eq_true (by rw [yL];omega)),PySem.intText_digits (x:=mk w) (show lJ (cs (mk w)) by rw [yG];exact zgz h) (show cs (mk w)≠[] by rw [yG];intro e;rw [e] at h1;simp at h1) (by rw [yL];omega),show (mk w).cps.toList=w from yG w];rfl
section
variable {K:Nat}{S:Store}
theorem zdd (w:List Nat) (hw:w.length<=1000) (hK:1<=K):Is K 11 [.str (mk w)] (fgD w,.st) S:=by
 obtain ⟨K,hk,rfl⟩:=up hK;have e:biD .len [.str (mk w)]=some (.int w.length,false):=by
  show (if fits (mk w).length=true then some (D.int (mk w).length,false) else _)=_
  rw [yL,if_pos (fits_of (by omega))]
 have no:fgB w=false->yl F wh (K+1) 11 [.str (mk w)] (fun x S'=>x=(D.str (mk w),Kd.st)/\S'=S) S->Is (K+1) 11 [.str (mk w)] (fgD w,.st) S:=fun h q=>by unfold fgD;rw [h];exact q
 refine jP ?_;nofun;refine zr e ?_;nofun;refine zE (fun h3=>?_) (fun h3=>?_)
 ·have h3:(1:Int)<=w.length:=of_decide_eq_true h3;nofun;refine zE (fun h4=>?_) (fun h4=>?_)
  ·have h4:(w.length:Int)<=10:=of_decide_eq_true h4;refine allIn (f:=dg) rfl hw (fun _ _ _ q=>by rw [zap];exact q) zc9 ?_;nofun;refine zE (fun h5=>?_) (fun h5=>?_)
   ·nofun;refine zr (int_mk h5 (by omega) (by omega)) ?_;nofun;refine ⟨?_,rfl⟩;unfold fgD fgB;rw [decide_eq_true (show 1<=w.length by omega),decide_eq_true (show w.length<=10 by omega),h5];rfl
   ·nofun;refine ⟨?_,rfl⟩;unfold fgD fgB;rw [h5,bD];rfl
  ·have h4:¬ (w.length:Int)<=10:=of_decide_eq_false h4;nofun;refine ⟨?_,rfl⟩;unfold fgD fgB;rw [decide_eq_false (show ¬ w.length<=10 by omega),bD,aA];rfl
 ·have h3:¬ (1:Int)<=w.length:=of_decide_eq_false h3;nofun;refine ⟨?_,rfl⟩;unfold fgD fgB;rw [decide_eq_false (show ¬ 1<=w.length by omega),aA,aA];rfl
end
theorem Zu:∀ (ys:List Str),qz (ys.map D.str)=some ys
 | []=>rfl
 | y::ys=>by
  show (qz (ys.map D.str)).map (y::·)=_
  rw [Zu ys];rfl
theorem zc2 {x:Str}{ys:List Str}(h:(ys.map (·.length)).sum+ys.length*x.length<=1000000):mthD .join (.str x) [LS ys]=some (.str (Txt.join x ys),false):=by
 show ((some (ys.map D.str)).bind qz).bind (fun zs=>if fits ((zs.map (·.length)).sum+zs.length*x.length)=true then some (D.str (Txt.join x zs),false) else none)=_
 show (qz (ys.map D.str)).bind _=_
 rw [Zu];show (if fits _=true then _ else _)=_
 rw [if_pos (fits_of h)]
noncomputable def ones (w:List Nat):List Str:=w.map fun c=>mk [c]
theorem zc3 (w:List Nat):Txt.join "" (ones w)=mk w:=by
 have go:∀ (w a:List Nat),(⟨(ones w).foldl (fun acc p=>acc++("":Str).cps++p.cps) a.toArray⟩:Str)=mk (a++w):=by
  intro w
  induction w with
  | nil=>intro a;simp [ones,mk]
  | cons c w ih=>
   intro a;have e:a.toArray++("":Str).cps++(mk [c]).cps=(a++[c]).toArray:=by rw [show ("":Str).cps=#[] from rfl];simp [mk]
   show (⟨(ones w).foldl (fun acc p=>acc++("":Str).cps++p.cps) (a.toArray++("":Str).cps++(mk [c]).cps)⟩:Str)=_
   rw [e,ih (a++[c])];simp
 cases w with
 | nil=>rfl
 | cons c w=>exact go w [c]
theorem Wn:∀ (w:List Nat),((ones w).map (·.length)).sum=w.length
 | []=>rfl
 | c::w=>by
  show (mk [c]).length+((ones w).map (·.length)).sum=w.length+1
  rw [Wn w,yL];show 1+w.length=_
  omega
theorem join_ones {w:List Nat}(h:w.length<=1000):mthD .join (.str "") [LS (ones w)]=some (.str (mk w),false):=by rw [zc2 (by rw [Wn,show ("":Str).length=0 from rfl];omega),zc3]
theorem Jj (a:List Nat) (c:Nat):(ones a).map D.str++[D.str (mk [c])]=(ones (a++[c])).map D.str:=by simp [ones]
theorem Xc {a b:List Nat}(h:a≠b):(mk a==mk b)=false:=beq_eq_false_iff_ne.mpr fun e=>h (zbr e)
theorem zar {t:Str}{i c:Nat}{l:List Nat}(h:(cs t).drop i=c::l):(cs t).drop (i+1)=l:=by rw [<- iu,h];rfl
section
variable {K r i:Nat}{t:Str}{S:Store}{l:List Nat}
theorem Jy (hr:S[r]?=some (ob t i)) (ht:t.length<=300) (hl:(cs t).drop i=l) (hK:2<=K):yl F wh K 10 [.ref r] (fun x S'=>x=(fgD (l.takeWhile lf),.st)/\S'=S.set r (ob t (i+(l.takeWhile lf).length))) S:=by
 obtain ⟨K,hk,rfl⟩:=up hK;have hlt:r < S.length:=(ο.mp hr).1;have hw:(l.takeWhile lf).length<=300:=by
  have h1:(l.takeWhile lf).length<=l.length:=(lq lf).length_le;have h2:l.length<=(cs t).length:=by rw [<- hl,bG];omega
  have h3:=yD t;omega
 refine YM ?_;nofun
 refine XS (fun n ρ S1=>∃ a l',ρ=[.sh (.ref r),.ow (LS (ones a))]/\S1=S.set r (ob t (i+a.length))/\l.takeWhile lf=a++l'.takeWhile lf/\(cs t).drop (i+a.length)=l'/\n=(l'.takeWhile lf).length) ?_ 400 (l.takeWhile lf).length _ _ (by omega) ⟨[],l,rfl,(by
  show S=S.set r (ob t (i+0))
  rw [Nat.add_zero]
  symm
  apply cX;intro j;by_cases hj:r=j
  ·subst hj;rw [Κ hlt,hr]
  ·rw [υ hj]),rfl,hl,rfl⟩
 rintro n ρ S1 ⟨a,l',rfl,rfl,e1,e2,e3⟩;have hr1:(S.set r (ob t (i+a.length)))[r]?=some (ob t (i+a.length)):=Κ hlt;have fin:l'.takeWhile lf=[]->a=l.takeWhile lf:=fun h=>by rw [e1,h,Ϝ]
 have out:l'.takeWhile lf=[]->wpCs (zg F wh K) noX wh [.frz 1,.ret (.call 11 [(.mth .join ↥"" [⇑1])])] [.sh (.ref r),.ow (LS (ones a))] (told fun x S'=>x=(fgD (l.takeWhile lf),.st)/\S'=S.set r (ob t (i+(l.takeWhile lf).length))) (S.set r (ob t (i+a.length))):=fun h=>by have ea:=fin h;nofun;refine zr (join_ones (by rw [ea];omega)) ?_;nofun;refine (zdd a (by rw [ea];omega) (by omega)).go ?_;nofun;rw [<- ea];exact ⟨rfl,rfl⟩
 dsimp only [zdl,xx,yj];refine xV rfl hr1 (by decide +kernel) ?_;refine (wz hr1 (by omega) (by omega)).go ?_;rw [e2];cases l' with
 | nil=>
  refine zp (a:=false) rfl ?_;nofun;exact out rfl
 | cons c l2=>
  refine zp (a:=true) (show some (!(mk [c]==mk []))=_ by rw [Xc (by simp)];rfl) ?_;refine yu rfl ?_;refine zJ rfl ?_;dsimp only [Ke,xx,zap];refine xV rfl hr1 (by decide +kernel) ?_;refine (wz hr1 (by omega) (by omega)).go ?_;rw [e2];refine zp (zh8 c) ?_;refine yu rfl ?_;cases hc:lf c with
  | false=>
   have h:(c::l2).takeWhile lf=[]:=by rw [bI,hc];rfl
   exact out h
  | true=>
   have h:(c::l2).takeWhile lf=c::l2.takeWhile lf:=by rw [bI,hc];rfl
   refine zJ rfl ⟨(l2.takeWhile lf).length,by rw [e3,h];rfl,?_⟩;have ha:a.length < 300:=by
    have:(a++c::l2.takeWhile lf).length<=300:=by rw [<- h,<- e1];exact hw
    simp at this;omega
   refine zu ?_;dsimp only [wpC];refine Wm rfl ?_;refine xV rfl hr1 (by decide +kernel) ?_;refine wp_mono (vf hr1 (by omega) (by omega)) ?_;rintro _ _ ⟨rfl,rfl⟩;refine kp_s rfl ?_;refine zJ (fits_of (by simp [ones];omega)) ?_;rw [e2];refine ⟨a++[c],l2,?_,?_,?_,?_,rfl⟩
   ·show [Slot.sh (.ref r),.ow (.lst ((ones a).map D.str++[D.str (mk [c])]))]=_
    rw [Jj]
   ·rw [fZ,Ο];rfl
   ·rw [e1,h];simp
   ·rw [Ο];exact zar e2
end
noncomputable def Rp:Nat->List Nat->Option (D×List Nat)
 | 0,l=>if l.head?=some 40 then none else some (fgD (l.takeWhile lf),l.dropWhile lf)
 | k+1,l=>if l.head?=some 40 then (Rp k l.tail).bind fun p=>(Rp k p.2.tail).map fun q=>(.tup [.str (sgn p.2),p.1,q.1],q.2.tail) else some (fgD (l.takeWhile lf),l.dropWhile lf)
theorem Qd (k:Nat) {l:List Nat}(h:l.head?≠some 40):Rp k l=some (fgD (l.takeWhile lf),l.dropWhile lf):=by cases k <;> exact if_neg h
theorem zf7 (w:List Nat):wA (fgD w)=false:=by unfold fgD;split <;> rfl
theorem zc7 {k:Nat}{l:List Nat}{p:D×List Nat}(h:Rp k l=some p):wA p.1=false:=by
 by_cases hh:l.head?=some 40
 ·cases k with
  | zero=>rw [show Rp 0 l=none from if_pos hh] at h;cases h
  | succ k=>
   rw [show Rp (k+1) l=_ from if_pos hh] at h;obtain ⟨q,e1,e2⟩:=ζ.mp h;obtain ⟨z,e3,e4⟩:=ι.mp e2;subst e4;rfl
 ·rw [Qd k hh] at h;cases h;exact zf7 _
theorem vg (l:List Nat):l.drop (l.takeWhile lf).length=l.dropWhile lf:=by
 induction l with
 | nil=>rfl
 | cons c l ih=>
  rw [bI,eY];cases lf c with
  | true=>simpa using ih
  | false=>rfl
theorem za0 {l:List Nat}:(!(sgn l==("(":Str)))=decide (l.head?≠some 40):=by
 have e:("(":Str)=mk [40]:=by rfl
 rw [e];cases l with
 | nil=>
  show (!(mk []==mk [40]))=_
  rw [Xc (by simp)];simp
 | cons c l=>
  show (!(mk [c]==mk [40]))=_
  by_cases hc:c=40
  ·subst hc;simp
  ·rw [Xc (by simpa using hc)];simp [hc]
theorem vJ (t:Str) (i:Nat):(cs t).drop (i+1)=((cs t).drop i).tail:=by rw [List.tail_drop]
section
variable {r:Nat}{t:Str}
def PV (k:Nat) (r:Nat) (t:Str) (l:List Nat) (S:Store) (x:Vl) (S':Store):Prop:=∃ d l' i',Rp k l=some (d,l')/\x=(d,.st)/\S'=S.set r (ob t i')/\(cs t).drop i'=l'
def PX (k:Nat) (r:Nat) (t:Str) (l:List Nat) (S:Store) (c:Nat) (S':Store):Prop:=c=1/\Rp k l=none/\∃ i',S'=S.set r (ob t i')
theorem zcD:∀ (k K i:Nat) (l:List Nat) (S:Store),k+3<=K->t.length<=300->S[r]?=some (ob t i)->(cs t).drop i=l->zg F wh K (PX k r t l S) 9 [.ref r,.int k] (PV k r t l S) S:=by
 intro k
 induction k with
 | zero=>
  intro K i l S hK ht hr hl;obtain ⟨K,hk,rfl⟩:=up hK;have hlt:r < S.length:=(ο.mp hr).1;refine xg ?_;refine zu ?_;dsimp only [wpC,xx,yj];refine xV rfl hr (by decide +kernel) ?_;refine (wz hr (by omega) (by omega)).go ?_;rw [hl];refine zp (a:=decide (l.head?≠some 40)) (by rw [<- za0];rfl) ?_;refine yu rfl ?_;refine zE (fun h=>?_) (fun h=>?_)
  ·have h:=of_decide_eq_true h;nofun;refine wp_mono (Jy hr ht hl (by omega)) ?_;rintro _ _ ⟨rfl,rfl⟩;nofun;exact ⟨_,_,_,Qd 0 h,rfl,rfl,by rw [<- iu,hl,vg]⟩
  ·have h:=of_decide_eq_false h;have h:l.head?=some 40:=gD h;nofun;refine ⟨rfl,if_pos h,i,?_⟩
   symm
   apply cX;intro j;by_cases hj:r=j
   ·subst hj;rw [Κ hlt,hr]
   ·rw [υ hj]
 | succ k ih=>
  intro K i l S hK ht hr hl;obtain ⟨K,hk,rfl⟩:=up hK;have hlt:r < S.length:=(ο.mp hr).1;refine xg ?_;refine zu ?_;dsimp only [wpC,xx,yj];refine xV rfl hr (by decide +kernel) ?_;refine (wz hr (by omega) (by omega)).go ?_;rw [hl];refine zp (a:=decide (l.head?≠some 40)) (by rw [<- za0];rfl) ?_;refine yu rfl ?_;refine zE (fun h=>?_) (fun h=>?_)
  ·have h:=of_decide_eq_true h;nofun;refine wp_mono (Jy hr ht hl (by omega)) ?_;rintro _ _ ⟨rfl,rfl⟩;nofun;exact ⟨_,_,_,Qd (k+1) h,rfl,rfl,by rw [<- iu,hl,vg]⟩
  ·have h:=of_decide_eq_false h;have h:l.head?=some 40:=gD h;have eR:Rp (k+1) l=(Rp k l.tail).bind fun p=>(Rp k p.2.tail).map fun q=>(.tup [.str (sgn p.2),p.1,q.1],q.2.tail):=if_pos h
   nofun;refine wK (show ((((k+1:Nat):Int))==0)=false from beq_eq_false_iff_ne.mpr (by omega)) ?_;nofun;have hs:∀ a b,(S.set r (ob t a)).set r (ob t b)=S.set r (ob t b):=fun a b=>fZ ..
   have hg:∀ a,(S.set r (ob t a))[r]?=some (ob t a):=fun a=>Κ hlt
   have ek:((k+1:Nat):Int) - 1=(k:Int):=by omega
   refine xV rfl hr (by decide +kernel) ?_;refine wp_mono (vf hr (by omega) (by omega)) ?_;rintro _ _ ⟨rfl,rfl⟩;nofun;rw [ek];refine (zM K) _ _ 9 _ _ _ _ ?_ ?_ (ih K (i+1) l.tail _ (by omega) ht (hg _) (by rw [vJ,hl]))
   ·rintro c S' ⟨rfl,e1,i',rfl⟩;exact ⟨rfl,by rw [eR,e1];rfl,i',hs _ _⟩
   rintro _ _ ⟨d1,l1,i1,e1,rfl,rfl,f1⟩;rw [hs];refine z6 (bind1 (ϝ rfl) (zc7 e1)) ?_;refine zB ?_;refine zu ?_;dsimp only [wpC,ϱ];refine xV rfl (hg _) (by decide +kernel) ?_;refine wp_mono (vf (hg _) (by omega) (by omega)) ?_;rintro _ _ ⟨rfl,rfl⟩;rw [hs,f1];nofun;rw [ek];refine (zM K) _ _ 9 _ _ _ _ ?_ ?_ (ih K (i1+1) l1.tail _ (by omega) ht (hg _) (by rw [vJ,f1]))
   ·rintro c S' ⟨rfl,e2,i',rfl⟩;exact ⟨rfl,by rw [eR,e1];show (Rp k l1.tail).map _=none;rw [e2];rfl,i',hs _ _⟩
   rintro _ _ ⟨d2,l2,i2,e2,rfl,rfl,f2⟩;rw [hs];refine z6 (bind1 (ϝ rfl) (zc7 e2)) ?_;refine zB ?_;refine zu ?_;dsimp only [wpC,ϱ];refine xV rfl (hg _) (by decide +kernel) ?_;refine wp_mono (vf (hg _) (by omega) (by omega)) ?_;rintro _ _ ⟨rfl,rfl⟩;rw [hs];nofun;exact ⟨.tup [.str (sgn l1),d1,d2],l2.tail,i2+1,by rw [eR,e1];show (Rp k l1.tail).map _=_;rw [e2];rfl,rfl,rfl,by rw [vJ,f2]⟩
end
theorem zia {w:List Nat}(h:w.length<=900):plD (fgD w)=true:=by
 unfold fgD;split
 ·rfl
 ·show (decide ((mk w).length<=1000)&&decide ((cs (mk w)).length<=1000))=true
  rw [yL,yG,decide_eq_true (show w.length<=1000 by omega)];rfl
theorem zb8 (l:List Nat):(sgn l).length<=1:=by
 cases l with
 | nil=>rw [show sgn []=mk [] from rfl,yL];exact bF _
 | cons c l=>rw [show sgn (c::l)=mk [c] from rfl,yL];exact Η _
theorem pl_R:∀ (k:Nat) {l l':List Nat}{d:D},Rp k l=some (d,l')->l.length<=900->plD d=true/\l'.length<=l.length:=by
 have leaf:∀ (k:Nat) {l l':List Nat}{d:D},l.head?≠some 40->Rp k l=some (d,l')->l.length<=900->plD d=true/\l'.length<=l.length:=by intro k l l' d hh h hl;rw [Qd k hh] at h;cases h;have h1:(l.takeWhile lf).length<=l.length:=(lq lf).length_le;exact ⟨zia (by omega),(List.dropWhile_sublist lf).length_le⟩
 intro k
 induction k with
 | zero=>
  intro l l' d h hl;by_cases hh:l.head?=some 40
  ·rw [show Rp 0 l=none from if_pos hh] at h;cases h
  ·exact leaf 0 hh h hl
 | succ k ih=>
  intro l l' d h hl;by_cases hh:l.head?=some 40
  ·rw [show Rp (k+1) l=_ from if_pos hh] at h;obtain ⟨⟨d1,l1⟩,e1,e2⟩:=ζ.mp h;obtain ⟨⟨d2,l2⟩,e3,e4⟩:=ι.mp e2;cases e4;have t1:l.tail.length<=l.length:=by rw [gC];omega
   obtain ⟨p1,q1⟩:=ih e1 (by omega);have t2:l1.tail.length<=l1.length:=by rw [gC];omega
   obtain ⟨p2,q2⟩:=ih e3 (by show l1.tail.length<=900;omega);have q2:l2.length<=l1.tail.length:=q2;refine ⟨?_,?_⟩
   ·show (decide (3<=1000)&&(plD (.str (sgn l1))&&(plD d1&&(plD d2&&true))))=true
    rw [p1,p2];show (true&&((decide ((sgn l1).length<=1000)&&decide ((cs (sgn l1)).length<=1000))&&true))=true
    have:=zb8 l1;rw [<- yD,decide_eq_true (show (sgn l1).length<=1000 by omega)];rfl
   ·show l2.tail.length<=l.length
    rw [gC];omega
  ·exact leaf _ hh h hl
theorem zfI (c:Nat):letD (.str ⟨#[c]⟩)=lt c:=by unfold letD;rw [zfq,zga]
theorem zaS {s:Str}:wdS s=true ↔ Wd s:=by
 have e:(chars s).all letD=(cs s).all lt:=by
  unfold chars;rw [gf]
  congr 1
  funext c
  exact zfI c
 unfold wdS;rw [e,γ,γ,decide_eq_true_eq,decide_eq_true_eq,Ρ];constructor
 ·rintro ⟨⟨h1,h2⟩,h3⟩;refine ⟨h1,h2,fun c hc=>?_⟩;have:=h3 c hc;unfold lt at this;rw [γ,decide_eq_true_eq,decide_eq_true_eq] at this;exact this
 ·rintro ⟨h1,h2,h3⟩;refine ⟨⟨h1,h2⟩,fun c hc=>?_⟩;have:=h3 c hc;unfold lt;rw [decide_eq_true this.1,decide_eq_true this.2];rfl
theorem zft {d:D}(h:numD d=true):∃ n,In n/\d=.int n:=by
 cases d with
 | int i=>
  have h:(decide (0<=i)&&decide (i < 1000000007))=true:=h;rw [γ,decide_eq_true_eq,decide_eq_true_eq] at h;exact ⟨i,h,rfl⟩
 | _=>cases h
theorem zbU {d:D}(h:ur d=true):∃ s,Wd s/\d=.str s:=by
 cases d with
 | str s=>exact ⟨s,zaS.mp h,rfl⟩
 | _=>cases h
theorem sign_is {d:D}(h:jR d=true):∃ g∈sgL,d=.str g:=by
 cases d with
 | str s=>
  obtain ⟨y,hy,e⟩:=aF.mp (show ((sgL.map D.str).any fun y=>eqP y (.str s))=true from h);obtain ⟨g,hg,rfl⟩:=aX.mp hy;have:g=s:=eq_of_beq (show (g==s)=true from e);exact ⟨g,hg,by rw [this]⟩
 | _=>cases h
theorem zgl:∀ (k:Nat) {d:D},fmlD k d=true->∃ e:Ex,e.Ok k/\d=e.toD:=by
  have leaf:∀ (k:Nat) {d:D},(numD d||ur d)=true->∃ e:Ex,e.Ok k/\d=e.toD:=by
    intro k d h;rcases lQ.mp h with h | h
    · obtain ⟨n,hn,rfl⟩:=zft h;exact ⟨.num n,Vs (k:=k) (e:=.num n) hn,rfl⟩
    · obtain ⟨s,hs,rfl⟩:=zbU h;exact ⟨.nm s,Vs (k:=k) (e:=.nm s) hs,rfl⟩
  intro k
  induction k with
  | zero=>exact fun h=>leaf 0 h
  | succ k ih=>
    intro d h
    rcases lQ.mp (show ((numD d||ur d)||(match tri3 d with
      | some t=>jR t.1&&(fmlD k t.2.1&&fmlD k t.2.2)
      | none=>false))=true from h) with h | h
    · exact leaf (k+1) h
    · cases e:tri3 d with
      | none=>rw [e] at h;cases h
      | some t=>
        rw [e] at h;obtain ⟨g,a,b⟩:=t;have h:(jR g&&(fmlD k a&&fmlD k b))=true:=h;rw [γ,γ] at h;obtain ⟨z,hz,rfl⟩:=sign_is h.1;obtain ⟨e1,o1,rfl⟩:=ih h.2.1;obtain ⟨e2,o2,rfl⟩:=ih h.2.2;exact ⟨.op z e1 e2,⟨hz,o1,o2⟩,zaV e⟩
noncomputable def W (e:Ex):List Nat:=cs (wt e)
theorem W_op (g:Str) (a b:Ex):W (.op g a b)=40::(W a++(cs g++(W b++[41]))):=by
 show cs ("("++wt a++g++wt b++")")=_
 rw [uh,uh,uh,uh,show cs "("=[40] by rfl,show cs ")"=[41] by rfl];simp [W]
theorem zeq {g:Str}(h:g∈sgL):∃ c,g=mk [c]/\sp c=true/\c≠40/\c≠41:=by
 have h:g="+"\/g="-"\/g="*"\/g="<"\/g="=":=by simpa [sgL] using h
 rcases h with rfl | rfl | rfl | rfl | rfl
 ·exact ⟨43,rfl,rfl,by decide,by decide⟩
 ·exact ⟨45,rfl,rfl,by decide,by decide⟩
 ·exact ⟨42,rfl,rfl,by decide,by decide⟩
 ·exact ⟨60,rfl,rfl,by decide,by decide⟩
 ·exact ⟨61,rfl,rfl,by decide,by decide⟩
theorem Jo {n:Int}(h:In n):∃ m:Nat,n=(m:Int)/\W (.num n)=(Nat.toDigits 10 m).map Char.toNat/\(W (.num n)).all dg=true/\1<=(W (.num n)).length/\(W (.num n)).length<=10/\ϓ (W (.num n))=m:=by
 obtain ⟨m,rfl⟩:=Int.eq_ofNat_of_zero_le h.1;have e:W (.num (m:Int))=(Nat.toDigits 10 m).map Char.toNat:=PySem.W.KIN.signs_num m;have hl:(W (.num (m:Int))).length<=10:=by have h2:((m:Int)) < 10 ^ 10:=Int.lt_of_lt_of_le h.2 (by decide);have:=PySem.W.KT.len_num h.1 h2;rw [yD] at this;exact this
 refine ⟨m,rfl,e,?_,?_,hl,?_⟩
 ·rw [e,Ρ];intro c hc;obtain ⟨ch,hch,rfl⟩:=aX.mp hc;have r:=PyProof.Rows.digit_range (Nat.isDigit_of_mem_toDigits (by decide) (by decide) hch);unfold dg;rw [decide_eq_true r.1,decide_eq_true r.2];rfl
 ·rw [e,ώ];exact PySem.toDigits_len_ge 10 m
 ·rw [e];exact PySem.W.KIN.val_back m
theorem zaU {p:Nat->Bool}:∀ {w r:List Nat},w.all p=true->(∀ c,r.head?=some c->p c=false)->(w++r).takeWhile p=w/\(w++r).dropWhile p=r
 | [],r,_,h=>by
  cases r with
  | nil=>exact ⟨rfl,rfl⟩
  | cons c r=>
   have hc:=h c rfl;exact ⟨by rw [bO,bI,hc];rfl,by rw [bO,eY,hc];rfl⟩
 | c::w,r,ha,h=>by have ha:(p c&&w.all p)=true:=ha;rw [γ] at ha;obtain ⟨i1,i2⟩:=zaU ha.2 h;exact ⟨by rw [List.cons_append,bI,ha.1,i1];rfl,by rw [List.cons_append,eY,ha.1,i2];rfl⟩
theorem ziu {w:List Nat}(h:w.all dg=true):w.all lf=true:=by rw [Ρ] at h ⊢;intro c hc;unfold lf;rw [h c hc,lw]
theorem zbV {s:Str}(h:Wd s):(cs s).all lt=true:=by rw [Ρ];intro c hc;have:=h.ab c hc;unfold lt;rw [decide_eq_true this.1,decide_eq_true this.2];rfl
theorem zh0 {w:List Nat}(h:w.all lt=true):w.all lf=true:=by rw [Ρ] at h ⊢;intro c hc;unfold lf;rw [h c hc,Bool.true_or]
theorem zfF {c:Nat}(h:lt c=true):dg c=false:=by unfold lt at h;rw [γ,decide_eq_true_eq,decide_eq_true_eq] at h;unfold dg;rw [decide_eq_false (show ¬ c<=57 by omega),bD]
theorem zdU {s:Str}(h:Wd s):∃ c l,cs s=c::l/\lt c=true:=by
 have h1:=h.lo;rw [yD] at h1;have ha:=zbV h;cases e:cs s with
 | nil=>rw [e] at h1;simp at h1
 | cons c l=>
  rw [e] at ha;exact ⟨c,l,rfl,(Ζ.mp ha).1⟩
theorem zgP {s:Str}(h:Wd s):fgD (cs s)=.str s:=by
 obtain ⟨c,l,e,hc⟩:=zdU h;have:fgB (cs s)=false:=by unfold fgB;rw [e,bL,zfF hc,aA,bD]
 unfold fgD;rw [this];show D.str (mk (cs s))=_
 rw [Q7]
theorem zfu {n:Int}(h:In n):fgD (W (.num n))=.int n:=by obtain ⟨m,rfl,_,h2,h3,h4,h5⟩:=Jo h;unfold fgD fgB;rw [h2,decide_eq_true h3,decide_eq_true h4,h5];rfl
theorem Ww {k:Nat}{e:Ex}(h:e.Ok k) (hl:∀ g a b,e≠.op g a b):(W e).all lf=true/\(∃ c l,W e=c::l)/\fgD (W e)=e.toD:=by
 cases e with
 | nm s=>
  have h:Wd s:=by cases k <;> exact h
  obtain ⟨c,l,e,_⟩:=zdU h;exact ⟨zh0 (zbV h),⟨c,l,e⟩,zgP h⟩
 | num n=>
  have h:In n:=by cases k <;> exact h
  obtain ⟨m,_,_,h2,h3,_⟩:=Jo h;refine ⟨ziu h2,?_,zfu h⟩;cases e:W (.num n) with
  | nil=>rw [e] at h3;simp at h3
  | cons c l=>exact ⟨c,l,rfl⟩
 | op g a b=>exact absurd rfl (hl g a b)
theorem Qf {k j:Nat}{e:Ex}{r:List Nat}(h:e.Ok j) (hl:∀ g a b,e≠.op g a b) (hr:∀ c,r.head?=some c->lf c=false):Rp k (W e++r)=some (e.toD,r):=by
 obtain ⟨h1,⟨c,l,h2⟩,h3⟩:=Ww h hl;have hc:lf c=true:=by rw [h2] at h1;exact (Ζ.mp h1).1
 have hh:(W e++r).head?≠some 40:=by
  rw [h2];intro z;have z:c=40:=by simpa using z
  rw [z] at hc;cases hc
 obtain ⟨t1,t2⟩:=zaU h1 hr;rw [Qd k hh,t1,t2,h3]
theorem ziB:∀ (k:Nat) (e:Ex) (r:List Nat),e.Ok k->(∀ c,r.head?=some c->lf c=false)->Rp k (W e++r)=some (e.toD,r):=by
 intro k
 induction k with
 | zero=>
  intro e r h hr;cases e with
  | op g a b=>exact h.elim
  | _=>exact Qf h (fun _ _ _ z=>by cases z) hr
 | succ k ih=>
  intro e r h hr;cases e with
  | op g a b=>
   obtain ⟨hg,ha,hb⟩:=h;obtain ⟨c,rfl,hc,_⟩:=zeq hg;have e1:W (.op (mk [c]) a b)++r=40::(W a++(c::(W b++(41::r)))):=by rw [W_op,yG];simp
   rw [e1,show Rp (k+1) (40::(W a++(c::(W b++(41::r)))))=_ from if_pos rfl];show (Rp k (W a++(c::(W b++(41::r))))).bind _=_
   rw [ih a _ ha fun z hz=>by cases hz;exact zg2 hc];show (Rp k (W b++(41::r))).map _=_
   rw [ih b _ hb fun z hz=>by cases hz;rfl];rfl
  | _=>exact Qf h (fun _ _ _ z=>by cases z) hr
theorem zgk:∀ (k:Nat) (e:Ex),e.Ok k->fmlD k e.toD=true:=by
 have leaf:∀ (k:Nat) (e:Ex),e.Ok k->(∀ g a b,e≠.op g a b)->(numD e.toD||ur e.toD)=true:=by
  intro k e h hl;cases e with
  | nm s=>
   have h:Wd s:=by cases k <;> exact h
   show (false||wdS s)=true
   rw [zaS.mpr h];rfl
  | num n=>
   have h:In n:=by cases k <;> exact h
   show ((decide (0<=n)&&decide (n < 1000000007))||false)=true
   rw [decide_eq_true h.1,decide_eq_true h.2];rfl
  | op g a b=>exact absurd rfl (hl g a b)
 intro k
 induction k with
 | zero=>
  intro e h;cases e with
  | op g a b=>exact h.elim
  | _=>exact leaf 0 _ h fun _ _ _ z=>by cases z
 | succ k ih=>
  intro e h;cases e with
  | op g a b=>
   obtain ⟨hg,ha,hb⟩:=h;show ((false||false)||(jR (.str g)&&(fmlD k a.toD&&fmlD k b.toD)))=true
   rw [ih a ha,ih b hb];have:jR (.str g)=true:=by
    refine aF.mpr ⟨.str g,aX.mpr ⟨g,hg,rfl⟩,?_⟩;show (g==g)=true
    exact beq_self_eq_true g
   rw [this];rfl
  | nm s=>
   have:=leaf (k+1) (.nm s) h fun _ _ _ z=>by cases z
   show ((numD (Ex.nm s).toD||ur (Ex.nm s).toD)||_)=true
   rw [this];rfl
  | num s=>
   have:=leaf (k+1) (.num s) h fun _ _ _ z=>by cases z
   show ((numD (Ex.num s).toD||ur (Ex.num s).toD)||_)=true
   rw [this];rfl
theorem qu:∀ {a b:Ex},a.toD=b.toD->a=b
 | .nm s,.nm t,h=>by cases h;rfl
 | .num s,.num t,h=>by cases h;rfl
 | .op g a b,.op g' a' b',h=>by
  have h:D.tup [.str g,a.toD,b.toD]=D.tup [.str g',a'.toD,b'.toD]:=h
  injection h with h
  injection h with h1 h
  injection h with h2 h
  injection h with h3 h
  injection h1 with h1
  rw [h1,qu h2,qu h3]
 | .nm _,.num _,h=>by cases h
 | .nm _,.op _ _ _,h=>by cases h
 | .num _,.nm _,h=>by cases h
 | .num _,.op _ _ _,h=>by cases h
 | .op _ _ _,.nm _,h=>by cases h
 | .op _ _ _,.num _,h=>by cases h
def Gd (t:Str):Prop:=∃ e:Ex,e.Ok 3/\wt e=t
theorem gd_R {t:Str}{e:Ex}(h:e.Ok 3) (ht:wt e=t):Rp 3 (cs t)=some (e.toD,[]):=by
 have:=ziB 3 e [] h fun c hc=>by cases hc
 rw [Ϝ] at this;rw [<- ht];exact this
section
variable {K r:Nat}{t:Str}{S:Store}
theorem e_mk {cf:Cf}{ρ:List Slot}{V:Po}{S:Store}{c:Str}{f:Nat}{es:List E}:wpE cf ρ (.mk c f es) V S=(wpEs cf ρ es (fun ds S1=>cf f (.ref S1.length::ds) (fun x S2=>isN x.1 (V (.ref S1.length,.st) S2)) (S1++[.ins c [] []])) S):=rfl
theorem JT (hr:S[r]?=some (.ins "Signs" [] [])) (hK:1<=K):yl F wh K 27 [.ref r,.str t] (fun x S'=>x=(.non,.st)/\S'=S.set r (ob t 0)) S:=by obtain ⟨K,hk,rfl⟩:=up hK;have hlt:r < S.length:=(ο.mp hr).1;refine ut ?_;refine zu ?_;dsimp only [wpC,zX,yj];refine zU rfl ?_;refine kp_s rfl ?_;refine zU rfl ?_;refine kp_s rfl ?_;refine xZ hr ?_;refine zJ rfl ?_;refine zB ?_;refine zu ?_;dsimp only [wpC,zX,yj];refine kp_s rfl ?_;refine zU rfl ?_;refine kp_s rfl ?_;refine xZ (Κ hlt) ?_;refine zJ rfl ?_;refine zB ?_;refine yW ?_;refine Ub ?_;refine ⟨rfl,?_⟩;rw [fZ];rfl
theorem WY (S:Store) (d:D):(S++[d])[S.length]?=some d:=by simp
theorem uX (S:Store) (a b:D):(S++[a]).set S.length b=S++[b]:=by simp
theorem zeN (ht:t.length<=300) (hK:12<=K):zg F wh K (fun c S'=>c=1/\¬ Gd t/\∃ o,S'=S++[o]) 8 [.str t] (fun x S'=>∃ e:Ex,e.Ok 3/\wt e=t/\x=(e.toD,.st)/\∃ o,S'=S++[o]) S:=by
 obtain ⟨K,hk,rfl⟩:=up hK;refine xQ ?_;nofun;rw [e_mk];dsimp only [wpEs,zX];refine zU rfl ?_;refine kp_s rfl ?_;refine wp_mono (JT (WY S _) (by omega)) ?_;rintro _ _ ⟨rfl,rfl⟩;rw [uX];refine z6 rfl ?_;dsimp only [ϱ];nofun;have hg:=WY S (ob t 0);refine (zM K) _ _ 9 _ _ _ _ ?_ ?_ (zcD 3 K 0 (cs t) _ (by omega) ht hg rfl)
 ·rintro c S' ⟨rfl,e1,i',rfl⟩;refine ⟨rfl,?_,ob t i',uX _ _ _⟩;rintro ⟨e,he,hw⟩;rw [gd_R he hw] at e1;cases e1
 rintro _ _ ⟨d,l,i,e1,rfl,rfl,_⟩;rw [uX];have hp:=(pl_R 3 e1 (by rw [<- yD];omega)).1;refine z6 (bind1 (ϝ rfl) (zc7 e1)) ?_;refine zB ?_;dsimp only [ϱ];nofun;refine (zhW hp (by omega)).go ?_;nofun;refine zE (fun h=>?_) (fun h=>?_)
 ·nofun;have h:fmlD 3 d=false:=by simpa using h
  refine ⟨rfl,?_,_,rfl⟩;rintro ⟨e,he,hw⟩;rw [gd_R he hw] at e1;cases e1;rw [zgk 3 e he] at h;cases h
 ·have h:fmlD 3 d=true:=by simpa using h
  obtain ⟨e,he,rfl⟩:=zgl 3 h;nofun;refine wp_mono (zbP 3 e (by omega) he K (by omega) _) ?_;rintro _ _ ⟨rfl,rfl⟩;nofun;refine zE (fun h2=>?_) (fun h2=>?_)
  ·nofun;have h2:(!(wt e==t))=true:=h2;refine ⟨rfl,?_,_,rfl⟩;rintro ⟨e',he',hw⟩;rw [gd_R he' hw] at e1;have e1:(e'.toD,([]:List Nat))=(e.toD,l):=Λ e1;have e2:e'.toD=e.toD:=congrArg Prod.fst e1;rw [<- qu e2,hw] at h2;simp at h2
  ·have h2:(!(wt e==t))=false:=h2;nofun;exact ⟨e,he,by simpa using h2,rfl,_,rfl⟩
end
noncomputable abbrev nonT:D:=.tup [.str "none",.non]
theorem lr_x {K:Nat}{d:D}{S:Store}{A:Store->Prop}{B:D->Store->Prop}(h:zg F wh K (fun c S'=>c=1/\A S') 8 [d] (fun x S'=>∃ y,x=(y,.st)/\wA y=false/\B y S') S):yl F wh (K+1) 21 [d] (fun x S'=>(x=(nonT,.st)/\A S')\/∃ y,x=(.tup [.str "read",y],.st)/\B y S') S:=by
 refine YW ?_;refine zu ?_;dsimp only [wpC,wpEs,zX];refine zU rfl ?_;refine kp_s rfl ?_;refine (zM K) _ _ 8 _ _ _ _ ?_ ?_ h
 ·rintro c S' ⟨rfl,hA⟩;refine zJ rfl ?_;refine zp (a:=true) rfl ?_;exact .inl ⟨rfl,hA⟩
 ·rintro _ S' ⟨y,rfl,hi,hB⟩;refine z6 (bind1 (ϝ rfl) hi) ?_;dsimp only [ϱ];nofun;exact .inr ⟨y,rfl,hB⟩
def LR (t:Str) (d:D):Prop:=(∃ e:Ex,e.Ok 3/\wt e=t/\d=.tup [.str "read",e.toD])\/(¬ Gd t/\d=nonT)
section
variable {K r:Nat}{t:Str}{S:Store}
theorem Q9 (ht:t.length<=300) (hK:13<=K):yl F wh K 21 [.str t] (fun x S'=>(∃ d,x=(d,.st)/\LR t d)/\∃ o,S'=S++[o]) S:=by
 obtain ⟨K,hk,rfl⟩:=up hK;refine wp_mono (lr_x (K:=K) (d:=.str t) (A:=fun S'=>¬ Gd t/\∃ o,S'=S++[o]) (B:=fun y S'=>(∃ e:Ex,e.Ok 3/\wt e=t/\y=e.toD)/\∃ o,S'=S++[o]) (wp_mono (zeN ht hk) ?_)) ?_
 ·rintro _ S' ⟨e,he,hw,rfl,ho⟩;exact ⟨_,rfl,zc6 e,⟨e,he,hw,rfl⟩,ho⟩
 ·rintro x S' (⟨rfl,hn,ho⟩ | ⟨y,rfl,⟨e,he,hw,rfl⟩,ho⟩)
  ·exact ⟨⟨_,rfl,.inr ⟨hn,rfl⟩⟩,ho⟩
  ·exact ⟨⟨_,rfl,.inl ⟨e,he,hw,rfl⟩⟩,ho⟩
theorem zh1 {d:D}(hd:isTy .str d=some false) (hr:∀ S,zF S d=d) (hK:2<=K):yl F wh K 21 [d] (fun x S'=>x=(nonT,.st)/\S'=S) S:=by
 obtain ⟨K,hk,rfl⟩:=up hK;obtain ⟨K,_,rfl⟩:=up hk;refine wp_mono (lr_x (K:=K+1) (d:=d) (A:=fun S'=>S'=S) (B:=fun y S'=>False) ?_) ?_
 ·refine xQ ?_;refine zu ?_;dsimp only [wpC,zao,e_bi,zX];refine zU rfl ?_;refine zr (d:=.bl false) ?_ ?_
  ·show (isTy .str (zF S d)).map _=_
   rw [hr,hd];rfl
  nofun;exact ⟨rfl,rfl⟩
 ·rintro x S' (⟨rfl,rfl⟩ | ⟨y,_,z⟩)
  ·exact ⟨rfl,rfl⟩
  ·exact z.elim
theorem Jf:∀ (k K i:Nat) (l:List Nat) (S:Store),k+2<=K->t.length<=9000->S[r]?=some (ob t i)->(cs t).drop i=Ι (k+1) 40++l->zg F wh K (fun c S'=>c=1/\∃ i',S'=S.set r (ob t i')) 9 [.ref r,.int k] (fun _ _=>False) S:=by
 intro k
 induction k with
 | zero=>
  intro K i l S hK ht hr hl;obtain ⟨K,hk,rfl⟩:=up hK;have hlt:r < S.length:=(ο.mp hr).1;refine xg ?_;refine zu ?_;dsimp only [wpC,xx,yj];refine xV rfl hr (by decide +kernel) ?_;refine (wz hr (by omega) (by omega)).go ?_;rw [hl];refine zp (a:=false) (by rfl) ?_;nofun;refine ⟨rfl,i,?_⟩
  symm
  apply cX;intro j;by_cases hj:r=j
  ·subst hj;rw [Κ hlt,hr]
  ·rw [υ hj]
 | succ k ih=>
  intro K i l S hK ht hr hl;obtain ⟨K,hk,rfl⟩:=up hK;have hlt:r < S.length:=(ο.mp hr).1;refine xg ?_;refine zu ?_;dsimp only [wpC,xx,yj];refine xV rfl hr (by decide +kernel) ?_;refine (wz hr (by omega) (by omega)).go ?_;rw [hl];refine zp (a:=false) (by rfl) ?_;nofun;refine wK (show ((((k+1:Nat):Int))==0)=false from beq_eq_false_iff_ne.mpr (by omega)) ?_;nofun;refine xV rfl hr (by decide +kernel) ?_;refine wp_mono (vf hr (by omega) (by omega)) ?_;rintro _ _ ⟨rfl,rfl⟩;nofun;rw [show ((k+1:Nat):Int) - 1=(k:Int) by omega];refine (zM K) _ _ 9 _ _ _ _ ?_ ?_ (ih K (i+1) l _ (by omega) ht (Κ hlt) (by rw [vJ,hl];rfl))
  ·rintro c S' ⟨rfl,i',rfl⟩;exact ⟨rfl,i',fZ ..⟩
  ·exact fun _ _ z=>z.elim
theorem zcX {l:List Nat}(hl:cs t=Ι 4 40++l) (ht:t.length<=9000) (hK:8<=K):yl F wh K 21 [.str t] (fun x S'=>x=(nonT,.st)/\∃ o,S'=S++[o]) S:=by
 obtain ⟨K,hk,rfl⟩:=up hK;obtain ⟨K,hk,rfl⟩:=up hk;refine wp_mono (lr_x (K:=K+1) (d:=.str t) (A:=fun S'=>∃ o,S'=S++[o]) (B:=fun y S'=>False) ?_) ?_
 ·refine xQ ?_;nofun;rw [e_mk];dsimp only [wpEs,zX];refine zU rfl ?_;refine kp_s rfl ?_;refine wp_mono (JT (WY S _) (by omega)) ?_;rintro _ _ ⟨rfl,rfl⟩;rw [uX];refine z6 rfl ?_;dsimp only [ϱ];nofun;refine (zM K) _ _ 9 _ _ _ _ ?_ ?_ (Jf 3 K 0 l _ (by omega) ht (WY S (ob t 0)) hl)
  ·rintro c S' ⟨rfl,i',rfl⟩;exact ⟨rfl,_,uX _ _ _⟩
  ·exact fun _ _ z=>z.elim
 ·rintro x S' (⟨rfl,ho⟩ | ⟨y,_,z⟩)
  ·exact ⟨rfl,ho⟩
  ·exact z.elim
end
noncomputable abbrev yes:Vl:=(.bl true,.st)
theorem ZL:∀ (l:List D) (x:D),x∈pairD l l->∃ d∈l,x=.tup [d,d]
 | [],x,h=>by cases h
 | d::l,x,h=>by
  rcases χ.mp (show x∈D.tup [d,d]::pairD l l from h) with rfl | h
  ·exact ⟨d,θ,rfl⟩
  ·obtain ⟨e,h1,h2⟩:=ZL l x h;exact ⟨e,η _ h1,h2⟩
section
variable {K:Nat}{S:Store}
theorem qG {l:List D}(hl:l.length<=10) (h:∀ d∈l,Is K 20 [d,d] yes S):Is (K+1) 20 [.tup l,.tup l] yes S:=by
 refine xj ?_;nofun;refine zbR ?_;dsimp only [wpI,zX];refine zU rfl ?_;refine kp_s rfl ?_;refine zU rfl ?_;refine kp_s rfl ?_;refine zp (a:=pairD l l) rfl ?_;have pl:(pairD l l).length<=10:=by rw [uE];omega
 refine Ze (fun _=>true) (pairD l l) [] (by simp;omega) (fun x hx Q hQ=>?_) ?_
 ·obtain ⟨d,hd,rfl⟩:=ZL l x hx;refine z6 (a:=[.sh d,.sh d]) rfl ?_;dsimp only [wpF,wpEs,WQ,zX];refine zJ rfl ?_;refine zU rfl ?_;refine kp_s rfl ?_;refine zU rfl ?_;refine kp_s rfl ?_;refine (h d hd).go ?_;refine kp_s rfl ?_;exact hQ
 ·refine zr (Qc _) ?_;have e:(([]:List Bool)++(pairD l l).map fun _=>true).all id=true:=by simp
  rw [e];nofun;exact ⟨rfl,rfl⟩
theorem same_str (s:Str) (hK:1<=K):Is K 20 [.str s,.str s] yes S:=by
 obtain ⟨K,hk,rfl⟩:=up hK;refine xj ?_;nofun;refine ⟨?_,rfl⟩;show (D.bl (s==s),Kd.st)=_
 rw [beq_self_eq_true]
theorem same_int (n:Int) (hK:1<=K):Is K 20 [.int n,.int n] yes S:=by
 obtain ⟨K,hk,rfl⟩:=up hK;refine xj ?_;nofun;refine ⟨?_,rfl⟩;show (D.bl (n==n),Kd.st)=_
 rw [beq_self_eq_true]
theorem Qw (hK:1<=K):Is K 20 [.non,.non] yes S:=by obtain ⟨K,hk,rfl⟩:=up hK;refine xj ?_;nofun;exact ⟨rfl,rfl⟩
theorem Ut:∀ (k:Nat) (e:Ex),e.Ok k->∀ K,k+2<=K->Is K 20 [e.toD,e.toD] yes S:=by
 intro k
 induction k with
 | zero=>
  intro e h K hK;cases e with
  | nm s=>exact same_str s (by omega)
  | num n=>exact same_int n (by omega)
  | op g a b=>exact h.elim
 | succ k ih=>
  intro e h K hK;obtain ⟨K,hk,rfl⟩:=up hK;cases e with
  | nm s=>exact same_str s (by omega)
  | num n=>exact same_int n (by omega)
  | op g a b=>
   refine qG (l:=[.str g,a.toD,b.toD]) (by show 3<=10;decide) fun d hd=>?_
   simp only [χ,Ϟ,or_false] at hd;rcases hd with rfl | rfl | rfl
   ·exact same_str g (by omega)
   ·exact ih a h.2.1 K (by omega)
   ·exact ih b h.2.2 K (by omega)
theorem Us {e:Ex}(h:e.Ok 3) (hK:6<=K):Is K 20 [.tup [.str "read",e.toD],.tup [.str "read",e.toD]] yes S:=by
 obtain ⟨K,hk,rfl⟩:=up hK;refine qG (by show 2<=10;decide) fun d hd=>?_
 simp only [χ,Ϟ,or_false] at hd;rcases hd with rfl | rfl
 ·exact same_str _ (by omega)
 ·exact Ut 3 e h K (by omega)
theorem same_none (hK:2<=K):Is K 20 [nonT,nonT] yes S:=by
 obtain ⟨K,hk,rfl⟩:=up hK;refine qG (by show 2<=10;decide) fun d hd=>?_
 simp only [χ,Ϟ,or_false] at hd;rcases hd with rfl | rfl
 ·exact same_str _ (by omega)
 ·exact Qw (by omega)
theorem Zj {t:Str}{d d':D}(h:LR t d) (h':LR t d') (hK:6<=K):Is K 20 [d,d'] yes S:=by
 rcases h with ⟨e,he,hw,rfl⟩ | ⟨hn,rfl⟩
 ·rcases h' with ⟨e',he',hw',rfl⟩ | ⟨hn',_⟩
  ·have:e.toD=e'.toD:=by have h1:=gd_R he hw;rw [gd_R he' hw'] at h1;exact (congrArg Prod.fst (Λ h1)).symm
   rw [qu this];exact Us he' hK
  ·exact absurd ⟨e,he,hw⟩ hn'
 ·rcases h' with ⟨e',he',hw',_⟩ | ⟨hn',rfl⟩
  ·exact absurd ⟨e',he',hw'⟩ hn
  ·exact same_none (by omega)
end
noncomputable def fl (w:List Nat):List (List Nat):=if w=[] then [] else [w]
noncomputable def tk:List Nat->List Nat->List (List Nat)
 | [],w=>fl w
 | c::l,w=>if sp c=true then fl w++[c]::tk l [] else tk l (w++[c])
noncomputable def gk:List Nat->List Nat->List (List Nat)
 | [],_=>[]
 | c::l,w=>if sp c=true then fl w++[c]::gk l [] else gk l (w++[c])
theorem zaj:∀ (l w:List Nat),gk (l++[40]) w=tk l w++[[40]]
 | [],w=>by show (if sp 40=true then fl w++[40]::gk [] [] else _)=_;rfl
 | c::l,w=>by
  show (if sp c=true then fl w++[c]::gk (l++[40]) [] else gk (l++[40]) (w++[c]))=(if sp c=true then fl w++[c]::tk l [] else tk l (w++[c]))++[[40]]
  split
  ·rw [zaj l []];simp
  ·rw [zaj l (w++[c])]
noncomputable def mks (l:List (List Nat)):List Str:=l.map mk
theorem uF (a:List (List Nat)) (w:List Nat):(mks a).map D.str++[D.str (mk w)]=(mks (a++[w])).map D.str:=by simp [mks]
theorem zfC (a b:List Nat):mk a++mk b=mk (a++b):=uV (by rw [uh,yG,yG,yG])
theorem WK:∀ (l w:List Nat),(gk l w).length<=2*l.length
 | [],w=>bF _
 | c::l,w=>by
  show (if sp c=true then fl w++[c]::gk l [] else gk l (w++[c])).length<=_
  have h1:=WK l [];have h2:=WK l (w++[c]);have h3:(fl w).length<=1:=by unfold fl;split <;> simp
  split
  ·simp only [Ο,ϊ];omega
  ·simp only [ϊ];omega
section
variable {K:Nat}{S:Store}{t:Str}
theorem zbZ (ht:t.length<=300) (hK:1<=K):Is K 22 [.str t] (LS (mks (tk (cs t) [])),.fr) S:=by
 obtain ⟨K,hk,rfl⟩:=up hK;have h1:t.length+("(":Str).length<=1000000:=by rw [show ("(":Str).length=1 from rfl];omega
 refine qj ?_;nofun;refine zr (zK h1) ?_;refine kp_s rfl ?_;have hlen:(cs t).length<=300:=by rw [<- yD];exact ht
 refine zp (a:=(cs t++[40]).map fun c=>D.str (mk [c])) ?_ ?_
 ·show some ((cs (t++"(")).map fun c=>D.str ⟨#[c]⟩)=_
  rw [uh];rfl
 refine wp_walk (fun l ρ S'=>S'=S/\∃ l' w acc s3,l=l'.map (fun c=>D.str (mk [c]))/\ρ=[.sh (.str t),.ow (LS (mks acc)),.sh (.str (mk w)),s3]/\gk (cs t++[40]) []=acc++gk l' w/\w.length+l'.length<=301/\acc.length<=602) ?_ ?_ _ _ _ ⟨rfl,cs t++[40],[],[],.no,rfl,rfl,rfl,by simp;omega,by simp⟩
 ·rintro d l ρ S' ⟨rfl,l',w,acc,s3,hl,rfl,hg,hw,ha⟩;cases l' with
  | nil=>cases hl
  | cons c l'=>
   cases hl;have hgl:=WK (cs t++[40]) [];have hgl2:(gk (cs t++[40]) []).length<=602:=by
    have:(cs t++[40]).length<=301:=by simp;omega
    omega
   have eg:gk (c::l') w=if sp c=true then fl w++[c]::gk l' [] else gk l' (w++[c]):=rfl
   have hw:w.length+(l'.length+1)<=301:=hw;nofun;refine zE (fun h=>?_) (fun h=>?_)
   ·have h:sp c=true:=(Λ (zc8 c)).symm.trans h;rw [eg,if_pos h] at hg;have hacc:acc.length+(fl w).length+1<=602:=by rw [hg] at hgl2;simp only [Ο,ϊ] at hgl2;omega
    nofun;by_cases hn:w=[]
    ·subst hn;refine wK (by rfl) ?_;nofun;refine zJ (fits_of (by simp [mks];omega)) ?_;nofun;refine ⟨rfl,l',[],acc++[[c]],.sh (.str (mk [c])),rfl,?_,?_,by simp;omega,by simp;omega⟩
     ·rw [uF];rfl
     ·rw [hg];simp [fl]
    ·refine zJ (show (!(mk w==mk []))=true by rw [Xc hn];rfl) ?_;have hf:fl w=[w]:=if_neg hn;rw [hf] at hacc hg;have hacc:acc.length+1+1<=602:=hacc;nofun;refine zJ (fits_of (by simp [mks];omega)) ?_;nofun;refine zJ (fits_of (by simp [mks];omega)) ?_;nofun;refine ⟨rfl,l',[],acc++[w,[c]],.sh (.str (mk [c])),rfl,?_,?_,by simp;omega,by simp;omega⟩
     ·rw [show acc++[w,[c]]=acc++[w]++[[c]] by simp,uF,uF];rfl
     ·rw [hg];simp
   ·have h:sp c=false:=(Λ (zc8 c)).symm.trans h;rw [eg,if_neg (by rw [h];exact Ν)] at hg;nofun;refine zr (zK (by rw [yL,yL];show w.length+1<=_;omega)) ?_;nofun;rw [zfC];exact ⟨rfl,l',w++[c],acc,.sh (.str (mk [c])),rfl,rfl,hg,by simp;omega,ha⟩
 ·rintro ρ S' ⟨rfl,l',w,acc,s3,hl,rfl,hg,hw,ha⟩;have e0:l'=[]:=eX.mp hl.symm;subst e0;have hg:gk (cs t++[40]) []=acc:=by rw [hg];exact Ϝ _
  rw [zaj] at hg;nofun;refine ⟨?_,rfl⟩;rw [<- hg,<- uF,zgB]
end
noncomputable def atE (w:List Nat):Option Ex:=
 if w.all lt=true then (if w.length < 9 then some (.nm (mk w)) else none)
 else if (w.take 11).all dg=true then (if ((ϓ (w.take 11):Nat):Int) < 1000000007/\ϸ (toString ((ϓ (w.take 11):Nat):Int))=mk w then some (.num ((ϓ (w.take 11):Nat):Int)) else none)
 else none
set_option tactic.hygienic true in
theorem sl11 (w:List Nat):bh (mk w) none (some 11)=mk (w.take 11):=by
 have h:=eq_of_beq (PyProof.Rows.slice_to_min_closes (x:=mk w) (n:=11) (m:=if ((mk w).length:Int) < 11 then ((mk w).length:Int) else 11) (by decide) rfl);rw [h];apply uV;show ((cs (mk w)).drop (0:Int).toNat).take _=_
 rw [yG,yG,yL];show (w.drop 0).take _=_
 rw [ir];split
 ·rename_i q
  rw [show ((w.length:Int) - 0).toNat=w.length by omega,b8 (Η _),b8 (by omega)]
 ·rfl
theorem zb7 {c:Nat}(h:dg c=true):mthD .sidx (.str "0123456789") [.str (mk [c])]=some (.int ((c - 48:Nat):Int),false):=by
 unfold dg at h;rw [γ,decide_eq_true_eq,decide_eq_true_eq] at h;have hc:c=48\/c=49\/c=50\/c=51\/c=52\/c=53\/c=54\/c=55\/c=56\/c=57:=by omega
 have key:∀ k:Nat,k < 10->(Φ "0123456789" (mk [48+k]) 0 ("0123456789":Str).length 1).head?=some k:=by decide +kernel
 have:=key (c - 48) (by omega);rw [show 48+(c - 48)=c by omega] at this;show (Φ "0123456789" (mk [c]) 0 ("0123456789":Str).length 1).head?.map (fun (i:Nat)=>(D.int (i:Int),false))=_
 rw [this];rfl
theorem zir:∀ (n:Nat) (a:List Nat),a.length=n->a.all dg=true->ϓ a < 10 ^ n:=by
 intro n
 induction n with
 | zero=>
  intro a h _;cases gM h;exact Nat.one_pos
 | succ n ih=>
  intro a h ha;obtain ⟨b,c,rfl⟩:∃ b c,a=b++[c]:=by
   rcases List.eq_nil_or_concat a with rfl | ⟨b,c,e⟩
   ·cases h
   ·exact ⟨b,c,by rw [e,List.concat_eq_append]⟩
  have hb:b.length=n:=by simpa using h
  rw [dM,γ] at ha;have hc:dg c=true:=by simpa using ha.2
  unfold dg at hc;rw [γ,decide_eq_true_eq,decide_eq_true_eq] at hc;have:=ih b hb ha.1;rw [iC,lC];omega
theorem zaD {K:Nat}{S:Store}{w:List Nat}{j:Int}{s2:EV.Slot}{V:Po}(h0:0<=j) (hv:j < 10 ^ 11) (q:V (.lst ((if j < 1000000007/\ϸ (toString j)=mk w then some (Ex.num j) else none).toList.map Ex.toD),.fr) S):
  wpCs (zg F wh K) noX wh [.ret (.slc (.lst [⇑1]) none (some (.bi .int [(.and (.cmp .Lt ⇑1 ↥1000000007) (.one (.cmp .Eq (.bi .str [⇑1]) ⇑0)))])))] [.sh (.str (mk w)),.sh (.int j),s2] (told V) S:=by
 have es:biD .str [.int j]=some (.str (ϸ (toString j)),false):=by
  show (if decide (j.natAbs.log2 < 1920)=true then some (D.str (toString j),false) else none)=_
  have hg:j.natAbs.log2 < 1920:=by
   by_cases hz:j.natAbs=0
   ·rw [hz];decide
   ·have:=(Nat.log2_lt (k:=37) hz).mpr (show j.natAbs < 2 ^ 37 by omega);omega
  rw [if_pos (decide_eq_true hg)]
 generalize hR:(if j < 1000000007/\ϸ (toString j)=mk w then some (Ex.num j) else none)=R at q;refine zu ?_;dsimp only [wpC,Kc,wpO,Xy,wpEs,zX,e_bi,zdl,xx,yj];refine zU rfl ?_;refine kp_s rfl ?_;refine zJ rfl ?_;refine zU rfl ?_;refine zp rfl ?_;refine yu rfl ?_;refine zE (fun h2=>?_) (fun h2=>?_)
 ·have h2:j < 1000000007:=of_decide_eq_true h2;dsimp only [Ke,xx,e_bi,zX];refine zU rfl ?_;refine zr es ?_;refine zU rfl ?_;refine zp rfl ?_;refine zr rfl ?_;refine yM rfl ?_;refine ZM rfl ?_;refine rv_f rfl ?_;refine to_f ?_;show V (D.lst (cutD [D.int j] none (some (if (ϸ (toString j)==mk w)=true then 1 else 0))),Kd.fr) S
  by_cases hq:ϸ (toString j)=mk w
  ·rw [if_pos (by rw [hq];exact beq_self_eq_true _)];rw [if_pos ⟨h2,hq⟩] at hR;subst hR;exact q
  ·rw [if_neg (by rw [beq_eq_false_iff_ne.mpr hq];exact Ν)];rw [if_neg fun z=>hq z.2] at hR;subst hR;exact q
 ·have h2:¬ j < 1000000007:=of_decide_eq_false h2;refine zr rfl ?_;refine yM rfl ?_;refine ZM rfl ?_;refine rv_f rfl ?_;refine to_f ?_;rw [if_neg fun z=>h2 z.1] at hR;subst hR;exact q
section
variable {K:Nat}{S:Store}{w:List Nat}
theorem zdD (hw:w.length<=400) (hK:1<=K):Is K 23 [.str (mk w)] (.lst ((atE w).toList.map Ex.toD),.fr) S:=by
 obtain ⟨K,hk,rfl⟩:=up hK;have el:biD .len [.str (mk w)]=some (.int w.length,false):=by
  show (if fits (mk w).length=true then some (D.int (mk w).length,false) else _)=_
  rw [yL,if_pos (fits_of (by omega))]
 refine YX ?_;refine zu ?_;dsimp only [wpC];refine allIn (f:=lt) rfl (by omega) (fun _ _ _ q=>by rw [yj];exact q) zga ?_;nofun;refine zE (fun h=>?_) (fun h=>?_)
 ·nofun;refine zr el ?_;nofun;refine ⟨?_,rfl⟩;unfold atE;rw [if_pos h];by_cases h9:w.length < 9
  ·rw [if_pos h9];show (D.lst (cutD [D.str (mk w)] none (some (if decide ((w.length:Int) < 9)=true then 1 else 0))),Kd.fr)=_
   rw [if_pos (decide_eq_true (by omega))];rfl
  ·rw [if_neg h9];show (D.lst (cutD [D.str (mk w)] none (some (if decide ((w.length:Int) < 9)=true then 1 else 0))),Kd.fr)=_
   rw [if_neg (by rw [decide_eq_false (by omega)];exact Ν)];rfl
 ·nofun;refine zr (d:=.str (mk (w.take 11))) ?_ ?_
  ·show (if fits (mk w).length=true then some (D.str (bh (mk w) none (some 11)),false) else none)=_
   rw [yL,if_pos (fits_of (by omega)),sl11]
  refine kp_s rfl ?_;refine zp (a:=(w.take 11).map fun c=>D.str (mk [c])) ?_ ?_
  ·show some ((cs (mk (w.take 11))).map fun c=>D.str ⟨#[c]⟩)=_
   rw [yG];rfl
  have e1:(w.take 11).all dg=false->atE w=none:=fun h2=>by unfold atE;rw [if_neg (by rw [h];exact Ν),if_neg (by rw [h2];exact Ν)]
  refine wp_walk (fun l ρ S'=>S'=S/\∃ a b s2,w.take 11=a++b/\l=b.map (fun c=>D.str (mk [c]))/\a.all dg=true/\ρ=[.sh (.str (mk w)),.sh (.int ((ϓ a:Nat):Int)),s2]) ?_ ?_ _ _ _ ⟨rfl,[],w.take 11,.no,rfl,rfl,rfl,rfl⟩
  ·rintro d l ρ S' ⟨rfl,a,b,s2,ea,hl,ha,rfl⟩;cases b with
   | nil=>cases hl
   | cons c b=>
    cases hl;nofun;refine zE (fun h2=>?_) (fun h2=>?_)
    ·have h2:(!(!(Φ "0123456789" (mk [c]) 0 ("0123456789":Str).length 1).isEmpty))=true:=h2;rw [show (!(Φ "0123456789" (mk [c]) 0 ("0123456789":Str).length 1).isEmpty)=dg c from Λ (zc9 c)] at h2;nofun;rw [e1 (by rw [ea,dM,bL];simp at h2;rw [h2];simp)];exact ⟨rfl,rfl⟩
    ·have h2:(!(!(Φ "0123456789" (mk [c]) 0 ("0123456789":Str).length 1).isEmpty))=false:=h2;rw [show (!(Φ "0123456789" (mk [c]) 0 ("0123456789":Str).length 1).isEmpty)=dg c from Λ (zc9 c)] at h2;have h2:dg c=true:=by simpa using h2
     nofun;refine zr (zb7 h2) ?_;nofun;refine ⟨rfl,a++[c],b,.sh (.str (mk [c])),by rw [ea];simp,rfl,by rw [dM,ha];simp [h2],?_⟩;rw [iC,show (10:Int)*((ϓ a:Nat):Int)+((c - 48:Nat):Int)=((ϓ a*10+(c - 48):Nat):Int) by omega]
  ·rintro ρ S' ⟨rfl,a,b,s2,ea,hl,ha,rfl⟩;have e0:b=[]:=eX.mp hl.symm;subst e0;rw [Ϝ] at ea;have hal:a.length<=11:=by rw [<- ea,aV];omega
   have hv:ϓ a < 10 ^ 11:=Ψ (zir a.length a rfl ha) (eF (by decide) hal);have e2:atE w=if ((ϓ a:Nat):Int) < 1000000007/\ϸ (toString ((ϓ a:Nat):Int))=mk w then some (.num ((ϓ a:Nat):Int)) else none:=by unfold atE;rw [if_neg (by rw [h];exact Ν),ea,if_pos ha]
   rw [e2];refine zB ?_;generalize hj:((ϓ a:Nat):Int)=j;exact zaD (by omega) (by omega) ⟨rfl,rfl⟩
end
noncomputable def dep:Ex->Nat
 | .op _ a b=>1+max (dep a) (dep b)
 | _=>0
inductive It where
 | s (c:Nat) | n (e:Ex)
noncomputable def It.toD:It->D
 | .s c=>.str (mk [c])
 | .n e=>.lst [e.toD,.int (dep e:Nat)]
noncomputable def It.tx:It->List Nat
 | .s c=>[c]
 | .n e=>W e
noncomputable def opc (c:Nat):Bool:=[43,45,42,60,61].contains c
noncomputable def red:List It->Option (List It)
 | .n b::.s g::.n a::.s p::r=>if p=40/\opc g=true then some (.n (.op (mk [g]) a b)::r) else none
 | _=>none
noncomputable def stp (st:List It) (w:List Nat):Option (List It):=match w with
 | [c]=>if sp c=true then (if c=41 then red st else some (.s c::st)) else (atE [c]).map fun e=>.n e::st
 | w=>(atE w).map fun e=>.n e::st
noncomputable def run:List (List Nat)->List It->Option (List It)
 | [],st=>some st
 | w::ws,st=>(stp st w).bind (run ws)
noncomputable def txs:List It->List Nat
 | []=>[]
 | x::r=>txs r++x.tx
def Gs (st:List It):Prop:=∀ e,It.n e∈st->e.Ok (dep e)
theorem wL:∀ {k j:Nat}{e:Ex},k<=j->e.Ok k->e.Ok j
 | k,j,.nm s,h,o=>by
  have o:Wd s:=by cases k <;> exact o
  cases j <;> exact o
 | k,j,.num n,h,o=>by
  have o:In n:=by cases k <;> exact o
  cases j <;> exact o
 | 0,_,.op _ _ _,_,o=>o.elim
 | k+1,0,.op _ _ _,h,_=>absurd h (by omega)
 | k+1,j+1,.op g a b,h,⟨o1,o2,o3⟩=>⟨o1,wL (by omega) o2,wL (by omega) o3⟩
theorem Kl:∀ {k:Nat}{e:Ex},e.Ok k->dep e<=k/\e.Ok (dep e)
 | k,.nm s,o=>⟨bF _,by cases k <;> exact o⟩
 | k,.num s,o=>⟨bF _,by cases k <;> exact o⟩
 | 0,.op _ _ _,o=>o.elim
 | k+1,.op g a b,⟨o1,o2,o3⟩=>by
  obtain ⟨h1,h2⟩:=Kl o2;obtain ⟨h3,h4⟩:=Kl o3;refine ⟨?_,?_⟩
  ·show 1+max (dep a) (dep b)<=k+1
   omega
  ·show Ex.Ok (1+max (dep a) (dep b)) (.op g a b)
   rw [Nat.add_comm];exact ⟨o1,wL (Nat.le_max_left ..) h2,wL (Nat.le_max_right ..) h4⟩
theorem zfe {c:Nat}(h:opc c=true):mk [c]∈sgL:=by
 have h:=Β.mp h;simp only [χ,Ϟ,or_false] at h;rcases h with rfl | rfl | rfl | rfl | rfl
 ·exact θ
 ·exact η _ θ
 ·exact η _ (η _ θ)
 ·exact η _ (η _ (η _ θ))
 ·exact η _ (η _ (η _ (η _ θ)))
set_option tactic.hygienic true in
theorem ziy {w:List Nat}{e:Ex}(h:atE w=some e) (hw:w≠[]):e.Ok (dep e)/\W e=w:=by
 unfold atE at h;split at h
 ·rename_i h1
  split at h
  ·cases h;refine ⟨⟨?_,?_,fun c hc=>?_⟩,yG w⟩
   ·rw [yL];cases w with
    | nil=>exact absurd rfl hw
    | cons _ _=>simp
   ·rw [yL];omega
   ·have hc:c∈w:=by rw [<- yG w];exact hc
    have:=Ρ.mp h1 c hc;unfold lt at this;rw [γ,decide_eq_true_eq,decide_eq_true_eq] at this;exact this
  ·cases h
 ·split at h
  ·split at h
   ·rename_i h1
    cases h;refine ⟨⟨by omega,h1.1⟩,?_⟩;show cs (ϸ (toString _))=w
    rw [h1.2,yG]
   ·cases h
  ·cases h
set_option tactic.hygienic true in
theorem Uz {st st':List It}(h:red st=some st'):∃ a b g r,st=.n b::.s g::.n a::.s 40::r/\opc g=true/\st'=.n (.op (mk [g]) a b)::r:=by
 unfold red at h;split at h
 ·split at h
  ·rename_i q
   cases h;obtain ⟨rfl,q⟩:=q;exact ⟨_,_,_,_,rfl,q,rfl⟩
  ·cases h
 ·cases h
set_option tactic.hygienic true in
theorem zaY {st st':List It}{w:List Nat}(hw:w≠[]) (h:stp st w=some st') (g:Gs st):Gs st'/\txs st'=txs st++w:=by
 have push:∀ {e:Ex},atE w=some e->Gs (.n e::st)/\txs (.n e::st)=txs st++w:=fun {e} he=>by
  obtain ⟨h1,h2⟩:=ziy he hw;refine ⟨fun z hz=>?_,?_⟩
  ·rcases χ.mp hz with e1 | e1
   ·cases e1;exact h1
   ·exact g z e1
  ·show txs st++W e=_
   rw [h2]
 have pushed:(atE w).map (fun e=>It.n e::st)=some st'->Gs st'/\txs st'=txs st++w:=fun q=>by obtain ⟨e,h1,h2⟩:=ι.mp q;subst h2;exact push h1
 unfold stp at h;split at h
 ·rename_i c
  split at h
  ·split at h
   ·rename_i h1 h2
    subst h2;obtain ⟨a,b,q,r,rfl,hq,rfl⟩:=Uz h;have ga:=g a (by simp);have gb:=g b (by simp);refine ⟨fun z hz=>?_,?_⟩
    ·rcases χ.mp hz with e1 | e1
     ·cases e1;show Ex.Ok (1+max (dep a) (dep b)) _
      rw [Nat.add_comm];exact ⟨zfe hq,wL (Nat.le_max_left ..) ga,wL (Nat.le_max_right ..) gb⟩
     ·exact g z (by simp [e1])
    ·show txs r++W (.op (mk [q]) a b)=(((txs r++[40])++W a)++[q])++W b++[41]
     rw [W_op,yG];simp
   ·cases h;refine ⟨fun z hz=>?_,rfl⟩;rcases χ.mp hz with e1 | e1
    ·cases e1
    ·exact g z e1
  ·exact pushed h
 ·exact pushed h
theorem za6:∀ (ws:List (List Nat)) {st st':List It},(∀ w∈ws,w≠[])->run ws st=some st'->Gs st->Gs st'/\txs st'=txs st++ws.flatten
 | [],st,st',_,h,g=>by cases h;exact ⟨g,by simp⟩
 | w::ws,st,st',hw,h,g=>by obtain ⟨s1,h1,h2⟩:=ζ.mp (show (stp st w).bind (run ws)=some st' from h);obtain ⟨g1,t1⟩:=zaY (hw w θ) h1 g;obtain ⟨g2,t2⟩:=za6 ws (fun z hz=>hw z (η _ hz)) h2 g1;exact ⟨g2,by rw [t2,t1];simp⟩
set_option tactic.hygienic true in
theorem qw:∀ (l w:List Nat),(tk l w).flatten=w++l
 | [],w=>by
  show (fl w).flatten=_
  unfold fl;split
  ·rename_i h;rw [h];rfl
  ·simp
 | c::l,w=>by
  show (if sp c=true then fl w++[c]::tk l [] else tk l (w++[c])).flatten=_
  have hf:(fl w).flatten=w:=by
   unfold fl;split
   ·rename_i h;rw [h];rfl
   ·simp
  split
  ·rw [List.flatten_append,hf,f9,qw l []];simp
  ·rw [qw l (w++[c])];simp
def TkOk (w:List Nat):Prop:=w≠[]/\((∃ c,w=[c]/\sp c=true)\/w.all (fun c=>!sp c)=true)
set_option tactic.hygienic true in
theorem zgn {w z:List Nat}(hw:w.all (fun c=>!sp c)=true) (hz:z∈fl w):TkOk z:=by
 unfold fl at hz;split at hz
 ·cases hz
 ·rename_i h
  cases Μ.mp hz;exact ⟨h,.inr hw⟩
set_option tactic.hygienic true in
theorem Qo:∀ (l w:List Nat),w.all (fun c=>!sp c)=true->∀ z∈tk l w,TkOk z
 | [],w,hw,z,hz=>zgn hw hz
 | c::l,w,hw,z,hz=>by
  have hz:z∈(if sp c=true then fl w++[c]::tk l [] else tk l (w++[c])):=hz;split at hz
  ·rename_i hc
   rcases bc.mp hz with h | h
   ·exact zgn hw h
   ·rcases χ.mp h with rfl | h
    ·exact ⟨by simp,.inl ⟨c,rfl,hc⟩⟩
    ·exact Qo l [] rfl z h
  ·rename_i hc
   exact Qo l (w++[c]) (by rw [dM,hw];simp [hc]) z hz
noncomputable def JB:List It->Option Ex
 | [.n e]=>if dep e<=3 then some e else none
 | _=>none
set_option tactic.hygienic true in
theorem zag {st:List It}{e:Ex}(h:JB st=some e):st=[.n e]/\dep e<=3:=by
 unfold JB at h;split at h
 ·split at h
  ·rename_i q
   cases h;exact ⟨rfl,q⟩
  ·cases h
 ·cases h
noncomputable def dueF (t:Str):Option Ex:=(run (tk (cs t) []) []).bind JB
theorem Kg {t:Str}{e:Ex}(h:dueF t=some e):e.Ok 3/\wt e=t:=by obtain ⟨st,hr,h⟩:=ζ.mp h;obtain ⟨rfl,hd⟩:=zag h;obtain ⟨g,tx⟩:=za6 _ (fun w hw=>(Qo _ [] rfl w hw).1) hr (fun _ z=>nomatch z);refine ⟨wL hd (g e θ),uV ?_⟩;rw [qw] at tx;have tx:[]++W e=[]++([]++cs t):=tx;exact tx
noncomputable def tkE:Ex->List (List Nat)
 | .op g a b=>[40]::(tkE a++(cs g::(tkE b++[[41]])))
 | e=>[W e]
theorem zbx {w:List Nat}(h:w.all lf=true):w.all (fun c=>!sp c)=true:=by rw [Ρ] at h ⊢;intro c hc;rw [zfH (h c hc)];rfl
theorem zaW:∀ (w r v:List Nat),w.all (fun c=>!sp c)=true->tk (w++r) v=tk r (v++w)
 | [],r,v,_=>by simp
 | c::w,r,v,h=>by
  have h:((!sp c)&&w.all fun c=>!sp c)=true:=h;rw [γ] at h;show (if sp c=true then fl v++[c]::tk (w++r) [] else tk (w++r) (v++[c]))=_
  rw [if_neg (by have:=h.1;simp at this;rw [this];exact Ν),zaW w r (v++[c]) h.2];simp
theorem zb0 {w r:List Nat}(h:w.all lf=true) (hn:w≠[]) (hr:∀ c,r.head?=some c->sp c=true):tk (w++r) []=w::tk r []:=by
 rw [zaW w r [] (zbx h),bO];have hf:fl w=[w]:=if_neg hn;cases r with
 | nil=>show fl w=w::fl [];rw [hf];rfl
 | cons c r=>
  have hc:=hr c rfl;show (if sp c=true then fl w++[c]::tk r [] else _)=w::(if sp c=true then fl []++[c]::tk r [] else _)
  rw [if_pos hc,if_pos hc,hf];rfl
theorem tk_E:∀ (k:Nat) (e:Ex) (r:List Nat),e.Ok k->(∀ c,r.head?=some c->sp c=true)->tk (W e++r) []=tkE e++tk r []:=by
 have leaf:∀ (k:Nat) (e:Ex) (r:List Nat),e.Ok k->(∀ g a b,e≠.op g a b)->(∀ c,r.head?=some c->sp c=true)->tk (W e++r) []=tkE e++tk r []:=by
  intro k e r h hl hr;obtain ⟨h1,⟨c,l,h2⟩,_⟩:=Ww h hl;have ht:tkE e=[W e]:=by
   cases e with
   | op g a b=>exact absurd rfl (hl g a b)
   | _=>rfl
  rw [zb0 h1 (by rw [h2];simp) hr,ht];rfl
 intro k
 induction k with
 | zero=>
  intro e r h hr;cases e with
  | op g a b=>exact h.elim
  | _=>exact leaf 0 _ r h (fun _ _ _ z=>by cases z) hr
 | succ k ih=>
  intro e r h hr;cases e with
  | op g a b=>
   obtain ⟨hg,ha,hb⟩:=h;obtain ⟨c,rfl,hc,_⟩:=zeq hg;have e1:W (.op (mk [c]) a b)++r=40::(W a++(c::(W b++(41::r)))):=by rw [W_op,yG];simp
   have hd:∀ (x:Nat) (l:List Nat),sp x=true->tk (x::l) []=[x]::tk l []:=fun x l hx=>by
    show (if sp x=true then fl []++[x]::tk l [] else _)=_
    rw [if_pos hx];rfl
   rw [e1,hd 40 _ rfl,ih a _ ha (fun z hz=>by cases hz;exact hc),hd c _ hc,ih b _ hb (fun z hz=>by cases hz;rfl),hd 41 _ rfl];show _=([40]::(tkE a++(cs (mk [c])::(tkE b++[[41]]))))++tk r []
   rw [yG];simp
  | _=>exact leaf (k+1) _ r h (fun _ _ _ z=>by cases z) hr
theorem zdE {k:Nat}{e:Ex}(h:e.Ok k) (hl:∀ g a b,e≠.op g a b):atE (W e)=some e:=by
 cases e with
 | nm s=>
  have h:Wd s:=by cases k <;> exact h
  have h2:=h.hi;rw [yD] at h2;unfold atE;rw [if_pos (show (W (.nm s)).all lt=true from zbV h),if_pos (show (W (.nm s)).length < 9 from mj h2 (by decide))];show some (Ex.nm (mk (cs s)))=_
  rw [Q7]
 | num n=>
  have h:In n:=by cases k <;> exact h
  obtain ⟨m,rfl,_,h2,h3,h4,h5⟩:=Jo h;have hd:(W (.num (m:Int))).all lt=false:=by
   cases e:W (.num (m:Int)) with
   | nil=>rw [e] at h3;simp at h3
   | cons c l=>
    rw [e] at h2;have hc:dg c=true:=(Ζ.mp h2).1;have:lt c=false:=by rw [aP];intro z;rw [zfF z] at hc;cases hc
    rw [bL,this,aA]
  unfold atE;rw [if_neg (by rw [hd];exact Ν),b8 (by omega),if_pos h2,h5,if_pos ⟨h.2,uV (by rw [yG];rfl)⟩]
 | op g a b=>exact absurd rfl (hl g a b)
set_option tactic.hygienic true in
theorem X8 {st:List It}{w:List Nat}(h:w.all (fun c=>!sp c)=true):stp st w=(atE w).map fun e=>.n e::st:=by
 unfold stp;split
 ·rename_i c
  have:sp c=false:=by simpa using h
  rw [if_neg (by rw [this];exact Ν)]
 ·rfl
theorem zhJ:∀ (k:Nat) (e:Ex) (ws:List (List Nat)) (st:List It),e.Ok k->run (tkE e++ws) st=run ws (.n e::st):=by
 have leaf:∀ (k:Nat) (e:Ex) (ws:List (List Nat)) (st:List It),e.Ok k->(∀ g a b,e≠.op g a b)->run (tkE e++ws) st=run ws (.n e::st):=by
  intro k e ws st h hl;obtain ⟨h1,_,_⟩:=Ww h hl;have ht:tkE e=[W e]:=by
   cases e with
   | op g a b=>exact absurd rfl (hl g a b)
   | _=>rfl
  rw [ht];show (stp st (W e)).bind (run ws)=_
  rw [X8 (zbx h1),zdE h hl];rfl
 intro k
 induction k with
 | zero=>
  intro e ws st h;cases e with
  | op g a b=>exact h.elim
  | _=>exact leaf 0 _ ws st h fun _ _ _ z=>by cases z
 | succ k ih=>
  intro e ws st h;cases e with
  | op g a b=>
   obtain ⟨hg,ha,hb⟩:=h;have hop:∃ c,g=mk [c]/\opc c=true/\sp c=true/\c≠41:=by
    have h:g="+"\/g="-"\/g="*"\/g="<"\/g="=":=by simpa [sgL] using hg
    rcases h with rfl | rfl | rfl | rfl | rfl
    ·exact ⟨43,rfl,rfl,rfl,by decide⟩
    ·exact ⟨45,rfl,rfl,rfl,by decide⟩
    ·exact ⟨42,rfl,rfl,rfl,by decide⟩
    ·exact ⟨60,rfl,rfl,rfl,by decide⟩
    ·exact ⟨61,rfl,rfl,rfl,by decide⟩
   obtain ⟨c,rfl,ho,hc,h41⟩:=hop;have push:∀ (x:Nat) (s:List It),sp x=true->x≠41->stp s [x]=some (.s x::s):=fun x s hx h4=>by
    show (if sp x=true then (if x=41 then red s else some (.s x::s)) else _)=_
    rw [if_pos hx,if_neg h4]
   have e1:tkE (.op (mk [c]) a b)++ws=[40]::(tkE a++([c]::(tkE b++([41]::ws)))):=by
    show ([40]::(tkE a++(cs (mk [c])::(tkE b++[[41]]))))++ws=_
    rw [yG];simp
   rw [e1];show (stp st [40]).bind (run (tkE a++([c]::(tkE b++([41]::ws)))))=_
   rw [push 40 st rfl (by decide)];show run (tkE a++([c]::(tkE b++([41]::ws)))) (.s 40::st)=_
   rw [ih a _ _ ha];show (stp (.n a::.s 40::st) [c]).bind (run (tkE b++([41]::ws)))=_
   rw [push c _ hc h41];show run (tkE b++([41]::ws)) (.s c::.n a::.s 40::st)=_
   rw [ih b _ _ hb];show (stp (.n b::.s c::.n a::.s 40::st) [41]).bind (run ws)=_
   have:stp (.n b::.s c::.n a::.s 40::st) [41]=some (.n (.op (mk [c]) a b)::st):=by have hr:red (.n b::.s c::.n a::.s 40::st)=some (.n (.op (mk [c]) a b)::st):=if_pos ⟨rfl,ho⟩;rw [<- hr];rfl
   rw [this];rfl
  | _=>exact leaf (k+1) _ ws st h fun _ _ _ z=>by cases z
theorem zaq {t:Str}{e:Ex}(h:e.Ok 3) (ht:wt e=t):dueF t=some e:=by
 have h1:=tk_E 3 e [] h fun c hc=>by cases hc
 rw [Ϝ] at h1;have h2:=zhJ 3 e [] [] h;unfold dueF;rw [<- ht,show cs (wt e)=W e from rfl,h1,show tk [] []=[] from rfl,h2];show (if dep e<=3 then some e else none)=_
 rw [if_pos (Kl h).1]
theorem ixm {a b:List D}{j:Nat}{x:D}(h1:1<=j) (h2:j<=b.length) (h:b[b.length - j]?=some x):subD (.lst (a++b)) (.int (-(j:Int)))=some x:=by
 show ((ixN (a++b).length (-(j:Int))).bind fun k=>(a++b)[k]?)=_
 unfold ixN;rw [if_neg (by omega),if_pos (by rw [Ο];omega)];show (a++b)[(-(j:Int)+((a++b).length:Nat)).toNat]?=_
 have e:(-(j:Int)+((a++b).length:Nat)).toNat=a.length+(b.length - j):=by rw [Ο];omega
 rw [e,ϒ (by omega),Nat.add_sub_cancel_left];exact h
theorem cut5 {a b:List D}(h:b.length=5):cutD (a++b) none (some (-5))=a:=by
 unfold cutD;rw [HT.Wc];have:HT.sIx (a++b).length (a++b).length (some (-5))=a.length:=by
  show (if (-5:Int) < 0 then ((-5:Int)+((a++b).length:Int)).toNat else min (-5:Int).toNat (a++b).length)=_
  rw [if_pos (by decide),Ο,h];omega
 rw [this,ir,Nat.sub_zero,List.take_append_of_le_length (Η _),List.take_length]
theorem ziA:∀ (e:Ex),e.Ok (dep e)->4*dep e+1<=(W e).length:=by
 have key:∀ (k:Nat) (e:Ex),e.Ok k->4*dep e+1<=(W e).length:=by
  have leaf:∀ (k:Nat) (e:Ex),e.Ok k->(∀ g a b,e≠.op g a b)->4*dep e+1<=(W e).length:=by
   intro k e h hl;obtain ⟨_,⟨c,l,h2⟩,_⟩:=Ww h hl;have hd:dep e=0:=by
    cases e with
    | op g a b=>exact absurd rfl (hl g a b)
    | _=>rfl
   rw [hd,h2];simp
  intro k
  induction k with
  | zero=>
   intro e h;cases e with
   | op g a b=>exact h.elim
   | _=>exact leaf 0 _ h fun _ _ _ z=>by cases z
  | succ k ih=>
   intro e h;cases e with
   | op g a b=>
    have h1:=ih a h.2.1;have h2:=ih b h.2.2;rw [W_op];show 4*(1+max (dep a) (dep b))+1<=_
    have h3:=Zw h.1;rw [yD] at h3;simp only [ϊ,Ο,cH];omega
   | _=>exact leaf (k+1) _ h fun _ _ _ z=>by cases z
 exact fun e h=>key (dep e) e h
theorem Wo:∀ (n:Nat) (e:Ex),dep e<=n->okP n e.toD=true
 | n,.nm s,_=>by cases n <;> rfl
 | n,.num s,_=>by cases n <;> rfl
 | 0,.op g a b,h=>absurd (show 1+max (dep a) (dep b)<=0 from h) (by omega)
 | n+1,.op g a b,h=>by
  have h:1+max (dep a) (dep b)<=n+1:=h;show (okP n (.str g)&&(okP n a.toD&&(okP n b.toD&&true)))=true
  rw [Wo n a (by omega),Wo n b (by omega)];cases n <;> rfl
theorem zfr {x:It}(h:∀ e,x=.n e->dep e<=58):okP 60 x.toD=true:=by
 cases x with
 | s c=>rfl
 | n e=>
  show (okP 59 e.toD&&(okP 59 (.int (dep e:Nat))&&true))=true
  rw [Wo 59 e (by have:=h e rfl;omega)];rfl
noncomputable abbrev hd (st:List It):List D:=st.reverse.map It.toD
theorem Xr (x:It) (st:List It):hd (x::st)=hd st++[x.toD]:=by simp [hd]
theorem zaT:∀ {st:List It}{e:Ex},It.n e∈st->(W e).length<=(txs st).length
 | x::r,e,h=>by
  show _<=(txs r++x.tx).length
  rw [Ο];rcases χ.mp h with e1 | e1
  ·subst e1;exact Nat.le_add_left _ _
  ·exact ϕ (zaT e1) (Nat.le_add_right _ _)
noncomputable def opL:List Nat:=[43,45,42,60,61]
theorem zfd:biD .list [.str "+-*<="]=some (.lst (opL.map fun c=>D.str (mk [c])),true):=rfl
theorem zcQ (g:Nat):cmpD .NotIn (.str (mk [g])) (.lst (opL.map fun c=>D.str (mk [c])))=some (!opc g):=by
 show (memD (opL.map fun c=>D.str (mk [c])) (.str (mk [g]))).map (!·)=_
 have e:memD (opL.map fun c=>D.str (mk [c])) (.str (mk [g]))=some ((opL.map fun c=>D.str (mk [c])).any fun y=>eqP y (.str (mk [g]))):=rfl;rw [e];have:((opL.map fun c=>D.str (mk [c])).any fun y=>eqP y (.str (mk [g])))=opc g:=by
  rw [List.any_map,cI,aF];unfold opc;rw [Β];constructor
  ·rintro ⟨c,hc,e⟩;have e:mk [c]=mk [g]:=eq_of_beq e;have:=zbr e;cases this;exact hc
  ·intro h;exact ⟨g,h,(by show (mk [g]==mk [g])=true;exact beq_self_eq_true _)⟩
 rw [this];rfl
theorem zcR (d:List D):cmpD .NotIn (.lst d) (.lst (opL.map fun c=>D.str (mk [c])))=some true:=rfl
noncomputable abbrev bR:List C:=[.ite (.or (.cmp .Lt (.bi .len [⇑1]) ↥5) (.or (.cmp .NotEq (.sub ⇑1 (.neg ↥5)) ↥"(") (.one (.cmp .NotIn (.sub ⇑1 (.neg ↥3)) (.bi .list [↥"+-*<="]))))) [.ret (.tup [↥"none",(.con .non)])] [],.sw2 4 5 (.sub ⇑1 (.neg ↥4)) (.sub ⇑1 (.neg ↥2)),.ite (.or (.not (.bi (.isinst .list) [⇑4])) (.one (.not (.bi (.isinst .list) [⇑5])))) [.ret (.tup [↥"none",(.con .non)])] [],.set (.one 1) (.bin .Add (.slc ⇑1 none (some (.neg ↥5))) (.lst [(.lst [(.tup [(.sub ⇑1 (.neg ↥3)),(.sub ⇑4 ↥0),(.sub ⇑5 ↥0)]),(.bin .Add ↥1 (.bi .max2 [(.sub ⇑4 ↥1),(.sub ⇑5 ↥1)]))])]))]
theorem zfD (a b:Nat):biD .max2 [.int (a:Int),.int (b:Int)]=some (.int ((max a b:Nat):Int),false):=by
 show (some (if (b:Int) > (a:Int) then (b:Int) else (a:Int))).map (fun k=>(D.int k,false))=_
 have:(if (b:Int) > (a:Int) then (b:Int) else (a:Int))=((max a b:Nat):Int):=by split <;> omega
 rw [this];rfl
theorem uZ {st:List It}(h:∀ a b g r,st=.n b::.s g::.n a::.s 40::r->opc g=true->False):red st=none:=by
 cases e:red st with
 | none=>rfl
 | some st'=>
  obtain ⟨a,b,g,r,h1,h2,_⟩:=Uz e;exact (h a b g r h1 h2).elim
section
variable {K:Nat}{S:Store}{t:Str}{G:Ko}{s3 s4 s5:EV.Slot}{d2:D}
theorem zeO {st:List It}(hl:st.length<=900) (ho:∀ x∈st,okP 60 x.toD=true) (no:red st=none->G (.ret nonT false) S)
  (go:∀ st' s4 s5,red st=some st'->G (.next [.sh (.str t),.ow (.lst (hd st')),.sh d2,s3,s4,s5]) S):
  wpCs (zg F wh K) noX wh bR [.sh (.str t),.ow (.lst (hd st++[.str (mk [41])])),.sh d2,s3,s4,s5] G S:=by
 have el:∀ l:List D,biD .len [.lst l]=some (.int l.length,false):=fun l=>rfl
 refine zu ?_;dsimp only [wpC,e_or,xx,e_bi,zX,yj];refine vm rfl ?_;refine zr (el _) ?_;refine zp rfl ?_;refine yu rfl ?_;by_cases h4:st.length < 4
 ·refine zJ (decide_eq_true (by simp [hd];omega)) ?_;have hr:red st=none:=uZ fun a b g r e _=>by subst e;simp at h4;omega
  nofun;exact no hr
 obtain ⟨x1,x2,x3,x4,r,rfl⟩:∃ x1 x2 x3 x4 r,st=x1::x2::x3::x4::r:=by
  match st,h4 with
  | [],h=>exact absurd (by simp) h
  | [_],h=>exact absurd (by simp) h
  | [_,_],h=>exact absurd (by simp) h
  | [_,_,_],h=>exact absurd (by simp) h
  | a::b::c::d::r,_=>exact ⟨a,b,c,d,r,rfl⟩
 refine wK (decide_eq_false (by simp [hd];omega)) ?_;have hh:hd (x1::x2::x3::x4::r)++[D.str (mk [41])]=hd r++[x4.toD,x3.toD,x2.toD,x1.toD,.str (mk [41])]:=by simp [hd]
 rw [hh];have i5:subD (.lst (hd r++[x4.toD,x3.toD,x2.toD,x1.toD,.str (mk [41])])) (.int (-5))=some x4.toD:=ixm (j:=5) (by decide) (by show 5<=5;decide) rfl;have i4:subD (.lst (hd r++[x4.toD,x3.toD,x2.toD,x1.toD,.str (mk [41])])) (.int (-4))=some x3.toD:=ixm (j:=4) (by decide) (by show 4<=5;decide) rfl;have i3:subD (.lst (hd r++[x4.toD,x3.toD,x2.toD,x1.toD,.str (mk [41])])) (.int (-3))=some x2.toD:=ixm (j:=3) (by decide) (by show 3<=5;decide) rfl;have i2:subD (.lst (hd r++[x4.toD,x3.toD,x2.toD,x1.toD,.str (mk [41])])) (.int (-2))=some x1.toD:=ixm (j:=2) (by decide) (by show 2<=5;decide) rfl;dsimp only [e_or,xx,Zd,Kf,zX,yj];refine vm rfl ?_;refine yM rfl ?_;refine zp i5 ?_;have dn:zF S x4.toD=x4.toD:=by cases x4 <;> rfl
 have d3:zF S x3.toD=x3.toD:=by cases x3 <;> rfl
 have d1:zF S x1.toD=x1.toD:=by cases x1 <;> rfl
 have d22:zF S x2.toD=x2.toD:=by cases x2 <;> rfl
 refine zp (a:=!eqP x4.toD (.str "(")) (by
  show cmpD .NotEq (zF S x4.toD) (.str "(")=_
  rw [dn]
  exact zfx (ho x4 (by simp)) rfl) ?_
 refine yu rfl ?_;have bad:∀ {ρ:List EV.Slot},red (x1::x2::x3::x4::r)=none->wpCs (zg F wh K) noX wh [.ret (.tup [↥"none",(.con .non)])] ρ (nxt (fun ρ' S'=>wpCs (zg F wh K) noX wh bR.tail ρ' G S') G) S:=fun {ρ} hr=>by refine zu ?_;dsimp only [wpC,zan,wpEs,yj];refine kp_s rfl ?_;refine kp_s rfl ?_;refine zJ rfl ?_;exact no hr
 have bad2:∀ {ρ:List EV.Slot},red (x1::x2::x3::x4::r)=none->wpCs (zg F wh K) noX wh [.ret (.tup [↥"none",(.con .non)])] ρ (nxt (fun ρ' S'=>wpCs (zg F wh K) noX wh bR.tail.tail.tail ρ' G S') G) S:=fun {ρ} hr=>by refine zu ?_;dsimp only [wpC,zan,wpEs,yj];refine kp_s rfl ?_;refine kp_s rfl ?_;refine zJ rfl ?_;exact no hr
 cases x4 with
 | n e=>
  refine zJ rfl ?_;refine yu rfl ?_;refine zJ rfl ?_;exact bad (uZ fun _ _ _ _ z _=>nomatch z)
 | s p=>
 have ep:eqP (It.s p).toD (.str "(")=decide (p=40):=by
  show (mk [p]==mk [40])=_
  by_cases hp:p=40
  ·subst hp;simp
  ·rw [Xc (by simpa using hp),decide_eq_false hp]
 rw [ep];by_cases hp:p=40
 ·subst hp;refine wK rfl ?_;dsimp only [Ke,xx,Zd,Kf,e_bi,zX,yj];refine vm rfl ?_;refine yM rfl ?_;refine zp i3 ?_;refine ZM zfd ?_;cases x2 with
  | n e=>
   refine zp (zcR _) ?_;refine yu rfl ?_;refine zJ rfl ?_;exact bad (uZ fun _ _ _ _ z _=>nomatch z)
  | s g=>
  refine zp (zcQ g) ?_;refine yu rfl ?_;cases hg:opc g with
  | false=>
   refine zJ rfl ?_
   exact bad (uZ fun _ _ _ _ z h=>by
    injection z with _ z
    injection z with z _
    injection z with z
    rw [<- z,hg] at h
    cases h)
  | true=>
  refine wK rfl ?_;refine yW ?_;refine zB ?_;refine zu ?_;dsimp only [wpC,Zd,Kf,zX,yj];refine vm rfl ?_;refine yM rfl ?_;refine zp i4 ?_;refine kp_s rfl ?_;refine vm rfl ?_;refine yM rfl ?_;refine zp i2 ?_;refine kp_s rfl ?_;refine z6 rfl ?_;refine zB ?_;simp only [List.foldl,List.zip,List.zipWith,ϱ];refine zu ?_;dsimp only [wpC,e_or,zao,e_bi,zX];refine zU rfl ?_;cases x3 with
  | s c=>
   refine zr rfl ?_;refine yu rfl ?_;refine yu rfl ?_;refine zJ rfl ?_;refine yu rfl ?_;refine zJ rfl ?_;exact bad2 (uZ fun _ _ _ _ z _=>nomatch z)
  | n a=>
  refine zr rfl ?_;refine yu rfl ?_;refine yu rfl ?_;refine wK rfl ?_;dsimp only [Ke,zao,e_bi,zX];refine zU rfl ?_;cases x1 with
  | s c=>
   refine zr rfl ?_;refine yu rfl ?_;refine yu rfl ?_;refine zJ rfl ?_;exact bad2 (uZ fun _ _ _ _ z _=>nomatch z)
  | n b=>
  refine zr rfl ?_;refine yu rfl ?_;refine yu rfl ?_;refine wK rfl ?_;refine yW ?_;refine zB ?_;refine zu ?_;dsimp only [wpC,Xz,Kc,wpO,Kf,yj,Xy,wpEs,zan,Zd,zX,zgr];refine vm rfl ?_;refine yM rfl ?_;refine yM rfl ?_;refine ZM (d:=.lst (hd r)) (show some (D.lst (cutD (hd r++[(It.s 40).toD,(It.n a).toD,(It.s g).toD,(It.n b).toD,.str (mk [41])]) none (some (-5))),true)=_ by rw [cut5 (by rfl)]) ?_;refine vm rfl ?_;refine yM rfl ?_;refine zp i3 ?_;refine kp_s rfl ?_;refine zU rfl ?_;refine zp (a:=a.toD) rfl ?_;refine kp_s rfl ?_;refine zU rfl ?_;refine zp (a:=b.toD) rfl ?_;refine kp_s rfl ?_;refine zJ rfl ?_;refine kp_s rfl ?_;refine zU rfl ?_;refine zp (a:=.int (dep a:Nat)) rfl ?_;refine kp_s rfl ?_;refine zU rfl ?_;refine zp (a:=.int (dep b:Nat)) rfl ?_;refine kp_s rfl ?_;refine zr (zfD _ _) ?_;refine zr (d:=.int ((1+max (dep a) (dep b):Nat):Int)) (show some (D.int (1+((max (dep a) (dep b):Nat):Int)),false)=_ by rw [Int.natCast_add];rfl) ?_;refine kp_s rfl ?_;refine zJ rfl ?_;refine kp_f rfl ?_;refine zJ rfl ?_;have hrl:(hd r).length<=900:=by have:r.length+1+1+1+1<=900:=hl;simp [hd];omega
  refine ZM (XQ (by show (hd r).length+1<=_;omega)) ?_;refine z6 rfl ?_;refine zB ?_;refine yW ?_;have:=go (.n (.op (mk [g]) a b)::r) (.sh (It.n a).toD) (.sh (It.n b).toD) (if_pos ⟨rfl,hg⟩);rw [Xr] at this;exact this
 ·rw [decide_eq_false hp];refine zJ rfl ?_;refine yu rfl ?_;refine zJ rfl ?_
  exact bad (uZ fun _ _ _ _ z _=>by
   injection z with _ z
   injection z with _ z
   injection z with _ z
   injection z with z _
   injection z with z
   exact hp z)
end
noncomputable def resD:Option Ex->D
 | some e=>.tup [.str "read",e.toD]
 | none=>nonT
noncomputable def dueD (t:Str):D:=resD (dueF t)
theorem zgK {w:List Nat}{e:Ex}(h:atE w=some e):dep e=0/\wA e.toD=false:=by
 unfold atE at h;split at h
 ·split at h
  ·cases h;exact ⟨rfl,rfl⟩
  ·cases h
 ·split at h
  ·split at h
   ·cases h;exact ⟨rfl,rfl⟩
   ·cases h
  ·cases h
theorem zbT {w:List Nat}(hn:w≠[]) (h:w.all (fun c=>!sp c)=true):inD (.str (mk w)) (.str "()+-*<=")=some false:=by
 cases w with
 | nil=>exact absurd rfl hn
 | cons c l=>
  refine zh7 (c:=c) (by rw [yG];exact θ) ?_;have:sp c=false:=by have:=(Ζ.mp h).1;simpa using this
  rw [zel];intro z;rw [show sp c=true from Β.mpr z] at this;cases this
theorem zd8 (l:List Nat):(tk l []).length<=2*l.length+1:=by have h1:=WK (l++[40]) [];rw [zaj] at h1;simp only [Ο,ϊ,cH] at h1;omega
section
variable {K:Nat}{S:Store}{t:Str}
theorem zgt (ht:t.length<=230) (hK:2<=K):Is K 24 [.str t] (dueD t,.st) S:=by
  obtain ⟨K,hk,rfl⟩:=up hK;have hlen:(cs t).length<=230:=by rw [<- yD];exact ht
  have hno:run (tk (cs t) []) []=none->dueD t=nonT:=fun h=>by unfold dueD dueF;rw [h];rfl
  refine W8 ?_;nofun;refine (zbZ (by omega) (by omega)).go ?_;refine kp_f rfl ?_;refine zp (a:=(tk (cs t) []).map fun w=>D.str (mk w)) (show some ((mks (tk (cs t) [])).map D.str)=_ by simp [mks]) ?_;have tl:=zd8 (cs t);refine wp_walk (fun l ρ S'=>S'=S/\∃ ws st s2 s3 s4 s5,l=ws.map (fun w=>D.str (mk w))/\ρ=[.sh (.str t),.ow (.lst (hd st)),s2,s3,s4,s5]/\run (tk (cs t) []) []=run ws st/\Gs st/\txs st++ws.flatten=cs t/\(∀ w∈ws,TkOk w)/\st.length+ws.length<=461) ?_ ?_ _ _ _ ⟨rfl,tk (cs t) [],[],.no,.no,.no,.no,rfl,rfl,rfl,(fun _ z=>nomatch z),(by rw [qw];rfl),Qo _ [] rfl,by simp;omega⟩
  · rintro d l ρ S' ⟨rfl,ws,st,s2,s3,s4,s5,hl,rfl,hr,hg,htx,hw,hs⟩;cases ws with
    | nil=>cases hl
    | cons w ws=>
      cases hl;have hs:st.length+(ws.length+1)<=461:=hs;have hr:run (tk (cs t) []) []=(stp st w).bind (run ws):=hr;obtain ⟨hwn,hwc⟩:=hw w θ;have hwl:w.length<=230:=by
        have:(txs st++(w::ws).flatten).length<=230:=by rw [htx];exact hlen
        simp at this;omega
      have hws:∀ z∈ws,TkOk z:=fun z hz=>hw z (η _ hz)
      have next:∀ {st':List It},stp st w=some st'->run (tk (cs t) []) []=run ws st'/\Gs st'/\txs st'++ws.flatten=cs t:=fun {st'} h=>by obtain ⟨g1,t1⟩:=zaY hwn h hg;refine ⟨by rw [hr,h];rfl,g1,?_⟩;rw [t1,<- htx];simp
      have fail:stp st w=none->(dueD t,Kd.st)=(nonT,Kd.st):=fun h=>by rw [hno (by rw [hr,h];rfl)]
      have hok:∀ x∈st,okP 60 x.toD=true:=fun x hx=>zfr fun e he=>by
        subst he;have h1:=ziA e (hg e hx);have h2:=zaT hx;have h3:(txs st).length<=230:=by
          have:(txs st++(w::ws).flatten).length<=230:=by rw [htx];exact hlen
          rw [Ο] at this;omega
        omega
      refine z6 rfl ?_;dsimp only [ϱ,ϣ,if_false];refine zu ?_;dsimp only [wpC,xx,zX,yj];refine zU rfl ?_;rcases hwc with ⟨c,rfl,hc⟩ | hwc
      · refine zp (zc8 c) ?_;refine yu rfl ?_;rw [hc];refine zJ rfl ?_;refine zu ?_;dsimp only [wpC,zX];refine Wm rfl ?_;refine zU rfl ?_;refine kp_s rfl ?_;refine zJ (fits_of (by simp [hd];omega)) ?_;refine zB ?_;refine yW ?_;refine zB ?_;dsimp only [ϱ];refine zu ?_;dsimp only [wpC,xx,zX,yj];refine zU rfl ?_
        refine zp (a:=decide (c=41)) (by
          show some (mk [c]==mk [41])=_
          by_cases h:c=41
          · subst h;simp
          · rw [Xc (by simpa using h),decide_eq_false h]) ?_
        refine yu rfl ?_;by_cases h41:c=41
        · subst h41;refine zJ rfl ?_;have es:stp st [41]=red st:=rfl;refine zeO (by omega) hok (fun h=>?_) (fun st' s4 s5 h=>?_)
          · exact ⟨(fail (es.trans h)).symm,rfl⟩
          · refine zB ?_;refine yW ?_;obtain ⟨n1,n2,n3⟩:=next (es.trans h);have:st'.length<=st.length:=by
              obtain ⟨a,b,g,r,rfl,_,rfl⟩:=Uz h;show r.length+1<=r.length+1+1+1+1
              omega
            exact ⟨rfl,ws,st',_,_,_,_,rfl,rfl,n1,n2,n3,hws,by omega⟩
        · refine wK (decide_eq_false h41) ?_;refine yW ?_;refine zB ?_;refine yW ?_;have es:stp st [c]=some (.s c::st):=by
            show (if sp c=true then (if c=41 then red st else some (.s c::st)) else _)=_
            rw [if_pos hc,if_neg h41]
          obtain ⟨n1,n2,n3⟩:=next es;exact ⟨rfl,ws,.s c::st,_,_,_,_,rfl,by rw [Xr];rfl,n1,n2,n3,hws,by simp;omega⟩
      · refine zp (zbT hwn hwc) ?_;refine yu rfl ?_;refine wK rfl ?_;refine zu ?_;dsimp only [wpC,WQ,wpEs,zX];refine zU rfl ?_;refine kp_s rfl ?_;refine (zdD (by omega) (by omega)).go ?_;refine z6 rfl ?_;refine zB ?_;dsimp only [ϱ,ϣ,if_false,if_true];refine zu ?_;dsimp only [wpC,xx,zX,Xy,wpEs];refine vm rfl ?_;refine zJ rfl ?_;have es:=X8 (st:=st) hwc;cases ha:atE w with
        | none=>
          refine zp (a:=true) rfl ?_;nofun;exact ⟨(fail (by rw [es,ha];rfl)).symm,rfl⟩
        | some e=>
          obtain ⟨hd0,hi0⟩:=zgK ha;have n41:(mk w==mk [41])=false:=Xc fun z=>by rw [z] at hwc;cases hwc
          refine zp (a:=false) (show eqD (.lst [e.toD]) (.lst [])=_ by
            have ho:okP 60 (.lst [e.toD])=true:=by
              show (okP 59 e.toD&&true)=true
              rw [Wo 59 e (by omega)];rfl
            exact zgo ho rfl) ?_
          refine yu rfl ?_;refine wK rfl ?_;refine yW ?_;refine zB ?_;refine zu ?_;dsimp only [wpC,Xy,wpEs,Zd,zX,yj];refine Wm rfl ?_;refine vm rfl ?_;refine zp (a:=e.toD) rfl ?_;refine kp_s rfl ?_;refine kp_s rfl ?_;refine zJ rfl ?_;refine kp_f rfl ?_;refine zJ (fits_of (by simp [hd];omega)) ?_;refine zB ?_;refine yW ?_;refine zB ?_;dsimp only [ϱ];refine zu ?_;dsimp only [wpC,xx,zX,yj];refine zU rfl ?_;refine zp (a:=false) (show some (mk w==mk [41])=_ by rw [n41]) ?_;refine yu rfl ?_;refine wK rfl ?_;refine yW ?_;refine zB ?_;refine yW ?_;obtain ⟨n1,n2,n3⟩:=next (st':=.n e::st) (by rw [es,ha];rfl);have eh:hd (.n e::st)=hd st++[.lst [e.toD,.int 0]]:=by
            rw [Xr];show _++[D.lst [e.toD,.int (dep e:Nat)]]=_
            rw [hd0];rfl
          exact ⟨rfl,ws,.n e::st,.sh (.str (mk w)),.ow (.lst [e.toD]),s4,s5,rfl,by rw [eh];rfl,n1,n2,n3,hws,by simp;omega⟩
  · rintro ρ S' ⟨rfl,ws,st,s2,s3,s4,s5,hl,rfl,hr,hg,htx,hw,hs⟩;have e0:ws=[]:=eX.mp hl.symm;subst e0;have hr:run (tk (cs t) []) []=some st:=hr;have ed:dueD t=resD (JB st):=by unfold dueD dueF;rw [hr];rfl
    rw [ed];refine zB ?_;cases st with
    | nil=>nofun;exact ⟨rfl,rfl⟩
    | cons x st=>
      cases st with
      | cons y st=>
        have hz:(hd (x::y::st)).length≠1:=by simp [hd]
        have em:JB (x::y::st)=none:=by cases x <;> rfl
        rw [em];refine zu ?_;dsimp only [wpC,e_or,xx,e_bi,zX,yj];refine vm rfl ?_;refine zr rfl ?_;refine zp rfl ?_;refine yu rfl ?_;refine zJ (show (!(((hd (x::y::st)).length:Int)==1))=true by rw [beq_eq_false_iff_ne.mpr (by omega)];rfl) ?_;nofun;exact ⟨rfl,rfl⟩
      | nil=>
        cases x with
        | s c=>nofun;exact ⟨rfl,rfl⟩
        | n e=>
          have hn:∀ b,decide (((dep e:Nat):Int) > 3)=b->b=!decide (dep e<=3):=fun b h=>by
            rw [<- h];by_cases q:dep e<=3
            · rw [decide_eq_true q,decide_eq_false (by omega)];rfl
            · rw [decide_eq_false q,decide_eq_true (by omega)];rfl
          show wpCs _ _ _ _ [_,EV.Slot.ow (.lst [.lst [e.toD,.int (dep e:Nat)]]),_,_,_,_] _ _
          generalize hj:((dep e:Nat):Int)=j at hn ⊢;nofun;refine wK rfl ?_;nofun;refine zE (fun h=>?_) (fun h=>?_)
          · have h:=hn true h;have h:¬ dep e<=3:=by intro z;rw [decide_eq_true z] at h;cases h
            nofun;refine ⟨?_,rfl⟩;show _=(resD (if dep e<=3 then some e else none),Kd.st)
            rw [if_neg h];rfl
          · have h:=hn false h;have h:dep e<=3:=by
              by_cases z:dep e<=3
              · exact z
              · rw [decide_eq_false z] at h;cases h
            nofun;refine ⟨?_,rfl⟩;show _=(resD (if dep e<=3 then some e else none),Kd.st)
            rw [if_pos h];rfl
theorem zgu (t:Str):LR t (dueD t):=by
 unfold dueD;cases e:dueF t with
 | some x=>
  obtain ⟨h1,h2⟩:=Kg e;exact .inl ⟨x,h1,h2,rfl⟩
 | none=>
  refine .inr ⟨?_,rfl⟩;rintro ⟨x,h1,h2⟩;rw [zaq h1 h2] at e;cases e
end
theorem zbQ:∀ {k:Nat}{e:Ex},e.Ok k->(wt e).length+3<=23*2 ^ k
 | k,.nm s,h=>by
  have h:Wd s:=by cases k <;> exact h
  have:=h.hi;have:1<=2 ^ k:=eE (by decide);show s.length+3<=_
  omega
 | k,.num n,h=>by
  have h:In n:=by cases k <;> exact h
  have:=Jm h;have:1<=2 ^ k:=eE (by decide);show (ϸ (toString n)).length+3<=_
  omega
 | 0,.op _ _ _,h=>h.elim
 | k+1,.op g a b,h=>by
  have h1:=Zw h.1;have h2:=zbQ h.2.1;have h3:=zbQ h.2.2;have h5:2 ^ (k+1)=2*2 ^ k:=by rw [lC];omega
  show ("("++wt a++g++wt b++")":Str).length+3<=_
  rw [μ,μ,μ,μ];have e1:("(":Str).length=1:=by decide +kernel
  have e2:(")":Str).length=1:=by decide +kernel
  omega
theorem zaR {e:Ex}(h:e.Ok 3):(wt e).length<=181:=by have:=zbQ h;omega
theorem zaX {x:Str}{i:Int}(h0:0<=i) (h1:i < x.length) (hx:x.length<=1000):∃ s:Str,subD (.str x) (.int i)=some (.str s)/\s.length=1:=by
 have hl:i.toNat < x.cps.toList.length:=by have:x.length=x.cps.toList.length:=yD x;omega
 refine ⟨⟨#[x.cps.toList[i.toNat]]⟩,?_,rfl⟩;show (if fits x.length=true then (ixN x.cps.toList.length i).bind fun k=>(x.cps.toList[k]?).map fun c=>D.str ⟨#[c]⟩ else none)=_
 rw [if_pos (fits_of (by omega))];unfold ixN;rw [if_pos h0,if_pos (by omega)];show (x.cps.toList[i.toNat]?).map _=_
 rw [ψ hl];rfl
noncomputable abbrev sA:Str:=" !\"#$&'()*+,-./0123456789:;<=>?@ABCDEFGHIJKLMNOPQRSTUVWXYZ[\\]^_`"
noncomputable abbrev sB:Str:="abcdefghijklmnopqrstuvwxyz{|}~\n"
section
variable {K:Nat}{S:Store}
theorem zgL {n:Int}(hK:1<=K):Sm K 18 [.int n] (fun x=>∃ s:Str,x=(.str s,.st)/\s.length=1) S:=by
 obtain ⟨K,hk,rfl⟩:=up hK;refine uT ?_;have h0:0<=n % 95:=aO _ (by decide);have h1:n % 95 < 95:=ao _ (by decide);have el:(sA++sB).length=95:=by decide +kernel
 obtain ⟨s,e,hs⟩:=zaX (x:=sA++sB) h0 (by rw [el];exact h1) (by rw [el];decide);generalize hj:n % 95=j at *;refine zu ?_;dsimp only [wpC,yj];refine z6 rfl ?_;refine zB ?_;refine zu ?_;dsimp only [wpC,Zd,Xz,zX,yj,ϱ,ϣ,if_false];refine zU rfl ?_;refine zr (zK (by rw [<- μ];rw [el];decide)) ?_;refine zU rfl ?_;refine zr (d:=.int (n % 95)) rfl ?_;rw [hj];refine zp e ?_;nofun;exact ⟨⟨s,rfl,hs⟩,rfl⟩
end
theorem X5 {cf:Cf}{ρ:List Slot}:∀ (ws:List Str) {W:List D->Store->Prop}{S:Store},W (ws.map D.str) S->wpEs cf ρ (ws.map fun w=>E.con (.str w)) W S
 | [],_,_,h=>h
 | w::ws,W,S,h=>by
  show wpE cf ρ (.con (.str w)) (fun x S1=>keep x fun d=>wpEs cf ρ (ws.map fun w=>E.con (.str w)) (fun ds S2=>W (d::ds) S2) S1) S
  rw [yj];exact kp_s rfl (X5 ws h)
theorem Jv {cf:Cf}{ρ:List Slot}{V:Po}{S:Store}(ws:List Str) (hf:ws.length<=900) (q:V (LS ws,.fr) S):wpE cf ρ (.lst (ws.map fun w=>E.con (.str w))) V S:=by rw [Xy];exact X5 ws (zJ (fits_of (by rw [ώ];omega)) q)
theorem v6 {cx:Xp->Cf}{ex:Xp}{w:Nat}{cs:List C}{G:Ko}{S:Store}{s0 s1 s2 s3 s4:EV.Slot}{ws1:List Str}(ws2:List Str) (h1:ws1.length<=400) (h2:ws2.length<=100) (q:wpCs cx ex w cs [s0,s1,s2,s3,s4,.ow (LS (ws1++ws2))] G S):
  wpCs cx ex w (.set (.one 5) (.bin .Add ⇑5 (.lst (ws2.map fun w=>E.con (.str w))))::cs) [s0,s1,s2,s3,s4,.ow (LS ws1)] G S:=by refine zu ?_;dsimp only [wpC,Xz,zX];refine vm rfl ?_;refine Jv ws2 (by omega) ?_;refine ZM (XQ (by rw [ώ,ώ];omega)) ?_;refine z6 rfl ?_;refine zB ?_;dsimp only [ϱ,if_true];rw [<- dI];exact q
theorem Ve {x:Str}{lo hi:Option Int}(h:x.length<=1000):slcD (.str x) lo hi=some (.str (bh x lo hi),false):=by
 show (if fits x.length=true then some (D.str (bh x lo hi),false) else none)=_
 rw [if_pos (fits_of (by omega))]
theorem zfJ {x:Str}(h:x.length<=1000):biD .len [.str x]=some (.int x.length,false):=by
 show (if fits x.length=true then some (D.int x.length,false) else _)=_
 rw [if_pos (fits_of (by omega))]
theorem cuts {t:Str}{j:Int}(h0:0<=j) (h1:j<=t.length):(bh t none (some j)).length+(bh t (some (j+1)) none).length<=t.length/\(bh t none (some j)).length+(bh t (some j) none).length<=t.length:=by
 have a:=(PyProof.Rows.fact_slice_ns t j).1 h0 h1;have b:=(fu t j).1 h0 h1;have c:=fu t (j+1);refine ⟨?_,by omega⟩;by_cases h:j+1<=t.length
 ·have:=c.1 (by omega) h;omega
 ·have:=c.2 (by omega);omega
noncomputable def L1:List Str:=["","()","(1)","(1+2","1+2","((1+2)","(1+2)+3","(1+2))","((1+2))","(1+)","(+1)"]
noncomputable def L2':List Str:=["(+)","1000000006","1000000007","9999999999","10000000000","00","01","-1"]
noncomputable def L3:List Str:=["+1","0","-0","007"]
noncomputable def L4:List Str:=["abcdefgh","abcdefghi","A","a1","1a","(1 + 2)","(1+2) "," 1","1\n"]
noncomputable def L5:List Str:=["a\n","(a=b=c)","(1==1)","(1<=2)","(a b)","a b","a=","=","(((1+1)+1)+1)"]
noncomputable def L6:List Str:=["((((1+1)+1)+1)+1)"]
noncomputable def L7:List Str:=["(1+(1+(1+1)))","(1+(1+(1+(1+1))))",")","(",")(","(a-b)(c-d)","1.0","1_0"]
noncomputable def Ls:List Str:=L1++L2'++L3++L4++L5++L6++L7
theorem zaQ:∀ s∈Ls,s.length<=20:=by decide +kernel
theorem zer {j:Int}:∃ s:Str,subD (.str "+-*<=") (.int (j % 5))=some (.str s)/\s.length=1:=by refine zaX (x:="+-*<=") (aO _ (by decide)) ?_ (by decide +kernel);rw [show (("+-*<=":Str).length:Int)=5 by decide +kernel];exact ao _ (by decide)
section
variable {K:Nat}{ns:List Int}{a m:Int}{T:Store}{t:Str}
def SpP (ns:List Int) (T:Store) (q:Vl) (S:Store):Prop:=∃ (s:Str) (a' m':Int),q=(.str s,.st)/\s.length<=230/\xF a' m'/\S=pK ns a' m'::T
theorem Uk (p:xF a m) (ht:t.length<=181) (hK:3<=K):yl F wh K 25 [.ref 0,.str t] (SpP ns T) (pK ns a m::T):=by
 obtain ⟨K,hk,rfl⟩:=up hK;refine ql ?_;nofun;refine wp_mono (zT (by decide) (by omega) p) ?_;rintro _ _ ⟨w,a1,m1,rfl,w0,w1,p1,rfl⟩;nofun;refine zr (zfJ (by omega)) ?_;nofun;refine wp_mono (zT (by omega) (by omega) p1) ?_;rintro _ _ ⟨j,a2,m2,rfl,j0,j1,p2,rfl⟩;nofun;refine wp_mono (zT (by decide) (by omega) p2) ?_;rintro _ _ ⟨v,a3,m3,rfl,v0,v1,p3,rfl⟩;nofun;refine (zgL (by omega)).go ?_;rintro _ ⟨g,rfl,hg⟩;have j1:j<=t.length:=by omega
 obtain ⟨c1,c2⟩:=cuts j0 j1;obtain ⟨z,ez,hz⟩:=zer (j:=j);have l1:("(":Str).length=1:=by decide +kernel
 have l2:("x)":Str).length=2:=by decide +kernel
 have l3:("(0":Str).length=2:=by decide +kernel
 have l4:(")":Str).length=1:=by decide +kernel
 have fin:∀ (s:Str),s.length<=230->SpP ns T (.str s,.st) (pK ns a3 m3::T):=fun s hs=>⟨s,a3,m3,rfl,hs,p3,rfl⟩
 nofun;refine zE (fun h=>?_) (fun h=>?_)
 ·nofun;refine zr (Ve (by omega)) ?_;nofun;refine zr (zK (by omega)) ?_;nofun;refine zr (Ve (by omega)) ?_;refine zr (zK (by rw [μ];omega)) ?_;nofun;exact fin _ (by rw [μ,μ];omega)
 nofun;refine zE (fun h=>?_) (fun h=>?_)
 ·nofun;refine zr (Ve (by omega)) ?_;nofun;refine zr (Ve (by omega)) ?_;refine zr (zK (by omega)) ?_;nofun;exact fin _ (by rw [μ];omega)
 nofun;refine zE (fun h=>?_) (fun h=>?_)
 ·nofun;refine zr (Ve (by omega)) ?_;nofun;refine zr (zK (by omega)) ?_;nofun;refine zr (Ve (by omega)) ?_;refine zr (zK (by rw [μ];omega)) ?_;nofun;exact fin _ (by rw [μ,μ];omega)
 nofun;refine zE (fun h=>?_) (fun h=>?_)
 ·nofun;refine zr (zK (by omega)) ?_;nofun;refine zp ez ?_;refine zr (zK (by rw [μ];omega)) ?_;nofun;refine zr (zK (by rw [μ,μ];omega)) ?_;nofun;exact fin _ (by rw [μ,μ,μ];omega)
 nofun;refine zE (fun h=>?_) (fun h=>?_)
 ·nofun;refine zp ez ?_;refine zr (zK (by omega)) ?_;nofun;refine zr (zK (by rw [μ];omega)) ?_;nofun;refine zr (zK (by rw [μ,μ];omega)) ?_;nofun;exact fin _ (by rw [μ,μ,μ];omega)
 nofun;refine zE (fun h=>?_) (fun h=>?_)
 ·refine zu ?_;dsimp only [wpC];refine Jv L1 (by decide) ?_;refine z6 rfl ?_;refine zB ?_;dsimp only [ϱ,if_true];refine v6 L2' (by decide) (by decide) ?_;refine v6 L3 (by decide) (by decide) ?_;refine v6 L4 (by decide) (by decide) ?_;refine v6 L5 (by decide) (by decide) ?_;refine v6 L6 (by decide) (by decide) ?_;refine v6 L7 (by decide) (by decide) ?_;show wpCs _ _ _ _ [_,_,_,_,_,EV.Slot.ow (LS Ls)] _ _
  have el:biD .len [LS Ls]=some (.int 50,false):=by kernel_rfl
  have e50:(Ls.map D.str).length=50:=by kernel_rfl
  have hsh:=zaQ;generalize Ls=ls at *;refine zu ?_;dsimp only [wpC,Zd,WQ,wpEs,zX,e_bi];refine vm rfl ?_;refine zU rfl ?_;refine kp_s rfl ?_;refine vm rfl ?_;refine zr el ?_;refine kp_s rfl ?_;refine wp_mono (zT (by decide) (by omega) p3) ?_;rintro _ _ ⟨u,a4,m4,rfl,u0,u1,p4,rfl⟩;obtain ⟨s,hs,es⟩:=Uh (ws:=ls) u0 (by rw [e50];exact u1);refine zp es ?_;nofun;exact ⟨s,a4,m4,rfl,by have:=hsh s hs;omega,p4,rfl⟩
 ·nofun;exact fin t (by omega)
end
theorem Ux (x:Str) (n:Nat):cs ⟨(Ι n x.cps).foldl (·++·) #[]⟩=(Ι n (cs x)).flatten:=by
 have go:∀ (n:Nat) (a:Array Nat),((Ι n x.cps).foldl (·++·) a).toList=a.toList++(Ι n (cs x)).flatten:=by
  intro n
  induction n with
  | zero=>intro a;simp
  | succ n ih=>
   intro a;show ((Ι n x.cps).foldl (·++·) (a++x.cps)).toList=_
   rw [ih (a++x.cps)];simp [eV]
 have:=go n #[];simpa using this
theorem rep1 (c n:Nat):(Ι n [c]).flatten=Ι n c:=by
 induction n with
 | zero=>rfl
 | succ n ih=>rw [eV,f9,ih];rfl
theorem Uw (l:List Nat) (n:Nat):(Ι n l).flatten.length=n*l.length:=by
 induction n with
 | zero=>simp
 | succ n ih=>rw [eV,f9,Ο,ih,Nat.succ_mul];omega
noncomputable def rp (x:Str) (n:Int):Str:=⟨(Ι n.toNat x.cps).foldl (·++·) #[]⟩
theorem za7 (x:Str) (n:Int):(rp x n).length=n.toNat*x.length:=by
 rw [yD];show (cs ⟨_⟩).length=_
 rw [Ux,Uw,<- yD]
theorem mul_str {x:Str}{n:Int}(h1:2<=n) (h2:n<=3000) (h3:(x.length==0)=false) (h4:x.length<=3):opD .Mult (.str x) (.int n)=some (.str (rp x n),false):=by
 show (if (decide (2<=n)&&decide (n < 2 ^ 20)&&!(x.length==0)&&fits (x.length*n.toNat))=true then _ else _)=_
 have:x.length*n.toNat<=3*3000:=Nat.mul_le_mul h4 (by omega);rw [decide_eq_true h1,decide_eq_true (by omega),h3,fits_of (by omega)];rfl
theorem great {n:Int}(h1:4<=n) (h2:n<=2001):∃ g:Str,subD (.lst [.str (rp "(" n),.str (rp "(" n++"1"++rp "+1)" n)]) (.int (n % 2))=some (.str g)/\(∃ l,cs g=Ι 4 40++l)/\g.length<=9000:=by
 have e1:cs (rp "(" n)=Ι n.toNat 40:=by
  show cs ⟨_⟩=_
  rw [Ux,show cs "("=[40] by rfl,rep1]
 have e2:Ι n.toNat 40=Ι 4 40++Ι (n.toNat - 4) 40:=by
  rw [List.replicate_append_replicate]
  congr 1
  omega
 have n1:(rp "(" n).length=n.toNat:=by rw [yD,e1,cz]
 have n2:(rp "+1)" n).length=n.toNat*3:=by
  rw [yD];show (cs ⟨_⟩).length=_
  rw [Ux,Uw];rfl
 have hm:n % 2=0\/n % 2=1:=by omega
 rcases hm with h | h
 ·rw [h];exact ⟨_,rfl,⟨_,e1.trans e2⟩,by omega⟩
 ·rw [h];refine ⟨_,rfl,⟨Ι (n.toNat - 4) 40++(cs "1"++cs (rp "+1)" n)),?_⟩,?_⟩
  ·rw [uh,uh,e1,e2];simp
  ·rw [μ,μ,n1,n2,show ("1":Str).length=1 by decide +kernel];omega
theorem thing {t:Str}{u:Int}(h0:0<=u) (h1:u < 6):∃ d,subD (.lst [.non,.int 3,.bl true,.tup [.str t],.lst [.str t],.tup [.str "+",.int 1,.int 2]]) (.int u)=some d/\isTy .str d=some false/\(∀ S,zF S d=d)/\wA d=false:=by
 have hc:u=0\/u=1\/u=2\/u=3\/u=4\/u=5:=by omega
 rcases hc with rfl | rfl | rfl | rfl | rfl | rfl <;> exact ⟨_,rfl,rfl,fun _=>rfl,rfl⟩
section
variable {K:Nat}{S:Store}
theorem rw_e {e:Ex}(he:e.Ok 3) (hK:12<=K):yl F wh K 8 [.str (wt e)] (fun x S'=>x=(e.toD,.st)/\∃ o,S'=S++[o]) S:=by
 have h181:=zaR he;refine (zM K) _ noX 8 _ _ _ _ ?_ ?_ (zeN (t:=wt e) (S:=S) (by omega) hK)
 ·rintro c S' ⟨_,hn,_⟩;exact hn ⟨e,he,rfl⟩
 ·rintro _ S' ⟨e',he',hw,rfl,ho⟩;have h1:=gd_R he' hw;rw [gd_R he rfl] at h1;have h2:e.toD=e'.toD:=congrArg Prod.fst (Λ h1);rw [h2];exact ⟨rfl,ho⟩
end
theorem law_wp (cells:List Int) (hc:cells.length<=63):yl F wh 60 26 [.scr cells] (fun x _=>x.1=.bl true) []:=by
 refine zgR ?_;nofun;refine wp_mono (zeZ cells hc (by omega) []) ?_;rintro _ _ ⟨rfl,ns,m,rfl,p0⟩;nofun;refine wp_mono (zT (ns:=ns) (T:=[]) (by decide) (by omega) p0) ?_;rintro _ _ ⟨w,a1,m1,rfl,w0,w1,p1,rfl⟩;nofun;refine wp_mono (Qk w0 (by omega) (by omega) p1) ?_;rintro _ _ ⟨ws,a2,m2,rfl,hws,_,_,p2,rfl⟩;nofun;refine wp_mono (zgf hws 3 a2 m2 59 p2 (by omega)) ?_;rintro _ _ ⟨e,a3,m3,rfl,he,p3,rfl⟩;have hr:LR (wt e) (.tup [.str "read",e.toD]):=.inl ⟨e,he,rfl,rfl⟩;have h181:=zaR he;refine z6 (bind1 (ϝ rfl) (zc6 e)) ?_;refine zB ?_;dsimp only [ϱ];nofun;refine wp_mono (zfE 3 e (by omega) he 59 (by omega) _) ?_;rintro _ _ ⟨rfl,rfl⟩;nofun;refine wp_mono (zbP 3 e (by omega) he 59 (by omega) _) ?_;rintro _ _ ⟨rfl,rfl⟩;generalize ht:wt e=t at *;nofun;refine wp_mono (Q9 (t:=t) (by omega) (by omega)) ?_;rintro _ _ ⟨⟨d1,rfl,l1⟩,o1,rfl⟩;nofun;refine (Zj l1 hr (by omega)).go ?_;nofun;show zg _ _ _ _ _ _ _ (pK ns a3 m3::[o1])
 refine wp_mono (Uk p3 h181 (by omega)) ?_;rintro _ _ ⟨s,a4,m4,rfl,hs,p4,rfl⟩;nofun;refine (zgt hs (by omega)).go ?_;have ls:=zgu s;have hi:wA (dueD s)=false:=by rcases ls with ⟨_,_,_,h⟩ | ⟨_,h⟩ <;> rw [h] <;> rfl
 generalize dueD s=ds at *;refine z6 (bind1 (ϝ rfl) hi) ?_;refine zB ?_;dsimp only [ϱ];nofun;refine wp_mono (Q9 (t:=s) (by omega) (by omega)) ?_;rintro _ _ ⟨⟨d2,rfl,l2⟩,o2,rfl⟩;nofun;refine (Zj l2 ls (by omega)).go ?_;nofun;refine wp_mono (Q9 (t:=s) (by omega) (by omega)) ?_;rintro _ _ ⟨⟨d3,rfl,l3⟩,o3,rfl⟩;nofun;refine (Zj l3 ls (by omega)).go ?_;nofun;show zg _ _ _ _ _ _ _ (pK ns a4 m4::[o1,o2,o3])
 refine wp_mono (zT (by decide) (by omega) p4) ?_;rintro _ _ ⟨u,a5,m5,rfl,u0,u1,p5,rfl⟩;obtain ⟨th,eth,t1,t2,t3⟩:=thing (t:=t) u0 u1;refine zp eth ?_;refine z6 (bind1 (ϝ rfl) t3) ?_;refine zB ?_;dsimp only [ϱ];nofun;refine wp_mono (zT (by decide) (by omega) p5) ?_;rintro _ _ ⟨v,a6,m6,rfl,v0,v1,p6,rfl⟩;obtain ⟨g,eg,⟨l,hl⟩,hgl⟩:=great (n:=4+v) (by omega) (by omega);have q1:=mul_str (x:="(") (n:=4+v) (by omega) (by omega) (by decide +kernel) (by decide +kernel);have q2:=mul_str (x:="+1)") (n:=4+v) (by omega) (by omega) (by decide +kernel) (by decide +kernel);have r1:(rp "(" (4+v)).length<=2001:=by rw [za7,show ("(":Str).length=1 by decide +kernel];omega
 have r2:(rp "+1)" (4+v)).length<=6003:=by rw [za7,show ("+1)":Str).length=3 by decide +kernel];omega
 have l1':("1":Str).length=1:=by decide +kernel
 generalize rp "(" (4+v)=R1 at *;generalize rp "+1)" (4+v)=R2 at *;refine zr (d:=.int (4+v)) rfl ?_;generalize 4+v=n at *;refine z6 rfl ?_;refine zB ?_;dsimp only [ϱ,ϣ,if_false];refine zu ?_;dsimp only [wpC,Zd,Xy,wpEs,Xz,yj,zX];refine zU rfl ?_;refine zr q1 ?_;refine kp_s rfl ?_;refine zU rfl ?_;refine zr q1 ?_;refine zr (zK (by omega)) ?_;refine zU rfl ?_;refine zr q2 ?_;refine zr (zK (by rw [μ];omega)) ?_;refine kp_s rfl ?_;refine zJ rfl ?_;refine zU rfl ?_;refine zr (d:=.int (n % 2)) rfl ?_;refine zp eg ?_;refine z6 rfl ?_;refine zB ?_;dsimp only [ϱ,ϣ,if_false];nofun;refine wp_mono (zh1 t1 t2 (by omega)) ?_;rintro _ _ ⟨rfl,rfl⟩;nofun;refine wp_mono (zcX hl hgl (by omega)) ?_;rintro _ _ ⟨rfl,o4,rfl⟩;nofun;have hrw:=fun S=>rw_e (K:=59) (S:=S) he (by omega)
 rw [ht] at hrw;refine wp_mono (hrw _) ?_;rintro _ _ ⟨rfl,o5,rfl⟩;nofun;refine (Ut 3 e he 59 (by omega)).go ?_;nofun;refine wp_mono (Q9 (t:=t) (by omega) (by omega)) ?_;rintro _ _ ⟨⟨d6,rfl,l6⟩,o6,rfl⟩;nofun;refine (Zj l6 hr (by omega)).go ?_;nofun;have hwt:=fun S=>zbP 3 e (by omega) he 59 (by omega) S
 rw [ht] at hwt;refine wp_mono (hwt _) ?_;rintro _ _ ⟨rfl,rfl⟩;nofun;show D.bl (t==t)=_
 rw [beq_self_eq_true]
theorem run_law:∀ ns:List Int,ns.length<=63->yl (wU rs) wh 60 26 [.scr ns] (fun x _=>x.1=.bl true) []:=law_wp
end Q06
open PySem PySem.W PyProof.Rows
theorem PySem.Challenge.cw_errandroom_k06_worths_as_texts_holds : PySem.Challenge.rw_errandroom_k06_worths_as_texts.Holds := by
 exact EV.zgd (q := Q06.jq) (loose := []) (d := Q06.ug) (B := Q06.B) (rs := Q06.rs) (f := 26) (r := Q06.zcn) (y := "_law_script") (wh := Q06.wh) 12000 500 Q06.zid Q06.zcZ Q06.zij Q06.zii Q06.zih Q06.zie Q06.zif Q06.zic rfl Q06.zig rfl rfl (by kernel_rfl) rfl Q06.tabs Q06.run_law
