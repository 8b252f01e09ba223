import PyProof.Rows.All
import Wide.All
import OpenK.AllK
import Wide.FinOn
import Lean
import PyProof.EqAt
import PyProof.EqKinds
import PyProof.TupleCall
import PyProof.EnumMake
import PyProof.EnumIter
import PyProof.EnumFor
import PyProof.EnumStmt
import PyProof.WalksEnum
import KE.KRevIter
import PyProof.Rows.SortRuns
import PyProof.Rows.SortKey
import KE.KSortTup
import PyProof.PureInt
import KE.KDictSum
import PyProof.DictKeyH
import PyProof.ReprRoads
import PyProof.ListMulRoad
import PyProof.NeKinds
import KE.KEqDict
import PyProof.SumWalkG
import PyProof.Rows.SumGenD
import PyProof.CompMap
import PySem.Challenge.RW_errandroom_k35_whole_the_way_out
set_option Elab.async false
set_option linter.all false
set_option maxRecDepth 100000
set_option maxHeartbeats 4000000
set_option tactic.hygienic false
set_option backward.match.sparseCases false
set_option genSizeOfSpec false
set_option bootstrap.genMatcherCode false
set_option compiler.extract_closed false
open Array renaming toList_append -> ϫ, length_toList -> aC, getElem?_eq_getElem -> aF, toList_reverse -> bC, perm_iff_toList_perm -> cg, toList_extract -> dN, toList_push -> fJ, getElem?_eq_none -> gk, getElem?_toList -> gC, toArray_toList -> gR, append_assoc -> nM, toList_zip -> n6, toList_map -> n8
open Bool renaming and_eq_true -> ε, false_ne_true -> Ο, false_eq_true -> aL, eq_iff_iff -> d7, and_eq_true_iff -> gZ, and_true -> iJ, or_eq_true -> lF, and_false -> lR, or_eq_false_iff -> nA, not_eq_true' -> nZ
open Classical renaming choose -> bW, choose_spec -> lO
open False renaming elim -> ak
open ForInStep renaming done -> ϝ, yield -> ϟ
open Int renaming emod_lt_of_pos -> cW, emod_nonneg -> eF, toNat_natCast -> fV
open List renaming size_toArray -> θ, mem_cons_of_mem -> ι, getElem?_eq_getElem -> ξ, append_assoc -> π, mem_cons_self -> ς, length_append -> Α, length_map -> Ζ, getElem?_eq_some_iff -> Η, mem_singleton -> Θ, getElem?_map -> Μ, mem_cons -> Ξ, map_cons -> Ρ, mem_append -> Τ, getElem?_append_left -> Υ, replicate -> Ψ, getElem?_set_ne -> ϊ, mem_append_right -> ό, getElem?_append_right -> ϒ, mem_of_getElem? -> Ϝ, length_cons -> Ϟ, append_nil -> Ϣ, map_append -> ϩ, pairwise_append -> ϴ, getD_eq_getElem?_getD -> ϵ, getElem?_set_self -> Ϸ, Perm -> aj, range -> ao, lookup_cons -> au, length_take -> aA, take_append_drop -> aJ, mem_map -> aM, replicate_succ -> aR, getElem_mem -> aY, contains_iff_mem -> bf, length_set -> bB, any_cons -> bG, filter_cons_of_neg -> bI, zip_cons_cons -> bJ, nil_append -> bM, cons -> bO, all_cons -> bQ, flatten_cons -> bV, mem_range -> cu, mem_iff_getElem -> cz, extract_eq_take_drop -> cC, set -> cG, filterMap_cons_some -> cH, filterMap_cons_none -> cI, length_zip -> cM, find?_cons -> cN, length_eq_zero_iff -> cT, getElem?_replicate -> cU, filter_cons_of_pos -> cV, take_of_length_le -> dj, pairwise_map -> dm, not_mem_nil -> dC, length_drop -> dD, any_eq_true -> dF, all_eq_true -> dG, mem_append_left -> dO, length -> dR, of_mem_zip -> dW, nodup_cons -> dX, length_nil -> dY, reverse_append -> d8, filterMap_cons -> d9, map_map -> eO, pairwise_iff_getElem -> fG, drop_eq_getElem_cons -> fH, Pairwise -> fU, mem_reverse -> gj, drop_eq_nil_of_le -> gq, foldl_cons -> gB, pairwise_reverse -> gD, length_replicate -> gF, getElem?_eq_none -> gG, mem_of_mem_drop -> gU, filter -> gW, drop_drop -> gY, mem_map_of_mem -> iD, getElem_of_mem -> iG, pairwise_cons -> iM, append_of_mem -> iQ, reverse_perm -> iY, nodup_append -> iZ, getElem?_inj -> lg, ext_getElem? -> lq, map_fst_zip -> lw, mem_filter -> lE, getElem?_eq_none_iff -> lX, set_eq_of_length_le -> mG, length_filterMap_le -> mH, getElem?_take_of_lt -> mJ, range_succ_eq_map -> mV, map_nil -> mW, perm_append_comm -> m8, reverse_reverse -> nj, mem_of_mem_take -> nq, mem_filterMap -> nQ, getElem?_drop -> nR, any_eq_false -> nY
open List.Pairwise renaming nil -> dU
open List.Perm renaming refl -> ϰ, append_left -> lN
open List.cons renaming inj -> aB
open Nat renaming le_refl -> ν, beq -> Ν, ne_of_lt -> ϋ, lt_of_lt_of_le -> ϓ, le_trans -> Ϧ, zero_le -> bF, zero_add -> bL, ne_of_gt -> cB, lt_irrefl -> cL, le_of_lt -> gA, le_of_ble_eq_true -> gP, lt_succ_of_lt -> lr, le_of_not_lt -> lC, add_zero -> m7
open Nat.succ renaming inj -> fQ
open Ne renaming symm -> gh
open Option renaming map_eq_some_iff -> Ε, bind_eq_some_iff -> ϣ, some -> ϱ, isSome_map -> iK, isSome_iff_exists -> lM, getD_some -> nO, getD_none -> nP
open Option.some renaming inj -> Ϛ
open PyProof.Rows renaming wpS_bind -> μ, arrOf -> υ, Keyed -> ψ, wpS_pure -> Β, SortSt -> Ι, KeyOrd -> ϙ, wpS_forRange -> Ϫ, slot_tuple_getitem -> ϭ, seqObj -> aG, wpS_mono -> aP, pendingOf -> aU, wpS_modify -> cD, failedOf -> cZ, wpS_get -> dg, elem' -> dw, callWith_type1 -> dz, reverseSlice' -> eG, SortKind -> eX, wpS_lift -> fX, AllBare -> iy, envOfC -> lA, mirror_perm -> mj, sortedHeap -> m5, subscriptTail_builtinR -> nU
open PyProof.Rows.KeyOrd renaming kle_trans -> Ϗ, kle_of_klt -> ϑ, kle_refl -> aO, kle_antisymm -> m9
open PyProof.Rows.LSm renaming kept_iter -> mR
open PyProof.Rows.SortSt renaming mk' -> iC
open PySem renaming wpAny_bind -> γ, Value -> δ, wpAny_pure -> η, Shared -> ο, wpAny -> Λ, Builtin -> Φ, model -> Χ, Program -> Ω, compareOp -> ώ, Expr -> ϔ, mainGlobals -> ϕ, wpAny_newObj_type -> ϖ, wpAny_call_entry -> Ϙ, wpAny_callSpecial?_slot -> Ϡ, Around -> ϡ, World -> ϥ, starEach -> Ϩ, NameKind -> ϯ, wpAny_truthy_bool -> ϲ, wpAny_setField_rec -> ϸ, wpAny_field -> Ϲ, Stmt -> Ϻ, cLine -> aq, keywordEach -> aK, FuncData -> aN, mem_of_lookup -> aQ, DictEntry -> aV, assignEach -> aW, Spec -> aZ, Keyword -> bh, wpAny_holding -> bj, sizeLine_eq -> bu, wpAny_rule -> bw, sysModules -> bx, rawInt -> bz, binaryOp -> bA, foldedSetIterable -> bH, wpAny_typeNameOfWhole_itemiter -> bK, wpAny_typeNameOfWhole_keyiter -> bR, bootBuiltins -> bU, wpAny_passesOwn -> b7, backToKw -> b8, swappedStores -> cj, wpAny_dictEntries -> cA, wpAny_mono -> cF, wpAny_typeNameOf_itemiter -> cP, Paired -> cR, wpAny_attempt -> cX, swapsWithSole -> cY, Scope -> c7, wpAny_loadPart' -> dh, wpAny_dictEpoch -> di, wpAny_isOneOf_itemiter -> dI, wpAny_fieldsOf -> dJ, CmpOp -> dZ, IsItemIter -> eE, wpAny_of_eq -> eQ, sliceBounds -> eU, backTo -> fc, wpAny_typeOf -> fK, wpAny_setField -> fY, wpAny_Call_Name_kw -> fZ, tupleKind_room_in1 -> f9, wpAny_pyIter_list -> gm, wpAny_pyIter_enum -> gn, pyNext -> gr, assign -> gw, tupleKind -> gJ, swapsWith -> gK, PassesOwn -> gO, valueAt -> g8, holding -> ig, codeAny_mono -> ik, IsPart -> iw, wpAny_ite_false -> iz, codeAny_builtin -> iB, isTrue -> iR, firstArgMember -> iT, relabel -> iV, getItem -> iW, wpAny_standAt -> lu, call_meets -> lB, wpAny_pyIter_slot -> lG, Operator -> lH, wpAny_isInstance -> lU, noFill_tuple_add -> lV, wpAny_execs_nil -> mK, letOwnedTupleGo -> mL, BoolOp -> mQ, wpAny_newTuple -> mY, wpAny_letOwnedTupleGo_enum -> mZ, isSubtype_stop -> m6, wpAny_newList -> nC, wpAny_handled -> nD, seq_tuple_add -> nF, plainId_quiet -> nG, IsItemIterOut -> nH, concat_meets -> nW
open PySem.Around renaming under_plainId -> dH
open PySem.Builtin.Dict renaming showsAll -> cO
open PySem.Builtin.Dict_items renaming ownsTuple -> cJ, ownedTupleIsFree -> fB, ownedTupleFields -> fC, pairFromOwner -> fW
open PySem.Builtin.List renaming listTooLong -> bZ
open PySem.Builtin.Slice renaming slicePlaces -> bN, sliceAdjust -> dM, sliceApplied -> iI
open PySem.Builtin.SmallTypes renaming nextOf -> gQ
open PySem.Builtin.Str renaming occurrences -> eY
open PySem.Builtin.Tuple renaming tupleExact -> bY, tupleItemsOf -> iH
open PySem.Calls renaming Name_function_global -> lJ, call_function_entry -> lQ, callWith_builtin -> mU
open PySem.Challenge renaming pw_errandroom_k35_whole_the_way_out -> ϧ
open PySem.Data renaming fields -> Ϯ, seq -> eZ
open PySem.Env renaming kindOf -> lZ
open PySem.F renaming args_tuple_add_2 -> fj, plainAttrs_list -> fL, entry_tuple_add -> fM, slot_tuple_add -> gf, plain_list_iadd -> lK, plainAttrs_dict -> lL, plainAttrs_str -> lW, type_dict_get -> mD, slot_dict_get -> mF
open PySem.Heap renaming get?_push_of_some -> ζ, lt_size -> χ, get?_push_size -> ω, SameBut -> ϛ, size_push -> dq, get?_update_self -> gH, ExtBut -> lD, get?_update_other -> mX, get?_update_ne -> nJ
open PySem.Heap.SameBut renaming update -> bT, refl -> lY
open PySem.MeetsSeq renaming plain_index_loop -> gM
open PySem.NameKind renaming free -> aH
open PySem.Obj renaming mapSeq -> aD, data_mapFields -> fu, isFreed_of_fields -> ni
open PySem.Paired renaming length -> ir
open PySem.ScopeKind renaming function -> mO
open PySem.SeqAt renaming RcNeAt -> Ϥ, EqAt -> Ϭ
open PySem.SeqAt.EqAt renaming str_int -> my, int_str -> mC
open PySem.Shared renaming TypeIs -> fD
open PySem.Str renaming ofString -> eV
open PySem.Txt renaming split -> fP, slice -> iU
open PySem.Value renaming ref -> Δ, none -> Κ, bool -> ύ, type -> ϐ, int -> ϗ, str -> aX
open Sum renaming inl -> cQ, inr -> fO
open True renaming intro -> ϳ
namespace L2
open PySem PySem.Spec PyProof.Rows
abbrev VSP:=δ->ο->Prop
abbrev Key:=Sum Int Str
noncomputable def keyIs:Key->δ->Bool
 | .inl k,v=>δ.isInt k v
 | .inr x,v=>δ.isStrOf x v
noncomputable def keyH (w:ϥ):Key->Int
 | .inl k=>hashInt k
 | .inr x=>hashStr w x
theorem zF:∀ {k:Key}{v:δ},keyIs k v=true->(∃ i t,k=cQ i/\v=ϗ i t)\/(∃ x t,k=fO x/\v=aX x t)
 | .inl i,v,h=>by
  obtain ⟨t,e⟩:=δ.isInt_shape (k:=i) (v:=v) h
  exact .inl ⟨i,t,rfl,e⟩
 | .inr x,v,h=>by
  obtain ⟨t,e⟩:=δ.isStrOf_shape (x:=x) (v:=v) h
  exact .inr ⟨x,t,rfl,e⟩
theorem Je (i:Int) (t:Tok):keyIs (.inl i) (.int i t)=true:=by simp [keyIs,δ.isInt]
theorem Jd (x:Str) (t:Tok):keyIs (.inr x) (.str x t)=true:=by simp [keyIs,δ.isStrOf]
theorem zd2 (a b:Int):decide ((cQ a:Key)=cQ b)=(a==b):=by
 by_cases e:a=b
 ·subst e;simp
 ·have h:¬ (cQ a:Key)=cQ b:=fun q=>e (cQ.inj q)
  rw [decide_eq_false h]
  exact (beq_eq_false_iff_ne.mpr e).symm
theorem zdZ (a b:Str):decide ((fO a:Key)=fO b)=decide (a=b):=by
 by_cases e:a=b
 ·subst e;simp
 ·have h:¬ (fO a:Key)=fO b:=fun q=>e (fO.inj q)
  rw [decide_eq_false h,decide_eq_false e]
theorem zd1 (a:Int) (b:Str):decide ((cQ a:Key)=fO b)=false:=decide_eq_false (fun q=>nomatch q)
theorem zd0 (a:Str) (b:Int):decide ((fO a:Key)=cQ b)=false:=decide_eq_false (fun q=>nomatch q)
noncomputable def zG (prog:Ω) (w:ϥ):PySem.KeyKind prog w Key where
 is:=keyIs
 hash:=keyH w
 inj:=fun v a b ha hb=>by
  rcases zF ha with ⟨i,t,rfl,rfl⟩ | ⟨x,t,rfl,rfl⟩
  ·rcases zF hb with ⟨j,u,rfl,e⟩ | ⟨y,u,rfl,e⟩
   ·injection e with e1 _;rw [e1]
   ·exact nomatch e
  ·rcases zF hb with ⟨j,u,rfl,e⟩ | ⟨y,u,rfl,e⟩
   ·exact nomatch e
   ·injection e with e1 _;rw [e1]
 byValue:=fun k v h=>by
  rcases zF h with ⟨i,t,rfl,rfl⟩ | ⟨x,t,rfl,rfl⟩ <;> rfl
 pyHash:=fun hv h=>by
  rcases zF hv with ⟨i,t,rfl,rfl⟩ | ⟨x,t,rfl,rfl⟩
  ·exact wpAny_pyHash_int h
  ·exact wpAny_pyHash_str h
 eqBool:=fun hu hv h=>by
  rcases zF hu with ⟨i,t,rfl,rfl⟩ | ⟨x,t,rfl,rfl⟩
  ·rcases zF hv with ⟨j,u,rfl,rfl⟩ | ⟨y,u,rfl,rfl⟩
   ·rw [zd2] at h;exact wpAny_eqBool_int h
   ·rw [zd1] at h;exact mC i t y u _ _ _ _ h
  ·rcases zF hv with ⟨j,u,rfl,rfl⟩ | ⟨y,u,rfl,rfl⟩
   ·rw [zd0] at h;exact my x t j u _ _ _ _ h
   ·rw [zdZ] at h;exact wpAny_eqBool_str h
 «strs»:=fun k x t v h=>by
  rcases zF h with ⟨i,u,rfl,e⟩ | ⟨y,u,rfl,e⟩
  ·exact nomatch e
  ·injection e with e1 _
   subst e1
   cases v <;> rfl
theorem Yx (prog:Ω) (w:ϥ) (i:Int) (t:Tok):(zG prog w).is (.inl i) (.int i t)=true:=Je i t
theorem Yw (prog:Ω) (w:ϥ) (x:Str) (t:Tok):(zG prog w).is (.inr x) (.str x t)=true:=Jd x t
inductive V where
 | non | bl (b:Bool) | int (i:Int) | str (x:Str) | byt (b:Array UInt8) | flt (b:UInt64) | ref (a:Addr) | ty (n:String)
 deriving DecidableEq
def RelV:V->δ->Prop
 | .non,u=>u=Κ
 | .bl b,u=>u=ύ b
 | .int i,u=>∃ t,u=ϗ i t
 | .str x,u=>∃ t,u=aX x t
 | .byt b,u=>∃ t,u=δ.bytes b t
 | .flt b,u=>∃ t,u=δ.float b t
 | .ref a,u=>u=Δ a
 | .ty n,u=>u=ϐ n
abbrev Vals:List V->List δ->Prop:=cR RelV
theorem Vals.length {xs:List V}{us:List δ}(r:Vals xs us):xs.length=us.length:=ir r
theorem Vals.get:∀ {xs:List V}{us:List δ}{i:Nat}{x:V},Vals xs us->xs[i]?=some x->∃ u,us[i]?=some u/\RelV x u
 | _,_,_,_,.nil,e=>by simp at e
 | _,_,0,_,.cons r _,e=>by simp at e;subst e;exact ⟨_,rfl,r⟩
 | _,_,i+1,x,.cons _ t,e=>by
  obtain ⟨u,h1,h2⟩:=Vals.get (i:=i) (x:=x) t (by simpa using e)
  exact ⟨u,by simpa using h1,h2⟩
theorem Vals.set {x:V}{u:δ}(r:RelV x u):∀ {xs:List V}{us:List δ}(i:Nat),Vals xs us->Vals (xs.set i x) (us.set i u)
 | _,_,_,.nil=>.nil
 | _,_,0,.cons _ t=>.cons r t
 | _,_,i+1,.cons q t=>.cons q (Vals.set r i t)
theorem Vals.append:∀ {xs ys:List V}{us ws:List δ},Vals xs us->Vals ys ws->Vals (xs++ys) (us++ws)
 | _,_,_,_,.nil,s=>s
 | _,_,_,_,.cons r t,s=>.cons r (Vals.append t s)
theorem Vals.take:∀ {xs:List V}{us:List δ}(n:Nat),Vals xs us->Vals (xs.take n) (us.take n)
 | _,_,0,_=>.nil
 | _,_,_+1,.nil=>.nil
 | _,_,n+1,.cons r t=>.cons r (Vals.take n t)
theorem Vals.drop:∀ {xs:List V}{us:List δ}(n:Nat),Vals xs us->Vals (xs.drop n) (us.drop n)
 | _,_,0,r=>r
 | _,_,_+1,.nil=>.nil
 | _,_,n+1,.cons _ t=>Vals.drop n t
def RelO:Option V->Option δ->Prop
 | some v,some u=>RelV v u
 | none,none=>True
 | _,_=>False
def KV {κ:Type}:List (κ×V)->List (κ×δ)->Prop:=cR fun (p:κ×V) (q:κ×δ)=>p.1=q.1/\RelV p.2 q.2
noncomputable def kV:Key->V
 | .inl i=>.int i
 | .inr x=>.str x
inductive HO where
 | lst (xs:List V)
 | tup (xs:List V)
 | dK (kvs:List (Key×V)) | dT (kvs:List (List Key×V))
 | set (S:Int->Bool) (n:Nat)
 | ins (C dx:Addr) (fs:List (Str×V))
 | own (x:Addr)
 | xd (fs:List (Str×V))
 | met (f x:Addr)
 | rng (lo hi:Int)
 | frz (o:Obj) (u:HO)
 | tbl (ps:Array δ)
 | ext (φ:Heap->Prop)
abbrev Hp:=Addr->Option HO
noncomputable def upd (H:Hp) (a:Addr) (o:HO):Hp:=fun b=>if b=a then some o else H b
theorem zf {H:Hp}{a:Addr}{o:HO}:upd H a o a=some o:=by unfold upd;rw [if_pos rfl]
theorem zb {H:Hp}{a b:Addr}{o:HO}(h:b≠a):upd H a o b=H b:=by unfold upd;rw [if_neg h]
theorem ne_of {H:Hp}{a b:Addr}{o u:HO}(h:H a=some o) (h':H b=some u) (d:o≠u):a≠b:=by
 intro e;subst e;rw [h] at h';exact d (Ϛ h')
theorem zc {H:Hp}{a b:Addr}{o:HO}(h:H a=some o) (h':H b=none):a≠b:=by
 intro e;subst e;rw [h] at h';cases h'
section
variable (P:Ω) (w:ϥ)
def ObjOk (H:Hp) (h:Heap) (a:Addr):HO->Prop
 | .lst xs=>xs.length<=sizeLine/\∃ (its:List δ) (n:Nat),Vals xs its/\h.get? a=some { cls:=.type "list",data:=.seq its.toArray n }
 | .tup xs=>xs.length<=sizeLine/\∃ its:List δ,Vals xs its/\IsTup h a its.toArray
 | .dK kvs=>kvs.length<=sizeLine/\(a==bx)=false/\∃ vs,KV kvs vs/\h.DictOf (zG P w) a vs
 | .dT kvs=>kvs.length<=sizeLine/\(a==bx)=false/\∃ xs:List (List Key×Addr×δ),
   cR (fun (p:List Key×V) (q:List Key×Addr×δ)=>p.1=q.1/\H q.2.1=some (.tup (p.1.map kV))/\RelV p.2 q.2.2) kvs xs /\
   ∃ o es ep,h.get? a=some o/\o.ExactDict/\o.data=.dict es ep/\es.toList=xs.map (entryOfKey (gJ (zG P w)))/\(xs.map (·.1)).Nodup
 | .set S n=>h.SetOf (intKind P w) a S n
 | .ins C dx fs=>H dx=some (.own a)/\fs.length<=1000/\dx≠a/\h.get? a=some (W.instObj C dx) /\
   ∃ mA,h.Ns1 dx mA/\(∀ f,RelO (fs.lookup f) (mA f))/\PySem.Within mA (fs.map (·.1))
 | .own _=>∃ o,h.get? a=some o
 | .xd fs=>∃ mA,h.Ns1 a mA/\∀ f,RelO (fs.lookup f) (mA f)
 | .rng lo hi=>∃ t u v,h.get? a=some { cls:=.type "range",data:=.fields #[.int lo t,.int hi u,.int 1 v] }
 | .frz o u=>h.get? a=some o/\ObjOk H h a u
 | .tbl ps=>h.get? a=some { cls:=.none,data:=.fields ps }
 | .met f x=>h.get? a=some (W.methodObj (.ref f) (.ref x))
 | .ext φ=>φ h/\(∃ o,h.get? a=some o)/\∀ h1 h2:Heap,φ h1->(∀ o,h1.get? a=some o->h2.get? a=some o)->φ h2
def HOk (H:Hp) (h:Heap):Prop:=∀ a o,H a=some o->ObjOk P w H h a o
end
section
variable {P:Ω}{w:ϥ}{H H':Hp}{h h':Heap}{a:Addr}{o:HO}
theorem ObjOk.lt (x:ObjOk P w H h a o):a < h.objs.size:=by
 cases o with
 | lst xs=>obtain ⟨_,_,_,_,e⟩:=x;exact χ e
 | tup xs=>obtain ⟨_,_,_,p⟩:=x;exact p.lt
 | dK kvs=>obtain ⟨_,_,_,_,o,_,_,e,_⟩:=x;exact χ e
 | dT kvs=>obtain ⟨_,_,_,_,o,_,_,e,_⟩:=x;exact χ e
 | set S n=>obtain ⟨o,_,_,_,e,_⟩:=x;exact χ e
 | ins C dx fs=>obtain ⟨_,_,_,e,_⟩:=x;exact χ e
 | own y=>obtain ⟨_,e⟩:=x;exact χ e
 | xd fs=>obtain ⟨_,⟨_,_,_,e,_⟩,_⟩:=x;exact χ e
 | rng lo hi=>obtain ⟨_,_,_,e⟩:=x;exact χ e
 | frz ob u=>obtain ⟨e,_⟩:=x;exact χ e
 | tbl ps=>exact χ (show h.get? a=some _ from x)
 | met f y=>exact χ (show h.get? a=some _ from x)
 | ext φ=>obtain ⟨_,⟨_,e⟩,_⟩:=x;exact χ e
theorem cR.mapP {α β:Type}{F G:α->β->Prop}:∀ {l₁:List α}{l₂:List β},cR F l₁ l₂->(∀ a b,F a b->G a b)->cR G l₁ l₂
 | _,_,.nil,_=>.nil
 | _,_,.cons r t,f=>.cons (f _ _ r) (cR.mapP t f)
theorem ObjOk.stay (x:ObjOk P w H h a o) (k:∀ b u,(b=a\/H b=some (.own a))->h.get? b=some u->h'.get? b=some u)
  (ho:∀ b,H b=some (.own a)->H' b=some (.own a)) (ht:∀ b xs,H b=some (.tup xs)->H' b=some (.tup xs)):ObjOk P w H' h' a o:=by
 induction o with
 | lst xs=>obtain ⟨z,its,n,r,e⟩:=x;exact ⟨z,its,n,r,k _ _ (.inl rfl) e⟩
 | tup xs=>obtain ⟨z,its,r,ob,e,c⟩:=x;exact ⟨z,its,r,ob,k _ _ (.inl rfl) e,c⟩
 | dK kvs=>obtain ⟨z,y,vs,r,ob,es,ep,e,c⟩:=x;exact ⟨z,y,vs,r,ob,es,ep,k _ _ (.inl rfl) e,c⟩
 | dT kvs=>
  obtain ⟨z,y,xs,r,ob,es,ep,e,c⟩:=x
  exact ⟨z,y,xs,cR.mapP r fun p q z=>⟨z.1,ht _ _ z.2.1,z.2.2⟩,ob,es,ep,k _ _ (.inl rfl) e,c⟩
 | set S n=>obtain ⟨ob,es,ep,t,e,c⟩:=x;exact ⟨ob,es,ep,t,k _ _ (.inl rfl) e,c⟩
 | ins C dx fs=>
  obtain ⟨d,z,ne,e,mA,⟨od,es,ep,e2,c⟩,r⟩:=x
  exact ⟨ho _ d,z,ne,k _ _ (.inl rfl) e,mA,⟨od,es,ep,k _ _ (.inr d) e2,c⟩,r⟩
 | own y=>obtain ⟨ob,e⟩:=x;exact ⟨ob,k _ _ (.inl rfl) e⟩
 | xd fs=>obtain ⟨mA,⟨od,es,ep,e,c⟩,r⟩:=x;exact ⟨mA,⟨od,es,ep,k _ _ (.inl rfl) e,c⟩,r⟩
 | rng lo hi=>obtain ⟨t,u,v,e⟩:=x;exact ⟨t,u,v,k _ _ (.inl rfl) e⟩
 | frz ob u ih=>obtain ⟨e,q⟩:=x;exact ⟨k _ _ (.inl rfl) e,ih q⟩
 | tbl ps=>
  have e:h.get? a=some { cls:=.none,data:=.fields ps }:=x
  show h'.get? a=some { cls:=.none,data:=.fields ps }
  exact k a _ (.inl rfl) e
 | met f y=>
  have e:h.get? a=some (W.methodObj (.ref f) (.ref y)):=x
  show h'.get? a=some (W.methodObj (.ref f) (.ref y))
  exact k a _ (.inl rfl) e
 | ext φ=>obtain ⟨p,⟨o,e⟩,st⟩:=x;exact ⟨st _ _ p fun o q=>k _ _ (.inl rfl) q,⟨o,k _ _ (.inl rfl) e⟩,st⟩
theorem HOk.lt (x:HOk P w H h) (e:H a=some o):a < h.objs.size:=(x a o e).lt
theorem HOk.fresh (x:HOk P w H h) (e:h.objs.size<=a):H a=none:=by
 cases q:H a with
 | none=>rfl
 | some u=>exact absurd (ϓ (x.lt q) e) (cL _)
theorem HOk.kept (x:HOk P w H h) (k:∀ b u,h.get? b=some u->h'.get? b=some u):HOk P w H h':=fun a o e=>
 (x a o e).stay (fun b u _ q=>k b u q) (fun _ q=>q) fun _ _ q=>q
theorem HOk.laid (x:HOk P w H h) (k:∀ b u,h.get? b=some u->h'.get? b=some u) (hp:h.objs.size<=a) (new:ObjOk P w (upd H a o) h' a o):HOk P w (upd H a o) h':=fun b u e=>by
 have hn:=x.fresh hp
 by_cases hb:b=a
 ·subst hb;rw [zf] at e;cases e;exact new
 ·rw [zb hb] at e
  exact (x b u e).stay (fun c v _ q=>k c v q) (fun c q=>by rw [zb (zc q hn)];exact q) fun c xs q=>by rw [zb (zc q hn)];exact q
end
def Rd (H:Hp) (a:Addr) (u:HO):Prop:=H a=some u\/∃ o,H a=some (.frz o u)
theorem Rd.ok {P:Ω}{w:ϥ}{H:Hp}{h:Heap}{a:Addr}{u:HO}(r:Rd H a u) (x:HOk P w H h):ObjOk P w H h a u:=by
 rcases r with r | ⟨o,r⟩
 ·exact x a u r
 ·obtain ⟨_,q⟩:=x a _ r
  exact q
def Mut:Option HO->Prop
 | some (.lst _)=>True
 | some (.dK _)=>True
 | some (.dT _)=>True
 | some (.set _ _)=>True
 | some (.ins _ _ _)=>True
 | some (.ext _)=>True
 | _=>False
section
variable {P:Ω}{w:ϥ}{H:Hp}{h h':Heap}{x e:Addr}{o':HO}
theorem HOk.write (ok:HOk P w H h) (mu:Mut (H x)) (he:e=x\/H e=some (.own x)) (k:∀ b u,b≠e->h.get? b=some u->h'.get? b=some u) (heo:∃ u,h'.get? e=some u)
  (new:ObjOk P w (upd H x o') h' x o'):HOk P w (upd H x o') h':=fun b u q=>by
 have nown:∀ c y,H c=some (.own y)->c≠x:=fun c y r z=>by subst z;rw [r] at mu;exact mu
 have ntup:∀ c xs,H c=some (.tup xs)->c≠x:=fun c xs r z=>by subst z;rw [r] at mu;exact mu
 by_cases hb:b=x
 ·subst hb;rw [zf] at q;cases q;exact new
 ·rw [zb hb] at q
  by_cases hbe:b=e
  ·have q':H b=some (.own x):=by
    rcases he with z | z
    ·exact absurd (hbe.trans z) hb
    ·rw [hbe];exact z
   rw [q] at q';cases q'
   obtain ⟨v,hv⟩:=heo
   exact ⟨v,by rw [hbe];exact hv⟩
  ·refine (ok b u q).stay (fun c v hc r=>k c v ?_ r) (fun c r=>by rw [zb (nown c b r)];exact r) fun c xs r=>by rw [zb (ntup c xs r)];exact r
   rcases hc with rfl | hc
   ·exact hbe
   ·rintro rfl
    rcases he with z | z
    ·exact nown c b hc z
    ·rw [hc] at z;cases z;exact hb rfl
end
structure Un (fs ex:List Addr) (H H':Hp) (h h':Heap):Prop where
 keep:∀ b o,h.get? b=some o->H b=none->b ∉ fs->b ∉ ex->h'.get? b=some o
 slot:∀ b o,h.get? b=some o->H b=none->b∈fs->b ∉ ex->∃ sl,h'.get? b=some { o with slots:=sl }
 free:∀ b o,h.get? b=some o->H b=none->b ∉ ex->H' b=none
 there:∀ b o,h.get? b=some o->b ∉ ex->∃ o',h'.get? b=some o'
 tups:∀ b xs,H b=some (.tup xs)->H' b=some (.tup xs)
 frzs:∀ b o u,H b=some (.frz o u)->H' b=some (.frz o u)
 tbls:∀ b ps,H b=some (.tbl ps)->∃ more,H' b=some (.tbl (ps++more))
section
variable {fs fs' ex ex':List Addr}{H H1 H2:Hp}{h h1 h2 h':Heap}{a x e:Addr}{o:HO}
theorem Un.any (u:Un fs ex H H1 h h1) {b:Addr}{ob:Obj}(q:h.get? b=some ob) (n:H b=none) (hx:b ∉ ex):∃ sl,h1.get? b=some { ob with slots:=sl }:=by
 by_cases hb:b∈fs
 ·exact u.slot b ob q n hb hx
 ·exact ⟨ob.slots,u.keep b ob q n hb hx⟩
theorem Un.trans (a:Un fs ex H H1 h h1) (b:Un fs ex H1 H2 h1 h2):Un fs ex H H2 h h2 where
 keep:=fun c ob q n hc hx=>b.keep c ob (a.keep c ob q n hc hx) (a.free c ob q n hx) hc hx
 slot:=fun c ob q n hc hx=>by
  obtain ⟨sl,e1⟩:=a.slot c ob q n hc hx
  obtain ⟨sl',e2⟩:=b.slot c _ e1 (a.free c ob q n hx) hc hx
  exact ⟨sl',e2⟩
 free:=fun c ob q n hx=>by
  obtain ⟨o',e1⟩:=a.there c ob q hx
  exact b.free c o' e1 (a.free c ob q n hx) hx
 there:=fun c ob q hx=>by
  obtain ⟨o',e1⟩:=a.there c ob q hx
  exact b.there c o' e1 hx
 tups:=fun c xs q=>b.tups c xs (a.tups c xs q)
 frzs:=fun c ob xs q=>b.frzs c ob xs (a.frzs c ob xs q)
 tbls:=fun c ps q=>by
  obtain ⟨m1,e1⟩:=a.tbls c ps q
  obtain ⟨m2,e2⟩:=b.tbls c _ e1
  exact ⟨m1++m2,by rw [e2,nM]⟩
theorem Un.kept (k:∀ b u,h.get? b=some u->h'.get? b=some u):Un fs ex H H h h':=
 ⟨fun b ob q _ _ _=>k b ob q,fun b ob q _ _ _=>⟨ob.slots,k b ob q⟩,fun _ _ _ n _=>n,fun b ob q _=>⟨ob,k b ob q⟩,fun _ _ q=>q,fun _ _ _ q=>q,fun _ ps q=>⟨#[],by rw [q];simp⟩⟩
theorem Un.refl:Un fs ex H H h h:=Un.kept fun _ _ q=>q
theorem Un.laid (k:∀ b u,h.get? b=some u->h'.get? b=some u) (hp:h.objs.size<=a) (hn:H a=none):Un fs ex H (upd H a o) h h' where
 keep:=fun b u q _ _ _=>k b u q
 slot:=fun b u q _ _ _=>⟨u.slots,k b u q⟩
 free:=fun b u q n _=>by rw [zb (ϋ (ϓ (χ q) hp))];exact n
 there:=fun b u q _=>⟨u,k b u q⟩
 tups:=fun b xs q=>by rw [zb (zc q hn)];exact q
 frzs:=fun b u xs q=>by rw [zb (zc q hn)];exact q
 tbls:=fun b ps q=>⟨#[],by rw [zb (zc q hn),q];simp⟩
theorem Un.write (mu:Mut (H x)) (he:e=x\/H e=some (.own x)) (k:∀ b u,b≠e->h.get? b=some u->h'.get? b=some u) (heo:∃ u,h'.get? e=some u):Un fs ex H (upd H x o) h h':=by
 have hx:∀ b,H b=none->b≠x:=fun b n z=>by subst z;rw [n] at mu;exact mu
 have hb:∀ b,H b=none->b≠e:=fun b n z=>by
  subst z
  rcases he with r | r
  ·exact hx b n r
  ·rw [n] at r;cases r
 have hm:∀ b u,H b=some u->¬ Mut (some u)->b≠x:=fun b u q nm z=>by subst z;rw [q] at mu;exact nm mu
 refine ⟨fun b u q n _ _=>k b u (hb b n) q,fun b u q n _ _=>⟨u.slots,k b u (hb b n) q⟩,fun b u q n _=>by rw [zb (hx b n)];exact n,fun b u q _=>?_,
  fun b xs q=>by rw [zb (hm b _ q fun z=>z)];exact q,fun b u xs q=>by rw [zb (hm b _ q fun z=>z)];exact q,fun b ps q=>⟨#[],by rw [zb (hm b _ q fun z=>z),q];simp⟩⟩
 by_cases hbe:b=e
 ·subst hbe;exact heo
 ·exact ⟨u,k b u hbe q⟩
theorem Un.mono (u:Un fs ex H H1 h h1) (hs:∀ b∈fs,b∈fs') (hx:∀ b∈ex,b∈ex'):Un fs' ex' H H1 h h1:=
 ⟨fun b ob q n hb he=>u.keep b ob q n (fun z=>hb (hs b z)) fun z=>he (hx b z),fun _ _ q n _ he=>u.any q n fun z=>he (hx _ z),fun b ob q n he=>u.free b ob q n fun z=>he (hx b z),fun b ob q he=>u.there b ob q fun z=>he (hx b z),u.tups,u.frzs,u.tbls⟩
end
noncomputable def trk (h:Heap) (H:Hp):List Addr:=(ao h.objs.size).filter fun a=>(H a).isSome
noncomputable def hidT (h:Heap) (H:Hp):Heap:=W.hideAll h (trk h H)
theorem Jw (h:Heap) (H:Hp):(hidT h H).objs.size=h.objs.size:=W.hideAll_size _ _
theorem QB {h:Heap}{H:Hp}{b:Addr}{o:Obj}(e:h.get? b=some o) (n:H b=none):(hidT h H).get? b=some o:=
 W.hideAll_get _ e fun hm=>by
  have q:(H b).isSome=true:=(lE.mp hm).2
  rw [n] at q;simp at q
theorem zbO {h:Heap}{H:Hp}{b:Addr}{o:Obj}(e:(hidT h H).get? b=some o):h.get? b=some o/\H b=none:=by
 have e':h.get? b=some o:=W.of_hideAll (trk h H) e
 refine ⟨e',?_⟩
 cases q:H b with
 | none=>rfl
 | some x=>
  have hm:b∈trk h H:=lE.mpr ⟨cu.mpr (χ e'),by simp [q]⟩
  have z:(hidT h H).get? b=none:=W.hideAll_none (trk h H) hm
  rw [z] at e;cases e
noncomputable def zcu (g h:Heap) (L:Addr):List (Addr×Obj):=(ao h.objs.size).filterMap fun a=>if a=L\/(g.get? a).isSome=true then none else (h.get? a).map fun o=>(a,o)
noncomputable def rest (g h:Heap) (L d:Addr):List (Addr×Obj):=(zcu g h L).filter fun p=>decide (p.1≠d)
structure Mod (K:W.Frag) (mg:Str->Option δ) (base:Heap):Prop where
 kin:K.In base
 glob:base.Ns ϕ mg
 blt:∃ mb,base.Ns builtinsNs mb/\∀ x:Str,x≠"__name__"->mb x=bU x
 nolimit:base.NoLimit
structure Cx where
 prog:Ω
 w:ϥ
 K:W.Frag
 mg:Str->Option δ
 base:Heap
 A:ϡ
 N:List Str
 sw:ο
 Hz:Hp
 env:Env
 outer:List Env
 stack:List Env
 ex:List Addr
 fn:Str->Bool
 calm:Bool
 pn:List (Addr×Obj)
 xe:δ->ο->Prop
noncomputable def frs (l:List Env):List Addr:=l.filterMap (·.frame)
noncomputable abbrev Cx.fs (X:Cx):List Addr:=frs X.outer
def Vis (sc:c7) (x:Str):Prop:=sc.names.lookup x=some .local\/sc.names.lookup x=some .cell\/sc.names.lookup x=some .free
def Loc (sc:c7) (x:Str):Prop:=sc.names.lookup x=some .local\/sc.names.lookup x=some .cell
def Look (env:Env) (h:Heap) (m:Str->Option δ) (x:Str) (u:δ):Prop:=
 (env.kindOf x=some .local/\m x=some u)\/((env.kindOf x=some .cell\/env.kindOf x=some .free)/\∃ c,env.cells.lookup x=some c/\h.IsCell c (some u))
structure Cx.Ok (X:Cx):Prop where
 mod:Mod X.K X.mg X.base
 kind:X.env.scope.kind=.function
 glob:X.env.globals=ϕ
 blt:X.env.builtins=builtinsNs
 above:X.sw.heap.objs.size<=X.env.locals
 inj:∀ x y c,X.env.cells.lookup x=some c->X.env.cells.lookup y=some c->x=y
 has:∀ x,(X.env.kindOf x=some .cell\/X.env.kindOf x=some .free)->∃ c,X.env.cells.lookup x=some c
 cab:∀ x c,X.fn x=true->X.env.cells.lookup x=some c->X.sw.heap.objs.size<=c
 hd:X.calm=true->X.A.handled=none
 frames:X.A.frames=some X.stack
 stk:X.stack=X.outer\/(X.stack=X.env::X.outer/\X.env.frame=some X.env.locals)
 exf:∀ b∈X.ex,b≠X.env.locals/\∀ x c,X.env.cells.lookup x=some c->c≠b
 bs:∀ b o,X.base.get? b=some o->X.sw.heap.get? b=some o/\X.Hz b=none
 bsz:X.base.objs.size<=X.sw.heap.objs.size
 noex:∀ b o,X.base.get? b=some o->b ∉ X.ex
 exfs:∀ b∈X.ex,b ∉ X.fs
 funs:X.sw.heap.FunFrames X.base X.outer
 frf:∀ b∈X.fs,X.Hz b=none
structure Inv (X:Cx) (pj:List (Addr×Obj)) (σ:List (Option V)) (H:Hp) (s:ο):Prop where
 ok:X.Ok
 os:s.os=X.sw.os
 bare:iy s.gens
 base:Un X.fs X.ex X.Hz H X.sw.heap s.heap
 loc:∃ m,s.heap.Ns X.env.locals m/\∀ (i:Nat) (x:Str) (v:V),X.N[i]?=some x->σ[i]?=some (some v)->Vis X.env.scope x->∃ u,RelV v u/\Look X.env s.heap m x u
 cell:∀ x c,X.env.cells.lookup x=some c->∃ v,s.heap.IsCell c v
 free:H X.env.locals=none
 freeC:∀ x c,X.env.cells.lookup x=some c->H c=none
 pin:∀ p∈X.pn++pj,s.heap.get? p.1=some p.2/\H p.1=none/\p.1≠X.env.locals/\p.1 ∉ X.fs/\∀ v,p.2.data≠.cell v
 hok:HOk X.prog X.w H s.heap
 len:σ.length=X.N.length
section
variable {X:Cx}{pj:List (Addr×Obj)}{σ:List (Option V)}{H H':Hp}{s:ο}{h':Heap}
theorem Cx.Ok.nofr (ok:X.Ok) {b:Addr}{o:Obj}(e:X.base.get? b=some o):b ∉ X.fs:=fun hb=>by
 have:=(ok.funs.mem hb).1
 rw [e] at this;cases this
theorem Inv.bs (I:Inv X pj σ H s):∀ b o,X.base.get? b=some o->s.heap.get? b=some o/\H b=none:=fun b o e=>
 ⟨I.base.keep b o (I.ok.bs b o e).1 (I.ok.bs b o e).2 (I.ok.nofr e) (I.ok.noex b o e),I.base.free b o (I.ok.bs b o e).1 (I.ok.bs b o e).2 (I.ok.noex b o e)⟩
theorem Inv.bk (I:Inv X pj σ H s):∀ b o,X.base.get? b=some o->s.heap.get? b=some o:=fun b o e=>(I.bs b o e).1
theorem Inv.mod (I:Inv X pj σ H s):Mod X.K X.mg X.base:=I.ok.mod
theorem Inv.kIn (I:Inv X pj σ H s):X.K.In s.heap:=I.ok.mod.kin.keeps I.bk
theorem Inv.fr (I:Inv X pj σ H s):∃ m,Fr X.base X.env.locals s.heap m:=
 let ⟨m,hn,_⟩:=I.loc
 ⟨m,hn,I.bk,Ϧ I.ok.bsz I.ok.above⟩
theorem Inv.lt (I:Inv X pj σ H s):X.env.locals < s.heap.objs.size:=let ⟨_,hn,_⟩:=I.loc;hn.lt
theorem Inv.sz (I:Inv X pj σ H s):X.sw.heap.objs.size<=s.heap.objs.size:=Ϧ I.ok.above (gA I.lt)
theorem Inv.nofs (I:Inv X pj σ H s) {a:Addr}(h:s.heap.objs.size<=a):a ∉ X.fs:=fun hb=>by
 obtain ⟨_,o,ho,_⟩:=I.ok.funs.mem hb
 exact absurd (ϓ (χ ho) (Ϧ I.sz h)) (cL _)
theorem Inv.cne (I:Inv X pj σ H s):∀ x c,X.env.cells.lookup x=some c->c≠X.env.locals:=fun x c e z=>by
 obtain ⟨v,o,ho,hd⟩:=I.cell x c e
 obtain ⟨m,⟨o',es,ep,ho',hd',_⟩,_⟩:=I.loc
 rw [z,ho'] at ho;cases ho;rw [hd'] at hd;cases hd
theorem Inv.funs (I:Inv X pj σ H s):s.heap.FunFrames X.base X.outer:=by
 have all:∀ (l:List Env),(∀ b∈frs l,b∈X.fs)->X.sw.heap.FunFrames X.base l->s.heap.FunFrames X.base l:=by
  intro l
  induction l with
  | nil=>intro _ _;trivial
  | cons env r ih=>
   intro hs hl
   obtain ⟨hk,⟨L,o,hf,hn,ho,hd⟩,hr⟩:=hl
   have hL:L∈X.fs:=hs L (by unfold frs;rw [d9,hf];exact ς)
   obtain ⟨sl,e⟩:=I.base.slot L o ho (I.ok.frf L hL) hL fun z=>I.ok.exfs L z hL
   exact ⟨hk,⟨L,_,hf,hn,e,hd⟩,ih (fun b hb=>hs b (by unfold frs;rw [d9,hf];exact ι _ hb)) hr⟩
 exact all X.outer (fun _ hb=>hb) I.ok.funs
theorem Inv.stack (I:Inv X pj σ H s):s.heap.FunFrames X.base X.stack:=by
 rcases I.ok.stk with e | ⟨e,hf⟩
 ·rw [e];exact I.funs
 ·rw [e]
  obtain ⟨m,hn,_⟩:=I.loc
  refine .cons (by rw [I.ok.kind];decide) hf hn ?_ I.funs
  exact Heap.get?_none_of_le (Ϧ I.ok.bsz I.ok.above)
theorem Inv.Xl (I:Inv X pj σ H s):∀ b∈frs X.stack,b∈X.env.locals::X.fs:=fun b hb=>by
 rcases I.ok.stk with e | ⟨e,hf⟩
 ·rw [e] at hb;exact ι _ hb
 ·rw [e] at hb
  unfold frs at hb
  rw [d9,hf] at hb
  exact hb
theorem Inv.VM (I:Inv X pj σ H s):∀ b∈frs X.stack,H b=none:=fun b hb=>by
 rcases Ξ.mp (I.Xl b hb) with e | hb
 ·rw [e];exact I.free
 ·obtain ⟨_,o,ho,_⟩:=I.ok.funs.mem hb
  exact I.base.free b o ho (I.ok.frf b hb) fun z=>I.ok.exfs b z hb
theorem Inv.step {g':Array GenState}{t':Nat}{d':Drawn}{ch:List Addr}(I:Inv X pj σ H s)
  (hch:∀ b∈ch,(b∈X.ex\/X.sw.heap.objs.size<=b)/\b≠X.env.locals/\(∀ x c,X.env.cells.lookup x=some c->c≠b)/\∀ p∈X.pn++pj,p.1≠b)
  (keep:∀ b o,b≠X.env.locals->b ∉ X.fs->b ∉ ch->s.heap.get? b=some o->H b=none->h'.get? b=some o)
  (slot:∀ b o,b≠X.env.locals->b∈X.fs->b ∉ ch->s.heap.get? b=some o->H b=none->∃ sl,h'.get? b=some { o with slots:=sl }) (free:∀ b o,b ∉ ch->s.heap.get? b=some o->H b=none->H' b=none)
  (there:∀ b o,b ∉ ch->s.heap.get? b=some o->∃ o',h'.get? b=some o')
  (tups:∀ b xs,H b=some (.tup xs)->H' b=some (.tup xs)) (frzs:∀ b o u,H b=some (.frz o u)->H' b=some (.frz o u)) (tbls:∀ b ps,H b=some (.tbl ps)->∃ more,H' b=some (.tbl (ps++more)))
  (ns:∀ m,s.heap.Ns X.env.locals m->h'.Ns X.env.locals m) (hok:HOk X.prog X.w H' h') (hg:iy g'):
  Inv X pj σ H' { s with heap:=h',gens:=g',drawn:=d',toks:=t' }:=by
 have neL:∀ b o,X.sw.heap.get? b=some o->b≠X.env.locals:=fun b o e=>ϋ (ϓ (χ e) I.ok.above)
 have neC:∀ b o,X.sw.heap.get? b=some o->b ∉ X.ex->b ∉ ch:=fun b o e hx hb=>by
  rcases (hch b hb).1 with z | z
  ·exact hx z
  ·exact absurd (ϓ (χ e) z) (cL _)
 have cellK:∀ x c,X.env.cells.lookup x=some c->∀ v,s.heap.IsCell c v->h'.IsCell c v:=fun x c e v ⟨o,ho,hd⟩=>by
  have nch:c ∉ ch:=fun z=>(hch c z).2.2.1 x c e rfl
  by_cases hc:c∈X.fs
  ·obtain ⟨sl,q⟩:=slot c o (I.cne x c e) hc nch ho (I.freeC x c e)
   exact ⟨_,q,hd⟩
  ·exact ⟨o,keep c o (I.cne x c e) hc nch ho (I.freeC x c e),hd⟩
 refine ⟨I.ok,I.os,hg,⟨fun b o e n hb hx=>?_,fun b o e n hb hx=>?_,fun b o e n hx=>?_,fun b o e hx=>?_,fun b xs e=>tups b xs (I.base.tups b xs e),fun b o xs e=>frzs b o xs (I.base.frzs b o xs e),fun b ps e=>?_⟩,?_,fun x c e=>?_,?_,fun x c e=>?_,fun p hp=>?_,hok,I.len⟩
 ·exact keep b o (neL b o e) hb (neC b o e hx) (I.base.keep b o e n hb hx) (I.base.free b o e n hx)
 ·obtain ⟨sl,e1⟩:=I.base.slot b o e n hb hx
  obtain ⟨sl',e2⟩:=slot b _ (neL b o e) hb (neC b o e hx) e1 (I.base.free b o e n hx)
  exact ⟨sl',e2⟩
 ·obtain ⟨o',e1⟩:=I.base.there b o e hx
  exact free b o' (neC b o e hx) e1 (I.base.free b o e n hx)
 ·obtain ⟨o',e1⟩:=I.base.there b o e hx
  exact there b o' (neC b o e hx) e1
 ·obtain ⟨m1,e1⟩:=I.base.tbls b ps e
  obtain ⟨m2,e2⟩:=tbls b _ e1
  exact ⟨m1++m2,by rw [e2,nM]⟩
 ·obtain ⟨m,hn,hl⟩:=I.loc
  refine ⟨m,ns m hn,fun i x v e1 e2 e3=>?_⟩
  obtain ⟨u,r,l⟩:=hl i x v e1 e2 e3
  refine ⟨u,r,?_⟩
  rcases l with l | ⟨k,c,e,z⟩
  ·exact .inl l
  ·exact .inr ⟨k,c,e,cellK x c e _ z⟩
 ·obtain ⟨v,z⟩:=I.cell x c e
  exact ⟨v,cellK x c e v z⟩
 ·obtain ⟨m,⟨o,_,_,ho,_⟩,_⟩:=I.loc
  exact free _ o (fun z=>(hch _ z).2.1 rfl) ho I.free
 ·obtain ⟨v,o,ho,hd⟩:=I.cell x c e
  exact free c o (fun z=>(hch c z).2.2.1 x c e rfl) ho (I.freeC x c e)
 ·obtain ⟨e,n,ne,nf,d⟩:=I.pin p hp
  have nch:p.1 ∉ ch:=fun z=>(hch p.1 z).2.2.2 p hp rfl
  exact ⟨keep p.1 p.2 ne nf nch e n,free p.1 p.2 nch e n,ne,nf,d⟩
theorem Inv.un {t':Nat}(I:Inv X pj σ H s) (u:Un X.fs [] H H' s.heap h') (hok:HOk X.prog X.w H' h'):Inv X pj σ H' { s with heap:=h',toks:=t' }:=by
 obtain ⟨m,⟨o,es,ep,ho,r⟩,_⟩:=id I.loc
 obtain ⟨sl,hL⟩:=u.any ho I.free (by simp)
 exact I.step (g':=s.gens) (d':=s.drawn) (ch:=[]) (fun _ z=>nomatch z) (fun b o _ hb _ e n=>u.keep b o e n hb (by simp)) (fun b o _ hb _ e n=>u.slot b o e n hb (by simp)) (fun b o _ e n=>u.free b o e n (by simp)) (fun b o _ e=>u.there b o e (by simp)) u.tups u.frzs u.tbls (fun m' hm=>by
  obtain ⟨o',es',ep',ho',r'⟩:=hm
  rw [ho] at ho';cases ho'
  exact ⟨_,es',ep',hL,r'⟩) hok I.bare
theorem Inv.call {g':Array GenState}{t':Nat}{d':Drawn}{ch:List Addr}(I:Inv X pj σ H s) (u:Un (frs X.stack) ch H H' s.heap h') (hok:HOk X.prog X.w H' h') (hg:iy g')
  (hch:∀ b∈ch,(b∈X.ex\/X.sw.heap.objs.size<=b)/\b≠X.env.locals/\(∀ x c,X.env.cells.lookup x=some c->c≠b)/\∀ p∈X.pn++pj,p.1≠b):
  Inv X pj σ H' { s with heap:=h',gens:=g',drawn:=d',toks:=t' }:=by
 obtain ⟨m,⟨o,es,ep,ho,r⟩,_⟩:=id I.loc
 obtain ⟨sl,hL⟩:=u.any ho I.free fun z=>(hch _ z).2.1 rfl
 exact I.step (ch:=ch) hch (fun b o hL hb hc e n=>u.keep b o e n (fun z=>(Ξ.mp (I.Xl b z)).elim hL hb) hc) (fun b o _ _ hc e n=>u.any e n hc) (fun b o hc e n=>u.free b o e n hc) (fun b o hc e=>u.there b o e hc) u.tups u.frzs u.tbls (fun m' hm=>by
  obtain ⟨o',es',ep',ho',r'⟩:=hm
  rw [ho] at ho';cases ho'
  exact ⟨_,es',ep',hL,r'⟩) hok hg
theorem Inv.turned {t':Nat}{it:Addr}(I:Inv X pj σ H s) (k:∀ b o,b≠it->s.heap.get? b=some o->h'.get? b=some o) (hn:H it=none) (hL:it≠X.env.locals)
  (h1:it∈X.ex\/X.sw.heap.objs.size<=it) (h2:∀ x c,X.env.cells.lookup x=some c->c≠it) (h3:∀ p∈X.pn++pj,p.1≠it):Inv X pj σ H { s with heap:=h',toks:=t' }:=by
 have nit:∀ b u,H b=some u->b≠it:=fun b u e z=>by rw [z,hn] at e;cases e
 refine I.step (g':=s.gens) (d':=s.drawn) (ch:=[it]) (fun b hb=>?_) (fun b o _ _ hc e _=>k b o (fun z=>hc (by simp [z])) e) (fun b o _ _ hc e _=>⟨o.slots,k b o (fun z=>hc (by simp [z])) e⟩) (fun _ _ _ _ n=>n)
  (fun b o hc e=>⟨o,k b o (fun z=>hc (by simp [z])) e⟩) (fun _ _ e=>e) (fun _ _ _ e=>e) (fun b ps e=>⟨#[],by rw [e];simp⟩) (fun m hm=>?_) (fun b u e=>?_) I.bare
 ·have e:b=it:=by simpa using hb
  subst e
  exact ⟨h1,hL,h2,h3⟩
 ·obtain ⟨o,es,ep,ho,r⟩:=hm
  exact ⟨o,es,ep,k _ o (gh hL) ho,r⟩
 ·refine (I.hok b u e).stay (fun c v hc q=>k c v ?_ q) (fun _ q=>q) fun _ _ q=>q
  rcases hc with z | z
  ·rw [z];exact nit b u e
  ·exact nit c _ z
theorem Inv.tok (I:Inv X pj σ H s) (t:Nat):Inv X pj σ H { s with toks:=t }:=I.un (h':=s.heap) (t':=t) Un.refl I.hok
theorem Inv.kept {t':Nat}(I:Inv X pj σ H s) (k:∀ b u,s.heap.get? b=some u->h'.get? b=some u):Inv X pj σ H { s with heap:=h',toks:=t' }:=I.un (Un.kept k) (I.hok.kept k)
theorem Inv.laid {a:Addr}{o:HO}{t':Nat}(I:Inv X pj σ H s) (k:∀ b u,s.heap.get? b=some u->h'.get? b=some u) (hp:s.heap.objs.size<=a) (new:ObjOk X.prog X.w (upd H a o) h' a o):
  Inv X pj σ (upd H a o) { s with heap:=h',toks:=t' }:=I.un (Un.laid k hp (I.hok.fresh hp)) (I.hok.laid k hp new)
theorem Inv.write {x e:Addr}{o:HO}{t':Nat}(I:Inv X pj σ H s) (mu:Mut (H x)) (he:e=x\/H e=some (.own x)) (k:∀ b u,b≠e->s.heap.get? b=some u->h'.get? b=some u) (heo:∃ u,h'.get? e=some u)
  (new:ObjOk X.prog X.w (upd H x o) h' x o):Inv X pj σ (upd H x o) { s with heap:=h',toks:=t' }:=I.un (Un.write mu he k heo) (I.hok.write mu he k heo new)
theorem Inv.Yo {pins':List (Addr×Obj)}(I:Inv X pj σ H s) (h:∀ p∈pins',s.heap.get? p.1=some p.2/\H p.1=none/\p.1≠X.env.locals/\p.1 ∉ X.fs/\∀ v,p.2.data≠.cell v):Inv X pins' σ H s:=
 ⟨I.ok,I.os,I.bare,I.base,I.loc,I.cell,I.free,I.freeC,fun p hp=>(Τ.mp hp).elim (fun z=>I.pin p (dO _ z)) (h p),I.hok,I.len⟩
theorem XR {N:List Str}(hN:N.Nodup) {i j:Nat}{x:Str}(a:N[i]?=some x) (b:N[j]?=some x):i=j:=by
 obtain ⟨h1,e1⟩:=Η.mp a
 obtain ⟨h2,e2⟩:=Η.mp b
 exact (List.getElem_inj hN).mp (e1.trans e2.symm)
theorem VL {M:Model}{A:ϡ}{E:VSP}{i:Nat}{x:Str}{v:V}{u:δ}{Q:Unit->ο->Prop}(I:Inv X pj σ H s) (hN:X.N.Nodup) (hi:X.N[i]?=some x) (hx:Loc X.env.scope x) (r:RelV v u)
  (h:∀ s',Inv X pj (σ.set i (some v)) H s'->(∃ a,ϛ a s.heap s'.heap/\(a=X.env.locals\/X.env.cells.lookup x=some a))->Q () s') (hf:X.fn x=true\/X.env.scope.names.lookup x=some .local:=by first | exact .inl rfl | exact .inr rfl | assumption):Λ M A (storeName X.env x u) Q E s:=by
 obtain ⟨m,hn,hl⟩:=id I.loc
 have hcls:(X.env.scope.kind==.class||(X.env.scope.kind==.module&&X.env.locals != X.env.globals))=false:=by rw [I.ok.kind];rfl
 have hiσ:i < σ.length:=by rw [I.len];exact (Η.mp hi).1
 have cne:=I.cne
 have tracked:∀ {a:Addr}{h':Heap},(∃ o,s.heap.get? a=some o/\H a=none)->ϛ a s.heap h'->HOk X.prog X.w H h':=fun {a h'} ha hs b ob e=>by
  obtain ⟨_,_,hfree⟩:=ha
  refine (I.hok b ob e).stay (fun c w' hc q=>(hs.2 c ?_).trans q) (fun _ q=>q) fun _ _ q=>q
  rintro rfl
  rcases hc with rfl | hc
  ·rw [hfree] at e;cases e
  ·rw [hfree] at hc;cases hc
 rcases hx with hk | hk
 ·refine wpAny_storeName_local hk hn (fun h' hn' hs=>?_) hcls
  obtain ⟨oL,_,_,hoL,_⟩:=id hn
  refine h _ ⟨I.ok,I.os,I.bare,⟨fun b o e n hb hx=>?_,fun b o e n hb hx=>?_,I.base.free,fun b o e hx=>?_,I.base.tups,I.base.frzs,I.base.tbls⟩,⟨_,hn',fun j y v' e1 e2 e3=>?_⟩,fun y c e=>?_,I.free,I.freeC,fun p hp=>?_,tracked ⟨oL,hoL,I.free⟩ hs,by simpa using I.len⟩ ⟨_,hs,.inl rfl⟩
  ·exact (hs.2 b (ϋ (ϓ (χ e) I.ok.above))).trans (I.base.keep b o e n hb hx)
  ·obtain ⟨sl,e1⟩:=I.base.slot b o e n hb hx
   exact ⟨sl,(hs.2 b (ϋ (ϓ (χ e) I.ok.above))).trans e1⟩
  ·obtain ⟨o',e1⟩:=I.base.there b o e hx
   exact ⟨o',(hs.2 b (ϋ (ϓ (χ e) I.ok.above))).trans e1⟩
  ·by_cases hj:j=i
   ·subst hj
    rw [hi] at e1;cases e1
    rw [Ϸ hiσ] at e2
    cases e2
    exact ⟨u,r,.inl ⟨hk,by simp⟩⟩
   ·rw [ϊ (gh hj)] at e2
    obtain ⟨u',r',q⟩:=hl j y v' e1 e2 e3
    refine ⟨u',r',?_⟩
    rcases q with ⟨k,e⟩ | ⟨k,c,e,z⟩
    ·refine .inl ⟨k,?_⟩
     have:y≠x:=fun e=>hj (XR hN e1 (e ▸ hi))
     simp [this,e]
    ·exact .inr ⟨k,c,e,z.sameBut hs (cne y c e)⟩
  ·obtain ⟨w',z⟩:=I.cell y c e
   exact ⟨w',z.sameBut hs (cne y c e)⟩
  ·obtain ⟨e,n,ne,nf,d⟩:=I.pin p hp
   exact ⟨(hs.2 p.1 ne).trans e,n,ne,nf,d⟩
 ·have hfn:X.fn x=true:=by
   rcases hf with z | z
   ·exact z
   ·rw [z] at hk;cases hk
  obtain ⟨c,hc⟩:=I.ok.has x (.inl hk)
  obtain ⟨w',z⟩:=I.cell x c hc
  refine wpAny_storeName_cell I.ok.kind hk hc z (fun h' hc' hs=>?_)
  obtain ⟨oc,hoc,hocd⟩:=id z
  refine h { s with heap:=h' } ⟨I.ok,I.os,I.bare,⟨fun b o e n hb hx=>?_,fun b o e n hb hx=>?_,I.base.free,fun b o e hx=>?_,I.base.tups,I.base.frzs,I.base.tbls⟩,⟨m,hn.sameBut hs (gh (cne x c hc)),fun j y v' e1 e2 e3=>?_⟩,fun y c' e=>?_,I.free,I.freeC,fun p hp=>?_,tracked ⟨oc,hoc,I.freeC x c hc⟩ hs,by simpa using I.len⟩ ⟨c,hs,.inr hc⟩
  ·exact (hs.2 b (ϋ (ϓ (χ e) (I.ok.cab x c hfn hc)))).trans (I.base.keep b o e n hb hx)
  ·obtain ⟨sl,e1⟩:=I.base.slot b o e n hb hx
   exact ⟨sl,(hs.2 b (ϋ (ϓ (χ e) (I.ok.cab x c hfn hc)))).trans e1⟩
  ·obtain ⟨o',e1⟩:=I.base.there b o e hx
   exact ⟨o',(hs.2 b (ϋ (ϓ (χ e) (I.ok.cab x c hfn hc)))).trans e1⟩
  ·by_cases hj:j=i
   ·subst hj
    rw [hi] at e1;cases e1
    rw [Ϸ hiσ] at e2
    cases e2
    exact ⟨u,r,.inr ⟨.inl hk,c,hc,hc'⟩⟩
   ·rw [ϊ (gh hj)] at e2
    obtain ⟨u',r',q⟩:=hl j y v' e1 e2 e3
    refine ⟨u',r',?_⟩
    rcases q with q | ⟨k,c',e,z'⟩
    ·exact .inl q
    ·refine .inr ⟨k,c',e,z'.sameBut hs ?_⟩
     rintro rfl
     exact hj (XR hN e1 (I.ok.inj _ _ _ e hc ▸ hi))
  ·by_cases hcc:c'=c
   ·subst hcc;exact ⟨_,hc'⟩
   ·obtain ⟨w2,z2⟩:=I.cell y c' e
    exact ⟨w2,z2.sameBut hs hcc⟩
  ·obtain ⟨e,n,ne,nf,d⟩:=I.pin p hp
   refine ⟨(hs.2 p.1 ?_).trans e,n,ne,nf,d⟩
   intro q
   rw [q,hoc] at e
   have q':oc=p.2:=Ϛ e
   exact d w' (by rw [<- q'];exact hocd)
theorem Kw {M:Model}{A:ϡ}{E:VSP}{i:Nat}{x:Str}{v:V}{u:δ}{Q:Unit->ο->Prop}(I:Inv X pj σ H s) (hN:X.N.Nodup) (hi:X.N[i]?=some x) (hx:Loc X.env.scope x) (r:RelV v u)
  (h:∀ s',Inv X pj (σ.set i (some v)) H s'->Q () s') (hf:X.fn x=true\/X.env.scope.names.lookup x=some .local:=by first | exact .inl rfl | exact .inr rfl | assumption):Λ M A (storeName X.env x u) Q E s:=
 VL I hN hi hx r (fun s' I' _=>h s' I') hf
theorem Inv.call' {s':ο}{ch:List Addr}(I:Inv X pj σ H s) (ho:s'.os=s.os) (u:Un (frs X.stack) ch H H' s.heap s'.heap) (hok:HOk X.prog X.w H' s'.heap) (hg:iy s'.gens)
  (hch:∀ b∈ch,(b∈X.ex\/X.sw.heap.objs.size<=b)/\b≠X.env.locals/\(∀ x c,X.env.cells.lookup x=some c->c≠b)/\∀ p∈X.pn++pj,p.1≠b):Inv X pj σ H' s':=by
 obtain ⟨h',g',d',t',o'⟩:=s'
 have e:o'=s.os:=ho
 subst e
 exact I.call (g':=g') (t':=t') (d':=d') u hok hg hch
end
abbrev XK:=δ->Option Addr->Hp->Prop
abbrev St:=List (Option V)
abbrev VK:=V->Hp->Prop
abbrev TE:=St->Hp->VK->Prop
abbrev TT:=St->Hp->(Bool->Hp->Prop)->Prop
abbrev TA:=St->Hp->(List V->Hp->Prop)->Prop
structure Ends where
 nx:St->Hp->Prop
 rt:VK
 bk:St->Hp->Prop:=fun _ _=>False
 ct:St->Hp->Prop:=fun _ _=>False
abbrev TS:=Ends->St->Hp->Prop
def EP (X:Cx) (pj:List (Addr×Obj)) (σ:St) (Q:VK) (u:δ) (s':ο):Prop:=∃ v H',Inv X pj σ H' s'/\RelV v u/\Q v H'
def TP (X:Cx) (pj:List (Addr×Obj)) (σ:St) (Q:Bool->Hp->Prop) (b:Bool) (s':ο):Prop:=∃ H',Inv X pj σ H' s'/\Q b H'
def AP (X:Cx) (pj:List (Addr×Obj)) (σ:St) (Q:List V->Hp->Prop) (us:List δ) (s':ο):Prop:=∃ vs H',Inv X pj σ H' s'/\Vals vs us/\Q vs H'
def SP (X:Cx) (pj:List (Addr×Obj)) (D:Ends) (f:Flow) (s':ο):Prop:=
 match f with
 | .next=>∃ σ' H',Inv X pj σ' H' s'/\D.nx σ' H'
 | .brk=>∃ σ' H',Inv X pj σ' H' s'/\D.bk σ' H'
 | .cont=>∃ σ' H',Inv X pj σ' H' s'/\D.ct σ' H'
 | .ret u=>∃ v σ' H',Inv X pj σ' H' s'/\RelV v u/\D.rt v H'
def PE (X:Cx) (e:Expr) (t:TE):Prop:=
 ∀ (pj:List (Addr×Obj)) (s:ο) (σ:St) (H:Hp) (Q:VK),Inv X pj σ H s->t σ H Q->Λ (Χ X.prog X.w) X.A (eval e X.env) (EP X pj σ Q) X.xe s
def PT (X:Cx) (e:Expr) (t:TT):Prop:=
 ∀ (pj:List (Addr×Obj)) (s:ο) (σ:St) (H:Hp) (Q:Bool->Hp->Prop),Inv X pj σ H s->t σ H Q->Λ (Χ X.prog X.w) X.A (iR e X.env (eval e X.env)) (TP X pj σ Q) X.xe s
def PW (X:Cx) (e:Expr) (t:TT):Prop:=
 ∀ (whole:Sem δ) (pj:List (Addr×Obj)) (s:ο) (σ:St) (H:Hp) (Q:Bool->Hp->Prop),Inv X pj σ H s->t σ H Q->Λ (Χ X.prog X.w) X.A (iR e X.env whole) (TP X pj σ Q) X.xe s
theorem PW.pt {X:Cx}{e:Expr}{t:TT}(h:PW X e t):PT X e t:=h _
def PA (X:Cx) (es:List Expr) (t:TA):Prop:=
 ∀ (pos:Pos) (pj:List (Addr×Obj)) (s:ο) (σ:St) (H:Hp) (Q:List V->Hp->Prop),Inv X pj σ H s->t σ H Q->Λ (Χ X.prog X.w) X.A (spliced (fc pos (Ϩ es X.env))) (AP X pj σ Q) X.xe s
def PS (X:Cx) (st:Stmt) (t:TS):Prop:=
 ∀ (pj:List (Addr×Obj)) (s:ο) (σ:St) (H:Hp) (D:Ends),Inv X pj σ H s->t D σ H->Λ (Χ X.prog X.w) X.A (exec st X.env) (SP X pj D) X.xe s
def PSs (X:Cx) (st:List Stmt) (t:TS):Prop:=
 ∀ (pj:List (Addr×Obj)) (s:ο) (σ:St) (H:Hp) (D:Ends),Inv X pj σ H s->t D σ H->Λ (Χ X.prog X.w) X.A (execs st X.env) (SP X pj D) X.xe s
theorem thn {α:Type}{t:Sem α}{Q Q':α->ο->Prop}{M:Model}{A:ϡ}{E:VSP}{s:ο}(h:Λ M A t Q E s) (hQ:∀ a s,Q a s->Q' a s):Λ M A t Q' E s:=cF h hQ fun _ _ x=>x
section
variable {X:Cx}
theorem bin {a b:Expr}{ta tb:TE}(ha:PE X a ta) (hb:PE X b tb) {pj:List (Addr×Obj)}{s:ο}{σ:St}{H:Hp}{R:V->V->Hp->Prop}(I:Inv X pj σ H s) (h:ta σ H fun x H1=>tb σ H1 fun y H2=>R x y H2)
  {α:Type}{Q:α->ο->Prop}{f:δ->δ->Sem α}
  (hf:∀ v u s2 x y H2,Inv X pj σ H2 s2->RelV x v->RelV y u->R x y H2->Λ (Χ X.prog X.w) X.A (f v u) Q X.xe s2):
  Λ (Χ X.prog X.w) X.A (eval a X.env) (fun v s₁=>Λ (Χ X.prog X.w) X.A (eval b X.env) (fun u s₂=>Λ (Χ X.prog X.w) X.A (f v u) Q X.xe s₂) X.xe s₁) X.xe s:=by
 refine thn (ha pj s σ H _ I h) fun v s1 ⟨x,H1,I1,r1,q1⟩=>?_
 refine thn (hb pj s1 σ H1 _ I1 q1) fun u s2 ⟨y,H2,I2,r2,q2⟩=>?_
 exact hf v u s2 x y H2 I2 r1 r2 q2
def tVar (i:Nat):TE:=fun σ H Q=>∃ v,σ[i]?=some (some v)/\Q v H
def tC (v:V):TE:=fun _ H Q=>Q v H
theorem XH {i:Nat}{x:Str}{pos:Pos}(hN:X.N[i]?=some x) (hv:Vis X.env.scope x) (hd:(x==("__debug__":Str))=false:=by decide) (hcd:(x==("__classdict__":Str))=false:=by decide):PE X (.Name x pos) (tVar i):=by
 intro pj s σ H Q I h
 obtain ⟨v,e,h⟩:=h
 obtain ⟨m,hn,hl⟩:=I.loc
 obtain ⟨u,r,l⟩:=hl i x v hN e hv
 have fin:EP X pj σ Q u s:=⟨v,H,I,r,h⟩
 rcases l with ⟨hk,hm⟩ | ⟨hk,c,hc,hcell⟩
 ·exact wpAny_Name (wpAny_loadName_local I.ok.kind hk hn hm fin) hd
 ·rcases hk with hk | hk
  ·exact wpAny_Name (wpAny_loadName_cell I.ok.kind hk hc hcell fin) hd
  ·exact wpAny_Name (wpAny_loadName_free I.ok.kind hk hc hcell fin hcd) hd
theorem zak {i j pos}:PE X (.Constant (.int i) j pos) (tC (.int i)):=fun _ _ _ H _ I h=>wpAny_Constant_int ⟨.int i,H,I.tok _,⟨_,rfl⟩,h⟩
theorem pe_bl {b j pos}:PE X (.Constant (.bool b) j pos) (tC (.bl b)):=fun _ _ _ H _ I h=>Constant_bool ⟨.bl b,H,I,rfl,h⟩
theorem zdw {j pos}:PE X (.Constant .none j pos) (tC .non):=fun _ _ _ H _ I h=>Constant_none ⟨.non,H,I,rfl,h⟩
theorem zaj {x j pos}:PE X (.Constant (.str x) j pos) (tC (.str x)):=fun _ _ _ H _ I h=>Calls.Constant_str ⟨.str x,H,I.tok _,⟨_,rfl⟩,h⟩
def Gl (X:Cx) (x:Str):Prop:=X.env.kindOf x=some .globalImplicit
theorem YF {E:VSP}{pj:List (Addr×Obj)}{s:ο}{σ:St}{H:Hp}{x:Str}{u:δ}{pos:Pos}{Q:VSP}(I:Inv X pj σ H s) (hg:Gl X x) (hm:X.mg x=some u) (h:Q u s)
  (hd:(x==("__debug__":Str))=false:=by decide):Λ (Χ X.prog X.w) X.A (eval (.Name x pos) X.env) Q E s:=
 lJ I.ok.kind hg (Calls.loadGlobal_global (by rw [I.ok.glob];exact I.mod.glob.keeps I.bk) hm h) hd
theorem Zd {E:VSP}{pj:List (Addr×Obj)}{s:ο}{σ:St}{H:Hp}{x:Str}{u:δ}{pos:Pos}{Q:VSP}(I:Inv X pj σ H s) (hg:Gl X x) (hm:X.mg x=none) (hv:bU x=some u) (h:Q u s)
  (hn:x≠"__name__":=by decide) (hd:(x==("__debug__":Str))=false:=by decide):Λ (Χ X.prog X.w) X.A (eval (.Name x pos) X.env) Q E s:=by
 obtain ⟨mb,h1,h2⟩:=I.mod.blt
 exact lJ I.ok.kind hg (Calls.loadGlobal_builtin (by rw [I.ok.glob];exact I.mod.glob.keeps I.bk) hm (by rw [I.ok.blt];exact h1.keeps I.bk) ((h2 x hn).trans hv) h) hd
theorem zbC {x:Str}{v:V}{u:δ}{pos:Pos}(hg:Gl X x) (hm:X.mg x=some u) (r:RelV v u) (hd:(x==("__debug__":Str))=false:=by decide):PE X (.Name x pos) (tC v):=
 fun _ _ _ H _ I h=>YF I hg hm ⟨v,H,I,r,h⟩ hd
theorem zbG {x:Str}{v:V}{u:δ}{pos:Pos}(hg:Gl X x) (hm:X.mg x=none) (hv:bU x=some u) (r:RelV v u) (hn:x≠"__name__":=by decide) (hd:(x==("__debug__":Str))=false:=by decide):PE X (.Name x pos) (tC v):=
 fun _ _ _ H _ I h=>Zd I hg hm hv ⟨v,H,I,r,h⟩ hn hd
variable {a b:Expr}{ta tb:TE}{pos:Pos}
def PC (X:Cx) (op:dZ) (a b:Expr) (t:TE):Prop:=
 ∀ (pj:List (Addr×Obj)) (s:ο) (σ:St) (H:Hp) (Q:VK),Inv X pj σ H s->t σ H Q ->
  Λ (Χ X.prog X.w) X.A (eval a X.env) (fun v s₁=>Λ (Χ X.prog X.w) X.A (eval b X.env) (fun u s₂=>Λ (Χ X.prog X.w) X.A (ώ op v u) (EP X pj σ Q) X.xe s₂) X.xe s₁) X.xe s
theorem Qm (b:Expr) {op:dZ}(h:op≠.In) (h2:op≠.NotIn):behindInMarks op b=false:=by
 have e1:(op==dZ.In)=false:=by cases op <;> first | rfl | exact absurd rfl h
 have e2:(op==dZ.NotIn)=false:=by cases op <;> first | rfl | exact absurd rfl h2
 cases b <;> simp [behindInMarks,e1,e2]
def tB (t:TE):TT:=fun σ H Q=>t σ H fun x H1=>∃ c,x=.bl c/\Q c H1
theorem zeJ {op:dZ}{t:TE}(h:PC X op a b t) (h1:behindInMarks op b=false:=by first | exact Qm _ (by decide) (by decide) | rfl):PT X (.Compare a [op] [b] pos) (tB t):=by
 intro pj s σ H Q I hw
 refine wpAny_isTrue_Compare1 (thn (h pj s σ H _ I hw) fun v s1 h1=>thn h1 fun u s2 h2=>thn h2 fun c s3 ⟨x,H1,I1,r1,q1⟩=>?_) h1
 obtain ⟨d,rfl,q⟩:=q1
 cases r1
 exact ϲ ⟨H1,I1,q⟩
theorem zdk {e:Expr}{t:TE}(h:PE X e t) (he:∀ whole,iR e X.env whole=(do let v <- whole;standAt e.pos;ig [v] (truthy v)):=by intro _;rfl):PT X e (tB t):=by
 intro pj s σ H Q I hw
 refine isTrue_plain (thn (h pj s σ H _ I hw) fun v s1 ⟨x,H1,I1,r1,q1⟩=>?_) (he _)
 obtain ⟨d,rfl,q⟩:=q1
 cases r1
 exact ϲ ⟨H1,I1,q⟩
variable {tA tB':TT}{rest:List Expr}
def tAnd (t u:TT):TT:=fun σ H Q=>t σ H fun c H1=>if c=true then u σ H1 Q else Q false H1
def tOr (t u:TT):TT:=fun σ H Q=>t σ H fun c H1=>if c=true then Q true H1 else u σ H1 Q
def tNot (t:TT):TT:=fun σ H Q=>t σ H fun c H1=>Q (!c) H1
theorem zbo (ha:PT X a tA):PW X (.BoolOp .And [a] pos) tA:=by
 intro wh pj s σ H Q I h
 refine isTrue_and (thn (ha pj s σ H Q I h) fun c s1 e=>?_)
 cases c with
 | true=>exact isTrue_and_nil e
 | false=>exact e
theorem zdi (ha:PT X a tA):PW X (.BoolOp .Or [a] pos) tA:=by
 intro wh pj s σ H Q I h
 refine isTrue_or (thn (ha pj s σ H Q I h) fun c s1 e=>?_)
 cases c with
 | false=>exact isTrue_or_nil e
 | true=>exact e
theorem zdj (ha:PT X a tA) (hb:PW X (.BoolOp .And (b::rest) pos) tB'):PW X (.BoolOp .And (a::b::rest) pos) (tAnd tA tB'):=by
 intro wh pj s σ H Q I h
 refine isTrue_and (thn (ha pj s σ H _ I h) fun c s1 ⟨H1,I1,q1⟩=>?_)
 cases c with
 | true=>exact hb wh pj s1 σ H1 Q I1 q1
 | false=>exact ⟨H1,I1,q1⟩
theorem pw_or (ha:PT X a tA) (hb:PW X (.BoolOp .Or (b::rest) pos) tB'):PW X (.BoolOp .Or (a::b::rest) pos) (tOr tA tB'):=by
 intro wh pj s σ H Q I h
 refine isTrue_or (thn (ha pj s σ H _ I h) fun c s1 ⟨H1,I1,q1⟩=>?_)
 cases c with
 | true=>exact ⟨H1,I1,q1⟩
 | false=>exact hb wh pj s1 σ H1 Q I1 q1
theorem zdl (ha:PT X a tA):PT X (.UnaryOp .Not a pos) (tNot tA):=by
 intro pj s σ H Q I h
 exact isTrue_not (ha pj s σ H (fun c H1=>Q (!c) H1) I h)
def tAndV (ta tb:TE):TE:=fun σ H Q=>ta σ H fun x H1=>∃ c,x=.bl c/\if c=true then tb σ H1 Q else Q (.bl false) H1
def tOrV (ta tb:TE):TE:=fun σ H Q=>ta σ H fun x H1=>∃ c,x=.bl c/\if c=true then Q (.bl true) H1 else tb σ H1 Q
def tNotV (ta:TE):TE:=fun σ H Q=>ta σ H fun x H1=>∃ c,x=.bl c/\Q (.bl (!c)) H1
theorem zdu {op} {t:TE}(h:PE X a t):PE X (.BoolOp op [a] pos) t:=fun pj s σ H Q I hw=>BoolOp_one (h pj s σ H Q I hw)
theorem zdy (ha:PE X a ta) (hb:PE X (.BoolOp .And (b::rest) pos) tb):PE X (.BoolOp .And (a::b::rest) pos) (tAndV ta tb):=by
 intro pj s σ H Q I h
 refine BoolOp_and (thn (ha pj s σ H _ I h) fun v s1 ⟨x,H1,I1,r1,q1⟩=>?_)
 obtain ⟨c,rfl,q1⟩:=q1
 cases r1
 refine ϲ ?_
 cases c with
 | true=>exact hb pj s1 σ H1 Q I1 q1
 | false=>exact ⟨.bl false,H1,I1,rfl,q1⟩
theorem pe_or (ha:PE X a ta) (hb:PE X (.BoolOp .Or (b::rest) pos) tb):PE X (.BoolOp .Or (a::b::rest) pos) (tOrV ta tb):=by
 intro pj s σ H Q I h
 refine BoolOp_or (thn (ha pj s σ H _ I h) fun v s1 ⟨x,H1,I1,r1,q1⟩=>?_)
 obtain ⟨c,rfl,q1⟩:=q1
 cases r1
 refine ϲ ?_
 cases c with
 | false=>exact hb pj s1 σ H1 Q I1 q1
 | true=>exact ⟨.bl true,H1,I1,rfl,q1⟩
theorem zdv (ha:PE X a ta):PE X (.UnaryOp .Not a pos) (tNotV ta):=by
 intro pj s σ H Q I h
 refine UnaryOp_ (thn (ha pj s σ H _ I h) fun v s1 ⟨x,H1,I1,r1,q1⟩=>?_)
 obtain ⟨c,rfl,q1⟩:=q1
 cases r1
 exact not_of (ϲ ⟨.bl (!c),H1,I1,rfl,q1⟩)
def tIf (t:TT) (ta tb:TE):TE:=fun σ H Q=>t σ H fun c H1=>if c=true then ta σ H1 Q else tb σ H1 Q
theorem K8 {c:Expr}(hc:PT X c tA) (ha:PE X a ta) (hb:PE X b tb):PE X (.IfExp c a b pos) (tIf tA ta tb):=by
 intro pj s σ H Q I h
 refine wpAny_IfExp (thn (hc pj s σ H _ I h) fun d s1 ⟨H1,I1,q1⟩=>?_)
 cases d with
 | true=>exact ha pj s1 σ H1 Q I1 q1
 | false=>exact hb pj s1 σ H1 Q I1 q1
end
def SqL (K:W.Frag) (H:Hp) (a:Addr) (xs:List V):Prop:=
 Rd H a (.lst xs) \/
  ∃ (o:Obj) (its:Array δ) (n:Nat),K.lookup a=some o/\o.cls=.type "list"/\o.dict=none/\o.data=.seq its n/\its.size<=sizeLine/\Vals xs its.toList
def SqT (K:W.Frag) (H:Hp) (a:Addr) (xs:List V):Prop:=
 Rd H a (.tup xs) \/
  ∃ (o:Obj) (its:Array δ) (n:Nat),K.lookup a=some o/\o.cls=.type "tuple"/\o.data=.seq its n/\its.size<=sizeLine/\Vals xs its.toList
noncomputable def absV:δ->Option V
 | .none=>some .non
 | .bool b=>some (.bl b)
 | .int i _=>some (.int i)
 | .str x _=>some (.str x)
 | .bytes b _=>some (.byt b)
 | .float b _=>some (.flt b)
 | .ref a=>some (.ref a)
 | .type n=>some (.ty n)
 | _=>none
theorem RelV.abs {x:V}{u:δ}(r:RelV x u):absV u=some x:=by
 cases x with
 | non=>cases r;rfl
 | bl _=>cases r;rfl
 | int _=>obtain ⟨t,rfl⟩:=r;rfl
 | str _=>obtain ⟨t,rfl⟩:=r;rfl
 | byt _=>obtain ⟨t,rfl⟩:=r;rfl
 | flt _=>obtain ⟨t,rfl⟩:=r;rfl
 | ref _=>cases r;rfl
 | ty _=>cases r;rfl
theorem RelV.inj {x y:V}{u:δ}(r:RelV x u) (q:RelV y u):x=y:=Ϛ (r.abs.symm.trans q.abs)
theorem Vals.inj:∀ {xs ys:List V}{us:List δ},Vals xs us->Vals ys us->xs=ys
 | _,_,_,.nil,.nil=>rfl
 | _,_,_,.cons r t,.cons r' t'=>by rw [r.inj r',Vals.inj t t']
section
variable {X:Cx}{pj:List (Addr×Obj)}{σ:St}{H:Hp}{s:ο}{a:Addr}{xs ys:List V}
theorem SqL.of {K:W.Frag}(h:H a=some (.lst xs)):SqL K H a xs:=.inl (.inl h)
theorem SqT.of {K:W.Frag}(h:H a=some (.tup xs)):SqT K H a xs:=.inl (.inl h)
theorem Inv.list (I:Inv X pj σ H s) (h:SqL X.K H a xs):∃ its:List δ,Vals xs its/\PlainL s.heap a its.toArray/\xs.length<=sizeLine:=by
 rcases h with h | ⟨o,its,n,hk,hc,hd,hs,hz,r⟩
 ·obtain ⟨z,its,n,r,e⟩:=h.ok I.hok
  exact ⟨its,r,⟨_,n,e,rfl,rfl,rfl⟩,z⟩
 ·refine ⟨its.toList,r,⟨o,n,I.kIn a o hk,hc,hd,by simpa using hs⟩,?_⟩
  have e:=r.length
  simp only [aC] at e
  lia
theorem Inv.tuple (I:Inv X pj σ H s) (h:SqT X.K H a xs):∃ its:List δ,Vals xs its/\IsTup s.heap a its.toArray/\xs.length<=sizeLine:=by
 rcases h with h | ⟨o,its,n,hk,hc,hs,hz,r⟩
 ·obtain ⟨z,its,r,p⟩:=h.ok I.hok
  exact ⟨its,r,p,z⟩
 ·refine ⟨its.toList,r,⟨o,I.kIn a o hk,hc,n,by simpa using hs⟩,?_⟩
  have e:=r.length
  simp only [aC] at e
  lia
theorem Inv.X7 (I:Inv X pj σ H s) (h:SqL X.K H a xs) (h':SqL X.K H a ys):xs=ys:=by
 obtain ⟨its,r,⟨o,n,e,_,_,d⟩,_⟩:=I.list h
 obtain ⟨its',r',⟨o',n',e',_,_,d'⟩,_⟩:=I.list h'
 rw [e] at e';cases e'
 rw [d] at d'
 injection d' with d1 _
 have:its=its':=by simpa using congrArg Array.toList d1
 subst this
 exact r.inj r'
theorem Inv.qy (I:Inv X pj σ H s) (h:SqT X.K H a xs) (h':SqT X.K H a ys):xs=ys:=by
 obtain ⟨its,r,⟨o,e,_,n,d⟩,_⟩:=I.tuple h
 obtain ⟨its',r',⟨o',e',_,n',d'⟩,_⟩:=I.tuple h'
 rw [e] at e';cases e'
 rw [d] at d'
 injection d' with d1 _
 have:its=its':=by simpa using congrArg Array.toList d1
 subst this
 exact r.inj r'
end
noncomputable abbrev Cx.wish (X:Cx) (E:VSP):Cx:={ X with xe:=E }
noncomputable abbrev Cx.nox (X:Cx):Cx:=X.wish fun _ _=>False
theorem Cx.Ok.wish {X:Cx}(ok:X.Ok) (E:VSP):(X.wish E).Ok:=
 ⟨ok.mod,ok.kind,ok.glob,ok.blt,ok.above,ok.inj,ok.has,ok.cab,ok.hd,ok.frames,ok.stk,ok.exf,ok.bs,ok.bsz,ok.noex,ok.exfs,ok.funs,ok.frf⟩
theorem Cx.Ok.wI {X:Cx}{E:VSP}(ok:(X.wish E).Ok):X.Ok:=
 ⟨ok.mod,ok.kind,ok.glob,ok.blt,ok.above,ok.inj,ok.has,ok.cab,ok.hd,ok.frames,ok.stk,ok.exf,ok.bs,ok.bsz,ok.noex,ok.exfs,ok.funs,ok.frf⟩
section
variable {X:Cx}{pj:List (Addr×Obj)}{σ:St}{H:Hp}{s:ο}{E:VSP}
theorem Inv.wish (I:Inv X pj σ H s) (E:VSP):Inv (X.wish E) pj σ H s:=⟨I.ok.wish E,I.os,I.bare,I.base,I.loc,I.cell,I.free,I.freeC,I.pin,I.hok,I.len⟩
theorem Inv.wI (I:Inv (X.wish E) pj σ H s):Inv X pj σ H s:=⟨I.ok.wI,I.os,I.bare,I.base,I.loc,I.cell,I.free,I.freeC,I.pin,I.hok,I.len⟩
theorem SP.wI {D:Ends}{f:Flow}{s':ο}(h:SP (X.wish E) pj D f s'):SP X pj D f s':=by
 cases f with
 | next=>obtain ⟨σ',H',I,q⟩:=h;exact ⟨σ',H',I.wI,q⟩
 | brk=>obtain ⟨σ',H',I,q⟩:=h;exact ⟨σ',H',I.wI,q⟩
 | cont=>obtain ⟨σ',H',I,q⟩:=h;exact ⟨σ',H',I.wI,q⟩
 | ret u=>obtain ⟨v,σ',H',I,r,q⟩:=h;exact ⟨v,σ',H',I.wI,r,q⟩
theorem PSs.nox {st:List Stmt}{t:TS}(h:PSs X.nox st t):PSs X st t:=fun pj s σ H D I hw=>
 cF (h pj s σ H D (I.wish _) hw) (fun _ _ q=>q.wI) fun _ _ z=>ak z
end
section
variable {X:Cx}{st:Stmt}{rest:List Stmt}{t u:TS}{e:Expr}{te:TE}{pos:Pos}
def tNext:TS:=fun D σ H=>D.nx σ H
def tSeq (t u:TS):TS:=fun D σ H=>t { D with nx:=u D } σ H
theorem zbv:PSs X [] tNext:=fun _ _ σ H _ I h=>mK ⟨σ,H,I,h⟩
theorem KY (h1:PS X st t) (h2:PSs X rest u):PSs X (st::rest) (tSeq t u):=by
 intro pj s σ H D I h
 refine wpAny_execs_cons (thn (h1 pj s σ H { D with nx:=u D } I h) fun f s1 q=>?_)
 cases f with
 | next=>
  obtain ⟨σ',H',I',q⟩:=q
  exact h2 pj s1 σ' H' D I' q
 | ret v=>exact q
 | brk=>exact q
 | cont=>exact q
def zcQ:TS:=fun D σ H=>D.bk σ H
def tCont:TS:=fun D σ H=>D.ct σ H
theorem zbx:PS X (.Pass pos) tNext:=fun _ _ σ H _ I h=>wpAny_Pass ⟨σ,H,I,h⟩
theorem K1:PS X (.Break pos) zcQ:=fun _ _ σ H _ I h=>wpAny_Break ⟨σ,H,I,h⟩
theorem Yn:PS X (.Continue pos) tCont:=fun _ _ σ H _ I h=>wpAny_Continue ⟨σ,H,I,h⟩
theorem Inv.quiet {pj:List (Addr×Obj)}{σ:St}{H:Hp}{s:ο}(I:Inv X pj σ H s):interactive X.env=false:=by simp [interactive,I.ok.kind]
def tDrop (te:TE):TS:=fun D σ H=>te σ H fun _ H1=>D.nx σ H1
theorem Ym (he:PE X e te) (hs:gK e none pos.line X.env=pure false:=by rfl):PS X (.Expr e pos) (tDrop te):=by
 intro pj s σ H D I h
 exact wpAny_Expr_any (thn (he pj s σ H _ I h) fun v s1 ⟨x,H1,I1,r1,q1⟩=>⟨σ,H1,I1,q1⟩) I.quiet hs
def tRet (te:TE):TS:=fun D σ H=>te σ H D.rt
theorem zai (he:PE X e te):PS X (.Return (some e) pos) (tRet te):=by
 intro pj s σ H D I h
 exact wpAny_Return_some (thn (he pj s σ H _ I h) fun v s1 ⟨x,H1,I1,r1,q1⟩=>⟨x,σ,H1,I1,r1,q1⟩)
def tRetN:TS:=fun D _ H=>D.rt .non H
theorem zbw:PS X (.Return none pos) tRetN:=fun _ _ σ H _ I h=>wpAny_Return_none ⟨.non,σ,H,I,rfl,h⟩
def tIfS (c:TT) (t u:TS):TS:=fun D σ H=>c σ H fun b H1=>if b=true then t D σ H1 else u D σ H1
theorem ps_if {c:Expr}{a b:List Stmt}{tc:TT}(hc:PT X c tc) (ha:PSs X a t) (hb:PSs X b u):PS X (.If c a b pos) (tIfS tc t u):=by
 intro pj s σ H D I h
 refine wpAny_If (thn (hc pj s σ H _ I h) fun d s1 ⟨H1,I1,q1⟩=>?_)
 cases d with
 | true=>exact ha pj s1 σ H1 D I1 q1
 | false=>exact hb pj s1 σ H1 D I1 q1
end
abbrev TG:=V->St->Hp->(St->Hp->Prop)->Prop
abbrev TGs:=List V->St->Hp->(St->Hp->Prop)->Prop
def PG (X:Cx) (target:Expr) (t:TG):Prop:=
 ∀ (pj:List (Addr×Obj)) (s:ο) (σ:St) (H:Hp) (v:V) (u:δ) (Q:St->Hp->Prop),Inv X pj σ H s->RelV v u->t v σ H Q ->
  Λ (Χ X.prog X.w) X.A (gw target X.env u) (fun _ s'=>∃ σ' H',Inv X pj σ' H' s'/\Q σ' H') X.xe s
def PGs (X:Cx) (ts:List Expr) (t:TGs):Prop:=
 ∀ (pj:List (Addr×Obj)) (s:ο) (σ:St) (H:Hp) (vs:List V) (us:List δ) (Q:St->Hp->Prop),Inv X pj σ H s->Vals vs us->t vs σ H Q ->
  Λ (Χ X.prog X.w) X.A (assignInOrder ((aW ts X.env).map (·.2)) us) (fun _ s'=>∃ σ' H',Inv X pj σ' H' s'/\Q σ' H') X.xe s
abbrev TSet:=V->V->V->Hp->(Hp->Prop)->Prop
def PSet (X:Cx) (t:TSet):Prop:=
 ∀ (pj:List (Addr×Obj)) (s:ο) (σ:St) (H:Hp) (o i v:V) (ov iv u:δ) (Q:Hp->Prop),Inv X pj σ H s->RelV o ov->RelV i iv->RelV v u->t o i v H Q ->
  Λ (Χ X.prog X.w) X.A (setItem ov iv u) (fun _ s'=>∃ H',Inv X pj σ H' s'/\Q H') X.xe s
section
variable {X:Cx}{pos:Pos}
def gName (i:Nat):TG:=fun v σ H Q=>Q (σ.set i (some v)) H
theorem Uq {i:Nat}{x:Str}(hN:X.N.Nodup) (hi:X.N[i]?=some x) (hx:Loc X.env.scope x) (hf:X.fn x=true\/X.env.scope.names.lookup x=some .local:=by first | exact .inl rfl | exact .inr rfl | assumption):PG X (.Name x pos) (gName i):=by
 intro pj s σ H v u Q I r h
 exact wpAny_assign_Name (Kw I hN hi hx r (fun s' I'=>⟨_,H,I',h⟩) hf)
def gNil:TGs:=fun vs σ H Q=>vs=[]/\Q σ H
def gCons (t:TG) (u:TGs):TGs:=fun vs σ H Q=>∃ v r,vs=v::r/\t v σ H fun σ' H'=>u r σ' H' Q
theorem Um:PGs X [] gNil:=by
 intro pj s σ H vs us Q I r h
 obtain ⟨e,h⟩:=h
 subst e
 cases r
 exact assignInOrder_nil ⟨σ,H,I,h⟩
theorem jU {e:Expr}{es:List Expr}{t:TG}{u:TGs}(h1:PG X e t) (h2:PGs X es u)
  (hs:(aW (e::es) X.env).map (·.2)=gw e X.env::(aW es X.env).map (·.2):=by rfl):PGs X (e::es) (gCons t u):=by
 intro pj s σ H vs us Q I r h
 obtain ⟨v,vr,e1,h⟩:=h
 subst e1
 cases r with
 | cons r rr=>
  rw [hs]
  refine assignInOrder_cons (thn (h1 pj s σ H _ _ _ I r h) fun _ s1 ⟨σ1,H1,I1,q1⟩=>?_)
  exact h2 pj s1 σ1 H1 _ _ Q I1 rr q1
def gTup (K:W.Frag) (n:Nat) (t:TGs):TG:=fun v σ H Q=>∃ a xs,v=.ref a/\SqT K H a xs/\xs.length=n/\t xs σ H Q
theorem Uo {es:List Expr}{k:Nat}{t:TGs}{n:Nat}(hc:X.calm=true) (h:PGs X es t)
  (hn:(aW es X.env).length=n:=by rfl) (hst:(aW es X.env).findIdx? (·.1)=none:=by rfl):PG X (.Tuple es k pos) (gTup X.K n t):=by
 intro pj s σ H v u Q I r hw
 obtain ⟨a,xs,e1,hq,hl,hw⟩:=hw
 subst e1
 cases r
 obtain ⟨its,rv,ht,hz⟩:=I.tuple hq
 refine assign_Tuple_tuple (I.ok.hd hc) ht (by simp [hn,<- hl,rv.length]) hst fun h' hx=>?_
 have I1:Inv X pj σ H { s with heap:=h' }:=I.kept (t':=s.toks) fun b o e=>hx b o (ϋ (χ e)) e
 exact h pj _ σ H xs _ Q I1 (by simpa using rv) hw
def gSub (to ti:TE) (t:TSet):TG:=fun v σ H Q=>to σ H fun o H1=>ti σ H1 fun i H2=>t o i v H2 fun H3=>Q σ H3
theorem zds {o i:Expr}{to ti:TE}{t:TSet}(ho:PE X o to) (hi:PE X i ti) (hs:PSet X t)
  (ha:∀ v,gw (.Subscript o i pos) X.env v=(do
   let ov <- ig [v] (eval o X.env)
   let iv <- ig [v,ov] (eval i X.env)
   standAt pos
   ig [v,ov,iv] (setItem ov iv v)
   release [v,ov,iv] []):=by intro _;rfl):PG X (.Subscript o i pos) (gSub to ti t):=by
 intro pj s σ H v u Q I r h
 rw [ha]
 refine γ (bj (thn (ho pj s σ H _ I h) fun ov s1 ⟨x,H1,I1,r1,q1⟩=>?_))
 refine γ (bj (thn (hi pj s1 σ H1 _ I1 q1) fun iv s2 ⟨y,H2,I2,r2,q2⟩=>?_))
 refine γ (lu (γ (bj (thn (hs pj s2 σ H2 x y v ov iv u _ I2 r1 r2 r q2) fun _ s3 ⟨H3,I3,q3⟩=>?_))))
 exact wpAny_release ⟨σ,H3,I3,q3⟩
def tAsg (te:TE) (g:TG):TS:=fun D σ H=>te σ H fun x H1=>g x σ H1 D.nx
theorem Ug {tg e:Expr}{te:TE}{g:TG}(he:PE X e te) (hg:PG X tg g) (hs:cY [tg] e pos.line X.env=pure false:=by rfl) (hw:cj [tg] e X.env=pure none:=by rfl)
  (h1:(aW [tg] X.env).map (·.2)=[gw tg X.env]:=by rfl):PS X (.Assign [tg] e pos) (tAsg te g):=by
 intro pj s σ H D I h
 refine wpAny_Assign_stores (thn (he pj s σ H _ I h) fun v s1 ⟨x,H1,I1,r1,q1⟩=>?_) hs hw
 rw [h1]
 exact thn (hg pj s1 σ H1 x v _ I1 r1 q1) fun _ s2 q=>q
end
section
variable {X:Cx}{pos:Pos}
def zcM (c:TT) (tb:TS):TS:=fun D σ H=>∃ W:Nat->St->Hp->Prop,(∃ m,W m σ H)/\∀ m σ H,W m σ H ->
 c σ H fun b H1=>if b=true then ∃ N:St->Hp->Prop,(∀ σ' H',N σ' H'->∃ m',m' < m/\W m' σ' H')/\tb { D with nx:=N,ct:=N,bk:=D.nx } σ H1 else D.nx σ H1
theorem KZ {c:Expr}{body:List Stmt}{tc:TT}{tb:TS}(hp:gO (Χ X.prog X.w) X.A X.env X.xe) (hc:PT X c tc) (hb:PSs X body tb):PS X (.While c body [] pos) (zcM tc tb):=by
 intro pj s σ H D I h
 obtain ⟨W,⟨m0,w0⟩,turn⟩:=h
 refine wpAny_While (codeAny_whileLoop (fun n s'=>∃ σ' H',Inv X pj σ' H' s'/\W n σ' H') ?_ m0 ⟨σ,H,I,w0⟩)
 rintro n s1 ⟨σ1,H1,I1,w1⟩
 refine b7 hp (thn (hc pj s1 σ1 H1 _ I1 (turn n σ1 H1 w1)) fun b s2 ⟨H2,I2,q2⟩=>?_)
 cases b with
 | true=>
  obtain ⟨N,hN,q2⟩:=q2
  rw [if_pos rfl]
  refine b7 hp (thn (hb pj s2 σ1 H2 _ I2 q2) fun f s3 q3=>?_)
  cases f with
  | next=>
   obtain ⟨σ3,H3,I3,n3⟩:=q3
   obtain ⟨m',hm,w3⟩:=hN σ3 H3 n3
   exact ⟨m',hm,σ3,H3,I3,w3⟩
  | cont=>
   obtain ⟨σ3,H3,I3,n3⟩:=q3
   obtain ⟨m',hm,w3⟩:=hN σ3 H3 n3
   exact ⟨m',hm,σ3,H3,I3,w3⟩
  | brk=>exact q3
  | ret v=>exact q3
 | false=>
  rw [if_neg Ο]
  exact mK ⟨σ1,H2,I2,q2⟩
end
structure It where
 go:Nat->Hp->Prop
 yld:Nat->Hp->V->Hp->Prop
 stop:Nat->Hp->Prop
def FpOk (X:Cx) (pj:List (Addr×Obj)) (H:Hp) (b:Addr):Prop:=
 H b=none/\b≠X.env.locals/\b ∉ X.fs/\(b∈X.ex\/X.sw.heap.objs.size<=b)/\(∀ x c,X.env.cells.lookup x=some c->c≠b)/\∀ p∈X.pn++pj,p.1≠b
theorem Inv.fpOk {X:Cx}{pj:List (Addr×Obj)}{σ:St}{H H':Hp}{s:ο}{b:Addr}(I:Inv X pj σ H s) (hb:s.heap.objs.size<=b) (hn:H' b=none):FpOk X pj H' b:=by
 refine ⟨hn,cB (ϓ I.lt hb),I.nofs hb,.inr (Ϧ I.sz hb),fun x c e z=>?_,fun p hp z=>?_⟩
 ·obtain ⟨v,q⟩:=I.cell x c e
  exact absurd (ϓ q.lt (by rw [z];exact hb)) (cL _)
 ·exact absurd (ϓ (χ (I.pin p hp).1) (by rw [z];exact hb)) (cL _)
structure Turn (P:Ω) (w:ϥ) (K:W.Frag) (tg:Expr) (J:It) (fp:List Addr) (it:Addr) (tn:Nat->Heap->Prop):Prop where
 mem:it∈fp
 obj:∀ i h,tn i h->∀ b∈fp,∃ o,h.get? b=some o/\∀ v,o.data≠.cell v
 keep:∀ i h h',tn i h->(∀ b∈fp,∀ o,h.get? b=some o->h'.get? b=some o)->tn i h'
 item:∀ (X:Cx),X.prog=P->X.w=w->X.K=K->X.calm=true->∀ (i:Nat) (pj:List (Addr×Obj)) (s:ο) (σ:St) (H:Hp) (E:VSP),Inv X pj σ H s->(∀ b∈fp,FpOk X pj H b)->tn i s.heap->J.go i H ->
  Λ (Χ P w) X.A (gr (.ref it)) (fun r s1=>∃ u,r=some u /\
   Λ (Χ P w) X.A (mL tg (.ref it) u) (fun _ s2=>∃ x H',Inv X pj σ H' s2/\RelV x u/\J.yld i H x H'/\tn (i+1) s2.heap/\∀ b∈fp,H' b=none) E s1) E s
 done:∀ (X:Cx),X.prog=P->X.w=w->X.K=K->X.calm=true->∀ (i:Nat) (pj:List (Addr×Obj)) (s:ο) (σ:St) (H:Hp) (E:VSP),Inv X pj σ H s->(∀ b∈fp,FpOk X pj H b)->tn i s.heap->J.stop i H ->
  Λ (Χ P w) X.A (gr (.ref it)) (fun r s1=>r=none/\Inv X pj σ H s1) E s
 self:∀ (A:ϡ) (i:Nat) (s:ο) (Q:VSP) (E:VSP),tn i s.heap->Q (.ref it) s->Λ (Χ P w) A (pyIter (.ref it)) Q E s
abbrev TI:=St->Hp->(It->Hp->Prop)->Prop
def PIE (X:Cx) (pj:List (Addr×Obj)) (σ:St) (tg:Expr) (R:It->Hp->Prop) (itv:δ) (s2:ο):Prop:=
 ∃ (it:Addr) (fp:List Addr) (tn:Nat->Heap->Prop) (J:It) (H':Hp),itv=.ref it/\Inv X pj σ H' s2/\Turn X.prog X.w X.K tg J fp it tn/\tn 0 s2.heap/\(∀ b∈fp,FpOk X pj H' b)/\R J H'
def PI (X:Cx) (tg iter:Expr) (wi:TI):Prop:=
 ∀ (pj:List (Addr×Obj)) (s:ο) (σ:St) (H:Hp) (R:It->Hp->Prop),Inv X pj σ H s->wi σ H R ->
  Λ (Χ X.prog X.w) X.A (eval iter X.env) (fun v s1=>Λ (Χ X.prog X.w) X.A (pyIter v) (PIE X pj σ tg R) X.xe s1) X.xe s
theorem go_of {M:Model}{A:ϡ}{E:VSP}{s:ο}{tg:Expr}{it:Addr}{u:δ}{o:Obj}{n:String}{vs:Array δ}{Q:Unit->ο->Prop}(ho:s.heap.get? it=some o) (hc:o.cls=.type n) (hd:o.data=.fields vs)
    (hn:["enumerate","zip","dict_itemiterator","dict_reverseitemiterator","odict_iterator","itertools.zip_longest","itertools.pairwise"].contains n=false) (hQ:Q () s):Λ M A (mL tg (.ref it) u) Q E s:=by
  unfold mL
  cases tg <;> first
    | exact η hQ
    | (cases u <;> first
        | exact η hQ
        | (refine γ (wpAny_load ho ?_)
           rw [hc,hd]
           show Λ M A (if (["enumerate","zip","dict_itemiterator","dict_reverseitemiterator","odict_iterator","itertools.zip_longest","itertools.pairwise"].contains n&&vs[0]?==some (bz _))=true then _ else _) Q E s
           rw [if_neg (by intro h;rw [hn,Bool.false_and] at h;cases h)]
           exact η hQ))
noncomputable def Itl (K:W.Frag) (a:Addr):It:=
 ⟨fun i H=>∃ xs x,SqL K H a xs/\xs[i]?=some x,fun i H x H'=>H'=H/\∀ xs,SqL K H a xs->xs[i]?=some x,fun i H=>∃ xs,SqL K H a xs/\xs.length<=i⟩
noncomputable def Itt (K:W.Frag) (a:Addr):It:=
 ⟨fun i H=>∃ xs x,SqT K H a xs/\xs[i]?=some x,fun i H x H'=>H'=H/\∀ xs,SqT K H a xs->xs[i]?=some x,fun i H=>∃ xs,SqT K H a xs/\xs.length<=i⟩
noncomputable def Itr (lo:Int) (n:Nat):It:=⟨fun i _=>i < n,fun i H x H'=>H'=H/\x=.int (lo+i),fun i _=>n<=i⟩
theorem Vx {P:Ω}{w:ϥ}{K:W.Frag}{tg:Expr}(a it:Addr):Turn P w K tg (Itl K a) [it] it (fun i h=>h.IsListIter it a i) where
 mem:=by simp
 obj:=fun i h st b hb=>by
  have e:b=it:=by simpa using hb
  subst e
  obtain ⟨o,e,c,d⟩:=st
  exact ⟨o,e,fun v z=>by rw [d] at z;cases z⟩
 keep:=fun i h h' st k=>st.at fun o e=>k it (by simp) o e
 item:=by
  intro X hP hw hK hc i pj s σ H E I hf st hg
  subst hP hw hK
  obtain ⟨xs,x,hq,hx⟩:=hg
  obtain ⟨its,rv,p,hz⟩:=I.list hq
  obtain ⟨u,hu,ru⟩:=rv.get hx
  obtain ⟨f0,f1,f2,f3,f4,f5⟩:=hf it (by simp)
  refine wpAny_pyNext_list_item st p.isList (x:=u) (by simpa using hu) fun h' st' sb=>?_
  have I1:Inv X pj σ H { s with heap:=h' }:=I.turned (t':=s.toks) (fun b o hb e=>(sb.2 b hb).trans e) f0 f1 f3 f4 f5
  obtain ⟨o,e,c,d⟩:=id st'
  exact ⟨u,rfl,go_of (s:={ s with heap:=h' }) e c d (by decide) ⟨x,H,I1,ru,⟨rfl,fun ys hy=>by rw [I.X7 hy hq];exact hx⟩,st',fun b hb=>(hf b hb).1⟩⟩
 done:=by
  intro X hP hw hK hc i pj s σ H E I hf st hg
  subst hP hw hK
  obtain ⟨xs,hq,hx⟩:=hg
  obtain ⟨its,rv,p,hz⟩:=I.list hq
  obtain ⟨f0,f1,f2,f3,f4,f5⟩:=hf it (by simp)
  have hl:=rv.length
  exact wpAny_pyNext_list_end (I.ok.hd hc) st p.isList (by simp;lia) fun h' eb=>⟨rfl,I.turned (t':=s.toks) (fun b o hb e=>eb b o hb e) f0 f1 f3 f4 f5⟩
 self:=fun _ _ _ _ _ st h=>wpAny_pyIter_listiter st h
theorem WQ {P:Ω}{w:ϥ}{K:W.Frag}{tg:Expr}(a it:Addr):Turn P w K tg (Itt K a) [it] it (fun i h=>h.IsTupleIter it a i) where
 mem:=by simp
 obj:=fun i h st b hb=>by
  have e:b=it:=by simpa using hb
  subst e
  obtain ⟨o,e,c,d⟩:=st
  exact ⟨o,e,fun v z=>by rw [d] at z;cases z⟩
 keep:=fun i h h' st k=>st.at fun o e=>k it (by simp) o e
 item:=by
  intro X hP hw hK hc i pj s σ H E I hf st hg
  subst hP hw hK
  obtain ⟨xs,x,hq,hx⟩:=hg
  obtain ⟨its,rv,p,hz⟩:=I.tuple hq
  obtain ⟨u,hu,ru⟩:=rv.get hx
  obtain ⟨f0,f1,f2,f3,f4,f5⟩:=hf it (by simp)
  refine wpAny_pyNext_tuple_item st (show s.heap.IsTuple a its.toArray from p) (x:=u) (by simpa using hu) fun h' st' sb=>?_
  have I1:Inv X pj σ H { s with heap:=h' }:=I.turned (t':=s.toks) (fun b o hb e=>(sb.2 b hb).trans e) f0 f1 f3 f4 f5
  obtain ⟨o,e,c,d⟩:=id st'
  exact ⟨u,rfl,go_of (s:={ s with heap:=h' }) e c d (by decide) ⟨x,H,I1,ru,⟨rfl,fun ys hy=>by rw [I.qy hy hq];exact hx⟩,st',fun b hb=>(hf b hb).1⟩⟩
 done:=by
  intro X hP hw hK hc i pj s σ H E I hf st hg
  subst hP hw hK
  obtain ⟨xs,hq,hx⟩:=hg
  obtain ⟨its,rv,p,hz⟩:=I.tuple hq
  obtain ⟨f0,f1,f2,f3,f4,f5⟩:=hf it (by simp)
  have hl:=rv.length
  exact wpAny_pyNext_tuple_end (I.ok.hd hc) st (show s.heap.IsTuple a its.toArray from p) (by simp;lia) fun h' eb=>⟨rfl,I.turned (t':=s.toks) (fun b o hb e=>eb b o hb e) f0 f1 f3 f4 f5⟩
 self:=fun _ _ _ _ _ st h=>wpAny_pyIter_tupleiter st h
theorem WR {P:Ω}{w:ϥ}{K:PySem.W.Frag}{tg:Expr}(it:Addr) (lo:Int) (n:Nat):Turn P w K tg (Itr lo n) [it] it (fun i h=>IsRangeIter h it (lo+(i:Nat)*1) ((n:Int) - (i:Nat)) 1) where
 mem:=by simp
 obj:=fun i h st b hb=>by
  have e:b=it:=by simpa using hb
  subst e
  exact ⟨_,st,fun v z=>by
   have z':Ϯ _=Data.cell v:=z
   cases z'⟩
 keep:=fun i h h' st k=>k it (by simp) _ st
 item:=by
  intro X hP hw hK hc i pj s σ H E I hf st hg
  subst hP hw hK
  obtain ⟨f0,f1,f2,f3,f4,f5⟩:=hf it (by simp)
  have W:=Walks.range (prog:=X.prog) (w:=X.w) (I.ok.hd hc) it lo 1 n
  refine W.item i s _ _ hg st fun v h' tk hv st' kk=>?_
  obtain ⟨t,rfl⟩:=hv
  have I1:Inv X pj σ H { s with heap:=h',toks:=tk }:=I.turned (fun b o hb e=>kk b o (by simpa using hb) e) f0 f1 f3 f4 f5
  refine ⟨_,rfl,go_of (s:={ s with heap:=h',toks:=tk }) (n:="range_iterator") st' rfl rfl (by decide) ⟨.int (lo+i),H,I1,⟨t,?_⟩,⟨rfl,rfl⟩,st',fun b hb=>(hf b hb).1⟩⟩
  rw [Int.mul_one]
 done:=by
  intro X hP hw hK hc i pj s σ H E I hf st hg
  subst hP hw hK
  obtain ⟨f0,f1,f2,f3,f4,f5⟩:=hf it (by simp)
  exact wpAny_pyNext_range_end (I.ok.hd hc) st (by have:n<=i:=hg;lia) fun h' eb=>⟨rfl,I.turned (t':=s.toks) (fun b o hb e=>eb b o hb e) f0 f1 f3 f4 f5⟩
 self:=fun _ _ _ _ _ st h=>wpAny_pyIter_rangeiter st h
section
variable {X:Cx}{tg:Expr}
theorem KJ {pj:List (Addr×Obj)}{σ:St}{H:Hp}{s:ο}{R:It->Hp->Prop}{E:VSP}{lo hi:Int}{t u v:Tok}{tk:Nat}(I:Inv X pj σ H s) (h1:-(2 ^ 62)<=lo) (h2:lo < 2 ^ 62) (h3:-(2 ^ 62)<=hi) (h4:hi < 2 ^ 62)
  (q:R (Itr lo (hi - lo).toNat) H):Λ (Χ X.prog X.w) X.A (pyIter (.ref s.heap.objs.size)) (PIE X pj σ tg R) E { s with heap:=s.heap.push { cls:=.type "range",data:=.fields #[.int lo t,.int hi u,.int 1 v] },toks:=tk }:=by
 refine wpAny_pyIter_range (IsRange.new ..) (small_one h1 h2 h3 h4) ?_
 have I1:Inv X pj σ H { s with heap:=s.heap.push { cls:=.type "range",data:=.fields #[.int lo t,.int hi u,.int 1 v] },toks:=tk }:=I.kept fun b o e=>ζ _ e
 refine ⟨(s.heap.push { cls:=.type "range",data:=.fields #[.int lo t,.int hi u,.int 1 v] }).objs.size,[(s.heap.push { cls:=.type "range",data:=.fields #[.int lo t,.int hi u,.int 1 v] }).objs.size],_,_,H,rfl,
  I1.kept (t':=tk) fun b o e=>ζ _ e,WR _ lo (hi - lo).toNat,?_,fun b hb=>?_,q⟩
 ·have e1:lo+((0:Nat):Int)*1=lo:=by simp
  have e2:(((hi - lo).toNat:Nat):Int) - ((0:Nat):Int)=Φ.Range.rangeSize lo hi 1:=by rw [rangeSize_one];split <;> lia
  show IsRangeIter _ _ (lo+((0:Nat):Int)*1) ((((hi - lo).toNat:Nat):Int) - ((0:Nat):Int)) 1
  rw [e1,e2]
  exact ω _ rfl
 ·have e:b=(s.heap.push { cls:=.type "range",data:=.fields #[.int lo t,.int hi u,.int 1 v] }).objs.size:=by simpa using hb
  subst e
  exact I1.fpOk (ν _) (I1.hok.fresh (ν _))
def iRng1 (ta:TA):TI:=fun σ H R=>ta σ H fun vs H1=>∃ j:Int,vs=[.int j]/\-(2 ^ 62)<=j/\j < 2 ^ 62/\R (Itr 0 j.toNat) H1
theorem Uk {a:Expr}{ta:TA}{p pos:Pos}(hg:Gl X "range") (hm:X.mg "range"=none) (ha:PA X [a] ta) (hs:Ϩ [a] X.env=[(false,eval a X.env)]:=by rfl):PI X tg (.Call (.Name "range" p) [a] [] pos) (iRng1 ta):=by
 intro pj s σ H R I h
 refine Call_ (Zd I hg hm boot_range (dz (thn (ha pos pj s σ H _ I h) fun us s1 ⟨vs,H1,I1,r1,q1⟩=>?_) hs rfl))
 obtain ⟨j,e,q1,q2,q⟩:=q1
 subst e
 cases r1 with
 | cons r rr=>
  cases rr
  obtain ⟨t,rfl⟩:=r
  exact call_range_1 (KJ I1 (by lia) (by lia) q1 q2 (by simpa using q))
def tFor (wi:TI) (g:TG) (tb:TS):TS:=fun D σ H=>wi σ H fun J H1=>∃ W:Nat->Nat->St->Hp->Prop,(∃ m,W 0 m σ H1)/\∀ i m σ H,W i m σ H ->
 (J.stop i H/\D.nx σ H)\/(J.go i H/\∃ N:St->Hp->Prop,(∀ σ' H',N σ' H'->∃ m',m' < m/\W (i+1) m' σ' H')/\∀ x H',J.yld i H x H'->g x σ H' fun σ2 H2=>tb { D with nx:=N,ct:=N,bk:=D.nx } σ2 H2)
noncomputable def qO (fp:List Addr) (h:Heap):List (Addr×Obj):=fp.filterMap fun b=>(h.get? b).map fun o=>(b,o)
theorem yS {fp:List Addr}{h:Heap}{b:Addr}{o:Obj}(hb:b∈fp) (e:h.get? b=some o):(b,o)∈qO fp h:=nQ.mpr ⟨b,hb,by rw [e];rfl⟩
theorem UJ {fp:List Addr}{h:Heap}{p:Addr×Obj}(hp:p∈qO fp h):p.1∈fp/\h.get? p.1=some p.2:=by
 obtain ⟨b,hb,e⟩:=nQ.mp hp
 cases q:h.get? b with
 | none=>rw [q] at e;cases e
 | some o=>
  rw [q] at e
  have e':(b,o)=p:=Ϛ e
  subst e'
  exact ⟨hb,q⟩
theorem Inv.pinned {pj:List (Addr×Obj)}{σ:St}{H:Hp}{s:ο}{fp:List Addr}(I:Inv X pj σ H s) (hf:∀ b∈fp,FpOk X pj H b) (ho:∀ b∈fp,∃ o,s.heap.get? b=some o/\∀ v,o.data≠.cell v):Inv X (pj++qO fp s.heap) σ H s:=
 I.Yo fun p hp=>(Τ.mp hp).elim (fun z=>I.pin p (ό _ z)) fun z=>by
  obtain ⟨hb,e⟩:=UJ z
  obtain ⟨f0,f1,f2,_⟩:=hf p.1 hb
  obtain ⟨o,e',d⟩:=ho p.1 hb
  rw [e] at e';cases e'
  exact ⟨e,f0,f1,f2,d⟩
theorem Inv.xJ {pj pl:List (Addr×Obj)}{σ:St}{H:Hp}{s:ο}(I:Inv X (pj++pl) σ H s):Inv X pj σ H s:=I.Yo fun p hp=>I.pin p (ό _ (dO _ hp))
theorem zdn {iter:Expr}{body:List Stmt}{wi:TI}{g:TG}{tb:TS}{pos:Pos}(hp:gO (Χ X.prog X.w) X.A X.env X.xe) (hc:X.calm=true) (hi:PI X tg iter wi) (hg:PG X tg g) (hb:PSs X body tb)
  (hs:∀ x,bH iter X.env x=pure x:=by intro _;rfl):PS X (.For tg iter body [] pos) (tFor wi g tb):=by
 intro pj s σ H D I h
 refine wpAny_For (thn (hi pj s σ H _ I h) fun v s1 h1=>thn h1 fun itv s2 h2=>?_) hs
 obtain ⟨it,fp,tn,J,H2,e,I2,T,st2,f2,W,⟨m0,w0⟩,turn⟩:=h2
 subst e
 have stat:∀ {H':Hp},(∀ b∈fp,H' b=none)->∀ b∈fp,FpOk X pj H' b:=fun hn b hb=>⟨hn b hb,(f2 b hb).2⟩
 refine codeAny_forLoop_any (fun n s'=>∃ i σ' H',Inv X pj σ' H' s'/\tn i s'.heap/\(∀ b∈fp,H' b=none)/\W i n σ' H') ?_ m0 ⟨0,σ,H2,I2,st2,fun b hb=>(f2 b hb).1,w0⟩
 rintro n s3 ⟨i,σ3,H3,I3,st3,fr3,w3⟩
 rcases turn i n σ3 H3 w3 with ⟨stop,qn⟩ | ⟨go,N,hN,step⟩
 ·refine b7 hp (thn (T.done X rfl rfl rfl hc i pj s3 σ3 H3 X.xe I3 (stat fr3) st3 stop) fun r s4 ⟨hr,I4⟩=>?_)
  subst hr
  exact mK ⟨σ3,H3,I4,qn⟩
 ·refine b7 hp (thn (T.item X rfl rfl rfl hc i pj s3 σ3 H3 X.xe I3 (stat fr3) st3 go) fun r s4 ⟨u,hr,h4⟩=>?_)
  subst hr
  refine b7 hp (thn h4 fun _ s5 ⟨x,H5,I5,r5,y5,st5,fr5⟩=>?_)
  have I5':=I5.pinned (stat fr5) (T.obj _ _ st5)
  refine b7 hp (thn (hg _ s5 σ3 H5 x u _ I5' r5 (step x H5 y5)) fun _ s6 ⟨σ6,H6,I6,q6⟩=>?_)
  refine b7 hp (thn (hb _ s6 σ6 H6 _ I6 q6) fun f s7 q7=>?_)
  have again:∀ {σ7:St}{H7:Hp},Inv X (pj++qO fp s5.heap) σ7 H7 s7->N σ7 H7->∃ m,m < n/\∃ i σ' H',Inv X pj σ' H' s7/\tn i s7.heap/\(∀ b∈fp,H' b=none)/\W i m σ' H':=fun {σ7 H7} I7 n7=>by
   obtain ⟨m',hm,w7⟩:=hN σ7 H7 n7
   refine ⟨m',hm,i+1,σ7,H7,I7.xJ,T.keep _ _ _ st5 fun b hb o e=>(I7.pin (b,o) (ό _ (ό _ (yS hb e)))).1,fun b hb=>?_,w7⟩
   obtain ⟨o,e,d⟩:=T.obj _ _ st5 b hb
   exact (I7.pin (b,o) (ό _ (ό _ (yS hb e)))).2.1
  cases f with
  | next=>obtain ⟨σ7,H7,I7,n7⟩:=q7;exact again I7 n7
  | cont=>obtain ⟨σ7,H7,I7,n7⟩:=q7;exact again I7 n7
  | brk=>obtain ⟨σ7,H7,I7,q7⟩:=q7;exact ⟨σ7,H7,I7.xJ,q7⟩
  | ret v=>obtain ⟨x7,σ7,H7,I7,r7,q7⟩:=q7;exact ⟨x7,σ7,H7,I7.xJ,r7,q7⟩
end
abbrev R2:=V->V->Hp->VK->Prop
def OpR (X:Cx) (f:δ->δ->Sem δ) (r:R2):Prop:=
 ∀ (pj:List (Addr×Obj)) (s:ο) (σ:St) (H:Hp) (x y:V) (v u:δ) (Q:VK),Inv X pj σ H s->RelV x v->RelV y u->r x y H Q ->
  Λ (Χ X.prog X.w) X.A (f v u) (EP X pj σ Q) X.xe s
def UnR (X:Cx) (f:δ->Sem δ) (r:V->Hp->VK->Prop):Prop:=
 ∀ (pj:List (Addr×Obj)) (s:ο) (σ:St) (H:Hp) (x:V) (v:δ) (Q:VK),Inv X pj σ H s->RelV x v->r x H Q ->
  Λ (Χ X.prog X.w) X.A (f v) (EP X pj σ Q) X.xe s
def CallR (X:Cx) (f:δ) (r:List V->Hp->VK->Prop):Prop:=
 ∀ (pj:List (Addr×Obj)) (s:ο) (σ:St) (H:Hp) (xs:List V) (us:List δ) (Q:VK),Inv X pj σ H s->Vals xs us->r xs H Q ->
  Λ (Χ X.prog X.w) X.A (call f us) (EP X pj σ Q) X.xe s
def tOp (r:R2) (ta tb:TE):TE:=fun σ H Q=>ta σ H fun x H1=>tb σ H1 fun y H2=>r x y H2 Q
def tUn (r:V->Hp->VK->Prop) (ta:TE):TE:=fun σ H Q=>ta σ H fun x H1=>r x H1 Q
def rI (C:Int->Int->Prop) (g:Int->Int->V):R2:=fun x y H Q=>∃ i j,x=.int i/\y=.int j/\C i j/\Q (g i j) H
def rI0 (g:Int->Int->V):R2:=fun x y H Q=>∃ i j,x=.int i/\y=.int j/\Q (g i j) H
def rU (g:Int->V):V->Hp->VK->Prop:=fun x H Q=>∃ i,x=.int i/\Q (g i) H
section
variable {X:Cx}{a b c:Expr}{ta tb tc:TE}{pos:Pos}
theorem binT (ha:PE X a ta) (hb:PE X b tb) {pj:List (Addr×Obj)}{s:ο}{σ:St}{H:Hp}{R:V->V->Hp->Prop}(I:Inv X pj σ H s)
  (h:ta σ H fun x H1=>tb σ H1 fun y H2=>R x y H2) {Q:VSP}{f:δ->δ->Sem δ}
  (hf:∀ v u s2 x y H2,Inv X pj σ H2 s2->RelV x v->RelV y u->R x y H2->Λ (Χ X.prog X.w) X.A (f v u) Q X.xe s2):
  Λ (Χ X.prog X.w) X.A (eval a X.env) (fun v s₁=>Λ (Χ X.prog X.w) X.A (eval b X.env) (fun u s₂=>Λ (Χ X.prog X.w) X.A (f v u) Q X.xe s₂) X.xe s₁) X.xe s:=by
 refine thn (ha pj s σ H _ I h) fun v s1 ⟨x,H1,I1,r1,q1⟩=>?_
 refine thn (hb pj s1 σ H1 _ I1 q1) fun u s2 ⟨y,H2,I2,r2,q2⟩=>?_
 exact hf v u s2 x y H2 I2 r1 r2 q2
theorem pe_op {op:lH}{r:R2}(ho:OpR X (bA op) r) (ha:PE X a ta) (hb:PE X b tb):PE X (.BinOp a op b pos) (tOp r ta tb):=by
 intro pj s σ H Q I h
 exact wpAny_BinOp (binT ha hb I h fun v u s2 x y H2 I2 rx ry q=>ho pj s2 σ H2 x y v u Q I2 rx ry q)
theorem pe_un {op:UnaryOp}{r:V->Hp->VK->Prop}(ho:UnR X (unaryOp op) r) (ha:PE X a ta):PE X (.UnaryOp op a pos) (tUn r ta):=by
 intro pj s σ H Q I h
 exact UnaryOp_ (thn (ha pj s σ H _ I h) fun v s1 ⟨x,H1,I1,r1,q1⟩=>ho pj s1 σ H1 x v Q I1 r1 q1)
theorem opI {f:δ->δ->Sem δ}{C:Int->Int->Prop}{g:Int->Int->Int}
  (rule:∀ (i j:Int) (t u:Tok) (s:ο) (Q:VSP) (E:VSP),C i j->Q (.int (g i j) s.toks) { s with toks:=s.toks+1 }->Λ (Χ X.prog X.w) X.A (f (.int i t) (.int j u)) Q E s):
  OpR X f (rI C fun i j=>.int (g i j)):=by
 intro pj s σ H x y v u Q I rx ry h
 obtain ⟨i,j,rfl,rfl,hc,q⟩:=h
 obtain ⟨t,rfl⟩:=rx
 obtain ⟨t',rfl⟩:=ry
 exact rule i j t t' s _ _ hc ⟨.int (g i j),H,I.tok _,⟨_,rfl⟩,q⟩
theorem opI0 {f:δ->δ->Sem δ}{g:Int->Int->Int}
  (rule:∀ (i j:Int) (t u:Tok) (s:ο) (Q:VSP) (E:VSP),Q (.int (g i j) s.toks) { s with toks:=s.toks+1 }->Λ (Χ X.prog X.w) X.A (f (.int i t) (.int j u)) Q E s):
  OpR X f (rI0 fun i j=>.int (g i j)):=by
 intro pj s σ H x y v u Q I rx ry h
 obtain ⟨i,j,rfl,rfl,q⟩:=h
 obtain ⟨t,rfl⟩:=rx
 obtain ⟨t',rfl⟩:=ry
 exact rule i j t t' s _ _ ⟨.int (g i j),H,I.tok _,⟨_,rfl⟩,q⟩
theorem opB0 {f:δ->δ->Sem δ}{g:Int->Int->Bool}
  (rule:∀ (i j:Int) (t u:Tok) (s:ο) (Q:VSP) (E:VSP),Q (.bool (g i j)) s->Λ (Χ X.prog X.w) X.A (f (.int i t) (.int j u)) Q E s):
  OpR X f (rI0 fun i j=>.bl (g i j)):=by
 intro pj s σ H x y v u Q I rx ry h
 obtain ⟨i,j,rfl,rfl,q⟩:=h
 obtain ⟨t,rfl⟩:=rx
 obtain ⟨t',rfl⟩:=ry
 exact rule i j t t' s _ _ ⟨.bl (g i j),H,I,rfl,q⟩
def CPow (i j:Int):Prop:=0<=j/\j<=1000000/\i.natAbs < 2 ^ 64
def CMul (i j:Int):Prop:=(-(2 ^ 64) < i/\i < 2 ^ 64)\/(-(2 ^ 64) < j/\j < 2 ^ 64)
theorem CMul.ok {i j:Int}(h:CMul i j):IntMulOk i j:=by
 rcases h with ⟨h1,h2⟩ | ⟨h1,h2⟩
 ·exact .of_left (intBits_le_64 h1 h2)
 ·exact .of_right (intBits_le_64 h1 h2)
theorem zdL:OpR X (bA .Add) (rI0 fun i j=>.int (i+j)):=opI0 fun _ _ _ _ _ _ _ q=>add_int q
theorem zdB:OpR X (bA .Sub) (rI0 fun i j=>.int (i - j)):=opI0 fun _ _ _ _ _ _ _ q=>sub_int q
theorem zdF:OpR X (bA .Mult) (rI CMul fun i j=>.int (i*j)):=opI fun _ _ _ _ _ _ _ hc q=>mul_int q hc.ok
theorem zdG:OpR X (bA .Mod) (rI (fun _ j=>0 < j) fun i j=>.int (i % j)):=opI fun i j _ _ _ _ _ hc q=>by
 have h1:(0:Int) < j:=hc
 exact mod_int' (by lia) (by rw [Int.fmod_eq_emod_of_nonneg i (by lia)];exact q)
theorem zdD:OpR X (bA .Pow) (rI CPow fun i j=>.int (i ^ j.toNat)):=opI fun _ _ _ _ _ _ _ hc q=>pow_int_small hc.1 hc.2.1 hc.2.2 q
theorem unI {f:δ->Sem δ}{g:Int->Int}
  (rule:∀ (i:Int) (t:Tok) (s:ο) (Q:VSP) (E:VSP),Q (.int (g i) s.toks) { s with toks:=s.toks+1 }->Λ (Χ X.prog X.w) X.A (f (.int i t)) Q E s):
  UnR X f (rU fun i=>.int (g i)):=by
 intro pj s σ H x v Q I rx h
 obtain ⟨i,rfl,q⟩:=h
 obtain ⟨t,rfl⟩:=rx
 exact rule i t s _ _ ⟨.int (g i),H,I.tok _,⟨_,rfl⟩,q⟩
theorem zcC:UnR X (unaryOp .USub) (rU fun i=>.int (-i)):=unI fun _ _ _ _ _ q=>neg_int q
end
section
variable {X:Cx}{a b c:Expr}{ta tb tc:TE}{pos:Pos}
theorem ZD {pj:List (Addr×Obj)}{σ:St}{H:Hp}{s:ο}{Q:VK}{k k':Bool}(I:Inv X pj σ H s) (q:Q (.bl k) H) (e:k=k'):EP X pj σ Q (.bool k') s:=by
 subst e
 exact ⟨.bl k,H,I,rfl,q⟩
theorem op_lt:OpR X (ώ .Lt) (rI0 fun i j=>.bl (decide (i < j))):=opB0 fun _ _ _ _ _ _ _ q=>lt_int q
theorem op_le:OpR X (ώ .LtE) (rI0 fun i j=>.bl (decide (i<=j))):=opB0 fun _ _ _ _ _ _ _ q=>le_int q
theorem op_gt:OpR X (ώ .Gt) (rI0 fun i j=>.bl (decide (j < i))):=opB0 fun _ _ _ _ _ _ _ q=>gt_int q
theorem op_ge:OpR X (ώ .GtE) (rI0 fun i j=>.bl (decide (j<=i))):=opB0 fun _ _ _ _ _ _ _ q=>ge_int q
theorem Ux:OpR X (ώ .In) (fun x y H Q=>∃ i j,x=.str i/\y=.str j/\Q (.bl (!(eY j i 0 j.length 1).isEmpty)) H):=by
 intro pj s σ H x y v u Q I rx ry h
 obtain ⟨i,j,rfl,rfl,q⟩:=h
 obtain ⟨t,rfl⟩:=rx
 obtain ⟨t',rfl⟩:=ry
 exact in_str (ZD I q rfl)
theorem zdH:OpR X (ώ .Is) (fun x y H Q=>y=.non/\Q (.bl (decide (x=.non))) H):=by
 intro pj s σ H x y v u Q I rx ry h
 obtain ⟨rfl,q⟩:=h
 cases ry
 refine is_none_gen (ZD I q ?_)
 cases x <;> first
  | (cases rx;rfl)
  | (obtain ⟨t,rfl⟩:=rx;rfl)
theorem zbJ:OpR X (ώ .IsNot) (fun x y H Q=>y=.non/\Q (.bl (!decide (x=.non))) H):=by
 intro pj s σ H x y v u Q I rx ry h
 obtain ⟨rfl,q⟩:=h
 cases ry
 refine isnot_none_gen (ZD I q ?_)
 cases x <;> first
  | (cases rx;rfl)
  | (obtain ⟨t,rfl⟩:=rx;rfl)
theorem OpR.or {f:δ->δ->Sem δ}{r r':R2}(h:OpR X f r) (h':OpR X f r'):OpR X f (fun x y H Q=>r x y H Q\/r' x y H Q):=by
 intro pj s σ H x y v u Q I rx ry q
 rcases q with q | q
 ·exact h pj s σ H x y v u Q I rx ry q
 ·exact h' pj s σ H x y v u Q I rx ry q
theorem zbE {op:dZ}{r:R2}(ho:OpR X (ώ op) r) (ha:PE X a ta) (hb:PE X b tb) (hm:behindInMarks op b=false):PE X (.Compare a [op] [b] pos) (tOp r ta tb):=by
 intro pj s σ H Q I h
 exact wpAny_Compare1 (binT ha hb I h fun v u s2 x y H2 I2 rx ry q=>ho pj s2 σ H2 x y v u Q I2 rx ry q) hm
def tTest (t:TE):TT:=fun σ H Q=>t σ H fun x H'=>∃ k,x=.bl k/\Q k H'
theorem zbu {op:dZ}{r:R2}(ho:OpR X (ώ op) r) (ha:PE X a ta) (hb:PE X b tb) (hm:behindInMarks op b=false):PT X (.Compare a [op] [b] pos) (tTest (tOp r ta tb)):=by
 intro pj s σ H Q I h
 refine wpAny_isTrue_Compare1 (thn (ha pj s σ H _ I h) fun v s1 ⟨x,H1,I1,r1,q1⟩=>thn (hb pj s1 σ H1 _ I1 q1) fun u s2 ⟨y,H2,I2,r2,q2⟩=>
  thn (ho pj s2 σ H2 x y v u _ I2 r1 r2 q2) fun c s3 ⟨z,H3,I3,r3,k,e,q3⟩=>?_) hm
 subst e
 cases r3
 exact ϲ ⟨H3,I3,q3⟩
def VG (r r':R2) (ta tb tc:TE):TE:=fun σ H Q=>ta σ H fun x H1=>tb σ H1 fun y H2=>r x y H2 fun z H3=>∃ k,z=.bl k /\
 (if k=true then tc σ H3 fun w' H4=>r' y w' H4 Q else Q (.bl false) H3)
theorem Qd {op op':dZ}{r r':R2}(ho:OpR X (ώ op) r) (ho':OpR X (ώ op') r') (ha:PE X a ta) (hb:PE X b tb) (hc:PE X c tc)
  (hm:lastMarks [op,op'] [b,c]=false:=by with_unfolding_all rfl):PE X (.Compare a [op,op'] [b,c] pos) (VG r r' ta tb tc):=by
 intro pj s σ H Q I h
 refine Compare_chain (thn (ha pj s σ H _ I h) fun v s1 ⟨x,H1,I1,r1,q1⟩=>chain_link (thn (hb pj s1 σ H1 _ I1 q1) fun u s2 ⟨y,H2,I2,r2,q2⟩=>
  thn (ho pj s2 σ H2 x y v u _ I2 r1 r2 q2) fun d s3 ⟨z,H3,I3,r3,k,e,q3⟩=>?_)) hm
 subst e
 cases r3
 refine ϲ ?_
 cases k with
 | false=>exact ite_ff ⟨.bl false,H3,I3,rfl,q3⟩
 | true=>exact ite_tt (chain_last (thn (hc pj s3 σ H3 _ I3 q3) fun w' s4 ⟨z',H4,I4,r4,q4⟩=>ho' pj s4 σ H4 y z' u w' Q I4 r2 r4 q4))
theorem KR {op op':dZ}{r r':R2}(ho:OpR X (ώ op) r) (ho':OpR X (ώ op') r') (ha:PE X a ta) (hb:PE X b tb) (hc:PE X c tc)
  (hm:lastMarks [op,op'] [b,c]=false:=by with_unfolding_all rfl):PT X (.Compare a [op,op'] [b,c] pos) (tTest (VG r r' ta tb tc)):=by
 intro pj s σ H Q I h
 refine isTrue_chain (thn (ha pj s σ H _ I h) fun v s1 ⟨x,H1,I1,r1,q1⟩=>test_link (thn (hb pj s1 σ H1 _ I1 q1) fun u s2 ⟨y,H2,I2,r2,q2⟩=>
  thn (ho pj s2 σ H2 x y v u _ I2 r1 r2 q2) fun d s3 ⟨z,H3,I3,r3,k,e,q3⟩=>?_)) hm
 subst e
 cases r3
 refine ϲ ?_
 cases k with
 | false=>
  obtain ⟨k',e',q'⟩:=q3
  cases e'
  exact ite_ff ⟨H3,I3,q'⟩
 | true=>
  refine ite_tt (test_last (thn (hc pj s3 σ H3 _ I3 q3) fun w' s4 ⟨z',H4,I4,r4,q4⟩=>thn (ho' pj s4 σ H4 y z' u w' _ I4 r2 r4 q4) fun d' s5 ⟨z2,H5,I5,r5,k2,e2,q5⟩=>?_))
  subst e2
  cases r5
  exact ϲ ⟨H5,I5,q5⟩
theorem jj:(sizeLine:Nat) < 2 ^ 63:=by rw [bu];decide
theorem W7:OpR X (bA .Add) (fun x y H Q=>∃ i j,x=.str i/\y=.str j/\i.length+j.length<=sizeLine/\Q (.str (i++j)) H):=by
 intro pj s σ H x y v u Q I rx ry h
 obtain ⟨i,j,rfl,rfl,hz,q⟩:=h
 obtain ⟨t,rfl⟩:=rx
 obtain ⟨t',rfl⟩:=ry
 exact add_str (fun t' tk=>⟨.str (i++j),H,I.tok _,⟨_,rfl⟩,q⟩) hz
theorem vals1 {x:V}{us:List δ}(r:Vals [x] us):∃ u,us=[u]/\RelV x u:=by
 cases r with
 | cons r1 r2=>cases r2;exact ⟨_,rfl,r1⟩
theorem vals2 {x y:V}{us:List δ}(r:Vals [x,y] us):∃ u w',us=[u,w']/\RelV x u/\RelV y w':=by
 cases r with
 | cons r1 r2=>
  cases r2 with
  | cons r3 r4=>cases r4;exact ⟨_,_,rfl,r1,r3⟩
theorem QT:CallR X (.builtin "abs") (fun xs H Q=>∃ i,xs=[.int i]/\Q (.int (if i < 0 then -i else i)) H):=by
 intro pj s σ H xs us Q I r h
 obtain ⟨i,rfl,q⟩:=h
 obtain ⟨u,rfl,t,rfl⟩:=vals1 r
 exact call_abs_int fun u tk=>⟨.int (if i < 0 then -i else i),H,I.tok _,⟨_,rfl⟩,q⟩
theorem J1 (hc:X.calm=true):CallR X (.builtin "max") (fun xs H Q=>∃ i j,xs=[.int i,.int j]/\Q (.int (if j > i then j else i)) H):=by
 intro pj s σ H xs us Q I r h
 obtain ⟨i,j,rfl,q⟩:=h
 obtain ⟨u,w',rfl,⟨t,rfl⟩,⟨t',rfl⟩⟩:=vals2 r
 refine max_two_ints (I.ok.hd hc) fun h' tk k=>⟨_,H,I.kept k,?_,q⟩
 by_cases hj:j > i
 ·rw [if_pos hj,if_pos hj];exact ⟨_,rfl⟩
 ·rw [if_neg hj,if_neg hj];exact ⟨_,rfl⟩
theorem J0 (hc:X.calm=true):CallR X (.builtin "min") (fun xs H Q=>∃ i j,xs=[.int i,.int j]/\Q (.int (if j < i then j else i)) H):=by
 intro pj s σ H xs us Q I r h
 obtain ⟨i,j,rfl,q⟩:=h
 obtain ⟨u,w',rfl,⟨t,rfl⟩,⟨t',rfl⟩⟩:=vals2 r
 refine min_two_ints (I.ok.hd hc) fun h' tk k=>⟨_,H,I.kept k,?_,q⟩
 by_cases hj:j < i
 ·rw [if_pos hj,if_pos hj];exact ⟨_,rfl⟩
 ·rw [if_neg hj,if_neg hj];exact ⟨_,rfl⟩
theorem ZV:CallR X (.type "int") (fun xs H Q=>(∃ i,xs=[.int i]/\Q (.int i) H)\/∃ k,xs=[.bl k]/\Q (.int (if k then 1 else 0)) H):=by
 intro pj s σ H xs us Q I r h
 rcases h with ⟨i,rfl,q⟩ | ⟨k,rfl,q⟩
 ·obtain ⟨u,rfl,t,rfl⟩:=vals1 r
  exact call_int_int ⟨.int i,H,I,⟨_,rfl⟩,q⟩
 ·obtain ⟨u,rfl,r1⟩:=vals1 r
  cases r1
  exact call_int_bool ⟨.int (if k then 1 else 0),H,I.tok _,⟨_,rfl⟩,q⟩
end
structure ObjM (h:Heap) (x dx C:Addr) (mA:Str->Option δ):Prop where
 obj:h.get? x=some (W.instObj C dx)
 ns:h.Ns1 dx mA
 ne:dx≠x
set_option tactic.hygienic true in
theorem U6 {h:Heap}{dx:Addr}{mA:Str->Option δ}(n:h.Ns1 dx mA):∃ od,h.get? dx=some od/\∀ name,W.lookIn name od=some (mA name):=by
 obtain ⟨o,es,ep,ho,hd,hk,_,hm⟩:=n
 refine ⟨o,ho,fun name=>?_⟩
 have e:=hm name
 unfold nsFind findBy at e
 rw [<- Array.find?_toList] at e
 unfold W.lookIn
 rw [hd]
 dsimp only
 split
 ·rename_i y q
  rw [q] at e
  exact congrArg some e
 ·rename_i q
  rw [q] at e
  have a:es.toList.any (·.refKey)=false:=by
   rw [nY]
   intro y hy
   obtain ⟨z,t,hkey⟩:=hk y (Array.mem_toList_iff.mp hy)
   simp [aV.refKey,hkey]
  have a':¬ es.toList.any (·.refKey)=true:=by rw [a];exact Ο
  rw [if_neg a']
  exact congrArg some e
theorem ObjM.look {h:Heap}{x dx C:Addr}{mA:Str->Option δ}(I:ObjM h x dx C mA):∃ od,W.InstAt h x (W.instObj C dx) C (some od)/\∀ name,W.lookIn name od=some (mA name):=
 let ⟨od,ho,hl⟩:=U6 I.ns
 ⟨od,⟨I.obj,rfl,rfl,ho⟩,hl⟩
theorem RelO.some_of {v:V}{o:Option δ}(r:RelO (some v) o):∃ u,o=some u/\RelV v u:=by
 cases o with
 | none=>exact (show False from r).elim
 | some u=>exact ⟨u,rfl,r⟩
section
variable {P:Ω}{w:ϥ}{H H':Hp}{h h':Heap}{a C dx:Addr}{fs fs':List (Str×V)}
theorem zb7 (hok:HOk P w H h) (e:H a=some (.ins C dx fs)):∃ mA,ObjM h a dx C mA/\(∀ f,RelO (fs.lookup f) (mA f))/\PySem.Within mA (fs.map (·.1))/\fs.length<=1000/\H dx=some (.own a):=by
 obtain ⟨d,z,ne,ob,mA,n,r,q⟩:=(show ObjOk P w H h a (.ins C dx fs) from hok a _ e)
 exact ⟨mA,⟨ob,n,ne⟩,r,q,z,d⟩
end
structure Cls (K:W.Frag) (C:Addr):Prop where
 pg:W.plainGet K C Str.empty=true
 hd:W.hasDictIn K C=true
 po:W.plainOver K C=true
 sa:W.findIn K (.ref C) "__setattr__"=some (some (.builtin "object.__setattr__"))
theorem Cls.get {K:W.Frag}{C:Addr}(c:Cls K C) (f:Str):W.plainGet K C f=true:=c.pg
section
variable {X:Cx}{pj:List (Addr×Obj)}{σ:St}{H:Hp}{s:ο}{A:ϡ}{E:VSP}{Q:VSP}{c:δ}{b:Bool}
inductive TyOf (K:W.Frag) (H:Hp):V->δ->Prop where
 | non:TyOf K H .non (.type "NoneType")
 | bl (x:Bool):TyOf K H (.bl x) (.type "bool")
 | int (i:Int):TyOf K H (.int i) (.type "int")
 | str (x:Str):TyOf K H (.str x) (.type "str")
 | flt (x:UInt64):TyOf K H (.flt x) (.type "float")
 | lst {a:Addr}{xs:List V}(e:H a=some (.lst xs)):TyOf K H (.ref a) (.type "list")
 | frz {a:Addr}{o:Obj}{xs:List V}(e:H a=some (.frz o (.lst xs))):TyOf K H (.ref a) (.type "list")
 | tup {a:Addr}{xs:List V}(e:H a=some (.tup xs)):TyOf K H (.ref a) (.type "tuple")
 | dK {a:Addr}{kvs:List (Key×V)}(e:H a=some (.dK kvs)):TyOf K H (.ref a) (.type "dict")
 | dT {a:Addr}{kvs:List (List Key×V)}(e:H a=some (.dT kvs)):TyOf K H (.ref a) (.type "dict")
 | ins {a C dx:Addr}{fs:List (Str×V)}(e:H a=some (.ins C dx fs)) (cl:Cls K C) (ha:W.findIn K (.ref C) "__class__"=some (some (.builtin "object.__class__")))
   (hn:W.specialIn K (.builtin "object.__class__") "__get__"=some (some (.builtin "getset_descriptor.__get__"))) (htk:W.takesIn K (.builtin "object.__class__")=some true)
   (hm:W.mroIn K C (.type "object")=some true):TyOf K H (.ref a) (.ref C)
theorem Jm {x:V}{u t:δ}(I:Inv X pj σ H s) (rx:RelV x u) (ty:TyOf X.K H x t) (e:W.kitOne X.K t c=some b) (h:∀ tk,Q (.bool b) { s with toks:=tk }):
  Λ (Χ X.prog X.w) A (call (.builtin "isinstance") [u,c]) Q E s:=by
 cases ty with
 | non=>cases (show u=Κ from rx);exact W.kia_one W.kitx_none I.kIn ϳ e (fun z=>nomatch z) h
 | bl y=>cases (show u=ύ y from rx);exact W.kia_one W.kitx_bool I.kIn ϳ e (fun z=>nomatch z) h
 | int i=>obtain ⟨t,q⟩:=(show ∃ t,u=ϗ i t from rx);cases q;exact W.kia_one W.kitx_int I.kIn ϳ e (fun z=>nomatch z) h
 | str y=>obtain ⟨t,q⟩:=(show ∃ t,u=aX y t from rx);cases q;exact W.kia_one W.kitx_str I.kIn ϳ e (fun z=>nomatch z) h
 | flt y=>obtain ⟨t,q⟩:=(show ∃ t,u=δ.float y t from rx);cases q;exact W.kia_one W.kitx_float I.kIn ϳ e (fun z=>nomatch z) h
 | @lst a xs ea=>
  cases (show u=Δ a from rx)
  obtain ⟨_,_,n,_,h1⟩:=(show ObjOk X.prog X.w H s.heap a (.lst xs) from I.hok a _ ea)
  exact W.kia_one W.kitx_list I.kIn ⟨_,h1,rfl⟩ e (fun z=>nomatch z) h
 | @frz a ob xs ea=>
  cases (show u=Δ a from rx)
  obtain ⟨_,_,_,n,_,h1⟩:=(show ObjOk X.prog X.w H s.heap a (.frz ob (.lst xs)) from I.hok a _ ea)
  exact W.kia_one W.kitx_list I.kIn ⟨_,h1,rfl⟩ e (fun z=>nomatch z) h
 | @tup a xs ea=>
  cases (show u=Δ a from rx)
  obtain ⟨_,_,_,p⟩:=(show ObjOk X.prog X.w H s.heap a (.tup xs) from I.hok a _ ea)
  obtain ⟨o,h1,h2,_⟩:=p
  exact W.kia_one W.kitx_tuple I.kIn ⟨o,h1,h2⟩ e (fun z=>nomatch z) h
 | @dK a kvs ea=>
  cases (show u=Δ a from rx)
  obtain ⟨_,_,vs,_,p⟩:=(show ObjOk X.prog X.w H s.heap a (.dK kvs) from I.hok a _ ea)
  obtain ⟨o,es,ep,h1,h2,_⟩:=p
  exact W.kia_one W.kitx_dict I.kIn ⟨o,h1,h2.1⟩ e (fun z=>nomatch z) h
 | @dT a kvs ea=>
  cases (show u=Δ a from rx)
  obtain ⟨_,_,xs,_,o,es,ep,h1,h2,_⟩:=(show ObjOk X.prog X.w H s.heap a (.dT kvs) from I.hok a _ ea)
  exact W.kia_one W.kitx_dict I.kIn ⟨o,h1,h2.1⟩ e (fun z=>nomatch z) h
 | @ins a C dx fs ea cl ha hn htk hm=>
  cases (show u=Δ a from rx)
  obtain ⟨mA,O,_⟩:=zb7 I.hok ea
  obtain ⟨od,J,_⟩:=O.look
  exact W.kia_one (W.kitx_own (cl.get _) cl.hd ha hn htk hm) I.kIn J e (fun z=>nomatch z) h
end
structure Room (k:Nat) (A:ϡ):Prop where
 hd:A.handled=none
 gd:A.guards=some []
 dp:A.depth+3*k+5 < recursionLimit
 un:A.units+16*k+200 < aq
theorem Room.mono {j k:Nat}{A:ϡ}(r:Room k A) (h:j<=k):Room j A:=⟨r.hd,r.gd,by have:=r.dp;lia,by have:=r.un;lia⟩
theorem Room.deeper {k:Nat}{A:ϡ}(r:Room (k+1) A) (env:Env):Room k (A.deeper env):=
 ⟨r.hd,r.gd,by have:=r.dp;show A.depth+1+3*k+5 < _;lia,by have:=r.un;show A.units+3+16*k+200 < _;lia⟩
theorem Room.in1 {k:Nat}{A:ϡ}(r:Room (k+1) A):Room k A.in1:=
 ⟨r.hd,r.gd,by have:=r.dp;show A.depth+3*k+5 < _;lia,by have:=r.un;show A.units+1+16*k+200 < _;lia⟩
theorem Room.depth {k:Nat}{A:ϡ}(r:Room k A):A.depth < recursionLimit:=by have:=r.dp;lia
theorem Room.units {k:Nat}{A:ϡ}(r:Room k A):A.units+64 < aq:=by have:=r.un;lia
def tNil:TA:=fun _ H Q=>Q [] H
def tCons (ta:TE) (tr:TA):TA:=fun σ H Q=>ta σ H fun x H1=>tr σ H1 fun xs H2=>Q (x::xs) H2
section
variable {X:Cx}{e:Expr}{es:List Expr}{te:TE}{t:TA}{pos:Pos}
theorem vZ:PA X [] tNil:=fun _ _ _ _ H Q I h=>Calls.spliced_nil ⟨[],H,I,.nil,h⟩
theorem yM (ha:PE X e te) (hr:PA X es t) (hs:Ϩ (e::es) X.env=(false,eval e X.env)::Ϩ es X.env:=by rfl):PA X (e::es) (tCons te t):=by
 intro pos pj s σ H Q I h
 rw [hs]
 show Λ _ _ (spliced ((false,eval e X.env)::fc pos (Ϩ es X.env))) _ _ s
 refine Calls.spliced_cons (thn (ha pj s σ H _ I h) fun u s1 ⟨x,H1,I1,r1,q1⟩=>?_)
 exact thn (hr pos pj s1 σ H1 _ I1 q1) fun us s2 ⟨xs,H2,I2,r2,q2⟩=>⟨x::xs,H2,I2,.cons r1 r2,q2⟩
def tTup (t:TA):TE:=fun σ H Q=>t σ H fun xs H1=>xs.length<=sizeLine/\∀ p,H1 p=none->Q (.ref p) (upd H1 p (.tup xs))
def tLst (t:TA):TE:=fun σ H Q=>t σ H fun xs H1=>xs.length<=sizeLine/\∀ p,H1 p=none->Q (.ref p) (upd H1 p (.lst xs))
theorem zdt {x1} (h:PA X es t):PE X (.Tuple es x1 pos) (tTup t):=by
 intro pj s σ H Q I hq
 refine wpAny_Tuple_spliced (thn (h pos pj s σ H _ I hq) fun us s1 ⟨xs,H1,I1,r,z,q⟩=>⟨by rw [<- r.length];exact z,?_⟩)
 have hf:H1 s1.heap.objs.size=none:=I1.hok.fresh (ν _)
 refine ⟨.ref s1.heap.objs.size,upd H1 s1.heap.objs.size (.tup xs),I1.laid (t':=s1.toks) (fun b u e=>ζ _ e) (ν _) ?_,rfl,q _ hf⟩
 exact ⟨z,us,r,⟨_,ω _ rfl,rfl,_,rfl⟩⟩
theorem zdx (h:PA X es t):PE X (.List es pos) (tLst t):=by
 intro pj s σ H Q I hq
 refine wpAny_List_spliced (thn (h pos pj s σ H _ I hq) fun us s1 ⟨xs,H1,I1,r,z,q⟩=>⟨by rw [<- r.length];exact z,?_⟩)
 have hf:H1 s1.heap.objs.size=none:=I1.hok.fresh (ν _)
 refine ⟨.ref s1.heap.objs.size,upd H1 s1.heap.objs.size (.lst xs),I1.laid (t':=s1.toks) (fun b u e=>ζ _ e) (ν _) ?_,rfl,q _ hf⟩
 exact ⟨z,us,0,r,ω _ rfl⟩
end
abbrev Sp:=List V->Hp->VK->XK->Prop
abbrev CXT:=List Env->Hp->ο->XK->δ->ο->Prop
structure Env0 (P:Ω) (w:ϥ) (K:W.Frag) (mg:Str->Option δ) (base:Heap) (A:ϡ) (outer:List Env) (s:ο) (H:Hp):Prop where
 frames:A.frames=some outer
 mod:Mod K mg base
 bs:∀ b o,base.get? b=some o->s.heap.get? b=some o/\H b=none
 bsz:base.objs.size<=s.heap.objs.size
 funs:s.heap.FunFrames base outer
 frf:∀ b∈frs outer,H b=none
 hok:HOk P w H s.heap
 bare:iy s.gens
def CE (outer:List Env) (P:Ω) (w:ϥ) (H:Hp) (s:ο) (Q:VK) (u:δ) (s':ο):Prop:=
 ∃ v H',s'.os=s.os/\iy s'.gens/\Un (frs outer) [] H H' s.heap s'.heap/\HOk P w H' s'.heap/\RelV v u/\Q v H'
def CR (CX:CXT) (outer:List Env) (P:Ω) (w:ϥ) (H:Hp) (s:ο) (Q:VK) (E:XK) (r:Result) (s':ο):Prop:=
 match r with
 | .ok (.ret u)=>CE outer P w H s Q u s'
 | .ok _=>False
 | .error e=>CX outer H s E e s'
structure FnOk (P:Ω) (w:ϥ) (K:W.Frag) (mg:Str->Option δ) (base:Heap) (CX:CXT) (k:Nat) (f:Addr) (fd:aN) (ps:List Str) (sp:Sp):Prop where
 len:∀ vs H Q E,sp vs H Q E->vs.length=ps.length
 run:∀ (A:ϡ) (outer:List Env) (s:ο) (H:Hp) (args:Args) (us:List δ) (vs:List V) (Q:VK) (E:XK),Room k A->Env0 P w K mg base A outer s H->BindsTo s fd args (ps.zip us)->Vals vs us->sp vs H Q E ->
  codeAny (Χ P w) A (.call (.ref f) args) (CR CX outer P w H s Q E) s
theorem FnOk.mono {P:Ω}{w:ϥ}{K:W.Frag}{mg:Str->Option δ}{base:Heap}{CX:CXT}{j k:Nat}{f:Addr}{fd:aN}{ps:List Str}{sp:Sp}(F:FnOk P w K mg base CX j f fd ps sp) (h:j<=k):
  FnOk P w K mg base CX k f fd ps sp:=⟨F.len,fun A outer s H args us vs Q E hr=>F.run A outer s H args us vs Q E (hr.mono h)⟩
theorem FnOk.imp {P:Ω}{w:ϥ}{K:W.Frag}{mg:Str->Option δ}{base:Heap}{CX:CXT}{k:Nat}{f:Addr}{fd:aN}{ps:List Str}{sp sp':Sp}(F:FnOk P w K mg base CX k f fd ps sp)
  (h:∀ vs H Q E,sp' vs H Q E->sp vs H Q E):FnOk P w K mg base CX k f fd ps sp':=
 ⟨fun vs H Q E q=>F.len vs H Q E (h _ _ _ _ q),fun A outer s H args us vs Q E hr he hb hv hs=>F.run A outer s H args us vs Q E hr he hb hv (h _ _ _ _ hs)⟩
theorem Env0.in1 {P:Ω}{w:ϥ}{K:W.Frag}{mg:Str->Option δ}{base:Heap}{A:ϡ}{outer:List Env}{s:ο}{H:Hp}(e:Env0 P w K mg base A outer s H):
  Env0 P w K mg base A.in1 outer s H:=⟨e.frames,e.mod,e.bs,e.bsz,e.funs,e.frf,e.hok,e.bare⟩
section
variable {X:Cx}{pj:List (Addr×Obj)}{σ:St}{H:Hp}{s s':ο}
theorem Inv.env0 (I:Inv X pj σ H s):Env0 X.prog X.w X.K X.mg X.base X.A X.stack s H:=
 ⟨I.ok.frames,I.ok.mod,I.bs,Ϧ I.ok.bsz I.sz,I.stack,I.VM,I.hok,I.bare⟩
theorem Inv.after {Q:VK}{u:δ}(I:Inv X pj σ H s) (h:CE X.stack X.prog X.w H s Q u s'):EP X pj σ Q u s':=by
 obtain ⟨v,H',os,bare,un,hok,r,q⟩:=h
 obtain ⟨hh,g,d,t,os'⟩:=s'
 obtain rfl:os'=s.os:=os
 exact ⟨v,H',I.call (h':=hh) (g':=g) (d':=d) (t':=t) (ch:=[]) un hok bare (fun b z=>absurd z (by simp)),r,q⟩
end
def tCall (sp:Sp) (dvs:List V) (E:XK) (t:TA):TE:=fun σ H Q=>t σ H fun vs H1=>sp (vs++dvs) H1 Q E
def Binds (K:W.Frag) (fd:aN) (ps:List Str) (ds:List δ):Prop:=
 ∀ (s:ο) (us:List δ),K.In s.heap->(us++ds).length=ps.length->BindsTo s fd ⟨us,[]⟩ (ps.zip (us++ds))
theorem Binds.all {K:W.Frag}{fd:aN}{ps:List Str}(h:∀ us:List δ,us.length=ps.length->bindArgs fd ⟨us,[]⟩=pure (ps.zip us)):Binds K fd ps []:=fun s us _ hl=>by
 rw [Ϣ] at hl ⊢
 exact .of_eq (h us hl)
def Z9 (CX:CXT) (X:Cx) (E:XK):Prop:=∀ (pj:List (Addr×Obj)) (σ:St) (H:Hp) (s:ο) (e:δ) (s':ο),Inv X pj σ H s->CX X.stack H s E e s'->X.xe e s'
section
variable {X:Cx}{CX:CXT}{k:Nat}{f C:Addr}{fd:aN}{ps:List Str}{sp:Sp}{dvs:List V}{ds:List δ}{E:XK}{x m:Str}{p pos apos:Pos}{e o:Expr}{es:List Expr}{ta:TE}{t:TA}
theorem zde {pj:List (Addr×Obj)}{σ:St}{H:Hp}{s:ο}{Q:VK}{us:List δ}{vs:List V}(F:FnOk X.prog X.w X.K X.mg X.base CX k f fd ps sp) (hr:Room k X.A) (hb:Binds X.K fd ps ds) (hd:Vals dvs ds) (hx:Z9 CX X E)
  (I:Inv X pj σ H s) (r:Vals vs us) (h:sp (vs++dvs) H Q E):Λ (Χ X.prog X.w) X.A (call (.ref f) us) (EP X pj σ Q) X.xe s:=by
 have r2:Vals (vs++dvs) (us++ds):=r.append hd
 have hl:(us++ds).length=ps.length:=by rw [<- r2.length];exact F.len _ _ _ _ h
 refine wpAny_call (ik (F.run X.A X.stack s H ⟨us,[]⟩ (us++ds) (vs++dvs) Q E hr I.env0 (hb s us I.kIn hl) r2 h) fun r s' hq=>?_)
 cases r with
 | error e=>exact hx pj σ H s e s' I hq
 | ok fl=>
  cases fl with
  | ret u=>exact I.after hq
  | next=>exact ak hq
  | brk=>exact ak hq
  | cont=>exact ak hq
theorem zbF (F:FnOk X.prog X.w X.K X.mg X.base CX k f fd ps sp) (hr:Room k X.A) (hg:Gl X x) (hm:X.mg x=some (.ref f)) (hk:W.keepIn X.K (.ref f)=true) (hb:Binds X.K fd ps ds) (hd:Vals dvs ds) (hx:Z9 CX X E)
  (ha:PA X (e::es) t) (hdb:(x==("__debug__":Str))=false:=by decide) (he:Ϩ (e::es) X.env=(false,eval e X.env)::Ϩ es X.env:=by rfl) (hpl:(fc pos (Ϩ es X.env)).any (·.1)=false:=by rfl):
  PE X (.Call (.Name x p) (e::es) [] pos) (tCall sp dvs E t):=by
 intro pj s σ H Q I h
 refine fZ (YF I hg hm ?_ hdb)
 refine W.callWith_K (h₀:=X.base) I.ok.mod.kin hk (thn (ha pos pj s σ H _ I h) fun us s1 ⟨vs,H1,I1,r,q⟩=>⟨I1.kIn,?_⟩) he hpl
 exact zde F hr hb hd hx I1 r q
end
def PK (X:Cx) (kws:List bh) (t:TA):Prop:=
 ∀ (pos:Pos) (pj:List (Addr×Obj)) (s:ο) (σ:St) (H:Hp) (Q:List V->Hp->Prop),Inv X pj σ H s->t σ H Q->Λ (Χ X.prog X.w) X.A (evalAll ((b8 pos (aK kws X.env)).map (·.2))) (AP X pj σ Q) X.xe s
section
variable {X:Cx}{CX:CXT}{k:Nat}{f C:Addr}{fd:aN}{ps ks:List Str}{sp:Sp}{E:XK}{x m:Str}{p pos apos kpos:Pos}{e o:Expr}{es:List Expr}{kws:List bh}{te ta:TE}{t tk:TA}{nm:Option Str}
theorem zdq:PK X [] tNil:=fun _ _ _ _ H Q I h=>wpAny_evalAll_nil ⟨[],H,I,.nil,h⟩
theorem zbB (ha:PE X e te) (hr:PK X kws t):PK X (⟨nm,e,kpos⟩::kws) (tCons te t):=by
 intro pos pj s σ H Q I h
 show Λ _ _ (evalAll ((do let v <- eval e X.env;standAt pos;pure v)::(b8 pos (aK kws X.env)).map (·.2))) _ _ s
 refine wpAny_evalAll_cons (γ (thn (ha pj s σ H _ I h) fun u s1 ⟨x,H1,I1,r1,q1⟩=>γ (lu (η ?_))))
 exact thn (hr pos pj s1 σ H1 _ I1 q1) fun us s2 ⟨xs,H2,I2,r2,q2⟩=>⟨x::xs,H2,I2,.cons r1 r2,q2⟩
structure Kf (K:W.Frag) (fd:aN) (ps ks:List Str) (g:List δ->List δ->List δ) (gV:List V->List V->List V):Prop where
 to:∀ (s:ο) (us ws:List δ),K.In s.heap->(g us ws).length=ps.length->BindsTo s fd ⟨us,ks.zip ws⟩ (ps.zip (g us ws))
 rel:∀ {vs:List V}{us:List δ}{zs:List V}{ws:List δ},Vals vs us->Vals zs ws->Vals (gV vs zs) (g us ws)
def zcP (sp:Sp) (gV:List V->List V->List V) (E:XK) (t tk:TA):TE:=fun σ H Q=>t σ H fun vs H1=>tk σ H1 fun zs H2=>sp (gV vs zs) H2 Q E
variable {g:List δ->List δ->List δ}{gV:List V->List V->List V}
theorem zbe {pj:List (Addr×Obj)}{σ:St}{H:Hp}{s:ο}{Q:VK}{us ws:List δ}{vs zs:List V}(F:FnOk X.prog X.w X.K X.mg X.base CX k f fd ps sp) (hr:Room k X.A) (hb:Kf X.K fd ps ks g gV) (hx:Z9 CX X E)
  (I:Inv X pj σ H s) (r:Vals vs us) (rz:Vals zs ws) (h:sp (gV vs zs) H Q E):Λ (Χ X.prog X.w) X.A (call (.ref f) us (ks.zip ws)) (EP X pj σ Q) X.xe s:=by
 have r2:=hb.rel r rz
 have hl:(g us ws).length=ps.length:=by rw [<- r2.length];exact F.len _ _ _ _ h
 refine wpAny_call (ik (F.run X.A X.stack s H ⟨us,ks.zip ws⟩ (g us ws) (gV vs zs) Q E hr I.env0 (hb.to s us ws I.kIn hl) r2 h) fun r s' hq=>?_)
 cases r with
 | error e=>exact hx pj σ H s e s' I hq
 | ok fl=>
  cases fl with
  | ret u=>exact I.after hq
  | next=>exact ak hq
  | brk=>exact ak hq
  | cont=>exact ak hq
end
structure ql (N P:List Str) (sc:c7):Prop where
 kind:sc.kind=.function
 co:sc.isCoroutine=false
 gen:sc.isGenerator=false
 nd:N.Nodup
 pre:N.take P.length=P
 par:∀ x∈P,sc.names.lookup x=some .local\/sc.names.lookup x=some .cell
 nofree:∀ y∈sc.names,y.2≠.free
theorem Z0 {kindOf:Str->Option ϯ}{x:Str}:∀ {binds:List (Str×δ)}{m:Str->Option δ},(∀ v,(x,v) ∉ binds)->bindL kindOf binds m x=m x
 | [],_,_=>rfl
 | (n,v)::r,m,h=>by
  unfold bindL
  rw [Z0 fun w hw=>h w (ι _ hw)]
  split
  ·have:x≠n:=by rintro rfl;exact h v ς
   simp [this]
  ·rfl
theorem Z2 {kindOf:Str->Option ϯ}{x:Str}:∀ {binds:List (Str×δ)}{m:Str->Option δ},(∀ v,(x,v) ∉ binds)->bindC kindOf binds m x=m x
 | [],_,_=>rfl
 | (n,v)::r,m,h=>by
  unfold bindC
  rw [Z2 fun w hw=>h w (ι _ hw)]
  split
  ·rfl
  ·have:x≠n:=by rintro rfl;exact h v ς
   simp [this]
theorem Z1 {kindOf:Str->Option ϯ}{x:Str}{v:δ}:∀ {P:List Str}{vs:List δ}{i:Nat}{m:Str->Option δ},P.Nodup->P[i]?=some x->vs[i]?=some v->kindOf x=some .local ->
  bindL kindOf (P.zip vs) m x=some v
 | [],_,_,_,_,h,_,_=>by simp at h
 | _::_,[],_,_,_,_,h,_=>by simp at h
 | p::P,w::vs,0,m,nd,h1,h2,hk=>by
  simp at h1 h2;subst h1;subst h2
  show bindL kindOf ((p,w)::P.zip vs) m p=_
  unfold bindL
  rw [Z0 fun v hv=>(dX.mp nd).1 (dW hv).1,if_pos hk]
  simp
 | p::P,w::vs,i+1,m,nd,h1,h2,hk=>by
  show bindL kindOf ((p,w)::P.zip vs) m x=_
  unfold bindL
  exact Z1 (i:=i) (dX.mp nd).2 (by simpa using h1) (by simpa using h2) hk
theorem Z3 {kindOf:Str->Option ϯ}{x:Str}{v:δ}:∀ {P:List Str}{vs:List δ}{i:Nat}{m:Str->Option δ},P.Nodup->P[i]?=some x->vs[i]?=some v->kindOf x≠some .local ->
  bindC kindOf (P.zip vs) m x=some v
 | [],_,_,_,_,h,_,_=>by simp at h
 | _::_,[],_,_,_,_,h,_=>by simp at h
 | p::P,w::vs,0,m,nd,h1,h2,hk=>by
  simp at h1 h2;subst h1;subst h2
  show bindC kindOf ((p,w)::P.zip vs) m p=_
  unfold bindC
  rw [Z2 fun v hv=>(dX.mp nd).1 (dW hv).1,if_neg hk]
  simp
 | p::P,w::vs,i+1,m,nd,h1,h2,hk=>by
  show bindC kindOf ((p,w)::P.zip vs) m x=_
  unfold bindC
  exact Z3 (i:=i) (dX.mp nd).2 (by simpa using h1) (by simpa using h2) hk
noncomputable def start (N:List Str) (vs:List V):St:=vs.map some++Ψ (N.length - vs.length) none
noncomputable def cxOf (CX:CXT) (P:Ω) (w:ϥ) (K:W.Frag) (mg:Str->Option δ) (base:Heap) (N:List Str) (qual:Str) (scope:c7) (f:Addr) (cd:δ) (A:ϡ) (outer:List Env) (s:ο) (H:Hp) (E:XK):Cx where
 prog:=P
 w:=w
 K:=K
 mg:=mg
 base:=base
 A:=A.deeper (lA qual scope s.heap.objs.size f cd)
 N:=N
 sw:=s
 Hz:=H
 env:=lA qual scope s.heap.objs.size f cd
 outer:=outer
 stack:=lA qual scope s.heap.objs.size f cd::outer
 ex:=[]
 calm:=true
 fn:=fun _=>true
 pn:=[]
 xe:=fun e s'=>Λ (Χ P w) (A.deeper (lA qual scope s.heap.objs.size f cd)) (leaving (lA qual scope s.heap.objs.size f cd) e) (fun _ s''=>CX outer H s E e s'') (fun e' s''=>CX outer H s E e' s'') s'
theorem qd {sc:c7}{n:Nat}{x:Str}(h:sc.names.lookup x=some .cell):∃ c,(cellsFrom n sc.names []).lookup x=some c:=by
 have q:=W.cellsFrom_some sc.names n [] (.inl h)
 exact lM.mp q
theorem Jr {CX:CXT}{P:Ω}{w:ϥ}{K:W.Frag}{mg:Str->Option δ}{base:Heap}{N ps:List Str}{qual:Str}{scope:c7}{f:Addr}{cd:δ}{A:ϡ}{outer:List Env}{s s1:ο}{H:Hp}{E:XK}{us:List δ}{vs:List V}
  (S:ql N ps scope) (hd:A.handled=none) (e0:Env0 P w K mg base A outer s H) (hl:vs.length=ps.length) (r:Vals vs us)
  (x:InCallC s s.heap.objs.size (bindL (lA qual scope s.heap.objs.size f cd).kindOf (ps.zip us) fun _=>none) (cellsFrom (s.heap.objs.size+1) scope.names []) (bindC (lA qual scope s.heap.objs.size f cd).kindOf (ps.zip us) fun _=>none) s1):
  Inv (cxOf CX P w K mg base N qual scope f cd A outer s H E) [] (start N vs) H s1:=by
 have hpl:ps.length<=N.length:=by have:=congrArg dR S.pre;rw [aA] at this;lia
 obtain ⟨h1,tk,rfl,hk⟩:=x.done
 have noA:∀ b:Addr,b ∉ (cxOf CX P w K mg base N qual scope f cd A outer s H E).ex:=fun b z=>absurd (show b∈([]:List Addr) from z) (by simp)
 refine ⟨⟨e0.mod,S.kind,rfl,rfl,ν _,fun y z c h1 h2=>?_,fun y hy=>?_,fun y c _ h=>?_,fun _=>hd,ϡ.frames_deeper e0.frames,.inr ⟨rfl,rfl⟩,fun b z=>absurd z (noA b),e0.bs,e0.bsz,fun b _ _=>noA b,fun b z=>absurd z (noA b),e0.funs,e0.frf⟩,
  rfl,e0.bare,Un.kept hk,⟨_,x.toInCall.ns,fun i y v h1 h2 h3=>?_⟩,fun y c h=>⟨_,x.cell y c h⟩,e0.hok.fresh (ν _),fun y c h=>?_,fun p hp=>absurd (show p∈([]:List (Addr×Obj)) from hp) (by simp),e0.hok.kept hk,?_⟩
 ·exact name_of_addr x.apart (aQ h1) (aQ h2)
 ·have hy:scope.names.lookup y=some .cell\/scope.names.lookup y=some .free:=hy
  rcases hy with hy | hy
  ·exact qd hy
  ·exact absurd rfl (S.nofree _ (aQ hy))
 ·exact gA (x.above y c (aQ h))
 ·have hi:i < vs.length:=by
   unfold start at h2
   by_cases hi:i < vs.length
   ·exact hi
   ·rw [ϒ (by simpa using hi)] at h2
    rw [cU] at h2
    split at h2 <;> cases h2
  have ha:vs[i]?=some v:=by
   unfold start at h2
   rw [Υ (by simpa using hi),Μ] at h2
   cases e:vs[i]? with
   | none=>rw [e] at h2;cases h2
   | some a=>rw [e] at h2;cases h2;rfl
  obtain ⟨u,hu,rv⟩:=r.get ha
  have hp:ps[i]?=some y:=by
   rw [<- S.pre,mJ (by lia)];exact h1
  have ndP:ps.Nodup:=by rw [<- S.pre];exact S.nd.sublist (List.take_sublist _ _)
  refine ⟨u,rv,?_⟩
  rcases S.par y (Ϝ hp) with k | k
  ·exact .inl ⟨k,Z1 ndP hp hu k⟩
  ·obtain ⟨c,e⟩:=qd (n:=s.heap.objs.size+1) k
   refine .inr ⟨.inl k,c,e,?_⟩
   have q:=x.cell y c e
   rw [Z3 ndP hp hu (by show scope.names.lookup y≠_;rw [k];decide)] at q
   exact q
 ·exact e0.hok.fresh (gA (x.above y c (aQ h)))
 ·unfold start
  show _=N.length
  rw [Α,Ζ,gF]
  lia
theorem fn_of {CX:CXT}{P:Ω}{w:ϥ}{K:W.Frag}{mg:Str->Option δ}{base:Heap}{k:Nat}{f:Addr}{name qual:Str}{params:Arguments}{body:List Stmt}{scope:c7}{dV kV doc pm cdv ct oc:δ}{an od:Option Addr}
  {osl:Array (Option δ)}{N ps:List Str}{sp:Sp}(lk:K.lookup f=some ⟨oc,od,.func (W.fnOf name qual params body scope dV kV doc pm an cdv ct),osl⟩) (hcd:W.codeIn K cdv qual=true) (S:ql N ps scope)
  (len:∀ vs H Q E,sp vs H Q E->vs.length=ps.length)
  (hbody:∀ (A:ϡ) (outer:List Env) (s:ο) (H:Hp) (vs:List V) (Q:VK) (E:XK),Room k (A.deeper (lA qual scope s.heap.objs.size f cdv))->sp vs H Q E ->
   ∃ t,PSs (cxOf CX P w K mg base N qual scope f cdv A outer s H E) body t/\t { nx:=fun _ H'=>Q .non H',rt:=Q } (start N vs) H):
  FnOk P w K mg base CX (k+1) f (W.fnOf name qual params body scope dV kV doc pm an cdv ct) ps sp:=by
 refine ⟨len,fun A outer s H args us vs Q E hr e0 hb r hsp=>?_⟩
 have hl:=len _ _ _ _ hsp
 have KX:K.In s.heap:=e0.mod.kin.keeps fun b o e=>(e0.bs b o e).1
 have lim:s.heap.NoLimit:=e0.mod.nolimit.keeps fun b o e=>(e0.bs b o e).1
 have hkind:∀ y∈ps.zip us,scope.names.lookup y.1=some .local\/(scope.names.lookup y.1=some .cell/\((cellsFrom (s.heap.objs.size+1) scope.names []).lookup y.1).isSome=true):=fun ⟨n,v⟩ hy=>by
  rcases S.par n (dW hy).1 with q | q
  ·exact .inl q
  ·exact .inr ⟨q,W.cellsFrom_some _ _ _ (.inl q)⟩
 refine codeAny_call_function hr.depth (KX _ _ lk) rfl S.co S.gen rfl (W.codeRec_of KX hcd) (hb _ _ _ _ ?_)
 refine wpAny_newFunctionEnv_cells S.kind hkind fun env he s1 x=>?_
 subst he
 refine ⟨lim.keeps x.toInCall.keep,codeAny_func ?_⟩
 obtain ⟨t,ht,hq⟩:=hbody A outer s H vs Q E (hr.deeper _) hsp
 have I:Inv (cxOf CX P w K mg base N qual scope f cdv A outer s H E) [] (start N vs) H s1:=Jr S hr.hd e0 hl r x
 refine cF (ht [] s1 (start N vs) H _ I hq) (fun fl s' hs=>?_) fun e s' hs=>hs
 have fin:∀ {σ':St}{H':Hp}{v:V}{u:δ},Inv (cxOf CX P w K mg base N qual scope f cdv A outer s H E) [] σ' H' s'->RelV v u->Q v H'->CE outer P w H s Q u s':=
  fun {σ' H' v u} J rv q=>⟨v,H',J.os,J.bare,J.base,J.hok,rv,q⟩
 cases fl with
 | ret u=>
  obtain ⟨v,σ',H',J,rv,q⟩:=hs
  exact fin J rv q
 | next=>
  obtain ⟨σ',H',J,q⟩:=hs
  exact fin (v:=V.non) (u:=Κ) J rfl q
 | brk=>
  obtain ⟨_,_,_,q⟩:=hs
  exact ak q
 | cont=>
  obtain ⟨_,_,_,q⟩:=hs
  exact ak q
section
variable {X:Cx}{x:Str}{p pos:Pos}{e:Expr}{es:List Expr}{t:TA}{id T:String}{r:List V->Hp->VK->Prop}
def tCB (r:List V->Hp->VK->Prop) (t:TA):TE:=fun σ H Q=>t σ H fun vs H1=>r vs H1 Q
theorem XJ (hc:CallR X (.builtin id) r) (hg:Gl X x) (hm:X.mg x=none) (hv:bU x=some (.builtin id)) (ha:PA X (e::es) t) (hn:x≠"__name__":=by decide) (hdb:(x==("__debug__":Str))=false:=by decide)
  (he:Ϩ (e::es) X.env=(false,eval e X.env)::Ϩ es X.env:=by rfl) (hpl:(fc pos (Ϩ es X.env)).any (·.1)=false:=by rfl):PE X (.Call (.Name x p) (e::es) [] pos) (tCB r t):=by
 intro pj s σ H Q I h
 refine fZ (Zd I hg hm hv ?_ hn hdb)
 exact PyProof.Rows.callWith_builtin1 (thn (ha pos pj s σ H _ I h) fun us s1 ⟨vs,H1,I1,r1,q1⟩=>hc pj s1 σ H1 vs us Q I1 r1 q1) he hpl
theorem Ur (hc:CallR X (.type T) r) (hg:Gl X x) (hm:X.mg x=none) (hv:bU x=some (.type T)) (ha:PA X (e::es) t) (hn:x≠"__name__":=by decide) (hdb:(x==("__debug__":Str))=false:=by decide)
  (he:Ϩ (e::es) X.env=(false,eval e X.env)::Ϩ es X.env:=by rfl) (hpl:(fc pos (Ϩ es X.env)).any (·.1)=false:=by rfl):PE X (.Call (.Name x p) (e::es) [] pos) (tCB r t):=by
 intro pj s σ H Q I h
 refine fZ (Zd I hg hm hv ?_ hn hdb)
 exact dz (thn (ha pos pj s σ H _ I h) fun us s1 ⟨vs,H1,I1,r1,q1⟩=>hc pj s1 σ H1 vs us Q I1 r1 q1) he hpl
end
end L2
namespace HT
open PySem PyProof.Rows
section
open PySem.SeqAt
open PySem.AutoSeq1 (wpAny_loadPart')
open PySem.MeetsSeq PySem.MeetsSeq2 PySem.MeetsSeq3
end
section
variable {prog:Ω}{w:ϥ}{A:ϡ}{E:δ->ο->Prop}{s:ο}
theorem zcq {t b:Addr}{vs ws:List δ}{Q:δ->ο->Prop}(ht:IsTup s.heap t vs.toArray) (hb:IsTup s.heap b ws.toArray) (hv:vs≠[])
  (h1:ws=[]->Q (.ref t) s) (h2:ws≠[]->Q (.ref s.heap.objs.size) { s with heap:=s.heap.push { cls:=.type "tuple",data:=.seq (vs++ws).toArray } })
  (hsz:vs.length+ws.length<=sizeLine):Λ (Χ prog w) A (bA .Add (.ref t) (.ref b)) Q E s:=by
 obtain ⟨⟨cls,dd,data,sl⟩,ho,hc,n,hd⟩:=id ht
 obtain ⟨⟨cls2,dd2,data2,sl2⟩,ho2,hc2,n2,hd2⟩:=id hb
 simp only at hc hd hc2 hd2
 subst hc hd hc2 hd2
 have e:vs.toArray++ws.toArray=(vs++ws).toArray:=by simp
 by_cases hw:ws=[]
 ·exact nW ⟨_,ho,rfl⟩ ⟨_,ho2,rfl⟩ lV nF gf fM (fj _ _)
   (tuple_addW1 t b vs.toArray ws.toArray n n2 dd dd2 sl sl2 (by simpa using hv) (by simp [hw])) ⟨ho,ho2,h1 hw⟩
 ·refine nW ⟨_,ho,rfl⟩ ⟨_,ho2,rfl⟩ lV nF gf fM (fj _ _)
   (tuple_addW2 t b vs.toArray ws.toArray n n2 dd dd2 sl sl2 (by simpa using hv) (by simpa using hw) (by rw [θ,θ];exact hsz)) ⟨ho,ho2,?_⟩
  rw [e]
  exact h2 hw
noncomputable def sIx (n d:Nat):Option Int->Nat
 | none=>d
 | some v=>if v < 0 then (v+(n:Int)).toNat else min v.toNat n
theorem Xp (n d:Nat):sIx n d none=d:=rfl
theorem zdd (n d:Nat) (hd:d<=n) (o:Option Int):sIx n d o<=n:=by
 cases o with
 | none=>exact hd
 | some v=>
  show (if v < 0 then (v+(n:Int)).toNat else min v.toNat n)<=n
  by_cases hv:v < 0
  ·rw [if_pos hv];omega
  ·rw [if_neg hv];exact Nat.min_le_right _ _
theorem JW (v:Int) (n d:Nat):(if v < 0 then max (v+(n:Int)) 0 else min v (n:Int))=((sIx n d (some v):Nat):Int):=by
 show (if v < 0 then max (v+(n:Int)) 0 else min v (n:Int))=(((if v < 0 then (v+(n:Int)).toNat else min v.toNat n):Nat):Int)
 by_cases hv:v < 0
 ·simp only [if_pos hv];omega
 ·simp only [if_neg hv];omega
theorem Vk (lo hi:Option Int) (n:Nat):dM lo hi 1 (n:Int)=(((sIx n 0 lo:Nat):Int),((sIx n n hi:Nat):Int)):=by
 have h1:¬ ((1:Int) < 0):=by omega
 unfold dM
 simp only [h1,if_false]
 refine Prod.ext ?_ ?_
 ·cases lo with
  | none=>rfl
  | some v=>exact JW v n 0
 ·cases hi with
  | none=>rfl
  | some v=>exact JW v n n
theorem W6 (i j:Nat):bN (i:Int) (j:Int) 1=j - i:=by
 unfold bN
 have h1:(1:Int) > 0:=by omega
 simp only [h1,if_true,Int.ediv_one]
 split <;> omega
theorem uY {v:δ}{o:Option Int}{Q:Option Int->ο->Prop}(p:iw v o) (h:Q o s):Λ (Χ prog w) A (Φ.Slice.slicePartIndex v) Q E s:=by
 cases p with
 | none=>exact slicePart_none h
 | int i t=>exact slicePart_int h
theorem yG {sl:Addr}{vl vu:δ}{lo hi:Option Int}{n:Nat}{Q:Int×Int×Nat->ο->Prop}(hs:s.heap.IsSliceOf sl vl vu .none) (pl:iw vl lo) (pu:iw vu hi)
  (h:Q (((sIx n 0 lo:Nat):Int),1,sIx n n hi - sIx n 0 lo) s):Λ (Χ prog w) A (iI (.ref sl) (pure (n:Int))) Q E s:=by
 obtain ⟨os,hos,hcs,hds⟩:=id hs
 unfold iI Φ.Slice.sliceFields
 refine γ (γ (Ϲ hos hds (x:=vl) rfl (γ (Ϲ hos hds (x:=vu) rfl (γ (Ϲ hos hds (x:=.none) rfl (η ?_)))))))
 refine γ (slicePart_none ?_)
 show Λ _ _ (if ((1:Int)==0)=true then _ else _) _ _ s
 rw [if_neg (by decide)]
 refine γ (uY pl (γ (uY pu (γ (η ?_)))))
 show Λ _ _ (match dM lo hi 1 (n:Int) with | (lo,hi)=>pure (lo,(1:Int),bN lo hi 1)) _ _ s
 rw [Vk lo hi n]
 show Λ _ _ (pure (((sIx n 0 lo:Nat):Int),(1:Int),bN ((sIx n 0 lo:Nat):Int) ((sIx n n hi:Nat):Int) 1)) _ _ s
 rw [W6]
 exact η h
theorem K4 (xs:Array δ) (i k:Nat):((ao k).filterMap fun (m:Nat)=>xs[((i:Int)+(m:Int)*1).toNat]?).toArray=((xs.toList.drop i).take k).toArray:=by
 have e:(fun (m:Nat)=>xs[((i:Int)+(m:Int)*1).toNat]?)=fun m=>xs[i+m]?:=by
  funext m
  have:((i:Int)+(m:Int)*1).toNat=i+m:=by omega
  rw [this]
 rw [e]
 have:=pick_run xs i k
 rw [List.filterMap_map] at this
 have e2:((fun x=>xs[x]?)∘fun x=>i+x)=fun m=>xs[i+m]?:=rfl
 rw [e2] at this
 rw [this]
theorem wC {t sl:Addr}{items:Array δ}{vl vu:δ}{lo hi:Option Int}{Q:δ->ο->Prop}(ht:IsTup s.heap t items) (hs:s.heap.IsSliceOf sl vl vu .none) (pl:iw vl lo) (pu:iw vu hi)
  (hw:¬ (sIx items.size 0 lo=0/\sIx items.size items.size hi=items.size))
  (h:Q (.ref s.heap.objs.size) { s with heap:=s.heap.push { cls:=.type "tuple",data:=.seq ((items.toList.drop (sIx items.size 0 lo)).take (sIx items.size items.size hi - sIx items.size 0 lo)).toArray } })
  (hsz:items.size<=sizeLine):Λ (Χ prog w) A (iW (.ref t) (.ref sl)) Q E s:=by
 have htake:sizeOk (.seq ((items.toList.drop (sIx items.size 0 lo)).take (sIx items.size items.size hi - sIx items.size 0 lo)).toArray):=by
  show ((items.toList.drop (sIx items.size 0 lo)).take (sIx items.size items.size hi - sIx items.size 0 lo)).toArray.size<=sizeLine
  rw [θ,aA,dD,aC]
  omega
 have hj:sIx items.size items.size hi<=items.size:=zdd _ _ (ν _) hi
 obtain ⟨os,hos,hcs,hds⟩:=id hs
 have hTs:s.TypeIs (.ref sl) "slice":=⟨os,hos,hcs⟩
 unfold iW
 try with_reducible refine bj ?_
 first | refine γ (η ?_) | skip
 refine γ (wpAny_sequenceKey ht.typeIs (by decide) ?_)
 refine γ (Ϡ (name:=eV "__getitem__") ht.typeIs ϭ
  (Ϙ ϭ ht.typeIs entry_tuple_getitem ?_ (args_tuple_getitem _ _)))
 show Λ _ _ (iH (.ref t) >>= _) _ _ s
 refine γ (tupleItemsOf_ ht ?_)
 refine γ (fK hTs ?_)
 rw [if_pos (by decide)]
 refine γ (yG hs pl pu ?_)
 have hno:¬ ((((sIx items.size 0 lo:Nat):Int)==0&&(1:Int)==1&&(sIx items.size items.size hi - sIx items.size 0 lo)==items.size)=true):=by
  intro q
  rw [ε,ε] at q
  have q1:((sIx items.size 0 lo:Nat):Int)=0:=eq_of_beq q.1.1
  have q2:sIx items.size items.size hi - sIx items.size 0 lo=items.size:=eq_of_beq q.2
  exact hw ⟨by omega,by omega⟩
 show Λ _ _ (if (((sIx items.size 0 lo:Nat):Int)==0&&(1:Int)==1&&(sIx items.size items.size hi - sIx items.size 0 lo)==items.size)=true then _ else _) _ _ s
 rw [if_neg hno,K4]
 first
  | exact γ (m:=bY _) (ϖ (η ⟨_,rfl,η h⟩) htake)
  | exact γ (m:=bY _) (ϖ (γ (η (η ⟨_,rfl,η h⟩))) htake)
  | exact γ (γ (m:=bY _) (ϖ (η (η ⟨_,rfl,η h⟩)) htake))
  | exact γ (γ (m:=bY _) (ϖ (η ⟨_,rfl,η h⟩) htake))
end
end HT
namespace L2
open PySem PySem.Spec PyProof.Rows
abbrev TO:=St->Hp->(Option Int->Hp->Prop)->Prop
def PO (X:Cx) (e:Option Expr) (t:TO):Prop:=
 ∀ (pj:List (Addr×Obj)) (s:ο) (σ:St) (H:Hp) (Q:Option Int->Hp->Prop),Inv X pj σ H s->t σ H Q ->
  Λ (Χ X.prog X.w) X.A (evalPart e X.env) (fun u s'=>∃ o H',Inv X pj σ H' s'/\iw u o/\Q o H') X.xe s
def zaY:TO:=fun _ H Q=>Q none H
def tPart (t:TE):TO:=fun σ H Q=>t σ H fun x H1=>∃ i,x=.int i/\Q (some i) H1
section
variable {X:Cx}{e:Expr}{te:TE}{lo hi:Option Expr}{tl th:TO}{pos p2:Pos}
theorem zbA:PO X none zaY:=by
 intro pj s σ H Q I h
 rw [evalPart_none]
 exact η ⟨none,H,I,.none,h⟩
theorem zbz (h:PE X e te):PO X (some e) (tPart te):=by
 intro pj s σ H Q I hw
 rw [evalPart_some]
 refine thn (h pj s σ H _ I hw) fun u s1 ⟨x,H1,I1,r1,q1⟩=>?_
 obtain ⟨i,rfl,q⟩:=q1
 obtain ⟨t,rfl⟩:=r1
 exact ⟨some i,H1,I1,.int i t,q⟩
def SlR (X:Cx) (r:V->Option Int->Option Int->Hp->VK->Prop):Prop:=
 ∀ (pj:List (Addr×Obj)) (s:ο) (σ:St) (H:Hp) (x:V) (v vl vu:δ) (lo hi:Option Int) (sl:Addr) (Q:VK),Inv X pj σ H s->RelV x v->s.heap.IsSliceOf sl vl vu .none->iw vl lo->iw vu hi->r x lo hi H Q ->
  ∃ T id,typeLookup (.type T) "__getitem__"=pure (some (.builtin id))/\s.TypeIs v T/\Λ (Χ X.prog X.w) X.A (iW v (.ref sl)) (EP X pj σ Q) X.xe s
theorem SlR.or {r r':V->Option Int->Option Int->Hp->VK->Prop}(h:SlR X r) (h':SlR X r'):SlR X (fun x lo hi H Q=>r x lo hi H Q\/r' x lo hi H Q):=by
 intro pj s σ H x v vl vu lo hi sl Q I rx hs pl pu q
 rcases q with q | q
 ·exact h pj s σ H x v vl vu lo hi sl Q I rx hs pl pu q
 ·exact h' pj s σ H x v vl vu lo hi sl Q I rx hs pl pu q
def tSl (r:V->Option Int->Option Int->Hp->VK->Prop) (te:TE) (tl th:TO):TE:=fun σ H Q=>te σ H fun x H1=>tl σ H1 fun l H2=>th σ H2 fun u H3=>r x l u H3 Q
theorem K7 {r:V->Option Int->Option Int->Hp->VK->Prop}(hr:SlR X r) (he:PE X e te) (hl:PO X lo tl) (hu:PO X hi th):PE X (.Subscript e (.Slice lo hi none p2) pos) (tSl r te tl th):=by
 intro pj s σ H Q I h
 refine Subscript_ (thn (he pj s σ H _ I h) fun v s1 ⟨x,H1,I1,r1,q1⟩=>?_)
 refine wpAny_Slice (thn (hl pj s1 σ H1 _ I1 q1) fun vl s2 ⟨l,H2,I2,pl,q2⟩=>thn (hu pj s2 σ H2 _ I2 q2) fun vu s3 ⟨u,H3,I3,pu,q3⟩=>?_)
 rw [evalPart_none]
 refine η ?_
 have I4:Inv X pj σ H3 { s3 with heap:=s3.heap.push { cls:=.type "slice",data:=.fields #[vl,vu,.none] } }:=I3.kept (t':=s3.toks) fun b ob q=>ζ _ q
 obtain ⟨T,id,hT,ht,hg⟩:=hr pj { s3 with heap:=s3.heap.push { cls:=.type "slice",data:=.fields #[vl,vu,.none] } } σ H3 x v vl vu l u s3.heap.objs.size Q I4 r1 (Heap.IsSliceOf.new ..) pl pu q3
 show Λ (Χ X.prog X.w) X.A (subscriptTail e (.Slice lo hi none p2) v (.ref s3.heap.objs.size)) (EP X pj σ Q) X.xe { s3 with heap:=s3.heap.push { cls:=.type "slice",data:=.fields #[vl,vu,.none] } }
 exact tail_any (ops:=[.ref s3.heap.objs.size,v]) ht hT hg (by with_unfolding_all rfl)
noncomputable def cutV (xs:List V) (lo hi:Option Int):List V:=(xs.drop (HT.sIx xs.length 0 lo)).take (HT.sIx xs.length xs.length hi - HT.sIx xs.length 0 lo)
theorem uC (xs:List V) (lo hi:Option Int):(cutV xs lo hi).length<=xs.length:=by
 unfold cutV
 rw [aA,dD]
 lia
def rSlT (K:W.Frag):V->Option Int->Option Int->Hp->VK->Prop:=fun x lo hi H Q=>∃ a xs,x=.ref a/\SqT K H a xs /\
 ¬ (HT.sIx xs.length 0 lo=0/\HT.sIx xs.length xs.length hi=xs.length)/\∀ p,H p=none->Q (.ref p) (upd H p (.tup (cutV xs lo hi)))
theorem zcS:SlR X (rSlT X.K):=by
 intro pj s σ H x v vl vu lo hi sl Q I rx hs pl pu h
 obtain ⟨a,xs,rfl,hx,hw,q⟩:=h
 cases rx
 obtain ⟨its,r,ht,hz⟩:=I.tuple hx
 have hlen:its.toArray.size=xs.length:=by rw [θ];exact r.length.symm
 refine ⟨"tuple",_,ϭ.lookup,ht.typeIs,?_⟩
 refine HT.wC ht hs pl pu (by rw [hlen];exact hw) ?_ (by rw [hlen];exact hz)
 rw [hlen]
 refine ⟨.ref s.heap.objs.size,_,I.laid (t':=s.toks) (o:=.tup (cutV xs lo hi)) (fun b ob q=>ζ _ q) (ν _) ?_,rfl,q _ (I.hok.fresh (ν _))⟩
 exact ⟨Ϧ (uC xs lo hi) hz,_,(r.drop (HT.sIx xs.length 0 lo)).take (HT.sIx xs.length xs.length hi - HT.sIx xs.length 0 lo),IsTup.new _ _⟩
def rCatT (K:W.Frag):R2:=fun x y H Q=>∃ a b xs ys,x=.ref a/\y=.ref b/\SqT K H a xs/\SqT K H b ys/\xs≠[]/\xs.length+ys.length<=sizeLine /\
 (ys=[]->Q (.ref a) H)/\(ys≠[]->∀ p,H p=none->Q (.ref p) (upd H p (.tup (xs++ys))))
theorem Vals.Yv {xs:List V}{us:List δ}(r:Vals xs us):us=[] ↔ xs=[]:=by
 cases r with
 | nil=>simp
 | cons _ _=>simp
theorem zbL:OpR X (bA .Add) (rCatT X.K):=by
 intro pj s σ H x y v u Q I rx ry h
 obtain ⟨a,b,xs,ys,rfl,rfl,ha,hb,hx,hz,q1,q2⟩:=h
 cases rx
 cases ry
 obtain ⟨its,r1,p1,_⟩:=I.tuple ha
 obtain ⟨its2,r2,p2,_⟩:=I.tuple hb
 refine HT.zcq p1 p2 (fun z=>hx (r1.Yv.mp z)) (fun z=>⟨.ref a,H,I,rfl,q1 (r2.Yv.mp z)⟩) (fun z=>?_) (by rw [<- r1.length,<- r2.length];exact hz)
 refine ⟨.ref s.heap.objs.size,_,I.laid (t':=s.toks) (o:=.tup (xs++ys)) (fun b ob q=>ζ _ q) (ν _) ?_,rfl,q2 (fun w=>z (r2.Yv.mpr w)) _ (I.hok.fresh (ν _))⟩
 exact ⟨by rw [Α];exact hz,_,r1.append r2,IsTup.new _ _⟩
end
noncomputable def ixN (n:Nat) (i:Int):Option Nat:=if 0<=i then (if i < n then some i.toNat else none) else if -(n:Int)<=i then some (i+n).toNat else none
noncomputable def atI {α:Type}(xs:List α) (i:Int):Option α:=(ixN xs.length i).bind fun j=>xs[j]?
theorem Jl {n:Nat}{i:Int}{j:Nat}(h:ixN n i=some j):seqIndex? i n=some j/\j < n/\-(n:Int)<=i/\i < n:=by
 unfold ixN at h
 by_cases h0:0<=i
 ·rw [if_pos h0] at h
  by_cases h1:i < n
  ·rw [if_pos h1] at h
   have e:i.toNat=j:=Ϛ h
   exact ⟨by rw [seqIndex_of h0 h1,e],by lia,by lia,h1⟩
  ·rw [if_neg h1] at h;cases h
 ·rw [if_neg h0] at h
  by_cases h1:-(n:Int)<=i
  ·rw [if_pos h1] at h
   have e:(i+n).toNat=j:=Ϛ h
   exact ⟨by rw [seqIndex_neg (by lia) h1,e],by lia,h1,by lia⟩
  ·rw [if_neg h1] at h;cases h
theorem Y5 {α:Type}{xs:List α}{i:Int}{v:α}(h:atI xs i=some v):∃ j,seqIndex? i xs.length=some j/\xs[j]?=some v/\j < xs.length/\-(xs.length:Int)<=i/\i < xs.length:=by
 unfold atI at h
 cases e:ixN xs.length i with
 | none=>rw [e] at h;cases h
 | some j=>
  rw [e] at h
  obtain ⟨h1,h2,h3,h4⟩:=Jl e
  exact ⟨j,h1,h,h2,h3,h4⟩
def Y6 (b:Expr):Prop:=∀ o i,subscripted b false o i=operate [o,i] (iW o i)
def IxR (X:Cx) (r:R2):Prop:=
 ∀ (value slice:Expr) (pj:List (Addr×Obj)) (s:ο) (σ:St) (H:Hp) (x y:V) (v u:δ) (Q:VK),Inv X pj σ H s->RelV x v->RelV y u->r x y H Q ->
  subscripted slice false v u=operate [v,u] (iW v u)->Λ (Χ X.prog X.w) X.A (subscriptTail value slice v u) (EP X pj σ Q) X.xe s
def MtR (X:Cx) (id:String) (r:V->List V->Hp->VK->Prop):Prop:=
 ∀ (pj:List (Addr×Obj)) (s:ο) (σ:St) (H:Hp) (x:V) (xs:List V) (v:δ) (us:List δ) (Q:VK),Inv X pj σ H s->RelV x v->Vals xs us->r x xs H Q ->
  Λ (Χ X.prog X.w) X.A (call (.builtin id) (v::us)) (EP X pj σ Q) X.xe s
section
variable {X:Cx}{a b:Expr}{ta tb:TE}{pos:Pos}
theorem IxR.or {r r':R2}(h:IxR X r) (h':IxR X r'):IxR X (fun x y H Q=>r x y H Q\/r' x y H Q):=by
 intro value slice pj s σ H x y v u Q I rx ry q hs
 rcases q with q | q
 ·exact h value slice pj s σ H x y v u Q I rx ry q hs
 ·exact h' value slice pj s σ H x y v u Q I rx ry q hs
theorem MtR.or {id:String}{r r':V->List V->Hp->VK->Prop}(h:MtR X id r) (h':MtR X id r'):MtR X id (fun x xs H Q=>r x xs H Q\/r' x xs H Q):=by
 intro pj s σ H x xs v us Q I rx rs q
 rcases q with q | q
 ·exact h pj s σ H x xs v us Q I rx rs q
 ·exact h' pj s σ H x xs v us Q I rx rs q
theorem pe_ix {r:R2}(hr:IxR X r) (ha:PE X a ta) (hb:PE X b tb) (hs:Y6 b):PE X (.Subscript a b pos) (tOp r ta tb):=by
 intro pj s σ H Q I h
 exact Subscript_ (binT ha hb I h fun v u s2 x y H2 I2 rx ry q=>hr a b pj s2 σ H2 x y v u Q I2 rx ry q (hs _ _))
def rIxL (K:W.Frag):R2:=fun x y H Q=>∃ p xs i v,x=.ref p/\y=.int i/\SqL K H p xs/\atI xs i=some v/\Q v H
def rIxT (K:W.Frag):R2:=fun x y H Q=>∃ p xs i v,x=.ref p/\y=.int i/\SqT K H p xs/\atI xs i=some v/\Q v H
def rIxS:R2:=fun x y H Q=>∃ z i c,x=.str z/\y=.int i/\z.length<=sizeLine/\atI z.cps.toList i=some c/\Q (.str ⟨#[c]⟩) H
theorem Jj:IxR X (rIxL X.K):=by
 intro value slice pj s σ H x y v u Q I rx ry h hs
 obtain ⟨p,xs,i,z,rfl,rfl,hq,he,q⟩:=h
 cases rx
 obtain ⟨t,rfl⟩:=ry
 obtain ⟨its,r,pl,hz⟩:=I.list hq
 obtain ⟨j,h1,h2,h3,h4,h5⟩:=Y5 he
 obtain ⟨w,ew,rw'⟩:=r.get h2
 have hl:=r.length
 have hn:=jj
 have fin:EP X pj σ Q w s:=⟨z,H,I,rw',q⟩
 by_cases h0:0<=i
 ·have hj:i.toNat=j:=by
   rw [seqIndex_of h0 h5] at h1
   exact Ϛ h1
  exact item_listR pl.isList h0 (by lia) (by rw [hj];simpa using ew) fin hs
 ·have hj:(i+(its.toArray.size:Int)).toNat=j:=by
   rw [seqIndex_neg (by lia) h4] at h1
   rw [θ,<- hl]
   exact Ϛ h1
  exact nU (x:=w) pl.isList.typeIs slot_list_getitem.lookup
   (wpAny_getItem_list_neg (Q:=fun r s'=>r=w/\EP X pj σ Q r s') pl.isList (by lia) (by rw [θ] <;> lia) (by lia) (by rw [hj];simpa using ew) ⟨rfl,fin⟩) hs
theorem zd3:IxR X (rIxT X.K):=by
 intro value slice pj s σ H x y v u Q I rx ry h hs
 obtain ⟨p,xs,i,z,rfl,rfl,hq,he,q⟩:=h
 cases rx
 obtain ⟨t,rfl⟩:=ry
 obtain ⟨its,r,pl,hz⟩:=I.tuple hq
 obtain ⟨j,h1,h2,h3,h4,h5⟩:=Y5 he
 obtain ⟨w,ew,rw'⟩:=r.get h2
 have hl:=r.length
 have hn:=jj
 have fin:EP X pj σ Q w s:=⟨z,H,I,rw',q⟩
 exact nU (x:=w) pl.typeIs slot_tuple_getitem.lookup
  (getItem_tuple (j:=j) (Q:=fun r s'=>r=w/\EP X pj σ Q r s') pl (by lia) (by lia) (by rw [θ,<- hl];exact h1) (by simpa using ew) ⟨rfl,fin⟩) hs
theorem zd4:IxR X rIxS:=by
 intro value slice pj s σ H x y v u Q I rx ry h hs
 obtain ⟨z,i,c,rfl,rfl,hz,he,q⟩:=h
 obtain ⟨t,rfl⟩:=rx
 obtain ⟨t',rfl⟩:=ry
 obtain ⟨j,h1,h2,h3,h4,h5⟩:=Y5 he
 have hl:z.cps.toList.length=z.length:=by simp [Str.length]
 rw [hl] at h1 h4 h5
 have hn:=jj
 exact tail_any (typeIs_str s z t) slot_str_getitem.lookup (getItem_str (c:=c) (by
  have e1:decide (i < -(2 ^ 63:Int))=false:=decide_eq_false (by lia)
  have e2:decide (i >= 2 ^ 63)=false:=decide_eq_false (by lia)
  rw [e1,e2,Bool.or_false]) (by rw [h1];simpa using h2) ⟨.str ⟨#[c]⟩,H,I.tok _,⟨_,rfl⟩,q⟩) hs
theorem W9 (its:List δ) (n j:Nat) (u:δ):aD (·.setIfInBounds j u) { cls:=.type "list",data:=.seq its.toArray n }={ cls:=.type "list",data:=.seq (its.set j u).toArray n }:=by
 simp [aD]
theorem Inv.lst {pj:List (Addr×Obj)}{σ:St}{H:Hp}{s:ο}{p:Addr}{xs:List V}(I:Inv X pj σ H s) (h:H p=some (.lst xs)):
  ∃ (its:List δ) (n:Nat),Vals xs its/\s.heap.get? p=some { cls:=.type "list",data:=.seq its.toArray n }/\xs.length<=sizeLine:=by
 obtain ⟨z,its,n,r,e⟩:=I.hok p _ h
 exact ⟨its,n,r,e,z⟩
theorem Inv.zdT {pj:List (Addr×Obj)}{σ:St}{H:Hp}{s:ο}{p:Addr}{xs ys:List V}{its its':List δ}{n n':Nat}{f:Obj->Obj}(I:Inv X pj σ H s) (h:H p=some (.lst xs))
  (ho:s.heap.get? p=some { cls:=.type "list",data:=.seq its.toArray n }) (hf:f { cls:=.type "list",data:=.seq its.toArray n }={ cls:=.type "list",data:=.seq its'.toArray n' }) (r:Vals ys its') (hz:ys.length<=sizeLine) (t:Nat):
  Inv X pj σ (upd H p (.lst ys)) { s with heap:=s.heap.update p f,toks:=t }:=by
 have e:(s.heap.update p f).get? p=some { cls:=.type "list",data:=.seq its'.toArray n' }:=by
  rw [gH f ho (by rw [hf] <;> rfl),hf]
 refine I.write (x:=p) (e:=p) (by rw [h];trivial) (.inl rfl) (fun b u hb q=>(mX _ _ (gh hb)).trans q) ⟨_,e⟩ ?_
 exact ⟨hz,its',n',r,e⟩
def rSetL:V->V->V->Hp->(Hp->Prop)->Prop:=fun o i v H Q=>∃ p xs k j,o=.ref p/\i=.int k/\H p=some (.lst xs)/\ixN xs.length k=some j/\Q (upd H p (.lst (xs.set j v)))
theorem set_list:PSet X rSetL:=by
 intro pj s σ H o i v ov iv u Q I ro ri rv h
 obtain ⟨p,xs,k,j,rfl,rfl,hp,hj,q⟩:=h
 cases ro
 obtain ⟨t,rfl⟩:=ri
 obtain ⟨its,n,r,ho,hz⟩:=I.lst hp
 obtain ⟨h1,h2,h3,h4⟩:=Jl hj
 have hl:=r.length
 have hn:=jj
 have I':Inv X pj σ (upd H p (.lst (xs.set j v))) { s with heap:=s.heap.update p (aD (·.setIfInBounds j u)) }:=
  I.zdT hp ho (W9 its n j u) (r.set rv j) (by rw [bB];exact hz) s.toks
 by_cases h0:0<=k
 ·have hk:k.toNat=j:=by
   rw [seqIndex_of h0 h4] at h1
   exact Ϛ h1
  exact W.ki_setAt ho h0 (by lia) (by rw [θ,<- hl];exact h4) (by rw [hk];exact ⟨_,I',q⟩)
 ·have hk:(k+(its.toArray.size:Int)).toNat=j:=by
   rw [seqIndex_neg (by lia) h3] at h1
   rw [θ,<- hl]
   exact Ϛ h1
  exact W.ki_setBack ho (by lia) (by rw [θ,<- hl];exact h3) (by lia) (by rw [hk];exact ⟨_,I',q⟩)
theorem qF (lo hi:Option Int) (n:Nat):(eU lo hi none n).1=((HT.sIx n 0 lo:Nat):Int)/\(eU lo hi none n).2.1=((HT.sIx n n hi:Nat):Int)/\(eU lo hi none n).2.2=1:=by
 refine ⟨?_,?_,rfl⟩
 ·cases lo with
  | none=>simp [eU,HT.sIx]
  | some i=>
   simp only [eU,HT.sIx,nP,show (1:Int) > 0 by decide,if_true]
   by_cases h:i < 0
   ·simp only [h,if_true] <;> lia
   ·simp only [h,if_false] <;> lia
 ·cases hi with
  | none=>simp [eU,HT.sIx]
  | some i=>
   simp only [eU,HT.sIx,nP,show (1:Int) > 0 by decide,if_true]
   by_cases h:i < 0
   ·simp only [h,if_true] <;> lia
   ·simp only [h,if_false] <;> lia
theorem jO (its:List δ) (lo hi:Option Int):slicePick its.toArray lo hi none=((its.drop (HT.sIx its.length 0 lo)).take (HT.sIx its.length its.length hi - HT.sIx its.length 0 lo)).toArray:=by
 obtain ⟨h1,h2,h3⟩:=qF lo hi its.toArray.size
 unfold slicePick
 rw [h1,h2,h3]
 simp only [sliceRange_one,pick_run,θ] <;> rfl
def rSlL (K:W.Frag):V->Option Int->Option Int->Hp->VK->Prop:=fun x lo hi H Q=>∃ a xs,x=.ref a/\SqL K H a xs/\∀ p,H p=none->Q (.ref p) (upd H p (.lst (cutV xs lo hi)))
theorem V2:SlR X (rSlL X.K):=by
 intro pj s σ H x v vl vu lo hi sl Q I rx hs pl pu h
 obtain ⟨a,xs,rfl,hx,q⟩:=h
 cases rx
 obtain ⟨its,r,ht,hz⟩:=I.list hx
 have hlen:=r.length
 refine ⟨"list",_,slot_list_getitem.lookup,ht.isList.typeIs,?_⟩
 refine wpAny_getItem_list_slice ht.isList hs pl pu .none (by simp) ?_ (by rw [θ] <;> lia)
 rw [jO,<- hlen]
 refine ⟨.ref s.heap.objs.size,_,I.laid (t':=s.toks) (o:=.lst (cutV xs lo hi)) (fun b ob q=>ζ _ q) (ν _) ?_,rfl,q _ (I.hok.fresh (ν _))⟩
 exact ⟨Ϧ (uC xs lo hi) hz,_,0,(r.drop (HT.sIx xs.length 0 lo)).take (HT.sIx xs.length xs.length hi - HT.sIx xs.length 0 lo),ω _ rfl⟩
noncomputable def flatV:V->Bool
 | .non=>true
 | .bl _=>true
 | .int _=>true
 | .str _=>true
 | _=>false
noncomputable def eqV:V->V->Bool
 | .non,.non=>true
 | .bl a,.bl b=>a==b
 | .bl a,.int b=>(if a then 1 else 0)==b
 | .int a,.bl b=>a==(if b then 1 else 0)
 | .int a,.int b=>a==b
 | .str a,.str b=>a==b
 | _,_=>false
theorem JG {A:ϡ}{s:ο}{y x:V}{u v:δ}(ry:RelV y u) (rx:RelV x v) (fy:flatV y=true) (fx:flatV x=true):Ϭ A s u v (eqV y x):=by
 cases y with
 | non=>
  cases ry
  cases x with
  | non=>cases rx;exact Ϭ.same _
  | bl b=>cases rx;exact Ϭ.none_bool b
  | int b=>obtain ⟨t,rfl⟩:=rx;exact Ϭ.none_int b t
  | str b=>obtain ⟨t,rfl⟩:=rx;exact Ϭ.none_str b t
  | _=>exact absurd (show false=true from fx) Ο
 | bl a=>
  cases ry
  cases x with
  | non=>cases rx;exact Ϭ.bool_none a
  | bl b=>cases rx;exact Ϭ.bool_bool a b
  | int b=>obtain ⟨t,rfl⟩:=rx;exact Ϭ.bool_int a b t
  | str b=>obtain ⟨t,rfl⟩:=rx;exact Ϭ.bool_str a b t
  | _=>exact absurd (show false=true from fx) Ο
 | int a=>
  obtain ⟨t',rfl⟩:=ry
  cases x with
  | non=>cases rx;exact Ϭ.int_none a t'
  | bl b=>cases rx;exact Ϭ.int_bool a t' b
  | int b=>obtain ⟨t,rfl⟩:=rx;exact Ϭ.int_int a t' b t
  | str b=>obtain ⟨t,rfl⟩:=rx;exact mC a t' b t
  | _=>exact absurd (show false=true from fx) Ο
 | str a=>
  obtain ⟨t',rfl⟩:=ry
  cases x with
  | non=>cases rx;exact Ϭ.str_none a t'
  | bl b=>cases rx;exact Ϭ.str_bool a t' b
  | int b=>obtain ⟨t,rfl⟩:=rx;exact my a t' b t
  | str b=>obtain ⟨t,rfl⟩:=rx;exact Ϭ.str_str a t' b t
  | _=>exact absurd (show false=true from fx) Ο
 | _=>exact absurd (show false=true from fy) Ο
noncomputable def eqU (x:V) (u:δ):Bool:=match u with
 | .none=>eqV .non x
 | .bool b=>eqV (.bl b) x
 | .int i _=>eqV (.int i) x
 | .str z _=>eqV (.str z) x
 | _=>false
theorem zaE {x y:V}{u:δ}(r:RelV y u) (f:flatV y=true):eqU x u=eqV y x:=by
 cases y with
 | non=>cases r;rfl
 | bl b=>cases r;rfl
 | int i=>obtain ⟨t,rfl⟩:=r;rfl
 | str z=>obtain ⟨t,rfl⟩:=r;rfl
 | _=>exact absurd (show false=true from f) Ο
theorem uN {x:V}:∀ {xs:List V}{us:List δ},Vals xs us->xs.all flatV=true->us.any (eqU x)=xs.any fun y=>eqV y x
 | _,_,.nil,_=>rfl
 | y::xs,u::us,.cons r t,f=>by
  rw [bQ,ε] at f
  rw [bG,bG,zaE r f.1,uN t f.2]
theorem xU {A:ϡ}{s:ο}{x:V}{v:δ}(rx:RelV x v) (fx:flatV x=true):∀ {xs:List V}{us:List δ},Vals xs us->xs.all flatV=true->∀ u∈us,Ϭ A s u v (eqU x u)
 | _,_,.nil,_=>fun u hu=>by cases hu
 | y::xs,u::us,.cons r t,f=>fun u' hu=>by
  rw [bQ,ε] at f
  rcases Ξ.mp hu with rfl | hu
  ·rw [zaE r f.1];exact JG r rx f.1 fx
  ·exact xU rx fx t f.2 u' hu
noncomputable def inV (x:V) (xs:List V):Bool:=xs.any fun y=>eqV y x
def rIn (K:W.Frag) (neg:Bool):R2:=fun x y H Q=>∃ p xs,y=.ref p/\(SqL K H p xs\/SqT K H p xs)/\flatV x=true/\xs.all flatV=true/\Q (.bl (if neg then !inV x xs else inV x xs)) H
theorem Uy:OpR X (ώ .In) (rIn X.K false):=by
 intro pj s σ H x y v u Q I rx ry h
 obtain ⟨p,xs,rfl,hq,fx,fs,q⟩:=h
 cases ry
 rcases hq with hq | hq
 ·obtain ⟨its,r,pl,hz⟩:=I.list hq
  refine SeqAt.in_listAt (eqU x) pl.isList (fun w hw=>xU rx fx r fs w (by simpa using hw)) ⟨.bl _,H,I,rfl,?_⟩
  rw [show its.toArray.any (eqU x)=its.any (eqU x) by simp,uN r fs]
  exact q
 ·obtain ⟨its,r,pl,hz⟩:=I.tuple hq
  refine SeqAt.in_tupleAt (eqU x) pl (fun w hw=>xU rx fx r fs w (by simpa using hw)) ⟨.bl _,H,I,rfl,?_⟩
  rw [show its.toArray.any (eqU x)=its.any (eqU x) by simp,uN r fs]
  exact q
theorem qQ:OpR X (ώ .NotIn) (rIn X.K true):=by
 intro pj s σ H x y v u Q I rx ry h
 obtain ⟨p,xs,rfl,hq,fx,fs,q⟩:=h
 cases ry
 rcases hq with hq | hq
 ·obtain ⟨its,r,pl,hz⟩:=I.list hq
  refine SeqAt.notIn_listAt (eqU x) pl.isList (fun w hw=>xU rx fx r fs w (by simpa using hw)) ⟨.bl _,H,I,rfl,?_⟩
  rw [show its.toArray.any (eqU x)=its.any (eqU x) by simp,uN r fs]
  exact q
 ·obtain ⟨its,r,pl,hz⟩:=I.tuple hq
  refine SeqAt.notIn_tupleAt (eqU x) pl (fun w hw=>xU rx fx r fs w (by simpa using hw)) ⟨.bl _,H,I,rfl,?_⟩
  rw [show its.toArray.any (eqU x)=its.any (eqU x) by simp,uN r fs]
  exact q
theorem qP:OpR X (ώ .NotIn) (fun x y H Q=>∃ i j,x=.str i/\y=.str j/\Q (.bl (!(!(eY j i 0 j.length 1).isEmpty))) H):=by
 intro pj s σ H x y v u Q I rx ry h
 obtain ⟨i,j,rfl,rfl,q⟩:=h
 obtain ⟨t,rfl⟩:=rx
 obtain ⟨t',rfl⟩:=ry
 exact notIn_str ⟨.bl _,H,I,rfl,q⟩
theorem yQ:CallR X (.builtin "len") (fun xs H Q=>∃ p ys,xs=[.ref p]/\(SqL X.K H p ys\/SqT X.K H p ys)/\Q (.int ys.length) H):=by
 intro pj s σ H xs us Q I r h
 obtain ⟨p,ys,rfl,hq,q⟩:=h
 obtain ⟨u,rfl,rx⟩:=vals1 r
 cases rx
 have hn:=jj
 rcases hq with hq | hq
 ·obtain ⟨its,r',pl,hz⟩:=I.list hq
  have hlen:=r'.length
  exact Calls.call_len_list pl.isList (by simp only [θ] <;> lia) ⟨.int ys.length,H,I.tok _,⟨s.toks+1,by rw [θ,hlen]⟩,q⟩
 ·obtain ⟨its,r',pl,hz⟩:=I.tuple hq
  have hlen:=r'.length
  exact len_tuple pl (by simp only [θ] <;> lia) ⟨.int ys.length,H,I.tok _,⟨s.toks+1,by rw [θ,hlen]⟩,q⟩
theorem ZS:CallR X (.builtin "len") (fun xs H Q=>∃ z,xs=[.str z]/\z.length<=sizeLine/\Q (.int z.length) H):=by
 intro pj s σ H xs us Q I r h
 obtain ⟨z,rfl,hz,q⟩:=h
 obtain ⟨u,rfl,t,rfl⟩:=vals1 r
 have hn:=jj
 exact len_str (by lia) ⟨.int z.length,H,I.tok _,⟨_,rfl⟩,q⟩
theorem CallR.or {f:δ}{r r':List V->Hp->VK->Prop}(h:CallR X f r) (h':CallR X f r'):CallR X f (fun xs H Q=>r xs H Q\/r' xs H Q):=by
 intro pj s σ H xs us Q I rs q
 rcases q with q | q
 ·exact h pj s σ H xs us Q I rs q
 ·exact h' pj s σ H xs us Q I rs q
theorem zaK:CallR X (.type "list") (fun xs H Q=>∃ p ys,xs=[.ref p]/\(SqL X.K H p ys\/SqT X.K H p ys)/\∀ l,H l=none->Q (.ref l) (upd H l (.lst ys))):=by
 intro pj s σ H xs us Q I r h
 obtain ⟨p,ys,rfl,hq,q⟩:=h
 obtain ⟨u,rfl,rx⟩:=vals1 r
 cases rx
 have fin:∀ (its:List δ),Vals ys its->ys.length<=sizeLine->∀ (h':Heap) (c':Nat),(∀ b o',s.heap.get? b=some o'->h'.get? b=some o') ->
   h'.get? s.heap.objs.size=some { cls:=.type "list",dict:=none,data:=.seq its.toArray c',slots:=#[] }->EP X pj σ Q (.ref s.heap.objs.size) { s with heap:=h' }:=fun its r' hz h' c' kp e=>
  ⟨.ref s.heap.objs.size,_,I.laid (t':=s.toks) kp (ν _) (show ObjOk X.prog X.w _ h' _ (.lst ys) from ⟨hz,its,c',r',e⟩),rfl,q _ (I.hok.fresh (ν _))⟩
 rcases hq with hq | hq
 ·obtain ⟨its,r',pl,hz⟩:=I.list hq
  have hlen:=r'.length
  obtain ⟨o,ho,hc,n,hd⟩:=pl.isList
  exact call_list_seq p (.inl rfl) ho hc hd (fun h' c' kp e=>fin its r' hz h' c' kp e) (by simp only [θ] <;> lia)
 ·obtain ⟨its,r',pl,hz⟩:=I.tuple hq
  have hlen:=r'.length
  obtain ⟨o,ho,hc,n,hd⟩:=pl
  exact call_list_seq p (.inr rfl) ho hc hd (fun h' c' kp e=>fin its r' hz h' c' kp e) (by simp only [θ] <;> lia)
theorem qe:CallR X (.type "tuple") (fun xs H Q=>∃ p ys,xs=[.ref p]/\((SqL X.K H p ys/\∀ l,H l=none->Q (.ref l) (upd H l (.tup ys)))\/(SqT X.K H p ys/\Q (.ref p) H))):=by
 intro pj s σ H xs us Q I r h
 obtain ⟨p,ys,rfl,h⟩:=h
 obtain ⟨u,rfl,rx⟩:=vals1 r
 cases rx
 rcases h with ⟨hq,q⟩ | ⟨hq,q⟩
 ·obtain ⟨its,r',pl,hz⟩:=I.list hq
  have hlen:=r'.length
  refine call_tuple_list pl.isList (fun h' kp=>?_) (by simp only [θ] <;> lia)
  have I1:Inv X pj σ H { s with heap:=h' }:=I.kept (t':=s.toks) kp
  have I2:Inv X pj σ (upd H h'.objs.size (.tup ys)) { s with heap:=h'.push { cls:=.type "tuple",data:=.seq its.toArray } }:=
   I1.laid (t':=s.toks) (fun b o e=>ζ _ e) (ν _) (show ObjOk X.prog X.w _ _ _ (.tup ys) from ⟨hz,its,r',IsTup.new _ _⟩)
  exact ⟨.ref h'.objs.size,_,I2,rfl,q _ (I1.hok.fresh (ν _))⟩
 ·obtain ⟨its,r',pl,hz⟩:=I.tuple hq
  exact call_tuple_same pl ⟨.ref p,H,I,rfl,q⟩
def tyV (K:W.Frag) (T:String) (x:V) (H:Hp):Prop:=match x with
 | .str _=>T="str"
 | .int _=>T="int"
 | .ref p=>(T="list"/\∃ xs,SqL K H p xs)\/(T="tuple"/\∃ o,K.lookup p=some o/\o.cls=.type "tuple"/\o.dict=none) \/
   (T="dict"/\((∃ kvs,H p=some (.dK kvs))\/∃ kvs,H p=some (.dT kvs)))\/(T="set"/\∃ S n,H p=some (.set S n))
 | _=>False
theorem zcD {pj:List (Addr×Obj)}{σ:St}{H:Hp}{s:ο}{T:String}{x:V}{v:δ}(I:Inv X pj σ H s) (r:RelV x v) (ty:tyV X.K T x H):
  s.TypeIs v T/\∀ a,v=.ref a->∃ ob,s.heap.get? a=some ob/\ob.dict=none:=by
 cases x with
 | str z=>
  obtain ⟨t,rfl⟩:=r
  cases (show T="str" from ty)
  exact ⟨typeIs_str s z t,fun _ e=>nomatch e⟩
 | int i=>
  obtain ⟨t,rfl⟩:=r
  cases (show T="int" from ty)
  exact ⟨typeIs_int s i t,fun _ e=>nomatch e⟩
 | ref p=>
  cases r
  rcases ty with ⟨rfl,xs,hq⟩ | ⟨rfl,o,hk,hc,hd⟩ | ⟨rfl,hk⟩ | ⟨rfl,S,n,hk⟩
  ·obtain ⟨its,_,pl,_⟩:=I.list hq
   refine ⟨pl.isList.typeIs,fun a e=>?_⟩
   cases e
   obtain ⟨o,n,e,c,hd,_⟩:=pl
   exact ⟨o,e,hd⟩
  ·refine ⟨⟨o,I.kIn p o hk,hc⟩,fun a e=>?_⟩
   cases e
   exact ⟨o,I.kIn _ o hk,hd⟩
  ·have z:∃ o,s.heap.get? p=some o/\o.ExactDict:=by
    rcases hk with ⟨kvs,hk⟩ | ⟨kvs,hk⟩
    ·obtain ⟨_,_,_,_,o,_,_,e,ex,_⟩:=I.hok p _ hk
     exact ⟨o,e,ex⟩
    ·obtain ⟨_,_,_,_,o,_,_,e,ex,_⟩:=I.hok p _ hk
     exact ⟨o,e,ex⟩
   obtain ⟨o,e,ex⟩:=z
   refine ⟨⟨o,e,ex.1⟩,fun a e2=>?_⟩
   cases e2
   exact ⟨o,e,ex.2.1⟩
  ·obtain ⟨o,_,_,_,e,ex,_⟩:=I.hok p _ hk
   refine ⟨⟨o,e,ex.1⟩,fun a e2=>?_⟩
   cases e2
   exact ⟨o,e,ex.2.1⟩
 | _=>exact ak ty
def tBM (K:W.Frag) (T:String) (r:V->List V->Hp->VK->Prop) (to:TE) (t:TA):TE:=fun σ H Q=>to σ H fun x H1=>tyV K T x H1/\t σ H1 fun xs H2=>r x xs H2 Q
variable {o e:Expr}{es:List Expr}{to:TE}{t:TA}{name:Str}{apos cpos:Pos}{T id:String}{r:V->List V->Hp->VK->Prop}
theorem pe_bm (pa:PlainAttrs T) (slot:Slot T name id) (hty:typeOf (.builtin id)=pure (.type "method_descriptor")) (hm:MtR X id r) (ho:PE X o to) (ha:PA X (e::es) t)
  (hbase:attributeBase o name X.env (eval o X.env)=eval o X.env:=by rfl)
  (hfew:((fc cpos (Ϩ (e::es) X.env)).all (fun x=>!x.1)&&(b8 cpos (aK [] X.env)).all (fun x=>x.1.isSome)
  &&decide ((e::es).length+([]:List bh).length+(if ([]:List bh).isEmpty then 0 else 1) < 30))=true:=by rfl)
  (hline:(apos.endLine==cpos.line)=true:=by rfl) (hs:Ϩ (e::es) X.env=(false,eval e X.env)::Ϩ es X.env:=by rfl) (hplain:(fc cpos (Ϩ es X.env)).any (·.1)=false:=by rfl):
  PE X (.Call (.Attribute o name apos) (e::es) [] cpos) (tBM X.K T r to t):=by
 intro pj s σ H Q I h
 refine wpAny_Call_method_late hbase hfew hline rfl (thn (ho pj s σ H _ I h) fun v s1 ⟨x,H1,I1,r1,ty,q1⟩=>?_)
 obtain ⟨h1,h2⟩:=zcD I1 r1 ty
 refine ⟨T,id,pa,slot,hty,h1,h2,?_⟩
 have hA:=ha cpos pj s1 σ H1 _ I1 q1
 rw [hs] at hA ⊢
 refine mU (by show (false||(fc cpos (Ϩ es X.env)).any (·.1))=false;rw [hplain] <;> rfl) (Calls.evalArgs_plain ?_)
 exact thn hA fun us s2 ⟨vs,H2,I2,r2,q2⟩=>hm pj s2 σ H2 x vs v us Q I2 r1 r2 q2
end
def MtM (X:Cx) (id:String) (r:V->List V->Hp->VK->Prop):Prop:=
 ∀ (pj:List (Addr×Obj)) (s:ο) (σ:St) (H:Hp) (x:V) (xs:List V) (v:δ) (us:List δ) (Q:VK),Inv X pj σ H s->RelV x v->Vals xs us->r x xs H Q ->
  Λ (Χ X.prog X.w) X.A (call (.builtin id) (v::us)) (EP X pj σ Q) X.xe s
theorem Vals.one:∀ {x:V}{us:List δ},Vals [x] us->∃ u,us=[u]/\RelV x u
 | _,_,.cons r .nil=>⟨_,rfl,r⟩
theorem Vals.two:∀ {x y:V}{us:List δ},Vals [x,y] us->∃ u v,us=[u,v]/\RelV x u/\RelV y v
 | _,_,_,.cons r (.cons q .nil)=>⟨_,_,rfl,r,q⟩
theorem Vals.eraseIdx:∀ {xs:List V}{us:List δ}(i:Nat),Vals xs us->Vals (xs.eraseIdx i) (us.eraseIdx i)
 | _,_,_,.nil=>.nil
 | _,_,0,.cons _ t=>t
 | _,_,i+1,.cons r t=>.cons r (Vals.eraseIdx i t)
section
variable {X:Cx}{pj:List (Addr×Obj)}{σ:St}{H:Hp}{s:ο}{l b:Addr}{xs ys zs:List V}
theorem Inv.lset {its its':List δ}{n:Nat}{f:Array δ->Array δ}{t':Nat}(I:Inv X pj σ H s) (hH:H l=some (.lst xs))
  (e:s.heap.get? l=some { cls:=.type "list",data:=.seq its.toArray n }) (hf:f its.toArray=its'.toArray) (hv:Vals ys its') (hz:ys.length<=sizeLine):
  Inv X pj σ (upd H l (.lst ys)) { s with heap:=s.heap.update l (aD f),toks:=t' }:=by
 have q:=PySem.IsL.update e f
 rw [hf] at q
 refine I.write (x:=l) (e:=l) (by rw [hH];exact trivial) (.inl rfl) (fun b' u hb hu=>(mX s.heap (aD f) (gh hb)).trans hu) ⟨_,q⟩ ?_
 exact ⟨hz,its',_,hv,q⟩
theorem Inv.lnew {its:List δ}{t':Nat}(I:Inv X pj σ H s) (hv:Vals ys its) (hz:ys.length<=sizeLine):
  Inv X pj σ (upd H s.heap.objs.size (.lst ys)) { s with heap:=s.heap.push { cls:=.type "list",data:=.seq its.toArray },toks:=t' }:=
 I.laid (fun _ _ q=>ζ _ q) (ν _) ⟨hz,its,0,hv,ω _ rfl⟩
theorem Inv.fresh (I:Inv X pj σ H s):H s.heap.objs.size=none:=I.hok.fresh (ν _)
theorem Inv.lstM (I:Inv X pj σ H s) (hH:H l=some (.lst xs)):xs.length<=sizeLine/\∃ (its:List δ) (n:Nat),Vals xs its/\xs.length=its.length/\s.heap.get? l=some { cls:=.type "list",data:=.seq its.toArray n }:=by
 obtain ⟨z,its,n,r,e⟩:=I.hok l _ hH
 exact ⟨z,its,n,r,r.length,e⟩
theorem Ql {n:Nat}(h:n<=sizeLine):bZ n=false:=by
 unfold bZ
 exact decide_eq_false (by lia)
end
section
variable {X:Cx}
def zbn:V->List V->Hp->VK->Prop:=fun x vs H Q=>∃ l xs y,x=.ref l/\vs=[y]/\H l=some (.lst xs)/\xs.length < sizeLine/\Q .non (upd H l (.lst (xs++[y])))
theorem qZ:MtM X "list.append" zbn:=by
 intro pj s σ H x vs v us Q I rx rv h
 obtain ⟨l,xs,y,rfl,rfl,hH,hz,q⟩:=h
 cases rx
 obtain ⟨u,rfl,ru⟩:=rv.one
 obtain ⟨z,its,n,r,hl,e⟩:=I.lstM hH
 refine lB F.slot_list_append ⟨_,e,rfl⟩ F.entry_list_append (F.args_list_append_2 _ _) (PySem.list_append l its.toArray n u (by rw [θ];lia)) ⟨e,?_⟩
 refine ⟨.non,_,I.lset (its':=its++[u]) hH e (by simp) (r.append (.cons ru .nil)) ?_,rfl,q⟩
 rw [Α,List.length_singleton]
 lia
def zbm:V->List V->Hp->VK->Prop:=fun x vs H Q=>∃ l b xs zs,x=.ref l/\vs=[.ref b]/\H l=some (.lst xs)/\H b=some (.lst zs)/\xs.length+zs.length<=sizeLine/\Q .non (upd H l (.lst (xs++zs)))
theorem UW:MtM X "list.extend" zbm:=by
 intro pj s σ H x vs v us Q I rx rv h
 obtain ⟨l,b,xs,zs,rfl,rfl,hH,hB,hz,q⟩:=h
 cases rx
 obtain ⟨u,rfl,ru⟩:=rv.one
 cases ru
 obtain ⟨z,its,n,r,hl,e⟩:=I.lstM hH
 obtain ⟨z2,its2,n2,r2,hl2,e2⟩:=I.lstM hB
 have hsz:its.toArray.size+its2.toArray.size<=sizeLine:=by rw [θ,θ];lia
 have hlong:¬ (!its.toArray.isEmpty&&bZ (its.toArray.size+its2.toArray.size))=true:=by
  rw [Ql hsz,lR]
  exact Ο
 refine lB F.slot_list_extend ⟨_,e,rfl⟩ F.entry_list_extend (F.args_list_extend_2 _ _)
  (AutoSeq1.list_extend_list_list_0 l its.toArray n b its2.toArray n2 hlong (by rw [θ];lia) (by lia)) ⟨e,e2,?_⟩
 refine ⟨.non,_,I.lset (its':=its++its2) hH e (by simp) (r.append r2) ?_,rfl,q⟩
 rw [Α]
 lia
end
end L2
namespace Att
open PySem PySem.W PySem.Calls PyProof.Rows
theorem uo {P:Params}{h:Heap}:∀ (ns:List Int) (vs:List δ),WellAll P h vs (ns.map WData.int)->IntsAre vs ns:=by
 intro ns
 induction ns with
 | nil=>
  intro vs w
  rw [mW] at w
  cases w
  exact .nil
 | cons n ns ih=>
  intro vs w
  rw [Ρ] at w
  cases w with
  | cons a b=>
   cases a
   exact .cons _ _ (ih _ b)
theorem V4 {l:OpenLaw}{n:Nat}(hn:l.most=some n) {P:Params}{h:Heap}{args:List WData}{vals:List δ}
  (hpre:l.row.toRowW.claim.pre args=true) (hwl:WellAll P h vals args):
  ∃ a vs ns,vals=[Δ a]/\args=[WData.list (ns.map WData.int)]/\h.get? a=some { cls:=.type "list",data:=.seq vs.toArray }/\IntsAre vs ns/\ns.length<=n:=by
 have hsh:WShape.hasAll [] args [.list .int]=true:=(pre_splitW hpre).1
 have hc:l.pre.holds [] { args:=args }=true:=(pre_splitW hpre).2
 obtain ⟨d,r,rfl,h1,h2⟩:=hasAllW_cons hsh
 obtain rfl:=hasAllW_nil h2
 obtain ⟨xs,rfl,h3⟩:=hasW_list h1
 obtain ⟨ns,rfl⟩:=items_int h3
 have hlen:ns.length<=n:=by
  unfold OpenLaw.pre at hc
  have h4:(WTm.not (.lt (.lit (.int (n:Int))) (.len (.arg 0)))).holds [] { args:=[.list (ns.map .int)] }=true:=by
   have h4:=(holds_andW hc).1
   rw [hn] at h4
   exact h4
  have h5:=condW_of h4 (w_not (w_lt w_lit (w_len_list (w_arg rfl))))
  rw [Ζ] at h5
  refine lC fun q=>?_
  have q':(n:Int) < ((ns.length:Nat):Int):=by omega
  first
   | (rw [decide_eq_true q'] at h5;exact absurd h5 (by decide))
   | (simp at h5;omega)
 cases hwl with
 | cons w1 w2=>
  cases w2
  cases w1 with
  | list ho hall=>exact ⟨_,_,ns,rfl,rfl,ho,uo ns _ hall,hlen⟩
theorem Uh (l:OpenLaw) (args:List WData):l.row.toRowW.claim.post args (.bool true) args=true:=
 postW_of (r:=l.row.toRowW) (X:=(true==true))
  (show WShape.has [] (.bool true) .bool=true by first | rfl | decide | simp [WShape.has,WShape.arms,WShape.armsAll])
  (show (WTm.eq .res (.lit (.bool true))).value [] { args:=args,res:=some (.bool true),after:=args }=some (.bool (true==true)) from w_eq_bool (w_res rfl) w_lit) rfl
theorem Y4 {l:OpenLaw}{n:Nat}{q:Ω}{loose:List Str}{XP:(Str->Option δ)->Heap->Prop}{YP:ϥ->Heap->Prop}{d:DefRec}
  (hn:l.most=some n) (hdf:d.params.defaults=[])
  (call:∀ (w:ϥ) (sw s₁:ο) (mg mb:Str->Option δ) (fa:Addr) (o:Obj) (pm cd doc:δ) (a:Addr) (vs:List δ) (ns:List Int),
   Ground q loose [] XP w sw mg mb s₁.heap->YP w s₁.heap ->
   s₁.heap.get? fa=some o->o.data=.func (docDef d.name d.params d.body d.scope pm cd doc)->s₁.heap.CodeRec cd d.name->mg d.name=some (.ref fa) ->
   s₁.heap.get? a=some { cls:=.type "list",data:=.seq vs.toArray }->IntsAre vs ns->ns.length<=n->s₁.gens=#[] ->
   codeAny (Χ l.prog w) callerA (.call (.ref fa) ⟨[.ref a],[]⟩) (fun r s'=>r=.ok (.ret (.bool true))/\OldK s₁.heap s'.heap/\s'.os=s₁.os/\iy s'.gens) s₁):
  WalkO q loose XP YP l.row.toRowW d [] (fun f vs=>PySem.call f vs):=by
 intro w sw s₁ mg mb G Y fa o pm cd doc dV kV ho hd hcd hD hmg hg args vals as hpre hlay hrd hwl hlo
 obtain rfl:dV=.none:=Dflts.none hD hdf
 obtain rfl:kV=.none:=Dflts.noKw hD
 obtain ⟨a,vs,ns,rfl,rfl,hobj,hints,hlen⟩:=V4 hn hpre hwl
 refine enter_call (ik (call w sw s₁ mg mb fa o pm cd doc a vs ns G Y ho (fd_plain hd) hcd hmg hobj hints hlen hg) fun r s' hq=>?_)
 obtain ⟨rfl,h2,h3,h4⟩:=hq
 exact ⟨.inl ⟨.bool true,.bool true,[],rfl,fun _=>rfl,.bool true,Uh l _,fun _=>⟨dU,fun _ hm=>(nomatch hm)⟩⟩,h2,h3,h4⟩
end Att
namespace L2
open PySem PySem.Spec PyProof.Rows
theorem yt:∀ {vs:List δ}{ns:List Int},IntsAre vs ns->Vals (ns.map V.int) vs
 | _,_,.nil=>.nil
 | _,_,.cons n t h=>.cons ⟨t,rfl⟩ (yt h)
def Only (H:Hp):Prop:=∀ b,H b=none\/∃ o xs,H b=some (.frz o (.lst xs))
theorem Qp {P:Ω}{w:ϥ}{K:W.Frag}{mg mb:Str->Option δ}{CX:CXT}{k:Nat}{fa a:Addr}{fd:aN}{x:Str}{sp:Sp}{s₁:ο}{vs:List δ}{ns:List Int}
  (KX:K.In s₁.heap) (hns:s₁.heap.Ns ϕ mg) (hb:s₁.heap.Ns builtinsNs mb) (hbb:∀ x:Str,x≠"__name__"->mb x=bU x) (hlim:s₁.heap.NoLimit) (hg:s₁.gens=#[])
  (ha:s₁.heap.get? a=some { cls:=.type "list",data:=.seq vs.toArray }) (hi:IntsAre vs ns) (hl:ns.length<=sizeLine) (hr:Room k callerA)
  (F:∀ base:Heap,K.In base->base.Ns ϕ mg->FnOk P w K mg base CX k fa fd [x] sp) (hbind:∀ (s:ο) (u:δ),BindsTo s fd ⟨[u],[]⟩ [(x,u)])
  (hsp:∀ H:Hp,Only H->SqL K H a (ns.map V.int)->sp [.ref a] H (fun v _=>v=.bl true) fun _ _ _=>False)
  (hCX:∀ H e s',CX [] H s₁ (fun _ _ _=>False) e s'->False):
  codeAny (Χ P w) callerA (.call (.ref fa) ⟨[.ref a],[]⟩) (fun r s'=>r=.ok (.ret (.bool true))/\OldK s₁.heap s'.heap/\s'.os=s₁.os/\iy s'.gens) s₁:=by
 have rv:=yt hi
 have lenV:=hi.length
 have core:∀ H:Hp,Only H->SqL K H a (ns.map V.int)->HOk P w H s₁.heap->(∀ b,H b≠none->b=a)->(H a≠none->K.lookup a=none) ->
   codeAny (Χ P w) callerA (.call (.ref fa) ⟨[.ref a],[]⟩) (fun r s'=>r=.ok (.ret (.bool true))/\OldK s₁.heap s'.heap/\s'.os=s₁.os/\iy s'.gens) s₁:=by
  intro H hO hS hok hA hK
  have uI:∀ {b:Addr}{o:Obj},s₁.heap.get? b=some o->H b=none->(hidT s₁.heap H).get? b=some o:=fun e n=>QB e n
  have noA:∀ {b:Addr}{o:Obj}{es:Array aV}{ep:Nat},s₁.heap.get? b=some o->o.data=.dict es ep->H b=none:=fun {b o es ep} e d=>by
   cases q:H b with
   | none=>rfl
   | some u=>
    have e':b=a:=hA b (by rw [q];simp)
    subst e'
    rw [ha] at e;cases e
    have d':eZ vs.toArray _=Data.dict es ep:=d
    cases d'
  have nsK:∀ {b:Addr}{m:Str->Option δ},s₁.heap.Ns b m->(hidT s₁.heap H).Ns b m:=fun {b m} ⟨o,es,ep,e,d,r⟩=>⟨o,es,ep,uI e (noA e d),d,r⟩
  have hKb:K.In (hidT s₁.heap H):=fun b o e=>uI (KX b o e) (by
   cases q:H b with
   | none=>rfl
   | some u=>
    have e':b=a:=hA b (by rw [q];simp)
    subst e'
    rw [hK (by rw [q];simp)] at e;cases e)
  have hM:Mod K mg (hidT s₁.heap H):=⟨hKb,nsK hns,⟨mb,nsK hb,hbb⟩,let ⟨mc,h1,h2⟩:=hlim;⟨mc,nsK h1,h2⟩⟩
  have e0:Env0 P w K mg (hidT s₁.heap H) callerA [] s₁ H:=⟨rfl,hM,fun b o e=>zbO e,Nat.le_of_eq (Jw _ _),trivial,fun b hb=>absurd (show b∈([]:List Addr) from hb) (by simp),hok,.of_eq hg⟩
  refine ik ((F _ hKb (nsK hns)).run callerA [] s₁ H ⟨[.ref a],[]⟩ [.ref a] [.ref a] _ _ hr e0 (hbind s₁ (.ref a)) (.cons rfl .nil) (hsp H hO hS)) fun r s' h=>?_
  cases r with
  | error e=>exact (hCX H e s' h).elim
  | ok fl=>
   cases fl with
   | next=>exact ak h
   | brk=>exact ak h
   | cont=>exact ak h
   | ret u=>
    obtain ⟨v,H',os,bare,un,hok',r',q⟩:=h
    have q':v=.bl true:=q
    subst q'
    obtain rfl:u=ύ true:=r'
    refine ⟨rfl,OldK.of_keep fun b o e=>?_,os,bare⟩
    cases q:H b with
    | none=>exact un.keep b o e q (by intro z;exact absurd (show b∈([]:List Addr) from z) (by simp)) (by simp)
    | some u=>
     rcases hO b with z | ⟨ob,xs,z⟩
     ·rw [q] at z;cases z
     ·have z2:=un.frzs b ob _ z
      obtain ⟨e1,_⟩:=hok b _ z
      obtain ⟨e2,_⟩:=hok' b _ z2
      rw [e] at e1;cases e1
      exact e2
 cases hk:K.lookup a with
 | some o=>
  have e:=KX a o hk
  rw [ha] at e
  cases e
  refine core (fun _=>none) (fun _=>.inl rfl) (.inr ⟨_,vs.toArray,_,hk,rfl,rfl,rfl,by rw [θ,lenV];exact hl,by simpa using rv⟩) (fun b u z=>by have z':(none:Option HO)=some u:=z;cases z') (fun b z=>absurd rfl z) fun z=>absurd rfl z
 | none=>
  refine core (fun b=>if b=a then some (.frz { cls:=.type "list",data:=.seq vs.toArray } (.lst (ns.map V.int))) else none) (fun b=>?_) (.inl (.inr ⟨{ cls:=.type "list",data:=.seq vs.toArray },if_pos rfl⟩)) (fun b u z=>?_) (fun b z=>?_) fun _=>hk
  ·by_cases hb:b=a
   ·exact .inr ⟨_,_,if_pos hb⟩
   ·exact .inl (if_neg hb)
  ·by_cases hb:b=a
   ·have z':=(if_pos hb).symm.trans z
    cases z'
    subst hb
    exact ⟨ha,by rw [Ζ];exact hl,vs,_,rv,ha⟩
   ·have z':=(if_neg hb).symm.trans z
    cases z'
  ·by_cases hb:b=a
   ·exact hb
   ·exact absurd (if_neg hb) z
noncomputable def yr (s:Stmt):Arguments:=match s with
 | .FunctionDef _ a _ _ _ _ _ _ _ _=>a
 | _=>{ posonlyargs:=[],args:=[],vararg:=none,kwonlyargs:=[],kw_defaults:=[],kwarg:=none,defaults:=[] }
noncomputable def z6 (s:Stmt):List Stmt:=match s with
 | .FunctionDef _ _ b _ _ _ _ _ _ _=>b
 | _=>[]
noncomputable def zB (s:Stmt):c7:=match s with
 | .FunctionDef _ _ _ _ _ _ sc _ _ _=>sc
 | _=>{ kind:=.function,names:=[],isGenerator:=false,isCoroutine:=false }
abbrev CX0:CXT:=fun _ _ _ _ _ _=>False
abbrev E0:XK:=fun _ _ _=>False
theorem pass0 {X:Cx}:Z9 CX0 X E0:=fun _ _ _ _ _ _ _ h=>h.elim
structure Fun (K:W.Frag) (x qual:Str) (st:Stmt) (f:Addr) (fd:aN):Prop where
 ex:∃ (oc:δ) (od:Option Addr) (kV doc pm:δ) (an:Option Addr) (cdv ct:δ) (osl:Array (Option δ)),
  fd=W.fnOf x qual (yr st) (z6 st) (zB st) .none kV doc pm an cdv ct/\K.lookup f=some ⟨oc,od,.func fd,osl⟩/\W.codeIn K cdv qual=true
 kp:W.keepIn K (.ref f)=true
section
variable {P:Ω}{w:ϥ}{K:W.Frag}{mg:Str->Option δ}{base:Heap}
theorem Fun.ok {x qual:Str}{st:Stmt}{f:Addr}{fd:aN}{N ps:List Str}{k:Nat}{sp:Sp}(F:Fun K x qual st f fd) (S:ql N ps (zB st)) (len:∀ vs H Q E,sp vs H Q E->vs.length=ps.length)
  (hbody:∀ (cdv:δ) (A:ϡ) (outer:List Env) (s:ο) (H:Hp) (vs:List V) (Q:VK) (E:XK),Room k (A.deeper (lA qual (zB st) s.heap.objs.size f cdv))->sp vs H Q E ->
   ∃ t,PSs (cxOf CX0 P w K mg base N qual (zB st) f cdv A outer s H E).nox (z6 st) t/\t { nx:=fun _ H'=>Q .non H',rt:=Q } (start N vs) H):FnOk P w K mg base CX0 (k+1) f fd ps sp:=by
 obtain ⟨oc,od,kV,doc,pm,an,cdv,ct,osl,rfl,lk,hcd⟩:=F.ex
 refine fn_of lk hcd S len fun A outer s H vs Q E hr hsp=>?_
 obtain ⟨t,h,q⟩:=hbody cdv A outer s H vs Q E hr hsp
 exact ⟨t,h.nox,q⟩
theorem Fun.binds {x qual:Str}{st:Stmt}{f:Addr}{fd:aN}{ps:List Str}(F:Fun K x qual st f fd)
  (h:∀ (kV doc pm:δ) (an:Option Addr) (cdv ct:δ) (us:List δ),us.length=ps.length->bindArgs (W.fnOf x qual (yr st) (z6 st) (zB st) .none kV doc pm an cdv ct) ⟨us,[]⟩=pure (ps.zip us)):Binds K fd ps []:=by
 obtain ⟨oc,od,kV,doc,pm,an,cdv,ct,osl,rfl,lk,hcd⟩:=F.ex
 exact .all (h kV doc pm an cdv ct)
theorem zem {x qual:Str}{st:Stmt}{f:Addr}{oc:δ}{od an:Option Addr}{osl:Array (Option δ)}{kV doc pm cdv ct:δ}(l:K.lookup f=some ⟨oc,od,.func (W.fnOf x qual (yr st) (z6 st) (zB st) .none kV doc pm an cdv ct),osl⟩)
  (c:W.codeIn K cdv qual=true) (k:W.keepIn K (.ref f)=true):Fun K x qual st f (W.fnOf x qual (yr st) (z6 st) (zB st) .none kV doc pm an cdv ct):=⟨⟨oc,od,kV,doc,pm,an,cdv,ct,osl,rfl,l,c⟩,k⟩
end
theorem iteF {A B:Prop}(h:B):if false=true then A else B:=by
 rw [if_neg Ο]
 exact h
theorem iteT {A B:Prop}(h:A):if true=true then A else B:=by
 rw [if_pos rfl]
 exact h
def Same (H H':Hp):Prop:=∀ b o,H b=some o->H' b=some o
theorem Same.refl (H:Hp):Same H H:=fun _ _ h=>h
theorem Same.trans {H H1 H2:Hp}(a:Same H H1) (b:Same H1 H2):Same H H2:=fun c o h=>b c o (a c o h)
theorem Same.free {H H':Hp}(e:Same H H') {l:Addr}(h:H' l=Option.none):H l=Option.none:=by
 cases q:H l with
 | none=>rfl
 | some o=>
  rw [e l o q] at h
  cases h
theorem Same.seq {K:W.Frag}{H H':Hp}{a:Addr}{xs:List V}(e:Same H H') (h:SqL K H a xs):SqL K H' a xs:=by
 rcases h with (h | ⟨o,h⟩) | h
 ·exact .inl (.inl (e _ _ h))
 ·exact .inl (.inr ⟨o,e _ _ h⟩)
 ·exact .inr h
theorem wB {prog:Ω}{w:ϥ}{A:ϡ}{E:VSP}{s:ο}{it l:Addr}{i:Nat}{items:Array δ}{x:δ}{Q:VSP}(hit:s.heap.IsTupleIter it l i) (hl:s.heap.IsTuple l items) (hx:items[i]?=some x)
  (hQ:∀ h':Heap,h'.IsTupleIter it l (i+1)->ϛ it s.heap h'->Q x { s with heap:=h' }):Λ (Χ prog w) A (gQ (.ref it)) Q E s:=by
 obtain ⟨o,ho,hc,hd⟩:=id hit
 obtain ⟨ol,hol,left,nl,hdl⟩:=hl
 refine γ (Ϡ hit.typeIs F.slot_tuple_iterator_next (Ϙ F.slot_tuple_iterator_next hit.typeIs F.entry_tuple_iterator_next ?_ (F.args_tuple_iterator_next_1 (.ref it))))
 refine γ ?_
 rw [show slotArgs "__next__" 0 { pos:=[Δ it] }=pure (Δ it,[]) from rfl]
 refine η ?_
 refine γ (Ϲ ho hd rfl ?_)
 refine γ (Ϲ ho hd rfl ?_)
 refine γ (wpAny_seqItems hol hdl ?_)
 have hx':items[((i:Int)).toNat]?=some x:=hx
 simp only [hx']
 refine γ (fY ho hd (by simp) (η ⟨x,rfl,η (hQ _ ⟨_,gH _ ho (ni (fu hd _)),(Obj.cls_mapFields o _).trans hc,?_⟩ (bT s.heap it _))⟩))
 rw [fu hd]
 simp [bz]
theorem wZ {prog:Ω}{w:ϥ}{A:ϡ}{E:VSP}{s:ο}{it l:Addr}{i:Nat}{items:Array δ}{Q:VSP}(hh:A.handled=none) (hit:s.heap.IsTupleIter it l i) (hl:s.heap.IsTuple l items) (hx:items[i]?=none)
  (hE:∀ (h':Heap) (e:Addr),lD it s.heap h'->(∃ o,h'.get? e=some o/\o.cls=ϐ "StopIteration")->E (Δ e) { s with heap:=h' }):Λ (Χ prog w) A (gQ (.ref it)) Q E s:=by
 obtain ⟨o,ho,hc,hd⟩:=id hit
 obtain ⟨ol,hol,left,nl,hdl⟩:=hl
 refine γ (Ϡ hit.typeIs F.slot_tuple_iterator_next (Ϙ F.slot_tuple_iterator_next hit.typeIs F.entry_tuple_iterator_next ?_ (F.args_tuple_iterator_next_1 (.ref it))))
 refine γ ?_
 rw [show slotArgs "__next__" 0 { pos:=[Δ it] }=pure (Δ it,[]) from rfl]
 refine η ?_
 refine γ (Ϲ ho hd rfl ?_)
 refine γ (Ϲ ho hd rfl ?_)
 refine γ (wpAny_seqItems hol hdl ?_)
 have hx':items[((i:Int)).toNat]?=none:=hx
 simp only [hx']
 refine γ (bw (γ (fY ho hd (by simp) ?_)))
 refine γ ?_
 refine γ (ϖ ?_)
 refine γ (eQ rfl (ϖ ?_))
 refine γ (nD ?_)
 rw [show A.in1.handled=none from hh]
 refine wpAny_throw (hE _ _ (fun b o' hb hg=>?_) ⟨_,ω _ rfl,rfl⟩)
 ·exact ζ _ (ζ _ (by rw [(bT s.heap it _).2 b hb];exact hg))
theorem kY {prog:Ω}{w:ϥ}{A:ϡ}{E:VSP}{s:ο}{e it l:Addr}{i:Nat}{items:Array δ}{x old:δ}{Q:VSP}(he:IsEnum s.heap e it (i:Int) old) (hit:s.heap.IsTupleIter it l i) (hl:s.heap.IsTuple l items) (hx:items[i]?=some x) (hne:e≠it)
  (hQ:∀ h':Heap,IsEnumOut h' e it ((i:Int)+1) x s.heap.objs.size->h'.IsTupleIter it l (i+1)->h'.get? s.heap.objs.size=some { cls:=ϐ "tuple",data:=eZ #[ϗ (i:Int) s.toks,x] }->h'.objs.size=s.heap.objs.size+1 ->
   (∀ (b:Addr) (o:Obj),b≠e->b≠it->s.heap.get? b=some o->h'.get? b=some o)->Q (Δ s.heap.objs.size) { heap:=h',gens:=s.gens,drawn:=s.drawn,toks:=s.toks+1,os:=s.os }):
  Λ (Χ prog w) A (Φ.«enumerate.__next__» { pos:=[Δ e] }) (fun fin s'=>∃ v,fin=Fin.done (Flow.ret v)/\Q v s') E s:=by
 obtain ⟨hp,gs,dr,tk,os⟩:=s
 dsimp only at *
 refine γ ?_
 rw [show slotArgs "__next__" 0 { pos:=[Δ e] }=pure (Δ e,[]) from rfl]
 refine η ?_
 refine γ (Ϲ he rfl rfl ?_)
 refine γ (wB hit hl hx fun h1 hit1 sb1=>?_)
 have he1:IsEnum h1 e it (i:Int) old:=(sb1.2 e hne).trans he
 refine γ (Ϲ he1 rfl rfl ?_)
 refine γ (Ϲ he1 rfl rfl ?_)
 rw [if_pos (by rfl)]
 refine γ (wpAny_mkInt ?_)
 refine γ (ϸ he1 (by simp) fun h2 he2 sb2=>?_)
 have he2:h2.get? e=some { cls:=ϐ "enumerate",data:=Ϯ #[Κ,ύ false,Δ it,bz ((i:Int)+1),Κ,old] }:=by simpa using he2
 refine γ (ϸ he2 (by simp) fun h3 he3 sb3=>?_)
 have he3:h3.get? e=some { cls:=ϐ "enumerate",data:=Ϯ #[Κ,ύ false,Δ it,bz ((i:Int)+1),Κ,old] }:=by simpa using he3
 have z1:h1.objs.size=hp.objs.size:=sb1.1
 have z2:h2.objs.size=h1.objs.size:=sb2.1
 have z3:h3.objs.size=h2.objs.size:=sb3.1
 refine γ (mY ?_ (by rw [bu];simp))
 dsimp only
 have he4:=ζ { cls:=ϐ "tuple",data:=eZ [ϗ (↑i) tk,x].toArray } he3
 have t4:(h3.push { cls:=ϐ "tuple",data:=eZ [ϗ (↑i) tk,x].toArray }).get? h3.objs.size=some { cls:=ϐ "tuple",data:=eZ [ϗ (↑i) tk,x].toArray }:=ω _ rfl
 have z4:(h3.push { cls:=ϐ "tuple",data:=eZ [ϗ (↑i) tk,x].toArray }).objs.size=h3.objs.size+1:=dq _ _
 have k4:∀ (b:Addr) (o:Obj),h3.get? b=some o->(h3.push { cls:=ϐ "tuple",data:=eZ [ϗ (↑i) tk,x].toArray }).get? b=some o:=fun b o h=>ζ _ h
 generalize h3.push { cls:=ϐ "tuple",data:=eZ [ϗ (↑i) tk,x].toArray }=h4 at *
 refine γ ?_
 refine γ (Ϲ he4 rfl rfl ?_)
 refine η ?_
 refine γ (bw (γ (Ϲ he4 rfl rfl ?_)))
 refine γ (ϸ he4 (by simp) fun h5 he5 sb5=>?_)
 have he5:h5.get? e=some { cls:=ϐ "enumerate",data:=Ϯ #[Κ,ύ false,Δ it,bz ((i:Int)+1),Κ,x] }:=by simpa using he5
 refine γ ?_
 refine γ (ϸ he5 (by simp) fun h6 he6 sb6=>?_)
 have he6:h6.get? e=some { cls:=ϐ "enumerate",data:=Ϯ #[bz (h3.objs.size:Int),ύ false,Δ it,bz ((i:Int)+1),Κ,x] }:=by simpa using he6
 refine ϸ he6 (by simp) fun h7 he7 sb7=>?_
 have he7:h7.get? e=some { cls:=ϐ "enumerate",data:=Ϯ #[bz (h3.objs.size:Int),ύ false,Δ it,bz ((i:Int)+1),Κ,x] }:=by simpa using he7
 refine γ (wpAny_letGo ?_)
 have hs:h3.objs.size=hp.objs.size:=by lia
 have lt:∀ {h:Heap}{b:Addr}{o:Obj},h.get? b=some o->b < h.objs.size:=fun h=>χ h
 have hep:e≠h3.objs.size:=ϋ (lt he3)
 have back:∀ b:Addr,b≠e->h7.get? b=h4.get? b:=fun b hb=>(sb7.2 b hb).trans ((sb6.2 b hb).trans (sb5.2 b hb))
 have z7:h7.objs.size=h4.objs.size:=sb7.1.trans (sb6.1.trans sb5.1)
 refine η ⟨_,rfl,?_⟩
 rw [hs] at he7 t4 hep ⊢
 refine hQ h7 he7 ?_ ?_ (by lia) fun b o hb hb' hg=>?_
 ·obtain ⟨o,ho,hr⟩:=id hit1
  refine ⟨o,?_,hr⟩
  rw [back it (fun q=>hne q.symm)]
  exact k4 it o ((sb3.2 it (fun q=>hne q.symm)).trans ((sb2.2 it (fun q=>hne q.symm)).trans ho))
 ·rw [back _ (fun q=>hep q.symm)]
  exact t4
 ·rw [back b hb]
  exact k4 b o ((sb3.2 b hb).trans ((sb2.2 b hb).trans ((sb1.2 b hb').trans hg)))
theorem vY {prog:Ω}{w:ϥ}{A:ϡ}{E:VSP}{s:ο}{e it l:Addr}{i:Nat}{items:Array δ}{x old:δ}{Q:Option δ->ο->Prop}(he:IsEnum s.heap e it (i:Int) old) (hit:s.heap.IsTupleIter it l i) (hl:s.heap.IsTuple l items) (hx:items[i]?=some x) (hne:e≠it)
  (hQ:∀ h':Heap,IsEnumOut h' e it ((i:Int)+1) x s.heap.objs.size->h'.IsTupleIter it l (i+1)->h'.get? s.heap.objs.size=some { cls:=ϐ "tuple",data:=eZ #[ϗ (i:Int) s.toks,x] }->h'.objs.size=s.heap.objs.size+1 ->
   (∀ (b:Addr) (o:Obj),b≠e->b≠it->s.heap.get? b=some o->h'.get? b=some o)->Q (some (Δ s.heap.objs.size)) { heap:=h',gens:=s.gens,drawn:=s.drawn,toks:=s.toks+1,os:=s.os }):
  Λ (Χ prog w) A (gr (.ref e)) Q E s:=by
 have ty:fD s (.ref e) "enumerate":=⟨_,he,rfl⟩
 refine γ (cX (Ϡ ty F.slot_enumerate_next (Ϙ F.slot_enumerate_next ty F.entry_enumerate_next (kY he hit hl hx hne fun h' a b c d f=>?_) (F.args_enumerate_next_1 _))))
 exact η (hQ h' a b c d f)
theorem xn {prog:Ω}{w:ϥ}{A:ϡ}{E:VSP}{s:ο}{e it l:Addr}{i:Nat}{items:Array δ}{old:δ}{Q:Option δ->ο->Prop}(hh:A.handled=none) (he:IsEnum s.heap e it (i:Int) old) (hit:s.heap.IsTupleIter it l i) (hl:s.heap.IsTuple l items) (hx:items[i]?=none)
  (hQ:∀ h':Heap,lD it s.heap h'->Q none { s with heap:=h' }):Λ (Χ prog w) A (gr (.ref e)) Q E s:=by
 have ty:fD s (.ref e) "enumerate":=⟨_,he,rfl⟩
 refine γ (cX (Ϡ ty F.slot_enumerate_next (Ϙ F.slot_enumerate_next ty F.entry_enumerate_next ?_ (F.args_enumerate_next_1 _))))
 refine γ ?_
 rw [show slotArgs "__next__" 0 { pos:=[Δ e] }=pure (Δ e,[]) from rfl]
 refine η ?_
 refine γ (Ϲ he rfl rfl ?_)
 refine γ (wZ (by exact hh) hit hl hx fun h' e' ext ⟨o,ho,hc⟩=>?_)
 refine γ (lU (T:="StopIteration") (b:=true) ⟨o,ho,hc⟩ m6 ?_)
 exact η (hQ h' ext)
set_option tactic.hygienic true in
theorem uc (l:Addr) (items:Array δ):Meets (Φ.«enumerate.__new__» { pos:=[ϐ "enumerate",Δ l] }) fun x R s=>
  s.heap.IsTuple l items/\R (Except.ok (Flow.ret (Δ (s.heap.push { cls:=ϐ "tuple_iterator",data:=Ϯ #[Δ l,ϗ 0 0] }).objs.size)))
   { heap:=(s.heap.push { cls:=ϐ "tuple_iterator",data:=Ϯ #[Δ l,ϗ 0 0] }).push { cls:=ϐ "enumerate",data:=Ϯ #[Κ,ύ false,Δ s.heap.objs.size,bz 0,Κ,Κ] },gens:=s.gens,drawn:=s.drawn,toks:=s.toks,os:=s.os }:=
 Meets.of_wp fun prog w A R s h=>by
  obtain ⟨hp,g,d,tk,os⟩:=s
  obtain ⟨hl,h⟩:=h
  have hsub:=sub_enumerate
  refine γ ?_
  refine γ ?_
  refine η ?_
  refine iz rfl ?_
  refine γ (eQ hsub ?_)
  refine iz rfl ?_
  refine η ?_
  refine wpAny_ite_true rfl ?_
  refine γ ?_
  refine γ (wpAny_stack_any fun st=>?_)
  refine η ?_
  have fin:Λ (Χ prog w) A.in1 (pyIter (Δ l) >>= fun it=>Φ.SmallTypes.newRecord (ϐ "enumerate") (Φ.SmallTypes.ownedTupleFields++[it,bz 0,Κ,Κ]) >>= fun v=>ret v)
    (fun fin s'=>∃ v,fin=Fin.done (Flow.ret v)/\R (Except.ok (Flow.ret v)) s') (fun e s'=>R (Except.error e) s') { heap:=hp,gens:=g,drawn:=d,toks:=tk,os:=os }:=
   by
   refine γ (wpAny_pyIter_tuple hl ?_)
   refine γ ?_
   refine ϖ (T:="enumerate") (data:=Ϯ #[Κ,ύ false,Δ hp.objs.size,bz 0,Κ,Κ]) (dict:=none) ?_
   exact η ⟨_,rfl,h⟩
  split
  ·rename_i c _ _ _ _ _
   generalize (c==ϐ "enumerate")=b
   cases b with
   | true=>exact wpAny_ite_true rfl (γ (eQ rfl fin))
   | false=>exact iz rfl (γ (eQ rfl fin))
  ·exact iz rfl (γ (eQ rfl fin))
theorem wg {prog:Ω}{w:ϥ}{A:ϡ}{E:VSP}{s:ο}{l:Addr}{items:Array δ}{Q:VSP}(hl:s.heap.IsTuple l items)
  (h:∀ h':Heap,IsEnum h' (s.heap.objs.size+1) s.heap.objs.size 0 Κ->h'.IsTupleIter s.heap.objs.size l 0->h'.objs.size=s.heap.objs.size+2->(∀ (b:Addr) (o:Obj),s.heap.get? b=some o->h'.get? b=some o)->Q (Δ (s.heap.objs.size+1)) { s with heap:=h' }):
  Λ (Χ prog w) A (call (ϐ "enumerate") [Δ l]) Q E s:=by
 have hz:=dq s.heap { cls:=ϐ "tuple_iterator",data:=Ϯ #[Δ l,ϗ 0 0] }
 refine callType_new F.called_enumerate (by decide) (F.typeCall_enumerate_1 (Δ l)) (F.newCall_enumerate_1 (Δ l)) (fun obj=>F.args_object_init_2 obj (Δ l)) F.entry_enumerate_new (uc l items) ⟨hl,?_⟩
 have he:=ω (s.heap.push { cls:=ϐ "tuple_iterator",data:=Ϯ #[Δ l,ϗ 0 0] }) (o:={ cls:=ϐ "enumerate",data:=Ϯ #[Κ,ύ false,Δ s.heap.objs.size,bz 0,Κ,Κ] }) rfl
 have hi:=ζ { cls:=ϐ "enumerate",data:=Ϯ #[Κ,ύ false,Δ s.heap.objs.size,bz 0,Κ,Κ] } (ω s.heap (o:={ cls:=ϐ "tuple_iterator",data:=Ϯ #[Δ l,ϗ 0 0] }) rfl)
 have hz2:=dq (s.heap.push { cls:=ϐ "tuple_iterator",data:=Ϯ #[Δ l,ϗ 0 0] }) { cls:=ϐ "enumerate",data:=Ϯ #[Κ,ύ false,Δ s.heap.objs.size,bz 0,Κ,Κ] }
 show fD _ _ "enumerate"/\_
 rw [hz] at he ⊢
 exact ⟨⟨_,he,rfl⟩,h _ he ⟨_,hi,rfl,rfl⟩ (by rw [hz2,hz]) fun b o hb=>ζ _ (ζ _ hb)⟩
noncomputable def Ite (K:W.Frag) (l:Addr):It:=
 ⟨fun i H=>∃ xs x,SqL K H l xs/\xs[i]?=some x,fun i H x H'=>∃ p y,H p=none/\x=.ref p/\H'=upd H p (.tup [.int i,y])/\∀ xs,SqL K H l xs->xs[i]?=some y,fun i H=>∃ xs,SqL K H l xs/\xs.length<=i⟩
theorem Vy {P:Ω}{w:ϥ}{K:W.Frag}{elts:List Expr}{kk:Nat}{pos:Pos}(l e it:Addr) (hne:e≠it):
  Turn P w K (.Tuple elts kk pos) (Ite K l) [e,it] e (fun i h=>(∃ old,IsEnum h e it i old)/\h.IsListIter it l i) where
 mem:=by simp
 obj:=fun i h st b hb=>by
  obtain ⟨⟨old,he⟩,hit⟩:=st
  have hb':b=e\/b=it:=by simpa using hb
  rcases hb' with rfl | rfl
  ·exact ⟨_,he,fun v z=>by cases z⟩
  ·obtain ⟨o,q,c,d⟩:=hit
   exact ⟨o,q,fun v z=>by rw [d] at z;cases z⟩
 keep:=fun i h h' st k=>by
  obtain ⟨⟨old,he⟩,hit⟩:=st
  exact ⟨⟨old,k e (by simp) _ he⟩,hit.at fun o q=>k it (by simp) o q⟩
 item:=by
  intro X hP hw hK hc i pj s σ H E I hf st hg
  subst hP hw hK
  obtain ⟨⟨old,he⟩,hit⟩:=st
  obtain ⟨xs,x,hq,hx⟩:=hg
  obtain ⟨its,rv,p,hz⟩:=I.list hq
  obtain ⟨u,hu,ru⟩:=rv.get hx
  have f1:=hf e (by simp)
  have f2:=hf it (by simp)
  have hT:H s.heap.objs.size=none:=I.hok.fresh (ν _)
  refine wpAny_pyNext_enum_item he hit p.isList (x:=u) (by simpa using hu) hne fun h' ho hit' hTp hsz hk=>⟨_,rfl,?_⟩
  refine mZ ho fun h2 he2 hs2=>?_
  have kept:∀ b o,b ∉ [e,it]->s.heap.get? b=some o->h2.get? b=some o:=fun b o hb q=>(hs2.2 b fun z=>hb (by simp [z])).trans (hk b o (fun z=>hb (by simp [z])) (fun z=>hb (by simp [z])) q)
  have nT:∀ b o,s.heap.get? b=some o->b≠s.heap.objs.size:=fun b o q=>ϋ (χ q)
  have htr:∀ b o,H b=some o->b ∉ [e,it]:=fun b o q hb=>by
   have hb':b=e\/b=it:=by simpa using hb
   rcases hb' with rfl | rfl
   ·rw [f1.1] at q;cases q
   ·rw [f2.1] at q;cases q
  have eT:h2.get? s.heap.objs.size=some { cls:=.type "tuple",data:=.seq #[.int i s.toks,u] }:=(hs2.2 _ (cB (χ he))).trans hTp
  have hok:HOk X.prog X.w (upd H s.heap.objs.size (.tup [.int i,x])) h2:=fun b o q=>by
   by_cases hb:b=s.heap.objs.size
   ·subst hb
    rw [zf] at q
    cases q
    exact ⟨by show 2<=sizeLine;decide,[.int i s.toks,u],.cons ⟨_,rfl⟩ (.cons ru .nil),⟨_,eT,rfl,_,rfl⟩⟩
   ·rw [zb hb] at q
    refine (I.hok b o q).stay (fun c v hcv r=>kept c v ?_ r) (fun c r=>by rw [zb (zc r hT)];exact r) fun c ys r=>by rw [zb (zc r hT)];exact r
    rcases hcv with rfl | hcv
    ·exact htr _ _ q
    ·exact htr _ _ hcv
  refine ⟨.ref s.heap.objs.size,upd H s.heap.objs.size (.tup [.int i,x]),?_,rfl,⟨_,x,hT,rfl,rfl,fun ys hy=>by rw [I.X7 hy hq];exact hx⟩,⟨⟨u,by simpa using he2⟩,hit'.at fun o q=>(hs2.2 it hne.symm).trans q⟩,fun b hb=>?_⟩
  ·refine Inv.step (s:=s) (H:=H) (h':=h2) (g':=s.gens) (d':=s.drawn) (t':=s.toks+1) (ch:=[e,it]) I (fun b hb=>?_) (fun b o _ _ hb q _=>kept b o hb q) (fun b o _ _ hb q _=>⟨o.slots,kept b o hb q⟩) (fun b o _ q n=>by rw [zb (nT b o q)];exact n) (fun b o hb q=>⟨o,kept b o hb q⟩)
    (fun b ys q=>by rw [zb (zc q hT)];exact q) (fun b o v q=>by rw [zb (zc q hT)];exact q) (fun b ps q=>⟨#[],by rw [zb (zc q hT),q];simp⟩) (fun m hm=>?_) hok I.bare
   ·have hb':b=e\/b=it:=by simpa using hb
    rcases hb' with rfl | rfl
    ·exact ⟨f1.2.2.2.1,f1.2.1,f1.2.2.2.2.1,f1.2.2.2.2.2⟩
    ·exact ⟨f2.2.2.2.1,f2.2.1,f2.2.2.2.2.1,f2.2.2.2.2.2⟩
   ·obtain ⟨o,es,ep,q,r⟩:=hm
    exact ⟨o,es,ep,kept _ o (fun hb=>by
     have hb':X.env.locals=e\/X.env.locals=it:=by simpa using hb
     rcases hb' with z | z
     ·exact f1.2.1 z.symm
     ·exact f2.2.1 z.symm) q,r⟩
  ·have hb':b=e\/b=it:=by simpa using hb
   rcases hb' with rfl | rfl
   ·rw [zb (nT _ _ he)];exact f1.1
   ·obtain ⟨o,q,_⟩:=hit
    rw [zb (nT _ _ q)];exact f2.1
 done:=by
  intro X hP hw hK hc i pj s σ H E I hf st hg
  subst hP hw hK
  obtain ⟨⟨old,he⟩,hit⟩:=st
  obtain ⟨xs,hq,hx⟩:=hg
  obtain ⟨its,rv,p,hz⟩:=I.list hq
  obtain ⟨f0,f1,f2,f3,f4,f5⟩:=hf it (by simp)
  have hl:=rv.length
  exact wpAny_pyNext_enum_end (I.ok.hd hc) he hit p.isList (by simp;lia) fun h' eb=>⟨rfl,I.turned (t':=s.toks) (fun b o hb q=>eb b o hb q) f0 f1 f3 f4 f5⟩
 self:=fun A i s Q E st h=>by
  obtain ⟨⟨old,he⟩,_⟩:=st
  exact gn he h
noncomputable def Itet (K:W.Frag) (l:Addr):It:=
 ⟨fun i H=>∃ xs x,SqT K H l xs/\xs[i]?=some x,fun i H x H'=>∃ p y,H p=none/\x=.ref p/\H'=upd H p (.tup [.int i,y])/\∀ xs,SqT K H l xs->xs[i]?=some y,fun i H=>∃ xs,SqT K H l xs/\xs.length<=i⟩
theorem WT {P:Ω}{w:ϥ}{K:W.Frag}{elts:List Expr}{kk:Nat}{pos:Pos}(l e it:Addr) (hne:e≠it):
  Turn P w K (.Tuple elts kk pos) (Itet K l) [e,it] e (fun i h=>(∃ old,IsEnum h e it i old)/\h.IsTupleIter it l i) where
 mem:=by simp
 obj:=fun i h st b hb=>by
  obtain ⟨⟨old,he⟩,hit⟩:=st
  have hb':b=e\/b=it:=by simpa using hb
  rcases hb' with rfl | rfl
  ·exact ⟨_,he,fun v z=>by cases z⟩
  ·obtain ⟨o,q,c,d⟩:=hit
   exact ⟨o,q,fun v z=>by rw [d] at z;cases z⟩
 keep:=fun i h h' st k=>by
  obtain ⟨⟨old,he⟩,hit⟩:=st
  exact ⟨⟨old,k e (by simp) _ he⟩,hit.at fun o q=>k it (by simp) o q⟩
 item:=by
  intro X hP hw hK hc i pj s σ H E I hf st hg
  subst hP hw hK
  obtain ⟨⟨old,he⟩,hit⟩:=st
  obtain ⟨xs,x,hq,hx⟩:=hg
  obtain ⟨its,rv,p,hz⟩:=I.tuple hq
  obtain ⟨u,hu,ru⟩:=rv.get hx
  have f1:=hf e (by simp)
  have f2:=hf it (by simp)
  have hT:H s.heap.objs.size=none:=I.hok.fresh (ν _)
  refine vY he hit (show s.heap.IsTuple l its.toArray from p) (x:=u) (by simpa using hu) hne fun h' ho hit' hTp hsz hk=>⟨_,rfl,?_⟩
  refine mZ ho fun h2 he2 hs2=>?_
  have kept:∀ b o,b ∉ [e,it]->s.heap.get? b=some o->h2.get? b=some o:=fun b o hb q=>(hs2.2 b fun z=>hb (by simp [z])).trans (hk b o (fun z=>hb (by simp [z])) (fun z=>hb (by simp [z])) q)
  have nT:∀ b o,s.heap.get? b=some o->b≠s.heap.objs.size:=fun b o q=>ϋ (χ q)
  have htr:∀ b o,H b=some o->b ∉ [e,it]:=fun b o q hb=>by
   have hb':b=e\/b=it:=by simpa using hb
   rcases hb' with rfl | rfl
   ·rw [f1.1] at q;cases q
   ·rw [f2.1] at q;cases q
  have eT:h2.get? s.heap.objs.size=some { cls:=.type "tuple",data:=.seq #[.int i s.toks,u] }:=(hs2.2 _ (cB (χ he))).trans hTp
  have hok:HOk X.prog X.w (upd H s.heap.objs.size (.tup [.int i,x])) h2:=fun b o q=>by
   by_cases hb:b=s.heap.objs.size
   ·subst hb
    rw [zf] at q
    cases q
    exact ⟨by show 2<=sizeLine;decide,[.int i s.toks,u],.cons ⟨_,rfl⟩ (.cons ru .nil),⟨_,eT,rfl,_,rfl⟩⟩
   ·rw [zb hb] at q
    refine (I.hok b o q).stay (fun c v hcv r=>kept c v ?_ r) (fun c r=>by rw [zb (zc r hT)];exact r) fun c ys r=>by rw [zb (zc r hT)];exact r
    rcases hcv with rfl | hcv
    ·exact htr _ _ q
    ·exact htr _ _ hcv
  refine ⟨.ref s.heap.objs.size,upd H s.heap.objs.size (.tup [.int i,x]),?_,rfl,⟨_,x,hT,rfl,rfl,fun ys hy=>by rw [I.qy hy hq];exact hx⟩,⟨⟨u,by simpa using he2⟩,hit'.at fun o q=>(hs2.2 it hne.symm).trans q⟩,fun b hb=>?_⟩
  ·refine Inv.step (s:=s) (H:=H) (h':=h2) (g':=s.gens) (d':=s.drawn) (t':=s.toks+1) (ch:=[e,it]) I (fun b hb=>?_) (fun b o _ _ hb q _=>kept b o hb q) (fun b o _ _ hb q _=>⟨o.slots,kept b o hb q⟩) (fun b o _ q n=>by rw [zb (nT b o q)];exact n) (fun b o hb q=>⟨o,kept b o hb q⟩)
    (fun b ys q=>by rw [zb (zc q hT)];exact q) (fun b o v q=>by rw [zb (zc q hT)];exact q) (fun b ps q=>⟨#[],by rw [zb (zc q hT),q];simp⟩) (fun m hm=>?_) hok I.bare
   ·have hb':b=e\/b=it:=by simpa using hb
    rcases hb' with rfl | rfl
    ·exact ⟨f1.2.2.2.1,f1.2.1,f1.2.2.2.2.1,f1.2.2.2.2.2⟩
    ·exact ⟨f2.2.2.2.1,f2.2.1,f2.2.2.2.2.1,f2.2.2.2.2.2⟩
   ·obtain ⟨o,es,ep,q,r⟩:=hm
    exact ⟨o,es,ep,kept _ o (fun hb=>by
     have hb':X.env.locals=e\/X.env.locals=it:=by simpa using hb
     rcases hb' with z | z
     ·exact f1.2.1 z.symm
     ·exact f2.2.1 z.symm) q,r⟩
  ·have hb':b=e\/b=it:=by simpa using hb
   rcases hb' with rfl | rfl
   ·rw [zb (nT _ _ he)];exact f1.1
   ·obtain ⟨o,q,_⟩:=hit
    rw [zb (nT _ _ q)];exact f2.1
 done:=by
  intro X hP hw hK hc i pj s σ H E I hf st hg
  subst hP hw hK
  obtain ⟨⟨old,he⟩,hit⟩:=st
  obtain ⟨xs,hq,hx⟩:=hg
  obtain ⟨its,rv,p,hz⟩:=I.tuple hq
  obtain ⟨f0,f1,f2,f3,f4,f5⟩:=hf it (by simp)
  have hl:=rv.length
  exact xn (I.ok.hd hc) he hit (show s.heap.IsTuple l its.toArray from p) (by simp;lia) fun h' eb=>⟨rfl,I.turned (t':=s.toks) (fun b o hb q=>eb b o hb q) f0 f1 f3 f4 f5⟩
 self:=fun A i s Q E st h=>by
  obtain ⟨⟨old,he⟩,_⟩:=st
  exact gn he h
section
variable {κ:Type} [DecidableEq κ]
noncomputable def valV (kvs:List (κ×V)) (k:κ):Option V:=(kvs.find? fun kv=>decide (kv.1=k)).map (·.2)
noncomputable def putK (kvs:List (κ×V)) (k:κ) (v:V):List (κ×V):=
 if (kvs.any fun kv=>decide (kv.1=k))=true then kvs.map (fun kv=>if kv.1=k then (kv.1,v) else kv) else kvs++[(k,v)]
noncomputable def dropK (kvs:List (κ×V)) (k:κ):List (κ×V):=kvs.filter fun kv=>decide (kv.1≠k)
theorem xG {p:κ×V}{r:List (κ×V)}{k:κ}(e:p.1=k):valV (p::r) k=some p.2:=by simp [valV,cN,e]
theorem xH {p:κ×V}{r:List (κ×V)}{k:κ}(e:¬ p.1=k):valV (p::r) k=valV r k:=by simp [valV,cN,e]
theorem Xg (k:κ):∀ kvs:List (κ×V),(kvs.any fun kv=>decide (kv.1=k))=(valV kvs k).isSome
 | []=>rfl
 | p::r=>by
  rw [bG]
  by_cases e:p.1=k
  ·simp only [xG e,decide_eq_true e,Bool.true_or,Option.isSome_some]
  ·rw [xH e,decide_eq_false e,Bool.false_or];exact Xg k r
theorem xq (kvs:List (κ×V)) (k:κ) (v:V):(putK kvs k v).length<=kvs.length+1:=by
 unfold putK
 split
 ·rw [Ζ];lia
 ·rw [Α,Ϟ,dY];lia
theorem RelO.yP {o:Option V}{u:Option δ}(r:RelO o u):o.isSome=u.isSome:=by
 cases o with
 | none=>cases u with
  | none=>rfl
  | some _=>exact (show False from r).elim
 | some _=>cases u with
  | none=>exact (show False from r).elim
  | some _=>rfl
theorem RelO.getD {o:Option V}{u:Option δ}{d:V}{d':δ}(r:RelO o u) (rd:RelV d d'):RelV (o.getD d) (u.getD d'):=by
 cases o with
 | none=>cases u with
  | none=>exact rd
  | some _=>exact (show False from r).elim
 | some _=>cases u with
  | none=>exact (show False from r).elim
  | some _=>exact r
theorem KV.val {kvs:List (κ×V)}{vs:List (κ×δ)}(r:KV kvs vs) (k:κ):RelO (valV kvs k) (g8 vs k):=by
 unfold KV at r
 induction r with
 | nil=>exact ϳ
 | @cons p q ps qs h t ih=>
  obtain ⟨h1,h2⟩:=h
  by_cases e:p.1=k
  ·have e':q.1=k:=h1.symm.trans e
   have b:g8 (q::qs) k=some q.2:=by simp [g8,cN,e']
   rw [xG e,b];exact h2
  ·have e':¬ q.1=k:=fun z=>e (h1.trans z)
   have b:g8 (q::qs) k=g8 qs k:=by simp [g8,cN,e']
   rw [xH e,b];exact ih
theorem KV.any {kvs:List (κ×V)}{vs:List (κ×δ)}(r:KV kvs vs) (k:κ):(kvs.any fun kv=>decide (kv.1=k))=vs.any fun kv=>decide (kv.1=k):=by
 unfold KV at r
 induction r with
 | nil=>rfl
 | cons h t ih=>rw [bG,bG,ih,h.1]
theorem KV.repl {kvs:List (κ×V)}{vs:List (κ×δ)}(r:KV kvs vs) (k:κ) {y:V}{u:δ}(ry:RelV y u):
  KV (kvs.map fun kv=>if kv.1=k then (kv.1,y) else kv) (vs.map fun kv=>if kv.1=k then (kv.1,u) else kv):=by
 unfold KV at r ⊢
 induction r with
 | nil=>exact .nil
 | @cons p q ps qs h t ih=>
  rw [Ρ,Ρ]
  refine .cons ?_ ih
  obtain ⟨h1,h2⟩:=h
  by_cases e:p.1=k
  ·rw [if_pos e,if_pos (h1.symm.trans e)];exact ⟨h1,ry⟩
  ·rw [if_neg e,if_neg (fun z=>e (h1.trans z))];exact ⟨h1,h2⟩
theorem KV.put {kvs:List (κ×V)}{vs:List (κ×δ)}(r:KV kvs vs) (k:κ) {y:V}{u:δ}(ry:RelV y u):KV (putK kvs k y) (stored vs k u):=by
 unfold putK stored
 rw [r.any k]
 by_cases e:(vs.any fun kv=>decide (kv.1=k))=true
 ·rw [if_pos e,if_pos e];exact r.repl k ry
 ·rw [if_neg e,if_neg e];exact cR.snoc r ⟨rfl,ry⟩
theorem KV.drop {kvs:List (κ×V)}{vs:List (κ×δ)}(r:KV kvs vs) (k:κ):KV (dropK kvs k) (without vs k):=by
 unfold KV at r ⊢
 unfold dropK without
 induction r with
 | nil=>exact .nil
 | @cons p q ps qs h t ih=>
  obtain ⟨h1,h2⟩:=h
  rw [List.filter_cons,List.filter_cons]
  by_cases e:p.1=k
  ·have a:¬ decide (p.1≠k)=true:=by simp [e]
   have b:¬ decide (q.1≠k)=true:=by simp [h1.symm.trans e]
   rw [if_neg a,if_neg b];exact ih
  ·have e':¬ q.1=k:=fun z=>e (h1.trans z)
   have a:decide (p.1≠k)=true:=by simp [e]
   have b:decide (q.1≠k)=true:=by simp [e']
   rw [if_pos a,if_pos b];exact .cons ⟨h1,h2⟩ ih
theorem KV.length {kvs:List (κ×V)}{vs:List (κ×δ)}(r:KV kvs vs):kvs.length=vs.length:=ir r
end
theorem kV_is {P:Ω}{w:ϥ}{k:Key}{u:δ}(r:RelV (kV k) u):(zG P w).is k u=true:=by
 cases k with
 | inl i=>obtain ⟨t,e⟩:=(show ∃ t,u=ϗ i t from r);subst e;exact Yx P w i t
 | inr x=>obtain ⟨t,e⟩:=(show ∃ t,u=aX x t from r);subst e;exact Yw P w x t
theorem Zo {P:Ω}{w:ϥ}:∀ {ks:List Key}{us:List δ},Vals (ks.map kV) us->ItemsAre (zG P w) ks us
 | [],_,r=>by rw [mW] at r;cases r;exact .nil
 | k::ks,_,r=>by
  rw [Ρ] at r
  cases r with
  | cons h t=>exact .cons (kV_is h) (Zo t)
abbrev KT (H:Hp):List (List Key×V)->List (List Key×Addr×δ)->Prop:=cR fun p q=>p.1=q.1/\H q.2.1=some (.tup (p.1.map kV))/\RelV p.2 q.2.2
theorem KT.val {H:Hp}{kvs:List (List Key×V)}{xs:List (List Key×Addr×δ)}(r:KT H kvs xs) (k:List Key):RelO (valV kvs k) ((atKey xs k).map (·.2)):=by
 induction r with
 | nil=>exact ϳ
 | @cons p q ps qs h t ih=>
  obtain ⟨h1,_,h2⟩:=h
  by_cases e:p.1=k
  ·have e':q.1=k:=h1.symm.trans e
   have b:atKey (q::qs) k=some q.2:=by simp [atKey,cN,e']
   rw [xG e,b];exact h2
  ·have e':¬ q.1=k:=fun z=>e (h1.trans z)
   have b:atKey (q::qs) k=atKey qs k:=by simp [atKey,cN,e']
   rw [xH e,b];exact ih
theorem KT.repl {H:Hp}{kvs:List (List Key×V)}{xs:List (List Key×Addr×δ)}(r:KT H kvs xs) (k:List Key) {y:V}{u:δ}(ry:RelV y u):
  KT H (kvs.map fun kv=>if kv.1=k then (kv.1,y) else kv) (xs.map (putAt k u)):=by
 induction r with
 | nil=>exact .nil
 | @cons p q ps qs h t ih=>
  rw [Ρ,Ρ]
  refine .cons ?_ ih
  obtain ⟨h1,h2,h3⟩:=h
  unfold putAt
  by_cases e:p.1=k
  ·rw [if_pos e,if_pos (h1.symm.trans e)];exact ⟨h1,h2,ry⟩
  ·rw [if_neg e,if_neg (fun z=>e (h1.trans z))];exact ⟨h1,h2,h3⟩
theorem KT.put {H:Hp}{kvs:List (List Key×V)}{xs:List (List Key×Addr×δ)}(r:KT H kvs xs) (k:List Key) {b:Addr}{y:V}{u:δ}(hb:H b=some (.tup (k.map kV))) (ry:RelV y u):
  KT H (putK kvs k y) (storedH xs k b u):=by
 have e:(kvs.any fun kv=>decide (kv.1=k))=(atKey xs k).isSome:=by
  rw [Xg,(r.val k).yP,iK]
 unfold putK storedH
 rw [e]
 by_cases q:(atKey xs k).isSome=true
 ·rw [if_pos q,if_pos q];exact r.repl k ry
 ·rw [if_neg q,if_neg q];exact cR.snoc r ⟨rfl,hb,ry⟩
theorem KT.keeps {H H':Hp}{kvs:List (List Key×V)}{xs:List (List Key×Addr×δ)}(r:KT H kvs xs) (ht:∀ b ys,H b=some (.tup ys)->H' b=some (.tup ys)):KT H' kvs xs:=
 cR.mapP r fun _ _ z=>⟨z.1,ht _ _ z.2.1,z.2.2⟩
section
variable {P:Ω}{w:ϥ}{H:Hp}{h:Heap}{a:Addr}
theorem rd_of {u:HO}(ok:HOk P w H h) (e:Rd H a u):ObjOk P w H h a u:=e.ok ok
theorem dk_rd {kvs:List (Key×V)}(ok:HOk P w H h) (e:Rd H a (.dK kvs)):kvs.length<=sizeLine/\(a==bx)=false/\∃ vs,KV kvs vs/\h.DictOf (zG P w) a vs:=
 show ObjOk P w H h a (.dK kvs) from rd_of ok e
theorem dk_of {kvs:List (Key×V)}(ok:HOk P w H h) (e:H a=some (.dK kvs)):kvs.length<=sizeLine/\(a==bx)=false/\∃ vs,KV kvs vs/\h.DictOf (zG P w) a vs:=dk_rd ok (.inl e)
theorem Zf {ks:List Key}(ok:HOk P w H h) (e:H a=some (.tup (ks.map kV))):(gJ (zG P w)).is h ks a:=by
 obtain ⟨_,its,r,o,h1,h2,n,h3⟩:=(show ObjOk P w H h a (.tup (ks.map kV)) from ok a _ e)
 exact ⟨o,its.toArray,n,h1,h2,h3,by simpa using Zo r⟩
theorem dt_rd {kvs:List (List Key×V)}(ok:HOk P w H h) (e:Rd H a (.dT kvs)):kvs.length<=sizeLine/\(a==bx)=false /\
  ∃ xs,KT H kvs xs/\h.DictOfH (gJ (zG P w)) a xs:=by
 obtain ⟨z,y,xs,r,o,es,ep,h1,h2,h3,h4,h5⟩:=(show ObjOk P w H h a (.dT kvs) from rd_of ok e)
 refine ⟨z,y,xs,r,o,es,ep,h1,h2,h3,h4,fun x hx=>?_,h5⟩
 have all:∀ {l:List (List Key×V)}{m:List (List Key×Addr×δ)},KT H l m->∀ x∈m,(gJ (zG P w)).is h x.1 x.2.1:=by
  intro l m q
  induction q with
  | nil=>intro x hx;exact nomatch hx
  | @cons p q ps qs hq t ih=>
   intro x hx
   rcases Ξ.mp hx with e | hx
   ·subst e
    exact Zf ok (by rw [<- hq.1];exact hq.2.1)
   ·exact ih x hx
 exact all r x hx
theorem dt_of {kvs:List (List Key×V)}(ok:HOk P w H h) (e:H a=some (.dT kvs)):kvs.length<=sizeLine/\(a==bx)=false /\
  ∃ xs,KT H kvs xs/\h.DictOfH (gJ (zG P w)) a xs:=dt_rd ok (.inl e)
end
def DGet (H:Hp) (a:Addr) (y:V) (r:Option V):Prop:=
 (∃ kvs k,Rd H a (.dK kvs)/\y=kV k/\r=valV kvs k)\/∃ kvs k b,Rd H a (.dT kvs)/\y=.ref b/\H b=some (.tup (k.map kV))/\r=valV kvs k
def DPut (H:Hp) (a:Addr) (y v:V) (H':Hp):Prop:=
 (∃ kvs k,H a=some (.dK kvs)/\y=kV k/\kvs.length < sizeLine/\H'=upd H a (.dK (putK kvs k v))) \/
 ∃ kvs k b,H a=some (.dT kvs)/\y=.ref b/\H b=some (.tup (k.map kV))/\kvs.length < sizeLine/\H'=upd H a (.dT (putK kvs k v))
theorem DGet.k {H:Hp}{a:Addr}{kvs:List (Key×V)}{k:Key}(e:H a=some (.dK kvs)):DGet H a (kV k) (valV kvs k):=.inl ⟨kvs,k,.inl e,rfl,rfl⟩
theorem DGet.t {H:Hp}{a b:Addr}{kvs:List (List Key×V)}{k:List Key}(e:H a=some (.dT kvs)) (eb:H b=some (.tup (k.map kV))):DGet H a (.ref b) (valV kvs k):=.inr ⟨kvs,k,b,.inl e,rfl,eb,rfl⟩
theorem DPut.k {H:Hp}{a:Addr}{kvs:List (Key×V)}{k:Key}{v:V}(e:H a=some (.dK kvs)) (hl:kvs.length < sizeLine):DPut H a (kV k) v (upd H a (.dK (putK kvs k v))):=.inl ⟨kvs,k,e,rfl,hl,rfl⟩
theorem DPut.t {H:Hp}{a b:Addr}{kvs:List (List Key×V)}{k:List Key}{v:V}(e:H a=some (.dT kvs)) (eb:H b=some (.tup (k.map kV))) (hl:kvs.length < sizeLine):
  DPut H a (.ref b) v (upd H a (.dT (putK kvs k v))):=.inr ⟨kvs,k,b,e,rfl,eb,hl,rfl⟩
section
variable {X:Cx}{pj:List (Addr×Obj)}{σ:St}{H:Hp}{s:ο}{a:Addr}{y v:V}{u r:δ}{o:Option V}{A:ϡ}{E:VSP}
theorem Inv.big (I:Inv X pj σ H s):bx < s.heap.objs.size:=by
 have h:ϕ < s.heap.objs.size:=(I.mod.glob.keeps I.bk).lt
 exact Nat.lt_trans (by decide) h
theorem JT {Q:VSP}(hu:A.units+1 < aq) (I:Inv X pj σ H s) (g:DGet H a y (some v)) (ry:RelV y u) (h:∀ w' s',Inv X pj σ H s'->RelV v w'->Q w' s'):
  Λ (Χ X.prog X.w) A (iW (.ref a) u) Q E s:=by
 rcases g with ⟨kvs,k,e,ey,l⟩ | ⟨kvs,k,b,e,ey,eb,l⟩
 ·subst ey
  obtain ⟨z,hd,vs,rel,dd⟩:=dk_rd I.hok e
  obtain ⟨w',hw,rw'⟩:=RelO.some_of (v:=v) (o:=g8 vs k) (by rw [l];exact rel.val k)
  exact wpAny_getItem_of (kV_is ry) dd.mapOf hw (h w' _ (I.tok _) rw')
 ·subst ey
  cases (show u=Δ b from ry)
  obtain ⟨z,hd,xs,rel,dd⟩:=dt_rd I.hok e
  obtain ⟨w',hw,rw'⟩:=RelO.some_of (v:=v) (o:=(atKey xs k).map (·.2)) (by rw [l];exact rel.val k)
  obtain ⟨p,hp,hp2⟩:=Ε.mp hw
  refine wpAny_getItem_heap (f9 hu) (Zf I.hok eb) dd hp ?_
  rw [hp2]
  exact h w' _ (I.tok _) rw'
theorem d_in {Q:VSP}(hu:A.units+1 < aq) (I:Inv X pj σ H s) (g:DGet H a y o) (ry:RelV y u) (h:∀ s',Inv X pj σ H s'->Q (.bool o.isSome) s'):
  Λ (Χ X.prog X.w) A (ώ .In u (.ref a)) Q E s:=by
 rcases g with ⟨kvs,k,e,ey,l⟩ | ⟨kvs,k,b,e,ey,eb,l⟩
 ·subst ey
  obtain ⟨z,hd,vs,rel,dd⟩:=dk_rd I.hok e
  refine wpAny_in_of (kV_is ry) hd dd.mapOf ?_
  rw [<- (rel.val k).yP,<- l]
  exact h _ (I.tok _)
 ·subst ey
  cases (show u=Δ b from ry)
  obtain ⟨z,hd,xs,rel,dd⟩:=dt_rd I.hok e
  refine wpAny_in_heap (f9 hu) (Zf I.hok eb) hd dd ?_
  have q:=(rel.val k).yP
  rw [iK] at q
  rw [<- q,<- l]
  exact h _ (I.tok _)
theorem zci {Q:VSP}(hu:A.units+1 < aq) (I:Inv X pj σ H s) (g:DGet H a y o) (ry:RelV y u) (h:∀ s',Inv X pj σ H s'->Q (.bool (!o.isSome)) s'):
  Λ (Χ X.prog X.w) A (ώ .NotIn u (.ref a)) Q E s:=by
 rcases g with ⟨kvs,k,e,ey,l⟩ | ⟨kvs,k,b,e,ey,eb,l⟩
 ·subst ey
  obtain ⟨z,hd,vs,rel,dd⟩:=dk_rd I.hok e
  refine wpAny_notIn_of (kV_is ry) hd dd.mapOf ?_
  rw [<- (rel.val k).yP,<- l]
  exact h _ (I.tok _)
 ·subst ey
  cases (show u=Δ b from ry)
  obtain ⟨z,hd,xs,rel,dd⟩:=dt_rd I.hok e
  refine wpAny_notIn_heap (f9 hu) (Zf I.hok eb) hd dd ?_
  have q:=(rel.val k).yP
  rw [iK] at q
  rw [<- q,<- l]
  exact h _ (I.tok _)
theorem qb {h':Heap}{t':Nat}{ob:HO}(I:Inv X pj σ H s) (mu:Mut (H a)) (hs:ϛ a s.heap h') (he:∃ q,h'.get? a=some q) (new:ObjOk X.prog X.w (upd H a ob) h' a ob):
  Inv X pj σ (upd H a ob) { s with heap:=h',toks:=t' }:=
 I.write (x:=a) (e:=a) mu (.inl rfl) (fun b q hb z=>(hs.2 b hb).trans z) he new
theorem zaI {P:Ω}{w:ϥ}{H':Hp}{h':Heap}{kvs:List (Key×V)}{vs:List (Key×δ)}(z:kvs.length<=sizeLine) (hd:(a==bx)=false) (rel:KV kvs vs) (dd:h'.DictOf (zG P w) a vs):
  ObjOk P w H' h' a (.dK kvs):=⟨z,hd,vs,rel,dd⟩
theorem JS {H':Hp}{Q:Unit->ο->Prop}(hu:A.units+1 < aq) (I:Inv X pj σ H s) (g:DPut H a y v H') (ry:RelV y u) (rv:RelV v r) (h:∀ s',Inv X pj σ H' s'->Q () s'):
  Λ (Χ X.prog X.w) A (setItem (.ref a) u r) Q E s:=by
 rcases g with ⟨kvs,k,e,ey,l,eH⟩ | ⟨kvs,k,b,e,ey,eb,l,eH⟩
 ·subst ey eH
  obtain ⟨z,hd,vs,rel,dd⟩:=dk_of I.hok e
  have hz:vs.length<=sizeLine:=by rw [<- rel.length];exact z
  have hl:(putK kvs k v).length<=sizeLine:=by have:=xq kvs k v;lia
  refine wpAny_setItem_pairs (hsz:=hz) (kV_is ry) dd fun h' dd' hs=>h _ ?_
  have he:∃ q,h'.get? a=some q:=let ⟨q,_,_,hq,_⟩:=dd';⟨q,hq⟩
  exact qb I (by rw [e];exact ϳ) hs he (zaI hl hd (rel.put k rv) dd')
 ·subst ey eH
  cases (show u=Δ b from ry)
  obtain ⟨z,hd,xs,rel,dd⟩:=dt_of I.hok e
  have hz:xs.length<=sizeLine:=by rw [<- ir rel];exact z
  have hl:(putK kvs k v).length<=sizeLine:=by have:=xq kvs k v;lia
  refine wpAny_setItem_heap (hsz:=hz) (f9 hu) (Zf I.hok eb) dd fun h' dd' hs=>h _ ?_
  obtain ⟨q,es,ep,hq,h2,h3,h4,_,h5⟩:=dd'
  refine qb I (by rw [e];exact ϳ) hs ⟨q,hq⟩ ⟨hl,hd,_,(rel.put k eb rv).keeps fun c ys ec=>?_,q,es,ep,hq,h2,h3,h4,h5⟩
  rw [zb (ne_of ec e (fun z=>nomatch z))]
  exact ec
end
section
variable {X:Cx}{pj:List (Addr×Obj)}{σ:St}{H:Hp}{s:ο}{a:Addr}{kvs:List (Key×V)}{k:Key}{u:δ}{A:ϡ}{E:VSP}
theorem d_len {Q:VSP}(I:Inv X pj σ H s) (e:Rd H a (.dK kvs)) (h:∀ t s',Inv X pj σ H s'->Q (.int kvs.length t) s'):Λ (Χ X.prog X.w) A (call (.builtin "len") [.ref a]) Q E s:=by
 obtain ⟨z,hd,vs,rel,dd⟩:=dk_rd I.hok e
 refine call_len_dict hd dd (by rw [<- rel.length];rw [bu] at z;lia) ?_
 rw [<- rel.length]
 exact h _ _ (I.tok _)
end
theorem YW {X:Cx}{pj:List (Addr×Obj)}{σ:St}{H:Hp}{s:ο}{a:Addr}{y:V}{o:Option V}(I:Inv X pj σ H s) (g:DGet H a y o):s.TypeIs (.ref a) "dict":=by
 rcases g with ⟨kvs,k,e,_,_⟩ | ⟨kvs,k,b,e,_,_,_⟩
 ·obtain ⟨_,_,vs,_,dd⟩:=dk_rd I.hok e
  exact dd.typeIs
 ·obtain ⟨_,_,xs,_,dd⟩:=dt_rd I.hok e
  exact dd.typeIs
theorem Wr {P:Ω}{w:ϥ}{H:Hp}(h:Heap) (hb:bx < h.objs.size):ObjOk P w H (h.push { cls:=.type "dict",data:=.dict #[] }) h.objs.size (.dK []):=
 ⟨bF _,beq_eq_false_iff_ne.mpr (gh (ϋ hb)),[],.nil,Heap.DictOf.new h⟩
theorem QJ {P:Ω}{w:ϥ}{H:Hp}(h:Heap) (hb:bx < h.objs.size):ObjOk P w H (h.push { cls:=.type "dict",data:=.dict #[] }) h.objs.size (.dT []):=
 ⟨bF _,beq_eq_false_iff_ne.mpr (gh (ϋ hb)),[],.nil,_,#[],0,ω _ rfl,⟨rfl,rfl,rfl⟩,rfl,rfl,List.nodup_nil⟩
def zcO:TE:=fun _ H Q=>∀ p,H p=none->Q (.ref p) (upd H p (.dK []))
def zcN:TE:=fun _ H Q=>∀ p,H p=none->Q (.ref p) (upd H p (.dT []))
section
variable {X:Cx}{pos:Pos}
theorem Qa:PE X (.Dict [] [] pos) zcO:=fun pj s σ H Q I h=>
 wpAny_Dict_empty ⟨.ref s.heap.objs.size,_,I.laid (a:=s.heap.objs.size) (o:=.dK []) (t':=s.toks) (fun _ _ q=>ζ _ q) (ν _) (Wr s.heap I.big),rfl,h _ (I.hok.fresh (ν _))⟩
theorem K9:PE X (.Dict [] [] pos) zcN:=fun pj s σ H Q I h=>
 wpAny_Dict_empty ⟨.ref s.heap.objs.size,_,I.laid (a:=s.heap.objs.size) (o:=.dT []) (t':=s.toks) (fun _ _ q=>ζ _ q) (ν _) (QJ s.heap I.big),rfl,h _ (I.hok.fresh (ν _))⟩
end
def Xj:List (TE×TE)->St->Hp->(List (V×V)->Hp->Prop)->Prop
 | [],_,H,Q=>Q [] H
 | (tk,tv)::r,σ,H,Q=>tk σ H fun x H1=>tv σ H1 fun y H2=>Xj r σ H2 fun ps H3=>Q ((x,y)::ps) H3
abbrev VV:List (V×V)->List (δ×δ)->Prop:=cR fun p q=>RelV p.1 q.1/\RelV p.2 q.2
def PPs (X:Cx) (pos:Pos) (keys:List (Option Expr)) (values:List Expr) (trs:List (TE×TE)):Prop:=
 ∀ (pj:List (Addr×Obj)) (s:ο) (σ:St) (H:Hp) (Q:List (V×V)->Hp->Prop),Inv X pj σ H s->Xj trs σ H Q ->
  Λ (Χ X.prog X.w) X.A (evalPairs (pairTrees keys values X.env pos)) (fun vs s'=>∃ ps H',Inv X pj σ H' s'/\VV ps vs/\Q ps H') X.xe s
theorem zby {X:Cx}{pos:Pos}:PPs X pos [] [] []:=fun pj s σ H Q I h=>pairTrees_nil_walk ⟨[],H,I,.nil,h⟩
theorem K3 {X:Cx}{pos:Pos}{k v:Expr}{ks:List (Option Expr)}{vs:List Expr}{tk tv:TE}{trs:List (TE×TE)}(hk:PE X k tk) (hv:PE X v tv) (hr:PPs X pos ks vs trs):
  PPs X pos (some k::ks) (v::vs) ((tk,tv)::trs):=fun pj s σ H Q I h=>
 pairTrees_cons_walk (thn (hk pj s σ H _ I h) fun u s1 ⟨x,H1,I1,rx,q1⟩=>thn (hv pj s1 σ H1 _ I1 q1) fun w2 s2 ⟨y,H2,I2,ry,q2⟩=>
  thn (hr pj s2 σ H2 _ I2 q2) fun ws s3 ⟨ps,H3,I3,rel,q3⟩=>⟨(x,y)::ps,H3,I3,.cons ⟨rx,ry⟩ rel,q3⟩)
noncomputable def wQ (kvs more:List (Key×V)):List (Key×V):=more.foldl (fun acc kv=>putK acc kv.1 kv.2) kvs
theorem KV.merge:∀ {more:List (Key×V)}{rs:List (Key×δ)}{kvs:List (Key×V)}{vs:List (Key×δ)},KV more rs->KV kvs vs->KV (wQ kvs more) (merged vs rs):=by
 intro more rs kvs vs r
 unfold KV at r
 induction r generalizing kvs vs with
 | nil=>intro q;exact q
 | @cons p q ps qs h t ih=>
  intro r0
  have e:KV (putK kvs p.1 p.2) (stored vs q.1 q.2):=by
   have:=r0.put p.1 h.2
   rw [<- h.1];exact this
  exact ih e
theorem xV:∀ (more kvs:List (Key×V)),(wQ kvs more).length<=kvs.length+more.length
 | [],kvs=>by show kvs.length<=kvs.length+0;lia
 | p::r,kvs=>by
  have h1:=xV r (putK kvs p.1 p.2)
  have h2:=xq kvs p.1 p.2
  show (wQ (putK kvs p.1 p.2) r).length<=_
  rw [Ϟ];lia
theorem jx {P:Ω}{w:ϥ}:∀ {kvs:List (Key×V)}{ws:List (δ×δ)},VV (kvs.map fun kv=>(kV kv.1,kv.2)) ws->∃ rs,Carries (zG P w) ws rs/\KV kvs rs
 | [],_,r=>by rw [mW] at r;cases r;exact ⟨[],ϳ,.nil⟩
 | p::kvs,_,r=>by
  rw [Ρ] at r
  cases r with
  | @cons a b as bs h t=>
   obtain ⟨rs,c,q⟩:=jx (P:=P) (w:=w) t
   obtain ⟨b1,b2⟩:=b
   exact ⟨(p.1,b2)::rs,⟨kV_is h.1,rfl,c⟩,.cons ⟨rfl,h.2⟩ q⟩
def tDisp (trs:List (TE×TE)):TE:=fun σ H Q=>∀ p,H p=none->Xj trs σ (upd H p (.dK [])) fun ps H2=>H2 p=some (.dK [])/\∃ kvs:List (Key×V),ps=kvs.map (fun kv=>(kV kv.1,kv.2))/\kvs.length<=15/\Q (.ref p) (upd H2 p (.dK (wQ [] kvs)))
theorem zbD {X:Cx}{pos:Pos}{keys:List (Option Expr)}{values:List Expr}{trs:List (TE×TE)}(h:PPs X pos keys values trs) (hall:keys.all (·.isSome)=true) (hl:keys.length=values.length) (h0:keys≠[])
  (h15:keys.length<=15):PE X (.Dict keys values pos) (tDisp trs):=by
 intro pj s σ H Q I q
 have hn:=I.hok.fresh (ν s.heap.objs.size)
 have I1:=I.laid (a:=s.heap.objs.size) (o:=.dK []) (h':=s.heap.push { cls:=.type "dict",data:=.dict #[] }) (t':=s.toks) (fun _ _ q=>ζ _ q) (ν _) (Wr s.heap I.big)
 refine wpAny_Dict_walk (knd:=zG X.prog X.w) hall hl h0 h15 (thn (h pj _ σ _ _ I1 (q _ hn)) fun ws s2 ⟨ps,H2,I2,rel,e,kvs,ep,lk,q2⟩=>?_)
 subst ep
 obtain ⟨rs,c,rk⟩:=jx (P:=X.prog) (w:=X.w) rel
 obtain ⟨z,hd,vs0,r0,dd⟩:=dk_of I2.hok e
 cases r0
 refine ⟨rs,c,dd,fun h' dd' hs=>⟨.ref s.heap.objs.size,_,?_,rfl,q2⟩⟩
 have hz:(wQ [] kvs).length<=sizeLine:=by
  have h1:=xV kvs []
  rw [dY] at h1
  rw [bu];lia
 have he:∃ q,h'.get? s.heap.objs.size=some q:=let ⟨q,_,_,hq,_⟩:=dd';⟨q,hq⟩
 exact qb I2 (by rw [e];exact ϳ) hs he (zaI hz hd (rk.merge .nil) dd')
def IsD (H:Hp) (a:Addr):Prop:=(∃ kvs,Rd H a (.dK kvs))\/∃ kvs,Rd H a (.dT kvs)
theorem PE.imp {X:Cx}{e:Expr}{t t':TE}(h:PE X e t) (i:∀ σ H Q,t' σ H Q->t σ H Q):PE X e t':=fun pj s σ H Q I q=>h pj s σ H Q I (i σ H Q q)
theorem PT.imp {X:Cx}{e:Expr}{t t':TT}(h:PT X e t) (i:∀ σ H Q,t' σ H Q->t σ H Q):PT X e t':=fun pj s σ H Q I q=>h pj s σ H Q I (i σ H Q q)
theorem PA.imp {X:Cx}{e:List Expr}{t t':TA}(h:PA X e t) (i:∀ σ H Q,t' σ H Q->t σ H Q):PA X e t':=fun pos pj s σ H Q I q=>h pos pj s σ H Q I (i σ H Q q)
theorem PS.imp {X:Cx}{e:Stmt}{t t':TS}(h:PS X e t) (i:∀ D σ H,t' D σ H->t D σ H):PS X e t':=fun pj s σ H D I q=>h pj s σ H D I (i D σ H q)
theorem PSs.imp {X:Cx}{e:List Stmt}{t t':TS}(h:PSs X e t) (i:∀ D σ H,t' D σ H->t D σ H):PSs X e t':=fun pj s σ H D I q=>h pj s σ H D I (i D σ H q)
section
variable {fs ex:List Addr}{H H1:Hp}{h h1 h':Heap}{C:Addr}
theorem Un.sameBut (u:Un fs ex H H1 h h1) (sb:ϛ C h1 h') (hC:h.objs.size<=C):Un fs ex H H1 h h':=by
 have ne:∀ b o,h.get? b=some o->b≠C:=fun b o e=>ϋ (ϓ (χ e) hC)
 refine ⟨fun b o e n hb hx=>(sb.2 b (ne b o e)).trans (u.keep b o e n hb hx),fun b o e n hb hx=>?_,u.free,fun b o e hx=>?_,u.tups,u.frzs,u.tbls⟩
 ·obtain ⟨sl,q⟩:=u.slot b o e n hb hx
  exact ⟨sl,(sb.2 b (ne b o e)).trans q⟩
 ·obtain ⟨o',q⟩:=u.there b o e hx
  exact ⟨o',(sb.2 b (ne b o e)).trans q⟩
theorem HOk.sameBut {P:Ω}{w:ϥ}(x:HOk P w H h) (sb:ϛ C h h') (hC:H C=none):HOk P w H h':=fun b o e=>by
 refine (x b o e).stay (fun c v hc q=>(sb.2 c ?_).trans q) (fun _ q=>q) fun _ _ q=>q
 rintro rfl
 rcases hc with rfl | hc
 ·rw [hC] at e;cases e
 ·rw [hC] at hc;cases hc
end
noncomputable def rows (σ:St) (js:List Nat):St:=js.map fun j=>σ.getD j none
section
variable {X:Cx}
theorem Y0:CallR X (.builtin "isinstance") (fun xs H Q=>∃ x T t b,xs=[x,.ty T]/\TyOf X.K H x t/\W.kitOne X.K t (.type T)=some b/\Q (.bl b) H):=by
 intro pj s σ H vs us Q I rv h
 obtain ⟨x,T,t,b,rfl,ty,e,q⟩:=h
 obtain ⟨u,v,rfl,ru,rt⟩:=rv.two
 cases (show v=ϐ T from rt)
 exact Jm I ru ty e fun tk=>⟨.bl b,H,I.tok tk,rfl,q⟩
theorem zdI:OpR X (ώ .Is) (fun x y H Q=>∃ a b,x=.bl a/\y=.bl b/\Q (.bl (a==b)) H):=by
 intro pj s σ H x y v u Q I rx ry h
 obtain ⟨a,b,rfl,rfl,q⟩:=h
 cases rx
 cases ry
 exact is_bool (ZD I q rfl)
theorem zbK:OpR X (ώ .IsNot) (fun x y H Q=>∃ a b,x=.bl a/\y=.bl b/\Q (.bl (a != b)) H):=by
 intro pj s σ H x y v u Q I rx ry h
 obtain ⟨a,b,rfl,rfl,q⟩:=h
 cases rx
 cases ry
 exact isnot_bool (ZD I q rfl)
def CDivW (_ j:Int):Prop:=0 < j/\j < 2 ^ 64
theorem Qg:OpR X (bA .FloorDiv) (rI CDivW fun i j=>.int (i / j)):=opI fun i j _ _ _ _ _ hc q=>by
 have e:i.fdiv j=i / j:=Int.fdiv_eq_ediv_of_nonneg _ (Int.le_of_lt hc.1)
 refine floordiv_int (by have:=hc.1;lia) (by rw [e];exact q) (.inl (PyProof.noPylong_of_log2 ?_))
 have h1:j.natAbs < 2 ^ 64:=by have:=hc.2;have:=hc.1;lia
 by_cases h0:j.natAbs=0
 ·rw [h0];decide
 ·have:=(Nat.log2_lt h0).mpr h1
  lia
theorem valsB:∀ {bs:List Bool}{us:List δ},Vals (bs.map V.bl) us->us=bs.map ύ
 | [],_,.nil=>rfl
 | b::bs,_,.cons r t=>by
  cases (show _=ύ b from r)
  rw [valsB t]
  rfl
theorem W3 (bs:List Bool):((ao bs.length).all fun i=>(bs[i]?).getD true)=bs.all id:=by
 rw [d7,dG,dG]
 constructor
 ·intro h b hb
  obtain ⟨i,hi,rfl⟩:=iG hb
  have:=h i (cu.mpr hi)
  simpa [ξ hi] using this
 ·intro h i hi
  have hi':=cu.mp hi
  have:=h _ (aY hi')
  simpa [ξ hi'] using this
theorem W2 (bs:List Bool):((ao bs.length).any fun i=>(bs[i]?).getD false)=bs.any id:=by
 rw [d7,dF,dF]
 constructor
 ·rintro ⟨i,hi,e⟩
  have hi':=cu.mp hi
  exact ⟨_,aY hi',by simpa [ξ hi'] using e⟩
 ·rintro ⟨b,hb,e⟩
  obtain ⟨i,hi,rfl⟩:=iG hb
  exact ⟨i,cu.mpr hi,by simpa [ξ hi] using e⟩
theorem zeD (hc:X.calm=true):CallR X (.builtin "all") (fun xs H Q=>∃ (p:Addr) (bs:List Bool),xs=[.ref p]/\SqL X.K H p (bs.map V.bl)/\Q (.bl (bs.all id)) H):=by
 intro pj s σ H vs us Q I rv h
 obtain ⟨p,bs,rfl,hq,q⟩:=h
 obtain ⟨u,rfl,ru⟩:=rv.one
 cases (show u=Δ p from ru)
 obtain ⟨its,rv,hp,hz⟩:=I.list hq
 obtain rfl:=valsB rv
 have hl:=hp.isList
 have hlt:p < s.heap.objs.size:=by obtain ⟨_,e,_⟩:=hl;exact χ e
 have hh:X.A.handled=none:=I.ok.hd hc
 refine call_all_walk (gm hl ?_)
 refine ⟨s.heap.objs.size,[s.heap.objs.size,p],[s.heap.objs.size],(bs.map ύ).toArray.size,_,_,fun i=>(bs[i]?).getD true,rfl,Walks.list (A:=X.A.in1) hh _ p (ϋ hlt) (bs.map ύ).toArray,
  ⟨⟨_,ω _ rfl,rfl,rfl⟩,hl.push _⟩,fun i v s' Q' E' hP hQ=>?_,fun h' tk hk=>?_⟩
 ·have hP':(bs.map ύ)[i]?=some v:=by simpa using hP
  rw [Μ] at hP'
  cases e:bs[i]? with
  | none=>rw [e] at hP';cases hP'
  | some b=>
   rw [e] at hP'
   cases hP'
   simp only [e,nO] at hQ
   exact ϲ hQ
 ·have e:((ao (bs.map ύ).toArray.size).all fun i=>(bs[i]?).getD true)=bs.all id:=by
   rw [θ,Ζ];exact W3 bs
  rw [e]
  exact ⟨.bl _,H,I.kept (mR hk),rfl,q⟩
theorem QS (hc:X.calm=true):CallR X (.builtin "any") (fun xs H Q=>∃ (p:Addr) (bs:List Bool),xs=[.ref p]/\SqL X.K H p (bs.map V.bl)/\Q (.bl (bs.any id)) H):=by
 intro pj s σ H vs us Q I rv h
 obtain ⟨p,bs,rfl,hq,q⟩:=h
 obtain ⟨u,rfl,ru⟩:=rv.one
 cases (show u=Δ p from ru)
 obtain ⟨its,rv,hp,hz⟩:=I.list hq
 obtain rfl:=valsB rv
 have hl:=hp.isList
 have hlt:p < s.heap.objs.size:=by obtain ⟨_,e,_⟩:=hl;exact χ e
 have hh:X.A.handled=none:=I.ok.hd hc
 refine call_any_walk (gm hl ?_)
 refine ⟨s.heap.objs.size,[s.heap.objs.size,p],[s.heap.objs.size],(bs.map ύ).toArray.size,_,_,fun i=>(bs[i]?).getD false,rfl,Walks.list (A:=X.A.in1) hh _ p (ϋ hlt) (bs.map ύ).toArray,
  ⟨⟨_,ω _ rfl,rfl,rfl⟩,hl.push _⟩,fun i v s' Q' E' hP hQ=>?_,fun h' tk hk=>?_⟩
 ·have hP':(bs.map ύ)[i]?=some v:=by simpa using hP
  rw [Μ] at hP'
  cases e:bs[i]? with
  | none=>rw [e] at hP';cases hP'
  | some b=>
   rw [e] at hP'
   cases hP'
   simp only [e,nO] at hQ
   exact ϲ hQ
 ·have e:((ao (bs.map ύ).toArray.size).any fun i=>(bs[i]?).getD false)=bs.any id:=by
   rw [θ,Ζ];exact W2 bs
  rw [e]
  exact ⟨.bl _,H,I.kept (mR hk),rfl,q⟩
theorem Us {CX:CXT}{k:Nat}{f:Addr}{fd:aN}{ps ks:List Str}{sp:Sp}{E:XK}{x:Str}{p pos:Pos}{kws:List bh}{tk:TA}{g:List δ->List δ->List δ}{gV:List V->List V->List V}
  (F:FnOk X.prog X.w X.K X.mg X.base CX k f fd ps sp) (hr:Room k X.A) (hg:Gl X x) (hm:X.mg x=some (.ref f)) (hk:W.keepIn X.K (.ref f)=true) (hb:Kf X.K fd ps ks g gV) (hx:Z9 CX X E)
  (hkw:PK X kws tk) (hall:(b8 pos (aK kws X.env)).all (·.1.isSome)=true:=by rfl) (hks:(b8 pos (aK kws X.env)).filterMap (·.1)=ks:=by rfl)
  (hdb:(x==("__debug__":Str))=false:=by decide) (hpl:((fc pos (Ϩ [] X.env)).any (·.1)||(b8 pos (aK kws X.env)).any (·.1.isNone))=false:=by rfl):
  PE X (.Call (.Name x p) [] kws pos) (zcP sp gV E tNil tk):=by
 intro pj s σ H Q I h
 refine fZ (YF I hg hm ?_ hdb)
 refine W.callWith_KW0 (h₀:=X.base) I.ok.mod.kin hk hall (thn (hkw pos pj s σ H _ I h) fun ws s2 ⟨zs,H2,I2,rz,q2⟩=>⟨I2.kIn,?_⟩) hpl
 rw [hks]
 exact zbe (us:=[]) (vs:=[]) F hr hb hx I2 .nil rz q2
end
end L2
namespace HT
open PySem PyProof.Rows
open PySem.SeqAt
open PySem.AutoSeq1 (wpAny_loadPart')
open PySem.MeetsSeq PySem.MeetsSeq2 PySem.MeetsSeq3
section
variable {prog:Ω}{w:ϥ}{A:ϡ}{E:δ->ο->Prop}{s:ο}
theorem QR {t b:Addr}{ws:List δ}{Q:δ->ο->Prop}(ht:IsTup s.heap t ([]:List δ).toArray) (hb:IsTup s.heap b ws.toArray)
  (h:Q (.ref b) s):Λ (Χ prog w) A (bA .Add (.ref t) (.ref b)) Q E s:=by
 obtain ⟨⟨cls,dd,data,sl⟩,ho,hc,n,hd⟩:=id ht
 obtain ⟨⟨cls2,dd2,data2,sl2⟩,ho2,hc2,n2,hd2⟩:=id hb
 simp only at hc hd hc2 hd2
 subst hc hd hc2 hd2
 exact nW ⟨_,ho,rfl⟩ ⟨_,ho2,rfl⟩ lV nF gf fM (fj _ _)
   (tuple_addW0 t b ([]:List δ).toArray ws.toArray n n2 dd dd2 sl sl2 (by simp)) ⟨ho,ho2,h⟩
theorem xr {t sl:Addr}{items:Array δ}{vl vu:δ}{lo hi:Option Int}{Q:δ->ο->Prop}(ht:IsTup s.heap t items) (hs:s.heap.IsSliceOf sl vl vu .none) (pl:iw vl lo) (pu:iw vu hi)
  (hw:sIx items.size 0 lo=0/\sIx items.size items.size hi=items.size) (h:Q (.ref t) s):Λ (Χ prog w) A (iW (.ref t) (.ref sl)) Q E s:=by
 obtain ⟨os,hos,hcs,hds⟩:=id hs
 have hTs:s.TypeIs (.ref sl) "slice":=⟨os,hos,hcs⟩
 unfold iW
 try with_reducible refine bj ?_
 first | refine γ (η ?_) | skip
 refine γ (wpAny_sequenceKey ht.typeIs (by decide) ?_)
 refine γ (Ϡ (name:=eV "__getitem__") ht.typeIs ϭ
  (Ϙ ϭ ht.typeIs entry_tuple_getitem ?_ (args_tuple_getitem _ _)))
 show Λ _ _ (iH (.ref t) >>= _) _ _ s
 refine γ (tupleItemsOf_ ht ?_)
 refine γ (fK hTs ?_)
 rw [if_pos (by decide)]
 refine γ (yG hs pl pu ?_)
 have hyes:(((sIx items.size 0 lo:Nat):Int)==0&&(1:Int)==1&&(sIx items.size items.size hi - sIx items.size 0 lo)==items.size)=true:=by
  rw [hw.1,hw.2]
  simp
 show Λ _ _ (if (((sIx items.size 0 lo:Nat):Int)==0&&(1:Int)==1&&(sIx items.size items.size hi - sIx items.size 0 lo)==items.size)=true then _ else _) _ _ s
 rw [if_pos hyes]
 unfold Φ.Tuple.tupleIsExact
 first
  | (refine γ (γ (fK ht.typeIs (η ?_)));rw [if_pos (by decide)];exact γ (bw (η ⟨_,rfl,η h⟩)))
  | (refine γ (γ (fK ht.typeIs (η ?_)));rw [if_pos (by decide)];exact γ (bw (γ (η (η ⟨_,rfl,η h⟩)))))
  | (refine γ (γ (γ (fK ht.typeIs (η ?_))));rw [if_pos (by decide)];exact γ (bw (η (η ⟨_,rfl,η h⟩))))
  | (refine γ (γ (fK ht.typeIs (η ?_)));rw [if_pos (by decide)];trace_state;done)
end
end HT
namespace L2
open PySem PySem.Spec PyProof.Rows
section
variable {X:Cx}
def zdh (K:W.Frag):R2:=fun x y H Q=>∃ a b ys,x=.ref a/\y=.ref b/\SqT K H a []/\SqT K H b ys/\Q (.ref b) H
theorem Qh:OpR X (bA .Add) (zdh X.K):=by
 intro pj s σ H x y v u Q I rx ry h
 obtain ⟨a,b,ys,rfl,rfl,ha,hb,q⟩:=h
 cases rx
 cases ry
 obtain ⟨its,r1,p1,_⟩:=I.tuple ha
 obtain ⟨its2,r2,p2,_⟩:=I.tuple hb
 cases r1
 exact HT.QR p1 p2 ⟨.ref b,H,I,rfl,q⟩
def rSlW (K:W.Frag):V->Option Int->Option Int->Hp->VK->Prop:=fun x lo hi H Q=>∃ a xs,x=.ref a/\SqT K H a xs/\(HT.sIx xs.length 0 lo=0/\HT.sIx xs.length xs.length hi=xs.length)/\Q (.ref a) H
theorem za4:SlR X (rSlW X.K):=by
 intro pj s σ H x v vl vu lo hi sl Q I rx hs pl pu h
 obtain ⟨a,xs,rfl,hx,hw,q⟩:=h
 cases rx
 obtain ⟨its,r,ht,hz⟩:=I.tuple hx
 have hlen:its.toArray.size=xs.length:=by rw [θ];exact r.length.symm
 refine ⟨"tuple",_,ϭ.lookup,ht.typeIs,?_⟩
 exact HT.xr ht hs pl pu (by rw [hlen];exact hw) ⟨.ref a,H,I,rfl,q⟩
end
end L2
namespace EV
open PySem PySem.Spec PyProof.Rows L2
inductive D where
 | non | bl (b:Bool) | int (i:Int) | str (x:Str)
 | tup (ds:List D) | lst (ds:List D)
 | dK (ks:List Key) (ds:List D) | dT (ks:List (List Key)) (ds:List D)
 | ref (k:Nat) | fn (f:Nat) | scr (ns:List Int) | ktp (ds:List D)
 deriving Inhabited
noncomputable abbrev Store:=List D
structure Gm where
 K:W.Frag
 fa:Nat->Option Addr
 ca:Nat->Option Addr
structure G where
 R:Hp
 α:List Addr
def KTup (K:W.Frag) (a:Addr) (xs:List V):Prop:=∃ (o:Obj) (its:Array δ) (n:Nat),K.lookup a=some o/\o.cls=.type "tuple"/\o.data=.seq its n/\its.size<=sizeLine/\Vals xs its.toList
mutual
def Has (Γ:Gm) (g:G):D->V->Prop
 | .non,v=>v=.non
 | .bl b,v=>v=.bl b
 | .int i,v=>v=.int i
 | .str x,v=>v=.str x
 | .tup ds,v=>∃ a vs,v=.ref a/\g.R a=some (.tup vs)/\Hass Γ g ds vs
 | .lst ds,v=>∃ a vs,v=.ref a/\g.R a=some (.lst vs)/\Hass Γ g ds vs
 | .dK ks ds,v=>∃ a vs,v=.ref a/\g.R a=some (.dK (ks.zip vs))/\ks.length=ds.length/\Hass Γ g ds vs
 | .dT ks ds,v=>∃ a vs,v=.ref a/\g.R a=some (.dT (ks.zip vs))/\ks.length=ds.length/\Hass Γ g ds vs
 | .ref k,v=>∃ a,g.α[k]?=some a/\v=.ref a
 | .fn f,v=>∃ a,Γ.fa f=some a/\v=.ref a
 | .scr ns,v=>∃ a,v=.ref a/\SqL Γ.K g.R a (ns.map V.int)
 | .ktp ds,v=>∃ a vs,v=.ref a/\KTup Γ.K a vs/\Hass Γ g ds vs
def Hass (Γ:Gm) (g:G):List D->List V->Prop
 | [],vs=>vs=[]
 | d::ds,vs=>∃ v r,vs=v::r/\Has Γ g d v/\Hass Γ g ds r
end
structure Le (g g':G):Prop where
 rr:Same g.R g'.R
 aa:∀ (k:Nat) (a:Addr),g.α[k]?=some a->g'.α[k]?=some a
theorem Le.refl (g:G):Le g g:=⟨Same.refl _,fun _ _ h=>h⟩
theorem Le.trans {g g1 g2:G}(a:Le g g1) (b:Le g1 g2):Le g g2:=⟨a.rr.trans b.rr,fun k c h=>b.aa k c (a.aa k c h)⟩
theorem Same.rd {H H':Hp}{a:Addr}{u:HO}(e:Same H H') (h:Rd H a u):Rd H' a u:=by
 rcases h with h | ⟨o,h⟩
 ·exact .inl (e _ _ h)
 ·exact .inr ⟨o,e _ _ h⟩
mutual
theorem Wh {Γ:Gm}{g g':G}(e:Le g g'):∀ (d:D) (v:V),Has Γ g d v->Has Γ g' d v
 | .non,_,h=>h
 | .bl _,_,h=>h
 | .int _,_,h=>h
 | .str _,_,h=>h
 | .tup ds,_,⟨a,vs,h1,h2,h3⟩=>⟨a,vs,h1,e.rr _ _ h2,yf e ds vs h3⟩
 | .lst ds,_,⟨a,vs,h1,h2,h3⟩=>⟨a,vs,h1,e.rr _ _ h2,yf e ds vs h3⟩
 | .dK ks ds,_,⟨a,vs,h1,h2,h4,h3⟩=>⟨a,vs,h1,e.rr _ _ h2,h4,yf e ds vs h3⟩
 | .dT ks ds,_,⟨a,vs,h1,h2,h4,h3⟩=>⟨a,vs,h1,e.rr _ _ h2,h4,yf e ds vs h3⟩
 | .ref k,_,⟨a,h1,h2⟩=>⟨a,e.aa _ _ h1,h2⟩
 | .fn f,_,h=>h
 | .scr _,_,⟨a,h1,h2⟩=>⟨a,h1,e.rr.seq h2⟩
 | .ktp ds,_,⟨a,vs,h1,h2,h3⟩=>⟨a,vs,h1,h2,yf e ds vs h3⟩
theorem yf {Γ:Gm}{g g':G}(e:Le g g'):∀ (ds:List D) (vs:List V),Hass Γ g ds vs->Hass Γ g' ds vs
 | [],_,h=>h
 | d::ds,_,⟨v,r,h1,h2,h3⟩=>⟨v,r,h1,Wh e d v h2,yf e ds r h3⟩
end
theorem Has.mono {Γ:Gm}{g g':G}{d:D}{v:V}(h:Has Γ g d v) (e:Le g g'):Has Γ g' d v:=Wh e d v h
theorem Hass.mono {Γ:Gm}{g g':G}{d:List D}{v:List V}(h:Hass Γ g d v) (e:Le g g'):Hass Γ g' d v:=yf e d v h
section
variable {Γ:Gm}{g:G}
theorem Hass.len:∀ {ds:List D}{vs:List V},Hass Γ g ds vs->vs.length=ds.length
 | [],_,h=>by cases (show _=[] from h);rfl
 | d::ds,_,⟨v,r,h1,_,h3⟩=>by subst h1;simp [Hass.len h3]
theorem Hass.get:∀ {ds:List D}{vs:List V}{i:Nat}{d:D},Hass Γ g ds vs->ds[i]?=some d->∃ v,vs[i]?=some v/\Has Γ g d v
 | [],_,_,_,_,e=>by simp at e
 | d::ds,_,0,_,⟨v,r,h1,h2,_⟩,e=>by subst h1;simp at e;subst e;exact ⟨v,rfl,h2⟩
 | d::ds,_,i+1,_,⟨v,r,h1,_,h3⟩,e=>by
  subst h1
  obtain ⟨u,q,hu⟩:=Hass.get (i:=i) h3 (by simpa using e)
  exact ⟨u,by simpa using q,hu⟩
theorem Hass.of:∀ {ds:List D}{vs:List V},vs.length=ds.length->(∀ (i:Nat) (d:D) (v:V),ds[i]?=some d->vs[i]?=some v->Has Γ g d v)->Hass Γ g ds vs
 | [],[],_,_=>rfl
 | d::ds,v::vs,hl,h=>⟨v,vs,rfl,h 0 d v rfl rfl,Hass.of (by simpa using hl) fun i d v e1 e2=>h (i+1) d v (by simpa using e1) (by simpa using e2)⟩
 | [],_::_,hl,_=>by simp at hl
 | _::_,[],hl,_=>by simp at hl
theorem Hass.one {d:D}{vs:List V}(h:Hass Γ g [d] vs):∃ v,vs=[v]/\Has Γ g d v:=by
 obtain ⟨v,r,e,hd,hr⟩:=h
 cases (show r=[] from hr)
 exact ⟨v,e,hd⟩
theorem Hass.two {d e:D}{vs:List V}(h:Hass Γ g [d,e] vs):∃ v u,vs=[v,u]/\Has Γ g d v/\Has Γ g e u:=by
 obtain ⟨v,r,e1,hd,hr⟩:=h
 obtain ⟨u,e2,he⟩:=Hass.one hr
 subst e2
 exact ⟨v,u,e1,hd,he⟩
theorem Hass.mk1 {d:D}{v:V}(h:Has Γ g d v):Hass Γ g [d] [v]:=⟨v,[],rfl,h,rfl⟩
theorem Hass.app:∀ {ds es:List D}{vs us:List V},Hass Γ g ds vs->Hass Γ g es us->Hass Γ g (ds++es) (vs++us)
 | [],_,_,_,h,k=>by cases (show _=[] from h);exact k
 | d::ds,_,_,_,⟨v,r,h1,h2,h3⟩,k=>by subst h1;exact ⟨v,_,rfl,h2,Hass.app h3 k⟩
theorem Hass.drop {ds:List D}{vs:List V}(n:Nat) (h:Hass Γ g ds vs):Hass Γ g (ds.drop n) (vs.drop n):=by
 refine Hass.of (by rw [dD,dD,h.len]) fun i d v e1 e2=>?_
 rw [nR] at e1 e2
 obtain ⟨u,q,hu⟩:=h.get e1
 rw [q] at e2
 cases e2
 exact hu
theorem Hass.take {ds:List D}{vs:List V}(n:Nat) (h:Hass Γ g ds vs):Hass Γ g (ds.take n) (vs.take n):=by
 refine Hass.of (by rw [aA,aA,h.len]) fun i d v e1 e2=>?_
 rw [List.getElem?_take] at e1 e2
 split at e1
 ·rename_i hi
  rw [if_pos hi] at e2
  obtain ⟨u,q,hu⟩:=h.get e1
  rw [q] at e2
  cases e2
  exact hu
 ·cases e1
theorem Hass.set {ds:List D}{vs:List V}{d:D}{v:V}(n:Nat) (h:Hass Γ g ds vs) (hd:Has Γ g d v):Hass Γ g (ds.set n d) (vs.set n v):=by
 refine Hass.of (by rw [bB,bB,h.len]) fun i d' v' e1 e2=>?_
 rw [List.getElem?_set] at e1 e2
 split at e1
 ·rename_i hi
  rw [if_pos hi] at e2
  split at e1
  ·split at e2
   ·cases e1;cases e2;exact hd
   ·cases e2
  ·cases e1
 ·rename_i hi
  rw [if_neg hi] at e2
  obtain ⟨u,q,hu⟩:=h.get e1
  rw [q] at e2
  cases e2
  exact hu
theorem Hass.ints:∀ {ns:List Int},Hass Γ g (ns.map D.int) (ns.map V.int)
 | []=>rfl
 | _::_=>⟨_,_,rfl,rfl,Hass.ints⟩
end
def MutF:HO->Prop
 | .frz _ _=>True
 | o=>Mut (some o)
def zJ (Γ:Gm) (H:Hp) (g:G) (a:Addr):D->Prop
 | .lst ds=>∃ vs,H a=some (.lst vs)/\Hass Γ g ds vs
 | .dK ks ds=>∃ vs,H a=some (.dK (ks.zip vs))/\ks.length=ds.length/\Hass Γ g ds vs
 | .dT ks ds=>∃ vs,H a=some (.dT (ks.zip vs))/\ks.length=ds.length/\Hass Γ g ds vs
 | .ref _=>∃ o,g.R a=some o/\H a=some o/\MutF o
 | _=>False
noncomputable def gone:D->Bool
 | .ref _=>true
 | _=>false
theorem zJ.mono {Γ:Gm}{H H':Hp}{g g':G}{a:Addr}{c:D}(h:zJ Γ H g a c) (e:Le g g') (hh:∀ o,H a=some o->H' a=some o):zJ Γ H' g' a c:=by
 cases c with
 | lst ds=>obtain ⟨vs,h1,h2⟩:=h;exact ⟨vs,hh _ h1,h2.mono e⟩
 | dK ks ds=>obtain ⟨vs,h1,h3,h2⟩:=h;exact ⟨vs,hh _ h1,h3,h2.mono e⟩
 | dT ks ds=>obtain ⟨vs,h1,h3,h2⟩:=h;exact ⟨vs,hh _ h1,h3,h2.mono e⟩
 | non=>exact h
 | bl=>exact h
 | int=>exact h
 | str=>exact h
 | tup=>exact h
 | ref=>obtain ⟨o,h1,h2,h3⟩:=h;exact ⟨o,e.rr _ _ h1,hh _ h2,h3⟩
 | fn=>exact h
 | scr=>exact h
 | ktp=>exact h
theorem zJ.isMut {Γ:Gm}{H:Hp}{g:G}{a:Addr}{c:D}(h:zJ Γ H g a c):∃ o,H a=some o/\MutF o:=by
 cases c with
 | lst ds=>obtain ⟨vs,h1,h2⟩:=h;exact ⟨_,h1,ϳ⟩
 | dK ks ds=>obtain ⟨vs,h1,h3,h2⟩:=h;exact ⟨_,h1,ϳ⟩
 | dT ks ds=>obtain ⟨vs,h1,h3,h2⟩:=h;exact ⟨_,h1,ϳ⟩
 | non=>exact h.elim
 | bl=>exact h.elim
 | int=>exact h.elim
 | str=>exact h.elim
 | tup=>exact h.elim
 | ref=>obtain ⟨o,h1,h2,h3⟩:=h;exact ⟨o,h2,h3⟩
 | fn=>exact h.elim
 | scr=>exact h.elim
 | ktp=>exact h.elim
structure WOk (Γ:Gm) (H:Hp) (g:G) (S:Store):Prop where
 rh:Same g.R H
 len:g.α.length=S.length
 nd:g.α.Nodup
 off:∀ (k:Nat) (c:D) (a:Addr),S[k]?=some c->g.α[k]?=some a->gone c=false->g.R a=none
 cell:∀ (k:Nat) (c:D) (a:Addr),S[k]?=some c->g.α[k]?=some a->zJ Γ H g a c
structure Step (H:Hp) (g:G) (H':Hp) (g':G):Prop where
 le:Le g g'
 fr:∀ a o,H a=some o->a ∉ g.α->H' a=some o
 ex:∀ a o,H a=some o->∃ o',H' a=some o'
 na:∀ a∈g'.α,a∈g.α\/H a=none
 nr:∀ a,g'.R a≠none->g.R a≠none\/H a=none\/a∈g.α\/∃ xs,H a=some (.tup xs)
theorem Step.refl (H:Hp) (g:G):Step H g H g:=⟨Le.refl g,fun _ _ h _=>h,fun _ o h=>⟨o,h⟩,fun _ h=>.inl h,fun _ h=>.inl h⟩
theorem Step.XQ {H H':Hp}{g g':G}(s:Step H g H' g') {a:Addr}(h:H' a=none):H a=none:=by
 cases q:H a with
 | none=>rfl
 | some o=>
  obtain ⟨o',e⟩:=s.ex a o q
  rw [e] at h;cases h
theorem Step.trans {H H1 H2:Hp}{g g1 g2:G}(a:Step H g H1 g1) (b:Step H1 g1 H2 g2):Step H g H2 g2 where
 le:=a.le.trans b.le
 fr:=fun x o h n=>b.fr x o (a.fr x o h n) fun m=>by
  rcases a.na x m with q | q
  ·exact n q
  ·rw [h] at q;cases q
 ex:=fun x o h=>let ⟨o1,h1⟩:=a.ex x o h;b.ex x o1 h1
 na:=fun x m=>by
  rcases b.na x m with q | q
  ·exact a.na x q
  ·exact .inr (a.XQ q)
 nr:=fun x m=>by
  rcases b.nr x m with q | q | q | ⟨xs,q⟩
  ·exact a.nr x q
  ·exact .inr (.inl (a.XQ q))
  ·rcases a.na x q with q | q
   ·exact .inr (.inr (.inl q))
   ·exact .inr (.inl q)
  ·by_cases hx:x∈g.α
   ·exact .inr (.inr (.inl hx))
   ·cases e:H x with
    | none=>exact .inr (.inl rfl)
    | some o=>
     have:=a.fr x o e hx
     rw [q] at this
     cases this
     exact .inr (.inr (.inr ⟨xs,rfl⟩))
theorem Step.of_same {H H':Hp}{g g':G}(s:Same H H') (le:Le g g') (na:∀ a∈g'.α,a∈g.α\/H a=none) (nr:∀ a,g'.R a≠none->g.R a≠none\/H a=none):Step H g H' g':=
 ⟨le,fun a o h _=>s a o h,fun a o h=>⟨o,s a o h⟩,na,fun a h=>(nr a h).imp id .inl⟩
def VOk (Γ:Gm) (H:Hp) (d:D) (fr:Bool) (v:V) (H':Hp) (g':G):Prop:=
 if fr=true then ∃ a,v=.ref a/\H a=none/\g'.R a=none/\a ∉ g'.α/\zJ Γ H' g' a d else Has Γ g' d v
noncomputable def G.put (g:G) (a:Addr) (o:HO):G:={ g with R:=upd g.R a o }
noncomputable def G.cell (g:G) (a:Addr):G:={ g with α:=g.α++[a] }
theorem Le.put {g:G}{a:Addr}{o:HO}(h:g.R a=none):Le g (g.put a o):=⟨fun b u q=>by
 show upd g.R a o b=some u
 rw [zb (zc q h)];exact q,fun _ _ q=>q⟩
theorem Le.cell {g:G}{a:Addr}:Le g (g.cell a):=⟨Same.refl _,fun k b q=>by
 show (g.α++[a])[k]?=some b
 rw [Υ (Η.mp q).1];exact q⟩
section
variable {Γ:Gm}{H H':Hp}{g g':G}{S:Store}{d:D}{v:V}{a:Addr}
theorem WOk.put {o:HO}(w:WOk Γ H g S) (h:H a=some o) (hn:g.R a=none) (ha:a ∉ g.α):WOk Γ H (g.put a o) S where
 rh:=fun b u q=>by
  by_cases hb:b=a
  ·subst hb
   have q':upd g.R b o b=some u:=q
   rw [zf] at q'
   cases q'
   exact h
  ·have q':upd g.R a o b=some u:=q
   rw [zb hb] at q'
   exact w.rh b u q'
 len:=w.len
 nd:=w.nd
 off:=fun k c b h1 h2 h3=>by
  show upd g.R a o b=none
  have hne:b≠a:=by
   rintro rfl
   exact ha (Ϝ h2)
  rw [zb hne]
  exact w.off k c b h1 h2 h3
 cell:=fun k c b h1 h2=>(w.cell k c b h1 h2).mono (Le.put hn) fun _ q=>q
theorem Step.put {o:HO}(s:Step H g H' g') (hn:g'.R a=none) (h:H a=none):Step H g H' (g'.put a o) where
 le:=s.le.trans (Le.put hn)
 fr:=s.fr
 ex:=s.ex
 na:=s.na
 nr:=fun b q=>by
  by_cases hb:b=a
  ·subst hb;exact .inr (.inl h)
  ·have q':upd g'.R a o b≠none:=q
   rw [zb hb] at q'
   exact s.nr b q'
theorem jo {o:HO}(hn:g.R a=none) (ho:H a=some o) (h:zJ Γ H g a d):Has Γ (g.put a o) d (.ref a):=by
 have le:Le g (g.put a o):=Le.put hn
 have hr:(g.put a o).R a=some o:=zf
 cases d with
 | lst ds=>obtain ⟨vs,h1,h2⟩:=h;rw [h1] at ho;cases ho;exact ⟨a,vs,rfl,hr,h2.mono le⟩
 | dK ks ds=>obtain ⟨vs,h1,h3,h2⟩:=h;rw [h1] at ho;cases ho;exact ⟨a,vs,rfl,hr,h3,h2.mono le⟩
 | dT ks ds=>obtain ⟨vs,h1,h3,h2⟩:=h;rw [h1] at ho;cases ho;exact ⟨a,vs,rfl,hr,h3,h2.mono le⟩
 | non=>exact h.elim
 | bl=>exact h.elim
 | int=>exact h.elim
 | str=>exact h.elim
 | tup=>exact h.elim
 | ref=>obtain ⟨o,h1,_⟩:=h;rw [hn] at h1;cases h1
 | fn=>exact h.elim
 | scr=>exact h.elim
 | ktp=>exact h.elim
@[simp] noncomputable def isIns:D->Bool:=fun _=>false
theorem freeze {fr:Bool}(s:Step H g H' g') (w:WOk Γ H' g' S) (h:VOk Γ H d fr v H' g') (hi:isIns d=false):∃ g2,Step H g H' g2/\WOk Γ H' g2 S/\Has Γ g2 d v/\Le g' g2:=by
 cases fr with
 | false=>exact ⟨g',s,w,h,Le.refl _⟩
 | true=>
  obtain ⟨a,rfl,h0,hn,ha,hc⟩:=(show ∃ a,v=.ref a/\H a=none/\g'.R a=none/\a ∉ g'.α/\zJ Γ H' g' a d from h)
  obtain ⟨o,ho,_⟩:=hc.isMut
  exact ⟨g'.put a o,s.put hn h0,w.put ho hn ha,jo hn ho hc,Le.put hn⟩
theorem boxed (s:Step H g H' g') (w:WOk Γ H' g' S) (h:VOk Γ H d true v H' g'):∃ g2,Step H g H' g2/\WOk Γ H' g2 (S++[d])/\Has Γ g2 (.ref S.length) v:=by
 obtain ⟨a,rfl,h0,hn,ha,hc⟩:=(show ∃ a,v=.ref a/\H a=none/\g'.R a=none/\a ∉ g'.α/\zJ Γ H' g' a d from h)
 refine ⟨g'.cell a,⟨s.le.trans Le.cell,s.fr,s.ex,fun b hb=>?_,s.nr⟩,⟨w.rh,?_,?_,fun k c b h1 h2 h3=>?_,fun k c b h1 h2=>?_⟩,a,?_,rfl⟩
 ·rcases Τ.mp hb with q | q
  ·exact s.na b q
  ·rw [Θ.mp q];exact .inr h0
 ·show (g'.α++[a]).length=(S++[d]).length
  simp [w.len]
 ·show (g'.α++[a]).Nodup
  exact nd_snocA w.nd ha
 ·have h2':(g'.α++[a])[k]?=some b:=h2
  by_cases hk:k < S.length
  ·rw [Υ hk] at h1
   rw [Υ (by rw [w.len];exact hk)] at h2'
   exact w.off k c b h1 h2' h3
  ·rw [ϒ (by rw [w.len];lia)] at h2'
   have:=Ϝ h2'
   rw [Θ.mp this];exact hn
 ·have h2':(g'.α++[a])[k]?=some b:=h2
  by_cases hk:k < S.length
  ·rw [Υ hk] at h1
   rw [Υ (by rw [w.len];exact hk)] at h2'
   exact (w.cell k c b h1 h2').mono Le.cell fun _ q=>q
  ·rw [ϒ (by lia)] at h1
   rw [ϒ (by rw [w.len];lia)] at h2'
   have e0:k - S.length=0:=by
    cases q:k - S.length with
    | zero=>rfl
    | succ n=>rw [q] at h1;simp at h1
   rw [e0] at h1
   rw [w.len,e0] at h2'
   simp at h1 h2'
   subst h1 h2'
   exact hc.mono Le.cell fun _ q=>q
 ·show (g'.α++[a])[S.length]?=some a
  rw [<- w.len]
  simp
where
 nd_snocA:∀ {l:List Addr}{k:Addr},l.Nodup->¬ k∈l->(l++[k]).Nodup:=fun {l k} h hk=>by
  rw [iZ]
  exact ⟨h,by simp,fun x hx y hy=>by rw [Θ.mp hy];rintro rfl;exact hk hx⟩
end
end EV
namespace TS
open PySem PyProof.Rows
set_option backward.match.sparseCases true
variable {O:ϙ}{key:ψ->O.α}{G:ψ->Prop}{kd:eX}{M:Model}{A:ϡ}{E:δ->ο->Prop}{s:ο}
section
def LtOk (O:ϙ) (key:ψ->O.α) (G:ψ->Prop) (kd:eX) (M:Model) (A:ϡ) (E:δ->ο->Prop) (s:ο):Prop:=
 ∀ (x y:ψ) (st:Ι) (Q:Option Bool->Ι->Prop),G x->G y->kindOf st=kd->Q (some (O.blt (key x) (key y))) st->wpS M A E s (lt' x y) Q st
noncomputable def dk:ψ:=(.none,.none)
noncomputable def kk (key:ψ->O.α) (xs:Array ψ) (i:Nat):O.α:=key (xs[i]?.getD dk)
def Srt (key:ψ->O.α) (xs:Array ψ) (lo hi:Nat):Prop:=∀ i j,lo<=i->i<=j->j < hi->O.kle (kk key xs i) (kk key xs j)
structure Bs (G:ψ->Prop) (kd:eX) (az:Array ψ) (p:Array (Nat×Nat×Nat)) (st:Ι):Prop where
 perm:(υ st).Perm az
 good:∀ x∈az.toList,G x
 kind:kindOf st=kd
 failed:cZ st=none
 pend:aU st=p
variable {az:Array ψ}{p:Array (Nat×Nat×Nat)}
theorem Bs.size {st:Ι}(h:Bs G kd az p st):(υ st).size=az.size:=h.perm.size_eq
theorem Bs.set {st:Ι}(h:Bs G kd az p st) {xs:Array ψ}(q:xs.Perm (υ st)):Bs G kd az p (setArr st xs):=⟨q.trans h.perm,h.good,h.kind,h.failed,h.pend⟩
theorem Bs.item {st:Ι}(h:Bs G kd az p st) {i:Nat}(hi:i < az.size):∃ x,(υ st)[i]?=some x/\G x/\kk key (υ st) i=key x:=by
 have hi':i < (υ st).size:=by rw [h.size];exact hi
 have e:(υ st)[i]?=some (υ st)[i]:=getElem?_pos _ i hi'
 refine ⟨(υ st)[i],e,h.good _ ((cg.mp h.perm).mem_iff.mp (by simp)),?_⟩
 unfold kk;rw [e];rfl
theorem zA {arr:Array ψ}{i:Nat}{x:ψ}{Q:ψ->Ι->Prop}{st:Ι}(e:arr[i]?=some x) (h:Q x st):wpS M A E s (dw arr i) Q st:=by
 rw [elem'_eq,e];exact Β h
theorem wp_at (L:LtOk O key G kd M A E s) {st:Ι}(h:Bs G kd az p st) {i j:Nat}(hi:i < az.size) (hj:j < az.size) {Q:Option Bool->Ι->Prop}
  (q:Q (some (O.blt (kk key (υ st) i) (kk key (υ st) j))) st):wpS M A E s (ltAt' i j) Q st:=by
 obtain ⟨x,e1,g1,k1⟩:=h.item (key:=key) hi
 obtain ⟨y,e2,g2,k2⟩:=h.item (key:=key) hj
 rw [ltAt'_eq]
 refine μ (dg (μ (zA e1 (μ (zA e2 (L x y st Q g1 g2 h.kind ?_))))))
 rw [<- k1,<- k2];exact q
theorem Y8 {st:Ι}{i j:Nat}{Q:Unit->Ι->Prop}(h:Q () (setArr st (mirror (υ st) i j ((j - i) / 2)))):wpS M A E s (eG i j) Q st:=by
 rw [reverseSlice'_eq];exact cD h
theorem kk_of {xs ys:Array ψ}{i j:Nat}(h:xs[i]?=ys[j]?):kk key xs i=kk key ys j:=by unfold kk;rw [h]
theorem uf {xs:Array ψ}{i j:Nat}(hj:j<=xs.size) (k:Nat):kk key (mirror xs i j ((j - i) / 2)) k=if i<=k/\k < j then kk key xs (i+j - 1 - k) else kk key xs k:=by
 have e:=getElem?_mirror_all (i:=i) hj k
 split
 ·rename_i h;rw [if_pos h] at e;exact kk_of e
 ·rename_i h;rw [if_neg h] at e;exact kk_of e
theorem XX {xs:Array ψ}{i j k:Nat}(hj:j<=xs.size) (hk:k < i):(mirror xs i j ((j - i) / 2))[k]?=xs[k]?:=by
 rw [getElem?_mirror_all hj,if_neg (by lia)]
theorem YG {xs:Array ψ}{i j:Nat}(hj:j<=xs.size) (h:∀ k,i<=k->k < j->kk key xs k=kk key xs (j - 1)) (k:Nat):kk key (mirror xs i j ((j - i) / 2)) k=kk key xs k:=by
 rw [uf hj]
 split
 ·rename_i q
  exact (h _ (by omega) (by omega)).trans (h k q.1 q.2).symm
 ·rfl
theorem Srt.one {xs:Array ψ}{lo:Nat}:Srt key xs lo (lo+1):=fun i j h1 h2 h3=>by
 obtain rfl:i=j:=by lia
 exact aO _
theorem Srt.more {xs:Array ψ}{lo n:Nat}(h:Srt key xs lo (lo+n)) (h1:1<=n) (k:O.kle (kk key xs (lo+n - 1)) (kk key xs (lo+n))):Srt key xs lo (lo+(n+1)):=fun i j a b c=>by
 by_cases e:j < lo+n
 ·exact h i j a b e
 ·obtain rfl:j=lo+n:=by lia
  by_cases e:i=lo+n
  ·subst e;exact aO _
  ·exact Ϗ (h i (lo+n - 1) a (by lia) (by lia)) k
theorem Q5 (L:LtOk O key G kd M A E s) {st:Ι}(b:Bs G kd az p st) {lo a nrem:Nat}(h1:1<=a) (ha:a<=nrem) (h2:lo+nrem<=az.size) (hs:Srt key (υ st) lo (lo+a)) {Q:Option (Option Nat)×Nat->Ι->Prop}
  (q:∀ n,a<=n->n<=nrem->Srt key (υ st) lo (lo+n)->(n=nrem\/O.klt (kk key (υ st) (lo+n)) (kk key (υ st) (lo+n - 1)))->Q (none,n) st):
  wpS M A E s (forIn [a:nrem] ((none,a):Option (Option Nat)×Nat) fun _ c=>do
   let x <- ltAt' (lo+c.2) (lo+c.2 - 1)
   match x with
   | some smaller=>if smaller=true then pure (ϝ (none,c.2)) else pure (ϟ (none,c.2+1))
   | _=>pure (ϝ (some none,c.2))) Q st:=by
 refine Ϫ (I:=fun x c st'=>st'=st/\c=(none,x)/\Srt key (υ st) lo (lo+x)) ?_ ?_ ⟨rfl,rfl,hs⟩
 ·rintro x c st' hx hn ⟨rfl,rfl,hs⟩
  dsimp only
  refine μ (wp_at L b (by lia) (by lia) ?_)
  cases hl:O.blt (kk key (υ st') (lo+x)) (kk key (υ st') (lo+x - 1)) with
  | true=>exact Β (q x hx (by lia) hs (.inr hl))
  | false=>exact Β ⟨rfl,rfl,hs.more (by lia) hl⟩
 ·rintro c st' ⟨rfl,rfl,hs⟩
  rw [show max a nrem=nrem by lia] at hs ⊢
  exact q nrem ha (ν _) hs (.inl rfl)
def Fal (key:ψ->O.α) (xs:Array ψ) (lo hi:Nat):Prop:=∀ i j,lo<=i->i<=j->j < hi->O.kle (kk key xs j) (kk key xs i)
theorem Fal.more {xs:Array ψ}{lo n:Nat}(h:Fal key xs lo (lo+n)) (h1:1<=n) (k:O.kle (kk key xs (lo+n)) (kk key xs (lo+n - 1))):Fal key xs lo (lo+(n+1)):=fun i j a b c=>by
 by_cases e:j < lo+n
 ·exact h i j a b e
 ·obtain rfl:j=lo+n:=by lia
  by_cases e:i=lo+n
  ·subst e;exact aO _
  ·exact Ϗ k (h i (lo+n - 1) a (by lia) (by lia))
theorem Fal.same {xs ys:Array ψ}{lo hi:Nat}(h:Fal key xs lo hi) (e:∀ k,kk key ys k=kk key xs k):Fal key ys lo hi:=fun i j a b c=>by rw [e,e];exact h i j a b c
theorem Vp (L:LtOk O key G kd M A E s) {st:Ι}(b:Bs G kd az p st) {lo n nrem:Nat}(h1:1<=n) (hn:n<=nrem) (h2:lo+nrem<=az.size) (hs:Fal key (υ st) lo (lo+n)) {Q:Option Nat->Ι->Prop}
  (q:∀ m st',Bs G kd az p st'->1<=m->m<=nrem->Srt key (υ st') lo (lo+m)->(∀ k,k < lo->(υ st')[k]?=(υ st)[k]?)->Q (some m) st'):
  wpS M A E s (do
   eG lo (lo+n)
   let c <- forIn [n:nrem] ((none,n):Option (Option Nat)×Nat) fun _ c=>do
    let x <- ltAt' (lo+c.2) (lo+c.2 - 1)
    match x with
    | some smaller=>if smaller=true then pure (ϝ (none,c.2)) else pure (ϟ (none,c.2+1))
    | _=>pure (ϝ (some none,c.2))
   match c.1 with
   | some r=>pure r
   | none=>pure (some c.2)) Q st:=by
 have hz:lo+n<=(υ st).size:=by rw [b.size];lia
 refine μ (Y8 ?_)
 have b':=b.set (mj (υ st) lo (lo+n) ((lo+n - lo) / 2))
 refine μ (Q5 L b' h1 hn h2 ?_ fun m m1 m2 ms _=>Β (q m _ b' (by lia) m2 ms fun k hk=>XX hz hk))
 intro i j a b c
 show O.kle (kk key (mirror (υ st) lo (lo+n) ((lo+n - lo) / 2)) i) (kk key (mirror (υ st) lo (lo+n) ((lo+n - lo) / 2)) j)
 rw [uf hz,uf hz,if_pos (by lia),if_pos (by lia)]
 exact hs _ _ (by lia) (by lia) (by lia)
end
section
variable {az:Array ψ}{p:Array (Nat×Nat×Nat)}
theorem Vr (L:LtOk O key G kd M A E s) {st:Ι}(b:Bs G kd az p st) {lo n nrem:Nat}(h1:1<=n) (hn:n<=nrem) (h2:lo+nrem<=az.size) (hs:Fal key (υ st) lo (lo+n)) {Q:Option Nat->Ι->Prop}
  (q:∀ m st',Bs G kd az p st'->1<=m->m<=nrem->Srt key (υ st') lo (lo+m)->(∀ k,k < lo->(υ st')[k]?=(υ st)[k]?)->Q (some m) st'):
  wpS M A E s (do
   let c <- forIn [n:nrem] ((none,n,0):Option (Option Nat)×Nat×Nat) fun _ c=>do
    let x <- ltAt' (lo+c.2.1) (lo+c.2.1 - 1)
    match x with
    | some smaller=>
     if smaller=true then
      if c.2.2 > 0 then do
       let _ <- eG (lo+c.2.1 - (c.2.2+1)) (lo+c.2.1)
       pure (ϟ (none,c.2.1+1,0))
      else pure (ϟ (none,c.2.1+1,0))
     else do
      let x <- ltAt' (lo+c.2.1 - 1) (lo+c.2.1)
      match x with
      | some larger=>if larger=true then pure (ϝ (none,c.2.1,c.2.2)) else pure (ϟ (none,c.2.1+1,c.2.2+1))
      | _=>pure (ϝ (some none,c.2.1,c.2.2))
    | _=>pure (ϝ (some none,c.2.1,c.2.2))
   match c.1 with
   | some r=>pure r
   | none=>
    if c.2.2 > 0 then do
     let _ <- eG (lo+c.2.1 - (c.2.2+1)) (lo+c.2.1)
     do
      eG lo (lo+c.2.1)
      let c <- forIn [c.2.1:nrem] ((none,c.2.1):Option (Option Nat)×Nat) fun _ c=>do
       let x <- ltAt' (lo+c.2) (lo+c.2 - 1)
       match x with
       | some smaller=>if smaller=true then pure (ϝ (none,c.2)) else pure (ϟ (none,c.2+1))
       | _=>pure (ϝ (some none,c.2))
      match c.1 with
      | some r=>pure r
      | none=>pure (some c.2)
    else do
     eG lo (lo+c.2.1)
     let c <- forIn [c.2.1:nrem] ((none,c.2.1):Option (Option Nat)×Nat) fun _ c=>do
      let x <- ltAt' (lo+c.2) (lo+c.2 - 1)
      match x with
      | some smaller=>if smaller=true then pure (ϝ (none,c.2)) else pure (ϟ (none,c.2+1))
      | _=>pure (ϝ (some none,c.2))
     match c.1 with
     | some r=>pure r
     | none=>pure (some c.2)) Q st:=by
 refine μ (aP (Ϫ (I:=fun x c st'=>∃ e,c=(none,x,e)/\Bs G kd az p st'/\Fal key (υ st') lo (lo+x)/\e+1<=x/\(∀ i,lo+x - (e+1)<=i->i < lo+x->kk key (υ st') i=kk key (υ st') (lo+x - 1))/\∀ k,k < lo->(υ st')[k]?=(υ st)[k]?)
  (Q:=fun c st'=>∃ m e,c=(none,m,e)/\n<=m/\m<=nrem/\Bs G kd az p st'/\Fal key (υ st') lo (lo+m)/\e+1<=m/\(∀ i,lo+m - (e+1)<=i->i < lo+m->kk key (υ st') i=kk key (υ st') (lo+m - 1))/\∀ k,k < lo->(υ st')[k]?=(υ st)[k]?) ?_ ?_ ⟨0,rfl,b,hs,by lia,fun i h1 h2=>by congr 1;lia,fun _ _=>rfl⟩) ?_)
 ·rintro x c st' hx hn ⟨e,rfl,b',f',he,hq,hk⟩
  dsimp only
  have hz:lo+x<=(υ st').size:=by rw [b'.size];lia
  refine μ (wp_at L b' (by lia) (by lia) ?_)
  cases hl:O.blt (kk key (υ st') (lo+x)) (kk key (υ st') (lo+x - 1)) with
  | true=>
   have f2:=f'.more (by lia) (ϑ hl)
   dsimp only
   rw [if_pos rfl]
   by_cases he0:e > 0
   ·rw [if_pos he0]
    have same:=YG (key:=key) hz hq
    exact μ (Y8 (Β ⟨0,rfl,b'.set (mj _ _ _ _),f2.same same,by lia,fun i h1 h2=>by congr 1;lia,fun k h=>(XX hz (by lia)).trans (hk k h)⟩))
   ·rw [if_neg he0]
    exact Β ⟨0,rfl,b',f2,by lia,fun i h1 h2=>by congr 1;lia,hk⟩
  | false=>
   dsimp only
   rw [if_neg (by decide)]
   refine μ (wp_at L b' (by lia) (by lia) ?_)
   cases hg:O.blt (kk key (υ st') (lo+x - 1)) (kk key (υ st') (lo+x)) with
   | true=>exact Β ⟨x,e,rfl,hx,by lia,b',f',he,hq,hk⟩
   | false=>
    have eq:kk key (υ st') (lo+x)=kk key (υ st') (lo+x - 1):=m9 hg hl
    refine Β ⟨e+1,rfl,b',f'.more (by lia) hg,by lia,fun i h1 h2=>?_,hk⟩
    rw [show lo+(x+1) - 1=lo+x by lia,eq]
    by_cases hi:i=lo+x
    ·rw [hi];exact eq
    ·exact hq i (by lia) (by lia)
 ·rintro c st' ⟨e,rfl,b',f',he,hq,hk⟩
  rw [show max n nrem=nrem by lia] at f' he hq ⊢
  exact ⟨nrem,e,rfl,hn,ν _,b',f',he,hq,hk⟩
 ·rintro c st' ⟨m,e,rfl,m1,m2,b',f',he,hq,hk⟩
  dsimp only
  have hz:lo+m<=(υ st').size:=by rw [b'.size];lia
  by_cases he0:e > 0
  ·rw [if_pos he0]
   have same:=YG (key:=key) hz hq
   refine μ (Y8 (Vp L (b'.set (mj _ _ _ _)) (by lia) m2 h2 (f'.same same) fun m' st2 b2 a1 a2 a3 a4=>q m' st2 b2 a1 a2 a3 fun k h=>?_))
   exact (a4 k h).trans ((XX hz (by lia)).trans (hk k h))
  ·rw [if_neg he0]
   exact Vp L b' (by lia) m2 h2 f' fun m' st2 b2 a1 a2 a3 a4=>q m' st2 b2 a1 a2 a3 fun k h=>(a4 k h).trans (hk k h)
theorem wp_eq {α:Type}{m m':StateT Ι Sem α}{Q:α->Ι->Prop}{st:Ι}(e:m'=m) (h:wpS M A E s m Q st):wpS M A E s m' Q st:=e ▸ h
theorem bd {α β:Type}{m m':StateT Ι Sem α}{f f':α->StateT Ι Sem β}(e:m=m') (h:∀ a,f a=f' a):(m >>= f)=(m' >>= f'):=by
 rw [e,funext h]
theorem Y9 (L:LtOk O key G kd M A E s) {st:Ι}(b:Bs G kd az p st) {lo nrem:Nat}(h1:1<=nrem) (h2:lo+nrem<=az.size) {Q:Option Nat->Ι->Prop}
  (q:∀ m st',Bs G kd az p st'->1<=m->m<=nrem->Srt key (υ st') lo (lo+m)->(∀ k,k < lo->(υ st')[k]?=(υ st)[k]?)->Q (some m) st'):wpS M A E s (countRun' lo nrem) Q st:=by
 rw [countRun'_eq]
 refine μ (Q5 L b (ν 1) h1 h2 Srt.one fun n n1 n2 hs ho=>?_)
 dsimp only
 by_cases hn:n=nrem
 ·rw [if_pos (by simpa using hn)]
  exact Β (q n st b n1 n2 hs fun _ _=>rfl)
 ·rw [if_neg (by simpa using hn)]
  have hlt:=ho.resolve_left hn
  have hz:lo+n<=(υ st).size:=by rw [b.size];lia
  by_cases hg:n > 1
  ·rw [if_pos hg]
   refine μ (wp_at L b (by lia) (by lia) ?_)
   cases hr:O.blt (kk key (υ st) lo) (kk key (υ st) (lo+n - 1)) with
   | true=>exact Β (q n st b n1 n2 hs fun _ _=>rfl)
   | false=>
    dsimp only
    rw [if_neg (by decide)]
    have all:∀ k,lo<=k->k < lo+n->kk key (υ st) k=kk key (υ st) (lo+n - 1):=fun k a c=>
     m9 (hs k (lo+n - 1) a (by lia) (by lia)) (Ϗ hr (hs lo k (ν _) a c))
    have same:=YG (key:=key) hz all
    have f0:Fal key (υ st) lo (lo+(n+1)):=fun i j a c d=>by
     by_cases e:j < lo+n
     ·rw [all i a (by lia),all j (by lia) e];exact aO _
     ·obtain rfl:j=lo+n:=by lia
      by_cases e:i=lo+n
      ·rw [e];exact aO _
      ·rw [all i a (by lia)];exact ϑ hlt
    refine μ (Y8 ?_)
    refine μ (fX (bw ⟨rfl,?_⟩))
    refine wp_eq ?e (Vr L (b.set (mj _ _ _ _)) (by lia) (by lia) h2 (f0.same same) fun m' st2 b2 a1 a2 a3 a4=>q m' st2 b2 a1 a2 a3 fun k h=>(a4 k h).trans (XX hz h))
    case e=>
     refine bd rfl fun c=>?_
     obtain ⟨r,n',e'⟩:=c
     cases r with
     | some r=>rfl
     | none=>
      dsimp only
      split
      ·refine bd rfl fun _=>bd rfl fun _=>bd rfl fun c=>?_
       obtain ⟨r,_⟩:=c
       cases r <;> rfl
      ·refine bd rfl fun _=>bd rfl fun c=>?_
       obtain ⟨r,_⟩:=c
       cases r <;> rfl
  ·rw [if_neg hg]
   obtain rfl:n=1:=by lia
   refine μ (fX (bw ⟨rfl,?_⟩))
   refine wp_eq ?e (Vr L b (n:=1+1) (by lia) (by lia) h2 (fun i j a c d=>?_) q)
   case e=>
    refine bd rfl fun c=>?_
    obtain ⟨r,n',e'⟩:=c
    cases r with
    | some r=>rfl
    | none=>
     dsimp only
     split
     ·refine bd rfl fun _=>bd rfl fun _=>bd rfl fun c=>?_
      obtain ⟨r,_⟩:=c
      cases r <;> rfl
     ·refine bd rfl fun _=>bd rfl fun c=>?_
      obtain ⟨r,_⟩:=c
      cases r <;> rfl
   by_cases e:i=j
   ·rw [e];exact aO _
   ·obtain rfl:i=lo:=by lia
    obtain rfl:j=i+1:=by lia
    exact ϑ hlt
end
section
variable {az:Array ψ}{p:Array (Nat×Nat×Nat)}
theorem Ze {xs:Array ψ}{src d:Nat}(hs:src < xs.size) (hd:d<=src) (k:Nat):kk key (bubble xs src d) k=if k=src - d then kk key xs src else if src - d < k/\k<=src then kk key xs (k - 1) else kk key xs k:=by
 have e:=getElem?_bubble hs d hd k
 split
 ·rename_i h;rw [if_pos h] at e;exact kk_of e
 ·rename_i h
  rw [if_neg h] at e
  split
  ·rename_i h;rw [if_pos h] at e;exact kk_of e
  ·rename_i h;rw [if_neg h] at e;exact kk_of e
theorem Q3 (L:LtOk O key G kd M A E s) {st:Ι}(b:Bs G kd az p st) {lo n ok:Nat}(h1:1<=ok) (hok:ok<=n) (h2:lo+n<=az.size) (hs:Srt key (υ st) lo (lo+ok)) {Q:Bool->Ι->Prop}
  (q:∀ st',Bs G kd az p st'->Srt key (υ st') lo (lo+n)->(∀ k,k < lo->(υ st')[k]?=(υ st)[k]?)->Q true st'):wpS M A E s (binarySort' lo n ok) Q st:=by
 rw [binarySort'_eq]
 refine μ (aP (Ϫ (I:=fun k c st'=>c=(none,())/\Bs G kd az p st'/\Srt key (υ st') lo (lo+k)/\∀ k,k < lo->(υ st')[k]?=(υ st)[k]?)
  (Q:=fun c st'=>c=(none,())/\Bs G kd az p st'/\Srt key (υ st') lo (lo+n)/\∀ k,k < lo->(υ st')[k]?=(υ st)[k]?) ?_ ?_ ⟨rfl,b,by rw [show max ok 1=ok by lia];exact hs,fun _ _=>rfl⟩) ?_)
 ·rintro k c st' hk hkn ⟨rfl,b',hs',hq⟩
  have hz:lo+k < (υ st').size:=by rw [b'.size];lia
  dsimp only
  refine μ (aP (Ϫ (I:=fun x c st2=>st2=st'/\∃ l r,c=(none,l,r)/\l<=r/\r<=k/\r - l<=k - x/\(∀ i,i < l->O.kle (kk key (υ st') (lo+i)) (kk key (υ st') (lo+k)))/\∀ i,r<=i->i < k->O.kle (kk key (υ st') (lo+k)) (kk key (υ st') (lo+i)))
   (Q:=fun c st2=>st2=st'/\∃ l r,c=(none,l,r)/\l<=k/\(∀ i,i < l->O.kle (kk key (υ st') (lo+i)) (kk key (υ st') (lo+k)))/\∀ i,l<=i->i < k->O.kle (kk key (υ st') (lo+k)) (kk key (υ st') (lo+i))) ?_ ?_ ⟨rfl,0,k,rfl,by lia,by lia,by lia,fun i hi=>by lia,fun i h1 h2=>by lia⟩) ?_)
  ·rintro x c st2 _ hx ⟨rfl,l,r,rfl,hlr,hrk,hm,hlo,hhi⟩
   dsimp only
   by_cases hg:l >= r
   ·rw [if_pos hg]
    obtain rfl:l=r:=by lia
    exact Β ⟨rfl,l,l,rfl,hrk,hlo,hhi⟩
   ·rw [if_neg hg]
    refine μ (wp_at L b' (by lia) (by lia) ?_)
    cases hl:O.blt (kk key (υ st2) (lo+k)) (kk key (υ st2) (lo+(l+r) / 2)) with
    | true=>exact Β ⟨rfl,l,(l+r) / 2,rfl,by lia,by lia,by lia,hlo,fun i h1 h2=>Ϗ (ϑ hl) (hs' _ _ (by lia) (by lia) (by lia))⟩
    | false=>exact Β ⟨rfl,(l+r) / 2+1,r,rfl,by lia,by lia,by lia,fun i h1=>Ϗ (hs' (lo+i) (lo+(l+r) / 2) (by lia) (by lia) (by lia)) hl,hhi⟩
  ·rintro c st2 ⟨rfl,l,r,rfl,hlr,hrk,hm,hlo,hhi⟩
   obtain rfl:l=r:=by lia
   exact ⟨rfl,l,l,rfl,hrk,hlo,hhi⟩
  ·rintro c st2 ⟨rfl,l,r,rfl,hlk,hlo,hhi⟩
   dsimp only
   rw [moveDown'_eq]
   refine μ (cD (Β ⟨rfl,b'.set (bubble_perm _ _ _),fun i j h1 h2 h3=>?_,fun i hi=>?_⟩))
   ·show O.kle (kk key (bubble (υ st2) (lo+k) (lo+k - (lo+l))) i) (kk key (bubble (υ st2) (lo+k) (lo+k - (lo+l))) j)
    rw [Ze hz (by lia),Ze hz (by lia),show lo+k - (lo+k - (lo+l))=lo+l by lia]
    have lo':∀ i,lo<=i->i < lo+l->O.kle (kk key (υ st2) i) (kk key (υ st2) (lo+k)):=fun i a c=>by
     have:=hlo (i - lo) (by lia)
     rwa [show lo+(i - lo)=i by lia] at this
    have hi':∀ i,lo+l<=i->i < lo+k->O.kle (kk key (υ st2) (lo+k)) (kk key (υ st2) i):=fun i a c=>by
     have:=hhi (i - lo) (by lia) (by lia)
     rwa [show lo+(i - lo)=i by lia] at this
    repeat' split
    all_goals first
     | (exfalso;lia)
     | exact aO _
     | exact lo' _ (by lia) (by lia)
     | exact hi' _ (by lia) (by lia)
     | exact hs' _ _ (by lia) (by lia) (by lia)
   ·refine Eq.trans ?_ (hq i hi)
    show (bubble (υ st2) (lo+k) (lo+k - (lo+l)))[i]?=_
    rw [getElem?_bubble hz _ (by lia),if_neg (by lia),if_neg (by lia)]
 ·rintro c st' ⟨hc,b',hs',hq⟩
  rw [show max (max ok 1) n=n by lia] at hs'
  exact ⟨hc,b',hs',hq⟩
 ·rintro c st' ⟨rfl,b',hs',hq⟩
  exact Β (q st' b' hs' hq)
end
noncomputable def yq:Bool->ψ->Array ψ->Nat->Nat->Nat->StateT Ι Sem (Option Nat):=sortPriv% PySem.Builtin.gallop
noncomputable def bey (left:Bool) (key:ψ) (arr:Array ψ) (base i:Nat):StateT Ι Sem (Option Bool):=do
 let x <- dw arr (base+i)
 if left then lt' x key else return (<- lt' key x).map (!·)
theorem Vi (left:Bool) (key:ψ) (arr:Array ψ) (base n hint:Nat):yq left key arr base n hint=(do
 let mut near:=0
 let mut ofs:=1
 let mut lo:=0
 let mut hi:=0
 let some right <- bey left key arr base hint | return none
 if right then
  let most:=n - hint
  for _ in [0:n] do
   if ofs >= most then break
   let some more <- bey left key arr base (hint+ofs) | return none
   if !more then break
   near:=ofs
   ofs:=2*ofs+1
  lo:=hint+near+1
  hi:=hint+min ofs most
 else
  let most:=hint+1
  for _ in [0:n] do
   if ofs >= most then break
   let some found <- bey left key arr base (hint - ofs) | return none
   if found then break
   near:=ofs
   ofs:=2*ofs+1
  lo:=hint+1 - min ofs most
  hi:=hint - near
 for _ in [0:n] do
  if lo >= hi then break
  let m:=lo+(hi - lo) / 2
  let some more <- bey left key arr base m | return none
  if more then lo:=m+1 else hi:=m
 return some hi):=rfl
section
variable {st:Ι}
theorem Vq {left:Bool}{x:ψ}{arr:Array ψ}{base n:Nat}(B:Nat->Bool) (hB:∀ i,i < n->∀ Q:Option Bool->Ι->Prop,Q (some (B i)) st->wpS M A E s (bey left x arr base i) Q st)
  (mono:∀ i j,i<=j->j < n->B j=true->B i=true) {lo hi:Nat}(h1:lo<=hi) (h2:hi<=n) (t:∀ i,i < lo->B i=true) (f:∀ i,hi<=i->i < n->B i=false) {Q:Option (Option Nat)×Nat×Nat->Ι->Prop}
  (q:∀ k,k<=n->(∀ i,i < k->B i=true)->(∀ i,k<=i->i < n->B i=false)->Q (none,k,k) st):
  wpS M A E s (forIn [0:n] ((none,lo,hi):Option (Option Nat)×Nat×Nat) fun _ c=>
   if c.2.1 >= c.2.2 then pure (ϝ (none,c.2.1,c.2.2))
   else do
    let r <- bey left x arr base (c.2.1+(c.2.2 - c.2.1) / 2)
    match r with
    | some more=>if more=true then pure (ϟ (none,c.2.1+(c.2.2 - c.2.1) / 2+1,c.2.2)) else pure (ϟ (none,c.2.1,c.2.1+(c.2.2 - c.2.1) / 2))
    | _=>pure (ϝ (some none,c.2.1,c.2.2))) Q st:=by
 refine Ϫ (I:=fun y c st'=>st'=st/\∃ lo hi,c=(none,lo,hi)/\lo<=hi/\hi<=n/\hi - lo<=n - y/\(∀ i,i < lo->B i=true)/\∀ i,hi<=i->i < n->B i=false) ?_ ?_ ⟨rfl,lo,hi,rfl,h1,h2,by lia,t,f⟩
 ·rintro y c st' _ hy ⟨rfl,lo,hi,rfl,h1,h2,h3,t,f⟩
  dsimp only
  by_cases hg:lo >= hi
  ·rw [if_pos hg]
   obtain rfl:lo=hi:=by lia
   exact Β (q lo h2 t f)
  ·rw [if_neg hg]
   refine μ (hB _ (by lia) _ ?_)
   cases hb:B (lo+(hi - lo) / 2) with
   | true=>exact Β ⟨rfl,lo+(hi - lo) / 2+1,hi,rfl,by lia,h2,by lia,fun i hi=>mono i _ (by lia) (by lia) hb,f⟩
   | false=>
    refine Β ⟨rfl,lo,lo+(hi - lo) / 2,rfl,by lia,by lia,by lia,t,fun i h4 h5=>?_⟩
    cases hi':B i with
    | false=>rfl
    | true=>rw [mono _ i h4 h5 hi'] at hb;cases hb
 ·rintro c st' ⟨rfl,lo,hi,rfl,h1,h2,h3,t,f⟩
  obtain rfl:lo=hi:=by lia
  exact q lo h2 t f
theorem Q0 {left:Bool}{x:ψ}{arr:Array ψ}{base n hint:Nat}(B:Nat->Bool) (hB:∀ i,i < n->∀ Q:Option Bool->Ι->Prop,Q (some (B i)) st->wpS M A E s (bey left x arr base i) Q st)
  (mono:∀ i j,i<=j->j < n->B j=true->B i=true) (hh:hint < n) {Q:Option Nat->Ι->Prop}(q:∀ k,k<=n->(∀ i,i < k->B i=true)->(∀ i,k<=i->i < n->B i=false)->Q (some k) st):wpS M A E s (yq left x arr base n hint) Q st:=by
 rw [Vi]
 refine μ (hB hint hh _ ?_)
 have up:∀ j,j < n->B j=true->∀ i,i < j+1->B i=true:=fun j h1 h2 i h3=>mono i j (by omega) h1 h2
 have dn:∀ j,j < n->B j=false->∀ i,j<=i->i < n->B i=false:=fun j h1 h2 i h3 h4=>by
  cases e:B i with
  | false=>rfl
  | true=>rw [mono j i h3 h4 e] at h2;cases h2
 cases hr:B hint with
 | true=>
  dsimp only
  rw [if_pos rfl]
  refine μ (aP (Ϫ (I:=fun y c st'=>st'=st/\∃ near ofs,c=(none,near,ofs)/\near < ofs/\y < ofs/\hint+near < n/\B (hint+near)=true)
   (Q:=fun c st'=>st'=st/\∃ near ofs,c=(none,near,ofs)/\near < ofs/\hint+near < n/\B (hint+near)=true/\(n - hint<=ofs\/hint+ofs < n/\B (hint+ofs)=false)) ?_ ?_ ⟨rfl,0,1,rfl,by omega,by omega,by omega,hr⟩) ?_)
  ·rintro y c st' _ hy ⟨rfl,near,ofs,rfl,h1,h2,h3,h4⟩
   dsimp only
   by_cases hg:ofs >= n - hint
   ·rw [if_pos hg]
    exact Β ⟨rfl,near,ofs,rfl,h1,h3,h4,.inl hg⟩
   ·rw [if_neg hg]
    refine μ (hB _ (by omega) _ ?_)
    cases hb:B (hint+ofs) with
    | true=>exact Β ⟨rfl,ofs,2*ofs+1,rfl,by omega,by omega,by omega,hb⟩
    | false=>exact Β ⟨rfl,near,ofs,rfl,h1,h3,h4,.inr ⟨by omega,hb⟩⟩
  ·rintro c st' ⟨rfl,near,ofs,rfl,h1,h2,h3,h4⟩
   exact ⟨rfl,near,ofs,rfl,h1,h3,h4,.inl (by omega)⟩
  ·rintro c st' ⟨rfl,near,ofs,rfl,h1,h3,h4,h5⟩
   dsimp only
   refine μ (Vq B hB mono (by omega) (by omega) (fun i hi=>up _ h3 h4 i (by omega)) (fun i h6 h7=>?_) fun k k1 k2 k3=>Β (q k k1 k2 k3))
   rcases h5 with h5 | ⟨h5,h8⟩
   ·omega
   ·exact dn _ h5 h8 i (by omega) h7
 | false=>
  dsimp only
  rw [if_neg (by decide)]
  refine μ (aP (Ϫ (I:=fun y c st'=>st'=st/\∃ near ofs,c=(none,near,ofs)/\near < ofs/\y < ofs/\near<=hint/\B (hint - near)=false)
   (Q:=fun c st'=>st'=st/\∃ near ofs,c=(none,near,ofs)/\near < ofs/\near<=hint/\B (hint - near)=false/\(hint+1<=ofs\/ofs<=hint/\B (hint - ofs)=true)) ?_ ?_ ⟨rfl,0,1,rfl,by omega,by omega,by omega,hr⟩) ?_)
  ·rintro y c st' _ hy ⟨rfl,near,ofs,rfl,h1,h2,h3,h4⟩
   dsimp only
   by_cases hg:ofs >= hint+1
   ·rw [if_pos hg]
    exact Β ⟨rfl,near,ofs,rfl,h1,h3,h4,.inl hg⟩
   ·rw [if_neg hg]
    refine μ (hB _ (by omega) _ ?_)
    cases hb:B (hint - ofs) with
    | true=>exact Β ⟨rfl,near,ofs,rfl,h1,h3,h4,.inr ⟨by omega,hb⟩⟩
    | false=>exact Β ⟨rfl,ofs,2*ofs+1,rfl,by omega,by omega,by omega,hb⟩
  ·rintro c st' ⟨rfl,near,ofs,rfl,h1,h2,h3,h4⟩
   exact ⟨rfl,near,ofs,rfl,h1,h3,h4,.inl (by omega)⟩
  ·rintro c st' ⟨rfl,near,ofs,rfl,h1,h3,h4,h5⟩
   dsimp only
   refine μ (Vq B hB mono (by omega) (by omega) (fun i hi=>?_) (fun i h6 h7=>dn _ (by omega) h4 i h6 h7) fun k k1 k2 k3=>Β (q k k1 k2 k3))
   rcases h5 with h5 | ⟨h5,h8⟩
   ·omega
   ·exact up _ (by omega) h8 i (by omega)
end
section
structure Sd (kd:eX) (ar:Array ψ) (pd:Array (Nat×Nat×Nat)) (st:Ι):Prop where
 kind:kindOf st=kd
 failed:cZ st=none
 arr:υ st=ar
 pend:aU st=pd
variable {ar:Array ψ}{pd:Array (Nat×Nat×Nat)}
theorem Q4 (L:LtOk O key G kd M A E s) {st:Ι}(d:Sd kd ar pd st) {left:Bool}{x y:ψ}{arr:Array ψ}{base i:Nat}(gx:G x) (e:arr[base+i]?=some y) (gy:G y) {Q:Option Bool->Ι->Prop}
  (q:Q (some (if left then O.blt (key y) (key x) else !O.blt (key x) (key y))) st):wpS M A E s (bey left x arr base i) Q st:=by
 unfold bey
 refine μ (zA e ?_)
 cases left with
 | true=>exact L y x st Q gy gx d.kind q
 | false=>exact μ (L x y st _ gx gy d.kind (Β q))
theorem wp_gR (L:LtOk O key G kd M A E s) {st:Ι}(d:Sd kd ar pd st) {x:ψ}{arr:Array ψ}{base n hint:Nat}(gx:G x) (hg:∀ y∈arr.toList,G y) (hn:base+n<=arr.size) (hh:hint < n) (hs:Srt key arr base (base+n)) {Q:Option Nat->Ι->Prop}
  (q:∀ k,k<=n->(∀ i,base<=i->i < base+k->O.kle (kk key arr i) (key x))->(∀ i,base+k<=i->i < base+n->O.klt (key x) (kk key arr i))->Q (some k) st):wpS M A E s (yq false x arr base n hint) Q st:=by
 refine Q0 (fun i=>!O.blt (key x) (kk key arr (base+i))) (fun i hi Q' q'=>?_) (fun i j h1 h2 h3=>?_) hh fun k k1 k2 k3=>q k k1 (fun i h1 h2=>?_) fun i h1 h2=>?_
 ·have hi':base+i < arr.size:=by lia
  have e:=getElem?_pos arr (base+i) hi'
  refine Q4 L d gx e (hg _ (by simp)) ?_
  unfold kk at q'
  rw [e] at q'
  exact q'
 ·have h3:O.blt (key x) (kk key arr (base+j))=false:=by revert h3;cases O.blt (key x) (kk key arr (base+j)) <;> simp
  have:O.kle (kk key arr (base+i)) (key x):=Ϗ (hs _ _ (by lia) (by lia) (by lia)) h3
  show (!O.blt (key x) (kk key arr (base+i)))=true
  rw [show O.blt (key x) (kk key arr (base+i))=false from this];rfl
 ·have:=k2 (i - base) (by lia)
  rw [show base+(i - base)=i by lia] at this
  show O.blt (key x) (kk key arr i)=false
  revert this;cases O.blt (key x) (kk key arr i) <;> simp
 ·have:=k3 (i - base) (by lia) (by lia)
  rw [show base+(i - base)=i by lia] at this
  show O.blt (key x) (kk key arr i)=true
  revert this;cases O.blt (key x) (kk key arr i) <;> simp
theorem wp_gL (L:LtOk O key G kd M A E s) {st:Ι}(d:Sd kd ar pd st) {x:ψ}{arr:Array ψ}{base n hint:Nat}(gx:G x) (hg:∀ y∈arr.toList,G y) (hn:base+n<=arr.size) (hh:hint < n) (hs:Srt key arr base (base+n)) {Q:Option Nat->Ι->Prop}
  (q:∀ k,k<=n->(∀ i,base<=i->i < base+k->O.klt (kk key arr i) (key x))->(∀ i,base+k<=i->i < base+n->O.kle (key x) (kk key arr i))->Q (some k) st):wpS M A E s (yq true x arr base n hint) Q st:=by
 refine Q0 (fun i=>O.blt (kk key arr (base+i)) (key x)) (fun i hi Q' q'=>?_) (fun i j h1 h2 h3=>?_) hh fun k k1 k2 k3=>q k k1 (fun i h1 h2=>?_) fun i h1 h2=>?_
 ·have hi':base+i < arr.size:=by lia
  have e:=getElem?_pos arr (base+i) hi'
  refine Q4 L d gx e (hg _ (by simp)) ?_
  unfold kk at q'
  rw [e] at q'
  exact q'
 ·exact ϙ.klt_of_kle_of_klt (hs _ _ (by lia) (by lia) (by lia)) h3
 ·have:=k2 (i - base) (by lia)
  rwa [show base+(i - base)=i by lia] at this
 ·have:=k3 (i - base) (by lia) (by lia)
  rwa [show base+(i - base)=i by lia] at this
abbrev Up (key:ψ->O.α) (l:List ψ):Prop:=l.Pairwise fun x y=>O.kle (key x) (key y)
abbrev Le2 (key:ψ->O.α) (l m:List ψ):Prop:=∀ x∈l,∀ y∈m,O.kle (key x) (key y)
structure Mg (key:ψ->O.α) (L X P Y:List ψ):Prop where
 x:Up key X
 p:Up key P
 y:Up key Y
 xp:Le2 key X P
 xy:Le2 key X Y
 all:(X++P++Y).Perm L
def Ok (key:ψ->O.α) (L:List ψ) (r:Array ψ):Prop:=Up key r.toList/\r.toList.Perm L
variable {L X P P1 P2 Y Y1 Y2:List ψ}
theorem Q6 (h:Up key (P1++P2)):Up key P1/\Up key P2/\Le2 key P1 P2:=by
 have:=ϴ.mp h
 exact ⟨this.1,this.2.1,this.2.2⟩
theorem Mg.takeA (m:Mg key L X (P1++P2) Y) (h:Le2 key P1 Y):Mg key L (X++P1) P2 Y:=by
 obtain ⟨p1,p2,p3⟩:=Q6 m.p
 refine ⟨ϴ.mpr ⟨m.x,p1,fun a ha b hb=>m.xp a ha b (dO _ hb)⟩,p2,m.y,fun a ha b hb=>?_,fun a ha b hb=>?_,?_⟩
 ·rcases Τ.mp ha with ha | ha
  ·exact m.xp a ha b (ό _ hb)
  ·exact p3 a ha b hb
 ·rcases Τ.mp ha with ha | ha
  ·exact m.xy a ha b hb
  ·exact h a ha b hb
 ·have:=m.all
  rwa [<- π X] at this
theorem Mg.takeB (m:Mg key L X P (Y1++Y2)) (h:Le2 key Y1 P):Mg key L (X++Y1) P Y2:=by
 obtain ⟨p1,p2,p3⟩:=Q6 m.y
 refine ⟨ϴ.mpr ⟨m.x,p1,fun a ha b hb=>m.xy a ha b (dO _ hb)⟩,m.p,p2,fun a ha b hb=>?_,fun a ha b hb=>?_,?_⟩
 ·rcases Τ.mp ha with ha | ha
  ·exact m.xp a ha b hb
  ·exact h a ha b hb
 ·rcases Τ.mp ha with ha | ha
  ·exact m.xy a ha b (ό _ hb)
  ·exact p3 a ha b hb
 ·refine aj.trans ?_ m.all
  rw [π X Y1 P,π X P (Y1++Y2),π X (Y1++P) Y2,<- π P Y1 Y2]
  exact (m8.append_right Y2).append_left X
theorem Mg.endB (m:Mg key L X P Y) (h:Le2 key Y P) {r:Array ψ}(e:r.toList=X++Y++P):Ok key L r:=by
 refine ⟨?_,?_⟩
 ·rw [e]
  exact ϴ.mpr ⟨ϴ.mpr ⟨m.x,m.y,m.xy⟩,m.p,fun a ha b hb=>by
   rcases Τ.mp ha with ha | ha
   ·exact m.xp a ha b hb
   ·exact h a ha b hb⟩
 ·rw [e,π]
  refine aj.trans ?_ m.all
  rw [π]
  exact m8.append_left X
theorem Mg.endA (m:Mg key L X P Y) (h:Le2 key P Y) {r:Array ψ}(e:r.toList=X++P++Y):Ok key L r:=by
 refine ⟨?_,by rw [e];exact m.all⟩
 rw [e]
 exact ϴ.mpr ⟨ϴ.mpr ⟨m.x,m.p,m.xp⟩,m.y,fun a ha b hb=>by
  rcases Τ.mp ha with ha | ha
  ·exact m.xy a ha b hb
  ·exact h a ha b hb⟩
end
noncomputable def jY:Array ψ->Array ψ->StateT Ι Sem (Array ψ):=sortPriv% PySem.Builtin.mergeLo
noncomputable def setG (g:Nat):StateT Ι Sem Unit:=modify fun st=>iC (kindOf st) (υ st) (aU st) g (cZ st)
noncomputable abbrev R6:=Option (Array ψ)×Array ψ×Nat×Nat×Nat×Nat×Nat
noncomputable abbrev R5:=Option (Array ψ)×Array ψ×Nat×Nat×Nat×Nat
section
variable (a b o:Array ψ) (i j mg ac bc:Nat)
noncomputable def l4:StateT Ι Sem (ForInStep R6):=do
 let x <- dw a i
 if i+1+1==a.size then pure (.done (some (o.push x++b.extract j b.size++a.extract (i+1) a.size),o.push x,i+1,j,mg,ac,bc))
 else if ac < 7&&bc < 7 then pure (.done (none,o.push x,i+1,j,mg,ac,bc))
 else pure (.yield (none,o.push x,i+1,j,mg,ac,bc))
noncomputable def l3:StateT Ι Sem (ForInStep R6):=do
 let x <- dw a i
 let r <- yq true x b j (b.size - j) 0
 match r with
 | some k=>
  if k > 0 then
   if j+k==b.size then pure (.done (some (o++b.extract j (j+k)++a.extract i a.size++b.extract (j+k) b.size),o++b.extract j (j+k),i,j+k,mg,ac,k))
   else l4 a b (o++b.extract j (j+k)) i (j+k) mg ac k
  else l4 a b o i j mg ac k
 | _=>pure (.done (some (o++a.extract i a.size++b.extract j b.size),o,i,j,mg,ac,bc))
noncomputable def l2:StateT Ι Sem (ForInStep R6):=do
 let x <- dw b j
 if j+1==b.size then pure (.done (some (o.push x++a.extract i a.size++b.extract (j+1) b.size),o.push x,i,j+1,mg,ac,bc))
 else l3 a b (o.push x) i (j+1) mg ac bc
noncomputable def l1:StateT Ι Sem (ForInStep R6):=do
 setG mg
 let x <- dw b j
 let r <- yq false x a i (a.size - i) 0
 match r with
 | some k=>
  if k > 0 then
   if i+k+1==a.size then pure (.done (some (o++a.extract i (i+k)++b.extract j b.size++a.extract (i+k) a.size),o++a.extract i (i+k),i+k,j,mg,k,bc))
   else if i+k==a.size then pure (.done (some (o++a.extract i (i+k)++a.extract (i+k) a.size++b.extract j b.size),o++a.extract i (i+k),i+k,j,mg,k,bc))
   else l2 a b (o++a.extract i (i+k)) (i+k) j mg k bc
  else l2 a b o i j mg k bc
 | _=>pure (.done (some (o++a.extract i a.size++b.extract j b.size),o,i,j,mg,ac,bc))
noncomputable def l0:StateT Ι Sem (ForInStep R6):=if mg > 1 then l1 a b o i j (mg - 1) ac bc else l1 a b o i j mg ac bc
noncomputable def lo1:StateT Ι Sem (ForInStep R5):=do
 let y <- dw b j
 let x <- dw a i
 let r <- lt' y x
 match r with
 | some w=>
  if w then do
   let y <- dw b j
   if j+1==b.size then pure (.done (some (o.push y++a.extract i a.size++b.extract (j+1) b.size),o.push y,i,j+1,0,bc+1))
   else if bc+1 >= mg then pure (.done (none,o.push y,i,j+1,0,bc+1))
   else pure (.yield (none,o.push y,i,j+1,0,bc+1))
  else do
   let x <- dw a i
   if i+1+1==a.size then pure (.done (some (o.push x++b.extract j b.size++a.extract (i+1) a.size),o.push x,i+1,j,ac+1,0))
   else if ac+1 >= mg then pure (.done (none,o.push x,i+1,j,ac+1,0))
   else pure (.yield (none,o.push x,i+1,j,ac+1,0))
 | _=>pure (.done (some (o++a.extract i a.size++b.extract j b.size),o,i,j,ac,bc))
end
theorem ie {α:Type}{c:Prop} [Decidable c] {x y y':StateT Ι Sem α}(h:y=y'):(if c then x else y)=(if c then x else y'):=by rw [h]
theorem fi {β:Type}{r:Std.Legacy.Range}{i:β}{f f':Nat->β->StateT Ι Sem (ForInStep β)}(h:∀ x c,f x c=f' x c):forIn r i f=forIn r i f':=by
 rw [show f=f' from funext fun x=>funext fun c=>h x c]
theorem Yy (a b:Array ψ):jY a b=(do
 rule "list.sort.merge-lo"
 let most:=a.size+b.size
 let y <- dw b 0
 if 1==b.size then return #[y]++a.extract 0 a.size++b.extract 1 b.size
 if 0+1==a.size then return #[y]++b.extract 1 b.size++a.extract 0 a.size
 let st <- get
 let c <- forIn [0:most] ((none,#[y],0,1,gallopOf st):Option (Array ψ)×Array ψ×Nat×Nat×Nat) fun _ c=>do
  let d <- forIn [0:most] ((none,c.2.1,c.2.2.1,c.2.2.2.1,0,0):R5) fun _ d=>lo1 a b d.2.1 d.2.2.1 d.2.2.2.1 c.2.2.2.2 d.2.2.2.2.1 d.2.2.2.2.2
  match d.1 with
  | some r=>pure (ϝ (some r,d.2.1,d.2.2.1,d.2.2.2.1,c.2.2.2.2))
  | none=>do
   liftM (rule "list.sort.gallop")
   let f <- forIn [0:most] ((none,d.2.1,d.2.2.1,d.2.2.2.1,c.2.2.2.2+1,d.2.2.2.2.1,d.2.2.2.2.2):R6) fun _ f=>l0 a b f.2.1 f.2.2.1 f.2.2.2.1 f.2.2.2.2.1 f.2.2.2.2.2.1 f.2.2.2.2.2.2
   match f.1 with
   | some r=>pure (ϝ (some r,f.2.1,f.2.2.1,f.2.2.2.1,f.2.2.2.2.1))
   | none=>do
    setG (f.2.2.2.2.1+1)
    pure (ϟ (none,f.2.1,f.2.2.1,f.2.2.2.1,f.2.2.2.2.1+1))
 match c.1 with
 | some r=>pure r
 | none=>unsupported "internal:list.sort.merge-bound"):=by
 refine bd rfl fun _=>bd rfl fun y=>ie (ie (bd rfl fun st=>bd (fi fun _ c=>bd rfl fun d=>?_) fun c=>?_))
 ·obtain ⟨r,d⟩:=d
  cases r with
  | some r=>rfl
  | none=>
   refine bd rfl fun _=>bd rfl fun f=>?_
   obtain ⟨r,f⟩:=f
   cases r <;> rfl
 ·obtain ⟨r,c⟩:=c
  cases r <;> rfl
section
variable {ar:Array ψ}{pd:Array (Nat×Nat×Nat)}
theorem wU (a:Array ψ) (i k:Nat):(a.extract i (i+k)).toList=(a.toList.drop i).take k:=by
 rw [dN,cC,show i+k - i=k by lia]
theorem ZF (a:Array ψ) (i:Nat):(a.extract i a.size).toList=a.toList.drop i:=by
 rw [dN,cC,dj (by simp)]
theorem YS {a:Array ψ}{i:Nat}{x:ψ}(e:a[i]?=some x):a.toList.drop i=x::a.toList.drop (i+1):=by
 have h:i < a.size:=by
  rcases Nat.lt_or_ge i a.size with h | h
  ·exact h
  ·rw [gk h] at e;cases e
 have e2:a[i]=x:=by rw [getElem?_pos a i h] at e;exact Ϛ e
 rw [fH (by simpa using h)]
 simp [e2]
theorem zH {a:Array ψ}{i:Nat}(h:i < a.size):∃ x,a[i]?=some x/\x∈a.toList/\kk key a i=key x:=by
 have e:=getElem?_pos a i h
 exact ⟨_,e,by simp,by unfold kk;rw [e];rfl⟩
theorem Zb {a:Array ψ}{i:Nat}{x:ψ}(h:x∈a.toList.drop i):∃ t,i<=t/\t < a.size/\kk key a t=key x:=by
 obtain ⟨t,ht,e⟩:=cz.mp h
 have ht':i+t < a.size:=by simp at ht;lia
 refine ⟨i+t,by lia,ht',?_⟩
 unfold kk
 rw [getElem?_pos a (i+t) ht',<- e]
 simp
theorem X4 {a:Array ψ}{i k:Nat}{x:ψ}(h:x∈(a.toList.drop i).take k):∃ t,i<=t/\t < i+k/\t < a.size/\kk key a t=key x:=by
 obtain ⟨t,ht,e⟩:=cz.mp h
 have ht1:t < k/\i+t < a.size:=by simp at ht;lia
 refine ⟨i+t,by lia,by lia,ht1.2,?_⟩
 unfold kk
 rw [getElem?_pos a (i+t) ht1.2,<- e]
 simp
theorem yu {a:Array ψ}(h:Up key a.toList) {i n:Nat}(hn:i+n<=a.size):Srt key a i (i+n):=fun t u h1 h2 h3=>by
 by_cases e:t=u
 ·rw [e];exact aO _
 ·have:=fG.mp h t u (by simp;lia) (by simp;lia) (by lia)
  unfold kk
  rw [getElem?_pos a t (by lia),getElem?_pos a u (by lia)]
  simpa using this
structure Pr (key:ψ->O.α) (G:ψ->Prop) (a b:Array ψ):Prop where
 ga:∀ x∈a.toList,G x
 gb:∀ x∈b.toList,G x
 sa:Up key a.toList
 sb:Up key b.toList
 last:∀ i x,i+1=a.size->a[i]?=some x->∀ y∈b.toList,O.kle (key y) (key x)
structure In (key:ψ->O.α) (a b:Array ψ) (R:Nat) (o:Array ψ) (i j:Nat):Prop where
 m:Mg key (a.toList++b.toList) o.toList (a.toList.drop i) (b.toList.drop j)
 hi:i+1 < a.size
 hj:j < b.size
 r:a.size - i+(b.size - j)<=R
variable {a b o:Array ψ}{i j R:Nat}
theorem kZ (p:Pr key G a b) (m:Mg key (a.toList++b.toList) o.toList (a.toList.drop i) (b.toList.drop j)) (e:i+1=a.size):Ok key (a.toList++b.toList) (o++b.extract j b.size++a.extract i a.size):=by
 refine m.endB (fun y hy x hx=>?_) (by rw [ϫ,ϫ,ZF,ZF])
 obtain ⟨z,e1,e2,e3⟩:=zH (key:=key) (a:=a) (i:=i) (by lia)
 rw [YS e1,gq (by simp;lia),Θ] at hx
 subst hx
 exact p.last i x e e1 y (gU hy)
theorem uz (m:Mg key (a.toList++b.toList) o.toList (a.toList.drop i) (b.toList.drop j)) (e:j=b.size\/i=a.size):Ok key (a.toList++b.toList) (o++a.extract i a.size++b.extract j b.size):=by
 refine m.endA (fun x hx y hy=>?_) (by rw [ϫ,ϫ,ZF,ZF])
 rcases e with e | e
 ·rw [gq (by simp;lia)] at hy;cases hy
 ·rw [gq (by simp;lia)] at hx;cases hx
theorem pushB (m:Mg key (a.toList++b.toList) o.toList (a.toList.drop i) (b.toList.drop j)) {y:ψ}(e:b[j]?=some y) (h:∀ t,i<=t->t < a.size->O.kle (key y) (kk key a t)):Mg key (a.toList++b.toList) (o.push y).toList (a.toList.drop i) (b.toList.drop (j+1)):=by
 rw [YS e] at m
 rw [fJ]
 refine Mg.takeB (Y1:=[y]) m fun u hu v hv=>?_
 rw [Θ.mp hu]
 obtain ⟨t,t1,t2,t3⟩:=Zb (key:=key) hv
 rw [<- t3];exact h t t1 t2
theorem pushA (m:Mg key (a.toList++b.toList) o.toList (a.toList.drop i) (b.toList.drop j)) {x:ψ}(e:a[i]?=some x) (h:∀ t,j<=t->t < b.size->O.kle (key x) (kk key b t)):Mg key (a.toList++b.toList) (o.push x).toList (a.toList.drop (i+1)) (b.toList.drop j):=by
 rw [YS e] at m
 rw [fJ]
 refine Mg.takeA (P1:=[x]) m fun u hu v hv=>?_
 rw [Θ.mp hu]
 obtain ⟨t,t1,t2,t3⟩:=Zb (key:=key) hv
 rw [<- t3];exact h t t1 t2
theorem cutA (m:Mg key (a.toList++b.toList) o.toList (a.toList.drop i) (b.toList.drop j)) {k:Nat}(h:∀ t u,i<=t->t < i+k->t < a.size->j<=u->u < b.size->O.kle (kk key a t) (kk key b u)):Mg key (a.toList++b.toList) (o++a.extract i (i+k)).toList (a.toList.drop (i+k)) (b.toList.drop j):=by
 rw [ϫ,wU,<- gY]
 refine Mg.takeA (by rw [aJ];exact m) fun u hu v hv=>?_
 obtain ⟨t,t1,t2,t3,t4⟩:=X4 (key:=key) hu
 obtain ⟨w,w1,w2,w3⟩:=Zb (key:=key) hv
 rw [<- t4,<- w3];exact h t w t1 t2 t3 w1 w2
theorem cutB (m:Mg key (a.toList++b.toList) o.toList (a.toList.drop i) (b.toList.drop j)) {k:Nat}(h:∀ t u,j<=t->t < j+k->t < b.size->i<=u->u < a.size->O.kle (kk key b t) (kk key a u)):Mg key (a.toList++b.toList) (o++b.extract j (j+k)).toList (a.toList.drop i) (b.toList.drop (j+k)):=by
 rw [ϫ,wU,<- gY]
 refine Mg.takeB (by rw [aJ];exact m) fun u hu v hv=>?_
 obtain ⟨t,t1,t2,t3,t4⟩:=X4 (key:=key) hu
 obtain ⟨w,w1,w2,w3⟩:=Zb (key:=key) hv
 rw [<- t4,<- w3];exact h t w t1 t2 t3 w1 w2
end
section
variable {ar:Array ψ}{pd:Array (Nat×Nat×Nat)}{a b o:Array ψ}{i j R:Nat}
theorem jQ {st:Ι}(d:Sd kd ar pd st) {g:Nat}{Q:Unit->Ι->Prop}(q:∀ st',Sd kd ar pd st'->Q () st'):wpS M A E s (setG g) Q st:=by
 unfold setG
 exact cD (q _ ⟨d.kind,d.failed,d.arr,d.pend⟩)
def Nx (key:ψ->O.α) (kd:eX) (ar:Array ψ) (pd:Array (Nat×Nat×Nat)) (a b:Array ψ) (R:Nat) (c:ForInStep R6) (st:Ι):Prop:=
 Sd kd ar pd st/\((∃ r z,c=.done (some r,z)/\Ok key (a.toList++b.toList) r)\/∃ o i j mg ac bc,In key a b R o i j/\(c=.done (none,o,i,j,mg,ac,bc)\/c=.yield (none,o,i,j,mg,ac,bc)))
theorem l4_ok (p:Pr key G a b) {st:Ι}(d:Sd kd ar pd st) {mg ac bc:Nat}(m:Mg key (a.toList++b.toList) o.toList (a.toList.drop i) (b.toList.drop j)) (hi:i+1 < a.size) (hj:j < b.size) (hr:a.size - i+(b.size - j)<=R+1) (h:∀ t,j<=t->t < b.size->O.kle (kk key a i) (kk key b t)):
  wpS M A E s (l4 a b o i j mg ac bc) (Nx key kd ar pd a b R) st:=by
 obtain ⟨x,e1,e2,e3⟩:=zH (key:=key) (a:=a) (i:=i) (by lia)
 have m2:=pushA m e1 fun t t1 t2=>by rw [<- e3];exact h t t1 t2
 unfold l4
 refine μ (zA e1 ?_)
 by_cases h1:i+1+1=a.size
 ·rw [if_pos (by simpa using h1)]
  exact Β ⟨d,.inl ⟨_,_,rfl,kZ p m2 h1⟩⟩
 ·rw [if_neg (by simpa using h1)]
  have n:In key a b R (o.push x) (i+1) j:=⟨m2,by lia,hj,by lia⟩
  split
  ·exact Β ⟨d,.inr ⟨_,_,_,_,_,_,n,.inl rfl⟩⟩
  ·exact Β ⟨d,.inr ⟨_,_,_,_,_,_,n,.inr rfl⟩⟩
theorem l3_ok (L:LtOk O key G kd M A E s) (p:Pr key G a b) {st:Ι}(d:Sd kd ar pd st) {mg ac bc:Nat}(m:Mg key (a.toList++b.toList) o.toList (a.toList.drop i) (b.toList.drop j)) (hi:i+1 < a.size) (hj:j < b.size) (hr:a.size - i+(b.size - j)<=R+1):
  wpS M A E s (l3 a b o i j mg ac bc) (Nx key kd ar pd a b R) st:=by
 obtain ⟨x,e1,e2,e3⟩:=zH (key:=key) (a:=a) (i:=i) (by lia)
 have sa:=yu p.sa (i:=i) (n:=a.size - i) (by lia)
 unfold l3
 refine μ (zA e1 (μ (wp_gL L d (p.ga x e2) p.gb (by lia) (by lia) (yu p.sb (by lia)) fun k k1 k2 k3=>?_)))
 rw [show j+(b.size - j)=b.size by lia] at k3
 dsimp only
 by_cases h0:k > 0
 ·rw [if_pos h0]
  have m2:=cutB m (k:=k) fun t u t1 t2 t3 u1 u2=>Ϗ (ϑ (k2 t t1 t2)) (by rw [<- e3];exact sa i u (ν _) u1 (by lia))
  by_cases h1:j+k=b.size
  ·rw [if_pos (by simpa using h1)]
   exact Β ⟨d,.inl ⟨_,_,rfl,uz m2 (.inl h1)⟩⟩
  ·rw [if_neg (by simpa using h1)]
   exact l4_ok p d m2 hi (by lia) (by lia) fun t t1 t2=>by rw [e3];exact k3 t t1 t2
 ·rw [if_neg h0]
  exact l4_ok p d m hi hj hr fun t t1 t2=>by rw [e3];exact k3 t (by lia) t2
theorem l2_ok (L:LtOk O key G kd M A E s) (p:Pr key G a b) {st:Ι}(d:Sd kd ar pd st) {mg ac bc:Nat}(m:Mg key (a.toList++b.toList) o.toList (a.toList.drop i) (b.toList.drop j)) (hi:i+1 < a.size) (hj:j < b.size) (hr:a.size - i+(b.size - j)<=R+2) (h:∀ t,i<=t->t < a.size->O.kle (kk key b j) (kk key a t)):
  wpS M A E s (l2 a b o i j mg ac bc) (Nx key kd ar pd a b R) st:=by
 obtain ⟨y,e1,e2,e3⟩:=zH (key:=key) (a:=b) (i:=j) hj
 have m2:=pushB m e1 fun t t1 t2=>by rw [<- e3];exact h t t1 t2
 unfold l2
 refine μ (zA e1 ?_)
 by_cases h1:j+1=b.size
 ·rw [if_pos (by simpa using h1)]
  exact Β ⟨d,.inl ⟨_,_,rfl,uz m2 (.inl h1)⟩⟩
 ·rw [if_neg (by simpa using h1)]
  exact l3_ok L p d m2 hi (by lia) (by lia)
theorem l1_ok (L:LtOk O key G kd M A E s) (p:Pr key G a b) {st:Ι}(d:Sd kd ar pd st) {mg ac bc:Nat}(n:In key a b (R+2) o i j):wpS M A E s (l1 a b o i j mg ac bc) (Nx key kd ar pd a b R) st:=by
 obtain ⟨m,hi,hj,hr⟩:=n
 obtain ⟨y,e1,e2,e3⟩:=zH (key:=key) (a:=b) (i:=j) hj
 have sb:=yu p.sb (i:=j) (n:=b.size - j) (by lia)
 unfold l1
 refine μ (jQ d fun st d=>μ (zA e1 (μ (wp_gR L d (p.gb y e2) p.ga (by lia) (by lia) (yu p.sa (by lia)) fun k k1 k2 k3=>?_))))
 rw [show i+(a.size - i)=a.size by lia] at k3
 dsimp only
 by_cases h0:k > 0
 ·rw [if_pos h0]
  have m2:=cutA m (k:=k) fun t u t1 t2 t3 u1 u2=>Ϗ (k2 t t1 t2) (by rw [<- e3];exact sb j u (ν _) u1 (by lia))
  by_cases h1:i+k+1=a.size
  ·rw [if_pos (by simpa using h1)]
   exact Β ⟨d,.inl ⟨_,_,rfl,kZ p m2 h1⟩⟩
  ·rw [if_neg (by simpa using h1)]
   by_cases h2:i+k=a.size
   ·rw [if_pos (by simpa using h2)]
    exact Β ⟨d,.inl ⟨_,_,rfl,uz m2 (.inr h2)⟩⟩
   ·rw [if_neg (by simpa using h2)]
    exact l2_ok L p d m2 (by lia) hj (by lia) fun t t1 t2=>by rw [e3];exact ϑ (k3 t t1 t2)
 ·rw [if_neg h0]
  exact l2_ok L p d m hi hj hr fun t t1 t2=>by rw [e3];exact ϑ (k3 t (by lia) t2)
theorem l0_ok (L:LtOk O key G kd M A E s) (p:Pr key G a b) {st:Ι}(d:Sd kd ar pd st) {mg ac bc:Nat}(n:In key a b (R+2) o i j):wpS M A E s (l0 a b o i j mg ac bc) (Nx key kd ar pd a b R) st:=by
 unfold l0
 split <;> exact l1_ok L p d n
def N1 (key:ψ->O.α) (kd:eX) (ar:Array ψ) (pd:Array (Nat×Nat×Nat)) (a b:Array ψ) (R:Nat) (c:ForInStep R5) (st:Ι):Prop:=
 Sd kd ar pd st/\((∃ r z,c=.done (some r,z)/\Ok key (a.toList++b.toList) r)\/∃ o i j ac bc,In key a b R o i j/\(c=.done (none,o,i,j,ac,bc)\/c=.yield (none,o,i,j,ac,bc)))
theorem zdV (L:LtOk O key G kd M A E s) (p:Pr key G a b) {st:Ι}(d:Sd kd ar pd st) {mg ac bc:Nat}(n:In key a b (R+1) o i j):wpS M A E s (lo1 a b o i j mg ac bc) (N1 key kd ar pd a b R) st:=by
 obtain ⟨m,hi,hj,hr⟩:=n
 obtain ⟨y,e1,e2,e3⟩:=zH (key:=key) (a:=b) (i:=j) hj
 obtain ⟨x,f1,f2,f3⟩:=zH (key:=key) (a:=a) (i:=i) (by omega)
 have sb:=yu p.sb (i:=j) (n:=b.size - j) (by omega)
 have sa:=yu p.sa (i:=i) (n:=a.size - i) (by omega)
 unfold lo1
 refine μ (zA e1 (μ (zA f1 (μ (L y x st _ (p.gb y e2) (p.ga x f2) d.kind ?_)))))
 dsimp only
 cases hb:O.blt (key y) (key x) with
 | true=>
  rw [if_pos rfl]
  refine μ (zA e1 ?_)
  have m2:=pushB m e1 fun t t1 t2=>Ϗ (ϑ hb) (by rw [<- f3];exact sa i t (ν _) t1 (by omega))
  by_cases h1:j+1=b.size
  ·rw [if_pos (by simpa using h1)]
   exact Β ⟨d,.inl ⟨_,_,rfl,uz m2 (.inl h1)⟩⟩
  ·rw [if_neg (by simpa using h1)]
   have n:In key a b R (o.push y) i (j+1):=⟨m2,hi,by omega,by omega⟩
   split
   ·exact Β ⟨d,.inr ⟨_,_,_,_,_,n,.inl rfl⟩⟩
   ·exact Β ⟨d,.inr ⟨_,_,_,_,_,n,.inr rfl⟩⟩
 | false=>
  rw [if_neg (by decide)]
  refine μ (zA f1 ?_)
  have m2:=pushA m f1 fun t t1 t2=>Ϗ hb (by rw [<- e3];exact sb j t (ν _) t1 (by omega))
  by_cases h1:i+1+1=a.size
  ·rw [if_pos (by simpa using h1)]
   exact Β ⟨d,.inl ⟨_,_,rfl,kZ p m2 h1⟩⟩
  ·rw [if_neg (by simpa using h1)]
   have n:In key a b R (o.push x) (i+1) j:=⟨m2,by omega,hj,by omega⟩
   split
   ·exact Β ⟨d,.inr ⟨_,_,_,_,_,n,.inl rfl⟩⟩
   ·exact Β ⟨d,.inr ⟨_,_,_,_,_,n,.inr rfl⟩⟩
end
section
variable {ar:Array ψ}{pd:Array (Nat×Nat×Nat)}{a b o:Array ψ}{i j R R':Nat}
theorem In.mono (n:In key a b R o i j) (h:R<=R'):In key a b R' o i j:=⟨n.m,n.hi,n.hj,Ϧ n.r h⟩
theorem In.big (n:In key a b R o i j):3<=R:=by
 have:=n.hi;have:=n.hj;have:=n.r
 lia
theorem zcy (L:LtOk O key G kd M A E s) (p:Pr key G a b) {st:Ι}(d:Sd kd ar pd st) (ha:1<=a.size) (hb:1<=b.size) (h0:∀ t,t < a.size->O.kle (kk key b 0) (kk key a t)) {Q:Array ψ->Ι->Prop}
  (q:∀ r st',Sd kd ar pd st'->Ok key (a.toList++b.toList) r->Q r st'):wpS M A E s (jY a b) Q st:=by
 obtain ⟨y,e1,e2,e3⟩:=zH (key:=key) (a:=b) (i:=0) hb
 have m0:Mg key (a.toList++b.toList) (#[]:Array ψ).toList (a.toList.drop 0) (b.toList.drop 0):=
  ⟨dU,p.sa,p.sb,(fun x h=>nomatch h),(fun x h=>nomatch h),ϰ _⟩
 have m1:=pushB m0 e1 fun t _ t2=>by rw [<- e3];exact h0 t t2
 rw [Yy]
 refine μ (fX (bw ⟨rfl,?_⟩))
 refine μ (zA e1 ?_)
 by_cases h1:1=b.size
 ·rw [if_pos (by simpa using h1)]
  exact Β (q _ _ d (uz (o:=#[y]) (i:=0) (j:=1) m1 (.inl h1)))
 rw [if_neg (by simpa using h1)]
 by_cases h2:0+1=a.size
 ·rw [if_pos (by simpa using h2)]
  exact Β (q _ _ d (kZ (o:=#[y]) (i:=0) (j:=1) p m1 h2))
 rw [if_neg (by simpa using h2)]
 refine μ (dg ?_)
 refine μ (aP (Ϫ (I:=fun x c st'=>Sd kd ar pd st'/\∃ o i j mg,c=(none,o,i,j,mg)/\In key a b (a.size+b.size - x) o i j) (Q:=fun c st'=>Sd kd ar pd st'/\∃ r z,c=(some r,z)/\Ok key (a.toList++b.toList) r) ?_ ?_ ⟨d,#[y],0,1,_,rfl,⟨m1,by omega,by omega,by omega⟩⟩) ?_)
 ·rintro x c st1 _ hx ⟨d1,o,i,j,mg,rfl,n⟩
  dsimp only
  have hR:=n.big
  generalize hRR:a.size+b.size - x=R at n hR
  refine μ (aP (Ϫ (I:=fun _ c st'=>Sd kd ar pd st'/\∃ o i j ac bc,c=(none,o,i,j,ac,bc)/\In key a b R o i j) (Q:=fun c st'=>Sd kd ar pd st'/\((∃ r z,c=(some r,z)/\Ok key (a.toList++b.toList) r)\/∃ o i j ac bc,c=(none,o,i,j,ac,bc)/\In key a b R o i j)) ?_ ?_ ⟨d1,o,i,j,0,0,rfl,n⟩) ?_)
  ·rintro _ c st2 _ _ ⟨d2,o,i,j,ac,bc,rfl,n⟩
   refine aP (zdV (R:=R - 1) L p d2 (n.mono (by omega))) ?_
   rintro f st3 ⟨d3,⟨r,z,rfl,ok⟩ | ⟨o,i,j,ac,bc,n,rfl | rfl⟩⟩
   ·exact ⟨d3,.inl ⟨r,z,rfl,ok⟩⟩
   ·exact ⟨d3,.inr ⟨o,i,j,ac,bc,rfl,n.mono (by omega)⟩⟩
   ·exact ⟨d3,o,i,j,ac,bc,rfl,n.mono (by omega)⟩
  ·rintro c st2 ⟨d2,h⟩
   exact ⟨d2,.inr h⟩
  ·rintro c st2 ⟨d2,⟨r,z,rfl,ok⟩ | ⟨o,i,j,ac,bc,rfl,n⟩⟩
   ·exact Β ⟨d2,r,_,rfl,ok⟩
   ·dsimp only
    refine μ (fX (bw ⟨rfl,?_⟩))
    refine μ (aP (Ϫ (I:=fun y c st'=>Sd kd ar pd st'/\∃ o i j mg ac bc,c=(none,o,i,j,mg,ac,bc)/\In key a b (if y=0 then R else R - 1) o i j) (Q:=fun c st'=>Sd kd ar pd st'/\((∃ r z,c=(some r,z)/\Ok key (a.toList++b.toList) r)\/∃ o i j mg ac bc,c=(none,o,i,j,mg,ac,bc)/\In key a b (R - 1) o i j)) ?_ ?_ ⟨d2,o,i,j,_,_,_,rfl,n⟩) ?_)
    ·rintro y c st3 _ _ ⟨d3,o,i,j,mg,ac,bc,rfl,n⟩
     have nb:=n.big
     have hle:(if y=0 then R else R - 1)<=R:=by split <;> omega
     rw [if_neg (by omega:¬ y+1=0)]
     refine aP (l0_ok (R:=(if y=0 then R else R - 1) - 2) L p d3 (n.mono (by omega))) ?_
     rintro f st4 ⟨d4,⟨r,z,rfl,ok⟩ | ⟨o,i,j,mg,ac,bc,n,rfl | rfl⟩⟩
     ·exact ⟨d4,.inl ⟨r,z,rfl,ok⟩⟩
     ·exact ⟨d4,.inr ⟨o,i,j,mg,ac,bc,rfl,n.mono (by omega)⟩⟩
     ·exact ⟨d4,o,i,j,mg,ac,bc,rfl,n.mono (by omega)⟩
    ·rintro c st3 ⟨d3,o,i,j,mg,ac,bc,rfl,n⟩
     rw [if_neg (by omega:¬ max 0 (a.size+b.size)=0)] at n
     exact ⟨d3,.inr ⟨o,i,j,mg,ac,bc,rfl,n⟩⟩
    ·rintro c st3 ⟨d3,⟨r,z,rfl,ok⟩ | ⟨o,i,j,mg,ac,bc,rfl,n⟩⟩
     ·exact Β ⟨d3,r,_,rfl,ok⟩
     ·dsimp only
      refine μ (jQ d3 fun st4 d4=>Β ⟨d4,o,i,j,_,rfl,n.mono (by omega)⟩)
 ·rintro c st1 ⟨d1,o,i,j,mg,rfl,n⟩
  have:=n.big
  omega
 ·rintro c st1 ⟨d1,r,z,rfl,ok⟩
  exact Β (q r st1 d1 ok)
end
noncomputable def jZ:Array ψ->Array ψ->StateT Ι Sem (Array ψ):=sortPriv% PySem.Builtin.mergeHi
noncomputable abbrev H6:=Option (Array ψ)×Nat×Nat×Array ψ×Nat×Nat×Nat
noncomputable abbrev H5:=Option (Array ψ)×Nat×Nat×Array ψ×Nat×Nat
section
variable (a b o:Array ψ) (i j mg ac bc:Nat)
noncomputable abbrev dn:Array ψ:=a.extract 0 i++b.extract 0 j++o.reverse
noncomputable abbrev fb:Array ψ:=b.extract 0 j++a.extract 0 i++o.reverse
noncomputable def h4:StateT Ι Sem (ForInStep H6):=do
 let x <- dw a (i - 1)
 if i - 1==0 then pure (.done (some (dn a b (o.push x) (i - 1) j),i - 1,j,o.push x,mg,ac,bc))
 else if ac < 7&&bc < 7 then pure (.done (none,i - 1,j,o.push x,mg,ac,bc))
 else pure (.yield (none,i - 1,j,o.push x,mg,ac,bc))
noncomputable def h3:StateT Ι Sem (ForInStep H6):=do
 let x <- dw a (i - 1)
 let r <- yq true x b 0 j (j - 1)
 match r with
 | some t=>
  if j - t > 0 then
   if t==1 then pure (.done (some (fb a b (o++(b.extract t j).reverse) i t),i,t,o++(b.extract t j).reverse,mg,ac,j - t))
   else if t==0 then pure (.done (some (dn a b (o++(b.extract t j).reverse) i t),i,t,o++(b.extract t j).reverse,mg,ac,j - t))
   else h4 a b (o++(b.extract t j).reverse) i t mg ac (j - t)
  else h4 a b o i j mg ac (j - t)
 | _=>pure (.done (some (dn a b o i j),i,j,o,mg,ac,bc))
noncomputable def h2:StateT Ι Sem (ForInStep H6):=do
 let y <- dw b (j - 1)
 if j - 1==1 then pure (.done (some (fb a b (o.push y) i (j - 1)),i,j - 1,o.push y,mg,ac,bc))
 else h3 a b (o.push y) i (j - 1) mg ac bc
noncomputable def h1:StateT Ι Sem (ForInStep H6):=do
 setG mg
 let y <- dw b (j - 1)
 let r <- yq false y a 0 i (i - 1)
 match r with
 | some t=>
  if i - t > 0 then
   if t==0 then pure (.done (some (dn a b (o++(a.extract t i).reverse) t j),t,j,o++(a.extract t i).reverse,mg,i - t,bc))
   else h2 a b (o++(a.extract t i).reverse) t j mg (i - t) bc
  else h2 a b o i j mg (i - t) bc
 | _=>pure (.done (some (dn a b o i j),i,j,o,mg,ac,bc))
noncomputable def h0:StateT Ι Sem (ForInStep H6):=if mg > 1 then h1 a b o i j (mg - 1) ac bc else h1 a b o i j mg ac bc
noncomputable def hi1:StateT Ι Sem (ForInStep H5):=do
 let y <- dw b (j - 1)
 let x <- dw a (i - 1)
 let r <- lt' y x
 match r with
 | some w=>
  if w then do
   let x <- dw a (i - 1)
   if i - 1==0 then pure (.done (some (dn a b (o.push x) (i - 1) j),i - 1,j,o.push x,ac+1,0))
   else if ac+1 >= mg then pure (.done (none,i - 1,j,o.push x,ac+1,0))
   else pure (.yield (none,i - 1,j,o.push x,ac+1,0))
  else do
   let y <- dw b (j - 1)
   if j - 1==1 then pure (.done (some (fb a b (o.push y) i (j - 1)),i,j - 1,o.push y,0,bc+1))
   else if bc+1 >= mg then pure (.done (none,i,j - 1,o.push y,0,bc+1))
   else pure (.yield (none,i,j - 1,o.push y,0,bc+1))
 | _=>pure (.done (some (dn a b o i j),i,j,o,ac,bc))
end
theorem Yz (a b:Array ψ):jZ a b=(do
 rule "list.sort.merge-hi"
 let most:=a.size+b.size
 let x <- dw a (a.size - 1)
 if a.size - 1==0 then return dn a b #[x] (a.size - 1) b.size
 if b.size==1 then return fb a b #[x] (a.size - 1) b.size
 let st <- get
 let c <- forIn [0:most] ((none,a.size - 1,b.size,#[x],gallopOf st):Option (Array ψ)×Nat×Nat×Array ψ×Nat) fun _ c=>do
  let d <- forIn [0:most] ((none,c.2.1,c.2.2.1,c.2.2.2.1,0,0):H5) fun _ d=>hi1 a b d.2.2.2.1 d.2.1 d.2.2.1 c.2.2.2.2 d.2.2.2.2.1 d.2.2.2.2.2
  match d.1 with
  | some r=>pure (ϝ (some r,d.2.1,d.2.2.1,d.2.2.2.1,c.2.2.2.2))
  | none=>do
   liftM (rule "list.sort.gallop")
   let f <- forIn [0:most] ((none,d.2.1,d.2.2.1,d.2.2.2.1,c.2.2.2.2+1,d.2.2.2.2.1,d.2.2.2.2.2):H6) fun _ f=>h0 a b f.2.2.2.1 f.2.1 f.2.2.1 f.2.2.2.2.1 f.2.2.2.2.2.1 f.2.2.2.2.2.2
   match f.1 with
   | some r=>pure (ϝ (some r,f.2.1,f.2.2.1,f.2.2.2.1,f.2.2.2.2.1))
   | none=>do
    setG (f.2.2.2.2.1+1)
    pure (ϟ (none,f.2.1,f.2.2.1,f.2.2.2.1,f.2.2.2.2.1+1))
 match c.1 with
 | some r=>pure r
 | none=>unsupported "internal:list.sort.merge-bound"):=by
 refine bd rfl fun _=>bd rfl fun y=>ie (ie (bd rfl fun st=>bd (fi fun _ c=>bd rfl fun d=>?_) fun c=>?_))
 ·obtain ⟨r,d⟩:=d
  cases r with
  | some r=>rfl
  | none=>
   refine bd rfl fun _=>bd rfl fun f=>?_
   obtain ⟨r,f⟩:=f
   cases r <;> rfl
 ·obtain ⟨r,c⟩:=c
  cases r <;> rfl
noncomputable def du (O:ϙ):ϙ:=⟨O.α,fun x y=>O.blt y x,O.irrefl,fun a b c h1 h2=>O.trans c b a h2 h1,fun a b c h=>(O.negTrans c b a h).symm,fun a b h1 h2=>O.total a b h2 h1⟩
section
variable {ar:Array ψ}{pd:Array (Nat×Nat×Nat)}{a b o:Array ψ}{i j R:Nat}{L:List ψ}
abbrev Mh (key:ψ->O.α) (L:List ψ) (a b o:Array ψ) (i j:Nat):Prop:=Mg (O:=du O) key L o.toList (a.toList.take i).reverse (b.toList.take j).reverse
theorem wR {i:Nat}{x:ψ}(h:x∈(a.toList.take i).reverse):∃ t,t < i/\t < a.size/\kk key a t=key x:=by
 rw [gj] at h
 obtain ⟨t,ht,e⟩:=cz.mp h
 have ht1:t < i/\t < a.size:=by simp at ht;lia
 refine ⟨t,ht1.1,ht1.2,?_⟩
 unfold kk
 rw [getElem?_pos a t ht1.2,<- e]
 simp
theorem YQ (a:Array ψ) (i:Nat):(a.extract 0 i).toList=a.toList.take i:=by
 rw [dN,cC,List.drop_zero,Nat.sub_zero]
theorem VB {i:Nat}{x:ψ}(h:1<=i) (e:a[i - 1]?=some x):(a.toList.take i).reverse=x::(a.toList.take (i - 1)).reverse:=by
 obtain ⟨i,rfl⟩:∃ k,i=k+1:=⟨i - 1,by lia⟩
 have e:a[i]?=some x:=e
 have e2:a.toList[i]?=some x:=by simpa using e
 rw [List.take_succ,e2,d8]
 rfl
theorem Q8 {i t:Nat}(h:t<=i):(a.toList.take i).reverse=(a.extract t i).reverse.toList++(a.toList.take t).reverse:=by
 rw [bC,dN,cC,<- d8]
 congr 1
 have:=aJ t (a.toList.take i)
 rw [List.take_take,show min t i=t by lia,List.drop_take] at this
 exact this.symm
theorem U3 {i t:Nat}{x:ψ}(h:t<=i) (hx:x∈(a.extract t i).reverse.toList):∃ u,t<=u/\u < i/\u < a.size/\kk key a u=key x:=by
 rw [bC,gj,show i=t+(i - t) by lia,wU] at hx
 obtain ⟨u,u1,u2,u3,u4⟩:=X4 (key:=key) hx
 exact ⟨u,u1,by lia,u3,u4⟩
theorem Mh.fin {r:Array ψ}(h:Up (O:=du O) key r.toList.reverse/\r.toList.reverse.Perm L):Ok key L r:=
 ⟨(gD.mp h.1).imp fun h=>h,(iY _).symm.trans h.2⟩
theorem endD (m:Mh key L a b o i j) (e:i=0\/j=0):Ok key L (dn a b o i j):=by
 refine Mh.fin (r:=dn a b o i j) ?_
 have:=m.endB (r:=(dn a b o i j).reverse) (fun y hy x hx=>by
  rcases e with rfl | rfl
  ·rw [List.take_zero] at hx;cases hx
  ·rw [List.take_zero] at hy;cases hy) (by
  simp only [bC,ϫ,YQ,d8,nj,π])
 rw [<- bC];exact this
theorem endF (m:Mh key L a b o i j) (h:∀ t u,t < i->t < a.size->u < j->u < b.size->O.kle (kk key b u) (kk key a t)):Ok key L (fb a b o i j):=by
 refine Mh.fin (r:=fb a b o i j) ?_
 have:=m.endA (r:=(fb a b o i j).reverse) (fun x hx y hy=>by
  obtain ⟨t,t1,t2,t3⟩:=wR (key:=key) hx
  obtain ⟨u,u1,u2,u3⟩:=wR (key:=key) hy
  rw [<- t3,<- u3]
  exact h t u t1 t2 u1 u2) (by
  simp only [bC,ϫ,YQ,d8,nj,π])
 rw [<- bC];exact this
theorem puA (m:Mh key L a b o i j) (h1:1<=i) {x:ψ}(e:a[i - 1]?=some x) (h:∀ t,t < j->t < b.size->O.kle (kk key b t) (key x)):Mh key L a b (o.push x) (i - 1) j:=by
 unfold Mh at m ⊢
 rw [VB h1 e] at m
 rw [fJ]
 refine Mg.takeA (P1:=[x]) m fun u hu v hv=>?_
 rw [Θ.mp hu]
 obtain ⟨t,t1,t2,t3⟩:=wR (key:=key) hv
 rw [<- t3];exact h t t1 t2
theorem puB (m:Mh key L a b o i j) (h1:1<=j) {y:ψ}(e:b[j - 1]?=some y) (h:∀ t,t < i->t < a.size->O.kle (kk key a t) (key y)):Mh key L a b (o.push y) i (j - 1):=by
 unfold Mh at m ⊢
 rw [VB h1 e] at m
 rw [fJ]
 refine Mg.takeB (Y1:=[y]) m fun u hu v hv=>?_
 rw [Θ.mp hu]
 obtain ⟨t,t1,t2,t3⟩:=wR (key:=key) hv
 rw [<- t3];exact h t t1 t2
theorem ctA (m:Mh key L a b o i j) {t:Nat}(ht:t<=i) (h:∀ u v,t<=u->u < i->u < a.size->v < j->v < b.size->O.kle (kk key b v) (kk key a u)):Mh key L a b (o++(a.extract t i).reverse) t j:=by
 unfold Mh at m ⊢
 rw [Q8 ht] at m
 rw [ϫ]
 refine Mg.takeA m fun u hu v hv=>?_
 obtain ⟨t,t1,t2,t3,t4⟩:=U3 (key:=key) ht hu
 obtain ⟨w,w1,w2,w3⟩:=wR (key:=key) hv
 rw [<- t4,<- w3];exact h t w t1 t2 t3 w1 w2
theorem ctB (m:Mh key L a b o i j) {t:Nat}(ht:t<=j) (h:∀ u v,t<=u->u < j->u < b.size->v < i->v < a.size->O.kle (kk key a v) (kk key b u)):Mh key L a b (o++(b.extract t j).reverse) i t:=by
 unfold Mh at m ⊢
 rw [Q8 ht] at m
 rw [ϫ]
 refine Mg.takeB m fun u hu v hv=>?_
 obtain ⟨t,t1,t2,t3,t4⟩:=U3 (key:=key) ht hu
 obtain ⟨w,w1,w2,w3⟩:=wR (key:=key) hv
 rw [<- t4,<- w3];exact h t w t1 t2 t3 w1 w2
end
section
variable {ar:Array ψ}{pd:Array (Nat×Nat×Nat)}{a b o:Array ψ}{i j R R':Nat}
structure Ph (key:ψ->O.α) (G:ψ->Prop) (a b:Array ψ):Prop where
 ga:∀ x∈a.toList,G x
 gb:∀ x∈b.toList,G x
 sa:Up key a.toList
 sb:Up key b.toList
 first:∀ t,t < a.size->O.kle (kk key b 0) (kk key a t)
structure Ih (key:ψ->O.α) (a b:Array ψ) (R:Nat) (o:Array ψ) (i j:Nat):Prop where
 m:Mh key (a.toList++b.toList) a b o i j
 i1:1<=i
 j2:2<=j
 hi:i<=a.size
 hj:j<=b.size
 r:i+j<=R
theorem Ih.mono (n:Ih key a b R o i j) (h:R<=R'):Ih key a b R' o i j:=⟨n.m,n.i1,n.j2,n.hi,n.hj,Ϧ n.r h⟩
theorem Ih.big (n:Ih key a b R o i j):3<=R:=by
 have:=n.i1;have:=n.j2;have:=n.r
 lia
theorem endFb (p:Ph key G a b) (m:Mh key (a.toList++b.toList) a b o i 1):Ok key (a.toList++b.toList) (fb a b o i 1):=
 endF m fun t u t1 t2 u1 u2=>by
  obtain rfl:u=0:=by lia
  exact p.first t t2
def Hx (key:ψ->O.α) (kd:eX) (ar:Array ψ) (pd:Array (Nat×Nat×Nat)) (a b:Array ψ) (R:Nat) (c:ForInStep H6) (st:Ι):Prop:=
 Sd kd ar pd st/\((∃ r z,c=.done (some r,z)/\Ok key (a.toList++b.toList) r)\/∃ o i j mg ac bc,Ih key a b R o i j/\(c=.done (none,i,j,o,mg,ac,bc)\/c=.yield (none,i,j,o,mg,ac,bc)))
theorem h4_ok {st:Ι}(d:Sd kd ar pd st) {mg ac bc:Nat}(m:Mh key (a.toList++b.toList) a b o i j) (i1:1<=i) (j2:2<=j) (hi:i<=a.size) (hj:j<=b.size) (hr:i+j<=R+1) (h:∀ t,t < j->t < b.size->O.kle (kk key b t) (kk key a (i - 1))):
  wpS M A E s (h4 a b o i j mg ac bc) (Hx key kd ar pd a b R) st:=by
 obtain ⟨x,e1,e2,e3⟩:=zH (key:=key) (a:=a) (i:=i - 1) (by lia)
 have m2:=puA m i1 e1 fun t t1 t2=>by rw [<- e3];exact h t t1 t2
 unfold h4
 refine μ (zA e1 ?_)
 by_cases h1:i - 1=0
 ·rw [if_pos (by simpa using h1)]
  exact Β ⟨d,.inl ⟨_,_,rfl,endD m2 (.inl h1)⟩⟩
 ·rw [if_neg (by simpa using h1)]
  have n:Ih key a b R (o.push x) (i - 1) j:=⟨m2,by lia,j2,by lia,hj,by lia⟩
  split
  ·exact Β ⟨d,.inr ⟨_,_,_,_,_,_,n,.inl rfl⟩⟩
  ·exact Β ⟨d,.inr ⟨_,_,_,_,_,_,n,.inr rfl⟩⟩
theorem h3_ok (L:LtOk O key G kd M A E s) (p:Ph key G a b) {st:Ι}(d:Sd kd ar pd st) {mg ac bc:Nat}(m:Mh key (a.toList++b.toList) a b o i j) (i1:1<=i) (j2:2<=j) (hi:i<=a.size) (hj:j<=b.size) (hr:i+j<=R+1):
  wpS M A E s (h3 a b o i j mg ac bc) (Hx key kd ar pd a b R) st:=by
 obtain ⟨x,e1,e2,e3⟩:=zH (key:=key) (a:=a) (i:=i - 1) (by lia)
 have sa:=yu p.sa (i:=0) (n:=a.size) (by lia)
 unfold h3
 refine μ (zA e1 (μ (wp_gL L d (p.ga x e2) p.gb (by lia) (by lia) (yu p.sb (by lia)) fun t k1 k2 k3=>?_)))
 dsimp only
 by_cases h0:j - t > 0
 ·rw [if_pos h0]
  have m2:=ctB m (t:=t) k1 fun u v t1 t2 t3 v1 v2=>Ϗ (by rw [<- e3];exact sa v (i - 1) (by lia) (by lia) (by lia)) (k3 u (by lia) (by lia))
  by_cases h1:t=1
  ·subst h1
   rw [if_pos (by decide)]
   exact Β ⟨d,.inl ⟨_,_,rfl,endFb p m2⟩⟩
  ·rw [if_neg (by simpa using h1)]
   by_cases h2:t=0
   ·rw [if_pos (by simpa using h2)]
    exact Β ⟨d,.inl ⟨_,_,rfl,endD m2 (.inr h2)⟩⟩
   ·rw [if_neg (by simpa using h2)]
    exact h4_ok d m2 i1 (by lia) hi (by lia) (by lia) fun u t1 t2=>by rw [e3];exact ϑ (k2 u (by lia) (by lia))
 ·rw [if_neg h0]
  exact h4_ok d m i1 j2 hi hj hr fun u t1 t2=>by rw [e3];exact ϑ (k2 u (by lia) (by lia))
theorem h2_ok (L:LtOk O key G kd M A E s) (p:Ph key G a b) {st:Ι}(d:Sd kd ar pd st) {mg ac bc:Nat}(m:Mh key (a.toList++b.toList) a b o i j) (i1:1<=i) (j2:2<=j) (hi:i<=a.size) (hj:j<=b.size) (hr:i+j<=R+2) (h:∀ t,t < i->t < a.size->O.kle (kk key a t) (kk key b (j - 1))):
  wpS M A E s (h2 a b o i j mg ac bc) (Hx key kd ar pd a b R) st:=by
 obtain ⟨y,e1,e2,e3⟩:=zH (key:=key) (a:=b) (i:=j - 1) (by lia)
 have m2:=puB m (by lia) e1 fun t t1 t2=>by rw [<- e3];exact h t t1 t2
 unfold h2
 refine μ (zA e1 ?_)
 by_cases h1:j - 1=1
 ·rw [if_pos (by simpa using h1)]
  rw [h1] at m2 ⊢
  exact Β ⟨d,.inl ⟨_,_,rfl,endFb p m2⟩⟩
 ·rw [if_neg (by simpa using h1)]
  exact h3_ok L p d m2 i1 (by lia) hi (by lia) (by lia)
theorem h1_ok (L:LtOk O key G kd M A E s) (p:Ph key G a b) {st:Ι}(d:Sd kd ar pd st) {mg ac bc:Nat}(n:Ih key a b (R+2) o i j):wpS M A E s (h1 a b o i j mg ac bc) (Hx key kd ar pd a b R) st:=by
 obtain ⟨m,i1,j2,hi,hj,hr⟩:=n
 obtain ⟨y,e1,e2,e3⟩:=zH (key:=key) (a:=b) (i:=j - 1) (by lia)
 have sb:=yu p.sb (i:=0) (n:=b.size) (by lia)
 unfold h1
 refine μ (jQ d fun st d=>μ (zA e1 (μ (wp_gR L d (p.gb y e2) p.ga (by lia) (by lia) (yu p.sa (by lia)) fun t k1 k2 k3=>?_))))
 dsimp only
 by_cases h0:i - t > 0
 ·rw [if_pos h0]
  have m2:=ctA m (t:=t) k1 fun u v t1 t2 t3 v1 v2=>Ϗ (by rw [<- e3];exact sb v (j - 1) (by lia) (by lia) (by lia)) (ϑ (k3 u (by lia) (by lia)))
  by_cases h1:t=0
  ·rw [if_pos (by simpa using h1)]
   exact Β ⟨d,.inl ⟨_,_,rfl,endD m2 (.inl h1)⟩⟩
  ·rw [if_neg (by simpa using h1)]
   exact h2_ok L p d m2 (by lia) j2 (by lia) hj (by lia) fun u t1 t2=>by rw [e3];exact k2 u (by lia) (by lia)
 ·rw [if_neg h0]
  exact h2_ok L p d m i1 j2 hi hj hr fun u t1 t2=>by rw [e3];exact k2 u (by lia) (by lia)
theorem h0_ok (L:LtOk O key G kd M A E s) (p:Ph key G a b) {st:Ι}(d:Sd kd ar pd st) {mg ac bc:Nat}(n:Ih key a b (R+2) o i j):wpS M A E s (h0 a b o i j mg ac bc) (Hx key kd ar pd a b R) st:=by
 unfold h0
 split <;> exact h1_ok L p d n
def H1 (key:ψ->O.α) (kd:eX) (ar:Array ψ) (pd:Array (Nat×Nat×Nat)) (a b:Array ψ) (R:Nat) (c:ForInStep H5) (st:Ι):Prop:=
 Sd kd ar pd st/\((∃ r z,c=.done (some r,z)/\Ok key (a.toList++b.toList) r)\/∃ o i j ac bc,Ih key a b R o i j/\(c=.done (none,i,j,o,ac,bc)\/c=.yield (none,i,j,o,ac,bc)))
theorem zel (L:LtOk O key G kd M A E s) (p:Ph key G a b) {st:Ι}(d:Sd kd ar pd st) {mg ac bc:Nat}(n:Ih key a b (R+1) o i j):wpS M A E s (hi1 a b o i j mg ac bc) (H1 key kd ar pd a b R) st:=by
 obtain ⟨m,i1,j2,hi,hj,hr⟩:=n
 obtain ⟨y,e1,e2,e3⟩:=zH (key:=key) (a:=b) (i:=j - 1) (by omega)
 obtain ⟨x,f1,f2,f3⟩:=zH (key:=key) (a:=a) (i:=i - 1) (by omega)
 have sb:=yu p.sb (i:=0) (n:=b.size) (by omega)
 have sa:=yu p.sa (i:=0) (n:=a.size) (by omega)
 unfold hi1
 refine μ (zA e1 (μ (zA f1 (μ (L y x st _ (p.gb y e2) (p.ga x f2) d.kind ?_)))))
 dsimp only
 cases hb:O.blt (key y) (key x) with
 | true=>
  rw [if_pos rfl]
  refine μ (zA f1 ?_)
  have m2:=puA m i1 f1 fun t t1 t2=>Ϗ (by rw [<- e3];exact sb t (j - 1) (by omega) (by omega) (by omega)) (ϑ hb)
  by_cases h1:i - 1=0
  ·rw [if_pos (by simpa using h1)]
   exact Β ⟨d,.inl ⟨_,_,rfl,endD m2 (.inl h1)⟩⟩
  ·rw [if_neg (by simpa using h1)]
   have n:Ih key a b R (o.push x) (i - 1) j:=⟨m2,by omega,j2,by omega,hj,by omega⟩
   split
   ·exact Β ⟨d,.inr ⟨_,_,_,_,_,n,.inl rfl⟩⟩
   ·exact Β ⟨d,.inr ⟨_,_,_,_,_,n,.inr rfl⟩⟩
 | false=>
  rw [if_neg (by decide)]
  refine μ (zA e1 ?_)
  have m2:=puB m (by omega) e1 fun t t1 t2=>Ϗ (by rw [<- f3];exact sa t (i - 1) (by omega) (by omega) (by omega)) hb
  by_cases h1:j - 1=1
  ·rw [if_pos (by simpa using h1)]
   rw [h1] at m2 ⊢
   exact Β ⟨d,.inl ⟨_,_,rfl,endFb p m2⟩⟩
  ·rw [if_neg (by simpa using h1)]
   have n:Ih key a b R (o.push y) i (j - 1):=⟨m2,i1,by omega,hi,by omega,by omega⟩
   split
   ·exact Β ⟨d,.inr ⟨_,_,_,_,_,n,.inl rfl⟩⟩
   ·exact Β ⟨d,.inr ⟨_,_,_,_,_,n,.inr rfl⟩⟩
end
section
variable {ar:Array ψ}{pd:Array (Nat×Nat×Nat)}{a b o:Array ψ}{i j R R':Nat}
theorem zcz (L:LtOk O key G kd M A E s) (p:Ph key G a b) {st:Ι}(d:Sd kd ar pd st) (ha:1<=a.size) (hb:1<=b.size) (hz:∀ t,t < b.size->O.kle (kk key b t) (kk key a (a.size - 1))) {Q:Array ψ->Ι->Prop}
  (q:∀ r st',Sd kd ar pd st'->Ok key (a.toList++b.toList) r->Q r st'):wpS M A E s (jZ a b) Q st:=by
 obtain ⟨x,e1,e2,e3⟩:=zH (key:=key) (a:=a) (i:=a.size - 1) (by omega)
 have m0:Mh key (a.toList++b.toList) a b (#[]:Array ψ) a.size b.size:=by
  unfold Mh
  rw [dj (by simp),dj (by simp)]
  refine ⟨dU,gD.mpr (p.sa.imp fun h=>h),gD.mpr (p.sb.imp fun h=>h),(fun x h=>nomatch h),(fun x h=>nomatch h),?_⟩
  show (a.toList.reverse++b.toList.reverse).Perm _
  exact aj.append (iY _) (iY _)
 have m1:=puA m0 ha e1 fun t _ t2=>by rw [<- e3];exact hz t t2
 rw [Yz]
 refine μ (fX (bw ⟨rfl,?_⟩))
 refine μ (zA e1 ?_)
 by_cases h1:a.size - 1=0
 ·rw [if_pos (by simpa using h1)]
  exact Β (q _ _ d (endD (o:=#[x]) m1 (.inl h1)))
 rw [if_neg (by simpa using h1)]
 by_cases h2:b.size=1
 ·rw [if_pos (by simpa using h2)]
  have m1':Mh key (a.toList++b.toList) a b #[x] (a.size - 1) b.size:=m1
  rw [h2] at m1' ⊢
  exact Β (q _ _ d (endFb p m1'))
 rw [if_neg (by simpa using h2)]
 refine μ (dg ?_)
 refine μ (aP (Ϫ (I:=fun x c st'=>Sd kd ar pd st'/\∃ o i j mg,c=(none,i,j,o,mg)/\Ih key a b (a.size+b.size - x) o i j) (Q:=fun c st'=>Sd kd ar pd st'/\∃ r z,c=(some r,z)/\Ok key (a.toList++b.toList) r) ?_ ?_ ⟨d,#[x],a.size - 1,b.size,_,rfl,⟨m1,by omega,by omega,by omega,ν _,by omega⟩⟩) ?_)
 ·rintro x c st1 _ hx ⟨d1,o,i,j,mg,rfl,n⟩
  dsimp only
  have hR:=n.big
  generalize hRR:a.size+b.size - x=R at n hR
  refine μ (aP (Ϫ (I:=fun _ c st'=>Sd kd ar pd st'/\∃ o i j ac bc,c=(none,i,j,o,ac,bc)/\Ih key a b R o i j) (Q:=fun c st'=>Sd kd ar pd st'/\((∃ r z,c=(some r,z)/\Ok key (a.toList++b.toList) r)\/∃ o i j ac bc,c=(none,i,j,o,ac,bc)/\Ih key a b R o i j)) ?_ ?_ ⟨d1,o,i,j,0,0,rfl,n⟩) ?_)
  ·rintro _ c st2 _ _ ⟨d2,o,i,j,ac,bc,rfl,n⟩
   refine aP (zel (R:=R - 1) L p d2 (n.mono (by omega))) ?_
   rintro f st3 ⟨d3,⟨r,z,rfl,ok⟩ | ⟨o,i,j,ac,bc,n,rfl | rfl⟩⟩
   ·exact ⟨d3,.inl ⟨r,z,rfl,ok⟩⟩
   ·exact ⟨d3,.inr ⟨o,i,j,ac,bc,rfl,n.mono (by omega)⟩⟩
   ·exact ⟨d3,o,i,j,ac,bc,rfl,n.mono (by omega)⟩
  ·rintro c st2 ⟨d2,h⟩
   exact ⟨d2,.inr h⟩
  ·rintro c st2 ⟨d2,⟨r,z,rfl,ok⟩ | ⟨o,i,j,ac,bc,rfl,n⟩⟩
   ·exact Β ⟨d2,r,_,rfl,ok⟩
   ·dsimp only
    refine μ (fX (bw ⟨rfl,?_⟩))
    refine μ (aP (Ϫ (I:=fun y c st'=>Sd kd ar pd st'/\∃ o i j mg ac bc,c=(none,i,j,o,mg,ac,bc)/\Ih key a b (if y=0 then R else R - 1) o i j) (Q:=fun c st'=>Sd kd ar pd st'/\((∃ r z,c=(some r,z)/\Ok key (a.toList++b.toList) r)\/∃ o i j mg ac bc,c=(none,i,j,o,mg,ac,bc)/\Ih key a b (R - 1) o i j)) ?_ ?_ ⟨d2,o,i,j,_,_,_,rfl,n⟩) ?_)
    ·rintro y c st3 _ _ ⟨d3,o,i,j,mg,ac,bc,rfl,n⟩
     have nb:=n.big
     have hle:(if y=0 then R else R - 1)<=R:=by split <;> omega
     rw [if_neg (by omega:¬ y+1=0)]
     refine aP (h0_ok (R:=(if y=0 then R else R - 1) - 2) L p d3 (n.mono (by omega))) ?_
     rintro f st4 ⟨d4,⟨r,z,rfl,ok⟩ | ⟨o,i,j,mg,ac,bc,n,rfl | rfl⟩⟩
     ·exact ⟨d4,.inl ⟨r,z,rfl,ok⟩⟩
     ·exact ⟨d4,.inr ⟨o,i,j,mg,ac,bc,rfl,n.mono (by omega)⟩⟩
     ·exact ⟨d4,o,i,j,mg,ac,bc,rfl,n.mono (by omega)⟩
    ·rintro c st3 ⟨d3,o,i,j,mg,ac,bc,rfl,n⟩
     rw [if_neg (by omega:¬ max 0 (a.size+b.size)=0)] at n
     exact ⟨d3,.inr ⟨o,i,j,mg,ac,bc,rfl,n⟩⟩
    ·rintro c st3 ⟨d3,⟨r,z,rfl,ok⟩ | ⟨o,i,j,mg,ac,bc,rfl,n⟩⟩
     ·exact Β ⟨d3,r,_,rfl,ok⟩
     ·dsimp only
      refine μ (jQ d3 fun st4 d4=>Β ⟨d4,o,i,j,_,rfl,n.mono (by omega)⟩)
 ·rintro c st1 ⟨d1,o,i,j,mg,rfl,n⟩
  have:=n.big
  omega
 ·rintro c st1 ⟨d1,r,z,rfl,ok⟩
  exact Β (q r st1 d1 ok)
end
noncomputable def wb (n:Nat) (r:Array ψ) (a:Array ψ):Array ψ:=r.toList.zipIdx.foldl (fun a (p,j)=>a.setIfInBounds (n+j) p) a
theorem wb_at (n:Nat):∀ (l:List ψ) (m:Nat) (a:Array ψ),n+m+l.length<=a.size->∀ t,((l.zipIdx m).foldl (fun a (p,j)=>a.setIfInBounds (n+j) p) a)[t]?=if n+m<=t/\t < n+m+l.length then l[t - (n+m)]? else a[t]?
 | [],m,a,h,t=>by
  rw [if_neg (by simp)];rfl
 | x::l,m,a,h,t=>by
  have h':n+m+(l.length+1)<=a.size:=h
  rw [List.zipIdx_cons,gB,wb_at n l (m+1) _ (by simp;lia) t]
  show (if n+(m+1)<=t/\t < n+(m+1)+l.length then l[t - (n+(m+1))]? else (a.setIfInBounds (n+m) x)[t]?)=if n+m<=t/\t < n+m+(l.length+1) then (x::l)[t - (n+m)]? else a[t]?
  by_cases h1:t=n+m
  ·subst h1
   rw [if_neg (by lia),if_pos (by lia),Nat.sub_self,Array.getElem?_setIfInBounds_self_of_lt (by lia)]
   rfl
  ·rw [Array.getElem?_setIfInBounds_ne (by lia)]
   by_cases h2:n+(m+1)<=t/\t < n+(m+1)+l.length
   ·rw [if_pos h2,if_pos (by lia),show t - (n+m)=t - (n+(m+1))+1 by lia]
    rfl
   ·rw [if_neg h2,if_neg (by lia)]
theorem zaR {n:Nat}{r a:Array ψ}(h:n+r.size<=a.size):(wb n r a).toList=a.toList.take n++r.toList++a.toList.drop (n+r.size):=by
 apply lq
 intro t
 have e:=wb_at n r.toList 0 a (by simpa using h) t
 rw [m7] at e
 have e1:(wb n r a).toList[t]?=(wb n r a)[t]?:=by simp
 rw [e1]
 refine e.trans ?_
 have hl:r.toList.length=r.size:=by simp
 have ha:a.toList.length=a.size:=by simp
 rw [hl]
 by_cases h1:t < n
 ·rw [if_neg (by lia),π,Υ (by rw [aA];lia),mJ h1]
  simp
 ·rw [π,ϒ (by rw [aA];lia),aA,show min n a.toList.length=n by lia]
  by_cases h2:t < n+r.size
  ·rw [if_pos (by lia),Υ (by lia)]
  ·rw [if_neg (by lia),ϒ (by lia),nR,hl,show n+r.size+(t - n - r.size)=t by lia]
   simp
noncomputable def X3 (i:Nat):StateT Ι Sem Bool:=mergeAt' i
theorem YB (i:Nat):X3 i=(do
 let s <- get
 let (some (u,m,pw),some (v,n,_)):=((aU s)[i]?,(aU s)[i+1]?) | unsupported "internal:list.sort.pending"
 set (iC (kindOf s) (υ s) (((aU s).setIfInBounds i (u,m+n,pw)).eraseIdxIfInBounds (i+1)) (gallopOf s) (cZ s))
 let some k <- yq false (<- dw (υ s) v) (υ s) u m 0 | return false
 let (u,m):=(u+k,m - k)
 if m==0 then return true
 let some n <- yq true (<- dw (υ s) (u+m - 1)) (υ s) v n (n - 1) | return false
 if n==0 then return true
 let x:=(υ s).extract u v
 let y:=(υ s).extract v (v+n)
 let z <- if m<=n then jY x y else jZ x y
 modify fun s=>setArr s (wb u z (υ s))
 return (cZ (<- get)).isNone):=rfl
section
variable {az:Array ψ}
theorem zcx {st st':Ι}{Q:PUnit->Ι->Prop}(h:Q ⟨⟩ st'):wpS M A E s (set st':StateT Ι Sem PUnit) Q st:=by
 unfold wpS;rw [StateT.run_set];exact η ⟨rfl,h⟩
theorem kk_ex {a:Array ψ}{lo hi t:Nat}(h:t < hi - lo) (hh:hi<=a.size):kk key (a.extract lo hi) t=kk key a (lo+t):=by
 refine kk_of ?_
 rw [Array.getElem?_extract,if_pos (by lia)]
theorem Xm {a:Array ψ}{lo hi:Nat}(h:Srt key a lo hi) (hh:hi<=a.size):Up key (a.extract lo hi).toList:=by
 refine fG.mpr fun i j h1 h2 h3=>?_
 have h2':j < hi - lo:=by simp at h2;lia
 have e1:=kk_ex (key:=key) (a:=a) (lo:=lo) (hi:=hi) (t:=i) (by lia) hh
 have e2:=kk_ex (key:=key) (a:=a) (lo:=lo) (hi:=hi) (t:=j) h2' hh
 have k1:kk key (a.extract lo hi) i=key ((a.extract lo hi).toList[i]):=by
  unfold kk;rw [getElem?_pos _ i (by simp;lia)];simp
 have k2:kk key (a.extract lo hi) j=key ((a.extract lo hi).toList[j]):=by
  unfold kk;rw [getElem?_pos _ j (by simp;lia)];simp
 rw [<- k1,<- k2,e1,e2]
 exact h _ _ (by lia) (by lia) (by lia)
theorem U0 {a:Array ψ}{lo hi:Nat}{x:ψ}(h:x∈(a.extract lo hi).toList) (hl:lo<=hi):∃ t,lo<=t/\t < hi/\t < a.size/\kk key a t=key x:=by
 rw [show hi=lo+(hi - lo) by omega,wU] at h
 obtain ⟨t,t1,t2,t3,t4⟩:=X4 (key:=key) h
 exact ⟨t,t1,by omega,t3,t4⟩
theorem zer {n m pw w2:Nat}:((#[(0,n,pw),(n,m,w2)]:Array (Nat×Nat×Nat)).setIfInBounds 0 (0,n+m,pw)).eraseIdxIfInBounds (0+1)=#[(0,n+m,pw)]:=by
 simp [Array.eraseIdxIfInBounds,Array.setIfInBounds]
theorem zcA (L:LtOk O key G kd M A E s) {st:Ι}{n m pw w2:Nat}(b:Bs G kd az #[(0,n,pw),(n,m,w2)] st) (h1:1<=n) (h2:1<=m) (hn:n+m=az.size) (s1:Srt key (υ st) 0 n) (s2:Srt key (υ st) n (n+m)) {Q:Bool->Ι->Prop}
  (q:∀ st',Bs G kd az #[(0,n+m,pw)] st'->Srt key (υ st') 0 az.size->Q true st'):wpS M A E s (mergeAt' 0) Q st:=by
 have hz:=b.size
 have ga:∀ x∈(υ st).toList,G x:=fun x hx=>b.good x ((cg.mp b.perm).mem_iff.mp hx)
 show wpS M A E s (X3 0) Q st
 rw [YB]
 refine μ (dg ?_)
 rw [b.pend]
 rw [show (#[(0,n,pw),(n,m,w2)]:Array (Nat×Nat×Nat))[0]?=some (0,n,pw) from rfl,show (#[(0,n,pw),(n,m,w2)]:Array (Nat×Nat×Nat))[0+1]?=some (n,m,w2) from rfl]
 dsimp only
 rw [zer]
 refine μ (zcx ?_)
 have d:Sd kd (υ st) #[(0,n+m,pw)] (iC (kindOf st) (υ st) #[(0,n+m,pw)] (gallopOf st) (cZ st)):=⟨b.kind,b.failed,rfl,rfl⟩
 have bb:∀ st',Sd kd (υ st) #[(0,n+m,pw)] st'->Bs G kd az #[(0,n+m,pw)] st':=fun st' d=>⟨by rw [d.arr];exact b.perm,b.good,d.kind,d.failed,d.pend⟩
 obtain ⟨y,e1,e2,e3⟩:=zH (key:=key) (a:=υ st) (i:=n) (by lia)
 refine μ (zA e1 (μ (wp_gR L d (ga y e2) ga (by lia) (by lia) (by rw [bL];exact s1) fun k k1 k2 k3=>?_)))
 rw [<- e3] at k2 k3
 dsimp only
 rw [bL]
 by_cases h3:n - k=0
 ·rw [if_pos (by simpa using h3)]
  refine Β (q _ (bb _ d) fun i j a c e=>?_)
  by_cases hj:j < n
  ·exact s1 i j a c hj
  ·by_cases hi:i < n
   ·exact Ϗ (k2 i (by lia) (by lia)) (s2 n j (ν _) (by lia) (by lia))
   ·exact s2 i j (by lia) c (by lia)
 ·rw [if_neg (by simpa using h3)]
  obtain ⟨x,f1,f2,f3⟩:=zH (key:=key) (a:=υ st) (i:=n - 1) (by lia)
  have f1':(υ st)[k+(n - k) - 1]?=some x:=by rw [show k+(n - k) - 1=n - 1 by lia];exact f1
  refine μ (zA f1' (μ (wp_gL L d (ga x f2) ga (by lia) (by lia) s2 fun l l1 l2 l3=>?_)))
  rw [<- f3] at l2 l3
  dsimp only
  by_cases h4:l=0
  ·subst h4
   rw [if_pos (by decide)]
   refine Β (q _ (bb _ d) fun i j a c e=>?_)
   by_cases hj:j < n
   ·exact s1 i j a c hj
   ·by_cases hi:i < n
    ·exact Ϗ (s1 i (n - 1) (by lia) (by lia) (by lia)) (l3 j (by lia) (by lia))
    ·exact s2 i j (by lia) c (by lia)
  ·rw [if_neg (by simpa using h4)]
   have sx:((υ st).extract k n).size=n - k:=by simp;lia
   have sy:((υ st).extract n (n+l)).size=l:=by simp;lia
   have gx:∀ z∈((υ st).extract k n).toList,G z:=fun z hz=>by
    rw [show n=k+(n - k) by lia,wU] at hz
    exact ga z (gU (nq hz))
   have gy:∀ z∈((υ st).extract n (n+l)).toList,G z:=fun z hz=>by
    rw [wU] at hz
    exact ga z (gU (nq hz))
   have ux:=Xm (key:=key) (a:=υ st) (lo:=k) (hi:=n) (fun i j a c e=>s1 i j (by lia) c e) (by lia)
   have uy:=Xm (key:=key) (a:=υ st) (lo:=n) (hi:=n+l) (fun i j a c e=>s2 i j a c (by lia)) (by lia)
   have fin:∀ (z:Array ψ) (st':Ι),Sd kd (υ st) #[(0,n+m,pw)] st'->Ok key (((υ st).extract k n).toList++((υ st).extract n (n+l)).toList) z->wpS M A E s (do
     modify fun s=>setArr s (wb k z (υ s))
     return (cZ (<- get)).isNone) Q st':=by
    intro z st' d' ok
    have zs:z.size=n - k+l:=by
     have:=ok.2.length_eq
     rw [Α] at this
     simp at this
     lia
    have wl:=zaR (n:=k) (r:=z) (a:=υ st) (by lia)
    rw [show k+z.size=n+l by lia] at wl
    have split:(υ st).toList=(υ st).toList.take k++((υ st).extract k n).toList++((υ st).extract n (n+l)).toList++(υ st).toList.drop (n+l):=by
     rw [show (υ st).extract k n=(υ st).extract k (k+(n - k)) by rw [show k+(n - k)=n by lia],wU,wU,π,<- gY,aJ,π,show (υ st).toList.drop n=((υ st).toList.drop k).drop (n - k) by rw [gY,show k+(n - k)=n by lia],aJ,aJ]
    refine μ (cD (μ (dg ?_)))
    show wpS M A E s (pure (cZ st').isNone) Q _
    rw [d'.failed]
    refine Β (q _ ?_ ?_)
    ·refine ⟨?_,b.good,d'.kind,d'.failed,d'.pend⟩
     show (wb k z (υ st')).Perm az
     rw [d'.arr]
     refine Array.Perm.trans ?_ b.perm
     refine cg.mpr ?_
     rw [wl]
     conv=>rhs;rw [split]
     rw [π,π,π]
     refine lN _ ?_
     rw [<- π _ _ ((υ st).toList.drop (n+l))]
     exact ok.2.append_right _
    ·show Srt key (wb k z (υ st')) 0 az.size
     rw [d'.arr]
     have hsz:(wb k z (υ st)).size=az.size:=by
      have:=congrArg dR wl
      simp at this
      lia
     have up:Up key (wb k z (υ st)).toList:=by
      rw [wl]
      have uT:=Xm (key:=key) (a:=υ st) (lo:=0) (hi:=k) (fun i j a c e=>s1 i j a c (by lia)) (by lia)
      rw [YQ] at uT
      have uW:=Xm (key:=key) (a:=υ st) (lo:=n+l) (hi:=(υ st).size) (fun i j a c e=>s2 i j (by lia) c (by lia)) (ν _)
      rw [ZF] at uW
      have low:∀ t u,t < k->k<=u->u < n+m->O.kle (kk key (υ st) t) (kk key (υ st) u):=fun t u a c e=>by
       by_cases hu:u < n
       ·exact s1 t u (by lia) (by lia) hu
       ·exact Ϗ (k2 t (by lia) (by lia)) (s2 n u (ν _) (by lia) e)
      have high:∀ t u,k<=t->t < n+l->n+l<=u->u < n+m->O.kle (kk key (υ st) t) (kk key (υ st) u):=fun t u a c e f=>by
       by_cases ht:t < n
       ·exact Ϗ (s1 t (n - 1) (by lia) (by lia) (by lia)) (l3 u e f)
       ·exact s2 t u (by lia) (by lia) f
      have mz:∀ v∈z.toList,∃ t,k<=t/\t < n+l/\kk key (υ st) t=key v:=fun v hv=>by
       rcases Τ.mp (ok.2.mem_iff.mp hv) with h | h
       ·obtain ⟨t,t1,t2,t3,t4⟩:=U0 (key:=key) h (by lia)
        exact ⟨t,t1,by lia,t4⟩
       ·obtain ⟨t,t1,t2,t3,t4⟩:=U0 (key:=key) h (by lia)
        exact ⟨t,by lia,t2,t4⟩
      refine ϴ.mpr ⟨ϴ.mpr ⟨uT,ok.1,fun u hu v hv=>?_⟩,uW,fun u hu v hv=>?_⟩
      ·obtain ⟨t,t1,t2,t3⟩:=wR (key:=key) (gj.mpr hu)
       obtain ⟨w,w1,w2,w3⟩:=mz v hv
       rw [<- t3,<- w3]
       exact low t w t1 w1 (by lia)
      ·obtain ⟨w,w1,w2,w3⟩:=Zb (key:=key) hv
       rcases Τ.mp hu with h | h
       ·obtain ⟨t,t1,t2,t3⟩:=wR (key:=key) (gj.mpr h)
        rw [<- t3,<- w3]
        exact low t w t1 (by lia) (by lia)
       ·obtain ⟨t,t1,t2,t3⟩:=mz u h
        rw [<- t3,<- w3]
        exact high t w t1 t2 w1 (by lia)
     have:=yu up (i:=0) (n:=az.size) (by lia)
     rwa [bL] at this
   by_cases h5:n - k<=l
   ·rw [if_pos h5]
    refine μ (zcy L ⟨gx,gy,ux,uy,fun i u hi hu v hv=>?_⟩ d (by lia) (by lia) (fun t ht=>?_) fun z st' d' ok=>fin z st' d' ok)
    ·have e:=kk_ex (key:=key) (a:=υ st) (lo:=k) (hi:=n) (t:=i) (by lia) (by lia)
     have:kk key ((υ st).extract k n) i=key u:=by unfold kk;rw [hu];rfl
     rw [<- this,e,show k+i=n - 1 by lia]
     obtain ⟨t,t1,t2,t3,t4⟩:=U0 (key:=key) hv (by lia)
     rw [<- t4]
     exact ϑ (l2 t t1 t2)
    ·rw [kk_ex (by lia) (by lia),kk_ex (by lia) (by lia),m7]
     exact ϑ (k3 _ (by lia) (by lia))
   ·rw [if_neg h5]
    refine μ (zcz L ⟨gx,gy,ux,uy,fun t ht=>?_⟩ d (by lia) (by lia) (fun t ht=>?_) fun z st' d' ok=>fin z st' d' ok)
    ·rw [kk_ex (by lia) (by lia),kk_ex (by lia) (by lia),m7]
     exact ϑ (k3 _ (by lia) (by lia))
    ·rw [kk_ex (by lia) (by lia),kk_ex (by lia) (by lia),sx,show k+(n - k - 1)=n - 1 by lia]
     exact ϑ (l2 _ (by lia) (by lia))
end
section
variable {az:Array ψ}
theorem Ja {n:Nat}(h2:2<=n) (h:n < 128):∃ r,minRun' n n 0=r/\1<=r/\r<=n/\n<=2*r:=by
 obtain ⟨f,rfl⟩:∃ f,n=f+2:=⟨n - 2,by lia⟩
 refine ⟨_,rfl,?_⟩
 rw [show minRun' (f+2) (f+2) 0=if f+2 < 64 then f+2+0 else minRun' (f+1) ((f+2) / 2) (max 0 ((f+2) % 2)) from rfl]
 by_cases h1:f+2 < 64
 ·rw [if_pos h1];lia
 ·rw [if_neg h1,show minRun' (f+1) ((f+2) / 2) (max 0 ((f+2) % 2))=if (f+2) / 2 < 64 then (f+2) / 2+max 0 ((f+2) % 2) else minRun' f ((f+2) / 2 / 2) (max (max 0 ((f+2) % 2)) ((f+2) / 2 % 2)) from rfl,if_pos (by lia)]
  lia
def Rn (key:ψ->O.α) (G:ψ->Prop) (kd:eX) (az:Array ψ) (r lo:Nat) (st:Ι):Prop:=
 (lo=0/\Bs G kd az #[] st)\/(1<=lo/\(r<=lo\/lo=az.size)/\Bs G kd az #[(0,lo,0)] st/\Srt key (υ st) 0 lo) \/
 (lo=az.size/\∃ n m pw,1<=n/\1<=m/\n+m=az.size/\Bs G kd az #[(0,n,pw),(n,m,0)] st/\Srt key (υ st) 0 n/\Srt key (υ st) n (n+m))
theorem zaP (L:LtOk O key G kd M A E s) {st:Ι}(b:Bs G kd az #[] st) (h2:2<=az.size) (h128:az.size < 128) {Q:Unit->Ι->Prop}
  (q:∀ st',(υ st').Perm az->cZ st'=none->Srt key (υ st') 0 az.size->Q () st'):wpS M A E s sortRuns' Q st:=by
 obtain ⟨r,hr,r1,r2,r3⟩:=Ja h2 h128
 rw [sortRuns'_eq]
 refine μ (dg ?_)
 dsimp only
 rw [b.size,hr]
 refine μ (aP (Ϫ (I:=fun x c st'=>∃ lo,c=(none,lo)/\lo<=az.size/\(lo=az.size\/x<=lo)/\Rn key G kd az r lo st') (Q:=fun c st'=>c=(none,az.size)/\Rn key G kd az r az.size st') ?_ ?_ ⟨0,rfl,by lia,.inr (ν _),.inl ⟨rfl,b⟩⟩) ?_)
 ·rintro x c st1 _ hx ⟨lo,rfl,hlo,hp,rn⟩
  dsimp only
  by_cases hg:lo >= az.size
  ·rw [if_pos hg]
   obtain rfl:lo=az.size:=by lia
   exact Β ⟨rfl,rn⟩
  ·rw [if_neg hg]
   rcases rn with ⟨rfl,b1⟩ | ⟨l1,l2,b1,s1⟩ | ⟨e,_⟩
   ·refine μ (Y9 L b1 (by lia) (by lia) fun m st2 b2 m1 m2 ms _=>?_)
    dsimp only
    by_cases hm:m < r
    ·rw [if_pos hm]
     refine μ (fX (bw ⟨rfl,?_⟩))
     refine μ (Q3 L b2 m1 (by lia) (by lia) ms fun st3 b3 ss _=>?_)
     rw [if_neg (by decide)]
     refine μ (dg ?_)
     rw [show (aU st3)=#[] from b3.pend,show (#[]:Array (Nat×Nat×Nat)).back?=none from rfl]
     refine μ (cD (Β ⟨0+min (az.size - 0) r,rfl,by lia,.inr (by lia),.inr (.inl ⟨by lia,by lia,⟨b3.perm,b3.good,b3.kind,b3.failed,?_⟩,ss⟩)⟩))
     show (aU st3).push _=_
     rw [b3.pend,bL];rfl
    ·rw [if_neg hm]
     refine μ (dg ?_)
     rw [show (aU st2)=#[] from b2.pend,show (#[]:Array (Nat×Nat×Nat)).back?=none from rfl]
     refine μ (cD (Β ⟨0+m,rfl,by lia,.inr (by lia),.inr (.inl ⟨by lia,by lia,⟨b2.perm,b2.good,b2.kind,b2.failed,?_⟩,ms⟩)⟩))
     show (aU st2).push _=_
     rw [b2.pend,bL];rfl
   ·have same:∀ st',(∀ k,k < lo->(υ st')[k]?=(υ st1)[k]?)->Srt key (υ st') 0 lo:=fun st' h i j a c e=>by
     rw [kk_of (h i (by lia)),kk_of (h j e)];exact s1 i j a c e
    refine μ (Y9 L b1 (by lia) (by lia) fun m st2 b2 m1 m2 ms mq=>?_)
    dsimp only
    by_cases hm:m < r
    ·rw [if_pos hm]
     refine μ (fX (bw ⟨rfl,?_⟩))
     refine μ (Q3 L b2 m1 (by lia) (by lia) ms fun st3 b3 t2 bq=>?_)
     have t1:=same st3 fun k hk=>(bq k hk).trans (mq k hk)
     rw [if_neg (by decide)]
     refine μ (dg ?_)
     rw [show (aU st3)=#[(0,lo,0)] from b3.pend,show (#[(0,lo,0)]:Array (Nat×Nat×Nat)).back?=some (0,lo,0) from rfl]
     dsimp only
     refine μ (aP (Ϫ (I:=fun _ c st'=>c=(none,())/\st'=st3) (Q:=fun c st'=>c=(none,())/\st'=st3) ?_ (fun _ _ h=>h) ⟨rfl,rfl⟩) ?_)
     ·rintro _ c st' _ _ ⟨rfl,rfl⟩
      refine μ (dg ?_)
      rw [b3.pend]
      exact Β ⟨rfl,rfl⟩
     ·rintro c st' ⟨rfl,rfl⟩
      refine μ (cD (μ (cD (Β ⟨lo+min (az.size - lo) r,rfl,by lia,.inl (by lia),.inr (.inr ⟨by lia,lo,min (az.size - lo) r,power' az.size (2*0+lo) (2*0+lo+lo+min (az.size - lo) r) az.size,by lia,by lia,by lia,⟨b3.perm,b3.good,b3.kind,b3.failed,?_⟩,?_,?_⟩)⟩))))
      ·show (((aU st').modify ((aU st').size - 1) _).push _)=_
       rw [b3.pend]
       rfl
      ·exact t1
      ·exact t2
    ·rw [if_neg hm]
     have t1:=same st2 mq
     have t2:=ms
     refine μ (dg ?_)
     rw [show (aU st2)=#[(0,lo,0)] from b2.pend,show (#[(0,lo,0)]:Array (Nat×Nat×Nat)).back?=some (0,lo,0) from rfl]
     dsimp only
     refine μ (aP (Ϫ (I:=fun _ c st'=>c=(none,())/\st'=st2) (Q:=fun c st'=>c=(none,())/\st'=st2) ?_ (fun _ _ h=>h) ⟨rfl,rfl⟩) ?_)
     ·rintro _ c st' _ _ ⟨rfl,rfl⟩
      refine μ (dg ?_)
      rw [b2.pend]
      exact Β ⟨rfl,rfl⟩
     ·rintro c st' ⟨rfl,rfl⟩
      refine μ (cD (μ (cD (Β ⟨lo+m,rfl,by lia,.inl (by lia),.inr (.inr ⟨by lia,lo,m,power' az.size (2*0+lo) (2*0+lo+lo+m) az.size,by lia,by lia,by lia,⟨b2.perm,b2.good,b2.kind,b2.failed,?_⟩,?_,?_⟩)⟩))))
      ·show (((aU st').modify ((aU st').size - 1) _).push _)=_
       rw [b2.pend]
       rfl
      ·exact t1
      ·exact t2
   ·lia
 ·rintro c st1 ⟨lo,rfl,hlo,hp,rn⟩
  obtain rfl:lo=az.size:=by lia
  exact ⟨rfl,rn⟩
 ·rintro c st1 ⟨rfl,rn⟩
  dsimp only
  refine μ (aP (Ϫ (I:=fun y c st'=>c=(none,())/\((y=0/\Rn key G kd az r az.size st')\/∃ p,p.size<=1/\Bs G kd az p st'/\Srt key (υ st') 0 az.size)) (Q:=fun c st'=>c=(none,())/\∃ p,p.size<=1/\Bs G kd az p st'/\Srt key (υ st') 0 az.size) ?_ ?_ ⟨rfl,.inl ⟨rfl,rn⟩⟩) ?_)
  ·rintro y c st2 _ hy ⟨rfl,h⟩
   refine μ (dg ?_)
   have h':(∃ p,p.size<=1/\Bs G kd az p st2/\Srt key (υ st2) 0 az.size)\/∃ n m pw,1<=n/\1<=m/\n+m=az.size/\Bs G kd az #[(0,n,pw),(n,m,0)] st2/\Srt key (υ st2) 0 n/\Srt key (υ st2) n (n+m):=by
    rcases h with ⟨_,⟨h,_⟩ | ⟨_,_,b,s⟩ | ⟨_,h⟩⟩ | h
    ·lia
    ·exact .inl ⟨_,ν _,b,s⟩
    ·exact .inr h
    ·exact .inl h
   rcases h' with ⟨p,hp,b,s⟩ | ⟨n,m,pw,n1,m1,hn,b,s1,s2⟩
   ·rw [b.pend,if_pos hp]
    exact Β ⟨rfl,p,hp,b,s⟩
   ·rw [b.pend,if_neg (by show ¬ 2<=1;decide)]
    refine μ (zcA L b n1 m1 hn s1 s2 fun st3 b3 s3=>?_)
    exact Β ⟨rfl,.inr ⟨_,ν _,b3,s3⟩⟩
  ·rintro c st2 ⟨hc,⟨h,_⟩ | h⟩
   ·lia
   ·exact ⟨hc,h⟩
  ·rintro c st2 ⟨rfl,p,hp,b,hs⟩
   exact Β (q st2 b.perm b.failed hs)
end
noncomputable def lexB:List Int->List Int->Bool
 | [],[]=>false
 | [],_::_=>true
 | _::_,[]=>false
 | a::x,b::y=>if a=b then lexB x y else decide (a < b)
theorem U8:∀ x,lexB x x=false
 | []=>rfl
 | a::x=>by unfold lexB;rw [if_pos rfl];exact U8 x
theorem zar:∀ x y z,lexB x y=true->lexB y z=true->lexB x z=true
 | [],[],z,h,_=>by cases h
 | [],_::_,[],_,h=>by cases h
 | [],_::_,_::_,_,_=>rfl
 | _::_,[],z,h,_=>by cases h
 | _::_,_::_,[],_,h=>by cases h
 | a::x,b::y,c::z,h,k=>by
  unfold lexB at h k ⊢
  by_cases h1:a=b
  ·rw [if_pos h1] at h
   subst h1
   by_cases h2:a=c
   ·rw [if_pos h2] at k ⊢
    exact zar x y z h k
   ·rw [if_neg h2] at k ⊢
    exact k
  ·rw [if_neg h1] at h
   have h:=of_decide_eq_true h
   by_cases h2:b=c
   ·subst h2
    rw [if_neg h1];exact decide_eq_true h
   ·rw [if_neg h2] at k
    have k:=of_decide_eq_true k
    rw [if_neg (by omega)];exact decide_eq_true (by omega)
theorem U7:∀ x y z,lexB x z=true->lexB x y=true\/lexB y z=true
 | [],[],z,h=>.inr h
 | [],_::_,z,h=>.inl rfl
 | _::_,y,[],h=>by cases h
 | _::_,[],_::_,h=>.inr rfl
 | a::x,b::y,c::z,h=>by
  unfold lexB at h ⊢
  by_cases h1:a=b
  ·subst h1
   by_cases h2:a=c
   ·rw [if_pos h2] at h
    rw [if_pos rfl,if_pos h2]
    exact U7 x y z h
   ·rw [if_neg h2] at h
    right;rw [if_neg h2];exact h
  ·rw [if_neg h1]
   by_cases h2:a=c
   ·by_cases h3:a < b
    ·exact .inl (decide_eq_true h3)
    ·right;rw [if_neg (by lia)];exact decide_eq_true (by lia)
   ·rw [if_neg h2] at h
    have h:=of_decide_eq_true h
    by_cases h3:a < b
    ·exact .inl (decide_eq_true h3)
    ·right;rw [if_neg (by lia)];exact decide_eq_true (by lia)
theorem YD:∀ x y,lexB x y=false->lexB y x=false->x=y
 | [],[],_,_=>rfl
 | [],_::_,h,_=>by cases h
 | _::_,[],_,h=>by cases h
 | a::x,b::y,h,k=>by
  unfold lexB at h k
  by_cases h1:a=b
  ·subst h1
   rw [if_pos rfl] at h k
   rw [YD x y h k]
  ·rw [if_neg h1] at h
   rw [if_neg (fun e=>h1 e.symm)] at k
   have h:=of_decide_eq_false h
   have k:=of_decide_eq_false k
   omega
noncomputable def lexO:ϙ:=⟨List Int,lexB,U8,zar,U7,YD⟩
def IntsV:List δ->List Int->Prop
 | [],[]=>True
 | v::vs,n::ns=>(∃ t,v=.int n t)/\IntsV vs ns
 | _,_=>False
section
variable {prog:Ω}{w:ϥ}
theorem zap {Q:Bool->ο->Prop}{fin:Bool}:∀ (xs ys:List δ) (as bs:List Int) (i:Nat),IntsV xs as->IntsV ys bs->fin=decide (xs.length < ys.length)->Q (lexB as bs) s->W.KatLex prog w A true fin Q (xs.zip ys) i s
 | [],[],[],[],i,_,_,hf,q=>by
  subst hf;exact q
 | [],_::_,[],_::_,i,_,_,hf,q=>by
  subst hf
  show Q _ s
  rw [show decide (([]:List δ).length < (_::_:List δ).length)=true by simp];exact q
 | _::_,[],_::_,[],i,_,_,hf,q=>by
  subst hf
  show Q _ s
  rw [show decide ((_::_:List δ).length < ([]:List δ).length)=false by simp];exact q
 | x::xs,y::ys,a::as,b::bs,i,⟨⟨t,e1⟩,h1⟩,⟨⟨u,e2⟩,h2⟩,hf,q=>by
  subst e1 e2
  unfold lexB at q
  refine W.kat_cons (wpAny_eqBool_int (W.kat_go (fun e=>W.kat_yes ?_) fun e=>W.kat_no ?_))
  ·rw [if_pos (eq_of_beq e)] at q
   exact zap xs ys as bs (i+1) h1 h2 (by rw [hf];simp) q
  ·rw [if_neg (by intro h;subst h;simp at e)] at q
   cases hi:i==0 with
   | true=>exact oneLt_int q
   | false=>exact W.kat_one _ _ (lt_int q)
 | [],_,_::_,_,_,h,_,_,_=>h.elim
 | _::_,_,[],_,_,h,_,_,_=>h.elim
 | _,[],_,_::_,_,_,h,_,_=>h.elim
 | _,_::_,_,[],_,_,h,_,_=>h.elim
def Gt (kz:δ->List Int) (h:Heap) (x:ψ):Prop:=∃ a o xs n,x.1=.ref a/\h.get? a=some o/\o.data=.seq xs n/\IntsV xs.toList (kz x.1)
theorem lt_ok {kz:δ->List Int}{G:ψ->Prop}(hg:∀ x,G x->Gt kz s.heap x):LtOk lexO (fun x=>kz x.1) G (tuples' true) (Χ prog w) A E s:=by
 intro x y st Q gx gy hk q
 obtain ⟨a,o,xs,n,e1,e2,e3,e4⟩:=hg x gx
 obtain ⟨b,u,ys,m,f1,f2,f3,f4⟩:=hg y gy
 rw [lt'_eq]
 refine μ (dg ?_)
 rw [hk,e1,f1]
 refine μ (fX (cX (W.kat_lt e2 e3 f2 f3 (zap _ _ _ _ 0 e4 f4 (by simp) ⟨rfl,Β q⟩))))
end
section
variable {prog:Ω}{w:ϥ}{kz:δ->List Int}
structure Tu (kz:δ->List Int) (h:Heap) (v:δ):Prop where
 it:∃ b o xs m,v=.ref b/\h.get? b=some o/\o.cls=.type "tuple"/\o.data=.seq xs m/\IntsV xs.toList (kz v)
 ne:kz v≠[]
theorem Tu.keep {h h':Heap}{v:δ}(t:Tu kz h v) (k:∀ b o,v=.ref b->h.get? b=some o->h'.get? b=some o):Tu kz h' v:=by
 obtain ⟨⟨b,o,xs,m,e1,e2,e3,e4,e5⟩,n⟩:=t
 exact ⟨⟨b,o,xs,m,e1,k b o e1 e2,e3,e4,e5⟩,n⟩
theorem tups {h:Heap}:∀ (vs:List δ),(∀ v∈vs,Tu kz h v)->∃ fs,fs.length=vs.length/\W.KatTups h vs fs/\∀ v∈fs,∃ n t,v=ϗ n t
 | [],_=>⟨[],rfl,W.KatTups.nil,fun v h=>nomatch h⟩
 | v::vs,hv=>by
  obtain ⟨fs,e,t,q⟩:=tups vs fun u hu=>hv u (ι _ hu)
  obtain ⟨⟨b,o,xs,m,e1,e2,e3,e4,e5⟩,n⟩:=hv v ς
  obtain ⟨k,ks,hk⟩:=List.exists_cons_of_ne_nil n
  rw [hk] at e5
  cases hx:xs.toList with
  | nil=>rw [hx] at e5;exact e5.elim
  | cons u us=>
   rw [hx] at e5
   obtain ⟨⟨t',e6⟩,_⟩:=e5
   have h0:xs[0]?=some u:=by
    have:xs.toList[0]?=some u:=by rw [hx];rfl
    simpa using this
   subst e1
   refine ⟨u::fs,by simp [e],W.KatTups.cons e2 e3 e4 h0 t,fun v hv=>?_⟩
   rcases Ξ.mp hv with rfl | hv
   ·exact ⟨k,t',e6⟩
   ·exact q v hv
theorem zej:((ϐ "int":δ) != ϐ "tuple")=true:=by decide +kernel
theorem zb3 {vs:List δ}(hne:0 < vs.length) (hv:∀ v∈vs,Tu kz s.heap v) {Q:eX->ο->Prop}(q:Q (tuples' true) s):Λ (Χ prog w) A (keyKind' vs.toArray) Q E s:=by
 obtain ⟨fs,e,t,f⟩:=tups vs hv
 refine W.kat_kind (T:=.type "int") t (by lia) (fun v hv=>?_) (by decide +kernel) (by rw [zej];exact q)
 obtain ⟨n,t,rfl⟩:=f v hv
 exact fun _ _ _ _ _ q=>η q
def Z8 (kz:δ->List Int) (vs out:List δ):Prop:=out.Perm vs/\out.Pairwise fun x y=>lexB (kz y) (kz x)=false
theorem jG:∀ (vs:List δ),vs.zip vs=vs.map fun v=>(v,v)
 | []=>rfl
 | v::vs=>by rw [bJ,jG vs];rfl
theorem jf {vs:List δ}{st:Ι}(h:(υ st).Perm (vs.toArray.zip vs.toArray)) (hs:Srt (O:=lexO) (fun x=>kz x.1) (υ st) 0 (vs.toArray.zip vs.toArray).size):Z8 kz vs ((υ st).map (·.2)).toList:=by
 have hz:(vs.toArray.zip vs.toArray).toList=vs.map fun v=>(v,v):=by
  rw [n6]
  exact jG vs
 have p:=cg.mp h
 rw [hz] at p
 have same:∀ x∈(υ st).toList,x.1=x.2:=fun x hx=>by
  obtain ⟨v,_,rfl⟩:=aM.mp (p.mem_iff.mp hx)
  rfl
 refine ⟨?_,?_⟩
 ·rw [n8]
  have:=p.map (fun x:ψ=>x.2)
  rwa [eO,show ((fun x:ψ=>x.2)∘fun v=>(v,v))=(id:δ->δ) from rfl,List.map_id] at this
 ·rw [n8,dm]
  refine fG.mpr fun i j h1 h2 h3=>?_
  have hsz:(υ st).size=(vs.toArray.zip vs.toArray).size:=h.size_eq
  have hj:j < (υ st).size:=by simpa using h2
  have:=hs i j (bF _) (by omega) (by omega)
  unfold kk at this
  rw [getElem?_pos (υ st) i (by omega),getElem?_pos (υ st) j hj] at this
  have e1:=same (υ st)[i] (by simp)
  have e2:=same (υ st)[j] (by simp)
  have h4:lexB (kz (υ st)[j].1) (kz (υ st)[i].1)=false:=this
  rw [e1,e2] at h4
  simpa using h4
theorem V0 {a:Addr}{vs:List δ}{n:Nat}{P:Fin->ο->Prop}(ho:s.heap.get? a=some (aG "list" vs.toArray n)) (hv:∀ v∈vs,Tu kz s.heap v) (hn:∀ v∈vs,v≠.ref a) (h128:vs.length < 128)
  (h:∀ out:Array δ,Z8 kz vs out.toList->P (.done (.ret .none)) { s with heap:=m5 s.heap a vs out }):Λ (Χ prog w) A (Φ.«list.sort» ⟨[.ref a],[]⟩) P E s:=by
 have ha:a < s.heap.objs.size:=χ ho
 have hsl:vs.length<=sizeLine:=by rw [bu];lia
 obtain ⟨e1,ho1⟩:∃ e1,(s.heap.update a (aD fun _=>#[])).get? a=some (aG "list" #[] e1):=⟨_,get?_update_seq ho (fun _=>#[])⟩
 rw [list_sort_plain]
 refine γ (listItems_at ho rfl (γ (listUpdate_at ho rfl (γ (seqEpoch_at ho1 rfl (γ (mY (γ (nC (bj ?_) (bF _))) (by simpa using hsl))))) (by simpa using hsl) (bF _))))
 have ho6:(((s.heap.update a (aD fun _=>#[])).push (aG "tuple" vs.toArray 0)).push (aG "list" #[] 0)).get? a=some (aG "list" #[] e1):=
  ζ _ (ζ _ ho1)
 have kp:∀ b o,b≠a->s.heap.get? b=some o->(((s.heap.update a (aD fun _=>#[])).push (aG "tuple" vs.toArray 0)).push (aG "list" #[] 0)).get? b=some o:=fun b o hb e=>
  ζ _ (ζ _ (by rw [nJ _ _ _ _ hb];exact e))
 show Λ (Χ prog w) A _ P E { s with heap:=((s.heap.update a (aD fun _=>#[])).push (aG "tuple" vs.toArray 0)).push (aG "list" #[] 0) }
 have hv6:∀ v∈vs,Tu kz (((s.heap.update a (aD fun _=>#[])).push (aG "tuple" vs.toArray 0)).push (aG "list" #[] 0)) v:=fun v hm=>
  (hv v hm).keep fun b o e=>kp b o fun eb=>hn v hm (by rw [e,eb])
 have tail:∀ st':Ι,Z8 kz vs ((υ st').map (·.2)).toList->((υ st').map (·.2)).size=vs.length->cZ st'=none->Λ (Χ prog w) A (do
   let touched:=(<- seqEpoch a) != e1
   Φ.List.listUpdate (.ref a) fun _=>(υ st').map (·.2)
   if let some e:=cZ st' then rule "list.sort.comparison-raised";throw e
   if touched then rule "list.sort.modified";raiseError "ValueError" "list modified during sort"
   ret .none) P E { s with heap:=((s.heap.update a (aD fun _=>#[])).push (aG "tuple" vs.toArray 0)).push (aG "list" #[] 0) }:=fun st' k z f=>by
  refine γ (seqEpoch_at ho6 rfl (γ (listUpdate_at ho6 rfl ?_ (bF _) (by lia))))
  rw [f]
  simp only [bne_self_eq_false,aL,if_false]
  exact η (h _ k)
 have pz:(vs.toArray.zip vs.toArray).size=vs.length:=by simp
 by_cases h2:vs.toArray.size < 2
 ·rw [if_pos h2,if_pos h2]
  refine γ (η ?_)
  dsimp only
  rw [StateT.run_pure]
  refine γ (η ?_)
  refine tail (iC general' (vs.toArray.zip vs.toArray) #[] 7 none) (jf (Array.Perm.refl _) fun i j a c e=>?_) (by rw [Array.size_map];exact pz) rfl
  have h2':vs.length < 2:=by simpa using h2
  obtain rfl:i=j:=by lia
  exact aO _
 ·have h2':2<=vs.length:=by simpa using h2
  rw [if_neg h2,if_neg h2]
  refine γ (zb3 (by lia) hv6 ?_)
  have L:LtOk lexO (fun x=>kz x.1) (fun x=>∃ v∈vs,x=(v,v)) (tuples' true) (Χ prog w) A E { s with heap:=((s.heap.update a (aD fun _=>#[])).push (aG "tuple" vs.toArray 0)).push (aG "list" #[] 0) }:=lt_ok fun x hx=>by
   obtain ⟨v,hm,rfl⟩:=hx
   obtain ⟨b,o,xs,m,q1,q2,q3,q4,q5⟩:=(hv6 v hm).it
   exact ⟨b,o,xs,m,q1,q2,q4,q5⟩
  have B:Bs (fun x=>∃ v∈vs,x=(v,v)) (tuples' true) (vs.toArray.zip vs.toArray) #[] (iC (tuples' true) (vs.toArray.zip vs.toArray) #[] 7 none):=⟨Array.Perm.refl _,fun x hx=>by
   rw [n6,show vs.toArray.toList=vs from rfl,jG] at hx
   obtain ⟨v,hm,rfl⟩:=aM.mp hx
   exact ⟨v,hm,rfl⟩,rfl,rfl,rfl⟩
  refine γ (cF (zaP (Q:=fun _ st'=>(υ st').Perm (vs.toArray.zip vs.toArray)/\cZ st'=none/\Srt (O:=lexO) (fun x=>kz x.1) (υ st') 0 (vs.toArray.zip vs.toArray).size) L B (by lia) (by lia) fun st' a1 a2 a3=>⟨a1,a2,a3⟩) ?_ fun _ _ e=>e)
  rintro ⟨⟨⟩,st'⟩ s' ⟨rfl,a1,a2,a3⟩
  exact tail st' (jf a1 a3) (by rw [Array.size_map,a1.size_eq];exact pz) a2
theorem VR {l:Addr}{vs:List δ}{Q:δ->ο->Prop}(hl:s.heap.IsList l vs.toArray) (hv:∀ v∈vs,Tu kz s.heap v) (h128:vs.length < 128)
  (h:∀ out:Array δ,Z8 kz vs out.toList->Q (.ref (s.heap.objs.size+1)) { s with heap:=sortedAll s.heap vs out }):Λ (Χ prog w) A (call (.builtin "sorted") [.ref l]) Q E s:=by
 have hsl:vs.length<=sizeLine:=by rw [bu];lia
 refine lQ kind_sorted plain_sorted entry_sorted (args_sorted1 _) ?_
 unfold Φ.«sorted»
 refine γ (m:=checkCount "sorted" 1 1 _) (η (γ (collect_list hl (γ (nC ?_ (by simpa using hsl))) (by simpa using hsl))))
 have e1:((s.heap.push (aG "list" #[] 0)).update s.heap.objs.size (aD (·++vs.toArray))).objs.size=s.heap.objs.size+1:=by rw [Heap.size_update,size_push']
 have e2:(((s.heap.push (aG "list" #[] 0)).update s.heap.objs.size (aD (·++vs.toArray))).push (aG "list" vs.toArray 0)).get? (s.heap.objs.size+1)=some (aG "list" vs.toArray 0):=by
  rw [<- e1];exact ω _ rfl
 have kp:∀ b o,s.heap.get? b=some o->(((s.heap.push (aG "list" #[] 0)).update s.heap.objs.size (aD (·++vs.toArray))).push (aG "list" vs.toArray 0)).get? b=some o:=fun b o q=>by
  have hb:=χ q
  exact ζ _ (by rw [nJ _ _ _ _ (ϋ hb)];exact ζ _ q)
 show Λ _ _ _ _ _ { s with heap:=((s.heap.push (aG "list" #[] 0)).update s.heap.objs.size (aD (·++vs.toArray))).push (aG "list" vs.toArray 0) }
 rw [e1]
 refine γ (bj (Ϙ slot_list_sort ⟨_,e2,rfl⟩ entry_list_sort (V0 (kz:=kz) e2 (fun v hm=>(hv v hm).keep fun b o _=>kp b o) (fun v hm e=>?_) h128 fun out k=>⟨_,rfl,η ⟨_,rfl,h out k⟩⟩) (args_list_sort _)))
 obtain ⟨b,o,xs,m,q1,q2,_⟩:=(hv v hm).it
 rw [q1] at e
 have lt:=χ q2
 rw [Δ.inj e] at lt
 exact Nat.not_lt.mpr (Nat.le_succ _) lt
end
open PySem PyProof.Rows PySem.W
section
variable {prog:Ω}{w:ϥ}{kz:δ->List Int}
theorem YZ {T:String}{r d:Addr}{n:Nat}{P:Nat->δ->Prop}{OK:Heap->Prop}{R:List δ->ο->Prop}(K:KdlSrc prog w T r d n P OK) (hh:A.handled=none) (hok:OK s.heap) (hn:n<=sizeLine)
  (h:∀ (h':Heap) (tk:Nat) (acc:Array δ),s.heap.objs.size<=h'.objs.size->(∀ b o,s.heap.get? b=some o->h'.get? b=some o)->ItemsOf P acc n->R acc.toList { s with heap:=h',toks:=tk }):Λ (Χ prog w) A (collect (.ref r)) R E s:=by
 have hlt:=K.there _ hok
 have hS:(s.heap.push { cls:=.type "list",data:=.seq ([]:List δ).toArray }).get? s.heap.objs.size=some { cls:=.type "list",data:=.seq #[] }:=ω _ rfl
 have fin:∀ (q:Result) (s':ο),(∃ (h':Heap) (tk:Nat) (acc:Array δ) (c:Nat),q=.ok (.ret (.ref s.heap.objs.size))/\s'={ s with heap:=h',toks:=tk }/\(∀ b o,s.heap.get? b=some o->h'.get? b=some o) /\
   h'.get? s.heap.objs.size=some { cls:=.type "list",dict:=none,data:=.seq acc c,slots:=#[] }/\ItemsOf P acc n)->∃ (h':Heap) (tk:Nat) (acc:Array δ) (c:Nat),q=.ok (.ret (.ref s.heap.objs.size))/\s'={ s with heap:=h',toks:=tk } /\
   h'.get? s.heap.objs.size=some { cls:=.type "list",dict:=none,data:=.seq acc c,slots:=#[] }/\R acc.toList { s with heap:=h',toks:=tk }:=by
  rintro q s' ⟨h',tk,acc,c,e1,e2,hk,hc,hi⟩
  exact ⟨h',tk,acc,c,e1,e2,hc,h h' tk acc (gA (χ hc)) hk hi⟩
 unfold collect
 refine γ (wpAny_runValue (iB entry_proto_collect' ?_))
 rw [dH PySem.F.plain_proto_collect _]
 show Λ _ A.in1 (newList [] >>= fun l=>again (.builtin "list.__iadd__" ⟨[l,.ref r],[]⟩)) _ _ s
 refine γ (ϖ (η ⟨nG lK _,iB entry_list_iadd' ?_⟩))
 rw [dH lK _]
 refine cF (kdl_extend (A:=A) (s:={ s with heap:=s.heap.push { cls:=.type "list",data:=.seq ([]:List δ).toArray } }) (R:=fun q s'=>∃ (h':Heap) (tk:Nat) (acc:Array δ) (c:Nat),q=.ok (.ret (.ref s.heap.objs.size))/\s'={ s with heap:=h',toks:=tk }/\(∀ b o,s.heap.get? b=some o->h'.get? b=some o) /\
   h'.get? s.heap.objs.size=some { cls:=.type "list",dict:=none,data:=.seq acc c,slots:=#[] }/\ItemsOf P acc n) K hh (K.keep _ _ hok fun b _ o e=>ζ _ e) s.heap.objs.size (cB hlt.1) (cB hlt.2) (.ref s.heap.objs.size) 0 hS
  (fun h' tk acc c hk hS' hacc=>⟨h',tk,acc,c,rfl,rfl,fun b o e=>hk b o (ϋ (χ e)) (ζ _ e),hS',hacc⟩) hn) (fun f s' x=>?_) fun e s' x=>?_
 ·cases f with
  | done f=>
   obtain ⟨h',tk,acc,c,e,rfl,hc,hR⟩:=fin _ _ x
   cases e
   exact γ (wpAny_load hc (η hR))
  | again c₁=>
   refine ⟨x.1,ik x.2 fun q s₂ y=>?_⟩
   obtain ⟨h',tk,acc,c,rfl,rfl,hc,hR⟩:=fin _ _ y
   exact γ (wpAny_load hc (η hR))
 ·obtain ⟨_,_,_,_,e',_⟩:=x
  cases e'
theorem W0 {T:String}{r d:Addr}{n:Nat}{P:Nat->δ->Prop}{OK:Heap->Prop}{Q:δ->ο->Prop}(K:KdlSrc prog w T r d n P OK) (hh:A.handled=none) (hok:OK s.heap) (h128:n < 128)
  (hP:∀ acc:Array δ,ItemsOf P acc n->∀ v∈acc.toList,Tu kz s.heap v)
  (h:∀ (h':Heap) (tk:Nat) (acc out:Array δ),s.heap.objs.size<=h'.objs.size->(∀ b o,s.heap.get? b=some o->h'.get? b=some o)->ItemsOf P acc n->Z8 kz acc.toList out.toList ->
   Q (.ref h'.objs.size) { s with heap:=m5 (h'.push (aG "list" acc 0)) h'.objs.size acc.toList out,toks:=tk }):Λ (Χ prog w) A (call (.builtin "sorted") [.ref r]) Q E s:=by
 refine lQ kind_sorted plain_sorted entry_sorted (args_sorted1 _) ?_
 unfold Φ.«sorted»
 refine γ (m:=checkCount "sorted" 1 1 _) (η (γ (YZ K hh hok (by rw [bu];lia) fun h' tk acc hg hk hi=>?_)))
 have hsl:acc.toList.length<=sizeLine:=by rw [bu,aC,hi.1];lia
 refine γ (nC ?_ (by simpa using hsl))
 have e2:(h'.push (aG "list" acc.toList.toArray 0)).get? h'.objs.size=some (aG "list" acc.toList.toArray 0):=ω _ rfl
 show Λ _ _ _ _ _ { s with heap:=h'.push (aG "list" acc.toList.toArray 0),toks:=tk }
 refine γ (bj (Ϙ slot_list_sort ⟨_,e2,rfl⟩ entry_list_sort (V0 (kz:=kz) e2 (fun v hm=>(hP acc hi v hm).keep fun b o _ q=>ζ _ (hk b o q)) (fun v hm e=>?_) (by rw [aC,hi.1];exact h128) fun out k=>⟨_,rfl,η ⟨_,rfl,by simpa using h h' tk acc out hg hk hi k⟩⟩) (args_list_sort _)))
 obtain ⟨b,o,xs,m,q1,q2,_⟩:=(hP acc hi v hm).it
 rw [q1] at e
 have lt:=χ (hk _ _ q2)
 rw [Δ.inj e] at lt
 exact cL _ lt
end
section
variable {prog:Ω}{w:ϥ}
def Raw (h:Heap) (d:Addr) (es:Array aV) (ep:Nat):Prop:=∃ o,h.get? d=some o/\o.ExactDict/\o.data=.dict es ep
theorem Qn {it d:Addr}{i ep:Nat}{es:Array aV}{Q:Option δ->ο->Prop}(hit:s.heap.IsKeyIter it d i es.size ep) (hm:Raw s.heap d es ep) (hi:i < es.size)
  (hQ:∀ h',h'.IsKeyIter it d (i+1) es.size ep->ϛ it s.heap h'->Q (some es[i].key) { s with heap:=h' }):Λ (Χ prog w) A (gr (.ref it)) Q E s:=by
 obtain ⟨o,ho,hc,hd⟩:=id hit
 obtain ⟨od,hod,hcd,hdd⟩:=hm
 unfold gr
 refine γ (cX (Ϡ (name:=eV "__next__") hit.typeIs F.slot_dict_keyiterator_next
  (Ϙ F.slot_dict_keyiterator_next hit.typeIs F.entry_dict_keyiterator_next ?_ (F.args_dict_keyiterator_next_1 _))))
 refine γ (η (γ (γ (γ (bR hit.typeIs (η (γ (dJ ho hd ?_))))))))
 simp only [show cJ "dict_keyiterator"=false from by decide,aL,if_false]
 show Λ _ _ (if (Δ d==Κ)=true then _ else _) _ _ s
 rw [if_neg (show ¬ ((Δ d==Κ)=true) from Ο)]
 refine γ (η (γ (cA hod hdd ?_)))
 rw [if_neg (by simp)]
 refine γ (η (γ (di hod hdd ?_)))
 rw [if_neg (by simp)]
 refine η ?_
 simp only [show ¬ ((i:Int) < 0) from by lia,if_false,fV,aF hi]
 refine γ (γ (bR hit.typeIs (η (γ (wpAny_isOneOf_keyiter hit.typeIs ?_)))))
 show Λ _ _ (setField (.ref it) 1 (bz ((i:Int)+1)) >>= _) _ _ s
 refine γ (fY ho hd (by simp) ?_)
 have hit':(s.heap.update it (Obj.mapFields (·.setIfInBounds 1 (bz ((i:Int)+1))))).IsKeyIter it d (i+1) es.size ep:=
  ⟨_,gH _ ho (ni (fu hd _)),(Obj.cls_mapFields ..).trans hc,by rw [fu hd];simp [bz]⟩
 refine γ (bj (γ (wpAny_isOneOf_keyiter (s:={ s with heap:=s.heap.update it (Obj.mapFields (·.setIfInBounds 1 (bz ((i:Int)+1)))) }) hit'.typeIs ?_)))
 show Λ _ _ (pure es[i].key) _ _ _
 exact η (η ⟨_,rfl,η (hQ _ hit' (bT ..))⟩)
theorem zcd {it d:Addr}{ep:Nat}{es:Array aV}{Q:Option δ->ο->Prop}(hh:A.handled=none) (hit:s.heap.IsKeyIter it d es.size es.size ep) (hm:Raw s.heap d es ep)
  (hQ:∀ h',lD it s.heap h'->Q none { s with heap:=h' }):Λ (Χ prog w) A (gr (.ref it)) Q E s:=by
 obtain ⟨o,ho,hc,hd⟩:=id hit
 obtain ⟨od,hod,hcd,hdd⟩:=hm
 unfold gr
 refine γ (cX (Ϡ (name:=eV "__next__") hit.typeIs F.slot_dict_keyiterator_next
  (Ϙ F.slot_dict_keyiterator_next hit.typeIs F.entry_dict_keyiterator_next ?_ (F.args_dict_keyiterator_next_1 _))))
 refine γ (η (γ (γ (γ (bR hit.typeIs (η (γ (dJ ho hd ?_))))))))
 simp only [show cJ "dict_keyiterator"=false from by decide,aL,if_false]
 show Λ _ _ (if (Δ d==Κ)=true then _ else _) _ _ s
 rw [if_neg (show ¬ ((Δ d==Κ)=true) from Ο)]
 refine γ (η (γ (cA hod hdd ?_)))
 rw [if_neg (by simp)]
 refine γ (η (γ (di hod hdd ?_)))
 rw [if_neg (by simp)]
 refine η ?_
 simp only [show ¬ ((es.size:Int) < 0) from by lia,if_false,fV,gk (ν es.size)]
 refine γ (γ (bR hit.typeIs (η ?_)))
 show Λ _ _ (setField (.ref it) 0 .none >>= _) _ _ s
 refine γ (fY ho hd (by simp) ?_)
 show Λ _ _ (newExc (.type "StopIteration") [] >>= _) _ _ _
 refine γ ?_
 simp only [newExc,newTuple]
 refine γ (ϖ ?_ (by size_fits))
 refine γ (m:=iT _ _) (eQ (a:=Κ) (by first | rfl | (simp only [iT];rfl)) ?_)
 refine ϖ ?_ (by size_fits)
 simp only [raiseNew]
 refine γ (nD ?_)
 rw [show A.in1.handled=none from hh]
 refine γ (η (wpAny_throw ?_))
 refine γ (lU (T:="StopIteration") (b:=true) ⟨_,ω _ rfl,rfl⟩ m6 ?_)
 exact η (hQ _ (((bT ..).extBut.push _).push _))
theorem Raw.typeIs {d:Addr}{ep:Nat}{es:Array aV}(hm:Raw s.heap d es ep):s.TypeIs (.ref d) "dict":=let ⟨o,ho,hc,_⟩:=hm;⟨o,ho,hc.1⟩
theorem Raw.keep {h h':Heap}{d:Addr}{ep:Nat}{es:Array aV}(hm:Raw h d es ep) (k:∀ o,h.get? d=some o->h'.get? d=some o):Raw h' d es ep:=let ⟨o,ho,r⟩:=hm;⟨o,k o ho,r⟩
theorem Qy {d:Addr}{es:Array aV}{ep:Nat}{Q:δ->ο->Prop}(hd:(d==bx)=false) (hm:Raw s.heap d es ep)
  (hQ:Q (.ref s.heap.objs.size) { s with heap:=s.heap.push { cls:=.type "dict_keyiterator",data:=.fields #[.ref d,.int 0 0,.int es.size 0,.int ep 0] } }):Λ (Χ prog w) A (pyIter (.ref d)) Q E s:=by
 have hT:s.TypeIs (.ref d) "dict":=hm.typeIs
 obtain ⟨o,ho,hc,hdat⟩:=hm
 refine lG hT F.slot_dict_iter (Ϙ F.slot_dict_iter hT F.entry_dict_iter ?_ (F.args_dict_iter_1 _))
 unfold Φ.«dict.__iter__»
 refine γ ?_
 unfold Φ.Dict.dictSlotNone
 refine γ (wpAny_notOrdered_dict hT ?_)
 show Λ _ _ (pure (Δ d)) _ _ s
 refine η ?_
 show Λ _ _ (cO d >>= _) _ _ s
 unfold cO
 rw [if_neg (by rw [hd];exact Ο)]
 refine γ (η (γ (cA ho hdat (γ (di ho hdat ?_)))))
 refine γ (ϖ (η ⟨_,rfl,"dict_keyiterator",_,⟨_,ω _ rfl,rfl⟩,F.slot_dict_keyiterator_next.lookup,?_⟩))
 simpa [bz] using hQ
theorem za2 {d:Addr}{es:Array aV}{ep:Nat}(lo:(d==bx)=false):KdlSrc prog w "dict" d d es.size (fun i v=>∃ e,es[i]?=some e/\v=e.key) (fun h=>Raw h d es ep) where
 type:=fun _ hm=>hm.typeIs
 there:=fun _ hm=>by obtain ⟨o,ho,_⟩:=hm;exact ⟨χ ho,χ ho⟩
 keep:=fun _ _ hm hk=>hm.keep fun o e=>hk d (.inl rfl) o e
 notList:=by decide
 notTuple:=by decide
 hint:=fun _ _ _ _ hm hq=>kdl_hint_dict hm.typeIs hq
 iter:=fun A s hh hm=>by
  have hne:d≠s.heap.objs.size:=by obtain ⟨o,ho,_⟩:=hm;exact ϋ (χ ho)
  refine ⟨_,fun i h=>h.IsKeyIter s.heap.objs.size d i es.size ep/\Raw h d es ep,(fun _ _ hq=>Qy lo hm hq),⟨?_,?_,?_,?_,?_⟩,⟨⟨_,ω _ rfl,rfl,rfl⟩,hm.keep fun o e=>ζ _ e⟩⟩
  ·intro b hb;simp at hb;simp [hb]
  ·exact fun _ _ _ st hk=>⟨st.1.at fun o e=>hk _ (by simp) o e,st.2.keep fun o e=>hk d (by simp) o e⟩
  ·intro i s' Q E hi st hQ
   refine Qn st.1 st.2 hi fun h' hit' hs'=>?_
   exact hQ _ h' s'.toks ⟨_,aF hi,rfl⟩ ⟨hit',st.2.keep fun o e=>hs'.extBut d o hne e⟩ fun b o hb e=>hs'.extBut b o (fun h=>hb (by simp [h])) e
  ·exact fun s' Q E st hQ=>zcd hh st.1 st.2 fun h' he'=>hQ h' s'.toks fun b o hb e=>he' b o (fun h=>hb (by simp [h])) e
  ·exact fun _ _ _ _ st hQ=>wpAny_pyIter_keyiter st.1 hQ
end
end TS
namespace EV
open PySem L2
theorem non (h:false=true):false=true:=h
theorem nobE {p:Prop}(h:false=true):p:=nomatch h
inductive Ty where
 | int | bool | str | tuple | list | dict
 deriving DecidableEq
inductive BI where
 | len | abs | int | str | tuple | list | sum | all | any | isinst (t:Ty) | min2 | max2 | sorted | repr | dict
 deriving DecidableEq
inductive MT where
 | get1 | get2 | index | join | split
 deriving DecidableEq
inductive T where
 | one (i:Nat) | tup (is:List Nat) | nst (i:Nat) (is:List Nat)
 deriving DecidableEq
inductive E where
 | var (i:Nat) | con (d:D) | glo (n:Nat) (d:D)
 | bin (op:lH) (a b:E) | neg (a:E)
 | cmp (op:dZ) (a b:E) | chn (o1 o2:dZ) (a b c:E)
 | not (a:E) | and (a b:E) | or (a b:E)
 | ite (c a b:E)
 | tup (es:List E) | lst (es:List E) | dic (tk:Bool) (ks:List Key) (vs:List E)
 | sub (a i:E) | slc (a:E) (lo hi:Option E)
 | bi (b:BI) (es:List E) | mth (m:MT) (o:E) (es:List E)
 | call (f:Nat) (es:List E) | callk (f:Nat) (perm:List Nat) (es:List E) | callv (i:Nat) (es:List E)
 | comp (t:T) (js:List Nat) (it:E) (ifs:List E) (elt:E)
 | box (e:E) | one (e:E) | flip (e:E)
 | seq (e:E) | rng (lo:Option E) (hi:E) | enum (e:E) | zip (a b:E) | rev (e:E) | items (e:E)
inductive C where
 | set (t:T) (e:E)
 | expr (e:E)
 | ret (e:E) | retN
 | ite (c:E) (a b:List C)
 | whl (c:E) (b:List C)
 | forr (t:T) (it:E) (b:List C)
 | app (i:Nat) (e:E) | ext (i:Nat) (e:E)
 | stv (i:Nat) (k v:E) | sti (o k v:E) | appR (o e:E) | pop (i:Nat) | popR (t:T) (o:E) | popO (t:T) (i:Nat)
 | pass | brk | cnt | frz (i:Nat) | frr (i:Nat)
noncomputable def LIM:Nat:=1000000
noncomputable def fits (n:Nat):Bool:=n<=LIM
noncomputable def zM (i:Int):Bool:=decide (-(2 ^ 64) < i)&&decide (i < 2 ^ 64)
noncomputable def addD:D->D->Option (D×Bool)
 | .int i,.int j=>some (.int (i+j),false)
 | .str x,.str y=>if fits (x.length+y.length) then some (.str (x++y),false) else none
 | .tup a,.tup b=>if fits (a.length+b.length) then some (.tup (a++b),false) else none
 | .lst a,.lst b=>if fits (a.length+b.length) then some (.lst (a++b),true) else none
 | _,_=>none
noncomputable def mulD:D->D->Option (D×Bool)
 | .int i,.int j=>if zM i||zM j then some (.int (i*j),false) else none
 | .lst l,.int n=>if decide (0<=n)&&decide (n < 2 ^ 20)&&fits (l.length*n.toNat) then some (.lst (Ψ n.toNat l).flatten,true) else none
 | _,_=>none
noncomputable def num2 (f:Int->Int->Option Int):D->D->Option (D×Bool)
 | .int i,.int j=>(f i j).map fun k=>(.int k,false)
 | _,_=>none
noncomputable def opD (op:lH) (a b:D):Option (D×Bool):=match op with
 | .Add=>addD a b
 | .Sub=>num2 (fun i j=>some (i - j)) a b
 | .Mult=>mulD a b
 | .FloorDiv=>num2 (fun i j=>if decide (0 < j)&&decide (j < 2 ^ 64) then some (i / j) else none) a b
 | .Mod=>num2 (fun i j=>if decide (0 < j) then some (i % j) else none) a b
 | .Pow=>num2 (fun i j=>if decide (0<=j)&&decide (j<=1000000)&&zM i then some (i ^ j.toNat) else none) a b
 | _=>none
mutual
noncomputable def eqP:D->D->Bool
 | .non,.non=>true
 | .bl a,.bl b=>a==b
 | .bl a,.int j=>(if a then 1 else 0)==j
 | .int i,.bl b=>i==(if b then 1 else 0)
 | .int a,.int b=>a==b
 | .str a,.str b=>a==b
 | .tup a,.tup b=>eqPs a b
 | .lst a,.lst b=>eqPs a b
 | _,_=>false
noncomputable def eqPs:List D->List D->Bool
 | [],[]=>true
 | a::as,b::bs=>eqP a b&&eqPs as bs
 | _,_=>false
end
mutual
noncomputable def okP:Nat->D->Bool
 | _,.non=>true
 | _,.bl _=>true
 | _,.int _=>true
 | _,.str _=>true
 | 0,.tup _=>false
 | n+1,.tup a=>okPs n a
 | 0,.lst _=>false
 | n+1,.lst a=>okPs n a
 | _,_=>false
noncomputable def okPs:Nat->List D->Bool
 | _,[]=>true
 | n,a::as=>okP n a&&okPs n as
end
noncomputable def eqD (a b:D):Option Bool:=if okP 60 a&&okP 60 b then some (eqP a b) else none
noncomputable def keyD:D->Option Key
 | .int i=>some (.inl i)
 | .str x=>some (.inr x)
 | _=>none
noncomputable def keysD:List D->Option (List Key)
 | []=>some []
 | d::ds=>match keyD d,keysD ds with
  | some k,some ks=>some (k::ks)
  | _,_=>none
noncomputable def findK {κ:Type} [DecidableEq κ]:List κ->κ->Option Nat
 | [],_=>none
 | k::ks,x=>if k=x then some 0 else (findK ks x).map (·+1)
noncomputable def lookK {κ:Type} [DecidableEq κ] (ks:List κ) (ds:List D) (k:κ):Option D:=(findK ks k).bind fun i=>ds[i]?
noncomputable def mapK {κ α:Type} [DecidableEq κ]:List κ->List α->κ->α->List α
 | k::ks,d::ds,x,y=>(if k=x then y else d)::mapK ks ds x y
 | _,ds,_,_=>ds
noncomputable def hasK {κ:Type} [DecidableEq κ] (ks:List κ) (k:κ):Bool:=ks.any fun x=>decide (x=k)
noncomputable def putKs {κ α:Type} [DecidableEq κ] (ks:List κ) (ds:List α) (k:κ) (d:α):List κ×List α:=
 if hasK ks k=true then (ks,mapK ks ds k d) else (ks++[k],ds++[d])
noncomputable def isNone:D->Bool
 | .non=>true
 | _=>false
noncomputable def dgetD:D->D->Option (Option D)
 | .dK ks ds,k=>(keyD k).map (lookK ks ds)
 | .dT ks ds,.tup t=>(keysD t).map (lookK ks ds)
 | _,_=>none
noncomputable def isSc:D->Bool
 | .non=>true
 | .bl _=>true
 | .int _=>true
 | .str _=>true
 | _=>false
noncomputable def memD (l:List D) (d:D):Option Bool:=if isSc d&&l.all isSc then some (l.any fun y=>eqP y d) else none
noncomputable def deref (S:Store):D->D
 | .ref k=>(S[k]?).getD .non
 | d=>d
noncomputable def int2 (f:Int->Int->Bool):D->D->Option Bool
 | .int i,.int j=>some (f i j)
 | _,_=>none
noncomputable def isD (a:D):D->Option Bool
  | .non=>some (isNone a)
  | .bl b=>(match a with
    | .bl a=>some (a==b)
    | _=>none)
  | _=>none
noncomputable def inD (a:D):D->Option Bool
  | .lst l=>memD l a
  | .tup l=>memD l a
  | .ktp l=>memD l a
  | .str y=>(match a with
    | .str x=>some (!(eY y x 0 y.length 1).isEmpty)
    | _=>none)
  | .dK ks ds=>(dgetD (.dK ks ds) a).map (·.isSome)
  | .dT ks ds=>(dgetD (.dT ks ds) a).map (·.isSome)
  | _=>none
noncomputable def intsD:List D->Option (List Int)
 | []=>some []
 | .int i::r=>(intsD r).map (i::·)
 | _::_=>none
noncomputable def neD:D->D->Option Bool
 | .dK ks vs,.dK ks' vs'=>if decide (ks=ks')&&decide ks.Nodup&&decide (intsD vs=intsD vs')&&(intsD vs).isSome then some false else none
 | a,b=>(eqD a b).map (!·)
noncomputable def cmpD (op:dZ) (a b:D):Option Bool:=match op with
 | .Eq=>eqD a b
 | .NotEq=>neD a b
 | .Lt=>int2 (fun i j=>decide (i < j)) a b
 | .LtE=>int2 (fun i j=>decide (i<=j)) a b
 | .Gt=>int2 (fun i j=>decide (j < i)) a b
 | .GtE=>int2 (fun i j=>decide (j<=i)) a b
 | .Is=>isD a b
 | .IsNot=>(isD a b).map (!·)
 | .In=>inD a b
 | .NotIn=>(inD a b).map (!·)
noncomputable abbrev idx (n:Nat) (i:Int):Option Nat:=ixN n i
noncomputable def subD:D->D->Option D
 | .tup l,.int i=>(idx l.length i).bind fun k=>l[k]?
 | .lst l,.int i=>(idx l.length i).bind fun k=>l[k]?
 | .scr l,.int i=>(idx l.length i).bind fun k=>(l[k]?).map D.int
 | .str x,.int i=>if fits x.length then (idx x.cps.toList.length i).bind fun k=>(x.cps.toList[k]?).map fun c=>.str ⟨#[c]⟩ else none
 | .dK ks ds,k=>(dgetD (.dK ks ds) k).bind id
 | .dT ks ds,k=>(dgetD (.dT ks ds) k).bind id
 | _,_=>none
noncomputable def cutD (l:List D) (lo hi:Option Int):List D:=(l.drop (HT.sIx l.length 0 lo)).take (HT.sIx l.length l.length hi - HT.sIx l.length 0 lo)
noncomputable def slcD (d:D) (lo hi:Option Int):Option (D×Bool):=
 match d with
 | .tup l=>some (.tup (cutD l lo hi),false)
 | .lst l=>some (.lst (cutD l lo hi),true)
 | .scr l=>some (.lst (cutD (l.map D.int) lo hi),true)
 | .str x=>if fits x.length then some (.str (iU x lo hi),false) else none
 | _=>none
noncomputable def flipD:D->Option (D×Bool)
 | .lst l=>some (.lst l.reverse,true)
 | .tup l=>some (.tup l.reverse,false)
 | _=>none
noncomputable def uF:List D->Option (List Bool)
 | []=>some []
 | .bl b::r=>(uF r).map (b::·)
 | _::_=>none
noncomputable def isTy:Ty->D->Option Bool
 | t,.int _=>some (t==.int)
 | t,.bl _=>some (t==.bool||t==.int)
 | t,.str _=>some (t==.str)
 | t,.tup _=>some (t==.tuple)
 | t,.lst _=>some (t==.list)
 | t,.dK _ _=>some (t==.dict)
 | t,.non=>some false
 | _,_=>none
noncomputable def seqD:D->Option (List D)
 | .tup l=>some l
 | .lst l=>some l
 | .scr l=>some (l.map D.int)
 | .ktp l=>some l
 | _=>none
noncomputable def itrD:D->Option (List D)
 | .str x=>some (x.cps.toList.map fun c=>.str ⟨#[c]⟩)
 | d=>seqD d
noncomputable def lenD:D->Option (D×Bool)
 | .tup l=>some (.int l.length,false)
 | .lst l=>some (.int l.length,false)
 | .scr l=>some (.int l.length,false)
 | .str x=>if fits x.length then some (.int x.length,false) else none
 | .dK ks _=>some (.int ks.length,false)
 | _=>none
noncomputable def absD:D->Option (D×Bool)
 | .int i=>some (.int (if i < 0 then -i else i),false)
 | _=>none
noncomputable def intOf:D->Option (D×Bool)
 | .bl b=>some (.int (if b then 1 else 0),false)
 | .int i=>some (.int i,false)
 | _=>none
noncomputable def lotD:D->Option (List D)
 | .lst l=>some l
 | .tup l=>some l
 | _=>none
noncomputable def onL (f:List D->Option D):D->Option (D×Bool)
 | .lst l=>(f l).map fun d=>(d,false)
 | _=>none
mutual
noncomputable def pyD:Nat->D->Option PyData
 | _,.int i=>if decide (i.natAbs.log2 < 1920) then some (.int i) else none
 | _,.str x=>some (.str x)
 | n+1,.tup l=>(pyDs n l).map .tuple
 | _,_=>none
noncomputable def pyDs:Nat->List D->Option (List PyData)
 | _,[]=>some []
 | n,d::l=>(pyD n d).bind fun a=>(pyDs n l).map (a::·)
end
noncomputable def reprD (d:D):Option (D×Bool):=(pyD 40 d).bind fun p=>if fits p.shown.length then some (.str p.shown,false) else none
noncomputable def lexL:List Int->List Int->Bool
 | [],[]=>false
 | [],_::_=>true
 | _::_,[]=>false
 | a::x,b::y=>if a=b then lexL x y else decide (a < b)
noncomputable def insL (k:List Int):List (List Int)->List (List Int)
 | []=>[k]
 | x::l=>if lexL x k then x::insL k l else k::x::l
noncomputable def sortL:List (List Int)->List (List Int)
 | []=>[]
 | k::l=>insL k (sortL l)
noncomputable def xY:List D->Option (List (List Int))
 | []=>some []
 | .tup l::r=>(intsD l).bind fun k=>if k.isEmpty then none else (xY r).map (k::·)
 | _::_=>none
noncomputable def tupI (k:List Int):D:=.tup (k.map D.int)
noncomputable def keyOf:Key->D
 | .inl i=>.int i
 | .inr x=>.str x
noncomputable def yw:List (List Key)->List D->List D
 | k::ks,d::ds=>.tup [.tup (k.map keyOf),d]::yw ks ds
 | _,_=>[]
noncomputable def kInts:List Key->Option (List Int)
 | []=>some []
 | .inl i::r=>(kInts r).map (i::·)
 | _::_=>none
noncomputable def yO:List (List Key)->Option (List (List Int))
 | []=>some []
 | k::r=>(kInts k).bind fun n=>if n.isEmpty then none else (yO r).map (n::·)
noncomputable def srtD:D->Option (D×Bool)
 | .dT ks _=>(yO ks).bind fun ks=>if decide (ks.length < 128) then some (.lst ((sortL ks).map tupI),true) else none
 | .lst l=>(xY l).bind fun ks=>if decide (ks.length < 128) then some (.lst ((sortL ks).map tupI),true) else none
 | _=>none
noncomputable def copD:D->Option (D×Bool)
 | .dK ks vs=>some (.dK ks vs,true)
 | _=>none
noncomputable def strsD:List D->Option (List Str)
 | []=>some []
 | .str x::r=>(strsD r).map (x::·)
 | _::_=>none
noncomputable def strD:D->Option (D×Bool)
 | .int i=>if decide (i.natAbs.log2 < 1920) then some (.str (toString i),false) else none
 | .str x=>some (.str x,false)
 | _=>none
noncomputable def joinD (x:Str) (d:D):Option (D×Bool):=((lotD d).bind strsD).bind fun ys=>if fits ((ys.map (·.length)).sum+ys.length*x.length) then some (.str (PySem.Txt.join x ys),false) else none
noncomputable def zeH (x:Str):D->Option (D×Bool)
 | .str y=>if (!(y.length==0)&&fits x.length&&fits (fP x y).length)=true then some (.lst ((fP x y).map D.str),true) else none
 | _=>none
noncomputable def bi2:BI->D->D->Option (D×Bool)
 | .min2,d,e=>num2 (fun i j=>some (if j < i then j else i)) d e
 | .max2,d,e=>num2 (fun i j=>some (if j > i then j else i)) d e
 | _,_,_=>none
noncomputable def biD (b:BI) (ds:List D):Option (D×Bool):=match ds with
  | [d]=>(match b with
    | .len=>lenD d
    | .abs=>absD d
    | .int=>intOf d
    | .tuple=>(lotD d).map fun l=>(.tup l,false)
    | .sum=>onL (fun l=>(intsD l).map fun ns=>.int ns.sum) d
    | .any=>onL (fun l=>(uF l).map fun bs=>.bl (bs.any id)) d
    | .isinst t=>(isTy t d).map fun b=>(.bl b,false)
    | .sorted=>srtD d
    | _=>none)
  | [d,e]=>bi2 b d e
  | _=>none
noncomputable def idxD:List D->D->Option Nat
 | [],_=>none
 | d::ds,x=>if eqP d x=true then some 0 else (idxD ds x).map (·+1)
noncomputable def mthK:MT->D->Bool
 | .index,.lst _=>true
 | _,_=>false
noncomputable def mthD:MT->D->List D->Option (D×Bool)
 | .index,.lst l,[x]=>if okPs 59 l&&okP 59 x then (idxD l x).map fun (i:Nat)=>(.int (i:Int),false) else none
 | _,_,_=>none
noncomputable def nT:T->Nat
 | .one _=>1
 | .nst _ is=>1+is.length
 | .tup is=>is.length
noncomputable def enumD:Nat->List D->List D
 | _,[]=>[]
 | n,d::ds=>.tup [.int n,d]::enumD (n+1) ds
noncomputable def enumS:D->Option (List D)
 | .tup l=>some l
 | .lst l=>some l
 | _=>none
noncomputable def z8 (lo hi:Int):List D:=(ao (hi - lo).toNat).map fun (k:Nat)=>.int (lo+(k:Int))
noncomputable def dicOk (tk:Bool) (ks:List Key) (ds:List D):Bool:=decide (ks.length=ds.length)&&decide ks.Nodup&&decide (ks.length<=15)&&(!tk||ks.isEmpty)
inductive Slot where
 | no | sh (d:D) | ow (d:D)
 deriving Inhabited
inductive O where
 | next (ρ:List Slot) | ret (d:D) (fr:Bool) | brk (ρ:List Slot) | cnt (ρ:List Slot)
noncomputable def nst2:D->Option (D×List D)
  | .tup l=>(match l with
    | x::r=>(match r with
      | y::z=>(match z with
        | []=>(match y with
          | .tup ds=>some (x,ds)
          | _=>none)
        | _=>none)
      | _=>none)
    | _=>none)
  | _=>none
theorem zbU {d:D}{p:D×List D}(h:nst2 d=some p):d=.tup [p.1,.tup p.2]:=by
 cases d with
 | tup l=>
  cases l with
  | nil=>cases h
  | cons x r=>
   cases r with
   | nil=>cases h
   | cons y z=>
    cases z with
    | cons _ _=>cases h
    | nil=>
     cases y with
     | tup ds=>cases h;rfl
     | _=>cases h
 | _=>cases h
noncomputable def bindT (ρ:List Slot):T->D×Bool->Option (List Slot)
 | .one i,(d,fr)=>if i < ρ.length&&!isIns d then some (ρ.set i (if fr=true then .ow d else .sh d)) else none
 | .tup is,(.tup ds,_)=>if is.length=ds.length/\is.Nodup/\is.all (· < ρ.length) then some ((is.zip ds).foldl (fun r p=>r.set p.1 (.sh p.2)) ρ) else none
 | .nst i is,(d,_)=>(nst2 d).bind fun p=>if i < ρ.length/\is.length=p.2.length/\is.Nodup/\is.all (· < ρ.length) then some ((is.zip p.2).foldl (fun r p=>r.set p.1 (.sh p.2)) (ρ.set i (.sh p.1))) else none
 | _,_=>none
noncomputable def putD:D->D->D->Option D
 | .lst l,.int i,d=>(idx l.length i).map fun k=>.lst (l.set k d)
 | .dK ks ds,k,d=>(keyD k).bind fun k=>if fits (ks.length+1) then some (let p:=putKs ks ds k d;.dK p.1 p.2) else none
 | .dT ks ds,.tup t,d=>(keysD t).bind fun k=>if fits (ks.length+1) then some (let p:=putKs ks ds k d;.dT p.1 p.2) else none
 | _,_,_=>none
noncomputable def isLst:Option D->Bool
 | some (.lst _)=>true
 | _=>false
noncomputable def extD:D->Option (List D)
 | .lst l=>some l
 | _=>none
structure Fn where
 np:Nat
 nv:Nat
 body:List C
noncomputable def entry (fn:Fn) (ds:List D):List Slot:=ds.map Slot.sh++Ψ (fn.nv - ds.length) Slot.no
inductive Kd where
 | st | fr | bo
noncomputable abbrev Vl:=D×Kd
abbrev Po:=Vl->Store->Prop
abbrev Cf:=Nat->List D->Po->Store->Prop
noncomputable def kd:Bool->Kd
 | true=>.fr
 | false=>.st
noncomputable def ofB (p:D×Bool):Vl:=(p.1,kd p.2)
def opt {α:Type}:Option α->(α->Prop)->Prop
 | some a,Q=>Q a
 | none,_=>False
def opV (o:Option (D×Bool)) (Q:Vl->Prop):Prop:=opt o fun p=>Q (ofB p)
def optS:Option (List Slot)->(List Slot->Prop)->Prop:=opt
def tst:Bool->Prop->Prop->Prop
 | true,T,_=>T
 | false,_,F=>F
def isB:D->(Bool->Prop)->Prop
 | .bl b,Q=>Q b
 | _,_=>False
def isF:D->(Nat->Prop)->Prop
 | .fn f,Q=>Q f
 | _,_=>False
def isZ:D->(Int->Prop)->Prop
 | .int i,Q=>Q i
 | _,_=>False
def keep:Vl->(D->Prop)->Prop
 | (d,.st),Q=>Q d
 | (d,.fr),Q=>Q d
 | _,_=>False
def sel:Option Slot->(D->Prop)->(D->Prop)->Prop
 | some (.sh d),Q,_=>Q d
 | some (.ow d),_,Q=>Q d
 | _,_,_=>False
def rdV (s:Option Slot) (Q:Vl->Prop):Prop:=sel s (fun d=>Q (d,.st)) (fun d=>Q (d,.bo))
def boxd:Vl->(D->Prop)->Prop
 | (d,.fr),Q=>Q d
 | _,_=>False
def walkW (step:D->(Option D->Store->Prop)->Store->Prop):List D->List D->(List D->Store->Prop)->Store->Prop
 | [],acc,V,S=>V acc S
 | d::ds,acc,V,S=>step d (fun o S1=>match o with
  | some x=>tst (fits (acc.length+1)) (walkW step ds (acc++[x]) V S1) False
  | none=>walkW step ds acc V S1) S
noncomputable def inn (ρ:List Slot) (t:T) (js:List Nat):List Slot:=Ψ (nT t) .no++js.map fun j=>(ρ[j]?).getD .no
noncomputable def dicV (tk:Bool) (ks:List Key) (ds:List D):D:=if tk=true then .dT [] [] else .dK ks ds
def isR:D->(Nat->Prop)->Prop
 | .ref n,Q=>Q n
 | _,_=>False
def isDT:Option D->(List (List Key)->List D->Prop)->Prop
 | some (.dT ks ds),Q=>Q ks ds
 | _,_=>False
theorem Jp {s:Option D}{Q:List (List Key)->List D->Prop}(h:isDT s Q):∃ ks ds,s=some (.dT ks ds)/\Q ks ds:=by
 cases s with
 | none=>exact h.elim
 | some s=>
  cases s with
  | dT ks ds=>exact ⟨ks,ds,rfl,h⟩
  | _=>exact h.elim
theorem zav {s:Option D}{ks:List (List Key)}{ds:List D}{Q:List (List Key)->List D->Prop}(h:s=some (.dT ks ds)) (q:Q ks ds):isDT s Q:=by subst h;exact q
theorem isRr {s:D}{Q:Nat->Prop}(h:isR s Q):∃ n,s=.ref n/\Q n:=by
 cases s with
 | ref n=>exact ⟨n,rfl,h⟩
 | _=>exact h.elim
mutual
def wpE (cf:Cf) (ρ:List Slot):E->Po->Store->Prop
 | .var i,V,S=>rdV ρ[i]? fun x=>V x S
 | .con d,V,S=>V (d,.st) S
 | .glo _ d,V,S=>V (d,.st) S
 | .bin op a b,V,S=>wpE cf ρ a (fun x S1=>wpE cf ρ b (fun y S2=>opV (opD op (deref S2 x.1) (deref S2 y.1)) fun x=>V x S2) S1) S
 | .neg a,V,S=>wpE cf ρ a (fun x S1=>isZ x.1 fun i=>V (.int (-i),.st) S1) S
 | .cmp op a b,V,S=>wpE cf ρ a (fun x S1=>wpE cf ρ b (fun y S2=>opt (cmpD op (deref S2 x.1) (deref S2 y.1)) fun r=>V (.bl r,.st) S2) S1) S
 | .chn o1 o2 a b c,V,S=>wpE cf ρ a (fun x S1=>wpE cf ρ b (fun y S2=>opt (cmpD o1 (deref S2 x.1) (deref S2 y.1)) fun r=>tst r (wpE cf ρ c (fun z S3=>opt (cmpD o2 (deref S3 y.1) (deref S3 z.1)) fun r=>V (.bl r,.st) S3) S2) (V (.bl false,.st) S2)) S1) S
 | .not a,V,S=>wpE cf ρ a (fun x S1=>isB x.1 fun b=>V (.bl (!b),.st) S1) S
 | .and a b,V,S=>wpE cf ρ a (fun x S1=>isB x.1 fun r=>tst r (wpE cf ρ b V S1) (V (.bl false,.st) S1)) S
 | .or a b,V,S=>wpE cf ρ a (fun x S1=>isB x.1 fun r=>tst r (V (.bl true,.st) S1) (wpE cf ρ b V S1)) S
 | .ite c a b,V,S=>wpE cf ρ c (fun x S1=>isB x.1 fun r=>tst r (wpE cf ρ a V S1) (wpE cf ρ b V S1)) S
 | .tup es,V,S=>wpEs cf ρ es (fun ds S1=>tst (fits ds.length) (V (.tup ds,.st) S1) False) S
 | .lst es,V,S=>wpEs cf ρ es (fun ds S1=>tst (fits ds.length) (V (.lst ds,.fr) S1) False) S
 | .dic tk ks es,V,S=>wpEs cf ρ es (fun ds S1=>tst (dicOk tk ks ds) (V (dicV tk ks ds,.fr) S1) False) S
 | .sub a i,V,S=>wpE cf ρ a (fun x S1=>wpE cf ρ i (fun y S2=>opt (subD (deref S2 x.1) y.1) fun d=>V (d,.st) S2) S1) S
 | .slc a lo hi,V,S=>wpE cf ρ a (fun x S1=>wpO cf ρ lo (fun l S2=>wpO cf ρ hi (fun h S3=>opV (slcD (deref S3 x.1) l h) fun x=>V x S3) S2) S1) S
 | .bi b [e],V,S=>wpE cf ρ e (fun x S1=>opV (biD b [deref S1 x.1]) fun x=>V x S1) S
 | .bi b es,V,S=>wpEs cf ρ es (fun ds S1=>opV (biD b (ds.map (deref S1))) fun x=>V x S1) S
 | .mth m o es,V,S=>wpE cf ρ o (fun x S1=>tst (mthK m (deref S1 x.1)) (wpEs cf ρ es (fun ds S2=>opV (mthD m (deref S2 x.1) ds) fun x=>V x S2) S1) False) S
 | .call f es,V,S=>wpEs cf ρ es (fun ds S1=>cf f ds V S1) S
 | .callk f perm es,V,S=>wpEs cf ρ es (fun ds S1=>opt (perm.mapM fun i=>ds[i]?) fun ds=>cf f ds V S1) S
 | .comp t js it ifs elt,V,S=>wpI cf ρ it (fun its S1=>walkW (fun d K S=>optS (bindT (inn ρ t js) t (d,false)) fun ρ'=>wpF cf ρ' ifs (fun b S1=>tst b (wpE cf ρ' elt (fun x S2=>keep x fun d=>K (some d) S2) S1) (K none S1)) S) its [] (fun ds S2=>V (.lst ds,.fr) S2) S1) S
 | .box e,V,S=>wpE cf ρ e (fun x S1=>boxd x fun d=>V (.ref S1.length,.st) (S1++[d])) S
 | .callv i es,V,S=>rdV ρ[i]? fun x=>isF x.1 fun f=>wpEs cf ρ es (fun ds S1=>cf f ds V S1) S
 | .one e,V,S=>wpE cf ρ e V S
 | .flip e,V,S=>wpE cf ρ e (fun x S1=>opV (flipD (deref S1 x.1)) fun x=>V x S1) S
 | _,_,_=>False
def wpEs (cf:Cf) (ρ:List Slot):List E->(List D->Store->Prop)->Store->Prop
 | [],W,S=>W [] S
 | e::es,W,S=>wpE cf ρ e (fun x S1=>keep x fun d=>wpEs cf ρ es (fun ds S2=>W (d::ds) S2) S1) S
def wpO (cf:Cf) (ρ:List Slot):Option E->(Option Int->Store->Prop)->Store->Prop
 | none,W,S=>W none S
 | some e,W,S=>wpE cf ρ e (fun x S1=>isZ x.1 fun i=>W (some i) S1) S
def wpF (cf:Cf) (ρ:List Slot):List E->(Bool->Store->Prop)->Store->Prop
 | [],W,S=>W true S
 | [e],W,S=>wpE cf ρ e (fun x S1=>isB x.1 fun b=>W b S1) S
 | _,_,_=>False
def wpI (cf:Cf) (ρ:List Slot):E->(List D->Store->Prop)->Store->Prop
 | .rev hi,W,S=>wpE cf ρ hi (fun x S1=>isZ x.1 fun h=>tst (fits h.toNat&&decide (-1000000<=h)) (W (z8 0 h).reverse S1) False) S
 | .rng none hi,W,S=>wpE cf ρ hi (fun x S1=>isZ x.1 fun h=>tst (fits h.toNat&&decide (-1000000<=h)) (W (z8 0 h) S1) False) S
 | .rng (some lo) hi,W,S=>wpE cf ρ lo (fun y S1=>wpE cf ρ hi (fun x S2=>isZ y.1 fun l=>isZ x.1 fun h=>tst (fits (h - l).toNat&&decide (-1000000<=h)&&decide (-1000000<=l)&&decide (h<=1000000)&&decide (l<=1000000)) (W (z8 l h) S2) False) S1) S
 | .enum e,W,S=>wpE cf ρ e (fun x S1=>keep x fun d=>opt (enumS d) fun l=>W (enumD 0 l) S1) S
 | .seq e,W,S=>wpE cf ρ e (fun x S1=>keep x fun d=>opt (itrD d) fun l=>W l S1) S
 | .items e,W,S=>wpE cf ρ e (fun x S1=>keep x fun r=>isR r fun k=>isDT S1[k]? fun ks ds=>W (yw ks ds) (S1.set k (.ref k))) S
 | _,_,_=>False
end
def wpX (cf:Cf) (ρ:List Slot) (e:E) (V:Po) (S:Store):Prop:=wpE cf ρ e V S
noncomputable def bindV (ρ:List Slot) (t:T):Vl->Option (List Slot)
 | (d,.st)=>bindT ρ t (d,false)
 | (d,.fr)=>bindT ρ t (d,true)
 | _=>none
def retV:Vl->(O->Prop)->Prop
 | (d,.st),K=>K (.ret d false)
 | (d,.fr),K=>K (.ret d true)
 | _,_=>False
def owL:Option Slot->(List D->Prop)->Prop
 | some (.ow (.lst l)),Q=>Q l
 | _,_=>False
def owD:Option Slot->(D->Prop)->Prop
 | some (.ow d),Q=>Q d
 | _,_=>False
def frW:Option Slot->Store->(Nat->List D->Prop)->Prop
  | some (.sh (.ref k)),S,Q=>(match S[k]? with
    | some (.lst l)=>Q k l
    | _=>False)
  | _,_,_=>False
theorem zaB {s:Option Slot}{S:Store}{Q:Nat->List D->Prop}(h:frW s S Q):∃ k l,s=some (.sh (.ref k))/\S[k]?=some (.lst l)/\Q k l:=by
 unfold frW at h
 split at h
 ·split at h
  ·rename_i e;exact ⟨_,_,rfl,e,h⟩
  ·exact h.elim
 ·exact h.elim
theorem zeq {k:Nat}{l:List D}{S:Store}{Q:Nat->List D->Prop}(h:S[k]?=some (.lst l)) (q:Q k l):frW (some (.sh (.ref k))) S Q:=by
  show (match S[k]? with
    | some (.lst l)=>Q k l
    | _=>False)
  rw [h];exact q
def isL:Option D->(List D->Prop)->Prop
 | some (.lst l),Q=>Q l
 | _,_=>False
noncomputable def fz:Slot->Slot
 | .ow d=>.sh d
 | s=>s
abbrev Ko:=O->Store->Prop
def nxt (f:List Slot->Store->Prop) (K:Ko):Ko
 | .next ρ,S=>f ρ S
 | o,S=>K o S
def trn (K:Ko) (I:List Slot->Store->Prop):Ko
 | .next ρ,S=>I ρ S
 | .cnt ρ,S=>I ρ S
 | .brk ρ,S=>K (.next ρ) S
 | .ret d fr,S=>K (.ret d fr) S
def forW (t:T) (b:List Slot->Ko->Store->Prop):List D->List Slot->Ko->Store->Prop
 | [],ρ,K,S=>K (.next ρ) S
 | d::l,ρ,K,S=>optS (bindT ρ t (d,false)) fun ρ1=>b ρ1 (trn K fun ρ' S'=>forW t b l ρ' K S') S
def whlW (c:List Slot->Po->Store->Prop) (b:List Slot->Ko->Store->Prop):Nat->List Slot->Ko->Store->Prop
 | 0,_,_,_=>False
 | n+1,ρ,K,S=>c ρ (fun x S1=>isB x.1 fun r=>tst r (b ρ (trn K fun ρ' S'=>whlW c b n ρ' K S') S1) (K (.next ρ) S1)) S
mutual
def wpC (cf:Cf) (w:Nat):C->List Slot->Ko->Store->Prop
 | .set t (.box e),ρ,K,S=>wpE cf ρ e (fun x S1=>boxd x fun d=>optS (bindT ρ t (.ref S1.length,false)) fun ρ2=>K (.next ρ2) (S1++[d])) S
 | .set t e,ρ,K,S=>wpE cf ρ e (fun x S1=>optS (bindV ρ t x) fun ρ2=>K (.next ρ2) S1) S
 | .expr e,ρ,K,S=>wpE cf ρ e (fun _ S1=>K (.next ρ) S1) S
 | .ret (.var i),ρ,K,S=>sel ρ[i]? (fun d=>K (.ret d false) S) (fun d=>K (.ret d true) S)
 | .ret e,ρ,K,S=>wpE cf ρ e (fun x S1=>retV x fun o=>K o S1) S
 | .retN,ρ,K,S=>K (.ret .non false) S
 | .ite e A B,ρ,K,S=>wpE cf ρ e (fun x S1=>isB x.1 fun b=>tst b (wpCs cf w A ρ K S1) (wpCs cf w B ρ K S1)) S
 | .whl e A,ρ,K,S=>whlW (fun ρ=>wpX cf ρ e) (fun ρ=>wpCs cf w A ρ) w ρ K S
 | .forr t it A,ρ,K,S=>wpI cf ρ it (fun l S1=>forW t (fun ρ=>wpCs cf w A ρ) l ρ K S1) S
 | .app i e,ρ,K,S=>owL ρ[i]? fun l=>wpE cf ρ e (fun x S1=>keep x fun d=>tst (fits (l.length+1)) (K (.next (ρ.set i (.ow (.lst (l++[d]))))) S1) False) S
 | .ext i e,ρ,K,S=>owL ρ[i]? fun l=>wpE cf ρ e (fun x S1=>keep x fun d=>opt (extD d) fun m=>tst (fits (l.length+m.length)) (K (.next (ρ.set i (.ow (.lst (l++m))))) S1) False) S
 | .stv i k v,ρ,K,S=>owD ρ[i]? fun c=>wpE cf ρ v (fun x S1=>keep x fun d=>wpE cf ρ k (fun y S2=>keep y fun e=>opt (putD c e d) fun c'=>K (.next (ρ.set i (.ow c'))) S2) S1) S
 | .sti o k v,ρ,K,S=>wpE cf ρ v (fun x S1=>keep x fun d=>wpE cf ρ o (fun z S2=>keep z fun r=>wpE cf ρ k (fun y S3=>keep y fun e=>isR r fun n=>opt S3[n]? fun c=>opt (putD c e d) fun c'=>K (.next ρ) (S3.set n c')) S2) S1) S
 | .pop i,ρ,K,S=>owL ρ[i]? fun l=>tst (!l.isEmpty) (K (.next (ρ.set i (.ow (.lst l.dropLast)))) S) False
 | .appR o e,ρ,K,S=>wpE cf ρ o (fun z S1=>keep z fun r=>isR r fun n=>tst (isLst S1[n]?) (wpE cf ρ e (fun x S2=>keep x fun d=>isL S2[n]? fun l=>tst (fits (l.length+1)) (K (.next ρ) (S2.set n (.lst (l++[d])))) False) S1) False) S
 | .popO t i,ρ,K,S=>owL ρ[i]? fun l=>opt l.getLast? fun d=>optS (bindT (ρ.set i (.ow (.lst l.dropLast))) t (d,false)) fun ρ2=>K (.next ρ2) S
 | .popR t o,ρ,K,S=>wpE cf ρ o (fun z S1=>keep z fun r=>isR r fun n=>isL S1[n]? fun l=>opt l.getLast? fun d=>optS (bindT ρ t (d,false)) fun ρ2=>K (.next ρ2) (S1.set n (.lst l.dropLast))) S
 | .pass,ρ,K,S=>K (.next ρ) S
 | .brk,ρ,K,S=>K (.brk ρ) S
 | .cnt,ρ,K,S=>K (.cnt ρ) S
 | .frz i,ρ,K,S=>K (.next (ρ.set i (fz ((ρ[i]?).getD .no)))) S
 | .frr i,ρ,K,S=>frW ρ[i]? S fun k l=>K (.next (ρ.set i (.sh (.lst l)))) (S.set k (.ref k))
def wpCs (cf:Cf) (w:Nat):List C->List Slot->Ko->Store->Prop
 | [],ρ,K,S=>K (.next ρ) S
 | c::cs,ρ,K,S=>wpC cf w c ρ (nxt (fun ρ' S'=>wpCs cf w cs ρ' K S') K) S
end
def told (V:Po):Ko
 | .ret d fr,S=>V (d,kd fr) S
 | .next _,S=>V (.non,.st) S
 | _,_=>False
def callW (F:Nat->Option Fn) (w:Nat):Nat->Cf
 | 0=>fun _ _ _ _=>False
 | k+1=>fun f ds V S=>opt (F f) fun fn=>ds.length=fn.np/\wpCs (callW F w k) w fn.body (entry fn ds) (told V) S
section
theorem zj {α:Type}{o:Option α}{P Q:α->Prop}(h:∀ a,P a->Q a):opt o P->opt o Q:=by
 cases o with
 | some a=>exact h a
 | none=>exact id
theorem zq {b:Bool}{P P' Q Q':Prop}(h:P->P') (k:Q->Q'):tst b P Q->tst b P' Q':=by
 cases b with
 | true=>exact h
 | false=>exact k
theorem yo {d:D}{P Q:Bool->Prop}(h:∀ a,P a->Q a):isB d P->isB d Q:=by
 cases d <;> first | exact h _ | exact id
theorem Wd {d:D}{P Q:Nat->Prop}(h:∀ a,P a->Q a):isF d P->isF d Q:=by
 cases d <;> first | exact h _ | exact id
theorem yU {d:D}{P Q:Int->Prop}(h:∀ a,P a->Q a):isZ d P->isZ d Q:=by
 cases d <;> first | exact h _ | exact id
theorem zx {x:Vl}{P Q:D->Prop}(h:∀ a,P a->Q a):keep x P->keep x Q:=by
 obtain ⟨d,k⟩:=x
 cases k <;> first | exact h _ | exact id
theorem ZW {x:Vl}{P Q:D->Prop}(h:∀ a,P a->Q a):boxd x P->boxd x Q:=by
 obtain ⟨d,k⟩:=x
 cases k <;> first | exact h _ | exact id
theorem jR {s:Option Slot}{P P' Q Q':D->Prop}(h:∀ a,P a->P' a) (k:∀ a,Q a->Q' a):sel s P Q->sel s P' Q':=by
 cases s with
 | none=>exact id
 | some s=>cases s <;> first | exact h _ | exact k _ | exact id
theorem vK {s:D->(Option D->Store->Prop)->Store->Prop}(hs:∀ d K K' S,(∀ o S,K o S->K' o S)->s d K S->s d K' S):∀ {l acc:List D}{V V':List D->Store->Prop}{S:Store},(∀ a S,V a S->V' a S)->walkW s l acc V S->walkW s l acc V' S
 | [],_,_,_,_,h=>h _ _
 | d::l,acc,V,V',S,h=>hs d _ _ S fun o S1=>by
  cases o with
  | some x=>exact zq (vK hs h) id
  | none=>exact vK hs h
def Mono (cf:Cf):Prop:=∀ f ds (V V':Po) S,(∀ x S,V x S->V' x S)->cf f ds V S->cf f ds V' S
variable {cf:Cf}
theorem vA {s:D}{P Q:Nat->Prop}(h:∀ a,P a->Q a):isR s P->isR s Q:=by
 cases s <;> first | exact h _ | exact id
theorem Jo {s:Option D}{P Q:List (List Key)->List D->Prop}(h:∀ a b,P a b->Q a b) (p:isDT s P):isDT s Q:=by
 obtain ⟨ks,ds,e,q⟩:=Jp p
 exact zav e (h _ _ q)
mutual
theorem za (hc:Mono cf):∀ (e:E) {ρ:List Slot}{V V':Po}{S:Store},(∀ x S,V x S->V' x S)->wpE cf ρ e V S->wpE cf ρ e V' S
 | .var i,_,_,_,_,h,k=>jR (fun _=>h _ _) (fun _=>h _ _) k
 | .con d,_,_,_,_,h,k=>h _ _ k
 | .glo _ d,_,_,_,_,h,k=>h _ _ k
 | .bin op a b,_,_,_,_,h,k=>za hc a (fun _ _=>za hc b fun _ _=>zj fun _=>h _ _) k
 | .neg a,_,_,_,_,h,k=>za hc a (fun _ _=>yU fun _=>h _ _) k
 | .cmp op a b,_,_,_,_,h,k=>za hc a (fun _ _=>za hc b fun _ _=>zj fun _=>h _ _) k
 | .chn o1 o2 a b c,_,_,_,_,h,k=>za hc a (fun _ _=>za hc b fun _ _=>zj fun _=>zq (za hc c fun _ _=>zj fun _=>h _ _) (h _ _)) k
 | .not a,_,_,_,_,h,k=>za hc a (fun _ _=>yo fun _=>h _ _) k
 | .and a b,_,_,_,_,h,k=>za hc a (fun _ _=>yo fun _=>zq (za hc b h) (h _ _)) k
 | .or a b,_,_,_,_,h,k=>za hc a (fun _ _=>yo fun _=>zq (h _ _) (za hc b h)) k
 | .ite c a b,_,_,_,_,h,k=>za hc c (fun _ _=>yo fun _=>zq (za hc a h) (za hc b h)) k
 | .tup es,_,_,_,_,h,k=>zE hc es (fun _ _=>zq (h _ _) id) k
 | .lst es,_,_,_,_,h,k=>zE hc es (fun _ _=>zq (h _ _) id) k
 | .dic _ _ es,_,_,_,_,h,k=>zE hc es (fun _ _=>zq (h _ _) id) k
 | .sub a b,_,_,_,_,h,k=>za hc a (fun _ _=>za hc b fun _ _=>zj fun _=>h _ _) k
 | .slc a l u,_,_,_,_,h,k=>za hc a (fun _ _=>Xa hc l fun _ _=>Xa hc u fun _ _=>zj fun _=>h _ _) k
 | .bi b [],_,_,_,_,h,k=>zE hc [] (fun _ _=>zj fun _=>h _ _) k
 | .bi b [e],_,_,_,_,h,k=>za hc e (fun _ _=>zj fun _=>h _ _) k
 | .bi b (e::f::es),_,_,_,_,h,k=>zE hc (e::f::es) (fun _ _=>zj fun _=>h _ _) k
 | .mth m o es,_,_,_,_,h,k=>za hc o (fun _ _=>zq (zE hc es fun _ _=>zj fun _=>h _ _) id) k
 | .call f es,_,_,_,_,h,k=>zE hc es (fun _ _=>hc _ _ _ _ _ h) k
 | .callk f p es,_,_,_,_,h,k=>zE hc es (fun _ _=>zj fun _=>hc _ _ _ _ _ h) k
 | .comp t js it ifs elt,ρ,V,V',S,h,k=>by
  refine Xb hc it (fun its S1 q=>?_) k
  refine vK ?_ ?_ q
  ·intro d K K' S q
   exact zj fun ρ'=>Xc hc ifs fun b S1=>zq (za hc elt fun x S2=>zx fun d=>q _ _) (q _ _)
  ·exact fun ds S2=>h _ _
 | .box e,_,_,_,_,h,k=>za hc e (fun _ _=>ZW fun _=>h _ _) k
 | .one e,_,_,_,_,h,k=>za hc e h k
 | .flip e,_,_,_,_,h,k=>za hc e (fun _ _=>zj fun _=>h _ _) k
 | .callv i es,_,_,_,_,h,k=>jR (fun _=>Wd fun _=>zE hc es fun _ _=>hc _ _ _ _ _ h) (fun _=>Wd fun _=>zE hc es fun _ _=>hc _ _ _ _ _ h) k
 | .seq _,_,_,_,_,_,k=>k
 | .rng _ _,_,_,_,_,_,k=>k
 | .enum _,_,_,_,_,_,k=>k
 | .zip _ _,_,_,_,_,_,k=>k
 | .rev _,_,_,_,_,_,k=>k
 | .items _,_,_,_,_,_,k=>k
theorem zE (hc:Mono cf):∀ (es:List E) {ρ:List Slot}{V V':List D->Store->Prop}{S:Store},(∀ x S,V x S->V' x S)->wpEs cf ρ es V S->wpEs cf ρ es V' S
 | [],_,_,_,_,h,k=>h _ _ k
 | e::es,_,_,_,_,h,k=>za hc e (fun _ _=>zx fun _=>zE hc es fun _ _=>h _ _) k
theorem Xa (hc:Mono cf):∀ (o:Option E) {ρ:List Slot}{V V':Option Int->Store->Prop}{S:Store},(∀ x S,V x S->V' x S)->wpO cf ρ o V S->wpO cf ρ o V' S
 | none,_,_,_,_,h,k=>h _ _ k
 | some e,_,_,_,_,h,k=>za hc e (fun _ _=>yU fun _=>h _ _) k
theorem Xc (hc:Mono cf):∀ (es:List E) {ρ:List Slot}{V V':Bool->Store->Prop}{S:Store},(∀ x S,V x S->V' x S)->wpF cf ρ es V S->wpF cf ρ es V' S
 | [],_,_,_,_,h,k=>h _ _ k
 | [e],_,_,_,_,h,k=>za hc e (fun _ _=>yo fun _=>h _ _) k
 | _::_::_,_,_,_,_,_,k=>k
theorem Xb (hc:Mono cf):∀ (e:E) {ρ:List Slot}{V V':List D->Store->Prop}{S:Store},(∀ x S,V x S->V' x S)->wpI cf ρ e V S->wpI cf ρ e V' S
 | .rng none e,_,_,_,_,h,k=>za hc e (fun _ _=>yU fun _=>zq (h _ _) id) k
 | .rng (some a) e,_,_,_,_,h,k=>za hc a (fun _ _=>za hc e fun _ _=>yU fun _=>yU fun _=>zq (h _ _) id) k
 | .enum e,_,_,_,_,h,k=>za hc e (fun _ _=>zx fun _=>zj fun _=>h _ _) k
 | .seq e,_,_,_,_,h,k=>za hc e (fun _ _=>zx fun _=>zj fun _=>h _ _) k
 | .var _,_,_,_,_,_,k=>k
 | .con _,_,_,_,_,_,k=>k
 | .glo _ _,_,_,_,_,_,k=>k
 | .bin _ _ _,_,_,_,_,_,k=>k
 | .neg _,_,_,_,_,_,k=>k
 | .cmp _ _ _,_,_,_,_,_,k=>k
 | .chn _ _ _ _ _,_,_,_,_,_,k=>k
 | .not _,_,_,_,_,_,k=>k
 | .and _ _,_,_,_,_,_,k=>k
 | .or _ _,_,_,_,_,_,k=>k
 | .ite _ _ _,_,_,_,_,_,k=>k
 | .tup _,_,_,_,_,_,k=>k
 | .lst _,_,_,_,_,_,k=>k
 | .dic _ _ _,_,_,_,_,_,k=>k
 | .sub _ _,_,_,_,_,_,k=>k
 | .slc _ _ _,_,_,_,_,_,k=>k
 | .bi _ _,_,_,_,_,_,k=>k
 | .mth _ _ _,_,_,_,_,_,k=>k
 | .call _ _,_,_,_,_,_,k=>k
 | .callk _ _ _,_,_,_,_,_,k=>k
 | .callv _ _,_,_,_,_,_,k=>k
 | .comp _ _ _ _ _,_,_,_,_,_,k=>k
 | .box _,_,_,_,_,_,k=>k
 | .one _,_,_,_,_,_,k=>k
 | .flip _,_,_,_,_,_,k=>k
 | .zip _ _,_,_,_,_,_,k=>k
 | .rev e,_,_,_,_,h,k=>za hc e (fun _ _=>yU fun _=>zq (h _ _) id) k
 | .items e,_,_,_,_,h,k=>za hc e (fun _ _=>zx fun _=>vA fun _=>Jo fun _ _=>h _ _) k
end
theorem QD {s:Option Slot}{S:Store}{P Q:Nat->List D->Prop}(h:∀ k l,P k l->Q k l) (p:frW s S P):frW s S Q:=by
 obtain ⟨k,l,rfl,e,q⟩:=zaB p
 exact zeq e (h k l q)
theorem vp {s:Option Slot}{P Q:List D->Prop}(h:∀ a,P a->Q a):owL s P->owL s Q:=by
 cases s with
 | none=>exact id
 | some s=>
  cases s with
  | ow d=>cases d <;> first | exact h _ | exact id
  | _=>exact id
theorem Qf {s:Option Slot}{P Q:D->Prop}(h:∀ a,P a->Q a):owD s P->owD s Q:=by
 cases s with
 | none=>exact id
 | some s=>cases s <;> first | exact h _ | exact id
theorem Wc {s:Option D}{P Q:List D->Prop}(h:∀ a,P a->Q a):isL s P->isL s Q:=by
 cases s with
 | none=>exact id
 | some s=>cases s <;> first | exact h _ | exact id
theorem Ua {x:Vl}{P Q:O->Prop}(h:∀ a,P a->Q a):retV x P->retV x Q:=by
 obtain ⟨d,k⟩:=x
 cases k <;> first | exact h _ | exact id
def Km (b:List Slot->Ko->Store->Prop):Prop:=∀ ρ (K K':Ko) S,(∀ o S,K o S->K' o S)->b ρ K S->b ρ K' S
theorem Qk {f f':List Slot->Store->Prop}{K K':Ko}(h:∀ ρ S,f ρ S->f' ρ S) (k:∀ o S,K o S->K' o S):∀ o S,nxt f K o S->nxt f' K' o S:=by
 intro o S
 cases o <;> first | exact h _ _ | exact k _ _
theorem vf {f f':List Slot->Store->Prop}{K K':Ko}(h:∀ ρ S,f ρ S->f' ρ S) (k:∀ o S,K o S->K' o S):∀ o S,trn K f o S->trn K' f' o S:=by
 intro o S
 cases o <;> first | exact h _ _ | exact k _ _
theorem Zy {t:T}{b:List Slot->Ko->Store->Prop}(hb:Km b) {K K':Ko}(k:∀ o S,K o S->K' o S):∀ {l:List D}{ρ:List Slot}{S:Store},forW t b l ρ K S->forW t b l ρ K' S
 | [],_,_,h=>k _ _ h
 | d::l,_,_,h=>zj (fun _=>hb _ _ _ _ (vf (fun _ _=>Zy hb k) k)) h
theorem qm {c:List Slot->Po->Store->Prop}{b:List Slot->Ko->Store->Prop}(hc:∀ ρ (V V':Po) S,(∀ x S,V x S->V' x S)->c ρ V S->c ρ V' S) (hb:Km b) {K K':Ko}(k:∀ o S,K o S->K' o S):∀ {n:Nat}{ρ:List Slot}{S:Store},whlW c b n ρ K S->whlW c b n ρ K' S
 | 0,_,_,h=>h
 | n+1,_,_,h=>hc _ _ _ _ (fun _ _=>yo fun _=>zq (hb _ _ _ _ (vf (fun _ _=>qm hc hb k) k)) (k _ _)) h
variable {w:Nat}
theorem KD (hc:Mono cf) (e:E) {ρ:List Slot}{K K':Ko}{S:Store}(h:∀ o S,K o S->K' o S) (k:wpC cf w (.ret e) ρ K S):wpC cf w (.ret e) ρ K' S:=by
 cases e <;> first | exact jR (fun _=>h _ _) (fun _=>h _ _) k | exact za hc _ (fun _ _=>Ua fun _=>h _ _) k
theorem Kz (hc:Mono cf) (t:T) (e:E) {ρ:List Slot}{K K':Ko}{S:Store}(h:∀ o S,K o S->K' o S) (k:wpC cf w (.set t e) ρ K S):wpC cf w (.set t e) ρ K' S:=by
 cases e <;> first | exact za hc _ (fun _ _=>zj fun _=>h _ _) k | exact za hc _ (fun _ _=>ZW fun _=>zj fun _=>h _ _) k
mutual
theorem Kg (hc:Mono cf):∀ (c:C) {ρ:List Slot}{K K':Ko}{S:Store},(∀ o S,K o S->K' o S)->wpC cf w c ρ K S->wpC cf w c ρ K' S
 | .set t e,_,_,_,_,h,k=>Kz hc t e h k
 | .expr e,_,_,_,_,h,k=>za hc e (fun _ _=>h _ _) k
 | .ret e,_,_,_,_,h,k=>KD hc e h k
 | .retN,_,_,_,_,h,k=>h _ _ k
 | .ite e A B,_,_,_,_,h,k=>za hc e (fun _ _=>yo fun _=>zq (zV hc A h) (zV hc B h)) k
 | .whl e A,ρ,K,K',S,h,k=>by
  have k:whlW (fun ρ=>wpE cf ρ e) (fun ρ=>wpCs cf w A ρ) w ρ K S:=k
  refine qm ?_ ?_ h k
  ·exact fun ρ V V' S q=>za hc e q
  ·exact fun ρ V V' S q=>zV hc A q
 | .forr t it A,ρ,K,K',S,h,k=>by
  refine Xb hc it (fun l S1 q=>?_) k
  refine Zy ?_ h q
  exact fun ρ V V' S q=>zV hc A q
 | .app i e,_,_,_,_,h,k=>vp (fun _=>za hc e fun _ _=>zx fun _=>zq (h _ _) id) k
 | .ext i e,_,_,_,_,h,k=>vp (fun _=>za hc e fun _ _=>zx fun _=>zj fun _=>zq (h _ _) id) k
 | .stv i a v,_,_,_,_,h,k=>Qf (fun _=>za hc v fun _ _=>zx fun _=>za hc a fun _ _=>zx fun _=>zj fun _=>h _ _) k
 | .sti o a v,_,_,_,_,h,k=>za hc v (fun _ _=>zx fun _=>za hc o fun _ _=>zx fun _=>za hc a fun _ _=>zx fun _=>vA fun _=>zj fun _=>zj fun _=>h _ _) k
 | .pop i,_,_,_,_,h,k=>vp (fun _=>zq (h _ _) id) k
 | .appR o e,_,_,_,_,h,k=>za hc o (fun _ _=>zx fun _=>vA fun _=>zq (za hc e fun _ _=>zx fun _=>Wc fun _=>zq (h _ _) id) id) k
 | .popO t i,_,_,_,_,h,k=>vp (fun _=>zj fun _=>zj fun _=>h _ _) k
 | .popR t o,_,_,_,_,h,k=>za hc o (fun _ _=>zx fun _=>vA fun _=>Wc fun _=>zj fun _=>zj fun _=>h _ _) k
 | .pass,_,_,_,_,h,k=>h _ _ k
 | .brk,_,_,_,_,h,k=>h _ _ k
 | .cnt,_,_,_,_,h,k=>h _ _ k
 | .frz i,_,_,_,_,h,k=>h _ _ k
 | .frr i,_,_,_,_,h,k=>QD (fun _ _=>h _ _) k
theorem zV (hc:Mono cf):∀ (cs:List C) {ρ:List Slot}{K K':Ko}{S:Store},(∀ o S,K o S->K' o S)->wpCs cf w cs ρ K S->wpCs cf w cs ρ K' S
 | [],_,_,_,_,h,k=>h _ _ k
 | c::cs,_,_,_,_,h,k=>Kg hc c (Qk (fun _ _=>zV hc cs h) h) k
end
theorem Vz {V V':Po}(h:∀ x S,V x S->V' x S):∀ o S,told V o S->told V' o S:=by
 intro o S
 cases o <;> first | exact h _ _ | exact id
theorem yh {F:Nat->Option Fn}:∀ k,Mono (callW F w k)
 | 0=>fun _ _ _ _ _ _ h=>h
 | k+1=>fun f ds V V' S h q=>zj (fun _ ⟨a,b⟩=>⟨a,zV (yh k) _ (Vz h) b⟩) q
theorem Xd (hc:Mono cf):∀ (es:List E) {ρ:List Slot}{W:List D->Store->Prop}{S:Store},wpEs cf ρ es W S->wpEs cf ρ es (fun ds S=>W ds S/\ds.length=es.length) S
 | [],_,_,_,h=>⟨h,rfl⟩
 | e::es,_,_,_,h=>za hc e (fun _ _=>zx fun _ q=>zE hc es (fun _ _ q=>⟨q.1,by rw [Ϟ,q.2];rfl⟩) (Xd hc es q)) h
end
open PySem PySem.Spec PyProof.Rows L2
def Rdb (Γ:Gm) (H:Hp) (g:G):D->V->Prop
 | .tup ds,v=>∃ a vs,v=.ref a/\g.R a=some (.tup vs)/\Hass Γ g ds vs
 | .lst ds,v=>∃ a vs,v=.ref a/\H a=some (.lst vs)/\Hass Γ g ds vs
 | .dK ks ds,v=>∃ a vs,v=.ref a/\H a=some (.dK (ks.zip vs))/\ks.length=ds.length/\Hass Γ g ds vs
 | .dT ks ds,v=>∃ a vs,v=.ref a/\H a=some (.dT (ks.zip vs))/\ks.length=ds.length/\Hass Γ g ds vs
 | .non,v=>v=.non
 | .bl b,v=>v=.bl b
 | .int i,v=>v=.int i
 | .str x,v=>v=.str x
 | .ref _,v=>∃ a,v=.ref a
 | .fn f,v=>∃ a,Γ.fa f=some a/\v=.ref a
 | .scr ns,v=>∃ a,v=.ref a/\SqL Γ.K H a (ns.map V.int)
 | .ktp ds,v=>∃ a vs,v=.ref a/\KTup Γ.K a vs/\Hass Γ g ds vs
section
variable {Γ:Gm}{H H':Hp}{g g':G}{S:Store}{d:D}{v:V}{a:Addr}
theorem zae (w:WOk Γ H g S) (h:Has Γ g d v):Rdb Γ H g (deref S d) v:=by
 cases d with
 | non=>exact h
 | bl=>exact h
 | int=>exact h
 | str=>exact h
 | fn f=>exact h
 | tup ds=>exact h
 | lst ds=>obtain ⟨a,vs,h1,h2,h3⟩:=h;exact ⟨a,vs,h1,w.rh _ _ h2,h3⟩
 | scr ns=>obtain ⟨a,h1,h2⟩:=h;exact ⟨a,h1,w.rh.seq h2⟩
 | dK ks ds=>obtain ⟨a,vs,h1,h2,h4,h3⟩:=h;exact ⟨a,vs,h1,w.rh _ _ h2,h4,h3⟩
 | dT ks ds=>obtain ⟨a,vs,h1,h2,h4,h3⟩:=h;exact ⟨a,vs,h1,w.rh _ _ h2,h4,h3⟩
 | ktp=>exact h
 | ref k=>
  obtain ⟨a,h1,rfl⟩:=h
  have hk:k < S.length:=by rw [<- w.len];exact (Η.mp h1).1
  have e:S[k]?=some S[k]:=ξ hk
  have c:=w.cell k _ a e h1
  show Rdb Γ H g ((S[k]?).getD .non) (.ref a)
  rw [e]
  show Rdb Γ H g S[k] (.ref a)
  generalize S[k]=x at c
  cases x with
  | lst ds=>obtain ⟨vs,h1,h2⟩:=c;exact ⟨a,vs,rfl,h1,h2⟩
  | dK ks ds=>obtain ⟨vs,h1,h3,h2⟩:=c;exact ⟨a,vs,rfl,h1,h3,h2⟩
  | dT ks ds=>obtain ⟨vs,h1,h3,h2⟩:=c;exact ⟨a,vs,rfl,h1,h3,h2⟩
  | non=>exact c.elim
  | bl=>exact c.elim
  | int=>exact c.elim
  | str=>exact c.elim
  | tup=>exact c.elim
  | ref=>exact ⟨a,rfl⟩
  | fn=>exact c.elim
  | scr=>exact c.elim
  | ktp=>exact c.elim
def Fin (Γ:Gm) (H:Hp) (g:G) (S:Store) (d:D) (fr:Bool) (Q:VK):Prop:=
 ∀ v H' g',Step H g H' g'->Same H H'->WOk Γ H' g' S->VOk Γ H d fr v H' g'->Q v H'
variable {Q:VK}
theorem zg (w:WOk Γ H g S) (q:Fin Γ H g S d false Q) (h:Has Γ g d v):Q v H:=q v H g (Step.refl H g) (Same.refl H) w h
theorem WOk.laid {o:HO}(w:WOk Γ H g S) (h:H a=none):WOk Γ (upd H a o) g S where
 rh:=fun b u q=>by
  have e:=w.rh b u q
  rw [zb (zc e h)];exact e
 len:=w.len
 nd:=w.nd
 off:=w.off
 cell:=fun k c b h1 h2=>(w.cell k c b h1 h2).mono (Le.refl g) fun o e=>by rw [zb (zc e h)];exact e
theorem WOk.notR (w:WOk Γ H g S) (h:H a=none):g.R a=none:=by
 cases q:g.R a with
 | none=>rfl
 | some o=>rw [w.rh a o q] at h;cases h
theorem WOk.notA (w:WOk Γ H g S) (h:H a=none):a ∉ g.α:=fun m=>by
 obtain ⟨k,hk,e⟩:=iG m
 have hk':k < S.length:=by rw [<- w.len];exact hk
 obtain ⟨o,ho,_⟩:=(w.cell k _ a (ξ hk') (by rw [ξ hk,e])).isMut
 rw [ho] at h;cases h
theorem ym {o:HO}(h:H a=none):Same H (upd H a o):=fun b u q=>by rw [zb (zc q h)];exact q
theorem kJ {ds:List D}{vs:List V}(w:WOk Γ H g S) (q:Fin Γ H g S (.tup ds) false Q) (h:Hass Γ g ds vs) (ha:H a=none):Q (.ref a) (upd H a (.tup vs)):=by
 have hr:=w.notR ha
 refine q _ _ (g.put a (.tup vs)) ?_ (ym ha) ((w.laid ha).put zf hr (w.notA ha)) ⟨a,vs,rfl,zf,h.mono (Le.put hr)⟩
 exact (Step.of_same (ym ha) (Le.refl g) (fun _ h=>.inl h) fun _ h=>.inl h).put hr ha
theorem xu {ds:List D}{vs:List V}(w:WOk Γ H g S) (q:Fin Γ H g S (.lst ds) true Q) (h:Hass Γ g ds vs) (ha:H a=none):Q (.ref a) (upd H a (.lst vs)):=
 q _ _ g (Step.of_same (ym ha) (Le.refl g) (fun _ h=>.inl h) fun _ h=>.inl h) (ym ha) (w.laid ha) ⟨a,rfl,ha,w.notR ha,w.notA ha,vs,zf,h⟩
end
theorem zaq {n:Nat}(h:fits n=true):n < sizeLine:=Nat.lt_of_le_of_lt (of_decide_eq_true h) (by decide)
theorem yN {n:Nat}(h:fits n=true):n<=sizeLine:=gA (zaq h)
def RDo (Γ:Gm) (r:R2) (a b:D) (d:D) (fr:Bool):Prop:=
 ∀ (S:Store) (H:Hp) (g:G) (x y:V) (Q:VK),WOk Γ H g S->Rdb Γ H g a x->Rdb Γ H g b y->Fin Γ H g S d fr Q->r x y H Q
section
variable {X:Cx}{Γ:Gm}
def rCatS:R2:=fun x y H Q=>∃ l b xs zs,x=.ref l/\y=.ref b/\H l=some (.lst xs)/\H b=some (.lst zs)/\xs.length+zs.length<=sizeLine/\∀ p,H p=none->Q (.ref p) (upd H p (.lst (xs++zs)))
theorem zbM:OpR X (bA .Add) rCatS:=by
 intro pj s σ H x y v u Q I rx ry h
 obtain ⟨l,b,xs,zs,rfl,rfl,hH,hB,hz,q⟩:=h
 cases rx
 cases ry
 obtain ⟨z,its,n,r,e⟩:=I.hok _ _ hH
 obtain ⟨z2,its2,n2,r2,e2⟩:=I.hok _ _ hB
 have hl:=r.length
 have hl2:=r2.length
 refine PySem.P.add_list e e2 ?_ (by rw [θ,θ];omega)
 have ea:its.toArray++its2.toArray=(its++its2).toArray:=by simp
 rw [ea]
 exact ⟨.ref _,_,I.lnew (t':=s.toks) (r.append r2) (by rw [Α];omega),rfl,q _ I.fresh⟩
theorem Wg {g:G}{ds:List D}{vs:List V}(h:Hass Γ g ds vs):∀ n:Nat,Hass Γ g (Ψ n ds).flatten (Ψ n vs).flatten
 | 0=>rfl
 | n+1=>by
  rw [aR,aR,bV,bV]
  exact h.app (Wg h n)
theorem Xe {xs:List V}{us:List δ}(h:Vals xs us):∀ n:Nat,Vals (Ψ n xs).flatten (Ψ n us).flatten
 | 0=>.nil
 | n+1=>by
  rw [aR,aR,bV,bV]
  exact h.append (Xe h n)
theorem Ub (us:List δ):∀ (n:Nat) (acc:List δ),List.foldl (fun x1 x2=>x1++x2) acc.toArray (Ψ n us.toArray)=(acc++(Ψ n us).flatten).toArray
 | 0,acc=>by simp
 | n+1,acc=>by
  rw [aR,gB,List.append_toArray,Ub us n,aR,bV,π]
def rRepS:R2:=fun x y H Q=>∃ l xs n,x=.ref l/\y=.int n/\H l=some (.lst xs)/\0<=n/\n < 2 ^ 20/\xs.length*n.toNat<=sizeLine/\∀ p,H p=none->Q (.ref p) (upd H p (.lst (Ψ n.toNat xs).flatten))
theorem zbI:OpR X (bA .Mult) rRepS:=by
 intro pj s σ H x y v u Q I rx ry h
 obtain ⟨l,xs,k,rfl,rfl,hH,k0,k1,hz,q⟩:=h
 cases rx
 obtain ⟨t,rfl⟩:=ry
 obtain ⟨z,its,n,r,e⟩:=I.hok _ _ hH
 have hl:=r.length
 have hi:s.heap.get? l=some { cls:=.type "list",dict:=none,data:=.seq its.toArray n,slots:=#[] }:=e
 have hz':its.toArray.size*k.toNat<=2 ^ 24:=by
  rw [θ,<- hl]
  rw [bu] at hz
  omega
 refine wpAny_binaryOp_repeat_ref (T:="list") (U:="int") (by decide) ⟨_,hi,rfl⟩ (fun s'=>typeIs_int s' k t) noFill_list_mul F.fills_int_mul F.slot_int_rmul repeat_list F.slot_int_index.lookup
  (lB F.slot_int_rmul (typeIs_int s k t) F.entry_int_rmul (F.args_int_rmul_2 _ _) (int___rmul___int_list k t l its.toArray n)
   ⟨hi,rfl,⟨_,hi,rfl⟩,lB F.slot_list_mul ⟨_,hi,rfl⟩ F.entry_list_mul (F.args_list_mul_2 _ _)
    (AutoListH.list___mul___list_int_3 l its.toArray n k t (by simp [Φ.List.listFitsIndex];omega) (by omega) (by simp [bZ,sizeLine];rw [θ] at hz';omega))
    ⟨hi,?_⟩⟩)
 have ea:List.foldl (fun x1 x2=>x1++x2) #[] (Ψ (if its.toArray.isEmpty=true then 0 else k.toNat) its.toArray)=((Ψ k.toNat its).flatten).toArray:=by
  cases its with
  | nil=>
   have:(Ψ k.toNat ([]:List δ)).flatten=[]:=by induction k.toNat with
    | zero=>rfl
    | succ n ih=>rw [aR,bV,ih];rfl
   rw [this];rfl
  | cons a l=>
   have:((a::l).toArray.isEmpty=true)=False:=by simp
   rw [if_neg (by rw [this];exact id)]
   have:=Ub (a::l) k.toNat []
   simpa using this
 rw [ea]
 exact ⟨.ref _,_,I.lnew (t':=s.toks) (Xe r _) (by
  have:(Ψ k.toNat xs).flatten.length=xs.length*k.toNat:=by
   rw [List.length_flatten,List.map_replicate,List.sum_replicate_nat,Nat.mul_comm]
  rw [this];exact hz),rfl,q _ I.fresh⟩
theorem wA {f:Int->Int->Option Int}{a b:D}{p:D×Bool}(h:num2 f a b=some p):∃ i j k,a=.int i/\b=.int j/\f i j=some k/\p=(.int k,false):=by
 cases a with
 | int i=>
  cases b with
  | int j=>
   obtain ⟨k,e,rfl⟩:=Ε.mp (show (f i j).map (fun k=>(D.int k,false))=some p from h)
   exact ⟨i,j,k,rfl,rfl,e,rfl⟩
  | _=>cases h
 | _=>cases h
theorem zcv {a b:D}{d:D}{fr:Bool}(hK:X.K=Γ.K) (h:addD a b=some (d,fr)):∃ r,OpR X (bA .Add) r/\RDo Γ r a b d fr:=by
 cases a with
 | int i=>
  cases b with
  | int j=>
   cases h
   exact ⟨_,zdL,fun S H g x y Q w hx hy q=>⟨_,_,hx,hy,zg w q rfl⟩⟩
  | _=>cases h
 | str s=>
  cases b with
  | str u=>
   have h:(if fits (s.length+u.length)=true then some (D.str (s++u),false) else none)=some (d,fr):=h
   split at h
   ·rename_i hf
    cases h
    exact ⟨_,W7,fun S H g x y Q w hx hy q=>⟨_,_,hx,hy,yN hf,zg w q rfl⟩⟩
   ·cases h
  | _=>cases h
 | tup s=>
  cases b with
  | tup u=>
   have h:(if fits (s.length+u.length)=true then some (D.tup (s++u),false) else none)=some (d,fr):=h
   split at h
   ·rename_i hf
    cases h
    refine ⟨_,zbL.or Qh,fun S H g x y Q w ⟨a,xs,e1,e2,e3⟩ ⟨b,ys,f1,f2,f3⟩ q=>?_⟩
    rw [hK]
    have h1:=e3.len
    have h2:=f3.len
    have hz:=yN hf
    by_cases hx:xs=[]
    ·subst hx
     refine .inr ⟨a,b,ys,e1,f1,SqT.of (w.rh _ _ e2),SqT.of (w.rh _ _ f2),?_⟩
     have e0:=cT.mp h1.symm
     subst e0
     exact zg w q ⟨b,ys,rfl,f2,f3⟩
    ·refine .inl ⟨a,b,xs,ys,e1,f1,SqT.of (w.rh _ _ e2),SqT.of (w.rh _ _ f2),hx,by lia,fun z=>?_,fun _ p hp=>kJ w q (e3.app f3) hp⟩
     subst z
     have e0:=cT.mp h2.symm
     subst e0
     refine zg w q ⟨a,xs,rfl,e2,?_⟩
     rw [Ϣ]
     exact e3
   ·cases h
  | _=>cases h
 | lst s=>
  cases b with
  | lst u=>
   have h:(if fits (s.length+u.length)=true then some (D.lst (s++u),true) else none)=some (d,fr):=h
   split at h
   ·rename_i hf
    cases h
    refine ⟨_,zbM,fun S H g x y Q w ⟨a,xs,e1,e2,e3⟩ ⟨b,ys,f1,f2,f3⟩ q=>?_⟩
    have h1:=e3.len
    have h2:=f3.len
    have hz:=yN hf
    exact ⟨a,b,xs,ys,e1,f1,e2,f2,by lia,fun p hp=>xu w q (e3.app f3) hp⟩
   ·cases h
  | _=>cases h
 | _=>cases h
theorem zbW {a b:D}{d:D}{fr:Bool}(h:mulD a b=some (d,fr)):∃ r,OpR X (bA .Mult) r/\RDo Γ r a b d fr:=by
 cases a with
 | int i=>
  cases b with
  | int j=>
   have h:(if (zM i||zM j)=true then some (D.int (i*j),false) else none)=some (d,fr):=h
   split at h
   ·rename_i hf
    cases h
    refine ⟨_,zdF,fun S H g x y Q w hx hy q=>⟨_,_,hx,hy,?_,zg w q rfl⟩⟩
    simp only [zM,lF,ε,decide_eq_true_eq] at hf
    exact hf
   ·cases h
  | _=>cases h
 | lst l=>
  cases b with
  | int n=>
   have h:(if (decide (0<=n)&&decide (n < 2 ^ 20)&&fits (l.length*n.toNat))=true then some (D.lst (Ψ n.toNat l).flatten,true) else none)=some (d,fr):=h
   split at h
   ·rename_i hf
    cases h
    simp only [ε,decide_eq_true_eq] at hf
    refine ⟨_,zbI,fun S H g x y Q w ⟨a,xs,e1,e2,e3⟩ hy q=>?_⟩
    have h1:=e3.len
    have hz:=yN hf.2
    exact ⟨a,xs,_,e1,hy,e2,hf.1.1,hf.1.2,by rw [h1];exact hz,fun p hp=>xu w q (Wg e3 _) hp⟩
   ·cases h
  | _=>cases h
 | _=>cases h
theorem zdC {op:lH}{a b:D}{d:D}{fr:Bool}(hK:X.K=Γ.K) (h:opD op a b=some (d,fr)):∃ r,OpR X (bA op) r/\RDo Γ r a b d fr:=by
 cases op with
 | Add=>exact zcv hK h
 | Mult=>exact zbW h
 | Sub=>
  obtain ⟨i,j,k,rfl,rfl,e,e2⟩:=wA h
  cases e
  cases e2
  exact ⟨_,zdB,fun S H g x y Q w hx hy q=>⟨_,_,hx,hy,zg w q rfl⟩⟩
 | FloorDiv=>
  obtain ⟨i,j,k,rfl,rfl,e,e2⟩:=wA h
  cases e2
  split at e
  ·rename_i hf
   cases e
   refine ⟨_,Qg,fun S H g x y Q w hx hy q=>⟨_,_,hx,hy,?_,zg w q rfl⟩⟩
   simp only [ε,decide_eq_true_eq] at hf
   exact hf
  ·cases e
 | Mod=>
  obtain ⟨i,j,k,rfl,rfl,e,e2⟩:=wA h
  cases e2
  split at e
  ·rename_i hf
   cases e
   exact ⟨_,zdG,fun S H g x y Q w hx hy q=>⟨_,_,hx,hy,of_decide_eq_true hf,zg w q rfl⟩⟩
  ·cases e
 | Pow=>
  obtain ⟨i,j,k,rfl,rfl,e,e2⟩:=wA h
  cases e2
  split at e
  ·rename_i hf
   cases e
   refine ⟨_,zdD,fun S H g x y Q w hx hy q=>⟨_,_,hx,hy,?_,zg w q rfl⟩⟩
   simp only [zM,ε,decide_eq_true_eq] at hf
   exact ⟨hf.1.1,hf.1.2,by omega⟩
  ·cases e
 | _=>cases h
end
open PySem PySem.Spec PyProof.Rows L2 SeqAt
section
variable {X:Cx}{pj:List (Addr×Obj)}{σ:L2.St}{H:Hp}{s:ο}{Γ:Gm}{g:G}
theorem za3 (sr:Same g.R H) {a:Addr}{xs ys:List V}(h:g.R a=some (.tup xs)) (h':g.R a=some (.tup ys)):xs=ys:=by
 rw [h] at h';cases h';rfl
theorem zbl (sr:Same g.R H) {a:Addr}{xs ys:List V}(h:g.R a=some (.lst xs)) (h':g.R a=some (.lst ys)):xs=ys:=by
 rw [h] at h';cases h';rfl
theorem tl_ne (sr:Same g.R H) {a b:Addr}{xs ys:List V}(h:g.R a=some (.lst xs)) (h':g.R b=some (.tup ys)):a≠b:=by
 rintro rfl
 rw [h] at h';cases h'
mutual
theorem kO (I:Inv X pj σ H s) (hK:X.K=Γ.K) (sr:Same g.R H):∀ (n:Nat) (a b:D) (x:V),okP n a=true->okP n b=true->Has Γ g a x->Has Γ g b x->eqP a b=true
 | n,.non,b,x,_,kb,ha,hb=>by
  cases (show x=.non from ha)
  cases b with
  | non=>rfl
  | bl=>cases (show V.non=_ from hb)
  | int=>cases (show V.non=_ from hb)
  | str=>cases (show V.non=_ from hb)
  | tup=>obtain ⟨_,_,h,_⟩:=hb;cases h
  | lst=>obtain ⟨_,_,h,_⟩:=hb;cases h
  | _=>cases n <;> exact nobE kb
 | n,.bl c,b,x,_,kb,ha,hb=>by
  cases (show x=.bl c from ha)
  cases b with
  | non=>cases (show V.bl c=_ from hb)
  | bl=>cases (show V.bl c=_ from hb);exact beq_self_eq_true c
  | int=>cases (show V.bl c=_ from hb)
  | str=>cases (show V.bl c=_ from hb)
  | tup=>obtain ⟨_,_,h,_⟩:=hb;cases h
  | lst=>obtain ⟨_,_,h,_⟩:=hb;cases h
  | _=>cases n <;> exact nobE kb
 | n,.int c,b,x,_,kb,ha,hb=>by
  cases (show x=.int c from ha)
  cases b with
  | non=>cases (show V.int c=_ from hb)
  | bl=>cases (show V.int c=_ from hb)
  | int=>cases (show V.int c=_ from hb);exact beq_self_eq_true c
  | str=>cases (show V.int c=_ from hb)
  | tup=>obtain ⟨_,_,h,_⟩:=hb;cases h
  | lst=>obtain ⟨_,_,h,_⟩:=hb;cases h
  | _=>cases n <;> exact nobE kb
 | n,.str c,b,x,_,kb,ha,hb=>by
  cases (show x=.str c from ha)
  cases b with
  | non=>cases (show V.str c=_ from hb)
  | bl=>cases (show V.str c=_ from hb)
  | int=>cases (show V.str c=_ from hb)
  | str=>cases (show V.str c=_ from hb);exact beq_self_eq_true c
  | tup=>obtain ⟨_,_,h,_⟩:=hb;cases h
  | lst=>obtain ⟨_,_,h,_⟩:=hb;cases h
  | _=>cases n <;> exact nobE kb
 | 0,.tup as,b,x,ka,_,_,_=>nobE ka
 | n+1,.tup as,b,x,ka,kb,⟨a,xs,h1,h2,h3⟩,hb=>by
  subst h1
  cases b with
  | non=>cases (show V.ref a=_ from hb)
  | bl=>cases (show V.ref a=_ from hb)
  | int=>cases (show V.ref a=_ from hb)
  | str=>cases (show V.ref a=_ from hb)
  | tup bs=>
   obtain ⟨a',ys,f1,f2,f3⟩:=hb
   cases f1
   have e:=za3 sr h2 f2
   subst e
   exact uw I hK sr n as bs xs ka kb h3 f3
  | lst bs=>
   obtain ⟨a',ys,f1,f2,f3⟩:=hb
   cases f1
   exact absurd rfl (tl_ne sr f2 h2)
  | _=>exact nobE kb
 | 0,.lst as,b,x,ka,_,_,_=>nobE ka
 | n+1,.lst as,b,x,ka,kb,⟨a,xs,h1,h2,h3⟩,hb=>by
  subst h1
  cases b with
  | non=>cases (show V.ref a=_ from hb)
  | bl=>cases (show V.ref a=_ from hb)
  | int=>cases (show V.ref a=_ from hb)
  | str=>cases (show V.ref a=_ from hb)
  | tup bs=>
   obtain ⟨a',ys,f1,f2,f3⟩:=hb
   cases f1
   exact absurd rfl (tl_ne sr h2 f2)
  | lst bs=>
   obtain ⟨a',ys,f1,f2,f3⟩:=hb
   cases f1
   have e:=zbl sr h2 f2
   subst e
   exact uw I hK sr n as bs xs ka kb h3 f3
  | _=>exact nobE kb
 | n,.dK _ _,b,x,ka,_,_,_=>by revert ka;cases n <;> exact nobE
 | n,.dT _ _,b,x,ka,_,_,_=>by revert ka;cases n <;> exact nobE
 | n,.ref _,b,x,ka,_,_,_=>by revert ka;cases n <;> exact nobE
 | n,.fn _,b,x,ka,_,_,_=>by revert ka;cases n <;> exact nobE
 | n,.scr _,b,x,ka,_,_,_=>by revert ka;cases n <;> exact nobE
 | n,.ktp _,b,x,ka,_,_,_=>by revert ka;cases n <;> exact nobE
theorem uw (I:Inv X pj σ H s) (hK:X.K=Γ.K) (sr:Same g.R H):∀ (n:Nat) (as bs:List D) (xs:List V),okPs n as=true->okPs n bs=true->Hass Γ g as xs->Hass Γ g bs xs->eqPs as bs=true
 | n,[],bs,xs,_,_,ha,hb=>by
  cases (show xs=[] from ha)
  cases bs with
  | nil=>rfl
  | cons=>obtain ⟨_,_,h,_⟩:=hb;cases h
 | n,a::as,bs,xs,ka,kb,⟨v,r,h1,h2,h3⟩,hb=>by
  subst h1
  cases bs with
  | nil=>cases (show _=[] from hb)
  | cons b bs=>
   obtain ⟨v',r',f1,f2,f3⟩:=hb
   cases f1
   have ka':(okP n a&&okPs n as)=true:=ka
   have kb':(okP n b&&okPs n bs)=true:=kb
   rw [ε] at ka' kb'
   show (eqP a b&&eqPs as bs)=true
   rw [kO I hK sr n a b v ka'.1 kb'.1 h2 f2,uw I hK sr n as bs r ka'.2 kb'.2 h3 f3]
   rfl
end
theorem vG:∀ (as bs:List D),as.length=bs.length->eqPs as bs=(ao as.length).all fun i=>eqP (as.getD i .non) (bs.getD i .non)
 | [],[],_=>rfl
 | a::as,b::bs,h=>by
  have ih:=vG as bs (by simpa using h)
  show (eqP a b&&eqPs as bs)=_
  rw [ih,Ϟ,mV,bQ,List.all_map]
  rfl
 | [],_::_,h=>by simp at h
 | _::_,[],h=>by simp at h
theorem vC:∀ (as bs:List D),as.length≠bs.length->eqPs as bs=false
 | [],[],h=>absurd rfl h
 | a::as,b::bs,h=>by
  show (eqP a b&&eqPs as bs)=_
  rw [vC as bs (by simpa using h),lR]
 | [],_::_,h=>rfl
 | _::_,[],h=>rfl
theorem vq {as bs:List D}{xs ys:List V}{us ws:List δ}{n:Nat}{A:ϡ}(ka:okPs n as=true) (kb:okPs n bs=true) (ha:Hass Γ g as xs) (hb:Hass Γ g bs ys) (ra:Vals xs us) (rb:Vals ys ws)
  (ih:∀ (a b:D) (x y:V) (u v:δ),a∈as->okP n a=true->okP n b=true->Has Γ g a x->Has Γ g b y->RelV x u->RelV y v->EqAt A s u v (eqP a b)):
  ∀ (j:Nat) (h1:j < us.toArray.size) (h2:j < ws.toArray.size),EqAt A s us.toArray[j] ws.toArray[j] (eqP (as.getD j .non) (bs.getD j .non)):=by
 intro j h1 h2
 have l1:=ra.length
 have l2:=rb.length
 have l3:=ha.len
 have l4:=hb.len
 simp only [θ] at h1 h2
 have k1:j < as.length:=by lia
 have k2:j < bs.length:=by lia
 obtain ⟨x,ex,hx⟩:=ha.get (ξ k1)
 obtain ⟨y,ey,hy⟩:=hb.get (ξ k2)
 obtain ⟨u,eu,ru⟩:=ra.get ex
 obtain ⟨v,ev,rv⟩:=rb.get ey
 have e1:us.toArray[j]'(by simpa using h1)=u:=by simpa [ξ h1] using eu
 have e2:ws.toArray[j]'(by simpa using h2)=v:=by simpa [ξ h2] using ev
 have g1:as.getD j .non=as[j]:=by simp [ϵ,k1]
 have g2:bs.getD j .non=bs[j]:=by simp [ϵ,k2]
 rw [e1,e2,g1,g2]
 have all:∀ (l:List D),okPs n l=true->∀ d∈l,okP n d=true:=by
  intro l
  induction l with
  | nil=>intro _ d hd;cases hd
  | cons c l il=>
   intro k d hd
   have k':(okP n c&&okPs n l)=true:=k
   rw [ε] at k'
   rcases Ξ.mp hd with rfl | hd
   ·exact k'.1
   ·exact il k'.2 d hd
 exact ih _ _ x y u v (aY k1) (all as ka _ (aY k1)) (all bs kb _ (aY k2)) hx hy ru rv
theorem isT {a:Addr}{its:Array δ}{h:Heap}(p:IsTup h a its):h.IsTuple a its:=p
theorem units_in1 (A:ϡ):A.in1.units=A.units+1:=rfl
noncomputable def scD:D->Option V
 | .non=>some .non
 | .bl b=>some (.bl b)
 | .int i=>some (.int i)
 | .str x=>some (.str x)
 | _=>none
theorem yC {d:D}{w x:V}(h:scD d=some w) (hh:Has Γ g d x):x=w:=by
 cases d <;> first | cases h | skip
 all_goals exact hh
theorem yR {d:D}{w:V}(h:scD d=some w):flatV w=true:=by
 cases d <;> first | cases h | skip
 all_goals rfl
theorem V7 {a b:D}{x y:V}(h:scD a=some x) (h':scD b=some y):eqV x y=eqP a b:=by
 cases a <;> first | cases h | skip
 all_goals (cases b <;> first | cases h' | skip)
 all_goals rfl
theorem zN {n:Nat}{d:D}(h:okP n d=true):(∃ w,scD d=some w)\/(∃ m ds,n=m+1/\d=.tup ds/\okPs m ds=true)\/(∃ m ds,n=m+1/\d=.lst ds/\okPs m ds=true):=by
 cases d with
 | non=>exact .inl ⟨_,rfl⟩
 | bl=>exact .inl ⟨_,rfl⟩
 | int=>exact .inl ⟨_,rfl⟩
 | str=>exact .inl ⟨_,rfl⟩
 | tup ds=>cases n with
  | zero=>exact nobE h
  | succ m=>exact .inr (.inl ⟨m,ds,rfl,rfl,h⟩)
 | lst ds=>cases n with
  | zero=>exact nobE h
  | succ m=>exact .inr (.inr ⟨m,ds,rfl,rfl,h⟩)
 | _=>cases n <;> exact nobE h
section
variable {A:ϡ}{l:Addr}{its:Array δ}{w:V}{v:δ}{d:D}
theorem J6 (p:s.heap.IsTuple l its) (hu:A.units < aq) (h:scD d=some w) (r:RelV w v):EqAt A s (.ref l) v false:=by
 cases d with
 | non=>cases h;cases (show v=Κ from r);exact EqAt.tuple_none p hu
 | bl b=>cases h;cases (show v=ύ b from r);exact EqAt.tuple_bool b p hu
 | int i=>cases h;obtain ⟨t,rfl⟩:=(show ∃ t,v=ϗ i t from r);exact EqAt.tuple_int i t p hu
 | str i=>cases h;obtain ⟨t,rfl⟩:=(show ∃ t,v=aX i t from r);exact EqAt.tuple_str i t p hu
 | _=>cases h
theorem J7 (p:s.heap.IsTuple l its) (hu:A.units < aq) (h:scD d=some w) (r:RelV w v):EqAt A s v (.ref l) false:=by
 cases d with
 | non=>cases h;cases (show v=Κ from r);exact EqAt.none_tuple p hu
 | bl b=>cases h;cases (show v=ύ b from r);exact EqAt.bool_tuple b p hu
 | int i=>cases h;obtain ⟨t,rfl⟩:=(show ∃ t,v=ϗ i t from r);exact EqAt.int_tuple i t p hu
 | str i=>cases h;obtain ⟨t,rfl⟩:=(show ∃ t,v=aX i t from r);exact EqAt.str_tuple i t p hu
 | _=>cases h
theorem J9 (p:s.heap.IsList l its) (hu:A.units < aq) (h:scD d=some w) (r:RelV w v):EqAt A s (.ref l) v false:=by
 cases d with
 | non=>cases h;cases (show v=Κ from r);exact EqAt.list_none p hu
 | bl b=>cases h;cases (show v=ύ b from r);exact EqAt.list_bool b p hu
 | int i=>cases h;obtain ⟨t,rfl⟩:=(show ∃ t,v=ϗ i t from r);exact EqAt.list_int i t p hu
 | str i=>cases h;obtain ⟨t,rfl⟩:=(show ∃ t,v=aX i t from r);exact EqAt.list_str i t p hu
 | _=>cases h
theorem J8 (p:s.heap.IsList l its) (hu:A.units < aq) (h:scD d=some w) (r:RelV w v):EqAt A s v (.ref l) false:=by
 cases d with
 | non=>cases h;cases (show v=Κ from r);exact EqAt.none_list p hu
 | bl b=>cases h;cases (show v=ύ b from r);exact EqAt.bool_list b p hu
 | int i=>cases h;obtain ⟨t,rfl⟩:=(show ∃ t,v=ϗ i t from r);exact EqAt.int_list i t p hu
 | str i=>cases h;obtain ⟨t,rfl⟩:=(show ∃ t,v=aX i t from r);exact EqAt.str_list i t p hu
 | _=>cases h
end
theorem zP {d:D}{w:V}{bs:List D}(h:scD d=some w):eqP d (.tup bs)=false/\eqP (.tup bs) d=false/\eqP d (.lst bs)=false/\eqP (.lst bs) d=false:=by
 cases d <;> first | cases h | skip
 all_goals exact ⟨rfl,rfl,rfl,rfl⟩
theorem zaf {as bs:List D}{xs ys:List V}{us ws:List δ}(r1:Vals xs us) (r2:Vals ys ws) (h3:Hass Γ g as xs) (f3:Hass Γ g bs ys):
  ((ao (min us.toArray.size ws.toArray.size)).all (fun j=>eqP (as.getD j .non) (bs.getD j .non))&&us.toArray.size==ws.toArray.size)=eqPs as bs:=by
 have l1:=r1.length
 have l2:=r2.length
 have l3:=h3.len
 have l4:=f3.len
 simp only [θ]
 by_cases hl:as.length=bs.length
 ·rw [vG as bs hl]
  have m1:us.length=as.length:=by lia
  have m2:ws.length=as.length:=by lia
  rw [m1,m2]
  simp
 ·rw [vC as bs hl]
  have:¬ us.length=ws.length:=by lia
  simp [this]
theorem zag {as bs:List D}{xs ys:List V}{us ws:List δ}{a b:Addr}{n:Nat}{A:ϡ}(ka:okPs n as=true) (kb:okPs n bs=true) (p1:PlainL s.heap a us.toArray) (p2:PlainL s.heap b ws.toArray) (r1:Vals xs us) (r2:Vals ys ws)
  (h3:Hass Γ g as xs) (f3:Hass Γ g bs ys) (hu:A.units < aq) (ih:∀ (a b:D) (x y:V) (u v:δ),a∈as->okP n a=true->okP n b=true->Has Γ g a x->Has Γ g b y->RelV x u->RelV y v->EqAt A.in1 s u v (eqP a b)):
  RcAt A s (.ref a) (.ref b) (eqPs as bs):=by
 have l1:=r1.length
 have l2:=r2.length
 have l3:=h3.len
 have l4:=f3.len
 by_cases hl:as.length=bs.length
 ·have k:=RcAt.lists p1.isList p2.isList (by simp only [θ];lia) hu (vq (A:=A.in1) ka kb h3 f3 r1 r2 ih)
  have m1:us.toArray.size=as.length:=by simp only [θ];lia
  rw [m1,<- vG as bs hl] at k
  exact k
 ·rw [vC as bs hl]
  exact RcAt.lists_lengths (A:=A) p1.isList p2.isList (by simp only [θ,bne_iff_ne];lia) hu
theorem kW (I:Inv X pj σ H s) (hK:X.K=Γ.K) (sr:Same g.R H):∀ (n:Nat) (a b:D) (x y:V) (u v:δ) (A:ϡ),A.units+n+1 < aq->okP n a=true->okP n b=true->Has Γ g a x->Has Γ g b y->RelV x u->RelV y v->EqAt A s u v (eqP a b):=by
 intro n
 induction n with
 | zero=>
  intro a b x y u v A hu ka kb ha hb ru rv
  rcases zN ka with ⟨w,hw⟩ | ⟨m,ds,e,_⟩ | ⟨m,ds,e,_⟩
  ·rcases zN kb with ⟨w',hw'⟩ | ⟨m,ds,e,_⟩ | ⟨m,ds,e,_⟩
   ·rw [yC hw ha] at ru
    rw [yC hw' hb] at rv
    rw [<- V7 hw hw']
    exact JG ru rv (yR hw) (yR hw')
   ·cases e
   ·cases e
  ·cases e
  ·cases e
 | succ n ih=>
  intro a b x y u v A hu ka kb ha hb ru rv
  have hu':A.units < aq:=by lia
  have hin:A.in1.units+n+1 < aq:=by rw [units_in1];lia
  rcases zN ka with ⟨w,hw⟩ | ⟨m,as,e,e1,kas⟩ | ⟨m,as,e,e1,kas⟩
  ·rcases zN kb with ⟨w',hw'⟩ | ⟨m,bs,e,e2,kbs⟩ | ⟨m,bs,e,e2,kbs⟩
   ·rw [yC hw ha] at ru
    rw [yC hw' hb] at rv
    rw [<- V7 hw hw']
    exact JG ru rv (yR hw) (yR hw')
   ·subst e2
    rw [yC hw ha] at ru
    obtain ⟨b,ys,rfl,f2,f3⟩:=hb
    cases rv
    obtain ⟨ws,r2,p2,_⟩:=I.tuple (SqT.of (sr _ _ f2))
    rw [(zP hw).1]
    exact J7 (isT p2) hu' hw ru
   ·subst e2
    rw [yC hw ha] at ru
    obtain ⟨b,ys,rfl,f2,f3⟩:=hb
    cases rv
    obtain ⟨ws,r2,p2,_⟩:=I.list (SqL.of (sr _ _ f2))
    rw [(zP hw).2.2.1]
    exact J8 p2.isList hu' hw ru
  ·subst e1
   cases e
   obtain ⟨a,xs,rfl,h2,h3⟩:=ha
   cases ru
   obtain ⟨us,r1,p1,_⟩:=I.tuple (SqT.of (sr _ _ h2))
   rcases zN kb with ⟨w',hw'⟩ | ⟨m,bs,e,e2,kbs⟩ | ⟨m,bs,e,e2,kbs⟩
   ·rw [yC hw' hb] at rv
    rw [(zP hw').2.1]
    exact J6 (isT p1) hu' hw' rv
   ·subst e2
    cases e
    obtain ⟨b,ys,rfl,f2,f3⟩:=hb
    cases rv
    by_cases e:a=b
    ·subst e
     have:=kO I hK sr (n+1) (.tup as) (.tup bs) (.ref a) ka kb ⟨a,xs,rfl,h2,h3⟩ ⟨a,ys,rfl,f2,f3⟩
     rw [this]
     exact EqAt.same _
    ·obtain ⟨ws,r2,p2,_⟩:=I.tuple (SqT.of (sr _ _ f2))
     have k:=RcAt.tuples (isT p1) (isT p2) hu' (vq (A:=A.in1) kas kbs h3 f3 r1 r2 fun a b x y u v _ ka kb ha hb ru rv=>ih a b x y u v A.in1 hin ka kb ha hb ru rv)
     rw [zaf r1 r2 h3 f3] at k
     exact EqAt.of_refs e k
   ·subst e2
    cases e
    obtain ⟨b,ys,rfl,f2,f3⟩:=hb
    cases rv
    obtain ⟨ws,r2,p2,_⟩:=I.list (SqL.of (sr _ _ f2))
    exact EqAt.tuple_list (isT p1) p2.isList hu'
  ·subst e1
   cases e
   obtain ⟨a,xs,rfl,h2,h3⟩:=ha
   cases ru
   obtain ⟨us,r1,p1,_⟩:=I.list (SqL.of (sr _ _ h2))
   rcases zN kb with ⟨w',hw'⟩ | ⟨m,bs,e,e2,kbs⟩ | ⟨m,bs,e,e2,kbs⟩
   ·rw [yC hw' hb] at rv
    rw [(zP hw').2.2.2]
    exact J9 p1.isList hu' hw' rv
   ·subst e2
    cases e
    obtain ⟨b,ys,rfl,f2,f3⟩:=hb
    cases rv
    obtain ⟨ws,r2,p2,_⟩:=I.tuple (SqT.of (sr _ _ f2))
    exact EqAt.list_tuple p1.isList (isT p2) hu'
   ·subst e2
    cases e
    obtain ⟨b,ys,rfl,f2,f3⟩:=hb
    cases rv
    by_cases e:a=b
    ·subst e
     have:=kO I hK sr (n+1) (.lst as) (.lst bs) (.ref a) ka kb ⟨a,xs,rfl,h2,h3⟩ ⟨a,ys,rfl,f2,f3⟩
     rw [this]
     exact EqAt.same _
    ·obtain ⟨ws,r2,p2,_⟩:=I.list (SqL.of (sr _ _ f2))
     exact EqAt.of_refs e (zag kas kbs p1 p2 r1 r2 h3 f3 hu' fun a b x y u v _ ka kb ha hb ru rv=>ih a b x y u v A.in1 hin ka kb ha hb ru rv)
end
section
variable {X:Cx}{pj:List (Addr×Obj)}{σ:L2.St}{H:Hp}{s:ο}{Γ:Gm}{g:G}
section
variable {A:ϡ}{l:Addr}{its:Array δ}{w:V}{v:δ}{d:D}
theorem qJ (p:s.heap.IsTuple l its) (hu:A.units < aq) (h:scD d=some w) (r:RelV w v):RcAt A s (.ref l) v false/\RcAt A s v (.ref l) false/\Ϥ A s (.ref l) v true/\Ϥ A s v (.ref l) true:=by
 cases d with
 | non=>cases h;cases (show v=Κ from r);exact ⟨RcAt.tuple_none p hu,RcAt.none_tuple p hu,Ϥ.tuple_none p hu,Ϥ.none_tuple p hu⟩
 | bl b=>cases h;cases (show v=ύ b from r);exact ⟨RcAt.tuple_bool b p hu,RcAt.bool_tuple b p hu,Ϥ.tuple_bool b p hu,Ϥ.bool_tuple b p hu⟩
 | int i=>cases h;obtain ⟨t,rfl⟩:=(show ∃ t,v=ϗ i t from r);exact ⟨RcAt.tuple_int i t p hu,RcAt.int_tuple i t p hu,Ϥ.tuple_int i t p hu,Ϥ.int_tuple i t p hu⟩
 | str i=>cases h;obtain ⟨t,rfl⟩:=(show ∃ t,v=aX i t from r);exact ⟨RcAt.tuple_str i t p hu,RcAt.str_tuple i t p hu,Ϥ.tuple_str i t p hu,Ϥ.str_tuple i t p hu⟩
 | _=>cases h
theorem qK (p:s.heap.IsList l its) (hu:A.units < aq) (h:scD d=some w) (r:RelV w v):RcAt A s (.ref l) v false/\RcAt A s v (.ref l) false/\Ϥ A s (.ref l) v true/\Ϥ A s v (.ref l) true:=by
 cases d with
 | non=>cases h;cases (show v=Κ from r);exact ⟨RcAt.list_none p hu,RcAt.none_list p hu,Ϥ.list_none p hu,Ϥ.none_list p hu⟩
 | bl b=>cases h;cases (show v=ύ b from r);exact ⟨RcAt.list_bool b p hu,RcAt.bool_list b p hu,Ϥ.list_bool b p hu,Ϥ.bool_list b p hu⟩
 | int i=>cases h;obtain ⟨t,rfl⟩:=(show ∃ t,v=ϗ i t from r);exact ⟨RcAt.list_int i t p hu,RcAt.int_list i t p hu,Ϥ.list_int i t p hu,Ϥ.int_list i t p hu⟩
 | str i=>cases h;obtain ⟨t,rfl⟩:=(show ∃ t,v=aX i t from r);exact ⟨RcAt.list_str i t p hu,RcAt.str_list i t p hu,Ϥ.list_str i t p hu,Ϥ.str_list i t p hu⟩
 | _=>cases h
theorem KH {a b:D}{x y:V}{u v:δ}(h:scD a=some x) (h':scD b=some y) (r:RelV x u) (r':RelV y v):RcAt A s u v (eqP a b)/\Ϥ A s u v (!eqP a b):=by
 cases a with
 | non=>
  cases h;cases (show u=Κ from r)
  cases b with
  | non=>cases h';cases (show v=Κ from r');exact ⟨RcAt.none_none,Ϥ.none_none⟩
  | bl b=>cases h';cases (show v=ύ b from r');exact ⟨RcAt.none_bool _,Ϥ.none_bool _⟩
  | int b=>cases h';obtain ⟨t,rfl⟩:=(show ∃ t,v=ϗ b t from r');exact ⟨RcAt.none_int _ _,Ϥ.none_int _ _⟩
  | str b=>cases h';obtain ⟨t,rfl⟩:=(show ∃ t,v=aX b t from r');exact ⟨RcAt.none_str _ _,Ϥ.none_str _ _⟩
  | _=>cases h'
 | bl a=>
  cases h;cases (show u=ύ a from r)
  cases b with
  | non=>cases h';cases (show v=Κ from r');exact ⟨RcAt.bool_none _,Ϥ.bool_none _⟩
  | bl b=>cases h';cases (show v=ύ b from r');exact ⟨RcAt.bool_bool _ _,Ϥ.bool_bool _ _⟩
  | int b=>cases h';obtain ⟨t,rfl⟩:=(show ∃ t,v=ϗ b t from r');exact ⟨RcAt.bool_int _ _ _,Ϥ.bool_int _ _ _⟩
  | str b=>cases h';obtain ⟨t,rfl⟩:=(show ∃ t,v=aX b t from r');exact ⟨RcAt.bool_str _ _ _,Ϥ.bool_str _ _ _⟩
  | _=>cases h'
 | int a=>
  cases h;obtain ⟨t',rfl⟩:=(show ∃ t,u=ϗ a t from r)
  cases b with
  | non=>cases h';cases (show v=Κ from r');exact ⟨RcAt.int_none _ _,Ϥ.int_none _ _⟩
  | bl b=>cases h';cases (show v=ύ b from r');exact ⟨RcAt.int_bool _ _ _,Ϥ.int_bool _ _ _⟩
  | int b=>cases h';obtain ⟨t,rfl⟩:=(show ∃ t,v=ϗ b t from r');exact ⟨RcAt.int_int _ _ _ _,Ϥ.int_int _ _ _ _⟩
  | str b=>cases h';obtain ⟨t,rfl⟩:=(show ∃ t,v=aX b t from r');exact ⟨RcAt.int_str _ _ _ _,Ϥ.int_str _ _ _ _⟩
  | _=>cases h'
 | str a=>
  cases h;obtain ⟨t',rfl⟩:=(show ∃ t,u=aX a t from r)
  cases b with
  | non=>cases h';cases (show v=Κ from r');exact ⟨RcAt.str_none _ _,Ϥ.str_none _ _⟩
  | bl b=>cases h';cases (show v=ύ b from r');exact ⟨RcAt.str_bool _ _ _,Ϥ.str_bool _ _ _⟩
  | int b=>cases h';obtain ⟨t,rfl⟩:=(show ∃ t,v=ϗ b t from r');exact ⟨RcAt.str_int _ _ _ _,Ϥ.str_int _ _ _ _⟩
  | str b=>cases h';obtain ⟨t,rfl⟩:=(show ∃ t,v=aX b t from r');exact ⟨RcAt.str_str _ _ _ _,Ϥ.str_str _ _ _ _⟩
  | _=>cases h'
 | _=>cases h
end
theorem xm {d:D}{w x:V}(h:scD d=some w) (hh:Rdb Γ H g d x):x=w:=by
 cases d <;> first | cases h | skip
 all_goals exact hh
theorem rc_D (I:Inv X pj σ H s) (hK:X.K=Γ.K) (sr:Same g.R H) (n:Nat) (a b:D) (x y:V) (u v:δ) (A:ϡ) (hu:A.units+n+1 < aq) (ka:okP n a=true) (kb:okP n b=true) (ha:Rdb Γ H g a x) (hb:Rdb Γ H g b y) (ru:RelV x u) (rv:RelV y v):
  RcAt A s u v (eqP a b)/\Ϥ A s u v (!eqP a b):=by
 have hu':A.units < aq:=by lia
 rcases zN ka with ⟨w,hw⟩ | ⟨m,as,e,e1,kas⟩ | ⟨m,as,e,e1,kas⟩
 ·rcases zN kb with ⟨w',hw'⟩ | ⟨m,bs,e,e2,kbs⟩ | ⟨m,bs,e,e2,kbs⟩
  ·rw [xm hw ha] at ru
   rw [xm hw' hb] at rv
   exact KH hw hw' ru rv
  ·subst e2
   rw [xm hw ha] at ru
   obtain ⟨b,ys,rfl,f2,f3⟩:=hb
   cases rv
   obtain ⟨ws,r2,p2,_⟩:=I.tuple (SqT.of (sr _ _ f2))
   rw [(zP hw).1]
   have k:=qJ (A:=A) (isT p2) hu' hw ru
   exact ⟨k.2.1,k.2.2.2⟩
  ·subst e2
   rw [xm hw ha] at ru
   obtain ⟨b,ys,rfl,f2,f3⟩:=hb
   cases rv
   obtain ⟨ws,r2,p2,_⟩:=I.list (SqL.of f2)
   rw [(zP hw).2.2.1]
   have k:=qK (A:=A) p2.isList hu' hw ru
   exact ⟨k.2.1,k.2.2.2⟩
 ·subst e1
  cases e
  have hin:A.in1.units+m+1 < aq:=by rw [units_in1];lia
  obtain ⟨a,xs,rfl,h2,h3⟩:=ha
  cases ru
  obtain ⟨us,r1,p1,_⟩:=I.tuple (SqT.of (sr _ _ h2))
  rcases zN kb with ⟨w',hw'⟩ | ⟨m',bs,e,e2,kbs⟩ | ⟨m',bs,e,e2,kbs⟩
  ·rw [xm hw' hb] at rv
   rw [(zP hw').2.1]
   have k:=qJ (A:=A) (isT p1) hu' hw' rv
   exact ⟨k.1,k.2.2.1⟩
  ·subst e2
   cases e
   obtain ⟨b,ys,rfl,f2,f3⟩:=hb
   cases rv
   obtain ⟨ws,r2,p2,_⟩:=I.tuple (SqT.of (sr _ _ f2))
   have it:=vq (A:=A.in1) kas kbs h3 f3 r1 r2 fun a b x y u v _ ka kb ha hb ru rv=>kW I hK sr m a b x y u v A.in1 hin ka kb ha hb ru rv
   have k1:=RcAt.tuples (isT p1) (isT p2) hu' it
   have k2:=Ϥ.tuples (isT p1) (isT p2) hu' it
   rw [zaf r1 r2 h3 f3] at k1 k2
   exact ⟨k1,k2⟩
  ·subst e2
   cases e
   obtain ⟨b,ys,rfl,f2,f3⟩:=hb
   cases rv
   obtain ⟨ws,r2,p2,_⟩:=I.list (SqL.of f2)
   exact ⟨RcAt.tuple_list (isT p1) p2.isList hu',Ϥ.tuple_list (isT p1) p2.isList hu'⟩
 ·subst e1
  cases e
  have hin:A.in1.units+m+1 < aq:=by rw [units_in1];lia
  obtain ⟨a,xs,rfl,h2,h3⟩:=ha
  cases ru
  obtain ⟨us,r1,p1,_⟩:=I.list (SqL.of h2)
  rcases zN kb with ⟨w',hw'⟩ | ⟨m',bs,e,e2,kbs⟩ | ⟨m',bs,e,e2,kbs⟩
  ·rw [xm hw' hb] at rv
   rw [(zP hw').2.2.2]
   have k:=qK (A:=A) p1.isList hu' hw' rv
   exact ⟨k.1,k.2.2.1⟩
  ·subst e2
   cases e
   obtain ⟨b,ys,rfl,f2,f3⟩:=hb
   cases rv
   obtain ⟨ws,r2,p2,_⟩:=I.tuple (SqT.of (sr _ _ f2))
   exact ⟨RcAt.list_tuple p1.isList (isT p2) hu',Ϥ.list_tuple p1.isList (isT p2) hu'⟩
  ·subst e2
   cases e
   obtain ⟨b,ys,rfl,f2,f3⟩:=hb
   cases rv
   obtain ⟨ws,r2,p2,_⟩:=I.list (SqL.of f2)
   have ih:∀ (a b:D) (x y:V) (u v:δ),a∈as->okP m a=true->okP m b=true->Has Γ g a x->Has Γ g b y->RelV x u->RelV y v->EqAt A.in1 s u v (eqP a b):=fun a b x y u v _ ka kb ha hb ru rv=>kW I hK sr m a b x y u v A.in1 hin ka kb ha hb ru rv
   refine ⟨zag kas kbs p1 p2 r1 r2 h3 f3 hu' ih,?_⟩
   have l1:=r1.length
   have l2:=r2.length
   have l3:=h3.len
   have l4:=f3.len
   show Ϥ A s _ _ (!eqPs as bs)
   by_cases hl:as.length=bs.length
   ·have k:=Ϥ.lists p1.isList p2.isList (by simp only [θ];lia) hu' (vq (A:=A.in1) kas kbs h3 f3 r1 r2 ih)
    have m1:us.toArray.size=as.length:=by simp only [θ];lia
    rw [m1,<- vG as bs hl] at k
    exact k
   ·rw [vC as bs hl]
    exact Ϥ.lists_lengths (A:=A) p1.isList p2.isList (by simp only [θ,bne_iff_ne];lia) hu'
end
def rDat (Γ:Gm) (a b:D) (z:D):R2:=fun x y H Q=>∃ g,Same g.R H/\Rdb Γ H g a x/\Rdb Γ H g b y/\∀ v,(∀ g,Has Γ g z v)->Q v H
theorem Xv {Γ:Gm}{a b:D}{c:Bool}:RDo Γ (rDat Γ a b (.bl c)) a b (.bl c) false:=fun S H g x y Q w hx hy q=>⟨g,w.rh,hx,hy,fun v hv=>zg w q (hv g)⟩
section
variable {X:Cx}{Γ:Gm}
theorem zdK (hK:X.K=Γ.K) (hu:X.A.units+61 < aq) {a b:D}(ka:okP 60 a=true) (kb:okP 60 b=true):OpR X (ώ .Eq) (rDat Γ a b (.bl (eqP a b))):=by
 intro pj s σ H x y v u Q I rx ry ⟨g,sr,ha,hb,q⟩
 exact (rc_D I hK sr 60 a b x y v u X.A hu ka kb ha hb rx ry).1 X.prog X.w X.xe _ ⟨.bl _,H,I,rfl,q _ fun _=>rfl⟩
theorem zdE (hK:X.K=Γ.K) (hu:X.A.units+61 < aq) {a b:D}(ka:okP 60 a=true) (kb:okP 60 b=true):OpR X (ώ .NotEq) (rDat Γ a b (.bl (!eqP a b))):=by
 intro pj s σ H x y v u Q I rx ry ⟨g,sr,ha,hb,q⟩
 exact (rc_D I hK sr 60 a b x y v u X.A hu ka kb ha hb rx ry).2 X.prog X.w X.xe _ ⟨.bl _,H,I,rfl,q _ fun _=>rfl⟩
end
section
variable {Γ:Gm}{H:Hp}{g:G}
theorem jl {d:D}{x:V}(h:Rdb Γ H g d x):decide (x=.non)=isNone d:=by
 cases d with
 | non=>cases (show x=.non from h);rfl
 | bl=>cases (show x=.bl _ from h);rfl
 | int=>cases (show x=.int _ from h);rfl
 | str=>cases (show x=.str _ from h);rfl
 | tup=>obtain ⟨_,_,rfl,_⟩:=h;rfl
 | lst=>obtain ⟨_,_,rfl,_⟩:=h;rfl
 | dK=>obtain ⟨_,_,rfl,_⟩:=h;rfl
 | dT=>obtain ⟨_,_,rfl,_⟩:=h;rfl
 | ref=>obtain ⟨_,rfl⟩:=h;rfl
 | fn=>obtain ⟨_,_,rfl⟩:=h;rfl
 | scr=>obtain ⟨_,rfl,_⟩:=h;rfl
 | ktp=>obtain ⟨_,_,rfl,_⟩:=h;rfl
theorem zcW {l:List D}{xs:List V}(hl:l.all isSc=true) (h:Hass Γ g l xs):xs.all flatV=true/\∀ d w,scD d=some w->inV w xs=l.any fun y=>eqP y d:=by
 induction l generalizing xs with
 | nil=>cases (show xs=[] from h);exact ⟨rfl,fun _ _ _=>rfl⟩
 | cons c l ih=>
  obtain ⟨v,r,rfl,hc,hr⟩:=h
  rw [bQ,ε] at hl
  obtain ⟨h1,h2⟩:=ih hl.2 hr
  have hs:∃ w,scD c=some w:=by
   cases c <;> first | exact ⟨_,rfl⟩ | cases (show false=true from hl.1)
  obtain ⟨w,hw⟩:=hs
  have e:=yC hw hc
  subst e
  refine ⟨by rw [bQ,yR hw,h1];rfl,fun d w' hw'=>?_⟩
  show (List.any (v::r) _)=_
  rw [bG,bG,<- h2 d w' hw',V7 hw hw']
  rfl
theorem sc_of {d:D}(h:isSc d=true):∃ w,scD d=some w:=by
 cases d <;> first | exact ⟨_,rfl⟩ | exact nobE h
theorem j4 {κ:Type} [DecidableEq κ] (k:κ):∀ {ks:List κ}{ds:List D}{vs:List V},ks.length=ds.length->Hass Γ g ds vs ->
  (∀ d,lookK ks ds k=some d->∃ v,valV (ks.zip vs) k=some v/\Has Γ g d v)/\(lookK ks ds k=none->valV (ks.zip vs) k=none)
 | [],[],vs,_,h=>by
  refine ⟨fun d e=>?_,fun _=>?_⟩
  ·simp [lookK,findK] at e
  ·rfl
 | k'::ks,d'::ds,vs,hl,⟨v,r,e1,hv,hr⟩=>by
  subst e1
  have ih:=j4 k (ks:=ks) (ds:=ds) (vs:=r) (by simpa using hl) hr
  show (∀ d,lookK (k'::ks) (d'::ds) k=some d->∃ v',valV ((k',v)::ks.zip r) k=some v'/\_)/\(_->valV ((k',v)::ks.zip r) k=none)
  by_cases e:k'=k
  ·have e2:lookK (k'::ks) (d'::ds) k=some d':=by simp [lookK,findK,e]
   rw [e2,xG (p:=(k',v)) e]
   exact ⟨fun d h=>⟨v,rfl,by cases h;exact hv⟩,fun h=>by cases h⟩
  ·have e2:lookK (k'::ks) (d'::ds) k=lookK ks ds k:=by
    simp only [lookK,findK,if_neg e]
    cases findK ks k <;> rfl
   rw [e2,xH (p:=(k',v)) e]
   exact ih
 | [],_::_,_,hl,_=>by simp at hl
 | _::_,[],_,hl,_=>by simp at hl
theorem zb4 {d:D}{k:Key}{x:V}(h:keyD d=some k) (hh:Rdb Γ H g d x):x=kV k:=by
 cases d <;> first | cases h | skip
 all_goals exact hh
theorem X8 {d:D}{k:Key}{x:V}(h:keyD d=some k) (hh:Has Γ g d x):x=kV k:=by
 cases d <;> first | cases h | skip
 all_goals exact hh
set_option tactic.hygienic true in
theorem j6:∀ {l:List D}{ks:List Key}{xs:List V},keysD l=some ks->Hass Γ g l xs->xs=ks.map kV
 | [],ks,xs,h,hh=>by
  cases (show some []=some ks from h)
  exact hh
 | d::l,ks,xs,h,⟨v,r,e,hv,hr⟩=>by
  subst e
  simp only [keysD] at h
  split at h
  ·rename_i k ks' e1 e2
   cases h
   rw [X8 e1 hv,j6 e2 hr]
   rfl
  ·cases h
theorem JN {S:Store}{c k:D}{o:Option D}{x y:V}(w:WOk Γ H g S) (h:dgetD c k=some o) (hc:Rdb Γ H g c x) (hk:Rdb Γ H g k y):
  ∃ a v,x=.ref a/\DGet H a y v/\IsD H a/\(∀ d,o=some d->∃ u,v=some u/\Has Γ g d u)/\(o=none->v=none):=by
 cases c with
 | dK ks ds=>
  obtain ⟨a,vs,rfl,h1,h2,h3⟩:=hc
  simp only [dgetD,Ε] at h
  obtain ⟨k',e1,e2⟩:=h
  obtain ⟨z1,z2⟩:=j4 k' h2 h3
  refine ⟨a,valV (ks.zip vs) k',rfl,.inl ⟨_,k',.inl h1,zb4 e1 hk,rfl⟩,.inl ⟨_,.inl h1⟩,fun d e=>?_,fun e=>?_⟩
  ·exact z1 d (e2.trans e)
  ·exact z2 (e2.trans e)
 | dT ks ds=>
  obtain ⟨a,vs,rfl,h1,h2,h3⟩:=hc
  cases k with
  | tup t=>
   obtain ⟨b,ys,rfl,f1,f2⟩:=hk
   simp only [dgetD,Ε] at h
   obtain ⟨k',e1,e2⟩:=h
   obtain ⟨z1,z2⟩:=j4 k' h2 h3
   have ey:=j6 e1 f2
   refine ⟨a,valV (ks.zip vs) k',rfl,.inr ⟨_,k',b,.inl h1,rfl,by rw [<- ey];exact w.rh _ _ f1,rfl⟩,.inr ⟨_,.inl h1⟩,fun d e=>?_,fun e=>?_⟩
   ·exact z1 d (e2.trans e)
   ·exact z2 (e2.trans e)
  | _=>cases h
 | _=>cases h
end
section
variable {X:Cx}{Γ:Gm}
def rInD (neg:Bool):R2:=fun x y H Q=>∃ a o,y=.ref a/\DGet H a x o/\Q (.bl (if neg then !o.isSome else o.isSome)) H
theorem zdJ (hu:X.A.units+1 < aq):OpR X (ώ .In) (rInD false):=by
 intro pj s σ H x y v u Q I rx ry ⟨a,o,e,h,q⟩
 subst e
 cases ry
 exact d_in hu I h rx fun s' I'=>⟨.bl o.isSome,H,I',rfl,q⟩
theorem Uv (hu:X.A.units+1 < aq):OpR X (ώ .NotIn) (rInD true):=by
 intro pj s σ H x y v u Q I rx ry ⟨a,o,e,h,q⟩
 subst e
 cases ry
 exact zci hu I h rx fun s' I'=>⟨.bl (!o.isSome),H,I',rfl,q⟩
theorem sq_of {H:Hp}{g:G}{S:Store}{d:D}{l:List D}{x:V}(hK:X.K=Γ.K) (w:WOk Γ H g S) (h:seqD d=some l) (hd:Rdb Γ H g d x):∃ a xs,x=.ref a/\(SqL X.K H a xs\/SqT X.K H a xs)/\Hass Γ g l xs:=by
 cases d with
 | tup ds=>cases h;obtain ⟨a,vs,e,h1,h2⟩:=hd;exact ⟨a,vs,e,.inr (SqT.of (w.rh _ _ h1)),h2⟩
 | lst ds=>cases h;obtain ⟨a,vs,e,h1,h2⟩:=hd;exact ⟨a,vs,e,.inl (SqL.of h1),h2⟩
 | scr ns=>cases h;obtain ⟨a,e,h1⟩:=hd;exact ⟨a,_,e,.inl (by rw [hK];exact h1),Hass.ints⟩
 | ktp ds=>cases h;obtain ⟨a,vs,e,h1,h2⟩:=hd;exact ⟨a,vs,e,.inr (by rw [hK];exact .inr h1),h2⟩
 | _=>cases h
theorem zax {l:List D}{a b:D}{c:Bool}(hK:X.K=Γ.K) (hs:seqD b=some l) (h:memD l a=some c):RDo Γ (rIn X.K false) a b (.bl c) false/\RDo Γ (rIn X.K true) a b (.bl (!c)) false:=by
 simp only [memD] at h
 split at h
 ·rename_i hf
  cases h
  rw [ε] at hf
  obtain ⟨wa,ea⟩:=sc_of hf.1
  refine ⟨fun S H g x y Q w hx hy q=>?_,fun S H g x y Q w hx hy q=>?_⟩
  all_goals
   obtain ⟨p,xs,e,hq,hh⟩:=sq_of hK w hs hy
   obtain ⟨f1,f2⟩:=zcW hf.2 hh
   have ex:=xm ea hx
   subst ex
   refine ⟨p,xs,e,hq,yR ea,f1,zg w q ?_⟩
   rw [f2 a x ea]
   rfl
 ·cases h
theorem Jt {a b:D}{neg:Bool}{o:Option D}(hu1:X.A.units+1 < aq) (e:dgetD b a=some o):RDo Γ (rInD neg) a b (.bl (if neg then !o.isSome else o.isSome)) false:=by
 intro S H g x y Q w hx hy q
 obtain ⟨p,v,e1,e2,_,e3,e4⟩:=JN w e hy hx
 refine ⟨p,v,e1,e2,zg w q ?_⟩
 cases o with
 | none=>rw [e4 rfl];rfl
 | some d=>obtain ⟨z,hz,_⟩:=e3 d rfl;rw [hz];rfl
theorem km {f:Int->Int->Bool}{a b:D}{c:Bool}(h:int2 f a b=some c):∃ i j,a=.int i/\b=.int j/\c=f i j:=by
 cases a with
 | int i=>
  cases b with
  | int j=>cases h;exact ⟨i,j,rfl,rfl,rfl⟩
  | _=>cases h
 | _=>cases h
theorem Ju {a b:D}{c:Bool}(hK:X.K=Γ.K) (hu1:X.A.units+1 < aq) (h:inD a b=some c):(∃ r,OpR X (ώ .In) r/\RDo Γ r a b (.bl c) false)/\∃ r,OpR X (ώ .NotIn) r/\RDo Γ r a b (.bl (!c)) false:=by
 have sq:∀ l,seqD b=some l->memD l a=some c->(∃ r,OpR X (ώ .In) r/\RDo Γ r a b (.bl c) false)/\∃ r,OpR X (ώ .NotIn) r/\RDo Γ r a b (.bl (!c)) false:=fun l h1 h2=>⟨⟨_,Uy,(zax hK h1 h2).1⟩,_,qQ,(zax hK h1 h2).2⟩
 have dc:(dgetD b a).map (·.isSome)=some c->(∃ r,OpR X (ώ .In) r/\RDo Γ r a b (.bl c) false)/\∃ r,OpR X (ώ .NotIn) r/\RDo Γ r a b (.bl (!c)) false:=fun h=>by
  obtain ⟨o,e,rfl⟩:=Ε.mp h
  exact ⟨⟨_,zdJ hu1,Jt (neg:=false) hu1 e⟩,_,Uv hu1,Jt (neg:=true) hu1 e⟩
 cases b with
 | lst l=>exact sq l rfl h
 | tup l=>exact sq l rfl h
 | ktp l=>exact sq l rfl h
 | str y=>
  cases a with
  | str x=>
   cases h
   exact ⟨⟨_,Ux,fun S H g u v Q w hx hy q=>⟨x,y,hx,hy,zg w q rfl⟩⟩,_,qP,fun S H g u v Q w hx hy q=>⟨x,y,hx,hy,zg w q rfl⟩⟩
  | _=>cases h
 | dK ks ds=>exact dc h
 | dT ks ds=>exact dc h
 | _=>cases h
theorem Jq {a b:D}{c:Bool}(h:isD a b=some c):(∃ r,OpR X (ώ .Is) r/\RDo Γ r a b (.bl c) false)/\∃ r,OpR X (ώ .IsNot) r/\RDo Γ r a b (.bl (!c)) false:=by
 cases b with
 | non=>
  cases h
  exact ⟨⟨_,zdH,fun S H g x y Q w hx hy q=>⟨hy,zg w q (by rw [jl hx];rfl)⟩⟩,_,zbJ,fun S H g x y Q w hx hy q=>⟨hy,zg w q (by rw [jl hx];rfl)⟩⟩
 | bl j=>
  cases a with
  | bl i=>
   cases h
   exact ⟨⟨_,zdI,fun S H g x y Q w hx hy q=>⟨_,_,hx,hy,zg w q rfl⟩⟩,_,zbK,fun S H g x y Q w hx hy q=>⟨_,_,hx,hy,zg w q rfl⟩⟩
  | _=>cases h
 | _=>cases h
theorem zaF {a b:D}{c:Bool}(h:eqD a b=some c):okP 60 a=true/\okP 60 b=true/\c=eqP a b:=by
 have h:(if (okP 60 a&&okP 60 b)=true then some (eqP a b) else none)=some c:=h
 by_cases hk:(okP 60 a&&okP 60 b)=true
 ·rw [if_pos hk] at h
  cases h
  rw [ε] at hk
  exact ⟨hk.1,hk.2,rfl⟩
 ·rw [if_neg hk] at h;cases h
theorem ints_of {g:G}:∀ {l:List D}{ns:List Int}{xs:List V},intsD l=some ns->Hass Γ g l xs->xs=ns.map V.int
 | [],ns,xs,h,hh=>by
  cases (show some []=some ns from h)
  exact hh
 | d::l,ns,xs,h,⟨v,r,e,hv,hr⟩=>by
  subst e
  cases d with
  | int i=>
   simp only [intsD,Ε] at h
   obtain ⟨ms,e1,e2⟩:=h
   subst e2
   rw [show v=V.int i from hv,ints_of e1 hr]
   rfl
  | _=>cases h
theorem kv_mem {kvs:List (Key×V)}{vs:List (Key×δ)}(r:KV kvs vs):∀ p∈vs,∃ q∈kvs,q.1=p.1/\RelV q.2 p.2:=by
 unfold KV at r
 induction r with
 | nil=>intro p hp;cases hp
 | cons h t ih=>
  intro p hp
  rcases Ξ.mp hp with rfl | hp
  ·exact ⟨_,ς,h⟩
  ·obtain ⟨q,hq,e⟩:=ih p hp
   exact ⟨q,ι _ hq,e⟩
theorem Vu:∀ {kvs:List (Key×V)},(kvs.map (·.1)).Nodup->∀ q∈kvs,valV kvs q.1=some q.2
 | [],_,q,hq=>by cases hq
 | p::r,h,q,hq=>by
  rw [Ρ,dX] at h
  rcases Ξ.mp hq with rfl | hq
  ·exact xG rfl
  ·rw [xH fun e=>h.1 (by rw [e];exact iD hq)]
   exact Vu h.2 q hq
theorem Jv {A:ϡ}{s:ο}{kb:List (Key×δ)}:∀ (r:List (Key×δ)),(∀ p∈r,∃ i t t',p.2=ϗ i t/\g8 kb p.1=some (.int i t'))->W.KeqHits A s kb r true
 | [],_=>.nil
 | (k,v)::r,h=>by
  obtain ⟨i,t,t',e1,e2⟩:=h (k,v) ς
  have e1:v=.int i t:=e1
  subst e1
  have q:=PySem.SeqAt.EqAt.int_int (A:=A) (s:=s) i t i t'
  rw [beq_self_eq_true] at q
  exact .hit (e:=true) (b:=true) e2 q (Jv r fun p hp=>h p (ι _ hp))
def rNeD:R2:=fun x y H Q=>∃ a b kvs,x=.ref a/\y=.ref b/\Rd H a (.dK kvs)/\Rd H b (.dK kvs)/\(kvs.map (·.1)).Nodup/\(∀ p∈kvs,∃ i,p.2=V.int i)/\Q (.bl false) H
theorem Uw (hu:X.A.units < aq):OpR X (ώ .NotEq) rNeD:=by
 intro pj s σ H x y v u Q I rx ry ⟨a,b,kvs,e1,e2,ha,hb,hn,hi,q⟩
 subst e1 e2
 cases rx
 cases ry
 obtain ⟨_,sa,va,ra,da⟩:=dk_rd I.hok ha
 obtain ⟨_,sb,vb,rb,db⟩:=dk_rd I.hok hb
 refine W.keq_ne (r:=true) sa sb da db hu (fun _=>Jv va fun p hp=>?_) ?_
 ·obtain ⟨z,hz,e1,e2⟩:=kv_mem ra p hp
  obtain ⟨i,e3⟩:=hi z hz
  rw [e3] at e2
  obtain ⟨t,e2⟩:=e2
  have rv:=rb.val z.1
  rw [Vu hn z hz,e3,e1] at rv
  cases e4:g8 vb p.1 with
  | none=>rw [e4] at rv;exact rv.elim
  | some w=>
   rw [e4] at rv
   obtain ⟨t',e5⟩:=(show RelV (.int i) w from rv)
   exact ⟨i,t,t',e2,by rw [e5]⟩
 ·rw [<- ra.length,<- rb.length,beq_self_eq_true]
  exact ⟨.bl false,H,I,rfl,q⟩
theorem zdO {ks ks':List Key}{vs vs':List D}{c:Bool}(h:neD (.dK ks vs) (.dK ks' vs')=some c):RDo Γ rNeD (.dK ks vs) (.dK ks' vs') (.bl c) false:=by
 have h:(if (decide (ks=ks')&&decide ks.Nodup&&decide (intsD vs=intsD vs')&&(intsD vs).isSome)=true then some false else none)=some c:=h
 split at h
 ·rename_i hc
  cases h
  simp only [ε,decide_eq_true_eq] at hc
  obtain ⟨⟨⟨e1,hn⟩,e2⟩,e3⟩:=hc
  subst e1
  intro S H g x y Q w ⟨a,xs,hx,h1,h2,h3⟩ ⟨b,ys,hy,f1,f2,f3⟩ q
  obtain ⟨ns,e4⟩:=lM.mp e3
  have z1:=ints_of e4 h3
  have z2:=ints_of (e2.symm.trans e4) f3
  refine ⟨a,b,ks.zip (ns.map V.int),hx,hy,.inl (by rw [h1,z1]),.inl (by rw [f1,z2]),?_,fun p hp=>?_,zg w q rfl⟩
  ·rw [lw (by rw [<- z1,h3.len,<- h2];exact ν _)]
   exact hn
  ·obtain ⟨i,_,e⟩:=aM.mp (dW hp).2
   exact ⟨i,e.symm⟩
 ·cases h
theorem zcn {op:dZ}{a b:D}{c:Bool}(hK:X.K=Γ.K) (hu:X.A.units+61 < aq) (h:cmpD op a b=some c):∃ r,OpR X (ώ op) r/\RDo Γ r a b (.bl c) false:=by
 have hu1:X.A.units+1 < aq:=by lia
 cases op with
 | Eq=>
  obtain ⟨h1,h2,rfl⟩:=zaF h
  exact ⟨_,zdK hK hu h1 h2,Xv⟩
 | NotEq=>
  have old:(eqD a b).map (!·)=some c->∃ r,OpR X (ώ .NotEq) r/\RDo Γ r a b (.bl c) false:=fun h=>by
   obtain ⟨c',e,rfl⟩:=Ε.mp h
   obtain ⟨h1,h2,rfl⟩:=zaF e
   exact ⟨_,zdE hK hu h1 h2,Xv⟩
  have h:neD a b=some c:=h
  cases a with
  | dK ks vs=>
   cases b with
   | dK ks' vs'=>exact ⟨_,Uw (by lia),zdO h⟩
   | _=>exact old h
  | _=>exact old h
 | Lt=>obtain ⟨i,j,rfl,rfl,rfl⟩:=km h;exact ⟨_,op_lt,fun S H g x y Q w hx hy q=>⟨_,_,hx,hy,zg w q rfl⟩⟩
 | LtE=>obtain ⟨i,j,rfl,rfl,rfl⟩:=km h;exact ⟨_,op_le,fun S H g x y Q w hx hy q=>⟨_,_,hx,hy,zg w q rfl⟩⟩
 | Gt=>obtain ⟨i,j,rfl,rfl,rfl⟩:=km h;exact ⟨_,op_gt,fun S H g x y Q w hx hy q=>⟨_,_,hx,hy,zg w q rfl⟩⟩
 | GtE=>obtain ⟨i,j,rfl,rfl,rfl⟩:=km h;exact ⟨_,op_ge,fun S H g x y Q w hx hy q=>⟨_,_,hx,hy,zg w q rfl⟩⟩
 | Is=>exact (Jq h).1
 | IsNot=>
  obtain ⟨c',e,rfl⟩:=Ε.mp (show (isD a b).map (!·)=some c from h)
  exact (Jq e).2
 | In=>exact (Ju hK hu1 h).1
 | NotIn=>
  obtain ⟨c',e,rfl⟩:=Ε.mp (show (inD a b).map (!·)=some c from h)
  exact (Ju hK hu1 e).2
def rIxD:R2:=fun x y H Q=>∃ a v,x=.ref a/\DGet H a y (some v)/\Q v H
theorem Jk (hu:X.A.units+1 < aq):IxR X rIxD:=by
 intro value slice pj s σ H x y v u Q I rx ry ⟨a,z,e,g,q⟩ hs
 subst e
 cases rx
 exact tail_any (YW I g) PySem.F.slot_dict_getitem.lookup (JT hu I g ry fun w' s' I' r'=>⟨z,H,I',r',q⟩) hs
theorem Ka {g:G}{l:List D}{xs:List V}{i:Int}{d:D}(h:Hass Γ g l xs) (e:((ixN l.length i).bind fun k=>l[k]?)=some d):∃ v,atI xs i=some v/\Has Γ g d v:=by
 obtain ⟨k,e1,e2⟩:=ϣ.mp e
 obtain ⟨v,hv,hd⟩:=h.get e2
 refine ⟨v,?_,hd⟩
 unfold atI
 rw [h.len,e1]
 exact hv
set_option tactic.hygienic true in
theorem zd5 {a b d:D}(hK:X.K=Γ.K) (hu:X.A.units+1 < aq) (h:subD a b=some d):∃ r,IxR X r/\RDo Γ r a b d false:=by
 unfold subD at h
 split at h
 ·refine ⟨_,zd3,fun S H g x y Q w ⟨p,xs,e,h1,h2⟩ hy q=>?_⟩
  obtain ⟨v,e1,e2⟩:=Ka h2 h
  exact ⟨p,xs,_,v,e,hy,SqT.of (w.rh _ _ h1),e1,zg w q e2⟩
 ·refine ⟨_,Jj,fun S H g x y Q w ⟨p,xs,e,h1,h2⟩ hy q=>?_⟩
  obtain ⟨v,e1,e2⟩:=Ka h2 h
  exact ⟨p,xs,_,v,e,hy,SqL.of h1,e1,zg w q e2⟩
 ·rename_i l i
  refine ⟨_,Jj,fun S H g x y Q w ⟨p,e,h1⟩ hy q=>?_⟩
  have h':((ixN (l.map D.int).length i).bind fun k=>(l.map D.int)[k]?)=some d:=by
   rw [Ζ]
   simpa [Μ] using h
  obtain ⟨v,e1,e2⟩:=Ka (Hass.ints (Γ:=Γ) (g:=g)) h'
  exact ⟨p,_,_,v,e,hy,by rw [hK];exact h1,e1,zg w q e2⟩
 ·split at h
  ·rename_i hf
   obtain ⟨k,e1,e2⟩:=ϣ.mp h
   obtain ⟨c,e3,e4⟩:=Ε.mp e2
   subst e4
   refine ⟨_,zd4,fun S H g x y Q w hx hy q=>⟨_,_,c,hx,hy,yN hf,?_,zg w q rfl⟩⟩
   unfold atI
   have e1':ixN _ _=some k:=e1
   rw [e1']
   exact e3
  ·cases h
 ·obtain ⟨o,e1,e2⟩:=ϣ.mp h
  refine ⟨_,Jk hu,fun S H g x y Q w hx hy q=>?_⟩
  obtain ⟨p,v,f1,f2,_,f3,_⟩:=JN w e1 hx hy
  obtain ⟨z,hz,hd⟩:=f3 d e2
  exact ⟨p,z,f1,by rw [<- hz];exact f2,zg w q hd⟩
 ·obtain ⟨o,e1,e2⟩:=ϣ.mp h
  refine ⟨_,Jk hu,fun S H g x y Q w hx hy q=>?_⟩
  obtain ⟨p,v,f1,f2,_,f3,_⟩:=JN w e1 hx hy
  obtain ⟨z,hz,hd⟩:=f3 d e2
  exact ⟨p,z,f1,by rw [<- hz];exact f2,zg w q hd⟩
 ·cases h
theorem YX {g:G}{l:List D}{xs:List V}(lo hi:Option Int) (h:Hass Γ g l xs):Hass Γ g (cutD l lo hi) (cutV xs lo hi):=by
 unfold cutD cutV
 rw [h.len]
 exact (h.drop _).take _
def RDs (Γ:Gm) (r:V->Option Int->Option Int->Hp->VK->Prop) (a:D) (lo hi:Option Int) (d:D) (fr:Bool):Prop:=
 ∀ (S:Store) (H:Hp) (g:G) (x:V) (Q:VK),WOk Γ H g S->Rdb Γ H g a x->Fin Γ H g S d fr Q->r x lo hi H Q
def rSlS:V->Option Int->Option Int->Hp->VK->Prop:=fun x lo hi H Q=>∃ z,x=.str z/\z.length<=sizeLine/\Q (.str (iU z lo hi)) H
theorem Ut {v:δ}{o:Option Int}(h:iw v o):∃ p:Option (Int×Tok),v=partValue p/\p.map (·.1)=o:=by
 cases h with
 | none=>exact ⟨none,rfl,rfl⟩
 | int i t=>exact ⟨some (i,t),rfl,rfl⟩
theorem zcT:SlR X rSlS:=by
 intro pj s σ H x v vl vu lo hi sl Q I rx hs pl pu ⟨z,e,hz,q⟩
 subst e
 obtain ⟨t,rfl⟩:=rx
 obtain ⟨p,rfl,rfl⟩:=Ut pl
 obtain ⟨p',rfl,rfl⟩:=Ut pu
 refine ⟨"str",_,PySem.F.slot_str_getitem.lookup,typeIs_str _ _ _,wpAny_getItem_str_slice (l:=p) (u:=p') (st:=none) hs rfl ?_⟩
 exact post_val_or_str ⟨Ϧ (Txt.slice_le z _ _) hz,fun t' k=>⟨.str (iU z (p.map (·.1)) (p'.map (·.1))),H,I.tok _,⟨t',rfl⟩,q⟩⟩
set_option tactic.hygienic true in
theorem zcU {a d:D}{lo hi:Option Int}{fr:Bool}(hK:X.K=Γ.K) (h:slcD a lo hi=some (d,fr)):∃ r,SlR X r/\RDs Γ r a lo hi d fr:=by
 unfold slcD at h
 split at h
 ·rename_i l
  cases h
  refine ⟨_,zcS.or za4,fun S H g x Q w ⟨p,xs,e,h1,h2⟩ q=>?_⟩
  by_cases hw:HT.sIx xs.length 0 lo=0/\HT.sIx xs.length xs.length hi=xs.length
  ·refine .inr ⟨p,xs,e,SqT.of (w.rh _ _ h1),hw,zg w q ?_⟩
   have ec:cutD l lo hi=l:=by
    unfold cutD
    rw [<- h2.len,hw.1,hw.2,List.drop_zero,Nat.sub_zero,dj (by rw [h2.len];exact ν _)]
   rw [ec]
   exact ⟨p,xs,rfl,h1,h2⟩
  ·exact .inl ⟨p,xs,e,SqT.of (w.rh _ _ h1),hw,fun b hb=>kJ w q (YX lo hi h2) hb⟩
 ·cases h
  exact ⟨_,V2,fun S H g x Q w ⟨p,xs,e,h1,h2⟩ q=>⟨p,xs,e,SqL.of h1,fun b hb=>xu w q (YX lo hi h2) hb⟩⟩
 ·cases h
  exact ⟨_,V2,fun S H g x Q w ⟨p,e,h1⟩ q=>⟨p,_,e,by rw [hK];exact h1,fun b hb=>xu w q (YX lo hi Hass.ints) hb⟩⟩
 ·split at h
  ·rename_i hf
   cases h
   exact ⟨_,zcT,fun S H g x Q w hx q=>⟨_,hx,yN hf,zg w q rfl⟩⟩
  ·cases h
 ·cases h
end
noncomputable def kzH (h:Heap):δ->List Int
  | .ref a=>(match h.get? a with
    | some o=>(match o.data with
      | .seq xs _=>xs.toList.map numOf
      | _=>[])
    | none=>[])
  | _=>[]
noncomputable def vr:V->δ
 | .ref a=>.ref a
 | _=>.none
theorem yt:∀ {ns:List Int}{us:List δ},Vals (ns.map V.int) us->us.map numOf=ns/\TS.IntsV us ns
 | [],_,.nil=>⟨rfl,trivial⟩
 | n::ns,_,.cons r q=>by
  obtain ⟨t,rfl⟩:=r
  obtain ⟨h1,h2⟩:=yt q
  exact ⟨by rw [Ρ,h1];rfl,⟨t,rfl⟩,h2⟩
theorem qw:∀ {Ps:List (V×List Int)}{us:List δ},(∀ q∈Ps,∃ a,q.1=.ref a)->Vals (Ps.map (·.1)) us->us=Ps.map fun q=>vr q.1
 | [],_,_,.nil=>rfl
 | p::Ps,_,h,.cons r q=>by
  obtain ⟨a,e⟩:=h p ς
  have r:RelV p.1 _:=r
  rw [e] at r
  cases (show _=Δ a from r)
  rw [qw (fun q hq=>h q (ι _ hq)) q,Ρ,e];rfl
theorem vQ:∀ {Ps:List (V×List Int)},(∀ q∈Ps,∃ a,q.1=.ref a)->Vals (Ps.map (·.1)) (Ps.map fun q=>vr q.1)
 | [],_=>.nil
 | p::Ps,h=>.cons (by obtain ⟨a,e⟩:=h p ς;show RelV p.1 (vr p.1);rw [e];rfl) (vQ fun q hq=>h q (ι _ hq))
theorem XF {α β:Type}{g:α->β}{l m:List β}(h:l.Perm m):∀ Ps:List α,m=Ps.map g->∃ Ps':List α,Ps'.Perm Ps/\l=Ps'.map g:=by
 induction h with
 | nil=>
  intro Ps e
  cases Ps with
  | nil=>exact ⟨[],ϰ _,rfl⟩
  | cons _ _=>cases e
 | cons x h ih=>
  intro Ps e
  cases Ps with
  | nil=>cases e
  | cons p Ps=>
   obtain ⟨Qs,h1,h2⟩:=ih Ps (aB e).2
   exact ⟨p::Qs,h1.cons p,by rw [Ρ,<- h2,(aB e).1]⟩
 | swap x y l=>
  intro Ps e
  match Ps,e with
  | p::q::Ps,e=>
   have e1:=(aB e).1
   have e2:=(aB (aB e).2).1
   have e3:=(aB (aB e).2).2
   exact ⟨q::p::Ps,aj.swap _ _ _,by rw [Ρ,Ρ,<- e1,<- e2,<- e3]⟩
 | trans _ _ ih1 ih2=>
  intro Ps e
  obtain ⟨Qs,h1,h2⟩:=ih2 Ps e
  obtain ⟨Rs,h3,h4⟩:=ih1 Qs h2
  exact ⟨Rs,h3.trans h1,h4⟩
theorem ZQ {X:Cx}:CallR X (.builtin "sorted") (fun xs H Q=>∃ p,∃ Ps:List (V×List Int),xs=[.ref p]/\SqL X.K H p (Ps.map (·.1))/\Ps.length < 128/\(∀ q∈Ps,q.2≠[]/\∃ a,q.1=.ref a/\SqT X.K H a (q.2.map V.int)) /\
    ∀ (Ps':List (V×List Int)) (l:Addr),Ps'.Perm Ps->(Ps'.map (·.2)).Pairwise (fun x y=>TS.lexB y x=false)->H l=none->Q (.ref l) (upd H l (.lst (Ps'.map (·.1))))):=by
  intro pj s σ H xs us Q I r ⟨p,Ps,e,hq,hn,ht,q⟩
  subst e
  obtain ⟨u,rfl,rx⟩:=vals1 r
  cases (show u=Δ p from rx)
  obtain ⟨its,r',pl,hz⟩:=I.list hq
  have rf:∀ q∈Ps,∃ a,q.1=.ref a:=fun q hq=>⟨_,(ht q hq).2.choose_spec.1⟩
  have ei:=qw rf r'
  subst ei
  have tell:∀ q∈Ps,kzH s.heap (vr q.1)=q.2/\TS.Tu (kzH s.heap) s.heap (vr q.1):=fun q hq=>by
    obtain ⟨h0,a,e,h1⟩:=ht q hq
    obtain ⟨us,v1,⟨o,ho,hc,n,hd⟩,_⟩:=I.tuple h1
    obtain ⟨v2,v3⟩:=yt v1
    have k:kzH s.heap (vr q.1)=q.2:=by
      rw [e]
      show (match s.heap.get? a with
        | some o=>(match o.data with
          | .seq xs _=>xs.toList.map numOf
          | _=>[])
        | none=>[])=q.2
      rw [ho]
      dsimp only
      rw [hd]
      exact v2
    exact ⟨k,⟨⟨a,o,_,n,by rw [e];rfl,ho,hc,hd,by rw [k];exact v3⟩,by rw [k];exact h0⟩⟩
  refine TS.VR (kz:=kzH s.heap) pl.isList (fun v hv=>?_) (by rw [Ζ];exact hn) fun out k=>?_
  · obtain ⟨q,hq,rfl⟩:=aM.mp hv
    exact (tell q hq).2
  · obtain ⟨Ps',h1,h2⟩:=XF k.1 Ps rfl
    have mm:∀ q∈Ps',q∈Ps:=fun q hq=>h1.mem_iff.mp hq
    obtain ⟨c,hc⟩:=sortedAll_at s.heap (Ps.map fun q=>vr q.1) out
    have hc2:(sortedAll s.heap (Ps.map fun q=>vr q.1) out).get? (s.heap.objs.size+1)=some { cls:=.type "list",dict:=none,data:=.seq out.toList.toArray c,slots:=#[] }:=by
      rw [hc,gR]
    have hv:Vals (Ps'.map (·.1)) out.toList:=by rw [h2];exact vQ fun q hq=>rf q (mm q hq)
    have hl:(Ps'.map (·.1)).length<=sizeLine:=by
      rw [Ζ,h1.length_eq]
      rw [Ζ] at hz
      exact hz
    have I2:=I.laid (t':=s.toks) (a:=s.heap.objs.size+1) (o:=.lst (Ps'.map (·.1))) (h':=sortedAll s.heap (Ps.map fun q=>vr q.1) out) (fun b o e=>sortedAll_old e) (Nat.le_succ _) (show ObjOk X.prog X.w _ _ _ (.lst (Ps'.map (·.1))) from ⟨hl,out.toList,c,hv,hc2⟩)
    refine ⟨.ref (s.heap.objs.size+1),_,I2,rfl,q Ps' _ h1 ?_ (I.hok.fresh (Nat.le_succ _))⟩
    have pw:=k.2
    rw [h2,dm] at pw
    rw [dm]
    refine pw.imp_of_mem fun {a b} ha hb h=>?_
    rwa [(tell a (mm a ha)).1,(tell b (mm b hb)).1] at h
theorem j5:∀ x y,lexL x y=TS.lexB x y
 | [],[]=>rfl
 | [],_::_=>rfl
 | _::_,[]=>rfl
 | a::x,b::y=>by unfold lexL TS.lexB;rw [j5 x y]
theorem kE (k:List Int):∀ l,(insL k l).Perm (k::l)
 | []=>ϰ _
 | x::l=>by
  unfold insL
  split
  ·exact ((kE k l).cons x).trans (aj.swap _ _ _)
  ·exact ϰ _
theorem vO:∀ l,(sortL l).Perm l
 | []=>ϰ _
 | k::l=>(kE k (sortL l)).trans ((vO l).cons k)
abbrev LeL (x y:List Int):Prop:=TS.lexB y x=false
theorem zdW {x y z:List Int}(h:LeL x y) (k:LeL y z):LeL x z:=Ϗ (O:=TS.lexO) h k
theorem zaw (k:List Int):∀ l,l.Pairwise LeL->(insL k l).Pairwise LeL
 | [],_=>List.pairwise_singleton _ _
 | x::l,h=>by
  obtain ⟨h1,h2⟩:=iM.mp h
  unfold insL
  split
  ·rename_i c
   rw [j5] at c
   refine iM.mpr ⟨fun y hy=>?_,zaw k l h2⟩
   rcases Ξ.mp ((kE k l).mem_iff.mp hy) with rfl | hy
   ·exact ϑ (O:=TS.lexO) c
   ·exact h1 y hy
  ·rename_i c
   rw [j5] at c
   have c:LeL k x:=by show TS.lexB x k=false;revert c;cases TS.lexB x k <;> simp
   refine iM.mpr ⟨fun y hy=>?_,h⟩
   rcases Ξ.mp hy with rfl | hy
   ·exact c
   ·exact zdW c (h1 y hy)
theorem Yi:∀ l,(sortL l).Pairwise LeL
 | []=>dU
 | k::l=>zaw k _ (Yi l)
theorem jN {l m:List (List Int)}(h:m.Perm l) (k:m.Pairwise LeL):m=sortL l:=
 (h.trans (vO l).symm).eq_of_pairwise (fun a b _ _ h1 h2=>TS.YD a b h2 h1) k (Yi l)
theorem We:∀ {l:List D}{k:List Int},intsD l=some k->l=k.map D.int
 | [],k,h=>by cases h;rfl
 | .int i::r,k,h=>by
  obtain ⟨j,e,rfl⟩:=Ε.mp (show (intsD r).map (i::·)=some k from h)
  rw [We e];rfl
theorem Zr:∀ {l:List D}{ks:List (List Int)},xY l=some ks->l=ks.map tupI/\∀ k∈ks,k≠[]
 | [],ks,h=>by cases h;exact ⟨rfl,fun k h=>nomatch h⟩
 | .tup d::r,ks,h=>by
  obtain ⟨k,e1,e2⟩:=ϣ.mp (show (intsD d).bind (fun k=>if k.isEmpty then none else (xY r).map (k::·))=some ks from h)
  split at e2
  ·cases e2
  ·rename_i hk
   obtain ⟨js,e3,rfl⟩:=Ε.mp e2
   obtain ⟨h1,h2⟩:=Zr e3
   refine ⟨by rw [We e1,h1];rfl,fun x hx=>?_⟩
   rcases Ξ.mp hx with rfl | hx
   ·intro e;subst e;exact hk rfl
   ·exact h2 x hx
theorem Zw {Γ:Gm}{g:G}:∀ {k:List Int}{vs:List V},Hass Γ g (k.map D.int) vs->vs=k.map V.int
 | [],_,h=>h
 | n::k,_,⟨v,r,e,h1,h2⟩=>by rw [e,show v=V.int n from h1,Zw h2];rfl
theorem Zu {Γ:Gm}{H:Hp}{g:G}{S:Store}(w:WOk Γ H g S):∀ {ks:List (List Int)}{vs:List V},Hass Γ g (ks.map tupI) vs->∃ Ps:List (V×List Int),Ps.map (·.1)=vs/\Ps.map (·.2)=ks/\∀ q∈Ps,Has Γ g (tupI q.2) q.1/\∃ a,q.1=.ref a/\SqT Γ.K H a (q.2.map V.int)
 | [],_,h=>⟨[],(show _=[] from h).symm,rfl,fun q h=>nomatch h⟩
 | k::ks,_,⟨v,r,e,h1,h2⟩=>by
  obtain ⟨Ps,e1,e2,h3⟩:=Zu w h2
  refine ⟨(v,k)::Ps,by rw [e,<- e1];rfl,by rw [<- e2];rfl,fun q hq=>?_⟩
  rcases Ξ.mp hq with rfl | hq
  ·refine ⟨h1,?_⟩
   obtain ⟨a,us,e3,h4,h5⟩:=h1
   rw [Zw h5] at h4
   exact ⟨a,e3,SqT.of (w.rh _ _ h4)⟩
  ·exact h3 q hq
theorem vN {Γ:Gm}{g:G}:∀ {Ps:List (V×List Int)},(∀ q∈Ps,Has Γ g (tupI q.2) q.1)->Hass Γ g ((Ps.map (·.2)).map tupI) (Ps.map (·.1))
 | [],_=>rfl
 | p::Ps,h=>⟨p.1,_,rfl,h p ς,vN fun q hq=>h q (ι _ hq)⟩
theorem ZR {X:Cx}(hc:X.calm=true):CallR X (.builtin "sorted") (fun xs H Q=>∃ p,∃ kvs:List (List Key×V),∃ ks:List (List Int),xs=[.ref p]/\Rd H p (.dT kvs)/\kvs.map (·.1)=ks.map (fun k=>k.map cQ)/\ks.length < 128/\(∀ k∈ks,k≠[]) /\
    ∀ (Ps':List (V×List Int)) (l:Addr),(Ps'.map (·.2)).Perm ks->(Ps'.map (·.2)).Pairwise (fun x y=>TS.lexB y x=false)->(∀ q∈Ps',∃ a,q.1=.ref a/\H a=some (.tup (q.2.map V.int)))->H l=none->Q (.ref l) (upd H l (.lst (Ps'.map (·.1))))):=by
  intro pj s σ H xs us Q I r ⟨p,kvs,ks,e,hq,hks,hn,hne,q⟩
  subst e
  obtain ⟨u,rfl,rx⟩:=vals1 r
  cases (show u=Δ p from rx)
  obtain ⟨z,lo,zs,kt,o,es,ep,h1,h2,h3,h4,h5,h6⟩:=dt_rd I.hok hq
  have raw:TS.Raw s.heap p es ep:=⟨o,h1,h2,h3⟩
  have P0:∀ {l:List (List Key×V)}{m:List (List Key×Addr×δ)}(ks:List (List Int)),KT H l m->l.map (·.1)=ks.map (fun k=>k.map cQ) ->
      ∃ Ps:List (V×List Int),Ps.map (·.2)=ks/\(Ps.map fun q=>vr q.1)=(m.map fun x=>Δ x.2.1)/\∀ q∈Ps,∃ a,q.1=.ref a/\H a=some (.tup (q.2.map V.int)):=by
    intro l m ks k
    induction k generalizing ks with
    | nil=>intro e;cases ks with
      | nil=>exact ⟨[],rfl,rfl,fun _ h=>nomatch h⟩
      | cons _ _=>cases e
    | @cons a b as bs hab t ih=>
      intro e
      cases ks with
      | nil=>cases e
      | cons k ks=>
        rw [Ρ,Ρ] at e
        obtain ⟨Ps,g1,g2,g3⟩:=ih ks (aB e).2
        refine ⟨(.ref b.2.1,k)::Ps,by rw [Ρ,g1],by rw [Ρ,Ρ,g2];rfl,fun q hq=>?_⟩
        rcases Ξ.mp hq with rfl | hq
        · refine ⟨_,rfl,?_⟩
          rw [hab.2.1,(aB e).1,eO]
          rfl
        · exact g3 q hq
  obtain ⟨Ps,g1,g2,g3⟩:=P0 ks kt hks
  have rf:∀ q∈Ps,∃ a,q.1=.ref a:=fun q hq=>⟨_,(g3 q hq).choose_spec.1⟩
  have tell:∀ q∈Ps,kzH s.heap (vr q.1)=q.2/\TS.Tu (kzH s.heap) s.heap (vr q.1):=fun q hq=>by
    obtain ⟨a,e,h1⟩:=g3 q hq
    have h0:q.2≠[]:=hne q.2 (by rw [<- g1];exact iD hq)
    obtain ⟨_,us,v1,o,ho,hc,n,hd⟩:=(show ObjOk X.prog X.w H s.heap a (.tup (q.2.map V.int)) from I.hok a _ h1)
    obtain ⟨v2,v3⟩:=yt v1
    have k:kzH s.heap (vr q.1)=q.2:=by
      rw [e]
      show (match s.heap.get? a with
        | some o=>(match o.data with
          | .seq xs _=>xs.toList.map numOf
          | _=>[])
        | none=>[])=q.2
      rw [ho]
      dsimp only
      rw [hd]
      exact v2
    exact ⟨k,⟨⟨a,o,_,n,by rw [e];rfl,ho,hc,hd,by rw [k];exact v3⟩,by rw [k];exact h0⟩⟩
  have sz:es.size=ks.length:=by
    rw [<- aC,h4,Ζ,<- Ζ (f:=fun x:List Key×Addr×δ=>Δ x.2.1),<- g2,Ζ,<- g1,Ζ]
  have all:∀ acc:Array δ,ItemsOf (fun i v=>∃ e,es[i]?=some e/\v=e.key) acc es.size->acc.toList=Ps.map fun q=>vr q.1:=fun acc hi=>by
    rw [g2]
    apply lq
    intro j
    have lz:zs.length=es.size:=by rw [<- aC,h4,Ζ]
    by_cases hj:j < acc.size
    · obtain ⟨e,e1,e2⟩:=hi.2 j acc[j] (aF hj)
      rw [gC,aF hj,e2,Μ]
      rw [<- gC,h4,Μ] at e1
      obtain ⟨x,e3,e4⟩:=Ε.mp e1
      rw [e3,<- e4]
      rfl
    · rw [gG (by rw [aC];lia),gG (by rw [Ζ,lz,<- hi.1];lia)]
  refine TS.W0 (kz:=kzH s.heap) (TS.za2 lo) (I.ok.hd hc) raw (by rw [sz];exact hn) (fun acc hi v hv=>?_) fun h' tk acc out hg hk hi k=>?_
  · rw [all acc hi] at hv
    obtain ⟨q,hq,rfl⟩:=aM.mp hv
    exact (tell q hq).2
  · have ea:=all acc hi
    obtain ⟨Ps',m1,m2⟩:=XF k.1 Ps ea
    have mm:∀ q∈Ps',q∈Ps:=fun q hq=>m1.mem_iff.mp hq
    have e2:(h'.push (aG "list" acc 0)).get? h'.objs.size=some (aG "list" acc.toList.toArray 0):=by rw [gR];exact ω _ rfl
    obtain ⟨c,hc⟩:=sortedHeap_at (out:=out) e2
    have hc2:(m5 (h'.push (aG "list" acc 0)) h'.objs.size acc.toList out).get? h'.objs.size=some { cls:=.type "list",dict:=none,data:=.seq out.toList.toArray c,slots:=#[] }:=by
      rw [hc,gR]
    have hv:Vals (Ps'.map (·.1)) out.toList:=by rw [m2];exact vQ fun q hq=>rf q (mm q hq)
    have hl:(Ps'.map (·.1)).length<=sizeLine:=by
      rw [Ζ,m1.length_eq,<- Ζ (f:=(·.2)),g1,bu]
      lia
    have I2:=I.laid (t':=tk) (a:=h'.objs.size) (o:=.lst (Ps'.map (·.1))) (h':=m5 (h'.push (aG "list" acc 0)) h'.objs.size acc.toList out)
      (fun b o e=>by
        have lt:=χ (hk b o e)
        rw [sortedHeap_old (ϋ lt) (by rw [size_push'];exact lr lt)]
        exact ζ _ (hk b o e)) hg (show ObjOk X.prog X.w _ _ _ (.lst (Ps'.map (·.1))) from ⟨hl,out.toList,c,hv,hc2⟩)
    refine ⟨.ref h'.objs.size,_,I2,rfl,q Ps' _ (by rw [<- g1];exact m1.map _) ?_ (fun q hq=>g3 q (mm q hq)) (I.hok.fresh hg)⟩
    have pw:=k.2
    rw [m2,dm] at pw
    rw [dm]
    refine pw.imp_of_mem fun {a b} ha hb h=>?_
    rwa [(tell a (mm a ha)).1,(tell b (mm b hb)).1] at h
def Rdbs (Γ:Gm) (H:Hp) (g:G):List D->List V->Prop
 | [],vs=>vs=[]
 | d::ds,vs=>∃ v r,vs=v::r/\Rdb Γ H g d v/\Rdbs Γ H g ds r
theorem Ud {Γ:Gm}{H:Hp}{g:G}{S:Store}(w:WOk Γ H g S):∀ {ds:List D}{vs:List V},Hass Γ g ds vs->Rdbs Γ H g (ds.map (deref S)) vs
 | [],_,h=>h
 | d::ds,_,⟨v,r,e,h1,h2⟩=>⟨v,r,e,zae w h1,Ud w h2⟩
def RDc (Γ:Gm) (r:List V->Hp->VK->Prop) (ds:List D) (d:D) (fr:Bool):Prop:=
 ∀ (S:Store) (H:Hp) (g:G) (xs:List V) (Q:VK),WOk Γ H g S->Rdbs Γ H g ds xs->Fin Γ H g S d fr Q->r xs H Q
section
variable {X:Cx}{Γ:Gm}
theorem rd1 {H:Hp}{g:G}{d:D}{xs:List V}(h:Rdbs Γ H g [d] xs):∃ v,xs=[v]/\Rdb Γ H g d v:=by
 obtain ⟨v,r,e,h1,h2⟩:=h
 cases (show r=[] from h2)
 exact ⟨v,e,h1⟩
theorem valsI:∀ {ns:List Int}{us:List δ},Vals (ns.map V.int) us->∀ (i:Nat) (v:δ),us[i]?=some v->∃ t,v=ϗ (ns.getD i 0) t
 | [],_,.nil,i,v,h=>by simp at h
 | n::ns,_,.cons r q,0,v,h=>by
  obtain ⟨t,rfl⟩:=r
  simp at h
  exact ⟨t,h.symm⟩
 | n::ns,_,.cons r q,i+1,v,h=>by
  have:=valsI q i v (by simpa using h)
  simpa using this
theorem JZ (hc:X.calm=true):CallR X (.builtin "sum") (fun xs H Q=>∃ (p:Addr) (ns:List Int),xs=[.ref p]/\SqL X.K H p (ns.map V.int)/\Q (.int ns.sum) H):=by
 intro pj s σ H vs us Q I rv h
 obtain ⟨p,ns,rfl,hq,q⟩:=h
 obtain ⟨u,rfl,ru⟩:=rv.one
 cases (show u=Δ p from ru)
 obtain ⟨its,rv,hp,hz⟩:=I.list hq
 have hl:=hp.isList
 have hlt:p < s.heap.objs.size:=by obtain ⟨_,e,_⟩:=hl;exact χ e
 have hh:X.A.handled=none:=I.ok.hd hc
 have hlen:=rv.length
 rw [Ζ] at hlen
 refine call_sum_walkG (gm hl ?_)
 refine ⟨s.heap.objs.size,[s.heap.objs.size,p],[s.heap.objs.size],its.toArray.size,_,_,fun i=>ns.getD i 0,rfl,Walks.list (A:=X.A.in1) hh _ p (ϋ hlt) its.toArray,
  ⟨⟨_,ω _ rfl,rfl,rfl⟩,hl.push _⟩,fun b hb=>?_,fun i v hP=>?_,fun h' tk t' hk=>?_⟩
 ·rcases Ξ.mp hb with rfl | hb
  ·show _ < (s.heap.push _).objs.size
   rw [dq];exact Nat.lt_succ_self _
  ·rw [Θ.mp hb]
   show _ < (s.heap.push _).objs.size
   rw [dq];exact lr hlt
 ·exact valsI rv i v (by simpa using hP)
 ·refine ⟨.int ns.sum,H,I.kept (mR hk),⟨t',?_⟩,q⟩
  rw [preSum_getD,θ,<- hlen,List.take_length]
theorem ZZ {g:G}:∀ {l:List D}{ns:List Bool}{xs:List V},uF l=some ns->Hass Γ g l xs->xs=ns.map V.bl
 | [],ns,xs,h,hh=>by
  cases (show some []=some ns from h)
  exact hh
 | d::l,ns,xs,h,⟨v,r,e,hv,hr⟩=>by
  subst e
  cases d with
  | bl i=>
   simp only [uF,Ε] at h
   obtain ⟨ms,e1,e2⟩:=h
   subst e2
   rw [show v=V.bl i from hv,ZZ e1 hr]
   rfl
  | _=>cases h
noncomputable def biV:BI->δ
 | .len=>.builtin "len" | .abs=>.builtin "abs" | .int=>.type "int" | .str=>.type "str" | .tuple=>.type "tuple" | .list=>.type "list"
 | .sum=>.builtin "sum" | .all=>.builtin "all" | .any=>.builtin "any" | .isinst _=>.builtin "isinstance" | .min2=>.builtin "min" | .max2=>.builtin "max" | .sorted=>.builtin "sorted" | .repr=>.builtin "repr" | .dict=>.type "dict"
noncomputable def isI:BI->Bool
 | .isinst _=>true
 | _=>false
theorem zbZ {d0:D}{d:D}{fr:Bool}(hK:X.K=Γ.K) (h:lenD d0=some (d,fr)):∃ r,CallR X (.builtin "len") r/\RDc Γ r [d0] d fr:=by
 cases d0 with
 | tup l=>
  cases h
  refine ⟨_,yQ,fun S H g xs Q w hx q=>?_⟩
  obtain ⟨v,rfl,p,ys,rfl,h1,h2⟩:=rd1 hx
  exact ⟨p,ys,rfl,.inr (SqT.of (w.rh _ _ h1)),zg w q (by rw [h2.len];rfl)⟩
 | lst l=>
  cases h
  refine ⟨_,yQ,fun S H g xs Q w hx q=>?_⟩
  obtain ⟨v,rfl,p,ys,rfl,h1,h2⟩:=rd1 hx
  exact ⟨p,ys,rfl,.inl (SqL.of h1),zg w q (by rw [h2.len];rfl)⟩
 | scr l=>
  cases h
  refine ⟨_,yQ,fun S H g xs Q w hx q=>?_⟩
  obtain ⟨v,rfl,p,rfl,h1⟩:=rd1 hx
  exact ⟨p,_,rfl,.inl (by rw [hK];exact h1),zg w q (by rw [Ζ];rfl)⟩
 | str x=>
  have h:(if fits x.length=true then some (D.int x.length,false) else none)=some (d,fr):=h
  split at h
  ·rename_i hf
   cases h
   refine ⟨_,ZS,fun S H g xs Q w hx q=>?_⟩
   obtain ⟨v,rfl,hv⟩:=rd1 hx
   exact ⟨_,by rw [show v=_ from hv],yN hf,zg w q rfl⟩
  ·cases h
 | dK ks vs=>
  cases h
  refine ⟨fun xs H Q=>∃ d kvs,xs=[.ref d]/\Rd H d (.dK kvs)/\Q (.int kvs.length) H,?_,fun S H g xs Q w hx q=>?_⟩
  ·intro pj s σ H xs us Q I r hh
   obtain ⟨d,kvs,rfl,hd,q⟩:=hh
   obtain ⟨u,rfl,ru⟩:=vals1 r
   cases (show u=Δ d from ru)
   exact d_len I hd fun t s' I'=>⟨.int kvs.length,H,I',⟨t,rfl⟩,q⟩
  ·obtain ⟨v,rfl,p,ys,rfl,h1,h2,h3⟩:=rd1 hx
   refine ⟨p,_,rfl,.inl h1,zg w q ?_⟩
   rw [cM,h3.len,<- h2,Nat.min_self]
   rfl
 | _=>cases h
theorem zam {f:List D->Option D}{d0:D}{p:D×Bool}(h:onL f d0=some p):∃ l d,d0=.lst l/\f l=some d/\p=(d,false):=by
 cases d0 with
 | lst l=>
  obtain ⟨d,e,rfl⟩:=Ε.mp (show (f l).map (fun d=>(d,false))=some p from h)
  exact ⟨l,d,rfl,e,rfl⟩
 | _=>cases h
theorem zdU {d0:D}{l:List D}(h:lotD d0=some l):d0=.lst l\/d0=.tup l:=by
 cases d0 with
 | lst m=>cases h;exact .inl rfl
 | tup m=>cases h;exact .inr rfl
 | _=>cases h
theorem Wa:∀ {k:List Key}{n:List Int},kInts k=some n->k=n.map cQ
 | [],_,h=>by cases h;rfl
 | .inl i::k,n,h=>by
  obtain ⟨m,e,rfl⟩:=Ε.mp (show (kInts k).map (i::·)=some n from h)
  rw [Wa e];rfl
 | .inr _::_,_,h=>by cases h
theorem Zk:∀ {ks:List (List Key)}{ns:List (List Int)},yO ks=some ns->ks=ns.map (fun k=>k.map cQ)/\∀ k∈ns,k≠[]
 | [],_,h=>by cases h;exact ⟨rfl,fun _ h=>nomatch h⟩
 | k::ks,ns,h=>by
  obtain ⟨n,e1,e2⟩:=ϣ.mp (show (kInts k).bind (fun n=>if n.isEmpty=true then none else (yO ks).map (n::·))=some ns from h)
  split at e2
  ·cases e2
  ·rename_i hn
   obtain ⟨ms,e3,rfl⟩:=Ε.mp e2
   obtain ⟨r1,r2⟩:=Zk e3
   refine ⟨by rw [Ρ,<- r1,<- Wa e1],fun m hm=>?_⟩
   rcases Ξ.mp hm with rfl | hm
   ·rintro rfl;exact hn rfl
   ·exact r2 m hm
theorem zaA {g:G}:∀ ns:List Int,Hass Γ g (ns.map D.int) (ns.map V.int)
 | []=>rfl
 | _::ns=>⟨_,_,rfl,rfl,zaA ns⟩
theorem qC {H:Hp}{S:Store}:∀ (Ps:List (V×List Int)) (g:G),WOk Γ H g S->(∀ q∈Ps,∃ a,q.1=.ref a/\H a=some (.tup (q.2.map V.int)))->∃ g',Step H g H g'/\WOk Γ H g' S/\∀ q∈Ps,Has Γ g' (tupI q.2) q.1
 | [],g,w,_=>⟨g,Step.refl H g,w,fun _ h=>nomatch h⟩
 | p::Ps,g,w,h=>by
  obtain ⟨a,ea,ha⟩:=h p ς
  have one:∃ g',Step H g H g'/\WOk Γ H g' S/\g'.R a=some (.tup (p.2.map V.int)):=by
   cases e:g.R a with
   | some o=>
    have:=w.rh a o e
    rw [ha] at this
    cases this
    exact ⟨g,Step.refl H g,w,e⟩
   | none=>
    have na:a ∉ g.α:=fun m=>by
     obtain ⟨k,hk,e'⟩:=cz.mp m
     have hk':k < S.length:=by rw [<- w.len];exact hk
     obtain ⟨o,ho,hm⟩:=(w.cell k _ a (ξ hk') (by rw [ξ hk,e'])).isMut
     rw [ha] at ho
     cases ho
     exact hm.elim
    refine ⟨g.put a (.tup (p.2.map V.int)),⟨Le.put e,fun _ _ h _=>h,fun _ o h=>⟨o,h⟩,fun _ h=>.inl h,fun b q=>?_⟩,w.put ha e na,zf⟩
    by_cases hb:b=a
    ·subst hb;exact .inr (.inr (.inr ⟨_,ha⟩))
    ·have q':upd g.R a (.tup (p.2.map V.int)) b≠none:=q
     rw [zb hb] at q'
     exact .inl q'
  obtain ⟨g1,s1,w1,r1⟩:=one
  obtain ⟨g2,s2,w2,h2⟩:=qC Ps g1 w1 fun q hq=>h q (ι _ hq)
  refine ⟨g2,s1.trans s2,w2,fun q hq=>?_⟩
  rcases Ξ.mp hq with rfl | hq
  ·exact ⟨a,_,ea,s2.le.rr _ _ r1,zaA _⟩
  ·exact h2 q hq
theorem Ky {ks0:List (List Key)}{ds0:List D}{d:D}{fr:Bool}(hc:X.calm=true) (h:srtD (.dT ks0 ds0)=some (d,fr)):∃ r,CallR X (.builtin "sorted") r/\RDc Γ r [.dT ks0 ds0] d fr:=by
 obtain ⟨ks,e1,e2⟩:=ϣ.mp (show (yO ks0).bind (fun ks=>if decide (ks.length < 128)=true then some (D.lst ((sortL ks).map tupI),true) else none)=some (d,fr) from h)
 obtain ⟨e3,hne⟩:=Zk e1
 split at e2
 ·rename_i hl
  cases e2
  refine ⟨_,ZR hc,fun S H g xs Q w hx q=>?_⟩
  obtain ⟨v,rfl,a,vs,rfl,h1,h4,h2⟩:=rd1 hx
  have el:ks0.length=vs.length:=by rw [h2.len];exact h4
  refine ⟨a,ks0.zip vs,ks,rfl,.inl h1,by rw [<- e3,lw (Nat.le_of_eq el)],of_decide_eq_true hl,hne,fun Ps' l pm up ht hl=>?_⟩
  obtain ⟨g',s',w',hs⟩:=qC Ps' g w ht
  refine xu w' (fun v H' g2 st sm w2 vo=>q v H' g2 (s'.trans st) sm w2 vo) (ds:=(sortL ks).map tupI) ?_ hl
  rw [<- jN pm up]
  exact vN hs
 ·cases e2
theorem za0 {d0 d:D}{fr:Bool}(hK:X.K=Γ.K) (hc:X.calm=true) (h:srtD d0=some (d,fr)):∃ r,CallR X (.builtin "sorted") r/\RDc Γ r [d0] d fr:=by
 cases d0 with
 | lst l=>
  obtain ⟨ks,e1,e2⟩:=ϣ.mp (show (xY l).bind (fun ks=>if decide (ks.length < 128)=true then some (D.lst ((sortL ks).map tupI),true) else none)=some (d,fr) from h)
  obtain ⟨rfl,hne⟩:=Zr e1
  split at e2
  ·rename_i hl
   cases e2
   refine ⟨_,ZQ,fun S H g xs Q w hx q=>?_⟩
   obtain ⟨v,rfl,a,vs,rfl,h1,h2⟩:=rd1 hx
   obtain ⟨Ps,p1,p2,p3⟩:=Zu w h2
   subst p1 p2
   rw [Ζ] at hl
   refine ⟨a,Ps,rfl,.inl (.inl h1),of_decide_eq_true hl,fun q hq=>⟨hne _ (aM.mpr ⟨q,hq,rfl⟩),by rw [hK];exact (p3 q hq).2⟩,fun Ps' l pm up hl=>xu w (ds:=(sortL (Ps.map (·.2))).map tupI) q ?_ hl⟩
   rw [<- jN (pm.map _) up]
   exact vN fun q hq=>(p3 q (pm.mem_iff.mp hq)).1
  ·cases e2
 | dT ks0 ds0=>exact Ky hc h
 | _=>cases h
theorem rd2 {H:Hp}{g:G}{d e:D}{xs:List V}(h:Rdbs Γ H g [d,e] xs):∃ u v,xs=[u,v]/\Rdb Γ H g d u/\Rdb Γ H g e v:=by
 obtain ⟨v,r,e,h1,h2⟩:=h
 obtain ⟨u,rfl,h3⟩:=rd1 h2
 exact ⟨v,u,e,h1,h3⟩
theorem zcs {b:BI}{d0 d1 d:D}{fr:Bool}(hc:X.calm=true) (h:bi2 b d0 d1=some (d,fr)):∃ r,CallR X (biV b) r/\RDc Γ r [d0,d1] d fr:=by
 cases b with
 | min2=>
  obtain ⟨i,j,k,rfl,rfl,e,e2⟩:=wA (show num2 (fun i j=>some (if j < i then j else i)) d0 d1=some (d,fr) from h)
  cases e2
  cases e
  refine ⟨_,J0 hc,fun S H g xs Q w hx q=>?_⟩
  obtain ⟨u,v,rfl,h1,h2⟩:=rd2 hx
  exact ⟨i,j,by rw [show u=_ from h1,show v=_ from h2],zg w q rfl⟩
 | max2=>
  obtain ⟨i,j,k,rfl,rfl,e,e2⟩:=wA (show num2 (fun i j=>some (if j > i then j else i)) d0 d1=some (d,fr) from h)
  cases e2
  cases e
  refine ⟨_,J1 hc,fun S H g xs Q w hx q=>?_⟩
  obtain ⟨u,v,rfl,h1,h2⟩:=rd2 hx
  exact ⟨i,j,by rw [show u=_ from h1,show v=_ from h2],zg w q rfl⟩
 | _=>cases h
theorem zct {b:BI}{d0:D}{d:D}{fr:Bool}(hK:X.K=Γ.K) (hg:X.A.guards=some []) (hu:X.A.units+61 < aq) (hc:X.calm=true) (hi:isI b=false) (h:biD b [d0]=some (d,fr)):∃ r,CallR X (biV b) r/\RDc Γ r [d0] d fr:=by
 cases b with
 | len=>exact zbZ hK h
 | abs=>
  cases d0 with
  | int i=>
   cases h
   refine ⟨_,QT,fun S H g xs Q w hx q=>?_⟩
   obtain ⟨v,rfl,hv⟩:=rd1 hx
   exact ⟨_,by rw [show v=_ from hv],zg w q rfl⟩
  | _=>cases h
 | int=>
  cases d0 with
  | bl b=>
   cases h
   refine ⟨_,ZV,fun S H g xs Q w hx q=>?_⟩
   obtain ⟨v,rfl,hv⟩:=rd1 hx
   exact .inr ⟨_,by rw [show v=_ from hv],zg w q rfl⟩
  | int i=>
   cases h
   refine ⟨_,ZV,fun S H g xs Q w hx q=>?_⟩
   obtain ⟨v,rfl,hv⟩:=rd1 hx
   exact .inl ⟨_,by rw [show v=_ from hv],zg w q rfl⟩
  | _=>cases h
 | tuple=>
  obtain ⟨l,e,e2⟩:=Ε.mp (show (lotD d0).map (fun l=>(D.tup l,false))=some (d,fr) from h)
  cases e2
  refine ⟨_,qe,fun S H g xs Q w hx q=>?_⟩
  rcases zdU e with rfl | rfl
  ·obtain ⟨v,rfl,p,ys,rfl,h1,h2⟩:=rd1 hx
   exact ⟨p,ys,rfl,.inl ⟨SqL.of h1,fun l hl=>kJ w q h2 hl⟩⟩
  ·obtain ⟨v,rfl,p,ys,rfl,h1,h2⟩:=rd1 hx
   exact ⟨p,ys,rfl,.inr ⟨SqT.of (w.rh _ _ h1),zg w q ⟨p,ys,rfl,h1,h2⟩⟩⟩
 | list=>cases h
 | sum=>
  obtain ⟨l,z,rfl,e,e2⟩:=zam h
  cases e2
  obtain ⟨ns,e3,rfl⟩:=Ε.mp e
  refine ⟨_,JZ hc,fun S H g xs Q w hx q=>?_⟩
  obtain ⟨v,rfl,p,ys,rfl,h1,h2⟩:=rd1 hx
  exact ⟨p,ns,rfl,by rw [<- ints_of e3 h2];exact SqL.of h1,zg w q rfl⟩
 | all=>cases h
 | any=>
  obtain ⟨l,z,rfl,e,e2⟩:=zam h
  cases e2
  obtain ⟨ns,e3,rfl⟩:=Ε.mp e
  refine ⟨_,QS hc,fun S H g xs Q w hx q=>?_⟩
  obtain ⟨v,rfl,p,ys,rfl,h1,h2⟩:=rd1 hx
  exact ⟨p,ns,rfl,by rw [<- ZZ e3 h2];exact SqL.of h1,zg w q rfl⟩
 | isinst t=>cases hi
 | str=>cases h
 | min2=>cases h
 | max2=>cases h
 | sorted=>exact za0 hK hc h
 | repr=>cases h
 | dict=>cases h
theorem zaN {b:BI}{ds:List D}{d:D}{fr:Bool}(hK:X.K=Γ.K) (hg:X.A.guards=some []) (hu:X.A.units+61 < aq) (hc:X.calm=true) (hi:isI b=false) (h:biD b ds=some (d,fr)):∃ r,CallR X (biV b) r/\RDc Γ r ds d fr:=by
 match ds,h with
 | [],h=>cases h
 | [d0],h=>exact zct hK hg hu hc hi h
 | [d0,d1],h=>exact zcs hc h
 | _::_::_::_,h=>cases h
noncomputable def tyS:Ty->String
 | .int=>"int" | .bool=>"bool" | .str=>"str" | .tuple=>"tuple" | .list=>"list" | .dict=>"dict"
theorem zef {t:Ty}{a:D}{c:Bool}(hK:X.K=Γ.K) (h:isTy t a=some c):
  ∃ r,CallR X (.builtin "isinstance") r/\∀ (S:Store) (H:Hp) (g:G) (x:V) (Q:VK),WOk Γ H g S->Rdb Γ H g a x->Q (.bl c) H->r [x,.ty (tyS t)] H Q:=by
 refine ⟨_,Y0,fun S H g x Q w hx q=>?_⟩
 have go:∀ ty,TyOf X.K H x (.type ty)->W.kitOne X.K (.type ty) (.type (tyS t))=some c->_:=fun ty h1 h2=>(⟨x,tyS t,.type ty,c,rfl,h1,h2,q⟩:∃ x' T t' b,[x,V.ty (tyS t)]=[x',.ty T]/\TyOf X.K H x' t'/\W.kitOne X.K t' (.type T)=some b/\Q (.bl b) H)
 cases a with
 | non=>cases h;cases (show x=.non from hx);exact go _ .non (by cases t <;> rfl)
 | bl b=>cases (show x=.bl b from hx);exact go _ (.bl b) (by cases t <;> exact h)
 | int b=>cases (show x=.int b from hx);exact go _ (.int b) (by cases t <;> exact h)
 | str b=>cases (show x=.str b from hx);exact go _ (.str b) (by cases t <;> exact h)
 | tup l=>obtain ⟨p,ys,rfl,h1,h2⟩:=hx;exact go _ (.tup (w.rh _ _ h1)) (by cases t <;> exact h)
 | lst l=>obtain ⟨p,ys,rfl,h1,h2⟩:=hx;exact go _ (.lst h1) (by cases t <;> exact h)
 | dK ks l=>obtain ⟨p,ys,rfl,h1,h2⟩:=hx;exact go _ (.dK h1) (by cases t <;> exact h)
 | _=>cases h
end
mutual
noncomputable def sameD:D->D->Bool
 | .non,.non=>true
 | .bl a,.bl b=>a==b
 | .int a,.int b=>a==b
 | .str a,.str b=>a==b
 | .tup a,.tup b=>qH a b
 | .ktp a,.ktp b=>qH a b
 | .fn a,.fn b=>a==b
 | _,_=>false
noncomputable def qH:List D->List D->Bool
 | [],[]=>true
 | a::as,b::bs=>sameD a b&&qH as bs
 | _,_=>false
end
mutual
theorem Xo:∀ (a b:D),sameD a b=true->a=b
 | .non,.non,_=>rfl
 | .bl a,.bl b,h=>by rw [eq_of_beq (show (a==b)=true from h)]
 | .int a,.int b,h=>by rw [eq_of_beq (show (a==b)=true from h)]
 | .str a,.str b,h=>by rw [eq_of_beq (show (a==b)=true from h)]
 | .tup a,.tup b,h=>by rw [vP a b h]
 | .ktp a,.ktp b,h=>by rw [vP a b h]
 | .fn a,.fn b,h=>by rw [eq_of_beq (show (a==b)=true from h)]
 | .non,.bl _,h=>by cases h
 | .non,.int _,h=>by cases h
 | .non,.str _,h=>by cases h
 | .non,.tup _,h=>by cases h
 | .non,.lst _,h=>by cases h
 | .non,.dK _ _,h=>by cases h
 | .non,.dT _ _,h=>by cases h
 | .non,.ref _,h=>by cases h
 | .non,.fn _,h=>by cases h
 | .non,.scr _,h=>by cases h
 | .non,.ktp _,h=>by cases h
 | .bl _,.non,h=>by cases h
 | .bl _,.int _,h=>by cases h
 | .bl _,.str _,h=>by cases h
 | .bl _,.tup _,h=>by cases h
 | .bl _,.lst _,h=>by cases h
 | .bl _,.dK _ _,h=>by cases h
 | .bl _,.dT _ _,h=>by cases h
 | .bl _,.ref _,h=>by cases h
 | .bl _,.fn _,h=>by cases h
 | .bl _,.scr _,h=>by cases h
 | .bl _,.ktp _,h=>by cases h
 | .int _,.non,h=>by cases h
 | .int _,.bl _,h=>by cases h
 | .int _,.str _,h=>by cases h
 | .int _,.tup _,h=>by cases h
 | .int _,.lst _,h=>by cases h
 | .int _,.dK _ _,h=>by cases h
 | .int _,.dT _ _,h=>by cases h
 | .int _,.ref _,h=>by cases h
 | .int _,.fn _,h=>by cases h
 | .int _,.scr _,h=>by cases h
 | .int _,.ktp _,h=>by cases h
 | .str _,.non,h=>by cases h
 | .str _,.bl _,h=>by cases h
 | .str _,.int _,h=>by cases h
 | .str _,.tup _,h=>by cases h
 | .str _,.lst _,h=>by cases h
 | .str _,.dK _ _,h=>by cases h
 | .str _,.dT _ _,h=>by cases h
 | .str _,.ref _,h=>by cases h
 | .str _,.fn _,h=>by cases h
 | .str _,.scr _,h=>by cases h
 | .str _,.ktp _,h=>by cases h
 | .tup _,.non,h=>by cases h
 | .tup _,.bl _,h=>by cases h
 | .tup _,.int _,h=>by cases h
 | .tup _,.str _,h=>by cases h
 | .tup _,.lst _,h=>by cases h
 | .tup _,.dK _ _,h=>by cases h
 | .tup _,.dT _ _,h=>by cases h
 | .tup _,.ref _,h=>by cases h
 | .tup _,.fn _,h=>by cases h
 | .tup _,.scr _,h=>by cases h
 | .tup _,.ktp _,h=>by cases h
 | .ktp _,.non,h=>by cases h
 | .ktp _,.bl _,h=>by cases h
 | .ktp _,.int _,h=>by cases h
 | .ktp _,.str _,h=>by cases h
 | .ktp _,.lst _,h=>by cases h
 | .ktp _,.dK _ _,h=>by cases h
 | .ktp _,.dT _ _,h=>by cases h
 | .ktp _,.ref _,h=>by cases h
 | .ktp _,.fn _,h=>by cases h
 | .ktp _,.scr _,h=>by cases h
 | .ktp _,.tup _,h=>by cases h
 | .fn _,.non,h=>by cases h
 | .fn _,.bl _,h=>by cases h
 | .fn _,.int _,h=>by cases h
 | .fn _,.str _,h=>by cases h
 | .fn _,.lst _,h=>by cases h
 | .fn _,.dK _ _,h=>by cases h
 | .fn _,.dT _ _,h=>by cases h
 | .fn _,.ref _,h=>by cases h
 | .fn _,.ktp _,h=>by cases h
 | .fn _,.scr _,h=>by cases h
 | .fn _,.tup _,h=>by cases h
 | .lst _,b,h=>by cases b <;> cases h
 | .dK _ _,b,h=>by cases b <;> cases h
 | .dT _ _,b,h=>by cases b <;> cases h
 | .ref _,b,h=>by cases b <;> cases h
 | .scr _,b,h=>by cases b <;> cases h
theorem vP:∀ (a b:List D),qH a b=true->a=b
 | [],[],_=>rfl
 | a::as,b::bs,h=>by
  have h':(sameD a b&&qH as bs)=true:=h
  rw [ε] at h'
  rw [Xo a b h'.1,vP as bs h'.2]
 | [],_::_,h=>by cases h
 | _::_,[],h=>by cases h
end
structure Tb where
 fns:List Str
 pars:List (List Str)
 consts:List (Str×D)
 bare:List Str
 kws:List (Nat×List Str×List Nat)
structure Cc where
 names:List (Str×ϯ)
 N:List Str
 fn:Bool
noncomputable def visK:Option ϯ->Bool
 | some .local=>true
 | some .cell=>true
 | some .free=>true
 | _=>false
noncomputable def gloK:Option ϯ->Bool
 | some .globalImplicit=>true
 | _=>false
noncomputable def yL (x:Str):Bool:=!(x==("__debug__":Str))&&!(x==("__classdict__":Str))&&!(x==("__name__":Str))
noncomputable def yZ:Expr->Bool
 | .Set _ _ _=>false
 | _=>true
noncomputable def notStar:Expr->Bool
 | .Starred _ _=>false
 | _=>true
noncomputable def biS:BI->Str
 | .len=>"len" | .abs=>"abs" | .int=>"int" | .str=>"str" | .tuple=>"tuple" | .list=>"list" | .sum=>"sum" | .all=>"all" | .any=>"any" | .isinst _=>"isinstance" | .min2=>"min" | .max2=>"max" | .sorted=>"sorted" | .repr=>"repr" | .dict=>"dict"
noncomputable def tyN:Ty->Str
 | .int=>"int" | .bool=>"bool" | .str=>"str" | .tuple=>"tuple" | .list=>"list" | .dict=>"dict"
noncomputable def yE:List bh->Option (List Str)
 | []=>some []
 | ⟨some x,_,_⟩::r=>(yE r).map (x::·)
 | _=>none
noncomputable def relK (names:List (Str×ϯ)):List (Str×ϯ)->List (Str×ϯ):=fun l=>l.map fun (n,k)=>if (k==.free&&names.lookup n==some .cell) then (n,.cell) else (n,k)
noncomputable def namesOf:List Expr->Option (List Str)
 | []=>some []
 | .Name x _::r=>(namesOf r).map (x::·)
 | _=>none
noncomputable def yz:Expr->Option (List Str)
 | .Name x _=>some [x]
 | .Tuple es _ _=>namesOf es
 | _=>none
noncomputable def tIs:T->List Nat
 | .one i=>[i]
 | .nst i is=>i::is
 | .tup is=>is
noncomputable def Zq:Expr->Bool
 | .Tuple _ _ _=>true
 | _=>false
noncomputable def zeh:T->Bool
 | .tup _=>true
 | .nst _ _=>true
 | _=>false
noncomputable def stoK (c:Cc) (x:Str):Bool:=match c.names.lookup x with
 | some .local=>true
 | some .cell=>c.fn
 | _=>false
noncomputable def isNst:T->Bool
 | .nst _ _=>true
 | _=>false
noncomputable def asNst:Expr->Option (Str×Pos×List Expr×Nat×Pos×Nat×Pos)
  | .Tuple es k p=>(match es with
    | a::r=>(match a with
      | .Name x q=>(match r with
        | b::z=>(match z with
          | []=>(match b with
            | .Tuple fs k2 p2=>some (x,q,fs,k2,p2,k,p)
            | _=>none)
          | _=>none)
        | _=>none)
      | _=>none)
    | _=>none)
  | _=>none
noncomputable def chkT (c:Cc) (t:T) (x:Expr):Bool:=if isNst t=true then (match asNst x with
  | some q=>(match namesOf q.2.2.1 with
    | some ns=>(q.1::ns).length==(tIs t).length&&((tIs t).zip (q.1::ns)).all fun p=>c.N[p.1]?==some p.2&&stoK c p.2
    | none=>false)
  | none=>false) else Zq x==zeh t&&(match yz x with
  | some ns=>ns.length==(tIs t).length&&((tIs t).zip ns).all fun p=>c.N[p.1]?==some p.2&&stoK c p.2
  | none=>false)
noncomputable def chkS (c:Cc) (sc:c7) (js:List Nat):Bool:=
 (sc.kind==.function)&&sc.names.all (fun y=>y.2 != .cell)&&sc.names.all (fun y=>y.2 != .local||sc.names.lookup y.1==some .local)&&sc.names.all (fun y=>y.2 != .free||sc.names.lookup y.1==some .free) &&
 sc.names.all (fun y=>y.2 != .free||c.names.lookup y.1==some .cell||c.names.lookup y.1==some .free) &&
 js.all fun j=>match c.N[j]? with
  | some y=>(c.names.lookup y==some .cell||c.names.lookup y==some .free)&&sc.names.lookup y==some .free
  | none=>false
noncomputable def inner (c:Cc) (sc:c7) (xs:List Str) (js:List Nat):Cc:=⟨relK c.names sc.names,xs++js.map (fun j=>c.N.getD j ""),false⟩
noncomputable def Wb:Expr->Bool
 | .Tuple _ _ _=>true
 | _=>false
noncomputable def keyC:Key->Const->Bool
 | .inl i,.int j=>i==j
 | .inr s,.str t=>s==t
 | _,_=>false
noncomputable def chkDk:List Key->List (Option Expr)->Bool
 | [],[]=>true
 | k::ks,some (.Constant q _ _)::r=>keyC k q&&chkDk ks r
 | _,_=>false
noncomputable def sole {α:Type}:List α->Option α
  | a::r=>(match r with
    | []=>some a
    | _=>none)
  | _=>none
theorem Yj {α:Type}{l:List α}{a:α}(h:sole l=some a):l=[a]:=by
 cases l with
 | nil=>cases h
 | cons b r=>
  cases r with
  | nil=>cases h;rfl
  | cons _ _=>cases h
noncomputable def asName:Expr->Option (Str×Pos)
 | .Name n p=>some (n,p)
 | _=>none
theorem Z6 {x:Expr}{q:Str×Pos}(h:asName x=some q):x=.Name q.1 q.2:=by
 cases x <;> first | (cases h;rfl) | cases h
noncomputable def asSub:Expr->Option (Expr×Expr×Pos)
 | .Subscript a b p=>some (a,b,p)
 | _=>none
theorem QZ {x:Expr}{q:Expr×Expr×Pos}(h:asSub x=some q):x=.Subscript q.1 q.2.1 q.2.2:=by
 cases x <;> first | (cases h;rfl) | cases h
noncomputable def asAtt:Expr->Option (Expr×Str×Pos)
 | .Attribute a m p=>some (a,m,p)
 | _=>none
theorem WD {x:Expr}{q:Expr×Str×Pos}(h:asAtt x=some q):x=.Attribute q.1 q.2.1 q.2.2:=by
 cases x <;> first | (cases h;rfl) | cases h
noncomputable def xW {α:Type}:List α->Bool
 | []=>true
 | _=>false
theorem vB {α:Type}{l:List α}(h:xW l=true):l=[]:=by
 cases l with
 | nil=>rfl
 | cons _ _=>cases h
noncomputable def isRev:Expr->Bool
  | .Slice l h st _=>l.isNone&&h.isNone&&(match st with
    | some (.UnaryOp op (.Constant k _ _) _)=>op==.USub&&(match k with
      | .int i=>i==1
      | _=>false)
    | _=>false)
  | _=>false
noncomputable def mtS:MT->Str
 | .get1=>"get" | .get2=>"get" | .index=>"index" | .join=>"join" | .split=>"split"
noncomputable def zdp:Expr->Bool
 | .Call _ _ _ _=>false
 | _=>true
noncomputable def xR:Expr->Bool
 | .Call _ (_::_) _ _=>true
 | x=>zdp x
noncomputable def Ui:Expr->Bool
 | .Call _ _ _ _=>true
 | .List _ _=>true
 | .Dict _ _ _=>true
 | .BinOp _ _ _ _=>true
 | _=>false
mutual
noncomputable def chkE (B:Tb) (c:Cc):E->Expr->Bool
  | .var i,.Name x _=>c.N[i]?==some x&&visK (c.names.lookup x)&&yL x
  | .con d,.Constant k _ _=>match d,k with
    | .non,.none=>true
    | .bl a,.bool b=>a==b
    | .int a,.int b=>a==b
    | .str a,.str b=>a==b
    | _,_=>false
  | .glo n d,.Name x _=>(match B.consts[n]? with
    | some p=>p.1==x&&sameD p.2 d
    | none=>false)&&gloK (c.names.lookup x)&&yL x
  | .bin op a b,.BinOp x op' y _=>op==op'&&chkE B c a x&&chkE B c b y
  | .neg a,.UnaryOp op x _=>op==.USub&&chkE B c a x
  | .cmp op a b,.Compare x [op'] [y] _=>op==op'&&chkE B c a x&&chkE B c b y&&yZ y
  | .chn o1 o2 a b d,.Compare x [p1,p2] [y,z] _=>o1==p1&&o2==p2&&chkE B c a x&&chkE B c b y&&chkE B c d z&&yZ z
  | .not a,.UnaryOp op x _=>op==.Not&&chkE B c a x
  | .and a b,.BoolOp op (x::y::r) p=>op==.And&&chkE B c a x&&chkE B c b (.BoolOp .And (y::r) p)
  | .or a b,.BoolOp op (x::y::r) p=>op==.Or&&chkE B c a x&&chkE B c b (.BoolOp .Or (y::r) p)
  | .one a,.BoolOp op [x] _=>chkE B c a x
  | .ite t a b,.IfExp x y z _=>chkE B c t x&&chkE B c a y&&chkE B c b z
  | .tup es,.Tuple xs _ _=>chkEs B c es xs
  | .lst es,.List xs _=>chkEs B c es xs
  | .dic tk ks es,.Dict keys vs _=>chkDk ks keys&&chkFs B c es vs&&decide (ks.length=es.length)&&decide (ks.length<=15)
  | .sub a i,.Subscript x y _=>chkE B c a x&&chkE B c i y
  | .slc a lo hi,.Subscript x (.Slice l h none _) _=>chkE B c a x&&chkO B c lo l&&chkO B c hi h
  | .bi b es,.Call (.Name x _) args [] _=>(match b with
    | .isinst t=>x==("isinstance":Str)&&B.bare.contains x&&B.bare.contains (tyN t)&&gloK (c.names.lookup x)&&(match es,args with
      | [e],[y,.Name z _]=>chkE B c e y&&notStar y&&z==tyN t&&gloK (c.names.lookup z)
      | _,_=>false)
    | b=>x==biS b&&B.bare.contains x&&gloK (c.names.lookup x)&&chkEs B c es args&&!es.isEmpty)
  | .call f es,.Call (.Name x _) args [] _=>B.fns[f]?==some x&&gloK (c.names.lookup x)&&yL x&&chkEs B c es args&&!es.isEmpty
  | .mth m o es,.Call f args kws cp=>(match asAtt f with
    | some q=>q.2.1==mtS m&&chkE B c o q.1&&chkEs B c es args&&xW kws&&q.2.2.endLine==cp.line&&xR q.1&&decide (1<=es.length)&&decide (es.length<=9)
    | none=>false)
  | .box e,x=>Ui x&&chkE B c e x
  | .comp t js it ifs elt,.ListComp y [⟨tgt,iter,cs,k⟩] sc _=>k==0&&chkS c sc js&&chkI B c it tgt iter&&yZ iter&&(match yz tgt with
    | some xs=>decide ((xs++js.map (fun j=>c.N.getD j "")).Nodup)&&nT t==xs.length&&tIs t==ao xs.length&&chkT (inner c sc xs js) t tgt&&chkE B (inner c sc xs js) elt y&&chkFs B (inner c sc xs js) ifs cs&&decide (ifs.length<=1)
    | none=>false)
  | _,_=>false
noncomputable def chkI (B:Tb) (c:Cc):E->Expr->Expr->Bool
 | .seq e,_,x=>chkE B c e x
 | .enum e,tg,.Call (.Name f _) [y] [] _=>Wb tg&&f==("enumerate":Str)&&B.bare.contains f&&gloK (c.names.lookup f)&&chkE B c e y&&notStar y
 | .items e,tg,.Call (.Attribute y m ap) [] [] cp=>Wb tg&&m==("items":Str)&&chkE B c e y&&xR y&&ap.endLine==cp.line
 | .rng none hi,_,.Call (.Name f _) [y] [] _=>f==("range":Str)&&B.bare.contains f&&gloK (c.names.lookup f)&&chkE B c hi y&&notStar y
 | _,_,_=>false
noncomputable def chkEs (B:Tb) (c:Cc):List E->List Expr->Bool
 | [],[]=>true
 | e::es,x::xs=>chkE B c e x&&notStar x&&chkEs B c es xs
 | _,_=>false
noncomputable def chkFs (B:Tb) (c:Cc):List E->List Expr->Bool
 | [],[]=>true
 | e::es,x::xs=>chkE B c e x&&chkFs B c es xs
 | _,_=>false
noncomputable def chkO (B:Tb) (c:Cc):Option E->Option Expr->Bool
 | none,none=>true
 | some e,some x=>chkE B c e x
 | _,_=>false
noncomputable def chkKs (B:Tb) (c:Cc):List E->List bh->Bool
 | [],[]=>true
 | e::es,⟨some _,x,_⟩::xs=>chkE B c e x&&chkKs B c es xs
 | _,_=>false
end
theorem jX {x:ϔ}{Q:ϔ->Prop}(h:Ν x.ctorIdx 0=true) (f:∀ a0 a1 a2,Q (.BoolOp a0 a1 a2)):Q x:=by
 revert h
 cases x with
 | BoolOp a0 a1 a2=>exact fun _=>f a0 a1 a2
 | _=>exact nobE
theorem zbT {x:ϔ}{Q:ϔ->Prop}(h:Ν x.ctorIdx 2=true) (f:∀ a0 a1 a2 a3,Q (.BinOp a0 a1 a2 a3)):Q x:=by
 revert h
 cases x with
 | BinOp a0 a1 a2 a3=>exact fun _=>f a0 a1 a2 a3
 | _=>exact nobE
theorem qR {x:ϔ}{Q:ϔ->Prop}(h:Ν x.ctorIdx 3=true) (f:∀ a0 a1 a2,Q (.UnaryOp a0 a1 a2)):Q x:=by
 revert h
 cases x with
 | UnaryOp a0 a1 a2=>exact fun _=>f a0 a1 a2
 | _=>exact nobE
theorem zbS {x:ϔ}{Q:ϔ->Prop}(h:Ν x.ctorIdx 5=true) (f:∀ a0 a1 a2 a3,Q (.IfExp a0 a1 a2 a3)):Q x:=by
 revert h
 cases x with
 | IfExp a0 a1 a2 a3=>exact fun _=>f a0 a1 a2 a3
 | _=>exact nobE
theorem zdN {x:ϔ}{Q:ϔ->Prop}(h:Ν x.ctorIdx 6=true) (f:∀ a0 a1 a2,Q (.Dict a0 a1 a2)):Q x:=by
 revert h
 cases x with
 | Dict a0 a1 a2=>exact fun _=>f a0 a1 a2
 | _=>exact nobE
theorem jg {x:ϔ}{Q:ϔ->Prop}(h:Ν x.ctorIdx 8=true) (f:∀ a0 a1 a2 a3,Q (.ListComp a0 a1 a2 a3)):Q x:=by
 revert h
 cases x with
 | ListComp a0 a1 a2 a3=>exact fun _=>f a0 a1 a2 a3
 | _=>exact nobE
theorem qW {x:ϔ}{Q:ϔ->Prop}(h:Ν x.ctorIdx 15=true) (f:∀ a0 a1 a2 a3,Q (.Compare a0 a1 a2 a3)):Q x:=by
 revert h
 cases x with
 | Compare a0 a1 a2 a3=>exact fun _=>f a0 a1 a2 a3
 | _=>exact nobE
theorem ji {x:ϔ}{Q:ϔ->Prop}(h:Ν x.ctorIdx 16=true) (f:∀ a0 a1 a2 a3,Q (.Call a0 a1 a2 a3)):Q x:=by
 revert h
 cases x with
 | Call a0 a1 a2 a3=>exact fun _=>f a0 a1 a2 a3
 | _=>exact nobE
theorem jh {x:ϔ}{Q:ϔ->Prop}(h:Ν x.ctorIdx 19=true) (f:∀ a0 a1 a2,Q (.Constant a0 a1 a2)):Q x:=by
 revert h
 cases x with
 | Constant a0 a1 a2=>exact fun _=>f a0 a1 a2
 | _=>exact nobE
theorem Yt {x:ϔ}{Q:ϔ->Prop}(h:Ν x.ctorIdx 20=true) (f:∀ a0 a1 a2,Q (.Attribute a0 a1 a2)):Q x:=by
 revert h
 cases x with
 | Attribute a0 a1 a2=>exact fun _=>f a0 a1 a2
 | _=>exact nobE
theorem v5 {x:ϔ}{Q:ϔ->Prop}(h:Ν x.ctorIdx 21=true) (f:∀ a0 a1 a2,Q (.Subscript a0 a1 a2)):Q x:=by
 revert h
 cases x with
 | Subscript a0 a1 a2=>exact fun _=>f a0 a1 a2
 | _=>exact nobE
theorem v6 {x:ϔ}{Q:ϔ->Prop}(h:Ν x.ctorIdx 23=true) (f:∀ a0 a1,Q (.Name a0 a1)):Q x:=by
 revert h
 cases x with
 | Name a0 a1=>exact fun _=>f a0 a1
 | _=>exact nobE
theorem ofList {x:ϔ}{Q:ϔ->Prop}(h:Ν x.ctorIdx 24=true) (f:∀ a0 a1,Q (.List a0 a1)):Q x:=by
 revert h
 cases x with
 | List a0 a1=>exact fun _=>f a0 a1
 | _=>exact nobE
theorem zbP {x:ϔ}{Q:ϔ->Prop}(h:Ν x.ctorIdx 25=true) (f:∀ a0 a1 a2,Q (.Tuple a0 a1 a2)):Q x:=by
 revert h
 cases x with
 | Tuple a0 a1 a2=>exact fun _=>f a0 a1 a2
 | _=>exact nobE
theorem zbQ {x:ϔ}{Q:ϔ->Prop}(h:Ν x.ctorIdx 26=true) (f:∀ a0 a1 a2 a3,Q (.Slice a0 a1 a2 a3)):Q x:=by
 revert h
 cases x with
 | Slice a0 a1 a2 a3=>exact fun _=>f a0 a1 a2 a3
 | _=>exact nobE
theorem qU {x:Ϻ}{Q:Ϻ->Prop}(h:Ν x.ctorIdx 5=true) (f:∀ a0 a1 a2,Q (.Assign a0 a1 a2)):Q x:=by
 revert h
 cases x with
 | Assign a0 a1 a2=>exact fun _=>f a0 a1 a2
 | _=>exact nobE
theorem Yr {x:Ϻ}{Q:Ϻ->Prop}(h:Ν x.ctorIdx 24=true) (f:∀ a0 a1,Q (.Expr a0 a1)):Q x:=by
 revert h
 cases x with
 | Expr a0 a1=>exact fun _=>f a0 a1
 | _=>exact nobE
theorem qT {x:Ϻ}{Q:Ϻ->Prop}(h:Ν x.ctorIdx 3=true) (f:∀ a0 a1,Q (.Return a0 a1)):Q x:=by
 revert h
 cases x with
 | Return a0 a1=>exact fun _=>f a0 a1
 | _=>exact nobE
theorem ofSIf {x:Ϻ}{Q:Ϻ->Prop}(h:Ν x.ctorIdx 12=true) (f:∀ a0 a1 a2 a3,Q (.If a0 a1 a2 a3)):Q x:=by
 revert h
 cases x with
 | If a0 a1 a2 a3=>exact fun _=>f a0 a1 a2 a3
 | _=>exact nobE
theorem Qi {x:Ϻ}{Q:Ϻ->Prop}(h:Ν x.ctorIdx 11=true) (f:∀ a0 a1 a2 a3,Q (.While a0 a1 a2 a3)):Q x:=by
 revert h
 cases x with
 | While a0 a1 a2 a3=>exact fun _=>f a0 a1 a2 a3
 | _=>exact nobE
theorem zdM {x:Ϻ}{Q:Ϻ->Prop}(h:Ν x.ctorIdx 9=true) (f:∀ a0 a1 a2 a3 a4,Q (.For a0 a1 a2 a3 a4)):Q x:=by
 revert h
 cases x with
 | For a0 a1 a2 a3 a4=>exact fun _=>f a0 a1 a2 a3 a4
 | _=>exact nobE
theorem zbR {x:Ϻ}{Q:Ϻ->Prop}(h:Ν x.ctorIdx 25=true) (f:∀ a0,Q (.Pass a0)):Q x:=by
 revert h
 cases x with
 | Pass a0=>exact fun _=>f a0
 | _=>exact nobE
theorem Qj {x:Ϻ}{Q:Ϻ->Prop}(h:Ν x.ctorIdx 26=true) (f:∀ a0,Q (.Break a0)):Q x:=by
 revert h
 cases x with
 | Break a0=>exact fun _=>f a0
 | _=>exact nobE
theorem Ys {x:Ϻ}{Q:Ϻ->Prop}(h:Ν x.ctorIdx 27=true) (f:∀ a0,Q (.Continue a0)):Q x:=by
 revert h
 cases x with
 | Continue a0=>exact fun _=>f a0
 | _=>exact nobE
structure EnvO (Γ:Gm) (Hz H:Hp) (g:G) (ρ:List Slot) (σ:L2.St):Prop where
 len:ρ.length=σ.length
 sh:∀ (i:Nat) (d:D),ρ[i]?=some (.sh d)->∃ v,σ[i]?=some (some v)/\Has Γ g d v
 ow:∀ (i:Nat) (d:D),ρ[i]?=some (.ow d)->∃ a,σ[i]?=some (some (.ref a))/\Hz a=none/\g.R a=none/\a ∉ g.α/\zJ Γ H g a d/\isIns d=false
 inj:∀ (i j:Nat) (d e:D) (a:Addr),ρ[i]?=some (.ow d)->ρ[j]?=some (.ow e)->σ[i]?=some (some (.ref a))->σ[j]?=some (some (.ref a))->i=j
section
variable {Γ:Gm}{H H':Hp}{g g':G}{S:Store}{a:Addr}
theorem WOk.zT {o:HO}(w:WOk Γ H g S) (hr:g.R a=none) (ha:a ∉ g.α):WOk Γ (upd H a o) g S where
 rh:=fun b u q=>by
  have e:=w.rh b u q
  have:b≠a:=by rintro rfl;rw [hr] at q;cases q
  rw [zb this];exact e
 len:=w.len
 nd:=w.nd
 off:=w.off
 cell:=fun k c b h1 h2=>(w.cell k c b h1 h2).mono (Le.refl g) fun o e=>by
  have:b≠a:=by rintro rfl;exact ha (Ϝ h2)
  rw [zb this];exact e
theorem Step.zT {o:HO}(s:Step H g H' g') (h:H a=none):Step H g (upd H' a o) g' where
 le:=s.le
 fr:=fun b u e n=>by rw [zb (zc e h)];exact s.fr b u e n
 ex:=fun b u e=>by rw [zb (zc e h)];exact s.ex b u e
 na:=s.na
 nr:=s.nr
theorem Step.kept {o:HO}(s:Step H g H' g') (h:H a=some o) (hr:g.R a=none) (ha:a ∉ g.α) (hm:MutF o:=by trivial):H' a=some o/\g'.R a=none/\a ∉ g'.α:=by
 refine ⟨s.fr a o h ha,?_,fun m=>?_⟩
 ·cases q:g'.R a with
  | none=>rfl
  | some u=>
   rcases s.nr a (by rw [q];simp) with z | z | z | ⟨xs,z⟩
   ·exact absurd hr z
   ·rw [h] at z;cases z
   ·exact absurd z ha
   ·rw [h] at z;cases z;exact hm.elim
 ·rcases s.na a m with z | z
  ·exact ha z
  ·rw [h] at z;cases z
end
section
variable {Γ:Gm}{Hz H H':Hp}{g g':G}{S:Store}{ρ:List Slot}{σ:L2.St}
theorem zm (env:EnvO Γ Hz H g ρ σ) (st:Step H g H' g'):EnvO Γ Hz H' g' ρ σ:=by
 refine ⟨env.len,fun i d h=>?_,fun i d h=>?_,env.inj⟩
 ·obtain ⟨v,h1,h2⟩:=env.sh i d h
  exact ⟨v,h1,h2.mono st.le⟩
 ·obtain ⟨a,h1,h2,h3,h4,h5,h6⟩:=env.ow i d h
  obtain ⟨o,ho,hm⟩:=h5.isMut
  obtain ⟨k1,k2,k3⟩:=st.kept ho h3 h4 hm
  exact ⟨a,h1,h2,k2,k3,h5.mono st.le fun o' z=>by rw [ho] at z;cases z;exact k1,h6⟩
def VN (Γ:Gm) (Hb:Hp) (x:Vl) (v:V) (H:Hp) (g:G):Prop:=match x.2 with
 | .st=>Has Γ g x.1 v
 | .fr=>∃ a,v=.ref a/\Hb a=none/\g.R a=none/\a ∉ g.α/\zJ Γ H g a x.1
 | .bo=>∃ a,v=.ref a/\g.R a=none/\a ∉ g.α/\zJ Γ H g a x.1
theorem VN.of {Hb:Hp}{d:D}{fr:Bool}{v:V}(h:VOk Γ Hb d fr v H g):VN Γ Hb (ofB (d,fr)) v H g:=by
 cases fr <;> exact h
theorem VN.back {H1:Hp}{g1:G}{x:Vl}{v:V}(h:VN Γ H1 x v H' g') (s:Step H g H1 g1):VN Γ H x v H' g':=by
 obtain ⟨d,k⟩:=x
 cases k with
 | fr=>
  obtain ⟨a,e,h0,r⟩:=h
  exact ⟨a,e,s.XQ h0,r⟩
 | _=>exact h
theorem VN.step {Hb:Hp}{x:Vl}{v:V}(h:VN Γ Hb x v H g) (s:Step H g H' g'):VN Γ Hb x v H' g':=by
 obtain ⟨d,k⟩:=x
 cases k with
 | st=>exact (show Has Γ g d v from h).mono s.le
 | fr=>
  obtain ⟨a,e,h0,h1,h2,h3⟩:=h
  obtain ⟨o,ho,hm⟩:=h3.isMut
  obtain ⟨k1,k2,k3⟩:=s.kept ho h1 h2 hm
  exact ⟨a,e,h0,k2,k3,h3.mono s.le fun o' q=>by rw [ho] at q;cases q;exact k1⟩
 | bo=>
  obtain ⟨a,e,h1,h2,h3⟩:=h
  obtain ⟨o,ho,hm⟩:=h3.isMut
  obtain ⟨k1,k2,k3⟩:=s.kept ho h1 h2 hm
  exact ⟨a,e,k2,k3,h3.mono s.le fun o' q=>by rw [ho] at q;cases q;exact k1⟩
theorem Wt {a:Addr}{d:D}(hr:g.R a=none) (h:zJ Γ H g a d):Rdb Γ H g (deref S d) (.ref a):=by
 cases d with
 | lst ds=>obtain ⟨vs,h1,h2⟩:=h;exact ⟨a,vs,rfl,h1,h2⟩
 | dK ks ds=>obtain ⟨vs,h1,h3,h2⟩:=h;exact ⟨a,vs,rfl,h1,h3,h2⟩
 | dT ks ds=>obtain ⟨vs,h1,h3,h2⟩:=h;exact ⟨a,vs,rfl,h1,h3,h2⟩
 | ref=>obtain ⟨o,h1,_⟩:=h;rw [hr] at h1;cases h1
 | _=>exact h.elim
theorem VN.rdb {Hb:Hp}{x:Vl}{v:V}(h:VN Γ Hb x v H g) (w:WOk Γ H g S):Rdb Γ H g (deref S x.1) v:=by
 obtain ⟨d,k⟩:=x
 cases k with
 | st=>exact zae w h
 | fr=>obtain ⟨a,rfl,_,h1,_,h3⟩:=h;exact Wt h1 h3
 | bo=>obtain ⟨a,rfl,h1,_,h3⟩:=h;exact Wt h1 h3
theorem VN.sc {Hb:Hp}{d:D}{k:Kd}{v:V}(h:VN Γ Hb (d,k) v H g) (hc:∀ a,¬ zJ Γ H g a d):Has Γ g d v:=by
 cases k with
 | st=>exact h
 | fr=>obtain ⟨a,_,_,_,_,h3⟩:=h;exact (hc a h3).elim
 | bo=>obtain ⟨a,_,_,_,h3⟩:=h;exact (hc a h3).elim
theorem VN.keep {x:Vl}{v:V}{Q:D->Prop}(h:VN Γ H x v H' g') (st:Step H g H' g') (w:WOk Γ H' g' S) (k:EV.keep x Q):∃ g2,Step H g H' g2/\WOk Γ H' g2 S/\Has Γ g2 x.1 v/\Q x.1:=by
 obtain ⟨d,kk⟩:=x
 cases kk with
 | st=>exact ⟨g',st,w,h,k⟩
 | fr=>
  obtain ⟨g2,a,b,c,_⟩:=freeze (fr:=true) st w h rfl
  exact ⟨g2,a,b,c,k⟩
 | bo=>exact k.elim
end
def TX (Γ:Gm) (cf:Cf) (e:E):TE:=fun σ H Q=>∃ ρ S V g Hz,wpE cf ρ e V S/\WOk Γ H g S/\EnvO Γ Hz H g ρ σ/\∀ x v H' g' S',Step H g H' g'->WOk Γ H' g' S'->VN Γ H x v H' g'->V x S'->Q v H'
def TB (Γ:Gm) (cf:Cf) (e:E):TT:=fun σ H Q=>∃ ρ S V g Hz,wpE cf ρ e V S/\WOk Γ H g S/\EnvO Γ Hz H g ρ σ/\∀ x H' g' S',Step H g H' g'->WOk Γ H' g' S'->V x S'->isB x.1 fun b=>Q b H'
def TXs (Γ:Gm) (cf:Cf) (es:List E):TA:=fun σ H Q=>∃ ρ S W g Hz,wpEs cf ρ es W S/\WOk Γ H g S/\EnvO Γ Hz H g ρ σ/\∀ ds vs H' g' S',Step H g H' g'->WOk Γ H' g' S'->Hass Γ g' ds vs->W ds S'->Q vs H'
def TXo (Γ:Gm) (cf:Cf) (o:Option E):TO:=fun σ H Q=>∃ ρ S W g Hz,wpO cf ρ o W S/\WOk Γ H g S/\EnvO Γ Hz H g ρ σ/\∀ i H' g' S',Step H g H' g'->WOk Γ H' g' S'->W i S'->Q i H'
section
variable {Γ:Gm}{cf:Cf}{σ:L2.St}{H:Hp}{P:Prop}
theorem goX {e:E}{Q:VK}(h:TX Γ cf e σ H Q) (f:∀ ρ S V g Hz,wpE cf ρ e V S->WOk Γ H g S->EnvO Γ Hz H g ρ σ->(∀ x v H' g' S',Step H g H' g'->WOk Γ H' g' S'->VN Γ H x v H' g'->V x S'->Q v H')->P):P:=
 let ⟨ρ,S,V,g,Hz,a,b,c,d⟩:=h;f ρ S V g Hz a b c d
theorem goB {e:E}{Q} (h:TB Γ cf e σ H Q) (f:∀ ρ S V g Hz,wpE cf ρ e V S->WOk Γ H g S->EnvO Γ Hz H g ρ σ->(∀ x H' g' S',Step H g H' g'->WOk Γ H' g' S'->V x S'->isB x.1 fun b=>Q b H')->P):P:=
 let ⟨ρ,S,V,g,Hz,a,b,c,d⟩:=h;f ρ S V g Hz a b c d
theorem goS {es:List E}{Q} (h:TXs Γ cf es σ H Q) (f:∀ ρ S W g Hz,wpEs cf ρ es W S->WOk Γ H g S->EnvO Γ Hz H g ρ σ->(∀ ds vs H' g' S',Step H g H' g'->WOk Γ H' g' S'->Hass Γ g' ds vs->W ds S'->Q vs H')->P):P:=
 let ⟨ρ,S,V,g,Hz,a,b,c,d⟩:=h;f ρ S V g Hz a b c d
theorem goO {o:Option E}{Q} (h:TXo Γ cf o σ H Q) (f:∀ ρ S W g Hz,wpO cf ρ o W S->WOk Γ H g S->EnvO Γ Hz H g ρ σ->(∀ i H' g' S',Step H g H' g'->WOk Γ H' g' S'->W i S'->Q i H')->P):P:=
 let ⟨ρ,S,V,g,Hz,a,b,c,d⟩:=h;f ρ S V g Hz a b c d
end
def rAny (X:Cx) (f:δ->δ->Sem δ):R2:=fun x y H Q=>∃ r,OpR X f r/\r x y H Q
theorem opAny {X:Cx}{f:δ->δ->Sem δ}:OpR X f (rAny X f):=fun pj s σ H x y v u Q I rx ry ⟨_,h,q⟩=>h pj s σ H x y v u Q I rx ry q
def ixAny (X:Cx):R2:=fun x y H Q=>∃ r,IxR X r/\r x y H Q
theorem zd6 {X:Cx}:IxR X (ixAny X):=fun a b pj s σ H x y v u Q I rx ry ⟨_,h,q⟩=>h a b pj s σ H x y v u Q I rx ry q
def slAny (X:Cx):V->Option Int->Option Int->Hp->VK->Prop:=fun x l u H Q=>∃ r,SlR X r/\r x l u H Q
theorem zcV {X:Cx}:SlR X (slAny X):=fun pj s σ H x v vl vu lo hi sl Q I rx hs pl pu ⟨_,h,q⟩=>h pj s σ H x v vl vu lo hi sl Q I rx hs pl pu q
def clAny (X:Cx) (f:δ):List V->Hp->VK->Prop:=fun xs H Q=>∃ r,CallR X f r/\r xs H Q
theorem JX {X:Cx}{f:δ}:CallR X f (clAny X f):=fun pj s σ H xs us Q I rv ⟨_,h,q⟩=>h pj s σ H xs us Q I rv q
section
variable {X:Cx}{Γ:Gm}{cf:Cf}{x y z:Expr}{pos p:Pos}{a b c:E}
theorem s_var {i:Nat}{n:Str}(hN:X.N[i]?=some n) (hv:Vis X.env.scope n) (hd:(n==("__debug__":Str))=false) (hcd:(n==("__classdict__":Str))=false):PE X (.Name n pos) (TX Γ cf (.var i)):=by
 refine (XH hN hv hd hcd).imp fun σ H Q h0=>goX h0 fun ρ S V g Hz hw w env k=>?_
 have hw:sel ρ[i]? (fun d=>V (d,.st) S) (fun d=>V (d,.bo) S):=hw
 cases e:ρ[i]? with
 | none=>rw [e] at hw;exact hw.elim
 | some s=>
  rw [e] at hw
  cases s with
  | no=>exact hw.elim
  | sh d=>
   obtain ⟨v,h1,h2⟩:=env.sh i d e
   exact ⟨v,h1,k (d,.st) v H g S (Step.refl H g) w h2 hw⟩
  | ow d=>
   obtain ⟨a,h1,h2,h3,h4,h5,_⟩:=env.ow i d e
   exact ⟨_,h1,k (d,.bo) _ H g S (Step.refl H g) w ⟨a,rfl,h3,h4,h5⟩ hw⟩
theorem s_con {t:V}{d:D}{e:E}(h:PE X x (tC t)) (hd:∀ g,Has Γ g d t) (he:∀ ρ V S,wpE cf ρ e V S->V (d,.st) S):PE X x (TX Γ cf e):=h.imp fun σ H Q h0=>goX h0 fun ρ S V g Hz hw w env k=>k (d,.st) _ H g S (Step.refl H g) w (hd g) (he _ _ _ hw)
theorem two {G1:V->V->Hp->Prop}{σ:L2.St}{H:Hp}{ρ:List Slot}{S:Store}{g:G}{Hz:Hp}{W:Vl->Vl->Store->Prop}(hw:wpE cf ρ a (fun x S1=>wpE cf ρ b (fun y S2=>W x y S2) S1) S) (w:WOk Γ H g S) (env:EnvO Γ Hz H g ρ σ)
  (k:∀ x y u v H' g' S',Step H g H' g'->WOk Γ H' g' S'->VN Γ H x u H' g'->VN Γ H y v H' g'->W x y S'->G1 u v H'):TX Γ cf a σ H fun u H1=>TX Γ cf b σ H1 fun v H2=>G1 u v H2:=
 ⟨ρ,S,_,g,Hz,hw,w,env,fun x u H1 g1 S1 st1 w1 v1 h1=>⟨ρ,S1,_,g1,Hz,h1,w1,zm env st1,fun y v H2 g2 S2 st2 w2 v2 h2=>k x y u v H2 g2 S2 (st1.trans st2) w2 (v1.step st2) (v2.back st1) h2⟩⟩
theorem s_bin {op:lH}(hK:X.K=Γ.K) (ha:PE X x (TX Γ cf a)) (hb:PE X y (TX Γ cf b)):PE X (.BinOp x op y pos) (TX Γ cf (.bin op a b)):=
 (pe_op opAny ha hb).imp fun σ H Q h0=>goX h0 fun ρ S V g Hz hw w env k=>two hw w env fun x y u v H' g' S' st w' vx vy h=>by
  have h:opt (opD op (deref S' x.1) (deref S' y.1)) (fun p=>V (ofB p) S'):=h
  cases eo:opD op (deref S' x.1) (deref S' y.1) with
  | none=>rw [eo] at h;exact h.elim
  | some p=>
   rw [eo] at h
   obtain ⟨r,h1,h2⟩:=zdC (X:=X) hK eo
   exact ⟨r,h1,h2 S' H' g' u v Q w' (vx.rdb w') (vy.rdb w') fun t H2 g2 st2 _ w2 vo=>k _ t H2 g2 S' (st.trans st2) w2 ((VN.of vo).back st) h⟩
theorem cmp2 {op:dZ}{u v:V}{dx dy:Vl}{Hb H':Hp}{g':G}{S':Store}{Q:VK}{T:Bool->Prop}(hK:X.K=Γ.K) (hu:X.A.units+61 < aq) (w':WOk Γ H' g' S') (vx:VN Γ Hb dx u H' g') (vy:VN Γ Hb dy v H' g') (h:opt (cmpD op (deref S' dx.1) (deref S' dy.1)) T)
  (k:∀ r H2 g2,Step H' g' H2 g2->WOk Γ H2 g2 S'->T r->Q (.bl r) H2):rAny X (ώ op) u v H' Q:=by
 cases eo:cmpD op (deref S' dx.1) (deref S' dy.1) with
 | none=>rw [eo] at h;exact h.elim
 | some r=>
  rw [eo] at h
  obtain ⟨r2,h1,h2⟩:=zcn (X:=X) hK hu eo
  refine ⟨r2,h1,h2 S' H' g' u v Q w' (vx.rdb w') (vy.rdb w') fun t H2 g2 st2 _ w2 vo=>?_⟩
  cases (show t=.bl r from vo)
  exact k r H2 g2 st2 w2 h
theorem s_cmp {op:dZ}(hK:X.K=Γ.K) (hu:X.A.units+61 < aq) (ha:PE X x (TX Γ cf a)) (hb:PE X y (TX Γ cf b)) (hm:behindInMarks op y=false):PE X (.Compare x [op] [y] pos) (TX Γ cf (.cmp op a b))/\PT X (.Compare x [op] [y] pos) (TB Γ cf (.cmp op a b)):=
 ⟨(zbE opAny ha hb hm).imp fun σ H Q h0=>goX h0 fun ρ S V g Hz hw w env k=>two hw w env fun x y u v H' g' S' st w' vx vy h=>cmp2 hK hu w' vx vy h fun r H2 g2 st2 w2 h=>k (.bl r,.st) _ H2 g2 S' (st.trans st2) w2 rfl h,
 (zbu opAny ha hb hm).imp fun σ H Q h0=>goB h0 fun ρ S V g Hz hw w env k=>two hw w env fun x y u v H' g' S' st w' vx vy h=>cmp2 hK hu w' vx vy h fun r H2 g2 st2 w2 h=>⟨r,rfl,k (.bl r,.st) H2 g2 S' (st.trans st2) w2 h⟩⟩
theorem chn3 {o1 o2:dZ}{σ:L2.St}{H:Hp}{Q:VK}{ρ:List Slot}{S:Store}{g:G}{Hz:Hp}{V:Po}(hK:X.K=Γ.K) (hu:X.A.units+61 < aq) (hw:wpE cf ρ (.chn o1 o2 a b c) V S) (w:WOk Γ H g S) (env:EnvO Γ Hz H g ρ σ)
  (k:∀ r H' g' S',Step H g H' g'->WOk Γ H' g' S'->V (.bl r,.st) S'->Q (.bl r) H'):VG (rAny X (ώ o1)) (rAny X (ώ o2)) (TX Γ cf a) (TX Γ cf b) (TX Γ cf c) σ H Q:=
 two hw w env fun x y u v H' g' S' st w' vx vy h=>cmp2 hK hu w' vx vy h fun r H2 g2 st2 w2 h=>⟨r,rfl,by
  cases r with
  | false=>exact iteF (k false H2 g2 S' (st.trans st2) w2 h)
  | true=>exact iteT ⟨ρ,S',_,g2,Hz,h,w2,zm env (st.trans st2),fun z t H3 g3 S3 st3 w3 vz h3=>cmp2 hK hu w3 (vy.step (st2.trans st3)) (vz.back (st.trans st2)) h3 fun r H4 g4 st4 w4 h4=>k r H4 g4 S3 (((st.trans st2).trans st3).trans st4) w4 h4⟩⟩
theorem s_chn {o1 o2:dZ}(hK:X.K=Γ.K) (hu:X.A.units+61 < aq) (ha:PE X x (TX Γ cf a)) (hb:PE X y (TX Γ cf b)) (hc:PE X z (TX Γ cf c)) (hm:lastMarks [o1,o2] [y,z]=false):PE X (.Compare x [o1,o2] [y,z] pos) (TX Γ cf (.chn o1 o2 a b c))/\PT X (.Compare x [o1,o2] [y,z] pos) (TB Γ cf (.chn o1 o2 a b c)):=
 ⟨(Qd opAny opAny ha hb hc hm).imp fun σ H Q h0=>goX h0 fun ρ S V g Hz hw w env k=>chn3 hK hu hw w env fun r H' g' S' st w' h=>k (.bl r,.st) _ H' g' S' st w' rfl h,
 (KR opAny opAny ha hb hc hm).imp fun σ H Q h0=>goB h0 fun ρ S V g Hz hw w env k=>chn3 hK hu hw w env fun r H' g' S' st w' h=>⟨r,rfl,k _ H' g' S' st w' h⟩⟩
theorem xX {d:D}{Q:Bool->Prop}(h:isB d Q):∃ b,d=.bl b/\Q b:=by
 cases d with
 | bl b=>exact ⟨b,rfl,h⟩
 | _=>exact h.elim
theorem zeg {d:D}{Q:Int->Prop}(h:isZ d Q):∃ b,d=.int b/\Q b:=by
 cases d with
 | int b=>exact ⟨b,rfl,h⟩
 | _=>exact h.elim
theorem VN.bl {Hb H:Hp}{g:G}{x:Vl}{v:V}{Q:Bool->Prop}(h:VN Γ Hb x v H g) (k:isB x.1 Q):∃ b,v=.bl b/\Q b:=by
 obtain ⟨d,kk⟩:=x
 obtain ⟨b,rfl,q⟩:=xX k
 exact ⟨b,h.sc fun _ z=>z.elim,q⟩
theorem VN.int {Hb H:Hp}{g:G}{x:Vl}{v:V}{Q:Int->Prop}(h:VN Γ Hb x v H g) (k:isZ x.1 Q):∃ b,v=.int b/\Q b:=by
 obtain ⟨d,kk⟩:=x
 obtain ⟨b,rfl,q⟩:=zeg k
 exact ⟨b,h.sc fun _ z=>z.elim,q⟩
theorem s_neg (h:PE X x (TX Γ cf a)):PE X (.UnaryOp .USub x pos) (TX Γ cf (.neg a)):=
 (pe_un zcC h).imp fun σ H Q h0=>goX h0 fun ρ S V g Hz hw w env k=>⟨ρ,S,_,g,Hz,hw,w,env,fun x v H' g' S' st w' vx h=>by
  obtain ⟨i,e,q⟩:=vx.int h
  exact ⟨i,e,k (.int (-i),.st) _ H' g' S' st w' rfl q⟩⟩
theorem zcX (h:PE X x (TX Γ cf a)) (he:∀ whole,iR x X.env whole=(do let v <- whole;standAt x.pos;ig [v] (truthy v))):PT X x (TB Γ cf a):=
 (zdk h he).imp fun σ H Q h0=>goB h0 fun ρ S V g Hz hw w env k=>⟨ρ,S,_,g,Hz,hw,w,env,fun x v H' g' S' st w' vx h=>vx.bl (k x H' g' S' st w' h)⟩
theorem zc6 (h:PT X x (TB Γ cf a)):PT X (.UnaryOp .Not x pos) (TB Γ cf (.not a)):=
 (zdl h).imp fun σ H Q h0=>goB h0 fun ρ S V g Hz hw w env k=>⟨ρ,S,_,g,Hz,hw,w,env,fun x H' g' S' st w' h=>by
  obtain ⟨b,e,q⟩:=xX h
  rw [e]
  exact k (.bl (!b),.st) H' g' S' st w' q⟩
theorem s_not (h:PE X x (TX Γ cf a)):PE X (.UnaryOp .Not x pos) (TX Γ cf (.not a)):=
 (zdv h).imp fun σ H Q h0=>goX h0 fun ρ S V g Hz hw w env k=>⟨ρ,S,_,g,Hz,hw,w,env,fun x v H' g' S' st w' vx h=>by
  obtain ⟨b,e,q⟩:=vx.bl h
  exact ⟨b,e,k (.bl (!b),.st) _ H' g' S' st w' rfl q⟩⟩
end
section
variable {X:Cx}{Γ:Gm}{cf:Cf}{x y z:Expr}{pos p:Pos}{a b c:E}
theorem tx_go {σ:L2.St}{H H1:Hp}{g g1:G}{Q:VK}{ρ:List Slot}{V:Po}{S1:Store}{Hz:Hp}(st:Step H g H1 g1) (w1:WOk Γ H1 g1 S1) (env:EnvO Γ Hz H g ρ σ) (k:∀ x v H' g' S',Step H g H' g'->WOk Γ H' g' S'->VN Γ H x v H' g'->V x S'->Q v H') (hw:wpE cf ρ a V S1):TX Γ cf a σ H1 Q:=
 ⟨ρ,S1,V,g1,Hz,hw,w1,zm env st,fun y u H2 g2 S2 st2 w2 vy hy=>k y u H2 g2 S2 (st.trans st2) w2 (vy.back st) hy⟩
theorem tb_go {σ:L2.St}{H H1:Hp}{g g1:G}{Q:Bool->Hp->Prop}{ρ:List Slot}{V:Po}{S1:Store}{Hz:Hp}(st:Step H g H1 g1) (w1:WOk Γ H1 g1 S1) (env:EnvO Γ Hz H g ρ σ) (k:∀ x H' g' S',Step H g H' g'->WOk Γ H' g' S'->V x S'->isB x.1 fun b=>Q b H') (hw:wpE cf ρ a V S1):TB Γ cf a σ H1 Q:=
 ⟨ρ,S1,V,g1,Hz,hw,w1,zm env st,fun y H2 g2 S2 st2 w2 hy=>k y H2 g2 S2 (st.trans st2) w2 hy⟩
theorem s_and {rest:List Expr}(ha:PE X x (TX Γ cf a)) (hb:PE X (.BoolOp .And (y::rest) pos) (TX Γ cf b)):PE X (.BoolOp .And (x::y::rest) pos) (TX Γ cf (.and a b)):=
 (zdy ha hb).imp fun σ H Q h0=>goX h0 fun ρ S V g Hz hw w env k=>⟨ρ,S,_,g,Hz,hw,w,env,fun x v H1 g1 S1 st w1 vx h=>by
  obtain ⟨r,e,q⟩:=vx.bl h
  refine ⟨r,e,?_⟩
  cases r with
  | false=>exact iteF (k (.bl false,.st) _ H1 g1 S1 st w1 rfl q)
  | true=>exact iteT (tx_go st w1 env k q)⟩
theorem s_or {rest:List Expr}(ha:PE X x (TX Γ cf a)) (hb:PE X (.BoolOp .Or (y::rest) pos) (TX Γ cf b)):PE X (.BoolOp .Or (x::y::rest) pos) (TX Γ cf (.or a b)):=
 (pe_or ha hb).imp fun σ H Q h0=>goX h0 fun ρ S V g Hz hw w env k=>⟨ρ,S,_,g,Hz,hw,w,env,fun x v H1 g1 S1 st w1 vx h=>by
  obtain ⟨r,e,q⟩:=vx.bl h
  refine ⟨r,e,?_⟩
  cases r with
  | true=>exact iteT (k (.bl true,.st) _ H1 g1 S1 st w1 rfl q)
  | false=>exact iteF (tx_go st w1 env k q)⟩
theorem PW.impE {t t':TT}(h:PW X x t) (i:∀ σ H Q,t' σ H Q->t σ H Q):PW X x t':=fun wh pj s σ H Q I q=>h wh pj s σ H Q I (i σ H Q q)
theorem zdc {rest:List Expr}(ha:PT X x (TB Γ cf a)) (hb:PW X (.BoolOp .And (y::rest) pos) (TB Γ cf b)):PW X (.BoolOp .And (x::y::rest) pos) (TB Γ cf (.and a b)):=
 PW.impE (zdj ha hb) fun σ H Q h0=>goB h0 fun ρ S V g Hz hw w env k=>⟨ρ,S,_,g,Hz,hw,w,env,fun x H1 g1 S1 st w1 h=>by
  obtain ⟨r,e,q⟩:=xX h
  rw [e]
  show (if r=true then _ else _)
  cases r with
  | false=>exact iteF (k (.bl false,.st) H1 g1 S1 st w1 q)
  | true=>exact iteT (tb_go st w1 env k q)⟩
theorem s_orW {rest:List Expr}(ha:PT X x (TB Γ cf a)) (hb:PW X (.BoolOp .Or (y::rest) pos) (TB Γ cf b)):PW X (.BoolOp .Or (x::y::rest) pos) (TB Γ cf (.or a b)):=
 PW.impE (pw_or ha hb) fun σ H Q h0=>goB h0 fun ρ S V g Hz hw w env k=>⟨ρ,S,_,g,Hz,hw,w,env,fun x H1 g1 S1 st w1 h=>by
  obtain ⟨r,e,q⟩:=xX h
  rw [e]
  show (if r=true then _ else _)
  cases r with
  | true=>exact iteT (k (.bl true,.st) H1 g1 S1 st w1 q)
  | false=>exact iteF (tb_go st w1 env k q)⟩
theorem zab {op:mQ}(h:PT X x (TB Γ cf a)):PW X (.BoolOp op [x] pos) (TB Γ cf (.one a)):=by
 cases op with
 | And=>exact zbo h
 | Or=>exact zdi h
theorem s_ite (hc:PT X x (TB Γ cf c)) (ha:PE X y (TX Γ cf a)) (hb:PE X z (TX Γ cf b)):PE X (.IfExp x y z pos) (TX Γ cf (.ite c a b)):=
 (K8 hc ha hb).imp fun σ H Q h0=>goX h0 fun ρ S V g Hz hw w env k=>⟨ρ,S,_,g,Hz,hw,w,env,fun x H1 g1 S1 st w1 h=>by
  obtain ⟨r,e,q⟩:=xX h
  rw [e]
  show (if r=true then _ else _)
  cases r with
  | true=>exact iteT (tx_go st w1 env k q)
  | false=>exact iteF (tx_go st w1 env k q)⟩
theorem zp (h:notStar x=true) (xs:List Expr) (env:Env):Ϩ (x::xs) env=(false,eval x env)::Ϩ xs env:=by
 cases x <;> first | rfl | cases h
theorem s_nil:PA X [] (TXs Γ cf []):=vZ.imp fun σ H Q h0=>goS h0 fun ρ S W g Hz hw w env k=>k [] [] H g S (Step.refl H g) w rfl hw
theorem args_cons {es:List E}{σ:L2.St}{H:Hp}{Q:List V->Hp->Prop}(h:TXs Γ cf (a::es) σ H Q):TX Γ cf a σ H fun v H1=>TXs Γ cf es σ H1 fun vs H2=>Q (v::vs) H2:=by
 obtain ⟨ρ,S,W,g,Hz,hw,w,env,k⟩:=h
 refine ⟨ρ,S,_,g,Hz,hw,w,env,fun x v H1 g1 S1 st w1 vx h=>?_⟩
 obtain ⟨g2,st2,w2,hx,q⟩:=vx.keep st w1 h
 exact ⟨ρ,S1,_,g2,Hz,q,w2,zm env st2,fun ds vs H3 g3 S3 st3 w3 hs h3=>k (x.1::ds) _ H3 g3 S3 (st2.trans st3) w3 ⟨v,vs,rfl,hx.mono st3.le,hs⟩ h3⟩
theorem zac {xs:List Expr}{es:List E}(hs:notStar x=true) (h1:PE X x (TX Γ cf a)) (h2:PA X xs (TXs Γ cf es)):PA X (x::xs) (TXs Γ cf (a::es)):=
 (yM h1 h2 (zp hs _ _)).imp fun σ H Q h=>args_cons h
theorem xK {r:Bool}{T:Prop}(h:tst r T False):r=true/\T:=by
 cases r with
 | true=>exact ⟨rfl,h⟩
 | false=>exact h.elim
theorem zQ {α:Type}{o:Option α}{Q:α->Prop}(h:opt o Q):∃ a,o=some a/\Q a:=by
 cases o with
 | some a=>exact ⟨a,rfl,h⟩
 | none=>exact h.elim
theorem s_tup {xs:List Expr}{es:List E}{kk:Nat}(h:PA X xs (TXs Γ cf es)):PE X (.Tuple xs kk pos) (TX Γ cf (.tup es)):=
 (zdt h).imp fun σ H Q h0=>goX h0 fun ρ S V g Hz hw w env k=>⟨ρ,S,_,g,Hz,hw,w,env,fun ds vs H1 g1 S1 st w1 hv h=>by
  obtain ⟨hf,q⟩:=xK h
  exact ⟨by rw [hv.len];exact yN hf,fun p hp=>kJ (Q:=Q) w1 (fun v H2 g2 st2 _ w2 vo=>k (.tup ds,.st) v H2 g2 S1 (st.trans st2) w2 vo q) hv hp⟩⟩
theorem s_lst {xs:List Expr}{es:List E}(h:PA X xs (TXs Γ cf es)):PE X (.List xs pos) (TX Γ cf (.lst es)):=
 (zdx h).imp fun σ H Q h0=>goX h0 fun ρ S V g Hz hw w env k=>⟨ρ,S,_,g,Hz,hw,w,env,fun ds vs H1 g1 S1 st w1 hv h=>by
  obtain ⟨hf,q⟩:=xK h
  exact ⟨by rw [hv.len];exact yN hf,fun p hp=>xu (Q:=Q) w1 (fun v H2 g2 st2 _ w2 vo=>k (.lst ds,.fr) v H2 g2 S1 (st.trans st2) w2 ((VN.of (fr:=true) vo).back st) q) hv hp⟩⟩
theorem s_sub (hK:X.K=Γ.K) (hu:X.A.units+1 < aq) (ha:PE X x (TX Γ cf a)) (hb:PE X y (TX Γ cf b)) (hp:Y6 y):PE X (.Subscript x y pos) (TX Γ cf (.sub a b)):=
 (pe_ix zd6 ha hb hp).imp fun σ H Q h0=>goX h0 fun ρ S V g Hz hw w env k=>two (G1:=fun u v H'=>ixAny X u v H' Q) hw w env fun x y u v H' g' S' st w' vx vy h=>by
  obtain ⟨d,eo,q⟩:=zQ h
  obtain ⟨r,h1,h2⟩:=zd5 (X:=X) hK hu eo
  have e:deref S' y.1=y.1:=by
   cases hy:y.1 with
   | ref n=>
    rw [hy] at eo
    unfold subD at eo;split at eo <;> first | cases eo | (rename_i hh;cases hh) | skip
    all_goals (simp [dgetD,keyD] at eo)
   | _=>rfl
  have vb:=vy.rdb w'
  rw [e] at vb
  exact ⟨r,h1,h2 S' H' g' u v Q w' (vx.rdb w') vb fun t H2 g2 st2 _ w2 vo=>k (d,.st) t H2 g2 S' (st.trans st2) w2 vo q⟩
theorem s_poN:PO X none (TXo Γ cf none):=fun pj s σ H Q I h0=>goO h0 fun ρ S W g Hz hw w env k=>zbA pj s σ H Q I (k none H g S (Step.refl H g) w hw)
theorem s_po (h:PE X x (TX Γ cf a)):PO X (some x) (TXo Γ cf (some a)):=fun pj s σ H Q I h0=>goO h0 fun ρ S W g Hz hw w env k=>zbz h pj s σ H Q I ⟨ρ,S,_,g,Hz,hw,w,env,fun x v H1 g1 S1 st w1 vx h=>by
 obtain ⟨i,e,q⟩:=vx.int h
 exact ⟨i,e,k (some i) H1 g1 S1 st w1 q⟩⟩
theorem s_slc {lo hi:Option Expr}{l u:Option E}{p2:Pos}(hK:X.K=Γ.K) (h:PE X x (TX Γ cf a)) (hl:PO X lo (TXo Γ cf l)) (hh:PO X hi (TXo Γ cf u)):PE X (.Subscript x (.Slice lo hi none p2) pos) (TX Γ cf (.slc a l u)):=
 (K7 zcV h hl hh).imp fun σ H Q h0=>goX h0 fun ρ S V g Hz hw w env k=>⟨ρ,S,_,g,Hz,hw,w,env,fun x v H1 g1 S1 st1 w1 vx h1=>⟨ρ,S1,_,g1,Hz,h1,w1,zm env st1,fun i H2 g2 S2 st2 w2 h2=>⟨ρ,S2,_,g2,Hz,h2,w2,zm env (st1.trans st2),fun j H3 g3 S3 st3 w3 h3=>by
  obtain ⟨⟨d,fr⟩,eo,q⟩:=zQ h3
  obtain ⟨r,r1,r2⟩:=zcU (X:=X) (Γ:=Γ) hK eo
  have st:=(st1.trans st2).trans st3
  exact ⟨r,r1,r2 S3 H3 g3 v Q w3 ((vx.step (st2.trans st3)).rdb w3) fun t H4 g4 st4 _ w4 vo=>k _ t H4 g4 S3 (st.trans st4) w4 ((VN.of vo).back st) q⟩⟩⟩⟩
end
end EV
namespace L2
open PySem PySem.Spec PyProof.Rows
noncomputable def cxG (X:Cx) (sc:c7) (cl:List (Str×Addr)) (xs:List Str) (js:List Nat) (C:Addr) (s3:ο) (H3:Hp) (fp:List Addr):Cx:=
 { X with N:=xs++js.map (fun j=>X.N.getD j ""),sw:=s3,Hz:=H3,env:=compEnvC sc cl C X.env,outer:=X.stack,stack:=X.stack,ex:=fp,fn:=fun _=>false,pn:=[],xe:=fun _ _=>False }
structure CompG (X:Cx) (sc:c7) (cl:List (Str×Addr)) (xs:List Str) (js:List Nat):Prop where
 clos:closureFor sc X.env=pure cl
 cell:∀ y∈sc.names,y.2≠.cell
 kind:sc.kind=.function
 names:∀ y∈sc.names,y.2=.local->sc.names.lookup y.1=some .local
 sub:∀ y c,cl.lookup y=some c->X.env.cells.lookup y=some c
 has:∀ y,((iV sc X.env).names.lookup y=some .cell\/(iV sc X.env).names.lookup y=some .free)->∃ c,cl.lookup y=some c
 free:∀ j∈js,∀ y,X.N[j]?=some y->Vis X.env.scope y/\X.env.kindOf y≠some .local/\(∃ c,cl.lookup y=some c)/\((iV sc X.env).names.lookup y=some .cell\/(iV sc X.env).names.lookup y=some .free)
 inN:∀ j∈js,j < X.N.length
section
variable {X:Cx}{pj:List (Addr×Obj)}{σ:St}{H3:Hp}{s3:ο}{sc:c7}{cl:List (Str×Addr)}{xs:List Str}{js:List Nat}{fp:List Addr}{h1:Heap}{o:Obj}{tk:Nat}
theorem Js (I:Inv X pj σ H3 s3) (K:CompG X sc cl xs js) (hns:h1.Ns s3.heap.objs.size fun _=>none) (hsb:ϛ s3.heap.objs.size (s3.heap.push o) h1)
  (hfp:∀ b∈fp,FpOk X pj H3 b/\b < s3.heap.objs.size):
  Inv (cxG X sc cl xs js s3.heap.objs.size s3 H3 fp) [] (Ψ xs.length none++rows σ js) H3 { s3 with heap:=h1,toks:=tk }:=by
 have kept:∀ b u,s3.heap.get? b=some u->h1.get? b=some u:=fun b u e=>(hsb.2 b (ϋ (χ e))).trans (ζ _ e)
 refine ⟨⟨I.ok.mod,K.kind,I.ok.glob,I.ok.blt,ν _,fun y z c e1 e2=>I.ok.inj y z c (K.sub _ _ e1) (K.sub _ _ e2),fun y hy=>K.has y hy,fun y c hf=>absurd (show false=true from hf) Ο,I.ok.hd,I.ok.frames,.inl rfl,
  fun b hb=>⟨ϋ (hfp b hb).2,fun y c e=>(hfp b hb).1.2.2.2.2.1 y c (K.sub _ _ e)⟩,I.bs,Ϧ I.ok.bsz I.sz,fun b o' e hb=>?_,fun b hb z=>?_,I.stack,I.VM⟩,
  rfl,I.bare,Un.kept kept,⟨_,hns,fun i y v e1 e2 e3=>?_⟩,fun y c e=>?_,I.hok.fresh (ν _),fun y c e=>I.freeC y c (K.sub _ _ e),fun p hp=>absurd (show p∈([]:List (Addr×Obj)) from hp) (by simp),I.hok.kept kept,?_⟩
 ·rcases (hfp b hb).1.2.2.2.1 with z | z
  ·exact I.ok.noex b o' e z
  ·exact absurd (ϓ (χ e) (Ϧ I.ok.bsz z)) (cL _)
 ·rcases Ξ.mp (I.Xl b z) with q | q
  ·exact (hfp b hb).1.2.1 q
  ·exact (hfp b hb).1.2.2.1 q
 ·by_cases hi:i < xs.length
  ·rw [Υ (by simpa using hi),cU,if_pos hi] at e2
   cases e2
  ·have hi':xs.length<=i:=by lia
   have e1':(js.map fun j=>X.N.getD j "")[i - xs.length]?=some y:=by
    have q:(xs++js.map fun j=>X.N.getD j "")[i]?=some y:=e1
    rw [ϒ hi'] at q
    exact q
   have e2':(rows σ js)[i - xs.length]?=some (some v):=by
    rw [ϒ (by simpa using hi')] at e2
    simpa using e2
   generalize i - xs.length=i at e1' e2'
   rw [Μ] at e1'
   unfold rows at e2'
   rw [Μ] at e2'
   cases ej:js[i]? with
   | none=>rw [ej] at e1';cases e1'
   | some j=>
    rw [ej] at e1' e2'
    simp only [Option.map_some,ϱ.injEq] at e1' e2'
    have hj:=Ϝ ej
    have hlt:=K.inN j hj
    have eN:X.N[j]?=some y:=by
     rw [<- e1',ϵ,ξ hlt]
     rfl
    have eS:σ[j]?=some (some v):=by
     rw [ϵ] at e2'
     cases q:σ[j]? with
     | none=>rw [q] at e2';cases e2'
     | some z=>rw [q] at e2';simpa using e2'
    obtain ⟨hv,hnl,⟨c,hc⟩,hk⟩:=K.free j hj y eN
    obtain ⟨m,_,hl⟩:=I.loc
    obtain ⟨u,r,l⟩:=hl j y v eN eS hv
    refine ⟨u,r,?_⟩
    rcases l with ⟨k,_⟩ | ⟨k,c',e',z⟩
    ·exact absurd k hnl
    ·have:c'=c:=Ϛ (e'.symm.trans (K.sub _ _ hc))
     subst this
     obtain ⟨oc,hoc,hd⟩:=z
     exact .inr ⟨hk,c',hc,oc,kept _ _ hoc,hd⟩
 ·obtain ⟨v,oc,hoc,hd⟩:=I.cell y c (K.sub _ _ e)
  exact ⟨v,oc,kept _ _ hoc,hd⟩
 ·simp [rows,cxG]
def PTs (X:Cx) (ifs:List Expr) (t:TT):Prop:=
 ∀ (pj:List (Addr×Obj)) (s:ο) (σ:St) (H:Hp) (Q:Bool->Hp->Prop),Inv X pj σ H s->t σ H Q ->
  Λ (Χ X.prog X.w) X.A (forIn ifs true fun c r=>if r=true then do let ok <- iR c X.env (eval c X.env);pure (ϟ ok) else pure (ϟ r)) (TP X pj σ Q) X.xe s
theorem zbt:PTs X [] (fun _ H Q=>Q true H):=fun _ _ _ H _ I h=>wpAny_tests_nil ⟨H,I,h⟩
theorem zbs {c:Expr}{t:TT}(h:PT X c t):PTs X [c] t:=fun pj s σ H Q I q=>wpAny_tests_one (h pj s σ H Q I q)
def uX (n:Nat) (js:List Nat) (wi:TI) (tg:TG) (tt:TT) (te:TE) (Qe:Addr->Hp->Prop):St->Hp->Prop:=fun σ H=>wi σ H fun J H1=>∀ D,H1 D=none ->
 ∃ W:Nat->Nat->List V->St->Hp->Prop,(∃ m,W 0 m [] (Ψ n none++rows σ js) (upd H1 D (.lst [])))/\∀ i m ys τ H2,W i m ys τ H2 ->
  (J.stop i H2/\Qe D H2)\/(J.go i H2/\∀ z H3,J.yld i H2 z H3->tg z τ H3 fun τ3 H3=>tt τ3 H3 fun b H4=>
   if b=true then te τ3 H4 fun v H5=>H5 D=some (.lst ys)/\ys.length < sizeLine/\∃ m',m' < m/\W (i+1) m' (ys++[v]) τ3 (upd H5 D (.lst (ys++[v])))
   else ∃ m',m' < m/\W (i+1) m' ys τ3 H4)
theorem ZG {elt iter tgt:Expr}{ifs:List Expr}{pos pos':Pos}{wi:TI}{tg:TG}{tt:TT}{te:TE}{Qe:Addr->Hp->Prop}{use:Option (δ->Sem Unit)}{Q':VSP}{H:Hp}{s:ο}(hc:X.calm=true) (K:CompG X sc cl xs js) (hi:PI X tgt iter wi)
  (hg:∀ C s3 H3 fp,PG (cxG X sc cl xs js C s3 H3 fp) tgt tg) (ht:∀ C s3 H3 fp,PTs (cxG X sc cl xs js C s3 H3 fp) ifs tt) (he:∀ C s3 H3 fp,PE (cxG X sc cl xs js C s3 H3 fp) elt te) (hs:∀ v,bH iter X.env v=pure v)
  (I:Inv X pj σ H s) (h:uX xs.length js wi tg tt te Qe σ H)
  (fin:∀ (D C:Addr) (s6:ο) (H5:Hp) (m:Str->Option δ),s6.heap.Ns C m->FpOk X pj H5 C->(∀ h',ϛ C s6.heap h'->Inv X pj σ H5 { s6 with heap:=h' })->Qe D H5->compPost (Χ X.prog X.w) X.A X.xe use Q' (.ref D) C (.ok .next) s6):
  Λ (Χ X.prog X.w) X.A (comprehension (.ListComp elt [⟨tgt,iter,ifs,0⟩] sc pos) sc X.env pos' (newList []) false (eval iter X.env) use) Q' X.xe s:=by
 refine wpAny_comprehension_free (use:=use) rfl hs K.clos K.kind K.names ?_
 refine thn (hi pj s σ H _ I h) fun v s1 h1=>thn h1 fun itv s2 h2=>?_
 obtain ⟨it,fp,tn,J,H2,e,I2,T,st2,f2,h⟩:=h2
 subst e
 have hD:H2 s2.heap.objs.size=none:=I2.fresh
 obtain ⟨W,⟨m0,w0⟩,turn⟩:=h _ hD
 have I3:Inv X pj σ (upd H2 s2.heap.objs.size (.lst [])) { s2 with heap:=s2.heap.push { cls:=.type "list",data:=.seq ([]:List δ).toArray },toks:=s2.toks }:=I2.lnew (its:=[]) .nil (bF _)
 have fpLt:∀ b∈fp,b < s2.heap.objs.size:=fun b hb=>let ⟨o,e,_⟩:=T.obj _ _ st2 b hb;χ e
 refine ϖ (wpAny_newFunctionEnv K.cell (by intro y hy;simp at hy) (fun h₁ hns₁ hsb₁=>?_) K.kind)
 generalize hs3:({ s2 with heap:=s2.heap.push { cls:=.type "list",data:=.seq ([]:List δ).toArray },toks:=s2.toks }:ο)=s3 at I3
 have hs3':({ s2 with heap:=s2.heap.push { cls:=.type "list",data:=.seq ([]:List δ).toArray } }:ο)=s3:=hs3
 (try rw [hs3'] at hns₁);(try rw [hs3'] at hsb₁);(try rw [hs3'])
 have hsz:s3.heap.objs.size=s2.heap.objs.size+1:=by rw [<- hs3,dq]
 generalize hH3:upd H2 s2.heap.objs.size (.lst [])=H3 at I3 w0
 have fp3:∀ b∈fp,FpOk X pj H3 b/\b < s3.heap.objs.size:=fun b hb=>by
  refine ⟨⟨?_,(f2 b hb).2⟩,by rw [hsz];exact lr (fpLt b hb)⟩
  rw [<- hH3,zb (ϋ (fpLt b hb))]
  exact (f2 b hb).1
 have I4:=Js (tk:=s3.toks+([]:List (Str×δ)).length) I3 K hns₁ hsb₁ fp3
 have st4:tn 0 h₁:=T.keep _ _ _ st2 fun b hb o e=>(hsb₁.2 b (ϋ (fp3 b hb).2)).trans (ζ _ (by rw [<- hs3];exact ζ _ e))
 have stat:∀ {H':Hp}{pl:List (Addr×Obj)},(∀ b∈fp,H' b=none)->(∀ p∈pl,p.1 ∉ fp)->∀ b∈fp,FpOk (cxG X sc cl xs js s3.heap.objs.size s3 H3 fp) pl H' b:=fun {H'} {pl} hn hp b hb=>
  ⟨hn b hb,ϋ (fp3 b hb).2,fun z=>by
   rcases Ξ.mp (I3.Xl b z) with q | q
   ·exact (f2 b hb).2.1 q
   ·exact (f2 b hb).2.2.1 q,.inl hb,fun y c e=>(f2 b hb).2.2.2.2.1 y c (K.sub _ _ e),fun p hp' z=>by
    have hp'':p∈pl:=by simpa [cxG] using hp'
    exact hp p hp'' (z ▸ hb)⟩
 have loop:∀ s4:ο,s4={ s3 with heap:=h₁,toks:=s3.toks+([]:List (Str×δ)).length } ->
   codeAny (Χ X.prog X.w) X.A (.compLoop (.ListComp elt [⟨tgt,iter,ifs,0⟩] sc pos) 0 (.ref it) (.ref s2.heap.objs.size) (compEnvC sc cl s3.heap.objs.size X.env))
    (compPost (Χ X.prog X.w) X.A X.xe use Q' (.ref s2.heap.objs.size) s3.heap.objs.size) s4:=by
  rintro s4 rfl
  refine codeAny_loop rfl (fun n s'=>∃ i ys τ H',Inv (cxG X sc cl xs js s3.heap.objs.size s3 H3 fp) [] τ H' s'/\tn i s'.heap/\(∀ b∈fp,H' b=none)/\W i n ys τ H') ?_ m0 ⟨0,[],_,H3,I4,st4,fun b hb=>(fp3 b hb).1.1,w0⟩
  rintro n s5 ⟨i,ys,τ,H5,I5,st5,fr5,w5⟩
  show Λ _ X.A ((compTurn (.ListComp elt [⟨tgt,iter,ifs,0⟩] sc pos) 0 (.ref it) (.ref s2.heap.objs.size) (compEnvC sc cl s3.heap.objs.size X.env)).onRaise (fun x=>do noteFrame x (compEnvC sc cl s3.heap.objs.size X.env);theTreesLotGoes x)) _ _ s5
  refine wpAny_noted ?_
  rw [compTurn_list]
  refine γ (lu (γ ?_))
  rcases turn i n ys τ H5 w5 with ⟨stop,q⟩ | ⟨go,step⟩
  ·refine thn (T.done (cxG X sc cl xs js s3.heap.objs.size s3 H3 fp) rfl rfl rfl hc i [] s5 τ H5 _ I5 (stat fr5 (fun p hp=>absurd hp (by simp))) st5 stop) fun r s6 ⟨hr,I6⟩=>?_
   subst hr
   refine η ?_
   obtain ⟨m,hn,_⟩:=I6.loc
   refine fin _ _ s6 H5 m hn (I3.fpOk (ν _) I6.free) (fun h' sb=>?_) q
   have u:=(show Un (frs X.stack) fp H3 H5 s3.heap s6.heap from I6.base).sameBut sb (ν _)
   exact I3.call' (s':={ s6 with heap:=h' }) (ch:=fp) I6.os u (I6.hok.sameBut sb I6.free) I6.bare fun b hb=>⟨(f2 b hb).2.2.2.1,(f2 b hb).2.1,(f2 b hb).2.2.2.2.1,(f2 b hb).2.2.2.2.2⟩
  ·refine thn (T.item (cxG X sc cl xs js s3.heap.objs.size s3 H3 fp) rfl rfl rfl hc i [] s5 τ H5 _ I5 (stat fr5 (fun p hp=>absurd hp (by simp))) st5 go) fun r s6 ⟨u,hr,h6⟩=>?_
   subst hr
   refine γ (thn h6 fun _ s7 ⟨z,H7,I7,r7,y7,st7,fr7⟩=>?_)
   have I7':=I7.pinned (stat fr7 (fun p hp=>absurd hp (by simp))) (T.obj _ _ st7)
   have done:∀ {σ':St}{H':Hp}{s':ο}{ys':List V}{m':Nat},Inv (cxG X sc cl xs js s3.heap.objs.size s3 H3 fp) ([]++qO fp s7.heap) σ' H' s'->m' < n->W (i+1) m' ys' σ' H'->∃ m,m < n/\∃ i ys τ H',Inv (cxG X sc cl xs js s3.heap.objs.size s3 H3 fp) [] τ H' s'/\tn i s'.heap/\(∀ b∈fp,H' b=none)/\W i m ys τ H':=fun {σ' H' s' ys' m'} I' hm w'=>
    ⟨m',hm,i+1,ys',σ',H',I'.xJ,T.keep _ _ _ st7 fun b hb o e=>(I'.pin (b,o) (ό _ (ό _ (yS hb e)))).1,fun b hb=>by
     obtain ⟨o,e,d⟩:=T.obj _ _ st7 b hb
     exact (I'.pin (b,o) (ό _ (ό _ (yS hb e)))).2.1,w'⟩
   refine γ (cF (hg _ _ _ _ _ s7 τ H7 z u _ I7' r7 (step z H7 y7)) (fun _ s8 ⟨σ8,H8,I8,q8⟩=>?_) fun _ _ z=>ak z)
   refine γ (cF (ht _ _ _ _ _ s8 σ8 H8 _ I8 q8) (fun ok s9 ⟨H9,I9,q9⟩=>?_) fun _ _ z=>ak z)
   cases ok with
   | false=>
    rw [if_neg Ο] at q9
    obtain ⟨m',hm,w9⟩:=q9
    exact η ⟨rfl,done I9 hm w9⟩
   | true=>
    rw [if_pos rfl] at q9
    refine γ (γ (cF (he _ _ _ _ _ s9 _ _ _ I9 q9) (fun v9 s10 ⟨x9,H10,I10,r9,q10⟩=>?_) fun _ _ z=>ak z))
    obtain ⟨hD9,hlen,m',hm,w10⟩:=q10
    have ap:=qZ (X:=cxG X sc cl xs js s3.heap.objs.size s3 H3 fp) _ s10 _ H10 (.ref s2.heap.objs.size) [x9] (.ref s2.heap.objs.size) [v9] (fun _ H'=>H'=upd H10 s2.heap.objs.size (.lst (ys++[x9]))) I10 rfl (.cons r9 .nil) ⟨_,ys,x9,rfl,rfl,hD9,hlen,rfl⟩
    refine γ (cF ap (fun _ s11 ⟨_,H11,I11,_,e11⟩=>?_) fun _ _ z=>ak z)
    subst e11
    exact η (η ⟨rfl,done I11 hm w10⟩)
 exact codeAny_compStart_list (loop _ rfl) (T.self _ 0 _ _ _ st4 (loop _ rfl))
theorem Qc {elt iter tgt:Expr}{ifs:List Expr}{pos:Pos}{wi:TI}{tg:TG}{tt:TT}{te:TE}(hc:X.calm=true) (K:CompG X sc cl xs js) (hi:PI X tgt iter wi)
  (hg:∀ C s3 H3 fp,PG (cxG X sc cl xs js C s3 H3 fp) tgt tg) (ht:∀ C s3 H3 fp,PTs (cxG X sc cl xs js C s3 H3 fp) ifs tt) (he:∀ C s3 H3 fp,PE (cxG X sc cl xs js C s3 H3 fp) elt te) (hs:∀ v,bH iter X.env v=pure v):
  PE X (.ListComp elt [⟨tgt,iter,ifs,0⟩] sc pos) (fun σ H Q=>uX xs.length js wi tg tt te (fun D H'=>Q (.ref D) H') σ H):=by
 intro pj s σ H Q I h
 rw [eval_ListComp]
 exact ZG (use:=none) (Q':=EP X pj σ Q) hc K hi hg ht he hs I h fun D C s6 H5 m hn fp inv q=>⟨m,hn,fun h' sb=>⟨.ref D,H5,inv h' sb,rfl,q⟩⟩
theorem W4 {elt iter tgt:Expr}{ifs:List Expr}{pos spos npos:Pos}{wi:TI}{tg:TG}{tt:TT}{te:TE}{n:Str}{i:Nat}(hc:X.calm=true) (K:CompG X sc cl xs js) (hi:PI X tgt iter wi)
  (hg:∀ C s3 H3 fp,PG (cxG X sc cl xs js C s3 H3 fp) tgt tg) (ht:∀ C s3 H3 fp,PTs (cxG X sc cl xs js C s3 H3 fp) ifs tt) (he:∀ C s3 H3 fp,PE (cxG X sc cl xs js C s3 H3 fp) elt te) (hs:∀ v,bH iter X.env v=pure v)
  (hp:PG X (.Name n npos) (gName i)) (hsw:gK (.ListComp elt [⟨tgt,iter,ifs,0⟩] sc pos) (some (.Name n npos)) spos.line X.env=pure true):
  PS X (.Assign [.Name n npos] (.ListComp elt [⟨tgt,iter,ifs,0⟩] sc pos) spos) (fun D σ H=>uX xs.length js wi tg tt te (fun Da H'=>D.nx (σ.set i (some (.ref Da))) H') σ H):=by
 intro pj s σ H D I h
 rw [exec_Assign_Name_used _ _ _ _ hsw]
 refine γ (lu (γ ?_))
 show Λ _ X.A (do let _ <- comprehension (.ListComp elt [⟨tgt,iter,ifs,0⟩] sc pos) sc X.env _ (newList []) false (eval iter X.env) (some (gw (.Name n npos) X.env))) _ _ s
 refine γ (cF (ZG (use:=some (gw (.Name n npos) X.env)) (Q':=fun _ s'=>SP X pj D .next s') hc K hi hg ht he hs I h ?_) (fun _ s' q=>η (η q)) fun _ _ z=>z)
 intro Da C s6 H5 m hn fp inv q
 obtain ⟨oC,es,ep,hoC,hdC,hrC⟩:=id hn
 have I6:=inv s6.heap (lY C s6.heap)
 have I6':Inv X (pj++[(C,oC)]) σ H5 { s6 with heap:=s6.heap }:=I6.Yo fun p hp=>(Τ.mp hp).elim (fun z=>I6.pin p (ό _ z)) fun z=>by
  rw [Θ.mp z]
  exact ⟨hoC,fp.1,fp.2.1,fp.2.2.1,fun v e=>by rw [hdC] at e;cases e⟩
 show Λ _ X.A (gw (.Name n npos) X.env (.ref Da)) _ _ s6
 refine thn (hp _ s6 σ H5 (.ref Da) (.ref Da) _ I6' rfl q) fun _ s7 ⟨σ7,H7,I7,q7⟩=>?_
 have hC7:=(I7.pin (C,oC) (ό _ (ό _ (Θ.mpr rfl))))
 refine ⟨m,⟨oC,es,ep,hC7.1,hdC,hrC⟩,fun h' sb=>⟨σ7,H7,?_,q7⟩⟩
 have I8:Inv X pj σ7 H7 s7:=I7.xJ
 exact I8.turned (t':=s7.toks) (fun b o hb e=>(sb.2 b hb).trans e) hC7.2.1 fp.2.1 fp.2.2.2.1 fp.2.2.2.2.1 fun p hp=>fp.2.2.2.2.2 p hp
def CSet (X:Cx) (x:Expr) (t:TE):Prop:=∀ (n:Str) (npos spos:Pos) (i:Nat),PG X (.Name n npos) (gName i)->gK x (some (.Name n npos)) spos.line X.env=pure true ->
 PS X (.Assign [.Name n npos] x spos) (fun D σ H=>t σ H fun v H'=>D.nx (σ.set i (some v)) H')
theorem QV {X:Cx}{x:Expr}{t t':TE}(h:PE X x t/\CSet X x t) (i:∀ σ H Q,t' σ H Q->t σ H Q):PE X x t'/\CSet X x t':=
 ⟨h.1.imp i,fun n np sp j hp hs=>(h.2 n np sp j hp hs).imp fun D σ H q=>i σ H _ q⟩
theorem JV {elt iter tgt:Expr}{ifs:List Expr}{pos:Pos}{wi:TI}{tg:TG}{tt:TT}{te:TE}(hc:X.calm=true) (K:CompG X sc cl xs js) (hi:PI X tgt iter wi)
  (hg:∀ C s3 H3 fp,PG (cxG X sc cl xs js C s3 H3 fp) tgt tg) (ht:∀ C s3 H3 fp,PTs (cxG X sc cl xs js C s3 H3 fp) ifs tt) (he:∀ C s3 H3 fp,PE (cxG X sc cl xs js C s3 H3 fp) elt te) (hs:∀ v,bH iter X.env v=pure v):
  PE X (.ListComp elt [⟨tgt,iter,ifs,0⟩] sc pos) (fun σ H Q=>uX xs.length js wi tg tt te (fun D H'=>Q (.ref D) H') σ H)/\CSet X (.ListComp elt [⟨tgt,iter,ifs,0⟩] sc pos) (fun σ H Q=>uX xs.length js wi tg tt te (fun D H'=>Q (.ref D) H') σ H):=
 ⟨Qc hc K hi hg ht he hs,fun n np sp i hp hsw=>W4 hc K hi hg ht he hs hp hsw⟩
end
end L2
namespace EV
open PySem PySem.Spec PyProof.Rows L2
structure FnI (Γ:Gm) (B:Tb) (cf:Nat->Nat->Sp) (k:Nat) (P:Ω) (w:ϥ) (K:W.Frag) (mg:Str->Option δ) (base:Heap) (f:Nat) (x:Str):Prop where
 ex:∃ (a:Addr) (fd:aN) (ps:List Str),Γ.fa f=some a/\mg x=some (.ref a)/\W.keepIn K (.ref a)=true/\Binds K fd ps []/\B.pars[f]?=some ps/\FnOk P w K mg base CX0 k a fd ps (cf f ps.length) /\
  ∀ (ks:List Str) (perm:List Nat),perm.length=ps.length->(∀ i∈perm,i < ks.length)->perm.map (fun i=>ks.getD i "")=ps->ks.length=ps.length->(f,ks,perm)∈B.kws ->
   Kf K fd ps ks (fun us ws=>if ws.length=ks.length then us++perm.map fun i=>ws.getD i .none else []) (fun vs zs=>if zs.length=ks.length then vs++perm.map fun i=>zs.getD i .non else [])
structure XOk (Γ:Gm) (B:Tb) (cf:Nat->Nat->Sp) (k:Nat) (X:Cx) (c:Cc):Prop where
 hK:X.K=Γ.K
 nm:X.env.scope.names=c.names
 kd:X.env.scope.kind=.function
 N:X.N=c.N
 nd:X.N.Nodup
 fn:c.fn=true->∀ x,X.fn x=true
 calm:X.calm=true
 room:Room k X.A
 cells:∀ x,(c.names.lookup x=some .cell\/c.names.lookup x=some .free)->∃ a,X.env.cells.lookup x=some a
 fns:∀ (f:Nat) (x:Str),B.fns[f]?=some x->FnI Γ B cf k X.prog X.w X.K X.mg X.base f x
 bare:∀ x∈B.bare,X.mg x=none
 consts:∀ (n:Nat) (x:Str) (d:D),B.consts[n]?=some (x,d)->∃ u v,X.mg x=some u/\RelV v u/\∀ g,Has Γ g d v
 fa:∀ (f:Nat) (a:Addr),Γ.fa f=some a->∃ x,B.fns[f]?=some x
section
variable {Γ:Gm}{B:Tb}{cf:Nat->Nat->Sp}{k:Nat}{X:Cx}{c:Cc}
theorem XOk.u61 (x:XOk Γ B cf k X c):X.A.units+61 < aq:=by have:=x.room.un;lia
theorem XOk.u1 (x:XOk Γ B cf k X c):X.A.units+1 < aq:=by have:=x.room.un;lia
theorem XOk.vis (x:XOk Γ B cf k X c) {n:Str}(h:visK (c.names.lookup n)=true):Vis X.env.scope n:=by
 unfold Vis
 rw [x.nm]
 cases q:c.names.lookup n with
 | none=>rw [q] at h;cases h
 | some kd=>rw [q] at h;cases kd <;> first | exact .inl rfl | exact .inr (.inl rfl) | exact .inr (.inr rfl) | cases h
theorem XOk.glob (x:XOk Γ B cf k X c) {n:Str}(h:gloK (c.names.lookup n)=true):Gl X n:=by
 unfold Gl lZ
 rw [x.nm]
 cases q:c.names.lookup n with
 | none=>rw [q] at h;cases h
 | some kd=>rw [q] at h;cases kd <;> first | rfl | cases h
theorem yD {n:Str}(h:yL n=true):(n==("__debug__":Str))=false/\(n==("__classdict__":Str))=false/\n≠("__name__":Str):=by
 unfold yL at h
 simp only [ε,nZ] at h
 exact ⟨h.1.1,h.1.2,by simpa using h.2⟩
theorem XOk.pg (x:XOk Γ B cf k X c) {i:Nat}{n:Str}{pos:Pos}(hi:c.N[i]?=some n) (hs:stoK c n=true):PG X (.Name n pos) (gName i):=by
 have hi':X.N[i]?=some n:=by rw [x.N];exact hi
 unfold stoK at hs
 cases q:c.names.lookup n with
 | none=>rw [q] at hs;cases hs
 | some kd=>
  rw [q] at hs
  have q':X.env.scope.names.lookup n=some kd:=by rw [x.nm];exact q
  cases kd with
  | «local»=>exact Uq x.nd hi' (.inl q') (.inr q')
  | cell=>exact Uq x.nd hi' (.inr q') (.inl (x.fn hs n))
  | _=>cases hs
def Zx:List Nat->TGs
 | []=>gNil
 | i::is=>gCons (gName i) (Zx is)
theorem Ul (x:XOk Γ B cf k X c):∀ {es:List Expr}{ns:List Str}{is:List Nat},EV.namesOf es=some ns->ns.length=is.length->((is.zip ns).all fun p=>c.N[p.1]?==some p.2&&stoK c p.2)=true ->
  PGs X es (Zx is)/\(aW es X.env).length=is.length/\(aW es X.env).findIdx? (·.1)=none
 | [],ns,is,h,hl,_=>by
  cases (show some []=some ns from h)
  cases is with
  | nil=>exact ⟨Um,rfl,rfl⟩
  | cons=>simp at hl
 | e::es,ns,is,h,hl,ha=>by
  cases e with
  | Name n pos=>
   simp only [EV.namesOf,Ε] at h
   obtain ⟨r,h1,h2⟩:=h
   subst h2
   cases is with
   | nil=>simp at hl
   | cons i is=>
    simp only [bJ,bQ,ε] at ha
    obtain ⟨⟨ha1,ha2⟩,ha3⟩:=ha
    obtain ⟨g1,g2,g3⟩:=Ul x h1 (by simpa using hl) ha3
    refine ⟨jU (x.pg (eq_of_beq ha1) ha2) g1,?_,?_⟩
    ·show (_::aW es X.env).length=_
     rw [Ϟ,g2,Ϟ]
    ·show List.findIdx? _ ((false,_)::aW es X.env)=none
     rw [List.findIdx?_cons]
     simp [g3]
  | _=>simp [EV.namesOf] at h
def tgOf (K:W.Frag):T->TG
 | .nst i is=>gTup K 2 (gCons (gName i) (gCons (gTup K is.length (Zx is)) gNil))
 | .one i=>gName i
 | .tup is=>gTup K is.length (Zx is)
theorem Wy {x:Expr}{q:Str×Pos×List Expr×Nat×Pos×Nat×Pos}(h:asNst x=some q):x=.Tuple [.Name q.1 q.2.1,.Tuple q.2.2.1 q.2.2.2.1 q.2.2.2.2.1] q.2.2.2.2.2.1 q.2.2.2.2.2.2:=by
 cases x with
 | Tuple es k p=>
  cases es with
  | nil=>cases h
  | cons a r=>
   cases a with
   | Name n pos=>
    cases r with
    | nil=>cases h
    | cons b z=>
     cases z with
     | cons _ _=>cases h
     | nil=>
      cases b with
      | Tuple fs k2 p2=>cases h;rfl
      | _=>cases h
   | _=>cases h
 | _=>cases h
theorem zaX (x:XOk Γ B cf k X c) {t:T}{tgt:Expr}(hn:isNst t=true) (h:chkT c t tgt=true):PG X tgt (tgOf X.K t):=by
  cases t with
  | nst i is=>
    unfold chkT at h
    rw [if_pos hn] at h
    cases e:asNst tgt with
    | none=>rw [e] at h;cases h
    | some q=>
      rw [e] at h
      have h:(match namesOf q.2.2.1 with
        | some ns=>(q.1::ns).length==(i::is).length&&((i::is).zip (q.1::ns)).all fun p=>c.N[p.1]?==some p.2&&stoK c p.2
        | none=>false)=true:=h
      rw [Wy e]
      cases en:namesOf q.2.2.1 with
      | none=>rw [en] at h;cases h
      | some ns=>
        rw [en] at h
        simp only [bJ,bQ,ε] at h
        obtain ⟨h1,⟨h2,h3⟩,h4⟩:=h
        have h1:ns.length=is.length:=by simpa using h1
        obtain ⟨g1,g2,g3⟩:=Ul x en h1 h4
        exact Uo x.calm (jU (x.pg (eq_of_beq h2) h3) (jU (Uo x.calm g1 g2 g3) Um)) rfl rfl
  | _=>cases hn
theorem VD (x:XOk Γ B cf k X c) {t:T}{tgt:Expr}(h:chkT c t tgt=true):PG X tgt (tgOf X.K t):=by
 by_cases hnst:isNst t=true
 ·exact zaX x hnst h
 unfold chkT at h
 rw [if_neg hnst] at h
 rw [ε] at h
 obtain ⟨h1,h2⟩:=h
 cases tgt with
 | Name n pos=>
  cases t with
  | one i=>
   simp only [yz,tIs,bJ,List.zip_nil_right,bQ,List.all_nil,iJ,ε] at h2
   exact x.pg (eq_of_beq h2.2.1) h2.2.2
  | tup is=>cases h1
  | nst _ _=>exact absurd rfl hnst
 | Tuple es kk pos=>
  cases t with
  | one i=>cases h1
  | nst _ _=>exact absurd rfl hnst
  | tup is=>
   simp only [yz,tIs] at h2
   cases hn:EV.namesOf es with
   | none=>rw [hn] at h2;cases h2
   | some ns=>
    rw [hn] at h2
    simp only [ε,beq_iff_eq] at h2
    obtain ⟨g1,g2,g3⟩:=Ul x hn h2.1 (by simpa using h2.2)
    exact Uo x.calm g1 g2 g3
 | _=>simp [yz] at h2
noncomputable def closL (cells:List (Str×Addr)):List (Str×ϯ)->List (Str×Addr)->List (Str×Addr)
 | [],acc=>acc
 | (n,kd)::r,acc=>if (kd==aH)=true then closL cells r ((n,(cells.lookup n).getD 0)::acc) else closL cells r acc
theorem uE {env:Env}:∀ (names:List (Str×ϯ)) (acc:List (Str×Addr)),(∀ y∈names,y.2=.free->∃ a,env.cells.lookup y.1=some a) ->
  (forIn names acc fun x cs=>match x with
   | (name,kind)=>if (kind==aH)=true then do let a <- cellOf env name;pure (ϟ ((name,a)::cs)) else pure (ϟ cs):Sem (List (Str×Addr)))=pure (closL env.cells names acc)
 | [],acc,_=>rfl
 | (n,kd)::r,acc,h=>by
  rw [List.forIn_cons]
  by_cases hk:(kd==aH)=true
  ·obtain ⟨a,ha⟩:=h (n,kd) ς (eq_of_beq hk)
   have ha:env.cells.lookup n=some a:=ha
   simp only [hk,if_true]
   have:cellOf env n=pure a:=by unfold cellOf;rw [ha]
   rw [this]
   simp only [pure_bind]
   rw [uE r _ fun y hy=>h y (ι _ hy)]
   simp [closL,hk,ha]
  ·simp only [hk]
   simp only [aL,if_false,pure_bind]
   rw [uE r _ fun y hy=>h y (ι _ hy)]
   simp [closL,hk]
theorem zco {env:Env}{sc:c7}(h:∀ y∈sc.names,y.2=.free->∃ a,env.cells.lookup y.1=some a):closureFor sc env=pure (closL env.cells sc.names []):=by
 unfold closureFor
 have:=uE sc.names [] h
 first
  | exact (congrArg (fun z=>z >>= pure) this).trans (by simp)
  | (simp only [bind_pure];exact this)
  | exact this
theorem yx {cells:List (Str×Addr)}{y:Str}:∀ (names:List (Str×ϯ)) (acc:List (Str×Addr)),(∀ z∈names,z.2=.free->∃ a,cells.lookup z.1=some a)->(∀ c,acc.lookup y=some c->cells.lookup y=some c) ->
  (∀ c,(closL cells names acc).lookup y=some c->cells.lookup y=some c)/\((y,aH)∈names\/(∃ c,acc.lookup y=some c)->∃ c,(closL cells names acc).lookup y=some c)
 | [],acc,_,h=>⟨h,fun q=>by
  rcases q with q | q
  ·cases q
  ·exact q⟩
 | (n,kd)::r,acc,hh,h=>by
  by_cases hk:(kd==aH)=true
  ·obtain ⟨a,ha⟩:=hh (n,kd) ς (eq_of_beq hk)
   have ha:cells.lookup n=some a:=ha
   have e:closL cells ((n,kd)::r) acc=closL cells r ((n,a)::acc):=by
    simp [closL,hk,ha]
   rw [e]
   obtain ⟨i1,i2⟩:=yx (y:=y) r ((n,a)::acc) (fun z hz=>hh z (ι _ hz)) (fun c q=>by
    rw [au] at q
    cases hy:y==n with
    | true=>rw [hy] at q;cases q;rw [eq_of_beq hy];exact ha
    | false=>rw [hy] at q;exact h c q)
   refine ⟨i1,fun q=>i2 ?_⟩
   rcases q with q | ⟨c,q⟩
   ·rcases Ξ.mp q with q | q
    ·right
     cases q
     exact ⟨a,List.lookup_cons_self⟩
    ·exact .inl q
   ·right
    rw [au]
    cases hy:y==n with
    | true=>exact ⟨a,rfl⟩
    | false=>exact ⟨c,q⟩
  ·have e:closL cells ((n,kd)::r) acc=closL cells r acc:=by simp [closL,hk]
   rw [e]
   obtain ⟨i1,i2⟩:=yx (y:=y) r acc (fun z hz=>hh z (ι _ hz)) h
   refine ⟨i1,fun q=>i2 ?_⟩
   rcases q with q | q
   ·rcases Ξ.mp q with q | q
    ·cases q;exact absurd rfl hk
    ·exact .inl q
   ·exact .inr q
theorem xN (x:XOk Γ B cf k X c) (sc:c7):(iV sc X.env).names=relK c.names sc.names:=by
 unfold iV relK
 simp only [x.kd,lZ,x.nm]
 congr 1
 funext y
 have e:(mO==mO)=true:=rfl
 rw [e,iJ]
theorem qI {names l:List (Str×ϯ)}{y:Str}{kd:ϯ}(hc:∀ z∈l,z.2≠.cell):(relK names l).lookup y=some kd->kd=.cell\/kd=.free->(y,aH)∈l:=by
 intro h hk
 induction l with
 | nil=>cases h
 | cons p l ih=>
  obtain ⟨n,q⟩:=p
  have hq:=hc (n,q) ς
  show (y,aH)∈(n,q)::l
  unfold relK at h
  rw [Ρ] at h
  by_cases e:(q==aH&&names.lookup n==some .cell)=true
  ·simp only [e,if_true] at h
   rw [au] at h
   cases hy:y==n with
   | true=>
    rw [ε] at e
    rw [eq_of_beq hy,eq_of_beq e.1]
    exact ς
   | false=>
    rw [hy] at h
    exact ι _ (ih (fun z hz=>hc z (ι _ hz)) h)
  ·simp only [e,aL,if_false] at h
   rw [au] at h
   cases hy:y==n with
   | true=>
    rw [hy] at h
    cases h
    rcases hk with hk | hk
    ·exact absurd hk hq
    ·rw [hk,eq_of_beq hy];exact ς
   | false=>
    rw [hy] at h
    exact ι _ (ih (fun z hz=>hc z (ι _ hz)) h)
theorem Uc {names l:List (Str×ϯ)}{y:Str}(h:l.lookup y=some .free):(relK names l).lookup y=some .cell\/(relK names l).lookup y=some .free:=by
 induction l with
 | nil=>cases h
 | cons p l ih=>
  obtain ⟨n,q⟩:=p
  rw [au] at h
  unfold relK
  rw [Ρ]
  cases hy:y==n with
  | true=>
   rw [hy] at h
   cases h
   by_cases e:(aH==aH&&names.lookup n==some .cell)=true
   ·left
    simp only [e,if_true,au,hy]
   ·right
    simp only [e,aL,if_false,au,hy]
  | false=>
   rw [hy] at h
   have:=ih h
   by_cases e:(q==aH&&names.lookup n==some .cell)=true
   ·simp only [e,if_true,au,hy];exact this
   ·simp only [e,aL,if_false,au,hy];exact this
theorem Ws (x:XOk Γ B cf k X c) {sc:c7}{js:List Nat}{xs:List Str}(h:chkS c sc js=true):CompG X sc (closL X.env.cells sc.names []) xs js:=by
 unfold chkS at h
 simp only [ε,dG,beq_iff_eq] at h
 obtain ⟨⟨⟨⟨⟨h1,h2⟩,h3⟩,h4⟩,h5⟩,h6⟩:=h
 have hc:∀ y∈sc.names,y.2≠.cell:=fun y hy=>by simpa using h2 y hy
 have hcell:∀ y∈sc.names,y.2=.free->∃ a,X.env.cells.lookup y.1=some a:=fun y hy hf=>by
  have:=h5 y hy
  rw [hf] at this
  refine x.cells y.1 ?_
  simpa using this
 refine ⟨zco hcell,hc,h1,fun y hy hl=>?_,fun y c' q=>(yx sc.names [] hcell (fun _ q=>by cases q)).1 c' q,fun y hy=>?_,fun j hj y hy=>?_,fun j hj=>?_⟩
 ·have:=h3 y hy
  rw [hl] at this
  simpa using this
 ·rw [xN x] at hy
  refine (yx sc.names [] hcell (fun _ q=>by cases q)).2 (.inl ?_)
  rcases hy with q | q
  ·exact qI hc q (.inl rfl)
  ·exact qI hc q (.inr rfl)
 ·have q:=h6 j hj
  rw [x.N] at hy
  rw [hy] at q
  simp only [ε,lF,beq_iff_eq] at q
  refine ⟨?_,?_,(yx sc.names [] hcell (fun _ q=>by cases q)).2 (.inl (aQ q.2)),?_⟩
  ·unfold Vis
   rw [x.nm]
   rcases q.1 with z | z
   ·exact .inr (.inl z)
   ·exact .inr (.inr z)
  ·unfold lZ
   rw [x.nm]
   rcases q.1 with z | z <;> rw [z] <;> decide
  ·rw [xN x]
   exact Uc q.2
 ·have q:=h6 j hj
  cases e:c.N[j]? with
  | none=>rw [e] at q;cases q
  | some y=>rw [x.N];exact (Η.mp e).1
theorem Vo (x:XOk Γ B cf k X c) {sc:c7}{js:List Nat}{xs:List Str}(h:chkS c sc js=true) (hn:(xs++js.map (fun j=>c.N.getD j "")).Nodup) (C:Addr) (s3:ο) (H3:Hp) (fp:List Addr):
  XOk Γ B cf k (cxG X sc (closL X.env.cells sc.names []) xs js C s3 H3 fp) (inner c sc xs js):=by
 have K:=Ws (xs:=xs) x h
 refine ⟨x.hK,xN x sc,K.kind,by show xs++js.map (fun j=>X.N.getD j "")=_;rw [x.N];rfl,by show (xs++js.map (fun j=>X.N.getD j "")).Nodup;rw [x.N];exact hn,fun q=>absurd (show false=true from q) Ο,x.calm,x.room,fun y hy=>?_,x.fns,x.bare,x.consts,x.fa⟩
 have hy':(iV sc X.env).names.lookup y=some .cell\/(iV sc X.env).names.lookup y=some .free:=by rw [xN x];exact hy
 exact K.has y hy'
end
end EV
namespace L2
open PySem PySem.Spec PyProof.Rows
section
variable {X:Cx}{tg:Expr}
theorem zd8 {pj:List (Addr×Obj)}{σ:St}{H:Hp}{s:ο}{R:It->Hp->Prop}{a:Addr}(I:Inv X pj σ H s) (h:((∃ xs,SqL X.K H a xs)/\R (Itl X.K a) H)\/((∃ xs,SqT X.K H a xs)/\R (Itt X.K a) H)):Λ (Χ X.prog X.w) X.A (pyIter (.ref a)) (PIE X pj σ tg R) X.xe s:=by
 have fp:∀ b∈[s.heap.objs.size],FpOk X pj H b:=fun b hb=>by
  rw [Θ.mp hb]
  exact I.fpOk (ν _) (I.hok.fresh (ν _))
 rcases h with ⟨⟨xs,hq⟩,q⟩ | ⟨⟨xs,hq⟩,q⟩
 ·obtain ⟨its,rv,p,hz⟩:=I.list hq
  exact gm p.isList ⟨s.heap.objs.size,[s.heap.objs.size],_,_,H,rfl,I.kept (t':=s.toks) fun b o e=>ζ _ e,Vx a _,⟨_,ω _ rfl,rfl,rfl⟩,fp,q⟩
 ·obtain ⟨its,rv,p,hz⟩:=I.tuple hq
  exact wpAny_pyIter_tuple (show s.heap.IsTuple a its.toArray from p) ⟨s.heap.objs.size,[s.heap.objs.size],_,_,H,rfl,I.kept (t':=s.toks) fun b o e=>ζ _ e,WQ a _,⟨_,ω _ rfl,rfl,rfl⟩,fp,q⟩
noncomputable def Its (x:Str):It:=⟨fun i _=>i < x.cps.size,fun i H v H'=>H'=H/\∃ c,x.cps[i]?=some c/\v=.str ⟨#[c]⟩,fun i _=>x.cps.size<=i⟩
theorem Vw {P:Ω}{w:ϥ}{K:W.Frag}{tg:Expr}(x:Str) (t:Tok) (it:Addr):Turn P w K tg (Its x) [it] it (fun i h=>h.IsStrIter it "str_ascii_iterator" x t i) where
 mem:=by simp
 obj:=fun i h st b hb=>by
  have e:b=it:=by simpa using hb
  subst e
  obtain ⟨o,e,c,d⟩:=st
  exact ⟨o,e,fun v z=>by rw [d] at z;cases z⟩
 keep:=fun i h h' st k=>by
  obtain ⟨o,e,r⟩:=st
  exact ⟨o,k it (by simp) o e,r⟩
 item:=by
  intro X hP hw hK hc i pj s σ H E I hf st hg
  subst hP hw hK
  obtain ⟨f0,f1,f2,f3,f4,f5⟩:=hf it (by simp)
  refine (Walks.strAscii (prog:=X.prog) (w:=X.w) (I.ok.hd hc) it x t).item i s _ _ hg st fun v h' tk hv st' kk=>?_
  obtain ⟨c,u,h1,rfl⟩:=hv
  have I1:Inv X pj σ H { s with heap:=h',toks:=tk }:=I.turned (fun b o hb e=>kk b o (by simpa using hb) e) f0 f1 f3 f4 f5
  obtain ⟨o,e,c1,d⟩:=id st'
  exact ⟨_,rfl,go_of (s:={ s with heap:=h',toks:=tk }) e c1 d (by decide) ⟨.str ⟨#[c]⟩,H,I1,⟨u,rfl⟩,⟨rfl,c,h1,rfl⟩,st',fun b hb=>(hf b hb).1⟩⟩
 done:=by
  intro X hP hw hK hc i pj s σ H E I hf st hg
  subst hP hw hK
  obtain ⟨f0,f1,f2,f3,f4,f5⟩:=hf it (by simp)
  have hg:x.cps.size<=i:=hg
  exact wpAny_pyNext_ascii_end (I.ok.hd hc) st (by simp [hg]) fun h' eb=>⟨rfl,I.turned (t':=s.toks) (fun b o hb e=>eb b o hb e) f0 f1 f3 f4 f5⟩
 self:=fun _ _ _ _ _ st h=>wpAny_pyIter_striter_ascii st h
theorem Vv {P:Ω}{w:ϥ}{K:W.Frag}{tg:Expr}(x:Str) (t:Tok) (it:Addr):Turn P w K tg (Its x) [it] it (fun i h=>h.IsStrIter it "str_iterator" x t i) where
 mem:=by simp
 obj:=fun i h st b hb=>by
  have e:b=it:=by simpa using hb
  subst e
  obtain ⟨o,e,c,d⟩:=st
  exact ⟨o,e,fun v z=>by rw [d] at z;cases z⟩
 keep:=fun i h h' st k=>by
  obtain ⟨o,e,r⟩:=st
  exact ⟨o,k it (by simp) o e,r⟩
 item:=by
  intro X hP hw hK hc i pj s σ H E I hf st hg
  subst hP hw hK
  obtain ⟨f0,f1,f2,f3,f4,f5⟩:=hf it (by simp)
  refine (Walks.strWide (prog:=X.prog) (w:=X.w) (I.ok.hd hc) it x t).item i s _ _ hg st fun v h' tk hv st' kk=>?_
  obtain ⟨c,u,h1,rfl⟩:=hv
  have I1:Inv X pj σ H { s with heap:=h',toks:=tk }:=I.turned (fun b o hb e=>kk b o (by simpa using hb) e) f0 f1 f3 f4 f5
  obtain ⟨o,e,c1,d⟩:=id st'
  exact ⟨_,rfl,go_of (s:={ s with heap:=h',toks:=tk }) e c1 d (by decide) ⟨.str ⟨#[c]⟩,H,I1,⟨u,rfl⟩,⟨rfl,c,h1,rfl⟩,st',fun b hb=>(hf b hb).1⟩⟩
 done:=by
  intro X hP hw hK hc i pj s σ H E I hf st hg
  subst hP hw hK
  obtain ⟨f0,f1,f2,f3,f4,f5⟩:=hf it (by simp)
  have hg:x.cps.size<=i:=hg
  exact wpAny_pyNext_wide_end (I.ok.hd hc) st (by simp [hg]) fun h' eb=>⟨rfl,I.turned (t':=s.toks) (fun b o hb e=>eb b o hb e) f0 f1 f3 f4 f5⟩
 self:=fun _ _ _ _ _ st h=>wpAny_pyIter_striter_wide st h
theorem zb6 {pj:List (Addr×Obj)}{σ:St}{H:Hp}{s:ο}{R:It->Hp->Prop}{z:Str}{t:Tok}(I:Inv X pj σ H s) (h:R (Its z) H):Λ (Χ X.prog X.w) X.A (pyIter (.str z t)) (PIE X pj σ tg R) X.xe s:=by
 have fp:∀ b∈[s.heap.objs.size],FpOk X pj H b:=fun b hb=>by
  rw [Θ.mp hb]
  exact I.fpOk (ν _) (I.hok.fresh (ν _))
 cases ha:z.cps.all (· < 128) with
 | false=>exact wpAny_pyIter_wide ha ⟨s.heap.objs.size,[s.heap.objs.size],_,_,H,rfl,I.kept (t':=s.toks) fun b o e=>ζ _ e,Vv z t _,⟨_,ω _ rfl,rfl,rfl⟩,fp,h⟩
 | true=>exact wpAny_pyIter_ascii ha ⟨s.heap.objs.size,[s.heap.objs.size],_,_,H,rfl,I.kept (t':=s.toks) fun b o e=>ζ _ e,Vw z t _,⟨_,ω _ rfl,rfl,rfl⟩,fp,h⟩
theorem zdr {l:Expr}{tl:TE}(hl:PE X l tl):PI X tg l (fun σ H R=>tl σ H fun x H1=>(∃ a,x=.ref a/\(((∃ xs,SqL X.K H1 a xs)/\R (Itl X.K a) H1)\/((∃ xs,SqT X.K H1 a xs)/\R (Itt X.K a) H1)))\/∃ z,x=.str z/\R (Its z) H1):=by
 intro pj s σ H R I h
 refine thn (hl pj s σ H _ I h) fun v s1 ⟨x,H1,I1,r1,q⟩=>?_
 rcases q with ⟨a,e,q⟩ | ⟨z,e,q⟩
 ·subst e
  cases r1
  exact zd8 I1 q
 ·subst e
  obtain ⟨t,rfl⟩:=r1
  exact zb6 I1 q
theorem K6 {a:Expr}{ta:TA}{p pos:Pos}{elts:List Expr}{kk:Nat}{tp:Pos}(hg:Gl X "enumerate") (hm:X.mg "enumerate"=none) (hv:bU "enumerate"=some (.type "enumerate")) (ha:PA X [a] ta) (hs:Ϩ [a] X.env=[(false,eval a X.env)]):
  PI X (.Tuple elts kk tp) (.Call (.Name "enumerate" p) [a] [] pos) (fun σ H R=>ta σ H fun vs H1=>∃ l,vs=[.ref l]/\(((∃ xs,SqL X.K H1 l xs)/\R (Ite X.K l) H1)\/((∃ xs,SqT X.K H1 l xs)/\R (Itet X.K l) H1))):=by
 intro pj s σ H R I h
 refine Call_ (Zd I hg hm hv (dz (thn (ha pos pj s σ H _ I h) fun us s1 ⟨vs,H1,I1,r1,q1⟩=>?_) hs rfl))
 obtain ⟨l,e,q1⟩:=q1
 subst e
 obtain ⟨u,rfl,ru⟩:=r1.one
 cases (show u=Δ l from ru)
 have fp:∀ b∈[s1.heap.objs.size+1,s1.heap.objs.size],FpOk X pj H1 b:=fun b hb=>by
  have hb':b=s1.heap.objs.size+1\/b=s1.heap.objs.size:=by simpa using hb
  rcases hb' with rfl | rfl
  ·exact I1.fpOk (by lia) (I1.hok.fresh (by lia))
  ·exact I1.fpOk (ν _) (I1.hok.fresh (ν _))
 rcases q1 with ⟨⟨xs,hq⟩,q⟩ | ⟨⟨xs,hq⟩,q⟩
 ·obtain ⟨its,rv,pl,hz⟩:=I1.list hq
  refine call_enumerate_list pl.isList fun h' he hit hsz hk=>?_
  have I2:Inv X pj σ H1 { s1 with heap:=h' }:=I1.kept (t':=s1.toks) hk
  exact gn he ⟨_,[s1.heap.objs.size+1,s1.heap.objs.size],_,_,H1,rfl,I2,Vy l _ _ (Nat.succ_ne_self _),⟨⟨_,he⟩,hit⟩,fp,q⟩
 ·obtain ⟨its,rv,pl,hz⟩:=I1.tuple hq
  refine wg (show s1.heap.IsTuple l its.toArray from pl) fun h' he hit hsz hk=>?_
  have I2:Inv X pj σ H1 { s1 with heap:=h' }:=I1.kept (t':=s1.toks) hk
  exact gn he ⟨_,[s1.heap.objs.size+1,s1.heap.objs.size],_,_,H1,rfl,I2,WT l _ _ (Nat.succ_ne_self _),⟨⟨_,he⟩,hit⟩,fp,q⟩
end
end L2
namespace EV
open PySem PySem.Spec PyProof.Rows L2
section
variable {Γ:Gm}{Hz:Hp}{ρ:List Slot}
theorem zu {α:Type}{l:List α}{i j:Nat}{a b:α}:(l.set i a)[j]?=some b->(i=j/\i < l.length/\b=a)\/(i≠j/\l[j]?=some b):=by
 intro h
 by_cases e:i=j
 ·subst e
  by_cases hi:i < l.length
  ·rw [Ϸ hi] at h
   cases h
   exact .inl ⟨rfl,hi,rfl⟩
  ·rw [mG (by lia)] at h
   rw [gG (by lia)] at h
   cases h
 ·rw [ϊ e] at h
  exact .inr ⟨e,h⟩
theorem EnvO.setSh {H:Hp}{g:G}{σ:L2.St}{i:Nat}{d:D}{v:V}(env:EnvO Γ Hz H g ρ σ) (h:Has Γ g d v):EnvO Γ Hz H g (ρ.set i (.sh d)) (σ.set i (some v)):=by
 have hl:=env.len
 refine ⟨by simp [hl],fun j e q=>?_,fun j e q=>?_,fun j j' e e' a q1 q2 q3 q4=>?_⟩
 ·rcases zu q with ⟨rfl,h1,h2⟩ | ⟨h1,h2⟩
  ·cases h2
   exact ⟨v,Ϸ (by lia),h⟩
  ·obtain ⟨u,e1,e2⟩:=env.sh j e h2
   exact ⟨u,by rw [ϊ h1];exact e1,e2⟩
 ·rcases zu q with ⟨rfl,h1,h2⟩ | ⟨h1,h2⟩
  ·cases h2
  ·obtain ⟨a,e1,e2⟩:=env.ow j e h2
   exact ⟨a,by rw [ϊ h1];exact e1,e2⟩
 ·rcases zu q1 with ⟨rfl,h1,h2⟩ | ⟨h1,h2⟩
  ·cases h2
  ·rcases zu q2 with ⟨rfl,h3,h4⟩ | ⟨h3,h4⟩
   ·cases h4
   ·rw [ϊ h1] at q3
    rw [ϊ h3] at q4
    exact env.inj j j' e e' a h2 h4 q3 q4
theorem EnvO.setOw {H:Hp}{g:G}{σ:L2.St}{i:Nat}{d:D}{a:Addr}(env:EnvO Γ Hz H g ρ σ) (h0:Hz a=none) (hr:g.R a=none) (ha:a ∉ g.α) (hc:zJ Γ H g a d) (hi:isIns d=false)
  (ne:∀ (j:Nat) (d':D),ρ[j]?=some (.ow d')->j≠i->σ[j]?≠some (some (.ref a))):EnvO Γ Hz H g (ρ.set i (.ow d)) (σ.set i (some (.ref a))):=by
 have hl:=env.len
 refine ⟨by simp [hl],fun j e q=>?_,fun j e q=>?_,fun j j' e e' b q1 q2 q3 q4=>?_⟩
 ·rcases zu q with ⟨rfl,h1,h2⟩ | ⟨h1,h2⟩
  ·cases h2
  ·obtain ⟨u,e1,e2⟩:=env.sh j e h2
   exact ⟨u,by rw [ϊ h1];exact e1,e2⟩
 ·rcases zu q with ⟨rfl,h1,h2⟩ | ⟨h1,h2⟩
  ·cases h2
   exact ⟨a,Ϸ (by lia),h0,hr,ha,hc,hi⟩
  ·obtain ⟨b,e1,e2⟩:=env.ow j e h2
   exact ⟨b,by rw [ϊ h1];exact e1,e2⟩
 ·rcases zu q1 with ⟨rfl,h1,h2⟩ | ⟨h1,h2⟩
  ·rcases zu q2 with ⟨rfl,h3,h4⟩ | ⟨h3,h4⟩
   ·rfl
   ·rw [Ϸ (by lia)] at q3
    cases q3
    rw [ϊ h3] at q4
    exact absurd q4 (ne j' e' h4 (gh h3))
  ·rcases zu q2 with ⟨rfl,h3,h4⟩ | ⟨h3,h4⟩
   ·rw [Ϸ (by lia)] at q4
    cases q4
    rw [ϊ h1] at q3
    exact absurd q3 (ne j e h2 (gh h1))
   ·rw [ϊ h1] at q3
    rw [ϊ h3] at q4
    exact env.inj j j' e e' b h2 h4 q3 q4
theorem ut {Q:L2.St->Hp->Prop}{H:Hp}{g:G}:∀ {is:List Nat}{ds:List D}{vs:List V}{ρ:List Slot}{σ:L2.St},is.length=ds.length->Hass Γ g ds vs->EnvO Γ Hz H g ρ σ ->
  (∀ σ',EnvO Γ Hz H g ((is.zip ds).foldl (fun r p=>r.set p.1 (.sh p.2)) ρ) σ'->Q σ' H)->Zx is vs σ H Q
 | [],[],vs,ρ,σ,_,h,env,q=>by
  cases (show vs=[] from h)
  exact ⟨rfl,q σ env⟩
 | i::is,d::ds,vs,ρ,σ,hl,⟨v,r,e,hd,hr⟩,env,q=>by
  subst e
  exact ⟨v,r,rfl,ut (by simpa using hl) hr (env.setSh hd) q⟩
 | [],_::_,_,_,_,hl,_,_,_=>by simp at hl
 | _::_,[],_,_,_,hl,_,_,_=>by simp at hl
theorem jM {K:W.Frag}{t:T}{ρ':List Slot}{H:Hp}{g:G}{σ:L2.St}{d:D}{fr:Bool}{v:V}{Q:L2.St->Hp->Prop}(hb:bindT ρ t (d,fr)=some ρ') (env:EnvO Γ Hz H g ρ σ) (sr:Same g.R H) (vo:VOk Γ Hz d fr v H g)
  (ne:fr=true->∀ (i:Nat) (d:D),ρ[i]?=some (.ow d)->σ[i]?≠some (some v)) (q:∀ σ',EnvO Γ Hz H g ρ' σ'->Q σ' H):tgOf K t v σ H Q:=by
 cases t with
 | one i=>
  simp only [bindT] at hb
  split at hb
  ·rename_i hc
   rw [ε] at hc
   have hi:isIns d=false:=by simpa using hc.2
   cases hb
   refine q _ ?_
   cases fr with
   | false=>exact env.setSh vo
   | true=>
    obtain ⟨a,e,h0,hr,ha,hcell⟩:=(show ∃ a,v=.ref a/\Hz a=none/\g.R a=none/\a ∉ g.α/\zJ Γ H g a d from vo)
    subst e
    exact env.setOw h0 hr ha hcell hi fun j d' h _=>ne rfl j d' h
  ·cases hb
 | tup is=>
  cases d with
  | tup ds=>
   simp only [bindT] at hb
   split at hb
   ·rename_i hc
    cases hb
    have hv:Has Γ g (.tup ds) v:=by
     cases fr with
     | false=>exact vo
     | true=>obtain ⟨_,_,_,_,_,hc⟩:=(show ∃ a,v=.ref a/\Hz a=none/\g.R a=none/\a ∉ g.α/\zJ Γ H g a (.tup ds) from vo);exact hc.elim
    obtain ⟨a,vs,rfl,h1,h2⟩:=hv
    exact ⟨a,vs,rfl,SqT.of (sr _ _ h1),by rw [h2.len,hc.1],ut hc.1 h2 env q⟩
   ·cases hb
  | _=>simp [bindT] at hb
 | nst i is=>
  have hb:((nst2 d).bind fun p=>if i < ρ.length/\is.length=p.2.length/\is.Nodup/\is.all (· < ρ.length) then some ((is.zip p.2).foldl (fun r p=>r.set p.1 (.sh p.2)) (ρ.set i (.sh p.1))) else none)=some ρ':=by cases d <;> exact hb
  cases e:nst2 d with
  | none=>rw [e] at hb;cases hb
  | some p=>
   rw [e] at hb
   obtain ⟨y,ds⟩:=p
   have ed:=zbU e
   subst ed
   have hb:(if i < ρ.length/\is.length=ds.length/\is.Nodup/\is.all (· < ρ.length) then some ((is.zip ds).foldl (fun r p=>r.set p.1 (.sh p.2)) (ρ.set i (.sh y))) else none)=some ρ':=hb
   by_cases hc:i < ρ.length/\is.length=ds.length/\is.Nodup/\is.all (· < ρ.length)
   ·rw [if_pos hc] at hb
    cases hb
    have hv:Has Γ g (.tup [y,.tup ds]) v:=by
     cases fr with
     | false=>exact vo
     | true=>obtain ⟨_,_,_,_,_,hc⟩:=(show ∃ a,v=.ref a/\Hz a=none/\g.R a=none/\a ∉ g.α/\zJ Γ H g a (.tup [y,.tup ds]) from vo);exact hc.elim
    obtain ⟨a,vs,rfl,h1,h2⟩:=hv
    obtain ⟨u,u2,rfl,h3,h4⟩:=h2.two
    obtain ⟨b,ws,rfl,h5,h6⟩:=h4
    exact ⟨a,_,rfl,SqT.of (sr _ _ h1),rfl,u,_,rfl,.ref b,[],rfl,b,ws,rfl,SqT.of (sr _ _ h5),by rw [h6.len,hc.2.1],ut hc.2.1 h6 (env.setSh h3) fun σ' env'=>⟨rfl,q σ' env'⟩⟩
   ·rw [if_neg hc] at hb;cases hb
end
structure ItOk (Γ:Gm) (J:It) (l:List D) (g:G):Prop where
 go:∀ (i:Nat) (H:Hp) (g':G),Le g g'->Same g'.R H->i < l.length->J.go i H
 stop:∀ (i:Nat) (H:Hp) (g':G),Le g g'->Same g'.R H->l.length<=i->J.stop i H
 yld:∀ (i:Nat) (H:Hp) (g':G) (S:Store) (z:V) (H':Hp) (d:D),Le g g'->WOk Γ H g' S->l[i]?=some d->J.yld i H z H'->∃ g2,Step H g' H' g2/\Same H H'/\WOk Γ H' g2 S/\Has Γ g2 d z
theorem xZ:∀ (n:Nat) (l:List D),(enumD n l).length=l.length
 | _,[]=>rfl
 | n,d::l=>by show (enumD (n+1) l).length+1=_;rw [xZ];rfl
theorem Wn:∀ (n:Nat) (l:List D) (i:Nat) (d:D),(enumD n l)[i]?=some d->∃ d0,l[i]?=some d0/\d=.tup [.int ((n+i:Nat):Int),d0]
 | _,[],i,d,h=>by simp [enumD] at h
 | n,x::l,0,d,h=>by
  have h:some (D.tup [.int n,x])=some d:=h
  cases h
  exact ⟨x,rfl,rfl⟩
 | n,x::l,i+1,d,h=>by
  have h:(enumD (n+1) l)[i]?=some d:=by simpa [enumD] using h
  obtain ⟨d0,e1,e2⟩:=Wn (n+1) l i d h
  refine ⟨d0,by simpa using e1,?_⟩
  rw [e2,show n+1+i=n+(i+1) by lia]
def TXi (Γ:Gm) (cf:Cf) (e:E):TI:=fun σ H Q=>∃ ρ S W g Hz,wpI cf ρ e W S/\WOk Γ H g S/\EnvO Γ Hz H g ρ σ/\∀ l J H' g' S',Step H g H' g'->WOk Γ H' g' S'->ItOk Γ J l g'->W l S'->Q J H'
def TXf (Γ:Gm) (cf:Cf) (es:List E):TT:=fun σ H Q=>∃ ρ S W g Hz,wpF cf ρ es W S/\WOk Γ H g S/\EnvO Γ Hz H g ρ σ/\∀ b H' g' S',Step H g H' g'->WOk Γ H' g' S'->W b S'->Q b H'
theorem goI {Γ:Gm}{cf:Cf}{σ:L2.St}{H:Hp}{P:Prop}{e:E}{Q} (h:TXi Γ cf e σ H Q) (f:∀ ρ S W g Hz,wpI cf ρ e W S->WOk Γ H g S->EnvO Γ Hz H g ρ σ->(∀ l J H' g' S',Step H g H' g'->WOk Γ H' g' S'->ItOk Γ J l g'->W l S'->Q J H')->P):P:=
 let ⟨ρ,S,V,g,Hz,a,b,c,d⟩:=h;f ρ S V g Hz a b c d
theorem goF {Γ:Gm}{cf:Cf}{σ:L2.St}{H:Hp}{P:Prop}{es:List E}{Q} (h:TXf Γ cf es σ H Q) (f:∀ ρ S W g Hz,wpF cf ρ es W S->WOk Γ H g S->EnvO Γ Hz H g ρ σ->(∀ b H' g' S',Step H g H' g'->WOk Γ H' g' S'->W b S'->Q b H')->P):P:=
 let ⟨ρ,S,V,g,Hz,a,b,c,d⟩:=h;f ρ S V g Hz a b c d
section
variable {X:Cx}{Γ:Gm}{S:Store}{x y z tgt:Expr}{pos p tp:Pos}{cf:Cf}{a b:E}{elts:List Expr}{kk:Nat}
theorem PI.imp {wi wi':TI}(h:PI X tgt x wi) (i:∀ σ H Q,wi' σ H Q->wi σ H Q):PI X tgt x wi':=fun pj s σ H Q I q=>h pj s σ H Q I (i σ H Q q)
theorem zau {a:Addr}{vs:List V}{l:List D}{g:G}(h:∀ g',Le g g'->∀ H,Same g'.R H->SqL X.K H a vs) (hh:Hass Γ g l vs):ItOk Γ (Itl X.K a) l g where
 go:=fun i H g' le sr hi=>⟨vs,vs[i]'(by rw [hh.len];exact hi),h g' le H sr,by simp [hh.len,hi]⟩
 stop:=fun i H g' le sr hi=>⟨vs,h g' le H sr,by rw [hh.len];exact hi⟩
 yld:=fun i H g' S z H' d le w hd y=>by
  obtain ⟨e,y⟩:=y
  subst e
  obtain ⟨v,hv,hd'⟩:=hh.get hd
  have e2:=y vs (h g' le _ w.rh)
  rw [hv] at e2
  cases e2
  exact ⟨g',Step.refl _ _,Same.refl _,w,hd'.mono le⟩
theorem zat {a:Addr}{vs:List V}{l:List D}{g:G}(h:∀ g',Le g g'->∀ H,Same g'.R H->SqT X.K H a vs) (hh:Hass Γ g l vs):ItOk Γ (Itt X.K a) l g where
 go:=fun i H g' le sr hi=>⟨vs,vs[i]'(by rw [hh.len];exact hi),h g' le H sr,by simp [hh.len,hi]⟩
 stop:=fun i H g' le sr hi=>⟨vs,h g' le H sr,by rw [hh.len];exact hi⟩
 yld:=fun i H g' S z H' d le w hd y=>by
  obtain ⟨e,y⟩:=y
  subst e
  obtain ⟨v,hv,hd'⟩:=hh.get hd
  have e2:=y vs (h g' le _ w.rh)
  rw [hv] at e2
  cases e2
  exact ⟨g',Step.refl _ _,Same.refl _,w,hd'.mono le⟩
theorem zd7 {z:Str}{g:G}:ItOk Γ (Its z) (z.cps.toList.map fun c=>D.str ⟨#[c]⟩) g where
 go:=fun i H g' le sr hi=>by
  show i < z.cps.size
  simpa using hi
 stop:=fun i H g' le sr hi=>by
  show z.cps.size<=i
  simpa using hi
 yld:=fun i H g' S v H' d le w hd y=>by
  obtain ⟨e,c,e1,e2⟩:=y
  subst e e2
  refine ⟨g',Step.refl _ _,Same.refl _,w,?_⟩
  rw [Μ,gC,e1] at hd
  cases hd
  rfl
theorem zd9 {lo:Int}{n:Nat}{g:G}:ItOk Γ (Itr lo n) ((ao n).map fun (k:Nat)=>D.int (lo+(k:Int))) g where
 go:=fun i H g' le sr hi=>by
  show i < n
  simpa using hi
 stop:=fun i H g' le sr hi=>by
  show n<=i
  simpa using hi
 yld:=fun i H g' S z H' d le w hd y=>by
  obtain ⟨e,y⟩:=y
  subst e y
  refine ⟨g',Step.refl _ _,Same.refl _,w,?_⟩
  rw [Μ] at hd
  cases q:(ao n)[i]? with
  | none=>rw [q] at hd;cases hd
  | some j=>
   rw [q] at hd
   cases hd
   have:=(Η.mp q).2
   simp at this
   subst this
   rfl
theorem Y7 {l:List D}{vs:List V}{g g':G}{H:Hp}{i:Nat}{d:D}{a:Addr}{y:V}(hh:Hass Γ g l vs) (le:Le g g') (w:WOk Γ H g' S) (hd:(enumD 0 l)[i]?=some d) (ha:H a=none) (hy:vs[i]?=some y):
  ∃ g2,Step H g' (upd H a (.tup [.int i,y])) g2/\Same H (upd H a (.tup [.int i,y]))/\WOk Γ (upd H a (.tup [.int i,y])) g2 S/\Has Γ g2 d (.ref a):=by
 obtain ⟨d0,e1,e2⟩:=Wn 0 l i d hd
 obtain ⟨v,hv,hd'⟩:=hh.get e1
 rw [hy] at hv
 cases hv
 have hr:=w.notR ha
 refine ⟨g'.put a (.tup [.int i,y]),(Step.of_same (ym ha) (Le.refl g') (fun _ h=>.inl h) fun _ h=>.inl h).put hr ha,ym ha,(w.laid ha).put zf hr (w.notA ha),?_⟩
 rw [e2,show 0+i=i by lia]
 exact ⟨a,[.int i,y],rfl,zf,.int i,[y],rfl,rfl,y,[],rfl,(hd'.mono le).mono (Le.put hr),rfl⟩
theorem zeb {a:Addr}{vs:List V}{l:List D}{g:G}(h:∀ g',Le g g'->∀ H,Same g'.R H->SqL X.K H a vs) (hh:Hass Γ g l vs):ItOk Γ (Ite X.K a) (enumD 0 l) g where
 go:=fun i H g' le sr hi=>by
  rw [xZ] at hi
  exact ⟨vs,vs[i]'(by rw [hh.len];exact hi),h g' le H sr,by simp [hh.len,hi]⟩
 stop:=fun i H g' le sr hi=>by
  rw [xZ] at hi
  exact ⟨vs,h g' le H sr,by rw [hh.len];exact hi⟩
 yld:=fun i H g' S z H' d le w hd yy=>by
  obtain ⟨p,y,hp,rfl,rfl,hy⟩:=yy
  exact Y7 hh le w hd hp (hy vs (h g' le _ w.rh))
theorem zea {a:Addr}{vs:List V}{l:List D}{g:G}(h:∀ g',Le g g'->∀ H,Same g'.R H->SqT X.K H a vs) (hh:Hass Γ g l vs):ItOk Γ (Itet X.K a) (enumD 0 l) g where
 go:=fun i H g' le sr hi=>by
  rw [xZ] at hi
  exact ⟨vs,vs[i]'(by rw [hh.len];exact hi),h g' le H sr,by simp [hh.len,hi]⟩
 stop:=fun i H g' le sr hi=>by
  rw [xZ] at hi
  exact ⟨vs,h g' le H sr,by rw [hh.len];exact hi⟩
 yld:=fun i H g' S z H' d le w hd yy=>by
  obtain ⟨p,y,hp,rfl,rfl,hy⟩:=yy
  exact Y7 hh le w hd hp (hy vs (h g' le _ w.rh))
theorem s_seq (hK:X.K=Γ.K) (h:PE X x (TX Γ cf a)):PI X tgt x (TXi Γ cf (.seq a)):=
 PI.imp (zdr h) fun σ H Q h0=>goI h0 fun ρ S W g Hz hw w env k=>⟨ρ,S,_,g,Hz,hw,w,env,fun x v H1 g1 S1 st w1 vx h=>by
  obtain ⟨g2,st2,w2,hx,q⟩:=vx.keep st w1 h
  obtain ⟨l,el,q⟩:=zQ q
  generalize x.1=d at *
  cases d with
  | lst l'=>
   cases el
   obtain ⟨a,vs,e1,h1,h2⟩:=hx
   exact .inl ⟨a,e1,.inl ⟨⟨vs,SqL.of (w2.rh _ _ h1)⟩,k _ _ H1 g2 S1 st2 w2 (zau (fun g3 le H2 sr=>SqL.of (sr _ _ (le.rr _ _ h1))) h2) q⟩⟩
  | tup l'=>
   cases el
   obtain ⟨a,vs,e1,h1,h2⟩:=hx
   exact .inl ⟨a,e1,.inr ⟨⟨vs,SqT.of (w2.rh _ _ h1)⟩,k _ _ H1 g2 S1 st2 w2 (zat (fun g3 le H2 sr=>SqT.of (sr _ _ (le.rr _ _ h1))) h2) q⟩⟩
  | scr ns=>
   cases el
   obtain ⟨a,e1,h1⟩:=hx
   exact .inl ⟨a,e1,.inl ⟨⟨_,by rw [hK];exact w2.rh.seq h1⟩,k _ _ H1 g2 S1 st2 w2 (zau (fun g3 le H2 sr=>by rw [hK];exact sr.seq (le.rr.seq h1)) Hass.ints) q⟩⟩
  | str z=>
   cases el
   exact .inr ⟨z,hx,k _ _ H1 g2 S1 st2 w2 zd7 q⟩
  | ktp l'=>
   cases el
   obtain ⟨a,vs,e1,h1,h2⟩:=hx
   exact .inl ⟨a,e1,.inr ⟨⟨vs,by rw [hK];exact .inr h1⟩,k _ _ H1 g2 S1 st2 w2 (zat (fun g3 le H2 sr=>by rw [hK];exact .inr h1) h2) q⟩⟩
  | _=>cases el⟩
theorem zc9 (hK:X.K=Γ.K) (hg:Gl X "enumerate") (hm:X.mg "enumerate"=none) (hs:notStar x=true) (h:PE X x (TX Γ cf a)):PI X (.Tuple elts kk tp) (.Call (.Name "enumerate" p) [x] [] pos) (TXi Γ cf (.enum a)):=
 PI.imp (K6 hg hm rfl (yM h vZ (zp hs _ _)) (zp hs _ _)) fun σ H Q h0=>goI h0 fun ρ S W g Hz hw w env k=>⟨ρ,S,_,g,Hz,hw,w,env,fun x v H1 g1 S1 st w1 vx h=>by
  obtain ⟨g2,st2,w2,hx,q⟩:=vx.keep st w1 h
  obtain ⟨l,el,q⟩:=zQ q
  generalize x.1=d at *
  cases d with
  | lst l'=>
   cases el
   obtain ⟨a,vs,e1,h1,h2⟩:=hx
   exact ⟨a,by rw [e1],.inl ⟨⟨vs,SqL.of (w2.rh _ _ h1)⟩,k _ _ H1 g2 S1 st2 w2 (zeb (fun g3 le H2 sr=>SqL.of (sr _ _ (le.rr _ _ h1))) h2) q⟩⟩
  | tup l'=>
   cases el
   obtain ⟨a,vs,e1,h1,h2⟩:=hx
   exact ⟨a,by rw [e1],.inr ⟨⟨vs,SqT.of (w2.rh _ _ h1)⟩,k _ _ H1 g2 S1 st2 w2 (zea (fun g3 le H2 sr=>SqT.of (sr _ _ (le.rr _ _ h1))) h2) q⟩⟩
  | _=>cases el⟩
theorem zc1 (hg:Gl X "range") (hm:X.mg "range"=none) (hs:notStar x=true) (h:PE X x (TX Γ cf a)):PI X tgt (.Call (.Name "range" p) [x] [] pos) (TXi Γ cf (.rng none a)):=
 PI.imp (Uk hg hm (yM h vZ (zp hs _ _)) (zp hs _ _)) fun σ H Q h0=>goI h0 fun ρ S W g Hz hw w env k=>⟨ρ,S,_,g,Hz,hw,w,env,fun x v H1 g1 S1 st w1 vx h=>by
  obtain ⟨j,e,q⟩:=vx.int h
  obtain ⟨hf,q⟩:=xK q
  rw [ε] at hf
  have h1:j.toNat<=1000000:=of_decide_eq_true hf.1
  have h2:-1000000<=j:=of_decide_eq_true hf.2
  refine ⟨j,by rw [e],by lia,by lia,k _ _ H1 g1 S1 st w1 ?_ q⟩
  have:=zd9 (Γ:=Γ) (lo:=0) (n:=(j - 0).toNat) (g:=g1)
  rw [show (j - 0).toNat=j.toNat by lia] at this
  rw [show z8 0 j=(ao j.toNat).map fun (k:Nat)=>D.int (0+(k:Int)) by unfold z8;rw [show (j - 0).toNat=j.toNat by lia]]
  exact this⟩
theorem s_fn:PTs X [] (TXf Γ cf []):=fun pj s σ H Q I h0=>goF h0 fun ρ S W g Hz hw w env k=>zbt pj s σ H Q I (k true H g S (Step.refl H g) w hw)
theorem s_f1 (h:PT X x (TB Γ cf a)):PTs X [x] (TXf Γ cf [a]):=fun pj s σ H Q I h0=>goF h0 fun ρ S W g Hz hw w env k=>zbs h pj s σ H Q I ⟨ρ,S,_,g,Hz,hw,w,env,fun x H1 g1 S1 st w1 h=>by
 obtain ⟨b,e,q⟩:=xX h
 rw [e]
 exact k b H1 g1 S1 st w1 q⟩
end
theorem Wj {α β:Type}{f:α->β}:∀ (l:List (Nat×α)) (r:List β) (i:Nat),(∀ p∈l,p.1≠i)->(l.foldl (fun r p=>r.set p.1 (f p.2)) r)[i]?=r[i]?
 | [],_,_,_=>rfl
 | p::l,r,i,h=>by
  rw [gB,Wj l _ i fun q hq=>h q (ι _ hq),ϊ (h p ς)]
theorem Wi {α β:Type}{f:α->β}:∀ (l:List (Nat×α)) (r:List β),(l.foldl (fun r p=>r.set p.1 (f p.2)) r).length=r.length
 | [],_=>rfl
 | p::l,r=>by rw [gB,Wi l,bB]
theorem Vj {ρ ρ':List Slot}{t:T}{d:D}(hn:isNst t=false) (h:bindT ρ t (d,false)=some ρ'):ρ'.length=ρ.length/\∀ i,i ∉ tIs t->ρ'[i]?=ρ[i]?:=by
 cases t with
 | one j=>
  simp only [bindT] at h
  split at h
  ·cases h
   exact ⟨by simp,fun i hi=>by rw [ϊ];rintro rfl;exact hi (by simp [tIs])⟩
  ·cases h
 | tup is=>
  cases d with
  | tup ds=>
   simp only [bindT] at h
   split at h
   ·cases h
    refine ⟨Wi _ _,fun i hi=>Wj _ _ i fun p hp=>?_⟩
    rintro rfl
    obtain ⟨p1,p2⟩:=p
    exact hi (dW hp).1
   ·cases h
  | _=>simp [bindT] at h
 | nst _ _=>cases hn
theorem ur {ρ:List Slot}{t:T}{js:List Nat}{i:Nat}{s:Slot}(h:(inn ρ t js)[i]?=some s):s=.no\/(nT t<=i/\∃ j,js[i - nT t]?=some j/\ρ[j]?=some s):=by
 unfold inn at h
 by_cases hi:i < nT t
 ·rw [Υ (by simpa using hi),cU,if_pos hi] at h
  cases h;exact .inl rfl
 ·rw [ϒ (by simpa using lC hi),gF,Μ] at h
  cases e:js[i - nT t]? with
  | none=>rw [e] at h;cases h
  | some j=>
   rw [e] at h
   cases q:ρ[j]? with
   | none=>simp [q] at h;exact .inl h.symm
   | some z=>simp [q] at h;subst h;exact .inr ⟨by lia,j,rfl,q⟩
theorem vm {σ:L2.St}{js:List Nat}{n i j:Nat}{v:V}(hi:n<=i) (hj:js[i - n]?=some j) (h:σ[j]?=some (some v)):(Ψ n none++rows σ js)[i]?=some (some v):=by
 rw [ϒ (by simpa using hi),gF]
 unfold rows
 rw [Μ,hj]
 simp [ϵ,h]
section
variable {Γ:Gm}{Hz H:Hp}{g:G}{ρ:List Slot}{σ τ:L2.St}{t:T}{js:List Nat}
theorem zca (env:EnvO Γ Hz H g ρ σ) (hj:js.Nodup):EnvO Γ Hz H g (inn ρ t js) (Ψ (nT t) none++rows σ js):=by
 refine ⟨by simp [inn,rows],fun i d e=>?_,fun i d e=>?_,fun i j d e a h1 h2 h3 h4=>?_⟩
 ·rcases ur e with q | ⟨hi,j,e1,e2⟩
  ·cases q
  ·obtain ⟨v,h1,h2⟩:=env.sh j d e2
   exact ⟨v,vm hi e1 h1,h2⟩
 ·rcases ur e with q | ⟨hi,j,e1,e2⟩
  ·cases q
  ·obtain ⟨a,h1,h2⟩:=env.ow j d e2
   exact ⟨a,vm hi e1 h1,h2⟩
 ·rcases ur h1 with q | ⟨hi,k,e1,e2⟩
  ·cases q
  rcases ur h2 with q | ⟨hi',k',e1',e2'⟩
  ·cases q
  obtain ⟨b,q1,_⟩:=env.ow k d e2
  obtain ⟨b',q1',_⟩:=env.ow k' e e2'
  have z:=vm hi e1 q1
  have z':=vm hi' e1' q1'
  rw [h3] at z
  rw [h4] at z'
  cases z
  cases z'
  have hk:=env.inj k k' d e a e2 e2' q1 q1'
  subst hk
  have:=(lg (Η.mp e1).1 hj).mp (e1.trans e1'.symm)
  lia
theorem Wm {ρ':List Slot}{d:D}(hn:isNst t=false) (hix:∀ i∈tIs t,i < nT t) (hs:bindT (inn ρ t js) t (d,false)=some ρ') (env:EnvO Γ Hz H g ρ' τ):EnvO Γ Hz H g (inn ρ t js) τ:=by
 obtain ⟨h1,h2⟩:=Vj hn hs
 have key:∀ i s,(inn ρ t js)[i]?=some s->s≠Slot.no->ρ'[i]?=some s:=fun i s e ne=>by
  rw [h2 i fun m=>?_]
  ·exact e
  ·rcases ur e with q | ⟨hi,_⟩
   ·exact ne q
   ·have:=hix i m;lia
 exact ⟨h1.symm.trans env.len,fun i d e=>env.sh i d (key i _ e (by simp)),fun i d e=>env.ow i d (key i _ e (by simp)),fun i j d e a q1 q2 q3 q4=>env.inj i j d e a (key i _ q1 (by simp)) (key j _ q2 (by simp)) q3 q4⟩
end
section
variable {X:Cx}{Γ:Gm}{cf:Cf}{t:T}{js:List Nat}{it elt:E}{ifs:List E}
def cStep (cf:Cf) (ρ:List Slot) (t:T) (js:List Nat) (ifs:List E) (elt:E):D->(Option D->Store->Prop)->Store->Prop:=fun d K S=>opt (bindT (inn ρ t js) t (d,false)) fun ρ'=>wpF cf ρ' ifs (fun b S1=>tst b (wpE cf ρ' elt (fun x S2=>keep x fun d=>K (some d) S2) S1) (K none S1)) S
theorem QM {n:Nat}{Qe:Addr->Hp->Prop}{σ:L2.St}{H:Hp}{V:Po}{ρ:List Slot}{S:Store}{g:G}{Hz:Hp}(hn:isNst t=false) (hix:∀ i∈tIs t,i < nT t) (ht:nT t=n) (hjs:js.Nodup) (hw:wpE cf ρ (.comp t js it ifs elt) V S) (w:WOk Γ H g S) (env:EnvO Γ Hz H g ρ σ)
  (k:∀ ds Da H' g' S',Step H g H' g'->WOk Γ H' g' S'->VN Γ H (.lst ds,.fr) (.ref Da) H' g'->V (.lst ds,.fr) S'->Qe Da H'):uX n js (TXi Γ cf it) (tgOf X.K t) (TXf Γ cf ifs) (TX Γ cf elt) Qe σ H:=by
 subst ht
 refine ⟨ρ,S,_,g,Hz,hw,w,env,fun l J H1 g1 S1 st1 w1 hJ h1 Da hDa=>?_⟩
 have h1:walkW (cStep cf ρ t js ifs elt) l [] (fun ds S2=>V (.lst ds,.fr) S2) S1:=h1
 refine ⟨fun i m ys τ H2=>m=l.length - i/\i<=l.length/\∃ g2 S2 acc,Step H1 g1 H2 g2/\WOk Γ H2 g2 S2/\EnvO Γ (upd Hz Da (.lst [])) H2 g2 (inn ρ t js) τ/\H2 Da=some (.lst ys)/\g2.R Da=none/\Da ∉ g2.α/\Hass Γ g2 acc ys/\fits acc.length=true/\walkW (cStep cf ρ t js ifs elt) (l.drop i) acc (fun ds S2=>V (.lst ds,.fr) S2) S2,⟨_,rfl,bF _,g1,S1,[],?_⟩,?_⟩
 ·have st:=(Step.refl H1 g1).zT (o:=.lst []) hDa
  have e1:=zm (zca (t:=t) env hjs) st1
  refine ⟨st,w1.laid hDa,zm ⟨e1.len,e1.sh,fun i d e=>?_,e1.inj⟩ st,zf,w1.notR hDa,w1.notA hDa,rfl,rfl,h1⟩
  obtain ⟨b,f1,f2,f3,f4,f5,f6⟩:=e1.ow i d e
  obtain ⟨o,ho,_⟩:=f5.isMut
  exact ⟨b,f1,by rw [zb (zc ho hDa)];exact f2,f3,f4,f5,f6⟩
 ·rintro i m ys τ H2 ⟨rfl,hi,g2,S2,acc,st2,w2,env2,hD2,hR2,hA2,hh2,hf2,hr2⟩
  by_cases hlt:i < l.length
  ·refine .inr ⟨hJ.go i H2 g2 st2.le w2.rh hlt,fun z H3 hy=>?_⟩
   obtain ⟨g3,st3,_,w3,hz⟩:=hJ.yld i H2 g2 S2 z H3 l[i] st2.le w2 (ξ hlt) hy
   rw [fH hlt] at hr2
   obtain ⟨hD3,hR3,hA3⟩:=st3.kept hD2 hR2 hA2
   obtain ⟨ρ',es,hr3⟩:=zQ (show opt (bindT (inn ρ t js) t (l[i],false)) _ from hr2)
   refine jM es (zm env2 st3) w3.rh (fr:=false) hz (fun h=>by cases h) fun τ3 env3=>⟨ρ',S2,_,g3,_,hr3,w3,env3,fun b H4 g4 S4 st4 w4 h4=>?_⟩
   obtain ⟨hD4,hR4,hA4⟩:=st4.kept hD3 hR3 hA3
   cases b with
   | false=>
    rw [if_neg Ο]
    exact ⟨l.length - (i+1),by omega,rfl,hlt,g4,S4,acc,(st2.trans st3).trans st4,w4,Wm hn hix es (zm env3 st4),hD4,hR4,hA4,hh2.mono (st3.le.trans st4.le),hf2,h4⟩
   | true=>
    rw [if_pos rfl]
    refine ⟨ρ',S4,_,g4,_,h4,w4,zm env3 st4,fun x v H5 g5 S5 st5 w5 vx h5=>?_⟩
    obtain ⟨g6,st6,w6,hx,q⟩:=vx.keep st5 w5 h5
    obtain ⟨hf,q⟩:=xK q
    obtain ⟨hD5,hR5,hA5⟩:=st6.kept hD4 hR4 hA4
    have st7:=(((st2.trans st3).trans st4).trans st6).zT (o:=.lst (ys++[v])) hDa
    have env6:=Wm hn hix es (zm (zm env3 st4) st6)
    refine ⟨hD5,by rw [hh2.len];exact zaq hf2,l.length - (i+1),by omega,rfl,hlt,g6,S5,acc++[x.1],st7,w6.zT hR5 hA5,?_,zf,hR5,hA5,(hh2.mono ((st3.le.trans st4.le).trans st6.le)).app (Hass.mk1 hx),by rw [Α];exact hf,q⟩
    refine ⟨env6.len,env6.sh,fun i d e=>?_,env6.inj⟩
    obtain ⟨b,f1,f2,f3,f4,f5,f6⟩:=env6.ow i d e
    have hb:b≠Da:=by
     rintro rfl
     rw [zf] at f2;cases f2
    exact ⟨b,f1,f2,f3,f4,f5.mono (Le.refl g6) fun o z=>by rw [zb hb];exact z,f6⟩
  ·have e:i=l.length:=by omega
   subst e
   refine .inl ⟨hJ.stop _ H2 g2 st2.le w2.rh (ν _),?_⟩
   rw [List.drop_length] at hr2
   exact k acc Da H2 g2 S2 (st1.trans st2) w2 ⟨Da,rfl,st1.XQ hDa,hR2,hA2,ys,hD2,hh2⟩ hr2
end
end EV
namespace L2
open PySem PyProof PyProof.Rows PySem.W
variable {X:Cx}{x st:Expr}{te ts:TE}{p2 pos:Pos}
end L2
namespace EV
open PySem PySem.Spec PyProof.Rows L2
def spN (Γ:Gm) (cf:Cf) (f n:Nat):Sp:=fun vs H Q _=>vs.length=n/\∃ g ds S V,WOk Γ H g S/\Hass Γ g ds vs/\cf f ds V S/\∀ x v H' g' S',Step H g H' g'->WOk Γ H' g' S'->VN Γ H x v H' g'->V x S'->Q v H'
def CfN (B:Tb) (cf:Cf):Prop:=∀ f ds V S ps,B.pars[f]?=some ps->cf f ds V S->ds.length=ps.length
theorem Za:∀ (kvs acc:List (Key×V)),(acc++kvs).map (·.1) |>.Nodup->wQ acc kvs=acc++kvs
 | [],acc,_=>by simp [wQ]
 | p::r,acc,h=>by
  have hn:¬ (acc.any fun kv=>decide (kv.1=p.1))=true:=by
   intro q
   rw [dF] at q
   obtain ⟨kv,hm,he⟩:=q
   have he:=of_decide_eq_true he
   rw [ϩ,iZ] at h
   exact h.2.2 kv.1 (iD hm) p.1 (by simp) he
  have e:putK acc p.1 p.2=acc++[p]:=by
   unfold putK
   rw [if_neg hn]
  show wQ (putK acc p.1 p.2) r=_
  rw [e,Za r (acc++[p]) (by simpa using h)]
  simp
section
variable {X:Cx}{Γ:Gm}{B:Tb}{cf:Cf}{k:Nat}{c:Cc}{x y z:Expr}{pos p:Pos}{a:E}{es:List E}
theorem yV {xs:List Expr}{env:Env}{pos:Pos}(h:∀ x∈xs,notStar x=true):(fc pos (Ϩ xs env)).any (·.1)=false:=by
 induction xs with
 | nil=>rfl
 | cons a l ih=>
  rw [zp (h a ς)]
  show (false||(fc pos (Ϩ l env)).any (·.1))=false
  rw [ih fun z hz=>h z (ι _ hz)]
  rfl
set_option tactic.hygienic true in
theorem zcr (b:BI):bU (biS b)=some (biV b):=by
 cases b with
 | isinst q=>cases q <;> decide +kernel
 | _=>decide +kernel
theorem s_call {f:Nat}{n:Str}{xs:List Expr}(hcf:CfN B cf) (ok:XOk Γ B (spN Γ cf) k X c) (hf:B.fns[f]?=some n) (hg:Gl X n) (hdb:(n==("__debug__":Str))=false) (hs:∀ z∈x::xs,notStar z=true) (h:PA X (x::xs) (TXs Γ cf es)):PE X (.Call (.Name n p) (x::xs) [] pos) (TX Γ cf (.call f es)):=by
 obtain ⟨a,fd,ps,h1,h2,h3,h4,h5,h6,_⟩:=(ok.fns f n hf).ex
 refine (zbF h6 ok.room hg h2 h3 h4 .nil pass0 h hdb (zp (hs x ς) _ _) (yV fun z hz=>hs z (ι _ hz))).imp fun σ H Q h0=>goX h0 fun ρ S V g Hz hw w env kk=>⟨ρ,S,_,g,Hz,hw,w,env,fun ds vs H1 g1 S1 st w1 hv hc=>?_⟩
 show spN Γ cf f ps.length (vs++[]) _ _ _
 rw [Ϣ]
 exact ⟨by rw [hv.len];exact hcf f ds V S1 ps h5 hc,g1,ds,S1,V,w1,hv,hc,fun x v H2 g2 S2 st2 w2 vx q=>kk x v H2 g2 S2 (st.trans st2) w2 (vx.back st) q⟩
theorem zc7:PK X [] (TXs Γ cf []):=fun pos pj s σ H Q I h0=>goS h0 fun ρ S W g Hz hw w env kk=>zdq pos pj s σ H Q I (kk [] [] H g S (Step.refl H g) w rfl hw)
theorem za9 {n:Str}{kp:Pos}{kws:List bh}(h1:PE X x (TX Γ cf a)) (h2:PK X kws (TXs Γ cf es)):PK X (⟨some n,x,kp⟩::kws) (TXs Γ cf (a::es)):=fun pos pj s σ H Q I h=>zbB h1 h2 pos pj s σ H Q I (args_cons h)
theorem U4 {g:G}{ds ds':List D}{vs:List V}{perm:List Nat}(h:perm.mapM (fun i=>ds[i]?)=some ds') (hv:Hass Γ g ds vs):Hass Γ g ds' (perm.map fun i=>vs.getD i .non):=by
 induction perm generalizing ds' with
 | nil=>
  simp at h
  subst h
  rfl
 | cons i r ih=>
  rw [List.mapM_cons] at h
  cases e:ds[i]? with
  | none=>rw [e] at h;cases h
  | some d=>
   rw [e] at h
   simp only [Option.bind_eq_bind,Option.bind_some] at h
   cases e2:r.mapM (fun i=>ds[i]?) with
   | none=>rw [e2] at h;cases h
   | some l=>
    rw [e2] at h
    cases h
    obtain ⟨v,hv',hd⟩:=hv.get e
    refine ⟨v,_,?_,hd,ih e2⟩
    simp [ϵ,hv']
theorem zb2 {kws:List bh}{ks:List Str}{env:Env}{pos:Pos}(h:yE kws=some ks):(b8 pos (aK kws env)).all (·.1.isSome)=true/\(b8 pos (aK kws env)).filterMap (·.1)=ks/\(b8 pos (aK kws env)).any (·.1.isNone)=false:=by
 induction kws generalizing ks with
 | nil=>cases h;exact ⟨rfl,rfl,rfl⟩
 | cons q r ih=>
  obtain ⟨n,v,kp⟩:=q
  cases n with
  | none=>cases h
  | some n=>
   simp only [yE,Ε] at h
   obtain ⟨l,h1,h2⟩:=h
   subst h2
   obtain ⟨i1,i2,i3⟩:=ih h1
   refine ⟨?_,?_,?_⟩
   ·show (true&&(b8 pos (aK r env)).all (·.1.isSome))=true
    rw [i1];rfl
   ·show n::(b8 pos (aK r env)).filterMap (·.1)=n::l
    rw [i2]
   ·show (false||(b8 pos (aK r env)).any (·.1.isNone))=false
    rw [i3];rfl
theorem zbd {f:Nat}{n:Str}{kws:List bh}{ks ps:List Str}{perm:List Nat}(hm:Mono cf) (ok:XOk Γ B (spN Γ cf) k X c) (hf:B.fns[f]?=some n) (hg:Gl X n) (hdb:(n==("__debug__":Str))=false) (h:PK X kws (TXs Γ cf es))
  (hk:yE kws=some ks) (hp:B.pars[f]?=some ps) (h1:perm.length=ps.length) (h2:∀ i∈perm,i < ks.length) (h3:perm.map (fun i=>ks.getD i "")=ps) (h4:ks.length=ps.length) (h5:(f,ks,perm)∈B.kws) (h6:es.length=ks.length):PE X (.Call (.Name n p) [] kws pos) (TX Γ cf (.callk f perm es)):=by
 obtain ⟨a,fd,ps',g1,g2,g3,g4,g5,g6,g7⟩:=(ok.fns f n hf).ex
 have e5:ps'=ps:=Ϛ (g5.symm.trans hp)
 subst e5
 obtain ⟨k1,k2,k3⟩:=zb2 (env:=X.env) (pos:=pos) hk
 refine (Us g6 ok.room hg g2 g3 (g7 ks perm h1 h2 h3 h4 h5) pass0 h k1 k2 hdb (by rw [k3];rfl)).imp fun σ H Q h0=>goX h0 fun ρ S V g Hz hw w env kk=>⟨ρ,S,_,g,Hz,Xd hm es hw,w,env,fun ds vs H1 g1 S1 st w1 hv ⟨hc,hl⟩=>?_⟩
 obtain ⟨ds',em,hc⟩:=zQ hc
 have hz:vs.length=ks.length:=by rw [hv.len,hl,h6]
 show spN Γ cf f ps'.length (if vs.length=ks.length then []++perm.map fun i=>vs.getD i .non else []) _ _ _
 rw [if_pos hz,bM]
 exact ⟨by simp [h1],g1,ds',S1,V,w1,U4 em hv,hc,fun x v H2 g2 S2 st2 w2 vx q=>kk x v H2 g2 S2 (st.trans st2) w2 (vx.back st) q⟩
theorem bi_pe {b:BI}{xs:List Expr}{t:TA}{e:E}(ok:XOk Γ B (spN Γ cf) k X c) (hg:Gl X (biS b)) (hm:X.mg (biS b)=none) (hs:∀ z∈x::xs,notStar z=true) (h:PA X (x::xs) t) (i:∀ σ H Q,TX Γ cf e σ H Q->t σ H fun vs H1=>clAny X (biV b) vs H1 Q):PE X (.Call (.Name (biS b) p) (x::xs) [] pos) (TX Γ cf e):=by
 have hn:biS b≠("__name__":Str):=by
  cases b with
  | isinst q=>cases q <;> decide
  | _=>decide
 have hdb:(biS b==("__debug__":Str))=false:=by
  cases b with
  | isinst q=>cases q <;> decide
  | _=>decide
 have he:=zp (hs x ς) xs X.env
 have hpl:=yV (pos:=pos) (env:=X.env) fun z hz=>hs z (ι _ hz)
 have bb:=zcr b
 cases hb:biV b with
 | builtin id=>rw [hb] at bb i;exact (XJ JX hg hm bb h hn hdb he hpl).imp i
 | type T=>rw [hb] at bb i;exact (Ur JX hg hm bb h hn hdb he hpl).imp i
 | _=>cases b <;> cases hb
theorem s_is {t:Ty}{pz:Pos}(ok:XOk Γ B (spN Γ cf) k X c) (hg:Gl X "isinstance") (hm:X.mg "isinstance"=none) (hgt:Gl X (tyN t)) (hmt:X.mg (tyN t)=none) (hs:notStar x=true) (h:PE X x (TX Γ cf a)):PE X (.Call (.Name "isinstance" p) [x,.Name (tyN t) pz] [] pos) (TX Γ cf (.bi (.isinst t) [a])):=by
 have hvt:bU (tyN t)=some (.type (tyS t)):=by cases t <;> decide +kernel
 have hn:tyN t≠("__name__":Str):=by cases t <;> decide
 have hdb:(tyN t==("__debug__":Str))=false:=by cases t <;> decide
 refine (XJ (id:="isinstance") JX hg hm (by decide +kernel) (yM h (yM (zbG (v:=.ty (tyS t)) hgt hmt hvt rfl hn hdb) vZ rfl) (zp hs _ _)) (by decide) (by decide) (zp hs _ _) rfl).imp fun σ H Q h0=>goX h0 fun ρ S V g Hz hw w env kk=>⟨ρ,S,_,g,Hz,hw,w,env,fun x v H1 g1 S1 st w1 vx h1=>?_⟩
 obtain ⟨⟨d,fr⟩,eb,q⟩:=zQ h1
 have eb:(isTy t (deref S1 x.1)).map (fun b=>(D.bl b,false))=some (d,fr):=eb
 cases e2:isTy t (deref S1 x.1) with
 | none=>rw [e2] at eb;cases eb
 | some b=>
  rw [e2] at eb
  cases eb
  obtain ⟨r,r1,r2⟩:=zef (X:=X) (Γ:=Γ) ok.hK e2
  exact ⟨r,r1,r2 S1 H1 g1 v Q w1 (vx.rdb w1) (kk (.bl b,.st) _ H1 g1 S1 st w1 rfl q)⟩
def PPd (X:Cx) (pos:Pos) (keys:List (Option Expr)) (vals:List Expr) (ks:List Key) (t:TA):Prop:=∃ trs,PPs X pos keys vals trs/\∀ σ H (Q:List (V×V)->Hp->Prop),t σ H (fun vs H'=>Q ((ks.zip vs).map fun kv=>(kV kv.1,kv.2)) H')->Xj trs σ H Q
theorem zc4:PPd X pos [] [] [] (TXs Γ cf []):=⟨[],zby,fun σ H Q h0=>goS h0 fun ρ S W g Hz hw w env kk=>kk [] [] H g S (Step.refl H g) w rfl hw⟩
theorem za8 {q:Const}{n:Nat}{p:Pos}{kx:Key}{keys:List (Option Expr)}{vals:List Expr}{ks:List Key}(hk:PE X (.Constant q n p) (tC (kV kx))) (h1:PE X x (TX Γ cf a)) (h2:PPd X pos keys vals ks (TXs Γ cf es)):PPd X pos (some (.Constant q n p)::keys) (x::vals) (kx::ks) (TXs Γ cf (a::es)):=by
 obtain ⟨trs,hp,ht⟩:=h2
 refine ⟨_,K3 hk h1 hp,fun σ H Q h=>?_⟩
 obtain ⟨ρ,S,V,g,Hz,hw,w,env,kk⟩:=args_cons h
 exact ⟨ρ,S,V,g,Hz,hw,w,env,fun x v H1 g1 S1 st w1 vx q=>ht σ H1 _ (kk x v H1 g1 S1 st w1 vx q)⟩
theorem zda {keys:List (Option Expr)}{vals:List Expr}{ks:List Key}(h:PPd X pos keys vals ks (TXs Γ cf es)) (hall:keys.all (·.isSome)=true) (hl:keys.length=vals.length) (h0:keys≠[]) (h15:keys.length<=15):PE X (.Dict keys vals pos) (TX Γ cf (.dic false ks es)):=by
 obtain ⟨trs,hp,ht⟩:=h
 refine (zbD hp hall hl h0 h15).imp fun σ H Q h0=>goX h0 fun ρ S V g Hz hw w env kk p hp=>ht σ _ _ ?_
 have st0:=(Step.refl H g).zT (o:=.dK []) hp
 refine ⟨ρ,S,_,g,Hz,hw,w.laid hp,zm env st0,fun ds vs H2 g2 S2 st2 w2 h2 q=>?_⟩
 obtain ⟨hd,q⟩:=xK q
 unfold dicOk at hd
 simp only [ε,decide_eq_true_eq] at hd
 obtain ⟨⟨⟨hk,hn⟩,hz⟩,_⟩:=hd
 obtain ⟨k1,k2,k3⟩:=st2.kept zf (w.notR hp) (w.notA hp)
 have el:ks.length=vs.length:=by rw [h2.len];exact hk
 refine ⟨k1,ks.zip vs,rfl,by rw [cM];lia,?_⟩
 rw [Za _ [] (by
  rw [bM,lw (by lia)]
  exact hn)]
 exact kk (.dK ks ds,.fr) (.ref p) _ g2 S2 ((st0.trans st2).zT hp) (w2.zT k2 k3) ⟨p,rfl,hp,k2,k3,vs,zf,hk,h2⟩ q
theorem zbc:PE X (.Dict [] [] pos) (TX Γ cf (.dic false [] [])):=Qa.imp fun σ H Q h0=>goX h0 fun ρ S V g Hz hw w env kk p hp=>
 kk (.dK [] [],.fr) (.ref p) _ g S ((Step.refl H g).zT hp) (w.laid hp) ⟨p,rfl,hp,w.notR hp,w.notA hp,[],zf,rfl,rfl⟩ hw
theorem zbb {ks:List Key}:PE X (.Dict [] [] pos) (TX Γ cf (.dic true [] [])):=K9.imp fun σ H Q h0=>goX h0 fun ρ S V g Hz hw w env kk p hp=>
 kk (.dT [] [],.fr) (.ref p) _ g S ((Step.refl H g).zT hp) (w.laid hp) ⟨p,rfl,hp,w.notR hp,w.notA hp,[],zf,rfl,rfl⟩ hw
end
open PySem.AutoSeq1 (wpAny_loadPart')
open PySem.MeetsSeq PySem.MeetsSeq2 PySem.MeetsSeq3 PySem.SeqAt PySem.SeqRoads2
theorem Ji {l:Addr}{us:Array δ}{n:Nat}{q:Option Addr}{sl:Array (Option δ)}{x:δ}{e:Nat->Bool}{up:Int}{j:Nat}(hj:j < us.size) (hup:(j:Int) < up) (hit:e j=true):
  ∀ (k i:Nat),j - i=k->i<=j->(∀ m,i<=m->m < j->e m=false)->Meets (Φ.«list.index.loop» ⟨[.ref l,x,bz i,bz up],[]⟩)
   (fun A R s=>s.heap.get? l=some { cls:=.type "list",dict:=q,data:=.seq us n,slots:=sl }/\(∀ m (hm:m < us.size),EqAt A.in1 s us[m] x (e m))/\R (.ok (.ret (.int j s.toks))) { s with toks:=s.toks+1 })
 | 0,i,hk,hij,hno=>by
  intro P w A R s z
  obtain ⟨hp,g,d,tk,os⟩:=s
  obtain ⟨z1,z2,z3⟩:=z
  obtain rfl:i=j:=by lia
  wp_walk using dh z1
  have hi:(if (i:Int) < up then us[((i:Nat):Int).toNat]? else none)=some us[i]:=by simp [hup,hj]
  rw [hi]
  refine γ (z2 i hj P w _ _ ?_)
  rw [hit]
  wp_walk
  exact z3
 | k+1,i,hk,hij,hno=>by
  intro P w A R s z
  obtain ⟨hp,g,d,tk,os⟩:=s
  obtain ⟨z1,z2,z3⟩:=z
  have il:i < us.size:=by lia
  have iu:(i:Int) < up:=by lia
  wp_walk using dh z1
  have hi:(if (i:Int) < up then us[((i:Nat):Int).toNat]? else none)=some us[i]:=by simp [iu,il]
  have ic:((i:Int)+1)=((i+1:Nat):Int):=by push_cast;rfl
  rw [hi]
  refine γ (z2 i il P w _ _ ?_)
  rw [hno i (ν _) (by lia)]
  wp_walk
  rw [ic]
  exact ⟨nG gM _,iB entry_index_loop (by
   rw [dH gM _]
   exact Ji hj hup hit k (i+1) (by lia) (by lia) (fun m a b=>hno m (by lia) b) P w A R _ ⟨z1,z2,z3⟩)⟩
theorem Qx {l:Addr}{us:Array δ}{n:Nat}{q:Option Addr}{sl:Array (Option δ)}{x:δ}{e:Nat->Bool}{j:Nat}(hj:j < us.size) (hz:(j:Int) < 2 ^ 63 - 1) (hit:e j=true) (hno:∀ m,m < j->e m=false):
  Meets (Φ.«list.index» ⟨[.ref l,x],[]⟩)
   (fun A R s=>s.heap.get? l=some { cls:=.type "list",dict:=q,data:=.seq us n,slots:=sl }/\(∀ m (hm:m < us.size),EqAt A.in1 s us[m] x (e m))/\R (.ok (.ret (.int j s.toks))) { s with toks:=s.toks+1 }):=by
 intro P w A R s z
 obtain ⟨hp,g,d,tk,os⟩:=s
 obtain ⟨z1,z2,z3⟩:=z
 wp_walk using dh z1
 have b1:((fun i:Int=>if i < 0 then max 0 (i+(us.size:Int)) else i) ((none:Option Int).getD 0))=((0:Nat):Int):=by simp
 have b2:((fun i:Int=>if i < 0 then max 0 (i+(us.size:Int)) else i) ((none:Option Int).getD (2 ^ 63 - 1)))=2 ^ 63 - 1:=by simp
 rw [b1,b2]
 exact ⟨nG gM _,iB entry_index_loop (by
  rw [dH gM _]
  exact Ji hj hz hit _ 0 rfl (bF _) (fun m _ b=>hno m b) P w A R _ ⟨z1,z2,z3⟩)⟩
section
variable {X:Cx}{Γ:Gm}{S:Store}{x y:Expr}{pos:Pos}
theorem Wf:∀ {l:List D}{d:D}{j:Nat},idxD l d=some j->j < l.length/\eqP (l.getD j .non) d=true/\∀ m,m < j->eqP (l.getD m .non) d=false
 | [],_,_,h=>by cases h
 | a::l,d,j,h=>by
  have h:(if eqP a d=true then some 0 else (idxD l d).map (·+1))=some j:=h
  by_cases ha:eqP a d=true
  ·rw [if_pos ha] at h
   cases h
   exact ⟨by simp,ha,fun m hm=>by lia⟩
  ·rw [if_neg ha] at h
   cases e:idxD l d with
   | none=>rw [e] at h;cases h
   | some i=>
    rw [e] at h
    cases h
    obtain ⟨h1,h2,h3⟩:=Wf e
    refine ⟨by simpa using h1,by simpa using h2,fun m hm=>?_⟩
    have hm:m < i+1:=hm
    cases m with
    | zero=>simpa using ha
    | succ m=>simpa using h3 m (by lia)
theorem Uz {n:Nat}:∀ {l:List D}{i:Nat}{d:D},okPs n l=true->l[i]?=some d->okP n d=true
 | [],_,_,_,h=>by simp at h
 | a::l,i,d,hk,h=>by
  have hk:(okP n a&&okPs n l)=true:=hk
  rw [ε] at hk
  cases i with
  | zero=>simp at h;subst h;exact hk.1
  | succ i=>exact Uz hk.2 (by simpa using h)
def rIxOf (Γ:Gm) (ds:List D) (d:D) (j:Nat):V->List V->Hp->VK->Prop:=fun x xs H Q=>∃ g v,Same g.R H/\Rdb Γ H g (.lst ds) x/\xs=[v]/\Has Γ g d v/\Q (.int j) H
theorem Qo (hK:X.K=Γ.K) (hu:X.A.units+61 < aq) {ds:List D}{d:D}{j:Nat}(k1:okPs 59 ds=true) (k2:okP 59 d=true) (h:idxD ds d=some j):MtR X "list.index" (rIxOf Γ ds d j):=by
 rintro pj s σ H x xs v us Q I rx rv ⟨g,y,sm,⟨a,vs,rfl,hH,hh⟩,rfl,hy,q⟩
 cases rx
 obtain ⟨u,rfl,ru⟩:=rv.one
 obtain ⟨z,its,n,r,hl,e⟩:=I.lstM hH
 obtain ⟨i1,i2,i3⟩:=Wf h
 have hs:its.length=ds.length:=by rw [<- hl,hh.len]
 have hsz:j < its.toArray.size:=by rw [θ,hs];exact i1
 have hz:its.length<=sizeLine:=by rw [<- hl];exact z
 rw [bu] at hz
 refine lB F.slot_list_index ⟨_,e,rfl⟩ F.entry_list_index (F.args_list_index_2 _ _)
  (Qx (us:=its.toArray) (e:=fun m=>eqP (ds.getD m .non) d) hsz (by rw [θ] at hsz;omega) i2 i3) ⟨e,fun m hm=>?_,?_⟩
 ·rw [θ] at hm
  have hm':m < ds.length:=by omega
  have hd:ds[m]?=some (ds.getD m .non):=by rw [ϵ,ξ hm'];rfl
  obtain ⟨w,hw,hw2⟩:=hh.get hd
  obtain ⟨u',hu',ru'⟩:=r.get hw
  have e1:its.toArray[m]'(by rw [θ];exact hm)=u':=by
   rw [List.getElem_toArray]
   exact Ϛ (by rw [<- ξ,hu'])
  rw [e1]
  exact kW I hK sm 59 _ _ w y u' u _ (by rw [units_in1];have:=hu;omega) (Uz k1 hd) k2 hw2 hy ru' ru
 ·exact ⟨.int j,H,I.tok _,⟨_,rfl⟩,q⟩
def rGet1:V->List V->Hp->VK->Prop:=fun x xs H Q=>∃ a y v,x=.ref a/\xs=[y]/\DGet H a y v/\Q (v.getD .non) H
def rGet2:V->List V->Hp->VK->Prop:=fun x xs H Q=>∃ a y z v,x=.ref a/\xs=[y,z]/\DGet H a y v/\Q (v.getD z) H
theorem zaZ {g:G}:∀ {l:List D}{ns:List Str}{xs:List V},strsD l=some ns->Hass Γ g l xs->xs=ns.map V.str
 | [],ns,xs,h,hh=>by
  cases (show some []=some ns from h)
  exact hh
 | d::l,ns,xs,h,⟨v,r,e,hv,hr⟩=>by
  subst e
  cases d with
  | str i=>
   simp only [strsD,Ε] at h
   obtain ⟨ms,e1,e2⟩:=h
   subst e2
   rw [show v=V.str i from hv,zaZ e1 hr]
   rfl
  | _=>cases h
def rJoin (K:W.Frag):V->List V->Hp->VK->Prop:=fun x xs H Q=>∃ z a ys,x=.str z/\xs=[.ref a]/\(SqL K H a (ys.map V.str)\/SqT K H a (ys.map V.str))/\(ys.map (·.length)).sum+ys.length*z.length<=16777216/\Q (.str (PySem.Txt.join z ys)) H
theorem QC {g:G}:∀ (l:List Str),Hass Γ g (l.map D.str) (l.map V.str)
 | []=>rfl
 | x::l=>⟨.str x,_,rfl,rfl,QC l⟩
def zeI:V->List V->Hp->VK->Prop:=fun x xs H Q=>∃ z y,x=.str z/\xs=[.str y]/\(y.length==0)=false/\z.length<=sizeLine/\(fP z y).length<=sizeLine/\∀ p,H p=none->Q (.ref p) (upd H p (.lst ((fP z y).map V.str)))
theorem zeE {c k:D}{o:Option D}(h:dgetD c k=some o) (S:Store):deref S k=k:=by
 cases k <;> first | rfl | (cases c <;> cases h)
def RDm (Γ:Gm) (r:V->List V->Hp->VK->Prop) (d0:D) (ds:List D) (d:D) (fr:Bool):Prop:=
 ∀ S H g x xs Q,WOk Γ H g S->Rdb Γ H g d0 x->Hass Γ g ds xs->Fin Γ H g S d fr Q->r x xs H Q
noncomputable def mtT:MT->String
 | .index=>"list"
 | .get1=>"dict"
 | .get2=>"dict"
 | _=>"str"
noncomputable def mtI:MT->String
 | .index=>"list.index"
 | .get1=>"dict.get"
 | .get2=>"dict.get"
 | .join=>"str.join"
 | .split=>"str.split"
theorem Jf {d1:D}(h:mthK .get1 d1=true\/mthK .get2 d1=true) {H:Hp}{g:G}{v:V}(hr:Rdb Γ H g d1 v):tyV X.K "dict" v H:=by
 cases d1 with
 | dK ks ds=>
  obtain ⟨a,vs,rfl,h1,_⟩:=hr
  exact .inr (.inr (.inl ⟨rfl,.inl ⟨_,h1⟩⟩))
 | dT ks ds=>
  obtain ⟨a,vs,rfl,h1,_⟩:=hr
  exact .inr (.inr (.inl ⟨rfl,.inr ⟨_,h1⟩⟩))
 | _=>rcases h with h | h <;> cases h
theorem zdP {m:MT}{d0:D}{ds:List D}{d:D}{fr:Bool}(hK:X.K=Γ.K) (hu:X.A.units+61 < aq) (h:mthD m d0 ds=some (d,fr)):∃ r,MtR X (mtI m) r/\RDm Γ r d0 ds d fr:=by
 have hu1:X.A.units+1 < aq:=by lia
 cases m with
 | index=>
  cases d0 with
  | lst l=>
   match ds,h with
   | [],h=>cases h
   | _::_::_,h=>cases h
   | [x],h=>
    have h:(if (okPs 59 l&&okP 59 x)=true then (idxD l x).map fun (i:Nat)=>(D.int (i:Int),false) else none)=some (d,fr):=h
    by_cases hk:(okPs 59 l&&okP 59 x)=true
    ·rw [if_pos hk] at h
     rw [ε] at hk
     cases e:idxD l x with
     | none=>rw [e] at h;cases h
     | some j=>
      rw [e] at h
      cases h
      refine ⟨_,Qo hK hu hk.1 hk.2 e,fun S H g y ys Q w h1 h2 q=>?_⟩
      ·obtain ⟨u,rfl,h3⟩:=h2.one
       exact ⟨g,u,w.rh,h1,rfl,h3,zg w q rfl⟩
    ·rw [if_neg hk] at h
     cases h
  | _=>cases h
 | get1=>cases d0 <;> (rcases ds with _ | ⟨_,_ | ⟨_,_ | ⟨_,_⟩⟩⟩ <;> cases h)
 | get2=>cases d0 <;> (rcases ds with _ | ⟨_,_ | ⟨_,_ | ⟨_,_⟩⟩⟩ <;> cases h)
 | join=>cases d0 <;> (rcases ds with _ | ⟨_,_ | ⟨_,_ | ⟨_,_⟩⟩⟩ <;> cases h)
 | split=>cases d0 <;> (rcases ds with _ | ⟨_,_ | ⟨_,_ | ⟨_,_⟩⟩⟩ <;> cases h)
theorem uI {env:Env}{name:Str}{s0:Sem δ}(h:xR x=true):attributeBase x name env s0=s0:=by
 cases x with
 | Call f args kws p=>
  cases args with
  | nil=>cases h
  | cons a l=>cases f <;> rfl
 | _=>rfl
theorem zb8 {xs:List Expr}{env:Env}{cpos:Pos}(hs:∀ z∈xs,notStar z=true) (hl:xs.length<=9):((fc cpos (Ϩ xs env)).all (fun x=>!x.1)&&(b8 cpos (aK [] env)).all (fun x=>x.1.isSome)
  &&decide (xs.length+([]:List bh).length+(if ([]:List bh).isEmpty then 0 else 1) < 30))=true:=by
 have h1:(fc cpos (Ϩ xs env)).all (fun x=>!x.1)=true:=by
  have:=yV (pos:=cpos) (env:=env) hs
  rw [List.all_eq_not_any_not]
  simpa using this
 rw [h1,decide_eq_true (show xs.length+([]:List bh).length+(if ([]:List bh).isEmpty then 0 else 1) < 30 from (by simp;lia))]
 rfl
theorem zbX (m:MT):PlainAttrs (mtT m)/\PySem.Slot (mtT m) (mtS m) (mtI m)/\typeOf (.builtin (mtI m))=pure (.type "method_descriptor"):=by
 cases m with
 | index=>exact ⟨fL,PySem.F.slot_list_index,PySem.F.type_list_index⟩
 | get1=>exact ⟨lL,mF,mD⟩
 | get2=>exact ⟨lL,mF,mD⟩
 | join=>exact ⟨lW,PySem.F.slot_str_join,PySem.F.type_str_join⟩
 | split=>exact ⟨lW,PySem.F.slot_str_split,PySem.F.type_str_split⟩
theorem mt_kd {m:MT}{d1:D}(h:mthK m d1=true) {H:Hp}{g:G}{v:V}(hr:Rdb Γ H g d1 v):tyV X.K (mtT m) v H:=by
 cases m with
 | index=>
  cases d1 <;> first | cases h | skip
  obtain ⟨a,vs,rfl,h1,_⟩:=hr
  exact .inl ⟨rfl,vs,SqL.of h1⟩
 | get1=>exact Jf (.inl h) hr
 | get2=>exact Jf (.inr h) hr
 | join=>
  cases d1 with
  | str x=>cases (show v=.str x from hr);exact rfl
  | _=>cases h
 | split=>
  cases d1 with
  | str x=>cases (show v=.str x from hr);exact rfl
  | _=>cases h
def mtAny (X:Cx) (id:String):V->List V->Hp->VK->Prop:=fun x xs H Q=>∃ r,MtR X id r/\r x xs H Q
theorem zdR {id:String}:MtR X id (mtAny X id):=fun pj s σ H x xs v us Q I rx rv ⟨_,h,q⟩=>h pj s σ H x xs v us Q I rx rv q
theorem s_mth {B:Tb}{cf:Cf}{k:Nat}{c:Cc}{a:E}{es:List E}{m:MT}{ys:List Expr}{apos cpos:Pos}(ok:XOk Γ B (spN Γ cf) k X c) (ha:PE X x (TX Γ cf a)) (hs:∀ z∈y::ys,notStar z=true) (hb:PA X (y::ys) (TXs Γ cf es)) (hl:(apos.endLine==cpos.line)=true) (hp:xR x=true) (h9:(y::ys).length<=9):
  PE X (.Call (.Attribute x (mtS m) apos) (y::ys) [] cpos) (TX Γ cf (.mth m a es)):=by
 obtain ⟨m1,m2,m3⟩:=zbX m
 refine (pe_bm m1 m2 m3 zdR ha hb (uI hp) (zb8 hs h9) hl (zp (hs y ς) ys X.env) (yV fun z hz=>hs z (ι _ hz))).imp fun σ H Q h0=>goX h0 fun ρ S V g Hz hw w env kk=>⟨ρ,S,_,g,Hz,hw,w,env,fun x v H1 g1 S1 st w1 vx h1=>?_⟩
 obtain ⟨hk,h1⟩:=xK h1
 refine ⟨mt_kd hk (vx.rdb w1),ρ,S1,_,g1,Hz,h1,w1,zm env st,fun ds vs H2 g2 S2 st2 w2 hv h2=>?_⟩
 obtain ⟨⟨d,fr⟩,eb,q⟩:=zQ h2
 obtain ⟨r,r1,r2⟩:=zdP (X:=X) ok.hK ok.u61 eb
 exact ⟨r,r1,r2 S2 H2 g2 v vs Q w2 ((vx.step st2).rdb w2) hv fun u H3 g3 st3 _ w3 vo=>kk _ u H3 g3 S2 ((st.trans st2).trans st3) w3 ((VN.of vo).back (st.trans st2)) q⟩
end
section
variable {prog:Ω}{w:ϥ}{A:ϡ}{E:VSP}{s:ο}
theorem Uu:cJ "dict_itemiterator"=true:=by decide
theorem UL {it d:Addr}{i ep:Nat}{es:Array aV}{od:Obj}{ok ov:δ}{Q:Option δ->ο->Prop}(hit:eE s.heap it d i es.size ep ok ov) (hod:s.heap.get? d=some od) (hdd:od.data=.dict es ep) (hlt:i < es.size)
  (hQ:∀ h',nH h' it d (i+1) es.size ep es[i].key es[i].val s.heap.objs.size->h'.get? s.heap.objs.size=some { cls:=.type "tuple",data:=.seq #[es[i].key,es[i].val] }->(∀ b o,b≠it->s.heap.get? b=some o->h'.get? b=some o) ->
   Q (some (.ref s.heap.objs.size)) { s with heap:=h' }):Λ (Χ prog w) A (gr (.ref it)) Q E s:=by
 obtain ⟨hp,g,dr,tk,os⟩:=s
 have hT:fD ⟨hp,g,dr,tk,os⟩ (.ref it) "dict_itemiterator":=⟨_,hit,rfl⟩
 have hil:it < hp.objs.size:=χ hit
 unfold gr
 refine γ (cX (Ϡ (name:=eV "__next__") hT F.slot_dict_itemiterator_next (Ϙ F.slot_dict_itemiterator_next hT F.entry_dict_itemiterator_next ?_ (F.args_dict_itemiterator_next_1 _))))
 refine γ (η (γ (γ ?_)))
 first | refine γ (bK hT (η (γ (dJ hit rfl ?_)))) | refine γ (cP hT (η (γ (dJ hit rfl ?_))))
 simp only [Uu,if_true]
 show Λ _ _ (if (Δ d==Κ)=true then _ else _) _ _ _
 rw [if_neg (by exact Ο)]
 refine γ (η (γ (cA hod hdd ?_)))
 rw [if_neg (by simp)]
 refine γ (η (γ (di hod hdd ?_)))
 rw [if_neg (by simp)]
 refine η ?_
 simp only [show ¬ ((i:Int) < 0) from by omega,if_false,fV,aF hlt]
 refine γ ?_
 first | refine γ (bK hT (η (γ (dI hT ?_)))) | refine γ (cP hT (η (γ (dI hT ?_))))
 show Λ _ _ (setField (.ref it) 3 (bz ((i:Int)+1)) >>= _) _ _ ⟨hp,g,dr,tk,os⟩
 refine γ (ϸ hit (by simp) fun h1 e1 (s1:ϛ it hp h1)=>?_)
 have f1:eE h1 it d (i+1) es.size ep ok ov:=by
  have z:((i+1:Nat):Int)=(i:Int)+1:=by omega
  unfold eE
  rw [z]
  simpa [bz] using e1
 have hT1:fD ⟨h1,g,dr,tk,os⟩ (.ref it) "dict_itemiterator":=⟨_,f1,rfl⟩
 refine γ (bj (γ (dI hT1 (γ (dI hT1 ?_)))))
 show Λ _ _ (fW (.ref it) 6 es[i].key es[i].val) _ _ ⟨h1,g,dr,tk,os⟩
 unfold fW
 refine γ (mY ?_)
 have f2:eE (h1.push { cls:=.type "tuple",data:=.seq #[es[i].key,es[i].val] }) it d (i+1) es.size ep ok ov:=ζ _ f1
 have z1:h1.objs.size=hp.objs.size:=s1.1
 have t2:(h1.push { cls:=.type "tuple",data:=.seq #[es[i].key,es[i].val] }).get? hp.objs.size=some { cls:=.type "tuple",data:=.seq #[es[i].key,es[i].val] }:=by
  rw [<- z1]
  exact ω _ rfl
 have k2:∀ b o,b≠it->hp.get? b=some o->(h1.push { cls:=.type "tuple",data:=.seq #[es[i].key,es[i].val] }).get? b=some o:=fun b o hb e=>ζ _ (s1.extBut b o hb e)
 generalize h1.push { cls:=.type "tuple",data:=.seq #[es[i].key,es[i].val] }=h2 at f2 t2 k2
 show Λ _ _ (fB (.ref it) >>= _) _ _ ⟨h2,g,dr,tk,os⟩
 rw [z1]
 refine γ ?_
 unfold fB
 refine γ (Ϲ f2 rfl (x:=.none) rfl (η ?_))
 simp only [if_true]
 refine γ (Ϲ f2 rfl (x:=ok) rfl (γ (Ϲ f2 rfl (x:=ov) rfl (γ (ϸ f2 (by simp) fun h3 (f3:eE h3 it d (i+1) es.size ep es[i].key ov) (s3:ϛ it h2 h3)=>?_)))))
 refine γ (ϸ f3 (by simp) fun h4 (f4:eE h4 it d (i+1) es.size ep es[i].key es[i].val) (s4:ϛ it h3 h4)=>?_)
 refine γ (ϸ f4 (by simp) fun h5 (f5:nH h5 it d (i+1) es.size ep es[i].key es[i].val hp.objs.size) (s5:ϛ it h4 h5)=>?_)
 refine γ (ϸ f5 (by simp) fun h6 (f6:nH h6 it d (i+1) es.size ep es[i].key es[i].val hp.objs.size) (s6:ϛ it h5 h6)=>?_)
 have all:∀ b o,b≠it->h2.get? b=some o->h6.get? b=some o:=fun b o hb e=>s6.extBut b o hb (s5.extBut b o hb (s4.extBut b o hb (s3.extBut b o hb e)))
 exact γ (wpAny_letGo (η (η ⟨_,rfl,η (hQ h6 f6 (all _ _ (cB hil) t2) fun b o hb e=>all b o hb (k2 b o hb e))⟩)))
theorem JH {it d:Addr}{i ep:Nat}{es:Array aV}{od:Obj}{ok ov:δ}{Q:Option δ->ο->Prop}(hh:A.handled=none) (hit:eE s.heap it d i es.size ep ok ov) (hod:s.heap.get? d=some od) (hdd:od.data=.dict es ep) (hge:es.size<=i)
  (hQ:∀ h',lD it s.heap h'->Q none { s with heap:=h' }):Λ (Χ prog w) A (gr (.ref it)) Q E s:=by
 have hT:s.TypeIs (.ref it) "dict_itemiterator":=⟨_,hit,rfl⟩
 unfold gr
 refine γ (cX (Ϡ (name:=eV "__next__") hT F.slot_dict_itemiterator_next (Ϙ F.slot_dict_itemiterator_next hT F.entry_dict_itemiterator_next ?_ (F.args_dict_itemiterator_next_1 _))))
 refine γ (η (γ (γ ?_)))
 first | refine γ (bK hT (η (γ (dJ hit rfl ?_)))) | refine γ (cP hT (η (γ (dJ hit rfl ?_))))
 simp only [Uu,if_true]
 show Λ _ _ (if (Δ d==Κ)=true then _ else _) _ _ s
 rw [if_neg (by exact Ο)]
 refine γ (η (γ (cA hod hdd ?_)))
 rw [if_neg (by simp)]
 refine γ (η (γ (di hod hdd ?_)))
 rw [if_neg (by simp)]
 refine η ?_
 simp only [show ¬ ((i:Int) < 0) from by omega,if_false,fV,gk hge]
 refine γ ?_
 first | refine γ (bK hT (η ?_)) | refine γ (cP hT (η ?_))
 show Λ _ _ (setField (.ref it) 2 .none >>= _) _ _ s
 refine γ (fY hit rfl (by simp) ?_)
 show Λ _ _ (newExc (.type "StopIteration") [] >>= _) _ _ _
 refine γ ?_
 simp only [newExc,newTuple]
 refine γ (ϖ (γ (m:=iT _ _) (eQ (a:=Κ) (by first | rfl | (simp only [iT];rfl)) (ϖ ?_ (by size_fits)))) (by size_fits))
 simp only [raiseNew]
 refine γ (nD ?_)
 rw [show A.in1.handled=none from hh]
 refine γ (η (wpAny_throw ?_))
 have hx:=fun h' e=>hQ h' e
 refine γ (lU (T:="StopIteration") (b:=true) ⟨_,ω _ rfl,rfl⟩ m6 (η (hx _ ?_)))
 exact ((bT ..).extBut.push _).push _
theorem Vh {v d:Addr}{ep:Nat}{es:Array aV}{od:Obj}{Q:VSP}(hv:s.heap.IsItemsView v d) (hod:s.heap.get? d=some od) (hdd:od.data=.dict es ep)
  (hQ:Q (.ref s.heap.objs.size) { s with heap:=s.heap.push { cls:=.type "dict_itemiterator",data:=.fields #[.none,.bool false,.ref d,.int 0 0,.int es.size 0,.int ep 0,.none,.none] } }):Λ (Χ prog w) A (pyIter (.ref v)) Q E s:=by
 obtain ⟨ov,hov,hcv,hdv⟩:=id hv
 refine lG hv.typeIs F.slot_dict_items_iter (Ϙ F.slot_dict_items_iter hv.typeIs F.entry_dict_items_iter ?_ (F.args_dict_items_iter_1 _))
 unfold Φ.«dict_items.__iter__»
 refine γ (η (γ ?_))
 unfold Φ.Dict_items.dictOf
 refine γ (Ϲ hov hdv (x:=.ref d) rfl (η (γ ?_)))
 unfold Φ.Dict_items.newIterator
 refine γ (cA hod hdd (γ (di hod hdd ?_)))
 simp only [Uu,if_true]
 refine ϖ (η ⟨_,rfl,"dict_itemiterator",_,⟨_,ω _ rfl,rfl⟩,F.slot_dict_itemiterator_next.lookup,?_⟩)
  (by simp only [sizeOk,fC,θ,Α,Ϟ,dY,bu];omega)
 simpa [bz,fC] using hQ
theorem WP {d:Addr}{Q:VSP}(hT:s.TypeIs (.ref d) "dict") (hd:(d==bx)=false) (h:Q (.ref s.heap.objs.size) { s with heap:=s.heap.push { cls:=.type "dict_items",data:=.fields #[.ref d] } }):
  Λ (Χ prog w) A (PySem.call (.builtin "dict.items") [.ref d]) Q E s:=by
 refine Ϙ F.slot_dict_items hT F.entry_dict_items ?_ (F.args_dict_items_1 _)
 unfold Φ.«dict.items»
 refine γ ?_
 unfold Φ.Dict.noArgs
 refine γ (wpAny_notOrdered_dict hT ?_)
 show Λ _ _ (pure d) _ _ s
 refine η ?_
 show Λ _ _ (cO d >>= _) _ _ s
 unfold cO
 rw [if_neg (by rw [hd];exact Ο)]
 exact γ (η (γ (ϖ (η ⟨_,rfl,h⟩))))
end
theorem QH:entryFor table "dict_itemiterator.__iter__"=some Φ.«dict_keyiterator.__iter__»:=entryFor_alias (id':="dict_keyiterator.__iter__") (by kernel_rfl) rfl (by decide +kernel) (by kernel_rfl)
noncomputable def Iti (a:Addr) (o:Obj) (es:Array aV) (kvs:List (List Key×V)):It:=
 ⟨fun i H=>H a=some (.frz o (.dT kvs))/\i < kvs.length,fun i H x H'=>∃ p kb k v,H p=none/\x=.ref p/\kvs[i]?=some (k,v)/\(es[i]?).map (·.key)=some (.ref kb)/\H kb=some (.tup (k.map kV))/\H'=upd H p (.tup [.ref kb,v]),fun i H=>H a=some (.frz o (.dT kvs))/\kvs.length<=i⟩
theorem ww {P:Ω}{w:ϥ}{K:W.Frag}{elts:List Expr}{kk:Nat}{pos:Pos}{a it:Addr}{o:Obj}{es:Array aV}{ep:Nat}{kvs:List (List Key×V)}(hdd:o.data=.dict es ep) (hsz:es.size=kvs.length):
  Turn P w K (.Tuple elts kk pos) (Iti a o es kvs) [it] it (fun i h=>∃ ok ov,eE h it a i es.size ep ok ov) where
 mem:=by simp
 obj:=fun i h st b hb=>by
  obtain ⟨ok,ov,he⟩:=st
  have e:b=it:=by simpa using hb
  subst e
  exact ⟨_,he,fun v z=>by
   have z':Ϯ _=Data.cell v:=z
   cases z'⟩
 keep:=fun i h h' st k=>by
  obtain ⟨ok,ov,he⟩:=st
  exact ⟨ok,ov,k it (by simp) _ he⟩
 item:=by
  intro X hP hw hK hc i pj s σ H E I hf st hg
  subst hP hw hK
  obtain ⟨ok,ov,he⟩:=st
  obtain ⟨hH,hi⟩:=hg
  have f1:=hf it (by simp)
  have hT:H s.heap.objs.size=none:=I.hok.fresh (ν _)
  obtain ⟨ho,_,_,xs,rel,o',es',ep',g1,g2,g3,g4,_⟩:=(show ObjOk X.prog X.w H s.heap a (.frz o (.dT kvs)) from I.hok a _ hH)
  rw [ho] at g1
  cases g1
  rw [hdd] at g3
  cases g3
  have hlt:i < es.size:=by rw [hsz];exact hi
  obtain ⟨q,hq,r1,r2,r3⟩:=paired_get rel (ξ hi)
  have hes:es[i]?=some (entryOfKey (gJ (zG X.prog X.w)) q):=by
   rw [entry_at g4,hq]
   rfl
  have hes':es[i]=entryOfKey (gJ (zG X.prog X.w)) q:=by
   rw [aF hlt] at hes
   exact Ϛ hes
  refine UL he ho hdd hlt fun h' hio hTp hk=>⟨_,rfl,?_⟩
  refine wpAny_letOwnedTupleGo_items hio fun h2 he2 hs2=>?_
  have kept:∀ b u,b ∉ [it]->s.heap.get? b=some u->h2.get? b=some u:=fun b u hb q=>(hs2.2 b fun z=>hb (by simp [z])).trans (hk b u (fun z=>hb (by simp [z])) q)
  have nT:∀ b u,s.heap.get? b=some u->b≠s.heap.objs.size:=fun b u q=>ϋ (χ q)
  have htr:∀ b u,H b=some u->b ∉ [it]:=fun b u q hb=>by
   have hb':b=it:=by simpa using hb
   subst hb'
   rw [f1.1] at q;cases q
  have eT:h2.get? s.heap.objs.size=some { cls:=.type "tuple",data:=.seq #[es[i].key,es[i].val] }:=(hs2.2 _ (cB (χ he))).trans hTp
  have rk:RelV (.ref q.2.1) es[i].key:=by rw [hes'];exact rfl
  have rv:RelV kvs[i].2 es[i].val:=by rw [hes'];exact r3
  have hok:HOk X.prog X.w (upd H s.heap.objs.size (.tup [.ref q.2.1,kvs[i].2])) h2:=fun b u z=>by
   by_cases hb:b=s.heap.objs.size
   ·subst hb
    rw [zf] at z
    cases z
    exact ⟨by show 2<=sizeLine;decide,[es[i].key,es[i].val],.cons rk (.cons rv .nil),⟨_,eT,rfl,_,rfl⟩⟩
   ·rw [zb hb] at z
    refine (I.hok b u z).stay (fun c v hcv r=>kept c v ?_ r) (fun c r=>by rw [zb (zc r hT)];exact r) fun c ys r=>by rw [zb (zc r hT)];exact r
    rcases hcv with rfl | hcv
    ·exact htr _ _ z
    ·exact htr _ _ hcv
  refine ⟨.ref s.heap.objs.size,upd H s.heap.objs.size (.tup [.ref q.2.1,kvs[i].2]),?_,rfl,⟨_,q.2.1,kvs[i].1,kvs[i].2,hT,rfl,ξ hi,by rw [hes];rfl,r2,rfl⟩,⟨_,_,he2⟩,fun b hb=>?_⟩
  ·refine Inv.step (s:=s) (H:=H) (h':=h2) (g':=s.gens) (d':=s.drawn) (t':=s.toks) (ch:=[it]) I (fun b hb=>?_) (fun b u _ _ hb q _=>kept b u hb q) (fun b u _ _ hb q _=>⟨u.slots,kept b u hb q⟩) (fun b u _ q n=>by rw [zb (nT b u q)];exact n) (fun b u hb q=>⟨u,kept b u hb q⟩)
    (fun b ys q=>by rw [zb (zc q hT)];exact q) (fun b u v q=>by rw [zb (zc q hT)];exact q) (fun b ps q=>⟨#[],by rw [zb (zc q hT),q];simp⟩) (fun m hm=>?_) hok I.bare
   ·have hb':b=it:=by simpa using hb
    subst hb'
    exact ⟨f1.2.2.2.1,f1.2.1,f1.2.2.2.2.1,f1.2.2.2.2.2⟩
   ·obtain ⟨u,es1,ep1,q,r⟩:=hm
    exact ⟨u,es1,ep1,kept _ u (fun hb=>by
     have hb':X.env.locals=it:=by simpa using hb
     exact f1.2.1 hb'.symm) q,r⟩
  ·have hb':b=it:=by simpa using hb
   subst hb'
   rw [zb (nT _ _ he)];exact f1.1
 done:=by
  intro X hP hw hK hc i pj s σ H E I hf st hg
  subst hP hw hK
  obtain ⟨ok,ov,he⟩:=st
  obtain ⟨hH,hi⟩:=hg
  obtain ⟨f0,f1,f2,f3,f4,f5⟩:=hf it (by simp)
  obtain ⟨ho,_⟩:=(show ObjOk X.prog X.w H s.heap a (.frz o (.dT kvs)) from I.hok a _ hH)
  exact JH (I.ok.hd hc) he ho hdd (by rw [hsz];exact hi) fun h' eb=>⟨rfl,I.turned (t':=s.toks) (fun b u hb q=>eb b u hb q) f0 f1 f3 f4 f5⟩
 self:=fun A i s Q E st h=>by
  obtain ⟨ok,ov,he⟩:=st
  have hT:s.TypeIs (.ref it) "dict_itemiterator":=⟨_,he,rfl⟩
  refine lG hT F.slot_dict_itemiterator_iter (Ϙ F.slot_dict_itemiterator_iter hT QH ?_ (F.args_dict_itemiterator_iter_1 _))
  show Λ _ _ (ret (.ref it)) _ _ s
  exact η ⟨_,rfl,"dict_itemiterator",_,hT,F.slot_dict_itemiterator_next.lookup,h⟩
where
 paired_get:∀ {α β:Type}{R:α->β->Prop}{l:List α}{m:List β}{i:Nat}{x:α},cR R l m->l[i]?=some x->∃ y,m[i]?=some y/\R x y
  | _,_,_,_,_,0,_,.cons h _,e=>by
   simp at e
   subst e
   exact ⟨_,rfl,h⟩
  | _,_,_,_,_,i+1,_,.cons _ t,e=>by
   obtain ⟨y,h1,h2⟩:=ww.paired_get (i:=i) t (by simpa using e)
   exact ⟨y,by simpa using h1,h2⟩
  | _,_,_,_,_,_,_,.nil,e=>by simp at e
section
variable {X:Cx}
theorem K5 {x0:Expr}{to:TE}{kk:Nat}{ap cp tp:Pos}{elts:List Expr}(hx:PE X x0 to) (hp:xR x0=true) (hl:(ap.endLine==cp.line)=true):
  PI X (.Tuple elts kk tp) (.Call (.Attribute x0 "items" ap) [] [] cp) (fun σ H R=>to σ H fun v H=>∃ a kvs,v=.ref a/\H a=some (.dT kvs) /\
   ∀ (o:Obj) (es:Array aV),(∀ (j:Nat) k v,kvs[j]?=some (k,v)->∃ kb,(es[j]?).map (·.key)=some (.ref kb)/\H kb=some (.tup (k.map kV)))->R (Iti a o es kvs) (upd H a (.frz o (.dT kvs)))):=by
 intro pj s σ H R I q
 refine wpAny_Call_method0_late (uI hp) hl (thn (hx pj s σ H _ I q) fun v s1 ⟨x,H1,I1,r1,a,kvs,e1,hH,q⟩=>?_)
 subst e1
 cases r1
 have hob1:=(show ObjOk X.prog X.w H1 s1.heap a (.dT kvs) from I1.hok a _ hH)
 obtain ⟨z1,z2,xs,rel,o,es,ep,g1,g2,g3,g4,g5⟩:=id hob1
 have hsz:es.size=kvs.length:=by
  have e1:=congrArg dR g4
  rw [Ζ,<- ir rel] at e1
  simpa using e1
 have hT:s1.TypeIs (.ref a) "dict":=⟨o,g1,g2.1⟩
 refine ⟨"dict","dict.items",F.plainAttrs_dict,F.slot_dict_items,F.type_dict_items,hT,fun b e=>by cases e;exact ⟨o,g1,g2.2.1⟩,mU rfl (PySem.evalArgs_none (WP hT z2 ?_))⟩
 have I2:Inv X pj σ H1 { s1 with heap:=s1.heap.push { cls:=.type "dict_items",data:=.fields #[.ref a] } }:=I1.kept (t':=s1.toks) fun b u e=>ζ _ e
 refine Vh (s:={ s1 with heap:=s1.heap.push { cls:=.type "dict_items",data:=.fields #[.ref a] } }) ⟨_,ω _ rfl,rfl,rfl⟩ (ζ _ g1) g3 ?_
 generalize hs2:({ s1 with heap:=s1.heap.push { cls:=.type "dict_items",data:=.fields #[.ref a] } }:ο)=s2 at I2
 have g1':s2.heap.get? a=some o:=by
  rw [<- hs2]
  exact ζ _ g1
 have hs2':s2.heap=s1.heap.push { cls:=.type "dict_items",data:=.fields #[.ref a] }:=by rw [<- hs2]
 have I3:Inv X pj σ H1 { s2 with heap:=s2.heap.push { cls:=.type "dict_itemiterator",data:=.fields #[.none,.bool false,.ref a,.int 0 0,.int es.size 0,.int ep 0,.none,.none] } }:=I2.kept (t':=s2.toks) fun b u e=>ζ _ e
 have hob3:=(show ObjOk X.prog X.w H1 _ a (.dT kvs) from I3.hok a _ hH)
 have I4:=qb (a:=a) (h':=s2.heap.push { cls:=.type "dict_itemiterator",data:=.fields #[.none,.bool false,.ref a,.int 0 0,.int es.size 0,.int ep 0,.none,.none] }) (t':=s2.toks) (ob:=.frz o (.dT kvs)) I3 (by rw [hH];exact ϳ) (lY a _) ⟨o,ζ _ g1'⟩
  ⟨ζ _ g1',hob3.stay (fun b u _ e=>e) (fun b e=>by
   have hb:b≠a:=by rintro rfl;rw [hH] at e;cases e
   rw [zb hb];exact e) fun b ys e=>by
   have hb:b≠a:=by rintro rfl;rw [hH] at e;cases e
   rw [zb hb];exact e⟩
 have hH2:H1 s2.heap.objs.size=none:=I2.hok.fresh (ν _)
 have hfr:upd H1 a (.frz o (.dT kvs)) s2.heap.objs.size=none:=by
  have hb:s2.heap.objs.size≠a:=cB (χ g1')
  rw [zb hb];exact hH2
 subst hs2
 refine ⟨_,[_],_,_,upd H1 a (.frz o (.dT kvs)),rfl,I4,ww g3 hsz,⟨.none,.none,ω _ rfl⟩,fun b hb=>?_,q o es fun j k v hj=>?_⟩
 ·have e:b=_:=Θ.mp hb
  subst e
  exact I2.fpOk (ν _) hfr
 ·obtain ⟨y,hy,r1,r2,r3⟩:=ww.paired_get rel hj
  refine ⟨y.2.1,?_,r2⟩
  rw [entry_at g4,hy]
  rfl
end
section
variable {X:Cx}{Γ:Gm}{S:Store}{cf:Cf}{a:E}{elts:List Expr}{kk:Nat}{ap cp tp:Pos}
theorem XS {l:List Addr}{i j:Nat}{b:Addr}(nd:l.Nodup) (h1:l[i]?=some b) (h2:l[j]?=some b):i=j:=by
 have hi:=(Η.mp h1).1
 have e:l[i]?=l[j]?:=by rw [h1,h2]
 exact (lg hi nd).mp e
theorem kI {g:G}:∀ k:List Key,Hass Γ g (k.map keyOf) (k.map kV)
 | []=>rfl
 | .inl i::k=>⟨_,_,rfl,rfl,kI k⟩
 | .inr i::k=>⟨_,_,rfl,rfl,kI k⟩
theorem Ks {H:Hp}{g:G}{a:Addr}{vs:List V}(w:WOk Γ H g S) (ha:H a=some (.tup vs)):∃ g',Step H g H g'/\WOk Γ H g' S/\g'.R a=some (.tup vs):=by
 cases e:g.R a with
 | some o=>
  have:=w.rh a o e
  rw [ha] at this
  cases this
  exact ⟨g,Step.refl H g,w,e⟩
 | none=>
  have na:a ∉ g.α:=fun m=>by
   obtain ⟨k,hk,e'⟩:=cz.mp m
   have hk':k < S.length:=by rw [<- w.len];exact hk
   obtain ⟨o,ho,hm⟩:=(w.cell k _ a (ξ hk') (by rw [ξ hk,e'])).isMut
   rw [ha] at ho
   cases ho
   exact hm.elim
  refine ⟨g.put a (.tup vs),⟨Le.put e,fun _ _ h _=>h,fun _ o h=>⟨o,h⟩,fun _ h=>.inl h,fun b q=>?_⟩,w.put ha e na,zf⟩
  by_cases hb:b=a
  ·subst hb;exact .inr (.inr (.inr ⟨_,ha⟩))
  ·have q':upd g.R a (.tup vs) b≠none:=q
   rw [zb hb] at q'
   exact .inl q'
theorem Zm:∀ {ks:List (List Key)}{ds:List D}{vs:List V}{g:G}{i:Nat}{d:D},ks.length=ds.length->Hass Γ g ds vs->(yw ks ds)[i]?=some d->∃ k v d0,(ks.zip vs)[i]?=some (k,v)/\d=.tup [.tup (k.map keyOf),d0]/\Has Γ g d0 v
 | [],ds,vs,g,i,d,_,_,h=>by simp [yw] at h
 | k::ks,[],vs,g,i,d,hl,_,h=>by simp at hl
 | k::ks,x::ds,vs,g,0,d,hl,⟨v,r,e,h1,h2⟩,h=>by
  subst e
  have h:some (D.tup [.tup (k.map keyOf),x])=some d:=h
  cases h
  exact ⟨k,v,x,rfl,rfl,h1⟩
 | k::ks,x::ds,vs,g,i+1,d,hl,⟨v,r,e,h1,h2⟩,h=>by
  subst e
  obtain ⟨k',v',d0,q1,q2,q3⟩:=Zm (i:=i) (by simpa using hl) h2 (by simpa [yw] using h)
  exact ⟨k',v',d0,by simpa using q1,q2,q3⟩
theorem ul:∀ {ks:List (List Key)}{ds:List D},ks.length=ds.length->(yw ks ds).length=ks.length
 | [],[],_=>rfl
 | k::ks,d::ds,h=>by show (yw ks ds).length+1=_;rw [ul (by simpa using h)];rfl
 | [],_::_,h=>by simp at h
 | _::_,[],h=>by simp at h
theorem Qz {ad:Addr}{o:Obj}{es:Array aV}{ks:List (List Key)}{ds:List D}{vs:List V}{g:G}(hl:ks.length=ds.length) (hr:g.R ad=some (.frz o (.dT (ks.zip vs)))) (hh:Hass Γ g ds vs):ItOk Γ (Iti ad o es (ks.zip vs)) (yw ks ds) g where
 go:=fun i H g' le sr hi=>⟨sr _ _ (le.rr _ _ hr),by rw [ul hl] at hi;rw [cM,hh.len];omega⟩
 stop:=fun i H g' le sr hi=>⟨sr _ _ (le.rr _ _ hr),by rw [ul hl] at hi;rw [cM,hh.len];omega⟩
 yld:=fun i H g' S z H' d le w hd y=>by
  obtain ⟨p,kb,k,v,hp,rfl,e1,_,hkb,rfl⟩:=y
  obtain ⟨k',v',d0,q1,rfl,q3⟩:=Zm hl hh hd
  rw [e1] at q1
  cases q1
  obtain ⟨g1,s1,w1,r1⟩:=Ks w hkb
  have hr1:=w1.notR hp
  refine ⟨g1.put p (.tup [.ref kb,v]),s1.trans ((Step.of_same (ym hp) (Le.refl g1) (fun _ h=>.inl h) fun _ h=>.inl h).put hr1 hp),ym hp,(w1.laid hp).put zf hr1 (w1.notA hp),?_⟩
  have l2:=Le.put (o:=.tup [.ref kb,v]) hr1
  exact ⟨p,[.ref kb,v],rfl,zf,.ref kb,[v],rfl,⟨kb,_,rfl,l2.rr _ _ r1,kI k⟩,v,[],rfl,((q3.mono le).mono s1.le).mono l2,rfl⟩
theorem zba {x0:Expr}(h:PE X x0 (TX Γ cf a)) (hp:xR x0=true) (hl:(ap.endLine==cp.line)=true):PI X (.Tuple elts kk tp) (.Call (.Attribute x0 "items" ap) [] [] cp) (TXi Γ cf (.items a)):=
 PI.imp (K5 h hp hl) fun σ H Q h0=>goI h0 fun ρ S W g Hz hw w env k=>⟨ρ,S,_,g,Hz,hw,w,env,fun x v H1 g1 S1 st w1 vx h=>by
  obtain ⟨g2,st2,w2,hx,q⟩:=vx.keep st w1 h
  obtain ⟨n,en,q⟩:=isRr q
  obtain ⟨ks,ds,es,q⟩:=Jp q
  rw [en] at hx
  obtain ⟨ad,ha,rfl⟩:=hx
  obtain ⟨vs,ho,hlen,hv⟩:=w2.cell n _ ad es ha
  have hn:g2.R ad=none:=w2.off n _ ad es ha rfl
  refine ⟨ad,ks.zip vs,rfl,ho,fun o esr hk=>?_⟩
  have le:Le g2 (g2.put ad (.frz o (.dT (ks.zip vs)))):=Le.put hn
  have hr:(g2.put ad (.frz o (.dT (ks.zip vs)))).R ad=some (.frz o (.dT (ks.zip vs))):=zf
  refine k (yw ks ds) _ _ (g2.put ad (.frz o (.dT (ks.zip vs)))) (S1.set n (.ref n)) (st2.trans ⟨le,fun b u q1 q2=>?_,fun b u q1=>?_,fun b q1=>.inl q1,fun b q1=>?_⟩) ⟨fun b u q1=>?_,by rw [bB];exact w2.len,w2.nd,fun j c b q1 q2 q3=>?_,fun j c b q1 q2=>?_⟩ (Qz hlen hr (hv.mono le)) q
  ·rw [zb (by rintro rfl;exact q2 (Ϝ ha))];exact q1
  ·by_cases hb:b=ad
   ·subst hb;exact ⟨_,zf⟩
   ·exact ⟨u,by rw [zb hb];exact q1⟩
  ·by_cases hb:b=ad
   ·subst hb;exact .inr (.inr (.inl (Ϝ ha)))
   ·have q':upd g2.R ad (.frz o (.dT (ks.zip vs))) b≠none:=q1
    rw [zb hb] at q'
    exact .inl q'
  ·have q':upd g2.R ad (.frz o (.dT (ks.zip vs))) b=some u:=q1
   by_cases hb:b=ad
   ·subst hb
    rw [zf] at q'
    cases q'
    exact zf
   ·rw [zb hb] at q'
    rw [zb hb]
    exact w2.rh b u q'
  ·rcases zu q1 with ⟨rfl,_,z⟩ | ⟨hne,z⟩
   ·rw [z] at q3;cases q3
   ·show upd g2.R ad (.frz o (.dT (ks.zip vs))) b=none
    have hb:b≠ad:=by
     rintro rfl
     exact hne (XS w2.nd ha q2)
    rw [zb hb]
    exact w2.off j c b z q2 q3
  ·rcases zu q1 with ⟨rfl,_,z⟩ | ⟨hne,z⟩
   ·have q2:g2.α[n]?=some b:=q2
    rw [ha] at q2
    cases q2
    rw [z]
    exact ⟨_,hr,zf,ϳ⟩
   ·have hb:b≠ad:=by
     rintro rfl
     exact hne (XS w2.nd ha q2)
    exact (w2.cell j c b z q2).mono le fun _ z=>by rw [zb hb];exact z⟩
end
noncomputable def um:Expr->Bool
 | .BoolOp _ _ _=>true
 | _=>false
section
variable {Γ:Gm}{B:Tb}{cf:Cf}{k:Nat}
theorem zdm {X:Cx}{x y z:Expr}{pos:Pos}{t a b:E}(hc:PT X x (TB Γ cf t)) (ha:PT X y (TB Γ cf a)) (hb:PT X z (TB Γ cf b)):PT X (.IfExp x y z pos) (TB Γ cf (.ite t a b)):=by
 intro pj s σ H Q I ⟨ρ,S,V,g,Hz,hw,w,env,kk⟩
 have eq:iR (.IfExp x y z pos) X.env (eval (.IfExp x y z pos) X.env)=(iR x X.env (eval x X.env) >>= fun t=>if t=true then iR y X.env (eval y X.env) else iR z X.env (eval z X.env)):=rfl
 rw [eq]
 refine γ (thn (hc pj s σ H (fun r H'=>if r=true then TB Γ cf a σ H' Q else TB Γ cf b σ H' Q) I ⟨ρ,S,_,g,Hz,hw,w,env,fun x H1 g1 S1 st w1 h=>?_⟩) fun r s1 ⟨H1,I1,q⟩=>?_)
 ·obtain ⟨r,e,q⟩:=xX h
  rw [e]
  show (if r=true then _ else _)
  cases r with
  | true=>exact iteT (tb_go st w1 env kk q)
  | false=>exact iteF (tb_go st w1 env kk q)
 ·cases r with
  | true=>rw [if_pos rfl] at q ⊢;exact ha pj s1 σ H1 Q I1 q
  | false=>rw [if_neg Ο] at q ⊢;exact hb pj s1 σ H1 Q I1 q
def SE (Γ:Gm) (B:Tb) (cf:Cf) (k:Nat) (e:E):Prop:=∀ (X:Cx) (c:Cc) (x:Expr),XOk Γ B (spN Γ cf) k X c->chkE B c e x=true->PE X x (TX Γ cf e)/\PT X x (TB Γ cf e)/\(um x=true->PW X x (TB Γ cf e))
theorem only {X:Cx}{x:Expr}{e:E}(h:PE X x (TX Γ cf e)) (hn:um x=false) (he:∀ whole,iR x X.env whole=(do let v <- whole;standAt x.pos;ig [v] (truthy v))):PE X x (TX Γ cf e)/\PT X x (TB Γ cf e)/\(um x=true->PW X x (TB Γ cf e)):=
 ⟨h,zcX h he,fun q=>by rw [hn] at q;cases q⟩
theorem none_of {X:Cx}{x:Expr}{e:E}(h:∀ ρ V S,¬ wpE cf ρ e V S):PE X x (TX Γ cf e)/\PT X x (TB Γ cf e)/\(um x=true->PW X x (TB Γ cf e)):=
 ⟨fun _ _ _ _ _ _ ⟨_,_,_,_,_,q,_⟩=>(h _ _ _ q).elim,fun _ _ _ _ _ _ ⟨_,_,_,_,_,q,_⟩=>(h _ _ _ q).elim,fun _ _ _ _ _ _ _ _ ⟨_,_,_,_,_,q,_⟩=>(h _ _ _ q).elim⟩
theorem vg {c:Cc}:∀ {es:List E}{xs:List Expr},chkEs B c es xs=true->∀ z∈xs,notStar z=true
 | [],[],_=>fun z hz=>by cases hz
 | e::es,x::xs,h=>by
  have h:(chkE B c e x&&notStar x&&chkEs B c es xs)=true:=h
  rw [ε,ε] at h
  intro z hz
  rcases Ξ.mp hz with rfl | hz
  ·exact h.1.2
  ·exact vg h.2 z hz
 | [],_::_,h=>nobE h
 | _::_,[],h=>nobE h
theorem UT {c:Cc}{lo hi st:Option Expr}{pos:Pos}:∀ (e:E),chkE B c e (.Slice lo hi st pos)=true->False
 | .box e,h=>nobE h
 | .var _,h=>nobE h
 | .con _,h=>nobE h
 | .glo _ _,h=>nobE h
 | .bin _ _ _,h=>nobE h
 | .neg _,h=>nobE h
 | .cmp _ _ _,h=>nobE h
 | .chn _ _ _ _ _,h=>nobE h
 | .not _,h=>nobE h
 | .and _ _,h=>nobE h
 | .or _ _,h=>nobE h
 | .ite _ _ _,h=>nobE h
 | .tup _,h=>nobE h
 | .lst _,h=>nobE h
 | .dic _ _ _,h=>nobE h
 | .sub _ _,h=>nobE h
 | .slc _ _ _,h=>nobE h
 | .bi _ _,h=>nobE h
 | .mth _ _ _,h=>nobE h
 | .call _ _,h=>nobE h
 | .callk _ _ _,h=>nobE h
 | .callv _ _,h=>nobE h
 | .comp _ _ _ _ _,h=>nobE h
 | .one _,h=>nobE h
 | .flip _,h=>nobE h
 | .seq _,h=>nobE h
 | .rng _ _,h=>nobE h
 | .enum _,h=>nobE h
 | .zip _ _,h=>nobE h
 | .rev _,h=>nobE h
 | .items _,h=>nobE h
theorem W5 {c:Cc}{e:E}{y:Expr}(h:chkE B c e y=true):Y6 y:=by
 cases y with
 | Slice lo hi st pos=>exact (UT e h).elim
 | _=>exact fun _ _=>rfl
theorem Zz {iter:Expr}(h:yZ iter=true) (env:Env) (v:δ):bH iter env v=pure v:=by
 cases iter <;> first | rfl | cases h
set_option tactic.hygienic true in
theorem zew {X:Cx}{d:D}{q:Const}{n:Nat}{pos:Pos}{c:Cc}(h:chkE B c (.con d) (.Constant q n pos)=true):∃ t,PE X (.Constant q n pos) (tC t)/\∀ g,Has Γ g d t:=by
 cases q with
 | none=>cases d <;> first | exact ⟨_,zdw,fun _=>rfl⟩ | exact nobE h
 | bool b=>cases d <;> first | (rename_i b';have e:=eq_of_beq (show (b'==b)=true from h);subst e;exact ⟨_,pe_bl,fun _=>rfl⟩) | exact nobE h
 | int b=>cases d <;> first | (rename_i b';have e:=eq_of_beq (show (b'==b)=true from h);subst e;exact ⟨_,zak,fun _=>rfl⟩) | exact nobE h
 | str b=>cases d <;> first | (rename_i b';have e:=eq_of_beq (show (b'==b)=true from h);subst e;exact ⟨_,zaj,fun _=>rfl⟩) | exact nobE h
 | _=>cases d <;> exact nobE h
theorem jw {k0:Key}{ks:List Key}{keys:List (Option Expr)}(h:chkDk (k0::ks) keys=true):∃ q n p r,keys=some (.Constant q n p)::r/\(∀ X:Cx,PE X (.Constant q n p) (tC (kV k0)))/\chkDk ks r=true:=by
 cases keys with
 | nil=>exact nobE h
 | cons o r=>
  cases o with
  | none=>exact nobE h
  | some x=>
   have hb:Ν x.ctorIdx 19=true:=by revert h;cases x <;> first | exact non | exact fun _=>rfl
   revert h;apply jh hb;clear hb;intro q n p h
   have h:(keyC k0 q&&chkDk ks r)=true:=h
   rw [ε] at h
   refine ⟨q,n,p,r,rfl,fun X=>?_,h.2⟩
   have h1:=h.1
   cases k0 with
   | inl i=>
    cases q with
    | int j=>rw [show i=j from eq_of_beq h1];exact zak
    | _=>exact nobE h1
   | inr i=>
    cases q with
    | str j=>rw [show i=j from eq_of_beq h1];exact zaj
    | _=>exact nobE h1
theorem ZP:∀ {ks:List Key}{keys:List (Option Expr)},chkDk ks keys=true->ks.length=keys.length/\keys.all (·.isSome)=true
 | [],[],_=>⟨rfl,rfl⟩
 | [],_::_,h=>nobE h
 | k0::ks,keys,h=>by
  obtain ⟨q,n,p,r,rfl,_,hr⟩:=jw h
  obtain ⟨a,b⟩:=ZP hr
  exact ⟨by simp [a],by simpa using b⟩
theorem ZL {c:Cc}:∀ {es:List E}{xs:List Expr},chkFs B c es xs=true->es.length=xs.length
 | [],[],_=>rfl
 | [],_::_,h=>nobE h
 | _::_,[],h=>nobE h
 | e::es,x::xs,h=>by
  have h:(chkE B c e x&&chkFs B c es xs)=true:=h
  rw [ε] at h
  simp [ZL h.2]
theorem jF {a:Bool}(h:(a&&false)=true):False:=by
 rw [lR] at h
 cases h
theorem ZM {c:Cc}:∀ {es:List E}{xs:List Expr},chkEs B c es xs=true->es.length=xs.length
 | [],[],_=>rfl
 | [],_::_,h=>nobE h
 | _::_,[],h=>nobE h
 | e::es,x::xs,h=>by
  have h:(chkE B c e x&&notStar x&&chkEs B c es xs)=true:=h
  rw [ε] at h
  simp [ZM h.2]
theorem zdQ {c:Cc}{m:MT}{o:E}{es:List E}{f:Expr}{args:List Expr}{kws:List bh}{pos:Pos}(h:chkE B c (.mth m o es) (.Call f args kws pos)=true):
    ∃ w ap y ys,f=.Attribute w (mtS m) ap/\args=y::ys/\kws=[]/\chkE B c o w=true/\chkEs B c es (y::ys)=true/\(ap.endLine==pos.line)=true/\xR w=true/\(y::ys).length<=9:=by
  have h:(match asAtt f with
    | some q=>q.2.1==mtS m&&chkE B c o q.1&&chkEs B c es args&&xW kws&&q.2.2.endLine==pos.line&&xR q.1&&decide (1<=es.length)&&decide (es.length<=9)
    | none=>false)=true:=h
  cases e:asAtt f with
  | none=>rw [e] at h;cases h
  | some q=>
    rw [e] at h
    simp only [ε,decide_eq_true_eq] at h
    obtain ⟨⟨⟨⟨⟨⟨⟨h1,h2⟩,h3⟩,h4⟩,h5⟩,h6⟩,h7⟩,h8⟩:=h
    have hl:=ZM h3
    cases args with
    | nil=>simp at hl;simp [hl] at h7
    | cons y ys=>
      refine ⟨q.1,q.2.2,y,ys,?_,rfl,vB h4,h2,h3,h5,h6,by lia⟩
      rw [WD e,eq_of_beq h1]
theorem ZK {c:Cc}:∀ {es:List E}{kws:List bh},chkKs B c es kws=true->es.length=kws.length
 | [],[],_=>rfl
 | [],_::_,h=>nobE h
 | _::_,[],h=>nobE h
 | e::es,⟨none,x,p⟩::kws,h=>nobE h
 | e::es,⟨some n,x,p⟩::kws,h=>by
  have h:(chkE B c e x&&chkKs B c es kws)=true:=h
  rw [ε] at h
  simp [ZK h.2]
theorem ue:∀ {kws:List bh}{ks:List Str},yE kws=some ks->ks.length=kws.length
 | [],ks,h=>by cases h;rfl
 | ⟨none,x,p⟩::kws,ks,h=>by cases h
 | ⟨some n,x,p⟩::kws,ks,h=>by
  have h:(yE kws).map (n::·)=some ks:=h
  cases e:yE kws with
  | none=>rw [e] at h;cases h
  | some l=>
   rw [e] at h
   cases h
   simp [ue e]
def TXr (Γ:Gm) (cf:Cf):List E->TA
 | [e]=>fun σ H Q=>TX Γ cf e σ H fun v H1=>Q [v] H1
 | es=>TXs Γ cf es
theorem zR {b:BI}{n:Str}{c:Cc}{X:Cx}{es:List E}{args:List Expr}{p pos:Pos}(ok:XOk Γ B (spN Γ cf) k X c) (hi:isI b=false) (h:(n==biS b&&B.bare.contains n&&gloK (c.names.lookup n)&&chkEs B c es args&&!es.isEmpty)=true)
  (ih:chkEs B c es args=true->PA X args (TXr Γ cf es)):PE X (.Call (.Name n p) args [] pos) (TX Γ cf (.bi b es))/\PT X (.Call (.Name n p) args [] pos) (TB Γ cf (.bi b es))/\(um (.Call (.Name n p) args [] pos)=true->PW X (.Call (.Name n p) args [] pos) (TB Γ cf (.bi b es))):=by
 simp only [ε] at h
 obtain ⟨⟨⟨⟨h1,h2⟩,h3⟩,h4⟩,h5⟩:=h
 have e1:=eq_of_beq h1
 subst e1
 refine only ?_ rfl fun _=>rfl
 have ih:=ih h4
 have hst:=vg h4
 cases args with
 | nil=>
  cases es with
  | nil=>cases h5
  | cons _ _=>exact nobE h4
 | cons x xs=>
  refine bi_pe ok (ok.glob h3) (ok.bare _ (bf.mp h2)) hst ih fun σ H Q h0=>goX h0 fun ρ S V g Hz hw w env kk=>?_
  match es,hw with
  | [],_=>cases h5
  | [e],hw=>exact ⟨ρ,S,_,g,Hz,hw,w,env,fun x v H1 g1 S1 st w1 vx h1=>by
   obtain ⟨⟨d,fr⟩,eb,q⟩:=zQ h1
   obtain ⟨r,r1,r2⟩:=zaN (X:=X) (Γ:=Γ) ok.hK ok.room.gd ok.u61 ok.calm hi eb
   exact ⟨r,r1,r2 S1 H1 g1 [v] Q w1 ⟨v,[],rfl,vx.rdb w1,rfl⟩ fun u H2 g2 st2 _ w2 vo=>kk _ u H2 g2 S1 (st.trans st2) w2 ((VN.of vo).back st) q⟩⟩
  | e1::e2::es,hw=>exact ⟨ρ,S,_,g,Hz,hw,w,env,fun ds vs H1 g1 S1 st w1 hv h1=>by
   obtain ⟨⟨d,fr⟩,eb,q⟩:=zQ h1
   obtain ⟨r,r1,r2⟩:=zaN (X:=X) (Γ:=Γ) ok.hK ok.room.gd ok.u61 ok.calm hi eb
   exact ⟨r,r1,r2 S1 H1 g1 vs Q w1 (Ud w1 hv) fun u H2 g2 st2 _ w2 vo=>kk _ u H2 g2 S1 (st.trans st2) w2 ((VN.of vo).back st) q⟩⟩
theorem zcw {f:Nat}{n:Str}{c:Cc}{X:Cx}{es:List E}{perm:List Nat}{kws:List bh}{p pos:Pos}(hm:Mono cf) (ok:XOk Γ B (spN Γ cf) k X c) (h:(B.fns[f]?==some n&&gloK (c.names.lookup n)&&yL n&&chkKs B c es kws&&(match yE kws,B.pars[f]? with
      | some ks,some ps=>perm.length==ps.length&&perm.all (· < ks.length)&&perm.map (fun i=>ks.getD i "")==ps&&ks.length==ps.length&&B.kws.contains (f,ks,perm)
      | _,_=>false))=true) (ih:chkKs B c es kws=true->PK X kws (TXs Γ cf es)):PE X (.Call (.Name n p) [] kws pos) (TX Γ cf (.callk f perm es)):=by
  simp only [ε] at h
  obtain ⟨⟨⟨⟨h1,h2⟩,h3⟩,h4⟩,h5⟩:=h
  cases hk:yE kws with
  | none=>rw [hk] at h5;cases h5
  | some ks=>
    cases hp:B.pars[f]? with
    | none=>rw [hk,hp] at h5;cases h5
    | some ps=>
      rw [hk,hp] at h5
      simp only [ε,beq_iff_eq,dG,decide_eq_true_eq] at h5
      obtain ⟨⟨⟨⟨g1,g2⟩,g3⟩,g4⟩,g5⟩:=h5
      exact zbd hm ok (eq_of_beq h1) (ok.glob h2) (yD h3).1 (ih h4) hk hp g1 g2 g3 g4 (bf.mp g5) (by rw [ZK h4,ue hk])
theorem QQ {X:Cx}{c:Cc}{sc:c7}{js:List Nat}{xs:List Str}{t:T}{it elt:E}{ifs:List E}{cs:List Expr}{tgt iter y:Expr}{pos:Pos}(ok:XOk Γ B (spN Γ cf) k X c) (hs:chkS c sc js=true) (hn:yZ iter=true) (nd:(xs++js.map (fun j=>c.N.getD j "")).Nodup)
  (hst:isNst t=false) (ht:nT t=xs.length) (hr:tIs t=ao xs.length) (hT:chkT (inner c sc xs js) t tgt=true) (hi:PI X tgt iter (TXi Γ cf it))
  (hz:∀ X,XOk Γ B (spN Γ cf) k X (inner c sc xs js)->PTs X cs (TXf Γ cf ifs)) (he:∀ X,XOk Γ B (spN Γ cf) k X (inner c sc xs js)->PE X y (TX Γ cf elt)):
  PE X (.ListComp y [⟨tgt,iter,cs,0⟩] sc pos) (TX Γ cf (.comp t js it ifs elt))/\CSet X (.ListComp y [⟨tgt,iter,cs,0⟩] sc pos) (TX Γ cf (.comp t js it ifs elt)):=by
 have okI:=fun C s3 H3 fp=>Vo ok hs nd C s3 H3 fp
 refine QV (JV (xs:=xs) (tg:=tgOf X.K t) ok.calm (Ws ok hs) hi (fun C s3 H3 fp=>VD (okI C s3 H3 fp) hT) (fun C s3 H3 fp=>hz _ (okI C s3 H3 fp)) (fun C s3 H3 fp=>he _ (okI C s3 H3 fp)) (Zz hn X.env)) fun σ H Q h0=>goX h0 fun ρ S V g Hz hw w env kk=>?_
 refine QM (X:=X) (Qe:=fun D H'=>Q (.ref D) H') hst (fun i hi=>?_) ht ?_ hw w env fun ds Da H' g' S' st w' vx q=>kk _ _ H' g' S' st w' vx q
 ·rw [hr] at hi
  rw [ht]
  exact cu.mp hi
 ·exact fU.of_map _ (fun a b (h:c.N.getD a ""≠c.N.getD b "") e=>h (by rw [e])) (iZ.mp nd).2.1
theorem ZJ {t:T}{js:List Nat}{it:E}{ifs:List E}{elt:E}{X:Cx}{c:Cc}{tgt iter y:Expr}{cs:List Expr}{kk:Int}{sc:c7}{pos:Pos}(hI:∀ X c tgt x,XOk Γ B (spN Γ cf) k X c->chkI B c it tgt x=true->PI X tgt x (TXi Γ cf it)) (hF:∀ X c xs,XOk Γ B (spN Γ cf) k X c->chkFs B c ifs xs=true->ifs.length<=1->PTs X xs (TXf Γ cf ifs)) (hE:∀ X c x,XOk Γ B (spN Γ cf) k X c->chkE B c elt x=true->PE X x (TX Γ cf elt))
    (ok:XOk Γ B (spN Γ cf) k X c) (h:chkE B c (.comp t js it ifs elt) (.ListComp y [⟨tgt,iter,cs,kk⟩] sc pos)=true):PE X (.ListComp y [⟨tgt,iter,cs,kk⟩] sc pos) (TX Γ cf (.comp t js it ifs elt))/\CSet X (.ListComp y [⟨tgt,iter,cs,kk⟩] sc pos) (TX Γ cf (.comp t js it ifs elt)):=by
  have h:(kk==0&&chkS c sc js&&chkI B c it tgt iter&&yZ iter&&(match yz tgt with
    | some xs=>decide ((xs++js.map (fun j=>c.N.getD j "")).Nodup)&&nT t==xs.length&&tIs t==ao xs.length&&chkT (inner c sc xs js) t tgt&&chkE B (inner c sc xs js) elt y&&chkFs B (inner c sc xs js) ifs cs&&decide (ifs.length<=1)
    | none=>false))=true:=h
  simp only [ε] at h
  obtain ⟨⟨⟨⟨h1,h2⟩,h3⟩,h4⟩,h5⟩:=h
  have e1:=eq_of_beq h1
  subst e1
  cases ht:yz tgt with
  | none=>rw [ht] at h5;cases h5
  | some xs=>
    rw [ht] at h5
    simp only [ε] at h5
    obtain ⟨⟨⟨⟨⟨⟨h6,h7⟩,h8⟩,h9⟩,h10⟩,h11⟩,h12⟩:=h5
    have hst:isNst t=false:=by
      cases t with
      | nst i is=>
        exfalso
        cases q:asNst tgt with
        | none=>unfold chkT at h9;rw [if_pos (show isNst (.nst i is)=true from rfl),q] at h9;cases h9
        | some z=>rw [Wy q] at ht;cases ht
      | _=>rfl
    exact QQ ok h2 h4 (of_decide_eq_true h6) hst (eq_of_beq h7) (eq_of_beq h8) h9 (hI X c tgt iter ok h3) (fun X ok'=>hF X _ cs ok' h11 (of_decide_eq_true h12)) fun X ok'=>hE X _ y ok' h10
mutual
theorem sA (hcf:CfN B cf) (hm:Mono cf):∀ (e:E),SE Γ B cf k e
  | .var i=>fun X c x ok h=>by
    have hb:Ν x.ctorIdx 23=true:=by revert h;cases x <;> first | exact non | exact fun _=>rfl
    revert h;apply v6 hb;clear hb;intro n pos h
    have h:(c.N[i]?==some n&&visK (c.names.lookup n)&&yL n)=true:=h
    rw [ε,ε] at h
    obtain ⟨h1,h2,_⟩:=yD h.2
    exact only (s_var (by rw [ok.N];exact eq_of_beq h.1.1) (ok.vis h.1.2) h1 h2) rfl fun _=>rfl
  | .con d=>fun X c x ok h=>by
    have hb:Ν x.ctorIdx 19=true:=by revert h;cases x <;> first | exact non | exact fun _=>rfl
    revert h;apply jh hb;clear hb;intro q n pos h
    obtain ⟨t,h1,h2⟩:=zew (Γ:=Γ) (X:=X) h
    exact only (s_con h1 h2 fun _ _ _ q=>q) rfl fun _=>rfl
  | .glo m d=>fun X c x ok h=>by
    have hb:Ν x.ctorIdx 23=true:=by revert h;cases x <;> first | exact non | exact fun _=>rfl
    revert h;apply v6 hb;clear hb;intro n pos h
    have h:((match B.consts[m]? with
      | some p=>p.1==n&&sameD p.2 d
      | none=>false)&&gloK (c.names.lookup n)&&yL n)=true:=h
    rw [ε,ε] at h
    cases e:B.consts[m]? with
    | none=>rw [e] at h;cases h.1.1
    | some q=>
      rw [e] at h
      obtain ⟨y,d'⟩:=q
      have h1:(y==n&&sameD d' d)=true:=h.1.1
      rw [ε] at h1
      have e1:=eq_of_beq h1.1
      have e2:=Xo _ _ h1.2
      subst e1 e2
      obtain ⟨u,v,g1,g2,g3⟩:=ok.consts m y d' e
      exact only (s_con (zbC (ok.glob h.1.2) g1 g2 (yD h.2).1) g3 fun _ _ _ q=>q) rfl fun _=>rfl
  | .bin op a b=>fun X c x ok h=>by
    have hb:Ν x.ctorIdx 2=true:=by revert h;cases x <;> first | exact non | exact fun _=>rfl
    revert h;apply zbT hb;clear hb;intro l op' r pos h
    have h:(op==op'&&chkE B c a l&&chkE B c b r)=true:=h
    rw [ε,ε] at h
    have e1:=eq_of_beq h.1.1
    subst e1
    exact only (s_bin ok.hK (sA hcf hm a X c l ok h.1.2).1 (sA hcf hm b X c r ok h.2).1) rfl fun _=>rfl
  | .neg a=>fun X c x ok h=>by
    have hb:Ν x.ctorIdx 3=true:=by revert h;cases x <;> first | exact non | exact fun _=>rfl
    revert h;apply qR hb;clear hb;intro op l pos h
    have h:(op==PySem.UnaryOp.USub&&chkE B c a l)=true:=h
    rw [ε] at h
    have e1:=eq_of_beq h.1
    subst e1
    exact only (s_neg (sA hcf hm a X c l ok h.2).1) rfl fun _=>rfl
  | .cmp op a b=>fun X c x ok h=>by
    have hb:Ν x.ctorIdx 15=true:=by revert h;cases x <;> first | exact non | exact fun _=>rfl
    revert h;apply qW hb;clear hb;intro l ops rs pos h
    match ops,rs,h with
    | [op'],[r],h=>
      have h:(op==op'&&chkE B c a l&&chkE B c b r&&yZ r)=true:=h
      rw [ε,ε,ε] at h
      have e1:=eq_of_beq h.1.1.1
      subst e1
      have hm':behindInMarks op r=false:=by cases r <;> first | rfl | cases h.2
      have:=s_cmp (pos:=pos) ok.hK ok.u61 (sA hcf hm a X c l ok h.1.1.2).1 (sA hcf hm b X c r ok h.1.2).1 hm'
      exact ⟨this.1,this.2,fun q=>by cases q⟩
    | [],_,h=>exact nobE h
    | [_],[],h=>exact nobE h
    | [_],_::_::_,h=>exact nobE h
    | _::_::_,_,h=>exact nobE h
  | .chn o1 o2 a b d=>fun X c x ok h=>by
    have hb:Ν x.ctorIdx 15=true:=by revert h;cases x <;> first | exact non | exact fun _=>rfl
    revert h;apply qW hb;clear hb;intro l ops rs pos h
    match ops,rs,h with
    | [p1,p2],[r1,r2],h=>
      have h:(o1==p1&&o2==p2&&chkE B c a l&&chkE B c b r1&&chkE B c d r2&&yZ r2)=true:=h
      simp only [ε] at h
      obtain ⟨⟨⟨⟨⟨h1,h2⟩,h3⟩,h4⟩,h5⟩,h6⟩:=h
      have e1:=eq_of_beq h1
      have e2:=eq_of_beq h2
      subst e1 e2
      have hm':lastMarks [o1,o2] [r1,r2]=false:=by cases r2 <;> first | rfl | cases h6
      have:=s_chn (pos:=pos) ok.hK ok.u61 (sA hcf hm a X c l ok h3).1 (sA hcf hm b X c r1 ok h4).1 (sA hcf hm d X c r2 ok h5).1 hm'
      exact ⟨this.1,this.2,fun q=>by cases q⟩
    | [],_,h=>exact nobE h
    | [_],_,h=>exact nobE h
    | [_,_],[],h=>exact nobE h
    | [_,_],[_],h=>exact nobE h
    | [_,_],_::_::_::_,h=>exact nobE h
    | _::_::_::_,_,h=>exact nobE h
  | .not a=>fun X c x ok h=>by
    have hb:Ν x.ctorIdx 3=true:=by revert h;cases x <;> first | exact non | exact fun _=>rfl
    revert h;apply qR hb;clear hb;intro op l pos h
    have h:(op==PySem.UnaryOp.Not&&chkE B c a l)=true:=h
    rw [ε] at h
    have e1:=eq_of_beq h.1
    subst e1
    obtain ⟨i1,i2,_⟩:=sA hcf hm a X c l ok h.2
    exact ⟨s_not i1,zc6 i2,fun q=>by cases q⟩
  | .and a b=>fun X c x ok h=>by
    have hb:Ν x.ctorIdx 0=true:=by revert h;cases x <;> first | exact non | exact fun _=>rfl
    revert h;apply jX hb;clear hb;intro op vs pos h
    match vs,h with
    | l::r::rest,h=>
      have h:(op==mQ.And&&chkE B c a l&&chkE B c b (.BoolOp .And (r::rest) pos))=true:=h
      rw [ε,ε] at h
      have e1:=eq_of_beq h.1.1
      subst e1
      obtain ⟨i1,i2,_⟩:=sA hcf hm a X c l ok h.1.2
      obtain ⟨j1,_,j3⟩:=sA hcf hm b X c _ ok h.2
      have w:=zdc i2 (j3 rfl)
      exact ⟨s_and i1 j1,w.pt,fun _=>w⟩
    | [],h=>exact nobE h
    | [_],h=>exact nobE h
  | .or a b=>fun X c x ok h=>by
    have hb:Ν x.ctorIdx 0=true:=by revert h;cases x <;> first | exact non | exact fun _=>rfl
    revert h;apply jX hb;clear hb;intro op vs pos h
    match vs,h with
    | l::r::rest,h=>
      have h:(op==mQ.Or&&chkE B c a l&&chkE B c b (.BoolOp .Or (r::rest) pos))=true:=h
      rw [ε,ε] at h
      have e1:=eq_of_beq h.1.1
      subst e1
      obtain ⟨i1,i2,_⟩:=sA hcf hm a X c l ok h.1.2
      obtain ⟨j1,_,j3⟩:=sA hcf hm b X c _ ok h.2
      have w:=s_orW i2 (j3 rfl)
      exact ⟨s_or i1 j1,w.pt,fun _=>w⟩
    | [],h=>exact nobE h
    | [_],h=>exact nobE h
  | .one a=>fun X c x ok h=>by
    have hb:Ν x.ctorIdx 0=true:=by revert h;cases x <;> first | exact non | exact fun _=>rfl
    revert h;apply jX hb;clear hb;intro op vs pos h
    match vs,h with
    | [l],h=>
      obtain ⟨i1,i2,_⟩:=sA hcf hm a X c l ok (show chkE B c a l=true from h)
      exact ⟨zdu i1,(zab i2).pt,fun _=>zab i2⟩
    | [],h=>exact nobE h
    | _::_::_,h=>exact nobE h
  | .ite t a b=>fun X c x ok h=>by
    have hb:Ν x.ctorIdx 5=true:=by revert h;cases x <;> first | exact non | exact fun _=>rfl
    revert h;apply zbS hb;clear hb;intro l y z pos h
    have h:(chkE B c t l&&chkE B c a y&&chkE B c b z)=true:=h
    rw [ε,ε] at h
    obtain ⟨_,i2,_⟩:=sA hcf hm t X c l ok h.1.1
    obtain ⟨j1,j2,_⟩:=sA hcf hm a X c y ok h.1.2
    obtain ⟨k1,k2,_⟩:=sA hcf hm b X c z ok h.2
    exact ⟨s_ite i2 j1 k1,zdm i2 j2 k2,fun q=>by cases q⟩
  | .tup es=>fun X c x ok h=>by
    have hb:Ν x.ctorIdx 25=true:=by revert h;cases x <;> first | exact non | exact fun _=>rfl
    revert h;apply zbP hb;clear hb;intro xs kk pos h
    exact only (s_tup (sEs hcf hm es X c xs ok h)) rfl fun _=>rfl
  | .lst es=>fun X c x ok h=>by
    have hb:Ν x.ctorIdx 24=true:=by revert h;cases x <;> first | exact non | exact fun _=>rfl
    revert h;apply ofList hb;clear hb;intro xs pos h
    exact only (s_lst (sEs hcf hm es X c xs ok h)) rfl fun _=>rfl
  | .sub a i=>fun X c x ok h=>by
    have hb:Ν x.ctorIdx 21=true:=by revert h;cases x <;> first | exact non | exact fun _=>rfl
    revert h;apply v5 hb;clear hb;intro l y pos h
    have h:(chkE B c a l&&chkE B c i y)=true:=h
    rw [ε] at h
    exact only (s_sub ok.hK ok.u1 (sA hcf hm a X c l ok h.1).1 (sA hcf hm i X c y ok h.2).1 (W5 h.2)) rfl fun _=>rfl
  | .slc a lo hi=>fun X c x ok h=>by
    have hb:Ν x.ctorIdx 21=true:=by revert h;cases x <;> first | exact non | exact fun _=>rfl
    revert h;apply v5 hb;clear hb;intro l y pos h
    have hb:Ν y.ctorIdx 26=true:=by revert h;cases y <;> first | exact non | exact fun _=>rfl
    revert h;apply zbQ hb;clear hb;intro lo' hi' st p2 h
    cases st with
    | none=>
      have h:(chkE B c a l&&chkO B c lo lo'&&chkO B c hi hi')=true:=h
      rw [ε,ε] at h
      exact only (s_slc ok.hK (sA hcf hm a X c l ok h.1.1).1 (sO hcf hm lo X c lo' ok h.1.2) (sO hcf hm hi X c hi' ok h.2)) rfl fun _=>rfl
    | some _=>exact nobE h
  | .bi b es=>fun X c x ok h=>by
    have hb:Ν x.ctorIdx 16=true:=by revert h;cases x <;> first | exact non | exact fun _=>rfl
    revert h;apply ji hb;clear hb;intro f args kws pos h
    have hb:Ν f.ctorIdx 23=true:=by revert h;cases f <;> first | exact non | exact fun _=>rfl
    revert h;apply v6 hb;clear hb;intro n p h
    cases kws with
    | nil=>
      cases b with
      | isinst t=>
        match es,args,h with
        | [],_,h=>exact (jF (show (_&&false)=true from h)).elim
        | _::_::_,_,h=>exact (jF (show (_&&false)=true from h)).elim
        | [_],[],h=>exact (jF (show (_&&false)=true from h)).elim
        | [_],[_],h=>exact (jF (show (_&&false)=true from h)).elim
        | [_],_::z::_::_,h=>cases z <;> exact (jF (show (_&&false)=true from h)).elim
        | [e],[y,z],h=>
          cases z with
          | Name z pz=>
            have h:(n==("isinstance":Str)&&B.bare.contains n&&B.bare.contains (tyN t)&&gloK (c.names.lookup n)&&(chkE B c e y&&notStar y&&z==tyN t&&gloK (c.names.lookup z)))=true:=h
            simp only [ε] at h
            obtain ⟨⟨⟨⟨h1,h2⟩,h3⟩,h4⟩,⟨⟨h5,h6⟩,h7⟩,h8⟩:=h
            have e1:=eq_of_beq h1
            have e2:=eq_of_beq h7
            subst e1 e2
            exact only (s_is ok (ok.glob h4) (ok.bare _ (bf.mp h2)) (ok.glob h8) (ok.bare _ (bf.mp h3)) h6 (sA hcf hm e X c y ok h5).1) rfl fun _=>rfl
          | _=>exact (jF (show (_&&false)=true from h)).elim
      | len=>exact zR ok rfl (show (n==biS .len&&B.bare.contains n&&gloK (c.names.lookup n)&&chkEs B c es args&&!es.isEmpty)=true from h) fun q=>sRs hcf hm es X c args ok q
      | abs=>exact zR ok rfl (show (n==biS .abs&&B.bare.contains n&&gloK (c.names.lookup n)&&chkEs B c es args&&!es.isEmpty)=true from h) fun q=>sRs hcf hm es X c args ok q
      | int=>exact zR ok rfl (show (n==biS .int&&B.bare.contains n&&gloK (c.names.lookup n)&&chkEs B c es args&&!es.isEmpty)=true from h) fun q=>sRs hcf hm es X c args ok q
      | str=>exact zR ok rfl (show (n==biS .str&&B.bare.contains n&&gloK (c.names.lookup n)&&chkEs B c es args&&!es.isEmpty)=true from h) fun q=>sRs hcf hm es X c args ok q
      | tuple=>exact zR ok rfl (show (n==biS .tuple&&B.bare.contains n&&gloK (c.names.lookup n)&&chkEs B c es args&&!es.isEmpty)=true from h) fun q=>sRs hcf hm es X c args ok q
      | list=>exact zR ok rfl (show (n==biS .list&&B.bare.contains n&&gloK (c.names.lookup n)&&chkEs B c es args&&!es.isEmpty)=true from h) fun q=>sRs hcf hm es X c args ok q
      | sum=>exact zR ok rfl (show (n==biS .sum&&B.bare.contains n&&gloK (c.names.lookup n)&&chkEs B c es args&&!es.isEmpty)=true from h) fun q=>sRs hcf hm es X c args ok q
      | all=>exact zR ok rfl (show (n==biS .all&&B.bare.contains n&&gloK (c.names.lookup n)&&chkEs B c es args&&!es.isEmpty)=true from h) fun q=>sRs hcf hm es X c args ok q
      | any=>exact zR ok rfl (show (n==biS .any&&B.bare.contains n&&gloK (c.names.lookup n)&&chkEs B c es args&&!es.isEmpty)=true from h) fun q=>sRs hcf hm es X c args ok q
      | min2=>exact zR ok rfl (show (n==biS .min2&&B.bare.contains n&&gloK (c.names.lookup n)&&chkEs B c es args&&!es.isEmpty)=true from h) fun q=>sRs hcf hm es X c args ok q
      | max2=>exact zR ok rfl (show (n==biS .max2&&B.bare.contains n&&gloK (c.names.lookup n)&&chkEs B c es args&&!es.isEmpty)=true from h) fun q=>sRs hcf hm es X c args ok q
      | sorted=>exact zR ok rfl (show (n==biS .sorted&&B.bare.contains n&&gloK (c.names.lookup n)&&chkEs B c es args&&!es.isEmpty)=true from h) fun q=>sRs hcf hm es X c args ok q
      | repr=>exact zR ok rfl (show (n==biS .repr&&B.bare.contains n&&gloK (c.names.lookup n)&&chkEs B c es args&&!es.isEmpty)=true from h) fun q=>sRs hcf hm es X c args ok q
      | dict=>exact zR ok rfl (show (n==biS .dict&&B.bare.contains n&&gloK (c.names.lookup n)&&chkEs B c es args&&!es.isEmpty)=true from h) fun q=>sRs hcf hm es X c args ok q
    | cons _ _=>exact nobE h
  | .call f es=>fun X c x ok h=>by
    have hb:Ν x.ctorIdx 16=true:=by revert h;cases x <;> first | exact non | exact fun _=>rfl
    revert h;apply ji hb;clear hb;intro q args kws pos h
    have hb:Ν q.ctorIdx 23=true:=by revert h;cases q <;> first | exact non | exact fun _=>rfl
    revert h;apply v6 hb;clear hb;intro n p h
    cases kws with
    | nil=>
      have h:(B.fns[f]?==some n&&gloK (c.names.lookup n)&&yL n&&chkEs B c es args&&!es.isEmpty)=true:=h
      simp only [ε] at h
      obtain ⟨⟨⟨⟨h1,h2⟩,h3⟩,h4⟩,h5⟩:=h
      cases args with
      | nil=>
        cases es with
        | nil=>cases h5
        | cons _ _=>exact nobE h4
      | cons y ys=>exact only (s_call hcf ok (eq_of_beq h1) (ok.glob h2) (yD h3).1 (vg h4) (sEs hcf hm es X c (y::ys) ok h4)) rfl fun _=>rfl
    | cons _ _=>exact nobE h
  | .callk f perm es=>fun X c x ok h=>nobE h
  | .comp t js it ifs elt=>fun X c x ok h=>by
    have hb:Ν x.ctorIdx 8=true:=by revert h;cases x <;> first | exact non | exact fun _=>rfl
    revert h;apply jg hb;clear hb;intro y gens sc pos h
    match gens,h with
    | [⟨tgt,iter,cs,kk⟩],h=>exact only (ZJ (fun X c tgt x ok q=>sI hcf hm it X c tgt x ok q) (fun X c xs ok q l=>sFs hcf hm ifs X c xs ok q l) (fun X c x ok q=>(sA hcf hm elt X c x ok q).1) ok h).1 rfl fun _=>rfl
    | [],h=>exact nobE h
    | ⟨_,_,_,_⟩::⟨_,_,_,_⟩::_,h=>exact nobE h
  | .box e=>fun X c x ok h=>by
    have h:(Ui x&&chkE B c e x)=true:=h
    rw [ε] at h
    have pe:PE X x (TX Γ cf (.box e)):=((sA hcf hm e X c x ok h.2).1).imp fun σ H Q ⟨ρ,S,V,g,Hz,hw,w,env,kk⟩=>⟨ρ,S,_,g,Hz,hw,w,env,fun y v H1 g1 S1 st w1 vx q=>by
      obtain ⟨d,k⟩:=y
      cases k with
      | fr=>
        obtain ⟨g2,s2,w2,h2⟩:=boxed st w1 vx
        exact kk (.ref S1.length,.st) v H1 g2 _ s2 w2 h2 q
      | _=>exact q.elim⟩
    have hp:=h.1
    cases x <;> first | exact only pe rfl fun _=>rfl | exact nobE hp
  | .dic tk ks es=>fun X c x ok h=>by
    have hb:Ν x.ctorIdx 6=true:=by revert h;cases x <;> first | exact non | exact fun _=>rfl
    revert h;apply zdN hb;clear hb;intro keys vals pos h
    have h:(chkDk ks keys&&chkFs B c es vals&&decide (ks.length=es.length)&&decide (ks.length<=15))=true:=h
    simp only [ε,decide_eq_true_eq] at h
    obtain ⟨⟨⟨h1,h2⟩,h3⟩,h4⟩:=h
    refine only ?_ rfl fun _=>rfl
    cases ks with
    | nil=>
      cases keys with
      | cons _ _=>exact nobE h1
      | nil=>
        cases es with
        | cons _ _=>cases h3
        | nil=>
          cases vals with
          | cons _ _=>exact nobE h2
          | nil=>
            cases tk with
            | true=>exact zbb (ks:=[])
            | false=>exact zbc
    | cons k0 ks=>
      have hps:=sPs (pos:=pos) hcf hm es X c vals (k0::ks) keys ok h2 h1 h3
      obtain ⟨l1,l2⟩:=ZP h1
      have l3:=ZL h2
      have hd:=zda hps l2 (by rw [<- l1,h3,l3]) (fun z=>by rw [z] at l1;cases l1) (by rw [<- l1];exact h4)
      cases tk with
      | false=>exact hd
      | true=>exact hd.imp fun σ H Q ⟨ρ,S,V,g,Hz,hw,w,env,kk⟩=>⟨ρ,S,V,g,Hz,zE hm es (fun ds S1 q=>by
        obtain ⟨hq,_⟩:=xK q
        unfold dicOk at hq
        simp at hq) hw,w,env,kk⟩
  | .mth m o es=>fun X c x ok h=>by
    have hb:Ν x.ctorIdx 16=true:=by revert h;cases x <;> first | exact non | exact fun _=>rfl
    revert h;apply ji hb;clear hb;intro f args kws pos h
    obtain ⟨w,ap,y,ys,rfl,rfl,rfl,h1,h2,h3,h4,h5⟩:=zdQ h
    exact only (s_mth ok (sA hcf hm o X c w ok h1).1 (vg h2) (sEs hcf hm es X c (y::ys) ok h2) h3 h4 h5) rfl fun _=>rfl
  | .flip e=>fun X c x ok h=>nobE h
  | .callv i es=>fun X c x ok h=>nobE h
  | .seq _=>fun X c x ok h=>none_of fun _ _ _ q=>q
  | .rng _ _=>fun X c x ok h=>none_of fun _ _ _ q=>q
  | .enum _=>fun X c x ok h=>none_of fun _ _ _ q=>q
  | .zip _ _=>fun X c x ok h=>none_of fun _ _ _ q=>q
  | .rev _=>fun X c x ok h=>none_of fun _ _ _ q=>q
  | .items _=>fun X c x ok h=>none_of fun _ _ _ q=>q
theorem sRs (hcf:CfN B cf) (hm:Mono cf):∀ (es:List E) (X:Cx) (c:Cc) (xs:List Expr),XOk Γ B (spN Γ cf) k X c->chkEs B c es xs=true->PA X xs (TXr Γ cf es)
 | [],X,c,xs,ok,h=>by
  cases xs with
  | nil=>exact s_nil
  | cons _ _=>exact nobE h
 | [e],X,c,xs,ok,h=>by
  cases xs with
  | nil=>exact nobE h
  | cons x xs=>
   have h:(chkE B c e x&&notStar x&&chkEs B c [] xs)=true:=h
   rw [ε,ε] at h
   cases xs with
   | nil=>exact yM (sA hcf hm e X c x ok h.1.1).1 vZ (zp h.1.2 _ _)
   | cons _ _=>exact nobE h.2
 | e::f::es,X,c,xs,ok,h=>by
  cases xs with
  | nil=>exact nobE h
  | cons x xs=>
   have h:(chkE B c e x&&notStar x&&chkEs B c (f::es) xs)=true:=h
   rw [ε,ε] at h
   exact zac h.1.2 (sA hcf hm e X c x ok h.1.1).1 (sEs hcf hm (f::es) X c xs ok h.2)
theorem sEs (hcf:CfN B cf) (hm:Mono cf):∀ (es:List E) (X:Cx) (c:Cc) (xs:List Expr),XOk Γ B (spN Γ cf) k X c->chkEs B c es xs=true->PA X xs (TXs Γ cf es)
 | [],X,c,xs,ok,h=>by
  cases xs with
  | nil=>exact s_nil
  | cons _ _=>exact nobE h
 | e::es,X,c,xs,ok,h=>by
  cases xs with
  | nil=>exact nobE h
  | cons x xs=>
   have h:(chkE B c e x&&notStar x&&chkEs B c es xs)=true:=h
   rw [ε,ε] at h
   exact zac h.1.2 (sA hcf hm e X c x ok h.1.1).1 (sEs hcf hm es X c xs ok h.2)
theorem sPs {pos:Pos}(hcf:CfN B cf) (hm:Mono cf):∀ (es:List E) (X:Cx) (c:Cc) (vals:List Expr) (ks:List Key) (keys:List (Option Expr)),XOk Γ B (spN Γ cf) k X c->chkFs B c es vals=true->chkDk ks keys=true->ks.length=es.length->PPd X pos keys vals ks (TXs Γ cf es)
 | [],X,c,vals,ks,keys,ok,h,hk,hl=>by
  cases vals with
  | cons _ _=>exact nobE h
  | nil=>
   cases ks with
   | cons _ _=>cases hl
   | nil=>
    cases keys with
    | cons _ _=>exact nobE hk
    | nil=>exact zc4
 | a::es,X,c,vals,ks,keys,ok,h,hk,hl=>by
  cases vals with
  | nil=>exact nobE h
  | cons x vals=>
   have h:(chkE B c a x&&chkFs B c es vals)=true:=h
   rw [ε] at h
   cases ks with
   | nil=>cases hl
   | cons k0 ks=>
    obtain ⟨q,n,p,r,rfl,hc,hr⟩:=jw hk
    exact za8 (hc X) (sA hcf hm a X c x ok h.1).1 (sPs hcf hm es X c vals ks r ok h.2 hr (by simpa using hl))
theorem sKs (hcf:CfN B cf) (hm:Mono cf):∀ (es:List E) (X:Cx) (c:Cc) (kws:List bh),XOk Γ B (spN Γ cf) k X c->chkKs B c es kws=true->PK X kws (TXs Γ cf es)
 | [],X,c,xs,ok,h=>by
  cases xs with
  | nil=>exact zc7
  | cons _ _=>exact nobE h
 | e::es,X,c,xs,ok,h=>by
  cases xs with
  | nil=>exact nobE h
  | cons q xs=>
   obtain ⟨n,x,kp⟩:=q
   cases n with
   | none=>exact nobE h
   | some n=>
    have h:(chkE B c e x&&chkKs B c es xs)=true:=h
    rw [ε] at h
    exact za9 (sA hcf hm e X c x ok h.1).1 (sKs hcf hm es X c xs ok h.2)
theorem sI (hcf:CfN B cf) (hm:Mono cf):∀ (e:E) (X:Cx) (c:Cc) (tgt x:Expr),XOk Γ B (spN Γ cf) k X c->chkI B c e tgt x=true->PI X tgt x (TXi Γ cf e)
 | .seq e,X,c,tgt,x,ok,h=>s_seq ok.hK (sA hcf hm e X c x ok h).1
 | .rng none hi,X,c,tgt,x,ok,h=>by
  have hb:Ν x.ctorIdx 16=true:=by revert h;cases x <;> first | exact non | exact fun _=>rfl
  revert h;apply ji hb;clear hb;intro q args kws pos h
  have hb:Ν q.ctorIdx 23=true:=by revert h;cases q <;> first | exact non | exact fun _=>rfl
  revert h;apply v6 hb;clear hb;intro n p h
  cases kws with
  | nil=>
   match args,h with
   | [y],h=>
    have h:(n==("range":Str)&&B.bare.contains n&&gloK (c.names.lookup n)&&chkE B c hi y&&notStar y)=true:=h
    simp only [ε] at h
    obtain ⟨⟨⟨⟨h1,h2⟩,h3⟩,h4⟩,h5⟩:=h
    have e1:=eq_of_beq h1
    subst e1
    exact zc1 (ok.glob h3) (ok.bare _ (bf.mp h2)) h5 (sA hcf hm hi X c y ok h4).1
   | [],h=>exact nobE h
   | _::_::_,h=>exact nobE h
  | cons _ _=>rcases args with _ | ⟨_,_ | ⟨_,_ | ⟨_,_⟩⟩⟩ <;> exact nobE h
 | .rng (some _) _,X,c,tgt,x,ok,h=>nobE h
 | .enum e,X,c,tgt,x,ok,h=>by
  have hb:Ν x.ctorIdx 16=true:=by revert h;cases x <;> first | exact non | exact fun _=>rfl
  revert h;apply ji hb;clear hb;intro q args kws pos h
  have hb:Ν q.ctorIdx 23=true:=by revert h;cases q <;> first | exact non | exact fun _=>rfl
  revert h;apply v6 hb;clear hb;intro n p h
  cases kws with
  | nil=>
   match args,h with
   | [y],h=>
    have h:(Wb tgt&&n==("enumerate":Str)&&B.bare.contains n&&gloK (c.names.lookup n)&&chkE B c e y&&notStar y)=true:=h
    simp only [ε] at h
    obtain ⟨⟨⟨⟨⟨h0,h1⟩,h2⟩,h3⟩,h4⟩,h5⟩:=h
    have e1:=eq_of_beq h1
    subst e1
    cases tgt with
    | Tuple elts kk tp=>exact zc9 ok.hK (ok.glob h3) (ok.bare _ (bf.mp h2)) h5 (sA hcf hm e X c y ok h4).1
    | _=>exact nobE h0
   | [],h=>exact nobE h
   | _::_::_,h=>exact nobE h
  | cons _ _=>rcases args with _ | ⟨_,_ | ⟨_,_⟩⟩ <;> exact nobE h
 | .var _,X,c,tgt,x,ok,h=>nobE h
 | .con _,X,c,tgt,x,ok,h=>nobE h
 | .glo _ _,X,c,tgt,x,ok,h=>nobE h
 | .bin _ _ _,X,c,tgt,x,ok,h=>nobE h
 | .neg _,X,c,tgt,x,ok,h=>nobE h
 | .cmp _ _ _,X,c,tgt,x,ok,h=>nobE h
 | .chn _ _ _ _ _,X,c,tgt,x,ok,h=>nobE h
 | .not _,X,c,tgt,x,ok,h=>nobE h
 | .and _ _,X,c,tgt,x,ok,h=>nobE h
 | .or _ _,X,c,tgt,x,ok,h=>nobE h
 | .ite _ _ _,X,c,tgt,x,ok,h=>nobE h
 | .tup _,X,c,tgt,x,ok,h=>nobE h
 | .lst _,X,c,tgt,x,ok,h=>nobE h
 | .dic _ _ _,X,c,tgt,x,ok,h=>nobE h
 | .sub _ _,X,c,tgt,x,ok,h=>nobE h
 | .slc _ _ _,X,c,tgt,x,ok,h=>nobE h
 | .bi _ _,X,c,tgt,x,ok,h=>nobE h
 | .mth _ _ _,X,c,tgt,x,ok,h=>nobE h
 | .call _ _,X,c,tgt,x,ok,h=>nobE h
 | .callk _ _ _,X,c,tgt,x,ok,h=>nobE h
 | .callv _ _,X,c,tgt,x,ok,h=>nobE h
 | .comp _ _ _ _ _,X,c,tgt,x,ok,h=>nobE h
 | .box _,X,c,tgt,x,ok,h=>nobE h
 | .one _,X,c,tgt,x,ok,h=>nobE h
 | .flip _,X,c,tgt,x,ok,h=>nobE h
 | .zip _ _,X,c,tgt,x,ok,h=>nobE h
 | .rev hi,X,c,tgt,x,ok,h=>nobE h
 | .items e,X,c,tgt,x,ok,h=>by
  have hb:Ν x.ctorIdx 16=true:=by revert h;cases x <;> first | exact non | exact fun _=>rfl
  revert h;apply ji hb;clear hb;intro q args kws pos h
  have hb:Ν q.ctorIdx 20=true:=by revert h;cases q <;> first | exact non | exact fun _=>rfl
  revert h;apply Yt hb;clear hb;intro o m ap h
  cases kws with
  | cons _ _=>rcases args with _ | ⟨_,_⟩ <;> exact nobE h
  | nil=>
   cases args with
   | cons _ _=>exact nobE h
   | nil=>
    have h:(Wb tgt&&m==("items":Str)&&chkE B c e o&&xR o&&ap.endLine==pos.line)=true:=h
    simp only [ε] at h
    obtain ⟨⟨⟨⟨h0,h1⟩,h2⟩,h3⟩,h4⟩:=h
    cases eq_of_beq h1
    cases tgt with
    | Tuple elts kk tp=>exact zba (sA hcf hm e X c o ok h2).1 h3 h4
    | _=>exact nobE h0
theorem sFs (hcf:CfN B cf) (hm:Mono cf):∀ (es:List E) (X:Cx) (c:Cc) (xs:List Expr),XOk Γ B (spN Γ cf) k X c->chkFs B c es xs=true->es.length<=1->PTs X xs (TXf Γ cf es)
 | [],X,c,xs,ok,h,_=>by
  cases xs with
  | nil=>exact s_fn
  | cons _ _=>exact nobE h
 | [e],X,c,xs,ok,h,_=>by
  cases xs with
  | nil=>exact nobE h
  | cons x xs=>
   have h:(chkE B c e x&&chkFs B c [] xs)=true:=h
   rw [ε] at h
   cases xs with
   | nil=>exact s_f1 (sA hcf hm e X c x ok h.1).2.1
   | cons _ _=>cases (show false=true from h.2)
 | _::_::_,X,c,xs,ok,h,hl=>by
  exfalso
  simp at hl
theorem sO (hcf:CfN B cf) (hm:Mono cf):∀ (o:Option E) (X:Cx) (c:Cc) (x:Option Expr),XOk Γ B (spN Γ cf) k X c->chkO B c o x=true->PO X x (TXo Γ cf o)
 | none,X,c,x,ok,h=>by
  cases x with
  | none=>exact s_poN
  | some _=>exact nobE h
 | some o,X,c,x,ok,h=>by
  cases x with
  | none=>exact nobE h
  | some x=>exact s_po (sA hcf hm o X c x ok h).1
end
theorem sCS (hcf:CfN B cf) (hm:Mono cf) {t:T}{js:List Nat}{it:E}{ifs:List E}{elt:E}{X:Cx}{c:Cc}{x:Expr}(ok:XOk Γ B (spN Γ cf) k X c) (h:chkE B c (.comp t js it ifs elt) x=true):CSet X x (TX Γ cf (.comp t js it ifs elt)):=by
 have hb:Ν x.ctorIdx 8=true:=by revert h;cases x <;> first | exact non | exact fun _=>rfl
 revert h;apply jg hb;clear hb;intro y gens sc pos h
 match gens,h with
 | [⟨tgt,iter,cs,kk⟩],h=>exact (ZJ (sI hcf hm it) (sFs hcf hm ifs) (fun X c x ok q=>(sA hcf hm elt X c x ok q).1) ok h).2
 | [],h=>exact nobE h
 | ⟨_,_,_,_⟩::⟨_,_,_,_⟩::_,h=>exact nobE h
end
section
variable {X:Cx}{Γ:Gm}{Hz H:Hp}{gz g:G}{ρ:List Slot}{σ:L2.St}{S:Store}{x:Expr}{a:Addr}
theorem EnvO.updOw {i:Nat}{c c':D}{o':HO}(env:EnvO Γ Hz H g ρ σ) (hi:ρ[i]?=some (.ow c)) (ha:σ[i]?=some (some (.ref a))) (hc:zJ Γ (upd H a o') g a c') (hin:isIns c'=false):EnvO Γ Hz (upd H a o') g (ρ.set i (.ow c')) σ:=by
 obtain ⟨a',e1,e2,e3,e4,e5,e6⟩:=env.ow i c hi
 rw [ha] at e1
 cases e1
 refine ⟨by rw [bB];exact env.len,fun j e q=>?_,fun j e q=>?_,fun j j' e e' b q1 q2 q3 q4=>?_⟩
 ·rcases zu q with ⟨rfl,h1,h2⟩ | ⟨h1,h2⟩
  ·cases h2
  ·exact env.sh j e h2
 ·rcases zu q with ⟨rfl,h1,h2⟩ | ⟨h1,h2⟩
  ·cases h2
   exact ⟨a,ha,e2,e3,e4,hc,hin⟩
  ·obtain ⟨b,f1,f2,f3,f4,f5,f6⟩:=env.ow j e h2
   have hb:b≠a:=by
    rintro rfl
    exact h1 (env.inj i j c e b hi h2 ha f1)
   exact ⟨b,f1,f2,f3,f4,f5.mono (Le.refl g) fun o z=>by rw [zb hb];exact z,f6⟩
 ·have ow:∀ {j:Nat}{e:D},(ρ.set i (Slot.ow c'))[j]?=some (.ow e)->∃ e,ρ[j]?=some (.ow e):=fun {j e} q=>by
   rcases zu q with ⟨rfl,h1,h2⟩ | ⟨h1,h2⟩
   ·exact ⟨c,hi⟩
   ·exact ⟨e,h2⟩
  obtain ⟨_,w1⟩:=ow q1
  obtain ⟨_,w2⟩:=ow q2
  exact env.inj j j' _ _ b w1 w2 q3 q4
theorem EnvO.zaT {o':HO}(env:EnvO Γ Hz H g ρ σ) (ha:a∈g.α):EnvO Γ Hz (upd H a o') g ρ σ:=by
 refine ⟨env.len,env.sh,fun i d h=>?_,env.inj⟩
 obtain ⟨b,f1,f2,f3,f4,f5,f6⟩:=env.ow i d h
 have hb:b≠a:=by
  rintro rfl
  exact f4 ha
 exact ⟨b,f1,f2,f3,f4,f5.mono (Le.refl g) fun o z=>by rw [zb hb];exact z,f6⟩
theorem Step.vH {H':Hp}{g':G}{o':HO}(s:Step H g H' g') (ha:a∈g'.α):Step H g (upd H' a o') g' where
 le:=s.le
 fr:=fun b u e n=>by
  have hb:b≠a:=by
   rintro rfl
   rcases s.na b ha with q | q
   ·exact n q
   ·rw [e] at q;cases q
  rw [zb hb];exact s.fr b u e n
 ex:=fun b u e=>by
  by_cases hb:b=a
  ·subst hb
   exact ⟨o',zf⟩
  ·rw [zb hb];exact s.ex b u e
 na:=s.na
 nr:=s.nr
theorem WOk.vH {o':HO}{n:Nat}{c c':D}(w:WOk Γ H g S) (he:S[n]?=some c) (hg:gone c=false) (hn:g.α[n]?=some a) (hc:zJ Γ (upd H a o') g a c'):WOk Γ (upd H a o') g (S.set n c') where
 rh:=fun b u q=>by
  have hb:b≠a:=by
   rintro rfl
   rw [w.off n c b he hn hg] at q;cases q
  rw [zb hb];exact w.rh b u q
 len:=by rw [bB];exact w.len
 nd:=w.nd
 off:=fun k d b h1 h2 h3=>by
  rcases zu h1 with ⟨rfl,z1,rfl⟩ | ⟨z1,z2⟩
  ·rw [hn] at h2
   cases h2
   exact w.off _ c _ he hn hg
  ·exact w.off k d b z2 h2 h3
 cell:=fun k c b h1 h2=>by
  rcases zu h1 with ⟨rfl,z1,rfl⟩ | ⟨z1,z2⟩
  ·rw [hn] at h2
   cases h2
   exact hc
  ·have hb:b≠a:=by
    rintro rfl
    exact z1 ((nodup_inj w.nd hn h2))
   exact (w.cell k c b z2 h2).mono (Le.refl g) fun o z=>by rw [zb hb];exact z
where
 nodup_inj:∀ {l:List Addr}{i j:Nat}{b:Addr},l.Nodup->l[i]?=some b->l[j]?=some b->i=j:=fun {l i j b} nd h1 h2=>by
  have hi:=(Η.mp h1).1
  have hj:=(Η.mp h2).1
  have e:l[i]?=l[j]?:=by rw [h1,h2]
  exact (lg hi nd).mp e
theorem size_of {n:Nat}(h:fits (n+1)=true):n < sizeLine:=by
 have:=yN h
 lia
theorem Jz {env:Env}{cpos:Pos}(hs:notStar x=true):((fc cpos (Ϩ [x] env)).all (fun x=>!x.1)&&(b8 cpos (aK [] env)).all (fun x=>x.1.isSome)
  &&decide (([x]:List Expr).length+([]:List bh).length+(if ([]:List bh).isEmpty then 0 else 1) < 30))=true:=by
 rw [zp hs]
 rfl
end
section
variable {κ:Type} [DecidableEq κ]
theorem X6 {α:Type}:∀ (ks:List κ) (ds:List α) (k:κ) (d:α),(mapK ks ds k d).length=ds.length
 | [],ds,_,_=>by cases ds <;> rfl
 | _::_,[],_,_=>rfl
 | a::ks,b::ds,k,d=>by simp [mapK,X6 ks ds k d]
theorem Vn:∀ (ks:List κ) (vs:List V) (k:κ),ks.length=vs.length->((ks.zip vs).any fun kv=>decide (kv.1=k))=hasK ks k
 | [],[],_,_=>rfl
 | a::ks,v::vs,k,h=>by
  have:=Vn ks vs k (by simpa using h)
  unfold hasK at this ⊢
  simp only [bJ,bG,this]
 | [],_::_,_,h=>by simp at h
 | _::_,[],_,h=>by simp at h
theorem Vm:∀ (ks:List κ) (vs:List V) (k:κ) (v:V),(ks.zip vs).map (fun kv=>if kv.1=k then (kv.1,v) else kv)=ks.zip (mapK ks vs k v)
 | [],vs,_,_=>by cases vs <;> rfl
 | _::_,[],_,_=>rfl
 | a::ks,u::vs,k,v=>by
  have:=Vm ks vs k v
  simp only [bJ,Ρ,this,mapK]
  by_cases h:a=k
  ·simp [h]
  ·simp [h]
theorem XD {ks:List κ}{vs:List V}{k:κ}{v:V}(h:ks.length=vs.length):putK (ks.zip vs) k v=(putKs ks vs k v).1.zip (putKs ks vs k v).2:=by
 unfold putK putKs
 rw [Vn ks vs k h]
 by_cases q:hasK ks k=true
 ·rw [if_pos q,if_pos q,Vm]
 ·rw [if_neg q,if_neg q]
  simp [List.zip_append h]
theorem qN {α:Type}{ks:List κ}{ds:List α}{k:κ}{d:α}(h:ks.length=ds.length):(putKs ks ds k d).1.length=(putKs ks ds k d).2.length:=by
 unfold putKs
 split
 ·simp [X6,h]
 ·simp [h]
theorem Zv {Γ:Gm}{g:G}:∀ {ks:List κ}{ds:List D}{vs:List V}{k:κ}{d:D}{v:V},Hass Γ g ds vs->Has Γ g d v->Hass Γ g (mapK ks ds k d) (mapK ks vs k v)
 | [],ds,vs,_,_,_,h,_=>by
  have e1:mapK ([]:List κ) ds=fun _ _=>ds:=by funext a b;cases ds <;> rfl
  have e2:mapK ([]:List κ) vs=fun _ _=>vs:=by funext a b;cases vs <;> rfl
  rw [e1,e2]
  exact h
 | _::_,[],vs,_,_,_,h,_=>by
  cases (show vs=[] from h)
  exact rfl
 | a::ks,b::ds,_,k,d,v,⟨u,r,e,h1,h2⟩,hd=>by
  subst e
  refine ⟨if a=k then v else u,mapK ks r k v,rfl,?_,Zv h2 hd⟩
  split
  ·exact hd
  ·exact h1
theorem jn {Γ:Gm}{g:G}{ks:List κ}{ds:List D}{vs:List V}{k:κ}{d:D}{v:V}(h:Hass Γ g ds vs) (hd:Has Γ g d v):Hass Γ g (putKs ks ds k d).2 (putKs ks vs k v).2:=by
 unfold putKs
 split
 ·exact Zv h hd
 ·exact h.app (Hass.mk1 hd)
theorem je {α β:Type}{ks:List κ}{ds:List α}{es:List β}{k:κ}{d:α}{e:β}:(putKs ks ds k d).1=(putKs ks es k e).1:=by
 unfold putKs
 split <;> rfl
end
def rSetU:TSet:=fun o i v H Q=>rSetL o i v H Q\/∃ a H',o=.ref a/\DPut H a i v H'/\Q H'
theorem za5 {X:Cx}(hu:X.A.units+1 < aq):PSet X rSetU:=by
 intro pj s σ H o i v ov iv u Q I r1 r2 r3 h
 rcases h with h | ⟨a,H',rfl,hp,q⟩
 ·exact set_list pj s σ H o i v ov iv u Q I r1 r2 r3 h
 ·cases r1
  exact JS hu I hp r2 r3 fun s' I'=>⟨H',I',q⟩
theorem KQ {Γ:Gm}{H:Hp}{g:G}{a:Addr}{c c' kd d:D}{vk vd:V}(h:putD c kd d=some c') (hc:zJ Γ H g a c) (sm:Same g.R H) (hk:Has Γ g kd vk) (hd:Has Γ g d vd):
    ∃ o',(∀ Q:Hp->Prop,Q (upd H a o')->rSetU (.ref a) vk vd H Q)/\zJ Γ (upd H a o') g a c'/\isIns c'=false:=by
  cases c with
  | lst l=>
   cases kd with
   | int i=>
    have h:(idx l.length i).map (fun k=>D.lst (l.set k d))=some c':=h
    cases e:idx l.length i with
    | none=>rw [e] at h;cases h
    | some j=>
      rw [e] at h
      cases h
      obtain ⟨vs,h1,h2⟩:=hc
      cases (show vk=.int i from hk)
      refine ⟨.lst (vs.set j vd),fun Q q=>.inl ⟨a,vs,i,j,rfl,rfl,h1,by rw [h2.len];exact e,q⟩,⟨_,zf,h2.set j hd⟩,rfl⟩
   | _=>cases h
  | dK ks ds=>
    have h:(keyD kd).bind (fun k=>if fits (ks.length+1) then some (let p:=putKs ks ds k d;D.dK p.1 p.2) else none)=some c':=by
      cases kd <;> exact h
    cases e:keyD kd with
    | none=>rw [e] at h;cases h
    | some k=>
      rw [e] at h
      have h:(if fits (ks.length+1)=true then some (D.dK (putKs ks ds k d).1 (putKs ks ds k d).2) else none)=some c':=h
      split at h
      · rename_i hf
        cases h
        obtain ⟨vs,h1,h2,h3⟩:=hc
        have ek:=X8 e hk
        subst ek
        have el:ks.length=vs.length:=by rw [h3.len];exact h2
        refine ⟨.dK ((putKs ks vs k vd).1.zip (putKs ks vs k vd).2),fun Q q=>.inr ⟨a,_,rfl,DPut.k h1 (by rw [cM];have:=size_of hf;lia),?_⟩,⟨_,?_,qN h2,jn h3 hd⟩,rfl⟩
        · rw [XD el]
          exact q
        · rw [zf,je (ds:=ds) (es:=vs) (d:=d) (e:=vd)]
      · cases h
  | dT ks ds=>
   cases kd with
   | tup t=>
    have h:(keysD t).bind (fun k=>if fits (ks.length+1) then some (let p:=putKs ks ds k d;D.dT p.1 p.2) else none)=some c':=h
    cases e:keysD t with
    | none=>rw [e] at h;cases h
    | some k=>
      rw [e] at h
      have h:(if fits (ks.length+1)=true then some (D.dT (putKs ks ds k d).1 (putKs ks ds k d).2) else none)=some c':=h
      split at h
      · rename_i hf
        cases h
        obtain ⟨vs,h1,h2,h3⟩:=hc
        obtain ⟨b,us,rfl,h4,h5⟩:=hk
        have ek:=j6 e h5
        subst ek
        have el:ks.length=vs.length:=by rw [h3.len];exact h2
        refine ⟨.dT ((putKs ks vs k vd).1.zip (putKs ks vs k vd).2),fun Q q=>.inr ⟨a,_,rfl,DPut.t h1 (sm _ _ h4) (by rw [cM];have:=size_of hf;lia),?_⟩,⟨_,?_,qN h2,jn h3 hd⟩,rfl⟩
        · rw [XD el]
          exact q
        · rw [zf,je (ds:=ds) (es:=vs) (d:=d) (e:=vd)]
      · cases h
   | _=>cases h
  | _=>cases h
structure EN (Γ:Gm) (Hz:Hp) (gz g:G) (E:Ends) (K:Ko):Prop where
 nx:∀ ρ σ H g' S,Step Hz gz H g'->Le g g'->WOk Γ H g' S->EnvO Γ Hz H g' ρ σ->K (.next ρ) S->E.nx σ H
 bk:∀ ρ σ H g' S,Step Hz gz H g'->Le g g'->WOk Γ H g' S->EnvO Γ Hz H g' ρ σ->K (.brk ρ) S->E.bk σ H
 ct:∀ ρ σ H g' S,Step Hz gz H g'->Le g g'->WOk Γ H g' S->EnvO Γ Hz H g' ρ σ->K (.cnt ρ) S->E.ct σ H
 rt:∀ d fr v H g' S,Step Hz gz H g'->Le g g'->WOk Γ H g' S->VOk Γ Hz d fr v H g'->K (.ret d fr) S->E.rt v H
theorem EN.le {Γ:Gm}{Hz:Hp}{gz g g1:G}{E:Ends}{K:Ko}(n:EN Γ Hz gz g E K) (le:Le g g1):EN Γ Hz gz g1 E K:=
 ⟨fun ρ σ H g' S st l=>n.nx ρ σ H g' S st (le.trans l),fun ρ σ H g' S st l=>n.bk ρ σ H g' S st (le.trans l),fun ρ σ H g' S st l=>n.ct ρ σ H g' S st (le.trans l),fun d fr v H g' S st l=>n.rt d fr v H g' S st (le.trans l)⟩
def TK (Γ:Gm) (Hz:Hp) (gz:G) (W:List Slot->Ko->Store->Prop):TS:=fun E σ H=>∃ ρ S K g,W ρ K S/\Step Hz gz H g/\WOk Γ H g S/\EnvO Γ Hz H g ρ σ/\EN Γ Hz gz g E K
theorem goK {Γ:Gm}{Hz:Hp}{gz:G}{W:List Slot->Ko->Store->Prop}{E:Ends}{σ:L2.St}{H:Hp}{P:Prop}(h:TK Γ Hz gz W E σ H) (f:∀ ρ S K g,W ρ K S->Step Hz gz H g->WOk Γ H g S->EnvO Γ Hz H g ρ σ->EN Γ Hz gz g E K->P):P:=
 let ⟨ρ,S,K,g,a,b,c,d,e⟩:=h;f ρ S K g a b c d e
abbrev TC (Γ:Gm) (cf:Cf) (w:Nat) (Hz:Hp) (gz:G) (c:C):TS:=TK Γ Hz gz (wpC cf w c)
abbrev TCs (Γ:Gm) (cf:Cf) (w:Nat) (Hz:Hp) (gz:G) (cs:List C):TS:=TK Γ Hz gz (wpCs cf w cs)
section
variable {X:Cx}{Γ:Gm}{cf:Cf}{w:Nat}{Hz:Hp}{gz:G}{st:Stmt}{sts aa bb:List Stmt}{x y z tgt o:Expr}{pos p spos:Pos}{e a b:E}{s:C}{ss A B:List C}
theorem WW {i:Expr}(h:∀ lo hi st p,i≠.Slice lo hi st p) (v:δ) (env:Env):gw (.Subscript o i pos) env v=(do
   let ov <- ig [v] (eval o env)
   let iv <- ig [v,ov] (eval i env)
   standAt pos
   ig [v,ov,iv] (setItem ov iv v)
   release [v,ov,iv] []):=by
 cases i <;> first | rfl | exact absurd rfl (h _ _ _ _)
theorem zc5:PS X (.Pass pos) (TC Γ cf w Hz gz .pass):=zbx.imp fun E σ H h0=>goK h0 fun ρ S K g hw st wk env n=>n.nx ρ σ H g S st (Le.refl g) wk env hw
theorem s_brk:PS X (.Break pos) (TC Γ cf w Hz gz .brk):=K1.imp fun E σ H h0=>goK h0 fun ρ S K g hw st wk env n=>n.bk ρ σ H g S st (Le.refl g) wk env hw
theorem s_cnt:PS X (.Continue pos) (TC Γ cf w Hz gz .cnt):=Yn.imp fun E σ H h0=>goK h0 fun ρ S K g hw st wk env n=>n.ct ρ σ H g S st (Le.refl g) wk env hw
theorem zcY:PSs X [] (TCs Γ cf w Hz gz []):=zbv.imp fun E σ H h0=>goK h0 fun ρ S K g hw st wk env n=>n.nx ρ σ H g S st (Le.refl g) wk env hw
theorem za7 (h1:PS X st (TC Γ cf w Hz gz s)) (h2:PSs X sts (TCs Γ cf w Hz gz ss)):PSs X (st::sts) (TCs Γ cf w Hz gz (s::ss)):=
 (KY h1 h2).imp fun E σ H h0=>goK h0 fun ρ S K g hw st wk env n=>⟨ρ,S,_,g,hw,st,wk,env,fun ρ' σ' H' g' S' st' le w' env' q=>⟨ρ',S',K,g',q,st',w',env',n.le le⟩,n.bk,n.ct,n.rt⟩
theorem zcb {H:Hp}{g:G}{ρ:List Slot}{σ:L2.St}{S:Store}{i:Nat}(st:Step Hz gz H g) (wk:WOk Γ H g S) (env:EnvO Γ Hz H g ρ σ):∃ g',Step Hz gz H g'/\Le g g'/\WOk Γ H g' S/\EnvO Γ Hz H g' (ρ.set i (fz ((ρ[i]?).getD .no))) σ:=by
 have same:∀ s,ρ[i]?=some s->ρ.set i s=ρ:=fun s h=>by
  apply lq
  intro j
  by_cases hj:i=j
  ·subst hj;rw [Ϸ (Η.mp h).1,h]
  ·rw [ϊ hj]
 cases e:ρ[i]? with
 | none=>
  refine ⟨g,st,Le.refl g,wk,?_⟩
  rw [mG (lX.mp e)]
  exact env
 | some s=>
  cases s with
  | no=>exact ⟨g,st,Le.refl g,wk,by rw [show fz ((some Slot.no).getD .no)=.no from rfl,same _ e];exact env⟩
  | sh d=>exact ⟨g,st,Le.refl g,wk,by rw [show fz ((some (Slot.sh d)).getD .no)=.sh d from rfl,same _ e];exact env⟩
  | ow d=>
   obtain ⟨a,h1,h2,h3,h4,h5,h6⟩:=env.ow i d e
   obtain ⟨ob,ho,_⟩:=h5.isMut
   have le:Le g (g.put a ob):=Le.put h3
   refine ⟨g.put a ob,st.put h3 h2,le,wk.put ho h3 h4,by simp [env.len],fun j d' q=>?_,fun j d' q=>?_,fun j j' d1 d2 b q1 q2 q3 q4=>?_⟩
   ·rcases zu q with ⟨rfl,_,z⟩ | ⟨_,z⟩
    ·cases z
     exact ⟨.ref a,h1,jo h3 ho h5⟩
    ·obtain ⟨v,f1,f2⟩:=env.sh j d' z
     exact ⟨v,f1,f2.mono le⟩
   ·rcases zu q with ⟨rfl,_,z⟩ | ⟨hne,z⟩
    ·cases z
    ·obtain ⟨b,f1,f2,f3,f4,f5,f6⟩:=env.ow j d' z
     have hb:b≠a:=by
      rintro rfl
      exact hne (env.inj i j d d' b e z h1 f1)
     exact ⟨b,f1,f2,by show upd g.R a ob b=none;rw [zb hb];exact f3,f4,f5.mono le fun _ z=>z,f6⟩
   ·rcases zu q1 with ⟨_,_,z⟩ | ⟨_,z1⟩
    ·cases z
    rcases zu q2 with ⟨_,_,z⟩ | ⟨_,z2⟩
    ·cases z
    exact env.inj j j' d1 d2 b z1 z2 q3 q4
theorem KN {c kd d c':D}(h:putD c kd d=some c'):gone c=false:=by
 cases c <;> first | rfl | cases h
theorem zcc {H:Hp}{g:G}{ρ:List Slot}{σ:L2.St}{S:Store}{i k:Nat}{l:List D}(st:Step Hz gz H g) (wk:WOk Γ H g S) (env:EnvO Γ Hz H g ρ σ) (hi:ρ[i]?=some (.sh (.ref k))) (hk:S[k]?=some (.lst l)):
  ∃ g',Step Hz gz H g'/\Le g g'/\WOk Γ H g' (S.set k (.ref k))/\EnvO Γ Hz H g' (ρ.set i (.sh (.lst l))) σ:=by
 obtain ⟨v,h1,a,ha,e⟩:=env.sh i _ hi
 subst e
 have hn:g.R a=none:=wk.off k _ a hk ha rfl
 obtain ⟨vs,ho,hv⟩:=wk.cell k _ a hk ha
 have le:Le g (g.put a (.lst vs)):=Le.put hn
 have hr:(g.put a (.lst vs)).R a=some (.lst vs):=zf
 refine ⟨g.put a (.lst vs),⟨st.le.trans le,st.fr,st.ex,st.na,fun b q=>?_⟩,le,⟨fun b u q=>?_,by rw [bB];exact wk.len,wk.nd,fun j c b q1 q2 q3=>?_,fun j c b q1 q2=>?_⟩,by simp [env.len],fun j d' q=>?_,fun j d' q=>?_,fun j j' d1 d2 b q1 q2 q3 q4=>?_⟩
 ·by_cases hb:b=a
  ·subst hb
   rcases st.na b (Ϝ ha) with z | z
   ·exact .inr (.inr (.inl z))
   ·exact .inr (.inl z)
  ·have q':upd g.R a (.lst vs) b≠none:=q
   rw [zb hb] at q'
   exact st.nr b q'
 ·have q':upd g.R a (.lst vs) b=some u:=q
  by_cases hb:b=a
  ·subst hb
   rw [zf] at q'
   cases q'
   exact ho
  ·rw [zb hb] at q'
   exact wk.rh b u q'
 ·rcases zu q1 with ⟨rfl,_,z⟩ | ⟨hne,z⟩
  ·rw [z] at q3;cases q3
  ·show upd g.R a (.lst vs) b=none
   have hb:b≠a:=by
    rintro rfl
    exact hne (WOk.vH.nodup_inj wk.nd ha q2)
   rw [zb hb]
   exact wk.off j c b z q2 q3
 ·rcases zu q1 with ⟨rfl,_,z⟩ | ⟨hne,z⟩
  ·have q2:g.α[k]?=some b:=q2
   rw [ha] at q2
   cases q2
   rw [z]
   exact ⟨_,hr,ho,ϳ⟩
  ·exact (wk.cell j c b z q2).mono le fun _ z=>z
 ·rcases zu q with ⟨rfl,_,z⟩ | ⟨_,z⟩
  ·cases z
   exact ⟨.ref a,h1,a,vs,rfl,hr,hv.mono le⟩
  ·obtain ⟨v,f1,f2⟩:=env.sh j d' z
   exact ⟨v,f1,f2.mono le⟩
 ·rcases zu q with ⟨rfl,_,z⟩ | ⟨hne,z⟩
  ·cases z
  ·obtain ⟨b,f1,f2,f3,f4,f5,f6⟩:=env.ow j d' z
   have hb:b≠a:=by
    rintro rfl
    exact f4 (Ϝ ha)
   exact ⟨b,f1,f2,by show upd g.R a (.lst vs) b=none;rw [zb hb];exact f3,f4,f5.mono le fun _ z=>z,f6⟩
 ·rcases zu q1 with ⟨_,_,z⟩ | ⟨_,z1⟩
  ·cases z
  rcases zu q2 with ⟨_,_,z⟩ | ⟨_,z2⟩
  ·cases z
  exact env.inj j j' d1 d2 b z1 z2 q3 q4
theorem s_frr {i:Nat}(h2:PSs X sts (TCs Γ cf w Hz gz ss)):PSs X sts (TCs Γ cf w Hz gz (.frr i::ss)):=
 h2.imp fun E σ H h0=>goK h0 fun ρ S K g hw st wk env n=>by
  obtain ⟨k,l,e1,e2,hw⟩:=zaB hw
  obtain ⟨g',st',le,w',env'⟩:=zcc st wk env e1 e2
  exact ⟨_,_,K,g',hw,st',w',env',n.le le⟩
theorem s_frz {i:Nat}(h2:PSs X sts (TCs Γ cf w Hz gz ss)):PSs X sts (TCs Γ cf w Hz gz (.frz i::ss)):=
 h2.imp fun E σ H h0=>goK h0 fun ρ S K g hw st wk env n=>by
  obtain ⟨g',st',le,w',env'⟩:=zcb (i:=i) st wk env
  exact ⟨_,S,K,g',hw,st',w',env',n.le le⟩
theorem zc8 (h:PE X x (TX Γ cf e)) (hs:gK x none pos.line X.env=pure false):PS X (.Expr x pos) (TC Γ cf w Hz gz (.expr e)):=
 (Ym h hs).imp fun E σ H h0=>goK h0 fun ρ S K g hw st wk env n=>⟨ρ,S,_,g,Hz,hw,wk,env,fun x v H1 g1 S1 s1 w1 vx q=>n.nx ρ σ H1 g1 S1 (st.trans s1) s1.le w1 (zm env s1) q⟩
theorem s_ret (hn:∀ i,e≠.var i) (h:PE X x (TX Γ cf e)):PS X (.Return (some x) pos) (TC Γ cf w Hz gz (.ret e)):=
 (zai h).imp fun E σ H h0=>goK h0 fun ρ S K g hw st wk env n=>by
  have hw:wpE cf ρ e (fun x S1=>retV x fun o=>K o S1) S:=by cases e <;> first | exact absurd rfl (hn _) | exact hw
  refine ⟨ρ,S,_,g,Hz,hw,wk,env,fun x v H1 g1 S1 s1 w1 vx q=>?_⟩
  obtain ⟨d,k⟩:=x
  cases k with
  | st=>exact n.rt d false v H1 g1 S1 (st.trans s1) s1.le w1 vx q
  | fr=>exact n.rt d true v H1 g1 S1 (st.trans s1) s1.le w1 (vx.back st) q
  | bo=>exact q.elim
theorem zc2 {i:Nat}{n:Str}(hN:X.N[i]?=some n) (hv:Vis X.env.scope n) (hd:(n==("__debug__":Str))=false) (hcd:(n==("__classdict__":Str))=false):PS X (.Return (some (.Name n p)) pos) (TC Γ cf w Hz gz (.ret (.var i))):=
 (zai (XH hN hv hd hcd)).imp fun E σ H h0=>goK h0 fun ρ S K g hw st wk env n=>by
  have hw:sel ρ[i]? (fun d=>K (.ret d false) S) (fun d=>K (.ret d true) S):=hw
  cases e:ρ[i]? with
  | none=>rw [e] at hw;exact hw.elim
  | some s=>
   rw [e] at hw
   cases s with
   | no=>exact hw.elim
   | sh d=>
    obtain ⟨v,h1,h2⟩:=env.sh i d e
    exact ⟨v,h1,n.rt d false v H g S st (Le.refl g) wk h2 hw⟩
   | ow d=>
    obtain ⟨a,h1,h2,h3,h4,h5,h6⟩:=env.ow i d e
    exact ⟨.ref a,h1,n.rt d true _ H g S st (Le.refl g) wk ⟨a,rfl,h2,h3,h4,h5⟩ hw⟩
theorem zc3:PS X (.Return none pos) (TC Γ cf w Hz gz .retN):=zbw.imp fun E σ H h0=>goK h0 fun ρ S K g hw st wk env n=>n.rt .non false .non H g S st (Le.refl g) wk rfl hw
theorem s_if (h:PT X x (TB Γ cf e)) (ha:PSs X aa (TCs Γ cf w Hz gz A)) (hb:PSs X bb (TCs Γ cf w Hz gz B)):PS X (.If x aa bb pos) (TC Γ cf w Hz gz (.ite e A B)):=
 (ps_if h ha hb).imp fun E σ H h0=>goK h0 fun ρ S K g hw st wk env n=>⟨ρ,S,_,g,Hz,hw,wk,env,fun x H1 g1 S1 s1 w1 h=>by
  obtain ⟨r,e,q⟩:=xX h
  rw [e]
  show (if r=true then _ else _)
  cases r with
  | true=>exact iteT ⟨ρ,S1,K,g1,q,st.trans s1,w1,zm env s1,n.le s1.le⟩
  | false=>exact iteF ⟨ρ,S1,K,g1,q,st.trans s1,w1,zm env s1,n.le s1.le⟩⟩
theorem fresh_ne {H:Hp}{g:G}{ρ:List Slot}{σ:L2.St}{v:V}{d:D}{H1:Hp}{g1:G}(env:EnvO Γ Hz H g ρ σ) (vx:VN Γ H (d,.fr) v H1 g1):∀ (i:Nat) (d:D),ρ[i]?=some (.ow d)->σ[i]?≠some (some v):=fun i d' hi e=>by
 obtain ⟨a,rfl,h0,_⟩:=vx
 obtain ⟨b,f1,_,_,_,f5,_⟩:=env.ow i d' hi
 rw [f1] at e
 cases e
 obtain ⟨o,ho,_⟩:=f5.isMut
 rw [h0] at ho
 cases ho
theorem V3 {H H1:Hp}{g g1:G}{ρ ρ2:List Slot}{σ:L2.St}{S1:Store}{t:T}{x:Vl}{v:V}{E:Ends}{K:Ko}(st:Step Hz gz H g) (env:EnvO Γ Hz H g ρ σ) (n:EN Γ Hz gz g E K) (s1:Step H g H1 g1) (w1:WOk Γ H1 g1 S1) (vx:VN Γ H x v H1 g1) (hb:bindV ρ t x=some ρ2) (q:K (.next ρ2) S1):tgOf X.K t v σ H1 fun σ' H'=>E.nx σ' H':=by
 have env1:=zm env s1
 obtain ⟨d,k⟩:=x
 cases k with
 | st=>exact jM (fr:=false) hb env1 w1.rh vx (fun h=>by cases h) fun σ' env'=>n.nx _ σ' H1 g1 S1 (st.trans s1) s1.le w1 env' q
 | fr=>exact jM (fr:=true) hb env1 w1.rh (vx.back st) (fun _=>fresh_ne env vx) fun σ' env'=>n.nx _ σ' H1 g1 S1 (st.trans s1) s1.le w1 env' q
 | bo=>cases hb
noncomputable def noBox:E->Bool
 | .box _=>false
 | _=>true
theorem Q9 {ρ:List Slot}{t:T}{K:Ko}{S:Store}(hn:noBox e=true) (hw:wpC cf w (.set t e) ρ K S):wpE cf ρ e (fun x S1=>opt (bindV ρ t x) fun ρ2=>K (.next ρ2) S1) S:=by
 cases e <;> first | exact hw | cases hn
theorem s_set {t:T}(hn:noBox e=true) (h:PE X x (TX Γ cf e)) (hg:PG X tgt (tgOf X.K t)) (hs:cY [tgt] x pos.line X.env=pure false) (hw:cj [tgt] x X.env=pure none) (ha:(aW [tgt] X.env).map (·.2)=[gw tgt X.env]):PS X (.Assign [tgt] x pos) (TC Γ cf w Hz gz (.set t e)):=
 (Ug h hg hs hw ha).imp fun E σ H h0=>goK h0 fun ρ S K g hw st wk env n=>⟨ρ,S,_,g,Hz,Q9 hn hw,wk,env,fun x v H1 g1 S1 s1 w1 vx q=>by
  obtain ⟨ρ2,hb,q⟩:=zQ q
  exact V3 (X:=X) st env n s1 w1 vx hb q⟩
theorem zc0 {t:T}(h:PE X x (TX Γ cf e)) (hg:PG X tgt (tgOf X.K t)) (hs:cY [tgt] x pos.line X.env=pure false) (hw:cj [tgt] x X.env=pure none) (ha:(aW [tgt] X.env).map (·.2)=[gw tgt X.env]):PS X (.Assign [tgt] x pos) (TC Γ cf w Hz gz (.set t (.box e))):=
 (Ug h hg hs hw ha).imp fun E σ H h0=>goK h0 fun ρ S K g hw st wk env n=>⟨ρ,S,_,g,Hz,hw,wk,env,fun x v H1 g1 S1 s1 w1 vx q=>by
  obtain ⟨d,k⟩:=x
  cases k with
  | fr=>
   obtain ⟨ρ2,hb,q⟩:=zQ q
   obtain ⟨g2,s2,w2,h2⟩:=boxed s1 w1 vx
   exact V3 (X:=X) (x:=(.ref S1.length,.st)) st env n s2 w2 h2 hb q
  | _=>exact q.elim⟩
theorem zcZ {t:T}{js:List Nat}{it elt:E}{ifs:List E}{i:Nat}{n:Str}{np:Pos}(h:CSet X x (TX Γ cf (.comp t js it ifs elt))) (hp:PG X (.Name n np) (gName i)) (hsw:gK x (some (.Name n np)) pos.line X.env=pure true):PS X (.Assign [.Name n np] x pos) (TC Γ cf w Hz gz (.set (.one i) (.comp t js it ifs elt))):=
 (h n np pos i hp hsw).imp fun E σ H h0=>goK h0 fun ρ S K g hw st wk env n=>⟨ρ,S,_,g,Hz,Q9 rfl hw,wk,env,fun x v H1 g1 S1 s1 w1 vx q=>by
  obtain ⟨ρ2,hb,q⟩:=zQ q
  exact V3 (X:=X) (t:=.one i) st env n s1 w1 vx hb q⟩
theorem za6 (ht:PT X x (TB Γ cf e)) (hb:PSs X aa (TCs Γ cf w Hz gz A)) (hp:gO (Χ X.prog X.w) X.A X.env X.xe):PS X (.While x aa [] pos) (TC Γ cf w Hz gz (.whl e A)):=
 (KZ hp ht hb).imp fun E σ H h0=>goK h0 fun ρ S K g hw st wk env n=>by
  have hw:whlW (fun ρ=>wpE cf ρ e) (fun ρ=>wpCs cf w A ρ) w ρ K S:=hw
  refine ⟨fun m σ H=>∃ ρ S g1,whlW (fun ρ=>wpE cf ρ e) (fun ρ=>wpCs cf w A ρ) m ρ K S/\Step Hz gz H g1/\Le g g1/\WOk Γ H g1 S/\EnvO Γ Hz H g1 ρ σ,⟨w,ρ,S,g,hw,st,Le.refl g,wk,env⟩,?_⟩
  rintro m σ H ⟨ρ,S,g1,hw,st,le,wk,env⟩
  cases m with
  | zero=>exact hw.elim
  | succ m=>
   refine ⟨ρ,S,_,g1,Hz,hw,wk,env,fun x H2 g2 S2 s2 w2 h=>?_⟩
   obtain ⟨r,e,q⟩:=xX h
   rw [e]
   show (if r=true then _ else _)
   cases r with
   | false=>exact iteF (n.nx ρ σ H2 g2 S2 (st.trans s2) (le.trans s2.le) w2 (zm env s2) q)
   | true=>
    refine iteT ⟨fun σ' H'=>∃ ρ S g1,whlW (fun ρ=>wpE cf ρ _) (fun ρ=>wpCs cf w A ρ) m ρ K S/\Step Hz gz H' g1/\Le g g1/\WOk Γ H' g1 S/\EnvO Γ Hz H' g1 ρ σ',fun σ' H' q=>⟨m,Nat.lt_succ_self m,q⟩,ρ,S2,_,g2,q,st.trans s2,w2,zm env s2,?_⟩
    have l2:=le.trans s2.le
    exact ⟨fun ρ' σ' H' g' S' st' l w' env' q=>⟨ρ',S',g',q,st',l2.trans l,w',env'⟩,fun ρ' σ' H' g' S' st' l w' env' q=>n.nx ρ' σ' H' g' S' st' (l2.trans l) w' env' q,fun ρ' σ' H' g' S' st' l w' env' q=>⟨ρ',S',g',q,st',l2.trans l,w',env'⟩,fun d fr v H' g' S' st' l w' vo q=>n.rt d fr v H' g' S' st' (l2.trans l) w' vo q⟩
theorem s_for {t:T}{it:E}(hi:PI X tgt x (TXi Γ cf it)) (hg:PG X tgt (tgOf X.K t)) (hb:PSs X aa (TCs Γ cf w Hz gz A)) (hp:gO (Χ X.prog X.w) X.A X.env X.xe) (hc:X.calm=true) (hs:∀ v,bH x X.env v=pure v):PS X (.For tgt x aa [] pos) (TC Γ cf w Hz gz (.forr t it A)):=
 (zdn hp hc hi hg hb hs).imp fun E σ H h0=>goK h0 fun ρ S K g hw st wk env n=>⟨ρ,S,_,g,Hz,hw,wk,env,fun l J H1 g1 S1 s1 w1 hJ h1=>by
  refine ⟨fun i m σ H=>m=l.length - i/\i<=l.length/\∃ ρ S g2,forW t (fun ρ=>wpCs cf w A ρ) (l.drop i) ρ K S/\Step Hz gz H g2/\Le g1 g2/\WOk Γ H g2 S/\EnvO Γ Hz H g2 ρ σ,⟨_,rfl,bF _,ρ,S1,g1,h1,st.trans s1,Le.refl g1,w1,zm env s1⟩,?_⟩
  rintro i m σ H ⟨rfl,hi,ρ,S,g2,hw,st2,le,wk,env⟩
  by_cases hlt:i < l.length
  ·refine .inr ⟨hJ.go i H g2 le wk.rh hlt,fun σ' H'=>∃ ρ S g3,forW t (fun ρ=>wpCs cf w A ρ) (l.drop (i+1)) ρ K S/\Step Hz gz H' g3/\Le g1 g3/\WOk Γ H' g3 S/\EnvO Γ Hz H' g3 ρ σ',fun σ' H' q=>⟨l.length - (i+1),by omega,rfl,hlt,q⟩,fun z H3 hy=>?_⟩
   obtain ⟨g3,st3,_,w3,hz⟩:=hJ.yld i H g2 S z H3 l[i] le wk (ξ hlt) hy
   rw [fH hlt] at hw
   obtain ⟨ρ',es,hw⟩:=zQ (show opt (bindT ρ t (l[i],false)) _ from hw)
   have l3:=le.trans st3.le
   have l4:=s1.le.trans l3
   refine jM (fr:=false) es (zm env st3) w3.rh hz (fun h=>by cases h) fun σ3 env3=>⟨ρ',S,_,g3,hw,st2.trans st3,w3,env3,?_⟩
   exact ⟨fun ρ' σ' H' g' S' st' l w' env' q=>⟨ρ',S',g',q,st',l3.trans l,w',env'⟩,fun ρ' σ' H' g' S' st' l w' env' q=>n.nx ρ' σ' H' g' S' st' (l4.trans l) w' env' q,fun ρ' σ' H' g' S' st' l w' env' q=>⟨ρ',S',g',q,st',l3.trans l,w',env'⟩,fun d fr v H' g' S' st' l w' vo q=>n.rt d fr v H' g' S' st' (l4.trans l) w' vo q⟩
  ·have e:i=l.length:=by omega
   subst e
   rw [List.drop_length] at hw
   exact .inl ⟨hJ.stop _ H g2 le wk.rh (ν _),n.nx ρ σ H g2 S st2 (s1.le.trans le) wk env hw⟩⟩
theorem zal {s:Option Slot}{Q:List D->Prop}(h:owL s Q):∃ l,s=some (.ow (.lst l))/\Q l:=by
 cases s with
 | none=>exact h.elim
 | some s=>
  cases s with
  | ow d=>
   cases d with
   | lst l=>exact ⟨l,rfl,h⟩
   | _=>exact h.elim
  | _=>exact h.elim
theorem zei {s:D}{Q:Nat->Prop}(h:isR s Q):∃ n,s=.ref n/\Q n:=by
 cases s with
 | ref n=>exact ⟨n,rfl,h⟩
 | _=>exact h.elim
section
variable {i:Nat}{n:Str}{apos cpos:Pos}
theorem s_app (hN:X.N[i]?=some n) (hv:Vis X.env.scope n) (hd:(n==("__debug__":Str))=false) (hcd:(n==("__classdict__":Str))=false) (hx:PE X x (TX Γ cf e)) (hs:notStar x=true) (hl:(apos.endLine==cpos.line)=true):
  PS X (.Expr (.Call (.Attribute (.Name n p) "append" apos) [x] [] cpos) pos) (TC Γ cf w Hz gz (.app i e)):=
 (Ym (pe_bm fL PySem.F.slot_list_append PySem.F.type_list_append qZ (XH hN hv hd hcd) (yM hx vZ (zp hs _ _)) rfl (Jz hs) hl (zp hs _ _) rfl)).imp fun E σ H h0=>goK h0 fun ρ S K g hw st wk env n=>by
  obtain ⟨l,eo,hw⟩:=zal hw
  obtain ⟨a,h1,h2,h3,h4,h5,h6⟩:=env.ow i _ eo
  obtain ⟨vs,h7,h8⟩:=h5
  refine ⟨.ref a,h1,.inl ⟨rfl,vs,SqL.of h7⟩,ρ,S,_,g,Hz,hw,wk,env,fun x v H1 g1 S1 s1 w1 vx q=>?_⟩
  obtain ⟨g2,s2,w2,hx,q⟩:=vx.keep s1 w1 q
  obtain ⟨hf,q⟩:=xK q
  have env2:=zm env s2
  obtain ⟨k1,k2,k3⟩:=s2.kept h7 h3 h4
  refine ⟨a,vs,v,rfl,rfl,k1,by rw [h8.len];exact size_of hf,n.nx _ σ _ g2 S1 ((st.trans s2).zT h2) s2.le (w2.zT k2 k3) (env2.updOw (c':=.lst (l++[x.1])) eo h1 ⟨vs++[v],zf,(h8.mono s2.le).app (Hass.mk1 hx)⟩ rfl) q⟩
theorem s_ext (hN:X.N[i]?=some n) (hv:Vis X.env.scope n) (hd:(n==("__debug__":Str))=false) (hcd:(n==("__classdict__":Str))=false) (hx:PE X x (TX Γ cf e)) (hs:notStar x=true) (hl:(apos.endLine==cpos.line)=true):
  PS X (.Expr (.Call (.Attribute (.Name n p) "extend" apos) [x] [] cpos) pos) (TC Γ cf w Hz gz (.ext i e)):=
 (Ym (pe_bm fL PySem.F.slot_list_extend PySem.F.type_list_extend UW (XH hN hv hd hcd) (yM hx vZ (zp hs _ _)) rfl (Jz hs) hl (zp hs _ _) rfl)).imp fun E σ H h0=>goK h0 fun ρ S K g hw st wk env n=>by
  obtain ⟨l,eo,hw⟩:=zal hw
  obtain ⟨a,h1,h2,h3,h4,h5,h6⟩:=env.ow i _ eo
  obtain ⟨vs,h7,h8⟩:=h5
  refine ⟨.ref a,h1,.inl ⟨rfl,vs,SqL.of h7⟩,ρ,S,_,g,Hz,hw,wk,env,fun x v H1 g1 S1 s1 w1 vx q0=>?_⟩
  obtain ⟨g2,s2,w2,hx,q1⟩:=vx.keep s1 w1 q0
  obtain ⟨m,em,q2⟩:=zQ q1
  obtain ⟨hf,q⟩:=xK q2
  clear q0 q1 q2
  have env2:=zm env s2
  obtain ⟨k1,k2,k3⟩:=s2.kept h7 h3 h4
  generalize x.1=d at *
  cases d with
  | lst m'=>
   cases em
   obtain ⟨b,zs,rfl,hb1,hb2⟩:=hx
   exact ⟨a,b,vs,zs,rfl,rfl,k1,w2.rh _ _ hb1,by rw [h8.len,hb2.len];exact yN hf,n.nx _ σ _ g2 S1 ((st.trans s2).zT h2) s2.le (w2.zT k2 k3) (env2.updOw (c':=.lst (l++m)) eo h1 ⟨vs++zs,zf,(h8.mono s2.le).app hb2⟩ rfl) q⟩
  | _=>cases em
theorem s_sti {ix:Expr}{oe ke ve:E}(hu:X.A.units+1 < aq) (hx:PE X x (TX Γ cf ve)) (ho:PE X o (TX Γ cf oe)) (hi:PE X ix (TX Γ cf ke)) (hns:∀ lo hi st p,ix≠.Slice lo hi st p)
  (hs:cY [.Subscript o ix pos] x spos.line X.env=pure false) (hw:cj [.Subscript o ix pos] x X.env=pure none) (ha:(aW [.Subscript o ix pos] X.env).map (·.2)=[gw (.Subscript o ix pos) X.env]):
  PS X (.Assign [.Subscript o ix pos] x spos) (TC Γ cf w Hz gz (.sti oe ke ve)):=
 (Ug hx (zds ho hi (za5 hu) (fun v=>WW hns v X.env)) hs hw ha).imp fun E σ H h0=>goK h0 fun ρ S K g hw st wk env n=>by
  refine ⟨ρ,S,_,g,Hz,hw,wk,env,fun x v H1 g1 S1 s1 w1 vx q=>?_⟩
  obtain ⟨g2,s2,w2,hx,q⟩:=vx.keep s1 w1 q
  refine ⟨ρ,S1,_,g2,Hz,q,w2,zm env s2,fun z t H3 g3 S3 s3 w3 vz q=>?_⟩
  obtain ⟨g4,s4,w4,hz,q⟩:=vz.keep s3 w3 q
  refine ⟨ρ,S3,_,g4,Hz,q,w4,zm env (s2.trans s4),fun y u H5 g5 S5 s5 w5 vy q=>?_⟩
  obtain ⟨g6,s6,w6,hy,q⟩:=vy.keep s5 w5 q
  obtain ⟨m,er,q⟩:=zei q
  obtain ⟨c,eo,q⟩:=zQ q
  obtain ⟨c',ep,q⟩:=zQ q
  rw [er] at hz
  obtain ⟨a,ha2,rfl⟩:=hz.mono s6.le
  obtain ⟨o',b1,b2,b3⟩:=KQ ep (w6.cell m c a eo ha2) w6.rh hy (hx.mono (s4.le.trans s6.le))
  have hm:=Ϝ ha2
  have s7:=(s2.trans s4).trans s6
  exact b1 _ (n.nx _ σ _ g6 _ ((st.trans s7).vH hm) s7.le (w6.vH eo (KN ep) ha2 b2) ((zm env s7).zaT hm) q)
end
end
noncomputable def Yu:Expr->Bool
 | .ListComp _ _ _ _=>false
 | .SetComp _ _ _ _=>false
 | .DictComp _ _ _ _ _=>false
 | _=>true
noncomputable def kj:E->Bool
 | .comp _ _ _ _ _=>true
 | _=>false
noncomputable def v7:Expr->Bool
 | .Tuple _ _ _=>false
 | _=>true
noncomputable def jE (c:Cc) (n:Str) (np:Pos):Expr->Bool
 | .ListComp _ _ sc p=>c.names.lookup n==some .local&&np.line==p.line&&!(sc.names.any fun (m,k)=>m==n&&(k==.local||k==.cell))
 | _=>false
noncomputable def chkN (c:Cc) (i:Nat) (n:Str):Bool:=c.N[i]?==some n&&visK (c.names.lookup n)&&yL n
structure Meth where
 o:Expr
 m:Str
 ap:Pos
 x:Expr
 cp:Pos
noncomputable def Wz:Expr->Option Meth
 | .Call f args kws cp=>if xW kws=true then (asAtt f).bind fun q=>(sole args).map fun x=>⟨q.1,q.2.1,q.2.2,x,cp⟩ else none
 | _=>none
theorem Kc {x:Expr}{q:Meth}(h:Wz x=some q):x=.Call (.Attribute q.o q.m q.ap) [q.x] [] q.cp:=by
 cases x with
 | Call f args kws cp=>
  have h:(if xW kws=true then (asAtt f).bind fun q=>(sole args).map fun x=>(⟨q.1,q.2.1,q.2.2,x,cp⟩:Meth) else none)=some q:=h
  split at h
  ·rename_i hn
   cases e1:asAtt f with
   | none=>rw [e1] at h;cases h
   | some z=>
    rw [e1] at h
    cases e2:sole args with
    | none=>rw [e2] at h;cases h
    | some y=>
     rw [e2] at h
     cases h
     rw [vB hn,WD e1,Yj e2]
  ·cases h
 | _=>cases h
noncomputable def wF (B:Tb) (c:Cc) (name:Str) (i:Nat) (e:E) (x:Expr):Bool:=match Wz x with
  | some q=>(match asName q.o with
    | some r=>chkN c i r.1&&q.m==name&&chkE B c e q.x&&notStar q.x&&q.ap.endLine==q.cp.line
    | none=>false)
  | none=>false
theorem ju {B:Tb}{c:Cc}{name:Str}{i:Nat}{e:E}{x:Expr}(h:wF B c name i e x=true):∃ n np ap y cp,x=.Call (.Attribute (.Name n np) name ap) [y] [] cp/\chkN c i n=true/\chkE B c e y=true/\notStar y=true/\(ap.endLine==cp.line)=true:=by
  unfold wF at h
  cases e1:Wz x with
  | none=>rw [e1] at h;cases h
  | some q=>
    rw [e1] at h
    have h:(match asName q.o with
      | some r=>chkN c i r.1&&q.m==name&&chkE B c e q.x&&notStar q.x&&q.ap.endLine==q.cp.line
      | none=>false)=true:=h
    cases e2:asName q.o with
    | none=>rw [e2] at h;cases h
    | some r=>
      rw [e2] at h
      have h:(chkN c i r.1&&q.m==name&&chkE B c e q.x&&notStar q.x&&q.ap.endLine==q.cp.line)=true:=h
      simp only [ε] at h
      obtain ⟨⟨⟨⟨h1,h2⟩,h3⟩,h4⟩,h5⟩:=h
      refine ⟨r.1,r.2,q.ap,q.x,q.cp,?_,h1,h3,h4,h5⟩
      rw [Kc e1,Z6 e2,eq_of_beq h2]
noncomputable def asM0:Expr->Option (Expr×Str×Pos×Pos)
  | .Call f as ks cp=>(match f with
    | .Attribute o m ap=>(match as with
      | []=>(match ks with
        | []=>some (o,m,ap,cp)
        | _=>none)
      | _=>none)
    | _=>none)
  | _=>none
noncomputable def zeK (c:Cc) (i:Nat) (x:Expr):Bool:=match asM0 x with
  | some q=>(match asName q.1 with
    | some r=>chkN c i r.1&&q.2.1==("pop":Str)&&q.2.2.1.endLine==q.2.2.2.line
    | none=>false)
  | none=>false
noncomputable def zeG (B:Tb) (c:Cc) (o e:E) (x:Expr):Bool:=match Wz x with
 | some q=>(asName q.o).isSome&&chkE B c o q.o&&q.m==("append":Str)&&chkE B c e q.x&&notStar q.x&&q.ap.endLine==q.cp.line
 | none=>false
noncomputable def zeF (B:Tb) (c:Cc) (o:E) (x:Expr):Bool:=match asM0 x with
 | some q=>(asName q.1).isSome&&chkE B c o q.1&&q.2.1==("pop":Str)&&q.2.2.1.endLine==q.2.2.2.line
 | none=>false
noncomputable def isNT:Expr->Bool
 | .Name _ _=>true
 | .Tuple _ _ _=>true
 | _=>false
mutual
noncomputable def chkC (B:Tb) (c:Cc):C->Stmt->Bool
  | .set t e,.Assign ts x _=>(match sole ts with
    | some tg=>chkE B c e x&&chkT c t tg&&(match asName tg with
      | some q=>!jE c q.1 q.2 x||kj e
      | none=>Zq tg&&v7 x)
    | none=>false)
  | .expr e,.Expr x _=>chkE B c e x&&Yu x
  | .ret e,.Return v _=>(match v with
    | some x=>chkE B c e x
    | none=>false)
  | .retN,.Return v _=>v.isNone
  | .ite e a b,.If x aa bb _=>chkE B c e x&&chkCs B c a aa&&chkCs B c b bb
  | .whl e b,.While x bb r _=>chkE B c e x&&chkCs B c b bb&&xW r
  | .forr t it b,.For tgt x bb r _=>chkI B c it tgt x&&chkT c t tgt&&yZ x&&chkCs B c b bb&&xW r
  | .app i e,.Expr x _=>wF B c "append" i e x
  | .ext i e,.Expr x _=>wF B c "extend" i e x
  | .sti o k v,.Assign ts x _=>(match (sole ts).bind asSub with
    | some q=>chkE B c o q.1&&chkE B c k q.2.1&&chkE B c v x
    | none=>false)
  | .pass,.Pass _=>true
  | .brk,.Break _=>true
  | .cnt,.Continue _=>true
  | _,_=>false
noncomputable def chkCs (B:Tb) (c:Cc):List C->List Stmt->Bool
 | .frz _::ss,xs=>chkCs B c ss xs
 | .frr _::ss,xs=>chkCs B c ss xs
 | [],[]=>true
 | s::ss,x::xs=>chkC B c s x&&chkCs B c ss xs
 | _,_=>false
end
structure XSt (Γ:Gm) (B:Tb) (cf:Cf) (k:Nat) (X:Cx) (c:Cc):Prop where
 ok:XOk Γ B (spN Γ cf) k X c
 fn:c.fn=true
 own:gO (Χ X.prog X.w) X.A X.env X.xe
 hcf:CfN B cf
 hm:Mono cf
section
variable {Γ:Gm}{B:Tb}{cf:Cf}{k w:Nat}{X:Cx}{c:Cc}{Hz:Hp}{gz:G}{x:Expr}{e:E}{n:Str}{pos np:Pos}{i:Nat}
theorem XSt.pe (ok:XSt Γ B cf k X c) (h:chkE B c e x=true):PE X x (TX Γ cf e):=(sA ok.hcf ok.hm e X c x ok.ok h).1
theorem XSt.pt (ok:XSt Γ B cf k X c) (h:chkE B c e x=true):PT X x (TB Γ cf e):=(sA ok.hcf ok.hm e X c x ok.ok h).2.1
theorem noSl {y:Expr}(h:chkE B c e y=true):∀ lo hi st p,y≠.Slice lo hi st p:=fun lo hi st p q=>by
 subst q
 exact UT e h
theorem qY (h:Yu x=true) (t:Option Expr) (l:Nat) (env:Env):gK x t l env=pure false:=by
 cases x <;> first | rfl | cases h
theorem Kv (x o y:Expr) (p:Pos) (l:Nat) (env:Env):cY [.Subscript o y p] x l env=pure false:=by
 cases x <;> rfl
theorem Ku (x:Expr) (es:List Expr) (kk:Nat) (p:Pos) (l:Nat) (env:Env):cY [.Tuple es kk p] x l env=pure false:=by
 cases x <;> rfl
theorem WY (x o y:Expr) (p:Pos) (env:Env):cj [.Subscript o y p] x env=pure none:=by
 cases x <;> rfl
theorem Yh (x:Expr) (n:Str) (p:Pos) (env:Env):cj [.Name n p] x env=pure none:=by
 cases x <;> rfl
theorem WX (h:v7 x=true) (es:List Expr) (kk:Nat) (p:Pos) (env:Env):cj [.Tuple es kk p] x env=pure none:=by
 cases x <;> first | rfl | cases h
theorem noSC {y:Expr}{g:List Comprehension}{sc:c7}{p:Pos}(e:E) (h:chkE B c e (.SetComp y g sc p)=true):False:=by
 cases e with
 | box e=>exact nobE h
 | _=>exact nobE h
theorem noDC {y z:Expr}{g:List Comprehension}{sc:c7}{p:Pos}(e:E) (h:chkE B c e (.DictComp y z g sc p)=true):False:=by
 cases e with
 | box e=>exact nobE h
 | _=>exact nobE h
theorem VH (ok:XOk Γ B (spN Γ cf) k X c) (hx:chkE B c e x=true) (l:Nat):gK x (some (.Name n np)) l X.env=pure (jE c n np x):=by
 have hk:X.env.kindOf n=c.names.lookup n:=by
  unfold lZ
  rw [ok.nm]
 have hb:X.env.blockKind=.function:=by
  unfold Env.blockKind
  rw [ok.kd]
  rfl
 cases x with
 | ListComp y g sc p=>
  show pure (X.env.blockKind==.function&&X.env.kindOf n==some .local&&np.line==p.line&&!(sc.names.any fun (m,k)=>m==n&&(k==.local||k==.cell)))=(pure (c.names.lookup n==some .local&&np.line==p.line&&!(sc.names.any fun (m,k)=>m==n&&(k==.local||k==.cell))):Sem Bool)
  rw [hb,hk]
  rfl
 | SetComp y g sc p=>exact (noSC e hx).elim
 | DictComp y g a sc p=>exact (noDC e hx).elim
 | _=>rfl
theorem zaa (ok:XSt Γ B cf k X c) {t:T}{tgt:Expr}(h1:chkE B c e x=true) (hpg:PG X tgt (tgOf X.K t)) (hs:cY [tgt] x pos.line X.env=pure false) (hw:cj [tgt] x X.env=pure none) (ha:(aW [tgt] X.env).map (·.2)=[gw tgt X.env]):PS X (.Assign [tgt] x pos) (TC Γ cf w Hz gz (.set t e)):=by
 cases hn:noBox e with
 | true=>exact s_set hn (ok.pe h1) hpg hs hw ha
 | false=>
  cases e with
  | box e=>exact zc0 (ok.pe (e:=e) (ε _ _ ▸ (show (Ui x&&chkE B c e x)=true from h1)).2) hpg hs hw ha
  | _=>cases hn
theorem zdb (ok:XSt Γ B cf k X c) {t:T}{ts:List Expr}(h:chkC B c (.set t e) (.Assign ts x pos)=true):PS X (.Assign ts x pos) (TC Γ cf w Hz gz (.set t e)):=by
  have h:(match sole ts with
    | some tg=>chkE B c e x&&chkT c t tg&&(match asName tg with
      | some q=>!jE c q.1 q.2 x||kj e
      | none=>Zq tg&&v7 x)
    | none=>false)=true:=h
  cases e1:sole ts with
  | none=>rw [e1] at h;cases h
  | some tg=>
    rw [e1] at h
    have et:=Yj e1
    subst et
    have h:(chkE B c e x&&chkT c t tg&&(match asName tg with
      | some q=>!jE c q.1 q.2 x||kj e
      | none=>Zq tg&&v7 x))=true:=h
    rw [ε,ε] at h
    obtain ⟨⟨h1,h2⟩,h3⟩:=h
    have hpg:=VD ok.ok h2
    cases e2:asName tg with
    | some q=>
      rw [e2] at h3
      have et:=Z6 e2
      obtain ⟨n,np⟩:=q
      subst et
      have h3:(!jE c n np x||kj e)=true:=h3
      have hsw:=VH (n:=n) (np:=np) ok.ok h1 pos.line
      cases ha:jE c n np x with
      | false=>
        rw [ha] at hsw
        exact zaa ok h1 hpg hsw (Yh x n np X.env) rfl
      | true=>
        rw [ha] at h3 hsw
        cases e with
        | comp t' js it ifs elt=>
          cases t with
          | one i=>exact zcZ (sCS ok.hcf ok.hm ok.ok h1) hpg hsw
          | tup is=>exact nobE h2
          | nst _ _=>exact nobE h2
        | _=>cases h3
    | none=>
      rw [e2] at h3
      have h3:(Zq tg&&v7 x)=true:=h3
      rw [ε] at h3
      cases tg with
      | Tuple es kk p=>exact zaa ok h1 hpg (Ku x es kk p pos.line X.env) (WX h3.2 es kk p X.env) rfl
      | _=>cases h3.1
theorem s_rt (ok:XSt Γ B cf k X c) (h:chkE B c e x=true):PS X (.Return (some x) pos) (TC Γ cf w Hz gz (.ret e)):=by
 by_cases hv:∃ i,e=.var i
 ·obtain ⟨i,rfl⟩:=hv
  have hb:Ν x.ctorIdx 23=true:=by revert h;cases x <;> first | exact non | exact fun _=>rfl
  revert h;apply v6 hb;clear hb;intro n p h
  have h:(c.N[i]?==some n&&visK (c.names.lookup n)&&yL n)=true:=h
  simp only [ε] at h
  obtain ⟨q1,q2,_⟩:=yD h.2
  exact zc2 (by rw [ok.ok.N];exact eq_of_beq h.1.1) (ok.ok.vis h.1.2) q1 q2
 ·exact s_ret (fun i q=>hv ⟨i,q⟩) (ok.pe h)
theorem QX {ts:List Expr}{q:Expr×Expr×Pos}(h:(sole ts).bind asSub=some q):ts=[.Subscript q.1 q.2.1 q.2.2]:=by
 cases e1:sole ts with
 | none=>rw [e1] at h;cases h
 | some tg=>
  rw [e1] at h
  rw [Yj e1,QZ h]
theorem s_st2 (ok:XSt Γ B cf k X c) {o kx v:E}{ts:List Expr}(h:chkC B c (.sti o kx v) (.Assign ts x pos)=true):PS X (.Assign ts x pos) (TC Γ cf w Hz gz (.sti o kx v)):=by
  have h:(match (sole ts).bind asSub with
    | some q=>chkE B c o q.1&&chkE B c kx q.2.1&&chkE B c v x
    | none=>false)=true:=h
  cases e2:(sole ts).bind asSub with
  | none=>rw [e2] at h;cases h
  | some q=>
    rw [e2] at h
    have et:=QX e2
    subst et
    obtain ⟨z,y,sp⟩:=q
    have h:(chkE B c o z&&chkE B c kx y&&chkE B c v x)=true:=h
    simp only [ε] at h
    obtain ⟨⟨h1,h2⟩,h3⟩:=h
    exact s_sti ok.ok.u1 (ok.pe h3) (ok.pe h1) (ok.pe h2) (noSl h2) (Kv x z y sp pos.line X.env) (WY x z y sp X.env) rfl
mutual
theorem sC (ok:XSt Γ B cf k X c):∀ (s:C) (st:Stmt),chkC B c s st=true->PS X st (TC Γ cf w Hz gz s)
 | .set t e,st,h=>by
  have hb:Ν st.ctorIdx 5=true:=by revert h;cases st <;> first | exact non | exact fun _=>rfl
  revert h;apply qU hb;clear hb;intro ts x pos h
  exact zdb ok h
 | .expr e,st,h=>by
  have hb:Ν st.ctorIdx 24=true:=by revert h;cases st <;> first | exact non | exact fun _=>rfl
  revert h;apply Yr hb;clear hb;intro x pos h
  have h:(chkE B c e x&&Yu x)=true:=h
  simp only [ε] at h
  exact zc8 (ok.pe h.1) (qY h.2 none pos.line X.env)
 | .ret e,st,h=>by
  have hb:Ν st.ctorIdx 3=true:=by revert h;cases st <;> first | exact non | exact fun _=>rfl
  revert h;apply qT hb;clear hb;intro v pos h
  cases v with
  | none=>exact nobE h
  | some x=>exact s_rt ok h
 | .retN,st,h=>by
  have hb:Ν st.ctorIdx 3=true:=by revert h;cases st <;> first | exact non | exact fun _=>rfl
  revert h;apply qT hb;clear hb;intro v pos h
  cases v with
  | some x=>exact nobE h
  | none=>exact zc3
 | .ite e a b,st,h=>by
  have hb:Ν st.ctorIdx 12=true:=by revert h;cases st <;> first | exact non | exact fun _=>rfl
  revert h;apply ofSIf hb;clear hb;intro x aa bb pos h
  have h:(chkE B c e x&&chkCs B c a aa&&chkCs B c b bb)=true:=h
  simp only [ε] at h
  exact s_if (ok.pt h.1.1) (sCs ok a aa h.1.2) (sCs ok b bb h.2)
 | .whl e b,st,h=>by
  have hb:Ν st.ctorIdx 11=true:=by revert h;cases st <;> first | exact non | exact fun _=>rfl
  revert h;apply Qi hb;clear hb;intro x bb r pos h
  have h:(chkE B c e x&&chkCs B c b bb&&xW r)=true:=h
  simp only [ε] at h
  have hr:=vB h.2
  subst hr
  exact za6 (ok.pt h.1.1) (sCs ok b bb h.1.2) ok.own
 | .forr t it b,st,h=>by
  have hb:Ν st.ctorIdx 9=true:=by revert h;cases st <;> first | exact non | exact fun _=>rfl
  revert h;apply zdM hb;clear hb;intro tgt x bb r pos h
  have h:(chkI B c it tgt x&&chkT c t tgt&&yZ x&&chkCs B c b bb&&xW r)=true:=h
  simp only [ε] at h
  obtain ⟨⟨⟨⟨h1,h2⟩,h3⟩,h4⟩,h5⟩:=h
  have hr:=vB h5
  subst hr
  exact s_for (sI ok.hcf ok.hm it X c tgt x ok.ok h1) (VD ok.ok h2) (sCs ok b bb h4) ok.own ok.ok.calm (Zz h3 X.env)
 | .app i e,st,h=>by
  have hb:Ν st.ctorIdx 24=true:=by revert h;cases st <;> first | exact non | exact fun _=>rfl
  revert h;apply Yr hb;clear hb;intro x pos h
  obtain ⟨n,np,ap,y,cp,rfl,h1,h3,h4,h5⟩:=ju (show wF B c "append" i e x=true from h)
  unfold chkN at h1
  simp only [ε] at h1
  obtain ⟨q1,q2,_⟩:=yD h1.2
  exact s_app (by rw [ok.ok.N];exact eq_of_beq h1.1.1) (ok.ok.vis h1.1.2) q1 q2 (ok.pe h3) h4 h5
 | .ext i e,st,h=>by
  have hb:Ν st.ctorIdx 24=true:=by revert h;cases st <;> first | exact non | exact fun _=>rfl
  revert h;apply Yr hb;clear hb;intro x pos h
  obtain ⟨n,np,ap,y,cp,rfl,h1,h3,h4,h5⟩:=ju (show wF B c "extend" i e x=true from h)
  unfold chkN at h1
  simp only [ε] at h1
  obtain ⟨q1,q2,_⟩:=yD h1.2
  exact s_ext (by rw [ok.ok.N];exact eq_of_beq h1.1.1) (ok.ok.vis h1.1.2) q1 q2 (ok.pe h3) h4 h5
 | .stv i kx v,st,h=>nobE h
 | .sti o kx v,st,h=>by
  have hb:Ν st.ctorIdx 5=true:=by revert h;cases st <;> first | exact non | exact fun _=>rfl
  revert h;apply qU hb;clear hb;intro ts x pos h
  exact s_st2 ok h
 | .appR o e,st,h=>nobE h
 | .pop i,st,h=>nobE h
 | .popO t i,st,h=>nobE h
 | .popR t o,st,h=>nobE h
 | .pass,st,h=>by
  have hb:Ν st.ctorIdx 25=true:=by revert h;cases st <;> first | exact non | exact fun _=>rfl
  revert h;apply zbR hb;clear hb;intro pos h
  exact zc5
 | .brk,st,h=>by
  have hb:Ν st.ctorIdx 26=true:=by revert h;cases st <;> first | exact non | exact fun _=>rfl
  revert h;apply Qj hb;clear hb;intro pos h
  exact s_brk
 | .cnt,st,h=>by
  have hb:Ν st.ctorIdx 27=true:=by revert h;cases st <;> first | exact non | exact fun _=>rfl
  revert h;apply Ys hb;clear hb;intro pos h
  exact s_cnt
 | .frz _,st,h=>by revert h;cases st <;> exact nobE
 | .frr _,st,h=>by revert h;cases st <;> exact nobE
theorem sCs (ok:XSt Γ B cf k X c):∀ (ss:List C) (sts:List Stmt),chkCs B c ss sts=true->PSs X sts (TCs Γ cf w Hz gz ss)
 | [],sts,h=>by
  cases sts with
  | nil=>exact zcY
  | cons _ _=>exact nobE h
 | s::ss,sts,h=>by
  by_cases hf:∃ i,s=.frz i
  ·obtain ⟨i,rfl⟩:=hf
   exact s_frz (sCs ok ss sts (by cases sts <;> exact h))
  by_cases hr:∃ i,s=.frr i
  ·obtain ⟨i,rfl⟩:=hr
   exact s_frr (sCs ok ss sts (by cases sts <;> exact h))
  ·cases sts with
   | nil=>cases s <;> first | exact nobE h | exact absurd ⟨_,rfl⟩ hf | exact absurd ⟨_,rfl⟩ hr
   | cons st sts=>
    have h:(chkC B c s st&&chkCs B c ss sts)=true:=by cases s <;> first | exact h | exact absurd ⟨_,rfl⟩ hf | exact absurd ⟨_,rfl⟩ hr
    rw [ε] at h
    exact za7 (sC ok s st h.1) (sCs ok ss sts h.2)
end
end
theorem ln1 {α:Type}:∀ {l:List α},l.length=1->∃ a,l=[a]
 | [a],_=>⟨a,rfl⟩
theorem ln2 {α:Type}{l:List α}(h:l.length=2):∃ a0 a1,l=[a0,a1]:=by
 cases l with
 | nil=>cases h
 | cons a0 l=>
  obtain ⟨a1,rfl⟩:=ln1 (fQ h)
  exact ⟨a0,a1,rfl⟩
theorem ln3 {α:Type}{l:List α}(h:l.length=3):∃ a0 a1 a2,l=[a0,a1,a2]:=by
 cases l with
 | nil=>cases h
 | cons a0 l=>
  obtain ⟨a1,a2,rfl⟩:=ln2 (fQ h)
  exact ⟨a0,a1,a2,rfl⟩
theorem ln4 {α:Type}{l:List α}(h:l.length=4):∃ a0 a1 a2 a3,l=[a0,a1,a2,a3]:=by
 cases l with
 | nil=>cases h
 | cons a0 l=>
  obtain ⟨a1,a2,a3,rfl⟩:=ln3 (fQ h)
  exact ⟨a0,a1,a2,a3,rfl⟩
theorem ln5 {α:Type}{l:List α}(h:l.length=5):∃ a0 a1 a2 a3 a4,l=[a0,a1,a2,a3,a4]:=by
 cases l with
 | nil=>cases h
 | cons a0 l=>
  obtain ⟨a1,a2,a3,a4,rfl⟩:=ln4 (fQ h)
  exact ⟨a0,a1,a2,a3,a4,rfl⟩
theorem ln6 {α:Type}{l:List α}(h:l.length=6):∃ a0 a1 a2 a3 a4 a5,l=[a0,a1,a2,a3,a4,a5]:=by
 cases l with
 | nil=>cases h
 | cons a0 l=>
  obtain ⟨a1,a2,a3,a4,a5,rfl⟩:=ln5 (fQ h)
  exact ⟨a0,a1,a2,a3,a4,a5,rfl⟩
structure Row where
 name:Str
 st:Stmt
 ps:List Str
 N:List Str
 fn:Fn
noncomputable def fnsOf (rs:List Row):Nat->Option Fn:=fun i=>(rs[i]?).map (·.fn)
noncomputable def V6 (N ps:List Str) (sc:c7):Bool:=
 (sc.kind==.function)&&!sc.isCoroutine&&!sc.isGenerator&&decide N.Nodup&&(N.take ps.length==ps)&&ps.all (fun x=>sc.names.lookup x==some .local||sc.names.lookup x==some .cell)&&sc.names.all (fun y=>y.2 != .free)
theorem V5 {N ps:List Str}{sc:c7}(h:V6 N ps sc=true):ql N ps sc:=by
 unfold V6 at h
 simp only [ε,dG,lF,decide_eq_true_eq,nZ,beq_iff_eq,bne_iff_ne] at h
 obtain ⟨⟨⟨⟨⟨⟨h1,h2⟩,h3⟩,h4⟩,h5⟩,h6⟩,h7⟩:=h
 exact ⟨h1,h2,h3,h4,h5,h6,h7⟩
structure RowOk (B:Tb) (r:Row):Prop where
 sc:V6 r.N r.ps (zB r.st)=true
 ck:chkCs B ⟨(zB r.st).names,r.N,true⟩ r.fn.body (z6 r.st)=true
 np:r.fn.np=r.ps.length
 nv:r.fn.nv=r.N.length
 bd:∀ (kV doc pm:δ) (an:Option Addr) (cdv ct:δ) (us:List δ),us.length=r.ps.length->bindArgs (W.fnOf r.name r.name (yr r.st) (z6 r.st) (zB r.st) .none kV doc pm an cdv ct) ⟨us,[]⟩=pure (r.ps.zip us)
def KwOk (rs:List Row) (q:Nat×List Str×List Nat):Prop:=q.2.1≠[]/\∀ r,rs[q.1]?=some r->∀ (kV doc pm:δ) (an:Option Addr) (cdv ct:δ) (ws:List δ),ws.length=q.2.1.length ->
 bindArgs (W.fnOf r.name r.name (yr r.st) (z6 r.st) (zB r.st) .none kV doc pm an cdv ct) ⟨[],q.2.1.zip ws⟩=pure (r.ps.zip (q.2.2.map fun i=>ws.getD i .none))
structure DefAt (K:W.Frag) (x:Str) (st:Stmt):Prop where
 ex:∃ f fd,Fun K x x st f fd/\W.nsIn K ϕ x=some (some (.ref f))
theorem zet {K:W.Frag}{x:Str}{st:Stmt}{f:Addr}{oc:δ}{od an:Option Addr}{osl:Array (Option δ)}{kV doc pm cdv ct:δ}(a:W.nsIn K ϕ x=some (some (.ref f)))
  (l:K.lookup f=some ⟨oc,od,.func (W.fnOf x x (yr st) (z6 st) (zB st) .none kV doc pm an cdv ct),osl⟩) (c:W.codeIn K cdv x=true) (k:W.keepIn K (.ref f)=true):DefAt K x st:=⟨f,_,zem l c k,a⟩
noncomputable def faOf (K:W.Frag) (r:Row):Option Addr:=open Classical in if h:∃ f,∃ fd,Fun K r.name r.name r.st f fd/\W.nsIn K ϕ r.name=some (some (.ref f)) then some (bW h) else none
theorem JD {K:W.Frag}{r:Row}(h:∃ f,∃ fd,Fun K r.name r.name r.st f fd/\W.nsIn K ϕ r.name=some (some (.ref f))):faOf K r=some (bW h):=by
 unfold faOf
 exact dif_pos h
noncomputable def gmOf (K:W.Frag) (rs:List Row):Gm where
 K:=K
 fa:=fun i=>(rs[i]?).bind (faOf K)
 ca:=fun _=>none
def AllR {α:Type}(Q:α->Prop):List α->Prop
 | []=>True
 | a::r=>Q a/\AllR Q r
theorem AllR.at {α:Type}{Q:α->Prop}:∀ {l:List α}{i:Nat}{a:α},AllR Q l->l[i]?=some a->Q a
 | [],_,_,_,h=>by simp at h
 | b::r,0,a,⟨h,_⟩,e=>by simp at e;subst e;exact h
 | b::r,i+1,a,⟨_,h⟩,e=>AllR.at (i:=i) h (by simpa using e)
theorem AllR.mem {α:Type}{Q:α->Prop}:∀ {l:List α}{a:α},AllR Q l->a∈l->Q a
 | b::r,a,⟨h,t⟩,e=>by
  rcases Ξ.mp e with rfl | q
  ·exact h
  ·exact AllR.mem t q
structure ModOk (K:W.Frag) (mg:Str->Option δ) (B:Tb) (rs:List Row):Prop where
 fns:B.fns=rs.map (·.name)
 pars:B.pars=rs.map (·.ps)
 rows:AllR (RowOk B) rs
 kws:AllR (KwOk rs) B.kws
 defs:AllR (fun r=>DefAt K r.name r.st) rs
 gl:∀ x u,W.nsIn K ϕ x=some u->mg x=u
 bare:∀ x∈B.bare,W.nsIn K ϕ x=some none
 consts:∀ (n:Nat) (x:Str) (d:D),B.consts[n]?=some (x,d)->∃ u v,W.nsIn K ϕ x=some (some u)/\RelV v u/\∀ g,Has (gmOf K rs) g d v
section
variable {P:Ω}{w:ϥ}{K:W.Frag}{mg:Str->Option δ}{base:Heap}{B:Tb}{rs:List Row}
theorem cf_ok {F:Nat->Option Fn}{wh:Nat}(h:∀ f fn ps,F f=some fn->B.pars[f]?=some ps->fn.np=ps.length):∀ k,CfN B (callW F wh k)
 | 0=>fun _ _ _ _ _ _ q=>q.elim
 | k+1=>fun f ds V S ps hp q=>by
  obtain ⟨fn,e,hl,_⟩:=zQ q
  rw [hl,h f fn ps e hp]
theorem VP {Γ:Gm}{H:Hp}{g:G}{fn:Fn}{N:List Str}{ds:List D}{vs:List V}(h:Hass Γ g ds vs) (hn:fn.nv=N.length):EnvO Γ H H g (entry fn ds) (L2.start N vs):=by
 have hl:=h.len
 have key:∀ (i:Nat) (s:Slot),(entry fn ds)[i]?=some s->(∃ d,ds[i]?=some d/\s=.sh d)\/s=.no:=by
  intro i s e
  unfold entry at e
  by_cases hi:i < ds.length
  ·rw [Υ (by simpa using hi),Μ,ξ hi] at e
   cases e
   exact .inl ⟨ds[i],ξ hi,rfl⟩
  ·rw [ϒ (by simpa using lC hi),cU] at e
   split at e
   ·cases e;exact .inr rfl
   ·cases e
 refine ⟨?_,fun i d e=>?_,fun i d e=>?_,fun i j d e a h1=>?_⟩
 ·unfold entry L2.start
  simp [hl,hn]
 ·rcases key i _ e with ⟨d',e1,e2⟩ | e2
  ·cases e2
   obtain ⟨v,q,hv⟩:=h.get e1
   refine ⟨v,?_,hv⟩
   unfold L2.start
   have hi:=(Η.mp q).1
   rw [Υ (by simpa using hi),Μ,q]
   rfl
  ·cases e2
 ·rcases key i _ e with ⟨d',e1,e2⟩ | e2 <;> cases e2
 ·rcases key i _ h1 with ⟨d',e1,e2⟩ | e2 <;> cases e2
theorem zbH {X:Cx}(h:X.xe=fun _ _=>False):gO (Χ X.prog X.w) X.A X.env X.xe:=by
 rw [h]
 exact gO.never
theorem fn_e {wh k f:Nat}{r:Row}{fa:Addr}{fd:aN}(md:ModOk K mg B rs) (hr:rs[f]?=some r) (F:Fun K r.name r.name r.st fa fd) (ih:∀ (g:Nat) (x:Str),B.fns[g]?=some x->FnI (gmOf K rs) B (spN (gmOf K rs) (callW (fnsOf rs) wh k)) k P w K mg base g x):
  FnOk P w K mg base CX0 (k+1) fa fd r.ps (spN (gmOf K rs) (callW (fnsOf rs) wh (k+1)) f r.ps.length):=by
 have ro:=md.rows.at hr
 have sc:=V5 ro.sc
 have hcf:CfN B (callW (fnsOf rs) wh k):=cf_ok (fun f fn ps h1 h2=>by
  unfold fnsOf at h1
  rw [md.pars,Μ] at h2
  cases e:rs[f]? with
  | none=>rw [e] at h1;cases h1
  | some q=>
   rw [e] at h1 h2
   cases h1
   cases h2
   exact (md.rows.at e).np) k
 refine F.ok sc (fun vs H Q E h=>h.1) fun cdv A outer s H vs Q E hrm h=>?_
 obtain ⟨hl,g,ds,S,V,wok,hh,hc,kk⟩:=h
 obtain ⟨fn,e1,_,hc⟩:=zQ hc
 have e2:fnsOf rs f=some r.fn:=by
  unfold fnsOf
  rw [hr]
  rfl
 rw [e2] at e1
 cases e1
 refine ⟨TCs (gmOf K rs) (callW (fnsOf rs) wh k) wh H g r.fn.body,sCs (c:=⟨(zB r.st).names,r.N,true⟩) ⟨⟨rfl,rfl,sc.kind,rfl,sc.nd,fun _ _=>rfl,rfl,hrm,fun x hx=>?_,ih,fun x hx=>?_,fun n x d e=>?_,fun f a e=>?_⟩,rfl,zbH rfl,hcf,yh k⟩ r.fn.body (z6 r.st) ro.ck,entry r.fn ds,S,_,g,hc,Step.refl H g,wok,VP hh ro.nv,?_⟩
 ·rcases hx with hx | hx
  ·exact qd hx
  ·exact absurd rfl (sc.nofree _ (aQ hx))
 ·exact md.gl x none (md.bare x hx)
 ·obtain ⟨u,v,e1,e2,e3⟩:=md.consts n x d e
  exact ⟨u,v,md.gl x (some u) e1,e2,e3⟩
 ·obtain ⟨r,er,_⟩:=ϣ.mp (show (rs[f]?).bind (faOf K)=some a from e)
  exact ⟨r.name,by rw [md.fns,Μ,er];rfl⟩
 ·exact ⟨fun ρ σ' H' g' S' st le w' env q=>kk (.non,.st) .non H' g' S' st w' rfl q,fun ρ σ' H' g' S' st le w' env q=>q.elim,fun ρ σ' H' g' S' st le w' env q=>q.elim,fun d fr v H' g' S' st le w' vo q=>kk (d,kd fr) v H' g' S' st w' (VN.of vo) q⟩
theorem fn_0 {f:Nat}{wh:Nat}{fa:Addr}{fd:aN}{ps:List Str}{Γ:Gm}{F:Nat->Option Fn}:FnOk P w K mg base CX0 0 fa fd ps (spN Γ (callW F wh 0) f ps.length):=
 ⟨fun vs H Q E h=>h.1,fun A outer s H args us vs Q E hr he hb hv ⟨_,g,ds,S,V,_,_,hc,_⟩=>hc.elim⟩
theorem qx:∀ {zs:List V}{ws:List δ}(i:Nat),Vals zs ws->RelV (zs.getD i .non) (ws.getD i .none)
 | _,_,_,.nil=>rfl
 | _,_,0,.cons h _=>h
 | _,_,i+1,.cons _ t=>by
  have:=qx i t
  simpa using this
theorem Xf {zs:List V}{ws:List δ}(h:Vals zs ws):∀ (perm:List Nat),Vals (perm.map fun i=>zs.getD i .non) (perm.map fun i=>ws.getD i .none)
 | []=>.nil
 | i::r=>.cons (qx i h) (Xf h r)
theorem zaC {wh k:Nat}(md:ModOk K mg B rs) (h:∀ (f:Nat) (r:Row) (fa:Addr) (fd:aN),rs[f]?=some r->Fun K r.name r.name r.st fa fd->FnOk P w K mg base CX0 k fa fd r.ps (spN (gmOf K rs) (callW (fnsOf rs) wh k) f r.ps.length)):
  ∀ (f:Nat) (x:Str),B.fns[f]?=some x->FnI (gmOf K rs) B (spN (gmOf K rs) (callW (fnsOf rs) wh k)) k P w K mg base f x:=by
 intro f x hx
 rw [md.fns,Μ] at hx
 cases hr:rs[f]? with
 | none=>rw [hr] at hx;cases hx
 | some r=>
  rw [hr] at hx
  cases hx
  have da:∃ f,∃ fd,Fun K r.name r.name r.st f fd/\W.nsIn K ϕ r.name=some (some (.ref f)):=(md.defs.at hr).ex
  obtain ⟨fd,F,na⟩:=lO da
  have ro:=md.rows.at hr
  refine ⟨bW da,fd,r.ps,?_,md.gl _ _ na,F.kp,F.binds ro.bd,?_,h f r _ fd hr F,fun ks perm h1 h2 h3 h4 h5=>?_⟩
  ·show (rs[f]?).bind (faOf K)=_
   rw [hr]
   exact JD da
  ·rw [md.pars,Μ,hr]
   rfl
  ·have hk:=md.kws.mem h5
   obtain ⟨oc,od,kV,doc,pm,an,cdv,ct,osl,hfd,lk,hcd⟩:=F.ex
   refine ⟨fun s us ws _ hl=>?_,fun {vs us zs ws} r1 r2=>?_⟩
   ·have hl:(if ws.length=ks.length then us++perm.map fun i=>ws.getD i .none else []).length=r.ps.length:=hl
    show BindsTo s fd ⟨us,ks.zip ws⟩ (r.ps.zip (if ws.length=ks.length then us++perm.map fun i=>ws.getD i .none else []))
    by_cases hw:ws.length=ks.length
    ·rw [if_pos hw] at hl ⊢
     have hu:us=[]:=by
      cases us with
      | nil=>rfl
      | cons _ _=>simp at hl;lia
     subst hu
     rw [hfd]
     exact .of_eq (hk.2 r hr kV doc pm an cdv ct ws hw)
    ·rw [if_neg hw] at hl ⊢
     have h0:r.ps=[]:=cT.mp hl.symm
     have hk0:ks=[]:=cT.mp (by rw [h4,h0];rfl)
     exact absurd hk0 hk.1
   ·show Vals (if zs.length=ks.length then vs++perm.map fun i=>zs.getD i .non else []) (if ws.length=ks.length then us++perm.map fun i=>ws.getD i .none else [])
    rw [r2.length]
    split
    ·exact r1.append (Xf r2 perm)
    ·exact .nil
theorem zaO (wh:Nat) (md:ModOk K mg B rs):∀ (k f:Nat) (x:Str),B.fns[f]?=some x->FnI (gmOf K rs) B (spN (gmOf K rs) (callW (fnsOf rs) wh k)) k P w K mg base f x
 | 0=>zaC md fun f r fa fd hr F=>fn_0
 | k+1=>zaC md fun f r fa fd hr F=>fn_e md hr F (zaO wh md k)
end
structure Txt (K:W.Frag) (B:Tb) (rs:List Row):Prop where
 defs:AllR (fun r=>DefAt K r.name r.st) rs
 bare:AllR (fun x=>W.nsIn K ϕ x=some none) B.bare
 consts:∀ (n:Nat) (x:Str) (d:D),B.consts[n]?=some (x,d)->∃ u v,W.nsIn K ϕ x=some (some u)/\RelV v u/\∀ g,Has (gmOf K rs) g d v
structure Tabs (B:Tb) (rs:List Row):Prop where
 fns:B.fns=rs.map (·.name)
 pars:B.pars=rs.map (·.ps)
 rows:AllR (RowOk B) rs
 kws:AllR (KwOk rs) B.kws
theorem zdS {K:W.Frag}{B:Tb}{rs:List Row}{h:Heap}{mg:Str->Option δ}(t:Tabs B rs) (x:Txt K B rs) (X:K.In h) (N:h.Ns ϕ mg):ModOk K mg B rs where
 fns:=t.fns
 pars:=t.pars
 rows:=t.rows
 kws:=t.kws
 defs:=x.defs
 gl:=fun y u e=>by
  cases u with
  | none=>exact W.mg_none_of X N e
  | some v=>exact W.mg_of X N e
 bare:=fun y hy=>x.bare.mem hy
 consts:=x.consts
theorem zcp {K:W.Frag}{rs:List Row}{x:Str}{i:Int}{t:Tok}(h:W.nsIn K ϕ x=some (some (.int i t))):∃ u v,W.nsIn K ϕ x=some (some u)/\RelV v u/\∀ g,Has (gmOf K rs) g (.int i) v:=⟨_,.int i,h,⟨t,rfl⟩,fun _=>rfl⟩
theorem zey {K:W.Frag}{rs:List Row}{i:Nat}{r:Row}(hr:rs[i]?=some r) (d:DefAt K r.name r.st):∃ u v,W.nsIn K ϕ r.name=some (some u)/\RelV v u/\∀ g,Has (gmOf K rs) g (.fn i) v:=by
 obtain ⟨fd,_,e⟩:=lO d.ex
 refine ⟨.ref (bW d.ex),.ref (bW d.ex),e,rfl,fun g=>⟨bW d.ex,?_,rfl⟩⟩
 show (rs[i]?).bind (faOf K)=_
 rw [hr]
 exact JD d.ex
theorem zck {K:W.Frag}{rs:List Row}{x i:Str}{t:Tok}(h:W.nsIn K ϕ x=some (some (.str i t))):∃ u v,W.nsIn K ϕ x=some (some u)/\RelV v u/\∀ g,Has (gmOf K rs) g (.str i) v:=⟨_,.str i,h,⟨t,rfl⟩,fun _=>rfl⟩
open PySem L2
mutual
theorem Wl:∀ (n:Nat) (d:D),okP n d=true->eqP d d=true
 | _,.non,_=>rfl
 | _,.bl b,_=>by cases b <;> rfl
 | _,.int i,_=>beq_self_eq_true i
 | _,.str x,_=>beq_self_eq_true x
 | 0,.tup _,h=>nobE h
 | n+1,.tup a,h=>uv n a h
 | 0,.lst _,h=>nobE h
 | n+1,.lst a,h=>uv n a h
 | 0,.dK _ _,h=>nobE h
 | n+1,.dK _ _,h=>nobE h
 | 0,.dT _ _,h=>nobE h
 | n+1,.dT _ _,h=>nobE h
 | 0,.ref _,h=>nobE h
 | n+1,.ref _,h=>nobE h
 | 0,.fn _,h=>nobE h
 | n+1,.fn _,h=>nobE h
 | 0,.scr _,h=>nobE h
 | n+1,.scr _,h=>nobE h
 | 0,.ktp _,h=>nobE h
 | n+1,.ktp _,h=>nobE h
theorem uv:∀ (n:Nat) (l:List D),okPs n l=true->eqPs l l=true
 | _,[],_=>rfl
 | n,d::l,h=>by
  have h':(okP n d&&okPs n l)=true:=h
  rw [ε] at h'
  show (eqP d d&&eqPs l l)=true
  rw [Wl n d h'.1,uv n l h'.2];rfl
end
theorem zaz {n:Nat}{a:Int}(h0:0<=a) (h1:a < (n:Int)):idx n a=some a.toNat:=by
 show (if 0<=a then (if a < n then some a.toNat else none) else _)=_
 rw [if_pos h0,if_pos h1]
theorem zao {i j:Int}(h:0 < j):opD .Mod (.int i) (.int j)=some (.int (i % j),false):=by
 show (if decide (0 < j)=true then some (i % j) else none).map (fun k=>(D.int k,false))=_
 rw [if_pos (decide_eq_true h)];rfl
theorem UV {i j:Int}(h:zM i=true):opD .Mult (.int i) (.int j)=some (.int (i*j),false):=by
 show (if (zM i||zM j)=true then some (D.int (i*j),false) else none)=_
 rw [if_pos (by rw [h];rfl)]
theorem zbV {i j:Int}(h:zM j=true):opD .Mult (.int i) (.int j)=some (.int (i*j),false):=by
 show (if (zM i||zM j)=true then some (D.int (i*j),false) else none)=_
 rw [if_pos (by rw [h,Bool.or_true])]
theorem Xn {i:Int}(h0:0<=i) (h1:i < 4294967296):zM i=true:=by
 unfold zM
 rw [decide_eq_true (by lia),decide_eq_true (by lia)];rfl
theorem fits_of {n:Nat}(h:n<=1000000):fits n=true:=decide_eq_true h
theorem Zc {l:List D}{a:Int}{d:D}(h0:0<=a) (h:l[a.toNat]?=some d):subD (.lst l) (.int a)=some d:=by
 show ((idx l.length a).bind fun k=>l[k]?)=_
 have:=(Η.mp h).1
 rw [zaz h0 (by lia)]
 exact h
theorem qz {l:List D}{a:Int}{d:D}(h0:0<=a) (h:l[a.toNat]?=some d):subD (.tup l) (.int a)=some d:=by
 show ((idx l.length a).bind fun k=>l[k]?)=_
 have:=(Η.mp h).1
 rw [zaz h0 (by lia)]
 exact h
theorem ints_get {ns:List Int}{a:Int}(h0:0<=a) (h1:a < (ns.length:Int)):∃ x,x∈ns/\subD (.lst (ns.map D.int)) (.int a)=some (.int x):=by
 have hl:a.toNat < ns.length:=by lia
 refine ⟨ns[a.toNat],aY hl,Zc h0 ?_⟩
 rw [Μ,ξ hl];rfl
theorem xT (n:Nat):∀ (ns:List Int),okPs n (ns.map D.int)=true
 | []=>rfl
 | i::ns=>by
  show (okP n (.int i)&&okPs n (ns.map D.int))=true
  rw [xT n ns]
  cases n <;> rfl
theorem uq:∀ (ns:List Int),intsD (ns.map D.int)=some ns
 | []=>rfl
 | i::ns=>by
  show (intsD (ns.map D.int)).map (i::·)=_
  rw [uq ns];rfl
theorem eq_op {a b:D}(ha:okP 60 a=true) (hb:okP 60 b=true):cmpD .Eq a b=some (eqP a b):=by
 show (if (okP 60 a&&okP 60 b)=true then some (eqP a b) else none)=_
 rw [ha,hb];rfl
theorem ne_op {a b:D}(ha:okP 60 a=true) (hb:okP 60 b=true):cmpD .NotEq a b=some (!eqP a b):=by
 have e:cmpD .NotEq a b=(if (okP 60 a&&okP 60 b)=true then some (eqP a b) else none).map (!·):=by
  cases a with
  | dK=>exact nobE ha
  | _=>rfl
 rw [e,ha,hb];rfl
theorem W8 {a:D}(ha:okP 60 a=true):cmpD .NotEq a a=some false:=by rw [ne_op ha ha,Wl 60 a ha];rfl
theorem Ke {a b:List D}(h:a.length+b.length<=1000000):opD .Add (.tup a) (.tup b)=some (.tup (a++b),false):=by
 show (if fits (a.length+b.length)=true then some (D.tup (a++b),false) else none)=_
 rw [if_pos (fits_of h)]
theorem wH {a b:List D}(h:a.length+b.length<=1000000):opD .Add (.lst a) (.lst b)=some (.lst (a++b),true):=by
 show (if fits (a.length+b.length)=true then some (D.lst (a++b),true) else none)=_
 rw [if_pos (fits_of h)]
section
variable {α:Type}{F:Nat->Option Fn}{cf:Cf}{w k f:Nat}{ds:List D}{V V':Po}{S:Store}{K:Ko}{ρ:List Slot}{x:Vl}{d:D}{b:Bool}{l:List D}{c:C}{cs:List C}
theorem zr {o:Option α}{Q:α->Prop}{a:α}(h:o=some a) (q:Q a):opt o Q:=by subst h;exact q
theorem zO {o:Option (List Slot)}{Q:List Slot->Prop}{a:List Slot}(h:o=some a) (q:Q a):optS o Q:=by subst h;exact q
theorem opv_s {o:Option (D×Bool)}{Q:Vl->Prop}(h:o=some (d,false)) (q:Q (d,.st)):opV o Q:=by subst h;exact q
theorem opv_f {o:Option (D×Bool)}{Q:Vl->Prop}(h:o=some (d,true)) (q:Q (d,.fr)):opV o Q:=by subst h;exact q
theorem tst_T {T F:Prop}(h:b=true) (q:T):tst b T F:=by subst h;exact q
theorem tst_F {T F:Prop}(h:b=false) (q:F):tst b T F:=by subst h;exact q
theorem zX {T F:Prop}(t:b=true->T) (f:b=false->F):tst b T F:=by
 cases b with
 | true=>exact t rfl
 | false=>exact f rfl
theorem kp_s {Q:D->Prop}(h:x=(d,.st)) (q:Q d):keep x Q:=by subst h;exact q
theorem kp_f {Q:D->Prop}(h:x=(d,.fr)) (q:Q d):keep x Q:=by subst h;exact q
theorem bx_f {Q:D->Prop}(h:x=(d,.fr)) (q:Q d):boxd x Q:=by subst h;exact q
theorem rv_s {Q:O->Prop}(h:x=(d,.st)) (q:Q (.ret d false)):retV x Q:=by subst h;exact q
theorem rv_f {Q:O->Prop}(h:x=(d,.fr)) (q:Q (.ret d true)):retV x Q:=by subst h;exact q
theorem bl_mk {Q:Bool->Prop}(h:d=.bl b) (q:Q b):isB d Q:=by subst h;exact q
theorem zee {Q:Nat->Prop}{f:Nat}(h:d=.fn f) (q:Q f):isF d Q:=by subst h;exact q
theorem zed {Q:Int->Prop}{i:Int}(h:d=.int i) (q:Q i):isZ d Q:=by subst h;exact q
theorem sel_s {s:Option Slot}{P Q:D->Prop}(h:s=some (.sh d)) (q:P d):sel s P Q:=by subst h;exact q
theorem sel_o {s:Option Slot}{P Q:D->Prop}(h:s=some (.ow d)) (q:Q d):sel s P Q:=by subst h;exact q
theorem rdv_s {s:Option Slot}{Q:Vl->Prop}(h:s=some (.sh d)) (q:Q (d,.st)):rdV s Q:=by subst h;exact q
theorem rdv_o {s:Option Slot}{Q:Vl->Prop}(h:s=some (.ow d)) (q:Q (d,.bo)):rdV s Q:=by subst h;exact q
theorem zdz {s:Option Slot}{Q:List D->Prop}(h:s=some (.ow (.lst l))) (q:Q l):owL s Q:=by subst h;exact q
theorem zdA {s:Option Slot}{Q:D->Prop}(h:s=some (.ow d)) (q:Q d):owD s Q:=by subst h;exact q
theorem zez {s:Option D}{Q:List D->Prop}(h:s=some (.lst l)) (q:Q l):isL s Q:=by subst h;exact q
theorem zec {n:Nat}{Q:Nat->Prop}(h:d=.ref n) (q:Q n):isR d Q:=by subst h;exact q
theorem zcl (h:wpC cf w c ρ (nxt (fun ρ' S'=>wpCs cf w cs ρ' K S') K) S):wpCs cf w (c::cs) ρ K S:=h
theorem zeu (h:K (.next ρ) S):wpCs cf w [] ρ K S:=h
theorem zaW {g:List Slot->Store->Prop}(h:g ρ S):nxt g K (.next ρ) S:=h
theorem zcJ {g:List Slot->Store->Prop}(h:K (.ret d b) S):nxt g K (.ret d b) S:=h
theorem zcL {g:List Slot->Store->Prop}(h:K (.brk ρ) S):nxt g K (.brk ρ) S:=h
theorem zcK {g:List Slot->Store->Prop}(h:K (.cnt ρ) S):nxt g K (.cnt ρ) S:=h
theorem to_s (h:V (d,.st) S):told V (.ret d false) S:=h
theorem to_f (h:V (d,.fr) S):told V (.ret d true) S:=h
theorem zaV (h:V (.non,.st) S):told V (.next ρ) S:=h
theorem zaU {I:List Slot->Store->Prop}(h:I ρ S):trn K I (.next ρ) S:=h
theorem zcH {I:List Slot->Store->Prop}(h:I ρ S):trn K I (.cnt ρ) S:=h
theorem zcI {I:List Slot->Store->Prop}(h:K (.next ρ) S):trn K I (.brk ρ) S:=h
theorem zcG {I:List Slot->Store->Prop}(h:K (.ret d b) S):trn K I (.ret d b) S:=h
theorem wp_mono (h:callW F w k f ds V S) (q:∀ x S,V x S->V' x S):callW F w k f ds V' S:=yh k f ds V V' S q h
theorem zz {fn:Fn}{bd:List C}(hf:F f=some fn) (hl:ds.length=fn.np) (hb:fn.body=bd) (h:wpCs (callW F w k) w bd (entry fn ds) (told V) S):callW F w (k+1) f ds V S:=by
 show opt (F f) _
 rw [hf]
 exact ⟨hl,by rw [hb];exact h⟩
theorem wp_walk {t:T}{A:List C}(I:List D->List Slot->Store->Prop)
  (step:∀ d l ρ S,I (d::l) ρ S->optS (bindT ρ t (d,false)) fun ρ1=>wpCs (callW F w k) w A ρ1 (trn K (I l)) S)
  (fin:∀ ρ S,I [] ρ S->K (.next ρ) S):∀ (l:List D) (ρ:List Slot) (S:Store),I l ρ S->forW t (fun ρ=>wpCs (callW F w k) w A ρ) l ρ K S
 | [],ρ,S,h=>fin ρ S h
 | d::l,ρ,S,h=>zj (fun ρ1 q=>zV (yh k) A (vf (fun ρ S=>wp_walk I step fin l ρ S) fun _ _=>id) q) (step d l ρ S h)
theorem jH {e:E}{A:List C}(I:Nat->List Slot->Store->Prop)
  (step:∀ n ρ S,I n ρ S->wpE (callW F w k) ρ e (fun x S1=>isB x.1 fun b=>tst b (∃ m,n=m+1/\wpCs (callW F w k) w A ρ (trn K (I m)) S1) (K (.next ρ) S1)) S):
  ∀ (N n:Nat) (ρ:List Slot) (S:Store),n < N->I n ρ S->whlW (fun ρ=>wpX (callW F w k) ρ e) (fun ρ=>wpCs (callW F w k) w A ρ) N ρ K S
 | 0,n,ρ,S,hn,h=>absurd hn (Nat.not_lt_zero n)
 | N+1,n,ρ,S,hn,h=>za (yh k) e (fun x S1=>yo fun b=>zq (fun ⟨m,e,q⟩=>zV (yh k) A (vf (fun ρ S=>jH I step N m ρ S (by lia)) fun _ _=>id) q) id) (step n ρ S h)
theorem Yb {s:D->(Option D->Store->Prop)->Store->Prop}{V:List D->Store->Prop}(hs:∀ d K K' S,(∀ o S,K o S->K' o S)->s d K S->s d K' S) (I:List D->List D->Store->Prop)
  (step:∀ d l acc S,I (d::l) acc S->s d (fun o S1=>match o with
   | some x=>tst (fits (acc.length+1)) (I l (acc++[x]) S1) False
   | none=>I l acc S1) S)
  (fin:∀ acc S,I [] acc S->V acc S):∀ (l acc:List D) (S:Store),I l acc S->walkW s l acc V S
 | [],acc,S,h=>fin acc S h
 | d::l,acc,S,h=>hs d _ _ S (fun o S1=>by
  cases o with
  | some x=>exact zq (Yb hs I step fin l _ S1) id
  | none=>exact Yb hs I step fin l acc S1) (step d l acc S h)
theorem e_var {i:Nat}:wpE cf ρ (.var i) V S=(rdV ρ[i]? fun x=>V x S):=rfl
theorem e_con {d:D}:wpE cf ρ (.con d) V S=(V (d,.st) S):=rfl
theorem e_glo {n:Nat}{d:D}:wpE cf ρ (.glo n d) V S=(V (d,.st) S):=rfl
theorem e_bin {op:lH}{a:E}{b:E}:wpE cf ρ (.bin op a b) V S=(wpE cf ρ a (fun x S1=>wpE cf ρ b (fun y S2=>opV (opD op (deref S2 x.1) (deref S2 y.1)) fun x=>V x S2) S1) S):=rfl
theorem e_neg {a:E}:wpE cf ρ (.neg a) V S=(wpE cf ρ a (fun x S1=>isZ x.1 fun i=>V (.int (-i),.st) S1) S):=rfl
theorem e_cmp {op:dZ}{a:E}{b:E}:wpE cf ρ (.cmp op a b) V S=(wpE cf ρ a (fun x S1=>wpE cf ρ b (fun y S2=>opt (cmpD op (deref S2 x.1) (deref S2 y.1)) fun r=>V (.bl r,.st) S2) S1) S):=rfl
theorem e_chn {o1:dZ}{o2:dZ}{a:E}{b:E}{c:E}:wpE cf ρ (.chn o1 o2 a b c) V S=(wpE cf ρ a (fun x S1=>wpE cf ρ b (fun y S2=>opt (cmpD o1 (deref S2 x.1) (deref S2 y.1)) fun r=>tst r (wpE cf ρ c (fun z S3=>opt (cmpD o2 (deref S3 y.1) (deref S3 z.1)) fun r=>V (.bl r,.st) S3) S2) (V (.bl false,.st) S2)) S1) S):=rfl
theorem e_not {a:E}:wpE cf ρ (.not a) V S=(wpE cf ρ a (fun x S1=>isB x.1 fun b=>V (.bl (!b),.st) S1) S):=rfl
theorem e_and {a:E}{b:E}:wpE cf ρ (.and a b) V S=(wpE cf ρ a (fun x S1=>isB x.1 fun r=>tst r (wpE cf ρ b V S1) (V (.bl false,.st) S1)) S):=rfl
theorem e_or {a:E}{b:E}:wpE cf ρ (.or a b) V S=(wpE cf ρ a (fun x S1=>isB x.1 fun r=>tst r (V (.bl true,.st) S1) (wpE cf ρ b V S1)) S):=rfl
theorem e_ite {c:E}{a:E}{b:E}:wpE cf ρ (.ite c a b) V S=(wpE cf ρ c (fun x S1=>isB x.1 fun r=>tst r (wpE cf ρ a V S1) (wpE cf ρ b V S1)) S):=rfl
theorem e_tup {es:List E}:wpE cf ρ (.tup es) V S=(wpEs cf ρ es (fun ds S1=>tst (fits ds.length) (V (.tup ds,.st) S1) False) S):=rfl
theorem e_lst {es:List E}:wpE cf ρ (.lst es) V S=(wpEs cf ρ es (fun ds S1=>tst (fits ds.length) (V (.lst ds,.fr) S1) False) S):=rfl
theorem e_dic {tk:Bool}{ks:List Key}{es:List E}:wpE cf ρ (.dic tk ks es) V S=(wpEs cf ρ es (fun ds S1=>tst (dicOk tk ks ds) (V (dicV tk ks ds,.fr) S1) False) S):=rfl
theorem e_sub {a:E}{i:E}:wpE cf ρ (.sub a i) V S=(wpE cf ρ a (fun x S1=>wpE cf ρ i (fun y S2=>opt (subD (deref S2 x.1) y.1) fun d=>V (d,.st) S2) S1) S):=rfl
theorem e_slc {a:E}{lo:Option E}{hi:Option E}:wpE cf ρ (.slc a lo hi) V S=(wpE cf ρ a (fun x S1=>wpO cf ρ lo (fun l S2=>wpO cf ρ hi (fun h S3=>opV (slcD (deref S3 x.1) l h) fun x=>V x S3) S2) S1) S):=rfl
theorem e_bi {b:BI}{e:E}:wpE cf ρ (.bi b [e]) V S=(wpE cf ρ e (fun x S1=>opV (biD b [deref S1 x.1]) fun x=>V x S1) S):=rfl
theorem e_bi2 {b:BI}{e e':E}:wpE cf ρ (.bi b [e,e']) V S=(wpEs cf ρ [e,e'] (fun ds S1=>opV (biD b (ds.map (deref S1))) fun x=>V x S1) S):=rfl
theorem e_mth {m:MT}{o:E}{es:List E}:wpE cf ρ (.mth m o es) V S=(wpE cf ρ o (fun x S1=>tst (mthK m (deref S1 x.1)) (wpEs cf ρ es (fun ds S2=>opV (mthD m (deref S2 x.1) ds) fun x=>V x S2) S1) False) S):=rfl
theorem Wo {f:Nat}{es:List E}:wpE cf ρ (.call f es) V S=(wpEs cf ρ es (fun ds S1=>cf f ds V S1) S):=rfl
theorem zcf {f:Nat}{perm:List Nat}{es:List E}:wpE cf ρ (.callk f perm es) V S=(wpEs cf ρ es (fun ds S1=>opt (perm.mapM fun i=>ds[i]?) fun ds=>cf f ds V S1) S):=rfl
theorem e_box {e:E}:wpE cf ρ (.box e) V S=(wpE cf ρ e (fun x S1=>boxd x fun d=>V (.ref S1.length,.st) (S1++[d])) S):=rfl
theorem zce {i:Nat}{es:List E}:wpE cf ρ (.callv i es) V S=(rdV ρ[i]? fun x=>isF x.1 fun f=>wpEs cf ρ es (fun ds S1=>cf f ds V S1) S):=rfl
theorem e_one {e:E}:wpE cf ρ (.one e) V S=(wpE cf ρ e V S):=rfl
theorem zes {e:E}:wpE cf ρ (.flip e) V S=(wpE cf ρ e (fun x S1=>opV (flipD (deref S1 x.1)) fun x=>V x S1) S):=rfl
theorem wp_lc {t:T}{js:List Nat}{it elt:E}{ifs:List E}(h:wpI cf ρ it (fun its S1=>walkW (cStep cf ρ t js ifs elt) its [] (fun ds S2=>V (.lst ds,.fr) S2) S1) S):wpE cf ρ (.comp t js it ifs elt) V S:=h
theorem wk_go {t:T}{js:List Nat}{elt:E}{ifs:List E}{acc:List D}{V:List D->Store->Prop}(h:optS (bindT (inn ρ t js) t (d,false)) fun ρ'=>wpF cf ρ' ifs (fun b S1=>tst b (wpE cf ρ' elt (fun x S2=>keep x fun y=>tst (fits (acc.length+1)) (walkW (cStep cf ρ t js ifs elt) l (acc++[y]) V S2) False) S1) (walkW (cStep cf ρ t js ifs elt) l acc V S1)) S):walkW (cStep cf ρ t js ifs elt) (d::l) acc V S:=h
theorem zcB {t:T}{js:List Nat}{elt:E}{ifs:List E}{acc:List D}{V:List D->Store->Prop}(h:V acc S):walkW (cStep cf ρ t js ifs elt) [] acc V S:=h
theorem zeA {t:T}{js:List Nat}{ifs:List E}{elt:E}(hm:Mono cf):∀ d K K' S,(∀ o S,K o S->K' o S)->cStep cf ρ t js ifs elt d K S->cStep cf ρ t js ifs elt d K' S:=fun d K K' S q=>zj fun ρ'=>Xc hm ifs fun b S1=>zq (za hm elt fun x S2=>zx fun d=>q _ _) (q _ _)
end
theorem zaJ {l:List D}{x:D}:cutD (l++[x]) none (some (-1))=l:=by
 unfold cutD
 rw [HT.Xp]
 have:HT.sIx (l++[x]).length (l++[x]).length (some (-1))=l.length:=by
  show (if (-1:Int) < 0 then (-1+((l++[x]).length:Int)).toNat else min (-1:Int).toNat (l++[x]).length)=_
  rw [if_pos (by decide),Α]
  simp
  lia
 rw [this]
 simp
theorem jt {l:List D}{x y:D}:cutD (l++[x,y]) none (some (-2))=l:=by
 unfold cutD
 rw [HT.Xp]
 have:HT.sIx (l++[x,y]).length (l++[x,y]).length (some (-2))=l.length:=by
  show (if (-2:Int) < 0 then (-2+((l++[x,y]).length:Int)).toNat else min (-2:Int).toNat (l++[x,y]).length)=_
  rw [if_pos (by decide),Α]
  simp
  lia
 rw [this]
 simp
theorem at_m1 {l:List D}{x:D}:subD (.tup (l++[x])) (.int (-1))=some x:=by
 show ((idx (l++[x]).length (-1)).bind fun k=>(l++[x])[k]?)=_
 have:idx (l++[x]).length (-1)=some l.length:=by
  show (if (0:Int)<=-1 then _ else if -((l++[x]).length:Int)<=-1 then some (-1+((l++[x]).length:Int)).toNat else none)=_
  rw [if_neg (by decide),if_pos (by simp;lia)]
  simp
  lia
 rw [this]
 simp
theorem at_m2 {l:List D}{x y:D}:subD (.tup (l++[x,y])) (.int (-2))=some x:=by
 show ((idx (l++[x,y]).length (-2)).bind fun k=>(l++[x,y])[k]?)=_
 have:idx (l++[x,y]).length (-2)=some l.length:=by
  show (if (0:Int)<=-2 then _ else if -((l++[x,y]).length:Int)<=-2 then some (-2+((l++[x,y]).length:Int)).toNat else none)=_
  rw [if_neg (by decide),if_pos (by simp;lia)]
  simp
  lia
 rw [this]
 simp
def ent (ks:List (List Key)) (vs:List D) (k:List Key) (v:D):Prop:=∃ i:Nat,ks[i]?=some k/\vs[i]?=some v
noncomputable def kp (p:List Int):List Key:=p.map cQ
theorem Jc:∀ (p:List Int),keysD (p.map D.int)=some (kp p)
  | []=>rfl
  | i::p=>by
    show (match keyD (D.int i),keysD (p.map D.int) with
      | some k,some ks=>some (k::ks)
      | _,_=>none)=_
    rw [Jc p];rfl
theorem YC {x:List Key}{y:D}:∀ {ks:List (List Key)}{vs:List D}{k:List Key}{v:D},ks.length=vs.length->ent ks (mapK ks vs x y) k v->(k=x/\v=y)\/(k≠x/\ent ks vs k v)
 | [],[],k,v,_,⟨i,h,_⟩=>by simp at h
 | k'::ks,v'::vs,k,v,hl,⟨0,h1,h2⟩=>by
  have h2:some (if k'=x then y else v')=some v:=h2
  simp at h1 h2
  subst h1
  by_cases hx:k'=x
  ·rw [if_pos hx] at h2;exact .inl ⟨hx,h2.symm⟩
  ·rw [if_neg hx] at h2;exact .inr ⟨hx,0,rfl,by simp [h2]⟩
 | k'::ks,v'::vs,k,v,hl,⟨i+1,h1,h2⟩=>by
  rcases YC (ks:=ks) (vs:=vs) (by simpa using hl) ⟨i,by simpa using h1,by simpa [mapK] using h2⟩ with q | ⟨q,j,e1,e2⟩
  ·exact .inl q
  ·exact .inr ⟨q,j+1,by simpa using e1,by simpa using e2⟩
theorem map_len {x:List Key}{y:D}:∀ {ks:List (List Key)}{vs:List D},(mapK ks vs x y).length=vs.length
 | [],vs=>rfl
 | _::_,[]=>rfl
 | k::ks,v::vs=>by
  show ((if k=x then y else v)::mapK ks vs x y).length=_
  simp [map_len]
theorem zbr {ks:List (List Key)}{vs:List D}{x k:List Key}{y v:D}(hl:ks.length=vs.length) (h:ent (putKs ks vs x y).1 (putKs ks vs x y).2 k v):(k=x/\v=y)\/(k≠x/\ent ks vs k v):=by
 unfold putKs at h
 by_cases hx:hasK ks x=true
 ·rw [if_pos hx] at h
  exact YC hl h
 ·rw [if_neg hx] at h
  obtain ⟨i,h1,h2⟩:=h
  have g1:(ks++[x])[i]?=some k:=h1
  have g2:(vs++[y])[i]?=some v:=h2
  clear h1 h2
  by_cases hi:i < ks.length
  ·rw [Υ hi] at g1
   rw [Υ (by lia)] at g2
   refine .inr ⟨?_,i,g1,g2⟩
   rintro rfl
   apply hx
   unfold hasK
   rw [dF]
   exact ⟨k,Ϝ g1,by simp⟩
  ·have e1:i=ks.length:=by
    have:=(Η.mp g1).1
    simp at this
    lia
   rw [e1] at g1 g2
   rw [hl] at g2
   simp at g1 g2
   exact .inl ⟨g1.symm,g2.symm⟩
theorem zbq {ks:List (List Key)}{vs:List D}{x:List Key}{y:D}(hl:ks.length=vs.length):(putKs ks vs x y).1.length=(putKs ks vs x y).2.length/\(putKs ks vs x y).1.length<=ks.length+1:=by
 unfold putKs
 split
 ·exact ⟨by rw [map_len];exact hl,by simp⟩
 ·simp [hl]
structure Tbl (Q:List Key->D->Prop) (ks:List (List Key)) (vs:List D):Prop where
 len:ks.length=vs.length
 all:∀ k v,ent ks vs k v->Q k v
theorem Tbl.put {Q:List Key->D->Prop}{ks:List (List Key)}{vs:List D}{x:List Key}{y:D}(t:Tbl Q ks vs) (h:Q x y):Tbl Q (putKs ks vs x y).1 (putKs ks vs x y).2:=by
 refine ⟨(zbq t.len).1,fun k v e=>?_⟩
 rcases zbr t.len e with ⟨rfl,rfl⟩ | ⟨_,e⟩
 ·exact h
 ·exact t.all k v e
theorem zah {ks:List (List Key)}{vs:List D}{p:List Int}{v:D}{t:List D}(e:t=p.map D.int) (h:ks.length+1<=1000000):putD (.dT ks vs) (.tup t) v=some (.dT (putKs ks vs (kp p) v).1 (putKs ks vs (kp p) v).2):=by
 subst e
 show (keysD (p.map D.int)).bind _=_
 rw [Jc]
 show (if fits (ks.length+1)=true then _ else _)=_
 rw [if_pos (fits_of h)]
theorem zbp {ks:List Key}{vs:List D}{s:Str}{v:D}(h:hasK ks (.inr s)=false) (hl:ks.length+1<=1000000):putD (.dK ks vs) (.str s) v=some (.dK (ks++[.inr s]) (vs++[v])):=by
 show (if fits (ks.length+1)=true then some (D.dK (putKs ks vs (fO s) v).1 (putKs ks vs (fO s) v).2) else none)=_
 rw [if_pos (fits_of hl)]
 unfold putKs
 rw [h];rfl
theorem zcj (ns:List Int) (lo hi:Option Int):∃ ms:List Int,cutD (ns.map D.int) lo hi=ms.map D.int/\ms.length<=ns.length:=by
 unfold cutD
 rw [<- List.map_drop,<- List.map_take]
 refine ⟨_,rfl,?_⟩
 rw [aA,dD]
 lia
theorem V1 {x k:Int}(h0:0 < k) (h1:k<=4294967296):zM (x % k)=true:=Xn (eF _ (by lia)) (by have:=cW x h0;lia)
theorem Xu {lo hi:Int}(h:lo < hi):z8 lo hi=.int lo::z8 (lo+1) hi:=by
 unfold z8
 obtain ⟨m,hm⟩:∃ m,(hi - lo).toNat=m+1:=⟨(hi - lo).toNat - 1,by lia⟩
 have e:(hi - (lo+1)).toNat=m:=by lia
 rw [hm,e,mV,Ρ,eO]
 congr 1
 ·simp
 ·refine List.map_congr_left fun k _=>?_
  simp
  lia
theorem zbk {lo hi:Int}(h:hi<=lo):z8 lo hi=[]:=by
 unfold z8
 rw [show (hi - lo).toNat=0 by lia];rfl
theorem om1 {a b K:Nat}(h:b<=K) (e:Nat.ble a b=true):a<=K:=Ϧ (gP e) h
theorem om2 {a b K:Nat}(h:b<=K+1) (e:Nat.ble (a+1) b=true):a<=K:=Nat.le_of_succ_le_succ (Ϧ (gP e) h)
theorem om3 {b K:Nat}(h:b<=K) (e:Nat.ble 1 b=true):K=K - 1+1:=(Nat.sub_add_cancel (Ϧ (gP e) h)).symm
noncomputable def frOf (h:Heap) (n:Nat):W.Frag:=(ao n).filterMap fun a=>(h.get? a).map fun o=>(a,o)
theorem frIn {h:Heap}:∀ (l:List Addr) (a:Addr) (o:Obj),(l.filterMap fun a=>(h.get? a).map fun o=>(a,o)).lookup a=some o->h.get? a=some o
 | [],a,o,e=>by cases e
 | b::l,a,o,e=>by
  rw [d9] at e
  cases q:h.get? b with
  | none=>rw [q] at e;exact frIn l a o e
  | some x=>
   rw [q] at e
   dsimp only [Option.map_some] at e
   rw [au] at e
   cases hb:a==b with
   | true=>
    rw [hb] at e
    cases eq_of_beq hb
    exact q.trans e
   | false=>
    rw [hb] at e
    exact frIn l a o e
noncomputable def JB (K:W.Frag) (x:Str):Option (aN×Bool):=match W.nsIn K ϕ x with
  | some (some (.ref f))=>(match K.lookup f with
     | some ⟨_,_,.func fd,_⟩=>some ({ fd with kwdefaults:=.none,doc:=.none,pyModule:=.none,annotations:=none,code:=.none,closureTuple:=.none },W.codeIn K fd.code x&&W.keepIn K (.ref f))
     | _=>none)
  | _=>none
set_option tactic.hygienic true in
theorem QL {K:W.Frag}{x:Str}{st:Stmt}(e:JB K x=some (W.fnOf x x (yr st) (z6 st) (zB st) .none .none .none .none none .none .none,true)):DefAt K x st:=by
 unfold JB at e
 split at e
 ·rename_i f hf
  split at e
  ·rename_i oc od fd osl hl
   obtain ⟨e1,e2⟩:=Prod.mk.inj (Ϛ e)
   obtain ⟨c,k⟩:=gZ.mp e2
   cases fd
   cases e1
   exact zet hf hl c k
  ·cases e
 ·cases e
noncomputable def conOk (K:W.Frag) (rs:List Row) (x:Str):D->Bool
 | .int i=>(match W.nsIn K ϕ x with | some (some (.int j _))=>i==j | _=>false)
 | .str y=>(match W.nsIn K ϕ x with | some (some (.str z _))=>y==z | _=>false)
 | .fn i=>(match rs[i]? with | some r=>r.name==x | none=>false)
 | _=>false
noncomputable def seenT (K:W.Frag) (B:Tb) (rs:List Row):List (Option (aN×Bool))×List (Option (Option δ))×List Bool:=
 (rs.map fun r=>JB K r.name,B.bare.map fun x=>W.nsIn K ϕ x,B.consts.map fun p=>conOk K rs p.1 p.2)
noncomputable def wantT (B:Tb) (rs:List Row):List (Option (aN×Bool))×List (Option (Option δ))×List Bool:=
 (rs.map fun r=>some (W.fnOf r.name r.name (yr r.st) (z6 r.st) (zB r.st) .none .none .none .none none .none .none,true),B.bare.map fun _=>some none,B.consts.map fun _=>true)
theorem vI {α β:Type}{f g:α->β}{Q:α->Prop}(h:∀ a,f a=g a->Q a):∀ {l:List α},l.map f=l.map g->AllR Q l
 | [],_=>trivial
 | a::l,e=>by
  obtain ⟨e1,e2⟩:=aB e
  exact ⟨h a e1,vI h e2⟩
set_option tactic.hygienic true in
theorem zex {K:W.Frag}{rs:List Row}{x:Str}{d:D}(hd:AllR (fun r=>DefAt K r.name r.st) rs) (e:conOk K rs x d=true):∃ u v,W.nsIn K ϕ x=some (some u)/\RelV v u/\∀ g,Has (gmOf K rs) g d v:=by
 cases d with
 | int i=>
  unfold conOk at e
  dsimp only at e
  split at e
  ·rename_i j t q
   cases eq_of_beq e
   exact zcp q
  ·cases e
 | str y=>
  unfold conOk at e
  dsimp only at e
  split at e
  ·rename_i j t q
   cases eq_of_beq e
   exact zck q
  ·cases e
 | fn i=>
  unfold conOk at e
  dsimp only at e
  split at e
  ·rename_i r q
   cases eq_of_beq e
   exact zey q (hd.at q)
  ·cases e
 | _=>cases e
theorem zcE {K:W.Frag}{B:Tb}{rs:List Row}(e:seenT K B rs=wantT B rs):Txt K B rs:=by
 obtain ⟨e1,e2⟩:=Prod.mk.inj e
 obtain ⟨e2,e3⟩:=Prod.mk.inj e2
 have hd:AllR (fun r=>DefAt K r.name r.st) rs:=vI (fun r q=>QL q) e1
 have hc:AllR (fun p:Str×D=>∃ u v,W.nsIn K ϕ p.1=some (some u)/\RelV v u/\∀ g,Has (gmOf K rs) g p.2 v) B.consts:=vI (fun p q=>zex hd q) e3
 exact ⟨hd,vI (fun x q=>q) e2,fun n x d q=>hc.at q⟩
abbrev TxtIn (B:Tb) (rs:List Row) (h:Heap):Prop:=∃ K:W.Frag,K.In h/\Txt K B rs
theorem zcF {B:Tb}{rs:List Row}{n:Nat}(w:ϥ) (s:ο) (e:seenT (frOf s.heap n) B rs=wantT B rs):TxtIn B rs s.heap:=⟨frOf s.heap n,fun a o q=>frIn _ a o q,zcE e⟩
theorem walkH {l:W.OpenLaw}{q:Ω}{loose:List Str}{XP:(Str->Option δ)->Heap->Prop}{d:DefRec}{B:Tb}{rs:List Row}{f:Nat}{r:Row}{y:Str}{wh:Nat}(hn:l.most=some 63) (hdf:d.params.defaults=[])
  (hr:rs[f]?=some r) (hd:d.name=r.name) (hps:r.ps=[y]) (t:Tabs B rs)
  (run:∀ ns:List Int,ns.length<=63->callW (fnsOf rs) wh 60 f [.scr ns] (fun x _=>x.1=.bl true) []):W.WalkO q loose XP (fun _ h=>TxtIn B rs h) l.row.toRowW d [] (fun f vs=>PySem.call f vs):=by
 refine Att.Y4 hn hdf fun w sw s₁ mg mb fa o pm cd doc a vs ns G Y ho hd' hcd hmg hobj hints hlen hg=>?_
 obtain ⟨K,KX,tx⟩:=Y
 obtain ⟨fa',fd,F,na⟩:=(tx.defs.at hr).ex
 rw [hd] at hmg
 have e:=hmg.symm.trans (W.mg_of KX G.T.g na)
 cases e
 have ro:=t.rows.at hr
 refine Qp (CX:=CX0) (k:=60) (x:=y) (fd:=fd) (sp:=spN (gmOf K rs) (callW (fnsOf rs) wh 60) f 1) KX G.T.g G.T.b G.T.builtins G.T.nolimit hg hobj hints (Ϧ hlen (by decide)) ⟨rfl,rfl,by decide,by decide⟩ (fun base KB NB=>?_) (fun s v=>?_) (fun H hO hS=>?_) fun H e s' z=>z
 ·have md:=zdS t tx KX G.T.g
  have:=fn_e (P:=l.prog) (w:=w) (base:=base) (wh:=wh) (k:=59) md hr F (zaO wh md 59)
  rw [hps] at this
  exact this
 ·obtain ⟨oc,od,kV,doc,pm,an,cdv,ct,osl,rfl,lk,hcd⟩:=F.ex
  have hb:=ro.bd kV doc pm an cdv ct [v] (by rw [hps];rfl)
  rw [hps] at hb
  exact .of_eq hb
 ·refine ⟨rfl,⟨H,[]⟩,[.scr ns],[],_,⟨Same.refl H,rfl,List.nodup_nil,(fun k c b h1 _ _=>by cases h1),(fun k c b h1 _=>by cases h1)⟩,⟨.ref a,[],rfl,⟨a,rfl,hS⟩,rfl⟩,run ns hlen,fun x v H' g' S' _ _ vx q=>?_⟩
  obtain ⟨d,k⟩:=x
  cases (show d=.bl true from q)
  exact vx.sc fun _ z=>z.elim
noncomputable def drOf (s:Stmt):DefRec:=match s with
 | .FunctionDef n a b _ _ _ sc _ _ p=>⟨n,a,b,sc,p⟩
 | _=>⟨"",yr s,[],zB s,⟨0,0,0,0⟩⟩
theorem zek {l:W.OpenLaw}{q:Ω}{d:DefRec}{B:Tb}{rs:List Row}{f:Nat}{r:Row}{y:Str}{wh:Nat}(N n:Nat) (ok:l.wellSaid=true)
  (left:W.LeftO l.prog q [] (fun s=>W.xlAt q [] s&&W.recOk [] s) (fun s=>seenT (frOf s.heap n) B rs) (fun _=>wantT B rs) N)
  (hdef:W.defOf q l.name=some (d,[])) (hp:l.prog.theDef l.name=some (d.params,d.body,d.scope)) (hk:W.kwWritten? d.params.kwonlyargs d.params.kw_defaults=some [])
  (okk:(W.chainsOk q&&W.opensWell l.prog&&(W.frees l.row.toRowW&&l.row.within.isEmpty))=true) (hb:l.prog.bare) (hw:l.row.toRowW.promised)
  (hn:l.most=some 63) (hdf:d.params.defaults=[]) (hr:rs[f]?=some r) (hd:d.name=r.name) (hps:r.ps=[y]) (t:Tabs B rs)
  (run:∀ ns:List Int,ns.length<=63->callW (fnsOf rs) wh 60 f [.scr ns] (fun x _=>x.1=.bl true) []):l.Holds:=
 W.holds_law ok fun said=>W.holds_open (r:=l.row) (q:=q) (loose:=[]) (XP:=W.XL q []) (YP:=fun _ h=>TxtIn B rs h) (N:=N) left (fun w s e=>zcF w s e) (fun w h h' Y k=>Y.elim fun K z=>⟨K,z.1.keeps k,z.2⟩)
  (fun s e=>W.xl_of s (gZ.mp e).1) W.XL.keeps hdef hp hk (fun s e=>W.recFacts_of (gZ.mp e).2) (Bool.or_true _) said okk hb hw (walkH hn hdf hr hd hps t run)
end EV
namespace Q35
open PySem PySem.Spec PyProof.Rows L2 EV
def top (i:Nat):Stmt:=ϧ.main.body.getD i (.Pass ⟨0,0,0,0⟩)
noncomputable abbrev uK:List C:=[.ite (.cmp .Eq (.sub (.var 0) (.con (.int 0))) (.con (.str "if"))) [.ret (.tup [(.sub (.var 0) (.con (.int 2))),(.sub (.var 0) (.con (.int 3)))])] [],.ite (.cmp .Eq (.sub (.var 0) (.con (.int 0))) (.con (.str "while"))) [.ret (.tup [(.sub (.var 0) (.con (.int 2)))])] [],.ite (.cmp .Eq (.sub (.var 0) (.con (.int 0))) (.con (.str "try"))) [.ret (.tup [(.sub (.var 0) (.con (.int 1))),(.sub (.var 0) (.con (.int 3)))])] [],.ite (.cmp .Eq (.sub (.var 0) (.con (.int 0))) (.con (.str "do"))) [.ret (.tup [(.sub (.var 0) (.con (.int 1))),(.sub (.var 0) (.con (.int 2)))])] [],.ret (.tup [])]
noncomputable def vV:EV.Row:=⟨"blocks_of",top 1,["row"],["row"],⟨1,1,uK⟩⟩
noncomputable abbrev Wv:List C:=[.ret (.bi .tuple [(.bi .sorted [(.call 2 [(.sub (.var 0) (.con (.int 2))),(.tup [])])])])]
noncomputable def Xx:EV.Row:=⟨"places",top 3,["errand"],["errand"],⟨1,1,Wv⟩⟩
noncomputable abbrev xg:List C:=[.set (.one 2) (.lst [(.bin .Add (.var 1) (.tup [(.bi .len [(.var 0)])]))]),.forr (.tup [3,4]) (.enum (.var 0)) [.ext 2 (.call 3 [(.var 4),(.bin .Add (.var 1) (.tup [(.var 3)]))])],.ret (.var 2)]
noncomputable def yW:EV.Row:=⟨"block_places",top 4,["block","ahead"],["block","ahead","found","number","row"],⟨2,5,xg⟩⟩
noncomputable abbrev yp:List C:=[.set (.one 2) (.lst [(.var 1)]),.ite (.cmp .Eq (.sub (.var 0) (.con (.int 0))) (.con (.str "while"))) [.app 2 (.call 4 [(.var 1)])] [],.ite (.cmp .Eq (.sub (.var 0) (.con (.int 0))) (.con (.str "do"))) [.app 2 (.call 5 [(.var 1)])] [],.forr (.tup [3,4]) (.enum (.call 0 [(.var 0)])) [.ext 2 (.call 2 [(.var 4),(.bin .Add (.var 1) (.tup [(.var 3)]))])],.ret (.var 2)]
noncomputable def wK:EV.Row:=⟨"row_places",top 5,["row","place"],["row","place","found","number","block"],⟨2,5,yp⟩⟩
noncomputable abbrev jy:List C:=[.ret (.bin .Add (.var 0) (.tup [(.con (.int 0))]))]
noncomputable def u0:EV.Row:=⟨"round_of",top 6,["place"],["place"],⟨1,1,jy⟩⟩
noncomputable abbrev xj:List C:=[.ret (.bin .Add (.var 0) (.tup [(.con (.int 1))]))]
noncomputable def yX:EV.Row:=⟨"beginning_of",top 7,["place"],["place"],⟨1,1,xj⟩⟩
noncomputable abbrev jz:List C:=[.ret (.bin .Add (.var 0) (.tup [(.var 1),(.con (.int 0))]))]
noncomputable def u5:EV.Row:=⟨"first_of",top 8,["place","number"],["place","number"],⟨2,2,jz⟩⟩
noncomputable abbrev wW:List C:=[.ret (.cmp .Eq (.bin .Mod (.bi .len [(.var 0)]) (.con (.int 2))) (.con (.int 0)))]
noncomputable def wL:EV.Row:=⟨"is_between",top 9,["place"],["place"],⟨1,1,wW⟩⟩
noncomputable abbrev jA:List C:=[.ite (.call 7 [(.var 1)]) [.ret (.con .non)] [],.ite (.cmp .Eq (.bi .len [(.var 1)]) (.con (.int 1))) [.ret (.sub (.var 0) (.con (.int 2)))] [],.set (.one 2) (.call 9 [(.var 0),(.slc (.var 1) none (some (.neg (.con (.int 2)))))]),.set (.one 3) (.ite (.cmp .Is (.var 2) (.con .non)) (.tup []) (.call 0 [(.var 2)])),.ret (.ite (.chn .LtE .Lt (.con (.int 0)) (.sub (.var 1) (.neg (.con (.int 2)))) (.bi .len [(.var 3)])) (.sub (.var 3) (.sub (.var 1) (.neg (.con (.int 2))))) (.con .non))]
noncomputable def u6:EV.Row:=⟨"block_at",top 10,["errand","place"],["errand","place","row","blocks"],⟨2,4,jA⟩⟩
noncomputable abbrev Wu:List C:=[.set (.one 2) (.call 8 [(.var 0),(.var 1)]),.ite (.or (.cmp .Is (.var 2) (.con .non)) (.one (.not (.chn .LtE .Lt (.con (.int 0)) (.sub (.var 1) (.neg (.con (.int 1)))) (.bi .len [(.var 2)]))))) [.ret (.con .non)] [],.ret (.sub (.var 2) (.sub (.var 1) (.neg (.con (.int 1)))))]
noncomputable def Xw:EV.Row:=⟨"row_at",top 11,["errand","place"],["errand","place","block"],⟨2,3,Wu⟩⟩
noncomputable abbrev Z4:List C:=[.set (.one 2) (.call 9 [(.var 0),(.var 1)]),.ret (.ite (.cmp .Is (.var 2) (.con .non)) (.con (.str "")) (.sub (.var 2) (.con (.int 0))))]
noncomputable def qL:EV.Row:=⟨"word_at",top 12,["errand","place"],["errand","place","row"],⟨2,3,Z4⟩⟩
noncomputable abbrev Wx:List C:=[.set (.one 2) (.call 8 [(.var 0),(.var 1)]),.ret (.and (.cmp .IsNot (.var 2) (.con .non)) (.one (.cmp .Eq (.sub (.var 1) (.neg (.con (.int 1)))) (.bi .len [(.var 2)]))))]
noncomputable def Xz:EV.Row:=⟨"is_end",top 13,["errand","place"],["errand","place","block"],⟨2,3,Wx⟩⟩
noncomputable abbrev qj:List C:=[.set (.one 2) (.lst []),.frz 1,.ite (.call 7 [(.var 1)]) [.set (.one 1) (.slc (.var 1) none (some (.neg (.con (.int 1))))),.frz 1,.ite (.cmp .Eq (.call 10 [(.var 0),(.var 1)]) (.con (.str "do"))) [.frz 1,.app 2 (.tup [(.var 1),(.con (.int 1))])] []] [.frz 1,.ite (.and (.cmp .Gt (.bi .len [(.var 1)]) (.con (.int 1))) (.and (.cmp .Eq (.sub (.var 1) (.neg (.con (.int 2)))) (.con (.int 1))) (.and (.cmp .Eq (.call 10 [(.var 0),(.slc (.var 1) none (some (.neg (.con (.int 2)))))]) (.con (.str "do"))) (.one (.call 11 [(.var 0),(.var 1)]))))) [.set (.one 1) (.slc (.var 1) none (some (.neg (.con (.int 2)))))] []],.whl (.cmp .Gt (.bi .len [(.var 1)]) (.con (.int 1))) [.app 2 (.tup [(.slc (.var 1) none (some (.neg (.con (.int 2))))),(.sub (.var 1) (.neg (.con (.int 2))))]),.set (.one 1) (.slc (.var 1) none (some (.neg (.con (.int 2)))))],.ret (.var 2)]
noncomputable def XC:EV.Row:=⟨"around",top 14,["errand","place"],["errand","place","found"],⟨2,3,qj⟩⟩
noncomputable abbrev Z5:List C:=[.forr (.tup [2,3]) (.seq (.call 12 [(.var 0),(.var 1)])) [.set (.one 4) (.call 9 [(.var 0),(.var 2)]),.ite (.and (.cmp .Eq (.sub (.var 4) (.con (.int 0))) (.con (.str "try"))) (.one (.cmp .Eq (.var 3) (.con (.int 0))))) [.ret (.tup [(.con (.str "catch")),(.sub (.var 4) (.con (.int 2))),(.call 6 [(.var 2),(.con (.int 1))])])] [],.ite (.and (.cmp .Eq (.sub (.var 4) (.con (.int 0))) (.con (.str "do"))) (.one (.cmp .Eq (.var 3) (.con (.int 0))))) [.ret (.tup [(.con (.str "undo")),(.call 17 [(.var 0),(.var 2)]),(.call 5 [(.var 2)])])] [],.ite (.cmp .Eq (.sub (.var 4) (.con (.int 0))) (.con (.str "do"))) [.ret (.tup [(.con (.str "undo")),(.call 17 [(.var 0),(.var 2)]),(.bin .Add (.var 2) (.tup [(.con (.int 1)),(.bi .len [(.sub (.var 4) (.con (.int 2)))])]))])] []],.ret (.con .non)]
noncomputable def qM:EV.Row:=⟨"fall_at",top 15,["errand","place"],["errand","place","outer","number","row"],⟨2,5,Z5⟩⟩
noncomputable abbrev Ww:List C:=[.set (.one 2) (.comp (.one 0) [0] (.seq (.call 12 [(.var 0),(.var 1)])) [(.cmp .Eq (.call 10 [(.var 1),(.sub (.var 0) (.con (.int 0)))]) (.con (.str "do")))] (.var 0)),.frz 2,.ite (.bi .any [(.comp (.tup [0,1]) [] (.seq (.var 2)) [] (.cmp .Eq (.var 1) (.con (.int 1))))]) [.ret (.con (.str "shut"))] [],.ret (.ite (.cmp .Eq (.bi .len [(.var 2)]) (.con (.int 0))) (.con .non) (.call 5 [(.sub (.sub (.var 2) (.con (.int 0))) (.con (.int 0)))]))]
noncomputable def Xy:EV.Row:=⟨"off_at",top 16,["errand","place"],["errand","place","dos"],⟨2,3,Ww⟩⟩
noncomputable abbrev xx:List C:=[.set (.one 2) (.lst []),.forr (.tup [3,4]) (.enum (.var 0)) [.ite (.cmp .Eq (.sub (.var 4) (.con (.int 0))) (.con (.str "do"))) [.app 2 (.bin .Add (.var 1) (.tup [(.var 3)]))] [],.forr (.tup [5,6]) (.enum (.call 0 [(.var 4)])) [.ext 2 (.call 15 [(.var 6),(.bin .Add (.var 1) (.tup [(.var 3),(.var 5)]))])]],.ret (.var 2)]
noncomputable def vU:EV.Row:=⟨"do_places",top 17,["block","ahead"],["block","ahead","found","number","row","which","inner"],⟨2,7,xx⟩⟩
noncomputable abbrev J5:List C:=[.ret (.sub (.call 15 [(.sub (.var 0) (.con (.int 2))),(.tup [])]) (.var 1))]
noncomputable def Ue:EV.Row:=⟨"do_at",top 18,["errand","d"],["errand","d"],⟨2,2,J5⟩⟩
noncomputable abbrev uJ:List C:=[.ret (.mth .index (.call 15 [(.sub (.var 0) (.con (.int 2))),(.tup [])]) [(.var 1)])]
noncomputable def vR:EV.Row:=⟨"number_at",top 19,["errand","place"],["errand","place"],⟨2,2,uJ⟩⟩
noncomputable abbrev wj:List C:=[.set (.one 1) (.lst []),.set (.one 2) (.bi .abs [(.var 0)]),.ite (.cmp .GtE (.var 2) (.bin .Pow (.con (.int 10)) (.con (.int 18)))) [.whl (.and (.cmp .Gt (.var 2) (.con (.int 0))) (.one (.cmp .Lt (.bi .len [(.var 1)]) (.con (.int 60))))) [.app 1 (.bin .Mod (.var 2) (.bin .Pow (.con (.int 10)) (.con (.int 6)))),.set (.one 2) (.bin .FloorDiv (.var 2) (.bin .Pow (.con (.int 10)) (.con (.int 6))))],.ret (.var 1)] [],.forr (.one 3) (.rng none (.con (.int 9))) [.set (.one 4) (.bin .Mod (.bin .Add (.bin .Add (.bin .Mult (.var 0) (.con (.int 48271))) (.bin .Mult (.con (.int 977)) (.var 3))) (.con (.int 1))) (.con (.int 2147483647))),.set (.one 4) (.bin .Mod (.bin .Mult (.var 4) (.var 4)) (.con (.int 2147483647))),.set (.one 4) (.bin .Mod (.bin .Mult (.bin .Add (.var 4) (.bin .Mult (.con (.int 40692)) (.bin .Add (.var 3) (.con (.int 3))))) (.con (.int 69621))) (.con (.int 2147483629))),.app 1 (.bin .Mod (.bin .FloorDiv (.var 4) (.con (.int 8))) (.bin .Pow (.con (.int 10)) (.con (.int 6))))],.ret (.var 1)]
noncomputable def xO:EV.Row:=⟨"_law_row_of",top 21,["_law_cell"],["_law_cell","_law_found","_law_left","_law_k","_law_one"],⟨1,5,wj⟩⟩
noncomputable abbrev jC:List C:=[.set (.one 1) (.lst []),.forr (.one 2) (.seq (.slc (.var 0) none (some (.con (.int 63))))) [.ext 1 (.call 18 [(.var 2)])],.frz 1,.ret (.dic false [.inr "draws",.inr "at",.inr "rows",.inr "more"] [(.var 1),(.con (.int 0)),(.con (.int 24)),(.bin .Mod (.bin .Add (.con (.int 7919)) (.bin .Mult (.con (.int 40693)) (.bi .sum [(.var 1)]))) (.con (.int 2147483629)))])]
noncomputable def jc:EV.Row:=⟨"_law_pot",top 22,["_law_script"],["_law_script","_law_draws","_law_cell"],⟨1,3,jC⟩⟩
noncomputable abbrev uL:List C:=[.set (.one 2) (.sub (.var 0) (.con (.str "at"))),.sti (.var 0) (.con (.str "at")) (.bin .Add (.var 2) (.con (.int 1))),.ite (.cmp .Lt (.var 2) (.bi .len [(.sub (.var 0) (.con (.str "draws")))])) [.ret (.bin .Mod (.bin .FloorDiv (.sub (.sub (.var 0) (.con (.str "draws"))) (.var 2)) (.con (.int 7))) (.var 1))] [],.set (.one 3) (.bin .Mod (.bin .Add (.bin .Mult (.sub (.var 0) (.con (.str "more"))) (.sub (.var 0) (.con (.str "more")))) (.con (.int 40692))) (.con (.int 2147483629))),.sti (.var 0) (.con (.str "more")) (.var 3),.ret (.bin .Mod (.bin .FloorDiv (.var 3) (.con (.int 56))) (.var 1))]
noncomputable def vW:EV.Row:=⟨"_law_take",top 23,["_law_pot_here","_law_many"],["_law_pot_here","_law_many","_law_at","_law_more"],⟨2,4,uL⟩⟩
noncomputable abbrev wG:List C:=[.set (.one 3) (.call 20 [(.var 0),(.con (.int 8))]),.ite (.and (.cmp .Gt (.var 3) (.con (.int 5))) (.one (.cmp .Gt (.var 2) (.con (.int 0))))) [.set (.one 4) (.sub (.con (.str "+-*<=")) (.call 20 [(.var 0),(.con (.int 5))])),.set (.one 5) (.call 21 [(.var 0),(.var 1),(.bin .Sub (.var 2) (.con (.int 1)))]),.ret (.tup [(.var 4),(.var 5),(.call 21 [(.var 0),(.var 1),(.bin .Sub (.var 2) (.con (.int 1)))])])] [],.ite (.cmp .Lt (.var 3) (.con (.int 3))) [.ret (.sub (.var 1) (.call 20 [(.var 0),(.bi .len [(.var 1)])]))] [],.ite (.cmp .Eq (.var 3) (.con (.int 3))) [.ret (.bin .Sub (.con (.int 1000000006)) (.call 20 [(.var 0),(.con (.int 1000000007))]))] [],.ret (.call 20 [(.var 0),(.con (.int 4))])]
noncomputable def u9:EV.Row:=⟨"_law_sum",top 24,["_law_pot_here","_law_names","_law_deep"],["_law_pot_here","_law_names","_law_deep","_law_way","_law_sign","_law_one"],⟨3,6,wG⟩⟩
noncomputable abbrev wu:List C:=[.set (.one 3) (.sub (.bin .Add (.var 1) (.lst [(.con .non)])) (.call 20 [(.var 0),(.bin .Add (.bi .len [(.var 1)]) (.con (.int 1)))])),.set (.one 4) (.call 20 [(.var 0),(.bin .Add (.bin .Mult (.con (.int 2)) (.bi .len [(.var 2)])) (.con (.int 1)))]),.ite (.cmp .GtE (.var 4) (.bi .len [(.var 2)])) [.set (.one 5) (.sub (.lst [(.con (.str "bank")),(.con (.str "b")),(.con (.str "clerk")),(.con (.str "bankers"))]) (.call 20 [(.var 0),(.con (.int 4))])),.ret (.tup [(.var 3),(.con (.str "ask")),(.var 5),(.call 21 [(.var 0),(.var 1),(.con (.int 2))])])] [],.set (.one 6) (.sub (.var 2) (.var 4)),.ret (.tup [(.var 3),(.con (.str "call")),(.sub (.var 6) (.con (.int 0))),(.bi .tuple [(.comp (.one 0) [0,1] (.rng none (.sub (.var 6) (.con (.int 1)))) [] (.call 21 [(.var 1),(.var 2),(.con (.int 1))]))])])]
noncomputable def xQ:EV.Row:=⟨"_law_branch",top 25,["_law_pot_here","_law_names","_law_heads"],["_law_pot_here","_law_names","_law_heads","_law_name","_law_which","_law_who","_law_head"],⟨3,7,wu⟩⟩
noncomputable abbrev jB:List C:=[.sti (.var 0) (.con (.str "rows")) (.bin .Sub (.sub (.var 0) (.con (.str "rows"))) (.con (.int 1))),.set (.one 5) (.call 20 [(.var 0),(.sub (.lst [(.con (.int 9)),(.con (.int 17))]) (.bi .int [(.cmp .Gt (.var 3) (.con (.int 1)))]))]),.ite (.cmp .Lt (.var 5) (.con (.int 3))) [.set (.one 6) (.sub (.lst [(.con (.int 1)),(.con (.int 1)),(.con (.int 2)),(.con (.int 2)),(.con (.int 3)),(.con (.int 4))]) (.call 20 [(.var 0),(.con (.int 6))])),.set (.one 7) (.comp (.one 0) [0,1,2] (.rng none (.var 6)) [] (.call 22 [(.var 1),(.var 2),(.var 3)])),.ret (.tup [(.con (.str "want")),(.bin .Add (.con (.int 1)) (.call 20 [(.var 0),(.var 6)])),(.bi .tuple [(.var 7)])])] [],.ite (.cmp .Lt (.var 5) (.con (.int 5))) [.ret (.tup [(.con (.str "set")),(.sub (.var 1) (.call 20 [(.var 0),(.bi .len [(.var 1)])])),(.call 21 [(.var 0),(.var 1),(.con (.int 3))])])] [],.ite (.cmp .Lt (.var 5) (.con (.int 9))) [.ret (.tup [(.sub (.lst [(.sub (.lst [(.con (.str "tell")),(.con (.str "give"))]) (.bi .int [(.not (.var 4))])),(.con (.str "fail")),(.con (.str "tell")),(.con (.str "fail"))]) (.bin .Sub (.var 5) (.con (.int 5)))),(.call 21 [(.var 0),(.var 1),(.con (.int 2))])])] [],.ret (.call 24 [(.var 0),(.var 1),(.var 2),(.bin .Sub (.var 3) (.con (.int 1))),(.var 4),(.var 5)])]
noncomputable def jb:EV.Row:=⟨"_law_row",top 26,["_law_pot_here","_law_names","_law_heads","_law_deep","_law_undoing"],["_law_pot_here","_law_names","_law_heads","_law_deep","_law_undoing","_law_way","_law_many","_law_some"],⟨5,8,jB⟩⟩
noncomputable abbrev yl:List C:=[.set (.one 6) (.call 21 [(.var 0),(.var 1),(.con (.int 1))]),.set (.one 7) (.call 25 [(.var 0),(.var 1),(.var 2),(.var 3),(.var 4)]),.ite (.cmp .Eq (.var 5) (.con (.int 9))) [.ret (.tup [(.con (.str "while")),(.var 6),(.var 7)])] [],.set (.one 8) (.call 25 [(.var 0),(.var 1),(.var 2),(.var 3),(.or (.var 4) (.one (.cmp .Gt (.var 5) (.con (.int 13)))))]),.ite (.cmp .Lt (.var 5) (.con (.int 12))) [.ret (.tup [(.con (.str "if")),(.var 6),(.var 7),(.var 8)])] [],.ite (.cmp .Lt (.var 5) (.con (.int 14))) [.set (.one 9) (.sub (.bin .Add (.var 1) (.lst [(.con .non)])) (.call 20 [(.var 0),(.bin .Add (.bi .len [(.var 1)]) (.con (.int 1)))])),.ret (.tup [(.con (.str "try")),(.var 7),(.var 9),(.var 8)])] [],.ret (.tup [(.con (.str "do")),(.var 7),(.var 8)])]
noncomputable def yK:EV.Row:=⟨"_law_deep_row",top 27,["_law_pot_here","_law_names","_law_heads","_law_deep","_law_undoing","_law_way"],["_law_pot_here","_law_names","_law_heads","_law_deep","_law_undoing","_law_way","_law_one","_law_first","_law_second","_law_name"],⟨6,10,yl⟩⟩
noncomputable abbrev wY:List C:=[.set (.one 5) (.lst []),.forr (.one 6) (.rng none (.sub (.lst [(.con (.int 0)),(.con (.int 1)),(.con (.int 1)),(.con (.int 2)),(.con (.int 2)),(.con (.int 3)),(.con (.int 3)),(.sub (.lst [(.con (.int 4)),(.con (.int 8))]) (.bi .int [(.cmp .Gt (.var 3) (.con (.int 3)))]))]) (.call 20 [(.var 0),(.con (.int 8))]))) [.ite (.cmp .Gt (.sub (.var 0) (.con (.str "rows"))) (.con (.int 0))) [.app 5 (.call 23 [(.var 0),(.var 1),(.var 2),(.var 3),(.var 4)])] []],.ret (.bi .tuple [(.var 5)])]
noncomputable def wN:EV.Row:=⟨"_law_block",top 28,["_law_pot_here","_law_names","_law_heads","_law_deep","_law_undoing"],["_law_pot_here","_law_names","_law_heads","_law_deep","_law_undoing","_law_rows","_law_k"],⟨5,7,wY⟩⟩
noncomputable abbrev yF:List C:=[.sti (.var 0) (.con (.str "rows")) (.con (.int 24)),.set (.one 3) (.slc (.lst [(.con (.str "p")),(.con (.str "qq")),(.con (.str "x"))]) none (some (.sub (.var 1) (.con (.int 1))))),.set (.one 4) (.bin .Add (.var 3) (.comp (.one 0) [3] (.seq (.lst [(.con (.str "x")),(.con (.str "yy")),(.con (.str "z"))])) [(.cmp .NotIn (.var 0) (.var 1))] (.var 0))),.frz 4,.ret (.tup [(.sub (.var 1) (.con (.int 0))),(.bi .tuple [(.var 3)]),(.call 25 [(.var 0),(.var 4),(.var 2),(.con (.int 4)),(.con (.bl false))])])]
noncomputable def xP:EV.Row:=⟨"_law_errand",top 29,["_law_pot_here","_law_head","_law_heads"],["_law_pot_here","_law_head","_law_heads","_law_params","_law_names"],⟨3,5,yF⟩⟩
noncomputable abbrev yj:List C:=[.forr (.one 4) (.rng none (.bi .len [(.var 0)])) [.set (.one 5) (.sub (.var 0) (.var 4)),.set (.one 6) (.bin .Add (.var 1) (.tup [(.var 4)])),.sti (.var 3) (.var 6) (.var 2),.ite (.cmp .Eq (.sub (.var 5) (.con (.int 0))) (.con (.str "if"))) [.expr (.call 27 [(.sub (.var 5) (.con (.int 2))),(.bin .Add (.var 6) (.tup [(.con (.int 0))])),(.var 2),(.var 3)]),.expr (.call 27 [(.sub (.var 5) (.con (.int 3))),(.bin .Add (.var 6) (.tup [(.con (.int 1))])),(.var 2),(.var 3)])] [],.ite (.cmp .Eq (.sub (.var 5) (.con (.int 0))) (.con (.str "while"))) [.sti (.var 3) (.bin .Add (.var 6) (.tup [(.con (.int 0))])) (.var 2),.expr (.call 27 [(.sub (.var 5) (.con (.int 2))),(.bin .Add (.var 6) (.tup [(.con (.int 0))])),(.var 2),(.var 3)])] [],.ite (.cmp .Eq (.sub (.var 5) (.con (.int 0))) (.con (.str "try"))) [.expr (.call 27 [(.sub (.var 5) (.con (.int 1))),(.bin .Add (.var 6) (.tup [(.con (.int 0))])),(.bin .Add (.lst [(.tup [(.con (.str "try")),(.var 6)])]) (.var 2)),(.var 3)]),.expr (.call 27 [(.sub (.var 5) (.con (.int 3))),(.bin .Add (.var 6) (.tup [(.con (.int 1))])),(.var 2),(.var 3)])] [],.ite (.cmp .Eq (.sub (.var 5) (.con (.int 0))) (.con (.str "do"))) [.sti (.var 3) (.bin .Add (.var 6) (.tup [(.con (.int 1))])) (.bin .Add (.lst [(.tup [(.con (.str "undoing")),(.var 6)])]) (.var 2)),.expr (.call 27 [(.sub (.var 5) (.con (.int 1))),(.bin .Add (.var 6) (.tup [(.con (.int 0))])),(.bin .Add (.lst [(.tup [(.con (.str "do")),(.var 6)])]) (.var 2)),(.var 3)]),.expr (.call 27 [(.sub (.var 5) (.con (.int 2))),(.bin .Add (.var 6) (.tup [(.con (.int 1))])),(.bin .Add (.lst [(.tup [(.con (.str "undoing")),(.var 6)])]) (.var 2)),(.var 3)]),.sti (.var 3) (.bin .Add (.var 6) (.tup [(.con (.int 1)),(.bi .len [(.sub (.var 5) (.con (.int 2)))])])) (.var 2)] []],.sti (.var 3) (.bin .Add (.var 1) (.tup [(.bi .len [(.var 0)])])) (.var 2)]
noncomputable def yJ:EV.Row:=⟨"_law_round_of",top 30,["_law_block_here","_law_head","_law_round","_law_found"],["_law_block_here","_law_head","_law_round","_law_found","_law_k","_law_row_here","_law_place"],⟨4,7,yj⟩⟩
noncomputable abbrev jD:List C:=[.ret (.bin .Add (.var 1) (.tup [(.con (.int 1)),(.bi .len [(.sub (.call 9 [(.var 0),(.var 1)]) (.con (.int 2)))])]))]
noncomputable def jd:EV.Row:=⟨"_law_end",top 31,["_law_errand_here","_law_do"],["_law_errand_here","_law_do"],⟨2,2,jD⟩⟩
noncomputable abbrev wX:List C:=[.forr (.tup [3,4]) (.seq (.var 2)) [.set (.one 5) (.call 13 [(.var 0),(.var 1)]),.ite (.cmp .Is (.var 5) (.con .non)) [.ret (.con (.bl false))] [],.ite (.cmp .Eq (.var 3) (.con (.str "try"))) [.ret (.and (.cmp .Eq (.sub (.var 5) (.con (.int 0))) (.con (.str "catch"))) (.one (.cmp .Eq (.sub (.var 5) (.con (.int 2))) (.bin .Add (.var 4) (.tup [(.con (.int 1)),(.con (.int 0))])))))] [],.ite (.or (.cmp .NotEq (.sub (.var 5) (.con (.int 0))) (.con (.str "undo"))) (.one (.cmp .NotEq (.call 16 [(.var 0),(.sub (.var 5) (.con (.int 1)))]) (.var 4)))) [.ret (.con (.bl false))] [],.set (.one 1) (.call 28 [(.var 0),(.var 4)]),.ite (.cmp .NotEq (.sub (.var 5) (.con (.int 2))) (.sub (.lst [(.bin .Add (.var 4) (.tup [(.con (.int 1))])),(.var 1)]) (.bi .int [(.cmp .Eq (.var 3) (.con (.str "undoing")))]))) [.ret (.con (.bl false))] []],.ret (.cmp .Is (.call 13 [(.var 0),(.var 1)]) (.con .non))]
noncomputable def wM:EV.Row:=⟨"_law_falls",top 32,["_law_errand_here","_law_place","_law_round"],["_law_errand_here","_law_place","_law_round","_law_word","_law_owner","_law_found"],⟨3,6,wX⟩⟩
noncomputable abbrev uM:List C:=[.ite (.cmp .Gt (.bi .len [(.comp (.tup [0,1]) [] (.seq (.var 2)) [(.cmp .Eq (.var 0) (.con (.str "undoing")))] (.var 0))]) (.con (.int 0))) [.ret (.cmp .Eq (.call 14 [(.var 0),(.var 1)]) (.con (.str "shut")))] [],.forr (.one 3) (.seq (.comp (.tup [0,1]) [] (.seq (.var 2)) [(.cmp .Eq (.var 0) (.con (.str "do")))] (.var 1))) [.ite (.cmp .NotEq (.call 14 [(.var 0),(.var 1)]) (.bin .Add (.var 3) (.tup [(.con (.int 1))]))) [.ret (.con (.bl false))] [],.set (.one 1) (.call 28 [(.var 0),(.var 3)])],.ret (.cmp .Is (.call 14 [(.var 0),(.var 1)]) (.con .non))]
noncomputable def vX:EV.Row:=⟨"_law_offs",top 33,["_law_errand_here","_law_place","_law_round"],["_law_errand_here","_law_place","_law_round","_law_owner"],⟨3,4,uM⟩⟩
noncomputable abbrev b_law:List C:=[.set (.one 1) (.box (.call 19 [(.var 0)])),.set (.one 2) (.call 26 [(.var 1),(.tup [(.con (.str "main")),(.call 20 [(.var 1),(.con (.int 4))])]),(.lst [])]),.set (.one 3) (.box (.dic true [] [])),.expr (.call 27 [(.sub (.var 2) (.con (.int 2))),(.tup []),(.lst []),(.var 3)]),.ite (.cmp .NotEq (.call 1 [(.var 2)]) (.bi .tuple [(.bi .sorted [(.var 3)])])) [.ret (.con (.bl false))] [],.forr (.tup [4,5]) (.items (.var 3)) [.ite (.not (.call 29 [(.var 2),(.var 4),(.var 5)])) [.ret (.con (.bl false))] [],.ite (.not (.call 30 [(.var 2),(.var 4),(.var 5)])) [.ret (.con (.bl false))] []],.ret (.con (.bl true))]
noncomputable def r_law:EV.Row:=⟨"law",top 34,["_law_script"],["_law_script","_law_pot_here","_law_errand_here","_law_due","_law_place","_law_round"],⟨1,6,b_law⟩⟩
noncomputable def rs:List EV.Row:=[vV,Xx,yW,wK,u0,yX,u5,wL,u6,Xw,qL,Xz,XC,qM,Xy,vU,Ue,vR,xO,jc,vW,u9,xQ,jb,yK,wN,xP,yJ,jd,wM,vX,r_law]
noncomputable def B:Tb:=⟨["blocks_of","places","block_places","row_places","round_of","beginning_of","first_of","is_between","block_at","row_at","word_at","is_end","around","fall_at","off_at","do_places","do_at","number_at","_law_row_of","_law_pot","_law_take","_law_sum","_law_branch","_law_row","_law_deep_row","_law_block","_law_errand","_law_round_of","_law_end","_law_falls","_law_offs","law"],[["row"],["errand"],["block","ahead"],["row","place"],["place"],["place"],["place","number"],["place"],["errand","place"],["errand","place"],["errand","place"],["errand","place"],["errand","place"],["errand","place"],["errand","place"],["block","ahead"],["errand","d"],["errand","place"],["_law_cell"],["_law_script"],["_law_pot_here","_law_many"],["_law_pot_here","_law_names","_law_deep"],["_law_pot_here","_law_names","_law_heads"],["_law_pot_here","_law_names","_law_heads","_law_deep","_law_undoing"],["_law_pot_here","_law_names","_law_heads","_law_deep","_law_undoing","_law_way"],["_law_pot_here","_law_names","_law_heads","_law_deep","_law_undoing"],["_law_pot_here","_law_head","_law_heads"],["_law_block_here","_law_head","_law_round","_law_found"],["_law_errand_here","_law_do"],["_law_errand_here","_law_place","_law_round"],["_law_errand_here","_law_place","_law_round"],["_law_script"]],[],["abs","any","enumerate","int","len","range","sorted","sum","tuple"],[]⟩
noncomputable def zb1:PySem.Program:={ ϧ with main:={ ϧ.main with body:=(((ϧ.main.body).eraseIdx 20).eraseIdx 2).eraseIdx 0 } }
set_option maxRecDepth 100000 in
set_option maxHeartbeats 0 in
theorem zL0:PySem.W.LeftO PySem.Challenge.rw_errandroom_k35_whole_the_way_out.prog zb1 [] (fun s=>PySem.W.xlAt zb1 [] s&&PySem.W.recOk [] s) (fun s=>EV.seenT (EV.frOf s.heap 400) B rs) (fun _=>EV.wantT B rs) 4000:=fun w=>by kernel_rfl
theorem YK:RowOk B vV:=⟨by decide +kernel,by decide +kernel,rfl,rfl,fun _ _ _ _ _ _ us hl=>by obtain ⟨a0,e⟩:=ln1 hl;subst e;rfl⟩
theorem k_places:RowOk B Xx:=⟨by decide +kernel,by decide +kernel,rfl,rfl,fun _ _ _ _ _ _ us hl=>by obtain ⟨a0,e⟩:=ln1 hl;subst e;rfl⟩
theorem uQ:RowOk B yW:=⟨by decide +kernel,by decide +kernel,rfl,rfl,fun _ _ _ _ _ _ us hl=>by obtain ⟨a0,a1,e⟩:=ln2 hl;subst e;rfl⟩
theorem Zg:RowOk B wK:=⟨by decide +kernel,by decide +kernel,rfl,rfl,fun _ _ _ _ _ _ us hl=>by obtain ⟨a0,a1,e⟩:=ln2 hl;subst e;rfl⟩
theorem Va:RowOk B u0:=⟨by decide +kernel,by decide +kernel,rfl,rfl,fun _ _ _ _ _ _ us hl=>by obtain ⟨a0,e⟩:=ln1 hl;subst e;rfl⟩
theorem uR:RowOk B yX:=⟨by decide +kernel,by decide +kernel,rfl,rfl,fun _ _ _ _ _ _ us hl=>by obtain ⟨a0,e⟩:=ln1 hl;subst e;rfl⟩
theorem Vb:RowOk B u5:=⟨by decide +kernel,by decide +kernel,rfl,rfl,fun _ _ _ _ _ _ us hl=>by obtain ⟨a0,a1,e⟩:=ln2 hl;subst e;rfl⟩
theorem Zh:RowOk B wL:=⟨by decide +kernel,by decide +kernel,rfl,rfl,fun _ _ _ _ _ _ us hl=>by obtain ⟨a0,e⟩:=ln1 hl;subst e;rfl⟩
theorem Vc:RowOk B u6:=⟨by decide +kernel,by decide +kernel,rfl,rfl,fun _ _ _ _ _ _ us hl=>by obtain ⟨a0,a1,e⟩:=ln2 hl;subst e;rfl⟩
theorem Qt:RowOk B Xw:=⟨by decide +kernel,by decide +kernel,rfl,rfl,fun _ _ _ _ _ _ us hl=>by obtain ⟨a0,a1,e⟩:=ln2 hl;subst e;rfl⟩
theorem Jg:RowOk B qL:=⟨by decide +kernel,by decide +kernel,rfl,rfl,fun _ _ _ _ _ _ us hl=>by obtain ⟨a0,a1,e⟩:=ln2 hl;subst e;rfl⟩
theorem Qv:RowOk B Xz:=⟨by decide +kernel,by decide +kernel,rfl,rfl,fun _ _ _ _ _ _ us hl=>by obtain ⟨a0,a1,e⟩:=ln2 hl;subst e;rfl⟩
theorem Qw:RowOk B XC:=⟨by decide +kernel,by decide +kernel,rfl,rfl,fun _ _ _ _ _ _ us hl=>by obtain ⟨a0,a1,e⟩:=ln2 hl;subst e;rfl⟩
theorem Jh:RowOk B qM:=⟨by decide +kernel,by decide +kernel,rfl,rfl,fun _ _ _ _ _ _ us hl=>by obtain ⟨a0,a1,e⟩:=ln2 hl;subst e;rfl⟩
theorem Qu:RowOk B Xy:=⟨by decide +kernel,by decide +kernel,rfl,rfl,fun _ _ _ _ _ _ us hl=>by obtain ⟨a0,a1,e⟩:=ln2 hl;subst e;rfl⟩
theorem YJ:RowOk B vU:=⟨by decide +kernel,by decide +kernel,rfl,rfl,fun _ _ _ _ _ _ us hl=>by obtain ⟨a0,a1,e⟩:=ln2 hl;subst e;rfl⟩
theorem zb5:RowOk B Ue:=⟨by decide +kernel,by decide +kernel,rfl,rfl,fun _ _ _ _ _ _ us hl=>by obtain ⟨a0,a1,e⟩:=ln2 hl;subst e;rfl⟩
theorem YH:RowOk B vR:=⟨by decide +kernel,by decide +kernel,rfl,rfl,fun _ _ _ _ _ _ us hl=>by obtain ⟨a0,a1,e⟩:=ln2 hl;subst e;rfl⟩
theorem j7:RowOk B xO:=⟨by decide +kernel,by decide +kernel,rfl,rfl,fun _ _ _ _ _ _ us hl=>by obtain ⟨a0,e⟩:=ln1 hl;subst e;rfl⟩
theorem Vf:RowOk B jc:=⟨by decide +kernel,by decide +kernel,rfl,rfl,fun _ _ _ _ _ _ us hl=>by obtain ⟨a0,e⟩:=ln1 hl;subst e;rfl⟩
theorem YL:RowOk B vW:=⟨by decide +kernel,by decide +kernel,rfl,rfl,fun _ _ _ _ _ _ us hl=>by obtain ⟨a0,a1,e⟩:=ln2 hl;subst e;rfl⟩
theorem Vd:RowOk B u9:=⟨by decide +kernel,by decide +kernel,rfl,rfl,fun _ _ _ _ _ _ us hl=>by obtain ⟨a0,a1,a2,e⟩:=ln3 hl;subst e;rfl⟩
theorem j9:RowOk B xQ:=⟨by decide +kernel,by decide +kernel,rfl,rfl,fun _ _ _ _ _ _ us hl=>by obtain ⟨a0,a1,a2,e⟩:=ln3 hl;subst e;rfl⟩
theorem Ve:RowOk B jb:=⟨by decide +kernel,by decide +kernel,rfl,rfl,fun _ _ _ _ _ _ us hl=>by obtain ⟨a0,a1,a2,a3,a4,e⟩:=ln5 hl;subst e;rfl⟩
theorem uh:RowOk B yK:=⟨by decide +kernel,by decide +kernel,rfl,rfl,fun _ _ _ _ _ _ us hl=>by obtain ⟨a0,a1,a2,a3,a4,a5,e⟩:=ln6 hl;subst e;rfl⟩
theorem Zj:RowOk B wN:=⟨by decide +kernel,by decide +kernel,rfl,rfl,fun _ _ _ _ _ _ us hl=>by obtain ⟨a0,a1,a2,a3,a4,e⟩:=ln5 hl;subst e;rfl⟩
theorem j8:RowOk B xP:=⟨by decide +kernel,by decide +kernel,rfl,rfl,fun _ _ _ _ _ _ us hl=>by obtain ⟨a0,a1,a2,e⟩:=ln3 hl;subst e;rfl⟩
theorem ug:RowOk B yJ:=⟨by decide +kernel,by decide +kernel,rfl,rfl,fun _ _ _ _ _ _ us hl=>by obtain ⟨a0,a1,a2,a3,e⟩:=ln4 hl;subst e;rfl⟩
theorem Vg:RowOk B jd:=⟨by decide +kernel,by decide +kernel,rfl,rfl,fun _ _ _ _ _ _ us hl=>by obtain ⟨a0,a1,e⟩:=ln2 hl;subst e;rfl⟩
theorem Zi:RowOk B wM:=⟨by decide +kernel,by decide +kernel,rfl,rfl,fun _ _ _ _ _ _ us hl=>by obtain ⟨a0,a1,a2,e⟩:=ln3 hl;subst e;rfl⟩
theorem YM:RowOk B vX:=⟨by decide +kernel,by decide +kernel,rfl,rfl,fun _ _ _ _ _ _ us hl=>by obtain ⟨a0,a1,a2,e⟩:=ln3 hl;subst e;rfl⟩
theorem k_law:RowOk B r_law:=⟨by decide +kernel,by decide +kernel,rfl,rfl,fun _ _ _ _ _ _ us hl=>by obtain ⟨a0,e⟩:=ln1 hl;subst e;rfl⟩
theorem zbi:AllR (RowOk B) rs:=⟨YK,k_places,uQ,Zg,Va,uR,Vb,Zh,Vc,Qt,Jg,Qv,Qw,Jh,Qu,YJ,zb5,YH,j7,Vf,YL,Vd,j9,Ve,uh,Zj,j8,ug,Vg,Zi,YM,k_law,ϳ⟩
theorem zdY:AllR (KwOk rs) B.kws:=ϳ
theorem tabs:Tabs B rs:=⟨rfl,rfl,zbi,zdY⟩
noncomputable def wh:Nat:=400
noncomputable def F:=fnsOf rs
theorem yc {k:Nat}{x0:D}{S:Store}{V:Po}(h:wpCs (callW F wh k) wh uK [.sh x0] (told V) S):callW F wh (k+1) 0 [x0] V S:=zz rfl rfl rfl h
theorem Kl {k:Nat}{x0:D}{S:Store}{V:Po}(h:wpCs (callW F wh k) wh Wv [.sh x0] (told V) S):callW F wh (k+1) 1 [x0] V S:=zz rfl rfl rfl h
theorem uO {k:Nat}{x0 x1:D}{S:Store}{V:Po}(h:wpCs (callW F wh k) wh xg [.sh x0,.sh x1,.no,.no,.no] (told V) S):callW F wh (k+1) 2 [x0,x1] V S:=zz rfl rfl rfl h
theorem zW {k:Nat}{x0 x1:D}{S:Store}{V:Po}(h:wpCs (callW F wh k) wh yp [.sh x0,.sh x1,.no,.no,.no] (told V) S):callW F wh (k+1) 3 [x0,x1] V S:=zz rfl rfl rfl h
theorem WF {k:Nat}{x0:D}{S:Store}{V:Po}(h:wpCs (callW F wh k) wh jy [.sh x0] (told V) S):callW F wh (k+1) 4 [x0] V S:=zz rfl rfl rfl h
theorem uP {k:Nat}{x0:D}{S:Store}{V:Po}(h:wpCs (callW F wh k) wh xj [.sh x0] (told V) S):callW F wh (k+1) 5 [x0] V S:=zz rfl rfl rfl h
theorem WK {k:Nat}{x0 x1:D}{S:Store}{V:Po}(h:wpCs (callW F wh k) wh jz [.sh x0,.sh x1] (told V) S):callW F wh (k+1) 6 [x0,x1] V S:=zz rfl rfl rfl h
theorem qp {k:Nat}{x0:D}{S:Store}{V:Po}(h:wpCs (callW F wh k) wh wW [.sh x0] (told V) S):callW F wh (k+1) 7 [x0] V S:=zz rfl rfl rfl h
theorem uU {k:Nat}{x0 x1:D}{S:Store}{V:Po}(h:wpCs (callW F wh k) wh jA [.sh x0,.sh x1,.no,.no] (told V) S):callW F wh (k+1) 8 [x0,x1] V S:=zz rfl rfl rfl h
theorem Kh {k:Nat}{x0 x1:D}{S:Store}{V:Po}(h:wpCs (callW F wh k) wh Wu [.sh x0,.sh x1,.no] (told V) S):callW F wh (k+1) 9 [x0,x1] V S:=zz rfl rfl rfl h
theorem Vs {k:Nat}{x0 x1:D}{S:Store}{V:Po}(h:wpCs (callW F wh k) wh Z4 [.sh x0,.sh x1,.no] (told V) S):callW F wh (k+1) 10 [x0,x1] V S:=zz rfl rfl rfl h
theorem Kq {k:Nat}{x0 x1:D}{S:Store}{V:Po}(h:wpCs (callW F wh k) wh Wx [.sh x0,.sh x1,.no] (told V) S):callW F wh (k+1) 11 [x0,x1] V S:=zz rfl rfl rfl h
theorem xF {k:Nat}{x0 x1:D}{S:Store}{V:Po}(h:wpCs (callW F wh k) wh qj [.sh x0,.sh x1,.no] (told V) S):callW F wh (k+1) 12 [x0,x1] V S:=zz rfl rfl rfl h
theorem Vt {k:Nat}{x0 x1:D}{S:Store}{V:Po}(h:wpCs (callW F wh k) wh Z5 [.sh x0,.sh x1,.no,.no,.no] (told V) S):callW F wh (k+1) 13 [x0,x1] V S:=zz rfl rfl rfl h
theorem Kp {k:Nat}{x0 x1:D}{S:Store}{V:Po}(h:wpCs (callW F wh k) wh Ww [.sh x0,.sh x1,.no] (told V) S):callW F wh (k+1) 14 [x0,x1] V S:=zz rfl rfl rfl h
theorem Yd {k:Nat}{x0 x1:D}{S:Store}{V:Po}(h:wpCs (callW F wh k) wh xx [.sh x0,.sh x1,.no,.no,.no,.no,.no] (told V) S):callW F wh (k+1) 15 [x0,x1] V S:=zz rfl rfl rfl h
theorem zaS {k:Nat}{x0 x1:D}{S:Store}{V:Po}(h:wpCs (callW F wh k) wh J5 [.sh x0,.sh x1] (told V) S):callW F wh (k+1) 16 [x0,x1] V S:=zz rfl rfl rfl h
theorem Yc {k:Nat}{x0 x1:D}{S:Store}{V:Po}(h:wpCs (callW F wh k) wh uJ [.sh x0,.sh x1] (told V) S):callW F wh (k+1) 17 [x0,x1] V S:=zz rfl rfl rfl h
theorem jJ {k:Nat}{x0:D}{S:Store}{V:Po}(h:wpCs (callW F wh k) wh wj [.sh x0,.no,.no,.no,.no] (told V) S):callW F wh (k+1) 18 [x0] V S:=zz rfl rfl rfl h
theorem WM {k:Nat}{x0:D}{S:Store}{V:Po}(h:wpCs (callW F wh k) wh jC [.sh x0,.no,.no] (told V) S):callW F wh (k+1) 19 [x0] V S:=zz rfl rfl rfl h
theorem Ye {k:Nat}{x0 x1:D}{S:Store}{V:Po}(h:wpCs (callW F wh k) wh uL [.sh x0,.sh x1,.no,.no] (told V) S):callW F wh (k+1) 20 [x0,x1] V S:=zz rfl rfl rfl h
theorem uV {k:Nat}{x0 x1 x2:D}{S:Store}{V:Po}(h:wpCs (callW F wh k) wh wG [.sh x0,.sh x1,.sh x2,.no,.no,.no] (told V) S):callW F wh (k+1) 21 [x0,x1,x2] V S:=zz rfl rfl rfl h
theorem jL {k:Nat}{x0 x1 x2:D}{S:Store}{V:Po}(h:wpCs (callW F wh k) wh wu [.sh x0,.sh x1,.sh x2,.no,.no,.no,.no] (told V) S):callW F wh (k+1) 22 [x0,x1,x2] V S:=zz rfl rfl rfl h
theorem WL {k:Nat}{x0 x1 x2 x3 x4:D}{S:Store}{V:Po}(h:wpCs (callW F wh k) wh jB [.sh x0,.sh x1,.sh x2,.sh x3,.sh x4,.no,.no,.no] (told V) S):callW F wh (k+1) 23 [x0,x1,x2,x3,x4] V S:=zz rfl rfl rfl h
theorem vM {k:Nat}{x0 x1 x2 x3 x4 x5:D}{S:Store}{V:Po}(h:wpCs (callW F wh k) wh yl [.sh x0,.sh x1,.sh x2,.sh x3,.sh x4,.sh x5,.no,.no,.no,.no] (told V) S):callW F wh (k+1) 24 [x0,x1,x2,x3,x4,x5] V S:=zz rfl rfl rfl h
theorem qu {k:Nat}{x0 x1 x2 x3 x4:D}{S:Store}{V:Po}(h:wpCs (callW F wh k) wh wY [.sh x0,.sh x1,.sh x2,.sh x3,.sh x4,.no,.no] (told V) S):callW F wh (k+1) 25 [x0,x1,x2,x3,x4] V S:=zz rfl rfl rfl h
theorem jK {k:Nat}{x0 x1 x2:D}{S:Store}{V:Po}(h:wpCs (callW F wh k) wh yF [.sh x0,.sh x1,.sh x2,.no,.no] (told V) S):callW F wh (k+1) 26 [x0,x1,x2] V S:=zz rfl rfl rfl h
theorem vL {k:Nat}{x0 x1 x2 x3:D}{S:Store}{V:Po}(h:wpCs (callW F wh k) wh yj [.sh x0,.sh x1,.sh x2,.sh x3,.no,.no,.no] (told V) S):callW F wh (k+1) 27 [x0,x1,x2,x3] V S:=zz rfl rfl rfl h
theorem WN {k:Nat}{x0 x1:D}{S:Store}{V:Po}(h:wpCs (callW F wh k) wh jD [.sh x0,.sh x1] (told V) S):callW F wh (k+1) 28 [x0,x1] V S:=zz rfl rfl rfl h
theorem qt {k:Nat}{x0 x1 x2:D}{S:Store}{V:Po}(h:wpCs (callW F wh k) wh wX [.sh x0,.sh x1,.sh x2,.no,.no,.no] (told V) S):callW F wh (k+1) 29 [x0,x1,x2] V S:=zz rfl rfl rfl h
theorem Yg {k:Nat}{x0 x1 x2:D}{S:Store}{V:Po}(h:wpCs (callW F wh k) wh uM [.sh x0,.sh x1,.sh x2,.no] (told V) S):callW F wh (k+1) 30 [x0,x1,x2] V S:=zz rfl rfl rfl h
theorem w_law {k:Nat}{x0:D}{S:Store}{V:Po}(h:wpCs (callW F wh k) wh b_law [.sh x0,.no,.no,.no,.no,.no] (told V) S):callW F wh (k+1) 31 [x0] V S:=zz rfl rfl rfl h
end Q35
local macro_rules | `(tactic| omega) => `(tactic| first | decide | with_reducible exact EV.om1 ‹_› (by with_unfolding_all rfl) | with_reducible exact EV.om2 ‹_› (by with_unfolding_all rfl) | with_reducible exact EV.om3 ‹_› (by with_unfolding_all rfl) | lia | omega (config := {}))
open EV in
local macro_rules | `(tactic| infer_instance) => `(tactic| first
 | ((with_reducible apply rdv_s); (exact rfl))
 | ((with_reducible apply rdv_o); (exact rfl))
 | ((with_reducible apply sel_s); (exact rfl))
 | ((with_reducible apply sel_o); (exact rfl))
 | ((with_reducible apply kp_s); (exact rfl))
 | ((with_reducible apply kp_f); (exact rfl))
 | ((with_reducible apply opv_s); (first | exact rfl | exact Ke (by simp <;> omega) | exact zbV rfl | exact UV rfl | exact UV (V1 (by decide) (by decide))))
 | ((with_reducible apply opv_f); (exact rfl))
 | ((with_reducible apply zr); (first | exact zbp (by decide) (by decide) | exact rfl | exact qz (by decide) rfl | exact Zc (by decide) rfl))
 | ((with_reducible apply zO); (exact rfl); (try simp only [List.foldl, List.zip, List.zipWith, cG, aL, if_true, if_false]))
 | ((with_reducible apply bl_mk); (exact rfl))
 | ((with_reducible apply zed); (exact rfl))
 | ((with_reducible apply zee); (exact rfl))
 | ((with_reducible apply tst_T); (first | with_reducible rfl | decide | (focus (simp only [isNone, deref, eqP, eqPs, beq_self_eq_true, Bool.not_true, Bool.not_false, iJ, Bool.true_and]; done)) | (dsimp only [deref]; decide) | (refine fits_of ?_; (try simp only [Α, Ζ, Ϟ, dY]) <;> omega)))
 | ((with_reducible apply tst_F); (first | with_reducible rfl | decide | (focus (simp only [isNone, deref, eqP, eqPs, beq_self_eq_true, Bool.not_true, Bool.not_false, iJ, Bool.true_and]; done)) | (dsimp only [deref]; decide)))
 | ((with_reducible apply bx_f); (exact rfl))
 | ((with_reducible apply rv_s); (exact rfl))
 | ((with_reducible apply rv_f); (exact rfl))
 | ((with_reducible apply zdz); (exact rfl))
 | ((with_reducible apply zdA); (exact rfl))
 | ((with_reducible apply zez); (exact rfl))
 | ((with_reducible apply zec); (exact rfl))
 | ((with_reducible apply zcl); (dsimp only [wpC, e_var, e_con, e_glo, e_bin, e_neg, e_cmp, e_chn, e_not, e_and, e_or, e_ite, e_tup, e_lst, e_dic, e_sub, e_slc, e_bi, e_bi2, e_mth, Wo, zcf, zce, e_box, e_one, zes, wpEs, wpO, wpF, wpI, cG, fz, List.getElem?_cons_zero, List.getElem?_cons_succ, Option.getD]))
 | (with_reducible apply zeu)
 | (with_reducible apply zaW)
 | (with_reducible apply zcJ)
 | (with_reducible apply zcL)
 | (with_reducible apply zcK)
 | (with_reducible apply to_s)
 | (with_reducible apply to_f)
 | (with_reducible apply zaV)
 | (with_reducible apply zaU)
 | (with_reducible apply zcH)
 | (with_reducible apply zcI)
 | (with_reducible apply zcG))
local macro_rules | `(tactic| nofun) => `(tactic| (repeat infer_instance))
namespace Q35
open PySem L2 EV
theorem X5 {ns:List Int}{v:Int}:ns.map D.int++[.int v]=(ns++[v]).map D.int:=by rw [ϩ];rfl
noncomputable def pK (ns:List Int) (a r m:Int):D:=.dK [.inr "draws",.inr "at",.inr "rows",.inr "more"] [.lst (ns.map D.int),.int a,.int r,.int m]
structure PotOk (a m:Int):Prop where
 a0:0<=a
 m0:0<=m
 m1:m < 2147483629
theorem zL {many:Int}(hm:0 < many) {K:Nat}(hK:1<=K) {ns:List Int}{a r m:Int}{T:Store}(p:PotOk a m):callW F wh K 20 [.ref 0,.int many] (fun q S=>∃ x a' m',q=(.int x,.st)/\0<=x/\x < many/\PotOk a' m'/\S=pK ns a' r m'::T) (pK ns a r m::T):=by
 obtain ⟨k,rfl⟩:∃ k,K=k+1:=⟨K - 1,by omega⟩
 have ha:=p.a0
 refine Ye ?_
 nofun
 refine zX (fun h=>?_) (fun h=>?_)
 ·obtain ⟨x,_,hx⟩:=ints_get p.a0 (by simpa using h)
  nofun
  refine zr hx ?_
  nofun
  refine opv_s (zao hm) ?_
  nofun
  exact ⟨_,a+1,m,rfl,eF _ (by omega),cW _ hm,⟨by omega,p.m0,p.m1⟩,rfl⟩
 ·nofun
  refine opv_s (UV (Xn p.m0 (by have:=p.m1;omega))) ?_
  nofun
  refine opv_s (zao hm) ?_
  nofun
  exact ⟨_,a+1,(m*m+40692) % 2147483629,rfl,eF _ (by omega),cW _ hm,⟨by omega,eF _ (by omega),cW _ (by omega)⟩,rfl⟩
theorem Yl {lo hi:Int}{d:D}(h:d∈z8 lo hi):∃ j,d=.int j/\lo<=j/\j < hi:=by
 unfold z8 at h
 obtain ⟨k,hk,rfl⟩:=aM.mp h
 have:=cu.mp hk
 exact ⟨_,rfl,by lia,by lia⟩
theorem V9 (c:Int) {K:Nat}(hK:1<=K) (S:Store):callW F wh K 18 [.int c] (fun q S'=>S'=S/\∃ ns:List Int,ns.length<=60/\q=(.lst (ns.map D.int),.fr)) S:=by
 obtain ⟨k,rfl⟩:∃ k,K=k+1:=⟨K - 1,by omega⟩
 refine jJ ?_
 nofun
 refine zX (fun h=>?_) (fun h=>?_)
 ·nofun
  refine jH (fun n ρ S'=>S'=S/\∃ (ns:List Int) (left:Int),ρ=[.sh (.int c),.ow (.lst (ns.map D.int)),.sh (.int left),.no,.no]/\ns.length+n=60) ?_ _ 60 _ _ (by decide) ⟨rfl,[],_,rfl,rfl⟩
  rintro n ρ S' ⟨rfl,ns,left,rfl,hl⟩
  simp only [wpE]
  nofun
  refine zX (fun h1=>?_) (fun h1=>?_)
  ·nofun
   refine zX (fun h2=>?_) (fun h2=>?_)
   ·have h2:(ns.length:Int) < 60:=by
     have:=of_decide_eq_true h2
     simpa using this
    refine ⟨n - 1,by omega,?_⟩
    nofun
    exact ⟨rfl,_,_,by rw [X5],by simp;omega⟩
   ·nofun
    exact ⟨rfl,ns,by omega,rfl⟩
  ·nofun
   exact ⟨rfl,ns,by omega,rfl⟩
 ·nofun
  refine wp_walk (fun l ρ S'=>S'=S/\∃ (ns:List Int) (x2 x3 x4:Slot),ρ=[.sh (.int c),.ow (.lst (ns.map D.int)),x2,x3,x4]/\ns.length+l.length<=9/\∀ d∈l,∃ j,d=.int j/\0<=j/\j < 9) ?_ ?_ _ _ _ ⟨rfl,[],_,.no,.no,rfl,by decide,fun d hd=>Yl hd⟩
  ·rintro d l ρ S' ⟨rfl,ns,x2,x3,x4,rfl,hl,hd⟩
   have hl':ns.length+(l.length+1)<=9:=hl
   obtain ⟨j,rfl,j0,j1⟩:=hd d (ς ..)
   nofun
   exact ⟨rfl,_,_,_,_,by rw [X5],by simp;omega,fun d hx=>hd d (ι _ hx)⟩
  ·rintro ρ S' ⟨rfl,ns,x2,x3,x4,rfl,hl,_⟩
   have hl:ns.length<=9:=by simpa using hl
   nofun
   exact ⟨rfl,ns,by omega,rfl⟩
theorem zdo (cs:List Int) (hc:cs.length<=63) {K:Nat}(hK:2<=K) (S:Store):callW F wh K 19 [.scr cs] (fun q S'=>S'=S/\∃ ns m,q=(pK ns 0 24 m,.fr)/\PotOk 0 m) S:=by
 obtain ⟨k,rfl⟩:∃ k,K=k+1:=⟨K - 1,by omega⟩
 refine WM ?_
 nofun
 obtain ⟨zs,ez,hz⟩:=zcj cs none (some 63)
 rw [ez]
 refine wp_walk (fun l ρ S'=>S'=S/\∃ (ns:List Int) (x2:Slot) (ys:List Int),l=ys.map D.int/\ρ=[.sh (.scr cs),.ow (.lst (ns.map D.int)),x2]/\ns.length+60*ys.length<=3780) ?_ ?_ _ _ _ ⟨rfl,[],.no,zs,rfl,rfl,by simp;omega⟩
 ·rintro d l ρ S' ⟨rfl,ns,x2,ys,el,rfl,hl⟩
  cases ys with
  | nil=>cases el
  | cons j ys=>
   cases el
   have hl':ns.length+60*(ys.length+1)<=3780:=hl
   nofun
   refine wp_mono (V9 j (K:=k) (by omega) _) ?_
   rintro _ _ ⟨rfl,ms,hm,rfl⟩
   nofun
   exact ⟨rfl,ns++ms,_,ys,rfl,by rw [<- ϩ],by simp;omega⟩
 ·rintro ρ S' ⟨rfl,ns,x2,ys,el,rfl,hl⟩
  nofun
  refine opv_s (d:=.int ns.sum) (by show ((intsD (ns.map D.int)).map _).map _=_;rw [uq];rfl) ?_
  nofun
  exact ⟨rfl,ns,_,rfl,by decide,eF _ (by decide),cW _ (by decide)⟩
def Dr (ns:List Int) (r:Int) (T:Store) (P:D->Prop) (q:Vl) (S:Store):Prop:=∃ d a m,q=(d,.st)/\P d/\PotOk a m/\S=pK ns a r m::T
theorem U5 {l:List D}{i:Int}(h0:0<=i) (h1:i < (l.length:Int)):∃ d,d∈l/\subD (.lst l) (.int i)=some d:=by
 have hl:i.toNat < l.length:=by omega
 exact ⟨l[i.toNat],aY hl,Zc h0 (by rw [ξ hl])⟩
structure NmOk (nm:List Str):Prop where
 ne:nm≠[]
 few:nm.length<=10
noncomputable abbrev LS (ws:List Str):D:=.lst (ws.map D.str)
def Fl (n:Nat) (d:D):Prop:=okP n d=true
theorem nm_at {nm:List Str}{v:Int}(h0:0<=v) (h:v < ((nm.map D.str).length:Int)):∃ s,s∈nm/\subD (LS nm) (.int v)=some (.str s):=by
 rw [Ζ] at h
 have hl:v.toNat < nm.length:=by omega
 refine ⟨nm[v.toNat],aY hl,Zc h0 ?_⟩
 rw [Μ,ξ hl];rfl
theorem sg_at {v:Int}(h0:0<=v) (h:v < 5):∃ s,subD (.str "+-*<=") (.int v)=some (.str s):=by
 have hc:v=0\/v=1\/v=2\/v=3\/v=4:=by omega
 rcases hc with rfl | rfl | rfl | rfl | rfl <;> exact ⟨_,rfl⟩
mutual
theorem zan:∀ (d:D) {n m:Nat},n<=m->okP n d=true->okP m d=true
 | .non,n,m,_,_=>by cases m <;> rfl
 | .bl _,n,m,_,_=>by cases m <;> rfl
 | .int _,n,m,_,_=>by cases m <;> rfl
 | .str _,n,m,_,_=>by cases m <;> rfl
 | .tup l,n,m,h,k=>by
  cases n with
  | zero=>exact nobE k
  | succ n=>
   cases m with
   | zero=>omega
   | succ m=>exact Yq l (by omega) k
 | .lst l,n,m,h,k=>by
  cases n with
  | zero=>exact nobE k
  | succ n=>
   cases m with
   | zero=>omega
   | succ m=>exact Yq l (by omega) k
 | .dK _ _,n,m,h,k=>by cases n <;> exact nobE k
 | .dT _ _,n,m,h,k=>by cases n <;> exact nobE k
 | .ref _,n,m,h,k=>by cases n <;> exact nobE k
 | .fn _,n,m,h,k=>by cases n <;> exact nobE k
 | .scr _,n,m,h,k=>by cases n <;> exact nobE k
 | .ktp _,n,m,h,k=>by cases n <;> exact nobE k
theorem Yq:∀ (l:List D) {n m:Nat},n<=m->okPs n l=true->okPs m l=true
 | [],_,_,_,_=>rfl
 | d::l,n,m,h,k=>by
  have k:(okP n d&&okPs n l)=true:=k
  rw [ε] at k
  show (okP m d&&okPs m l)=true
  rw [zan d h k.1,Yq l h k.2];rfl
end
theorem Fl.up {n m:Nat}{d:D}(h:Fl n d) (k:n<=m):Fl m d:=zan d k h
theorem xf (n:Nat) (s:Str):Fl n (.str s):=by cases n <;> rfl
theorem Jy (n:Nat) (i:Int):Fl n (.int i):=by cases n <;> rfl
theorem zaD (n:Nat):Fl n .non:=by cases n <;> rfl
theorem ZC {n:Nat}:∀ {l:List D},(∀ d∈l,Fl n d)->Fl (n+1) (.tup l)
 | [],_=>rfl
 | d::l,h=>by
  show (okP n d&&okPs n l)=true
  rw [show okP n d=true from h d ς,show okPs n l=true from ZC fun x hx=>h x (ι _ hx)];rfl
theorem fl2 {n:Nat}{a b:D}(h:Fl n a) (k:Fl n b):Fl (n+1) (.tup [a,b]):=ZC fun d hd=>by
 rcases Ξ.mp hd with rfl | hd
 ·exact h
 ·rw [Θ.mp hd];exact k
theorem fl3 {n:Nat}{a b c:D}(h:Fl n a) (k:Fl n b) (l:Fl n c):Fl (n+1) (.tup [a,b,c]):=ZC fun d hd=>by
 rcases Ξ.mp hd with rfl | hd
 ·exact h
 ·rcases Ξ.mp hd with rfl | hd
  ·exact k
  ·rw [Θ.mp hd];exact l
theorem fl4 {n:Nat}{a b c e:D}(h:Fl n a) (k:Fl n b) (l:Fl n c) (m:Fl n e):Fl (n+1) (.tup [a,b,c,e]):=ZC fun d hd=>by
 rcases Ξ.mp hd with rfl | hd
 ·exact h
 ·rcases Ξ.mp hd with rfl | hd
  ·exact k
  ·rcases Ξ.mp hd with rfl | hd
   ·exact l
   ·rw [Θ.mp hd];exact m
theorem bind1 {ρ:List Slot}{i:Nat}{d:D}(hi:i < ρ.length) (h:isIns d=false):bindV ρ (.one i) (d,.st)=some (ρ.set i (.sh d)):=by
 show (if (decide (i < ρ.length)&&!isIns d)=true then some (ρ.set i (if false=true then .ow d else .sh d)) else none)=_
 rw [h,decide_eq_true hi];rfl
theorem zeC {ρ:List Slot}{i:Nat}{d:D}(hi:i < ρ.length) (h:isIns d=false):bindT ρ (.one i) (d,false)=some (ρ.set i (.sh d)):=by
 show (if (decide (i < ρ.length)&&!isIns d)=true then some (ρ.set i (if false=true then .ow d else .sh d)) else none)=_
 rw [h,decide_eq_true hi];rfl
theorem Zt:∀ (d:D),isIns d=false:=fun _=>rfl
section
variable {nm:List Str}(hn:NmOk nm)
theorem VJ {ns:List Int}{a r m:Int}{T:Store}{K k:Nat}(hK:1<=K) (p:PotOk a m) {v:Int}(hv:0<=v) {x2:D}{n:Nat}(hn:NmOk nm):
  wpCs (callW F wh K) wh (wG.drop 2) [.sh (.ref 0),.sh (LS nm),.sh x2,.sh (.int v),.no,.no] (told (Dr ns r T (Fl n))) (pK ns a r m::T):=by
 have hl:0 < nm.length:=by
  have:=hn.ne
  cases nm with
  | nil=>exact absurd rfl this
  | cons _ _=>simp
 show wpCs _ _ [_,_,_] _ _ _
 nofun
 refine zX (fun h=>?_) (fun h=>?_)
 ·nofun
  refine wp_mono (zL (by simp;omega) hK p) ?_
  rintro _ _ ⟨x,a,m,rfl,x0,x1,p,rfl⟩
  nofun
  obtain ⟨s,_,e⟩:=nm_at x0 x1
  refine zr e ?_
  nofun
  exact ⟨_,a,m,rfl,xf _ _,p,rfl⟩
 ·nofun
  refine zX (fun h=>?_) (fun h=>?_)
  ·nofun
   refine wp_mono (zL (by decide) hK p) ?_
   rintro _ _ ⟨x,a,m,rfl,x0,x1,p,rfl⟩
   nofun
   exact ⟨_,a,m,rfl,Jy _ _,p,rfl⟩
  ·nofun
   refine wp_mono (zL (by decide) hK p) ?_
   rintro _ _ ⟨x,a,m,rfl,x0,x1,p,rfl⟩
   nofun
   exact ⟨_,a,m,rfl,Jy _ _,p,rfl⟩
end
theorem Xk {nm:List Str}(hn:NmOk nm):∀ (k:Nat) {ns:List Int}{a r m:Int}{T:Store}{K:Nat},PotOk a m->k+2<=K->callW F wh K 21 [.ref 0,LS nm,.int k] (Dr ns r T (Fl (k+1))) (pK ns a r m::T):=by
 intro k
 induction k with
 | zero=>
  intro ns a r m T K p hK
  obtain ⟨K,rfl⟩:∃ k,K=k+1:=⟨K - 1,by omega⟩
  refine uV ?_
  nofun
  refine wp_mono (zL (by decide) (by omega) p) ?_
  rintro _ _ ⟨x,a,m,rfl,x0,x1,p,rfl⟩
  have fin:=fun n=>VJ (ns:=ns) (r:=r) (T:=T) (K:=K) (k:=0) (by omega) p x0 (x2:=.int 0) (n:=n) hn
  nofun
  refine zX (fun h=>?_) (fun h=>?_)
  ·repeat first | exact fin _ | infer_instance
  ·repeat first | exact fin _ | infer_instance
 | succ k ih=>
  intro ns a r m T K p hK
  obtain ⟨K,rfl⟩:∃ k,K=k+1:=⟨K - 1,by omega⟩
  refine uV ?_
  nofun
  refine wp_mono (zL (by decide) (by omega) p) ?_
  rintro _ _ ⟨x,a,m,rfl,x0,x1,p,rfl⟩
  have fin:=fun n=>VJ (ns:=ns) (r:=r) (T:=T) (K:=K) (k:=0) (by omega) p x0 (x2:=.int ((k+1:Nat):Int)) (n:=n) hn
  nofun
  refine zX (fun h=>?_) (fun h=>?_)
  ·nofun
   refine tst_T (decide_eq_true (by omega)) ?_
   nofun
   refine wp_mono (zL (by decide) (by omega) p) ?_
   rintro _ _ ⟨y,a,m,rfl,y0,y1,p,rfl⟩
   obtain ⟨s,e⟩:=sg_at y0 y1
   refine zr e ?_
   nofun
   have ek:((k+1:Nat):Int) - 1=(k:Int):=by omega
   rw [ek]
   refine wp_mono (ih p (by omega)) ?_
   rintro _ _ ⟨d1,a,m,rfl,f1,p,rfl⟩
   refine zO (bind1 (by simp) (Zt d1)) ?_
   simp only [cG]
   nofun
   rw [ek]
   refine wp_mono (ih p (by omega)) ?_
   rintro _ _ ⟨d2,a,m,rfl,f2,p,rfl⟩
   nofun
   exact ⟨_,a,m,rfl,fl3 (xf _ _) f1 f2,p,rfl⟩
  ·repeat first | exact fin _ | infer_instance
inductive Tr where
 | lf (w:Str) (x:D) (r:List D) | iff (e:D) (b c:List Tr) | whl (e:D) (b:List Tr) | tri (b:List Tr) (x:D) (c:List Tr) | doo (b c:List Tr)
mutual
noncomputable def Tr.toD:Tr->D
 | .lf w x r=>.tup (.str w::x::r)
 | .iff e b c=>.tup [.str "if",e,.tup (rowsD b),.tup (rowsD c)]
 | .whl e b=>.tup [.str "while",e,.tup (rowsD b)]
 | .tri b x c=>.tup [.str "try",.tup (rowsD b),x,.tup (rowsD c)]
 | .doo b c=>.tup [.str "do",.tup (rowsD b),.tup (rowsD c)]
noncomputable def rowsD:List Tr->List D
 | []=>[]
 | r::l=>r.toD::rowsD l
end
mutual
noncomputable def Tr.size:Tr->Nat
 | .lf _ _ _=>1
 | .iff _ b c=>1+(sizes b+sizes c)
 | .whl _ b=>1+sizes b
 | .tri b _ c=>1+(sizes b+sizes c)
 | .doo b c=>1+(sizes b+sizes c)
noncomputable def sizes:List Tr->Nat
 | []=>0
 | r::l=>r.size+sizes l
end
structure Lw (w:Str):Prop where
 fi:eqP (.str w) (.str "if")=false
 fw:eqP (.str w) (.str "while")=false
 ft:eqP (.str w) (.str "try")=false
 fd:eqP (.str w) (.str "do")=false
mutual
def Tr.Ok:Tr->Nat->Prop
 | .lf w x r,_=>Lw w/\Fl 10 (.tup (.str w::x::r))/\r.length<=1
 | .iff e b c,n=>Fl 10 e/\oks b n/\oks c n
 | .whl e b,n=>Fl 10 e/\oks b n
 | .tri b x c,n=>oks b n/\Fl 10 x/\oks c n
 | .doo b c,n=>oks b n/\oks c n
def oks:List Tr->Nat->Prop
 | [],_=>True
 | _::_,0=>False
 | r::l,n+1=>r.Ok n/\oks l (n+1)
end
theorem zU:∀ (l:List Tr),(rowsD l).length=l.length
 | []=>rfl
 | r::l=>by show (rowsD l).length+1=_;rw [zU l];rfl
theorem Xr:∀ (a b:List Tr),rowsD (a++b)=rowsD a++rowsD b
 | [],b=>rfl
 | r::a,b=>by show r.toD::rowsD (a++b)=_;rw [Xr a b];rfl
theorem V8 (l:List Tr) (r:Tr):rowsD l++[r.toD]=rowsD (l++[r]):=by rw [Xr];rfl
theorem yH:∀ (a b:List Tr),sizes (a++b)=sizes a+sizes b
 | [],b=>by show sizes b=0+sizes b;omega
 | r::a,b=>by show r.size+sizes (a++b)=r.size+sizes a+sizes b;rw [yH a b];omega
theorem XN {n:Nat}:∀ (l:List Tr) (r:Tr),oks l (n+1)->r.Ok n->oks (l++[r]) (n+1)
 | [],r,_,h=>⟨h,trivial⟩
 | x::l,r,h,k=>⟨h.1,XN l r h.2 k⟩
def Bk (ns:List Int) (T:Store) (k:Nat) (n:Int) (q:Vl) (S:Store):Prop:=
 ∃ (l:List Tr) (a m n':Int),q=(.tup (rowsD l),.st)/\oks l k/\l.length<=8/\0<=n'/\(sizes l:Int)+n'=n/\PotOk a m/\S=pK ns a n' m::T
def Rk (ns:List Int) (T:Store) (k:Nat) (n:Int) (q:Vl) (S:Store):Prop:=
 ∃ (r:Tr) (a m n':Int),q=(r.toD,.st)/\r.Ok k/\0<=n'/\(r.size:Int)+n'=n/\PotOk a m/\S=pK ns a n' m::T
section
variable {nm:List Str}{ns:List Int}{T:Store}
theorem J2 (hn:NmOk nm) {a r m:Int}{K:Nat}(p:PotOk a m) (hK:6<=K):callW F wh K 22 [.ref 0,LS nm,.lst []] (Dr ns r T (Fl 6)) (pK ns a r m::T):=by
 obtain ⟨K,rfl⟩:∃ k,K=k+1:=⟨K - 1,by omega⟩
 have hf:=hn.few
 refine jL ?_
 nofun
 refine opv_f (wH (by simp;omega)) ?_
 nofun
 refine wp_mono (zL (by simp <;> omega) (by omega) p) ?_
 rintro _ _ ⟨x,a,m,rfl,x0,x1,p,rfl⟩
 obtain ⟨o,ho,e⟩:=U5 (l:=nm.map D.str++[.non]) x0 (by simpa using x1)
 have fo:Fl 5 o:=by
  rcases Τ.mp ho with h | h
  ·obtain ⟨s,_,rfl⟩:=aM.mp h
   exact xf _ _
  ·rw [Θ.mp h];exact zaD _
 refine zr e ?_
 refine zO (bind1 (by simp) (Zt o)) ?_
 simp only [cG]
 nofun
 refine wp_mono (zL (by decide) (by omega) p) ?_
 rintro _ _ ⟨y,a,m,rfl,y0,y1,p,rfl⟩
 nofun
 refine tst_T (decide_eq_true y0) ?_
 nofun
 refine wp_mono (zL (by decide) (by omega) p) ?_
 rintro _ _ ⟨z,a,m,rfl,z0,z1,p,rfl⟩
 obtain ⟨w,hw,e⟩:=U5 (l:=[.str "bank",.str "b",.str "clerk",.str "bankers"]) z0 z1
 have fw:Fl 5 w:=by
  simp at hw
  rcases hw with rfl | rfl | rfl | rfl <;> exact xf _ _
 refine zr e ?_
 refine zO (bind1 (by simp) (Zt w)) ?_
 simp only [cG]
 nofun
 refine wp_mono (Xk hn 2 p (by omega)) ?_
 rintro _ _ ⟨d,a,m,rfl,fd,p,rfl⟩
 nofun
 exact ⟨_,a,m,rfl,fl4 fo (xf _ _) fw (fd.up (by omega)),p,rfl⟩
theorem ud {w:Str}(h:w="want"\/w="set"\/w="tell"\/w="give"\/w="fail"):Lw w:=by
 rcases h with rfl | rfl | rfl | rfl | rfl <;> exact ⟨by decide +kernel,by decide +kernel,by decide +kernel,by decide +kernel⟩
def BkAt (nm:List Str) (ns:List Int) (T:Store) (k K:Nat):Prop:=∀ (a m n:Int) (u:Bool),PotOk a m->0<=n->callW F wh K 25 [.ref 0,LS nm,.lst [],.int k,.bl u] (Bk ns T k n) (pK ns a n m::T)
theorem zch (hn:NmOk nm) {k K:Nat}(hb:BkAt nm ns T k K) (hK:6<=K) {a m n w:Int}{u:Bool}(p:PotOk a m) (h0:0<=n):callW F wh (K+1) 24 [.ref 0,LS nm,.lst [],.int k,.bl u,.int w] (Rk ns T k (n+1)) (pK ns a n m::T):=by
 have hf:=hn.few
 refine vM ?_
 nofun
 refine wp_mono (Xk hn 1 p (by omega)) ?_
 rintro _ _ ⟨e,a,m,rfl,fe,p,rfl⟩
 have fe:=fe.up (m:=10) (by omega)
 refine zO (bind1 (by simp) (Zt e)) ?_
 simp only [cG]
 nofun
 refine wp_mono (hb a m n u p h0) ?_
 rintro _ _ ⟨l1,a1,m1,n1,rfl,o1,e1,h1,z1,p1,rfl⟩
 nofun
 refine zX (fun h=>?_) (fun h=>?_)
 ·nofun
  exact ⟨.whl e l1,a1,m1,n1,rfl,⟨fe,o1⟩,h1,by show ((1+sizes l1:Nat):Int)+n1=n+1;omega,p1,rfl⟩
 ·have fin:∀ (l2:List Tr) (a2 m2 n2:Int),oks l2 k->l2.length<=8->0<=n2->(sizes l2:Int)+n2=n1->PotOk a2 m2 ->
    wpCs (callW F wh K) wh (yl.drop 4) [.sh (.ref 0),.sh (LS nm),.sh (.lst []),.sh (.int k),.sh (.bl u),.sh (.int w),.sh e,.sh (.tup (rowsD l1)),.sh (.tup (rowsD l2)),.no] (told (Rk ns T k (n+1))) (pK ns a2 n2 m2::T):=by
   intro l2 a2 m2 n2 o2 e2 h2 z2 p2
   show wpCs _ _ [_,_,_] _ _ _
   nofun
   refine zX (fun h=>?_) (fun h=>?_)
   ·nofun
    exact ⟨.iff e l1 l2,a2,m2,n2,rfl,⟨fe,o1,o2⟩,h2,by show ((1+(sizes l1+sizes l2):Nat):Int)+n2=n+1;omega,p2,rfl⟩
   ·nofun
    refine zX (fun h=>?_) (fun h=>?_)
    ·nofun
     refine opv_f (wH (by simp;omega)) ?_
     nofun
     refine wp_mono (zL (by simp <;> omega) (by omega) p2) ?_
     rintro _ _ ⟨x,a3,m3,rfl,x0,x1,p3,rfl⟩
     obtain ⟨o,ho,e3⟩:=U5 (l:=nm.map D.str++[.non]) x0 (by simpa using x1)
     have fo:Fl 10 o:=by
      rcases Τ.mp ho with h | h
      ·obtain ⟨s,_,rfl⟩:=aM.mp h
       exact xf _ _
      ·rw [Θ.mp h];exact zaD _
     refine zr e3 ?_
     refine zO (bind1 (by simp) (Zt o)) ?_
     simp only [cG]
     nofun
     exact ⟨.tri l1 o l2,a3,m3,n2,rfl,⟨o1,fo,o2⟩,h2,by show ((1+(sizes l1+sizes l2):Nat):Int)+n2=n+1;omega,p3,rfl⟩
    ·nofun
     exact ⟨.doo l1 l2,a2,m2,n2,rfl,⟨o1,o2⟩,h2,by show ((1+(sizes l1+sizes l2):Nat):Int)+n2=n+1;omega,p2,rfl⟩
  nofun
  refine zX (fun h=>?_) (fun h=>?_)
  ·nofun
   refine wp_mono (hb a1 m1 n1 _ p1 h1) ?_
   rintro _ _ ⟨l2,a2,m2,n2,rfl,o2,e2,h2,z2,p2,rfl⟩
   repeat first | exact fin l2 a2 m2 n2 o2 e2 h2 z2 p2 | infer_instance
  ·nofun
   refine wp_mono (hb a1 m1 n1 _ p1 h1) ?_
   rintro _ _ ⟨l2,a2,m2,n2,rfl,o2,e2,h2,z2,p2,rfl⟩
   repeat first | exact fin l2 a2 m2 n2 o2 e2 h2 z2 p2 | infer_instance
end
section
variable {nm:List Str}{ns:List Int}{T:Store}
theorem pick2 (x y:Int) (b:Bool):subD (.lst [.int x,.int y]) (.int (if b=true then 1 else 0))=some (.int (if b=true then y else x)):=by cases b <;> rfl
theorem zbY {v:Int}(h0:0<=v) (h:v < 6):∃ k:Nat,subD (.lst [.int 1,.int 1,.int 2,.int 2,.int 3,.int 4]) (.int v)=some (.int k)/\1<=k/\k<=4:=by
 have hc:v=0\/v=1\/v=2\/v=3\/v=4\/v=5:=by omega
 rcases hc with rfl | rfl | rfl | rfl | rfl | rfl
 ·exact ⟨1,rfl,by decide,by decide⟩
 ·exact ⟨1,rfl,by decide,by decide⟩
 ·exact ⟨2,rfl,by decide,by decide⟩
 ·exact ⟨2,rfl,by decide,by decide⟩
 ·exact ⟨3,rfl,by decide,by decide⟩
 ·exact ⟨4,rfl,by decide,by decide⟩
theorem zb0 {v:Int}{u:Bool}(h0:5<=v) (h:v < 9):∃ w:Str,subD (.lst [.str (if u=true then "tell" else "give"),.str "fail",.str "tell",.str "fail"]) (.int (v - 5))=some (.str w)/\Lw w:=by
 have hc:v=5\/v=6\/v=7\/v=8:=by omega
 rcases hc with rfl | rfl | rfl | rfl
 ·cases u
  ·exact ⟨"give",rfl,ud (by simp)⟩
  ·exact ⟨"tell",rfl,ud (by simp)⟩
 ·exact ⟨"fail",rfl,ud (by simp)⟩
 ·exact ⟨"tell",rfl,ud (by simp)⟩
 ·exact ⟨"fail",rfl,ud (by simp)⟩
theorem pickU (u:Bool):subD (.lst [.str "tell",.str "give"]) (.int (if (!u)=true then 1 else 0))=some (.str (if u=true then "tell" else "give")):=by cases u <;> rfl
theorem zcm (hn:NmOk nm) {K:Nat}(hK:6<=K) {c:Nat}(hc:c<=4) {r:Int}{x3 x4 x5 x6 x7:Slot}{V:List D->Store->Prop}{a m:Int}(p:PotOk a m) (q:∀ ds a m,(∀ d∈ds,Fl 6 d)->ds.length<=4->PotOk a m->V ds (pK ns a r m::T)):
  walkW (cStep (callW F wh K) [.sh (.ref 0),.sh (LS nm),.sh (.lst []),x3,x4,x5,x6,x7] (.one 0) [0,1,2] [] (.call 22 [.var 1,.var 2,.var 3])) (z8 0 c) [] V (pK ns a r m::T):=by
 refine Yb (zeA (yh _)) (fun l acc S'=>∃ a m,S'=pK ns a r m::T/\PotOk a m/\(∀ d∈acc,Fl 6 d)/\acc.length+l.length<=4/\∀ d∈l,∃ j,d=.int j/\0<=j/\j < (c:Int)) ?_ ?_ _ _ _ ⟨a,m,rfl,p,(fun d h=>nomatch h),by simp [z8];omega,fun d hd=>Yl hd⟩
 ·rintro d l acc S' ⟨a,m,rfl,p,ha,hl,hd⟩
  have hl':acc.length+(l.length+1)<=4:=hl
  obtain ⟨i,rfl,_,_⟩:=hd d ς
  refine zO (zeC (by simp [inn,nT]) rfl) ?_
  dsimp only [wpF,Wo,wpEs,e_var,inn,nT,Ψ,List.map,Ϣ,cG]
  nofun
  refine wp_mono (J2 hn p (by omega)) ?_
  rintro _ _ ⟨d,a,m,rfl,fd,p,rfl⟩
  nofun
  exact ⟨a,m,rfl,p,(fun x hx=>by
   rcases Τ.mp hx with hx | hx
   ·exact ha x hx
   ·rw [Θ.mp hx];exact fd),by simp;omega,fun x hx=>hd x (ι _ hx)⟩
 ·rintro acc S' ⟨a,m,rfl,p,ha,hl,hd⟩
  exact q acc a m ha (by simpa using hl) p
theorem zdg (hn:NmOk nm) {j K:Nat}(hb:1<=j->BkAt nm ns T j K) (hK:7<=K) {a m n:Int}{u:Bool}(p:PotOk a m) (h0:1<=n):callW F wh (K+2) 23 [.ref 0,LS nm,.lst [],.int ((j+1:Nat):Int),.bl u] (Rk ns T j n) (pK ns a n m::T):=by
 have hf:=hn.few
 have hl:0 < nm.length:=by
  have:=hn.ne
  cases nm with
  | nil=>exact absurd rfl this
  | cons _ _=>simp
 refine WL ?_
 nofun
 refine zr (pick2 9 17 _) ?_
 obtain ⟨many,hm⟩:∃ x:Int,(if decide ((1:Int) < ((j+1:Nat):Int))=true then (17:Int) else 9)=x:=⟨_,rfl⟩
 have hm0:0 < many/\(many<=9\/many<=17/\1<=j):=by
  rw [<- hm]
  split
  ·rename_i h
   have:=of_decide_eq_true h
   omega
  ·omega
 refine wp_mono (zL (many:=_) (r:=n - 1) (by show (0:Int) < (if decide ((1:Int) < ((j+1:Nat):Int))=true then (17:Int) else 9);rw [hm];exact hm0.1) (by omega) p) ?_
 rintro _ _ ⟨w,a,m,rfl,w0,w1,p,rfl⟩
 have w1:w < many:=by rw [<- hm];exact w1
 nofun
 refine zX (fun h=>?_) (fun h=>?_)
 ·nofun
  refine wp_mono (zL (by decide) (by omega) p) ?_
  rintro _ _ ⟨x,a,m,rfl,x0,x1,p,rfl⟩
  obtain ⟨c,e,c1,c2⟩:=zbY x0 x1
  refine zr e ?_
  nofun
  refine wp_lc ?_
  dsimp only [wpI,e_var]
  nofun
  refine tst_T (by simp [fits,LIM];omega) ?_
  refine zcm hn (by omega) (by omega) p fun ds a m hd hl2 p=>?_
  nofun
  refine wp_mono (zL (by omega) (by omega) p) ?_
  rintro _ _ ⟨y,a,m,rfl,y0,y1,p,rfl⟩
  nofun
  exact ⟨.lf "want" (.int (1+y)) [.tup ds],a,m,n - 1,rfl,⟨ud (by simp),fl3 (xf _ _) (Jy _ _) (ZC (n:=8) fun d h=>(hd d h).up (by omega)),by simp⟩,by omega,by show ((1:Nat):Int)+(n - 1)=n;omega,p,rfl⟩
 ·nofun
  refine zX (fun h2=>?_) (fun h2=>?_)
  ·nofun
   refine wp_mono (zL (by simp;omega) (by omega) p) ?_
   rintro _ _ ⟨x,a,m,rfl,x0,x1,p,rfl⟩
   obtain ⟨s,_,e⟩:=nm_at x0 x1
   refine zr e ?_
   nofun
   refine wp_mono (Xk hn 3 p (by omega)) ?_
   rintro _ _ ⟨d,a,m,rfl,fd,p,rfl⟩
   nofun
   exact ⟨.lf "set" (.str s) [d],a,m,n - 1,rfl,⟨ud (by simp),fl3 (xf _ _) (xf _ _) (fd.up (by omega)),by simp⟩,by omega,by show ((1:Nat):Int)+(n - 1)=n;omega,p,rfl⟩
  ·nofun
   refine zX (fun h3=>?_) (fun h3=>?_)
   ·nofun
    refine zr (pickU u) ?_
    nofun
    obtain ⟨t,e,lt⟩:=zb0 (u:=u) (v:=w) (by have:=of_decide_eq_false h2;omega) (of_decide_eq_true h3)
    refine zr e ?_
    nofun
    refine wp_mono (Xk hn 2 p (by omega)) ?_
    rintro _ _ ⟨d,a,m,rfl,fd,p,rfl⟩
    nofun
    exact ⟨.lf t d [],a,m,n - 1,rfl,⟨lt,fl2 (xf _ _) (fd.up (by omega)),by simp⟩,by omega,by show ((1:Nat):Int)+(n - 1)=n;omega,p,rfl⟩
   ·have hw:9<=w:=by
     have:=of_decide_eq_false h3
     omega
    nofun
    have ej:((j+1:Nat):Int) - 1=(j:Int):=by omega
    rw [ej]
    refine wp_mono (zch hn (hb (by omega)) (by omega) (n:=n - 1) p (by omega)) ?_
    rintro _ _ ⟨r,a,m,n',rfl,o,h',z,p,rfl⟩
    nofun
    exact ⟨r,a,m,n',rfl,o,h',by omega,p,rfl⟩
theorem Kr {v:Int}{b:Bool}(h0:0<=v) (h:v < 8):∃ k:Nat,subD (.lst [.int 0,.int 1,.int 1,.int 2,.int 2,.int 3,.int 3,.int (if b=true then 8 else 4)]) (.int v)=some (.int k)/\k<=8:=by
 have hc:v=0\/v=1\/v=2\/v=3\/v=4\/v=5\/v=6\/v=7:=by omega
 rcases hc with rfl | rfl | rfl | rfl | rfl | rfl | rfl | rfl
 ·exact ⟨0,rfl,by decide⟩
 ·exact ⟨1,rfl,by decide⟩
 ·exact ⟨1,rfl,by decide⟩
 ·exact ⟨2,rfl,by decide⟩
 ·exact ⟨2,rfl,by decide⟩
 ·exact ⟨3,rfl,by decide⟩
 ·exact ⟨3,rfl,by decide⟩
 ·cases b
  ·exact ⟨4,rfl,by decide⟩
  ·exact ⟨8,rfl,by decide⟩
theorem QW (hn:NmOk nm):∀ (j K:Nat),3*j+12<=K->BkAt nm ns T (j+1) K:=by
 intro j
 induction j with
 | zero=>exact fun K hK=>go hn 0 K (by omega) fun h=>absurd h (by decide)
 | succ j ih=>exact fun K hK=>go hn (j+1) K (by omega) fun _=>ih (K - 3) (by omega)
where
 go {nm:List Str}{ns:List Int}{T:Store}(hn:NmOk nm) (j K:Nat) (hK:12<=K) (hb:1<=j->BkAt nm ns T j (K - 3)):BkAt nm ns T (j+1) K:=by
  intro a m n u p h0
  obtain ⟨K,rfl⟩:∃ k,K=k+3:=⟨K - 3,by omega⟩
  have hb:1<=j->BkAt nm ns T j K:=hb
  refine qu ?_
  nofun
  refine zr (pick2 4 8 _) ?_
  nofun
  refine wp_mono (zL (by decide) (by omega) p) ?_
  rintro _ _ ⟨x,a,m,rfl,x0,x1,p,rfl⟩
  obtain ⟨c,e,hc⟩:=Kr (b:=decide ((3:Int) < ((j+1:Nat):Int))) x0 x1
  refine zr e ?_
  nofun
  refine tst_T (by simp [fits,LIM];omega) ?_
  refine wp_walk (fun l ρ S'=>∃ (rs:List Tr) (a m n':Int) (x6:Slot),S'=pK ns a n' m::T/\PotOk a m/\oks rs (j+1)/\rs.length+l.length<=8/\0<=n'/\(sizes rs:Int)+n'=n/\(∀ d∈l,∃ i,d=.int i/\0<=i/\i < (c:Int))/\ρ=[.sh (.ref 0),.sh (LS nm),.sh (.lst []),.sh (.int ((j+1:Nat):Int)),.sh (.bl u),.ow (.lst (rowsD rs)),x6]) ?_ ?_ _ _ _ ⟨[],a,m,n,.no,rfl,p,trivial,by simp [z8];omega,h0,by show ((0:Nat):Int)+n=n;omega,(fun d hd=>Yl hd),rfl⟩
  ·rintro d l ρ S' ⟨rs,a,m,n',x6,rfl,p,o,hl,h1,z,hd,rfl⟩
   have hl':rs.length+(l.length+1)<=8:=hl
   obtain ⟨i,rfl,_,_⟩:=hd d ς
   nofun
   refine zX (fun h=>?_) (fun h=>?_)
   ·nofun
    refine wp_mono (zdg hn hb (by omega) p (of_decide_eq_true h)) ?_
    rintro _ _ ⟨r,a,m,n2,rfl,o2,h2,z2,p,rfl⟩
    have:=zU rs
    nofun
    exact ⟨rs++[r],a,m,n2,_,rfl,p,XN rs r o o2,by simp;omega,h2,by rw [yH];show ((sizes rs+(r.size+0):Nat):Int)+n2=n;omega,(fun d hx=>hd d (ι _ hx)),by rw [V8]⟩
   ·nofun
    exact ⟨rs,a,m,n',_,rfl,p,o,by omega,h1,z,(fun d hx=>hd d (ι _ hx)),rfl⟩
  ·rintro ρ S' ⟨rs,a,m,n',x6,rfl,p,o,hl,h1,z,hd,rfl⟩
   nofun
   exact ⟨rs,a,m,n',rfl,o,by simpa using hl,h1,z,p,rfl⟩
theorem JF {K:Nat}(hK:40<=K) {v a r m:Int}(v0:0<=v) (v1:v < 4) (p:PotOk a m):callW F wh K 26 [.ref 0,.tup [.str "main",.int v],.lst []] (fun q S=>∃ (ps:List D) (rs:List Tr) (a m n:Int),q=(.tup [.str "main",.tup ps,.tup (rowsD rs)],.st)/\oks rs 4/\sizes rs<=24/\S=pK ns a n m::T) (pK ns a r m::T):=by
 obtain ⟨K,rfl⟩:∃ k,K=k+1:=⟨K - 1,by omega⟩
 have hc:v=0\/v=1\/v=2\/v=3:=by omega
 have fin:∀ (nm:List Str) (ps:List D),NmOk nm->ps.length<=3->wpCs (callW F wh K) wh (yF.drop 3) [.sh (.ref 0),.sh (.tup [.str "main",.int v]),.sh (.lst []),.ow (.lst ps),.ow (LS nm)] (told fun q S=>∃ (ps:List D) (rs:List Tr) (a m n:Int),q=(.tup [.str "main",.tup ps,.tup (rowsD rs)],.st)/\oks rs 4/\sizes rs<=24/\S=pK ns a n m::T) (pK ns a 24 m::T):=by
  intro nm ps hn hp
  show wpCs _ _ [_,_] _ _ _
  nofun
  refine wp_mono (QW hn 3 K (by omega) a m 24 false p (by decide)) ?_
  rintro _ _ ⟨rs,a,m,n,rfl,o,e,h,z,p,rfl⟩
  nofun
  exact ⟨ps,rs,a,m,n,rfl,o,by omega,rfl⟩
 refine jK ?_
 rcases hc with rfl | rfl | rfl | rfl
 all_goals
  nofun
  refine wp_lc ?_
  dsimp only [wpI,e_var,e_lst,wpEs,e_con]
  nofun
  iterate 3
   refine wk_go ?_
   dsimp only [wpF,e_cmp,e_var,e_con]
   nofun
  refine zcB ?_
  repeat first | exact fin ["x","yy","z"] _ ⟨by simp,by simp⟩ (by decide) | exact fin ["p","x","yy","z"] _ ⟨by simp,by simp⟩ (by decide) | exact fin ["p","qq","x","yy","z"] _ ⟨by simp,by simp⟩ (by decide) | infer_instance
end
noncomputable def bo:Tr->List (List Tr)
 | .lf _ _ _=>[]
 | .iff _ b c=>[b,c]
 | .whl _ b=>[b]
 | .tri b _ c=>[b,c]
 | .doo b c=>[b,c]
noncomputable def bD (b:List Tr):D:=.tup (rowsD b)
def Lfs:Tr->Prop
 | .lf w _ _=>Lw w
 | _=>True
theorem Tr.Ok.lfs:∀ {t:Tr}{n:Nat},t.Ok n->Lfs t
 | .lf _ _ _,_,h=>h.1
 | .iff _ _ _,_,_=>trivial
 | .whl _ _,_,_=>trivial
 | .tri _ _ _,_,_=>trivial
 | .doo _ _,_,_=>trivial
theorem uG {t:Tr}(h:Lfs t) {K:Nat}(hK:1<=K) (S:Store):callW F wh K 0 [t.toD] (fun x S'=>x=(.tup ((bo t).map bD),.st)/\S'=S) S:=by
 obtain ⟨K,rfl⟩:∃ k,K=k+1:=⟨K - 1,by omega⟩
 cases t with
 | lf w x r=>
  have h:Lw w:=h
  refine yc (x0:=.tup (.str w::x::r)) ?_
  nofun
  refine tst_F h.fi ?_
  nofun
  refine tst_F h.fw ?_
  nofun
  refine tst_F h.ft ?_
  nofun
  refine tst_F h.fd ?_
  nofun
  exact ⟨rfl,rfl⟩
 | iff e b c=>
  refine yc (x0:=.tup [.str "if",e,.tup (rowsD b),.tup (rowsD c)]) ?_
  nofun
  exact ⟨rfl,rfl⟩
 | whl e b=>
  refine yc (x0:=.tup [.str "while",e,.tup (rowsD b)]) ?_
  nofun
  exact ⟨rfl,rfl⟩
 | tri b x c=>
  refine yc (x0:=.tup [.str "try",.tup (rowsD b),x,.tup (rowsD c)]) ?_
  nofun
  exact ⟨rfl,rfl⟩
 | doo b c=>
  refine yc (x0:=.tup [.str "do",.tup (rowsD b),.tup (rowsD c)]) ?_
  nofun
  exact ⟨rfl,rfl⟩
noncomputable abbrev P:=List Int
mutual
noncomputable def rp:Tr->P->List P
 | .lf _ _ _,p=>[p]
 | .iff _ b c,p=>p::(((p++[0]++[(b.length:Int)])::rps b (p++[0]) 0)++((p++[1]++[(c.length:Int)])::rps c (p++[1]) 0))
 | .whl _ b,p=>p::(p++[0])::((p++[0]++[(b.length:Int)])::rps b (p++[0]) 0)
 | .tri b _ c,p=>p::(((p++[0]++[(b.length:Int)])::rps b (p++[0]) 0)++((p++[1]++[(c.length:Int)])::rps c (p++[1]) 0))
 | .doo b c,p=>p::(p++[1])::(((p++[0]++[(b.length:Int)])::rps b (p++[0]) 0)++((p++[1]++[(c.length:Int)])::rps c (p++[1]) 0))
noncomputable def rps:List Tr->P->Nat->List P
 | [],_,_=>[]
 | r::l,h,i=>rp r (h++[(i:Int)])++rps l h (i+1)
end
noncomputable def bp (b:List Tr) (h:P):List P:=(h++[(b.length:Int)])::rps b h 0
noncomputable def bks:List (List Tr)->P->Nat->List P
 | [],_,_=>[]
 | b::bs,p,j=>bp b (p++[(j:Int)])++bks bs p (j+1)
noncomputable def exP:Tr->P->List P
 | .whl _ _,p=>[p++[0]]
 | .doo _ _,p=>[p++[1]]
 | _,_=>[]
theorem rp_eq:∀ (t:Tr) (p:P),rp t p=p::(exP t p++bks (bo t) p 0)
 | .lf _ _ _,p=>rfl
 | .iff _ b c,p=>by simp [rp,exP,bks,bo,bp]
 | .whl _ b,p=>by simp [rp,exP,bks,bo,bp]
 | .tri b _ c,p=>by simp [rp,exP,bks,bo,bp]
 | .doo b c,p=>by simp [rp,exP,bks,bo,bp]
noncomputable def zK:List (List Tr)->Nat
 | []=>0
 | b::bs=>sizes b+zK bs
theorem size_eq:∀ (t:Tr),t.size=1+zK (bo t)
 | .lf _ _ _=>rfl
 | .iff _ b c=>by show 1+(sizes b+sizes c)=1+(sizes b+(sizes c+0));omega
 | .whl _ b=>by show 1+sizes b=1+(sizes b+0);omega
 | .tri b _ c=>by show 1+(sizes b+sizes c)=1+(sizes b+(sizes c+0));omega
 | .doo b c=>by show 1+(sizes b+sizes c)=1+(sizes b+(sizes c+0));omega
mutual
theorem zad:∀ (t:Tr) (p:P),(rp t p).length<=4*t.size
 | .lf _ _ _,p=>by show 1<=4*1;decide
 | .iff _ b c,p=>by
  have h1:=zZ b (p++[0]) 0
  have h2:=zZ c (p++[1]) 0
  simp only [rp,Tr.size,Ϟ,Α];omega
 | .whl _ b,p=>by
  have h1:=zZ b (p++[0]) 0
  simp only [rp,Tr.size,Ϟ,Α];omega
 | .tri b _ c,p=>by
  have h1:=zZ b (p++[0]) 0
  have h2:=zZ c (p++[1]) 0
  simp only [rp,Tr.size,Ϟ,Α];omega
 | .doo b c,p=>by
  have h1:=zZ b (p++[0]) 0
  have h2:=zZ c (p++[1]) 0
  simp only [rp,Tr.size,Ϟ,Α];omega
theorem zZ:∀ (l:List Tr) (h:P) (i:Nat),(rps l h i).length<=4*sizes l
 | [],_,_=>ν _
 | r::l,h,i=>by
  have h1:=zad r (h++[(i:Int)])
  have h2:=zZ l h (i+1)
  simp only [rps,sizes,Α];omega
end
theorem wV (l:List Tr) (h:P):(bp l h).length<=4*sizes l+1:=by
 have:=zZ l h 0
 show (rps l h 0).length+1<=_
 omega
theorem zy (h:P) (i:Int):(h.map D.int)++[.int i]=(h++[i]).map D.int:=by rw [ϩ];rfl
def BpAt (K n:Nat):Prop:=∀ (l:List Tr) (h:P) (d:Nat) (S:Store),oks l d->sizes l<=n->h.length+2*n<=100->callW F wh K 2 [bD l,tupI h] (fun x S'=>x=(.lst ((bp l h).map tupI),.fr)/\S'=S) S
theorem J4:∀ (a b:List (List Tr)) (p:P) (j:Nat),bks (a++b) p j=bks a p j++bks b p (j+a.length)
 | [],b,p,j=>by simp [bks]
 | x::a,b,p,j=>by
  show bp x (p++[(j:Int)])++bks (a++b) p (j+1)=bp x (p++[(j:Int)])++bks a p (j+1)++bks b p (j+(a.length+1))
  rw [J4 a b,π,show j+1+a.length=j+(a.length+1) by omega]
theorem J3:∀ (bs:List (List Tr)) (p:P) (j:Nat),(bks bs p j).length<=4*zK bs+bs.length
 | [],_,_=>ν _
 | b::bs,p,j=>by
  have h1:=wV b (p++[(j:Int)])
  have h2:=J3 bs p (j+1)
  simp only [bks,zK,Α,Ϟ];omega
theorem zaM:∀ (t:Tr),(bo t).length<=2
 | .lf _ _ _=>by simp [bo]
 | .iff _ _ _=>by simp [bo]
 | .whl _ _=>by simp [bo]
 | .tri _ _ _=>by simp [bo]
 | .doo _ _=>by simp [bo]
theorem wz:∀ (a b:List (List Tr)),zK (a++b)=zK a+zK b
 | [],b=>by show zK b=0+zK b;omega
 | x::a,b=>by show sizes x+zK (a++b)=sizes x+zK a+zK b;rw [wz a b];omega
theorem addT (p:P) (i:Int) (h:p.length<=100):opD .Add (tupI p) (.tup [.int i])=some (tupI (p++[i]),false):=by
 show opD .Add (.tup (p.map D.int)) (.tup [.int i])=_
 rw [Ke (by simp;omega),zy];rfl
theorem zeB {K n:Nat}(hb:BpAt K n) {t:Tr}{p:P}(hp:p.length+1+2*n<=100) {S:Store}{d:Nat}{acc:List P}(ha:acc.length<=10) (ho:∀ b∈bo t,oks b d) (hs:zK (bo t)<=n) (hn:n<=24) {b:Vl->Store->Prop}(hh:Lfs t) (hK:1<=K)
  (q:b (.lst ((acc++bks (bo t) p 0).map tupI),.fr) S):
  wpCs (callW F wh K) wh (yp.drop 3) [.sh t.toD,.sh (tupI p),.ow (.lst (acc.map tupI)),.no,.no] (told b) S:=by
 show wpCs _ _ [_,_] _ _ _
 nofun
 refine wp_mono (uG hh hK S) ?_
 rintro _ _ ⟨rfl,rfl⟩
 nofun
 refine wp_walk (fun l ρ S'=>S'=S'/\∃ (b1 b2:List (List Tr)) (x3 x4:Slot),bo t=b1++b2/\l=enumD b1.length (b2.map bD)/\ρ=[.sh t.toD,.sh (tupI p),.ow (.lst ((acc++bks b1 p 0).map tupI)),x3,x4]/\b (.lst ((acc++bks (bo t) p 0).map tupI),.fr) S') ?_ ?_ _ _ _ ⟨rfl,[],bo t,.no,.no,rfl,rfl,by rw [show bks [] p 0=[] from rfl,Ϣ],q⟩
 ·rintro d1 l ρ S' ⟨_,b1,b2,x3,x4,eb,el,rfl,q⟩
  cases b2 with
  | nil=>cases el
  | cons c b2=>
   cases el
   have hc:c∈bo t:=by rw [eb];simp
   have hl1:=J3 b1 p 0
   have hl2:=zaM t
   rw [eb] at hs hl2
   rw [wz] at hs
   have hs:zK b1+(sizes c+zK b2)<=n:=hs
   have hl2:b1.length+(b2.length+1)<=2:=by simpa using hl2
   have hl3:=wV c (p++[(b1.length:Int)])
   refine zO (a:=[.sh t.toD,.sh (tupI p),.ow (.lst ((acc++bks b1 p 0).map tupI)),.sh (.int (b1.length:Int)),.sh (bD c)]) rfl ?_
   nofun
   rw [zy]
   refine wp_mono (hb c (p++[(b1.length:Int)]) d S' (ho c hc) (by omega) (by simp;omega)) ?_
   rintro _ _ ⟨rfl,rfl⟩
   nofun
   refine ⟨rfl,b1++[c],b2,.sh (.int (b1.length:Int)),.sh (bD c),by rw [eb];simp,by simp,?_,q⟩
   rw [J4,<- ϩ,π]
   simp [bks]
 ·rintro ρ S' ⟨_,b1,b2,x3,x4,eb,el,rfl,q⟩
  have e2:b2=[]:=by
   cases b2 with
   | nil=>rfl
   | cons _ _=>cases el
  subst e2
  rw [Ϣ] at eb
  subst eb
  nofun
  exact q
theorem ok_bo:∀ {t:Tr}{n:Nat},t.Ok n->∀ b∈bo t,oks b n
 | .lf _ _ _,_,_,b,h=>absurd h dC
 | .iff _ b c,_,o,x,h=>by
  simp [bo] at h
  rcases h with rfl | rfl
  ·exact o.2.1
  ·exact o.2.2
 | .whl _ b,_,o,x,h=>by
  simp [bo] at h
  subst h;exact o.2
 | .tri b _ c,_,o,x,h=>by
  simp [bo] at h
  rcases h with rfl | rfl
  ·exact o.1
  ·exact o.2.2
 | .doo b c,_,o,x,h=>by
  simp [bo] at h
  rcases h with rfl | rfl
  ·exact o.1
  ·exact o.2
theorem KC (p:P) (hp:p.length<=100) {K:Nat}(hK:1<=K) (S:Store):callW F wh K 4 [tupI p] (fun x S'=>x=(tupI (p++[0]),.st)/\S'=S) S:=by
 obtain ⟨K,rfl⟩:∃ k,K=k+1:=⟨K - 1,by omega⟩
 refine WF (x0:=.tup (p.map D.int)) ?_
 nofun
 rw [zy]
 exact ⟨rfl,rfl⟩
theorem qi (p:P) (hp:p.length<=100) {K:Nat}(hK:1<=K) (S:Store):callW F wh K 5 [tupI p] (fun x S'=>x=(tupI (p++[1]),.st)/\S'=S) S:=by
 obtain ⟨K,rfl⟩:∃ k,K=k+1:=⟨K - 1,by omega⟩
 refine uP (x0:=.tup (p.map D.int)) ?_
 nofun
 rw [zy]
 exact ⟨rfl,rfl⟩
theorem zbj {K n:Nat}(hb:BpAt K n) (hK:1<=K) (hn:n<=24) {t:Tr}{m:Nat}(o:t.Ok m) (hs:t.size<=n+1) {p:P}(hp:p.length+1+2*n<=100) (S:Store):callW F wh (K+1) 3 [t.toD,tupI p] (fun x S'=>x=(.lst ((rp t p).map tupI),.fr)/\S'=S) S:=by
 have hz:=size_eq t
 have ho:=ok_bo o
 have hl:=o.lfs
 have fin:∀ acc:List P,acc.length<=10->acc=p::exP t p->wpCs (callW F wh K) wh (yp.drop 3) [.sh t.toD,.sh (tupI p),.ow (.lst (acc.map tupI)),.no,.no] (told fun x S'=>x=(.lst ((rp t p).map tupI),.fr)/\S'=S) S:=fun acc ha e=>by
  refine zeB hb (t:=t) hp (S:=S) ha ho (by omega) hn hl hK ⟨?_,rfl⟩
  rw [rp_eq,e];rfl
 cases t with
 | lf w x r=>
  have fin:=fin [p] (by simp) rfl
  have hl:Lw w:=hl
  refine zW (x0:=.tup (.str w::x::r)) (x1:=tupI p) ?_
  nofun
  refine tst_F hl.fw ?_
  nofun
  refine tst_F hl.fd ?_
  repeat first | exact fin | infer_instance
 | iff e b c=>
  have fin:=fin [p] (by simp) rfl
  refine zW (x0:=.tup [.str "if",e,.tup (rowsD b),.tup (rowsD c)]) (x1:=tupI p) ?_
  repeat first | exact fin | infer_instance
 | whl e b=>
  have fin:=fin [p,p++[0]] (by simp) rfl
  refine zW (x0:=.tup [.str "while",e,.tup (rowsD b)]) (x1:=tupI p) ?_
  nofun
  refine wp_mono (KC p (by omega) hK S) ?_
  rintro _ _ ⟨rfl,rfl⟩
  repeat first | exact fin | infer_instance
 | tri b x c=>
  have fin:=fin [p] (by simp) rfl
  refine zW (x0:=.tup [.str "try",.tup (rowsD b),x,.tup (rowsD c)]) (x1:=tupI p) ?_
  repeat first | exact fin | infer_instance
 | doo b c=>
  have fin:=fin [p,p++[1]] (by simp) rfl
  refine zW (x0:=.tup [.str "do",.tup (rowsD b),.tup (rowsD c)]) (x1:=tupI p) ?_
  nofun
  refine wp_mono (qi p (by omega) hK S) ?_
  rintro _ _ ⟨rfl,rfl⟩
  repeat first | exact fin | infer_instance
theorem Yk:∀ (a b:List Tr) (h:P) (i:Nat),rps (a++b) h i=rps a h i++rps b h (i+a.length)
 | [],b,h,i=>by simp [rps]
 | x::a,b,h,i=>by
  show rp x (h++[(i:Int)])++rps (a++b) h (i+1)=rp x (h++[(i:Int)])++rps a h (i+1)++rps b h (i+(a.length+1))
  rw [Yk a b,π,show i+1+a.length=i+(a.length+1) by omega]
theorem jV {n:Nat}:∀ (a b:List Tr),oks (a++b) n->oks a n/\oks b n
 | [],b,h=>⟨trivial,h⟩
 | r::a,b,h=>by
  cases n with
  | zero=>exact h.elim
  | succ n=>exact ⟨⟨h.1,(jV a b h.2).1⟩,(jV a b h.2).2⟩
theorem Yp {n:Nat}{r:Tr}{l:List Tr}(h:oks (r::l) n):∃ m,r.Ok m:=by
 cases n with
 | zero=>exact h.elim
 | succ n=>exact ⟨n,h.1⟩
theorem vh (t:Tr):1<=t.size:=by rw [size_eq];omega
theorem yI:∀ (l:List Tr),rowsD l=l.map Tr.toD
 | []=>rfl
 | r::l=>by rw [Ρ,<- yI l];rfl
theorem bp_at:∀ (n K:Nat),n<=24->2*n+4<=K->BpAt K n:=by
 intro n
 induction n with
 | zero=>
  intro K hn hK l h d S o hs hh
  have e:l=[]:=by
   cases l with
   | nil=>rfl
   | cons r l=>
    have h:r.size+sizes l<=0:=hs
    have:=vh r
    omega
  subst e
  exact go 0 K hn (by omega) (fun r m o h=>absurd (vh r) (by omega)) [] h d S o hs hh
 | succ n ih=>
  intro K hn hK
  refine go (n+1) K hn (by omega) fun r m o h=>?_
  have:=fun p hp S=>zbj (ih (K - 2) (by omega) (by omega)) (by omega) (by omega) o h (p:=p) hp S
  rw [show K - 2+1=K - 1 by omega] at this
  exact fun p hp S=>this p (by omega) S
where
 go (n K:Nat) (hn:n<=24) (hK:1<=K) (hr:∀ (r:Tr) (m:Nat),r.Ok m->r.size<=n->∀ (p:P),p.length+2*n<=101->∀ S,callW F wh (K - 1) 3 [r.toD,tupI p] (fun x S'=>x=(.lst ((rp r p).map tupI),.fr)/\S'=S) S):BpAt K n:=by
  intro l h d S o hs hh
  obtain ⟨K,rfl⟩:∃ k,K=k+1:=⟨K - 1,by omega⟩
  have hr:∀ (r:Tr) (m:Nat),r.Ok m->r.size<=n->∀ (p:P),p.length+2*n<=101->∀ S,callW F wh K 3 [r.toD,tupI p] (fun x S'=>x=(.lst ((rp r p).map tupI),.fr)/\S'=S) S:=hr
  refine uO (x0:=.tup (rowsD l)) (x1:=.tup (h.map D.int)) ?_
  nofun
  rw [zy,zU]
  refine wp_walk (fun m ρ S'=>S'=S/\∃ (l1 l2:List Tr) (x3 x4:Slot),l=l1++l2/\m=enumD l1.length (l2.map Tr.toD)/\ρ=[.sh (.tup (rowsD l)),.sh (tupI h),.ow (.lst (((h++[(l.length:Int)])::rps l1 h 0).map tupI)),x3,x4]) ?_ ?_ _ _ _ ⟨rfl,[],l,.no,.no,rfl,by rw [yI];rfl,rfl⟩
  ·rintro d1 m ρ S' ⟨rfl,l1,l2,x3,x4,e1,em,rfl⟩
   cases l2 with
   | nil=>cases em
   | cons r l2=>
    cases em
    have ol:=o
    rw [e1] at ol hs
    obtain ⟨_,o2⟩:=jV l1 (r::l2) ol
    obtain ⟨m',or⟩:=Yp o2
    rw [yH] at hs
    have hs:sizes l1+(r.size+sizes l2)<=n:=hs
    have hl1:=zZ l1 h 0
    have hl2:=zad r (h++[(l1.length:Int)])
    refine zO (a:=[.sh (.tup (rowsD l)),.sh (tupI h),.ow (.lst (((h++[(l.length:Int)])::rps l1 h 0).map tupI)),.sh (.int (l1.length:Int)),.sh r.toD]) rfl ?_
    nofun
    rw [zy]
    refine wp_mono (hr r m' or (by omega) (h++[(l1.length:Int)]) (by simp;omega) S') ?_
    rintro _ _ ⟨rfl,rfl⟩
    nofun
    refine ⟨rfl,l1++[r],l2,.sh (.int (l1.length:Int)),.sh r.toD,by rw [e1];simp,by simp,?_⟩
    rw [Yk,<- ϩ]
    simp [rps]
  ·rintro ρ S' ⟨rfl,l1,l2,x3,x4,e1,em,rfl⟩
   have e2:l2=[]:=by
    cases l2 with
    | nil=>rfl
    | cons _ _=>cases em
   subst e2
   rw [Ϣ] at e1
   subst e1
   nofun
   exact ⟨rfl,rfl⟩
theorem jm:∀ (ps:List P),(∀ p∈ps,p≠[])->xY (ps.map tupI)=some ps
 | [],_=>rfl
 | p::ps,h=>by
  show (intsD (p.map D.int)).bind (fun k=>if k.isEmpty then none else (xY (ps.map tupI)).map (k::·))=_
  rw [uq]
  show (if p.isEmpty=true then none else (xY (ps.map tupI)).map (p::·))=_
  rw [if_neg (by have:=h p ς;cases p with | nil=>exact absurd rfl this | cons _ _=>simp),jm ps fun q hq=>h q (ι _ hq)]
  rfl
theorem zcR {ps:List P}(h:∀ p∈ps,p≠[]) (hl:ps.length < 128):biD .sorted [.lst (ps.map tupI)]=some (.lst ((sortL ps).map tupI),true):=by
 show (xY (ps.map tupI)).bind (fun ks=>if decide (ks.length < 128)=true then some (D.lst ((sortL ks).map tupI),true) else none)=_
 rw [jm ps h]
 show (if decide (ps.length < 128)=true then _ else _)=_
 rw [if_pos (decide_eq_true hl)]
mutual
theorem rp_ne:∀ (t:Tr) (p:P),p≠[]->∀ q∈rp t p,q≠[]
 | .lf _ _ _,p,h,q,hq=>by rw [Θ.mp hq];exact h
 | .iff _ b c,p,h,q,hq=>by
  have h1:=xM b (p++[0]) 0 q
  have h2:=xM c (p++[1]) 0 q
  simp [rp] at hq
  rcases hq with rfl | rfl | hq | rfl | hq
  ·exact h
  ·simp
  ·exact h1 hq
  ·simp
  ·exact h2 hq
 | .whl _ b,p,h,q,hq=>by
  have h1:=xM b (p++[0]) 0 q
  simp [rp] at hq
  rcases hq with rfl | rfl | rfl | hq
  ·exact h
  ·simp
  ·simp
  ·exact h1 hq
 | .tri b _ c,p,h,q,hq=>by
  have h1:=xM b (p++[0]) 0 q
  have h2:=xM c (p++[1]) 0 q
  simp [rp] at hq
  rcases hq with rfl | rfl | hq | rfl | hq
  ·exact h
  ·simp
  ·exact h1 hq
  ·simp
  ·exact h2 hq
 | .doo b c,p,h,q,hq=>by
  have h1:=xM b (p++[0]) 0 q
  have h2:=xM c (p++[1]) 0 q
  simp [rp] at hq
  rcases hq with rfl | rfl | rfl | hq | rfl | hq
  ·exact h
  ·simp
  ·simp
  ·exact h1 hq
  ·simp
  ·exact h2 hq
theorem xM:∀ (l:List Tr) (h:P) (i:Nat),∀ q∈rps l h i,q≠[]
 | [],_,_,q,hq=>absurd hq dC
 | r::l,h,i,q,hq=>by
  rcases Τ.mp hq with hq | hq
  ·exact rp_ne r (h++[(i:Int)]) (by simp) q hq
  ·exact xM l h (i+1) q hq
end
theorem bp_ne (l:List Tr) (h:P):∀ q∈bp l h,q≠[]:=fun q hq=>by
 rcases Ξ.mp hq with rfl | hq
 ·simp
 ·exact xM l h 0 q hq
noncomputable def er (rs:List Tr) (ps:List D):D:=.tup [.str "main",.tup ps,.tup (rowsD rs)]
theorem Uj {rs:List Tr}{ps:List D}{d:Nat}(o:oks rs d) (hs:sizes rs<=24) {K:Nat}(hK:54<=K) (S:Store):callW F wh K 1 [er rs ps] (fun x S'=>x=(.tup ((sortL (bp rs [])).map tupI),.st)/\S'=S) S:=by
 obtain ⟨K,rfl⟩:∃ k,K=k+1:=⟨K - 1,by omega⟩
 have hl:=wV rs []
 refine Kl (x0:=.tup [.str "main",.tup ps,.tup (rowsD rs)]) ?_
 nofun
 refine wp_mono (bp_at 24 K (by decide) (by omega) rs [] d S o hs (by decide)) ?_
 rintro _ _ ⟨rfl,rfl⟩
 refine opv_f (zcR (bp_ne rs []) (by omega)) ?_
 nofun
 exact ⟨rfl,rfl⟩
noncomputable def oT:Option Tr->D
 | none=>.non
 | some t=>t.toD
inductive At (rs:List Tr):P->List Tr->Nat->Prop
 | top:At rs [] rs 0
 | inn {h:P}{b c:List Tr}{n i j:Nat}{t:Tr}:At rs h b n->b[i]?=some t->(bo t)[j]?=some c->At rs (h++[(i:Int),(j:Int)]) c (n+1)
theorem At.len {rs:List Tr}{h:P}{b:List Tr}{n:Nat}(a:At rs h b n):h.length=2*n:=by
 induction a with
 | top=>rfl
 | inn a _ _ ih=>simp [ih];omega
theorem jP:∀ {l:List Tr}{i:Nat}{t:Tr},l[i]?=some t->t.size<=sizes l
 | [],i,t,h=>by simp at h
 | r::l,0,t,h=>by cases h;show r.size<=r.size+sizes l;omega
 | r::l,i+1,t,h=>by
  have:=jP (l:=l) (i:=i) (t:=t) (by simpa using h)
  show t.size<=r.size+sizes l
  omega
theorem wy:∀ {l:List (List Tr)}{i:Nat}{t:List Tr},l[i]?=some t->sizes t<=zK l
 | [],i,t,h=>by simp at h
 | r::l,0,t,h=>by cases h;show sizes r<=sizes r+zK l;omega
 | r::l,i+1,t,h=>by
  have:=wy (l:=l) (i:=i) (t:=t) (by simpa using h)
  show sizes t<=sizes r+zK l
  omega
theorem At.size {rs:List Tr}{h:P}{b:List Tr}{n:Nat}(a:At rs h b n):n+sizes b<=sizes rs:=by
 induction a with
 | top=>omega
 | inn a h1 h2 ih=>
  have:=jP h1
  have:=wy h2
  have:=size_eq (by assumption)
  omega
theorem wO:∀ {l:List Tr}{d i:Nat}{t:Tr},oks l d->l[i]?=some t->∃ m,t.Ok m
 | [],d,i,t,_,h=>by simp at h
 | r::l,d,0,t,o,h=>by cases h;exact Yp o
 | r::l,0,i+1,t,o,h=>o.elim
 | r::l,d+1,i+1,t,o,h=>wO o.2 (by simpa using h)
theorem At.ok {rs:List Tr}{h:P}{b:List Tr}{n d:Nat}(a:At rs h b n) (o:oks rs d):∃ d,oks b d:=by
 induction a with
 | top=>exact ⟨d,o⟩
 | inn a h1 h2 ih=>
  obtain ⟨d,ob⟩:=ih
  obtain ⟨m,ot⟩:=wO ob h1
  exact ⟨m,ok_bo ot _ (Ϝ h2)⟩
theorem z9 (p:P) {K:Nat}(hK:1<=K) (S:Store):callW F wh K 7 [tupI p] (fun x S'=>x=(.bl (decide (p.length % 2=0)),.st)/\S'=S) S:=by
 obtain ⟨K,rfl⟩:∃ k,K=k+1:=⟨K - 1,by omega⟩
 refine qp (x0:=.tup (p.map D.int)) ?_
 nofun
 refine ⟨?_,rfl⟩
 have:(((p.map D.int).length:Int) % 2==0)=decide (p.length % 2=0):=by
  rw [d7];simp;omega
 exact congrArg (fun b=>(D.bl b,Kd.st)) this
section
variable {rs:List Tr}{ps:List D}
theorem wJ {q:List D}{b:List Tr}{k:Nat}{K:Nat}{S:Store}(hb:callW F wh K 8 [er rs ps,.tup (q++[.int (k:Int)])] (fun x S'=>x=(bD b,.st)/\S'=S) S):callW F wh (K+1) 9 [er rs ps,.tup (q++[.int (k:Int)])] (fun x S'=>x=(oT b[k]?,.st)/\S'=S) S:=by
 refine Kh (x0:=er rs ps) (x1:=.tup (q++[.int (k:Int)])) ?_
 nofun
 refine wp_mono hb ?_
 rintro _ _ ⟨rfl,rfl⟩
 have hl:=zU b
 nofun
 refine zr at_m1 ?_
 nofun
 refine tst_T (decide_eq_true (by omega)) ?_
 nofun
 cases hk:b[k]? with
 | none=>
  have:=lX.mp hk
  refine tst_T (by show (!decide ((k:Int) < ((rowsD b).length:Int)))=true;rw [decide_eq_false (by omega)];rfl) ?_
  nofun
  exact ⟨rfl,rfl⟩
 | some t=>
  have:=(Η.mp hk).1
  refine tst_F (by show (!decide ((k:Int) < ((rowsD b).length:Int)))=false;rw [decide_eq_true (by omega)];rfl) ?_
  nofun
  refine zr at_m1 ?_
  nofun
  have hx:subD (bD b) (.int (k:Int))=some t.toD:=qz (by omega) (by rw [yI,Μ];simp [hk])
  refine zr hx ?_
  nofun
  exact ⟨rfl,rfl⟩
end
section
variable {rs:List Tr}{ps:List D}
theorem uH (hs:sizes rs<=24) {d:Nat}(o:oks rs d) {h:P}{b:List Tr}{n:Nat}(a:At rs h b n):∀ (k:Nat) {K:Nat},2*n+3<=K->∀ S,callW F wh K 8 [er rs ps,.tup (h.map D.int++[.int (k:Int)])] (fun x S'=>x=(bD b,.st)/\S'=S) S:=by
 induction a with
 | top=>
  intro k K hK S
  obtain ⟨K,rfl⟩:∃ k,K=k+1:=⟨K - 1,by omega⟩
  refine uU (x0:=er rs ps) (x1:=.tup [.int (k:Int)]) ?_
  nofun
  refine wp_mono (z9 [(k:Int)] (by omega) S) ?_
  rintro _ _ ⟨rfl,rfl⟩
  nofun
  exact ⟨rfl,rfl⟩
 | @inn h b c n i j t a h1 h2 ih=>
  intro k K hK S
  obtain ⟨K,rfl⟩:∃ k,K=k+2:=⟨K - 2,by omega⟩
  have hl:=a.len
  have hrow:=fun S=>wJ (rs:=rs) (ps:=ps) (ih i (K:=K) (by omega) S)
  obtain ⟨d',ob⟩:=a.ok o
  obtain ⟨m,ot⟩:=wO ob h1
  have hj:=(Η.mp h2).1
  have e0:(h++[(i:Int),(j:Int)]).map D.int++[.int (k:Int)]=(h.map D.int++[.int (i:Int)])++[.int (j:Int),.int (k:Int)]:=by simp
  have e1:D.tup ((h.map D.int++[.int (i:Int)])++[.int (j:Int),.int (k:Int)])=tupI (h++[(i:Int),(j:Int),(k:Int)]):=by simp [tupI]
  rw [e0]
  generalize hq:h.map D.int++[.int (i:Int)]=q at *
  refine uU (x0:=er rs ps) (x1:=.tup (q++[.int (j:Int),.int (k:Int)])) ?_
  have hbt:callW F wh (K+1) 7 [.tup (q++[.int (j:Int),.int (k:Int)])] (fun x S'=>x=(.bl false,.st)/\S'=S) S:=by
   rw [e1]
   refine wp_mono (z9 (h++[(i:Int),(j:Int),(k:Int)]) (by omega) S) ?_
   rintro _ _ ⟨rfl,rfl⟩
   exact ⟨by rw [decide_eq_false (by simp;omega)],rfl⟩
  have hql:q.length=2*n+1:=by rw [<- hq];simp [hl]
  nofun
  refine wp_mono hbt ?_
  rintro _ _ ⟨rfl,rfl⟩
  nofun
  refine tst_F (by show (((q++[D.int (j:Int),.int (k:Int)]).length:Int)==1)=false;rw [beq_eq_false_iff_ne];simp;omega) ?_
  nofun
  rw [jt]
  refine wp_mono (hrow _) ?_
  rintro _ _ ⟨rfl,rfl⟩
  rw [h1]
  nofun
  refine tst_F (by cases t <;> rfl) ?_
  nofun
  refine wp_mono (uG ot.lfs (by omega) _) ?_
  rintro _ _ ⟨rfl,rfl⟩
  nofun
  refine zr at_m2 ?_
  nofun
  refine tst_T (decide_eq_true (by omega)) ?_
  nofun
  refine tst_T (by show decide ((j:Int) < (((bo t).map bD).length:Int))=true;rw [Ζ];exact decide_eq_true (by omega)) ?_
  nofun
  refine zr at_m2 ?_
  nofun
  have hx:subD (.tup ((bo t).map bD)) (.int (j:Int))=some (bD c):=qz (by omega) (by rw [Μ];simp [h2])
  refine zr hx ?_
  nofun
  exact ⟨rfl,rfl⟩
end
section
variable {rs:List Tr}{ps:List D}
theorem ye (hs:sizes rs<=24) {d:Nat}(o:oks rs d) {h:P}{b:List Tr}{n:Nat}(a:At rs h b n) (k:Nat) {K:Nat}(hK:54<=K) (S:Store):callW F wh K 9 [er rs ps,tupI (h++[(k:Int)])] (fun x S'=>x=(oT b[k]?,.st)/\S'=S) S:=by
 obtain ⟨K,rfl⟩:∃ k,K=k+1:=⟨K - 1,by omega⟩
 have:=a.size
 have e:tupI (h++[(k:Int)])=.tup (h.map D.int++[.int (k:Int)]):=by simp [tupI]
 rw [e]
 exact wJ (uH hs o a k (by omega) S)
end
noncomputable def wdT:Tr->Str
 | .lf w _ _=>w
 | .iff _ _ _=>"if"
 | .whl _ _=>"while"
 | .tri _ _ _=>"try"
 | .doo _ _=>"do"
noncomputable def wd:Option Tr->Str
 | none=>""
 | some t=>wdT t
theorem zaQ:∀ (t:Tr),subD t.toD (.int 0)=some (.str (wdT t))
 | .lf w x r=>qz (l:=.str w::x::r) (by decide) rfl
 | .iff _ _ _=>rfl
 | .whl _ _=>rfl
 | .tri _ _ _=>rfl
 | .doo _ _=>rfl
section
variable {rs:List Tr}{ps:List D}{p:P}{K:Nat}{S:Store}{o:Option Tr}
theorem vJ (h:callW F wh K 9 [er rs ps,tupI p] (fun x S'=>x=(oT o,.st)/\S'=S) S):callW F wh (K+1) 10 [er rs ps,tupI p] (fun x S'=>x=(.str (wd o),.st)/\S'=S) S:=by
 refine Vs (x0:=er rs ps) (x1:=tupI p) ?_
 nofun
 refine wp_mono h ?_
 rintro _ _ ⟨rfl,rfl⟩
 cases o with
 | none=>
  nofun
  exact ⟨rfl,rfl⟩
 | some t=>
  nofun
  refine tst_F (by cases t <;> rfl) ?_
  nofun
  have hd:∀ S:Store,deref S t.toD=t.toD:=fun S=>by cases t <;> rfl
  refine zr (a:=.str (wdT t)) ((congrArg (fun x=>subD x (.int 0)) (hd _)).trans (zaQ t)) ?_
  nofun
  exact ⟨rfl,rfl⟩
end
section
variable {rs:List Tr}{ps:List D}{p:P}{K:Nat}{S:Store}{o:Option Tr}
theorem zaG {q:List D}{b:List Tr}{k:Nat}(hb:callW F wh K 8 [er rs ps,.tup (q++[.int (k:Int)])] (fun x S'=>x=(bD b,.st)/\S'=S) S):callW F wh (K+1) 11 [er rs ps,.tup (q++[.int (k:Int)])] (fun x S'=>x=(.bl (decide (k=b.length)),.st)/\S'=S) S:=by
 refine Kq (x0:=er rs ps) (x1:=.tup (q++[.int (k:Int)])) ?_
 nofun
 refine wp_mono hb ?_
 rintro _ _ ⟨rfl,rfl⟩
 nofun
 refine zr at_m1 ?_
 nofun
 refine ⟨?_,rfl⟩
 have hl:=zU b
 have:((k:Int)==((rowsD b).length:Int))=decide (k=b.length):=by
  rw [d7];simp [hl];omega
 exact congrArg (fun b=>(D.bl b,Kd.st)) this
end
section
variable {rs:List Tr}{ps:List D}{p:P}{K:Nat}{S:Store}{o:Option Tr}
theorem qD {a b:Str}(h:a≠b):eqP (.str a) (.str b)=false:=by
 show (a==b)=false
 exact beq_eq_false_iff_ne.mpr h
end
section
variable {rs:List Tr}{ps:List D}{K:Nat}{S:Store}{p p':P}
theorem lenle {h:P}{b:List Tr}{n:Nat}(hs:sizes rs<=24) (a:At rs h b n):h.length<=48:=by
 have:=a.len
 have:=a.size
 omega
end
theorem vD:∀ (a b:List Int),eqPs (a.map D.int) (b.map D.int)=decide (a=b)
 | [],[]=>rfl
 | [],_::_=>rfl
 | _::_,[]=>rfl
 | x::a,y::b=>by
  show ((x==y)&&eqPs (a.map D.int) (b.map D.int))=_
  rw [vD a b,d7]
  simp
theorem jW (p:P):okP 60 (tupI p)=true:=xT 59 p
theorem v8 (a b:P):cmpD .NotEq (tupI a) (tupI b)=some (!decide (a=b)):=by
 rw [ne_op (jW a) (jW b)]
 exact congrArg (fun z=>some (!z)) (vD a b)
theorem zas:∀ {a b:P},kp a=kp b->a=b
 | [],[],_=>rfl
 | [],_::_,h=>by cases h
 | _::_,[],h=>by cases h
 | x::a,y::b,h=>by
  obtain ⟨h1,h2⟩:=aB h
  rw [cQ.inj h1,zas h2]
theorem i_d:("if":Str)≠"do":=by decide
theorem t_d:("try":Str)≠"do":=by decide
theorem ne_of {w v:Str}(h:eqP (.str w) (.str v)=false):w≠v:=fun e=>by
 subst e
 have:(w==w)=false:=h
 simp at this
section
variable {rs:List Tr}{h q:P}{b c:List Tr}{m k j N:Nat}{t:Tr}
theorem At.sub (a:At rs h b m) (h1:b[k]?=some t) (h2:(bo t)[j]?=some c):At rs (h++[(k:Int)]++[(j:Int)]) c (m+1):=by simpa using a.inn h1 h2
end
section
variable {rs:List Tr}{h q:P}{b c:List Tr}{m k j N:Nat}{t:Tr}
theorem uZ:∀ {b:List Tr}{k:Nat}{t:Tr},b[k]?=some t->sizes (b.drop k)=t.size+sizes (b.drop (k+1))
 | [],k,t,h=>by simp at h
 | r::b,0,t,h=>by cases h;rfl
 | r::b,k+1,t,h=>uZ (b:=b) (k:=k) (by simpa using h)
end
theorem kh:∀ (p:P),kInts (kp p)=some p
 | []=>rfl
 | i::p=>by
  show (kInts (kp p)).map (i::·)=_
  rw [kh p];rfl
theorem za1 {ks:List (List Key)}{vs:List D}{ps:List P}(h:yO ks=some ps) (hl:ps.length < 128):biD .sorted [.dT ks vs]=some (.lst ((sortL ps).map tupI),true):=by
 show (yO ks).bind (fun ks=>if decide (ks.length < 128)=true then some (D.lst ((sortL ks).map tupI),true) else none)=_
 rw [h]
 show (if decide (ps.length < 128)=true then _ else _)=_
 rw [if_pos (decide_eq_true hl)]
noncomputable abbrev U:=P×Nat×Tr
inductive AtU (rs:List Tr):P->List Tr->Nat->List U->Prop
 | top:AtU rs [] rs 0 []
 | inn {h:P}{b c:List Tr}{n i j:Nat}{t:Tr}{us:List U}:AtU rs h b n us->b[i]?=some t->(bo t)[j]?=some c->AtU rs (h++[(i:Int),(j:Int)]) c (n+1) ((h++[(i:Int)],j,t)::us)
theorem AtU.at {rs:List Tr}{h:P}{b:List Tr}{n:Nat}{us:List U}(a:AtU rs h b n us):At rs h b n:=by
 induction a with
 | top=>exact .top
 | inn _ h1 h2 ih=>exact ih.inn h1 h2
theorem AtU.len {rs:List Tr}{h:P}{b:List Tr}{n:Nat}{us:List U}(a:AtU rs h b n us):us.length=n:=by
 induction a with
 | top=>rfl
 | inn _ _ _ ih=>simp [ih]
noncomputable def uD (u:U):D:=.tup [tupI u.1,.int (u.2.1:Int)]
inductive Ar (rs:List Tr):P->List U->Prop
 | row {h:P}{b:List Tr}{n k:Nat}{us:List U}:AtU rs h b n us->(∀ q t us',us=(q,1,t)::us'->wdT t="do"->k≠b.length)->Ar rs (h++[(k:Int)]) us
 | und {h:P}{b c:List Tr}{n i:Nat}{t:Tr}{us:List U}:AtU rs h b n us->b[i]?=some t->wdT t="do"->(bo t)[1]?=some c->Ar rs (h++[(i:Int)]++[1]++[(c.length:Int)]) us
 | btw {h:P}{b:List Tr}{n k:Nat}{t:Tr}{us:List U}{x:Int}:AtU rs h b n us->b[k]?=some t->wdT t≠"do"->Ar rs (h++[(k:Int)]++[x]) us
 | btd {h:P}{b:List Tr}{n k:Nat}{t:Tr}{us:List U}{x:Int}:AtU rs h b n us->b[k]?=some t->wdT t="do"->Ar rs (h++[(k:Int)]++[x]) ((h++[(k:Int)],1,t)::us)
section
variable {rs:List Tr}{ps:List D}{K:Nat}{S:Store}{V:Po}
theorem XM {h:P}{b:List Tr}{n:Nat}{us:List U}(a:AtU rs h b n us) {acc:List U}{kx:Int}{x0:D}(hl:acc.length<=10) (hn:n<=24) (q:V (.lst ((acc++us).map uD),.fr) S):
  wpCs (callW F wh K) wh (qj.drop 3) [.sh x0,.sh (.tup (h.map D.int++[.int kx])),.ow (.lst (acc.map uD))] (told V) S:=by
 have hlen:=a.len
 show wpCs _ _ [_,_] _ _ _
 nofun
 refine jH (fun m ρ S'=>∃ (h:P) (b:List Tr) (us' acc':List U) (kx:Int),AtU rs h b m us'/\ρ=[.sh x0,.sh (.tup (h.map D.int++[.int kx])),.ow (.lst (acc'.map uD))]/\acc'++us'=acc++us/\S'=S) ?_ _ n _ _ (by show n < 400;omega) ⟨h,b,us,acc,kx,a,rfl,rfl,rfl⟩
 rintro m ρ S' ⟨h,b,us',acc',kx,a,rfl,e,rfl⟩
 simp only [wpE]
 nofun
 have hle:=congrArg dR e
 simp only [Α] at hle
 cases a with
 | top=>
  nofun
  rw [Ϣ] at e
  subst e
  exact q
 | @inn h b c n i j t us0 a h1 h2=>
  have z:=a.len
  have e0:(h++[(i:Int),(j:Int)]).map D.int++[D.int kx]=(h.map D.int++[.int (i:Int)])++[.int (j:Int),.int kx]:=by simp
  have e1:D.tup (h.map D.int++[.int (i:Int)])=tupI (h++[(i:Int)]):=by simp [tupI]
  rw [e0]
  refine tst_T (by show decide ((1:Int) < (((h.map D.int++[D.int (i:Int)])++[D.int (j:Int),D.int kx]).length:Int))=true;exact decide_eq_true (by simp;omega)) ?_
  refine ⟨n,rfl,?_⟩
  nofun
  rw [jt]
  refine zr at_m2 ?_
  nofun
  refine ⟨h,b,us0,acc'++[(h++[(i:Int)],j,t)],(i:Int),a,?_,by rw [<- e];simp,rfl⟩
  rw [jt,ϩ,e1]
  rfl
end
section
variable {rs:List Tr}{ps:List D}{K:Nat}{S:Store}{p:P}{us:List U}
theorem qg {a b:Int}(h:a≠b):eqP (.int a) (.int b)=false:=beq_eq_false_iff_ne.mpr h
theorem Z7 (hs:sizes rs<=24) {d:Nat}(o:oks rs d) (ar:Ar rs p us) (hK:57<=K):callW F wh K 12 [er rs ps,tupI p] (fun x S'=>x=(.lst (us.map uD),.fr)/\S'=S) S:=by
 obtain ⟨K,rfl⟩:∃ k,K=k+1:=⟨K - 1,by omega⟩
 cases ar with
 | @row h b n k us a hne=>
  have hl:=a.at.len
  have hsz:=a.at.size
  have e1:tupI (h++[(k:Int)])=.tup (h.map D.int++[.int (k:Int)]):=by simp [tupI]
  have fin:=XM (K:=K) (S:=S) (V:=fun x S'=>x=(.lst (us.map uD),.fr)/\S'=S) a (acc:=[]) (kx:=(k:Int)) (x0:=er rs ps) (by simp) (by omega) ⟨rfl,rfl⟩
  have hbt:=z9 (h++[(k:Int)]) (K:=K) (by omega) S
  rw [decide_eq_false (by simp;omega)] at hbt
  rw [e1] at hbt ⊢
  cases a with
  | top=>
   refine xF (x0:=er rs ps) (x1:=.tup [.int (k:Int)]) ?_
   nofun
   refine wp_mono hbt ?_
   rintro _ _ ⟨rfl,rfl⟩
   repeat first | exact fin | infer_instance
  | @inn h b c n i j t us0 a h1 h2=>
   have r1:=ye (ps:=ps) hs o a.at i (K:=K - 1) (by omega) S
   rw [h1] at r1
   have w1:=vJ r1
   rw [show K - 1+1=K by omega,show tupI (h++[(i:Int)])=.tup (h.map D.int++[.int (i:Int)]) by simp [tupI]] at w1
   have ee:=zaG (uH (ps:=ps) hs o (a.inn h1 h2).at k (K:=K - 1) (by omega) S)
   rw [show K - 1+1=K by omega] at ee
   have e0:(h++[(i:Int),(j:Int)]).map D.int++[D.int (k:Int)]=(h.map D.int++[.int (i:Int)])++[.int (j:Int),.int (k:Int)]:=by simp
   rw [e0] at fin hbt ee ⊢
   generalize hq:h.map D.int++[.int (i:Int)]=q at *
   refine xF (x0:=er rs ps) (x1:=.tup (q++[.int (j:Int),.int (k:Int)])) ?_
   nofun
   refine wp_mono hbt ?_
   rintro _ _ ⟨rfl,rfl⟩
   nofun
   refine tst_T (decide_eq_true (by simp;omega)) ?_
   nofun
   refine zr at_m2 ?_
   nofun
   by_cases hj:j=1
   ·subst hj
    nofun
    rw [jt]
    refine wp_mono w1 ?_
    rintro _ _ ⟨rfl,rfl⟩
    nofun
    by_cases ht:wdT t="do"
    ·refine tst_T (by show (wdT t=="do")=true;rw [ht];rfl) ?_
     nofun
     refine wp_mono ee ?_
     rintro _ _ ⟨rfl,rfl⟩
     refine tst_F (decide_eq_false (hne _ t us0 rfl ht)) ?_
     repeat first | exact fin | infer_instance
    ·refine tst_F (qD ht) ?_
     repeat first | exact fin | infer_instance
   ·refine tst_F (qg (by omega)) ?_
    repeat first | exact fin | infer_instance
 | @und h b c n i t us a h1 ht h2=>
  have hl:=a.at.len
  have hsz:=(a.at.sub h1 h2).size
  have fin:=XM (K:=K) (S:=S) (V:=fun x S'=>x=(.lst (us.map uD),.fr)/\S'=S) a (acc:=[]) (kx:=(i:Int)) (x0:=er rs ps) (by simp) (by omega) ⟨rfl,rfl⟩
  have hbt:=z9 (h++[(i:Int)]++[1]++[(c.length:Int)]) (K:=K) (by omega) S
  rw [decide_eq_false (by simp;omega)] at hbt
  have r1:=ye (ps:=ps) hs o a.at i (K:=K - 1) (by omega) S
  rw [h1] at r1
  have w1:=vJ r1
  rw [show K - 1+1=K by omega,show tupI (h++[(i:Int)])=.tup (h.map D.int++[.int (i:Int)]) by simp [tupI]] at w1
  have ee:=zaG (uH (ps:=ps) hs o (a.inn h1 h2).at c.length (K:=K - 1) (by omega) S)
  rw [show K - 1+1=K by omega,decide_eq_true rfl] at ee
  have e0:(h++[(i:Int),((1:Nat):Int)]).map D.int++[D.int (c.length:Int)]=(h.map D.int++[.int (i:Int)])++[.int 1,.int (c.length:Int)]:=by simp
  have e1:tupI (h++[(i:Int)]++[1]++[(c.length:Int)])=.tup ((h.map D.int++[.int (i:Int)])++[.int 1,.int (c.length:Int)]):=by simp [tupI]
  rw [e0] at ee
  rw [e1] at hbt ⊢
  generalize hq:h.map D.int++[.int (i:Int)]=q at *
  refine xF (x0:=er rs ps) (x1:=.tup (q++[.int 1,.int (c.length:Int)])) ?_
  nofun
  refine wp_mono hbt ?_
  rintro _ _ ⟨rfl,rfl⟩
  nofun
  refine tst_T (decide_eq_true (by simp;omega)) ?_
  nofun
  refine zr at_m2 ?_
  nofun
  rw [jt]
  refine wp_mono w1 ?_
  rintro _ _ ⟨rfl,rfl⟩
  nofun
  refine tst_T (by show (wdT t=="do")=true;rw [ht];rfl) ?_
  nofun
  refine wp_mono ee ?_
  rintro _ _ ⟨rfl,rfl⟩
  nofun
  rw [jt]
  exact fin
 | @btw h b n k t us x a h1 ht=>
  have hl:=a.at.len
  have hsz:=a.at.size
  have fin:=XM (K:=K) (S:=S) (V:=fun x S'=>x=(.lst (us.map uD),.fr)/\S'=S) a (acc:=[]) (kx:=(k:Int)) (x0:=er rs ps) (by simp) (by omega) ⟨rfl,rfl⟩
  have hbt:=z9 (h++[(k:Int)]++[x]) (K:=K) (by omega) S
  rw [decide_eq_true (by simp;omega)] at hbt
  have r1:=ye (ps:=ps) hs o a.at k (K:=K - 1) (by omega) S
  rw [h1] at r1
  have w1:=vJ r1
  rw [show K - 1+1=K by omega,show tupI (h++[(k:Int)])=.tup (h.map D.int++[.int (k:Int)]) by simp [tupI]] at w1
  have e1:tupI (h++[(k:Int)]++[x])=.tup ((h.map D.int++[.int (k:Int)])++[.int x]):=by simp [tupI]
  rw [e1] at hbt ⊢
  refine xF (x0:=er rs ps) (x1:=.tup ((h.map D.int++[.int (k:Int)])++[.int x])) ?_
  nofun
  refine wp_mono hbt ?_
  rintro _ _ ⟨rfl,rfl⟩
  nofun
  rw [zaJ]
  refine wp_mono w1 ?_
  rintro _ _ ⟨rfl,rfl⟩
  nofun
  refine tst_F (qD ht) ?_
  repeat first | exact fin | infer_instance
 | @btd h b n k t us x a h1 ht=>
  have hl:=a.at.len
  have hsz:=a.at.size
  have fin:=XM (K:=K) (S:=S) (V:=fun x S'=>x=(.lst (((h++[(k:Int)],1,t)::us).map uD),.fr)/\S'=S) a (acc:=[(h++[(k:Int)],1,t)]) (kx:=(k:Int)) (x0:=er rs ps) (by simp) (by omega) ⟨rfl,rfl⟩
  have hbt:=z9 (h++[(k:Int)]++[x]) (K:=K) (by omega) S
  rw [decide_eq_true (by simp;omega)] at hbt
  have r1:=ye (ps:=ps) hs o a.at k (K:=K - 1) (by omega) S
  rw [h1] at r1
  have w1:=vJ r1
  have e2:tupI (h++[(k:Int)])=.tup (h.map D.int++[.int (k:Int)]):=by simp [tupI]
  rw [show K - 1+1=K by omega,e2] at w1
  have e1:tupI (h++[(k:Int)]++[x])=.tup ((h.map D.int++[.int (k:Int)])++[.int x]):=by simp [tupI]
  have e3:[((h++[(k:Int)],1,t):U)].map uD=[.tup [.tup (h.map D.int++[.int (k:Int)]),.int 1]]:=by
   show [D.tup [tupI (h++[(k:Int)]),.int ((1:Nat):Int)]]=_
   rw [e2];rfl
  rw [e3] at fin
  rw [e1] at hbt ⊢
  refine xF (x0:=er rs ps) (x1:=.tup ((h.map D.int++[.int (k:Int)])++[.int x])) ?_
  nofun
  refine wp_mono hbt ?_
  rintro _ _ ⟨rfl,rfl⟩
  nofun
  rw [zaJ]
  refine wp_mono w1 ?_
  rintro _ _ ⟨rfl,rfl⟩
  nofun
  refine tst_T (by show (wdT t=="do")=true;rw [ht];rfl) ?_
  repeat first | exact fin | infer_instance
end
mutual
noncomputable def dpr:Tr->P->List P
 | .lf _ _ _,_=>[]
 | .iff _ b c,p=>dps b (p++[0]) 0++dps c (p++[1]) 0
 | .whl _ b,p=>dps b (p++[0]) 0
 | .tri b _ c,p=>dps b (p++[0]) 0++dps c (p++[1]) 0
 | .doo b c,p=>p::(dps b (p++[0]) 0++dps c (p++[1]) 0)
noncomputable def dps:List Tr->P->Nat->List P
 | [],_,_=>[]
 | r::l,h,i=>dpr r (h++[(i:Int)])++dps l h (i+1)
end
noncomputable def dbs:List (List Tr)->P->Nat->List P
 | [],_,_=>[]
 | b::bs,p,j=>dps b (p++[(j:Int)]) 0++dbs bs p (j+1)
noncomputable def own:Tr->P->List P
 | .doo _ _,p=>[p]
 | _,_=>[]
theorem JL:∀ (t:Tr) (p:P),dpr t p=own t p++dbs (bo t) p 0
 | .lf _ _ _,p=>by simp [dpr,own,dbs,bo]
 | .iff _ b c,p=>by simp [dpr,own,dbs,bo]
 | .whl _ b,p=>by simp [dpr,own,dbs,bo]
 | .tri b _ c,p=>by simp [dpr,own,dbs,bo]
 | .doo b c,p=>by simp [dpr,own,dbs,bo]
mutual
theorem zcg:∀ (t:Tr) (p:P),(dpr t p).length<=t.size
 | .lf _ _ _,p=>by simp [dpr]
 | .iff _ b c,p=>by
  have h1:=yg b (p++[0]) 0
  have h2:=yg c (p++[1]) 0
  simp only [dpr,Tr.size,Α];omega
 | .whl _ b,p=>by
  have h1:=yg b (p++[0]) 0
  simp only [dpr,Tr.size];omega
 | .tri b _ c,p=>by
  have h1:=yg b (p++[0]) 0
  have h2:=yg c (p++[1]) 0
  simp only [dpr,Tr.size,Α];omega
 | .doo b c,p=>by
  have h1:=yg b (p++[0]) 0
  have h2:=yg c (p++[1]) 0
  simp only [dpr,Tr.size,Α,Ϟ];omega
theorem yg:∀ (l:List Tr) (h:P) (i:Nat),(dps l h i).length<=sizes l
 | [],_,_=>ν _
 | r::l,h,i=>by
  have h1:=zcg r (h++[(i:Int)])
  have h2:=yg l h (i+1)
  simp only [dps,sizes,Α];omega
end
theorem JQ:∀ (bs:List (List Tr)) (p:P) (j:Nat),(dbs bs p j).length<=zK bs
 | [],_,_=>ν _
 | b::bs,p,j=>by
  have h1:=yg b (p++[(j:Int)]) 0
  have h2:=JQ bs p (j+1)
  simp only [dbs,zK,Α];omega
theorem JR:∀ (a b:List (List Tr)) (p:P) (j:Nat),dbs (a++b) p j=dbs a p j++dbs b p (j+a.length)
 | [],b,p,j=>by simp [dbs]
 | x::a,b,p,j=>by
  show dps x (p++[(j:Int)]) 0++dbs (a++b) p (j+1)=dps x (p++[(j:Int)]) 0++dbs a p (j+1)++dbs b p (j+(a.length+1))
  rw [JR a b,π,show j+1+a.length=j+(a.length+1) by omega]
theorem JK:∀ (a b:List Tr) (h:P) (i:Nat),dps (a++b) h i=dps a h i++dps b h (i+a.length)
 | [],b,h,i=>by simp [dps]
 | x::a,b,h,i=>by
  show dpr x (h++[(i:Int)])++dps (a++b) h (i+1)=dpr x (h++[(i:Int)])++dps a h (i+1)++dps b h (i+(a.length+1))
  rw [JK a b,π,show i+1+a.length=i+(a.length+1) by omega]
theorem YT {x:P}:∀ {l:List Tr}{h:P}{i j:Nat}{t:Tr},l[j]?=some t->x∈dpr t (h++[((i+j:Nat):Int)])->x∈dps l h i
 | [],h,i,j,t,e,_=>by simp at e
 | r::l,h,i,0,t,e,m=>by cases e;exact Τ.mpr (.inl m)
 | r::l,h,i,j+1,t,e,m=>Τ.mpr (.inr (YT (by simpa using e) (by rw [show i+1+j=i+(j+1) by omega];exact m)))
theorem JP {x:P}:∀ {l:List (List Tr)}{h:P}{i j:Nat}{c:List Tr},l[j]?=some c->x∈dps c (h++[((i+j:Nat):Int)]) 0->x∈dbs l h i
 | [],h,i,j,t,e,_=>by simp at e
 | r::l,h,i,0,t,e,m=>by cases e;exact Τ.mpr (.inl m)
 | r::l,h,i,j+1,t,e,m=>Τ.mpr (.inr (JP (by simpa using e) (by rw [show i+1+j=i+(j+1) by omega];exact m)))
theorem At.dos {rs:List Tr}{h:P}{b:List Tr}{n:Nat}(a:At rs h b n) {x:P}:x∈dps b h 0->x∈dps rs [] 0:=by
 induction a with
 | top=>exact id
 | @inn h b c n i j t a h1 h2 ih=>
  intro m
  refine ih (YT h1 ?_)
  rw [bL,JL]
  exact Τ.mpr (.inr (JP h2 (by rw [bL];simpa using m)))
theorem do_in {rs:List Tr}{h:P}{b:List Tr}{n i:Nat}{t:Tr}(a:At rs h b n) (h1:b[i]?=some t) (ht:wdT t="do") (hl:Lfs t):h++[(i:Int)]∈dps rs [] 0:=by
 refine a.dos (YT h1 ?_)
 rw [bL,JL]
 refine Τ.mpr (.inl ?_)
 cases t with
 | doo b c=>exact Θ.mpr rfl
 | lf w x r=>
  have hl:Lw w:=hl
  exact absurd ht (ne_of hl.fd)
 | iff _ _ _=>exact absurd ht i_d
 | whl _ _=>exact absurd (show ("while":Str)="do" from ht) (by decide)
 | tri _ _ _=>exact absurd ht t_d
def DpAt (K n:Nat):Prop:=∀ (l:List Tr) (h:P) (d:Nat) (S:Store),oks l d->sizes l<=n->h.length+2*n<=100->callW F wh K 15 [bD l,tupI h] (fun x S'=>x=(.lst ((dps l h 0).map tupI),.fr)/\S'=S) S
noncomputable def dpB:List C:=match xx with
 | [_,.forr _ _ b,_]=>b
 | _=>[]
section
variable {K n:Nat}{V:Ko}{I:List Slot->Store->Prop}{x0 x5 x6:Slot}{h:P}{t:Tr}{S:Store}
theorem QK (hb:1<=n->DpAt K (n - 1)) (hK:1<=K) {m i:Nat}(o:t.Ok m) (hs:t.size<=n) (hn:n<=24) (hp:h.length+2*n<=100) {acc:List P}(ha:acc.length<=1000)
  (q:∀ x3 x4 x5 x6,I [x0,.sh (tupI h),.ow (.lst ((acc++dpr t (h++[(i:Int)])).map tupI)),x3,x4,x5,x6] S):
  wpCs (callW F wh K) wh dpB [x0,.sh (tupI h),.ow (.lst (acc.map tupI)),.sh (.int (i:Int)),.sh t.toD,x5,x6] (trn V I) S:=by
 have hz:=size_eq t
 have hl2:=zaM t
 have ho:=ok_bo o
 have fin:∀ acc':List P,acc'=acc++own t (h++[(i:Int)])->acc'.length<=1001->wpCs (callW F wh K) wh (dpB.drop 1) [x0,.sh (tupI h),.ow (.lst (acc'.map tupI)),.sh (.int (i:Int)),.sh t.toD,x5,x6] (trn V I) S:=fun acc' ea hl=>by
  show wpCs _ _ [_] _ _ _
  nofun
  refine wp_mono (uG o.lfs hK S) ?_
  rintro _ S ⟨rfl,rfl⟩
  nofun
  refine wp_walk (fun l ρ S'=>S'=S/\∃ (b1 b2:List (List Tr)) (x5 x6:Slot),bo t=b1++b2/\l=enumD b1.length (b2.map bD)/\ρ=[x0,.sh (tupI h),.ow (.lst ((acc'++dbs b1 (h++[(i:Int)]) 0).map tupI)),.sh (.int (i:Int)),.sh t.toD,x5,x6]) ?_ ?_ _ _ _ ⟨rfl,[],bo t,x5,x6,rfl,rfl,by simp [dbs]⟩
  ·rintro d1 l ρ S' ⟨rfl,b1,b2,x5,x6,eb,el,rfl⟩
   cases b2 with
   | nil=>cases el
   | cons c b2=>
    cases el
    have hc:c∈bo t:=by rw [eb];simp
    have hl1:=JQ b1 (h++[(i:Int)]) 0
    have hl5:=yg c (h++[(i:Int),(b1.length:Int)]) 0
    have hsb:=hz
    rw [eb,wz] at hsb
    have hsb:t.size=1+(zK b1+(sizes c+zK b2)):=hsb
    have hlb:b1.length+(b2.length+1)<=2:=by rw [eb] at hl2;simpa using hl2
    refine zO (a:=[x0,.sh (tupI h),.ow (.lst ((acc'++dbs b1 (h++[(i:Int)]) 0).map tupI)),.sh (.int (i:Int)),.sh t.toD,.sh (.int (b1.length:Int)),.sh (bD c)]) rfl ?_
    nofun
    rw [show h.map D.int++[D.int (i:Int),.int (b1.length:Int)]=(h++[(i:Int),(b1.length:Int)]).map D.int by simp]
    refine wp_mono (hb (by omega) c (h++[(i:Int),(b1.length:Int)]) m S' (ho c hc) (by omega) (by simp;omega)) ?_
    rintro _ _ ⟨rfl,rfl⟩
    nofun
    refine ⟨rfl,b1++[c],b2,.sh (.int (b1.length:Int)),.sh (bD c),by rw [eb];simp,by simp,?_⟩
    rw [JR,<- ϩ,π]
    simp [dbs]
  ·rintro ρ S' ⟨rfl,b1,b2,x5,x6,eb,el,rfl⟩
   have e2:b2=[]:=by
    cases b2 with
    | nil=>rfl
    | cons _ _=>cases el
   subst e2
   rw [Ϣ] at eb
   subst eb
   have:=q (.sh (.int (i:Int))) (.sh t.toD) x5 x6
   rw [JL,<- π,<- ea] at this
   exact this
 show wpCs _ _ [_,_] [x0,.sh (.tup (h.map D.int)),.ow (.lst (acc.map tupI)),.sh (.int (i:Int)),.sh t.toD,x5,x6] _ _
 cases t with
 | lf w x r=>
  have hl:Lw w:=o.1
  have fin:=fin acc (by simp [own]) (by omega)
  nofun
  refine tst_F hl.fd ?_
  repeat first | exact fin | infer_instance
 | iff e b c=>
  have fin:=fin acc (by simp [own]) (by omega)
  repeat first | exact fin | infer_instance
 | whl e b=>
  have fin:=fin acc (by simp [own]) (by omega)
  repeat first | exact fin | infer_instance
 | tri b x c=>
  have fin:=fin acc (by simp [own]) (by omega)
  repeat first | exact fin | infer_instance
 | doo b c=>
  have fin:=fin (acc++[h++[(i:Int)]]) rfl (by simp;omega)
  have fin2:wpCs (callW F wh K) wh (dpB.drop 1) [x0,.sh (tupI h),.ow (.lst (acc.map tupI++[.tup (h.map D.int++[.int (i:Int)])])),.sh (.int (i:Int)),.sh (Tr.doo b c).toD,x5,x6] (trn V I) S:=by
   rw [zy]
   rw [ϩ] at fin
   exact fin
  repeat first | exact fin2 | infer_instance
end
theorem dp_go {n K:Nat}(hn:n<=24) (hb:1<=n->DpAt K (n - 1)) (hK:1<=K):DpAt (K+1) n:=by
 intro l h d S o hs hh
 refine Yd (x0:=.tup (rowsD l)) (x1:=tupI h) ?_
 nofun
 refine wp_walk (fun m ρ S'=>S'=S/\∃ (l1 l2:List Tr) (x3 x4 x5 x6:Slot),l=l1++l2/\m=enumD l1.length (l2.map Tr.toD)/\ρ=[.sh (.tup (rowsD l)),.sh (tupI h),.ow (.lst ((dps l1 h 0).map tupI)),x3,x4,x5,x6]) ?_ ?_ _ _ _ ⟨rfl,[],l,.no,.no,.no,.no,rfl,by rw [yI];rfl,rfl⟩
 ·rintro d1 m ρ S' ⟨rfl,l1,l2,x3,x4,x5,x6,e1,em,rfl⟩
  cases l2 with
  | nil=>cases em
  | cons r l2=>
   cases em
   have ol:=o
   rw [e1] at ol hs
   obtain ⟨_,o2⟩:=jV l1 (r::l2) ol
   obtain ⟨m',or⟩:=Yp o2
   rw [yH] at hs
   have hs:sizes l1+(r.size+sizes l2)<=n:=hs
   have hl1:=yg l1 h 0
   refine zO (a:=[.sh (.tup (rowsD l)),.sh (tupI h),.ow (.lst ((dps l1 h 0).map tupI)),.sh (.int (l1.length:Int)),.sh r.toD,x5,x6]) rfl ?_
   refine QK (t:=r) hb hK or (by omega) hn hh (by omega) fun x3 x4 x5 x6=>?_
   refine ⟨rfl,l1++[r],l2,x3,x4,x5,x6,by rw [e1];simp,by simp,?_⟩
   rw [JK]
   simp [dps]
 ·rintro ρ S' ⟨rfl,l1,l2,x3,x4,x5,x6,e1,em,rfl⟩
  have e2:l2=[]:=by
   cases l2 with
   | nil=>rfl
   | cons _ _=>cases em
  subst e2
  rw [Ϣ] at e1
  subst e1
  nofun
  exact ⟨rfl,rfl⟩
theorem dp_at:∀ (n K:Nat),n<=24->n+3<=K->DpAt K n:=by
 intro n
 induction n with
 | zero=>
  intro K hn hK
  obtain ⟨K,rfl⟩:∃ k,K=k+1:=⟨K - 1,by omega⟩
  exact dp_go hn (fun h=>absurd h (by decide)) (by omega)
 | succ n ih=>
  intro K hn hK
  obtain ⟨K,rfl⟩:∃ k,K=k+1:=⟨K - 1,by omega⟩
  exact dp_go hn (fun h=>ih K (by omega) (by omega)) (by omega)
theorem zay:∀ {l:List P}{p:P},p∈l->∃ i:Nat,idxD (l.map tupI) (tupI p)=some i/\l[i]?=some p
 | [],p,h=>absurd h dC
 | q::l,p,h=>by
  have e:eqP (tupI q) (tupI p)=decide (q=p):=vD q p
  by_cases hq:q=p
  ·refine ⟨0,?_,by rw [hq];rfl⟩
   show (if eqP (tupI q) (tupI p)=true then some 0 else (idxD (l.map tupI) (tupI p)).map (·+1))=_
   rw [e,decide_eq_true hq];rfl
  ·obtain ⟨i,h1,h2⟩:=zay ((Ξ.mp h).resolve_left fun z=>hq z.symm)
   refine ⟨i+1,?_,by simpa using h2⟩
   show (if eqP (tupI q) (tupI p)=true then some 0 else (idxD (l.map tupI) (tupI p)).map (·+1))=_
   rw [e,decide_eq_false hq,h1];rfl
theorem v4 (n:Nat):∀ l:List P,okPs (n+1) (l.map tupI)=true
 | []=>rfl
 | p::l=>by
  show (okPs n (p.map D.int)&&okPs (n+1) (l.map tupI))=true
  rw [xT,v4 n l];rfl
section
variable {rs:List Tr}{ps:List D}{K:Nat}{S:Store}{p:P}{us:List U}
theorem Wq (hs:sizes rs<=24) {d:Nat}(o:oks rs d) {k:Nat}(hk:(dps rs [] 0)[k]?=some p) (hK:28<=K):callW F wh K 16 [er rs ps,.int (k:Int)] (fun x S'=>x=(tupI p,.st)/\S'=S) S:=by
 obtain ⟨K,rfl⟩:∃ k,K=k+1:=⟨K - 1,by omega⟩
 refine zaS (x0:=er rs ps) (x1:=.int (k:Int)) ?_
 nofun
 refine wp_mono (dp_at 24 K (by decide) (by omega) rs [] d S o hs (by decide)) ?_
 rintro _ _ ⟨rfl,rfl⟩
 nofun
 have hx:subD (.lst ((dps rs [] 0).map tupI)) (.int (k:Int))=some (tupI p):=Zc (by omega) (by rw [Μ];simp [hk])
 refine zr hx ?_
 nofun
 exact ⟨rfl,rfl⟩
def Nr (rs:List Tr) (q:P) (i:Nat):Prop:=(dps rs [] 0)[i]?=some q
theorem qX (hs:sizes rs<=24) {d:Nat}(o:oks rs d) (hp:p∈dps rs [] 0) (hK:28<=K):callW F wh K 17 [er rs ps,tupI p] (fun x S'=>(∃ i:Nat,x=(.int (i:Int),.st)/\Nr rs p i)/\S'=S) S:=by
 obtain ⟨K,rfl⟩:∃ k,K=k+1:=⟨K - 1,by omega⟩
 obtain ⟨i,h1,h2⟩:=zay hp
 refine Yc (x0:=er rs ps) (x1:=tupI p) ?_
 nofun
 refine wp_mono (dp_at 24 K (by decide) (by omega) rs [] d S o hs (by decide)) ?_
 rintro _ _ ⟨rfl,rfl⟩
 nofun
 refine tst_T rfl ?_
 nofun
 refine opv_s (d:=.int (i:Int)) ?_ ?_
 ·show (if (okPs 59 ((dps rs [] 0).map tupI)&&okP 59 (tupI p))=true then (idxD ((dps rs [] 0).map tupI) (tupI p)).map (fun (i:Nat)=>(D.int (i:Int),false)) else none)=_
  rw [v4,show okP 59 (tupI p)=true from xT 58 p,h1];rfl
 ·nofun
  exact ⟨⟨i,rfl,h2⟩,rfl⟩
def FR (rs:List Tr):List U->Vl->Prop
 | [],x=>x=(.non,.st)
 | (q,0,.tri _ e _)::_,x=>x=(.tup [.str "catch",e,tupI (q++[1,0])],.st)
 | (q,0,.doo _ _)::_,x=>∃ i:Nat,Nr rs q i/\x=(.tup [.str "undo",.int (i:Int),tupI (q++[1])],.st)
 | (q,_+1,.doo _ c)::_,x=>∃ i:Nat,Nr rs q i/\x=(.tup [.str "undo",.int (i:Int),tupI (q++[1,(c.length:Int)])],.st)
 | _::us,x=>FR rs us x
theorem AtU.split {h:P}{b:List Tr}{n:Nat}(a:AtU rs h b n us):∀ {pre us':List U}{q:P}{j:Nat}{t:Tr},us=pre++(q,j,t)::us'->∃ (h0:P) (b0:List Tr) (n0 i:Nat) (c:List Tr),AtU rs h0 b0 n0 us'/\q=h0++[(i:Int)]/\b0[i]?=some t/\(bo t)[j]?=some c:=by
 induction a with
 | top=>intro pre us' q j t e;simp at e
 | @inn h b c n i j t us a h1 h2 ih=>
  intro pre us' q j' t' e
  cases pre with
  | nil=>
   cases e
   exact ⟨h,b,n,i,c,a,rfl,h1,h2⟩
  | cons u pre=>exact ih (aB e).2
theorem Ar.at {rs:List Tr}{p:P}{us:List U}(ar:Ar rs p us) (hd:∀ t,wdT t="do"->Lfs t->∃ b c,t=Tr.doo b c) {d:Nat}(o:oks rs d):∃ h b n,AtU rs h b n us:=by
 cases ar with
 | row a _=>exact ⟨_,_,_,a⟩
 | und a _ _ _=>exact ⟨_,_,_,a⟩
 | btw a _ _=>exact ⟨_,_,_,a⟩
 | @btd h b n k t us x a h1 ht=>
  obtain ⟨d',ob⟩:=a.at.ok o
  obtain ⟨m,ot⟩:=wO ob h1
  obtain ⟨b1,c1,rfl⟩:=hd t ht ot.lfs
  exact ⟨_,_,_,AtU.inn (j:=1) a h1 (c:=c1) rfl⟩
theorem jr (t:Tr) (ht:wdT t="do") (hl:Lfs t):∃ b c,t=Tr.doo b c:=by
 cases t with
 | doo b c=>exact ⟨b,c,rfl⟩
 | lf w x r=>
  have hl:Lw w:=hl
  exact absurd ht (ne_of hl.fd)
 | iff _ _ _=>exact absurd ht i_d
 | whl _ _=>exact absurd (show ("while":Str)="do" from ht) (by decide)
 | tri _ _ _=>exact absurd ht t_d
end
theorem wD {α:Type}{s:D->(Option D->Store->Prop)->Store->Prop}{enc:α->D}{sel:α->Option D}{V:List D->Store->Prop}{S:Store}:∀ (xs:List α) (acc:List D),acc.length+xs.length<=1000->(∀ x∈xs,∀ Q:Option D->Store->Prop,Q (sel x) S->s (enc x) Q S)->V (acc++xs.filterMap sel) S->walkW s (xs.map enc) acc V S
 | [],acc,_,_,v=>by
  rw [List.filterMap_nil,Ϣ] at v
  exact v
 | x::xs,acc,hl,h,v=>by
  refine h x ς _ ?_
  have hl:acc.length+(xs.length+1)<=1000:=hl
  cases e:sel x with
  | none=>
   rw [cI e] at v
   exact wD xs acc (by omega) (fun y hy=>h y (ι _ hy)) v
  | some d=>
   rw [cH e] at v
   refine tst_T (fits_of (by omega)) (wD xs (acc++[d]) (by simp;omega) (fun y hy=>h y (ι _ hy)) ?_)
   simpa using v
section
variable {rs:List Tr}{ps:List D}{K:Nat}{S:Store}{p:P}{us:List U}
theorem QF {q:P}(hl:q.length<=100) (hK:1<=K):callW F wh K 6 [tupI q,.int 1] (fun x S'=>x=(tupI (q++[1,0]),.st)/\S'=S) S:=by
 obtain ⟨K,rfl⟩:∃ k,K=k+1:=⟨K - 1,by omega⟩
 refine WK (x0:=.tup (q.map D.int)) (x1:=.int 1) ?_
 nofun
 exact ⟨by simp [tupI],rfl⟩
theorem fr_lf {q:P}{j:Nat}{w:Str}{e:D}{r:List D}{x:Vl}(h:FR rs us x):FR rs ((q,j,.lf w e r)::us) x:=by cases j <;> exact h
theorem zep {q:P}{j:Nat}{e:D}{b c:List Tr}{x:Vl}(h:FR rs us x):FR rs ((q,j,.iff e b c)::us) x:=by cases j <;> exact h
theorem zen {q:P}{j:Nat}{e:D}{b:List Tr}{x:Vl}(h:FR rs us x):FR rs ((q,j,.whl e b)::us) x:=by cases j <;> exact h
theorem zeo {q:P}{j:Nat}{e:D}{b c:List Tr}{x:Vl}(h:FR rs us x):FR rs ((q,j+1,.tri b e c)::us) x:=h
theorem JC (hs:sizes rs<=24) {d:Nat}(o:oks rs d) (ar:Ar rs p us) (hK:58<=K):callW F wh K 13 [er rs ps,tupI p] (fun x S'=>FR rs us x/\S'=S) S:=by
 obtain ⟨K,rfl⟩:∃ k,K=k+1:=⟨K - 1,by omega⟩
 obtain ⟨h,b,n,a⟩:=ar.at jr o
 refine Vt (x0:=er rs ps) (x1:=tupI p) ?_
 nofun
 refine wp_mono (Z7 (ps:=ps) hs o ar (by omega)) ?_
 rintro _ S ⟨rfl,rfl⟩
 nofun
 refine wp_walk (fun l ρ S'=>∃ (pre us2:List U) (x2 x3 x4:Slot),us=pre++us2/\l=us2.map uD/\(∀ x,FR rs us2 x->FR rs us x)/\ρ=[.sh (er rs ps),.sh (tupI p),x2,x3,x4]/\S'=S) ?_ ?_ _ _ _ ⟨[],us,.no,.no,.no,rfl,rfl,fun x h=>h,rfl,rfl⟩
 ·rintro d1 l ρ S' ⟨pre,us2,x2,x3,x4,eu,el,hf,rfl,rfl⟩
  cases us2 with
  | nil=>cases el
  | cons u us2=>
   cases el
   obtain ⟨q,j,t⟩:=u
   obtain ⟨h0,b0,n0,i,c,a0,eq,h1,h2⟩:=a.split eu
   have r:=ye (ps:=ps) hs o a0.at i (K:=K) (by omega) S'
   rw [h1,<- eq] at r
   have hq:q.length<=60:=by
    have:=lenle hs a0.at
    rw [eq];simp;omega
   obtain ⟨d',ob⟩:=a0.at.ok o
   obtain ⟨m,ot⟩:=wO ob h1
   have nx:∀ x2 x3 x4,(∀ x,FR rs us2 x->FR rs ((q,j,t)::us2) x)->∃ (pre us3:List U) (x2' x3' x4':Slot),us=pre++us3/\us2.map uD=us3.map uD/\(∀ x,FR rs us3 x->FR rs us x)/\[Slot.sh (er rs ps),.sh (tupI p),x2,x3,x4]=[.sh (er rs ps),.sh (tupI p),x2',x3',x4']/\S'=S':=fun x2 x3 x4 z=>⟨pre++[(q,j,t)],us2,x2,x3,x4,by rw [eu];simp,rfl,fun x hx=>hf x (z x hx),rfl,rfl⟩
   refine zO (a:=[.sh (er rs ps),.sh (tupI p),.sh (tupI q),.sh (.int (j:Int)),x4]) rfl ?_
   nofun
   refine wp_mono r ?_
   rintro _ _ ⟨rfl,rfl⟩
   cases t with
   | lf w e rr=>
    have hl:Lw w:=ot.1
    show optS (bindV _ _ (.tup (.str w::e::rr),.st)) _
    nofun
    refine tst_F hl.ft ?_
    nofun
    refine tst_F hl.fd ?_
    nofun
    refine tst_F hl.fd ?_
    nofun
    exact nx _ _ _ fun x=>fr_lf
   | iff e b c=>
    nofun
    exact nx _ _ _ fun x=>zep
   | whl e b=>
    nofun
    exact nx _ _ _ fun x=>zen
   | tri b e c=>
    cases j with
    | zero=>
     nofun
     refine wp_mono (QF (by omega) (by omega)) ?_
     rintro _ _ ⟨rfl,rfl⟩
     nofun
     exact ⟨hf _ rfl,rfl⟩
    | succ j=>
     nofun
     refine tst_F (qg (by omega)) ?_
     nofun
     exact nx _ _ _ fun x=>zeo
   | doo b c=>
    have hin:=do_in a0.at h1 rfl trivial
    rw [<- eq] at hin
    cases j with
    | zero=>
     nofun
     refine wp_mono (qX (ps:=ps) hs o hin (by omega)) ?_
     rintro _ _ ⟨⟨ix,rfl,hix⟩,rfl⟩
     nofun
     refine wp_mono (qi q (by omega) (by omega) _) ?_
     rintro _ _ ⟨rfl,rfl⟩
     nofun
     exact ⟨hf _ ⟨ix,hix,rfl⟩,rfl⟩
    | succ j=>
     nofun
     refine tst_F (qg (by omega)) ?_
     nofun
     refine wp_mono (qX (ps:=ps) hs o hin (by omega)) ?_
     rintro _ _ ⟨⟨ix,rfl,hix⟩,rfl⟩
     show keep _ (fun d=>rdV (some (Slot.sh (D.tup (q.map D.int)))) _)
     nofun
     exact ⟨hf _ ⟨ix,hix,by simp [tupI,zU]⟩,rfl⟩
 ·rintro ρ S' ⟨pre,us2,x2,x3,x4,eu,el,hf,rfl,rfl⟩
  have e2:us2=[]:=by
   cases us2 with
   | nil=>rfl
   | cons _ _=>cases el
  subst e2
  nofun
  exact ⟨hf _ rfl,rfl⟩
end
theorem ZX:∀ bs:List Bool,uF (bs.map D.bl)=some bs
 | []=>rfl
 | b::bs=>by
  show (uF (bs.map D.bl)).map (b::·)=_
  rw [ZX bs];rfl
theorem fm_if {α β:Type}{c:α->Bool}{f:α->β}:∀ l:List α,l.filterMap (fun u=>if c u=true then some (f u) else none)=(l.filter c).map f
 | []=>rfl
 | x::l=>by
  by_cases h:c x=true
  ·rw [cH (b:=f x) (by rw [if_pos h]),cV h,Ρ,fm_if l]
  ·rw [cI (by rw [if_neg h]),bI h,fm_if l]
theorem Jx {α β:Type}{f:α->β}:∀ l:List α,l.filterMap (fun u=>some (f u))=l.map f
 | []=>rfl
 | x::l=>by show f x::l.filterMap (fun u=>some (f u))=_;rw [Jx l];rfl
noncomputable def isDU (u:U):Bool:=wdT u.2.2==("do":Str)
noncomputable def dl (us:List U):List U:=us.filter isDU
noncomputable def shut (us:List U):Bool:=(dl us).any fun u=>(u.2.1:Int)==1
noncomputable def offD (us:List U):D:=if shut us=true then .str "shut" else match dl us with
 | []=>.non
 | u::_=>tupI (u.1++[1])
section
variable {rs:List Tr}{ps:List D}{K:Nat}{S:Store}{p:P}{us:List U}
theorem UG (hs:sizes rs<=24) {d:Nat}(o:oks rs d) (ar:Ar rs p us) (hK:58<=K):callW F wh K 14 [er rs ps,tupI p] (fun x S'=>x=(offD us,.st)/\S'=S) S:=by
 obtain ⟨K,rfl⟩:∃ k,K=k+1:=⟨K - 1,by omega⟩
 obtain ⟨h,b,n,a⟩:=ar.at jr o
 have hul:=a.len
 have hsz:=a.at.size
 have hdl:(dl us).length<=us.length:=List.length_filter_le _ _
 refine Kp (x0:=er rs ps) (x1:=tupI p) ?_
 nofun
 refine wp_lc ?_
 dsimp only [wpI,e_var,Wo,wpEs]
 nofun
 refine wp_mono (Z7 (ps:=ps) hs o ar (by omega)) ?_
 rintro _ S ⟨rfl,rfl⟩
 nofun
 refine wD (sel:=fun u=>if isDU u=true then some (uD u) else none) us [] (by simp;omega) (fun u hu Q hQ=>?_) ?_
 ·obtain ⟨pre,us',eu⟩:=iQ hu
  obtain ⟨q,j,t⟩:=u
  obtain ⟨h0,b0,n0,i,c,a0,eq,h1,h2⟩:=a.split eu
  have r:=ye (ps:=ps) hs o a0.at i (K:=K - 1) (by omega) S
  rw [h1,<- eq] at r
  have w:=vJ r
  rw [show K - 1+1=K by omega] at w
  refine zO rfl ?_
  dsimp only [wpF,e_cmp,Wo,wpEs,e_sub,e_con,e_var,inn,nT,Ψ,List.map,Ϣ,cG]
  nofun
  refine wp_mono w ?_
  rintro _ _ ⟨rfl,rfl⟩
  have hQ:Q (if (wdT t==("do":Str))=true then some (uD (q,j,t)) else none) _:=hQ
  nofun
  by_cases ht:(wdT t==("do":Str))=true
  ·rw [if_pos ht] at hQ
   refine tst_T ht ?_
   nofun
   exact hQ
  ·rw [if_neg ht] at hQ
   refine tst_F (qD fun z=>ht (beq_iff_eq.mpr z)) ?_
   nofun
   exact hQ
 ·rw [fm_if,bM]
  have e0:us.filter isDU=dl us:=rfl
  rw [e0]
  nofun
  refine wp_lc ?_
  dsimp only [wpI,e_var]
  nofun
  refine wD (enc:=uD) (sel:=fun u=>some (.bl ((u.2.1:Int)==1))) (dl us) [] (by simp;omega) (fun u hu Q hQ=>?_) ?_
  ·refine zO rfl ?_
   dsimp only [wpF,e_cmp,e_con,e_var,inn,nT,Ψ,List.map,Ϣ,cG]
   nofun
   exact hQ
  ·rw [Jx,bM]
   have eb:biD .any [.lst ((dl us).map fun u=>D.bl ((u.2.1:Int)==1))]=some (.bl (shut us),false):=by
    show ((uF ((dl us).map fun u=>D.bl ((u.2.1:Int)==1))).map fun bs=>D.bl (bs.any id)).map (fun d=>(d,false))=_
    rw [show ((dl us).map fun u=>D.bl ((u.2.1:Int)==1))=((dl us).map fun u=>((u.2.1:Int)==1)).map D.bl by rw [eO];rfl,ZX]
    unfold shut
    simp [List.any_map]
   refine opv_s eb ?_
   nofun
   unfold offD
   refine zX (fun hsh=>?_) (fun hsh=>?_)
   ·rw [if_pos hsh]
    nofun
    exact ⟨rfl,rfl⟩
   ·rw [if_neg (by rw [hsh];decide)]
    nofun
    cases hd:dl us with
    | nil=>
     nofun
     exact ⟨rfl,rfl⟩
    | cons u l=>
     have hu:u∈us:=(lE.mp (show u∈us.filter isDU by show u∈dl us;rw [hd];exact ς)).1
     obtain ⟨pre,us',eu⟩:=iQ hu
     obtain ⟨q,j,t⟩:=u
     obtain ⟨h0,b0,n0,i,c,a0,eq,h1,h2⟩:=a.split eu
     have hq:=lenle hs a0.at
     refine tst_F (qg (by simp;omega)) ?_
     nofun
     refine wp_mono (qi q (by rw [eq];simp;omega) (by omega) _) ?_
     rintro _ _ ⟨rfl,rfl⟩
     nofun
     exact ⟨rfl,rfl⟩
end
noncomputable def tag:U->Option (Str×P)
 | (q,0,.tri _ _ _)=>some ("try",q)
 | (q,0,.doo _ _)=>some ("do",q)
 | (q,_+1,.doo _ _)=>some ("undoing",q)
 | _=>none
noncomputable def tgD (x:Str×P):D:=.tup [.str x.1,tupI x.2]
noncomputable def rL (us:List U):List D:=(us.filterMap tag).map tgD
section
variable {rs:List Tr}{ps:List D}{K:Nat}{S:Store}{p:P}{us:List U}
theorem Xi:∀ {us:List U}{w:Str}{q:P}{l:List (Str×P)},us.filterMap tag=(w,q)::l->∃ pre j t us',us=pre++(q,j,t)::us'/\tag (q,j,t)=some (w,q)/\l=us'.filterMap tag/\∀ x,FR rs us x->FR rs ((q,j,t)::us') x
 | [],w,q,l,h=>by cases h
 | (q0,j,t)::us,w,q,l,h=>by
  cases e:tag (q0,j,t) with
  | none=>
   rw [cI e] at h
   obtain ⟨pre,j',t',us',h1,h2,h3,h4⟩:=Xi h
   refine ⟨(q0,j,t)::pre,j',t',us',by rw [h1];rfl,h2,h3,fun x hx=>h4 x ?_⟩
   cases t with
   | lf=>cases j <;> exact hx
   | iff=>cases j <;> exact hx
   | whl=>cases j <;> exact hx
   | tri=>cases j with
    | zero=>cases e
    | succ j=>exact hx
   | doo=>cases j <;> cases e
  | some y=>
   rw [cH e] at h
   cases h
   have:q0=q:=by
    cases t with
    | lf=>cases j <;> cases e
    | iff=>cases j <;> cases e
    | whl=>cases j <;> cases e
    | tri=>cases j with
     | zero=>cases e;rfl
     | succ j=>cases e
    | doo=>cases j <;> (cases e;rfl)
   subst this
   exact ⟨[],j,t,us,rfl,e,rfl,fun x hx=>hx⟩
theorem VF:∀ {us:List U},us.filterMap tag=[]->∀ x,FR rs us x->x=(.non,.st)
 | [],_,x,h=>h
 | (q0,j,t)::us,h,x,hx=>by
  cases e:tag (q0,j,t) with
  | none=>
   rw [cI e] at h
   refine VF h x ?_
   cases t with
   | lf=>cases j <;> exact hx
   | iff=>cases j <;> exact hx
   | whl=>cases j <;> exact hx
   | tri=>cases j with
    | zero=>cases e
    | succ j=>exact hx
   | doo=>cases j <;> cases e
  | some y=>rw [cH e] at h;cases h
theorem zaH {h0:P}{b0:List Tr}{n0 i:Nat}{us':List U}{b c:List Tr}(a:AtU rs h0 b0 n0 us') (h1:b0[i]?=some (.doo b c)):Ar rs (h0++[(i:Int)]++[1]++[(c.length:Int)]) us':=.und a h1 rfl rfl
theorem U9 (hs:sizes rs<=24) {d:Nat}(o:oks rs d) {h0:P}{b0:List Tr}{n0 i:Nat}{b c:List Tr}(a:At rs h0 b0 n0) (h1:b0[i]?=some (.doo b c)) (hK:57<=K):callW F wh K 28 [er rs ps,tupI (h0++[(i:Int)])] (fun x S'=>x=(tupI (h0++[(i:Int)]++[1]++[(c.length:Int)]),.st)/\S'=S) S:=by
 obtain ⟨K,rfl⟩:∃ k,K=k+1:=⟨K - 1,by omega⟩
 have hl:=lenle hs a
 have r:=ye (ps:=ps) hs o a i (K:=K) (by omega) S
 rw [h1] at r
 refine WN (x0:=er rs ps) (x1:=.tup ((h0++[(i:Int)]).map D.int)) ?_
 nofun
 refine wp_mono r ?_
 rintro _ _ ⟨rfl,rfl⟩
 nofun
 exact ⟨by simp [tupI,zU],rfl⟩
theorem zb9 (a b:P):cmpD .Eq (tupI a) (tupI b)=some (decide (a=b)):=by
 rw [eq_op (jW a) (jW b)]
 exact congrArg some (vD a b)
theorem QG (hs:sizes rs<=24) {d:Nat}(o:oks rs d) (ar:Ar rs p us) (hK:59<=K):callW F wh K 29 [er rs ps,tupI p,.lst (rL us)] (fun x S'=>x=(.bl true,.st)/\S'=S) S:=by
 obtain ⟨K,rfl⟩:∃ k,K=k+1:=⟨K - 1,by omega⟩
 refine qt (x0:=er rs ps) (x1:=tupI p) (x2:=.lst (rL us)) ?_
 nofun
 refine wp_walk (fun l ρ S'=>∃ (p':P) (us':List U) (x3 x4 x5:Slot),Ar rs p' us'/\l=rL us'/\ρ=[.sh (er rs ps),.sh (tupI p'),.sh (.lst (rL us)),x3,x4,x5]/\S'=S) ?_ ?_ _ _ _ ⟨p,us,.no,.no,.no,ar,rfl,rfl,rfl⟩
 ·rintro d1 l ρ S' ⟨p',us1,x3,x4,x5,ar,el,rfl,rfl⟩
  cases ef:us1.filterMap tag with
  | nil=>
   have el:d1::l=(us1.filterMap tag).map tgD:=el
   rw [ef] at el;cases el
  | cons y l'=>
   have el:d1::l=(us1.filterMap tag).map tgD:=el
   rw [ef] at el
   cases el
   obtain ⟨w,q⟩:=y
   obtain ⟨pre,j,t,us2,eu,et,e3,hf⟩:=Xi (rs:=rs) ef
   obtain ⟨h,b,n,a⟩:=ar.at jr o
   obtain ⟨h0,b0,n0,i,c,a0,eq,h1,h2⟩:=a.split eu
   have hq:=lenle hs a0.at
   have hql:q.length<=60:=by rw [eq];simp;omega
   refine zO (a:=[.sh (er rs ps),.sh (tupI p'),.sh (.lst (rL us)),.sh (.str w),.sh (tupI q),x5]) rfl ?_
   nofun
   refine wp_mono (JC (ps:=ps) hs o ar (by omega)) ?_
   rintro x S ⟨hx,rfl⟩
   have hx:=hf x hx
   cases t with
   | lf=>cases j <;> cases et
   | iff=>cases j <;> cases et
   | whl=>cases j <;> cases et
   | tri b1 e c1=>
    cases j with
    | succ j=>cases et
    | zero=>
     cases et
     cases (show x=_ from hx)
     show optS (bindV [_,_,_,_,.sh (.tup (q.map D.int)),_] _ _) _
     nofun
     rw [show D.tup (q.map D.int++[D.int 1,D.int 0])=tupI (q++[1,0]) by simp [tupI]]
     refine zr (zb9 (q++[1,0]) (q++[1,0])) ?_
     nofun
     exact ⟨by rw [decide_eq_true rfl],rfl⟩
   | doo b1 c1=>
    subst eq
    have ed:=U9 (ps:=ps) (K:=K) (S:=S) hs o a0.at h1 (by omega)
    have ar2:=zaH a0 h1
    cases j with
    | zero=>
     cases et
     obtain ⟨ix,hix,rfl⟩:=(show ∃ i:Nat,Nr rs _ i/\x=_ from hx)
     show optS (bindV [_,_,_,_,.sh (.tup ((h0++[(i:Int)]).map D.int)),_] _ _) _
     nofun
     refine wp_mono (Wq hs o hix (by omega)) ?_
     rintro _ S ⟨rfl,rfl⟩
     nofun
     refine zr (v8 (h0++[(i:Int)]) (h0++[(i:Int)])) ?_
     nofun
     refine tst_F (by simp) ?_
     nofun
     refine wp_mono ed ?_
     rintro _ S ⟨rfl,rfl⟩
     nofun
     rw [zy]
     refine zr (v8 (h0++[(i:Int)]++[1]) (h0++[(i:Int)]++[1])) ?_
     nofun
     refine tst_F (by simp) ?_
     nofun
     exact ⟨_,us2,_,_,_,ar2,by rw [e3];rfl,rfl,rfl⟩
    | succ j=>
     cases et
     obtain ⟨ix,hix,rfl⟩:=(show ∃ i:Nat,Nr rs _ i/\x=_ from hx)
     show optS (bindV [_,_,_,_,.sh (.tup ((h0++[(i:Int)]).map D.int)),_] _ _) _
     nofun
     refine wp_mono (Wq hs o hix (by omega)) ?_
     rintro _ S ⟨rfl,rfl⟩
     nofun
     refine zr (v8 (h0++[(i:Int)]) (h0++[(i:Int)])) ?_
     nofun
     refine tst_F (by simp) ?_
     nofun
     refine wp_mono ed ?_
     rintro _ S ⟨rfl,rfl⟩
     nofun
     rw [show tupI (h0++[(i:Int)]++[1]++[(c1.length:Int)])=tupI (h0++[(i:Int)]++[1,(c1.length:Int)]) by simp]
     refine zr (v8 (h0++[(i:Int)]++[1,(c1.length:Int)]) (h0++[(i:Int)]++[1,(c1.length:Int)])) ?_
     nofun
     refine tst_F (by simp) ?_
     nofun
     have ar3:=ar2
     rw [π (h0++[(i:Int)])] at ar3
     exact ⟨h0++[(i:Int)]++[1,(c1.length:Int)],us2,_,_,_,ar3,by rw [e3];rfl,rfl,rfl⟩
 ·rintro ρ S' ⟨p',us1,x3,x4,x5,ar,el,rfl,rfl⟩
  have ef:us1.filterMap tag=[]:=by
   cases e:us1.filterMap tag with
   | nil=>rfl
   | cons y l=>
    have el:[]=(us1.filterMap tag).map tgD:=el
    rw [e] at el;cases el
  nofun
  refine wp_mono (JC (ps:=ps) hs o ar (by omega)) ?_
  rintro x _ ⟨hx,rfl⟩
  cases VF ef x hx
  nofun
  exact ⟨rfl,rfl⟩
end
noncomputable def uB (x:Str×P):Bool:=x.1==("undoing":Str)
noncomputable def dB (x:Str×P):Bool:=x.1==("do":Str)
def Hu (us:List U):Prop:=∀ u∈us,Lfs u.2.2/\∃ c,(bo u.2.2)[u.2.1]?=some c
section
variable {rs:List Tr}{ps:List D}{K:Nat}{S:Store}{p:P}{us:List U}{u:U}
theorem uA (h:isDU u=false):dl (u::us)=dl us:=bI (by rw [h];decide)
theorem JM (h:isDU u=true):dl (u::us)=u::dl us:=cV h
theorem zY (h:isDU u=false):shut (u::us)=shut us:=by unfold shut;rw [uA h]
theorem qG (h:isDU u=true):shut (u::us)=(((u.2.1:Int)==1)||shut us):=by unfold shut;rw [JM h];rfl
theorem Xh:∀ (us:List U),Hu us->((us.filterMap tag).filter uB).isEmpty=!shut us
 | [],_=>rfl
 | (q,j,t)::us,h=>by
  have ih:=Xh us fun u hu=>h u (ι _ hu)
  obtain ⟨hl,c,hj⟩:=h (q,j,t) ς
  cases t with
  | lf w e r=>
   have hl:Lw w:=hl
   have z:isDU (q,j,.lf w e r)=false:=hl.fd
   rw [zY z,<- ih]
   cases j <;> rfl
  | iff e b c=>
   have z:isDU (q,j,.iff e b c)=false:=show (("if":Str)==("do":Str))=false from by decide
   rw [zY z,<- ih]
   cases j <;> rfl
  | whl e b=>
   have z:isDU (q,j,.whl e b)=false:=show (("while":Str)==("do":Str))=false from by decide
   rw [zY z,<- ih]
   cases j <;> rfl
  | tri b e c=>
   have z:isDU (q,j,.tri b e c)=false:=show (("try":Str)==("do":Str))=false from by decide
   rw [zY z,<- ih]
   cases j with
   | zero=>
    show (gW uB (("try",q)::us.filterMap tag)).isEmpty=_
    rw [bI (p:=uB) (a:=("try",q)) (show ¬ (("try":Str)==("undoing":Str))=true from by decide)]
   | succ j=>rfl
  | doo b c=>
   have z:isDU (q,j,.doo b c)=true:=show (("do":Str)==("do":Str))=true from by decide
   rw [qG z]
   match j,hj with
   | 0,_=>
    show (gW uB (("do",q)::us.filterMap tag)).isEmpty=_
    rw [bI (p:=uB) (a:=("do",q)) (show ¬ (("do":Str)==("undoing":Str))=true from by decide),ih]
    rfl
   | 1,_=>
    show (gW uB (("undoing",q)::us.filterMap tag)).isEmpty=_
    rw [cV (p:=uB) (a:=("undoing",q)) (show (("undoing":Str)==("undoing":Str))=true from by decide)]
    rfl
   | j+2,hj=>simp [bo] at hj
theorem jq:∀ (us:List U),Hu us->shut us=false->((us.filterMap tag).filter dB).map (fun x=>tupI x.2)=(dl us).map fun u=>tupI u.1
 | [],_,_=>rfl
 | (q,j,t)::us,h,hs=>by
  have hu:=fun u hu=>h u (ι _ hu)
  obtain ⟨hl,c,hj⟩:=h (q,j,t) ς
  cases t with
  | lf w e r=>
   have hl:Lw w:=hl
   have z:isDU (q,j,.lf w e r)=false:=hl.fd
   rw [zY z] at hs
   rw [uA z,<- jq us hu hs]
   cases j <;> rfl
  | iff e b c=>
   have z:isDU (q,j,.iff e b c)=false:=show (("if":Str)==("do":Str))=false from by decide
   rw [zY z] at hs
   rw [uA z,<- jq us hu hs]
   cases j <;> rfl
  | whl e b=>
   have z:isDU (q,j,.whl e b)=false:=show (("while":Str)==("do":Str))=false from by decide
   rw [zY z] at hs
   rw [uA z,<- jq us hu hs]
   cases j <;> rfl
  | tri b e c=>
   have z:isDU (q,j,.tri b e c)=false:=show (("try":Str)==("do":Str))=false from by decide
   rw [zY z] at hs
   rw [uA z,<- jq us hu hs]
   cases j with
   | zero=>
    show (gW dB (("try",q)::us.filterMap tag)).map _=_
    rw [bI (p:=dB) (a:=("try",q)) (show ¬ (("try":Str)==("do":Str))=true from by decide)]
   | succ j=>rfl
  | doo b c=>
   have z:isDU (q,j,.doo b c)=true:=show (("do":Str)==("do":Str))=true from by decide
   rw [qG z,nA] at hs
   rw [JM z]
   match j,hj,hs with
   | 0,_,hs=>
    show (gW dB (("do",q)::us.filterMap tag)).map _=_
    rw [cV (p:=dB) (a:=("do",q)) (show (("do":Str)==("do":Str))=true from by decide),Ρ,Ρ,jq us hu hs.2]
   | 1,_,hs=>exact absurd (show ((1:Int)==1)=false from hs.1) (by decide)
   | j+2,hj,_=>simp [bo] at hj
theorem AtU.all {h:P}{b:List Tr}{n d:Nat}(a:AtU rs h b n us) (o:oks rs d):Hu us:=fun u hu=>by
 obtain ⟨pre,us',eu⟩:=iQ hu
 obtain ⟨q,j,t⟩:=u
 obtain ⟨h0,b0,n0,i,c,a0,eq,h1,h2⟩:=a.split eu
 obtain ⟨d',ob⟩:=a0.at.ok o
 obtain ⟨m,ot⟩:=wO ob h1
 exact ⟨ot.lfs,c,h2⟩
theorem zbN (hs:sizes rs<=24) {d:Nat}(o:oks rs d) (ar:Ar rs p us) (hK:59<=K):callW F wh K 30 [er rs ps,tupI p,.lst (rL us)] (fun x S'=>x=(.bl true,.st)/\S'=S) S:=by
 obtain ⟨K,rfl⟩:∃ k,K=k+1:=⟨K - 1,by omega⟩
 obtain ⟨h,b,n,a⟩:=ar.at jr o
 have hul:=a.len
 have hsz:=a.at.size
 have hu:=a.all o
 have htl:(us.filterMap tag).length<=us.length:=mH _ _
 have e1:=Xh us hu
 refine Yg (x0:=er rs ps) (x1:=tupI p) (x2:=.lst (rL us)) ?_
 nofun
 refine wp_lc ?_
 dsimp only [wpI,e_var]
 nofun
 refine wD (enc:=tgD) (sel:=fun x=>if uB x=true then some (.str x.1) else none) (us.filterMap tag) [] (by simp;omega) (fun x hx Q hQ=>?_) ?_
 ·refine zO rfl ?_
  dsimp only [wpF,e_cmp,e_con,e_var,inn,nT,Ψ,List.map,Ϣ,cG]
  nofun
  by_cases hb:uB x=true
  ·rw [if_pos hb] at hQ
   refine tst_T hb ?_
   nofun
   exact hQ
  ·rw [if_neg hb] at hQ
   refine tst_F (qD fun z=>hb (beq_iff_eq.mpr z)) ?_
   nofun
   exact hQ
 rw [fm_if,bM]
 nofun
 cases hsh:shut us with
 | true=>
  rw [hsh] at e1
  have hne:0 < ((us.filterMap tag).filter uB).length:=by
   cases hf:(us.filterMap tag).filter uB with
   | nil=>rw [hf] at e1;exact absurd e1 (by decide)
   | cons _ _=>simp
  refine tst_T (decide_eq_true (by rw [Ζ];omega)) ?_
  nofun
  refine wp_mono (UG (ps:=ps) hs o ar (by omega)) ?_
  rintro _ _ ⟨rfl,rfl⟩
  unfold offD
  rw [if_pos hsh]
  nofun
  exact ⟨rfl,rfl⟩
 | false=>
  rw [hsh] at e1
  have hne:(us.filterMap tag).filter uB=[]:=by
   cases hf:(us.filterMap tag).filter uB with
   | nil=>rfl
   | cons _ _=>rw [hf] at e1;exact absurd (show false=true from e1) (by decide)
  rw [hne]
  nofun
  refine wp_lc ?_
  dsimp only [wpI,e_var]
  nofun
  refine wD (enc:=tgD) (sel:=fun x=>if dB x=true then some (tupI x.2) else none) (us.filterMap tag) [] (by simp;omega) (fun x hx Q hQ=>?_) ?_
  ·refine zO rfl ?_
   dsimp only [wpF,e_cmp,e_con,e_var,inn,nT,Ψ,List.map,Ϣ,cG]
   nofun
   by_cases hb:dB x=true
   ·rw [if_pos hb] at hQ
    refine tst_T hb ?_
    nofun
    exact hQ
   ·rw [if_neg hb] at hQ
    refine tst_F (qD fun z=>hb (beq_iff_eq.mpr z)) ?_
    nofun
    exact hQ
  rw [fm_if,bM,jq us hu hsh]
  nofun
  refine wp_walk (fun l ρ S'=>∃ (p':P) (us':List U) (x3:Slot),Ar rs p' us'/\shut us'=false/\l=(dl us').map (fun u=>tupI u.1)/\ρ=[.sh (er rs ps),.sh (tupI p'),.sh (.lst (rL us)),x3]/\S'=S) ?_ ?_ _ _ _ ⟨p,us,.no,ar,hsh,rfl,rfl,rfl⟩
  ·rintro d1 l ρ S' ⟨p',us1,x3,ar,hsh,el,rfl,rfl⟩
   cases ed:dl us1 with
   | nil=>rw [ed] at el;cases el
   | cons u l'=>
    rw [ed] at el
    cases el
    obtain ⟨pre,us2,eu,_,hdu,e2⟩:=List.filter_eq_cons_iff.mp (show us1.filter isDU=u::l' from ed)
    obtain ⟨q,j,t⟩:=u
    obtain ⟨h,b,n,a⟩:=ar.at jr o
    obtain ⟨h0,b0,n0,i,c,a0,eq,h1,h2⟩:=a.split eu
    obtain ⟨d',ob⟩:=a0.at.ok o
    obtain ⟨m,ot⟩:=wO ob h1
    obtain ⟨b1,c1,rfl⟩:=jr t (beq_iff_eq.mp hdu) ot.lfs
    have hq:=lenle hs a0.at
    have ez:=UG (ps:=ps) (K:=K) (S:=S') hs o ar (by omega)
    have eo:offD us1=tupI (q++[1]):=by
     unfold offD
     rw [if_neg (by rw [hsh];decide),ed]
    rw [eo] at ez
    have hs2:shut us2=false:=by
     unfold shut at hsh
     rw [ed,bG,nA,<- e2] at hsh
     exact hsh.2
    subst eq
    have en:=U9 (ps:=ps) (K:=K) (S:=S') hs o a0.at h1 (by omega)
    refine zO (a:=[.sh (er rs ps),.sh (tupI p'),.sh (.lst (rL us)),.sh (.tup ((h0++[(i:Int)]).map D.int))]) rfl ?_
    nofun
    refine wp_mono ez ?_
    rintro _ _ ⟨rfl,rfl⟩
    nofun
    rw [zy]
    refine zr (v8 (h0++[(i:Int)]++[1]) (h0++[(i:Int)]++[1])) ?_
    nofun
    refine tst_F (by simp) ?_
    nofun
    refine wp_mono en ?_
    rintro _ _ ⟨rfl,rfl⟩
    nofun
    exact ⟨_,us2,_,zaH a0 h1,hs2,by rw [<- e2];rfl,rfl,rfl⟩
  ·rintro ρ S' ⟨p',us1,x3,ar,hsh,el,rfl,rfl⟩
   have ed:dl us1=[]:=by
    cases e:dl us1 with
    | nil=>rfl
    | cons y l=>rw [e] at el;cases el
   nofun
   refine wp_mono (UG (ps:=ps) hs o ar (by omega)) ?_
   rintro _ _ ⟨rfl,rfl⟩
   unfold offD
   rw [if_neg (by rw [hsh];decide),ed]
   nofun
   exact ⟨rfl,rfl⟩
end
mutual
theorem zdf:∀ (t:Tr) (p:P) (x:P),x∈rp t p->∃ y,x=p++y
 | .lf _ _ _,p,x,h=>⟨[],by rw [Θ.mp h];simp⟩
 | .iff _ b c,p,x,h=>by
  have h1:=yd b (p++[0]) 0 x
  have h2:=yd c (p++[1]) 0 x
  simp [rp] at h
  rcases h with rfl | rfl | h | rfl | h
  ·exact ⟨[],by simp⟩
  ·exact ⟨[0,(b.length:Int)],by simp⟩
  ·obtain ⟨j,y,_,_,rfl⟩:=h1 h;exact ⟨0::(j:Int)::y,by simp⟩
  ·exact ⟨[1,(c.length:Int)],by simp⟩
  ·obtain ⟨j,y,_,_,rfl⟩:=h2 h;exact ⟨1::(j:Int)::y,by simp⟩
 | .whl _ b,p,x,h=>by
  have h1:=yd b (p++[0]) 0 x
  simp [rp] at h
  rcases h with rfl | rfl | rfl | h
  ·exact ⟨[],by simp⟩
  ·exact ⟨[0],rfl⟩
  ·exact ⟨[0,(b.length:Int)],by simp⟩
  ·obtain ⟨j,y,_,_,rfl⟩:=h1 h;exact ⟨0::(j:Int)::y,by simp⟩
 | .tri b _ c,p,x,h=>by
  have h1:=yd b (p++[0]) 0 x
  have h2:=yd c (p++[1]) 0 x
  simp [rp] at h
  rcases h with rfl | rfl | h | rfl | h
  ·exact ⟨[],by simp⟩
  ·exact ⟨[0,(b.length:Int)],by simp⟩
  ·obtain ⟨j,y,_,_,rfl⟩:=h1 h;exact ⟨0::(j:Int)::y,by simp⟩
  ·exact ⟨[1,(c.length:Int)],by simp⟩
  ·obtain ⟨j,y,_,_,rfl⟩:=h2 h;exact ⟨1::(j:Int)::y,by simp⟩
 | .doo b c,p,x,h=>by
  have h1:=yd b (p++[0]) 0 x
  have h2:=yd c (p++[1]) 0 x
  simp [rp] at h
  rcases h with rfl | rfl | rfl | h | rfl | h
  ·exact ⟨[],by simp⟩
  ·exact ⟨[1],rfl⟩
  ·exact ⟨[0,(b.length:Int)],by simp⟩
  ·obtain ⟨j,y,_,_,rfl⟩:=h1 h;exact ⟨0::(j:Int)::y,by simp⟩
  ·exact ⟨[1,(c.length:Int)],by simp⟩
  ·obtain ⟨j,y,_,_,rfl⟩:=h2 h;exact ⟨1::(j:Int)::y,by simp⟩
theorem yd:∀ (l:List Tr) (h:P) (i:Nat) (x:P),x∈rps l h i->∃ (j:Nat) (y:P),i<=j/\j < i+l.length/\x=h++[(j:Int)]++y
 | [],_,_,_,h=>absurd h dC
 | r::l,h,i,x,m=>by
  rcases Τ.mp m with m | m
  ·obtain ⟨y,e⟩:=zdf r _ x m
   exact ⟨i,y,ν _,by simp,e⟩
  ·obtain ⟨j,y,h1,h2,e⟩:=yd l h (i+1) x m
   exact ⟨j,y,by omega,by simp;omega,e⟩
end
theorem zaL (l:List Tr) (h:P) (x:P) (m:x∈bp l h):∃ (j:Int) (y:P),x=h++[j]++y:=by
 rcases Ξ.mp m with rfl | m
 ·exact ⟨(l.length:Int),[],by simp⟩
 ·obtain ⟨j,y,_,_,e⟩:=yd l h 0 x m
  exact ⟨j,y,e⟩
def Qr (rs:List Tr) (bad:P->Prop) (k:List Key) (v:D):Prop:=∃ p us,k=kp p/\v=.lst (rL us)/\p≠[]/\(bad p\/Ar rs p us)
def Nk (ks:List (List Key)) (Q:P->Prop):Prop:=∀ k∈ks,∃ p,k=kp p/\¬ Q p
section
variable {rs:List Tr}{bad bad':P->Prop}{ks ks':List (List Key)}{vs:List D}{p:P}{us:List U}{v:D}{Q Q':P->Prop}
theorem Nk.no (h:Nk ks Q) (hp:Q p):hasK ks (kp p)=false:=by
 unfold hasK
 rw [nY]
 intro k hk e
 obtain ⟨p',e1,n⟩:=h k hk
 have e2:=of_decide_eq_true e
 rw [e1] at e2
 rw [zas e2] at n
 exact n hp
theorem Nk.weak (h:Nk ks Q) (i:∀ p,Q' p->Q p):Nk ks Q':=fun k hk=>by
 obtain ⟨p,e,n⟩:=h k hk
 exact ⟨p,e,fun z=>n (i p z)⟩
theorem Nk.app {l:List P}(h:Nk ks Q) (n:∀ x∈l,¬ Q x) (pm:ks'.Perm (ks++l.map kp)):Nk ks' Q:=fun k hk=>by
 rcases Τ.mp (pm.mem_iff.mp hk) with m | m
 ·exact h k m
 ·obtain ⟨x,hx,rfl⟩:=aM.mp m
  exact ⟨x,rfl,n x hx⟩
theorem jT (hf:hasK ks (kp p)=false) (hl:ks.length+1<=1000000):putD (.dT ks vs) (.tup (p.map D.int)) v=some (.dT (ks++[kp p]) (vs++[v])):=by
 rw [zah rfl hl]
 unfold putKs
 rw [hf];rfl
theorem Xq (T:Tbl (Qr rs bad) ks vs) (hf:hasK ks (kp p)=false) (hp:p≠[]) (h:bad p\/Ar rs p us):Tbl (Qr rs bad) (ks++[kp p]) (vs++[.lst (rL us)]):=by
 have:=T.put (x:=kp p) (y:=.lst (rL us)) ⟨p,us,rfl,rfl,hp,h⟩
 unfold putKs at this
 rw [hf] at this
 exact this
theorem zbg (t:Tbl (Qr rs bad) ks vs) (h:∀ p,bad p->bad' p):Tbl (Qr rs bad') ks vs:=⟨t.len,fun k v e=>by
 obtain ⟨a,b,e1,e2,ha,z⟩:=t.all k v e
 exact ⟨a,b,e1,e2,ha,z.imp (h a) id⟩⟩
theorem zbh (t:Tbl (Qr rs fun x=>bad x\/x=p) ks vs) (hp:p≠[]) (hk:kp p∈ks) (h:Ar rs p us) (hl:ks.length+1<=1000000):∃ vs',putD (.dT ks vs) (.tup (p.map D.int)) (.lst (rL us))=some (.dT ks vs')/\Tbl (Qr rs bad) ks vs':=by
 have hh:hasK ks (kp p)=true:=by
  unfold hasK
  rw [dF]
  exact ⟨_,hk,by simp⟩
 have e1:putKs ks vs (kp p) (D.lst (rL us))=(ks,mapK ks vs (kp p) (.lst (rL us))):=by
  unfold putKs
  rw [if_pos hh]
 refine ⟨mapK ks vs (kp p) (.lst (rL us)),by rw [zah rfl hl,e1],⟨by rw [map_len];exact t.len,fun k v e=>?_⟩⟩
 rcases YC t.len e with ⟨rfl,rfl⟩ | ⟨hk,e⟩
 ·exact ⟨p,us,rfl,rfl,hp,.inr h⟩
 ·obtain ⟨a,b,e1,e2,ha,h⟩:=t.all k v e
  refine ⟨a,b,e1,e2,ha,?_⟩
  rcases h with (h | h) | h
  ·exact .inl h
  ·exact absurd (by rw [e1,h]) hk
  ·exact .inr h
end
def Ext (h p:P):Prop:=∃ j y,p=h++[j]++y
theorem Wk {h p:P}{j:Int}(e:Ext (h++[j]) p):Ext h p:=by
 obtain ⟨i,y,rfl⟩:=e
 exact ⟨j,i::y,by simp⟩
def isUnd (us:List U):Prop:=∃ q t us',us=(q,1,t)::us'/\wdT t="do"
def RdAt (rs:List Tr) (p0:D) (K n:Nat):Prop:=∀ (b:List Tr) (h:P) (m:Nat) (us:List U) (bad:P->Prop) (ks:List (List Key)) (vs:List D),AtU rs h b m us->sizes b<=n->(isUnd us->bad (h++[(b.length:Int)]))->Tbl (Qr rs bad) ks vs->Nk ks (Ext h)->ks.length+4*sizes b<=1000 ->
 callW F wh K 27 [bD b,tupI h,.lst (rL us),.ref 1] (fun x S'=>x=(.non,.st)/\∃ ks' vs',S'=[p0,.dT ks' vs']/\Tbl (Qr rs bad) ks' vs'/\ks'.Perm (ks++(bp b h).map kp)) [p0,.dT ks vs]
noncomputable def rdB:List C:=match yj with
 | [.forr _ _ b,_]=>b
 | _=>[]
section
variable {rs:List Tr}{p0:D}{K n m k:Nat}{V:Ko}{I:List Slot->Store->Prop}{b:List Tr}{h:P}{t:Tr}{us:List U}{x5 x6:Slot}{bad:P->Prop}{ks:List (List Key)}{vs:List D}
theorem zbf (hb:RdAt rs p0 K n) (o:∃ d,t.Ok d) (hs:t.size<=n+1) (hm:m<=24) (hh:h.length<=60) (a:AtU rs h b m us) (h1:b[k]?=some t) (T:Tbl (Qr rs bad) ks vs) (nk:Nk ks fun p=>∃ y,p=h++[(k:Int)]++y) (hl:ks.length+4*t.size<=1000)
  (qq:∀ x5 x6 ks' vs',Tbl (Qr rs bad) ks' vs'->ks'.Perm (ks++(rp t (h++[(k:Int)])).map kp)->I [.sh (bD b),.sh (tupI h),.sh (.lst (rL us)),.sh (.ref 1),.sh (.int (k:Int)),x5,x6] [p0,.dT ks' vs']):
  wpCs (callW F wh K) wh rdB [.sh (bD b),.sh (tupI h),.sh (.lst (rL us)),.sh (.ref 1),.sh (.int (k:Int)),x5,x6] (trn V I) [p0,.dT ks vs]:=by
 have hx:subD (bD b) (.int (k:Int))=some t.toD:=qz (by omega) (by rw [yI,Μ];simp [h1])
 have hkl:=(Η.mp h1).1
 have hp0:h++[(k:Int)]≠[]:=by simp
 have hf:=nk.no (p:=h++[(k:Int)]) ⟨[],by simp⟩
 have hul:=a.len
 have hrl:(rL us).length<=us.length:=by unfold rL;rw [Ζ];exact mH _ _
 have z1:=size_eq t
 have T1:=Xq T hf hp0 (.inr (Ar.row (k:=k) a fun _ _ _ _ _=>by omega))
 have nk1:Nk (ks++[kp (h++[(k:Int)])]) fun p=>∃ j y,p=h++[(k:Int)]++[j]++y:=(nk.weak fun p ⟨j,y,e⟩=>⟨j::y,by rw [e];simp⟩).app (l:=[h++[(k:Int)]]) (fun x hx ⟨j,y,e⟩=>by
  rw [Θ.mp hx] at e
  have:=congrArg dR e
  simp at this) (ϰ _)
 have n1:(ks++[kp (h++[(k:Int)])]).length=ks.length+1:=by simp
 obtain ⟨ks1,hk1⟩:∃ x,x=ks++[kp (h++[(k:Int)])]:=⟨_,rfl⟩
 obtain ⟨vs1,hv1⟩:∃ x,x=vs++[D.lst (rL us)]:=⟨_,rfl⟩
 have e1:=jT (v:=.lst (rL us)) (vs:=vs) hf (by omega)
 rw [<- hk1] at nk1 n1
 rw [<- hk1,<- hv1] at T1 e1
 have sub:∀ (j:Nat) (c:List Tr) (bd:P->Prop) (ks2:List (List Key)) (vs2:List D),(bo t)[j]?=some c->(isUnd ((h++[(k:Int)],j,t)::us)->bd (h++[(k:Int)]++[(j:Int)]++[(c.length:Int)]))->Tbl (Qr rs bd) ks2 vs2->Nk ks2 (Ext (h++[(k:Int)]++[(j:Int)]))->ks2.length+4*sizes c<=1000->callW F wh K 27 [.tup (rowsD c),.tup ((h++[(k:Int)]++[(j:Int)]).map D.int),.lst (rL ((h++[(k:Int)],j,t)::us)),.ref 1] (fun x S'=>x=(.non,.st)/\∃ ks' vs',S'=[p0,.dT ks' vs']/\Tbl (Qr rs bd) ks' vs'/\ks'.Perm (ks2++(bp c (h++[(k:Int)]++[(j:Int)])).map kp)) [p0,.dT ks2 vs2]:=fun j c bd ks2 vs2 h2 hu T hn hl=>by
  have z2:=wy h2
  have ai:=AtU.inn a h1 h2
  rw [show h++[(k:Int),(j:Int)]=h++[(k:Int)]++[(j:Int)] by simp] at ai
  exact hb c _ (m+1) _ bd ks2 vs2 ai (by omega) hu T hn hl
 have nx:∀ {ks2 ks3:List (List Key)}{i j:Int}{c:List Tr},i≠j->Nk ks2 (fun p=>∃ j y,p=h++[(k:Int)]++[j]++y/\j≠i)->ks3.Perm (ks2++(bp c (h++[(k:Int)]++[i])).map kp)->Nk ks3 (Ext (h++[(k:Int)]++[j])):=fun hij hn pm=>(hn.weak fun p ⟨a,y,e⟩=>⟨_,a::y,by rw [e];simp,fun z=>hij z.symm⟩).app (fun x hx ⟨a,y,e⟩=>by
  obtain ⟨a',y',e'⟩:=zaL _ _ _ hx
  rw [e'] at e
  simp at e
  exact hij e.1) pm
 show wpCs _ _ [_,_,_,_,_,_,_] [.sh (.tup (rowsD b)),.sh (.tup (h.map D.int)),.sh (.lst (rL us)),.sh (.ref 1),.sh (.int (k:Int)),x5,x6] _ _
 nofun
 refine zr hx ?_
 nofun
 rw [zy]
 refine zr e1 ?_
 cases t with
 | lf w x r=>
  obtain ⟨d,o⟩:=o
  have hl:Lw w:=o.1
  have fin:=fun x5 x6=>qq x5 x6 ks1 vs1 T1 (by rw [hk1];exact ϰ _)
  show nxt _ _ (.next [_,_,_,_,_,.sh (.tup (.str w::x::r)),_]) _
  nofun
  refine tst_F hl.fi ?_
  nofun
  refine tst_F hl.fw ?_
  nofun
  refine tst_F hl.ft ?_
  nofun
  refine tst_F hl.fd ?_
  nofun
  exact fin _ _
 | iff e b1 b2=>
  have z:(Tr.iff e b1 b2).size=1+(sizes b1+sizes b2):=rfl
  have nu:∀ j,¬ isUnd ((h++[(k:Int)],j,Tr.iff e b1 b2)::us):=fun j ⟨q,t,us',e,ht⟩=>by cases e;exact absurd ht i_d
  have er0:rL ((h++[(k:Int)],0,Tr.iff e b1 b2)::us)=rL us:=rfl
  have er1:rL ((h++[(k:Int)],1,Tr.iff e b1 b2)::us)=rL us:=rfl
  have s0:=sub 0 b1 bad ks1 vs1 rfl (fun z=>absurd z (nu 0)) T1 (nk1.weak fun p=>Wk) (by omega)
  rw [er0] at s0
  nofun
  rw [zy]
  refine wp_mono s0 ?_
  rintro _ _ ⟨rfl,ks2,vs2,rfl,T2,pm2⟩
  have l2:=pm2.length_eq
  have l2':=wV b1 (h++[(k:Int)]++[0])
  simp only [Α,Ζ] at l2
  have s1:=sub 1 b2 bad ks2 vs2 rfl (fun z=>absurd z (nu 1)) T2 (nx (i:=0) (by decide) (nk1.weak fun p ⟨j,y,e,_⟩=>⟨j,y,e⟩) pm2) (by
   have:(((0:Nat):Int))=0:=rfl
   rw [this] at l2
   omega)
  rw [er1] at s1
  nofun
  rw [zy]
  refine wp_mono s1 ?_
  rintro _ _ ⟨rfl,ks3,vs3,rfl,T3,pm3⟩
  have fin:=fun x5 x6=>qq x5 x6 ks3 vs3 T3 (by
   refine pm3.trans ((pm2.append_right _).trans ?_)
   rw [hk1,π,π,<- ϩ]
   exact ϰ _)
  nofun
  exact fin _ _
 | whl e b1=>
  have z:(Tr.whl e b1).size=1+sizes b1:=rfl
  have nu:∀ j,¬ isUnd ((h++[(k:Int)],j,Tr.whl e b1)::us):=fun j ⟨q,t,us',e,ht⟩=>by cases e;exact absurd (show ("while":Str)="do" from ht) (by decide)
  have er0:rL ((h++[(k:Int)],0,Tr.whl e b1)::us)=rL us:=rfl
  have hf2:=nk1.no (p:=h++[(k:Int)]++[0]) ⟨0,[],by simp⟩
  have T2:=Xq T1 hf2 (by simp) (.inr (Ar.btw (x:=0) a h1 (show ("while":Str)≠"do" from by decide)))
  have e2:=jT (v:=.lst (rL us)) (vs:=vs1) hf2 (by omega)
  have nk2:Nk (ks1++[kp (h++[(k:Int)]++[0])]) (Ext (h++[(k:Int)]++[0])):=(nk1.weak fun p=>Wk).app (l:=[h++[(k:Int)]++[0]]) (fun x hx ⟨j,y,e⟩=>by
   rw [Θ.mp hx] at e
   have:=congrArg dR e
   simp at this) (ϰ _)
  have s0:=sub 0 b1 bad _ _ rfl (fun z=>absurd z (nu 0)) T2 nk2 (by simp;omega)
  rw [er0] at s0
  nofun
  rw [zy]
  refine zr e2 ?_
  nofun
  rw [zy]
  refine wp_mono s0 ?_
  rintro _ _ ⟨rfl,ks3,vs3,rfl,T3,pm3⟩
  have fin:=fun x5 x6=>qq x5 x6 ks3 vs3 T3 (by
   refine pm3.trans ?_
   rw [hk1,π,π]
   exact ϰ _)
  nofun
  exact fin _ _
 | tri b1 x b2=>
  have z:(Tr.tri b1 x b2).size=1+(sizes b1+sizes b2):=rfl
  have nu:∀ j,¬ isUnd ((h++[(k:Int)],j,Tr.tri b1 x b2)::us):=fun j ⟨q,t,us',e,ht⟩=>by cases e;exact absurd ht t_d
  have er0:rL ((h++[(k:Int)],0,Tr.tri b1 x b2)::us)=[.tup [.str "try",.tup ((h++[(k:Int)]).map D.int)]]++rL us:=rfl
  have er1:rL ((h++[(k:Int)],1,Tr.tri b1 x b2)::us)=rL us:=rfl
  have s0:=sub 0 b1 bad ks1 vs1 rfl (fun z=>absurd z (nu 0)) T1 (nk1.weak fun p=>Wk) (by omega)
  rw [er0] at s0
  nofun
  rw [zy]
  refine opv_f (wH (by simp;omega)) ?_
  nofun
  refine wp_mono s0 ?_
  rintro _ _ ⟨rfl,ks2,vs2,rfl,T2,pm2⟩
  have l2:=pm2.length_eq
  have l2':=wV b1 (h++[(k:Int)]++[0])
  simp only [Α,Ζ] at l2
  have s1:=sub 1 b2 bad ks2 vs2 rfl (fun z=>absurd z (nu 1)) T2 (nx (i:=0) (by decide) (nk1.weak fun p ⟨j,y,e,_⟩=>⟨j,y,e⟩) pm2) (by
   have:(((0:Nat):Int))=0:=rfl
   rw [this] at l2
   omega)
  rw [er1] at s1
  nofun
  rw [zy]
  refine wp_mono s1 ?_
  rintro _ _ ⟨rfl,ks3,vs3,rfl,T3,pm3⟩
  have fin:=fun x5 x6=>qq x5 x6 ks3 vs3 T3 (by
   refine pm3.trans ((pm2.append_right _).trans ?_)
   rw [hk1,π,π,<- ϩ]
   exact ϰ _)
  nofun
  exact fin _ _
 | doo b1 b2=>
  have z:(Tr.doo b1 b2).size=1+(sizes b1+sizes b2):=rfl
  have erD:rL ((h++[(k:Int)],0,Tr.doo b1 b2)::us)=[.tup [.str "do",.tup ((h++[(k:Int)]).map D.int)]]++rL us:=rfl
  have erU:rL ((h++[(k:Int)],1,Tr.doo b1 b2)::us)=[.tup [.str "undoing",.tup ((h++[(k:Int)]).map D.int)]]++rL us:=rfl
  have hf2:=nk1.no (p:=h++[(k:Int)]++[1]) ⟨1,[],by simp⟩
  have T2:=Xq T1 hf2 (by simp) (.inr (Ar.btd (x:=1) a h1 rfl))
  have e2:=jT (v:=.lst (rL ((h++[(k:Int)],1,Tr.doo b1 b2)::us))) (vs:=vs1) hf2 (by omega)
  have nk2:∀ j:Int,Nk (ks1++[kp (h++[(k:Int)]++[1])]) (Ext (h++[(k:Int)]++[j])):=fun j=>(nk1.weak fun p=>Wk).app (l:=[h++[(k:Int)]++[1]]) (fun x hx ⟨j,y,e⟩=>by
   rw [Θ.mp hx] at e
   have:=congrArg dR e
   simp at this) (ϰ _)
  have s0:=sub 0 b1 bad _ _ rfl (fun ⟨q,t,us',e,ht⟩=>by cases e) T2 (nk2 _) (by simp;omega)
  rw [erD] at s0
  rw [erU] at e2
  nofun
  refine opv_f (wH (by simp;omega)) ?_
  nofun
  rw [zy]
  refine zr e2 ?_
  rw [<- erU]
  nofun
  rw [zy]
  refine opv_f (wH (by simp;omega)) ?_
  nofun
  refine wp_mono s0 ?_
  rintro _ _ ⟨rfl,ks3,vs3,rfl,T3,pm3⟩
  have l3:=pm3.length_eq
  have l3':=wV b1 (h++[(k:Int)]++[((0:Nat):Int)])
  simp only [Α,Ζ,Ϟ,dY] at l3
  have s1:=sub 1 b2 (fun x=>bad x\/x=h++[(k:Int)]++[((1:Nat):Int)]++[(b2.length:Int)]) ks3 vs3 rfl (fun _=>.inr rfl) (zbg T3 fun p z=>.inl z) ((nk2 _).app (fun x hx ⟨a,y,e⟩=>by
   obtain ⟨a',y',e'⟩:=zaL _ _ _ hx
   rw [e'] at e
   simp at e) pm3) (by omega)
  rw [erU] at s1
  nofun
  rw [zy]
  refine opv_f (wH (by simp;omega)) ?_
  nofun
  refine wp_mono s1 ?_
  rintro _ _ ⟨rfl,ks4,vs4,rfl,T4,pm4⟩
  have l4:=pm4.length_eq
  have l4':=wV b2 (h++[(k:Int)]++[((1:Nat):Int)])
  simp only [Α,Ζ] at l4
  obtain ⟨vs5,e5,T5⟩:=zbh T4 (by simp) (pm4.mem_iff.mpr (Τ.mpr (.inr (aM.mpr ⟨_,ς,rfl⟩)))) (Ar.und a h1 rfl rfl) (by omega)
  have f1:(h++[(k:Int)]).map D.int++[D.int 1,D.int ((rowsD b2).length:Int)]=(h++[(k:Int)]++[((1:Nat):Int)]++[(b2.length:Int)]).map D.int:=by simp [zU]
  have fin:=fun x5 x6=>qq x5 x6 ks4 vs5 T5 (by
   refine pm4.trans ((pm3.append_right _).trans ?_)
   rw [hk1,π,π,π,<- ϩ]
   exact ϰ _)
  nofun
  rw [f1]
  refine zr e5 ?_
  nofun
  exact fin _ _
end
theorem rd_go {rs:List Tr}{p0:D}{n K d:Nat}(hs:sizes rs<=24) (o:oks rs d) (hb:1<=n->RdAt rs p0 K (n - 1)):RdAt rs p0 (K+1) n:=by
 intro b h m us bad ks vs a hn hu T nk hl
 have hlen:=lenle hs a.at
 have hz:=a.at.size
 obtain ⟨d',ob⟩:=a.at.ok o
 have hbl:b.length<=sizes b:=by
  clear a hn hu hl hz ob
  induction b with
  | nil=>exact ν _
  | cons r b ih=>
   have:=vh r
   show b.length+1<=r.size+sizes b
   omega
 refine vL (x0:=.tup (rowsD b)) (x1:=.tup (h.map D.int)) (x2:=.lst (rL us)) (x3:=.ref 1) ?_
 nofun
 rw [zU]
 refine tst_T (by simp [fits,LIM];omega) ?_
 refine wp_walk (fun l ρ S'=>∃ (k:Nat) (x4 x5 x6:Slot) (ks':List (List Key)) (vs':List D),k<=b.length/\l=z8 (k:Int) (b.length:Int)/\ρ=[.sh (bD b),.sh (tupI h),.sh (.lst (rL us)),.sh (.ref 1),x4,x5,x6]/\S'=[p0,.dT ks' vs']/\Tbl (Qr rs bad) ks' vs'/\ks'.Perm (ks++(rps (b.take k) h 0).map kp)) ?_ ?_ _ _ _ ⟨0,.no,.no,.no,ks,vs,bF _,rfl,rfl,rfl,T,by simp [rps]⟩
 ·rintro d1 l ρ S' ⟨k,x4,x5,x6,ks',vs',hk,el,rfl,rfl,T',pm⟩
  by_cases hkl:k < b.length
  ·rw [Xu (by omega)] at el
   cases el
   have h1:b[k]?=some b[k]:=ξ hkl
   have hsz:=jP h1
   have hsp:=vh b[k]
   have ot:=wO ob h1
   have lp:=pm.length_eq
   have l2:=zZ (b.take k) h 0
   have l3:sizes (b.take k)+sizes (b.drop k)=sizes b:=by rw [<- yH,aJ]
   have l4:=uZ h1
   simp only [Α,Ζ] at lp
   refine zO (a:=[.sh (bD b),.sh (tupI h),.sh (.lst (rL us)),.sh (.ref 1),.sh (.int (k:Int)),x5,x6]) rfl ?_
   refine zbf (hb (by omega)) ot (by omega) (by omega) (by omega) a h1 T' ((nk.weak fun p ⟨y,e⟩=>⟨_,y,e⟩).app (fun x hx ⟨y,e⟩=>?_) pm) (by omega) fun x5 x6 ks2 vs2 T2 pm2=>?_
   ·obtain ⟨j,y',_,h2,e'⟩:=yd _ _ _ _ hx
    rw [e'] at e
    simp at e h2
    omega
   ·refine ⟨k+1,_,x5,x6,ks2,vs2,hkl,rfl,rfl,rfl,T2,pm2.trans ((pm.append_right _).trans ?_)⟩
    rw [List.take_succ_eq_append_getElem hkl,Yk,ϩ,π,aA,Nat.min_eq_left hk,bL]
    simp [rps]
  ·rw [zbk (by omega)] at el
   cases el
 ·rintro ρ S' ⟨k,x4,x5,x6,ks',vs',hk,el,rfl,rfl,T',pm⟩
  by_cases hkl:k < b.length
  ·rw [Xu (by omega)] at el
   cases el
  ·have e:k=b.length:=by omega
   subst e
   rw [List.take_length] at pm
   have lp:=pm.length_eq
   have l2:=zZ b h 0
   simp only [Α,Ζ] at lp
   have nk2:Nk ks' fun p=>p=h++[(b.length:Int)]:=(nk.weak fun p e=>⟨(b.length:Int),[],by rw [e];simp⟩).app (fun x hx e=>by
    obtain ⟨j,y',_,h2,e'⟩:=yd _ _ _ _ hx
    rw [e'] at e
    simp at e h2
    omega) pm
   have hf:=nk2.no rfl
   have hq:bad (h++[(b.length:Int)])\/Ar rs (h++[(b.length:Int)]) us:=by
    by_cases hi:isUnd us
    ·exact .inl (hu hi)
    ·exact .inr (.row a fun q t us' e ht=>absurd ⟨q,t,us',e,ht⟩ hi)
   have T2:=Xq T' hf (by simp) hq
   nofun
   rw [zU,zy]
   refine zr (jT hf (by omega)) ?_
   nofun
   refine ⟨rfl,_,_,rfl,T2,?_⟩
   refine (pm.append_right _).trans ?_
   rw [π]
   exact lN _ (List.perm_append_singleton _ _)
theorem rd_at {rs:List Tr}{p0:D}{d:Nat}(hs:sizes rs<=24) (o:oks rs d):∀ (n K:Nat),n+1<=K->RdAt rs p0 K n:=by
 intro n
 induction n with
 | zero=>
  intro K hK
  obtain ⟨K,rfl⟩:∃ k,K=k+1:=⟨K - 1,by omega⟩
  exact rd_go hs o fun h=>absurd h (by decide)
 | succ n ih=>
  intro K hK
  obtain ⟨K,rfl⟩:∃ k,K=k+1:=⟨K - 1,by omega⟩
  exact rd_go hs o fun _=>ih K (by omega)
theorem jk:∀ (ps:List P),(∀ p∈ps,p≠[])->yO (ps.map kp)=some ps
 | [],_=>rfl
 | p::ps,h=>by
  have hp:=h p ς
  show (kInts (kp p)).bind (fun n=>if n.isEmpty then none else (yO (ps.map kp)).map (n::·))=_
  rw [kh]
  show (if p.isEmpty=true then none else (yO (ps.map kp)).map (p::·))=_
  rw [if_neg (by cases p with | nil=>exact absurd rfl hp | cons _ _=>simp),jk ps fun x hx=>h x (ι _ hx)];rfl
noncomputable def unk (k:List Key):P:=(kInts k).getD []
theorem Q7 (p:P):unk (kp p)=p:=by unfold unk;rw [kh];rfl
theorem Jb:∀ (ks:List (List Key)),(∀ k∈ks,∃ p:P,k=kp p)->ks=(ks.map unk).map kp
 | [],_=>rfl
 | k::ks,h=>by
  obtain ⟨p,rfl⟩:=h k ς
  rw [Ρ,Ρ,Q7,<- Jb ks fun x hx=>h x (ι _ hx)]
theorem Zn:∀ {ks:List (List Key)}{vs:List D}{d:D},d∈yw ks vs->∃ k v,ent ks vs k v/\d=.tup [.tup (k.map keyOf),v]
 | [],vs,d,h=>absurd h (by simp [yw])
 | _::_,[],d,h=>absurd h (by simp [yw])
 | k::ks,v::vs,d,h=>by
  rcases Ξ.mp (show d∈D.tup [.tup (k.map keyOf),v]::yw ks vs from h) with rfl | h
  ·exact ⟨k,v,⟨0,rfl,rfl⟩,rfl⟩
  ·obtain ⟨k',v',⟨i,h1,h2⟩,e⟩:=Zn h
   exact ⟨k',v',⟨i+1,h1,h2⟩,e⟩
theorem Qq (p:P):(kp p).map keyOf=p.map D.int:=by unfold kp;rw [eO];rfl
theorem law_wp (ns:List Int) (hn:ns.length<=63):callW F wh 60 31 [.scr ns] (fun x _=>x.1=.bl true) []:=by
 refine w_law ?_
 nofun
 refine wp_mono (zdo ns hn (by decide) []) ?_
 rintro _ _ ⟨rfl,cs,m,rfl,p⟩
 nofun
 refine wp_mono (zL (by decide) (by decide) p) ?_
 rintro _ _ ⟨v,a,m,rfl,v0,v1,p,rfl⟩
 nofun
 refine wp_mono (JF (by decide) v0 v1 p) ?_
 rintro _ _ ⟨ps,rs,a,m,n,rfl,o,hs,rfl⟩
 nofun
 refine wp_mono (rd_at hs o 24 59 (by decide) rs [] 0 [] (fun _=>False) [] [] AtU.top hs (fun ⟨q,t,us',e,_⟩=>by cases e) ⟨rfl,fun k v e=>by obtain ⟨i,e,_⟩:=e;simp at e⟩ (fun k hk=>absurd hk dC) (by simp;omega)) ?_
 rintro _ _ ⟨rfl,ks,vs,rfl,T,pm⟩
 rw [bM] at pm
 have hbl:=wV rs []
 have hk:∀ k∈ks,∃ p:P,k=kp p:=fun k hk=>by
  obtain ⟨x,_,rfl⟩:=aM.mp (pm.mem_iff.mp hk)
  exact ⟨x,rfl⟩
 have ek:=Jb ks hk
 have pm2:(ks.map unk).Perm (bp rs []):=by
  have:=pm.map unk
  rw [eO] at this
  have e:(bp rs []).map (unk∘kp)=bp rs []:=by
   have:∀ l:List P,l.map (unk∘kp)=l:=fun l=>by
    induction l with
    | nil=>rfl
    | cons x l ih=>rw [Ρ,ih];show unk (kp x)::l=_;rw [Q7]
   exact this _
  rw [e] at this
  exact this
 have lp:=pm2.length_eq
 have e1:yO ks=some (ks.map unk):=by
  have:=jk (ks.map unk) fun p hp=>bp_ne rs [] p (pm2.mem_iff.mp hp)
  rw [<- ek] at this
  exact this
 have es:sortL (ks.map unk)=sortL (bp rs []):=jN ((vO _).trans pm2) (Yi _)
 nofun
 refine wp_mono (Uj (rs:=rs) (ps:=ps) o hs (by decide) _) ?_
 rintro _ _ ⟨rfl,rfl⟩
 nofun
 refine opv_f (za1 e1 (by omega)) ?_
 rw [es]
 nofun
 refine zr (W8 (v4 58 _)) ?_
 nofun
 refine zav (ks:=ks) (ds:=vs) rfl ?_
 refine wp_walk (fun l ρ S'=>∃ (x4 x5:Slot),(∀ d∈l,∃ p us,d=.tup [tupI p,.lst (rL us)]/\Ar rs p us)/\ρ=[.sh (.scr ns),.sh (.ref 0),.sh (er rs ps),.sh (.ref 1),x4,x5]) ?_ ?_ _ _ _ ⟨.no,.no,fun d hd=>?_,rfl⟩
 ·rintro d1 l ρ S ⟨x4,x5,hd,rfl⟩
  obtain ⟨p,us,rfl,ar⟩:=hd _ ς
  refine zO (a:=[.sh (.scr ns),.sh (.ref 0),.sh (er rs ps),.sh (.ref 1),.sh (tupI p),.sh (.lst (rL us))]) rfl ?_
  nofun
  refine wp_mono (QG (ps:=ps) hs o ar (by decide)) ?_
  rintro _ _ ⟨rfl,rfl⟩
  nofun
  refine wp_mono (zbN (ps:=ps) hs o ar (by decide)) ?_
  rintro _ _ ⟨rfl,rfl⟩
  nofun
  exact ⟨_,_,fun x hx=>hd x (ι _ hx),rfl⟩
 ·rintro ρ S ⟨x4,x5,_,rfl⟩
  nofun
  rfl
 ·obtain ⟨k,v,e,rfl⟩:=Zn hd
  obtain ⟨p,us,rfl,rfl,_,z⟩:=T.all k v e
  exact ⟨p,us,by rw [Qq];rfl,z.resolve_left id⟩
theorem run_law:∀ ns:List Int,ns.length<=63->callW (fnsOf rs) wh 60 31 [.scr ns] (fun x _=>x.1=.bl true) []:=law_wp
noncomputable def zdX:PySem.DefRec:=EV.drOf (top 34)
end Q35
open PySem PySem.W PyProof.Rows
set_option maxRecDepth 100000 in
set_option maxHeartbeats 0 in
theorem PySem.Challenge.cw_errandroom_k35_whole_the_way_out_holds : PySem.Challenge.rw_errandroom_k35_whole_the_way_out.Holds := by
 refine EV.zek (q := Q35.zb1) (d := Q35.zdX) (B := Q35.B) (rs := Q35.rs) (f := 31) (r := Q35.r_law) (y := "_law_script") (wh := Q35.wh) 4000 400 ?s ?l ?a ?b ?c ?k ⟨rfl, rfl, rfl, rfl, rfl, by decide +kernel⟩ ?w rfl ?e rfl ?g rfl Q35.tabs Q35.run_law
 case s => kernel_rfl
 case l => exact Q35.zL0
 case a => kernel_rfl
 case b => kernel_rfl
 case c => kernel_rfl
 case k => kernel_rfl
 case w => w_witness2
 case e => kernel_rfl
 case g => kernel_rfl
