import PyProof.Rows.All
import Wide.All
import OpenK.AllK
import Wide.FinOn
import Lean
import PyProof.EqAt
import PyProof.EqKinds
import PyProof.TupleCall
import PyProof.EnumMake
import PyProof.EnumIter
import PyProof.EnumFor
import PyProof.EnumStmt
import PyProof.WalksEnum
import PyProof.ListMulRoad
import PyProof.NeKinds
import PyProof.SumWalkG
import PyProof.Rows.SumGenD
import PyProof.CompMap
import PySem.Challenge.RW_errandroom_k63_diaries_that_pair_off
set_option Elab.async false
set_option linter.all false
set_option maxRecDepth 100000
set_option maxHeartbeats 4000000
set_option tactic.hygienic false
set_option backward.match.sparseCases false
set_option genSizeOfSpec false
set_option bootstrap.genMatcherCode false
set_option compiler.extract_closed false
namespace L2
open PySem PySem.Spec PyProof.Rows
noncomputable abbrev Key := Sum Int Str
noncomputable def keyIs : Key -> Value -> Bool
 | .inl k, v => Value.isInt k v
 | .inr x, v => Value.isStrOf x v
noncomputable def keyH (w : World) : Key -> Int
 | .inl k => hashInt k
 | .inr x => hashStr w x
theorem keyIs_shape : ∀ {k : Key} {v : Value}, keyIs k v = true -> (∃ i t, k = Sum.inl i /\ v = Value.int i t) \/ (∃ x t, k = Sum.inr x /\ v = Value.str x t)
 | .inl i, v, h => by
  obtain ⟨t, e⟩ := Value.isInt_shape (k := i) (v := v) h
  exact .inl ⟨i, t, rfl, e⟩
 | .inr x, v, h => by
  obtain ⟨t, e⟩ := Value.isStrOf_shape (x := x) (v := v) h
  exact .inr ⟨x, t, rfl, e⟩
theorem keyIs_int (i : Int) (t : Tok) : keyIs (.inl i) (.int i t) = true := by simp [keyIs, Value.isInt]
theorem keyIs_str (x : Str) (t : Tok) : keyIs (.inr x) (.str x t) = true := by simp [keyIs, Value.isStrOf]
theorem key_ll (a b : Int) : decide ((Sum.inl a : Key) = Sum.inl b) = (a == b) := by
 by_cases e : a = b
 ·subst e; simp
 ·have h : ¬ (Sum.inl a : Key) = Sum.inl b := fun q => e (Sum.inl.inj q)
  rw [decide_eq_false h]
  exact (beq_eq_false_iff_ne.mpr e).symm
theorem key_rr (a b : Str) : decide ((Sum.inr a : Key) = Sum.inr b) = decide (a = b) := by
 by_cases e : a = b
 ·subst e; simp
 ·have h : ¬ (Sum.inr a : Key) = Sum.inr b := fun q => e (Sum.inr.inj q)
  rw [decide_eq_false h, decide_eq_false e]
theorem key_lr (a : Int) (b : Str) : decide ((Sum.inl a : Key) = Sum.inr b) = false := decide_eq_false (fun q => nomatch q)
theorem key_rl (a : Str) (b : Int) : decide ((Sum.inr a : Key) = Sum.inl b) = false := decide_eq_false (fun q => nomatch q)
noncomputable def mixKind (prog : Program) (w : World) : PySem.KeyKind prog w Key where
 is := keyIs
 hash := keyH w
 inj := fun v a b ha hb => by
  rcases keyIs_shape ha with ⟨i, t, rfl, rfl⟩ | ⟨x, t, rfl, rfl⟩
  ·rcases keyIs_shape hb with ⟨j, u, rfl, e⟩ | ⟨y, u, rfl, e⟩
   ·injection e with e1 _; rw [e1]
   ·exact nomatch e
  ·rcases keyIs_shape hb with ⟨j, u, rfl, e⟩ | ⟨y, u, rfl, e⟩
   ·exact nomatch e
   ·injection e with e1 _; rw [e1]
 byValue := fun k v h => by
  rcases keyIs_shape h with ⟨i, t, rfl, rfl⟩ | ⟨x, t, rfl, rfl⟩ <;> rfl
 pyHash := fun hv h => by
  rcases keyIs_shape hv with ⟨i, t, rfl, rfl⟩ | ⟨x, t, rfl, rfl⟩
  ·exact wpAny_pyHash_int h
  ·exact wpAny_pyHash_str h
 eqBool := fun hu hv h => by
  rcases keyIs_shape hu with ⟨i, t, rfl, rfl⟩ | ⟨x, t, rfl, rfl⟩
  ·rcases keyIs_shape hv with ⟨j, u, rfl, rfl⟩ | ⟨y, u, rfl, rfl⟩
   ·rw [key_ll] at h; exact wpAny_eqBool_int h
   ·rw [key_lr] at h; exact SeqAt.EqAt.int_str i t y u _ _ _ _ h
  ·rcases keyIs_shape hv with ⟨j, u, rfl, rfl⟩ | ⟨y, u, rfl, rfl⟩
   ·rw [key_rl] at h; exact SeqAt.EqAt.str_int x t j u _ _ _ _ h
   ·rw [key_rr] at h; exact wpAny_eqBool_str h
 «strs» := fun k x t v h => by
  rcases keyIs_shape h with ⟨i, u, rfl, e⟩ | ⟨y, u, rfl, e⟩
  ·exact nomatch e
  ·injection e with e1 _
   subst e1
   cases v <;> rfl
theorem mixKind_int (prog : Program) (w : World) (i : Int) (t : Tok) : (mixKind prog w).is (.inl i) (.int i t) = true := keyIs_int i t
theorem mixKind_str (prog : Program) (w : World) (x : Str) (t : Tok) : (mixKind prog w).is (.inr x) (.str x t) = true := keyIs_str x t
end L2
namespace L2
open PySem PySem.Spec PyProof.Rows
inductive V where
 | non | bl (b : Bool) | int (i : Int) | str (x : Str) | byt (b : Array UInt8) | flt (b : UInt64) | ref (a : Addr) | ty (n : String)
 deriving DecidableEq
noncomputable def RelV : V -> Value -> Prop
 | .non, u => u = Value.none
 | .bl b, u => u = Value.bool b
 | .int i, u => ∃ t, u = Value.int i t
 | .str x, u => ∃ t, u = Value.str x t
 | .byt b, u => ∃ t, u = Value.bytes b t
 | .flt b, u => ∃ t, u = Value.float b t
 | .ref a, u => u = Value.ref a
 | .ty n, u => u = Value.type n
noncomputable abbrev Vals : List V -> List Value -> Prop := Paired RelV
theorem Vals.length {xs : List V} {us : List Value} (r : Vals xs us) : xs.length = us.length := Paired.length r
theorem Vals.get : ∀ {xs : List V} {us : List Value} {i : Nat} {x : V}, Vals xs us -> xs[i]? = some x -> ∃ u, us[i]? = some u /\ RelV x u
 | _, _, _, _, .nil, e => by simp at e
 | _, _, 0, _, .cons r _, e => by simp at e; subst e; exact ⟨_, rfl, r⟩
 | _, _, i + 1, x, .cons _ t, e => by
  obtain ⟨u, h1, h2⟩ := Vals.get (i := i) (x := x) t (by simpa using e)
  exact ⟨u, by simpa using h1, h2⟩
theorem Vals.set {x : V} {u : Value} (r : RelV x u) : ∀ {xs : List V} {us : List Value} (i : Nat), Vals xs us -> Vals (xs.set i x) (us.set i u)
 | _, _, _, .nil => .nil
 | _, _, 0, .cons _ t => .cons r t
 | _, _, i + 1, .cons q t => .cons q (Vals.set r i t)
theorem Vals.append : ∀ {xs ys : List V} {us ws : List Value}, Vals xs us -> Vals ys ws -> Vals (xs ++ ys) (us ++ ws)
 | _, _, _, _, .nil, s => s
 | _, _, _, _, .cons r t, s => .cons r (Vals.append t s)
theorem Vals.take : ∀ {xs : List V} {us : List Value} (n : Nat), Vals xs us -> Vals (xs.take n) (us.take n)
 | _, _, 0, _ => .nil
 | _, _, _ + 1, .nil => .nil
 | _, _, n + 1, .cons r t => .cons r (Vals.take n t)
theorem Vals.drop : ∀ {xs : List V} {us : List Value} (n : Nat), Vals xs us -> Vals (xs.drop n) (us.drop n)
 | _, _, 0, r => r
 | _, _, _ + 1, .nil => .nil
 | _, _, n + 1, .cons _ t => Vals.drop n t
noncomputable def RelO : Option V -> Option Value -> Prop
 | some v, some u => RelV v u
 | none, none => True
 | _, _ => False
noncomputable def KV {κ : Type} : List (κ × V) -> List (κ × Value) -> Prop := Paired fun (p : κ × V) (q : κ × Value) => p.1 = q.1 /\ RelV p.2 q.2
noncomputable def kV : Key -> V
 | .inl i => .int i
 | .inr x => .str x
inductive HO where
 | lst (xs : List V)
 | tup (xs : List V)
 | dK (kvs : List (Key × V)) | dT (kvs : List (List Key × V))
 | set (S : Int -> Bool) (n : Nat)
 | ins (C dx : Addr) (fs : List (Str × V))
 | own (x : Addr)
 | xd (fs : List (Str × V))
 | met (f x : Addr)
 | rng (lo hi : Int)
 | frz (o : Obj) (u : HO)
 | tbl (ps : Array Value)
 | ext (φ : Heap -> Prop)
noncomputable abbrev Hp := Addr -> Option HO
noncomputable def upd (H : Hp) (a : Addr) (o : HO) : Hp := fun b => if b = a then some o else H b
theorem upd_same {H : Hp} {a : Addr} {o : HO} : upd H a o a = some o := by unfold upd; rw [if_pos rfl]
theorem upd_ne {H : Hp} {a b : Addr} {o : HO} (h : b ≠ a) : upd H a o b = H b := by unfold upd; rw [if_neg h]
theorem ne_of {H : Hp} {a b : Addr} {o u : HO} (h : H a = some o) (h' : H b = some u) (d : o ≠ u) : a ≠ b := by
 intro e; subst e; rw [h] at h'; exact d (Option.some.inj h')
theorem ne_of_none {H : Hp} {a b : Addr} {o : HO} (h : H a = some o) (h' : H b = none) : a ≠ b := by
 intro e; subst e; rw [h] at h'; cases h'
section
variable (P : Program) (w : World)
noncomputable def ObjOk (H : Hp) (h : Heap) (a : Addr) : HO -> Prop
 | .lst xs => xs.length <= sizeLine /\ ∃ (its : List Value) (n : Nat), Vals xs its /\ h.get? a = some { cls := .type "list", data := .seq its.toArray n }
 | .tup xs => xs.length <= sizeLine /\ ∃ its : List Value, Vals xs its /\ IsTup h a its.toArray
 | .dK kvs => kvs.length <= sizeLine /\ (a == sysModules) = false /\ ∃ vs, KV kvs vs /\ h.DictOf (mixKind P w) a vs
 | .dT kvs => kvs.length <= sizeLine /\ (a == sysModules) = false /\ ∃ xs : List (List Key × Addr × Value),
   Paired (fun (p : List Key × V) (q : List Key × Addr × Value) => p.1 = q.1 /\ H q.2.1 = some (.tup (p.1.map kV)) /\ RelV p.2 q.2.2) kvs xs /\
   ∃ o es ep, h.get? a = some o /\ o.ExactDict /\ o.data = .dict es ep /\ es.toList = xs.map (entryOfKey (tupleKind (mixKind P w))) /\ (xs.map (·.1)).Nodup
 | .set S n => h.SetOf (intKind P w) a S n
 | .ins C dx fs => H dx = some (.own a) /\ fs.length <= 1000 /\ dx ≠ a /\ h.get? a = some (PySem.W.instObj C dx) /\
   ∃ mA, h.Ns1 dx mA /\ (∀ f, RelO (fs.lookup f) (mA f)) /\ PySem.Within mA (fs.map (·.1))
 | .own _ => ∃ o, h.get? a = some o
 | .xd fs => ∃ mA, h.Ns1 a mA /\ ∀ f, RelO (fs.lookup f) (mA f)
 | .rng lo hi => ∃ t u v, h.get? a = some { cls := .type "range", data := .fields #[.int lo t, .int hi u, .int 1 v] }
 | .frz o u => h.get? a = some o /\ ObjOk H h a u
 | .tbl ps => h.get? a = some { cls := .none, data := .fields ps }
 | .met f x => h.get? a = some (PySem.W.methodObj (.ref f) (.ref x))
 | .ext φ => φ h /\ (∃ o, h.get? a = some o) /\ ∀ h1 h2 : Heap, φ h1 -> (∀ o, h1.get? a = some o -> h2.get? a = some o) -> φ h2
noncomputable def HOk (H : Hp) (h : Heap) : Prop := ∀ a o, H a = some o -> ObjOk P w H h a o
end
section
variable {P : Program} {w : World} {H H' : Hp} {h h' : Heap} {a : Addr} {o : HO}
theorem ObjOk.lt (x : ObjOk P w H h a o) : a < h.objs.size := by
 cases o with
 | lst xs => obtain ⟨_, _, _, _, e⟩ := x; exact Heap.lt_size e
 | tup xs => obtain ⟨_, _, _, p⟩ := x; exact p.lt
 | dK kvs => obtain ⟨_, _, _, _, o, _, _, e, _⟩ := x; exact Heap.lt_size e
 | dT kvs => obtain ⟨_, _, _, _, o, _, _, e, _⟩ := x; exact Heap.lt_size e
 | set S n => obtain ⟨o, _, _, _, e, _⟩ := x; exact Heap.lt_size e
 | ins C dx fs => obtain ⟨_, _, _, e, _⟩ := x; exact Heap.lt_size e
 | own y => obtain ⟨_, e⟩ := x; exact Heap.lt_size e
 | xd fs => obtain ⟨_, ⟨_, _, _, e, _⟩, _⟩ := x; exact Heap.lt_size e
 | rng lo hi => obtain ⟨_, _, _, e⟩ := x; exact Heap.lt_size e
 | frz ob u => obtain ⟨e, _⟩ := x; exact Heap.lt_size e
 | tbl ps => exact Heap.lt_size (show h.get? a = some _ from x)
 | met f y => exact Heap.lt_size (show h.get? a = some _ from x)
 | ext φ => obtain ⟨_, ⟨_, e⟩, _⟩ := x; exact Heap.lt_size e
theorem Paired.mapP {α β : Type} {F G : α -> β -> Prop} : ∀ {l₁ : List α} {l₂ : List β}, Paired F l₁ l₂ -> (∀ a b, F a b -> G a b) -> Paired G l₁ l₂
 | _, _, .nil, _ => .nil
 | _, _, .cons r t, f => .cons (f _ _ r) (Paired.mapP t f)
theorem ObjOk.stay (x : ObjOk P w H h a o) (k : ∀ b u, (b = a \/ H b = some (.own a)) -> h.get? b = some u -> h'.get? b = some u)
  (ho : ∀ b, H b = some (.own a) -> H' b = some (.own a)) (ht : ∀ b xs, H b = some (.tup xs) -> H' b = some (.tup xs)) : ObjOk P w H' h' a o := by
 induction o with
 | lst xs => obtain ⟨z, its, n, r, e⟩ := x; exact ⟨z, its, n, r, k _ _ (.inl rfl) e⟩
 | tup xs => obtain ⟨z, its, r, ob, e, c⟩ := x; exact ⟨z, its, r, ob, k _ _ (.inl rfl) e, c⟩
 | dK kvs => obtain ⟨z, y, vs, r, ob, es, ep, e, c⟩ := x; exact ⟨z, y, vs, r, ob, es, ep, k _ _ (.inl rfl) e, c⟩
 | dT kvs =>
  obtain ⟨z, y, xs, r, ob, es, ep, e, c⟩ := x
  exact ⟨z, y, xs, Paired.mapP r fun p q z => ⟨z.1, ht _ _ z.2.1, z.2.2⟩, ob, es, ep, k _ _ (.inl rfl) e, c⟩
 | set S n => obtain ⟨ob, es, ep, t, e, c⟩ := x; exact ⟨ob, es, ep, t, k _ _ (.inl rfl) e, c⟩
 | ins C dx fs =>
  obtain ⟨d, z, ne, e, mA, ⟨od, es, ep, e2, c⟩, r⟩ := x
  exact ⟨ho _ d, z, ne, k _ _ (.inl rfl) e, mA, ⟨od, es, ep, k _ _ (.inr d) e2, c⟩, r⟩
 | own y => obtain ⟨ob, e⟩ := x; exact ⟨ob, k _ _ (.inl rfl) e⟩
 | xd fs => obtain ⟨mA, ⟨od, es, ep, e, c⟩, r⟩ := x; exact ⟨mA, ⟨od, es, ep, k _ _ (.inl rfl) e, c⟩, r⟩
 | rng lo hi => obtain ⟨t, u, v, e⟩ := x; exact ⟨t, u, v, k _ _ (.inl rfl) e⟩
 | frz ob u ih => obtain ⟨e, q⟩ := x; exact ⟨k _ _ (.inl rfl) e, ih q⟩
 | tbl ps =>
  have e : h.get? a = some { cls := .none, data := .fields ps } := x
  show h'.get? a = some { cls := .none, data := .fields ps }
  exact k a _ (.inl rfl) e
 | met f y =>
  have e : h.get? a = some (PySem.W.methodObj (.ref f) (.ref y)) := x
  show h'.get? a = some (PySem.W.methodObj (.ref f) (.ref y))
  exact k a _ (.inl rfl) e
 | ext φ => obtain ⟨p, ⟨o, e⟩, st⟩ := x; exact ⟨st _ _ p fun o q => k _ _ (.inl rfl) q, ⟨o, k _ _ (.inl rfl) e⟩, st⟩
theorem HOk.lt (x : HOk P w H h) (e : H a = some o) : a < h.objs.size := (x a o e).lt
theorem HOk.fresh (x : HOk P w H h) (e : h.objs.size <= a) : H a = none := by
 cases q : H a with
 | none => rfl
 | some u => exact absurd (Nat.lt_of_lt_of_le (x.lt q) e) (Nat.lt_irrefl _)
theorem HOk.kept (x : HOk P w H h) (k : ∀ b u, h.get? b = some u -> h'.get? b = some u) : HOk P w H h' := fun a o e =>
 (x a o e).stay (fun b u _ q => k b u q) (fun _ q => q) fun _ _ q => q
theorem HOk.laid (x : HOk P w H h) (k : ∀ b u, h.get? b = some u -> h'.get? b = some u) (hp : h.objs.size <= a) (new : ObjOk P w (upd H a o) h' a o) : HOk P w (upd H a o) h' := fun b u e => by
 have hn := x.fresh hp
 by_cases hb : b = a
 ·subst hb; rw [upd_same] at e; cases e; exact new
 ·rw [upd_ne hb] at e
  exact (x b u e).stay (fun c v _ q => k c v q) (fun c q => by rw [upd_ne (ne_of_none q hn)]; exact q) fun c xs q => by rw [upd_ne (ne_of_none q hn)]; exact q
end
noncomputable def Rd (H : Hp) (a : Addr) (u : HO) : Prop := H a = some u \/ ∃ o, H a = some (.frz o u)
theorem Rd.ok {P : Program} {w : World} {H : Hp} {h : Heap} {a : Addr} {u : HO} (r : Rd H a u) (x : HOk P w H h) : ObjOk P w H h a u := by
 rcases r with r | ⟨o, r⟩
 ·exact x a u r
 ·obtain ⟨_, q⟩ := x a _ r
  exact q
noncomputable def Mut : Option HO -> Prop
 | some (.lst _) => True
 | some (.dK _) => True
 | some (.dT _) => True
 | some (.set _ _) => True
 | some (.ins _ _ _) => True
 | some (.ext _) => True
 | _ => False
section
variable {P : Program} {w : World} {H : Hp} {h h' : Heap} {x e : Addr} {o' : HO}
theorem HOk.write (ok : HOk P w H h) (mu : Mut (H x)) (he : e = x \/ H e = some (.own x)) (k : ∀ b u, b ≠ e -> h.get? b = some u -> h'.get? b = some u) (heo : ∃ u, h'.get? e = some u)
  (new : ObjOk P w (upd H x o') h' x o') : HOk P w (upd H x o') h' := fun b u q => by
 have nown : ∀ c y, H c = some (.own y) -> c ≠ x := fun c y r z => by subst z; rw [r] at mu; exact mu
 have ntup : ∀ c xs, H c = some (.tup xs) -> c ≠ x := fun c xs r z => by subst z; rw [r] at mu; exact mu
 by_cases hb : b = x
 ·subst hb; rw [upd_same] at q; cases q; exact new
 ·rw [upd_ne hb] at q
  by_cases hbe : b = e
  ·have q' : H b = some (.own x) := by
    rcases he with z | z
    ·exact absurd (hbe.trans z) hb
    ·rw [hbe]; exact z
   rw [q] at q'; cases q'
   obtain ⟨v, hv⟩ := heo
   exact ⟨v, by rw [hbe]; exact hv⟩
  ·refine (ok b u q).stay (fun c v hc r => k c v ?_ r) (fun c r => by rw [upd_ne (nown c b r)]; exact r) fun c xs r => by rw [upd_ne (ntup c xs r)]; exact r
   rcases hc with rfl | hc
   ·exact hbe
   ·rintro rfl
    rcases he with z | z
    ·exact nown c b hc z
    ·rw [hc] at z; cases z; exact hb rfl
end
structure Un (fs ex : List Addr) (H H' : Hp) (h h' : Heap) : Prop where
 keep : ∀ b o, h.get? b = some o -> H b = none -> b ∉ fs -> b ∉ ex -> h'.get? b = some o
 slot : ∀ b o, h.get? b = some o -> H b = none -> b ∈ fs -> b ∉ ex -> ∃ sl, h'.get? b = some { o with slots := sl }
 free : ∀ b o, h.get? b = some o -> H b = none -> b ∉ ex -> H' b = none
 there : ∀ b o, h.get? b = some o -> b ∉ ex -> ∃ o', h'.get? b = some o'
 tups : ∀ b xs, H b = some (.tup xs) -> H' b = some (.tup xs)
 frzs : ∀ b o u, H b = some (.frz o u) -> H' b = some (.frz o u)
 tbls : ∀ b ps, H b = some (.tbl ps) -> ∃ more, H' b = some (.tbl (ps ++ more))
section
variable {fs fs' ex ex' : List Addr} {H H1 H2 : Hp} {h h1 h2 h' : Heap} {a x e : Addr} {o : HO}
theorem Un.any (u : Un fs ex H H1 h h1) {b : Addr} {ob : Obj} (q : h.get? b = some ob) (n : H b = none) (hx : b ∉ ex) : ∃ sl, h1.get? b = some { ob with slots := sl } := by
 by_cases hb : b ∈ fs
 ·exact u.slot b ob q n hb hx
 ·exact ⟨ob.slots, u.keep b ob q n hb hx⟩
theorem Un.trans (a : Un fs ex H H1 h h1) (b : Un fs ex H1 H2 h1 h2) : Un fs ex H H2 h h2 where
 keep := fun c ob q n hc hx => b.keep c ob (a.keep c ob q n hc hx) (a.free c ob q n hx) hc hx
 slot := fun c ob q n hc hx => by
  obtain ⟨sl, e1⟩ := a.slot c ob q n hc hx
  obtain ⟨sl', e2⟩ := b.slot c _ e1 (a.free c ob q n hx) hc hx
  exact ⟨sl', e2⟩
 free := fun c ob q n hx => by
  obtain ⟨o', e1⟩ := a.there c ob q hx
  exact b.free c o' e1 (a.free c ob q n hx) hx
 there := fun c ob q hx => by
  obtain ⟨o', e1⟩ := a.there c ob q hx
  exact b.there c o' e1 hx
 tups := fun c xs q => b.tups c xs (a.tups c xs q)
 frzs := fun c ob xs q => b.frzs c ob xs (a.frzs c ob xs q)
 tbls := fun c ps q => by
  obtain ⟨m1, e1⟩ := a.tbls c ps q
  obtain ⟨m2, e2⟩ := b.tbls c _ e1
  exact ⟨m1 ++ m2, by rw [e2, Array.append_assoc]⟩
theorem Un.kept (k : ∀ b u, h.get? b = some u -> h'.get? b = some u) : Un fs ex H H h h' :=
 ⟨fun b ob q _ _ _ => k b ob q, fun b ob q _ _ _ => ⟨ob.slots, k b ob q⟩, fun _ _ _ n _ => n, fun b ob q _ => ⟨ob, k b ob q⟩, fun _ _ q => q, fun _ _ _ q => q, fun _ ps q => ⟨#[], by rw [q]; simp⟩⟩
theorem Un.refl : Un fs ex H H h h := Un.kept fun _ _ q => q
theorem Un.laid (k : ∀ b u, h.get? b = some u -> h'.get? b = some u) (hp : h.objs.size <= a) (hn : H a = none) : Un fs ex H (upd H a o) h h' where
 keep := fun b u q _ _ _ => k b u q
 slot := fun b u q _ _ _ => ⟨u.slots, k b u q⟩
 free := fun b u q n _ => by rw [upd_ne (Nat.ne_of_lt (Nat.lt_of_lt_of_le (Heap.lt_size q) hp))]; exact n
 there := fun b u q _ => ⟨u, k b u q⟩
 tups := fun b xs q => by rw [upd_ne (ne_of_none q hn)]; exact q
 frzs := fun b u xs q => by rw [upd_ne (ne_of_none q hn)]; exact q
 tbls := fun b ps q => ⟨#[], by rw [upd_ne (ne_of_none q hn), q]; simp⟩
theorem Un.write (mu : Mut (H x)) (he : e = x \/ H e = some (.own x)) (k : ∀ b u, b ≠ e -> h.get? b = some u -> h'.get? b = some u) (heo : ∃ u, h'.get? e = some u) : Un fs ex H (upd H x o) h h' := by
 have hx : ∀ b, H b = none -> b ≠ x := fun b n z => by subst z; rw [n] at mu; exact mu
 have hb : ∀ b, H b = none -> b ≠ e := fun b n z => by
  subst z
  rcases he with r | r
  ·exact hx b n r
  ·rw [n] at r; cases r
 have hm : ∀ b u, H b = some u -> ¬ Mut (some u) -> b ≠ x := fun b u q nm z => by subst z; rw [q] at mu; exact nm mu
 refine ⟨fun b u q n _ _ => k b u (hb b n) q, fun b u q n _ _ => ⟨u.slots, k b u (hb b n) q⟩, fun b u q n _ => by rw [upd_ne (hx b n)]; exact n, fun b u q _ => ?_,
  fun b xs q => by rw [upd_ne (hm b _ q fun z => z)]; exact q, fun b u xs q => by rw [upd_ne (hm b _ q fun z => z)]; exact q, fun b ps q => ⟨#[], by rw [upd_ne (hm b _ q fun z => z), q]; simp⟩⟩
 by_cases hbe : b = e
 ·subst hbe; exact heo
 ·exact ⟨u, k b u hbe q⟩
end
noncomputable def trk (h : Heap) (H : Hp) : List Addr := (List.range h.objs.size).filter fun a => (H a).isSome
noncomputable def hidT (h : Heap) (H : Hp) : Heap := PySem.W.hideAll h (trk h H)
theorem hidT_size (h : Heap) (H : Hp) : (hidT h H).objs.size = h.objs.size := PySem.W.hideAll_size _ _
theorem hidT_get {h : Heap} {H : Hp} {b : Addr} {o : Obj} (e : h.get? b = some o) (n : H b = none) : (hidT h H).get? b = some o :=
 PySem.W.hideAll_get _ e fun hm => by
  have q : (H b).isSome = true := (List.mem_filter.mp hm).2
  rw [n] at q; simp at q
theorem of_hidT {h : Heap} {H : Hp} {b : Addr} {o : Obj} (e : (hidT h H).get? b = some o) : h.get? b = some o /\ H b = none := by
 have e' : h.get? b = some o := PySem.W.of_hideAll (trk h H) e
 refine ⟨e', ?_⟩
 cases q : H b with
 | none => rfl
 | some x =>
  have hm : b ∈ trk h H := List.mem_filter.mpr ⟨List.mem_range.mpr (Heap.lt_size e'), by simp [q]⟩
  have z : (hidT h H).get? b = none := PySem.W.hideAll_none (trk h H) hm
  rw [z] at e; cases e
noncomputable def allNews (g h : Heap) (L : Addr) : List (Addr × Obj) := (List.range h.objs.size).filterMap fun a => if a = L \/ (g.get? a).isSome = true then none else (h.get? a).map fun o => (a, o)
noncomputable def rest (g h : Heap) (L d : Addr) : List (Addr × Obj) := (allNews g h L).filter fun p => decide (p.1 ≠ d)
end L2
namespace L2
open PySem PySem.Spec PyProof.Rows
structure Mod (K : PySem.W.Frag) (mg : Str -> Option Value) (base : Heap) : Prop where
 kin : K.In base
 glob : base.Ns mainGlobals mg
 blt : ∃ mb, base.Ns builtinsNs mb /\ ∀ x : Str, x ≠ "__name__" -> mb x = bootBuiltins x
 nolimit : base.NoLimit
structure Cx where
 prog : Program
 w : World
 K : PySem.W.Frag
 mg : Str -> Option Value
 base : Heap
 A : Around
 N : List Str
 s₀ : Shared
 H₀ : Hp
 env : Env
 outer : List Env
 stack : List Env
 ex : List Addr
 fn : Str -> Bool
 calm : Bool
 pn : List (Addr × Obj)
 xe : Value -> Shared -> Prop
noncomputable def frs (l : List Env) : List Addr := l.filterMap (·.frame)
noncomputable abbrev Cx.fs (X : Cx) : List Addr := frs X.outer
noncomputable def Vis (sc : Scope) (x : Str) : Prop := sc.names.lookup x = some .local \/ sc.names.lookup x = some .cell \/ sc.names.lookup x = some .free
noncomputable def Loc (sc : Scope) (x : Str) : Prop := sc.names.lookup x = some .local \/ sc.names.lookup x = some .cell
noncomputable def Look (env : Env) (h : Heap) (m : Str -> Option Value) (x : Str) (u : Value) : Prop :=
 (env.kindOf x = some .local /\ m x = some u) \/ ((env.kindOf x = some .cell \/ env.kindOf x = some .free) /\ ∃ c, env.cells.lookup x = some c /\ h.IsCell c (some u))
structure Cx.Ok (X : Cx) : Prop where
 mod : Mod X.K X.mg X.base
 kind : X.env.scope.kind = .function
 glob : X.env.globals = mainGlobals
 blt : X.env.builtins = builtinsNs
 above : X.s₀.heap.objs.size <= X.env.locals
 inj : ∀ x y c, X.env.cells.lookup x = some c -> X.env.cells.lookup y = some c -> x = y
 has : ∀ x, (X.env.kindOf x = some .cell \/ X.env.kindOf x = some .free) -> ∃ c, X.env.cells.lookup x = some c
 cab : ∀ x c, X.fn x = true -> X.env.cells.lookup x = some c -> X.s₀.heap.objs.size <= c
 hd : X.calm = true -> X.A.handled = none
 frames : X.A.frames = some X.stack
 stk : X.stack = X.outer \/ (X.stack = X.env :: X.outer /\ X.env.frame = some X.env.locals)
 exf : ∀ b ∈ X.ex, b ≠ X.env.locals /\ ∀ x c, X.env.cells.lookup x = some c -> c ≠ b
 bs : ∀ b o, X.base.get? b = some o -> X.s₀.heap.get? b = some o /\ X.H₀ b = none
 bsz : X.base.objs.size <= X.s₀.heap.objs.size
 noex : ∀ b o, X.base.get? b = some o -> b ∉ X.ex
 exfs : ∀ b ∈ X.ex, b ∉ X.fs
 funs : X.s₀.heap.FunFrames X.base X.outer
 frf : ∀ b ∈ X.fs, X.H₀ b = none
structure Inv (X : Cx) (pins : List (Addr × Obj)) (σ : List (Option V)) (H : Hp) (s : Shared) : Prop where
 ok : X.Ok
 os : s.os = X.s₀.os
 bare : AllBare s.gens
 base : Un X.fs X.ex X.H₀ H X.s₀.heap s.heap
 loc : ∃ m, s.heap.Ns X.env.locals m /\ ∀ (i : Nat) (x : Str) (v : V), X.N[i]? = some x -> σ[i]? = some (some v) -> Vis X.env.scope x -> ∃ u, RelV v u /\ Look X.env s.heap m x u
 cell : ∀ x c, X.env.cells.lookup x = some c -> ∃ v, s.heap.IsCell c v
 free : H X.env.locals = none
 freeC : ∀ x c, X.env.cells.lookup x = some c -> H c = none
 pin : ∀ p ∈ X.pn ++ pins, s.heap.get? p.1 = some p.2 /\ H p.1 = none /\ p.1 ≠ X.env.locals /\ p.1 ∉ X.fs /\ ∀ v, p.2.data ≠ .cell v
 hok : HOk X.prog X.w H s.heap
 len : σ.length = X.N.length
section
variable {X : Cx} {pins : List (Addr × Obj)} {σ : List (Option V)} {H H' : Hp} {s : Shared} {h' : Heap}
theorem Cx.Ok.nofr (ok : X.Ok) {b : Addr} {o : Obj} (e : X.base.get? b = some o) : b ∉ X.fs := fun hb => by
 have := (ok.funs.mem hb).1
 rw [e] at this; cases this
theorem Inv.bs (I : Inv X pins σ H s) : ∀ b o, X.base.get? b = some o -> s.heap.get? b = some o /\ H b = none := fun b o e =>
 ⟨I.base.keep b o (I.ok.bs b o e).1 (I.ok.bs b o e).2 (I.ok.nofr e) (I.ok.noex b o e), I.base.free b o (I.ok.bs b o e).1 (I.ok.bs b o e).2 (I.ok.noex b o e)⟩
theorem Inv.bk (I : Inv X pins σ H s) : ∀ b o, X.base.get? b = some o -> s.heap.get? b = some o := fun b o e => (I.bs b o e).1
theorem Inv.mod (I : Inv X pins σ H s) : Mod X.K X.mg X.base := I.ok.mod
theorem Inv.kIn (I : Inv X pins σ H s) : X.K.In s.heap := I.ok.mod.kin.keeps I.bk
theorem Inv.fr (I : Inv X pins σ H s) : ∃ m, Fr X.base X.env.locals s.heap m :=
 let ⟨m, hn, _⟩ := I.loc
 ⟨m, hn, I.bk, Nat.le_trans I.ok.bsz I.ok.above⟩
theorem Inv.lt (I : Inv X pins σ H s) : X.env.locals < s.heap.objs.size := let ⟨_, hn, _⟩ := I.loc; hn.lt
theorem Inv.sz (I : Inv X pins σ H s) : X.s₀.heap.objs.size <= s.heap.objs.size := Nat.le_trans I.ok.above (Nat.le_of_lt I.lt)
theorem Inv.nofs (I : Inv X pins σ H s) {a : Addr} (h : s.heap.objs.size <= a) : a ∉ X.fs := fun hb => by
 obtain ⟨_, o, ho, _⟩ := I.ok.funs.mem hb
 exact absurd (Nat.lt_of_lt_of_le (Heap.lt_size ho) (Nat.le_trans I.sz h)) (Nat.lt_irrefl _)
theorem Inv.cne (I : Inv X pins σ H s) : ∀ x c, X.env.cells.lookup x = some c -> c ≠ X.env.locals := fun x c e z => by
 obtain ⟨v, o, ho, hd⟩ := I.cell x c e
 obtain ⟨m, ⟨o', es, ep, ho', hd', _⟩, _⟩ := I.loc
 rw [z, ho'] at ho; cases ho; rw [hd'] at hd; cases hd
theorem Inv.funs (I : Inv X pins σ H s) : s.heap.FunFrames X.base X.outer := by
 have all : ∀ (l : List Env), (∀ b ∈ frs l, b ∈ X.fs) -> X.s₀.heap.FunFrames X.base l -> s.heap.FunFrames X.base l := by
  intro l
  induction l with
  | nil => intro _ _; trivial
  | cons env r ih =>
   intro hs hl
   obtain ⟨hk, ⟨L, o, hf, hn, ho, hd⟩, hr⟩ := hl
   have hL : L ∈ X.fs := hs L (by unfold frs; rw [List.filterMap_cons, hf]; exact List.mem_cons_self)
   obtain ⟨sl, e⟩ := I.base.slot L o ho (I.ok.frf L hL) hL fun z => I.ok.exfs L z hL
   exact ⟨hk, ⟨L, _, hf, hn, e, hd⟩, ih (fun b hb => hs b (by unfold frs; rw [List.filterMap_cons, hf]; exact List.mem_cons_of_mem _ hb)) hr⟩
 exact all X.outer (fun _ hb => hb) I.ok.funs
theorem Inv.stack (I : Inv X pins σ H s) : s.heap.FunFrames X.base X.stack := by
 rcases I.ok.stk with e | ⟨e, hf⟩
 ·rw [e]; exact I.funs
 ·rw [e]
  obtain ⟨m, hn, _⟩ := I.loc
  refine .cons (by rw [I.ok.kind]; decide) hf hn ?_ I.funs
  exact Heap.get?_none_of_le (Nat.le_trans I.ok.bsz I.ok.above)
theorem Inv.stkSub (I : Inv X pins σ H s) : ∀ b ∈ frs X.stack, b ∈ X.env.locals :: X.fs := fun b hb => by
 rcases I.ok.stk with e | ⟨e, hf⟩
 ·rw [e] at hb; exact List.mem_cons_of_mem _ hb
 ·rw [e] at hb
  unfold frs at hb
  rw [List.filterMap_cons, hf] at hb
  exact hb
theorem Inv.stkFree (I : Inv X pins σ H s) : ∀ b ∈ frs X.stack, H b = none := fun b hb => by
 rcases List.mem_cons.mp (I.stkSub b hb) with e | hb
 ·rw [e]; exact I.free
 ·obtain ⟨_, o, ho, _⟩ := I.ok.funs.mem hb
  exact I.base.free b o ho (I.ok.frf b hb) fun z => I.ok.exfs b z hb
theorem Inv.step {g' : Array GenState} {t' : Nat} {d' : Drawn} {ch : List Addr} (I : Inv X pins σ H s)
  (hch : ∀ b ∈ ch, (b ∈ X.ex \/ X.s₀.heap.objs.size <= b) /\ b ≠ X.env.locals /\ (∀ x c, X.env.cells.lookup x = some c -> c ≠ b) /\ ∀ p ∈ X.pn ++ pins, p.1 ≠ b)
  (keep : ∀ b o, b ≠ X.env.locals -> b ∉ X.fs -> b ∉ ch -> s.heap.get? b = some o -> H b = none -> h'.get? b = some o)
  (slot : ∀ b o, b ≠ X.env.locals -> b ∈ X.fs -> b ∉ ch -> s.heap.get? b = some o -> H b = none -> ∃ sl, h'.get? b = some { o with slots := sl }) (free : ∀ b o, b ∉ ch -> s.heap.get? b = some o -> H b = none -> H' b = none)
  (there : ∀ b o, b ∉ ch -> s.heap.get? b = some o -> ∃ o', h'.get? b = some o')
  (tups : ∀ b xs, H b = some (.tup xs) -> H' b = some (.tup xs)) (frzs : ∀ b o u, H b = some (.frz o u) -> H' b = some (.frz o u)) (tbls : ∀ b ps, H b = some (.tbl ps) -> ∃ more, H' b = some (.tbl (ps ++ more)))
  (ns : ∀ m, s.heap.Ns X.env.locals m -> h'.Ns X.env.locals m) (hok : HOk X.prog X.w H' h') (hg : AllBare g') :
  Inv X pins σ H' { s with heap := h', gens := g', drawn := d', toks := t' } := by
 have neL : ∀ b o, X.s₀.heap.get? b = some o -> b ≠ X.env.locals := fun b o e => Nat.ne_of_lt (Nat.lt_of_lt_of_le (Heap.lt_size e) I.ok.above)
 have neC : ∀ b o, X.s₀.heap.get? b = some o -> b ∉ X.ex -> b ∉ ch := fun b o e hx hb => by
  rcases (hch b hb).1 with z | z
  ·exact hx z
  ·exact absurd (Nat.lt_of_lt_of_le (Heap.lt_size e) z) (Nat.lt_irrefl _)
 have cellK : ∀ x c, X.env.cells.lookup x = some c -> ∀ v, s.heap.IsCell c v -> h'.IsCell c v := fun x c e v ⟨o, ho, hd⟩ => by
  have nch : c ∉ ch := fun z => (hch c z).2.2.1 x c e rfl
  by_cases hc : c ∈ X.fs
  ·obtain ⟨sl, q⟩ := slot c o (I.cne x c e) hc nch ho (I.freeC x c e)
   exact ⟨_, q, hd⟩
  ·exact ⟨o, keep c o (I.cne x c e) hc nch ho (I.freeC x c e), hd⟩
 refine ⟨I.ok, I.os, hg, ⟨fun b o e n hb hx => ?_, fun b o e n hb hx => ?_, fun b o e n hx => ?_, fun b o e hx => ?_, fun b xs e => tups b xs (I.base.tups b xs e), fun b o xs e => frzs b o xs (I.base.frzs b o xs e), fun b ps e => ?_⟩, ?_, fun x c e => ?_, ?_, fun x c e => ?_, fun p hp => ?_, hok, I.len⟩
 ·exact keep b o (neL b o e) hb (neC b o e hx) (I.base.keep b o e n hb hx) (I.base.free b o e n hx)
 ·obtain ⟨sl, e1⟩ := I.base.slot b o e n hb hx
  obtain ⟨sl', e2⟩ := slot b _ (neL b o e) hb (neC b o e hx) e1 (I.base.free b o e n hx)
  exact ⟨sl', e2⟩
 ·obtain ⟨o', e1⟩ := I.base.there b o e hx
  exact free b o' (neC b o e hx) e1 (I.base.free b o e n hx)
 ·obtain ⟨o', e1⟩ := I.base.there b o e hx
  exact there b o' (neC b o e hx) e1
 ·obtain ⟨m1, e1⟩ := I.base.tbls b ps e
  obtain ⟨m2, e2⟩ := tbls b _ e1
  exact ⟨m1 ++ m2, by rw [e2, Array.append_assoc]⟩
 ·obtain ⟨m, hn, hl⟩ := I.loc
  refine ⟨m, ns m hn, fun i x v e1 e2 e3 => ?_⟩
  obtain ⟨u, r, l⟩ := hl i x v e1 e2 e3
  refine ⟨u, r, ?_⟩
  rcases l with l | ⟨k, c, e, z⟩
  ·exact .inl l
  ·exact .inr ⟨k, c, e, cellK x c e _ z⟩
 ·obtain ⟨v, z⟩ := I.cell x c e
  exact ⟨v, cellK x c e v z⟩
 ·obtain ⟨m, ⟨o, _, _, ho, _⟩, _⟩ := I.loc
  exact free _ o (fun z => (hch _ z).2.1 rfl) ho I.free
 ·obtain ⟨v, o, ho, hd⟩ := I.cell x c e
  exact free c o (fun z => (hch c z).2.2.1 x c e rfl) ho (I.freeC x c e)
 ·obtain ⟨e, n, ne, nf, d⟩ := I.pin p hp
  have nch : p.1 ∉ ch := fun z => (hch p.1 z).2.2.2 p hp rfl
  exact ⟨keep p.1 p.2 ne nf nch e n, free p.1 p.2 nch e n, ne, nf, d⟩
theorem Inv.un {t' : Nat} (I : Inv X pins σ H s) (u : Un X.fs [] H H' s.heap h') (hok : HOk X.prog X.w H' h') : Inv X pins σ H' { s with heap := h', toks := t' } := by
 obtain ⟨m, ⟨o, es, ep, ho, r⟩, _⟩ := id I.loc
 obtain ⟨sl, hL⟩ := u.any ho I.free (by simp)
 exact I.step (g' := s.gens) (d' := s.drawn) (ch := []) (fun _ z => nomatch z) (fun b o _ hb _ e n => u.keep b o e n hb (by simp)) (fun b o _ hb _ e n => u.slot b o e n hb (by simp)) (fun b o _ e n => u.free b o e n (by simp)) (fun b o _ e => u.there b o e (by simp)) u.tups u.frzs u.tbls (fun m' hm => by
  obtain ⟨o', es', ep', ho', r'⟩ := hm
  rw [ho] at ho'; cases ho'
  exact ⟨_, es', ep', hL, r'⟩) hok I.bare
theorem Inv.call {g' : Array GenState} {t' : Nat} {d' : Drawn} {ch : List Addr} (I : Inv X pins σ H s) (u : Un (frs X.stack) ch H H' s.heap h') (hok : HOk X.prog X.w H' h') (hg : AllBare g')
  (hch : ∀ b ∈ ch, (b ∈ X.ex \/ X.s₀.heap.objs.size <= b) /\ b ≠ X.env.locals /\ (∀ x c, X.env.cells.lookup x = some c -> c ≠ b) /\ ∀ p ∈ X.pn ++ pins, p.1 ≠ b) :
  Inv X pins σ H' { s with heap := h', gens := g', drawn := d', toks := t' } := by
 obtain ⟨m, ⟨o, es, ep, ho, r⟩, _⟩ := id I.loc
 obtain ⟨sl, hL⟩ := u.any ho I.free fun z => (hch _ z).2.1 rfl
 exact I.step (ch := ch) hch (fun b o hL hb hc e n => u.keep b o e n (fun z => (List.mem_cons.mp (I.stkSub b z)).elim hL hb) hc) (fun b o _ _ hc e n => u.any e n hc) (fun b o hc e n => u.free b o e n hc) (fun b o hc e => u.there b o e hc) u.tups u.frzs u.tbls (fun m' hm => by
  obtain ⟨o', es', ep', ho', r'⟩ := hm
  rw [ho] at ho'; cases ho'
  exact ⟨_, es', ep', hL, r'⟩) hok hg
theorem Inv.turned {t' : Nat} {it : Addr} (I : Inv X pins σ H s) (k : ∀ b o, b ≠ it -> s.heap.get? b = some o -> h'.get? b = some o) (hn : H it = none) (hL : it ≠ X.env.locals)
  (h1 : it ∈ X.ex \/ X.s₀.heap.objs.size <= it) (h2 : ∀ x c, X.env.cells.lookup x = some c -> c ≠ it) (h3 : ∀ p ∈ X.pn ++ pins, p.1 ≠ it) : Inv X pins σ H { s with heap := h', toks := t' } := by
 have nit : ∀ b u, H b = some u -> b ≠ it := fun b u e z => by rw [z, hn] at e; cases e
 refine I.step (g' := s.gens) (d' := s.drawn) (ch := [it]) (fun b hb => ?_) (fun b o _ _ hc e _ => k b o (fun z => hc (by simp [z])) e) (fun b o _ _ hc e _ => ⟨o.slots, k b o (fun z => hc (by simp [z])) e⟩) (fun _ _ _ _ n => n)
  (fun b o hc e => ⟨o, k b o (fun z => hc (by simp [z])) e⟩) (fun _ _ e => e) (fun _ _ _ e => e) (fun b ps e => ⟨#[], by rw [e]; simp⟩) (fun m hm => ?_) (fun b u e => ?_) I.bare
 ·have e : b = it := by simpa using hb
  subst e
  exact ⟨h1, hL, h2, h3⟩
 ·obtain ⟨o, es, ep, ho, r⟩ := hm
  exact ⟨o, es, ep, k _ o (Ne.symm hL) ho, r⟩
 ·refine (I.hok b u e).stay (fun c v hc q => k c v ?_ q) (fun _ q => q) fun _ _ q => q
  rcases hc with z | z
  ·rw [z]; exact nit b u e
  ·exact nit c _ z
theorem Inv.tok (I : Inv X pins σ H s) (t : Nat) : Inv X pins σ H { s with toks := t } := I.un (h' := s.heap) (t' := t) Un.refl I.hok
theorem Inv.kept {t' : Nat} (I : Inv X pins σ H s) (k : ∀ b u, s.heap.get? b = some u -> h'.get? b = some u) : Inv X pins σ H { s with heap := h', toks := t' } := I.un (Un.kept k) (I.hok.kept k)
theorem Inv.laid {a : Addr} {o : HO} {t' : Nat} (I : Inv X pins σ H s) (k : ∀ b u, s.heap.get? b = some u -> h'.get? b = some u) (hp : s.heap.objs.size <= a) (new : ObjOk X.prog X.w (upd H a o) h' a o) :
  Inv X pins σ (upd H a o) { s with heap := h', toks := t' } := I.un (Un.laid k hp (I.hok.fresh hp)) (I.hok.laid k hp new)
theorem Inv.write {x e : Addr} {o : HO} {t' : Nat} (I : Inv X pins σ H s) (mu : Mut (H x)) (he : e = x \/ H e = some (.own x)) (k : ∀ b u, b ≠ e -> s.heap.get? b = some u -> h'.get? b = some u) (heo : ∃ u, h'.get? e = some u)
  (new : ObjOk X.prog X.w (upd H x o) h' x o) : Inv X pins σ (upd H x o) { s with heap := h', toks := t' } := I.un (Un.write mu he k heo) (I.hok.write mu he k heo new)
theorem Inv.pins_of {pins' : List (Addr × Obj)} (I : Inv X pins σ H s) (h : ∀ p ∈ pins', s.heap.get? p.1 = some p.2 /\ H p.1 = none /\ p.1 ≠ X.env.locals /\ p.1 ∉ X.fs /\ ∀ v, p.2.data ≠ .cell v) : Inv X pins' σ H s :=
 ⟨I.ok, I.os, I.bare, I.base, I.loc, I.cell, I.free, I.freeC, fun p hp => (List.mem_append.mp hp).elim (fun z => I.pin p (List.mem_append_left _ z)) (h p), I.hok, I.len⟩
theorem nodup_ix {N : List Str} (hN : N.Nodup) {i j : Nat} {x : Str} (a : N[i]? = some x) (b : N[j]? = some x) : i = j := by
 obtain ⟨h1, e1⟩ := List.getElem?_eq_some_iff.mp a
 obtain ⟨h2, e2⟩ := List.getElem?_eq_some_iff.mp b
 exact (List.getElem_inj hN).mp (e1.trans e2.symm)
theorem store_ok2 {M : Model} {A : Around} {E : Value -> Shared -> Prop} {i : Nat} {x : Str} {v : V} {u : Value} {Q : Unit -> Shared -> Prop} (I : Inv X pins σ H s) (hN : X.N.Nodup) (hi : X.N[i]? = some x) (hx : Loc X.env.scope x) (r : RelV v u)
  (h : ∀ s', Inv X pins (σ.set i (some v)) H s' -> (∃ a, Heap.SameBut a s.heap s'.heap /\ (a = X.env.locals \/ X.env.cells.lookup x = some a)) -> Q () s') (hf : X.fn x = true \/ X.env.scope.names.lookup x = some .local := by first | exact .inl rfl | exact .inr rfl | assumption) : wpAny M A (storeName X.env x u) Q E s := by
 obtain ⟨m, hn, hl⟩ := id I.loc
 have hcls : (X.env.scope.kind == .class || (X.env.scope.kind == .module && X.env.locals != X.env.globals)) = false := by rw [I.ok.kind]; rfl
 have hiσ : i < σ.length := by rw [I.len]; exact (List.getElem?_eq_some_iff.mp hi).1
 have cne := I.cne
 have tracked : ∀ {a : Addr} {h' : Heap}, (∃ o, s.heap.get? a = some o /\ H a = none) -> Heap.SameBut a s.heap h' -> HOk X.prog X.w H h' := fun {a h'} ha hs b ob e => by
  obtain ⟨_, _, hfree⟩ := ha
  refine (I.hok b ob e).stay (fun c w' hc q => (hs.2 c ?_).trans q) (fun _ q => q) fun _ _ q => q
  rintro rfl
  rcases hc with rfl | hc
  ·rw [hfree] at e; cases e
  ·rw [hfree] at hc; cases hc
 rcases hx with hk | hk
 ·refine wpAny_storeName_local hk hn (fun h' hn' hs => ?_) hcls
  obtain ⟨oL, _, _, hoL, _⟩ := id hn
  refine h _ ⟨I.ok, I.os, I.bare, ⟨fun b o e n hb hx => ?_, fun b o e n hb hx => ?_, I.base.free, fun b o e hx => ?_, I.base.tups, I.base.frzs, I.base.tbls⟩, ⟨_, hn', fun j y v' e1 e2 e3 => ?_⟩, fun y c e => ?_, I.free, I.freeC, fun p hp => ?_, tracked ⟨oL, hoL, I.free⟩ hs, by simpa using I.len⟩ ⟨_, hs, .inl rfl⟩
  ·exact (hs.2 b (Nat.ne_of_lt (Nat.lt_of_lt_of_le (Heap.lt_size e) I.ok.above))).trans (I.base.keep b o e n hb hx)
  ·obtain ⟨sl, e1⟩ := I.base.slot b o e n hb hx
   exact ⟨sl, (hs.2 b (Nat.ne_of_lt (Nat.lt_of_lt_of_le (Heap.lt_size e) I.ok.above))).trans e1⟩
  ·obtain ⟨o', e1⟩ := I.base.there b o e hx
   exact ⟨o', (hs.2 b (Nat.ne_of_lt (Nat.lt_of_lt_of_le (Heap.lt_size e) I.ok.above))).trans e1⟩
  ·by_cases hj : j = i
   ·subst hj
    rw [hi] at e1; cases e1
    rw [List.getElem?_set_self hiσ] at e2
    cases e2
    exact ⟨u, r, .inl ⟨hk, by simp⟩⟩
   ·rw [List.getElem?_set_ne (Ne.symm hj)] at e2
    obtain ⟨u', r', q⟩ := hl j y v' e1 e2 e3
    refine ⟨u', r', ?_⟩
    rcases q with ⟨k, e⟩ | ⟨k, c, e, z⟩
    ·refine .inl ⟨k, ?_⟩
     have : y ≠ x := fun e => hj (nodup_ix hN e1 (e ▸ hi))
     simp [this, e]
    ·exact .inr ⟨k, c, e, z.sameBut hs (cne y c e)⟩
  ·obtain ⟨w', z⟩ := I.cell y c e
   exact ⟨w', z.sameBut hs (cne y c e)⟩
  ·obtain ⟨e, n, ne, nf, d⟩ := I.pin p hp
   exact ⟨(hs.2 p.1 ne).trans e, n, ne, nf, d⟩
 ·have hfn : X.fn x = true := by
   rcases hf with z | z
   ·exact z
   ·rw [z] at hk; cases hk
  obtain ⟨c, hc⟩ := I.ok.has x (.inl hk)
  obtain ⟨w', z⟩ := I.cell x c hc
  refine wpAny_storeName_cell I.ok.kind hk hc z (fun h' hc' hs => ?_)
  obtain ⟨oc, hoc, hocd⟩ := id z
  refine h { s with heap := h' } ⟨I.ok, I.os, I.bare, ⟨fun b o e n hb hx => ?_, fun b o e n hb hx => ?_, I.base.free, fun b o e hx => ?_, I.base.tups, I.base.frzs, I.base.tbls⟩, ⟨m, hn.sameBut hs (Ne.symm (cne x c hc)), fun j y v' e1 e2 e3 => ?_⟩, fun y c' e => ?_, I.free, I.freeC, fun p hp => ?_, tracked ⟨oc, hoc, I.freeC x c hc⟩ hs, by simpa using I.len⟩ ⟨c, hs, .inr hc⟩
  ·exact (hs.2 b (Nat.ne_of_lt (Nat.lt_of_lt_of_le (Heap.lt_size e) (I.ok.cab x c hfn hc)))).trans (I.base.keep b o e n hb hx)
  ·obtain ⟨sl, e1⟩ := I.base.slot b o e n hb hx
   exact ⟨sl, (hs.2 b (Nat.ne_of_lt (Nat.lt_of_lt_of_le (Heap.lt_size e) (I.ok.cab x c hfn hc)))).trans e1⟩
  ·obtain ⟨o', e1⟩ := I.base.there b o e hx
   exact ⟨o', (hs.2 b (Nat.ne_of_lt (Nat.lt_of_lt_of_le (Heap.lt_size e) (I.ok.cab x c hfn hc)))).trans e1⟩
  ·by_cases hj : j = i
   ·subst hj
    rw [hi] at e1; cases e1
    rw [List.getElem?_set_self hiσ] at e2
    cases e2
    exact ⟨u, r, .inr ⟨.inl hk, c, hc, hc'⟩⟩
   ·rw [List.getElem?_set_ne (Ne.symm hj)] at e2
    obtain ⟨u', r', q⟩ := hl j y v' e1 e2 e3
    refine ⟨u', r', ?_⟩
    rcases q with q | ⟨k, c', e, z'⟩
    ·exact .inl q
    ·refine .inr ⟨k, c', e, z'.sameBut hs ?_⟩
     rintro rfl
     exact hj (nodup_ix hN e1 (I.ok.inj _ _ _ e hc ▸ hi))
  ·by_cases hcc : c' = c
   ·subst hcc; exact ⟨_, hc'⟩
   ·obtain ⟨w2, z2⟩ := I.cell y c' e
    exact ⟨w2, z2.sameBut hs hcc⟩
  ·obtain ⟨e, n, ne, nf, d⟩ := I.pin p hp
   refine ⟨(hs.2 p.1 ?_).trans e, n, ne, nf, d⟩
   intro q
   rw [q, hoc] at e
   have q' : oc = p.2 := Option.some.inj e
   exact d w' (by rw [<- q']; exact hocd)
theorem store_ok {M : Model} {A : Around} {E : Value -> Shared -> Prop} {i : Nat} {x : Str} {v : V} {u : Value} {Q : Unit -> Shared -> Prop} (I : Inv X pins σ H s) (hN : X.N.Nodup) (hi : X.N[i]? = some x) (hx : Loc X.env.scope x) (r : RelV v u)
  (h : ∀ s', Inv X pins (σ.set i (some v)) H s' -> Q () s') (hf : X.fn x = true \/ X.env.scope.names.lookup x = some .local := by first | exact .inl rfl | exact .inr rfl | assumption) : wpAny M A (storeName X.env x u) Q E s :=
 store_ok2 I hN hi hx r (fun s' I' _ => h s' I') hf
theorem Inv.call' {s' : Shared} {ch : List Addr} (I : Inv X pins σ H s) (ho : s'.os = s.os) (u : Un (frs X.stack) ch H H' s.heap s'.heap) (hok : HOk X.prog X.w H' s'.heap) (hg : AllBare s'.gens)
  (hch : ∀ b ∈ ch, (b ∈ X.ex \/ X.s₀.heap.objs.size <= b) /\ b ≠ X.env.locals /\ (∀ x c, X.env.cells.lookup x = some c -> c ≠ b) /\ ∀ p ∈ X.pn ++ pins, p.1 ≠ b) : Inv X pins σ H' s' := by
 obtain ⟨h', g', d', t', o'⟩ := s'
 have e : o' = s.os := ho
 subst e
 exact I.call (g' := g') (t' := t') (d' := d') u hok hg hch
end
noncomputable abbrev XK := Value -> Option Addr -> Hp -> Prop
noncomputable abbrev St := List (Option V)
noncomputable abbrev VK := V -> Hp -> Prop
noncomputable abbrev TE := St -> Hp -> VK -> Prop
noncomputable abbrev TT := St -> Hp -> (Bool -> Hp -> Prop) -> Prop
noncomputable abbrev TA := St -> Hp -> (List V -> Hp -> Prop) -> Prop
structure Ends where
 nx : St -> Hp -> Prop
 rt : VK
 bk : St -> Hp -> Prop := fun _ _ => False
 ct : St -> Hp -> Prop := fun _ _ => False
noncomputable abbrev TS := Ends -> St -> Hp -> Prop
noncomputable def EP (X : Cx) (pins : List (Addr × Obj)) (σ : St) (Q : VK) (u : Value) (s' : Shared) : Prop := ∃ v H', Inv X pins σ H' s' /\ RelV v u /\ Q v H'
noncomputable def TP (X : Cx) (pins : List (Addr × Obj)) (σ : St) (Q : Bool -> Hp -> Prop) (b : Bool) (s' : Shared) : Prop := ∃ H', Inv X pins σ H' s' /\ Q b H'
noncomputable def AP (X : Cx) (pins : List (Addr × Obj)) (σ : St) (Q : List V -> Hp -> Prop) (us : List Value) (s' : Shared) : Prop := ∃ vs H', Inv X pins σ H' s' /\ Vals vs us /\ Q vs H'
noncomputable def SP (X : Cx) (pins : List (Addr × Obj)) (D : Ends) (f : Flow) (s' : Shared) : Prop :=
 match f with
 | .next => ∃ σ' H', Inv X pins σ' H' s' /\ D.nx σ' H'
 | .brk => ∃ σ' H', Inv X pins σ' H' s' /\ D.bk σ' H'
 | .cont => ∃ σ' H', Inv X pins σ' H' s' /\ D.ct σ' H'
 | .ret u => ∃ v σ' H', Inv X pins σ' H' s' /\ RelV v u /\ D.rt v H'
noncomputable def PE (X : Cx) (e : Expr) (t : TE) : Prop :=
 ∀ (pins : List (Addr × Obj)) (s : Shared) (σ : St) (H : Hp) (Q : VK), Inv X pins σ H s -> t σ H Q -> wpAny (model X.prog X.w) X.A (eval e X.env) (EP X pins σ Q) X.xe s
noncomputable def PT (X : Cx) (e : Expr) (t : TT) : Prop :=
 ∀ (pins : List (Addr × Obj)) (s : Shared) (σ : St) (H : Hp) (Q : Bool -> Hp -> Prop), Inv X pins σ H s -> t σ H Q -> wpAny (model X.prog X.w) X.A (isTrue e X.env (eval e X.env)) (TP X pins σ Q) X.xe s
noncomputable def PW (X : Cx) (e : Expr) (t : TT) : Prop :=
 ∀ (whole : Sem Value) (pins : List (Addr × Obj)) (s : Shared) (σ : St) (H : Hp) (Q : Bool -> Hp -> Prop), Inv X pins σ H s -> t σ H Q -> wpAny (model X.prog X.w) X.A (isTrue e X.env whole) (TP X pins σ Q) X.xe s
theorem PW.pt {X : Cx} {e : Expr} {t : TT} (h : PW X e t) : PT X e t := h _
noncomputable def PA (X : Cx) (es : List Expr) (t : TA) : Prop :=
 ∀ (pos : Pos) (pins : List (Addr × Obj)) (s : Shared) (σ : St) (H : Hp) (Q : List V -> Hp -> Prop), Inv X pins σ H s -> t σ H Q -> wpAny (model X.prog X.w) X.A (spliced (backTo pos (starEach es X.env))) (AP X pins σ Q) X.xe s
noncomputable def PS (X : Cx) (st : Stmt) (t : TS) : Prop :=
 ∀ (pins : List (Addr × Obj)) (s : Shared) (σ : St) (H : Hp) (D : Ends), Inv X pins σ H s -> t D σ H -> wpAny (model X.prog X.w) X.A (exec st X.env) (SP X pins D) X.xe s
noncomputable def PSs (X : Cx) (st : List Stmt) (t : TS) : Prop :=
 ∀ (pins : List (Addr × Obj)) (s : Shared) (σ : St) (H : Hp) (D : Ends), Inv X pins σ H s -> t D σ H -> wpAny (model X.prog X.w) X.A (execs st X.env) (SP X pins D) X.xe s
theorem thn {α : Type} {t : Sem α} {Q Q' : α -> Shared -> Prop} {M : Model} {A : Around} {E : Value -> Shared -> Prop} {s : Shared} (h : wpAny M A t Q E s) (hQ : ∀ a s, Q a s -> Q' a s) : wpAny M A t Q' E s := wpAny_mono h hQ fun _ _ x => x
end L2
namespace L2
open PySem PySem.Spec PyProof.Rows
section
variable {X : Cx}
theorem bin {a b : Expr} {ta tb : TE} (ha : PE X a ta) (hb : PE X b tb) {pins : List (Addr × Obj)} {s : Shared} {σ : St} {H : Hp} {R : V -> V -> Hp -> Prop} (I : Inv X pins σ H s) (h : ta σ H fun x H1 => tb σ H1 fun y H2 => R x y H2)
  {α : Type} {Q : α -> Shared -> Prop} {f : Value -> Value -> Sem α}
  (hf : ∀ v u s2 x y H2, Inv X pins σ H2 s2 -> RelV x v -> RelV y u -> R x y H2 -> wpAny (model X.prog X.w) X.A (f v u) Q X.xe s2) :
  wpAny (model X.prog X.w) X.A (eval a X.env) (fun v s₁ => wpAny (model X.prog X.w) X.A (eval b X.env) (fun u s₂ => wpAny (model X.prog X.w) X.A (f v u) Q X.xe s₂) X.xe s₁) X.xe s := by
 refine thn (ha pins s σ H _ I h) fun v s1 ⟨x, H1, I1, r1, q1⟩ => ?_
 refine thn (hb pins s1 σ H1 _ I1 q1) fun u s2 ⟨y, H2, I2, r2, q2⟩ => ?_
 exact hf v u s2 x y H2 I2 r1 r2 q2
noncomputable def tVar (i : Nat) : TE := fun σ H Q => ∃ v, σ[i]? = some (some v) /\ Q v H
noncomputable def tC (v : V) : TE := fun _ H Q => Q v H
theorem pe_var {i : Nat} {x : Str} {pos : Pos} (hN : X.N[i]? = some x) (hv : Vis X.env.scope x) (hd : (x == ("__debug__" : Str)) = false := by decide) (hcd : (x == ("__classdict__" : Str)) = false := by decide) : PE X (.Name x pos) (tVar i) := by
 intro pins s σ H Q I h
 obtain ⟨v, e, h⟩ := h
 obtain ⟨m, hn, hl⟩ := I.loc
 obtain ⟨u, r, l⟩ := hl i x v hN e hv
 have fin : EP X pins σ Q u s := ⟨v, H, I, r, h⟩
 rcases l with ⟨hk, hm⟩ | ⟨hk, c, hc, hcell⟩
 ·exact wpAny_Name (wpAny_loadName_local I.ok.kind hk hn hm fin) hd
 ·rcases hk with hk | hk
  ·exact wpAny_Name (wpAny_loadName_cell I.ok.kind hk hc hcell fin) hd
  ·exact wpAny_Name (wpAny_loadName_free I.ok.kind hk hc hcell fin hcd) hd
theorem pe_int {i j pos} : PE X (.Constant (.int i) j pos) (tC (.int i)) := fun _ _ _ H _ I h => wpAny_Constant_int ⟨.int i, H, I.tok _, ⟨_, rfl⟩, h⟩
theorem pe_bl {b j pos} : PE X (.Constant (.bool b) j pos) (tC (.bl b)) := fun _ _ _ H _ I h => Constant_bool ⟨.bl b, H, I, rfl, h⟩
theorem pe_non {j pos} : PE X (.Constant .none j pos) (tC .non) := fun _ _ _ H _ I h => Constant_none ⟨.non, H, I, rfl, h⟩
theorem pe_str {x j pos} : PE X (.Constant (.str x) j pos) (tC (.str x)) := fun _ _ _ H _ I h => Calls.Constant_str ⟨.str x, H, I.tok _, ⟨_, rfl⟩, h⟩
noncomputable def Gl (X : Cx) (x : Str) : Prop := X.env.kindOf x = some .globalImplicit
theorem ld_glob {E : Value -> Shared -> Prop} {pins : List (Addr × Obj)} {s : Shared} {σ : St} {H : Hp} {x : Str} {u : Value} {pos : Pos} {Q : Value -> Shared -> Prop} (I : Inv X pins σ H s) (hg : Gl X x) (hm : X.mg x = some u) (h : Q u s)
  (hd : (x == ("__debug__" : Str)) = false := by decide) : wpAny (model X.prog X.w) X.A (eval (.Name x pos) X.env) Q E s :=
 Calls.Name_function_global I.ok.kind hg (Calls.loadGlobal_global (by rw [I.ok.glob]; exact I.mod.glob.keeps I.bk) hm h) hd
theorem ld_blt {E : Value -> Shared -> Prop} {pins : List (Addr × Obj)} {s : Shared} {σ : St} {H : Hp} {x : Str} {u : Value} {pos : Pos} {Q : Value -> Shared -> Prop} (I : Inv X pins σ H s) (hg : Gl X x) (hm : X.mg x = none) (hv : bootBuiltins x = some u) (h : Q u s)
  (hn : x ≠ "__name__" := by decide) (hd : (x == ("__debug__" : Str)) = false := by decide) : wpAny (model X.prog X.w) X.A (eval (.Name x pos) X.env) Q E s := by
 obtain ⟨mb, h1, h2⟩ := I.mod.blt
 exact Calls.Name_function_global I.ok.kind hg (Calls.loadGlobal_builtin (by rw [I.ok.glob]; exact I.mod.glob.keeps I.bk) hm (by rw [I.ok.blt]; exact h1.keeps I.bk) ((h2 x hn).trans hv) h) hd
theorem pe_glob {x : Str} {v : V} {u : Value} {pos : Pos} (hg : Gl X x) (hm : X.mg x = some u) (r : RelV v u) (hd : (x == ("__debug__" : Str)) = false := by decide) : PE X (.Name x pos) (tC v) :=
 fun _ _ _ H _ I h => ld_glob I hg hm ⟨v, H, I, r, h⟩ hd
theorem pe_bltn {x : Str} {v : V} {u : Value} {pos : Pos} (hg : Gl X x) (hm : X.mg x = none) (hv : bootBuiltins x = some u) (r : RelV v u) (hn : x ≠ "__name__" := by decide) (hd : (x == ("__debug__" : Str)) = false := by decide) : PE X (.Name x pos) (tC v) :=
 fun _ _ _ H _ I h => ld_blt I hg hm hv ⟨v, H, I, r, h⟩ hn hd
variable {a b : Expr} {ta tb : TE} {pos : Pos}
noncomputable def PC (X : Cx) (op : CmpOp) (a b : Expr) (t : TE) : Prop :=
 ∀ (pins : List (Addr × Obj)) (s : Shared) (σ : St) (H : Hp) (Q : VK), Inv X pins σ H s -> t σ H Q ->
  wpAny (model X.prog X.w) X.A (eval a X.env) (fun v s₁ => wpAny (model X.prog X.w) X.A (eval b X.env) (fun u s₂ => wpAny (model X.prog X.w) X.A (compareOp op v u) (EP X pins σ Q) X.xe s₂) X.xe s₁) X.xe s
theorem nobehind (b : Expr) {op : CmpOp} (h : op ≠ .In) (h2 : op ≠ .NotIn) : behindInMarks op b = false := by
 have e1 : (op == CmpOp.In) = false := by cases op <;> first | rfl | exact absurd rfl h
 have e2 : (op == CmpOp.NotIn) = false := by cases op <;> first | rfl | exact absurd rfl h2
 cases b <;> simp [behindInMarks, e1, e2]
noncomputable def tB (t : TE) : TT := fun σ H Q => t σ H fun x H1 => ∃ c, x = .bl c /\ Q c H1
theorem pt_cmp {op : CmpOp} {t : TE} (h : PC X op a b t) (h1 : behindInMarks op b = false := by first | exact nobehind _ (by decide) (by decide) | rfl) : PT X (.Compare a [op] [b] pos) (tB t) := by
 intro pins s σ H Q I hw
 refine wpAny_isTrue_Compare1 (thn (h pins s σ H _ I hw) fun v s1 h1 => thn h1 fun u s2 h2 => thn h2 fun c s3 ⟨x, H1, I1, r1, q1⟩ => ?_) h1
 obtain ⟨d, rfl, q⟩ := q1
 cases r1
 exact wpAny_truthy_bool ⟨H1, I1, q⟩
theorem pt_val {e : Expr} {t : TE} (h : PE X e t) (he : ∀ whole, isTrue e X.env whole = (do let v <- whole; standAt e.pos; holding [v] (truthy v)) := by intro _; rfl) : PT X e (tB t) := by
 intro pins s σ H Q I hw
 refine isTrue_plain (thn (h pins s σ H _ I hw) fun v s1 ⟨x, H1, I1, r1, q1⟩ => ?_) (he _)
 obtain ⟨d, rfl, q⟩ := q1
 cases r1
 exact wpAny_truthy_bool ⟨H1, I1, q⟩
variable {tA tB' : TT} {rest : List Expr}
noncomputable def tAnd (t u : TT) : TT := fun σ H Q => t σ H fun c H1 => if c = true then u σ H1 Q else Q false H1
noncomputable def tOr (t u : TT) : TT := fun σ H Q => t σ H fun c H1 => if c = true then Q true H1 else u σ H1 Q
noncomputable def tNot (t : TT) : TT := fun σ H Q => t σ H fun c H1 => Q (!c) H1
theorem pw_and1 (ha : PT X a tA) : PW X (.BoolOp .And [a] pos) tA := by
 intro wh pins s σ H Q I h
 refine isTrue_and (thn (ha pins s σ H Q I h) fun c s1 e => ?_)
 cases c with
 | true => exact isTrue_and_nil e
 | false => exact e
theorem pw_or1 (ha : PT X a tA) : PW X (.BoolOp .Or [a] pos) tA := by
 intro wh pins s σ H Q I h
 refine isTrue_or (thn (ha pins s σ H Q I h) fun c s1 e => ?_)
 cases c with
 | false => exact isTrue_or_nil e
 | true => exact e
theorem pw_and (ha : PT X a tA) (hb : PW X (.BoolOp .And (b :: rest) pos) tB') : PW X (.BoolOp .And (a :: b :: rest) pos) (tAnd tA tB') := by
 intro wh pins s σ H Q I h
 refine isTrue_and (thn (ha pins s σ H _ I h) fun c s1 ⟨H1, I1, q1⟩ => ?_)
 cases c with
 | true => exact hb wh pins s1 σ H1 Q I1 q1
 | false => exact ⟨H1, I1, q1⟩
theorem pw_or (ha : PT X a tA) (hb : PW X (.BoolOp .Or (b :: rest) pos) tB') : PW X (.BoolOp .Or (a :: b :: rest) pos) (tOr tA tB') := by
 intro wh pins s σ H Q I h
 refine isTrue_or (thn (ha pins s σ H _ I h) fun c s1 ⟨H1, I1, q1⟩ => ?_)
 cases c with
 | true => exact ⟨H1, I1, q1⟩
 | false => exact hb wh pins s1 σ H1 Q I1 q1
theorem pt_not (ha : PT X a tA) : PT X (.UnaryOp .Not a pos) (tNot tA) := by
 intro pins s σ H Q I h
 exact isTrue_not (ha pins s σ H (fun c H1 => Q (!c) H1) I h)
noncomputable def tAndV (ta tb : TE) : TE := fun σ H Q => ta σ H fun x H1 => ∃ c, x = .bl c /\ if c = true then tb σ H1 Q else Q (.bl false) H1
noncomputable def tOrV (ta tb : TE) : TE := fun σ H Q => ta σ H fun x H1 => ∃ c, x = .bl c /\ if c = true then Q (.bl true) H1 else tb σ H1 Q
noncomputable def tNotV (ta : TE) : TE := fun σ H Q => ta σ H fun x H1 => ∃ c, x = .bl c /\ Q (.bl (!c)) H1
theorem pe_one {op} {t : TE} (h : PE X a t) : PE X (.BoolOp op [a] pos) t := fun pins s σ H Q I hw => BoolOp_one (h pins s σ H Q I hw)
theorem pe_and (ha : PE X a ta) (hb : PE X (.BoolOp .And (b :: rest) pos) tb) : PE X (.BoolOp .And (a :: b :: rest) pos) (tAndV ta tb) := by
 intro pins s σ H Q I h
 refine BoolOp_and (thn (ha pins s σ H _ I h) fun v s1 ⟨x, H1, I1, r1, q1⟩ => ?_)
 obtain ⟨c, rfl, q1⟩ := q1
 cases r1
 refine wpAny_truthy_bool ?_
 cases c with
 | true => exact hb pins s1 σ H1 Q I1 q1
 | false => exact ⟨.bl false, H1, I1, rfl, q1⟩
theorem pe_or (ha : PE X a ta) (hb : PE X (.BoolOp .Or (b :: rest) pos) tb) : PE X (.BoolOp .Or (a :: b :: rest) pos) (tOrV ta tb) := by
 intro pins s σ H Q I h
 refine BoolOp_or (thn (ha pins s σ H _ I h) fun v s1 ⟨x, H1, I1, r1, q1⟩ => ?_)
 obtain ⟨c, rfl, q1⟩ := q1
 cases r1
 refine wpAny_truthy_bool ?_
 cases c with
 | false => exact hb pins s1 σ H1 Q I1 q1
 | true => exact ⟨.bl true, H1, I1, rfl, q1⟩
theorem pe_not (ha : PE X a ta) : PE X (.UnaryOp .Not a pos) (tNotV ta) := by
 intro pins s σ H Q I h
 refine UnaryOp_ (thn (ha pins s σ H _ I h) fun v s1 ⟨x, H1, I1, r1, q1⟩ => ?_)
 obtain ⟨c, rfl, q1⟩ := q1
 cases r1
 exact not_of (wpAny_truthy_bool ⟨.bl (!c), H1, I1, rfl, q1⟩)
noncomputable def tIf (t : TT) (ta tb : TE) : TE := fun σ H Q => t σ H fun c H1 => if c = true then ta σ H1 Q else tb σ H1 Q
theorem pe_ifExp {c : Expr} (hc : PT X c tA) (ha : PE X a ta) (hb : PE X b tb) : PE X (.IfExp c a b pos) (tIf tA ta tb) := by
 intro pins s σ H Q I h
 refine wpAny_IfExp (thn (hc pins s σ H _ I h) fun d s1 ⟨H1, I1, q1⟩ => ?_)
 cases d with
 | true => exact ha pins s1 σ H1 Q I1 q1
 | false => exact hb pins s1 σ H1 Q I1 q1
end
end L2
namespace L2
open PySem PySem.Spec PyProof.Rows
noncomputable def SqL (K : PySem.W.Frag) (H : Hp) (a : Addr) (xs : List V) : Prop :=
 Rd H a (.lst xs) \/
  ∃ (o : Obj) (its : Array Value) (n : Nat), K.lookup a = some o /\ o.cls = .type "list" /\ o.dict = none /\ o.data = .seq its n /\ its.size <= sizeLine /\ Vals xs its.toList
noncomputable def SqT (K : PySem.W.Frag) (H : Hp) (a : Addr) (xs : List V) : Prop :=
 Rd H a (.tup xs) \/
  ∃ (o : Obj) (its : Array Value) (n : Nat), K.lookup a = some o /\ o.cls = .type "tuple" /\ o.data = .seq its n /\ its.size <= sizeLine /\ Vals xs its.toList
noncomputable def absV : Value -> Option V
 | .none => some .non
 | .bool b => some (.bl b)
 | .int i _ => some (.int i)
 | .str x _ => some (.str x)
 | .bytes b _ => some (.byt b)
 | .float b _ => some (.flt b)
 | .ref a => some (.ref a)
 | .type n => some (.ty n)
 | _ => none
theorem RelV.abs {x : V} {u : Value} (r : RelV x u) : absV u = some x := by
 cases x with
 | non => cases r; rfl
 | bl _ => cases r; rfl
 | int _ => obtain ⟨t, rfl⟩ := r; rfl
 | str _ => obtain ⟨t, rfl⟩ := r; rfl
 | byt _ => obtain ⟨t, rfl⟩ := r; rfl
 | flt _ => obtain ⟨t, rfl⟩ := r; rfl
 | ref _ => cases r; rfl
 | ty _ => cases r; rfl
theorem RelV.inj {x y : V} {u : Value} (r : RelV x u) (q : RelV y u) : x = y := Option.some.inj (r.abs.symm.trans q.abs)
theorem Vals.inj : ∀ {xs ys : List V} {us : List Value}, Vals xs us -> Vals ys us -> xs = ys
 | _, _, _, .nil, .nil => rfl
 | _, _, _, .cons r t, .cons r' t' => by rw [r.inj r', Vals.inj t t']
section
variable {X : Cx} {pins : List (Addr × Obj)} {σ : St} {H : Hp} {s : Shared} {a : Addr} {xs ys : List V}
theorem SqL.of {K : PySem.W.Frag} (h : H a = some (.lst xs)) : SqL K H a xs := .inl (.inl h)
theorem SqT.of {K : PySem.W.Frag} (h : H a = some (.tup xs)) : SqT K H a xs := .inl (.inl h)
theorem Inv.list (I : Inv X pins σ H s) (h : SqL X.K H a xs) : ∃ its : List Value, Vals xs its /\ PlainL s.heap a its.toArray /\ xs.length <= sizeLine := by
 rcases h with h | ⟨o, its, n, hk, hc, hd, hs, hz, r⟩
 ·obtain ⟨z, its, n, r, e⟩ := h.ok I.hok
  exact ⟨its, r, ⟨_, n, e, rfl, rfl, rfl⟩, z⟩
 ·refine ⟨its.toList, r, ⟨o, n, I.kIn a o hk, hc, hd, by simpa using hs⟩, ?_⟩
  have e := r.length
  simp only [Array.length_toList] at e
  omega
theorem Inv.tuple (I : Inv X pins σ H s) (h : SqT X.K H a xs) : ∃ its : List Value, Vals xs its /\ IsTup s.heap a its.toArray /\ xs.length <= sizeLine := by
 rcases h with h | ⟨o, its, n, hk, hc, hs, hz, r⟩
 ·obtain ⟨z, its, r, p⟩ := h.ok I.hok
  exact ⟨its, r, p, z⟩
 ·refine ⟨its.toList, r, ⟨o, I.kIn a o hk, hc, n, by simpa using hs⟩, ?_⟩
  have e := r.length
  simp only [Array.length_toList] at e
  omega
theorem Inv.list_inj (I : Inv X pins σ H s) (h : SqL X.K H a xs) (h' : SqL X.K H a ys) : xs = ys := by
 obtain ⟨its, r, ⟨o, n, e, _, _, d⟩, _⟩ := I.list h
 obtain ⟨its', r', ⟨o', n', e', _, _, d'⟩, _⟩ := I.list h'
 rw [e] at e'; cases e'
 rw [d] at d'
 injection d' with d1 _
 have : its = its' := by simpa using congrArg Array.toList d1
 subst this
 exact r.inj r'
theorem Inv.tuple_inj (I : Inv X pins σ H s) (h : SqT X.K H a xs) (h' : SqT X.K H a ys) : xs = ys := by
 obtain ⟨its, r, ⟨o, e, _, n, d⟩, _⟩ := I.tuple h
 obtain ⟨its', r', ⟨o', e', _, n', d'⟩, _⟩ := I.tuple h'
 rw [e] at e'; cases e'
 rw [d] at d'
 injection d' with d1 _
 have : its = its' := by simpa using congrArg Array.toList d1
 subst this
 exact r.inj r'
end
noncomputable abbrev Cx.wish (X : Cx) (E : Value -> Shared -> Prop) : Cx := { X with xe := E }
noncomputable abbrev Cx.nox (X : Cx) : Cx := X.wish fun _ _ => False
theorem Cx.Ok.wish {X : Cx} (ok : X.Ok) (E : Value -> Shared -> Prop) : (X.wish E).Ok :=
 ⟨ok.mod, ok.kind, ok.glob, ok.blt, ok.above, ok.inj, ok.has, ok.cab, ok.hd, ok.frames, ok.stk, ok.exf, ok.bs, ok.bsz, ok.noex, ok.exfs, ok.funs, ok.frf⟩
theorem Cx.Ok.unwish {X : Cx} {E : Value -> Shared -> Prop} (ok : (X.wish E).Ok) : X.Ok :=
 ⟨ok.mod, ok.kind, ok.glob, ok.blt, ok.above, ok.inj, ok.has, ok.cab, ok.hd, ok.frames, ok.stk, ok.exf, ok.bs, ok.bsz, ok.noex, ok.exfs, ok.funs, ok.frf⟩
section
variable {X : Cx} {pins : List (Addr × Obj)} {σ : St} {H : Hp} {s : Shared} {E : Value -> Shared -> Prop}
theorem Inv.wish (I : Inv X pins σ H s) (E : Value -> Shared -> Prop) : Inv (X.wish E) pins σ H s := ⟨I.ok.wish E, I.os, I.bare, I.base, I.loc, I.cell, I.free, I.freeC, I.pin, I.hok, I.len⟩
theorem Inv.unwish (I : Inv (X.wish E) pins σ H s) : Inv X pins σ H s := ⟨I.ok.unwish, I.os, I.bare, I.base, I.loc, I.cell, I.free, I.freeC, I.pin, I.hok, I.len⟩
theorem SP.unwish {D : Ends} {f : Flow} {s' : Shared} (h : SP (X.wish E) pins D f s') : SP X pins D f s' := by
 cases f with
 | next => obtain ⟨σ', H', I, q⟩ := h; exact ⟨σ', H', I.unwish, q⟩
 | brk => obtain ⟨σ', H', I, q⟩ := h; exact ⟨σ', H', I.unwish, q⟩
 | cont => obtain ⟨σ', H', I, q⟩ := h; exact ⟨σ', H', I.unwish, q⟩
 | ret u => obtain ⟨v, σ', H', I, r, q⟩ := h; exact ⟨v, σ', H', I.unwish, r, q⟩
theorem PSs.nox {st : List Stmt} {t : TS} (h : PSs X.nox st t) : PSs X st t := fun pins s σ H D I hw =>
 wpAny_mono (h pins s σ H D (I.wish _) hw) (fun _ _ q => q.unwish) fun _ _ z => False.elim z
end
section
variable {X : Cx} {st : Stmt} {rest : List Stmt} {t u : TS} {e : Expr} {te : TE} {pos : Pos}
noncomputable def tNext : TS := fun D σ H => D.nx σ H
noncomputable def tSeq (t u : TS) : TS := fun D σ H => t { D with nx := u D } σ H
theorem pss_nil : PSs X [] tNext := fun _ _ σ H _ I h => wpAny_execs_nil ⟨σ, H, I, h⟩
theorem pss_cons (h1 : PS X st t) (h2 : PSs X rest u) : PSs X (st :: rest) (tSeq t u) := by
 intro pins s σ H D I h
 refine wpAny_execs_cons (thn (h1 pins s σ H { D with nx := u D } I h) fun f s1 q => ?_)
 cases f with
 | next =>
  obtain ⟨σ', H', I', q⟩ := q
  exact h2 pins s1 σ' H' D I' q
 | ret v => exact q
 | brk => exact q
 | cont => exact q
noncomputable def tBreak : TS := fun D σ H => D.bk σ H
noncomputable def tCont : TS := fun D σ H => D.ct σ H
theorem ps_pass : PS X (.Pass pos) tNext := fun _ _ σ H _ I h => wpAny_Pass ⟨σ, H, I, h⟩
theorem ps_break : PS X (.Break pos) tBreak := fun _ _ σ H _ I h => wpAny_Break ⟨σ, H, I, h⟩
theorem ps_continue : PS X (.Continue pos) tCont := fun _ _ σ H _ I h => wpAny_Continue ⟨σ, H, I, h⟩
theorem Inv.quiet {pins : List (Addr × Obj)} {σ : St} {H : Hp} {s : Shared} (I : Inv X pins σ H s) : interactive X.env = false := by simp [interactive, I.ok.kind]
noncomputable def tDrop (te : TE) : TS := fun D σ H => te σ H fun _ H1 => D.nx σ H1
theorem ps_expr (he : PE X e te) (hs : swapsWith e none pos.line X.env = pure false := by rfl) : PS X (.Expr e pos) (tDrop te) := by
 intro pins s σ H D I h
 exact wpAny_Expr_any (thn (he pins s σ H _ I h) fun v s1 ⟨x, H1, I1, r1, q1⟩ => ⟨σ, H1, I1, q1⟩) I.quiet hs
noncomputable def tRet (te : TE) : TS := fun D σ H => te σ H D.rt
theorem ps_ret (he : PE X e te) : PS X (.Return (some e) pos) (tRet te) := by
 intro pins s σ H D I h
 exact wpAny_Return_some (thn (he pins s σ H _ I h) fun v s1 ⟨x, H1, I1, r1, q1⟩ => ⟨x, σ, H1, I1, r1, q1⟩)
noncomputable def tRetN : TS := fun D _ H => D.rt .non H
theorem ps_retN : PS X (.Return none pos) tRetN := fun _ _ σ H _ I h => wpAny_Return_none ⟨.non, σ, H, I, rfl, h⟩
noncomputable def tIfS (c : TT) (t u : TS) : TS := fun D σ H => c σ H fun b H1 => if b = true then t D σ H1 else u D σ H1
theorem ps_if {c : Expr} {a b : List Stmt} {tc : TT} (hc : PT X c tc) (ha : PSs X a t) (hb : PSs X b u) : PS X (.If c a b pos) (tIfS tc t u) := by
 intro pins s σ H D I h
 refine wpAny_If (thn (hc pins s σ H _ I h) fun d s1 ⟨H1, I1, q1⟩ => ?_)
 cases d with
 | true => exact ha pins s1 σ H1 D I1 q1
 | false => exact hb pins s1 σ H1 D I1 q1
noncomputable def tNever : TS := fun _ _ _ => False
theorem pss_never {sts : List Stmt} : PSs X sts tNever := fun _ _ _ _ _ _ h => h.elim
end
noncomputable abbrev TG := V -> St -> Hp -> (St -> Hp -> Prop) -> Prop
noncomputable abbrev TGs := List V -> St -> Hp -> (St -> Hp -> Prop) -> Prop
noncomputable def PG (X : Cx) (target : Expr) (t : TG) : Prop :=
 ∀ (pins : List (Addr × Obj)) (s : Shared) (σ : St) (H : Hp) (v : V) (u : Value) (Q : St -> Hp -> Prop), Inv X pins σ H s -> RelV v u -> t v σ H Q ->
  wpAny (model X.prog X.w) X.A (assign target X.env u) (fun _ s' => ∃ σ' H', Inv X pins σ' H' s' /\ Q σ' H') X.xe s
noncomputable def PGs (X : Cx) (ts : List Expr) (t : TGs) : Prop :=
 ∀ (pins : List (Addr × Obj)) (s : Shared) (σ : St) (H : Hp) (vs : List V) (us : List Value) (Q : St -> Hp -> Prop), Inv X pins σ H s -> Vals vs us -> t vs σ H Q ->
  wpAny (model X.prog X.w) X.A (assignInOrder ((assignEach ts X.env).map (·.2)) us) (fun _ s' => ∃ σ' H', Inv X pins σ' H' s' /\ Q σ' H') X.xe s
noncomputable abbrev TSet := V -> V -> V -> Hp -> (Hp -> Prop) -> Prop
noncomputable def PSet (X : Cx) (t : TSet) : Prop :=
 ∀ (pins : List (Addr × Obj)) (s : Shared) (σ : St) (H : Hp) (o i v : V) (ov iv u : Value) (Q : Hp -> Prop), Inv X pins σ H s -> RelV o ov -> RelV i iv -> RelV v u -> t o i v H Q ->
  wpAny (model X.prog X.w) X.A (setItem ov iv u) (fun _ s' => ∃ H', Inv X pins σ H' s' /\ Q H') X.xe s
section
variable {X : Cx} {pos : Pos}
noncomputable def gName (i : Nat) : TG := fun v σ H Q => Q (σ.set i (some v)) H
theorem pg_name {i : Nat} {x : Str} (hN : X.N.Nodup) (hi : X.N[i]? = some x) (hx : Loc X.env.scope x) (hf : X.fn x = true \/ X.env.scope.names.lookup x = some .local := by first | exact .inl rfl | exact .inr rfl | assumption) : PG X (.Name x pos) (gName i) := by
 intro pins s σ H v u Q I r h
 exact wpAny_assign_Name (store_ok I hN hi hx r (fun s' I' => ⟨_, H, I', h⟩) hf)
noncomputable def gNil : TGs := fun vs σ H Q => vs = [] /\ Q σ H
noncomputable def gCons (t : TG) (u : TGs) : TGs := fun vs σ H Q => ∃ v r, vs = v :: r /\ t v σ H fun σ' H' => u r σ' H' Q
theorem pgs_nil : PGs X [] gNil := by
 intro pins s σ H vs us Q I r h
 obtain ⟨e, h⟩ := h
 subst e
 cases r
 exact assignInOrder_nil ⟨σ, H, I, h⟩
theorem pgs_cons {e : Expr} {es : List Expr} {t : TG} {u : TGs} (h1 : PG X e t) (h2 : PGs X es u)
  (hs : (assignEach (e :: es) X.env).map (·.2) = assign e X.env :: (assignEach es X.env).map (·.2) := by rfl) : PGs X (e :: es) (gCons t u) := by
 intro pins s σ H vs us Q I r h
 obtain ⟨v, vr, e1, h⟩ := h
 subst e1
 cases r with
 | cons r rr =>
  rw [hs]
  refine assignInOrder_cons (thn (h1 pins s σ H _ _ _ I r h) fun _ s1 ⟨σ1, H1, I1, q1⟩ => ?_)
  exact h2 pins s1 σ1 H1 _ _ Q I1 rr q1
noncomputable def gTup (K : PySem.W.Frag) (n : Nat) (t : TGs) : TG := fun v σ H Q => ∃ a xs, v = .ref a /\ SqT K H a xs /\ xs.length = n /\ t xs σ H Q
theorem pg_tup {es : List Expr} {k : Nat} {t : TGs} {n : Nat} (hc : X.calm = true) (h : PGs X es t)
  (hn : (assignEach es X.env).length = n := by rfl) (hst : (assignEach es X.env).findIdx? (·.1) = none := by rfl) : PG X (.Tuple es k pos) (gTup X.K n t) := by
 intro pins s σ H v u Q I r hw
 obtain ⟨a, xs, e1, hq, hl, hw⟩ := hw
 subst e1
 cases r
 obtain ⟨its, rv, ht, hz⟩ := I.tuple hq
 refine assign_Tuple_tuple (I.ok.hd hc) ht (by simp [hn, <- hl, rv.length]) hst fun h' hx => ?_
 have I1 : Inv X pins σ H { s with heap := h' } := I.kept (t' := s.toks) fun b o e => hx b o (Nat.ne_of_lt (Heap.lt_size e)) e
 exact h pins _ σ H xs _ Q I1 (by simpa using rv) hw
noncomputable def gSub (to ti : TE) (t : TSet) : TG := fun v σ H Q => to σ H fun o H1 => ti σ H1 fun i H2 => t o i v H2 fun H3 => Q σ H3
theorem pg_sub {o i : Expr} {to ti : TE} {t : TSet} (ho : PE X o to) (hi : PE X i ti) (hs : PSet X t)
  (ha : ∀ v, assign (.Subscript o i pos) X.env v = (do
   let ov <- holding [v] (eval o X.env)
   let iv <- holding [v, ov] (eval i X.env)
   standAt pos
   holding [v, ov, iv] (setItem ov iv v)
   release [v, ov, iv] []) := by intro _; rfl) : PG X (.Subscript o i pos) (gSub to ti t) := by
 intro pins s σ H v u Q I r h
 rw [ha]
 refine wpAny_bind (wpAny_holding (thn (ho pins s σ H _ I h) fun ov s1 ⟨x, H1, I1, r1, q1⟩ => ?_))
 refine wpAny_bind (wpAny_holding (thn (hi pins s1 σ H1 _ I1 q1) fun iv s2 ⟨y, H2, I2, r2, q2⟩ => ?_))
 refine wpAny_bind (wpAny_standAt (wpAny_bind (wpAny_holding (thn (hs pins s2 σ H2 x y v ov iv u _ I2 r1 r2 r q2) fun _ s3 ⟨H3, I3, q3⟩ => ?_))))
 exact wpAny_release ⟨σ, H3, I3, q3⟩
noncomputable def tAsg (te : TE) (g : TG) : TS := fun D σ H => te σ H fun x H1 => g x σ H1 D.nx
theorem ps_asg {tg e : Expr} {te : TE} {g : TG} (he : PE X e te) (hg : PG X tg g) (hs : swapsWithSole [tg] e pos.line X.env = pure false := by rfl) (hw : swappedStores [tg] e X.env = pure none := by rfl)
  (h1 : (assignEach [tg] X.env).map (·.2) = [assign tg X.env] := by rfl) : PS X (.Assign [tg] e pos) (tAsg te g) := by
 intro pins s σ H D I h
 refine wpAny_Assign_stores (thn (he pins s σ H _ I h) fun v s1 ⟨x, H1, I1, r1, q1⟩ => ?_) hs hw
 rw [h1]
 exact thn (hg pins s1 σ H1 x v _ I1 r1 q1) fun _ s2 q => q
end
section
variable {X : Cx} {pos : Pos}
noncomputable def tWhile (c : TT) (tb : TS) : TS := fun D σ H => ∃ W : Nat -> St -> Hp -> Prop, (∃ m, W m σ H) /\ ∀ m σ H, W m σ H ->
 c σ H fun b H1 => if b = true then ∃ N : St -> Hp -> Prop, (∀ σ' H', N σ' H' -> ∃ m', m' < m /\ W m' σ' H') /\ tb { D with nx := N, ct := N, bk := D.nx } σ H1 else D.nx σ H1
theorem ps_while {c : Expr} {body : List Stmt} {tc : TT} {tb : TS} (hp : PassesOwn (model X.prog X.w) X.A X.env X.xe) (hc : PT X c tc) (hb : PSs X body tb) : PS X (.While c body [] pos) (tWhile tc tb) := by
 intro pins s σ H D I h
 obtain ⟨W, ⟨m0, w0⟩, turn⟩ := h
 refine wpAny_While (codeAny_whileLoop (fun n s' => ∃ σ' H', Inv X pins σ' H' s' /\ W n σ' H') ?_ m0 ⟨σ, H, I, w0⟩)
 rintro n s1 ⟨σ1, H1, I1, w1⟩
 refine wpAny_passesOwn hp (thn (hc pins s1 σ1 H1 _ I1 (turn n σ1 H1 w1)) fun b s2 ⟨H2, I2, q2⟩ => ?_)
 cases b with
 | true =>
  obtain ⟨N, hN, q2⟩ := q2
  rw [if_pos rfl]
  refine wpAny_passesOwn hp (thn (hb pins s2 σ1 H2 _ I2 q2) fun f s3 q3 => ?_)
  cases f with
  | next =>
   obtain ⟨σ3, H3, I3, n3⟩ := q3
   obtain ⟨m', hm, w3⟩ := hN σ3 H3 n3
   exact ⟨m', hm, σ3, H3, I3, w3⟩
  | cont =>
   obtain ⟨σ3, H3, I3, n3⟩ := q3
   obtain ⟨m', hm, w3⟩ := hN σ3 H3 n3
   exact ⟨m', hm, σ3, H3, I3, w3⟩
  | brk => exact q3
  | ret v => exact q3
 | false =>
  rw [if_neg Bool.false_ne_true]
  exact wpAny_execs_nil ⟨σ1, H2, I2, q2⟩
end
structure It where
 go : Nat -> Hp -> Prop
 yld : Nat -> Hp -> V -> Hp -> Prop
 stop : Nat -> Hp -> Prop
noncomputable def FpOk (X : Cx) (pins : List (Addr × Obj)) (H : Hp) (b : Addr) : Prop :=
 H b = none /\ b ≠ X.env.locals /\ b ∉ X.fs /\ (b ∈ X.ex \/ X.s₀.heap.objs.size <= b) /\ (∀ x c, X.env.cells.lookup x = some c -> c ≠ b) /\ ∀ p ∈ X.pn ++ pins, p.1 ≠ b
theorem Inv.fpOk {X : Cx} {pins : List (Addr × Obj)} {σ : St} {H H' : Hp} {s : Shared} {b : Addr} (I : Inv X pins σ H s) (hb : s.heap.objs.size <= b) (hn : H' b = none) : FpOk X pins H' b := by
 refine ⟨hn, Nat.ne_of_gt (Nat.lt_of_lt_of_le I.lt hb), I.nofs hb, .inr (Nat.le_trans I.sz hb), fun x c e z => ?_, fun p hp z => ?_⟩
 ·obtain ⟨v, q⟩ := I.cell x c e
  exact absurd (Nat.lt_of_lt_of_le q.lt (by rw [z]; exact hb)) (Nat.lt_irrefl _)
 ·exact absurd (Nat.lt_of_lt_of_le (Heap.lt_size (I.pin p hp).1) (by rw [z]; exact hb)) (Nat.lt_irrefl _)
structure Turn (P : Program) (w : World) (K : PySem.W.Frag) (tg : Expr) (J : It) (fp : List Addr) (it : Addr) (tn : Nat -> Heap -> Prop) : Prop where
 mem : it ∈ fp
 obj : ∀ i h, tn i h -> ∀ b ∈ fp, ∃ o, h.get? b = some o /\ ∀ v, o.data ≠ .cell v
 keep : ∀ i h h', tn i h -> (∀ b ∈ fp, ∀ o, h.get? b = some o -> h'.get? b = some o) -> tn i h'
 item : ∀ (X : Cx), X.prog = P -> X.w = w -> X.K = K -> X.calm = true -> ∀ (i : Nat) (pins : List (Addr × Obj)) (s : Shared) (σ : St) (H : Hp) (E : Value -> Shared -> Prop), Inv X pins σ H s -> (∀ b ∈ fp, FpOk X pins H b) -> tn i s.heap -> J.go i H ->
  wpAny (model P w) X.A (pyNext (.ref it)) (fun r s1 => ∃ u, r = some u /\
   wpAny (model P w) X.A (letOwnedTupleGo tg (.ref it) u) (fun _ s2 => ∃ x H', Inv X pins σ H' s2 /\ RelV x u /\ J.yld i H x H' /\ tn (i + 1) s2.heap /\ ∀ b ∈ fp, H' b = none) E s1) E s
 done : ∀ (X : Cx), X.prog = P -> X.w = w -> X.K = K -> X.calm = true -> ∀ (i : Nat) (pins : List (Addr × Obj)) (s : Shared) (σ : St) (H : Hp) (E : Value -> Shared -> Prop), Inv X pins σ H s -> (∀ b ∈ fp, FpOk X pins H b) -> tn i s.heap -> J.stop i H ->
  wpAny (model P w) X.A (pyNext (.ref it)) (fun r s1 => r = none /\ Inv X pins σ H s1) E s
 self : ∀ (A : Around) (i : Nat) (s : Shared) (Q : Value -> Shared -> Prop) (E : Value -> Shared -> Prop), tn i s.heap -> Q (.ref it) s -> wpAny (model P w) A (pyIter (.ref it)) Q E s
noncomputable abbrev TI := St -> Hp -> (It -> Hp -> Prop) -> Prop
noncomputable def PIE (X : Cx) (pins : List (Addr × Obj)) (σ : St) (tg : Expr) (R : It -> Hp -> Prop) (itv : Value) (s2 : Shared) : Prop :=
 ∃ (it : Addr) (fp : List Addr) (tn : Nat -> Heap -> Prop) (J : It) (H' : Hp), itv = .ref it /\ Inv X pins σ H' s2 /\ Turn X.prog X.w X.K tg J fp it tn /\ tn 0 s2.heap /\ (∀ b ∈ fp, FpOk X pins H' b) /\ R J H'
noncomputable def PI (X : Cx) (tg iter : Expr) (wi : TI) : Prop :=
 ∀ (pins : List (Addr × Obj)) (s : Shared) (σ : St) (H : Hp) (R : It -> Hp -> Prop), Inv X pins σ H s -> wi σ H R ->
  wpAny (model X.prog X.w) X.A (eval iter X.env) (fun v s1 => wpAny (model X.prog X.w) X.A (pyIter v) (PIE X pins σ tg R) X.xe s1) X.xe s
theorem go_of {M : Model} {A : Around} {E : Value -> Shared -> Prop} {s : Shared} {tg : Expr} {it : Addr} {u : Value} {o : Obj} {n : String} {vs : Array Value} {Q : Unit -> Shared -> Prop} (ho : s.heap.get? it = some o) (hc : o.cls = .type n) (hd : o.data = .fields vs)
    (hn : ["enumerate", "zip", "dict_itemiterator", "dict_reverseitemiterator", "odict_iterator", "itertools.zip_longest", "itertools.pairwise"].contains n = false) (hQ : Q () s) : wpAny M A (letOwnedTupleGo tg (.ref it) u) Q E s := by
  unfold letOwnedTupleGo
  cases tg <;> first
    | exact wpAny_pure hQ
    | (cases u <;> first
        | exact wpAny_pure hQ
        | (refine wpAny_bind (wpAny_load ho ?_)
           rw [hc, hd]
           show wpAny M A (if (["enumerate", "zip", "dict_itemiterator", "dict_reverseitemiterator", "odict_iterator", "itertools.zip_longest", "itertools.pairwise"].contains n && vs[0]? == some (rawInt _)) = true then _ else _) Q E s
           rw [if_neg (by intro h; rw [hn, Bool.false_and] at h; cases h)]
           exact wpAny_pure hQ))
noncomputable def Itl (K : PySem.W.Frag) (a : Addr) : It :=
 ⟨fun i H => ∃ xs x, SqL K H a xs /\ xs[i]? = some x, fun i H x H' => H' = H /\ ∀ xs, SqL K H a xs -> xs[i]? = some x, fun i H => ∃ xs, SqL K H a xs /\ xs.length <= i⟩
noncomputable def Itt (K : PySem.W.Frag) (a : Addr) : It :=
 ⟨fun i H => ∃ xs x, SqT K H a xs /\ xs[i]? = some x, fun i H x H' => H' = H /\ ∀ xs, SqT K H a xs -> xs[i]? = some x, fun i H => ∃ xs, SqT K H a xs /\ xs.length <= i⟩
noncomputable def Itr (lo : Int) (n : Nat) : It := ⟨fun i _ => i < n, fun i H x H' => H' = H /\ x = .int (lo + i), fun i _ => n <= i⟩
theorem turn_list {P : Program} {w : World} {K : PySem.W.Frag} {tg : Expr} (a it : Addr) : Turn P w K tg (Itl K a) [it] it (fun i h => h.IsListIter it a i) where
 mem := by simp
 obj := fun i h st b hb => by
  have e : b = it := by simpa using hb
  subst e
  obtain ⟨o, e, c, d⟩ := st
  exact ⟨o, e, fun v z => by rw [d] at z; cases z⟩
 keep := fun i h h' st k => st.at fun o e => k it (by simp) o e
 item := by
  intro X hP hw hK hc i pins s σ H E I hf st hg
  subst hP hw hK
  obtain ⟨xs, x, hq, hx⟩ := hg
  obtain ⟨its, rv, p, hz⟩ := I.list hq
  obtain ⟨u, hu, ru⟩ := rv.get hx
  obtain ⟨f0, f1, f2, f3, f4, f5⟩ := hf it (by simp)
  refine wpAny_pyNext_list_item st p.isList (x := u) (by simpa using hu) fun h' st' sb => ?_
  have I1 : Inv X pins σ H { s with heap := h' } := I.turned (t' := s.toks) (fun b o hb e => (sb.2 b hb).trans e) f0 f1 f3 f4 f5
  obtain ⟨o, e, c, d⟩ := id st'
  exact ⟨u, rfl, go_of (s := { s with heap := h' }) e c d (by decide) ⟨x, H, I1, ru, ⟨rfl, fun ys hy => by rw [I.list_inj hy hq]; exact hx⟩, st', fun b hb => (hf b hb).1⟩⟩
 done := by
  intro X hP hw hK hc i pins s σ H E I hf st hg
  subst hP hw hK
  obtain ⟨xs, hq, hx⟩ := hg
  obtain ⟨its, rv, p, hz⟩ := I.list hq
  obtain ⟨f0, f1, f2, f3, f4, f5⟩ := hf it (by simp)
  have hl := rv.length
  exact wpAny_pyNext_list_end (I.ok.hd hc) st p.isList (by simp; omega) fun h' eb => ⟨rfl, I.turned (t' := s.toks) (fun b o hb e => eb b o hb e) f0 f1 f3 f4 f5⟩
 self := fun _ _ _ _ _ st h => wpAny_pyIter_listiter st h
theorem turn_tuple {P : Program} {w : World} {K : PySem.W.Frag} {tg : Expr} (a it : Addr) : Turn P w K tg (Itt K a) [it] it (fun i h => h.IsTupleIter it a i) where
 mem := by simp
 obj := fun i h st b hb => by
  have e : b = it := by simpa using hb
  subst e
  obtain ⟨o, e, c, d⟩ := st
  exact ⟨o, e, fun v z => by rw [d] at z; cases z⟩
 keep := fun i h h' st k => st.at fun o e => k it (by simp) o e
 item := by
  intro X hP hw hK hc i pins s σ H E I hf st hg
  subst hP hw hK
  obtain ⟨xs, x, hq, hx⟩ := hg
  obtain ⟨its, rv, p, hz⟩ := I.tuple hq
  obtain ⟨u, hu, ru⟩ := rv.get hx
  obtain ⟨f0, f1, f2, f3, f4, f5⟩ := hf it (by simp)
  refine wpAny_pyNext_tuple_item st (show s.heap.IsTuple a its.toArray from p) (x := u) (by simpa using hu) fun h' st' sb => ?_
  have I1 : Inv X pins σ H { s with heap := h' } := I.turned (t' := s.toks) (fun b o hb e => (sb.2 b hb).trans e) f0 f1 f3 f4 f5
  obtain ⟨o, e, c, d⟩ := id st'
  exact ⟨u, rfl, go_of (s := { s with heap := h' }) e c d (by decide) ⟨x, H, I1, ru, ⟨rfl, fun ys hy => by rw [I.tuple_inj hy hq]; exact hx⟩, st', fun b hb => (hf b hb).1⟩⟩
 done := by
  intro X hP hw hK hc i pins s σ H E I hf st hg
  subst hP hw hK
  obtain ⟨xs, hq, hx⟩ := hg
  obtain ⟨its, rv, p, hz⟩ := I.tuple hq
  obtain ⟨f0, f1, f2, f3, f4, f5⟩ := hf it (by simp)
  have hl := rv.length
  exact wpAny_pyNext_tuple_end (I.ok.hd hc) st (show s.heap.IsTuple a its.toArray from p) (by simp; omega) fun h' eb => ⟨rfl, I.turned (t' := s.toks) (fun b o hb e => eb b o hb e) f0 f1 f3 f4 f5⟩
 self := fun _ _ _ _ _ st h => wpAny_pyIter_tupleiter st h
theorem turn_range {P : Program} {w : World} {K : PySem.W.Frag} {tg : Expr} (it : Addr) (lo : Int) (n : Nat) : Turn P w K tg (Itr lo n) [it] it (fun i h => IsRangeIter h it (lo + (i : Nat) * 1) ((n : Int) - (i : Nat)) 1) where
 mem := by simp
 obj := fun i h st b hb => by
  have e : b = it := by simpa using hb
  subst e
  exact ⟨_, st, fun v z => by
   have z' : Data.fields _ = Data.cell v := z
   cases z'⟩
 keep := fun i h h' st k => k it (by simp) _ st
 item := by
  intro X hP hw hK hc i pins s σ H E I hf st hg
  subst hP hw hK
  obtain ⟨f0, f1, f2, f3, f4, f5⟩ := hf it (by simp)
  have W := Walks.range (prog := X.prog) (w := X.w) (I.ok.hd hc) it lo 1 n
  refine W.item i s _ _ hg st fun v h' tk hv st' kk => ?_
  obtain ⟨t, rfl⟩ := hv
  have I1 : Inv X pins σ H { s with heap := h', toks := tk } := I.turned (fun b o hb e => kk b o (by simpa using hb) e) f0 f1 f3 f4 f5
  refine ⟨_, rfl, go_of (s := { s with heap := h', toks := tk }) (n := "range_iterator") st' rfl rfl (by decide) ⟨.int (lo + i), H, I1, ⟨t, ?_⟩, ⟨rfl, rfl⟩, st', fun b hb => (hf b hb).1⟩⟩
  rw [Int.mul_one]
 done := by
  intro X hP hw hK hc i pins s σ H E I hf st hg
  subst hP hw hK
  obtain ⟨f0, f1, f2, f3, f4, f5⟩ := hf it (by simp)
  exact wpAny_pyNext_range_end (I.ok.hd hc) st (by have : n <= i := hg; omega) fun h' eb => ⟨rfl, I.turned (t' := s.toks) (fun b o hb e => eb b o hb e) f0 f1 f3 f4 f5⟩
 self := fun _ _ _ _ _ st h => wpAny_pyIter_rangeiter st h
end L2
namespace L2
open PySem PySem.Spec PyProof.Rows
section
variable {X : Cx} {tg : Expr}
noncomputable def iList (K : PySem.W.Frag) (tl : TE) : TI := fun σ H R => tl σ H fun x H1 => ∃ a, x = .ref a /\ (∃ xs, SqL K H1 a xs) /\ R (Itl K a) H1
noncomputable def iTup (K : PySem.W.Frag) (tl : TE) : TI := fun σ H R => tl σ H fun x H1 => ∃ a, x = .ref a /\ (∃ xs, SqT K H1 a xs) /\ R (Itt K a) H1
theorem pi_list {l : Expr} {tl : TE} (hl : PE X l tl) : PI X tg l (iList X.K tl) := by
 intro pins s σ H R I h
 refine thn (hl pins s σ H _ I h) fun v s1 ⟨x, H1, I1, r1, q1⟩ => ?_
 obtain ⟨a, e, ⟨xs, hq⟩, q⟩ := q1
 subst e
 cases r1
 obtain ⟨its, rv, p, hz⟩ := I1.list hq
 refine wpAny_pyIter_list p.isList ?_
 refine ⟨s1.heap.objs.size, [s1.heap.objs.size], _, _, H1, rfl, I1.kept (t' := s1.toks) fun b o e => Heap.get?_push_of_some _ e, turn_list a _, ⟨_, Heap.get?_push_size _ rfl, rfl, rfl⟩, fun b hb => ?_, q⟩
 have e : b = s1.heap.objs.size := by simpa using hb
 subst e
 exact I1.fpOk (Nat.le_refl _) (I1.hok.fresh (Nat.le_refl _))
theorem pi_tup {l : Expr} {tl : TE} (hl : PE X l tl) : PI X tg l (iTup X.K tl) := by
 intro pins s σ H R I h
 refine thn (hl pins s σ H _ I h) fun v s1 ⟨x, H1, I1, r1, q1⟩ => ?_
 obtain ⟨a, e, ⟨xs, hq⟩, q⟩ := q1
 subst e
 cases r1
 obtain ⟨its, rv, p, hz⟩ := I1.tuple hq
 refine wpAny_pyIter_tuple (show s1.heap.IsTuple a its.toArray from p) ?_
 refine ⟨s1.heap.objs.size, [s1.heap.objs.size], _, _, H1, rfl, I1.kept (t' := s1.toks) fun b o e => Heap.get?_push_of_some _ e, turn_tuple a _, ⟨_, Heap.get?_push_size _ rfl, rfl, rfl⟩, fun b hb => ?_, q⟩
 have e : b = s1.heap.objs.size := by simpa using hb
 subst e
 exact I1.fpOk (Nat.le_refl _) (I1.hok.fresh (Nat.le_refl _))
theorem range_it {pins : List (Addr × Obj)} {σ : St} {H : Hp} {s : Shared} {R : It -> Hp -> Prop} {E : Value -> Shared -> Prop} {lo hi : Int} {t u v : Tok} {tk : Nat} (I : Inv X pins σ H s) (h1 : -(2 ^ 62) <= lo) (h2 : lo < 2 ^ 62) (h3 : -(2 ^ 62) <= hi) (h4 : hi < 2 ^ 62)
  (q : R (Itr lo (hi - lo).toNat) H) : wpAny (model X.prog X.w) X.A (pyIter (.ref s.heap.objs.size)) (PIE X pins σ tg R) E { s with heap := s.heap.push { cls := .type "range", data := .fields #[.int lo t, .int hi u, .int 1 v] }, toks := tk } := by
 refine wpAny_pyIter_range (IsRange.new ..) (small_one h1 h2 h3 h4) ?_
 have I1 : Inv X pins σ H { s with heap := s.heap.push { cls := .type "range", data := .fields #[.int lo t, .int hi u, .int 1 v] }, toks := tk } := I.kept fun b o e => Heap.get?_push_of_some _ e
 refine ⟨(s.heap.push { cls := .type "range", data := .fields #[.int lo t, .int hi u, .int 1 v] }).objs.size, [(s.heap.push { cls := .type "range", data := .fields #[.int lo t, .int hi u, .int 1 v] }).objs.size], _, _, H, rfl,
  I1.kept (t' := tk) fun b o e => Heap.get?_push_of_some _ e, turn_range _ lo (hi - lo).toNat, ?_, fun b hb => ?_, q⟩
 ·have e1 : lo + ((0 : Nat) : Int) * 1 = lo := by simp
  have e2 : (((hi - lo).toNat : Nat) : Int) - ((0 : Nat) : Int) = Builtin.Range.rangeSize lo hi 1 := by rw [rangeSize_one]; split <;> omega
  show IsRangeIter _ _ (lo + ((0 : Nat) : Int) * 1) ((((hi - lo).toNat : Nat) : Int) - ((0 : Nat) : Int)) 1
  rw [e1, e2]
  exact Heap.get?_push_size _ rfl
 ·have e : b = (s.heap.push { cls := .type "range", data := .fields #[.int lo t, .int hi u, .int 1 v] }).objs.size := by simpa using hb
  subst e
  exact I1.fpOk (Nat.le_refl _) (I1.hok.fresh (Nat.le_refl _))
noncomputable def iRng1 (ta : TA) : TI := fun σ H R => ta σ H fun vs H1 => ∃ j : Int, vs = [.int j] /\ -(2 ^ 62) <= j /\ j < 2 ^ 62 /\ R (Itr 0 j.toNat) H1
noncomputable def iRng2 (ta : TA) : TI := fun σ H R => ta σ H fun vs H1 => ∃ i j : Int, vs = [.int i, .int j] /\ (-(2 ^ 62) <= i /\ i < 2 ^ 62 /\ -(2 ^ 62) <= j /\ j < 2 ^ 62) /\ R (Itr i (j - i).toNat) H1
theorem pi_range1 {a : Expr} {ta : TA} {p pos : Pos} (hg : Gl X "range") (hm : X.mg "range" = none) (ha : PA X [a] ta) (hs : starEach [a] X.env = [(false, eval a X.env)] := by rfl) : PI X tg (.Call (.Name "range" p) [a] [] pos) (iRng1 ta) := by
 intro pins s σ H R I h
 refine Call_ (ld_blt I hg hm boot_range (PyProof.Rows.callWith_type1 (thn (ha pos pins s σ H _ I h) fun us s1 ⟨vs, H1, I1, r1, q1⟩ => ?_) hs rfl))
 obtain ⟨j, e, q1, q2, q⟩ := q1
 subst e
 cases r1 with
 | cons r rr =>
  cases rr
  obtain ⟨t, rfl⟩ := r
  exact call_range_1 (range_it I1 (by omega) (by omega) q1 q2 (by simpa using q))
theorem pi_range2 {a b : Expr} {ta : TA} {p pos : Pos} (hg : Gl X "range") (hm : X.mg "range" = none) (ha : PA X [a, b] ta) (hs : starEach [a, b] X.env = [(false, eval a X.env), (false, eval b X.env)] := by rfl) (hs2 : starEach [b] X.env = [(false, eval b X.env)] := by rfl) :
  PI X tg (.Call (.Name "range" p) [a, b] [] pos) (iRng2 ta) := by
 intro pins s σ H R I h
 refine Call_ (ld_blt I hg hm boot_range (PyProof.Rows.callWith_type1 (thn (ha pos pins s σ H _ I h) fun us s1 ⟨vs, H1, I1, r1, q1⟩ => ?_) (by rw [hs, hs2]) (by rw [hs2]; rfl)))
 obtain ⟨i, j, e, ⟨q1, q2, q3, q4⟩, q⟩ := q1
 subst e
 cases r1 with
 | cons r rr =>
  cases rr with
  | cons r' rr =>
   cases rr
   obtain ⟨t, rfl⟩ := r
   obtain ⟨t', rfl⟩ := r'
   exact call_range_2 (range_it I1 q1 q2 q3 q4 q)
noncomputable def tFor (wi : TI) (g : TG) (tb : TS) : TS := fun D σ H => wi σ H fun J H1 => ∃ W : Nat -> Nat -> St -> Hp -> Prop, (∃ m, W 0 m σ H1) /\ ∀ i m σ H, W i m σ H ->
 (J.stop i H /\ D.nx σ H) \/ (J.go i H /\ ∃ N : St -> Hp -> Prop, (∀ σ' H', N σ' H' -> ∃ m', m' < m /\ W (i + 1) m' σ' H') /\ ∀ x H', J.yld i H x H' -> g x σ H' fun σ2 H2 => tb { D with nx := N, ct := N, bk := D.nx } σ2 H2)
noncomputable def pinsAt (fp : List Addr) (h : Heap) : List (Addr × Obj) := fp.filterMap fun b => (h.get? b).map fun o => (b, o)
theorem mem_pinsAt {fp : List Addr} {h : Heap} {b : Addr} {o : Obj} (hb : b ∈ fp) (e : h.get? b = some o) : (b, o) ∈ pinsAt fp h := List.mem_filterMap.mpr ⟨b, hb, by rw [e]; rfl⟩
theorem of_pinsAt {fp : List Addr} {h : Heap} {p : Addr × Obj} (hp : p ∈ pinsAt fp h) : p.1 ∈ fp /\ h.get? p.1 = some p.2 := by
 obtain ⟨b, hb, e⟩ := List.mem_filterMap.mp hp
 cases q : h.get? b with
 | none => rw [q] at e; cases e
 | some o =>
  rw [q] at e
  have e' : (b, o) = p := Option.some.inj e
  subst e'
  exact ⟨hb, q⟩
theorem Inv.pinned {pins : List (Addr × Obj)} {σ : St} {H : Hp} {s : Shared} {fp : List Addr} (I : Inv X pins σ H s) (hf : ∀ b ∈ fp, FpOk X pins H b) (ho : ∀ b ∈ fp, ∃ o, s.heap.get? b = some o /\ ∀ v, o.data ≠ .cell v) : Inv X (pins ++ pinsAt fp s.heap) σ H s :=
 I.pins_of fun p hp => (List.mem_append.mp hp).elim (fun z => I.pin p (List.mem_append_right _ z)) fun z => by
  obtain ⟨hb, e⟩ := of_pinsAt z
  obtain ⟨f0, f1, f2, _⟩ := hf p.1 hb
  obtain ⟨o, e', d⟩ := ho p.1 hb
  rw [e] at e'; cases e'
  exact ⟨e, f0, f1, f2, d⟩
theorem Inv.unpinned {pins pl : List (Addr × Obj)} {σ : St} {H : Hp} {s : Shared} (I : Inv X (pins ++ pl) σ H s) : Inv X pins σ H s := I.pins_of fun p hp => I.pin p (List.mem_append_right _ (List.mem_append_left _ hp))
theorem ps_for {iter : Expr} {body : List Stmt} {wi : TI} {g : TG} {tb : TS} {pos : Pos} (hp : PassesOwn (model X.prog X.w) X.A X.env X.xe) (hc : X.calm = true) (hi : PI X tg iter wi) (hg : PG X tg g) (hb : PSs X body tb)
  (hs : ∀ x, foldedSetIterable iter X.env x = pure x := by intro _; rfl) : PS X (.For tg iter body [] pos) (tFor wi g tb) := by
 intro pins s σ H D I h
 refine wpAny_For (thn (hi pins s σ H _ I h) fun v s1 h1 => thn h1 fun itv s2 h2 => ?_) hs
 obtain ⟨it, fp, tn, J, H2, e, I2, T, st2, f2, W, ⟨m0, w0⟩, turn⟩ := h2
 subst e
 have stat : ∀ {H' : Hp}, (∀ b ∈ fp, H' b = none) -> ∀ b ∈ fp, FpOk X pins H' b := fun hn b hb => ⟨hn b hb, (f2 b hb).2⟩
 refine codeAny_forLoop_any (fun n s' => ∃ i σ' H', Inv X pins σ' H' s' /\ tn i s'.heap /\ (∀ b ∈ fp, H' b = none) /\ W i n σ' H') ?_ m0 ⟨0, σ, H2, I2, st2, fun b hb => (f2 b hb).1, w0⟩
 rintro n s3 ⟨i, σ3, H3, I3, st3, fr3, w3⟩
 rcases turn i n σ3 H3 w3 with ⟨stop, qn⟩ | ⟨go, N, hN, step⟩
 ·refine wpAny_passesOwn hp (thn (T.done X rfl rfl rfl hc i pins s3 σ3 H3 X.xe I3 (stat fr3) st3 stop) fun r s4 ⟨hr, I4⟩ => ?_)
  subst hr
  exact wpAny_execs_nil ⟨σ3, H3, I4, qn⟩
 ·refine wpAny_passesOwn hp (thn (T.item X rfl rfl rfl hc i pins s3 σ3 H3 X.xe I3 (stat fr3) st3 go) fun r s4 ⟨u, hr, h4⟩ => ?_)
  subst hr
  refine wpAny_passesOwn hp (thn h4 fun _ s5 ⟨x, H5, I5, r5, y5, st5, fr5⟩ => ?_)
  have I5' := I5.pinned (stat fr5) (T.obj _ _ st5)
  refine wpAny_passesOwn hp (thn (hg _ s5 σ3 H5 x u _ I5' r5 (step x H5 y5)) fun _ s6 ⟨σ6, H6, I6, q6⟩ => ?_)
  refine wpAny_passesOwn hp (thn (hb _ s6 σ6 H6 _ I6 q6) fun f s7 q7 => ?_)
  have again : ∀ {σ7 : St} {H7 : Hp}, Inv X (pins ++ pinsAt fp s5.heap) σ7 H7 s7 -> N σ7 H7 -> ∃ m, m < n /\ ∃ i σ' H', Inv X pins σ' H' s7 /\ tn i s7.heap /\ (∀ b ∈ fp, H' b = none) /\ W i m σ' H' := fun {σ7 H7} I7 n7 => by
   obtain ⟨m', hm, w7⟩ := hN σ7 H7 n7
   refine ⟨m', hm, i + 1, σ7, H7, I7.unpinned, T.keep _ _ _ st5 fun b hb o e => (I7.pin (b, o) (List.mem_append_right _ (List.mem_append_right _ (mem_pinsAt hb e)))).1, fun b hb => ?_, w7⟩
   obtain ⟨o, e, d⟩ := T.obj _ _ st5 b hb
   exact (I7.pin (b, o) (List.mem_append_right _ (List.mem_append_right _ (mem_pinsAt hb e)))).2.1
  cases f with
  | next => obtain ⟨σ7, H7, I7, n7⟩ := q7; exact again I7 n7
  | cont => obtain ⟨σ7, H7, I7, n7⟩ := q7; exact again I7 n7
  | brk => obtain ⟨σ7, H7, I7, q7⟩ := q7; exact ⟨σ7, H7, I7.unpinned, q7⟩
  | ret v => obtain ⟨x7, σ7, H7, I7, r7, q7⟩ := q7; exact ⟨x7, σ7, H7, I7.unpinned, r7, q7⟩
end
end L2
namespace L2
open PySem PySem.Spec PyProof.Rows
noncomputable abbrev R2 := V -> V -> Hp -> VK -> Prop
noncomputable def OpR (X : Cx) (f : Value -> Value -> Sem Value) (r : R2) : Prop :=
 ∀ (pins : List (Addr × Obj)) (s : Shared) (σ : St) (H : Hp) (x y : V) (v u : Value) (Q : VK), Inv X pins σ H s -> RelV x v -> RelV y u -> r x y H Q ->
  wpAny (model X.prog X.w) X.A (f v u) (EP X pins σ Q) X.xe s
noncomputable def UnR (X : Cx) (f : Value -> Sem Value) (r : V -> Hp -> VK -> Prop) : Prop :=
 ∀ (pins : List (Addr × Obj)) (s : Shared) (σ : St) (H : Hp) (x : V) (v : Value) (Q : VK), Inv X pins σ H s -> RelV x v -> r x H Q ->
  wpAny (model X.prog X.w) X.A (f v) (EP X pins σ Q) X.xe s
noncomputable def CallR (X : Cx) (f : Value) (r : List V -> Hp -> VK -> Prop) : Prop :=
 ∀ (pins : List (Addr × Obj)) (s : Shared) (σ : St) (H : Hp) (xs : List V) (us : List Value) (Q : VK), Inv X pins σ H s -> Vals xs us -> r xs H Q ->
  wpAny (model X.prog X.w) X.A (call f us) (EP X pins σ Q) X.xe s
noncomputable def tOp (r : R2) (ta tb : TE) : TE := fun σ H Q => ta σ H fun x H1 => tb σ H1 fun y H2 => r x y H2 Q
noncomputable def tUn (r : V -> Hp -> VK -> Prop) (ta : TE) : TE := fun σ H Q => ta σ H fun x H1 => r x H1 Q
noncomputable def rI (C : Int -> Int -> Prop) (g : Int -> Int -> V) : R2 := fun x y H Q => ∃ i j, x = .int i /\ y = .int j /\ C i j /\ Q (g i j) H
noncomputable def rI0 (g : Int -> Int -> V) : R2 := fun x y H Q => ∃ i j, x = .int i /\ y = .int j /\ Q (g i j) H
noncomputable def rU (g : Int -> V) : V -> Hp -> VK -> Prop := fun x H Q => ∃ i, x = .int i /\ Q (g i) H
section
variable {X : Cx} {a b c : Expr} {ta tb tc : TE} {pos : Pos}
theorem binT (ha : PE X a ta) (hb : PE X b tb) {pins : List (Addr × Obj)} {s : Shared} {σ : St} {H : Hp} {R : V -> V -> Hp -> Prop} (I : Inv X pins σ H s)
  (h : ta σ H fun x H1 => tb σ H1 fun y H2 => R x y H2) {Q : Value -> Shared -> Prop} {f : Value -> Value -> Sem Value}
  (hf : ∀ v u s2 x y H2, Inv X pins σ H2 s2 -> RelV x v -> RelV y u -> R x y H2 -> wpAny (model X.prog X.w) X.A (f v u) Q X.xe s2) :
  wpAny (model X.prog X.w) X.A (eval a X.env) (fun v s₁ => wpAny (model X.prog X.w) X.A (eval b X.env) (fun u s₂ => wpAny (model X.prog X.w) X.A (f v u) Q X.xe s₂) X.xe s₁) X.xe s := by
 refine thn (ha pins s σ H _ I h) fun v s1 ⟨x, H1, I1, r1, q1⟩ => ?_
 refine thn (hb pins s1 σ H1 _ I1 q1) fun u s2 ⟨y, H2, I2, r2, q2⟩ => ?_
 exact hf v u s2 x y H2 I2 r1 r2 q2
theorem pe_op {op : Operator} {r : R2} (ho : OpR X (binaryOp op) r) (ha : PE X a ta) (hb : PE X b tb) : PE X (.BinOp a op b pos) (tOp r ta tb) := by
 intro pins s σ H Q I h
 exact wpAny_BinOp (binT ha hb I h fun v u s2 x y H2 I2 rx ry q => ho pins s2 σ H2 x y v u Q I2 rx ry q)
theorem pe_un {op : UnaryOp} {r : V -> Hp -> VK -> Prop} (ho : UnR X (unaryOp op) r) (ha : PE X a ta) : PE X (.UnaryOp op a pos) (tUn r ta) := by
 intro pins s σ H Q I h
 exact UnaryOp_ (thn (ha pins s σ H _ I h) fun v s1 ⟨x, H1, I1, r1, q1⟩ => ho pins s1 σ H1 x v Q I1 r1 q1)
theorem opI {f : Value -> Value -> Sem Value} {C : Int -> Int -> Prop} {g : Int -> Int -> Int}
  (rule : ∀ (i j : Int) (t u : Tok) (s : Shared) (Q : Value -> Shared -> Prop) (E : Value -> Shared -> Prop), C i j -> Q (.int (g i j) s.toks) { s with toks := s.toks + 1 } -> wpAny (model X.prog X.w) X.A (f (.int i t) (.int j u)) Q E s) :
  OpR X f (rI C fun i j => .int (g i j)) := by
 intro pins s σ H x y v u Q I rx ry h
 obtain ⟨i, j, rfl, rfl, hc, q⟩ := h
 obtain ⟨t, rfl⟩ := rx
 obtain ⟨t', rfl⟩ := ry
 exact rule i j t t' s _ _ hc ⟨.int (g i j), H, I.tok _, ⟨_, rfl⟩, q⟩
theorem opI0 {f : Value -> Value -> Sem Value} {g : Int -> Int -> Int}
  (rule : ∀ (i j : Int) (t u : Tok) (s : Shared) (Q : Value -> Shared -> Prop) (E : Value -> Shared -> Prop), Q (.int (g i j) s.toks) { s with toks := s.toks + 1 } -> wpAny (model X.prog X.w) X.A (f (.int i t) (.int j u)) Q E s) :
  OpR X f (rI0 fun i j => .int (g i j)) := by
 intro pins s σ H x y v u Q I rx ry h
 obtain ⟨i, j, rfl, rfl, q⟩ := h
 obtain ⟨t, rfl⟩ := rx
 obtain ⟨t', rfl⟩ := ry
 exact rule i j t t' s _ _ ⟨.int (g i j), H, I.tok _, ⟨_, rfl⟩, q⟩
theorem opB0 {f : Value -> Value -> Sem Value} {g : Int -> Int -> Bool}
  (rule : ∀ (i j : Int) (t u : Tok) (s : Shared) (Q : Value -> Shared -> Prop) (E : Value -> Shared -> Prop), Q (.bool (g i j)) s -> wpAny (model X.prog X.w) X.A (f (.int i t) (.int j u)) Q E s) :
  OpR X f (rI0 fun i j => .bl (g i j)) := by
 intro pins s σ H x y v u Q I rx ry h
 obtain ⟨i, j, rfl, rfl, q⟩ := h
 obtain ⟨t, rfl⟩ := rx
 obtain ⟨t', rfl⟩ := ry
 exact rule i j t t' s _ _ ⟨.bl (g i j), H, I, rfl, q⟩
noncomputable def CPow (i j : Int) : Prop := 0 <= j /\ j <= 1000000 /\ i.natAbs < 2 ^ 64
noncomputable def CMul (i j : Int) : Prop := (-(2 ^ 64) < i /\ i < 2 ^ 64) \/ (-(2 ^ 64) < j /\ j < 2 ^ 64)
theorem CMul.ok {i j : Int} (h : CMul i j) : IntMulOk i j := by
 rcases h with ⟨h1, h2⟩ | ⟨h1, h2⟩
 ·exact .of_left (intBits_le_64 h1 h2)
 ·exact .of_right (intBits_le_64 h1 h2)
theorem op_add : OpR X (binaryOp .Add) (rI0 fun i j => .int (i + j)) := opI0 fun _ _ _ _ _ _ _ q => add_int q
theorem op_sub : OpR X (binaryOp .Sub) (rI0 fun i j => .int (i - j)) := opI0 fun _ _ _ _ _ _ _ q => sub_int q
theorem op_mul : OpR X (binaryOp .Mult) (rI CMul fun i j => .int (i * j)) := opI fun _ _ _ _ _ _ _ hc q => mul_int q hc.ok
theorem op_mod : OpR X (binaryOp .Mod) (rI (fun _ j => 0 < j) fun i j => .int (i % j)) := opI fun i j _ _ _ _ _ hc q => by
 have h1 : (0 : Int) < j := hc
 exact mod_int' (by omega) (by rw [Int.fmod_eq_emod_of_nonneg i (by omega)]; exact q)
theorem op_pow : OpR X (binaryOp .Pow) (rI CPow fun i j => .int (i ^ j.toNat)) := opI fun _ _ _ _ _ _ _ hc q => pow_int_small hc.1 hc.2.1 hc.2.2 q
theorem unI {f : Value -> Sem Value} {g : Int -> Int}
  (rule : ∀ (i : Int) (t : Tok) (s : Shared) (Q : Value -> Shared -> Prop) (E : Value -> Shared -> Prop), Q (.int (g i) s.toks) { s with toks := s.toks + 1 } -> wpAny (model X.prog X.w) X.A (f (.int i t)) Q E s) :
  UnR X f (rU fun i => .int (g i)) := by
 intro pins s σ H x v Q I rx h
 obtain ⟨i, rfl, q⟩ := h
 obtain ⟨t, rfl⟩ := rx
 exact rule i t s _ _ ⟨.int (g i), H, I.tok _, ⟨_, rfl⟩, q⟩
theorem un_neg : UnR X (unaryOp .USub) (rU fun i => .int (-i)) := unI fun _ _ _ _ _ q => neg_int q
end
section
variable {X : Cx} {a b c : Expr} {ta tb tc : TE} {pos : Pos}
theorem fin_bl {pins : List (Addr × Obj)} {σ : St} {H : Hp} {s : Shared} {Q : VK} {k k' : Bool} (I : Inv X pins σ H s) (q : Q (.bl k) H) (e : k = k') : EP X pins σ Q (.bool k') s := by
 subst e
 exact ⟨.bl k, H, I, rfl, q⟩
theorem op_lt : OpR X (compareOp .Lt) (rI0 fun i j => .bl (decide (i < j))) := opB0 fun _ _ _ _ _ _ _ q => lt_int q
theorem op_le : OpR X (compareOp .LtE) (rI0 fun i j => .bl (decide (i <= j))) := opB0 fun _ _ _ _ _ _ _ q => le_int q
theorem op_gt : OpR X (compareOp .Gt) (rI0 fun i j => .bl (decide (j < i))) := opB0 fun _ _ _ _ _ _ _ q => gt_int q
theorem op_ge : OpR X (compareOp .GtE) (rI0 fun i j => .bl (decide (j <= i))) := opB0 fun _ _ _ _ _ _ _ q => ge_int q
theorem op_isN : OpR X (compareOp .Is) (fun x y H Q => y = .non /\ Q (.bl (decide (x = .non))) H) := by
 intro pins s σ H x y v u Q I rx ry h
 obtain ⟨rfl, q⟩ := h
 cases ry
 refine is_none_gen (fin_bl I q ?_)
 cases x <;> first
  | (cases rx; rfl)
  | (obtain ⟨t, rfl⟩ := rx; rfl)
theorem op_notN : OpR X (compareOp .IsNot) (fun x y H Q => y = .non /\ Q (.bl (!decide (x = .non))) H) := by
 intro pins s σ H x y v u Q I rx ry h
 obtain ⟨rfl, q⟩ := h
 cases ry
 refine isnot_none_gen (fin_bl I q ?_)
 cases x <;> first
  | (cases rx; rfl)
  | (obtain ⟨t, rfl⟩ := rx; rfl)
theorem OpR.or {f : Value -> Value -> Sem Value} {r r' : R2} (h : OpR X f r) (h' : OpR X f r') : OpR X f (fun x y H Q => r x y H Q \/ r' x y H Q) := by
 intro pins s σ H x y v u Q I rx ry q
 rcases q with q | q
 ·exact h pins s σ H x y v u Q I rx ry q
 ·exact h' pins s σ H x y v u Q I rx ry q
theorem pe_cmpR {op : CmpOp} {r : R2} (ho : OpR X (compareOp op) r) (ha : PE X a ta) (hb : PE X b tb) (hm : behindInMarks op b = false) : PE X (.Compare a [op] [b] pos) (tOp r ta tb) := by
 intro pins s σ H Q I h
 exact wpAny_Compare1 (binT ha hb I h fun v u s2 x y H2 I2 rx ry q => ho pins s2 σ H2 x y v u Q I2 rx ry q) hm
noncomputable def tTest (t : TE) : TT := fun σ H Q => t σ H fun x H' => ∃ k, x = .bl k /\ Q k H'
theorem pt_cmpR {op : CmpOp} {r : R2} (ho : OpR X (compareOp op) r) (ha : PE X a ta) (hb : PE X b tb) (hm : behindInMarks op b = false) : PT X (.Compare a [op] [b] pos) (tTest (tOp r ta tb)) := by
 intro pins s σ H Q I h
 refine wpAny_isTrue_Compare1 (thn (ha pins s σ H _ I h) fun v s1 ⟨x, H1, I1, r1, q1⟩ => thn (hb pins s1 σ H1 _ I1 q1) fun u s2 ⟨y, H2, I2, r2, q2⟩ =>
  thn (ho pins s2 σ H2 x y v u _ I2 r1 r2 q2) fun c s3 ⟨z, H3, I3, r3, k, e, q3⟩ => ?_) hm
 subst e
 cases r3
 exact wpAny_truthy_bool ⟨H3, I3, q3⟩
noncomputable def tChain (r r' : R2) (ta tb tc : TE) : TE := fun σ H Q => ta σ H fun x H1 => tb σ H1 fun y H2 => r x y H2 fun z H3 => ∃ k, z = .bl k /\
 (if k = true then tc σ H3 fun w' H4 => r' y w' H4 Q else Q (.bl false) H3)
theorem pe_chain {op op' : CmpOp} {r r' : R2} (ho : OpR X (compareOp op) r) (ho' : OpR X (compareOp op') r') (ha : PE X a ta) (hb : PE X b tb) (hc : PE X c tc)
  (hm : lastMarks [op, op'] [b, c] = false := by with_unfolding_all rfl) : PE X (.Compare a [op, op'] [b, c] pos) (tChain r r' ta tb tc) := by
 intro pins s σ H Q I h
 refine Compare_chain (thn (ha pins s σ H _ I h) fun v s1 ⟨x, H1, I1, r1, q1⟩ => chain_link (thn (hb pins s1 σ H1 _ I1 q1) fun u s2 ⟨y, H2, I2, r2, q2⟩ =>
  thn (ho pins s2 σ H2 x y v u _ I2 r1 r2 q2) fun d s3 ⟨z, H3, I3, r3, k, e, q3⟩ => ?_)) hm
 subst e
 cases r3
 refine wpAny_truthy_bool ?_
 cases k with
 | false => exact ite_ff ⟨.bl false, H3, I3, rfl, q3⟩
 | true => exact ite_tt (chain_last (thn (hc pins s3 σ H3 _ I3 q3) fun w' s4 ⟨z', H4, I4, r4, q4⟩ => ho' pins s4 σ H4 y z' u w' Q I4 r2 r4 q4))
theorem pt_chain {op op' : CmpOp} {r r' : R2} (ho : OpR X (compareOp op) r) (ho' : OpR X (compareOp op') r') (ha : PE X a ta) (hb : PE X b tb) (hc : PE X c tc)
  (hm : lastMarks [op, op'] [b, c] = false := by with_unfolding_all rfl) : PT X (.Compare a [op, op'] [b, c] pos) (tTest (tChain r r' ta tb tc)) := by
 intro pins s σ H Q I h
 refine isTrue_chain (thn (ha pins s σ H _ I h) fun v s1 ⟨x, H1, I1, r1, q1⟩ => test_link (thn (hb pins s1 σ H1 _ I1 q1) fun u s2 ⟨y, H2, I2, r2, q2⟩ =>
  thn (ho pins s2 σ H2 x y v u _ I2 r1 r2 q2) fun d s3 ⟨z, H3, I3, r3, k, e, q3⟩ => ?_)) hm
 subst e
 cases r3
 refine wpAny_truthy_bool ?_
 cases k with
 | false =>
  obtain ⟨k', e', q'⟩ := q3
  cases e'
  exact ite_ff ⟨H3, I3, q'⟩
 | true =>
  refine ite_tt (test_last (thn (hc pins s3 σ H3 _ I3 q3) fun w' s4 ⟨z', H4, I4, r4, q4⟩ => thn (ho' pins s4 σ H4 y z' u w' _ I4 r2 r4 q4) fun d' s5 ⟨z2, H5, I5, r5, k2, e2, q5⟩ => ?_))
  subst e2
  cases r5
  exact wpAny_truthy_bool ⟨H5, I5, q5⟩
theorem line63 : (sizeLine : Nat) < 2 ^ 63 := by rw [sizeLine_eq]; decide
theorem op_add_str : OpR X (binaryOp .Add) (fun x y H Q => ∃ i j, x = .str i /\ y = .str j /\ i.length + j.length <= sizeLine /\ Q (.str (i ++ j)) H) := by
 intro pins s σ H x y v u Q I rx ry h
 obtain ⟨i, j, rfl, rfl, hz, q⟩ := h
 obtain ⟨t, rfl⟩ := rx
 obtain ⟨t', rfl⟩ := ry
 exact add_str (fun t' tk => ⟨.str (i ++ j), H, I.tok _, ⟨_, rfl⟩, q⟩) hz
theorem vals1 {x : V} {us : List Value} (r : Vals [x] us) : ∃ u, us = [u] /\ RelV x u := by
 cases r with
 | cons r1 r2 => cases r2; exact ⟨_, rfl, r1⟩
theorem call_abs : CallR X (.builtin "abs") (fun xs H Q => ∃ i, xs = [.int i] /\ Q (.int (if i < 0 then -i else i)) H) := by
 intro pins s σ H xs us Q I r h
 obtain ⟨i, rfl, q⟩ := h
 obtain ⟨u, rfl, t, rfl⟩ := vals1 r
 exact call_abs_int fun u tk => ⟨.int (if i < 0 then -i else i), H, I.tok _, ⟨_, rfl⟩, q⟩
theorem call_int1 : CallR X (.type "int") (fun xs H Q => (∃ i, xs = [.int i] /\ Q (.int i) H) \/ ∃ k, xs = [.bl k] /\ Q (.int (if k then 1 else 0)) H) := by
 intro pins s σ H xs us Q I r h
 rcases h with ⟨i, rfl, q⟩ | ⟨k, rfl, q⟩
 ·obtain ⟨u, rfl, t, rfl⟩ := vals1 r
  exact call_int_int ⟨.int i, H, I, ⟨_, rfl⟩, q⟩
 ·obtain ⟨u, rfl, r1⟩ := vals1 r
  cases r1
  exact call_int_bool ⟨.int (if k then 1 else 0), H, I.tok _, ⟨_, rfl⟩, q⟩
end
end L2
namespace L2
open PySem PySem.Spec PyProof.Rows
structure ObjM (h : Heap) (x dx C : Addr) (mA : Str -> Option Value) : Prop where
 obj : h.get? x = some (PySem.W.instObj C dx)
 ns : h.Ns1 dx mA
 ne : dx ≠ x
set_option tactic.hygienic true in
theorem lookIn_ns {h : Heap} {dx : Addr} {mA : Str -> Option Value} (n : h.Ns1 dx mA) : ∃ od, h.get? dx = some od /\ ∀ name, PySem.W.lookIn name od = some (mA name) := by
 obtain ⟨o, es, ep, ho, hd, hk, _, hm⟩ := n
 refine ⟨o, ho, fun name => ?_⟩
 have e := hm name
 unfold nsFind findBy at e
 rw [<- Array.find?_toList] at e
 unfold PySem.W.lookIn
 rw [hd]
 dsimp only
 split
 ·rename_i y q
  rw [q] at e
  exact congrArg some e
 ·rename_i q
  rw [q] at e
  have a : es.toList.any (·.refKey) = false := by
   rw [List.any_eq_false]
   intro y hy
   obtain ⟨z, t, hkey⟩ := hk y (Array.mem_toList_iff.mp hy)
   simp [DictEntry.refKey, hkey]
  have a' : ¬ es.toList.any (·.refKey) = true := by rw [a]; exact Bool.false_ne_true
  rw [if_neg a']
  exact congrArg some e
theorem ObjM.look {h : Heap} {x dx C : Addr} {mA : Str -> Option Value} (I : ObjM h x dx C mA) : ∃ od, PySem.W.InstAt h x (PySem.W.instObj C dx) C (some od) /\ ∀ name, PySem.W.lookIn name od = some (mA name) :=
 let ⟨od, ho, hl⟩ := lookIn_ns I.ns
 ⟨od, ⟨I.obj, rfl, rfl, ho⟩, hl⟩
theorem RelO.some_of {v : V} {o : Option Value} (r : RelO (some v) o) : ∃ u, o = some u /\ RelV v u := by
 cases o with
 | none => exact (show False from r).elim
 | some u => exact ⟨u, rfl, r⟩
section
variable {P : Program} {w : World} {H H' : Hp} {h h' : Heap} {a C dx : Addr} {fs fs' : List (Str × V)}
theorem ins_get (hok : HOk P w H h) (e : H a = some (.ins C dx fs)) : ∃ mA, ObjM h a dx C mA /\ (∀ f, RelO (fs.lookup f) (mA f)) /\ PySem.Within mA (fs.map (·.1)) /\ fs.length <= 1000 /\ H dx = some (.own a) := by
 obtain ⟨d, z, ne, ob, mA, n, r, q⟩ := (show ObjOk P w H h a (.ins C dx fs) from hok a _ e)
 exact ⟨mA, ⟨ob, n, ne⟩, r, q, z, d⟩
end
structure Cls (K : PySem.W.Frag) (C : Addr) : Prop where
 pg : PySem.W.plainGet K C Str.empty = true
 hd : PySem.W.hasDictIn K C = true
 po : PySem.W.plainOver K C = true
 sa : PySem.W.findIn K (.ref C) "__setattr__" = some (some (.builtin "object.__setattr__"))
theorem Cls.get {K : PySem.W.Frag} {C : Addr} (c : Cls K C) (f : Str) : PySem.W.plainGet K C f = true := c.pg
section
variable {X : Cx} {pins : List (Addr × Obj)} {σ : St} {H : Hp} {s : Shared} {A : Around} {E : Value -> Shared -> Prop} {Q : Value -> Shared -> Prop} {c : Value} {b : Bool}
inductive TyOf (K : PySem.W.Frag) (H : Hp) : V -> Value -> Prop where
 | non : TyOf K H .non (.type "NoneType")
 | bl (x : Bool) : TyOf K H (.bl x) (.type "bool")
 | int (i : Int) : TyOf K H (.int i) (.type "int")
 | str (x : Str) : TyOf K H (.str x) (.type "str")
 | flt (x : UInt64) : TyOf K H (.flt x) (.type "float")
 | lst {a : Addr} {xs : List V} (e : H a = some (.lst xs)) : TyOf K H (.ref a) (.type "list")
 | frz {a : Addr} {o : Obj} {xs : List V} (e : H a = some (.frz o (.lst xs))) : TyOf K H (.ref a) (.type "list")
 | tup {a : Addr} {xs : List V} (e : H a = some (.tup xs)) : TyOf K H (.ref a) (.type "tuple")
 | dK {a : Addr} {kvs : List (Key × V)} (e : H a = some (.dK kvs)) : TyOf K H (.ref a) (.type "dict")
 | dT {a : Addr} {kvs : List (List Key × V)} (e : H a = some (.dT kvs)) : TyOf K H (.ref a) (.type "dict")
 | ins {a C dx : Addr} {fs : List (Str × V)} (e : H a = some (.ins C dx fs)) (cl : Cls K C) (ha : PySem.W.findIn K (.ref C) "__class__" = some (some (.builtin "object.__class__")))
   (hn : PySem.W.specialIn K (.builtin "object.__class__") "__get__" = some (some (.builtin "getset_descriptor.__get__"))) (htk : PySem.W.takesIn K (.builtin "object.__class__") = some true)
   (hm : PySem.W.mroIn K C (.type "object") = some true) : TyOf K H (.ref a) (.ref C)
theorem isinst_ok {x : V} {u t : Value} (I : Inv X pins σ H s) (rx : RelV x u) (ty : TyOf X.K H x t) (e : PySem.W.kitOne X.K t c = some b) (h : ∀ tk, Q (.bool b) { s with toks := tk }) :
  wpAny (model X.prog X.w) A (call (.builtin "isinstance") [u, c]) Q E s := by
 cases ty with
 | non => cases (show u = Value.none from rx); exact PySem.W.kia_one PySem.W.kitx_none I.kIn True.intro e (fun z => nomatch z) h
 | bl y => cases (show u = Value.bool y from rx); exact PySem.W.kia_one PySem.W.kitx_bool I.kIn True.intro e (fun z => nomatch z) h
 | int i => obtain ⟨t, q⟩ := (show ∃ t, u = Value.int i t from rx); cases q; exact PySem.W.kia_one PySem.W.kitx_int I.kIn True.intro e (fun z => nomatch z) h
 | str y => obtain ⟨t, q⟩ := (show ∃ t, u = Value.str y t from rx); cases q; exact PySem.W.kia_one PySem.W.kitx_str I.kIn True.intro e (fun z => nomatch z) h
 | flt y => obtain ⟨t, q⟩ := (show ∃ t, u = Value.float y t from rx); cases q; exact PySem.W.kia_one PySem.W.kitx_float I.kIn True.intro e (fun z => nomatch z) h
 | @lst a xs ea =>
  cases (show u = Value.ref a from rx)
  obtain ⟨_, _, n, _, h1⟩ := (show ObjOk X.prog X.w H s.heap a (.lst xs) from I.hok a _ ea)
  exact PySem.W.kia_one PySem.W.kitx_list I.kIn ⟨_, h1, rfl⟩ e (fun z => nomatch z) h
 | @frz a ob xs ea =>
  cases (show u = Value.ref a from rx)
  obtain ⟨_, _, _, n, _, h1⟩ := (show ObjOk X.prog X.w H s.heap a (.frz ob (.lst xs)) from I.hok a _ ea)
  exact PySem.W.kia_one PySem.W.kitx_list I.kIn ⟨_, h1, rfl⟩ e (fun z => nomatch z) h
 | @tup a xs ea =>
  cases (show u = Value.ref a from rx)
  obtain ⟨_, _, _, p⟩ := (show ObjOk X.prog X.w H s.heap a (.tup xs) from I.hok a _ ea)
  obtain ⟨o, h1, h2, _⟩ := p
  exact PySem.W.kia_one PySem.W.kitx_tuple I.kIn ⟨o, h1, h2⟩ e (fun z => nomatch z) h
 | @dK a kvs ea =>
  cases (show u = Value.ref a from rx)
  obtain ⟨_, _, vs, _, p⟩ := (show ObjOk X.prog X.w H s.heap a (.dK kvs) from I.hok a _ ea)
  obtain ⟨o, es, ep, h1, h2, _⟩ := p
  exact PySem.W.kia_one PySem.W.kitx_dict I.kIn ⟨o, h1, h2.1⟩ e (fun z => nomatch z) h
 | @dT a kvs ea =>
  cases (show u = Value.ref a from rx)
  obtain ⟨_, _, xs, _, o, es, ep, h1, h2, _⟩ := (show ObjOk X.prog X.w H s.heap a (.dT kvs) from I.hok a _ ea)
  exact PySem.W.kia_one PySem.W.kitx_dict I.kIn ⟨o, h1, h2.1⟩ e (fun z => nomatch z) h
 | @ins a C dx fs ea cl ha hn htk hm =>
  cases (show u = Value.ref a from rx)
  obtain ⟨mA, O, _⟩ := ins_get I.hok ea
  obtain ⟨od, J, _⟩ := O.look
  exact PySem.W.kia_one (PySem.W.kitx_own (cl.get _) cl.hd ha hn htk hm) I.kIn J e (fun z => nomatch z) h
end
end L2
namespace L2
open PySem PySem.Spec PyProof.Rows
structure Room (k : Nat) (A : Around) : Prop where
 hd : A.handled = none
 dp : A.depth + 3 * k + 5 < recursionLimit
 un : A.units + 16 * k + 200 < cLine
theorem Room.deeper {k : Nat} {A : Around} (r : Room (k + 1) A) (env : Env) : Room k (A.deeper env) :=
 ⟨r.hd, by have := r.dp; show A.depth + 1 + 3 * k + 5 < _; omega, by have := r.un; show A.units + 3 + 16 * k + 200 < _; omega⟩
theorem Room.in1 {k : Nat} {A : Around} (r : Room (k + 1) A) : Room k A.in1 :=
 ⟨r.hd, by have := r.dp; show A.depth + 3 * k + 5 < _; omega, by have := r.un; show A.units + 1 + 16 * k + 200 < _; omega⟩
theorem Room.depth {k : Nat} {A : Around} (r : Room k A) : A.depth < recursionLimit := by have := r.dp; omega
theorem Room.units {k : Nat} {A : Around} (r : Room k A) : A.units + 64 < cLine := by have := r.un; omega
noncomputable def tNil : TA := fun _ H Q => Q [] H
noncomputable def tCons (ta : TE) (tr : TA) : TA := fun σ H Q => ta σ H fun x H1 => tr σ H1 fun xs H2 => Q (x :: xs) H2
section
variable {X : Cx} {e : Expr} {es : List Expr} {te : TE} {t : TA} {pos : Pos}
theorem pa_nil : PA X [] tNil := fun _ _ _ _ H Q I h => Calls.spliced_nil ⟨[], H, I, .nil, h⟩
theorem pa_cons (ha : PE X e te) (hr : PA X es t) (hs : starEach (e :: es) X.env = (false, eval e X.env) :: starEach es X.env := by rfl) : PA X (e :: es) (tCons te t) := by
 intro pos pins s σ H Q I h
 rw [hs]
 show wpAny _ _ (spliced ((false, eval e X.env) :: backTo pos (starEach es X.env))) _ _ s
 refine Calls.spliced_cons (thn (ha pins s σ H _ I h) fun u s1 ⟨x, H1, I1, r1, q1⟩ => ?_)
 exact thn (hr pos pins s1 σ H1 _ I1 q1) fun us s2 ⟨xs, H2, I2, r2, q2⟩ => ⟨x :: xs, H2, I2, .cons r1 r2, q2⟩
noncomputable def tTup (t : TA) : TE := fun σ H Q => t σ H fun xs H1 => xs.length <= sizeLine /\ ∀ p, H1 p = none -> Q (.ref p) (upd H1 p (.tup xs))
noncomputable def tLst (t : TA) : TE := fun σ H Q => t σ H fun xs H1 => xs.length <= sizeLine /\ ∀ p, H1 p = none -> Q (.ref p) (upd H1 p (.lst xs))
theorem pe_tup {x1} (h : PA X es t) : PE X (.Tuple es x1 pos) (tTup t) := by
 intro pins s σ H Q I hq
 refine wpAny_Tuple_spliced (thn (h pos pins s σ H _ I hq) fun us s1 ⟨xs, H1, I1, r, z, q⟩ => ⟨by rw [<- r.length]; exact z, ?_⟩)
 have hf : H1 s1.heap.objs.size = none := I1.hok.fresh (Nat.le_refl _)
 refine ⟨.ref s1.heap.objs.size, upd H1 s1.heap.objs.size (.tup xs), I1.laid (t' := s1.toks) (fun b u e => Heap.get?_push_of_some _ e) (Nat.le_refl _) ?_, rfl, q _ hf⟩
 exact ⟨z, us, r, ⟨_, Heap.get?_push_size _ rfl, rfl, _, rfl⟩⟩
theorem pe_lst (h : PA X es t) : PE X (.List es pos) (tLst t) := by
 intro pins s σ H Q I hq
 refine wpAny_List_spliced (thn (h pos pins s σ H _ I hq) fun us s1 ⟨xs, H1, I1, r, z, q⟩ => ⟨by rw [<- r.length]; exact z, ?_⟩)
 have hf : H1 s1.heap.objs.size = none := I1.hok.fresh (Nat.le_refl _)
 refine ⟨.ref s1.heap.objs.size, upd H1 s1.heap.objs.size (.lst xs), I1.laid (t' := s1.toks) (fun b u e => Heap.get?_push_of_some _ e) (Nat.le_refl _) ?_, rfl, q _ hf⟩
 exact ⟨z, us, 0, r, Heap.get?_push_size _ rfl⟩
end
noncomputable abbrev Sp := List V -> Hp -> VK -> XK -> Prop
noncomputable abbrev CXT := List Env -> Hp -> Shared -> XK -> Value -> Shared -> Prop
structure Env0 (P : Program) (w : World) (K : PySem.W.Frag) (mg : Str -> Option Value) (base : Heap) (A : Around) (outer : List Env) (s : Shared) (H : Hp) : Prop where
 frames : A.frames = some outer
 mod : Mod K mg base
 bs : ∀ b o, base.get? b = some o -> s.heap.get? b = some o /\ H b = none
 bsz : base.objs.size <= s.heap.objs.size
 funs : s.heap.FunFrames base outer
 frf : ∀ b ∈ frs outer, H b = none
 hok : HOk P w H s.heap
 bare : AllBare s.gens
noncomputable def CE (outer : List Env) (P : Program) (w : World) (H : Hp) (s : Shared) (Q : VK) (u : Value) (s' : Shared) : Prop :=
 ∃ v H', s'.os = s.os /\ AllBare s'.gens /\ Un (frs outer) [] H H' s.heap s'.heap /\ HOk P w H' s'.heap /\ RelV v u /\ Q v H'
noncomputable def CR (CX : CXT) (outer : List Env) (P : Program) (w : World) (H : Hp) (s : Shared) (Q : VK) (E : XK) (r : Result) (s' : Shared) : Prop :=
 match r with
 | .ok (.ret u) => CE outer P w H s Q u s'
 | .ok _ => False
 | .error e => CX outer H s E e s'
structure FnOk (P : Program) (w : World) (K : PySem.W.Frag) (mg : Str -> Option Value) (base : Heap) (CX : CXT) (k : Nat) (f : Addr) (fd : FuncData) (ps : List Str) (sp : Sp) : Prop where
 len : ∀ vs H Q E, sp vs H Q E -> vs.length = ps.length
 run : ∀ (A : Around) (outer : List Env) (s : Shared) (H : Hp) (args : Args) (us : List Value) (vs : List V) (Q : VK) (E : XK), Room k A -> Env0 P w K mg base A outer s H -> BindsTo s fd args (ps.zip us) -> Vals vs us -> sp vs H Q E ->
  codeAny (model P w) A (.call (.ref f) args) (CR CX outer P w H s Q E) s
theorem Env0.in1 {P : Program} {w : World} {K : PySem.W.Frag} {mg : Str -> Option Value} {base : Heap} {A : Around} {outer : List Env} {s : Shared} {H : Hp} (e : Env0 P w K mg base A outer s H) :
  Env0 P w K mg base A.in1 outer s H := ⟨e.frames, e.mod, e.bs, e.bsz, e.funs, e.frf, e.hok, e.bare⟩
section
variable {X : Cx} {pins : List (Addr × Obj)} {σ : St} {H : Hp} {s s' : Shared}
theorem Inv.env0 (I : Inv X pins σ H s) : Env0 X.prog X.w X.K X.mg X.base X.A X.stack s H :=
 ⟨I.ok.frames, I.ok.mod, I.bs, Nat.le_trans I.ok.bsz I.sz, I.stack, I.stkFree, I.hok, I.bare⟩
theorem Inv.after {Q : VK} {u : Value} (I : Inv X pins σ H s) (h : CE X.stack X.prog X.w H s Q u s') : EP X pins σ Q u s' := by
 obtain ⟨v, H', os, bare, un, hok, r, q⟩ := h
 obtain ⟨hh, g, d, t, os'⟩ := s'
 obtain rfl : os' = s.os := os
 exact ⟨v, H', I.call (h' := hh) (g' := g) (d' := d) (t' := t) (ch := []) un hok bare (fun b z => absurd z (by simp)), r, q⟩
end
noncomputable def tCall (sp : Sp) (dvs : List V) (E : XK) (t : TA) : TE := fun σ H Q => t σ H fun vs H1 => sp (vs ++ dvs) H1 Q E
noncomputable def Binds (K : PySem.W.Frag) (fd : FuncData) (ps : List Str) (ds : List Value) : Prop :=
 ∀ (s : Shared) (us : List Value), K.In s.heap -> (us ++ ds).length = ps.length -> BindsTo s fd ⟨us, []⟩ (ps.zip (us ++ ds))
theorem Binds.all {K : PySem.W.Frag} {fd : FuncData} {ps : List Str} (h : ∀ us : List Value, us.length = ps.length -> bindArgs fd ⟨us, []⟩ = pure (ps.zip us)) : Binds K fd ps [] := fun s us _ hl => by
 rw [List.append_nil] at hl ⊢
 exact .of_eq (h us hl)
noncomputable def Passes (CX : CXT) (X : Cx) (E : XK) : Prop := ∀ (pins : List (Addr × Obj)) (σ : St) (H : Hp) (s : Shared) (e : Value) (s' : Shared), Inv X pins σ H s -> CX X.stack H s E e s' -> X.xe e s'
section
variable {X : Cx} {CX : CXT} {k : Nat} {f C : Addr} {fd : FuncData} {ps : List Str} {sp : Sp} {dvs : List V} {ds : List Value} {E : XK} {x m : Str} {p pos apos : Pos} {e o : Expr} {es : List Expr} {ta : TE} {t : TA}
theorem run_fn {pins : List (Addr × Obj)} {σ : St} {H : Hp} {s : Shared} {Q : VK} {us : List Value} {vs : List V} (F : FnOk X.prog X.w X.K X.mg X.base CX k f fd ps sp) (hr : Room k X.A) (hb : Binds X.K fd ps ds) (hd : Vals dvs ds) (hx : Passes CX X E)
  (I : Inv X pins σ H s) (r : Vals vs us) (h : sp (vs ++ dvs) H Q E) : wpAny (model X.prog X.w) X.A (call (.ref f) us) (EP X pins σ Q) X.xe s := by
 have r2 : Vals (vs ++ dvs) (us ++ ds) := r.append hd
 have hl : (us ++ ds).length = ps.length := by rw [<- r2.length]; exact F.len _ _ _ _ h
 refine wpAny_call (codeAny_mono (F.run X.A X.stack s H ⟨us, []⟩ (us ++ ds) (vs ++ dvs) Q E hr I.env0 (hb s us I.kIn hl) r2 h) fun r s' hq => ?_)
 cases r with
 | error e => exact hx pins σ H s e s' I hq
 | ok fl =>
  cases fl with
  | ret u => exact I.after hq
  | next => exact False.elim hq
  | brk => exact False.elim hq
  | cont => exact False.elim hq
theorem pe_call (F : FnOk X.prog X.w X.K X.mg X.base CX k f fd ps sp) (hr : Room k X.A) (hg : Gl X x) (hm : X.mg x = some (.ref f)) (hk : PySem.W.keepIn X.K (.ref f) = true) (hb : Binds X.K fd ps ds) (hd : Vals dvs ds) (hx : Passes CX X E)
  (ha : PA X (e :: es) t) (hdb : (x == ("__debug__" : Str)) = false := by decide) (he : starEach (e :: es) X.env = (false, eval e X.env) :: starEach es X.env := by rfl) (hpl : (backTo pos (starEach es X.env)).any (·.1) = false := by rfl) :
  PE X (.Call (.Name x p) (e :: es) [] pos) (tCall sp dvs E t) := by
 intro pins s σ H Q I h
 refine wpAny_Call_Name_kw (ld_glob I hg hm ?_ hdb)
 refine PySem.W.callWith_K (h₀ := X.base) I.ok.mod.kin hk (thn (ha pos pins s σ H _ I h) fun us s1 ⟨vs, H1, I1, r, q⟩ => ⟨I1.kIn, ?_⟩) he hpl
 exact run_fn F hr hb hd hx I1 r q
end
noncomputable def PK (X : Cx) (kws : List Keyword) (t : TA) : Prop :=
 ∀ (pos : Pos) (pins : List (Addr × Obj)) (s : Shared) (σ : St) (H : Hp) (Q : List V -> Hp -> Prop), Inv X pins σ H s -> t σ H Q -> wpAny (model X.prog X.w) X.A (evalAll ((backToKw pos (keywordEach kws X.env)).map (·.2))) (AP X pins σ Q) X.xe s
section
variable {X : Cx} {CX : CXT} {k : Nat} {f C : Addr} {fd : FuncData} {ps ks : List Str} {sp : Sp} {E : XK} {x m : Str} {p pos apos kpos : Pos} {e o : Expr} {es : List Expr} {kws : List Keyword} {te ta : TE} {t tk : TA} {nm : Option Str}
theorem pk_nil : PK X [] tNil := fun _ _ _ _ H Q I h => wpAny_evalAll_nil ⟨[], H, I, .nil, h⟩
theorem pk_cons (ha : PE X e te) (hr : PK X kws t) : PK X (⟨nm, e, kpos⟩ :: kws) (tCons te t) := by
 intro pos pins s σ H Q I h
 show wpAny _ _ (evalAll ((do let v <- eval e X.env; standAt pos; pure v) :: (backToKw pos (keywordEach kws X.env)).map (·.2))) _ _ s
 refine wpAny_evalAll_cons (wpAny_bind (thn (ha pins s σ H _ I h) fun u s1 ⟨x, H1, I1, r1, q1⟩ => wpAny_bind (wpAny_standAt (wpAny_pure ?_))))
 exact thn (hr pos pins s1 σ H1 _ I1 q1) fun us s2 ⟨xs, H2, I2, r2, q2⟩ => ⟨x :: xs, H2, I2, .cons r1 r2, q2⟩
structure KBinds (K : PySem.W.Frag) (fd : FuncData) (ps ks : List Str) (g : List Value -> List Value -> List Value) (gV : List V -> List V -> List V) : Prop where
 to : ∀ (s : Shared) (us ws : List Value), K.In s.heap -> (g us ws).length = ps.length -> BindsTo s fd ⟨us, ks.zip ws⟩ (ps.zip (g us ws))
 rel : ∀ {vs : List V} {us : List Value} {zs : List V} {ws : List Value}, Vals vs us -> Vals zs ws -> Vals (gV vs zs) (g us ws)
noncomputable def tCallK (sp : Sp) (gV : List V -> List V -> List V) (E : XK) (t tk : TA) : TE := fun σ H Q => t σ H fun vs H1 => tk σ H1 fun zs H2 => sp (gV vs zs) H2 Q E
variable {g : List Value -> List Value -> List Value} {gV : List V -> List V -> List V}
theorem run_fnk {pins : List (Addr × Obj)} {σ : St} {H : Hp} {s : Shared} {Q : VK} {us ws : List Value} {vs zs : List V} (F : FnOk X.prog X.w X.K X.mg X.base CX k f fd ps sp) (hr : Room k X.A) (hb : KBinds X.K fd ps ks g gV) (hx : Passes CX X E)
  (I : Inv X pins σ H s) (r : Vals vs us) (rz : Vals zs ws) (h : sp (gV vs zs) H Q E) : wpAny (model X.prog X.w) X.A (call (.ref f) us (ks.zip ws)) (EP X pins σ Q) X.xe s := by
 have r2 := hb.rel r rz
 have hl : (g us ws).length = ps.length := by rw [<- r2.length]; exact F.len _ _ _ _ h
 refine wpAny_call (codeAny_mono (F.run X.A X.stack s H ⟨us, ks.zip ws⟩ (g us ws) (gV vs zs) Q E hr I.env0 (hb.to s us ws I.kIn hl) r2 h) fun r s' hq => ?_)
 cases r with
 | error e => exact hx pins σ H s e s' I hq
 | ok fl =>
  cases fl with
  | ret u => exact I.after hq
  | next => exact False.elim hq
  | brk => exact False.elim hq
  | cont => exact False.elim hq
end
structure FnScope (N P : List Str) (sc : Scope) : Prop where
 kind : sc.kind = .function
 co : sc.isCoroutine = false
 gen : sc.isGenerator = false
 nd : N.Nodup
 pre : N.take P.length = P
 par : ∀ x ∈ P, sc.names.lookup x = some .local \/ sc.names.lookup x = some .cell
 nofree : ∀ y ∈ sc.names, y.2 ≠ .free
theorem bindL_out {kindOf : Str -> Option NameKind} {x : Str} : ∀ {binds : List (Str × Value)} {m : Str -> Option Value}, (∀ v, (x, v) ∉ binds) -> bindL kindOf binds m x = m x
 | [], _, _ => rfl
 | (n, v) :: r, m, h => by
  unfold bindL
  rw [bindL_out fun w hw => h w (List.mem_cons_of_mem _ hw)]
  split
  ·have : x ≠ n := by rintro rfl; exact h v List.mem_cons_self
   simp [this]
  ·rfl
theorem bindC_out {kindOf : Str -> Option NameKind} {x : Str} : ∀ {binds : List (Str × Value)} {m : Str -> Option Value}, (∀ v, (x, v) ∉ binds) -> bindC kindOf binds m x = m x
 | [], _, _ => rfl
 | (n, v) :: r, m, h => by
  unfold bindC
  rw [bindC_out fun w hw => h w (List.mem_cons_of_mem _ hw)]
  split
  ·rfl
  ·have : x ≠ n := by rintro rfl; exact h v List.mem_cons_self
   simp [this]
theorem bindL_get {kindOf : Str -> Option NameKind} {x : Str} {v : Value} : ∀ {P : List Str} {vs : List Value} {i : Nat} {m : Str -> Option Value}, P.Nodup -> P[i]? = some x -> vs[i]? = some v -> kindOf x = some .local ->
  bindL kindOf (P.zip vs) m x = some v
 | [], _, _, _, _, h, _, _ => by simp at h
 | _ :: _, [], _, _, _, _, h, _ => by simp at h
 | p :: P, w :: vs, 0, m, nd, h1, h2, hk => by
  simp at h1 h2; subst h1; subst h2
  show bindL kindOf ((p, w) :: P.zip vs) m p = _
  unfold bindL
  rw [bindL_out fun v hv => (List.nodup_cons.mp nd).1 (List.of_mem_zip hv).1, if_pos hk]
  simp
 | p :: P, w :: vs, i + 1, m, nd, h1, h2, hk => by
  show bindL kindOf ((p, w) :: P.zip vs) m x = _
  unfold bindL
  exact bindL_get (i := i) (List.nodup_cons.mp nd).2 (by simpa using h1) (by simpa using h2) hk
theorem bindC_get {kindOf : Str -> Option NameKind} {x : Str} {v : Value} : ∀ {P : List Str} {vs : List Value} {i : Nat} {m : Str -> Option Value}, P.Nodup -> P[i]? = some x -> vs[i]? = some v -> kindOf x ≠ some .local ->
  bindC kindOf (P.zip vs) m x = some v
 | [], _, _, _, _, h, _, _ => by simp at h
 | _ :: _, [], _, _, _, _, h, _ => by simp at h
 | p :: P, w :: vs, 0, m, nd, h1, h2, hk => by
  simp at h1 h2; subst h1; subst h2
  show bindC kindOf ((p, w) :: P.zip vs) m p = _
  unfold bindC
  rw [bindC_out fun v hv => (List.nodup_cons.mp nd).1 (List.of_mem_zip hv).1, if_neg hk]
  simp
 | p :: P, w :: vs, i + 1, m, nd, h1, h2, hk => by
  show bindC kindOf ((p, w) :: P.zip vs) m x = _
  unfold bindC
  exact bindC_get (i := i) (List.nodup_cons.mp nd).2 (by simpa using h1) (by simpa using h2) hk
noncomputable def start (N : List Str) (vs : List V) : St := vs.map some ++ List.replicate (N.length - vs.length) none
noncomputable def cxOf (CX : CXT) (P : Program) (w : World) (K : PySem.W.Frag) (mg : Str -> Option Value) (base : Heap) (N : List Str) (qual : Str) (scope : Scope) (f : Addr) (cd : Value) (A : Around) (outer : List Env) (s : Shared) (H : Hp) (E : XK) : Cx where
 prog := P
 w := w
 K := K
 mg := mg
 base := base
 A := A.deeper (envOfC qual scope s.heap.objs.size f cd)
 N := N
 s₀ := s
 H₀ := H
 env := envOfC qual scope s.heap.objs.size f cd
 outer := outer
 stack := envOfC qual scope s.heap.objs.size f cd :: outer
 ex := []
 calm := true
 fn := fun _ => true
 pn := []
 xe := fun e s' => wpAny (model P w) (A.deeper (envOfC qual scope s.heap.objs.size f cd)) (leaving (envOfC qual scope s.heap.objs.size f cd) e) (fun _ s'' => CX outer H s E e s'') (fun e' s'' => CX outer H s E e' s'') s'
theorem cell_has {sc : Scope} {n : Nat} {x : Str} (h : sc.names.lookup x = some .cell) : ∃ c, (cellsFrom n sc.names []).lookup x = some c := by
 have q := PySem.W.cellsFrom_some sc.names n [] (.inl h)
 exact Option.isSome_iff_exists.mp q
theorem inv_start {CX : CXT} {P : Program} {w : World} {K : PySem.W.Frag} {mg : Str -> Option Value} {base : Heap} {N ps : List Str} {qual : Str} {scope : Scope} {f : Addr} {cd : Value} {A : Around} {outer : List Env} {s s1 : Shared} {H : Hp} {E : XK} {us : List Value} {vs : List V}
  (S : FnScope N ps scope) (hd : A.handled = none) (e0 : Env0 P w K mg base A outer s H) (hl : vs.length = ps.length) (r : Vals vs us)
  (x : InCallC s s.heap.objs.size (bindL (envOfC qual scope s.heap.objs.size f cd).kindOf (ps.zip us) fun _ => none) (cellsFrom (s.heap.objs.size + 1) scope.names []) (bindC (envOfC qual scope s.heap.objs.size f cd).kindOf (ps.zip us) fun _ => none) s1) :
  Inv (cxOf CX P w K mg base N qual scope f cd A outer s H E) [] (start N vs) H s1 := by
 have hpl : ps.length <= N.length := by have := congrArg List.length S.pre; rw [List.length_take] at this; omega
 obtain ⟨h1, tk, rfl, hk⟩ := x.done
 have noA : ∀ b : Addr, b ∉ (cxOf CX P w K mg base N qual scope f cd A outer s H E).ex := fun b z => absurd (show b ∈ ([] : List Addr) from z) (by simp)
 refine ⟨⟨e0.mod, S.kind, rfl, rfl, Nat.le_refl _, fun y z c h1 h2 => ?_, fun y hy => ?_, fun y c _ h => ?_, fun _ => hd, Around.frames_deeper e0.frames, .inr ⟨rfl, rfl⟩, fun b z => absurd z (noA b), e0.bs, e0.bsz, fun b _ _ => noA b, fun b z => absurd z (noA b), e0.funs, e0.frf⟩,
  rfl, e0.bare, Un.kept hk, ⟨_, x.toInCall.ns, fun i y v h1 h2 h3 => ?_⟩, fun y c h => ⟨_, x.cell y c h⟩, e0.hok.fresh (Nat.le_refl _), fun y c h => ?_, fun p hp => absurd (show p ∈ ([] : List (Addr × Obj)) from hp) (by simp), e0.hok.kept hk, ?_⟩
 ·exact name_of_addr x.apart (PySem.mem_of_lookup h1) (PySem.mem_of_lookup h2)
 ·have hy : scope.names.lookup y = some .cell \/ scope.names.lookup y = some .free := hy
  rcases hy with hy | hy
  ·exact cell_has hy
  ·exact absurd rfl (S.nofree _ (PySem.mem_of_lookup hy))
 ·exact Nat.le_of_lt (x.above y c (PySem.mem_of_lookup h))
 ·have hi : i < vs.length := by
   unfold start at h2
   by_cases hi : i < vs.length
   ·exact hi
   ·rw [List.getElem?_append_right (by simpa using hi)] at h2
    rw [List.getElem?_replicate] at h2
    split at h2 <;> cases h2
  have ha : vs[i]? = some v := by
   unfold start at h2
   rw [List.getElem?_append_left (by simpa using hi), List.getElem?_map] at h2
   cases e : vs[i]? with
   | none => rw [e] at h2; cases h2
   | some a => rw [e] at h2; cases h2; rfl
  obtain ⟨u, hu, rv⟩ := r.get ha
  have hp : ps[i]? = some y := by
   rw [<- S.pre, List.getElem?_take_of_lt (by omega)]; exact h1
  have ndP : ps.Nodup := by rw [<- S.pre]; exact S.nd.sublist (List.take_sublist _ _)
  refine ⟨u, rv, ?_⟩
  rcases S.par y (List.mem_of_getElem? hp) with k | k
  ·exact .inl ⟨k, bindL_get ndP hp hu k⟩
  ·obtain ⟨c, e⟩ := cell_has (n := s.heap.objs.size + 1) k
   refine .inr ⟨.inl k, c, e, ?_⟩
   have q := x.cell y c e
   rw [bindC_get ndP hp hu (by show scope.names.lookup y ≠ _; rw [k]; decide)] at q
   exact q
 ·exact e0.hok.fresh (Nat.le_of_lt (x.above y c (PySem.mem_of_lookup h)))
 ·unfold start
  show _ = N.length
  rw [List.length_append, List.length_map, List.length_replicate]
  omega
theorem fn_of {CX : CXT} {P : Program} {w : World} {K : PySem.W.Frag} {mg : Str -> Option Value} {base : Heap} {k : Nat} {f : Addr} {name qual : Str} {params : Arguments} {body : List Stmt} {scope : Scope} {dV kV doc pm cdv ct oc : Value} {an od : Option Addr}
  {osl : Array (Option Value)} {N ps : List Str} {sp : Sp} (lk : K.lookup f = some ⟨oc, od, .func (PySem.W.fnOf name qual params body scope dV kV doc pm an cdv ct), osl⟩) (hcd : PySem.W.codeIn K cdv qual = true) (S : FnScope N ps scope)
  (len : ∀ vs H Q E, sp vs H Q E -> vs.length = ps.length)
  (hbody : ∀ (A : Around) (outer : List Env) (s : Shared) (H : Hp) (vs : List V) (Q : VK) (E : XK), Room k (A.deeper (envOfC qual scope s.heap.objs.size f cdv)) -> sp vs H Q E ->
   ∃ t, PSs (cxOf CX P w K mg base N qual scope f cdv A outer s H E) body t /\ t { nx := fun _ H' => Q .non H', rt := Q } (start N vs) H) :
  FnOk P w K mg base CX (k + 1) f (PySem.W.fnOf name qual params body scope dV kV doc pm an cdv ct) ps sp := by
 refine ⟨len, fun A outer s H args us vs Q E hr e0 hb r hsp => ?_⟩
 have hl := len _ _ _ _ hsp
 have KX : K.In s.heap := e0.mod.kin.keeps fun b o e => (e0.bs b o e).1
 have lim : s.heap.NoLimit := e0.mod.nolimit.keeps fun b o e => (e0.bs b o e).1
 have hkind : ∀ y ∈ ps.zip us, scope.names.lookup y.1 = some .local \/ (scope.names.lookup y.1 = some .cell /\ ((cellsFrom (s.heap.objs.size + 1) scope.names []).lookup y.1).isSome = true) := fun ⟨n, v⟩ hy => by
  rcases S.par n (List.of_mem_zip hy).1 with q | q
  ·exact .inl q
  ·exact .inr ⟨q, PySem.W.cellsFrom_some _ _ _ (.inl q)⟩
 refine codeAny_call_function hr.depth (KX _ _ lk) rfl S.co S.gen rfl (PySem.W.codeRec_of KX hcd) (hb _ _ _ _ ?_)
 refine wpAny_newFunctionEnv_cells S.kind hkind fun env he s1 x => ?_
 subst he
 refine ⟨lim.keeps x.toInCall.keep, codeAny_func ?_⟩
 obtain ⟨t, ht, hq⟩ := hbody A outer s H vs Q E (hr.deeper _) hsp
 have I : Inv (cxOf CX P w K mg base N qual scope f cdv A outer s H E) [] (start N vs) H s1 := inv_start S hr.hd e0 hl r x
 refine wpAny_mono (ht [] s1 (start N vs) H _ I hq) (fun fl s' hs => ?_) fun e s' hs => hs
 have fin : ∀ {σ' : St} {H' : Hp} {v : V} {u : Value}, Inv (cxOf CX P w K mg base N qual scope f cdv A outer s H E) [] σ' H' s' -> RelV v u -> Q v H' -> CE outer P w H s Q u s' :=
  fun {σ' H' v u} J rv q => ⟨v, H', J.os, J.bare, J.base, J.hok, rv, q⟩
 cases fl with
 | ret u =>
  obtain ⟨v, σ', H', J, rv, q⟩ := hs
  exact fin J rv q
 | next =>
  obtain ⟨σ', H', J, q⟩ := hs
  exact fin (v := V.non) (u := Value.none) J rfl q
 | brk =>
  obtain ⟨_, _, _, q⟩ := hs
  exact False.elim q
 | cont =>
  obtain ⟨_, _, _, q⟩ := hs
  exact False.elim q
end L2
namespace L2
open PySem PySem.Spec PyProof.Rows
section
variable {X : Cx} {x : Str} {p pos : Pos} {e : Expr} {es : List Expr} {t : TA} {id T : String} {r : List V -> Hp -> VK -> Prop}
noncomputable def tCB (r : List V -> Hp -> VK -> Prop) (t : TA) : TE := fun σ H Q => t σ H fun vs H1 => r vs H1 Q
theorem pe_callB (hc : CallR X (.builtin id) r) (hg : Gl X x) (hm : X.mg x = none) (hv : bootBuiltins x = some (.builtin id)) (ha : PA X (e :: es) t) (hn : x ≠ "__name__" := by decide) (hdb : (x == ("__debug__" : Str)) = false := by decide)
  (he : starEach (e :: es) X.env = (false, eval e X.env) :: starEach es X.env := by rfl) (hpl : (backTo pos (starEach es X.env)).any (·.1) = false := by rfl) : PE X (.Call (.Name x p) (e :: es) [] pos) (tCB r t) := by
 intro pins s σ H Q I h
 refine wpAny_Call_Name_kw (ld_blt I hg hm hv ?_ hn hdb)
 exact PyProof.Rows.callWith_builtin1 (thn (ha pos pins s σ H _ I h) fun us s1 ⟨vs, H1, I1, r1, q1⟩ => hc pins s1 σ H1 vs us Q I1 r1 q1) he hpl
theorem pe_callTy (hc : CallR X (.type T) r) (hg : Gl X x) (hm : X.mg x = none) (hv : bootBuiltins x = some (.type T)) (ha : PA X (e :: es) t) (hn : x ≠ "__name__" := by decide) (hdb : (x == ("__debug__" : Str)) = false := by decide)
  (he : starEach (e :: es) X.env = (false, eval e X.env) :: starEach es X.env := by rfl) (hpl : (backTo pos (starEach es X.env)).any (·.1) = false := by rfl) : PE X (.Call (.Name x p) (e :: es) [] pos) (tCB r t) := by
 intro pins s σ H Q I h
 refine wpAny_Call_Name_kw (ld_blt I hg hm hv ?_ hn hdb)
 exact PyProof.Rows.callWith_type1 (thn (ha pos pins s σ H _ I h) fun us s1 ⟨vs, H1, I1, r1, q1⟩ => hc pins s1 σ H1 vs us Q I1 r1 q1) he hpl
end
end L2
namespace HT
open PySem PyProof.Rows
section
open PySem.SeqAt
open PySem.AutoSeq1 (wpAny_loadPart')
open PySem.MeetsSeq PySem.MeetsSeq2 PySem.MeetsSeq3
end
section
variable {prog : Program} {w : World} {A : Around} {E : Value -> Shared -> Prop} {s : Shared}
theorem cat_tup {t b : Addr} {vs ws : List Value} {Q : Value -> Shared -> Prop} (ht : IsTup s.heap t vs.toArray) (hb : IsTup s.heap b ws.toArray) (hv : vs ≠ [])
  (h1 : ws = [] -> Q (.ref t) s) (h2 : ws ≠ [] -> Q (.ref s.heap.objs.size) { s with heap := s.heap.push { cls := .type "tuple", data := .seq (vs ++ ws).toArray } })
  (hsz : vs.length + ws.length <= sizeLine) : wpAny (model prog w) A (binaryOp .Add (.ref t) (.ref b)) Q E s := by
 obtain ⟨⟨cls, dd, data, sl⟩, ho, hc, n, hd⟩ := id ht
 obtain ⟨⟨cls2, dd2, data2, sl2⟩, ho2, hc2, n2, hd2⟩ := id hb
 simp only at hc hd hc2 hd2
 subst hc hd hc2 hd2
 have e : vs.toArray ++ ws.toArray = (vs ++ ws).toArray := by simp
 by_cases hw : ws = []
 ·exact concat_meets ⟨_, ho, rfl⟩ ⟨_, ho2, rfl⟩ noFill_tuple_add seq_tuple_add PySem.F.slot_tuple_add PySem.F.entry_tuple_add (PySem.F.args_tuple_add_2 _ _)
   (tuple_addW1 t b vs.toArray ws.toArray n n2 dd dd2 sl sl2 (by simpa using hv) (by simp [hw])) ⟨ho, ho2, h1 hw⟩
 ·refine concat_meets ⟨_, ho, rfl⟩ ⟨_, ho2, rfl⟩ noFill_tuple_add seq_tuple_add PySem.F.slot_tuple_add PySem.F.entry_tuple_add (PySem.F.args_tuple_add_2 _ _)
   (tuple_addW2 t b vs.toArray ws.toArray n n2 dd dd2 sl sl2 (by simpa using hv) (by simpa using hw) (by rw [List.size_toArray, List.size_toArray]; exact hsz)) ⟨ho, ho2, ?_⟩
  rw [e]
  exact h2 hw
noncomputable def sIx (n d : Nat) : Option Int -> Nat
 | none => d
 | some v => if v < 0 then (v + (n : Int)).toNat else min v.toNat n
theorem sIx_none (n d : Nat) : sIx n d none = d := rfl
theorem sIx_le (n d : Nat) (hd : d <= n) (o : Option Int) : sIx n d o <= n := by
 cases o with
 | none => exact hd
 | some v =>
  show (if v < 0 then (v + (n : Int)).toNat else min v.toNat n) <= n
  by_cases hv : v < 0
  ·rw [if_pos hv]; omega
  ·rw [if_neg hv]; exact Nat.min_le_right _ _
theorem clip_eq (v : Int) (n d : Nat) : (if v < 0 then max (v + (n : Int)) 0 else min v (n : Int)) = ((sIx n d (some v) : Nat) : Int) := by
 show (if v < 0 then max (v + (n : Int)) 0 else min v (n : Int)) = (((if v < 0 then (v + (n : Int)).toNat else min v.toNat n) : Nat) : Int)
 by_cases hv : v < 0
 ·simp only [if_pos hv]; omega
 ·simp only [if_neg hv]; omega
theorem adjust_gen (lo hi : Option Int) (n : Nat) : Builtin.Slice.sliceAdjust lo hi 1 (n : Int) = (((sIx n 0 lo : Nat) : Int), ((sIx n n hi : Nat) : Int)) := by
 have h1 : ¬ ((1 : Int) < 0) := by omega
 unfold Builtin.Slice.sliceAdjust
 simp only [h1, if_false]
 refine Prod.ext ?_ ?_
 ·cases lo with
  | none => rfl
  | some v => exact clip_eq v n 0
 ·cases hi with
  | none => rfl
  | some v => exact clip_eq v n n
theorem places_gen (i j : Nat) : Builtin.Slice.slicePlaces (i : Int) (j : Int) 1 = j - i := by
 unfold Builtin.Slice.slicePlaces
 have h1 : (1 : Int) > 0 := by omega
 simp only [h1, if_true, Int.ediv_one]
 split <;> omega
theorem slicePart_ {v : Value} {o : Option Int} {Q : Option Int -> Shared -> Prop} (p : IsPart v o) (h : Q o s) : wpAny (model prog w) A (Builtin.Slice.slicePartIndex v) Q E s := by
 cases p with
 | none => exact slicePart_none h
 | int i t => exact slicePart_int h
theorem sliceApplied_gen {sl : Addr} {vl vu : Value} {lo hi : Option Int} {n : Nat} {Q : Int × Int × Nat -> Shared -> Prop} (hs : s.heap.IsSliceOf sl vl vu .none) (pl : IsPart vl lo) (pu : IsPart vu hi)
  (h : Q (((sIx n 0 lo : Nat) : Int), 1, sIx n n hi - sIx n 0 lo) s) : wpAny (model prog w) A (Builtin.Slice.sliceApplied (.ref sl) (pure (n : Int))) Q E s := by
 obtain ⟨os, hos, hcs, hds⟩ := id hs
 unfold Builtin.Slice.sliceApplied Builtin.Slice.sliceFields
 refine wpAny_bind (wpAny_bind (wpAny_field hos hds (x := vl) rfl (wpAny_bind (wpAny_field hos hds (x := vu) rfl (wpAny_bind (wpAny_field hos hds (x := .none) rfl (wpAny_pure ?_)))))))
 refine wpAny_bind (slicePart_none ?_)
 show wpAny _ _ (if ((1 : Int) == 0) = true then _ else _) _ _ s
 rw [if_neg (by decide)]
 refine wpAny_bind (slicePart_ pl (wpAny_bind (slicePart_ pu (wpAny_bind (wpAny_pure ?_)))))
 show wpAny _ _ (match Builtin.Slice.sliceAdjust lo hi 1 (n : Int) with | (lo, hi) => pure (lo, (1 : Int), Builtin.Slice.slicePlaces lo hi 1)) _ _ s
 rw [adjust_gen lo hi n]
 show wpAny _ _ (pure (((sIx n 0 lo : Nat) : Int), (1 : Int), Builtin.Slice.slicePlaces ((sIx n 0 lo : Nat) : Int) ((sIx n n hi : Nat) : Int) 1)) _ _ s
 rw [places_gen]
 exact wpAny_pure h
theorem pick_gen (xs : Array Value) (i k : Nat) : ((List.range k).filterMap fun (m : Nat) => xs[((i : Int) + (m : Int) * 1).toNat]?).toArray = ((xs.toList.drop i).take k).toArray := by
 have e : (fun (m : Nat) => xs[((i : Int) + (m : Int) * 1).toNat]?) = fun m => xs[i + m]? := by
  funext m
  have : ((i : Int) + (m : Int) * 1).toNat = i + m := by omega
  rw [this]
 rw [e]
 have := pick_run xs i k
 rw [List.filterMap_map] at this
 have e2 : ((fun x => xs[x]?) ∘ fun x => i + x) = fun m => xs[i + m]? := rfl
 rw [e2] at this
 rw [this]
theorem getItem_tuple_cut {t sl : Addr} {items : Array Value} {vl vu : Value} {lo hi : Option Int} {Q : Value -> Shared -> Prop} (ht : IsTup s.heap t items) (hs : s.heap.IsSliceOf sl vl vu .none) (pl : IsPart vl lo) (pu : IsPart vu hi)
  (hw : ¬ (sIx items.size 0 lo = 0 /\ sIx items.size items.size hi = items.size))
  (h : Q (.ref s.heap.objs.size) { s with heap := s.heap.push { cls := .type "tuple", data := .seq ((items.toList.drop (sIx items.size 0 lo)).take (sIx items.size items.size hi - sIx items.size 0 lo)).toArray } })
  (hsz : items.size <= sizeLine) : wpAny (model prog w) A (getItem (.ref t) (.ref sl)) Q E s := by
 have htake : sizeOk (.seq ((items.toList.drop (sIx items.size 0 lo)).take (sIx items.size items.size hi - sIx items.size 0 lo)).toArray) := by
  show ((items.toList.drop (sIx items.size 0 lo)).take (sIx items.size items.size hi - sIx items.size 0 lo)).toArray.size <= sizeLine
  rw [List.size_toArray, List.length_take, List.length_drop, Array.length_toList]
  omega
 have hj : sIx items.size items.size hi <= items.size := sIx_le _ _ (Nat.le_refl _) hi
 obtain ⟨os, hos, hcs, hds⟩ := id hs
 have hTs : s.TypeIs (.ref sl) "slice" := ⟨os, hos, hcs⟩
 unfold getItem
 try with_reducible refine wpAny_holding ?_
 first | refine wpAny_bind (wpAny_pure ?_) | skip
 refine wpAny_bind (wpAny_sequenceKey ht.typeIs (by decide) ?_)
 refine wpAny_bind (wpAny_callSpecial?_slot (name := Str.ofString "__getitem__") ht.typeIs PyProof.Rows.slot_tuple_getitem
  (wpAny_call_entry PyProof.Rows.slot_tuple_getitem ht.typeIs entry_tuple_getitem ?_ (args_tuple_getitem _ _)))
 show wpAny _ _ (Builtin.Tuple.tupleItemsOf (.ref t) >>= _) _ _ s
 refine wpAny_bind (tupleItemsOf_ ht ?_)
 refine wpAny_bind (wpAny_typeOf hTs ?_)
 rw [if_pos (by decide)]
 refine wpAny_bind (sliceApplied_gen hs pl pu ?_)
 have hno : ¬ ((((sIx items.size 0 lo : Nat) : Int) == 0 && (1 : Int) == 1 && (sIx items.size items.size hi - sIx items.size 0 lo) == items.size) = true) := by
  intro q
  rw [Bool.and_eq_true, Bool.and_eq_true] at q
  have q1 : ((sIx items.size 0 lo : Nat) : Int) = 0 := eq_of_beq q.1.1
  have q2 : sIx items.size items.size hi - sIx items.size 0 lo = items.size := eq_of_beq q.2
  exact hw ⟨by omega, by omega⟩
 show wpAny _ _ (if (((sIx items.size 0 lo : Nat) : Int) == 0 && (1 : Int) == 1 && (sIx items.size items.size hi - sIx items.size 0 lo) == items.size) = true then _ else _) _ _ s
 rw [if_neg hno, pick_gen]
 first
  | exact wpAny_bind (m := Builtin.Tuple.tupleExact _) (wpAny_newObj_type (wpAny_pure ⟨_, rfl, wpAny_pure h⟩) htake)
  | exact wpAny_bind (m := Builtin.Tuple.tupleExact _) (wpAny_newObj_type (wpAny_bind (wpAny_pure (wpAny_pure ⟨_, rfl, wpAny_pure h⟩))) htake)
  | exact wpAny_bind (wpAny_bind (m := Builtin.Tuple.tupleExact _) (wpAny_newObj_type (wpAny_pure (wpAny_pure ⟨_, rfl, wpAny_pure h⟩)) htake))
  | exact wpAny_bind (wpAny_bind (m := Builtin.Tuple.tupleExact _) (wpAny_newObj_type (wpAny_pure ⟨_, rfl, wpAny_pure h⟩) htake))
end
end HT
namespace L2
open PySem PySem.Spec PyProof.Rows
noncomputable abbrev TO := St -> Hp -> (Option Int -> Hp -> Prop) -> Prop
noncomputable def PO (X : Cx) (e : Option Expr) (t : TO) : Prop :=
 ∀ (pins : List (Addr × Obj)) (s : Shared) (σ : St) (H : Hp) (Q : Option Int -> Hp -> Prop), Inv X pins σ H s -> t σ H Q ->
  wpAny (model X.prog X.w) X.A (evalPart e X.env) (fun u s' => ∃ o H', Inv X pins σ H' s' /\ IsPart u o /\ Q o H') X.xe s
noncomputable def tNoPart : TO := fun _ H Q => Q none H
noncomputable def tPart (t : TE) : TO := fun σ H Q => t σ H fun x H1 => ∃ i, x = .int i /\ Q (some i) H1
section
variable {X : Cx} {e : Expr} {te : TE} {lo hi : Option Expr} {tl th : TO} {pos p2 : Pos}
theorem po_none : PO X none tNoPart := by
 intro pins s σ H Q I h
 rw [evalPart_none]
 exact wpAny_pure ⟨none, H, I, .none, h⟩
theorem po_some (h : PE X e te) : PO X (some e) (tPart te) := by
 intro pins s σ H Q I hw
 rw [evalPart_some]
 refine thn (h pins s σ H _ I hw) fun u s1 ⟨x, H1, I1, r1, q1⟩ => ?_
 obtain ⟨i, rfl, q⟩ := q1
 obtain ⟨t, rfl⟩ := r1
 exact ⟨some i, H1, I1, .int i t, q⟩
noncomputable def SlR (X : Cx) (r : V -> Option Int -> Option Int -> Hp -> VK -> Prop) : Prop :=
 ∀ (pins : List (Addr × Obj)) (s : Shared) (σ : St) (H : Hp) (x : V) (v vl vu : Value) (lo hi : Option Int) (sl : Addr) (Q : VK), Inv X pins σ H s -> RelV x v -> s.heap.IsSliceOf sl vl vu .none -> IsPart vl lo -> IsPart vu hi -> r x lo hi H Q ->
  ∃ T id, typeLookup (.type T) "__getitem__" = pure (some (.builtin id)) /\ s.TypeIs v T /\ wpAny (model X.prog X.w) X.A (getItem v (.ref sl)) (EP X pins σ Q) X.xe s
theorem SlR.or {r r' : V -> Option Int -> Option Int -> Hp -> VK -> Prop} (h : SlR X r) (h' : SlR X r') : SlR X (fun x lo hi H Q => r x lo hi H Q \/ r' x lo hi H Q) := by
 intro pins s σ H x v vl vu lo hi sl Q I rx hs pl pu q
 rcases q with q | q
 ·exact h pins s σ H x v vl vu lo hi sl Q I rx hs pl pu q
 ·exact h' pins s σ H x v vl vu lo hi sl Q I rx hs pl pu q
noncomputable def tSl (r : V -> Option Int -> Option Int -> Hp -> VK -> Prop) (te : TE) (tl th : TO) : TE := fun σ H Q => te σ H fun x H1 => tl σ H1 fun l H2 => th σ H2 fun u H3 => r x l u H3 Q
theorem pe_slice {r : V -> Option Int -> Option Int -> Hp -> VK -> Prop} (hr : SlR X r) (he : PE X e te) (hl : PO X lo tl) (hu : PO X hi th) : PE X (.Subscript e (.Slice lo hi none p2) pos) (tSl r te tl th) := by
 intro pins s σ H Q I h
 refine Subscript_ (thn (he pins s σ H _ I h) fun v s1 ⟨x, H1, I1, r1, q1⟩ => ?_)
 refine wpAny_Slice (thn (hl pins s1 σ H1 _ I1 q1) fun vl s2 ⟨l, H2, I2, pl, q2⟩ => thn (hu pins s2 σ H2 _ I2 q2) fun vu s3 ⟨u, H3, I3, pu, q3⟩ => ?_)
 rw [evalPart_none]
 refine wpAny_pure ?_
 have I4 : Inv X pins σ H3 { s3 with heap := s3.heap.push { cls := .type "slice", data := .fields #[vl, vu, .none] } } := I3.kept (t' := s3.toks) fun b ob q => Heap.get?_push_of_some _ q
 obtain ⟨T, id, hT, ht, hg⟩ := hr pins { s3 with heap := s3.heap.push { cls := .type "slice", data := .fields #[vl, vu, .none] } } σ H3 x v vl vu l u s3.heap.objs.size Q I4 r1 (Heap.IsSliceOf.new ..) pl pu q3
 show wpAny (model X.prog X.w) X.A (subscriptTail e (.Slice lo hi none p2) v (.ref s3.heap.objs.size)) (EP X pins σ Q) X.xe { s3 with heap := s3.heap.push { cls := .type "slice", data := .fields #[vl, vu, .none] } }
 exact tail_any (ops := [.ref s3.heap.objs.size, v]) ht hT hg (by with_unfolding_all rfl)
noncomputable def cutV (xs : List V) (lo hi : Option Int) : List V := (xs.drop (HT.sIx xs.length 0 lo)).take (HT.sIx xs.length xs.length hi - HT.sIx xs.length 0 lo)
theorem cutV_length (xs : List V) (lo hi : Option Int) : (cutV xs lo hi).length <= xs.length := by
 unfold cutV
 rw [List.length_take, List.length_drop]
 omega
noncomputable def rSlT (K : PySem.W.Frag) : V -> Option Int -> Option Int -> Hp -> VK -> Prop := fun x lo hi H Q => ∃ a xs, x = .ref a /\ SqT K H a xs /\
 ¬ (HT.sIx xs.length 0 lo = 0 /\ HT.sIx xs.length xs.length hi = xs.length) /\ ∀ p, H p = none -> Q (.ref p) (upd H p (.tup (cutV xs lo hi)))
theorem sl_tup : SlR X (rSlT X.K) := by
 intro pins s σ H x v vl vu lo hi sl Q I rx hs pl pu h
 obtain ⟨a, xs, rfl, hx, hw, q⟩ := h
 cases rx
 obtain ⟨its, r, ht, hz⟩ := I.tuple hx
 have hlen : its.toArray.size = xs.length := by rw [List.size_toArray]; exact r.length.symm
 refine ⟨"tuple", _, PyProof.Rows.slot_tuple_getitem.lookup, ht.typeIs, ?_⟩
 refine HT.getItem_tuple_cut ht hs pl pu (by rw [hlen]; exact hw) ?_ (by rw [hlen]; exact hz)
 rw [hlen]
 refine ⟨.ref s.heap.objs.size, _, I.laid (t' := s.toks) (o := .tup (cutV xs lo hi)) (fun b ob q => Heap.get?_push_of_some _ q) (Nat.le_refl _) ?_, rfl, q _ (I.hok.fresh (Nat.le_refl _))⟩
 exact ⟨Nat.le_trans (cutV_length xs lo hi) hz, _, (r.drop (HT.sIx xs.length 0 lo)).take (HT.sIx xs.length xs.length hi - HT.sIx xs.length 0 lo), IsTup.new _ _⟩
noncomputable def rCatT (K : PySem.W.Frag) : R2 := fun x y H Q => ∃ a b xs ys, x = .ref a /\ y = .ref b /\ SqT K H a xs /\ SqT K H b ys /\ xs ≠ [] /\ xs.length + ys.length <= sizeLine /\
 (ys = [] -> Q (.ref a) H) /\ (ys ≠ [] -> ∀ p, H p = none -> Q (.ref p) (upd H p (.tup (xs ++ ys))))
theorem Vals.nil_iff {xs : List V} {us : List Value} (r : Vals xs us) : us = [] ↔ xs = [] := by
 cases r with
 | nil => simp
 | cons _ _ => simp
theorem op_catT : OpR X (binaryOp .Add) (rCatT X.K) := by
 intro pins s σ H x y v u Q I rx ry h
 obtain ⟨a, b, xs, ys, rfl, rfl, ha, hb, hx, hz, q1, q2⟩ := h
 cases rx
 cases ry
 obtain ⟨its, r1, p1, _⟩ := I.tuple ha
 obtain ⟨its2, r2, p2, _⟩ := I.tuple hb
 refine HT.cat_tup p1 p2 (fun z => hx (r1.nil_iff.mp z)) (fun z => ⟨.ref a, H, I, rfl, q1 (r2.nil_iff.mp z)⟩) (fun z => ?_) (by rw [<- r1.length, <- r2.length]; exact hz)
 refine ⟨.ref s.heap.objs.size, _, I.laid (t' := s.toks) (o := .tup (xs ++ ys)) (fun b ob q => Heap.get?_push_of_some _ q) (Nat.le_refl _) ?_, rfl, q2 (fun w => z (r2.nil_iff.mpr w)) _ (I.hok.fresh (Nat.le_refl _))⟩
 exact ⟨by rw [List.length_append]; exact hz, _, r1.append r2, IsTup.new _ _⟩
end
end L2
namespace L2
open PySem PySem.Spec PyProof.Rows
noncomputable def ixN (n : Nat) (i : Int) : Option Nat := if 0 <= i then (if i < n then some i.toNat else none) else if -(n : Int) <= i then some (i + n).toNat else none
noncomputable def atI {α : Type} (xs : List α) (i : Int) : Option α := (ixN xs.length i).bind fun j => xs[j]?
theorem ixN_seq {n : Nat} {i : Int} {j : Nat} (h : ixN n i = some j) : seqIndex? i n = some j /\ j < n /\ -(n : Int) <= i /\ i < n := by
 unfold ixN at h
 by_cases h0 : 0 <= i
 ·rw [if_pos h0] at h
  by_cases h1 : i < n
  ·rw [if_pos h1] at h
   have e : i.toNat = j := Option.some.inj h
   exact ⟨by rw [seqIndex_of h0 h1, e], by omega, by omega, h1⟩
  ·rw [if_neg h1] at h; cases h
 ·rw [if_neg h0] at h
  by_cases h1 : -(n : Int) <= i
  ·rw [if_pos h1] at h
   have e : (i + n).toNat = j := Option.some.inj h
   exact ⟨by rw [seqIndex_neg (by omega) h1, e], by omega, h1, by omega⟩
  ·rw [if_neg h1] at h; cases h
theorem atI_get {α : Type} {xs : List α} {i : Int} {v : α} (h : atI xs i = some v) : ∃ j, seqIndex? i xs.length = some j /\ xs[j]? = some v /\ j < xs.length /\ -(xs.length : Int) <= i /\ i < xs.length := by
 unfold atI at h
 cases e : ixN xs.length i with
 | none => rw [e] at h; cases h
 | some j =>
  rw [e] at h
  obtain ⟨h1, h2, h3, h4⟩ := ixN_seq e
  exact ⟨j, h1, h, h2, h3, h4⟩
noncomputable def PlainIx (b : Expr) : Prop := ∀ o i, subscripted b false o i = operate [o, i] (getItem o i)
noncomputable def IxR (X : Cx) (r : R2) : Prop :=
 ∀ (value slice : Expr) (pins : List (Addr × Obj)) (s : Shared) (σ : St) (H : Hp) (x y : V) (v u : Value) (Q : VK), Inv X pins σ H s -> RelV x v -> RelV y u -> r x y H Q ->
  subscripted slice false v u = operate [v, u] (getItem v u) -> wpAny (model X.prog X.w) X.A (subscriptTail value slice v u) (EP X pins σ Q) X.xe s
noncomputable def MtR (X : Cx) (id : String) (r : V -> List V -> Hp -> VK -> Prop) : Prop :=
 ∀ (pins : List (Addr × Obj)) (s : Shared) (σ : St) (H : Hp) (x : V) (xs : List V) (v : Value) (us : List Value) (Q : VK), Inv X pins σ H s -> RelV x v -> Vals xs us -> r x xs H Q ->
  wpAny (model X.prog X.w) X.A (call (.builtin id) (v :: us)) (EP X pins σ Q) X.xe s
section
variable {X : Cx} {a b : Expr} {ta tb : TE} {pos : Pos}
theorem pe_ix {r : R2} (hr : IxR X r) (ha : PE X a ta) (hb : PE X b tb) (hs : PlainIx b) : PE X (.Subscript a b pos) (tOp r ta tb) := by
 intro pins s σ H Q I h
 exact Subscript_ (binT ha hb I h fun v u s2 x y H2 I2 rx ry q => hr a b pins s2 σ H2 x y v u Q I2 rx ry q (hs _ _))
noncomputable def rIxL (K : PySem.W.Frag) : R2 := fun x y H Q => ∃ p xs i v, x = .ref p /\ y = .int i /\ SqL K H p xs /\ atI xs i = some v /\ Q v H
noncomputable def rIxT (K : PySem.W.Frag) : R2 := fun x y H Q => ∃ p xs i v, x = .ref p /\ y = .int i /\ SqT K H p xs /\ atI xs i = some v /\ Q v H
noncomputable def rIxS : R2 := fun x y H Q => ∃ z i c, x = .str z /\ y = .int i /\ z.length <= sizeLine /\ atI z.cps.toList i = some c /\ Q (.str ⟨#[c]⟩) H
theorem ix_list : IxR X (rIxL X.K) := by
 intro value slice pins s σ H x y v u Q I rx ry h hs
 obtain ⟨p, xs, i, z, rfl, rfl, hq, he, q⟩ := h
 cases rx
 obtain ⟨t, rfl⟩ := ry
 obtain ⟨its, r, pl, hz⟩ := I.list hq
 obtain ⟨j, h1, h2, h3, h4, h5⟩ := atI_get he
 obtain ⟨w, ew, rw'⟩ := r.get h2
 have hl := r.length
 have hn := line63
 have fin : EP X pins σ Q w s := ⟨z, H, I, rw', q⟩
 by_cases h0 : 0 <= i
 ·have hj : i.toNat = j := by
   rw [seqIndex_of h0 h5] at h1
   exact Option.some.inj h1
  exact item_listR pl.isList h0 (by omega) (by rw [hj]; simpa using ew) fin hs
 ·have hj : (i + (its.toArray.size : Int)).toNat = j := by
   rw [seqIndex_neg (by omega) h4] at h1
   rw [List.size_toArray, <- hl]
   exact Option.some.inj h1
  exact subscriptTail_builtinR (x := w) pl.isList.typeIs slot_list_getitem.lookup
   (wpAny_getItem_list_neg (Q := fun r s' => r = w /\ EP X pins σ Q r s') pl.isList (by omega) (by rw [List.size_toArray] <;> omega) (by omega) (by rw [hj]; simpa using ew) ⟨rfl, fin⟩) hs
theorem ix_tup : IxR X (rIxT X.K) := by
 intro value slice pins s σ H x y v u Q I rx ry h hs
 obtain ⟨p, xs, i, z, rfl, rfl, hq, he, q⟩ := h
 cases rx
 obtain ⟨t, rfl⟩ := ry
 obtain ⟨its, r, pl, hz⟩ := I.tuple hq
 obtain ⟨j, h1, h2, h3, h4, h5⟩ := atI_get he
 obtain ⟨w, ew, rw'⟩ := r.get h2
 have hl := r.length
 have hn := line63
 have fin : EP X pins σ Q w s := ⟨z, H, I, rw', q⟩
 exact subscriptTail_builtinR (x := w) pl.typeIs slot_tuple_getitem.lookup
  (getItem_tuple (j := j) (Q := fun r s' => r = w /\ EP X pins σ Q r s') pl (by omega) (by omega) (by rw [List.size_toArray, <- hl]; exact h1) (by simpa using ew) ⟨rfl, fin⟩) hs
theorem ix_str : IxR X rIxS := by
 intro value slice pins s σ H x y v u Q I rx ry h hs
 obtain ⟨z, i, c, rfl, rfl, hz, he, q⟩ := h
 obtain ⟨t, rfl⟩ := rx
 obtain ⟨t', rfl⟩ := ry
 obtain ⟨j, h1, h2, h3, h4, h5⟩ := atI_get he
 have hl : z.cps.toList.length = z.length := by simp [Str.length]
 rw [hl] at h1 h4 h5
 have hn := line63
 exact tail_any (typeIs_str s z t) slot_str_getitem.lookup (getItem_str (c := c) (by
  have e1 : decide (i < -(2 ^ 63 : Int)) = false := decide_eq_false (by omega)
  have e2 : decide (i >= 2 ^ 63) = false := decide_eq_false (by omega)
  rw [e1, e2, Bool.or_false]) (by rw [h1]; simpa using h2) ⟨.str ⟨#[c]⟩, H, I.tok _, ⟨_, rfl⟩, q⟩) hs
theorem mapSeq_set (its : List Value) (n j : Nat) (u : Value) : Obj.mapSeq (·.setIfInBounds j u) { cls := .type "list", data := .seq its.toArray n } = { cls := .type "list", data := .seq (its.set j u).toArray n } := by
 simp [Obj.mapSeq]
theorem Inv.lst {pins : List (Addr × Obj)} {σ : St} {H : Hp} {s : Shared} {p : Addr} {xs : List V} (I : Inv X pins σ H s) (h : H p = some (.lst xs)) :
  ∃ (its : List Value) (n : Nat), Vals xs its /\ s.heap.get? p = some { cls := .type "list", data := .seq its.toArray n } /\ xs.length <= sizeLine := by
 obtain ⟨z, its, n, r, e⟩ := I.hok p _ h
 exact ⟨its, n, r, e, z⟩
theorem Inv.lstUpd {pins : List (Addr × Obj)} {σ : St} {H : Hp} {s : Shared} {p : Addr} {xs ys : List V} {its its' : List Value} {n n' : Nat} {f : Obj -> Obj} (I : Inv X pins σ H s) (h : H p = some (.lst xs))
  (ho : s.heap.get? p = some { cls := .type "list", data := .seq its.toArray n }) (hf : f { cls := .type "list", data := .seq its.toArray n } = { cls := .type "list", data := .seq its'.toArray n' }) (r : Vals ys its') (hz : ys.length <= sizeLine) (t : Nat) :
  Inv X pins σ (upd H p (.lst ys)) { s with heap := s.heap.update p f, toks := t } := by
 have e : (s.heap.update p f).get? p = some { cls := .type "list", data := .seq its'.toArray n' } := by
  rw [Heap.get?_update_self f ho (by rw [hf] <;> rfl), hf]
 refine I.write (x := p) (e := p) (by rw [h]; trivial) (.inl rfl) (fun b u hb q => (Heap.get?_update_other _ _ (Ne.symm hb)).trans q) ⟨_, e⟩ ?_
 exact ⟨hz, its', n', r, e⟩
noncomputable def rSetL : V -> V -> V -> Hp -> (Hp -> Prop) -> Prop := fun o i v H Q => ∃ p xs k j, o = .ref p /\ i = .int k /\ H p = some (.lst xs) /\ ixN xs.length k = some j /\ Q (upd H p (.lst (xs.set j v)))
theorem set_list : PSet X rSetL := by
 intro pins s σ H o i v ov iv u Q I ro ri rv h
 obtain ⟨p, xs, k, j, rfl, rfl, hp, hj, q⟩ := h
 cases ro
 obtain ⟨t, rfl⟩ := ri
 obtain ⟨its, n, r, ho, hz⟩ := I.lst hp
 obtain ⟨h1, h2, h3, h4⟩ := ixN_seq hj
 have hl := r.length
 have hn := line63
 have I' : Inv X pins σ (upd H p (.lst (xs.set j v))) { s with heap := s.heap.update p (Obj.mapSeq (·.setIfInBounds j u)) } :=
  I.lstUpd hp ho (mapSeq_set its n j u) (r.set rv j) (by rw [List.length_set]; exact hz) s.toks
 by_cases h0 : 0 <= k
 ·have hk : k.toNat = j := by
   rw [seqIndex_of h0 h4] at h1
   exact Option.some.inj h1
  exact PySem.W.ki_setAt ho h0 (by omega) (by rw [List.size_toArray, <- hl]; exact h4) (by rw [hk]; exact ⟨_, I', q⟩)
 ·have hk : (k + (its.toArray.size : Int)).toNat = j := by
   rw [seqIndex_neg (by omega) h3] at h1
   rw [List.size_toArray, <- hl]
   exact Option.some.inj h1
  exact PySem.W.ki_setBack ho (by omega) (by rw [List.size_toArray, <- hl]; exact h3) (by omega) (by rw [hk]; exact ⟨_, I', q⟩)
theorem slice_bounds (lo hi : Option Int) (n : Nat) : (sliceBounds lo hi none n).1 = ((HT.sIx n 0 lo : Nat) : Int) /\ (sliceBounds lo hi none n).2.1 = ((HT.sIx n n hi : Nat) : Int) /\ (sliceBounds lo hi none n).2.2 = 1 := by
 refine ⟨?_, ?_, rfl⟩
 ·cases lo with
  | none => simp [sliceBounds, HT.sIx]
  | some i =>
   simp only [sliceBounds, HT.sIx, Option.getD_none, show (1 : Int) > 0 by decide, if_true]
   by_cases h : i < 0
   ·simp only [h, if_true] <;> omega
   ·simp only [h, if_false] <;> omega
 ·cases hi with
  | none => simp [sliceBounds, HT.sIx]
  | some i =>
   simp only [sliceBounds, HT.sIx, Option.getD_none, show (1 : Int) > 0 by decide, if_true]
   by_cases h : i < 0
   ·simp only [h, if_true] <;> omega
   ·simp only [h, if_false] <;> omega
theorem slicePick_cut (its : List Value) (lo hi : Option Int) : slicePick its.toArray lo hi none = ((its.drop (HT.sIx its.length 0 lo)).take (HT.sIx its.length its.length hi - HT.sIx its.length 0 lo)).toArray := by
 obtain ⟨h1, h2, h3⟩ := slice_bounds lo hi its.toArray.size
 unfold slicePick
 rw [h1, h2, h3]
 simp only [sliceRange_one, pick_run, List.size_toArray] <;> rfl
noncomputable def rSlL (K : PySem.W.Frag) : V -> Option Int -> Option Int -> Hp -> VK -> Prop := fun x lo hi H Q => ∃ a xs, x = .ref a /\ SqL K H a xs /\ ∀ p, H p = none -> Q (.ref p) (upd H p (.lst (cutV xs lo hi)))
theorem sl_list : SlR X (rSlL X.K) := by
 intro pins s σ H x v vl vu lo hi sl Q I rx hs pl pu h
 obtain ⟨a, xs, rfl, hx, q⟩ := h
 cases rx
 obtain ⟨its, r, ht, hz⟩ := I.list hx
 have hlen := r.length
 refine ⟨"list", _, slot_list_getitem.lookup, ht.isList.typeIs, ?_⟩
 refine wpAny_getItem_list_slice ht.isList hs pl pu .none (by simp) ?_ (by rw [List.size_toArray] <;> omega)
 rw [slicePick_cut, <- hlen]
 refine ⟨.ref s.heap.objs.size, _, I.laid (t' := s.toks) (o := .lst (cutV xs lo hi)) (fun b ob q => Heap.get?_push_of_some _ q) (Nat.le_refl _) ?_, rfl, q _ (I.hok.fresh (Nat.le_refl _))⟩
 exact ⟨Nat.le_trans (cutV_length xs lo hi) hz, _, 0, (r.drop (HT.sIx xs.length 0 lo)).take (HT.sIx xs.length xs.length hi - HT.sIx xs.length 0 lo), Heap.get?_push_size _ rfl⟩
noncomputable def flatV : V -> Bool
 | .non => true
 | .bl _ => true
 | .int _ => true
 | .str _ => true
 | _ => false
noncomputable def eqV : V -> V -> Bool
 | .non, .non => true
 | .bl a, .bl b => a == b
 | .bl a, .int b => (if a then 1 else 0) == b
 | .int a, .bl b => a == (if b then 1 else 0)
 | .int a, .int b => a == b
 | .str a, .str b => a == b
 | _, _ => false
theorem eqAt_V {A : Around} {s : Shared} {y x : V} {u v : Value} (ry : RelV y u) (rx : RelV x v) (fy : flatV y = true) (fx : flatV x = true) : SeqAt.EqAt A s u v (eqV y x) := by
 cases y with
 | non =>
  cases ry
  cases x with
  | non => cases rx; exact SeqAt.EqAt.same _
  | bl b => cases rx; exact SeqAt.EqAt.none_bool b
  | int b => obtain ⟨t, rfl⟩ := rx; exact SeqAt.EqAt.none_int b t
  | str b => obtain ⟨t, rfl⟩ := rx; exact SeqAt.EqAt.none_str b t
  | _ => exact absurd (show false = true from fx) Bool.false_ne_true
 | bl a =>
  cases ry
  cases x with
  | non => cases rx; exact SeqAt.EqAt.bool_none a
  | bl b => cases rx; exact SeqAt.EqAt.bool_bool a b
  | int b => obtain ⟨t, rfl⟩ := rx; exact SeqAt.EqAt.bool_int a b t
  | str b => obtain ⟨t, rfl⟩ := rx; exact SeqAt.EqAt.bool_str a b t
  | _ => exact absurd (show false = true from fx) Bool.false_ne_true
 | int a =>
  obtain ⟨t', rfl⟩ := ry
  cases x with
  | non => cases rx; exact SeqAt.EqAt.int_none a t'
  | bl b => cases rx; exact SeqAt.EqAt.int_bool a t' b
  | int b => obtain ⟨t, rfl⟩ := rx; exact SeqAt.EqAt.int_int a t' b t
  | str b => obtain ⟨t, rfl⟩ := rx; exact SeqAt.EqAt.int_str a t' b t
  | _ => exact absurd (show false = true from fx) Bool.false_ne_true
 | str a =>
  obtain ⟨t', rfl⟩ := ry
  cases x with
  | non => cases rx; exact SeqAt.EqAt.str_none a t'
  | bl b => cases rx; exact SeqAt.EqAt.str_bool a t' b
  | int b => obtain ⟨t, rfl⟩ := rx; exact SeqAt.EqAt.str_int a t' b t
  | str b => obtain ⟨t, rfl⟩ := rx; exact SeqAt.EqAt.str_str a t' b t
  | _ => exact absurd (show false = true from fx) Bool.false_ne_true
 | _ => exact absurd (show false = true from fy) Bool.false_ne_true
noncomputable def eqU (x : V) (u : Value) : Bool := match u with
 | .none => eqV .non x
 | .bool b => eqV (.bl b) x
 | .int i _ => eqV (.int i) x
 | .str z _ => eqV (.str z) x
 | _ => false
theorem eqU_of {x y : V} {u : Value} (r : RelV y u) (f : flatV y = true) : eqU x u = eqV y x := by
 cases y with
 | non => cases r; rfl
 | bl b => cases r; rfl
 | int i => obtain ⟨t, rfl⟩ := r; rfl
 | str z => obtain ⟨t, rfl⟩ := r; rfl
 | _ => exact absurd (show false = true from f) Bool.false_ne_true
theorem any_eqU {x : V} : ∀ {xs : List V} {us : List Value}, Vals xs us -> xs.all flatV = true -> us.any (eqU x) = xs.any fun y => eqV y x
 | _, _, .nil, _ => rfl
 | y :: xs, u :: us, .cons r t, f => by
  rw [List.all_cons, Bool.and_eq_true] at f
  rw [List.any_cons, List.any_cons, eqU_of r f.1, any_eqU t f.2]
theorem mem_eqAt {A : Around} {s : Shared} {x : V} {v : Value} (rx : RelV x v) (fx : flatV x = true) : ∀ {xs : List V} {us : List Value}, Vals xs us -> xs.all flatV = true -> ∀ u ∈ us, SeqAt.EqAt A s u v (eqU x u)
 | _, _, .nil, _ => fun u hu => by cases hu
 | y :: xs, u :: us, .cons r t, f => fun u' hu => by
  rw [List.all_cons, Bool.and_eq_true] at f
  rcases List.mem_cons.mp hu with rfl | hu
  ·rw [eqU_of r f.1]; exact eqAt_V r rx f.1 fx
  ·exact mem_eqAt rx fx t f.2 u' hu
noncomputable def inV (x : V) (xs : List V) : Bool := xs.any fun y => eqV y x
noncomputable def rIn (K : PySem.W.Frag) (neg : Bool) : R2 := fun x y H Q => ∃ p xs, y = .ref p /\ (SqL K H p xs \/ SqT K H p xs) /\ flatV x = true /\ xs.all flatV = true /\ Q (.bl (if neg then !inV x xs else inV x xs)) H
theorem op_in_seq : OpR X (compareOp .In) (rIn X.K false) := by
 intro pins s σ H x y v u Q I rx ry h
 obtain ⟨p, xs, rfl, hq, fx, fs, q⟩ := h
 cases ry
 rcases hq with hq | hq
 ·obtain ⟨its, r, pl, hz⟩ := I.list hq
  refine SeqAt.in_listAt (eqU x) pl.isList (fun w hw => mem_eqAt rx fx r fs w (by simpa using hw)) ⟨.bl _, H, I, rfl, ?_⟩
  rw [show its.toArray.any (eqU x) = its.any (eqU x) by simp, any_eqU r fs]
  exact q
 ·obtain ⟨its, r, pl, hz⟩ := I.tuple hq
  refine SeqAt.in_tupleAt (eqU x) pl (fun w hw => mem_eqAt rx fx r fs w (by simpa using hw)) ⟨.bl _, H, I, rfl, ?_⟩
  rw [show its.toArray.any (eqU x) = its.any (eqU x) by simp, any_eqU r fs]
  exact q
theorem op_notIn_seq : OpR X (compareOp .NotIn) (rIn X.K true) := by
 intro pins s σ H x y v u Q I rx ry h
 obtain ⟨p, xs, rfl, hq, fx, fs, q⟩ := h
 cases ry
 rcases hq with hq | hq
 ·obtain ⟨its, r, pl, hz⟩ := I.list hq
  refine SeqAt.notIn_listAt (eqU x) pl.isList (fun w hw => mem_eqAt rx fx r fs w (by simpa using hw)) ⟨.bl _, H, I, rfl, ?_⟩
  rw [show its.toArray.any (eqU x) = its.any (eqU x) by simp, any_eqU r fs]
  exact q
 ·obtain ⟨its, r, pl, hz⟩ := I.tuple hq
  refine SeqAt.notIn_tupleAt (eqU x) pl (fun w hw => mem_eqAt rx fx r fs w (by simpa using hw)) ⟨.bl _, H, I, rfl, ?_⟩
  rw [show its.toArray.any (eqU x) = its.any (eqU x) by simp, any_eqU r fs]
  exact q
theorem call_len_seq : CallR X (.builtin "len") (fun xs H Q => ∃ p ys, xs = [.ref p] /\ (SqL X.K H p ys \/ SqT X.K H p ys) /\ Q (.int ys.length) H) := by
 intro pins s σ H xs us Q I r h
 obtain ⟨p, ys, rfl, hq, q⟩ := h
 obtain ⟨u, rfl, rx⟩ := vals1 r
 cases rx
 have hn := line63
 rcases hq with hq | hq
 ·obtain ⟨its, r', pl, hz⟩ := I.list hq
  have hlen := r'.length
  exact Calls.call_len_list pl.isList (by simp only [List.size_toArray] <;> omega) ⟨.int ys.length, H, I.tok _, ⟨s.toks + 1, by rw [List.size_toArray, hlen]⟩, q⟩
 ·obtain ⟨its, r', pl, hz⟩ := I.tuple hq
  have hlen := r'.length
  exact len_tuple pl (by simp only [List.size_toArray] <;> omega) ⟨.int ys.length, H, I.tok _, ⟨s.toks + 1, by rw [List.size_toArray, hlen]⟩, q⟩
theorem call_len_str : CallR X (.builtin "len") (fun xs H Q => ∃ z, xs = [.str z] /\ z.length <= sizeLine /\ Q (.int z.length) H) := by
 intro pins s σ H xs us Q I r h
 obtain ⟨z, rfl, hz, q⟩ := h
 obtain ⟨u, rfl, t, rfl⟩ := vals1 r
 have hn := line63
 exact len_str (by omega) ⟨.int z.length, H, I.tok _, ⟨_, rfl⟩, q⟩
theorem call_list_of : CallR X (.type "list") (fun xs H Q => ∃ p ys, xs = [.ref p] /\ (SqL X.K H p ys \/ SqT X.K H p ys) /\ ∀ l, H l = none -> Q (.ref l) (upd H l (.lst ys))) := by
 intro pins s σ H xs us Q I r h
 obtain ⟨p, ys, rfl, hq, q⟩ := h
 obtain ⟨u, rfl, rx⟩ := vals1 r
 cases rx
 have fin : ∀ (its : List Value), Vals ys its -> ys.length <= sizeLine -> ∀ (h' : Heap) (c' : Nat), (∀ b o', s.heap.get? b = some o' -> h'.get? b = some o') ->
   h'.get? s.heap.objs.size = some { cls := .type "list", dict := none, data := .seq its.toArray c', slots := #[] } -> EP X pins σ Q (.ref s.heap.objs.size) { s with heap := h' } := fun its r' hz h' c' kp e =>
  ⟨.ref s.heap.objs.size, _, I.laid (t' := s.toks) kp (Nat.le_refl _) (show ObjOk X.prog X.w _ h' _ (.lst ys) from ⟨hz, its, c', r', e⟩), rfl, q _ (I.hok.fresh (Nat.le_refl _))⟩
 rcases hq with hq | hq
 ·obtain ⟨its, r', pl, hz⟩ := I.list hq
  have hlen := r'.length
  obtain ⟨o, ho, hc, n, hd⟩ := pl.isList
  exact call_list_seq p (.inl rfl) ho hc hd (fun h' c' kp e => fin its r' hz h' c' kp e) (by simp only [List.size_toArray] <;> omega)
 ·obtain ⟨its, r', pl, hz⟩ := I.tuple hq
  have hlen := r'.length
  obtain ⟨o, ho, hc, n, hd⟩ := pl
  exact call_list_seq p (.inr rfl) ho hc hd (fun h' c' kp e => fin its r' hz h' c' kp e) (by simp only [List.size_toArray] <;> omega)
theorem call_tuple_of : CallR X (.type "tuple") (fun xs H Q => ∃ p ys, xs = [.ref p] /\ ((SqL X.K H p ys /\ ∀ l, H l = none -> Q (.ref l) (upd H l (.tup ys))) \/ (SqT X.K H p ys /\ Q (.ref p) H))) := by
 intro pins s σ H xs us Q I r h
 obtain ⟨p, ys, rfl, h⟩ := h
 obtain ⟨u, rfl, rx⟩ := vals1 r
 cases rx
 rcases h with ⟨hq, q⟩ | ⟨hq, q⟩
 ·obtain ⟨its, r', pl, hz⟩ := I.list hq
  have hlen := r'.length
  refine call_tuple_list pl.isList (fun h' kp => ?_) (by simp only [List.size_toArray] <;> omega)
  have I1 : Inv X pins σ H { s with heap := h' } := I.kept (t' := s.toks) kp
  have I2 : Inv X pins σ (upd H h'.objs.size (.tup ys)) { s with heap := h'.push { cls := .type "tuple", data := .seq its.toArray } } :=
   I1.laid (t' := s.toks) (fun b o e => Heap.get?_push_of_some _ e) (Nat.le_refl _) (show ObjOk X.prog X.w _ _ _ (.tup ys) from ⟨hz, its, r', IsTup.new _ _⟩)
  exact ⟨.ref h'.objs.size, _, I2, rfl, q _ (I1.hok.fresh (Nat.le_refl _))⟩
 ·obtain ⟨its, r', pl, hz⟩ := I.tuple hq
  exact call_tuple_same pl ⟨.ref p, H, I, rfl, q⟩
noncomputable def tyV (K : PySem.W.Frag) (T : String) (x : V) (H : Hp) : Prop := match x with
 | .str _ => T = "str"
 | .int _ => T = "int"
 | .ref p => (T = "list" /\ ∃ xs, SqL K H p xs) \/ (T = "tuple" /\ ∃ o, K.lookup p = some o /\ o.cls = .type "tuple" /\ o.dict = none) \/
   (T = "dict" /\ ((∃ kvs, H p = some (.dK kvs)) \/ ∃ kvs, H p = some (.dT kvs))) \/ (T = "set" /\ ∃ S n, H p = some (.set S n))
 | _ => False
theorem tyV_is {pins : List (Addr × Obj)} {σ : St} {H : Hp} {s : Shared} {T : String} {x : V} {v : Value} (I : Inv X pins σ H s) (r : RelV x v) (ty : tyV X.K T x H) :
  s.TypeIs v T /\ ∀ a, v = .ref a -> ∃ ob, s.heap.get? a = some ob /\ ob.dict = none := by
 cases x with
 | str z =>
  obtain ⟨t, rfl⟩ := r
  cases (show T = "str" from ty)
  exact ⟨typeIs_str s z t, fun _ e => nomatch e⟩
 | int i =>
  obtain ⟨t, rfl⟩ := r
  cases (show T = "int" from ty)
  exact ⟨typeIs_int s i t, fun _ e => nomatch e⟩
 | ref p =>
  cases r
  rcases ty with ⟨rfl, xs, hq⟩ | ⟨rfl, o, hk, hc, hd⟩ | ⟨rfl, hk⟩ | ⟨rfl, S, n, hk⟩
  ·obtain ⟨its, _, pl, _⟩ := I.list hq
   refine ⟨pl.isList.typeIs, fun a e => ?_⟩
   cases e
   obtain ⟨o, n, e, c, hd, _⟩ := pl
   exact ⟨o, e, hd⟩
  ·refine ⟨⟨o, I.kIn p o hk, hc⟩, fun a e => ?_⟩
   cases e
   exact ⟨o, I.kIn _ o hk, hd⟩
  ·have z : ∃ o, s.heap.get? p = some o /\ o.ExactDict := by
    rcases hk with ⟨kvs, hk⟩ | ⟨kvs, hk⟩
    ·obtain ⟨_, _, _, _, o, _, _, e, ex, _⟩ := I.hok p _ hk
     exact ⟨o, e, ex⟩
    ·obtain ⟨_, _, _, _, o, _, _, e, ex, _⟩ := I.hok p _ hk
     exact ⟨o, e, ex⟩
   obtain ⟨o, e, ex⟩ := z
   refine ⟨⟨o, e, ex.1⟩, fun a e2 => ?_⟩
   cases e2
   exact ⟨o, e, ex.2.1⟩
  ·obtain ⟨o, _, _, _, e, ex, _⟩ := I.hok p _ hk
   refine ⟨⟨o, e, ex.1⟩, fun a e2 => ?_⟩
   cases e2
   exact ⟨o, e, ex.2.1⟩
 | _ => exact False.elim ty
noncomputable def tBM0 (K : PySem.W.Frag) (T : String) (r : V -> List V -> Hp -> VK -> Prop) (to : TE) : TE := fun σ H Q => to σ H fun x H1 => tyV K T x H1 /\ r x [] H1 Q
noncomputable def tBM (K : PySem.W.Frag) (T : String) (r : V -> List V -> Hp -> VK -> Prop) (to : TE) (t : TA) : TE := fun σ H Q => to σ H fun x H1 => tyV K T x H1 /\ t σ H1 fun xs H2 => r x xs H2 Q
variable {o e : Expr} {es : List Expr} {to : TE} {t : TA} {name : Str} {apos cpos : Pos} {T id : String} {r : V -> List V -> Hp -> VK -> Prop}
theorem pe_bm0 (pa : PlainAttrs T) (slot : Slot T name id) (hty : typeOf (.builtin id) = pure (.type "method_descriptor")) (hm : MtR X id r) (ho : PE X o to)
  (hbase : attributeBase o name X.env (eval o X.env) = eval o X.env := by rfl) (hline : (apos.endLine == cpos.line) = true := by rfl) : PE X (.Call (.Attribute o name apos) [] [] cpos) (tBM0 X.K T r to) := by
 intro pins s σ H Q I h
 refine wpAny_Call_method0_late hbase hline (thn (ho pins s σ H _ I h) fun v s1 ⟨x, H1, I1, r1, ty, q1⟩ => ?_)
 obtain ⟨h1, h2⟩ := tyV_is I1 r1 ty
 exact ⟨T, id, pa, slot, hty, h1, h2, Calls.callWith_builtin rfl (PySem.evalArgs_none (hm pins s1 σ H1 x [] v [] Q I1 r1 .nil q1))⟩
theorem pe_bm (pa : PlainAttrs T) (slot : Slot T name id) (hty : typeOf (.builtin id) = pure (.type "method_descriptor")) (hm : MtR X id r) (ho : PE X o to) (ha : PA X (e :: es) t)
  (hbase : attributeBase o name X.env (eval o X.env) = eval o X.env := by rfl)
  (hfew : ((backTo cpos (starEach (e :: es) X.env)).all (fun x => !x.1) && (backToKw cpos (keywordEach [] X.env)).all (fun x => x.1.isSome)
   && decide ((e :: es).length + ([] : List Keyword).length + (if ([] : List Keyword).isEmpty then 0 else 1) < 30)) = true := by rfl)
  (hline : (apos.endLine == cpos.line) = true := by rfl) (hs : starEach (e :: es) X.env = (false, eval e X.env) :: starEach es X.env := by rfl) (hplain : (backTo cpos (starEach es X.env)).any (·.1) = false := by rfl) :
  PE X (.Call (.Attribute o name apos) (e :: es) [] cpos) (tBM X.K T r to t) := by
 intro pins s σ H Q I h
 refine wpAny_Call_method_late hbase hfew hline rfl (thn (ho pins s σ H _ I h) fun v s1 ⟨x, H1, I1, r1, ty, q1⟩ => ?_)
 obtain ⟨h1, h2⟩ := tyV_is I1 r1 ty
 refine ⟨T, id, pa, slot, hty, h1, h2, ?_⟩
 have hA := ha cpos pins s1 σ H1 _ I1 q1
 rw [hs] at hA ⊢
 refine Calls.callWith_builtin (by show (false || (backTo cpos (starEach es X.env)).any (·.1)) = false; rw [hplain] <;> rfl) (Calls.evalArgs_plain ?_)
 exact thn hA fun us s2 ⟨vs, H2, I2, r2, q2⟩ => hm pins s2 σ H2 x vs v us Q I2 r1 r2 q2
end
end L2
namespace L2
open PySem PySem.Spec PyProof.Rows
noncomputable def MtM (X : Cx) (id : String) (r : V -> List V -> Hp -> VK -> Prop) : Prop :=
 ∀ (pins : List (Addr × Obj)) (s : Shared) (σ : St) (H : Hp) (x : V) (xs : List V) (v : Value) (us : List Value) (Q : VK), Inv X pins σ H s -> RelV x v -> Vals xs us -> r x xs H Q ->
  wpAny (model X.prog X.w) X.A (call (.builtin id) (v :: us)) (EP X pins σ Q) X.xe s
theorem Vals.one : ∀ {x : V} {us : List Value}, Vals [x] us -> ∃ u, us = [u] /\ RelV x u
 | _, _, .cons r .nil => ⟨_, rfl, r⟩
theorem Vals.two : ∀ {x y : V} {us : List Value}, Vals [x, y] us -> ∃ u v, us = [u, v] /\ RelV x u /\ RelV y v
 | _, _, _, .cons r (.cons q .nil) => ⟨_, _, rfl, r, q⟩
theorem Vals.zero : ∀ {us : List Value}, Vals [] us -> us = []
 | _, .nil => rfl
theorem Vals.dropLast {xs : List V} {us : List Value} (h : Vals xs us) : Vals xs.dropLast us.dropLast := by
 induction h with
 | nil => exact .nil
 | cons r t ih =>
  cases t with
  | nil => exact .nil
  | cons q t' => exact .cons r ih
theorem Vals.reverse {xs : List V} {us : List Value} (h : Vals xs us) : Vals xs.reverse us.reverse := by
 induction h with
 | nil => exact .nil
 | cons r t ih => rw [List.reverse_cons, List.reverse_cons]; exact Vals.append ih (.cons r .nil)
theorem erase_last {α : Type} (l : List α) : l.eraseIdx (l.length - 1) = l.dropLast := by
 induction l with
 | nil => rfl
 | cons a r ih =>
  cases r with
  | nil => rfl
  | cons b r =>
   have e : (a :: b :: r).length - 1 = ((b :: r).length - 1) + 1 := by
    have h1 : (a :: b :: r).length = r.length + 2 := rfl
    have h2 : (b :: r).length = r.length + 1 := rfl
    omega
   rw [e, List.eraseIdx_cons_succ, ih]
   all_goals rfl
section
variable {X : Cx} {pins : List (Addr × Obj)} {σ : St} {H : Hp} {s : Shared} {l b : Addr} {xs ys zs : List V}
theorem Inv.lset {its its' : List Value} {n : Nat} {f : Array Value -> Array Value} {t' : Nat} (I : Inv X pins σ H s) (hH : H l = some (.lst xs))
  (e : s.heap.get? l = some { cls := .type "list", data := .seq its.toArray n }) (hf : f its.toArray = its'.toArray) (hv : Vals ys its') (hz : ys.length <= sizeLine) :
  Inv X pins σ (upd H l (.lst ys)) { s with heap := s.heap.update l (Obj.mapSeq f), toks := t' } := by
 have q := PySem.IsL.update e f
 rw [hf] at q
 refine I.write (x := l) (e := l) (by rw [hH]; exact trivial) (.inl rfl) (fun b' u hb hu => (Heap.get?_update_other s.heap (Obj.mapSeq f) (Ne.symm hb)).trans hu) ⟨_, q⟩ ?_
 exact ⟨hz, its', _, hv, q⟩
theorem Inv.lnew {its : List Value} {t' : Nat} (I : Inv X pins σ H s) (hv : Vals ys its) (hz : ys.length <= sizeLine) :
  Inv X pins σ (upd H s.heap.objs.size (.lst ys)) { s with heap := s.heap.push { cls := .type "list", data := .seq its.toArray }, toks := t' } :=
 I.laid (fun _ _ q => Heap.get?_push_of_some _ q) (Nat.le_refl _) ⟨hz, its, 0, hv, Heap.get?_push_size _ rfl⟩
theorem Inv.fresh (I : Inv X pins σ H s) : H s.heap.objs.size = none := I.hok.fresh (Nat.le_refl _)
theorem Inv.lstM (I : Inv X pins σ H s) (hH : H l = some (.lst xs)) : xs.length <= sizeLine /\ ∃ (its : List Value) (n : Nat), Vals xs its /\ xs.length = its.length /\ s.heap.get? l = some { cls := .type "list", data := .seq its.toArray n } := by
 obtain ⟨z, its, n, r, e⟩ := I.hok l _ hH
 exact ⟨z, its, n, r, r.length, e⟩
theorem notLongL {n : Nat} (h : n <= sizeLine) : Builtin.List.listTooLong n = false := by
 unfold Builtin.List.listTooLong
 exact decide_eq_false (by omega)
end
section
variable {X : Cx}
noncomputable def rAppend : V -> List V -> Hp -> VK -> Prop := fun x vs H Q => ∃ l xs y, x = .ref l /\ vs = [y] /\ H l = some (.lst xs) /\ xs.length < sizeLine /\ Q .non (upd H l (.lst (xs ++ [y])))
theorem mt_append : MtM X "list.append" rAppend := by
 intro pins s σ H x vs v us Q I rx rv h
 obtain ⟨l, xs, y, rfl, rfl, hH, hz, q⟩ := h
 cases rx
 obtain ⟨u, rfl, ru⟩ := rv.one
 obtain ⟨z, its, n, r, hl, e⟩ := I.lstM hH
 refine call_meets F.slot_list_append ⟨_, e, rfl⟩ F.entry_list_append (F.args_list_append_2 _ _) (PySem.list_append l its.toArray n u (by rw [List.size_toArray]; omega)) ⟨e, ?_⟩
 refine ⟨.non, _, I.lset (its' := its ++ [u]) hH e (by simp) (r.append (.cons ru .nil)) ?_, rfl, q⟩
 rw [List.length_append, List.length_singleton]
 omega
noncomputable def rExtend : V -> List V -> Hp -> VK -> Prop := fun x vs H Q => ∃ l b xs zs, x = .ref l /\ vs = [.ref b] /\ H l = some (.lst xs) /\ H b = some (.lst zs) /\ xs.length + zs.length <= sizeLine /\ Q .non (upd H l (.lst (xs ++ zs)))
theorem mt_extend : MtM X "list.extend" rExtend := by
 intro pins s σ H x vs v us Q I rx rv h
 obtain ⟨l, b, xs, zs, rfl, rfl, hH, hB, hz, q⟩ := h
 cases rx
 obtain ⟨u, rfl, ru⟩ := rv.one
 cases ru
 obtain ⟨z, its, n, r, hl, e⟩ := I.lstM hH
 obtain ⟨z2, its2, n2, r2, hl2, e2⟩ := I.lstM hB
 have hsz : its.toArray.size + its2.toArray.size <= sizeLine := by rw [List.size_toArray, List.size_toArray]; omega
 have hlong : ¬ (!its.toArray.isEmpty && Builtin.List.listTooLong (its.toArray.size + its2.toArray.size)) = true := by
  rw [notLongL hsz, Bool.and_false]
  exact Bool.false_ne_true
 refine call_meets F.slot_list_extend ⟨_, e, rfl⟩ F.entry_list_extend (F.args_list_extend_2 _ _)
  (AutoSeq1.list_extend_list_list_0 l its.toArray n b its2.toArray n2 hlong (by rw [List.size_toArray]; omega) (by omega)) ⟨e, e2, ?_⟩
 refine ⟨.non, _, I.lset (its' := its ++ its2) hH e (by simp) (r.append r2) ?_, rfl, q⟩
 rw [List.length_append]
 omega
noncomputable def rPop : V -> List V -> Hp -> VK -> Prop := fun x vs H Q => ∃ l xs y, x = .ref l /\ vs = [] /\ H l = some (.lst xs) /\ xs[xs.length - 1]? = some y /\ Q y (upd H l (.lst xs.dropLast))
theorem mt_pop : MtM X "list.pop" rPop := by
 intro pins s σ H x vs v us Q I rx rv h
 obtain ⟨l, xs, y, rfl, rfl, hH, hy, q⟩ := h
 cases rx
 have hus := rv.zero
 subst hus
 obtain ⟨z, its, n, r, hl, e⟩ := I.lstM hH
 obtain ⟨u, hu, ru⟩ := r.get hy
 have hy' : its.toArray[its.toArray.size - 1]? = some u := by
  show its.toArray[its.length - 1]? = some u
  rw [<- Array.getElem?_toList, <- hl]
  exact hu
 refine call_meets F.slot_list_pop ⟨_, e, rfl⟩ F.entry_list_pop (F.args_list_pop_1 _) (MeetsSeq.list_pop_last l its.toArray n u hy' (by rw [List.size_toArray]; omega)) ⟨e, ?_⟩
 refine ⟨y, _, I.lset (its' := its.dropLast) hH e ?_ r.dropLast ?_, ru, q⟩
 ·show its.toArray.eraseIdxIfInBounds (its.toArray.size - 1) = its.dropLast.toArray
  rw [List.size_toArray, List.eraseIdxIfInBounds_toArray, erase_last]
 ·rw [List.length_dropLast]
  omega
end
end L2
namespace Att
open PySem PySem.W PySem.Calls PyProof.Rows
theorem ints_of_wellAll {P : Params} {h : Heap} : ∀ (ns : List Int) (vs : List Value), WellAll P h vs (ns.map WData.int) -> IntsAre vs ns := by
 intro ns
 induction ns with
 | nil =>
  intro vs w
  rw [List.map_nil] at w
  cases w
  exact .nil
 | cons n ns ih =>
  intro vs w
  rw [List.map_cons] at w
  cases w with
  | cons a b =>
   cases a
   exact .cons _ _ (ih _ b)
theorem script_of {l : OpenLaw} {n : Nat} (hn : l.most = some n) {P : Params} {h : Heap} {args : List WData} {vals : List Value}
  (hpre : l.row.toRowW.claim.pre args = true) (hwl : WellAll P h vals args) :
  ∃ a vs ns, vals = [Value.ref a] /\ args = [WData.list (ns.map WData.int)] /\ h.get? a = some { cls := .type "list", data := .seq vs.toArray } /\ IntsAre vs ns /\ ns.length <= n := by
 have hsh : WShape.hasAll [] args [.list .int] = true := (pre_splitW hpre).1
 have hc : l.pre.holds [] { args := args } = true := (pre_splitW hpre).2
 obtain ⟨d, r, rfl, h1, h2⟩ := hasAllW_cons hsh
 obtain rfl := hasAllW_nil h2
 obtain ⟨xs, rfl, h3⟩ := hasW_list h1
 obtain ⟨ns, rfl⟩ := items_int h3
 have hlen : ns.length <= n := by
  unfold OpenLaw.pre at hc
  have h4 : (WTm.not (.lt (.lit (.int (n : Int))) (.len (.arg 0)))).holds [] { args := [.list (ns.map .int)] } = true := by
   have h4 := (holds_andW hc).1
   rw [hn] at h4
   exact h4
  have h5 := condW_of h4 (w_not (w_lt w_lit (w_len_list (w_arg rfl))))
  rw [List.length_map] at h5
  refine Nat.le_of_not_lt fun q => ?_
  have q' : (n : Int) < ((ns.length : Nat) : Int) := by omega
  first
   | (rw [decide_eq_true q'] at h5; exact absurd h5 (by decide))
   | (simp at h5; omega)
 cases hwl with
 | cons w1 w2 =>
  cases w2
  cases w1 with
  | list ho hall => exact ⟨_, _, ns, rfl, rfl, ho, ints_of_wellAll ns _ hall, hlen⟩
theorem post_true (l : OpenLaw) (args : List WData) : l.row.toRowW.claim.post args (.bool true) args = true :=
 postW_of (r := l.row.toRowW) (X := (true == true))
  (show WShape.has [] (.bool true) .bool = true by first | rfl | decide | simp [WShape.has, WShape.arms, WShape.armsAll])
  (show (WTm.eq .res (.lit (.bool true))).value [] { args := args, res := some (.bool true), after := args } = some (.bool (true == true)) from w_eq_bool (w_res rfl) w_lit) rfl
theorem attach_call {l : OpenLaw} {n : Nat} {q : Program} {loose : List Str} {XP : (Str -> Option Value) -> Heap -> Prop} {YP : World -> Heap -> Prop} {d : DefRec}
  (hn : l.most = some n) (hdf : d.params.defaults = [])
  (call : ∀ (w : World) (s₀ s₁ : Shared) (mg mb : Str -> Option Value) (fa : Addr) (o : Obj) (pm cd doc : Value) (a : Addr) (vs : List Value) (ns : List Int),
   Ground q loose [] XP w s₀ mg mb s₁.heap -> YP w s₁.heap ->
   s₁.heap.get? fa = some o -> o.data = .func (docDef d.name d.params d.body d.scope pm cd doc) -> s₁.heap.CodeRec cd d.name -> mg d.name = some (.ref fa) ->
   s₁.heap.get? a = some { cls := .type "list", data := .seq vs.toArray } -> IntsAre vs ns -> ns.length <= n -> s₁.gens = #[] ->
   codeAny (model l.prog w) callerA (.call (.ref fa) ⟨[.ref a], []⟩) (fun r s' => r = .ok (.ret (.bool true)) /\ OldK s₁.heap s'.heap /\ s'.os = s₁.os /\ AllBare s'.gens) s₁) :
  WalkO q loose XP YP l.row.toRowW d [] (fun f vs => PySem.call f vs) := by
 intro w s₀ s₁ mg mb G Y fa o pm cd doc dV kV ho hd hcd hD hmg hg args vals as hpre hlay hrd hwl hlo
 obtain rfl : dV = .none := Dflts.none hD hdf
 obtain rfl : kV = .none := Dflts.noKw hD
 obtain ⟨a, vs, ns, rfl, rfl, hobj, hints, hlen⟩ := script_of hn hpre hwl
 refine enter_call (codeAny_mono (call w s₀ s₁ mg mb fa o pm cd doc a vs ns G Y ho (fd_plain hd) hcd hmg hobj hints hlen hg) fun r s' hq => ?_)
 obtain ⟨rfl, h2, h3, h4⟩ := hq
 exact ⟨.inl ⟨.bool true, .bool true, [], rfl, fun _ => rfl, .bool true, post_true l _, fun _ => ⟨List.Pairwise.nil, fun _ hm => (nomatch hm)⟩⟩, h2, h3, h4⟩
end Att
namespace L2
open PySem PySem.Spec PyProof.Rows
theorem vals_ints : ∀ {vs : List Value} {ns : List Int}, IntsAre vs ns -> Vals (ns.map V.int) vs
 | _, _, .nil => .nil
 | _, _, .cons n t h => .cons ⟨t, rfl⟩ (vals_ints h)
noncomputable def Only (H : Hp) : Prop := ∀ b, H b = none \/ ∃ o xs, H b = some (.frz o (.lst xs))
theorem law_call {P : Program} {w : World} {K : PySem.W.Frag} {mg mb : Str -> Option Value} {CX : CXT} {k : Nat} {fa a : Addr} {fd : FuncData} {x : Str} {sp : Sp} {s₁ : Shared} {vs : List Value} {ns : List Int}
  (KX : K.In s₁.heap) (hns : s₁.heap.Ns mainGlobals mg) (hb : s₁.heap.Ns builtinsNs mb) (hbb : ∀ x : Str, x ≠ "__name__" -> mb x = bootBuiltins x) (hlim : s₁.heap.NoLimit) (hg : s₁.gens = #[])
  (ha : s₁.heap.get? a = some { cls := .type "list", data := .seq vs.toArray }) (hi : IntsAre vs ns) (hl : ns.length <= sizeLine) (hr : Room k callerA)
  (F : ∀ base : Heap, K.In base -> base.Ns mainGlobals mg -> FnOk P w K mg base CX k fa fd [x] sp) (hbind : ∀ (s : Shared) (u : Value), BindsTo s fd ⟨[u], []⟩ [(x, u)])
  (hsp : ∀ H : Hp, Only H -> SqL K H a (ns.map V.int) -> sp [.ref a] H (fun v _ => v = .bl true) fun _ _ _ => False)
  (hCX : ∀ H e s', CX [] H s₁ (fun _ _ _ => False) e s' -> False) :
  codeAny (model P w) callerA (.call (.ref fa) ⟨[.ref a], []⟩) (fun r s' => r = .ok (.ret (.bool true)) /\ OldK s₁.heap s'.heap /\ s'.os = s₁.os /\ AllBare s'.gens) s₁ := by
 have rv := vals_ints hi
 have lenV := hi.length
 have core : ∀ H : Hp, Only H -> SqL K H a (ns.map V.int) -> HOk P w H s₁.heap -> (∀ b, H b ≠ none -> b = a) -> (H a ≠ none -> K.lookup a = none) ->
   codeAny (model P w) callerA (.call (.ref fa) ⟨[.ref a], []⟩) (fun r s' => r = .ok (.ret (.bool true)) /\ OldK s₁.heap s'.heap /\ s'.os = s₁.os /\ AllBare s'.gens) s₁ := by
  intro H hO hS hok hA hK
  have base_of : ∀ {b : Addr} {o : Obj}, s₁.heap.get? b = some o -> H b = none -> (hidT s₁.heap H).get? b = some o := fun e n => hidT_get e n
  have noA : ∀ {b : Addr} {o : Obj} {es : Array DictEntry} {ep : Nat}, s₁.heap.get? b = some o -> o.data = .dict es ep -> H b = none := fun {b o es ep} e d => by
   cases q : H b with
   | none => rfl
   | some u =>
    have e' : b = a := hA b (by rw [q]; simp)
    subst e'
    rw [ha] at e; cases e
    have d' : Data.seq vs.toArray _ = Data.dict es ep := d
    cases d'
  have nsK : ∀ {b : Addr} {m : Str -> Option Value}, s₁.heap.Ns b m -> (hidT s₁.heap H).Ns b m := fun {b m} ⟨o, es, ep, e, d, r⟩ => ⟨o, es, ep, base_of e (noA e d), d, r⟩
  have hKb : K.In (hidT s₁.heap H) := fun b o e => base_of (KX b o e) (by
   cases q : H b with
   | none => rfl
   | some u =>
    have e' : b = a := hA b (by rw [q]; simp)
    subst e'
    rw [hK (by rw [q]; simp)] at e; cases e)
  have hM : Mod K mg (hidT s₁.heap H) := ⟨hKb, nsK hns, ⟨mb, nsK hb, hbb⟩, let ⟨mc, h1, h2⟩ := hlim; ⟨mc, nsK h1, h2⟩⟩
  have e0 : Env0 P w K mg (hidT s₁.heap H) callerA [] s₁ H := ⟨rfl, hM, fun b o e => of_hidT e, Nat.le_of_eq (hidT_size _ _), trivial, fun b hb => absurd (show b ∈ ([] : List Addr) from hb) (by simp), hok, .of_eq hg⟩
  refine codeAny_mono ((F _ hKb (nsK hns)).run callerA [] s₁ H ⟨[.ref a], []⟩ [.ref a] [.ref a] _ _ hr e0 (hbind s₁ (.ref a)) (.cons rfl .nil) (hsp H hO hS)) fun r s' h => ?_
  cases r with
  | error e => exact (hCX H e s' h).elim
  | ok fl =>
   cases fl with
   | next => exact False.elim h
   | brk => exact False.elim h
   | cont => exact False.elim h
   | ret u =>
    obtain ⟨v, H', os, bare, un, hok', r', q⟩ := h
    have q' : v = .bl true := q
    subst q'
    obtain rfl : u = Value.bool true := r'
    refine ⟨rfl, OldK.of_keep fun b o e => ?_, os, bare⟩
    cases q : H b with
    | none => exact un.keep b o e q (by intro z; exact absurd (show b ∈ ([] : List Addr) from z) (by simp)) (by simp)
    | some u =>
     rcases hO b with z | ⟨ob, xs, z⟩
     ·rw [q] at z; cases z
     ·have z2 := un.frzs b ob _ z
      obtain ⟨e1, _⟩ := hok b _ z
      obtain ⟨e2, _⟩ := hok' b _ z2
      rw [e] at e1; cases e1
      exact e2
 cases hk : K.lookup a with
 | some o =>
  have e := KX a o hk
  rw [ha] at e
  cases e
  refine core (fun _ => none) (fun _ => .inl rfl) (.inr ⟨_, vs.toArray, _, hk, rfl, rfl, rfl, by rw [List.size_toArray, lenV]; exact hl, by simpa using rv⟩) (fun b u z => by have z' : (none : Option HO) = some u := z; cases z') (fun b z => absurd rfl z) fun z => absurd rfl z
 | none =>
  refine core (fun b => if b = a then some (.frz { cls := .type "list", data := .seq vs.toArray } (.lst (ns.map V.int))) else none) (fun b => ?_) (.inl (.inr ⟨{ cls := .type "list", data := .seq vs.toArray }, if_pos rfl⟩)) (fun b u z => ?_) (fun b z => ?_) fun _ => hk
  ·by_cases hb : b = a
   ·exact .inr ⟨_, _, if_pos hb⟩
   ·exact .inl (if_neg hb)
  ·by_cases hb : b = a
   ·have z' := (if_pos hb).symm.trans z
    cases z'
    subst hb
    exact ⟨ha, by rw [List.length_map]; exact hl, vs, _, rv, ha⟩
   ·have z' := (if_neg hb).symm.trans z
    cases z'
  ·by_cases hb : b = a
   ·exact hb
   ·exact absurd (if_neg hb) z
end L2
namespace L2
open PySem PySem.Spec PyProof.Rows
theorem walk_of {l : PySem.W.OpenLaw} {n k : Nat} {q : Program} {loose : List Str} {XP : (Str -> Option Value) -> Heap -> Prop} {YP : World -> Heap -> Prop} {d : DefRec} {K : Params -> PySem.W.Frag} {CX : World -> CXT} {sp : World -> Sp} {x : Str}
  (hn : l.most = some n) (hn2 : n <= sizeLine) (hdf : d.params.defaults = []) (hr : Room k callerA)
  (hY : ∀ (w : World) (h : Heap), YP w h -> (K w.params).In h)
  (F : ∀ (w : World) (mg : Str -> Option Value) (fa : Addr) (h : Heap), (K w.params).In h -> h.Ns mainGlobals mg -> mg d.name = some (.ref fa) ->
   ∃ fd : FuncData, (∀ (s : Shared) (u : Value), BindsTo s fd ⟨[u], []⟩ [(x, u)]) /\
    ∀ base : Heap, (K w.params).In base -> base.Ns mainGlobals mg -> FnOk l.prog w (K w.params) mg base (CX w) k fa fd [x] (sp w))
  (hsp : ∀ (w : World) (H : Hp) (a : Addr) (ns : List Int), ns.length <= n -> Only H -> SqL (K w.params) H a (ns.map V.int) -> sp w [.ref a] H (fun v _ => v = .bl true) fun _ _ _ => False)
  (hCX : ∀ (w : World) (H : Hp) (s : Shared) (e : Value) (s' : Shared), CX w [] H s (fun _ _ _ => False) e s' -> False) :
  PySem.W.WalkO q loose XP YP l.row.toRowW d [] (fun f vs => PySem.call f vs) := by
 refine Att.attach_call hn hdf fun w s₀ s₁ mg mb fa o pm cd doc a vs ns G Y ho hd hcd hmg hobj hints hlen hg => ?_
 have KX := hY w _ Y
 obtain ⟨fd, hb, hF⟩ := F w mg fa _ KX G.T.g hmg
 exact law_call KX G.T.g G.T.b G.T.builtins G.T.nolimit hg hobj hints (Nat.le_trans hlen hn2) hr hF hb (fun H hO hS => hsp w H a ns hlen hO hS) fun H e s' => hCX w H s₁ e s'
end L2
namespace L2
open PySem PySem.Spec PyProof.Rows
noncomputable def defArgs (s : Stmt) : Arguments := match s with
 | .FunctionDef _ a _ _ _ _ _ _ _ _ => a
 | _ => { posonlyargs := [], args := [], vararg := none, kwonlyargs := [], kw_defaults := [], kwarg := none, defaults := [] }
noncomputable def defBody (s : Stmt) : List Stmt := match s with
 | .FunctionDef _ _ b _ _ _ _ _ _ _ => b
 | _ => []
noncomputable def defScope (s : Stmt) : Scope := match s with
 | .FunctionDef _ _ _ _ _ _ sc _ _ _ => sc
 | _ => { kind := .function, names := [], isGenerator := false, isCoroutine := false }
noncomputable abbrev CX0 : CXT := fun _ _ _ _ _ _ => False
noncomputable abbrev E0 : XK := fun _ _ _ => False
theorem pass0 {X : Cx} : Passes CX0 X E0 := fun _ _ _ _ _ _ _ h => h.elim
structure Fun (K : PySem.W.Frag) (x qual : Str) (st : Stmt) (f : Addr) (fd : FuncData) : Prop where
 ex : ∃ (oc : Value) (od : Option Addr) (kV doc pm : Value) (an : Option Addr) (cdv ct : Value) (osl : Array (Option Value)),
  fd = PySem.W.fnOf x qual (defArgs st) (defBody st) (defScope st) .none kV doc pm an cdv ct /\ K.lookup f = some ⟨oc, od, .func fd, osl⟩ /\ PySem.W.codeIn K cdv qual = true
 kp : PySem.W.keepIn K (.ref f) = true
section
variable {P : Program} {w : World} {K : PySem.W.Frag} {mg : Str -> Option Value} {base : Heap}
theorem Fun.ok {x qual : Str} {st : Stmt} {f : Addr} {fd : FuncData} {N ps : List Str} {k : Nat} {sp : Sp} (F : Fun K x qual st f fd) (S : FnScope N ps (defScope st)) (len : ∀ vs H Q E, sp vs H Q E -> vs.length = ps.length)
  (hbody : ∀ (cdv : Value) (A : Around) (outer : List Env) (s : Shared) (H : Hp) (vs : List V) (Q : VK) (E : XK), Room k (A.deeper (envOfC qual (defScope st) s.heap.objs.size f cdv)) -> sp vs H Q E ->
   ∃ t, PSs (cxOf CX0 P w K mg base N qual (defScope st) f cdv A outer s H E).nox (defBody st) t /\ t { nx := fun _ H' => Q .non H', rt := Q } (start N vs) H) : FnOk P w K mg base CX0 (k + 1) f fd ps sp := by
 obtain ⟨oc, od, kV, doc, pm, an, cdv, ct, osl, rfl, lk, hcd⟩ := F.ex
 refine fn_of lk hcd S len fun A outer s H vs Q E hr hsp => ?_
 obtain ⟨t, h, q⟩ := hbody cdv A outer s H vs Q E hr hsp
 exact ⟨t, h.nox, q⟩
theorem Fun.binds {x qual : Str} {st : Stmt} {f : Addr} {fd : FuncData} {ps : List Str} (F : Fun K x qual st f fd)
  (h : ∀ (kV doc pm : Value) (an : Option Addr) (cdv ct : Value) (us : List Value), us.length = ps.length -> bindArgs (PySem.W.fnOf x qual (defArgs st) (defBody st) (defScope st) .none kV doc pm an cdv ct) ⟨us, []⟩ = pure (ps.zip us)) : Binds K fd ps [] := by
 obtain ⟨oc, od, kV, doc, pm, an, cdv, ct, osl, rfl, lk, hcd⟩ := F.ex
 exact .all (h kV doc pm an cdv ct)
theorem fun_mk {x qual : Str} {st : Stmt} {f : Addr} {oc : Value} {od an : Option Addr} {osl : Array (Option Value)} {kV doc pm cdv ct : Value} (l : K.lookup f = some ⟨oc, od, .func (PySem.W.fnOf x qual (defArgs st) (defBody st) (defScope st) .none kV doc pm an cdv ct), osl⟩)
  (c : PySem.W.codeIn K cdv qual = true) (k : PySem.W.keepIn K (.ref f) = true) : Fun K x qual st f (PySem.W.fnOf x qual (defArgs st) (defBody st) (defScope st) .none kV doc pm an cdv ct) := ⟨⟨oc, od, kV, doc, pm, an, cdv, ct, osl, rfl, l, c⟩, k⟩
end
theorem iteF {A B : Prop} (h : B) : if false = true then A else B := by
 rw [if_neg Bool.false_ne_true]
 exact h
theorem iteT {A B : Prop} (h : A) : if true = true then A else B := by
 rw [if_pos rfl]
 exact h
noncomputable def Same (H H' : Hp) : Prop := ∀ b o, H b = some o -> H' b = some o
theorem Same.refl (H : Hp) : Same H H := fun _ _ h => h
theorem Same.trans {H H1 H2 : Hp} (a : Same H H1) (b : Same H1 H2) : Same H H2 := fun c o h => b c o (a c o h)
theorem Same.free {H H' : Hp} (e : Same H H') {l : Addr} (h : H' l = Option.none) : H l = Option.none := by
 cases q : H l with
 | none => rfl
 | some o =>
  rw [e l o q] at h
  cases h
theorem Same.seq {K : PySem.W.Frag} {H H' : Hp} {a : Addr} {xs : List V} (e : Same H H') (h : SqL K H a xs) : SqL K H' a xs := by
 rcases h with (h | ⟨o, h⟩) | h
 ·exact .inl (.inl (e _ _ h))
 ·exact .inl (.inr ⟨o, e _ _ h⟩)
 ·exact .inr h
end L2
namespace L2
open PySem PySem.Spec PyProof.Rows
theorem nextOf_tuple_item {prog : Program} {w : World} {A : Around} {E : Value -> Shared -> Prop} {s : Shared} {it l : Addr} {i : Nat} {items : Array Value} {x : Value} {Q : Value -> Shared -> Prop} (hit : s.heap.IsTupleIter it l i) (hl : s.heap.IsTuple l items) (hx : items[i]? = some x)
  (hQ : ∀ h' : Heap, h'.IsTupleIter it l (i + 1) -> Heap.SameBut it s.heap h' -> Q x { s with heap := h' }) : wpAny (model prog w) A (Builtin.SmallTypes.nextOf (.ref it)) Q E s := by
 obtain ⟨o, ho, hc, hd⟩ := id hit
 obtain ⟨ol, hol, left, nl, hdl⟩ := hl
 refine wpAny_bind (wpAny_callSpecial?_slot hit.typeIs F.slot_tuple_iterator_next (wpAny_call_entry F.slot_tuple_iterator_next hit.typeIs F.entry_tuple_iterator_next ?_ (F.args_tuple_iterator_next_1 (.ref it))))
 refine wpAny_bind ?_
 rw [show slotArgs "__next__" 0 { pos := [Value.ref it] } = pure (Value.ref it, []) from rfl]
 refine wpAny_pure ?_
 refine wpAny_bind (wpAny_field ho hd rfl ?_)
 refine wpAny_bind (wpAny_field ho hd rfl ?_)
 refine wpAny_bind (wpAny_seqItems hol hdl ?_)
 have hx' : items[((i : Int)).toNat]? = some x := hx
 simp only [hx']
 refine wpAny_bind (wpAny_setField ho hd (by simp) (wpAny_pure ⟨x, rfl, wpAny_pure (hQ _ ⟨_, Heap.get?_update_self _ ho (Obj.isFreed_of_fields (Obj.data_mapFields hd _)), (Obj.cls_mapFields o _).trans hc, ?_⟩ (Heap.SameBut.update s.heap it _))⟩))
 rw [Obj.data_mapFields hd]
 simp [rawInt]
end L2
namespace L2
open PySem PySem.Spec PyProof.Rows
theorem nextOf_tuple_end {prog : Program} {w : World} {A : Around} {E : Value -> Shared -> Prop} {s : Shared} {it l : Addr} {i : Nat} {items : Array Value} {Q : Value -> Shared -> Prop} (hh : A.handled = none) (hit : s.heap.IsTupleIter it l i) (hl : s.heap.IsTuple l items) (hx : items[i]? = none)
  (hE : ∀ (h' : Heap) (e : Addr), Heap.ExtBut it s.heap h' -> (∃ o, h'.get? e = some o /\ o.cls = Value.type "StopIteration") -> E (Value.ref e) { s with heap := h' }) : wpAny (model prog w) A (Builtin.SmallTypes.nextOf (.ref it)) Q E s := by
 obtain ⟨o, ho, hc, hd⟩ := id hit
 obtain ⟨ol, hol, left, nl, hdl⟩ := hl
 refine wpAny_bind (wpAny_callSpecial?_slot hit.typeIs F.slot_tuple_iterator_next (wpAny_call_entry F.slot_tuple_iterator_next hit.typeIs F.entry_tuple_iterator_next ?_ (F.args_tuple_iterator_next_1 (.ref it))))
 refine wpAny_bind ?_
 rw [show slotArgs "__next__" 0 { pos := [Value.ref it] } = pure (Value.ref it, []) from rfl]
 refine wpAny_pure ?_
 refine wpAny_bind (wpAny_field ho hd rfl ?_)
 refine wpAny_bind (wpAny_field ho hd rfl ?_)
 refine wpAny_bind (wpAny_seqItems hol hdl ?_)
 have hx' : items[((i : Int)).toNat]? = none := hx
 simp only [hx']
 refine wpAny_bind (wpAny_rule (wpAny_bind (wpAny_setField ho hd (by simp) ?_)))
 refine wpAny_bind ?_
 refine wpAny_bind (wpAny_newObj_type ?_)
 refine wpAny_bind (wpAny_of_eq rfl (wpAny_newObj_type ?_))
 refine wpAny_bind (wpAny_handled ?_)
 rw [show A.in1.handled = none from hh]
 refine wpAny_throw (hE _ _ (fun b o' hb hg => ?_) ⟨_, Heap.get?_push_size _ rfl, rfl⟩)
 ·exact Heap.get?_push_of_some _ (Heap.get?_push_of_some _ (by rw [(Heap.SameBut.update s.heap it _).2 b hb]; exact hg))
theorem enum_next_tup {prog : Program} {w : World} {A : Around} {E : Value -> Shared -> Prop} {s : Shared} {e it l : Addr} {i : Nat} {items : Array Value} {x old : Value} {Q : Value -> Shared -> Prop} (he : IsEnum s.heap e it (i : Int) old) (hit : s.heap.IsTupleIter it l i) (hl : s.heap.IsTuple l items) (hx : items[i]? = some x) (hne : e ≠ it)
  (hQ : ∀ h' : Heap, IsEnumOut h' e it ((i : Int) + 1) x s.heap.objs.size -> h'.IsTupleIter it l (i + 1) -> h'.get? s.heap.objs.size = some { cls := Value.type "tuple", data := Data.seq #[Value.int (i : Int) s.toks, x] } -> h'.objs.size = s.heap.objs.size + 1 ->
   (∀ (b : Addr) (o : Obj), b ≠ e -> b ≠ it -> s.heap.get? b = some o -> h'.get? b = some o) -> Q (Value.ref s.heap.objs.size) { heap := h', gens := s.gens, drawn := s.drawn, toks := s.toks + 1, os := s.os }) :
  wpAny (model prog w) A (Builtin.«enumerate.__next__» { pos := [Value.ref e] }) (fun fin s' => ∃ v, fin = Fin.done (Flow.ret v) /\ Q v s') E s := by
 obtain ⟨hp, gs, dr, tk, os⟩ := s
 dsimp only at *
 refine wpAny_bind ?_
 rw [show slotArgs "__next__" 0 { pos := [Value.ref e] } = pure (Value.ref e, []) from rfl]
 refine wpAny_pure ?_
 refine wpAny_bind (wpAny_field he rfl rfl ?_)
 refine wpAny_bind (nextOf_tuple_item hit hl hx fun h1 hit1 sb1 => ?_)
 have he1 : IsEnum h1 e it (i : Int) old := (sb1.2 e hne).trans he
 refine wpAny_bind (wpAny_field he1 rfl rfl ?_)
 refine wpAny_bind (wpAny_field he1 rfl rfl ?_)
 rw [if_pos (by rfl)]
 refine wpAny_bind (wpAny_mkInt ?_)
 refine wpAny_bind (wpAny_setField_rec he1 (by simp) fun h2 he2 sb2 => ?_)
 have he2 : h2.get? e = some { cls := Value.type "enumerate", data := Data.fields #[Value.none, Value.bool false, Value.ref it, rawInt ((i : Int) + 1), Value.none, old] } := by simpa using he2
 refine wpAny_bind (wpAny_setField_rec he2 (by simp) fun h3 he3 sb3 => ?_)
 have he3 : h3.get? e = some { cls := Value.type "enumerate", data := Data.fields #[Value.none, Value.bool false, Value.ref it, rawInt ((i : Int) + 1), Value.none, old] } := by simpa using he3
 have z1 : h1.objs.size = hp.objs.size := sb1.1
 have z2 : h2.objs.size = h1.objs.size := sb2.1
 have z3 : h3.objs.size = h2.objs.size := sb3.1
 refine wpAny_bind (wpAny_newTuple ?_ (by rw [sizeLine_eq]; simp))
 dsimp only
 have he4 := Heap.get?_push_of_some { cls := Value.type "tuple", data := Data.seq [Value.int (↑i) tk, x].toArray } he3
 have t4 : (h3.push { cls := Value.type "tuple", data := Data.seq [Value.int (↑i) tk, x].toArray }).get? h3.objs.size = some { cls := Value.type "tuple", data := Data.seq [Value.int (↑i) tk, x].toArray } := Heap.get?_push_size _ rfl
 have z4 : (h3.push { cls := Value.type "tuple", data := Data.seq [Value.int (↑i) tk, x].toArray }).objs.size = h3.objs.size + 1 := Heap.size_push _ _
 have k4 : ∀ (b : Addr) (o : Obj), h3.get? b = some o -> (h3.push { cls := Value.type "tuple", data := Data.seq [Value.int (↑i) tk, x].toArray }).get? b = some o := fun b o h => Heap.get?_push_of_some _ h
 generalize h3.push { cls := Value.type "tuple", data := Data.seq [Value.int (↑i) tk, x].toArray } = h4 at *
 refine wpAny_bind ?_
 refine wpAny_bind (wpAny_field he4 rfl rfl ?_)
 refine wpAny_pure ?_
 refine wpAny_bind (wpAny_rule (wpAny_bind (wpAny_field he4 rfl rfl ?_)))
 refine wpAny_bind (wpAny_setField_rec he4 (by simp) fun h5 he5 sb5 => ?_)
 have he5 : h5.get? e = some { cls := Value.type "enumerate", data := Data.fields #[Value.none, Value.bool false, Value.ref it, rawInt ((i : Int) + 1), Value.none, x] } := by simpa using he5
 refine wpAny_bind ?_
 refine wpAny_bind (wpAny_setField_rec he5 (by simp) fun h6 he6 sb6 => ?_)
 have he6 : h6.get? e = some { cls := Value.type "enumerate", data := Data.fields #[rawInt (h3.objs.size : Int), Value.bool false, Value.ref it, rawInt ((i : Int) + 1), Value.none, x] } := by simpa using he6
 refine wpAny_setField_rec he6 (by simp) fun h7 he7 sb7 => ?_
 have he7 : h7.get? e = some { cls := Value.type "enumerate", data := Data.fields #[rawInt (h3.objs.size : Int), Value.bool false, Value.ref it, rawInt ((i : Int) + 1), Value.none, x] } := by simpa using he7
 refine wpAny_bind (wpAny_letGo ?_)
 have hs : h3.objs.size = hp.objs.size := by omega
 have lt : ∀ {h : Heap} {b : Addr} {o : Obj}, h.get? b = some o -> b < h.objs.size := fun h => Heap.lt_size h
 have hep : e ≠ h3.objs.size := Nat.ne_of_lt (lt he3)
 have back : ∀ b : Addr, b ≠ e -> h7.get? b = h4.get? b := fun b hb => (sb7.2 b hb).trans ((sb6.2 b hb).trans (sb5.2 b hb))
 have z7 : h7.objs.size = h4.objs.size := sb7.1.trans (sb6.1.trans sb5.1)
 refine wpAny_pure ⟨_, rfl, ?_⟩
 rw [hs] at he7 t4 hep ⊢
 refine hQ h7 he7 ?_ ?_ (by omega) fun b o hb hb' hg => ?_
 ·obtain ⟨o, ho, hr⟩ := id hit1
  refine ⟨o, ?_, hr⟩
  rw [back it (fun q => hne q.symm)]
  exact k4 it o ((sb3.2 it (fun q => hne q.symm)).trans ((sb2.2 it (fun q => hne q.symm)).trans ho))
 ·rw [back _ (fun q => hep q.symm)]
  exact t4
 ·rw [back b hb]
  exact k4 b o ((sb3.2 b hb).trans ((sb2.2 b hb).trans ((sb1.2 b hb').trans hg)))
end L2
namespace L2
open PySem PySem.Spec PyProof.Rows
theorem pyNext_enum_tup {prog : Program} {w : World} {A : Around} {E : Value -> Shared -> Prop} {s : Shared} {e it l : Addr} {i : Nat} {items : Array Value} {x old : Value} {Q : Option Value -> Shared -> Prop} (he : IsEnum s.heap e it (i : Int) old) (hit : s.heap.IsTupleIter it l i) (hl : s.heap.IsTuple l items) (hx : items[i]? = some x) (hne : e ≠ it)
  (hQ : ∀ h' : Heap, IsEnumOut h' e it ((i : Int) + 1) x s.heap.objs.size -> h'.IsTupleIter it l (i + 1) -> h'.get? s.heap.objs.size = some { cls := Value.type "tuple", data := Data.seq #[Value.int (i : Int) s.toks, x] } -> h'.objs.size = s.heap.objs.size + 1 ->
   (∀ (b : Addr) (o : Obj), b ≠ e -> b ≠ it -> s.heap.get? b = some o -> h'.get? b = some o) -> Q (some (Value.ref s.heap.objs.size)) { heap := h', gens := s.gens, drawn := s.drawn, toks := s.toks + 1, os := s.os }) :
  wpAny (model prog w) A (pyNext (.ref e)) Q E s := by
 have ty : Shared.TypeIs s (.ref e) "enumerate" := ⟨_, he, rfl⟩
 refine wpAny_bind (wpAny_attempt (wpAny_callSpecial?_slot ty F.slot_enumerate_next (wpAny_call_entry F.slot_enumerate_next ty F.entry_enumerate_next (enum_next_tup he hit hl hx hne fun h' a b c d f => ?_) (F.args_enumerate_next_1 _))))
 exact wpAny_pure (hQ h' a b c d f)
theorem pyNext_enum_tup_end {prog : Program} {w : World} {A : Around} {E : Value -> Shared -> Prop} {s : Shared} {e it l : Addr} {i : Nat} {items : Array Value} {old : Value} {Q : Option Value -> Shared -> Prop} (hh : A.handled = none) (he : IsEnum s.heap e it (i : Int) old) (hit : s.heap.IsTupleIter it l i) (hl : s.heap.IsTuple l items) (hx : items[i]? = none)
  (hQ : ∀ h' : Heap, Heap.ExtBut it s.heap h' -> Q none { s with heap := h' }) : wpAny (model prog w) A (pyNext (.ref e)) Q E s := by
 have ty : Shared.TypeIs s (.ref e) "enumerate" := ⟨_, he, rfl⟩
 refine wpAny_bind (wpAny_attempt (wpAny_callSpecial?_slot ty F.slot_enumerate_next (wpAny_call_entry F.slot_enumerate_next ty F.entry_enumerate_next ?_ (F.args_enumerate_next_1 _))))
 refine wpAny_bind ?_
 rw [show slotArgs "__next__" 0 { pos := [Value.ref e] } = pure (Value.ref e, []) from rfl]
 refine wpAny_pure ?_
 refine wpAny_bind (wpAny_field he rfl rfl ?_)
 refine wpAny_bind (nextOf_tuple_end (by exact hh) hit hl hx fun h' e' ext ⟨o, ho, hc⟩ => ?_)
 refine wpAny_bind (wpAny_isInstance (T := "StopIteration") (b := true) ⟨o, ho, hc⟩ isSubtype_stop ?_)
 exact wpAny_pure (hQ h' ext)
end L2
namespace L2
open PySem PySem.Spec PyProof.Rows
set_option tactic.hygienic true in
theorem meets_enum_newT (l : Addr) (items : Array Value) : Meets (Builtin.«enumerate.__new__» { pos := [Value.type "enumerate", Value.ref l] }) fun x R s =>
  s.heap.IsTuple l items /\ R (Except.ok (Flow.ret (Value.ref (s.heap.push { cls := Value.type "tuple_iterator", data := Data.fields #[Value.ref l, Value.int 0 0] }).objs.size)))
   { heap := (s.heap.push { cls := Value.type "tuple_iterator", data := Data.fields #[Value.ref l, Value.int 0 0] }).push { cls := Value.type "enumerate", data := Data.fields #[Value.none, Value.bool false, Value.ref s.heap.objs.size, rawInt 0, Value.none, Value.none] }, gens := s.gens, drawn := s.drawn, toks := s.toks, os := s.os } :=
 Meets.of_wp fun prog w A R s h => by
  obtain ⟨hp, g, d, tk, os⟩ := s
  obtain ⟨hl, h⟩ := h
  have hsub := sub_enumerate
  refine wpAny_bind ?_
  refine wpAny_bind ?_
  refine wpAny_pure ?_
  refine wpAny_ite_false rfl ?_
  refine wpAny_bind (wpAny_of_eq hsub ?_)
  refine wpAny_ite_false rfl ?_
  refine wpAny_pure ?_
  refine wpAny_ite_true rfl ?_
  refine wpAny_bind ?_
  refine wpAny_bind (wpAny_stack_any fun st => ?_)
  refine wpAny_pure ?_
  have fin : wpAny (model prog w) A.in1 (pyIter (Value.ref l) >>= fun it => Builtin.SmallTypes.newRecord (Value.type "enumerate") (Builtin.SmallTypes.ownedTupleFields ++ [it, rawInt 0, Value.none, Value.none]) >>= fun v => ret v)
    (fun fin s' => ∃ v, fin = Fin.done (Flow.ret v) /\ R (Except.ok (Flow.ret v)) s') (fun e s' => R (Except.error e) s') { heap := hp, gens := g, drawn := d, toks := tk, os := os } :=
   by
   refine wpAny_bind (wpAny_pyIter_tuple hl ?_)
   refine wpAny_bind ?_
   refine wpAny_newObj_type (T := "enumerate") (data := Data.fields #[Value.none, Value.bool false, Value.ref hp.objs.size, rawInt 0, Value.none, Value.none]) (dict := none) ?_
   exact wpAny_pure ⟨_, rfl, h⟩
  split
  ·rename_i c _ _ _ _ _
   generalize (c == Value.type "enumerate") = b
   cases b with
   | true => exact wpAny_ite_true rfl (wpAny_bind (wpAny_of_eq rfl fin))
   | false => exact wpAny_ite_false rfl (wpAny_bind (wpAny_of_eq rfl fin))
  ·exact wpAny_ite_false rfl (wpAny_bind (wpAny_of_eq rfl fin))
end L2
namespace L2
open PySem PySem.Spec PyProof.Rows
theorem call_enumerate_tup {prog : Program} {w : World} {A : Around} {E : Value -> Shared -> Prop} {s : Shared} {l : Addr} {items : Array Value} {Q : Value -> Shared -> Prop} (hl : s.heap.IsTuple l items)
  (h : ∀ h' : Heap, IsEnum h' (s.heap.objs.size + 1) s.heap.objs.size 0 Value.none -> h'.IsTupleIter s.heap.objs.size l 0 -> h'.objs.size = s.heap.objs.size + 2 -> (∀ (b : Addr) (o : Obj), s.heap.get? b = some o -> h'.get? b = some o) -> Q (Value.ref (s.heap.objs.size + 1)) { s with heap := h' }) :
  wpAny (model prog w) A (call (Value.type "enumerate") [Value.ref l]) Q E s := by
 have hz := Heap.size_push s.heap { cls := Value.type "tuple_iterator", data := Data.fields #[Value.ref l, Value.int 0 0] }
 refine callType_new F.called_enumerate (by decide) (F.typeCall_enumerate_1 (Value.ref l)) (F.newCall_enumerate_1 (Value.ref l)) (fun obj => F.args_object_init_2 obj (Value.ref l)) F.entry_enumerate_new (meets_enum_newT l items) ⟨hl, ?_⟩
 have he := Heap.get?_push_size (s.heap.push { cls := Value.type "tuple_iterator", data := Data.fields #[Value.ref l, Value.int 0 0] }) (o := { cls := Value.type "enumerate", data := Data.fields #[Value.none, Value.bool false, Value.ref s.heap.objs.size, rawInt 0, Value.none, Value.none] }) rfl
 have hi := Heap.get?_push_of_some { cls := Value.type "enumerate", data := Data.fields #[Value.none, Value.bool false, Value.ref s.heap.objs.size, rawInt 0, Value.none, Value.none] } (Heap.get?_push_size s.heap (o := { cls := Value.type "tuple_iterator", data := Data.fields #[Value.ref l, Value.int 0 0] }) rfl)
 have hz2 := Heap.size_push (s.heap.push { cls := Value.type "tuple_iterator", data := Data.fields #[Value.ref l, Value.int 0 0] }) { cls := Value.type "enumerate", data := Data.fields #[Value.none, Value.bool false, Value.ref s.heap.objs.size, rawInt 0, Value.none, Value.none] }
 show Shared.TypeIs _ _ "enumerate" /\ _
 rw [hz] at he ⊢
 exact ⟨⟨_, he, rfl⟩, h _ he ⟨_, hi, rfl, rfl⟩ (by rw [hz2, hz]) fun b o hb => Heap.get?_push_of_some _ (Heap.get?_push_of_some _ hb)⟩
end L2
namespace L2
open PySem PySem.Spec PyProof.Rows
noncomputable def Ite (K : PySem.W.Frag) (l : Addr) : It :=
 ⟨fun i H => ∃ xs x, SqL K H l xs /\ xs[i]? = some x, fun i H x H' => ∃ p y, H p = none /\ x = .ref p /\ H' = upd H p (.tup [.int i, y]) /\ ∀ xs, SqL K H l xs -> xs[i]? = some y, fun i H => ∃ xs, SqL K H l xs /\ xs.length <= i⟩
theorem turn_enum {P : Program} {w : World} {K : PySem.W.Frag} {elts : List Expr} {kk : Nat} {pos : Pos} (l e it : Addr) (hne : e ≠ it) :
  Turn P w K (.Tuple elts kk pos) (Ite K l) [e, it] e (fun i h => (∃ old, IsEnum h e it i old) /\ h.IsListIter it l i) where
 mem := by simp
 obj := fun i h st b hb => by
  obtain ⟨⟨old, he⟩, hit⟩ := st
  have hb' : b = e \/ b = it := by simpa using hb
  rcases hb' with rfl | rfl
  ·exact ⟨_, he, fun v z => by cases z⟩
  ·obtain ⟨o, q, c, d⟩ := hit
   exact ⟨o, q, fun v z => by rw [d] at z; cases z⟩
 keep := fun i h h' st k => by
  obtain ⟨⟨old, he⟩, hit⟩ := st
  exact ⟨⟨old, k e (by simp) _ he⟩, hit.at fun o q => k it (by simp) o q⟩
 item := by
  intro X hP hw hK hc i pins s σ H E I hf st hg
  subst hP hw hK
  obtain ⟨⟨old, he⟩, hit⟩ := st
  obtain ⟨xs, x, hq, hx⟩ := hg
  obtain ⟨its, rv, p, hz⟩ := I.list hq
  obtain ⟨u, hu, ru⟩ := rv.get hx
  have f1 := hf e (by simp)
  have f2 := hf it (by simp)
  have hT : H s.heap.objs.size = none := I.hok.fresh (Nat.le_refl _)
  refine wpAny_pyNext_enum_item he hit p.isList (x := u) (by simpa using hu) hne fun h' ho hit' hTp hsz hk => ⟨_, rfl, ?_⟩
  refine wpAny_letOwnedTupleGo_enum ho fun h2 he2 hs2 => ?_
  have kept : ∀ b o, b ∉ [e, it] -> s.heap.get? b = some o -> h2.get? b = some o := fun b o hb q => (hs2.2 b fun z => hb (by simp [z])).trans (hk b o (fun z => hb (by simp [z])) (fun z => hb (by simp [z])) q)
  have nT : ∀ b o, s.heap.get? b = some o -> b ≠ s.heap.objs.size := fun b o q => Nat.ne_of_lt (Heap.lt_size q)
  have htr : ∀ b o, H b = some o -> b ∉ [e, it] := fun b o q hb => by
   have hb' : b = e \/ b = it := by simpa using hb
   rcases hb' with rfl | rfl
   ·rw [f1.1] at q; cases q
   ·rw [f2.1] at q; cases q
  have eT : h2.get? s.heap.objs.size = some { cls := .type "tuple", data := .seq #[.int i s.toks, u] } := (hs2.2 _ (Nat.ne_of_gt (Heap.lt_size he))).trans hTp
  have hok : HOk X.prog X.w (upd H s.heap.objs.size (.tup [.int i, x])) h2 := fun b o q => by
   by_cases hb : b = s.heap.objs.size
   ·subst hb
    rw [upd_same] at q
    cases q
    exact ⟨by show 2 <= sizeLine; decide, [.int i s.toks, u], .cons ⟨_, rfl⟩ (.cons ru .nil), ⟨_, eT, rfl, _, rfl⟩⟩
   ·rw [upd_ne hb] at q
    refine (I.hok b o q).stay (fun c v hcv r => kept c v ?_ r) (fun c r => by rw [upd_ne (ne_of_none r hT)]; exact r) fun c ys r => by rw [upd_ne (ne_of_none r hT)]; exact r
    rcases hcv with rfl | hcv
    ·exact htr _ _ q
    ·exact htr _ _ hcv
  refine ⟨.ref s.heap.objs.size, upd H s.heap.objs.size (.tup [.int i, x]), ?_, rfl, ⟨_, x, hT, rfl, rfl, fun ys hy => by rw [I.list_inj hy hq]; exact hx⟩, ⟨⟨u, by simpa using he2⟩, hit'.at fun o q => (hs2.2 it hne.symm).trans q⟩, fun b hb => ?_⟩
  ·refine Inv.step (s := s) (H := H) (h' := h2) (g' := s.gens) (d' := s.drawn) (t' := s.toks + 1) (ch := [e, it]) I (fun b hb => ?_) (fun b o _ _ hb q _ => kept b o hb q) (fun b o _ _ hb q _ => ⟨o.slots, kept b o hb q⟩) (fun b o _ q n => by rw [upd_ne (nT b o q)]; exact n) (fun b o hb q => ⟨o, kept b o hb q⟩)
    (fun b ys q => by rw [upd_ne (ne_of_none q hT)]; exact q) (fun b o v q => by rw [upd_ne (ne_of_none q hT)]; exact q) (fun b ps q => ⟨#[], by rw [upd_ne (ne_of_none q hT), q]; simp⟩) (fun m hm => ?_) hok I.bare
   ·have hb' : b = e \/ b = it := by simpa using hb
    rcases hb' with rfl | rfl
    ·exact ⟨f1.2.2.2.1, f1.2.1, f1.2.2.2.2.1, f1.2.2.2.2.2⟩
    ·exact ⟨f2.2.2.2.1, f2.2.1, f2.2.2.2.2.1, f2.2.2.2.2.2⟩
   ·obtain ⟨o, es, ep, q, r⟩ := hm
    exact ⟨o, es, ep, kept _ o (fun hb => by
     have hb' : X.env.locals = e \/ X.env.locals = it := by simpa using hb
     rcases hb' with z | z
     ·exact f1.2.1 z.symm
     ·exact f2.2.1 z.symm) q, r⟩
  ·have hb' : b = e \/ b = it := by simpa using hb
   rcases hb' with rfl | rfl
   ·rw [upd_ne (nT _ _ he)]; exact f1.1
   ·obtain ⟨o, q, _⟩ := hit
    rw [upd_ne (nT _ _ q)]; exact f2.1
 done := by
  intro X hP hw hK hc i pins s σ H E I hf st hg
  subst hP hw hK
  obtain ⟨⟨old, he⟩, hit⟩ := st
  obtain ⟨xs, hq, hx⟩ := hg
  obtain ⟨its, rv, p, hz⟩ := I.list hq
  obtain ⟨f0, f1, f2, f3, f4, f5⟩ := hf it (by simp)
  have hl := rv.length
  exact wpAny_pyNext_enum_end (I.ok.hd hc) he hit p.isList (by simp; omega) fun h' eb => ⟨rfl, I.turned (t' := s.toks) (fun b o hb q => eb b o hb q) f0 f1 f3 f4 f5⟩
 self := fun A i s Q E st h => by
  obtain ⟨⟨old, he⟩, _⟩ := st
  exact wpAny_pyIter_enum he h
section
variable {X : Cx} {elts : List Expr} {kk : Nat} {tp : Pos}
noncomputable def iEnum (K : PySem.W.Frag) (ta : TA) : TI := fun σ H R => ta σ H fun vs H1 => ∃ a, vs = [.ref a] /\ (∃ xs, SqL K H1 a xs) /\ R (Ite K a) H1
theorem pi_enum {a : Expr} {ta : TA} {p pos : Pos} (hg : Gl X "enumerate") (hm : X.mg "enumerate" = none) (hv : bootBuiltins "enumerate" = some (.type "enumerate")) (ha : PA X [a] ta) (hs : starEach [a] X.env = [(false, eval a X.env)] := by rfl) : PI X (.Tuple elts kk tp) (.Call (.Name "enumerate" p) [a] [] pos) (iEnum X.K ta) := by
 intro pins s σ H R I h
 refine Call_ (ld_blt I hg hm hv (PyProof.Rows.callWith_type1 (thn (ha pos pins s σ H _ I h) fun us s1 ⟨vs, H1, I1, r1, q1⟩ => ?_) hs rfl))
 obtain ⟨l, e, ⟨xs, hq⟩, q⟩ := q1
 subst e
 obtain ⟨u, rfl, ru⟩ := r1.one
 cases (show u = Value.ref l from ru)
 obtain ⟨its, rv, pl, hz⟩ := I1.list hq
 refine call_enumerate_list pl.isList fun h' he hit hsz hk => ?_
 have I2 : Inv X pins σ H1 { s1 with heap := h' } := I1.kept (t' := s1.toks) hk
 refine wpAny_pyIter_enum he ?_
 refine ⟨_, [s1.heap.objs.size + 1, s1.heap.objs.size], _, _, H1, rfl, I2, turn_enum l _ _ (Nat.succ_ne_self _), ⟨⟨_, he⟩, hit⟩, fun b hb => ?_, q⟩
 have hb' : b = s1.heap.objs.size + 1 \/ b = s1.heap.objs.size := by simpa using hb
 rcases hb' with rfl | rfl
 ·exact I1.fpOk (by omega) (I1.hok.fresh (by omega))
 ·exact I1.fpOk (Nat.le_refl _) (I1.hok.fresh (Nat.le_refl _))
end
noncomputable def Itet (K : PySem.W.Frag) (l : Addr) : It :=
 ⟨fun i H => ∃ xs x, SqT K H l xs /\ xs[i]? = some x, fun i H x H' => ∃ p y, H p = none /\ x = .ref p /\ H' = upd H p (.tup [.int i, y]) /\ ∀ xs, SqT K H l xs -> xs[i]? = some y, fun i H => ∃ xs, SqT K H l xs /\ xs.length <= i⟩
theorem turn_enumT {P : Program} {w : World} {K : PySem.W.Frag} {elts : List Expr} {kk : Nat} {pos : Pos} (l e it : Addr) (hne : e ≠ it) :
  Turn P w K (.Tuple elts kk pos) (Itet K l) [e, it] e (fun i h => (∃ old, IsEnum h e it i old) /\ h.IsTupleIter it l i) where
 mem := by simp
 obj := fun i h st b hb => by
  obtain ⟨⟨old, he⟩, hit⟩ := st
  have hb' : b = e \/ b = it := by simpa using hb
  rcases hb' with rfl | rfl
  ·exact ⟨_, he, fun v z => by cases z⟩
  ·obtain ⟨o, q, c, d⟩ := hit
   exact ⟨o, q, fun v z => by rw [d] at z; cases z⟩
 keep := fun i h h' st k => by
  obtain ⟨⟨old, he⟩, hit⟩ := st
  exact ⟨⟨old, k e (by simp) _ he⟩, hit.at fun o q => k it (by simp) o q⟩
 item := by
  intro X hP hw hK hc i pins s σ H E I hf st hg
  subst hP hw hK
  obtain ⟨⟨old, he⟩, hit⟩ := st
  obtain ⟨xs, x, hq, hx⟩ := hg
  obtain ⟨its, rv, p, hz⟩ := I.tuple hq
  obtain ⟨u, hu, ru⟩ := rv.get hx
  have f1 := hf e (by simp)
  have f2 := hf it (by simp)
  have hT : H s.heap.objs.size = none := I.hok.fresh (Nat.le_refl _)
  refine pyNext_enum_tup he hit (show s.heap.IsTuple l its.toArray from p) (x := u) (by simpa using hu) hne fun h' ho hit' hTp hsz hk => ⟨_, rfl, ?_⟩
  refine wpAny_letOwnedTupleGo_enum ho fun h2 he2 hs2 => ?_
  have kept : ∀ b o, b ∉ [e, it] -> s.heap.get? b = some o -> h2.get? b = some o := fun b o hb q => (hs2.2 b fun z => hb (by simp [z])).trans (hk b o (fun z => hb (by simp [z])) (fun z => hb (by simp [z])) q)
  have nT : ∀ b o, s.heap.get? b = some o -> b ≠ s.heap.objs.size := fun b o q => Nat.ne_of_lt (Heap.lt_size q)
  have htr : ∀ b o, H b = some o -> b ∉ [e, it] := fun b o q hb => by
   have hb' : b = e \/ b = it := by simpa using hb
   rcases hb' with rfl | rfl
   ·rw [f1.1] at q; cases q
   ·rw [f2.1] at q; cases q
  have eT : h2.get? s.heap.objs.size = some { cls := .type "tuple", data := .seq #[.int i s.toks, u] } := (hs2.2 _ (Nat.ne_of_gt (Heap.lt_size he))).trans hTp
  have hok : HOk X.prog X.w (upd H s.heap.objs.size (.tup [.int i, x])) h2 := fun b o q => by
   by_cases hb : b = s.heap.objs.size
   ·subst hb
    rw [upd_same] at q
    cases q
    exact ⟨by show 2 <= sizeLine; decide, [.int i s.toks, u], .cons ⟨_, rfl⟩ (.cons ru .nil), ⟨_, eT, rfl, _, rfl⟩⟩
   ·rw [upd_ne hb] at q
    refine (I.hok b o q).stay (fun c v hcv r => kept c v ?_ r) (fun c r => by rw [upd_ne (ne_of_none r hT)]; exact r) fun c ys r => by rw [upd_ne (ne_of_none r hT)]; exact r
    rcases hcv with rfl | hcv
    ·exact htr _ _ q
    ·exact htr _ _ hcv
  refine ⟨.ref s.heap.objs.size, upd H s.heap.objs.size (.tup [.int i, x]), ?_, rfl, ⟨_, x, hT, rfl, rfl, fun ys hy => by rw [I.tuple_inj hy hq]; exact hx⟩, ⟨⟨u, by simpa using he2⟩, hit'.at fun o q => (hs2.2 it hne.symm).trans q⟩, fun b hb => ?_⟩
  ·refine Inv.step (s := s) (H := H) (h' := h2) (g' := s.gens) (d' := s.drawn) (t' := s.toks + 1) (ch := [e, it]) I (fun b hb => ?_) (fun b o _ _ hb q _ => kept b o hb q) (fun b o _ _ hb q _ => ⟨o.slots, kept b o hb q⟩) (fun b o _ q n => by rw [upd_ne (nT b o q)]; exact n) (fun b o hb q => ⟨o, kept b o hb q⟩)
    (fun b ys q => by rw [upd_ne (ne_of_none q hT)]; exact q) (fun b o v q => by rw [upd_ne (ne_of_none q hT)]; exact q) (fun b ps q => ⟨#[], by rw [upd_ne (ne_of_none q hT), q]; simp⟩) (fun m hm => ?_) hok I.bare
   ·have hb' : b = e \/ b = it := by simpa using hb
    rcases hb' with rfl | rfl
    ·exact ⟨f1.2.2.2.1, f1.2.1, f1.2.2.2.2.1, f1.2.2.2.2.2⟩
    ·exact ⟨f2.2.2.2.1, f2.2.1, f2.2.2.2.2.1, f2.2.2.2.2.2⟩
   ·obtain ⟨o, es, ep, q, r⟩ := hm
    exact ⟨o, es, ep, kept _ o (fun hb => by
     have hb' : X.env.locals = e \/ X.env.locals = it := by simpa using hb
     rcases hb' with z | z
     ·exact f1.2.1 z.symm
     ·exact f2.2.1 z.symm) q, r⟩
  ·have hb' : b = e \/ b = it := by simpa using hb
   rcases hb' with rfl | rfl
   ·rw [upd_ne (nT _ _ he)]; exact f1.1
   ·obtain ⟨o, q, _⟩ := hit
    rw [upd_ne (nT _ _ q)]; exact f2.1
 done := by
  intro X hP hw hK hc i pins s σ H E I hf st hg
  subst hP hw hK
  obtain ⟨⟨old, he⟩, hit⟩ := st
  obtain ⟨xs, hq, hx⟩ := hg
  obtain ⟨its, rv, p, hz⟩ := I.tuple hq
  obtain ⟨f0, f1, f2, f3, f4, f5⟩ := hf it (by simp)
  have hl := rv.length
  exact pyNext_enum_tup_end (I.ok.hd hc) he hit (show s.heap.IsTuple l its.toArray from p) (by simp; omega) fun h' eb => ⟨rfl, I.turned (t' := s.toks) (fun b o hb q => eb b o hb q) f0 f1 f3 f4 f5⟩
 self := fun A i s Q E st h => by
  obtain ⟨⟨old, he⟩, _⟩ := st
  exact wpAny_pyIter_enum he h
section
variable {X : Cx} {elts : List Expr} {kk : Nat} {tp : Pos}
noncomputable def iEnumT (K : PySem.W.Frag) (ta : TA) : TI := fun σ H R => ta σ H fun vs H1 => ∃ a, vs = [.ref a] /\ (∃ xs, SqT K H1 a xs) /\ R (Itet K a) H1
theorem pi_enumT {a : Expr} {ta : TA} {p pos : Pos} (hg : Gl X "enumerate") (hm : X.mg "enumerate" = none) (hv : bootBuiltins "enumerate" = some (.type "enumerate")) (ha : PA X [a] ta) (hs : starEach [a] X.env = [(false, eval a X.env)] := by rfl) : PI X (.Tuple elts kk tp) (.Call (.Name "enumerate" p) [a] [] pos) (iEnumT X.K ta) := by
 intro pins s σ H R I h
 refine Call_ (ld_blt I hg hm hv (PyProof.Rows.callWith_type1 (thn (ha pos pins s σ H _ I h) fun us s1 ⟨vs, H1, I1, r1, q1⟩ => ?_) hs rfl))
 obtain ⟨l, e, ⟨xs, hq⟩, q⟩ := q1
 subst e
 obtain ⟨u, rfl, ru⟩ := r1.one
 cases (show u = Value.ref l from ru)
 obtain ⟨its, rv, pl, hz⟩ := I1.tuple hq
 refine call_enumerate_tup (show s1.heap.IsTuple l its.toArray from pl) fun h' he hit hsz hk => ?_
 have I2 : Inv X pins σ H1 { s1 with heap := h' } := I1.kept (t' := s1.toks) hk
 refine wpAny_pyIter_enum he ?_
 refine ⟨_, [s1.heap.objs.size + 1, s1.heap.objs.size], _, _, H1, rfl, I2, turn_enumT l _ _ (Nat.succ_ne_self _), ⟨⟨_, he⟩, hit⟩, fun b hb => ?_, q⟩
 have hb' : b = s1.heap.objs.size + 1 \/ b = s1.heap.objs.size := by simpa using hb
 rcases hb' with rfl | rfl
 ·exact I1.fpOk (by omega) (I1.hok.fresh (by omega))
 ·exact I1.fpOk (Nat.le_refl _) (I1.hok.fresh (Nat.le_refl _))
end
end L2
namespace L2
open PySem PySem.Spec PyProof.Rows
section
variable {κ : Type} [DecidableEq κ]
noncomputable def valV (kvs : List (κ × V)) (k : κ) : Option V := (kvs.find? fun kv => decide (kv.1 = k)).map (·.2)
noncomputable def putK (kvs : List (κ × V)) (k : κ) (v : V) : List (κ × V) :=
 if (kvs.any fun kv => decide (kv.1 = k)) = true then kvs.map (fun kv => if kv.1 = k then (kv.1, v) else kv) else kvs ++ [(k, v)]
theorem valV_pos {p : κ × V} {r : List (κ × V)} {k : κ} (e : p.1 = k) : valV (p :: r) k = some p.2 := by simp [valV, List.find?_cons, e]
theorem valV_neg {p : κ × V} {r : List (κ × V)} {k : κ} (e : ¬ p.1 = k) : valV (p :: r) k = valV r k := by simp [valV, List.find?_cons, e]
theorem valV_any (k : κ) : ∀ kvs : List (κ × V), (kvs.any fun kv => decide (kv.1 = k)) = (valV kvs k).isSome
 | [] => rfl
 | p :: r => by
  rw [List.any_cons]
  by_cases e : p.1 = k
  ·simp only [valV_pos e, decide_eq_true e, Bool.true_or, Option.isSome_some]
  ·rw [valV_neg e, decide_eq_false e, Bool.false_or]; exact valV_any k r
theorem length_putK (kvs : List (κ × V)) (k : κ) (v : V) : (putK kvs k v).length <= kvs.length + 1 := by
 unfold putK
 split
 ·rw [List.length_map]; omega
 ·rw [List.length_append, List.length_cons, List.length_nil]; omega
theorem RelO.isSome_eq {o : Option V} {u : Option Value} (r : RelO o u) : o.isSome = u.isSome := by
 cases o with
 | none => cases u with
  | none => rfl
  | some _ => exact (show False from r).elim
 | some _ => cases u with
  | none => exact (show False from r).elim
  | some _ => rfl
theorem RelO.getD {o : Option V} {u : Option Value} {d : V} {d' : Value} (r : RelO o u) (rd : RelV d d') : RelV (o.getD d) (u.getD d') := by
 cases o with
 | none => cases u with
  | none => exact rd
  | some _ => exact (show False from r).elim
 | some _ => cases u with
  | none => exact (show False from r).elim
  | some _ => exact r
theorem KV.val {kvs : List (κ × V)} {vs : List (κ × Value)} (r : KV kvs vs) (k : κ) : RelO (valV kvs k) (valueAt vs k) := by
 unfold KV at r
 induction r with
 | nil => exact True.intro
 | @cons p q ps qs h t ih =>
  obtain ⟨h1, h2⟩ := h
  by_cases e : p.1 = k
  ·have e' : q.1 = k := h1.symm.trans e
   have b : valueAt (q :: qs) k = some q.2 := by simp [valueAt, List.find?_cons, e']
   rw [valV_pos e, b]; exact h2
  ·have e' : ¬ q.1 = k := fun z => e (h1.trans z)
   have b : valueAt (q :: qs) k = valueAt qs k := by simp [valueAt, List.find?_cons, e']
   rw [valV_neg e, b]; exact ih
theorem KV.any {kvs : List (κ × V)} {vs : List (κ × Value)} (r : KV kvs vs) (k : κ) : (kvs.any fun kv => decide (kv.1 = k)) = vs.any fun kv => decide (kv.1 = k) := by
 unfold KV at r
 induction r with
 | nil => rfl
 | cons h t ih => rw [List.any_cons, List.any_cons, ih, h.1]
theorem KV.repl {kvs : List (κ × V)} {vs : List (κ × Value)} (r : KV kvs vs) (k : κ) {y : V} {u : Value} (ry : RelV y u) :
  KV (kvs.map fun kv => if kv.1 = k then (kv.1, y) else kv) (vs.map fun kv => if kv.1 = k then (kv.1, u) else kv) := by
 unfold KV at r ⊢
 induction r with
 | nil => exact .nil
 | @cons p q ps qs h t ih =>
  rw [List.map_cons, List.map_cons]
  refine .cons ?_ ih
  obtain ⟨h1, h2⟩ := h
  by_cases e : p.1 = k
  ·rw [if_pos e, if_pos (h1.symm.trans e)]; exact ⟨h1, ry⟩
  ·rw [if_neg e, if_neg (fun z => e (h1.trans z))]; exact ⟨h1, h2⟩
theorem KV.put {kvs : List (κ × V)} {vs : List (κ × Value)} (r : KV kvs vs) (k : κ) {y : V} {u : Value} (ry : RelV y u) : KV (putK kvs k y) (stored vs k u) := by
 unfold putK stored
 rw [r.any k]
 by_cases e : (vs.any fun kv => decide (kv.1 = k)) = true
 ·rw [if_pos e, if_pos e]; exact r.repl k ry
 ·rw [if_neg e, if_neg e]; exact Paired.snoc r ⟨rfl, ry⟩
theorem KV.length {kvs : List (κ × V)} {vs : List (κ × Value)} (r : KV kvs vs) : kvs.length = vs.length := Paired.length r
end
theorem kV_is {P : Program} {w : World} {k : Key} {u : Value} (r : RelV (kV k) u) : (mixKind P w).is k u = true := by
 cases k with
 | inl i => obtain ⟨t, e⟩ := (show ∃ t, u = Value.int i t from r); subst e; exact mixKind_int P w i t
 | inr x => obtain ⟨t, e⟩ := (show ∃ t, u = Value.str x t from r); subst e; exact mixKind_str P w x t
theorem items_are {P : Program} {w : World} : ∀ {ks : List Key} {us : List Value}, Vals (ks.map kV) us -> ItemsAre (mixKind P w) ks us
 | [], _, r => by rw [List.map_nil] at r; cases r; exact .nil
 | k :: ks, _, r => by
  rw [List.map_cons] at r
  cases r with
  | cons h t => exact .cons (kV_is h) (items_are t)
noncomputable abbrev KT (H : Hp) : List (List Key × V) -> List (List Key × Addr × Value) -> Prop := Paired fun p q => p.1 = q.1 /\ H q.2.1 = some (.tup (p.1.map kV)) /\ RelV p.2 q.2.2
theorem KT.val {H : Hp} {kvs : List (List Key × V)} {xs : List (List Key × Addr × Value)} (r : KT H kvs xs) (k : List Key) : RelO (valV kvs k) ((atKey xs k).map (·.2)) := by
 induction r with
 | nil => exact True.intro
 | @cons p q ps qs h t ih =>
  obtain ⟨h1, _, h2⟩ := h
  by_cases e : p.1 = k
  ·have e' : q.1 = k := h1.symm.trans e
   have b : atKey (q :: qs) k = some q.2 := by simp [atKey, List.find?_cons, e']
   rw [valV_pos e, b]; exact h2
  ·have e' : ¬ q.1 = k := fun z => e (h1.trans z)
   have b : atKey (q :: qs) k = atKey qs k := by simp [atKey, List.find?_cons, e']
   rw [valV_neg e, b]; exact ih
theorem KT.repl {H : Hp} {kvs : List (List Key × V)} {xs : List (List Key × Addr × Value)} (r : KT H kvs xs) (k : List Key) {y : V} {u : Value} (ry : RelV y u) :
  KT H (kvs.map fun kv => if kv.1 = k then (kv.1, y) else kv) (xs.map (putAt k u)) := by
 induction r with
 | nil => exact .nil
 | @cons p q ps qs h t ih =>
  rw [List.map_cons, List.map_cons]
  refine .cons ?_ ih
  obtain ⟨h1, h2, h3⟩ := h
  unfold putAt
  by_cases e : p.1 = k
  ·rw [if_pos e, if_pos (h1.symm.trans e)]; exact ⟨h1, h2, ry⟩
  ·rw [if_neg e, if_neg (fun z => e (h1.trans z))]; exact ⟨h1, h2, h3⟩
theorem KT.put {H : Hp} {kvs : List (List Key × V)} {xs : List (List Key × Addr × Value)} (r : KT H kvs xs) (k : List Key) {b : Addr} {y : V} {u : Value} (hb : H b = some (.tup (k.map kV))) (ry : RelV y u) :
  KT H (putK kvs k y) (storedH xs k b u) := by
 have e : (kvs.any fun kv => decide (kv.1 = k)) = (atKey xs k).isSome := by
  rw [valV_any, (r.val k).isSome_eq, Option.isSome_map]
 unfold putK storedH
 rw [e]
 by_cases q : (atKey xs k).isSome = true
 ·rw [if_pos q, if_pos q]; exact r.repl k ry
 ·rw [if_neg q, if_neg q]; exact Paired.snoc r ⟨rfl, hb, ry⟩
theorem KT.keeps {H H' : Hp} {kvs : List (List Key × V)} {xs : List (List Key × Addr × Value)} (r : KT H kvs xs) (ht : ∀ b ys, H b = some (.tup ys) -> H' b = some (.tup ys)) : KT H' kvs xs :=
 Paired.mapP r fun _ _ z => ⟨z.1, ht _ _ z.2.1, z.2.2⟩
section
variable {P : Program} {w : World} {H : Hp} {h : Heap} {a : Addr}
theorem rd_of {u : HO} (ok : HOk P w H h) (e : Rd H a u) : ObjOk P w H h a u := e.ok ok
theorem dk_rd {kvs : List (Key × V)} (ok : HOk P w H h) (e : Rd H a (.dK kvs)) : kvs.length <= sizeLine /\ (a == sysModules) = false /\ ∃ vs, KV kvs vs /\ h.DictOf (mixKind P w) a vs :=
 show ObjOk P w H h a (.dK kvs) from rd_of ok e
theorem dk_of {kvs : List (Key × V)} (ok : HOk P w H h) (e : H a = some (.dK kvs)) : kvs.length <= sizeLine /\ (a == sysModules) = false /\ ∃ vs, KV kvs vs /\ h.DictOf (mixKind P w) a vs := dk_rd ok (.inl e)
theorem key_of {ks : List Key} (ok : HOk P w H h) (e : H a = some (.tup (ks.map kV))) : (tupleKind (mixKind P w)).is h ks a := by
 obtain ⟨_, its, r, o, h1, h2, n, h3⟩ := (show ObjOk P w H h a (.tup (ks.map kV)) from ok a _ e)
 exact ⟨o, its.toArray, n, h1, h2, h3, by simpa using items_are r⟩
theorem dt_rd {kvs : List (List Key × V)} (ok : HOk P w H h) (e : Rd H a (.dT kvs)) : kvs.length <= sizeLine /\ (a == sysModules) = false /\
  ∃ xs, KT H kvs xs /\ h.DictOfH (tupleKind (mixKind P w)) a xs := by
 obtain ⟨z, y, xs, r, o, es, ep, h1, h2, h3, h4, h5⟩ := (show ObjOk P w H h a (.dT kvs) from rd_of ok e)
 refine ⟨z, y, xs, r, o, es, ep, h1, h2, h3, h4, fun x hx => ?_, h5⟩
 have all : ∀ {l : List (List Key × V)} {m : List (List Key × Addr × Value)}, KT H l m -> ∀ x ∈ m, (tupleKind (mixKind P w)).is h x.1 x.2.1 := by
  intro l m q
  induction q with
  | nil => intro x hx; exact nomatch hx
  | @cons p q ps qs hq t ih =>
   intro x hx
   rcases List.mem_cons.mp hx with e | hx
   ·subst e
    exact key_of ok (by rw [<- hq.1]; exact hq.2.1)
   ·exact ih x hx
 exact all r x hx
theorem dt_of {kvs : List (List Key × V)} (ok : HOk P w H h) (e : H a = some (.dT kvs)) : kvs.length <= sizeLine /\ (a == sysModules) = false /\
  ∃ xs, KT H kvs xs /\ h.DictOfH (tupleKind (mixKind P w)) a xs := dt_rd ok (.inl e)
end
noncomputable def DGet (H : Hp) (a : Addr) (y : V) (r : Option V) : Prop :=
 (∃ kvs k, Rd H a (.dK kvs) /\ y = kV k /\ r = valV kvs k) \/ ∃ kvs k b, Rd H a (.dT kvs) /\ y = .ref b /\ H b = some (.tup (k.map kV)) /\ r = valV kvs k
noncomputable def DPut (H : Hp) (a : Addr) (y v : V) (H' : Hp) : Prop :=
 (∃ kvs k, H a = some (.dK kvs) /\ y = kV k /\ kvs.length < sizeLine /\ H' = upd H a (.dK (putK kvs k v))) \/
 ∃ kvs k b, H a = some (.dT kvs) /\ y = .ref b /\ H b = some (.tup (k.map kV)) /\ kvs.length < sizeLine /\ H' = upd H a (.dT (putK kvs k v))
theorem DGet.k {H : Hp} {a : Addr} {kvs : List (Key × V)} {k : Key} (e : H a = some (.dK kvs)) : DGet H a (kV k) (valV kvs k) := .inl ⟨kvs, k, .inl e, rfl, rfl⟩
theorem DGet.t {H : Hp} {a b : Addr} {kvs : List (List Key × V)} {k : List Key} (e : H a = some (.dT kvs)) (eb : H b = some (.tup (k.map kV))) : DGet H a (.ref b) (valV kvs k) := .inr ⟨kvs, k, b, .inl e, rfl, eb, rfl⟩
theorem DPut.k {H : Hp} {a : Addr} {kvs : List (Key × V)} {k : Key} {v : V} (e : H a = some (.dK kvs)) (hl : kvs.length < sizeLine) : DPut H a (kV k) v (upd H a (.dK (putK kvs k v))) := .inl ⟨kvs, k, e, rfl, hl, rfl⟩
theorem DPut.t {H : Hp} {a b : Addr} {kvs : List (List Key × V)} {k : List Key} {v : V} (e : H a = some (.dT kvs)) (eb : H b = some (.tup (k.map kV))) (hl : kvs.length < sizeLine) :
  DPut H a (.ref b) v (upd H a (.dT (putK kvs k v))) := .inr ⟨kvs, k, b, e, rfl, eb, hl, rfl⟩
section
variable {X : Cx} {pins : List (Addr × Obj)} {σ : St} {H : Hp} {s : Shared} {a : Addr} {y v : V} {u r : Value} {o : Option V} {A : Around} {E : Value -> Shared -> Prop}
theorem Inv.big (I : Inv X pins σ H s) : sysModules < s.heap.objs.size := by
 have h : mainGlobals < s.heap.objs.size := (I.mod.glob.keeps I.bk).lt
 exact Nat.lt_trans (by decide) h
theorem d_getItem {Q : Value -> Shared -> Prop} (hu : A.units + 1 < cLine) (I : Inv X pins σ H s) (g : DGet H a y (some v)) (ry : RelV y u) (h : ∀ w' s', Inv X pins σ H s' -> RelV v w' -> Q w' s') :
  wpAny (model X.prog X.w) A (getItem (.ref a) u) Q E s := by
 rcases g with ⟨kvs, k, e, ey, l⟩ | ⟨kvs, k, b, e, ey, eb, l⟩
 ·subst ey
  obtain ⟨z, hd, vs, rel, dd⟩ := dk_rd I.hok e
  obtain ⟨w', hw, rw'⟩ := RelO.some_of (v := v) (o := valueAt vs k) (by rw [l]; exact rel.val k)
  exact wpAny_getItem_of (kV_is ry) dd.mapOf hw (h w' _ (I.tok _) rw')
 ·subst ey
  cases (show u = Value.ref b from ry)
  obtain ⟨z, hd, xs, rel, dd⟩ := dt_rd I.hok e
  obtain ⟨w', hw, rw'⟩ := RelO.some_of (v := v) (o := (atKey xs k).map (·.2)) (by rw [l]; exact rel.val k)
  obtain ⟨p, hp, hp2⟩ := Option.map_eq_some_iff.mp hw
  refine wpAny_getItem_heap (tupleKind_room_in1 hu) (key_of I.hok eb) dd hp ?_
  rw [hp2]
  exact h w' _ (I.tok _) rw'
theorem d_in {Q : Value -> Shared -> Prop} (hu : A.units + 1 < cLine) (I : Inv X pins σ H s) (g : DGet H a y o) (ry : RelV y u) (h : ∀ s', Inv X pins σ H s' -> Q (.bool o.isSome) s') :
  wpAny (model X.prog X.w) A (compareOp .In u (.ref a)) Q E s := by
 rcases g with ⟨kvs, k, e, ey, l⟩ | ⟨kvs, k, b, e, ey, eb, l⟩
 ·subst ey
  obtain ⟨z, hd, vs, rel, dd⟩ := dk_rd I.hok e
  refine wpAny_in_of (kV_is ry) hd dd.mapOf ?_
  rw [<- (rel.val k).isSome_eq, <- l]
  exact h _ (I.tok _)
 ·subst ey
  cases (show u = Value.ref b from ry)
  obtain ⟨z, hd, xs, rel, dd⟩ := dt_rd I.hok e
  refine wpAny_in_heap (tupleKind_room_in1 hu) (key_of I.hok eb) hd dd ?_
  have q := (rel.val k).isSome_eq
  rw [Option.isSome_map] at q
  rw [<- q, <- l]
  exact h _ (I.tok _)
theorem d_notIn {Q : Value -> Shared -> Prop} (hu : A.units + 1 < cLine) (I : Inv X pins σ H s) (g : DGet H a y o) (ry : RelV y u) (h : ∀ s', Inv X pins σ H s' -> Q (.bool (!o.isSome)) s') :
  wpAny (model X.prog X.w) A (compareOp .NotIn u (.ref a)) Q E s := by
 rcases g with ⟨kvs, k, e, ey, l⟩ | ⟨kvs, k, b, e, ey, eb, l⟩
 ·subst ey
  obtain ⟨z, hd, vs, rel, dd⟩ := dk_rd I.hok e
  refine wpAny_notIn_of (kV_is ry) hd dd.mapOf ?_
  rw [<- (rel.val k).isSome_eq, <- l]
  exact h _ (I.tok _)
 ·subst ey
  cases (show u = Value.ref b from ry)
  obtain ⟨z, hd, xs, rel, dd⟩ := dt_rd I.hok e
  refine wpAny_notIn_heap (tupleKind_room_in1 hu) (key_of I.hok eb) hd dd ?_
  have q := (rel.val k).isSome_eq
  rw [Option.isSome_map] at q
  rw [<- q, <- l]
  exact h _ (I.tok _)
theorem d_write {h' : Heap} {t' : Nat} {ob : HO} (I : Inv X pins σ H s) (mu : Mut (H a)) (hs : Heap.SameBut a s.heap h') (he : ∃ q, h'.get? a = some q) (new : ObjOk X.prog X.w (upd H a ob) h' a ob) :
  Inv X pins σ (upd H a ob) { s with heap := h', toks := t' } :=
 I.write (x := a) (e := a) mu (.inl rfl) (fun b q hb z => (hs.2 b hb).trans z) he new
theorem dk_new {P : Program} {w : World} {H' : Hp} {h' : Heap} {kvs : List (Key × V)} {vs : List (Key × Value)} (z : kvs.length <= sizeLine) (hd : (a == sysModules) = false) (rel : KV kvs vs) (dd : h'.DictOf (mixKind P w) a vs) :
  ObjOk P w H' h' a (.dK kvs) := ⟨z, hd, vs, rel, dd⟩
theorem d_setItem {H' : Hp} {Q : Unit -> Shared -> Prop} (hu : A.units + 1 < cLine) (I : Inv X pins σ H s) (g : DPut H a y v H') (ry : RelV y u) (rv : RelV v r) (h : ∀ s', Inv X pins σ H' s' -> Q () s') :
  wpAny (model X.prog X.w) A (setItem (.ref a) u r) Q E s := by
 rcases g with ⟨kvs, k, e, ey, l, eH⟩ | ⟨kvs, k, b, e, ey, eb, l, eH⟩
 ·subst ey eH
  obtain ⟨z, hd, vs, rel, dd⟩ := dk_of I.hok e
  have hz : vs.length <= sizeLine := by rw [<- rel.length]; exact z
  have hl : (putK kvs k v).length <= sizeLine := by have := length_putK kvs k v; omega
  refine wpAny_setItem_pairs (hsz := hz) (kV_is ry) dd fun h' dd' hs => h _ ?_
  have he : ∃ q, h'.get? a = some q := let ⟨q, _, _, hq, _⟩ := dd'; ⟨q, hq⟩
  exact d_write I (by rw [e]; exact True.intro) hs he (dk_new hl hd (rel.put k rv) dd')
 ·subst ey eH
  cases (show u = Value.ref b from ry)
  obtain ⟨z, hd, xs, rel, dd⟩ := dt_of I.hok e
  have hz : xs.length <= sizeLine := by rw [<- Paired.length rel]; exact z
  have hl : (putK kvs k v).length <= sizeLine := by have := length_putK kvs k v; omega
  refine wpAny_setItem_heap (hsz := hz) (tupleKind_room_in1 hu) (key_of I.hok eb) dd fun h' dd' hs => h _ ?_
  obtain ⟨q, es, ep, hq, h2, h3, h4, _, h5⟩ := dd'
  refine d_write I (by rw [e]; exact True.intro) hs ⟨q, hq⟩ ⟨hl, hd, _, (rel.put k eb rv).keeps fun c ys ec => ?_, q, es, ep, hq, h2, h3, h4, h5⟩
  rw [upd_ne (ne_of ec e (fun z => nomatch z))]
  exact ec
end
section
variable {X : Cx} {pins : List (Addr × Obj)} {σ : St} {H : Hp} {s : Shared} {a : Addr} {kvs : List (Key × V)} {k : Key} {u : Value} {A : Around} {E : Value -> Shared -> Prop}
theorem d_len {Q : Value -> Shared -> Prop} (I : Inv X pins σ H s) (e : Rd H a (.dK kvs)) (h : ∀ t s', Inv X pins σ H s' -> Q (.int kvs.length t) s') : wpAny (model X.prog X.w) A (call (.builtin "len") [.ref a]) Q E s := by
 obtain ⟨z, hd, vs, rel, dd⟩ := dk_rd I.hok e
 refine call_len_dict hd dd (by rw [<- rel.length]; rw [sizeLine_eq] at z; omega) ?_
 rw [<- rel.length]
 exact h _ _ (I.tok _)
end
theorem dict_typeIs {X : Cx} {pins : List (Addr × Obj)} {σ : St} {H : Hp} {s : Shared} {a : Addr} {y : V} {o : Option V} (I : Inv X pins σ H s) (g : DGet H a y o) : s.TypeIs (.ref a) "dict" := by
 rcases g with ⟨kvs, k, e, _, _⟩ | ⟨kvs, k, b, e, _, _, _⟩
 ·obtain ⟨_, _, vs, _, dd⟩ := dk_rd I.hok e
  exact dd.typeIs
 ·obtain ⟨_, _, xs, _, dd⟩ := dt_rd I.hok e
  exact dd.typeIs
theorem dk_empty {P : Program} {w : World} {H : Hp} (h : Heap) (hb : sysModules < h.objs.size) : ObjOk P w H (h.push { cls := .type "dict", data := .dict #[] }) h.objs.size (.dK []) :=
 ⟨Nat.zero_le _, beq_eq_false_iff_ne.mpr (Ne.symm (Nat.ne_of_lt hb)), [], .nil, Heap.DictOf.new h⟩
theorem dt_empty {P : Program} {w : World} {H : Hp} (h : Heap) (hb : sysModules < h.objs.size) : ObjOk P w H (h.push { cls := .type "dict", data := .dict #[] }) h.objs.size (.dT []) :=
 ⟨Nat.zero_le _, beq_eq_false_iff_ne.mpr (Ne.symm (Nat.ne_of_lt hb)), [], .nil, _, #[], 0, Heap.get?_push_size _ rfl, ⟨rfl, rfl, rfl⟩, rfl, rfl, List.nodup_nil⟩
noncomputable def tDNewK : TE := fun _ H Q => ∀ p, H p = none -> Q (.ref p) (upd H p (.dK []))
noncomputable def tDNewT : TE := fun _ H Q => ∀ p, H p = none -> Q (.ref p) (upd H p (.dT []))
section
variable {X : Cx} {pos : Pos}
theorem pe_dnewK : PE X (.Dict [] [] pos) tDNewK := fun pins s σ H Q I h =>
 wpAny_Dict_empty ⟨.ref s.heap.objs.size, _, I.laid (a := s.heap.objs.size) (o := .dK []) (t' := s.toks) (fun _ _ q => Heap.get?_push_of_some _ q) (Nat.le_refl _) (dk_empty s.heap I.big), rfl, h _ (I.hok.fresh (Nat.le_refl _))⟩
theorem pe_dnewT : PE X (.Dict [] [] pos) tDNewT := fun pins s σ H Q I h =>
 wpAny_Dict_empty ⟨.ref s.heap.objs.size, _, I.laid (a := s.heap.objs.size) (o := .dT []) (t' := s.toks) (fun _ _ q => Heap.get?_push_of_some _ q) (Nat.le_refl _) (dt_empty s.heap I.big), rfl, h _ (I.hok.fresh (Nat.le_refl _))⟩
end
noncomputable def tPairs : List (TE × TE) -> St -> Hp -> (List (V × V) -> Hp -> Prop) -> Prop
 | [], _, H, Q => Q [] H
 | (tk, tv) :: r, σ, H, Q => tk σ H fun x H1 => tv σ H1 fun y H2 => tPairs r σ H2 fun ps H3 => Q ((x, y) :: ps) H3
noncomputable abbrev VV : List (V × V) -> List (Value × Value) -> Prop := Paired fun p q => RelV p.1 q.1 /\ RelV p.2 q.2
noncomputable def PPs (X : Cx) (pos : Pos) (keys : List (Option Expr)) (values : List Expr) (trs : List (TE × TE)) : Prop :=
 ∀ (pins : List (Addr × Obj)) (s : Shared) (σ : St) (H : Hp) (Q : List (V × V) -> Hp -> Prop), Inv X pins σ H s -> tPairs trs σ H Q ->
  wpAny (model X.prog X.w) X.A (evalPairs (pairTrees keys values X.env pos)) (fun vs s' => ∃ ps H', Inv X pins σ H' s' /\ VV ps vs /\ Q ps H') X.xe s
theorem pps_nil {X : Cx} {pos : Pos} : PPs X pos [] [] [] := fun pins s σ H Q I h => pairTrees_nil_walk ⟨[], H, I, .nil, h⟩
theorem pps_cons {X : Cx} {pos : Pos} {k v : Expr} {ks : List (Option Expr)} {vs : List Expr} {tk tv : TE} {trs : List (TE × TE)} (hk : PE X k tk) (hv : PE X v tv) (hr : PPs X pos ks vs trs) :
  PPs X pos (some k :: ks) (v :: vs) ((tk, tv) :: trs) := fun pins s σ H Q I h =>
 pairTrees_cons_walk (thn (hk pins s σ H _ I h) fun u s1 ⟨x, H1, I1, rx, q1⟩ => thn (hv pins s1 σ H1 _ I1 q1) fun w2 s2 ⟨y, H2, I2, ry, q2⟩ =>
  thn (hr pins s2 σ H2 _ I2 q2) fun ws s3 ⟨ps, H3, I3, rel, q3⟩ => ⟨(x, y) :: ps, H3, I3, .cons ⟨rx, ry⟩ rel, q3⟩)
noncomputable def mergeK (kvs more : List (Key × V)) : List (Key × V) := more.foldl (fun acc kv => putK acc kv.1 kv.2) kvs
theorem KV.merge : ∀ {more : List (Key × V)} {rs : List (Key × Value)} {kvs : List (Key × V)} {vs : List (Key × Value)}, KV more rs -> KV kvs vs -> KV (mergeK kvs more) (merged vs rs) := by
 intro more rs kvs vs r
 unfold KV at r
 induction r generalizing kvs vs with
 | nil => intro q; exact q
 | @cons p q ps qs h t ih =>
  intro r0
  have e : KV (putK kvs p.1 p.2) (stored vs q.1 q.2) := by
   have := r0.put p.1 h.2
   rw [<- h.1]; exact this
  exact ih e
theorem length_mergeK : ∀ (more kvs : List (Key × V)), (mergeK kvs more).length <= kvs.length + more.length
 | [], kvs => by show kvs.length <= kvs.length + 0; omega
 | p :: r, kvs => by
  have h1 := length_mergeK r (putK kvs p.1 p.2)
  have h2 := length_putK kvs p.1 p.2
  show (mergeK (putK kvs p.1 p.2) r).length <= _
  rw [List.length_cons]; omega
theorem carries_of {P : Program} {w : World} : ∀ {kvs : List (Key × V)} {ws : List (Value × Value)}, VV (kvs.map fun kv => (kV kv.1, kv.2)) ws -> ∃ rs, Carries (mixKind P w) ws rs /\ KV kvs rs
 | [], _, r => by rw [List.map_nil] at r; cases r; exact ⟨[], True.intro, .nil⟩
 | p :: kvs, _, r => by
  rw [List.map_cons] at r
  cases r with
  | @cons a b as bs h t =>
   obtain ⟨rs, c, q⟩ := carries_of (P := P) (w := w) t
   obtain ⟨b1, b2⟩ := b
   exact ⟨(p.1, b2) :: rs, ⟨kV_is h.1, rfl, c⟩, .cons ⟨rfl, h.2⟩ q⟩
noncomputable def tDisp (trs : List (TE × TE)) : TE := fun σ H Q => ∀ p, H p = none -> tPairs trs σ (upd H p (.dK [])) fun ps H2 => H2 p = some (.dK []) /\ ∃ kvs : List (Key × V), ps = kvs.map (fun kv => (kV kv.1, kv.2)) /\ kvs.length <= 15 /\ Q (.ref p) (upd H2 p (.dK (mergeK [] kvs)))
theorem pe_disp {X : Cx} {pos : Pos} {keys : List (Option Expr)} {values : List Expr} {trs : List (TE × TE)} (h : PPs X pos keys values trs) (hall : keys.all (·.isSome) = true) (hl : keys.length = values.length) (h0 : keys ≠ [])
  (h15 : keys.length <= 15) : PE X (.Dict keys values pos) (tDisp trs) := by
 intro pins s σ H Q I q
 have hn := I.hok.fresh (Nat.le_refl s.heap.objs.size)
 have I1 := I.laid (a := s.heap.objs.size) (o := .dK []) (h' := s.heap.push { cls := .type "dict", data := .dict #[] }) (t' := s.toks) (fun _ _ q => Heap.get?_push_of_some _ q) (Nat.le_refl _) (dk_empty s.heap I.big)
 refine wpAny_Dict_walk (knd := mixKind X.prog X.w) hall hl h0 h15 (thn (h pins _ σ _ _ I1 (q _ hn)) fun ws s2 ⟨ps, H2, I2, rel, e, kvs, ep, lk, q2⟩ => ?_)
 subst ep
 obtain ⟨rs, c, rk⟩ := carries_of (P := X.prog) (w := X.w) rel
 obtain ⟨z, hd, vs0, r0, dd⟩ := dk_of I2.hok e
 cases r0
 refine ⟨rs, c, dd, fun h' dd' hs => ⟨.ref s.heap.objs.size, _, ?_, rfl, q2⟩⟩
 have hz : (mergeK [] kvs).length <= sizeLine := by
  have h1 := length_mergeK kvs []
  rw [List.length_nil] at h1
  rw [sizeLine_eq]; omega
 have he : ∃ q, h'.get? s.heap.objs.size = some q := let ⟨q, _, _, hq, _⟩ := dd'; ⟨q, hq⟩
 exact d_write I2 (by rw [e]; exact True.intro) hs he (dk_new hz hd (rk.merge .nil) dd')
noncomputable def IsD (H : Hp) (a : Addr) : Prop := (∃ kvs, Rd H a (.dK kvs)) \/ ∃ kvs, Rd H a (.dT kvs)
section
variable {X : Cx} {pins : List (Addr × Obj)} {σ : St} {H : Hp} {s : Shared} {a : Addr} {y d : V} {u r : Value} {o : Option V} {A : Around} {E : Value -> Shared -> Prop}
theorem d_get1 {Q : Value -> Shared -> Prop} (hu : A.units + 1 < cLine) (I : Inv X pins σ H s) (g : DGet H a y o) (ry : RelV y u) (h : ∀ w' s', Inv X pins σ H s' -> RelV (o.getD .non) w' -> Q w' s') :
  wpAny (model X.prog X.w) A (call (.builtin "dict.get") [.ref a, u]) Q E s := by
 rcases g with ⟨kvs, k, e, ey, l⟩ | ⟨kvs, k, b, e, ey, eb, l⟩
 ·subst ey
  obtain ⟨z, hd, vs, rel, dd⟩ := dk_rd I.hok e
  refine call_meetsIn PySem.F.slot_dict_get dd.typeIs PySem.F.entry_dict_get (PySem.F.args_dict_get_2 _ _) (meets_dict_get (mixKind X.prog X.w) a (kV_is ry) hd) ⟨_, dd.mapOf, h _ _ (I.tok _) ?_⟩
  rw [l]
  exact (rel.val k).getD rfl
 ·subst ey
  cases (show u = Value.ref b from ry)
  obtain ⟨z, hd, xs, rel, dd⟩ := dt_rd I.hok e
  refine call_meetsIn PySem.F.slot_dict_get dd.typeIs PySem.F.entry_dict_get (PySem.F.args_dict_get_2 _ _) (meetsH_dict_get (tupleKind (mixKind X.prog X.w)) a b hd) ⟨tupleKind_room_in1 hu, k, xs, key_of I.hok eb, dd, h _ _ (I.tok _) ?_⟩
  rw [l]
  exact (rel.val k).getD rfl
theorem d_get2 {Q : Value -> Shared -> Prop} (hu : A.units + 1 < cLine) (I : Inv X pins σ H s) (g : DGet H a y o) (ry : RelV y u) (rd : RelV d r) (h : ∀ w' s', Inv X pins σ H s' -> RelV (o.getD d) w' -> Q w' s') :
  wpAny (model X.prog X.w) A (call (.builtin "dict.get") [.ref a, u, r]) Q E s := by
 rcases g with ⟨kvs, k, e, ey, l⟩ | ⟨kvs, k, b, e, ey, eb, l⟩
 ·subst ey
  obtain ⟨z, hd, vs, rel, dd⟩ := dk_rd I.hok e
  refine call_meetsIn PySem.F.slot_dict_get dd.typeIs PySem.F.entry_dict_get (PySem.F.args_dict_get_3 _ _ _) (meets_dict_get_default (mixKind X.prog X.w) a (kV_is ry) hd r) ⟨_, dd.mapOf, h _ _ (I.tok _) ?_⟩
  rw [l]
  exact (rel.val k).getD rd
 ·subst ey
  cases (show u = Value.ref b from ry)
  obtain ⟨z, hd, xs, rel, dd⟩ := dt_rd I.hok e
  refine call_meetsIn PySem.F.slot_dict_get dd.typeIs PySem.F.entry_dict_get (PySem.F.args_dict_get_3 _ _ _) (meetsH_dict_get_default (tupleKind (mixKind X.prog X.w)) a b hd r) ⟨tupleKind_room_in1 hu, k, xs, key_of I.hok eb, dd, h _ _ (I.tok _) ?_⟩
  rw [l]
  exact (rel.val k).getD rd
end
end L2
namespace L2
open PySem PySem.Spec PyProof.Rows
theorem PE.imp {X : Cx} {e : Expr} {t t' : TE} (h : PE X e t) (i : ∀ σ H Q, t' σ H Q -> t σ H Q) : PE X e t' := fun pins s σ H Q I q => h pins s σ H Q I (i σ H Q q)
theorem PT.imp {X : Cx} {e : Expr} {t t' : TT} (h : PT X e t) (i : ∀ σ H Q, t' σ H Q -> t σ H Q) : PT X e t' := fun pins s σ H Q I q => h pins s σ H Q I (i σ H Q q)
theorem PA.imp {X : Cx} {e : List Expr} {t t' : TA} (h : PA X e t) (i : ∀ σ H Q, t' σ H Q -> t σ H Q) : PA X e t' := fun pos pins s σ H Q I q => h pos pins s σ H Q I (i σ H Q q)
theorem PS.imp {X : Cx} {e : Stmt} {t t' : TS} (h : PS X e t) (i : ∀ D σ H, t' D σ H -> t D σ H) : PS X e t' := fun pins s σ H D I q => h pins s σ H D I (i D σ H q)
theorem PSs.imp {X : Cx} {e : List Stmt} {t t' : TS} (h : PSs X e t) (i : ∀ D σ H, t' D σ H -> t D σ H) : PSs X e t' := fun pins s σ H D I q => h pins s σ H D I (i D σ H q)
section
variable {fs ex : List Addr} {H H1 : Hp} {h h1 h' : Heap} {C : Addr}
theorem Un.sameBut (u : Un fs ex H H1 h h1) (sb : Heap.SameBut C h1 h') (hC : h.objs.size <= C) : Un fs ex H H1 h h' := by
 have ne : ∀ b o, h.get? b = some o -> b ≠ C := fun b o e => Nat.ne_of_lt (Nat.lt_of_lt_of_le (Heap.lt_size e) hC)
 refine ⟨fun b o e n hb hx => (sb.2 b (ne b o e)).trans (u.keep b o e n hb hx), fun b o e n hb hx => ?_, u.free, fun b o e hx => ?_, u.tups, u.frzs, u.tbls⟩
 ·obtain ⟨sl, q⟩ := u.slot b o e n hb hx
  exact ⟨sl, (sb.2 b (ne b o e)).trans q⟩
 ·obtain ⟨o', q⟩ := u.there b o e hx
  exact ⟨o', (sb.2 b (ne b o e)).trans q⟩
theorem HOk.sameBut {P : Program} {w : World} (x : HOk P w H h) (sb : Heap.SameBut C h h') (hC : H C = none) : HOk P w H h' := fun b o e => by
 refine (x b o e).stay (fun c v hc q => (sb.2 c ?_).trans q) (fun _ q => q) fun _ _ q => q
 rintro rfl
 rcases hc with rfl | hc
 ·rw [hC] at e; cases e
 ·rw [hC] at hc; cases hc
end
noncomputable def rows (σ : St) (js : List Nat) : St := js.map fun j => σ.getD j none
section
variable {X : Cx}
theorem call_isinst : CallR X (.builtin "isinstance") (fun xs H Q => ∃ x T t b, xs = [x, .ty T] /\ TyOf X.K H x t /\ PySem.W.kitOne X.K t (.type T) = some b /\ Q (.bl b) H) := by
 intro pins s σ H vs us Q I rv h
 obtain ⟨x, T, t, b, rfl, ty, e, q⟩ := h
 obtain ⟨u, v, rfl, ru, rt⟩ := rv.two
 cases (show v = Value.type T from rt)
 exact isinst_ok I ru ty e fun tk => ⟨.bl b, H, I.tok tk, rfl, q⟩
theorem op_isB : OpR X (compareOp .Is) (fun x y H Q => ∃ a b, x = .bl a /\ y = .bl b /\ Q (.bl (a == b)) H) := by
 intro pins s σ H x y v u Q I rx ry h
 obtain ⟨a, b, rfl, rfl, q⟩ := h
 cases rx
 cases ry
 exact is_bool (fin_bl I q rfl)
theorem op_notB : OpR X (compareOp .IsNot) (fun x y H Q => ∃ a b, x = .bl a /\ y = .bl b /\ Q (.bl (a != b)) H) := by
 intro pins s σ H x y v u Q I rx ry h
 obtain ⟨a, b, rfl, rfl, q⟩ := h
 cases rx
 cases ry
 exact isnot_bool (fin_bl I q rfl)
noncomputable def CDivW (_ j : Int) : Prop := 0 < j /\ j < 2 ^ 64
theorem op_fdivW : OpR X (binaryOp .FloorDiv) (rI CDivW fun i j => .int (i / j)) := opI fun i j _ _ _ _ _ hc q => by
 have e : i.fdiv j = i / j := Int.fdiv_eq_ediv_of_nonneg _ (Int.le_of_lt hc.1)
 refine floordiv_int (by have := hc.1; omega) (by rw [e]; exact q) (.inl (PyProof.noPylong_of_log2 ?_))
 have h1 : j.natAbs < 2 ^ 64 := by have := hc.2; have := hc.1; omega
 by_cases h0 : j.natAbs = 0
 ·rw [h0]; decide
 ·have := (Nat.log2_lt h0).mpr h1
  omega
theorem valsB : ∀ {bs : List Bool} {us : List Value}, Vals (bs.map V.bl) us -> us = bs.map Value.bool
 | [], _, .nil => rfl
 | b :: bs, _, .cons r t => by
  cases (show _ = Value.bool b from r)
  rw [valsB t]
  rfl
theorem range_allB (bs : List Bool) : ((List.range bs.length).all fun i => (bs[i]?).getD true) = bs.all id := by
 rw [Bool.eq_iff_iff, List.all_eq_true, List.all_eq_true]
 constructor
 ·intro h b hb
  obtain ⟨i, hi, rfl⟩ := List.getElem_of_mem hb
  have := h i (List.mem_range.mpr hi)
  simpa [List.getElem?_eq_getElem hi] using this
 ·intro h i hi
  have hi' := List.mem_range.mp hi
  have := h _ (List.getElem_mem hi')
  simpa [List.getElem?_eq_getElem hi'] using this
theorem range_anyB (bs : List Bool) : ((List.range bs.length).any fun i => (bs[i]?).getD false) = bs.any id := by
 rw [Bool.eq_iff_iff, List.any_eq_true, List.any_eq_true]
 constructor
 ·rintro ⟨i, hi, e⟩
  have hi' := List.mem_range.mp hi
  exact ⟨_, List.getElem_mem hi', by simpa [List.getElem?_eq_getElem hi'] using e⟩
 ·rintro ⟨b, hb, e⟩
  obtain ⟨i, hi, rfl⟩ := List.getElem_of_mem hb
  exact ⟨i, List.mem_range.mpr hi, by simpa [List.getElem?_eq_getElem hi] using e⟩
theorem call_all (hc : X.calm = true) : CallR X (.builtin "all") (fun xs H Q => ∃ (p : Addr) (bs : List Bool), xs = [.ref p] /\ SqL X.K H p (bs.map V.bl) /\ Q (.bl (bs.all id)) H) := by
 intro pins s σ H vs us Q I rv h
 obtain ⟨p, bs, rfl, hq, q⟩ := h
 obtain ⟨u, rfl, ru⟩ := rv.one
 cases (show u = Value.ref p from ru)
 obtain ⟨its, rv, hp, hz⟩ := I.list hq
 obtain rfl := valsB rv
 have hl := hp.isList
 have hlt : p < s.heap.objs.size := by obtain ⟨_, e, _⟩ := hl; exact Heap.lt_size e
 have hh : X.A.handled = none := I.ok.hd hc
 refine call_all_walk (wpAny_pyIter_list hl ?_)
 refine ⟨s.heap.objs.size, [s.heap.objs.size, p], [s.heap.objs.size], (bs.map Value.bool).toArray.size, _, _, fun i => (bs[i]?).getD true, rfl, Walks.list (A := X.A.in1) hh _ p (Nat.ne_of_lt hlt) (bs.map Value.bool).toArray,
  ⟨⟨_, Heap.get?_push_size _ rfl, rfl, rfl⟩, hl.push _⟩, fun i v s' Q' E' hP hQ => ?_, fun h' tk hk => ?_⟩
 ·have hP' : (bs.map Value.bool)[i]? = some v := by simpa using hP
  rw [List.getElem?_map] at hP'
  cases e : bs[i]? with
  | none => rw [e] at hP'; cases hP'
  | some b =>
   rw [e] at hP'
   cases hP'
   simp only [e, Option.getD_some] at hQ
   exact wpAny_truthy_bool hQ
 ·have e : ((List.range (bs.map Value.bool).toArray.size).all fun i => (bs[i]?).getD true) = bs.all id := by
   rw [List.size_toArray, List.length_map]; exact range_allB bs
  rw [e]
  exact ⟨.bl _, H, I.kept (LSm.kept_iter hk), rfl, q⟩
theorem call_any (hc : X.calm = true) : CallR X (.builtin "any") (fun xs H Q => ∃ (p : Addr) (bs : List Bool), xs = [.ref p] /\ SqL X.K H p (bs.map V.bl) /\ Q (.bl (bs.any id)) H) := by
 intro pins s σ H vs us Q I rv h
 obtain ⟨p, bs, rfl, hq, q⟩ := h
 obtain ⟨u, rfl, ru⟩ := rv.one
 cases (show u = Value.ref p from ru)
 obtain ⟨its, rv, hp, hz⟩ := I.list hq
 obtain rfl := valsB rv
 have hl := hp.isList
 have hlt : p < s.heap.objs.size := by obtain ⟨_, e, _⟩ := hl; exact Heap.lt_size e
 have hh : X.A.handled = none := I.ok.hd hc
 refine call_any_walk (wpAny_pyIter_list hl ?_)
 refine ⟨s.heap.objs.size, [s.heap.objs.size, p], [s.heap.objs.size], (bs.map Value.bool).toArray.size, _, _, fun i => (bs[i]?).getD false, rfl, Walks.list (A := X.A.in1) hh _ p (Nat.ne_of_lt hlt) (bs.map Value.bool).toArray,
  ⟨⟨_, Heap.get?_push_size _ rfl, rfl, rfl⟩, hl.push _⟩, fun i v s' Q' E' hP hQ => ?_, fun h' tk hk => ?_⟩
 ·have hP' : (bs.map Value.bool)[i]? = some v := by simpa using hP
  rw [List.getElem?_map] at hP'
  cases e : bs[i]? with
  | none => rw [e] at hP'; cases hP'
  | some b =>
   rw [e] at hP'
   cases hP'
   simp only [e, Option.getD_some] at hQ
   exact wpAny_truthy_bool hQ
 ·have e : ((List.range (bs.map Value.bool).toArray.size).any fun i => (bs[i]?).getD false) = bs.any id := by
   rw [List.size_toArray, List.length_map]; exact range_anyB bs
  rw [e]
  exact ⟨.bl _, H, I.kept (LSm.kept_iter hk), rfl, q⟩
theorem pe_callK0 {CX : CXT} {k : Nat} {f : Addr} {fd : FuncData} {ps ks : List Str} {sp : Sp} {E : XK} {x : Str} {p pos : Pos} {kws : List Keyword} {tk : TA} {g : List Value -> List Value -> List Value} {gV : List V -> List V -> List V}
  (F : FnOk X.prog X.w X.K X.mg X.base CX k f fd ps sp) (hr : Room k X.A) (hg : Gl X x) (hm : X.mg x = some (.ref f)) (hk : PySem.W.keepIn X.K (.ref f) = true) (hb : KBinds X.K fd ps ks g gV) (hx : Passes CX X E)
  (hkw : PK X kws tk) (hall : (backToKw pos (keywordEach kws X.env)).all (·.1.isSome) = true := by rfl) (hks : (backToKw pos (keywordEach kws X.env)).filterMap (·.1) = ks := by rfl)
  (hdb : (x == ("__debug__" : Str)) = false := by decide) (hpl : ((backTo pos (starEach [] X.env)).any (·.1) || (backToKw pos (keywordEach kws X.env)).any (·.1.isNone)) = false := by rfl) :
  PE X (.Call (.Name x p) [] kws pos) (tCallK sp gV E tNil tk) := by
 intro pins s σ H Q I h
 refine wpAny_Call_Name_kw (ld_glob I hg hm ?_ hdb)
 refine PySem.W.callWith_KW0 (h₀ := X.base) I.ok.mod.kin hk hall (thn (hkw pos pins s σ H _ I h) fun ws s2 ⟨zs, H2, I2, rz, q2⟩ => ⟨I2.kIn, ?_⟩) hpl
 rw [hks]
 exact run_fnk (us := []) (vs := []) F hr hb hx I2 .nil rz q2
end
end L2
namespace HT
open PySem PyProof.Rows
open PySem.SeqAt
open PySem.AutoSeq1 (wpAny_loadPart')
open PySem.MeetsSeq PySem.MeetsSeq2 PySem.MeetsSeq3
section
variable {prog : Program} {w : World} {A : Around} {E : Value -> Shared -> Prop} {s : Shared}
theorem cat_tup0 {t b : Addr} {ws : List Value} {Q : Value -> Shared -> Prop} (ht : IsTup s.heap t ([] : List Value).toArray) (hb : IsTup s.heap b ws.toArray)
  (h : Q (.ref b) s) : wpAny (model prog w) A (binaryOp .Add (.ref t) (.ref b)) Q E s := by
 obtain ⟨⟨cls, dd, data, sl⟩, ho, hc, n, hd⟩ := id ht
 obtain ⟨⟨cls2, dd2, data2, sl2⟩, ho2, hc2, n2, hd2⟩ := id hb
 simp only at hc hd hc2 hd2
 subst hc hd hc2 hd2
 exact concat_meets ⟨_, ho, rfl⟩ ⟨_, ho2, rfl⟩ noFill_tuple_add seq_tuple_add PySem.F.slot_tuple_add PySem.F.entry_tuple_add (PySem.F.args_tuple_add_2 _ _)
   (tuple_addW0 t b ([] : List Value).toArray ws.toArray n n2 dd dd2 sl sl2 (by simp)) ⟨ho, ho2, h⟩
theorem getItem_tuple_whole {t sl : Addr} {items : Array Value} {vl vu : Value} {lo hi : Option Int} {Q : Value -> Shared -> Prop} (ht : IsTup s.heap t items) (hs : s.heap.IsSliceOf sl vl vu .none) (pl : IsPart vl lo) (pu : IsPart vu hi)
  (hw : sIx items.size 0 lo = 0 /\ sIx items.size items.size hi = items.size) (h : Q (.ref t) s) : wpAny (model prog w) A (getItem (.ref t) (.ref sl)) Q E s := by
 obtain ⟨os, hos, hcs, hds⟩ := id hs
 have hTs : s.TypeIs (.ref sl) "slice" := ⟨os, hos, hcs⟩
 unfold getItem
 try with_reducible refine wpAny_holding ?_
 first | refine wpAny_bind (wpAny_pure ?_) | skip
 refine wpAny_bind (wpAny_sequenceKey ht.typeIs (by decide) ?_)
 refine wpAny_bind (wpAny_callSpecial?_slot (name := Str.ofString "__getitem__") ht.typeIs PyProof.Rows.slot_tuple_getitem
  (wpAny_call_entry PyProof.Rows.slot_tuple_getitem ht.typeIs entry_tuple_getitem ?_ (args_tuple_getitem _ _)))
 show wpAny _ _ (Builtin.Tuple.tupleItemsOf (.ref t) >>= _) _ _ s
 refine wpAny_bind (tupleItemsOf_ ht ?_)
 refine wpAny_bind (wpAny_typeOf hTs ?_)
 rw [if_pos (by decide)]
 refine wpAny_bind (sliceApplied_gen hs pl pu ?_)
 have hyes : (((sIx items.size 0 lo : Nat) : Int) == 0 && (1 : Int) == 1 && (sIx items.size items.size hi - sIx items.size 0 lo) == items.size) = true := by
  rw [hw.1, hw.2]
  simp
 show wpAny _ _ (if (((sIx items.size 0 lo : Nat) : Int) == 0 && (1 : Int) == 1 && (sIx items.size items.size hi - sIx items.size 0 lo) == items.size) = true then _ else _) _ _ s
 rw [if_pos hyes]
 unfold Builtin.Tuple.tupleIsExact
 first
  | (refine wpAny_bind (wpAny_bind (wpAny_typeOf ht.typeIs (wpAny_pure ?_))); rw [if_pos (by decide)]; exact wpAny_bind (wpAny_rule (wpAny_pure ⟨_, rfl, wpAny_pure h⟩)))
  | (refine wpAny_bind (wpAny_bind (wpAny_typeOf ht.typeIs (wpAny_pure ?_))); rw [if_pos (by decide)]; exact wpAny_bind (wpAny_rule (wpAny_bind (wpAny_pure (wpAny_pure ⟨_, rfl, wpAny_pure h⟩)))))
  | (refine wpAny_bind (wpAny_bind (wpAny_bind (wpAny_typeOf ht.typeIs (wpAny_pure ?_)))); rw [if_pos (by decide)]; exact wpAny_bind (wpAny_rule (wpAny_pure (wpAny_pure ⟨_, rfl, wpAny_pure h⟩))))
  | (refine wpAny_bind (wpAny_bind (wpAny_typeOf ht.typeIs (wpAny_pure ?_))); rw [if_pos (by decide)]; trace_state; done)
end
end HT
namespace L2
open PySem PySem.Spec PyProof.Rows
section
variable {X : Cx}
noncomputable def rCatT0 (K : PySem.W.Frag) : R2 := fun x y H Q => ∃ a b ys, x = .ref a /\ y = .ref b /\ SqT K H a [] /\ SqT K H b ys /\ Q (.ref b) H
theorem op_catT0 : OpR X (binaryOp .Add) (rCatT0 X.K) := by
 intro pins s σ H x y v u Q I rx ry h
 obtain ⟨a, b, ys, rfl, rfl, ha, hb, q⟩ := h
 cases rx
 cases ry
 obtain ⟨its, r1, p1, _⟩ := I.tuple ha
 obtain ⟨its2, r2, p2, _⟩ := I.tuple hb
 cases r1
 exact HT.cat_tup0 p1 p2 ⟨.ref b, H, I, rfl, q⟩
noncomputable def rSlW (K : PySem.W.Frag) : V -> Option Int -> Option Int -> Hp -> VK -> Prop := fun x lo hi H Q => ∃ a xs, x = .ref a /\ SqT K H a xs /\ (HT.sIx xs.length 0 lo = 0 /\ HT.sIx xs.length xs.length hi = xs.length) /\ Q (.ref a) H
theorem sl_tupW : SlR X (rSlW X.K) := by
 intro pins s σ H x v vl vu lo hi sl Q I rx hs pl pu h
 obtain ⟨a, xs, rfl, hx, hw, q⟩ := h
 cases rx
 obtain ⟨its, r, ht, hz⟩ := I.tuple hx
 have hlen : its.toArray.size = xs.length := by rw [List.size_toArray]; exact r.length.symm
 refine ⟨"tuple", _, PyProof.Rows.slot_tuple_getitem.lookup, ht.typeIs, ?_⟩
 exact HT.getItem_tuple_whole ht hs pl pu (by rw [hlen]; exact hw) ⟨.ref a, H, I, rfl, q⟩
end
end L2
namespace EV
open PySem PySem.Spec PyProof.Rows L2
inductive D where
 | non | bl (b : Bool) | int (i : Int) | str (x : Str)
 | tup (ds : List D) | lst (ds : List D)
 | dK (ks : List Key) (ds : List D) | dT (ks : List (List Key)) (ds : List D)
 | ref (k : Nat) | fn (f : Nat) | scr (ns : List Int) | ktp (ds : List D)
 deriving Inhabited
noncomputable abbrev Store := List D
structure Gm where
 K : PySem.W.Frag
 fa : Nat -> Option Addr
 ca : Nat -> Option Addr
structure G where
 R : Hp
 α : List Addr
noncomputable def KTup (K : PySem.W.Frag) (a : Addr) (xs : List V) : Prop := ∃ (o : Obj) (its : Array Value) (n : Nat), K.lookup a = some o /\ o.cls = .type "tuple" /\ o.data = .seq its n /\ its.size <= sizeLine /\ Vals xs its.toList
mutual
noncomputable def Has (Γ : Gm) (g : G) : D -> V -> Prop
 | .non, v => v = .non
 | .bl b, v => v = .bl b
 | .int i, v => v = .int i
 | .str x, v => v = .str x
 | .tup ds, v => ∃ a vs, v = .ref a /\ g.R a = some (.tup vs) /\ Hass Γ g ds vs
 | .lst ds, v => ∃ a vs, v = .ref a /\ g.R a = some (.lst vs) /\ Hass Γ g ds vs
 | .dK ks ds, v => ∃ a vs, v = .ref a /\ g.R a = some (.dK (ks.zip vs)) /\ ks.length = ds.length /\ Hass Γ g ds vs
 | .dT ks ds, v => ∃ a vs, v = .ref a /\ g.R a = some (.dT (ks.zip vs)) /\ ks.length = ds.length /\ Hass Γ g ds vs
 | .ref k, v => ∃ a, g.α[k]? = some a /\ v = .ref a
 | .fn f, v => ∃ a, Γ.fa f = some a /\ v = .ref a
 | .scr ns, v => ∃ a, v = .ref a /\ SqL Γ.K g.R a (ns.map V.int)
 | .ktp ds, v => ∃ a vs, v = .ref a /\ KTup Γ.K a vs /\ Hass Γ g ds vs
noncomputable def Hass (Γ : Gm) (g : G) : List D -> List V -> Prop
 | [], vs => vs = []
 | d :: ds, vs => ∃ v r, vs = v :: r /\ Has Γ g d v /\ Hass Γ g ds r
end
structure Le (g g' : G) : Prop where
 rr : Same g.R g'.R
 aa : ∀ (k : Nat) (a : Addr), g.α[k]? = some a -> g'.α[k]? = some a
theorem Le.refl (g : G) : Le g g := ⟨Same.refl _, fun _ _ h => h⟩
theorem Le.trans {g g1 g2 : G} (a : Le g g1) (b : Le g1 g2) : Le g g2 := ⟨a.rr.trans b.rr, fun k c h => b.aa k c (a.aa k c h)⟩
mutual
theorem has_mono {Γ : Gm} {g g' : G} (e : Le g g') : ∀ (d : D) (v : V), Has Γ g d v -> Has Γ g' d v
 | .non, _, h => h
 | .bl _, _, h => h
 | .int _, _, h => h
 | .str _, _, h => h
 | .tup ds, _, ⟨a, vs, h1, h2, h3⟩ => ⟨a, vs, h1, e.rr _ _ h2, hass_mono e ds vs h3⟩
 | .lst ds, _, ⟨a, vs, h1, h2, h3⟩ => ⟨a, vs, h1, e.rr _ _ h2, hass_mono e ds vs h3⟩
 | .dK ks ds, _, ⟨a, vs, h1, h2, h4, h3⟩ => ⟨a, vs, h1, e.rr _ _ h2, h4, hass_mono e ds vs h3⟩
 | .dT ks ds, _, ⟨a, vs, h1, h2, h4, h3⟩ => ⟨a, vs, h1, e.rr _ _ h2, h4, hass_mono e ds vs h3⟩
 | .ref k, _, ⟨a, h1, h2⟩ => ⟨a, e.aa _ _ h1, h2⟩
 | .fn f, _, h => h
 | .scr _, _, ⟨a, h1, h2⟩ => ⟨a, h1, e.rr.seq h2⟩
 | .ktp ds, _, ⟨a, vs, h1, h2, h3⟩ => ⟨a, vs, h1, h2, hass_mono e ds vs h3⟩
theorem hass_mono {Γ : Gm} {g g' : G} (e : Le g g') : ∀ (ds : List D) (vs : List V), Hass Γ g ds vs -> Hass Γ g' ds vs
 | [], _, h => h
 | d :: ds, _, ⟨v, r, h1, h2, h3⟩ => ⟨v, r, h1, has_mono e d v h2, hass_mono e ds r h3⟩
end
theorem Has.mono {Γ : Gm} {g g' : G} {d : D} {v : V} (h : Has Γ g d v) (e : Le g g') : Has Γ g' d v := has_mono e d v h
theorem Hass.mono {Γ : Gm} {g g' : G} {d : List D} {v : List V} (h : Hass Γ g d v) (e : Le g g') : Hass Γ g' d v := hass_mono e d v h
mutual
@[simp] noncomputable def noM : D -> Bool
 | .tup ds => noMs ds
 | .lst _ => false
 | .dK _ _ => false
 | .dT _ _ => false
 | .scr _ => false
 | .ref _ => false
 | .ktp ds => noMs ds
 | _ => true
@[simp] noncomputable def noMs : List D -> Bool
 | [] => true
 | d :: ds => noM d && noMs ds
end
structure LeT (K : PySem.W.Frag) (g g' : G) : Prop where
 tt : ∀ a xs, g.R a = some (.tup xs) -> g'.R a = some (.tup xs)
mutual
theorem has_monoT {Γ : Gm} {g g' : G} (e : LeT Γ.K g g') : ∀ (d : D) (v : V), noM d = true -> Has Γ g d v -> Has Γ g' d v
 | .non, _, _, h => h
 | .bl _, _, _, h => h
 | .int _, _, _, h => h
 | .str _, _, _, h => h
 | .tup ds, _, n, ⟨a, vs, h1, h2, h3⟩ => ⟨a, vs, h1, e.tt _ _ h2, hass_monoT e ds vs n h3⟩
 | .lst ds, _, n, _ => absurd (show false = true from n) Bool.false_ne_true
 | .dK ks ds, _, n, _ => absurd (show false = true from n) Bool.false_ne_true
 | .dT ks ds, _, n, _ => absurd (show false = true from n) Bool.false_ne_true
 | .ref k, _, n, _ => absurd (show false = true from n) Bool.false_ne_true
 | .fn f, _, _, h => h
 | .scr _, _, n, _ => absurd (show false = true from n) Bool.false_ne_true
 | .ktp ds, _, n, ⟨a, vs, h1, h2, h3⟩ => ⟨a, vs, h1, h2, hass_monoT e ds vs n h3⟩
theorem hass_monoT {Γ : Gm} {g g' : G} (e : LeT Γ.K g g') : ∀ (ds : List D) (vs : List V), noMs ds = true -> Hass Γ g ds vs -> Hass Γ g' ds vs
 | [], _, _, h => h
 | d :: ds, _, n, ⟨v, r, h1, h2, h3⟩ => by
  have n' : (noM d && noMs ds) = true := n
  rw [Bool.and_eq_true] at n'
  exact ⟨v, r, h1, has_monoT e d v n'.1 h2, hass_monoT e ds r n'.2 h3⟩
end
section
variable {Γ : Gm} {g : G}
theorem Hass.len : ∀ {ds : List D} {vs : List V}, Hass Γ g ds vs -> vs.length = ds.length
 | [], _, h => by cases (show _ = [] from h); rfl
 | d :: ds, _, ⟨v, r, h1, _, h3⟩ => by subst h1; simp [Hass.len h3]
theorem Hass.get : ∀ {ds : List D} {vs : List V} {i : Nat} {d : D}, Hass Γ g ds vs -> ds[i]? = some d -> ∃ v, vs[i]? = some v /\ Has Γ g d v
 | [], _, _, _, _, e => by simp at e
 | d :: ds, _, 0, _, ⟨v, r, h1, h2, _⟩, e => by subst h1; simp at e; subst e; exact ⟨v, rfl, h2⟩
 | d :: ds, _, i + 1, _, ⟨v, r, h1, _, h3⟩, e => by
  subst h1
  obtain ⟨u, q, hu⟩ := Hass.get (i := i) h3 (by simpa using e)
  exact ⟨u, by simpa using q, hu⟩
theorem Hass.of : ∀ {ds : List D} {vs : List V}, vs.length = ds.length -> (∀ (i : Nat) (d : D) (v : V), ds[i]? = some d -> vs[i]? = some v -> Has Γ g d v) -> Hass Γ g ds vs
 | [], [], _, _ => rfl
 | d :: ds, v :: vs, hl, h => ⟨v, vs, rfl, h 0 d v rfl rfl, Hass.of (by simpa using hl) fun i d v e1 e2 => h (i + 1) d v (by simpa using e1) (by simpa using e2)⟩
 | [], _ :: _, hl, _ => by simp at hl
 | _ :: _, [], hl, _ => by simp at hl
theorem Hass.one {d : D} {vs : List V} (h : Hass Γ g [d] vs) : ∃ v, vs = [v] /\ Has Γ g d v := by
 obtain ⟨v, r, e, hd, hr⟩ := h
 cases (show r = [] from hr)
 exact ⟨v, e, hd⟩
theorem Hass.two {d e : D} {vs : List V} (h : Hass Γ g [d, e] vs) : ∃ v u, vs = [v, u] /\ Has Γ g d v /\ Has Γ g e u := by
 obtain ⟨v, r, e1, hd, hr⟩ := h
 obtain ⟨u, e2, he⟩ := Hass.one hr
 subst e2
 exact ⟨v, u, e1, hd, he⟩
theorem Hass.mk1 {d : D} {v : V} (h : Has Γ g d v) : Hass Γ g [d] [v] := ⟨v, [], rfl, h, rfl⟩
theorem Hass.app : ∀ {ds es : List D} {vs us : List V}, Hass Γ g ds vs -> Hass Γ g es us -> Hass Γ g (ds ++ es) (vs ++ us)
 | [], _, _, _, h, k => by cases (show _ = [] from h); exact k
 | d :: ds, _, _, _, ⟨v, r, h1, h2, h3⟩, k => by subst h1; exact ⟨v, _, rfl, h2, Hass.app h3 k⟩
theorem Hass.drop {ds : List D} {vs : List V} (n : Nat) (h : Hass Γ g ds vs) : Hass Γ g (ds.drop n) (vs.drop n) := by
 refine Hass.of (by rw [List.length_drop, List.length_drop, h.len]) fun i d v e1 e2 => ?_
 rw [List.getElem?_drop] at e1 e2
 obtain ⟨u, q, hu⟩ := h.get e1
 rw [q] at e2
 cases e2
 exact hu
theorem Hass.take {ds : List D} {vs : List V} (n : Nat) (h : Hass Γ g ds vs) : Hass Γ g (ds.take n) (vs.take n) := by
 refine Hass.of (by rw [List.length_take, List.length_take, h.len]) fun i d v e1 e2 => ?_
 rw [List.getElem?_take] at e1 e2
 split at e1
 ·rename_i hi
  rw [if_pos hi] at e2
  obtain ⟨u, q, hu⟩ := h.get e1
  rw [q] at e2
  cases e2
  exact hu
 ·cases e1
theorem Hass.set {ds : List D} {vs : List V} {d : D} {v : V} (n : Nat) (h : Hass Γ g ds vs) (hd : Has Γ g d v) : Hass Γ g (ds.set n d) (vs.set n v) := by
 refine Hass.of (by rw [List.length_set, List.length_set, h.len]) fun i d' v' e1 e2 => ?_
 rw [List.getElem?_set] at e1 e2
 split at e1
 ·rename_i hi
  rw [if_pos hi] at e2
  split at e1
  ·split at e2
   ·cases e1; cases e2; exact hd
   ·cases e2
  ·cases e1
 ·rename_i hi
  rw [if_neg hi] at e2
  obtain ⟨u, q, hu⟩ := h.get e1
  rw [q] at e2
  cases e2
  exact hu
theorem Hass.ints : ∀ {ns : List Int}, Hass Γ g (ns.map D.int) (ns.map V.int)
 | [] => rfl
 | _ :: _ => ⟨_, _, rfl, rfl, Hass.ints⟩
end
noncomputable def CellOk (Γ : Gm) (H : Hp) (g : G) (a : Addr) : D -> Prop
 | .lst ds => ∃ vs, H a = some (.lst vs) /\ Hass Γ g ds vs
 | .dK ks ds => ∃ vs, H a = some (.dK (ks.zip vs)) /\ ks.length = ds.length /\ Hass Γ g ds vs
 | .dT ks ds => ∃ vs, H a = some (.dT (ks.zip vs)) /\ ks.length = ds.length /\ Hass Γ g ds vs
 | _ => False
theorem CellOk.mono {Γ : Gm} {H H' : Hp} {g g' : G} {a : Addr} {c : D} (h : CellOk Γ H g a c) (e : Le g g') (hh : ∀ o, H a = some o -> H' a = some o) : CellOk Γ H' g' a c := by
 cases c with
 | lst ds => obtain ⟨vs, h1, h2⟩ := h; exact ⟨vs, hh _ h1, h2.mono e⟩
 | dK ks ds => obtain ⟨vs, h1, h3, h2⟩ := h; exact ⟨vs, hh _ h1, h3, h2.mono e⟩
 | dT ks ds => obtain ⟨vs, h1, h3, h2⟩ := h; exact ⟨vs, hh _ h1, h3, h2.mono e⟩
 | non => exact h
 | bl => exact h
 | int => exact h
 | str => exact h
 | tup => exact h
 | ref => exact h
 | fn => exact h
 | scr => exact h
 | ktp => exact h
theorem CellOk.isMut {Γ : Gm} {H : Hp} {g : G} {a : Addr} {c : D} (h : CellOk Γ H g a c) : ∃ o, H a = some o /\ Mut (some o) := by
 cases c with
 | lst ds => obtain ⟨vs, h1, h2⟩ := h; exact ⟨_, h1, True.intro⟩
 | dK ks ds => obtain ⟨vs, h1, h3, h2⟩ := h; exact ⟨_, h1, True.intro⟩
 | dT ks ds => obtain ⟨vs, h1, h3, h2⟩ := h; exact ⟨_, h1, True.intro⟩
 | non => exact h.elim
 | bl => exact h.elim
 | int => exact h.elim
 | str => exact h.elim
 | tup => exact h.elim
 | ref => exact h.elim
 | fn => exact h.elim
 | scr => exact h.elim
 | ktp => exact h.elim
structure WOk (Γ : Gm) (H : Hp) (g : G) (S : Store) : Prop where
 rh : Same g.R H
 len : g.α.length = S.length
 nd : g.α.Nodup
 off : ∀ a ∈ g.α, g.R a = none
 cell : ∀ (k : Nat) (c : D) (a : Addr), S[k]? = some c -> g.α[k]? = some a -> CellOk Γ H g a c
structure Step (H : Hp) (g : G) (H' : Hp) (g' : G) : Prop where
 le : Le g g'
 fr : ∀ a o, H a = some o -> a ∉ g.α -> H' a = some o
 ex : ∀ a o, H a = some o -> ∃ o', H' a = some o'
 na : ∀ a ∈ g'.α, a ∈ g.α \/ H a = none
 nr : ∀ a, g'.R a ≠ none -> g.R a ≠ none \/ H a = none
theorem Step.refl (H : Hp) (g : G) : Step H g H g := ⟨Le.refl g, fun _ _ h _ => h, fun _ o h => ⟨o, h⟩, fun _ h => .inl h, fun _ h => .inl h⟩
theorem Step.noneOf {H H' : Hp} {g g' : G} (s : Step H g H' g') {a : Addr} (h : H' a = none) : H a = none := by
 cases q : H a with
 | none => rfl
 | some o =>
  obtain ⟨o', e⟩ := s.ex a o q
  rw [e] at h; cases h
theorem Step.trans {H H1 H2 : Hp} {g g1 g2 : G} (a : Step H g H1 g1) (b : Step H1 g1 H2 g2) : Step H g H2 g2 where
 le := a.le.trans b.le
 fr := fun x o h n => b.fr x o (a.fr x o h n) fun m => by
  rcases a.na x m with q | q
  ·exact n q
  ·rw [h] at q; cases q
 ex := fun x o h => let ⟨o1, h1⟩ := a.ex x o h; b.ex x o1 h1
 na := fun x m => by
  rcases b.na x m with q | q
  ·exact a.na x q
  ·exact .inr (a.noneOf q)
 nr := fun x m => by
  rcases b.nr x m with q | q
  ·exact a.nr x q
  ·exact .inr (a.noneOf q)
theorem Step.of_same {H H' : Hp} {g g' : G} (s : Same H H') (le : Le g g') (na : ∀ a ∈ g'.α, a ∈ g.α \/ H a = none) (nr : ∀ a, g'.R a ≠ none -> g.R a ≠ none \/ H a = none) : Step H g H' g' :=
 ⟨le, fun a o h _ => s a o h, fun a o h => ⟨o, s a o h⟩, na, nr⟩
noncomputable def VOk (Γ : Gm) (H : Hp) (d : D) (fr : Bool) (v : V) (H' : Hp) (g' : G) : Prop :=
 if fr = true then ∃ a, v = .ref a /\ H a = none /\ g'.R a = none /\ a ∉ g'.α /\ CellOk Γ H' g' a d else Has Γ g' d v
noncomputable def G.put (g : G) (a : Addr) (o : HO) : G := { g with R := upd g.R a o }
noncomputable def G.cell (g : G) (a : Addr) : G := { g with α := g.α ++ [a] }
theorem Le.put {g : G} {a : Addr} {o : HO} (h : g.R a = none) : Le g (g.put a o) := ⟨fun b u q => by
 show upd g.R a o b = some u
 rw [upd_ne (ne_of_none q h)]; exact q, fun _ _ q => q⟩
theorem Le.cell {g : G} {a : Addr} : Le g (g.cell a) := ⟨Same.refl _, fun k b q => by
 show (g.α ++ [a])[k]? = some b
 rw [List.getElem?_append_left (List.getElem?_eq_some_iff.mp q).1]; exact q⟩
section
variable {Γ : Gm} {H H' : Hp} {g g' : G} {S : Store} {d : D} {v : V} {a : Addr}
theorem WOk.put {o : HO} (w : WOk Γ H g S) (h : H a = some o) (hn : g.R a = none) (ha : a ∉ g.α) : WOk Γ H (g.put a o) S where
 rh := fun b u q => by
  by_cases hb : b = a
  ·subst hb
   have q' : upd g.R b o b = some u := q
   rw [upd_same] at q'
   cases q'
   exact h
  ·have q' : upd g.R a o b = some u := q
   rw [upd_ne hb] at q'
   exact w.rh b u q'
 len := w.len
 nd := w.nd
 off := fun b hb => by
  show upd g.R a o b = none
  have hne : b ≠ a := by
   rintro rfl
   exact ha hb
  rw [upd_ne hne]
  exact w.off b hb
 cell := fun k c b h1 h2 => (w.cell k c b h1 h2).mono (Le.put hn) fun _ q => q
theorem Step.put {o : HO} (s : Step H g H' g') (hn : g'.R a = none) (h : H a = none) : Step H g H' (g'.put a o) where
 le := s.le.trans (Le.put hn)
 fr := s.fr
 ex := s.ex
 na := s.na
 nr := fun b q => by
  by_cases hb : b = a
  ·subst hb; exact .inr h
  ·have q' : upd g'.R a o b ≠ none := q
   rw [upd_ne hb] at q'
   exact s.nr b q'
theorem has_frozen {o : HO} (hn : g.R a = none) (ho : H a = some o) (h : CellOk Γ H g a d) : Has Γ (g.put a o) d (.ref a) := by
 have le : Le g (g.put a o) := Le.put hn
 have hr : (g.put a o).R a = some o := upd_same
 cases d with
 | lst ds => obtain ⟨vs, h1, h2⟩ := h; rw [h1] at ho; cases ho; exact ⟨a, vs, rfl, hr, h2.mono le⟩
 | dK ks ds => obtain ⟨vs, h1, h3, h2⟩ := h; rw [h1] at ho; cases ho; exact ⟨a, vs, rfl, hr, h3, h2.mono le⟩
 | dT ks ds => obtain ⟨vs, h1, h3, h2⟩ := h; rw [h1] at ho; cases ho; exact ⟨a, vs, rfl, hr, h3, h2.mono le⟩
 | non => exact h.elim
 | bl => exact h.elim
 | int => exact h.elim
 | str => exact h.elim
 | tup => exact h.elim
 | ref => exact h.elim
 | fn => exact h.elim
 | scr => exact h.elim
 | ktp => exact h.elim
@[simp] noncomputable def isIns : D -> Bool := fun _ => false
theorem freeze {fr : Bool} (s : Step H g H' g') (w : WOk Γ H' g' S) (h : VOk Γ H d fr v H' g') (hi : isIns d = false) : ∃ g2, Step H g H' g2 /\ WOk Γ H' g2 S /\ Has Γ g2 d v /\ Le g' g2 := by
 cases fr with
 | false => exact ⟨g', s, w, h, Le.refl _⟩
 | true =>
  obtain ⟨a, rfl, h0, hn, ha, hc⟩ := (show ∃ a, v = .ref a /\ H a = none /\ g'.R a = none /\ a ∉ g'.α /\ CellOk Γ H' g' a d from h)
  obtain ⟨o, ho, _⟩ := hc.isMut
  exact ⟨g'.put a o, s.put hn h0, w.put ho hn ha, has_frozen hn ho hc, Le.put hn⟩
theorem boxed (s : Step H g H' g') (w : WOk Γ H' g' S) (h : VOk Γ H d true v H' g') : ∃ g2, Step H g H' g2 /\ WOk Γ H' g2 (S ++ [d]) /\ Has Γ g2 (.ref S.length) v := by
 obtain ⟨a, rfl, h0, hn, ha, hc⟩ := (show ∃ a, v = .ref a /\ H a = none /\ g'.R a = none /\ a ∉ g'.α /\ CellOk Γ H' g' a d from h)
 refine ⟨g'.cell a, ⟨s.le.trans Le.cell, s.fr, s.ex, fun b hb => ?_, s.nr⟩, ⟨w.rh, ?_, ?_, fun b hb => ?_, fun k c b h1 h2 => ?_⟩, a, ?_, rfl⟩
 ·rcases List.mem_append.mp hb with q | q
  ·exact s.na b q
  ·rw [List.mem_singleton.mp q]; exact .inr h0
 ·show (g'.α ++ [a]).length = (S ++ [d]).length
  simp [w.len]
 ·show (g'.α ++ [a]).Nodup
  exact nd_snocA w.nd ha
 ·rcases List.mem_append.mp hb with q | q
  ·exact w.off b q
  ·rw [List.mem_singleton.mp q]; exact hn
 ·have h2' : (g'.α ++ [a])[k]? = some b := h2
  by_cases hk : k < S.length
  ·rw [List.getElem?_append_left hk] at h1
   rw [List.getElem?_append_left (by rw [w.len]; exact hk)] at h2'
   exact (w.cell k c b h1 h2').mono Le.cell fun _ q => q
  ·rw [List.getElem?_append_right (by omega)] at h1
   rw [List.getElem?_append_right (by rw [w.len]; omega)] at h2'
   have e0 : k - S.length = 0 := by
    cases q : k - S.length with
    | zero => rfl
    | succ n => rw [q] at h1; simp at h1
   rw [e0] at h1
   rw [w.len, e0] at h2'
   simp at h1 h2'
   subst h1 h2'
   exact hc.mono Le.cell fun _ q => q
 ·show (g'.α ++ [a])[S.length]? = some a
  rw [<- w.len]
  simp
where
 nd_snocA : ∀ {l : List Addr} {k : Addr}, l.Nodup -> ¬ k ∈ l -> (l ++ [k]).Nodup := fun {l k} h hk => by
  rw [List.nodup_append]
  exact ⟨h, by simp, fun x hx y hy => by rw [List.mem_singleton.mp hy]; rintro rfl; exact hk hx⟩
end
end EV
namespace EV
open PySem L2
inductive R (α : Type) where
 | ok (a : α) (S : Store) | exc (c : Nat) (S : Store) | err
theorem non (h : false = true) : false = true := h
theorem nobE {p : Prop} (h : false = true) : p := nomatch h
noncomputable abbrev M (α : Type) := Store -> R α
noncomputable def M.pure {α : Type} (a : α) : M α := fun S => .ok a S
noncomputable def M.bind {α β : Type} (m : M α) (f : α -> M β) : M β := fun S => match m S with
 | .ok a S' => f a S'
 | .exc c S' => .exc c S'
 | .err => .err
noncomputable def M.fail {α : Type} : M α := fun _ => .err
noncomputable def M.of {α : Type} : Option α -> M α
 | some a => M.pure a
 | none => M.fail
noncomputable def M.get : M Store := fun S => .ok S S
noncomputable def M.put (S' : Store) : M Unit := fun _ => .ok () S'
section
variable {α β γ : Type}
@[simp] theorem bind_pure (a : α) (f : α -> M β) : M.bind (M.pure a) f = f a := rfl
@[simp] theorem bind_bind (m : M α) (f : α -> M β) (g : β -> M γ) : M.bind (M.bind m f) g = M.bind m fun a => M.bind (f a) g := by
 funext S
 unfold M.bind
 cases m S <;> rfl
@[simp] theorem bind_ite (c : Prop) [Decidable c] (a b : M α) (f : α -> M β) : M.bind (if c then a else b) f = if c then M.bind a f else M.bind b f := by
 split <;> rfl
@[simp] theorem pure_app (a : α) (S : Store) : M.pure a S = .ok a S := rfl
@[simp] theorem bind_ret (m : M α) : M.bind m (fun a => M.pure a) = m := by
 funext S
 unfold M.bind
 cases m S <;> rfl
theorem bind_app (m : M α) (f : α -> M β) (S : Store) : M.bind m f S = match m S with
 | .ok a S' => f a S'
 | .exc c S' => .exc c S'
 | .err => .err := rfl
theorem bind_ok {m : M α} {f : α -> M β} {S S' : Store} {a : α} (h : m S = .ok a S') : M.bind m f S = f a S' := by
 rw [bind_app, h]
end
inductive Ty where
 | int | bool | str | tuple | list | dict
 deriving DecidableEq
inductive BI where
 | len | abs | int | str | tuple | list | sum | all | any | isinst (t : Ty) | min2 | max2 | sorted
 deriving DecidableEq
inductive MT where
 | get1 | get2 | index | join | split
 deriving DecidableEq
inductive T where
 | one (i : Nat) | tup (is : List Nat) | nst (i : Nat) (is : List Nat)
 deriving DecidableEq
inductive E where
 | var (i : Nat) | con (d : D) | glo (n : Nat) (d : D)
 | bin (op : Operator) (a b : E) | neg (a : E)
 | cmp (op : CmpOp) (a b : E) | chn (o1 o2 : CmpOp) (a b c : E)
 | not (a : E) | and (a b : E) | or (a b : E)
 | ite (c a b : E)
 | tup (es : List E) | lst (es : List E) | dic (tk : Bool) (ks : List Key) (vs : List E)
 | sub (a i : E) | slc (a : E) (lo hi : Option E)
 | bi (b : BI) (es : List E) | mth (m : MT) (o : E) (es : List E)
 | call (f : Nat) (es : List E) | callk (f : Nat) (perm : List Nat) (es : List E) | callv (i : Nat) (es : List E)
 | comp (t : T) (js : List Nat) (it : E) (ifs : List E) (elt : E)
 | box (e : E) | one (e : E) | flip (e : E)
 | seq (e : E) | rng (lo : Option E) (hi : E) | enum (e : E) | zip (a b : E) | rev (e : E) | items (e : E)
inductive C where
 | set (t : T) (e : E)
 | expr (e : E)
 | ret (e : E) | retN
 | ite (c : E) (a b : List C)
 | whl (c : E) (b : List C)
 | forr (t : T) (it : E) (b : List C)
 | app (i : Nat) (e : E) | ext (i : Nat) (e : E)
 | stv (i : Nat) (k v : E) | sti (o k v : E) | appR (o e : E) | pop (i : Nat) | popR (t : T) (o : E)
 | pass | brk | cnt
noncomputable def LIM : Nat := 1000000
noncomputable def fits (n : Nat) : Bool := n <= LIM
noncomputable def small64 (i : Int) : Bool := decide (-(2 ^ 64) < i) && decide (i < 2 ^ 64)
noncomputable def addD : D -> D -> Option (D × Bool)
 | .int i, .int j => some (.int (i + j), false)
 | .str x, .str y => if fits (x.length + y.length) then some (.str (x ++ y), false) else none
 | .tup a, .tup b => if fits (a.length + b.length) then some (.tup (a ++ b), false) else none
 | .lst a, .lst b => if fits (a.length + b.length) then some (.lst (a ++ b), true) else none
 | _, _ => none
noncomputable def mulD : D -> D -> Option (D × Bool)
 | .int i, .int j => if small64 i || small64 j then some (.int (i * j), false) else none
 | .lst l, .int n => if decide (0 <= n) && decide (n < 2 ^ 20) && fits (l.length * n.toNat) then some (.lst (List.replicate n.toNat l).flatten, true) else none
 | _, _ => none
noncomputable def num2 (f : Int -> Int -> Option Int) : D -> D -> Option (D × Bool)
 | .int i, .int j => (f i j).map fun k => (.int k, false)
 | _, _ => none
noncomputable def opD (op : Operator) (a b : D) : Option (D × Bool) := match op with
 | .Add => addD a b
 | .Sub => num2 (fun i j => some (i - j)) a b
 | .Mult => mulD a b
 | .FloorDiv => num2 (fun i j => if decide (0 < j) && decide (j < 2 ^ 64) then some (i / j) else none) a b
 | .Mod => num2 (fun i j => if decide (0 < j) then some (i % j) else none) a b
 | .Pow => num2 (fun i j => if decide (0 <= j) && decide (j <= 1000000) && small64 i then some (i ^ j.toNat) else none) a b
 | _ => none
mutual
noncomputable def eqP : D -> D -> Bool
 | .non, .non => true
 | .bl a, .bl b => a == b
 | .bl a, .int j => (if a then 1 else 0) == j
 | .int i, .bl b => i == (if b then 1 else 0)
 | .int a, .int b => a == b
 | .str a, .str b => a == b
 | .tup a, .tup b => eqPs a b
 | .lst a, .lst b => eqPs a b
 | _, _ => false
noncomputable def eqPs : List D -> List D -> Bool
 | [], [] => true
 | a :: as, b :: bs => eqP a b && eqPs as bs
 | _, _ => false
end
mutual
noncomputable def okP : Nat -> D -> Bool
 | _, .non => true
 | _, .bl _ => true
 | _, .int _ => true
 | _, .str _ => true
 | 0, .tup _ => false
 | n + 1, .tup a => okPs n a
 | 0, .lst _ => false
 | n + 1, .lst a => okPs n a
 | _, _ => false
noncomputable def okPs : Nat -> List D -> Bool
 | _, [] => true
 | n, a :: as => okP n a && okPs n as
end
noncomputable def eqD (a b : D) : Option Bool := if okP 60 a && okP 60 b then some (eqP a b) else none
noncomputable def keyD : D -> Option Key
 | .int i => some (.inl i)
 | .str x => some (.inr x)
 | _ => none
noncomputable def keysD : List D -> Option (List Key)
 | [] => some []
 | d :: ds => match keyD d, keysD ds with
  | some k, some ks => some (k :: ks)
  | _, _ => none
noncomputable def findK {κ : Type} [DecidableEq κ] : List κ -> κ -> Option Nat
 | [], _ => none
 | k :: ks, x => if k = x then some 0 else (findK ks x).map (· + 1)
noncomputable def lookK {κ : Type} [DecidableEq κ] (ks : List κ) (ds : List D) (k : κ) : Option D := (findK ks k).bind fun i => ds[i]?
noncomputable def mapK {κ α : Type} [DecidableEq κ] : List κ -> List α -> κ -> α -> List α
 | k :: ks, d :: ds, x, y => (if k = x then y else d) :: mapK ks ds x y
 | _, ds, _, _ => ds
noncomputable def hasK {κ : Type} [DecidableEq κ] (ks : List κ) (k : κ) : Bool := ks.any fun x => decide (x = k)
noncomputable def putKs {κ α : Type} [DecidableEq κ] (ks : List κ) (ds : List α) (k : κ) (d : α) : List κ × List α :=
 if hasK ks k = true then (ks, mapK ks ds k d) else (ks ++ [k], ds ++ [d])
noncomputable def isNone : D -> Bool
 | .non => true
 | _ => false
noncomputable def dgetD : D -> D -> Option (Option D)
 | .dK ks ds, k => (keyD k).map (lookK ks ds)
 | .dT ks ds, .tup t => (keysD t).map (lookK ks ds)
 | _, _ => none
noncomputable def isSc : D -> Bool
 | .non => true
 | .bl _ => true
 | .int _ => true
 | .str _ => true
 | _ => false
noncomputable def memD (l : List D) (d : D) : Option Bool := if isSc d && l.all isSc then some (l.any fun y => eqP y d) else none
noncomputable def deref (S : Store) : D -> D
 | .ref k => (S[k]?).getD .non
 | d => d
noncomputable def int2 (f : Int -> Int -> Bool) : D -> D -> Option Bool
 | .int i, .int j => some (f i j)
 | _, _ => none
noncomputable def isD (a : D) : D -> Option Bool
  | .non => some (isNone a)
  | .bl b => (match a with
    | .bl a => some (a == b)
    | _ => none)
  | _ => none
noncomputable def inD (a : D) : D -> Option Bool
 | .lst l => memD l a
 | .tup l => memD l a
 | .ktp l => memD l a
 | .dK ks ds => (dgetD (.dK ks ds) a).map (·.isSome)
 | .dT ks ds => (dgetD (.dT ks ds) a).map (·.isSome)
 | _ => none
noncomputable def cmpD (op : CmpOp) (a b : D) : Option Bool := match op with
 | .Eq => eqD a b
 | .NotEq => (eqD a b).map (!·)
 | .Lt => int2 (fun i j => decide (i < j)) a b
 | .LtE => int2 (fun i j => decide (i <= j)) a b
 | .Gt => int2 (fun i j => decide (j < i)) a b
 | .GtE => int2 (fun i j => decide (j <= i)) a b
 | .Is => isD a b
 | .IsNot => (isD a b).map (!·)
 | .In => inD a b
 | .NotIn => (inD a b).map (!·)
noncomputable abbrev idx (n : Nat) (i : Int) : Option Nat := ixN n i
noncomputable def subD : D -> D -> Option D
 | .tup l, .int i => (idx l.length i).bind fun k => l[k]?
 | .lst l, .int i => (idx l.length i).bind fun k => l[k]?
 | .scr l, .int i => (idx l.length i).bind fun k => (l[k]?).map D.int
 | .str x, .int i => if fits x.length then (idx x.cps.toList.length i).bind fun k => (x.cps.toList[k]?).map fun c => .str ⟨#[c]⟩ else none
 | .dK ks ds, k => (dgetD (.dK ks ds) k).bind id
 | .dT ks ds, k => (dgetD (.dT ks ds) k).bind id
 | _, _ => none
noncomputable def cutD (l : List D) (lo hi : Option Int) : List D := (l.drop (HT.sIx l.length 0 lo)).take (HT.sIx l.length l.length hi - HT.sIx l.length 0 lo)
noncomputable def boundD : Option D -> Option (Option Int)
 | none => some none
 | some (.int i) => some (some i)
 | _ => none
noncomputable def slcD (d : D) (lo hi : Option Int) : Option (D × Bool) :=
 match d with
 | .tup l => some (.tup (cutD l lo hi), false)
 | .lst l => some (.lst (cutD l lo hi), true)
 | .scr l => some (.lst (cutD (l.map D.int) lo hi), true)
 | _ => none
noncomputable def flipD : D -> Option (D × Bool)
 | .lst l => some (.lst l.reverse, true)
 | _ => none
noncomputable def intsD : List D -> Option (List Int)
 | [] => some []
 | .int i :: r => (intsD r).map (i :: ·)
 | _ :: _ => none
noncomputable def boolsD : List D -> Option (List Bool)
 | [] => some []
 | .bl b :: r => (boolsD r).map (b :: ·)
 | _ :: _ => none
noncomputable def isTy : Ty -> D -> Option Bool
 | t, .int _ => some (t == .int)
 | t, .bl _ => some (t == .bool || t == .int)
 | t, .str _ => some (t == .str)
 | t, .tup _ => some (t == .tuple)
 | t, .lst _ => some (t == .list)
 | t, .dK _ _ => some (t == .dict)
 | t, .non => some false
 | _, _ => none
noncomputable def seqD : D -> Option (List D)
 | .tup l => some l
 | .lst l => some l
 | .scr l => some (l.map D.int)
 | .ktp l => some l
 | _ => none
noncomputable def lenD : D -> Option (D × Bool)
 | .tup l => some (.int l.length, false)
 | .lst l => some (.int l.length, false)
 | .scr l => some (.int l.length, false)
 | .str x => if fits x.length then some (.int x.length, false) else none
 | .dK ks _ => some (.int ks.length, false)
 | _ => none
noncomputable def absD : D -> Option (D × Bool)
 | .int i => some (.int (if i < 0 then -i else i), false)
 | _ => none
noncomputable def intOf : D -> Option (D × Bool)
 | .bl b => some (.int (if b then 1 else 0), false)
 | .int i => some (.int i, false)
 | _ => none
noncomputable def lotD : D -> Option (List D)
 | .lst l => some l
 | .tup l => some l
 | _ => none
noncomputable def onL (f : List D -> Option D) : D -> Option (D × Bool)
 | .lst l => (f l).map fun d => (d, false)
 | _ => none
noncomputable def biD (b : BI) (ds : List D) : Option (D × Bool) := match ds with
  | [d] => (match b with
    | .len => lenD d
    | .abs => absD d
    | .int => intOf d
    | .tuple => (lotD d).map fun l => (.tup l, false)
    | .list => (lotD d).map fun l => (.lst l, true)
    | .sum => onL (fun l => (intsD l).map fun ns => .int ns.sum) d
    | .all => onL (fun l => (boolsD l).map fun bs => .bl (bs.all id)) d
    | .any => onL (fun l => (boolsD l).map fun bs => .bl (bs.any id)) d
    | .isinst t => (isTy t d).map fun b => (.bl b, false)
    | _ => none)
  | _ => none
noncomputable def idxD : List D -> D -> Option Nat
 | [], _ => none
 | d :: ds, x => if eqP d x = true then some 0 else (idxD ds x).map (· + 1)
noncomputable def mthK : MT -> D -> Bool
 | .index, .lst _ => true
 | .get1, .dK _ _ => true
 | .get1, .dT _ _ => true
 | .get2, .dK _ _ => true
 | .get2, .dT _ _ => true
 | _, _ => false
noncomputable def mthD : MT -> D -> List D -> Option (D × Bool)
 | .index, .lst l, [x] => if okPs 59 l && okP 59 x then (idxD l x).map fun (i : Nat) => (.int (i : Int), false) else none
 | .get1, d, [k] => (dgetD d k).map fun o => (o.getD .non, false)
 | .get2, d, [k, x] => (dgetD d k).map fun o => (o.getD x, false)
 | _, _, _ => none
mutual
noncomputable def isPure : E -> Bool
 | .var _ => true | .con _ => true | .glo _ _ => true
 | .bin _ a b => isPure a && isPure b
 | .neg a => isPure a
 | .cmp _ a b => isPure a && isPure b
 | .chn _ _ a b c => isPure a && isPure b && isPure c
 | .not a => isPure a
 | .and a b => isPure a && isPure b
 | .or a b => isPure a && isPure b
 | .ite c a b => isPure c && isPure a && isPure b
 | .tup es => isPures es
 | .lst es => isPures es
 | .dic _ _ vs => isPures vs
 | .sub a i => isPure a && isPure i
 | .slc a lo hi => isPure a && isPureO lo && isPureO hi
 | .bi _ es => isPures es
 | .mth _ o es => isPure o && isPures es
 | .call _ _ => false | .callk _ _ _ => false | .callv _ _ => false
 | .comp _ _ it ifs elt => isPure it && isPures ifs && isPure elt
 | .box _ => false | .one e => isPure e | .flip e => isPure e
 | .seq e => isPure e | .rng lo hi => isPureO lo && isPure hi
 | .enum e => isPure e | .zip a b => isPure a && isPure b | .rev e => isPure e | .items e => isPure e
noncomputable def isPures : List E -> Bool
 | [] => true
 | e :: es => isPure e && isPures es
noncomputable def isPureO : Option E -> Bool
 | none => true
 | some e => isPure e
end
mutual
noncomputable def occ : E -> List Nat
 | .var i => [i] | .con _ => [] | .glo _ _ => []
 | .bin _ a b => occ a ++ occ b
 | .neg a => occ a
 | .cmp _ a b => occ a ++ occ b
 | .chn _ _ a b c => occ a ++ occ b ++ occ c
 | .not a => occ a
 | .and a b => occ a ++ occ b
 | .or a b => occ a ++ occ b
 | .ite c a b => occ c ++ occ a ++ occ b
 | .tup es => occs es
 | .lst es => occs es
 | .dic _ _ vs => occs vs
 | .sub a i => occ a ++ occ i
 | .slc a lo hi => occ a ++ occO lo ++ occO hi
 | .bi _ es => occs es
 | .mth _ o es => occ o ++ occs es
 | .call _ es => occs es | .callk _ _ es => occs es | .callv i es => i :: occs es
 | .comp _ js it _ _ => js ++ occ it
 | .box e => occ e | .one e => occ e | .flip e => occ e
 | .seq e => occ e | .rng lo hi => occO lo ++ occ hi
 | .enum e => occ e | .zip a b => occ a ++ occ b | .rev e => occ e | .items e => occ e
noncomputable def occs : List E -> List Nat
 | [] => []
 | e :: es => occ e ++ occs es
noncomputable def occO : Option E -> List Nat
 | none => []
 | some e => occ e
end
noncomputable abbrev Cf := Nat -> List D -> M (D × Bool)
noncomputable def asData (p : D × Bool) : M D := if isIns p.1 then M.fail else M.pure p.1
noncomputable def asB (p : D × Bool) : M Bool := match p.1 with
 | .bl b => M.pure b
 | _ => M.fail
noncomputable def setT (ρ : List (Option D)) : T -> D -> Option (List (Option D))
 | .one i, d => if i < ρ.length then some (ρ.set i (some d)) else none
 | .tup is, .tup ds => if is.length = ds.length /\ is.Nodup then some ((is.zip ds).foldl (fun r p => r.set p.1 (some p.2)) ρ) else none
 | _, _ => none
noncomputable def nT : T -> Nat
 | .one _ => 1
 | .nst _ is => 1 + is.length
 | .tup is => is.length
noncomputable def enumD : Nat -> List D -> List D
 | _, [] => []
 | n, d :: ds => .tup [.int n, d] :: enumD (n + 1) ds
noncomputable def enumS : D -> Option (List D)
 | .tup l => some l
 | .lst l => some l
 | _ => none
noncomputable def rangeD (lo hi : Int) : List D := (List.range (hi - lo).toNat).map fun (k : Nat) => .int (lo + (k : Int))
noncomputable def walkM (step : D -> M (Option D)) : List D -> List D -> M (List D)
 | [], acc => M.pure acc
 | d :: ds, acc => M.bind (step d) fun o => match o with
  | some x => if fits (acc.length + 1) then walkM step ds (acc ++ [x]) else M.fail
  | none => walkM step ds acc
noncomputable def dicOk (tk : Bool) (ks : List Key) (ds : List D) : Bool := decide (ks.length = ds.length) && decide ks.Nodup && decide (ks.length <= 15) && (!tk || ks.isEmpty)
mutual
noncomputable def ev (cf : Cf) (ρ : List (Option D)) : E -> M (D × Bool)
 | .var i => match ρ[i]? with
  | some (some d) => M.pure (d, false)
  | _ => M.fail
 | .con d => M.pure (d, false)
 | .glo _ d => M.pure (d, false)
 | .bin op a b => M.bind (ev cf ρ a) fun x => M.bind (asData x) fun x => M.bind (ev cf ρ b) fun y => M.bind (asData y) fun y => M.bind M.get fun S => M.of (opD op (deref S x) (deref S y))
 | .neg a => M.bind (ev cf ρ a) fun x => match x.1 with
  | .int i => M.pure (.int (-i), false)
  | _ => M.fail
 | .cmp op a b => M.bind (ev cf ρ a) fun x => M.bind (asData x) fun x => M.bind (ev cf ρ b) fun y => M.bind (asData y) fun y => M.bind M.get fun S =>
  M.bind (M.of (cmpD op (deref S x) (deref S y))) fun b => M.pure (D.bl b, false)
 | .chn o1 o2 a b c => M.bind (ev cf ρ a) fun x => M.bind (asData x) fun x => M.bind (ev cf ρ b) fun y => M.bind (asData y) fun y =>
  M.bind M.get fun S => M.bind (M.of (cmpD o1 (deref S x) (deref S y))) fun r => if r = true then M.bind (ev cf ρ c) fun z => M.bind (asData z) fun z => M.bind M.get fun S => M.bind (M.of (cmpD o2 (deref S y) (deref S z))) fun r => M.pure (D.bl r, false) else M.pure (D.bl false, false)
 | .not a => M.bind (ev cf ρ a) fun x => M.bind (asB x) fun b => M.pure (D.bl (!b), false)
 | .and a b => M.bind (ev cf ρ a) fun x => match x.1 with
  | .bl true => ev cf ρ b
  | .bl false => M.pure (D.bl false, false)
  | _ => M.fail
 | .or a b => M.bind (ev cf ρ a) fun x => match x.1 with
  | .bl false => ev cf ρ b
  | .bl true => M.pure (D.bl true, false)
  | _ => M.fail
 | .ite c a b => M.bind (ev cf ρ c) fun x => M.bind (asB x) fun t => if t = true then ev cf ρ a else ev cf ρ b
 | .tup es => M.bind (evs cf ρ es) fun ds => if fits ds.length then M.pure (.tup ds, false) else M.fail
 | .lst es => M.bind (evs cf ρ es) fun ds => if fits ds.length then M.pure (.lst ds, true) else M.fail
 | .dic tk ks vs => M.bind (evs cf ρ vs) fun ds => if dicOk tk ks ds then M.pure (if tk = true then (.dT [] [], true) else (.dK ks ds, true)) else M.fail
 | .sub a i => M.bind (ev cf ρ a) fun x => M.bind (asData x) fun x => M.bind (ev cf ρ i) fun y => M.bind (asData y) fun y => M.bind M.get fun S =>
  M.bind (M.of (subD (deref S x) y)) fun d => M.pure (d, false)
 | .slc a lo hi => M.bind (ev cf ρ a) fun x => M.bind (asData x) fun x => M.bind (evO cf ρ lo) fun l => M.bind (evO cf ρ hi) fun h =>
  M.bind (M.of (boundD l)) fun l => M.bind (M.of (boundD h)) fun h => M.bind M.get fun S => M.of (slcD (deref S x) l h)
 | .bi b es => M.bind (evs cf ρ es) fun ds => M.bind M.get fun S => M.of (biD b (ds.map (deref S)))
 | .mth m o es => M.bind (ev cf ρ o) fun x => M.bind (asData x) fun x => M.bind M.get fun S => if mthK m (deref S x) = true then M.bind (evs cf ρ es) fun ds => M.bind M.get fun S => M.of (mthD m (deref S x) ds) else M.fail
 | .call f es => M.bind (evs cf ρ es) fun ds => cf f ds
 | .callk f perm es => M.bind (evs cf ρ es) fun ds => M.bind (M.of (perm.mapM fun i => ds[i]?)) fun ds => cf f ds
 | .callv i es => match ρ[i]? with
  | some (some (.fn f)) => M.bind (evs cf ρ es) fun ds => cf f ds
  | _ => M.fail
 | .comp t js it ifs elt => M.bind (evI cf ρ it) fun its =>
  M.bind (walkM (fun d => match setT (List.replicate (nT t) none ++ js.map fun j => (ρ[j]?).getD none) t d with
   | some ρ' => M.bind (evIfs cf ρ' ifs) fun b => if b = true then M.bind (ev cf ρ' elt) fun x => M.bind (asData x) fun x => M.pure (some x) else M.pure none
   | none => M.fail) its []) fun ds => M.pure (.lst ds, true)
 | .box e => M.bind (ev cf ρ e) fun x => if x.2 = true then M.bind M.get fun S => M.bind (M.put (S ++ [x.1])) fun _ => M.pure (.ref S.length, false) else M.fail
 | .one e => ev cf ρ e
 | .flip e => M.bind (ev cf ρ e) fun x => M.bind (asData x) fun x => M.bind M.get fun S => M.of (flipD (deref S x))
 | .seq _ => M.fail
 | .rng _ _ => M.fail
 | .enum _ => M.fail
 | .zip _ _ => M.fail
 | .rev _ => M.fail
 | .items _ => M.fail
noncomputable def evs (cf : Cf) (ρ : List (Option D)) : List E -> M (List D)
 | [] => M.pure []
 | e :: es => M.bind (ev cf ρ e) fun x => M.bind (asData x) fun x => M.bind (evs cf ρ es) fun ds => M.pure (x :: ds)
noncomputable def evO (cf : Cf) (ρ : List (Option D)) : Option E -> M (Option D)
 | none => M.pure none
 | some e => M.bind (ev cf ρ e) fun x => M.bind (asData x) fun x => M.pure (some x)
noncomputable def evIfs (cf : Cf) (ρ : List (Option D)) : List E -> M Bool
 | [] => M.pure true
 | e :: es => M.bind (ev cf ρ e) fun x => M.bind (asB x) fun x => if x = true then evIfs cf ρ es else M.pure false
noncomputable def evI (cf : Cf) (ρ : List (Option D)) : E -> M (List D)
 | .rng none hi => M.bind (ev cf ρ hi) fun x => match x.1 with
  | .int h => if fits h.toNat && decide (-1000000 <= h) then M.pure (rangeD 0 h) else M.fail
  | _ => M.fail
 | .rng (some lo) hi => M.bind (ev cf ρ lo) fun y => M.bind (ev cf ρ hi) fun x => match y.1, x.1 with
  | .int l, .int h => if fits (h - l).toNat && decide (-1000000 <= h) && decide (-1000000 <= l) && decide (h <= 1000000) && decide (l <= 1000000) then M.pure (rangeD l h) else M.fail
  | _, _ => M.fail
 | .enum e => M.bind (ev cf ρ e) fun x => M.bind (asData x) fun x => M.bind (M.of (enumS x)) fun l => M.pure (enumD 0 l)
 | .seq e => M.bind (ev cf ρ e) fun x => M.bind (asData x) fun x => M.of (seqD x)
 | _ => M.fail
end
end EV
namespace EV
open PySem L2
inductive Slot where
 | no | sh (d : D) | ow (d : D)
 deriving Inhabited
noncomputable def Slot.vis (b : Bool) : Slot -> Option D
 | .no => none
 | .sh d => some d
 | .ow d => if b = true then some d else none
noncomputable def visFrom (oc : List Nat) : Nat -> List Slot -> List (Option D)
 | _, [] => []
 | n, s :: r => s.vis (oc.contains n) :: visFrom oc (n + 1) r
noncomputable def visO (oc : List Nat) (ρ : List Slot) : List (Option D) := visFrom oc 0 ρ
noncomputable def Slot.fr1 : Slot -> Slot
 | .ow d => .sh d
 | s => s
noncomputable def Slot.frz (b : Bool) (s : Slot) : Slot := if b = true then s.fr1 else s
noncomputable def frzFrom (oc : List Nat) : Nat -> List Slot -> List Slot
 | _, [] => []
 | n, s :: r => s.frz (oc.contains n) :: frzFrom oc (n + 1) r
noncomputable def frzO (oc : List Nat) (ρ : List Slot) : List Slot := frzFrom oc 0 ρ
noncomputable def Slot.isOw : Slot -> Bool
 | .ow _ => true
 | _ => false
noncomputable def owFrom (oc : List Nat) : Nat -> List Slot -> Bool
 | _, [] => false
 | n, s :: r => (oc.contains n && s.isOw) || owFrom oc (n + 1) r
noncomputable def clean (d : D) (fr : Bool) : Bool :=
  if fr = true then (match d with
    | .lst ds => noMs ds
    | .dK _ ds => noMs ds
    | .dT _ ds => noMs ds
    | _ => false) else noM d
inductive O where
 | next (ρ : List Slot) | ret (d : D) (fr : Bool) | brk (ρ : List Slot) | cnt (ρ : List Slot)
noncomputable def useE (cf : Cf) (ρ : List Slot) (e : E) : M ((D × Bool) × List Slot) :=
 M.bind M.get fun S0 => M.bind (ev cf (visO (occ e) ρ) e) fun x => if owFrom (occ e) 0 ρ = true then (if isPure e && clean x.1 x.2 then M.bind (M.put S0) fun _ => M.pure (x, ρ) else M.pure (x, frzO (occ e) ρ)) else M.pure (x, ρ)
noncomputable def useB (cf : Cf) (ρ : List Slot) (e : E) : M (Bool × List Slot) :=
 M.bind (useE cf ρ e) fun p => M.bind (asB p.1) fun b => M.pure (b, p.2)
noncomputable def useI (cf : Cf) (ρ : List Slot) (e : E) : M (List D × List Slot) :=
 M.bind (evI cf (visO (occ e) ρ) e) fun l => M.pure (l, frzO (occ e) ρ)
noncomputable def useD (cf : Cf) (ρ : List Slot) (e : E) : M (D × List Slot) :=
 M.bind (useE cf ρ e) fun p => M.bind (asData p.1) fun d => M.pure (d, p.2)
noncomputable def nst2 : D -> Option (D × List D)
  | .tup l => (match l with
    | x :: r => (match r with
      | y :: z => (match z with
        | [] => (match y with
          | .tup ds => some (x, ds)
          | _ => none)
        | _ => none)
      | _ => none)
    | _ => none)
  | _ => none
theorem nst2_is {d : D} {p : D × List D} (h : nst2 d = some p) : d = .tup [p.1, .tup p.2] := by
 cases d with
 | tup l =>
  cases l with
  | nil => cases h
  | cons x r =>
   cases r with
   | nil => cases h
   | cons y z =>
    cases z with
    | cons _ _ => cases h
    | nil =>
     cases y with
     | tup ds => cases h; rfl
     | _ => cases h
 | _ => cases h
noncomputable def bindT (ρ : List Slot) : T -> D × Bool -> Option (List Slot)
 | .one i, (d, fr) => if i < ρ.length && !isIns d then some (ρ.set i (if fr = true then .ow d else .sh d)) else none
 | .tup is, (.tup ds, _) => if is.length = ds.length /\ is.Nodup /\ is.all (· < ρ.length) then some ((is.zip ds).foldl (fun r p => r.set p.1 (.sh p.2)) ρ) else none
 | .nst i is, (d, _) => (nst2 d).bind fun p => if i < ρ.length /\ is.length = p.2.length /\ is.Nodup /\ is.all (· < ρ.length) then some ((is.zip p.2).foldl (fun r p => r.set p.1 (.sh p.2)) (ρ.set i (.sh p.1))) else none
 | _, _ => none
noncomputable def popM (m : M (D × List Slot)) : M ((D × Bool) × List Slot) := M.bind m fun r => match r.1 with
 | .ref n => M.bind M.get fun S => match S[n]? with
  | some (.lst ds) => M.bind (M.of ds.getLast?) fun d => M.bind (M.put (S.set n (.lst ds.dropLast))) fun _ => M.pure ((d, false), r.2)
  | _ => M.fail
 | _ => M.fail
noncomputable def whileM (test : List Slot -> M (Bool × List Slot)) (body : List Slot -> M O) : Nat -> List Slot -> M O
 | 0, _ => M.fail
 | n + 1, ρ => M.bind (test ρ) fun p => if p.1 = true then M.bind (body p.2) fun o => match o with
  | .next ρ' => whileM test body n ρ'
  | .cnt ρ' => whileM test body n ρ'
  | .brk ρ' => M.pure (.next ρ')
  | .ret d fr => M.pure (.ret d fr) else M.pure (.next p.2)
noncomputable def forM (t : T) (body : List Slot -> M O) : List D -> List Slot -> M O
 | [], ρ => M.pure (.next ρ)
 | d :: ds, ρ => M.bind (M.of (bindT ρ t (d, false))) fun ρ1 => M.bind (body ρ1) fun o => match o with
  | .next ρ' => forM t body ds ρ'
  | .cnt ρ' => forM t body ds ρ'
  | .brk ρ' => M.pure (.next ρ')
  | .ret d fr => M.pure (.ret d fr)
noncomputable def putD : D -> D -> D -> Option D
 | .lst l, .int i, d => (idx l.length i).map fun k => .lst (l.set k d)
 | .dK ks ds, k, d => (keyD k).bind fun k => if fits (ks.length + 1) then some (let p := putKs ks ds k d; .dK p.1 p.2) else none
 | .dT ks ds, .tup t, d => (keysD t).bind fun k => if fits (ks.length + 1) then some (let p := putKs ks ds k d; .dT p.1 p.2) else none
 | _, _, _ => none
noncomputable def isLst : Option D -> Bool
 | some (.lst _) => true
 | _ => false
noncomputable def extD : D -> Option (List D)
 | .lst l => some l
 | _ => none
mutual
noncomputable def ex (cf : Cf) (w : Nat) : C -> List Slot -> M O
 | .set t e, ρ => M.bind (useE cf ρ e) fun p => M.bind (M.of (bindT p.2 t p.1)) fun ρ => M.pure (.next ρ)
 | .expr e, ρ => M.bind (useE cf ρ e) fun p => M.pure (.next p.2)
 | .ret (.var i), ρ => match ρ[i]? with
  | some (.sh d) => M.pure (.ret d false)
  | some (.ow d) => M.pure (.ret d true)
  | _ => M.fail
 | .ret e, ρ => M.bind (useE cf ρ e) fun p => if isIns p.1.1 then M.fail else M.pure (.ret p.1.1 p.1.2)
 | .retN, _ => M.pure (.ret .non false)
 | .ite c a b, ρ => M.bind (useB cf ρ c) fun p => if p.1 = true then exs cf w a p.2 else exs cf w b p.2
 | .whl c b, ρ => whileM (fun ρ => useB cf ρ c) (fun ρ => exs cf w b ρ) w ρ
 | .forr t it b, ρ => M.bind (useI cf ρ it) fun p => forM t (fun ρ => exs cf w b ρ) p.1 p.2
 | .app i e, ρ => M.bind (useD cf ρ e) fun p => match p.2[i]? with
  | some (.ow (.lst ds)) => if fits (ds.length + 1) then M.pure (.next (p.2.set i (.ow (.lst (ds ++ [p.1]))))) else M.fail
  | _ => M.fail
 | .ext i e, ρ => M.bind (useD cf ρ e) fun p => M.bind (M.of (extD p.1)) fun l => match p.2[i]? with
  | some (.ow (.lst ds)) => if fits (ds.length + l.length) then M.pure (.next (p.2.set i (.ow (.lst (ds ++ l))))) else M.fail
  | _ => M.fail
 | .stv i k v, ρ => M.bind (useD cf ρ v) fun p => M.bind (useD cf p.2 k) fun q => match q.2[i]? with
  | some (.ow c) => M.bind (M.of (putD c q.1 p.1)) fun c' => M.pure (.next (q.2.set i (.ow c')))
  | _ => M.fail
 | .sti o k v, ρ => M.bind (useD cf ρ v) fun p => M.bind (useD cf p.2 o) fun r => M.bind (useD cf r.2 k) fun q => match r.1 with
  | .ref n => M.bind M.get fun S => match S[n]? with
   | some c => M.bind (M.of (putD c q.1 p.1)) fun c' => M.bind (M.put (S.set n c')) fun _ => M.pure (.next q.2)
   | none => M.fail
  | _ => M.fail
 | .appR o e, ρ => M.bind (useD cf ρ o) fun r => match r.1 with
  | .ref n => M.bind M.get fun S0 => if isLst S0[n]? = true then M.bind (useD cf r.2 e) fun p => M.bind M.get fun S => match S[n]? with
   | some (.lst ds) => if fits (ds.length + 1) then M.bind (M.put (S.set n (.lst (ds ++ [p.1])))) fun _ => M.pure (.next p.2) else M.fail
   | _ => M.fail else M.fail
  | _ => M.fail
 | .pop i, ρ => match ρ[i]? with
  | some (.ow (.lst ds)) => if ds.isEmpty then M.fail else M.pure (.next (ρ.set i (.ow (.lst ds.dropLast))))
  | _ => M.fail
 | .popR t o, ρ => M.bind (popM (useD cf ρ o)) fun p => M.bind (M.of (bindT p.2 t p.1)) fun ρ' => M.pure (.next ρ')
 | .pass, ρ => M.pure (.next ρ)
 | .brk, ρ => M.pure (.brk ρ)
 | .cnt, ρ => M.pure (.cnt ρ)
noncomputable def exs (cf : Cf) (w : Nat) : List C -> List Slot -> M O
 | [], ρ => M.pure (.next ρ)
 | c :: cs, ρ => M.bind (ex cf w c ρ) fun o => match o with
  | .next ρ' => exs cf w cs ρ'
  | o => M.pure o
end
structure Fn where
 np : Nat
 nv : Nat
 body : List C
noncomputable def entry (fn : Fn) (ds : List D) : List Slot := ds.map Slot.sh ++ List.replicate (fn.nv - ds.length) Slot.no
noncomputable def told : O -> M (D × Bool)
 | .ret d fr => M.pure (d, fr)
 | .next _ => M.pure (.non, false)
 | _ => M.fail
noncomputable def call (F : Nat -> Option Fn) (w : Nat) : Nat -> Cf
 | 0 => fun _ _ => M.fail
 | k + 1 => fun f ds => match F f with
  | some fn => if ds.length = fn.np then M.bind (exs (call F w k) w fn.body (entry fn ds)) told else M.fail
  | none => M.fail
end EV
namespace EV
open PySem PySem.Spec PyProof.Rows L2
noncomputable def Rdb (Γ : Gm) (H : Hp) (g : G) : D -> V -> Prop
 | .tup ds, v => ∃ a vs, v = .ref a /\ g.R a = some (.tup vs) /\ Hass Γ g ds vs
 | .lst ds, v => ∃ a vs, v = .ref a /\ H a = some (.lst vs) /\ Hass Γ g ds vs
 | .dK ks ds, v => ∃ a vs, v = .ref a /\ H a = some (.dK (ks.zip vs)) /\ ks.length = ds.length /\ Hass Γ g ds vs
 | .dT ks ds, v => ∃ a vs, v = .ref a /\ H a = some (.dT (ks.zip vs)) /\ ks.length = ds.length /\ Hass Γ g ds vs
 | .non, v => v = .non
 | .bl b, v => v = .bl b
 | .int i, v => v = .int i
 | .str x, v => v = .str x
 | .ref _, _ => False
 | .fn f, v => ∃ a, Γ.fa f = some a /\ v = .ref a
 | .scr ns, v => ∃ a, v = .ref a /\ SqL Γ.K H a (ns.map V.int)
 | .ktp ds, v => ∃ a vs, v = .ref a /\ KTup Γ.K a vs /\ Hass Γ g ds vs
section
variable {Γ : Gm} {H H' : Hp} {g g' : G} {S : Store} {d : D} {v : V} {a : Addr}
theorem rdb_of (w : WOk Γ H g S) (h : Has Γ g d v) : Rdb Γ H g (deref S d) v := by
 cases d with
 | non => exact h
 | bl => exact h
 | int => exact h
 | str => exact h
 | fn f => exact h
 | tup ds => exact h
 | lst ds => obtain ⟨a, vs, h1, h2, h3⟩ := h; exact ⟨a, vs, h1, w.rh _ _ h2, h3⟩
 | scr ns => obtain ⟨a, h1, h2⟩ := h; exact ⟨a, h1, w.rh.seq h2⟩
 | dK ks ds => obtain ⟨a, vs, h1, h2, h4, h3⟩ := h; exact ⟨a, vs, h1, w.rh _ _ h2, h4, h3⟩
 | dT ks ds => obtain ⟨a, vs, h1, h2, h4, h3⟩ := h; exact ⟨a, vs, h1, w.rh _ _ h2, h4, h3⟩
 | ktp => exact h
 | ref k =>
  obtain ⟨a, h1, rfl⟩ := h
  have hk : k < S.length := by rw [<- w.len]; exact (List.getElem?_eq_some_iff.mp h1).1
  have e : S[k]? = some S[k] := List.getElem?_eq_getElem hk
  have c := w.cell k _ a e h1
  show Rdb Γ H g ((S[k]?).getD .non) (.ref a)
  rw [e]
  show Rdb Γ H g S[k] (.ref a)
  generalize S[k] = x at c
  cases x with
  | lst ds => obtain ⟨vs, h1, h2⟩ := c; exact ⟨a, vs, rfl, h1, h2⟩
  | dK ks ds => obtain ⟨vs, h1, h3, h2⟩ := c; exact ⟨a, vs, rfl, h1, h3, h2⟩
  | dT ks ds => obtain ⟨vs, h1, h3, h2⟩ := c; exact ⟨a, vs, rfl, h1, h3, h2⟩
  | non => exact c.elim
  | bl => exact c.elim
  | int => exact c.elim
  | str => exact c.elim
  | tup => exact c.elim
  | ref => exact c.elim
  | fn => exact c.elim
  | scr => exact c.elim
  | ktp => exact c.elim
noncomputable def Fin (Γ : Gm) (H : Hp) (g : G) (S : Store) (d : D) (fr : Bool) (Q : VK) : Prop :=
 ∀ v H' g', Step H g H' g' -> Same H H' -> WOk Γ H' g' S -> VOk Γ H d fr v H' g' -> Q v H'
variable {Q : VK}
theorem fin_val (w : WOk Γ H g S) (q : Fin Γ H g S d false Q) (h : Has Γ g d v) : Q v H := q v H g (Step.refl H g) (Same.refl H) w h
theorem WOk.laid {o : HO} (w : WOk Γ H g S) (h : H a = none) : WOk Γ (upd H a o) g S where
 rh := fun b u q => by
  have e := w.rh b u q
  rw [upd_ne (ne_of_none e h)]; exact e
 len := w.len
 nd := w.nd
 off := w.off
 cell := fun k c b h1 h2 => (w.cell k c b h1 h2).mono (Le.refl g) fun o e => by rw [upd_ne (ne_of_none e h)]; exact e
theorem WOk.notR (w : WOk Γ H g S) (h : H a = none) : g.R a = none := by
 cases q : g.R a with
 | none => rfl
 | some o => rw [w.rh a o q] at h; cases h
theorem WOk.notA (w : WOk Γ H g S) (h : H a = none) : a ∉ g.α := fun m => by
 obtain ⟨k, hk, e⟩ := List.getElem_of_mem m
 have hk' : k < S.length := by rw [<- w.len]; exact hk
 obtain ⟨o, ho, _⟩ := (w.cell k _ a (List.getElem?_eq_getElem hk') (by rw [List.getElem?_eq_getElem hk, e])).isMut
 rw [ho] at h; cases h
theorem same_upd {o : HO} (h : H a = none) : Same H (upd H a o) := fun b u q => by rw [upd_ne (ne_of_none q h)]; exact q
theorem fin_tup {ds : List D} {vs : List V} (w : WOk Γ H g S) (q : Fin Γ H g S (.tup ds) false Q) (h : Hass Γ g ds vs) (ha : H a = none) : Q (.ref a) (upd H a (.tup vs)) := by
 have hr := w.notR ha
 refine q _ _ (g.put a (.tup vs)) ?_ (same_upd ha) ((w.laid ha).put upd_same hr (w.notA ha)) ⟨a, vs, rfl, upd_same, h.mono (Le.put hr)⟩
 exact (Step.of_same (same_upd ha) (Le.refl g) (fun _ h => .inl h) fun _ h => .inl h).put hr ha
theorem fin_lst {ds : List D} {vs : List V} (w : WOk Γ H g S) (q : Fin Γ H g S (.lst ds) true Q) (h : Hass Γ g ds vs) (ha : H a = none) : Q (.ref a) (upd H a (.lst vs)) :=
 q _ _ g (Step.of_same (same_upd ha) (Le.refl g) (fun _ h => .inl h) fun _ h => .inl h) (same_upd ha) (w.laid ha) ⟨a, rfl, ha, w.notR ha, w.notA ha, vs, upd_same, h⟩
end
theorem lim_lt {n : Nat} (h : fits n = true) : n < sizeLine := Nat.lt_of_le_of_lt (of_decide_eq_true h) (by decide)
theorem lim_le {n : Nat} (h : fits n = true) : n <= sizeLine := Nat.le_of_lt (lim_lt h)
noncomputable def RDo (Γ : Gm) (r : R2) (a b : D) (d : D) (fr : Bool) : Prop :=
 ∀ (S : Store) (H : Hp) (g : G) (x y : V) (Q : VK), WOk Γ H g S -> Rdb Γ H g a x -> Rdb Γ H g b y -> Fin Γ H g S d fr Q -> r x y H Q
section
variable {X : Cx} {Γ : Gm}
noncomputable def rCatS : R2 := fun x y H Q => ∃ l b xs zs, x = .ref l /\ y = .ref b /\ H l = some (.lst xs) /\ H b = some (.lst zs) /\ xs.length + zs.length <= sizeLine /\ ∀ p, H p = none -> Q (.ref p) (upd H p (.lst (xs ++ zs)))
theorem op_catS : OpR X (binaryOp .Add) rCatS := by
 intro pins s σ H x y v u Q I rx ry h
 obtain ⟨l, b, xs, zs, rfl, rfl, hH, hB, hz, q⟩ := h
 cases rx
 cases ry
 obtain ⟨z, its, n, r, e⟩ := I.hok _ _ hH
 obtain ⟨z2, its2, n2, r2, e2⟩ := I.hok _ _ hB
 have hl := r.length
 have hl2 := r2.length
 refine PySem.P.add_list e e2 ?_ (by rw [List.size_toArray, List.size_toArray]; omega)
 have ea : its.toArray ++ its2.toArray = (its ++ its2).toArray := by simp
 rw [ea]
 exact ⟨.ref _, _, I.lnew (t' := s.toks) (r.append r2) (by rw [List.length_append]; omega), rfl, q _ I.fresh⟩
theorem hass_rep {g : G} {ds : List D} {vs : List V} (h : Hass Γ g ds vs) : ∀ n : Nat, Hass Γ g (List.replicate n ds).flatten (List.replicate n vs).flatten
 | 0 => rfl
 | n + 1 => by
  rw [List.replicate_succ, List.replicate_succ, List.flatten_cons, List.flatten_cons]
  exact h.app (hass_rep h n)
theorem vals_rep {xs : List V} {us : List Value} (h : Vals xs us) : ∀ n : Nat, Vals (List.replicate n xs).flatten (List.replicate n us).flatten
 | 0 => .nil
 | n + 1 => by
  rw [List.replicate_succ, List.replicate_succ, List.flatten_cons, List.flatten_cons]
  exact h.append (vals_rep h n)
theorem rep_arr (us : List Value) : ∀ (n : Nat) (acc : List Value), List.foldl (fun x1 x2 => x1 ++ x2) acc.toArray (List.replicate n us.toArray) = (acc ++ (List.replicate n us).flatten).toArray
 | 0, acc => by simp
 | n + 1, acc => by
  rw [List.replicate_succ, List.foldl_cons, List.append_toArray, rep_arr us n, List.replicate_succ, List.flatten_cons, List.append_assoc]
noncomputable def rRepS : R2 := fun x y H Q => ∃ l xs n, x = .ref l /\ y = .int n /\ H l = some (.lst xs) /\ 0 <= n /\ n < 2 ^ 20 /\ xs.length * n.toNat <= sizeLine /\ ∀ p, H p = none -> Q (.ref p) (upd H p (.lst (List.replicate n.toNat xs).flatten))
theorem op_repS : OpR X (binaryOp .Mult) rRepS := by
 intro pins s σ H x y v u Q I rx ry h
 obtain ⟨l, xs, k, rfl, rfl, hH, k0, k1, hz, q⟩ := h
 cases rx
 obtain ⟨t, rfl⟩ := ry
 obtain ⟨z, its, n, r, e⟩ := I.hok _ _ hH
 have hl := r.length
 have hi : s.heap.get? l = some { cls := .type "list", dict := none, data := .seq its.toArray n, slots := #[] } := e
 have hz' : its.toArray.size * k.toNat <= 2 ^ 24 := by
  rw [List.size_toArray, <- hl]
  rw [sizeLine_eq] at hz
  omega
 refine wpAny_binaryOp_repeat_ref (T := "list") (U := "int") (by decide) ⟨_, hi, rfl⟩ (fun s' => typeIs_int s' k t) noFill_list_mul F.fills_int_mul F.slot_int_rmul repeat_list F.slot_int_index.lookup
  (call_meets F.slot_int_rmul (typeIs_int s k t) F.entry_int_rmul (F.args_int_rmul_2 _ _) (int___rmul___int_list k t l its.toArray n)
   ⟨hi, rfl, ⟨_, hi, rfl⟩, call_meets F.slot_list_mul ⟨_, hi, rfl⟩ F.entry_list_mul (F.args_list_mul_2 _ _)
    (AutoListH.list___mul___list_int_3 l its.toArray n k t (by simp [Builtin.List.listFitsIndex]; omega) (by omega) (by simp [Builtin.List.listTooLong, sizeLine]; rw [List.size_toArray] at hz'; omega))
    ⟨hi, ?_⟩⟩)
 have ea : List.foldl (fun x1 x2 => x1 ++ x2) #[] (List.replicate (if its.toArray.isEmpty = true then 0 else k.toNat) its.toArray) = ((List.replicate k.toNat its).flatten).toArray := by
  cases its with
  | nil =>
   have : (List.replicate k.toNat ([] : List Value)).flatten = [] := by induction k.toNat with
    | zero => rfl
    | succ n ih => rw [List.replicate_succ, List.flatten_cons, ih]; rfl
   rw [this]; rfl
  | cons a l =>
   have : ((a :: l).toArray.isEmpty = true) = False := by simp
   rw [if_neg (by rw [this]; exact id)]
   have := rep_arr (a :: l) k.toNat []
   simpa using this
 rw [ea]
 exact ⟨.ref _, _, I.lnew (t' := s.toks) (vals_rep r _) (by
  have : (List.replicate k.toNat xs).flatten.length = xs.length * k.toNat := by
   rw [List.length_flatten, List.map_replicate, List.sum_replicate_nat, Nat.mul_comm]
  rw [this]; exact hz), rfl, q _ I.fresh⟩
theorem num2_is {f : Int -> Int -> Option Int} {a b : D} {p : D × Bool} (h : num2 f a b = some p) : ∃ i j k, a = .int i /\ b = .int j /\ f i j = some k /\ p = (.int k, false) := by
 cases a with
 | int i =>
  cases b with
  | int j =>
   obtain ⟨k, e, rfl⟩ := Option.map_eq_some_iff.mp (show (f i j).map (fun k => (D.int k, false)) = some p from h)
   exact ⟨i, j, k, rfl, rfl, e, rfl⟩
  | _ => cases h
 | _ => cases h
theorem add_rdo {a b : D} {d : D} {fr : Bool} (hK : X.K = Γ.K) (h : addD a b = some (d, fr)) : ∃ r, OpR X (binaryOp .Add) r /\ RDo Γ r a b d fr := by
 cases a with
 | int i =>
  cases b with
  | int j =>
   cases h
   exact ⟨_, op_add, fun S H g x y Q w hx hy q => ⟨_, _, hx, hy, fin_val w q rfl⟩⟩
  | _ => cases h
 | str s =>
  cases b with
  | str u =>
   have h : (if fits (s.length + u.length) = true then some (D.str (s ++ u), false) else none) = some (d, fr) := h
   split at h
   ·rename_i hf
    cases h
    exact ⟨_, op_add_str, fun S H g x y Q w hx hy q => ⟨_, _, hx, hy, lim_le hf, fin_val w q rfl⟩⟩
   ·cases h
  | _ => cases h
 | tup s =>
  cases b with
  | tup u =>
   have h : (if fits (s.length + u.length) = true then some (D.tup (s ++ u), false) else none) = some (d, fr) := h
   split at h
   ·rename_i hf
    cases h
    refine ⟨_, op_catT.or op_catT0, fun S H g x y Q w ⟨a, xs, e1, e2, e3⟩ ⟨b, ys, f1, f2, f3⟩ q => ?_⟩
    rw [hK]
    have h1 := e3.len
    have h2 := f3.len
    have hz := lim_le hf
    by_cases hx : xs = []
    ·subst hx
     refine .inr ⟨a, b, ys, e1, f1, SqT.of (w.rh _ _ e2), SqT.of (w.rh _ _ f2), ?_⟩
     have e0 := List.length_eq_zero_iff.mp h1.symm
     subst e0
     exact fin_val w q ⟨b, ys, rfl, f2, f3⟩
    ·refine .inl ⟨a, b, xs, ys, e1, f1, SqT.of (w.rh _ _ e2), SqT.of (w.rh _ _ f2), hx, by omega, fun z => ?_, fun _ p hp => fin_tup w q (e3.app f3) hp⟩
     subst z
     have e0 := List.length_eq_zero_iff.mp h2.symm
     subst e0
     refine fin_val w q ⟨a, xs, rfl, e2, ?_⟩
     rw [List.append_nil]
     exact e3
   ·cases h
  | _ => cases h
 | lst s =>
  cases b with
  | lst u =>
   have h : (if fits (s.length + u.length) = true then some (D.lst (s ++ u), true) else none) = some (d, fr) := h
   split at h
   ·rename_i hf
    cases h
    refine ⟨_, op_catS, fun S H g x y Q w ⟨a, xs, e1, e2, e3⟩ ⟨b, ys, f1, f2, f3⟩ q => ?_⟩
    have h1 := e3.len
    have h2 := f3.len
    have hz := lim_le hf
    exact ⟨a, b, xs, ys, e1, f1, e2, f2, by omega, fun p hp => fin_lst w q (e3.app f3) hp⟩
   ·cases h
  | _ => cases h
 | _ => cases h
theorem mul_rdo {a b : D} {d : D} {fr : Bool} (h : mulD a b = some (d, fr)) : ∃ r, OpR X (binaryOp .Mult) r /\ RDo Γ r a b d fr := by
 cases a with
 | int i =>
  cases b with
  | int j =>
   have h : (if (small64 i || small64 j) = true then some (D.int (i * j), false) else none) = some (d, fr) := h
   split at h
   ·rename_i hf
    cases h
    refine ⟨_, op_mul, fun S H g x y Q w hx hy q => ⟨_, _, hx, hy, ?_, fin_val w q rfl⟩⟩
    simp only [small64, Bool.or_eq_true, Bool.and_eq_true, decide_eq_true_eq] at hf
    exact hf
   ·cases h
  | _ => cases h
 | lst l =>
  cases b with
  | int n =>
   have h : (if (decide (0 <= n) && decide (n < 2 ^ 20) && fits (l.length * n.toNat)) = true then some (D.lst (List.replicate n.toNat l).flatten, true) else none) = some (d, fr) := h
   split at h
   ·rename_i hf
    cases h
    simp only [Bool.and_eq_true, decide_eq_true_eq] at hf
    refine ⟨_, op_repS, fun S H g x y Q w ⟨a, xs, e1, e2, e3⟩ hy q => ?_⟩
    have h1 := e3.len
    have hz := lim_le hf.2
    exact ⟨a, xs, _, e1, hy, e2, hf.1.1, hf.1.2, by rw [h1]; exact hz, fun p hp => fin_lst w q (hass_rep e3 _) hp⟩
   ·cases h
  | _ => cases h
 | _ => cases h
theorem op_rdo {op : Operator} {a b : D} {d : D} {fr : Bool} (hK : X.K = Γ.K) (h : opD op a b = some (d, fr)) : ∃ r, OpR X (binaryOp op) r /\ RDo Γ r a b d fr := by
 cases op with
 | Add => exact add_rdo hK h
 | Mult => exact mul_rdo h
 | Sub =>
  obtain ⟨i, j, k, rfl, rfl, e, e2⟩ := num2_is h
  cases e
  cases e2
  exact ⟨_, op_sub, fun S H g x y Q w hx hy q => ⟨_, _, hx, hy, fin_val w q rfl⟩⟩
 | FloorDiv =>
  obtain ⟨i, j, k, rfl, rfl, e, e2⟩ := num2_is h
  cases e2
  split at e
  ·rename_i hf
   cases e
   refine ⟨_, op_fdivW, fun S H g x y Q w hx hy q => ⟨_, _, hx, hy, ?_, fin_val w q rfl⟩⟩
   simp only [Bool.and_eq_true, decide_eq_true_eq] at hf
   exact hf
  ·cases e
 | Mod =>
  obtain ⟨i, j, k, rfl, rfl, e, e2⟩ := num2_is h
  cases e2
  split at e
  ·rename_i hf
   cases e
   exact ⟨_, op_mod, fun S H g x y Q w hx hy q => ⟨_, _, hx, hy, of_decide_eq_true hf, fin_val w q rfl⟩⟩
  ·cases e
 | Pow =>
  obtain ⟨i, j, k, rfl, rfl, e, e2⟩ := num2_is h
  cases e2
  split at e
  ·rename_i hf
   cases e
   refine ⟨_, op_pow, fun S H g x y Q w hx hy q => ⟨_, _, hx, hy, ?_, fin_val w q rfl⟩⟩
   simp only [small64, Bool.and_eq_true, decide_eq_true_eq] at hf
   exact ⟨hf.1.1, hf.1.2, by omega⟩
  ·cases e
 | _ => cases h
end
end EV
namespace EV
open PySem PySem.Spec PyProof.Rows L2 SeqAt
section
variable {X : Cx} {pins : List (Addr × Obj)} {σ : L2.St} {H : Hp} {s : Shared} {Γ : Gm} {g : G}
theorem sqt_inj (sr : Same g.R H) {a : Addr} {xs ys : List V} (h : g.R a = some (.tup xs)) (h' : g.R a = some (.tup ys)) : xs = ys := by
 rw [h] at h'; cases h'; rfl
theorem rdl_inj (sr : Same g.R H) {a : Addr} {xs ys : List V} (h : g.R a = some (.lst xs)) (h' : g.R a = some (.lst ys)) : xs = ys := by
 rw [h] at h'; cases h'; rfl
theorem tl_ne (sr : Same g.R H) {a b : Addr} {xs ys : List V} (h : g.R a = some (.lst xs)) (h' : g.R b = some (.tup ys)) : a ≠ b := by
 rintro rfl
 rw [h] at h'; cases h'
mutual
theorem eqP_same (I : Inv X pins σ H s) (hK : X.K = Γ.K) (sr : Same g.R H) : ∀ (n : Nat) (a b : D) (x : V), okP n a = true -> okP n b = true -> Has Γ g a x -> Has Γ g b x -> eqP a b = true
 | n, .non, b, x, _, kb, ha, hb => by
  cases (show x = .non from ha)
  cases b with
  | non => rfl
  | bl => cases (show V.non = _ from hb)
  | int => cases (show V.non = _ from hb)
  | str => cases (show V.non = _ from hb)
  | tup => obtain ⟨_, _, h, _⟩ := hb; cases h
  | lst => obtain ⟨_, _, h, _⟩ := hb; cases h
  | _ => cases n <;> exact nobE kb
 | n, .bl c, b, x, _, kb, ha, hb => by
  cases (show x = .bl c from ha)
  cases b with
  | non => cases (show V.bl c = _ from hb)
  | bl => cases (show V.bl c = _ from hb); exact beq_self_eq_true c
  | int => cases (show V.bl c = _ from hb)
  | str => cases (show V.bl c = _ from hb)
  | tup => obtain ⟨_, _, h, _⟩ := hb; cases h
  | lst => obtain ⟨_, _, h, _⟩ := hb; cases h
  | _ => cases n <;> exact nobE kb
 | n, .int c, b, x, _, kb, ha, hb => by
  cases (show x = .int c from ha)
  cases b with
  | non => cases (show V.int c = _ from hb)
  | bl => cases (show V.int c = _ from hb)
  | int => cases (show V.int c = _ from hb); exact beq_self_eq_true c
  | str => cases (show V.int c = _ from hb)
  | tup => obtain ⟨_, _, h, _⟩ := hb; cases h
  | lst => obtain ⟨_, _, h, _⟩ := hb; cases h
  | _ => cases n <;> exact nobE kb
 | n, .str c, b, x, _, kb, ha, hb => by
  cases (show x = .str c from ha)
  cases b with
  | non => cases (show V.str c = _ from hb)
  | bl => cases (show V.str c = _ from hb)
  | int => cases (show V.str c = _ from hb)
  | str => cases (show V.str c = _ from hb); exact beq_self_eq_true c
  | tup => obtain ⟨_, _, h, _⟩ := hb; cases h
  | lst => obtain ⟨_, _, h, _⟩ := hb; cases h
  | _ => cases n <;> exact nobE kb
 | 0, .tup as, b, x, ka, _, _, _ => nobE ka
 | n + 1, .tup as, b, x, ka, kb, ⟨a, xs, h1, h2, h3⟩, hb => by
  subst h1
  cases b with
  | non => cases (show V.ref a = _ from hb)
  | bl => cases (show V.ref a = _ from hb)
  | int => cases (show V.ref a = _ from hb)
  | str => cases (show V.ref a = _ from hb)
  | tup bs =>
   obtain ⟨a', ys, f1, f2, f3⟩ := hb
   cases f1
   have e := sqt_inj sr h2 f2
   subst e
   exact eqPs_same I hK sr n as bs xs ka kb h3 f3
  | lst bs =>
   obtain ⟨a', ys, f1, f2, f3⟩ := hb
   cases f1
   exact absurd rfl (tl_ne sr f2 h2)
  | _ => exact nobE kb
 | 0, .lst as, b, x, ka, _, _, _ => nobE ka
 | n + 1, .lst as, b, x, ka, kb, ⟨a, xs, h1, h2, h3⟩, hb => by
  subst h1
  cases b with
  | non => cases (show V.ref a = _ from hb)
  | bl => cases (show V.ref a = _ from hb)
  | int => cases (show V.ref a = _ from hb)
  | str => cases (show V.ref a = _ from hb)
  | tup bs =>
   obtain ⟨a', ys, f1, f2, f3⟩ := hb
   cases f1
   exact absurd rfl (tl_ne sr h2 f2)
  | lst bs =>
   obtain ⟨a', ys, f1, f2, f3⟩ := hb
   cases f1
   have e := rdl_inj sr h2 f2
   subst e
   exact eqPs_same I hK sr n as bs xs ka kb h3 f3
  | _ => exact nobE kb
 | n, .dK _ _, b, x, ka, _, _, _ => by revert ka; cases n <;> exact nobE
 | n, .dT _ _, b, x, ka, _, _, _ => by revert ka; cases n <;> exact nobE
 | n, .ref _, b, x, ka, _, _, _ => by revert ka; cases n <;> exact nobE
 | n, .fn _, b, x, ka, _, _, _ => by revert ka; cases n <;> exact nobE
 | n, .scr _, b, x, ka, _, _, _ => by revert ka; cases n <;> exact nobE
 | n, .ktp _, b, x, ka, _, _, _ => by revert ka; cases n <;> exact nobE
theorem eqPs_same (I : Inv X pins σ H s) (hK : X.K = Γ.K) (sr : Same g.R H) : ∀ (n : Nat) (as bs : List D) (xs : List V), okPs n as = true -> okPs n bs = true -> Hass Γ g as xs -> Hass Γ g bs xs -> eqPs as bs = true
 | n, [], bs, xs, _, _, ha, hb => by
  cases (show xs = [] from ha)
  cases bs with
  | nil => rfl
  | cons => obtain ⟨_, _, h, _⟩ := hb; cases h
 | n, a :: as, bs, xs, ka, kb, ⟨v, r, h1, h2, h3⟩, hb => by
  subst h1
  cases bs with
  | nil => cases (show _ = [] from hb)
  | cons b bs =>
   obtain ⟨v', r', f1, f2, f3⟩ := hb
   cases f1
   have ka' : (okP n a && okPs n as) = true := ka
   have kb' : (okP n b && okPs n bs) = true := kb
   rw [Bool.and_eq_true] at ka' kb'
   show (eqP a b && eqPs as bs) = true
   rw [eqP_same I hK sr n a b v ka'.1 kb'.1 h2 f2, eqPs_same I hK sr n as bs r ka'.2 kb'.2 h3 f3]
   rfl
end
theorem eqPs_get : ∀ (as bs : List D), as.length = bs.length -> eqPs as bs = (List.range as.length).all fun i => eqP (as.getD i .non) (bs.getD i .non)
 | [], [], _ => rfl
 | a :: as, b :: bs, h => by
  have ih := eqPs_get as bs (by simpa using h)
  show (eqP a b && eqPs as bs) = _
  rw [ih, List.length_cons, List.range_succ_eq_map, List.all_cons, List.all_map]
  rfl
 | [], _ :: _, h => by simp at h
 | _ :: _, [], h => by simp at h
theorem eqPs_len : ∀ (as bs : List D), as.length ≠ bs.length -> eqPs as bs = false
 | [], [], h => absurd rfl h
 | a :: as, b :: bs, h => by
  show (eqP a b && eqPs as bs) = _
  rw [eqPs_len as bs (by simpa using h), Bool.and_false]
 | [], _ :: _, h => rfl
 | _ :: _, [], h => rfl
theorem items_at {as bs : List D} {xs ys : List V} {us ws : List Value} {n : Nat} {A : Around} (ka : okPs n as = true) (kb : okPs n bs = true) (ha : Hass Γ g as xs) (hb : Hass Γ g bs ys) (ra : Vals xs us) (rb : Vals ys ws)
  (ih : ∀ (a b : D) (x y : V) (u v : Value), a ∈ as -> okP n a = true -> okP n b = true -> Has Γ g a x -> Has Γ g b y -> RelV x u -> RelV y v -> EqAt A s u v (eqP a b)) :
  ∀ (j : Nat) (h1 : j < us.toArray.size) (h2 : j < ws.toArray.size), EqAt A s us.toArray[j] ws.toArray[j] (eqP (as.getD j .non) (bs.getD j .non)) := by
 intro j h1 h2
 have l1 := ra.length
 have l2 := rb.length
 have l3 := ha.len
 have l4 := hb.len
 simp only [List.size_toArray] at h1 h2
 have k1 : j < as.length := by omega
 have k2 : j < bs.length := by omega
 obtain ⟨x, ex, hx⟩ := ha.get (List.getElem?_eq_getElem k1)
 obtain ⟨y, ey, hy⟩ := hb.get (List.getElem?_eq_getElem k2)
 obtain ⟨u, eu, ru⟩ := ra.get ex
 obtain ⟨v, ev, rv⟩ := rb.get ey
 have e1 : us.toArray[j]'(by simpa using h1) = u := by simpa [List.getElem?_eq_getElem h1] using eu
 have e2 : ws.toArray[j]'(by simpa using h2) = v := by simpa [List.getElem?_eq_getElem h2] using ev
 have g1 : as.getD j .non = as[j] := by simp [List.getD_eq_getElem?_getD, k1]
 have g2 : bs.getD j .non = bs[j] := by simp [List.getD_eq_getElem?_getD, k2]
 rw [e1, e2, g1, g2]
 have all : ∀ (l : List D), okPs n l = true -> ∀ d ∈ l, okP n d = true := by
  intro l
  induction l with
  | nil => intro _ d hd; cases hd
  | cons c l il =>
   intro k d hd
   have k' : (okP n c && okPs n l) = true := k
   rw [Bool.and_eq_true] at k'
   rcases List.mem_cons.mp hd with rfl | hd
   ·exact k'.1
   ·exact il k'.2 d hd
 exact ih _ _ x y u v (List.getElem_mem k1) (all as ka _ (List.getElem_mem k1)) (all bs kb _ (List.getElem_mem k2)) hx hy ru rv
theorem isT {a : Addr} {its : Array Value} {h : Heap} (p : IsTup h a its) : h.IsTuple a its := p
theorem units_in1 (A : Around) : A.in1.units = A.units + 1 := rfl
noncomputable def scD : D -> Option V
 | .non => some .non
 | .bl b => some (.bl b)
 | .int i => some (.int i)
 | .str x => some (.str x)
 | _ => none
theorem scD_has {d : D} {w x : V} (h : scD d = some w) (hh : Has Γ g d x) : x = w := by
 cases d <;> first | cases h | skip
 all_goals exact hh
theorem scD_flat {d : D} {w : V} (h : scD d = some w) : flatV w = true := by
 cases d <;> first | cases h | skip
 all_goals rfl
theorem scD_eq {a b : D} {x y : V} (h : scD a = some x) (h' : scD b = some y) : eqV x y = eqP a b := by
 cases a <;> first | cases h | skip
 all_goals (cases b <;> first | cases h' | skip)
 all_goals rfl
theorem okP_cases {n : Nat} {d : D} (h : okP n d = true) : (∃ w, scD d = some w) \/ (∃ m ds, n = m + 1 /\ d = .tup ds /\ okPs m ds = true) \/ (∃ m ds, n = m + 1 /\ d = .lst ds /\ okPs m ds = true) := by
 cases d with
 | non => exact .inl ⟨_, rfl⟩
 | bl => exact .inl ⟨_, rfl⟩
 | int => exact .inl ⟨_, rfl⟩
 | str => exact .inl ⟨_, rfl⟩
 | tup ds => cases n with
  | zero => exact nobE h
  | succ m => exact .inr (.inl ⟨m, ds, rfl, rfl, h⟩)
 | lst ds => cases n with
  | zero => exact nobE h
  | succ m => exact .inr (.inr ⟨m, ds, rfl, rfl, h⟩)
 | _ => cases n <;> exact nobE h
section
variable {A : Around} {l : Addr} {its : Array Value} {w : V} {v : Value} {d : D}
theorem at_tup_sc (p : s.heap.IsTuple l its) (hu : A.units < cLine) (h : scD d = some w) (r : RelV w v) : EqAt A s (.ref l) v false := by
 cases d with
 | non => cases h; cases (show v = Value.none from r); exact EqAt.tuple_none p hu
 | bl b => cases h; cases (show v = Value.bool b from r); exact EqAt.tuple_bool b p hu
 | int i => cases h; obtain ⟨t, rfl⟩ := (show ∃ t, v = Value.int i t from r); exact EqAt.tuple_int i t p hu
 | str i => cases h; obtain ⟨t, rfl⟩ := (show ∃ t, v = Value.str i t from r); exact EqAt.tuple_str i t p hu
 | _ => cases h
theorem at_sc_tup (p : s.heap.IsTuple l its) (hu : A.units < cLine) (h : scD d = some w) (r : RelV w v) : EqAt A s v (.ref l) false := by
 cases d with
 | non => cases h; cases (show v = Value.none from r); exact EqAt.none_tuple p hu
 | bl b => cases h; cases (show v = Value.bool b from r); exact EqAt.bool_tuple b p hu
 | int i => cases h; obtain ⟨t, rfl⟩ := (show ∃ t, v = Value.int i t from r); exact EqAt.int_tuple i t p hu
 | str i => cases h; obtain ⟨t, rfl⟩ := (show ∃ t, v = Value.str i t from r); exact EqAt.str_tuple i t p hu
 | _ => cases h
theorem at_lst_sc (p : s.heap.IsList l its) (hu : A.units < cLine) (h : scD d = some w) (r : RelV w v) : EqAt A s (.ref l) v false := by
 cases d with
 | non => cases h; cases (show v = Value.none from r); exact EqAt.list_none p hu
 | bl b => cases h; cases (show v = Value.bool b from r); exact EqAt.list_bool b p hu
 | int i => cases h; obtain ⟨t, rfl⟩ := (show ∃ t, v = Value.int i t from r); exact EqAt.list_int i t p hu
 | str i => cases h; obtain ⟨t, rfl⟩ := (show ∃ t, v = Value.str i t from r); exact EqAt.list_str i t p hu
 | _ => cases h
theorem at_sc_lst (p : s.heap.IsList l its) (hu : A.units < cLine) (h : scD d = some w) (r : RelV w v) : EqAt A s v (.ref l) false := by
 cases d with
 | non => cases h; cases (show v = Value.none from r); exact EqAt.none_list p hu
 | bl b => cases h; cases (show v = Value.bool b from r); exact EqAt.bool_list b p hu
 | int i => cases h; obtain ⟨t, rfl⟩ := (show ∃ t, v = Value.int i t from r); exact EqAt.int_list i t p hu
 | str i => cases h; obtain ⟨t, rfl⟩ := (show ∃ t, v = Value.str i t from r); exact EqAt.str_list i t p hu
 | _ => cases h
end
theorem eqP_sc_tup {d : D} {w : V} {bs : List D} (h : scD d = some w) : eqP d (.tup bs) = false /\ eqP (.tup bs) d = false /\ eqP d (.lst bs) = false /\ eqP (.lst bs) d = false := by
 cases d <;> first | cases h | skip
 all_goals exact ⟨rfl, rfl, rfl, rfl⟩
theorem rc_tup {as bs : List D} {xs ys : List V} {us ws : List Value} (r1 : Vals xs us) (r2 : Vals ys ws) (h3 : Hass Γ g as xs) (f3 : Hass Γ g bs ys) :
  ((List.range (min us.toArray.size ws.toArray.size)).all (fun j => eqP (as.getD j .non) (bs.getD j .non)) && us.toArray.size == ws.toArray.size) = eqPs as bs := by
 have l1 := r1.length
 have l2 := r2.length
 have l3 := h3.len
 have l4 := f3.len
 simp only [List.size_toArray]
 by_cases hl : as.length = bs.length
 ·rw [eqPs_get as bs hl]
  have m1 : us.length = as.length := by omega
  have m2 : ws.length = as.length := by omega
  rw [m1, m2]
  simp
 ·rw [eqPs_len as bs hl]
  have : ¬ us.length = ws.length := by omega
  simp [this]
theorem rc_lst {as bs : List D} {xs ys : List V} {us ws : List Value} {a b : Addr} {n : Nat} {A : Around} (ka : okPs n as = true) (kb : okPs n bs = true) (p1 : PlainL s.heap a us.toArray) (p2 : PlainL s.heap b ws.toArray) (r1 : Vals xs us) (r2 : Vals ys ws)
  (h3 : Hass Γ g as xs) (f3 : Hass Γ g bs ys) (hu : A.units < cLine) (ih : ∀ (a b : D) (x y : V) (u v : Value), a ∈ as -> okP n a = true -> okP n b = true -> Has Γ g a x -> Has Γ g b y -> RelV x u -> RelV y v -> EqAt A.in1 s u v (eqP a b)) :
  RcAt A s (.ref a) (.ref b) (eqPs as bs) := by
 have l1 := r1.length
 have l2 := r2.length
 have l3 := h3.len
 have l4 := f3.len
 by_cases hl : as.length = bs.length
 ·have k := RcAt.lists p1.isList p2.isList (by simp only [List.size_toArray]; omega) hu (items_at (A := A.in1) ka kb h3 f3 r1 r2 ih)
  have m1 : us.toArray.size = as.length := by simp only [List.size_toArray]; omega
  rw [m1, <- eqPs_get as bs hl] at k
  exact k
 ·rw [eqPs_len as bs hl]
  exact RcAt.lists_lengths (A := A) p1.isList p2.isList (by simp only [List.size_toArray, bne_iff_ne]; omega) hu
theorem eqAt_all (I : Inv X pins σ H s) (hK : X.K = Γ.K) (sr : Same g.R H) : ∀ (n : Nat) (a b : D) (x y : V) (u v : Value) (A : Around), A.units + n + 1 < cLine -> okP n a = true -> okP n b = true -> Has Γ g a x -> Has Γ g b y -> RelV x u -> RelV y v -> EqAt A s u v (eqP a b) := by
 intro n
 induction n with
 | zero =>
  intro a b x y u v A hu ka kb ha hb ru rv
  rcases okP_cases ka with ⟨w, hw⟩ | ⟨m, ds, e, _⟩ | ⟨m, ds, e, _⟩
  ·rcases okP_cases kb with ⟨w', hw'⟩ | ⟨m, ds, e, _⟩ | ⟨m, ds, e, _⟩
   ·rw [scD_has hw ha] at ru
    rw [scD_has hw' hb] at rv
    rw [<- scD_eq hw hw']
    exact eqAt_V ru rv (scD_flat hw) (scD_flat hw')
   ·cases e
   ·cases e
  ·cases e
  ·cases e
 | succ n ih =>
  intro a b x y u v A hu ka kb ha hb ru rv
  have hu' : A.units < cLine := by omega
  have hin : A.in1.units + n + 1 < cLine := by rw [units_in1]; omega
  rcases okP_cases ka with ⟨w, hw⟩ | ⟨m, as, e, e1, kas⟩ | ⟨m, as, e, e1, kas⟩
  ·rcases okP_cases kb with ⟨w', hw'⟩ | ⟨m, bs, e, e2, kbs⟩ | ⟨m, bs, e, e2, kbs⟩
   ·rw [scD_has hw ha] at ru
    rw [scD_has hw' hb] at rv
    rw [<- scD_eq hw hw']
    exact eqAt_V ru rv (scD_flat hw) (scD_flat hw')
   ·subst e2
    rw [scD_has hw ha] at ru
    obtain ⟨b, ys, rfl, f2, f3⟩ := hb
    cases rv
    obtain ⟨ws, r2, p2, _⟩ := I.tuple (SqT.of (sr _ _ f2))
    rw [(eqP_sc_tup hw).1]
    exact at_sc_tup (isT p2) hu' hw ru
   ·subst e2
    rw [scD_has hw ha] at ru
    obtain ⟨b, ys, rfl, f2, f3⟩ := hb
    cases rv
    obtain ⟨ws, r2, p2, _⟩ := I.list (SqL.of (sr _ _ f2))
    rw [(eqP_sc_tup hw).2.2.1]
    exact at_sc_lst p2.isList hu' hw ru
  ·subst e1
   cases e
   obtain ⟨a, xs, rfl, h2, h3⟩ := ha
   cases ru
   obtain ⟨us, r1, p1, _⟩ := I.tuple (SqT.of (sr _ _ h2))
   rcases okP_cases kb with ⟨w', hw'⟩ | ⟨m, bs, e, e2, kbs⟩ | ⟨m, bs, e, e2, kbs⟩
   ·rw [scD_has hw' hb] at rv
    rw [(eqP_sc_tup hw').2.1]
    exact at_tup_sc (isT p1) hu' hw' rv
   ·subst e2
    cases e
    obtain ⟨b, ys, rfl, f2, f3⟩ := hb
    cases rv
    by_cases e : a = b
    ·subst e
     have := eqP_same I hK sr (n + 1) (.tup as) (.tup bs) (.ref a) ka kb ⟨a, xs, rfl, h2, h3⟩ ⟨a, ys, rfl, f2, f3⟩
     rw [this]
     exact EqAt.same _
    ·obtain ⟨ws, r2, p2, _⟩ := I.tuple (SqT.of (sr _ _ f2))
     have k := RcAt.tuples (isT p1) (isT p2) hu' (items_at (A := A.in1) kas kbs h3 f3 r1 r2 fun a b x y u v _ ka kb ha hb ru rv => ih a b x y u v A.in1 hin ka kb ha hb ru rv)
     rw [rc_tup r1 r2 h3 f3] at k
     exact EqAt.of_refs e k
   ·subst e2
    cases e
    obtain ⟨b, ys, rfl, f2, f3⟩ := hb
    cases rv
    obtain ⟨ws, r2, p2, _⟩ := I.list (SqL.of (sr _ _ f2))
    exact EqAt.tuple_list (isT p1) p2.isList hu'
  ·subst e1
   cases e
   obtain ⟨a, xs, rfl, h2, h3⟩ := ha
   cases ru
   obtain ⟨us, r1, p1, _⟩ := I.list (SqL.of (sr _ _ h2))
   rcases okP_cases kb with ⟨w', hw'⟩ | ⟨m, bs, e, e2, kbs⟩ | ⟨m, bs, e, e2, kbs⟩
   ·rw [scD_has hw' hb] at rv
    rw [(eqP_sc_tup hw').2.2.2]
    exact at_lst_sc p1.isList hu' hw' rv
   ·subst e2
    cases e
    obtain ⟨b, ys, rfl, f2, f3⟩ := hb
    cases rv
    obtain ⟨ws, r2, p2, _⟩ := I.tuple (SqT.of (sr _ _ f2))
    exact EqAt.list_tuple p1.isList (isT p2) hu'
   ·subst e2
    cases e
    obtain ⟨b, ys, rfl, f2, f3⟩ := hb
    cases rv
    by_cases e : a = b
    ·subst e
     have := eqP_same I hK sr (n + 1) (.lst as) (.lst bs) (.ref a) ka kb ⟨a, xs, rfl, h2, h3⟩ ⟨a, ys, rfl, f2, f3⟩
     rw [this]
     exact EqAt.same _
    ·obtain ⟨ws, r2, p2, _⟩ := I.list (SqL.of (sr _ _ f2))
     exact EqAt.of_refs e (rc_lst kas kbs p1 p2 r1 r2 h3 f3 hu' fun a b x y u v _ ka kb ha hb ru rv => ih a b x y u v A.in1 hin ka kb ha hb ru rv)
end
end EV
namespace EV
open PySem PySem.Spec PyProof.Rows L2 SeqAt
section
variable {X : Cx} {pins : List (Addr × Obj)} {σ : L2.St} {H : Hp} {s : Shared} {Γ : Gm} {g : G}
section
variable {A : Around} {l : Addr} {its : Array Value} {w : V} {v : Value} {d : D}
theorem rc_tup_sc (p : s.heap.IsTuple l its) (hu : A.units < cLine) (h : scD d = some w) (r : RelV w v) : RcAt A s (.ref l) v false /\ RcAt A s v (.ref l) false /\ RcNeAt A s (.ref l) v true /\ RcNeAt A s v (.ref l) true := by
 cases d with
 | non => cases h; cases (show v = Value.none from r); exact ⟨RcAt.tuple_none p hu, RcAt.none_tuple p hu, RcNeAt.tuple_none p hu, RcNeAt.none_tuple p hu⟩
 | bl b => cases h; cases (show v = Value.bool b from r); exact ⟨RcAt.tuple_bool b p hu, RcAt.bool_tuple b p hu, RcNeAt.tuple_bool b p hu, RcNeAt.bool_tuple b p hu⟩
 | int i => cases h; obtain ⟨t, rfl⟩ := (show ∃ t, v = Value.int i t from r); exact ⟨RcAt.tuple_int i t p hu, RcAt.int_tuple i t p hu, RcNeAt.tuple_int i t p hu, RcNeAt.int_tuple i t p hu⟩
 | str i => cases h; obtain ⟨t, rfl⟩ := (show ∃ t, v = Value.str i t from r); exact ⟨RcAt.tuple_str i t p hu, RcAt.str_tuple i t p hu, RcNeAt.tuple_str i t p hu, RcNeAt.str_tuple i t p hu⟩
 | _ => cases h
theorem rc_lst_sc (p : s.heap.IsList l its) (hu : A.units < cLine) (h : scD d = some w) (r : RelV w v) : RcAt A s (.ref l) v false /\ RcAt A s v (.ref l) false /\ RcNeAt A s (.ref l) v true /\ RcNeAt A s v (.ref l) true := by
 cases d with
 | non => cases h; cases (show v = Value.none from r); exact ⟨RcAt.list_none p hu, RcAt.none_list p hu, RcNeAt.list_none p hu, RcNeAt.none_list p hu⟩
 | bl b => cases h; cases (show v = Value.bool b from r); exact ⟨RcAt.list_bool b p hu, RcAt.bool_list b p hu, RcNeAt.list_bool b p hu, RcNeAt.bool_list b p hu⟩
 | int i => cases h; obtain ⟨t, rfl⟩ := (show ∃ t, v = Value.int i t from r); exact ⟨RcAt.list_int i t p hu, RcAt.int_list i t p hu, RcNeAt.list_int i t p hu, RcNeAt.int_list i t p hu⟩
 | str i => cases h; obtain ⟨t, rfl⟩ := (show ∃ t, v = Value.str i t from r); exact ⟨RcAt.list_str i t p hu, RcAt.str_list i t p hu, RcNeAt.list_str i t p hu, RcNeAt.str_list i t p hu⟩
 | _ => cases h
theorem rc_sc_sc {a b : D} {x y : V} {u v : Value} (h : scD a = some x) (h' : scD b = some y) (r : RelV x u) (r' : RelV y v) : RcAt A s u v (eqP a b) /\ RcNeAt A s u v (!eqP a b) := by
 cases a with
 | non =>
  cases h; cases (show u = Value.none from r)
  cases b with
  | non => cases h'; cases (show v = Value.none from r'); exact ⟨RcAt.none_none, RcNeAt.none_none⟩
  | bl b => cases h'; cases (show v = Value.bool b from r'); exact ⟨RcAt.none_bool _, RcNeAt.none_bool _⟩
  | int b => cases h'; obtain ⟨t, rfl⟩ := (show ∃ t, v = Value.int b t from r'); exact ⟨RcAt.none_int _ _, RcNeAt.none_int _ _⟩
  | str b => cases h'; obtain ⟨t, rfl⟩ := (show ∃ t, v = Value.str b t from r'); exact ⟨RcAt.none_str _ _, RcNeAt.none_str _ _⟩
  | _ => cases h'
 | bl a =>
  cases h; cases (show u = Value.bool a from r)
  cases b with
  | non => cases h'; cases (show v = Value.none from r'); exact ⟨RcAt.bool_none _, RcNeAt.bool_none _⟩
  | bl b => cases h'; cases (show v = Value.bool b from r'); exact ⟨RcAt.bool_bool _ _, RcNeAt.bool_bool _ _⟩
  | int b => cases h'; obtain ⟨t, rfl⟩ := (show ∃ t, v = Value.int b t from r'); exact ⟨RcAt.bool_int _ _ _, RcNeAt.bool_int _ _ _⟩
  | str b => cases h'; obtain ⟨t, rfl⟩ := (show ∃ t, v = Value.str b t from r'); exact ⟨RcAt.bool_str _ _ _, RcNeAt.bool_str _ _ _⟩
  | _ => cases h'
 | int a =>
  cases h; obtain ⟨t', rfl⟩ := (show ∃ t, u = Value.int a t from r)
  cases b with
  | non => cases h'; cases (show v = Value.none from r'); exact ⟨RcAt.int_none _ _, RcNeAt.int_none _ _⟩
  | bl b => cases h'; cases (show v = Value.bool b from r'); exact ⟨RcAt.int_bool _ _ _, RcNeAt.int_bool _ _ _⟩
  | int b => cases h'; obtain ⟨t, rfl⟩ := (show ∃ t, v = Value.int b t from r'); exact ⟨RcAt.int_int _ _ _ _, RcNeAt.int_int _ _ _ _⟩
  | str b => cases h'; obtain ⟨t, rfl⟩ := (show ∃ t, v = Value.str b t from r'); exact ⟨RcAt.int_str _ _ _ _, RcNeAt.int_str _ _ _ _⟩
  | _ => cases h'
 | str a =>
  cases h; obtain ⟨t', rfl⟩ := (show ∃ t, u = Value.str a t from r)
  cases b with
  | non => cases h'; cases (show v = Value.none from r'); exact ⟨RcAt.str_none _ _, RcNeAt.str_none _ _⟩
  | bl b => cases h'; cases (show v = Value.bool b from r'); exact ⟨RcAt.str_bool _ _ _, RcNeAt.str_bool _ _ _⟩
  | int b => cases h'; obtain ⟨t, rfl⟩ := (show ∃ t, v = Value.int b t from r'); exact ⟨RcAt.str_int _ _ _ _, RcNeAt.str_int _ _ _ _⟩
  | str b => cases h'; obtain ⟨t, rfl⟩ := (show ∃ t, v = Value.str b t from r'); exact ⟨RcAt.str_str _ _ _ _, RcNeAt.str_str _ _ _ _⟩
  | _ => cases h'
 | _ => cases h
end
theorem scD_rdb {d : D} {w x : V} (h : scD d = some w) (hh : Rdb Γ H g d x) : x = w := by
 cases d <;> first | cases h | skip
 all_goals exact hh
theorem rc_D (I : Inv X pins σ H s) (hK : X.K = Γ.K) (sr : Same g.R H) (n : Nat) (a b : D) (x y : V) (u v : Value) (A : Around) (hu : A.units + n + 1 < cLine) (ka : okP n a = true) (kb : okP n b = true) (ha : Rdb Γ H g a x) (hb : Rdb Γ H g b y) (ru : RelV x u) (rv : RelV y v) :
  RcAt A s u v (eqP a b) /\ RcNeAt A s u v (!eqP a b) := by
 have hu' : A.units < cLine := by omega
 rcases okP_cases ka with ⟨w, hw⟩ | ⟨m, as, e, e1, kas⟩ | ⟨m, as, e, e1, kas⟩
 ·rcases okP_cases kb with ⟨w', hw'⟩ | ⟨m, bs, e, e2, kbs⟩ | ⟨m, bs, e, e2, kbs⟩
  ·rw [scD_rdb hw ha] at ru
   rw [scD_rdb hw' hb] at rv
   exact rc_sc_sc hw hw' ru rv
  ·subst e2
   rw [scD_rdb hw ha] at ru
   obtain ⟨b, ys, rfl, f2, f3⟩ := hb
   cases rv
   obtain ⟨ws, r2, p2, _⟩ := I.tuple (SqT.of (sr _ _ f2))
   rw [(eqP_sc_tup hw).1]
   have k := rc_tup_sc (A := A) (isT p2) hu' hw ru
   exact ⟨k.2.1, k.2.2.2⟩
  ·subst e2
   rw [scD_rdb hw ha] at ru
   obtain ⟨b, ys, rfl, f2, f3⟩ := hb
   cases rv
   obtain ⟨ws, r2, p2, _⟩ := I.list (SqL.of f2)
   rw [(eqP_sc_tup hw).2.2.1]
   have k := rc_lst_sc (A := A) p2.isList hu' hw ru
   exact ⟨k.2.1, k.2.2.2⟩
 ·subst e1
  cases e
  have hin : A.in1.units + m + 1 < cLine := by rw [units_in1]; omega
  obtain ⟨a, xs, rfl, h2, h3⟩ := ha
  cases ru
  obtain ⟨us, r1, p1, _⟩ := I.tuple (SqT.of (sr _ _ h2))
  rcases okP_cases kb with ⟨w', hw'⟩ | ⟨m', bs, e, e2, kbs⟩ | ⟨m', bs, e, e2, kbs⟩
  ·rw [scD_rdb hw' hb] at rv
   rw [(eqP_sc_tup hw').2.1]
   have k := rc_tup_sc (A := A) (isT p1) hu' hw' rv
   exact ⟨k.1, k.2.2.1⟩
  ·subst e2
   cases e
   obtain ⟨b, ys, rfl, f2, f3⟩ := hb
   cases rv
   obtain ⟨ws, r2, p2, _⟩ := I.tuple (SqT.of (sr _ _ f2))
   have it := items_at (A := A.in1) kas kbs h3 f3 r1 r2 fun a b x y u v _ ka kb ha hb ru rv => eqAt_all I hK sr m a b x y u v A.in1 hin ka kb ha hb ru rv
   have k1 := RcAt.tuples (isT p1) (isT p2) hu' it
   have k2 := RcNeAt.tuples (isT p1) (isT p2) hu' it
   rw [rc_tup r1 r2 h3 f3] at k1 k2
   exact ⟨k1, k2⟩
  ·subst e2
   cases e
   obtain ⟨b, ys, rfl, f2, f3⟩ := hb
   cases rv
   obtain ⟨ws, r2, p2, _⟩ := I.list (SqL.of f2)
   exact ⟨RcAt.tuple_list (isT p1) p2.isList hu', RcNeAt.tuple_list (isT p1) p2.isList hu'⟩
 ·subst e1
  cases e
  have hin : A.in1.units + m + 1 < cLine := by rw [units_in1]; omega
  obtain ⟨a, xs, rfl, h2, h3⟩ := ha
  cases ru
  obtain ⟨us, r1, p1, _⟩ := I.list (SqL.of h2)
  rcases okP_cases kb with ⟨w', hw'⟩ | ⟨m', bs, e, e2, kbs⟩ | ⟨m', bs, e, e2, kbs⟩
  ·rw [scD_rdb hw' hb] at rv
   rw [(eqP_sc_tup hw').2.2.2]
   have k := rc_lst_sc (A := A) p1.isList hu' hw' rv
   exact ⟨k.1, k.2.2.1⟩
  ·subst e2
   cases e
   obtain ⟨b, ys, rfl, f2, f3⟩ := hb
   cases rv
   obtain ⟨ws, r2, p2, _⟩ := I.tuple (SqT.of (sr _ _ f2))
   exact ⟨RcAt.list_tuple p1.isList (isT p2) hu', RcNeAt.list_tuple p1.isList (isT p2) hu'⟩
  ·subst e2
   cases e
   obtain ⟨b, ys, rfl, f2, f3⟩ := hb
   cases rv
   obtain ⟨ws, r2, p2, _⟩ := I.list (SqL.of f2)
   have ih : ∀ (a b : D) (x y : V) (u v : Value), a ∈ as -> okP m a = true -> okP m b = true -> Has Γ g a x -> Has Γ g b y -> RelV x u -> RelV y v -> EqAt A.in1 s u v (eqP a b) := fun a b x y u v _ ka kb ha hb ru rv => eqAt_all I hK sr m a b x y u v A.in1 hin ka kb ha hb ru rv
   refine ⟨rc_lst kas kbs p1 p2 r1 r2 h3 f3 hu' ih, ?_⟩
   have l1 := r1.length
   have l2 := r2.length
   have l3 := h3.len
   have l4 := f3.len
   show RcNeAt A s _ _ (!eqPs as bs)
   by_cases hl : as.length = bs.length
   ·have k := RcNeAt.lists p1.isList p2.isList (by simp only [List.size_toArray]; omega) hu' (items_at (A := A.in1) kas kbs h3 f3 r1 r2 ih)
    have m1 : us.toArray.size = as.length := by simp only [List.size_toArray]; omega
    rw [m1, <- eqPs_get as bs hl] at k
    exact k
   ·rw [eqPs_len as bs hl]
    exact RcNeAt.lists_lengths (A := A) p1.isList p2.isList (by simp only [List.size_toArray, bne_iff_ne]; omega) hu'
end
noncomputable def rDat (Γ : Gm) (a b : D) (z : D) : R2 := fun x y H Q => ∃ g, Same g.R H /\ Rdb Γ H g a x /\ Rdb Γ H g b y /\ ∀ v, (∀ g, Has Γ g z v) -> Q v H
theorem rdat_rdo {Γ : Gm} {a b : D} {c : Bool} : RDo Γ (rDat Γ a b (.bl c)) a b (.bl c) false := fun S H g x y Q w hx hy q => ⟨g, w.rh, hx, hy, fun v hv => fin_val w q (hv g)⟩
section
variable {X : Cx} {Γ : Gm}
theorem op_eqR (hK : X.K = Γ.K) (hu : X.A.units + 61 < cLine) {a b : D} (ka : okP 60 a = true) (kb : okP 60 b = true) : OpR X (compareOp .Eq) (rDat Γ a b (.bl (eqP a b))) := by
 intro pins s σ H x y v u Q I rx ry ⟨g, sr, ha, hb, q⟩
 exact (rc_D I hK sr 60 a b x y v u X.A hu ka kb ha hb rx ry).1 X.prog X.w X.xe _ ⟨.bl _, H, I, rfl, q _ fun _ => rfl⟩
theorem op_neR (hK : X.K = Γ.K) (hu : X.A.units + 61 < cLine) {a b : D} (ka : okP 60 a = true) (kb : okP 60 b = true) : OpR X (compareOp .NotEq) (rDat Γ a b (.bl (!eqP a b))) := by
 intro pins s σ H x y v u Q I rx ry ⟨g, sr, ha, hb, q⟩
 exact (rc_D I hK sr 60 a b x y v u X.A hu ka kb ha hb rx ry).2 X.prog X.w X.xe _ ⟨.bl _, H, I, rfl, q _ fun _ => rfl⟩
end
end EV
namespace EV
open PySem PySem.Spec PyProof.Rows L2
section
variable {Γ : Gm} {H : Hp} {g : G}
theorem isNone_rdb {d : D} {x : V} (h : Rdb Γ H g d x) : decide (x = .non) = isNone d := by
 cases d with
 | non => cases (show x = .non from h); rfl
 | bl => cases (show x = .bl _ from h); rfl
 | int => cases (show x = .int _ from h); rfl
 | str => cases (show x = .str _ from h); rfl
 | tup => obtain ⟨_, _, rfl, _⟩ := h; rfl
 | lst => obtain ⟨_, _, rfl, _⟩ := h; rfl
 | dK => obtain ⟨_, _, rfl, _⟩ := h; rfl
 | dT => obtain ⟨_, _, rfl, _⟩ := h; rfl
 | ref => exact h.elim
 | fn => obtain ⟨_, _, rfl⟩ := h; rfl
 | scr => obtain ⟨_, rfl, _⟩ := h; rfl
 | ktp => obtain ⟨_, _, rfl, _⟩ := h; rfl
theorem sc_all {l : List D} {xs : List V} (hl : l.all isSc = true) (h : Hass Γ g l xs) : xs.all flatV = true /\ ∀ d w, scD d = some w -> inV w xs = l.any fun y => eqP y d := by
 induction l generalizing xs with
 | nil => cases (show xs = [] from h); exact ⟨rfl, fun _ _ _ => rfl⟩
 | cons c l ih =>
  obtain ⟨v, r, rfl, hc, hr⟩ := h
  rw [List.all_cons, Bool.and_eq_true] at hl
  obtain ⟨h1, h2⟩ := ih hl.2 hr
  have hs : ∃ w, scD c = some w := by
   cases c <;> first | exact ⟨_, rfl⟩ | cases (show false = true from hl.1)
  obtain ⟨w, hw⟩ := hs
  have e := scD_has hw hc
  subst e
  refine ⟨by rw [List.all_cons, scD_flat hw, h1]; rfl, fun d w' hw' => ?_⟩
  show (List.any (v :: r) _) = _
  rw [List.any_cons, List.any_cons, <- h2 d w' hw', scD_eq hw hw']
  rfl
theorem sc_of {d : D} (h : isSc d = true) : ∃ w, scD d = some w := by
 cases d <;> first | exact ⟨_, rfl⟩ | exact nobE h
theorem look_zip {κ : Type} [DecidableEq κ] (k : κ) : ∀ {ks : List κ} {ds : List D} {vs : List V}, ks.length = ds.length -> Hass Γ g ds vs ->
  (∀ d, lookK ks ds k = some d -> ∃ v, valV (ks.zip vs) k = some v /\ Has Γ g d v) /\ (lookK ks ds k = none -> valV (ks.zip vs) k = none)
 | [], [], vs, _, h => by
  refine ⟨fun d e => ?_, fun _ => ?_⟩
  ·simp [lookK, findK] at e
  ·rfl
 | k' :: ks, d' :: ds, vs, hl, ⟨v, r, e1, hv, hr⟩ => by
  subst e1
  have ih := look_zip k (ks := ks) (ds := ds) (vs := r) (by simpa using hl) hr
  show (∀ d, lookK (k' :: ks) (d' :: ds) k = some d -> ∃ v', valV ((k', v) :: ks.zip r) k = some v' /\ _) /\ (_ -> valV ((k', v) :: ks.zip r) k = none)
  by_cases e : k' = k
  ·have e2 : lookK (k' :: ks) (d' :: ds) k = some d' := by simp [lookK, findK, e]
   rw [e2, valV_pos (p := (k', v)) e]
   exact ⟨fun d h => ⟨v, rfl, by cases h; exact hv⟩, fun h => by cases h⟩
  ·have e2 : lookK (k' :: ks) (d' :: ds) k = lookK ks ds k := by
    simp only [lookK, findK, if_neg e]
    cases findK ks k <;> rfl
   rw [e2, valV_neg (p := (k', v)) e]
   exact ih
 | [], _ :: _, _, hl, _ => by simp at hl
 | _ :: _, [], _, hl, _ => by simp at hl
theorem keyD_kV {d : D} {k : Key} {x : V} (h : keyD d = some k) (hh : Rdb Γ H g d x) : x = kV k := by
 cases d <;> first | cases h | skip
 all_goals exact hh
theorem keyD_has {d : D} {k : Key} {x : V} (h : keyD d = some k) (hh : Has Γ g d x) : x = kV k := by
 cases d <;> first | cases h | skip
 all_goals exact hh
set_option tactic.hygienic true in
theorem keysD_kV : ∀ {l : List D} {ks : List Key} {xs : List V}, keysD l = some ks -> Hass Γ g l xs -> xs = ks.map kV
 | [], ks, xs, h, hh => by
  cases (show some [] = some ks from h)
  exact hh
 | d :: l, ks, xs, h, ⟨v, r, e, hv, hr⟩ => by
  subst e
  simp only [keysD] at h
  split at h
  ·rename_i k ks' e1 e2
   cases h
   rw [keyD_has e1 hv, keysD_kV e2 hr]
   rfl
  ·cases h
theorem dget_D {S : Store} {c k : D} {o : Option D} {x y : V} (w : WOk Γ H g S) (h : dgetD c k = some o) (hc : Rdb Γ H g c x) (hk : Rdb Γ H g k y) :
  ∃ a v, x = .ref a /\ DGet H a y v /\ IsD H a /\ (∀ d, o = some d -> ∃ u, v = some u /\ Has Γ g d u) /\ (o = none -> v = none) := by
 cases c with
 | dK ks ds =>
  obtain ⟨a, vs, rfl, h1, h2, h3⟩ := hc
  simp only [dgetD, Option.map_eq_some_iff] at h
  obtain ⟨k', e1, e2⟩ := h
  obtain ⟨z1, z2⟩ := look_zip k' h2 h3
  refine ⟨a, valV (ks.zip vs) k', rfl, .inl ⟨_, k', .inl h1, keyD_kV e1 hk, rfl⟩, .inl ⟨_, .inl h1⟩, fun d e => ?_, fun e => ?_⟩
  ·exact z1 d (e2.trans e)
  ·exact z2 (e2.trans e)
 | dT ks ds =>
  obtain ⟨a, vs, rfl, h1, h2, h3⟩ := hc
  cases k with
  | tup t =>
   obtain ⟨b, ys, rfl, f1, f2⟩ := hk
   simp only [dgetD, Option.map_eq_some_iff] at h
   obtain ⟨k', e1, e2⟩ := h
   obtain ⟨z1, z2⟩ := look_zip k' h2 h3
   have ey := keysD_kV e1 f2
   refine ⟨a, valV (ks.zip vs) k', rfl, .inr ⟨_, k', b, .inl h1, rfl, by rw [<- ey]; exact w.rh _ _ f1, rfl⟩, .inr ⟨_, .inl h1⟩, fun d e => ?_, fun e => ?_⟩
   ·exact z1 d (e2.trans e)
   ·exact z2 (e2.trans e)
  | _ => cases h
 | _ => cases h
end
section
variable {X : Cx} {Γ : Gm}
noncomputable def rInD (neg : Bool) : R2 := fun x y H Q => ∃ a o, y = .ref a /\ DGet H a x o /\ Q (.bl (if neg then !o.isSome else o.isSome)) H
theorem op_inD (hu : X.A.units + 1 < cLine) : OpR X (compareOp .In) (rInD false) := by
 intro pins s σ H x y v u Q I rx ry ⟨a, o, e, h, q⟩
 subst e
 cases ry
 exact d_in hu I h rx fun s' I' => ⟨.bl o.isSome, H, I', rfl, q⟩
theorem op_notInD (hu : X.A.units + 1 < cLine) : OpR X (compareOp .NotIn) (rInD true) := by
 intro pins s σ H x y v u Q I rx ry ⟨a, o, e, h, q⟩
 subst e
 cases ry
 exact d_notIn hu I h rx fun s' I' => ⟨.bl (!o.isSome), H, I', rfl, q⟩
theorem sq_of {H : Hp} {g : G} {S : Store} {d : D} {l : List D} {x : V} (hK : X.K = Γ.K) (w : WOk Γ H g S) (h : seqD d = some l) (hd : Rdb Γ H g d x) : ∃ a xs, x = .ref a /\ (SqL X.K H a xs \/ SqT X.K H a xs) /\ Hass Γ g l xs := by
 cases d with
 | tup ds => cases h; obtain ⟨a, vs, e, h1, h2⟩ := hd; exact ⟨a, vs, e, .inr (SqT.of (w.rh _ _ h1)), h2⟩
 | lst ds => cases h; obtain ⟨a, vs, e, h1, h2⟩ := hd; exact ⟨a, vs, e, .inl (SqL.of h1), h2⟩
 | scr ns => cases h; obtain ⟨a, e, h1⟩ := hd; exact ⟨a, _, e, .inl (by rw [hK]; exact h1), Hass.ints⟩
 | ktp ds => cases h; obtain ⟨a, vs, e, h1, h2⟩ := hd; exact ⟨a, vs, e, .inr (by rw [hK]; exact .inr h1), h2⟩
 | _ => cases h
theorem in_rdo {l : List D} {a b : D} {c : Bool} (hK : X.K = Γ.K) (hs : seqD b = some l) (h : memD l a = some c) : RDo Γ (rIn X.K false) a b (.bl c) false /\ RDo Γ (rIn X.K true) a b (.bl (!c)) false := by
 simp only [memD] at h
 split at h
 ·rename_i hf
  cases h
  rw [Bool.and_eq_true] at hf
  obtain ⟨wa, ea⟩ := sc_of hf.1
  refine ⟨fun S H g x y Q w hx hy q => ?_, fun S H g x y Q w hx hy q => ?_⟩
  all_goals
   obtain ⟨p, xs, e, hq, hh⟩ := sq_of hK w hs hy
   obtain ⟨f1, f2⟩ := sc_all hf.2 hh
   have ex := scD_rdb ea hx
   subst ex
   refine ⟨p, xs, e, hq, scD_flat ea, f1, fin_val w q ?_⟩
   rw [f2 a x ea]
   rfl
 ·cases h
theorem inD_rdo {a b : D} {neg : Bool} {o : Option D} (hu1 : X.A.units + 1 < cLine) (e : dgetD b a = some o) : RDo Γ (rInD neg) a b (.bl (if neg then !o.isSome else o.isSome)) false := by
 intro S H g x y Q w hx hy q
 obtain ⟨p, v, e1, e2, _, e3, e4⟩ := dget_D w e hy hx
 refine ⟨p, v, e1, e2, fin_val w q ?_⟩
 cases o with
 | none => rw [e4 rfl]; rfl
 | some d => obtain ⟨z, hz, _⟩ := e3 d rfl; rw [hz]; rfl
theorem int2_is {f : Int -> Int -> Bool} {a b : D} {c : Bool} (h : int2 f a b = some c) : ∃ i j, a = .int i /\ b = .int j /\ c = f i j := by
 cases a with
 | int i =>
  cases b with
  | int j => cases h; exact ⟨i, j, rfl, rfl, rfl⟩
  | _ => cases h
 | _ => cases h
theorem in2_rdo {a b : D} {c : Bool} (hK : X.K = Γ.K) (hu1 : X.A.units + 1 < cLine) (h : inD a b = some c) : (∃ r, OpR X (compareOp .In) r /\ RDo Γ r a b (.bl c) false) /\ ∃ r, OpR X (compareOp .NotIn) r /\ RDo Γ r a b (.bl (!c)) false := by
 have sq : ∀ l, seqD b = some l -> memD l a = some c -> (∃ r, OpR X (compareOp .In) r /\ RDo Γ r a b (.bl c) false) /\ ∃ r, OpR X (compareOp .NotIn) r /\ RDo Γ r a b (.bl (!c)) false := fun l h1 h2 => ⟨⟨_, op_in_seq, (in_rdo hK h1 h2).1⟩, _, op_notIn_seq, (in_rdo hK h1 h2).2⟩
 have dc : (dgetD b a).map (·.isSome) = some c -> (∃ r, OpR X (compareOp .In) r /\ RDo Γ r a b (.bl c) false) /\ ∃ r, OpR X (compareOp .NotIn) r /\ RDo Γ r a b (.bl (!c)) false := fun h => by
  obtain ⟨o, e, rfl⟩ := Option.map_eq_some_iff.mp h
  exact ⟨⟨_, op_inD hu1, inD_rdo (neg := false) hu1 e⟩, _, op_notInD hu1, inD_rdo (neg := true) hu1 e⟩
 cases b with
 | lst l => exact sq l rfl h
 | tup l => exact sq l rfl h
 | ktp l => exact sq l rfl h
 | dK ks ds => exact dc h
 | dT ks ds => exact dc h
 | _ => cases h
theorem is2_rdo {a b : D} {c : Bool} (h : isD a b = some c) : (∃ r, OpR X (compareOp .Is) r /\ RDo Γ r a b (.bl c) false) /\ ∃ r, OpR X (compareOp .IsNot) r /\ RDo Γ r a b (.bl (!c)) false := by
 cases b with
 | non =>
  cases h
  exact ⟨⟨_, op_isN, fun S H g x y Q w hx hy q => ⟨hy, fin_val w q (by rw [isNone_rdb hx]; rfl)⟩⟩, _, op_notN, fun S H g x y Q w hx hy q => ⟨hy, fin_val w q (by rw [isNone_rdb hx]; rfl)⟩⟩
 | bl j =>
  cases a with
  | bl i =>
   cases h
   exact ⟨⟨_, op_isB, fun S H g x y Q w hx hy q => ⟨_, _, hx, hy, fin_val w q rfl⟩⟩, _, op_notB, fun S H g x y Q w hx hy q => ⟨_, _, hx, hy, fin_val w q rfl⟩⟩
  | _ => cases h
 | _ => cases h
theorem eqD_is {a b : D} {c : Bool} (h : eqD a b = some c) : okP 60 a = true /\ okP 60 b = true /\ c = eqP a b := by
 have h : (if (okP 60 a && okP 60 b) = true then some (eqP a b) else none) = some c := h
 by_cases hk : (okP 60 a && okP 60 b) = true
 ·rw [if_pos hk] at h
  cases h
  rw [Bool.and_eq_true] at hk
  exact ⟨hk.1, hk.2, rfl⟩
 ·rw [if_neg hk] at h; cases h
theorem cmp_rdo {op : CmpOp} {a b : D} {c : Bool} (hK : X.K = Γ.K) (hu : X.A.units + 61 < cLine) (h : cmpD op a b = some c) : ∃ r, OpR X (compareOp op) r /\ RDo Γ r a b (.bl c) false := by
 have hu1 : X.A.units + 1 < cLine := by omega
 cases op with
 | Eq =>
  obtain ⟨h1, h2, rfl⟩ := eqD_is h
  exact ⟨_, op_eqR hK hu h1 h2, rdat_rdo⟩
 | NotEq =>
  obtain ⟨c', e, rfl⟩ := Option.map_eq_some_iff.mp (show (eqD a b).map (!·) = some c from h)
  obtain ⟨h1, h2, rfl⟩ := eqD_is e
  exact ⟨_, op_neR hK hu h1 h2, rdat_rdo⟩
 | Lt => obtain ⟨i, j, rfl, rfl, rfl⟩ := int2_is h; exact ⟨_, op_lt, fun S H g x y Q w hx hy q => ⟨_, _, hx, hy, fin_val w q rfl⟩⟩
 | LtE => obtain ⟨i, j, rfl, rfl, rfl⟩ := int2_is h; exact ⟨_, op_le, fun S H g x y Q w hx hy q => ⟨_, _, hx, hy, fin_val w q rfl⟩⟩
 | Gt => obtain ⟨i, j, rfl, rfl, rfl⟩ := int2_is h; exact ⟨_, op_gt, fun S H g x y Q w hx hy q => ⟨_, _, hx, hy, fin_val w q rfl⟩⟩
 | GtE => obtain ⟨i, j, rfl, rfl, rfl⟩ := int2_is h; exact ⟨_, op_ge, fun S H g x y Q w hx hy q => ⟨_, _, hx, hy, fin_val w q rfl⟩⟩
 | Is => exact (is2_rdo h).1
 | IsNot =>
  obtain ⟨c', e, rfl⟩ := Option.map_eq_some_iff.mp (show (isD a b).map (!·) = some c from h)
  exact (is2_rdo e).2
 | In => exact (in2_rdo hK hu1 h).1
 | NotIn =>
  obtain ⟨c', e, rfl⟩ := Option.map_eq_some_iff.mp (show (inD a b).map (!·) = some c from h)
  exact (in2_rdo hK hu1 e).2
noncomputable def rIxD : R2 := fun x y H Q => ∃ a v, x = .ref a /\ DGet H a y (some v) /\ Q v H
theorem ix_dict (hu : X.A.units + 1 < cLine) : IxR X rIxD := by
 intro value slice pins s σ H x y v u Q I rx ry ⟨a, z, e, g, q⟩ hs
 subst e
 cases rx
 exact tail_any (dict_typeIs I g) PySem.F.slot_dict_getitem.lookup (d_getItem hu I g ry fun w' s' I' r' => ⟨z, H, I', r', q⟩) hs
theorem at_has {g : G} {l : List D} {xs : List V} {i : Int} {d : D} (h : Hass Γ g l xs) (e : ((ixN l.length i).bind fun k => l[k]?) = some d) : ∃ v, atI xs i = some v /\ Has Γ g d v := by
 obtain ⟨k, e1, e2⟩ := Option.bind_eq_some_iff.mp e
 obtain ⟨v, hv, hd⟩ := h.get e2
 refine ⟨v, ?_, hd⟩
 unfold atI
 rw [h.len, e1]
 exact hv
set_option tactic.hygienic true in
theorem ix_rdo {a b d : D} (hK : X.K = Γ.K) (hu : X.A.units + 1 < cLine) (h : subD a b = some d) : ∃ r, IxR X r /\ RDo Γ r a b d false := by
 unfold subD at h
 split at h
 ·refine ⟨_, ix_tup, fun S H g x y Q w ⟨p, xs, e, h1, h2⟩ hy q => ?_⟩
  obtain ⟨v, e1, e2⟩ := at_has h2 h
  exact ⟨p, xs, _, v, e, hy, SqT.of (w.rh _ _ h1), e1, fin_val w q e2⟩
 ·refine ⟨_, ix_list, fun S H g x y Q w ⟨p, xs, e, h1, h2⟩ hy q => ?_⟩
  obtain ⟨v, e1, e2⟩ := at_has h2 h
  exact ⟨p, xs, _, v, e, hy, SqL.of h1, e1, fin_val w q e2⟩
 ·rename_i l i
  refine ⟨_, ix_list, fun S H g x y Q w ⟨p, e, h1⟩ hy q => ?_⟩
  have h' : ((ixN (l.map D.int).length i).bind fun k => (l.map D.int)[k]?) = some d := by
   rw [List.length_map]
   simpa [List.getElem?_map] using h
  obtain ⟨v, e1, e2⟩ := at_has (Hass.ints (Γ := Γ) (g := g)) h'
  exact ⟨p, _, _, v, e, hy, by rw [hK]; exact h1, e1, fin_val w q e2⟩
 ·split at h
  ·rename_i hf
   obtain ⟨k, e1, e2⟩ := Option.bind_eq_some_iff.mp h
   obtain ⟨c, e3, e4⟩ := Option.map_eq_some_iff.mp e2
   subst e4
   refine ⟨_, ix_str, fun S H g x y Q w hx hy q => ⟨_, _, c, hx, hy, lim_le hf, ?_, fin_val w q rfl⟩⟩
   unfold atI
   have e1' : ixN _ _ = some k := e1
   rw [e1']
   exact e3
  ·cases h
 ·obtain ⟨o, e1, e2⟩ := Option.bind_eq_some_iff.mp h
  refine ⟨_, ix_dict hu, fun S H g x y Q w hx hy q => ?_⟩
  obtain ⟨p, v, f1, f2, _, f3, _⟩ := dget_D w e1 hx hy
  obtain ⟨z, hz, hd⟩ := f3 d e2
  exact ⟨p, z, f1, by rw [<- hz]; exact f2, fin_val w q hd⟩
 ·obtain ⟨o, e1, e2⟩ := Option.bind_eq_some_iff.mp h
  refine ⟨_, ix_dict hu, fun S H g x y Q w hx hy q => ?_⟩
  obtain ⟨p, v, f1, f2, _, f3, _⟩ := dget_D w e1 hx hy
  obtain ⟨z, hz, hd⟩ := f3 d e2
  exact ⟨p, z, f1, by rw [<- hz]; exact f2, fin_val w q hd⟩
 ·cases h
theorem cut_has {g : G} {l : List D} {xs : List V} (lo hi : Option Int) (h : Hass Γ g l xs) : Hass Γ g (cutD l lo hi) (cutV xs lo hi) := by
 unfold cutD cutV
 rw [h.len]
 exact (h.drop _).take _
noncomputable def RDs (Γ : Gm) (r : V -> Option Int -> Option Int -> Hp -> VK -> Prop) (a : D) (lo hi : Option Int) (d : D) (fr : Bool) : Prop :=
 ∀ (S : Store) (H : Hp) (g : G) (x : V) (Q : VK), WOk Γ H g S -> Rdb Γ H g a x -> Fin Γ H g S d fr Q -> r x lo hi H Q
set_option tactic.hygienic true in
theorem sl_rds {a d : D} {lo hi : Option Int} {fr : Bool} (hK : X.K = Γ.K) (h : slcD a lo hi = some (d, fr)) : ∃ r, SlR X r /\ RDs Γ r a lo hi d fr := by
 unfold slcD at h
 split at h
 ·rename_i l
  cases h
  refine ⟨_, sl_tup.or sl_tupW, fun S H g x Q w ⟨p, xs, e, h1, h2⟩ q => ?_⟩
  by_cases hw : HT.sIx xs.length 0 lo = 0 /\ HT.sIx xs.length xs.length hi = xs.length
  ·refine .inr ⟨p, xs, e, SqT.of (w.rh _ _ h1), hw, fin_val w q ?_⟩
   have ec : cutD l lo hi = l := by
    unfold cutD
    rw [<- h2.len, hw.1, hw.2, List.drop_zero, Nat.sub_zero, List.take_of_length_le (by rw [h2.len]; exact Nat.le_refl _)]
   rw [ec]
   exact ⟨p, xs, rfl, h1, h2⟩
  ·exact .inl ⟨p, xs, e, SqT.of (w.rh _ _ h1), hw, fun b hb => fin_tup w q (cut_has lo hi h2) hb⟩
 ·cases h
  exact ⟨_, sl_list, fun S H g x Q w ⟨p, xs, e, h1, h2⟩ q => ⟨p, xs, e, SqL.of h1, fun b hb => fin_lst w q (cut_has lo hi h2) hb⟩⟩
 ·cases h
  exact ⟨_, sl_list, fun S H g x Q w ⟨p, e, h1⟩ q => ⟨p, _, e, by rw [hK]; exact h1, fun b hb => fin_lst w q (cut_has lo hi Hass.ints) hb⟩⟩
 ·cases h
end
end EV
namespace EV
open PySem PySem.Spec PyProof.Rows L2
noncomputable def Rdbs (Γ : Gm) (H : Hp) (g : G) : List D -> List V -> Prop
 | [], vs => vs = []
 | d :: ds, vs => ∃ v r, vs = v :: r /\ Rdb Γ H g d v /\ Rdbs Γ H g ds r
theorem rdbs_of {Γ : Gm} {H : Hp} {g : G} {S : Store} (w : WOk Γ H g S) : ∀ {ds : List D} {vs : List V}, Hass Γ g ds vs -> Rdbs Γ H g (ds.map (deref S)) vs
 | [], _, h => h
 | d :: ds, _, ⟨v, r, e, h1, h2⟩ => ⟨v, r, e, rdb_of w h1, rdbs_of w h2⟩
noncomputable def RDc (Γ : Gm) (r : List V -> Hp -> VK -> Prop) (ds : List D) (d : D) (fr : Bool) : Prop :=
 ∀ (S : Store) (H : Hp) (g : G) (xs : List V) (Q : VK), WOk Γ H g S -> Rdbs Γ H g ds xs -> Fin Γ H g S d fr Q -> r xs H Q
section
variable {X : Cx} {Γ : Gm}
theorem rd1 {H : Hp} {g : G} {d : D} {xs : List V} (h : Rdbs Γ H g [d] xs) : ∃ v, xs = [v] /\ Rdb Γ H g d v := by
 obtain ⟨v, r, e, h1, h2⟩ := h
 cases (show r = [] from h2)
 exact ⟨v, e, h1⟩
theorem valsI : ∀ {ns : List Int} {us : List Value}, Vals (ns.map V.int) us -> ∀ (i : Nat) (v : Value), us[i]? = some v -> ∃ t, v = Value.int (ns.getD i 0) t
 | [], _, .nil, i, v, h => by simp at h
 | n :: ns, _, .cons r q, 0, v, h => by
  obtain ⟨t, rfl⟩ := r
  simp at h
  exact ⟨t, h.symm⟩
 | n :: ns, _, .cons r q, i + 1, v, h => by
  have := valsI q i v (by simpa using h)
  simpa using this
theorem call_sumR (hc : X.calm = true) : CallR X (.builtin "sum") (fun xs H Q => ∃ (p : Addr) (ns : List Int), xs = [.ref p] /\ SqL X.K H p (ns.map V.int) /\ Q (.int ns.sum) H) := by
 intro pins s σ H vs us Q I rv h
 obtain ⟨p, ns, rfl, hq, q⟩ := h
 obtain ⟨u, rfl, ru⟩ := rv.one
 cases (show u = Value.ref p from ru)
 obtain ⟨its, rv, hp, hz⟩ := I.list hq
 have hl := hp.isList
 have hlt : p < s.heap.objs.size := by obtain ⟨_, e, _⟩ := hl; exact Heap.lt_size e
 have hh : X.A.handled = none := I.ok.hd hc
 have hlen := rv.length
 rw [List.length_map] at hlen
 refine call_sum_walkG (wpAny_pyIter_list hl ?_)
 refine ⟨s.heap.objs.size, [s.heap.objs.size, p], [s.heap.objs.size], its.toArray.size, _, _, fun i => ns.getD i 0, rfl, Walks.list (A := X.A.in1) hh _ p (Nat.ne_of_lt hlt) its.toArray,
  ⟨⟨_, Heap.get?_push_size _ rfl, rfl, rfl⟩, hl.push _⟩, fun b hb => ?_, fun i v hP => ?_, fun h' tk t' hk => ?_⟩
 ·rcases List.mem_cons.mp hb with rfl | hb
  ·show _ < (s.heap.push _).objs.size
   rw [Heap.size_push]; exact Nat.lt_succ_self _
  ·rw [List.mem_singleton.mp hb]
   show _ < (s.heap.push _).objs.size
   rw [Heap.size_push]; exact Nat.lt_succ_of_lt hlt
 ·exact valsI rv i v (by simpa using hP)
 ·refine ⟨.int ns.sum, H, I.kept (LSm.kept_iter hk), ⟨t', ?_⟩, q⟩
  rw [preSum_getD, List.size_toArray, <- hlen, List.take_length]
theorem intsD_of {g : G} : ∀ {l : List D} {ns : List Int} {xs : List V}, intsD l = some ns -> Hass Γ g l xs -> xs = ns.map V.int
 | [], ns, xs, h, hh => by
  cases (show some [] = some ns from h)
  exact hh
 | d :: l, ns, xs, h, ⟨v, r, e, hv, hr⟩ => by
  subst e
  cases d with
  | int i =>
   simp only [intsD, Option.map_eq_some_iff] at h
   obtain ⟨ms, e1, e2⟩ := h
   subst e2
   rw [show v = V.int i from hv, intsD_of e1 hr]
   rfl
  | _ => cases h
theorem boolsD_of {g : G} : ∀ {l : List D} {ns : List Bool} {xs : List V}, boolsD l = some ns -> Hass Γ g l xs -> xs = ns.map V.bl
 | [], ns, xs, h, hh => by
  cases (show some [] = some ns from h)
  exact hh
 | d :: l, ns, xs, h, ⟨v, r, e, hv, hr⟩ => by
  subst e
  cases d with
  | bl i =>
   simp only [boolsD, Option.map_eq_some_iff] at h
   obtain ⟨ms, e1, e2⟩ := h
   subst e2
   rw [show v = V.bl i from hv, boolsD_of e1 hr]
   rfl
  | _ => cases h
noncomputable def biV : BI -> Value
 | .len => .builtin "len" | .abs => .builtin "abs" | .int => .type "int" | .str => .type "str" | .tuple => .type "tuple" | .list => .type "list"
 | .sum => .builtin "sum" | .all => .builtin "all" | .any => .builtin "any" | .isinst _ => .builtin "isinstance" | .min2 => .builtin "min" | .max2 => .builtin "max" | .sorted => .builtin "sorted"
noncomputable def isI : BI -> Bool
 | .isinst _ => true
 | _ => false
theorem len_rdc {d0 : D} {d : D} {fr : Bool} (hK : X.K = Γ.K) (h : lenD d0 = some (d, fr)) : ∃ r, CallR X (.builtin "len") r /\ RDc Γ r [d0] d fr := by
 cases d0 with
 | tup l =>
  cases h
  refine ⟨_, call_len_seq, fun S H g xs Q w hx q => ?_⟩
  obtain ⟨v, rfl, p, ys, rfl, h1, h2⟩ := rd1 hx
  exact ⟨p, ys, rfl, .inr (SqT.of (w.rh _ _ h1)), fin_val w q (by rw [h2.len]; rfl)⟩
 | lst l =>
  cases h
  refine ⟨_, call_len_seq, fun S H g xs Q w hx q => ?_⟩
  obtain ⟨v, rfl, p, ys, rfl, h1, h2⟩ := rd1 hx
  exact ⟨p, ys, rfl, .inl (SqL.of h1), fin_val w q (by rw [h2.len]; rfl)⟩
 | scr l =>
  cases h
  refine ⟨_, call_len_seq, fun S H g xs Q w hx q => ?_⟩
  obtain ⟨v, rfl, p, rfl, h1⟩ := rd1 hx
  exact ⟨p, _, rfl, .inl (by rw [hK]; exact h1), fin_val w q (by rw [List.length_map]; rfl)⟩
 | str x =>
  have h : (if fits x.length = true then some (D.int x.length, false) else none) = some (d, fr) := h
  split at h
  ·rename_i hf
   cases h
   refine ⟨_, call_len_str, fun S H g xs Q w hx q => ?_⟩
   obtain ⟨v, rfl, hv⟩ := rd1 hx
   exact ⟨_, by rw [show v = _ from hv], lim_le hf, fin_val w q rfl⟩
  ·cases h
 | dK ks vs =>
  cases h
  refine ⟨fun xs H Q => ∃ d kvs, xs = [.ref d] /\ Rd H d (.dK kvs) /\ Q (.int kvs.length) H, ?_, fun S H g xs Q w hx q => ?_⟩
  ·intro pins s σ H xs us Q I r hh
   obtain ⟨d, kvs, rfl, hd, q⟩ := hh
   obtain ⟨u, rfl, ru⟩ := vals1 r
   cases (show u = Value.ref d from ru)
   exact d_len I hd fun t s' I' => ⟨.int kvs.length, H, I', ⟨t, rfl⟩, q⟩
  ·obtain ⟨v, rfl, p, ys, rfl, h1, h2, h3⟩ := rd1 hx
   refine ⟨p, _, rfl, .inl h1, fin_val w q ?_⟩
   rw [List.length_zip, h3.len, <- h2, Nat.min_self]
   rfl
 | _ => cases h
theorem onL_is {f : List D -> Option D} {d0 : D} {p : D × Bool} (h : onL f d0 = some p) : ∃ l d, d0 = .lst l /\ f l = some d /\ p = (d, false) := by
 cases d0 with
 | lst l =>
  obtain ⟨d, e, rfl⟩ := Option.map_eq_some_iff.mp (show (f l).map (fun d => (d, false)) = some p from h)
  exact ⟨l, d, rfl, e, rfl⟩
 | _ => cases h
theorem lot_is {d0 : D} {l : List D} (h : lotD d0 = some l) : d0 = .lst l \/ d0 = .tup l := by
 cases d0 with
 | lst m => cases h; exact .inl rfl
 | tup m => cases h; exact .inr rfl
 | _ => cases h
theorem bi_rdc {b : BI} {ds : List D} {d : D} {fr : Bool} (hK : X.K = Γ.K) (hc : X.calm = true) (hi : isI b = false) (h : biD b ds = some (d, fr)) : ∃ r, CallR X (biV b) r /\ RDc Γ r ds d fr := by
 obtain ⟨d0, rfl⟩ : ∃ d0, ds = [d0] := by
  cases ds with
  | nil => cases h
  | cons d0 r =>
   cases r with
   | nil => exact ⟨d0, rfl⟩
   | cons _ _ => cases h
 cases b with
 | len => exact len_rdc hK h
 | abs =>
  cases d0 with
  | int i =>
   cases h
   refine ⟨_, call_abs, fun S H g xs Q w hx q => ?_⟩
   obtain ⟨v, rfl, hv⟩ := rd1 hx
   exact ⟨_, by rw [show v = _ from hv], fin_val w q rfl⟩
  | _ => cases h
 | int =>
  cases d0 with
  | bl b =>
   cases h
   refine ⟨_, call_int1, fun S H g xs Q w hx q => ?_⟩
   obtain ⟨v, rfl, hv⟩ := rd1 hx
   exact .inr ⟨_, by rw [show v = _ from hv], fin_val w q rfl⟩
  | int i =>
   cases h
   refine ⟨_, call_int1, fun S H g xs Q w hx q => ?_⟩
   obtain ⟨v, rfl, hv⟩ := rd1 hx
   exact .inl ⟨_, by rw [show v = _ from hv], fin_val w q rfl⟩
  | _ => cases h
 | tuple =>
  obtain ⟨l, e, e2⟩ := Option.map_eq_some_iff.mp (show (lotD d0).map (fun l => (D.tup l, false)) = some (d, fr) from h)
  cases e2
  refine ⟨_, call_tuple_of, fun S H g xs Q w hx q => ?_⟩
  rcases lot_is e with rfl | rfl
  ·obtain ⟨v, rfl, p, ys, rfl, h1, h2⟩ := rd1 hx
   exact ⟨p, ys, rfl, .inl ⟨SqL.of h1, fun l hl => fin_tup w q h2 hl⟩⟩
  ·obtain ⟨v, rfl, p, ys, rfl, h1, h2⟩ := rd1 hx
   exact ⟨p, ys, rfl, .inr ⟨SqT.of (w.rh _ _ h1), fin_val w q ⟨p, ys, rfl, h1, h2⟩⟩⟩
 | list =>
  obtain ⟨l, e, e2⟩ := Option.map_eq_some_iff.mp (show (lotD d0).map (fun l => (D.lst l, true)) = some (d, fr) from h)
  cases e2
  refine ⟨_, call_list_of, fun S H g xs Q w hx q => ?_⟩
  rcases lot_is e with rfl | rfl
  ·obtain ⟨v, rfl, p, ys, rfl, h1, h2⟩ := rd1 hx
   exact ⟨p, ys, rfl, .inl (SqL.of h1), fun l hl => fin_lst w q h2 hl⟩
  ·obtain ⟨v, rfl, p, ys, rfl, h1, h2⟩ := rd1 hx
   exact ⟨p, ys, rfl, .inr (SqT.of (w.rh _ _ h1)), fun l hl => fin_lst w q h2 hl⟩
 | sum =>
  obtain ⟨l, z, rfl, e, e2⟩ := onL_is h
  cases e2
  obtain ⟨ns, e3, rfl⟩ := Option.map_eq_some_iff.mp e
  refine ⟨_, call_sumR hc, fun S H g xs Q w hx q => ?_⟩
  obtain ⟨v, rfl, p, ys, rfl, h1, h2⟩ := rd1 hx
  exact ⟨p, ns, rfl, by rw [<- intsD_of e3 h2]; exact SqL.of h1, fin_val w q rfl⟩
 | all =>
  obtain ⟨l, z, rfl, e, e2⟩ := onL_is h
  cases e2
  obtain ⟨ns, e3, rfl⟩ := Option.map_eq_some_iff.mp e
  refine ⟨_, call_all hc, fun S H g xs Q w hx q => ?_⟩
  obtain ⟨v, rfl, p, ys, rfl, h1, h2⟩ := rd1 hx
  exact ⟨p, ns, rfl, by rw [<- boolsD_of e3 h2]; exact SqL.of h1, fin_val w q rfl⟩
 | any =>
  obtain ⟨l, z, rfl, e, e2⟩ := onL_is h
  cases e2
  obtain ⟨ns, e3, rfl⟩ := Option.map_eq_some_iff.mp e
  refine ⟨_, call_any hc, fun S H g xs Q w hx q => ?_⟩
  obtain ⟨v, rfl, p, ys, rfl, h1, h2⟩ := rd1 hx
  exact ⟨p, ns, rfl, by rw [<- boolsD_of e3 h2]; exact SqL.of h1, fin_val w q rfl⟩
 | isinst t => cases hi
 | str => cases h
 | min2 => cases h
 | max2 => cases h
 | sorted => cases h
noncomputable def tyS : Ty -> String
 | .int => "int" | .bool => "bool" | .str => "str" | .tuple => "tuple" | .list => "list" | .dict => "dict"
theorem is_rdc {t : Ty} {a : D} {c : Bool} (hK : X.K = Γ.K) (h : isTy t a = some c) :
  ∃ r, CallR X (.builtin "isinstance") r /\ ∀ (S : Store) (H : Hp) (g : G) (x : V) (Q : VK), WOk Γ H g S -> Rdb Γ H g a x -> Q (.bl c) H -> r [x, .ty (tyS t)] H Q := by
 refine ⟨_, call_isinst, fun S H g x Q w hx q => ?_⟩
 have go : ∀ ty, TyOf X.K H x (.type ty) -> PySem.W.kitOne X.K (.type ty) (.type (tyS t)) = some c -> _ := fun ty h1 h2 => (⟨x, tyS t, .type ty, c, rfl, h1, h2, q⟩ : ∃ x' T t' b, [x, V.ty (tyS t)] = [x', .ty T] /\ TyOf X.K H x' t' /\ PySem.W.kitOne X.K t' (.type T) = some b /\ Q (.bl b) H)
 cases a with
 | non => cases h; cases (show x = .non from hx); exact go _ .non (by cases t <;> rfl)
 | bl b => cases (show x = .bl b from hx); exact go _ (.bl b) (by cases t <;> exact h)
 | int b => cases (show x = .int b from hx); exact go _ (.int b) (by cases t <;> exact h)
 | str b => cases (show x = .str b from hx); exact go _ (.str b) (by cases t <;> exact h)
 | tup l => obtain ⟨p, ys, rfl, h1, h2⟩ := hx; exact go _ (.tup (w.rh _ _ h1)) (by cases t <;> exact h)
 | lst l => obtain ⟨p, ys, rfl, h1, h2⟩ := hx; exact go _ (.lst h1) (by cases t <;> exact h)
 | dK ks l => obtain ⟨p, ys, rfl, h1, h2⟩ := hx; exact go _ (.dK h1) (by cases t <;> exact h)
 | _ => cases h
end
end EV
namespace EV
open PySem PySem.Spec PyProof.Rows L2
mutual
noncomputable def sameD : D -> D -> Bool
 | .non, .non => true
 | .bl a, .bl b => a == b
 | .int a, .int b => a == b
 | .str a, .str b => a == b
 | .tup a, .tup b => sameDs a b
 | .ktp a, .ktp b => sameDs a b
 | .fn a, .fn b => a == b
 | _, _ => false
noncomputable def sameDs : List D -> List D -> Bool
 | [], [] => true
 | a :: as, b :: bs => sameD a b && sameDs as bs
 | _, _ => false
end
mutual
theorem sameD_eq : ∀ (a b : D), sameD a b = true -> a = b
 | .non, .non, _ => rfl
 | .bl a, .bl b, h => by rw [eq_of_beq (show (a == b) = true from h)]
 | .int a, .int b, h => by rw [eq_of_beq (show (a == b) = true from h)]
 | .str a, .str b, h => by rw [eq_of_beq (show (a == b) = true from h)]
 | .tup a, .tup b, h => by rw [sameDs_eq a b h]
 | .ktp a, .ktp b, h => by rw [sameDs_eq a b h]
 | .fn a, .fn b, h => by rw [eq_of_beq (show (a == b) = true from h)]
 | .non, .bl _, h => by cases h
 | .non, .int _, h => by cases h
 | .non, .str _, h => by cases h
 | .non, .tup _, h => by cases h
 | .non, .lst _, h => by cases h
 | .non, .dK _ _, h => by cases h
 | .non, .dT _ _, h => by cases h
 | .non, .ref _, h => by cases h
 | .non, .fn _, h => by cases h
 | .non, .scr _, h => by cases h
 | .non, .ktp _, h => by cases h
 | .bl _, .non, h => by cases h
 | .bl _, .int _, h => by cases h
 | .bl _, .str _, h => by cases h
 | .bl _, .tup _, h => by cases h
 | .bl _, .lst _, h => by cases h
 | .bl _, .dK _ _, h => by cases h
 | .bl _, .dT _ _, h => by cases h
 | .bl _, .ref _, h => by cases h
 | .bl _, .fn _, h => by cases h
 | .bl _, .scr _, h => by cases h
 | .bl _, .ktp _, h => by cases h
 | .int _, .non, h => by cases h
 | .int _, .bl _, h => by cases h
 | .int _, .str _, h => by cases h
 | .int _, .tup _, h => by cases h
 | .int _, .lst _, h => by cases h
 | .int _, .dK _ _, h => by cases h
 | .int _, .dT _ _, h => by cases h
 | .int _, .ref _, h => by cases h
 | .int _, .fn _, h => by cases h
 | .int _, .scr _, h => by cases h
 | .int _, .ktp _, h => by cases h
 | .str _, .non, h => by cases h
 | .str _, .bl _, h => by cases h
 | .str _, .int _, h => by cases h
 | .str _, .tup _, h => by cases h
 | .str _, .lst _, h => by cases h
 | .str _, .dK _ _, h => by cases h
 | .str _, .dT _ _, h => by cases h
 | .str _, .ref _, h => by cases h
 | .str _, .fn _, h => by cases h
 | .str _, .scr _, h => by cases h
 | .str _, .ktp _, h => by cases h
 | .tup _, .non, h => by cases h
 | .tup _, .bl _, h => by cases h
 | .tup _, .int _, h => by cases h
 | .tup _, .str _, h => by cases h
 | .tup _, .lst _, h => by cases h
 | .tup _, .dK _ _, h => by cases h
 | .tup _, .dT _ _, h => by cases h
 | .tup _, .ref _, h => by cases h
 | .tup _, .fn _, h => by cases h
 | .tup _, .scr _, h => by cases h
 | .tup _, .ktp _, h => by cases h
 | .ktp _, .non, h => by cases h
 | .ktp _, .bl _, h => by cases h
 | .ktp _, .int _, h => by cases h
 | .ktp _, .str _, h => by cases h
 | .ktp _, .lst _, h => by cases h
 | .ktp _, .dK _ _, h => by cases h
 | .ktp _, .dT _ _, h => by cases h
 | .ktp _, .ref _, h => by cases h
 | .ktp _, .fn _, h => by cases h
 | .ktp _, .scr _, h => by cases h
 | .ktp _, .tup _, h => by cases h
 | .fn _, .non, h => by cases h
 | .fn _, .bl _, h => by cases h
 | .fn _, .int _, h => by cases h
 | .fn _, .str _, h => by cases h
 | .fn _, .lst _, h => by cases h
 | .fn _, .dK _ _, h => by cases h
 | .fn _, .dT _ _, h => by cases h
 | .fn _, .ref _, h => by cases h
 | .fn _, .ktp _, h => by cases h
 | .fn _, .scr _, h => by cases h
 | .fn _, .tup _, h => by cases h
 | .lst _, b, h => by cases b <;> cases h
 | .dK _ _, b, h => by cases b <;> cases h
 | .dT _ _, b, h => by cases b <;> cases h
 | .ref _, b, h => by cases b <;> cases h
 | .scr _, b, h => by cases b <;> cases h
theorem sameDs_eq : ∀ (a b : List D), sameDs a b = true -> a = b
 | [], [], _ => rfl
 | a :: as, b :: bs, h => by
  have h' : (sameD a b && sameDs as bs) = true := h
  rw [Bool.and_eq_true] at h'
  rw [sameD_eq a b h'.1, sameDs_eq as bs h'.2]
 | [], _ :: _, h => by cases h
 | _ :: _, [], h => by cases h
end
structure Tb where
 fns : List Str
 pars : List (List Str)
 consts : List (Str × D)
 bare : List Str
 kws : List (Nat × List Str × List Nat)
structure Cc where
 names : List (Str × NameKind)
 N : List Str
 fn : Bool
noncomputable def visK : Option NameKind -> Bool
 | some .local => true
 | some .cell => true
 | some .free => true
 | _ => false
noncomputable def gloK : Option NameKind -> Bool
 | some .globalImplicit => true
 | _ => false
noncomputable def plainN (x : Str) : Bool := !(x == ("__debug__" : Str)) && !(x == ("__classdict__" : Str)) && !(x == ("__name__" : Str))
noncomputable def notSet : Expr -> Bool
 | .Set _ _ _ => false
 | _ => true
noncomputable def notStar : Expr -> Bool
 | .Starred _ _ => false
 | _ => true
noncomputable def biS : BI -> Str
 | .len => "len" | .abs => "abs" | .int => "int" | .str => "str" | .tuple => "tuple" | .list => "list" | .sum => "sum" | .all => "all" | .any => "any" | .isinst _ => "isinstance" | .min2 => "min" | .max2 => "max" | .sorted => "sorted"
noncomputable def tyN : Ty -> Str
 | .int => "int" | .bool => "bool" | .str => "str" | .tuple => "tuple" | .list => "list" | .dict => "dict"
noncomputable def kwNames : List Keyword -> Option (List Str)
 | [] => some []
 | ⟨some x, _, _⟩ :: r => (kwNames r).map (x :: ·)
 | _ => none
noncomputable def relK (names : List (Str × NameKind)) : List (Str × NameKind) -> List (Str × NameKind) := fun l => l.map fun (n, k) => if (k == .free && names.lookup n == some .cell) then (n, .cell) else (n, k)
noncomputable def namesOf : List Expr -> Option (List Str)
 | [] => some []
 | .Name x _ :: r => (namesOf r).map (x :: ·)
 | _ => none
noncomputable def tgtNames : Expr -> Option (List Str)
 | .Name x _ => some [x]
 | .Tuple es _ _ => namesOf es
 | _ => none
noncomputable def tIs : T -> List Nat
 | .one i => [i]
 | .nst i is => i :: is
 | .tup is => is
noncomputable def isTupE : Expr -> Bool
 | .Tuple _ _ _ => true
 | _ => false
noncomputable def isTupT : T -> Bool
 | .tup _ => true
 | .nst _ _ => true
 | _ => false
noncomputable def stoK (c : Cc) (x : Str) : Bool := match c.names.lookup x with
 | some .local => true
 | some .cell => c.fn
 | _ => false
noncomputable def isNst : T -> Bool
 | .nst _ _ => true
 | _ => false
noncomputable def asNst : Expr -> Option (Str × Pos × List Expr × Nat × Pos × Nat × Pos)
  | .Tuple es k p => (match es with
    | a :: r => (match a with
      | .Name x q => (match r with
        | b :: z => (match z with
          | [] => (match b with
            | .Tuple fs k2 p2 => some (x, q, fs, k2, p2, k, p)
            | _ => none)
          | _ => none)
        | _ => none)
      | _ => none)
    | _ => none)
  | _ => none
noncomputable def chkT (c : Cc) (t : T) (x : Expr) : Bool := if isNst t = true then (match asNst x with
  | some q => (match namesOf q.2.2.1 with
    | some ns => (q.1 :: ns).length == (tIs t).length && ((tIs t).zip (q.1 :: ns)).all fun p => c.N[p.1]? == some p.2 && stoK c p.2
    | none => false)
  | none => false) else isTupE x == isTupT t && (match tgtNames x with
  | some ns => ns.length == (tIs t).length && ((tIs t).zip ns).all fun p => c.N[p.1]? == some p.2 && stoK c p.2
  | none => false)
noncomputable def chkS (c : Cc) (sc : Scope) (js : List Nat) : Bool :=
 (sc.kind == .function) && sc.names.all (fun y => y.2 != .cell) && sc.names.all (fun y => y.2 != .local || sc.names.lookup y.1 == some .local) && sc.names.all (fun y => y.2 != .free || sc.names.lookup y.1 == some .free) &&
 sc.names.all (fun y => y.2 != .free || c.names.lookup y.1 == some .cell || c.names.lookup y.1 == some .free) &&
 js.all fun j => match c.N[j]? with
  | some y => (c.names.lookup y == some .cell || c.names.lookup y == some .free) && sc.names.lookup y == some .free
  | none => false
noncomputable def inner (c : Cc) (sc : Scope) (xs : List Str) (js : List Nat) : Cc := ⟨relK c.names sc.names, xs ++ js.map (fun j => c.N.getD j ""), false⟩
noncomputable def isTupX : Expr -> Bool
 | .Tuple _ _ _ => true
 | _ => false
noncomputable def keyC : Key -> Const -> Bool
 | .inl i, .int j => i == j
 | .inr s, .str t => s == t
 | _, _ => false
noncomputable def chkDk : List Key -> List (Option Expr) -> Bool
 | [], [] => true
 | k :: ks, some (.Constant q _ _) :: r => keyC k q && chkDk ks r
 | _, _ => false
noncomputable def sole {α : Type} : List α -> Option α
  | a :: r => (match r with
    | [] => some a
    | _ => none)
  | _ => none
theorem sole_is {α : Type} {l : List α} {a : α} (h : sole l = some a) : l = [a] := by
 cases l with
 | nil => cases h
 | cons b r =>
  cases r with
  | nil => cases h; rfl
  | cons _ _ => cases h
noncomputable def asName : Expr -> Option (Str × Pos)
 | .Name n p => some (n, p)
 | _ => none
theorem asName_is {x : Expr} {q : Str × Pos} (h : asName x = some q) : x = .Name q.1 q.2 := by
 cases x <;> first | (cases h; rfl) | cases h
noncomputable def asSub : Expr -> Option (Expr × Expr × Pos)
 | .Subscript a b p => some (a, b, p)
 | _ => none
theorem asSub_is {x : Expr} {q : Expr × Expr × Pos} (h : asSub x = some q) : x = .Subscript q.1 q.2.1 q.2.2 := by
 cases x <;> first | (cases h; rfl) | cases h
noncomputable def asAtt : Expr -> Option (Expr × Str × Pos)
 | .Attribute a m p => some (a, m, p)
 | _ => none
theorem asAtt_is {x : Expr} {q : Expr × Str × Pos} (h : asAtt x = some q) : x = .Attribute q.1 q.2.1 q.2.2 := by
 cases x <;> first | (cases h; rfl) | cases h
noncomputable def isNilL {α : Type} : List α -> Bool
 | [] => true
 | _ => false
theorem isNil_is {α : Type} {l : List α} (h : isNilL l = true) : l = [] := by
 cases l with
 | nil => rfl
 | cons _ _ => cases h
noncomputable def isRev : Expr -> Bool
  | .Slice l h st _ => l.isNone && h.isNone && (match st with
    | some (.UnaryOp op (.Constant k _ _) _) => op == .USub && (match k with
      | .int i => i == 1
      | _ => false)
    | _ => false)
  | _ => false
noncomputable def mtS : MT -> Str
 | .get1 => "get" | .get2 => "get" | .index => "index" | .join => "join" | .split => "split"
noncomputable def plainO : Expr -> Bool
 | .Call _ _ _ _ => false
 | _ => true
noncomputable def plainC : Expr -> Bool
 | .Call _ (_ :: _) _ _ => true
 | x => plainO x
mutual
noncomputable def chkE (B : Tb) (c : Cc) : E -> Expr -> Bool
  | .var i, .Name x _ => c.N[i]? == some x && visK (c.names.lookup x) && plainN x
  | .con d, .Constant k _ _ => match d, k with
    | .non, .none => true
    | .bl a, .bool b => a == b
    | .int a, .int b => a == b
    | .str a, .str b => a == b
    | _, _ => false
  | .glo n d, .Name x _ => (match B.consts[n]? with
    | some p => p.1 == x && sameD p.2 d
    | none => false) && gloK (c.names.lookup x) && plainN x
  | .bin op a b, .BinOp x op' y _ => op == op' && chkE B c a x && chkE B c b y
  | .neg a, .UnaryOp op x _ => op == .USub && chkE B c a x
  | .cmp op a b, .Compare x [op'] [y] _ => op == op' && chkE B c a x && chkE B c b y && notSet y
  | .chn o1 o2 a b d, .Compare x [p1, p2] [y, z] _ => o1 == p1 && o2 == p2 && chkE B c a x && chkE B c b y && chkE B c d z && notSet z
  | .not a, .UnaryOp op x _ => op == .Not && chkE B c a x
  | .and a b, .BoolOp op (x :: y :: r) p => op == .And && chkE B c a x && chkE B c b (.BoolOp .And (y :: r) p)
  | .or a b, .BoolOp op (x :: y :: r) p => op == .Or && chkE B c a x && chkE B c b (.BoolOp .Or (y :: r) p)
  | .one a, .BoolOp op [x] _ => chkE B c a x
  | .ite t a b, .IfExp x y z _ => chkE B c t x && chkE B c a y && chkE B c b z
  | .tup es, .Tuple xs _ _ => chkEs B c es xs
  | .lst es, .List xs _ => chkEs B c es xs
  | .dic tk ks es, .Dict keys vs _ => chkDk ks keys && chkFs B c es vs && decide (ks.length = es.length) && decide (ks.length <= 15)
  | .sub a i, .Subscript x y _ => chkE B c a x && chkE B c i y
  | .slc a lo hi, .Subscript x (.Slice l h none _) _ => chkE B c a x && chkO B c lo l && chkO B c hi h
  | .bi b es, .Call (.Name x _) args [] _ => (match b with
    | .isinst t => x == ("isinstance" : Str) && B.bare.contains x && B.bare.contains (tyN t) && gloK (c.names.lookup x) && (match es, args with
      | [e], [y, .Name z _] => chkE B c e y && notStar y && z == tyN t && gloK (c.names.lookup z)
      | _, _ => false)
    | b => x == biS b && B.bare.contains x && gloK (c.names.lookup x) && chkEs B c es args && !es.isEmpty)
  | .call f es, .Call (.Name x _) args [] _ => B.fns[f]? == some x && gloK (c.names.lookup x) && plainN x && chkEs B c es args && !es.isEmpty
  | .callk f perm es, .Call (.Name x _) [] kws _ => B.fns[f]? == some x && gloK (c.names.lookup x) && plainN x && chkKs B c es kws && (match kwNames kws, B.pars[f]? with
    | some ks, some ps => perm.length == ps.length && perm.all (· < ks.length) && perm.map (fun i => ks.getD i "") == ps && ks.length == ps.length && B.kws.contains (f, ks, perm)
    | _, _ => false)
  | .mth m o es, .Call f args kws cp => (match asAtt f with
    | some q => q.2.1 == mtS m && chkE B c o q.1 && chkEs B c es args && isNilL kws && q.2.2.endLine == cp.line && plainC q.1 && decide (1 <= es.length) && decide (es.length <= 9)
    | none => false)
  | .flip e, .Subscript x y _ => chkE B c e x && isRev y
  | .box e, x => chkE B c e x
  | .comp t js it ifs elt, .ListComp y [⟨tgt, iter, cs, k⟩] sc _ => k == 0 && chkS c sc js && chkI B c it tgt iter && notSet iter && (match tgtNames tgt with
    | some xs => decide ((xs ++ js.map (fun j => c.N.getD j "")).Nodup) && nT t == xs.length && tIs t == List.range xs.length && chkT (inner c sc xs js) t tgt && chkE B (inner c sc xs js) elt y && chkFs B (inner c sc xs js) ifs cs && decide (ifs.length <= 1)
    | none => false)
  | _, _ => false
noncomputable def chkI (B : Tb) (c : Cc) : E -> Expr -> Expr -> Bool
 | .seq e, _, x => chkE B c e x
 | .enum e, tg, .Call (.Name f _) [y] [] _ => isTupX tg && f == ("enumerate" : Str) && B.bare.contains f && gloK (c.names.lookup f) && chkE B c e y && notStar y
 | .rng none hi, _, .Call (.Name f _) [y] [] _ => f == ("range" : Str) && B.bare.contains f && gloK (c.names.lookup f) && chkE B c hi y && notStar y
 | _, _, _ => false
noncomputable def chkEs (B : Tb) (c : Cc) : List E -> List Expr -> Bool
 | [], [] => true
 | e :: es, x :: xs => chkE B c e x && notStar x && chkEs B c es xs
 | _, _ => false
noncomputable def chkFs (B : Tb) (c : Cc) : List E -> List Expr -> Bool
 | [], [] => true
 | e :: es, x :: xs => chkE B c e x && chkFs B c es xs
 | _, _ => false
noncomputable def chkO (B : Tb) (c : Cc) : Option E -> Option Expr -> Bool
 | none, none => true
 | some e, some x => chkE B c e x
 | _, _ => false
noncomputable def chkKs (B : Tb) (c : Cc) : List E -> List Keyword -> Bool
 | [], [] => true
 | e :: es, ⟨some _, x, _⟩ :: xs => chkE B c e x && chkKs B c es xs
 | _, _ => false
end
theorem ofBoolOp {x : PySem.Expr} {Q : PySem.Expr -> Prop} (h : Nat.beq x.ctorIdx 0 = true) (f : ∀ a0 a1 a2, Q (.BoolOp a0 a1 a2)) : Q x := by
 revert h
 cases x with
 | BoolOp a0 a1 a2 => exact fun _ => f a0 a1 a2
 | _ => exact nobE
theorem ofBinOp {x : PySem.Expr} {Q : PySem.Expr -> Prop} (h : Nat.beq x.ctorIdx 2 = true) (f : ∀ a0 a1 a2 a3, Q (.BinOp a0 a1 a2 a3)) : Q x := by
 revert h
 cases x with
 | BinOp a0 a1 a2 a3 => exact fun _ => f a0 a1 a2 a3
 | _ => exact nobE
theorem ofUnaryOp {x : PySem.Expr} {Q : PySem.Expr -> Prop} (h : Nat.beq x.ctorIdx 3 = true) (f : ∀ a0 a1 a2, Q (.UnaryOp a0 a1 a2)) : Q x := by
 revert h
 cases x with
 | UnaryOp a0 a1 a2 => exact fun _ => f a0 a1 a2
 | _ => exact nobE
theorem ofIfExp {x : PySem.Expr} {Q : PySem.Expr -> Prop} (h : Nat.beq x.ctorIdx 5 = true) (f : ∀ a0 a1 a2 a3, Q (.IfExp a0 a1 a2 a3)) : Q x := by
 revert h
 cases x with
 | IfExp a0 a1 a2 a3 => exact fun _ => f a0 a1 a2 a3
 | _ => exact nobE
theorem ofDict {x : PySem.Expr} {Q : PySem.Expr -> Prop} (h : Nat.beq x.ctorIdx 6 = true) (f : ∀ a0 a1 a2, Q (.Dict a0 a1 a2)) : Q x := by
 revert h
 cases x with
 | Dict a0 a1 a2 => exact fun _ => f a0 a1 a2
 | _ => exact nobE
theorem ofListComp {x : PySem.Expr} {Q : PySem.Expr -> Prop} (h : Nat.beq x.ctorIdx 8 = true) (f : ∀ a0 a1 a2 a3, Q (.ListComp a0 a1 a2 a3)) : Q x := by
 revert h
 cases x with
 | ListComp a0 a1 a2 a3 => exact fun _ => f a0 a1 a2 a3
 | _ => exact nobE
theorem ofCompare {x : PySem.Expr} {Q : PySem.Expr -> Prop} (h : Nat.beq x.ctorIdx 15 = true) (f : ∀ a0 a1 a2 a3, Q (.Compare a0 a1 a2 a3)) : Q x := by
 revert h
 cases x with
 | Compare a0 a1 a2 a3 => exact fun _ => f a0 a1 a2 a3
 | _ => exact nobE
theorem ofCall {x : PySem.Expr} {Q : PySem.Expr -> Prop} (h : Nat.beq x.ctorIdx 16 = true) (f : ∀ a0 a1 a2 a3, Q (.Call a0 a1 a2 a3)) : Q x := by
 revert h
 cases x with
 | Call a0 a1 a2 a3 => exact fun _ => f a0 a1 a2 a3
 | _ => exact nobE
theorem ofConstant {x : PySem.Expr} {Q : PySem.Expr -> Prop} (h : Nat.beq x.ctorIdx 19 = true) (f : ∀ a0 a1 a2, Q (.Constant a0 a1 a2)) : Q x := by
 revert h
 cases x with
 | Constant a0 a1 a2 => exact fun _ => f a0 a1 a2
 | _ => exact nobE
theorem ofAttribute {x : PySem.Expr} {Q : PySem.Expr -> Prop} (h : Nat.beq x.ctorIdx 20 = true) (f : ∀ a0 a1 a2, Q (.Attribute a0 a1 a2)) : Q x := by
 revert h
 cases x with
 | Attribute a0 a1 a2 => exact fun _ => f a0 a1 a2
 | _ => exact nobE
theorem ofSubscript {x : PySem.Expr} {Q : PySem.Expr -> Prop} (h : Nat.beq x.ctorIdx 21 = true) (f : ∀ a0 a1 a2, Q (.Subscript a0 a1 a2)) : Q x := by
 revert h
 cases x with
 | Subscript a0 a1 a2 => exact fun _ => f a0 a1 a2
 | _ => exact nobE
theorem ofName {x : PySem.Expr} {Q : PySem.Expr -> Prop} (h : Nat.beq x.ctorIdx 23 = true) (f : ∀ a0 a1, Q (.Name a0 a1)) : Q x := by
 revert h
 cases x with
 | Name a0 a1 => exact fun _ => f a0 a1
 | _ => exact nobE
theorem ofList {x : PySem.Expr} {Q : PySem.Expr -> Prop} (h : Nat.beq x.ctorIdx 24 = true) (f : ∀ a0 a1, Q (.List a0 a1)) : Q x := by
 revert h
 cases x with
 | List a0 a1 => exact fun _ => f a0 a1
 | _ => exact nobE
theorem ofTuple {x : PySem.Expr} {Q : PySem.Expr -> Prop} (h : Nat.beq x.ctorIdx 25 = true) (f : ∀ a0 a1 a2, Q (.Tuple a0 a1 a2)) : Q x := by
 revert h
 cases x with
 | Tuple a0 a1 a2 => exact fun _ => f a0 a1 a2
 | _ => exact nobE
theorem ofSlice {x : PySem.Expr} {Q : PySem.Expr -> Prop} (h : Nat.beq x.ctorIdx 26 = true) (f : ∀ a0 a1 a2 a3, Q (.Slice a0 a1 a2 a3)) : Q x := by
 revert h
 cases x with
 | Slice a0 a1 a2 a3 => exact fun _ => f a0 a1 a2 a3
 | _ => exact nobE
theorem ofSAssign {x : PySem.Stmt} {Q : PySem.Stmt -> Prop} (h : Nat.beq x.ctorIdx 5 = true) (f : ∀ a0 a1 a2, Q (.Assign a0 a1 a2)) : Q x := by
 revert h
 cases x with
 | Assign a0 a1 a2 => exact fun _ => f a0 a1 a2
 | _ => exact nobE
theorem ofSExpr {x : PySem.Stmt} {Q : PySem.Stmt -> Prop} (h : Nat.beq x.ctorIdx 24 = true) (f : ∀ a0 a1, Q (.Expr a0 a1)) : Q x := by
 revert h
 cases x with
 | Expr a0 a1 => exact fun _ => f a0 a1
 | _ => exact nobE
theorem ofSReturn {x : PySem.Stmt} {Q : PySem.Stmt -> Prop} (h : Nat.beq x.ctorIdx 3 = true) (f : ∀ a0 a1, Q (.Return a0 a1)) : Q x := by
 revert h
 cases x with
 | Return a0 a1 => exact fun _ => f a0 a1
 | _ => exact nobE
theorem ofSIf {x : PySem.Stmt} {Q : PySem.Stmt -> Prop} (h : Nat.beq x.ctorIdx 12 = true) (f : ∀ a0 a1 a2 a3, Q (.If a0 a1 a2 a3)) : Q x := by
 revert h
 cases x with
 | If a0 a1 a2 a3 => exact fun _ => f a0 a1 a2 a3
 | _ => exact nobE
theorem ofSWhile {x : PySem.Stmt} {Q : PySem.Stmt -> Prop} (h : Nat.beq x.ctorIdx 11 = true) (f : ∀ a0 a1 a2 a3, Q (.While a0 a1 a2 a3)) : Q x := by
 revert h
 cases x with
 | While a0 a1 a2 a3 => exact fun _ => f a0 a1 a2 a3
 | _ => exact nobE
theorem ofSFor {x : PySem.Stmt} {Q : PySem.Stmt -> Prop} (h : Nat.beq x.ctorIdx 9 = true) (f : ∀ a0 a1 a2 a3 a4, Q (.For a0 a1 a2 a3 a4)) : Q x := by
 revert h
 cases x with
 | For a0 a1 a2 a3 a4 => exact fun _ => f a0 a1 a2 a3 a4
 | _ => exact nobE
theorem ofSPass {x : PySem.Stmt} {Q : PySem.Stmt -> Prop} (h : Nat.beq x.ctorIdx 25 = true) (f : ∀ a0, Q (.Pass a0)) : Q x := by
 revert h
 cases x with
 | Pass a0 => exact fun _ => f a0
 | _ => exact nobE
theorem ofSBreak {x : PySem.Stmt} {Q : PySem.Stmt -> Prop} (h : Nat.beq x.ctorIdx 26 = true) (f : ∀ a0, Q (.Break a0)) : Q x := by
 revert h
 cases x with
 | Break a0 => exact fun _ => f a0
 | _ => exact nobE
theorem ofSContinue {x : PySem.Stmt} {Q : PySem.Stmt -> Prop} (h : Nat.beq x.ctorIdx 27 = true) (f : ∀ a0, Q (.Continue a0)) : Q x := by
 revert h
 cases x with
 | Continue a0 => exact fun _ => f a0
 | _ => exact nobE
end EV
namespace EV
open PySem PySem.Spec PyProof.Rows L2
structure EnvD (Γ : Gm) (g : G) (ρ : List (Option D)) (σ : L2.St) : Prop where
 len : ρ.length = σ.length
 get : ∀ (i : Nat) (d : D), ρ[i]? = some (some d) -> ∃ v, σ[i]? = some (some v) /\ Has Γ g d v
theorem EnvD.mono {Γ : Gm} {g g' : G} {ρ : List (Option D)} {σ : L2.St} (x : EnvD Γ g ρ σ) (e : Le g g') : EnvD Γ g' ρ σ := ⟨x.len, fun i d h => let ⟨v, a, b⟩ := x.get i d h; ⟨v, a, b.mono e⟩⟩
noncomputable def kE (Γ : Gm) (H : Hp) (g : G) (pu : Bool) (Q : VK) : R (D × Bool) -> Prop
 | .ok p S' => ∀ v H' g', Step H g H' g' -> (pu = true -> Same H H') -> WOk Γ H' g' S' -> VOk Γ H p.1 p.2 v H' g' -> Q v H'
 | _ => False
noncomputable def kD (Γ : Gm) (H : Hp) (g : G) (pu : Bool) (Q : VK) : R D -> Prop
 | .ok d S' => ∀ v H' g', Step H g H' g' -> (pu = true -> Same H H') -> WOk Γ H' g' S' -> Has Γ g' d v -> Q v H'
 | _ => False
noncomputable def kB (Γ : Gm) (H : Hp) (g : G) (pu : Bool) (Q : Bool -> Hp -> Prop) : R Bool -> Prop
 | .ok b S' => ∀ H' g', Step H g H' g' -> (pu = true -> Same H H') -> WOk Γ H' g' S' -> Q b H'
 | _ => False
noncomputable def kDs (Γ : Gm) (H : Hp) (g : G) (pu : Bool) (Q : List V -> Hp -> Prop) : R (List D) -> Prop
 | .ok ds S' => ∀ vs H' g', Step H g H' g' -> (pu = true -> Same H H') -> WOk Γ H' g' S' -> Hass Γ g' ds vs -> Q vs H'
 | _ => False
noncomputable def tE (Γ : Gm) (ρ : List (Option D)) (S : Store) (pu : Bool) (r : R (D × Bool)) : TE := fun σ H Q => ∃ g, WOk Γ H g S /\ EnvD Γ g ρ σ /\ kE Γ H g pu Q r
noncomputable def tD (Γ : Gm) (ρ : List (Option D)) (S : Store) (pu : Bool) (r : R D) : TE := fun σ H Q => ∃ g, WOk Γ H g S /\ EnvD Γ g ρ σ /\ kD Γ H g pu Q r
noncomputable def tB (Γ : Gm) (ρ : List (Option D)) (S : Store) (pu : Bool) (r : R Bool) : TT := fun σ H Q => ∃ g, WOk Γ H g S /\ EnvD Γ g ρ σ /\ kB Γ H g pu Q r
noncomputable def tDs (Γ : Gm) (ρ : List (Option D)) (S : Store) (pu : Bool) (r : R (List D)) : TA := fun σ H Q => ∃ g, WOk Γ H g S /\ EnvD Γ g ρ σ /\ kDs Γ H g pu Q r
theorem VOk.back {Γ : Gm} {H H1 H' : Hp} {g g1 g' : G} {d : D} {fr : Bool} {v : V} (s : Step H g H1 g1) (h : VOk Γ H1 d fr v H' g') : VOk Γ H d fr v H' g' := by
 cases fr with
 | false => exact h
 | true =>
  obtain ⟨a, e, h0, r⟩ := (show ∃ a, v = .ref a /\ H1 a = none /\ g'.R a = none /\ a ∉ g'.α /\ CellOk Γ H' g' a d from h)
  exact ⟨a, e, s.noneOf h0, r⟩
noncomputable def evB (cf : Cf) (ρ : List (Option D)) (e : E) : M Bool := M.bind (ev cf ρ e) asB
section
variable {X : Cx} {Γ : Gm} {ρ : List (Option D)} {S : Store} {pu : Bool} {x y z : Expr} {pos : Pos} {cf : Cf}
theorem pe_err : PE X x (tE Γ ρ S pu .err) := fun _ _ _ _ _ _ ⟨_, _, _, h⟩ => h.elim
theorem pe_exc {c : Nat} {S' : Store} : PE X x (tE Γ ρ S pu (.exc c S')) := fun _ _ _ _ _ _ ⟨_, _, _, h⟩ => h.elim
theorem pt_err : PT X x (tB Γ ρ S pu .err) := fun _ _ _ _ _ _ ⟨_, _, _, h⟩ => h.elim
theorem pt_exc {c : Nat} {S' : Store} : PT X x (tB Γ ρ S pu (.exc c S')) := fun _ _ _ _ _ _ ⟨_, _, _, h⟩ => h.elim
theorem pw_err : PW X x (tB Γ ρ S pu .err) := fun _ _ _ _ _ _ _ ⟨_, _, _, h⟩ => h.elim
theorem pw_exc {c : Nat} {S' : Store} : PW X x (tB Γ ρ S pu (.exc c S')) := fun _ _ _ _ _ _ _ ⟨_, _, _, h⟩ => h.elim
theorem pa_err {xs : List Expr} : PA X xs (tDs Γ ρ S pu .err) := fun _ _ _ _ _ _ _ ⟨_, _, _, h⟩ => h.elim
theorem pa_exc {xs : List Expr} {c : Nat} {S' : Store} : PA X xs (tDs Γ ρ S pu (.exc c S')) := fun _ _ _ _ _ _ _ ⟨_, _, _, h⟩ => h.elim
theorem kE_val {H : Hp} {g : G} {Q : VK} {d : D} {v : V} (w : WOk Γ H g S) (k : kE Γ H g pu Q (.ok (d, false) S)) (h : Has Γ g d v) : Q v H := k v H g (Step.refl H g) (fun _ => Same.refl H) w h
theorem s_data {m : M (D × Bool)} (h : PE X x (tE Γ ρ S pu (m S))) : PE X x (tD Γ ρ S pu (M.bind m asData S)) := by
 refine h.imp fun σ H Q ⟨g, w, env, k⟩ => ⟨g, w, env, ?_⟩
 rw [bind_app] at k
 cases e : m S with
 | err => rw [e] at k; exact k.elim
 | exc c S' => rw [e] at k; exact k.elim
 | ok p S' =>
  rw [e] at k
  obtain ⟨d, fr⟩ := p
  have k : kD Γ H g pu Q (asData (d, fr) S') := k
  unfold asData at k
  by_cases hi : isIns d = true
  ·rw [if_pos hi] at k; exact k.elim
  ·rw [if_neg hi] at k
   intro v H' g' st hp w' vo
   obtain ⟨g2, s2, w2, h2, _⟩ := freeze st w' vo (by simpa using hi)
   exact k v H' g2 s2 hp w2 h2
noncomputable def varM : Option (Option D) -> M (D × Bool)
 | some (some d) => M.pure (d, false)
 | _ => M.fail
theorem s_var {i : Nat} {n : Str} (hN : X.N[i]? = some n) (hv : Vis X.env.scope n) (hd : (n == ("__debug__" : Str)) = false) (hcd : (n == ("__classdict__" : Str)) = false) : PE X (.Name n pos) (tE Γ ρ S true (ev cf ρ (.var i) S)) := by
 refine (pe_var hN hv hd hcd).imp fun σ H Q ⟨g, w, env, k⟩ => ?_
 have k : kE Γ H g true Q (varM ρ[i]? S) := k
 cases e : ρ[i]? with
 | none => rw [e] at k; exact k.elim
 | some o =>
  cases o with
  | none => rw [e] at k; exact k.elim
  | some d =>
   rw [e] at k
   obtain ⟨v, h1, h2⟩ := env.get i d e
   exact ⟨v, h1, kE_val w k h2⟩
theorem s_con {t : V} {d : D} (h : PE X x (tC t)) (hd : ∀ g, Has Γ g d t) : PE X x (tE Γ ρ S true (.ok (d, false) S)) := h.imp fun σ H Q ⟨g, w, env, k⟩ => kE_val w k (hd g)
theorem two_ok {a b : M D} {da db : D} {S1 S2 : Store} {pa pb : Bool} {σ : L2.St} {H : Hp} {g : G} {r : R2} {Q : VK} {d : D} {fr : Bool} (ea : a S = .ok da S1) (eb : b S1 = .ok db S2) (w : WOk Γ H g S) (env : EnvD Γ g ρ σ)
  (hr : RDo Γ r (deref S2 da) (deref S2 db) d fr) (k : kE Γ H g (pa && pb) Q (.ok (d, fr) S2)) : tOp r (tD Γ ρ S pa (a S)) (tD Γ ρ S1 pb (b S1)) σ H Q := by
 refine ⟨g, w, env, ?_⟩
 rw [ea]
 intro u H1 g1 st1 p1 w1 h1
 refine ⟨g1, w1, env.mono st1.le, ?_⟩
 rw [eb]
 intro v H2 g2 st2 p2 w2 h2
 refine hr S2 H2 g2 u v Q w2 (rdb_of w2 (h1.mono st2.le)) (rdb_of w2 h2) fun z H' g' st3 s3 w3 vo => ?_
 have st := st1.trans st2
 refine k z H' g' (st.trans st3) (fun hp => ?_) w3 (vo.back st)
 rw [Bool.and_eq_true] at hp
 exact ((p1 hp.1).trans (p2 hp.2)).trans s3
theorem s_bin {op : Operator} {a b : M D} {pa pb : Bool} (hK : X.K = Γ.K) (ha : PE X x (tD Γ ρ S pa (a S))) (hb : ∀ S, PE X y (tD Γ ρ S pb (b S))) :
  PE X (.BinOp x op y pos) (tE Γ ρ S (pa && pb) (M.bind a (fun da => M.bind b fun db => M.bind M.get fun S => M.of (opD op (deref S da) (deref S db))) S)) := by
 rw [bind_app]
 cases ea : a S with
 | err => exact pe_err
 | exc c S' => exact pe_exc
 | ok da S1 =>
  show PE X _ (tE Γ ρ S _ (M.bind b _ S1))
  rw [bind_app]
  cases eb : b S1 with
  | err => exact pe_err
  | exc c S' => exact pe_exc
  | ok db S2 =>
   show PE X _ (tE Γ ρ S _ (M.of (opD op (deref S2 da) (deref S2 db)) S2))
   cases eo : opD op (deref S2 da) (deref S2 db) with
   | none => exact pe_err
   | some p =>
    obtain ⟨d, fr⟩ := p
    obtain ⟨r, h1, h2⟩ := op_rdo (X := X) hK eo
    exact (pe_op h1 ha (hb S1)).imp fun σ H Q ⟨g, w, env, k⟩ => two_ok ea eb w env h2 k
theorem s_cmp {op : CmpOp} {a b : M D} {pa pb : Bool} (hK : X.K = Γ.K) (hu : X.A.units + 61 < cLine) (ha : PE X x (tD Γ ρ S pa (a S))) (hb : ∀ S, PE X y (tD Γ ρ S pb (b S))) (hm : behindInMarks op y = false) :
  PE X (.Compare x [op] [y] pos) (tE Γ ρ S (pa && pb) (M.bind a (fun da => M.bind b fun db => M.bind M.get fun S => M.bind (M.of (cmpD op (deref S da) (deref S db))) fun c => M.pure (D.bl c, false)) S)) /\
  PT X (.Compare x [op] [y] pos) (tB Γ ρ S (pa && pb) (M.bind a (fun da => M.bind b fun db => M.bind M.get fun S => M.of (cmpD op (deref S da) (deref S db))) S)) := by
 rw [bind_app, bind_app]
 cases ea : a S with
 | err => exact ⟨pe_err, pt_err⟩
 | exc c S' => exact ⟨pe_exc, pt_exc⟩
 | ok da S1 =>
  show PE X _ (tE Γ ρ S _ (M.bind b _ S1)) /\ PT X _ (tB Γ ρ S _ (M.bind b _ S1))
  rw [bind_app, bind_app]
  cases eb : b S1 with
  | err => exact ⟨pe_err, pt_err⟩
  | exc c S' => exact ⟨pe_exc, pt_exc⟩
  | ok db S2 =>
   show PE X _ (tE Γ ρ S _ (M.bind (M.of (cmpD op (deref S2 da) (deref S2 db))) (fun c => M.pure (D.bl c, false)) S2)) /\ PT X _ (tB Γ ρ S _ (M.of (cmpD op (deref S2 da) (deref S2 db)) S2))
   cases eo : cmpD op (deref S2 da) (deref S2 db) with
   | none => exact ⟨pe_err, pt_err⟩
   | some c =>
    obtain ⟨r, h1, h2⟩ := cmp_rdo (X := X) hK hu eo
    refine ⟨(pe_cmpR h1 ha (hb S1) hm).imp fun σ H Q ⟨g, w, env, k⟩ => two_ok ea eb w env h2 k, (pt_cmpR h1 ha (hb S1) hm).imp fun σ H Q ⟨g, w, env, k⟩ => ?_⟩
    refine two_ok ea eb w env h2 (pa := pa) (pb := pb) fun v H' g' st hp w' vo => ?_
    exact ⟨c, vo, k H' g' st hp w'⟩
end
end EV
namespace EV
open PySem PySem.Spec PyProof.Rows L2
section
variable {X : Cx} {Γ : Gm} {ρ : List (Option D)} {S : Store} {pu : Bool} {x y z : Expr} {pos : Pos} {cf : Cf}
theorem s_neg {m : M (D × Bool)} (h : PE X x (tE Γ ρ S pu (m S))) : PE X (.UnaryOp .USub x pos) (tE Γ ρ S pu (M.bind m (fun p => match p.1 with
  | .int i => M.pure (.int (-i), false)
  | _ => M.fail) S)) := by
 rw [bind_app]
 cases e : m S with
 | err => exact pe_err
 | exc c S' => exact pe_exc
 | ok p S1 =>
  obtain ⟨d, fr⟩ := p
  cases d with
  | int i =>
   refine (pe_un un_neg h).imp fun σ H Q ⟨g, w, env, k⟩ => ⟨g, w, env, ?_⟩
   rw [e]
   intro v H' g' st hp w' vo
   have hv : v = .int i := by
    cases fr with
    | false => exact vo
    | true => obtain ⟨_, _, _, _, _, hc⟩ := (show ∃ a, v = .ref a /\ H a = none /\ g'.R a = none /\ a ∉ g'.α /\ CellOk Γ H' g' a (.int i) from vo); exact hc.elim
   exact ⟨i, hv, k _ H' g' st hp w' rfl⟩
  | _ => exact pe_err
theorem vok_bl {H H' : Hp} {g' : G} {b fr : Bool} {v : V} (h : VOk Γ H (.bl b) fr v H' g') : v = .bl b := by
 cases fr with
 | false => exact h
 | true => obtain ⟨_, _, _, _, _, hc⟩ := (show ∃ a, v = .ref a /\ H a = none /\ g'.R a = none /\ a ∉ g'.α /\ CellOk Γ H' g' a (.bl b) from h); exact hc.elim
theorem s_test {m : M (D × Bool)} (h : PE X x (tE Γ ρ S pu (m S))) (he : ∀ whole, isTrue x X.env whole = (do let v <- whole; standAt x.pos; holding [v] (truthy v))) : PT X x (tB Γ ρ S pu (M.bind m asB S)) := by
 rw [bind_app]
 cases e : m S with
 | err => exact pt_err
 | exc c S' => exact pt_exc
 | ok p S1 =>
  obtain ⟨d, fr⟩ := p
  cases d with
  | bl b =>
   refine (pt_val h he).imp fun σ H Q ⟨g, w, env, k⟩ => ⟨g, w, env, ?_⟩
   rw [e]
   intro v H' g' st hp w' vo
   exact ⟨b, vok_bl vo, k H' g' st hp w'⟩
  | _ => exact pt_err
theorem s_notT {m : M Bool} (h : PT X x (tB Γ ρ S pu (m S))) : PT X (.UnaryOp .Not x pos) (tB Γ ρ S pu (M.bind m (fun b => M.pure (!b)) S)) := by
 rw [bind_app]
 cases e : m S with
 | err => exact pt_err
 | exc c S' => exact pt_exc
 | ok b S1 =>
  refine (pt_not h).imp fun σ H Q ⟨g, w, env, k⟩ => ⟨g, w, env, ?_⟩
  rw [e]
  exact fun H' g' st hp w' => k H' g' st hp w'
theorem s_not {m : M (D × Bool)} (h : PE X x (tE Γ ρ S pu (m S))) : PE X (.UnaryOp .Not x pos) (tE Γ ρ S pu (M.bind m (fun p => M.bind (asB p) fun b => M.pure (D.bl (!b), false)) S)) := by
 rw [bind_app]
 cases e : m S with
 | err => exact pe_err
 | exc c S' => exact pe_exc
 | ok p S1 =>
  obtain ⟨d, fr⟩ := p
  cases d with
  | bl b =>
   refine (pe_not h).imp fun σ H Q ⟨g, w, env, k⟩ => ⟨g, w, env, ?_⟩
   rw [e]
   intro v H' g' st hp w' vo
   exact ⟨b, vok_bl vo, k _ H' g' st hp w' rfl⟩
  | _ => exact pe_err
theorem s_one {op : PySem.BoolOp} {r : R (D × Bool)} (h : PE X x (tE Γ ρ S pu r)) : PE X (.BoolOp op [x] pos) (tE Γ ρ S pu r) := pe_one h
theorem s_and {rest : List Expr} {ma mb : M (D × Bool)} {pb : Bool} (ha : PE X x (tE Γ ρ S pu (ma S))) (hb : ∀ S, PE X (.BoolOp .And (y :: rest) pos) (tE Γ ρ S pb (mb S))) :
  PE X (.BoolOp .And (x :: y :: rest) pos) (tE Γ ρ S (pu && pb) (M.bind ma (fun p => match p.1 with
  | .bl true => mb
  | .bl false => M.pure (D.bl false, false)
  | _ => M.fail) S)) := by
 rw [bind_app]
 cases e : ma S with
 | err => exact pe_err
 | exc c S' => exact pe_exc
 | ok p S1 =>
  obtain ⟨d, fr⟩ := p
  cases d with
  | bl b =>
   refine (pe_and ha (hb S1)).imp fun σ H Q ⟨g, w, env, k⟩ => ⟨g, w, env, ?_⟩
   rw [e]
   intro v H' g' st hp w' vo
   refine ⟨b, vok_bl vo, ?_⟩
   cases b with
   | false => exact iteF (k _ H' g' st (fun h => hp (Bool.and_eq_true_iff.mp h).1) w' rfl)
   | true =>
    refine iteT ⟨g', w', env.mono st.le, ?_⟩
    have k : kE Γ H g (pu && pb) Q (mb S1) := k
    cases eb : mb S1 with
    | err => rw [eb] at k; exact k.elim
    | exc c S' => rw [eb] at k; exact k.elim
    | ok q S2 =>
     rw [eb] at k
     intro u H2 g2 st2 hp2 w2 vo2
     refine k u H2 g2 (st.trans st2) (fun h => ?_) w2 (vo2.back st)
     have h' := Bool.and_eq_true_iff.mp h
     exact (hp h'.1).trans (hp2 h'.2)
  | _ => exact pe_err
theorem s_or {rest : List Expr} {ma mb : M (D × Bool)} {pb : Bool} (ha : PE X x (tE Γ ρ S pu (ma S))) (hb : ∀ S, PE X (.BoolOp .Or (y :: rest) pos) (tE Γ ρ S pb (mb S))) :
  PE X (.BoolOp .Or (x :: y :: rest) pos) (tE Γ ρ S (pu && pb) (M.bind ma (fun p => match p.1 with
  | .bl false => mb
  | .bl true => M.pure (D.bl true, false)
  | _ => M.fail) S)) := by
 rw [bind_app]
 cases e : ma S with
 | err => exact pe_err
 | exc c S' => exact pe_exc
 | ok p S1 =>
  obtain ⟨d, fr⟩ := p
  cases d with
  | bl b =>
   refine (pe_or ha (hb S1)).imp fun σ H Q ⟨g, w, env, k⟩ => ⟨g, w, env, ?_⟩
   rw [e]
   intro v H' g' st hp w' vo
   refine ⟨b, vok_bl vo, ?_⟩
   cases b with
   | true => exact iteT (k _ H' g' st (fun h => hp (Bool.and_eq_true_iff.mp h).1) w' rfl)
   | false =>
    refine iteF ⟨g', w', env.mono st.le, ?_⟩
    have k : kE Γ H g (pu && pb) Q (mb S1) := k
    cases eb : mb S1 with
    | err => rw [eb] at k; exact k.elim
    | exc c S' => rw [eb] at k; exact k.elim
    | ok q S2 =>
     rw [eb] at k
     intro u H2 g2 st2 hp2 w2 vo2
     refine k u H2 g2 (st.trans st2) (fun h => ?_) w2 (vo2.back st)
     have h' := Bool.and_eq_true_iff.mp h
     exact (hp h'.1).trans (hp2 h'.2)
  | _ => exact pe_err
theorem PW.impE {t t' : TT} (h : PW X x t) (i : ∀ σ H Q, t' σ H Q -> t σ H Q) : PW X x t' := fun wh pins s σ H Q I q => h wh pins s σ H Q I (i σ H Q q)
theorem s_andW {rest : List Expr} {ma mb : M Bool} {pb : Bool} (ha : PT X x (tB Γ ρ S pu (ma S))) (hb : ∀ S, PW X (.BoolOp .And (y :: rest) pos) (tB Γ ρ S pb (mb S))) :
  PW X (.BoolOp .And (x :: y :: rest) pos) (tB Γ ρ S (pu && pb) (M.bind ma (fun b => if b = true then mb else M.pure false) S)) := by
 rw [bind_app]
 cases e : ma S with
 | err => exact pw_err
 | exc c S' => exact pw_exc
 | ok b S1 =>
  refine PW.impE (pw_and ha (hb S1)) fun σ H Q ⟨g, w, env, k⟩ => ⟨g, w, env, ?_⟩
  rw [e]
  intro H' g' st hp w'
  cases b with
  | false => exact iteF (k H' g' st (fun h => hp (Bool.and_eq_true_iff.mp h).1) w')
  | true =>
   refine iteT ⟨g', w', env.mono st.le, ?_⟩
   have k : kB Γ H g (pu && pb) Q (mb S1) := k
   cases eb : mb S1 with
   | err => rw [eb] at k; exact k.elim
   | exc c S' => rw [eb] at k; exact k.elim
   | ok q S2 =>
    rw [eb] at k
    intro H2 g2 st2 hp2 w2
    refine k H2 g2 (st.trans st2) (fun h => ?_) w2
    have h' := Bool.and_eq_true_iff.mp h
    exact (hp h'.1).trans (hp2 h'.2)
theorem s_orW {rest : List Expr} {ma mb : M Bool} {pb : Bool} (ha : PT X x (tB Γ ρ S pu (ma S))) (hb : ∀ S, PW X (.BoolOp .Or (y :: rest) pos) (tB Γ ρ S pb (mb S))) :
  PW X (.BoolOp .Or (x :: y :: rest) pos) (tB Γ ρ S (pu && pb) (M.bind ma (fun b => if b = true then M.pure true else mb) S)) := by
 rw [bind_app]
 cases e : ma S with
 | err => exact pw_err
 | exc c S' => exact pw_exc
 | ok b S1 =>
  refine PW.impE (pw_or ha (hb S1)) fun σ H Q ⟨g, w, env, k⟩ => ⟨g, w, env, ?_⟩
  rw [e]
  intro H' g' st hp w'
  cases b with
  | true => exact iteT (k H' g' st (fun h => hp (Bool.and_eq_true_iff.mp h).1) w')
  | false =>
   refine iteF ⟨g', w', env.mono st.le, ?_⟩
   have k : kB Γ H g (pu && pb) Q (mb S1) := k
   cases eb : mb S1 with
   | err => rw [eb] at k; exact k.elim
   | exc c S' => rw [eb] at k; exact k.elim
   | ok q S2 =>
    rw [eb] at k
    intro H2 g2 st2 hp2 w2
    refine k H2 g2 (st.trans st2) (fun h => ?_) w2
    have h' := Bool.and_eq_true_iff.mp h
    exact (hp h'.1).trans (hp2 h'.2)
theorem s_oneW {op : PySem.BoolOp} {r : R Bool} (h : PT X x (tB Γ ρ S pu r)) : PW X (.BoolOp op [x] pos) (tB Γ ρ S pu r) := by
 cases op with
 | And => exact pw_and1 h
 | Or => exact pw_or1 h
theorem s_ite {mc : M Bool} {ma mb : M (D × Bool)} {pa pb : Bool} (hc : PT X x (tB Γ ρ S pu (mc S))) (ha : ∀ S, PE X y (tE Γ ρ S pa (ma S))) (hb : ∀ S, PE X z (tE Γ ρ S pb (mb S))) :
  PE X (.IfExp x y z pos) (tE Γ ρ S (pu && pa && pb) (M.bind mc (fun t => if t = true then ma else mb) S)) := by
 rw [bind_app]
 cases e : mc S with
 | err => exact pe_err
 | exc c S' => exact pe_exc
 | ok b S1 =>
  refine (pe_ifExp hc (ha S1) (hb S1)).imp fun σ H Q ⟨g, w, env, k⟩ => ⟨g, w, env, ?_⟩
  rw [e]
  intro H' g' st hp w'
  cases b with
  | true =>
   refine iteT ⟨g', w', env.mono st.le, ?_⟩
   have k : kE Γ H g (pu && pa && pb) Q (ma S1) := k
   cases eb : ma S1 with
   | err => rw [eb] at k; exact k.elim
   | exc c S' => rw [eb] at k; exact k.elim
   | ok q S2 =>
    rw [eb] at k
    intro u H2 g2 st2 hp2 w2 vo2
    refine k u H2 g2 (st.trans st2) (fun h => ?_) w2 (vo2.back st)
    rw [Bool.and_eq_true, Bool.and_eq_true] at h
    exact (hp h.1.1).trans (hp2 h.1.2)
  | false =>
   refine iteF ⟨g', w', env.mono st.le, ?_⟩
   have k : kE Γ H g (pu && pa && pb) Q (mb S1) := k
   cases eb : mb S1 with
   | err => rw [eb] at k; exact k.elim
   | exc c S' => rw [eb] at k; exact k.elim
   | ok q S2 =>
    rw [eb] at k
    intro u H2 g2 st2 hp2 w2 vo2
    refine k u H2 g2 (st.trans st2) (fun h => ?_) w2 (vo2.back st)
    rw [Bool.and_eq_true, Bool.and_eq_true] at h
    exact (hp h.1.1).trans (hp2 h.2)
theorem s_nil : PA X [] (tDs Γ ρ S true (.ok [] S)) := pa_nil.imp fun σ H Q ⟨g, w, env, k⟩ => k [] H g (Step.refl H g) (fun _ => Same.refl H) w rfl
theorem starEach_of (h : notStar x = true) (xs : List Expr) (env : Env) : starEach (x :: xs) env = (false, eval x env) :: starEach xs env := by
 cases x <;> first | rfl | cases h
theorem s_cons {xs : List Expr} {m : M D} {ms : M (List D)} {pb : Bool} (hs : notStar x = true) (h1 : PE X x (tD Γ ρ S pu (m S))) (h2 : ∀ S, PA X xs (tDs Γ ρ S pb (ms S))) :
  PA X (x :: xs) (tDs Γ ρ S (pu && pb) (M.bind m (fun d => M.bind ms fun ds => M.pure (d :: ds)) S)) := by
 rw [bind_app]
 cases e : m S with
 | err => exact pa_err
 | exc c S' => exact pa_exc
 | ok d S1 =>
  show PA X _ (tDs Γ ρ S _ (M.bind ms _ S1))
  rw [bind_app]
  cases e2 : ms S1 with
  | err => exact pa_err
  | exc c S' => exact pa_exc
  | ok ds S2 =>
   refine (pa_cons h1 (h2 S1) (starEach_of hs _ _)).imp fun σ H Q ⟨g, w, env, k⟩ => ⟨g, w, env, ?_⟩
   rw [e]
   intro v H' g' st hp w' h'
   refine ⟨g', w', env.mono st.le, ?_⟩
   rw [e2]
   intro vs H2 g2 st2 hp2 w2 h2
   refine k (v :: vs) H2 g2 (st.trans st2) (fun h => ?_) w2 ⟨v, vs, rfl, h'.mono st2.le, h2⟩
   have q := Bool.and_eq_true_iff.mp h
   exact (hp q.1).trans (hp2 q.2)
theorem s_tup {xs : List Expr} {ms : M (List D)} {kk : Nat} (h : PA X xs (tDs Γ ρ S pu (ms S))) : PE X (.Tuple xs kk pos) (tE Γ ρ S pu (M.bind ms (fun ds => if fits ds.length then M.pure (.tup ds, false) else M.fail) S)) := by
 rw [bind_app]
 cases e : ms S with
 | err => exact pe_err
 | exc c S' => exact pe_exc
 | ok ds S1 =>
  by_cases hf : fits ds.length = true
  ·refine (pe_tup h).imp fun σ H Q ⟨g, w, env, k⟩ => ⟨g, w, env, ?_⟩
   rw [e]
   have k : kE Γ H g pu Q ((if fits ds.length = true then M.pure (D.tup ds, false) else M.fail) S1) := k
   rw [if_pos hf] at k
   intro vs H' g' st hp w' h'
   refine ⟨by rw [h'.len]; exact lim_le hf, fun p hp' => ?_⟩
   refine fin_tup (Q := Q) w' (fun v H2 g2 st2 s2 w2 vo => k v H2 g2 (st.trans st2) (fun q => (hp q).trans s2) w2 (vo.back st)) h' hp'
  ·show PE X _ (tE Γ ρ S pu ((if fits ds.length = true then M.pure (D.tup ds, false) else M.fail) S1))
   rw [if_neg hf]
   exact pe_err
theorem s_lst {xs : List Expr} {ms : M (List D)} (h : PA X xs (tDs Γ ρ S pu (ms S))) : PE X (.List xs pos) (tE Γ ρ S pu (M.bind ms (fun ds => if fits ds.length then M.pure (.lst ds, true) else M.fail) S)) := by
 rw [bind_app]
 cases e : ms S with
 | err => exact pe_err
 | exc c S' => exact pe_exc
 | ok ds S1 =>
  by_cases hf : fits ds.length = true
  ·refine (pe_lst h).imp fun σ H Q ⟨g, w, env, k⟩ => ⟨g, w, env, ?_⟩
   rw [e]
   have k : kE Γ H g pu Q ((if fits ds.length = true then M.pure (D.lst ds, true) else M.fail) S1) := k
   rw [if_pos hf] at k
   intro vs H' g' st hp w' h'
   refine ⟨by rw [h'.len]; exact lim_le hf, fun p hp' => ?_⟩
   refine fin_lst (Q := Q) w' (fun v H2 g2 st2 s2 w2 vo => k v H2 g2 (st.trans st2) (fun q => (hp q).trans s2) w2 (vo.back st)) h' hp'
  ·show PE X _ (tE Γ ρ S pu ((if fits ds.length = true then M.pure (D.lst ds, true) else M.fail) S1))
   rw [if_neg hf]
   exact pe_err
theorem s_box {m : M (D × Bool)} (h : PE X x (tE Γ ρ S pu (m S))) : PE X x (tE Γ ρ S false (M.bind m (fun p => if p.2 = true then M.bind M.get fun S => M.bind (M.put (S ++ [p.1])) fun _ => M.pure (.ref S.length, false) else M.fail) S)) := by
 rw [bind_app]
 cases e : m S with
 | err => exact pe_err
 | exc c S' => exact pe_exc
 | ok p S1 =>
  obtain ⟨d, fr⟩ := p
  cases fr with
  | false => exact pe_err
  | true =>
   refine h.imp fun σ H Q ⟨g, w, env, k⟩ => ⟨g, w, env, ?_⟩
   rw [e]
   intro v H' g' st hp w' vo
   obtain ⟨g2, s2, w2, h2⟩ := boxed st w' vo
   exact k v H' g2 s2 (fun h => by cases h) w2 h2
theorem s_sub {a b : M D} {pa pb : Bool} (hK : X.K = Γ.K) (hu : X.A.units + 1 < cLine) (ha : PE X x (tD Γ ρ S pa (a S))) (hb : ∀ S, PE X y (tD Γ ρ S pb (b S))) (hp : PlainIx y) :
    PE X (.Subscript x y pos) (tE Γ ρ S (pa && pb) (M.bind a (fun da => M.bind b fun db => M.bind M.get fun S => M.bind (M.of (subD (deref S da) db)) fun d => M.pure (d, false)) S)) := by
  rw [bind_app]
  cases ea : a S with
  | err => exact pe_err
  | exc c S' => exact pe_exc
  | ok da S1 =>
    show PE X _ (tE Γ ρ S _ (M.bind b _ S1))
    rw [bind_app]
    cases eb : b S1 with
    | err => exact pe_err
    | exc c S' => exact pe_exc
    | ok db S2 =>
      show PE X _ (tE Γ ρ S _ (M.bind (M.of (subD (deref S2 da) db)) (fun d => M.pure (d, false)) S2))
      cases eo : subD (deref S2 da) db with
      | none => exact pe_err
      | some d =>
        obtain ⟨r, h1, h2⟩ := ix_rdo (X := X) hK hu eo
        refine (pe_ix h1 ha (hb S1) hp).imp fun σ H Q ⟨g, w, env, k⟩ => ?_
        refine two_ok ea eb w env (d := d) (fr := false) ?_ k
        have e : deref S2 db = db := by
          cases db with
          | ref n => unfold subD at eo; split at eo <;> first | cases eo | (rename_i hh; cases hh) | skip
                     all_goals (simp [dgetD, keyD] at eo)
          | _ => rfl
        rw [e]
        exact h2
end
end EV
namespace L2
open PySem PySem.Spec PyProof.Rows
noncomputable def cxG (X : Cx) (sc : Scope) (cl : List (Str × Addr)) (xs : List Str) (js : List Nat) (C : Addr) (s3 : Shared) (H3 : Hp) (fp : List Addr) : Cx :=
 { X with N := xs ++ js.map (fun j => X.N.getD j ""), s₀ := s3, H₀ := H3, env := compEnvC sc cl C X.env, outer := X.stack, stack := X.stack, ex := fp, fn := fun _ => false, pn := [], xe := fun _ _ => False }
structure CompG (X : Cx) (sc : Scope) (cl : List (Str × Addr)) (xs : List Str) (js : List Nat) : Prop where
 clos : closureFor sc X.env = pure cl
 cell : ∀ y ∈ sc.names, y.2 ≠ .cell
 kind : sc.kind = .function
 names : ∀ y ∈ sc.names, y.2 = .local -> sc.names.lookup y.1 = some .local
 sub : ∀ y c, cl.lookup y = some c -> X.env.cells.lookup y = some c
 has : ∀ y, ((relabel sc X.env).names.lookup y = some .cell \/ (relabel sc X.env).names.lookup y = some .free) -> ∃ c, cl.lookup y = some c
 free : ∀ j ∈ js, ∀ y, X.N[j]? = some y -> Vis X.env.scope y /\ X.env.kindOf y ≠ some .local /\ (∃ c, cl.lookup y = some c) /\ ((relabel sc X.env).names.lookup y = some .cell \/ (relabel sc X.env).names.lookup y = some .free)
 inN : ∀ j ∈ js, j < X.N.length
section
variable {X : Cx} {pins : List (Addr × Obj)} {σ : St} {H3 : Hp} {s3 : Shared} {sc : Scope} {cl : List (Str × Addr)} {xs : List Str} {js : List Nat} {fp : List Addr} {h1 : Heap} {o : Obj} {tk : Nat}
theorem inv_compG (I : Inv X pins σ H3 s3) (K : CompG X sc cl xs js) (hns : h1.Ns s3.heap.objs.size fun _ => none) (hsb : Heap.SameBut s3.heap.objs.size (s3.heap.push o) h1)
  (hfp : ∀ b ∈ fp, FpOk X pins H3 b /\ b < s3.heap.objs.size) :
  Inv (cxG X sc cl xs js s3.heap.objs.size s3 H3 fp) [] (List.replicate xs.length none ++ rows σ js) H3 { s3 with heap := h1, toks := tk } := by
 have kept : ∀ b u, s3.heap.get? b = some u -> h1.get? b = some u := fun b u e => (hsb.2 b (Nat.ne_of_lt (Heap.lt_size e))).trans (Heap.get?_push_of_some _ e)
 refine ⟨⟨I.ok.mod, K.kind, I.ok.glob, I.ok.blt, Nat.le_refl _, fun y z c e1 e2 => I.ok.inj y z c (K.sub _ _ e1) (K.sub _ _ e2), fun y hy => K.has y hy, fun y c hf => absurd (show false = true from hf) Bool.false_ne_true, I.ok.hd, I.ok.frames, .inl rfl,
  fun b hb => ⟨Nat.ne_of_lt (hfp b hb).2, fun y c e => (hfp b hb).1.2.2.2.2.1 y c (K.sub _ _ e)⟩, I.bs, Nat.le_trans I.ok.bsz I.sz, fun b o' e hb => ?_, fun b hb z => ?_, I.stack, I.stkFree⟩,
  rfl, I.bare, Un.kept kept, ⟨_, hns, fun i y v e1 e2 e3 => ?_⟩, fun y c e => ?_, I.hok.fresh (Nat.le_refl _), fun y c e => I.freeC y c (K.sub _ _ e), fun p hp => absurd (show p ∈ ([] : List (Addr × Obj)) from hp) (by simp), I.hok.kept kept, ?_⟩
 ·rcases (hfp b hb).1.2.2.2.1 with z | z
  ·exact I.ok.noex b o' e z
  ·exact absurd (Nat.lt_of_lt_of_le (Heap.lt_size e) (Nat.le_trans I.ok.bsz z)) (Nat.lt_irrefl _)
 ·rcases List.mem_cons.mp (I.stkSub b z) with q | q
  ·exact (hfp b hb).1.2.1 q
  ·exact (hfp b hb).1.2.2.1 q
 ·by_cases hi : i < xs.length
  ·rw [List.getElem?_append_left (by simpa using hi), List.getElem?_replicate, if_pos hi] at e2
   cases e2
  ·have hi' : xs.length <= i := by omega
   have e1' : (js.map fun j => X.N.getD j "")[i - xs.length]? = some y := by
    have q : (xs ++ js.map fun j => X.N.getD j "")[i]? = some y := e1
    rw [List.getElem?_append_right hi'] at q
    exact q
   have e2' : (rows σ js)[i - xs.length]? = some (some v) := by
    rw [List.getElem?_append_right (by simpa using hi')] at e2
    simpa using e2
   generalize i - xs.length = i at e1' e2'
   rw [List.getElem?_map] at e1'
   unfold rows at e2'
   rw [List.getElem?_map] at e2'
   cases ej : js[i]? with
   | none => rw [ej] at e1'; cases e1'
   | some j =>
    rw [ej] at e1' e2'
    simp only [Option.map_some, Option.some.injEq] at e1' e2'
    have hj := List.mem_of_getElem? ej
    have hlt := K.inN j hj
    have eN : X.N[j]? = some y := by
     rw [<- e1', List.getD_eq_getElem?_getD, List.getElem?_eq_getElem hlt]
     rfl
    have eS : σ[j]? = some (some v) := by
     rw [List.getD_eq_getElem?_getD] at e2'
     cases q : σ[j]? with
     | none => rw [q] at e2'; cases e2'
     | some z => rw [q] at e2'; simpa using e2'
    obtain ⟨hv, hnl, ⟨c, hc⟩, hk⟩ := K.free j hj y eN
    obtain ⟨m, _, hl⟩ := I.loc
    obtain ⟨u, r, l⟩ := hl j y v eN eS hv
    refine ⟨u, r, ?_⟩
    rcases l with ⟨k, _⟩ | ⟨k, c', e', z⟩
    ·exact absurd k hnl
    ·have : c' = c := Option.some.inj (e'.symm.trans (K.sub _ _ hc))
     subst this
     obtain ⟨oc, hoc, hd⟩ := z
     exact .inr ⟨hk, c', hc, oc, kept _ _ hoc, hd⟩
 ·obtain ⟨v, oc, hoc, hd⟩ := I.cell y c (K.sub _ _ e)
  exact ⟨v, oc, kept _ _ hoc, hd⟩
 ·simp [rows, cxG]
noncomputable def PTs (X : Cx) (ifs : List Expr) (t : TT) : Prop :=
 ∀ (pins : List (Addr × Obj)) (s : Shared) (σ : St) (H : Hp) (Q : Bool -> Hp -> Prop), Inv X pins σ H s -> t σ H Q ->
  wpAny (model X.prog X.w) X.A (forIn ifs true fun c r => if r = true then do let ok <- isTrue c X.env (eval c X.env); pure (ForInStep.yield ok) else pure (ForInStep.yield r)) (TP X pins σ Q) X.xe s
theorem pts_nil : PTs X [] (fun _ H Q => Q true H) := fun _ _ _ H _ I h => wpAny_tests_nil ⟨H, I, h⟩
theorem pts_one {c : Expr} {t : TT} (h : PT X c t) : PTs X [c] t := fun pins s σ H Q I q => wpAny_tests_one (h pins s σ H Q I q)
noncomputable def tCompG (n : Nat) (js : List Nat) (wi : TI) (tg : TG) (tt : TT) (te : TE) (Qe : Addr -> Hp -> Prop) : St -> Hp -> Prop := fun σ H => wi σ H fun J H1 => ∀ D, H1 D = none ->
 ∃ W : Nat -> Nat -> List V -> St -> Hp -> Prop, (∃ m, W 0 m [] (List.replicate n none ++ rows σ js) (upd H1 D (.lst []))) /\ ∀ i m ys τ H2, W i m ys τ H2 ->
  (J.stop i H2 /\ Qe D H2) \/ (J.go i H2 /\ ∀ z H3, J.yld i H2 z H3 -> tg z τ H3 fun τ3 H3 => tt τ3 H3 fun b H4 =>
   if b = true then te τ3 H4 fun v H5 => H5 D = some (.lst ys) /\ ys.length < sizeLine /\ ∃ m', m' < m /\ W (i + 1) m' (ys ++ [v]) τ3 (upd H5 D (.lst (ys ++ [v])))
   else ∃ m', m' < m /\ W (i + 1) m' ys τ3 H4)
theorem comp_core {elt iter tgt : Expr} {ifs : List Expr} {pos pos' : Pos} {wi : TI} {tg : TG} {tt : TT} {te : TE} {Qe : Addr -> Hp -> Prop} {use : Option (Value -> Sem Unit)} {Q' : Value -> Shared -> Prop} {H : Hp} {s : Shared} (hc : X.calm = true) (K : CompG X sc cl xs js) (hi : PI X tgt iter wi)
  (hg : ∀ C s3 H3 fp, PG (cxG X sc cl xs js C s3 H3 fp) tgt tg) (ht : ∀ C s3 H3 fp, PTs (cxG X sc cl xs js C s3 H3 fp) ifs tt) (he : ∀ C s3 H3 fp, PE (cxG X sc cl xs js C s3 H3 fp) elt te) (hs : ∀ v, foldedSetIterable iter X.env v = pure v)
  (I : Inv X pins σ H s) (h : tCompG xs.length js wi tg tt te Qe σ H)
  (fin : ∀ (D C : Addr) (s6 : Shared) (H5 : Hp) (m : Str -> Option Value), s6.heap.Ns C m -> FpOk X pins H5 C -> (∀ h', Heap.SameBut C s6.heap h' -> Inv X pins σ H5 { s6 with heap := h' }) -> Qe D H5 -> compPost (model X.prog X.w) X.A X.xe use Q' (.ref D) C (.ok .next) s6) :
  wpAny (model X.prog X.w) X.A (comprehension (.ListComp elt [⟨tgt, iter, ifs, 0⟩] sc pos) sc X.env pos' (newList []) false (eval iter X.env) use) Q' X.xe s := by
 refine wpAny_comprehension_free (use := use) rfl hs K.clos K.kind K.names ?_
 refine thn (hi pins s σ H _ I h) fun v s1 h1 => thn h1 fun itv s2 h2 => ?_
 obtain ⟨it, fp, tn, J, H2, e, I2, T, st2, f2, h⟩ := h2
 subst e
 have hD : H2 s2.heap.objs.size = none := I2.fresh
 obtain ⟨W, ⟨m0, w0⟩, turn⟩ := h _ hD
 have I3 : Inv X pins σ (upd H2 s2.heap.objs.size (.lst [])) { s2 with heap := s2.heap.push { cls := .type "list", data := .seq ([] : List Value).toArray }, toks := s2.toks } := I2.lnew (its := []) .nil (Nat.zero_le _)
 have fpLt : ∀ b ∈ fp, b < s2.heap.objs.size := fun b hb => let ⟨o, e, _⟩ := T.obj _ _ st2 b hb; Heap.lt_size e
 refine wpAny_newObj_type (wpAny_newFunctionEnv K.cell (by intro y hy; simp at hy) (fun h₁ hns₁ hsb₁ => ?_) K.kind)
 generalize hs3 : ({ s2 with heap := s2.heap.push { cls := .type "list", data := .seq ([] : List Value).toArray }, toks := s2.toks } : Shared) = s3 at I3
 have hs3' : ({ s2 with heap := s2.heap.push { cls := .type "list", data := .seq ([] : List Value).toArray } } : Shared) = s3 := hs3
 (try rw [hs3'] at hns₁); (try rw [hs3'] at hsb₁); (try rw [hs3'])
 have hsz : s3.heap.objs.size = s2.heap.objs.size + 1 := by rw [<- hs3, Heap.size_push]
 generalize hH3 : upd H2 s2.heap.objs.size (.lst []) = H3 at I3 w0
 have fp3 : ∀ b ∈ fp, FpOk X pins H3 b /\ b < s3.heap.objs.size := fun b hb => by
  refine ⟨⟨?_, (f2 b hb).2⟩, by rw [hsz]; exact Nat.lt_succ_of_lt (fpLt b hb)⟩
  rw [<- hH3, upd_ne (Nat.ne_of_lt (fpLt b hb))]
  exact (f2 b hb).1
 have I4 := inv_compG (tk := s3.toks + ([] : List (Str × Value)).length) I3 K hns₁ hsb₁ fp3
 have st4 : tn 0 h₁ := T.keep _ _ _ st2 fun b hb o e => (hsb₁.2 b (Nat.ne_of_lt (fp3 b hb).2)).trans (Heap.get?_push_of_some _ (by rw [<- hs3]; exact Heap.get?_push_of_some _ e))
 have stat : ∀ {H' : Hp} {pl : List (Addr × Obj)}, (∀ b ∈ fp, H' b = none) -> (∀ p ∈ pl, p.1 ∉ fp) -> ∀ b ∈ fp, FpOk (cxG X sc cl xs js s3.heap.objs.size s3 H3 fp) pl H' b := fun {H'} {pl} hn hp b hb =>
  ⟨hn b hb, Nat.ne_of_lt (fp3 b hb).2, fun z => by
   rcases List.mem_cons.mp (I3.stkSub b z) with q | q
   ·exact (f2 b hb).2.1 q
   ·exact (f2 b hb).2.2.1 q, .inl hb, fun y c e => (f2 b hb).2.2.2.2.1 y c (K.sub _ _ e), fun p hp' z => by
    have hp'' : p ∈ pl := by simpa [cxG] using hp'
    exact hp p hp'' (z ▸ hb)⟩
 have loop : ∀ s4 : Shared, s4 = { s3 with heap := h₁, toks := s3.toks + ([] : List (Str × Value)).length } ->
   codeAny (model X.prog X.w) X.A (.compLoop (.ListComp elt [⟨tgt, iter, ifs, 0⟩] sc pos) 0 (.ref it) (.ref s2.heap.objs.size) (compEnvC sc cl s3.heap.objs.size X.env))
    (compPost (model X.prog X.w) X.A X.xe use Q' (.ref s2.heap.objs.size) s3.heap.objs.size) s4 := by
  rintro s4 rfl
  refine codeAny_loop rfl (fun n s' => ∃ i ys τ H', Inv (cxG X sc cl xs js s3.heap.objs.size s3 H3 fp) [] τ H' s' /\ tn i s'.heap /\ (∀ b ∈ fp, H' b = none) /\ W i n ys τ H') ?_ m0 ⟨0, [], _, H3, I4, st4, fun b hb => (fp3 b hb).1.1, w0⟩
  rintro n s5 ⟨i, ys, τ, H5, I5, st5, fr5, w5⟩
  show wpAny _ X.A ((compTurn (.ListComp elt [⟨tgt, iter, ifs, 0⟩] sc pos) 0 (.ref it) (.ref s2.heap.objs.size) (compEnvC sc cl s3.heap.objs.size X.env)).onRaise (fun x => do noteFrame x (compEnvC sc cl s3.heap.objs.size X.env); theTreesLotGoes x)) _ _ s5
  refine wpAny_noted ?_
  rw [compTurn_list]
  refine wpAny_bind (wpAny_standAt (wpAny_bind ?_))
  rcases turn i n ys τ H5 w5 with ⟨stop, q⟩ | ⟨go, step⟩
  ·refine thn (T.done (cxG X sc cl xs js s3.heap.objs.size s3 H3 fp) rfl rfl rfl hc i [] s5 τ H5 _ I5 (stat fr5 (fun p hp => absurd hp (by simp))) st5 stop) fun r s6 ⟨hr, I6⟩ => ?_
   subst hr
   refine wpAny_pure ?_
   obtain ⟨m, hn, _⟩ := I6.loc
   refine fin _ _ s6 H5 m hn (I3.fpOk (Nat.le_refl _) I6.free) (fun h' sb => ?_) q
   have u := (show Un (frs X.stack) fp H3 H5 s3.heap s6.heap from I6.base).sameBut sb (Nat.le_refl _)
   exact I3.call' (s' := { s6 with heap := h' }) (ch := fp) I6.os u (I6.hok.sameBut sb I6.free) I6.bare fun b hb => ⟨(f2 b hb).2.2.2.1, (f2 b hb).2.1, (f2 b hb).2.2.2.2.1, (f2 b hb).2.2.2.2.2⟩
  ·refine thn (T.item (cxG X sc cl xs js s3.heap.objs.size s3 H3 fp) rfl rfl rfl hc i [] s5 τ H5 _ I5 (stat fr5 (fun p hp => absurd hp (by simp))) st5 go) fun r s6 ⟨u, hr, h6⟩ => ?_
   subst hr
   refine wpAny_bind (thn h6 fun _ s7 ⟨z, H7, I7, r7, y7, st7, fr7⟩ => ?_)
   have I7' := I7.pinned (stat fr7 (fun p hp => absurd hp (by simp))) (T.obj _ _ st7)
   have done : ∀ {σ' : St} {H' : Hp} {s' : Shared} {ys' : List V} {m' : Nat}, Inv (cxG X sc cl xs js s3.heap.objs.size s3 H3 fp) ([] ++ pinsAt fp s7.heap) σ' H' s' -> m' < n -> W (i + 1) m' ys' σ' H' -> ∃ m, m < n /\ ∃ i ys τ H', Inv (cxG X sc cl xs js s3.heap.objs.size s3 H3 fp) [] τ H' s' /\ tn i s'.heap /\ (∀ b ∈ fp, H' b = none) /\ W i m ys τ H' := fun {σ' H' s' ys' m'} I' hm w' =>
    ⟨m', hm, i + 1, ys', σ', H', I'.unpinned, T.keep _ _ _ st7 fun b hb o e => (I'.pin (b, o) (List.mem_append_right _ (List.mem_append_right _ (mem_pinsAt hb e)))).1, fun b hb => by
     obtain ⟨o, e, d⟩ := T.obj _ _ st7 b hb
     exact (I'.pin (b, o) (List.mem_append_right _ (List.mem_append_right _ (mem_pinsAt hb e)))).2.1, w'⟩
   refine wpAny_bind (wpAny_mono (hg _ _ _ _ _ s7 τ H7 z u _ I7' r7 (step z H7 y7)) (fun _ s8 ⟨σ8, H8, I8, q8⟩ => ?_) fun _ _ z => False.elim z)
   refine wpAny_bind (wpAny_mono (ht _ _ _ _ _ s8 σ8 H8 _ I8 q8) (fun ok s9 ⟨H9, I9, q9⟩ => ?_) fun _ _ z => False.elim z)
   cases ok with
   | false =>
    rw [if_neg Bool.false_ne_true] at q9
    obtain ⟨m', hm, w9⟩ := q9
    exact wpAny_pure ⟨rfl, done I9 hm w9⟩
   | true =>
    rw [if_pos rfl] at q9
    refine wpAny_bind (wpAny_bind (wpAny_mono (he _ _ _ _ _ s9 _ _ _ I9 q9) (fun v9 s10 ⟨x9, H10, I10, r9, q10⟩ => ?_) fun _ _ z => False.elim z))
    obtain ⟨hD9, hlen, m', hm, w10⟩ := q10
    have ap := mt_append (X := cxG X sc cl xs js s3.heap.objs.size s3 H3 fp) _ s10 _ H10 (.ref s2.heap.objs.size) [x9] (.ref s2.heap.objs.size) [v9] (fun _ H' => H' = upd H10 s2.heap.objs.size (.lst (ys ++ [x9]))) I10 rfl (.cons r9 .nil) ⟨_, ys, x9, rfl, rfl, hD9, hlen, rfl⟩
    refine wpAny_bind (wpAny_mono ap (fun _ s11 ⟨_, H11, I11, _, e11⟩ => ?_) fun _ _ z => False.elim z)
    subst e11
    exact wpAny_pure (wpAny_pure ⟨rfl, done I11 hm w10⟩)
 exact codeAny_compStart_list (loop _ rfl) (T.self _ 0 _ _ _ st4 (loop _ rfl))
theorem pe_compG {elt iter tgt : Expr} {ifs : List Expr} {pos : Pos} {wi : TI} {tg : TG} {tt : TT} {te : TE} (hc : X.calm = true) (K : CompG X sc cl xs js) (hi : PI X tgt iter wi)
  (hg : ∀ C s3 H3 fp, PG (cxG X sc cl xs js C s3 H3 fp) tgt tg) (ht : ∀ C s3 H3 fp, PTs (cxG X sc cl xs js C s3 H3 fp) ifs tt) (he : ∀ C s3 H3 fp, PE (cxG X sc cl xs js C s3 H3 fp) elt te) (hs : ∀ v, foldedSetIterable iter X.env v = pure v) :
  PE X (.ListComp elt [⟨tgt, iter, ifs, 0⟩] sc pos) (fun σ H Q => tCompG xs.length js wi tg tt te (fun D H' => Q (.ref D) H') σ H) := by
 intro pins s σ H Q I h
 rw [eval_ListComp]
 exact comp_core (use := none) (Q' := EP X pins σ Q) hc K hi hg ht he hs I h fun D C s6 H5 m hn fp inv q => ⟨m, hn, fun h' sb => ⟨.ref D, H5, inv h' sb, rfl, q⟩⟩
theorem ps_compSet {elt iter tgt : Expr} {ifs : List Expr} {pos spos npos : Pos} {wi : TI} {tg : TG} {tt : TT} {te : TE} {n : Str} {i : Nat} (hc : X.calm = true) (K : CompG X sc cl xs js) (hi : PI X tgt iter wi)
  (hg : ∀ C s3 H3 fp, PG (cxG X sc cl xs js C s3 H3 fp) tgt tg) (ht : ∀ C s3 H3 fp, PTs (cxG X sc cl xs js C s3 H3 fp) ifs tt) (he : ∀ C s3 H3 fp, PE (cxG X sc cl xs js C s3 H3 fp) elt te) (hs : ∀ v, foldedSetIterable iter X.env v = pure v)
  (hp : PG X (.Name n npos) (gName i)) (hsw : swapsWith (.ListComp elt [⟨tgt, iter, ifs, 0⟩] sc pos) (some (.Name n npos)) spos.line X.env = pure true) :
  PS X (.Assign [.Name n npos] (.ListComp elt [⟨tgt, iter, ifs, 0⟩] sc pos) spos) (fun D σ H => tCompG xs.length js wi tg tt te (fun Da H' => D.nx (σ.set i (some (.ref Da))) H') σ H) := by
 intro pins s σ H D I h
 rw [exec_Assign_Name_used _ _ _ _ hsw]
 refine wpAny_bind (wpAny_standAt (wpAny_bind ?_))
 show wpAny _ X.A (do let _ <- comprehension (.ListComp elt [⟨tgt, iter, ifs, 0⟩] sc pos) sc X.env _ (newList []) false (eval iter X.env) (some (assign (.Name n npos) X.env))) _ _ s
 refine wpAny_bind (wpAny_mono (comp_core (use := some (assign (.Name n npos) X.env)) (Q' := fun _ s' => SP X pins D .next s') hc K hi hg ht he hs I h ?_) (fun _ s' q => wpAny_pure (wpAny_pure q)) fun _ _ z => z)
 intro Da C s6 H5 m hn fp inv q
 obtain ⟨oC, es, ep, hoC, hdC, hrC⟩ := id hn
 have I6 := inv s6.heap (Heap.SameBut.refl C s6.heap)
 have I6' : Inv X (pins ++ [(C, oC)]) σ H5 { s6 with heap := s6.heap } := I6.pins_of fun p hp => (List.mem_append.mp hp).elim (fun z => I6.pin p (List.mem_append_right _ z)) fun z => by
  rw [List.mem_singleton.mp z]
  exact ⟨hoC, fp.1, fp.2.1, fp.2.2.1, fun v e => by rw [hdC] at e; cases e⟩
 show wpAny _ X.A (assign (.Name n npos) X.env (.ref Da)) _ _ s6
 refine thn (hp _ s6 σ H5 (.ref Da) (.ref Da) _ I6' rfl q) fun _ s7 ⟨σ7, H7, I7, q7⟩ => ?_
 have hC7 := (I7.pin (C, oC) (List.mem_append_right _ (List.mem_append_right _ (List.mem_singleton.mpr rfl))))
 refine ⟨m, ⟨oC, es, ep, hC7.1, hdC, hrC⟩, fun h' sb => ⟨σ7, H7, ?_, q7⟩⟩
 have I8 : Inv X pins σ7 H7 s7 := I7.unpinned
 exact I8.turned (t' := s7.toks) (fun b o hb e => (sb.2 b hb).trans e) hC7.2.1 fp.2.1 fp.2.2.2.1 fp.2.2.2.2.1 fun p hp => fp.2.2.2.2.2 p hp
noncomputable def CSet (X : Cx) (x : Expr) (t : TE) : Prop := ∀ (n : Str) (npos spos : Pos) (i : Nat), PG X (.Name n npos) (gName i) -> swapsWith x (some (.Name n npos)) spos.line X.env = pure true ->
 PS X (.Assign [.Name n npos] x spos) (fun D σ H => t σ H fun v H' => D.nx (σ.set i (some v)) H')
theorem both_imp {X : Cx} {x : Expr} {t t' : TE} (h : PE X x t /\ CSet X x t) (i : ∀ σ H Q, t' σ H Q -> t σ H Q) : PE X x t' /\ CSet X x t' :=
 ⟨h.1.imp i, fun n np sp j hp hs => (h.2 n np sp j hp hs).imp fun D σ H q => i σ H _ q⟩
theorem comp_both {elt iter tgt : Expr} {ifs : List Expr} {pos : Pos} {wi : TI} {tg : TG} {tt : TT} {te : TE} (hc : X.calm = true) (K : CompG X sc cl xs js) (hi : PI X tgt iter wi)
  (hg : ∀ C s3 H3 fp, PG (cxG X sc cl xs js C s3 H3 fp) tgt tg) (ht : ∀ C s3 H3 fp, PTs (cxG X sc cl xs js C s3 H3 fp) ifs tt) (he : ∀ C s3 H3 fp, PE (cxG X sc cl xs js C s3 H3 fp) elt te) (hs : ∀ v, foldedSetIterable iter X.env v = pure v) :
  PE X (.ListComp elt [⟨tgt, iter, ifs, 0⟩] sc pos) (fun σ H Q => tCompG xs.length js wi tg tt te (fun D H' => Q (.ref D) H') σ H) /\ CSet X (.ListComp elt [⟨tgt, iter, ifs, 0⟩] sc pos) (fun σ H Q => tCompG xs.length js wi tg tt te (fun D H' => Q (.ref D) H') σ H) :=
 ⟨pe_compG hc K hi hg ht he hs, fun n np sp i hp hsw => ps_compSet hc K hi hg ht he hs hp hsw⟩
end
end L2
namespace EV
open PySem PySem.Spec PyProof.Rows L2
structure ItOk (Γ : Gm) (J : It) (l : List D) (g : G) : Prop where
 go : ∀ (i : Nat) (H : Hp) (g' : G), Le g g' -> Same g'.R H -> i < l.length -> J.go i H
 stop : ∀ (i : Nat) (H : Hp) (g' : G), Le g g' -> Same g'.R H -> l.length <= i -> J.stop i H
 yld : ∀ (i : Nat) (H : Hp) (g' : G) (S : Store) (z : V) (H' : Hp) (d : D), Le g g' -> WOk Γ H g' S -> l[i]? = some d -> J.yld i H z H' -> ∃ g2, Step H g' H' g2 /\ Same H H' /\ WOk Γ H' g2 S /\ Has Γ g2 d z
noncomputable def kI (Γ : Gm) (H : Hp) (g : G) (pu : Bool) (Q : It -> Hp -> Prop) : R (List D) -> Prop
 | .ok l S' => ∀ J H' g', Step H g H' g' -> (pu = true -> Same H H') -> WOk Γ H' g' S' -> ItOk Γ J l g' -> Q J H'
 | _ => False
noncomputable def tI (Γ : Gm) (ρ : List (Option D)) (S : Store) (pu : Bool) (r : R (List D)) : TI := fun σ H Q => ∃ g, WOk Γ H g S /\ EnvD Γ g ρ σ /\ kI Γ H g pu Q r
section
variable {X : Cx} {Γ : Gm} {ρ : List (Option D)} {S : Store} {pu : Bool} {x y z tgt : Expr} {pos p : Pos} {cf : Cf}
theorem PI.imp {wi wi' : TI} (h : PI X tgt x wi) (i : ∀ σ H Q, wi' σ H Q -> wi σ H Q) : PI X tgt x wi' := fun pins s σ H Q I q => h pins s σ H Q I (i σ H Q q)
theorem pi_err : PI X tgt x (tI Γ ρ S pu .err) := fun _ _ _ _ _ _ ⟨_, _, _, h⟩ => h.elim
theorem pi_exc {c : Nat} {S' : Store} : PI X tgt x (tI Γ ρ S pu (.exc c S')) := fun _ _ _ _ _ _ ⟨_, _, _, h⟩ => h.elim
theorem it_lst {a : Addr} {vs : List V} {l : List D} {g : G} (h : ∀ g', Le g g' -> ∀ H, Same g'.R H -> SqL X.K H a vs) (hh : Hass Γ g l vs) : ItOk Γ (Itl X.K a) l g where
 go := fun i H g' le sr hi => ⟨vs, vs[i]'(by rw [hh.len]; exact hi), h g' le H sr, by simp [hh.len, hi]⟩
 stop := fun i H g' le sr hi => ⟨vs, h g' le H sr, by rw [hh.len]; exact hi⟩
 yld := fun i H g' S z H' d le w hd y => by
  obtain ⟨e, y⟩ := y
  subst e
  obtain ⟨v, hv, hd'⟩ := hh.get hd
  have e2 := y vs (h g' le _ w.rh)
  rw [hv] at e2
  cases e2
  exact ⟨g', Step.refl _ _, Same.refl _, w, hd'.mono le⟩
theorem it_tup {a : Addr} {vs : List V} {l : List D} {g : G} (h : ∀ g', Le g g' -> ∀ H, Same g'.R H -> SqT X.K H a vs) (hh : Hass Γ g l vs) : ItOk Γ (Itt X.K a) l g where
 go := fun i H g' le sr hi => ⟨vs, vs[i]'(by rw [hh.len]; exact hi), h g' le H sr, by simp [hh.len, hi]⟩
 stop := fun i H g' le sr hi => ⟨vs, h g' le H sr, by rw [hh.len]; exact hi⟩
 yld := fun i H g' S z H' d le w hd y => by
  obtain ⟨e, y⟩ := y
  subst e
  obtain ⟨v, hv, hd'⟩ := hh.get hd
  have e2 := y vs (h g' le _ w.rh)
  rw [hv] at e2
  cases e2
  exact ⟨g', Step.refl _ _, Same.refl _, w, hd'.mono le⟩
theorem s_seq {m : M D} (hK : X.K = Γ.K) (h : PE X x (tD Γ ρ S pu (m S))) : PI X tgt x (tI Γ ρ S pu (M.bind m (fun d => M.of (seqD d)) S)) := by
 rw [bind_app]
 cases e : m S with
 | err => exact pi_err
 | exc c S' => exact pi_exc
 | ok d S1 =>
  show PI X tgt x (tI Γ ρ S pu (M.of (seqD d) S1))
  cases d with
  | lst l =>
   refine PI.imp (pi_list h) fun σ H Q ⟨g, w, env, k⟩ => ⟨g, w, env, ?_⟩
   rw [e]
   intro v H' g' st hp w' ⟨a, vs, e1, h1, h2⟩
   exact ⟨a, e1, ⟨vs, SqL.of (w'.rh _ _ h1)⟩, k _ H' g' st hp w' (it_lst (fun g2 le H2 sr => SqL.of (sr _ _ (le.rr _ _ h1))) h2)⟩
  | tup l =>
   refine PI.imp (pi_tup h) fun σ H Q ⟨g, w, env, k⟩ => ⟨g, w, env, ?_⟩
   rw [e]
   intro v H' g' st hp w' ⟨a, vs, e1, h1, h2⟩
   exact ⟨a, e1, ⟨vs, SqT.of (w'.rh _ _ h1)⟩, k _ H' g' st hp w' (it_tup (fun g2 le H2 sr => SqT.of (sr _ _ (le.rr _ _ h1))) h2)⟩
  | scr ns =>
   refine PI.imp (pi_list h) fun σ H Q ⟨g, w, env, k⟩ => ⟨g, w, env, ?_⟩
   rw [e]
   intro v H' g' st hp w' ⟨a, e1, h1⟩
   exact ⟨a, e1, ⟨_, by rw [hK]; exact w'.rh.seq h1⟩, k _ H' g' st hp w' (it_lst (fun g2 le H2 sr => by rw [hK]; exact sr.seq (le.rr.seq h1)) Hass.ints)⟩
  | ktp l =>
   refine PI.imp (pi_tup h) fun σ H Q ⟨g, w, env, k⟩ => ⟨g, w, env, ?_⟩
   rw [e]
   intro v H' g' st hp w' ⟨a, vs, e1, h1, h2⟩
   exact ⟨a, e1, ⟨vs, by rw [hK]; exact .inr h1⟩, k _ H' g' st hp w' (it_tup (fun g2 le H2 sr => by rw [hK]; exact .inr h1) h2)⟩
  | _ => exact pi_err
theorem it_rng {lo : Int} {n : Nat} {g : G} : ItOk Γ (Itr lo n) ((List.range n).map fun (k : Nat) => D.int (lo + (k : Int))) g where
 go := fun i H g' le sr hi => by
  show i < n
  simpa using hi
 stop := fun i H g' le sr hi => by
  show n <= i
  simpa using hi
 yld := fun i H g' S z H' d le w hd y => by
  obtain ⟨e, y⟩ := y
  subst e y
  refine ⟨g', Step.refl _ _, Same.refl _, w, ?_⟩
  rw [List.getElem?_map] at hd
  cases q : (List.range n)[i]? with
  | none => rw [q] at hd; cases hd
  | some j =>
   rw [q] at hd
   cases hd
   have := (List.getElem?_eq_some_iff.mp q).2
   simp at this
   subst this
   rfl
theorem vok_int {H H' : Hp} {g' : G} {i : Int} {fr : Bool} {v : V} (h : VOk Γ H (.int i) fr v H' g') : v = .int i := by
 cases fr with
 | false => exact h
 | true => obtain ⟨_, _, _, _, _, hc⟩ := (show ∃ a, v = .ref a /\ H a = none /\ g'.R a = none /\ a ∉ g'.α /\ CellOk Γ H' g' a (.int i) from h); exact hc.elim
theorem s_rng1 {m : M (D × Bool)} (hg : Gl X "range") (hm : X.mg "range" = none) (hs : notStar x = true) (h : PE X x (tE Γ ρ S pu (m S))) : PI X tgt (.Call (.Name "range" p) [x] [] pos) (tI Γ ρ S pu (M.bind m (fun q => match q.1 with
  | .int h => if fits h.toNat && decide (-1000000 <= h) then M.pure (rangeD 0 h) else M.fail
  | _ => M.fail) S)) := by
 rw [bind_app]
 cases e : m S with
 | err => exact pi_err
 | exc c S' => exact pi_exc
 | ok q S1 =>
  obtain ⟨d, fr⟩ := q
  cases d with
  | int j =>
   show PI X tgt _ (tI Γ ρ S pu ((if fits j.toNat && decide (-1000000 <= j) then M.pure (rangeD 0 j) else M.fail) S1))
   by_cases hf : (fits j.toNat && decide (-1000000 <= j)) = true
   ·rw [if_pos hf]
    rw [Bool.and_eq_true] at hf
    have h1 : j.toNat <= 1000000 := of_decide_eq_true hf.1
    have h2 : -1000000 <= j := of_decide_eq_true hf.2
    refine PI.imp (pi_range1 hg hm (pa_cons h pa_nil (starEach_of hs _ _)) (starEach_of hs _ _)) fun σ H Q ⟨g, w, env, k⟩ => ⟨g, w, env, ?_⟩
    rw [e]
    intro v H' g' st hp w' vo
    refine ⟨j, by rw [vok_int vo], by omega, by omega, k _ H' g' st hp w' ?_⟩
    have := it_rng (Γ := Γ) (lo := 0) (n := (j - 0).toNat) (g := g')
    rw [show (j - 0).toNat = j.toNat by omega] at this
    rw [show rangeD 0 j = (List.range j.toNat).map fun (k : Nat) => D.int (0 + (k : Int)) by unfold rangeD; rw [show (j - 0).toNat = j.toNat by omega]]
    exact this
   ·rw [if_neg hf]
    exact pi_err
  | _ => exact pi_err
end
section
variable {Γ : Gm} {H H' : Hp} {g g' : G} {S : Store} {a : Addr}
theorem WOk.off_upd {o : HO} (w : WOk Γ H g S) (hr : g.R a = none) (ha : a ∉ g.α) : WOk Γ (upd H a o) g S where
 rh := fun b u q => by
  have e := w.rh b u q
  have : b ≠ a := by rintro rfl; rw [hr] at q; cases q
  rw [upd_ne this]; exact e
 len := w.len
 nd := w.nd
 off := w.off
 cell := fun k c b h1 h2 => (w.cell k c b h1 h2).mono (Le.refl g) fun o e => by
  have : b ≠ a := by rintro rfl; exact ha (List.mem_of_getElem? h2)
  rw [upd_ne this]; exact e
theorem Step.off_upd {o : HO} (s : Step H g H' g') (h : H a = none) : Step H g (upd H' a o) g' where
 le := s.le
 fr := fun b u e n => by rw [upd_ne (ne_of_none e h)]; exact s.fr b u e n
 ex := fun b u e => by rw [upd_ne (ne_of_none e h)]; exact s.ex b u e
 na := s.na
 nr := s.nr
theorem Step.kept {o : HO} (s : Step H g H' g') (h : H a = some o) (hr : g.R a = none) (ha : a ∉ g.α) : H' a = some o /\ g'.R a = none /\ a ∉ g'.α := by
 refine ⟨s.fr a o h ha, ?_, fun m => ?_⟩
 ·cases q : g'.R a with
  | none => rfl
  | some u =>
   rcases s.nr a (by rw [q]; simp) with z | z
   ·exact absurd hr z
   ·rw [h] at z; cases z
 ·rcases s.na a m with z | z
  ·exact ha z
  ·rw [h] at z; cases z
end
noncomputable def tIdx : T -> List Nat
 | .nst i is => i :: is
 | .one i => [i]
 | .tup is => is
theorem foldl_set_get {α : Type} : ∀ (l : List (Nat × α)) (r : List (Option α)) (i : Nat), (∀ p ∈ l, p.1 ≠ i) -> (l.foldl (fun r p => r.set p.1 (some p.2)) r)[i]? = r[i]?
 | [], _, _, _ => rfl
 | p :: l, r, i, h => by
  rw [List.foldl_cons, foldl_set_get l _ i fun q hq => h q (List.mem_cons_of_mem _ hq), List.getElem?_set_ne (h p List.mem_cons_self)]
theorem foldl_set_len {α : Type} : ∀ (l : List (Nat × α)) (r : List (Option α)), (l.foldl (fun r p => r.set p.1 (some p.2)) r).length = r.length
 | [], _ => rfl
 | p :: l, r => by rw [List.foldl_cons, foldl_set_len l, List.length_set]
theorem setT_keep {ρ ρ' : List (Option D)} {t : T} {d : D} (h : setT ρ t d = some ρ') : ρ'.length = ρ.length /\ ∀ i, i ∉ tIdx t -> ρ'[i]? = ρ[i]? := by
 unfold setT at h
 split at h
 ·split at h
  ·cases h
   refine ⟨by simp, fun i hi => ?_⟩
   rw [List.getElem?_set_ne]
   rintro rfl
   exact hi (by simp [tIdx])
  ·cases h
 ·split at h
  ·cases h
   refine ⟨foldl_set_len _ _, fun i hi => foldl_set_get _ _ i fun p hp => ?_⟩
   rintro rfl
   obtain ⟨p1, p2⟩ := p
   exact hi (List.of_mem_zip hp).1
  ·cases h
 ·cases h
noncomputable def rowsD (ρ : List (Option D)) (js : List Nat) : List (Option D) := js.map fun j => (ρ[j]?).getD none
theorem env_base {Γ : Gm} {g : G} {ρ : List (Option D)} {σ : L2.St} {js : List Nat} {n : Nat} (env : EnvD Γ g ρ σ) : EnvD Γ g (List.replicate n none ++ rowsD ρ js) (List.replicate n none ++ rows σ js) := by
 refine ⟨by simp [rowsD, rows], fun i d e => ?_⟩
 by_cases hi : i < n
 ·rw [List.getElem?_append_left (by simpa using hi), List.getElem?_replicate, if_pos hi] at e
  cases e
 ·have hi' : n <= i := by omega
  rw [List.getElem?_append_right (by simpa using hi')] at e
  rw [List.getElem?_append_right (by simpa using hi')]
  simp only [List.length_replicate] at e ⊢
  generalize i - n = i at e
  unfold rowsD at e
  rw [List.getElem?_map] at e
  unfold rows
  rw [List.getElem?_map]
  cases ej : js[i]? with
  | none => rw [ej] at e; cases e
  | some j =>
   rw [ej] at e
   simp only [Option.map_some, Option.some.injEq] at e
   cases q : ρ[j]? with
   | none => rw [q] at e; cases e
   | some z =>
    rw [q] at e
    simp at e
    subst e
    obtain ⟨v, hv, hd⟩ := env.get j d q
    exact ⟨v, by simp [List.getD_eq_getElem?_getD, hv], hd⟩
noncomputable def TgOk (Γ : Gm) (t : T) (tg : TG) : Prop := ∀ (ρ ρ' : List (Option D)) (d : D) (g : G) (H : Hp) (σ : L2.St) (v : V) (Q : L2.St -> Hp -> Prop), setT ρ t d = some ρ' -> EnvD Γ g ρ σ -> Same g.R H -> Has Γ g d v -> (∀ σ', EnvD Γ g ρ' σ' -> Q σ' H) -> tg v σ H Q
noncomputable def compStep (t : T) (ρb : List (Option D)) (mt : List (Option D) -> M Bool) (me : List (Option D) -> M D) (d : D) : M (Option D) := match setT ρb t d with
 | some ρ' => M.bind (mt ρ') fun b => if b = true then M.bind (me ρ') fun x => M.pure (some x) else M.pure none
 | none => M.fail
section
variable {X : Cx} {Γ : Gm} {ρ : List (Option D)} {S : Store} {pi pt pe : Bool} {x tgt elt iter : Expr} {ifs : List Expr} {pos : Pos}
theorem comp_inv {xs : List Str} {js : List Nat} {t : T} {tg : TG} {wi : TI} {mi : M (List D)} {mt : List (Option D) -> M Bool} {me : List (Option D) -> M D} {Qe : Addr -> Hp -> Prop} {ds : List D} {S' : Store} {σ : L2.St} {H : Hp} {g : G}
  (htg : TgOk Γ t tg) (hix : ∀ i ∈ tIdx t, i < nT t) (ht : nT t = xs.length) (w : WOk Γ H g S) (env : EnvD Γ g ρ σ) (tt : TT) (te : TE)
  (htt : ∀ ρ' S1 b S2, mt ρ' S1 = .ok b S2 -> ∀ σ H Q, tB Γ ρ' S1 pt (.ok b S2) σ H Q -> tt σ H Q)
  (hte : ∀ ρ' S1 d S2, me ρ' S1 = .ok d S2 -> ∀ σ H Q, tD Γ ρ' S1 pe (.ok d S2) σ H Q -> te σ H Q)
  (hw : ∀ σ H Q, tI Γ ρ S pi (mi S) σ H Q -> wi σ H Q)
  (hr : M.bind mi (fun its => walkM (compStep t (List.replicate (nT t) none ++ rowsD ρ js) mt me) its []) S = .ok ds S')
  (k : ∀ Da H' g', Step H g H' g' -> ((pi && pt && pe) = true -> Same H H') -> WOk Γ H' g' S' -> VOk Γ H (.lst ds) true (.ref Da) H' g' -> Qe Da H') : tCompG xs.length js wi tg tt te Qe σ H := by
 have back : ∀ {ρ' : List (Option D)} {d : D} {g : G} {τ : L2.St}, setT (List.replicate (nT t) none ++ rowsD ρ js) t d = some ρ' -> EnvD Γ g ρ' τ -> EnvD Γ g (List.replicate (nT t) none ++ rowsD ρ js) τ := fun {ρ' d g τ} hs env => by
  obtain ⟨h1, h2⟩ := setT_keep hs
  refine ⟨h1.symm.trans env.len, fun i d' e => env.get i d' ?_⟩
  rw [h2 i fun m => ?_]
  ·exact e
  ·have hi := hix i m
   rw [List.getElem?_append_left (by simpa using hi), List.getElem?_replicate, if_pos hi] at e
   cases e
 refine hw σ H _ ⟨g, w, env, ?_⟩
 rw [bind_app] at hr
 cases ei : mi S with
 | err => rw [ei] at hr; cases hr
 | exc c S' => rw [ei] at hr; cases hr
 | ok l S1 =>
  rw [ei] at hr
  have hr : walkM (compStep t (List.replicate (nT t) none ++ rowsD ρ js) mt me) l [] S1 = .ok ds S' := hr
  intro J H1 g1 st1 hp1 w1 hJ Da hDa
  refine ⟨fun i m ys τ H2 => m = l.length - i /\ i <= l.length /\ ∃ g2 S2 acc, Step H1 g1 H2 g2 /\ ((pt && pe) = true -> Same H1 H2) /\ WOk Γ H2 g2 S2 /\ EnvD Γ g2 (List.replicate (nT t) none ++ rowsD ρ js) τ /\ H2 Da = some (.lst ys) /\ g2.R Da = none /\ Da ∉ g2.α /\ Hass Γ g2 acc ys /\ fits acc.length = true /\ walkM (compStep t (List.replicate (nT t) none ++ rowsD ρ js) mt me) (l.drop i) acc S2 = .ok ds S', ⟨_, rfl, Nat.zero_le _, g1, S1, [], ?_⟩, ?_⟩
  ·refine ⟨(Step.refl H1 g1).off_upd hDa, fun _ => same_upd hDa, w1.laid hDa, ?_, upd_same, w1.notR hDa, w1.notA hDa, rfl, rfl, hr⟩
   rw [ht]
   exact env_base (env.mono st1.le)
  ·rintro i m ys τ H2 ⟨rfl, hi, g2, S2, acc, st2, hp2, w2, env2, hD2, hR2, hA2, hh2, hf2, hr2⟩
   by_cases hlt : i < l.length
   ·refine .inr ⟨hJ.go i H2 g2 st2.le w2.rh hlt, fun z H3 hy => ?_⟩
    obtain ⟨g3, st3, s3, w3, hz⟩ := hJ.yld i H2 g2 S2 z H3 l[i] st2.le w2 (List.getElem?_eq_getElem hlt) hy
    rw [List.drop_eq_getElem_cons hlt] at hr2
    obtain ⟨hD3, hR3, hA3⟩ := st3.kept hD2 hR2 hA2
    have hr3 : M.bind (compStep t (List.replicate (nT t) none ++ rowsD ρ js) mt me l[i]) (fun o => match o with
     | some x => if fits (acc.length + 1) then walkM (compStep t (List.replicate (nT t) none ++ rowsD ρ js) mt me) (l.drop (i + 1)) (acc ++ [x]) else M.fail
     | none => walkM (compStep t (List.replicate (nT t) none ++ rowsD ρ js) mt me) (l.drop (i + 1)) acc) S2 = .ok ds S' := hr2
    unfold compStep at hr3
    cases es : setT (List.replicate (nT t) none ++ rowsD ρ js) t l[i] with
    | none => rw [es] at hr3; cases hr3
    | some ρ' =>
     rw [es] at hr3
     have hr4 : M.bind (M.bind (mt ρ') fun b => if b = true then M.bind (me ρ') fun x => M.pure (some x) else M.pure none) (fun o => match o with
      | some x => if fits (acc.length + 1) then walkM (compStep t (List.replicate (nT t) none ++ rowsD ρ js) mt me) (l.drop (i + 1)) (acc ++ [x]) else M.fail
      | none => walkM (compStep t (List.replicate (nT t) none ++ rowsD ρ js) mt me) (l.drop (i + 1)) acc) S2 = .ok ds S' := hr3
     rw [bind_bind, bind_app] at hr4
     refine htg _ ρ' l[i] g3 H3 τ z _ es (env2.mono st3.le) w3.rh hz fun τ3 env3 => ?_
     cases et : mt ρ' S2 with
     | err => rw [et] at hr4; cases hr4
     | exc c S' => rw [et] at hr4; cases hr4
     | ok b S3 =>
      rw [et] at hr4
      refine htt ρ' S2 b S3 et τ3 H3 _ ⟨g3, w3, env3, fun H4 g4 st4 hp4 w4 => ?_⟩
      obtain ⟨hD4, hR4, hA4⟩ := st4.kept hD3 hR3 hA3
      cases b with
      | false =>
       rw [if_neg Bool.false_ne_true]
       have hr5 : walkM (compStep t (List.replicate (nT t) none ++ rowsD ρ js) mt me) (l.drop (i + 1)) acc S3 = .ok ds S' := hr4
       refine ⟨l.length - (i + 1), by omega, rfl, hlt, g4, S3, acc, (st2.trans st3).trans st4, fun q => ?_, w4, back es (env3.mono st4.le), hD4, hR4, hA4, hh2.mono (st3.le.trans st4.le), hf2, hr5⟩
       have q' := Bool.and_eq_true_iff.mp q
       exact ((hp2 q).trans s3).trans (hp4 q'.1)
      | true =>
       rw [if_pos rfl]
       have hr5 : M.bind (M.bind (me ρ') fun x => M.pure (some x)) (fun o => match o with
        | some x => if fits (acc.length + 1) then walkM (compStep t (List.replicate (nT t) none ++ rowsD ρ js) mt me) (l.drop (i + 1)) (acc ++ [x]) else M.fail
        | none => walkM (compStep t (List.replicate (nT t) none ++ rowsD ρ js) mt me) (l.drop (i + 1)) acc) S3 = .ok ds S' := hr4
       rw [bind_bind, bind_app] at hr5
       cases ee : me ρ' S3 with
       | err => rw [ee] at hr5; cases hr5
       | exc c S' => rw [ee] at hr5; cases hr5
       | ok d S4 =>
        rw [ee] at hr5
        have hr6 : (if fits (acc.length + 1) then walkM (compStep t (List.replicate (nT t) none ++ rowsD ρ js) mt me) (l.drop (i + 1)) (acc ++ [d]) else M.fail) S4 = .ok ds S' := hr5
        by_cases hf : fits (acc.length + 1) = true
        ·rw [if_pos hf] at hr6
         refine hte ρ' S3 d S4 ee τ3 H4 _ ⟨g4, w4, env3.mono st4.le, fun v H5 g5 st5 hp5 w5 hv => ?_⟩
         obtain ⟨hD5, hR5, hA5⟩ := st5.kept hD4 hR4 hA4
         have le5 := (st3.le.trans st4.le).trans st5.le
         refine ⟨hD5, ?_, l.length - (i + 1), by omega, rfl, hlt, g5, S4, acc ++ [d], (((st2.trans st3).trans st4).trans st5).off_upd hDa, fun q => ?_, w5.off_upd hR5 hA5, back es (env3.mono (st4.le.trans st5.le)), upd_same, hR5, hA5, (hh2.mono le5).app (Hass.mk1 hv), by rw [List.length_append]; exact hf, hr6⟩
         ·rw [hh2.len]
          exact lim_lt hf2
         ·have q' := Bool.and_eq_true_iff.mp q
          have sm := ((hp2 q).trans s3).trans ((hp4 q'.1).trans (hp5 q'.2))
          intro b u hb
          rw [upd_ne (ne_of_none hb hDa)]
          exact sm b u hb
        ·rw [if_neg hf] at hr6; cases hr6
   ·have e : i = l.length := by omega
    subst e
    refine .inl ⟨hJ.stop _ H2 g2 st2.le w2.rh (Nat.le_refl _), ?_⟩
    rw [List.drop_length] at hr2
    have hr3 : R.ok acc S2 = .ok ds S' := hr2
    cases hr3
    have st := st1.trans st2
    refine k Da H2 g2 st (fun q => ?_) w2 ⟨Da, rfl, st1.noneOf hDa, hR2, hA2, ys, hD2, hh2⟩
    have q' := Bool.and_eq_true_iff.mp q
    have q'' := Bool.and_eq_true_iff.mp q'.1
    exact (hp1 q''.1).trans (hp2 (by rw [q''.2, q'.2]; rfl))
end
end EV
namespace EV
open PySem PySem.Spec PyProof.Rows L2
theorem enum_len : ∀ (n : Nat) (l : List D), (enumD n l).length = l.length
 | _, [] => rfl
 | n, d :: l => by show (enumD (n + 1) l).length + 1 = _; rw [enum_len]; rfl
theorem enum_get : ∀ (n : Nat) (l : List D) (i : Nat) (d : D), (enumD n l)[i]? = some d -> ∃ d0, l[i]? = some d0 /\ d = .tup [.int ((n + i : Nat) : Int), d0]
 | _, [], i, d, h => by simp [enumD] at h
 | n, x :: l, 0, d, h => by
  have h : some (D.tup [.int n, x]) = some d := h
  cases h
  exact ⟨x, rfl, rfl⟩
 | n, x :: l, i + 1, d, h => by
  have h : (enumD (n + 1) l)[i]? = some d := by simpa [enumD] using h
  obtain ⟨d0, e1, e2⟩ := enum_get (n + 1) l i d h
  refine ⟨d0, by simpa using e1, ?_⟩
  rw [e2, show n + 1 + i = n + (i + 1) by omega]
section
variable {X : Cx} {Γ : Gm} {ρ : List (Option D)} {S : Store} {pu : Bool} {x y z : Expr} {pos p tp : Pos} {elts : List Expr} {kk : Nat}
theorem yld_enum {l : List D} {vs : List V} {g g' : G} {H : Hp} {i : Nat} {d : D} {a : Addr} {y : V} (hh : Hass Γ g l vs) (le : Le g g') (w : WOk Γ H g' S) (hd : (enumD 0 l)[i]? = some d) (ha : H a = none) (hy : vs[i]? = some y) :
  ∃ g2, Step H g' (upd H a (.tup [.int i, y])) g2 /\ Same H (upd H a (.tup [.int i, y])) /\ WOk Γ (upd H a (.tup [.int i, y])) g2 S /\ Has Γ g2 d (.ref a) := by
 obtain ⟨d0, e1, e2⟩ := enum_get 0 l i d hd
 obtain ⟨v, hv, hd'⟩ := hh.get e1
 rw [hy] at hv
 cases hv
 have hr := w.notR ha
 refine ⟨g'.put a (.tup [.int i, y]), (Step.of_same (same_upd ha) (Le.refl g') (fun _ h => .inl h) fun _ h => .inl h).put hr ha, same_upd ha, (w.laid ha).put upd_same hr (w.notA ha), ?_⟩
 rw [e2, show 0 + i = i by omega]
 exact ⟨a, [.int i, y], rfl, upd_same, .int i, [y], rfl, rfl, y, [], rfl, (hd'.mono le).mono (Le.put hr), rfl⟩
theorem it_enL {a : Addr} {vs : List V} {l : List D} {g : G} (h : ∀ g', Le g g' -> ∀ H, Same g'.R H -> SqL X.K H a vs) (hh : Hass Γ g l vs) : ItOk Γ (Ite X.K a) (enumD 0 l) g where
 go := fun i H g' le sr hi => by
  rw [enum_len] at hi
  exact ⟨vs, vs[i]'(by rw [hh.len]; exact hi), h g' le H sr, by simp [hh.len, hi]⟩
 stop := fun i H g' le sr hi => by
  rw [enum_len] at hi
  exact ⟨vs, h g' le H sr, by rw [hh.len]; exact hi⟩
 yld := fun i H g' S z H' d le w hd yy => by
  obtain ⟨p, y, hp, rfl, rfl, hy⟩ := yy
  exact yld_enum hh le w hd hp (hy vs (h g' le _ w.rh))
theorem it_enT {a : Addr} {vs : List V} {l : List D} {g : G} (h : ∀ g', Le g g' -> ∀ H, Same g'.R H -> SqT X.K H a vs) (hh : Hass Γ g l vs) : ItOk Γ (Itet X.K a) (enumD 0 l) g where
 go := fun i H g' le sr hi => by
  rw [enum_len] at hi
  exact ⟨vs, vs[i]'(by rw [hh.len]; exact hi), h g' le H sr, by simp [hh.len, hi]⟩
 stop := fun i H g' le sr hi => by
  rw [enum_len] at hi
  exact ⟨vs, h g' le H sr, by rw [hh.len]; exact hi⟩
 yld := fun i H g' S z H' d le w hd yy => by
  obtain ⟨p, y, hp, rfl, rfl, hy⟩ := yy
  exact yld_enum hh le w hd hp (hy vs (h g' le _ w.rh))
theorem s_enum {m : M D} (hK : X.K = Γ.K) (hg : Gl X "enumerate") (hm : X.mg "enumerate" = none) (hs : notStar x = true) (h : PE X x (tD Γ ρ S pu (m S))) : PI X (.Tuple elts kk tp) (.Call (.Name "enumerate" p) [x] [] pos) (tI Γ ρ S pu (M.bind m (fun d => M.bind (M.of (enumS d)) fun l => M.pure (enumD 0 l)) S)) := by
 rw [bind_app]
 cases e : m S with
 | err => exact pi_err
 | exc c S' => exact pi_exc
 | ok d S1 =>
  cases d with
  | lst l =>
   refine PI.imp (pi_enum hg hm rfl (pa_cons h pa_nil (starEach_of hs _ _)) (starEach_of hs _ _)) fun σ H Q ⟨g, w, env, k⟩ => ⟨g, w, env, ?_⟩
   rw [e]
   intro v H' g' st hp w' ⟨a, vs, e1, h1, h2⟩
   exact ⟨a, by rw [e1], ⟨vs, SqL.of (w'.rh _ _ h1)⟩, k _ H' g' st hp w' (it_enL (fun g2 le H2 sr => SqL.of (sr _ _ (le.rr _ _ h1))) h2)⟩
  | tup l =>
   refine PI.imp (pi_enumT hg hm rfl (pa_cons h pa_nil (starEach_of hs _ _)) (starEach_of hs _ _)) fun σ H Q ⟨g, w, env, k⟩ => ⟨g, w, env, ?_⟩
   rw [e]
   intro v H' g' st hp w' ⟨a, vs, e1, h1, h2⟩
   exact ⟨a, by rw [e1], ⟨vs, SqT.of (w'.rh _ _ h1)⟩, k _ H' g' st hp w' (it_enT (fun g2 le H2 sr => SqT.of (sr _ _ (le.rr _ _ h1))) h2)⟩
  | _ => exact pi_err
end
end EV
namespace EV
open PySem PySem.Spec PyProof.Rows L2
noncomputable def spE (Γ : Gm) (cf : Cf) (f n : Nat) : Sp := fun vs H Q _ => vs.length = n /\ ∃ g ds S, WOk Γ H g S /\ Hass Γ g ds vs /\ kE Γ H g false Q (cf f ds S)
structure FnI (Γ : Gm) (B : Tb) (cf : Cf) (k : Nat) (P : Program) (w : World) (K : PySem.W.Frag) (mg : Str -> Option Value) (base : Heap) (f : Nat) (x : Str) : Prop where
 ex : ∃ (a : Addr) (fd : FuncData) (ps : List Str), Γ.fa f = some a /\ mg x = some (.ref a) /\ PySem.W.keepIn K (.ref a) = true /\ Binds K fd ps [] /\ B.pars[f]? = some ps /\ FnOk P w K mg base CX0 k a fd ps (spE Γ cf f ps.length) /\
  ∀ (ks : List Str) (perm : List Nat), perm.length = ps.length -> (∀ i ∈ perm, i < ks.length) -> perm.map (fun i => ks.getD i "") = ps -> ks.length = ps.length -> (f, ks, perm) ∈ B.kws ->
   KBinds K fd ps ks (fun us ws => if ws.length = ks.length then us ++ perm.map fun i => ws.getD i .none else []) (fun vs zs => if zs.length = ks.length then vs ++ perm.map fun i => zs.getD i .non else [])
structure XOk (Γ : Gm) (B : Tb) (cf : Cf) (k : Nat) (X : Cx) (c : Cc) : Prop where
 hK : X.K = Γ.K
 nm : X.env.scope.names = c.names
 kd : X.env.scope.kind = .function
 N : X.N = c.N
 nd : X.N.Nodup
 fn : c.fn = true -> ∀ x, X.fn x = true
 calm : X.calm = true
 room : Room k X.A
 cells : ∀ x, (c.names.lookup x = some .cell \/ c.names.lookup x = some .free) -> ∃ a, X.env.cells.lookup x = some a
 fns : ∀ (f : Nat) (x : Str), B.fns[f]? = some x -> FnI Γ B cf k X.prog X.w X.K X.mg X.base f x
 bare : ∀ x ∈ B.bare, X.mg x = none
 consts : ∀ (n : Nat) (x : Str) (d : D), B.consts[n]? = some (x, d) -> ∃ u v, X.mg x = some u /\ RelV v u /\ ∀ g, Has Γ g d v
section
variable {Γ : Gm} {B : Tb} {cf : Cf} {k : Nat} {X : Cx} {c : Cc}
theorem XOk.u61 (x : XOk Γ B cf k X c) : X.A.units + 61 < cLine := by have := x.room.un; omega
theorem XOk.u1 (x : XOk Γ B cf k X c) : X.A.units + 1 < cLine := by have := x.room.un; omega
theorem XOk.vis (x : XOk Γ B cf k X c) {n : Str} (h : visK (c.names.lookup n) = true) : Vis X.env.scope n := by
 unfold Vis
 rw [x.nm]
 cases q : c.names.lookup n with
 | none => rw [q] at h; cases h
 | some kd => rw [q] at h; cases kd <;> first | exact .inl rfl | exact .inr (.inl rfl) | exact .inr (.inr rfl) | cases h
theorem XOk.glob (x : XOk Γ B cf k X c) {n : Str} (h : gloK (c.names.lookup n) = true) : Gl X n := by
 unfold Gl Env.kindOf
 rw [x.nm]
 cases q : c.names.lookup n with
 | none => rw [q] at h; cases h
 | some kd => rw [q] at h; cases kd <;> first | rfl | cases h
theorem plain_of {n : Str} (h : plainN n = true) : (n == ("__debug__" : Str)) = false /\ (n == ("__classdict__" : Str)) = false /\ n ≠ ("__name__" : Str) := by
 unfold plainN at h
 simp only [Bool.and_eq_true, Bool.not_eq_true'] at h
 exact ⟨h.1.1, h.1.2, by simpa using h.2⟩
theorem XOk.pg (x : XOk Γ B cf k X c) {i : Nat} {n : Str} {pos : Pos} (hi : c.N[i]? = some n) (hs : stoK c n = true) : PG X (.Name n pos) (gName i) := by
 have hi' : X.N[i]? = some n := by rw [x.N]; exact hi
 unfold stoK at hs
 cases q : c.names.lookup n with
 | none => rw [q] at hs; cases hs
 | some kd =>
  rw [q] at hs
  have q' : X.env.scope.names.lookup n = some kd := by rw [x.nm]; exact q
  cases kd with
  | «local» => exact pg_name x.nd hi' (.inl q') (.inr q')
  | cell => exact pg_name x.nd hi' (.inr q') (.inl (x.fn hs n))
  | _ => cases hs
theorem EnvD.set {g : G} {ρ : List (Option D)} {σ : L2.St} {d : D} {v : V} (x : EnvD Γ g ρ σ) (i : Nat) (h : Has Γ g d v) : EnvD Γ g (ρ.set i (some d)) (σ.set i (some v)) := by
 refine ⟨by simp [x.len], fun j d' e => ?_⟩
 by_cases hj : i = j
 ·subst hj
  rw [List.getElem?_set_self'] at e
  cases hq : ρ[i]? with
  | none => rw [hq] at e; cases e
  | some z =>
   rw [hq] at e
   cases e
   have hi : i < σ.length := by rw [<- x.len]; exact (List.getElem?_eq_some_iff.mp hq).1
   exact ⟨v, List.getElem?_set_self hi, h⟩
 ·rw [List.getElem?_set_ne hj] at e ⊢
  exact x.get j d' e
theorem tg_one {i : Nat} : TgOk Γ (.one i) (gName i) := by
 intro ρ ρ' d g H σ v Q hs env sr hd q
 simp only [setT] at hs
 split at hs
 ·cases hs; exact q _ (env.set i hd)
 ·cases hs
noncomputable def gNames : List Nat -> TGs
 | [] => gNil
 | i :: is => gCons (gName i) (gNames is)
theorem gNames_ok {Q : L2.St -> Hp -> Prop} {H : Hp} {g : G} : ∀ {is : List Nat} {ds : List D} {vs : List V} {ρ : List (Option D)} {σ : L2.St}, is.length = ds.length -> Hass Γ g ds vs -> EnvD Γ g ρ σ ->
  (∀ σ', EnvD Γ g ((is.zip ds).foldl (fun r p => r.set p.1 (some p.2)) ρ) σ' -> Q σ' H) -> gNames is vs σ H Q
 | [], [], vs, ρ, σ, _, h, env, q => by
  cases (show vs = [] from h)
  exact ⟨rfl, q σ env⟩
 | i :: is, d :: ds, vs, ρ, σ, hl, ⟨v, r, e, hd, hr⟩, env, q => by
  subst e
  exact ⟨v, r, rfl, gNames_ok (by simpa using hl) hr (env.set i hd) q⟩
 | [], _ :: _, _, _, _, hl, _, _, _ => by simp at hl
 | _ :: _, [], _, _, _, hl, _, _, _ => by simp at hl
theorem tg_tup {K : PySem.W.Frag} {is : List Nat} {n : Nat} (hn : n = is.length) : TgOk Γ (.tup is) (gTup K n (gNames is)) := by
 intro ρ ρ' d g H σ v Q hs env sr hd q
 cases d with
 | tup ds =>
  simp only [setT] at hs
  split at hs
  ·rename_i hc
   cases hs
   obtain ⟨a, vs, rfl, h1, h2⟩ := hd
   exact ⟨a, vs, rfl, SqT.of (sr _ _ h1), by rw [h2.len, hn, hc.1], gNames_ok hc.1 h2 env q⟩
  ·cases hs
 | _ => simp [setT] at hs
theorem pgs_of (x : XOk Γ B cf k X c) : ∀ {es : List Expr} {ns : List Str} {is : List Nat}, EV.namesOf es = some ns -> ns.length = is.length -> ((is.zip ns).all fun p => c.N[p.1]? == some p.2 && stoK c p.2) = true ->
  PGs X es (gNames is) /\ (assignEach es X.env).length = is.length /\ (assignEach es X.env).findIdx? (·.1) = none
 | [], ns, is, h, hl, _ => by
  cases (show some [] = some ns from h)
  cases is with
  | nil => exact ⟨pgs_nil, rfl, rfl⟩
  | cons => simp at hl
 | e :: es, ns, is, h, hl, ha => by
  cases e with
  | Name n pos =>
   simp only [EV.namesOf, Option.map_eq_some_iff] at h
   obtain ⟨r, h1, h2⟩ := h
   subst h2
   cases is with
   | nil => simp at hl
   | cons i is =>
    simp only [List.zip_cons_cons, List.all_cons, Bool.and_eq_true] at ha
    obtain ⟨⟨ha1, ha2⟩, ha3⟩ := ha
    obtain ⟨g1, g2, g3⟩ := pgs_of x h1 (by simpa using hl) ha3
    refine ⟨pgs_cons (x.pg (eq_of_beq ha1) ha2) g1, ?_, ?_⟩
    ·show (_ :: assignEach es X.env).length = _
     rw [List.length_cons, g2, List.length_cons]
    ·show List.findIdx? _ ((false, _) :: assignEach es X.env) = none
     rw [List.findIdx?_cons]
     simp [g3]
  | _ => simp [EV.namesOf] at h
noncomputable def tgOf (K : PySem.W.Frag) : T -> TG
 | .nst i is => gTup K 2 (gCons (gName i) (gCons (gTup K is.length (gNames is)) gNil))
 | .one i => gName i
 | .tup is => gTup K is.length (gNames is)
theorem tgOf_ok {K : PySem.W.Frag} (t : T) : TgOk Γ t (tgOf K t) := by
 cases t with
 | one i => exact tg_one
 | tup is => exact tg_tup rfl
 | nst i is => exact fun ρ ρ' d g H σ v Q hs => by cases d <;> cases hs
theorem asNst_is {x : Expr} {q : Str × Pos × List Expr × Nat × Pos × Nat × Pos} (h : asNst x = some q) : x = .Tuple [.Name q.1 q.2.1, .Tuple q.2.2.1 q.2.2.2.1 q.2.2.2.2.1] q.2.2.2.2.2.1 q.2.2.2.2.2.2 := by
 cases x with
 | Tuple es k p =>
  cases es with
  | nil => cases h
  | cons a r =>
   cases a with
   | Name n pos =>
    cases r with
    | nil => cases h
    | cons b z =>
     cases z with
     | cons _ _ => cases h
     | nil =>
      cases b with
      | Tuple fs k2 p2 => cases h; rfl
      | _ => cases h
   | _ => cases h
 | _ => cases h
theorem tgt_nst (x : XOk Γ B cf k X c) {t : T} {tgt : Expr} (hn : isNst t = true) (h : chkT c t tgt = true) : PG X tgt (tgOf X.K t) := by
  cases t with
  | nst i is =>
    unfold chkT at h
    rw [if_pos hn] at h
    cases e : asNst tgt with
    | none => rw [e] at h; cases h
    | some q =>
      rw [e] at h
      have h : (match namesOf q.2.2.1 with
        | some ns => (q.1 :: ns).length == (i :: is).length && ((i :: is).zip (q.1 :: ns)).all fun p => c.N[p.1]? == some p.2 && stoK c p.2
        | none => false) = true := h
      rw [asNst_is e]
      cases en : namesOf q.2.2.1 with
      | none => rw [en] at h; cases h
      | some ns =>
        rw [en] at h
        simp only [List.zip_cons_cons, List.all_cons, Bool.and_eq_true] at h
        obtain ⟨h1, ⟨h2, h3⟩, h4⟩ := h
        have h1 : ns.length = is.length := by simpa using h1
        obtain ⟨g1, g2, g3⟩ := pgs_of x en h1 h4
        exact pg_tup x.calm (pgs_cons (x.pg (eq_of_beq h2) h3) (pgs_cons (pg_tup x.calm g1 g2 g3) pgs_nil)) rfl rfl
  | _ => cases hn
theorem tgt_ok (x : XOk Γ B cf k X c) {t : T} {tgt : Expr} (h : chkT c t tgt = true) : PG X tgt (tgOf X.K t) := by
 by_cases hnst : isNst t = true
 ·exact tgt_nst x hnst h
 unfold chkT at h
 rw [if_neg hnst] at h
 rw [Bool.and_eq_true] at h
 obtain ⟨h1, h2⟩ := h
 cases tgt with
 | Name n pos =>
  cases t with
  | one i =>
   simp only [tgtNames, tIs, List.zip_cons_cons, List.zip_nil_right, List.all_cons, List.all_nil, Bool.and_true, Bool.and_eq_true] at h2
   exact x.pg (eq_of_beq h2.2.1) h2.2.2
  | tup is => cases h1
  | nst _ _ => exact absurd rfl hnst
 | Tuple es kk pos =>
  cases t with
  | one i => cases h1
  | nst _ _ => exact absurd rfl hnst
  | tup is =>
   simp only [tgtNames, tIs] at h2
   cases hn : EV.namesOf es with
   | none => rw [hn] at h2; cases h2
   | some ns =>
    rw [hn] at h2
    simp only [Bool.and_eq_true, beq_iff_eq] at h2
    obtain ⟨g1, g2, g3⟩ := pgs_of x hn h2.1 (by simpa using h2.2)
    exact pg_tup x.calm g1 g2 g3
 | _ => simp [tgtNames] at h2
noncomputable def closL (cells : List (Str × Addr)) : List (Str × NameKind) -> List (Str × Addr) -> List (Str × Addr)
 | [], acc => acc
 | (n, kd) :: r, acc => if (kd == NameKind.free) = true then closL cells r ((n, (cells.lookup n).getD 0) :: acc) else closL cells r acc
theorem clos_loop {env : Env} : ∀ (names : List (Str × NameKind)) (acc : List (Str × Addr)), (∀ y ∈ names, y.2 = .free -> ∃ a, env.cells.lookup y.1 = some a) ->
  (forIn names acc fun x cs => match x with
   | (name, kind) => if (kind == NameKind.free) = true then do let a <- cellOf env name; pure (ForInStep.yield ((name, a) :: cs)) else pure (ForInStep.yield cs) : Sem (List (Str × Addr))) = pure (closL env.cells names acc)
 | [], acc, _ => rfl
 | (n, kd) :: r, acc, h => by
  rw [List.forIn_cons]
  by_cases hk : (kd == NameKind.free) = true
  ·obtain ⟨a, ha⟩ := h (n, kd) List.mem_cons_self (eq_of_beq hk)
   have ha : env.cells.lookup n = some a := ha
   simp only [hk, if_true]
   have : cellOf env n = pure a := by unfold cellOf; rw [ha]
   rw [this]
   simp only [pure_bind]
   rw [clos_loop r _ fun y hy => h y (List.mem_cons_of_mem _ hy)]
   simp [closL, hk, ha]
  ·simp only [hk]
   simp only [Bool.false_eq_true, if_false, pure_bind]
   rw [clos_loop r _ fun y hy => h y (List.mem_cons_of_mem _ hy)]
   simp [closL, hk]
theorem clos_eq {env : Env} {sc : Scope} (h : ∀ y ∈ sc.names, y.2 = .free -> ∃ a, env.cells.lookup y.1 = some a) : closureFor sc env = pure (closL env.cells sc.names []) := by
 unfold closureFor
 have := clos_loop sc.names [] h
 first
  | exact (congrArg (fun z => z >>= pure) this).trans (by simp)
  | (simp only [bind_pure]; exact this)
  | exact this
theorem closL_look {cells : List (Str × Addr)} {y : Str} : ∀ (names : List (Str × NameKind)) (acc : List (Str × Addr)), (∀ z ∈ names, z.2 = .free -> ∃ a, cells.lookup z.1 = some a) -> (∀ c, acc.lookup y = some c -> cells.lookup y = some c) ->
  (∀ c, (closL cells names acc).lookup y = some c -> cells.lookup y = some c) /\ ((y, NameKind.free) ∈ names \/ (∃ c, acc.lookup y = some c) -> ∃ c, (closL cells names acc).lookup y = some c)
 | [], acc, _, h => ⟨h, fun q => by
  rcases q with q | q
  ·cases q
  ·exact q⟩
 | (n, kd) :: r, acc, hh, h => by
  by_cases hk : (kd == NameKind.free) = true
  ·obtain ⟨a, ha⟩ := hh (n, kd) List.mem_cons_self (eq_of_beq hk)
   have ha : cells.lookup n = some a := ha
   have e : closL cells ((n, kd) :: r) acc = closL cells r ((n, a) :: acc) := by
    simp [closL, hk, ha]
   rw [e]
   obtain ⟨i1, i2⟩ := closL_look (y := y) r ((n, a) :: acc) (fun z hz => hh z (List.mem_cons_of_mem _ hz)) (fun c q => by
    rw [List.lookup_cons] at q
    cases hy : y == n with
    | true => rw [hy] at q; cases q; rw [eq_of_beq hy]; exact ha
    | false => rw [hy] at q; exact h c q)
   refine ⟨i1, fun q => i2 ?_⟩
   rcases q with q | ⟨c, q⟩
   ·rcases List.mem_cons.mp q with q | q
    ·right
     cases q
     exact ⟨a, List.lookup_cons_self⟩
    ·exact .inl q
   ·right
    rw [List.lookup_cons]
    cases hy : y == n with
    | true => exact ⟨a, rfl⟩
    | false => exact ⟨c, q⟩
  ·have e : closL cells ((n, kd) :: r) acc = closL cells r acc := by simp [closL, hk]
   rw [e]
   obtain ⟨i1, i2⟩ := closL_look (y := y) r acc (fun z hz => hh z (List.mem_cons_of_mem _ hz)) h
   refine ⟨i1, fun q => i2 ?_⟩
   rcases q with q | q
   ·rcases List.mem_cons.mp q with q | q
    ·cases q; exact absurd rfl hk
    ·exact .inl q
   ·exact .inr q
theorem rel_names (x : XOk Γ B cf k X c) (sc : Scope) : (relabel sc X.env).names = relK c.names sc.names := by
 unfold relabel relK
 simp only [x.kd, Env.kindOf, x.nm]
 congr 1
 funext y
 have e : (ScopeKind.function == ScopeKind.function) = true := rfl
 rw [e, Bool.and_true]
theorem relK_free {names l : List (Str × NameKind)} {y : Str} {kd : NameKind} (hc : ∀ z ∈ l, z.2 ≠ .cell) : (relK names l).lookup y = some kd -> kd = .cell \/ kd = .free -> (y, NameKind.free) ∈ l := by
 intro h hk
 induction l with
 | nil => cases h
 | cons p l ih =>
  obtain ⟨n, q⟩ := p
  have hq := hc (n, q) List.mem_cons_self
  show (y, NameKind.free) ∈ (n, q) :: l
  unfold relK at h
  rw [List.map_cons] at h
  by_cases e : (q == NameKind.free && names.lookup n == some .cell) = true
  ·simp only [e, if_true] at h
   rw [List.lookup_cons] at h
   cases hy : y == n with
   | true =>
    rw [Bool.and_eq_true] at e
    rw [eq_of_beq hy, eq_of_beq e.1]
    exact List.mem_cons_self
   | false =>
    rw [hy] at h
    exact List.mem_cons_of_mem _ (ih (fun z hz => hc z (List.mem_cons_of_mem _ hz)) h)
  ·simp only [e, Bool.false_eq_true, if_false] at h
   rw [List.lookup_cons] at h
   cases hy : y == n with
   | true =>
    rw [hy] at h
    cases h
    rcases hk with hk | hk
    ·exact absurd hk hq
    ·rw [hk, eq_of_beq hy]; exact List.mem_cons_self
   | false =>
    rw [hy] at h
    exact List.mem_cons_of_mem _ (ih (fun z hz => hc z (List.mem_cons_of_mem _ hz)) h)
theorem relK_look {names l : List (Str × NameKind)} {y : Str} (h : l.lookup y = some .free) : (relK names l).lookup y = some .cell \/ (relK names l).lookup y = some .free := by
 induction l with
 | nil => cases h
 | cons p l ih =>
  obtain ⟨n, q⟩ := p
  rw [List.lookup_cons] at h
  unfold relK
  rw [List.map_cons]
  cases hy : y == n with
  | true =>
   rw [hy] at h
   cases h
   by_cases e : (NameKind.free == NameKind.free && names.lookup n == some .cell) = true
   ·left
    simp only [e, if_true, List.lookup_cons, hy]
   ·right
    simp only [e, Bool.false_eq_true, if_false, List.lookup_cons, hy]
  | false =>
   rw [hy] at h
   have := ih h
   by_cases e : (q == NameKind.free && names.lookup n == some .cell) = true
   ·simp only [e, if_true, List.lookup_cons, hy]; exact this
   ·simp only [e, Bool.false_eq_true, if_false, List.lookup_cons, hy]; exact this
theorem compG_of (x : XOk Γ B cf k X c) {sc : Scope} {js : List Nat} {xs : List Str} (h : chkS c sc js = true) : CompG X sc (closL X.env.cells sc.names []) xs js := by
 unfold chkS at h
 simp only [Bool.and_eq_true, List.all_eq_true, beq_iff_eq] at h
 obtain ⟨⟨⟨⟨⟨h1, h2⟩, h3⟩, h4⟩, h5⟩, h6⟩ := h
 have hc : ∀ y ∈ sc.names, y.2 ≠ .cell := fun y hy => by simpa using h2 y hy
 have hcell : ∀ y ∈ sc.names, y.2 = .free -> ∃ a, X.env.cells.lookup y.1 = some a := fun y hy hf => by
  have := h5 y hy
  rw [hf] at this
  refine x.cells y.1 ?_
  simpa using this
 refine ⟨clos_eq hcell, hc, h1, fun y hy hl => ?_, fun y c' q => (closL_look sc.names [] hcell (fun _ q => by cases q)).1 c' q, fun y hy => ?_, fun j hj y hy => ?_, fun j hj => ?_⟩
 ·have := h3 y hy
  rw [hl] at this
  simpa using this
 ·rw [rel_names x] at hy
  refine (closL_look sc.names [] hcell (fun _ q => by cases q)).2 (.inl ?_)
  rcases hy with q | q
  ·exact relK_free hc q (.inl rfl)
  ·exact relK_free hc q (.inr rfl)
 ·have q := h6 j hj
  rw [x.N] at hy
  rw [hy] at q
  simp only [Bool.and_eq_true, Bool.or_eq_true, beq_iff_eq] at q
  refine ⟨?_, ?_, (closL_look sc.names [] hcell (fun _ q => by cases q)).2 (.inl (PySem.mem_of_lookup q.2)), ?_⟩
  ·unfold Vis
   rw [x.nm]
   rcases q.1 with z | z
   ·exact .inr (.inl z)
   ·exact .inr (.inr z)
  ·unfold Env.kindOf
   rw [x.nm]
   rcases q.1 with z | z <;> rw [z] <;> decide
  ·rw [rel_names x]
   exact relK_look q.2
 ·have q := h6 j hj
  cases e : c.N[j]? with
  | none => rw [e] at q; cases q
  | some y => rw [x.N]; exact (List.getElem?_eq_some_iff.mp e).1
theorem xok_inner (x : XOk Γ B cf k X c) {sc : Scope} {js : List Nat} {xs : List Str} (h : chkS c sc js = true) (hn : (xs ++ js.map (fun j => c.N.getD j "")).Nodup) (C : Addr) (s3 : Shared) (H3 : Hp) (fp : List Addr) :
  XOk Γ B cf k (cxG X sc (closL X.env.cells sc.names []) xs js C s3 H3 fp) (inner c sc xs js) := by
 have K := compG_of (xs := xs) x h
 refine ⟨x.hK, rel_names x sc, K.kind, by show xs ++ js.map (fun j => X.N.getD j "") = _; rw [x.N]; rfl, by show (xs ++ js.map (fun j => X.N.getD j "")).Nodup; rw [x.N]; exact hn, fun q => absurd (show false = true from q) Bool.false_ne_true, x.calm, x.room, fun y hy => ?_, x.fns, x.bare, x.consts⟩
 have hy' : (relabel sc X.env).names.lookup y = some .cell \/ (relabel sc X.env).names.lookup y = some .free := by rw [rel_names x]; exact hy
 exact K.has y hy'
end
end EV
namespace EV
open PySem PySem.Spec PyProof.Rows L2
section
variable {X : Cx} {Γ : Gm} {B : Tb} {cf : Cf} {k : Nat} {c : Cc} {ρ : List (Option D)} {S : Store} {pu : Bool} {x y z : Expr} {pos p : Pos}
theorem s_chn {o1 o2 : CmpOp} {a b d : M D} {pa pb pd : Bool} (hK : X.K = Γ.K) (hu : X.A.units + 61 < cLine) (ha : PE X x (tD Γ ρ S pa (a S))) (hb : ∀ S, PE X y (tD Γ ρ S pb (b S))) (hd : ∀ S, PE X z (tD Γ ρ S pd (d S))) (hm : lastMarks [o1, o2] [y, z] = false) :
  PE X (.Compare x [o1, o2] [y, z] pos) (tE Γ ρ S (pa && pb && pd) (M.bind a (fun da => M.bind b fun db => M.bind M.get fun S => M.bind (M.of (cmpD o1 (deref S da) (deref S db))) fun r => if r = true then M.bind d fun dd => M.bind M.get fun S => M.bind (M.of (cmpD o2 (deref S db) (deref S dd))) fun r => M.pure (D.bl r, false) else M.pure (D.bl false, false)) S)) /\
  PT X (.Compare x [o1, o2] [y, z] pos) (tB Γ ρ S (pa && pb && pd) (M.bind a (fun da => M.bind b fun db => M.bind M.get fun S => M.bind (M.of (cmpD o1 (deref S da) (deref S db))) fun r => if r = true then M.bind d fun dd => M.bind M.get fun S => M.of (cmpD o2 (deref S db) (deref S dd)) else M.pure false) S)) := by
 rw [bind_app, bind_app]
 cases ea : a S with
 | err => exact ⟨pe_err, pt_err⟩
 | exc c S' => exact ⟨pe_exc, pt_exc⟩
 | ok da S1 =>
  show PE X _ (tE Γ ρ S _ (M.bind b _ S1)) /\ PT X _ (tB Γ ρ S _ (M.bind b _ S1))
  rw [bind_app, bind_app]
  cases eb : b S1 with
  | err => exact ⟨pe_err, pt_err⟩
  | exc c S' => exact ⟨pe_exc, pt_exc⟩
  | ok db S2 =>
   show PE X _ (tE Γ ρ S _ (M.bind (M.of (cmpD o1 (deref S2 da) (deref S2 db))) _ S2)) /\ PT X _ (tB Γ ρ S _ (M.bind (M.of (cmpD o1 (deref S2 da) (deref S2 db))) _ S2))
   cases e1 : cmpD o1 (deref S2 da) (deref S2 db) with
   | none => exact ⟨pe_err, pt_err⟩
   | some r =>
    obtain ⟨r1, h1, h2⟩ := cmp_rdo (X := X) hK hu e1
    have any : ∃ r2, OpR X (compareOp o2) r2 := ⟨fun _ _ _ _ => False, fun _ _ _ _ _ _ _ _ _ _ _ _ q => q.elim⟩
    have way : ∀ (r2 : R2) (σ : L2.St) (H : Hp) (g : G) (Q : VK), WOk Γ H g S -> EnvD Γ g ρ σ ->
      (∀ u v H' g', Step H g H' g' -> ((pa && pb) = true -> Same H H') -> WOk Γ H' g' S2 -> Has Γ g' da u -> Has Γ g' db v -> (if r = true then tD Γ ρ S2 pd (d S2) σ H' (fun w' H4 => r2 v w' H4 Q) else Q (.bl false) H')) ->
      tChain r1 r2 (tD Γ ρ S pa (a S)) (tD Γ ρ S1 pb (b S1)) (tD Γ ρ S2 pd (d S2)) σ H Q := fun r2 σ H g Q w env kk => by
     refine ⟨g, w, env, ?_⟩
     rw [ea]
     intro u H1 g1 st1 p1 w1 hu1
     refine ⟨g1, w1, env.mono st1.le, ?_⟩
     rw [eb]
     intro v H2 g2 st2 p2 w2 hv2
     refine h2 S2 H2 g2 u v _ w2 (rdb_of w2 (hu1.mono st2.le)) (rdb_of w2 hv2) fun t H3 g3 st3 s3 w3 vo => ⟨r, vok_bl vo, ?_⟩
     refine kk u v H3 g3 ((st1.trans st2).trans st3) (fun q => ?_) w3 ((hu1.mono st2.le).mono st3.le) (hv2.mono st3.le)
     rw [Bool.and_eq_true] at q
     exact ((p1 q.1).trans (p2 q.2)).trans s3
    cases r with
    | false =>
     obtain ⟨r2, hr2⟩ := any
     refine ⟨(pe_chain h1 hr2 ha (hb S1) (hd S2) hm).imp fun σ H Q ⟨g, w, env, kk⟩ => way r2 σ H g Q w env fun u v H' g' st sp w' _ _ => iteF ?_,
      (pt_chain h1 hr2 ha (hb S1) (hd S2) hm).imp fun σ H Q ⟨g, w, env, kk⟩ => way r2 σ H g _ w env fun u v H' g' st sp w' _ _ => iteF ?_⟩
     ·refine kk _ H' g' st (fun q => sp ?_) w' rfl
      rw [Bool.and_eq_true] at q
      exact q.1
     ·refine ⟨false, rfl, kk H' g' st (fun q => sp ?_) w'⟩
      rw [Bool.and_eq_true] at q
      exact q.1
    | true =>
     show PE X _ (tE Γ ρ S _ (M.bind d _ S2)) /\ PT X _ (tB Γ ρ S _ (M.bind d _ S2))
     rw [bind_app, bind_app]
     cases ed : d S2 with
     | err => exact ⟨pe_err, pt_err⟩
     | exc c S' => exact ⟨pe_exc, pt_exc⟩
     | ok dd S3 =>
      show PE X _ (tE Γ ρ S _ (M.bind (M.of (cmpD o2 (deref S3 db) (deref S3 dd))) _ S3)) /\ PT X _ (tB Γ ρ S _ (M.of (cmpD o2 (deref S3 db) (deref S3 dd)) S3))
      cases e2 : cmpD o2 (deref S3 db) (deref S3 dd) with
      | none => exact ⟨pe_err, pt_err⟩
      | some r' =>
       obtain ⟨r2, h3, h4⟩ := cmp_rdo (X := X) hK hu e2
       refine ⟨(pe_chain h1 h3 ha (hb S1) (hd S2) hm).imp fun σ H Q ⟨g, w, env, kk⟩ => way r2 σ H g Q w env fun u v H' g' st sp w' hu' hv' => iteT ⟨g', w', env.mono st.le, ?_⟩,
        (pt_chain h1 h3 ha (hb S1) (hd S2) hm).imp fun σ H Q ⟨g, w, env, kk⟩ => way r2 σ H g _ w env fun u v H' g' st sp w' hu' hv' => iteT ⟨g', w', env.mono st.le, ?_⟩⟩
       ·rw [ed]
        intro t H4 g4 st4 sp4 w4 ht
        refine h4 S3 H4 g4 v t Q w4 (rdb_of w4 (hv'.mono st4.le)) (rdb_of w4 ht) fun q H5 g5 st5 s5 w5 vo => ?_
        refine kk q H5 g5 ((st.trans st4).trans st5) (fun z => ?_) w5 (vo.back (st.trans st4))
        rw [Bool.and_eq_true] at z
        exact ((sp z.1).trans (sp4 z.2)).trans s5
       ·rw [ed]
        intro t H4 g4 st4 sp4 w4 ht
        refine h4 S3 H4 g4 v t _ w4 (rdb_of w4 (hv'.mono st4.le)) (rdb_of w4 ht) fun q H5 g5 st5 s5 w5 vo => ?_
        refine ⟨r', vok_bl vo, kk H5 g5 ((st.trans st4).trans st5) (fun z => ?_) w5⟩
        rw [Bool.and_eq_true] at z
        exact ((sp z.1).trans (sp4 z.2)).trans s5
noncomputable def tO (Γ : Gm) (ρ : List (Option D)) (S : Store) (pu : Bool) (i : Option Int) (S' : Store) : TO := fun σ H Q => ∃ g, WOk Γ H g S /\ EnvD Γ g ρ σ /\ ∀ H' g', Step H g H' g' -> (pu = true -> Same H H') -> WOk Γ H' g' S' -> Q i H'
theorem s_po {o : Option Expr} {m : M D} {mo : Option (M D)} (h : match o, mo with
    | none, none => True
    | some x, some m => PE X x (tD Γ ρ S pu (m S))
    | _, _ => False) {d : Option D} {S1 : Store} {i : Option Int} (e : (match mo with
    | none => M.pure none
    | some m => M.bind m fun d => M.pure (some d)) S = .ok d S1) (hb : boundD d = some i) : PO X o (tO Γ ρ S pu i S1) := by
  cases o with
  | none =>
    cases mo with
    | none =>
      cases e
      cases hb
      exact fun pins s σ H Q I ⟨g, w, env, q⟩ => po_none pins s σ H Q I (q H g (Step.refl H g) (fun _ => Same.refl H) w)
    | some m => exact h.elim
  | some x =>
    cases mo with
    | none => exact h.elim
    | some m =>
      have e : M.bind m (fun d => M.pure (some d)) S = .ok d S1 := e
      rw [bind_app] at e
      cases em : m S with
      | err => rw [em] at e; cases e
      | exc c S' => rw [em] at e; cases e
      | ok d' S' =>
        rw [em] at e
        cases e
        cases d' with
        | int j =>
          cases hb
          refine fun pins s σ H Q I ⟨g, w, env, q⟩ => po_some h pins s σ H Q I ⟨g, w, env, ?_⟩
          rw [em]
          intro v H' g' st hp w' hv
          exact ⟨j, hv, q H' g' st hp w'⟩
        | _ => cases hb
theorem s_slc {m : M D} {lo hi : Option Expr} {ml mh : M (Option D)} {pl ph : Bool} {p2 : Pos} (hK : X.K = Γ.K) (h : PE X x (tD Γ ρ S pu (m S)))
  (hl : ∀ S d S1 i, ml S = .ok d S1 -> boundD d = some i -> PO X lo (tO Γ ρ S pl i S1)) (hh : ∀ S d S1 i, mh S = .ok d S1 -> boundD d = some i -> PO X hi (tO Γ ρ S ph i S1)) :
  PE X (.Subscript x (.Slice lo hi none p2) pos) (tE Γ ρ S (pu && pl && ph) (M.bind m (fun x => M.bind ml fun l => M.bind mh fun h => M.bind (M.of (boundD l)) fun l => M.bind (M.of (boundD h)) fun h => M.bind M.get fun S => M.of (slcD (deref S x) l h)) S)) := by
 rw [bind_app]
 cases em : m S with
 | err => exact pe_err
 | exc c S' => exact pe_exc
 | ok d S1 =>
  show PE X _ (tE Γ ρ S _ (M.bind ml _ S1))
  rw [bind_app]
  cases el : ml S1 with
  | err => exact pe_err
  | exc c S' => exact pe_exc
  | ok dl S2 =>
   show PE X _ (tE Γ ρ S _ (M.bind mh _ S2))
   rw [bind_app]
   cases eh : mh S2 with
   | err => exact pe_err
   | exc c S' => exact pe_exc
   | ok dh S3 =>
    show PE X _ (tE Γ ρ S _ (M.bind (M.of (boundD dl)) _ S3))
    cases bl : boundD dl with
    | none => exact pe_err
    | some i =>
     show PE X _ (tE Γ ρ S _ (M.bind (M.of (boundD dh)) _ S3))
     cases bh : boundD dh with
     | none => exact pe_err
     | some j =>
      show PE X _ (tE Γ ρ S _ (M.of (slcD (deref S3 d) i j) S3))
      cases es : slcD (deref S3 d) i j with
      | none => exact pe_err
      | some q =>
       obtain ⟨dr, fr⟩ := q
       obtain ⟨r, h1, h2⟩ := sl_rds (X := X) (Γ := Γ) hK es
       refine (pe_slice h1 h (hl S1 dl S2 i el bl) (hh S2 dh S3 j eh bh)).imp fun σ H Q ⟨g, w, env, kk⟩ => ⟨g, w, env, ?_⟩
       rw [em]
       intro v H1 g1 st1 p1 w1 hv
       refine ⟨g1, w1, env.mono st1.le, fun H2 g2 st2 p2 w2 => ⟨g2, w2, env.mono (st1.le.trans st2.le), fun H3 g3 st3 p3 w3 => ?_⟩⟩
       have st := (st1.trans st2).trans st3
       refine h2 S3 H3 g3 v Q w3 (rdb_of w3 (hv.mono (st2.le.trans st3.le))) fun u H4 g4 st4 s4 w4 vo => ?_
       refine kk u H4 g4 (st.trans st4) (fun z => ?_) w4 (vo.back st)
       rw [Bool.and_eq_true, Bool.and_eq_true] at z
       exact (((p1 z.1.1).trans (p2 z.1.2)).trans (p3 z.2)).trans s4
theorem back_plain {xs : List Expr} {env : Env} {pos : Pos} (h : ∀ x ∈ xs, notStar x = true) : (backTo pos (starEach xs env)).any (·.1) = false := by
 induction xs with
 | nil => rfl
 | cons a l ih =>
  rw [starEach_of (h a List.mem_cons_self)]
  show (false || (backTo pos (starEach l env)).any (·.1)) = false
  rw [ih fun z hz => h z (List.mem_cons_of_mem _ hz)]
  rfl
set_option tactic.hygienic true in
theorem boot_bi (b : BI) : bootBuiltins (biS b) = some (biV b) := by
 cases b <;> (first | (decide +kernel) | (rename_i t; cases t <;> decide +kernel))
set_option tactic.hygienic true in
theorem s_bi {b : BI} {xs : List Expr} {ms : M (List D)} (ok : XOk Γ B cf k X c) (hi : isI b = false) (hg : Gl X (biS b)) (hm : X.mg (biS b) = none) (hs : ∀ z ∈ x :: xs, notStar z = true) (h : PA X (x :: xs) (tDs Γ ρ S pu (ms S))) :
  PE X (.Call (.Name (biS b) p) (x :: xs) [] pos) (tE Γ ρ S pu (M.bind ms (fun ds => M.bind M.get fun S => M.of (biD b (ds.map (deref S)))) S)) := by
 rw [bind_app]
 cases e : ms S with
 | err => exact pe_err
 | exc c S' => exact pe_exc
 | ok ds S1 =>
  show PE X _ (tE Γ ρ S pu (M.of (biD b (ds.map (deref S1))) S1))
  cases eb : biD b (ds.map (deref S1)) with
  | none => exact pe_err
  | some q =>
   obtain ⟨d, fr⟩ := q
   obtain ⟨r, h1, h2⟩ := bi_rdc (X := X) (Γ := Γ) ok.hK ok.calm hi eb
   have hn : biS b ≠ ("__name__" : Str) := by cases b <;> (first | decide | (rename_i t; cases t <;> decide))
   have hdb : (biS b == ("__debug__" : Str)) = false := by cases b <;> (first | decide | (rename_i t; cases t <;> decide))
   have he := starEach_of (hs x List.mem_cons_self) xs X.env
   have hpl := back_plain (pos := pos) (env := X.env) fun z hz => hs z (List.mem_cons_of_mem _ hz)
   have fin : ∀ σ H Q, tE Γ ρ S pu (.ok (d, fr) S1) σ H Q -> tCB r (tDs Γ ρ S pu (ms S)) σ H Q := fun σ H Q ⟨g, w, env, kk⟩ => ⟨g, w, env, by
    rw [e]
    intro vs H' g' st hp w' hv
    refine h2 S1 H' g' vs Q w' (rdbs_of w' hv) fun u H2 g2 st2 s2 w2 vo => kk u H2 g2 (st.trans st2) (fun z => (hp z).trans s2) w2 (vo.back st)⟩
   have bb := boot_bi b
   cases hb : biV b with
   | builtin id => rw [hb] at h1 bb; exact (pe_callB h1 hg hm bb h hn hdb he hpl).imp fin
   | type T => rw [hb] at h1 bb; exact (pe_callTy h1 hg hm bb h hn hdb he hpl).imp fin
   | _ => cases b <;> cases hb
theorem s_is {t : Ty} {m : M D} {pz : Pos} (ok : XOk Γ B cf k X c) (hg : Gl X "isinstance") (hm : X.mg "isinstance" = none) (hgt : Gl X (tyN t)) (hmt : X.mg (tyN t) = none) (hs : notStar x = true) (h : PE X x (tD Γ ρ S pu (m S))) :
  PE X (.Call (.Name "isinstance" p) [x, .Name (tyN t) pz] [] pos) (tE Γ ρ S pu (M.bind m (fun d => M.bind M.get fun S => M.of (biD (.isinst t) [deref S d])) S)) := by
 rw [bind_app]
 cases e : m S with
 | err => exact pe_err
 | exc c S' => exact pe_exc
 | ok d S1 =>
  show PE X _ (tE Γ ρ S pu (M.of (biD (.isinst t) [deref S1 d]) S1))
  cases eb : isTy t (deref S1 d) with
  | none =>
   have e2 : biD (.isinst t) [deref S1 d] = none := by
    show (isTy t (deref S1 d)).map (fun b => (D.bl b, false)) = _
    rw [eb]
    rfl
   rw [e2]
   exact pe_err
  | some b =>
   have e2 : biD (.isinst t) [deref S1 d] = some (.bl b, false) := by
    show (isTy t (deref S1 d)).map (fun b => (D.bl b, false)) = _
    rw [eb]
    rfl
   rw [e2]
   obtain ⟨r, h1, h2⟩ := is_rdc (X := X) (Γ := Γ) ok.hK eb
   have hvt : bootBuiltins (tyN t) = some (.type (tyS t)) := by cases t <;> decide +kernel
   have hn : tyN t ≠ ("__name__" : Str) := by cases t <;> decide
   have hdb : (tyN t == ("__debug__" : Str)) = false := by cases t <;> decide
   refine (pe_callB h1 hg hm (by decide +kernel) (pa_cons h (pa_cons (pe_bltn (v := .ty (tyS t)) hgt hmt hvt rfl hn hdb) pa_nil rfl) (starEach_of hs _ _)) (by decide) (by decide) (starEach_of hs _ _) rfl).imp fun σ H Q ⟨g, w, env, kk⟩ => ⟨g, w, env, ?_⟩
   rw [e]
   intro v H' g' st hp w' hv
   exact h2 S1 H' g' v Q w' (rdb_of w' hv) (kk (.bl b) H' g' st hp w' rfl)
theorem kE_step {H H1 : Hp} {g g1 : G} {Q : VK} {r : R (D × Bool)} (st : Step H g H1 g1) (h : kE Γ H g false Q r) : kE Γ H1 g1 false Q r := by
 cases r with
 | err => exact h
 | exc c S' => exact h
 | ok q S' => exact fun v H' g' st' _ w' vo => h v H' g' (st.trans st') (fun z => by cases z) w' (vo.back st)
theorem s_call {f : Nat} {n : Str} {xs : List Expr} {ms : M (List D)} (ok : XOk Γ B cf k X c) (hf : B.fns[f]? = some n) (hg : Gl X n) (hdb : (n == ("__debug__" : Str)) = false) (hs : ∀ z ∈ x :: xs, notStar z = true) (h : PA X (x :: xs) (tDs Γ ρ S pu (ms S)))
  (hl : ∀ ds S', ms S = .ok ds S' -> ∀ ps, B.pars[f]? = some ps -> cf f ds S' ≠ .err -> ds.length = ps.length) :
  PE X (.Call (.Name n p) (x :: xs) [] pos) (tE Γ ρ S false (M.bind ms (fun ds => cf f ds) S)) := by
 obtain ⟨a, fd, ps, h1, h2, h3, h4, h5, h6, _⟩ := (ok.fns f n hf).ex
 rw [bind_app]
 cases e : ms S with
 | err => exact pe_err
 | exc c S' => exact pe_exc
 | ok ds S1 =>
  show PE X _ (tE Γ ρ S false (cf f ds S1))
  refine (pe_call h6 ok.room hg h2 h3 h4 .nil pass0 h hdb (starEach_of (hs x List.mem_cons_self) _ _) (back_plain fun z hz => hs z (List.mem_cons_of_mem _ hz))).imp fun σ H Q ⟨g, w, env, kk⟩ => ⟨g, w, env, ?_⟩
  rw [e]
  intro vs H' g' st hp w' hv
  refine ⟨?_, g', ds, S1, w', by rw [List.append_nil]; exact hv, kE_step st kk⟩
  rw [List.append_nil, hv.len]
  refine hl ds S1 e ps h5 fun z => ?_
  rw [z] at kk
  exact kk
theorem s_kcons {n : Str} {kp : Pos} {kws : List Keyword} {m : M D} {ms : M (List D)} {pb : Bool} (h1 : PE X x (tD Γ ρ S pu (m S))) (h2 : ∀ S, PK X kws (tDs Γ ρ S pb (ms S))) :
  PK X (⟨some n, x, kp⟩ :: kws) (tDs Γ ρ S (pu && pb) (M.bind m (fun d => M.bind ms fun ds => M.pure (d :: ds)) S)) := by
 intro pos pins s σ H Q I ⟨g, w, env, kk⟩
 rw [bind_app] at kk
 cases e : m S with
 | err => rw [e] at kk; exact kk.elim
 | exc c S' => rw [e] at kk; exact kk.elim
 | ok d S1 =>
  rw [e] at kk
  have kk : kDs Γ H g (pu && pb) Q (M.bind ms (fun ds => M.pure (d :: ds)) S1) := kk
  rw [bind_app] at kk
  cases e2 : ms S1 with
  | err => rw [e2] at kk; exact kk.elim
  | exc c S' => rw [e2] at kk; exact kk.elim
  | ok ds S2 =>
   rw [e2] at kk
   refine pk_cons h1 (h2 S1) pos pins s σ H Q I ⟨g, w, env, ?_⟩
   rw [e]
   intro v H' g' st hp w' h'
   refine ⟨g', w', env.mono st.le, ?_⟩
   rw [e2]
   intro vs H2 g2 st2 hp2 w2 h2
   refine kk (v :: vs) H2 g2 (st.trans st2) (fun h => ?_) w2 ⟨v, vs, rfl, h'.mono st2.le, h2⟩
   have q := Bool.and_eq_true_iff.mp h
   exact (hp q.1).trans (hp2 q.2)
theorem s_knil : PK X [] (tDs Γ ρ S true (.ok [] S)) := fun pos pins s σ H Q I ⟨g, w, env, kk⟩ => pk_nil pos pins s σ H Q I (kk [] H g (Step.refl H g) (fun _ => Same.refl H) w rfl)
theorem mapM_perm {g : G} {ds ds' : List D} {vs : List V} {perm : List Nat} (h : perm.mapM (fun i => ds[i]?) = some ds') (hv : Hass Γ g ds vs) : Hass Γ g ds' (perm.map fun i => vs.getD i .non) := by
 induction perm generalizing ds' with
 | nil =>
  simp at h
  subst h
  rfl
 | cons i r ih =>
  rw [List.mapM_cons] at h
  cases e : ds[i]? with
  | none => rw [e] at h; cases h
  | some d =>
   rw [e] at h
   simp only [Option.bind_eq_bind, Option.bind_some] at h
   cases e2 : r.mapM (fun i => ds[i]?) with
   | none => rw [e2] at h; cases h
   | some l =>
    rw [e2] at h
    cases h
    obtain ⟨v, hv', hd⟩ := hv.get e
    refine ⟨v, _, ?_, hd, ih e2⟩
    simp [List.getD_eq_getElem?_getD, hv']
theorem kwn_all {kws : List Keyword} {ks : List Str} {env : Env} {pos : Pos} (h : kwNames kws = some ks) : (backToKw pos (keywordEach kws env)).all (·.1.isSome) = true /\ (backToKw pos (keywordEach kws env)).filterMap (·.1) = ks /\ (backToKw pos (keywordEach kws env)).any (·.1.isNone) = false := by
 induction kws generalizing ks with
 | nil => cases h; exact ⟨rfl, rfl, rfl⟩
 | cons q r ih =>
  obtain ⟨n, v, kp⟩ := q
  cases n with
  | none => cases h
  | some n =>
   simp only [kwNames, Option.map_eq_some_iff] at h
   obtain ⟨l, h1, h2⟩ := h
   subst h2
   obtain ⟨i1, i2, i3⟩ := ih h1
   refine ⟨?_, ?_, ?_⟩
   ·show (true && (backToKw pos (keywordEach r env)).all (·.1.isSome)) = true
    rw [i1]; rfl
   ·show n :: (backToKw pos (keywordEach r env)).filterMap (·.1) = n :: l
    rw [i2]
   ·show (false || (backToKw pos (keywordEach r env)).any (·.1.isNone)) = false
    rw [i3]; rfl
theorem s_callk {f : Nat} {n : Str} {kws : List Keyword} {ks ps : List Str} {perm : List Nat} {ms : M (List D)} (ok : XOk Γ B cf k X c) (hf : B.fns[f]? = some n) (hg : Gl X n) (hdb : (n == ("__debug__" : Str)) = false) (h : PK X kws (tDs Γ ρ S pu (ms S)))
  (hk : kwNames kws = some ks) (hp : B.pars[f]? = some ps) (h1 : perm.length = ps.length) (h2 : ∀ i ∈ perm, i < ks.length) (h3 : perm.map (fun i => ks.getD i "") = ps) (h4 : ks.length = ps.length) (h5 : (f, ks, perm) ∈ B.kws) (h6 : ∀ ds S', ms S = .ok ds S' -> ds.length = ks.length) :
  PE X (.Call (.Name n p) [] kws pos) (tE Γ ρ S false (M.bind ms (fun ds => M.bind (M.of (perm.mapM fun i => ds[i]?)) fun ds => cf f ds) S)) := by
 obtain ⟨a, fd, ps', g1, g2, g3, g4, g5, g6, g7⟩ := (ok.fns f n hf).ex
 have e5 : ps' = ps := Option.some.inj (g5.symm.trans hp)
 subst e5
 rw [bind_app]
 cases e : ms S with
 | err => exact pe_err
 | exc c S' => exact pe_exc
 | ok ds S1 =>
  show PE X _ (tE Γ ρ S false (M.bind (M.of (perm.mapM fun i => ds[i]?)) (fun ds => cf f ds) S1))
  cases em : perm.mapM (fun i => ds[i]?) with
  | none => exact pe_err
  | some ds' =>
   show PE X _ (tE Γ ρ S false (cf f ds' S1))
   obtain ⟨k1, k2, k3⟩ := kwn_all (env := X.env) (pos := pos) hk
   refine (pe_callK0 g6 ok.room hg g2 g3 (g7 ks perm h1 h2 h3 h4 h5) pass0 h k1 k2 hdb (by rw [k3]; rfl)).imp fun σ H Q ⟨g, w, env, kk⟩ => ⟨g, w, env, ?_⟩
   rw [e]
   intro vs H' g' st hp' w' hv
   have hz : vs.length = ks.length := by rw [hv.len]; exact h6 ds S1 e
   show spE Γ cf f ps'.length (if vs.length = ks.length then [] ++ perm.map fun i => vs.getD i .non else []) _ _ _
   rw [if_pos hz]
   refine ⟨by simp [h1], g', ds', S1, w', ?_, kE_step st kk⟩
   rw [List.nil_append]
   exact mapM_perm em hv
end
end EV
namespace EV
open PySem PySem.Spec PyProof.Rows L2
theorem mergeK_nd : ∀ (kvs acc : List (Key × V)), (acc ++ kvs).map (·.1) |>.Nodup -> mergeK acc kvs = acc ++ kvs
 | [], acc, _ => by simp [mergeK]
 | p :: r, acc, h => by
  have hn : ¬ (acc.any fun kv => decide (kv.1 = p.1)) = true := by
   intro q
   rw [List.any_eq_true] at q
   obtain ⟨kv, hm, he⟩ := q
   have he := of_decide_eq_true he
   rw [List.map_append, List.nodup_append] at h
   exact h.2.2 kv.1 (List.mem_map_of_mem hm) p.1 (by simp) he
  have e : putK acc p.1 p.2 = acc ++ [p] := by
   unfold putK
   rw [if_neg hn]
  show mergeK (putK acc p.1 p.2) r = _
  rw [e, mergeK_nd r (acc ++ [p]) (by simpa using h)]
  simp
section
variable {X : Cx} {Γ : Gm} {ρ : List (Option D)} {S : Store} {pu : Bool} {x y z : Expr} {pos : Pos} {cf : Cf}
noncomputable def PPd (X : Cx) (pos : Pos) (keys : List (Option Expr)) (vals : List Expr) (ks : List Key) (t : TA) : Prop := ∃ trs, PPs X pos keys vals trs /\ ∀ σ H (Q : List (V × V) -> Hp -> Prop), t σ H (fun vs H' => Q ((ks.zip vs).map fun kv => (kV kv.1, kv.2)) H') -> tPairs trs σ H Q
theorem s_pnil : PPd X pos [] [] [] (tDs Γ ρ S pu (.ok [] S)) := ⟨[], pps_nil, fun σ H Q ⟨g, w, env, k⟩ => k [] H g (Step.refl H g) (fun _ => Same.refl H) w rfl⟩
theorem s_pcons {q : Const} {n : Nat} {p : Pos} {kx : Key} {keys : List (Option Expr)} {vals : List Expr} {ks : List Key} {d : D} {ds : List D} {S1 S2 : Store} {pb : Bool} (hk : PE X (.Constant q n p) (tC (kV kx))) (h1 : PE X x (tD Γ ρ S pu (.ok d S1))) (h2 : PPd X pos keys vals ks (tDs Γ ρ S1 pb (.ok ds S2))) :
  PPd X pos (some (.Constant q n p) :: keys) (x :: vals) (kx :: ks) (tDs Γ ρ S (pu && pb) (.ok (d :: ds) S2)) := by
 obtain ⟨trs, hp, ht⟩ := h2
 refine ⟨_, pps_cons hk h1 hp, fun σ H Q ⟨g, w, env, k⟩ => ?_⟩
 refine ⟨g, w, env, fun v H' g' st hp w' h' => ht σ H' _ ⟨g', w', env.mono st.le, fun vs H2 g2 st2 hp2 w2 h2 => ?_⟩⟩
 refine k (v :: vs) H2 g2 (st.trans st2) (fun h => ?_) w2 ⟨v, vs, rfl, h'.mono st2.le, h2⟩
 have q := Bool.and_eq_true_iff.mp h
 exact (hp q.1).trans (hp2 q.2)
theorem same_off {H H1 : Hp} {p : Addr} {o : HO} (s : Same H H1) (h : H p = none) : Same H (upd H1 p o) := fun b u e => by
 rw [upd_ne (ne_of_none e h)]
 exact s b u e
theorem same_less {H H1 : Hp} {p : Addr} {o : HO} (s : Same (upd H p o) H1) (h : H p = none) : Same H H1 := fun b u e => s b u (by rw [upd_ne (ne_of_none e h)]; exact e)
theorem s_disp {keys : List (Option Expr)} {vals : List Expr} {ks : List Key} {ds : List D} {S1 : Store} (h : PPd X pos keys vals ks (tDs Γ ρ S pu (.ok ds S1))) (hall : keys.all (·.isSome) = true) (hl : keys.length = vals.length) (h0 : keys ≠ []) (h15 : keys.length <= 15)
  (hk : ks.length = ds.length) (hn : ks.Nodup) (hz : ks.length <= 15) : PE X (.Dict keys vals pos) (tE Γ ρ S pu (.ok (.dK ks ds, true) S1)) := by
 obtain ⟨trs, hp, ht⟩ := h
 refine (pe_disp hp hall hl h0 h15).imp fun σ H Q ⟨g, w, env, k⟩ p hp => ht σ _ _ ⟨g, w.laid hp, env, fun vs H2 g2 st2 hp2 w2 h2 => ?_⟩
 obtain ⟨k1, k2, k3⟩ := st2.kept upd_same (w.notR hp) (w.notA hp)
 have el : ks.length = vs.length := by rw [h2.len]; exact hk
 refine ⟨k1, ks.zip vs, rfl, by rw [List.length_zip]; omega, ?_⟩
 rw [mergeK_nd _ [] (by
  rw [List.nil_append, List.map_fst_zip (by omega)]
  exact hn)]
 refine k (.ref p) _ g2 ((((Step.refl H g).off_upd hp).trans st2).off_upd hp) (fun q => same_off (same_less (hp2 q) hp) hp) (w2.off_upd k2 k3) ⟨p, rfl, hp, k2, k3, vs, upd_same, hk, h2⟩
theorem s_dnewK : PE X (.Dict [] [] pos) (tE Γ ρ S pu (.ok (.dK [] [], true) S)) := pe_dnewK.imp fun σ H Q ⟨g, w, env, k⟩ p hp =>
 k (.ref p) _ g ((Step.refl H g).off_upd hp) (fun _ => same_upd hp) (w.laid hp) ⟨p, rfl, hp, w.notR hp, w.notA hp, [], upd_same, rfl, rfl⟩
theorem s_dnewT : PE X (.Dict [] [] pos) (tE Γ ρ S pu (.ok (.dT [] [], true) S)) := pe_dnewT.imp fun σ H Q ⟨g, w, env, k⟩ p hp =>
 k (.ref p) _ g ((Step.refl H g).off_upd hp) (fun _ => same_upd hp) (w.laid hp) ⟨p, rfl, hp, w.notR hp, w.notA hp, [], upd_same, rfl, rfl⟩
end
end EV
namespace EV
open PySem PySem.Spec PyProof.Rows L2
open PySem.AutoSeq1 (wpAny_loadPart')
open PySem.MeetsSeq PySem.MeetsSeq2 PySem.MeetsSeq3 PySem.SeqAt PySem.SeqRoads2
theorem ix_loop {l : Addr} {us : Array Value} {n : Nat} {q : Option Addr} {sl : Array (Option Value)} {x : Value} {e : Nat -> Bool} {up : Int} {j : Nat} (hj : j < us.size) (hup : (j : Int) < up) (hit : e j = true) :
  ∀ (k i : Nat), j - i = k -> i <= j -> (∀ m, i <= m -> m < j -> e m = false) -> Meets (Builtin.«list.index.loop» ⟨[.ref l, x, rawInt i, rawInt up], []⟩)
   (fun A R s => s.heap.get? l = some { cls := .type "list", dict := q, data := .seq us n, slots := sl } /\ (∀ m (hm : m < us.size), EqAt A.in1 s us[m] x (e m)) /\ R (.ok (.ret (.int j s.toks))) { s with toks := s.toks + 1 })
 | 0, i, hk, hij, hno => by
  intro P w A R s z
  obtain ⟨hp, g, d, tk, os⟩ := s
  obtain ⟨z1, z2, z3⟩ := z
  obtain rfl : i = j := by omega
  wp_walk using wpAny_loadPart' z1
  have hi : (if (i : Int) < up then us[((i : Nat) : Int).toNat]? else none) = some us[i] := by simp [hup, hj]
  rw [hi]
  refine wpAny_bind (z2 i hj P w _ _ ?_)
  rw [hit]
  wp_walk
  exact z3
 | k + 1, i, hk, hij, hno => by
  intro P w A R s z
  obtain ⟨hp, g, d, tk, os⟩ := s
  obtain ⟨z1, z2, z3⟩ := z
  have il : i < us.size := by omega
  have iu : (i : Int) < up := by omega
  wp_walk using wpAny_loadPart' z1
  have hi : (if (i : Int) < up then us[((i : Nat) : Int).toNat]? else none) = some us[i] := by simp [iu, il]
  have ic : ((i : Int) + 1) = ((i + 1 : Nat) : Int) := by push_cast; rfl
  rw [hi]
  refine wpAny_bind (z2 i il P w _ _ ?_)
  rw [hno i (Nat.le_refl _) (by omega)]
  wp_walk
  rw [ic]
  exact ⟨plainId_quiet plain_index_loop _, codeAny_builtin entry_index_loop (by
   rw [Around.under_plainId plain_index_loop _]
   exact ix_loop hj hup hit k (i + 1) (by omega) (by omega) (fun m a b => hno m (by omega) b) P w A R _ ⟨z1, z2, z3⟩)⟩
theorem ix_list' {l : Addr} {us : Array Value} {n : Nat} {q : Option Addr} {sl : Array (Option Value)} {x : Value} {e : Nat -> Bool} {j : Nat} (hj : j < us.size) (hz : (j : Int) < 2 ^ 63 - 1) (hit : e j = true) (hno : ∀ m, m < j -> e m = false) :
  Meets (Builtin.«list.index» ⟨[.ref l, x], []⟩)
   (fun A R s => s.heap.get? l = some { cls := .type "list", dict := q, data := .seq us n, slots := sl } /\ (∀ m (hm : m < us.size), EqAt A.in1 s us[m] x (e m)) /\ R (.ok (.ret (.int j s.toks))) { s with toks := s.toks + 1 }) := by
 intro P w A R s z
 obtain ⟨hp, g, d, tk, os⟩ := s
 obtain ⟨z1, z2, z3⟩ := z
 wp_walk using wpAny_loadPart' z1
 have b1 : ((fun i : Int => if i < 0 then max 0 (i + (us.size : Int)) else i) ((none : Option Int).getD 0)) = ((0 : Nat) : Int) := by simp
 have b2 : ((fun i : Int => if i < 0 then max 0 (i + (us.size : Int)) else i) ((none : Option Int).getD (2 ^ 63 - 1))) = 2 ^ 63 - 1 := by simp
 rw [b1, b2]
 exact ⟨plainId_quiet plain_index_loop _, codeAny_builtin entry_index_loop (by
  rw [Around.under_plainId plain_index_loop _]
  exact ix_loop hj hz hit _ 0 rfl (Nat.zero_le _) (fun m _ b => hno m b) P w A R _ ⟨z1, z2, z3⟩)⟩
section
variable {X : Cx} {Γ : Gm} {ρ : List (Option D)} {S : Store} {pu : Bool} {x y : Expr} {pos : Pos} {B : Tb} {cf : Cf} {k : Nat} {c : Cc}
theorem idx_spec : ∀ {l : List D} {d : D} {j : Nat}, idxD l d = some j -> j < l.length /\ eqP (l.getD j .non) d = true /\ ∀ m, m < j -> eqP (l.getD m .non) d = false
 | [], _, _, h => by cases h
 | a :: l, d, j, h => by
  have h : (if eqP a d = true then some 0 else (idxD l d).map (· + 1)) = some j := h
  by_cases ha : eqP a d = true
  ·rw [if_pos ha] at h
   cases h
   exact ⟨by simp, ha, fun m hm => by omega⟩
  ·rw [if_neg ha] at h
   cases e : idxD l d with
   | none => rw [e] at h; cases h
   | some i =>
    rw [e] at h
    cases h
    obtain ⟨h1, h2, h3⟩ := idx_spec e
    refine ⟨by simpa using h1, by simpa using h2, fun m hm => ?_⟩
    have hm : m < i + 1 := hm
    cases m with
    | zero => simpa using ha
    | succ m => simpa using h3 m (by omega)
theorem okPs_at {n : Nat} : ∀ {l : List D} {i : Nat} {d : D}, okPs n l = true -> l[i]? = some d -> okP n d = true
 | [], _, _, _, h => by simp at h
 | a :: l, i, d, hk, h => by
  have hk : (okP n a && okPs n l) = true := hk
  rw [Bool.and_eq_true] at hk
  cases i with
  | zero => simp at h; subst h; exact hk.1
  | succ i => exact okPs_at hk.2 (by simpa using h)
noncomputable def rIxOf (Γ : Gm) (ds : List D) (d : D) (j : Nat) : V -> List V -> Hp -> VK -> Prop := fun x xs H Q => ∃ g v, Same g.R H /\ Rdb Γ H g (.lst ds) x /\ xs = [v] /\ Has Γ g d v /\ Q (.int j) H
theorem mt_index (hK : X.K = Γ.K) (hu : X.A.units + 61 < cLine) {ds : List D} {d : D} {j : Nat} (k1 : okPs 59 ds = true) (k2 : okP 59 d = true) (h : idxD ds d = some j) : MtR X "list.index" (rIxOf Γ ds d j) := by
 rintro pins s σ H x xs v us Q I rx rv ⟨g, y, sm, ⟨a, vs, rfl, hH, hh⟩, rfl, hy, q⟩
 cases rx
 obtain ⟨u, rfl, ru⟩ := rv.one
 obtain ⟨z, its, n, r, hl, e⟩ := I.lstM hH
 obtain ⟨i1, i2, i3⟩ := idx_spec h
 have hs : its.length = ds.length := by rw [<- hl, hh.len]
 have hsz : j < its.toArray.size := by rw [List.size_toArray, hs]; exact i1
 have hz : its.length <= sizeLine := by rw [<- hl]; exact z
 rw [sizeLine_eq] at hz
 refine call_meets F.slot_list_index ⟨_, e, rfl⟩ F.entry_list_index (F.args_list_index_2 _ _)
  (ix_list' (us := its.toArray) (e := fun m => eqP (ds.getD m .non) d) hsz (by rw [List.size_toArray] at hsz; omega) i2 i3) ⟨e, fun m hm => ?_, ?_⟩
 ·rw [List.size_toArray] at hm
  have hm' : m < ds.length := by omega
  have hd : ds[m]? = some (ds.getD m .non) := by rw [List.getD_eq_getElem?_getD, List.getElem?_eq_getElem hm']; rfl
  obtain ⟨w, hw, hw2⟩ := hh.get hd
  obtain ⟨u', hu', ru'⟩ := r.get hw
  have e1 : its.toArray[m]'(by rw [List.size_toArray]; exact hm) = u' := by
   rw [List.getElem_toArray]
   exact Option.some.inj (by rw [<- List.getElem?_eq_getElem, hu'])
  rw [e1]
  exact eqAt_all I hK sm 59 _ _ w y u' u _ (by rw [units_in1]; have := hu; omega) (okPs_at k1 hd) k2 hw2 hy ru' ru
 ·exact ⟨.int j, H, I.tok _, ⟨_, rfl⟩, q⟩
noncomputable def rGet1 : V -> List V -> Hp -> VK -> Prop := fun x xs H Q => ∃ a y v, x = .ref a /\ xs = [y] /\ DGet H a y v /\ Q (v.getD .non) H
noncomputable def rGet2 : V -> List V -> Hp -> VK -> Prop := fun x xs H Q => ∃ a y z v, x = .ref a /\ xs = [y, z] /\ DGet H a y v /\ Q (v.getD z) H
theorem mt_get1 (hu : X.A.units + 1 < cLine) : MtR X "dict.get" rGet1 := by
 rintro pins s σ H x xs v us Q I rx rv ⟨a, y, o, rfl, rfl, g, q⟩
 cases rx
 obtain ⟨u, rfl, ru⟩ := rv.one
 exact d_get1 hu I g ru fun w s' I' r' => ⟨_, H, I', r', q⟩
theorem mt_get2 (hu : X.A.units + 1 < cLine) : MtR X "dict.get" rGet2 := by
 rintro pins s σ H x xs v us Q I rx rv ⟨a, y, z, o, rfl, rfl, g, q⟩
 cases rx
 obtain ⟨u, u2, rfl, ru, ru2⟩ := rv.two
 exact d_get2 hu I g ru ru2 fun w s' I' r' => ⟨_, H, I', r', q⟩
theorem get_der {c k : D} {o : Option D} (h : dgetD c k = some o) (S : Store) : deref S k = k := by
 cases k <;> first | rfl | (cases c <;> cases h)
noncomputable def RDm (Γ : Gm) (r : V -> List V -> Hp -> VK -> Prop) (d0 : D) (ds : List D) (d : D) (fr : Bool) : Prop :=
 ∀ S H g x xs Q, WOk Γ H g S -> Rdb Γ H g d0 x -> Hass Γ g ds xs -> Fin Γ H g S d fr Q -> r x xs H Q
structure MtOk (X : Cx) (Γ : Gm) (m : MT) (d0 : D) (ds : List D) (d : D) (fr : Bool) (T id : String) (r : V -> List V -> Hp -> VK -> Prop) : Prop where
 pa : PlainAttrs T
 slot : PySem.Slot T (mtS m) id
 ty : typeOf (.builtin id) = pure (.type "method_descriptor")
 mt : MtR X id r
 kd : ∀ d1, mthK m d1 = true -> ∀ H g v, Rdb Γ H g d1 v -> tyV X.K T v H
 rd : RDm Γ r d0 ds d fr
theorem kd_dict {d1 : D} (h : mthK .get1 d1 = true \/ mthK .get2 d1 = true) {H : Hp} {g : G} {v : V} (hr : Rdb Γ H g d1 v) : tyV X.K "dict" v H := by
 cases d1 with
 | dK ks ds =>
  obtain ⟨a, vs, rfl, h1, _⟩ := hr
  exact .inr (.inr (.inl ⟨rfl, .inl ⟨_, h1⟩⟩))
 | dT ks ds =>
  obtain ⟨a, vs, rfl, h1, _⟩ := hr
  exact .inr (.inr (.inl ⟨rfl, .inr ⟨_, h1⟩⟩))
 | _ => rcases h with h | h <;> cases h
theorem mth_ok {m : MT} {d0 : D} {ds : List D} {d : D} {fr : Bool} (hK : X.K = Γ.K) (hu : X.A.units + 61 < cLine) (h : mthD m d0 ds = some (d, fr)) : ∃ T id r, MtOk X Γ m d0 ds d fr T id r := by
 have hu1 : X.A.units + 1 < cLine := by omega
 cases m with
 | index =>
  cases d0 with
  | lst l =>
   match ds, h with
   | [], h => cases h
   | _ :: _ :: _, h => cases h
   | [x], h =>
    have h : (if (okPs 59 l && okP 59 x) = true then (idxD l x).map fun (i : Nat) => (D.int (i : Int), false) else none) = some (d, fr) := h
    by_cases hk : (okPs 59 l && okP 59 x) = true
    ·rw [if_pos hk] at h
     rw [Bool.and_eq_true] at hk
     cases e : idxD l x with
     | none => rw [e] at h; cases h
     | some j =>
      rw [e] at h
      cases h
      refine ⟨"list", "list.index", _, PySem.F.plainAttrs_list, PySem.F.slot_list_index, PySem.F.type_list_index, mt_index hK hu hk.1 hk.2 e, fun d1 h1 H g v hr => ?_, fun S H g y ys Q w h1 h2 q => ?_⟩
      ·cases d1 <;> first | cases h1 | skip
       obtain ⟨a, vs, rfl, h1, _⟩ := hr
       exact .inl ⟨rfl, vs, SqL.of h1⟩
      ·obtain ⟨u, rfl, h3⟩ := h2.one
       exact ⟨g, u, w.rh, h1, rfl, h3, fin_val w q rfl⟩
    ·rw [if_neg hk] at h
     cases h
  | _ => cases h
 | get1 =>
  match ds, h with
  | [], h => cases d0 <;> cases h
  | _ :: _ :: _, h => cases d0 <;> cases h
  | [kk], h =>
   have h : (dgetD d0 kk).map (fun o => (o.getD D.non, false)) = some (d, fr) := by cases d0 <;> exact h
   cases e : dgetD d0 kk with
   | none => rw [e] at h; cases h
   | some o =>
    rw [e] at h
    cases h
    refine ⟨"dict", "dict.get", _, PySem.F.plainAttrs_dict, PySem.F.slot_dict_get, PySem.F.type_dict_get, mt_get1 hu1, fun d1 h1 H g v hr => kd_dict (.inl h1) hr, fun S H g y ys Q w h1 h2 q => ?_⟩
    obtain ⟨u, rfl, h3⟩ := h2.one
    have h4 := rdb_of w h3
    rw [get_der e S] at h4
    obtain ⟨a, v, rfl, g1, g2, g3, g4⟩ := dget_D w e h1 h4
    refine ⟨a, u, v, rfl, rfl, g1, ?_⟩
    cases o with
    | none => rw [g4 rfl]; exact fin_val w q rfl
    | some d =>
     obtain ⟨z, rfl, hz⟩ := g3 d rfl
     exact fin_val w q hz
 | get2 =>
  match ds, h with
  | [], h => cases d0 <;> cases h
  | [_], h => cases d0 <;> cases h
  | _ :: _ :: _ :: _, h => cases d0 <;> cases h
  | [kk, xx], h =>
   have h : (dgetD d0 kk).map (fun o => (o.getD xx, false)) = some (d, fr) := by cases d0 <;> exact h
   cases e : dgetD d0 kk with
   | none => rw [e] at h; cases h
   | some o =>
    rw [e] at h
    cases h
    refine ⟨"dict", "dict.get", _, PySem.F.plainAttrs_dict, PySem.F.slot_dict_get, PySem.F.type_dict_get, mt_get2 hu1, fun d1 h1 H g v hr => kd_dict (.inr h1) hr, fun S H g y ys Q w h1 h2 q => ?_⟩
    obtain ⟨u, u2, rfl, h3, h5⟩ := h2.two
    have h4 := rdb_of w h3
    rw [get_der e S] at h4
    obtain ⟨a, v, rfl, g1, g2, g3, g4⟩ := dget_D w e h1 h4
    refine ⟨a, u, u2, v, rfl, rfl, g1, ?_⟩
    cases o with
    | none => rw [g4 rfl]; exact fin_val w q h5
    | some d =>
     obtain ⟨z, rfl, hz⟩ := g3 d rfl
     exact fin_val w q hz
 | join => cases d0 <;> cases h
 | split => cases d0 <;> cases h
theorem base_of {env : Env} {name : Str} {s0 : Sem Value} (h : plainC x = true) : attributeBase x name env s0 = s0 := by
 cases x with
 | Call f args kws p =>
  cases args with
  | nil => cases h
  | cons a l => cases f <;> rfl
 | _ => rfl
theorem few_all {xs : List Expr} {env : Env} {cpos : Pos} (hs : ∀ z ∈ xs, notStar z = true) (hl : xs.length <= 9) : ((backTo cpos (starEach xs env)).all (fun x => !x.1) && (backToKw cpos (keywordEach [] env)).all (fun x => x.1.isSome)
   && decide (xs.length + ([] : List Keyword).length + (if ([] : List Keyword).isEmpty then 0 else 1) < 30)) = true := by
 have h1 : (backTo cpos (starEach xs env)).all (fun x => !x.1) = true := by
  have := back_plain (pos := cpos) (env := env) hs
  rw [List.all_eq_not_any_not]
  simpa using this
 rw [h1, decide_eq_true (show xs.length + ([] : List Keyword).length + (if ([] : List Keyword).isEmpty then 0 else 1) < 30 from (by simp; omega))]
 rfl
theorem s_mth {m : MT} {a : M D} {ms : M (List D)} {pa pb : Bool} {ys : List Expr} {apos cpos : Pos} (ok : XOk Γ B cf k X c) (ha : PE X x (tD Γ ρ S pa (a S))) (hs : ∀ z ∈ y :: ys, notStar z = true) (hb : ∀ S, PA X (y :: ys) (tDs Γ ρ S pb (ms S))) (hl : (apos.endLine == cpos.line) = true) (hp : plainC x = true) (h9 : (y :: ys).length <= 9) :
  PE X (.Call (.Attribute x (mtS m) apos) (y :: ys) [] cpos) (tE Γ ρ S (pa && pb) (M.bind a (fun d => M.bind M.get fun S => if mthK m (deref S d) = true then M.bind ms fun ds => M.bind M.get fun S => M.of (mthD m (deref S d) ds) else M.fail) S)) := by
 rw [bind_app]
 cases ea : a S with
 | err => exact pe_err
 | exc c S' => exact pe_exc
 | ok da S1 =>
  show PE X _ (tE Γ ρ S _ ((if mthK m (deref S1 da) = true then M.bind ms fun ds => M.bind M.get fun S => M.of (mthD m (deref S da) ds) else M.fail) S1))
  by_cases hk : mthK m (deref S1 da) = true
  ·rw [if_pos hk, bind_app]
   cases eb : ms S1 with
   | err => exact pe_err
   | exc c S' => exact pe_exc
   | ok ds S2 =>
    show PE X _ (tE Γ ρ S _ (M.of (mthD m (deref S2 da) ds) S2))
    cases eo : mthD m (deref S2 da) ds with
    | none => exact pe_err
    | some p =>
     obtain ⟨d, fr⟩ := p
     obtain ⟨T, id, r, mo⟩ := mth_ok (X := X) ok.hK ok.u61 eo
     refine (pe_bm mo.pa mo.slot mo.ty mo.mt ha (hb S1) (base_of hp) (few_all hs h9) hl (starEach_of (hs y List.mem_cons_self) ys X.env) (back_plain fun z hz => hs z (List.mem_cons_of_mem _ hz))).imp fun σ H Q ⟨g, w, env, kk⟩ => ?_
     refine ⟨g, w, env, ?_⟩
     rw [ea]
     intro u H1 g1 st1 p1 w1 h1
     refine ⟨mo.kd _ hk H1 g1 u (rdb_of w1 h1), g1, w1, env.mono st1.le, ?_⟩
     rw [eb]
     intro vs H2 g2 st2 p2 w2 h2
     refine mo.rd S2 H2 g2 u vs Q w2 (rdb_of w2 (h1.mono st2.le)) h2 fun z H' g' st3 s3 w3 vo => ?_
     have st := st1.trans st2
     refine kk z H' g' (st.trans st3) (fun q => ?_) w3 (vo.back st)
     rw [Bool.and_eq_true] at q
     exact ((p1 q.1).trans (p2 q.2)).trans s3
  ·rw [if_neg hk]
   exact pe_err
end
end EV
namespace L2
open PySem PyProof PyProof.Rows PySem.W
theorem pick_all (l : List Value) : (List.range l.length).filterMap (fun i => l.toArray[i]?) = l := by
 have h : (List.range l.length).map (fun i => l.toArray[i]?) = l.map some := by
  apply List.ext_getElem?
  intro i
  rw [List.getElem?_map, List.getElem?_map]
  by_cases h : i < l.length
  ·rw [List.getElem?_range h, List.getElem?_eq_getElem h]
   simp
  ·rw [List.getElem?_eq_none (by rw [List.length_range]; omega), List.getElem?_eq_none (by omega)]
   rfl
 have e : (List.range l.length).filterMap (fun i => l.toArray[i]?) = ((List.range l.length).map fun i => l.toArray[i]?).filterMap id := by rw [List.filterMap_map]; rfl
 rw [e, h, List.filterMap_map]
 exact List.filterMap_some
theorem pick_rev (its : List Value) : slicePick its.toArray none none (some (-1)) = its.reverse.toArray := by
 unfold slicePick sliceRange
 rw [List.size_toArray]
 have e : (List.range its.length).map (fun (k : Nat) => (((its.length : Int) - 1) + -1 * (k : Int)).toNat) = (List.range its.length).reverse := by
  apply List.ext_getElem?
  intro i
  rw [List.getElem?_map]
  by_cases h : i < its.length
  ·rw [List.getElem?_range h, List.getElem?_reverse (by rw [List.length_range]; exact h), List.length_range, List.getElem?_range (by omega)]
   show some (((its.length : Int) - 1) + -1 * (i : Int)).toNat = some (its.length - 1 - i)
   congr 1
   omega
  ·rw [List.getElem?_eq_none (by rw [List.length_range]; omega), List.getElem?_eq_none (by rw [List.length_reverse, List.length_range]; omega)]
   rfl
 have c : (if ((its.length : Int) - 1) > -1 then (((its.length : Int) - 1) - (-1) - (-1) - 1) / (-(-1)) else 0).toNat = its.length := by
  rw [show (-(-1) : Int) = 1 from rfl, Int.ediv_one]
  split <;> omega
 show ((List.map (fun (k : Nat) => (((its.length : Int) - 1) + -1 * (k : Int)).toNat) (List.range (if ((its.length : Int) - 1) > -1 then (((its.length : Int) - 1) - (-1) - (-1) - 1) / (-(-1)) else 0).toNat)).filterMap (its.toArray[·]?)).toArray = _
 rw [c, e, List.filterMap_reverse, pick_all]
variable {X : Cx} {x st : Expr} {te ts : TE} {p2 pos : Pos}
noncomputable def rFl (K : PySem.W.Frag) : V -> Hp -> VK -> Prop := fun x H Q => ∃ a xs, x = .ref a /\ SqL K H a xs /\ ∀ p, H p = none -> Q (.ref p) (upd H p (.lst xs.reverse))
noncomputable def tFl (K : PySem.W.Frag) (te : TE) (tz : TO) : TE := fun σ H Q => te σ H fun x H1 => tz σ H1 fun z H2 => z = some (-1) /\ rFl K x H2 Q
theorem pe_flip {tz : TO} (he : PE X x te) (hz : PO X (some st) tz) : PE X (.Subscript x (.Slice none none (some st) p2) pos) (tFl X.K te tz) := by
 intro pins s σ H Q I h
 refine Subscript_ (thn (he pins s σ H _ I h) fun v s1 ⟨y, H1, I1, r1, q1⟩ => ?_)
 refine wpAny_Slice ?_
 rw [evalPart_none]
 refine wpAny_pure (wpAny_pure (thn (hz pins s1 σ H1 _ I1 q1) fun vz s3 ⟨z, H3, I3, pz, ez, a, xs, ey, hx, q3⟩ => ?_))
 subst ez ey
 cases r1
 have I4 : Inv X pins σ H3 { s3 with heap := s3.heap.push { cls := .type "slice", data := .fields #[.none, .none, vz] } } := I3.kept (t' := s3.toks) fun b ob q => Heap.get?_push_of_some _ q
 obtain ⟨its, r, ht, hn⟩ := I4.list hx
 have hl := r.length
 show wpAny (model X.prog X.w) X.A (subscriptTail x (.Slice none none (some st) p2) _ (.ref s3.heap.objs.size)) (EP X pins σ Q) X.xe { s3 with heap := s3.heap.push { cls := .type "slice", data := .fields #[.none, .none, vz] } }
 refine tail_any (ops := [.ref a, .ref s3.heap.objs.size]) ht.isList.typeIs slot_list_getitem.lookup ?_ (by with_unfolding_all rfl)
 refine wpAny_getItem_list_slice ht.isList (Heap.IsSliceOf.new ..) .none .none pz (by simp) ?_ (by rw [List.size_toArray] <;> omega)
 rw [pick_rev]
 refine ⟨.ref _, _, I4.laid (t' := s3.toks) (o := .lst xs.reverse) (fun b ob q => Heap.get?_push_of_some _ q) (Nat.le_refl _) ?_, rfl, q3 _ (I4.hok.fresh (Nat.le_refl _))⟩
 exact ⟨by rw [List.length_reverse]; exact hn, _, 0, r.reverse, Heap.get?_push_size _ rfl⟩
end L2
namespace EV
open PySem PyProof.Rows L2
section
variable {X : Cx} {Γ : Gm} {ρ : List (Option D)} {S : Store} {pu : Bool} {x : Expr} {pos q1 q2 q3 : Pos} {k : Nat}
theorem rev_has {Γ : Gm} {g : G} : ∀ {ds : List D} {vs : List V}, Hass Γ g ds vs -> Hass Γ g ds.reverse vs.reverse := by
 intro ds
 induction ds with
 | nil =>
  intro vs h
  have e : vs = [] := h
  subst e
  exact h
 | cons d ds ih =>
  intro vs h
  obtain ⟨v, r, rfl, h1, h2⟩ := h
  rw [List.reverse_cons, List.reverse_cons]
  exact Hass.app (ih h2) (Hass.mk1 h1)
theorem isRev_is {y : Expr} (h : isRev y = true) : ∃ k a b c, y = .Slice none none (some (.UnaryOp .USub (.Constant (.int 1) k a) b)) c := by
 have hb : Nat.beq y.ctorIdx 26 = true := by revert h; cases y <;> first | exact non | exact fun _ => rfl
 revert h; apply ofSlice hb; clear hb; intro l u st p h
 cases l with
 | some _ => exact nobE h
 | none =>
  cases u with
  | some _ => exact nobE h
  | none =>
   cases st with
   | none => exact nobE h
   | some z =>
    have hb : Nat.beq z.ctorIdx 3 = true := by revert h; cases z <;> first | exact non | exact fun _ => rfl
    revert h; apply ofUnaryOp hb; clear hb; intro op z q h
    have hb : Nat.beq z.ctorIdx 19 = true := by revert h; cases z <;> first | exact non | exact fun _ => rfl
    revert h; apply ofConstant hb; clear hb; intro v n q2 h
    cases v with
    | int i =>
     have h : (op == PySem.UnaryOp.USub && i == 1) = true := h
     rw [Bool.and_eq_true] at h
     rw [eq_of_beq h.1, eq_of_beq h.2]
     exact ⟨n, q2, q, p, rfl⟩
    | _ => exact absurd h (by show ¬ (op == PySem.UnaryOp.USub && false) = true; rw [Bool.and_false]; exact Bool.false_ne_true)
theorem s_flip {m : M D} (hK : X.K = Γ.K) (h : PE X x (tD Γ ρ S pu (m S))) : PE X (.Subscript x (.Slice none none (some (.UnaryOp .USub (.Constant (.int 1) k q1) q2)) q3) pos) (tE Γ ρ S pu (M.bind m (fun x => M.bind M.get fun S => M.of (flipD (deref S x))) S)) := by
 rw [bind_app]
 cases em : m S with
 | err => exact pe_err
 | exc c S' => exact pe_exc
 | ok d S1 =>
  show PE X _ (tE Γ ρ S _ (M.of (flipD (deref S1 d)) S1))
  cases es : deref S1 d with
  | lst l =>
   refine (pe_flip h (po_some (pe_un un_neg pe_int))).imp fun σ H Q ⟨g, w, env, kk⟩ => ⟨g, w, env, ?_⟩
   rw [em]
   intro v H1 g1 st1 p1 w1 hv
   refine ⟨1, rfl, -1, rfl, rfl, ?_⟩
   have hd := rdb_of w1 hv
   rw [es] at hd
   obtain ⟨a, vs, e, h1, h2⟩ := hd
   refine ⟨a, vs, e, SqL.of h1, fun p hp => fin_lst w1 (fun u H4 g4 st4 s4 w4 vo => ?_) (rev_has h2) hp⟩
   exact kk u H4 g4 (st1.trans st4) (fun z => (p1 z).trans s4) w4 (vo.back st1)
  | _ => exact pe_err
end
end EV
namespace EV
open PySem PySem.Spec PyProof.Rows L2
noncomputable def isBoolE : Expr -> Bool
 | .BoolOp _ _ _ => true
 | _ => false
noncomputable def CfOk (B : Tb) (cf : Cf) : Prop := ∀ (f : Nat) (ds : List D) (S : Store) (ps : List Str), B.pars[f]? = some ps -> cf f ds S ≠ .err -> ds.length = ps.length
section
variable {X : Cx} {Γ : Gm} {ρ : List (Option D)} {S : Store} {pu : Bool} {x y z : Expr} {pos : Pos}
theorem pt_ifE {mc ma mb : M Bool} {pa pb : Bool} (hc : PT X x (tB Γ ρ S pu (mc S))) (ha : ∀ S, PT X y (tB Γ ρ S pa (ma S))) (hb : ∀ S, PT X z (tB Γ ρ S pb (mb S))) :
  PT X (.IfExp x y z pos) (tB Γ ρ S (pu && pa && pb) (M.bind mc (fun t => if t = true then ma else mb) S)) := by
 rw [bind_app]
 cases e : mc S with
 | err => exact pt_err
 | exc c S' => exact pt_exc
 | ok b S1 =>
  intro pins s σ H Q I ⟨g, w, env, kk⟩
  have eq : isTrue (.IfExp x y z pos) X.env (eval (.IfExp x y z pos) X.env) = (isTrue x X.env (eval x X.env) >>= fun t => if t = true then isTrue y X.env (eval y X.env) else isTrue z X.env (eval z X.env)) := rfl
  rw [eq]
  refine wpAny_bind (thn (hc pins s σ H (fun t H' => t = b /\ ∃ g', Step H g H' g' /\ (pu = true -> Same H H') /\ WOk Γ H' g' S1) I ⟨g, w, env, ?_⟩) fun t s1 ⟨H1, I1, e1, g1, st, hp, w1⟩ => ?_)
  ·rw [e]
   exact fun H' g' st hp w' => ⟨rfl, g', st, hp, w'⟩
  ·subst e1
   cases t with
   | true =>
    rw [if_pos rfl]
    refine ha S1 pins s1 σ H1 Q I1 ⟨g1, w1, env.mono st.le, ?_⟩
    have kk : kB Γ H g (pu && pa && pb) Q (ma S1) := kk
    cases eb : ma S1 with
    | err => rw [eb] at kk; exact kk.elim
    | exc c S' => rw [eb] at kk; exact kk.elim
    | ok q S2 =>
     rw [eb] at kk
     intro H2 g2 st2 hp2 w2
     refine kk H2 g2 (st.trans st2) (fun h => ?_) w2
     rw [Bool.and_eq_true, Bool.and_eq_true] at h
     exact (hp h.1.1).trans (hp2 h.1.2)
   | false =>
    rw [if_neg Bool.false_ne_true]
    refine hb S1 pins s1 σ H1 Q I1 ⟨g1, w1, env.mono st.le, ?_⟩
    have kk : kB Γ H g (pu && pa && pb) Q (mb S1) := kk
    cases eb : mb S1 with
    | err => rw [eb] at kk; exact kk.elim
    | exc c S' => rw [eb] at kk; exact kk.elim
    | ok q S2 =>
     rw [eb] at kk
     intro H2 g2 st2 hp2 w2
     refine kk H2 g2 (st.trans st2) (fun h => ?_) w2
     rw [Bool.and_eq_true, Bool.and_eq_true] at h
     exact (hp h.1.1).trans (hp2 h.2)
end
section
variable {Γ : Gm} {B : Tb} {cf : Cf} {k : Nat}
noncomputable def SE (Γ : Gm) (B : Tb) (cf : Cf) (k : Nat) (e : E) : Prop := ∀ (X : Cx) (c : Cc) (x : Expr) (ρ : List (Option D)) (S : Store), XOk Γ B cf k X c -> chkE B c e x = true ->
 PE X x (tE Γ ρ S (isPure e) (ev cf ρ e S)) /\ PT X x (tB Γ ρ S (isPure e) (evB cf ρ e S)) /\ (isBoolE x = true -> PW X x (tB Γ ρ S (isPure e) (evB cf ρ e S)))
theorem only {X : Cx} {ρ : List (Option D)} {S : Store} {pu : Bool} {x : Expr} {m : M (D × Bool)} (h : PE X x (tE Γ ρ S pu (m S))) (hn : isBoolE x = false) (he : ∀ whole, isTrue x X.env whole = (do let v <- whole; standAt x.pos; holding [v] (truthy v))) :
  PE X x (tE Γ ρ S pu (m S)) /\ PT X x (tB Γ ρ S pu (M.bind m asB S)) /\ (isBoolE x = true -> PW X x (tB Γ ρ S pu (M.bind m asB S))) :=
 ⟨h, s_test h he, fun q => by rw [hn] at q; cases q⟩
theorem star_all {c : Cc} : ∀ {es : List E} {xs : List Expr}, chkEs B c es xs = true -> ∀ z ∈ xs, notStar z = true
 | [], [], _ => fun z hz => by cases hz
 | e :: es, x :: xs, h => by
  have h : (chkE B c e x && notStar x && chkEs B c es xs) = true := h
  rw [Bool.and_eq_true, Bool.and_eq_true] at h
  intro z hz
  rcases List.mem_cons.mp hz with rfl | hz
  ·exact h.1.2
  ·exact star_all h.2 z hz
 | [], _ :: _, h => nobE h
 | _ :: _, [], h => nobE h
theorem noSlice {c : Cc} {lo hi st : Option Expr} {pos : Pos} : ∀ (e : E), chkE B c e (.Slice lo hi st pos) = true -> False
 | .box e, h => noSlice e h
 | .var _, h => nobE h
 | .con _, h => nobE h
 | .glo _ _, h => nobE h
 | .bin _ _ _, h => nobE h
 | .neg _, h => nobE h
 | .cmp _ _ _, h => nobE h
 | .chn _ _ _ _ _, h => nobE h
 | .not _, h => nobE h
 | .and _ _, h => nobE h
 | .or _ _, h => nobE h
 | .ite _ _ _, h => nobE h
 | .tup _, h => nobE h
 | .lst _, h => nobE h
 | .dic _ _ _, h => nobE h
 | .sub _ _, h => nobE h
 | .slc _ _ _, h => nobE h
 | .bi _ _, h => nobE h
 | .mth _ _ _, h => nobE h
 | .call _ _, h => nobE h
 | .callk _ _ _, h => nobE h
 | .callv _ _, h => nobE h
 | .comp _ _ _ _ _, h => nobE h
 | .one _, h => nobE h
 | .flip _, h => nobE h
 | .seq _, h => nobE h
 | .rng _ _, h => nobE h
 | .enum _, h => nobE h
 | .zip _ _, h => nobE h
 | .rev _, h => nobE h
 | .items _, h => nobE h
theorem plainIx_of {c : Cc} {e : E} {y : Expr} (h : chkE B c e y = true) : PlainIx y := by
 cases y with
 | Slice lo hi st pos => exact (noSlice e h).elim
 | _ => exact fun _ _ => rfl
theorem folded_of {iter : Expr} (h : notSet iter = true) (env : Env) (v : Value) : foldedSetIterable iter env v = pure v := by
 cases iter <;> first | rfl | cases h
theorem evB_def {ρ : List (Option D)} {e : E} : evB cf ρ e = M.bind (ev cf ρ e) asB := rfl
section
variable {α α' α'' β β' β'' γ : Type}
theorem bb1 {m : M α} {f : α -> M β} {q : β -> M γ} : M.bind m (fun x => M.bind (f x) q) = M.bind (M.bind m f) q := (bind_bind m f q).symm
theorem bb2 {m : M α} {f : α -> M β} {m2 : M α'} {f2 : α' -> M β'} {q : β -> β' -> M γ} : M.bind m (fun x => M.bind (f x) fun u => M.bind m2 fun y => M.bind (f2 y) (q u)) = M.bind (M.bind m f) fun u => M.bind (M.bind m2 f2) (q u) := by simp only [bind_bind]
theorem bb3 {m : M α} {f : α -> M β} {m2 : M α'} {f2 : α' -> M β'} {m3 : M α''} {f3 : α'' -> M β''} {o : β -> β' -> Store -> M Bool} {z : M γ} {q : β -> β' -> β'' -> M γ} : M.bind m (fun x => M.bind (f x) fun u => M.bind m2 fun y => M.bind (f2 y) fun v => M.bind M.get fun S => M.bind (o u v S) fun r => if r = true then M.bind m3 fun y => M.bind (f3 y) (q u v) else z) = M.bind (M.bind m f) fun u => M.bind (M.bind m2 f2) fun v => M.bind M.get fun S => M.bind (o u v S) fun r => if r = true then M.bind (M.bind m3 f3) (q u v) else z := by simp only [bind_bind]
theorem bbn {m : M α} {f : α -> M Bool} : M.bind (M.bind m fun x => M.bind (f x) fun b => M.pure (D.bl (!b), false)) asB = M.bind (M.bind m f) fun b => M.pure (!b) := by simp only [bind_bind, bind_pure]; rfl
theorem bbi {m : M α} {f : α -> M β} {q : List β -> Store -> M γ} : M.bind (M.bind m fun x => M.bind (f x) fun d => M.bind (M.pure []) fun ds => M.pure (d :: ds)) (fun ds => M.bind M.get (q ds)) = M.bind (M.bind m f) fun d => M.bind M.get (q [d]) := by simp only [bind_bind, bind_pure]
end
theorem asB_bl (b fr : Bool) : asB (D.bl b, fr) = M.pure b := rfl
set_option tactic.hygienic true in
theorem con_ok {X : Cx} {d : D} {q : Const} {n : Nat} {pos : Pos} {c : Cc} (h : chkE B c (.con d) (.Constant q n pos) = true) : ∃ t, PE X (.Constant q n pos) (tC t) /\ ∀ g, Has Γ g d t := by
 cases q with
 | none => cases d <;> first | exact ⟨_, pe_non, fun _ => rfl⟩ | exact nobE h
 | bool b => cases d <;> first | (rename_i b'; have e := eq_of_beq (show (b' == b) = true from h); subst e; exact ⟨_, pe_bl, fun _ => rfl⟩) | exact nobE h
 | int b => cases d <;> first | (rename_i b'; have e := eq_of_beq (show (b' == b) = true from h); subst e; exact ⟨_, pe_int, fun _ => rfl⟩) | exact nobE h
 | str b => cases d <;> first | (rename_i b'; have e := eq_of_beq (show (b' == b) = true from h); subst e; exact ⟨_, pe_str, fun _ => rfl⟩) | exact nobE h
 | _ => cases d <;> exact nobE h
theorem box_B {ρ : List (Option D)} {S : Store} {m : M (D × Bool)} : ∀ r, M.bind (M.bind m (fun p => if p.2 = true then M.bind M.get fun S => M.bind (M.put (S ++ [p.1])) fun _ => M.pure (D.ref S.length, false) else M.fail)) asB S = r -> ∀ b S', r ≠ .ok b S' := by
 intro r e b S' e2
 subst e2
 rw [bind_bind, bind_app] at e
 cases em : m S with
 | err => rw [em] at e; cases e
 | exc c S1 => rw [em] at e; cases e
 | ok p S1 =>
  rw [em] at e
  obtain ⟨d, fr⟩ := p
  cases fr <;> cases e
theorem pt_no {X : Cx} {ρ : List (Option D)} {S : Store} {pu : Bool} {x : Expr} {r : R Bool} (h : ∀ b S', r ≠ .ok b S') : PT X x (tB Γ ρ S pu r) /\ PW X x (tB Γ ρ S pu r) := by
 cases r with
 | ok b S' => exact absurd rfl (h b S')
 | exc c S' => exact ⟨pt_exc, pw_exc⟩
 | err => exact ⟨pt_err, pw_err⟩
theorem chkDk_cons {k0 : Key} {ks : List Key} {keys : List (Option Expr)} (h : chkDk (k0 :: ks) keys = true) : ∃ q n p r, keys = some (.Constant q n p) :: r /\ (∀ X : Cx, PE X (.Constant q n p) (tC (kV k0))) /\ chkDk ks r = true := by
 cases keys with
 | nil => exact nobE h
 | cons o r =>
  cases o with
  | none => exact nobE h
  | some x =>
   have hb : Nat.beq x.ctorIdx 19 = true := by revert h; cases x <;> first | exact non | exact fun _ => rfl
   revert h; apply ofConstant hb; clear hb; intro q n p h
   have h : (keyC k0 q && chkDk ks r) = true := h
   rw [Bool.and_eq_true] at h
   refine ⟨q, n, p, r, rfl, fun X => ?_, h.2⟩
   have h1 := h.1
   cases k0 with
   | inl i =>
    cases q with
    | int j => rw [show i = j from eq_of_beq h1]; exact pe_int
    | _ => exact nobE h1
   | inr i =>
    cases q with
    | str j => rw [show i = j from eq_of_beq h1]; exact pe_str
    | _ => exact nobE h1
theorem chkDk_len : ∀ {ks : List Key} {keys : List (Option Expr)}, chkDk ks keys = true -> ks.length = keys.length /\ keys.all (·.isSome) = true
 | [], [], _ => ⟨rfl, rfl⟩
 | [], _ :: _, h => nobE h
 | k0 :: ks, keys, h => by
  obtain ⟨q, n, p, r, rfl, _, hr⟩ := chkDk_cons h
  obtain ⟨a, b⟩ := chkDk_len hr
  exact ⟨by simp [a], by simpa using b⟩
theorem chkFs_len {c : Cc} : ∀ {es : List E} {xs : List Expr}, chkFs B c es xs = true -> es.length = xs.length
 | [], [], _ => rfl
 | [], _ :: _, h => nobE h
 | _ :: _, [], h => nobE h
 | e :: es, x :: xs, h => by
  have h : (chkE B c e x && chkFs B c es xs) = true := h
  rw [Bool.and_eq_true] at h
  simp [chkFs_len h.2]
theorem and_no {a : Bool} (h : (a && false) = true) : False := by
 rw [Bool.and_false] at h
 cases h
theorem bi_args {b : BI} {n : Str} {c : Cc} {es : List E} {args : List Expr} (h : (n == biS b && B.bare.contains n && gloK (c.names.lookup n) && chkEs B c es args && !es.isEmpty) = true) : chkEs B c es args = true := by
 simp only [Bool.and_eq_true] at h
 exact h.1.2
theorem bi_case {b : BI} {n : Str} {c : Cc} {X : Cx} {es : List E} {args : List Expr} {ρ : List (Option D)} {S : Store} {p pos : Pos} (hcf : CfOk B cf) (ok : XOk Γ B cf k X c) (hi : isI b = false) (h : (n == biS b && B.bare.contains n && gloK (c.names.lookup n) && chkEs B c es args && !es.isEmpty) = true)
  (ih : ∀ S, PA X args (tDs Γ ρ S (isPures es) (evs cf ρ es S))) :
  PE X (.Call (.Name n p) args [] pos) (tE Γ ρ S (isPure (.bi b es)) (ev cf ρ (.bi b es) S)) /\ PT X (.Call (.Name n p) args [] pos) (tB Γ ρ S (isPure (.bi b es)) (evB cf ρ (.bi b es) S)) /\ (isBoolE (.Call (.Name n p) args [] pos) = true -> PW X (.Call (.Name n p) args [] pos) (tB Γ ρ S (isPure (.bi b es)) (evB cf ρ (.bi b es) S))) := by
 simp only [Bool.and_eq_true] at h
 obtain ⟨⟨⟨⟨h1, h2⟩, h3⟩, h4⟩, h5⟩ := h
 have e1 := eq_of_beq h1
 subst e1
 cases args with
 | nil =>
  cases es with
  | nil => cases h5
  | cons _ _ => exact nobE h4
 | cons y ys =>
  refine only (m := ev cf ρ (.bi b es)) ?_ rfl fun _ => rfl
  exact s_bi ok hi (ok.glob h3) (ok.bare _ (List.contains_iff_mem.mp h2)) (star_all h4) (ih S)
theorem chkEs_len {c : Cc} : ∀ {es : List E} {xs : List Expr}, chkEs B c es xs = true -> es.length = xs.length
 | [], [], _ => rfl
 | [], _ :: _, h => nobE h
 | _ :: _, [], h => nobE h
 | e :: es, x :: xs, h => by
  have h : (chkE B c e x && notStar x && chkEs B c es xs) = true := h
  rw [Bool.and_eq_true] at h
  simp [chkEs_len h.2]
theorem mth_is {c : Cc} {m : MT} {o : E} {es : List E} {f : Expr} {args : List Expr} {kws : List Keyword} {pos : Pos} (h : chkE B c (.mth m o es) (.Call f args kws pos) = true) :
    ∃ w ap y ys, f = .Attribute w (mtS m) ap /\ args = y :: ys /\ kws = [] /\ chkE B c o w = true /\ chkEs B c es (y :: ys) = true /\ (ap.endLine == pos.line) = true /\ plainC w = true /\ (y :: ys).length <= 9 := by
  have h : (match asAtt f with
    | some q => q.2.1 == mtS m && chkE B c o q.1 && chkEs B c es args && isNilL kws && q.2.2.endLine == pos.line && plainC q.1 && decide (1 <= es.length) && decide (es.length <= 9)
    | none => false) = true := h
  cases e : asAtt f with
  | none => rw [e] at h; cases h
  | some q =>
    rw [e] at h
    simp only [Bool.and_eq_true, decide_eq_true_eq] at h
    obtain ⟨⟨⟨⟨⟨⟨⟨h1, h2⟩, h3⟩, h4⟩, h5⟩, h6⟩, h7⟩, h8⟩ := h
    have hl := chkEs_len h3
    cases args with
    | nil => simp at hl; simp [hl] at h7
    | cons y ys =>
      refine ⟨q.1, q.2.2, y, ys, ?_, rfl, isNil_is h4, h2, h3, h5, h6, by omega⟩
      rw [asAtt_is e, eq_of_beq h1]
theorem evs_len {cf : Cf} {ρ : List (Option D)} : ∀ {es : List E} {S : Store} {ds : List D} {S' : Store}, evs cf ρ es S = .ok ds S' -> ds.length = es.length
 | [], S, ds, S', h => by
  have h : R.ok ([] : List D) S = .ok ds S' := by simpa only [evs, pure_app] using h
  cases h
  rfl
 | e :: es, S, ds, S', h => by
  have e1 : evs cf ρ (e :: es) = M.bind (M.bind (ev cf ρ e) asData) (fun d => M.bind (evs cf ρ es) fun ds => M.pure (d :: ds)) := bb1
  rw [e1, bind_app] at h
  cases e2 : M.bind (ev cf ρ e) asData S with
  | err => rw [e2] at h; cases h
  | exc c S1 => rw [e2] at h; cases h
  | ok d S1 =>
   rw [e2] at h
   have h : M.bind (evs cf ρ es) (fun ds => M.pure (d :: ds)) S1 = .ok ds S' := h
   rw [bind_app] at h
   cases e3 : evs cf ρ es S1 with
   | err => rw [e3] at h; cases h
   | exc c S1 => rw [e3] at h; cases h
   | ok ds1 S2 =>
    rw [e3] at h
    cases h
    simp [evs_len e3]
theorem chkKs_len {c : Cc} : ∀ {es : List E} {kws : List Keyword}, chkKs B c es kws = true -> es.length = kws.length
 | [], [], _ => rfl
 | [], _ :: _, h => nobE h
 | _ :: _, [], h => nobE h
 | e :: es, ⟨none, x, p⟩ :: kws, h => nobE h
 | e :: es, ⟨some n, x, p⟩ :: kws, h => by
  have h : (chkE B c e x && chkKs B c es kws) = true := h
  rw [Bool.and_eq_true] at h
  simp [chkKs_len h.2]
theorem kwNames_len : ∀ {kws : List Keyword} {ks : List Str}, kwNames kws = some ks -> ks.length = kws.length
 | [], ks, h => by cases h; rfl
 | ⟨none, x, p⟩ :: kws, ks, h => by cases h
 | ⟨some n, x, p⟩ :: kws, ks, h => by
  have h : (kwNames kws).map (n :: ·) = some ks := h
  cases e : kwNames kws with
  | none => rw [e] at h; cases h
  | some l =>
   rw [e] at h
   cases h
   simp [kwNames_len e]
theorem callk_case {f : Nat} {n : Str} {c : Cc} {X : Cx} {es : List E} {perm : List Nat} {kws : List Keyword} {ρ : List (Option D)} {S : Store} {p pos : Pos} (hcf : CfOk B cf) (ok : XOk Γ B cf k X c) (h : (B.fns[f]? == some n && gloK (c.names.lookup n) && plainN n && chkKs B c es kws && (match kwNames kws, B.pars[f]? with
      | some ks, some ps => perm.length == ps.length && perm.all (· < ks.length) && perm.map (fun i => ks.getD i "") == ps && ks.length == ps.length && B.kws.contains (f, ks, perm)
      | _, _ => false)) = true) (ih : ∀ S, chkKs B c es kws = true -> PK X kws (tDs Γ ρ S (isPures es) (evs cf ρ es S))) :
    PE X (.Call (.Name n p) [] kws pos) (tE Γ ρ S (isPure (.callk f perm es)) (ev cf ρ (.callk f perm es) S)) /\ PT X (.Call (.Name n p) [] kws pos) (tB Γ ρ S (isPure (.callk f perm es)) (evB cf ρ (.callk f perm es) S)) /\ (isBoolE (.Call (.Name n p) [] kws pos) = true -> PW X (.Call (.Name n p) [] kws pos) (tB Γ ρ S (isPure (.callk f perm es)) (evB cf ρ (.callk f perm es) S))) := by
  simp only [Bool.and_eq_true] at h
  obtain ⟨⟨⟨⟨h1, h2⟩, h3⟩, h4⟩, h5⟩ := h
  cases hk : kwNames kws with
  | none => rw [hk] at h5; cases h5
  | some ks =>
    cases hp : B.pars[f]? with
    | none => rw [hk, hp] at h5; cases h5
    | some ps =>
      rw [hk, hp] at h5
      simp only [Bool.and_eq_true, beq_iff_eq, List.all_eq_true, decide_eq_true_eq] at h5
      obtain ⟨⟨⟨⟨g1, g2⟩, g3⟩, g4⟩, g5⟩ := h5
      refine only (m := ev cf ρ (.callk f perm es)) ?_ rfl fun _ => rfl
      exact s_callk ok (eq_of_beq h1) (ok.glob h2) (plain_of h3).1 (ih S h4) hk hp g1 g2 g3 g4 (List.contains_iff_mem.mp g5) fun ds S' e => by rw [evs_len e, chkKs_len h4, kwNames_len hk]
theorem tix {t : T} {n : Nat} (h : tIs t = List.range n) (hn : nT t = n) : ∀ i ∈ tIdx t, i < nT t := by
 intro i hi
 have e : tIdx t = tIs t := by cases t <;> rfl
 rw [e, h] at hi
 rw [hn]
 exact List.mem_range.mp hi
theorem walk_congr {f g : D -> M (Option D)} (h : ∀ d, f d = g d) : ∀ (l acc : List D), walkM f l acc = walkM g l acc := by
 have : f = g := funext h
 subst this
 exact fun _ _ => rfl
theorem cs_err {X : Cx} {x : Expr} {ρ : List (Option D)} {S : Store} {pu : Bool} : CSet X x (tE Γ ρ S pu .err) := fun _ _ _ _ _ _ _ _ _ _ _ _ ⟨_, _, _, h⟩ => h.elim
theorem cs_exc {X : Cx} {x : Expr} {ρ : List (Option D)} {S : Store} {pu : Bool} {c : Nat} {S' : Store} : CSet X x (tE Γ ρ S pu (.exc c S')) := fun _ _ _ _ _ _ _ _ _ _ _ _ ⟨_, _, _, h⟩ => h.elim
theorem comp_all {X : Cx} {c : Cc} {sc : Scope} {js : List Nat} {xs : List Str} {t : T} {it elt : E} {ifs : List E} {cs : List Expr} {tgt iter y : Expr} {ρ : List (Option D)} {S : Store} {pos : Pos} (ok : XOk Γ B cf k X c) (hs : chkS c sc js = true) (hn : notSet iter = true) (nd : (xs ++ js.map (fun j => c.N.getD j "")).Nodup)
  (ht : nT t = xs.length) (hr : tIs t = List.range xs.length) (hT : chkT (inner c sc xs js) t tgt = true) (hi : ∀ ρ S, PI X tgt iter (tI Γ ρ S (isPure it) (evI cf ρ it S)))
  (hz : ∀ X ρ S, XOk Γ B cf k X (inner c sc xs js) -> PTs X cs (tB Γ ρ S (isPures ifs) (evIfs cf ρ ifs S)))
  (he : ∀ X ρ S, XOk Γ B cf k X (inner c sc xs js) -> PE X y (tE Γ ρ S (isPure elt) (ev cf ρ elt S))) :
  PE X (.ListComp y [⟨tgt, iter, cs, 0⟩] sc pos) (tE Γ ρ S (isPure (.comp t js it ifs elt)) (ev cf ρ (.comp t js it ifs elt) S)) /\ CSet X (.ListComp y [⟨tgt, iter, cs, 0⟩] sc pos) (tE Γ ρ S (isPure (.comp t js it ifs elt)) (ev cf ρ (.comp t js it ifs elt) S)) := by
 have okI := fun C s3 H3 fp => xok_inner ok hs nd C s3 H3 fp
 have e : ev cf ρ (.comp t js it ifs elt) = M.bind (M.bind (evI cf ρ it) fun its => walkM (compStep t (List.replicate (nT t) none ++ rowsD ρ js) (fun ρ' => evIfs cf ρ' ifs) (fun ρ' => M.bind (ev cf ρ' elt) asData)) its []) fun ds => M.pure (.lst ds, true) := by
  refine Eq.trans (congrArg (M.bind _) (funext fun its => congrArg (fun m => M.bind m _) ?_)) (bind_bind _ _ _).symm
  refine walk_congr (fun d => ?_) its []
  unfold compStep rowsD
  cases setT (List.replicate (nT t) none ++ List.map (fun j => (ρ[j]?).getD none) js) t d <;> simp only [bind_bind]
 rw [e, bind_app]
 cases er : (M.bind (evI cf ρ it) fun its => walkM (compStep t (List.replicate (nT t) none ++ rowsD ρ js) (fun ρ' => evIfs cf ρ' ifs) (fun ρ' => M.bind (ev cf ρ' elt) asData)) its []) S with
 | err => exact ⟨pe_err, cs_err⟩
 | exc c S' => exact ⟨pe_exc, cs_exc⟩
 | ok ds S' =>
  show PE X _ (tE Γ ρ S _ (.ok (.lst ds, true) S')) /\ CSet X _ (tE Γ ρ S _ (.ok (.lst ds, true) S'))
  refine both_imp (comp_both (xs := xs) (tg := tgOf X.K t) (tt := fun σ H Q => ∃ ρ' S1 b S2, evIfs cf ρ' ifs S1 = .ok b S2 /\ tB Γ ρ' S1 (isPures ifs) (.ok b S2) σ H Q) (te := fun σ H Q => ∃ ρ' S1 d S2, M.bind (ev cf ρ' elt) asData S1 = .ok d S2 /\ tD Γ ρ' S1 (isPure elt) (.ok d S2) σ H Q)
   ok.calm (compG_of ok hs) (hi ρ S) (fun C s3 H3 fp => tgt_ok (okI C s3 H3 fp) hT) (fun C s3 H3 fp pins s σ H Q I ⟨ρ', S1, b, S2, e1, q⟩ => ?_) (fun C s3 H3 fp pins s σ H Q I ⟨ρ', S1, d, S2, e1, q⟩ => ?_) (folded_of hn X.env)) fun σ H Q ⟨g, w, env, kk⟩ => ?_
  ·exact hz _ ρ' S1 (okI C s3 H3 fp) pins s σ H Q I (by rw [e1]; exact q)
  ·exact s_data (he _ ρ' S1 (okI C s3 H3 fp)) pins s σ H Q I (by rw [e1]; exact q)
  ·refine comp_inv (t := t) (tgOf_ok t) (tix hr ht) ht w env _ _ (fun ρ' S1 b S2 e1 σ H Q q => ⟨ρ', S1, b, S2, e1, q⟩) (fun ρ' S1 d S2 e1 σ H Q q => ⟨ρ', S1, d, S2, e1, q⟩) (fun σ H Q q => q) er fun Da H' g' st hp w' vo => ?_
   exact kk _ H' g' st hp w' vo
mutual
theorem sA (hcf : CfOk B cf) : ∀ (e : E), SE Γ B cf k e
  | .var i => fun X c x ρ S ok h => by
    have hb : Nat.beq x.ctorIdx 23 = true := by revert h; cases x <;> first | exact non | exact fun _ => rfl
    revert h; apply ofName hb; clear hb; intro n pos h
    have h : (c.N[i]? == some n && visK (c.names.lookup n) && plainN n) = true := h
    rw [Bool.and_eq_true, Bool.and_eq_true] at h
    obtain ⟨h1, h2, _⟩ := plain_of h.2
    exact only (s_var (by rw [ok.N]; exact eq_of_beq h.1.1) (ok.vis h.1.2) h1 h2) rfl fun _ => rfl
  | .con d => fun X c x ρ S ok h => by
    have hb : Nat.beq x.ctorIdx 19 = true := by revert h; cases x <;> first | exact non | exact fun _ => rfl
    revert h; apply ofConstant hb; clear hb; intro q n pos h
    obtain ⟨t, h1, h2⟩ := con_ok (Γ := Γ) (X := X) h
    exact only (m := ev cf ρ (.con d)) (s_con h1 h2) rfl fun _ => rfl
  | .glo m d => fun X c x ρ S ok h => by
    have hb : Nat.beq x.ctorIdx 23 = true := by revert h; cases x <;> first | exact non | exact fun _ => rfl
    revert h; apply ofName hb; clear hb; intro n pos h
    have h : ((match B.consts[m]? with
      | some p => p.1 == n && sameD p.2 d
      | none => false) && gloK (c.names.lookup n) && plainN n) = true := h
    rw [Bool.and_eq_true, Bool.and_eq_true] at h
    cases e : B.consts[m]? with
    | none => rw [e] at h; cases h.1.1
    | some q =>
      rw [e] at h
      obtain ⟨y, d'⟩ := q
      have h1 : (y == n && sameD d' d) = true := h.1.1
      rw [Bool.and_eq_true] at h1
      have e1 := eq_of_beq h1.1
      have e2 := sameD_eq _ _ h1.2
      subst e1 e2
      obtain ⟨u, v, g1, g2, g3⟩ := ok.consts m y d' e
      exact only (m := ev cf ρ (.glo m d')) (s_con (pe_glob (ok.glob h.1.2) g1 g2 (plain_of h.2).1) g3) rfl fun _ => rfl
  | .bin op a b => fun X c x ρ S ok h => by
    have hb : Nat.beq x.ctorIdx 2 = true := by revert h; cases x <;> first | exact non | exact fun _ => rfl
    revert h; apply ofBinOp hb; clear hb; intro l op' r pos h
    have h : (op == op' && chkE B c a l && chkE B c b r) = true := h
    rw [Bool.and_eq_true, Bool.and_eq_true] at h
    have e1 := eq_of_beq h.1.1
    subst e1
    have e : ev cf ρ (.bin op a b) = M.bind (M.bind (ev cf ρ a) asData) (fun da => M.bind (M.bind (ev cf ρ b) asData) fun db => M.bind M.get fun S => M.of (opD op (deref S da) (deref S db))) := bb2
    refine only (m := ev cf ρ (.bin op a b)) ?_ rfl fun _ => rfl
    rw [e]
    exact s_bin ok.hK (s_data (sA hcf a X c l ρ S ok h.1.2).1) fun S => s_data (sA hcf b X c r ρ S ok h.2).1
  | .neg a => fun X c x ρ S ok h => by
    have hb : Nat.beq x.ctorIdx 3 = true := by revert h; cases x <;> first | exact non | exact fun _ => rfl
    revert h; apply ofUnaryOp hb; clear hb; intro op l pos h
    have h : (op == PySem.UnaryOp.USub && chkE B c a l) = true := h
    rw [Bool.and_eq_true] at h
    have e1 := eq_of_beq h.1
    subst e1
    exact only (m := ev cf ρ (.neg a)) (s_neg (sA hcf a X c l ρ S ok h.2).1) rfl fun _ => rfl
  | .cmp op a b => fun X c x ρ S ok h => by
    have hb : Nat.beq x.ctorIdx 15 = true := by revert h; cases x <;> first | exact non | exact fun _ => rfl
    revert h; apply ofCompare hb; clear hb; intro l ops rs pos h
    match ops, rs, h with
    | [op'], [r], h =>
      have h : (op == op' && chkE B c a l && chkE B c b r && notSet r) = true := h
      rw [Bool.and_eq_true, Bool.and_eq_true, Bool.and_eq_true] at h
      have e1 := eq_of_beq h.1.1.1
      subst e1
      have e : ev cf ρ (.cmp op a b) = M.bind (M.bind (ev cf ρ a) asData) (fun da => M.bind (M.bind (ev cf ρ b) asData) fun db => M.bind M.get fun S => M.bind (M.of (cmpD op (deref S da) (deref S db))) fun c => M.pure (D.bl c, false)) := bb2
      have e2 : evB cf ρ (.cmp op a b) = M.bind (M.bind (ev cf ρ a) asData) (fun da => M.bind (M.bind (ev cf ρ b) asData) fun db => M.bind M.get fun S => M.of (cmpD op (deref S da) (deref S db))) := by
        rw [evB_def, e]
        simp only [bind_bind, bind_pure, asB_bl]
        simp only [bind_ret]
      have hm : behindInMarks op r = false := by cases r <;> first | rfl | cases h.2
      have := s_cmp (pos := pos) ok.hK ok.u61 (s_data (sA hcf a X c l ρ S ok h.1.1.2).1) (fun S => s_data (sA hcf b X c r ρ S ok h.1.2).1) hm
      rw [e, e2]
      exact ⟨this.1, this.2, fun q => by cases q⟩
    | [], _, h => exact nobE h
    | [_], [], h => exact nobE h
    | [_], _ :: _ :: _, h => exact nobE h
    | _ :: _ :: _, _, h => exact nobE h
  | .chn o1 o2 a b d => fun X c x ρ S ok h => by
    have hb : Nat.beq x.ctorIdx 15 = true := by revert h; cases x <;> first | exact non | exact fun _ => rfl
    revert h; apply ofCompare hb; clear hb; intro l ops rs pos h
    match ops, rs, h with
    | [p1, p2], [r1, r2], h =>
      have h : (o1 == p1 && o2 == p2 && chkE B c a l && chkE B c b r1 && chkE B c d r2 && notSet r2) = true := h
      simp only [Bool.and_eq_true] at h
      obtain ⟨⟨⟨⟨⟨h1, h2⟩, h3⟩, h4⟩, h5⟩, h6⟩ := h
      have e1 := eq_of_beq h1
      have e2 := eq_of_beq h2
      subst e1 e2
      have e : ev cf ρ (.chn o1 o2 a b d) = M.bind (M.bind (ev cf ρ a) asData) (fun da => M.bind (M.bind (ev cf ρ b) asData) fun db => M.bind M.get fun S => M.bind (M.of (cmpD o1 (deref S da) (deref S db))) fun r => if r = true then M.bind (M.bind (ev cf ρ d) asData) fun dd => M.bind M.get fun S => M.bind (M.of (cmpD o2 (deref S db) (deref S dd))) fun r => M.pure (D.bl r, false) else M.pure (D.bl false, false)) := bb3
      have e2 : evB cf ρ (.chn o1 o2 a b d) = M.bind (M.bind (ev cf ρ a) asData) (fun da => M.bind (M.bind (ev cf ρ b) asData) fun db => M.bind M.get fun S => M.bind (M.of (cmpD o1 (deref S da) (deref S db))) fun r => if r = true then M.bind (M.bind (ev cf ρ d) asData) fun dd => M.bind M.get fun S => M.of (cmpD o2 (deref S db) (deref S dd)) else M.pure false) := by
        rw [evB_def, e]
        simp only [bind_bind, bind_pure, asB_bl, bind_ite]
        simp only [bind_ret]
      have hm : lastMarks [o1, o2] [r1, r2] = false := by cases r2 <;> first | rfl | cases h6
      have := s_chn (pos := pos) ok.hK ok.u61 (s_data (sA hcf a X c l ρ S ok h3).1) (fun S => s_data (sA hcf b X c r1 ρ S ok h4).1) (fun S => s_data (sA hcf d X c r2 ρ S ok h5).1) hm
      rw [e, e2]
      exact ⟨this.1, this.2, fun q => by cases q⟩
    | [], _, h => exact nobE h
    | [_], _, h => exact nobE h
    | [_, _], [], h => exact nobE h
    | [_, _], [_], h => exact nobE h
    | [_, _], _ :: _ :: _ :: _, h => exact nobE h
    | _ :: _ :: _ :: _, _, h => exact nobE h
  | .not a => fun X c x ρ S ok h => by
    have hb : Nat.beq x.ctorIdx 3 = true := by revert h; cases x <;> first | exact non | exact fun _ => rfl
    revert h; apply ofUnaryOp hb; clear hb; intro op l pos h
    have h : (op == PySem.UnaryOp.Not && chkE B c a l) = true := h
    rw [Bool.and_eq_true] at h
    have e1 := eq_of_beq h.1
    subst e1
    have e2 : evB cf ρ (.not a) = M.bind (evB cf ρ a) (fun b => M.pure (!b)) := bbn
    obtain ⟨i1, i2, _⟩ := sA hcf a X c l ρ S ok h.2
    rw [e2]
    exact ⟨s_not i1, s_notT i2, fun q => by cases q⟩
  | .and a b => fun X c x ρ S ok h => by
    have hb : Nat.beq x.ctorIdx 0 = true := by revert h; cases x <;> first | exact non | exact fun _ => rfl
    revert h; apply ofBoolOp hb; clear hb; intro op vs pos h
    match vs, h with
    | l :: r :: rest, h =>
      have h : (op == PySem.BoolOp.And && chkE B c a l && chkE B c b (.BoolOp .And (r :: rest) pos)) = true := h
      rw [Bool.and_eq_true, Bool.and_eq_true] at h
      have e1 := eq_of_beq h.1.1
      subst e1
      obtain ⟨i1, i2, _⟩ := sA hcf a X c l ρ S ok h.1.2
      have e2 : evB cf ρ (.and a b) = M.bind (evB cf ρ a) (fun x => if x = true then evB cf ρ b else M.pure false) := by
        refine (bind_bind _ _ _).trans (Eq.trans (congrArg (M.bind _) (funext fun p => ?_)) (bind_bind _ _ _).symm)
        obtain ⟨d, fr⟩ := p
        cases d with
        | bl v => cases v <;> rfl
        | _ => rfl
      have w := s_andW i2 (fun S => (sA hcf b X c _ ρ S ok h.2).2.2 rfl)
      rw [e2]
      exact ⟨s_and i1 fun S => (sA hcf b X c _ ρ S ok h.2).1, w.pt, fun _ => w⟩
    | [], h => exact nobE h
    | [_], h => exact nobE h
  | .or a b => fun X c x ρ S ok h => by
    have hb : Nat.beq x.ctorIdx 0 = true := by revert h; cases x <;> first | exact non | exact fun _ => rfl
    revert h; apply ofBoolOp hb; clear hb; intro op vs pos h
    match vs, h with
    | l :: r :: rest, h =>
      have h : (op == PySem.BoolOp.Or && chkE B c a l && chkE B c b (.BoolOp .Or (r :: rest) pos)) = true := h
      rw [Bool.and_eq_true, Bool.and_eq_true] at h
      have e1 := eq_of_beq h.1.1
      subst e1
      obtain ⟨i1, i2, _⟩ := sA hcf a X c l ρ S ok h.1.2
      have e2 : evB cf ρ (.or a b) = M.bind (evB cf ρ a) (fun x => if x = true then M.pure true else evB cf ρ b) := by
        refine (bind_bind _ _ _).trans (Eq.trans (congrArg (M.bind _) (funext fun p => ?_)) (bind_bind _ _ _).symm)
        obtain ⟨d, fr⟩ := p
        cases d with
        | bl v => cases v <;> rfl
        | _ => rfl
      have w := s_orW i2 (fun S => (sA hcf b X c _ ρ S ok h.2).2.2 rfl)
      rw [e2]
      exact ⟨s_or i1 fun S => (sA hcf b X c _ ρ S ok h.2).1, w.pt, fun _ => w⟩
    | [], h => exact nobE h
    | [_], h => exact nobE h
  | .one a => fun X c x ρ S ok h => by
    have hb : Nat.beq x.ctorIdx 0 = true := by revert h; cases x <;> first | exact non | exact fun _ => rfl
    revert h; apply ofBoolOp hb; clear hb; intro op vs pos h
    match vs, h with
    | [l], h =>
      obtain ⟨i1, i2, _⟩ := sA hcf a X c l ρ S ok (show chkE B c a l = true from h)
      exact ⟨s_one i1, (s_oneW i2).pt, fun _ => s_oneW i2⟩
    | [], h => exact nobE h
    | _ :: _ :: _, h => exact nobE h
  | .ite t a b => fun X c x ρ S ok h => by
    have hb : Nat.beq x.ctorIdx 5 = true := by revert h; cases x <;> first | exact non | exact fun _ => rfl
    revert h; apply ofIfExp hb; clear hb; intro l y z pos h
    have h : (chkE B c t l && chkE B c a y && chkE B c b z) = true := h
    rw [Bool.and_eq_true, Bool.and_eq_true] at h
    have e : ev cf ρ (.ite t a b) = M.bind (evB cf ρ t) (fun t => if t = true then ev cf ρ a else ev cf ρ b) := bb1
    have e2 : evB cf ρ (.ite t a b) = M.bind (evB cf ρ t) (fun t => if t = true then evB cf ρ a else evB cf ρ b) := by
      rw [evB_def, e]
      simp only [bind_bind, bind_ite, evB_def]
    rw [e, e2]
    refine ⟨s_ite (sA hcf t X c l ρ S ok h.1.1).2.1 (fun S => (sA hcf a X c y ρ S ok h.1.2).1) fun S => (sA hcf b X c z ρ S ok h.2).1, ?_, fun q => by cases q⟩
    exact pt_ifE (sA hcf t X c l ρ S ok h.1.1).2.1 (fun S => (sA hcf a X c y ρ S ok h.1.2).2.1) fun S => (sA hcf b X c z ρ S ok h.2).2.1
  | .tup es => fun X c x ρ S ok h => by
    have hb : Nat.beq x.ctorIdx 25 = true := by revert h; cases x <;> first | exact non | exact fun _ => rfl
    revert h; apply ofTuple hb; clear hb; intro xs kk pos h
    exact only (m := ev cf ρ (.tup es)) (s_tup (sEs hcf es X c xs ρ S ok h)) rfl fun _ => rfl
  | .lst es => fun X c x ρ S ok h => by
    have hb : Nat.beq x.ctorIdx 24 = true := by revert h; cases x <;> first | exact non | exact fun _ => rfl
    revert h; apply ofList hb; clear hb; intro xs pos h
    exact only (m := ev cf ρ (.lst es)) (s_lst (sEs hcf es X c xs ρ S ok h)) rfl fun _ => rfl
  | .sub a i => fun X c x ρ S ok h => by
    have hb : Nat.beq x.ctorIdx 21 = true := by revert h; cases x <;> first | exact non | exact fun _ => rfl
    revert h; apply ofSubscript hb; clear hb; intro l y pos h
    have h : (chkE B c a l && chkE B c i y) = true := h
    rw [Bool.and_eq_true] at h
    have e : ev cf ρ (.sub a i) = M.bind (M.bind (ev cf ρ a) asData) (fun da => M.bind (M.bind (ev cf ρ i) asData) fun db => M.bind M.get fun S => M.bind (M.of (subD (deref S da) db)) fun d => M.pure (d, false)) := bb2
    refine only (m := ev cf ρ (.sub a i)) ?_ rfl fun _ => rfl
    rw [e]
    exact s_sub ok.hK ok.u1 (s_data (sA hcf a X c l ρ S ok h.1).1) (fun S => s_data (sA hcf i X c y ρ S ok h.2).1) (plainIx_of h.2)
  | .slc a lo hi => fun X c x ρ S ok h => by
    have hb : Nat.beq x.ctorIdx 21 = true := by revert h; cases x <;> first | exact non | exact fun _ => rfl
    revert h; apply ofSubscript hb; clear hb; intro l y pos h
    have hb : Nat.beq y.ctorIdx 26 = true := by revert h; cases y <;> first | exact non | exact fun _ => rfl
    revert h; apply ofSlice hb; clear hb; intro lo' hi' st p2 h
    cases st with
    | none =>
      have h : (chkE B c a l && chkO B c lo lo' && chkO B c hi hi') = true := h
      rw [Bool.and_eq_true, Bool.and_eq_true] at h
      have e : ev cf ρ (.slc a lo hi) = M.bind (M.bind (ev cf ρ a) asData) (fun x => M.bind (evO cf ρ lo) fun l => M.bind (evO cf ρ hi) fun h => M.bind (M.of (boundD l)) fun l => M.bind (M.of (boundD h)) fun h => M.bind M.get fun S => M.of (slcD (deref S x) l h)) := bb1
      refine only (m := ev cf ρ (.slc a lo hi)) ?_ rfl fun _ => rfl
      rw [e]
      exact s_slc ok.hK (s_data (sA hcf a X c l ρ S ok h.1.1).1) (fun S d S1 i e hb => sO hcf lo X c lo' ρ S ok h.1.2 d S1 i e hb) (fun S d S1 i e hb => sO hcf hi X c hi' ρ S ok h.2 d S1 i e hb)
    | some _ => exact nobE h
  | .bi b es => fun X c x ρ S ok h => by
    have hb : Nat.beq x.ctorIdx 16 = true := by revert h; cases x <;> first | exact non | exact fun _ => rfl
    revert h; apply ofCall hb; clear hb; intro f args kws pos h
    have hb : Nat.beq f.ctorIdx 23 = true := by revert h; cases f <;> first | exact non | exact fun _ => rfl
    revert h; apply ofName hb; clear hb; intro n p h
    cases kws with
    | nil =>
      cases b with
      | isinst t =>
        match es, args, h with
        | [], _, h => exact (and_no (show (_ && false) = true from h)).elim
        | _ :: _ :: _, _, h => exact (and_no (show (_ && false) = true from h)).elim
        | [_], [], h => exact (and_no (show (_ && false) = true from h)).elim
        | [_], [_], h => exact (and_no (show (_ && false) = true from h)).elim
        | [_], _ :: z :: _ :: _, h => cases z <;> exact (and_no (show (_ && false) = true from h)).elim
        | [e], [y, z], h =>
          cases z with
          | Name z pz =>
            have h : (n == ("isinstance" : Str) && B.bare.contains n && B.bare.contains (tyN t) && gloK (c.names.lookup n) && (chkE B c e y && notStar y && z == tyN t && gloK (c.names.lookup z))) = true := h
            simp only [Bool.and_eq_true] at h
            obtain ⟨⟨⟨⟨h1, h2⟩, h3⟩, h4⟩, ⟨⟨h5, h6⟩, h7⟩, h8⟩ := h
            have e1 := eq_of_beq h1
            have e2 := eq_of_beq h7
            subst e1 e2
            have e3 : ev cf ρ (.bi (.isinst t) [e]) = M.bind (M.bind (ev cf ρ e) asData) (fun d => M.bind M.get fun S => M.of (biD (.isinst t) [deref S d])) := bbi
            refine only (m := ev cf ρ (.bi (.isinst t) [e])) ?_ rfl fun _ => rfl
            rw [e3]
            have := s_is (p := p) (pos := pos) (pz := pz) ok (ok.glob h4) (ok.bare _ (List.contains_iff_mem.mp h2)) (ok.glob h8) (ok.bare _ (List.contains_iff_mem.mp h3)) h6 (s_data (sA hcf e X c y ρ S ok h5).1)
            rw [show isPure (.bi (.isinst t) [e]) = (isPure e && true) from rfl, Bool.and_true]
            exact this
          | _ => exact (and_no (show (_ && false) = true from h)).elim
      | len =>
        have h : (n == biS .len && B.bare.contains n && gloK (c.names.lookup n) && chkEs B c es args && !es.isEmpty) = true := h
        exact bi_case hcf ok rfl h fun S => sEs hcf es X c args ρ S ok (bi_args h)
      | abs =>
        have h : (n == biS .abs && B.bare.contains n && gloK (c.names.lookup n) && chkEs B c es args && !es.isEmpty) = true := h
        exact bi_case hcf ok rfl h fun S => sEs hcf es X c args ρ S ok (bi_args h)
      | int =>
        have h : (n == biS .int && B.bare.contains n && gloK (c.names.lookup n) && chkEs B c es args && !es.isEmpty) = true := h
        exact bi_case hcf ok rfl h fun S => sEs hcf es X c args ρ S ok (bi_args h)
      | str =>
        have h : (n == biS .str && B.bare.contains n && gloK (c.names.lookup n) && chkEs B c es args && !es.isEmpty) = true := h
        exact bi_case hcf ok rfl h fun S => sEs hcf es X c args ρ S ok (bi_args h)
      | tuple =>
        have h : (n == biS .tuple && B.bare.contains n && gloK (c.names.lookup n) && chkEs B c es args && !es.isEmpty) = true := h
        exact bi_case hcf ok rfl h fun S => sEs hcf es X c args ρ S ok (bi_args h)
      | list =>
        have h : (n == biS .list && B.bare.contains n && gloK (c.names.lookup n) && chkEs B c es args && !es.isEmpty) = true := h
        exact bi_case hcf ok rfl h fun S => sEs hcf es X c args ρ S ok (bi_args h)
      | sum =>
        have h : (n == biS .sum && B.bare.contains n && gloK (c.names.lookup n) && chkEs B c es args && !es.isEmpty) = true := h
        exact bi_case hcf ok rfl h fun S => sEs hcf es X c args ρ S ok (bi_args h)
      | all =>
        have h : (n == biS .all && B.bare.contains n && gloK (c.names.lookup n) && chkEs B c es args && !es.isEmpty) = true := h
        exact bi_case hcf ok rfl h fun S => sEs hcf es X c args ρ S ok (bi_args h)
      | any =>
        have h : (n == biS .any && B.bare.contains n && gloK (c.names.lookup n) && chkEs B c es args && !es.isEmpty) = true := h
        exact bi_case hcf ok rfl h fun S => sEs hcf es X c args ρ S ok (bi_args h)
      | min2 =>
        have h : (n == biS .min2 && B.bare.contains n && gloK (c.names.lookup n) && chkEs B c es args && !es.isEmpty) = true := h
        exact bi_case hcf ok rfl h fun S => sEs hcf es X c args ρ S ok (bi_args h)
      | max2 =>
        have h : (n == biS .max2 && B.bare.contains n && gloK (c.names.lookup n) && chkEs B c es args && !es.isEmpty) = true := h
        exact bi_case hcf ok rfl h fun S => sEs hcf es X c args ρ S ok (bi_args h)
      | sorted =>
        have h : (n == biS .sorted && B.bare.contains n && gloK (c.names.lookup n) && chkEs B c es args && !es.isEmpty) = true := h
        exact bi_case hcf ok rfl h fun S => sEs hcf es X c args ρ S ok (bi_args h)
    | cons _ _ => exact nobE h
  | .call f es => fun X c x ρ S ok h => by
    have hb : Nat.beq x.ctorIdx 16 = true := by revert h; cases x <;> first | exact non | exact fun _ => rfl
    revert h; apply ofCall hb; clear hb; intro q args kws pos h
    have hb : Nat.beq q.ctorIdx 23 = true := by revert h; cases q <;> first | exact non | exact fun _ => rfl
    revert h; apply ofName hb; clear hb; intro n p h
    cases kws with
    | nil =>
      have h : (B.fns[f]? == some n && gloK (c.names.lookup n) && plainN n && chkEs B c es args && !es.isEmpty) = true := h
      simp only [Bool.and_eq_true] at h
      obtain ⟨⟨⟨⟨h1, h2⟩, h3⟩, h4⟩, h5⟩ := h
      cases args with
      | nil =>
        cases es with
        | nil => cases h5
        | cons _ _ => exact nobE h4
      | cons y ys =>
        refine only (m := ev cf ρ (.call f es)) ?_ rfl fun _ => rfl
        exact s_call ok (eq_of_beq h1) (ok.glob h2) (plain_of h3).1 (star_all h4) (sEs hcf es X c (y :: ys) ρ S ok h4) fun ds S' _ ps hp hne => hcf f ds S' ps hp hne
    | cons _ _ => exact nobE h
  | .callk f perm es => fun X c x ρ S ok h => by
    have hb : Nat.beq x.ctorIdx 16 = true := by revert h; cases x <;> first | exact non | exact fun _ => rfl
    revert h; apply ofCall hb; clear hb; intro q args kws pos h
    have hb : Nat.beq q.ctorIdx 23 = true := by revert h; cases q <;> first | exact non | exact fun _ => rfl
    revert h; apply ofName hb; clear hb; intro n p h
    cases args with
    | nil =>
      cases kws with
      | nil =>
        have h : (B.fns[f]? == some n && gloK (c.names.lookup n) && plainN n && chkKs B c es [] && (match kwNames [], B.pars[f]? with
          | some ks, some ps => perm.length == ps.length && perm.all (· < ks.length) && perm.map (fun i => ks.getD i "") == ps && ks.length == ps.length && B.kws.contains (f, ks, perm)
          | _, _ => false)) = true := h
        exact callk_case hcf ok h fun S => sKs hcf es X c [] ρ S ok
      | cons kw kws =>
        have h : (B.fns[f]? == some n && gloK (c.names.lookup n) && plainN n && chkKs B c es (kw :: kws) && (match kwNames (kw :: kws), B.pars[f]? with
          | some ks, some ps => perm.length == ps.length && perm.all (· < ks.length) && perm.map (fun i => ks.getD i "") == ps && ks.length == ps.length && B.kws.contains (f, ks, perm)
          | _, _ => false)) = true := h
        exact callk_case hcf ok h fun S => sKs hcf es X c (kw :: kws) ρ S ok
    | cons _ _ => exact nobE h
  | .comp t js it ifs elt => fun X c x ρ S ok h => by
    have hb : Nat.beq x.ctorIdx 8 = true := by revert h; cases x <;> first | exact non | exact fun _ => rfl
    revert h; apply ofListComp hb; clear hb; intro y gens sc pos h
    match gens, h with
    | [⟨tgt, iter, cs, kk⟩], h =>
      have h : (kk == 0 && chkS c sc js && chkI B c it tgt iter && notSet iter && (match tgtNames tgt with
        | some xs => decide ((xs ++ js.map (fun j => c.N.getD j "")).Nodup) && nT t == xs.length && tIs t == List.range xs.length && chkT (inner c sc xs js) t tgt && chkE B (inner c sc xs js) elt y && chkFs B (inner c sc xs js) ifs cs && decide (ifs.length <= 1)
        | none => false)) = true := h
      simp only [Bool.and_eq_true] at h
      obtain ⟨⟨⟨⟨h1, h2⟩, h3⟩, h4⟩, h5⟩ := h
      have e1 := eq_of_beq h1
      subst e1
      cases ht : tgtNames tgt with
      | none => rw [ht] at h5; cases h5
      | some xs =>
        rw [ht] at h5
        simp only [Bool.and_eq_true] at h5
        obtain ⟨⟨⟨⟨⟨⟨h6, h7⟩, h8⟩, h9⟩, h10⟩, h11⟩, h12⟩ := h5
        refine only (m := ev cf ρ (.comp t js it ifs elt)) ?_ rfl fun _ => rfl
        refine (comp_all ok h2 h4 (of_decide_eq_true h6) (eq_of_beq h7) (eq_of_beq h8) h9 (fun ρ S => sI hcf it X c tgt iter ρ S ok h3) (fun X ρ S ok' => ?_) fun X ρ S ok => (sA hcf elt X _ y ρ S ok h10).1).1
        exact sFs hcf ifs X _ cs ρ S ok' h11 (of_decide_eq_true h12)
    | [], h => exact nobE h
    | ⟨_, _, _, _⟩ :: ⟨_, _, _, _⟩ :: _, h => exact nobE h
  | .box e => fun X c x ρ S ok h => by
    obtain ⟨i1, _, _⟩ := sA hcf e X c x ρ S ok (show chkE B c e x = true from h)
    have q := pt_no (Γ := Γ) (X := X) (ρ := ρ) (S := S) (pu := false) (x := x) (box_B (ρ := ρ) (S := S) (m := ev cf ρ e) _ rfl)
    exact ⟨s_box i1, q.1, fun _ => q.2⟩
  | .dic tk ks es => fun X c x ρ S ok h => by
    have hb : Nat.beq x.ctorIdx 6 = true := by revert h; cases x <;> first | exact non | exact fun _ => rfl
    revert h; apply ofDict hb; clear hb; intro keys vals pos h
    have h : (chkDk ks keys && chkFs B c es vals && decide (ks.length = es.length) && decide (ks.length <= 15)) = true := h
    simp only [Bool.and_eq_true, decide_eq_true_eq] at h
    obtain ⟨⟨⟨h1, h2⟩, h3⟩, h4⟩ := h
    refine only (m := ev cf ρ (.dic tk ks es)) ?_ rfl fun _ => rfl
    have e1 : ev cf ρ (.dic tk ks es) = M.bind (evs cf ρ es) (fun ds => if dicOk tk ks ds then M.pure (if tk = true then (D.dT [] [], true) else (D.dK ks ds, true)) else M.fail) := rfl
    rw [e1, bind_app]
    cases e : evs cf ρ es S with
    | err => exact pe_err
    | exc c S' => exact pe_exc
    | ok ds S1 =>
      show PE X _ (tE Γ ρ S _ ((if dicOk tk ks ds then M.pure (if tk = true then (D.dT [] [], true) else (D.dK ks ds, true)) else M.fail) S1))
      by_cases hd : dicOk tk ks ds = true
      · rw [if_pos hd]
        unfold dicOk at hd
        simp only [Bool.and_eq_true, decide_eq_true_eq] at hd
        obtain ⟨⟨⟨d1, d2⟩, d3⟩, d4⟩ := hd
        have hps := sPs (pos := pos) hcf es X c vals ks keys ρ S ds S1 ok h2 h1 h3 e
        cases ks with
        | nil =>
          cases keys with
          | cons _ _ => exact nobE h1
          | nil =>
            cases es with
            | cons _ _ => cases h3
            | nil =>
              cases vals with
              | cons _ _ => exact nobE h2
              | nil =>
                have e' : R.ok ([] : List D) S = .ok ds S1 := e
                cases e'
                cases tk with
                | true => exact s_dnewT
                | false => exact s_dnewK
        | cons k0 ks =>
          cases tk with
          | true => cases d4
          | false =>
            obtain ⟨l1, l2⟩ := chkDk_len h1
            have l3 := chkFs_len h2
            refine s_disp hps l2 (by rw [<- l1, h3, l3]) (fun z => ?_) (by rw [<- l1]; exact h4) d1 d2 h4
            rw [z] at l1
            cases l1
      · rw [if_neg hd]
        exact pe_err
  | .mth m o es => fun X c x ρ S ok h => by
    have hb : Nat.beq x.ctorIdx 16 = true := by revert h; cases x <;> first | exact non | exact fun _ => rfl
    revert h; apply ofCall hb; clear hb; intro f args kws pos h
    obtain ⟨w, ap, y, ys, rfl, rfl, rfl, h1, h2, h3, h4, h5⟩ := mth_is h
    have e : ev cf ρ (.mth m o es) = M.bind (M.bind (ev cf ρ o) asData) (fun d => M.bind M.get fun S => if mthK m (deref S d) = true then M.bind (evs cf ρ es) fun ds => M.bind M.get fun S => M.of (mthD m (deref S d) ds) else M.fail) := bb1
    refine only (m := ev cf ρ (.mth m o es)) ?_ rfl fun _ => rfl
    rw [e]
    exact s_mth ok (s_data (sA hcf o X c w ρ S ok h1).1) (star_all h2) (fun S => sEs hcf es X c (y :: ys) ρ S ok h2) h3 h4 h5
  | .flip e => fun X c x ρ S ok h => by
    have hb : Nat.beq x.ctorIdx 21 = true := by revert h; cases x <;> first | exact non | exact fun _ => rfl
    revert h; apply ofSubscript hb; clear hb; intro y z pos h
    have h : (chkE B c e y && isRev z) = true := h
    rw [Bool.and_eq_true] at h
    obtain ⟨k1, q1, q2, q3, rfl⟩ := isRev_is h.2
    have e1 : ev cf ρ (.flip e) = M.bind (M.bind (ev cf ρ e) asData) (fun d => M.bind M.get fun S => M.of (flipD (deref S d))) := bb1
    refine only (m := ev cf ρ (.flip e)) ?_ rfl fun _ => rfl
    rw [e1]
    exact s_flip ok.hK (s_data (sA hcf e X c y ρ S ok h.1).1)
  | .callv _ _ => fun X c x ρ S ok h => by revert h; cases x <;> exact nobE
  | .seq _ => fun X c x ρ S ok h => by revert h; cases x <;> exact nobE
  | .rng _ _ => fun X c x ρ S ok h => by revert h; cases x <;> exact nobE
  | .enum _ => fun X c x ρ S ok h => by revert h; cases x <;> exact nobE
  | .zip _ _ => fun X c x ρ S ok h => by revert h; cases x <;> exact nobE
  | .rev _ => fun X c x ρ S ok h => by revert h; cases x <;> exact nobE
  | .items _ => fun X c x ρ S ok h => by revert h; cases x <;> exact nobE
theorem sEs (hcf : CfOk B cf) : ∀ (es : List E) (X : Cx) (c : Cc) (xs : List Expr) (ρ : List (Option D)) (S : Store), XOk Γ B cf k X c -> chkEs B c es xs = true -> PA X xs (tDs Γ ρ S (isPures es) (evs cf ρ es S))
 | [], X, c, xs, ρ, S, ok, h => by
  cases xs with
  | nil => exact s_nil
  | cons _ _ => exact nobE h
 | e :: es, X, c, xs, ρ, S, ok, h => by
  cases xs with
  | nil => exact nobE h
  | cons x xs =>
   have h : (chkE B c e x && notStar x && chkEs B c es xs) = true := h
   rw [Bool.and_eq_true, Bool.and_eq_true] at h
   have e1 : evs cf ρ (e :: es) = M.bind (M.bind (ev cf ρ e) asData) (fun d => M.bind (evs cf ρ es) fun ds => M.pure (d :: ds)) := bb1
   rw [e1]
   exact s_cons h.1.2 (s_data (sA hcf e X c x ρ S ok h.1.1).1) fun S => sEs hcf es X c xs ρ S ok h.2
theorem sPs {pos : Pos} (hcf : CfOk B cf) : ∀ (es : List E) (X : Cx) (c : Cc) (vals : List Expr) (ks : List Key) (keys : List (Option Expr)) (ρ : List (Option D)) (S : Store) (ds : List D) (S' : Store), XOk Γ B cf k X c -> chkFs B c es vals = true -> chkDk ks keys = true -> ks.length = es.length -> evs cf ρ es S = .ok ds S' -> PPd X pos keys vals ks (tDs Γ ρ S (isPures es) (.ok ds S'))
 | [], X, c, vals, ks, keys, ρ, S, ds, S', ok, h, hk, hl, e => by
  cases vals with
  | cons _ _ => exact nobE h
  | nil =>
   cases ks with
   | cons _ _ => cases hl
   | nil =>
    cases keys with
    | cons _ _ => exact nobE hk
    | nil =>
     have e' : R.ok ([] : List D) S = .ok ds S' := e
     cases e'
     exact s_pnil
 | a :: es, X, c, vals, ks, keys, ρ, S, ds, S', ok, h, hk, hl, e => by
  cases vals with
  | nil => exact nobE h
  | cons x vals =>
   have h : (chkE B c a x && chkFs B c es vals) = true := h
   rw [Bool.and_eq_true] at h
   cases ks with
   | nil => cases hl
   | cons k0 ks =>
    obtain ⟨q, n, p, r, rfl, hc, hr⟩ := chkDk_cons hk
    have e1 : evs cf ρ (a :: es) = M.bind (M.bind (ev cf ρ a) asData) (fun d => M.bind (evs cf ρ es) fun ds => M.pure (d :: ds)) := bb1
    rw [e1, bind_app] at e
    have sd := s_data (sA hcf a X c x ρ S ok h.1).1
    cases e2 : M.bind (ev cf ρ a) asData S with
    | err => rw [e2] at e; cases e
    | exc c S' => rw [e2] at e; cases e
    | ok d S1 =>
     rw [e2] at e sd
     have e : M.bind (evs cf ρ es) (fun ds => M.pure (d :: ds)) S1 = .ok ds S' := e
     rw [bind_app] at e
     cases e3 : evs cf ρ es S1 with
     | err => rw [e3] at e; cases e
     | exc c S' => rw [e3] at e; cases e
     | ok ds1 S2 =>
      rw [e3] at e
      cases e
      exact s_pcons (hc X) sd (sPs hcf es X c vals ks r ρ S1 _ _ ok h.2 hr (by simpa using hl) e3)
theorem sKs (hcf : CfOk B cf) : ∀ (es : List E) (X : Cx) (c : Cc) (kws : List Keyword) (ρ : List (Option D)) (S : Store), XOk Γ B cf k X c -> chkKs B c es kws = true -> PK X kws (tDs Γ ρ S (isPures es) (evs cf ρ es S))
 | [], X, c, xs, ρ, S, ok, h => by
  cases xs with
  | nil => exact s_knil
  | cons _ _ => exact nobE h
 | e :: es, X, c, xs, ρ, S, ok, h => by
  cases xs with
  | nil => exact nobE h
  | cons q xs =>
   obtain ⟨n, x, kp⟩ := q
   cases n with
   | none => exact nobE h
   | some n =>
    have h : (chkE B c e x && chkKs B c es xs) = true := h
    rw [Bool.and_eq_true] at h
    have e1 : evs cf ρ (e :: es) = M.bind (M.bind (ev cf ρ e) asData) (fun d => M.bind (evs cf ρ es) fun ds => M.pure (d :: ds)) := bb1
    rw [e1]
    exact s_kcons (s_data (sA hcf e X c x ρ S ok h.1).1) fun S => sKs hcf es X c xs ρ S ok h.2
theorem sI (hcf : CfOk B cf) : ∀ (e : E) (X : Cx) (c : Cc) (tgt x : Expr) (ρ : List (Option D)) (S : Store), XOk Γ B cf k X c -> chkI B c e tgt x = true -> PI X tgt x (tI Γ ρ S (isPure e) (evI cf ρ e S))
 | .seq e, X, c, tgt, x, ρ, S, ok, h => by
  have e1 : evI cf ρ (.seq e) = M.bind (M.bind (ev cf ρ e) asData) (fun d => M.of (seqD d)) := bb1
  rw [e1]
  exact s_seq ok.hK (s_data (sA hcf e X c x ρ S ok h).1)
 | .rng none hi, X, c, tgt, x, ρ, S, ok, h => by
  have hb : Nat.beq x.ctorIdx 16 = true := by revert h; cases x <;> first | exact non | exact fun _ => rfl
  revert h; apply ofCall hb; clear hb; intro q args kws pos h
  have hb : Nat.beq q.ctorIdx 23 = true := by revert h; cases q <;> first | exact non | exact fun _ => rfl
  revert h; apply ofName hb; clear hb; intro n p h
  cases kws with
  | nil =>
   match args, h with
   | [y], h =>
    have h : (n == ("range" : Str) && B.bare.contains n && gloK (c.names.lookup n) && chkE B c hi y && notStar y) = true := h
    simp only [Bool.and_eq_true] at h
    obtain ⟨⟨⟨⟨h1, h2⟩, h3⟩, h4⟩, h5⟩ := h
    have e1 := eq_of_beq h1
    subst e1
    have := s_rng1 (tgt := tgt) (p := p) (pos := pos) (ok.glob h3) (ok.bare _ (List.contains_iff_mem.mp h2)) h5 (sA hcf hi X c y ρ S ok h4).1
    have e : isPure (.rng none hi) = isPure hi := rfl
    rw [e]
    exact this
   | [], h => exact nobE h
   | _ :: _ :: _, h => exact nobE h
  | cons _ _ => rcases args with _ | ⟨_, _ | ⟨_, _ | ⟨_, _⟩⟩⟩ <;> exact nobE h
 | .rng (some _) _, X, c, tgt, x, ρ, S, ok, h => by revert h; cases x <;> exact nobE
 | .var _, X, c, tgt, x, ρ, S, ok, h => nobE h
 | .con _, X, c, tgt, x, ρ, S, ok, h => nobE h
 | .glo _ _, X, c, tgt, x, ρ, S, ok, h => nobE h
 | .bin _ _ _, X, c, tgt, x, ρ, S, ok, h => nobE h
 | .neg _, X, c, tgt, x, ρ, S, ok, h => nobE h
 | .cmp _ _ _, X, c, tgt, x, ρ, S, ok, h => nobE h
 | .chn _ _ _ _ _, X, c, tgt, x, ρ, S, ok, h => nobE h
 | .not _, X, c, tgt, x, ρ, S, ok, h => nobE h
 | .and _ _, X, c, tgt, x, ρ, S, ok, h => nobE h
 | .or _ _, X, c, tgt, x, ρ, S, ok, h => nobE h
 | .ite _ _ _, X, c, tgt, x, ρ, S, ok, h => nobE h
 | .tup _, X, c, tgt, x, ρ, S, ok, h => nobE h
 | .lst _, X, c, tgt, x, ρ, S, ok, h => nobE h
 | .dic _ _ _, X, c, tgt, x, ρ, S, ok, h => nobE h
 | .sub _ _, X, c, tgt, x, ρ, S, ok, h => nobE h
 | .slc _ _ _, X, c, tgt, x, ρ, S, ok, h => nobE h
 | .bi _ _, X, c, tgt, x, ρ, S, ok, h => nobE h
 | .mth _ _ _, X, c, tgt, x, ρ, S, ok, h => nobE h
 | .call _ _, X, c, tgt, x, ρ, S, ok, h => nobE h
 | .callk _ _ _, X, c, tgt, x, ρ, S, ok, h => nobE h
 | .callv _ _, X, c, tgt, x, ρ, S, ok, h => nobE h
 | .comp _ _ _ _ _, X, c, tgt, x, ρ, S, ok, h => nobE h
 | .box _, X, c, tgt, x, ρ, S, ok, h => nobE h
 | .one _, X, c, tgt, x, ρ, S, ok, h => nobE h
 | .flip _, X, c, tgt, x, ρ, S, ok, h => nobE h
 | .enum e, X, c, tgt, x, ρ, S, ok, h => by
  have hb : Nat.beq x.ctorIdx 16 = true := by revert h; cases x <;> first | exact non | exact fun _ => rfl
  revert h; apply ofCall hb; clear hb; intro q args kws pos h
  have hb : Nat.beq q.ctorIdx 23 = true := by revert h; cases q <;> first | exact non | exact fun _ => rfl
  revert h; apply ofName hb; clear hb; intro n p h
  cases kws with
  | nil =>
   match args, h with
   | [y], h =>
    have h : (isTupX tgt && n == ("enumerate" : Str) && B.bare.contains n && gloK (c.names.lookup n) && chkE B c e y && notStar y) = true := h
    simp only [Bool.and_eq_true] at h
    obtain ⟨⟨⟨⟨⟨h0, h1⟩, h2⟩, h3⟩, h4⟩, h5⟩ := h
    have e1 := eq_of_beq h1
    subst e1
    cases tgt with
    | Tuple elts kk tp =>
     have := s_enum (elts := elts) (kk := kk) (tp := tp) (p := p) (pos := pos) ok.hK (ok.glob h3) (ok.bare _ (List.contains_iff_mem.mp h2)) h5 (s_data (sA hcf e X c y ρ S ok h4).1)
     have e2 : evI cf ρ (.enum e) S = M.bind (M.bind (ev cf ρ e) asData) (fun x => M.bind (M.of (enumS x)) fun l => M.pure (enumD 0 l)) S := by
      show M.bind (ev cf ρ e) (fun x => M.bind (asData x) fun x => M.bind (M.of (enumS x)) fun l => M.pure (enumD 0 l)) S = _
      rw [bind_bind]
     rw [e2]
     exact this
    | _ => exact nobE h0
   | [], h => exact nobE h
   | _ :: _ :: _, h => exact nobE h
  | cons _ _ => rcases args with _ | ⟨_, _ | ⟨_, _⟩⟩ <;> exact nobE h
 | .zip _ _, X, c, tgt, x, ρ, S, ok, h => nobE h
 | .rev _, X, c, tgt, x, ρ, S, ok, h => nobE h
 | .items _, X, c, tgt, x, ρ, S, ok, h => nobE h
theorem sFs (hcf : CfOk B cf) : ∀ (es : List E) (X : Cx) (c : Cc) (xs : List Expr) (ρ : List (Option D)) (S : Store), XOk Γ B cf k X c -> chkFs B c es xs = true -> es.length <= 1 -> PTs X xs (tB Γ ρ S (isPures es) (evIfs cf ρ es S))
 | [], X, c, xs, ρ, S, ok, h, _ => by
  cases xs with
  | nil => exact fun pins s σ H Q I ⟨g, w, env, kk⟩ => pts_nil pins s σ H Q I (kk H g (Step.refl H g) (fun _ => Same.refl H) w)
  | cons _ _ => exact nobE h
 | [e], X, c, xs, ρ, S, ok, h, _ => by
  cases xs with
  | nil => exact nobE h
  | cons x xs =>
   have h : (chkE B c e x && chkFs B c [] xs) = true := h
   rw [Bool.and_eq_true] at h
   cases xs with
   | nil =>
    have e1 : evIfs cf ρ [e] = evB cf ρ e := by
     refine congrArg (M.bind _) (funext fun p => ?_)
     obtain ⟨d, fr⟩ := p
     cases d with
     | bl v => cases v <;> rfl
     | _ => rfl
    have e2 : isPures [e] = isPure e := Bool.and_true _
    rw [e1, e2]
    exact pts_one (sA hcf e X c x ρ S ok h.1).2.1
   | cons _ _ => cases (show false = true from h.2)
 | _ :: _ :: _, X, c, xs, ρ, S, ok, h, hl => by
  exfalso
  simp at hl
theorem sO (hcf : CfOk B cf) : ∀ (o : Option E) (X : Cx) (c : Cc) (x : Option Expr) (ρ : List (Option D)) (S : Store), XOk Γ B cf k X c -> chkO B c o x = true -> ∀ d S1 i, evO cf ρ o S = .ok d S1 -> boundD d = some i -> PO X x (tO Γ ρ S (isPureO o) i S1)
 | none, X, c, x, ρ, S, ok, h => fun d S1 i e hb => by
  cases x with
  | none => exact s_po (m := M.fail) (mo := none) True.intro e hb
  | some _ => exact nobE h
 | some o, X, c, x, ρ, S, ok, h => fun d S1 i e hb => by
  cases x with
  | none => exact nobE h
  | some x =>
   have e' : M.bind (M.bind (ev cf ρ o) asData) (fun d => M.pure (some d)) S = .ok d S1 := by
    rw [bind_bind]
    exact e
   exact s_po (m := M.fail) (mo := some (M.bind (ev cf ρ o) asData)) (s_data (sA hcf o X c x ρ S ok h).1) e' hb
end
theorem sCS (hcf : CfOk B cf) (t : T) (js : List Nat) (it : E) (ifs : List E) (elt : E) (X : Cx) (c : Cc) (x : Expr) (ρ : List (Option D)) (S : Store) (ok : XOk Γ B cf k X c) (h : chkE B c (.comp t js it ifs elt) x = true) : CSet X x (tE Γ ρ S (isPure (.comp t js it ifs elt)) (ev cf ρ (.comp t js it ifs elt) S)) := by
  have hb : Nat.beq x.ctorIdx 8 = true := by revert h; cases x <;> first | exact non | exact fun _ => rfl
  revert h; apply ofListComp hb; clear hb; intro y gens sc pos h
  match gens, h with
  | [⟨tgt, iter, cs, kk⟩], h =>
    have h : (kk == 0 && chkS c sc js && chkI B c it tgt iter && notSet iter && (match tgtNames tgt with
      | some xs => decide ((xs ++ js.map (fun j => c.N.getD j "")).Nodup) && nT t == xs.length && tIs t == List.range xs.length && chkT (inner c sc xs js) t tgt && chkE B (inner c sc xs js) elt y && chkFs B (inner c sc xs js) ifs cs && decide (ifs.length <= 1)
      | none => false)) = true := h
    simp only [Bool.and_eq_true] at h
    obtain ⟨⟨⟨⟨h1, h2⟩, h3⟩, h4⟩, h5⟩ := h
    have e1 := eq_of_beq h1
    subst e1
    cases ht : tgtNames tgt with
    | none => rw [ht] at h5; cases h5
    | some xs =>
      rw [ht] at h5
      simp only [Bool.and_eq_true] at h5
      obtain ⟨⟨⟨⟨⟨⟨h6, h7⟩, h8⟩, h9⟩, h10⟩, h11⟩, h12⟩ := h5
      refine (comp_all ok h2 h4 (of_decide_eq_true h6) (eq_of_beq h7) (eq_of_beq h8) h9 (fun ρ S => sI hcf it X c tgt iter ρ S ok h3) (fun X ρ S ok' => ?_) fun X ρ S ok => (sA hcf elt X _ y ρ S ok h10).1).2
      exact sFs hcf ifs X _ cs ρ S ok' h11 (of_decide_eq_true h12)
  | [], h => exact nobE h
  | ⟨_, _, _, _⟩ :: ⟨_, _, _, _⟩ :: _, h => exact nobE h
end
end EV
namespace EV
open PySem PySem.Spec PyProof.Rows L2
structure EnvO (Γ : Gm) (H₀ H : Hp) (g : G) (ρ : List Slot) (σ : L2.St) : Prop where
 len : ρ.length = σ.length
 sh : ∀ (i : Nat) (d : D), ρ[i]? = some (.sh d) -> ∃ v, σ[i]? = some (some v) /\ Has Γ g d v
 ow : ∀ (i : Nat) (d : D), ρ[i]? = some (.ow d) -> ∃ a, σ[i]? = some (some (.ref a)) /\ H₀ a = none /\ g.R a = none /\ a ∉ g.α /\ CellOk Γ H g a d /\ isIns d = false
 inj : ∀ (i j : Nat) (d e : D) (a : Addr), ρ[i]? = some (.ow d) -> ρ[j]? = some (.ow e) -> σ[i]? = some (some (.ref a)) -> σ[j]? = some (some (.ref a)) -> i = j
theorem vis_get : ∀ (oc : List Nat) (n : Nat) (ρ : List Slot) (i : Nat), (visFrom oc n ρ)[i]? = (ρ[i]?).map fun s => s.vis (oc.contains (n + i))
 | _, _, [], _ => rfl
 | oc, n, s :: r, 0 => by simp [visFrom]
 | oc, n, s :: r, i + 1 => by
  have := vis_get oc (n + 1) r i
  simp only [visFrom, List.getElem?_cons_succ]
  rw [this, show n + 1 + i = n + (i + 1) by omega]
theorem vis_len : ∀ (oc : List Nat) (n : Nat) (ρ : List Slot), (visFrom oc n ρ).length = ρ.length
 | _, _, [] => rfl
 | oc, n, s :: r => by simp [visFrom, vis_len oc (n + 1) r]
theorem frz_get : ∀ (oc : List Nat) (n : Nat) (ρ : List Slot) (i : Nat), (frzFrom oc n ρ)[i]? = (ρ[i]?).map fun s => s.frz (oc.contains (n + i))
 | _, _, [], _ => rfl
 | oc, n, s :: r, 0 => by simp [frzFrom]
 | oc, n, s :: r, i + 1 => by
  have := frz_get oc (n + 1) r i
  simp only [frzFrom, List.getElem?_cons_succ]
  rw [this, show n + 1 + i = n + (i + 1) by omega]
theorem frz_len : ∀ (oc : List Nat) (n : Nat) (ρ : List Slot), (frzFrom oc n ρ).length = ρ.length
 | _, _, [] => rfl
 | oc, n, s :: r => by simp [frzFrom, frz_len oc (n + 1) r]
theorem frz_no : ∀ {oc : List Nat} {n : Nat} {ρ : List Slot}, owFrom oc n ρ = false -> frzFrom oc n ρ = ρ
 | _, _, [], _ => rfl
 | oc, n, s :: r, h => by
  have h : ((s.isOw && oc.contains n) || owFrom oc (n + 1) r) = false := by rw [Bool.and_comm]; exact h
  rw [Bool.or_eq_false_iff] at h
  show s.frz (oc.contains n) :: frzFrom oc (n + 1) r = s :: r
  rw [frz_no h.2]
  cases s with
  | ow d =>
   have h1 : oc.contains n = false := by simpa [Slot.isOw] using h.1
   rw [h1]
   rfl
  | no => cases oc.contains n <;> rfl
  | sh d => cases oc.contains n <;> rfl
theorem frz_sh {oc : List Nat} {ρ : List Slot} {i : Nat} {d : D} (h : (frzO oc ρ)[i]? = some (.sh d)) : ρ[i]? = some (.sh d) \/ (ρ[i]? = some (.ow d) /\ oc.contains i = true) := by
 unfold frzO at h
 rw [frz_get, Nat.zero_add] at h
 cases q : ρ[i]? with
 | none => rw [q] at h; cases h
 | some s =>
  rw [q] at h
  cases s with
  | no => cases hc : oc.contains i <;> (rw [hc] at h; cases h)
  | sh e => cases hc : oc.contains i <;> (rw [hc] at h; cases h; exact .inl rfl)
  | ow e =>
   cases hc : oc.contains i with
   | true => rw [hc] at h; cases h; exact .inr ⟨rfl, rfl⟩
   | false => rw [hc] at h; cases h
theorem frz_ow {oc : List Nat} {ρ : List Slot} {i : Nat} {d : D} (h : (frzO oc ρ)[i]? = some (.ow d)) : ρ[i]? = some (.ow d) /\ oc.contains i = false := by
 unfold frzO at h
 rw [frz_get, Nat.zero_add] at h
 cases q : ρ[i]? with
 | none => rw [q] at h; cases h
 | some s =>
  rw [q] at h
  cases s with
  | no => cases hc : oc.contains i <;> (rw [hc] at h; cases h)
  | sh e => cases hc : oc.contains i <;> (rw [hc] at h; cases h)
  | ow e =>
   cases hc : oc.contains i with
   | true => rw [hc] at h; cases h
   | false => rw [hc] at h; cases h; exact ⟨rfl, rfl⟩
noncomputable def OwnA (oc : List Nat) (ρ : List Slot) (σ : L2.St) (a : Addr) : Prop := ∃ i d, oc.contains i = true /\ ρ[i]? = some (.ow d) /\ σ[i]? = some (some (.ref a))
noncomputable instance ownDec (oc : List Nat) (ρ : List Slot) (σ : L2.St) (a : Addr) : Decidable (OwnA oc ρ σ a) := Classical.propDecidable _
noncomputable def gF (oc : List Nat) (ρ : List Slot) (σ : L2.St) (H : Hp) (g : G) : G := { g with R := fun a => if OwnA oc ρ σ a then H a else g.R a }
noncomputable def gK (oc : List Nat) (ρ : List Slot) (σ : L2.St) (g g' : G) : G := { R := fun a => if OwnA oc ρ σ a then none else g'.R a, α := g.α }
section
variable {Γ : Gm} {H₀ H H' : Hp} {g₀ g g' : G} {S S' : Store} {ρ : List Slot} {σ : L2.St} {oc : List Nat}
theorem own_off (env : EnvO Γ H₀ H g ρ σ) {a : Addr} (h : OwnA oc ρ σ a) : H₀ a = none /\ g.R a = none /\ a ∉ g.α /\ ∃ o, H a = some o /\ Mut (some o) := by
 obtain ⟨i, d, _, h1, h2⟩ := h
 obtain ⟨b, e1, e2, e3, e4, e5, _⟩ := env.ow i d h1
 rw [h2] at e1
 cases e1
 exact ⟨e2, e3, e4, e5.isMut⟩
theorem gF_le (env : EnvO Γ H₀ H g ρ σ) : Le g (gF oc ρ σ H g) := ⟨fun a o h => by
 show (if OwnA oc ρ σ a then H a else g.R a) = some o
 rw [if_neg fun q => by rw [(own_off env q).2.1] at h; cases h]
 exact h, fun _ _ h => h⟩
theorem gF_R {a : Addr} (h : OwnA oc ρ σ a) : (gF oc ρ σ H g).R a = H a := if_pos h
theorem gF_n {a : Addr} (h : ¬ OwnA oc ρ σ a) : (gF oc ρ σ H g).R a = g.R a := if_neg h
theorem gF_wok (w : WOk Γ H g S) (env : EnvO Γ H₀ H g ρ σ) : WOk Γ H (gF oc ρ σ H g) S where
 rh := fun a o h => by
  by_cases q : OwnA oc ρ σ a
  ·rw [gF_R q] at h; exact h
  ·rw [gF_n q] at h; exact w.rh a o h
 len := w.len
 nd := w.nd
 off := fun a ha => by
  by_cases q : OwnA oc ρ σ a
  ·exact absurd ha (own_off env q).2.2.1
  ·rw [gF_n q]; exact w.off a ha
 cell := fun k c a h1 h2 => (w.cell k c a h1 h2).mono (gF_le env) fun _ q => q
theorem gF_step (st : Step H₀ g₀ H g) (env : EnvO Γ H₀ H g ρ σ) : Step H₀ g₀ H (gF oc ρ σ H g) where
 le := st.le.trans (gF_le env)
 fr := st.fr
 ex := st.ex
 na := st.na
 nr := fun a h => by
  by_cases q : OwnA oc ρ σ a
  ·exact .inr (own_off env q).1
  ·rw [gF_n q] at h; exact st.nr a h
theorem has_own {a : Addr} {d : D} (env : EnvO Γ H₀ H g ρ σ) (q : OwnA oc ρ σ a) (hc : CellOk Γ H g a d) (hi : isIns d = false) : Has Γ (gF oc ρ σ H g) d (.ref a) := by
 obtain ⟨o, ho, _⟩ := hc.isMut
 have hr : (gF oc ρ σ H g).R a = some o := (gF_R q).trans ho
 have le := gF_le (oc := oc) env
 cases d with
 | lst ds => obtain ⟨vs, h1, h2⟩ := hc; rw [h1] at ho; cases ho; exact ⟨a, vs, rfl, hr, h2.mono le⟩
 | dK ks ds => obtain ⟨vs, h1, h3, h2⟩ := hc; rw [h1] at ho; cases ho; exact ⟨a, vs, rfl, hr, h3, h2.mono le⟩
 | dT ks ds => obtain ⟨vs, h1, h3, h2⟩ := hc; rw [h1] at ho; cases ho; exact ⟨a, vs, rfl, hr, h3, h2.mono le⟩
 | non => exact hc.elim
 | bl => exact hc.elim
 | int => exact hc.elim
 | str => exact hc.elim
 | tup => exact hc.elim
 | ref => exact hc.elim
 | fn => exact hc.elim
 | scr => exact hc.elim
 | ktp => exact hc.elim
theorem gF_env (env : EnvO Γ H₀ H g ρ σ) : EnvD Γ (gF oc ρ σ H g) (visO oc ρ) σ := by
 refine ⟨by unfold visO; rw [vis_len]; exact env.len, fun i d h => ?_⟩
 unfold visO at h
 rw [vis_get, Nat.zero_add] at h
 cases q : ρ[i]? with
 | none => rw [q] at h; cases h
 | some s =>
  rw [q] at h
  cases s with
  | no => cases h
  | sh e =>
   cases h
   obtain ⟨v, h1, h2⟩ := env.sh i d q
   exact ⟨v, h1, h2.mono (gF_le env)⟩
  | ow e =>
   cases hc : oc.contains i with
   | false => rw [hc] at h; cases h
   | true =>
    rw [hc] at h
    cases h
    obtain ⟨a, h1, h2, h3, h4, h5, h6⟩ := env.ow i d q
    exact ⟨.ref a, h1, has_own env ⟨i, d, hc, q, h1⟩ h5 h6⟩
theorem env_frz (env : EnvO Γ H₀ H g ρ σ) (st : Step H (gF oc ρ σ H g) H' g') : EnvO Γ H₀ H' g' (frzO oc ρ) σ := by
 refine ⟨by unfold frzO; rw [frz_len]; exact env.len, fun i d h => ?_, fun i d h => ?_, fun i j d e a h1 h2 h3 h4 => env.inj i j d e a (frz_ow h1).1 (frz_ow h2).1 h3 h4⟩
 ·rcases frz_sh h with q | ⟨q, hc⟩
  ·obtain ⟨v, h1, h2⟩ := env.sh i d q
   exact ⟨v, h1, (h2.mono (gF_le env)).mono st.le⟩
  ·obtain ⟨a, h1, h2, h3, h4, h5, h6⟩ := env.ow i d q
   exact ⟨.ref a, h1, (has_own env ⟨i, d, hc, q, h1⟩ h5 h6).mono st.le⟩
 ·obtain ⟨q, hc⟩ := frz_ow h
  obtain ⟨a, h1, h2, h3, h4, h5, h6⟩ := env.ow i d q
  obtain ⟨o, ho, _⟩ := h5.isMut
  have nO : ¬ OwnA oc ρ σ a := fun ⟨j, e, hj, hj1, hj2⟩ => by
   have := env.inj i j d e a q hj1 h1 hj2
   subst this
   rw [hc] at hj; cases hj
  obtain ⟨k1, k2, k3⟩ := st.kept ho (by rw [gF_n nO]; exact h3) h4
  exact ⟨a, h1, h2, k2, k3, (h5.mono (gF_le env) fun _ z => z).mono st.le fun o' z => by rw [ho] at z; cases z; exact k1, h6⟩
theorem gK_le (w : WOk Γ H g S) (env : EnvO Γ H₀ H g ρ σ) (st : Step H (gF oc ρ σ H g) H' g') : Le g (gK oc ρ σ g g') := ⟨fun a o h => by
 show (if OwnA oc ρ σ a then none else g'.R a) = some o
 rw [if_neg fun q => by rw [(own_off env q).2.1] at h; cases h]
 exact st.le.rr _ _ ((gF_le env).rr _ _ h), fun _ _ h => h⟩
theorem gK_wok (w : WOk Γ H g S) (env : EnvO Γ H₀ H g ρ σ) (st : Step H (gF oc ρ σ H g) H' g') (w' : WOk Γ H' g' S') (sm : Same H H') : WOk Γ H' (gK oc ρ σ g g') S where
 rh := fun a o h => by
  have h : (if OwnA oc ρ σ a then none else g'.R a) = some o := h
  split at h
  ·cases h
  ·exact w'.rh a o h
 len := w.len
 nd := w.nd
 off := fun a ha => by
  have ha : a ∈ g.α := ha
  show (if OwnA oc ρ σ a then none else g'.R a) = none
  split
  ·rfl
  ·rename_i q
   cases e : g'.R a with
   | none => rfl
   | some o =>
    rcases st.nr a (by rw [e]; simp) with z | z
    ·rw [gF_n q, w.off a ha] at z; exact absurd rfl z
    ·obtain ⟨k, hk, e2⟩ := List.getElem_of_mem ha
     have hk' : k < S.length := by rw [<- w.len]; exact hk
     obtain ⟨o', ho, _⟩ := (w.cell k _ a (List.getElem?_eq_getElem hk') (by rw [List.getElem?_eq_getElem hk, e2])).isMut
     rw [ho] at z; cases z
 cell := fun k c a h1 h2 => (w.cell k c a h1 h2).mono (gK_le w env st) fun o q => sm a o q
theorem gK_step (st0 : Step H₀ g₀ H g) (w : WOk Γ H g S) (env : EnvO Γ H₀ H g ρ σ) (st : Step H (gF oc ρ σ H g) H' g') (sm : Same H H') : Step H₀ g₀ H' (gK oc ρ σ g g') where
 le := st0.le.trans (gK_le w env st)
 fr := fun a o h n => sm a o (st0.fr a o h n)
 ex := fun a o h => let ⟨o1, h1⟩ := st0.ex a o h; ⟨o1, sm a o1 h1⟩
 na := st0.na
 nr := fun a h => by
  have h : (if OwnA oc ρ σ a then none else g'.R a) ≠ none := h
  split at h
  ·exact absurd rfl h
  ·rename_i q
   rcases st.nr a h with z | z
   ·rw [gF_n q] at z; exact st0.nr a z
   ·exact .inr (st0.noneOf z)
theorem gK_env (w : WOk Γ H g S) (env : EnvO Γ H₀ H g ρ σ) (st : Step H (gF oc ρ σ H g) H' g') (sm : Same H H') : EnvO Γ H₀ H' (gK oc ρ σ g g') ρ σ := by
 refine ⟨env.len, fun i d h => ?_, fun i d h => ?_, env.inj⟩
 ·obtain ⟨v, h1, h2⟩ := env.sh i d h
  exact ⟨v, h1, h2.mono (gK_le w env st)⟩
 ·obtain ⟨a, h1, h2, h3, h4, h5, h6⟩ := env.ow i d h
  refine ⟨a, h1, h2, ?_, h4, h5.mono (gK_le w env st) fun o q => sm a o q, h6⟩
  show (if OwnA oc ρ σ a then none else g'.R a) = none
  split
  ·rfl
  ·rename_i q
   obtain ⟨o, ho, _⟩ := h5.isMut
   exact (st.kept ho (by rw [gF_n q]; exact h3) h4).2.1
theorem gK_leT (env : EnvO Γ H₀ H g ρ σ) (w' : WOk Γ H' g' S') (sm : Same H H') : LeT Γ.K g' (gK oc ρ σ g g') := ⟨fun a xs h => by
 show (if OwnA oc ρ σ a then none else g'.R a) = _
 rw [if_neg fun q => ?_]
 ·exact h
 ·obtain ⟨_, _, _, o, ho, hm⟩ := own_off env q
  have e1 := sm a o ho
  rw [w'.rh a _ h] at e1
  cases e1
  exact hm⟩
theorem gK_val {d : D} {fr : Bool} {v : V} (env : EnvO Γ H₀ H g ρ σ) (st0 : Step H₀ g₀ H g) (st : Step H (gF oc ρ σ H g) H' g') (w' : WOk Γ H' g' S') (sm : Same H H') (vo : VOk Γ H d fr v H' g') (hc : clean d fr = true) : VOk Γ H₀ d fr v H' (gK oc ρ σ g g') := by
 have le := gK_leT (oc := oc) env w' sm
 cases fr with
 | false => exact has_monoT le d v hc vo
 | true =>
  obtain ⟨a, e, h0, hr, ha, hcell⟩ := (show ∃ a, v = .ref a /\ H a = none /\ g'.R a = none /\ a ∉ g'.α /\ CellOk Γ H' g' a d from vo)
  refine ⟨a, e, st0.noneOf h0, ?_, fun m => ?_, ?_⟩
  ·show (if OwnA oc ρ σ a then none else g'.R a) = none
   split
   ·rfl
   ·exact hr
  ·have m : a ∈ g.α := m
   obtain ⟨k, hk, e2⟩ := List.getElem_of_mem m
   have := st.le.aa k a (by show g.α[k]? = some a; rw [List.getElem?_eq_getElem hk, e2])
   exact ha (List.mem_of_getElem? this)
  ·cases d with
   | lst ds => obtain ⟨vs, h1, h2⟩ := hcell; exact ⟨vs, h1, hass_monoT le ds vs hc h2⟩
   | dK ks ds => obtain ⟨vs, h1, h3, h2⟩ := hcell; exact ⟨vs, h1, h3, hass_monoT le ds vs hc h2⟩
   | dT ks ds => obtain ⟨vs, h1, h3, h2⟩ := hcell; exact ⟨vs, h1, h3, hass_monoT le ds vs hc h2⟩
   | non => exact hcell.elim
   | bl => exact hcell.elim
   | int => exact hcell.elim
   | str => exact hcell.elim
   | tup => exact hcell.elim
   | ref => exact hcell.elim
   | fn => exact hcell.elim
   | scr => exact hcell.elim
   | ktp => exact hcell.elim
end
noncomputable def kU (Γ : Gm) (H₀ : Hp) (g₀ g : G) (σ : L2.St) (Q : VK) : R ((D × Bool) × List Slot) -> Prop
 | .ok p S' => ∀ v H' g', Step H₀ g₀ H' g' -> Le g g' -> WOk Γ H' g' S' -> EnvO Γ H₀ H' g' p.2 σ -> VOk Γ H₀ p.1.1 p.1.2 v H' g' -> (p.1.2 = true -> ∀ (i : Nat) (d : D), p.2[i]? = some (.ow d) -> σ[i]? ≠ some (some v)) -> Q v H'
 | _ => False
noncomputable def tU (Γ : Gm) (H₀ : Hp) (g₀ : G) (ρ : List Slot) (S : Store) (r : R ((D × Bool) × List Slot)) : TE := fun σ H Q => ∃ g, Step H₀ g₀ H g /\ WOk Γ H g S /\ EnvO Γ H₀ H g ρ σ /\ kU Γ H₀ g₀ g σ Q r
noncomputable def kUB (Γ : Gm) (H₀ : Hp) (g₀ g : G) (σ : L2.St) (Q : Bool -> Hp -> Prop) : R (Bool × List Slot) -> Prop
 | .ok p S' => ∀ H' g', Step H₀ g₀ H' g' -> Le g g' -> WOk Γ H' g' S' -> EnvO Γ H₀ H' g' p.2 σ -> Q p.1 H'
 | _ => False
noncomputable def tUB (Γ : Gm) (H₀ : Hp) (g₀ : G) (ρ : List Slot) (S : Store) (r : R (Bool × List Slot)) : TT := fun σ H Q => ∃ g, Step H₀ g₀ H g /\ WOk Γ H g S /\ EnvO Γ H₀ H g ρ σ /\ kUB Γ H₀ g₀ g σ Q r
noncomputable def kUI (Γ : Gm) (H₀ : Hp) (g₀ g : G) (σ : L2.St) (Q : It -> Hp -> Prop) : R (List D × List Slot) -> Prop
 | .ok p S' => ∀ J H' g', Step H₀ g₀ H' g' -> Le g g' -> WOk Γ H' g' S' -> EnvO Γ H₀ H' g' p.2 σ -> ItOk Γ J p.1 g' -> Q J H'
 | _ => False
noncomputable def tUI (Γ : Gm) (H₀ : Hp) (g₀ : G) (ρ : List Slot) (S : Store) (r : R (List D × List Slot)) : TI := fun σ H Q => ∃ g, Step H₀ g₀ H g /\ WOk Γ H g S /\ EnvO Γ H₀ H g ρ σ /\ kUI Γ H₀ g₀ g σ Q r
section
variable {X : Cx} {Γ : Gm} {H₀ : Hp} {g₀ : G} {ρ : List Slot} {S : Store} {cf : Cf} {e : E} {x tgt : Expr}
theorem new_ne {H H' : Hp} {g g' : G} {σ : L2.St} {d : D} {v : V} (env : EnvO Γ H₀ H g ρ σ) (vo : VOk Γ H d true v H' g') : ∀ (i : Nat) (d' : D), ρ[i]? = some (.ow d') -> σ[i]? ≠ some (some v) := by
 intro i d' h q
 obtain ⟨a, e, h0, _⟩ := (show ∃ a, v = .ref a /\ H a = none /\ g'.R a = none /\ a ∉ g'.α /\ CellOk Γ H' g' a d from vo)
 subst e
 obtain ⟨b, h1, _, _, _, h5, _⟩ := env.ow i d' h
 rw [q] at h1
 cases h1
 obtain ⟨o, ho, _⟩ := h5.isMut
 rw [ho] at h0; cases h0
theorem use_imp {σ : L2.St} {H : Hp} {Q : VK} (h : tU Γ H₀ g₀ ρ S (useE cf ρ e S) σ H Q) : tE Γ (visO (occ e) ρ) S (isPure e) (ev cf (visO (occ e) ρ) e S) σ H Q := by
 obtain ⟨g, st0, w, env, kk⟩ := h
 refine ⟨gF (occ e) ρ σ H g, gF_wok w env, gF_env env, ?_⟩
 have kk : kU Γ H₀ g₀ g σ Q (M.bind (ev cf (visO (occ e) ρ) e) (fun x => if owFrom (occ e) 0 ρ = true then (if isPure e && clean x.1 x.2 then M.bind (M.put S) fun _ => M.pure (x, ρ) else M.pure (x, frzO (occ e) ρ)) else M.pure (x, ρ)) S) := kk
 rw [bind_app] at kk
 cases er : ev cf (visO (occ e) ρ) e S with
 | err => rw [er] at kk; exact kk.elim
 | exc c S' => rw [er] at kk; exact kk.elim
 | ok p S1 =>
  rw [er] at kk
  obtain ⟨d, fr⟩ := p
  have kk : kU Γ H₀ g₀ g σ Q ((if owFrom (occ e) 0 ρ = true then (if (isPure e && clean d fr) = true then M.bind (M.put S) fun _ => M.pure ((d, fr), ρ) else M.pure ((d, fr), frzO (occ e) ρ)) else M.pure ((d, fr), ρ)) S1) := kk
  have back : kU Γ H₀ g₀ g σ Q (M.pure ((d, fr), frzO (occ e) ρ) S1) -> kE Γ H (gF (occ e) ρ σ H g) (isPure e) Q (.ok (d, fr) S1) := fun kk v H' g' st hp w' vo => by
   refine kk v H' g' ((gF_step st0 env).trans st) ((gF_le env).trans st.le) w' (env_frz env st) (vo.back st0) fun hf i d' hi => ?_
   have hf : fr = true := hf
   subst hf
   exact new_ne env vo i d' (frz_ow hi).1
  cases ho : owFrom (occ e) 0 ρ with
  | false =>
   rw [ho] at kk
   refine back ?_
   unfold frzO
   rw [frz_no ho]
   exact kk
  | true =>
  rw [ho] at kk
  have kk : kU Γ H₀ g₀ g σ Q ((if (isPure e && clean d fr) = true then M.bind (M.put S) fun _ => M.pure ((d, fr), ρ) else M.pure ((d, fr), frzO (occ e) ρ)) S1) := kk
  intro v H' g' st hp w' vo
  by_cases hc : (isPure e && clean d fr) = true
  ·rw [if_pos hc] at kk
   rw [Bool.and_eq_true] at hc
   have sm := hp hc.1
   exact kk v H' (gK (occ e) ρ σ g g') (gK_step st0 w env st sm) (gK_le w env st) (gK_wok w env st w' sm) (gK_env w env st sm) (gK_val env st0 st w' sm vo hc.2) fun hf => by
    have hf : fr = true := hf
    subst hf
    exact new_ne env vo
  ·rw [if_neg hc] at kk
   exact back kk v H' g' st hp w' vo
theorem s_use (h : PE X x (tE Γ (visO (occ e) ρ) S (isPure e) (ev cf (visO (occ e) ρ) e S))) : PE X x (tU Γ H₀ g₀ ρ S (useE cf ρ e S)) := h.imp fun σ H Q => use_imp
theorem s_useB (h : PT X x (tB Γ (visO (occ e) ρ) S (isPure e) (evB cf (visO (occ e) ρ) e S))) : PT X x (tUB Γ H₀ g₀ ρ S (useB cf ρ e S)) := by
 refine h.imp fun σ H Q ⟨g, st0, w, env, kk⟩ => ⟨gF (occ e) ρ σ H g, gF_wok w env, gF_env env, ?_⟩
 have kk : kUB Γ H₀ g₀ g σ Q (M.bind (M.bind (ev cf (visO (occ e) ρ) e) (fun x => if owFrom (occ e) 0 ρ = true then (if isPure e && clean x.1 x.2 then M.bind (M.put S) fun _ => M.pure (x, ρ) else M.pure (x, frzO (occ e) ρ)) else M.pure (x, ρ))) (fun p => M.bind (asB p.1) fun b => M.pure (b, p.2)) S) := kk
 rw [bind_bind, bind_app] at kk
 unfold evB
 rw [bind_app]
 cases er : ev cf (visO (occ e) ρ) e S with
 | err => rw [er] at kk; exact kk.elim
 | exc c S' => rw [er] at kk; exact kk.elim
 | ok p S1 =>
  rw [er] at kk
  obtain ⟨d, fr⟩ := p
  have kk : kUB Γ H₀ g₀ g σ Q (M.bind (if owFrom (occ e) 0 ρ = true then (if (isPure e && clean d fr) = true then M.bind (M.put S) fun _ => M.pure ((d, fr), ρ) else M.pure ((d, fr), frzO (occ e) ρ)) else M.pure ((d, fr), ρ)) (fun p => M.bind (asB p.1) fun b => M.pure (b, p.2)) S1) := kk
  cases ho : owFrom (occ e) 0 ρ with
  | false =>
   rw [ho] at kk
   have kk : kUB Γ H₀ g₀ g σ Q (M.bind (M.pure ((d, fr), ρ)) (fun p => M.bind (asB p.1) fun b => M.pure (b, p.2)) S1) := kk
   cases d with
   | bl b =>
    intro H' g' st hp w'
    have e3 : frzO (occ e) ρ = ρ := frz_no ho
    have en := env_frz env st
    rw [e3] at en
    have kk2 : kUB Γ H₀ g₀ g σ Q (.ok (b, ρ) S1) := kk
    exact kk2 H' g' ((gF_step st0 env).trans st) ((gF_le env).trans st.le) w' en
   | _ => exact kk.elim
  | true =>
  rw [ho] at kk
  have kk : kUB Γ H₀ g₀ g σ Q (M.bind (if (isPure e && clean d fr) = true then M.bind (M.put S) fun _ => M.pure ((d, fr), ρ) else M.pure ((d, fr), frzO (occ e) ρ)) (fun p => M.bind (asB p.1) fun b => M.pure (b, p.2)) S1) := kk
  cases d with
  | bl b =>
   intro H' g' st hp w'
   by_cases hc : (isPure e && clean (.bl b) fr) = true
   ·rw [if_pos hc] at kk
    rw [Bool.and_eq_true] at hc
    have sm := hp hc.1
    exact kk H' (gK (occ e) ρ σ g g') (gK_step st0 w env st sm) (gK_le w env st) (gK_wok w env st w' sm) (gK_env w env st sm)
   ·rw [if_neg hc] at kk
    exact kk H' g' ((gF_step st0 env).trans st) ((gF_le env).trans st.le) w' (env_frz env st)
  | _ =>
   split at kk <;> exact kk.elim
theorem s_useI (h : PI X tgt x (tI Γ (visO (occ e) ρ) S (isPure e) (evI cf (visO (occ e) ρ) e S))) : PI X tgt x (tUI Γ H₀ g₀ ρ S (useI cf ρ e S)) := by
 refine PI.imp h fun σ H Q ⟨g, st0, w, env, kk⟩ => ⟨gF (occ e) ρ σ H g, gF_wok w env, gF_env env, ?_⟩
 have kk : kUI Γ H₀ g₀ g σ Q (M.bind (evI cf (visO (occ e) ρ) e) (fun l => M.pure (l, frzO (occ e) ρ)) S) := kk
 rw [bind_app] at kk
 cases er : evI cf (visO (occ e) ρ) e S with
 | err => rw [er] at kk; exact kk.elim
 | exc c S' => rw [er] at kk; exact kk.elim
 | ok l S1 =>
  rw [er] at kk
  exact fun J H' g' st hp w' hJ => kk J H' g' ((gF_step st0 env).trans st) ((gF_le env).trans st.le) w' (env_frz env st) hJ
end
end EV
namespace EV
open PySem PySem.Spec PyProof.Rows L2
noncomputable def kS (Γ : Gm) (H₀ : Hp) (g₀ g : G) (E : Ends) : R O -> Prop
 | .ok (.next ρ') S' => ∀ σ' H' g', Step H₀ g₀ H' g' -> Le g g' -> WOk Γ H' g' S' -> EnvO Γ H₀ H' g' ρ' σ' -> E.nx σ' H'
 | .ok (.ret d fr) S' => ∀ v H' g', Step H₀ g₀ H' g' -> Le g g' -> WOk Γ H' g' S' -> VOk Γ H₀ d fr v H' g' -> E.rt v H'
 | .ok (.brk ρ') S' => ∀ σ' H' g', Step H₀ g₀ H' g' -> Le g g' -> WOk Γ H' g' S' -> EnvO Γ H₀ H' g' ρ' σ' -> E.bk σ' H'
 | .ok (.cnt ρ') S' => ∀ σ' H' g', Step H₀ g₀ H' g' -> Le g g' -> WOk Γ H' g' S' -> EnvO Γ H₀ H' g' ρ' σ' -> E.ct σ' H'
 | _ => False
noncomputable def tS (Γ : Gm) (H₀ : Hp) (g₀ : G) (ρ : List Slot) (S : Store) (r : R O) : TS := fun E σ H => ∃ g, Step H₀ g₀ H g /\ WOk Γ H g S /\ EnvO Γ H₀ H g ρ σ /\ kS Γ H₀ g₀ g E r
theorem kS_le {Γ : Gm} {H₀ : Hp} {g₀ g g1 : G} {E : Ends} {r : R O} (le : Le g g1) (h : kS Γ H₀ g₀ g E r) : kS Γ H₀ g₀ g1 E r := by
 cases r with
 | err => exact h
 | exc c S' => exact h
 | ok o S' =>
  cases o with
  | next ρ' => exact fun σ' H' g' st l w env => h σ' H' g' st (le.trans l) w env
  | ret d fr => exact fun v H' g' st l w vo => h v H' g' st (le.trans l) w vo
  | brk ρ' => exact fun σ' H' g' st l w env => h σ' H' g' st (le.trans l) w env
  | cnt ρ' => exact fun σ' H' g' st l w env => h σ' H' g' st (le.trans l) w env
section
variable {X : Cx} {Γ : Gm} {H₀ : Hp} {g₀ : G} {ρ : List Slot} {S : Store} {st : Stmt} {sts aa bb : List Stmt} {x y z tgt : Expr} {pos p : Pos}
theorem ps_err : PS X st (tS Γ H₀ g₀ ρ S .err) := fun _ _ _ _ _ _ ⟨_, _, _, _, h⟩ => h.elim
theorem ps_exc {c : Nat} {S' : Store} : PS X st (tS Γ H₀ g₀ ρ S (.exc c S')) := fun _ _ _ _ _ _ ⟨_, _, _, _, h⟩ => h.elim
theorem pss_err : PSs X sts (tS Γ H₀ g₀ ρ S .err) := fun _ _ _ _ _ _ ⟨_, _, _, _, h⟩ => h.elim
theorem pss_exc {c : Nat} {S' : Store} : PSs X sts (tS Γ H₀ g₀ ρ S (.exc c S')) := fun _ _ _ _ _ _ ⟨_, _, _, _, h⟩ => h.elim
theorem s_pass : PS X (.Pass pos) (tS Γ H₀ g₀ ρ S (.ok (.next ρ) S)) := ps_pass.imp fun E σ H ⟨g, st, w, env, k⟩ => k σ H g st (Le.refl g) w env
theorem s_brk : PS X (.Break pos) (tS Γ H₀ g₀ ρ S (.ok (.brk ρ) S)) := ps_break.imp fun E σ H ⟨g, st, w, env, k⟩ => k σ H g st (Le.refl g) w env
theorem s_cnt : PS X (.Continue pos) (tS Γ H₀ g₀ ρ S (.ok (.cnt ρ) S)) := ps_continue.imp fun E σ H ⟨g, st, w, env, k⟩ => k σ H g st (Le.refl g) w env
theorem s_snil : PSs X [] (tS Γ H₀ g₀ ρ S (.ok (.next ρ) S)) := pss_nil.imp fun E σ H ⟨g, st, w, env, k⟩ => k σ H g st (Le.refl g) w env
theorem s_scons {m : M O} {ms : List Slot -> M O} (h1 : PS X st (tS Γ H₀ g₀ ρ S (m S))) (h2 : ∀ ρ S, PSs X sts (tS Γ H₀ g₀ ρ S (ms ρ S))) : PSs X (st :: sts) (tS Γ H₀ g₀ ρ S (M.bind m (fun o => match o with
  | .next ρ' => ms ρ'
  | o => M.pure o) S)) := by
 rw [bind_app]
 cases e : m S with
 | err => exact pss_err
 | exc c S' => exact pss_exc
 | ok o S1 =>
  cases o with
  | next ρ' =>
   refine (pss_cons h1 (h2 ρ' S1)).imp fun E σ H ⟨g, st, w, env, k⟩ => ⟨g, st, w, env, ?_⟩
   rw [e]
   exact fun σ' H' g' st' le w' env' => ⟨g', st', w', env', kS_le le k⟩
  | ret d fr =>
   refine (pss_cons h1 (pss_never (sts := sts))).imp fun E σ H ⟨g, st, w, env, k⟩ => ⟨g, st, w, env, ?_⟩
   rw [e]
   exact k
  | brk ρ' =>
   refine (pss_cons h1 (pss_never (sts := sts))).imp fun E σ H ⟨g, st, w, env, k⟩ => ⟨g, st, w, env, ?_⟩
   rw [e]
   exact k
  | cnt ρ' =>
   refine (pss_cons h1 (pss_never (sts := sts))).imp fun E σ H ⟨g, st, w, env, k⟩ => ⟨g, st, w, env, ?_⟩
   rw [e]
   exact k
theorem s_expr {m : M ((D × Bool) × List Slot)} (h : PE X x (tU Γ H₀ g₀ ρ S (m S))) (hs : swapsWith x none pos.line X.env = pure false) : PS X (.Expr x pos) (tS Γ H₀ g₀ ρ S (M.bind m (fun p => M.pure (.next p.2)) S)) := by
 rw [bind_app]
 cases e : m S with
 | err => exact ps_err
 | exc c S' => exact ps_exc
 | ok p S1 =>
  refine (ps_expr h hs).imp fun E σ H ⟨g, st, w, env, k⟩ => ⟨g, st, w, env, ?_⟩
  rw [e]
  exact fun v H' g' st' le w' env' vo ne => k σ H' g' st' le w' env'
theorem s_ret {m : M ((D × Bool) × List Slot)} (h : PE X x (tU Γ H₀ g₀ ρ S (m S))) : PS X (.Return (some x) pos) (tS Γ H₀ g₀ ρ S (M.bind m (fun p => if isIns p.1.1 then M.fail else M.pure (.ret p.1.1 p.1.2)) S)) := by
 rw [bind_app]
 cases e : m S with
 | err => exact ps_err
 | exc c S' => exact ps_exc
 | ok p S1 =>
  obtain ⟨⟨d, fr⟩, ρ'⟩ := p
  show PS X _ (tS Γ H₀ g₀ ρ S ((if isIns d = true then M.fail else M.pure (.ret d fr)) S1))
  by_cases hi : isIns d = true
  ·rw [if_pos hi]; exact ps_err
  ·rw [if_neg hi]
   refine (ps_ret h).imp fun E σ H ⟨g, st, w, env, k⟩ => ⟨g, st, w, env, ?_⟩
   rw [e]
   exact fun v H' g' st' le w' env' vo ne => k v H' g' st' le w' vo
theorem s_retv {i : Nat} {n : Str} (hN : X.N[i]? = some n) (hv : Vis X.env.scope n) (hd : (n == ("__debug__" : Str)) = false) (hcd : (n == ("__classdict__" : Str)) = false) : PS X (.Return (some (.Name n p)) pos) (tS Γ H₀ g₀ ρ S ((match ρ[i]? with
    | some (.sh d) => M.pure (O.ret d false)
    | some (.ow d) => M.pure (O.ret d true)
    | _ => M.fail) S)) := by
  cases e : ρ[i]? with
  | none => exact ps_err
  | some s =>
    cases s with
    | no => exact ps_err
    | sh d =>
      refine (ps_ret (pe_var hN hv hd hcd)).imp fun E σ H ⟨g, st, w, env, k⟩ => ?_
      obtain ⟨v, h1, h2⟩ := env.sh i d e
      exact ⟨v, h1, k v H g st (Le.refl g) w h2⟩
    | ow d =>
      refine (ps_ret (pe_var hN hv hd hcd)).imp fun E σ H ⟨g, st, w, env, k⟩ => ?_
      obtain ⟨a, h1, h2, h3, h4, h5, h6⟩ := env.ow i d e
      exact ⟨.ref a, h1, k _ H g st (Le.refl g) w ⟨a, rfl, h2, h3, h4, h5⟩⟩
theorem s_retN : PS X (.Return none pos) (tS Γ H₀ g₀ ρ S (.ok (.ret .non false) S)) := ps_retN.imp fun E σ H ⟨g, st, w, env, k⟩ => k .non H g st (Le.refl g) w rfl
theorem s_if {m : M (Bool × List Slot)} {ma mb : List Slot -> M O} (h : PT X x (tUB Γ H₀ g₀ ρ S (m S))) (ha : ∀ ρ S, PSs X aa (tS Γ H₀ g₀ ρ S (ma ρ S))) (hb : ∀ ρ S, PSs X bb (tS Γ H₀ g₀ ρ S (mb ρ S))) :
  PS X (.If x aa bb pos) (tS Γ H₀ g₀ ρ S (M.bind m (fun p => if p.1 = true then ma p.2 else mb p.2) S)) := by
 rw [bind_app]
 cases e : m S with
 | err => exact ps_err
 | exc c S' => exact ps_exc
 | ok p S1 =>
  obtain ⟨b, ρ'⟩ := p
  cases b with
  | true =>
   refine (ps_if h (ha ρ' S1) (pss_never (sts := bb))).imp fun E σ H ⟨g, st, w, env, k⟩ => ⟨g, st, w, env, ?_⟩
   rw [e]
   exact fun H' g' st' le w' env' => iteT ⟨g', st', w', env', kS_le le k⟩
  | false =>
   refine (ps_if h (pss_never (sts := aa)) (hb ρ' S1)).imp fun E σ H ⟨g, st, w, env, k⟩ => ⟨g, st, w, env, ?_⟩
   rw [e]
   exact fun H' g' st' le w' env' => iteF ⟨g', st', w', env', kS_le le k⟩
theorem set_get {α : Type} {l : List α} {i j : Nat} {a b : α} : (l.set i a)[j]? = some b -> (i = j /\ i < l.length /\ b = a) \/ (i ≠ j /\ l[j]? = some b) := by
 intro h
 by_cases e : i = j
 ·subst e
  by_cases hi : i < l.length
  ·rw [List.getElem?_set_self hi] at h
   cases h
   exact .inl ⟨rfl, hi, rfl⟩
  ·rw [List.set_eq_of_length_le (by omega)] at h
   rw [List.getElem?_eq_none (by omega)] at h
   cases h
 ·rw [List.getElem?_set_ne e] at h
  exact .inr ⟨e, h⟩
theorem EnvO.setSh {H : Hp} {g : G} {σ : L2.St} {i : Nat} {d : D} {v : V} (env : EnvO Γ H₀ H g ρ σ) (h : Has Γ g d v) : EnvO Γ H₀ H g (ρ.set i (.sh d)) (σ.set i (some v)) := by
 have hl := env.len
 refine ⟨by simp [hl], fun j e q => ?_, fun j e q => ?_, fun j j' e e' a q1 q2 q3 q4 => ?_⟩
 ·rcases set_get q with ⟨rfl, h1, h2⟩ | ⟨h1, h2⟩
  ·cases h2
   exact ⟨v, List.getElem?_set_self (by omega), h⟩
  ·obtain ⟨u, e1, e2⟩ := env.sh j e h2
   exact ⟨u, by rw [List.getElem?_set_ne h1]; exact e1, e2⟩
 ·rcases set_get q with ⟨rfl, h1, h2⟩ | ⟨h1, h2⟩
  ·cases h2
  ·obtain ⟨a, e1, e2⟩ := env.ow j e h2
   exact ⟨a, by rw [List.getElem?_set_ne h1]; exact e1, e2⟩
 ·rcases set_get q1 with ⟨rfl, h1, h2⟩ | ⟨h1, h2⟩
  ·cases h2
  ·rcases set_get q2 with ⟨rfl, h3, h4⟩ | ⟨h3, h4⟩
   ·cases h4
   ·rw [List.getElem?_set_ne h1] at q3
    rw [List.getElem?_set_ne h3] at q4
    exact env.inj j j' e e' a h2 h4 q3 q4
theorem EnvO.setOw {H : Hp} {g : G} {σ : L2.St} {i : Nat} {d : D} {a : Addr} (env : EnvO Γ H₀ H g ρ σ) (h0 : H₀ a = none) (hr : g.R a = none) (ha : a ∉ g.α) (hc : CellOk Γ H g a d) (hi : isIns d = false)
  (ne : ∀ (j : Nat) (d' : D), ρ[j]? = some (.ow d') -> j ≠ i -> σ[j]? ≠ some (some (.ref a))) : EnvO Γ H₀ H g (ρ.set i (.ow d)) (σ.set i (some (.ref a))) := by
 have hl := env.len
 refine ⟨by simp [hl], fun j e q => ?_, fun j e q => ?_, fun j j' e e' b q1 q2 q3 q4 => ?_⟩
 ·rcases set_get q with ⟨rfl, h1, h2⟩ | ⟨h1, h2⟩
  ·cases h2
  ·obtain ⟨u, e1, e2⟩ := env.sh j e h2
   exact ⟨u, by rw [List.getElem?_set_ne h1]; exact e1, e2⟩
 ·rcases set_get q with ⟨rfl, h1, h2⟩ | ⟨h1, h2⟩
  ·cases h2
   exact ⟨a, List.getElem?_set_self (by omega), h0, hr, ha, hc, hi⟩
  ·obtain ⟨b, e1, e2⟩ := env.ow j e h2
   exact ⟨b, by rw [List.getElem?_set_ne h1]; exact e1, e2⟩
 ·rcases set_get q1 with ⟨rfl, h1, h2⟩ | ⟨h1, h2⟩
  ·rcases set_get q2 with ⟨rfl, h3, h4⟩ | ⟨h3, h4⟩
   ·rfl
   ·rw [List.getElem?_set_self (by omega)] at q3
    cases q3
    rw [List.getElem?_set_ne h3] at q4
    exact absurd q4 (ne j' e' h4 (Ne.symm h3))
  ·rcases set_get q2 with ⟨rfl, h3, h4⟩ | ⟨h3, h4⟩
   ·rw [List.getElem?_set_self (by omega)] at q4
    cases q4
    rw [List.getElem?_set_ne h1] at q3
    exact absurd q3 (ne j e h2 (Ne.symm h1))
   ·rw [List.getElem?_set_ne h1] at q3
    rw [List.getElem?_set_ne h3] at q4
    exact env.inj j j' e e' b h2 h4 q3 q4
theorem gNames_ow {Q : L2.St -> Hp -> Prop} {H : Hp} {g : G} : ∀ {is : List Nat} {ds : List D} {vs : List V} {ρ : List Slot} {σ : L2.St}, is.length = ds.length -> Hass Γ g ds vs -> EnvO Γ H₀ H g ρ σ ->
  (∀ σ', EnvO Γ H₀ H g ((is.zip ds).foldl (fun r p => r.set p.1 (.sh p.2)) ρ) σ' -> Q σ' H) -> gNames is vs σ H Q
 | [], [], vs, ρ, σ, _, h, env, q => by
  cases (show vs = [] from h)
  exact ⟨rfl, q σ env⟩
 | i :: is, d :: ds, vs, ρ, σ, hl, ⟨v, r, e, hd, hr⟩, env, q => by
  subst e
  exact ⟨v, r, rfl, gNames_ow (by simpa using hl) hr (env.setSh hd) q⟩
 | [], _ :: _, _, _, _, hl, _, _, _ => by simp at hl
 | _ :: _, [], _, _, _, hl, _, _, _ => by simp at hl
theorem tg_bind {K : PySem.W.Frag} {t : T} {ρ' : List Slot} {H : Hp} {g : G} {σ : L2.St} {d : D} {fr : Bool} {v : V} {Q : L2.St -> Hp -> Prop} (hb : bindT ρ t (d, fr) = some ρ') (env : EnvO Γ H₀ H g ρ σ) (sr : Same g.R H) (vo : VOk Γ H₀ d fr v H g)
  (ne : fr = true -> ∀ (i : Nat) (d : D), ρ[i]? = some (.ow d) -> σ[i]? ≠ some (some v)) (q : ∀ σ', EnvO Γ H₀ H g ρ' σ' -> Q σ' H) : tgOf K t v σ H Q := by
 cases t with
 | one i =>
  simp only [bindT] at hb
  split at hb
  ·rename_i hc
   rw [Bool.and_eq_true] at hc
   have hi : isIns d = false := by simpa using hc.2
   cases hb
   refine q _ ?_
   cases fr with
   | false => exact env.setSh vo
   | true =>
    obtain ⟨a, e, h0, hr, ha, hcell⟩ := (show ∃ a, v = .ref a /\ H₀ a = none /\ g.R a = none /\ a ∉ g.α /\ CellOk Γ H g a d from vo)
    subst e
    exact env.setOw h0 hr ha hcell hi fun j d' h _ => ne rfl j d' h
  ·cases hb
 | tup is =>
  cases d with
  | tup ds =>
   simp only [bindT] at hb
   split at hb
   ·rename_i hc
    cases hb
    have hv : Has Γ g (.tup ds) v := by
     cases fr with
     | false => exact vo
     | true => obtain ⟨_, _, _, _, _, hc⟩ := (show ∃ a, v = .ref a /\ H₀ a = none /\ g.R a = none /\ a ∉ g.α /\ CellOk Γ H g a (.tup ds) from vo); exact hc.elim
    obtain ⟨a, vs, rfl, h1, h2⟩ := hv
    exact ⟨a, vs, rfl, SqT.of (sr _ _ h1), by rw [h2.len, hc.1], gNames_ow hc.1 h2 env q⟩
   ·cases hb
  | _ => simp [bindT] at hb
 | nst i is =>
  have hb : ((nst2 d).bind fun p => if i < ρ.length /\ is.length = p.2.length /\ is.Nodup /\ is.all (· < ρ.length) then some ((is.zip p.2).foldl (fun r p => r.set p.1 (.sh p.2)) (ρ.set i (.sh p.1))) else none) = some ρ' := by cases d <;> exact hb
  cases e : nst2 d with
  | none => rw [e] at hb; cases hb
  | some p =>
   rw [e] at hb
   obtain ⟨y, ds⟩ := p
   have ed := nst2_is e
   subst ed
   have hb : (if i < ρ.length /\ is.length = ds.length /\ is.Nodup /\ is.all (· < ρ.length) then some ((is.zip ds).foldl (fun r p => r.set p.1 (.sh p.2)) (ρ.set i (.sh y))) else none) = some ρ' := hb
   by_cases hc : i < ρ.length /\ is.length = ds.length /\ is.Nodup /\ is.all (· < ρ.length)
   ·rw [if_pos hc] at hb
    cases hb
    have hv : Has Γ g (.tup [y, .tup ds]) v := by
     cases fr with
     | false => exact vo
     | true => obtain ⟨_, _, _, _, _, hc⟩ := (show ∃ a, v = .ref a /\ H₀ a = none /\ g.R a = none /\ a ∉ g.α /\ CellOk Γ H g a (.tup [y, .tup ds]) from vo); exact hc.elim
    obtain ⟨a, vs, rfl, h1, h2⟩ := hv
    obtain ⟨u, u2, rfl, h3, h4⟩ := h2.two
    obtain ⟨b, ws, rfl, h5, h6⟩ := h4
    exact ⟨a, _, rfl, SqT.of (sr _ _ h1), rfl, u, _, rfl, .ref b, [], rfl, b, ws, rfl, SqT.of (sr _ _ h5), by rw [h6.len, hc.2.1], gNames_ow hc.2.1 h6 (env.setSh h3) fun σ' env' => ⟨rfl, q σ' env'⟩⟩
   ·rw [if_neg hc] at hb; cases hb
theorem s_set {m : M ((D × Bool) × List Slot)} {t : T} (h : PE X x (tU Γ H₀ g₀ ρ S (m S))) (hg : PG X tgt (tgOf X.K t)) (hs : swapsWithSole [tgt] x pos.line X.env = pure false) (hw : swappedStores [tgt] x X.env = pure none) (ha : (assignEach [tgt] X.env).map (·.2) = [assign tgt X.env]) :
  PS X (.Assign [tgt] x pos) (tS Γ H₀ g₀ ρ S (M.bind m (fun p => M.bind (M.of (bindT p.2 t p.1)) fun ρ => M.pure (.next ρ)) S)) := by
 rw [bind_app]
 cases e : m S with
 | err => exact ps_err
 | exc c S' => exact ps_exc
 | ok p S1 =>
  obtain ⟨⟨d, fr⟩, ρ1⟩ := p
  show PS X _ (tS Γ H₀ g₀ ρ S (M.bind (M.of (bindT ρ1 t (d, fr))) (fun ρ => M.pure (.next ρ)) S1))
  cases eb : bindT ρ1 t (d, fr) with
  | none => exact ps_err
  | some ρ2 =>
   refine (ps_asg h hg hs hw ha).imp fun E σ H ⟨g, st, w, env, k⟩ => ⟨g, st, w, env, ?_⟩
   rw [e]
   exact fun v H' g' st' le w' env' vo ne => tg_bind eb env' w'.rh vo ne fun σ' env2 => k σ' H' g' st' le w' env2
theorem s_while {mt : List Slot -> M (Bool × List Slot)} {mb : List Slot -> M O} {n : Nat} (ht : ∀ ρ S, PT X x (tUB Γ H₀ g₀ ρ S (mt ρ S))) (hb : ∀ ρ S, PSs X aa (tS Γ H₀ g₀ ρ S (mb ρ S))) (hp : PassesOwn (model X.prog X.w) X.A X.env X.xe) :
  PS X (.While x aa [] pos) (tS Γ H₀ g₀ ρ S (whileM mt mb n ρ S)) := by
 refine (ps_while (tc := fun σ H Q => ∃ ρ S, tUB Γ H₀ g₀ ρ S (mt ρ S) σ H Q) (tb := fun E σ H => ∃ ρ S, tS Γ H₀ g₀ ρ S (mb ρ S) E σ H) hp (fun pins s σ H Q I ⟨ρ, S, q⟩ => ht ρ S pins s σ H Q I q) (fun pins s σ H E I ⟨ρ, S, q⟩ => hb ρ S pins s σ H E I q)).imp fun E σ H ⟨g, st, w, env, k⟩ => ?_
 refine ⟨fun m σ H => ∃ g1 ρ1 S1, Step H₀ g₀ H g1 /\ Le g g1 /\ WOk Γ H g1 S1 /\ EnvO Γ H₀ H g1 ρ1 σ /\ kS Γ H₀ g₀ g E (whileM mt mb m ρ1 S1), ⟨n, g, ρ, S, st, Le.refl g, w, env, k⟩, ?_⟩
 rintro m σ H ⟨g1, ρ1, S1, st1, le1, w1, env1, k1⟩
 cases m with
 | zero => exact k1.elim
 | succ m =>
  have k1 : kS Γ H₀ g₀ g E (M.bind (mt ρ1) (fun p => if p.1 = true then M.bind (mb p.2) fun o => match o with
   | .next ρ' => whileM mt mb m ρ'
   | .cnt ρ' => whileM mt mb m ρ'
   | .brk ρ' => M.pure (.next ρ')
   | .ret d fr => M.pure (.ret d fr) else M.pure (.next p.2)) S1) := k1
  rw [bind_app] at k1
  refine ⟨ρ1, S1, g1, st1, w1, env1, ?_⟩
  cases et : mt ρ1 S1 with
  | err => rw [et] at k1; exact k1.elim
  | exc c S' => rw [et] at k1; exact k1.elim
  | ok p S2 =>
   rw [et] at k1
   obtain ⟨b, ρ2⟩ := p
   intro H2 g2 st2 le2 w2 env2
   cases b with
   | false => exact iteF (k1 σ H2 g2 st2 (le1.trans le2) w2 env2)
   | true =>
    refine iteT ?_
    have k2 : kS Γ H₀ g₀ g E (M.bind (mb ρ2) (fun o => match o with
     | .next ρ' => whileM mt mb m ρ'
     | .cnt ρ' => whileM mt mb m ρ'
     | .brk ρ' => M.pure (.next ρ')
     | .ret d fr => M.pure (.ret d fr)) S2) := k1
    rw [bind_app] at k2
    refine ⟨fun σ' H' => ∃ g3 ρ3 S3, Step H₀ g₀ H' g3 /\ Le g g3 /\ WOk Γ H' g3 S3 /\ EnvO Γ H₀ H' g3 ρ3 σ' /\ kS Γ H₀ g₀ g E (whileM mt mb m ρ3 S3), fun σ' H' q => ⟨m, Nat.lt_succ_self m, q⟩, ρ2, S2, g2, st2, w2, env2, ?_⟩
    cases eb : mb ρ2 S2 with
    | err => rw [eb] at k2; exact k2.elim
    | exc c S' => rw [eb] at k2; exact k2.elim
    | ok o S3 =>
     rw [eb] at k2
     have le12 := le1.trans le2
     cases o with
     | next ρ' => exact fun σ' H' g' st' le' w' env' => ⟨g', ρ', S3, st', le12.trans le', w', env', k2⟩
     | cnt ρ' => exact fun σ' H' g' st' le' w' env' => ⟨g', ρ', S3, st', le12.trans le', w', env', k2⟩
     | brk ρ' => exact fun σ' H' g' st' le' w' env' => k2 σ' H' g' st' (le12.trans le') w' env'
     | ret d fr => exact fun v H' g' st' le' w' vo => k2 v H' g' st' (le12.trans le') w' vo
theorem env_step {H H' : Hp} {g g' : G} {σ : L2.St} (env : EnvO Γ H₀ H g ρ σ) (st : Step H g H' g') : EnvO Γ H₀ H' g' ρ σ := by
 refine ⟨env.len, fun i d h => ?_, fun i d h => ?_, env.inj⟩
 ·obtain ⟨v, h1, h2⟩ := env.sh i d h
  exact ⟨v, h1, h2.mono st.le⟩
 ·obtain ⟨a, h1, h2, h3, h4, h5, h6⟩ := env.ow i d h
  obtain ⟨o, ho, _⟩ := h5.isMut
  obtain ⟨k1, k2, k3⟩ := st.kept ho h3 h4
  exact ⟨a, h1, h2, k2, k3, h5.mono st.le fun o' z => by rw [ho] at z; cases z; exact k1, h6⟩
theorem for_core {K : PySem.W.Frag} {g g1 : G} {E : Ends} {l : List D} {J : It} {H1 : Hp} {ρ1 : List Slot} {S1 : Store} {σ1 : L2.St} {t : T} {mb : List Slot -> M O} (hJ : ItOk Γ J l g1) (st1 : Step H₀ g₀ H1 g1) (le1 : Le g g1) (w1 : WOk Γ H1 g1 S1) (env1 : EnvO Γ H₀ H1 g1 ρ1 σ1) (k : kS Γ H₀ g₀ g E (forM t mb l ρ1 S1)) {tb : TS} (htb : ∀ E σ H ρ S, tS Γ H₀ g₀ ρ S (mb ρ S) E σ H -> tb E σ H) :
  ∃ W : Nat -> Nat -> L2.St -> Hp -> Prop, (∃ m, W 0 m σ1 H1) /\ ∀ i m σ H, W i m σ H -> (J.stop i H /\ E.nx σ H) \/ (J.go i H /\ ∃ N : L2.St -> Hp -> Prop, (∀ σ' H', N σ' H' -> ∃ m', m' < m /\ W (i + 1) m' σ' H') /\ ∀ z H', J.yld i H z H' -> tgOf K t z σ H' fun σ2 H2 => tb { E with nx := N, ct := N, bk := E.nx } σ2 H2) := by
 refine ⟨fun i m σ H => m = l.length - i /\ i <= l.length /\ ∃ g2 ρ2 S2, Step H₀ g₀ H g2 /\ Le g1 g2 /\ WOk Γ H g2 S2 /\ EnvO Γ H₀ H g2 ρ2 σ /\ kS Γ H₀ g₀ g E (forM t mb (l.drop i) ρ2 S2), ⟨_, rfl, Nat.zero_le _, g1, ρ1, S1, st1, Le.refl g1, w1, env1, k⟩, ?_⟩
 rintro i m σ H ⟨rfl, hil, g2, ρ2, S2, st2, le2, w2, env2, k2⟩
 by_cases hlt : i < l.length
 ·refine .inr ⟨hJ.go i H g2 le2 w2.rh hlt, fun σ' H' => ∃ g3 ρ3 S3, Step H₀ g₀ H' g3 /\ Le g1 g3 /\ WOk Γ H' g3 S3 /\ EnvO Γ H₀ H' g3 ρ3 σ' /\ kS Γ H₀ g₀ g E (forM t mb (l.drop (i + 1)) ρ3 S3), fun σ' H' q => ⟨l.length - (i + 1), by omega, rfl, hlt, q⟩, fun z H3 hy => ?_⟩
  obtain ⟨g3, st3, s3, w3, hz⟩ := hJ.yld i H g2 S2 z H3 l[i] le2 w2 (List.getElem?_eq_getElem hlt) hy
  rw [List.drop_eq_getElem_cons hlt] at k2
  have k3 : kS Γ H₀ g₀ g E (M.bind (M.of (bindT ρ2 t (l[i], false))) (fun ρ1 => M.bind (mb ρ1) fun o => match o with
   | .next ρ' => forM t mb (l.drop (i + 1)) ρ'
   | .cnt ρ' => forM t mb (l.drop (i + 1)) ρ'
   | .brk ρ' => M.pure (.next ρ')
   | .ret d fr => M.pure (.ret d fr)) S2) := k2
  cases eb : bindT ρ2 t (l[i], false) with
  | none => rw [eb] at k3; exact k3.elim
  | some ρ3 =>
   rw [eb] at k3
   have k4 : kS Γ H₀ g₀ g E (M.bind (mb ρ3) (fun o => match o with
    | .next ρ' => forM t mb (l.drop (i + 1)) ρ'
    | .cnt ρ' => forM t mb (l.drop (i + 1)) ρ'
    | .brk ρ' => M.pure (.next ρ')
    | .ret d fr => M.pure (.ret d fr)) S2) := k3
   rw [bind_app] at k4
   have st23 := st2.trans st3
   have le13 := le2.trans st3.le
   have leg := le1.trans le13
   refine tg_bind eb (env_step env2 st3) w3.rh (show VOk Γ H₀ l[i] false z H3 g3 from hz) (fun q => by cases q) fun σ' env' => htb _ _ _ ρ3 S2 ⟨g3, st23, w3, env', ?_⟩
   cases eo : mb ρ3 S2 with
   | err => rw [eo] at k4; exact k4.elim
   | exc c S' => rw [eo] at k4; exact k4.elim
   | ok o S3 =>
    rw [eo] at k4
    cases o with
    | next ρ' => exact fun σ' H' g' st' le' w' env' => ⟨g', ρ', S3, st', le13.trans le', w', env', k4⟩
    | cnt ρ' => exact fun σ' H' g' st' le' w' env' => ⟨g', ρ', S3, st', le13.trans le', w', env', k4⟩
    | brk ρ' => exact fun σ' H' g' st' le' w' env' => k4 σ' H' g' st' (leg.trans le') w' env'
    | ret d fr => exact fun v H' g' st' le' w' vo => k4 v H' g' st' (leg.trans le') w' vo
 ·have e : i = l.length := by omega
  subst e
  rw [List.drop_length] at k2
  exact .inl ⟨hJ.stop _ H g2 le2 w2.rh (Nat.le_refl _), k2 σ H g2 st2 (le1.trans le2) w2 env2⟩
theorem s_for {mi : M (List D × List Slot)} {t : T} {mb : List Slot -> M O} (hi : PI X tgt x (tUI Γ H₀ g₀ ρ S (mi S))) (hg : PG X tgt (tgOf X.K t)) (hb : ∀ ρ S, PSs X aa (tS Γ H₀ g₀ ρ S (mb ρ S))) (hp : PassesOwn (model X.prog X.w) X.A X.env X.xe) (hc : X.calm = true)
  (hs : ∀ v, foldedSetIterable x X.env v = pure v) : PS X (.For tgt x aa [] pos) (tS Γ H₀ g₀ ρ S (M.bind mi (fun p => forM t mb p.1 p.2) S)) := by
 rw [bind_app]
 cases ei : mi S with
 | err => exact ps_err
 | exc c S' => exact ps_exc
 | ok p S1 =>
  obtain ⟨l, ρ1⟩ := p
  show PS X _ (tS Γ H₀ g₀ ρ S (forM t mb l ρ1 S1))
  refine (ps_for (tb := fun E σ H => ∃ ρ S, tS Γ H₀ g₀ ρ S (mb ρ S) E σ H) hp hc hi hg (fun pins s σ H E I ⟨ρ, S, q⟩ => hb ρ S pins s σ H E I q) hs).imp fun E σ H ⟨g, st, w, env, k⟩ => ⟨g, st, w, env, ?_⟩
  rw [ei]
  intro J H1 g1 st1 le1 w1 env1 hJ
  exact for_core (K := X.K) (tb := fun E σ H => ∃ ρ S, tS Γ H₀ g₀ ρ S (mb ρ S) E σ H) hJ st1 le1 w1 env1 k fun E σ H ρ S q => ⟨ρ, S, q⟩
end
end EV
namespace EV
open PySem PySem.Spec PyProof.Rows L2
noncomputable def kUD (Γ : Gm) (H₀ : Hp) (g₀ g : G) (σ : L2.St) (Q : VK) : R (D × List Slot) -> Prop
 | .ok p S' => ∀ v H' g', Step H₀ g₀ H' g' -> Le g g' -> WOk Γ H' g' S' -> EnvO Γ H₀ H' g' p.2 σ -> Has Γ g' p.1 v -> Q v H'
 | _ => False
noncomputable def tUD (Γ : Gm) (H₀ : Hp) (g₀ : G) (ρ : List Slot) (S : Store) (r : R (D × List Slot)) : TE := fun σ H Q => ∃ g, Step H₀ g₀ H g /\ WOk Γ H g S /\ EnvO Γ H₀ H g ρ σ /\ kUD Γ H₀ g₀ g σ Q r
section
variable {X : Cx} {Γ : Gm} {H₀ H : Hp} {g₀ g : G} {ρ : List Slot} {σ : L2.St} {S : Store} {st : Stmt} {sts aa bb : List Stmt} {x y z tgt : Expr} {pos p : Pos} {cf : Cf} {e : E} {a : Addr}
theorem env_put {o : HO} (env : EnvO Γ H₀ H g ρ σ) (hn : g.R a = none) (ne : ∀ (i : Nat) (d : D), ρ[i]? = some (.ow d) -> σ[i]? ≠ some (some (.ref a))) : EnvO Γ H₀ H (g.put a o) ρ σ := by
 have le : Le g (g.put a o) := Le.put hn
 refine ⟨env.len, fun i d h => ?_, fun i d h => ?_, env.inj⟩
 ·obtain ⟨v, h1, h2⟩ := env.sh i d h
  exact ⟨v, h1, h2.mono le⟩
 ·obtain ⟨b, h1, h2, h3, h4, h5, h6⟩ := env.ow i d h
  have hb : b ≠ a := by
   rintro rfl
   exact ne i d h h1
  refine ⟨b, h1, h2, ?_, h4, h5.mono le fun _ z => z, h6⟩
  show upd g.R a o b = none
  rw [upd_ne hb]
  exact h3
theorem asData_ok {d : D} {fr : Bool} (h : isIns d = false) : asData (d, fr) = M.pure d := by
 unfold asData
 rw [if_neg (by rw [h]; exact Bool.false_ne_true)]
theorem asData_no {d : D} {fr : Bool} (h : isIns d = true) : asData (d, fr) = M.fail := by
 unfold asData
 rw [if_pos h]
theorem s_useD (h : PE X x (tU Γ H₀ g₀ ρ S (useE cf ρ e S))) : PE X x (tUD Γ H₀ g₀ ρ S (useD cf ρ e S)) := by
 refine h.imp fun σ H Q ⟨g, st, w, env, kk⟩ => ⟨g, st, w, env, ?_⟩
 have kk : kUD Γ H₀ g₀ g σ Q (M.bind (useE cf ρ e) (fun p => M.bind (asData p.1) fun d => M.pure (d, p.2)) S) := kk
 rw [bind_app] at kk
 cases er : useE cf ρ e S with
 | err => rw [er] at kk; exact kk.elim
 | exc c S' => rw [er] at kk; exact kk.elim
 | ok p S1 =>
  rw [er] at kk
  obtain ⟨⟨d, fr⟩, ρ'⟩ := p
  have kk : kUD Γ H₀ g₀ g σ Q (M.bind (asData (d, fr)) (fun d => M.pure (d, ρ')) S1) := kk
  cases hi : isIns d with
  | true =>
   exfalso
   rw [asData_no hi] at kk
   exact kk
  | false =>
   have kk2 : kUD Γ H₀ g₀ g σ Q (.ok (d, ρ') S1) := by
    rw [asData_ok hi] at kk
    exact kk
   intro v H' g' st' le w' env' vo ne
   cases fr with
   | false => exact kk2 v H' g' st' le w' env' vo
   | true =>
    obtain ⟨a, rfl, h0, hn, ha, hc⟩ := (show ∃ a, v = .ref a /\ H₀ a = none /\ g'.R a = none /\ a ∉ g'.α /\ CellOk Γ H' g' a d from vo)
    obtain ⟨o, ho, _⟩ := hc.isMut
    exact kk2 (.ref a) H' (g'.put a o) (st'.put hn h0) (le.trans (Le.put hn)) (w'.put ho hn ha) (env_put env' hn (ne rfl)) (has_frozen hn ho hc)
theorem useE_ow {r : D × Bool} {ρ' : List Slot} {S' : Store} {i : Nat} {d : D} (h : useE cf ρ e S = .ok (r, ρ') S') (ho : ρ'[i]? = some (.ow d)) : ρ[i]? = some (.ow d) := by
 have h : M.bind (ev cf (visO (occ e) ρ) e) (fun x => if owFrom (occ e) 0 ρ = true then (if isPure e && clean x.1 x.2 then M.bind (M.put S) fun _ => M.pure (x, ρ) else M.pure (x, frzO (occ e) ρ)) else M.pure (x, ρ)) S = .ok (r, ρ') S' := h
 rw [bind_app] at h
 cases er : ev cf (visO (occ e) ρ) e S with
 | err => rw [er] at h; cases h
 | exc c S' => rw [er] at h; cases h
 | ok q S1 =>
  rw [er] at h
  have h : (if owFrom (occ e) 0 ρ = true then (if isPure e && clean q.1 q.2 then M.bind (M.put S) fun _ => M.pure (q, ρ) else M.pure (q, frzO (occ e) ρ)) else M.pure (q, ρ)) S1 = .ok (r, ρ') S' := h
  split at h
  ·split at h
   ·cases h
    exact ho
   ·cases h
    exact (frz_ow ho).1
  ·cases h
   exact ho
theorem useD_ow {r : D} {ρ' : List Slot} {S' : Store} {i : Nat} {d : D} (h : useD cf ρ e S = .ok (r, ρ') S') (ho : ρ'[i]? = some (.ow d)) : ρ[i]? = some (.ow d) := by
 have h : M.bind (useE cf ρ e) (fun p => M.bind (asData p.1) fun d => M.pure (d, p.2)) S = .ok (r, ρ') S' := h
 rw [bind_app] at h
 cases er : useE cf ρ e S with
 | err => rw [er] at h; cases h
 | exc c S' => rw [er] at h; cases h
 | ok q S1 =>
  rw [er] at h
  obtain ⟨⟨d1, fr⟩, ρ1⟩ := q
  have h : M.bind (asData (d1, fr)) (fun d => M.pure (d, ρ1)) S1 = .ok (r, ρ') S' := h
  cases hi : isIns d1 with
  | true =>
   rw [asData_no hi] at h
   cases h
  | false =>
   rw [asData_ok hi] at h
   cases h
   exact useE_ow er ho
theorem EnvO.updOw {i : Nat} {c c' : D} {o' : HO} (env : EnvO Γ H₀ H g ρ σ) (hi : ρ[i]? = some (.ow c)) (ha : σ[i]? = some (some (.ref a))) (hc : CellOk Γ (upd H a o') g a c') (hin : isIns c' = false) : EnvO Γ H₀ (upd H a o') g (ρ.set i (.ow c')) σ := by
 obtain ⟨a', e1, e2, e3, e4, e5, e6⟩ := env.ow i c hi
 rw [ha] at e1
 cases e1
 refine ⟨by rw [List.length_set]; exact env.len, fun j e q => ?_, fun j e q => ?_, fun j j' e e' b q1 q2 q3 q4 => ?_⟩
 ·rcases set_get q with ⟨rfl, h1, h2⟩ | ⟨h1, h2⟩
  ·cases h2
  ·exact env.sh j e h2
 ·rcases set_get q with ⟨rfl, h1, h2⟩ | ⟨h1, h2⟩
  ·cases h2
   exact ⟨a, ha, e2, e3, e4, hc, hin⟩
  ·obtain ⟨b, f1, f2, f3, f4, f5, f6⟩ := env.ow j e h2
   have hb : b ≠ a := by
    rintro rfl
    exact h1 (env.inj i j c e b hi h2 ha f1)
   exact ⟨b, f1, f2, f3, f4, f5.mono (Le.refl g) fun o z => by rw [upd_ne hb]; exact z, f6⟩
 ·have ow : ∀ {j : Nat} {e : D}, (ρ.set i (Slot.ow c'))[j]? = some (.ow e) -> ∃ e, ρ[j]? = some (.ow e) := fun {j e} q => by
   rcases set_get q with ⟨rfl, h1, h2⟩ | ⟨h1, h2⟩
   ·exact ⟨c, hi⟩
   ·exact ⟨e, h2⟩
  obtain ⟨_, w1⟩ := ow q1
  obtain ⟨_, w2⟩ := ow q2
  exact env.inj j j' _ _ b w1 w2 q3 q4
theorem EnvO.updCell {o' : HO} (env : EnvO Γ H₀ H g ρ σ) (ha : a ∈ g.α) : EnvO Γ H₀ (upd H a o') g ρ σ := by
 refine ⟨env.len, env.sh, fun i d h => ?_, env.inj⟩
 obtain ⟨b, f1, f2, f3, f4, f5, f6⟩ := env.ow i d h
 have hb : b ≠ a := by
  rintro rfl
  exact f4 ha
 exact ⟨b, f1, f2, f3, f4, f5.mono (Le.refl g) fun o z => by rw [upd_ne hb]; exact z, f6⟩
theorem Step.cell_upd {H' : Hp} {g' : G} {o' : HO} (s : Step H g H' g') (ha : a ∈ g'.α) : Step H g (upd H' a o') g' where
 le := s.le
 fr := fun b u e n => by
  have hb : b ≠ a := by
   rintro rfl
   rcases s.na b ha with q | q
   ·exact n q
   ·rw [e] at q; cases q
  rw [upd_ne hb]; exact s.fr b u e n
 ex := fun b u e => by
  by_cases hb : b = a
  ·subst hb
   exact ⟨o', upd_same⟩
  ·rw [upd_ne hb]; exact s.ex b u e
 na := s.na
 nr := s.nr
theorem WOk.cell_upd {o' : HO} {n : Nat} {c' : D} (w : WOk Γ H g S) (hn : g.α[n]? = some a) (hc : CellOk Γ (upd H a o') g a c') : WOk Γ (upd H a o') g (S.set n c') where
 rh := fun b u q => by
  have hb : b ≠ a := by
   rintro rfl
   rw [w.off b (List.mem_of_getElem? hn)] at q; cases q
  rw [upd_ne hb]; exact w.rh b u q
 len := by rw [List.length_set]; exact w.len
 nd := w.nd
 off := w.off
 cell := fun k c b h1 h2 => by
  rcases set_get h1 with ⟨rfl, z1, rfl⟩ | ⟨z1, z2⟩
  ·rw [hn] at h2
   cases h2
   exact hc
  ·have hb : b ≠ a := by
    rintro rfl
    exact z1 ((nodup_inj w.nd hn h2))
   exact (w.cell k c b z2 h2).mono (Le.refl g) fun o z => by rw [upd_ne hb]; exact z
where
 nodup_inj : ∀ {l : List Addr} {i j : Nat} {b : Addr}, l.Nodup -> l[i]? = some b -> l[j]? = some b -> i = j := fun {l i j b} nd h1 h2 => by
  have hi := (List.getElem?_eq_some_iff.mp h1).1
  have hj := (List.getElem?_eq_some_iff.mp h2).1
  have e : l[i]? = l[j]? := by rw [h1, h2]
  exact (List.getElem?_inj hi nd).mp e
theorem size_of {n : Nat} (h : fits (n + 1) = true) : n < sizeLine := by
 have := lim_le h
 omega
theorem few_one {env : Env} {cpos : Pos} (hs : notStar x = true) : ((backTo cpos (starEach [x] env)).all (fun x => !x.1) && (backToKw cpos (keywordEach [] env)).all (fun x => x.1.isSome)
   && decide (([x] : List Expr).length + ([] : List Keyword).length + (if ([] : List Keyword).isEmpty then 0 else 1) < 30)) = true := by
 rw [starEach_of hs]
 rfl
section
variable {i : Nat} {n : Str} {apos cpos : Pos} {m : M (D × List Slot)}
theorem s_app (hN : X.N[i]? = some n) (hv : Vis X.env.scope n) (hd : (n == ("__debug__" : Str)) = false) (hcd : (n == ("__classdict__" : Str)) = false) (hx : PE X x (tUD Γ H₀ g₀ ρ S (m S))) (hs : notStar x = true) (hl : (apos.endLine == cpos.line) = true)
    (how : ∀ r ρ' S' d, m S = .ok (r, ρ') S' -> ρ'[i]? = some (.ow d) -> ρ[i]? = some (.ow d)) :
    PS X (.Expr (.Call (.Attribute (.Name n p) "append" apos) [x] [] cpos) pos) (tS Γ H₀ g₀ ρ S (M.bind m (fun p => match p.2[i]? with
      | some (.ow (.lst ds)) => if fits (ds.length + 1) then M.pure (.next (p.2.set i (.ow (.lst (ds ++ [p.1]))))) else M.fail
      | _ => M.fail) S)) := by
  rw [bind_app]
  cases e : m S with
  | err => exact ps_err
  | exc c S' => exact ps_exc
  | ok q S1 =>
    obtain ⟨d, ρ1⟩ := q
    show PS X _ (tS Γ H₀ g₀ ρ S ((match ρ1[i]? with
      | some (.ow (.lst ds)) => if fits (ds.length + 1) then M.pure (O.next (ρ1.set i (.ow (.lst (ds ++ [d]))))) else M.fail
      | _ => M.fail) S1))
    cases eo : ρ1[i]? with
    | none => exact ps_err
    | some s =>
     cases s with
     | no => exact ps_err
     | sh _ => exact ps_err
     | ow c =>
      cases c with
      | lst ds =>
      show PS X _ (tS Γ H₀ g₀ ρ S ((if fits (ds.length + 1) then M.pure (O.next (ρ1.set i (.ow (.lst (ds ++ [d]))))) else M.fail) S1))
      by_cases hf : fits (ds.length + 1) = true
      · rw [if_pos hf]
        have eo0 := how d ρ1 S1 _ e eo
        refine (ps_expr (pe_bm PySem.F.plainAttrs_list PySem.F.slot_list_append PySem.F.type_list_append mt_append (pe_var hN hv hd hcd) (pa_cons hx pa_nil (starEach_of hs _ _)) rfl (few_one hs) hl (starEach_of hs _ _) rfl)).imp fun E σ H ⟨g, st, w, env, k⟩ => ?_
        obtain ⟨a, h1, h2, h3, h4, h5, h6⟩ := env.ow i _ eo0
        obtain ⟨vs, h7, h8⟩ := h5
        refine ⟨.ref a, h1, .inl ⟨rfl, vs, SqL.of h7⟩, g, st, w, env, ?_⟩
        rw [e]
        intro v H' g' st' le w' env' hv
        obtain ⟨a', f1, f2, f3, f4, f5, f6⟩ := env'.ow i _ eo
        rw [h1] at f1
        cases f1
        obtain ⟨vs', f7, f8⟩ := f5
        refine ⟨a, vs', v, rfl, rfl, f7, by rw [f8.len]; exact size_of hf, ?_⟩
        refine k σ _ g' (st'.off_upd h2) le (w'.off_upd f3 f4) (env'.updOw eo h1 ⟨vs' ++ [v], upd_same, f8.app (Hass.mk1 hv)⟩ rfl)
      · rw [if_neg hf]
        exact ps_err
      | _ => exact ps_err
theorem has_drop {ds : List D} {vs : List V} (h : Hass Γ g ds vs) : Hass Γ g ds.dropLast vs.dropLast := by
 have hl := h.len
 refine Hass.of (by rw [List.length_dropLast, List.length_dropLast, hl]) fun j d v e1 e2 => ?_
 have hj : j < ds.dropLast.length := (List.getElem?_eq_some_iff.mp e1).1
 rw [List.length_dropLast] at hj
 rw [List.getElem?_dropLast, if_pos hj] at e1
 rw [List.getElem?_dropLast, if_pos (by rw [hl]; exact hj)] at e2
 obtain ⟨u, e3, e4⟩ := h.get e1
 rw [e3] at e2
 cases e2
 exact e4
theorem s_pop (hN : X.N[i]? = some n) (hv : Vis X.env.scope n) (hd : (n == ("__debug__" : Str)) = false) (hcd : (n == ("__classdict__" : Str)) = false) (hl : (apos.endLine == cpos.line) = true) :
    PS X (.Expr (.Call (.Attribute (.Name n p) "pop" apos) [] [] cpos) pos) (tS Γ H₀ g₀ ρ S ((match ρ[i]? with
      | some (.ow (.lst ds)) => if ds.isEmpty then M.fail else M.pure (O.next (ρ.set i (.ow (.lst ds.dropLast))))
      | _ => M.fail) S)) := by
  cases eo : ρ[i]? with
  | none => exact ps_err
  | some s =>
    cases s with
    | no => exact ps_err
    | sh _ => exact ps_err
    | ow c =>
      cases c with
      | lst ds =>
        cases ds with
        | nil => exact ps_err
        | cons d0 dr =>
          refine (ps_expr (pe_bm0 PySem.F.plainAttrs_list PySem.F.slot_list_pop PySem.F.type_list_pop mt_pop (pe_var hN hv hd hcd) rfl hl)).imp fun E σ H ⟨g, st, w, env, k⟩ => ?_
          obtain ⟨a, h1, h2, h3, h4, h5, h6⟩ := env.ow i _ eo
          obtain ⟨vs, h7, h8⟩ := h5
          have hn := h8.len
          have hn : vs.length = dr.length + 1 := hn
          obtain ⟨y, hy⟩ : ∃ y, vs[vs.length - 1]? = some y := ⟨_, List.getElem?_eq_getElem (by omega)⟩
          refine ⟨.ref a, h1, .inl ⟨rfl, vs, SqL.of h7⟩, a, vs, y, rfl, rfl, h7, hy, ?_⟩
          exact k σ _ g (st.off_upd h2) (Le.refl g) (w.off_upd h3 h4) (env.updOw eo h1 ⟨vs.dropLast, upd_same, has_drop h8⟩ rfl)
      | _ => exact ps_err
theorem s_ext (hN : X.N[i]? = some n) (hv : Vis X.env.scope n) (hd : (n == ("__debug__" : Str)) = false) (hcd : (n == ("__classdict__" : Str)) = false) (hx : PE X x (tUD Γ H₀ g₀ ρ S (m S))) (hs : notStar x = true) (hl : (apos.endLine == cpos.line) = true)
    (how : ∀ r ρ' S' d, m S = .ok (r, ρ') S' -> ρ'[i]? = some (.ow d) -> ρ[i]? = some (.ow d)) :
    PS X (.Expr (.Call (.Attribute (.Name n p) "extend" apos) [x] [] cpos) pos) (tS Γ H₀ g₀ ρ S (M.bind m (fun p => M.bind (M.of (extD p.1)) fun l => match p.2[i]? with
      | some (.ow (.lst ds)) => if fits (ds.length + l.length) then M.pure (.next (p.2.set i (.ow (.lst (ds ++ l))))) else M.fail
      | _ => M.fail) S)) := by
  rw [bind_app]
  cases e : m S with
  | err => exact ps_err
  | exc c S' => exact ps_exc
  | ok q S1 =>
    obtain ⟨d, ρ1⟩ := q
    show PS X _ (tS Γ H₀ g₀ ρ S (M.bind (M.of (extD d)) (fun l => match ρ1[i]? with
      | some (.ow (.lst ds)) => if fits (ds.length + l.length) then M.pure (O.next (ρ1.set i (.ow (.lst (ds ++ l))))) else M.fail
      | _ => M.fail) S1))
    cases d with
    | lst l =>
      show PS X _ (tS Γ H₀ g₀ ρ S ((match ρ1[i]? with
        | some (.ow (.lst ds)) => if fits (ds.length + l.length) then M.pure (O.next (ρ1.set i (.ow (.lst (ds ++ l))))) else M.fail
        | _ => M.fail) S1))
      cases eo : ρ1[i]? with
      | none => exact ps_err
      | some s =>
       cases s with
       | no => exact ps_err
       | sh _ => exact ps_err
       | ow c =>
        cases c with
        | lst ds =>
        show PS X _ (tS Γ H₀ g₀ ρ S ((if fits (ds.length + l.length) then M.pure (O.next (ρ1.set i (.ow (.lst (ds ++ l))))) else M.fail) S1))
        by_cases hf : fits (ds.length + l.length) = true
        · rw [if_pos hf]
          have eo0 := how _ ρ1 S1 _ e eo
          refine (ps_expr (pe_bm PySem.F.plainAttrs_list PySem.F.slot_list_extend PySem.F.type_list_extend mt_extend (pe_var hN hv hd hcd) (pa_cons hx pa_nil (starEach_of hs _ _)) rfl (few_one hs) hl (starEach_of hs _ _) rfl)).imp fun E σ H ⟨g, st, w, env, k⟩ => ?_
          obtain ⟨a, h1, h2, h3, h4, h5, h6⟩ := env.ow i _ eo0
          obtain ⟨vs, h7, h8⟩ := h5
          refine ⟨.ref a, h1, .inl ⟨rfl, vs, SqL.of h7⟩, g, st, w, env, ?_⟩
          rw [e]
          rintro v H' g' st' le w' env' ⟨b, zs, rfl, hb1, hb2⟩
          obtain ⟨a', f1, f2, f3, f4, f5, f6⟩ := env'.ow i _ eo
          rw [h1] at f1
          cases f1
          obtain ⟨vs', f7, f8⟩ := f5
          refine ⟨a, b, vs', zs, rfl, rfl, f7, w'.rh _ _ hb1, by rw [f8.len, hb2.len]; exact lim_le hf, ?_⟩
          refine k σ _ g' (st'.off_upd h2) le (w'.off_upd f3 f4) (env'.updOw eo h1 ⟨vs' ++ zs, upd_same, f8.app hb2⟩ rfl)
        · rw [if_neg hf]
          exact ps_err
        | _ => exact ps_err
    | _ => exact ps_err
end
end
end EV
namespace EV
open PySem PySem.Spec PyProof.Rows L2
section
variable {κ : Type} [DecidableEq κ]
theorem mapK_len {α : Type} : ∀ (ks : List κ) (ds : List α) (k : κ) (d : α), (mapK ks ds k d).length = ds.length
 | [], ds, _, _ => by cases ds <;> rfl
 | _ :: _, [], _, _ => rfl
 | a :: ks, b :: ds, k, d => by simp [mapK, mapK_len ks ds k d]
theorem zip_any : ∀ (ks : List κ) (vs : List V) (k : κ), ks.length = vs.length -> ((ks.zip vs).any fun kv => decide (kv.1 = k)) = hasK ks k
 | [], [], _, _ => rfl
 | a :: ks, v :: vs, k, h => by
  have := zip_any ks vs k (by simpa using h)
  unfold hasK at this ⊢
  simp only [List.zip_cons_cons, List.any_cons, this]
 | [], _ :: _, _, h => by simp at h
 | _ :: _, [], _, h => by simp at h
theorem zip_map : ∀ (ks : List κ) (vs : List V) (k : κ) (v : V), (ks.zip vs).map (fun kv => if kv.1 = k then (kv.1, v) else kv) = ks.zip (mapK ks vs k v)
 | [], vs, _, _ => by cases vs <;> rfl
 | _ :: _, [], _, _ => rfl
 | a :: ks, u :: vs, k, v => by
  have := zip_map ks vs k v
  simp only [List.zip_cons_cons, List.map_cons, this, mapK]
  by_cases h : a = k
  ·simp [h]
  ·simp [h]
theorem putK_zip {ks : List κ} {vs : List V} {k : κ} {v : V} (h : ks.length = vs.length) : putK (ks.zip vs) k v = (putKs ks vs k v).1.zip (putKs ks vs k v).2 := by
 unfold putK putKs
 rw [zip_any ks vs k h]
 by_cases q : hasK ks k = true
 ·rw [if_pos q, if_pos q, zip_map]
 ·rw [if_neg q, if_neg q]
  simp [List.zip_append h]
theorem putKs_len {α : Type} {ks : List κ} {ds : List α} {k : κ} {d : α} (h : ks.length = ds.length) : (putKs ks ds k d).1.length = (putKs ks ds k d).2.length := by
 unfold putKs
 split
 ·simp [mapK_len, h]
 ·simp [h]
theorem hass_mapK {Γ : Gm} {g : G} : ∀ {ks : List κ} {ds : List D} {vs : List V} {k : κ} {d : D} {v : V}, Hass Γ g ds vs -> Has Γ g d v -> Hass Γ g (mapK ks ds k d) (mapK ks vs k v)
 | [], ds, vs, _, _, _, h, _ => by
  have e1 : mapK ([] : List κ) ds = fun _ _ => ds := by funext a b; cases ds <;> rfl
  have e2 : mapK ([] : List κ) vs = fun _ _ => vs := by funext a b; cases vs <;> rfl
  rw [e1, e2]
  exact h
 | _ :: _, [], vs, _, _, _, h, _ => by
  cases (show vs = [] from h)
  exact rfl
 | a :: ks, b :: ds, _, k, d, v, ⟨u, r, e, h1, h2⟩, hd => by
  subst e
  refine ⟨if a = k then v else u, mapK ks r k v, rfl, ?_, hass_mapK h2 hd⟩
  split
  ·exact hd
  ·exact h1
theorem hass_putKs {Γ : Gm} {g : G} {ks : List κ} {ds : List D} {vs : List V} {k : κ} {d : D} {v : V} (h : Hass Γ g ds vs) (hd : Has Γ g d v) : Hass Γ g (putKs ks ds k d).2 (putKs ks vs k v).2 := by
 unfold putKs
 split
 ·exact hass_mapK h hd
 ·exact h.app (Hass.mk1 hd)
theorem putKs_keys {α β : Type} {ks : List κ} {ds : List α} {es : List β} {k : κ} {d : α} {e : β} : (putKs ks ds k d).1 = (putKs ks es k e).1 := by
 unfold putKs
 split <;> rfl
end
noncomputable def rSetU : TSet := fun o i v H Q => rSetL o i v H Q \/ ∃ a H', o = .ref a /\ DPut H a i v H' /\ Q H'
theorem set_any {X : Cx} (hu : X.A.units + 1 < cLine) : PSet X rSetU := by
 intro pins s σ H o i v ov iv u Q I r1 r2 r3 h
 rcases h with h | ⟨a, H', rfl, hp, q⟩
 ·exact set_list pins s σ H o i v ov iv u Q I r1 r2 r3 h
 ·cases r1
  exact d_setItem hu I hp r2 r3 fun s' I' => ⟨H', I', q⟩
theorem put_cell {Γ : Gm} {H : Hp} {g : G} {a : Addr} {c c' kd d : D} {vk vd : V} (h : putD c kd d = some c') (hc : CellOk Γ H g a c) (sm : Same g.R H) (hk : Has Γ g kd vk) (hd : Has Γ g d vd) :
    ∃ o', (∀ Q : Hp -> Prop, Q (upd H a o') -> rSetU (.ref a) vk vd H Q) /\ CellOk Γ (upd H a o') g a c' /\ isIns c' = false := by
  cases c with
  | lst l =>
   cases kd with
   | int i =>
    have h : (idx l.length i).map (fun k => D.lst (l.set k d)) = some c' := h
    cases e : idx l.length i with
    | none => rw [e] at h; cases h
    | some j =>
      rw [e] at h
      cases h
      obtain ⟨vs, h1, h2⟩ := hc
      cases (show vk = .int i from hk)
      refine ⟨.lst (vs.set j vd), fun Q q => .inl ⟨a, vs, i, j, rfl, rfl, h1, by rw [h2.len]; exact e, q⟩, ⟨_, upd_same, h2.set j hd⟩, rfl⟩
   | _ => cases h
  | dK ks ds =>
    have h : (keyD kd).bind (fun k => if fits (ks.length + 1) then some (let p := putKs ks ds k d; D.dK p.1 p.2) else none) = some c' := by
      cases kd <;> exact h
    cases e : keyD kd with
    | none => rw [e] at h; cases h
    | some k =>
      rw [e] at h
      have h : (if fits (ks.length + 1) = true then some (D.dK (putKs ks ds k d).1 (putKs ks ds k d).2) else none) = some c' := h
      split at h
      · rename_i hf
        cases h
        obtain ⟨vs, h1, h2, h3⟩ := hc
        have ek := keyD_has e hk
        subst ek
        have el : ks.length = vs.length := by rw [h3.len]; exact h2
        refine ⟨.dK ((putKs ks vs k vd).1.zip (putKs ks vs k vd).2), fun Q q => .inr ⟨a, _, rfl, DPut.k h1 (by rw [List.length_zip]; have := size_of hf; omega), ?_⟩, ⟨_, ?_, putKs_len h2, hass_putKs h3 hd⟩, rfl⟩
        · rw [putK_zip el]
          exact q
        · rw [upd_same, putKs_keys (ds := ds) (es := vs) (d := d) (e := vd)]
      · cases h
  | dT ks ds =>
   cases kd with
   | tup t =>
    have h : (keysD t).bind (fun k => if fits (ks.length + 1) then some (let p := putKs ks ds k d; D.dT p.1 p.2) else none) = some c' := h
    cases e : keysD t with
    | none => rw [e] at h; cases h
    | some k =>
      rw [e] at h
      have h : (if fits (ks.length + 1) = true then some (D.dT (putKs ks ds k d).1 (putKs ks ds k d).2) else none) = some c' := h
      split at h
      · rename_i hf
        cases h
        obtain ⟨vs, h1, h2, h3⟩ := hc
        obtain ⟨b, us, rfl, h4, h5⟩ := hk
        have ek := keysD_kV e h5
        subst ek
        have el : ks.length = vs.length := by rw [h3.len]; exact h2
        refine ⟨.dT ((putKs ks vs k vd).1.zip (putKs ks vs k vd).2), fun Q q => .inr ⟨a, _, rfl, DPut.t h1 (sm _ _ h4) (by rw [List.length_zip]; have := size_of hf; omega), ?_⟩, ⟨_, ?_, putKs_len h2, hass_putKs h3 hd⟩, rfl⟩
        · rw [putK_zip el]
          exact q
        · rw [upd_same, putKs_keys (ds := ds) (es := vs) (d := d) (e := vd)]
      · cases h
   | _ => cases h
  | _ => cases h
section
variable {X : Cx} {Γ : Gm} {H₀ : Hp} {g₀ : G} {ρ : List Slot} {S : Store} {x o i : Expr} {pos spos p : Pos} {cf : Cf}
theorem sub_assign (h : ∀ lo hi st p, i ≠ .Slice lo hi st p) (v : Value) (env : Env) : assign (.Subscript o i pos) env v = (do
   let ov <- holding [v] (eval o env)
   let iv <- holding [v, ov] (eval i env)
   standAt pos
   holding [v, ov, iv] (setItem ov iv v)
   release [v, ov, iv] []) := by
 cases i <;> first | rfl | exact absurd rfl (h _ _ _ _)
theorem s_sti {mv : M (D × List Slot)} {mo mk : List Slot -> M (D × List Slot)} (hu : X.A.units + 1 < cLine)
    (hx : PE X x (tUD Γ H₀ g₀ ρ S (mv S))) (ho : ∀ ρ S, PE X o (tUD Γ H₀ g₀ ρ S (mo ρ S))) (hi : ∀ ρ S, PE X i (tUD Γ H₀ g₀ ρ S (mk ρ S))) (hns : ∀ lo hi st p, i ≠ .Slice lo hi st p)
    (hs : swapsWithSole [.Subscript o i pos] x spos.line X.env = pure false) (hw : swappedStores [.Subscript o i pos] x X.env = pure none) (ha : (assignEach [.Subscript o i pos] X.env).map (·.2) = [assign (.Subscript o i pos) X.env]) :
    PS X (.Assign [.Subscript o i pos] x spos) (tS Γ H₀ g₀ ρ S (M.bind mv (fun p => M.bind (mo p.2) fun r => M.bind (mk r.2) fun q => match r.1 with
      | .ref n => M.bind M.get fun S => match S[n]? with
        | some c => M.bind (M.of (putD c q.1 p.1)) fun c' => M.bind (M.put (S.set n c')) fun _ => M.pure (.next q.2)
        | none => M.fail
      | _ => M.fail) S)) := by
  rw [bind_app]
  cases e : mv S with
  | err => exact ps_err
  | exc c S' => exact ps_exc
  | ok q S1 =>
    obtain ⟨d, ρ1⟩ := q
    show PS X _ (tS Γ H₀ g₀ ρ S (M.bind (mo ρ1) (fun r => M.bind (mk r.2) fun q => match r.1 with
      | .ref n => M.bind M.get fun S => match S[n]? with
        | some c => M.bind (M.of (putD c q.1 d)) fun c' => M.bind (M.put (S.set n c')) fun _ => M.pure (O.next q.2)
        | none => M.fail
      | _ => M.fail) S1))
    rw [bind_app]
    cases e1 : mo ρ1 S1 with
    | err => exact ps_err
    | exc c S' => exact ps_exc
    | ok q S2 =>
      obtain ⟨od, ρ2⟩ := q
      show PS X _ (tS Γ H₀ g₀ ρ S (M.bind (mk ρ2) (fun q => match (generalizing := false) od with
        | .ref n => M.bind M.get fun S => match S[n]? with
          | some c => M.bind (M.of (putD c q.1 d)) fun c' => M.bind (M.put (S.set n c')) fun _ => M.pure (O.next q.2)
          | none => M.fail
        | _ => M.fail) S2))
      rw [bind_app]
      cases e2 : mk ρ2 S2 with
      | err => exact ps_err
      | exc c S' => exact ps_exc
      | ok q S3 =>
        obtain ⟨kd, ρ3⟩ := q
        cases od with
        | ref n =>
          show PS X _ (tS Γ H₀ g₀ ρ S ((match S3[n]? with
            | some c => M.bind (M.of (putD c kd d)) fun c' => M.bind (M.put (S3.set n c')) fun _ => M.pure (O.next ρ3)
            | none => M.fail) S3))
          cases eo : S3[n]? with
          | none => exact ps_err
          | some c =>
            show PS X _ (tS Γ H₀ g₀ ρ S (M.bind (M.of (putD c kd d)) (fun c' => M.bind (M.put (S3.set n c')) fun _ => M.pure (O.next ρ3)) S3))
            cases ep : putD c kd d with
            | none => exact ps_err
            | some c' =>
              show PS X _ (tS Γ H₀ g₀ ρ S (.ok (.next ρ3) (S3.set n c')))
              refine (ps_asg hx (pg_sub (ho ρ1 S1) (hi ρ2 S2) (set_any hu) (fun v => sub_assign hns v X.env)) hs hw ha).imp fun E σ H ⟨g, st, w, env, k⟩ => ⟨g, st, w, env, ?_⟩
              rw [e]
              intro v H1 g1 st1 le1 w1 env1 hv1
              refine ⟨g1, st1, w1, env1, ?_⟩
              rw [e1]
              intro vo H2 g2 st2 le2 w2 env2 ho2
              refine ⟨g2, st2, w2, env2, ?_⟩
              rw [e2]
              intro vk H3 g3 st3 le3 w3 env3 hk3
              obtain ⟨a, ha2, rfl⟩ := ho2.mono le3
              obtain ⟨o', b1, b2, b3⟩ := put_cell ep (w3.cell n c a eo ha2) w3.rh hk3 (hv1.mono (le2.trans le3))
              have hm := List.mem_of_getElem? ha2
              exact b1 _ (k σ _ g3 (st3.cell_upd hm) ((le1.trans le2).trans le3) (w3.cell_upd ha2 b2) (env3.updCell hm))
        | _ => exact ps_err
theorem isLst_is {c : Option D} (h : isLst c = true) : ∃ ds, c = some (.lst ds) := by
 cases c with
 | none => exact nobE h
 | some d =>
  cases d with
  | lst ds => exact ⟨ds, rfl⟩
  | _ => exact nobE h
theorem s_appR {nm : Str} {np apos cpos : Pos} {mo : M (D × List Slot)} {me : List Slot -> M (D × List Slot)} (ho : PE X (.Name nm np) (tUD Γ H₀ g₀ ρ S (mo S))) (hx : ∀ ρ S, PE X x (tUD Γ H₀ g₀ ρ S (me ρ S))) (hs : notStar x = true) (hl : (apos.endLine == cpos.line) = true) :
    PS X (.Expr (.Call (.Attribute (.Name nm np) "append" apos) [x] [] cpos) pos) (tS Γ H₀ g₀ ρ S (M.bind mo (fun r => match r.1 with
      | .ref n => M.bind M.get fun S0 => if isLst S0[n]? = true then M.bind (me r.2) fun p => M.bind M.get fun S => match S[n]? with
        | some (.lst ds) => if fits (ds.length + 1) then M.bind (M.put (S.set n (.lst (ds ++ [p.1])))) fun _ => M.pure (.next p.2) else M.fail
        | _ => M.fail else M.fail
      | _ => M.fail) S)) := by
  rw [bind_app]
  cases e : mo S with
  | err => exact ps_err
  | exc c S' => exact ps_exc
  | ok q S1 =>
    obtain ⟨od, ρ1⟩ := q
    cases od with
    | ref n =>
      show PS X _ (tS Γ H₀ g₀ ρ S ((if isLst S1[n]? = true then M.bind (me ρ1) (fun p => M.bind M.get fun S => match S[n]? with
        | some (.lst ds) => if fits (ds.length + 1) then M.bind (M.put (S.set n (.lst (ds ++ [p.1])))) fun _ => M.pure (O.next p.2) else M.fail
        | _ => M.fail) else M.fail) S1))
      by_cases hL : isLst S1[n]? = true
      · rw [if_pos hL, bind_app]
        cases e1 : me ρ1 S1 with
        | err => exact ps_err
        | exc c S' => exact ps_exc
        | ok q S2 =>
          obtain ⟨d, ρ2⟩ := q
          show PS X _ (tS Γ H₀ g₀ ρ S ((match S2[n]? with
            | some (.lst ds) => if fits (ds.length + 1) then M.bind (M.put (S2.set n (.lst (ds ++ [d])))) fun _ => M.pure (O.next ρ2) else M.fail
            | _ => M.fail) S2))
          cases eo : S2[n]? with
          | none => exact ps_err
          | some c =>
            cases c with
            | lst ds =>
              show PS X _ (tS Γ H₀ g₀ ρ S ((if fits (ds.length + 1) then M.bind (M.put (S2.set n (.lst (ds ++ [d])))) fun _ => M.pure (O.next ρ2) else M.fail) S2))
              by_cases hf : fits (ds.length + 1) = true
              · rw [if_pos hf]
                obtain ⟨ds0, e0⟩ := isLst_is hL
                refine (ps_expr (pe_bm PySem.F.plainAttrs_list PySem.F.slot_list_append PySem.F.type_list_append mt_append ho (pa_cons (hx ρ1 S1) pa_nil (starEach_of hs _ _)) rfl (few_one hs) hl (starEach_of hs _ _) rfl)).imp fun E σ H ⟨g, st, w, env, k⟩ => ⟨g, st, w, env, ?_⟩
                rw [e]
                intro vo H1 g1 st1 le1 w1 env1 ho1
                obtain ⟨a, ha1, rfl⟩ := id ho1
                obtain ⟨vs, h7, h8⟩ := w1.cell n _ a e0 ha1
                refine ⟨.inl ⟨rfl, vs, SqL.of h7⟩, g1, st1, w1, env1, ?_⟩
                rw [e1]
                intro v H2 g2 st2 le2 w2 env2 hv
                obtain ⟨a', ha2, ea⟩ := ho1.mono le2
                cases ea
                obtain ⟨vs', f7, f8⟩ := w2.cell n _ a eo ha2
                refine ⟨a, vs', v, rfl, rfl, f7, by rw [f8.len]; exact size_of hf, ?_⟩
                have hm := List.mem_of_getElem? ha2
                exact k σ _ g2 (st2.cell_upd hm) (le1.trans le2) (w2.cell_upd ha2 ⟨vs' ++ [v], upd_same, f8.app (Hass.mk1 hv)⟩) (env2.updCell hm)
              · rw [if_neg hf]
                exact ps_err
            | _ => exact ps_err
      · rw [if_neg hL]
        exact ps_err
    | _ => exact ps_err
theorem s_popE {nm : Str} {np apos cpos : Pos} {mo : M (D × List Slot)} (ho : PE X (.Name nm np) (tUD Γ H₀ g₀ ρ S (mo S))) (hl : (apos.endLine == cpos.line) = true) :
    PE X (.Call (.Attribute (.Name nm np) "pop" apos) [] [] cpos) (tU Γ H₀ g₀ ρ S (popM mo S)) := by
  unfold popM
  rw [bind_app]
  cases e : mo S with
  | err => exact fun pins s σ H Q I ⟨g, st, w, env, k⟩ => k.elim
  | exc c S' => exact fun pins s σ H Q I ⟨g, st, w, env, k⟩ => k.elim
  | ok q S1 =>
    obtain ⟨od, ρ1⟩ := q
    cases od with
    | ref n =>
      show PE X _ (tU Γ H₀ g₀ ρ S ((match S1[n]? with
        | some (.lst ds) => M.bind (M.of ds.getLast?) fun d => M.bind (M.put (S1.set n (.lst ds.dropLast))) fun _ => M.pure ((d, false), ρ1)
        | _ => M.fail) S1))
      cases eo : S1[n]? with
      | none => exact fun pins s σ H Q I ⟨g, st, w, env, k⟩ => k.elim
      | some c =>
        cases c with
        | lst ds =>
          show PE X _ (tU Γ H₀ g₀ ρ S (M.bind (M.of ds.getLast?) (fun d => M.bind (M.put (S1.set n (.lst ds.dropLast))) fun _ => M.pure ((d, false), ρ1)) S1))
          cases eg : ds.getLast? with
          | none => exact fun pins s σ H Q I ⟨g, st, w, env, k⟩ => k.elim
          | some d =>
            show PE X _ (tU Γ H₀ g₀ ρ S (.ok ((d, false), ρ1) (S1.set n (.lst ds.dropLast))))
            refine (pe_bm0 PySem.F.plainAttrs_list PySem.F.slot_list_pop PySem.F.type_list_pop mt_pop ho rfl hl).imp fun σ H Q ⟨g, st, w, env, k⟩ => ⟨g, st, w, env, ?_⟩
            rw [e]
            intro vo H1 g1 st1 le1 w1 env1 ho1
            obtain ⟨a, ha1, rfl⟩ := ho1
            obtain ⟨vs, h7, h8⟩ := w1.cell n _ a eo ha1
            have hn := h8.len
            rw [List.getLast?_eq_getElem?] at eg
            obtain ⟨y, hy, hh⟩ := h8.get eg
            have hm := List.mem_of_getElem? ha1
            refine ⟨.inl ⟨rfl, vs, SqL.of h7⟩, a, vs, y, rfl, rfl, h7, by rw [hn]; exact hy, ?_⟩
            exact k y _ g1 (st1.cell_upd hm) le1 (w1.cell_upd ha1 ⟨vs.dropLast, upd_same, has_drop h8⟩) (env1.updCell hm) hh (fun z => by cases z)
        | _ => exact fun pins s σ H Q I ⟨g, st, w, env, k⟩ => k.elim
    | _ => exact fun pins s σ H Q I ⟨g, st, w, env, k⟩ => k.elim
end
end EV
namespace EV
open PySem PySem.Spec PyProof.Rows L2
noncomputable def notComp : Expr -> Bool
 | .ListComp _ _ _ _ => false
 | .SetComp _ _ _ _ => false
 | .DictComp _ _ _ _ _ => false
 | _ => true
noncomputable def isCompE : E -> Bool
 | .comp _ _ _ _ _ => true
 | _ => false
noncomputable def notTupE : Expr -> Bool
 | .Tuple _ _ _ => false
 | _ => true
noncomputable def atOnce (c : Cc) (n : Str) (np : Pos) : Expr -> Bool
 | .ListComp _ _ sc p => c.names.lookup n == some .local && np.line == p.line && !(sc.names.any fun (m, k) => m == n && (k == .local || k == .cell))
 | _ => false
noncomputable def chkN (c : Cc) (i : Nat) (n : Str) : Bool := c.N[i]? == some n && visK (c.names.lookup n) && plainN n
structure Meth where
 o : Expr
 m : Str
 ap : Pos
 x : Expr
 cp : Pos
noncomputable def asMeth : Expr -> Option Meth
 | .Call f args kws cp => if isNilL kws = true then (asAtt f).bind fun q => (sole args).map fun x => ⟨q.1, q.2.1, q.2.2, x, cp⟩ else none
 | _ => none
theorem asMeth_is {x : Expr} {q : Meth} (h : asMeth x = some q) : x = .Call (.Attribute q.o q.m q.ap) [q.x] [] q.cp := by
 cases x with
 | Call f args kws cp =>
  have h : (if isNilL kws = true then (asAtt f).bind fun q => (sole args).map fun x => (⟨q.1, q.2.1, q.2.2, x, cp⟩ : Meth) else none) = some q := h
  split at h
  ·rename_i hn
   cases e1 : asAtt f with
   | none => rw [e1] at h; cases h
   | some z =>
    rw [e1] at h
    cases e2 : sole args with
    | none => rw [e2] at h; cases h
    | some y =>
     rw [e2] at h
     cases h
     rw [isNil_is hn, asAtt_is e1, sole_is e2]
  ·cases h
 | _ => cases h
noncomputable def chkMeth (B : Tb) (c : Cc) (name : Str) (i : Nat) (e : E) (x : Expr) : Bool := match asMeth x with
  | some q => (match asName q.o with
    | some r => chkN c i r.1 && q.m == name && chkE B c e q.x && notStar q.x && q.ap.endLine == q.cp.line
    | none => false)
  | none => false
theorem chkMeth_is {B : Tb} {c : Cc} {name : Str} {i : Nat} {e : E} {x : Expr} (h : chkMeth B c name i e x = true) : ∃ n np ap y cp, x = .Call (.Attribute (.Name n np) name ap) [y] [] cp /\ chkN c i n = true /\ chkE B c e y = true /\ notStar y = true /\ (ap.endLine == cp.line) = true := by
  unfold chkMeth at h
  cases e1 : asMeth x with
  | none => rw [e1] at h; cases h
  | some q =>
    rw [e1] at h
    have h : (match asName q.o with
      | some r => chkN c i r.1 && q.m == name && chkE B c e q.x && notStar q.x && q.ap.endLine == q.cp.line
      | none => false) = true := h
    cases e2 : asName q.o with
    | none => rw [e2] at h; cases h
    | some r =>
      rw [e2] at h
      have h : (chkN c i r.1 && q.m == name && chkE B c e q.x && notStar q.x && q.ap.endLine == q.cp.line) = true := h
      simp only [Bool.and_eq_true] at h
      obtain ⟨⟨⟨⟨h1, h2⟩, h3⟩, h4⟩, h5⟩ := h
      refine ⟨r.1, r.2, q.ap, q.x, q.cp, ?_, h1, h3, h4, h5⟩
      rw [asMeth_is e1, asName_is e2, eq_of_beq h2]
noncomputable def asM0 : Expr -> Option (Expr × Str × Pos × Pos)
  | .Call f as ks cp => (match f with
    | .Attribute o m ap => (match as with
      | [] => (match ks with
        | [] => some (o, m, ap, cp)
        | _ => none)
      | _ => none)
    | _ => none)
  | _ => none
theorem asM0_is {x : Expr} {q : Expr × Str × Pos × Pos} (h : asM0 x = some q) : x = .Call (.Attribute q.1 q.2.1 q.2.2.1) [] [] q.2.2.2 := by
 have hb : Nat.beq x.ctorIdx 16 = true := by revert h; cases x <;> first | exact fun _ => rfl | (intro h; cases h)
 revert h; apply ofCall hb; clear hb; intro f as ks cp h
 have hb : Nat.beq f.ctorIdx 20 = true := by revert h; cases f <;> first | exact fun _ => rfl | (intro h; cases h)
 revert h; apply ofAttribute hb; clear hb; intro o m ap h
 cases as with
 | cons _ _ => cases h
 | nil =>
  cases ks with
  | cons _ _ => cases h
  | nil => cases h; rfl
noncomputable def chkPop (c : Cc) (i : Nat) (x : Expr) : Bool := match asM0 x with
  | some q => (match asName q.1 with
    | some r => chkN c i r.1 && q.2.1 == ("pop" : Str) && q.2.2.1.endLine == q.2.2.2.line
    | none => false)
  | none => false
theorem chkPop_is {c : Cc} {i : Nat} {x : Expr} (h : chkPop c i x = true) : ∃ n np ap cp, x = .Call (.Attribute (.Name n np) "pop" ap) [] [] cp /\ chkN c i n = true /\ (ap.endLine == cp.line) = true := by
  unfold chkPop at h
  cases e1 : asM0 x with
  | none => rw [e1] at h; cases h
  | some q =>
    rw [e1] at h
    have h : (match asName q.1 with
      | some r => chkN c i r.1 && q.2.1 == ("pop" : Str) && q.2.2.1.endLine == q.2.2.2.line
      | none => false) = true := h
    cases e2 : asName q.1 with
    | none => rw [e2] at h; cases h
    | some r =>
      rw [e2] at h
      have h : (chkN c i r.1 && q.2.1 == ("pop" : Str) && q.2.2.1.endLine == q.2.2.2.line) = true := h
      rw [Bool.and_eq_true, Bool.and_eq_true] at h
      refine ⟨r.1, r.2, q.2.2.1, q.2.2.2, ?_, h.1.1, h.2⟩
      rw [asM0_is e1, asName_is e2, eq_of_beq h.1.2]
noncomputable def chkAppR (B : Tb) (c : Cc) (o e : E) (x : Expr) : Bool := match asMeth x with
 | some q => (asName q.o).isSome && chkE B c o q.o && q.m == ("append" : Str) && chkE B c e q.x && notStar q.x && q.ap.endLine == q.cp.line
 | none => false
theorem chkAppR_is {B : Tb} {c : Cc} {o e : E} {x : Expr} (h : chkAppR B c o e x = true) : ∃ n np ap y cp, x = .Call (.Attribute (.Name n np) "append" ap) [y] [] cp /\ chkE B c o (.Name n np) = true /\ chkE B c e y = true /\ notStar y = true /\ (ap.endLine == cp.line) = true := by
 unfold chkAppR at h
 cases e1 : asMeth x with
 | none => rw [e1] at h; cases h
 | some q =>
  rw [e1] at h
  have h : ((asName q.o).isSome && chkE B c o q.o && q.m == ("append" : Str) && chkE B c e q.x && notStar q.x && q.ap.endLine == q.cp.line) = true := h
  simp only [Bool.and_eq_true] at h
  obtain ⟨⟨⟨⟨⟨h0, h1⟩, h2⟩, h3⟩, h4⟩, h5⟩ := h
  obtain ⟨r, e2⟩ := Option.isSome_iff_exists.mp h0
  have en := asName_is e2
  rw [en] at h1
  refine ⟨r.1, r.2, q.ap, q.x, q.cp, ?_, h1, h3, h4, h5⟩
  rw [asMeth_is e1, en, eq_of_beq h2]
noncomputable def chkPopR (B : Tb) (c : Cc) (o : E) (x : Expr) : Bool := match asM0 x with
 | some q => (asName q.1).isSome && chkE B c o q.1 && q.2.1 == ("pop" : Str) && q.2.2.1.endLine == q.2.2.2.line
 | none => false
theorem chkPopR_is {B : Tb} {c : Cc} {o : E} {x : Expr} (h : chkPopR B c o x = true) : ∃ n np ap cp, x = .Call (.Attribute (.Name n np) "pop" ap) [] [] cp /\ chkE B c o (.Name n np) = true /\ (ap.endLine == cp.line) = true := by
 unfold chkPopR at h
 cases e1 : asM0 x with
 | none => rw [e1] at h; cases h
 | some q =>
  rw [e1] at h
  have h : ((asName q.1).isSome && chkE B c o q.1 && q.2.1 == ("pop" : Str) && q.2.2.1.endLine == q.2.2.2.line) = true := h
  simp only [Bool.and_eq_true] at h
  obtain ⟨⟨⟨h0, h1⟩, h2⟩, h5⟩ := h
  obtain ⟨r, e2⟩ := Option.isSome_iff_exists.mp h0
  have en := asName_is e2
  rw [en] at h1
  refine ⟨r.1, r.2, q.2.2.1, q.2.2.2, ?_, h1, h5⟩
  rw [asM0_is e1, en, eq_of_beq h2]
mutual
noncomputable def chkC (B : Tb) (c : Cc) : C -> Stmt -> Bool
  | .set t e, .Assign ts x _ => (match sole ts with
    | some tg => chkE B c e x && chkT c t tg && (match asName tg with
      | some q => !atOnce c q.1 q.2 x || isCompE e
      | none => isTupE tg && notTupE x)
    | none => false)
  | .expr e, .Expr x _ => chkE B c e x && notComp x
  | .ret e, .Return v _ => (match v with
    | some x => chkE B c e x
    | none => false)
  | .retN, .Return v _ => v.isNone
  | .ite e a b, .If x aa bb _ => chkE B c e x && chkCs B c a aa && chkCs B c b bb
  | .whl e b, .While x bb r _ => chkE B c e x && chkCs B c b bb && isNilL r
  | .forr t it b, .For tgt x bb r _ => chkI B c it tgt x && chkT c t tgt && notSet x && chkCs B c b bb && isNilL r
  | .app i e, .Expr x _ => chkMeth B c "append" i e x
  | .ext i e, .Expr x _ => chkMeth B c "extend" i e x
  | .pop i, .Expr x _ => chkPop c i x
  | .appR o e, .Expr x _ => chkAppR B c o e x
  | .popR t o, .Assign ts x _ => (match sole ts with
    | some tg => chkT c t tg && isTupE tg && chkPopR B c o x
    | none => false)
  | .sti o k v, .Assign ts x _ => (match (sole ts).bind asSub with
    | some q => chkE B c o q.1 && chkE B c k q.2.1 && chkE B c v x
    | none => false)
  | .pass, .Pass _ => true
  | .brk, .Break _ => true
  | .cnt, .Continue _ => true
  | _, _ => false
noncomputable def chkCs (B : Tb) (c : Cc) : List C -> List Stmt -> Bool
 | [], [] => true
 | s :: ss, x :: xs => chkC B c s x && chkCs B c ss xs
 | _, _ => false
end
structure XSt (Γ : Gm) (B : Tb) (cf : Cf) (k : Nat) (X : Cx) (c : Cc) : Prop where
 ok : XOk Γ B cf k X c
 fn : c.fn = true
 own : PassesOwn (model X.prog X.w) X.A X.env X.xe
section
variable {Γ : Gm} {B : Tb} {cf : Cf} {k : Nat} {X : Cx} {c : Cc} {H₀ : Hp} {g₀ : G} {ρ : List Slot} {S : Store} {x : Expr} {e : E} {n : Str} {pos np : Pos} {i : Nat}
theorem XOk.useE (ok : XOk Γ B cf k X c) (hcf : CfOk B cf) (h : chkE B c e x = true) (ρ : List Slot) (S : Store) : PE X x (tU Γ H₀ g₀ ρ S (useE cf ρ e S)) := s_use (sA hcf e X c x _ S ok h).1
theorem XOk.useB (ok : XOk Γ B cf k X c) (hcf : CfOk B cf) (h : chkE B c e x = true) (ρ : List Slot) (S : Store) : PT X x (tUB Γ H₀ g₀ ρ S (useB cf ρ e S)) := s_useB (sA hcf e X c x _ S ok h).2.1
theorem XOk.useD (ok : XOk Γ B cf k X c) (hcf : CfOk B cf) (h : chkE B c e x = true) (ρ : List Slot) (S : Store) : PE X x (tUD Γ H₀ g₀ ρ S (useD cf ρ e S)) := s_useD (ok.useE hcf h ρ S)
theorem noSl {y : Expr} (h : chkE B c e y = true) : ∀ lo hi st p, y ≠ .Slice lo hi st p := fun lo hi st p q => by
 subst q
 exact noSlice e h
theorem notComp_swap (h : notComp x = true) (t : Option Expr) (l : Nat) (env : Env) : swapsWith x t l env = pure false := by
 cases x <;> first | rfl | cases h
theorem swap_sub (x o y : Expr) (p : Pos) (l : Nat) (env : Env) : swapsWithSole [.Subscript o y p] x l env = pure false := by
 cases x <;> rfl
theorem swap_tup (x : Expr) (es : List Expr) (kk : Nat) (p : Pos) (l : Nat) (env : Env) : swapsWithSole [.Tuple es kk p] x l env = pure false := by
 cases x <;> rfl
theorem stores_sub (x o y : Expr) (p : Pos) (env : Env) : swappedStores [.Subscript o y p] x env = pure none := by
 cases x <;> rfl
theorem stores_name (x : Expr) (n : Str) (p : Pos) (env : Env) : swappedStores [.Name n p] x env = pure none := by
 cases x <;> rfl
theorem stores_tup (h : notTupE x = true) (es : List Expr) (kk : Nat) (p : Pos) (env : Env) : swappedStores [.Tuple es kk p] x env = pure none := by
 cases x <;> first | rfl | cases h
theorem noSC {y : Expr} {g : List Comprehension} {sc : Scope} {p : Pos} (e : E) (h : chkE B c e (.SetComp y g sc p) = true) : False := by
 cases e with
 | box e => exact noSC e h
 | _ => exact nobE h
theorem noDC {y z : Expr} {g : List Comprehension} {sc : Scope} {p : Pos} (e : E) (h : chkE B c e (.DictComp y z g sc p) = true) : False := by
 cases e with
 | box e => exact noDC e h
 | _ => exact nobE h
theorem swap_name (ok : XOk Γ B cf k X c) (hx : chkE B c e x = true) (l : Nat) : swapsWith x (some (.Name n np)) l X.env = pure (atOnce c n np x) := by
 have hk : X.env.kindOf n = c.names.lookup n := by
  unfold Env.kindOf
  rw [ok.nm]
 have hb : X.env.blockKind = .function := by
  unfold Env.blockKind
  rw [ok.kd]
  rfl
 cases x with
 | ListComp y g sc p =>
  show pure (X.env.blockKind == .function && X.env.kindOf n == some .local && np.line == p.line && !(sc.names.any fun (m, k) => m == n && (k == .local || k == .cell))) = (pure (c.names.lookup n == some .local && np.line == p.line && !(sc.names.any fun (m, k) => m == n && (k == .local || k == .cell))) : Sem Bool)
  rw [hb, hk]
  rfl
 | SetComp y g sc p => exact (noSC e hx).elim
 | DictComp y g a sc p => exact (noDC e hx).elim
 | _ => rfl
theorem s_setc {t : T} {js : List Nat} {it elt : E} {ifs : List E} (hcf : CfOk B cf) (ok : XOk Γ B cf k X c) (h : chkE B c (.comp t js it ifs elt) x = true) (hp : PG X (.Name n np) (gName i)) (hsw : swapsWith x (some (.Name n np)) pos.line X.env = pure true) :
  PS X (.Assign [.Name n np] x pos) (tS Γ H₀ g₀ ρ S (M.bind (useE cf ρ (.comp t js it ifs elt)) (fun p => M.bind (M.of (bindT p.2 (.one i) p.1)) fun ρ => M.pure (.next ρ)) S)) := by
 rw [bind_app]
 cases e : useE cf ρ (.comp t js it ifs elt) S with
 | err => exact ps_err
 | exc c S' => exact ps_exc
 | ok p S1 =>
  obtain ⟨⟨d, fr⟩, ρ1⟩ := p
  show PS X _ (tS Γ H₀ g₀ ρ S (M.bind (M.of (bindT ρ1 (.one i) (d, fr))) (fun ρ => M.pure (.next ρ)) S1))
  cases eb : bindT ρ1 (.one i) (d, fr) with
  | none => exact ps_err
  | some ρ2 =>
   refine (sCS hcf t js it ifs elt X c x _ S ok h n np pos i hp hsw).imp fun E σ H ⟨g, st, w, env, k⟩ => use_imp ⟨g, st, w, env, ?_⟩
   rw [e]
   exact fun v H' g' st' le w' env' vo ne => tg_bind (K := X.K) eb env' w'.rh vo ne fun σ' env2 => k σ' H' g' st' le w' env2
theorem s_asg1 (hcf : CfOk B cf) (w : Nat) (ok : XSt Γ B cf k X c) {t : T} {ts : List Expr} (h : chkC B c (.set t e) (.Assign ts x pos) = true) : PS X (.Assign ts x pos) (tS Γ H₀ g₀ ρ S (ex cf w (.set t e) ρ S)) := by
  have h : (match sole ts with
    | some tg => chkE B c e x && chkT c t tg && (match asName tg with
      | some q => !atOnce c q.1 q.2 x || isCompE e
      | none => isTupE tg && notTupE x)
    | none => false) = true := h
  cases e1 : sole ts with
  | none => rw [e1] at h; cases h
  | some tg =>
    rw [e1] at h
    have et := sole_is e1
    subst et
    have h : (chkE B c e x && chkT c t tg && (match asName tg with
      | some q => !atOnce c q.1 q.2 x || isCompE e
      | none => isTupE tg && notTupE x)) = true := h
    rw [Bool.and_eq_true, Bool.and_eq_true] at h
    obtain ⟨⟨h1, h2⟩, h3⟩ := h
    have hpg := tgt_ok ok.ok h2
    cases e2 : asName tg with
    | some q =>
      rw [e2] at h3
      have et := asName_is e2
      obtain ⟨n, np⟩ := q
      subst et
      have h3 : (!atOnce c n np x || isCompE e) = true := h3
      have hsw := swap_name (n := n) (np := np) ok.ok h1 pos.line
      cases ha : atOnce c n np x with
      | false =>
        rw [ha] at hsw
        exact s_set (ok.ok.useE hcf h1 ρ S) hpg hsw (stores_name x n np X.env) rfl
      | true =>
        rw [ha] at h3 hsw
        cases e with
        | comp t' js it ifs elt =>
          cases t with
          | one i => exact s_setc hcf ok.ok h1 hpg hsw
          | tup is => exact nobE h2
          | nst _ _ => exact nobE h2
        | _ => cases h3
    | none =>
      rw [e2] at h3
      have h3 : (isTupE tg && notTupE x) = true := h3
      rw [Bool.and_eq_true] at h3
      cases tg with
      | Tuple es kk p => exact s_set (ok.ok.useE hcf h1 ρ S) hpg (swap_tup x es kk p pos.line X.env) (stores_tup h3.2 es kk p X.env) rfl
      | _ => cases h3.1
theorem s_rt (hcf : CfOk B cf) (w : Nat) (ok : XSt Γ B cf k X c) (h : chkE B c e x = true) : PS X (.Return (some x) pos) (tS Γ H₀ g₀ ρ S (ex cf w (.ret e) ρ S)) := by
 cases e with
 | var i =>
  have hb : Nat.beq x.ctorIdx 23 = true := by revert h; cases x <;> first | exact non | exact fun _ => rfl
  revert h; apply ofName hb; clear hb; intro n p h
  have h : (c.N[i]? == some n && visK (c.names.lookup n) && plainN n) = true := h
  simp only [Bool.and_eq_true] at h
  obtain ⟨q1, q2, _⟩ := plain_of h.2
  exact s_retv (by rw [ok.ok.N]; exact eq_of_beq h.1.1) (ok.ok.vis h.1.2) q1 q2
 | _ => exact s_ret (ok.ok.useE hcf h ρ S)
theorem s_st2 (hcf : CfOk B cf) (w : Nat) (ok : XSt Γ B cf k X c) {o kx v : E} {ts : List Expr} (h : chkC B c (.sti o kx v) (.Assign ts x pos) = true) : PS X (.Assign ts x pos) (tS Γ H₀ g₀ ρ S (ex cf w (.sti o kx v) ρ S)) := by
  have h : (match (sole ts).bind asSub with
    | some q => chkE B c o q.1 && chkE B c kx q.2.1 && chkE B c v x
    | none => false) = true := h
  cases e1 : sole ts with
  | none => rw [e1] at h; cases h
  | some tg =>
    rw [e1] at h
    have et := sole_is e1
    subst et
    have h : (match asSub tg with
      | some q => chkE B c o q.1 && chkE B c kx q.2.1 && chkE B c v x
      | none => false) = true := h
    cases e2 : asSub tg with
    | none => rw [e2] at h; cases h
    | some q =>
      rw [e2] at h
      have et := asSub_is e2
      subst et
      obtain ⟨z, y, sp⟩ := q
      have h : (chkE B c o z && chkE B c kx y && chkE B c v x) = true := h
      simp only [Bool.and_eq_true] at h
      obtain ⟨⟨h1, h2⟩, h3⟩ := h
      exact s_sti (mv := useD cf ρ v) (mo := fun ρ => useD cf ρ o) (mk := fun ρ => useD cf ρ kx) ok.ok.u1 (ok.ok.useD hcf h3 ρ S) (fun ρ S => ok.ok.useD hcf h1 ρ S) (fun ρ S => ok.ok.useD hcf h2 ρ S) (noSl h2) (swap_sub x z y sp pos.line X.env) (stores_sub x z y sp X.env) rfl
mutual
theorem sC (hcf : CfOk B cf) (w : Nat) (ok : XSt Γ B cf k X c) : ∀ (s : C) (st : Stmt) (ρ : List Slot) (S : Store), chkC B c s st = true -> PS X st (tS Γ H₀ g₀ ρ S (ex cf w s ρ S))
  | .set t e, st, ρ, S, h => by
    have hb : Nat.beq st.ctorIdx 5 = true := by revert h; cases st <;> first | exact non | exact fun _ => rfl
    revert h; apply ofSAssign hb; clear hb; intro ts x pos h
    exact s_asg1 hcf w ok h
  | .expr e, st, ρ, S, h => by
    have hb : Nat.beq st.ctorIdx 24 = true := by revert h; cases st <;> first | exact non | exact fun _ => rfl
    revert h; apply ofSExpr hb; clear hb; intro x pos h
    have h : (chkE B c e x && notComp x) = true := h
    simp only [Bool.and_eq_true] at h
    exact s_expr (ok.ok.useE hcf h.1 ρ S) (notComp_swap h.2 none pos.line X.env)
  | .ret e, st, ρ, S, h => by
    have hb : Nat.beq st.ctorIdx 3 = true := by revert h; cases st <;> first | exact non | exact fun _ => rfl
    revert h; apply ofSReturn hb; clear hb; intro v pos h
    cases v with
    | none => exact nobE h
    | some x => exact s_rt hcf w ok h
  | .retN, st, ρ, S, h => by
    have hb : Nat.beq st.ctorIdx 3 = true := by revert h; cases st <;> first | exact non | exact fun _ => rfl
    revert h; apply ofSReturn hb; clear hb; intro v pos h
    cases v with
    | some x => exact nobE h
    | none => exact s_retN
  | .ite e a b, st, ρ, S, h => by
    have hb : Nat.beq st.ctorIdx 12 = true := by revert h; cases st <;> first | exact non | exact fun _ => rfl
    revert h; apply ofSIf hb; clear hb; intro x aa bb pos h
    have h : (chkE B c e x && chkCs B c a aa && chkCs B c b bb) = true := h
    simp only [Bool.and_eq_true] at h
    exact s_if (m := useB cf ρ e) (ok.ok.useB hcf h.1.1 ρ S) (fun ρ S => sCs hcf w ok a aa ρ S h.1.2) (fun ρ S => sCs hcf w ok b bb ρ S h.2)
  | .whl e b, st, ρ, S, h => by
    have hb : Nat.beq st.ctorIdx 11 = true := by revert h; cases st <;> first | exact non | exact fun _ => rfl
    revert h; apply ofSWhile hb; clear hb; intro x bb r pos h
    have h : (chkE B c e x && chkCs B c b bb && isNilL r) = true := h
    simp only [Bool.and_eq_true] at h
    have hr := isNil_is h.2
    subst hr
    exact s_while (mt := fun ρ => useB cf ρ e) (fun ρ S => ok.ok.useB hcf h.1.1 ρ S) (fun ρ S => sCs hcf w ok b bb ρ S h.1.2) ok.own
  | .forr t it b, st, ρ, S, h => by
    have hb : Nat.beq st.ctorIdx 9 = true := by revert h; cases st <;> first | exact non | exact fun _ => rfl
    revert h; apply ofSFor hb; clear hb; intro tgt x bb r pos h
    have h : (chkI B c it tgt x && chkT c t tgt && notSet x && chkCs B c b bb && isNilL r) = true := h
    simp only [Bool.and_eq_true] at h
    obtain ⟨⟨⟨⟨h1, h2⟩, h3⟩, h4⟩, h5⟩ := h
    have hr := isNil_is h5
    subst hr
    exact s_for (mi := useI cf ρ it) (s_useI (sI hcf it X c tgt x _ S ok.ok h1)) (tgt_ok ok.ok h2) (fun ρ S => sCs hcf w ok b bb ρ S h4) ok.own ok.ok.calm (folded_of h3 X.env)
  | .app i e, st, ρ, S, h => by
    have hb : Nat.beq st.ctorIdx 24 = true := by revert h; cases st <;> first | exact non | exact fun _ => rfl
    revert h; apply ofSExpr hb; clear hb; intro x pos h
    obtain ⟨n, np, ap, y, cp, rfl, h1, h3, h4, h5⟩ := chkMeth_is (show chkMeth B c "append" i e x = true from h)
    unfold chkN at h1
    simp only [Bool.and_eq_true] at h1
    obtain ⟨q1, q2, _⟩ := plain_of h1.2
    exact s_app (m := useD cf ρ e) (by rw [ok.ok.N]; exact eq_of_beq h1.1.1) (ok.ok.vis h1.1.2) q1 q2 (ok.ok.useD hcf h3 ρ S) h4 h5 fun r ρ' S' d e1 e2 => useD_ow e1 e2
  | .ext i e, st, ρ, S, h => by
    have hb : Nat.beq st.ctorIdx 24 = true := by revert h; cases st <;> first | exact non | exact fun _ => rfl
    revert h; apply ofSExpr hb; clear hb; intro x pos h
    obtain ⟨n, np, ap, y, cp, rfl, h1, h3, h4, h5⟩ := chkMeth_is (show chkMeth B c "extend" i e x = true from h)
    unfold chkN at h1
    simp only [Bool.and_eq_true] at h1
    obtain ⟨q1, q2, _⟩ := plain_of h1.2
    exact s_ext (m := useD cf ρ e) (by rw [ok.ok.N]; exact eq_of_beq h1.1.1) (ok.ok.vis h1.1.2) q1 q2 (ok.ok.useD hcf h3 ρ S) h4 h5 fun r ρ' S' d e1 e2 => useD_ow e1 e2
  | .stv _ _ _, st, ρ, S, h => by revert h; cases st <;> exact nobE
  | .sti o kx v, st, ρ, S, h => by
    have hb : Nat.beq st.ctorIdx 5 = true := by revert h; cases st <;> first | exact non | exact fun _ => rfl
    revert h; apply ofSAssign hb; clear hb; intro ts x pos h
    exact s_st2 hcf w ok h
  | .appR o e, st, ρ, S, h => by
    have hb : Nat.beq st.ctorIdx 24 = true := by revert h; cases st <;> first | exact non | exact fun _ => rfl
    revert h; apply ofSExpr hb; clear hb; intro x pos h
    obtain ⟨n, np, ap, y, cp, rfl, h1, h3, h4, h5⟩ := chkAppR_is (show chkAppR B c o e x = true from h)
    exact s_appR (mo := useD cf ρ o) (me := fun ρ => useD cf ρ e) (ok.ok.useD hcf h1 ρ S) (fun ρ S => ok.ok.useD hcf h3 ρ S) h4 h5
  | .pop i, st, ρ, S, h => by
    have hb : Nat.beq st.ctorIdx 24 = true := by revert h; cases st <;> first | exact non | exact fun _ => rfl
    revert h; apply ofSExpr hb; clear hb; intro x pos h
    obtain ⟨n, np, ap, cp, rfl, h1, h5⟩ := chkPop_is (show chkPop c i x = true from h)
    unfold chkN at h1
    simp only [Bool.and_eq_true] at h1
    obtain ⟨q1, q2, _⟩ := plain_of h1.2
    exact s_pop (by rw [ok.ok.N]; exact eq_of_beq h1.1.1) (ok.ok.vis h1.1.2) q1 q2 h5
  | .popR t o, st, ρ, S, h => by
    have hb : Nat.beq st.ctorIdx 5 = true := by revert h; cases st <;> first | exact non | exact fun _ => rfl
    revert h; apply ofSAssign hb; clear hb; intro ts x pos h
    have h : (match sole ts with
      | some tg => chkT c t tg && isTupE tg && chkPopR B c o x
      | none => false) = true := h
    cases e1 : sole ts with
    | none => rw [e1] at h; cases h
    | some tg =>
      rw [e1] at h
      have et := sole_is e1
      subst et
      have h : (chkT c t tg && isTupE tg && chkPopR B c o x) = true := h
      rw [Bool.and_eq_true, Bool.and_eq_true] at h
      obtain ⟨⟨h2, h3⟩, h1⟩ := h
      obtain ⟨n, np, ap, cp, rfl, h4, h5⟩ := chkPopR_is h1
      have hpg := tgt_ok ok.ok h2
      cases tg with
      | Tuple es kk p => exact s_set (s_popE (mo := useD cf ρ o) (ok.ok.useD hcf h4 ρ S) h5) hpg (swap_tup _ es kk p pos.line X.env) (stores_tup rfl es kk p X.env) rfl
      | _ => cases h3
  | .pass, st, ρ, S, h => by
    have hb : Nat.beq st.ctorIdx 25 = true := by revert h; cases st <;> first | exact non | exact fun _ => rfl
    revert h; apply ofSPass hb; clear hb; intro pos h
    exact s_pass
  | .brk, st, ρ, S, h => by
    have hb : Nat.beq st.ctorIdx 26 = true := by revert h; cases st <;> first | exact non | exact fun _ => rfl
    revert h; apply ofSBreak hb; clear hb; intro pos h
    exact s_brk
  | .cnt, st, ρ, S, h => by
    have hb : Nat.beq st.ctorIdx 27 = true := by revert h; cases st <;> first | exact non | exact fun _ => rfl
    revert h; apply ofSContinue hb; clear hb; intro pos h
    exact s_cnt
theorem sCs (hcf : CfOk B cf) (w : Nat) (ok : XSt Γ B cf k X c) : ∀ (ss : List C) (sts : List Stmt) (ρ : List Slot) (S : Store), chkCs B c ss sts = true -> PSs X sts (tS Γ H₀ g₀ ρ S (exs cf w ss ρ S))
 | [], sts, ρ, S, h => by
  cases sts with
  | nil => exact s_snil
  | cons _ _ => exact nobE h
 | s :: ss, sts, ρ, S, h => by
  cases sts with
  | nil => exact nobE h
  | cons st sts =>
   have h : (chkC B c s st && chkCs B c ss sts) = true := h
   rw [Bool.and_eq_true] at h
   exact s_scons (m := ex cf w s ρ) (sC hcf w ok s st ρ S h.1) fun ρ S => sCs hcf w ok ss sts ρ S h.2
end
end
end EV
namespace EV
open PySem PySem.Spec PyProof.Rows L2
theorem ln1 {α : Type} : ∀ {l : List α}, l.length = 1 -> ∃ a, l = [a]
 | [a], _ => ⟨a, rfl⟩
theorem ln2 {α : Type} {l : List α} (h : l.length = 2) : ∃ a0 a1, l = [a0, a1] := by
 cases l with
 | nil => cases h
 | cons a0 l =>
  obtain ⟨a1, rfl⟩ := ln1 (Nat.succ.inj h)
  exact ⟨a0, a1, rfl⟩
theorem ln3 {α : Type} {l : List α} (h : l.length = 3) : ∃ a0 a1 a2, l = [a0, a1, a2] := by
 cases l with
 | nil => cases h
 | cons a0 l =>
  obtain ⟨a1, a2, rfl⟩ := ln2 (Nat.succ.inj h)
  exact ⟨a0, a1, a2, rfl⟩
theorem ln4 {α : Type} {l : List α} (h : l.length = 4) : ∃ a0 a1 a2 a3, l = [a0, a1, a2, a3] := by
 cases l with
 | nil => cases h
 | cons a0 l =>
  obtain ⟨a1, a2, a3, rfl⟩ := ln3 (Nat.succ.inj h)
  exact ⟨a0, a1, a2, a3, rfl⟩
structure Row where
 name : Str
 st : Stmt
 ps : List Str
 N : List Str
 fn : Fn
noncomputable def fnsOf (rs : List Row) : Nat -> Option Fn := fun i => (rs[i]?).map (·.fn)
noncomputable def scopeB (N ps : List Str) (sc : Scope) : Bool :=
 (sc.kind == .function) && !sc.isCoroutine && !sc.isGenerator && decide N.Nodup && (N.take ps.length == ps) && ps.all (fun x => sc.names.lookup x == some .local || sc.names.lookup x == some .cell) && sc.names.all (fun y => y.2 != .free)
theorem scopeB_is {N ps : List Str} {sc : Scope} (h : scopeB N ps sc = true) : FnScope N ps sc := by
 unfold scopeB at h
 simp only [Bool.and_eq_true, List.all_eq_true, Bool.or_eq_true, decide_eq_true_eq, Bool.not_eq_true', beq_iff_eq, bne_iff_ne] at h
 obtain ⟨⟨⟨⟨⟨⟨h1, h2⟩, h3⟩, h4⟩, h5⟩, h6⟩, h7⟩ := h
 exact ⟨h1, h2, h3, h4, h5, h6, h7⟩
structure RowOk (B : Tb) (r : Row) : Prop where
 sc : scopeB r.N r.ps (defScope r.st) = true
 ck : chkCs B ⟨(defScope r.st).names, r.N, true⟩ r.fn.body (defBody r.st) = true
 np : r.fn.np = r.ps.length
 nv : r.fn.nv = r.N.length
 bd : ∀ (kV doc pm : Value) (an : Option Addr) (cdv ct : Value) (us : List Value), us.length = r.ps.length -> bindArgs (PySem.W.fnOf r.name r.name (defArgs r.st) (defBody r.st) (defScope r.st) .none kV doc pm an cdv ct) ⟨us, []⟩ = pure (r.ps.zip us)
noncomputable def KwOk (rs : List Row) (q : Nat × List Str × List Nat) : Prop := q.2.1 ≠ [] /\ ∀ r, rs[q.1]? = some r -> ∀ (kV doc pm : Value) (an : Option Addr) (cdv ct : Value) (ws : List Value), ws.length = q.2.1.length ->
 bindArgs (PySem.W.fnOf r.name r.name (defArgs r.st) (defBody r.st) (defScope r.st) .none kV doc pm an cdv ct) ⟨[], q.2.1.zip ws⟩ = pure (r.ps.zip (q.2.2.map fun i => ws.getD i .none))
structure DefAt (K : PySem.W.Frag) (x : Str) (st : Stmt) : Prop where
 ex : ∃ f fd, Fun K x x st f fd /\ PySem.W.nsIn K mainGlobals x = some (some (.ref f))
theorem def_mk {K : PySem.W.Frag} {x : Str} {st : Stmt} {f : Addr} {oc : Value} {od an : Option Addr} {osl : Array (Option Value)} {kV doc pm cdv ct : Value} (a : PySem.W.nsIn K mainGlobals x = some (some (.ref f)))
  (l : K.lookup f = some ⟨oc, od, .func (PySem.W.fnOf x x (defArgs st) (defBody st) (defScope st) .none kV doc pm an cdv ct), osl⟩) (c : PySem.W.codeIn K cdv x = true) (k : PySem.W.keepIn K (.ref f) = true) : DefAt K x st := ⟨f, _, fun_mk l c k, a⟩
noncomputable def faOf (K : PySem.W.Frag) (r : Row) : Option Addr := open Classical in if h : ∃ f, ∃ fd, Fun K r.name r.name r.st f fd /\ PySem.W.nsIn K mainGlobals r.name = some (some (.ref f)) then some (Classical.choose h) else none
theorem faOf_is {K : PySem.W.Frag} {r : Row} (h : ∃ f, ∃ fd, Fun K r.name r.name r.st f fd /\ PySem.W.nsIn K mainGlobals r.name = some (some (.ref f))) : faOf K r = some (Classical.choose h) := by
 unfold faOf
 exact dif_pos h
noncomputable def gmOf (K : PySem.W.Frag) (rs : List Row) : Gm where
 K := K
 fa := fun i => (rs[i]?).bind (faOf K)
 ca := fun _ => none
noncomputable def AllR {α : Type} (Q : α -> Prop) : List α -> Prop
 | [] => True
 | a :: r => Q a /\ AllR Q r
theorem AllR.at {α : Type} {Q : α -> Prop} : ∀ {l : List α} {i : Nat} {a : α}, AllR Q l -> l[i]? = some a -> Q a
 | [], _, _, _, h => by simp at h
 | b :: r, 0, a, ⟨h, _⟩, e => by simp at e; subst e; exact h
 | b :: r, i + 1, a, ⟨_, h⟩, e => AllR.at (i := i) h (by simpa using e)
theorem AllR.mem {α : Type} {Q : α -> Prop} : ∀ {l : List α} {a : α}, AllR Q l -> a ∈ l -> Q a
 | b :: r, a, ⟨h, t⟩, e => by
  rcases List.mem_cons.mp e with rfl | q
  ·exact h
  ·exact AllR.mem t q
structure ModOk (K : PySem.W.Frag) (mg : Str -> Option Value) (B : Tb) (rs : List Row) : Prop where
 fns : B.fns = rs.map (·.name)
 pars : B.pars = rs.map (·.ps)
 rows : AllR (RowOk B) rs
 kws : AllR (KwOk rs) B.kws
 defs : AllR (fun r => DefAt K r.name r.st) rs
 gl : ∀ x u, PySem.W.nsIn K mainGlobals x = some u -> mg x = u
 bare : ∀ x ∈ B.bare, PySem.W.nsIn K mainGlobals x = some none
 consts : ∀ (n : Nat) (x : Str) (d : D), B.consts[n]? = some (x, d) -> ∃ u v, PySem.W.nsIn K mainGlobals x = some (some u) /\ RelV v u /\ ∀ g, Has (gmOf K rs) g d v
section
variable {P : Program} {w : World} {K : PySem.W.Frag} {mg : Str -> Option Value} {base : Heap} {B : Tb} {rs : List Row}
theorem cf_ok {F : Nat -> Option Fn} {wh k : Nat} (h : ∀ f fn ps, F f = some fn -> B.pars[f]? = some ps -> fn.np = ps.length) : CfOk B (call F wh k) := by
 intro f ds S ps hp hne
 cases k with
 | zero => exact absurd rfl hne
 | succ k =>
  cases e : F f with
  | none =>
   refine absurd ?_ hne
   unfold call
   simp only [e]
   rfl
  | some fn =>
   by_cases hl : ds.length = fn.np
   ·rw [hl, h f fn ps e hp]
   ·refine absurd ?_ hne
    unfold call
    simp only [e, if_neg hl]
    rfl
theorem start_env {Γ : Gm} {H : Hp} {g : G} {fn : Fn} {N : List Str} {ds : List D} {vs : List V} (h : Hass Γ g ds vs) (hn : fn.nv = N.length) : EnvO Γ H H g (entry fn ds) (L2.start N vs) := by
 have hl := h.len
 have key : ∀ (i : Nat) (s : Slot), (entry fn ds)[i]? = some s -> (∃ d, ds[i]? = some d /\ s = .sh d) \/ s = .no := by
  intro i s e
  unfold entry at e
  by_cases hi : i < ds.length
  ·rw [List.getElem?_append_left (by simpa using hi), List.getElem?_map, List.getElem?_eq_getElem hi] at e
   cases e
   exact .inl ⟨ds[i], List.getElem?_eq_getElem hi, rfl⟩
  ·rw [List.getElem?_append_right (by simpa using Nat.le_of_not_lt hi), List.getElem?_replicate] at e
   split at e
   ·cases e; exact .inr rfl
   ·cases e
 refine ⟨?_, fun i d e => ?_, fun i d e => ?_, fun i j d e a h1 => ?_⟩
 ·unfold entry L2.start
  simp [hl, hn]
 ·rcases key i _ e with ⟨d', e1, e2⟩ | e2
  ·cases e2
   obtain ⟨v, q, hv⟩ := h.get e1
   refine ⟨v, ?_, hv⟩
   unfold L2.start
   have hi := (List.getElem?_eq_some_iff.mp q).1
   rw [List.getElem?_append_left (by simpa using hi), List.getElem?_map, q]
   rfl
  ·cases e2
 ·rcases key i _ e with ⟨d', e1, e2⟩ | e2 <;> cases e2
 ·rcases key i _ h1 with ⟨d', e1, e2⟩ | e2 <;> cases e2
theorem passes0 {X : Cx} (h : X.xe = fun _ _ => False) : PassesOwn (model X.prog X.w) X.A X.env X.xe := by
 rw [h]
 exact PassesOwn.never
theorem fn_e {wh k f : Nat} {r : Row} {fa : Addr} {fd : FuncData} (md : ModOk K mg B rs) (hr : rs[f]? = some r) (F : Fun K r.name r.name r.st fa fd) (ih : ∀ (g : Nat) (x : Str), B.fns[g]? = some x -> FnI (gmOf K rs) B (call (fnsOf rs) wh k) k P w K mg base g x) :
    FnOk P w K mg base CX0 (k + 1) fa fd r.ps (spE (gmOf K rs) (call (fnsOf rs) wh (k + 1)) f r.ps.length) := by
  have ro := md.rows.at hr
  have sc := scopeB_is ro.sc
  have hcf : CfOk B (call (fnsOf rs) wh k) := cf_ok fun f fn ps h1 h2 => by
    unfold fnsOf at h1
    rw [md.pars, List.getElem?_map] at h2
    cases e : rs[f]? with
    | none => rw [e] at h1; cases h1
    | some q =>
      rw [e] at h1 h2
      cases h1
      cases h2
      exact (md.rows.at e).np
  refine F.ok sc (fun vs H Q E h => h.1) fun cdv A outer s H vs Q E hrm h => ?_
  obtain ⟨hl, g, ds, S, wok, hh, kk⟩ := h
  have ec : call (fnsOf rs) wh (k + 1) f ds S = M.bind (exs (call (fnsOf rs) wh k) wh r.fn.body (entry r.fn ds)) told S := by
    have e1 : fnsOf rs f = some r.fn := by
      unfold fnsOf
      rw [hr]
      rfl
    have e2 : ds.length = r.fn.np := by rw [ro.np, <- hh.len, hl]
    show (match fnsOf rs f with
      | some fn => if ds.length = fn.np then M.bind (exs (call (fnsOf rs) wh k) wh fn.body (entry fn ds)) told else M.fail
      | none => M.fail) S = _
    rw [e1]
    show (if ds.length = r.fn.np then M.bind (exs (call (fnsOf rs) wh k) wh r.fn.body (entry r.fn ds)) told else M.fail) S = _
    rw [if_pos e2]
  rw [ec] at kk
  refine ⟨tS (gmOf K rs) H g (entry r.fn ds) S (exs (call (fnsOf rs) wh k) wh r.fn.body (entry r.fn ds) S), sCs (c := ⟨(defScope r.st).names, r.N, true⟩) hcf wh ⟨⟨rfl, rfl, sc.kind, rfl, sc.nd, fun _ _ => rfl, rfl, hrm, fun x hx => ?_, ih, fun x hx => ?_, fun n x d e => ?_⟩, rfl, passes0 rfl⟩ r.fn.body (defBody r.st) _ S ro.ck, g, Step.refl H g, wok, start_env hh ro.nv, ?_⟩
  · rcases hx with hx | hx
    · exact cell_has hx
    · exact absurd rfl (sc.nofree _ (PySem.mem_of_lookup hx))
  · exact md.gl x none (md.bare x hx)
  · obtain ⟨u, v, e1, e2, e3⟩ := md.consts n x d e
    exact ⟨u, v, md.gl x (some u) e1, e2, e3⟩
  · rw [bind_app] at kk
    cases er : exs (call (fnsOf rs) wh k) wh r.fn.body (entry r.fn ds) S with
    | err => rw [er] at kk; exact kk.elim
    | exc c S' => rw [er] at kk; exact kk.elim
    | ok o S' =>
      rw [er] at kk
      cases o with
      | next ρ' => exact fun σ' H' g' st le w' env => kk .non H' g' st (fun q => by cases q) w' rfl
      | ret d fr => exact fun v H' g' st le w' vo => kk v H' g' st (fun q => by cases q) w' vo
      | brk ρ' => exact kk.elim
      | cnt ρ' => exact kk.elim
theorem fn_0 {f : Nat} {wh : Nat} {fa : Addr} {fd : FuncData} {ps : List Str} {Γ : Gm} {F : Nat -> Option Fn} : FnOk P w K mg base CX0 0 fa fd ps (spE Γ (call F wh 0) f ps.length) :=
 ⟨fun vs H Q E h => h.1, fun A outer s H args us vs Q E hr he hb hv ⟨_, g, ds, S, _, _, kk⟩ => kk.elim⟩
theorem vals_getD : ∀ {zs : List V} {ws : List Value} (i : Nat), Vals zs ws -> RelV (zs.getD i .non) (ws.getD i .none)
 | _, _, _, .nil => rfl
 | _, _, 0, .cons h _ => h
 | _, _, i + 1, .cons _ t => by
  have := vals_getD i t
  simpa using this
theorem vals_map {zs : List V} {ws : List Value} (h : Vals zs ws) : ∀ (perm : List Nat), Vals (perm.map fun i => zs.getD i .non) (perm.map fun i => ws.getD i .none)
 | [] => .nil
 | i :: r => .cons (vals_getD i h) (vals_map h r)
theorem fnI_of {wh k : Nat} (md : ModOk K mg B rs) (h : ∀ (f : Nat) (r : Row) (fa : Addr) (fd : FuncData), rs[f]? = some r -> Fun K r.name r.name r.st fa fd -> FnOk P w K mg base CX0 k fa fd r.ps (spE (gmOf K rs) (call (fnsOf rs) wh k) f r.ps.length)) :
  ∀ (f : Nat) (x : Str), B.fns[f]? = some x -> FnI (gmOf K rs) B (call (fnsOf rs) wh k) k P w K mg base f x := by
 intro f x hx
 rw [md.fns, List.getElem?_map] at hx
 cases hr : rs[f]? with
 | none => rw [hr] at hx; cases hx
 | some r =>
  rw [hr] at hx
  cases hx
  have da : ∃ f, ∃ fd, Fun K r.name r.name r.st f fd /\ PySem.W.nsIn K mainGlobals r.name = some (some (.ref f)) := (md.defs.at hr).ex
  obtain ⟨fd, F, na⟩ := Classical.choose_spec da
  have ro := md.rows.at hr
  refine ⟨Classical.choose da, fd, r.ps, ?_, md.gl _ _ na, F.kp, F.binds ro.bd, ?_, h f r _ fd hr F, fun ks perm h1 h2 h3 h4 h5 => ?_⟩
  ·show (rs[f]?).bind (faOf K) = _
   rw [hr]
   exact faOf_is da
  ·rw [md.pars, List.getElem?_map, hr]
   rfl
  ·have hk := md.kws.mem h5
   obtain ⟨oc, od, kV, doc, pm, an, cdv, ct, osl, hfd, lk, hcd⟩ := F.ex
   refine ⟨fun s us ws _ hl => ?_, fun {vs us zs ws} r1 r2 => ?_⟩
   ·have hl : (if ws.length = ks.length then us ++ perm.map fun i => ws.getD i .none else []).length = r.ps.length := hl
    show BindsTo s fd ⟨us, ks.zip ws⟩ (r.ps.zip (if ws.length = ks.length then us ++ perm.map fun i => ws.getD i .none else []))
    by_cases hw : ws.length = ks.length
    ·rw [if_pos hw] at hl ⊢
     have hu : us = [] := by
      cases us with
      | nil => rfl
      | cons _ _ => simp at hl; omega
     subst hu
     rw [hfd]
     exact .of_eq (hk.2 r hr kV doc pm an cdv ct ws hw)
    ·rw [if_neg hw] at hl ⊢
     have h0 : r.ps = [] := List.length_eq_zero_iff.mp hl.symm
     have hk0 : ks = [] := List.length_eq_zero_iff.mp (by rw [h4, h0]; rfl)
     exact absurd hk0 hk.1
   ·show Vals (if zs.length = ks.length then vs ++ perm.map fun i => zs.getD i .non else []) (if ws.length = ks.length then us ++ perm.map fun i => ws.getD i .none else [])
    rw [r2.length]
    split
    ·exact r1.append (vals_map r2 perm)
    ·exact .nil
theorem all_ok (wh : Nat) (md : ModOk K mg B rs) : ∀ (k f : Nat) (x : Str), B.fns[f]? = some x -> FnI (gmOf K rs) B (call (fnsOf rs) wh k) k P w K mg base f x
 | 0 => fnI_of md fun f r fa fd hr F => fn_0
 | k + 1 => fnI_of md fun f r fa fd hr F => fn_e md hr F (all_ok wh md k)
end
end EV
namespace EV
open PySem PySem.Spec PyProof.Rows L2
structure LawI where
 name : Str
 st : Stmt
 ps : List Str
 N : List Str
 pre : List C
 it : E
 t : T
 body : List C
 rest : List C
 j : Nat
@[simp] noncomputable def LawI.c (l : LawI) : Cc := ⟨(defScope l.st).names, l.N, true⟩
end EV
namespace EV
open PySem PySem.Spec PyProof.Rows L2
structure Txt (K : PySem.W.Frag) (B : Tb) (rs : List Row) : Prop where
 defs : AllR (fun r => DefAt K r.name r.st) rs
 bare : AllR (fun x => PySem.W.nsIn K mainGlobals x = some none) B.bare
 consts : ∀ (n : Nat) (x : Str) (d : D), B.consts[n]? = some (x, d) -> ∃ u v, PySem.W.nsIn K mainGlobals x = some (some u) /\ RelV v u /\ ∀ g, Has (gmOf K rs) g d v
structure Tabs (B : Tb) (rs : List Row) : Prop where
 fns : B.fns = rs.map (·.name)
 pars : B.pars = rs.map (·.ps)
 rows : AllR (RowOk B) rs
 kws : AllR (KwOk rs) B.kws
theorem mod_ok {K : PySem.W.Frag} {B : Tb} {rs : List Row} {h : Heap} {mg : Str -> Option Value} (t : Tabs B rs) (x : Txt K B rs) (X : K.In h) (N : h.Ns mainGlobals mg) : ModOk K mg B rs where
 fns := t.fns
 pars := t.pars
 rows := t.rows
 kws := t.kws
 defs := x.defs
 gl := fun y u e => by
  cases u with
  | none => exact PySem.W.mg_none_of X N e
  | some v => exact PySem.W.mg_of X N e
 bare := fun y hy => x.bare.mem hy
 consts := x.consts
end EV
namespace EV
open PySem PySem.Spec PyProof.Rows L2
theorem walkE {l : PySem.W.OpenLaw} {q : Program} {loose : List Str} {XP : (Str -> Option Value) -> Heap -> Prop} {YP : World -> Heap -> Prop} {d : DefRec} {K : Params -> PySem.W.Frag} {B : Tb} {rs : List Row} {f : Nat} {r : Row} {y : Str} {wh : Nat} (hn : l.most = some 63) (hdf : d.params.defaults = [])
  (hr : rs[f]? = some r) (hd : d.name = r.name) (hps : r.ps = [y]) (t : Tabs B rs) (hY : ∀ (w : World) (h : Heap), YP w h -> (K w.params).In h) (T : ∀ (w : World) (h : Heap), (K w.params).In h -> Txt (K w.params) B rs)
  (run : ∀ ns : List Int, ns.length <= 63 -> ∃ S, call (fnsOf rs) wh 60 f [.scr ns] [] = .ok (.bl true, false) S) : PySem.W.WalkO q loose XP YP l.row.toRowW d [] (fun f vs => PySem.call f vs) := by
 refine L2.walk_of (n := 63) (k := 60) (x := y) (CX := fun _ => CX0) (sp := fun w => spE (gmOf (K w.params) rs) (call (fnsOf rs) wh 60) f 1) hn (by decide) hdf ⟨rfl, by decide, by decide⟩ hY (fun w mg fa h KX N hmg => ?_) (fun w H a ns hl _ hS => ?_) fun _ _ _ _ _ z => z
 ·have tx := T w h KX
  obtain ⟨fa', fd, F, na⟩ := (tx.defs.at hr).ex
  rw [hd] at hmg
  have e := hmg.symm.trans (PySem.W.mg_of KX N na)
  cases e
  have ro := t.rows.at hr
  refine ⟨fd, fun s v => ?_, fun base KB NB => ?_⟩
  ·obtain ⟨oc, od, kV, doc, pm, an, cdv, ct, osl, rfl, lk, hcd⟩ := F.ex
   have hb := ro.bd kV doc pm an cdv ct [v] (by rw [hps]; rfl)
   rw [hps] at hb
   exact .of_eq hb
  ·have md := mod_ok t tx KX N
   have := fn_e (P := l.prog) (w := w) (base := base) (wh := wh) (k := 59) md hr F (all_ok wh md 59)
   rw [hps] at this
   exact this
 ·obtain ⟨S, hS'⟩ := run ns hl
  refine ⟨rfl, ⟨H, []⟩, [.scr ns], [], ⟨Same.refl H, rfl, List.nodup_nil, fun b hb => (List.not_mem_nil hb).elim, fun k c b h1 _ => by cases h1⟩, ⟨.ref a, [], rfl, ⟨a, rfl, hS⟩, rfl⟩, ?_⟩
  rw [hS']
  exact fun v H' g' _ _ _ hv => hv
end EV
namespace EV
open PySem L2
section
variable {cf : Cf} {w : Nat} {ρ ρ1 ρ2 : List Slot} {S S1 S2 S3 : Store} {c : C} {cs : List C} {d : D} {fr : Bool} {r : R O} {vs : List (Option D)}
theorem bindS {α β : Type} {m : M α} {f : α -> M β} {a : α} {q : R β} (h : m S = .ok a S1) (k : f a S1 = q) : M.bind m f S = q := (bind_ok h).trans k
theorem call_at {F : Nat -> Option Fn} {k f : Nat} {fn : Fn} {ds : List D} (hf : F f = some fn) (hl : ds.length = fn.np) (h : exs (call F w k) w fn.body (entry fn ds) S = .ok (.ret d fr) S1) : call F w (k + 1) f ds S = .ok (d, fr) S1 := by
  show (match F f with
    | some fn => if ds.length = fn.np then M.bind (exs (call F w k) w fn.body (entry fn ds)) told else M.fail
    | none => M.fail) S = _
  rw [hf]
  show (if ds.length = fn.np then M.bind (exs (call F w k) w fn.body (entry fn ds)) told else M.fail) S = _
  rw [if_pos hl]
  exact bindS h rfl
theorem call_nx {F : Nat -> Option Fn} {k f : Nat} {fn : Fn} {ds : List D} (hf : F f = some fn) (hl : ds.length = fn.np) (h : exs (call F w k) w fn.body (entry fn ds) S = .ok (.next ρ) S1) : call F w (k + 1) f ds S = .ok (.non, false) S1 := by
  show (match F f with
    | some fn => if ds.length = fn.np then M.bind (exs (call F w k) w fn.body (entry fn ds)) told else M.fail
    | none => M.fail) S = _
  rw [hf]
  show (if ds.length = fn.np then M.bind (exs (call F w k) w fn.body (entry fn ds)) told else M.fail) S = _
  rw [if_pos hl]
  exact bindS h rfl
theorem nx (h : ex cf w c ρ S = .ok (.next ρ1) S1) (k : exs cf w cs ρ1 S1 = r) : exs cf w (c :: cs) ρ S = r := bindS h k
theorem rt (h : ex cf w c ρ S = .ok (.ret d fr) S1) : exs cf w (c :: cs) ρ S = .ok (.ret d fr) S1 := bindS h rfl
variable {e e1 e2 e3 : E} {es : List E} {x y z : D} {f1 f2 f3 : Bool} {ds : List D} {p : D × Bool}
theorem ev_call {f : Nat} {q : R (D × Bool)} (h : evs cf vs es S = .ok ds S1) (k : cf f ds S1 = q) : ev cf vs (.call f es) S = q := bindS h k
theorem ev_callk {f : Nat} {perm : List Nat} {ds' : List D} {q : R (D × Bool)} (h : evs cf vs es S = .ok ds S1) (hp : (perm.mapM fun i => ds[i]?) = some ds') (k : cf f ds' S1 = q) : ev cf vs (.callk f perm es) S = q :=
 bindS h (bindS (a := ds') (S1 := S1) (by rw [hp]; rfl) k)
theorem evs_cons (h : ev cf vs e S = .ok (x, f1) S1) (k : evs cf vs es S1 = .ok ds S2) : evs cf vs (e :: es) S = .ok (x :: ds) S2 :=
 bindS h (bindS (a := x) (S1 := S1) rfl (bindS k rfl))
theorem ev_bin {op : Operator} (h1 : ev cf vs e1 S = .ok (x, f1) S1) (h2 : ev cf vs e2 S1 = .ok (y, f2) S2) (h : opD op (deref S2 x) (deref S2 y) = some p) : ev cf vs (.bin op e1 e2) S = .ok p S2 :=
 bindS h1 (bindS (a := x) (S1 := S1) rfl (bindS h2 (bindS (a := y) (S1 := S2) rfl (bindS (a := S2) (S1 := S2) rfl (by rw [h]; rfl)))))
theorem ev_cmp {op : CmpOp} {b : Bool} (h1 : ev cf vs e1 S = .ok (x, f1) S1) (h2 : ev cf vs e2 S1 = .ok (y, f2) S2) (h : cmpD op (deref S2 x) (deref S2 y) = some b) : ev cf vs (.cmp op e1 e2) S = .ok (.bl b, false) S2 :=
 bindS h1 (bindS (a := x) (S1 := S1) rfl (bindS h2 (bindS (a := y) (S1 := S2) rfl (bindS (a := S2) (S1 := S2) rfl (by rw [h]; rfl)))))
theorem ev_sub (h1 : ev cf vs e1 S = .ok (x, f1) S1) (h2 : ev cf vs e2 S1 = .ok (y, f2) S2) (h : subD (deref S2 x) y = some d) : ev cf vs (.sub e1 e2) S = .ok (d, false) S2 :=
 bindS h1 (bindS (a := x) (S1 := S1) rfl (bindS h2 (bindS (a := y) (S1 := S2) rfl (bindS (a := S2) (S1 := S2) rfl (by rw [h]; rfl)))))
theorem ev_bi {b : BI} (h : evs cf vs es S = .ok ds S1) (k : biD b (ds.map (deref S1)) = some p) : ev cf vs (.bi b es) S = .ok p S1 :=
 bindS h (bindS (a := S1) (S1 := S1) rfl (by rw [k]; rfl))
theorem ev_tup (h : evs cf vs es S = .ok ds S1) (k : fits ds.length = true) : ev cf vs (.tup es) S = .ok (.tup ds, false) S1 := bindS h (by rw [if_pos k]; rfl)
theorem ev_lst (h : evs cf vs es S = .ok ds S1) (k : fits ds.length = true) : ev cf vs (.lst es) S = .ok (.lst ds, true) S1 := bindS h (by rw [if_pos k]; rfl)
theorem ev_not {b : Bool} (h : ev cf vs e S = .ok (.bl b, f1) S1) : ev cf vs (.not e) S = .ok (.bl (!b), false) S1 := bindS h (bindS (a := b) (S1 := S1) rfl rfl)
theorem ev_and1 {q : R (D × Bool)} (h : ev cf vs e1 S = .ok (.bl true, f1) S1) (k : ev cf vs e2 S1 = q) : ev cf vs (.and e1 e2) S = q := bindS h k
theorem ev_and0 (h : ev cf vs e1 S = .ok (.bl false, f1) S1) : ev cf vs (.and e1 e2) S = .ok (.bl false, false) S1 := bindS h rfl
theorem ev_or0 {q : R (D × Bool)} (h : ev cf vs e1 S = .ok (.bl false, f1) S1) (k : ev cf vs e2 S1 = q) : ev cf vs (.or e1 e2) S = q := bindS h k
theorem ev_or1 (h : ev cf vs e1 S = .ok (.bl true, f1) S1) : ev cf vs (.or e1 e2) S = .ok (.bl true, false) S1 := bindS h rfl
theorem ev_iteT {q : R (D × Bool)} (h : ev cf vs e1 S = .ok (.bl true, f1) S1) (k : ev cf vs e2 S1 = q) : ev cf vs (.ite e1 e2 e3) S = q := bindS h (bindS (a := true) (S1 := S1) rfl k)
theorem ev_iteF {q : R (D × Bool)} (h : ev cf vs e1 S = .ok (.bl false, f1) S1) (k : ev cf vs e3 S1 = q) : ev cf vs (.ite e1 e2 e3) S = q := bindS h (bindS (a := false) (S1 := S1) rfl k)
theorem ev_box (h : ev cf vs e S = .ok (x, true) S1) : ev cf vs (.box e) S = .ok (.ref S1.length, false) (S1 ++ [x]) := bindS h rfl
theorem use_n (ho : owFrom (occ e) 0 ρ = false) (h : ev cf (visO (occ e) ρ) e S = .ok p S1) : useE cf ρ e S = .ok (p, ρ) S1 :=
 bindS (a := S) (S1 := S) rfl (bindS h (by rw [ho]; rfl))
theorem use_p (ho : owFrom (occ e) 0 ρ = true) (hp : (isPure e && clean p.1 p.2) = true) (h : ev cf (visO (occ e) ρ) e S = .ok p S1) : useE cf ρ e S = .ok (p, ρ) S :=
 bindS (a := S) (S1 := S) rfl (bindS h (by rw [if_pos ho, if_pos hp]; rfl))
theorem use_f (ho : owFrom (occ e) 0 ρ = true) (hp : (isPure e && clean p.1 p.2) = false) (h : ev cf (visO (occ e) ρ) e S = .ok p S1) : useE cf ρ e S = .ok (p, frzO (occ e) ρ) S1 :=
 bindS (a := S) (S1 := S) rfl (bindS h (by rw [if_pos ho, hp]; rfl))
theorem use_d (h : useE cf ρ e S = .ok ((x, f1), ρ1) S1) : useD cf ρ e S = .ok (x, ρ1) S1 := bindS h (bindS (a := x) (S1 := S1) rfl rfl)
theorem use_b {b : Bool} (h : useE cf ρ e S = .ok ((.bl b, f1), ρ1) S1) : useB cf ρ e S = .ok (b, ρ1) S1 := bindS h (bindS (a := b) (S1 := S1) rfl rfl)
theorem use_i {l : List D} (h : evI cf (visO (occ e) ρ) e S = .ok l S1) : useI cf ρ e S = .ok (l, frzO (occ e) ρ) S1 := bindS h rfl
theorem st_set {t : T} (h : useE cf ρ e S = .ok (p, ρ1) S1) (k : bindT ρ1 t p = some ρ2) : ex cf w (.set t e) ρ S = .ok (.next ρ2) S1 := bindS h (bindS (a := ρ2) (S1 := S1) (by rw [k]; rfl) rfl)
theorem st_expr (h : useE cf ρ e S = .ok (p, ρ1) S1) : ex cf w (.expr e) ρ S = .ok (.next ρ1) S1 := bindS h rfl
theorem st_ifT {A B : List C} (h : useB cf ρ e S = .ok (true, ρ1) S1) (k : exs cf w A ρ1 S1 = r) : ex cf w (.ite e A B) ρ S = r := bindS h k
theorem st_ifF {A B : List C} (h : useB cf ρ e S = .ok (false, ρ1) S1) (k : exs cf w B ρ1 S1 = r) : ex cf w (.ite e A B) ρ S = r := bindS h k
theorem st_for {t : T} {A : List C} {l : List D} (h : useI cf ρ e S = .ok (l, ρ1) S1) (k : forM t (fun ρ => exs cf w A ρ) l ρ1 S1 = r) : ex cf w (.forr t e A) ρ S = r := bindS h k
theorem st_app {i : Nat} {l : List D} (h : useE cf ρ e S = .ok ((x, f1), ρ1) S1) (k : ρ1[i]? = some (.ow (.lst l))) (hf : fits (l.length + 1) = true) : ex cf w (.app i e) ρ S = .ok (.next (ρ1.set i (.ow (.lst (l ++ [x]))))) S1 :=
 bindS (use_d h) (by simp only [k, hf, if_true]; rfl)
theorem st_ext {i : Nat} {l m : List D} (h : useE cf ρ e S = .ok ((.lst m, f1), ρ1) S1) (k : ρ1[i]? = some (.ow (.lst l))) (hf : fits (l.length + m.length) = true) : ex cf w (.ext i e) ρ S = .ok (.next (ρ1.set i (.ow (.lst (l ++ m))))) S1 :=
 bindS (use_d h) (bindS (a := m) (S1 := S1) rfl (by simp only [k, hf, if_true]; rfl))
theorem st_stv {i : Nat} {v c' : D} (hv : useE cf ρ e1 S = .ok ((v, f1), ρ1) S1) (hk : useE cf ρ1 e2 S1 = .ok ((x, f2), ρ2) S2) {c0 : D} (k : ρ2[i]? = some (.ow c0)) (hp : putD c0 x v = some c') : ex cf w (.stv i e2 e1) ρ S = .ok (.next (ρ2.set i (.ow c'))) S2 :=
 bindS (use_d hv) (bindS (use_d hk) (by simp only [k]; exact bindS (a := c') (S1 := S2) (by rw [hp]; rfl) rfl))
theorem st_ret (hne : ∀ i, e ≠ .var i) (h : useE cf ρ e S = .ok ((x, f1), ρ1) S1) : ex cf w (.ret e) ρ S = .ok (.ret x f1) S1 := by
 have : ex cf w (.ret e) ρ = M.bind (useE cf ρ e) fun p => if isIns p.1.1 then M.fail else M.pure (.ret p.1.1 p.1.2) := by
  cases e <;> first | rfl | exact absurd rfl (hne _)
 rw [this]
 exact bindS h rfl
end
end EV
namespace EV
open PySem L2
theorem idx_at {n : Nat} {a : Int} (h0 : 0 <= a) (h1 : a < (n : Int)) : idx n a = some a.toNat := by
 show (if 0 <= a then (if a < n then some a.toNat else none) else _) = _
 rw [if_pos h0, if_pos h1]
theorem mod_op {i j : Int} (h : 0 < j) : opD .Mod (.int i) (.int j) = some (.int (i % j), false) := by
 show (if decide (0 < j) = true then some (i % j) else none).map (fun k => (D.int k, false)) = _
 rw [if_pos (decide_eq_true h)]; rfl
theorem mul_op {i j : Int} (h : small64 i = true) : opD .Mult (.int i) (.int j) = some (.int (i * j), false) := by
 show (if (small64 i || small64 j) = true then some (D.int (i * j), false) else none) = _
 rw [if_pos (by rw [h]; rfl)]
theorem mulr_op {i j : Int} (h : small64 j = true) : opD .Mult (.int i) (.int j) = some (.int (i * j), false) := by
 show (if (small64 i || small64 j) = true then some (D.int (i * j), false) else none) = _
 rw [if_pos (by rw [h, Bool.or_true])]
theorem small_of {i : Int} (h0 : 0 <= i) (h1 : i < 4294967296) : small64 i = true := by
 unfold small64
 rw [decide_eq_true (by omega), decide_eq_true (by omega)]; rfl
theorem fits_of {n : Nat} (h : n <= 1000000) : fits n = true := decide_eq_true h
theorem lst_at {l : List D} {a : Int} {d : D} (h0 : 0 <= a) (h : l[a.toNat]? = some d) : subD (.lst l) (.int a) = some d := by
 show ((idx l.length a).bind fun k => l[k]?) = _
 have := (List.getElem?_eq_some_iff.mp h).1
 rw [idx_at h0 (by omega)]
 exact h
theorem tup_at {l : List D} {a : Int} {d : D} (h0 : 0 <= a) (h : l[a.toNat]? = some d) : subD (.tup l) (.int a) = some d := by
 show ((idx l.length a).bind fun k => l[k]?) = _
 have := (List.getElem?_eq_some_iff.mp h).1
 rw [idx_at h0 (by omega)]
 exact h
theorem ints_get {ns : List Int} {a : Int} (h0 : 0 <= a) (h1 : a < (ns.length : Int)) : ∃ x, x ∈ ns /\ subD (.lst (ns.map D.int)) (.int a) = some (.int x) := by
 have hl : a.toNat < ns.length := by omega
 refine ⟨ns[a.toNat], List.getElem_mem hl, lst_at h0 ?_⟩
 rw [List.getElem?_map, List.getElem?_eq_getElem hl]; rfl
theorem rng_mem {lo hi : Int} {d : D} (h : d ∈ rangeD lo hi) : ∃ j, d = .int j /\ lo <= j /\ j < hi := by
 unfold rangeD at h
 obtain ⟨k, hk, e⟩ := List.mem_map.mp h
 have := List.mem_range.mp hk
 exact ⟨lo + k, e.symm, by omega, by omega⟩
theorem rng_len (lo hi : Int) : (rangeD lo hi).length = (hi - lo).toNat := by
 unfold rangeD
 rw [List.length_map, List.length_range]
theorem okPs_ints (n : Nat) : ∀ (ns : List Int), okPs n (ns.map D.int) = true
 | [] => rfl
 | i :: ns => by
  show (okP n (.int i) && okPs n (ns.map D.int)) = true
  rw [okPs_ints n ns]
  cases n <;> rfl
theorem okPs_all {n : Nat} : ∀ {l : List D}, (∀ d ∈ l, okP n d = true) -> okPs n l = true
 | [], _ => rfl
 | d :: l, h => by
  show (okP n d && okPs n l) = true
  rw [h d (List.mem_cons_self ..), okPs_all fun x hx => h x (List.mem_cons_of_mem _ hx)]; rfl
theorem noMs_all : ∀ {l : List D}, (∀ d ∈ l, noM d = true) -> noMs l = true
 | [], _ => rfl
 | d :: l, h => by
  show (noM d && noMs l) = true
  rw [h d (List.mem_cons_self ..), noMs_all fun x hx => h x (List.mem_cons_of_mem _ hx)]; rfl
theorem intsD_map : ∀ (ns : List Int), intsD (ns.map D.int) = some ns
 | [] => rfl
 | i :: ns => by
  show (intsD (ns.map D.int)).map (i :: ·) = _
  rw [intsD_map ns]; rfl
theorem eq_op {a b : D} (ha : okP 60 a = true) (hb : okP 60 b = true) : cmpD .Eq a b = some (eqP a b) := by
 show (if (okP 60 a && okP 60 b) = true then some (eqP a b) else none) = _
 rw [ha, hb]; rfl
theorem ne_op {a b : D} (ha : okP 60 a = true) (hb : okP 60 b = true) : cmpD .NotEq a b = some (!eqP a b) := by
 show (if (okP 60 a && okP 60 b) = true then some (eqP a b) else none).map (!·) = _
 rw [ha, hb]; rfl
theorem addt_op {a b : List D} (h : a.length + b.length <= 1000000) : opD .Add (.tup a) (.tup b) = some (.tup (a ++ b), false) := by
 show (if fits (a.length + b.length) = true then some (D.tup (a ++ b), false) else none) = _
 rw [if_pos (fits_of h)]
theorem addl_op {a b : List D} (h : a.length + b.length <= 1000000) : opD .Add (.lst a) (.lst b) = some (.lst (a ++ b), true) := by
 show (if fits (a.length + b.length) = true then some (D.lst (a ++ b), true) else none) = _
 rw [if_pos (fits_of h)]
theorem cut_len (l : List D) (lo hi : Option Int) : (cutD l lo hi).length <= l.length := by
 unfold cutD
 rw [List.length_take, List.length_drop]; omega
theorem cut_mem {l : List D} {lo hi : Option Int} {d : D} (h : d ∈ cutD l lo hi) : d ∈ l := List.mem_of_mem_drop (List.mem_of_mem_take h)
end EV
namespace EV
open PySem L2
section
variable {cf : Cf} {w : Nat} {ρ ρ1 ρ2 : List Slot} {S S1 S2 S3 : Store} {c : C} {cs : List C} {d x y : D} {fr f1 f2 : Bool} {vs : List (Option D)} {e : E}
theorem ev_chnT {o1 o2 : CmpOp} {a b c0 : E} {z : D} {f3 r : Bool} (h1 : ev cf vs a S = .ok (x, f1) S1) (h2 : ev cf vs b S1 = .ok (y, f2) S2) (c1 : cmpD o1 (deref S2 x) (deref S2 y) = some true) (h3 : ev cf vs c0 S2 = .ok (z, f3) S3) (c2 : cmpD o2 (deref S3 y) (deref S3 z) = some r) : ev cf vs (.chn o1 o2 a b c0) S = .ok (.bl r, false) S3 :=
 bindS h1 (bindS (a := x) (S1 := S1) rfl (bindS h2 (bindS (a := y) (S1 := S2) rfl (bindS (a := S2) (S1 := S2) rfl (bindS (a := true) (S1 := S2) (by rw [c1]; rfl) (bindS h3 (bindS (a := z) (S1 := S3) rfl (bindS (a := S3) (S1 := S3) rfl (by rw [c2]; rfl)))))))))
theorem ev_chnF {o1 o2 : CmpOp} {a b c0 : E} (h1 : ev cf vs a S = .ok (x, f1) S1) (h2 : ev cf vs b S1 = .ok (y, f2) S2) (c1 : cmpD o1 (deref S2 x) (deref S2 y) = some false) : ev cf vs (.chn o1 o2 a b c0) S = .ok (.bl false, false) S2 :=
 bindS h1 (bindS (a := x) (S1 := S1) rfl (bindS h2 (bindS (a := y) (S1 := S2) rfl (bindS (a := S2) (S1 := S2) rfl (bindS (a := false) (S1 := S2) (by rw [c1]; rfl) rfl)))))
noncomputable def stepC (cf : Cf) (vs : List (Option D)) (t : T) (js : List Nat) (ifs : List E) (elt : E) (d : D) : M (Option D) :=
 match setT (List.replicate (nT t) none ++ js.map fun j => (vs[j]?).getD none) t d with
 | some ρ' => M.bind (evIfs cf ρ' ifs) fun b => if b = true then M.bind (ev cf ρ' elt) fun x => M.bind (asData x) fun x => M.pure (some x) else M.pure none
 | none => M.fail
theorem ev_comp {t : T} {js : List Nat} {it : E} {ifs : List E} {elt : E} {its l : List D} (h : evI cf vs it S = .ok its S1) (k : walkM (stepC cf vs t js ifs elt) its [] S1 = .ok l S2) : ev cf vs (.comp t js it ifs elt) S = .ok (.lst l, true) S2 :=
 bindS h (bindS k rfl)
theorem evI_rng {hi : E} {n : Int} (h : ev cf vs hi S = .ok (.int n, f1) S1) (h1 : n <= 1000000) (h0 : 0 <= n) : evI cf vs (.rng none hi) S = .ok (rangeD 0 n) S1 := bindS h (by
 show (if (fits n.toNat && decide (-1000000 <= n)) = true then M.pure (rangeD 0 n) else M.fail) _ = _
 rw [fits_of (by omega), decide_eq_true (by omega)]; rfl)
end
theorem cut_m1 {l : List D} {x : D} : cutD (l ++ [x]) none (some (-1)) = l := by
 unfold cutD
 rw [HT.sIx_none]
 have : HT.sIx (l ++ [x]).length (l ++ [x]).length (some (-1)) = l.length := by
  show (if (-1 : Int) < 0 then (-1 + ((l ++ [x]).length : Int)).toNat else min (-1 : Int).toNat (l ++ [x]).length) = _
  rw [if_pos (by decide), List.length_append]
  simp
  omega
 rw [this]
 simp
end EV
namespace EV
open PySem L2
noncomputable def Wp {α : Type} (r : R α) (Q : α -> Store -> Prop) : Prop := ∃ a S, r = .ok a S /\ Q a S
section
variable {α β : Type} {cf : Cf} {w : Nat} {ρ ρ1 ρ2 : List Slot} {S S1 S2 : Store} {c : C} {cs A B : List C} {d : D} {fr : Bool} {vs : List (Option D)} {e e1 e2 e3 : E} {es : List E} {t : T} {i : Nat}
theorem wp_mono {r : R α} {P Q : α -> Store -> Prop} (h : Wp r P) (q : ∀ a S, P a S -> Q a S) : Wp r Q := by
 obtain ⟨a, S, e, p⟩ := h
 exact ⟨a, S, e, q a S p⟩
noncomputable def Told (Q : D × Bool -> Store -> Prop) : O -> Store -> Prop
 | .ret d fr, S => Q (d, fr) S
 | .next _, S => Q (.non, false) S
 | _, _ => False
theorem wp_call {F : Nat -> Option Fn} {k f : Nat} {fn : Fn} {ds : List D} {Q : D × Bool -> Store -> Prop} (hf : F f = some fn) (hl : ds.length = fn.np) (h : Wp (exs (call F w k) w fn.body (entry fn ds) S) (Told Q)) : Wp (call F w (k + 1) f ds S) Q := by
 obtain ⟨o, S1, e, q⟩ := h
 cases o with
 | ret d fr => exact ⟨_, _, call_at hf hl e, q⟩
 | next ρ => exact ⟨_, _, call_nx hf hl e, q⟩
 | brk ρ => exact q.elim
 | cnt ρ => exact q.elim
variable {Q : O -> Store -> Prop}
theorem wp_retS (hi : ρ[i]? = some (.sh d)) (h : Q (.ret d false) S) : Wp (exs cf w (.ret (.var i) :: cs) ρ S) Q := by
  refine ⟨_, S, rt ?_, h⟩
  show (match ρ[i]? with
    | some (.sh d) => M.pure (O.ret d false)
    | some (.ow d) => M.pure (O.ret d true)
    | _ => M.fail) S = _
  rw [hi]; rfl
theorem st_sti {o k v : E} {x y c c' : D} {n : Nat} {f1 f2 f3 : Bool} {ρ3 : List Slot} {S3 : Store} (hv : useE cf ρ v S = .ok ((x, f1), ρ1) S1) (ho : useE cf ρ1 o S1 = .ok ((.ref n, f2), ρ2) S2) (hk : useE cf ρ2 k S2 = .ok ((y, f3), ρ3) S3) (hc : S3[n]? = some c) (hp : putD c y x = some c') : ex cf w (.sti o k v) ρ S = .ok (.next ρ3) (S3.set n c') :=
 bindS (use_d hv) (bindS (use_d ho) (bindS (use_d hk) (bindS (a := S3) (S1 := S3) rfl (by
  simp only [hc]
  exact bindS (a := c') (S1 := S3) (by rw [hp]; rfl) (bindS (a := ()) (S1 := S3.set n c') rfl rfl)))))
variable {P : (D × Bool) × List Slot -> Store -> Prop}
variable {V : D × Bool -> Store -> Prop} {op : Operator} {oc o1 o2 : CmpOp}
theorem we_var (h : vs[i]? = some (some d)) (q : V (d, false) S) : Wp (ev cf vs (.var i) S) V := by
  refine ⟨_, S, ?_, q⟩
  show (match vs[i]? with
    | some (some d) => M.pure (d, false)
    | _ => M.fail) S = _
  rw [h]; rfl
theorem we_con (q : V (d, false) S) : Wp (ev cf vs (.con d) S) V := ⟨_, S, rfl, q⟩
theorem we_bin (h : Wp (ev cf vs e1 S) fun x S1 => Wp (ev cf vs e2 S1) fun y S2 => ∃ p, opD op (deref S2 x.1) (deref S2 y.1) = some p /\ V p S2) : Wp (ev cf vs (.bin op e1 e2) S) V := by
 obtain ⟨⟨x, f1⟩, S1, h1, ⟨y, f2⟩, S2, h2, p, h3, q⟩ := h
 exact ⟨_, _, ev_bin h1 h2 h3, q⟩
theorem we_cmp (h : Wp (ev cf vs e1 S) fun x S1 => Wp (ev cf vs e2 S1) fun y S2 => ∃ b, cmpD oc (deref S2 x.1) (deref S2 y.1) = some b /\ V (.bl b, false) S2) : Wp (ev cf vs (.cmp oc e1 e2) S) V := by
 obtain ⟨⟨x, f1⟩, S1, h1, ⟨y, f2⟩, S2, h2, p, h3, q⟩ := h
 exact ⟨_, _, ev_cmp h1 h2 h3, q⟩
theorem we_not (h : Wp (ev cf vs e S) fun x S1 => ∃ b, x.1 = .bl b /\ V (.bl (!b), false) S1) : Wp (ev cf vs (.not e) S) V := by
 obtain ⟨⟨x, f1⟩, S1, h1, b, hb, q⟩ := h
 cases hb
 exact ⟨_, _, ev_not h1, q⟩
theorem we_and (h : Wp (ev cf vs e1 S) fun x S1 => ∃ b, x.1 = .bl b /\ (b = true -> Wp (ev cf vs e2 S1) V) /\ (b = false -> V (.bl false, false) S1)) : Wp (ev cf vs (.and e1 e2) S) V := by
 obtain ⟨⟨x, f1⟩, S1, h1, b, hb, hT, hF⟩ := h
 cases hb
 cases b with
 | true =>
  obtain ⟨p, S2, h2, q⟩ := hT rfl
  exact ⟨_, _, ev_and1 h1 h2, q⟩
 | false => exact ⟨_, _, ev_and0 h1, hF rfl⟩
theorem we_or (h : Wp (ev cf vs e1 S) fun x S1 => ∃ b, x.1 = .bl b /\ (b = true -> V (.bl true, false) S1) /\ (b = false -> Wp (ev cf vs e2 S1) V)) : Wp (ev cf vs (.or e1 e2) S) V := by
 obtain ⟨⟨x, f1⟩, S1, h1, b, hb, hT, hF⟩ := h
 cases hb
 cases b with
 | true => exact ⟨_, _, ev_or1 h1, hT rfl⟩
 | false =>
  obtain ⟨p, S2, h2, q⟩ := hF rfl
  exact ⟨_, _, ev_or0 h1 h2, q⟩
theorem we_ite (h : Wp (ev cf vs e1 S) fun x S1 => ∃ b, x.1 = .bl b /\ (b = true -> Wp (ev cf vs e2 S1) V) /\ (b = false -> Wp (ev cf vs e3 S1) V)) : Wp (ev cf vs (.ite e1 e2 e3) S) V := by
 obtain ⟨⟨x, f1⟩, S1, h1, b, hb, hT, hF⟩ := h
 cases hb
 cases b with
 | true =>
  obtain ⟨p, S2, h2, q⟩ := hT rfl
  exact ⟨_, _, ev_iteT h1 h2, q⟩
 | false =>
  obtain ⟨p, S2, h2, q⟩ := hF rfl
  exact ⟨_, _, ev_iteF h1 h2, q⟩
theorem we_sub (h : Wp (ev cf vs e1 S) fun x S1 => Wp (ev cf vs e2 S1) fun y S2 => ∃ d, subD (deref S2 x.1) y.1 = some d /\ V (d, false) S2) : Wp (ev cf vs (.sub e1 e2) S) V := by
 obtain ⟨⟨x, f1⟩, S1, h1, ⟨y, f2⟩, S2, h2, p, h3, q⟩ := h
 exact ⟨_, _, ev_sub h1 h2 h3, q⟩
variable {W : List D -> Store -> Prop}
theorem we_nil (q : W [] S) : Wp (evs cf vs [] S) W := ⟨_, _, rfl, q⟩
theorem we_cons (h : Wp (ev cf vs e S) fun x S1 => Wp (evs cf vs es S1) fun ds S2 => W (x.1 :: ds) S2) : Wp (evs cf vs (e :: es) S) W := by
 obtain ⟨⟨x, f1⟩, S1, h1, ds, S2, h2, q⟩ := h
 exact ⟨_, _, evs_cons h1 h2, q⟩
theorem we_tup (h : Wp (evs cf vs es S) fun ds S1 => fits ds.length = true /\ V (.tup ds, false) S1) : Wp (ev cf vs (.tup es) S) V := by
 obtain ⟨ds, S1, h1, h2, q⟩ := h
 exact ⟨_, _, ev_tup h1 h2, q⟩
theorem we_lst (h : Wp (evs cf vs es S) fun ds S1 => fits ds.length = true /\ V (.lst ds, true) S1) : Wp (ev cf vs (.lst es) S) V := by
 obtain ⟨ds, S1, h1, h2, q⟩ := h
 exact ⟨_, _, ev_lst h1 h2, q⟩
theorem we_bi {b : BI} (h : Wp (evs cf vs es S) fun ds S1 => ∃ p, biD b (ds.map (deref S1)) = some p /\ V p S1) : Wp (ev cf vs (.bi b es) S) V := by
 obtain ⟨ds, S1, h1, p, h2, q⟩ := h
 exact ⟨_, _, ev_bi h1 h2, q⟩
theorem we_call {f : Nat} (h : Wp (evs cf vs es S) fun ds S1 => Wp (cf f ds S1) V) : Wp (ev cf vs (.call f es) S) V := by
 obtain ⟨ds, S1, h1, p, S2, h2, q⟩ := h
 exact ⟨_, _, ev_call h1 h2, q⟩
theorem we_callk {f : Nat} {perm : List Nat} (h : Wp (evs cf vs es S) fun ds S1 => ∃ ds', (perm.mapM fun i => ds[i]?) = some ds' /\ Wp (cf f ds' S1) V) : Wp (ev cf vs (.callk f perm es) S) V := by
 obtain ⟨ds, S1, h1, ds', hp, p, S2, h2, q⟩ := h
 exact ⟨_, _, ev_callk h1 hp h2, q⟩
theorem we_box (h : Wp (ev cf vs e S) fun x S1 => x.2 = true /\ V (.ref S1.length, false) (S1 ++ [x.1])) : Wp (ev cf vs (.box e) S) V := by
 obtain ⟨⟨x, f1⟩, S1, h1, hb, q⟩ := h
 cases hb
 exact ⟨_, _, ev_box h1, q⟩
theorem we_mth {m : MT} (h : Wp (ev cf vs e S) fun x S1 => mthK m (deref S1 x.1) = true /\ Wp (evs cf vs es S1) fun ds S2 => ∃ p, mthD m (deref S2 x.1) ds = some p /\ V p S2) : Wp (ev cf vs (.mth m e es) S) V := by
 obtain ⟨⟨x, f1⟩, S1, h1, hk, ds, S2, h2, p, h3, q⟩ := h
 refine ⟨_, _, bindS h1 (bindS (a := x) (S1 := S1) rfl (bindS (a := S1) (S1 := S1) rfl ?_)), q⟩
 show (if mthK m (deref S1 x) = true then M.bind (evs cf vs es) fun ds => M.bind M.get fun S => M.of (mthD m (deref S x) ds) else M.fail) S1 = _
 rw [if_pos hk]
 exact bindS h2 (bindS (a := S2) (S1 := S2) rfl (by rw [h3]; rfl))
theorem we_dic {ks : List Key} (h : Wp (evs cf vs es S) fun ds S1 => dicOk false ks ds = true /\ V (.dK ks ds, true) S1) : Wp (ev cf vs (.dic false ks es) S) V := by
 obtain ⟨ds, S1, h1, h2, q⟩ := h
 exact ⟨_, _, bindS h1 (by rw [if_pos h2]; rfl), q⟩
end
noncomputable def Sm {α : Type} (o : Option α) (Q : α -> Prop) : Prop := ∃ a, o = some a /\ Q a
theorem sm_mk {α : Type} {o : Option α} {Q : α -> Prop} {a : α} (h : o = some a) (q : Q a) : Sm o Q := ⟨a, h, q⟩
noncomputable def Bl (d : D) (Q : Bool -> Prop) : Prop := ∃ b, d = .bl b /\ Q b
theorem bl_mk {d : D} {Q : Bool -> Prop} {b : Bool} (h : d = .bl b) (q : Q b) : Bl d Q := ⟨b, h, q⟩
noncomputable def Tst (b : Bool) (T F : Prop) : Prop := (b = true -> T) /\ (b = false -> F)
theorem tst_T {b : Bool} {T F : Prop} (h : b = true) (q : T) : Tst b T F := ⟨fun _ => q, fun z => by rw [h] at z; cases z⟩
theorem tst_F {b : Bool} {T F : Prop} (h : b = false) (q : F) : Tst b T F := ⟨fun z => (by rw [h] at z; cases z), fun _ => q⟩
theorem tst_mk {b : Bool} {T F : Prop} (t : b = true -> T) (f : b = false -> F) : Tst b T F := ⟨t, f⟩
noncomputable def Ok (b : Bool) (Q : Prop) : Prop := b = true /\ Q
theorem ok_mk {b : Bool} {Q : Prop} (h : b = true) (q : Q) : Ok b Q := ⟨h, q⟩
mutual
noncomputable def wpE (cf : Cf) (vs : List (Option D)) : E -> (D × Bool -> Store -> Prop) -> Store -> Prop
 | .var i, V, S => Sm (vs[i]?.getD none) fun d => V (d, false) S
 | .con d, V, S => V (d, false) S
 | .glo _ d, V, S => V (d, false) S
 | .bin op a b, V, S => wpE cf vs a (fun x S1 => wpE cf vs b (fun y S2 => Sm (opD op (deref S2 x.1) (deref S2 y.1)) fun p => V p S2) S1) S
 | .neg a, V, S => wpE cf vs a (fun x S1 => ∃ i, x.1 = .int i /\ V (.int (-i), false) S1) S
 | .cmp op a b, V, S => wpE cf vs a (fun x S1 => wpE cf vs b (fun y S2 => Sm (cmpD op (deref S2 x.1) (deref S2 y.1)) fun r => V (.bl r, false) S2) S1) S
 | .chn o1 o2 a b c, V, S => wpE cf vs a (fun x S1 => wpE cf vs b (fun y S2 => Sm (cmpD o1 (deref S2 x.1) (deref S2 y.1)) fun r => Tst r (wpE cf vs c (fun z S3 => Sm (cmpD o2 (deref S3 y.1) (deref S3 z.1)) fun r => V (.bl r, false) S3) S2) (V (.bl false, false) S2)) S1) S
 | .not a, V, S => wpE cf vs a (fun x S1 => Bl x.1 fun b => V (.bl (!b), false) S1) S
 | .and a b, V, S => wpE cf vs a (fun x S1 => Bl x.1 fun r => Tst r (wpE cf vs b V S1) (V (.bl false, false) S1)) S
 | .or a b, V, S => wpE cf vs a (fun x S1 => Bl x.1 fun r => Tst r (V (.bl true, false) S1) (wpE cf vs b V S1)) S
 | .ite c a b, V, S => wpE cf vs c (fun x S1 => Bl x.1 fun r => Tst r (wpE cf vs a V S1) (wpE cf vs b V S1)) S
 | .tup es, V, S => wpEs cf vs es (fun ds S1 => Ok (fits ds.length) (V (.tup ds, false) S1)) S
 | .lst es, V, S => wpEs cf vs es (fun ds S1 => Ok (fits ds.length) (V (.lst ds, true) S1)) S
 | .sub a i, V, S => wpE cf vs a (fun x S1 => wpE cf vs i (fun y S2 => Sm (subD (deref S2 x.1) y.1) fun d => V (d, false) S2) S1) S
 | .bi b es, V, S => wpEs cf vs es (fun ds S1 => Sm (biD b (ds.map (deref S1))) fun p => V p S1) S
 | .mth m o es, V, S => wpE cf vs o (fun x S1 => Ok (mthK m (deref S1 x.1)) (wpEs cf vs es (fun ds S2 => Sm (mthD m (deref S2 x.1) ds) fun p => V p S2) S1)) S
 | .call f es, V, S => wpEs cf vs es (fun ds S1 => Wp (cf f ds S1) V) S
 | .callk f perm es, V, S => wpEs cf vs es (fun ds S1 => Sm (perm.mapM fun i => ds[i]?) fun ds => Wp (cf f ds S1) V) S
 | .box e, V, S => wpE cf vs e (fun x S1 => Ok x.2 (V (.ref S1.length, false) (S1 ++ [x.1]))) S
 | .one e, V, S => wpE cf vs e V S
 | .flip e, V, S => wpE cf vs e (fun x S1 => Sm (flipD (deref S1 x.1)) fun p => V p S1) S
 | .comp t js (.rng none hi) ifs elt, V, S => wpE cf vs hi (fun x S1 => ∃ n, x.1 = .int n /\ 0 <= n /\ n <= 1000000 /\ Wp (walkM (stepC cf vs t js ifs elt) (rangeD 0 n) [] S1) fun l S2 => V (.lst l, true) S2) S
 | .comp t js (.seq e) ifs elt, V, S => wpE cf vs e (fun x S1 => Sm (seqD x.1) fun its => Wp (walkM (stepC cf vs t js ifs elt) its [] S1) fun l S2 => V (.lst l, true) S2) S
 | .comp t js (.enum e) ifs elt, V, S => wpE cf vs e (fun x S1 => Sm (enumS x.1) fun its => Wp (walkM (stepC cf vs t js ifs elt) (enumD 0 its) [] S1) fun l S2 => V (.lst l, true) S2) S
 | .slc a lo hi, V, S => wpE cf vs a (fun x S1 => wpO cf vs lo (fun l S2 => wpO cf vs hi (fun h S3 => Sm (boundD l) fun l => Sm (boundD h) fun h => Sm (slcD (deref S3 x.1) l h) fun p => V p S3) S2) S1) S
 | .dic false ks es, V, S => wpEs cf vs es (fun ds S1 => Ok (dicOk false ks ds) (V (.dK ks ds, true) S1)) S
 | e, V, S => Wp (ev cf vs e S) V
noncomputable def wpO (cf : Cf) (vs : List (Option D)) : Option E -> (Option D -> Store -> Prop) -> Store -> Prop
 | none, V, S => V none S
 | some e, V, S => wpE cf vs e (fun x S1 => V (some x.1) S1) S
noncomputable def wpEs (cf : Cf) (vs : List (Option D)) : List E -> (List D -> Store -> Prop) -> Store -> Prop
 | [], V, S => V [] S
 | e :: es, V, S => wpE cf vs e (fun x S1 => wpEs cf vs es (fun ds S2 => V (x.1 :: ds) S2) S1) S
end
mutual
theorem wpE_ok {cf : Cf} {vs : List (Option D)} : ∀ (e : E) {V : D × Bool -> Store -> Prop} {S : Store}, wpE cf vs e V S -> Wp (ev cf vs e S) V
 | .var i, V, S, h => by
  obtain ⟨d, e, q⟩ := (show Sm (vs[i]?.getD none) fun d => V (d, false) S from h)
  cases hv : vs[i]? with
  | none => rw [hv] at e; cases e
  | some o =>
   rw [hv] at e
   have e : o = some d := e
   subst e
   exact we_var hv q
 | .con d, V, S, h => we_con h
 | .glo _ d, V, S, h => ⟨_, S, rfl, h⟩
 | .bin op a b, V, S, h => we_bin (wp_mono (wpE_ok a h) fun x S1 h => wp_mono (wpE_ok b h) fun y S2 h => h)
 | .neg a, V, S, h => by
  obtain ⟨⟨x, f1⟩, S1, e1, i, e2, q⟩ := wpE_ok a h
  cases e2
  exact ⟨_, _, bindS e1 rfl, q⟩
 | .cmp op a b, V, S, h => we_cmp (wp_mono (wpE_ok a h) fun x S1 h => wp_mono (wpE_ok b h) fun y S2 h => h)
 | .chn o1 o2 a b c, V, S, h => by
  obtain ⟨⟨x, f1⟩, S1, e1, h⟩ := wpE_ok a h
  obtain ⟨⟨y, f2⟩, S2, e2, r, hr, hT, hF⟩ := wpE_ok b h
  cases r with
  | true =>
   obtain ⟨⟨z, f3⟩, S3, e3, r, hr2, q⟩ := wpE_ok c (hT rfl)
   exact ⟨_, _, ev_chnT e1 e2 hr e3 hr2, q⟩
  | false => exact ⟨_, _, ev_chnF e1 e2 hr, hF rfl⟩
 | .not a, V, S, h => we_not (wpE_ok a h)
 | .and a b, V, S, h => we_and (wp_mono (wpE_ok a h) fun x S1 ⟨r, e, hT, hF⟩ => ⟨r, e, fun z => wpE_ok b (hT z), hF⟩)
 | .or a b, V, S, h => we_or (wp_mono (wpE_ok a h) fun x S1 ⟨r, e, hT, hF⟩ => ⟨r, e, hT, fun z => wpE_ok b (hF z)⟩)
 | .ite c a b, V, S, h => we_ite (wp_mono (wpE_ok c h) fun x S1 ⟨r, e, hT, hF⟩ => ⟨r, e, fun z => wpE_ok a (hT z), fun z => wpE_ok b (hF z)⟩)
 | .tup es, V, S, h => we_tup (wpEs_ok es h)
 | .lst es, V, S, h => we_lst (wpEs_ok es h)
 | .sub a i, V, S, h => we_sub (wp_mono (wpE_ok a h) fun x S1 h => wpE_ok i h)
 | .bi b es, V, S, h => we_bi (wpEs_ok es h)
 | .mth m o es, V, S, h => we_mth (wp_mono (wpE_ok o h) fun x S1 ⟨e, h⟩ => ⟨e, wpEs_ok es h⟩)
 | .call f es, V, S, h => we_call (wpEs_ok es h)
 | .callk f perm es, V, S, h => we_callk (wpEs_ok es h)
 | .box e, V, S, h => we_box (wpE_ok e h)
 | .one e, V, S, h => wpE_ok e h
 | .flip e, V, S, h => by
  obtain ⟨⟨x, f1⟩, S1, e1, p, e2, q⟩ := wpE_ok e h
  exact ⟨_, _, bindS e1 (bindS (a := x) (S1 := S1) rfl (bindS (a := S1) (S1 := S1) rfl (by rw [e2]; rfl))), q⟩
 | .comp t js (.rng none hi) ifs elt, V, S, h => by
  obtain ⟨⟨x, f1⟩, S1, e1, n, e2, n0, n1, l, S2, e3, q⟩ := wpE_ok hi h
  cases e2
  exact ⟨_, _, ev_comp (evI_rng e1 n1 n0) e3, q⟩
 | .comp t js (.seq e) ifs elt, V, S, h => by
  obtain ⟨⟨x, f1⟩, S1, e1, its, e2, l, S2, e3, q⟩ := wpE_ok e h
  exact ⟨_, _, ev_comp (bindS e1 (bindS (a := x) (S1 := S1) rfl (by rw [e2]; rfl))) e3, q⟩
 | .comp t js (.enum e) ifs elt, V, S, h => by
  obtain ⟨⟨x, f1⟩, S1, e1, its, e2, l, S2, e3, q⟩ := wpE_ok e h
  exact ⟨_, _, ev_comp (bindS e1 (bindS (a := x) (S1 := S1) rfl (bindS (a := its) (S1 := S1) (by rw [e2]; rfl) rfl))) e3, q⟩
 | .slc a lo hi, V, S, h => by
  obtain ⟨⟨x, f1⟩, S1, e1, h⟩ := wpE_ok a h
  obtain ⟨l, S2, e2, h⟩ := wpO_ok lo h
  obtain ⟨u, S3, e3, l', e4, u', e5, p, e6, q⟩ := wpO_ok hi h
  exact ⟨_, _, bindS e1 (bindS (a := x) (S1 := S1) rfl (bindS e2 (bindS e3 (bindS (a := l') (S1 := S3) (by rw [e4]; rfl) (bindS (a := u') (S1 := S3) (by rw [e5]; rfl) (bindS (a := S3) (S1 := S3) rfl (by rw [e6]; rfl))))))), q⟩
 | .dic false ks es, V, S, h => we_dic (wpEs_ok es h)
 | .comp _ _ (.var _) _ _, _, _, h => h
 | .comp _ _ (.con _) _ _, _, _, h => h
 | .comp _ _ (.glo _ _) _ _, _, _, h => h
 | .comp _ _ (.bin _ _ _) _ _, _, _, h => h
 | .comp _ _ (.neg _) _ _, _, _, h => h
 | .comp _ _ (.cmp _ _ _) _ _, _, _, h => h
 | .comp _ _ (.chn _ _ _ _ _) _ _, _, _, h => h
 | .comp _ _ (.not _) _ _, _, _, h => h
 | .comp _ _ (.and _ _) _ _, _, _, h => h
 | .comp _ _ (.or _ _) _ _, _, _, h => h
 | .comp _ _ (.ite _ _ _) _ _, _, _, h => h
 | .comp _ _ (.tup _) _ _, _, _, h => h
 | .comp _ _ (.lst _) _ _, _, _, h => h
 | .comp _ _ (.dic _ _ _) _ _, _, _, h => h
 | .comp _ _ (.sub _ _) _ _, _, _, h => h
 | .comp _ _ (.slc _ _ _) _ _, _, _, h => h
 | .comp _ _ (.bi _ _) _ _, _, _, h => h
 | .comp _ _ (.mth _ _ _) _ _, _, _, h => h
 | .comp _ _ (.call _ _) _ _, _, _, h => h
 | .comp _ _ (.callk _ _ _) _ _, _, _, h => h
 | .comp _ _ (.callv _ _) _ _, _, _, h => h
 | .comp _ _ (.comp _ _ _ _ _) _ _, _, _, h => h
 | .comp _ _ (.box _) _ _, _, _, h => h
 | .comp _ _ (.one _) _ _, _, _, h => h
 | .comp _ _ (.flip _) _ _, _, _, h => h
 | .comp _ _ (.rng (some _) _) _ _, _, _, h => h
 | .comp _ _ (.zip _ _) _ _, _, _, h => h
 | .comp _ _ (.rev _) _ _, _, _, h => h
 | .comp _ _ (.items _) _ _, _, _, h => h
 | .dic true _ _, _, _, h => h
 | .callv _ _, _, _, h => h
 | .seq _, _, _, h => h
 | .rng _ _, _, _, h => h
 | .enum _, _, _, h => h
 | .zip _ _, _, _, h => h
 | .rev _, _, _, h => h
 | .items _, _, _, h => h
theorem wpO_ok {cf : Cf} {vs : List (Option D)} : ∀ (o : Option E) {V : Option D -> Store -> Prop} {S : Store}, wpO cf vs o V S -> Wp (evO cf vs o S) V
 | none, V, S, h => ⟨_, _, rfl, h⟩
 | some e, V, S, h => by
  obtain ⟨⟨x, f1⟩, S1, e1, h⟩ := wpE_ok e h
  exact ⟨_, _, bindS e1 (bindS (a := x) (S1 := S1) rfl rfl), h⟩
theorem wpEs_ok {cf : Cf} {vs : List (Option D)} : ∀ (es : List E) {V : List D -> Store -> Prop} {S : Store}, wpEs cf vs es V S -> Wp (evs cf vs es S) V
 | [], V, S, h => we_nil h
 | e :: es, V, S, h => we_cons (wp_mono (wpE_ok e h) fun x S1 h => wpEs_ok es h)
end
end EV
namespace EV
open PySem L2
noncomputable def Fz (ow pu : Bool) (ρ ρf : List Slot) (S S1 : Store) (A : List Slot -> Store -> Prop) : Prop := (ow = false /\ A ρ S1) \/ (ow = true /\ pu = true /\ A ρ S) \/ (ow = true /\ pu = false /\ A ρf S1)
theorem fz_n {ow pu : Bool} {ρ ρf : List Slot} {S S1 : Store} {A : List Slot -> Store -> Prop} (h : ow = false) (a : A ρ S1) : Fz ow pu ρ ρf S S1 A := .inl ⟨h, a⟩
theorem fz_p {ow pu : Bool} {ρ ρf : List Slot} {S S1 : Store} {A : List Slot -> Store -> Prop} (h : ow = true) (h2 : pu = true) (a : A ρ S) : Fz ow pu ρ ρf S S1 A := .inr (.inl ⟨h, h2, a⟩)
theorem fz_f {ow pu : Bool} {ρ ρf : List Slot} {S S1 : Store} {A : List Slot -> Store -> Prop} (h : ow = true) (h2 : pu = false) (a : A ρf S1) : Fz ow pu ρ ρf S S1 A := .inr (.inr ⟨h, h2, a⟩)
noncomputable def wpU (cf : Cf) (e : E) (ρ : List Slot) (P : (D × Bool) × List Slot -> Store -> Prop) (S : Store) : Prop :=
 wpE cf (visO (occ e) ρ) e (fun p S1 => Fz (owFrom (occ e) 0 ρ) (isPure e && clean p.1 p.2) ρ (frzO (occ e) ρ) S S1 fun ρ' S' => P (p, ρ') S') S
noncomputable def thenN (f : List Slot -> Store -> Prop) (K : O -> Store -> Prop) : O -> Store -> Prop
 | .next ρ, S => f ρ S
 | .ret d fr, S => K (.ret d fr) S
 | .brk ρ, S => K (.brk ρ) S
 | .cnt ρ, S => K (.cnt ρ) S
noncomputable def Rv (s : Option Slot) (Q : D -> Bool -> Prop) : Prop := (∃ d, s = some (.sh d) /\ Q d false) \/ ∃ d, s = some (.ow d) /\ Q d true
theorem rv_s {s : Option Slot} {Q : D -> Bool -> Prop} {d : D} (h : s = some (.sh d)) (q : Q d false) : Rv s Q := .inl ⟨d, h, q⟩
theorem rv_o {s : Option Slot} {Q : D -> Bool -> Prop} {d : D} (h : s = some (.ow d)) (q : Q d true) : Rv s Q := .inr ⟨d, h, q⟩
noncomputable def Cel (c : Option D) (Q : List D -> Prop) : Prop := ∃ l, c = some (.lst l) /\ Q l
theorem cel_mk {c : Option D} {Q : List D -> Prop} {l : List D} (h : c = some (.lst l)) (q : Q l) : Cel c Q := ⟨l, h, q⟩
noncomputable def OwL (s : Option Slot) (Q : List D -> Prop) : Prop := ∃ l, s = some (.ow (.lst l)) /\ Q l
theorem owl_mk {s : Option Slot} {Q : List D -> Prop} {l : List D} (h : s = some (.ow (.lst l))) (q : Q l) : OwL s Q := ⟨l, h, q⟩
noncomputable def OwD (s : Option Slot) (Q : D -> Prop) : Prop := ∃ c, s = some (.ow c) /\ Q c
theorem owd_mk {s : Option Slot} {Q : D -> Prop} {l : D} (h : s = some (.ow l)) (q : Q l) : OwD s Q := ⟨l, h, q⟩
noncomputable def Few (n : Nat) (Q : Prop) : Prop := n <= 1000000 /\ Q
theorem few_mk {n : Nat} {Q : Prop} (h : n <= 1000000) (q : Q) : Few n Q := ⟨h, q⟩
noncomputable def IsL (d : D) (Q : List D -> Prop) : Prop := ∃ l, d = .lst l /\ Q l
theorem isl_mk {d : D} {Q : List D -> Prop} {l : List D} (h : d = .lst l) (q : Q l) : IsL d Q := ⟨l, h, q⟩
noncomputable def IsR (d : D) (Q : Nat -> Prop) : Prop := ∃ n, d = .ref n /\ Q n
theorem isr_mk {d : D} {Q : Nat -> Prop} {n : Nat} (h : d = .ref n) (q : Q n) : IsR d Q := ⟨n, h, q⟩
noncomputable def IsN (d : D) (Q : Int -> Prop) : Prop := ∃ n, d = .int n /\ Q n
theorem isn_mk {d : D} {Q : Int -> Prop} {n : Int} (h : d = .int n) (q : Q n) : IsN d Q := ⟨n, h, q⟩
noncomputable def Bt (ρ : List Slot) (t : T) (p : D × Bool) (Q : List Slot -> Prop) : Prop := ∃ ρ2, bindT ρ t p = some ρ2 /\ Q ρ2
theorem bt_mk {ρ ρ2 : List Slot} {t : T} {p : D × Bool} {Q : List Slot -> Prop} (h : bindT ρ t p = some ρ2) (q : Q ρ2) : Bt ρ t p Q := ⟨ρ2, h, q⟩
mutual
noncomputable def wpC (cf : Cf) (w : Nat) : C -> List Slot -> (O -> Store -> Prop) -> Store -> Prop
 | .set t e, ρ, K, S => wpU cf e ρ (fun q S1 => Bt q.2 t q.1 fun ρ2 => K (.next ρ2) S1) S
 | .expr e, ρ, K, S => wpU cf e ρ (fun q S1 => K (.next q.2) S1) S
 | .ret (.var i), ρ, K, S => Rv ρ[i]? fun d fr => K (.ret d fr) S
 | .ret e, ρ, K, S => wpU cf e ρ (fun q S1 => K (.ret q.1.1 q.1.2) S1) S
 | .retN, ρ, K, S => K (.ret .non false) S
 | .ite e A B, ρ, K, S => wpU cf e ρ (fun q S1 => Bl q.1.1 fun b => Tst b (wpCs cf w A q.2 K S1) (wpCs cf w B q.2 K S1)) S
 | .whl e A, ρ, K, S => Wp (whileM (fun ρ => useB cf ρ e) (fun ρ => exs cf w A ρ) w ρ S) K
 | .forr t (.seq e) A, ρ, K, S => wpE cf (visO (occ e) ρ) e (fun x S1 => Sm (seqD x.1) fun l => Wp (forM t (fun ρ => exs cf w A ρ) l (frzO (occ e) ρ) S1) K) S
 | .forr t (.enum e) A, ρ, K, S => wpE cf (visO (occ e) ρ) e (fun x S1 => Sm (enumS x.1) fun l => Wp (forM t (fun ρ => exs cf w A ρ) (enumD 0 l) (frzO (occ e) ρ) S1) K) S
 | .forr t (.rng none e) A, ρ, K, S => wpE cf (visO (occ e) ρ) e (fun x S1 => IsN x.1 fun n => 0 <= n /\ n <= 1000000 /\ Wp (forM t (fun ρ => exs cf w A ρ) (rangeD 0 n) (frzO (occ e) ρ) S1) K) S
 | .app i e, ρ, K, S => wpU cf e ρ (fun q S1 => OwL q.2[i]? fun l => Few (l.length + 1) (K (.next (q.2.set i (.ow (.lst (l ++ [q.1.1]))))) S1)) S
 | .ext i e, ρ, K, S => wpU cf e ρ (fun q S1 => IsL q.1.1 fun m => OwL q.2[i]? fun l => Few (l.length + m.length) (K (.next (q.2.set i (.ow (.lst (l ++ m))))) S1)) S
 | .stv i k v, ρ, K, S => wpU cf v ρ (fun p S1 => wpU cf k p.2 (fun q S3 => OwD q.2[i]? fun c => Sm (putD c q.1.1 p.1.1) fun c' => K (.next (q.2.set i (.ow c'))) S3) S1) S
 | .sti o k v, ρ, K, S => wpU cf v ρ (fun p S1 => wpU cf o p.2 (fun r S2 => wpU cf k r.2 (fun q S3 => IsR r.1.1 fun n => Sm S3[n]? fun c => Sm (putD c q.1.1 p.1.1) fun c' => K (.next q.2) (S3.set n c')) S2) S1) S
 | .pop i, ρ, K, S => OwL ρ[i]? fun l => Ok (!l.isEmpty) (K (.next (ρ.set i (.ow (.lst l.dropLast)))) S)
 | .appR o e, ρ, K, S => wpU cf o ρ (fun r S1 => IsR r.1.1 fun n => Ok (isLst S1[n]?) (wpU cf e r.2 (fun p S2 => Cel S2[n]? fun l => Few (l.length + 1) (K (.next p.2) (S2.set n (.lst (l ++ [p.1.1]))))) S1)) S
 | .popR t o, ρ, K, S => wpU cf o ρ (fun r S1 => IsR r.1.1 fun n => Cel S1[n]? fun l => Sm l.getLast? fun d => Bt r.2 t (d, false) fun ρ2 => K (.next ρ2) (S1.set n (.lst l.dropLast))) S
 | .pass, ρ, K, S => K (.next ρ) S
 | .brk, ρ, K, S => K (.brk ρ) S
 | .cnt, ρ, K, S => K (.cnt ρ) S
 | c, ρ, K, S => Wp (ex cf w c ρ S) K
noncomputable def wpCs (cf : Cf) (w : Nat) : List C -> List Slot -> (O -> Store -> Prop) -> Store -> Prop
 | [], ρ, K, S => K (.next ρ) S
 | c :: cs, ρ, K, S => wpC cf w c ρ (thenN (fun ρ' S' => wpCs cf w cs ρ' K S') K) S
end
theorem cs_cons {cf : Cf} {w : Nat} {c : C} {cs : List C} {ρ : List Slot} {K : O -> Store -> Prop} {S : Store} (h : wpC cf w c ρ (thenN (fun ρ' S' => wpCs cf w cs ρ' K S') K) S) : wpCs cf w (c :: cs) ρ K S := h
theorem th_next {f : List Slot -> Store -> Prop} {K : O -> Store -> Prop} {ρ : List Slot} {S : Store} (h : f ρ S) : thenN f K (.next ρ) S := h
theorem th_ret {f : List Slot -> Store -> Prop} {K : O -> Store -> Prop} {d : D} {fr : Bool} {S : Store} (h : K (.ret d fr) S) : thenN f K (.ret d fr) S := h
theorem to_ret {Q : D × Bool -> Store -> Prop} {d : D} {fr : Bool} {S : Store} (h : Q (d, fr) S) : Told Q (.ret d fr) S := h
theorem to_next {Q : D × Bool -> Store -> Prop} {ρ : List Slot} {S : Store} (h : Q (.non, false) S) : Told Q (.next ρ) S := h
theorem cs_nil {cf : Cf} {w : Nat} {ρ : List Slot} {K : O -> Store -> Prop} {S : Store} (h : K (.next ρ) S) : wpCs cf w [] ρ K S := h
theorem wpU_ok {cf : Cf} {e : E} {ρ : List Slot} {P : (D × Bool) × List Slot -> Store -> Prop} {S : Store} (h : wpU cf e ρ P S) : Wp (useE cf ρ e S) P := by
 obtain ⟨p, S1, e1, ⟨h1, h2⟩ | ⟨h1, h3, h2⟩ | ⟨h1, h3, h2⟩⟩ := wpE_ok e h
 ·exact ⟨_, _, use_n h1 e1, h2⟩
 ·exact ⟨_, _, use_p h1 h3 e1, h2⟩
 ·exact ⟨_, _, use_f h1 h3 e1, h2⟩
theorem evI_seq {cf : Cf} {vs : List (Option D)} {e : E} {S S1 : Store} {x : D} {f : Bool} {l : List D} (h : ev cf vs e S = .ok (x, f) S1) (hl : seqD x = some l) : evI cf vs (.seq e) S = .ok l S1 := bindS h (bindS (a := x) (S1 := S1) rfl (by rw [hl]; rfl))
theorem evI_enum {cf : Cf} {vs : List (Option D)} {e : E} {S S1 : Store} {x : D} {f : Bool} {l : List D} (h : ev cf vs e S = .ok (x, f) S1) (hl : enumS x = some l) : evI cf vs (.enum e) S = .ok (enumD 0 l) S1 := bindS h (bindS (a := x) (S1 := S1) rfl (bindS (a := l) (S1 := S1) (by rw [hl]; rfl) rfl))
mutual
theorem wpC_ok {cf : Cf} {w : Nat} : ∀ (c : C) {ρ : List Slot} {K : O -> Store -> Prop} {S : Store}, wpC cf w c ρ K S -> Wp (ex cf w c ρ S) K
  | .set t e, ρ, K, S, h => by
    have h : wpU cf e ρ (fun q S1 => Bt q.2 t q.1 fun ρ2 => K (.next ρ2) S1) S := h
    obtain ⟨q, S1, e1, ρ2, e2, h⟩ := wpU_ok h
    exact ⟨_, _, st_set e1 e2, h⟩
  | .expr e, ρ, K, S, h => by
    have h : wpU cf e ρ (fun q S1 => K (.next q.2) S1) S := h
    obtain ⟨q, S1, e1, h⟩ := wpU_ok h
    exact ⟨_, _, st_expr e1, h⟩
  | .ret e, ρ, K, S, h => by
    by_cases hv : ∃ i, e = .var i
    · obtain ⟨i, rfl⟩ := hv
      have e0 : ex cf w (.ret (.var i)) ρ S = (match ρ[i]? with
        | some (.sh d) => M.pure (O.ret d false)
        | some (.ow d) => M.pure (O.ret d true)
        | _ => M.fail) S := rfl
      rcases (show Rv ρ[i]? fun d fr => K (.ret d fr) S from h) with ⟨d, e1, q⟩ | ⟨d, e1, q⟩
      · rw [e1] at e0; exact ⟨_, _, e0, q⟩
      · rw [e1] at e0; exact ⟨_, _, e0, q⟩
    · have h : wpU cf e ρ (fun q S1 => K (.ret q.1.1 q.1.2) S1) S := by
        cases e <;> first | exact h | exact absurd ⟨_, rfl⟩ hv
      obtain ⟨⟨⟨x, f1⟩, ρ1⟩, S1, e1, h⟩ := wpU_ok h
      exact ⟨_, _, st_ret (fun i q => hv ⟨i, q⟩) e1, h⟩
  | .retN, ρ, K, S, h => ⟨_, _, rfl, h⟩
  | .ite e A B, ρ, K, S, h => by
    have h : wpU cf e ρ (fun q S1 => Bl q.1.1 fun b => Tst b (wpCs cf w A q.2 K S1) (wpCs cf w B q.2 K S1)) S := h
    obtain ⟨⟨⟨x, f1⟩, ρ1⟩, S1, e1, b, eb, hT, hF⟩ := wpU_ok h
    cases eb
    cases b with
    | true =>
      obtain ⟨o, S2, e2, q⟩ := wpCs_ok A (hT rfl)
      exact ⟨_, _, st_ifT (use_b e1) e2, q⟩
    | false =>
      obtain ⟨o, S2, e2, q⟩ := wpCs_ok B (hF rfl)
      exact ⟨_, _, st_ifF (use_b e1) e2, q⟩
  | .whl e A, ρ, K, S, h => h
  | .forr t it A, ρ, K, S, h => by
    cases it with
    | seq e =>
      obtain ⟨⟨x, f1⟩, S1, e1, l, e2, o, S2, e3, q⟩ := wpE_ok e (show wpE cf (visO (occ e) ρ) e (fun x S1 => Sm (seqD x.1) fun l => Wp (forM t (fun ρ => exs cf w A ρ) l (frzO (occ e) ρ) S1) K) S from h)
      exact ⟨_, _, st_for (use_i (evI_seq e1 e2)) e3, q⟩
    | enum e =>
      obtain ⟨⟨x, f1⟩, S1, e1, l, e2, o, S2, e3, q⟩ := wpE_ok e (show wpE cf (visO (occ e) ρ) e (fun x S1 => Sm (enumS x.1) fun l => Wp (forM t (fun ρ => exs cf w A ρ) (enumD 0 l) (frzO (occ e) ρ) S1) K) S from h)
      exact ⟨_, _, st_for (use_i (evI_enum e1 e2)) e3, q⟩
    | rng lo e =>
      cases lo with
      | some _ => exact h
      | none =>
        obtain ⟨⟨x, f1⟩, S1, e1, n, e2, n0, n1, o, S2, e3, q⟩ := wpE_ok e (show wpE cf (visO (occ e) ρ) e (fun x S1 => IsN x.1 fun n => 0 <= n /\ n <= 1000000 /\ Wp (forM t (fun ρ => exs cf w A ρ) (rangeD 0 n) (frzO (occ e) ρ) S1) K) S from h)
        cases e2
        exact ⟨_, _, st_for (use_i (evI_rng e1 n1 n0)) e3, q⟩
    | _ => exact h
  | .app i e, ρ, K, S, h => by
    have h : wpU cf e ρ (fun q S1 => OwL q.2[i]? fun l => Few (l.length + 1) (K (.next (q.2.set i (.ow (.lst (l ++ [q.1.1]))))) S1)) S := h
    obtain ⟨⟨⟨x, f1⟩, ρ1⟩, S1, e1, l, e2, e3, h⟩ := wpU_ok h
    exact ⟨_, _, st_app e1 e2 (fits_of e3), h⟩
  | .ext i e, ρ, K, S, h => by
    have h : wpU cf e ρ (fun q S1 => IsL q.1.1 fun m => OwL q.2[i]? fun l => Few (l.length + m.length) (K (.next (q.2.set i (.ow (.lst (l ++ m))))) S1)) S := h
    obtain ⟨⟨⟨x, f1⟩, ρ1⟩, S1, e1, l, e2, m, e5, e3, h⟩ := wpU_ok h
    cases e2
    exact ⟨_, _, st_ext e1 e5 (fits_of e3), h⟩
  | .stv i k v, ρ, K, S, h => by
    have h : wpU cf v ρ (fun p S1 => wpU cf k p.2 (fun q S3 => OwD q.2[i]? fun c => Sm (putD c q.1.1 p.1.1) fun c' => K (.next (q.2.set i (.ow c'))) S3) S1) S := h
    obtain ⟨⟨⟨x, f1⟩, ρ1⟩, S1, e1, h⟩ := wpU_ok h
    obtain ⟨⟨⟨z, f3⟩, ρ3⟩, S3, e3, c, e5, c', e6, h⟩ := wpU_ok h
    exact ⟨_, _, st_stv e1 e3 e5 e6, h⟩
  | .sti o k v, ρ, K, S, h => by
    have h : wpU cf v ρ (fun p S1 => wpU cf o p.2 (fun r S2 => wpU cf k r.2 (fun q S3 => IsR r.1.1 fun n => Sm S3[n]? fun c => Sm (putD c q.1.1 p.1.1) fun c' => K (.next q.2) (S3.set n c')) S2) S1) S := h
    obtain ⟨⟨⟨x, f1⟩, ρ1⟩, S1, e1, h⟩ := wpU_ok h
    obtain ⟨⟨⟨y, f2⟩, ρ2⟩, S2, e2, h⟩ := wpU_ok h
    obtain ⟨⟨⟨z, f3⟩, ρ3⟩, S3, e3, n, e4, c, e5, c', e6, hh⟩ := wpU_ok h
    cases e4
    exact ⟨_, _, st_sti e1 e2 e3 e5 e6, hh⟩
  | .appR o e, ρ, K, S, h => by
    have h : wpU cf o ρ (fun r S1 => IsR r.1.1 fun n => Ok (isLst S1[n]?) (wpU cf e r.2 (fun p S2 => Cel S2[n]? fun l => Few (l.length + 1) (K (.next p.2) (S2.set n (.lst (l ++ [p.1.1]))))) S1)) S := h
    obtain ⟨⟨⟨x, f1⟩, ρ1⟩, S1, e1, n, en, hL, h⟩ := wpU_ok h
    obtain ⟨⟨⟨y, f2⟩, ρ2⟩, S2, e2, l, e3, e4, hk⟩ := wpU_ok h
    have en : x = .ref n := en
    subst en
    refine ⟨_, _, bindS (show useD cf ρ o S = .ok (.ref n, ρ1) S1 from bindS e1 rfl) ?_, hk⟩
    show (if isLst S1[n]? = true then M.bind (useD cf ρ1 e) (fun p => M.bind M.get fun S => match S[n]? with
      | some (.lst ds) => if fits (ds.length + 1) then M.bind (M.put (S.set n (.lst (ds ++ [p.1])))) fun _ => M.pure (O.next p.2) else M.fail
      | _ => M.fail) else M.fail) S1 = _
    rw [if_pos hL]
    refine bindS (show useD cf ρ1 e S1 = .ok (y, ρ2) S2 from bindS e2 rfl) ?_
    show (match S2[n]? with
      | some (.lst ds) => if fits (ds.length + 1) then M.bind (M.put (S2.set n (.lst (ds ++ [y])))) fun _ => M.pure (O.next ρ2) else M.fail
      | _ => M.fail) S2 = _
    rw [e3]
    show (if fits (l.length + 1) = true then M.bind (M.put (S2.set n (.lst (l ++ [y])))) fun _ => M.pure (O.next ρ2) else M.fail) S2 = _
    rw [if_pos (fits_of e4)]
    rfl
  | .pop i, ρ, K, S, h => by
    obtain ⟨l, e1, e2, q⟩ := (show OwL ρ[i]? fun l => Ok (!l.isEmpty) (K (.next (ρ.set i (.ow (.lst l.dropLast)))) S) from h)
    have e0 : ex cf w (.pop i) ρ S = (match ρ[i]? with
      | some (.ow (.lst ds)) => if ds.isEmpty then M.fail else M.pure (O.next (ρ.set i (.ow (.lst ds.dropLast))))
      | _ => M.fail) S := rfl
    rw [e1] at e0
    have e3 : l.isEmpty = false := by cases hl : l.isEmpty with
      | false => rfl
      | true => rw [hl] at e2; cases e2
    have e0 : ex cf w (.pop i) ρ S = (if l.isEmpty = true then M.fail else M.pure (O.next (ρ.set i (.ow (.lst l.dropLast))))) S := e0
    rw [e3] at e0
    exact ⟨_, _, e0, q⟩
  | .popR t o, ρ, K, S, h => by
    have h : wpU cf o ρ (fun r S1 => IsR r.1.1 fun n => Cel S1[n]? fun l => Sm l.getLast? fun d => Bt r.2 t (d, false) fun ρ2 => K (.next ρ2) (S1.set n (.lst l.dropLast))) S := h
    obtain ⟨⟨⟨x, f1⟩, ρ1⟩, S1, e1, n, en, l, e3, d, e4, ρ2, e5, h⟩ := wpU_ok h
    have en : x = .ref n := en
    subst en
    refine ⟨_, _, bindS (a := ((d, false), ρ1)) (S1 := S1.set n (.lst l.dropLast)) (bindS (show useD cf ρ o S = .ok (.ref n, ρ1) S1 from bindS e1 rfl) ?_) (bindS (a := ρ2) (S1 := S1.set n (.lst l.dropLast)) (by rw [show bindT ρ1 t (d, false) = some ρ2 from e5]; rfl) rfl), h⟩
    show (match S1[n]? with
      | some (.lst ds) => M.bind (M.of ds.getLast?) fun d => M.bind (M.put (S1.set n (.lst ds.dropLast))) fun _ => M.pure ((d, false), ρ1)
      | _ => M.fail) S1 = _
    rw [e3]
    show (M.bind (M.of l.getLast?) fun d => M.bind (M.put (S1.set n (.lst l.dropLast))) fun _ => M.pure ((d, false), ρ1)) S1 = _
    rw [e4]
    rfl
  | .pass, ρ, K, S, h => ⟨_, _, rfl, h⟩
  | .brk, ρ, K, S, h => ⟨_, _, rfl, h⟩
  | .cnt, ρ, K, S, h => ⟨_, _, rfl, h⟩
theorem wpCs_ok {cf : Cf} {w : Nat} : ∀ (cs : List C) {ρ : List Slot} {K : O -> Store -> Prop} {S : Store}, wpCs cf w cs ρ K S -> Wp (exs cf w cs ρ S) K
 | [], ρ, K, S, h => ⟨_, _, rfl, h⟩
 | c :: cs, ρ, K, S, h => by
  obtain ⟨o, S1, e, q⟩ := wpC_ok c (show wpC cf w c ρ (thenN (fun ρ' S' => wpCs cf w cs ρ' K S') K) S from h)
  cases o with
  | next ρ1 =>
   obtain ⟨o2, S2, e2, q2⟩ := wpCs_ok cs (show wpCs cf w cs ρ1 K S1 from q)
   exact ⟨o2, S2, nx e e2, q2⟩
  | ret d fr => exact ⟨_, _, rt e, q⟩
  | brk ρ1 => exact ⟨_, _, bindS e rfl, q⟩
  | cnt ρ1 => exact ⟨_, _, bindS e rfl, q⟩
end
theorem wp_def {F : Nat -> Option Fn} {w k f : Nat} {fn : Fn} {ds : List D} {b : List C} {S : Store} {Q : D × Bool -> Store -> Prop} (hf : F f = some fn) (hl : ds.length = fn.np) (hb : fn.body = b) (h : wpCs (call F w k) w b (entry fn ds) (Told Q) S) : Wp (call F w (k + 1) f ds S) Q := wp_call hf hl (by rw [hb]; exact wpCs_ok _ h)
noncomputable def Turn (K : O -> Store -> Prop) (I : List Slot -> Store -> Prop) : O -> Store -> Prop
 | .next ρ, S => I ρ S
 | .cnt ρ, S => I ρ S
 | .brk ρ, S => K (.next ρ) S
 | .ret d fr, S => K (.ret d fr) S
theorem tu_next {K : O -> Store -> Prop} {I : List Slot -> Store -> Prop} {ρ : List Slot} {S : Store} (h : I ρ S) : Turn K I (.next ρ) S := h
theorem tu_cnt {K : O -> Store -> Prop} {I : List Slot -> Store -> Prop} {ρ : List Slot} {S : Store} (h : I ρ S) : Turn K I (.cnt ρ) S := h
theorem tu_brk {K : O -> Store -> Prop} {I : List Slot -> Store -> Prop} {ρ : List Slot} {S : Store} (h : K (.next ρ) S) : Turn K I (.brk ρ) S := h
theorem tu_ret {K : O -> Store -> Prop} {I : List Slot -> Store -> Prop} {d : D} {fr : Bool} {S : Store} (h : K (.ret d fr) S) : Turn K I (.ret d fr) S := h
theorem wp_walk {cf : Cf} {w : Nat} {t : T} {A : List C} {K : O -> Store -> Prop} (I : List D -> List Slot -> Store -> Prop)
  (step : ∀ d l ρ S, I (d :: l) ρ S -> Bt ρ t (d, false) fun ρ1 => wpCs cf w A ρ1 (Turn K (I l)) S)
  (fin : ∀ ρ S, I [] ρ S -> K (.next ρ) S) : ∀ (l : List D) (ρ : List Slot) (S : Store), I l ρ S -> Wp (forM t (fun ρ => exs cf w A ρ) l ρ S) K
 | [], ρ, S, h => ⟨_, S, rfl, fin ρ S h⟩
 | d :: l, ρ, S, h => by
  obtain ⟨ρ1, e1, h1⟩ := step d l ρ S h
  obtain ⟨o, S1, e2, q⟩ := wpCs_ok A h1
  have hb : (M.of (bindT ρ t (d, false))) S = .ok ρ1 S := by rw [e1]; rfl
  cases o with
  | next ρ2 =>
   obtain ⟨o3, S3, e3, q3⟩ := wp_walk I step fin l ρ2 S1 q
   exact ⟨o3, S3, bindS hb (bindS e2 e3), q3⟩
  | cnt ρ2 =>
   obtain ⟨o3, S3, e3, q3⟩ := wp_walk I step fin l ρ2 S1 q
   exact ⟨o3, S3, bindS hb (bindS e2 e3), q3⟩
  | brk ρ2 => exact ⟨_, _, bindS hb (bindS e2 rfl), q⟩
  | ret d fr => exact ⟨_, _, bindS hb (bindS e2 rfl), q⟩
end EV
namespace EV
open PySem L2
theorem small_mod {x k : Int} (h0 : 0 < k) (h1 : k <= 4294967296) : small64 (x % k) = true := small_of (Int.emod_nonneg _ (by omega)) (by have := Int.emod_lt_of_pos x h0; omega)
theorem om1 {a b K : Nat} (h : b <= K) (e : Nat.ble a b = true) : a <= K := Nat.le_trans (Nat.le_of_ble_eq_true e) h
theorem om2 {a b K : Nat} (h : b <= K + 1) (e : Nat.ble (a + 1) b = true) : a <= K := Nat.le_of_succ_le_succ (Nat.le_trans (Nat.le_of_ble_eq_true e) h)
theorem om3 {b K : Nat} (h : b <= K) (e : Nat.ble 1 b = true) : K = K - 1 + 1 := (Nat.sub_add_cancel (Nat.le_trans (Nat.le_of_ble_eq_true e) h)).symm
end EV
namespace K63
open PySem PySem.Spec PyProof.Rows L2 EV
def top (i : Nat) : Stmt := PySem.Challenge.pw_errandroom_k63_diaries_that_pair_off.main.body.getD i (.Pass ⟨0, 0, 0, 0⟩)
noncomputable abbrev b_unclosed : List C := [.set (.one 1) (.lst []), .forr (.tup [2, 3]) (.enum (.var 0)) [.set (.one 4) (.sub (.var 3) (.con (.int 1))), .ite (.cmp .Eq (.var 4) (.con (.str "do"))) [.app 1 (.tup [(.sub (.var 3) (.con (.int 2))), (.con (.bl false))])] [.ite (.cmp .NotEq (.var 4) (.con (.str "tell"))) [.ite (.cmp .NotEq (.slc (.var 1) (some (.neg (.con (.int 1)))) none) (.lst [(.tup [(.sub (.var 3) (.con (.int 2))), (.cmp .Eq (.var 4) (.con (.str "undone")))])])) [.ret (.var 2)] [], .pop 1, .ite (.cmp .Eq (.var 4) (.con (.str "undo"))) [.app 1 (.tup [(.sub (.var 3) (.con (.int 2))), (.con (.bl true))])] []] []]], .ret (.ite (.cmp .Eq (.bi .len [(.var 1)]) (.con (.int 0))) (.con .non) (.bi .len [(.var 0)]))]
noncomputable def r_unclosed : EV.Row := ⟨"unclosed", top 1, ["diary"], ["diary", "open_dos", "number", "entry", "word"], ⟨1, 5, b_unclosed⟩⟩
noncomputable abbrev b__law_numbers : List C := [.set (.one 1) (.lst []), .set (.one 2) (.bi .abs [(.var 0)]), .ite (.cmp .GtE (.var 2) (.bin .Pow (.con (.int 10)) (.con (.int 18)))) [.forr (.one 3) (.rng none (.con (.int 60))) [.ite (.cmp .Gt (.var 2) (.con (.int 0))) [.app 1 (.bin .Mod (.var 2) (.bin .Pow (.con (.int 10)) (.con (.int 6)))), .set (.one 2) (.bin .FloorDiv (.var 2) (.bin .Pow (.con (.int 10)) (.con (.int 6))))] []], .ret (.var 1)] [], .forr (.one 3) (.rng none (.con (.int 8))) [.set (.one 4) (.bin .Mod (.bin .Mult (.bin .Add (.bin .Add (.bin .Add (.bin .Mod (.var 0) (.con (.int 2147483647))) (.bin .Mult (.bin .Mult (.con (.int 977)) (.var 3)) (.var 3))) (.bin .Mult (.con (.int 31)) (.var 3))) (.con (.int 1))) (.con (.int 48271))) (.con (.int 2147483647))), .set (.one 4) (.bin .Mod (.bin .Mult (.var 4) (.var 4)) (.con (.int 2147483647))), .app 1 (.bin .Mod (.bin .FloorDiv (.bin .Mod (.bin .Mult (.bin .Add (.var 4) (.bin .Mult (.con (.int 40692)) (.bin .Add (.var 3) (.con (.int 3))))) (.con (.int 69621))) (.con (.int 2147483629))) (.con (.int 8))) (.bin .Pow (.con (.int 10)) (.con (.int 6))))], .ret (.var 1)]
noncomputable def r__law_numbers : EV.Row := ⟨"_law_numbers", top 3, ["_law_cell"], ["_law_cell", "_law_found", "_law_left", "_law_k", "_law_one"], ⟨1, 5, b__law_numbers⟩⟩
noncomputable abbrev b__law_pot : List C := [.set (.one 1) (.lst []), .forr (.one 2) (.seq (.slc (.var 0) none (some (.con (.int 63))))) [.set (.one 1) (.bin .Add (.var 1) (.call 1 [(.var 2)]))], .ite (.cmp .Eq (.var 1) (.lst [])) [.set (.one 1) (.call 1 [(.con (.int 0))])] [], .ret (.lst [(.var 1), (.con (.int 0)), (.bin .Mod (.bin .Add (.con (.int 7919)) (.bin .Mult (.con (.int 40693)) (.bi .sum [(.var 1)]))) (.con (.int 2147483629)))])]
noncomputable def r__law_pot : EV.Row := ⟨"_law_pot", top 4, ["_law_script"], ["_law_script", "_law_found", "_law_cell"], ⟨1, 3, b__law_pot⟩⟩
noncomputable abbrev b__law_take : List C := [.set (.one 2) (.sub (.var 0) (.con (.int 1))), .sti (.var 0) (.con (.int 1)) (.bin .Add (.var 2) (.con (.int 1))), .ite (.cmp .Lt (.var 2) (.bi .len [(.sub (.var 0) (.con (.int 0)))])) [.ret (.bin .Mod (.sub (.sub (.var 0) (.con (.int 0))) (.var 2)) (.var 1))] [], .sti (.var 0) (.con (.int 2)) (.bin .Mod (.bin .Add (.bin .Add (.bin .Mult (.sub (.var 0) (.con (.int 2))) (.sub (.var 0) (.con (.int 2)))) (.con (.int 40692))) (.var 2)) (.con (.int 2147483629))), .ret (.bin .Mod (.bin .Mod (.bin .FloorDiv (.sub (.var 0) (.con (.int 2))) (.con (.int 8))) (.bin .Pow (.con (.int 10)) (.con (.int 6)))) (.var 1))]
noncomputable def r__law_take : EV.Row := ⟨"_law_take", top 5, ["_law_pot_here", "_law_many"], ["_law_pot_here", "_law_many", "_law_at"], ⟨2, 3, b__law_take⟩⟩
noncomputable abbrev b__law_entry : List C := [.set (.one 4) (.call 3 [(.var 0), (.con (.int 8))]), .set (.one 5) (.call 3 [(.var 0), (.con (.int 24))]), .ite (.cmp .Eq (.var 4) (.con (.int 0))) [.set (.one 6) (.bin .Add (.bin .Mult (.call 3 [(.var 0), (.bin .Pow (.con (.int 10)) (.con (.int 6)))]) (.bin .Pow (.con (.int 10)) (.con (.int 6)))) (.call 3 [(.var 0), (.bin .Pow (.con (.int 10)) (.con (.int 6)))])), .ret (.tup [(.var 2), (.con (.str "tell")), (.bin .Mod (.var 6) (.con (.int 1000000007)))])] [], .ite (.and (.cmp .Eq (.var 4) (.con (.int 1))) (.one (.not (.var 3)))) [.appR (.var 1) (.tup [(.sub (.lst [(.con (.str "do")), (.con (.str "undo"))]) (.bin .Mod (.var 5) (.con (.int 2)))), (.var 5)]), .ret (.tup [(.var 2), (.sub (.lst [(.con (.str "do")), (.con (.str "done")), (.con (.str "undo")), (.con (.str "undone"))]) (.call 3 [(.var 0), (.con (.int 4))])), (.var 5)])] [], .ite (.or (.cmp .Lt (.var 4) (.con (.int 4))) (.one (.cmp .Eq (.var 1) (.lst [])))) [.appR (.var 1) (.tup [(.con (.str "do")), (.var 5)]), .ret (.tup [(.var 2), (.con (.str "do")), (.var 5)])] [], .popR (.tup [7, 5]) (.var 1), .ite (.cmp .Eq (.var 7) (.con (.str "undo"))) [.ret (.tup [(.var 2), (.con (.str "undone")), (.var 5)])] [], .ite (.cmp .Lt (.var 4) (.con (.int 6))) [.ret (.tup [(.var 2), (.con (.str "done")), (.var 5)])] [], .appR (.var 1) (.tup [(.con (.str "undo")), (.var 5)]), .ret (.tup [(.var 2), (.con (.str "undo")), (.var 5)])]
noncomputable def r__law_entry : EV.Row := ⟨"_law_entry", top 6, ["_law_pot_here", "_law_held", "_law_hour", "_law_sound"], ["_law_pot_here", "_law_held", "_law_hour", "_law_sound", "_law_way", "_law_d", "_law_one", "_law_word"], ⟨4, 8, b__law_entry⟩⟩
noncomputable abbrev b__law_diary : List C := [.set (.one 3) (.box (.lst [])), .set (.one 4) (.lst []), .forr (.one 5) (.rng none (.var 1)) [.app 4 (.call 4 [(.var 0), (.var 3), (.bin .FloorDiv (.var 5) (.con (.int 3))), (.var 2)])], .ite (.var 2) [.forr (.tup [6, 7]) (.seq (.flip (.var 3))) [.app 4 (.tup [(.var 1), (.bin .Add (.var 6) (.con (.str "ne"))), (.var 7)])]] [], .ret (.bi .tuple [(.var 4)])]
noncomputable def r__law_diary : EV.Row := ⟨"_law_diary", top 7, ["_law_pot_here", "_law_many", "_law_sound"], ["_law_pot_here", "_law_many", "_law_sound", "_law_held", "_law_found", "_law_k", "_law_word", "_law_d"], ⟨3, 8, b__law_diary⟩⟩
noncomputable abbrev b__law_due : List C := [.set (.one 1) (.lst []), .forr (.nst 2 [3, 4, 5]) (.enum (.var 0)) [.ite (.cmp .Eq (.var 4) (.con (.str "do"))) [.set (.one 1) (.bin .Add (.var 1) (.lst [(.tup [(.con (.str "do")), (.var 5)])]))] [.ite (.cmp .NotEq (.var 4) (.con (.str "tell"))) [.set (.one 6) (.tup [(.sub (.lst [(.con (.str "do")), (.con (.str "undo"))]) (.bi .int [(.cmp .Eq (.var 4) (.con (.str "undone")))])), (.var 5)]), .ite (.cmp .NotEq (.slc (.var 1) (some (.neg (.con (.int 1)))) none) (.lst [(.var 6)])) [.ret (.var 2)] [], .set (.one 1) (.bin .Add (.slc (.var 1) none (some (.neg (.con (.int 1))))) (.bin .Mult (.lst [(.tup [(.con (.str "undo")), (.var 5)])]) (.bi .int [(.cmp .Eq (.var 4) (.con (.str "undo")))])))] []]], .ite (.cmp .Eq (.var 1) (.lst [])) [.ret (.con .non)] [], .ret (.bi .len [(.var 0)])]
noncomputable def r__law_due : EV.Row := ⟨"_law_due", top 8, ["_law_diary_here"], ["_law_diary_here", "_law_open", "_law_at", "_law_hour", "_law_word", "_law_d", "_law_last"], ⟨1, 7, b__law_due⟩⟩
noncomputable abbrev b__law_told : List C := [.set (.one 1) (.call 0 [(.var 0)]), .set (.one 2) (.call 6 [(.var 0)]), .ite (.cmp .Is (.var 2) (.con .non)) [.ret (.and (.cmp .Is (.var 1) (.con .non)) (.one (.cmp .Is (.callk 0 [0] [(.var 0)]) (.con .non))))] [], .ret (.and (.bi (.isinst .int) [(.var 1)]) (.and (.not (.bi (.isinst .bool) [(.var 1)])) (.and (.cmp .Eq (.var 1) (.var 2)) (.one (.cmp .Eq (.call 0 [(.var 0)]) (.var 2))))))]
noncomputable def r__law_told : EV.Row := ⟨"_law_told", top 9, ["_law_diary_here"], ["_law_diary_here", "_law_found", "_law_due_here"], ⟨1, 3, b__law_told⟩⟩
noncomputable abbrev b_law : List C := [.set (.one 1) (.box (.call 2 [(.var 0)])), .set (.one 2) (.call 3 [(.var 1), (.con (.int 61))]), .set (.one 3) (.call 3 [(.var 1), (.con (.int 24))]), .set (.one 4) (.call 5 [(.var 1), (.call 3 [(.var 1), (.con (.int 12))]), (.con (.bl true))]), .set (.one 5) (.call 5 [(.var 1), (.call 3 [(.var 1), (.con (.int 12))]), (.con (.bl true))]), .set (.one 6) (.bin .Add (.tup [(.tup [(.con (.int 0)), (.con (.str "do")), (.var 3)])]) (.var 4)), .forr (.one 7) (.seq (.lst [(.bin .Add (.var 4) (.var 5)), (.bin .Add (.var 6) (.tup [(.tup [(.con (.int 3)), (.con (.str "done")), (.var 3)])])), (.bin .Add (.bin .Add (.bin .Add (.var 6) (.tup [(.tup [(.con (.int 3)), (.con (.str "undo")), (.var 3)])])) (.var 5)) (.tup [(.tup [(.con (.int 4)), (.con (.str "undone")), (.var 3)])]))])) [.ite (.cmp .IsNot (.call 0 [(.var 7)]) (.con .non)) [.ret (.con (.bl false))] [], .forr (.one 8) (.seq (.lst [(.con (.str "do")), (.con (.str "done")), (.con (.str "undo")), (.con (.str "undone"))])) [.ite (.not (.call 7 [(.bin .Add (.var 7) (.tup [(.tup [(.con (.int 9)), (.var 8), (.var 3)])]))])) [.ret (.con (.bl false))] []]], .ite (.not (.call 7 [(.bin .Add (.var 6) (.tup [(.tup [(.con (.int 3)), (.con (.str "done")), (.bin .Mod (.bin .Add (.var 3) (.con (.int 1))) (.con (.int 24)))])]))])) [.ret (.con (.bl false))] [], .ret (.and (.call 7 [(.call 5 [(.var 1), (.var 2), (.con (.bl false))])]) (.and (.call 7 [(.var 4)]) (.one (.call 7 [(.tup [])]))))]
noncomputable def r_law : EV.Row := ⟨"law", top 10, ["_law_script"], ["_law_script", "_law_pot_here", "_law_many", "_law_d", "_law_one", "_law_other", "_law_within", "_law_closed", "_law_word"], ⟨1, 9, b_law⟩⟩
noncomputable def rs : List EV.Row := [r_unclosed, r__law_numbers, r__law_pot, r__law_take, r__law_entry, r__law_diary, r__law_due, r__law_told, r_law]
noncomputable def B : Tb := ⟨["unclosed", "_law_numbers", "_law_pot", "_law_take", "_law_entry", "_law_diary", "_law_due", "_law_told", "law"], [["diary"], ["_law_cell"], ["_law_script"], ["_law_pot_here", "_law_many"], ["_law_pot_here", "_law_held", "_law_hour", "_law_sound"], ["_law_pot_here", "_law_many", "_law_sound"], ["_law_diary_here"], ["_law_diary_here"], ["_law_script"]], [], ["abs", "bool", "enumerate", "int", "isinstance", "len", "range", "sum", "tuple"], [(0, ["diary"], [0])]⟩
theorem k_unclosed : RowOk B r_unclosed := ⟨by decide +kernel, by decide +kernel, rfl, rfl, fun _ _ _ _ _ _ us hl => by obtain ⟨a0, e⟩ := ln1 hl; subst e; rfl⟩
theorem k__law_numbers : RowOk B r__law_numbers := ⟨by decide +kernel, by decide +kernel, rfl, rfl, fun _ _ _ _ _ _ us hl => by obtain ⟨a0, e⟩ := ln1 hl; subst e; rfl⟩
theorem k__law_pot : RowOk B r__law_pot := ⟨by decide +kernel, by decide +kernel, rfl, rfl, fun _ _ _ _ _ _ us hl => by obtain ⟨a0, e⟩ := ln1 hl; subst e; rfl⟩
theorem k__law_take : RowOk B r__law_take := ⟨by decide +kernel, by decide +kernel, rfl, rfl, fun _ _ _ _ _ _ us hl => by obtain ⟨a0, a1, e⟩ := ln2 hl; subst e; rfl⟩
theorem k__law_entry : RowOk B r__law_entry := ⟨by decide +kernel, by decide +kernel, rfl, rfl, fun _ _ _ _ _ _ us hl => by obtain ⟨a0, a1, a2, a3, e⟩ := ln4 hl; subst e; rfl⟩
theorem k__law_diary : RowOk B r__law_diary := ⟨by decide +kernel, by decide +kernel, rfl, rfl, fun _ _ _ _ _ _ us hl => by obtain ⟨a0, a1, a2, e⟩ := ln3 hl; subst e; rfl⟩
theorem k__law_due : RowOk B r__law_due := ⟨by decide +kernel, by decide +kernel, rfl, rfl, fun _ _ _ _ _ _ us hl => by obtain ⟨a0, e⟩ := ln1 hl; subst e; rfl⟩
theorem k__law_told : RowOk B r__law_told := ⟨by decide +kernel, by decide +kernel, rfl, rfl, fun _ _ _ _ _ _ us hl => by obtain ⟨a0, e⟩ := ln1 hl; subst e; rfl⟩
theorem k_law : RowOk B r_law := ⟨by decide +kernel, by decide +kernel, rfl, rfl, fun _ _ _ _ _ _ us hl => by obtain ⟨a0, e⟩ := ln1 hl; subst e; rfl⟩
theorem rows_ok : AllR (RowOk B) rs := ⟨k_unclosed, k__law_numbers, k__law_pot, k__law_take, k__law_entry, k__law_diary, k__law_due, k__law_told, k_law, True.intro⟩
theorem kws_ok : AllR (KwOk rs) B.kws := ⟨⟨by decide, fun r hr => by
 cases hr
 exact fun _ _ _ _ _ _ us hl => by obtain ⟨a0, e⟩ := ln1 hl; subst e; rfl⟩, True.intro⟩
theorem tabs : Tabs B rs := ⟨rfl, rfl, rows_ok, kws_ok⟩
noncomputable def wh : Nat := 200
noncomputable def F := fnsOf rs
theorem w_unclosed {k : Nat} {x0 : D} {S : Store} {Q : D × Bool -> Store -> Prop} (h : wpCs (call F wh k) wh b_unclosed [.sh x0, .no, .no, .no, .no] (Told Q) S) : Wp (call F wh (k + 1) 0 [x0] S) Q := wp_def rfl rfl rfl h
theorem w__law_numbers {k : Nat} {x0 : D} {S : Store} {Q : D × Bool -> Store -> Prop} (h : wpCs (call F wh k) wh b__law_numbers [.sh x0, .no, .no, .no, .no] (Told Q) S) : Wp (call F wh (k + 1) 1 [x0] S) Q := wp_def rfl rfl rfl h
theorem w__law_pot {k : Nat} {x0 : D} {S : Store} {Q : D × Bool -> Store -> Prop} (h : wpCs (call F wh k) wh b__law_pot [.sh x0, .no, .no] (Told Q) S) : Wp (call F wh (k + 1) 2 [x0] S) Q := wp_def rfl rfl rfl h
theorem w__law_take {k : Nat} {x0 x1 : D} {S : Store} {Q : D × Bool -> Store -> Prop} (h : wpCs (call F wh k) wh b__law_take [.sh x0, .sh x1, .no] (Told Q) S) : Wp (call F wh (k + 1) 3 [x0, x1] S) Q := wp_def rfl rfl rfl h
theorem w__law_entry {k : Nat} {x0 x1 x2 x3 : D} {S : Store} {Q : D × Bool -> Store -> Prop} (h : wpCs (call F wh k) wh b__law_entry [.sh x0, .sh x1, .sh x2, .sh x3, .no, .no, .no, .no] (Told Q) S) : Wp (call F wh (k + 1) 4 [x0, x1, x2, x3] S) Q := wp_def rfl rfl rfl h
theorem w__law_diary {k : Nat} {x0 x1 x2 : D} {S : Store} {Q : D × Bool -> Store -> Prop} (h : wpCs (call F wh k) wh b__law_diary [.sh x0, .sh x1, .sh x2, .no, .no, .no, .no, .no] (Told Q) S) : Wp (call F wh (k + 1) 5 [x0, x1, x2] S) Q := wp_def rfl rfl rfl h
theorem w__law_due {k : Nat} {x0 : D} {S : Store} {Q : D × Bool -> Store -> Prop} (h : wpCs (call F wh k) wh b__law_due [.sh x0, .no, .no, .no, .no, .no, .no] (Told Q) S) : Wp (call F wh (k + 1) 6 [x0] S) Q := wp_def rfl rfl rfl h
theorem w__law_told {k : Nat} {x0 : D} {S : Store} {Q : D × Bool -> Store -> Prop} (h : wpCs (call F wh k) wh b__law_told [.sh x0, .no, .no] (Told Q) S) : Wp (call F wh (k + 1) 7 [x0] S) Q := wp_def rfl rfl rfl h
theorem w_law {k : Nat} {x0 : D} {S : Store} {Q : D × Bool -> Store -> Prop} (h : wpCs (call F wh k) wh b_law [.sh x0, .no, .no, .no, .no, .no, .no, .no, .no] (Told Q) S) : Wp (call F wh (k + 1) 8 [x0] S) Q := wp_def rfl rfl rfl h
end K63
local macro_rules | `(tactic| omega) => `(tactic| first | decide | with_reducible exact EV.om1 ‹_› (by with_unfolding_all rfl) | with_reducible exact EV.om2 ‹_› (by with_unfolding_all rfl) | with_reducible exact EV.om3 ‹_› (by with_unfolding_all rfl) | lia | omega (config := {}))
open EV in
local macro_rules | `(tactic| infer_instance) => `(tactic| first
 | ((with_reducible apply sm_mk); (first | exact rfl | exact tup_at (by decide) rfl | exact lst_at (by decide) rfl | exact addt_op (by simp <;> omega) | exact mulr_op rfl | exact mul_op rfl | exact mul_op (small_mod (by decide) (by decide))))
 | ((with_reducible apply bt_mk); (exact rfl); (try simp only [List.foldl, List.zip, List.zipWith, List.set, Bool.false_eq_true, if_true, if_false]))
 | ((with_reducible apply bl_mk); (exact rfl))
 | ((with_reducible apply tst_T); (first | with_reducible rfl | decide | (focus (simp only [isNone, deref, eqP, beq_self_eq_true, Bool.not_true, Bool.not_false, Bool.and_true, Bool.true_and]; done)) | (dsimp only [deref]; decide)))
 | ((with_reducible apply tst_F); (first | with_reducible rfl | decide | (focus (simp only [isNone, deref, eqP, beq_self_eq_true, Bool.not_true, Bool.not_false, Bool.and_true, Bool.true_and]; done)) | (dsimp only [deref]; decide)))
 | ((with_reducible apply ok_mk); (exact rfl))
 | ((with_reducible apply fz_n); (exact rfl))
 | ((with_reducible apply fz_p); (exact rfl); (exact rfl))
 | ((with_reducible apply fz_f); (exact rfl); (exact rfl); (try dsimp only [frzO, frzFrom]))
 | ((with_reducible apply isl_mk); (exact rfl))
 | ((with_reducible apply isr_mk); (exact rfl))
 | ((with_reducible apply isn_mk); (exact rfl))
 | ((with_reducible apply owl_mk); (exact rfl))
 | ((with_reducible apply cel_mk); (exact rfl))
 | ((with_reducible apply owd_mk); (exact rfl))
 | ((with_reducible apply few_mk); ((try simp only [List.length_append, List.length_map, List.length_cons, List.length_nil]) <;> omega))
 | ((with_reducible apply rv_s); (exact rfl))
 | ((with_reducible apply rv_o); (exact rfl))
 | ((with_reducible apply cs_cons); (dsimp only [wpC, wpU, wpE, wpEs, wpO, thenN]))
 | (with_reducible apply cs_nil)
 | (with_reducible apply th_next)
 | (with_reducible apply th_ret)
 | (with_reducible apply to_ret)
 | (with_reducible apply to_next)
 | (with_reducible apply tu_next)
 | (with_reducible apply tu_cnt)
 | (with_reducible apply tu_brk)
 | (with_reducible apply tu_ret))
local macro_rules | `(tactic| nofun) => `(tactic| (repeat infer_instance))
namespace K63
open PySem L2 EV
structure En where
 h : Int
 w : Str
 d : Int
noncomputable def eD (e : En) : D := .tup [.int e.h, .str e.w, .int e.d]
noncomputable abbrev Sk := List (Bool × Int)
noncomputable def fU (p : Bool × Int) : D := .tup [.int p.2, .bl p.1]
noncomputable def fL (p : Bool × Int) : D := .tup [.str (if p.1 = true then ("undo" : Str) else "do"), .int p.2]
noncomputable def stp (r : Sk) (e : En) : Option Sk :=
 if (e.w == "do") = true then some ((false, e.d) :: r) else
 if (e.w == "tell") = true then some r else
 match r with
 | [] => none
 | p :: r' => if p = (e.w == "undone", e.d) then some (if (e.w == "undo") = true then (true, e.d) :: r' else r') else none
noncomputable def run (r : Sk) (n : Nat) : List En -> D
 | [] => if r.isEmpty = true then .non else .int n
 | e :: es => match stp r e with
  | some r' => run r' (n + 1) es
  | none => .int n
theorem cut_l1 {l : List D} {x : D} : cutD (l ++ [x]) (some (-1)) none = [x] := by
 unfold cutD
 rw [HT.sIx_none]
 have : HT.sIx (l ++ [x]).length 0 (some (-1)) = l.length := by
  show (if (-1 : Int) < 0 then (-1 + ((l ++ [x]).length : Int)).toNat else min (-1 : Int).toNat (l ++ [x]).length) = _
  rw [if_pos (by decide), List.length_append]
  simp
  omega
 rw [this]
 simp
noncomputable def pU : Sk -> List D
 | [] => []
 | p :: r => pU r ++ [fU p]
noncomputable def pL : Sk -> List D
 | [] => []
 | p :: r => pL r ++ [fL p]
theorem pU_len : ∀ {r : Sk}, (pU r).length = r.length
 | [] => rfl
 | p :: r => by simp [pU, pU_len (r := r)]
theorem pL_len : ∀ {r : Sk}, (pL r).length = r.length
 | [] => rfl
 | p :: r => by simp [pL, pL_len (r := r)]
theorem last_cmp {x y : D} (l : List D) (hx : okP 59 x = true) (hy : okP 59 y = true) : cmpD .NotEq (.lst (cutD (l ++ [x]) (some (-1)) none)) (.lst [y]) = some (!(eqP x y)) := by
 rw [cut_l1, ne_op]
 ·show some (!(eqP x y && true)) = _
  rw [Bool.and_true]
 ·show (okP 59 x && true) = true
  rw [hx]; rfl
 ·show (okP 59 y && true) = true
  rw [hy]; rfl
theorem eqP_fU (p q : Bool × Int) : eqP (fU p) (fU q) = decide (p = q) := by
 obtain ⟨a, x⟩ := p
 obtain ⟨b, y⟩ := q
 show ((x == y) && ((a == b) && true)) = _
 rw [Bool.eq_iff_iff]
 simp
 exact ⟨fun h => ⟨h.2, h.1⟩, fun h => ⟨h.2, h.1⟩⟩
theorem eqP_fL (p q : Bool × Int) : eqP (fL p) (fL q) = decide (p = q) := by
 obtain ⟨a, x⟩ := p
 obtain ⟨b, y⟩ := q
 have : ((if a = true then ("undo" : Str) else "do") == (if b = true then ("undo" : Str) else "do")) = (a == b) := by
  cases a <;> cases b <;> rfl
 show (((if a = true then ("undo" : Str) else "do") == (if b = true then ("undo" : Str) else "do")) && ((x == y) && true)) = _
 rw [this, Bool.eq_iff_iff]
 simp
theorem unclosed_ok (es : List En) (hl : es.length <= 1000) {K : Nat} (hK : 1 <= K) (S : Store) : Wp (call F wh K 0 [.tup (es.map eD)] S) fun q S' => q = (run [] 0 es, false) /\ S' = S := by
  obtain ⟨K, rfl⟩ : ∃ k, K = k + 1 := ⟨K - 1, by omega⟩
  refine w_unclosed ?_
  nofun
  refine wp_walk (fun rem ρ S' => S' = S /\ ∃ (n : Nat) (es' : List En) (r : Sk) (x2 x3 x4 : Slot), rem = enumD n (es'.map eD) /\ run [] 0 es = run r n es' /\ r.length <= n /\ n + es'.length = es.length /\ ρ = [.sh (.tup (es.map eD)), .ow (.lst (pU r)), x2, x3, x4]) ?_ ?_ _ _ _ ⟨rfl, 0, es, [], .no, .no, .no, rfl, rfl, by simp, by simp, rfl⟩
  · rintro d rem ρ S' ⟨rfl, n, es', r, x2, x3, x4, e1, e2, hr, hn, rfl⟩
    cases es' with
    | nil => cases e1
    | cons e es' =>
      cases e1
      simp at hn
      have hd : run r n (e :: es') = (match stp r e with
        | some r' => run r' (n + 1) es'
        | none => .int n) := rfl
      nofun
      refine tst_mk (fun h1 => ?_) (fun h1 => ?_)
      · have h1 : (e.w == "do") = true := h1
        have hs : stp r e = some ((false, e.d) :: r) := by unfold stp; rw [if_pos h1]
        have hp := pU_len (r := r)
        nofun
        refine ⟨rfl, n + 1, es', (false, e.d) :: r, _, _, _, rfl, ?_, by simp; omega, by omega, rfl⟩
        rw [e2, hd, hs]
      · have h1 : (e.w == "do") = false := h1
        nofun
        refine tst_mk (fun h2 => ?_) (fun h2 => ?_)
        · have h2 : (e.w == "tell") = false := by
            have h2 : (!(e.w == "tell")) = true := h2
            cases h : (e.w == ("tell" : Str)) with
            | false => rfl
            | true => rw [h] at h2; cases h2
          cases r with
          | nil =>
            have hs : stp [] e = none := by unfold stp; rw [if_neg (by rw [h1]; decide), if_neg (by rw [h2]; decide)]
            nofun
            refine ⟨_, rfl, ?_⟩
            nofun
            refine tst_T rfl ?_
            nofun
            refine ⟨?_, rfl⟩
            rw [e2, hd, hs]
          | cons p r =>
            nofun
            refine ⟨_, rfl, ?_⟩
            nofun
            refine sm_mk (last_cmp (x := fU p) (y := fU (e.w == "undone", e.d)) (pU r) rfl rfl) ?_
            nofun
            refine tst_mk (fun h3 => ?_) (fun h3 => ?_)
            · have hs : stp (p :: r) e = none := by
                unfold stp
                rw [if_neg (by rw [h1]; decide), if_neg (by rw [h2]; decide)]
                rw [eqP_fU] at h3
                exact if_neg (by simpa using h3)
              nofun
              refine ⟨?_, rfl⟩
              rw [e2, hd, hs]
            · have hq : p = (e.w == "undone", e.d) := by
                rw [eqP_fU] at h3
                simpa using h3
              have hs : stp (p :: r) e = some (if (e.w == "undo") = true then (true, e.d) :: r else r) := by
                unfold stp
                rw [if_neg (by rw [h1]; decide), if_neg (by rw [h2]; decide)]
                exact if_pos hq
              simp at hr
              have hp := pU_len (r := r)
              nofun
              refine ok_mk (by simp [pU]) ?_
              nofun
              have hdl : (pU (p :: r)).dropLast = pU r := by simp [pU]
              rw [hdl]
              nofun
              refine tst_mk (fun h4 => ?_) (fun h4 => ?_)
              · have h4 : (e.w == "undo") = true := h4
                rw [if_pos h4] at hs
                nofun
                refine ⟨rfl, n + 1, es', (true, e.d) :: r, _, _, _, rfl, ?_, by simp; omega, by omega, rfl⟩
                rw [e2, hd, hs]
              · have h4 : (e.w == "undo") = false := h4
                rw [if_neg (by rw [h4]; decide)] at hs
                nofun
                refine ⟨rfl, n + 1, es', r, _, _, _, rfl, ?_, by omega, by omega, rfl⟩
                rw [e2, hd, hs]
        · have h2 : (e.w == "tell") = true := by
            have h2 : (!(e.w == "tell")) = false := h2
            cases h : (e.w == ("tell" : Str)) with
            | true => rfl
            | false => rw [h] at h2; cases h2
          have hs : stp r e = some r := by unfold stp; rw [if_neg (by rw [h1]; decide), if_pos h2]
          nofun
          refine ⟨rfl, n + 1, es', r, _, _, _, rfl, ?_, by omega, by omega, rfl⟩
          rw [e2, hd, hs]
  · rintro ρ S' ⟨rfl, n, es', r, x2, x3, x4, e1, e2, hr, hn, rfl⟩
    cases es' with
    | cons e es' => cases e1
    | nil =>
      simp at hn
      have hp := pU_len (r := r)
      nofun
      refine tst_mk (fun h1 => ?_) (fun h1 => ?_)
      · have h1 : r.isEmpty = true := by
          have h1 : (((pU r).length : Int) == 0) = true := h1
          rw [hp] at h1
          simpa using h1
        nofun
        refine ⟨?_, rfl⟩
        rw [e2]
        unfold run
        rw [if_pos h1]
      · have h1 : ¬ r.isEmpty = true := by
          have h1 : (((pU r).length : Int) == 0) = false := h1
          rw [hp] at h1
          simpa using h1
        nofun
        refine ⟨?_, rfl⟩
        rw [e2]
        unfold run
        rw [if_neg h1]
        simp [hn]
end K63
namespace K63
open PySem L2 EV
theorem noM_pL : ∀ (r : Sk), noMs (pL r) = true
 | [] => rfl
 | p :: r => noMs_all fun d hd => by
  rcases List.mem_append.mp (show d ∈ pL r ++ [fL p] from hd) with h | h
  ·exact noMs_mem (noM_pL r) h
  ·rw [List.mem_singleton.mp h]; rfl
where
 noMs_mem : ∀ {l : List D} {d : D}, noMs l = true -> d ∈ l -> noM d = true
  | x :: l, d, h, hd => by
   have h : (noM x && noMs l) = true := h
   rw [Bool.and_eq_true] at h
   rcases List.mem_cons.mp hd with rfl | hd
   ·exact h.1
   ·exact noMs_mem h.2 hd
theorem okP_pL (r : Sk) : okP 60 (.lst (pL r)) = true := okPs_all (n := 59) (l := pL r) (pm r)
where
 pm : ∀ (r : Sk), ∀ d ∈ pL r, okP 59 d = true
  | [], d, hd => by cases hd
  | p :: r, d, hd => by
   rcases List.mem_append.mp (show d ∈ pL r ++ [fL p] from hd) with h | h
   ·exact pm r d h
   ·rw [List.mem_singleton.mp h]; rfl
theorem eqP_snoc (l : List D) (x : D) : eqP (.lst (l ++ [x])) (.lst []) = false := by cases l <;> rfl
theorem b_not {b : Bool} (h : (!b) = true) : b = false := by cases b <;> first | rfl | cases h
theorem b_yes {b : Bool} (h : (!b) = false) : b = true := by cases b <;> first | rfl | cases h
theorem due_ok (es : List En) (hl : es.length <= 1000) {K : Nat} (hK : 1 <= K) (S : Store) : Wp (call F wh K 6 [.tup (es.map eD)] S) fun q S' => q = (run [] 0 es, false) /\ S' = S := by
  obtain ⟨K, rfl⟩ : ∃ k, K = k + 1 := ⟨K - 1, by omega⟩
  refine w__law_due ?_
  nofun
  refine wp_walk (fun rem ρ S' => S' = S /\ ∃ (n : Nat) (es' : List En) (r : Sk) (x2 x3 x4 x5 x6 : Slot), rem = enumD n (es'.map eD) /\ run [] 0 es = run r n es' /\ r.length <= n /\ n + es'.length = es.length /\ ρ = [.sh (.tup (es.map eD)), .ow (.lst (pL r)), x2, x3, x4, x5, x6]) ?_ ?_ _ _ _ ⟨rfl, 0, es, [], .no, .no, .no, .no, .no, rfl, rfl, by simp, by simp, rfl⟩
  · rintro d rem ρ S' ⟨rfl, n, es', r, x2, x3, x4, x5, x6, e1, e2, hr, hn, rfl⟩
    cases es' with
    | nil => cases e1
    | cons e es' =>
      cases e1
      simp at hn
      have hd : run r n (e :: es') = (match stp r e with
        | some r' => run r' (n + 1) es'
        | none => .int n) := rfl
      have hp := pL_len (r := r)
      nofun
      refine tst_mk (fun h1 => ?_) (fun h1 => ?_)
      · have h1 : (e.w == "do") = true := h1
        have hs : stp r e = some ((false, e.d) :: r) := by unfold stp; rw [if_pos h1]
        nofun
        refine sm_mk (addl_op (b := [fL (false, e.d)]) (by simp; omega)) ?_
        refine fz_p rfl ?_ ?_
        · exact noM_pL ((false, e.d) :: r)
        nofun
        refine ⟨rfl, n + 1, es', (false, e.d) :: r, _, _, _, _, _, rfl, ?_, by simp; omega, by omega, rfl⟩
        rw [e2, hd, hs]
      · have h1 : (e.w == "do") = false := h1
        nofun
        refine tst_mk (fun h2 => ?_) (fun h2 => ?_)
        · have h2 : (e.w == "tell") = false := b_not h2
          have hsub : ∃ b : Bool, (e.w == "undone") = b /\ subD (.lst [.str "do", .str "undo"]) (.int (if (e.w == ("undone" : Str)) = true then 1 else 0)) = some (.str (if b = true then ("undo" : Str) else "do")) := by
            cases h : (e.w == ("undone" : Str)) with
            | true => exact ⟨true, rfl, rfl⟩
            | false => exact ⟨false, rfl, rfl⟩
          obtain ⟨b, hb, hsub⟩ := hsub
          nofun
          refine sm_mk hsub ?_
          nofun
          refine ⟨_, rfl, ?_⟩
          cases r with
          | nil =>
            have hs : stp [] e = none := by unfold stp; rw [if_neg (by rw [h1]; decide), if_neg (by rw [h2]; decide)]
            nofun
            refine tst_T rfl ?_
            nofun
            refine ⟨?_, rfl⟩
            rw [e2, hd, hs]
          | cons p r =>
            simp at hr
            have hp := pL_len (r := r)
            nofun
            refine sm_mk (last_cmp (x := fL p) (y := fL (b, e.d)) (pL r) rfl rfl) ?_
            nofun
            refine tst_mk (fun h3 => ?_) (fun h3 => ?_)
            · have hs : stp (p :: r) e = none := by
                unfold stp
                rw [if_neg (by rw [h1]; decide), if_neg (by rw [h2]; decide)]
                rw [eqP_fL] at h3
                exact if_neg (by rw [hb]; simpa using h3)
              nofun
              refine ⟨?_, rfl⟩
              rw [e2, hd, hs]
            · have hq : p = (b, e.d) := by
                rw [eqP_fL] at h3
                simpa using h3
              have hs : stp (p :: r) e = some (if (e.w == "undo") = true then (true, e.d) :: r else r) := by
                unfold stp
                rw [if_neg (by rw [h1]; decide), if_neg (by rw [h2]; decide)]
                exact if_pos (by rw [hb]; exact hq)
              nofun
              refine ⟨_, rfl, ?_⟩
              nofun
              cases h4 : (e.w == ("undo" : Str)) with
              | true =>
                rw [if_pos h4] at hs
                refine sm_mk (a := (.lst [fL (true, e.d)], true)) ?_ ?_
                · show opD .Mult (.lst [.tup [.str "undo", .int e.d]]) (.int (if (e.w == ("undo" : Str)) = true then 1 else 0)) = _
                  rw [h4]; rfl
                refine sm_mk (a := (.lst (pL ((true, e.d) :: r)), true)) ?_ ?_
                · show opD .Add (.lst (cutD (pL r ++ [fL p]) none (some (-1)))) (.lst [fL (true, e.d)]) = _
                  rw [cut_m1]
                  exact addl_op (by simp; omega)
                refine fz_p rfl ?_ ?_
                · exact noM_pL ((true, e.d) :: r)
                nofun
                refine ⟨rfl, n + 1, es', (true, e.d) :: r, _, _, _, _, _, rfl, ?_, by simp; omega, by omega, rfl⟩
                rw [e2, hd, hs]
              | false =>
                rw [if_neg (by rw [h4]; decide)] at hs
                refine sm_mk (a := (.lst [], true)) ?_ ?_
                · show opD .Mult (.lst [.tup [.str "undo", .int e.d]]) (.int (if (e.w == ("undo" : Str)) = true then 1 else 0)) = _
                  rw [h4]; rfl
                refine sm_mk (a := (.lst (pL r), true)) ?_ ?_
                · show opD .Add (.lst (cutD (pL r ++ [fL p]) none (some (-1)))) (.lst []) = _
                  rw [cut_m1, addl_op (by simp; omega), List.append_nil]
                refine fz_p rfl ?_ ?_
                · exact noM_pL r
                nofun
                refine ⟨rfl, n + 1, es', r, _, _, _, _, _, rfl, ?_, by omega, by omega, rfl⟩
                rw [e2, hd, hs]
        · have h2 : (e.w == "tell") = true := b_yes h2
          have hs : stp r e = some r := by unfold stp; rw [if_neg (by rw [h1]; decide), if_pos h2]
          nofun
          refine ⟨rfl, n + 1, es', r, _, _, _, _, _, rfl, ?_, by omega, by omega, rfl⟩
          rw [e2, hd, hs]
  · rintro ρ S' ⟨rfl, n, es', r, x2, x3, x4, x5, x6, e1, e2, hr, hn, rfl⟩
    cases es' with
    | cons e es' => cases e1
    | nil =>
      simp at hn
      cases r with
      | nil =>
        nofun
        refine ⟨?_, rfl⟩
        rw [e2]; rfl
      | cons p r =>
        nofun
        refine sm_mk (eq_op (okP_pL (p :: r)) rfl) ?_
        nofun
        refine tst_F (eqP_snoc (pL r) (fL p)) ?_
        nofun
        refine ⟨?_, rfl⟩
        rw [e2, hn]
        show (D.int ((es.map eD).length : Nat), false) = (D.int (es.length : Nat), false)
        rw [List.length_map]
end K63
namespace K63
open PySem L2 EV
theorem run_shape : ∀ (es : List En) (r : Sk) (n : Nat), run r n es = .non \/ ∃ m : Nat, run r n es = .int m
 | [], r, n => by
  unfold run
  split
  ·exact .inl rfl
  ·exact .inr ⟨n, rfl⟩
 | e :: es, r, n => by
  unfold run
  split
  ·exact run_shape es _ _
  ·exact .inr ⟨n, rfl⟩
theorem told_ok (es : List En) (hl : es.length <= 1000) {K : Nat} (hK : 2 <= K) (S : Store) : Wp (call F wh K 7 [.tup (es.map eD)] S) fun q S' => q = (.bl true, false) /\ S' = S := by
 obtain ⟨K, rfl⟩ : ∃ k, K = k + 1 := ⟨K - 1, by omega⟩
 refine w__law_told ?_
 nofun
 refine wp_mono (unclosed_ok es hl (by omega) S) ?_
 rintro _ _ ⟨rfl, rfl⟩
 nofun
 refine wp_mono (due_ok es hl (by omega) _) ?_
 rintro _ S ⟨rfl, rfl⟩
 rcases run_shape es [] 0 with h | ⟨m, h⟩
 ·rw [h]
  nofun
  refine wp_mono (unclosed_ok es hl (by omega) S) ?_
  rintro _ _ ⟨rfl, rfl⟩
  rw [h]
  nofun
  exact ⟨rfl, rfl⟩
 ·rw [h]
  nofun
  refine wp_mono (unclosed_ok es hl (by omega) S) ?_
  rintro _ _ ⟨rfl, rfl⟩
  rw [h]
  nofun
  refine ⟨?_, rfl⟩
  show (D.bl ((m : Int) == (m : Int)), false) = _
  simp
noncomputable def Op (r : Sk) (es : List En) : Prop := ∀ (b : Sk) (n : Nat) (rest : List En), run b n (es ++ rest) = run (r ++ b) (n + es.length) rest
theorem Op.nil : Op [] [] := fun b n rest => rfl
theorem Op.app {r s : Sk} {a b : List En} (h : Op r a) (k : Op s b) : Op (s ++ r) (a ++ b) := fun c n rest => by
 rw [List.append_assoc, h, k, List.append_assoc, List.length_append, Nat.add_assoc]
theorem Op.snoc {r r' : Sk} {a : List En} {e : En} (h : Op r a) (k : ∀ b, stp (r ++ b) e = some (r' ++ b)) : Op r' (a ++ [e]) := fun c n rest => by
  rw [List.append_assoc, h, List.length_append, <- Nat.add_assoc]
  show (match stp (r ++ c) e with
    | some r' => run r' (n + a.length + 1) rest
    | none => .int (n + a.length : Nat)) = _
  rw [k c]; rfl
theorem Op.run {es : List En} (h : Op [] es) : run [] 0 es = .non := by
 have := h [] 0 []
 rw [List.append_nil] at this
 rw [this]; rfl
theorem stp_do {r : Sk} {x d : Int} : stp r ⟨x, "do", d⟩ = some ((false, d) :: r) := rfl
theorem stp_done {r : Sk} {x d : Int} : stp ((false, d) :: r) ⟨x, "done", d⟩ = some r := by
 unfold stp
 rw [if_neg (show ¬ (("done" : Str) == "do") = true by decide), if_neg (show ¬ (("done" : Str) == "tell") = true by decide)]
 exact if_pos rfl
theorem stp_undone {r : Sk} {x d : Int} : stp ((true, d) :: r) ⟨x, "undone", d⟩ = some r := by
 unfold stp
 rw [if_neg (show ¬ (("undone" : Str) == "do") = true by decide), if_neg (show ¬ (("undone" : Str) == "tell") = true by decide)]
 exact if_pos rfl
theorem stp_undo {r : Sk} {x d : Int} : stp ((false, d) :: r) ⟨x, "undo", d⟩ = some ((true, d) :: r) := by
 unfold stp
 rw [if_neg (show ¬ (("undo" : Str) == "do") = true by decide), if_neg (show ¬ (("undo" : Str) == "tell") = true by decide)]
 exact if_pos rfl
noncomputable def pK (ns : List Int) (a m : Int) : D := .lst [.lst (ns.map D.int), .int a, .int m]
structure PotOk (a m : Int) : Prop where
 a0 : 0 <= a
 m0 : 0 <= m
 m1 : m < 2147483629
theorem take_ok {many : Int} (hm : 0 < many) {K : Nat} (hK : 1 <= K) {ns : List Int} {a m : Int} {T : Store} (p : PotOk a m) : Wp (call F wh K 3 [.ref 0, .int many] (pK ns a m :: T)) fun q S => ∃ x a' m', q = (.int x, false) /\ 0 <= x /\ x < many /\ PotOk a' m' /\ S = pK ns a' m' :: T := by
 obtain ⟨k, rfl⟩ : ∃ k, K = k + 1 := ⟨K - 1, by omega⟩
 have ha := p.a0
 refine w__law_take ?_
 nofun
 refine tst_mk (fun h => ?_) (fun h => ?_)
 ·obtain ⟨x, _, hx⟩ := ints_get p.a0 (by simpa using h)
  nofun
  refine sm_mk hx ?_
  nofun
  refine sm_mk (mod_op hm) ?_
  nofun
  exact ⟨_, a + 1, m, rfl, Int.emod_nonneg _ (by omega), Int.emod_lt_of_pos _ hm, ⟨by omega, p.m0, p.m1⟩, rfl⟩
 ·nofun
  refine sm_mk (mul_op (small_of p.m0 (by have := p.m1; omega))) ?_
  nofun
  refine sm_mk (mod_op hm) ?_
  nofun
  exact ⟨_, a + 1, (m * m + 40692 + a) % 2147483629, rfl, Int.emod_nonneg _ (by omega), Int.emod_lt_of_pos _ hm, ⟨by omega, Int.emod_nonneg _ (by omega), Int.emod_lt_of_pos _ (by omega)⟩, rfl⟩
theorem at_end {T : Store} {p x : D} : (p :: (T ++ [x]))[T.length + 1]? = some x := by simp
theorem set_end {T : Store} {p x y : D} : (p :: (T ++ [x])).set (T.length + 1) y = p :: (T ++ [y]) := by simp
theorem set_e2 {T : Store} {x y : D} : (T ++ [x]).set T.length y = T ++ [y] := by simp
theorem der_end {T : Store} {p x : D} : deref (p :: (T ++ [x])) (.ref (T.length + 1)) = x := by
 show (((p :: (T ++ [x]))[T.length + 1]?).getD .non) = x
 rw [at_end]; rfl
noncomputable def Ed (ns : List Int) (T : Store) (r : Sk) (sound : Bool) (q : D × Bool) (S : Store) : Prop :=
 ∃ (e : En) (r' : Sk) (a m : Int), q = (eD e, false) /\ PotOk a m /\ S = pK ns a m :: (T ++ [.lst (pL r')]) /\ r'.length <= r.length + 1 /\ (sound = true -> ∀ b, stp (r ++ b) e = some (r' ++ b))
theorem entry_ok {ns : List Int} {a m hour : Int} {T : Store} {r : Sk} {sound : Bool} (p : PotOk a m) (hr : r.length <= 100) {K : Nat} (hK : 2 <= K) : Wp (call F wh K 4 [.ref 0, .ref (T.length + 1), .int hour, .bl sound] (pK ns a m :: (T ++ [.lst (pL r)]))) (Ed ns T r sound) := by
 obtain ⟨K, rfl⟩ : ∃ k, K = k + 1 := ⟨K - 1, by omega⟩
 have hp := pL_len (r := r)
 refine w__law_entry ?_
 nofun
 refine wp_mono (take_ok (by omega) (by omega) p) ?_
 rintro _ _ ⟨w, a1, m1, rfl, w0, w1, p1, rfl⟩
 nofun
 refine wp_mono (take_ok (by omega) (by omega) p1) ?_
 rintro _ _ ⟨d, a2, m2, rfl, d0, d1, p2, rfl⟩
 nofun
 refine tst_mk (fun h1 => ?_) (fun h1 => ?_)
 ·nofun
  refine wp_mono (take_ok (by omega) (by omega) p2) ?_
  rintro _ _ ⟨x, a3, m3, rfl, x0, x1, p3, rfl⟩
  nofun
  refine wp_mono (take_ok (by omega) (by omega) p3) ?_
  rintro _ _ ⟨y, a4, m4, rfl, y0, y1, p4, rfl⟩
  nofun
  exact ⟨⟨hour, "tell", _⟩, r, a4, m4, rfl, p4, rfl, by omega, fun _ _ => rfl⟩
 have other : ∀ ρ, ρ = [.sh (.ref 0), .sh (.ref (T.length + 1)), .sh (.int hour), .sh (.bl sound), .sh (.int w), .sh (.int d), .no, .no] -> wpCs (call F wh K) wh (b__law_entry.drop 4) ρ (Told (Ed ns T r sound)) (pK ns a2 m2 :: (T ++ [.lst (pL r)])) := by
  rintro _ rfl
  show wpCs _ _ [_, _, _, _, _, _] _ _ _
  have dodo : ∀ ρ, ρ = [.sh (.ref 0), .sh (.ref (T.length + 1)), .sh (.int hour), .sh (.bl sound), .sh (.int w), .sh (.int d), .no, .no] -> wpCs (call F wh K) wh [.appR (.var 1) (.tup [(.con (.str "do")), (.var 5)]), .ret (.tup [(.var 2), (.con (.str "do")), (.var 5)])] ρ (Told (Ed ns T r sound)) (pK ns a2 m2 :: (T ++ [.lst (pL r)])) := by
   rintro _ rfl
   nofun
   refine ok_mk (by rw [at_end]; rfl) ?_
   nofun
   refine cel_mk at_end ?_
   nofun
   rw [set_end]
   nofun
   exact ⟨⟨hour, "do", d⟩, (false, d) :: r, a2, m2, rfl, p2, rfl, by simp, fun _ _ => stp_do⟩
  nofun
  refine tst_mk (fun h3 => ?_) (fun h3 => ?_)
  ·repeat first | exact dodo _ rfl | infer_instance
  ·nofun
   rw [der_end]
   cases r with
   | nil => repeat first | exact dodo _ rfl | infer_instance
   | cons q r =>
    obtain ⟨b, x⟩ := q
    refine sm_mk (eq_op (okP_pL ((b, x) :: r)) rfl) ?_
    nofun
    refine tst_F (eqP_snoc (pL r) (fL (b, x))) ?_
    nofun
    refine cel_mk at_end ?_
    refine sm_mk (a := fL (b, x)) (by simp [pL]) ?_
    nofun
    have hdl : (pL ((b, x) :: r)).dropLast = pL r := by simp [pL]
    rw [set_e2, hdl]
    cases b with
    | true =>
     refine tst_T rfl ?_
     nofun
     exact ⟨⟨hour, "undone", x⟩, r, a2, m2, rfl, p2, rfl, by simp; omega, fun _ _ => stp_undone⟩
    | false =>
     refine tst_F rfl ?_
     nofun
     refine tst_mk (fun h5 => ?_) (fun h5 => ?_)
     ·nofun
      exact ⟨⟨hour, "done", x⟩, r, a2, m2, rfl, p2, rfl, by simp; omega, fun _ _ => stp_done⟩
     ·have hp := pL_len (r := r)
      simp at hr
      nofun
      refine ok_mk (by rw [at_end]; rfl) ?_
      nofun
      refine cel_mk at_end ?_
      nofun
      rw [set_end]
      nofun
      exact ⟨⟨hour, "undo", x⟩, (true, x) :: r, a2, m2, rfl, p2, rfl, by simp, fun _ _ => stp_undo⟩
 nofun
 refine tst_mk (fun h2 => ?_) (fun h2 => ?_)
 ·cases sound with
  | true => repeat first | exact other _ rfl | infer_instance
  | false =>
   obtain ⟨b, hb⟩ : ∃ b : Bool, subD (.lst [.str "do", .str "undo"]) (.int (d % 2)) = some (.str (if b = true then ("undo" : Str) else "do")) := by
    have : d % 2 = 0 \/ d % 2 = 1 := by omega
    rcases this with h | h <;> rw [h]
    ·exact ⟨false, rfl⟩
    ·exact ⟨true, rfl⟩
   nofun
   refine ok_mk (by rw [at_end]; rfl) ?_
   nofun
   refine sm_mk hb ?_
   nofun
   refine cel_mk at_end ?_
   nofun
   rw [set_end]
   nofun
   refine wp_mono (take_ok (by omega) (by omega) p2) ?_
   rintro _ _ ⟨x, a3, m3, rfl, x0, x1, p3, rfl⟩
   obtain ⟨z, hz⟩ : ∃ z, subD (.lst [.str "do", .str "done", .str "undo", .str "undone"]) (.int x) = some (.str z) := by
    have : x = 0 \/ x = 1 \/ x = 2 \/ x = 3 := by omega
    rcases this with rfl | rfl | rfl | rfl <;> exact ⟨_, rfl⟩
   nofun
   refine sm_mk hz ?_
   nofun
   exact ⟨⟨hour, z, d⟩, (b, d) :: r, a3, m3, rfl, p3, rfl, by simp, fun h => by cases h⟩
 ·repeat first | exact other _ rfl | infer_instance
end K63
namespace K63
open PySem L2 EV
theorem map_snoc {ns : List Int} {v : Int} : ns.map D.int ++ [.int v] = (ns ++ [v]).map D.int := by rw [List.map_append]; rfl
theorem numbers_ok (c : Int) {K : Nat} (hK : 1 <= K) (S : Store) : Wp (call F wh K 1 [.int c] S) fun q S' => S' = S /\ ∃ ns : List Int, ns.length <= 60 /\ q = (.lst (ns.map D.int), true) := by
 obtain ⟨k, rfl⟩ : ∃ k, K = k + 1 := ⟨K - 1, by omega⟩
 refine w__law_numbers ?_
 nofun
 refine tst_mk (fun h => ?_) (fun h => ?_)
 ·nofun
  refine ⟨by decide, by decide, ?_⟩
  refine wp_walk (fun l ρ S' => S' = S /\ ∃ (ns : List Int) (left : Int) (x3 x4 : Slot), ρ = [.sh (.int c), .ow (.lst (ns.map D.int)), .sh (.int left), x3, x4] /\ ns.length + l.length <= 60) ?_ ?_ _ _ _ ⟨rfl, [], _, .no, .no, rfl, by decide⟩
  ·rintro d l ρ S' ⟨rfl, ns, left, x3, x4, rfl, hl⟩
   have hl' : ns.length + (l.length + 1) <= 60 := hl
   nofun
   refine tst_mk (fun h1 => ?_) (fun h1 => ?_)
   ·nofun
    exact ⟨rfl, _, _, _, _, by rw [map_snoc], by simp; omega⟩
   ·nofun
    exact ⟨rfl, _, _, _, _, rfl, by omega⟩
  ·rintro ρ S' ⟨rfl, ns, left, x3, x4, rfl, hl⟩
   have hl : ns.length <= 60 := by simpa using hl
   nofun
   exact ⟨rfl, ns, by omega, rfl⟩
 ·nofun
  refine ⟨by decide, by decide, ?_⟩
  refine wp_walk (fun l ρ S' => S' = S /\ ∃ (ns : List Int) (x2 x3 x4 : Slot), ρ = [.sh (.int c), .ow (.lst (ns.map D.int)), x2, x3, x4] /\ ns.length + l.length <= 8 /\ ∀ d ∈ l, ∃ j, d = .int j /\ 0 <= j /\ j < 8) ?_ ?_ _ _ _ ⟨rfl, [], _, .no, .no, rfl, by decide, fun d hd => rng_mem hd⟩
  ·rintro d l ρ S' ⟨rfl, ns, x2, x3, x4, rfl, hl, hd⟩
   have hl' : ns.length + (l.length + 1) <= 8 := hl
   obtain ⟨j, rfl, j0, j1⟩ := hd d (List.mem_cons_self ..)
   nofun
   refine sm_mk (mulr_op (small_of j0 (by omega))) ?_
   nofun
   refine ⟨rfl, _, _, _, _, by rw [map_snoc]; rfl, by simp; omega, fun d hx => hd d (List.mem_cons_of_mem _ hx)⟩
  ·rintro ρ S' ⟨rfl, ns, x2, x3, x4, rfl, hl, _⟩
   have hl : ns.length <= 8 := by simpa using hl
   nofun
   exact ⟨rfl, ns, by omega, rfl⟩
theorem pot_ok (cs : List Int) (hc : cs.length <= 63) {K : Nat} (hK : 2 <= K) (S : Store) : Wp (call F wh K 2 [.scr cs] S) fun q S' => S' = S /\ ∃ ns m, q = (pK ns 0 m, true) /\ PotOk 0 m := by
 obtain ⟨k, rfl⟩ : ∃ k, K = k + 1 := ⟨K - 1, by omega⟩
 refine w__law_pot ?_
 nofun
 refine wp_walk (fun l ρ S' => S' = S /\ ∃ (ns : List Int) (x2 : Slot), ρ = [.sh (.scr cs), .ow (.lst (ns.map D.int)), x2] /\ ns.length + 60 * l.length <= 3780 /\ ∀ d ∈ l, ∃ j, d = .int j) ?_ ?_ _ _ _ ⟨rfl, [], .no, rfl, ?_, fun d hd => ?_⟩
 ·rintro d l ρ S' ⟨rfl, ns, x2, rfl, hl, hd⟩
  have hl' : ns.length + 60 * (l.length + 1) <= 3780 := hl
  obtain ⟨j, rfl⟩ := hd d (List.mem_cons_self ..)
  nofun
  refine wp_mono (numbers_ok j (K := k) (by omega) _) ?_
  rintro _ _ ⟨rfl, ms, hm, rfl⟩
  nofun
  refine sm_mk (addl_op (by simp; omega)) ?_
  nofun
  exact ⟨rfl, ns ++ ms, _, by rw [<- List.map_append]; rfl, by simp; omega, fun d hx => hd d (List.mem_cons_of_mem _ hx)⟩
 ·rintro ρ S' ⟨rfl, ns, x2, rfl, hl, hd⟩
  have fin : ∀ (ms : List Int) (ρ : List Slot), ρ = [.sh (.scr cs), .ow (.lst (ms.map D.int)), x2] -> wpCs (call F wh k) wh (b__law_pot.drop 3) ρ (Told fun q S'' => S'' = S' /\ ∃ ns m, q = (pK ns 0 m, true) /\ PotOk 0 m) S' := by
   rintro ms _ rfl
   show wpCs _ _ [_] _ _ _
   nofun
   refine sm_mk (a := (.int ms.sum, false)) (by show ((intsD (ms.map D.int)).map _).map _ = _; rw [intsD_map]; rfl) ?_
   nofun
   exact ⟨rfl, ms, _, rfl, by decide, Int.emod_nonneg _ (by decide), Int.emod_lt_of_pos _ (by decide)⟩
  nofun
  refine sm_mk (eq_op (okPs_ints 59 ns) rfl) ?_
  nofun
  refine tst_mk (fun h => ?_) (fun h => ?_)
  ·nofun
   refine wp_mono (numbers_ok 0 (K := k) (by omega) _) ?_
   rintro _ _ ⟨rfl, ms, hm, rfl⟩
   repeat first | exact fin ms _ rfl | infer_instance
  ·repeat first | exact fin ns _ rfl | infer_instance
 ·have := cut_len (cs.map D.int) none (some 63)
  rw [List.length_map] at this
  simp
  omega
 ·have := cut_mem hd
  obtain ⟨j, _, rfl⟩ := List.mem_map.mp this
  exact ⟨j, rfl⟩
theorem pL_rev : ∀ (r : Sk), (pL r).reverse = r.map fL
 | [] => rfl
 | q :: r => by
  show (pL r ++ [fL q]).reverse = _
  rw [List.reverse_append, pL_rev r]; rfl
noncomputable def Dy (ns : List Int) (T : Store) (many : Nat) (sound : Bool) (q : D × Bool) (S : Store) : Prop :=
 ∃ (es : List En) (a m : Int) (c : D), q = (.tup (es.map eD), false) /\ PotOk a m /\ S = pK ns a m :: (T ++ [c]) /\ es.length <= 2 * many /\ (sound = true -> Op [] es)
theorem diary_ok {ns : List Int} {a m : Int} {T : Store} {many : Nat} (hm : many <= 61) {sound : Bool} (p : PotOk a m) {K : Nat} (hK : 3 <= K) : Wp (call F wh K 5 [.ref 0, .int many, .bl sound] (pK ns a m :: T)) (Dy ns T many sound) := by
 obtain ⟨K, rfl⟩ : ∃ k, K = k + 1 := ⟨K - 1, by omega⟩
 refine w__law_diary ?_
 nofun
 refine ⟨by omega, by omega, ?_⟩
 refine wp_walk (fun l ρ S' => ∃ (es : List En) (r : Sk) (a m : Int) (x5 : Slot), ρ = [.sh (.ref 0), .sh (.int many), .sh (.bl sound), .sh (.ref (T.length + 1)), .ow (.lst (es.map eD)), x5, .no, .no] /\ S' = pK ns a m :: (T ++ [.lst (pL r)]) /\ PotOk a m /\ es.length + l.length = many /\ r.length <= es.length /\ (sound = true -> Op r es) /\ ∀ d ∈ l, ∃ j, d = .int j /\ 0 <= j) ?_ ?_ _ _ _ ⟨[], [], a, m, .no, rfl, rfl, p, by rw [rng_len]; simp, by simp, fun _ => Op.nil, fun d hd => ?_⟩
 ·rintro d l ρ S' ⟨es, r, a, m, x5, rfl, rfl, p, hl, hr, ho, hd⟩
  obtain ⟨j, rfl, j0⟩ := hd d (List.mem_cons_self ..)
  simp at hl
  nofun
  refine wp_mono (entry_ok p (by omega) (by omega)) ?_
  rintro _ _ ⟨e, r', a', m', rfl, p', rfl, hr', hs⟩
  nofun
  refine ⟨es ++ [e], r', a', m', _, by simp; rfl, rfl, p', by simp; omega, by simp; omega, fun h => (ho h).snoc (hs h), fun d hx => hd d (List.mem_cons_of_mem _ hx)⟩
 ·rintro ρ S' ⟨es, r, a, m, x5, rfl, rfl, p, hl, hr, ho, _⟩
  simp at hl
  have fin : ∀ (es : List En) (r : Sk) (x6 x7 : Slot), es.length <= 2 * many -> (sound = true -> Op [] es) -> ∀ ρ, ρ = [.sh (.ref 0), .sh (.int many), .sh (.bl sound), .sh (.ref (T.length + 1)), .ow (.lst (es.map eD)), x5, x6, x7] -> wpCs (call F wh K) wh (b__law_diary.drop 4) ρ (Told (Dy ns T many sound)) (pK ns a m :: (T ++ [.lst (pL r)])) := by
   rintro es r x6 x7 hl ho _ rfl
   show wpCs _ _ [_] _ _ _
   nofun
   refine fz_p rfl ?_ ?_
   ·exact noMs_all fun d hd => by obtain ⟨e, _, rfl⟩ := List.mem_map.mp hd; rfl
   nofun
   exact ⟨es, a, m, _, rfl, p, rfl, hl, ho⟩
  cases sound with
  | false => repeat first | exact fin es r _ _ (by omega) (fun h => by cases h) _ rfl | infer_instance
  | true =>
   nofun
   refine sm_mk (a := (.lst (pL r).reverse, true)) ?_ ?_
   ·rw [der_end]; rfl
   nofun
   refine wp_walk (fun l ρ S' => S' = pK ns a m :: (T ++ [.lst (pL r)]) /\ ∃ (es : List En) (s : Sk) (x6 x7 : Slot), l = s.map fL /\ ρ = [.sh (.ref 0), .sh (.int many), .sh (.bl true), .sh (.ref (T.length + 1)), .ow (.lst (es.map eD)), x5, x6, x7] /\ es.length + s.length <= 2 * many /\ Op s es) ?_ ?_ _ _ _ ⟨rfl, es, r, .no, .no, ?_, rfl, by omega, ho rfl⟩
   ·rintro d l ρ S' ⟨rfl, es, s, x6, x7, e1, rfl, hs, ho⟩
    cases s with
    | nil => cases e1
    | cons q s =>
     cases e1
     obtain ⟨b, x⟩ := q
     simp at hs
     cases b with
     | true =>
      nofun
      exact ⟨rfl, es ++ [⟨many, "undone", x⟩], s, _, _, rfl, by rw [List.map_append]; rfl, by simp; omega, Op.snoc (e := ⟨many, "undone", x⟩) ho fun b => stp_undone (r := s ++ b)⟩
     | false =>
      nofun
      exact ⟨rfl, es ++ [⟨many, "done", x⟩], s, _, _, rfl, by rw [List.map_append]; rfl, by simp; omega, Op.snoc (e := ⟨many, "done", x⟩) ho fun b => stp_done (r := s ++ b)⟩
   ·rintro ρ S' ⟨rfl, es, s, x6, x7, e1, rfl, hs, ho⟩
    cases s with
    | cons q s => cases e1
    | nil => repeat first | exact fin es r _ _ (by simpa using hs) (fun _ => ho) _ rfl | infer_instance
   ·exact pL_rev r
 ·obtain ⟨j, h, h0, _⟩ := rng_mem hd
  exact ⟨j, h, h0⟩
end K63
namespace K63
open PySem L2 EV
theorem none_ok {es : List En} (h : Op [] es) (hl : es.length <= 1000) {K : Nat} (hK : 1 <= K) (S : Store) : Wp (call F wh K 0 [.tup (es.map eD)] S) fun q S' => q = (.non, false) /\ S' = S := by
 refine wp_mono (unclosed_ok es hl hK S) ?_
 rintro _ _ ⟨rfl, rfl⟩
 rw [h.run]
 exact ⟨rfl, rfl⟩
theorem eq_ent {es : List D} {fs : List En} {x d : Int} {w : Str} (h : es = fs.map eD) : es ++ [.tup [.int x, .str w, .int d]] = (fs ++ [En.mk x w d]).map eD := by
 subst h
 rw [List.map_append]; rfl
theorem law_wp (cs : List Int) (hc : cs.length <= 63) : Wp (call F wh 60 8 [.scr cs] []) fun q _ => q = (.bl true, false) := by
 refine w_law ?_
 nofun
 refine wp_mono (pot_ok cs hc (K := 59) (by omega) []) ?_
 rintro _ _ ⟨rfl, ns, m, rfl, p0⟩
 nofun
 refine wp_mono (take_ok (by omega) (by omega) p0) ?_
 rintro _ _ ⟨many, a1, m1, rfl, n0, n1, p1, rfl⟩
 nofun
 refine wp_mono (take_ok (by omega) (by omega) p1) ?_
 rintro _ _ ⟨d, a2, m2, rfl, d0, d1, p2, rfl⟩
 nofun
 refine wp_mono (take_ok (by omega) (by omega) p2) ?_
 rintro _ _ ⟨i, a3, m3, rfl, i0, i1, p3, rfl⟩
 obtain ⟨i, rfl⟩ : ∃ k : Nat, i = k := ⟨i.toNat, by omega⟩
 nofun
 refine wp_mono (diary_ok (by omega) p3 (by omega)) ?_
 rintro _ _ ⟨one, a4, m4, c4, rfl, p4, rfl, l4, o4⟩
 nofun
 refine wp_mono (take_ok (by omega) (by omega) p4) ?_
 rintro _ _ ⟨j, a5, m5, rfl, j0, j1, p5, rfl⟩
 obtain ⟨j, rfl⟩ : ∃ k : Nat, j = k := ⟨j.toNat, by omega⟩
 nofun
 refine wp_mono (diary_ok (by omega) p5 (by omega)) ?_
 rintro _ _ ⟨other, a6, m6, c6, rfl, p6, rfl, l6, o6⟩
 have o4 := o4 rfl
 have o6 := o6 rfl
 nofun
 generalize hS : pK ns a6 m6 :: (([] ++ [c4]) ++ [c6]) = S0
 have hw : Op [(false, d)] ([⟨0, "do", d⟩] ++ one) := (Op.snoc (e := ⟨0, "do", d⟩) Op.nil fun b => stp_do).app o4
 have e1 : one.map eD ++ other.map eD = (one ++ other).map eD := by rw [List.map_append]
 have ew : [D.tup [D.int 0, D.str "do", D.int d]] ++ one.map eD = ([En.mk 0 "do" d] ++ one).map eD := by rw [List.map_append]; rfl
 have hA1 : Op [] (one ++ other) := o4.app o6
 have hA2 : Op [] ([⟨0, "do", d⟩] ++ one ++ [⟨3, "done", d⟩]) := Op.snoc hw fun b => stp_done
 have hA3 : Op [] ([⟨0, "do", d⟩] ++ one ++ [⟨3, "undo", d⟩] ++ other ++ [⟨4, "undone", d⟩]) := Op.snoc ((Op.snoc (r' := [(true, d)]) hw fun b => stp_undo).app o6) fun b => stp_undone
 rw [e1, ew]
 refine wp_walk (fun l ρ S' => S' = S0 /\ ∃ (x7 x8 : Slot), ρ = [.sh (.scr cs), .sh (.ref 0), .sh (.int many), .sh (.int d), .sh (.tup (one.map eD)), .sh (.tup (other.map eD)), .sh (.tup (([En.mk 0 "do" d] ++ one).map eD)), x7, x8] /\ ∀ y ∈ l, ∃ es, y = .tup (es.map eD) /\ Op [] es /\ es.length <= 100) ?_ ?_ _ _ _ ⟨rfl, .no, .no, rfl, ?_⟩
 ·rintro y l ρ S' ⟨rfl, x7, x8, rfl, hy⟩
  obtain ⟨es, rfl, ho, hl⟩ := hy y (List.mem_cons_self ..)
  nofun
  refine wp_mono (none_ok ho (by omega) (by omega) _) ?_
  rintro _ S' ⟨rfl, rfl⟩
  nofun
  refine wp_walk (fun l ρ S2 => S2 = S' /\ ∃ (x8 : Slot), ρ = [.sh (.scr cs), .sh (.ref 0), .sh (.int many), .sh (.int d), .sh (.tup (one.map eD)), .sh (.tup (other.map eD)), .sh (.tup (([En.mk 0 "do" d] ++ one).map eD)), .sh (.tup (es.map eD)), x8] /\ ∀ y ∈ l, ∃ w, y = .str w) ?_ ?_ _ _ _ ⟨rfl, x8, rfl, ?_⟩
  ·rintro y l ρ S2 ⟨rfl, x8, rfl, hz⟩
   obtain ⟨w, rfl⟩ := hz y (List.mem_cons_self ..)
   nofun
   rw [eq_ent (fs := es) rfl]
   refine wp_mono (told_ok _ (by simp; omega) (by omega) _) ?_
   rintro _ S2 ⟨rfl, rfl⟩
   nofun
   exact ⟨rfl, _, rfl, fun z h => hz z (List.mem_cons_of_mem _ h)⟩
  ·rintro ρ S2 ⟨rfl, x8, rfl, hz⟩
   nofun
   exact ⟨rfl, _, _, rfl, fun z h => hy z (List.mem_cons_of_mem _ h)⟩
  ·intro z hz
   simp at hz
   rcases hz with rfl | rfl | rfl | rfl <;> exact ⟨_, rfl⟩
 ·rintro ρ S' ⟨rfl, x7, x8, rfl, hy⟩
  nofun
  rw [eq_ent (fs := [En.mk 0 "do" d] ++ one) rfl]
  refine wp_mono (told_ok _ (by simp; omega) (by omega) _) ?_
  rintro _ S' ⟨rfl, rfl⟩
  nofun
  subst hS
  obtain ⟨many, rfl⟩ : ∃ k : Nat, many = k := ⟨many.toNat, by omega⟩
  refine wp_mono (diary_ok (by omega) p6 (by omega)) ?_
  rintro _ _ ⟨last, a7, m7, c7, rfl, p7, rfl, l7, _⟩
  nofun
  refine wp_mono (told_ok _ (by omega) (by omega) _) ?_
  rintro _ S' ⟨rfl, rfl⟩
  nofun
  refine wp_mono (told_ok _ (by omega) (by omega) _) ?_
  rintro _ S' ⟨rfl, rfl⟩
  nofun
  refine wp_mono (told_ok [] (by simp) (by omega) _) ?_
  rintro _ S' ⟨rfl, rfl⟩
  nofun
  rfl
 ·intro y hy
  simp only [List.mem_cons, List.not_mem_nil, or_false] at hy
  rcases hy with rfl | rfl | rfl
  ·exact ⟨_, rfl, hA1, by simp; omega⟩
  ·exact ⟨_, by rw [eq_ent rfl], hA2, by simp; omega⟩
  ·refine ⟨_, ?_, hA3, by simp; omega⟩
   rw [eq_ent rfl, <- List.map_append, eq_ent rfl]
theorem run_law (cs : List Int) (hc : cs.length <= 63) : ∃ S, call (fnsOf rs) wh 60 8 [.scr cs] [] = .ok (.bl true, false) S := by
 obtain ⟨_, S, h, rfl⟩ := law_wp cs hc
 exact ⟨S, h⟩
end K63
open PySem PySem.W PyProof.Rows
set_option maxRecDepth 100000 in
set_option maxHeartbeats 0 in
theorem PySem.Challenge.cw_errandroom_k63_diaries_that_pair_off_holds : PySem.Challenge.rw_errandroom_k63_diaries_that_pair_off.Holds := by
 w_on; o_law; k_head; (case hw => w_witness2)
 k_fill
 refine EV.walkE (l := PySem.Challenge.rw_errandroom_k63_diaries_that_pair_off) (B := K63.B) (rs := K63.rs) (f := 8) (r := K63.r_law) (y := "_law_script") (wh := K63.wh) rfl rfl rfl rfl rfl K63.tabs (fun w h Y => PySem.W.kIn_of Y) ?F K63.run_law
 case F =>
  intro w h KX
  try dsimp only
  refine' ⟨⟨?d0, ?d1, ?d2, ?d3, ?d4, ?d5, ?d6, ?d7, ?d8, True.intro⟩, ⟨?z0, ?z1, ?z2, ?z3, ?z4, ?z5, ?z6, ?z7, ?z8, True.intro⟩, ?cs⟩
  (case d0 => refine' EV.def_mk (x := "unclosed") (st := K63.top 1) ?a ?l ?c ?k; (case a => k_is); (case l => k_is); (case c => k_is); (case k => k_is))
  (case d1 => refine' EV.def_mk (x := "_law_numbers") (st := K63.top 3) ?a ?l ?c ?k; (case a => k_is); (case l => k_is); (case c => k_is); (case k => k_is))
  (case d2 => refine' EV.def_mk (x := "_law_pot") (st := K63.top 4) ?a ?l ?c ?k; (case a => k_is); (case l => k_is); (case c => k_is); (case k => k_is))
  (case d3 => refine' EV.def_mk (x := "_law_take") (st := K63.top 5) ?a ?l ?c ?k; (case a => k_is); (case l => k_is); (case c => k_is); (case k => k_is))
  (case d4 => refine' EV.def_mk (x := "_law_entry") (st := K63.top 6) ?a ?l ?c ?k; (case a => k_is); (case l => k_is); (case c => k_is); (case k => k_is))
  (case d5 => refine' EV.def_mk (x := "_law_diary") (st := K63.top 7) ?a ?l ?c ?k; (case a => k_is); (case l => k_is); (case c => k_is); (case k => k_is))
  (case d6 => refine' EV.def_mk (x := "_law_due") (st := K63.top 8) ?a ?l ?c ?k; (case a => k_is); (case l => k_is); (case c => k_is); (case k => k_is))
  (case d7 => refine' EV.def_mk (x := "_law_told") (st := K63.top 9) ?a ?l ?c ?k; (case a => k_is); (case l => k_is); (case c => k_is); (case k => k_is))
  (case d8 => refine' EV.def_mk (x := "law") (st := K63.top 10) ?a ?l ?c ?k; (case a => k_is); (case l => k_is); (case c => k_is); (case k => k_is))
  (case z0 => dsimp only; k_is)
  (case z1 => dsimp only; k_is)
  (case z2 => dsimp only; k_is)
  (case z3 => dsimp only; k_is)
  (case z4 => dsimp only; k_is)
  (case z5 => dsimp only; k_is)
  (case z6 => dsimp only; k_is)
  (case z7 => dsimp only; k_is)
  (case z8 => dsimp only; k_is)
  (case cs => intro n x d e; cases e)
