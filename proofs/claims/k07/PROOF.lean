import PyProof.Rows.All
import Wide.All
import OpenK.AllK
import Wide.FinOn
import Lean
import PyProof.EqAt
import PyProof.EqKinds
import PyProof.TupleCall
import PyProof.EnumMake
import PyProof.EnumIter
import PyProof.EnumFor
import PyProof.EnumStmt
import PyProof.WalksEnum
import PyProof.ReprRoads
import PyProof.ListMulRoad
import PyProof.NeKinds
import KE.KEqDict
import PyProof.SumWalkG
import PyProof.Rows.SumGenD
import PyProof.CompMap
import KE.KIntText
import PySem.Challenge.RW_errandroom_k07_programs_written
set_option Elab.async false
set_option linter.all false
set_option maxRecDepth 100000
set_option maxHeartbeats 4000000
set_option tactic.hygienic false
set_option backward.match.sparseCases false
set_option genSizeOfSpec false
set_option bootstrap.genMatcherCode false
set_option compiler.extract_closed false
namespace L2
open PySem PySem.Spec PyProof.Rows
noncomputable abbrev Key := Sum Int Str
noncomputable def keyIs : Key -> Value -> Bool
 | .inl k, v => Value.isInt k v
 | .inr x, v => Value.isStrOf x v
noncomputable def keyH (w : World) : Key -> Int
 | .inl k => hashInt k
 | .inr x => hashStr w x
theorem keyIs_shape : ∀ {k : Key} {v : Value}, keyIs k v = true -> (∃ i t, k = Sum.inl i /\ v = Value.int i t) \/ (∃ x t, k = Sum.inr x /\ v = Value.str x t)
 | .inl i, v, h => by
  obtain ⟨t, e⟩ := Value.isInt_shape (k := i) (v := v) h
  exact .inl ⟨i, t, rfl, e⟩
 | .inr x, v, h => by
  obtain ⟨t, e⟩ := Value.isStrOf_shape (x := x) (v := v) h
  exact .inr ⟨x, t, rfl, e⟩
theorem keyIs_int (i : Int) (t : Tok) : keyIs (.inl i) (.int i t) = true := by simp [keyIs, Value.isInt]
theorem keyIs_str (x : Str) (t : Tok) : keyIs (.inr x) (.str x t) = true := by simp [keyIs, Value.isStrOf]
theorem key_ll (a b : Int) : decide ((Sum.inl a : Key) = Sum.inl b) = (a == b) := by
 by_cases e : a = b
 ·subst e; simp
 ·have h : ¬ (Sum.inl a : Key) = Sum.inl b := fun q => e (Sum.inl.inj q)
  rw [decide_eq_false h]
  exact (beq_eq_false_iff_ne.mpr e).symm
theorem key_rr (a b : Str) : decide ((Sum.inr a : Key) = Sum.inr b) = decide (a = b) := by
 by_cases e : a = b
 ·subst e; simp
 ·have h : ¬ (Sum.inr a : Key) = Sum.inr b := fun q => e (Sum.inr.inj q)
  rw [decide_eq_false h, decide_eq_false e]
theorem key_lr (a : Int) (b : Str) : decide ((Sum.inl a : Key) = Sum.inr b) = false := decide_eq_false (fun q => nomatch q)
theorem key_rl (a : Str) (b : Int) : decide ((Sum.inr a : Key) = Sum.inl b) = false := decide_eq_false (fun q => nomatch q)
noncomputable def mixKind (prog : Program) (w : World) : PySem.KeyKind prog w Key where
 is := keyIs
 hash := keyH w
 inj := fun v a b ha hb => by
  rcases keyIs_shape ha with ⟨i, t, rfl, rfl⟩ | ⟨x, t, rfl, rfl⟩
  ·rcases keyIs_shape hb with ⟨j, u, rfl, e⟩ | ⟨y, u, rfl, e⟩
   ·injection e with e1 _; rw [e1]
   ·exact nomatch e
  ·rcases keyIs_shape hb with ⟨j, u, rfl, e⟩ | ⟨y, u, rfl, e⟩
   ·exact nomatch e
   ·injection e with e1 _; rw [e1]
 byValue := fun k v h => by
  rcases keyIs_shape h with ⟨i, t, rfl, rfl⟩ | ⟨x, t, rfl, rfl⟩ <;> rfl
 pyHash := fun hv h => by
  rcases keyIs_shape hv with ⟨i, t, rfl, rfl⟩ | ⟨x, t, rfl, rfl⟩
  ·exact wpAny_pyHash_int h
  ·exact wpAny_pyHash_str h
 eqBool := fun hu hv h => by
  rcases keyIs_shape hu with ⟨i, t, rfl, rfl⟩ | ⟨x, t, rfl, rfl⟩
  ·rcases keyIs_shape hv with ⟨j, u, rfl, rfl⟩ | ⟨y, u, rfl, rfl⟩
   ·rw [key_ll] at h; exact wpAny_eqBool_int h
   ·rw [key_lr] at h; exact SeqAt.EqAt.int_str i t y u _ _ _ _ h
  ·rcases keyIs_shape hv with ⟨j, u, rfl, rfl⟩ | ⟨y, u, rfl, rfl⟩
   ·rw [key_rl] at h; exact SeqAt.EqAt.str_int x t j u _ _ _ _ h
   ·rw [key_rr] at h; exact wpAny_eqBool_str h
 «strs» := fun k x t v h => by
  rcases keyIs_shape h with ⟨i, u, rfl, e⟩ | ⟨y, u, rfl, e⟩
  ·exact nomatch e
  ·injection e with e1 _
   subst e1
   cases v <;> rfl
theorem mixKind_int (prog : Program) (w : World) (i : Int) (t : Tok) : (mixKind prog w).is (.inl i) (.int i t) = true := keyIs_int i t
theorem mixKind_str (prog : Program) (w : World) (x : Str) (t : Tok) : (mixKind prog w).is (.inr x) (.str x t) = true := keyIs_str x t
end L2
namespace L2
open PySem PySem.Spec PyProof.Rows
inductive V where
 | non | bl (b : Bool) | int (i : Int) | str (x : Str) | byt (b : Array UInt8) | flt (b : UInt64) | ref (a : Addr) | ty (n : String)
 deriving DecidableEq
noncomputable def RelV : V -> Value -> Prop
 | .non, u => u = Value.none
 | .bl b, u => u = Value.bool b
 | .int i, u => ∃ t, u = Value.int i t
 | .str x, u => ∃ t, u = Value.str x t
 | .byt b, u => ∃ t, u = Value.bytes b t
 | .flt b, u => ∃ t, u = Value.float b t
 | .ref a, u => u = Value.ref a
 | .ty n, u => u = Value.type n
noncomputable abbrev Vals : List V -> List Value -> Prop := Paired RelV
theorem Vals.length {xs : List V} {us : List Value} (r : Vals xs us) : xs.length = us.length := Paired.length r
theorem Vals.get : ∀ {xs : List V} {us : List Value} {i : Nat} {x : V}, Vals xs us -> xs[i]? = some x -> ∃ u, us[i]? = some u /\ RelV x u
 | _, _, _, _, .nil, e => by simp at e
 | _, _, 0, _, .cons r _, e => by simp at e; subst e; exact ⟨_, rfl, r⟩
 | _, _, i + 1, x, .cons _ t, e => by
  obtain ⟨u, h1, h2⟩ := Vals.get (i := i) (x := x) t (by simpa using e)
  exact ⟨u, by simpa using h1, h2⟩
theorem Vals.set {x : V} {u : Value} (r : RelV x u) : ∀ {xs : List V} {us : List Value} (i : Nat), Vals xs us -> Vals (xs.set i x) (us.set i u)
 | _, _, _, .nil => .nil
 | _, _, 0, .cons _ t => .cons r t
 | _, _, i + 1, .cons q t => .cons q (Vals.set r i t)
theorem Vals.append : ∀ {xs ys : List V} {us ws : List Value}, Vals xs us -> Vals ys ws -> Vals (xs ++ ys) (us ++ ws)
 | _, _, _, _, .nil, s => s
 | _, _, _, _, .cons r t, s => .cons r (Vals.append t s)
theorem Vals.take : ∀ {xs : List V} {us : List Value} (n : Nat), Vals xs us -> Vals (xs.take n) (us.take n)
 | _, _, 0, _ => .nil
 | _, _, _ + 1, .nil => .nil
 | _, _, n + 1, .cons r t => .cons r (Vals.take n t)
theorem Vals.drop : ∀ {xs : List V} {us : List Value} (n : Nat), Vals xs us -> Vals (xs.drop n) (us.drop n)
 | _, _, 0, r => r
 | _, _, _ + 1, .nil => .nil
 | _, _, n + 1, .cons _ t => Vals.drop n t
noncomputable def RelO : Option V -> Option Value -> Prop
 | some v, some u => RelV v u
 | none, none => True
 | _, _ => False
noncomputable def KV {κ : Type} : List (κ × V) -> List (κ × Value) -> Prop := Paired fun (p : κ × V) (q : κ × Value) => p.1 = q.1 /\ RelV p.2 q.2
noncomputable def kV : Key -> V
 | .inl i => .int i
 | .inr x => .str x
inductive HO where
 | lst (xs : List V)
 | tup (xs : List V)
 | dK (kvs : List (Key × V)) | dT (kvs : List (List Key × V))
 | set (S : Int -> Bool) (n : Nat)
 | ins (C dx : Addr) (fs : List (Str × V))
 | own (x : Addr)
 | xd (fs : List (Str × V))
 | met (f x : Addr)
 | rng (lo hi : Int)
 | frz (o : Obj) (u : HO)
 | tbl (ps : Array Value)
 | ext (φ : Heap -> Prop)
noncomputable abbrev Hp := Addr -> Option HO
noncomputable def upd (H : Hp) (a : Addr) (o : HO) : Hp := fun b => if b = a then some o else H b
theorem upd_same {H : Hp} {a : Addr} {o : HO} : upd H a o a = some o := by unfold upd; rw [if_pos rfl]
theorem upd_ne {H : Hp} {a b : Addr} {o : HO} (h : b ≠ a) : upd H a o b = H b := by unfold upd; rw [if_neg h]
theorem ne_of {H : Hp} {a b : Addr} {o u : HO} (h : H a = some o) (h' : H b = some u) (d : o ≠ u) : a ≠ b := by
 intro e; subst e; rw [h] at h'; exact d (Option.some.inj h')
theorem ne_of_none {H : Hp} {a b : Addr} {o : HO} (h : H a = some o) (h' : H b = none) : a ≠ b := by
 intro e; subst e; rw [h] at h'; cases h'
section
variable (P : Program) (w : World)
noncomputable def ObjOk (H : Hp) (h : Heap) (a : Addr) : HO -> Prop
 | .lst xs => xs.length <= sizeLine /\ ∃ (its : List Value) (n : Nat), Vals xs its /\ h.get? a = some { cls := .type "list", data := .seq its.toArray n }
 | .tup xs => xs.length <= sizeLine /\ ∃ its : List Value, Vals xs its /\ IsTup h a its.toArray
 | .dK kvs => kvs.length <= sizeLine /\ (a == sysModules) = false /\ ∃ vs, KV kvs vs /\ h.DictOf (mixKind P w) a vs
 | .dT kvs => kvs.length <= sizeLine /\ (a == sysModules) = false /\ ∃ xs : List (List Key × Addr × Value),
   Paired (fun (p : List Key × V) (q : List Key × Addr × Value) => p.1 = q.1 /\ H q.2.1 = some (.tup (p.1.map kV)) /\ RelV p.2 q.2.2) kvs xs /\
   ∃ o es ep, h.get? a = some o /\ o.ExactDict /\ o.data = .dict es ep /\ es.toList = xs.map (entryOfKey (tupleKind (mixKind P w))) /\ (xs.map (·.1)).Nodup
 | .set S n => h.SetOf (intKind P w) a S n
 | .ins C dx fs => H dx = some (.own a) /\ fs.length <= 1000 /\ dx ≠ a /\ h.get? a = some (PySem.W.instObj C dx) /\
   ∃ mA, h.Ns1 dx mA /\ (∀ f, RelO (fs.lookup f) (mA f)) /\ PySem.Within mA (fs.map (·.1))
 | .own _ => ∃ o, h.get? a = some o
 | .xd fs => ∃ mA, h.Ns1 a mA /\ ∀ f, RelO (fs.lookup f) (mA f)
 | .rng lo hi => ∃ t u v, h.get? a = some { cls := .type "range", data := .fields #[.int lo t, .int hi u, .int 1 v] }
 | .frz o u => h.get? a = some o /\ ObjOk H h a u
 | .tbl ps => h.get? a = some { cls := .none, data := .fields ps }
 | .met f x => h.get? a = some (PySem.W.methodObj (.ref f) (.ref x))
 | .ext φ => φ h /\ (∃ o, h.get? a = some o) /\ ∀ h1 h2 : Heap, φ h1 -> (∀ o, h1.get? a = some o -> h2.get? a = some o) -> φ h2
noncomputable def HOk (H : Hp) (h : Heap) : Prop := ∀ a o, H a = some o -> ObjOk P w H h a o
end
section
variable {P : Program} {w : World} {H H' : Hp} {h h' : Heap} {a : Addr} {o : HO}
theorem ObjOk.lt (x : ObjOk P w H h a o) : a < h.objs.size := by
 cases o with
 | lst xs => obtain ⟨_, _, _, _, e⟩ := x; exact Heap.lt_size e
 | tup xs => obtain ⟨_, _, _, p⟩ := x; exact p.lt
 | dK kvs => obtain ⟨_, _, _, _, o, _, _, e, _⟩ := x; exact Heap.lt_size e
 | dT kvs => obtain ⟨_, _, _, _, o, _, _, e, _⟩ := x; exact Heap.lt_size e
 | set S n => obtain ⟨o, _, _, _, e, _⟩ := x; exact Heap.lt_size e
 | ins C dx fs => obtain ⟨_, _, _, e, _⟩ := x; exact Heap.lt_size e
 | own y => obtain ⟨_, e⟩ := x; exact Heap.lt_size e
 | xd fs => obtain ⟨_, ⟨_, _, _, e, _⟩, _⟩ := x; exact Heap.lt_size e
 | rng lo hi => obtain ⟨_, _, _, e⟩ := x; exact Heap.lt_size e
 | frz ob u => obtain ⟨e, _⟩ := x; exact Heap.lt_size e
 | tbl ps => exact Heap.lt_size (show h.get? a = some _ from x)
 | met f y => exact Heap.lt_size (show h.get? a = some _ from x)
 | ext φ => obtain ⟨_, ⟨_, e⟩, _⟩ := x; exact Heap.lt_size e
theorem Paired.mapP {α β : Type} {F G : α -> β -> Prop} : ∀ {l₁ : List α} {l₂ : List β}, Paired F l₁ l₂ -> (∀ a b, F a b -> G a b) -> Paired G l₁ l₂
 | _, _, .nil, _ => .nil
 | _, _, .cons r t, f => .cons (f _ _ r) (Paired.mapP t f)
theorem ObjOk.stay (x : ObjOk P w H h a o) (k : ∀ b u, (b = a \/ H b = some (.own a)) -> h.get? b = some u -> h'.get? b = some u)
  (ho : ∀ b, H b = some (.own a) -> H' b = some (.own a)) (ht : ∀ b xs, H b = some (.tup xs) -> H' b = some (.tup xs)) : ObjOk P w H' h' a o := by
 induction o with
 | lst xs => obtain ⟨z, its, n, r, e⟩ := x; exact ⟨z, its, n, r, k _ _ (.inl rfl) e⟩
 | tup xs => obtain ⟨z, its, r, ob, e, c⟩ := x; exact ⟨z, its, r, ob, k _ _ (.inl rfl) e, c⟩
 | dK kvs => obtain ⟨z, y, vs, r, ob, es, ep, e, c⟩ := x; exact ⟨z, y, vs, r, ob, es, ep, k _ _ (.inl rfl) e, c⟩
 | dT kvs =>
  obtain ⟨z, y, xs, r, ob, es, ep, e, c⟩ := x
  exact ⟨z, y, xs, Paired.mapP r fun p q z => ⟨z.1, ht _ _ z.2.1, z.2.2⟩, ob, es, ep, k _ _ (.inl rfl) e, c⟩
 | set S n => obtain ⟨ob, es, ep, t, e, c⟩ := x; exact ⟨ob, es, ep, t, k _ _ (.inl rfl) e, c⟩
 | ins C dx fs =>
  obtain ⟨d, z, ne, e, mA, ⟨od, es, ep, e2, c⟩, r⟩ := x
  exact ⟨ho _ d, z, ne, k _ _ (.inl rfl) e, mA, ⟨od, es, ep, k _ _ (.inr d) e2, c⟩, r⟩
 | own y => obtain ⟨ob, e⟩ := x; exact ⟨ob, k _ _ (.inl rfl) e⟩
 | xd fs => obtain ⟨mA, ⟨od, es, ep, e, c⟩, r⟩ := x; exact ⟨mA, ⟨od, es, ep, k _ _ (.inl rfl) e, c⟩, r⟩
 | rng lo hi => obtain ⟨t, u, v, e⟩ := x; exact ⟨t, u, v, k _ _ (.inl rfl) e⟩
 | frz ob u ih => obtain ⟨e, q⟩ := x; exact ⟨k _ _ (.inl rfl) e, ih q⟩
 | tbl ps =>
  have e : h.get? a = some { cls := .none, data := .fields ps } := x
  show h'.get? a = some { cls := .none, data := .fields ps }
  exact k a _ (.inl rfl) e
 | met f y =>
  have e : h.get? a = some (PySem.W.methodObj (.ref f) (.ref y)) := x
  show h'.get? a = some (PySem.W.methodObj (.ref f) (.ref y))
  exact k a _ (.inl rfl) e
 | ext φ => obtain ⟨p, ⟨o, e⟩, st⟩ := x; exact ⟨st _ _ p fun o q => k _ _ (.inl rfl) q, ⟨o, k _ _ (.inl rfl) e⟩, st⟩
theorem HOk.lt (x : HOk P w H h) (e : H a = some o) : a < h.objs.size := (x a o e).lt
theorem HOk.fresh (x : HOk P w H h) (e : h.objs.size <= a) : H a = none := by
 cases q : H a with
 | none => rfl
 | some u => exact absurd (Nat.lt_of_lt_of_le (x.lt q) e) (Nat.lt_irrefl _)
theorem HOk.kept (x : HOk P w H h) (k : ∀ b u, h.get? b = some u -> h'.get? b = some u) : HOk P w H h' := fun a o e =>
 (x a o e).stay (fun b u _ q => k b u q) (fun _ q => q) fun _ _ q => q
theorem HOk.laid (x : HOk P w H h) (k : ∀ b u, h.get? b = some u -> h'.get? b = some u) (hp : h.objs.size <= a) (new : ObjOk P w (upd H a o) h' a o) : HOk P w (upd H a o) h' := fun b u e => by
 have hn := x.fresh hp
 by_cases hb : b = a
 ·subst hb; rw [upd_same] at e; cases e; exact new
 ·rw [upd_ne hb] at e
  exact (x b u e).stay (fun c v _ q => k c v q) (fun c q => by rw [upd_ne (ne_of_none q hn)]; exact q) fun c xs q => by rw [upd_ne (ne_of_none q hn)]; exact q
end
noncomputable def Rd (H : Hp) (a : Addr) (u : HO) : Prop := H a = some u \/ ∃ o, H a = some (.frz o u)
theorem Rd.ok {P : Program} {w : World} {H : Hp} {h : Heap} {a : Addr} {u : HO} (r : Rd H a u) (x : HOk P w H h) : ObjOk P w H h a u := by
 rcases r with r | ⟨o, r⟩
 ·exact x a u r
 ·obtain ⟨_, q⟩ := x a _ r
  exact q
noncomputable def Mut : Option HO -> Prop
 | some (.lst _) => True
 | some (.dK _) => True
 | some (.dT _) => True
 | some (.set _ _) => True
 | some (.ins _ _ _) => True
 | some (.ext _) => True
 | _ => False
section
variable {P : Program} {w : World} {H : Hp} {h h' : Heap} {x e : Addr} {o' : HO}
theorem HOk.write (ok : HOk P w H h) (mu : Mut (H x)) (he : e = x \/ H e = some (.own x)) (k : ∀ b u, b ≠ e -> h.get? b = some u -> h'.get? b = some u) (heo : ∃ u, h'.get? e = some u)
  (new : ObjOk P w (upd H x o') h' x o') : HOk P w (upd H x o') h' := fun b u q => by
 have nown : ∀ c y, H c = some (.own y) -> c ≠ x := fun c y r z => by subst z; rw [r] at mu; exact mu
 have ntup : ∀ c xs, H c = some (.tup xs) -> c ≠ x := fun c xs r z => by subst z; rw [r] at mu; exact mu
 by_cases hb : b = x
 ·subst hb; rw [upd_same] at q; cases q; exact new
 ·rw [upd_ne hb] at q
  by_cases hbe : b = e
  ·have q' : H b = some (.own x) := by
    rcases he with z | z
    ·exact absurd (hbe.trans z) hb
    ·rw [hbe]; exact z
   rw [q] at q'; cases q'
   obtain ⟨v, hv⟩ := heo
   exact ⟨v, by rw [hbe]; exact hv⟩
  ·refine (ok b u q).stay (fun c v hc r => k c v ?_ r) (fun c r => by rw [upd_ne (nown c b r)]; exact r) fun c xs r => by rw [upd_ne (ntup c xs r)]; exact r
   rcases hc with rfl | hc
   ·exact hbe
   ·rintro rfl
    rcases he with z | z
    ·exact nown c b hc z
    ·rw [hc] at z; cases z; exact hb rfl
end
structure Un (fs ex : List Addr) (H H' : Hp) (h h' : Heap) : Prop where
 keep : ∀ b o, h.get? b = some o -> H b = none -> b ∉ fs -> b ∉ ex -> h'.get? b = some o
 slot : ∀ b o, h.get? b = some o -> H b = none -> b ∈ fs -> b ∉ ex -> ∃ sl, h'.get? b = some { o with slots := sl }
 free : ∀ b o, h.get? b = some o -> H b = none -> b ∉ ex -> H' b = none
 there : ∀ b o, h.get? b = some o -> b ∉ ex -> ∃ o', h'.get? b = some o'
 tups : ∀ b xs, H b = some (.tup xs) -> H' b = some (.tup xs)
 frzs : ∀ b o u, H b = some (.frz o u) -> H' b = some (.frz o u)
 tbls : ∀ b ps, H b = some (.tbl ps) -> ∃ more, H' b = some (.tbl (ps ++ more))
section
variable {fs fs' ex ex' : List Addr} {H H1 H2 : Hp} {h h1 h2 h' : Heap} {a x e : Addr} {o : HO}
theorem Un.any (u : Un fs ex H H1 h h1) {b : Addr} {ob : Obj} (q : h.get? b = some ob) (n : H b = none) (hx : b ∉ ex) : ∃ sl, h1.get? b = some { ob with slots := sl } := by
 by_cases hb : b ∈ fs
 ·exact u.slot b ob q n hb hx
 ·exact ⟨ob.slots, u.keep b ob q n hb hx⟩
theorem Un.trans (a : Un fs ex H H1 h h1) (b : Un fs ex H1 H2 h1 h2) : Un fs ex H H2 h h2 where
 keep := fun c ob q n hc hx => b.keep c ob (a.keep c ob q n hc hx) (a.free c ob q n hx) hc hx
 slot := fun c ob q n hc hx => by
  obtain ⟨sl, e1⟩ := a.slot c ob q n hc hx
  obtain ⟨sl', e2⟩ := b.slot c _ e1 (a.free c ob q n hx) hc hx
  exact ⟨sl', e2⟩
 free := fun c ob q n hx => by
  obtain ⟨o', e1⟩ := a.there c ob q hx
  exact b.free c o' e1 (a.free c ob q n hx) hx
 there := fun c ob q hx => by
  obtain ⟨o', e1⟩ := a.there c ob q hx
  exact b.there c o' e1 hx
 tups := fun c xs q => b.tups c xs (a.tups c xs q)
 frzs := fun c ob xs q => b.frzs c ob xs (a.frzs c ob xs q)
 tbls := fun c ps q => by
  obtain ⟨m1, e1⟩ := a.tbls c ps q
  obtain ⟨m2, e2⟩ := b.tbls c _ e1
  exact ⟨m1 ++ m2, by rw [e2, Array.append_assoc]⟩
theorem Un.kept (k : ∀ b u, h.get? b = some u -> h'.get? b = some u) : Un fs ex H H h h' :=
 ⟨fun b ob q _ _ _ => k b ob q, fun b ob q _ _ _ => ⟨ob.slots, k b ob q⟩, fun _ _ _ n _ => n, fun b ob q _ => ⟨ob, k b ob q⟩, fun _ _ q => q, fun _ _ _ q => q, fun _ ps q => ⟨#[], by rw [q]; simp⟩⟩
theorem Un.refl : Un fs ex H H h h := Un.kept fun _ _ q => q
theorem Un.laid (k : ∀ b u, h.get? b = some u -> h'.get? b = some u) (hp : h.objs.size <= a) (hn : H a = none) : Un fs ex H (upd H a o) h h' where
 keep := fun b u q _ _ _ => k b u q
 slot := fun b u q _ _ _ => ⟨u.slots, k b u q⟩
 free := fun b u q n _ => by rw [upd_ne (Nat.ne_of_lt (Nat.lt_of_lt_of_le (Heap.lt_size q) hp))]; exact n
 there := fun b u q _ => ⟨u, k b u q⟩
 tups := fun b xs q => by rw [upd_ne (ne_of_none q hn)]; exact q
 frzs := fun b u xs q => by rw [upd_ne (ne_of_none q hn)]; exact q
 tbls := fun b ps q => ⟨#[], by rw [upd_ne (ne_of_none q hn), q]; simp⟩
theorem Un.write (mu : Mut (H x)) (he : e = x \/ H e = some (.own x)) (k : ∀ b u, b ≠ e -> h.get? b = some u -> h'.get? b = some u) (heo : ∃ u, h'.get? e = some u) : Un fs ex H (upd H x o) h h' := by
 have hx : ∀ b, H b = none -> b ≠ x := fun b n z => by subst z; rw [n] at mu; exact mu
 have hb : ∀ b, H b = none -> b ≠ e := fun b n z => by
  subst z
  rcases he with r | r
  ·exact hx b n r
  ·rw [n] at r; cases r
 have hm : ∀ b u, H b = some u -> ¬ Mut (some u) -> b ≠ x := fun b u q nm z => by subst z; rw [q] at mu; exact nm mu
 refine ⟨fun b u q n _ _ => k b u (hb b n) q, fun b u q n _ _ => ⟨u.slots, k b u (hb b n) q⟩, fun b u q n _ => by rw [upd_ne (hx b n)]; exact n, fun b u q _ => ?_,
  fun b xs q => by rw [upd_ne (hm b _ q fun z => z)]; exact q, fun b u xs q => by rw [upd_ne (hm b _ q fun z => z)]; exact q, fun b ps q => ⟨#[], by rw [upd_ne (hm b _ q fun z => z), q]; simp⟩⟩
 by_cases hbe : b = e
 ·subst hbe; exact heo
 ·exact ⟨u, k b u hbe q⟩
end
noncomputable def trk (h : Heap) (H : Hp) : List Addr := (List.range h.objs.size).filter fun a => (H a).isSome
noncomputable def hidT (h : Heap) (H : Hp) : Heap := PySem.W.hideAll h (trk h H)
theorem hidT_size (h : Heap) (H : Hp) : (hidT h H).objs.size = h.objs.size := PySem.W.hideAll_size _ _
theorem hidT_get {h : Heap} {H : Hp} {b : Addr} {o : Obj} (e : h.get? b = some o) (n : H b = none) : (hidT h H).get? b = some o :=
 PySem.W.hideAll_get _ e fun hm => by
  have q : (H b).isSome = true := (List.mem_filter.mp hm).2
  rw [n] at q; simp at q
theorem of_hidT {h : Heap} {H : Hp} {b : Addr} {o : Obj} (e : (hidT h H).get? b = some o) : h.get? b = some o /\ H b = none := by
 have e' : h.get? b = some o := PySem.W.of_hideAll (trk h H) e
 refine ⟨e', ?_⟩
 cases q : H b with
 | none => rfl
 | some x =>
  have hm : b ∈ trk h H := List.mem_filter.mpr ⟨List.mem_range.mpr (Heap.lt_size e'), by simp [q]⟩
  have z : (hidT h H).get? b = none := PySem.W.hideAll_none (trk h H) hm
  rw [z] at e; cases e
noncomputable def allNews (g h : Heap) (L : Addr) : List (Addr × Obj) := (List.range h.objs.size).filterMap fun a => if a = L \/ (g.get? a).isSome = true then none else (h.get? a).map fun o => (a, o)
noncomputable def rest (g h : Heap) (L d : Addr) : List (Addr × Obj) := (allNews g h L).filter fun p => decide (p.1 ≠ d)
end L2
namespace L2
open PySem PySem.Spec PyProof.Rows
structure Mod (K : PySem.W.Frag) (mg : Str -> Option Value) (base : Heap) : Prop where
 kin : K.In base
 glob : base.Ns mainGlobals mg
 blt : ∃ mb, base.Ns builtinsNs mb /\ ∀ x : Str, x ≠ "__name__" -> mb x = bootBuiltins x
 nolimit : base.NoLimit
structure Cx where
 prog : Program
 w : World
 K : PySem.W.Frag
 mg : Str -> Option Value
 base : Heap
 A : Around
 N : List Str
 s₀ : Shared
 H₀ : Hp
 env : Env
 outer : List Env
 stack : List Env
 ex : List Addr
 fn : Str -> Bool
 calm : Bool
 pn : List (Addr × Obj)
 xe : Value -> Shared -> Prop
noncomputable def frs (l : List Env) : List Addr := l.filterMap (·.frame)
noncomputable abbrev Cx.fs (X : Cx) : List Addr := frs X.outer
noncomputable def Vis (sc : Scope) (x : Str) : Prop := sc.names.lookup x = some .local \/ sc.names.lookup x = some .cell \/ sc.names.lookup x = some .free
noncomputable def Loc (sc : Scope) (x : Str) : Prop := sc.names.lookup x = some .local \/ sc.names.lookup x = some .cell
noncomputable def Look (env : Env) (h : Heap) (m : Str -> Option Value) (x : Str) (u : Value) : Prop :=
 (env.kindOf x = some .local /\ m x = some u) \/ ((env.kindOf x = some .cell \/ env.kindOf x = some .free) /\ ∃ c, env.cells.lookup x = some c /\ h.IsCell c (some u))
structure Cx.Ok (X : Cx) : Prop where
 mod : Mod X.K X.mg X.base
 kind : X.env.scope.kind = .function
 glob : X.env.globals = mainGlobals
 blt : X.env.builtins = builtinsNs
 above : X.s₀.heap.objs.size <= X.env.locals
 inj : ∀ x y c, X.env.cells.lookup x = some c -> X.env.cells.lookup y = some c -> x = y
 has : ∀ x, (X.env.kindOf x = some .cell \/ X.env.kindOf x = some .free) -> ∃ c, X.env.cells.lookup x = some c
 cab : ∀ x c, X.fn x = true -> X.env.cells.lookup x = some c -> X.s₀.heap.objs.size <= c
 hd : X.calm = true -> X.A.handled = none
 frames : X.A.frames = some X.stack
 stk : X.stack = X.outer \/ (X.stack = X.env :: X.outer /\ X.env.frame = some X.env.locals)
 exf : ∀ b ∈ X.ex, b ≠ X.env.locals /\ ∀ x c, X.env.cells.lookup x = some c -> c ≠ b
 bs : ∀ b o, X.base.get? b = some o -> X.s₀.heap.get? b = some o /\ X.H₀ b = none
 bsz : X.base.objs.size <= X.s₀.heap.objs.size
 noex : ∀ b o, X.base.get? b = some o -> b ∉ X.ex
 exfs : ∀ b ∈ X.ex, b ∉ X.fs
 funs : X.s₀.heap.FunFrames X.base X.outer
 frf : ∀ b ∈ X.fs, X.H₀ b = none
structure Inv (X : Cx) (pins : List (Addr × Obj)) (σ : List (Option V)) (H : Hp) (s : Shared) : Prop where
 ok : X.Ok
 os : s.os = X.s₀.os
 bare : AllBare s.gens
 base : Un X.fs X.ex X.H₀ H X.s₀.heap s.heap
 loc : ∃ m, s.heap.Ns X.env.locals m /\ ∀ (i : Nat) (x : Str) (v : V), X.N[i]? = some x -> σ[i]? = some (some v) -> Vis X.env.scope x -> ∃ u, RelV v u /\ Look X.env s.heap m x u
 cell : ∀ x c, X.env.cells.lookup x = some c -> ∃ v, s.heap.IsCell c v
 free : H X.env.locals = none
 freeC : ∀ x c, X.env.cells.lookup x = some c -> H c = none
 pin : ∀ p ∈ X.pn ++ pins, s.heap.get? p.1 = some p.2 /\ H p.1 = none /\ p.1 ≠ X.env.locals /\ p.1 ∉ X.fs /\ ∀ v, p.2.data ≠ .cell v
 hok : HOk X.prog X.w H s.heap
 len : σ.length = X.N.length
section
variable {X : Cx} {pins : List (Addr × Obj)} {σ : List (Option V)} {H H' : Hp} {s : Shared} {h' : Heap}
theorem Cx.Ok.nofr (ok : X.Ok) {b : Addr} {o : Obj} (e : X.base.get? b = some o) : b ∉ X.fs := fun hb => by
 have := (ok.funs.mem hb).1
 rw [e] at this; cases this
theorem Inv.bs (I : Inv X pins σ H s) : ∀ b o, X.base.get? b = some o -> s.heap.get? b = some o /\ H b = none := fun b o e =>
 ⟨I.base.keep b o (I.ok.bs b o e).1 (I.ok.bs b o e).2 (I.ok.nofr e) (I.ok.noex b o e), I.base.free b o (I.ok.bs b o e).1 (I.ok.bs b o e).2 (I.ok.noex b o e)⟩
theorem Inv.bk (I : Inv X pins σ H s) : ∀ b o, X.base.get? b = some o -> s.heap.get? b = some o := fun b o e => (I.bs b o e).1
theorem Inv.mod (I : Inv X pins σ H s) : Mod X.K X.mg X.base := I.ok.mod
theorem Inv.kIn (I : Inv X pins σ H s) : X.K.In s.heap := I.ok.mod.kin.keeps I.bk
theorem Inv.fr (I : Inv X pins σ H s) : ∃ m, Fr X.base X.env.locals s.heap m :=
 let ⟨m, hn, _⟩ := I.loc
 ⟨m, hn, I.bk, Nat.le_trans I.ok.bsz I.ok.above⟩
theorem Inv.lt (I : Inv X pins σ H s) : X.env.locals < s.heap.objs.size := let ⟨_, hn, _⟩ := I.loc; hn.lt
theorem Inv.sz (I : Inv X pins σ H s) : X.s₀.heap.objs.size <= s.heap.objs.size := Nat.le_trans I.ok.above (Nat.le_of_lt I.lt)
theorem Inv.nofs (I : Inv X pins σ H s) {a : Addr} (h : s.heap.objs.size <= a) : a ∉ X.fs := fun hb => by
 obtain ⟨_, o, ho, _⟩ := I.ok.funs.mem hb
 exact absurd (Nat.lt_of_lt_of_le (Heap.lt_size ho) (Nat.le_trans I.sz h)) (Nat.lt_irrefl _)
theorem Inv.cne (I : Inv X pins σ H s) : ∀ x c, X.env.cells.lookup x = some c -> c ≠ X.env.locals := fun x c e z => by
 obtain ⟨v, o, ho, hd⟩ := I.cell x c e
 obtain ⟨m, ⟨o', es, ep, ho', hd', _⟩, _⟩ := I.loc
 rw [z, ho'] at ho; cases ho; rw [hd'] at hd; cases hd
theorem Inv.funs (I : Inv X pins σ H s) : s.heap.FunFrames X.base X.outer := by
 have all : ∀ (l : List Env), (∀ b ∈ frs l, b ∈ X.fs) -> X.s₀.heap.FunFrames X.base l -> s.heap.FunFrames X.base l := by
  intro l
  induction l with
  | nil => intro _ _; trivial
  | cons env r ih =>
   intro hs hl
   obtain ⟨hk, ⟨L, o, hf, hn, ho, hd⟩, hr⟩ := hl
   have hL : L ∈ X.fs := hs L (by unfold frs; rw [List.filterMap_cons, hf]; exact List.mem_cons_self)
   obtain ⟨sl, e⟩ := I.base.slot L o ho (I.ok.frf L hL) hL fun z => I.ok.exfs L z hL
   exact ⟨hk, ⟨L, _, hf, hn, e, hd⟩, ih (fun b hb => hs b (by unfold frs; rw [List.filterMap_cons, hf]; exact List.mem_cons_of_mem _ hb)) hr⟩
 exact all X.outer (fun _ hb => hb) I.ok.funs
theorem Inv.stack (I : Inv X pins σ H s) : s.heap.FunFrames X.base X.stack := by
 rcases I.ok.stk with e | ⟨e, hf⟩
 ·rw [e]; exact I.funs
 ·rw [e]
  obtain ⟨m, hn, _⟩ := I.loc
  refine .cons (by rw [I.ok.kind]; decide) hf hn ?_ I.funs
  exact Heap.get?_none_of_le (Nat.le_trans I.ok.bsz I.ok.above)
theorem Inv.stkSub (I : Inv X pins σ H s) : ∀ b ∈ frs X.stack, b ∈ X.env.locals :: X.fs := fun b hb => by
 rcases I.ok.stk with e | ⟨e, hf⟩
 ·rw [e] at hb; exact List.mem_cons_of_mem _ hb
 ·rw [e] at hb
  unfold frs at hb
  rw [List.filterMap_cons, hf] at hb
  exact hb
theorem Inv.stkFree (I : Inv X pins σ H s) : ∀ b ∈ frs X.stack, H b = none := fun b hb => by
 rcases List.mem_cons.mp (I.stkSub b hb) with e | hb
 ·rw [e]; exact I.free
 ·obtain ⟨_, o, ho, _⟩ := I.ok.funs.mem hb
  exact I.base.free b o ho (I.ok.frf b hb) fun z => I.ok.exfs b z hb
theorem Inv.step {g' : Array GenState} {t' : Nat} {d' : Drawn} {ch : List Addr} (I : Inv X pins σ H s)
  (hch : ∀ b ∈ ch, (b ∈ X.ex \/ X.s₀.heap.objs.size <= b) /\ b ≠ X.env.locals /\ (∀ x c, X.env.cells.lookup x = some c -> c ≠ b) /\ ∀ p ∈ X.pn ++ pins, p.1 ≠ b)
  (keep : ∀ b o, b ≠ X.env.locals -> b ∉ X.fs -> b ∉ ch -> s.heap.get? b = some o -> H b = none -> h'.get? b = some o)
  (slot : ∀ b o, b ≠ X.env.locals -> b ∈ X.fs -> b ∉ ch -> s.heap.get? b = some o -> H b = none -> ∃ sl, h'.get? b = some { o with slots := sl }) (free : ∀ b o, b ∉ ch -> s.heap.get? b = some o -> H b = none -> H' b = none)
  (there : ∀ b o, b ∉ ch -> s.heap.get? b = some o -> ∃ o', h'.get? b = some o')
  (tups : ∀ b xs, H b = some (.tup xs) -> H' b = some (.tup xs)) (frzs : ∀ b o u, H b = some (.frz o u) -> H' b = some (.frz o u)) (tbls : ∀ b ps, H b = some (.tbl ps) -> ∃ more, H' b = some (.tbl (ps ++ more)))
  (ns : ∀ m, s.heap.Ns X.env.locals m -> h'.Ns X.env.locals m) (hok : HOk X.prog X.w H' h') (hg : AllBare g') :
  Inv X pins σ H' { s with heap := h', gens := g', drawn := d', toks := t' } := by
 have neL : ∀ b o, X.s₀.heap.get? b = some o -> b ≠ X.env.locals := fun b o e => Nat.ne_of_lt (Nat.lt_of_lt_of_le (Heap.lt_size e) I.ok.above)
 have neC : ∀ b o, X.s₀.heap.get? b = some o -> b ∉ X.ex -> b ∉ ch := fun b o e hx hb => by
  rcases (hch b hb).1 with z | z
  ·exact hx z
  ·exact absurd (Nat.lt_of_lt_of_le (Heap.lt_size e) z) (Nat.lt_irrefl _)
 have cellK : ∀ x c, X.env.cells.lookup x = some c -> ∀ v, s.heap.IsCell c v -> h'.IsCell c v := fun x c e v ⟨o, ho, hd⟩ => by
  have nch : c ∉ ch := fun z => (hch c z).2.2.1 x c e rfl
  by_cases hc : c ∈ X.fs
  ·obtain ⟨sl, q⟩ := slot c o (I.cne x c e) hc nch ho (I.freeC x c e)
   exact ⟨_, q, hd⟩
  ·exact ⟨o, keep c o (I.cne x c e) hc nch ho (I.freeC x c e), hd⟩
 refine ⟨I.ok, I.os, hg, ⟨fun b o e n hb hx => ?_, fun b o e n hb hx => ?_, fun b o e n hx => ?_, fun b o e hx => ?_, fun b xs e => tups b xs (I.base.tups b xs e), fun b o xs e => frzs b o xs (I.base.frzs b o xs e), fun b ps e => ?_⟩, ?_, fun x c e => ?_, ?_, fun x c e => ?_, fun p hp => ?_, hok, I.len⟩
 ·exact keep b o (neL b o e) hb (neC b o e hx) (I.base.keep b o e n hb hx) (I.base.free b o e n hx)
 ·obtain ⟨sl, e1⟩ := I.base.slot b o e n hb hx
  obtain ⟨sl', e2⟩ := slot b _ (neL b o e) hb (neC b o e hx) e1 (I.base.free b o e n hx)
  exact ⟨sl', e2⟩
 ·obtain ⟨o', e1⟩ := I.base.there b o e hx
  exact free b o' (neC b o e hx) e1 (I.base.free b o e n hx)
 ·obtain ⟨o', e1⟩ := I.base.there b o e hx
  exact there b o' (neC b o e hx) e1
 ·obtain ⟨m1, e1⟩ := I.base.tbls b ps e
  obtain ⟨m2, e2⟩ := tbls b _ e1
  exact ⟨m1 ++ m2, by rw [e2, Array.append_assoc]⟩
 ·obtain ⟨m, hn, hl⟩ := I.loc
  refine ⟨m, ns m hn, fun i x v e1 e2 e3 => ?_⟩
  obtain ⟨u, r, l⟩ := hl i x v e1 e2 e3
  refine ⟨u, r, ?_⟩
  rcases l with l | ⟨k, c, e, z⟩
  ·exact .inl l
  ·exact .inr ⟨k, c, e, cellK x c e _ z⟩
 ·obtain ⟨v, z⟩ := I.cell x c e
  exact ⟨v, cellK x c e v z⟩
 ·obtain ⟨m, ⟨o, _, _, ho, _⟩, _⟩ := I.loc
  exact free _ o (fun z => (hch _ z).2.1 rfl) ho I.free
 ·obtain ⟨v, o, ho, hd⟩ := I.cell x c e
  exact free c o (fun z => (hch c z).2.2.1 x c e rfl) ho (I.freeC x c e)
 ·obtain ⟨e, n, ne, nf, d⟩ := I.pin p hp
  have nch : p.1 ∉ ch := fun z => (hch p.1 z).2.2.2 p hp rfl
  exact ⟨keep p.1 p.2 ne nf nch e n, free p.1 p.2 nch e n, ne, nf, d⟩
theorem Inv.un {t' : Nat} (I : Inv X pins σ H s) (u : Un X.fs [] H H' s.heap h') (hok : HOk X.prog X.w H' h') : Inv X pins σ H' { s with heap := h', toks := t' } := by
 obtain ⟨m, ⟨o, es, ep, ho, r⟩, _⟩ := id I.loc
 obtain ⟨sl, hL⟩ := u.any ho I.free (by simp)
 exact I.step (g' := s.gens) (d' := s.drawn) (ch := []) (fun _ z => nomatch z) (fun b o _ hb _ e n => u.keep b o e n hb (by simp)) (fun b o _ hb _ e n => u.slot b o e n hb (by simp)) (fun b o _ e n => u.free b o e n (by simp)) (fun b o _ e => u.there b o e (by simp)) u.tups u.frzs u.tbls (fun m' hm => by
  obtain ⟨o', es', ep', ho', r'⟩ := hm
  rw [ho] at ho'; cases ho'
  exact ⟨_, es', ep', hL, r'⟩) hok I.bare
theorem Inv.call {g' : Array GenState} {t' : Nat} {d' : Drawn} {ch : List Addr} (I : Inv X pins σ H s) (u : Un (frs X.stack) ch H H' s.heap h') (hok : HOk X.prog X.w H' h') (hg : AllBare g')
  (hch : ∀ b ∈ ch, (b ∈ X.ex \/ X.s₀.heap.objs.size <= b) /\ b ≠ X.env.locals /\ (∀ x c, X.env.cells.lookup x = some c -> c ≠ b) /\ ∀ p ∈ X.pn ++ pins, p.1 ≠ b) :
  Inv X pins σ H' { s with heap := h', gens := g', drawn := d', toks := t' } := by
 obtain ⟨m, ⟨o, es, ep, ho, r⟩, _⟩ := id I.loc
 obtain ⟨sl, hL⟩ := u.any ho I.free fun z => (hch _ z).2.1 rfl
 exact I.step (ch := ch) hch (fun b o hL hb hc e n => u.keep b o e n (fun z => (List.mem_cons.mp (I.stkSub b z)).elim hL hb) hc) (fun b o _ _ hc e n => u.any e n hc) (fun b o hc e n => u.free b o e n hc) (fun b o hc e => u.there b o e hc) u.tups u.frzs u.tbls (fun m' hm => by
  obtain ⟨o', es', ep', ho', r'⟩ := hm
  rw [ho] at ho'; cases ho'
  exact ⟨_, es', ep', hL, r'⟩) hok hg
theorem Inv.turned {t' : Nat} {it : Addr} (I : Inv X pins σ H s) (k : ∀ b o, b ≠ it -> s.heap.get? b = some o -> h'.get? b = some o) (hn : H it = none) (hL : it ≠ X.env.locals)
  (h1 : it ∈ X.ex \/ X.s₀.heap.objs.size <= it) (h2 : ∀ x c, X.env.cells.lookup x = some c -> c ≠ it) (h3 : ∀ p ∈ X.pn ++ pins, p.1 ≠ it) : Inv X pins σ H { s with heap := h', toks := t' } := by
 have nit : ∀ b u, H b = some u -> b ≠ it := fun b u e z => by rw [z, hn] at e; cases e
 refine I.step (g' := s.gens) (d' := s.drawn) (ch := [it]) (fun b hb => ?_) (fun b o _ _ hc e _ => k b o (fun z => hc (by simp [z])) e) (fun b o _ _ hc e _ => ⟨o.slots, k b o (fun z => hc (by simp [z])) e⟩) (fun _ _ _ _ n => n)
  (fun b o hc e => ⟨o, k b o (fun z => hc (by simp [z])) e⟩) (fun _ _ e => e) (fun _ _ _ e => e) (fun b ps e => ⟨#[], by rw [e]; simp⟩) (fun m hm => ?_) (fun b u e => ?_) I.bare
 ·have e : b = it := by simpa using hb
  subst e
  exact ⟨h1, hL, h2, h3⟩
 ·obtain ⟨o, es, ep, ho, r⟩ := hm
  exact ⟨o, es, ep, k _ o (Ne.symm hL) ho, r⟩
 ·refine (I.hok b u e).stay (fun c v hc q => k c v ?_ q) (fun _ q => q) fun _ _ q => q
  rcases hc with z | z
  ·rw [z]; exact nit b u e
  ·exact nit c _ z
theorem Inv.tok (I : Inv X pins σ H s) (t : Nat) : Inv X pins σ H { s with toks := t } := I.un (h' := s.heap) (t' := t) Un.refl I.hok
theorem Inv.kept {t' : Nat} (I : Inv X pins σ H s) (k : ∀ b u, s.heap.get? b = some u -> h'.get? b = some u) : Inv X pins σ H { s with heap := h', toks := t' } := I.un (Un.kept k) (I.hok.kept k)
theorem Inv.laid {a : Addr} {o : HO} {t' : Nat} (I : Inv X pins σ H s) (k : ∀ b u, s.heap.get? b = some u -> h'.get? b = some u) (hp : s.heap.objs.size <= a) (new : ObjOk X.prog X.w (upd H a o) h' a o) :
  Inv X pins σ (upd H a o) { s with heap := h', toks := t' } := I.un (Un.laid k hp (I.hok.fresh hp)) (I.hok.laid k hp new)
theorem Inv.write {x e : Addr} {o : HO} {t' : Nat} (I : Inv X pins σ H s) (mu : Mut (H x)) (he : e = x \/ H e = some (.own x)) (k : ∀ b u, b ≠ e -> s.heap.get? b = some u -> h'.get? b = some u) (heo : ∃ u, h'.get? e = some u)
  (new : ObjOk X.prog X.w (upd H x o) h' x o) : Inv X pins σ (upd H x o) { s with heap := h', toks := t' } := I.un (Un.write mu he k heo) (I.hok.write mu he k heo new)
theorem Inv.pins_of {pins' : List (Addr × Obj)} (I : Inv X pins σ H s) (h : ∀ p ∈ pins', s.heap.get? p.1 = some p.2 /\ H p.1 = none /\ p.1 ≠ X.env.locals /\ p.1 ∉ X.fs /\ ∀ v, p.2.data ≠ .cell v) : Inv X pins' σ H s :=
 ⟨I.ok, I.os, I.bare, I.base, I.loc, I.cell, I.free, I.freeC, fun p hp => (List.mem_append.mp hp).elim (fun z => I.pin p (List.mem_append_left _ z)) (h p), I.hok, I.len⟩
theorem nodup_ix {N : List Str} (hN : N.Nodup) {i j : Nat} {x : Str} (a : N[i]? = some x) (b : N[j]? = some x) : i = j := by
 obtain ⟨h1, e1⟩ := List.getElem?_eq_some_iff.mp a
 obtain ⟨h2, e2⟩ := List.getElem?_eq_some_iff.mp b
 exact (List.getElem_inj hN).mp (e1.trans e2.symm)
theorem store_ok2 {M : Model} {A : Around} {E : Value -> Shared -> Prop} {i : Nat} {x : Str} {v : V} {u : Value} {Q : Unit -> Shared -> Prop} (I : Inv X pins σ H s) (hN : X.N.Nodup) (hi : X.N[i]? = some x) (hx : Loc X.env.scope x) (r : RelV v u)
  (h : ∀ s', Inv X pins (σ.set i (some v)) H s' -> (∃ a, Heap.SameBut a s.heap s'.heap /\ (a = X.env.locals \/ X.env.cells.lookup x = some a)) -> Q () s') (hf : X.fn x = true \/ X.env.scope.names.lookup x = some .local := by first | exact .inl rfl | exact .inr rfl | assumption) : wpAny M A (storeName X.env x u) Q E s := by
 obtain ⟨m, hn, hl⟩ := id I.loc
 have hcls : (X.env.scope.kind == .class || (X.env.scope.kind == .module && X.env.locals != X.env.globals)) = false := by rw [I.ok.kind]; rfl
 have hiσ : i < σ.length := by rw [I.len]; exact (List.getElem?_eq_some_iff.mp hi).1
 have cne := I.cne
 have tracked : ∀ {a : Addr} {h' : Heap}, (∃ o, s.heap.get? a = some o /\ H a = none) -> Heap.SameBut a s.heap h' -> HOk X.prog X.w H h' := fun {a h'} ha hs b ob e => by
  obtain ⟨_, _, hfree⟩ := ha
  refine (I.hok b ob e).stay (fun c w' hc q => (hs.2 c ?_).trans q) (fun _ q => q) fun _ _ q => q
  rintro rfl
  rcases hc with rfl | hc
  ·rw [hfree] at e; cases e
  ·rw [hfree] at hc; cases hc
 rcases hx with hk | hk
 ·refine wpAny_storeName_local hk hn (fun h' hn' hs => ?_) hcls
  obtain ⟨oL, _, _, hoL, _⟩ := id hn
  refine h _ ⟨I.ok, I.os, I.bare, ⟨fun b o e n hb hx => ?_, fun b o e n hb hx => ?_, I.base.free, fun b o e hx => ?_, I.base.tups, I.base.frzs, I.base.tbls⟩, ⟨_, hn', fun j y v' e1 e2 e3 => ?_⟩, fun y c e => ?_, I.free, I.freeC, fun p hp => ?_, tracked ⟨oL, hoL, I.free⟩ hs, by simpa using I.len⟩ ⟨_, hs, .inl rfl⟩
  ·exact (hs.2 b (Nat.ne_of_lt (Nat.lt_of_lt_of_le (Heap.lt_size e) I.ok.above))).trans (I.base.keep b o e n hb hx)
  ·obtain ⟨sl, e1⟩ := I.base.slot b o e n hb hx
   exact ⟨sl, (hs.2 b (Nat.ne_of_lt (Nat.lt_of_lt_of_le (Heap.lt_size e) I.ok.above))).trans e1⟩
  ·obtain ⟨o', e1⟩ := I.base.there b o e hx
   exact ⟨o', (hs.2 b (Nat.ne_of_lt (Nat.lt_of_lt_of_le (Heap.lt_size e) I.ok.above))).trans e1⟩
  ·by_cases hj : j = i
   ·subst hj
    rw [hi] at e1; cases e1
    rw [List.getElem?_set_self hiσ] at e2
    cases e2
    exact ⟨u, r, .inl ⟨hk, by simp⟩⟩
   ·rw [List.getElem?_set_ne (Ne.symm hj)] at e2
    obtain ⟨u', r', q⟩ := hl j y v' e1 e2 e3
    refine ⟨u', r', ?_⟩
    rcases q with ⟨k, e⟩ | ⟨k, c, e, z⟩
    ·refine .inl ⟨k, ?_⟩
     have : y ≠ x := fun e => hj (nodup_ix hN e1 (e ▸ hi))
     simp [this, e]
    ·exact .inr ⟨k, c, e, z.sameBut hs (cne y c e)⟩
  ·obtain ⟨w', z⟩ := I.cell y c e
   exact ⟨w', z.sameBut hs (cne y c e)⟩
  ·obtain ⟨e, n, ne, nf, d⟩ := I.pin p hp
   exact ⟨(hs.2 p.1 ne).trans e, n, ne, nf, d⟩
 ·have hfn : X.fn x = true := by
   rcases hf with z | z
   ·exact z
   ·rw [z] at hk; cases hk
  obtain ⟨c, hc⟩ := I.ok.has x (.inl hk)
  obtain ⟨w', z⟩ := I.cell x c hc
  refine wpAny_storeName_cell I.ok.kind hk hc z (fun h' hc' hs => ?_)
  obtain ⟨oc, hoc, hocd⟩ := id z
  refine h { s with heap := h' } ⟨I.ok, I.os, I.bare, ⟨fun b o e n hb hx => ?_, fun b o e n hb hx => ?_, I.base.free, fun b o e hx => ?_, I.base.tups, I.base.frzs, I.base.tbls⟩, ⟨m, hn.sameBut hs (Ne.symm (cne x c hc)), fun j y v' e1 e2 e3 => ?_⟩, fun y c' e => ?_, I.free, I.freeC, fun p hp => ?_, tracked ⟨oc, hoc, I.freeC x c hc⟩ hs, by simpa using I.len⟩ ⟨c, hs, .inr hc⟩
  ·exact (hs.2 b (Nat.ne_of_lt (Nat.lt_of_lt_of_le (Heap.lt_size e) (I.ok.cab x c hfn hc)))).trans (I.base.keep b o e n hb hx)
  ·obtain ⟨sl, e1⟩ := I.base.slot b o e n hb hx
   exact ⟨sl, (hs.2 b (Nat.ne_of_lt (Nat.lt_of_lt_of_le (Heap.lt_size e) (I.ok.cab x c hfn hc)))).trans e1⟩
  ·obtain ⟨o', e1⟩ := I.base.there b o e hx
   exact ⟨o', (hs.2 b (Nat.ne_of_lt (Nat.lt_of_lt_of_le (Heap.lt_size e) (I.ok.cab x c hfn hc)))).trans e1⟩
  ·by_cases hj : j = i
   ·subst hj
    rw [hi] at e1; cases e1
    rw [List.getElem?_set_self hiσ] at e2
    cases e2
    exact ⟨u, r, .inr ⟨.inl hk, c, hc, hc'⟩⟩
   ·rw [List.getElem?_set_ne (Ne.symm hj)] at e2
    obtain ⟨u', r', q⟩ := hl j y v' e1 e2 e3
    refine ⟨u', r', ?_⟩
    rcases q with q | ⟨k, c', e, z'⟩
    ·exact .inl q
    ·refine .inr ⟨k, c', e, z'.sameBut hs ?_⟩
     rintro rfl
     exact hj (nodup_ix hN e1 (I.ok.inj _ _ _ e hc ▸ hi))
  ·by_cases hcc : c' = c
   ·subst hcc; exact ⟨_, hc'⟩
   ·obtain ⟨w2, z2⟩ := I.cell y c' e
    exact ⟨w2, z2.sameBut hs hcc⟩
  ·obtain ⟨e, n, ne, nf, d⟩ := I.pin p hp
   refine ⟨(hs.2 p.1 ?_).trans e, n, ne, nf, d⟩
   intro q
   rw [q, hoc] at e
   have q' : oc = p.2 := Option.some.inj e
   exact d w' (by rw [<- q']; exact hocd)
theorem store_ok {M : Model} {A : Around} {E : Value -> Shared -> Prop} {i : Nat} {x : Str} {v : V} {u : Value} {Q : Unit -> Shared -> Prop} (I : Inv X pins σ H s) (hN : X.N.Nodup) (hi : X.N[i]? = some x) (hx : Loc X.env.scope x) (r : RelV v u)
  (h : ∀ s', Inv X pins (σ.set i (some v)) H s' -> Q () s') (hf : X.fn x = true \/ X.env.scope.names.lookup x = some .local := by first | exact .inl rfl | exact .inr rfl | assumption) : wpAny M A (storeName X.env x u) Q E s :=
 store_ok2 I hN hi hx r (fun s' I' _ => h s' I') hf
theorem Inv.call' {s' : Shared} {ch : List Addr} (I : Inv X pins σ H s) (ho : s'.os = s.os) (u : Un (frs X.stack) ch H H' s.heap s'.heap) (hok : HOk X.prog X.w H' s'.heap) (hg : AllBare s'.gens)
  (hch : ∀ b ∈ ch, (b ∈ X.ex \/ X.s₀.heap.objs.size <= b) /\ b ≠ X.env.locals /\ (∀ x c, X.env.cells.lookup x = some c -> c ≠ b) /\ ∀ p ∈ X.pn ++ pins, p.1 ≠ b) : Inv X pins σ H' s' := by
 obtain ⟨h', g', d', t', o'⟩ := s'
 have e : o' = s.os := ho
 subst e
 exact I.call (g' := g') (t' := t') (d' := d') u hok hg hch
end
noncomputable abbrev XK := Value -> Option Addr -> Hp -> Prop
noncomputable abbrev St := List (Option V)
noncomputable abbrev VK := V -> Hp -> Prop
noncomputable abbrev TE := St -> Hp -> VK -> Prop
noncomputable abbrev TT := St -> Hp -> (Bool -> Hp -> Prop) -> Prop
noncomputable abbrev TA := St -> Hp -> (List V -> Hp -> Prop) -> Prop
structure Ends where
 nx : St -> Hp -> Prop
 rt : VK
 bk : St -> Hp -> Prop := fun _ _ => False
 ct : St -> Hp -> Prop := fun _ _ => False
noncomputable abbrev TS := Ends -> St -> Hp -> Prop
noncomputable def EP (X : Cx) (pins : List (Addr × Obj)) (σ : St) (Q : VK) (u : Value) (s' : Shared) : Prop := ∃ v H', Inv X pins σ H' s' /\ RelV v u /\ Q v H'
noncomputable def TP (X : Cx) (pins : List (Addr × Obj)) (σ : St) (Q : Bool -> Hp -> Prop) (b : Bool) (s' : Shared) : Prop := ∃ H', Inv X pins σ H' s' /\ Q b H'
noncomputable def AP (X : Cx) (pins : List (Addr × Obj)) (σ : St) (Q : List V -> Hp -> Prop) (us : List Value) (s' : Shared) : Prop := ∃ vs H', Inv X pins σ H' s' /\ Vals vs us /\ Q vs H'
noncomputable def SP (X : Cx) (pins : List (Addr × Obj)) (D : Ends) (f : Flow) (s' : Shared) : Prop :=
 match f with
 | .next => ∃ σ' H', Inv X pins σ' H' s' /\ D.nx σ' H'
 | .brk => ∃ σ' H', Inv X pins σ' H' s' /\ D.bk σ' H'
 | .cont => ∃ σ' H', Inv X pins σ' H' s' /\ D.ct σ' H'
 | .ret u => ∃ v σ' H', Inv X pins σ' H' s' /\ RelV v u /\ D.rt v H'
noncomputable def PE (X : Cx) (e : Expr) (t : TE) : Prop :=
 ∀ (pins : List (Addr × Obj)) (s : Shared) (σ : St) (H : Hp) (Q : VK), Inv X pins σ H s -> t σ H Q -> wpAny (model X.prog X.w) X.A (eval e X.env) (EP X pins σ Q) X.xe s
noncomputable def PT (X : Cx) (e : Expr) (t : TT) : Prop :=
 ∀ (pins : List (Addr × Obj)) (s : Shared) (σ : St) (H : Hp) (Q : Bool -> Hp -> Prop), Inv X pins σ H s -> t σ H Q -> wpAny (model X.prog X.w) X.A (isTrue e X.env (eval e X.env)) (TP X pins σ Q) X.xe s
noncomputable def PW (X : Cx) (e : Expr) (t : TT) : Prop :=
 ∀ (whole : Sem Value) (pins : List (Addr × Obj)) (s : Shared) (σ : St) (H : Hp) (Q : Bool -> Hp -> Prop), Inv X pins σ H s -> t σ H Q -> wpAny (model X.prog X.w) X.A (isTrue e X.env whole) (TP X pins σ Q) X.xe s
theorem PW.pt {X : Cx} {e : Expr} {t : TT} (h : PW X e t) : PT X e t := h _
noncomputable def PA (X : Cx) (es : List Expr) (t : TA) : Prop :=
 ∀ (pos : Pos) (pins : List (Addr × Obj)) (s : Shared) (σ : St) (H : Hp) (Q : List V -> Hp -> Prop), Inv X pins σ H s -> t σ H Q -> wpAny (model X.prog X.w) X.A (spliced (backTo pos (starEach es X.env))) (AP X pins σ Q) X.xe s
noncomputable def PS (X : Cx) (st : Stmt) (t : TS) : Prop :=
 ∀ (pins : List (Addr × Obj)) (s : Shared) (σ : St) (H : Hp) (D : Ends), Inv X pins σ H s -> t D σ H -> wpAny (model X.prog X.w) X.A (exec st X.env) (SP X pins D) X.xe s
noncomputable def PSs (X : Cx) (st : List Stmt) (t : TS) : Prop :=
 ∀ (pins : List (Addr × Obj)) (s : Shared) (σ : St) (H : Hp) (D : Ends), Inv X pins σ H s -> t D σ H -> wpAny (model X.prog X.w) X.A (execs st X.env) (SP X pins D) X.xe s
theorem thn {α : Type} {t : Sem α} {Q Q' : α -> Shared -> Prop} {M : Model} {A : Around} {E : Value -> Shared -> Prop} {s : Shared} (h : wpAny M A t Q E s) (hQ : ∀ a s, Q a s -> Q' a s) : wpAny M A t Q' E s := wpAny_mono h hQ fun _ _ x => x
end L2
namespace L2
open PySem PySem.Spec PyProof.Rows
section
variable {X : Cx}
theorem bin {a b : Expr} {ta tb : TE} (ha : PE X a ta) (hb : PE X b tb) {pins : List (Addr × Obj)} {s : Shared} {σ : St} {H : Hp} {R : V -> V -> Hp -> Prop} (I : Inv X pins σ H s) (h : ta σ H fun x H1 => tb σ H1 fun y H2 => R x y H2)
  {α : Type} {Q : α -> Shared -> Prop} {f : Value -> Value -> Sem α}
  (hf : ∀ v u s2 x y H2, Inv X pins σ H2 s2 -> RelV x v -> RelV y u -> R x y H2 -> wpAny (model X.prog X.w) X.A (f v u) Q X.xe s2) :
  wpAny (model X.prog X.w) X.A (eval a X.env) (fun v s₁ => wpAny (model X.prog X.w) X.A (eval b X.env) (fun u s₂ => wpAny (model X.prog X.w) X.A (f v u) Q X.xe s₂) X.xe s₁) X.xe s := by
 refine thn (ha pins s σ H _ I h) fun v s1 ⟨x, H1, I1, r1, q1⟩ => ?_
 refine thn (hb pins s1 σ H1 _ I1 q1) fun u s2 ⟨y, H2, I2, r2, q2⟩ => ?_
 exact hf v u s2 x y H2 I2 r1 r2 q2
noncomputable def tVar (i : Nat) : TE := fun σ H Q => ∃ v, σ[i]? = some (some v) /\ Q v H
noncomputable def tC (v : V) : TE := fun _ H Q => Q v H
theorem pe_var {i : Nat} {x : Str} {pos : Pos} (hN : X.N[i]? = some x) (hv : Vis X.env.scope x) (hd : (x == ("__debug__" : Str)) = false := by decide) (hcd : (x == ("__classdict__" : Str)) = false := by decide) : PE X (.Name x pos) (tVar i) := by
 intro pins s σ H Q I h
 obtain ⟨v, e, h⟩ := h
 obtain ⟨m, hn, hl⟩ := I.loc
 obtain ⟨u, r, l⟩ := hl i x v hN e hv
 have fin : EP X pins σ Q u s := ⟨v, H, I, r, h⟩
 rcases l with ⟨hk, hm⟩ | ⟨hk, c, hc, hcell⟩
 ·exact wpAny_Name (wpAny_loadName_local I.ok.kind hk hn hm fin) hd
 ·rcases hk with hk | hk
  ·exact wpAny_Name (wpAny_loadName_cell I.ok.kind hk hc hcell fin) hd
  ·exact wpAny_Name (wpAny_loadName_free I.ok.kind hk hc hcell fin hcd) hd
theorem pe_int {i j pos} : PE X (.Constant (.int i) j pos) (tC (.int i)) := fun _ _ _ H _ I h => wpAny_Constant_int ⟨.int i, H, I.tok _, ⟨_, rfl⟩, h⟩
theorem pe_bl {b j pos} : PE X (.Constant (.bool b) j pos) (tC (.bl b)) := fun _ _ _ H _ I h => Constant_bool ⟨.bl b, H, I, rfl, h⟩
theorem pe_non {j pos} : PE X (.Constant .none j pos) (tC .non) := fun _ _ _ H _ I h => Constant_none ⟨.non, H, I, rfl, h⟩
theorem pe_str {x j pos} : PE X (.Constant (.str x) j pos) (tC (.str x)) := fun _ _ _ H _ I h => Calls.Constant_str ⟨.str x, H, I.tok _, ⟨_, rfl⟩, h⟩
noncomputable def Gl (X : Cx) (x : Str) : Prop := X.env.kindOf x = some .globalImplicit
theorem ld_glob {E : Value -> Shared -> Prop} {pins : List (Addr × Obj)} {s : Shared} {σ : St} {H : Hp} {x : Str} {u : Value} {pos : Pos} {Q : Value -> Shared -> Prop} (I : Inv X pins σ H s) (hg : Gl X x) (hm : X.mg x = some u) (h : Q u s)
  (hd : (x == ("__debug__" : Str)) = false := by decide) : wpAny (model X.prog X.w) X.A (eval (.Name x pos) X.env) Q E s :=
 Calls.Name_function_global I.ok.kind hg (Calls.loadGlobal_global (by rw [I.ok.glob]; exact I.mod.glob.keeps I.bk) hm h) hd
theorem ld_blt {E : Value -> Shared -> Prop} {pins : List (Addr × Obj)} {s : Shared} {σ : St} {H : Hp} {x : Str} {u : Value} {pos : Pos} {Q : Value -> Shared -> Prop} (I : Inv X pins σ H s) (hg : Gl X x) (hm : X.mg x = none) (hv : bootBuiltins x = some u) (h : Q u s)
  (hn : x ≠ "__name__" := by decide) (hd : (x == ("__debug__" : Str)) = false := by decide) : wpAny (model X.prog X.w) X.A (eval (.Name x pos) X.env) Q E s := by
 obtain ⟨mb, h1, h2⟩ := I.mod.blt
 exact Calls.Name_function_global I.ok.kind hg (Calls.loadGlobal_builtin (by rw [I.ok.glob]; exact I.mod.glob.keeps I.bk) hm (by rw [I.ok.blt]; exact h1.keeps I.bk) ((h2 x hn).trans hv) h) hd
theorem pe_glob {x : Str} {v : V} {u : Value} {pos : Pos} (hg : Gl X x) (hm : X.mg x = some u) (r : RelV v u) (hd : (x == ("__debug__" : Str)) = false := by decide) : PE X (.Name x pos) (tC v) :=
 fun _ _ _ H _ I h => ld_glob I hg hm ⟨v, H, I, r, h⟩ hd
theorem pe_bltn {x : Str} {v : V} {u : Value} {pos : Pos} (hg : Gl X x) (hm : X.mg x = none) (hv : bootBuiltins x = some u) (r : RelV v u) (hn : x ≠ "__name__" := by decide) (hd : (x == ("__debug__" : Str)) = false := by decide) : PE X (.Name x pos) (tC v) :=
 fun _ _ _ H _ I h => ld_blt I hg hm hv ⟨v, H, I, r, h⟩ hn hd
variable {a b : Expr} {ta tb : TE} {pos : Pos}
noncomputable def PC (X : Cx) (op : CmpOp) (a b : Expr) (t : TE) : Prop :=
 ∀ (pins : List (Addr × Obj)) (s : Shared) (σ : St) (H : Hp) (Q : VK), Inv X pins σ H s -> t σ H Q ->
  wpAny (model X.prog X.w) X.A (eval a X.env) (fun v s₁ => wpAny (model X.prog X.w) X.A (eval b X.env) (fun u s₂ => wpAny (model X.prog X.w) X.A (compareOp op v u) (EP X pins σ Q) X.xe s₂) X.xe s₁) X.xe s
theorem nobehind (b : Expr) {op : CmpOp} (h : op ≠ .In) (h2 : op ≠ .NotIn) : behindInMarks op b = false := by
 have e1 : (op == CmpOp.In) = false := by cases op <;> first | rfl | exact absurd rfl h
 have e2 : (op == CmpOp.NotIn) = false := by cases op <;> first | rfl | exact absurd rfl h2
 cases b <;> simp [behindInMarks, e1, e2]
noncomputable def tB (t : TE) : TT := fun σ H Q => t σ H fun x H1 => ∃ c, x = .bl c /\ Q c H1
theorem pt_cmp {op : CmpOp} {t : TE} (h : PC X op a b t) (h1 : behindInMarks op b = false := by first | exact nobehind _ (by decide) (by decide) | rfl) : PT X (.Compare a [op] [b] pos) (tB t) := by
 intro pins s σ H Q I hw
 refine wpAny_isTrue_Compare1 (thn (h pins s σ H _ I hw) fun v s1 h1 => thn h1 fun u s2 h2 => thn h2 fun c s3 ⟨x, H1, I1, r1, q1⟩ => ?_) h1
 obtain ⟨d, rfl, q⟩ := q1
 cases r1
 exact wpAny_truthy_bool ⟨H1, I1, q⟩
theorem pt_val {e : Expr} {t : TE} (h : PE X e t) (he : ∀ whole, isTrue e X.env whole = (do let v <- whole; standAt e.pos; holding [v] (truthy v)) := by intro _; rfl) : PT X e (tB t) := by
 intro pins s σ H Q I hw
 refine isTrue_plain (thn (h pins s σ H _ I hw) fun v s1 ⟨x, H1, I1, r1, q1⟩ => ?_) (he _)
 obtain ⟨d, rfl, q⟩ := q1
 cases r1
 exact wpAny_truthy_bool ⟨H1, I1, q⟩
variable {tA tB' : TT} {rest : List Expr}
noncomputable def tAnd (t u : TT) : TT := fun σ H Q => t σ H fun c H1 => if c = true then u σ H1 Q else Q false H1
noncomputable def tOr (t u : TT) : TT := fun σ H Q => t σ H fun c H1 => if c = true then Q true H1 else u σ H1 Q
noncomputable def tNot (t : TT) : TT := fun σ H Q => t σ H fun c H1 => Q (!c) H1
theorem pw_and1 (ha : PT X a tA) : PW X (.BoolOp .And [a] pos) tA := by
 intro wh pins s σ H Q I h
 refine isTrue_and (thn (ha pins s σ H Q I h) fun c s1 e => ?_)
 cases c with
 | true => exact isTrue_and_nil e
 | false => exact e
theorem pw_or1 (ha : PT X a tA) : PW X (.BoolOp .Or [a] pos) tA := by
 intro wh pins s σ H Q I h
 refine isTrue_or (thn (ha pins s σ H Q I h) fun c s1 e => ?_)
 cases c with
 | false => exact isTrue_or_nil e
 | true => exact e
theorem pw_and (ha : PT X a tA) (hb : PW X (.BoolOp .And (b :: rest) pos) tB') : PW X (.BoolOp .And (a :: b :: rest) pos) (tAnd tA tB') := by
 intro wh pins s σ H Q I h
 refine isTrue_and (thn (ha pins s σ H _ I h) fun c s1 ⟨H1, I1, q1⟩ => ?_)
 cases c with
 | true => exact hb wh pins s1 σ H1 Q I1 q1
 | false => exact ⟨H1, I1, q1⟩
theorem pw_or (ha : PT X a tA) (hb : PW X (.BoolOp .Or (b :: rest) pos) tB') : PW X (.BoolOp .Or (a :: b :: rest) pos) (tOr tA tB') := by
 intro wh pins s σ H Q I h
 refine isTrue_or (thn (ha pins s σ H _ I h) fun c s1 ⟨H1, I1, q1⟩ => ?_)
 cases c with
 | true => exact ⟨H1, I1, q1⟩
 | false => exact hb wh pins s1 σ H1 Q I1 q1
theorem pt_not (ha : PT X a tA) : PT X (.UnaryOp .Not a pos) (tNot tA) := by
 intro pins s σ H Q I h
 exact isTrue_not (ha pins s σ H (fun c H1 => Q (!c) H1) I h)
noncomputable def tAndV (ta tb : TE) : TE := fun σ H Q => ta σ H fun x H1 => ∃ c, x = .bl c /\ if c = true then tb σ H1 Q else Q (.bl false) H1
noncomputable def tOrV (ta tb : TE) : TE := fun σ H Q => ta σ H fun x H1 => ∃ c, x = .bl c /\ if c = true then Q (.bl true) H1 else tb σ H1 Q
noncomputable def tNotV (ta : TE) : TE := fun σ H Q => ta σ H fun x H1 => ∃ c, x = .bl c /\ Q (.bl (!c)) H1
theorem pe_one {op} {t : TE} (h : PE X a t) : PE X (.BoolOp op [a] pos) t := fun pins s σ H Q I hw => BoolOp_one (h pins s σ H Q I hw)
theorem pe_and (ha : PE X a ta) (hb : PE X (.BoolOp .And (b :: rest) pos) tb) : PE X (.BoolOp .And (a :: b :: rest) pos) (tAndV ta tb) := by
 intro pins s σ H Q I h
 refine BoolOp_and (thn (ha pins s σ H _ I h) fun v s1 ⟨x, H1, I1, r1, q1⟩ => ?_)
 obtain ⟨c, rfl, q1⟩ := q1
 cases r1
 refine wpAny_truthy_bool ?_
 cases c with
 | true => exact hb pins s1 σ H1 Q I1 q1
 | false => exact ⟨.bl false, H1, I1, rfl, q1⟩
theorem pe_or (ha : PE X a ta) (hb : PE X (.BoolOp .Or (b :: rest) pos) tb) : PE X (.BoolOp .Or (a :: b :: rest) pos) (tOrV ta tb) := by
 intro pins s σ H Q I h
 refine BoolOp_or (thn (ha pins s σ H _ I h) fun v s1 ⟨x, H1, I1, r1, q1⟩ => ?_)
 obtain ⟨c, rfl, q1⟩ := q1
 cases r1
 refine wpAny_truthy_bool ?_
 cases c with
 | false => exact hb pins s1 σ H1 Q I1 q1
 | true => exact ⟨.bl true, H1, I1, rfl, q1⟩
theorem pe_not (ha : PE X a ta) : PE X (.UnaryOp .Not a pos) (tNotV ta) := by
 intro pins s σ H Q I h
 refine UnaryOp_ (thn (ha pins s σ H _ I h) fun v s1 ⟨x, H1, I1, r1, q1⟩ => ?_)
 obtain ⟨c, rfl, q1⟩ := q1
 cases r1
 exact not_of (wpAny_truthy_bool ⟨.bl (!c), H1, I1, rfl, q1⟩)
noncomputable def tIf (t : TT) (ta tb : TE) : TE := fun σ H Q => t σ H fun c H1 => if c = true then ta σ H1 Q else tb σ H1 Q
theorem pe_ifExp {c : Expr} (hc : PT X c tA) (ha : PE X a ta) (hb : PE X b tb) : PE X (.IfExp c a b pos) (tIf tA ta tb) := by
 intro pins s σ H Q I h
 refine wpAny_IfExp (thn (hc pins s σ H _ I h) fun d s1 ⟨H1, I1, q1⟩ => ?_)
 cases d with
 | true => exact ha pins s1 σ H1 Q I1 q1
 | false => exact hb pins s1 σ H1 Q I1 q1
end
end L2
namespace L2
open PySem PySem.Spec PyProof.Rows
noncomputable def SqL (K : PySem.W.Frag) (H : Hp) (a : Addr) (xs : List V) : Prop :=
 Rd H a (.lst xs) \/
  ∃ (o : Obj) (its : Array Value) (n : Nat), K.lookup a = some o /\ o.cls = .type "list" /\ o.dict = none /\ o.data = .seq its n /\ its.size <= sizeLine /\ Vals xs its.toList
noncomputable def SqT (K : PySem.W.Frag) (H : Hp) (a : Addr) (xs : List V) : Prop :=
 Rd H a (.tup xs) \/
  ∃ (o : Obj) (its : Array Value) (n : Nat), K.lookup a = some o /\ o.cls = .type "tuple" /\ o.data = .seq its n /\ its.size <= sizeLine /\ Vals xs its.toList
noncomputable def absV : Value -> Option V
 | .none => some .non
 | .bool b => some (.bl b)
 | .int i _ => some (.int i)
 | .str x _ => some (.str x)
 | .bytes b _ => some (.byt b)
 | .float b _ => some (.flt b)
 | .ref a => some (.ref a)
 | .type n => some (.ty n)
 | _ => none
theorem RelV.abs {x : V} {u : Value} (r : RelV x u) : absV u = some x := by
 cases x with
 | non => cases r; rfl
 | bl _ => cases r; rfl
 | int _ => obtain ⟨t, rfl⟩ := r; rfl
 | str _ => obtain ⟨t, rfl⟩ := r; rfl
 | byt _ => obtain ⟨t, rfl⟩ := r; rfl
 | flt _ => obtain ⟨t, rfl⟩ := r; rfl
 | ref _ => cases r; rfl
 | ty _ => cases r; rfl
theorem RelV.inj {x y : V} {u : Value} (r : RelV x u) (q : RelV y u) : x = y := Option.some.inj (r.abs.symm.trans q.abs)
theorem Vals.inj : ∀ {xs ys : List V} {us : List Value}, Vals xs us -> Vals ys us -> xs = ys
 | _, _, _, .nil, .nil => rfl
 | _, _, _, .cons r t, .cons r' t' => by rw [r.inj r', Vals.inj t t']
section
variable {X : Cx} {pins : List (Addr × Obj)} {σ : St} {H : Hp} {s : Shared} {a : Addr} {xs ys : List V}
theorem SqL.of {K : PySem.W.Frag} (h : H a = some (.lst xs)) : SqL K H a xs := .inl (.inl h)
theorem SqT.of {K : PySem.W.Frag} (h : H a = some (.tup xs)) : SqT K H a xs := .inl (.inl h)
theorem Inv.list (I : Inv X pins σ H s) (h : SqL X.K H a xs) : ∃ its : List Value, Vals xs its /\ PlainL s.heap a its.toArray /\ xs.length <= sizeLine := by
 rcases h with h | ⟨o, its, n, hk, hc, hd, hs, hz, r⟩
 ·obtain ⟨z, its, n, r, e⟩ := h.ok I.hok
  exact ⟨its, r, ⟨_, n, e, rfl, rfl, rfl⟩, z⟩
 ·refine ⟨its.toList, r, ⟨o, n, I.kIn a o hk, hc, hd, by simpa using hs⟩, ?_⟩
  have e := r.length
  simp only [Array.length_toList] at e
  omega
theorem Inv.tuple (I : Inv X pins σ H s) (h : SqT X.K H a xs) : ∃ its : List Value, Vals xs its /\ IsTup s.heap a its.toArray /\ xs.length <= sizeLine := by
 rcases h with h | ⟨o, its, n, hk, hc, hs, hz, r⟩
 ·obtain ⟨z, its, r, p⟩ := h.ok I.hok
  exact ⟨its, r, p, z⟩
 ·refine ⟨its.toList, r, ⟨o, I.kIn a o hk, hc, n, by simpa using hs⟩, ?_⟩
  have e := r.length
  simp only [Array.length_toList] at e
  omega
theorem Inv.list_inj (I : Inv X pins σ H s) (h : SqL X.K H a xs) (h' : SqL X.K H a ys) : xs = ys := by
 obtain ⟨its, r, ⟨o, n, e, _, _, d⟩, _⟩ := I.list h
 obtain ⟨its', r', ⟨o', n', e', _, _, d'⟩, _⟩ := I.list h'
 rw [e] at e'; cases e'
 rw [d] at d'
 injection d' with d1 _
 have : its = its' := by simpa using congrArg Array.toList d1
 subst this
 exact r.inj r'
theorem Inv.tuple_inj (I : Inv X pins σ H s) (h : SqT X.K H a xs) (h' : SqT X.K H a ys) : xs = ys := by
 obtain ⟨its, r, ⟨o, e, _, n, d⟩, _⟩ := I.tuple h
 obtain ⟨its', r', ⟨o', e', _, n', d'⟩, _⟩ := I.tuple h'
 rw [e] at e'; cases e'
 rw [d] at d'
 injection d' with d1 _
 have : its = its' := by simpa using congrArg Array.toList d1
 subst this
 exact r.inj r'
end
noncomputable abbrev Cx.wish (X : Cx) (E : Value -> Shared -> Prop) : Cx := { X with xe := E }
noncomputable abbrev Cx.nox (X : Cx) : Cx := X.wish fun _ _ => False
theorem Cx.Ok.wish {X : Cx} (ok : X.Ok) (E : Value -> Shared -> Prop) : (X.wish E).Ok :=
 ⟨ok.mod, ok.kind, ok.glob, ok.blt, ok.above, ok.inj, ok.has, ok.cab, ok.hd, ok.frames, ok.stk, ok.exf, ok.bs, ok.bsz, ok.noex, ok.exfs, ok.funs, ok.frf⟩
theorem Cx.Ok.unwish {X : Cx} {E : Value -> Shared -> Prop} (ok : (X.wish E).Ok) : X.Ok :=
 ⟨ok.mod, ok.kind, ok.glob, ok.blt, ok.above, ok.inj, ok.has, ok.cab, ok.hd, ok.frames, ok.stk, ok.exf, ok.bs, ok.bsz, ok.noex, ok.exfs, ok.funs, ok.frf⟩
section
variable {X : Cx} {pins : List (Addr × Obj)} {σ : St} {H : Hp} {s : Shared} {E : Value -> Shared -> Prop}
theorem Inv.wish (I : Inv X pins σ H s) (E : Value -> Shared -> Prop) : Inv (X.wish E) pins σ H s := ⟨I.ok.wish E, I.os, I.bare, I.base, I.loc, I.cell, I.free, I.freeC, I.pin, I.hok, I.len⟩
theorem Inv.unwish (I : Inv (X.wish E) pins σ H s) : Inv X pins σ H s := ⟨I.ok.unwish, I.os, I.bare, I.base, I.loc, I.cell, I.free, I.freeC, I.pin, I.hok, I.len⟩
theorem SP.unwish {D : Ends} {f : Flow} {s' : Shared} (h : SP (X.wish E) pins D f s') : SP X pins D f s' := by
 cases f with
 | next => obtain ⟨σ', H', I, q⟩ := h; exact ⟨σ', H', I.unwish, q⟩
 | brk => obtain ⟨σ', H', I, q⟩ := h; exact ⟨σ', H', I.unwish, q⟩
 | cont => obtain ⟨σ', H', I, q⟩ := h; exact ⟨σ', H', I.unwish, q⟩
 | ret u => obtain ⟨v, σ', H', I, r, q⟩ := h; exact ⟨v, σ', H', I.unwish, r, q⟩
theorem PSs.nox {st : List Stmt} {t : TS} (h : PSs X.nox st t) : PSs X st t := fun pins s σ H D I hw =>
 wpAny_mono (h pins s σ H D (I.wish _) hw) (fun _ _ q => q.unwish) fun _ _ z => False.elim z
end
section
variable {X : Cx} {st : Stmt} {rest : List Stmt} {t u : TS} {e : Expr} {te : TE} {pos : Pos}
noncomputable def tNext : TS := fun D σ H => D.nx σ H
noncomputable def tSeq (t u : TS) : TS := fun D σ H => t { D with nx := u D } σ H
theorem pss_nil : PSs X [] tNext := fun _ _ σ H _ I h => wpAny_execs_nil ⟨σ, H, I, h⟩
theorem pss_cons (h1 : PS X st t) (h2 : PSs X rest u) : PSs X (st :: rest) (tSeq t u) := by
 intro pins s σ H D I h
 refine wpAny_execs_cons (thn (h1 pins s σ H { D with nx := u D } I h) fun f s1 q => ?_)
 cases f with
 | next =>
  obtain ⟨σ', H', I', q⟩ := q
  exact h2 pins s1 σ' H' D I' q
 | ret v => exact q
 | brk => exact q
 | cont => exact q
noncomputable def tBreak : TS := fun D σ H => D.bk σ H
noncomputable def tCont : TS := fun D σ H => D.ct σ H
theorem ps_pass : PS X (.Pass pos) tNext := fun _ _ σ H _ I h => wpAny_Pass ⟨σ, H, I, h⟩
theorem ps_break : PS X (.Break pos) tBreak := fun _ _ σ H _ I h => wpAny_Break ⟨σ, H, I, h⟩
theorem ps_continue : PS X (.Continue pos) tCont := fun _ _ σ H _ I h => wpAny_Continue ⟨σ, H, I, h⟩
theorem Inv.quiet {pins : List (Addr × Obj)} {σ : St} {H : Hp} {s : Shared} (I : Inv X pins σ H s) : interactive X.env = false := by simp [interactive, I.ok.kind]
noncomputable def tDrop (te : TE) : TS := fun D σ H => te σ H fun _ H1 => D.nx σ H1
theorem ps_expr (he : PE X e te) (hs : swapsWith e none pos.line X.env = pure false := by rfl) : PS X (.Expr e pos) (tDrop te) := by
 intro pins s σ H D I h
 exact wpAny_Expr_any (thn (he pins s σ H _ I h) fun v s1 ⟨x, H1, I1, r1, q1⟩ => ⟨σ, H1, I1, q1⟩) I.quiet hs
noncomputable def tRet (te : TE) : TS := fun D σ H => te σ H D.rt
theorem ps_ret (he : PE X e te) : PS X (.Return (some e) pos) (tRet te) := by
 intro pins s σ H D I h
 exact wpAny_Return_some (thn (he pins s σ H _ I h) fun v s1 ⟨x, H1, I1, r1, q1⟩ => ⟨x, σ, H1, I1, r1, q1⟩)
noncomputable def tRetN : TS := fun D _ H => D.rt .non H
theorem ps_retN : PS X (.Return none pos) tRetN := fun _ _ σ H _ I h => wpAny_Return_none ⟨.non, σ, H, I, rfl, h⟩
noncomputable def tIfS (c : TT) (t u : TS) : TS := fun D σ H => c σ H fun b H1 => if b = true then t D σ H1 else u D σ H1
theorem ps_if {c : Expr} {a b : List Stmt} {tc : TT} (hc : PT X c tc) (ha : PSs X a t) (hb : PSs X b u) : PS X (.If c a b pos) (tIfS tc t u) := by
 intro pins s σ H D I h
 refine wpAny_If (thn (hc pins s σ H _ I h) fun d s1 ⟨H1, I1, q1⟩ => ?_)
 cases d with
 | true => exact ha pins s1 σ H1 D I1 q1
 | false => exact hb pins s1 σ H1 D I1 q1
end
noncomputable abbrev TG := V -> St -> Hp -> (St -> Hp -> Prop) -> Prop
noncomputable abbrev TGs := List V -> St -> Hp -> (St -> Hp -> Prop) -> Prop
noncomputable def PG (X : Cx) (target : Expr) (t : TG) : Prop :=
 ∀ (pins : List (Addr × Obj)) (s : Shared) (σ : St) (H : Hp) (v : V) (u : Value) (Q : St -> Hp -> Prop), Inv X pins σ H s -> RelV v u -> t v σ H Q ->
  wpAny (model X.prog X.w) X.A (assign target X.env u) (fun _ s' => ∃ σ' H', Inv X pins σ' H' s' /\ Q σ' H') X.xe s
noncomputable def PGs (X : Cx) (ts : List Expr) (t : TGs) : Prop :=
 ∀ (pins : List (Addr × Obj)) (s : Shared) (σ : St) (H : Hp) (vs : List V) (us : List Value) (Q : St -> Hp -> Prop), Inv X pins σ H s -> Vals vs us -> t vs σ H Q ->
  wpAny (model X.prog X.w) X.A (assignInOrder ((assignEach ts X.env).map (·.2)) us) (fun _ s' => ∃ σ' H', Inv X pins σ' H' s' /\ Q σ' H') X.xe s
noncomputable abbrev TSet := V -> V -> V -> Hp -> (Hp -> Prop) -> Prop
noncomputable def PSet (X : Cx) (t : TSet) : Prop :=
 ∀ (pins : List (Addr × Obj)) (s : Shared) (σ : St) (H : Hp) (o i v : V) (ov iv u : Value) (Q : Hp -> Prop), Inv X pins σ H s -> RelV o ov -> RelV i iv -> RelV v u -> t o i v H Q ->
  wpAny (model X.prog X.w) X.A (setItem ov iv u) (fun _ s' => ∃ H', Inv X pins σ H' s' /\ Q H') X.xe s
section
variable {X : Cx} {pos : Pos}
noncomputable def gName (i : Nat) : TG := fun v σ H Q => Q (σ.set i (some v)) H
theorem pg_name {i : Nat} {x : Str} (hN : X.N.Nodup) (hi : X.N[i]? = some x) (hx : Loc X.env.scope x) (hf : X.fn x = true \/ X.env.scope.names.lookup x = some .local := by first | exact .inl rfl | exact .inr rfl | assumption) : PG X (.Name x pos) (gName i) := by
 intro pins s σ H v u Q I r h
 exact wpAny_assign_Name (store_ok I hN hi hx r (fun s' I' => ⟨_, H, I', h⟩) hf)
noncomputable def gNil : TGs := fun vs σ H Q => vs = [] /\ Q σ H
noncomputable def gCons (t : TG) (u : TGs) : TGs := fun vs σ H Q => ∃ v r, vs = v :: r /\ t v σ H fun σ' H' => u r σ' H' Q
theorem pgs_nil : PGs X [] gNil := by
 intro pins s σ H vs us Q I r h
 obtain ⟨e, h⟩ := h
 subst e
 cases r
 exact assignInOrder_nil ⟨σ, H, I, h⟩
theorem pgs_cons {e : Expr} {es : List Expr} {t : TG} {u : TGs} (h1 : PG X e t) (h2 : PGs X es u)
  (hs : (assignEach (e :: es) X.env).map (·.2) = assign e X.env :: (assignEach es X.env).map (·.2) := by rfl) : PGs X (e :: es) (gCons t u) := by
 intro pins s σ H vs us Q I r h
 obtain ⟨v, vr, e1, h⟩ := h
 subst e1
 cases r with
 | cons r rr =>
  rw [hs]
  refine assignInOrder_cons (thn (h1 pins s σ H _ _ _ I r h) fun _ s1 ⟨σ1, H1, I1, q1⟩ => ?_)
  exact h2 pins s1 σ1 H1 _ _ Q I1 rr q1
noncomputable def gTup (K : PySem.W.Frag) (n : Nat) (t : TGs) : TG := fun v σ H Q => ∃ a xs, v = .ref a /\ SqT K H a xs /\ xs.length = n /\ t xs σ H Q
theorem pg_tup {es : List Expr} {k : Nat} {t : TGs} {n : Nat} (hc : X.calm = true) (h : PGs X es t)
  (hn : (assignEach es X.env).length = n := by rfl) (hst : (assignEach es X.env).findIdx? (·.1) = none := by rfl) : PG X (.Tuple es k pos) (gTup X.K n t) := by
 intro pins s σ H v u Q I r hw
 obtain ⟨a, xs, e1, hq, hl, hw⟩ := hw
 subst e1
 cases r
 obtain ⟨its, rv, ht, hz⟩ := I.tuple hq
 refine assign_Tuple_tuple (I.ok.hd hc) ht (by simp [hn, <- hl, rv.length]) hst fun h' hx => ?_
 have I1 : Inv X pins σ H { s with heap := h' } := I.kept (t' := s.toks) fun b o e => hx b o (Nat.ne_of_lt (Heap.lt_size e)) e
 exact h pins _ σ H xs _ Q I1 (by simpa using rv) hw
noncomputable def gSub (to ti : TE) (t : TSet) : TG := fun v σ H Q => to σ H fun o H1 => ti σ H1 fun i H2 => t o i v H2 fun H3 => Q σ H3
theorem pg_sub {o i : Expr} {to ti : TE} {t : TSet} (ho : PE X o to) (hi : PE X i ti) (hs : PSet X t)
  (ha : ∀ v, assign (.Subscript o i pos) X.env v = (do
   let ov <- holding [v] (eval o X.env)
   let iv <- holding [v, ov] (eval i X.env)
   standAt pos
   holding [v, ov, iv] (setItem ov iv v)
   release [v, ov, iv] []) := by intro _; rfl) : PG X (.Subscript o i pos) (gSub to ti t) := by
 intro pins s σ H v u Q I r h
 rw [ha]
 refine wpAny_bind (wpAny_holding (thn (ho pins s σ H _ I h) fun ov s1 ⟨x, H1, I1, r1, q1⟩ => ?_))
 refine wpAny_bind (wpAny_holding (thn (hi pins s1 σ H1 _ I1 q1) fun iv s2 ⟨y, H2, I2, r2, q2⟩ => ?_))
 refine wpAny_bind (wpAny_standAt (wpAny_bind (wpAny_holding (thn (hs pins s2 σ H2 x y v ov iv u _ I2 r1 r2 r q2) fun _ s3 ⟨H3, I3, q3⟩ => ?_))))
 exact wpAny_release ⟨σ, H3, I3, q3⟩
noncomputable def tAsg (te : TE) (g : TG) : TS := fun D σ H => te σ H fun x H1 => g x σ H1 D.nx
theorem ps_asg {tg e : Expr} {te : TE} {g : TG} (he : PE X e te) (hg : PG X tg g) (hs : swapsWithSole [tg] e pos.line X.env = pure false := by rfl) (hw : swappedStores [tg] e X.env = pure none := by rfl)
  (h1 : (assignEach [tg] X.env).map (·.2) = [assign tg X.env] := by rfl) : PS X (.Assign [tg] e pos) (tAsg te g) := by
 intro pins s σ H D I h
 refine wpAny_Assign_stores (thn (he pins s σ H _ I h) fun v s1 ⟨x, H1, I1, r1, q1⟩ => ?_) hs hw
 rw [h1]
 exact thn (hg pins s1 σ H1 x v _ I1 r1 q1) fun _ s2 q => q
end
structure It where
 go : Nat -> Hp -> Prop
 yld : Nat -> Hp -> V -> Hp -> Prop
 stop : Nat -> Hp -> Prop
noncomputable def FpOk (X : Cx) (pins : List (Addr × Obj)) (H : Hp) (b : Addr) : Prop :=
 H b = none /\ b ≠ X.env.locals /\ b ∉ X.fs /\ (b ∈ X.ex \/ X.s₀.heap.objs.size <= b) /\ (∀ x c, X.env.cells.lookup x = some c -> c ≠ b) /\ ∀ p ∈ X.pn ++ pins, p.1 ≠ b
theorem Inv.fpOk {X : Cx} {pins : List (Addr × Obj)} {σ : St} {H H' : Hp} {s : Shared} {b : Addr} (I : Inv X pins σ H s) (hb : s.heap.objs.size <= b) (hn : H' b = none) : FpOk X pins H' b := by
 refine ⟨hn, Nat.ne_of_gt (Nat.lt_of_lt_of_le I.lt hb), I.nofs hb, .inr (Nat.le_trans I.sz hb), fun x c e z => ?_, fun p hp z => ?_⟩
 ·obtain ⟨v, q⟩ := I.cell x c e
  exact absurd (Nat.lt_of_lt_of_le q.lt (by rw [z]; exact hb)) (Nat.lt_irrefl _)
 ·exact absurd (Nat.lt_of_lt_of_le (Heap.lt_size (I.pin p hp).1) (by rw [z]; exact hb)) (Nat.lt_irrefl _)
structure Turn (P : Program) (w : World) (K : PySem.W.Frag) (tg : Expr) (J : It) (fp : List Addr) (it : Addr) (tn : Nat -> Heap -> Prop) : Prop where
 mem : it ∈ fp
 obj : ∀ i h, tn i h -> ∀ b ∈ fp, ∃ o, h.get? b = some o /\ ∀ v, o.data ≠ .cell v
 keep : ∀ i h h', tn i h -> (∀ b ∈ fp, ∀ o, h.get? b = some o -> h'.get? b = some o) -> tn i h'
 item : ∀ (X : Cx), X.prog = P -> X.w = w -> X.K = K -> X.calm = true -> ∀ (i : Nat) (pins : List (Addr × Obj)) (s : Shared) (σ : St) (H : Hp) (E : Value -> Shared -> Prop), Inv X pins σ H s -> (∀ b ∈ fp, FpOk X pins H b) -> tn i s.heap -> J.go i H ->
  wpAny (model P w) X.A (pyNext (.ref it)) (fun r s1 => ∃ u, r = some u /\
   wpAny (model P w) X.A (letOwnedTupleGo tg (.ref it) u) (fun _ s2 => ∃ x H', Inv X pins σ H' s2 /\ RelV x u /\ J.yld i H x H' /\ tn (i + 1) s2.heap /\ ∀ b ∈ fp, H' b = none) E s1) E s
 done : ∀ (X : Cx), X.prog = P -> X.w = w -> X.K = K -> X.calm = true -> ∀ (i : Nat) (pins : List (Addr × Obj)) (s : Shared) (σ : St) (H : Hp) (E : Value -> Shared -> Prop), Inv X pins σ H s -> (∀ b ∈ fp, FpOk X pins H b) -> tn i s.heap -> J.stop i H ->
  wpAny (model P w) X.A (pyNext (.ref it)) (fun r s1 => r = none /\ Inv X pins σ H s1) E s
 self : ∀ (A : Around) (i : Nat) (s : Shared) (Q : Value -> Shared -> Prop) (E : Value -> Shared -> Prop), tn i s.heap -> Q (.ref it) s -> wpAny (model P w) A (pyIter (.ref it)) Q E s
noncomputable abbrev TI := St -> Hp -> (It -> Hp -> Prop) -> Prop
noncomputable def PIE (X : Cx) (pins : List (Addr × Obj)) (σ : St) (tg : Expr) (R : It -> Hp -> Prop) (itv : Value) (s2 : Shared) : Prop :=
 ∃ (it : Addr) (fp : List Addr) (tn : Nat -> Heap -> Prop) (J : It) (H' : Hp), itv = .ref it /\ Inv X pins σ H' s2 /\ Turn X.prog X.w X.K tg J fp it tn /\ tn 0 s2.heap /\ (∀ b ∈ fp, FpOk X pins H' b) /\ R J H'
noncomputable def PI (X : Cx) (tg iter : Expr) (wi : TI) : Prop :=
 ∀ (pins : List (Addr × Obj)) (s : Shared) (σ : St) (H : Hp) (R : It -> Hp -> Prop), Inv X pins σ H s -> wi σ H R ->
  wpAny (model X.prog X.w) X.A (eval iter X.env) (fun v s1 => wpAny (model X.prog X.w) X.A (pyIter v) (PIE X pins σ tg R) X.xe s1) X.xe s
theorem go_of {M : Model} {A : Around} {E : Value -> Shared -> Prop} {s : Shared} {tg : Expr} {it : Addr} {u : Value} {o : Obj} {n : String} {vs : Array Value} {Q : Unit -> Shared -> Prop} (ho : s.heap.get? it = some o) (hc : o.cls = .type n) (hd : o.data = .fields vs)
    (hn : ["enumerate", "zip", "dict_itemiterator", "dict_reverseitemiterator", "odict_iterator", "itertools.zip_longest", "itertools.pairwise"].contains n = false) (hQ : Q () s) : wpAny M A (letOwnedTupleGo tg (.ref it) u) Q E s := by
  unfold letOwnedTupleGo
  cases tg <;> first
    | exact wpAny_pure hQ
    | (cases u <;> first
        | exact wpAny_pure hQ
        | (refine wpAny_bind (wpAny_load ho ?_)
           rw [hc, hd]
           show wpAny M A (if (["enumerate", "zip", "dict_itemiterator", "dict_reverseitemiterator", "odict_iterator", "itertools.zip_longest", "itertools.pairwise"].contains n && vs[0]? == some (rawInt _)) = true then _ else _) Q E s
           rw [if_neg (by intro h; rw [hn, Bool.false_and] at h; cases h)]
           exact wpAny_pure hQ))
noncomputable def Itl (K : PySem.W.Frag) (a : Addr) : It :=
 ⟨fun i H => ∃ xs x, SqL K H a xs /\ xs[i]? = some x, fun i H x H' => H' = H /\ ∀ xs, SqL K H a xs -> xs[i]? = some x, fun i H => ∃ xs, SqL K H a xs /\ xs.length <= i⟩
noncomputable def Itt (K : PySem.W.Frag) (a : Addr) : It :=
 ⟨fun i H => ∃ xs x, SqT K H a xs /\ xs[i]? = some x, fun i H x H' => H' = H /\ ∀ xs, SqT K H a xs -> xs[i]? = some x, fun i H => ∃ xs, SqT K H a xs /\ xs.length <= i⟩
noncomputable def Itr (lo : Int) (n : Nat) : It := ⟨fun i _ => i < n, fun i H x H' => H' = H /\ x = .int (lo + i), fun i _ => n <= i⟩
theorem turn_list {P : Program} {w : World} {K : PySem.W.Frag} {tg : Expr} (a it : Addr) : Turn P w K tg (Itl K a) [it] it (fun i h => h.IsListIter it a i) where
 mem := by simp
 obj := fun i h st b hb => by
  have e : b = it := by simpa using hb
  subst e
  obtain ⟨o, e, c, d⟩ := st
  exact ⟨o, e, fun v z => by rw [d] at z; cases z⟩
 keep := fun i h h' st k => st.at fun o e => k it (by simp) o e
 item := by
  intro X hP hw hK hc i pins s σ H E I hf st hg
  subst hP hw hK
  obtain ⟨xs, x, hq, hx⟩ := hg
  obtain ⟨its, rv, p, hz⟩ := I.list hq
  obtain ⟨u, hu, ru⟩ := rv.get hx
  obtain ⟨f0, f1, f2, f3, f4, f5⟩ := hf it (by simp)
  refine wpAny_pyNext_list_item st p.isList (x := u) (by simpa using hu) fun h' st' sb => ?_
  have I1 : Inv X pins σ H { s with heap := h' } := I.turned (t' := s.toks) (fun b o hb e => (sb.2 b hb).trans e) f0 f1 f3 f4 f5
  obtain ⟨o, e, c, d⟩ := id st'
  exact ⟨u, rfl, go_of (s := { s with heap := h' }) e c d (by decide) ⟨x, H, I1, ru, ⟨rfl, fun ys hy => by rw [I.list_inj hy hq]; exact hx⟩, st', fun b hb => (hf b hb).1⟩⟩
 done := by
  intro X hP hw hK hc i pins s σ H E I hf st hg
  subst hP hw hK
  obtain ⟨xs, hq, hx⟩ := hg
  obtain ⟨its, rv, p, hz⟩ := I.list hq
  obtain ⟨f0, f1, f2, f3, f4, f5⟩ := hf it (by simp)
  have hl := rv.length
  exact wpAny_pyNext_list_end (I.ok.hd hc) st p.isList (by simp; omega) fun h' eb => ⟨rfl, I.turned (t' := s.toks) (fun b o hb e => eb b o hb e) f0 f1 f3 f4 f5⟩
 self := fun _ _ _ _ _ st h => wpAny_pyIter_listiter st h
theorem turn_tuple {P : Program} {w : World} {K : PySem.W.Frag} {tg : Expr} (a it : Addr) : Turn P w K tg (Itt K a) [it] it (fun i h => h.IsTupleIter it a i) where
 mem := by simp
 obj := fun i h st b hb => by
  have e : b = it := by simpa using hb
  subst e
  obtain ⟨o, e, c, d⟩ := st
  exact ⟨o, e, fun v z => by rw [d] at z; cases z⟩
 keep := fun i h h' st k => st.at fun o e => k it (by simp) o e
 item := by
  intro X hP hw hK hc i pins s σ H E I hf st hg
  subst hP hw hK
  obtain ⟨xs, x, hq, hx⟩ := hg
  obtain ⟨its, rv, p, hz⟩ := I.tuple hq
  obtain ⟨u, hu, ru⟩ := rv.get hx
  obtain ⟨f0, f1, f2, f3, f4, f5⟩ := hf it (by simp)
  refine wpAny_pyNext_tuple_item st (show s.heap.IsTuple a its.toArray from p) (x := u) (by simpa using hu) fun h' st' sb => ?_
  have I1 : Inv X pins σ H { s with heap := h' } := I.turned (t' := s.toks) (fun b o hb e => (sb.2 b hb).trans e) f0 f1 f3 f4 f5
  obtain ⟨o, e, c, d⟩ := id st'
  exact ⟨u, rfl, go_of (s := { s with heap := h' }) e c d (by decide) ⟨x, H, I1, ru, ⟨rfl, fun ys hy => by rw [I.tuple_inj hy hq]; exact hx⟩, st', fun b hb => (hf b hb).1⟩⟩
 done := by
  intro X hP hw hK hc i pins s σ H E I hf st hg
  subst hP hw hK
  obtain ⟨xs, hq, hx⟩ := hg
  obtain ⟨its, rv, p, hz⟩ := I.tuple hq
  obtain ⟨f0, f1, f2, f3, f4, f5⟩ := hf it (by simp)
  have hl := rv.length
  exact wpAny_pyNext_tuple_end (I.ok.hd hc) st (show s.heap.IsTuple a its.toArray from p) (by simp; omega) fun h' eb => ⟨rfl, I.turned (t' := s.toks) (fun b o hb e => eb b o hb e) f0 f1 f3 f4 f5⟩
 self := fun _ _ _ _ _ st h => wpAny_pyIter_tupleiter st h
theorem turn_range {P : Program} {w : World} {K : PySem.W.Frag} {tg : Expr} (it : Addr) (lo : Int) (n : Nat) : Turn P w K tg (Itr lo n) [it] it (fun i h => IsRangeIter h it (lo + (i : Nat) * 1) ((n : Int) - (i : Nat)) 1) where
 mem := by simp
 obj := fun i h st b hb => by
  have e : b = it := by simpa using hb
  subst e
  exact ⟨_, st, fun v z => by
   have z' : Data.fields _ = Data.cell v := z
   cases z'⟩
 keep := fun i h h' st k => k it (by simp) _ st
 item := by
  intro X hP hw hK hc i pins s σ H E I hf st hg
  subst hP hw hK
  obtain ⟨f0, f1, f2, f3, f4, f5⟩ := hf it (by simp)
  have W := Walks.range (prog := X.prog) (w := X.w) (I.ok.hd hc) it lo 1 n
  refine W.item i s _ _ hg st fun v h' tk hv st' kk => ?_
  obtain ⟨t, rfl⟩ := hv
  have I1 : Inv X pins σ H { s with heap := h', toks := tk } := I.turned (fun b o hb e => kk b o (by simpa using hb) e) f0 f1 f3 f4 f5
  refine ⟨_, rfl, go_of (s := { s with heap := h', toks := tk }) (n := "range_iterator") st' rfl rfl (by decide) ⟨.int (lo + i), H, I1, ⟨t, ?_⟩, ⟨rfl, rfl⟩, st', fun b hb => (hf b hb).1⟩⟩
  rw [Int.mul_one]
 done := by
  intro X hP hw hK hc i pins s σ H E I hf st hg
  subst hP hw hK
  obtain ⟨f0, f1, f2, f3, f4, f5⟩ := hf it (by simp)
  exact wpAny_pyNext_range_end (I.ok.hd hc) st (by have : n <= i := hg; omega) fun h' eb => ⟨rfl, I.turned (t' := s.toks) (fun b o hb e => eb b o hb e) f0 f1 f3 f4 f5⟩
 self := fun _ _ _ _ _ st h => wpAny_pyIter_rangeiter st h
end L2
namespace L2
open PySem PySem.Spec PyProof.Rows
section
variable {X : Cx} {tg : Expr}
theorem range_it {pins : List (Addr × Obj)} {σ : St} {H : Hp} {s : Shared} {R : It -> Hp -> Prop} {E : Value -> Shared -> Prop} {lo hi : Int} {t u v : Tok} {tk : Nat} (I : Inv X pins σ H s) (h1 : -(2 ^ 62) <= lo) (h2 : lo < 2 ^ 62) (h3 : -(2 ^ 62) <= hi) (h4 : hi < 2 ^ 62)
  (q : R (Itr lo (hi - lo).toNat) H) : wpAny (model X.prog X.w) X.A (pyIter (.ref s.heap.objs.size)) (PIE X pins σ tg R) E { s with heap := s.heap.push { cls := .type "range", data := .fields #[.int lo t, .int hi u, .int 1 v] }, toks := tk } := by
 refine wpAny_pyIter_range (IsRange.new ..) (small_one h1 h2 h3 h4) ?_
 have I1 : Inv X pins σ H { s with heap := s.heap.push { cls := .type "range", data := .fields #[.int lo t, .int hi u, .int 1 v] }, toks := tk } := I.kept fun b o e => Heap.get?_push_of_some _ e
 refine ⟨(s.heap.push { cls := .type "range", data := .fields #[.int lo t, .int hi u, .int 1 v] }).objs.size, [(s.heap.push { cls := .type "range", data := .fields #[.int lo t, .int hi u, .int 1 v] }).objs.size], _, _, H, rfl,
  I1.kept (t' := tk) fun b o e => Heap.get?_push_of_some _ e, turn_range _ lo (hi - lo).toNat, ?_, fun b hb => ?_, q⟩
 ·have e1 : lo + ((0 : Nat) : Int) * 1 = lo := by simp
  have e2 : (((hi - lo).toNat : Nat) : Int) - ((0 : Nat) : Int) = Builtin.Range.rangeSize lo hi 1 := by rw [rangeSize_one]; split <;> omega
  show IsRangeIter _ _ (lo + ((0 : Nat) : Int) * 1) ((((hi - lo).toNat : Nat) : Int) - ((0 : Nat) : Int)) 1
  rw [e1, e2]
  exact Heap.get?_push_size _ rfl
 ·have e : b = (s.heap.push { cls := .type "range", data := .fields #[.int lo t, .int hi u, .int 1 v] }).objs.size := by simpa using hb
  subst e
  exact I1.fpOk (Nat.le_refl _) (I1.hok.fresh (Nat.le_refl _))
noncomputable def iRng1 (ta : TA) : TI := fun σ H R => ta σ H fun vs H1 => ∃ j : Int, vs = [.int j] /\ -(2 ^ 62) <= j /\ j < 2 ^ 62 /\ R (Itr 0 j.toNat) H1
theorem pi_range1 {a : Expr} {ta : TA} {p pos : Pos} (hg : Gl X "range") (hm : X.mg "range" = none) (ha : PA X [a] ta) (hs : starEach [a] X.env = [(false, eval a X.env)] := by rfl) : PI X tg (.Call (.Name "range" p) [a] [] pos) (iRng1 ta) := by
 intro pins s σ H R I h
 refine Call_ (ld_blt I hg hm boot_range (PyProof.Rows.callWith_type1 (thn (ha pos pins s σ H _ I h) fun us s1 ⟨vs, H1, I1, r1, q1⟩ => ?_) hs rfl))
 obtain ⟨j, e, q1, q2, q⟩ := q1
 subst e
 cases r1 with
 | cons r rr =>
  cases rr
  obtain ⟨t, rfl⟩ := r
  exact call_range_1 (range_it I1 (by omega) (by omega) q1 q2 (by simpa using q))
noncomputable def tFor (wi : TI) (g : TG) (tb : TS) : TS := fun D σ H => wi σ H fun J H1 => ∃ W : Nat -> Nat -> St -> Hp -> Prop, (∃ m, W 0 m σ H1) /\ ∀ i m σ H, W i m σ H ->
 (J.stop i H /\ D.nx σ H) \/ (J.go i H /\ ∃ N : St -> Hp -> Prop, (∀ σ' H', N σ' H' -> ∃ m', m' < m /\ W (i + 1) m' σ' H') /\ ∀ x H', J.yld i H x H' -> g x σ H' fun σ2 H2 => tb { D with nx := N, ct := N, bk := D.nx } σ2 H2)
noncomputable def pinsAt (fp : List Addr) (h : Heap) : List (Addr × Obj) := fp.filterMap fun b => (h.get? b).map fun o => (b, o)
theorem mem_pinsAt {fp : List Addr} {h : Heap} {b : Addr} {o : Obj} (hb : b ∈ fp) (e : h.get? b = some o) : (b, o) ∈ pinsAt fp h := List.mem_filterMap.mpr ⟨b, hb, by rw [e]; rfl⟩
theorem of_pinsAt {fp : List Addr} {h : Heap} {p : Addr × Obj} (hp : p ∈ pinsAt fp h) : p.1 ∈ fp /\ h.get? p.1 = some p.2 := by
 obtain ⟨b, hb, e⟩ := List.mem_filterMap.mp hp
 cases q : h.get? b with
 | none => rw [q] at e; cases e
 | some o =>
  rw [q] at e
  have e' : (b, o) = p := Option.some.inj e
  subst e'
  exact ⟨hb, q⟩
theorem Inv.pinned {pins : List (Addr × Obj)} {σ : St} {H : Hp} {s : Shared} {fp : List Addr} (I : Inv X pins σ H s) (hf : ∀ b ∈ fp, FpOk X pins H b) (ho : ∀ b ∈ fp, ∃ o, s.heap.get? b = some o /\ ∀ v, o.data ≠ .cell v) : Inv X (pins ++ pinsAt fp s.heap) σ H s :=
 I.pins_of fun p hp => (List.mem_append.mp hp).elim (fun z => I.pin p (List.mem_append_right _ z)) fun z => by
  obtain ⟨hb, e⟩ := of_pinsAt z
  obtain ⟨f0, f1, f2, _⟩ := hf p.1 hb
  obtain ⟨o, e', d⟩ := ho p.1 hb
  rw [e] at e'; cases e'
  exact ⟨e, f0, f1, f2, d⟩
theorem Inv.unpinned {pins pl : List (Addr × Obj)} {σ : St} {H : Hp} {s : Shared} (I : Inv X (pins ++ pl) σ H s) : Inv X pins σ H s := I.pins_of fun p hp => I.pin p (List.mem_append_right _ (List.mem_append_left _ hp))
theorem ps_for {iter : Expr} {body : List Stmt} {wi : TI} {g : TG} {tb : TS} {pos : Pos} (hp : PassesOwn (model X.prog X.w) X.A X.env X.xe) (hc : X.calm = true) (hi : PI X tg iter wi) (hg : PG X tg g) (hb : PSs X body tb)
  (hs : ∀ x, foldedSetIterable iter X.env x = pure x := by intro _; rfl) : PS X (.For tg iter body [] pos) (tFor wi g tb) := by
 intro pins s σ H D I h
 refine wpAny_For (thn (hi pins s σ H _ I h) fun v s1 h1 => thn h1 fun itv s2 h2 => ?_) hs
 obtain ⟨it, fp, tn, J, H2, e, I2, T, st2, f2, W, ⟨m0, w0⟩, turn⟩ := h2
 subst e
 have stat : ∀ {H' : Hp}, (∀ b ∈ fp, H' b = none) -> ∀ b ∈ fp, FpOk X pins H' b := fun hn b hb => ⟨hn b hb, (f2 b hb).2⟩
 refine codeAny_forLoop_any (fun n s' => ∃ i σ' H', Inv X pins σ' H' s' /\ tn i s'.heap /\ (∀ b ∈ fp, H' b = none) /\ W i n σ' H') ?_ m0 ⟨0, σ, H2, I2, st2, fun b hb => (f2 b hb).1, w0⟩
 rintro n s3 ⟨i, σ3, H3, I3, st3, fr3, w3⟩
 rcases turn i n σ3 H3 w3 with ⟨stop, qn⟩ | ⟨go, N, hN, step⟩
 ·refine wpAny_passesOwn hp (thn (T.done X rfl rfl rfl hc i pins s3 σ3 H3 X.xe I3 (stat fr3) st3 stop) fun r s4 ⟨hr, I4⟩ => ?_)
  subst hr
  exact wpAny_execs_nil ⟨σ3, H3, I4, qn⟩
 ·refine wpAny_passesOwn hp (thn (T.item X rfl rfl rfl hc i pins s3 σ3 H3 X.xe I3 (stat fr3) st3 go) fun r s4 ⟨u, hr, h4⟩ => ?_)
  subst hr
  refine wpAny_passesOwn hp (thn h4 fun _ s5 ⟨x, H5, I5, r5, y5, st5, fr5⟩ => ?_)
  have I5' := I5.pinned (stat fr5) (T.obj _ _ st5)
  refine wpAny_passesOwn hp (thn (hg _ s5 σ3 H5 x u _ I5' r5 (step x H5 y5)) fun _ s6 ⟨σ6, H6, I6, q6⟩ => ?_)
  refine wpAny_passesOwn hp (thn (hb _ s6 σ6 H6 _ I6 q6) fun f s7 q7 => ?_)
  have again : ∀ {σ7 : St} {H7 : Hp}, Inv X (pins ++ pinsAt fp s5.heap) σ7 H7 s7 -> N σ7 H7 -> ∃ m, m < n /\ ∃ i σ' H', Inv X pins σ' H' s7 /\ tn i s7.heap /\ (∀ b ∈ fp, H' b = none) /\ W i m σ' H' := fun {σ7 H7} I7 n7 => by
   obtain ⟨m', hm, w7⟩ := hN σ7 H7 n7
   refine ⟨m', hm, i + 1, σ7, H7, I7.unpinned, T.keep _ _ _ st5 fun b hb o e => (I7.pin (b, o) (List.mem_append_right _ (List.mem_append_right _ (mem_pinsAt hb e)))).1, fun b hb => ?_, w7⟩
   obtain ⟨o, e, d⟩ := T.obj _ _ st5 b hb
   exact (I7.pin (b, o) (List.mem_append_right _ (List.mem_append_right _ (mem_pinsAt hb e)))).2.1
  cases f with
  | next => obtain ⟨σ7, H7, I7, n7⟩ := q7; exact again I7 n7
  | cont => obtain ⟨σ7, H7, I7, n7⟩ := q7; exact again I7 n7
  | brk => obtain ⟨σ7, H7, I7, q7⟩ := q7; exact ⟨σ7, H7, I7.unpinned, q7⟩
  | ret v => obtain ⟨x7, σ7, H7, I7, r7, q7⟩ := q7; exact ⟨x7, σ7, H7, I7.unpinned, r7, q7⟩
end
end L2
namespace L2
open PySem PySem.Spec PyProof.Rows
noncomputable abbrev R2 := V -> V -> Hp -> VK -> Prop
noncomputable def OpR (X : Cx) (f : Value -> Value -> Sem Value) (r : R2) : Prop :=
 ∀ (pins : List (Addr × Obj)) (s : Shared) (σ : St) (H : Hp) (x y : V) (v u : Value) (Q : VK), Inv X pins σ H s -> RelV x v -> RelV y u -> r x y H Q ->
  wpAny (model X.prog X.w) X.A (f v u) (EP X pins σ Q) X.xe s
noncomputable def UnR (X : Cx) (f : Value -> Sem Value) (r : V -> Hp -> VK -> Prop) : Prop :=
 ∀ (pins : List (Addr × Obj)) (s : Shared) (σ : St) (H : Hp) (x : V) (v : Value) (Q : VK), Inv X pins σ H s -> RelV x v -> r x H Q ->
  wpAny (model X.prog X.w) X.A (f v) (EP X pins σ Q) X.xe s
noncomputable def CallR (X : Cx) (f : Value) (r : List V -> Hp -> VK -> Prop) : Prop :=
 ∀ (pins : List (Addr × Obj)) (s : Shared) (σ : St) (H : Hp) (xs : List V) (us : List Value) (Q : VK), Inv X pins σ H s -> Vals xs us -> r xs H Q ->
  wpAny (model X.prog X.w) X.A (call f us) (EP X pins σ Q) X.xe s
noncomputable def tOp (r : R2) (ta tb : TE) : TE := fun σ H Q => ta σ H fun x H1 => tb σ H1 fun y H2 => r x y H2 Q
noncomputable def tUn (r : V -> Hp -> VK -> Prop) (ta : TE) : TE := fun σ H Q => ta σ H fun x H1 => r x H1 Q
noncomputable def rI (C : Int -> Int -> Prop) (g : Int -> Int -> V) : R2 := fun x y H Q => ∃ i j, x = .int i /\ y = .int j /\ C i j /\ Q (g i j) H
noncomputable def rI0 (g : Int -> Int -> V) : R2 := fun x y H Q => ∃ i j, x = .int i /\ y = .int j /\ Q (g i j) H
noncomputable def rU (g : Int -> V) : V -> Hp -> VK -> Prop := fun x H Q => ∃ i, x = .int i /\ Q (g i) H
section
variable {X : Cx} {a b c : Expr} {ta tb tc : TE} {pos : Pos}
theorem binT (ha : PE X a ta) (hb : PE X b tb) {pins : List (Addr × Obj)} {s : Shared} {σ : St} {H : Hp} {R : V -> V -> Hp -> Prop} (I : Inv X pins σ H s)
  (h : ta σ H fun x H1 => tb σ H1 fun y H2 => R x y H2) {Q : Value -> Shared -> Prop} {f : Value -> Value -> Sem Value}
  (hf : ∀ v u s2 x y H2, Inv X pins σ H2 s2 -> RelV x v -> RelV y u -> R x y H2 -> wpAny (model X.prog X.w) X.A (f v u) Q X.xe s2) :
  wpAny (model X.prog X.w) X.A (eval a X.env) (fun v s₁ => wpAny (model X.prog X.w) X.A (eval b X.env) (fun u s₂ => wpAny (model X.prog X.w) X.A (f v u) Q X.xe s₂) X.xe s₁) X.xe s := by
 refine thn (ha pins s σ H _ I h) fun v s1 ⟨x, H1, I1, r1, q1⟩ => ?_
 refine thn (hb pins s1 σ H1 _ I1 q1) fun u s2 ⟨y, H2, I2, r2, q2⟩ => ?_
 exact hf v u s2 x y H2 I2 r1 r2 q2
theorem pe_op {op : Operator} {r : R2} (ho : OpR X (binaryOp op) r) (ha : PE X a ta) (hb : PE X b tb) : PE X (.BinOp a op b pos) (tOp r ta tb) := by
 intro pins s σ H Q I h
 exact wpAny_BinOp (binT ha hb I h fun v u s2 x y H2 I2 rx ry q => ho pins s2 σ H2 x y v u Q I2 rx ry q)
theorem pe_un {op : UnaryOp} {r : V -> Hp -> VK -> Prop} (ho : UnR X (unaryOp op) r) (ha : PE X a ta) : PE X (.UnaryOp op a pos) (tUn r ta) := by
 intro pins s σ H Q I h
 exact UnaryOp_ (thn (ha pins s σ H _ I h) fun v s1 ⟨x, H1, I1, r1, q1⟩ => ho pins s1 σ H1 x v Q I1 r1 q1)
theorem opI {f : Value -> Value -> Sem Value} {C : Int -> Int -> Prop} {g : Int -> Int -> Int}
  (rule : ∀ (i j : Int) (t u : Tok) (s : Shared) (Q : Value -> Shared -> Prop) (E : Value -> Shared -> Prop), C i j -> Q (.int (g i j) s.toks) { s with toks := s.toks + 1 } -> wpAny (model X.prog X.w) X.A (f (.int i t) (.int j u)) Q E s) :
  OpR X f (rI C fun i j => .int (g i j)) := by
 intro pins s σ H x y v u Q I rx ry h
 obtain ⟨i, j, rfl, rfl, hc, q⟩ := h
 obtain ⟨t, rfl⟩ := rx
 obtain ⟨t', rfl⟩ := ry
 exact rule i j t t' s _ _ hc ⟨.int (g i j), H, I.tok _, ⟨_, rfl⟩, q⟩
theorem opI0 {f : Value -> Value -> Sem Value} {g : Int -> Int -> Int}
  (rule : ∀ (i j : Int) (t u : Tok) (s : Shared) (Q : Value -> Shared -> Prop) (E : Value -> Shared -> Prop), Q (.int (g i j) s.toks) { s with toks := s.toks + 1 } -> wpAny (model X.prog X.w) X.A (f (.int i t) (.int j u)) Q E s) :
  OpR X f (rI0 fun i j => .int (g i j)) := by
 intro pins s σ H x y v u Q I rx ry h
 obtain ⟨i, j, rfl, rfl, q⟩ := h
 obtain ⟨t, rfl⟩ := rx
 obtain ⟨t', rfl⟩ := ry
 exact rule i j t t' s _ _ ⟨.int (g i j), H, I.tok _, ⟨_, rfl⟩, q⟩
theorem opB0 {f : Value -> Value -> Sem Value} {g : Int -> Int -> Bool}
  (rule : ∀ (i j : Int) (t u : Tok) (s : Shared) (Q : Value -> Shared -> Prop) (E : Value -> Shared -> Prop), Q (.bool (g i j)) s -> wpAny (model X.prog X.w) X.A (f (.int i t) (.int j u)) Q E s) :
  OpR X f (rI0 fun i j => .bl (g i j)) := by
 intro pins s σ H x y v u Q I rx ry h
 obtain ⟨i, j, rfl, rfl, q⟩ := h
 obtain ⟨t, rfl⟩ := rx
 obtain ⟨t', rfl⟩ := ry
 exact rule i j t t' s _ _ ⟨.bl (g i j), H, I, rfl, q⟩
noncomputable def CPow (i j : Int) : Prop := 0 <= j /\ j <= 1000000 /\ i.natAbs < 2 ^ 64
noncomputable def CMul (i j : Int) : Prop := (-(2 ^ 64) < i /\ i < 2 ^ 64) \/ (-(2 ^ 64) < j /\ j < 2 ^ 64)
theorem CMul.ok {i j : Int} (h : CMul i j) : IntMulOk i j := by
 rcases h with ⟨h1, h2⟩ | ⟨h1, h2⟩
 ·exact .of_left (intBits_le_64 h1 h2)
 ·exact .of_right (intBits_le_64 h1 h2)
theorem op_add : OpR X (binaryOp .Add) (rI0 fun i j => .int (i + j)) := opI0 fun _ _ _ _ _ _ _ q => add_int q
theorem op_sub : OpR X (binaryOp .Sub) (rI0 fun i j => .int (i - j)) := opI0 fun _ _ _ _ _ _ _ q => sub_int q
theorem op_mul : OpR X (binaryOp .Mult) (rI CMul fun i j => .int (i * j)) := opI fun _ _ _ _ _ _ _ hc q => mul_int q hc.ok
theorem op_mod : OpR X (binaryOp .Mod) (rI (fun _ j => 0 < j) fun i j => .int (i % j)) := opI fun i j _ _ _ _ _ hc q => by
 have h1 : (0 : Int) < j := hc
 exact mod_int' (by omega) (by rw [Int.fmod_eq_emod_of_nonneg i (by omega)]; exact q)
theorem op_pow : OpR X (binaryOp .Pow) (rI CPow fun i j => .int (i ^ j.toNat)) := opI fun _ _ _ _ _ _ _ hc q => pow_int_small hc.1 hc.2.1 hc.2.2 q
theorem unI {f : Value -> Sem Value} {g : Int -> Int}
  (rule : ∀ (i : Int) (t : Tok) (s : Shared) (Q : Value -> Shared -> Prop) (E : Value -> Shared -> Prop), Q (.int (g i) s.toks) { s with toks := s.toks + 1 } -> wpAny (model X.prog X.w) X.A (f (.int i t)) Q E s) :
  UnR X f (rU fun i => .int (g i)) := by
 intro pins s σ H x v Q I rx h
 obtain ⟨i, rfl, q⟩ := h
 obtain ⟨t, rfl⟩ := rx
 exact rule i t s _ _ ⟨.int (g i), H, I.tok _, ⟨_, rfl⟩, q⟩
theorem un_neg : UnR X (unaryOp .USub) (rU fun i => .int (-i)) := unI fun _ _ _ _ _ q => neg_int q
end
section
variable {X : Cx} {a b c : Expr} {ta tb tc : TE} {pos : Pos}
theorem fin_bl {pins : List (Addr × Obj)} {σ : St} {H : Hp} {s : Shared} {Q : VK} {k k' : Bool} (I : Inv X pins σ H s) (q : Q (.bl k) H) (e : k = k') : EP X pins σ Q (.bool k') s := by
 subst e
 exact ⟨.bl k, H, I, rfl, q⟩
theorem op_lt : OpR X (compareOp .Lt) (rI0 fun i j => .bl (decide (i < j))) := opB0 fun _ _ _ _ _ _ _ q => lt_int q
theorem op_le : OpR X (compareOp .LtE) (rI0 fun i j => .bl (decide (i <= j))) := opB0 fun _ _ _ _ _ _ _ q => le_int q
theorem op_gt : OpR X (compareOp .Gt) (rI0 fun i j => .bl (decide (j < i))) := opB0 fun _ _ _ _ _ _ _ q => gt_int q
theorem op_ge : OpR X (compareOp .GtE) (rI0 fun i j => .bl (decide (j <= i))) := opB0 fun _ _ _ _ _ _ _ q => ge_int q
theorem op_in_str : OpR X (compareOp .In) (fun x y H Q => ∃ i j, x = .str i /\ y = .str j /\ Q (.bl (!(Builtin.Str.occurrences j i 0 j.length 1).isEmpty)) H) := by
 intro pins s σ H x y v u Q I rx ry h
 obtain ⟨i, j, rfl, rfl, q⟩ := h
 obtain ⟨t, rfl⟩ := rx
 obtain ⟨t', rfl⟩ := ry
 exact in_str (fin_bl I q rfl)
theorem op_isN : OpR X (compareOp .Is) (fun x y H Q => y = .non /\ Q (.bl (decide (x = .non))) H) := by
 intro pins s σ H x y v u Q I rx ry h
 obtain ⟨rfl, q⟩ := h
 cases ry
 refine is_none_gen (fin_bl I q ?_)
 cases x <;> first
  | (cases rx; rfl)
  | (obtain ⟨t, rfl⟩ := rx; rfl)
theorem op_notN : OpR X (compareOp .IsNot) (fun x y H Q => y = .non /\ Q (.bl (!decide (x = .non))) H) := by
 intro pins s σ H x y v u Q I rx ry h
 obtain ⟨rfl, q⟩ := h
 cases ry
 refine isnot_none_gen (fin_bl I q ?_)
 cases x <;> first
  | (cases rx; rfl)
  | (obtain ⟨t, rfl⟩ := rx; rfl)
theorem OpR.or {f : Value -> Value -> Sem Value} {r r' : R2} (h : OpR X f r) (h' : OpR X f r') : OpR X f (fun x y H Q => r x y H Q \/ r' x y H Q) := by
 intro pins s σ H x y v u Q I rx ry q
 rcases q with q | q
 ·exact h pins s σ H x y v u Q I rx ry q
 ·exact h' pins s σ H x y v u Q I rx ry q
theorem pe_cmpR {op : CmpOp} {r : R2} (ho : OpR X (compareOp op) r) (ha : PE X a ta) (hb : PE X b tb) (hm : behindInMarks op b = false) : PE X (.Compare a [op] [b] pos) (tOp r ta tb) := by
 intro pins s σ H Q I h
 exact wpAny_Compare1 (binT ha hb I h fun v u s2 x y H2 I2 rx ry q => ho pins s2 σ H2 x y v u Q I2 rx ry q) hm
noncomputable def tTest (t : TE) : TT := fun σ H Q => t σ H fun x H' => ∃ k, x = .bl k /\ Q k H'
theorem pt_cmpR {op : CmpOp} {r : R2} (ho : OpR X (compareOp op) r) (ha : PE X a ta) (hb : PE X b tb) (hm : behindInMarks op b = false) : PT X (.Compare a [op] [b] pos) (tTest (tOp r ta tb)) := by
 intro pins s σ H Q I h
 refine wpAny_isTrue_Compare1 (thn (ha pins s σ H _ I h) fun v s1 ⟨x, H1, I1, r1, q1⟩ => thn (hb pins s1 σ H1 _ I1 q1) fun u s2 ⟨y, H2, I2, r2, q2⟩ =>
  thn (ho pins s2 σ H2 x y v u _ I2 r1 r2 q2) fun c s3 ⟨z, H3, I3, r3, k, e, q3⟩ => ?_) hm
 subst e
 cases r3
 exact wpAny_truthy_bool ⟨H3, I3, q3⟩
theorem line63 : (sizeLine : Nat) < 2 ^ 63 := by rw [sizeLine_eq]; decide
theorem op_add_str : OpR X (binaryOp .Add) (fun x y H Q => ∃ i j, x = .str i /\ y = .str j /\ i.length + j.length <= sizeLine /\ Q (.str (i ++ j)) H) := by
 intro pins s σ H x y v u Q I rx ry h
 obtain ⟨i, j, rfl, rfl, hz, q⟩ := h
 obtain ⟨t, rfl⟩ := rx
 obtain ⟨t', rfl⟩ := ry
 exact add_str (fun t' tk => ⟨.str (i ++ j), H, I.tok _, ⟨_, rfl⟩, q⟩) hz
theorem vals1 {x : V} {us : List Value} (r : Vals [x] us) : ∃ u, us = [u] /\ RelV x u := by
 cases r with
 | cons r1 r2 => cases r2; exact ⟨_, rfl, r1⟩
theorem vals2 {x y : V} {us : List Value} (r : Vals [x, y] us) : ∃ u w', us = [u, w'] /\ RelV x u /\ RelV y w' := by
 cases r with
 | cons r1 r2 =>
  cases r2 with
  | cons r3 r4 => cases r4; exact ⟨_, _, rfl, r1, r3⟩
theorem call_abs : CallR X (.builtin "abs") (fun xs H Q => ∃ i, xs = [.int i] /\ Q (.int (if i < 0 then -i else i)) H) := by
 intro pins s σ H xs us Q I r h
 obtain ⟨i, rfl, q⟩ := h
 obtain ⟨u, rfl, t, rfl⟩ := vals1 r
 exact call_abs_int fun u tk => ⟨.int (if i < 0 then -i else i), H, I.tok _, ⟨_, rfl⟩, q⟩
theorem call_max2 (hc : X.calm = true) : CallR X (.builtin "max") (fun xs H Q => ∃ i j, xs = [.int i, .int j] /\ Q (.int (if j > i then j else i)) H) := by
 intro pins s σ H xs us Q I r h
 obtain ⟨i, j, rfl, q⟩ := h
 obtain ⟨u, w', rfl, ⟨t, rfl⟩, ⟨t', rfl⟩⟩ := vals2 r
 refine max_two_ints (I.ok.hd hc) fun h' tk k => ⟨_, H, I.kept k, ?_, q⟩
 by_cases hj : j > i
 ·rw [if_pos hj, if_pos hj]; exact ⟨_, rfl⟩
 ·rw [if_neg hj, if_neg hj]; exact ⟨_, rfl⟩
theorem call_min2 (hc : X.calm = true) : CallR X (.builtin "min") (fun xs H Q => ∃ i j, xs = [.int i, .int j] /\ Q (.int (if j < i then j else i)) H) := by
 intro pins s σ H xs us Q I r h
 obtain ⟨i, j, rfl, q⟩ := h
 obtain ⟨u, w', rfl, ⟨t, rfl⟩, ⟨t', rfl⟩⟩ := vals2 r
 refine min_two_ints (I.ok.hd hc) fun h' tk k => ⟨_, H, I.kept k, ?_, q⟩
 by_cases hj : j < i
 ·rw [if_pos hj, if_pos hj]; exact ⟨_, rfl⟩
 ·rw [if_neg hj, if_neg hj]; exact ⟨_, rfl⟩
theorem call_int1 : CallR X (.type "int") (fun xs H Q => (∃ i, xs = [.int i] /\ Q (.int i) H) \/ ∃ k, xs = [.bl k] /\ Q (.int (if k then 1 else 0)) H) := by
 intro pins s σ H xs us Q I r h
 rcases h with ⟨i, rfl, q⟩ | ⟨k, rfl, q⟩
 ·obtain ⟨u, rfl, t, rfl⟩ := vals1 r
  exact call_int_int ⟨.int i, H, I, ⟨_, rfl⟩, q⟩
 ·obtain ⟨u, rfl, r1⟩ := vals1 r
  cases r1
  exact call_int_bool ⟨.int (if k then 1 else 0), H, I.tok _, ⟨_, rfl⟩, q⟩
theorem call_str_int : CallR X (.type "str") (fun xs H Q => ∃ i, xs = [.int i] /\ i.natAbs.log2 < 1920 /\ Q (.str (toString i)) H) := by
 intro pins s σ H xs us Q I r h
 obtain ⟨i, rfl, hz, q⟩ := h
 obtain ⟨u, rfl, t, rfl⟩ := vals1 r
 exact PySem.P.str_of_int hz ⟨.str _, H, I.tok _, ⟨_, rfl⟩, q⟩
end
end L2
namespace L2
open PySem PySem.Spec PyProof.Rows
structure ObjM (h : Heap) (x dx C : Addr) (mA : Str -> Option Value) : Prop where
 obj : h.get? x = some (PySem.W.instObj C dx)
 ns : h.Ns1 dx mA
 ne : dx ≠ x
set_option tactic.hygienic true in
theorem lookIn_ns {h : Heap} {dx : Addr} {mA : Str -> Option Value} (n : h.Ns1 dx mA) : ∃ od, h.get? dx = some od /\ ∀ name, PySem.W.lookIn name od = some (mA name) := by
 obtain ⟨o, es, ep, ho, hd, hk, _, hm⟩ := n
 refine ⟨o, ho, fun name => ?_⟩
 have e := hm name
 unfold nsFind findBy at e
 rw [<- Array.find?_toList] at e
 unfold PySem.W.lookIn
 rw [hd]
 dsimp only
 split
 ·rename_i y q
  rw [q] at e
  exact congrArg some e
 ·rename_i q
  rw [q] at e
  have a : es.toList.any (·.refKey) = false := by
   rw [List.any_eq_false]
   intro y hy
   obtain ⟨z, t, hkey⟩ := hk y (Array.mem_toList_iff.mp hy)
   simp [DictEntry.refKey, hkey]
  have a' : ¬ es.toList.any (·.refKey) = true := by rw [a]; exact Bool.false_ne_true
  rw [if_neg a']
  exact congrArg some e
theorem ObjM.look {h : Heap} {x dx C : Addr} {mA : Str -> Option Value} (I : ObjM h x dx C mA) : ∃ od, PySem.W.InstAt h x (PySem.W.instObj C dx) C (some od) /\ ∀ name, PySem.W.lookIn name od = some (mA name) :=
 let ⟨od, ho, hl⟩ := lookIn_ns I.ns
 ⟨od, ⟨I.obj, rfl, rfl, ho⟩, hl⟩
theorem RelO.some_of {v : V} {o : Option Value} (r : RelO (some v) o) : ∃ u, o = some u /\ RelV v u := by
 cases o with
 | none => exact (show False from r).elim
 | some u => exact ⟨u, rfl, r⟩
section
variable {P : Program} {w : World} {H H' : Hp} {h h' : Heap} {a C dx : Addr} {fs fs' : List (Str × V)}
theorem ins_get (hok : HOk P w H h) (e : H a = some (.ins C dx fs)) : ∃ mA, ObjM h a dx C mA /\ (∀ f, RelO (fs.lookup f) (mA f)) /\ PySem.Within mA (fs.map (·.1)) /\ fs.length <= 1000 /\ H dx = some (.own a) := by
 obtain ⟨d, z, ne, ob, mA, n, r, q⟩ := (show ObjOk P w H h a (.ins C dx fs) from hok a _ e)
 exact ⟨mA, ⟨ob, n, ne⟩, r, q, z, d⟩
end
structure Cls (K : PySem.W.Frag) (C : Addr) : Prop where
 pg : PySem.W.plainGet K C Str.empty = true
 hd : PySem.W.hasDictIn K C = true
 po : PySem.W.plainOver K C = true
 sa : PySem.W.findIn K (.ref C) "__setattr__" = some (some (.builtin "object.__setattr__"))
theorem Cls.get {K : PySem.W.Frag} {C : Addr} (c : Cls K C) (f : Str) : PySem.W.plainGet K C f = true := c.pg
section
variable {X : Cx} {pins : List (Addr × Obj)} {σ : St} {H : Hp} {s : Shared} {A : Around} {E : Value -> Shared -> Prop} {Q : Value -> Shared -> Prop} {c : Value} {b : Bool}
inductive TyOf (K : PySem.W.Frag) (H : Hp) : V -> Value -> Prop where
 | non : TyOf K H .non (.type "NoneType")
 | bl (x : Bool) : TyOf K H (.bl x) (.type "bool")
 | int (i : Int) : TyOf K H (.int i) (.type "int")
 | str (x : Str) : TyOf K H (.str x) (.type "str")
 | flt (x : UInt64) : TyOf K H (.flt x) (.type "float")
 | lst {a : Addr} {xs : List V} (e : H a = some (.lst xs)) : TyOf K H (.ref a) (.type "list")
 | frz {a : Addr} {o : Obj} {xs : List V} (e : H a = some (.frz o (.lst xs))) : TyOf K H (.ref a) (.type "list")
 | tup {a : Addr} {xs : List V} (e : H a = some (.tup xs)) : TyOf K H (.ref a) (.type "tuple")
 | dK {a : Addr} {kvs : List (Key × V)} (e : H a = some (.dK kvs)) : TyOf K H (.ref a) (.type "dict")
 | dT {a : Addr} {kvs : List (List Key × V)} (e : H a = some (.dT kvs)) : TyOf K H (.ref a) (.type "dict")
 | ins {a C dx : Addr} {fs : List (Str × V)} (e : H a = some (.ins C dx fs)) (cl : Cls K C) (ha : PySem.W.findIn K (.ref C) "__class__" = some (some (.builtin "object.__class__")))
   (hn : PySem.W.specialIn K (.builtin "object.__class__") "__get__" = some (some (.builtin "getset_descriptor.__get__"))) (htk : PySem.W.takesIn K (.builtin "object.__class__") = some true)
   (hm : PySem.W.mroIn K C (.type "object") = some true) : TyOf K H (.ref a) (.ref C)
theorem isinst_ok {x : V} {u t : Value} (I : Inv X pins σ H s) (rx : RelV x u) (ty : TyOf X.K H x t) (e : PySem.W.kitOne X.K t c = some b) (h : ∀ tk, Q (.bool b) { s with toks := tk }) :
  wpAny (model X.prog X.w) A (call (.builtin "isinstance") [u, c]) Q E s := by
 cases ty with
 | non => cases (show u = Value.none from rx); exact PySem.W.kia_one PySem.W.kitx_none I.kIn True.intro e (fun z => nomatch z) h
 | bl y => cases (show u = Value.bool y from rx); exact PySem.W.kia_one PySem.W.kitx_bool I.kIn True.intro e (fun z => nomatch z) h
 | int i => obtain ⟨t, q⟩ := (show ∃ t, u = Value.int i t from rx); cases q; exact PySem.W.kia_one PySem.W.kitx_int I.kIn True.intro e (fun z => nomatch z) h
 | str y => obtain ⟨t, q⟩ := (show ∃ t, u = Value.str y t from rx); cases q; exact PySem.W.kia_one PySem.W.kitx_str I.kIn True.intro e (fun z => nomatch z) h
 | flt y => obtain ⟨t, q⟩ := (show ∃ t, u = Value.float y t from rx); cases q; exact PySem.W.kia_one PySem.W.kitx_float I.kIn True.intro e (fun z => nomatch z) h
 | @lst a xs ea =>
  cases (show u = Value.ref a from rx)
  obtain ⟨_, _, n, _, h1⟩ := (show ObjOk X.prog X.w H s.heap a (.lst xs) from I.hok a _ ea)
  exact PySem.W.kia_one PySem.W.kitx_list I.kIn ⟨_, h1, rfl⟩ e (fun z => nomatch z) h
 | @frz a ob xs ea =>
  cases (show u = Value.ref a from rx)
  obtain ⟨_, _, _, n, _, h1⟩ := (show ObjOk X.prog X.w H s.heap a (.frz ob (.lst xs)) from I.hok a _ ea)
  exact PySem.W.kia_one PySem.W.kitx_list I.kIn ⟨_, h1, rfl⟩ e (fun z => nomatch z) h
 | @tup a xs ea =>
  cases (show u = Value.ref a from rx)
  obtain ⟨_, _, _, p⟩ := (show ObjOk X.prog X.w H s.heap a (.tup xs) from I.hok a _ ea)
  obtain ⟨o, h1, h2, _⟩ := p
  exact PySem.W.kia_one PySem.W.kitx_tuple I.kIn ⟨o, h1, h2⟩ e (fun z => nomatch z) h
 | @dK a kvs ea =>
  cases (show u = Value.ref a from rx)
  obtain ⟨_, _, vs, _, p⟩ := (show ObjOk X.prog X.w H s.heap a (.dK kvs) from I.hok a _ ea)
  obtain ⟨o, es, ep, h1, h2, _⟩ := p
  exact PySem.W.kia_one PySem.W.kitx_dict I.kIn ⟨o, h1, h2.1⟩ e (fun z => nomatch z) h
 | @dT a kvs ea =>
  cases (show u = Value.ref a from rx)
  obtain ⟨_, _, xs, _, o, es, ep, h1, h2, _⟩ := (show ObjOk X.prog X.w H s.heap a (.dT kvs) from I.hok a _ ea)
  exact PySem.W.kia_one PySem.W.kitx_dict I.kIn ⟨o, h1, h2.1⟩ e (fun z => nomatch z) h
 | @ins a C dx fs ea cl ha hn htk hm =>
  cases (show u = Value.ref a from rx)
  obtain ⟨mA, O, _⟩ := ins_get I.hok ea
  obtain ⟨od, J, _⟩ := O.look
  exact PySem.W.kia_one (PySem.W.kitx_own (cl.get _) cl.hd ha hn htk hm) I.kIn J e (fun z => nomatch z) h
end
end L2
namespace L2
open PySem PySem.Spec PyProof.Rows
structure Room (k : Nat) (A : Around) : Prop where
 hd : A.handled = none
 gd : A.guards = some []
 dp : A.depth + 3 * k + 5 < recursionLimit
 un : A.units + 16 * k + 200 < cLine
theorem Room.deeper {k : Nat} {A : Around} (r : Room (k + 1) A) (env : Env) : Room k (A.deeper env) :=
 ⟨r.hd, r.gd, by have := r.dp; show A.depth + 1 + 3 * k + 5 < _; omega, by have := r.un; show A.units + 3 + 16 * k + 200 < _; omega⟩
theorem Room.depth {k : Nat} {A : Around} (r : Room k A) : A.depth < recursionLimit := by have := r.dp; omega
noncomputable def tNil : TA := fun _ H Q => Q [] H
noncomputable def tCons (ta : TE) (tr : TA) : TA := fun σ H Q => ta σ H fun x H1 => tr σ H1 fun xs H2 => Q (x :: xs) H2
section
variable {X : Cx} {e : Expr} {es : List Expr} {te : TE} {t : TA} {pos : Pos}
theorem pa_nil : PA X [] tNil := fun _ _ _ _ H Q I h => Calls.spliced_nil ⟨[], H, I, .nil, h⟩
theorem pa_cons (ha : PE X e te) (hr : PA X es t) (hs : starEach (e :: es) X.env = (false, eval e X.env) :: starEach es X.env := by rfl) : PA X (e :: es) (tCons te t) := by
 intro pos pins s σ H Q I h
 rw [hs]
 show wpAny _ _ (spliced ((false, eval e X.env) :: backTo pos (starEach es X.env))) _ _ s
 refine Calls.spliced_cons (thn (ha pins s σ H _ I h) fun u s1 ⟨x, H1, I1, r1, q1⟩ => ?_)
 exact thn (hr pos pins s1 σ H1 _ I1 q1) fun us s2 ⟨xs, H2, I2, r2, q2⟩ => ⟨x :: xs, H2, I2, .cons r1 r2, q2⟩
noncomputable def tTup (t : TA) : TE := fun σ H Q => t σ H fun xs H1 => xs.length <= sizeLine /\ ∀ p, H1 p = none -> Q (.ref p) (upd H1 p (.tup xs))
noncomputable def tLst (t : TA) : TE := fun σ H Q => t σ H fun xs H1 => xs.length <= sizeLine /\ ∀ p, H1 p = none -> Q (.ref p) (upd H1 p (.lst xs))
theorem pe_tup {x1} (h : PA X es t) : PE X (.Tuple es x1 pos) (tTup t) := by
 intro pins s σ H Q I hq
 refine wpAny_Tuple_spliced (thn (h pos pins s σ H _ I hq) fun us s1 ⟨xs, H1, I1, r, z, q⟩ => ⟨by rw [<- r.length]; exact z, ?_⟩)
 have hf : H1 s1.heap.objs.size = none := I1.hok.fresh (Nat.le_refl _)
 refine ⟨.ref s1.heap.objs.size, upd H1 s1.heap.objs.size (.tup xs), I1.laid (t' := s1.toks) (fun b u e => Heap.get?_push_of_some _ e) (Nat.le_refl _) ?_, rfl, q _ hf⟩
 exact ⟨z, us, r, ⟨_, Heap.get?_push_size _ rfl, rfl, _, rfl⟩⟩
theorem pe_lst (h : PA X es t) : PE X (.List es pos) (tLst t) := by
 intro pins s σ H Q I hq
 refine wpAny_List_spliced (thn (h pos pins s σ H _ I hq) fun us s1 ⟨xs, H1, I1, r, z, q⟩ => ⟨by rw [<- r.length]; exact z, ?_⟩)
 have hf : H1 s1.heap.objs.size = none := I1.hok.fresh (Nat.le_refl _)
 refine ⟨.ref s1.heap.objs.size, upd H1 s1.heap.objs.size (.lst xs), I1.laid (t' := s1.toks) (fun b u e => Heap.get?_push_of_some _ e) (Nat.le_refl _) ?_, rfl, q _ hf⟩
 exact ⟨z, us, 0, r, Heap.get?_push_size _ rfl⟩
end
noncomputable abbrev Sp := List V -> Hp -> VK -> XK -> Prop
noncomputable abbrev CXT := List Env -> Hp -> Shared -> XK -> Value -> Shared -> Prop
structure Env0 (P : Program) (w : World) (K : PySem.W.Frag) (mg : Str -> Option Value) (base : Heap) (A : Around) (outer : List Env) (s : Shared) (H : Hp) : Prop where
 frames : A.frames = some outer
 mod : Mod K mg base
 bs : ∀ b o, base.get? b = some o -> s.heap.get? b = some o /\ H b = none
 bsz : base.objs.size <= s.heap.objs.size
 funs : s.heap.FunFrames base outer
 frf : ∀ b ∈ frs outer, H b = none
 hok : HOk P w H s.heap
 bare : AllBare s.gens
noncomputable def CE (outer : List Env) (P : Program) (w : World) (H : Hp) (s : Shared) (Q : VK) (u : Value) (s' : Shared) : Prop :=
 ∃ v H', s'.os = s.os /\ AllBare s'.gens /\ Un (frs outer) [] H H' s.heap s'.heap /\ HOk P w H' s'.heap /\ RelV v u /\ Q v H'
noncomputable def CR (CX : CXT) (outer : List Env) (P : Program) (w : World) (H : Hp) (s : Shared) (Q : VK) (E : XK) (r : Result) (s' : Shared) : Prop :=
 match r with
 | .ok (.ret u) => CE outer P w H s Q u s'
 | .ok _ => False
 | .error e => CX outer H s E e s'
structure FnOk (P : Program) (w : World) (K : PySem.W.Frag) (mg : Str -> Option Value) (base : Heap) (CX : CXT) (k : Nat) (f : Addr) (fd : FuncData) (ps : List Str) (sp : Sp) : Prop where
 len : ∀ vs H Q E, sp vs H Q E -> vs.length = ps.length
 run : ∀ (A : Around) (outer : List Env) (s : Shared) (H : Hp) (args : Args) (us : List Value) (vs : List V) (Q : VK) (E : XK), Room k A -> Env0 P w K mg base A outer s H -> BindsTo s fd args (ps.zip us) -> Vals vs us -> sp vs H Q E ->
  codeAny (model P w) A (.call (.ref f) args) (CR CX outer P w H s Q E) s
section
variable {X : Cx} {pins : List (Addr × Obj)} {σ : St} {H : Hp} {s s' : Shared}
theorem Inv.env0 (I : Inv X pins σ H s) : Env0 X.prog X.w X.K X.mg X.base X.A X.stack s H :=
 ⟨I.ok.frames, I.ok.mod, I.bs, Nat.le_trans I.ok.bsz I.sz, I.stack, I.stkFree, I.hok, I.bare⟩
theorem Inv.after {Q : VK} {u : Value} (I : Inv X pins σ H s) (h : CE X.stack X.prog X.w H s Q u s') : EP X pins σ Q u s' := by
 obtain ⟨v, H', os, bare, un, hok, r, q⟩ := h
 obtain ⟨hh, g, d, t, os'⟩ := s'
 obtain rfl : os' = s.os := os
 exact ⟨v, H', I.call (h' := hh) (g' := g) (d' := d) (t' := t) (ch := []) un hok bare (fun b z => absurd z (by simp)), r, q⟩
end
noncomputable def tCall (sp : Sp) (dvs : List V) (E : XK) (t : TA) : TE := fun σ H Q => t σ H fun vs H1 => sp (vs ++ dvs) H1 Q E
noncomputable def Binds (K : PySem.W.Frag) (fd : FuncData) (ps : List Str) (ds : List Value) : Prop :=
 ∀ (s : Shared) (us : List Value), K.In s.heap -> (us ++ ds).length = ps.length -> BindsTo s fd ⟨us, []⟩ (ps.zip (us ++ ds))
theorem Binds.all {K : PySem.W.Frag} {fd : FuncData} {ps : List Str} (h : ∀ us : List Value, us.length = ps.length -> bindArgs fd ⟨us, []⟩ = pure (ps.zip us)) : Binds K fd ps [] := fun s us _ hl => by
 rw [List.append_nil] at hl ⊢
 exact .of_eq (h us hl)
noncomputable def Passes (CX : CXT) (X : Cx) (E : XK) : Prop := ∀ (pins : List (Addr × Obj)) (σ : St) (H : Hp) (s : Shared) (e : Value) (s' : Shared), Inv X pins σ H s -> CX X.stack H s E e s' -> X.xe e s'
section
variable {X : Cx} {CX : CXT} {k : Nat} {f C : Addr} {fd : FuncData} {ps : List Str} {sp : Sp} {dvs : List V} {ds : List Value} {E : XK} {x m : Str} {p pos apos : Pos} {e o : Expr} {es : List Expr} {ta : TE} {t : TA}
theorem run_fn {pins : List (Addr × Obj)} {σ : St} {H : Hp} {s : Shared} {Q : VK} {us : List Value} {vs : List V} (F : FnOk X.prog X.w X.K X.mg X.base CX k f fd ps sp) (hr : Room k X.A) (hb : Binds X.K fd ps ds) (hd : Vals dvs ds) (hx : Passes CX X E)
  (I : Inv X pins σ H s) (r : Vals vs us) (h : sp (vs ++ dvs) H Q E) : wpAny (model X.prog X.w) X.A (call (.ref f) us) (EP X pins σ Q) X.xe s := by
 have r2 : Vals (vs ++ dvs) (us ++ ds) := r.append hd
 have hl : (us ++ ds).length = ps.length := by rw [<- r2.length]; exact F.len _ _ _ _ h
 refine wpAny_call (codeAny_mono (F.run X.A X.stack s H ⟨us, []⟩ (us ++ ds) (vs ++ dvs) Q E hr I.env0 (hb s us I.kIn hl) r2 h) fun r s' hq => ?_)
 cases r with
 | error e => exact hx pins σ H s e s' I hq
 | ok fl =>
  cases fl with
  | ret u => exact I.after hq
  | next => exact False.elim hq
  | brk => exact False.elim hq
  | cont => exact False.elim hq
theorem pe_call (F : FnOk X.prog X.w X.K X.mg X.base CX k f fd ps sp) (hr : Room k X.A) (hg : Gl X x) (hm : X.mg x = some (.ref f)) (hk : PySem.W.keepIn X.K (.ref f) = true) (hb : Binds X.K fd ps ds) (hd : Vals dvs ds) (hx : Passes CX X E)
  (ha : PA X (e :: es) t) (hdb : (x == ("__debug__" : Str)) = false := by decide) (he : starEach (e :: es) X.env = (false, eval e X.env) :: starEach es X.env := by rfl) (hpl : (backTo pos (starEach es X.env)).any (·.1) = false := by rfl) :
  PE X (.Call (.Name x p) (e :: es) [] pos) (tCall sp dvs E t) := by
 intro pins s σ H Q I h
 refine wpAny_Call_Name_kw (ld_glob I hg hm ?_ hdb)
 refine PySem.W.callWith_K (h₀ := X.base) I.ok.mod.kin hk (thn (ha pos pins s σ H _ I h) fun us s1 ⟨vs, H1, I1, r, q⟩ => ⟨I1.kIn, ?_⟩) he hpl
 exact run_fn F hr hb hd hx I1 r q
end
noncomputable def PK (X : Cx) (kws : List Keyword) (t : TA) : Prop :=
 ∀ (pos : Pos) (pins : List (Addr × Obj)) (s : Shared) (σ : St) (H : Hp) (Q : List V -> Hp -> Prop), Inv X pins σ H s -> t σ H Q -> wpAny (model X.prog X.w) X.A (evalAll ((backToKw pos (keywordEach kws X.env)).map (·.2))) (AP X pins σ Q) X.xe s
section
variable {X : Cx} {CX : CXT} {k : Nat} {f C : Addr} {fd : FuncData} {ps ks : List Str} {sp : Sp} {E : XK} {x m : Str} {p pos apos kpos : Pos} {e o : Expr} {es : List Expr} {kws : List Keyword} {te ta : TE} {t tk : TA} {nm : Option Str}
theorem pk_nil : PK X [] tNil := fun _ _ _ _ H Q I h => wpAny_evalAll_nil ⟨[], H, I, .nil, h⟩
theorem pk_cons (ha : PE X e te) (hr : PK X kws t) : PK X (⟨nm, e, kpos⟩ :: kws) (tCons te t) := by
 intro pos pins s σ H Q I h
 show wpAny _ _ (evalAll ((do let v <- eval e X.env; standAt pos; pure v) :: (backToKw pos (keywordEach kws X.env)).map (·.2))) _ _ s
 refine wpAny_evalAll_cons (wpAny_bind (thn (ha pins s σ H _ I h) fun u s1 ⟨x, H1, I1, r1, q1⟩ => wpAny_bind (wpAny_standAt (wpAny_pure ?_))))
 exact thn (hr pos pins s1 σ H1 _ I1 q1) fun us s2 ⟨xs, H2, I2, r2, q2⟩ => ⟨x :: xs, H2, I2, .cons r1 r2, q2⟩
structure KBinds (K : PySem.W.Frag) (fd : FuncData) (ps ks : List Str) (g : List Value -> List Value -> List Value) (gV : List V -> List V -> List V) : Prop where
 to : ∀ (s : Shared) (us ws : List Value), K.In s.heap -> (g us ws).length = ps.length -> BindsTo s fd ⟨us, ks.zip ws⟩ (ps.zip (g us ws))
 rel : ∀ {vs : List V} {us : List Value} {zs : List V} {ws : List Value}, Vals vs us -> Vals zs ws -> Vals (gV vs zs) (g us ws)
noncomputable def tCallK (sp : Sp) (gV : List V -> List V -> List V) (E : XK) (t tk : TA) : TE := fun σ H Q => t σ H fun vs H1 => tk σ H1 fun zs H2 => sp (gV vs zs) H2 Q E
variable {g : List Value -> List Value -> List Value} {gV : List V -> List V -> List V}
theorem run_fnk {pins : List (Addr × Obj)} {σ : St} {H : Hp} {s : Shared} {Q : VK} {us ws : List Value} {vs zs : List V} (F : FnOk X.prog X.w X.K X.mg X.base CX k f fd ps sp) (hr : Room k X.A) (hb : KBinds X.K fd ps ks g gV) (hx : Passes CX X E)
  (I : Inv X pins σ H s) (r : Vals vs us) (rz : Vals zs ws) (h : sp (gV vs zs) H Q E) : wpAny (model X.prog X.w) X.A (call (.ref f) us (ks.zip ws)) (EP X pins σ Q) X.xe s := by
 have r2 := hb.rel r rz
 have hl : (g us ws).length = ps.length := by rw [<- r2.length]; exact F.len _ _ _ _ h
 refine wpAny_call (codeAny_mono (F.run X.A X.stack s H ⟨us, ks.zip ws⟩ (g us ws) (gV vs zs) Q E hr I.env0 (hb.to s us ws I.kIn hl) r2 h) fun r s' hq => ?_)
 cases r with
 | error e => exact hx pins σ H s e s' I hq
 | ok fl =>
  cases fl with
  | ret u => exact I.after hq
  | next => exact False.elim hq
  | brk => exact False.elim hq
  | cont => exact False.elim hq
end
structure FnScope (N P : List Str) (sc : Scope) : Prop where
 kind : sc.kind = .function
 co : sc.isCoroutine = false
 gen : sc.isGenerator = false
 nd : N.Nodup
 pre : N.take P.length = P
 par : ∀ x ∈ P, sc.names.lookup x = some .local \/ sc.names.lookup x = some .cell
 nofree : ∀ y ∈ sc.names, y.2 ≠ .free
theorem bindL_out {kindOf : Str -> Option NameKind} {x : Str} : ∀ {binds : List (Str × Value)} {m : Str -> Option Value}, (∀ v, (x, v) ∉ binds) -> bindL kindOf binds m x = m x
 | [], _, _ => rfl
 | (n, v) :: r, m, h => by
  unfold bindL
  rw [bindL_out fun w hw => h w (List.mem_cons_of_mem _ hw)]
  split
  ·have : x ≠ n := by rintro rfl; exact h v List.mem_cons_self
   simp [this]
  ·rfl
theorem bindC_out {kindOf : Str -> Option NameKind} {x : Str} : ∀ {binds : List (Str × Value)} {m : Str -> Option Value}, (∀ v, (x, v) ∉ binds) -> bindC kindOf binds m x = m x
 | [], _, _ => rfl
 | (n, v) :: r, m, h => by
  unfold bindC
  rw [bindC_out fun w hw => h w (List.mem_cons_of_mem _ hw)]
  split
  ·rfl
  ·have : x ≠ n := by rintro rfl; exact h v List.mem_cons_self
   simp [this]
theorem bindL_get {kindOf : Str -> Option NameKind} {x : Str} {v : Value} : ∀ {P : List Str} {vs : List Value} {i : Nat} {m : Str -> Option Value}, P.Nodup -> P[i]? = some x -> vs[i]? = some v -> kindOf x = some .local ->
  bindL kindOf (P.zip vs) m x = some v
 | [], _, _, _, _, h, _, _ => by simp at h
 | _ :: _, [], _, _, _, _, h, _ => by simp at h
 | p :: P, w :: vs, 0, m, nd, h1, h2, hk => by
  simp at h1 h2; subst h1; subst h2
  show bindL kindOf ((p, w) :: P.zip vs) m p = _
  unfold bindL
  rw [bindL_out fun v hv => (List.nodup_cons.mp nd).1 (List.of_mem_zip hv).1, if_pos hk]
  simp
 | p :: P, w :: vs, i + 1, m, nd, h1, h2, hk => by
  show bindL kindOf ((p, w) :: P.zip vs) m x = _
  unfold bindL
  exact bindL_get (i := i) (List.nodup_cons.mp nd).2 (by simpa using h1) (by simpa using h2) hk
theorem bindC_get {kindOf : Str -> Option NameKind} {x : Str} {v : Value} : ∀ {P : List Str} {vs : List Value} {i : Nat} {m : Str -> Option Value}, P.Nodup -> P[i]? = some x -> vs[i]? = some v -> kindOf x ≠ some .local ->
  bindC kindOf (P.zip vs) m x = some v
 | [], _, _, _, _, h, _, _ => by simp at h
 | _ :: _, [], _, _, _, _, h, _ => by simp at h
 | p :: P, w :: vs, 0, m, nd, h1, h2, hk => by
  simp at h1 h2; subst h1; subst h2
  show bindC kindOf ((p, w) :: P.zip vs) m p = _
  unfold bindC
  rw [bindC_out fun v hv => (List.nodup_cons.mp nd).1 (List.of_mem_zip hv).1, if_neg hk]
  simp
 | p :: P, w :: vs, i + 1, m, nd, h1, h2, hk => by
  show bindC kindOf ((p, w) :: P.zip vs) m x = _
  unfold bindC
  exact bindC_get (i := i) (List.nodup_cons.mp nd).2 (by simpa using h1) (by simpa using h2) hk
noncomputable def start (N : List Str) (vs : List V) : St := vs.map some ++ List.replicate (N.length - vs.length) none
noncomputable def cxOf (CX : CXT) (P : Program) (w : World) (K : PySem.W.Frag) (mg : Str -> Option Value) (base : Heap) (N : List Str) (qual : Str) (scope : Scope) (f : Addr) (cd : Value) (A : Around) (outer : List Env) (s : Shared) (H : Hp) (E : XK) : Cx where
 prog := P
 w := w
 K := K
 mg := mg
 base := base
 A := A.deeper (envOfC qual scope s.heap.objs.size f cd)
 N := N
 s₀ := s
 H₀ := H
 env := envOfC qual scope s.heap.objs.size f cd
 outer := outer
 stack := envOfC qual scope s.heap.objs.size f cd :: outer
 ex := []
 calm := true
 fn := fun _ => true
 pn := []
 xe := fun e s' => wpAny (model P w) (A.deeper (envOfC qual scope s.heap.objs.size f cd)) (leaving (envOfC qual scope s.heap.objs.size f cd) e) (fun _ s'' => CX outer H s E e s'') (fun e' s'' => CX outer H s E e' s'') s'
theorem cell_has {sc : Scope} {n : Nat} {x : Str} (h : sc.names.lookup x = some .cell) : ∃ c, (cellsFrom n sc.names []).lookup x = some c := by
 have q := PySem.W.cellsFrom_some sc.names n [] (.inl h)
 exact Option.isSome_iff_exists.mp q
theorem inv_start {CX : CXT} {P : Program} {w : World} {K : PySem.W.Frag} {mg : Str -> Option Value} {base : Heap} {N ps : List Str} {qual : Str} {scope : Scope} {f : Addr} {cd : Value} {A : Around} {outer : List Env} {s s1 : Shared} {H : Hp} {E : XK} {us : List Value} {vs : List V}
  (S : FnScope N ps scope) (hd : A.handled = none) (e0 : Env0 P w K mg base A outer s H) (hl : vs.length = ps.length) (r : Vals vs us)
  (x : InCallC s s.heap.objs.size (bindL (envOfC qual scope s.heap.objs.size f cd).kindOf (ps.zip us) fun _ => none) (cellsFrom (s.heap.objs.size + 1) scope.names []) (bindC (envOfC qual scope s.heap.objs.size f cd).kindOf (ps.zip us) fun _ => none) s1) :
  Inv (cxOf CX P w K mg base N qual scope f cd A outer s H E) [] (start N vs) H s1 := by
 have hpl : ps.length <= N.length := by have := congrArg List.length S.pre; rw [List.length_take] at this; omega
 obtain ⟨h1, tk, rfl, hk⟩ := x.done
 have noA : ∀ b : Addr, b ∉ (cxOf CX P w K mg base N qual scope f cd A outer s H E).ex := fun b z => absurd (show b ∈ ([] : List Addr) from z) (by simp)
 refine ⟨⟨e0.mod, S.kind, rfl, rfl, Nat.le_refl _, fun y z c h1 h2 => ?_, fun y hy => ?_, fun y c _ h => ?_, fun _ => hd, Around.frames_deeper e0.frames, .inr ⟨rfl, rfl⟩, fun b z => absurd z (noA b), e0.bs, e0.bsz, fun b _ _ => noA b, fun b z => absurd z (noA b), e0.funs, e0.frf⟩,
  rfl, e0.bare, Un.kept hk, ⟨_, x.toInCall.ns, fun i y v h1 h2 h3 => ?_⟩, fun y c h => ⟨_, x.cell y c h⟩, e0.hok.fresh (Nat.le_refl _), fun y c h => ?_, fun p hp => absurd (show p ∈ ([] : List (Addr × Obj)) from hp) (by simp), e0.hok.kept hk, ?_⟩
 ·exact name_of_addr x.apart (PySem.mem_of_lookup h1) (PySem.mem_of_lookup h2)
 ·have hy : scope.names.lookup y = some .cell \/ scope.names.lookup y = some .free := hy
  rcases hy with hy | hy
  ·exact cell_has hy
  ·exact absurd rfl (S.nofree _ (PySem.mem_of_lookup hy))
 ·exact Nat.le_of_lt (x.above y c (PySem.mem_of_lookup h))
 ·have hi : i < vs.length := by
   unfold start at h2
   by_cases hi : i < vs.length
   ·exact hi
   ·rw [List.getElem?_append_right (by simpa using hi)] at h2
    rw [List.getElem?_replicate] at h2
    split at h2 <;> cases h2
  have ha : vs[i]? = some v := by
   unfold start at h2
   rw [List.getElem?_append_left (by simpa using hi), List.getElem?_map] at h2
   cases e : vs[i]? with
   | none => rw [e] at h2; cases h2
   | some a => rw [e] at h2; cases h2; rfl
  obtain ⟨u, hu, rv⟩ := r.get ha
  have hp : ps[i]? = some y := by
   rw [<- S.pre, List.getElem?_take_of_lt (by omega)]; exact h1
  have ndP : ps.Nodup := by rw [<- S.pre]; exact S.nd.sublist (List.take_sublist _ _)
  refine ⟨u, rv, ?_⟩
  rcases S.par y (List.mem_of_getElem? hp) with k | k
  ·exact .inl ⟨k, bindL_get ndP hp hu k⟩
  ·obtain ⟨c, e⟩ := cell_has (n := s.heap.objs.size + 1) k
   refine .inr ⟨.inl k, c, e, ?_⟩
   have q := x.cell y c e
   rw [bindC_get ndP hp hu (by show scope.names.lookup y ≠ _; rw [k]; decide)] at q
   exact q
 ·exact e0.hok.fresh (Nat.le_of_lt (x.above y c (PySem.mem_of_lookup h)))
 ·unfold start
  show _ = N.length
  rw [List.length_append, List.length_map, List.length_replicate]
  omega
theorem fn_of {CX : CXT} {P : Program} {w : World} {K : PySem.W.Frag} {mg : Str -> Option Value} {base : Heap} {k : Nat} {f : Addr} {name qual : Str} {params : Arguments} {body : List Stmt} {scope : Scope} {dV kV doc pm cdv ct oc : Value} {an od : Option Addr}
  {osl : Array (Option Value)} {N ps : List Str} {sp : Sp} (lk : K.lookup f = some ⟨oc, od, .func (PySem.W.fnOf name qual params body scope dV kV doc pm an cdv ct), osl⟩) (hcd : PySem.W.codeIn K cdv qual = true) (S : FnScope N ps scope)
  (len : ∀ vs H Q E, sp vs H Q E -> vs.length = ps.length)
  (hbody : ∀ (A : Around) (outer : List Env) (s : Shared) (H : Hp) (vs : List V) (Q : VK) (E : XK), Room k (A.deeper (envOfC qual scope s.heap.objs.size f cdv)) -> sp vs H Q E ->
   ∃ t, PSs (cxOf CX P w K mg base N qual scope f cdv A outer s H E) body t /\ t { nx := fun _ H' => Q .non H', rt := Q } (start N vs) H) :
  FnOk P w K mg base CX (k + 1) f (PySem.W.fnOf name qual params body scope dV kV doc pm an cdv ct) ps sp := by
 refine ⟨len, fun A outer s H args us vs Q E hr e0 hb r hsp => ?_⟩
 have hl := len _ _ _ _ hsp
 have KX : K.In s.heap := e0.mod.kin.keeps fun b o e => (e0.bs b o e).1
 have lim : s.heap.NoLimit := e0.mod.nolimit.keeps fun b o e => (e0.bs b o e).1
 have hkind : ∀ y ∈ ps.zip us, scope.names.lookup y.1 = some .local \/ (scope.names.lookup y.1 = some .cell /\ ((cellsFrom (s.heap.objs.size + 1) scope.names []).lookup y.1).isSome = true) := fun ⟨n, v⟩ hy => by
  rcases S.par n (List.of_mem_zip hy).1 with q | q
  ·exact .inl q
  ·exact .inr ⟨q, PySem.W.cellsFrom_some _ _ _ (.inl q)⟩
 refine codeAny_call_function hr.depth (KX _ _ lk) rfl S.co S.gen rfl (PySem.W.codeRec_of KX hcd) (hb _ _ _ _ ?_)
 refine wpAny_newFunctionEnv_cells S.kind hkind fun env he s1 x => ?_
 subst he
 refine ⟨lim.keeps x.toInCall.keep, codeAny_func ?_⟩
 obtain ⟨t, ht, hq⟩ := hbody A outer s H vs Q E (hr.deeper _) hsp
 have I : Inv (cxOf CX P w K mg base N qual scope f cdv A outer s H E) [] (start N vs) H s1 := inv_start S hr.hd e0 hl r x
 refine wpAny_mono (ht [] s1 (start N vs) H _ I hq) (fun fl s' hs => ?_) fun e s' hs => hs
 have fin : ∀ {σ' : St} {H' : Hp} {v : V} {u : Value}, Inv (cxOf CX P w K mg base N qual scope f cdv A outer s H E) [] σ' H' s' -> RelV v u -> Q v H' -> CE outer P w H s Q u s' :=
  fun {σ' H' v u} J rv q => ⟨v, H', J.os, J.bare, J.base, J.hok, rv, q⟩
 cases fl with
 | ret u =>
  obtain ⟨v, σ', H', J, rv, q⟩ := hs
  exact fin J rv q
 | next =>
  obtain ⟨σ', H', J, q⟩ := hs
  exact fin (v := V.non) (u := Value.none) J rfl q
 | brk =>
  obtain ⟨_, _, _, q⟩ := hs
  exact False.elim q
 | cont =>
  obtain ⟨_, _, _, q⟩ := hs
  exact False.elim q
end L2
namespace L2
open PySem PySem.Spec PyProof.Rows
section
variable {X : Cx} {x : Str} {p pos : Pos} {e : Expr} {es : List Expr} {t : TA} {id T : String} {r : List V -> Hp -> VK -> Prop}
noncomputable def tCB (r : List V -> Hp -> VK -> Prop) (t : TA) : TE := fun σ H Q => t σ H fun vs H1 => r vs H1 Q
theorem pe_callB (hc : CallR X (.builtin id) r) (hg : Gl X x) (hm : X.mg x = none) (hv : bootBuiltins x = some (.builtin id)) (ha : PA X (e :: es) t) (hn : x ≠ "__name__" := by decide) (hdb : (x == ("__debug__" : Str)) = false := by decide)
  (he : starEach (e :: es) X.env = (false, eval e X.env) :: starEach es X.env := by rfl) (hpl : (backTo pos (starEach es X.env)).any (·.1) = false := by rfl) : PE X (.Call (.Name x p) (e :: es) [] pos) (tCB r t) := by
 intro pins s σ H Q I h
 refine wpAny_Call_Name_kw (ld_blt I hg hm hv ?_ hn hdb)
 exact PyProof.Rows.callWith_builtin1 (thn (ha pos pins s σ H _ I h) fun us s1 ⟨vs, H1, I1, r1, q1⟩ => hc pins s1 σ H1 vs us Q I1 r1 q1) he hpl
theorem pe_callTy (hc : CallR X (.type T) r) (hg : Gl X x) (hm : X.mg x = none) (hv : bootBuiltins x = some (.type T)) (ha : PA X (e :: es) t) (hn : x ≠ "__name__" := by decide) (hdb : (x == ("__debug__" : Str)) = false := by decide)
  (he : starEach (e :: es) X.env = (false, eval e X.env) :: starEach es X.env := by rfl) (hpl : (backTo pos (starEach es X.env)).any (·.1) = false := by rfl) : PE X (.Call (.Name x p) (e :: es) [] pos) (tCB r t) := by
 intro pins s σ H Q I h
 refine wpAny_Call_Name_kw (ld_blt I hg hm hv ?_ hn hdb)
 exact PyProof.Rows.callWith_type1 (thn (ha pos pins s σ H _ I h) fun us s1 ⟨vs, H1, I1, r1, q1⟩ => hc pins s1 σ H1 vs us Q I1 r1 q1) he hpl
end
end L2
namespace HT
open PySem PyProof.Rows
section
open PySem.SeqAt
open PySem.AutoSeq1 (wpAny_loadPart')
open PySem.MeetsSeq PySem.MeetsSeq2 PySem.MeetsSeq3
end
section
variable {prog : Program} {w : World} {A : Around} {E : Value -> Shared -> Prop} {s : Shared}
theorem cat_tup {t b : Addr} {vs ws : List Value} {Q : Value -> Shared -> Prop} (ht : IsTup s.heap t vs.toArray) (hb : IsTup s.heap b ws.toArray) (hv : vs ≠ [])
  (h1 : ws = [] -> Q (.ref t) s) (h2 : ws ≠ [] -> Q (.ref s.heap.objs.size) { s with heap := s.heap.push { cls := .type "tuple", data := .seq (vs ++ ws).toArray } })
  (hsz : vs.length + ws.length <= sizeLine) : wpAny (model prog w) A (binaryOp .Add (.ref t) (.ref b)) Q E s := by
 obtain ⟨⟨cls, dd, data, sl⟩, ho, hc, n, hd⟩ := id ht
 obtain ⟨⟨cls2, dd2, data2, sl2⟩, ho2, hc2, n2, hd2⟩ := id hb
 simp only at hc hd hc2 hd2
 subst hc hd hc2 hd2
 have e : vs.toArray ++ ws.toArray = (vs ++ ws).toArray := by simp
 by_cases hw : ws = []
 ·exact concat_meets ⟨_, ho, rfl⟩ ⟨_, ho2, rfl⟩ noFill_tuple_add seq_tuple_add PySem.F.slot_tuple_add PySem.F.entry_tuple_add (PySem.F.args_tuple_add_2 _ _)
   (tuple_addW1 t b vs.toArray ws.toArray n n2 dd dd2 sl sl2 (by simpa using hv) (by simp [hw])) ⟨ho, ho2, h1 hw⟩
 ·refine concat_meets ⟨_, ho, rfl⟩ ⟨_, ho2, rfl⟩ noFill_tuple_add seq_tuple_add PySem.F.slot_tuple_add PySem.F.entry_tuple_add (PySem.F.args_tuple_add_2 _ _)
   (tuple_addW2 t b vs.toArray ws.toArray n n2 dd dd2 sl sl2 (by simpa using hv) (by simpa using hw) (by rw [List.size_toArray, List.size_toArray]; exact hsz)) ⟨ho, ho2, ?_⟩
  rw [e]
  exact h2 hw
noncomputable def sIx (n d : Nat) : Option Int -> Nat
 | none => d
 | some v => if v < 0 then (v + (n : Int)).toNat else min v.toNat n
theorem sIx_le (n d : Nat) (hd : d <= n) (o : Option Int) : sIx n d o <= n := by
 cases o with
 | none => exact hd
 | some v =>
  show (if v < 0 then (v + (n : Int)).toNat else min v.toNat n) <= n
  by_cases hv : v < 0
  ·rw [if_pos hv]; omega
  ·rw [if_neg hv]; exact Nat.min_le_right _ _
theorem clip_eq (v : Int) (n d : Nat) : (if v < 0 then max (v + (n : Int)) 0 else min v (n : Int)) = ((sIx n d (some v) : Nat) : Int) := by
 show (if v < 0 then max (v + (n : Int)) 0 else min v (n : Int)) = (((if v < 0 then (v + (n : Int)).toNat else min v.toNat n) : Nat) : Int)
 by_cases hv : v < 0
 ·simp only [if_pos hv]; omega
 ·simp only [if_neg hv]; omega
theorem adjust_gen (lo hi : Option Int) (n : Nat) : Builtin.Slice.sliceAdjust lo hi 1 (n : Int) = (((sIx n 0 lo : Nat) : Int), ((sIx n n hi : Nat) : Int)) := by
 have h1 : ¬ ((1 : Int) < 0) := by omega
 unfold Builtin.Slice.sliceAdjust
 simp only [h1, if_false]
 refine Prod.ext ?_ ?_
 ·cases lo with
  | none => rfl
  | some v => exact clip_eq v n 0
 ·cases hi with
  | none => rfl
  | some v => exact clip_eq v n n
theorem places_gen (i j : Nat) : Builtin.Slice.slicePlaces (i : Int) (j : Int) 1 = j - i := by
 unfold Builtin.Slice.slicePlaces
 have h1 : (1 : Int) > 0 := by omega
 simp only [h1, if_true, Int.ediv_one]
 split <;> omega
theorem slicePart_ {v : Value} {o : Option Int} {Q : Option Int -> Shared -> Prop} (p : IsPart v o) (h : Q o s) : wpAny (model prog w) A (Builtin.Slice.slicePartIndex v) Q E s := by
 cases p with
 | none => exact slicePart_none h
 | int i t => exact slicePart_int h
theorem sliceApplied_gen {sl : Addr} {vl vu : Value} {lo hi : Option Int} {n : Nat} {Q : Int × Int × Nat -> Shared -> Prop} (hs : s.heap.IsSliceOf sl vl vu .none) (pl : IsPart vl lo) (pu : IsPart vu hi)
  (h : Q (((sIx n 0 lo : Nat) : Int), 1, sIx n n hi - sIx n 0 lo) s) : wpAny (model prog w) A (Builtin.Slice.sliceApplied (.ref sl) (pure (n : Int))) Q E s := by
 obtain ⟨os, hos, hcs, hds⟩ := id hs
 unfold Builtin.Slice.sliceApplied Builtin.Slice.sliceFields
 refine wpAny_bind (wpAny_bind (wpAny_field hos hds (x := vl) rfl (wpAny_bind (wpAny_field hos hds (x := vu) rfl (wpAny_bind (wpAny_field hos hds (x := .none) rfl (wpAny_pure ?_)))))))
 refine wpAny_bind (slicePart_none ?_)
 show wpAny _ _ (if ((1 : Int) == 0) = true then _ else _) _ _ s
 rw [if_neg (by decide)]
 refine wpAny_bind (slicePart_ pl (wpAny_bind (slicePart_ pu (wpAny_bind (wpAny_pure ?_)))))
 show wpAny _ _ (match Builtin.Slice.sliceAdjust lo hi 1 (n : Int) with | (lo, hi) => pure (lo, (1 : Int), Builtin.Slice.slicePlaces lo hi 1)) _ _ s
 rw [adjust_gen lo hi n]
 show wpAny _ _ (pure (((sIx n 0 lo : Nat) : Int), (1 : Int), Builtin.Slice.slicePlaces ((sIx n 0 lo : Nat) : Int) ((sIx n n hi : Nat) : Int) 1)) _ _ s
 rw [places_gen]
 exact wpAny_pure h
theorem pick_gen (xs : Array Value) (i k : Nat) : ((List.range k).filterMap fun (m : Nat) => xs[((i : Int) + (m : Int) * 1).toNat]?).toArray = ((xs.toList.drop i).take k).toArray := by
 have e : (fun (m : Nat) => xs[((i : Int) + (m : Int) * 1).toNat]?) = fun m => xs[i + m]? := by
  funext m
  have : ((i : Int) + (m : Int) * 1).toNat = i + m := by omega
  rw [this]
 rw [e]
 have := pick_run xs i k
 rw [List.filterMap_map] at this
 have e2 : ((fun x => xs[x]?) ∘ fun x => i + x) = fun m => xs[i + m]? := rfl
 rw [e2] at this
 rw [this]
theorem getItem_tuple_cut {t sl : Addr} {items : Array Value} {vl vu : Value} {lo hi : Option Int} {Q : Value -> Shared -> Prop} (ht : IsTup s.heap t items) (hs : s.heap.IsSliceOf sl vl vu .none) (pl : IsPart vl lo) (pu : IsPart vu hi)
  (hw : ¬ (sIx items.size 0 lo = 0 /\ sIx items.size items.size hi = items.size))
  (h : Q (.ref s.heap.objs.size) { s with heap := s.heap.push { cls := .type "tuple", data := .seq ((items.toList.drop (sIx items.size 0 lo)).take (sIx items.size items.size hi - sIx items.size 0 lo)).toArray } })
  (hsz : items.size <= sizeLine) : wpAny (model prog w) A (getItem (.ref t) (.ref sl)) Q E s := by
 have htake : sizeOk (.seq ((items.toList.drop (sIx items.size 0 lo)).take (sIx items.size items.size hi - sIx items.size 0 lo)).toArray) := by
  show ((items.toList.drop (sIx items.size 0 lo)).take (sIx items.size items.size hi - sIx items.size 0 lo)).toArray.size <= sizeLine
  rw [List.size_toArray, List.length_take, List.length_drop, Array.length_toList]
  omega
 have hj : sIx items.size items.size hi <= items.size := sIx_le _ _ (Nat.le_refl _) hi
 obtain ⟨os, hos, hcs, hds⟩ := id hs
 have hTs : s.TypeIs (.ref sl) "slice" := ⟨os, hos, hcs⟩
 unfold getItem
 try with_reducible refine wpAny_holding ?_
 first | refine wpAny_bind (wpAny_pure ?_) | skip
 refine wpAny_bind (wpAny_sequenceKey ht.typeIs (by decide) ?_)
 refine wpAny_bind (wpAny_callSpecial?_slot (name := Str.ofString "__getitem__") ht.typeIs PyProof.Rows.slot_tuple_getitem
  (wpAny_call_entry PyProof.Rows.slot_tuple_getitem ht.typeIs entry_tuple_getitem ?_ (args_tuple_getitem _ _)))
 show wpAny _ _ (Builtin.Tuple.tupleItemsOf (.ref t) >>= _) _ _ s
 refine wpAny_bind (tupleItemsOf_ ht ?_)
 refine wpAny_bind (wpAny_typeOf hTs ?_)
 rw [if_pos (by decide)]
 refine wpAny_bind (sliceApplied_gen hs pl pu ?_)
 have hno : ¬ ((((sIx items.size 0 lo : Nat) : Int) == 0 && (1 : Int) == 1 && (sIx items.size items.size hi - sIx items.size 0 lo) == items.size) = true) := by
  intro q
  rw [Bool.and_eq_true, Bool.and_eq_true] at q
  have q1 : ((sIx items.size 0 lo : Nat) : Int) = 0 := eq_of_beq q.1.1
  have q2 : sIx items.size items.size hi - sIx items.size 0 lo = items.size := eq_of_beq q.2
  exact hw ⟨by omega, by omega⟩
 show wpAny _ _ (if (((sIx items.size 0 lo : Nat) : Int) == 0 && (1 : Int) == 1 && (sIx items.size items.size hi - sIx items.size 0 lo) == items.size) = true then _ else _) _ _ s
 rw [if_neg hno, pick_gen]
 first
  | exact wpAny_bind (m := Builtin.Tuple.tupleExact _) (wpAny_newObj_type (wpAny_pure ⟨_, rfl, wpAny_pure h⟩) htake)
  | exact wpAny_bind (m := Builtin.Tuple.tupleExact _) (wpAny_newObj_type (wpAny_bind (wpAny_pure (wpAny_pure ⟨_, rfl, wpAny_pure h⟩))) htake)
  | exact wpAny_bind (wpAny_bind (m := Builtin.Tuple.tupleExact _) (wpAny_newObj_type (wpAny_pure (wpAny_pure ⟨_, rfl, wpAny_pure h⟩)) htake))
  | exact wpAny_bind (wpAny_bind (m := Builtin.Tuple.tupleExact _) (wpAny_newObj_type (wpAny_pure ⟨_, rfl, wpAny_pure h⟩) htake))
end
end HT
namespace L2
open PySem PySem.Spec PyProof.Rows
noncomputable abbrev TO := St -> Hp -> (Option Int -> Hp -> Prop) -> Prop
noncomputable def PO (X : Cx) (e : Option Expr) (t : TO) : Prop :=
 ∀ (pins : List (Addr × Obj)) (s : Shared) (σ : St) (H : Hp) (Q : Option Int -> Hp -> Prop), Inv X pins σ H s -> t σ H Q ->
  wpAny (model X.prog X.w) X.A (evalPart e X.env) (fun u s' => ∃ o H', Inv X pins σ H' s' /\ IsPart u o /\ Q o H') X.xe s
noncomputable def tNoPart : TO := fun _ H Q => Q none H
noncomputable def tPart (t : TE) : TO := fun σ H Q => t σ H fun x H1 => ∃ i, x = .int i /\ Q (some i) H1
section
variable {X : Cx} {e : Expr} {te : TE} {lo hi : Option Expr} {tl th : TO} {pos p2 : Pos}
theorem po_none : PO X none tNoPart := by
 intro pins s σ H Q I h
 rw [evalPart_none]
 exact wpAny_pure ⟨none, H, I, .none, h⟩
theorem po_some (h : PE X e te) : PO X (some e) (tPart te) := by
 intro pins s σ H Q I hw
 rw [evalPart_some]
 refine thn (h pins s σ H _ I hw) fun u s1 ⟨x, H1, I1, r1, q1⟩ => ?_
 obtain ⟨i, rfl, q⟩ := q1
 obtain ⟨t, rfl⟩ := r1
 exact ⟨some i, H1, I1, .int i t, q⟩
noncomputable def SlR (X : Cx) (r : V -> Option Int -> Option Int -> Hp -> VK -> Prop) : Prop :=
 ∀ (pins : List (Addr × Obj)) (s : Shared) (σ : St) (H : Hp) (x : V) (v vl vu : Value) (lo hi : Option Int) (sl : Addr) (Q : VK), Inv X pins σ H s -> RelV x v -> s.heap.IsSliceOf sl vl vu .none -> IsPart vl lo -> IsPart vu hi -> r x lo hi H Q ->
  ∃ T id, typeLookup (.type T) "__getitem__" = pure (some (.builtin id)) /\ s.TypeIs v T /\ wpAny (model X.prog X.w) X.A (getItem v (.ref sl)) (EP X pins σ Q) X.xe s
theorem SlR.or {r r' : V -> Option Int -> Option Int -> Hp -> VK -> Prop} (h : SlR X r) (h' : SlR X r') : SlR X (fun x lo hi H Q => r x lo hi H Q \/ r' x lo hi H Q) := by
 intro pins s σ H x v vl vu lo hi sl Q I rx hs pl pu q
 rcases q with q | q
 ·exact h pins s σ H x v vl vu lo hi sl Q I rx hs pl pu q
 ·exact h' pins s σ H x v vl vu lo hi sl Q I rx hs pl pu q
noncomputable def tSl (r : V -> Option Int -> Option Int -> Hp -> VK -> Prop) (te : TE) (tl th : TO) : TE := fun σ H Q => te σ H fun x H1 => tl σ H1 fun l H2 => th σ H2 fun u H3 => r x l u H3 Q
theorem pe_slice {r : V -> Option Int -> Option Int -> Hp -> VK -> Prop} (hr : SlR X r) (he : PE X e te) (hl : PO X lo tl) (hu : PO X hi th) : PE X (.Subscript e (.Slice lo hi none p2) pos) (tSl r te tl th) := by
 intro pins s σ H Q I h
 refine Subscript_ (thn (he pins s σ H _ I h) fun v s1 ⟨x, H1, I1, r1, q1⟩ => ?_)
 refine wpAny_Slice (thn (hl pins s1 σ H1 _ I1 q1) fun vl s2 ⟨l, H2, I2, pl, q2⟩ => thn (hu pins s2 σ H2 _ I2 q2) fun vu s3 ⟨u, H3, I3, pu, q3⟩ => ?_)
 rw [evalPart_none]
 refine wpAny_pure ?_
 have I4 : Inv X pins σ H3 { s3 with heap := s3.heap.push { cls := .type "slice", data := .fields #[vl, vu, .none] } } := I3.kept (t' := s3.toks) fun b ob q => Heap.get?_push_of_some _ q
 obtain ⟨T, id, hT, ht, hg⟩ := hr pins { s3 with heap := s3.heap.push { cls := .type "slice", data := .fields #[vl, vu, .none] } } σ H3 x v vl vu l u s3.heap.objs.size Q I4 r1 (Heap.IsSliceOf.new ..) pl pu q3
 show wpAny (model X.prog X.w) X.A (subscriptTail e (.Slice lo hi none p2) v (.ref s3.heap.objs.size)) (EP X pins σ Q) X.xe { s3 with heap := s3.heap.push { cls := .type "slice", data := .fields #[vl, vu, .none] } }
 exact tail_any (ops := [.ref s3.heap.objs.size, v]) ht hT hg (by with_unfolding_all rfl)
noncomputable def cutV (xs : List V) (lo hi : Option Int) : List V := (xs.drop (HT.sIx xs.length 0 lo)).take (HT.sIx xs.length xs.length hi - HT.sIx xs.length 0 lo)
theorem cutV_length (xs : List V) (lo hi : Option Int) : (cutV xs lo hi).length <= xs.length := by
 unfold cutV
 rw [List.length_take, List.length_drop]
 omega
noncomputable def rSlT (K : PySem.W.Frag) : V -> Option Int -> Option Int -> Hp -> VK -> Prop := fun x lo hi H Q => ∃ a xs, x = .ref a /\ SqT K H a xs /\
 ¬ (HT.sIx xs.length 0 lo = 0 /\ HT.sIx xs.length xs.length hi = xs.length) /\ ∀ p, H p = none -> Q (.ref p) (upd H p (.tup (cutV xs lo hi)))
theorem sl_tup : SlR X (rSlT X.K) := by
 intro pins s σ H x v vl vu lo hi sl Q I rx hs pl pu h
 obtain ⟨a, xs, rfl, hx, hw, q⟩ := h
 cases rx
 obtain ⟨its, r, ht, hz⟩ := I.tuple hx
 have hlen : its.toArray.size = xs.length := by rw [List.size_toArray]; exact r.length.symm
 refine ⟨"tuple", _, PyProof.Rows.slot_tuple_getitem.lookup, ht.typeIs, ?_⟩
 refine HT.getItem_tuple_cut ht hs pl pu (by rw [hlen]; exact hw) ?_ (by rw [hlen]; exact hz)
 rw [hlen]
 refine ⟨.ref s.heap.objs.size, _, I.laid (t' := s.toks) (o := .tup (cutV xs lo hi)) (fun b ob q => Heap.get?_push_of_some _ q) (Nat.le_refl _) ?_, rfl, q _ (I.hok.fresh (Nat.le_refl _))⟩
 exact ⟨Nat.le_trans (cutV_length xs lo hi) hz, _, (r.drop (HT.sIx xs.length 0 lo)).take (HT.sIx xs.length xs.length hi - HT.sIx xs.length 0 lo), IsTup.new _ _⟩
noncomputable def rCatT (K : PySem.W.Frag) : R2 := fun x y H Q => ∃ a b xs ys, x = .ref a /\ y = .ref b /\ SqT K H a xs /\ SqT K H b ys /\ xs ≠ [] /\ xs.length + ys.length <= sizeLine /\
 (ys = [] -> Q (.ref a) H) /\ (ys ≠ [] -> ∀ p, H p = none -> Q (.ref p) (upd H p (.tup (xs ++ ys))))
theorem Vals.nil_iff {xs : List V} {us : List Value} (r : Vals xs us) : us = [] ↔ xs = [] := by
 cases r with
 | nil => simp
 | cons _ _ => simp
theorem op_catT : OpR X (binaryOp .Add) (rCatT X.K) := by
 intro pins s σ H x y v u Q I rx ry h
 obtain ⟨a, b, xs, ys, rfl, rfl, ha, hb, hx, hz, q1, q2⟩ := h
 cases rx
 cases ry
 obtain ⟨its, r1, p1, _⟩ := I.tuple ha
 obtain ⟨its2, r2, p2, _⟩ := I.tuple hb
 refine HT.cat_tup p1 p2 (fun z => hx (r1.nil_iff.mp z)) (fun z => ⟨.ref a, H, I, rfl, q1 (r2.nil_iff.mp z)⟩) (fun z => ?_) (by rw [<- r1.length, <- r2.length]; exact hz)
 refine ⟨.ref s.heap.objs.size, _, I.laid (t' := s.toks) (o := .tup (xs ++ ys)) (fun b ob q => Heap.get?_push_of_some _ q) (Nat.le_refl _) ?_, rfl, q2 (fun w => z (r2.nil_iff.mpr w)) _ (I.hok.fresh (Nat.le_refl _))⟩
 exact ⟨by rw [List.length_append]; exact hz, _, r1.append r2, IsTup.new _ _⟩
end
end L2
namespace L2
open PySem PySem.Spec PyProof.Rows
noncomputable def ixN (n : Nat) (i : Int) : Option Nat := if 0 <= i then (if i < n then some i.toNat else none) else if -(n : Int) <= i then some (i + n).toNat else none
noncomputable def atI {α : Type} (xs : List α) (i : Int) : Option α := (ixN xs.length i).bind fun j => xs[j]?
theorem ixN_seq {n : Nat} {i : Int} {j : Nat} (h : ixN n i = some j) : seqIndex? i n = some j /\ j < n /\ -(n : Int) <= i /\ i < n := by
 unfold ixN at h
 by_cases h0 : 0 <= i
 ·rw [if_pos h0] at h
  by_cases h1 : i < n
  ·rw [if_pos h1] at h
   have e : i.toNat = j := Option.some.inj h
   exact ⟨by rw [seqIndex_of h0 h1, e], by omega, by omega, h1⟩
  ·rw [if_neg h1] at h; cases h
 ·rw [if_neg h0] at h
  by_cases h1 : -(n : Int) <= i
  ·rw [if_pos h1] at h
   have e : (i + n).toNat = j := Option.some.inj h
   exact ⟨by rw [seqIndex_neg (by omega) h1, e], by omega, h1, by omega⟩
  ·rw [if_neg h1] at h; cases h
theorem atI_get {α : Type} {xs : List α} {i : Int} {v : α} (h : atI xs i = some v) : ∃ j, seqIndex? i xs.length = some j /\ xs[j]? = some v /\ j < xs.length /\ -(xs.length : Int) <= i /\ i < xs.length := by
 unfold atI at h
 cases e : ixN xs.length i with
 | none => rw [e] at h; cases h
 | some j =>
  rw [e] at h
  obtain ⟨h1, h2, h3, h4⟩ := ixN_seq e
  exact ⟨j, h1, h, h2, h3, h4⟩
noncomputable def PlainIx (b : Expr) : Prop := ∀ o i, subscripted b false o i = operate [o, i] (getItem o i)
noncomputable def IxR (X : Cx) (r : R2) : Prop :=
 ∀ (value slice : Expr) (pins : List (Addr × Obj)) (s : Shared) (σ : St) (H : Hp) (x y : V) (v u : Value) (Q : VK), Inv X pins σ H s -> RelV x v -> RelV y u -> r x y H Q ->
  subscripted slice false v u = operate [v, u] (getItem v u) -> wpAny (model X.prog X.w) X.A (subscriptTail value slice v u) (EP X pins σ Q) X.xe s
noncomputable def MtR (X : Cx) (id : String) (r : V -> List V -> Hp -> VK -> Prop) : Prop :=
 ∀ (pins : List (Addr × Obj)) (s : Shared) (σ : St) (H : Hp) (x : V) (xs : List V) (v : Value) (us : List Value) (Q : VK), Inv X pins σ H s -> RelV x v -> Vals xs us -> r x xs H Q ->
  wpAny (model X.prog X.w) X.A (call (.builtin id) (v :: us)) (EP X pins σ Q) X.xe s
section
variable {X : Cx} {a b : Expr} {ta tb : TE} {pos : Pos}
theorem IxR.or {r r' : R2} (h : IxR X r) (h' : IxR X r') : IxR X (fun x y H Q => r x y H Q \/ r' x y H Q) := by
 intro value slice pins s σ H x y v u Q I rx ry q hs
 rcases q with q | q
 ·exact h value slice pins s σ H x y v u Q I rx ry q hs
 ·exact h' value slice pins s σ H x y v u Q I rx ry q hs
theorem MtR.or {id : String} {r r' : V -> List V -> Hp -> VK -> Prop} (h : MtR X id r) (h' : MtR X id r') : MtR X id (fun x xs H Q => r x xs H Q \/ r' x xs H Q) := by
 intro pins s σ H x xs v us Q I rx rs q
 rcases q with q | q
 ·exact h pins s σ H x xs v us Q I rx rs q
 ·exact h' pins s σ H x xs v us Q I rx rs q
theorem pe_ix {r : R2} (hr : IxR X r) (ha : PE X a ta) (hb : PE X b tb) (hs : PlainIx b) : PE X (.Subscript a b pos) (tOp r ta tb) := by
 intro pins s σ H Q I h
 exact Subscript_ (binT ha hb I h fun v u s2 x y H2 I2 rx ry q => hr a b pins s2 σ H2 x y v u Q I2 rx ry q (hs _ _))
noncomputable def rIxL (K : PySem.W.Frag) : R2 := fun x y H Q => ∃ p xs i v, x = .ref p /\ y = .int i /\ SqL K H p xs /\ atI xs i = some v /\ Q v H
noncomputable def rIxT (K : PySem.W.Frag) : R2 := fun x y H Q => ∃ p xs i v, x = .ref p /\ y = .int i /\ SqT K H p xs /\ atI xs i = some v /\ Q v H
noncomputable def rIxS : R2 := fun x y H Q => ∃ z i c, x = .str z /\ y = .int i /\ z.length <= sizeLine /\ atI z.cps.toList i = some c /\ Q (.str ⟨#[c]⟩) H
theorem ix_list : IxR X (rIxL X.K) := by
 intro value slice pins s σ H x y v u Q I rx ry h hs
 obtain ⟨p, xs, i, z, rfl, rfl, hq, he, q⟩ := h
 cases rx
 obtain ⟨t, rfl⟩ := ry
 obtain ⟨its, r, pl, hz⟩ := I.list hq
 obtain ⟨j, h1, h2, h3, h4, h5⟩ := atI_get he
 obtain ⟨w, ew, rw'⟩ := r.get h2
 have hl := r.length
 have hn := line63
 have fin : EP X pins σ Q w s := ⟨z, H, I, rw', q⟩
 by_cases h0 : 0 <= i
 ·have hj : i.toNat = j := by
   rw [seqIndex_of h0 h5] at h1
   exact Option.some.inj h1
  exact item_listR pl.isList h0 (by omega) (by rw [hj]; simpa using ew) fin hs
 ·have hj : (i + (its.toArray.size : Int)).toNat = j := by
   rw [seqIndex_neg (by omega) h4] at h1
   rw [List.size_toArray, <- hl]
   exact Option.some.inj h1
  exact subscriptTail_builtinR (x := w) pl.isList.typeIs slot_list_getitem.lookup
   (wpAny_getItem_list_neg (Q := fun r s' => r = w /\ EP X pins σ Q r s') pl.isList (by omega) (by rw [List.size_toArray] <;> omega) (by omega) (by rw [hj]; simpa using ew) ⟨rfl, fin⟩) hs
theorem ix_tup : IxR X (rIxT X.K) := by
 intro value slice pins s σ H x y v u Q I rx ry h hs
 obtain ⟨p, xs, i, z, rfl, rfl, hq, he, q⟩ := h
 cases rx
 obtain ⟨t, rfl⟩ := ry
 obtain ⟨its, r, pl, hz⟩ := I.tuple hq
 obtain ⟨j, h1, h2, h3, h4, h5⟩ := atI_get he
 obtain ⟨w, ew, rw'⟩ := r.get h2
 have hl := r.length
 have hn := line63
 have fin : EP X pins σ Q w s := ⟨z, H, I, rw', q⟩
 exact subscriptTail_builtinR (x := w) pl.typeIs slot_tuple_getitem.lookup
  (getItem_tuple (j := j) (Q := fun r s' => r = w /\ EP X pins σ Q r s') pl (by omega) (by omega) (by rw [List.size_toArray, <- hl]; exact h1) (by simpa using ew) ⟨rfl, fin⟩) hs
theorem ix_str : IxR X rIxS := by
 intro value slice pins s σ H x y v u Q I rx ry h hs
 obtain ⟨z, i, c, rfl, rfl, hz, he, q⟩ := h
 obtain ⟨t, rfl⟩ := rx
 obtain ⟨t', rfl⟩ := ry
 obtain ⟨j, h1, h2, h3, h4, h5⟩ := atI_get he
 have hl : z.cps.toList.length = z.length := by simp [Str.length]
 rw [hl] at h1 h4 h5
 have hn := line63
 exact tail_any (typeIs_str s z t) slot_str_getitem.lookup (getItem_str (c := c) (by
  have e1 : decide (i < -(2 ^ 63 : Int)) = false := decide_eq_false (by omega)
  have e2 : decide (i >= 2 ^ 63) = false := decide_eq_false (by omega)
  rw [e1, e2, Bool.or_false]) (by rw [h1]; simpa using h2) ⟨.str ⟨#[c]⟩, H, I.tok _, ⟨_, rfl⟩, q⟩) hs
theorem mapSeq_set (its : List Value) (n j : Nat) (u : Value) : Obj.mapSeq (·.setIfInBounds j u) { cls := .type "list", data := .seq its.toArray n } = { cls := .type "list", data := .seq (its.set j u).toArray n } := by
 simp [Obj.mapSeq]
theorem Inv.lst {pins : List (Addr × Obj)} {σ : St} {H : Hp} {s : Shared} {p : Addr} {xs : List V} (I : Inv X pins σ H s) (h : H p = some (.lst xs)) :
  ∃ (its : List Value) (n : Nat), Vals xs its /\ s.heap.get? p = some { cls := .type "list", data := .seq its.toArray n } /\ xs.length <= sizeLine := by
 obtain ⟨z, its, n, r, e⟩ := I.hok p _ h
 exact ⟨its, n, r, e, z⟩
theorem Inv.lstUpd {pins : List (Addr × Obj)} {σ : St} {H : Hp} {s : Shared} {p : Addr} {xs ys : List V} {its its' : List Value} {n n' : Nat} {f : Obj -> Obj} (I : Inv X pins σ H s) (h : H p = some (.lst xs))
  (ho : s.heap.get? p = some { cls := .type "list", data := .seq its.toArray n }) (hf : f { cls := .type "list", data := .seq its.toArray n } = { cls := .type "list", data := .seq its'.toArray n' }) (r : Vals ys its') (hz : ys.length <= sizeLine) (t : Nat) :
  Inv X pins σ (upd H p (.lst ys)) { s with heap := s.heap.update p f, toks := t } := by
 have e : (s.heap.update p f).get? p = some { cls := .type "list", data := .seq its'.toArray n' } := by
  rw [Heap.get?_update_self f ho (by rw [hf] <;> rfl), hf]
 refine I.write (x := p) (e := p) (by rw [h]; trivial) (.inl rfl) (fun b u hb q => (Heap.get?_update_other _ _ (Ne.symm hb)).trans q) ⟨_, e⟩ ?_
 exact ⟨hz, its', n', r, e⟩
noncomputable def rSetL : V -> V -> V -> Hp -> (Hp -> Prop) -> Prop := fun o i v H Q => ∃ p xs k j, o = .ref p /\ i = .int k /\ H p = some (.lst xs) /\ ixN xs.length k = some j /\ Q (upd H p (.lst (xs.set j v)))
theorem set_list : PSet X rSetL := by
 intro pins s σ H o i v ov iv u Q I ro ri rv h
 obtain ⟨p, xs, k, j, rfl, rfl, hp, hj, q⟩ := h
 cases ro
 obtain ⟨t, rfl⟩ := ri
 obtain ⟨its, n, r, ho, hz⟩ := I.lst hp
 obtain ⟨h1, h2, h3, h4⟩ := ixN_seq hj
 have hl := r.length
 have hn := line63
 have I' : Inv X pins σ (upd H p (.lst (xs.set j v))) { s with heap := s.heap.update p (Obj.mapSeq (·.setIfInBounds j u)) } :=
  I.lstUpd hp ho (mapSeq_set its n j u) (r.set rv j) (by rw [List.length_set]; exact hz) s.toks
 by_cases h0 : 0 <= k
 ·have hk : k.toNat = j := by
   rw [seqIndex_of h0 h4] at h1
   exact Option.some.inj h1
  exact PySem.W.ki_setAt ho h0 (by omega) (by rw [List.size_toArray, <- hl]; exact h4) (by rw [hk]; exact ⟨_, I', q⟩)
 ·have hk : (k + (its.toArray.size : Int)).toNat = j := by
   rw [seqIndex_neg (by omega) h3] at h1
   rw [List.size_toArray, <- hl]
   exact Option.some.inj h1
  exact PySem.W.ki_setBack ho (by omega) (by rw [List.size_toArray, <- hl]; exact h3) (by omega) (by rw [hk]; exact ⟨_, I', q⟩)
theorem slice_bounds (lo hi : Option Int) (n : Nat) : (sliceBounds lo hi none n).1 = ((HT.sIx n 0 lo : Nat) : Int) /\ (sliceBounds lo hi none n).2.1 = ((HT.sIx n n hi : Nat) : Int) /\ (sliceBounds lo hi none n).2.2 = 1 := by
 refine ⟨?_, ?_, rfl⟩
 ·cases lo with
  | none => simp [sliceBounds, HT.sIx]
  | some i =>
   simp only [sliceBounds, HT.sIx, Option.getD_none, show (1 : Int) > 0 by decide, if_true]
   by_cases h : i < 0
   ·simp only [h, if_true] <;> omega
   ·simp only [h, if_false] <;> omega
 ·cases hi with
  | none => simp [sliceBounds, HT.sIx]
  | some i =>
   simp only [sliceBounds, HT.sIx, Option.getD_none, show (1 : Int) > 0 by decide, if_true]
   by_cases h : i < 0
   ·simp only [h, if_true] <;> omega
   ·simp only [h, if_false] <;> omega
theorem slicePick_cut (its : List Value) (lo hi : Option Int) : slicePick its.toArray lo hi none = ((its.drop (HT.sIx its.length 0 lo)).take (HT.sIx its.length its.length hi - HT.sIx its.length 0 lo)).toArray := by
 obtain ⟨h1, h2, h3⟩ := slice_bounds lo hi its.toArray.size
 unfold slicePick
 rw [h1, h2, h3]
 simp only [sliceRange_one, pick_run, List.size_toArray] <;> rfl
noncomputable def rSlL (K : PySem.W.Frag) : V -> Option Int -> Option Int -> Hp -> VK -> Prop := fun x lo hi H Q => ∃ a xs, x = .ref a /\ SqL K H a xs /\ ∀ p, H p = none -> Q (.ref p) (upd H p (.lst (cutV xs lo hi)))
theorem sl_list : SlR X (rSlL X.K) := by
 intro pins s σ H x v vl vu lo hi sl Q I rx hs pl pu h
 obtain ⟨a, xs, rfl, hx, q⟩ := h
 cases rx
 obtain ⟨its, r, ht, hz⟩ := I.list hx
 have hlen := r.length
 refine ⟨"list", _, slot_list_getitem.lookup, ht.isList.typeIs, ?_⟩
 refine wpAny_getItem_list_slice ht.isList hs pl pu .none (by simp) ?_ (by rw [List.size_toArray] <;> omega)
 rw [slicePick_cut, <- hlen]
 refine ⟨.ref s.heap.objs.size, _, I.laid (t' := s.toks) (o := .lst (cutV xs lo hi)) (fun b ob q => Heap.get?_push_of_some _ q) (Nat.le_refl _) ?_, rfl, q _ (I.hok.fresh (Nat.le_refl _))⟩
 exact ⟨Nat.le_trans (cutV_length xs lo hi) hz, _, 0, (r.drop (HT.sIx xs.length 0 lo)).take (HT.sIx xs.length xs.length hi - HT.sIx xs.length 0 lo), Heap.get?_push_size _ rfl⟩
noncomputable def flatV : V -> Bool
 | .non => true
 | .bl _ => true
 | .int _ => true
 | .str _ => true
 | _ => false
noncomputable def eqV : V -> V -> Bool
 | .non, .non => true
 | .bl a, .bl b => a == b
 | .bl a, .int b => (if a then 1 else 0) == b
 | .int a, .bl b => a == (if b then 1 else 0)
 | .int a, .int b => a == b
 | .str a, .str b => a == b
 | _, _ => false
theorem eqAt_V {A : Around} {s : Shared} {y x : V} {u v : Value} (ry : RelV y u) (rx : RelV x v) (fy : flatV y = true) (fx : flatV x = true) : SeqAt.EqAt A s u v (eqV y x) := by
 cases y with
 | non =>
  cases ry
  cases x with
  | non => cases rx; exact SeqAt.EqAt.same _
  | bl b => cases rx; exact SeqAt.EqAt.none_bool b
  | int b => obtain ⟨t, rfl⟩ := rx; exact SeqAt.EqAt.none_int b t
  | str b => obtain ⟨t, rfl⟩ := rx; exact SeqAt.EqAt.none_str b t
  | _ => exact absurd (show false = true from fx) Bool.false_ne_true
 | bl a =>
  cases ry
  cases x with
  | non => cases rx; exact SeqAt.EqAt.bool_none a
  | bl b => cases rx; exact SeqAt.EqAt.bool_bool a b
  | int b => obtain ⟨t, rfl⟩ := rx; exact SeqAt.EqAt.bool_int a b t
  | str b => obtain ⟨t, rfl⟩ := rx; exact SeqAt.EqAt.bool_str a b t
  | _ => exact absurd (show false = true from fx) Bool.false_ne_true
 | int a =>
  obtain ⟨t', rfl⟩ := ry
  cases x with
  | non => cases rx; exact SeqAt.EqAt.int_none a t'
  | bl b => cases rx; exact SeqAt.EqAt.int_bool a t' b
  | int b => obtain ⟨t, rfl⟩ := rx; exact SeqAt.EqAt.int_int a t' b t
  | str b => obtain ⟨t, rfl⟩ := rx; exact SeqAt.EqAt.int_str a t' b t
  | _ => exact absurd (show false = true from fx) Bool.false_ne_true
 | str a =>
  obtain ⟨t', rfl⟩ := ry
  cases x with
  | non => cases rx; exact SeqAt.EqAt.str_none a t'
  | bl b => cases rx; exact SeqAt.EqAt.str_bool a t' b
  | int b => obtain ⟨t, rfl⟩ := rx; exact SeqAt.EqAt.str_int a t' b t
  | str b => obtain ⟨t, rfl⟩ := rx; exact SeqAt.EqAt.str_str a t' b t
  | _ => exact absurd (show false = true from fx) Bool.false_ne_true
 | _ => exact absurd (show false = true from fy) Bool.false_ne_true
noncomputable def eqU (x : V) (u : Value) : Bool := match u with
 | .none => eqV .non x
 | .bool b => eqV (.bl b) x
 | .int i _ => eqV (.int i) x
 | .str z _ => eqV (.str z) x
 | _ => false
theorem eqU_of {x y : V} {u : Value} (r : RelV y u) (f : flatV y = true) : eqU x u = eqV y x := by
 cases y with
 | non => cases r; rfl
 | bl b => cases r; rfl
 | int i => obtain ⟨t, rfl⟩ := r; rfl
 | str z => obtain ⟨t, rfl⟩ := r; rfl
 | _ => exact absurd (show false = true from f) Bool.false_ne_true
theorem any_eqU {x : V} : ∀ {xs : List V} {us : List Value}, Vals xs us -> xs.all flatV = true -> us.any (eqU x) = xs.any fun y => eqV y x
 | _, _, .nil, _ => rfl
 | y :: xs, u :: us, .cons r t, f => by
  rw [List.all_cons, Bool.and_eq_true] at f
  rw [List.any_cons, List.any_cons, eqU_of r f.1, any_eqU t f.2]
theorem mem_eqAt {A : Around} {s : Shared} {x : V} {v : Value} (rx : RelV x v) (fx : flatV x = true) : ∀ {xs : List V} {us : List Value}, Vals xs us -> xs.all flatV = true -> ∀ u ∈ us, SeqAt.EqAt A s u v (eqU x u)
 | _, _, .nil, _ => fun u hu => by cases hu
 | y :: xs, u :: us, .cons r t, f => fun u' hu => by
  rw [List.all_cons, Bool.and_eq_true] at f
  rcases List.mem_cons.mp hu with rfl | hu
  ·rw [eqU_of r f.1]; exact eqAt_V r rx f.1 fx
  ·exact mem_eqAt rx fx t f.2 u' hu
noncomputable def inV (x : V) (xs : List V) : Bool := xs.any fun y => eqV y x
noncomputable def rIn (K : PySem.W.Frag) (neg : Bool) : R2 := fun x y H Q => ∃ p xs, y = .ref p /\ (SqL K H p xs \/ SqT K H p xs) /\ flatV x = true /\ xs.all flatV = true /\ Q (.bl (if neg then !inV x xs else inV x xs)) H
theorem op_in_seq : OpR X (compareOp .In) (rIn X.K false) := by
 intro pins s σ H x y v u Q I rx ry h
 obtain ⟨p, xs, rfl, hq, fx, fs, q⟩ := h
 cases ry
 rcases hq with hq | hq
 ·obtain ⟨its, r, pl, hz⟩ := I.list hq
  refine SeqAt.in_listAt (eqU x) pl.isList (fun w hw => mem_eqAt rx fx r fs w (by simpa using hw)) ⟨.bl _, H, I, rfl, ?_⟩
  rw [show its.toArray.any (eqU x) = its.any (eqU x) by simp, any_eqU r fs]
  exact q
 ·obtain ⟨its, r, pl, hz⟩ := I.tuple hq
  refine SeqAt.in_tupleAt (eqU x) pl (fun w hw => mem_eqAt rx fx r fs w (by simpa using hw)) ⟨.bl _, H, I, rfl, ?_⟩
  rw [show its.toArray.any (eqU x) = its.any (eqU x) by simp, any_eqU r fs]
  exact q
theorem op_notIn_seq : OpR X (compareOp .NotIn) (rIn X.K true) := by
 intro pins s σ H x y v u Q I rx ry h
 obtain ⟨p, xs, rfl, hq, fx, fs, q⟩ := h
 cases ry
 rcases hq with hq | hq
 ·obtain ⟨its, r, pl, hz⟩ := I.list hq
  refine SeqAt.notIn_listAt (eqU x) pl.isList (fun w hw => mem_eqAt rx fx r fs w (by simpa using hw)) ⟨.bl _, H, I, rfl, ?_⟩
  rw [show its.toArray.any (eqU x) = its.any (eqU x) by simp, any_eqU r fs]
  exact q
 ·obtain ⟨its, r, pl, hz⟩ := I.tuple hq
  refine SeqAt.notIn_tupleAt (eqU x) pl (fun w hw => mem_eqAt rx fx r fs w (by simpa using hw)) ⟨.bl _, H, I, rfl, ?_⟩
  rw [show its.toArray.any (eqU x) = its.any (eqU x) by simp, any_eqU r fs]
  exact q
theorem op_notIn_str : OpR X (compareOp .NotIn) (fun x y H Q => ∃ i j, x = .str i /\ y = .str j /\ Q (.bl (!(!(Builtin.Str.occurrences j i 0 j.length 1).isEmpty))) H) := by
 intro pins s σ H x y v u Q I rx ry h
 obtain ⟨i, j, rfl, rfl, q⟩ := h
 obtain ⟨t, rfl⟩ := rx
 obtain ⟨t', rfl⟩ := ry
 exact notIn_str ⟨.bl _, H, I, rfl, q⟩
theorem call_len_seq : CallR X (.builtin "len") (fun xs H Q => ∃ p ys, xs = [.ref p] /\ (SqL X.K H p ys \/ SqT X.K H p ys) /\ Q (.int ys.length) H) := by
 intro pins s σ H xs us Q I r h
 obtain ⟨p, ys, rfl, hq, q⟩ := h
 obtain ⟨u, rfl, rx⟩ := vals1 r
 cases rx
 have hn := line63
 rcases hq with hq | hq
 ·obtain ⟨its, r', pl, hz⟩ := I.list hq
  have hlen := r'.length
  exact Calls.call_len_list pl.isList (by simp only [List.size_toArray] <;> omega) ⟨.int ys.length, H, I.tok _, ⟨s.toks + 1, by rw [List.size_toArray, hlen]⟩, q⟩
 ·obtain ⟨its, r', pl, hz⟩ := I.tuple hq
  have hlen := r'.length
  exact len_tuple pl (by simp only [List.size_toArray] <;> omega) ⟨.int ys.length, H, I.tok _, ⟨s.toks + 1, by rw [List.size_toArray, hlen]⟩, q⟩
theorem call_len_str : CallR X (.builtin "len") (fun xs H Q => ∃ z, xs = [.str z] /\ z.length <= sizeLine /\ Q (.int z.length) H) := by
 intro pins s σ H xs us Q I r h
 obtain ⟨z, rfl, hz, q⟩ := h
 obtain ⟨u, rfl, t, rfl⟩ := vals1 r
 have hn := line63
 exact len_str (by omega) ⟨.int z.length, H, I.tok _, ⟨_, rfl⟩, q⟩
theorem CallR.or {f : Value} {r r' : List V -> Hp -> VK -> Prop} (h : CallR X f r) (h' : CallR X f r') : CallR X f (fun xs H Q => r xs H Q \/ r' xs H Q) := by
 intro pins s σ H xs us Q I rs q
 rcases q with q | q
 ·exact h pins s σ H xs us Q I rs q
 ·exact h' pins s σ H xs us Q I rs q
theorem call_list_of : CallR X (.type "list") (fun xs H Q => ∃ p ys, xs = [.ref p] /\ (SqL X.K H p ys \/ SqT X.K H p ys) /\ ∀ l, H l = none -> Q (.ref l) (upd H l (.lst ys))) := by
 intro pins s σ H xs us Q I r h
 obtain ⟨p, ys, rfl, hq, q⟩ := h
 obtain ⟨u, rfl, rx⟩ := vals1 r
 cases rx
 have fin : ∀ (its : List Value), Vals ys its -> ys.length <= sizeLine -> ∀ (h' : Heap) (c' : Nat), (∀ b o', s.heap.get? b = some o' -> h'.get? b = some o') ->
   h'.get? s.heap.objs.size = some { cls := .type "list", dict := none, data := .seq its.toArray c', slots := #[] } -> EP X pins σ Q (.ref s.heap.objs.size) { s with heap := h' } := fun its r' hz h' c' kp e =>
  ⟨.ref s.heap.objs.size, _, I.laid (t' := s.toks) kp (Nat.le_refl _) (show ObjOk X.prog X.w _ h' _ (.lst ys) from ⟨hz, its, c', r', e⟩), rfl, q _ (I.hok.fresh (Nat.le_refl _))⟩
 rcases hq with hq | hq
 ·obtain ⟨its, r', pl, hz⟩ := I.list hq
  have hlen := r'.length
  obtain ⟨o, ho, hc, n, hd⟩ := pl.isList
  exact call_list_seq p (.inl rfl) ho hc hd (fun h' c' kp e => fin its r' hz h' c' kp e) (by simp only [List.size_toArray] <;> omega)
 ·obtain ⟨its, r', pl, hz⟩ := I.tuple hq
  have hlen := r'.length
  obtain ⟨o, ho, hc, n, hd⟩ := pl
  exact call_list_seq p (.inr rfl) ho hc hd (fun h' c' kp e => fin its r' hz h' c' kp e) (by simp only [List.size_toArray] <;> omega)
theorem call_tuple_of : CallR X (.type "tuple") (fun xs H Q => ∃ p ys, xs = [.ref p] /\ ((SqL X.K H p ys /\ ∀ l, H l = none -> Q (.ref l) (upd H l (.tup ys))) \/ (SqT X.K H p ys /\ Q (.ref p) H))) := by
 intro pins s σ H xs us Q I r h
 obtain ⟨p, ys, rfl, h⟩ := h
 obtain ⟨u, rfl, rx⟩ := vals1 r
 cases rx
 rcases h with ⟨hq, q⟩ | ⟨hq, q⟩
 ·obtain ⟨its, r', pl, hz⟩ := I.list hq
  have hlen := r'.length
  refine call_tuple_list pl.isList (fun h' kp => ?_) (by simp only [List.size_toArray] <;> omega)
  have I1 : Inv X pins σ H { s with heap := h' } := I.kept (t' := s.toks) kp
  have I2 : Inv X pins σ (upd H h'.objs.size (.tup ys)) { s with heap := h'.push { cls := .type "tuple", data := .seq its.toArray } } :=
   I1.laid (t' := s.toks) (fun b o e => Heap.get?_push_of_some _ e) (Nat.le_refl _) (show ObjOk X.prog X.w _ _ _ (.tup ys) from ⟨hz, its, r', IsTup.new _ _⟩)
  exact ⟨.ref h'.objs.size, _, I2, rfl, q _ (I1.hok.fresh (Nat.le_refl _))⟩
 ·obtain ⟨its, r', pl, hz⟩ := I.tuple hq
  exact call_tuple_same pl ⟨.ref p, H, I, rfl, q⟩
noncomputable def tyV (K : PySem.W.Frag) (T : String) (x : V) (H : Hp) : Prop := match x with
 | .str _ => T = "str"
 | .int _ => T = "int"
 | .ref p => (T = "list" /\ ∃ xs, SqL K H p xs) \/ (T = "tuple" /\ ∃ o, K.lookup p = some o /\ o.cls = .type "tuple" /\ o.dict = none) \/
   (T = "dict" /\ ((∃ kvs, H p = some (.dK kvs)) \/ ∃ kvs, H p = some (.dT kvs))) \/ (T = "set" /\ ∃ S n, H p = some (.set S n))
 | _ => False
theorem tyV_is {pins : List (Addr × Obj)} {σ : St} {H : Hp} {s : Shared} {T : String} {x : V} {v : Value} (I : Inv X pins σ H s) (r : RelV x v) (ty : tyV X.K T x H) :
  s.TypeIs v T /\ ∀ a, v = .ref a -> ∃ ob, s.heap.get? a = some ob /\ ob.dict = none := by
 cases x with
 | str z =>
  obtain ⟨t, rfl⟩ := r
  cases (show T = "str" from ty)
  exact ⟨typeIs_str s z t, fun _ e => nomatch e⟩
 | int i =>
  obtain ⟨t, rfl⟩ := r
  cases (show T = "int" from ty)
  exact ⟨typeIs_int s i t, fun _ e => nomatch e⟩
 | ref p =>
  cases r
  rcases ty with ⟨rfl, xs, hq⟩ | ⟨rfl, o, hk, hc, hd⟩ | ⟨rfl, hk⟩ | ⟨rfl, S, n, hk⟩
  ·obtain ⟨its, _, pl, _⟩ := I.list hq
   refine ⟨pl.isList.typeIs, fun a e => ?_⟩
   cases e
   obtain ⟨o, n, e, c, hd, _⟩ := pl
   exact ⟨o, e, hd⟩
  ·refine ⟨⟨o, I.kIn p o hk, hc⟩, fun a e => ?_⟩
   cases e
   exact ⟨o, I.kIn _ o hk, hd⟩
  ·have z : ∃ o, s.heap.get? p = some o /\ o.ExactDict := by
    rcases hk with ⟨kvs, hk⟩ | ⟨kvs, hk⟩
    ·obtain ⟨_, _, _, _, o, _, _, e, ex, _⟩ := I.hok p _ hk
     exact ⟨o, e, ex⟩
    ·obtain ⟨_, _, _, _, o, _, _, e, ex, _⟩ := I.hok p _ hk
     exact ⟨o, e, ex⟩
   obtain ⟨o, e, ex⟩ := z
   refine ⟨⟨o, e, ex.1⟩, fun a e2 => ?_⟩
   cases e2
   exact ⟨o, e, ex.2.1⟩
  ·obtain ⟨o, _, _, _, e, ex, _⟩ := I.hok p _ hk
   refine ⟨⟨o, e, ex.1⟩, fun a e2 => ?_⟩
   cases e2
   exact ⟨o, e, ex.2.1⟩
 | _ => exact False.elim ty
noncomputable def tBM (K : PySem.W.Frag) (T : String) (r : V -> List V -> Hp -> VK -> Prop) (to : TE) (t : TA) : TE := fun σ H Q => to σ H fun x H1 => tyV K T x H1 /\ t σ H1 fun xs H2 => r x xs H2 Q
variable {o e : Expr} {es : List Expr} {to : TE} {t : TA} {name : Str} {apos cpos : Pos} {T id : String} {r : V -> List V -> Hp -> VK -> Prop}
theorem pe_bm (pa : PlainAttrs T) (slot : Slot T name id) (hty : typeOf (.builtin id) = pure (.type "method_descriptor")) (hm : MtR X id r) (ho : PE X o to) (ha : PA X (e :: es) t)
  (hbase : attributeBase o name X.env (eval o X.env) = eval o X.env := by rfl)
  (hfew : ((backTo cpos (starEach (e :: es) X.env)).all (fun x => !x.1) && (backToKw cpos (keywordEach [] X.env)).all (fun x => x.1.isSome)
   && decide ((e :: es).length + ([] : List Keyword).length + (if ([] : List Keyword).isEmpty then 0 else 1) < 30)) = true := by rfl)
  (hline : (apos.endLine == cpos.line) = true := by rfl) (hs : starEach (e :: es) X.env = (false, eval e X.env) :: starEach es X.env := by rfl) (hplain : (backTo cpos (starEach es X.env)).any (·.1) = false := by rfl) :
  PE X (.Call (.Attribute o name apos) (e :: es) [] cpos) (tBM X.K T r to t) := by
 intro pins s σ H Q I h
 refine wpAny_Call_method_late hbase hfew hline rfl (thn (ho pins s σ H _ I h) fun v s1 ⟨x, H1, I1, r1, ty, q1⟩ => ?_)
 obtain ⟨h1, h2⟩ := tyV_is I1 r1 ty
 refine ⟨T, id, pa, slot, hty, h1, h2, ?_⟩
 have hA := ha cpos pins s1 σ H1 _ I1 q1
 rw [hs] at hA ⊢
 refine Calls.callWith_builtin (by show (false || (backTo cpos (starEach es X.env)).any (·.1)) = false; rw [hplain] <;> rfl) (Calls.evalArgs_plain ?_)
 exact thn hA fun us s2 ⟨vs, H2, I2, r2, q2⟩ => hm pins s2 σ H2 x vs v us Q I2 r1 r2 q2
end
end L2
namespace L2
open PySem PySem.Spec PyProof.Rows
noncomputable def MtM (X : Cx) (id : String) (r : V -> List V -> Hp -> VK -> Prop) : Prop :=
 ∀ (pins : List (Addr × Obj)) (s : Shared) (σ : St) (H : Hp) (x : V) (xs : List V) (v : Value) (us : List Value) (Q : VK), Inv X pins σ H s -> RelV x v -> Vals xs us -> r x xs H Q ->
  wpAny (model X.prog X.w) X.A (call (.builtin id) (v :: us)) (EP X pins σ Q) X.xe s
theorem Vals.one : ∀ {x : V} {us : List Value}, Vals [x] us -> ∃ u, us = [u] /\ RelV x u
 | _, _, .cons r .nil => ⟨_, rfl, r⟩
theorem Vals.two : ∀ {x y : V} {us : List Value}, Vals [x, y] us -> ∃ u v, us = [u, v] /\ RelV x u /\ RelV y v
 | _, _, _, .cons r (.cons q .nil) => ⟨_, _, rfl, r, q⟩
theorem Vals.reverse {xs : List V} {us : List Value} (h : Vals xs us) : Vals xs.reverse us.reverse := by
 induction h with
 | nil => exact .nil
 | cons r t ih => rw [List.reverse_cons, List.reverse_cons]; exact Vals.append ih (.cons r .nil)
section
variable {X : Cx} {pins : List (Addr × Obj)} {σ : St} {H : Hp} {s : Shared} {l b : Addr} {xs ys zs : List V}
theorem Inv.lset {its its' : List Value} {n : Nat} {f : Array Value -> Array Value} {t' : Nat} (I : Inv X pins σ H s) (hH : H l = some (.lst xs))
  (e : s.heap.get? l = some { cls := .type "list", data := .seq its.toArray n }) (hf : f its.toArray = its'.toArray) (hv : Vals ys its') (hz : ys.length <= sizeLine) :
  Inv X pins σ (upd H l (.lst ys)) { s with heap := s.heap.update l (Obj.mapSeq f), toks := t' } := by
 have q := PySem.IsL.update e f
 rw [hf] at q
 refine I.write (x := l) (e := l) (by rw [hH]; exact trivial) (.inl rfl) (fun b' u hb hu => (Heap.get?_update_other s.heap (Obj.mapSeq f) (Ne.symm hb)).trans hu) ⟨_, q⟩ ?_
 exact ⟨hz, its', _, hv, q⟩
theorem Inv.lnew {its : List Value} {t' : Nat} (I : Inv X pins σ H s) (hv : Vals ys its) (hz : ys.length <= sizeLine) :
  Inv X pins σ (upd H s.heap.objs.size (.lst ys)) { s with heap := s.heap.push { cls := .type "list", data := .seq its.toArray }, toks := t' } :=
 I.laid (fun _ _ q => Heap.get?_push_of_some _ q) (Nat.le_refl _) ⟨hz, its, 0, hv, Heap.get?_push_size _ rfl⟩
theorem Inv.fresh (I : Inv X pins σ H s) : H s.heap.objs.size = none := I.hok.fresh (Nat.le_refl _)
theorem Inv.lstM (I : Inv X pins σ H s) (hH : H l = some (.lst xs)) : xs.length <= sizeLine /\ ∃ (its : List Value) (n : Nat), Vals xs its /\ xs.length = its.length /\ s.heap.get? l = some { cls := .type "list", data := .seq its.toArray n } := by
 obtain ⟨z, its, n, r, e⟩ := I.hok l _ hH
 exact ⟨z, its, n, r, r.length, e⟩
theorem notLongL {n : Nat} (h : n <= sizeLine) : Builtin.List.listTooLong n = false := by
 unfold Builtin.List.listTooLong
 exact decide_eq_false (by omega)
end
section
variable {X : Cx}
noncomputable def rAppend : V -> List V -> Hp -> VK -> Prop := fun x vs H Q => ∃ l xs y, x = .ref l /\ vs = [y] /\ H l = some (.lst xs) /\ xs.length < sizeLine /\ Q .non (upd H l (.lst (xs ++ [y])))
theorem mt_append : MtM X "list.append" rAppend := by
 intro pins s σ H x vs v us Q I rx rv h
 obtain ⟨l, xs, y, rfl, rfl, hH, hz, q⟩ := h
 cases rx
 obtain ⟨u, rfl, ru⟩ := rv.one
 obtain ⟨z, its, n, r, hl, e⟩ := I.lstM hH
 refine call_meets F.slot_list_append ⟨_, e, rfl⟩ F.entry_list_append (F.args_list_append_2 _ _) (PySem.list_append l its.toArray n u (by rw [List.size_toArray]; omega)) ⟨e, ?_⟩
 refine ⟨.non, _, I.lset (its' := its ++ [u]) hH e (by simp) (r.append (.cons ru .nil)) ?_, rfl, q⟩
 rw [List.length_append, List.length_singleton]
 omega
noncomputable def rExtend : V -> List V -> Hp -> VK -> Prop := fun x vs H Q => ∃ l b xs zs, x = .ref l /\ vs = [.ref b] /\ H l = some (.lst xs) /\ H b = some (.lst zs) /\ xs.length + zs.length <= sizeLine /\ Q .non (upd H l (.lst (xs ++ zs)))
theorem mt_extend : MtM X "list.extend" rExtend := by
 intro pins s σ H x vs v us Q I rx rv h
 obtain ⟨l, b, xs, zs, rfl, rfl, hH, hB, hz, q⟩ := h
 cases rx
 obtain ⟨u, rfl, ru⟩ := rv.one
 cases ru
 obtain ⟨z, its, n, r, hl, e⟩ := I.lstM hH
 obtain ⟨z2, its2, n2, r2, hl2, e2⟩ := I.lstM hB
 have hsz : its.toArray.size + its2.toArray.size <= sizeLine := by rw [List.size_toArray, List.size_toArray]; omega
 have hlong : ¬ (!its.toArray.isEmpty && Builtin.List.listTooLong (its.toArray.size + its2.toArray.size)) = true := by
  rw [notLongL hsz, Bool.and_false]
  exact Bool.false_ne_true
 refine call_meets F.slot_list_extend ⟨_, e, rfl⟩ F.entry_list_extend (F.args_list_extend_2 _ _)
  (AutoSeq1.list_extend_list_list_0 l its.toArray n b its2.toArray n2 hlong (by rw [List.size_toArray]; omega) (by omega)) ⟨e, e2, ?_⟩
 refine ⟨.non, _, I.lset (its' := its ++ its2) hH e (by simp) (r.append r2) ?_, rfl, q⟩
 rw [List.length_append]
 omega
end
end L2
namespace Att
open PySem PySem.W PySem.Calls PyProof.Rows
theorem ints_of_wellAll {P : Params} {h : Heap} : ∀ (ns : List Int) (vs : List Value), WellAll P h vs (ns.map WData.int) -> IntsAre vs ns := by
 intro ns
 induction ns with
 | nil =>
  intro vs w
  rw [List.map_nil] at w
  cases w
  exact .nil
 | cons n ns ih =>
  intro vs w
  rw [List.map_cons] at w
  cases w with
  | cons a b =>
   cases a
   exact .cons _ _ (ih _ b)
theorem script_of {l : OpenLaw} {n : Nat} (hn : l.most = some n) {P : Params} {h : Heap} {args : List WData} {vals : List Value}
  (hpre : l.row.toRowW.claim.pre args = true) (hwl : WellAll P h vals args) :
  ∃ a vs ns, vals = [Value.ref a] /\ args = [WData.list (ns.map WData.int)] /\ h.get? a = some { cls := .type "list", data := .seq vs.toArray } /\ IntsAre vs ns /\ ns.length <= n := by
 have hsh : WShape.hasAll [] args [.list .int] = true := (pre_splitW hpre).1
 have hc : l.pre.holds [] { args := args } = true := (pre_splitW hpre).2
 obtain ⟨d, r, rfl, h1, h2⟩ := hasAllW_cons hsh
 obtain rfl := hasAllW_nil h2
 obtain ⟨xs, rfl, h3⟩ := hasW_list h1
 obtain ⟨ns, rfl⟩ := items_int h3
 have hlen : ns.length <= n := by
  unfold OpenLaw.pre at hc
  have h4 : (WTm.not (.lt (.lit (.int (n : Int))) (.len (.arg 0)))).holds [] { args := [.list (ns.map .int)] } = true := by
   have h4 := (holds_andW hc).1
   rw [hn] at h4
   exact h4
  have h5 := condW_of h4 (w_not (w_lt w_lit (w_len_list (w_arg rfl))))
  rw [List.length_map] at h5
  refine Nat.le_of_not_lt fun q => ?_
  have q' : (n : Int) < ((ns.length : Nat) : Int) := by omega
  first
   | (rw [decide_eq_true q'] at h5; exact absurd h5 (by decide))
   | (simp at h5; omega)
 cases hwl with
 | cons w1 w2 =>
  cases w2
  cases w1 with
  | list ho hall => exact ⟨_, _, ns, rfl, rfl, ho, ints_of_wellAll ns _ hall, hlen⟩
theorem post_true (l : OpenLaw) (args : List WData) : l.row.toRowW.claim.post args (.bool true) args = true :=
 postW_of (r := l.row.toRowW) (X := (true == true))
  (show WShape.has [] (.bool true) .bool = true by first | rfl | decide | simp [WShape.has, WShape.arms, WShape.armsAll])
  (show (WTm.eq .res (.lit (.bool true))).value [] { args := args, res := some (.bool true), after := args } = some (.bool (true == true)) from w_eq_bool (w_res rfl) w_lit) rfl
theorem attach_call {l : OpenLaw} {n : Nat} {q : Program} {loose : List Str} {XP : (Str -> Option Value) -> Heap -> Prop} {YP : World -> Heap -> Prop} {d : DefRec}
  (hn : l.most = some n) (hdf : d.params.defaults = [])
  (call : ∀ (w : World) (s₀ s₁ : Shared) (mg mb : Str -> Option Value) (fa : Addr) (o : Obj) (pm cd doc : Value) (a : Addr) (vs : List Value) (ns : List Int),
   Ground q loose [] XP w s₀ mg mb s₁.heap -> YP w s₁.heap ->
   s₁.heap.get? fa = some o -> o.data = .func (docDef d.name d.params d.body d.scope pm cd doc) -> s₁.heap.CodeRec cd d.name -> mg d.name = some (.ref fa) ->
   s₁.heap.get? a = some { cls := .type "list", data := .seq vs.toArray } -> IntsAre vs ns -> ns.length <= n -> s₁.gens = #[] ->
   codeAny (model l.prog w) callerA (.call (.ref fa) ⟨[.ref a], []⟩) (fun r s' => r = .ok (.ret (.bool true)) /\ OldK s₁.heap s'.heap /\ s'.os = s₁.os /\ AllBare s'.gens) s₁) :
  WalkO q loose XP YP l.row.toRowW d [] (fun f vs => PySem.call f vs) := by
 intro w s₀ s₁ mg mb G Y fa o pm cd doc dV kV ho hd hcd hD hmg hg args vals as hpre hlay hrd hwl hlo
 obtain rfl : dV = .none := Dflts.none hD hdf
 obtain rfl : kV = .none := Dflts.noKw hD
 obtain ⟨a, vs, ns, rfl, rfl, hobj, hints, hlen⟩ := script_of hn hpre hwl
 refine enter_call (codeAny_mono (call w s₀ s₁ mg mb fa o pm cd doc a vs ns G Y ho (fd_plain hd) hcd hmg hobj hints hlen hg) fun r s' hq => ?_)
 obtain ⟨rfl, h2, h3, h4⟩ := hq
 exact ⟨.inl ⟨.bool true, .bool true, [], rfl, fun _ => rfl, .bool true, post_true l _, fun _ => ⟨List.Pairwise.nil, fun _ hm => (nomatch hm)⟩⟩, h2, h3, h4⟩
end Att
namespace L2
open PySem PySem.Spec PyProof.Rows
theorem vals_ints : ∀ {vs : List Value} {ns : List Int}, IntsAre vs ns -> Vals (ns.map V.int) vs
 | _, _, .nil => .nil
 | _, _, .cons n t h => .cons ⟨t, rfl⟩ (vals_ints h)
noncomputable def Only (H : Hp) : Prop := ∀ b, H b = none \/ ∃ o xs, H b = some (.frz o (.lst xs))
theorem law_call {P : Program} {w : World} {K : PySem.W.Frag} {mg mb : Str -> Option Value} {CX : CXT} {k : Nat} {fa a : Addr} {fd : FuncData} {x : Str} {sp : Sp} {s₁ : Shared} {vs : List Value} {ns : List Int}
  (KX : K.In s₁.heap) (hns : s₁.heap.Ns mainGlobals mg) (hb : s₁.heap.Ns builtinsNs mb) (hbb : ∀ x : Str, x ≠ "__name__" -> mb x = bootBuiltins x) (hlim : s₁.heap.NoLimit) (hg : s₁.gens = #[])
  (ha : s₁.heap.get? a = some { cls := .type "list", data := .seq vs.toArray }) (hi : IntsAre vs ns) (hl : ns.length <= sizeLine) (hr : Room k callerA)
  (F : ∀ base : Heap, K.In base -> base.Ns mainGlobals mg -> FnOk P w K mg base CX k fa fd [x] sp) (hbind : ∀ (s : Shared) (u : Value), BindsTo s fd ⟨[u], []⟩ [(x, u)])
  (hsp : ∀ H : Hp, Only H -> SqL K H a (ns.map V.int) -> sp [.ref a] H (fun v _ => v = .bl true) fun _ _ _ => False)
  (hCX : ∀ H e s', CX [] H s₁ (fun _ _ _ => False) e s' -> False) :
  codeAny (model P w) callerA (.call (.ref fa) ⟨[.ref a], []⟩) (fun r s' => r = .ok (.ret (.bool true)) /\ OldK s₁.heap s'.heap /\ s'.os = s₁.os /\ AllBare s'.gens) s₁ := by
 have rv := vals_ints hi
 have lenV := hi.length
 have core : ∀ H : Hp, Only H -> SqL K H a (ns.map V.int) -> HOk P w H s₁.heap -> (∀ b, H b ≠ none -> b = a) -> (H a ≠ none -> K.lookup a = none) ->
   codeAny (model P w) callerA (.call (.ref fa) ⟨[.ref a], []⟩) (fun r s' => r = .ok (.ret (.bool true)) /\ OldK s₁.heap s'.heap /\ s'.os = s₁.os /\ AllBare s'.gens) s₁ := by
  intro H hO hS hok hA hK
  have base_of : ∀ {b : Addr} {o : Obj}, s₁.heap.get? b = some o -> H b = none -> (hidT s₁.heap H).get? b = some o := fun e n => hidT_get e n
  have noA : ∀ {b : Addr} {o : Obj} {es : Array DictEntry} {ep : Nat}, s₁.heap.get? b = some o -> o.data = .dict es ep -> H b = none := fun {b o es ep} e d => by
   cases q : H b with
   | none => rfl
   | some u =>
    have e' : b = a := hA b (by rw [q]; simp)
    subst e'
    rw [ha] at e; cases e
    have d' : Data.seq vs.toArray _ = Data.dict es ep := d
    cases d'
  have nsK : ∀ {b : Addr} {m : Str -> Option Value}, s₁.heap.Ns b m -> (hidT s₁.heap H).Ns b m := fun {b m} ⟨o, es, ep, e, d, r⟩ => ⟨o, es, ep, base_of e (noA e d), d, r⟩
  have hKb : K.In (hidT s₁.heap H) := fun b o e => base_of (KX b o e) (by
   cases q : H b with
   | none => rfl
   | some u =>
    have e' : b = a := hA b (by rw [q]; simp)
    subst e'
    rw [hK (by rw [q]; simp)] at e; cases e)
  have hM : Mod K mg (hidT s₁.heap H) := ⟨hKb, nsK hns, ⟨mb, nsK hb, hbb⟩, let ⟨mc, h1, h2⟩ := hlim; ⟨mc, nsK h1, h2⟩⟩
  have e0 : Env0 P w K mg (hidT s₁.heap H) callerA [] s₁ H := ⟨rfl, hM, fun b o e => of_hidT e, Nat.le_of_eq (hidT_size _ _), trivial, fun b hb => absurd (show b ∈ ([] : List Addr) from hb) (by simp), hok, .of_eq hg⟩
  refine codeAny_mono ((F _ hKb (nsK hns)).run callerA [] s₁ H ⟨[.ref a], []⟩ [.ref a] [.ref a] _ _ hr e0 (hbind s₁ (.ref a)) (.cons rfl .nil) (hsp H hO hS)) fun r s' h => ?_
  cases r with
  | error e => exact (hCX H e s' h).elim
  | ok fl =>
   cases fl with
   | next => exact False.elim h
   | brk => exact False.elim h
   | cont => exact False.elim h
   | ret u =>
    obtain ⟨v, H', os, bare, un, hok', r', q⟩ := h
    have q' : v = .bl true := q
    subst q'
    obtain rfl : u = Value.bool true := r'
    refine ⟨rfl, OldK.of_keep fun b o e => ?_, os, bare⟩
    cases q : H b with
    | none => exact un.keep b o e q (by intro z; exact absurd (show b ∈ ([] : List Addr) from z) (by simp)) (by simp)
    | some u =>
     rcases hO b with z | ⟨ob, xs, z⟩
     ·rw [q] at z; cases z
     ·have z2 := un.frzs b ob _ z
      obtain ⟨e1, _⟩ := hok b _ z
      obtain ⟨e2, _⟩ := hok' b _ z2
      rw [e] at e1; cases e1
      exact e2
 cases hk : K.lookup a with
 | some o =>
  have e := KX a o hk
  rw [ha] at e
  cases e
  refine core (fun _ => none) (fun _ => .inl rfl) (.inr ⟨_, vs.toArray, _, hk, rfl, rfl, rfl, by rw [List.size_toArray, lenV]; exact hl, by simpa using rv⟩) (fun b u z => by have z' : (none : Option HO) = some u := z; cases z') (fun b z => absurd rfl z) fun z => absurd rfl z
 | none =>
  refine core (fun b => if b = a then some (.frz { cls := .type "list", data := .seq vs.toArray } (.lst (ns.map V.int))) else none) (fun b => ?_) (.inl (.inr ⟨{ cls := .type "list", data := .seq vs.toArray }, if_pos rfl⟩)) (fun b u z => ?_) (fun b z => ?_) fun _ => hk
  ·by_cases hb : b = a
   ·exact .inr ⟨_, _, if_pos hb⟩
   ·exact .inl (if_neg hb)
  ·by_cases hb : b = a
   ·have z' := (if_pos hb).symm.trans z
    cases z'
    subst hb
    exact ⟨ha, by rw [List.length_map]; exact hl, vs, _, rv, ha⟩
   ·have z' := (if_neg hb).symm.trans z
    cases z'
  ·by_cases hb : b = a
   ·exact hb
   ·exact absurd (if_neg hb) z
end L2
namespace L2
open PySem PySem.Spec PyProof.Rows
theorem walk_of {l : PySem.W.OpenLaw} {n k : Nat} {q : Program} {loose : List Str} {XP : (Str -> Option Value) -> Heap -> Prop} {YP : World -> Heap -> Prop} {d : DefRec} {K : Params -> PySem.W.Frag} {CX : World -> CXT} {sp : World -> Sp} {x : Str}
  (hn : l.most = some n) (hn2 : n <= sizeLine) (hdf : d.params.defaults = []) (hr : Room k callerA)
  (hY : ∀ (w : World) (h : Heap), YP w h -> (K w.params).In h)
  (F : ∀ (w : World) (mg : Str -> Option Value) (fa : Addr) (h : Heap), (K w.params).In h -> h.Ns mainGlobals mg -> mg d.name = some (.ref fa) ->
   ∃ fd : FuncData, (∀ (s : Shared) (u : Value), BindsTo s fd ⟨[u], []⟩ [(x, u)]) /\
    ∀ base : Heap, (K w.params).In base -> base.Ns mainGlobals mg -> FnOk l.prog w (K w.params) mg base (CX w) k fa fd [x] (sp w))
  (hsp : ∀ (w : World) (H : Hp) (a : Addr) (ns : List Int), ns.length <= n -> Only H -> SqL (K w.params) H a (ns.map V.int) -> sp w [.ref a] H (fun v _ => v = .bl true) fun _ _ _ => False)
  (hCX : ∀ (w : World) (H : Hp) (s : Shared) (e : Value) (s' : Shared), CX w [] H s (fun _ _ _ => False) e s' -> False) :
  PySem.W.WalkO q loose XP YP l.row.toRowW d [] (fun f vs => PySem.call f vs) := by
 refine Att.attach_call hn hdf fun w s₀ s₁ mg mb fa o pm cd doc a vs ns G Y ho hd hcd hmg hobj hints hlen hg => ?_
 have KX := hY w _ Y
 obtain ⟨fd, hb, hF⟩ := F w mg fa _ KX G.T.g hmg
 exact law_call KX G.T.g G.T.b G.T.builtins G.T.nolimit hg hobj hints (Nat.le_trans hlen hn2) hr hF hb (fun H hO hS => hsp w H a ns hlen hO hS) fun H e s' => hCX w H s₁ e s'
end L2
namespace L2
open PySem PySem.Spec PyProof.Rows
noncomputable def defArgs (s : Stmt) : Arguments := match s with
 | .FunctionDef _ a _ _ _ _ _ _ _ _ => a
 | _ => { posonlyargs := [], args := [], vararg := none, kwonlyargs := [], kw_defaults := [], kwarg := none, defaults := [] }
noncomputable def defBody (s : Stmt) : List Stmt := match s with
 | .FunctionDef _ _ b _ _ _ _ _ _ _ => b
 | _ => []
noncomputable def defScope (s : Stmt) : Scope := match s with
 | .FunctionDef _ _ _ _ _ _ sc _ _ _ => sc
 | _ => { kind := .function, names := [], isGenerator := false, isCoroutine := false }
noncomputable abbrev CX0 : CXT := fun _ _ _ _ _ _ => False
noncomputable abbrev E0 : XK := fun _ _ _ => False
theorem pass0 {X : Cx} : Passes CX0 X E0 := fun _ _ _ _ _ _ _ h => h.elim
structure Fun (K : PySem.W.Frag) (x qual : Str) (st : Stmt) (f : Addr) (fd : FuncData) : Prop where
 ex : ∃ (oc : Value) (od : Option Addr) (kV doc pm : Value) (an : Option Addr) (cdv ct : Value) (osl : Array (Option Value)),
  fd = PySem.W.fnOf x qual (defArgs st) (defBody st) (defScope st) .none kV doc pm an cdv ct /\ K.lookup f = some ⟨oc, od, .func fd, osl⟩ /\ PySem.W.codeIn K cdv qual = true
 kp : PySem.W.keepIn K (.ref f) = true
section
variable {P : Program} {w : World} {K : PySem.W.Frag} {mg : Str -> Option Value} {base : Heap}
theorem Fun.ok {x qual : Str} {st : Stmt} {f : Addr} {fd : FuncData} {N ps : List Str} {k : Nat} {sp : Sp} (F : Fun K x qual st f fd) (S : FnScope N ps (defScope st)) (len : ∀ vs H Q E, sp vs H Q E -> vs.length = ps.length)
  (hbody : ∀ (cdv : Value) (A : Around) (outer : List Env) (s : Shared) (H : Hp) (vs : List V) (Q : VK) (E : XK), Room k (A.deeper (envOfC qual (defScope st) s.heap.objs.size f cdv)) -> sp vs H Q E ->
   ∃ t, PSs (cxOf CX0 P w K mg base N qual (defScope st) f cdv A outer s H E).nox (defBody st) t /\ t { nx := fun _ H' => Q .non H', rt := Q } (start N vs) H) : FnOk P w K mg base CX0 (k + 1) f fd ps sp := by
 obtain ⟨oc, od, kV, doc, pm, an, cdv, ct, osl, rfl, lk, hcd⟩ := F.ex
 refine fn_of lk hcd S len fun A outer s H vs Q E hr hsp => ?_
 obtain ⟨t, h, q⟩ := hbody cdv A outer s H vs Q E hr hsp
 exact ⟨t, h.nox, q⟩
theorem Fun.binds {x qual : Str} {st : Stmt} {f : Addr} {fd : FuncData} {ps : List Str} (F : Fun K x qual st f fd)
  (h : ∀ (kV doc pm : Value) (an : Option Addr) (cdv ct : Value) (us : List Value), us.length = ps.length -> bindArgs (PySem.W.fnOf x qual (defArgs st) (defBody st) (defScope st) .none kV doc pm an cdv ct) ⟨us, []⟩ = pure (ps.zip us)) : Binds K fd ps [] := by
 obtain ⟨oc, od, kV, doc, pm, an, cdv, ct, osl, rfl, lk, hcd⟩ := F.ex
 exact .all (h kV doc pm an cdv ct)
theorem fun_mk {x qual : Str} {st : Stmt} {f : Addr} {oc : Value} {od an : Option Addr} {osl : Array (Option Value)} {kV doc pm cdv ct : Value} (l : K.lookup f = some ⟨oc, od, .func (PySem.W.fnOf x qual (defArgs st) (defBody st) (defScope st) .none kV doc pm an cdv ct), osl⟩)
  (c : PySem.W.codeIn K cdv qual = true) (k : PySem.W.keepIn K (.ref f) = true) : Fun K x qual st f (PySem.W.fnOf x qual (defArgs st) (defBody st) (defScope st) .none kV doc pm an cdv ct) := ⟨⟨oc, od, kV, doc, pm, an, cdv, ct, osl, rfl, l, c⟩, k⟩
end
theorem iteF {A B : Prop} (h : B) : if false = true then A else B := by
 rw [if_neg Bool.false_ne_true]
 exact h
theorem iteT {A B : Prop} (h : A) : if true = true then A else B := by
 rw [if_pos rfl]
 exact h
noncomputable def Same (H H' : Hp) : Prop := ∀ b o, H b = some o -> H' b = some o
theorem Same.refl (H : Hp) : Same H H := fun _ _ h => h
theorem Same.trans {H H1 H2 : Hp} (a : Same H H1) (b : Same H1 H2) : Same H H2 := fun c o h => b c o (a c o h)
theorem Same.free {H H' : Hp} (e : Same H H') {l : Addr} (h : H' l = Option.none) : H l = Option.none := by
 cases q : H l with
 | none => rfl
 | some o =>
  rw [e l o q] at h
  cases h
theorem Same.seq {K : PySem.W.Frag} {H H' : Hp} {a : Addr} {xs : List V} (e : Same H H') (h : SqL K H a xs) : SqL K H' a xs := by
 rcases h with (h | ⟨o, h⟩) | h
 ·exact .inl (.inl (e _ _ h))
 ·exact .inl (.inr ⟨o, e _ _ h⟩)
 ·exact .inr h
end L2
namespace L2
open PySem PySem.Spec PyProof.Rows
section
variable {κ : Type} [DecidableEq κ]
noncomputable def valV (kvs : List (κ × V)) (k : κ) : Option V := (kvs.find? fun kv => decide (kv.1 = k)).map (·.2)
noncomputable def putK (kvs : List (κ × V)) (k : κ) (v : V) : List (κ × V) :=
 if (kvs.any fun kv => decide (kv.1 = k)) = true then kvs.map (fun kv => if kv.1 = k then (kv.1, v) else kv) else kvs ++ [(k, v)]
theorem valV_pos {p : κ × V} {r : List (κ × V)} {k : κ} (e : p.1 = k) : valV (p :: r) k = some p.2 := by simp [valV, List.find?_cons, e]
theorem valV_neg {p : κ × V} {r : List (κ × V)} {k : κ} (e : ¬ p.1 = k) : valV (p :: r) k = valV r k := by simp [valV, List.find?_cons, e]
theorem valV_any (k : κ) : ∀ kvs : List (κ × V), (kvs.any fun kv => decide (kv.1 = k)) = (valV kvs k).isSome
 | [] => rfl
 | p :: r => by
  rw [List.any_cons]
  by_cases e : p.1 = k
  ·simp only [valV_pos e, decide_eq_true e, Bool.true_or, Option.isSome_some]
  ·rw [valV_neg e, decide_eq_false e, Bool.false_or]; exact valV_any k r
theorem length_putK (kvs : List (κ × V)) (k : κ) (v : V) : (putK kvs k v).length <= kvs.length + 1 := by
 unfold putK
 split
 ·rw [List.length_map]; omega
 ·rw [List.length_append, List.length_cons, List.length_nil]; omega
theorem RelO.isSome_eq {o : Option V} {u : Option Value} (r : RelO o u) : o.isSome = u.isSome := by
 cases o with
 | none => cases u with
  | none => rfl
  | some _ => exact (show False from r).elim
 | some _ => cases u with
  | none => exact (show False from r).elim
  | some _ => rfl
theorem RelO.getD {o : Option V} {u : Option Value} {d : V} {d' : Value} (r : RelO o u) (rd : RelV d d') : RelV (o.getD d) (u.getD d') := by
 cases o with
 | none => cases u with
  | none => exact rd
  | some _ => exact (show False from r).elim
 | some _ => cases u with
  | none => exact (show False from r).elim
  | some _ => exact r
theorem KV.val {kvs : List (κ × V)} {vs : List (κ × Value)} (r : KV kvs vs) (k : κ) : RelO (valV kvs k) (valueAt vs k) := by
 unfold KV at r
 induction r with
 | nil => exact True.intro
 | @cons p q ps qs h t ih =>
  obtain ⟨h1, h2⟩ := h
  by_cases e : p.1 = k
  ·have e' : q.1 = k := h1.symm.trans e
   have b : valueAt (q :: qs) k = some q.2 := by simp [valueAt, List.find?_cons, e']
   rw [valV_pos e, b]; exact h2
  ·have e' : ¬ q.1 = k := fun z => e (h1.trans z)
   have b : valueAt (q :: qs) k = valueAt qs k := by simp [valueAt, List.find?_cons, e']
   rw [valV_neg e, b]; exact ih
theorem KV.any {kvs : List (κ × V)} {vs : List (κ × Value)} (r : KV kvs vs) (k : κ) : (kvs.any fun kv => decide (kv.1 = k)) = vs.any fun kv => decide (kv.1 = k) := by
 unfold KV at r
 induction r with
 | nil => rfl
 | cons h t ih => rw [List.any_cons, List.any_cons, ih, h.1]
theorem KV.repl {kvs : List (κ × V)} {vs : List (κ × Value)} (r : KV kvs vs) (k : κ) {y : V} {u : Value} (ry : RelV y u) :
  KV (kvs.map fun kv => if kv.1 = k then (kv.1, y) else kv) (vs.map fun kv => if kv.1 = k then (kv.1, u) else kv) := by
 unfold KV at r ⊢
 induction r with
 | nil => exact .nil
 | @cons p q ps qs h t ih =>
  rw [List.map_cons, List.map_cons]
  refine .cons ?_ ih
  obtain ⟨h1, h2⟩ := h
  by_cases e : p.1 = k
  ·rw [if_pos e, if_pos (h1.symm.trans e)]; exact ⟨h1, ry⟩
  ·rw [if_neg e, if_neg (fun z => e (h1.trans z))]; exact ⟨h1, h2⟩
theorem KV.put {kvs : List (κ × V)} {vs : List (κ × Value)} (r : KV kvs vs) (k : κ) {y : V} {u : Value} (ry : RelV y u) : KV (putK kvs k y) (stored vs k u) := by
 unfold putK stored
 rw [r.any k]
 by_cases e : (vs.any fun kv => decide (kv.1 = k)) = true
 ·rw [if_pos e, if_pos e]; exact r.repl k ry
 ·rw [if_neg e, if_neg e]; exact Paired.snoc r ⟨rfl, ry⟩
theorem KV.length {kvs : List (κ × V)} {vs : List (κ × Value)} (r : KV kvs vs) : kvs.length = vs.length := Paired.length r
end
theorem kV_is {P : Program} {w : World} {k : Key} {u : Value} (r : RelV (kV k) u) : (mixKind P w).is k u = true := by
 cases k with
 | inl i => obtain ⟨t, e⟩ := (show ∃ t, u = Value.int i t from r); subst e; exact mixKind_int P w i t
 | inr x => obtain ⟨t, e⟩ := (show ∃ t, u = Value.str x t from r); subst e; exact mixKind_str P w x t
theorem items_are {P : Program} {w : World} : ∀ {ks : List Key} {us : List Value}, Vals (ks.map kV) us -> ItemsAre (mixKind P w) ks us
 | [], _, r => by rw [List.map_nil] at r; cases r; exact .nil
 | k :: ks, _, r => by
  rw [List.map_cons] at r
  cases r with
  | cons h t => exact .cons (kV_is h) (items_are t)
noncomputable abbrev KT (H : Hp) : List (List Key × V) -> List (List Key × Addr × Value) -> Prop := Paired fun p q => p.1 = q.1 /\ H q.2.1 = some (.tup (p.1.map kV)) /\ RelV p.2 q.2.2
theorem KT.val {H : Hp} {kvs : List (List Key × V)} {xs : List (List Key × Addr × Value)} (r : KT H kvs xs) (k : List Key) : RelO (valV kvs k) ((atKey xs k).map (·.2)) := by
 induction r with
 | nil => exact True.intro
 | @cons p q ps qs h t ih =>
  obtain ⟨h1, _, h2⟩ := h
  by_cases e : p.1 = k
  ·have e' : q.1 = k := h1.symm.trans e
   have b : atKey (q :: qs) k = some q.2 := by simp [atKey, List.find?_cons, e']
   rw [valV_pos e, b]; exact h2
  ·have e' : ¬ q.1 = k := fun z => e (h1.trans z)
   have b : atKey (q :: qs) k = atKey qs k := by simp [atKey, List.find?_cons, e']
   rw [valV_neg e, b]; exact ih
theorem KT.repl {H : Hp} {kvs : List (List Key × V)} {xs : List (List Key × Addr × Value)} (r : KT H kvs xs) (k : List Key) {y : V} {u : Value} (ry : RelV y u) :
  KT H (kvs.map fun kv => if kv.1 = k then (kv.1, y) else kv) (xs.map (putAt k u)) := by
 induction r with
 | nil => exact .nil
 | @cons p q ps qs h t ih =>
  rw [List.map_cons, List.map_cons]
  refine .cons ?_ ih
  obtain ⟨h1, h2, h3⟩ := h
  unfold putAt
  by_cases e : p.1 = k
  ·rw [if_pos e, if_pos (h1.symm.trans e)]; exact ⟨h1, h2, ry⟩
  ·rw [if_neg e, if_neg (fun z => e (h1.trans z))]; exact ⟨h1, h2, h3⟩
theorem KT.put {H : Hp} {kvs : List (List Key × V)} {xs : List (List Key × Addr × Value)} (r : KT H kvs xs) (k : List Key) {b : Addr} {y : V} {u : Value} (hb : H b = some (.tup (k.map kV))) (ry : RelV y u) :
  KT H (putK kvs k y) (storedH xs k b u) := by
 have e : (kvs.any fun kv => decide (kv.1 = k)) = (atKey xs k).isSome := by
  rw [valV_any, (r.val k).isSome_eq, Option.isSome_map]
 unfold putK storedH
 rw [e]
 by_cases q : (atKey xs k).isSome = true
 ·rw [if_pos q, if_pos q]; exact r.repl k ry
 ·rw [if_neg q, if_neg q]; exact Paired.snoc r ⟨rfl, hb, ry⟩
theorem KT.keeps {H H' : Hp} {kvs : List (List Key × V)} {xs : List (List Key × Addr × Value)} (r : KT H kvs xs) (ht : ∀ b ys, H b = some (.tup ys) -> H' b = some (.tup ys)) : KT H' kvs xs :=
 Paired.mapP r fun _ _ z => ⟨z.1, ht _ _ z.2.1, z.2.2⟩
section
variable {P : Program} {w : World} {H : Hp} {h : Heap} {a : Addr}
theorem rd_of {u : HO} (ok : HOk P w H h) (e : Rd H a u) : ObjOk P w H h a u := e.ok ok
theorem dk_rd {kvs : List (Key × V)} (ok : HOk P w H h) (e : Rd H a (.dK kvs)) : kvs.length <= sizeLine /\ (a == sysModules) = false /\ ∃ vs, KV kvs vs /\ h.DictOf (mixKind P w) a vs :=
 show ObjOk P w H h a (.dK kvs) from rd_of ok e
theorem dk_of {kvs : List (Key × V)} (ok : HOk P w H h) (e : H a = some (.dK kvs)) : kvs.length <= sizeLine /\ (a == sysModules) = false /\ ∃ vs, KV kvs vs /\ h.DictOf (mixKind P w) a vs := dk_rd ok (.inl e)
theorem key_of {ks : List Key} (ok : HOk P w H h) (e : H a = some (.tup (ks.map kV))) : (tupleKind (mixKind P w)).is h ks a := by
 obtain ⟨_, its, r, o, h1, h2, n, h3⟩ := (show ObjOk P w H h a (.tup (ks.map kV)) from ok a _ e)
 exact ⟨o, its.toArray, n, h1, h2, h3, by simpa using items_are r⟩
theorem dt_rd {kvs : List (List Key × V)} (ok : HOk P w H h) (e : Rd H a (.dT kvs)) : kvs.length <= sizeLine /\ (a == sysModules) = false /\
  ∃ xs, KT H kvs xs /\ h.DictOfH (tupleKind (mixKind P w)) a xs := by
 obtain ⟨z, y, xs, r, o, es, ep, h1, h2, h3, h4, h5⟩ := (show ObjOk P w H h a (.dT kvs) from rd_of ok e)
 refine ⟨z, y, xs, r, o, es, ep, h1, h2, h3, h4, fun x hx => ?_, h5⟩
 have all : ∀ {l : List (List Key × V)} {m : List (List Key × Addr × Value)}, KT H l m -> ∀ x ∈ m, (tupleKind (mixKind P w)).is h x.1 x.2.1 := by
  intro l m q
  induction q with
  | nil => intro x hx; exact nomatch hx
  | @cons p q ps qs hq t ih =>
   intro x hx
   rcases List.mem_cons.mp hx with e | hx
   ·subst e
    exact key_of ok (by rw [<- hq.1]; exact hq.2.1)
   ·exact ih x hx
 exact all r x hx
theorem dt_of {kvs : List (List Key × V)} (ok : HOk P w H h) (e : H a = some (.dT kvs)) : kvs.length <= sizeLine /\ (a == sysModules) = false /\
  ∃ xs, KT H kvs xs /\ h.DictOfH (tupleKind (mixKind P w)) a xs := dt_rd ok (.inl e)
end
noncomputable def DGet (H : Hp) (a : Addr) (y : V) (r : Option V) : Prop :=
 (∃ kvs k, Rd H a (.dK kvs) /\ y = kV k /\ r = valV kvs k) \/ ∃ kvs k b, Rd H a (.dT kvs) /\ y = .ref b /\ H b = some (.tup (k.map kV)) /\ r = valV kvs k
noncomputable def DPut (H : Hp) (a : Addr) (y v : V) (H' : Hp) : Prop :=
 (∃ kvs k, H a = some (.dK kvs) /\ y = kV k /\ kvs.length < sizeLine /\ H' = upd H a (.dK (putK kvs k v))) \/
 ∃ kvs k b, H a = some (.dT kvs) /\ y = .ref b /\ H b = some (.tup (k.map kV)) /\ kvs.length < sizeLine /\ H' = upd H a (.dT (putK kvs k v))
theorem DGet.k {H : Hp} {a : Addr} {kvs : List (Key × V)} {k : Key} (e : H a = some (.dK kvs)) : DGet H a (kV k) (valV kvs k) := .inl ⟨kvs, k, .inl e, rfl, rfl⟩
theorem DGet.t {H : Hp} {a b : Addr} {kvs : List (List Key × V)} {k : List Key} (e : H a = some (.dT kvs)) (eb : H b = some (.tup (k.map kV))) : DGet H a (.ref b) (valV kvs k) := .inr ⟨kvs, k, b, .inl e, rfl, eb, rfl⟩
theorem DPut.k {H : Hp} {a : Addr} {kvs : List (Key × V)} {k : Key} {v : V} (e : H a = some (.dK kvs)) (hl : kvs.length < sizeLine) : DPut H a (kV k) v (upd H a (.dK (putK kvs k v))) := .inl ⟨kvs, k, e, rfl, hl, rfl⟩
theorem DPut.t {H : Hp} {a b : Addr} {kvs : List (List Key × V)} {k : List Key} {v : V} (e : H a = some (.dT kvs)) (eb : H b = some (.tup (k.map kV))) (hl : kvs.length < sizeLine) :
  DPut H a (.ref b) v (upd H a (.dT (putK kvs k v))) := .inr ⟨kvs, k, b, e, rfl, eb, hl, rfl⟩
section
variable {X : Cx} {pins : List (Addr × Obj)} {σ : St} {H : Hp} {s : Shared} {a : Addr} {y v : V} {u r : Value} {o : Option V} {A : Around} {E : Value -> Shared -> Prop}
theorem d_getItem {Q : Value -> Shared -> Prop} (hu : A.units + 1 < cLine) (I : Inv X pins σ H s) (g : DGet H a y (some v)) (ry : RelV y u) (h : ∀ w' s', Inv X pins σ H s' -> RelV v w' -> Q w' s') :
  wpAny (model X.prog X.w) A (getItem (.ref a) u) Q E s := by
 rcases g with ⟨kvs, k, e, ey, l⟩ | ⟨kvs, k, b, e, ey, eb, l⟩
 ·subst ey
  obtain ⟨z, hd, vs, rel, dd⟩ := dk_rd I.hok e
  obtain ⟨w', hw, rw'⟩ := RelO.some_of (v := v) (o := valueAt vs k) (by rw [l]; exact rel.val k)
  exact wpAny_getItem_of (kV_is ry) dd.mapOf hw (h w' _ (I.tok _) rw')
 ·subst ey
  cases (show u = Value.ref b from ry)
  obtain ⟨z, hd, xs, rel, dd⟩ := dt_rd I.hok e
  obtain ⟨w', hw, rw'⟩ := RelO.some_of (v := v) (o := (atKey xs k).map (·.2)) (by rw [l]; exact rel.val k)
  obtain ⟨p, hp, hp2⟩ := Option.map_eq_some_iff.mp hw
  refine wpAny_getItem_heap (tupleKind_room_in1 hu) (key_of I.hok eb) dd hp ?_
  rw [hp2]
  exact h w' _ (I.tok _) rw'
theorem d_in {Q : Value -> Shared -> Prop} (hu : A.units + 1 < cLine) (I : Inv X pins σ H s) (g : DGet H a y o) (ry : RelV y u) (h : ∀ s', Inv X pins σ H s' -> Q (.bool o.isSome) s') :
  wpAny (model X.prog X.w) A (compareOp .In u (.ref a)) Q E s := by
 rcases g with ⟨kvs, k, e, ey, l⟩ | ⟨kvs, k, b, e, ey, eb, l⟩
 ·subst ey
  obtain ⟨z, hd, vs, rel, dd⟩ := dk_rd I.hok e
  refine wpAny_in_of (kV_is ry) hd dd.mapOf ?_
  rw [<- (rel.val k).isSome_eq, <- l]
  exact h _ (I.tok _)
 ·subst ey
  cases (show u = Value.ref b from ry)
  obtain ⟨z, hd, xs, rel, dd⟩ := dt_rd I.hok e
  refine wpAny_in_heap (tupleKind_room_in1 hu) (key_of I.hok eb) hd dd ?_
  have q := (rel.val k).isSome_eq
  rw [Option.isSome_map] at q
  rw [<- q, <- l]
  exact h _ (I.tok _)
theorem d_notIn {Q : Value -> Shared -> Prop} (hu : A.units + 1 < cLine) (I : Inv X pins σ H s) (g : DGet H a y o) (ry : RelV y u) (h : ∀ s', Inv X pins σ H s' -> Q (.bool (!o.isSome)) s') :
  wpAny (model X.prog X.w) A (compareOp .NotIn u (.ref a)) Q E s := by
 rcases g with ⟨kvs, k, e, ey, l⟩ | ⟨kvs, k, b, e, ey, eb, l⟩
 ·subst ey
  obtain ⟨z, hd, vs, rel, dd⟩ := dk_rd I.hok e
  refine wpAny_notIn_of (kV_is ry) hd dd.mapOf ?_
  rw [<- (rel.val k).isSome_eq, <- l]
  exact h _ (I.tok _)
 ·subst ey
  cases (show u = Value.ref b from ry)
  obtain ⟨z, hd, xs, rel, dd⟩ := dt_rd I.hok e
  refine wpAny_notIn_heap (tupleKind_room_in1 hu) (key_of I.hok eb) hd dd ?_
  have q := (rel.val k).isSome_eq
  rw [Option.isSome_map] at q
  rw [<- q, <- l]
  exact h _ (I.tok _)
theorem d_write {h' : Heap} {t' : Nat} {ob : HO} (I : Inv X pins σ H s) (mu : Mut (H a)) (hs : Heap.SameBut a s.heap h') (he : ∃ q, h'.get? a = some q) (new : ObjOk X.prog X.w (upd H a ob) h' a ob) :
  Inv X pins σ (upd H a ob) { s with heap := h', toks := t' } :=
 I.write (x := a) (e := a) mu (.inl rfl) (fun b q hb z => (hs.2 b hb).trans z) he new
theorem dk_new {P : Program} {w : World} {H' : Hp} {h' : Heap} {kvs : List (Key × V)} {vs : List (Key × Value)} (z : kvs.length <= sizeLine) (hd : (a == sysModules) = false) (rel : KV kvs vs) (dd : h'.DictOf (mixKind P w) a vs) :
  ObjOk P w H' h' a (.dK kvs) := ⟨z, hd, vs, rel, dd⟩
theorem d_setItem {H' : Hp} {Q : Unit -> Shared -> Prop} (hu : A.units + 1 < cLine) (I : Inv X pins σ H s) (g : DPut H a y v H') (ry : RelV y u) (rv : RelV v r) (h : ∀ s', Inv X pins σ H' s' -> Q () s') :
  wpAny (model X.prog X.w) A (setItem (.ref a) u r) Q E s := by
 rcases g with ⟨kvs, k, e, ey, l, eH⟩ | ⟨kvs, k, b, e, ey, eb, l, eH⟩
 ·subst ey eH
  obtain ⟨z, hd, vs, rel, dd⟩ := dk_of I.hok e
  have hz : vs.length <= sizeLine := by rw [<- rel.length]; exact z
  have hl : (putK kvs k v).length <= sizeLine := by have := length_putK kvs k v; omega
  refine wpAny_setItem_pairs (hsz := hz) (kV_is ry) dd fun h' dd' hs => h _ ?_
  have he : ∃ q, h'.get? a = some q := let ⟨q, _, _, hq, _⟩ := dd'; ⟨q, hq⟩
  exact d_write I (by rw [e]; exact True.intro) hs he (dk_new hl hd (rel.put k rv) dd')
 ·subst ey eH
  cases (show u = Value.ref b from ry)
  obtain ⟨z, hd, xs, rel, dd⟩ := dt_of I.hok e
  have hz : xs.length <= sizeLine := by rw [<- Paired.length rel]; exact z
  have hl : (putK kvs k v).length <= sizeLine := by have := length_putK kvs k v; omega
  refine wpAny_setItem_heap (hsz := hz) (tupleKind_room_in1 hu) (key_of I.hok eb) dd fun h' dd' hs => h _ ?_
  obtain ⟨q, es, ep, hq, h2, h3, h4, _, h5⟩ := dd'
  refine d_write I (by rw [e]; exact True.intro) hs ⟨q, hq⟩ ⟨hl, hd, _, (rel.put k eb rv).keeps fun c ys ec => ?_, q, es, ep, hq, h2, h3, h4, h5⟩
  rw [upd_ne (ne_of ec e (fun z => nomatch z))]
  exact ec
end
section
variable {X : Cx} {pins : List (Addr × Obj)} {σ : St} {H : Hp} {s : Shared} {a : Addr} {kvs : List (Key × V)} {k : Key} {u : Value} {A : Around} {E : Value -> Shared -> Prop}
theorem d_len {Q : Value -> Shared -> Prop} (I : Inv X pins σ H s) (e : Rd H a (.dK kvs)) (h : ∀ t s', Inv X pins σ H s' -> Q (.int kvs.length t) s') : wpAny (model X.prog X.w) A (call (.builtin "len") [.ref a]) Q E s := by
 obtain ⟨z, hd, vs, rel, dd⟩ := dk_rd I.hok e
 refine call_len_dict hd dd (by rw [<- rel.length]; rw [sizeLine_eq] at z; omega) ?_
 rw [<- rel.length]
 exact h _ _ (I.tok _)
end
theorem dict_typeIs {X : Cx} {pins : List (Addr × Obj)} {σ : St} {H : Hp} {s : Shared} {a : Addr} {y : V} {o : Option V} (I : Inv X pins σ H s) (g : DGet H a y o) : s.TypeIs (.ref a) "dict" := by
 rcases g with ⟨kvs, k, e, _, _⟩ | ⟨kvs, k, b, e, _, _, _⟩
 ·obtain ⟨_, _, vs, _, dd⟩ := dk_rd I.hok e
  exact dd.typeIs
 ·obtain ⟨_, _, xs, _, dd⟩ := dt_rd I.hok e
  exact dd.typeIs
noncomputable def tPairs : List (TE × TE) -> St -> Hp -> (List (V × V) -> Hp -> Prop) -> Prop
 | [], _, H, Q => Q [] H
 | (tk, tv) :: r, σ, H, Q => tk σ H fun x H1 => tv σ H1 fun y H2 => tPairs r σ H2 fun ps H3 => Q ((x, y) :: ps) H3
noncomputable abbrev VV : List (V × V) -> List (Value × Value) -> Prop := Paired fun p q => RelV p.1 q.1 /\ RelV p.2 q.2
noncomputable def PPs (X : Cx) (pos : Pos) (keys : List (Option Expr)) (values : List Expr) (trs : List (TE × TE)) : Prop :=
 ∀ (pins : List (Addr × Obj)) (s : Shared) (σ : St) (H : Hp) (Q : List (V × V) -> Hp -> Prop), Inv X pins σ H s -> tPairs trs σ H Q ->
  wpAny (model X.prog X.w) X.A (evalPairs (pairTrees keys values X.env pos)) (fun vs s' => ∃ ps H', Inv X pins σ H' s' /\ VV ps vs /\ Q ps H') X.xe s
theorem pps_nil {X : Cx} {pos : Pos} : PPs X pos [] [] [] := fun pins s σ H Q I h => pairTrees_nil_walk ⟨[], H, I, .nil, h⟩
theorem pps_cons {X : Cx} {pos : Pos} {k v : Expr} {ks : List (Option Expr)} {vs : List Expr} {tk tv : TE} {trs : List (TE × TE)} (hk : PE X k tk) (hv : PE X v tv) (hr : PPs X pos ks vs trs) :
  PPs X pos (some k :: ks) (v :: vs) ((tk, tv) :: trs) := fun pins s σ H Q I h =>
 pairTrees_cons_walk (thn (hk pins s σ H _ I h) fun u s1 ⟨x, H1, I1, rx, q1⟩ => thn (hv pins s1 σ H1 _ I1 q1) fun w2 s2 ⟨y, H2, I2, ry, q2⟩ =>
  thn (hr pins s2 σ H2 _ I2 q2) fun ws s3 ⟨ps, H3, I3, rel, q3⟩ => ⟨(x, y) :: ps, H3, I3, .cons ⟨rx, ry⟩ rel, q3⟩)
noncomputable def IsD (H : Hp) (a : Addr) : Prop := (∃ kvs, Rd H a (.dK kvs)) \/ ∃ kvs, Rd H a (.dT kvs)
section
variable {X : Cx} {pins : List (Addr × Obj)} {σ : St} {H : Hp} {s : Shared} {a : Addr} {y d : V} {u r : Value} {o : Option V} {A : Around} {E : Value -> Shared -> Prop}
theorem d_get1 {Q : Value -> Shared -> Prop} (hu : A.units + 1 < cLine) (I : Inv X pins σ H s) (g : DGet H a y o) (ry : RelV y u) (h : ∀ w' s', Inv X pins σ H s' -> RelV (o.getD .non) w' -> Q w' s') :
  wpAny (model X.prog X.w) A (call (.builtin "dict.get") [.ref a, u]) Q E s := by
 rcases g with ⟨kvs, k, e, ey, l⟩ | ⟨kvs, k, b, e, ey, eb, l⟩
 ·subst ey
  obtain ⟨z, hd, vs, rel, dd⟩ := dk_rd I.hok e
  refine call_meetsIn PySem.F.slot_dict_get dd.typeIs PySem.F.entry_dict_get (PySem.F.args_dict_get_2 _ _) (meets_dict_get (mixKind X.prog X.w) a (kV_is ry) hd) ⟨_, dd.mapOf, h _ _ (I.tok _) ?_⟩
  rw [l]
  exact (rel.val k).getD rfl
 ·subst ey
  cases (show u = Value.ref b from ry)
  obtain ⟨z, hd, xs, rel, dd⟩ := dt_rd I.hok e
  refine call_meetsIn PySem.F.slot_dict_get dd.typeIs PySem.F.entry_dict_get (PySem.F.args_dict_get_2 _ _) (meetsH_dict_get (tupleKind (mixKind X.prog X.w)) a b hd) ⟨tupleKind_room_in1 hu, k, xs, key_of I.hok eb, dd, h _ _ (I.tok _) ?_⟩
  rw [l]
  exact (rel.val k).getD rfl
theorem d_get2 {Q : Value -> Shared -> Prop} (hu : A.units + 1 < cLine) (I : Inv X pins σ H s) (g : DGet H a y o) (ry : RelV y u) (rd : RelV d r) (h : ∀ w' s', Inv X pins σ H s' -> RelV (o.getD d) w' -> Q w' s') :
  wpAny (model X.prog X.w) A (call (.builtin "dict.get") [.ref a, u, r]) Q E s := by
 rcases g with ⟨kvs, k, e, ey, l⟩ | ⟨kvs, k, b, e, ey, eb, l⟩
 ·subst ey
  obtain ⟨z, hd, vs, rel, dd⟩ := dk_rd I.hok e
  refine call_meetsIn PySem.F.slot_dict_get dd.typeIs PySem.F.entry_dict_get (PySem.F.args_dict_get_3 _ _ _) (meets_dict_get_default (mixKind X.prog X.w) a (kV_is ry) hd r) ⟨_, dd.mapOf, h _ _ (I.tok _) ?_⟩
  rw [l]
  exact (rel.val k).getD rd
 ·subst ey
  cases (show u = Value.ref b from ry)
  obtain ⟨z, hd, xs, rel, dd⟩ := dt_rd I.hok e
  refine call_meetsIn PySem.F.slot_dict_get dd.typeIs PySem.F.entry_dict_get (PySem.F.args_dict_get_3 _ _ _) (meetsH_dict_get_default (tupleKind (mixKind X.prog X.w)) a b hd r) ⟨tupleKind_room_in1 hu, k, xs, key_of I.hok eb, dd, h _ _ (I.tok _) ?_⟩
  rw [l]
  exact (rel.val k).getD rd
end
end L2
namespace L2
open PySem PySem.Spec PyProof.Rows
theorem PE.imp {X : Cx} {e : Expr} {t t' : TE} (h : PE X e t) (i : ∀ σ H Q, t' σ H Q -> t σ H Q) : PE X e t' := fun pins s σ H Q I q => h pins s σ H Q I (i σ H Q q)
theorem PT.imp {X : Cx} {e : Expr} {t t' : TT} (h : PT X e t) (i : ∀ σ H Q, t' σ H Q -> t σ H Q) : PT X e t' := fun pins s σ H Q I q => h pins s σ H Q I (i σ H Q q)
theorem PA.imp {X : Cx} {e : List Expr} {t t' : TA} (h : PA X e t) (i : ∀ σ H Q, t' σ H Q -> t σ H Q) : PA X e t' := fun pos pins s σ H Q I q => h pos pins s σ H Q I (i σ H Q q)
theorem PS.imp {X : Cx} {e : Stmt} {t t' : TS} (h : PS X e t) (i : ∀ D σ H, t' D σ H -> t D σ H) : PS X e t' := fun pins s σ H D I q => h pins s σ H D I (i D σ H q)
theorem PSs.imp {X : Cx} {e : List Stmt} {t t' : TS} (h : PSs X e t) (i : ∀ D σ H, t' D σ H -> t D σ H) : PSs X e t' := fun pins s σ H D I q => h pins s σ H D I (i D σ H q)
section
variable {fs ex : List Addr} {H H1 : Hp} {h h1 h' : Heap} {C : Addr}
theorem Un.sameBut (u : Un fs ex H H1 h h1) (sb : Heap.SameBut C h1 h') (hC : h.objs.size <= C) : Un fs ex H H1 h h' := by
 have ne : ∀ b o, h.get? b = some o -> b ≠ C := fun b o e => Nat.ne_of_lt (Nat.lt_of_lt_of_le (Heap.lt_size e) hC)
 refine ⟨fun b o e n hb hx => (sb.2 b (ne b o e)).trans (u.keep b o e n hb hx), fun b o e n hb hx => ?_, u.free, fun b o e hx => ?_, u.tups, u.frzs, u.tbls⟩
 ·obtain ⟨sl, q⟩ := u.slot b o e n hb hx
  exact ⟨sl, (sb.2 b (ne b o e)).trans q⟩
 ·obtain ⟨o', q⟩ := u.there b o e hx
  exact ⟨o', (sb.2 b (ne b o e)).trans q⟩
theorem HOk.sameBut {P : Program} {w : World} (x : HOk P w H h) (sb : Heap.SameBut C h h') (hC : H C = none) : HOk P w H h' := fun b o e => by
 refine (x b o e).stay (fun c v hc q => (sb.2 c ?_).trans q) (fun _ q => q) fun _ _ q => q
 rintro rfl
 rcases hc with rfl | hc
 ·rw [hC] at e; cases e
 ·rw [hC] at hc; cases hc
end
noncomputable def rows (σ : St) (js : List Nat) : St := js.map fun j => σ.getD j none
section
variable {X : Cx}
theorem call_isinst : CallR X (.builtin "isinstance") (fun xs H Q => ∃ x T t b, xs = [x, .ty T] /\ TyOf X.K H x t /\ PySem.W.kitOne X.K t (.type T) = some b /\ Q (.bl b) H) := by
 intro pins s σ H vs us Q I rv h
 obtain ⟨x, T, t, b, rfl, ty, e, q⟩ := h
 obtain ⟨u, v, rfl, ru, rt⟩ := rv.two
 cases (show v = Value.type T from rt)
 exact isinst_ok I ru ty e fun tk => ⟨.bl b, H, I.tok tk, rfl, q⟩
theorem op_isB : OpR X (compareOp .Is) (fun x y H Q => ∃ a b, x = .bl a /\ y = .bl b /\ Q (.bl (a == b)) H) := by
 intro pins s σ H x y v u Q I rx ry h
 obtain ⟨a, b, rfl, rfl, q⟩ := h
 cases rx
 cases ry
 exact is_bool (fin_bl I q rfl)
theorem op_notB : OpR X (compareOp .IsNot) (fun x y H Q => ∃ a b, x = .bl a /\ y = .bl b /\ Q (.bl (a != b)) H) := by
 intro pins s σ H x y v u Q I rx ry h
 obtain ⟨a, b, rfl, rfl, q⟩ := h
 cases rx
 cases ry
 exact isnot_bool (fin_bl I q rfl)
noncomputable def CDivW (_ j : Int) : Prop := 0 < j /\ j < 2 ^ 64
theorem op_fdivW : OpR X (binaryOp .FloorDiv) (rI CDivW fun i j => .int (i / j)) := opI fun i j _ _ _ _ _ hc q => by
 have e : i.fdiv j = i / j := Int.fdiv_eq_ediv_of_nonneg _ (Int.le_of_lt hc.1)
 refine floordiv_int (by have := hc.1; omega) (by rw [e]; exact q) (.inl (PyProof.noPylong_of_log2 ?_))
 have h1 : j.natAbs < 2 ^ 64 := by have := hc.2; have := hc.1; omega
 by_cases h0 : j.natAbs = 0
 ·rw [h0]; decide
 ·have := (Nat.log2_lt h0).mpr h1
  omega
theorem valsB : ∀ {bs : List Bool} {us : List Value}, Vals (bs.map V.bl) us -> us = bs.map Value.bool
 | [], _, .nil => rfl
 | b :: bs, _, .cons r t => by
  cases (show _ = Value.bool b from r)
  rw [valsB t]
  rfl
theorem range_allB (bs : List Bool) : ((List.range bs.length).all fun i => (bs[i]?).getD true) = bs.all id := by
 rw [Bool.eq_iff_iff, List.all_eq_true, List.all_eq_true]
 constructor
 ·intro h b hb
  obtain ⟨i, hi, rfl⟩ := List.getElem_of_mem hb
  have := h i (List.mem_range.mpr hi)
  simpa [List.getElem?_eq_getElem hi] using this
 ·intro h i hi
  have hi' := List.mem_range.mp hi
  have := h _ (List.getElem_mem hi')
  simpa [List.getElem?_eq_getElem hi'] using this
theorem range_anyB (bs : List Bool) : ((List.range bs.length).any fun i => (bs[i]?).getD false) = bs.any id := by
 rw [Bool.eq_iff_iff, List.any_eq_true, List.any_eq_true]
 constructor
 ·rintro ⟨i, hi, e⟩
  have hi' := List.mem_range.mp hi
  exact ⟨_, List.getElem_mem hi', by simpa [List.getElem?_eq_getElem hi'] using e⟩
 ·rintro ⟨b, hb, e⟩
  obtain ⟨i, hi, rfl⟩ := List.getElem_of_mem hb
  exact ⟨i, List.mem_range.mpr hi, by simpa [List.getElem?_eq_getElem hi] using e⟩
theorem call_all (hc : X.calm = true) : CallR X (.builtin "all") (fun xs H Q => ∃ (p : Addr) (bs : List Bool), xs = [.ref p] /\ SqL X.K H p (bs.map V.bl) /\ Q (.bl (bs.all id)) H) := by
 intro pins s σ H vs us Q I rv h
 obtain ⟨p, bs, rfl, hq, q⟩ := h
 obtain ⟨u, rfl, ru⟩ := rv.one
 cases (show u = Value.ref p from ru)
 obtain ⟨its, rv, hp, hz⟩ := I.list hq
 obtain rfl := valsB rv
 have hl := hp.isList
 have hlt : p < s.heap.objs.size := by obtain ⟨_, e, _⟩ := hl; exact Heap.lt_size e
 have hh : X.A.handled = none := I.ok.hd hc
 refine call_all_walk (wpAny_pyIter_list hl ?_)
 refine ⟨s.heap.objs.size, [s.heap.objs.size, p], [s.heap.objs.size], (bs.map Value.bool).toArray.size, _, _, fun i => (bs[i]?).getD true, rfl, Walks.list (A := X.A.in1) hh _ p (Nat.ne_of_lt hlt) (bs.map Value.bool).toArray,
  ⟨⟨_, Heap.get?_push_size _ rfl, rfl, rfl⟩, hl.push _⟩, fun i v s' Q' E' hP hQ => ?_, fun h' tk hk => ?_⟩
 ·have hP' : (bs.map Value.bool)[i]? = some v := by simpa using hP
  rw [List.getElem?_map] at hP'
  cases e : bs[i]? with
  | none => rw [e] at hP'; cases hP'
  | some b =>
   rw [e] at hP'
   cases hP'
   simp only [e, Option.getD_some] at hQ
   exact wpAny_truthy_bool hQ
 ·have e : ((List.range (bs.map Value.bool).toArray.size).all fun i => (bs[i]?).getD true) = bs.all id := by
   rw [List.size_toArray, List.length_map]; exact range_allB bs
  rw [e]
  exact ⟨.bl _, H, I.kept (LSm.kept_iter hk), rfl, q⟩
theorem call_any (hc : X.calm = true) : CallR X (.builtin "any") (fun xs H Q => ∃ (p : Addr) (bs : List Bool), xs = [.ref p] /\ SqL X.K H p (bs.map V.bl) /\ Q (.bl (bs.any id)) H) := by
 intro pins s σ H vs us Q I rv h
 obtain ⟨p, bs, rfl, hq, q⟩ := h
 obtain ⟨u, rfl, ru⟩ := rv.one
 cases (show u = Value.ref p from ru)
 obtain ⟨its, rv, hp, hz⟩ := I.list hq
 obtain rfl := valsB rv
 have hl := hp.isList
 have hlt : p < s.heap.objs.size := by obtain ⟨_, e, _⟩ := hl; exact Heap.lt_size e
 have hh : X.A.handled = none := I.ok.hd hc
 refine call_any_walk (wpAny_pyIter_list hl ?_)
 refine ⟨s.heap.objs.size, [s.heap.objs.size, p], [s.heap.objs.size], (bs.map Value.bool).toArray.size, _, _, fun i => (bs[i]?).getD false, rfl, Walks.list (A := X.A.in1) hh _ p (Nat.ne_of_lt hlt) (bs.map Value.bool).toArray,
  ⟨⟨_, Heap.get?_push_size _ rfl, rfl, rfl⟩, hl.push _⟩, fun i v s' Q' E' hP hQ => ?_, fun h' tk hk => ?_⟩
 ·have hP' : (bs.map Value.bool)[i]? = some v := by simpa using hP
  rw [List.getElem?_map] at hP'
  cases e : bs[i]? with
  | none => rw [e] at hP'; cases hP'
  | some b =>
   rw [e] at hP'
   cases hP'
   simp only [e, Option.getD_some] at hQ
   exact wpAny_truthy_bool hQ
 ·have e : ((List.range (bs.map Value.bool).toArray.size).any fun i => (bs[i]?).getD false) = bs.any id := by
   rw [List.size_toArray, List.length_map]; exact range_anyB bs
  rw [e]
  exact ⟨.bl _, H, I.kept (LSm.kept_iter hk), rfl, q⟩
theorem pe_callK0 {CX : CXT} {k : Nat} {f : Addr} {fd : FuncData} {ps ks : List Str} {sp : Sp} {E : XK} {x : Str} {p pos : Pos} {kws : List Keyword} {tk : TA} {g : List Value -> List Value -> List Value} {gV : List V -> List V -> List V}
  (F : FnOk X.prog X.w X.K X.mg X.base CX k f fd ps sp) (hr : Room k X.A) (hg : Gl X x) (hm : X.mg x = some (.ref f)) (hk : PySem.W.keepIn X.K (.ref f) = true) (hb : KBinds X.K fd ps ks g gV) (hx : Passes CX X E)
  (hkw : PK X kws tk) (hall : (backToKw pos (keywordEach kws X.env)).all (·.1.isSome) = true := by rfl) (hks : (backToKw pos (keywordEach kws X.env)).filterMap (·.1) = ks := by rfl)
  (hdb : (x == ("__debug__" : Str)) = false := by decide) (hpl : ((backTo pos (starEach [] X.env)).any (·.1) || (backToKw pos (keywordEach kws X.env)).any (·.1.isNone)) = false := by rfl) :
  PE X (.Call (.Name x p) [] kws pos) (tCallK sp gV E tNil tk) := by
 intro pins s σ H Q I h
 refine wpAny_Call_Name_kw (ld_glob I hg hm ?_ hdb)
 refine PySem.W.callWith_KW0 (h₀ := X.base) I.ok.mod.kin hk hall (thn (hkw pos pins s σ H _ I h) fun ws s2 ⟨zs, H2, I2, rz, q2⟩ => ⟨I2.kIn, ?_⟩) hpl
 rw [hks]
 exact run_fnk (us := []) (vs := []) F hr hb hx I2 .nil rz q2
end
end L2
namespace HT
open PySem PyProof.Rows
open PySem.SeqAt
open PySem.AutoSeq1 (wpAny_loadPart')
open PySem.MeetsSeq PySem.MeetsSeq2 PySem.MeetsSeq3
section
variable {prog : Program} {w : World} {A : Around} {E : Value -> Shared -> Prop} {s : Shared}
theorem cat_tup0 {t b : Addr} {ws : List Value} {Q : Value -> Shared -> Prop} (ht : IsTup s.heap t ([] : List Value).toArray) (hb : IsTup s.heap b ws.toArray)
  (h : Q (.ref b) s) : wpAny (model prog w) A (binaryOp .Add (.ref t) (.ref b)) Q E s := by
 obtain ⟨⟨cls, dd, data, sl⟩, ho, hc, n, hd⟩ := id ht
 obtain ⟨⟨cls2, dd2, data2, sl2⟩, ho2, hc2, n2, hd2⟩ := id hb
 simp only at hc hd hc2 hd2
 subst hc hd hc2 hd2
 exact concat_meets ⟨_, ho, rfl⟩ ⟨_, ho2, rfl⟩ noFill_tuple_add seq_tuple_add PySem.F.slot_tuple_add PySem.F.entry_tuple_add (PySem.F.args_tuple_add_2 _ _)
   (tuple_addW0 t b ([] : List Value).toArray ws.toArray n n2 dd dd2 sl sl2 (by simp)) ⟨ho, ho2, h⟩
theorem getItem_tuple_whole {t sl : Addr} {items : Array Value} {vl vu : Value} {lo hi : Option Int} {Q : Value -> Shared -> Prop} (ht : IsTup s.heap t items) (hs : s.heap.IsSliceOf sl vl vu .none) (pl : IsPart vl lo) (pu : IsPart vu hi)
  (hw : sIx items.size 0 lo = 0 /\ sIx items.size items.size hi = items.size) (h : Q (.ref t) s) : wpAny (model prog w) A (getItem (.ref t) (.ref sl)) Q E s := by
 obtain ⟨os, hos, hcs, hds⟩ := id hs
 have hTs : s.TypeIs (.ref sl) "slice" := ⟨os, hos, hcs⟩
 unfold getItem
 try with_reducible refine wpAny_holding ?_
 first | refine wpAny_bind (wpAny_pure ?_) | skip
 refine wpAny_bind (wpAny_sequenceKey ht.typeIs (by decide) ?_)
 refine wpAny_bind (wpAny_callSpecial?_slot (name := Str.ofString "__getitem__") ht.typeIs PyProof.Rows.slot_tuple_getitem
  (wpAny_call_entry PyProof.Rows.slot_tuple_getitem ht.typeIs entry_tuple_getitem ?_ (args_tuple_getitem _ _)))
 show wpAny _ _ (Builtin.Tuple.tupleItemsOf (.ref t) >>= _) _ _ s
 refine wpAny_bind (tupleItemsOf_ ht ?_)
 refine wpAny_bind (wpAny_typeOf hTs ?_)
 rw [if_pos (by decide)]
 refine wpAny_bind (sliceApplied_gen hs pl pu ?_)
 have hyes : (((sIx items.size 0 lo : Nat) : Int) == 0 && (1 : Int) == 1 && (sIx items.size items.size hi - sIx items.size 0 lo) == items.size) = true := by
  rw [hw.1, hw.2]
  simp
 show wpAny _ _ (if (((sIx items.size 0 lo : Nat) : Int) == 0 && (1 : Int) == 1 && (sIx items.size items.size hi - sIx items.size 0 lo) == items.size) = true then _ else _) _ _ s
 rw [if_pos hyes]
 unfold Builtin.Tuple.tupleIsExact
 first
  | (refine wpAny_bind (wpAny_bind (wpAny_typeOf ht.typeIs (wpAny_pure ?_))); rw [if_pos (by decide)]; exact wpAny_bind (wpAny_rule (wpAny_pure ⟨_, rfl, wpAny_pure h⟩)))
  | (refine wpAny_bind (wpAny_bind (wpAny_typeOf ht.typeIs (wpAny_pure ?_))); rw [if_pos (by decide)]; exact wpAny_bind (wpAny_rule (wpAny_bind (wpAny_pure (wpAny_pure ⟨_, rfl, wpAny_pure h⟩)))))
  | (refine wpAny_bind (wpAny_bind (wpAny_bind (wpAny_typeOf ht.typeIs (wpAny_pure ?_)))); rw [if_pos (by decide)]; exact wpAny_bind (wpAny_rule (wpAny_pure (wpAny_pure ⟨_, rfl, wpAny_pure h⟩))))
  | (refine wpAny_bind (wpAny_bind (wpAny_typeOf ht.typeIs (wpAny_pure ?_))); rw [if_pos (by decide)]; trace_state; done)
end
end HT
namespace L2
open PySem PySem.Spec PyProof.Rows
section
variable {X : Cx}
noncomputable def rCatT0 (K : PySem.W.Frag) : R2 := fun x y H Q => ∃ a b ys, x = .ref a /\ y = .ref b /\ SqT K H a [] /\ SqT K H b ys /\ Q (.ref b) H
theorem op_catT0 : OpR X (binaryOp .Add) (rCatT0 X.K) := by
 intro pins s σ H x y v u Q I rx ry h
 obtain ⟨a, b, ys, rfl, rfl, ha, hb, q⟩ := h
 cases rx
 cases ry
 obtain ⟨its, r1, p1, _⟩ := I.tuple ha
 obtain ⟨its2, r2, p2, _⟩ := I.tuple hb
 cases r1
 exact HT.cat_tup0 p1 p2 ⟨.ref b, H, I, rfl, q⟩
noncomputable def rSlW (K : PySem.W.Frag) : V -> Option Int -> Option Int -> Hp -> VK -> Prop := fun x lo hi H Q => ∃ a xs, x = .ref a /\ SqT K H a xs /\ (HT.sIx xs.length 0 lo = 0 /\ HT.sIx xs.length xs.length hi = xs.length) /\ Q (.ref a) H
theorem sl_tupW : SlR X (rSlW X.K) := by
 intro pins s σ H x v vl vu lo hi sl Q I rx hs pl pu h
 obtain ⟨a, xs, rfl, hx, hw, q⟩ := h
 cases rx
 obtain ⟨its, r, ht, hz⟩ := I.tuple hx
 have hlen : its.toArray.size = xs.length := by rw [List.size_toArray]; exact r.length.symm
 refine ⟨"tuple", _, PyProof.Rows.slot_tuple_getitem.lookup, ht.typeIs, ?_⟩
 exact HT.getItem_tuple_whole ht hs pl pu (by rw [hlen]; exact hw) ⟨.ref a, H, I, rfl, q⟩
end
end L2
namespace EV
open PySem PySem.Spec PyProof.Rows L2
inductive D where
 | non | bl (b : Bool) | int (i : Int) | str (x : Str)
 | tup (ds : List D) | lst (ds : List D)
 | dK (ks : List Key) (ds : List D) | dT (ks : List (List Key)) (ds : List D)
 | ref (k : Nat) | fn (f : Nat) | scr (ns : List Int) | ktp (ds : List D)
 deriving Inhabited
noncomputable abbrev Store := List D
structure Gm where
 K : PySem.W.Frag
 fa : Nat -> Option Addr
 ca : Nat -> Option Addr
structure G where
 R : Hp
 α : List Addr
noncomputable def KTup (K : PySem.W.Frag) (a : Addr) (xs : List V) : Prop := ∃ (o : Obj) (its : Array Value) (n : Nat), K.lookup a = some o /\ o.cls = .type "tuple" /\ o.data = .seq its n /\ its.size <= sizeLine /\ Vals xs its.toList
mutual
noncomputable def Has (Γ : Gm) (g : G) : D -> V -> Prop
 | .non, v => v = .non
 | .bl b, v => v = .bl b
 | .int i, v => v = .int i
 | .str x, v => v = .str x
 | .tup ds, v => ∃ a vs, v = .ref a /\ g.R a = some (.tup vs) /\ Hass Γ g ds vs
 | .lst ds, v => ∃ a vs, v = .ref a /\ g.R a = some (.lst vs) /\ Hass Γ g ds vs
 | .dK ks ds, v => ∃ a vs, v = .ref a /\ g.R a = some (.dK (ks.zip vs)) /\ ks.length = ds.length /\ Hass Γ g ds vs
 | .dT ks ds, v => ∃ a vs, v = .ref a /\ g.R a = some (.dT (ks.zip vs)) /\ ks.length = ds.length /\ Hass Γ g ds vs
 | .ref k, v => ∃ a, g.α[k]? = some a /\ v = .ref a
 | .fn f, v => ∃ a, Γ.fa f = some a /\ v = .ref a
 | .scr ns, v => ∃ a, v = .ref a /\ SqL Γ.K g.R a (ns.map V.int)
 | .ktp ds, v => ∃ a vs, v = .ref a /\ KTup Γ.K a vs /\ Hass Γ g ds vs
noncomputable def Hass (Γ : Gm) (g : G) : List D -> List V -> Prop
 | [], vs => vs = []
 | d :: ds, vs => ∃ v r, vs = v :: r /\ Has Γ g d v /\ Hass Γ g ds r
end
structure Le (g g' : G) : Prop where
 rr : Same g.R g'.R
 aa : ∀ (k : Nat) (a : Addr), g.α[k]? = some a -> g'.α[k]? = some a
theorem Le.refl (g : G) : Le g g := ⟨Same.refl _, fun _ _ h => h⟩
theorem Le.trans {g g1 g2 : G} (a : Le g g1) (b : Le g1 g2) : Le g g2 := ⟨a.rr.trans b.rr, fun k c h => b.aa k c (a.aa k c h)⟩
mutual
theorem has_mono {Γ : Gm} {g g' : G} (e : Le g g') : ∀ (d : D) (v : V), Has Γ g d v -> Has Γ g' d v
 | .non, _, h => h
 | .bl _, _, h => h
 | .int _, _, h => h
 | .str _, _, h => h
 | .tup ds, _, ⟨a, vs, h1, h2, h3⟩ => ⟨a, vs, h1, e.rr _ _ h2, hass_mono e ds vs h3⟩
 | .lst ds, _, ⟨a, vs, h1, h2, h3⟩ => ⟨a, vs, h1, e.rr _ _ h2, hass_mono e ds vs h3⟩
 | .dK ks ds, _, ⟨a, vs, h1, h2, h4, h3⟩ => ⟨a, vs, h1, e.rr _ _ h2, h4, hass_mono e ds vs h3⟩
 | .dT ks ds, _, ⟨a, vs, h1, h2, h4, h3⟩ => ⟨a, vs, h1, e.rr _ _ h2, h4, hass_mono e ds vs h3⟩
 | .ref k, _, ⟨a, h1, h2⟩ => ⟨a, e.aa _ _ h1, h2⟩
 | .fn f, _, h => h
 | .scr _, _, ⟨a, h1, h2⟩ => ⟨a, h1, e.rr.seq h2⟩
 | .ktp ds, _, ⟨a, vs, h1, h2, h3⟩ => ⟨a, vs, h1, h2, hass_mono e ds vs h3⟩
theorem hass_mono {Γ : Gm} {g g' : G} (e : Le g g') : ∀ (ds : List D) (vs : List V), Hass Γ g ds vs -> Hass Γ g' ds vs
 | [], _, h => h
 | d :: ds, _, ⟨v, r, h1, h2, h3⟩ => ⟨v, r, h1, has_mono e d v h2, hass_mono e ds r h3⟩
end
theorem Has.mono {Γ : Gm} {g g' : G} {d : D} {v : V} (h : Has Γ g d v) (e : Le g g') : Has Γ g' d v := has_mono e d v h
theorem Hass.mono {Γ : Gm} {g g' : G} {d : List D} {v : List V} (h : Hass Γ g d v) (e : Le g g') : Hass Γ g' d v := hass_mono e d v h
section
variable {Γ : Gm} {g : G}
theorem Hass.len : ∀ {ds : List D} {vs : List V}, Hass Γ g ds vs -> vs.length = ds.length
 | [], _, h => by cases (show _ = [] from h); rfl
 | d :: ds, _, ⟨v, r, h1, _, h3⟩ => by subst h1; simp [Hass.len h3]
theorem Hass.get : ∀ {ds : List D} {vs : List V} {i : Nat} {d : D}, Hass Γ g ds vs -> ds[i]? = some d -> ∃ v, vs[i]? = some v /\ Has Γ g d v
 | [], _, _, _, _, e => by simp at e
 | d :: ds, _, 0, _, ⟨v, r, h1, h2, _⟩, e => by subst h1; simp at e; subst e; exact ⟨v, rfl, h2⟩
 | d :: ds, _, i + 1, _, ⟨v, r, h1, _, h3⟩, e => by
  subst h1
  obtain ⟨u, q, hu⟩ := Hass.get (i := i) h3 (by simpa using e)
  exact ⟨u, by simpa using q, hu⟩
theorem Hass.of : ∀ {ds : List D} {vs : List V}, vs.length = ds.length -> (∀ (i : Nat) (d : D) (v : V), ds[i]? = some d -> vs[i]? = some v -> Has Γ g d v) -> Hass Γ g ds vs
 | [], [], _, _ => rfl
 | d :: ds, v :: vs, hl, h => ⟨v, vs, rfl, h 0 d v rfl rfl, Hass.of (by simpa using hl) fun i d v e1 e2 => h (i + 1) d v (by simpa using e1) (by simpa using e2)⟩
 | [], _ :: _, hl, _ => by simp at hl
 | _ :: _, [], hl, _ => by simp at hl
theorem Hass.one {d : D} {vs : List V} (h : Hass Γ g [d] vs) : ∃ v, vs = [v] /\ Has Γ g d v := by
 obtain ⟨v, r, e, hd, hr⟩ := h
 cases (show r = [] from hr)
 exact ⟨v, e, hd⟩
theorem Hass.two {d e : D} {vs : List V} (h : Hass Γ g [d, e] vs) : ∃ v u, vs = [v, u] /\ Has Γ g d v /\ Has Γ g e u := by
 obtain ⟨v, r, e1, hd, hr⟩ := h
 obtain ⟨u, e2, he⟩ := Hass.one hr
 subst e2
 exact ⟨v, u, e1, hd, he⟩
theorem Hass.mk1 {d : D} {v : V} (h : Has Γ g d v) : Hass Γ g [d] [v] := ⟨v, [], rfl, h, rfl⟩
theorem Hass.app : ∀ {ds es : List D} {vs us : List V}, Hass Γ g ds vs -> Hass Γ g es us -> Hass Γ g (ds ++ es) (vs ++ us)
 | [], _, _, _, h, k => by cases (show _ = [] from h); exact k
 | d :: ds, _, _, _, ⟨v, r, h1, h2, h3⟩, k => by subst h1; exact ⟨v, _, rfl, h2, Hass.app h3 k⟩
theorem Hass.drop {ds : List D} {vs : List V} (n : Nat) (h : Hass Γ g ds vs) : Hass Γ g (ds.drop n) (vs.drop n) := by
 refine Hass.of (by rw [List.length_drop, List.length_drop, h.len]) fun i d v e1 e2 => ?_
 rw [List.getElem?_drop] at e1 e2
 obtain ⟨u, q, hu⟩ := h.get e1
 rw [q] at e2
 cases e2
 exact hu
theorem Hass.take {ds : List D} {vs : List V} (n : Nat) (h : Hass Γ g ds vs) : Hass Γ g (ds.take n) (vs.take n) := by
 refine Hass.of (by rw [List.length_take, List.length_take, h.len]) fun i d v e1 e2 => ?_
 rw [List.getElem?_take] at e1 e2
 split at e1
 ·rename_i hi
  rw [if_pos hi] at e2
  obtain ⟨u, q, hu⟩ := h.get e1
  rw [q] at e2
  cases e2
  exact hu
 ·cases e1
theorem Hass.set {ds : List D} {vs : List V} {d : D} {v : V} (n : Nat) (h : Hass Γ g ds vs) (hd : Has Γ g d v) : Hass Γ g (ds.set n d) (vs.set n v) := by
 refine Hass.of (by rw [List.length_set, List.length_set, h.len]) fun i d' v' e1 e2 => ?_
 rw [List.getElem?_set] at e1 e2
 split at e1
 ·rename_i hi
  rw [if_pos hi] at e2
  split at e1
  ·split at e2
   ·cases e1; cases e2; exact hd
   ·cases e2
  ·cases e1
 ·rename_i hi
  rw [if_neg hi] at e2
  obtain ⟨u, q, hu⟩ := h.get e1
  rw [q] at e2
  cases e2
  exact hu
theorem Hass.ints : ∀ {ns : List Int}, Hass Γ g (ns.map D.int) (ns.map V.int)
 | [] => rfl
 | _ :: _ => ⟨_, _, rfl, rfl, Hass.ints⟩
end
noncomputable def CellOk (Γ : Gm) (H : Hp) (g : G) (a : Addr) : D -> Prop
 | .lst ds => ∃ vs, H a = some (.lst vs) /\ Hass Γ g ds vs
 | .dK ks ds => ∃ vs, H a = some (.dK (ks.zip vs)) /\ ks.length = ds.length /\ Hass Γ g ds vs
 | .dT ks ds => ∃ vs, H a = some (.dT (ks.zip vs)) /\ ks.length = ds.length /\ Hass Γ g ds vs
 | _ => False
theorem CellOk.mono {Γ : Gm} {H H' : Hp} {g g' : G} {a : Addr} {c : D} (h : CellOk Γ H g a c) (e : Le g g') (hh : ∀ o, H a = some o -> H' a = some o) : CellOk Γ H' g' a c := by
 cases c with
 | lst ds => obtain ⟨vs, h1, h2⟩ := h; exact ⟨vs, hh _ h1, h2.mono e⟩
 | dK ks ds => obtain ⟨vs, h1, h3, h2⟩ := h; exact ⟨vs, hh _ h1, h3, h2.mono e⟩
 | dT ks ds => obtain ⟨vs, h1, h3, h2⟩ := h; exact ⟨vs, hh _ h1, h3, h2.mono e⟩
 | non => exact h
 | bl => exact h
 | int => exact h
 | str => exact h
 | tup => exact h
 | ref => exact h
 | fn => exact h
 | scr => exact h
 | ktp => exact h
theorem CellOk.isMut {Γ : Gm} {H : Hp} {g : G} {a : Addr} {c : D} (h : CellOk Γ H g a c) : ∃ o, H a = some o /\ Mut (some o) := by
 cases c with
 | lst ds => obtain ⟨vs, h1, h2⟩ := h; exact ⟨_, h1, True.intro⟩
 | dK ks ds => obtain ⟨vs, h1, h3, h2⟩ := h; exact ⟨_, h1, True.intro⟩
 | dT ks ds => obtain ⟨vs, h1, h3, h2⟩ := h; exact ⟨_, h1, True.intro⟩
 | non => exact h.elim
 | bl => exact h.elim
 | int => exact h.elim
 | str => exact h.elim
 | tup => exact h.elim
 | ref => exact h.elim
 | fn => exact h.elim
 | scr => exact h.elim
 | ktp => exact h.elim
structure WOk (Γ : Gm) (H : Hp) (g : G) (S : Store) : Prop where
 rh : Same g.R H
 len : g.α.length = S.length
 nd : g.α.Nodup
 off : ∀ a ∈ g.α, g.R a = none
 cell : ∀ (k : Nat) (c : D) (a : Addr), S[k]? = some c -> g.α[k]? = some a -> CellOk Γ H g a c
structure Step (H : Hp) (g : G) (H' : Hp) (g' : G) : Prop where
 le : Le g g'
 fr : ∀ a o, H a = some o -> a ∉ g.α -> H' a = some o
 ex : ∀ a o, H a = some o -> ∃ o', H' a = some o'
 na : ∀ a ∈ g'.α, a ∈ g.α \/ H a = none
 nr : ∀ a, g'.R a ≠ none -> g.R a ≠ none \/ H a = none
theorem Step.refl (H : Hp) (g : G) : Step H g H g := ⟨Le.refl g, fun _ _ h _ => h, fun _ o h => ⟨o, h⟩, fun _ h => .inl h, fun _ h => .inl h⟩
theorem Step.noneOf {H H' : Hp} {g g' : G} (s : Step H g H' g') {a : Addr} (h : H' a = none) : H a = none := by
 cases q : H a with
 | none => rfl
 | some o =>
  obtain ⟨o', e⟩ := s.ex a o q
  rw [e] at h; cases h
theorem Step.trans {H H1 H2 : Hp} {g g1 g2 : G} (a : Step H g H1 g1) (b : Step H1 g1 H2 g2) : Step H g H2 g2 where
 le := a.le.trans b.le
 fr := fun x o h n => b.fr x o (a.fr x o h n) fun m => by
  rcases a.na x m with q | q
  ·exact n q
  ·rw [h] at q; cases q
 ex := fun x o h => let ⟨o1, h1⟩ := a.ex x o h; b.ex x o1 h1
 na := fun x m => by
  rcases b.na x m with q | q
  ·exact a.na x q
  ·exact .inr (a.noneOf q)
 nr := fun x m => by
  rcases b.nr x m with q | q
  ·exact a.nr x q
  ·exact .inr (a.noneOf q)
theorem Step.of_same {H H' : Hp} {g g' : G} (s : Same H H') (le : Le g g') (na : ∀ a ∈ g'.α, a ∈ g.α \/ H a = none) (nr : ∀ a, g'.R a ≠ none -> g.R a ≠ none \/ H a = none) : Step H g H' g' :=
 ⟨le, fun a o h _ => s a o h, fun a o h => ⟨o, s a o h⟩, na, nr⟩
noncomputable def VOk (Γ : Gm) (H : Hp) (d : D) (fr : Bool) (v : V) (H' : Hp) (g' : G) : Prop :=
 if fr = true then ∃ a, v = .ref a /\ H a = none /\ g'.R a = none /\ a ∉ g'.α /\ CellOk Γ H' g' a d else Has Γ g' d v
noncomputable def G.put (g : G) (a : Addr) (o : HO) : G := { g with R := upd g.R a o }
noncomputable def G.cell (g : G) (a : Addr) : G := { g with α := g.α ++ [a] }
theorem Le.put {g : G} {a : Addr} {o : HO} (h : g.R a = none) : Le g (g.put a o) := ⟨fun b u q => by
 show upd g.R a o b = some u
 rw [upd_ne (ne_of_none q h)]; exact q, fun _ _ q => q⟩
theorem Le.cell {g : G} {a : Addr} : Le g (g.cell a) := ⟨Same.refl _, fun k b q => by
 show (g.α ++ [a])[k]? = some b
 rw [List.getElem?_append_left (List.getElem?_eq_some_iff.mp q).1]; exact q⟩
section
variable {Γ : Gm} {H H' : Hp} {g g' : G} {S : Store} {d : D} {v : V} {a : Addr}
theorem WOk.put {o : HO} (w : WOk Γ H g S) (h : H a = some o) (hn : g.R a = none) (ha : a ∉ g.α) : WOk Γ H (g.put a o) S where
 rh := fun b u q => by
  by_cases hb : b = a
  ·subst hb
   have q' : upd g.R b o b = some u := q
   rw [upd_same] at q'
   cases q'
   exact h
  ·have q' : upd g.R a o b = some u := q
   rw [upd_ne hb] at q'
   exact w.rh b u q'
 len := w.len
 nd := w.nd
 off := fun b hb => by
  show upd g.R a o b = none
  have hne : b ≠ a := by
   rintro rfl
   exact ha hb
  rw [upd_ne hne]
  exact w.off b hb
 cell := fun k c b h1 h2 => (w.cell k c b h1 h2).mono (Le.put hn) fun _ q => q
theorem Step.put {o : HO} (s : Step H g H' g') (hn : g'.R a = none) (h : H a = none) : Step H g H' (g'.put a o) where
 le := s.le.trans (Le.put hn)
 fr := s.fr
 ex := s.ex
 na := s.na
 nr := fun b q => by
  by_cases hb : b = a
  ·subst hb; exact .inr h
  ·have q' : upd g'.R a o b ≠ none := q
   rw [upd_ne hb] at q'
   exact s.nr b q'
theorem has_frozen {o : HO} (hn : g.R a = none) (ho : H a = some o) (h : CellOk Γ H g a d) : Has Γ (g.put a o) d (.ref a) := by
 have le : Le g (g.put a o) := Le.put hn
 have hr : (g.put a o).R a = some o := upd_same
 cases d with
 | lst ds => obtain ⟨vs, h1, h2⟩ := h; rw [h1] at ho; cases ho; exact ⟨a, vs, rfl, hr, h2.mono le⟩
 | dK ks ds => obtain ⟨vs, h1, h3, h2⟩ := h; rw [h1] at ho; cases ho; exact ⟨a, vs, rfl, hr, h3, h2.mono le⟩
 | dT ks ds => obtain ⟨vs, h1, h3, h2⟩ := h; rw [h1] at ho; cases ho; exact ⟨a, vs, rfl, hr, h3, h2.mono le⟩
 | non => exact h.elim
 | bl => exact h.elim
 | int => exact h.elim
 | str => exact h.elim
 | tup => exact h.elim
 | ref => exact h.elim
 | fn => exact h.elim
 | scr => exact h.elim
 | ktp => exact h.elim
@[simp] noncomputable def isIns : D -> Bool := fun _ => false
theorem freeze {fr : Bool} (s : Step H g H' g') (w : WOk Γ H' g' S) (h : VOk Γ H d fr v H' g') (hi : isIns d = false) : ∃ g2, Step H g H' g2 /\ WOk Γ H' g2 S /\ Has Γ g2 d v /\ Le g' g2 := by
 cases fr with
 | false => exact ⟨g', s, w, h, Le.refl _⟩
 | true =>
  obtain ⟨a, rfl, h0, hn, ha, hc⟩ := (show ∃ a, v = .ref a /\ H a = none /\ g'.R a = none /\ a ∉ g'.α /\ CellOk Γ H' g' a d from h)
  obtain ⟨o, ho, _⟩ := hc.isMut
  exact ⟨g'.put a o, s.put hn h0, w.put ho hn ha, has_frozen hn ho hc, Le.put hn⟩
theorem boxed (s : Step H g H' g') (w : WOk Γ H' g' S) (h : VOk Γ H d true v H' g') : ∃ g2, Step H g H' g2 /\ WOk Γ H' g2 (S ++ [d]) /\ Has Γ g2 (.ref S.length) v := by
 obtain ⟨a, rfl, h0, hn, ha, hc⟩ := (show ∃ a, v = .ref a /\ H a = none /\ g'.R a = none /\ a ∉ g'.α /\ CellOk Γ H' g' a d from h)
 refine ⟨g'.cell a, ⟨s.le.trans Le.cell, s.fr, s.ex, fun b hb => ?_, s.nr⟩, ⟨w.rh, ?_, ?_, fun b hb => ?_, fun k c b h1 h2 => ?_⟩, a, ?_, rfl⟩
 ·rcases List.mem_append.mp hb with q | q
  ·exact s.na b q
  ·rw [List.mem_singleton.mp q]; exact .inr h0
 ·show (g'.α ++ [a]).length = (S ++ [d]).length
  simp [w.len]
 ·show (g'.α ++ [a]).Nodup
  exact nd_snocA w.nd ha
 ·rcases List.mem_append.mp hb with q | q
  ·exact w.off b q
  ·rw [List.mem_singleton.mp q]; exact hn
 ·have h2' : (g'.α ++ [a])[k]? = some b := h2
  by_cases hk : k < S.length
  ·rw [List.getElem?_append_left hk] at h1
   rw [List.getElem?_append_left (by rw [w.len]; exact hk)] at h2'
   exact (w.cell k c b h1 h2').mono Le.cell fun _ q => q
  ·rw [List.getElem?_append_right (by omega)] at h1
   rw [List.getElem?_append_right (by rw [w.len]; omega)] at h2'
   have e0 : k - S.length = 0 := by
    cases q : k - S.length with
    | zero => rfl
    | succ n => rw [q] at h1; simp at h1
   rw [e0] at h1
   rw [w.len, e0] at h2'
   simp at h1 h2'
   subst h1 h2'
   exact hc.mono Le.cell fun _ q => q
 ·show (g'.α ++ [a])[S.length]? = some a
  rw [<- w.len]
  simp
where
 nd_snocA : ∀ {l : List Addr} {k : Addr}, l.Nodup -> ¬ k ∈ l -> (l ++ [k]).Nodup := fun {l k} h hk => by
  rw [List.nodup_append]
  exact ⟨h, by simp, fun x hx y hy => by rw [List.mem_singleton.mp hy]; rintro rfl; exact hk hx⟩
end
end EV
namespace EV
open PySem L2
theorem non (h : false = true) : false = true := h
theorem nobE {p : Prop} (h : false = true) : p := nomatch h
inductive Ty where
 | int | bool | str | tuple | list | dict
 deriving DecidableEq
inductive BI where
 | len | abs | int | str | tuple | list | sum | all | any | isinst (t : Ty) | min2 | max2 | sorted | repr | dict
 deriving DecidableEq
inductive MT where
 | get1 | get2 | index | join | split
 deriving DecidableEq
inductive T where
 | one (i : Nat) | tup (is : List Nat) | nst (i : Nat) (is : List Nat)
 deriving DecidableEq
inductive E where
 | var (i : Nat) | con (d : D) | glo (n : Nat) (d : D)
 | bin (op : Operator) (a b : E) | neg (a : E)
 | cmp (op : CmpOp) (a b : E) | chn (o1 o2 : CmpOp) (a b c : E)
 | not (a : E) | and (a b : E) | or (a b : E)
 | ite (c a b : E)
 | tup (es : List E) | lst (es : List E) | dic (tk : Bool) (ks : List Key) (vs : List E)
 | sub (a i : E) | slc (a : E) (lo hi : Option E)
 | bi (b : BI) (es : List E) | mth (m : MT) (o : E) (es : List E)
 | call (f : Nat) (es : List E) | callk (f : Nat) (perm : List Nat) (es : List E) | callv (i : Nat) (es : List E)
 | comp (t : T) (js : List Nat) (it : E) (ifs : List E) (elt : E)
 | box (e : E) | one (e : E) | flip (e : E)
 | seq (e : E) | rng (lo : Option E) (hi : E) | enum (e : E) | zip (a b : E) | rev (e : E) | items (e : E)
inductive C where
 | set (t : T) (e : E)
 | expr (e : E)
 | ret (e : E) | retN
 | ite (c : E) (a b : List C)
 | whl (c : E) (b : List C)
 | forr (t : T) (it : E) (b : List C)
 | app (i : Nat) (e : E) | ext (i : Nat) (e : E)
 | stv (i : Nat) (k v : E) | sti (o k v : E) | appR (o e : E) | pop (i : Nat) | popR (t : T) (o : E) | popO (t : T) (i : Nat)
 | pass | brk | cnt | frz (i : Nat)
noncomputable def LIM : Nat := 1000000
noncomputable def fits (n : Nat) : Bool := n <= LIM
noncomputable def small64 (i : Int) : Bool := decide (-(2 ^ 64) < i) && decide (i < 2 ^ 64)
noncomputable def addD : D -> D -> Option (D × Bool)
 | .int i, .int j => some (.int (i + j), false)
 | .str x, .str y => if fits (x.length + y.length) then some (.str (x ++ y), false) else none
 | .tup a, .tup b => if fits (a.length + b.length) then some (.tup (a ++ b), false) else none
 | .lst a, .lst b => if fits (a.length + b.length) then some (.lst (a ++ b), true) else none
 | _, _ => none
noncomputable def mulD : D -> D -> Option (D × Bool)
 | .int i, .int j => if small64 i || small64 j then some (.int (i * j), false) else none
 | .lst l, .int n => if decide (0 <= n) && decide (n < 2 ^ 20) && fits (l.length * n.toNat) then some (.lst (List.replicate n.toNat l).flatten, true) else none
 | _, _ => none
noncomputable def num2 (f : Int -> Int -> Option Int) : D -> D -> Option (D × Bool)
 | .int i, .int j => (f i j).map fun k => (.int k, false)
 | _, _ => none
noncomputable def opD (op : Operator) (a b : D) : Option (D × Bool) := match op with
 | .Add => addD a b
 | .Sub => num2 (fun i j => some (i - j)) a b
 | .Mult => mulD a b
 | .FloorDiv => num2 (fun i j => if decide (0 < j) && decide (j < 2 ^ 64) then some (i / j) else none) a b
 | .Mod => num2 (fun i j => if decide (0 < j) then some (i % j) else none) a b
 | .Pow => num2 (fun i j => if decide (0 <= j) && decide (j <= 1000000) && small64 i then some (i ^ j.toNat) else none) a b
 | _ => none
mutual
noncomputable def eqP : D -> D -> Bool
 | .non, .non => true
 | .bl a, .bl b => a == b
 | .bl a, .int j => (if a then 1 else 0) == j
 | .int i, .bl b => i == (if b then 1 else 0)
 | .int a, .int b => a == b
 | .str a, .str b => a == b
 | .tup a, .tup b => eqPs a b
 | .lst a, .lst b => eqPs a b
 | _, _ => false
noncomputable def eqPs : List D -> List D -> Bool
 | [], [] => true
 | a :: as, b :: bs => eqP a b && eqPs as bs
 | _, _ => false
end
mutual
noncomputable def okP : Nat -> D -> Bool
 | _, .non => true
 | _, .bl _ => true
 | _, .int _ => true
 | _, .str _ => true
 | 0, .tup _ => false
 | n + 1, .tup a => okPs n a
 | 0, .lst _ => false
 | n + 1, .lst a => okPs n a
 | _, _ => false
noncomputable def okPs : Nat -> List D -> Bool
 | _, [] => true
 | n, a :: as => okP n a && okPs n as
end
noncomputable def eqD (a b : D) : Option Bool := if okP 60 a && okP 60 b then some (eqP a b) else none
noncomputable def keyD : D -> Option Key
 | .int i => some (.inl i)
 | .str x => some (.inr x)
 | _ => none
noncomputable def keysD : List D -> Option (List Key)
 | [] => some []
 | d :: ds => match keyD d, keysD ds with
  | some k, some ks => some (k :: ks)
  | _, _ => none
noncomputable def findK {κ : Type} [DecidableEq κ] : List κ -> κ -> Option Nat
 | [], _ => none
 | k :: ks, x => if k = x then some 0 else (findK ks x).map (· + 1)
noncomputable def lookK {κ : Type} [DecidableEq κ] (ks : List κ) (ds : List D) (k : κ) : Option D := (findK ks k).bind fun i => ds[i]?
noncomputable def mapK {κ α : Type} [DecidableEq κ] : List κ -> List α -> κ -> α -> List α
 | k :: ks, d :: ds, x, y => (if k = x then y else d) :: mapK ks ds x y
 | _, ds, _, _ => ds
noncomputable def hasK {κ : Type} [DecidableEq κ] (ks : List κ) (k : κ) : Bool := ks.any fun x => decide (x = k)
noncomputable def putKs {κ α : Type} [DecidableEq κ] (ks : List κ) (ds : List α) (k : κ) (d : α) : List κ × List α :=
 if hasK ks k = true then (ks, mapK ks ds k d) else (ks ++ [k], ds ++ [d])
noncomputable def isNone : D -> Bool
 | .non => true
 | _ => false
noncomputable def dgetD : D -> D -> Option (Option D)
 | .dK ks ds, k => (keyD k).map (lookK ks ds)
 | .dT ks ds, .tup t => (keysD t).map (lookK ks ds)
 | _, _ => none
noncomputable def isSc : D -> Bool
 | .non => true
 | .bl _ => true
 | .int _ => true
 | .str _ => true
 | _ => false
noncomputable def memD (l : List D) (d : D) : Option Bool := if isSc d && l.all isSc then some (l.any fun y => eqP y d) else none
noncomputable def deref (S : Store) : D -> D
 | .ref k => (S[k]?).getD .non
 | d => d
noncomputable def int2 (f : Int -> Int -> Bool) : D -> D -> Option Bool
 | .int i, .int j => some (f i j)
 | _, _ => none
noncomputable def isD (a : D) : D -> Option Bool
  | .non => some (isNone a)
  | .bl b => (match a with
    | .bl a => some (a == b)
    | _ => none)
  | _ => none
noncomputable def inD (a : D) : D -> Option Bool
  | .lst l => memD l a
  | .tup l => memD l a
  | .ktp l => memD l a
  | .str y => (match a with
    | .str x => some (!(Builtin.Str.occurrences y x 0 y.length 1).isEmpty)
    | _ => none)
  | .dK ks ds => (dgetD (.dK ks ds) a).map (·.isSome)
  | .dT ks ds => (dgetD (.dT ks ds) a).map (·.isSome)
  | _ => none
noncomputable def intsD : List D -> Option (List Int)
 | [] => some []
 | .int i :: r => (intsD r).map (i :: ·)
 | _ :: _ => none
noncomputable def neD : D -> D -> Option Bool
 | .dK ks vs, .dK ks' vs' => if decide (ks = ks') && decide ks.Nodup && decide (intsD vs = intsD vs') && (intsD vs).isSome then some false else none
 | a, b => (eqD a b).map (!·)
noncomputable def cmpD (op : CmpOp) (a b : D) : Option Bool := match op with
 | .Eq => eqD a b
 | .NotEq => neD a b
 | .Lt => int2 (fun i j => decide (i < j)) a b
 | .LtE => int2 (fun i j => decide (i <= j)) a b
 | .Gt => int2 (fun i j => decide (j < i)) a b
 | .GtE => int2 (fun i j => decide (j <= i)) a b
 | .Is => isD a b
 | .IsNot => (isD a b).map (!·)
 | .In => inD a b
 | .NotIn => (inD a b).map (!·)
noncomputable abbrev idx (n : Nat) (i : Int) : Option Nat := ixN n i
noncomputable def subD : D -> D -> Option D
 | .tup l, .int i => (idx l.length i).bind fun k => l[k]?
 | .lst l, .int i => (idx l.length i).bind fun k => l[k]?
 | .scr l, .int i => (idx l.length i).bind fun k => (l[k]?).map D.int
 | .str x, .int i => if fits x.length then (idx x.cps.toList.length i).bind fun k => (x.cps.toList[k]?).map fun c => .str ⟨#[c]⟩ else none
 | .dK ks ds, k => (dgetD (.dK ks ds) k).bind id
 | .dT ks ds, k => (dgetD (.dT ks ds) k).bind id
 | _, _ => none
noncomputable def cutD (l : List D) (lo hi : Option Int) : List D := (l.drop (HT.sIx l.length 0 lo)).take (HT.sIx l.length l.length hi - HT.sIx l.length 0 lo)
noncomputable def slcD (d : D) (lo hi : Option Int) : Option (D × Bool) :=
 match d with
 | .tup l => some (.tup (cutD l lo hi), false)
 | .lst l => some (.lst (cutD l lo hi), true)
 | .scr l => some (.lst (cutD (l.map D.int) lo hi), true)
 | .str x => if fits x.length then some (.str (PySem.Txt.slice x lo hi), false) else none
 | _ => none
noncomputable def flipD : D -> Option (D × Bool)
 | .lst l => some (.lst l.reverse, true)
 | .tup l => some (.tup l.reverse, false)
 | _ => none
noncomputable def boolsD : List D -> Option (List Bool)
 | [] => some []
 | .bl b :: r => (boolsD r).map (b :: ·)
 | _ :: _ => none
noncomputable def isTy : Ty -> D -> Option Bool
 | t, .int _ => some (t == .int)
 | t, .bl _ => some (t == .bool || t == .int)
 | t, .str _ => some (t == .str)
 | t, .tup _ => some (t == .tuple)
 | t, .lst _ => some (t == .list)
 | t, .dK _ _ => some (t == .dict)
 | t, .non => some false
 | _, _ => none
noncomputable def seqD : D -> Option (List D)
 | .tup l => some l
 | .lst l => some l
 | .scr l => some (l.map D.int)
 | .ktp l => some l
 | _ => none
noncomputable def itrD : D -> Option (List D)
 | .str x => some (x.cps.toList.map fun c => .str ⟨#[c]⟩)
 | d => seqD d
noncomputable def lenD : D -> Option (D × Bool)
 | .tup l => some (.int l.length, false)
 | .lst l => some (.int l.length, false)
 | .scr l => some (.int l.length, false)
 | .str x => if fits x.length then some (.int x.length, false) else none
 | .dK ks _ => some (.int ks.length, false)
 | _ => none
noncomputable def absD : D -> Option (D × Bool)
 | .int i => some (.int (if i < 0 then -i else i), false)
 | _ => none
noncomputable def intOf : D -> Option (D × Bool)
 | .bl b => some (.int (if b then 1 else 0), false)
 | .int i => some (.int i, false)
 | _ => none
noncomputable def lotD : D -> Option (List D)
 | .lst l => some l
 | .tup l => some l
 | _ => none
noncomputable def onL (f : List D -> Option D) : D -> Option (D × Bool)
 | .lst l => (f l).map fun d => (d, false)
 | _ => none
mutual
noncomputable def pyD : Nat -> D -> Option PyData
 | _, .int i => if decide (i.natAbs.log2 < 1920) then some (.int i) else none
 | _, .str x => some (.str x)
 | n + 1, .tup l => (pyDs n l).map .tuple
 | _, _ => none
noncomputable def pyDs : Nat -> List D -> Option (List PyData)
 | _, [] => some []
 | n, d :: l => (pyD n d).bind fun a => (pyDs n l).map (a :: ·)
end
noncomputable def reprD (d : D) : Option (D × Bool) := (pyD 40 d).bind fun p => if fits p.shown.length then some (.str p.shown, false) else none
noncomputable def copD : D -> Option (D × Bool)
 | .dK ks vs => some (.dK ks vs, true)
 | _ => none
noncomputable def strsD : List D -> Option (List Str)
 | [] => some []
 | .str x :: r => (strsD r).map (x :: ·)
 | _ :: _ => none
noncomputable def strD : D -> Option (D × Bool)
 | .int i => if decide (i.natAbs.log2 < 1920) then some (.str (toString i), false) else none
 | .str x => some (.str x, false)
 | _ => none
noncomputable def joinD (x : Str) (d : D) : Option (D × Bool) := ((lotD d).bind strsD).bind fun ys => if fits ((ys.map (·.length)).sum + ys.length * x.length) then some (.str (PySem.Txt.join x ys), false) else none
noncomputable def splitD (x : Str) : D -> Option (D × Bool)
 | .str y => if (!(y.length == 0) && fits x.length && fits (PySem.Txt.split x y).length) = true then some (.lst ((PySem.Txt.split x y).map D.str), true) else none
 | _ => none
noncomputable def bi2 : BI -> D -> D -> Option (D × Bool)
 | .min2, d, e => num2 (fun i j => some (if j < i then j else i)) d e
 | .max2, d, e => num2 (fun i j => some (if j > i then j else i)) d e
 | _, _, _ => none
noncomputable def biD (b : BI) (ds : List D) : Option (D × Bool) := match ds with
  | [d] => (match b with
    | .len => lenD d
    | .abs => absD d
    | .int => intOf d
    | .tuple => (lotD d).map fun l => (.tup l, false)
    | .list => (lotD d).map fun l => (.lst l, true)
    | .sum => onL (fun l => (intsD l).map fun ns => .int ns.sum) d
    | .isinst t => (isTy t d).map fun b => (.bl b, false)
    | .str => strD d
    | _ => none)
  | [d, e] => bi2 b d e
  | _ => none
noncomputable def idxD : List D -> D -> Option Nat
 | [], _ => none
 | d :: ds, x => if eqP d x = true then some 0 else (idxD ds x).map (· + 1)
noncomputable def mthK : MT -> D -> Bool
 | .index, .lst _ => true
 | .get1, .dK _ _ => true
 | .get1, .dT _ _ => true
 | .get2, .dK _ _ => true
 | .get2, .dT _ _ => true
 | .join, .str _ => true
 | .split, .str _ => true
 | _, _ => false
noncomputable def mthD : MT -> D -> List D -> Option (D × Bool)
 | .index, .lst l, [x] => if okPs 59 l && okP 59 x then (idxD l x).map fun (i : Nat) => (.int (i : Int), false) else none
 | .get1, d, [k] => (dgetD d k).map fun o => (o.getD .non, false)
 | .get2, d, [k, x] => (dgetD d k).map fun o => (o.getD x, false)
 | .join, .str x, [d] => joinD x d
 | .split, .str x, [d] => splitD x d
 | _, _, _ => none
noncomputable def nT : T -> Nat
 | .one _ => 1
 | .nst _ is => 1 + is.length
 | .tup is => is.length
noncomputable def enumD : Nat -> List D -> List D
 | _, [] => []
 | n, d :: ds => .tup [.int n, d] :: enumD (n + 1) ds
noncomputable def enumS : D -> Option (List D)
 | .tup l => some l
 | .lst l => some l
 | _ => none
noncomputable def rangeD (lo hi : Int) : List D := (List.range (hi - lo).toNat).map fun (k : Nat) => .int (lo + (k : Int))
noncomputable def dicOk (tk : Bool) (ks : List Key) (ds : List D) : Bool := decide (ks.length = ds.length) && decide ks.Nodup && decide (ks.length <= 15) && (!tk || ks.isEmpty)
end EV
namespace EV
open PySem L2
inductive Slot where
 | no | sh (d : D) | ow (d : D)
 deriving Inhabited
inductive O where
 | next (ρ : List Slot) | ret (d : D) (fr : Bool) | brk (ρ : List Slot) | cnt (ρ : List Slot)
noncomputable def nst2 : D -> Option (D × List D)
  | .tup l => (match l with
    | x :: r => (match r with
      | y :: z => (match z with
        | [] => (match y with
          | .tup ds => some (x, ds)
          | _ => none)
        | _ => none)
      | _ => none)
    | _ => none)
  | _ => none
theorem nst2_is {d : D} {p : D × List D} (h : nst2 d = some p) : d = .tup [p.1, .tup p.2] := by
 cases d with
 | tup l =>
  cases l with
  | nil => cases h
  | cons x r =>
   cases r with
   | nil => cases h
   | cons y z =>
    cases z with
    | cons _ _ => cases h
    | nil =>
     cases y with
     | tup ds => cases h; rfl
     | _ => cases h
 | _ => cases h
noncomputable def bindT (ρ : List Slot) : T -> D × Bool -> Option (List Slot)
 | .one i, (d, fr) => if i < ρ.length && !isIns d then some (ρ.set i (if fr = true then .ow d else .sh d)) else none
 | .tup is, (.tup ds, _) => if is.length = ds.length /\ is.Nodup /\ is.all (· < ρ.length) then some ((is.zip ds).foldl (fun r p => r.set p.1 (.sh p.2)) ρ) else none
 | .nst i is, (d, _) => (nst2 d).bind fun p => if i < ρ.length /\ is.length = p.2.length /\ is.Nodup /\ is.all (· < ρ.length) then some ((is.zip p.2).foldl (fun r p => r.set p.1 (.sh p.2)) (ρ.set i (.sh p.1))) else none
 | _, _ => none
noncomputable def putD : D -> D -> D -> Option D
 | .lst l, .int i, d => (idx l.length i).map fun k => .lst (l.set k d)
 | .dK ks ds, k, d => (keyD k).bind fun k => if fits (ks.length + 1) then some (let p := putKs ks ds k d; .dK p.1 p.2) else none
 | .dT ks ds, .tup t, d => (keysD t).bind fun k => if fits (ks.length + 1) then some (let p := putKs ks ds k d; .dT p.1 p.2) else none
 | _, _, _ => none
noncomputable def isLst : Option D -> Bool
 | some (.lst _) => true
 | _ => false
noncomputable def extD : D -> Option (List D)
 | .lst l => some l
 | _ => none
structure Fn where
 np : Nat
 nv : Nat
 body : List C
noncomputable def entry (fn : Fn) (ds : List D) : List Slot := ds.map Slot.sh ++ List.replicate (fn.nv - ds.length) Slot.no
inductive Kd where
 | st | fr | bo
noncomputable abbrev Vl := D × Kd
noncomputable abbrev Po := Vl -> Store -> Prop
noncomputable abbrev Cf := Nat -> List D -> Po -> Store -> Prop
noncomputable def kd : Bool -> Kd
 | true => .fr
 | false => .st
noncomputable def ofB (p : D × Bool) : Vl := (p.1, kd p.2)
noncomputable def opt {α : Type} : Option α -> (α -> Prop) -> Prop
 | some a, Q => Q a
 | none, _ => False
noncomputable def opV (o : Option (D × Bool)) (Q : Vl -> Prop) : Prop := opt o fun p => Q (ofB p)
noncomputable def optS : Option (List Slot) -> (List Slot -> Prop) -> Prop := opt
noncomputable def tst : Bool -> Prop -> Prop -> Prop
 | true, T, _ => T
 | false, _, F => F
noncomputable def isB : D -> (Bool -> Prop) -> Prop
 | .bl b, Q => Q b
 | _, _ => False
noncomputable def isF : D -> (Nat -> Prop) -> Prop
 | .fn f, Q => Q f
 | _, _ => False
noncomputable def isZ : D -> (Int -> Prop) -> Prop
 | .int i, Q => Q i
 | _, _ => False
noncomputable def keep : Vl -> (D -> Prop) -> Prop
 | (d, .st), Q => Q d
 | (d, .fr), Q => Q d
 | _, _ => False
noncomputable def sel : Option Slot -> (D -> Prop) -> (D -> Prop) -> Prop
 | some (.sh d), Q, _ => Q d
 | some (.ow d), _, Q => Q d
 | _, _, _ => False
noncomputable def rdV (s : Option Slot) (Q : Vl -> Prop) : Prop := sel s (fun d => Q (d, .st)) (fun d => Q (d, .bo))
noncomputable def boxd : Vl -> (D -> Prop) -> Prop
 | (d, .fr), Q => Q d
 | _, _ => False
noncomputable def walkW (step : D -> (Option D -> Store -> Prop) -> Store -> Prop) : List D -> List D -> (List D -> Store -> Prop) -> Store -> Prop
 | [], acc, V, S => V acc S
 | d :: ds, acc, V, S => step d (fun o S1 => match o with
  | some x => tst (fits (acc.length + 1)) (walkW step ds (acc ++ [x]) V S1) False
  | none => walkW step ds acc V S1) S
noncomputable def inn (ρ : List Slot) (t : T) (js : List Nat) : List Slot := List.replicate (nT t) .no ++ js.map fun j => (ρ[j]?).getD .no
noncomputable def dicV (tk : Bool) (ks : List Key) (ds : List D) : D := if tk = true then .dT [] [] else .dK ks ds
mutual
noncomputable def wpE (cf : Cf) (ρ : List Slot) : E -> Po -> Store -> Prop
 | .var i, V, S => rdV ρ[i]? fun x => V x S
 | .con d, V, S => V (d, .st) S
 | .glo _ d, V, S => V (d, .st) S
 | .bin op a b, V, S => wpE cf ρ a (fun x S1 => wpE cf ρ b (fun y S2 => opV (opD op (deref S2 x.1) (deref S2 y.1)) fun x => V x S2) S1) S
 | .neg a, V, S => wpE cf ρ a (fun x S1 => isZ x.1 fun i => V (.int (-i), .st) S1) S
 | .cmp op a b, V, S => wpE cf ρ a (fun x S1 => wpE cf ρ b (fun y S2 => opt (cmpD op (deref S2 x.1) (deref S2 y.1)) fun r => V (.bl r, .st) S2) S1) S
 | .chn o1 o2 a b c, V, S => wpE cf ρ a (fun x S1 => wpE cf ρ b (fun y S2 => opt (cmpD o1 (deref S2 x.1) (deref S2 y.1)) fun r => tst r (wpE cf ρ c (fun z S3 => opt (cmpD o2 (deref S3 y.1) (deref S3 z.1)) fun r => V (.bl r, .st) S3) S2) (V (.bl false, .st) S2)) S1) S
 | .not a, V, S => wpE cf ρ a (fun x S1 => isB x.1 fun b => V (.bl (!b), .st) S1) S
 | .and a b, V, S => wpE cf ρ a (fun x S1 => isB x.1 fun r => tst r (wpE cf ρ b V S1) (V (.bl false, .st) S1)) S
 | .or a b, V, S => wpE cf ρ a (fun x S1 => isB x.1 fun r => tst r (V (.bl true, .st) S1) (wpE cf ρ b V S1)) S
 | .ite c a b, V, S => wpE cf ρ c (fun x S1 => isB x.1 fun r => tst r (wpE cf ρ a V S1) (wpE cf ρ b V S1)) S
 | .tup es, V, S => wpEs cf ρ es (fun ds S1 => tst (fits ds.length) (V (.tup ds, .st) S1) False) S
 | .lst es, V, S => wpEs cf ρ es (fun ds S1 => tst (fits ds.length) (V (.lst ds, .fr) S1) False) S
 | .dic tk ks es, V, S => wpEs cf ρ es (fun ds S1 => tst (dicOk tk ks ds) (V (dicV tk ks ds, .fr) S1) False) S
 | .sub a i, V, S => wpE cf ρ a (fun x S1 => wpE cf ρ i (fun y S2 => opt (subD (deref S2 x.1) y.1) fun d => V (d, .st) S2) S1) S
 | .slc a lo hi, V, S => wpE cf ρ a (fun x S1 => wpO cf ρ lo (fun l S2 => wpO cf ρ hi (fun h S3 => opV (slcD (deref S3 x.1) l h) fun x => V x S3) S2) S1) S
 | .bi b [e], V, S => wpE cf ρ e (fun x S1 => opV (biD b [deref S1 x.1]) fun x => V x S1) S
 | .bi b es, V, S => wpEs cf ρ es (fun ds S1 => opV (biD b (ds.map (deref S1))) fun x => V x S1) S
 | .mth m o es, V, S => wpE cf ρ o (fun x S1 => tst (mthK m (deref S1 x.1)) (wpEs cf ρ es (fun ds S2 => opV (mthD m (deref S2 x.1) ds) fun x => V x S2) S1) False) S
 | .call f es, V, S => wpEs cf ρ es (fun ds S1 => cf f ds V S1) S
 | .callk f perm es, V, S => wpEs cf ρ es (fun ds S1 => opt (perm.mapM fun i => ds[i]?) fun ds => cf f ds V S1) S
 | .comp t js it ifs elt, V, S => wpI cf ρ it (fun its S1 => walkW (fun d K S => optS (bindT (inn ρ t js) t (d, false)) fun ρ' => wpF cf ρ' ifs (fun b S1 => tst b (wpE cf ρ' elt (fun x S2 => keep x fun d => K (some d) S2) S1) (K none S1)) S) its [] (fun ds S2 => V (.lst ds, .fr) S2) S1) S
 | .box e, V, S => wpE cf ρ e (fun x S1 => boxd x fun d => V (.ref S1.length, .st) (S1 ++ [d])) S
 | .callv i es, V, S => rdV ρ[i]? fun x => isF x.1 fun f => wpEs cf ρ es (fun ds S1 => cf f ds V S1) S
 | .one e, V, S => wpE cf ρ e V S
 | .flip e, V, S => wpE cf ρ e (fun x S1 => opV (flipD (deref S1 x.1)) fun x => V x S1) S
 | _, _, _ => False
noncomputable def wpEs (cf : Cf) (ρ : List Slot) : List E -> (List D -> Store -> Prop) -> Store -> Prop
 | [], W, S => W [] S
 | e :: es, W, S => wpE cf ρ e (fun x S1 => keep x fun d => wpEs cf ρ es (fun ds S2 => W (d :: ds) S2) S1) S
noncomputable def wpO (cf : Cf) (ρ : List Slot) : Option E -> (Option Int -> Store -> Prop) -> Store -> Prop
 | none, W, S => W none S
 | some e, W, S => wpE cf ρ e (fun x S1 => isZ x.1 fun i => W (some i) S1) S
noncomputable def wpF (cf : Cf) (ρ : List Slot) : List E -> (Bool -> Store -> Prop) -> Store -> Prop
 | [], W, S => W true S
 | [e], W, S => wpE cf ρ e (fun x S1 => isB x.1 fun b => W b S1) S
 | _, _, _ => False
noncomputable def wpI (cf : Cf) (ρ : List Slot) : E -> (List D -> Store -> Prop) -> Store -> Prop
 | .rng none hi, W, S => wpE cf ρ hi (fun x S1 => isZ x.1 fun h => tst (fits h.toNat && decide (-1000000 <= h)) (W (rangeD 0 h) S1) False) S
 | .rng (some lo) hi, W, S => wpE cf ρ lo (fun y S1 => wpE cf ρ hi (fun x S2 => isZ y.1 fun l => isZ x.1 fun h => tst (fits (h - l).toNat && decide (-1000000 <= h) && decide (-1000000 <= l) && decide (h <= 1000000) && decide (l <= 1000000)) (W (rangeD l h) S2) False) S1) S
 | .enum e, W, S => wpE cf ρ e (fun x S1 => keep x fun d => opt (enumS d) fun l => W (enumD 0 l) S1) S
 | .seq e, W, S => wpE cf ρ e (fun x S1 => keep x fun d => opt (itrD d) fun l => W l S1) S
 | _, _, _ => False
end
noncomputable def wpX (cf : Cf) (ρ : List Slot) (e : E) (V : Po) (S : Store) : Prop := wpE cf ρ e V S
noncomputable def bindV (ρ : List Slot) (t : T) : Vl -> Option (List Slot)
 | (d, .st) => bindT ρ t (d, false)
 | (d, .fr) => bindT ρ t (d, true)
 | _ => none
noncomputable def retV : Vl -> (O -> Prop) -> Prop
 | (d, .st), K => K (.ret d false)
 | (d, .fr), K => K (.ret d true)
 | _, _ => False
noncomputable def owL : Option Slot -> (List D -> Prop) -> Prop
 | some (.ow (.lst l)), Q => Q l
 | _, _ => False
noncomputable def owD : Option Slot -> (D -> Prop) -> Prop
 | some (.ow d), Q => Q d
 | _, _ => False
noncomputable def isL : Option D -> (List D -> Prop) -> Prop
 | some (.lst l), Q => Q l
 | _, _ => False
noncomputable def isR : D -> (Nat -> Prop) -> Prop
 | .ref n, Q => Q n
 | _, _ => False
noncomputable def fz : Slot -> Slot
 | .ow d => .sh d
 | s => s
noncomputable abbrev Ko := O -> Store -> Prop
noncomputable def nxt (f : List Slot -> Store -> Prop) (K : Ko) : Ko
 | .next ρ, S => f ρ S
 | o, S => K o S
noncomputable def trn (K : Ko) (I : List Slot -> Store -> Prop) : Ko
 | .next ρ, S => I ρ S
 | .cnt ρ, S => I ρ S
 | .brk ρ, S => K (.next ρ) S
 | .ret d fr, S => K (.ret d fr) S
noncomputable def forW (t : T) (b : List Slot -> Ko -> Store -> Prop) : List D -> List Slot -> Ko -> Store -> Prop
 | [], ρ, K, S => K (.next ρ) S
 | d :: l, ρ, K, S => optS (bindT ρ t (d, false)) fun ρ1 => b ρ1 (trn K fun ρ' S' => forW t b l ρ' K S') S
noncomputable def whlW (c : List Slot -> Po -> Store -> Prop) (b : List Slot -> Ko -> Store -> Prop) : Nat -> List Slot -> Ko -> Store -> Prop
 | 0, _, _, _ => False
 | n + 1, ρ, K, S => c ρ (fun x S1 => isB x.1 fun r => tst r (b ρ (trn K fun ρ' S' => whlW c b n ρ' K S') S1) (K (.next ρ) S1)) S
mutual
noncomputable def wpC (cf : Cf) (w : Nat) : C -> List Slot -> Ko -> Store -> Prop
 | .set t (.box e), ρ, K, S => wpE cf ρ e (fun x S1 => boxd x fun d => optS (bindT ρ t (.ref S1.length, false)) fun ρ2 => K (.next ρ2) (S1 ++ [d])) S
 | .set t e, ρ, K, S => wpE cf ρ e (fun x S1 => optS (bindV ρ t x) fun ρ2 => K (.next ρ2) S1) S
 | .expr e, ρ, K, S => wpE cf ρ e (fun _ S1 => K (.next ρ) S1) S
 | .ret (.var i), ρ, K, S => sel ρ[i]? (fun d => K (.ret d false) S) (fun d => K (.ret d true) S)
 | .ret e, ρ, K, S => wpE cf ρ e (fun x S1 => retV x fun o => K o S1) S
 | .retN, ρ, K, S => K (.ret .non false) S
 | .ite e A B, ρ, K, S => wpE cf ρ e (fun x S1 => isB x.1 fun b => tst b (wpCs cf w A ρ K S1) (wpCs cf w B ρ K S1)) S
 | .whl e A, ρ, K, S => whlW (fun ρ => wpX cf ρ e) (fun ρ => wpCs cf w A ρ) w ρ K S
 | .forr t it A, ρ, K, S => wpI cf ρ it (fun l S1 => forW t (fun ρ => wpCs cf w A ρ) l ρ K S1) S
 | .app i e, ρ, K, S => owL ρ[i]? fun l => wpE cf ρ e (fun x S1 => keep x fun d => tst (fits (l.length + 1)) (K (.next (ρ.set i (.ow (.lst (l ++ [d]))))) S1) False) S
 | .ext i e, ρ, K, S => owL ρ[i]? fun l => wpE cf ρ e (fun x S1 => keep x fun d => opt (extD d) fun m => tst (fits (l.length + m.length)) (K (.next (ρ.set i (.ow (.lst (l ++ m))))) S1) False) S
 | .stv i k v, ρ, K, S => owD ρ[i]? fun c => wpE cf ρ v (fun x S1 => keep x fun d => wpE cf ρ k (fun y S2 => keep y fun e => opt (putD c e d) fun c' => K (.next (ρ.set i (.ow c'))) S2) S1) S
 | .sti o k v, ρ, K, S => wpE cf ρ v (fun x S1 => keep x fun d => wpE cf ρ o (fun z S2 => keep z fun r => wpE cf ρ k (fun y S3 => keep y fun e => isR r fun n => opt S3[n]? fun c => opt (putD c e d) fun c' => K (.next ρ) (S3.set n c')) S2) S1) S
 | .pop i, ρ, K, S => owL ρ[i]? fun l => tst (!l.isEmpty) (K (.next (ρ.set i (.ow (.lst l.dropLast)))) S) False
 | .appR o e, ρ, K, S => wpE cf ρ o (fun z S1 => keep z fun r => isR r fun n => tst (isLst S1[n]?) (wpE cf ρ e (fun x S2 => keep x fun d => isL S2[n]? fun l => tst (fits (l.length + 1)) (K (.next ρ) (S2.set n (.lst (l ++ [d])))) False) S1) False) S
 | .popO t i, ρ, K, S => owL ρ[i]? fun l => opt l.getLast? fun d => optS (bindT (ρ.set i (.ow (.lst l.dropLast))) t (d, false)) fun ρ2 => K (.next ρ2) S
 | .popR t o, ρ, K, S => wpE cf ρ o (fun z S1 => keep z fun r => isR r fun n => isL S1[n]? fun l => opt l.getLast? fun d => optS (bindT ρ t (d, false)) fun ρ2 => K (.next ρ2) (S1.set n (.lst l.dropLast))) S
 | .pass, ρ, K, S => K (.next ρ) S
 | .brk, ρ, K, S => K (.brk ρ) S
 | .cnt, ρ, K, S => K (.cnt ρ) S
 | .frz i, ρ, K, S => K (.next (ρ.set i (fz ((ρ[i]?).getD .no)))) S
noncomputable def wpCs (cf : Cf) (w : Nat) : List C -> List Slot -> Ko -> Store -> Prop
 | [], ρ, K, S => K (.next ρ) S
 | c :: cs, ρ, K, S => wpC cf w c ρ (nxt (fun ρ' S' => wpCs cf w cs ρ' K S') K) S
end
noncomputable def told (V : Po) : Ko
 | .ret d fr, S => V (d, kd fr) S
 | .next _, S => V (.non, .st) S
 | _, _ => False
noncomputable def callW (F : Nat -> Option Fn) (w : Nat) : Nat -> Cf
 | 0 => fun _ _ _ _ => False
 | k + 1 => fun f ds V S => opt (F f) fun fn => ds.length = fn.np /\ wpCs (callW F w k) w fn.body (entry fn ds) (told V) S
end EV
namespace EV
open PySem L2
section
theorem opt_mono {α : Type} {o : Option α} {P Q : α -> Prop} (h : ∀ a, P a -> Q a) : opt o P -> opt o Q := by
 cases o with
 | some a => exact h a
 | none => exact id
theorem tst_mono {b : Bool} {P P' Q Q' : Prop} (h : P -> P') (k : Q -> Q') : tst b P Q -> tst b P' Q' := by
 cases b with
 | true => exact h
 | false => exact k
theorem isB_mono {d : D} {P Q : Bool -> Prop} (h : ∀ a, P a -> Q a) : isB d P -> isB d Q := by
 cases d <;> first | exact h _ | exact id
theorem isF_mono {d : D} {P Q : Nat -> Prop} (h : ∀ a, P a -> Q a) : isF d P -> isF d Q := by
 cases d <;> first | exact h _ | exact id
theorem isZ_mono {d : D} {P Q : Int -> Prop} (h : ∀ a, P a -> Q a) : isZ d P -> isZ d Q := by
 cases d <;> first | exact h _ | exact id
theorem keep_mono {x : Vl} {P Q : D -> Prop} (h : ∀ a, P a -> Q a) : keep x P -> keep x Q := by
 obtain ⟨d, k⟩ := x
 cases k <;> first | exact h _ | exact id
theorem boxd_mono {x : Vl} {P Q : D -> Prop} (h : ∀ a, P a -> Q a) : boxd x P -> boxd x Q := by
 obtain ⟨d, k⟩ := x
 cases k <;> first | exact h _ | exact id
theorem sel_mono {s : Option Slot} {P P' Q Q' : D -> Prop} (h : ∀ a, P a -> P' a) (k : ∀ a, Q a -> Q' a) : sel s P Q -> sel s P' Q' := by
 cases s with
 | none => exact id
 | some s => cases s <;> first | exact h _ | exact k _ | exact id
theorem walk_mono {s : D -> (Option D -> Store -> Prop) -> Store -> Prop} (hs : ∀ d K K' S, (∀ o S, K o S -> K' o S) -> s d K S -> s d K' S) : ∀ {l acc : List D} {V V' : List D -> Store -> Prop} {S : Store}, (∀ a S, V a S -> V' a S) -> walkW s l acc V S -> walkW s l acc V' S
 | [], _, _, _, _, h => h _ _
 | d :: l, acc, V, V', S, h => hs d _ _ S fun o S1 => by
  cases o with
  | some x => exact tst_mono (walk_mono hs h) id
  | none => exact walk_mono hs h
noncomputable def Mono (cf : Cf) : Prop := ∀ f ds (V V' : Po) S, (∀ x S, V x S -> V' x S) -> cf f ds V S -> cf f ds V' S
variable {cf : Cf}
mutual
theorem wpE_mono (hc : Mono cf) : ∀ (e : E) {ρ : List Slot} {V V' : Po} {S : Store}, (∀ x S, V x S -> V' x S) -> wpE cf ρ e V S -> wpE cf ρ e V' S
 | .var i, _, _, _, _, h, k => sel_mono (fun _ => h _ _) (fun _ => h _ _) k
 | .con d, _, _, _, _, h, k => h _ _ k
 | .glo _ d, _, _, _, _, h, k => h _ _ k
 | .bin op a b, _, _, _, _, h, k => wpE_mono hc a (fun _ _ => wpE_mono hc b fun _ _ => opt_mono fun _ => h _ _) k
 | .neg a, _, _, _, _, h, k => wpE_mono hc a (fun _ _ => isZ_mono fun _ => h _ _) k
 | .cmp op a b, _, _, _, _, h, k => wpE_mono hc a (fun _ _ => wpE_mono hc b fun _ _ => opt_mono fun _ => h _ _) k
 | .chn o1 o2 a b c, _, _, _, _, h, k => wpE_mono hc a (fun _ _ => wpE_mono hc b fun _ _ => opt_mono fun _ => tst_mono (wpE_mono hc c fun _ _ => opt_mono fun _ => h _ _) (h _ _)) k
 | .not a, _, _, _, _, h, k => wpE_mono hc a (fun _ _ => isB_mono fun _ => h _ _) k
 | .and a b, _, _, _, _, h, k => wpE_mono hc a (fun _ _ => isB_mono fun _ => tst_mono (wpE_mono hc b h) (h _ _)) k
 | .or a b, _, _, _, _, h, k => wpE_mono hc a (fun _ _ => isB_mono fun _ => tst_mono (h _ _) (wpE_mono hc b h)) k
 | .ite c a b, _, _, _, _, h, k => wpE_mono hc c (fun _ _ => isB_mono fun _ => tst_mono (wpE_mono hc a h) (wpE_mono hc b h)) k
 | .tup es, _, _, _, _, h, k => wpEs_mono hc es (fun _ _ => tst_mono (h _ _) id) k
 | .lst es, _, _, _, _, h, k => wpEs_mono hc es (fun _ _ => tst_mono (h _ _) id) k
 | .dic _ _ es, _, _, _, _, h, k => wpEs_mono hc es (fun _ _ => tst_mono (h _ _) id) k
 | .sub a b, _, _, _, _, h, k => wpE_mono hc a (fun _ _ => wpE_mono hc b fun _ _ => opt_mono fun _ => h _ _) k
 | .slc a l u, _, _, _, _, h, k => wpE_mono hc a (fun _ _ => wpO_mono hc l fun _ _ => wpO_mono hc u fun _ _ => opt_mono fun _ => h _ _) k
 | .bi b [], _, _, _, _, h, k => wpEs_mono hc [] (fun _ _ => opt_mono fun _ => h _ _) k
 | .bi b [e], _, _, _, _, h, k => wpE_mono hc e (fun _ _ => opt_mono fun _ => h _ _) k
 | .bi b (e :: f :: es), _, _, _, _, h, k => wpEs_mono hc (e :: f :: es) (fun _ _ => opt_mono fun _ => h _ _) k
 | .mth m o es, _, _, _, _, h, k => wpE_mono hc o (fun _ _ => tst_mono (wpEs_mono hc es fun _ _ => opt_mono fun _ => h _ _) id) k
 | .call f es, _, _, _, _, h, k => wpEs_mono hc es (fun _ _ => hc _ _ _ _ _ h) k
 | .callk f p es, _, _, _, _, h, k => wpEs_mono hc es (fun _ _ => opt_mono fun _ => hc _ _ _ _ _ h) k
 | .comp t js it ifs elt, ρ, V, V', S, h, k => by
  refine wpI_mono hc it (fun its S1 q => ?_) k
  refine walk_mono ?_ ?_ q
  ·intro d K K' S q
   exact opt_mono fun ρ' => wpF_mono hc ifs fun b S1 => tst_mono (wpE_mono hc elt fun x S2 => keep_mono fun d => q _ _) (q _ _)
  ·exact fun ds S2 => h _ _
 | .box e, _, _, _, _, h, k => wpE_mono hc e (fun _ _ => boxd_mono fun _ => h _ _) k
 | .one e, _, _, _, _, h, k => wpE_mono hc e h k
 | .flip e, _, _, _, _, h, k => wpE_mono hc e (fun _ _ => opt_mono fun _ => h _ _) k
 | .callv i es, _, _, _, _, h, k => sel_mono (fun _ => isF_mono fun _ => wpEs_mono hc es fun _ _ => hc _ _ _ _ _ h) (fun _ => isF_mono fun _ => wpEs_mono hc es fun _ _ => hc _ _ _ _ _ h) k
 | .seq _, _, _, _, _, _, k => k
 | .rng _ _, _, _, _, _, _, k => k
 | .enum _, _, _, _, _, _, k => k
 | .zip _ _, _, _, _, _, _, k => k
 | .rev _, _, _, _, _, _, k => k
 | .items _, _, _, _, _, _, k => k
theorem wpEs_mono (hc : Mono cf) : ∀ (es : List E) {ρ : List Slot} {V V' : List D -> Store -> Prop} {S : Store}, (∀ x S, V x S -> V' x S) -> wpEs cf ρ es V S -> wpEs cf ρ es V' S
 | [], _, _, _, _, h, k => h _ _ k
 | e :: es, _, _, _, _, h, k => wpE_mono hc e (fun _ _ => keep_mono fun _ => wpEs_mono hc es fun _ _ => h _ _) k
theorem wpO_mono (hc : Mono cf) : ∀ (o : Option E) {ρ : List Slot} {V V' : Option Int -> Store -> Prop} {S : Store}, (∀ x S, V x S -> V' x S) -> wpO cf ρ o V S -> wpO cf ρ o V' S
 | none, _, _, _, _, h, k => h _ _ k
 | some e, _, _, _, _, h, k => wpE_mono hc e (fun _ _ => isZ_mono fun _ => h _ _) k
theorem wpF_mono (hc : Mono cf) : ∀ (es : List E) {ρ : List Slot} {V V' : Bool -> Store -> Prop} {S : Store}, (∀ x S, V x S -> V' x S) -> wpF cf ρ es V S -> wpF cf ρ es V' S
 | [], _, _, _, _, h, k => h _ _ k
 | [e], _, _, _, _, h, k => wpE_mono hc e (fun _ _ => isB_mono fun _ => h _ _) k
 | _ :: _ :: _, _, _, _, _, _, k => k
theorem wpI_mono (hc : Mono cf) : ∀ (e : E) {ρ : List Slot} {V V' : List D -> Store -> Prop} {S : Store}, (∀ x S, V x S -> V' x S) -> wpI cf ρ e V S -> wpI cf ρ e V' S
 | .rng none e, _, _, _, _, h, k => wpE_mono hc e (fun _ _ => isZ_mono fun _ => tst_mono (h _ _) id) k
 | .rng (some a) e, _, _, _, _, h, k => wpE_mono hc a (fun _ _ => wpE_mono hc e fun _ _ => isZ_mono fun _ => isZ_mono fun _ => tst_mono (h _ _) id) k
 | .enum e, _, _, _, _, h, k => wpE_mono hc e (fun _ _ => keep_mono fun _ => opt_mono fun _ => h _ _) k
 | .seq e, _, _, _, _, h, k => wpE_mono hc e (fun _ _ => keep_mono fun _ => opt_mono fun _ => h _ _) k
 | .var _, _, _, _, _, _, k => k
 | .con _, _, _, _, _, _, k => k
 | .glo _ _, _, _, _, _, _, k => k
 | .bin _ _ _, _, _, _, _, _, k => k
 | .neg _, _, _, _, _, _, k => k
 | .cmp _ _ _, _, _, _, _, _, k => k
 | .chn _ _ _ _ _, _, _, _, _, _, k => k
 | .not _, _, _, _, _, _, k => k
 | .and _ _, _, _, _, _, _, k => k
 | .or _ _, _, _, _, _, _, k => k
 | .ite _ _ _, _, _, _, _, _, k => k
 | .tup _, _, _, _, _, _, k => k
 | .lst _, _, _, _, _, _, k => k
 | .dic _ _ _, _, _, _, _, _, k => k
 | .sub _ _, _, _, _, _, _, k => k
 | .slc _ _ _, _, _, _, _, _, k => k
 | .bi _ _, _, _, _, _, _, k => k
 | .mth _ _ _, _, _, _, _, _, k => k
 | .call _ _, _, _, _, _, _, k => k
 | .callk _ _ _, _, _, _, _, _, k => k
 | .callv _ _, _, _, _, _, _, k => k
 | .comp _ _ _ _ _, _, _, _, _, _, k => k
 | .box _, _, _, _, _, _, k => k
 | .one _, _, _, _, _, _, k => k
 | .flip _, _, _, _, _, _, k => k
 | .zip _ _, _, _, _, _, _, k => k
 | .rev _, _, _, _, _, _, k => k
 | .items _, _, _, _, _, _, k => k
end
theorem owL_mono {s : Option Slot} {P Q : List D -> Prop} (h : ∀ a, P a -> Q a) : owL s P -> owL s Q := by
 cases s with
 | none => exact id
 | some s =>
  cases s with
  | ow d => cases d <;> first | exact h _ | exact id
  | _ => exact id
theorem owD_mono {s : Option Slot} {P Q : D -> Prop} (h : ∀ a, P a -> Q a) : owD s P -> owD s Q := by
 cases s with
 | none => exact id
 | some s => cases s <;> first | exact h _ | exact id
theorem isL_mono {s : Option D} {P Q : List D -> Prop} (h : ∀ a, P a -> Q a) : isL s P -> isL s Q := by
 cases s with
 | none => exact id
 | some s => cases s <;> first | exact h _ | exact id
theorem isR_mono {s : D} {P Q : Nat -> Prop} (h : ∀ a, P a -> Q a) : isR s P -> isR s Q := by
 cases s <;> first | exact h _ | exact id
theorem retV_mono {x : Vl} {P Q : O -> Prop} (h : ∀ a, P a -> Q a) : retV x P -> retV x Q := by
 obtain ⟨d, k⟩ := x
 cases k <;> first | exact h _ | exact id
noncomputable def Km (b : List Slot -> Ko -> Store -> Prop) : Prop := ∀ ρ (K K' : Ko) S, (∀ o S, K o S -> K' o S) -> b ρ K S -> b ρ K' S
theorem nxt_mono {f f' : List Slot -> Store -> Prop} {K K' : Ko} (h : ∀ ρ S, f ρ S -> f' ρ S) (k : ∀ o S, K o S -> K' o S) : ∀ o S, nxt f K o S -> nxt f' K' o S := by
 intro o S
 cases o <;> first | exact h _ _ | exact k _ _
theorem trn_mono {f f' : List Slot -> Store -> Prop} {K K' : Ko} (h : ∀ ρ S, f ρ S -> f' ρ S) (k : ∀ o S, K o S -> K' o S) : ∀ o S, trn K f o S -> trn K' f' o S := by
 intro o S
 cases o <;> first | exact h _ _ | exact k _ _
theorem forW_mono {t : T} {b : List Slot -> Ko -> Store -> Prop} (hb : Km b) {K K' : Ko} (k : ∀ o S, K o S -> K' o S) : ∀ {l : List D} {ρ : List Slot} {S : Store}, forW t b l ρ K S -> forW t b l ρ K' S
 | [], _, _, h => k _ _ h
 | d :: l, _, _, h => opt_mono (fun _ => hb _ _ _ _ (trn_mono (fun _ _ => forW_mono hb k) k)) h
theorem whlW_mono {c : List Slot -> Po -> Store -> Prop} {b : List Slot -> Ko -> Store -> Prop} (hc : ∀ ρ (V V' : Po) S, (∀ x S, V x S -> V' x S) -> c ρ V S -> c ρ V' S) (hb : Km b) {K K' : Ko} (k : ∀ o S, K o S -> K' o S) : ∀ {n : Nat} {ρ : List Slot} {S : Store}, whlW c b n ρ K S -> whlW c b n ρ K' S
 | 0, _, _, h => h
 | n + 1, _, _, h => hc _ _ _ _ (fun _ _ => isB_mono fun _ => tst_mono (hb _ _ _ _ (trn_mono (fun _ _ => whlW_mono hc hb k) k)) (k _ _)) h
variable {w : Nat}
theorem ret_mono (hc : Mono cf) (e : E) {ρ : List Slot} {K K' : Ko} {S : Store} (h : ∀ o S, K o S -> K' o S) (k : wpC cf w (.ret e) ρ K S) : wpC cf w (.ret e) ρ K' S := by
 cases e <;> first | exact sel_mono (fun _ => h _ _) (fun _ => h _ _) k | exact wpE_mono hc _ (fun _ _ => retV_mono fun _ => h _ _) k
theorem set_mono (hc : Mono cf) (t : T) (e : E) {ρ : List Slot} {K K' : Ko} {S : Store} (h : ∀ o S, K o S -> K' o S) (k : wpC cf w (.set t e) ρ K S) : wpC cf w (.set t e) ρ K' S := by
 cases e <;> first | exact wpE_mono hc _ (fun _ _ => opt_mono fun _ => h _ _) k | exact wpE_mono hc _ (fun _ _ => boxd_mono fun _ => opt_mono fun _ => h _ _) k
mutual
theorem wpC_mono (hc : Mono cf) : ∀ (c : C) {ρ : List Slot} {K K' : Ko} {S : Store}, (∀ o S, K o S -> K' o S) -> wpC cf w c ρ K S -> wpC cf w c ρ K' S
 | .set t e, _, _, _, _, h, k => set_mono hc t e h k
 | .expr e, _, _, _, _, h, k => wpE_mono hc e (fun _ _ => h _ _) k
 | .ret e, _, _, _, _, h, k => ret_mono hc e h k
 | .retN, _, _, _, _, h, k => h _ _ k
 | .ite e A B, _, _, _, _, h, k => wpE_mono hc e (fun _ _ => isB_mono fun _ => tst_mono (wpCs_mono hc A h) (wpCs_mono hc B h)) k
 | .whl e A, ρ, K, K', S, h, k => by
  have k : whlW (fun ρ => wpE cf ρ e) (fun ρ => wpCs cf w A ρ) w ρ K S := k
  refine whlW_mono ?_ ?_ h k
  ·exact fun ρ V V' S q => wpE_mono hc e q
  ·exact fun ρ V V' S q => wpCs_mono hc A q
 | .forr t it A, ρ, K, K', S, h, k => by
  refine wpI_mono hc it (fun l S1 q => ?_) k
  refine forW_mono ?_ h q
  exact fun ρ V V' S q => wpCs_mono hc A q
 | .app i e, _, _, _, _, h, k => owL_mono (fun _ => wpE_mono hc e fun _ _ => keep_mono fun _ => tst_mono (h _ _) id) k
 | .ext i e, _, _, _, _, h, k => owL_mono (fun _ => wpE_mono hc e fun _ _ => keep_mono fun _ => opt_mono fun _ => tst_mono (h _ _) id) k
 | .stv i a v, _, _, _, _, h, k => owD_mono (fun _ => wpE_mono hc v fun _ _ => keep_mono fun _ => wpE_mono hc a fun _ _ => keep_mono fun _ => opt_mono fun _ => h _ _) k
 | .sti o a v, _, _, _, _, h, k => wpE_mono hc v (fun _ _ => keep_mono fun _ => wpE_mono hc o fun _ _ => keep_mono fun _ => wpE_mono hc a fun _ _ => keep_mono fun _ => isR_mono fun _ => opt_mono fun _ => opt_mono fun _ => h _ _) k
 | .pop i, _, _, _, _, h, k => owL_mono (fun _ => tst_mono (h _ _) id) k
 | .appR o e, _, _, _, _, h, k => wpE_mono hc o (fun _ _ => keep_mono fun _ => isR_mono fun _ => tst_mono (wpE_mono hc e fun _ _ => keep_mono fun _ => isL_mono fun _ => tst_mono (h _ _) id) id) k
 | .popO t i, _, _, _, _, h, k => owL_mono (fun _ => opt_mono fun _ => opt_mono fun _ => h _ _) k
 | .popR t o, _, _, _, _, h, k => wpE_mono hc o (fun _ _ => keep_mono fun _ => isR_mono fun _ => isL_mono fun _ => opt_mono fun _ => opt_mono fun _ => h _ _) k
 | .pass, _, _, _, _, h, k => h _ _ k
 | .brk, _, _, _, _, h, k => h _ _ k
 | .cnt, _, _, _, _, h, k => h _ _ k
 | .frz i, _, _, _, _, h, k => h _ _ k
theorem wpCs_mono (hc : Mono cf) : ∀ (cs : List C) {ρ : List Slot} {K K' : Ko} {S : Store}, (∀ o S, K o S -> K' o S) -> wpCs cf w cs ρ K S -> wpCs cf w cs ρ K' S
 | [], _, _, _, _, h, k => h _ _ k
 | c :: cs, _, _, _, _, h, k => wpC_mono hc c (nxt_mono (fun _ _ => wpCs_mono hc cs h) h) k
end
theorem told_mono {V V' : Po} (h : ∀ x S, V x S -> V' x S) : ∀ o S, told V o S -> told V' o S := by
 intro o S
 cases o <;> first | exact h _ _ | exact id
theorem call_mono {F : Nat -> Option Fn} : ∀ k, Mono (callW F w k)
 | 0 => fun _ _ _ _ _ _ h => h
 | k + 1 => fun f ds V V' S h q => opt_mono (fun _ ⟨a, b⟩ => ⟨a, wpCs_mono (call_mono k) _ (told_mono h) b⟩) q
theorem wpEs_len (hc : Mono cf) : ∀ (es : List E) {ρ : List Slot} {W : List D -> Store -> Prop} {S : Store}, wpEs cf ρ es W S -> wpEs cf ρ es (fun ds S => W ds S /\ ds.length = es.length) S
 | [], _, _, _, h => ⟨h, rfl⟩
 | e :: es, _, _, _, h => wpE_mono hc e (fun _ _ => keep_mono fun _ q => wpEs_mono hc es (fun _ _ q => ⟨q.1, by rw [List.length_cons, q.2]; rfl⟩) (wpEs_len hc es q)) h
end
end EV
namespace EV
open PySem PySem.Spec PyProof.Rows L2
noncomputable def Rdb (Γ : Gm) (H : Hp) (g : G) : D -> V -> Prop
 | .tup ds, v => ∃ a vs, v = .ref a /\ g.R a = some (.tup vs) /\ Hass Γ g ds vs
 | .lst ds, v => ∃ a vs, v = .ref a /\ H a = some (.lst vs) /\ Hass Γ g ds vs
 | .dK ks ds, v => ∃ a vs, v = .ref a /\ H a = some (.dK (ks.zip vs)) /\ ks.length = ds.length /\ Hass Γ g ds vs
 | .dT ks ds, v => ∃ a vs, v = .ref a /\ H a = some (.dT (ks.zip vs)) /\ ks.length = ds.length /\ Hass Γ g ds vs
 | .non, v => v = .non
 | .bl b, v => v = .bl b
 | .int i, v => v = .int i
 | .str x, v => v = .str x
 | .ref _, _ => False
 | .fn f, v => ∃ a, Γ.fa f = some a /\ v = .ref a
 | .scr ns, v => ∃ a, v = .ref a /\ SqL Γ.K H a (ns.map V.int)
 | .ktp ds, v => ∃ a vs, v = .ref a /\ KTup Γ.K a vs /\ Hass Γ g ds vs
section
variable {Γ : Gm} {H H' : Hp} {g g' : G} {S : Store} {d : D} {v : V} {a : Addr}
theorem rdb_of (w : WOk Γ H g S) (h : Has Γ g d v) : Rdb Γ H g (deref S d) v := by
 cases d with
 | non => exact h
 | bl => exact h
 | int => exact h
 | str => exact h
 | fn f => exact h
 | tup ds => exact h
 | lst ds => obtain ⟨a, vs, h1, h2, h3⟩ := h; exact ⟨a, vs, h1, w.rh _ _ h2, h3⟩
 | scr ns => obtain ⟨a, h1, h2⟩ := h; exact ⟨a, h1, w.rh.seq h2⟩
 | dK ks ds => obtain ⟨a, vs, h1, h2, h4, h3⟩ := h; exact ⟨a, vs, h1, w.rh _ _ h2, h4, h3⟩
 | dT ks ds => obtain ⟨a, vs, h1, h2, h4, h3⟩ := h; exact ⟨a, vs, h1, w.rh _ _ h2, h4, h3⟩
 | ktp => exact h
 | ref k =>
  obtain ⟨a, h1, rfl⟩ := h
  have hk : k < S.length := by rw [<- w.len]; exact (List.getElem?_eq_some_iff.mp h1).1
  have e : S[k]? = some S[k] := List.getElem?_eq_getElem hk
  have c := w.cell k _ a e h1
  show Rdb Γ H g ((S[k]?).getD .non) (.ref a)
  rw [e]
  show Rdb Γ H g S[k] (.ref a)
  generalize S[k] = x at c
  cases x with
  | lst ds => obtain ⟨vs, h1, h2⟩ := c; exact ⟨a, vs, rfl, h1, h2⟩
  | dK ks ds => obtain ⟨vs, h1, h3, h2⟩ := c; exact ⟨a, vs, rfl, h1, h3, h2⟩
  | dT ks ds => obtain ⟨vs, h1, h3, h2⟩ := c; exact ⟨a, vs, rfl, h1, h3, h2⟩
  | non => exact c.elim
  | bl => exact c.elim
  | int => exact c.elim
  | str => exact c.elim
  | tup => exact c.elim
  | ref => exact c.elim
  | fn => exact c.elim
  | scr => exact c.elim
  | ktp => exact c.elim
noncomputable def Fin (Γ : Gm) (H : Hp) (g : G) (S : Store) (d : D) (fr : Bool) (Q : VK) : Prop :=
 ∀ v H' g', Step H g H' g' -> Same H H' -> WOk Γ H' g' S -> VOk Γ H d fr v H' g' -> Q v H'
variable {Q : VK}
theorem fin_val (w : WOk Γ H g S) (q : Fin Γ H g S d false Q) (h : Has Γ g d v) : Q v H := q v H g (Step.refl H g) (Same.refl H) w h
theorem WOk.laid {o : HO} (w : WOk Γ H g S) (h : H a = none) : WOk Γ (upd H a o) g S where
 rh := fun b u q => by
  have e := w.rh b u q
  rw [upd_ne (ne_of_none e h)]; exact e
 len := w.len
 nd := w.nd
 off := w.off
 cell := fun k c b h1 h2 => (w.cell k c b h1 h2).mono (Le.refl g) fun o e => by rw [upd_ne (ne_of_none e h)]; exact e
theorem WOk.notR (w : WOk Γ H g S) (h : H a = none) : g.R a = none := by
 cases q : g.R a with
 | none => rfl
 | some o => rw [w.rh a o q] at h; cases h
theorem WOk.notA (w : WOk Γ H g S) (h : H a = none) : a ∉ g.α := fun m => by
 obtain ⟨k, hk, e⟩ := List.getElem_of_mem m
 have hk' : k < S.length := by rw [<- w.len]; exact hk
 obtain ⟨o, ho, _⟩ := (w.cell k _ a (List.getElem?_eq_getElem hk') (by rw [List.getElem?_eq_getElem hk, e])).isMut
 rw [ho] at h; cases h
theorem same_upd {o : HO} (h : H a = none) : Same H (upd H a o) := fun b u q => by rw [upd_ne (ne_of_none q h)]; exact q
theorem fin_tup {ds : List D} {vs : List V} (w : WOk Γ H g S) (q : Fin Γ H g S (.tup ds) false Q) (h : Hass Γ g ds vs) (ha : H a = none) : Q (.ref a) (upd H a (.tup vs)) := by
 have hr := w.notR ha
 refine q _ _ (g.put a (.tup vs)) ?_ (same_upd ha) ((w.laid ha).put upd_same hr (w.notA ha)) ⟨a, vs, rfl, upd_same, h.mono (Le.put hr)⟩
 exact (Step.of_same (same_upd ha) (Le.refl g) (fun _ h => .inl h) fun _ h => .inl h).put hr ha
theorem fin_lst {ds : List D} {vs : List V} (w : WOk Γ H g S) (q : Fin Γ H g S (.lst ds) true Q) (h : Hass Γ g ds vs) (ha : H a = none) : Q (.ref a) (upd H a (.lst vs)) :=
 q _ _ g (Step.of_same (same_upd ha) (Le.refl g) (fun _ h => .inl h) fun _ h => .inl h) (same_upd ha) (w.laid ha) ⟨a, rfl, ha, w.notR ha, w.notA ha, vs, upd_same, h⟩
end
theorem lim_lt {n : Nat} (h : fits n = true) : n < sizeLine := Nat.lt_of_le_of_lt (of_decide_eq_true h) (by decide)
theorem lim_le {n : Nat} (h : fits n = true) : n <= sizeLine := Nat.le_of_lt (lim_lt h)
noncomputable def RDo (Γ : Gm) (r : R2) (a b : D) (d : D) (fr : Bool) : Prop :=
 ∀ (S : Store) (H : Hp) (g : G) (x y : V) (Q : VK), WOk Γ H g S -> Rdb Γ H g a x -> Rdb Γ H g b y -> Fin Γ H g S d fr Q -> r x y H Q
section
variable {X : Cx} {Γ : Gm}
noncomputable def rCatS : R2 := fun x y H Q => ∃ l b xs zs, x = .ref l /\ y = .ref b /\ H l = some (.lst xs) /\ H b = some (.lst zs) /\ xs.length + zs.length <= sizeLine /\ ∀ p, H p = none -> Q (.ref p) (upd H p (.lst (xs ++ zs)))
theorem op_catS : OpR X (binaryOp .Add) rCatS := by
 intro pins s σ H x y v u Q I rx ry h
 obtain ⟨l, b, xs, zs, rfl, rfl, hH, hB, hz, q⟩ := h
 cases rx
 cases ry
 obtain ⟨z, its, n, r, e⟩ := I.hok _ _ hH
 obtain ⟨z2, its2, n2, r2, e2⟩ := I.hok _ _ hB
 have hl := r.length
 have hl2 := r2.length
 refine PySem.P.add_list e e2 ?_ (by rw [List.size_toArray, List.size_toArray]; omega)
 have ea : its.toArray ++ its2.toArray = (its ++ its2).toArray := by simp
 rw [ea]
 exact ⟨.ref _, _, I.lnew (t' := s.toks) (r.append r2) (by rw [List.length_append]; omega), rfl, q _ I.fresh⟩
theorem hass_rep {g : G} {ds : List D} {vs : List V} (h : Hass Γ g ds vs) : ∀ n : Nat, Hass Γ g (List.replicate n ds).flatten (List.replicate n vs).flatten
 | 0 => rfl
 | n + 1 => by
  rw [List.replicate_succ, List.replicate_succ, List.flatten_cons, List.flatten_cons]
  exact h.app (hass_rep h n)
theorem vals_rep {xs : List V} {us : List Value} (h : Vals xs us) : ∀ n : Nat, Vals (List.replicate n xs).flatten (List.replicate n us).flatten
 | 0 => .nil
 | n + 1 => by
  rw [List.replicate_succ, List.replicate_succ, List.flatten_cons, List.flatten_cons]
  exact h.append (vals_rep h n)
theorem rep_arr (us : List Value) : ∀ (n : Nat) (acc : List Value), List.foldl (fun x1 x2 => x1 ++ x2) acc.toArray (List.replicate n us.toArray) = (acc ++ (List.replicate n us).flatten).toArray
 | 0, acc => by simp
 | n + 1, acc => by
  rw [List.replicate_succ, List.foldl_cons, List.append_toArray, rep_arr us n, List.replicate_succ, List.flatten_cons, List.append_assoc]
noncomputable def rRepS : R2 := fun x y H Q => ∃ l xs n, x = .ref l /\ y = .int n /\ H l = some (.lst xs) /\ 0 <= n /\ n < 2 ^ 20 /\ xs.length * n.toNat <= sizeLine /\ ∀ p, H p = none -> Q (.ref p) (upd H p (.lst (List.replicate n.toNat xs).flatten))
theorem op_repS : OpR X (binaryOp .Mult) rRepS := by
 intro pins s σ H x y v u Q I rx ry h
 obtain ⟨l, xs, k, rfl, rfl, hH, k0, k1, hz, q⟩ := h
 cases rx
 obtain ⟨t, rfl⟩ := ry
 obtain ⟨z, its, n, r, e⟩ := I.hok _ _ hH
 have hl := r.length
 have hi : s.heap.get? l = some { cls := .type "list", dict := none, data := .seq its.toArray n, slots := #[] } := e
 have hz' : its.toArray.size * k.toNat <= 2 ^ 24 := by
  rw [List.size_toArray, <- hl]
  rw [sizeLine_eq] at hz
  omega
 refine wpAny_binaryOp_repeat_ref (T := "list") (U := "int") (by decide) ⟨_, hi, rfl⟩ (fun s' => typeIs_int s' k t) noFill_list_mul F.fills_int_mul F.slot_int_rmul repeat_list F.slot_int_index.lookup
  (call_meets F.slot_int_rmul (typeIs_int s k t) F.entry_int_rmul (F.args_int_rmul_2 _ _) (int___rmul___int_list k t l its.toArray n)
   ⟨hi, rfl, ⟨_, hi, rfl⟩, call_meets F.slot_list_mul ⟨_, hi, rfl⟩ F.entry_list_mul (F.args_list_mul_2 _ _)
    (AutoListH.list___mul___list_int_3 l its.toArray n k t (by simp [Builtin.List.listFitsIndex]; omega) (by omega) (by simp [Builtin.List.listTooLong, sizeLine]; rw [List.size_toArray] at hz'; omega))
    ⟨hi, ?_⟩⟩)
 have ea : List.foldl (fun x1 x2 => x1 ++ x2) #[] (List.replicate (if its.toArray.isEmpty = true then 0 else k.toNat) its.toArray) = ((List.replicate k.toNat its).flatten).toArray := by
  cases its with
  | nil =>
   have : (List.replicate k.toNat ([] : List Value)).flatten = [] := by induction k.toNat with
    | zero => rfl
    | succ n ih => rw [List.replicate_succ, List.flatten_cons, ih]; rfl
   rw [this]; rfl
  | cons a l =>
   have : ((a :: l).toArray.isEmpty = true) = False := by simp
   rw [if_neg (by rw [this]; exact id)]
   have := rep_arr (a :: l) k.toNat []
   simpa using this
 rw [ea]
 exact ⟨.ref _, _, I.lnew (t' := s.toks) (vals_rep r _) (by
  have : (List.replicate k.toNat xs).flatten.length = xs.length * k.toNat := by
   rw [List.length_flatten, List.map_replicate, List.sum_replicate_nat, Nat.mul_comm]
  rw [this]; exact hz), rfl, q _ I.fresh⟩
theorem num2_is {f : Int -> Int -> Option Int} {a b : D} {p : D × Bool} (h : num2 f a b = some p) : ∃ i j k, a = .int i /\ b = .int j /\ f i j = some k /\ p = (.int k, false) := by
 cases a with
 | int i =>
  cases b with
  | int j =>
   obtain ⟨k, e, rfl⟩ := Option.map_eq_some_iff.mp (show (f i j).map (fun k => (D.int k, false)) = some p from h)
   exact ⟨i, j, k, rfl, rfl, e, rfl⟩
  | _ => cases h
 | _ => cases h
theorem add_rdo {a b : D} {d : D} {fr : Bool} (hK : X.K = Γ.K) (h : addD a b = some (d, fr)) : ∃ r, OpR X (binaryOp .Add) r /\ RDo Γ r a b d fr := by
 cases a with
 | int i =>
  cases b with
  | int j =>
   cases h
   exact ⟨_, op_add, fun S H g x y Q w hx hy q => ⟨_, _, hx, hy, fin_val w q rfl⟩⟩
  | _ => cases h
 | str s =>
  cases b with
  | str u =>
   have h : (if fits (s.length + u.length) = true then some (D.str (s ++ u), false) else none) = some (d, fr) := h
   split at h
   ·rename_i hf
    cases h
    exact ⟨_, op_add_str, fun S H g x y Q w hx hy q => ⟨_, _, hx, hy, lim_le hf, fin_val w q rfl⟩⟩
   ·cases h
  | _ => cases h
 | tup s =>
  cases b with
  | tup u =>
   have h : (if fits (s.length + u.length) = true then some (D.tup (s ++ u), false) else none) = some (d, fr) := h
   split at h
   ·rename_i hf
    cases h
    refine ⟨_, op_catT.or op_catT0, fun S H g x y Q w ⟨a, xs, e1, e2, e3⟩ ⟨b, ys, f1, f2, f3⟩ q => ?_⟩
    rw [hK]
    have h1 := e3.len
    have h2 := f3.len
    have hz := lim_le hf
    by_cases hx : xs = []
    ·subst hx
     refine .inr ⟨a, b, ys, e1, f1, SqT.of (w.rh _ _ e2), SqT.of (w.rh _ _ f2), ?_⟩
     have e0 := List.length_eq_zero_iff.mp h1.symm
     subst e0
     exact fin_val w q ⟨b, ys, rfl, f2, f3⟩
    ·refine .inl ⟨a, b, xs, ys, e1, f1, SqT.of (w.rh _ _ e2), SqT.of (w.rh _ _ f2), hx, by omega, fun z => ?_, fun _ p hp => fin_tup w q (e3.app f3) hp⟩
     subst z
     have e0 := List.length_eq_zero_iff.mp h2.symm
     subst e0
     refine fin_val w q ⟨a, xs, rfl, e2, ?_⟩
     rw [List.append_nil]
     exact e3
   ·cases h
  | _ => cases h
 | lst s =>
  cases b with
  | lst u =>
   have h : (if fits (s.length + u.length) = true then some (D.lst (s ++ u), true) else none) = some (d, fr) := h
   split at h
   ·rename_i hf
    cases h
    refine ⟨_, op_catS, fun S H g x y Q w ⟨a, xs, e1, e2, e3⟩ ⟨b, ys, f1, f2, f3⟩ q => ?_⟩
    have h1 := e3.len
    have h2 := f3.len
    have hz := lim_le hf
    exact ⟨a, b, xs, ys, e1, f1, e2, f2, by omega, fun p hp => fin_lst w q (e3.app f3) hp⟩
   ·cases h
  | _ => cases h
 | _ => cases h
theorem mul_rdo {a b : D} {d : D} {fr : Bool} (h : mulD a b = some (d, fr)) : ∃ r, OpR X (binaryOp .Mult) r /\ RDo Γ r a b d fr := by
 cases a with
 | int i =>
  cases b with
  | int j =>
   have h : (if (small64 i || small64 j) = true then some (D.int (i * j), false) else none) = some (d, fr) := h
   split at h
   ·rename_i hf
    cases h
    refine ⟨_, op_mul, fun S H g x y Q w hx hy q => ⟨_, _, hx, hy, ?_, fin_val w q rfl⟩⟩
    simp only [small64, Bool.or_eq_true, Bool.and_eq_true, decide_eq_true_eq] at hf
    exact hf
   ·cases h
  | _ => cases h
 | lst l =>
  cases b with
  | int n =>
   have h : (if (decide (0 <= n) && decide (n < 2 ^ 20) && fits (l.length * n.toNat)) = true then some (D.lst (List.replicate n.toNat l).flatten, true) else none) = some (d, fr) := h
   split at h
   ·rename_i hf
    cases h
    simp only [Bool.and_eq_true, decide_eq_true_eq] at hf
    refine ⟨_, op_repS, fun S H g x y Q w ⟨a, xs, e1, e2, e3⟩ hy q => ?_⟩
    have h1 := e3.len
    have hz := lim_le hf.2
    exact ⟨a, xs, _, e1, hy, e2, hf.1.1, hf.1.2, by rw [h1]; exact hz, fun p hp => fin_lst w q (hass_rep e3 _) hp⟩
   ·cases h
  | _ => cases h
 | _ => cases h
theorem op_rdo {op : Operator} {a b : D} {d : D} {fr : Bool} (hK : X.K = Γ.K) (h : opD op a b = some (d, fr)) : ∃ r, OpR X (binaryOp op) r /\ RDo Γ r a b d fr := by
 cases op with
 | Add => exact add_rdo hK h
 | Mult => exact mul_rdo h
 | Sub =>
  obtain ⟨i, j, k, rfl, rfl, e, e2⟩ := num2_is h
  cases e
  cases e2
  exact ⟨_, op_sub, fun S H g x y Q w hx hy q => ⟨_, _, hx, hy, fin_val w q rfl⟩⟩
 | FloorDiv =>
  obtain ⟨i, j, k, rfl, rfl, e, e2⟩ := num2_is h
  cases e2
  split at e
  ·rename_i hf
   cases e
   refine ⟨_, op_fdivW, fun S H g x y Q w hx hy q => ⟨_, _, hx, hy, ?_, fin_val w q rfl⟩⟩
   simp only [Bool.and_eq_true, decide_eq_true_eq] at hf
   exact hf
  ·cases e
 | Mod =>
  obtain ⟨i, j, k, rfl, rfl, e, e2⟩ := num2_is h
  cases e2
  split at e
  ·rename_i hf
   cases e
   exact ⟨_, op_mod, fun S H g x y Q w hx hy q => ⟨_, _, hx, hy, of_decide_eq_true hf, fin_val w q rfl⟩⟩
  ·cases e
 | Pow =>
  obtain ⟨i, j, k, rfl, rfl, e, e2⟩ := num2_is h
  cases e2
  split at e
  ·rename_i hf
   cases e
   refine ⟨_, op_pow, fun S H g x y Q w hx hy q => ⟨_, _, hx, hy, ?_, fin_val w q rfl⟩⟩
   simp only [small64, Bool.and_eq_true, decide_eq_true_eq] at hf
   exact ⟨hf.1.1, hf.1.2, by omega⟩
  ·cases e
 | _ => cases h
end
end EV
namespace EV
open PySem PySem.Spec PyProof.Rows L2 SeqAt
section
variable {X : Cx} {pins : List (Addr × Obj)} {σ : L2.St} {H : Hp} {s : Shared} {Γ : Gm} {g : G}
theorem sqt_inj (sr : Same g.R H) {a : Addr} {xs ys : List V} (h : g.R a = some (.tup xs)) (h' : g.R a = some (.tup ys)) : xs = ys := by
 rw [h] at h'; cases h'; rfl
theorem rdl_inj (sr : Same g.R H) {a : Addr} {xs ys : List V} (h : g.R a = some (.lst xs)) (h' : g.R a = some (.lst ys)) : xs = ys := by
 rw [h] at h'; cases h'; rfl
theorem tl_ne (sr : Same g.R H) {a b : Addr} {xs ys : List V} (h : g.R a = some (.lst xs)) (h' : g.R b = some (.tup ys)) : a ≠ b := by
 rintro rfl
 rw [h] at h'; cases h'
mutual
theorem eqP_same (I : Inv X pins σ H s) (hK : X.K = Γ.K) (sr : Same g.R H) : ∀ (n : Nat) (a b : D) (x : V), okP n a = true -> okP n b = true -> Has Γ g a x -> Has Γ g b x -> eqP a b = true
 | n, .non, b, x, _, kb, ha, hb => by
  cases (show x = .non from ha)
  cases b with
  | non => rfl
  | bl => cases (show V.non = _ from hb)
  | int => cases (show V.non = _ from hb)
  | str => cases (show V.non = _ from hb)
  | tup => obtain ⟨_, _, h, _⟩ := hb; cases h
  | lst => obtain ⟨_, _, h, _⟩ := hb; cases h
  | _ => cases n <;> exact nobE kb
 | n, .bl c, b, x, _, kb, ha, hb => by
  cases (show x = .bl c from ha)
  cases b with
  | non => cases (show V.bl c = _ from hb)
  | bl => cases (show V.bl c = _ from hb); exact beq_self_eq_true c
  | int => cases (show V.bl c = _ from hb)
  | str => cases (show V.bl c = _ from hb)
  | tup => obtain ⟨_, _, h, _⟩ := hb; cases h
  | lst => obtain ⟨_, _, h, _⟩ := hb; cases h
  | _ => cases n <;> exact nobE kb
 | n, .int c, b, x, _, kb, ha, hb => by
  cases (show x = .int c from ha)
  cases b with
  | non => cases (show V.int c = _ from hb)
  | bl => cases (show V.int c = _ from hb)
  | int => cases (show V.int c = _ from hb); exact beq_self_eq_true c
  | str => cases (show V.int c = _ from hb)
  | tup => obtain ⟨_, _, h, _⟩ := hb; cases h
  | lst => obtain ⟨_, _, h, _⟩ := hb; cases h
  | _ => cases n <;> exact nobE kb
 | n, .str c, b, x, _, kb, ha, hb => by
  cases (show x = .str c from ha)
  cases b with
  | non => cases (show V.str c = _ from hb)
  | bl => cases (show V.str c = _ from hb)
  | int => cases (show V.str c = _ from hb)
  | str => cases (show V.str c = _ from hb); exact beq_self_eq_true c
  | tup => obtain ⟨_, _, h, _⟩ := hb; cases h
  | lst => obtain ⟨_, _, h, _⟩ := hb; cases h
  | _ => cases n <;> exact nobE kb
 | 0, .tup as, b, x, ka, _, _, _ => nobE ka
 | n + 1, .tup as, b, x, ka, kb, ⟨a, xs, h1, h2, h3⟩, hb => by
  subst h1
  cases b with
  | non => cases (show V.ref a = _ from hb)
  | bl => cases (show V.ref a = _ from hb)
  | int => cases (show V.ref a = _ from hb)
  | str => cases (show V.ref a = _ from hb)
  | tup bs =>
   obtain ⟨a', ys, f1, f2, f3⟩ := hb
   cases f1
   have e := sqt_inj sr h2 f2
   subst e
   exact eqPs_same I hK sr n as bs xs ka kb h3 f3
  | lst bs =>
   obtain ⟨a', ys, f1, f2, f3⟩ := hb
   cases f1
   exact absurd rfl (tl_ne sr f2 h2)
  | _ => exact nobE kb
 | 0, .lst as, b, x, ka, _, _, _ => nobE ka
 | n + 1, .lst as, b, x, ka, kb, ⟨a, xs, h1, h2, h3⟩, hb => by
  subst h1
  cases b with
  | non => cases (show V.ref a = _ from hb)
  | bl => cases (show V.ref a = _ from hb)
  | int => cases (show V.ref a = _ from hb)
  | str => cases (show V.ref a = _ from hb)
  | tup bs =>
   obtain ⟨a', ys, f1, f2, f3⟩ := hb
   cases f1
   exact absurd rfl (tl_ne sr h2 f2)
  | lst bs =>
   obtain ⟨a', ys, f1, f2, f3⟩ := hb
   cases f1
   have e := rdl_inj sr h2 f2
   subst e
   exact eqPs_same I hK sr n as bs xs ka kb h3 f3
  | _ => exact nobE kb
 | n, .dK _ _, b, x, ka, _, _, _ => by revert ka; cases n <;> exact nobE
 | n, .dT _ _, b, x, ka, _, _, _ => by revert ka; cases n <;> exact nobE
 | n, .ref _, b, x, ka, _, _, _ => by revert ka; cases n <;> exact nobE
 | n, .fn _, b, x, ka, _, _, _ => by revert ka; cases n <;> exact nobE
 | n, .scr _, b, x, ka, _, _, _ => by revert ka; cases n <;> exact nobE
 | n, .ktp _, b, x, ka, _, _, _ => by revert ka; cases n <;> exact nobE
theorem eqPs_same (I : Inv X pins σ H s) (hK : X.K = Γ.K) (sr : Same g.R H) : ∀ (n : Nat) (as bs : List D) (xs : List V), okPs n as = true -> okPs n bs = true -> Hass Γ g as xs -> Hass Γ g bs xs -> eqPs as bs = true
 | n, [], bs, xs, _, _, ha, hb => by
  cases (show xs = [] from ha)
  cases bs with
  | nil => rfl
  | cons => obtain ⟨_, _, h, _⟩ := hb; cases h
 | n, a :: as, bs, xs, ka, kb, ⟨v, r, h1, h2, h3⟩, hb => by
  subst h1
  cases bs with
  | nil => cases (show _ = [] from hb)
  | cons b bs =>
   obtain ⟨v', r', f1, f2, f3⟩ := hb
   cases f1
   have ka' : (okP n a && okPs n as) = true := ka
   have kb' : (okP n b && okPs n bs) = true := kb
   rw [Bool.and_eq_true] at ka' kb'
   show (eqP a b && eqPs as bs) = true
   rw [eqP_same I hK sr n a b v ka'.1 kb'.1 h2 f2, eqPs_same I hK sr n as bs r ka'.2 kb'.2 h3 f3]
   rfl
end
theorem eqPs_get : ∀ (as bs : List D), as.length = bs.length -> eqPs as bs = (List.range as.length).all fun i => eqP (as.getD i .non) (bs.getD i .non)
 | [], [], _ => rfl
 | a :: as, b :: bs, h => by
  have ih := eqPs_get as bs (by simpa using h)
  show (eqP a b && eqPs as bs) = _
  rw [ih, List.length_cons, List.range_succ_eq_map, List.all_cons, List.all_map]
  rfl
 | [], _ :: _, h => by simp at h
 | _ :: _, [], h => by simp at h
theorem eqPs_len : ∀ (as bs : List D), as.length ≠ bs.length -> eqPs as bs = false
 | [], [], h => absurd rfl h
 | a :: as, b :: bs, h => by
  show (eqP a b && eqPs as bs) = _
  rw [eqPs_len as bs (by simpa using h), Bool.and_false]
 | [], _ :: _, h => rfl
 | _ :: _, [], h => rfl
theorem items_at {as bs : List D} {xs ys : List V} {us ws : List Value} {n : Nat} {A : Around} (ka : okPs n as = true) (kb : okPs n bs = true) (ha : Hass Γ g as xs) (hb : Hass Γ g bs ys) (ra : Vals xs us) (rb : Vals ys ws)
  (ih : ∀ (a b : D) (x y : V) (u v : Value), a ∈ as -> okP n a = true -> okP n b = true -> Has Γ g a x -> Has Γ g b y -> RelV x u -> RelV y v -> EqAt A s u v (eqP a b)) :
  ∀ (j : Nat) (h1 : j < us.toArray.size) (h2 : j < ws.toArray.size), EqAt A s us.toArray[j] ws.toArray[j] (eqP (as.getD j .non) (bs.getD j .non)) := by
 intro j h1 h2
 have l1 := ra.length
 have l2 := rb.length
 have l3 := ha.len
 have l4 := hb.len
 simp only [List.size_toArray] at h1 h2
 have k1 : j < as.length := by omega
 have k2 : j < bs.length := by omega
 obtain ⟨x, ex, hx⟩ := ha.get (List.getElem?_eq_getElem k1)
 obtain ⟨y, ey, hy⟩ := hb.get (List.getElem?_eq_getElem k2)
 obtain ⟨u, eu, ru⟩ := ra.get ex
 obtain ⟨v, ev, rv⟩ := rb.get ey
 have e1 : us.toArray[j]'(by simpa using h1) = u := by simpa [List.getElem?_eq_getElem h1] using eu
 have e2 : ws.toArray[j]'(by simpa using h2) = v := by simpa [List.getElem?_eq_getElem h2] using ev
 have g1 : as.getD j .non = as[j] := by simp [List.getD_eq_getElem?_getD, k1]
 have g2 : bs.getD j .non = bs[j] := by simp [List.getD_eq_getElem?_getD, k2]
 rw [e1, e2, g1, g2]
 have all : ∀ (l : List D), okPs n l = true -> ∀ d ∈ l, okP n d = true := by
  intro l
  induction l with
  | nil => intro _ d hd; cases hd
  | cons c l il =>
   intro k d hd
   have k' : (okP n c && okPs n l) = true := k
   rw [Bool.and_eq_true] at k'
   rcases List.mem_cons.mp hd with rfl | hd
   ·exact k'.1
   ·exact il k'.2 d hd
 exact ih _ _ x y u v (List.getElem_mem k1) (all as ka _ (List.getElem_mem k1)) (all bs kb _ (List.getElem_mem k2)) hx hy ru rv
theorem isT {a : Addr} {its : Array Value} {h : Heap} (p : IsTup h a its) : h.IsTuple a its := p
theorem units_in1 (A : Around) : A.in1.units = A.units + 1 := rfl
noncomputable def scD : D -> Option V
 | .non => some .non
 | .bl b => some (.bl b)
 | .int i => some (.int i)
 | .str x => some (.str x)
 | _ => none
theorem scD_has {d : D} {w x : V} (h : scD d = some w) (hh : Has Γ g d x) : x = w := by
 cases d <;> first | cases h | skip
 all_goals exact hh
theorem scD_flat {d : D} {w : V} (h : scD d = some w) : flatV w = true := by
 cases d <;> first | cases h | skip
 all_goals rfl
theorem scD_eq {a b : D} {x y : V} (h : scD a = some x) (h' : scD b = some y) : eqV x y = eqP a b := by
 cases a <;> first | cases h | skip
 all_goals (cases b <;> first | cases h' | skip)
 all_goals rfl
theorem okP_cases {n : Nat} {d : D} (h : okP n d = true) : (∃ w, scD d = some w) \/ (∃ m ds, n = m + 1 /\ d = .tup ds /\ okPs m ds = true) \/ (∃ m ds, n = m + 1 /\ d = .lst ds /\ okPs m ds = true) := by
 cases d with
 | non => exact .inl ⟨_, rfl⟩
 | bl => exact .inl ⟨_, rfl⟩
 | int => exact .inl ⟨_, rfl⟩
 | str => exact .inl ⟨_, rfl⟩
 | tup ds => cases n with
  | zero => exact nobE h
  | succ m => exact .inr (.inl ⟨m, ds, rfl, rfl, h⟩)
 | lst ds => cases n with
  | zero => exact nobE h
  | succ m => exact .inr (.inr ⟨m, ds, rfl, rfl, h⟩)
 | _ => cases n <;> exact nobE h
section
variable {A : Around} {l : Addr} {its : Array Value} {w : V} {v : Value} {d : D}
theorem at_tup_sc (p : s.heap.IsTuple l its) (hu : A.units < cLine) (h : scD d = some w) (r : RelV w v) : EqAt A s (.ref l) v false := by
 cases d with
 | non => cases h; cases (show v = Value.none from r); exact EqAt.tuple_none p hu
 | bl b => cases h; cases (show v = Value.bool b from r); exact EqAt.tuple_bool b p hu
 | int i => cases h; obtain ⟨t, rfl⟩ := (show ∃ t, v = Value.int i t from r); exact EqAt.tuple_int i t p hu
 | str i => cases h; obtain ⟨t, rfl⟩ := (show ∃ t, v = Value.str i t from r); exact EqAt.tuple_str i t p hu
 | _ => cases h
theorem at_sc_tup (p : s.heap.IsTuple l its) (hu : A.units < cLine) (h : scD d = some w) (r : RelV w v) : EqAt A s v (.ref l) false := by
 cases d with
 | non => cases h; cases (show v = Value.none from r); exact EqAt.none_tuple p hu
 | bl b => cases h; cases (show v = Value.bool b from r); exact EqAt.bool_tuple b p hu
 | int i => cases h; obtain ⟨t, rfl⟩ := (show ∃ t, v = Value.int i t from r); exact EqAt.int_tuple i t p hu
 | str i => cases h; obtain ⟨t, rfl⟩ := (show ∃ t, v = Value.str i t from r); exact EqAt.str_tuple i t p hu
 | _ => cases h
theorem at_lst_sc (p : s.heap.IsList l its) (hu : A.units < cLine) (h : scD d = some w) (r : RelV w v) : EqAt A s (.ref l) v false := by
 cases d with
 | non => cases h; cases (show v = Value.none from r); exact EqAt.list_none p hu
 | bl b => cases h; cases (show v = Value.bool b from r); exact EqAt.list_bool b p hu
 | int i => cases h; obtain ⟨t, rfl⟩ := (show ∃ t, v = Value.int i t from r); exact EqAt.list_int i t p hu
 | str i => cases h; obtain ⟨t, rfl⟩ := (show ∃ t, v = Value.str i t from r); exact EqAt.list_str i t p hu
 | _ => cases h
theorem at_sc_lst (p : s.heap.IsList l its) (hu : A.units < cLine) (h : scD d = some w) (r : RelV w v) : EqAt A s v (.ref l) false := by
 cases d with
 | non => cases h; cases (show v = Value.none from r); exact EqAt.none_list p hu
 | bl b => cases h; cases (show v = Value.bool b from r); exact EqAt.bool_list b p hu
 | int i => cases h; obtain ⟨t, rfl⟩ := (show ∃ t, v = Value.int i t from r); exact EqAt.int_list i t p hu
 | str i => cases h; obtain ⟨t, rfl⟩ := (show ∃ t, v = Value.str i t from r); exact EqAt.str_list i t p hu
 | _ => cases h
end
theorem eqP_sc_tup {d : D} {w : V} {bs : List D} (h : scD d = some w) : eqP d (.tup bs) = false /\ eqP (.tup bs) d = false /\ eqP d (.lst bs) = false /\ eqP (.lst bs) d = false := by
 cases d <;> first | cases h | skip
 all_goals exact ⟨rfl, rfl, rfl, rfl⟩
theorem rc_tup {as bs : List D} {xs ys : List V} {us ws : List Value} (r1 : Vals xs us) (r2 : Vals ys ws) (h3 : Hass Γ g as xs) (f3 : Hass Γ g bs ys) :
  ((List.range (min us.toArray.size ws.toArray.size)).all (fun j => eqP (as.getD j .non) (bs.getD j .non)) && us.toArray.size == ws.toArray.size) = eqPs as bs := by
 have l1 := r1.length
 have l2 := r2.length
 have l3 := h3.len
 have l4 := f3.len
 simp only [List.size_toArray]
 by_cases hl : as.length = bs.length
 ·rw [eqPs_get as bs hl]
  have m1 : us.length = as.length := by omega
  have m2 : ws.length = as.length := by omega
  rw [m1, m2]
  simp
 ·rw [eqPs_len as bs hl]
  have : ¬ us.length = ws.length := by omega
  simp [this]
theorem rc_lst {as bs : List D} {xs ys : List V} {us ws : List Value} {a b : Addr} {n : Nat} {A : Around} (ka : okPs n as = true) (kb : okPs n bs = true) (p1 : PlainL s.heap a us.toArray) (p2 : PlainL s.heap b ws.toArray) (r1 : Vals xs us) (r2 : Vals ys ws)
  (h3 : Hass Γ g as xs) (f3 : Hass Γ g bs ys) (hu : A.units < cLine) (ih : ∀ (a b : D) (x y : V) (u v : Value), a ∈ as -> okP n a = true -> okP n b = true -> Has Γ g a x -> Has Γ g b y -> RelV x u -> RelV y v -> EqAt A.in1 s u v (eqP a b)) :
  RcAt A s (.ref a) (.ref b) (eqPs as bs) := by
 have l1 := r1.length
 have l2 := r2.length
 have l3 := h3.len
 have l4 := f3.len
 by_cases hl : as.length = bs.length
 ·have k := RcAt.lists p1.isList p2.isList (by simp only [List.size_toArray]; omega) hu (items_at (A := A.in1) ka kb h3 f3 r1 r2 ih)
  have m1 : us.toArray.size = as.length := by simp only [List.size_toArray]; omega
  rw [m1, <- eqPs_get as bs hl] at k
  exact k
 ·rw [eqPs_len as bs hl]
  exact RcAt.lists_lengths (A := A) p1.isList p2.isList (by simp only [List.size_toArray, bne_iff_ne]; omega) hu
theorem eqAt_all (I : Inv X pins σ H s) (hK : X.K = Γ.K) (sr : Same g.R H) : ∀ (n : Nat) (a b : D) (x y : V) (u v : Value) (A : Around), A.units + n + 1 < cLine -> okP n a = true -> okP n b = true -> Has Γ g a x -> Has Γ g b y -> RelV x u -> RelV y v -> EqAt A s u v (eqP a b) := by
 intro n
 induction n with
 | zero =>
  intro a b x y u v A hu ka kb ha hb ru rv
  rcases okP_cases ka with ⟨w, hw⟩ | ⟨m, ds, e, _⟩ | ⟨m, ds, e, _⟩
  ·rcases okP_cases kb with ⟨w', hw'⟩ | ⟨m, ds, e, _⟩ | ⟨m, ds, e, _⟩
   ·rw [scD_has hw ha] at ru
    rw [scD_has hw' hb] at rv
    rw [<- scD_eq hw hw']
    exact eqAt_V ru rv (scD_flat hw) (scD_flat hw')
   ·cases e
   ·cases e
  ·cases e
  ·cases e
 | succ n ih =>
  intro a b x y u v A hu ka kb ha hb ru rv
  have hu' : A.units < cLine := by omega
  have hin : A.in1.units + n + 1 < cLine := by rw [units_in1]; omega
  rcases okP_cases ka with ⟨w, hw⟩ | ⟨m, as, e, e1, kas⟩ | ⟨m, as, e, e1, kas⟩
  ·rcases okP_cases kb with ⟨w', hw'⟩ | ⟨m, bs, e, e2, kbs⟩ | ⟨m, bs, e, e2, kbs⟩
   ·rw [scD_has hw ha] at ru
    rw [scD_has hw' hb] at rv
    rw [<- scD_eq hw hw']
    exact eqAt_V ru rv (scD_flat hw) (scD_flat hw')
   ·subst e2
    rw [scD_has hw ha] at ru
    obtain ⟨b, ys, rfl, f2, f3⟩ := hb
    cases rv
    obtain ⟨ws, r2, p2, _⟩ := I.tuple (SqT.of (sr _ _ f2))
    rw [(eqP_sc_tup hw).1]
    exact at_sc_tup (isT p2) hu' hw ru
   ·subst e2
    rw [scD_has hw ha] at ru
    obtain ⟨b, ys, rfl, f2, f3⟩ := hb
    cases rv
    obtain ⟨ws, r2, p2, _⟩ := I.list (SqL.of (sr _ _ f2))
    rw [(eqP_sc_tup hw).2.2.1]
    exact at_sc_lst p2.isList hu' hw ru
  ·subst e1
   cases e
   obtain ⟨a, xs, rfl, h2, h3⟩ := ha
   cases ru
   obtain ⟨us, r1, p1, _⟩ := I.tuple (SqT.of (sr _ _ h2))
   rcases okP_cases kb with ⟨w', hw'⟩ | ⟨m, bs, e, e2, kbs⟩ | ⟨m, bs, e, e2, kbs⟩
   ·rw [scD_has hw' hb] at rv
    rw [(eqP_sc_tup hw').2.1]
    exact at_tup_sc (isT p1) hu' hw' rv
   ·subst e2
    cases e
    obtain ⟨b, ys, rfl, f2, f3⟩ := hb
    cases rv
    by_cases e : a = b
    ·subst e
     have := eqP_same I hK sr (n + 1) (.tup as) (.tup bs) (.ref a) ka kb ⟨a, xs, rfl, h2, h3⟩ ⟨a, ys, rfl, f2, f3⟩
     rw [this]
     exact EqAt.same _
    ·obtain ⟨ws, r2, p2, _⟩ := I.tuple (SqT.of (sr _ _ f2))
     have k := RcAt.tuples (isT p1) (isT p2) hu' (items_at (A := A.in1) kas kbs h3 f3 r1 r2 fun a b x y u v _ ka kb ha hb ru rv => ih a b x y u v A.in1 hin ka kb ha hb ru rv)
     rw [rc_tup r1 r2 h3 f3] at k
     exact EqAt.of_refs e k
   ·subst e2
    cases e
    obtain ⟨b, ys, rfl, f2, f3⟩ := hb
    cases rv
    obtain ⟨ws, r2, p2, _⟩ := I.list (SqL.of (sr _ _ f2))
    exact EqAt.tuple_list (isT p1) p2.isList hu'
  ·subst e1
   cases e
   obtain ⟨a, xs, rfl, h2, h3⟩ := ha
   cases ru
   obtain ⟨us, r1, p1, _⟩ := I.list (SqL.of (sr _ _ h2))
   rcases okP_cases kb with ⟨w', hw'⟩ | ⟨m, bs, e, e2, kbs⟩ | ⟨m, bs, e, e2, kbs⟩
   ·rw [scD_has hw' hb] at rv
    rw [(eqP_sc_tup hw').2.2.2]
    exact at_lst_sc p1.isList hu' hw' rv
   ·subst e2
    cases e
    obtain ⟨b, ys, rfl, f2, f3⟩ := hb
    cases rv
    obtain ⟨ws, r2, p2, _⟩ := I.tuple (SqT.of (sr _ _ f2))
    exact EqAt.list_tuple p1.isList (isT p2) hu'
   ·subst e2
    cases e
    obtain ⟨b, ys, rfl, f2, f3⟩ := hb
    cases rv
    by_cases e : a = b
    ·subst e
     have := eqP_same I hK sr (n + 1) (.lst as) (.lst bs) (.ref a) ka kb ⟨a, xs, rfl, h2, h3⟩ ⟨a, ys, rfl, f2, f3⟩
     rw [this]
     exact EqAt.same _
    ·obtain ⟨ws, r2, p2, _⟩ := I.list (SqL.of (sr _ _ f2))
     exact EqAt.of_refs e (rc_lst kas kbs p1 p2 r1 r2 h3 f3 hu' fun a b x y u v _ ka kb ha hb ru rv => ih a b x y u v A.in1 hin ka kb ha hb ru rv)
end
end EV
namespace EV
open PySem PySem.Spec PyProof.Rows L2 SeqAt
section
variable {X : Cx} {pins : List (Addr × Obj)} {σ : L2.St} {H : Hp} {s : Shared} {Γ : Gm} {g : G}
section
variable {A : Around} {l : Addr} {its : Array Value} {w : V} {v : Value} {d : D}
theorem rc_tup_sc (p : s.heap.IsTuple l its) (hu : A.units < cLine) (h : scD d = some w) (r : RelV w v) : RcAt A s (.ref l) v false /\ RcAt A s v (.ref l) false /\ RcNeAt A s (.ref l) v true /\ RcNeAt A s v (.ref l) true := by
 cases d with
 | non => cases h; cases (show v = Value.none from r); exact ⟨RcAt.tuple_none p hu, RcAt.none_tuple p hu, RcNeAt.tuple_none p hu, RcNeAt.none_tuple p hu⟩
 | bl b => cases h; cases (show v = Value.bool b from r); exact ⟨RcAt.tuple_bool b p hu, RcAt.bool_tuple b p hu, RcNeAt.tuple_bool b p hu, RcNeAt.bool_tuple b p hu⟩
 | int i => cases h; obtain ⟨t, rfl⟩ := (show ∃ t, v = Value.int i t from r); exact ⟨RcAt.tuple_int i t p hu, RcAt.int_tuple i t p hu, RcNeAt.tuple_int i t p hu, RcNeAt.int_tuple i t p hu⟩
 | str i => cases h; obtain ⟨t, rfl⟩ := (show ∃ t, v = Value.str i t from r); exact ⟨RcAt.tuple_str i t p hu, RcAt.str_tuple i t p hu, RcNeAt.tuple_str i t p hu, RcNeAt.str_tuple i t p hu⟩
 | _ => cases h
theorem rc_lst_sc (p : s.heap.IsList l its) (hu : A.units < cLine) (h : scD d = some w) (r : RelV w v) : RcAt A s (.ref l) v false /\ RcAt A s v (.ref l) false /\ RcNeAt A s (.ref l) v true /\ RcNeAt A s v (.ref l) true := by
 cases d with
 | non => cases h; cases (show v = Value.none from r); exact ⟨RcAt.list_none p hu, RcAt.none_list p hu, RcNeAt.list_none p hu, RcNeAt.none_list p hu⟩
 | bl b => cases h; cases (show v = Value.bool b from r); exact ⟨RcAt.list_bool b p hu, RcAt.bool_list b p hu, RcNeAt.list_bool b p hu, RcNeAt.bool_list b p hu⟩
 | int i => cases h; obtain ⟨t, rfl⟩ := (show ∃ t, v = Value.int i t from r); exact ⟨RcAt.list_int i t p hu, RcAt.int_list i t p hu, RcNeAt.list_int i t p hu, RcNeAt.int_list i t p hu⟩
 | str i => cases h; obtain ⟨t, rfl⟩ := (show ∃ t, v = Value.str i t from r); exact ⟨RcAt.list_str i t p hu, RcAt.str_list i t p hu, RcNeAt.list_str i t p hu, RcNeAt.str_list i t p hu⟩
 | _ => cases h
theorem rc_sc_sc {a b : D} {x y : V} {u v : Value} (h : scD a = some x) (h' : scD b = some y) (r : RelV x u) (r' : RelV y v) : RcAt A s u v (eqP a b) /\ RcNeAt A s u v (!eqP a b) := by
 cases a with
 | non =>
  cases h; cases (show u = Value.none from r)
  cases b with
  | non => cases h'; cases (show v = Value.none from r'); exact ⟨RcAt.none_none, RcNeAt.none_none⟩
  | bl b => cases h'; cases (show v = Value.bool b from r'); exact ⟨RcAt.none_bool _, RcNeAt.none_bool _⟩
  | int b => cases h'; obtain ⟨t, rfl⟩ := (show ∃ t, v = Value.int b t from r'); exact ⟨RcAt.none_int _ _, RcNeAt.none_int _ _⟩
  | str b => cases h'; obtain ⟨t, rfl⟩ := (show ∃ t, v = Value.str b t from r'); exact ⟨RcAt.none_str _ _, RcNeAt.none_str _ _⟩
  | _ => cases h'
 | bl a =>
  cases h; cases (show u = Value.bool a from r)
  cases b with
  | non => cases h'; cases (show v = Value.none from r'); exact ⟨RcAt.bool_none _, RcNeAt.bool_none _⟩
  | bl b => cases h'; cases (show v = Value.bool b from r'); exact ⟨RcAt.bool_bool _ _, RcNeAt.bool_bool _ _⟩
  | int b => cases h'; obtain ⟨t, rfl⟩ := (show ∃ t, v = Value.int b t from r'); exact ⟨RcAt.bool_int _ _ _, RcNeAt.bool_int _ _ _⟩
  | str b => cases h'; obtain ⟨t, rfl⟩ := (show ∃ t, v = Value.str b t from r'); exact ⟨RcAt.bool_str _ _ _, RcNeAt.bool_str _ _ _⟩
  | _ => cases h'
 | int a =>
  cases h; obtain ⟨t', rfl⟩ := (show ∃ t, u = Value.int a t from r)
  cases b with
  | non => cases h'; cases (show v = Value.none from r'); exact ⟨RcAt.int_none _ _, RcNeAt.int_none _ _⟩
  | bl b => cases h'; cases (show v = Value.bool b from r'); exact ⟨RcAt.int_bool _ _ _, RcNeAt.int_bool _ _ _⟩
  | int b => cases h'; obtain ⟨t, rfl⟩ := (show ∃ t, v = Value.int b t from r'); exact ⟨RcAt.int_int _ _ _ _, RcNeAt.int_int _ _ _ _⟩
  | str b => cases h'; obtain ⟨t, rfl⟩ := (show ∃ t, v = Value.str b t from r'); exact ⟨RcAt.int_str _ _ _ _, RcNeAt.int_str _ _ _ _⟩
  | _ => cases h'
 | str a =>
  cases h; obtain ⟨t', rfl⟩ := (show ∃ t, u = Value.str a t from r)
  cases b with
  | non => cases h'; cases (show v = Value.none from r'); exact ⟨RcAt.str_none _ _, RcNeAt.str_none _ _⟩
  | bl b => cases h'; cases (show v = Value.bool b from r'); exact ⟨RcAt.str_bool _ _ _, RcNeAt.str_bool _ _ _⟩
  | int b => cases h'; obtain ⟨t, rfl⟩ := (show ∃ t, v = Value.int b t from r'); exact ⟨RcAt.str_int _ _ _ _, RcNeAt.str_int _ _ _ _⟩
  | str b => cases h'; obtain ⟨t, rfl⟩ := (show ∃ t, v = Value.str b t from r'); exact ⟨RcAt.str_str _ _ _ _, RcNeAt.str_str _ _ _ _⟩
  | _ => cases h'
 | _ => cases h
end
theorem scD_rdb {d : D} {w x : V} (h : scD d = some w) (hh : Rdb Γ H g d x) : x = w := by
 cases d <;> first | cases h | skip
 all_goals exact hh
theorem rc_D (I : Inv X pins σ H s) (hK : X.K = Γ.K) (sr : Same g.R H) (n : Nat) (a b : D) (x y : V) (u v : Value) (A : Around) (hu : A.units + n + 1 < cLine) (ka : okP n a = true) (kb : okP n b = true) (ha : Rdb Γ H g a x) (hb : Rdb Γ H g b y) (ru : RelV x u) (rv : RelV y v) :
  RcAt A s u v (eqP a b) /\ RcNeAt A s u v (!eqP a b) := by
 have hu' : A.units < cLine := by omega
 rcases okP_cases ka with ⟨w, hw⟩ | ⟨m, as, e, e1, kas⟩ | ⟨m, as, e, e1, kas⟩
 ·rcases okP_cases kb with ⟨w', hw'⟩ | ⟨m, bs, e, e2, kbs⟩ | ⟨m, bs, e, e2, kbs⟩
  ·rw [scD_rdb hw ha] at ru
   rw [scD_rdb hw' hb] at rv
   exact rc_sc_sc hw hw' ru rv
  ·subst e2
   rw [scD_rdb hw ha] at ru
   obtain ⟨b, ys, rfl, f2, f3⟩ := hb
   cases rv
   obtain ⟨ws, r2, p2, _⟩ := I.tuple (SqT.of (sr _ _ f2))
   rw [(eqP_sc_tup hw).1]
   have k := rc_tup_sc (A := A) (isT p2) hu' hw ru
   exact ⟨k.2.1, k.2.2.2⟩
  ·subst e2
   rw [scD_rdb hw ha] at ru
   obtain ⟨b, ys, rfl, f2, f3⟩ := hb
   cases rv
   obtain ⟨ws, r2, p2, _⟩ := I.list (SqL.of f2)
   rw [(eqP_sc_tup hw).2.2.1]
   have k := rc_lst_sc (A := A) p2.isList hu' hw ru
   exact ⟨k.2.1, k.2.2.2⟩
 ·subst e1
  cases e
  have hin : A.in1.units + m + 1 < cLine := by rw [units_in1]; omega
  obtain ⟨a, xs, rfl, h2, h3⟩ := ha
  cases ru
  obtain ⟨us, r1, p1, _⟩ := I.tuple (SqT.of (sr _ _ h2))
  rcases okP_cases kb with ⟨w', hw'⟩ | ⟨m', bs, e, e2, kbs⟩ | ⟨m', bs, e, e2, kbs⟩
  ·rw [scD_rdb hw' hb] at rv
   rw [(eqP_sc_tup hw').2.1]
   have k := rc_tup_sc (A := A) (isT p1) hu' hw' rv
   exact ⟨k.1, k.2.2.1⟩
  ·subst e2
   cases e
   obtain ⟨b, ys, rfl, f2, f3⟩ := hb
   cases rv
   obtain ⟨ws, r2, p2, _⟩ := I.tuple (SqT.of (sr _ _ f2))
   have it := items_at (A := A.in1) kas kbs h3 f3 r1 r2 fun a b x y u v _ ka kb ha hb ru rv => eqAt_all I hK sr m a b x y u v A.in1 hin ka kb ha hb ru rv
   have k1 := RcAt.tuples (isT p1) (isT p2) hu' it
   have k2 := RcNeAt.tuples (isT p1) (isT p2) hu' it
   rw [rc_tup r1 r2 h3 f3] at k1 k2
   exact ⟨k1, k2⟩
  ·subst e2
   cases e
   obtain ⟨b, ys, rfl, f2, f3⟩ := hb
   cases rv
   obtain ⟨ws, r2, p2, _⟩ := I.list (SqL.of f2)
   exact ⟨RcAt.tuple_list (isT p1) p2.isList hu', RcNeAt.tuple_list (isT p1) p2.isList hu'⟩
 ·subst e1
  cases e
  have hin : A.in1.units + m + 1 < cLine := by rw [units_in1]; omega
  obtain ⟨a, xs, rfl, h2, h3⟩ := ha
  cases ru
  obtain ⟨us, r1, p1, _⟩ := I.list (SqL.of h2)
  rcases okP_cases kb with ⟨w', hw'⟩ | ⟨m', bs, e, e2, kbs⟩ | ⟨m', bs, e, e2, kbs⟩
  ·rw [scD_rdb hw' hb] at rv
   rw [(eqP_sc_tup hw').2.2.2]
   have k := rc_lst_sc (A := A) p1.isList hu' hw' rv
   exact ⟨k.1, k.2.2.1⟩
  ·subst e2
   cases e
   obtain ⟨b, ys, rfl, f2, f3⟩ := hb
   cases rv
   obtain ⟨ws, r2, p2, _⟩ := I.tuple (SqT.of (sr _ _ f2))
   exact ⟨RcAt.list_tuple p1.isList (isT p2) hu', RcNeAt.list_tuple p1.isList (isT p2) hu'⟩
  ·subst e2
   cases e
   obtain ⟨b, ys, rfl, f2, f3⟩ := hb
   cases rv
   obtain ⟨ws, r2, p2, _⟩ := I.list (SqL.of f2)
   have ih : ∀ (a b : D) (x y : V) (u v : Value), a ∈ as -> okP m a = true -> okP m b = true -> Has Γ g a x -> Has Γ g b y -> RelV x u -> RelV y v -> EqAt A.in1 s u v (eqP a b) := fun a b x y u v _ ka kb ha hb ru rv => eqAt_all I hK sr m a b x y u v A.in1 hin ka kb ha hb ru rv
   refine ⟨rc_lst kas kbs p1 p2 r1 r2 h3 f3 hu' ih, ?_⟩
   have l1 := r1.length
   have l2 := r2.length
   have l3 := h3.len
   have l4 := f3.len
   show RcNeAt A s _ _ (!eqPs as bs)
   by_cases hl : as.length = bs.length
   ·have k := RcNeAt.lists p1.isList p2.isList (by simp only [List.size_toArray]; omega) hu' (items_at (A := A.in1) kas kbs h3 f3 r1 r2 ih)
    have m1 : us.toArray.size = as.length := by simp only [List.size_toArray]; omega
    rw [m1, <- eqPs_get as bs hl] at k
    exact k
   ·rw [eqPs_len as bs hl]
    exact RcNeAt.lists_lengths (A := A) p1.isList p2.isList (by simp only [List.size_toArray, bne_iff_ne]; omega) hu'
end
noncomputable def rDat (Γ : Gm) (a b : D) (z : D) : R2 := fun x y H Q => ∃ g, Same g.R H /\ Rdb Γ H g a x /\ Rdb Γ H g b y /\ ∀ v, (∀ g, Has Γ g z v) -> Q v H
theorem rdat_rdo {Γ : Gm} {a b : D} {c : Bool} : RDo Γ (rDat Γ a b (.bl c)) a b (.bl c) false := fun S H g x y Q w hx hy q => ⟨g, w.rh, hx, hy, fun v hv => fin_val w q (hv g)⟩
section
variable {X : Cx} {Γ : Gm}
theorem op_eqR (hK : X.K = Γ.K) (hu : X.A.units + 61 < cLine) {a b : D} (ka : okP 60 a = true) (kb : okP 60 b = true) : OpR X (compareOp .Eq) (rDat Γ a b (.bl (eqP a b))) := by
 intro pins s σ H x y v u Q I rx ry ⟨g, sr, ha, hb, q⟩
 exact (rc_D I hK sr 60 a b x y v u X.A hu ka kb ha hb rx ry).1 X.prog X.w X.xe _ ⟨.bl _, H, I, rfl, q _ fun _ => rfl⟩
theorem op_neR (hK : X.K = Γ.K) (hu : X.A.units + 61 < cLine) {a b : D} (ka : okP 60 a = true) (kb : okP 60 b = true) : OpR X (compareOp .NotEq) (rDat Γ a b (.bl (!eqP a b))) := by
 intro pins s σ H x y v u Q I rx ry ⟨g, sr, ha, hb, q⟩
 exact (rc_D I hK sr 60 a b x y v u X.A hu ka kb ha hb rx ry).2 X.prog X.w X.xe _ ⟨.bl _, H, I, rfl, q _ fun _ => rfl⟩
end
end EV
namespace EV
open PySem PySem.Spec PyProof.Rows L2
section
variable {Γ : Gm} {H : Hp} {g : G}
theorem isNone_rdb {d : D} {x : V} (h : Rdb Γ H g d x) : decide (x = .non) = isNone d := by
 cases d with
 | non => cases (show x = .non from h); rfl
 | bl => cases (show x = .bl _ from h); rfl
 | int => cases (show x = .int _ from h); rfl
 | str => cases (show x = .str _ from h); rfl
 | tup => obtain ⟨_, _, rfl, _⟩ := h; rfl
 | lst => obtain ⟨_, _, rfl, _⟩ := h; rfl
 | dK => obtain ⟨_, _, rfl, _⟩ := h; rfl
 | dT => obtain ⟨_, _, rfl, _⟩ := h; rfl
 | ref => exact h.elim
 | fn => obtain ⟨_, _, rfl⟩ := h; rfl
 | scr => obtain ⟨_, rfl, _⟩ := h; rfl
 | ktp => obtain ⟨_, _, rfl, _⟩ := h; rfl
theorem sc_all {l : List D} {xs : List V} (hl : l.all isSc = true) (h : Hass Γ g l xs) : xs.all flatV = true /\ ∀ d w, scD d = some w -> inV w xs = l.any fun y => eqP y d := by
 induction l generalizing xs with
 | nil => cases (show xs = [] from h); exact ⟨rfl, fun _ _ _ => rfl⟩
 | cons c l ih =>
  obtain ⟨v, r, rfl, hc, hr⟩ := h
  rw [List.all_cons, Bool.and_eq_true] at hl
  obtain ⟨h1, h2⟩ := ih hl.2 hr
  have hs : ∃ w, scD c = some w := by
   cases c <;> first | exact ⟨_, rfl⟩ | cases (show false = true from hl.1)
  obtain ⟨w, hw⟩ := hs
  have e := scD_has hw hc
  subst e
  refine ⟨by rw [List.all_cons, scD_flat hw, h1]; rfl, fun d w' hw' => ?_⟩
  show (List.any (v :: r) _) = _
  rw [List.any_cons, List.any_cons, <- h2 d w' hw', scD_eq hw hw']
  rfl
theorem sc_of {d : D} (h : isSc d = true) : ∃ w, scD d = some w := by
 cases d <;> first | exact ⟨_, rfl⟩ | exact nobE h
theorem look_zip {κ : Type} [DecidableEq κ] (k : κ) : ∀ {ks : List κ} {ds : List D} {vs : List V}, ks.length = ds.length -> Hass Γ g ds vs ->
  (∀ d, lookK ks ds k = some d -> ∃ v, valV (ks.zip vs) k = some v /\ Has Γ g d v) /\ (lookK ks ds k = none -> valV (ks.zip vs) k = none)
 | [], [], vs, _, h => by
  refine ⟨fun d e => ?_, fun _ => ?_⟩
  ·simp [lookK, findK] at e
  ·rfl
 | k' :: ks, d' :: ds, vs, hl, ⟨v, r, e1, hv, hr⟩ => by
  subst e1
  have ih := look_zip k (ks := ks) (ds := ds) (vs := r) (by simpa using hl) hr
  show (∀ d, lookK (k' :: ks) (d' :: ds) k = some d -> ∃ v', valV ((k', v) :: ks.zip r) k = some v' /\ _) /\ (_ -> valV ((k', v) :: ks.zip r) k = none)
  by_cases e : k' = k
  ·have e2 : lookK (k' :: ks) (d' :: ds) k = some d' := by simp [lookK, findK, e]
   rw [e2, valV_pos (p := (k', v)) e]
   exact ⟨fun d h => ⟨v, rfl, by cases h; exact hv⟩, fun h => by cases h⟩
  ·have e2 : lookK (k' :: ks) (d' :: ds) k = lookK ks ds k := by
    simp only [lookK, findK, if_neg e]
    cases findK ks k <;> rfl
   rw [e2, valV_neg (p := (k', v)) e]
   exact ih
 | [], _ :: _, _, hl, _ => by simp at hl
 | _ :: _, [], _, hl, _ => by simp at hl
theorem keyD_kV {d : D} {k : Key} {x : V} (h : keyD d = some k) (hh : Rdb Γ H g d x) : x = kV k := by
 cases d <;> first | cases h | skip
 all_goals exact hh
theorem keyD_has {d : D} {k : Key} {x : V} (h : keyD d = some k) (hh : Has Γ g d x) : x = kV k := by
 cases d <;> first | cases h | skip
 all_goals exact hh
set_option tactic.hygienic true in
theorem keysD_kV : ∀ {l : List D} {ks : List Key} {xs : List V}, keysD l = some ks -> Hass Γ g l xs -> xs = ks.map kV
 | [], ks, xs, h, hh => by
  cases (show some [] = some ks from h)
  exact hh
 | d :: l, ks, xs, h, ⟨v, r, e, hv, hr⟩ => by
  subst e
  simp only [keysD] at h
  split at h
  ·rename_i k ks' e1 e2
   cases h
   rw [keyD_has e1 hv, keysD_kV e2 hr]
   rfl
  ·cases h
theorem dget_D {S : Store} {c k : D} {o : Option D} {x y : V} (w : WOk Γ H g S) (h : dgetD c k = some o) (hc : Rdb Γ H g c x) (hk : Rdb Γ H g k y) :
  ∃ a v, x = .ref a /\ DGet H a y v /\ IsD H a /\ (∀ d, o = some d -> ∃ u, v = some u /\ Has Γ g d u) /\ (o = none -> v = none) := by
 cases c with
 | dK ks ds =>
  obtain ⟨a, vs, rfl, h1, h2, h3⟩ := hc
  simp only [dgetD, Option.map_eq_some_iff] at h
  obtain ⟨k', e1, e2⟩ := h
  obtain ⟨z1, z2⟩ := look_zip k' h2 h3
  refine ⟨a, valV (ks.zip vs) k', rfl, .inl ⟨_, k', .inl h1, keyD_kV e1 hk, rfl⟩, .inl ⟨_, .inl h1⟩, fun d e => ?_, fun e => ?_⟩
  ·exact z1 d (e2.trans e)
  ·exact z2 (e2.trans e)
 | dT ks ds =>
  obtain ⟨a, vs, rfl, h1, h2, h3⟩ := hc
  cases k with
  | tup t =>
   obtain ⟨b, ys, rfl, f1, f2⟩ := hk
   simp only [dgetD, Option.map_eq_some_iff] at h
   obtain ⟨k', e1, e2⟩ := h
   obtain ⟨z1, z2⟩ := look_zip k' h2 h3
   have ey := keysD_kV e1 f2
   refine ⟨a, valV (ks.zip vs) k', rfl, .inr ⟨_, k', b, .inl h1, rfl, by rw [<- ey]; exact w.rh _ _ f1, rfl⟩, .inr ⟨_, .inl h1⟩, fun d e => ?_, fun e => ?_⟩
   ·exact z1 d (e2.trans e)
   ·exact z2 (e2.trans e)
  | _ => cases h
 | _ => cases h
end
section
variable {X : Cx} {Γ : Gm}
noncomputable def rInD (neg : Bool) : R2 := fun x y H Q => ∃ a o, y = .ref a /\ DGet H a x o /\ Q (.bl (if neg then !o.isSome else o.isSome)) H
theorem op_inD (hu : X.A.units + 1 < cLine) : OpR X (compareOp .In) (rInD false) := by
 intro pins s σ H x y v u Q I rx ry ⟨a, o, e, h, q⟩
 subst e
 cases ry
 exact d_in hu I h rx fun s' I' => ⟨.bl o.isSome, H, I', rfl, q⟩
theorem op_notInD (hu : X.A.units + 1 < cLine) : OpR X (compareOp .NotIn) (rInD true) := by
 intro pins s σ H x y v u Q I rx ry ⟨a, o, e, h, q⟩
 subst e
 cases ry
 exact d_notIn hu I h rx fun s' I' => ⟨.bl (!o.isSome), H, I', rfl, q⟩
theorem sq_of {H : Hp} {g : G} {S : Store} {d : D} {l : List D} {x : V} (hK : X.K = Γ.K) (w : WOk Γ H g S) (h : seqD d = some l) (hd : Rdb Γ H g d x) : ∃ a xs, x = .ref a /\ (SqL X.K H a xs \/ SqT X.K H a xs) /\ Hass Γ g l xs := by
 cases d with
 | tup ds => cases h; obtain ⟨a, vs, e, h1, h2⟩ := hd; exact ⟨a, vs, e, .inr (SqT.of (w.rh _ _ h1)), h2⟩
 | lst ds => cases h; obtain ⟨a, vs, e, h1, h2⟩ := hd; exact ⟨a, vs, e, .inl (SqL.of h1), h2⟩
 | scr ns => cases h; obtain ⟨a, e, h1⟩ := hd; exact ⟨a, _, e, .inl (by rw [hK]; exact h1), Hass.ints⟩
 | ktp ds => cases h; obtain ⟨a, vs, e, h1, h2⟩ := hd; exact ⟨a, vs, e, .inr (by rw [hK]; exact .inr h1), h2⟩
 | _ => cases h
theorem in_rdo {l : List D} {a b : D} {c : Bool} (hK : X.K = Γ.K) (hs : seqD b = some l) (h : memD l a = some c) : RDo Γ (rIn X.K false) a b (.bl c) false /\ RDo Γ (rIn X.K true) a b (.bl (!c)) false := by
 simp only [memD] at h
 split at h
 ·rename_i hf
  cases h
  rw [Bool.and_eq_true] at hf
  obtain ⟨wa, ea⟩ := sc_of hf.1
  refine ⟨fun S H g x y Q w hx hy q => ?_, fun S H g x y Q w hx hy q => ?_⟩
  all_goals
   obtain ⟨p, xs, e, hq, hh⟩ := sq_of hK w hs hy
   obtain ⟨f1, f2⟩ := sc_all hf.2 hh
   have ex := scD_rdb ea hx
   subst ex
   refine ⟨p, xs, e, hq, scD_flat ea, f1, fin_val w q ?_⟩
   rw [f2 a x ea]
   rfl
 ·cases h
theorem inD_rdo {a b : D} {neg : Bool} {o : Option D} (hu1 : X.A.units + 1 < cLine) (e : dgetD b a = some o) : RDo Γ (rInD neg) a b (.bl (if neg then !o.isSome else o.isSome)) false := by
 intro S H g x y Q w hx hy q
 obtain ⟨p, v, e1, e2, _, e3, e4⟩ := dget_D w e hy hx
 refine ⟨p, v, e1, e2, fin_val w q ?_⟩
 cases o with
 | none => rw [e4 rfl]; rfl
 | some d => obtain ⟨z, hz, _⟩ := e3 d rfl; rw [hz]; rfl
theorem int2_is {f : Int -> Int -> Bool} {a b : D} {c : Bool} (h : int2 f a b = some c) : ∃ i j, a = .int i /\ b = .int j /\ c = f i j := by
 cases a with
 | int i =>
  cases b with
  | int j => cases h; exact ⟨i, j, rfl, rfl, rfl⟩
  | _ => cases h
 | _ => cases h
theorem in2_rdo {a b : D} {c : Bool} (hK : X.K = Γ.K) (hu1 : X.A.units + 1 < cLine) (h : inD a b = some c) : (∃ r, OpR X (compareOp .In) r /\ RDo Γ r a b (.bl c) false) /\ ∃ r, OpR X (compareOp .NotIn) r /\ RDo Γ r a b (.bl (!c)) false := by
 have sq : ∀ l, seqD b = some l -> memD l a = some c -> (∃ r, OpR X (compareOp .In) r /\ RDo Γ r a b (.bl c) false) /\ ∃ r, OpR X (compareOp .NotIn) r /\ RDo Γ r a b (.bl (!c)) false := fun l h1 h2 => ⟨⟨_, op_in_seq, (in_rdo hK h1 h2).1⟩, _, op_notIn_seq, (in_rdo hK h1 h2).2⟩
 have dc : (dgetD b a).map (·.isSome) = some c -> (∃ r, OpR X (compareOp .In) r /\ RDo Γ r a b (.bl c) false) /\ ∃ r, OpR X (compareOp .NotIn) r /\ RDo Γ r a b (.bl (!c)) false := fun h => by
  obtain ⟨o, e, rfl⟩ := Option.map_eq_some_iff.mp h
  exact ⟨⟨_, op_inD hu1, inD_rdo (neg := false) hu1 e⟩, _, op_notInD hu1, inD_rdo (neg := true) hu1 e⟩
 cases b with
 | lst l => exact sq l rfl h
 | tup l => exact sq l rfl h
 | ktp l => exact sq l rfl h
 | str y =>
  cases a with
  | str x =>
   cases h
   exact ⟨⟨_, op_in_str, fun S H g u v Q w hx hy q => ⟨x, y, hx, hy, fin_val w q rfl⟩⟩, _, op_notIn_str, fun S H g u v Q w hx hy q => ⟨x, y, hx, hy, fin_val w q rfl⟩⟩
  | _ => cases h
 | dK ks ds => exact dc h
 | dT ks ds => exact dc h
 | _ => cases h
theorem is2_rdo {a b : D} {c : Bool} (h : isD a b = some c) : (∃ r, OpR X (compareOp .Is) r /\ RDo Γ r a b (.bl c) false) /\ ∃ r, OpR X (compareOp .IsNot) r /\ RDo Γ r a b (.bl (!c)) false := by
 cases b with
 | non =>
  cases h
  exact ⟨⟨_, op_isN, fun S H g x y Q w hx hy q => ⟨hy, fin_val w q (by rw [isNone_rdb hx]; rfl)⟩⟩, _, op_notN, fun S H g x y Q w hx hy q => ⟨hy, fin_val w q (by rw [isNone_rdb hx]; rfl)⟩⟩
 | bl j =>
  cases a with
  | bl i =>
   cases h
   exact ⟨⟨_, op_isB, fun S H g x y Q w hx hy q => ⟨_, _, hx, hy, fin_val w q rfl⟩⟩, _, op_notB, fun S H g x y Q w hx hy q => ⟨_, _, hx, hy, fin_val w q rfl⟩⟩
  | _ => cases h
 | _ => cases h
theorem eqD_is {a b : D} {c : Bool} (h : eqD a b = some c) : okP 60 a = true /\ okP 60 b = true /\ c = eqP a b := by
 have h : (if (okP 60 a && okP 60 b) = true then some (eqP a b) else none) = some c := h
 by_cases hk : (okP 60 a && okP 60 b) = true
 ·rw [if_pos hk] at h
  cases h
  rw [Bool.and_eq_true] at hk
  exact ⟨hk.1, hk.2, rfl⟩
 ·rw [if_neg hk] at h; cases h
theorem ints_of {g : G} : ∀ {l : List D} {ns : List Int} {xs : List V}, intsD l = some ns -> Hass Γ g l xs -> xs = ns.map V.int
 | [], ns, xs, h, hh => by
  cases (show some [] = some ns from h)
  exact hh
 | d :: l, ns, xs, h, ⟨v, r, e, hv, hr⟩ => by
  subst e
  cases d with
  | int i =>
   simp only [intsD, Option.map_eq_some_iff] at h
   obtain ⟨ms, e1, e2⟩ := h
   subst e2
   rw [show v = V.int i from hv, ints_of e1 hr]
   rfl
  | _ => cases h
theorem kv_mem {kvs : List (Key × V)} {vs : List (Key × Value)} (r : KV kvs vs) : ∀ p ∈ vs, ∃ q ∈ kvs, q.1 = p.1 /\ RelV q.2 p.2 := by
 unfold KV at r
 induction r with
 | nil => intro p hp; cases hp
 | cons h t ih =>
  intro p hp
  rcases List.mem_cons.mp hp with rfl | hp
  ·exact ⟨_, List.mem_cons_self, h⟩
  ·obtain ⟨q, hq, e⟩ := ih p hp
   exact ⟨q, List.mem_cons_of_mem _ hq, e⟩
theorem val_mem : ∀ {kvs : List (Key × V)}, (kvs.map (·.1)).Nodup -> ∀ q ∈ kvs, valV kvs q.1 = some q.2
 | [], _, q, hq => by cases hq
 | p :: r, h, q, hq => by
  rw [List.map_cons, List.nodup_cons] at h
  rcases List.mem_cons.mp hq with rfl | hq
  ·exact valV_pos rfl
  ·rw [valV_neg fun e => h.1 (by rw [e]; exact List.mem_map_of_mem hq)]
   exact val_mem h.2 q hq
theorem hits_of {A : Around} {s : Shared} {kb : List (Key × Value)} : ∀ (r : List (Key × Value)), (∀ p ∈ r, ∃ i t t', p.2 = Value.int i t /\ valueAt kb p.1 = some (.int i t')) -> PySem.W.KeqHits A s kb r true
 | [], _ => .nil
 | (k, v) :: r, h => by
  obtain ⟨i, t, t', e1, e2⟩ := h (k, v) List.mem_cons_self
  have e1 : v = .int i t := e1
  subst e1
  have q := PySem.SeqAt.EqAt.int_int (A := A) (s := s) i t i t'
  rw [beq_self_eq_true] at q
  exact .hit (e := true) (b := true) e2 q (hits_of r fun p hp => h p (List.mem_cons_of_mem _ hp))
noncomputable def rNeD : R2 := fun x y H Q => ∃ a b kvs, x = .ref a /\ y = .ref b /\ Rd H a (.dK kvs) /\ Rd H b (.dK kvs) /\ (kvs.map (·.1)).Nodup /\ (∀ p ∈ kvs, ∃ i, p.2 = V.int i) /\ Q (.bl false) H
theorem op_neDict (hu : X.A.units < cLine) : OpR X (compareOp .NotEq) rNeD := by
 intro pins s σ H x y v u Q I rx ry ⟨a, b, kvs, e1, e2, ha, hb, hn, hi, q⟩
 subst e1 e2
 cases rx
 cases ry
 obtain ⟨_, sa, va, ra, da⟩ := dk_rd I.hok ha
 obtain ⟨_, sb, vb, rb, db⟩ := dk_rd I.hok hb
 refine PySem.W.keq_ne (r := true) sa sb da db hu (fun _ => hits_of va fun p hp => ?_) ?_
 ·obtain ⟨z, hz, e1, e2⟩ := kv_mem ra p hp
  obtain ⟨i, e3⟩ := hi z hz
  rw [e3] at e2
  obtain ⟨t, e2⟩ := e2
  have rv := rb.val z.1
  rw [val_mem hn z hz, e3, e1] at rv
  cases e4 : valueAt vb p.1 with
  | none => rw [e4] at rv; exact rv.elim
  | some w =>
   rw [e4] at rv
   obtain ⟨t', e5⟩ := (show RelV (.int i) w from rv)
   exact ⟨i, t, t', e2, by rw [e5]⟩
 ·rw [<- ra.length, <- rb.length, beq_self_eq_true]
  exact ⟨.bl false, H, I, rfl, q⟩
theorem ne_rdo {ks ks' : List Key} {vs vs' : List D} {c : Bool} (h : neD (.dK ks vs) (.dK ks' vs') = some c) : RDo Γ rNeD (.dK ks vs) (.dK ks' vs') (.bl c) false := by
 have h : (if (decide (ks = ks') && decide ks.Nodup && decide (intsD vs = intsD vs') && (intsD vs).isSome) = true then some false else none) = some c := h
 split at h
 ·rename_i hc
  cases h
  simp only [Bool.and_eq_true, decide_eq_true_eq] at hc
  obtain ⟨⟨⟨e1, hn⟩, e2⟩, e3⟩ := hc
  subst e1
  intro S H g x y Q w ⟨a, xs, hx, h1, h2, h3⟩ ⟨b, ys, hy, f1, f2, f3⟩ q
  obtain ⟨ns, e4⟩ := Option.isSome_iff_exists.mp e3
  have z1 := ints_of e4 h3
  have z2 := ints_of (e2.symm.trans e4) f3
  refine ⟨a, b, ks.zip (ns.map V.int), hx, hy, .inl (by rw [h1, z1]), .inl (by rw [f1, z2]), ?_, fun p hp => ?_, fin_val w q rfl⟩
  ·rw [List.map_fst_zip (by rw [<- z1, h3.len, <- h2]; exact Nat.le_refl _)]
   exact hn
  ·obtain ⟨i, _, e⟩ := List.mem_map.mp (List.of_mem_zip hp).2
   exact ⟨i, e.symm⟩
 ·cases h
theorem cmp_rdo {op : CmpOp} {a b : D} {c : Bool} (hK : X.K = Γ.K) (hu : X.A.units + 61 < cLine) (h : cmpD op a b = some c) : ∃ r, OpR X (compareOp op) r /\ RDo Γ r a b (.bl c) false := by
 have hu1 : X.A.units + 1 < cLine := by omega
 cases op with
 | Eq =>
  obtain ⟨h1, h2, rfl⟩ := eqD_is h
  exact ⟨_, op_eqR hK hu h1 h2, rdat_rdo⟩
 | NotEq =>
  have old : (eqD a b).map (!·) = some c -> ∃ r, OpR X (compareOp .NotEq) r /\ RDo Γ r a b (.bl c) false := fun h => by
   obtain ⟨c', e, rfl⟩ := Option.map_eq_some_iff.mp h
   obtain ⟨h1, h2, rfl⟩ := eqD_is e
   exact ⟨_, op_neR hK hu h1 h2, rdat_rdo⟩
  have h : neD a b = some c := h
  cases a with
  | dK ks vs =>
   cases b with
   | dK ks' vs' => exact ⟨_, op_neDict (by omega), ne_rdo h⟩
   | _ => exact old h
  | _ => exact old h
 | Lt => obtain ⟨i, j, rfl, rfl, rfl⟩ := int2_is h; exact ⟨_, op_lt, fun S H g x y Q w hx hy q => ⟨_, _, hx, hy, fin_val w q rfl⟩⟩
 | LtE => obtain ⟨i, j, rfl, rfl, rfl⟩ := int2_is h; exact ⟨_, op_le, fun S H g x y Q w hx hy q => ⟨_, _, hx, hy, fin_val w q rfl⟩⟩
 | Gt => obtain ⟨i, j, rfl, rfl, rfl⟩ := int2_is h; exact ⟨_, op_gt, fun S H g x y Q w hx hy q => ⟨_, _, hx, hy, fin_val w q rfl⟩⟩
 | GtE => obtain ⟨i, j, rfl, rfl, rfl⟩ := int2_is h; exact ⟨_, op_ge, fun S H g x y Q w hx hy q => ⟨_, _, hx, hy, fin_val w q rfl⟩⟩
 | Is => exact (is2_rdo h).1
 | IsNot =>
  obtain ⟨c', e, rfl⟩ := Option.map_eq_some_iff.mp (show (isD a b).map (!·) = some c from h)
  exact (is2_rdo e).2
 | In => exact (in2_rdo hK hu1 h).1
 | NotIn =>
  obtain ⟨c', e, rfl⟩ := Option.map_eq_some_iff.mp (show (inD a b).map (!·) = some c from h)
  exact (in2_rdo hK hu1 e).2
noncomputable def rIxD : R2 := fun x y H Q => ∃ a v, x = .ref a /\ DGet H a y (some v) /\ Q v H
theorem ix_dict (hu : X.A.units + 1 < cLine) : IxR X rIxD := by
 intro value slice pins s σ H x y v u Q I rx ry ⟨a, z, e, g, q⟩ hs
 subst e
 cases rx
 exact tail_any (dict_typeIs I g) PySem.F.slot_dict_getitem.lookup (d_getItem hu I g ry fun w' s' I' r' => ⟨z, H, I', r', q⟩) hs
theorem at_has {g : G} {l : List D} {xs : List V} {i : Int} {d : D} (h : Hass Γ g l xs) (e : ((ixN l.length i).bind fun k => l[k]?) = some d) : ∃ v, atI xs i = some v /\ Has Γ g d v := by
 obtain ⟨k, e1, e2⟩ := Option.bind_eq_some_iff.mp e
 obtain ⟨v, hv, hd⟩ := h.get e2
 refine ⟨v, ?_, hd⟩
 unfold atI
 rw [h.len, e1]
 exact hv
set_option tactic.hygienic true in
theorem ix_rdo {a b d : D} (hK : X.K = Γ.K) (hu : X.A.units + 1 < cLine) (h : subD a b = some d) : ∃ r, IxR X r /\ RDo Γ r a b d false := by
 unfold subD at h
 split at h
 ·refine ⟨_, ix_tup, fun S H g x y Q w ⟨p, xs, e, h1, h2⟩ hy q => ?_⟩
  obtain ⟨v, e1, e2⟩ := at_has h2 h
  exact ⟨p, xs, _, v, e, hy, SqT.of (w.rh _ _ h1), e1, fin_val w q e2⟩
 ·refine ⟨_, ix_list, fun S H g x y Q w ⟨p, xs, e, h1, h2⟩ hy q => ?_⟩
  obtain ⟨v, e1, e2⟩ := at_has h2 h
  exact ⟨p, xs, _, v, e, hy, SqL.of h1, e1, fin_val w q e2⟩
 ·rename_i l i
  refine ⟨_, ix_list, fun S H g x y Q w ⟨p, e, h1⟩ hy q => ?_⟩
  have h' : ((ixN (l.map D.int).length i).bind fun k => (l.map D.int)[k]?) = some d := by
   rw [List.length_map]
   simpa [List.getElem?_map] using h
  obtain ⟨v, e1, e2⟩ := at_has (Hass.ints (Γ := Γ) (g := g)) h'
  exact ⟨p, _, _, v, e, hy, by rw [hK]; exact h1, e1, fin_val w q e2⟩
 ·split at h
  ·rename_i hf
   obtain ⟨k, e1, e2⟩ := Option.bind_eq_some_iff.mp h
   obtain ⟨c, e3, e4⟩ := Option.map_eq_some_iff.mp e2
   subst e4
   refine ⟨_, ix_str, fun S H g x y Q w hx hy q => ⟨_, _, c, hx, hy, lim_le hf, ?_, fin_val w q rfl⟩⟩
   unfold atI
   have e1' : ixN _ _ = some k := e1
   rw [e1']
   exact e3
  ·cases h
 ·obtain ⟨o, e1, e2⟩ := Option.bind_eq_some_iff.mp h
  refine ⟨_, ix_dict hu, fun S H g x y Q w hx hy q => ?_⟩
  obtain ⟨p, v, f1, f2, _, f3, _⟩ := dget_D w e1 hx hy
  obtain ⟨z, hz, hd⟩ := f3 d e2
  exact ⟨p, z, f1, by rw [<- hz]; exact f2, fin_val w q hd⟩
 ·obtain ⟨o, e1, e2⟩ := Option.bind_eq_some_iff.mp h
  refine ⟨_, ix_dict hu, fun S H g x y Q w hx hy q => ?_⟩
  obtain ⟨p, v, f1, f2, _, f3, _⟩ := dget_D w e1 hx hy
  obtain ⟨z, hz, hd⟩ := f3 d e2
  exact ⟨p, z, f1, by rw [<- hz]; exact f2, fin_val w q hd⟩
 ·cases h
theorem cut_has {g : G} {l : List D} {xs : List V} (lo hi : Option Int) (h : Hass Γ g l xs) : Hass Γ g (cutD l lo hi) (cutV xs lo hi) := by
 unfold cutD cutV
 rw [h.len]
 exact (h.drop _).take _
noncomputable def RDs (Γ : Gm) (r : V -> Option Int -> Option Int -> Hp -> VK -> Prop) (a : D) (lo hi : Option Int) (d : D) (fr : Bool) : Prop :=
 ∀ (S : Store) (H : Hp) (g : G) (x : V) (Q : VK), WOk Γ H g S -> Rdb Γ H g a x -> Fin Γ H g S d fr Q -> r x lo hi H Q
noncomputable def rSlS : V -> Option Int -> Option Int -> Hp -> VK -> Prop := fun x lo hi H Q => ∃ z, x = .str z /\ z.length <= sizeLine /\ Q (.str (PySem.Txt.slice z lo hi)) H
theorem part_is {v : Value} {o : Option Int} (h : IsPart v o) : ∃ p : Option (Int × Tok), v = partValue p /\ p.map (·.1) = o := by
 cases h with
 | none => exact ⟨none, rfl, rfl⟩
 | int i t => exact ⟨some (i, t), rfl, rfl⟩
theorem sl_str : SlR X rSlS := by
 intro pins s σ H x v vl vu lo hi sl Q I rx hs pl pu ⟨z, e, hz, q⟩
 subst e
 obtain ⟨t, rfl⟩ := rx
 obtain ⟨p, rfl, rfl⟩ := part_is pl
 obtain ⟨p', rfl, rfl⟩ := part_is pu
 refine ⟨"str", _, PySem.F.slot_str_getitem.lookup, typeIs_str _ _ _, wpAny_getItem_str_slice (l := p) (u := p') (st := none) hs rfl ?_⟩
 exact post_val_or_str ⟨Nat.le_trans (Txt.slice_le z _ _) hz, fun t' k => ⟨.str (PySem.Txt.slice z (p.map (·.1)) (p'.map (·.1))), H, I.tok _, ⟨t', rfl⟩, q⟩⟩
set_option tactic.hygienic true in
theorem sl_rds {a d : D} {lo hi : Option Int} {fr : Bool} (hK : X.K = Γ.K) (h : slcD a lo hi = some (d, fr)) : ∃ r, SlR X r /\ RDs Γ r a lo hi d fr := by
 unfold slcD at h
 split at h
 ·rename_i l
  cases h
  refine ⟨_, sl_tup.or sl_tupW, fun S H g x Q w ⟨p, xs, e, h1, h2⟩ q => ?_⟩
  by_cases hw : HT.sIx xs.length 0 lo = 0 /\ HT.sIx xs.length xs.length hi = xs.length
  ·refine .inr ⟨p, xs, e, SqT.of (w.rh _ _ h1), hw, fin_val w q ?_⟩
   have ec : cutD l lo hi = l := by
    unfold cutD
    rw [<- h2.len, hw.1, hw.2, List.drop_zero, Nat.sub_zero, List.take_of_length_le (by rw [h2.len]; exact Nat.le_refl _)]
   rw [ec]
   exact ⟨p, xs, rfl, h1, h2⟩
  ·exact .inl ⟨p, xs, e, SqT.of (w.rh _ _ h1), hw, fun b hb => fin_tup w q (cut_has lo hi h2) hb⟩
 ·cases h
  exact ⟨_, sl_list, fun S H g x Q w ⟨p, xs, e, h1, h2⟩ q => ⟨p, xs, e, SqL.of h1, fun b hb => fin_lst w q (cut_has lo hi h2) hb⟩⟩
 ·cases h
  exact ⟨_, sl_list, fun S H g x Q w ⟨p, e, h1⟩ q => ⟨p, _, e, by rw [hK]; exact h1, fun b hb => fin_lst w q (cut_has lo hi Hass.ints) hb⟩⟩
 ·split at h
  ·rename_i hf
   cases h
   exact ⟨_, sl_str, fun S H g x Q w hx q => ⟨_, hx, lim_le hf, fin_val w q rfl⟩⟩
  ·cases h
 ·cases h
end
end EV
namespace EV
open PySem PySem.Spec PyProof.Rows L2
noncomputable def Rdbs (Γ : Gm) (H : Hp) (g : G) : List D -> List V -> Prop
 | [], vs => vs = []
 | d :: ds, vs => ∃ v r, vs = v :: r /\ Rdb Γ H g d v /\ Rdbs Γ H g ds r
theorem rdbs_of {Γ : Gm} {H : Hp} {g : G} {S : Store} (w : WOk Γ H g S) : ∀ {ds : List D} {vs : List V}, Hass Γ g ds vs -> Rdbs Γ H g (ds.map (deref S)) vs
 | [], _, h => h
 | d :: ds, _, ⟨v, r, e, h1, h2⟩ => ⟨v, r, e, rdb_of w h1, rdbs_of w h2⟩
noncomputable def RDc (Γ : Gm) (r : List V -> Hp -> VK -> Prop) (ds : List D) (d : D) (fr : Bool) : Prop :=
 ∀ (S : Store) (H : Hp) (g : G) (xs : List V) (Q : VK), WOk Γ H g S -> Rdbs Γ H g ds xs -> Fin Γ H g S d fr Q -> r xs H Q
section
variable {X : Cx} {Γ : Gm}
theorem rd1 {H : Hp} {g : G} {d : D} {xs : List V} (h : Rdbs Γ H g [d] xs) : ∃ v, xs = [v] /\ Rdb Γ H g d v := by
 obtain ⟨v, r, e, h1, h2⟩ := h
 cases (show r = [] from h2)
 exact ⟨v, e, h1⟩
theorem valsI : ∀ {ns : List Int} {us : List Value}, Vals (ns.map V.int) us -> ∀ (i : Nat) (v : Value), us[i]? = some v -> ∃ t, v = Value.int (ns.getD i 0) t
 | [], _, .nil, i, v, h => by simp at h
 | n :: ns, _, .cons r q, 0, v, h => by
  obtain ⟨t, rfl⟩ := r
  simp at h
  exact ⟨t, h.symm⟩
 | n :: ns, _, .cons r q, i + 1, v, h => by
  have := valsI q i v (by simpa using h)
  simpa using this
theorem call_sumR (hc : X.calm = true) : CallR X (.builtin "sum") (fun xs H Q => ∃ (p : Addr) (ns : List Int), xs = [.ref p] /\ SqL X.K H p (ns.map V.int) /\ Q (.int ns.sum) H) := by
 intro pins s σ H vs us Q I rv h
 obtain ⟨p, ns, rfl, hq, q⟩ := h
 obtain ⟨u, rfl, ru⟩ := rv.one
 cases (show u = Value.ref p from ru)
 obtain ⟨its, rv, hp, hz⟩ := I.list hq
 have hl := hp.isList
 have hlt : p < s.heap.objs.size := by obtain ⟨_, e, _⟩ := hl; exact Heap.lt_size e
 have hh : X.A.handled = none := I.ok.hd hc
 have hlen := rv.length
 rw [List.length_map] at hlen
 refine call_sum_walkG (wpAny_pyIter_list hl ?_)
 refine ⟨s.heap.objs.size, [s.heap.objs.size, p], [s.heap.objs.size], its.toArray.size, _, _, fun i => ns.getD i 0, rfl, Walks.list (A := X.A.in1) hh _ p (Nat.ne_of_lt hlt) its.toArray,
  ⟨⟨_, Heap.get?_push_size _ rfl, rfl, rfl⟩, hl.push _⟩, fun b hb => ?_, fun i v hP => ?_, fun h' tk t' hk => ?_⟩
 ·rcases List.mem_cons.mp hb with rfl | hb
  ·show _ < (s.heap.push _).objs.size
   rw [Heap.size_push]; exact Nat.lt_succ_self _
  ·rw [List.mem_singleton.mp hb]
   show _ < (s.heap.push _).objs.size
   rw [Heap.size_push]; exact Nat.lt_succ_of_lt hlt
 ·exact valsI rv i v (by simpa using hP)
 ·refine ⟨.int ns.sum, H, I.kept (LSm.kept_iter hk), ⟨t', ?_⟩, q⟩
  rw [preSum_getD, List.size_toArray, <- hlen, List.take_length]
theorem boolsD_of {g : G} : ∀ {l : List D} {ns : List Bool} {xs : List V}, boolsD l = some ns -> Hass Γ g l xs -> xs = ns.map V.bl
 | [], ns, xs, h, hh => by
  cases (show some [] = some ns from h)
  exact hh
 | d :: l, ns, xs, h, ⟨v, r, e, hv, hr⟩ => by
  subst e
  cases d with
  | bl i =>
   simp only [boolsD, Option.map_eq_some_iff] at h
   obtain ⟨ms, e1, e2⟩ := h
   subst e2
   rw [show v = V.bl i from hv, boolsD_of e1 hr]
   rfl
  | _ => cases h
noncomputable def biV : BI -> Value
 | .len => .builtin "len" | .abs => .builtin "abs" | .int => .type "int" | .str => .type "str" | .tuple => .type "tuple" | .list => .type "list"
 | .sum => .builtin "sum" | .all => .builtin "all" | .any => .builtin "any" | .isinst _ => .builtin "isinstance" | .min2 => .builtin "min" | .max2 => .builtin "max" | .sorted => .builtin "sorted" | .repr => .builtin "repr" | .dict => .type "dict"
noncomputable def isI : BI -> Bool
 | .isinst _ => true
 | _ => false
theorem len_rdc {d0 : D} {d : D} {fr : Bool} (hK : X.K = Γ.K) (h : lenD d0 = some (d, fr)) : ∃ r, CallR X (.builtin "len") r /\ RDc Γ r [d0] d fr := by
 cases d0 with
 | tup l =>
  cases h
  refine ⟨_, call_len_seq, fun S H g xs Q w hx q => ?_⟩
  obtain ⟨v, rfl, p, ys, rfl, h1, h2⟩ := rd1 hx
  exact ⟨p, ys, rfl, .inr (SqT.of (w.rh _ _ h1)), fin_val w q (by rw [h2.len]; rfl)⟩
 | lst l =>
  cases h
  refine ⟨_, call_len_seq, fun S H g xs Q w hx q => ?_⟩
  obtain ⟨v, rfl, p, ys, rfl, h1, h2⟩ := rd1 hx
  exact ⟨p, ys, rfl, .inl (SqL.of h1), fin_val w q (by rw [h2.len]; rfl)⟩
 | scr l =>
  cases h
  refine ⟨_, call_len_seq, fun S H g xs Q w hx q => ?_⟩
  obtain ⟨v, rfl, p, rfl, h1⟩ := rd1 hx
  exact ⟨p, _, rfl, .inl (by rw [hK]; exact h1), fin_val w q (by rw [List.length_map]; rfl)⟩
 | str x =>
  have h : (if fits x.length = true then some (D.int x.length, false) else none) = some (d, fr) := h
  split at h
  ·rename_i hf
   cases h
   refine ⟨_, call_len_str, fun S H g xs Q w hx q => ?_⟩
   obtain ⟨v, rfl, hv⟩ := rd1 hx
   exact ⟨_, by rw [show v = _ from hv], lim_le hf, fin_val w q rfl⟩
  ·cases h
 | dK ks vs =>
  cases h
  refine ⟨fun xs H Q => ∃ d kvs, xs = [.ref d] /\ Rd H d (.dK kvs) /\ Q (.int kvs.length) H, ?_, fun S H g xs Q w hx q => ?_⟩
  ·intro pins s σ H xs us Q I r hh
   obtain ⟨d, kvs, rfl, hd, q⟩ := hh
   obtain ⟨u, rfl, ru⟩ := vals1 r
   cases (show u = Value.ref d from ru)
   exact d_len I hd fun t s' I' => ⟨.int kvs.length, H, I', ⟨t, rfl⟩, q⟩
  ·obtain ⟨v, rfl, p, ys, rfl, h1, h2, h3⟩ := rd1 hx
   refine ⟨p, _, rfl, .inl h1, fin_val w q ?_⟩
   rw [List.length_zip, h3.len, <- h2, Nat.min_self]
   rfl
 | _ => cases h
theorem onL_is {f : List D -> Option D} {d0 : D} {p : D × Bool} (h : onL f d0 = some p) : ∃ l d, d0 = .lst l /\ f l = some d /\ p = (d, false) := by
 cases d0 with
 | lst l =>
  obtain ⟨d, e, rfl⟩ := Option.map_eq_some_iff.mp (show (f l).map (fun d => (d, false)) = some p from h)
  exact ⟨l, d, rfl, e, rfl⟩
 | _ => cases h
theorem lot_is {d0 : D} {l : List D} (h : lotD d0 = some l) : d0 = .lst l \/ d0 = .tup l := by
 cases d0 with
 | lst m => cases h; exact .inl rfl
 | tup m => cases h; exact .inr rfl
 | _ => cases h
theorem rd2 {H : Hp} {g : G} {d e : D} {xs : List V} (h : Rdbs Γ H g [d, e] xs) : ∃ u v, xs = [u, v] /\ Rdb Γ H g d u /\ Rdb Γ H g e v := by
 obtain ⟨v, r, e, h1, h2⟩ := h
 obtain ⟨u, rfl, h3⟩ := rd1 h2
 exact ⟨v, u, e, h1, h3⟩
theorem bi2_rdc {b : BI} {d0 d1 d : D} {fr : Bool} (hc : X.calm = true) (h : bi2 b d0 d1 = some (d, fr)) : ∃ r, CallR X (biV b) r /\ RDc Γ r [d0, d1] d fr := by
 cases b with
 | min2 =>
  obtain ⟨i, j, k, rfl, rfl, e, e2⟩ := num2_is (show num2 (fun i j => some (if j < i then j else i)) d0 d1 = some (d, fr) from h)
  cases e2
  cases e
  refine ⟨_, call_min2 hc, fun S H g xs Q w hx q => ?_⟩
  obtain ⟨u, v, rfl, h1, h2⟩ := rd2 hx
  exact ⟨i, j, by rw [show u = _ from h1, show v = _ from h2], fin_val w q rfl⟩
 | max2 =>
  obtain ⟨i, j, k, rfl, rfl, e, e2⟩ := num2_is (show num2 (fun i j => some (if j > i then j else i)) d0 d1 = some (d, fr) from h)
  cases e2
  cases e
  refine ⟨_, call_max2 hc, fun S H g xs Q w hx q => ?_⟩
  obtain ⟨u, v, rfl, h1, h2⟩ := rd2 hx
  exact ⟨i, j, by rw [show u = _ from h1, show v = _ from h2], fin_val w q rfl⟩
 | _ => cases h
theorem call_str_str : CallR X (.type "str") (fun xs H Q => ∃ x, xs = [.str x] /\ Q (.str x) H) := by
 intro pins s σ H xs us Q I r ⟨x, e, q⟩
 subst e
 obtain ⟨u, rfl, t, rfl⟩ := vals1 r
 exact PySem.P.str_of_str ⟨.str x, H, I, ⟨t, rfl⟩, q⟩
theorem str_rdc {d0 d : D} {fr : Bool} (h : strD d0 = some (d, fr)) : ∃ r, CallR X (.type "str") r /\ RDc Γ r [d0] d fr := by
 cases d0 with
 | int i =>
  have h : (if decide (i.natAbs.log2 < 1920) = true then some (D.str (toString i), false) else none) = some (d, fr) := h
  split at h
  ·rename_i hi
   cases h
   refine ⟨_, call_str_int, fun S H g xs Q w hx q => ?_⟩
   obtain ⟨v, rfl, hv⟩ := rd1 hx
   exact ⟨i, by rw [show v = _ from hv], of_decide_eq_true hi, fin_val w q rfl⟩
  ·cases h
 | str x =>
  cases h
  refine ⟨_, call_str_str, fun S H g xs Q w hx q => ?_⟩
  obtain ⟨v, rfl, hv⟩ := rd1 hx
  exact ⟨x, by rw [show v = _ from hv], fin_val w q rfl⟩
 | _ => cases h
theorem bi1_rdc {b : BI} {d0 : D} {d : D} {fr : Bool} (hK : X.K = Γ.K) (hg : X.A.guards = some []) (hu : X.A.units + 61 < cLine) (hc : X.calm = true) (hi : isI b = false) (h : biD b [d0] = some (d, fr)) : ∃ r, CallR X (biV b) r /\ RDc Γ r [d0] d fr := by
 cases b with
 | len => exact len_rdc hK h
 | abs =>
  cases d0 with
  | int i =>
   cases h
   refine ⟨_, call_abs, fun S H g xs Q w hx q => ?_⟩
   obtain ⟨v, rfl, hv⟩ := rd1 hx
   exact ⟨_, by rw [show v = _ from hv], fin_val w q rfl⟩
  | _ => cases h
 | int =>
  cases d0 with
  | bl b =>
   cases h
   refine ⟨_, call_int1, fun S H g xs Q w hx q => ?_⟩
   obtain ⟨v, rfl, hv⟩ := rd1 hx
   exact .inr ⟨_, by rw [show v = _ from hv], fin_val w q rfl⟩
  | int i =>
   cases h
   refine ⟨_, call_int1, fun S H g xs Q w hx q => ?_⟩
   obtain ⟨v, rfl, hv⟩ := rd1 hx
   exact .inl ⟨_, by rw [show v = _ from hv], fin_val w q rfl⟩
  | _ => cases h
 | tuple =>
  obtain ⟨l, e, e2⟩ := Option.map_eq_some_iff.mp (show (lotD d0).map (fun l => (D.tup l, false)) = some (d, fr) from h)
  cases e2
  refine ⟨_, call_tuple_of, fun S H g xs Q w hx q => ?_⟩
  rcases lot_is e with rfl | rfl
  ·obtain ⟨v, rfl, p, ys, rfl, h1, h2⟩ := rd1 hx
   exact ⟨p, ys, rfl, .inl ⟨SqL.of h1, fun l hl => fin_tup w q h2 hl⟩⟩
  ·obtain ⟨v, rfl, p, ys, rfl, h1, h2⟩ := rd1 hx
   exact ⟨p, ys, rfl, .inr ⟨SqT.of (w.rh _ _ h1), fin_val w q ⟨p, ys, rfl, h1, h2⟩⟩⟩
 | list =>
  obtain ⟨l, e, e2⟩ := Option.map_eq_some_iff.mp (show (lotD d0).map (fun l => (D.lst l, true)) = some (d, fr) from h)
  cases e2
  refine ⟨_, call_list_of, fun S H g xs Q w hx q => ?_⟩
  rcases lot_is e with rfl | rfl
  ·obtain ⟨v, rfl, p, ys, rfl, h1, h2⟩ := rd1 hx
   exact ⟨p, ys, rfl, .inl (SqL.of h1), fun l hl => fin_lst w q h2 hl⟩
  ·obtain ⟨v, rfl, p, ys, rfl, h1, h2⟩ := rd1 hx
   exact ⟨p, ys, rfl, .inr (SqT.of (w.rh _ _ h1)), fun l hl => fin_lst w q h2 hl⟩
 | sum =>
  obtain ⟨l, z, rfl, e, e2⟩ := onL_is h
  cases e2
  obtain ⟨ns, e3, rfl⟩ := Option.map_eq_some_iff.mp e
  refine ⟨_, call_sumR hc, fun S H g xs Q w hx q => ?_⟩
  obtain ⟨v, rfl, p, ys, rfl, h1, h2⟩ := rd1 hx
  exact ⟨p, ns, rfl, by rw [<- ints_of e3 h2]; exact SqL.of h1, fin_val w q rfl⟩
 | all => cases h
 | any => cases h
 | isinst t => cases hi
 | str => exact str_rdc h
 | min2 => cases h
 | max2 => cases h
 | sorted => cases h
 | repr => cases h
 | dict => cases h
theorem bi_rdc {b : BI} {ds : List D} {d : D} {fr : Bool} (hK : X.K = Γ.K) (hg : X.A.guards = some []) (hu : X.A.units + 61 < cLine) (hc : X.calm = true) (hi : isI b = false) (h : biD b ds = some (d, fr)) : ∃ r, CallR X (biV b) r /\ RDc Γ r ds d fr := by
 match ds, h with
 | [], h => cases h
 | [d0], h => exact bi1_rdc hK hg hu hc hi h
 | [d0, d1], h => exact bi2_rdc hc h
 | _ :: _ :: _ :: _, h => cases h
noncomputable def tyS : Ty -> String
 | .int => "int" | .bool => "bool" | .str => "str" | .tuple => "tuple" | .list => "list" | .dict => "dict"
theorem is_rdc {t : Ty} {a : D} {c : Bool} (hK : X.K = Γ.K) (h : isTy t a = some c) :
  ∃ r, CallR X (.builtin "isinstance") r /\ ∀ (S : Store) (H : Hp) (g : G) (x : V) (Q : VK), WOk Γ H g S -> Rdb Γ H g a x -> Q (.bl c) H -> r [x, .ty (tyS t)] H Q := by
 refine ⟨_, call_isinst, fun S H g x Q w hx q => ?_⟩
 have go : ∀ ty, TyOf X.K H x (.type ty) -> PySem.W.kitOne X.K (.type ty) (.type (tyS t)) = some c -> _ := fun ty h1 h2 => (⟨x, tyS t, .type ty, c, rfl, h1, h2, q⟩ : ∃ x' T t' b, [x, V.ty (tyS t)] = [x', .ty T] /\ TyOf X.K H x' t' /\ PySem.W.kitOne X.K t' (.type T) = some b /\ Q (.bl b) H)
 cases a with
 | non => cases h; cases (show x = .non from hx); exact go _ .non (by cases t <;> rfl)
 | bl b => cases (show x = .bl b from hx); exact go _ (.bl b) (by cases t <;> exact h)
 | int b => cases (show x = .int b from hx); exact go _ (.int b) (by cases t <;> exact h)
 | str b => cases (show x = .str b from hx); exact go _ (.str b) (by cases t <;> exact h)
 | tup l => obtain ⟨p, ys, rfl, h1, h2⟩ := hx; exact go _ (.tup (w.rh _ _ h1)) (by cases t <;> exact h)
 | lst l => obtain ⟨p, ys, rfl, h1, h2⟩ := hx; exact go _ (.lst h1) (by cases t <;> exact h)
 | dK ks l => obtain ⟨p, ys, rfl, h1, h2⟩ := hx; exact go _ (.dK h1) (by cases t <;> exact h)
 | _ => cases h
end
end EV
namespace EV
open PySem PySem.Spec PyProof.Rows L2
mutual
noncomputable def sameD : D -> D -> Bool
 | .non, .non => true
 | .bl a, .bl b => a == b
 | .int a, .int b => a == b
 | .str a, .str b => a == b
 | .tup a, .tup b => sameDs a b
 | .ktp a, .ktp b => sameDs a b
 | .fn a, .fn b => a == b
 | _, _ => false
noncomputable def sameDs : List D -> List D -> Bool
 | [], [] => true
 | a :: as, b :: bs => sameD a b && sameDs as bs
 | _, _ => false
end
mutual
theorem sameD_eq : ∀ (a b : D), sameD a b = true -> a = b
 | .non, .non, _ => rfl
 | .bl a, .bl b, h => by rw [eq_of_beq (show (a == b) = true from h)]
 | .int a, .int b, h => by rw [eq_of_beq (show (a == b) = true from h)]
 | .str a, .str b, h => by rw [eq_of_beq (show (a == b) = true from h)]
 | .tup a, .tup b, h => by rw [sameDs_eq a b h]
 | .ktp a, .ktp b, h => by rw [sameDs_eq a b h]
 | .fn a, .fn b, h => by rw [eq_of_beq (show (a == b) = true from h)]
 | .non, .bl _, h => by cases h
 | .non, .int _, h => by cases h
 | .non, .str _, h => by cases h
 | .non, .tup _, h => by cases h
 | .non, .lst _, h => by cases h
 | .non, .dK _ _, h => by cases h
 | .non, .dT _ _, h => by cases h
 | .non, .ref _, h => by cases h
 | .non, .fn _, h => by cases h
 | .non, .scr _, h => by cases h
 | .non, .ktp _, h => by cases h
 | .bl _, .non, h => by cases h
 | .bl _, .int _, h => by cases h
 | .bl _, .str _, h => by cases h
 | .bl _, .tup _, h => by cases h
 | .bl _, .lst _, h => by cases h
 | .bl _, .dK _ _, h => by cases h
 | .bl _, .dT _ _, h => by cases h
 | .bl _, .ref _, h => by cases h
 | .bl _, .fn _, h => by cases h
 | .bl _, .scr _, h => by cases h
 | .bl _, .ktp _, h => by cases h
 | .int _, .non, h => by cases h
 | .int _, .bl _, h => by cases h
 | .int _, .str _, h => by cases h
 | .int _, .tup _, h => by cases h
 | .int _, .lst _, h => by cases h
 | .int _, .dK _ _, h => by cases h
 | .int _, .dT _ _, h => by cases h
 | .int _, .ref _, h => by cases h
 | .int _, .fn _, h => by cases h
 | .int _, .scr _, h => by cases h
 | .int _, .ktp _, h => by cases h
 | .str _, .non, h => by cases h
 | .str _, .bl _, h => by cases h
 | .str _, .int _, h => by cases h
 | .str _, .tup _, h => by cases h
 | .str _, .lst _, h => by cases h
 | .str _, .dK _ _, h => by cases h
 | .str _, .dT _ _, h => by cases h
 | .str _, .ref _, h => by cases h
 | .str _, .fn _, h => by cases h
 | .str _, .scr _, h => by cases h
 | .str _, .ktp _, h => by cases h
 | .tup _, .non, h => by cases h
 | .tup _, .bl _, h => by cases h
 | .tup _, .int _, h => by cases h
 | .tup _, .str _, h => by cases h
 | .tup _, .lst _, h => by cases h
 | .tup _, .dK _ _, h => by cases h
 | .tup _, .dT _ _, h => by cases h
 | .tup _, .ref _, h => by cases h
 | .tup _, .fn _, h => by cases h
 | .tup _, .scr _, h => by cases h
 | .tup _, .ktp _, h => by cases h
 | .ktp _, .non, h => by cases h
 | .ktp _, .bl _, h => by cases h
 | .ktp _, .int _, h => by cases h
 | .ktp _, .str _, h => by cases h
 | .ktp _, .lst _, h => by cases h
 | .ktp _, .dK _ _, h => by cases h
 | .ktp _, .dT _ _, h => by cases h
 | .ktp _, .ref _, h => by cases h
 | .ktp _, .fn _, h => by cases h
 | .ktp _, .scr _, h => by cases h
 | .ktp _, .tup _, h => by cases h
 | .fn _, .non, h => by cases h
 | .fn _, .bl _, h => by cases h
 | .fn _, .int _, h => by cases h
 | .fn _, .str _, h => by cases h
 | .fn _, .lst _, h => by cases h
 | .fn _, .dK _ _, h => by cases h
 | .fn _, .dT _ _, h => by cases h
 | .fn _, .ref _, h => by cases h
 | .fn _, .ktp _, h => by cases h
 | .fn _, .scr _, h => by cases h
 | .fn _, .tup _, h => by cases h
 | .lst _, b, h => by cases b <;> cases h
 | .dK _ _, b, h => by cases b <;> cases h
 | .dT _ _, b, h => by cases b <;> cases h
 | .ref _, b, h => by cases b <;> cases h
 | .scr _, b, h => by cases b <;> cases h
theorem sameDs_eq : ∀ (a b : List D), sameDs a b = true -> a = b
 | [], [], _ => rfl
 | a :: as, b :: bs, h => by
  have h' : (sameD a b && sameDs as bs) = true := h
  rw [Bool.and_eq_true] at h'
  rw [sameD_eq a b h'.1, sameDs_eq as bs h'.2]
 | [], _ :: _, h => by cases h
 | _ :: _, [], h => by cases h
end
structure Tb where
 fns : List Str
 pars : List (List Str)
 consts : List (Str × D)
 bare : List Str
 kws : List (Nat × List Str × List Nat)
structure Cc where
 names : List (Str × NameKind)
 N : List Str
 fn : Bool
noncomputable def visK : Option NameKind -> Bool
 | some .local => true
 | some .cell => true
 | some .free => true
 | _ => false
noncomputable def gloK : Option NameKind -> Bool
 | some .globalImplicit => true
 | _ => false
noncomputable def plainN (x : Str) : Bool := !(x == ("__debug__" : Str)) && !(x == ("__classdict__" : Str)) && !(x == ("__name__" : Str))
noncomputable def notSet : Expr -> Bool
 | .Set _ _ _ => false
 | _ => true
noncomputable def notStar : Expr -> Bool
 | .Starred _ _ => false
 | _ => true
noncomputable def biS : BI -> Str
 | .len => "len" | .abs => "abs" | .int => "int" | .str => "str" | .tuple => "tuple" | .list => "list" | .sum => "sum" | .all => "all" | .any => "any" | .isinst _ => "isinstance" | .min2 => "min" | .max2 => "max" | .sorted => "sorted" | .repr => "repr" | .dict => "dict"
noncomputable def tyN : Ty -> Str
 | .int => "int" | .bool => "bool" | .str => "str" | .tuple => "tuple" | .list => "list" | .dict => "dict"
noncomputable def kwNames : List Keyword -> Option (List Str)
 | [] => some []
 | ⟨some x, _, _⟩ :: r => (kwNames r).map (x :: ·)
 | _ => none
noncomputable def relK (names : List (Str × NameKind)) : List (Str × NameKind) -> List (Str × NameKind) := fun l => l.map fun (n, k) => if (k == .free && names.lookup n == some .cell) then (n, .cell) else (n, k)
noncomputable def namesOf : List Expr -> Option (List Str)
 | [] => some []
 | .Name x _ :: r => (namesOf r).map (x :: ·)
 | _ => none
noncomputable def tgtNames : Expr -> Option (List Str)
 | .Name x _ => some [x]
 | .Tuple es _ _ => namesOf es
 | _ => none
noncomputable def tIs : T -> List Nat
 | .one i => [i]
 | .nst i is => i :: is
 | .tup is => is
noncomputable def isTupE : Expr -> Bool
 | .Tuple _ _ _ => true
 | _ => false
noncomputable def isTupT : T -> Bool
 | .tup _ => true
 | .nst _ _ => true
 | _ => false
noncomputable def stoK (c : Cc) (x : Str) : Bool := match c.names.lookup x with
 | some .local => true
 | some .cell => c.fn
 | _ => false
noncomputable def isNst : T -> Bool
 | .nst _ _ => true
 | _ => false
noncomputable def asNst : Expr -> Option (Str × Pos × List Expr × Nat × Pos × Nat × Pos)
  | .Tuple es k p => (match es with
    | a :: r => (match a with
      | .Name x q => (match r with
        | b :: z => (match z with
          | [] => (match b with
            | .Tuple fs k2 p2 => some (x, q, fs, k2, p2, k, p)
            | _ => none)
          | _ => none)
        | _ => none)
      | _ => none)
    | _ => none)
  | _ => none
noncomputable def chkT (c : Cc) (t : T) (x : Expr) : Bool := if isNst t = true then (match asNst x with
  | some q => (match namesOf q.2.2.1 with
    | some ns => (q.1 :: ns).length == (tIs t).length && ((tIs t).zip (q.1 :: ns)).all fun p => c.N[p.1]? == some p.2 && stoK c p.2
    | none => false)
  | none => false) else isTupE x == isTupT t && (match tgtNames x with
  | some ns => ns.length == (tIs t).length && ((tIs t).zip ns).all fun p => c.N[p.1]? == some p.2 && stoK c p.2
  | none => false)
noncomputable def chkS (c : Cc) (sc : Scope) (js : List Nat) : Bool :=
 (sc.kind == .function) && sc.names.all (fun y => y.2 != .cell) && sc.names.all (fun y => y.2 != .local || sc.names.lookup y.1 == some .local) && sc.names.all (fun y => y.2 != .free || sc.names.lookup y.1 == some .free) &&
 sc.names.all (fun y => y.2 != .free || c.names.lookup y.1 == some .cell || c.names.lookup y.1 == some .free) &&
 js.all fun j => match c.N[j]? with
  | some y => (c.names.lookup y == some .cell || c.names.lookup y == some .free) && sc.names.lookup y == some .free
  | none => false
noncomputable def inner (c : Cc) (sc : Scope) (xs : List Str) (js : List Nat) : Cc := ⟨relK c.names sc.names, xs ++ js.map (fun j => c.N.getD j ""), false⟩
noncomputable def isTupX : Expr -> Bool
 | .Tuple _ _ _ => true
 | _ => false
noncomputable def keyC : Key -> Const -> Bool
 | .inl i, .int j => i == j
 | .inr s, .str t => s == t
 | _, _ => false
noncomputable def chkDk : List Key -> List (Option Expr) -> Bool
 | [], [] => true
 | k :: ks, some (.Constant q _ _) :: r => keyC k q && chkDk ks r
 | _, _ => false
noncomputable def sole {α : Type} : List α -> Option α
  | a :: r => (match r with
    | [] => some a
    | _ => none)
  | _ => none
theorem sole_is {α : Type} {l : List α} {a : α} (h : sole l = some a) : l = [a] := by
 cases l with
 | nil => cases h
 | cons b r =>
  cases r with
  | nil => cases h; rfl
  | cons _ _ => cases h
noncomputable def asName : Expr -> Option (Str × Pos)
 | .Name n p => some (n, p)
 | _ => none
theorem asName_is {x : Expr} {q : Str × Pos} (h : asName x = some q) : x = .Name q.1 q.2 := by
 cases x <;> first | (cases h; rfl) | cases h
noncomputable def asSub : Expr -> Option (Expr × Expr × Pos)
 | .Subscript a b p => some (a, b, p)
 | _ => none
theorem asSub_is {x : Expr} {q : Expr × Expr × Pos} (h : asSub x = some q) : x = .Subscript q.1 q.2.1 q.2.2 := by
 cases x <;> first | (cases h; rfl) | cases h
noncomputable def asAtt : Expr -> Option (Expr × Str × Pos)
 | .Attribute a m p => some (a, m, p)
 | _ => none
theorem asAtt_is {x : Expr} {q : Expr × Str × Pos} (h : asAtt x = some q) : x = .Attribute q.1 q.2.1 q.2.2 := by
 cases x <;> first | (cases h; rfl) | cases h
noncomputable def isNilL {α : Type} : List α -> Bool
 | [] => true
 | _ => false
theorem isNil_is {α : Type} {l : List α} (h : isNilL l = true) : l = [] := by
 cases l with
 | nil => rfl
 | cons _ _ => cases h
noncomputable def isRev : Expr -> Bool
  | .Slice l h st _ => l.isNone && h.isNone && (match st with
    | some (.UnaryOp op (.Constant k _ _) _) => op == .USub && (match k with
      | .int i => i == 1
      | _ => false)
    | _ => false)
  | _ => false
noncomputable def mtS : MT -> Str
 | .get1 => "get" | .get2 => "get" | .index => "index" | .join => "join" | .split => "split"
noncomputable def plainO : Expr -> Bool
 | .Call _ _ _ _ => false
 | _ => true
noncomputable def plainC : Expr -> Bool
 | .Call _ (_ :: _) _ _ => true
 | x => plainO x
noncomputable def plainB : Expr -> Bool
 | .Call _ _ _ _ => true
 | .List _ _ => true
 | .Dict _ _ _ => true
 | .BinOp _ _ _ _ => true
 | _ => false
mutual
noncomputable def chkE (B : Tb) (c : Cc) : E -> Expr -> Bool
  | .var i, .Name x _ => c.N[i]? == some x && visK (c.names.lookup x) && plainN x
  | .con d, .Constant k _ _ => match d, k with
    | .non, .none => true
    | .bl a, .bool b => a == b
    | .int a, .int b => a == b
    | .str a, .str b => a == b
    | _, _ => false
  | .glo n d, .Name x _ => (match B.consts[n]? with
    | some p => p.1 == x && sameD p.2 d
    | none => false) && gloK (c.names.lookup x) && plainN x
  | .bin op a b, .BinOp x op' y _ => op == op' && chkE B c a x && chkE B c b y
  | .neg a, .UnaryOp op x _ => op == .USub && chkE B c a x
  | .cmp op a b, .Compare x [op'] [y] _ => op == op' && chkE B c a x && chkE B c b y && notSet y
  | .not a, .UnaryOp op x _ => op == .Not && chkE B c a x
  | .and a b, .BoolOp op (x :: y :: r) p => op == .And && chkE B c a x && chkE B c b (.BoolOp .And (y :: r) p)
  | .or a b, .BoolOp op (x :: y :: r) p => op == .Or && chkE B c a x && chkE B c b (.BoolOp .Or (y :: r) p)
  | .one a, .BoolOp op [x] _ => chkE B c a x
  | .ite t a b, .IfExp x y z _ => chkE B c t x && chkE B c a y && chkE B c b z
  | .tup es, .Tuple xs _ _ => chkEs B c es xs
  | .lst es, .List xs _ => chkEs B c es xs
  | .sub a i, .Subscript x y _ => chkE B c a x && chkE B c i y
  | .slc a lo hi, .Subscript x (.Slice l h none _) _ => chkE B c a x && chkO B c lo l && chkO B c hi h
  | .bi b es, .Call (.Name x _) args [] _ => (match b with
    | .isinst t => x == ("isinstance" : Str) && B.bare.contains x && B.bare.contains (tyN t) && gloK (c.names.lookup x) && (match es, args with
      | [e], [y, .Name z _] => chkE B c e y && notStar y && z == tyN t && gloK (c.names.lookup z)
      | _, _ => false)
    | b => x == biS b && B.bare.contains x && gloK (c.names.lookup x) && chkEs B c es args && !es.isEmpty)
  | .call f es, .Call (.Name x _) args [] _ => B.fns[f]? == some x && gloK (c.names.lookup x) && plainN x && chkEs B c es args && !es.isEmpty
  | .callk f perm es, .Call (.Name x _) [] kws _ => B.fns[f]? == some x && gloK (c.names.lookup x) && plainN x && chkKs B c es kws && (match kwNames kws, B.pars[f]? with
    | some ks, some ps => perm.length == ps.length && perm.all (· < ks.length) && perm.map (fun i => ks.getD i "") == ps && ks.length == ps.length && B.kws.contains (f, ks, perm)
    | _, _ => false)
  | .mth m o es, .Call f args kws cp => (match asAtt f with
    | some q => q.2.1 == mtS m && chkE B c o q.1 && chkEs B c es args && isNilL kws && q.2.2.endLine == cp.line && plainC q.1 && decide (1 <= es.length) && decide (es.length <= 9)
    | none => false)
  | .flip e, .Subscript x y _ => chkE B c e x && isRev y
  | .box e, x => plainB x && chkE B c e x
  | .comp t js it ifs elt, .ListComp y [⟨tgt, iter, cs, k⟩] sc _ => k == 0 && chkS c sc js && chkI B c it tgt iter && notSet iter && (match tgtNames tgt with
    | some xs => decide ((xs ++ js.map (fun j => c.N.getD j "")).Nodup) && nT t == xs.length && tIs t == List.range xs.length && chkT (inner c sc xs js) t tgt && chkE B (inner c sc xs js) elt y && chkFs B (inner c sc xs js) ifs cs && decide (ifs.length <= 1)
    | none => false)
  | _, _ => false
noncomputable def chkI (B : Tb) (c : Cc) : E -> Expr -> Expr -> Bool
 | .seq e, _, x => chkE B c e x
 | .rng none hi, _, .Call (.Name f _) [y] [] _ => f == ("range" : Str) && B.bare.contains f && gloK (c.names.lookup f) && chkE B c hi y && notStar y
 | _, _, _ => false
noncomputable def chkEs (B : Tb) (c : Cc) : List E -> List Expr -> Bool
 | [], [] => true
 | e :: es, x :: xs => chkE B c e x && notStar x && chkEs B c es xs
 | _, _ => false
noncomputable def chkFs (B : Tb) (c : Cc) : List E -> List Expr -> Bool
 | [], [] => true
 | e :: es, x :: xs => chkE B c e x && chkFs B c es xs
 | _, _ => false
noncomputable def chkO (B : Tb) (c : Cc) : Option E -> Option Expr -> Bool
 | none, none => true
 | some e, some x => chkE B c e x
 | _, _ => false
noncomputable def chkKs (B : Tb) (c : Cc) : List E -> List Keyword -> Bool
 | [], [] => true
 | e :: es, ⟨some _, x, _⟩ :: xs => chkE B c e x && chkKs B c es xs
 | _, _ => false
end
theorem ofBoolOp {x : PySem.Expr} {Q : PySem.Expr -> Prop} (h : Nat.beq x.ctorIdx 0 = true) (f : ∀ a0 a1 a2, Q (.BoolOp a0 a1 a2)) : Q x := by
 revert h
 cases x with
 | BoolOp a0 a1 a2 => exact fun _ => f a0 a1 a2
 | _ => exact nobE
theorem ofBinOp {x : PySem.Expr} {Q : PySem.Expr -> Prop} (h : Nat.beq x.ctorIdx 2 = true) (f : ∀ a0 a1 a2 a3, Q (.BinOp a0 a1 a2 a3)) : Q x := by
 revert h
 cases x with
 | BinOp a0 a1 a2 a3 => exact fun _ => f a0 a1 a2 a3
 | _ => exact nobE
theorem ofUnaryOp {x : PySem.Expr} {Q : PySem.Expr -> Prop} (h : Nat.beq x.ctorIdx 3 = true) (f : ∀ a0 a1 a2, Q (.UnaryOp a0 a1 a2)) : Q x := by
 revert h
 cases x with
 | UnaryOp a0 a1 a2 => exact fun _ => f a0 a1 a2
 | _ => exact nobE
theorem ofIfExp {x : PySem.Expr} {Q : PySem.Expr -> Prop} (h : Nat.beq x.ctorIdx 5 = true) (f : ∀ a0 a1 a2 a3, Q (.IfExp a0 a1 a2 a3)) : Q x := by
 revert h
 cases x with
 | IfExp a0 a1 a2 a3 => exact fun _ => f a0 a1 a2 a3
 | _ => exact nobE
theorem ofDict {x : PySem.Expr} {Q : PySem.Expr -> Prop} (h : Nat.beq x.ctorIdx 6 = true) (f : ∀ a0 a1 a2, Q (.Dict a0 a1 a2)) : Q x := by
 revert h
 cases x with
 | Dict a0 a1 a2 => exact fun _ => f a0 a1 a2
 | _ => exact nobE
theorem ofListComp {x : PySem.Expr} {Q : PySem.Expr -> Prop} (h : Nat.beq x.ctorIdx 8 = true) (f : ∀ a0 a1 a2 a3, Q (.ListComp a0 a1 a2 a3)) : Q x := by
 revert h
 cases x with
 | ListComp a0 a1 a2 a3 => exact fun _ => f a0 a1 a2 a3
 | _ => exact nobE
theorem ofCompare {x : PySem.Expr} {Q : PySem.Expr -> Prop} (h : Nat.beq x.ctorIdx 15 = true) (f : ∀ a0 a1 a2 a3, Q (.Compare a0 a1 a2 a3)) : Q x := by
 revert h
 cases x with
 | Compare a0 a1 a2 a3 => exact fun _ => f a0 a1 a2 a3
 | _ => exact nobE
theorem ofCall {x : PySem.Expr} {Q : PySem.Expr -> Prop} (h : Nat.beq x.ctorIdx 16 = true) (f : ∀ a0 a1 a2 a3, Q (.Call a0 a1 a2 a3)) : Q x := by
 revert h
 cases x with
 | Call a0 a1 a2 a3 => exact fun _ => f a0 a1 a2 a3
 | _ => exact nobE
theorem ofConstant {x : PySem.Expr} {Q : PySem.Expr -> Prop} (h : Nat.beq x.ctorIdx 19 = true) (f : ∀ a0 a1 a2, Q (.Constant a0 a1 a2)) : Q x := by
 revert h
 cases x with
 | Constant a0 a1 a2 => exact fun _ => f a0 a1 a2
 | _ => exact nobE
theorem ofSubscript {x : PySem.Expr} {Q : PySem.Expr -> Prop} (h : Nat.beq x.ctorIdx 21 = true) (f : ∀ a0 a1 a2, Q (.Subscript a0 a1 a2)) : Q x := by
 revert h
 cases x with
 | Subscript a0 a1 a2 => exact fun _ => f a0 a1 a2
 | _ => exact nobE
theorem ofName {x : PySem.Expr} {Q : PySem.Expr -> Prop} (h : Nat.beq x.ctorIdx 23 = true) (f : ∀ a0 a1, Q (.Name a0 a1)) : Q x := by
 revert h
 cases x with
 | Name a0 a1 => exact fun _ => f a0 a1
 | _ => exact nobE
theorem ofList {x : PySem.Expr} {Q : PySem.Expr -> Prop} (h : Nat.beq x.ctorIdx 24 = true) (f : ∀ a0 a1, Q (.List a0 a1)) : Q x := by
 revert h
 cases x with
 | List a0 a1 => exact fun _ => f a0 a1
 | _ => exact nobE
theorem ofTuple {x : PySem.Expr} {Q : PySem.Expr -> Prop} (h : Nat.beq x.ctorIdx 25 = true) (f : ∀ a0 a1 a2, Q (.Tuple a0 a1 a2)) : Q x := by
 revert h
 cases x with
 | Tuple a0 a1 a2 => exact fun _ => f a0 a1 a2
 | _ => exact nobE
theorem ofSlice {x : PySem.Expr} {Q : PySem.Expr -> Prop} (h : Nat.beq x.ctorIdx 26 = true) (f : ∀ a0 a1 a2 a3, Q (.Slice a0 a1 a2 a3)) : Q x := by
 revert h
 cases x with
 | Slice a0 a1 a2 a3 => exact fun _ => f a0 a1 a2 a3
 | _ => exact nobE
theorem ofSAssign {x : PySem.Stmt} {Q : PySem.Stmt -> Prop} (h : Nat.beq x.ctorIdx 5 = true) (f : ∀ a0 a1 a2, Q (.Assign a0 a1 a2)) : Q x := by
 revert h
 cases x with
 | Assign a0 a1 a2 => exact fun _ => f a0 a1 a2
 | _ => exact nobE
theorem ofSExpr {x : PySem.Stmt} {Q : PySem.Stmt -> Prop} (h : Nat.beq x.ctorIdx 24 = true) (f : ∀ a0 a1, Q (.Expr a0 a1)) : Q x := by
 revert h
 cases x with
 | Expr a0 a1 => exact fun _ => f a0 a1
 | _ => exact nobE
theorem ofSReturn {x : PySem.Stmt} {Q : PySem.Stmt -> Prop} (h : Nat.beq x.ctorIdx 3 = true) (f : ∀ a0 a1, Q (.Return a0 a1)) : Q x := by
 revert h
 cases x with
 | Return a0 a1 => exact fun _ => f a0 a1
 | _ => exact nobE
theorem ofSIf {x : PySem.Stmt} {Q : PySem.Stmt -> Prop} (h : Nat.beq x.ctorIdx 12 = true) (f : ∀ a0 a1 a2 a3, Q (.If a0 a1 a2 a3)) : Q x := by
 revert h
 cases x with
 | If a0 a1 a2 a3 => exact fun _ => f a0 a1 a2 a3
 | _ => exact nobE
theorem ofSWhile {x : PySem.Stmt} {Q : PySem.Stmt -> Prop} (h : Nat.beq x.ctorIdx 11 = true) (f : ∀ a0 a1 a2 a3, Q (.While a0 a1 a2 a3)) : Q x := by
 revert h
 cases x with
 | While a0 a1 a2 a3 => exact fun _ => f a0 a1 a2 a3
 | _ => exact nobE
theorem ofSFor {x : PySem.Stmt} {Q : PySem.Stmt -> Prop} (h : Nat.beq x.ctorIdx 9 = true) (f : ∀ a0 a1 a2 a3 a4, Q (.For a0 a1 a2 a3 a4)) : Q x := by
 revert h
 cases x with
 | For a0 a1 a2 a3 a4 => exact fun _ => f a0 a1 a2 a3 a4
 | _ => exact nobE
theorem ofSPass {x : PySem.Stmt} {Q : PySem.Stmt -> Prop} (h : Nat.beq x.ctorIdx 25 = true) (f : ∀ a0, Q (.Pass a0)) : Q x := by
 revert h
 cases x with
 | Pass a0 => exact fun _ => f a0
 | _ => exact nobE
theorem ofSBreak {x : PySem.Stmt} {Q : PySem.Stmt -> Prop} (h : Nat.beq x.ctorIdx 26 = true) (f : ∀ a0, Q (.Break a0)) : Q x := by
 revert h
 cases x with
 | Break a0 => exact fun _ => f a0
 | _ => exact nobE
theorem ofSContinue {x : PySem.Stmt} {Q : PySem.Stmt -> Prop} (h : Nat.beq x.ctorIdx 27 = true) (f : ∀ a0, Q (.Continue a0)) : Q x := by
 revert h
 cases x with
 | Continue a0 => exact fun _ => f a0
 | _ => exact nobE
end EV
namespace EV
open PySem PySem.Spec PyProof.Rows L2
structure EnvO (Γ : Gm) (H₀ H : Hp) (g : G) (ρ : List Slot) (σ : L2.St) : Prop where
 len : ρ.length = σ.length
 sh : ∀ (i : Nat) (d : D), ρ[i]? = some (.sh d) -> ∃ v, σ[i]? = some (some v) /\ Has Γ g d v
 ow : ∀ (i : Nat) (d : D), ρ[i]? = some (.ow d) -> ∃ a, σ[i]? = some (some (.ref a)) /\ H₀ a = none /\ g.R a = none /\ a ∉ g.α /\ CellOk Γ H g a d /\ isIns d = false
 inj : ∀ (i j : Nat) (d e : D) (a : Addr), ρ[i]? = some (.ow d) -> ρ[j]? = some (.ow e) -> σ[i]? = some (some (.ref a)) -> σ[j]? = some (some (.ref a)) -> i = j
section
variable {Γ : Gm} {H H' : Hp} {g g' : G} {S : Store} {a : Addr}
theorem WOk.off_upd {o : HO} (w : WOk Γ H g S) (hr : g.R a = none) (ha : a ∉ g.α) : WOk Γ (upd H a o) g S where
 rh := fun b u q => by
  have e := w.rh b u q
  have : b ≠ a := by rintro rfl; rw [hr] at q; cases q
  rw [upd_ne this]; exact e
 len := w.len
 nd := w.nd
 off := w.off
 cell := fun k c b h1 h2 => (w.cell k c b h1 h2).mono (Le.refl g) fun o e => by
  have : b ≠ a := by rintro rfl; exact ha (List.mem_of_getElem? h2)
  rw [upd_ne this]; exact e
theorem Step.off_upd {o : HO} (s : Step H g H' g') (h : H a = none) : Step H g (upd H' a o) g' where
 le := s.le
 fr := fun b u e n => by rw [upd_ne (ne_of_none e h)]; exact s.fr b u e n
 ex := fun b u e => by rw [upd_ne (ne_of_none e h)]; exact s.ex b u e
 na := s.na
 nr := s.nr
theorem Step.kept {o : HO} (s : Step H g H' g') (h : H a = some o) (hr : g.R a = none) (ha : a ∉ g.α) : H' a = some o /\ g'.R a = none /\ a ∉ g'.α := by
 refine ⟨s.fr a o h ha, ?_, fun m => ?_⟩
 ·cases q : g'.R a with
  | none => rfl
  | some u =>
   rcases s.nr a (by rw [q]; simp) with z | z
   ·exact absurd hr z
   ·rw [h] at z; cases z
 ·rcases s.na a m with z | z
  ·exact ha z
  ·rw [h] at z; cases z
end
section
variable {Γ : Gm} {H₀ H H' : Hp} {g g' : G} {S : Store} {ρ : List Slot} {σ : L2.St}
theorem env_step (env : EnvO Γ H₀ H g ρ σ) (st : Step H g H' g') : EnvO Γ H₀ H' g' ρ σ := by
 refine ⟨env.len, fun i d h => ?_, fun i d h => ?_, env.inj⟩
 ·obtain ⟨v, h1, h2⟩ := env.sh i d h
  exact ⟨v, h1, h2.mono st.le⟩
 ·obtain ⟨a, h1, h2, h3, h4, h5, h6⟩ := env.ow i d h
  obtain ⟨o, ho, _⟩ := h5.isMut
  obtain ⟨k1, k2, k3⟩ := st.kept ho h3 h4
  exact ⟨a, h1, h2, k2, k3, h5.mono st.le fun o' z => by rw [ho] at z; cases z; exact k1, h6⟩
noncomputable def VN (Γ : Gm) (Hb : Hp) (x : Vl) (v : V) (H : Hp) (g : G) : Prop := match x.2 with
 | .st => Has Γ g x.1 v
 | .fr => ∃ a, v = .ref a /\ Hb a = none /\ g.R a = none /\ a ∉ g.α /\ CellOk Γ H g a x.1
 | .bo => ∃ a, v = .ref a /\ g.R a = none /\ a ∉ g.α /\ CellOk Γ H g a x.1
theorem VN.of {Hb : Hp} {d : D} {fr : Bool} {v : V} (h : VOk Γ Hb d fr v H g) : VN Γ Hb (ofB (d, fr)) v H g := by
 cases fr <;> exact h
theorem VN.back {H1 : Hp} {g1 : G} {x : Vl} {v : V} (h : VN Γ H1 x v H' g') (s : Step H g H1 g1) : VN Γ H x v H' g' := by
 obtain ⟨d, k⟩ := x
 cases k with
 | fr =>
  obtain ⟨a, e, h0, r⟩ := h
  exact ⟨a, e, s.noneOf h0, r⟩
 | _ => exact h
theorem VN.step {Hb : Hp} {x : Vl} {v : V} (h : VN Γ Hb x v H g) (s : Step H g H' g') : VN Γ Hb x v H' g' := by
 obtain ⟨d, k⟩ := x
 cases k with
 | st => exact (show Has Γ g d v from h).mono s.le
 | fr =>
  obtain ⟨a, e, h0, h1, h2, h3⟩ := h
  obtain ⟨o, ho, _⟩ := h3.isMut
  obtain ⟨k1, k2, k3⟩ := s.kept ho h1 h2
  exact ⟨a, e, h0, k2, k3, h3.mono s.le fun o' q => by rw [ho] at q; cases q; exact k1⟩
 | bo =>
  obtain ⟨a, e, h1, h2, h3⟩ := h
  obtain ⟨o, ho, _⟩ := h3.isMut
  obtain ⟨k1, k2, k3⟩ := s.kept ho h1 h2
  exact ⟨a, e, k2, k3, h3.mono s.le fun o' q => by rw [ho] at q; cases q; exact k1⟩
theorem cell_rdb {a : Addr} {d : D} (h : CellOk Γ H g a d) : Rdb Γ H g (deref S d) (.ref a) := by
 cases d with
 | lst ds => obtain ⟨vs, h1, h2⟩ := h; exact ⟨a, vs, rfl, h1, h2⟩
 | dK ks ds => obtain ⟨vs, h1, h3, h2⟩ := h; exact ⟨a, vs, rfl, h1, h3, h2⟩
 | dT ks ds => obtain ⟨vs, h1, h3, h2⟩ := h; exact ⟨a, vs, rfl, h1, h3, h2⟩
 | _ => exact h.elim
theorem VN.rdb {Hb : Hp} {x : Vl} {v : V} (h : VN Γ Hb x v H g) (w : WOk Γ H g S) : Rdb Γ H g (deref S x.1) v := by
 obtain ⟨d, k⟩ := x
 cases k with
 | st => exact rdb_of w h
 | fr => obtain ⟨a, rfl, _, _, _, h3⟩ := h; exact cell_rdb h3
 | bo => obtain ⟨a, rfl, _, _, h3⟩ := h; exact cell_rdb h3
theorem VN.sc {Hb : Hp} {d : D} {k : Kd} {v : V} (h : VN Γ Hb (d, k) v H g) (hc : ∀ a, ¬ CellOk Γ H g a d) : Has Γ g d v := by
 cases k with
 | st => exact h
 | fr => obtain ⟨a, _, _, _, _, h3⟩ := h; exact (hc a h3).elim
 | bo => obtain ⟨a, _, _, _, h3⟩ := h; exact (hc a h3).elim
theorem VN.keep {x : Vl} {v : V} {Q : D -> Prop} (h : VN Γ H x v H' g') (st : Step H g H' g') (w : WOk Γ H' g' S) (k : EV.keep x Q) : ∃ g2, Step H g H' g2 /\ WOk Γ H' g2 S /\ Has Γ g2 x.1 v /\ Q x.1 := by
 obtain ⟨d, kk⟩ := x
 cases kk with
 | st => exact ⟨g', st, w, h, k⟩
 | fr =>
  obtain ⟨g2, a, b, c, _⟩ := freeze (fr := true) st w h rfl
  exact ⟨g2, a, b, c, k⟩
 | bo => exact k.elim
end
noncomputable def TX (Γ : Gm) (cf : Cf) (e : E) : TE := fun σ H Q => ∃ ρ S V g H₀, wpE cf ρ e V S /\ WOk Γ H g S /\ EnvO Γ H₀ H g ρ σ /\ ∀ x v H' g' S', Step H g H' g' -> WOk Γ H' g' S' -> VN Γ H x v H' g' -> V x S' -> Q v H'
noncomputable def TB (Γ : Gm) (cf : Cf) (e : E) : TT := fun σ H Q => ∃ ρ S V g H₀, wpE cf ρ e V S /\ WOk Γ H g S /\ EnvO Γ H₀ H g ρ σ /\ ∀ x H' g' S', Step H g H' g' -> WOk Γ H' g' S' -> V x S' -> isB x.1 fun b => Q b H'
noncomputable def TXs (Γ : Gm) (cf : Cf) (es : List E) : TA := fun σ H Q => ∃ ρ S W g H₀, wpEs cf ρ es W S /\ WOk Γ H g S /\ EnvO Γ H₀ H g ρ σ /\ ∀ ds vs H' g' S', Step H g H' g' -> WOk Γ H' g' S' -> Hass Γ g' ds vs -> W ds S' -> Q vs H'
noncomputable def TXo (Γ : Gm) (cf : Cf) (o : Option E) : TO := fun σ H Q => ∃ ρ S W g H₀, wpO cf ρ o W S /\ WOk Γ H g S /\ EnvO Γ H₀ H g ρ σ /\ ∀ i H' g' S', Step H g H' g' -> WOk Γ H' g' S' -> W i S' -> Q i H'
section
variable {Γ : Gm} {cf : Cf} {σ : L2.St} {H : Hp} {P : Prop}
theorem goX {e : E} {Q : VK} (h : TX Γ cf e σ H Q) (f : ∀ ρ S V g H₀, wpE cf ρ e V S -> WOk Γ H g S -> EnvO Γ H₀ H g ρ σ -> (∀ x v H' g' S', Step H g H' g' -> WOk Γ H' g' S' -> VN Γ H x v H' g' -> V x S' -> Q v H') -> P) : P :=
 let ⟨ρ, S, V, g, H₀, a, b, c, d⟩ := h; f ρ S V g H₀ a b c d
theorem goB {e : E} {Q} (h : TB Γ cf e σ H Q) (f : ∀ ρ S V g H₀, wpE cf ρ e V S -> WOk Γ H g S -> EnvO Γ H₀ H g ρ σ -> (∀ x H' g' S', Step H g H' g' -> WOk Γ H' g' S' -> V x S' -> isB x.1 fun b => Q b H') -> P) : P :=
 let ⟨ρ, S, V, g, H₀, a, b, c, d⟩ := h; f ρ S V g H₀ a b c d
theorem goS {es : List E} {Q} (h : TXs Γ cf es σ H Q) (f : ∀ ρ S W g H₀, wpEs cf ρ es W S -> WOk Γ H g S -> EnvO Γ H₀ H g ρ σ -> (∀ ds vs H' g' S', Step H g H' g' -> WOk Γ H' g' S' -> Hass Γ g' ds vs -> W ds S' -> Q vs H') -> P) : P :=
 let ⟨ρ, S, V, g, H₀, a, b, c, d⟩ := h; f ρ S V g H₀ a b c d
theorem goO {o : Option E} {Q} (h : TXo Γ cf o σ H Q) (f : ∀ ρ S W g H₀, wpO cf ρ o W S -> WOk Γ H g S -> EnvO Γ H₀ H g ρ σ -> (∀ i H' g' S', Step H g H' g' -> WOk Γ H' g' S' -> W i S' -> Q i H') -> P) : P :=
 let ⟨ρ, S, V, g, H₀, a, b, c, d⟩ := h; f ρ S V g H₀ a b c d
end
noncomputable def rAny (X : Cx) (f : Value -> Value -> Sem Value) : R2 := fun x y H Q => ∃ r, OpR X f r /\ r x y H Q
theorem opAny {X : Cx} {f : Value -> Value -> Sem Value} : OpR X f (rAny X f) := fun pins s σ H x y v u Q I rx ry ⟨_, h, q⟩ => h pins s σ H x y v u Q I rx ry q
noncomputable def ixAny (X : Cx) : R2 := fun x y H Q => ∃ r, IxR X r /\ r x y H Q
theorem ix_any {X : Cx} : IxR X (ixAny X) := fun a b pins s σ H x y v u Q I rx ry ⟨_, h, q⟩ => h a b pins s σ H x y v u Q I rx ry q
noncomputable def slAny (X : Cx) : V -> Option Int -> Option Int -> Hp -> VK -> Prop := fun x l u H Q => ∃ r, SlR X r /\ r x l u H Q
theorem sl_any {X : Cx} : SlR X (slAny X) := fun pins s σ H x v vl vu lo hi sl Q I rx hs pl pu ⟨_, h, q⟩ => h pins s σ H x v vl vu lo hi sl Q I rx hs pl pu q
noncomputable def clAny (X : Cx) (f : Value) : List V -> Hp -> VK -> Prop := fun xs H Q => ∃ r, CallR X f r /\ r xs H Q
theorem cl_any {X : Cx} {f : Value} : CallR X f (clAny X f) := fun pins s σ H xs us Q I rv ⟨_, h, q⟩ => h pins s σ H xs us Q I rv q
section
variable {X : Cx} {Γ : Gm} {cf : Cf} {x y z : Expr} {pos p : Pos} {a b c : E}
theorem s_var {i : Nat} {n : Str} (hN : X.N[i]? = some n) (hv : Vis X.env.scope n) (hd : (n == ("__debug__" : Str)) = false) (hcd : (n == ("__classdict__" : Str)) = false) : PE X (.Name n pos) (TX Γ cf (.var i)) := by
 refine (pe_var hN hv hd hcd).imp fun σ H Q h0 => goX h0 fun ρ S V g H₀ hw w env k => ?_
 have hw : sel ρ[i]? (fun d => V (d, .st) S) (fun d => V (d, .bo) S) := hw
 cases e : ρ[i]? with
 | none => rw [e] at hw; exact hw.elim
 | some s =>
  rw [e] at hw
  cases s with
  | no => exact hw.elim
  | sh d =>
   obtain ⟨v, h1, h2⟩ := env.sh i d e
   exact ⟨v, h1, k (d, .st) v H g S (Step.refl H g) w h2 hw⟩
  | ow d =>
   obtain ⟨a, h1, h2, h3, h4, h5, _⟩ := env.ow i d e
   exact ⟨_, h1, k (d, .bo) _ H g S (Step.refl H g) w ⟨a, rfl, h3, h4, h5⟩ hw⟩
theorem s_con {t : V} {d : D} {e : E} (h : PE X x (tC t)) (hd : ∀ g, Has Γ g d t) (he : ∀ ρ V S, wpE cf ρ e V S -> V (d, .st) S) : PE X x (TX Γ cf e) := h.imp fun σ H Q h0 => goX h0 fun ρ S V g H₀ hw w env k => k (d, .st) _ H g S (Step.refl H g) w (hd g) (he _ _ _ hw)
theorem two {G1 : V -> V -> Hp -> Prop} {σ : L2.St} {H : Hp} {ρ : List Slot} {S : Store} {g : G} {H₀ : Hp} {W : Vl -> Vl -> Store -> Prop} (hw : wpE cf ρ a (fun x S1 => wpE cf ρ b (fun y S2 => W x y S2) S1) S) (w : WOk Γ H g S) (env : EnvO Γ H₀ H g ρ σ)
  (k : ∀ x y u v H' g' S', Step H g H' g' -> WOk Γ H' g' S' -> VN Γ H x u H' g' -> VN Γ H y v H' g' -> W x y S' -> G1 u v H') : TX Γ cf a σ H fun u H1 => TX Γ cf b σ H1 fun v H2 => G1 u v H2 :=
 ⟨ρ, S, _, g, H₀, hw, w, env, fun x u H1 g1 S1 st1 w1 v1 h1 => ⟨ρ, S1, _, g1, H₀, h1, w1, env_step env st1, fun y v H2 g2 S2 st2 w2 v2 h2 => k x y u v H2 g2 S2 (st1.trans st2) w2 (v1.step st2) (v2.back st1) h2⟩⟩
theorem s_bin {op : Operator} (hK : X.K = Γ.K) (ha : PE X x (TX Γ cf a)) (hb : PE X y (TX Γ cf b)) : PE X (.BinOp x op y pos) (TX Γ cf (.bin op a b)) :=
 (pe_op opAny ha hb).imp fun σ H Q h0 => goX h0 fun ρ S V g H₀ hw w env k => two hw w env fun x y u v H' g' S' st w' vx vy h => by
  have h : opt (opD op (deref S' x.1) (deref S' y.1)) (fun p => V (ofB p) S') := h
  cases eo : opD op (deref S' x.1) (deref S' y.1) with
  | none => rw [eo] at h; exact h.elim
  | some p =>
   rw [eo] at h
   obtain ⟨r, h1, h2⟩ := op_rdo (X := X) hK eo
   exact ⟨r, h1, h2 S' H' g' u v Q w' (vx.rdb w') (vy.rdb w') fun t H2 g2 st2 _ w2 vo => k _ t H2 g2 S' (st.trans st2) w2 ((VN.of vo).back st) h⟩
theorem cmp2 {op : CmpOp} {u v : V} {dx dy : Vl} {Hb H' : Hp} {g' : G} {S' : Store} {Q : VK} {T : Bool -> Prop} (hK : X.K = Γ.K) (hu : X.A.units + 61 < cLine) (w' : WOk Γ H' g' S') (vx : VN Γ Hb dx u H' g') (vy : VN Γ Hb dy v H' g') (h : opt (cmpD op (deref S' dx.1) (deref S' dy.1)) T)
  (k : ∀ r H2 g2, Step H' g' H2 g2 -> WOk Γ H2 g2 S' -> T r -> Q (.bl r) H2) : rAny X (compareOp op) u v H' Q := by
 cases eo : cmpD op (deref S' dx.1) (deref S' dy.1) with
 | none => rw [eo] at h; exact h.elim
 | some r =>
  rw [eo] at h
  obtain ⟨r2, h1, h2⟩ := cmp_rdo (X := X) hK hu eo
  refine ⟨r2, h1, h2 S' H' g' u v Q w' (vx.rdb w') (vy.rdb w') fun t H2 g2 st2 _ w2 vo => ?_⟩
  cases (show t = .bl r from vo)
  exact k r H2 g2 st2 w2 h
theorem s_cmp {op : CmpOp} (hK : X.K = Γ.K) (hu : X.A.units + 61 < cLine) (ha : PE X x (TX Γ cf a)) (hb : PE X y (TX Γ cf b)) (hm : behindInMarks op y = false) : PE X (.Compare x [op] [y] pos) (TX Γ cf (.cmp op a b)) /\ PT X (.Compare x [op] [y] pos) (TB Γ cf (.cmp op a b)) :=
 ⟨(pe_cmpR opAny ha hb hm).imp fun σ H Q h0 => goX h0 fun ρ S V g H₀ hw w env k => two hw w env fun x y u v H' g' S' st w' vx vy h => cmp2 hK hu w' vx vy h fun r H2 g2 st2 w2 h => k (.bl r, .st) _ H2 g2 S' (st.trans st2) w2 rfl h,
 (pt_cmpR opAny ha hb hm).imp fun σ H Q h0 => goB h0 fun ρ S V g H₀ hw w env k => two hw w env fun x y u v H' g' S' st w' vx vy h => cmp2 hK hu w' vx vy h fun r H2 g2 st2 w2 h => ⟨r, rfl, k (.bl r, .st) H2 g2 S' (st.trans st2) w2 h⟩⟩
theorem isB_is {d : D} {Q : Bool -> Prop} (h : isB d Q) : ∃ b, d = .bl b /\ Q b := by
 cases d with
 | bl b => exact ⟨b, rfl, h⟩
 | _ => exact h.elim
theorem isZ_is {d : D} {Q : Int -> Prop} (h : isZ d Q) : ∃ b, d = .int b /\ Q b := by
 cases d with
 | int b => exact ⟨b, rfl, h⟩
 | _ => exact h.elim
theorem VN.bl {Hb H : Hp} {g : G} {x : Vl} {v : V} {Q : Bool -> Prop} (h : VN Γ Hb x v H g) (k : isB x.1 Q) : ∃ b, v = .bl b /\ Q b := by
 obtain ⟨d, kk⟩ := x
 obtain ⟨b, rfl, q⟩ := isB_is k
 exact ⟨b, h.sc fun _ z => z.elim, q⟩
theorem VN.int {Hb H : Hp} {g : G} {x : Vl} {v : V} {Q : Int -> Prop} (h : VN Γ Hb x v H g) (k : isZ x.1 Q) : ∃ b, v = .int b /\ Q b := by
 obtain ⟨d, kk⟩ := x
 obtain ⟨b, rfl, q⟩ := isZ_is k
 exact ⟨b, h.sc fun _ z => z.elim, q⟩
theorem s_neg (h : PE X x (TX Γ cf a)) : PE X (.UnaryOp .USub x pos) (TX Γ cf (.neg a)) :=
 (pe_un un_neg h).imp fun σ H Q h0 => goX h0 fun ρ S V g H₀ hw w env k => ⟨ρ, S, _, g, H₀, hw, w, env, fun x v H' g' S' st w' vx h => by
  obtain ⟨i, e, q⟩ := vx.int h
  exact ⟨i, e, k (.int (-i), .st) _ H' g' S' st w' rfl q⟩⟩
theorem s_test (h : PE X x (TX Γ cf a)) (he : ∀ whole, isTrue x X.env whole = (do let v <- whole; standAt x.pos; holding [v] (truthy v))) : PT X x (TB Γ cf a) :=
 (pt_val h he).imp fun σ H Q h0 => goB h0 fun ρ S V g H₀ hw w env k => ⟨ρ, S, _, g, H₀, hw, w, env, fun x v H' g' S' st w' vx h => vx.bl (k x H' g' S' st w' h)⟩
theorem s_notT (h : PT X x (TB Γ cf a)) : PT X (.UnaryOp .Not x pos) (TB Γ cf (.not a)) :=
 (pt_not h).imp fun σ H Q h0 => goB h0 fun ρ S V g H₀ hw w env k => ⟨ρ, S, _, g, H₀, hw, w, env, fun x H' g' S' st w' h => by
  obtain ⟨b, e, q⟩ := isB_is h
  rw [e]
  exact k (.bl (!b), .st) H' g' S' st w' q⟩
theorem s_not (h : PE X x (TX Γ cf a)) : PE X (.UnaryOp .Not x pos) (TX Γ cf (.not a)) :=
 (pe_not h).imp fun σ H Q h0 => goX h0 fun ρ S V g H₀ hw w env k => ⟨ρ, S, _, g, H₀, hw, w, env, fun x v H' g' S' st w' vx h => by
  obtain ⟨b, e, q⟩ := vx.bl h
  exact ⟨b, e, k (.bl (!b), .st) _ H' g' S' st w' rfl q⟩⟩
end
end EV
namespace EV
open PySem PySem.Spec PyProof.Rows L2
section
variable {X : Cx} {Γ : Gm} {cf : Cf} {x y z : Expr} {pos p : Pos} {a b c : E}
theorem tx_go {σ : L2.St} {H H1 : Hp} {g g1 : G} {Q : VK} {ρ : List Slot} {V : Po} {S1 : Store} {H₀ : Hp} (st : Step H g H1 g1) (w1 : WOk Γ H1 g1 S1) (env : EnvO Γ H₀ H g ρ σ) (k : ∀ x v H' g' S', Step H g H' g' -> WOk Γ H' g' S' -> VN Γ H x v H' g' -> V x S' -> Q v H') (hw : wpE cf ρ a V S1) : TX Γ cf a σ H1 Q :=
 ⟨ρ, S1, V, g1, H₀, hw, w1, env_step env st, fun y u H2 g2 S2 st2 w2 vy hy => k y u H2 g2 S2 (st.trans st2) w2 (vy.back st) hy⟩
theorem tb_go {σ : L2.St} {H H1 : Hp} {g g1 : G} {Q : Bool -> Hp -> Prop} {ρ : List Slot} {V : Po} {S1 : Store} {H₀ : Hp} (st : Step H g H1 g1) (w1 : WOk Γ H1 g1 S1) (env : EnvO Γ H₀ H g ρ σ) (k : ∀ x H' g' S', Step H g H' g' -> WOk Γ H' g' S' -> V x S' -> isB x.1 fun b => Q b H') (hw : wpE cf ρ a V S1) : TB Γ cf a σ H1 Q :=
 ⟨ρ, S1, V, g1, H₀, hw, w1, env_step env st, fun y H2 g2 S2 st2 w2 hy => k y H2 g2 S2 (st.trans st2) w2 hy⟩
theorem s_and {rest : List Expr} (ha : PE X x (TX Γ cf a)) (hb : PE X (.BoolOp .And (y :: rest) pos) (TX Γ cf b)) : PE X (.BoolOp .And (x :: y :: rest) pos) (TX Γ cf (.and a b)) :=
 (pe_and ha hb).imp fun σ H Q h0 => goX h0 fun ρ S V g H₀ hw w env k => ⟨ρ, S, _, g, H₀, hw, w, env, fun x v H1 g1 S1 st w1 vx h => by
  obtain ⟨r, e, q⟩ := vx.bl h
  refine ⟨r, e, ?_⟩
  cases r with
  | false => exact iteF (k (.bl false, .st) _ H1 g1 S1 st w1 rfl q)
  | true => exact iteT (tx_go st w1 env k q)⟩
theorem s_or {rest : List Expr} (ha : PE X x (TX Γ cf a)) (hb : PE X (.BoolOp .Or (y :: rest) pos) (TX Γ cf b)) : PE X (.BoolOp .Or (x :: y :: rest) pos) (TX Γ cf (.or a b)) :=
 (pe_or ha hb).imp fun σ H Q h0 => goX h0 fun ρ S V g H₀ hw w env k => ⟨ρ, S, _, g, H₀, hw, w, env, fun x v H1 g1 S1 st w1 vx h => by
  obtain ⟨r, e, q⟩ := vx.bl h
  refine ⟨r, e, ?_⟩
  cases r with
  | true => exact iteT (k (.bl true, .st) _ H1 g1 S1 st w1 rfl q)
  | false => exact iteF (tx_go st w1 env k q)⟩
theorem PW.impE {t t' : TT} (h : PW X x t) (i : ∀ σ H Q, t' σ H Q -> t σ H Q) : PW X x t' := fun wh pins s σ H Q I q => h wh pins s σ H Q I (i σ H Q q)
theorem s_andW {rest : List Expr} (ha : PT X x (TB Γ cf a)) (hb : PW X (.BoolOp .And (y :: rest) pos) (TB Γ cf b)) : PW X (.BoolOp .And (x :: y :: rest) pos) (TB Γ cf (.and a b)) :=
 PW.impE (pw_and ha hb) fun σ H Q h0 => goB h0 fun ρ S V g H₀ hw w env k => ⟨ρ, S, _, g, H₀, hw, w, env, fun x H1 g1 S1 st w1 h => by
  obtain ⟨r, e, q⟩ := isB_is h
  rw [e]
  show (if r = true then _ else _)
  cases r with
  | false => exact iteF (k (.bl false, .st) H1 g1 S1 st w1 q)
  | true => exact iteT (tb_go st w1 env k q)⟩
theorem s_orW {rest : List Expr} (ha : PT X x (TB Γ cf a)) (hb : PW X (.BoolOp .Or (y :: rest) pos) (TB Γ cf b)) : PW X (.BoolOp .Or (x :: y :: rest) pos) (TB Γ cf (.or a b)) :=
 PW.impE (pw_or ha hb) fun σ H Q h0 => goB h0 fun ρ S V g H₀ hw w env k => ⟨ρ, S, _, g, H₀, hw, w, env, fun x H1 g1 S1 st w1 h => by
  obtain ⟨r, e, q⟩ := isB_is h
  rw [e]
  show (if r = true then _ else _)
  cases r with
  | true => exact iteT (k (.bl true, .st) H1 g1 S1 st w1 q)
  | false => exact iteF (tb_go st w1 env k q)⟩
theorem s_oneW {op : PySem.BoolOp} (h : PT X x (TB Γ cf a)) : PW X (.BoolOp op [x] pos) (TB Γ cf (.one a)) := by
 cases op with
 | And => exact pw_and1 h
 | Or => exact pw_or1 h
theorem s_ite (hc : PT X x (TB Γ cf c)) (ha : PE X y (TX Γ cf a)) (hb : PE X z (TX Γ cf b)) : PE X (.IfExp x y z pos) (TX Γ cf (.ite c a b)) :=
 (pe_ifExp hc ha hb).imp fun σ H Q h0 => goX h0 fun ρ S V g H₀ hw w env k => ⟨ρ, S, _, g, H₀, hw, w, env, fun x H1 g1 S1 st w1 h => by
  obtain ⟨r, e, q⟩ := isB_is h
  rw [e]
  show (if r = true then _ else _)
  cases r with
  | true => exact iteT (tx_go st w1 env k q)
  | false => exact iteF (tx_go st w1 env k q)⟩
theorem starEach_of (h : notStar x = true) (xs : List Expr) (env : Env) : starEach (x :: xs) env = (false, eval x env) :: starEach xs env := by
 cases x <;> first | rfl | cases h
theorem s_nil : PA X [] (TXs Γ cf []) := pa_nil.imp fun σ H Q h0 => goS h0 fun ρ S W g H₀ hw w env k => k [] [] H g S (Step.refl H g) w rfl hw
theorem args_cons {es : List E} {σ : L2.St} {H : Hp} {Q : List V -> Hp -> Prop} (h : TXs Γ cf (a :: es) σ H Q) : TX Γ cf a σ H fun v H1 => TXs Γ cf es σ H1 fun vs H2 => Q (v :: vs) H2 := by
 obtain ⟨ρ, S, W, g, H₀, hw, w, env, k⟩ := h
 refine ⟨ρ, S, _, g, H₀, hw, w, env, fun x v H1 g1 S1 st w1 vx h => ?_⟩
 obtain ⟨g2, st2, w2, hx, q⟩ := vx.keep st w1 h
 exact ⟨ρ, S1, _, g2, H₀, q, w2, env_step env st2, fun ds vs H3 g3 S3 st3 w3 hs h3 => k (x.1 :: ds) _ H3 g3 S3 (st2.trans st3) w3 ⟨v, vs, rfl, hx.mono st3.le, hs⟩ h3⟩
theorem s_cons {xs : List Expr} {es : List E} (hs : notStar x = true) (h1 : PE X x (TX Γ cf a)) (h2 : PA X xs (TXs Γ cf es)) : PA X (x :: xs) (TXs Γ cf (a :: es)) :=
 (pa_cons h1 h2 (starEach_of hs _ _)).imp fun σ H Q h => args_cons h
theorem tst_is {r : Bool} {T : Prop} (h : tst r T False) : r = true /\ T := by
 cases r with
 | true => exact ⟨rfl, h⟩
 | false => exact h.elim
theorem opt_is {α : Type} {o : Option α} {Q : α -> Prop} (h : opt o Q) : ∃ a, o = some a /\ Q a := by
 cases o with
 | some a => exact ⟨a, rfl, h⟩
 | none => exact h.elim
theorem s_tup {xs : List Expr} {es : List E} {kk : Nat} (h : PA X xs (TXs Γ cf es)) : PE X (.Tuple xs kk pos) (TX Γ cf (.tup es)) :=
 (pe_tup h).imp fun σ H Q h0 => goX h0 fun ρ S V g H₀ hw w env k => ⟨ρ, S, _, g, H₀, hw, w, env, fun ds vs H1 g1 S1 st w1 hv h => by
  obtain ⟨hf, q⟩ := tst_is h
  exact ⟨by rw [hv.len]; exact lim_le hf, fun p hp => fin_tup (Q := Q) w1 (fun v H2 g2 st2 _ w2 vo => k (.tup ds, .st) v H2 g2 S1 (st.trans st2) w2 vo q) hv hp⟩⟩
theorem s_lst {xs : List Expr} {es : List E} (h : PA X xs (TXs Γ cf es)) : PE X (.List xs pos) (TX Γ cf (.lst es)) :=
 (pe_lst h).imp fun σ H Q h0 => goX h0 fun ρ S V g H₀ hw w env k => ⟨ρ, S, _, g, H₀, hw, w, env, fun ds vs H1 g1 S1 st w1 hv h => by
  obtain ⟨hf, q⟩ := tst_is h
  exact ⟨by rw [hv.len]; exact lim_le hf, fun p hp => fin_lst (Q := Q) w1 (fun v H2 g2 st2 _ w2 vo => k (.lst ds, .fr) v H2 g2 S1 (st.trans st2) w2 ((VN.of (fr := true) vo).back st) q) hv hp⟩⟩
theorem s_sub (hK : X.K = Γ.K) (hu : X.A.units + 1 < cLine) (ha : PE X x (TX Γ cf a)) (hb : PE X y (TX Γ cf b)) (hp : PlainIx y) : PE X (.Subscript x y pos) (TX Γ cf (.sub a b)) :=
 (pe_ix ix_any ha hb hp).imp fun σ H Q h0 => goX h0 fun ρ S V g H₀ hw w env k => two (G1 := fun u v H' => ixAny X u v H' Q) hw w env fun x y u v H' g' S' st w' vx vy h => by
  obtain ⟨d, eo, q⟩ := opt_is h
  obtain ⟨r, h1, h2⟩ := ix_rdo (X := X) hK hu eo
  have e : deref S' y.1 = y.1 := by
   cases hy : y.1 with
   | ref n =>
    rw [hy] at eo
    unfold subD at eo; split at eo <;> first | cases eo | (rename_i hh; cases hh) | skip
    all_goals (simp [dgetD, keyD] at eo)
   | _ => rfl
  have vb := vy.rdb w'
  rw [e] at vb
  exact ⟨r, h1, h2 S' H' g' u v Q w' (vx.rdb w') vb fun t H2 g2 st2 _ w2 vo => k (d, .st) t H2 g2 S' (st.trans st2) w2 vo q⟩
theorem s_poN : PO X none (TXo Γ cf none) := fun pins s σ H Q I h0 => goO h0 fun ρ S W g H₀ hw w env k => po_none pins s σ H Q I (k none H g S (Step.refl H g) w hw)
theorem s_po (h : PE X x (TX Γ cf a)) : PO X (some x) (TXo Γ cf (some a)) := fun pins s σ H Q I h0 => goO h0 fun ρ S W g H₀ hw w env k => po_some h pins s σ H Q I ⟨ρ, S, _, g, H₀, hw, w, env, fun x v H1 g1 S1 st w1 vx h => by
 obtain ⟨i, e, q⟩ := vx.int h
 exact ⟨i, e, k (some i) H1 g1 S1 st w1 q⟩⟩
theorem s_slc {lo hi : Option Expr} {l u : Option E} {p2 : Pos} (hK : X.K = Γ.K) (h : PE X x (TX Γ cf a)) (hl : PO X lo (TXo Γ cf l)) (hh : PO X hi (TXo Γ cf u)) : PE X (.Subscript x (.Slice lo hi none p2) pos) (TX Γ cf (.slc a l u)) :=
 (pe_slice sl_any h hl hh).imp fun σ H Q h0 => goX h0 fun ρ S V g H₀ hw w env k => ⟨ρ, S, _, g, H₀, hw, w, env, fun x v H1 g1 S1 st1 w1 vx h1 => ⟨ρ, S1, _, g1, H₀, h1, w1, env_step env st1, fun i H2 g2 S2 st2 w2 h2 => ⟨ρ, S2, _, g2, H₀, h2, w2, env_step env (st1.trans st2), fun j H3 g3 S3 st3 w3 h3 => by
  obtain ⟨⟨d, fr⟩, eo, q⟩ := opt_is h3
  obtain ⟨r, r1, r2⟩ := sl_rds (X := X) (Γ := Γ) hK eo
  have st := (st1.trans st2).trans st3
  exact ⟨r, r1, r2 S3 H3 g3 v Q w3 ((vx.step (st2.trans st3)).rdb w3) fun t H4 g4 st4 _ w4 vo => k _ t H4 g4 S3 (st.trans st4) w4 ((VN.of vo).back st) q⟩⟩⟩⟩
end
end EV
namespace L2
open PySem PySem.Spec PyProof.Rows
noncomputable def cxG (X : Cx) (sc : Scope) (cl : List (Str × Addr)) (xs : List Str) (js : List Nat) (C : Addr) (s3 : Shared) (H3 : Hp) (fp : List Addr) : Cx :=
 { X with N := xs ++ js.map (fun j => X.N.getD j ""), s₀ := s3, H₀ := H3, env := compEnvC sc cl C X.env, outer := X.stack, stack := X.stack, ex := fp, fn := fun _ => false, pn := [], xe := fun _ _ => False }
structure CompG (X : Cx) (sc : Scope) (cl : List (Str × Addr)) (xs : List Str) (js : List Nat) : Prop where
 clos : closureFor sc X.env = pure cl
 cell : ∀ y ∈ sc.names, y.2 ≠ .cell
 kind : sc.kind = .function
 names : ∀ y ∈ sc.names, y.2 = .local -> sc.names.lookup y.1 = some .local
 sub : ∀ y c, cl.lookup y = some c -> X.env.cells.lookup y = some c
 has : ∀ y, ((relabel sc X.env).names.lookup y = some .cell \/ (relabel sc X.env).names.lookup y = some .free) -> ∃ c, cl.lookup y = some c
 free : ∀ j ∈ js, ∀ y, X.N[j]? = some y -> Vis X.env.scope y /\ X.env.kindOf y ≠ some .local /\ (∃ c, cl.lookup y = some c) /\ ((relabel sc X.env).names.lookup y = some .cell \/ (relabel sc X.env).names.lookup y = some .free)
 inN : ∀ j ∈ js, j < X.N.length
section
variable {X : Cx} {pins : List (Addr × Obj)} {σ : St} {H3 : Hp} {s3 : Shared} {sc : Scope} {cl : List (Str × Addr)} {xs : List Str} {js : List Nat} {fp : List Addr} {h1 : Heap} {o : Obj} {tk : Nat}
theorem inv_compG (I : Inv X pins σ H3 s3) (K : CompG X sc cl xs js) (hns : h1.Ns s3.heap.objs.size fun _ => none) (hsb : Heap.SameBut s3.heap.objs.size (s3.heap.push o) h1)
  (hfp : ∀ b ∈ fp, FpOk X pins H3 b /\ b < s3.heap.objs.size) :
  Inv (cxG X sc cl xs js s3.heap.objs.size s3 H3 fp) [] (List.replicate xs.length none ++ rows σ js) H3 { s3 with heap := h1, toks := tk } := by
 have kept : ∀ b u, s3.heap.get? b = some u -> h1.get? b = some u := fun b u e => (hsb.2 b (Nat.ne_of_lt (Heap.lt_size e))).trans (Heap.get?_push_of_some _ e)
 refine ⟨⟨I.ok.mod, K.kind, I.ok.glob, I.ok.blt, Nat.le_refl _, fun y z c e1 e2 => I.ok.inj y z c (K.sub _ _ e1) (K.sub _ _ e2), fun y hy => K.has y hy, fun y c hf => absurd (show false = true from hf) Bool.false_ne_true, I.ok.hd, I.ok.frames, .inl rfl,
  fun b hb => ⟨Nat.ne_of_lt (hfp b hb).2, fun y c e => (hfp b hb).1.2.2.2.2.1 y c (K.sub _ _ e)⟩, I.bs, Nat.le_trans I.ok.bsz I.sz, fun b o' e hb => ?_, fun b hb z => ?_, I.stack, I.stkFree⟩,
  rfl, I.bare, Un.kept kept, ⟨_, hns, fun i y v e1 e2 e3 => ?_⟩, fun y c e => ?_, I.hok.fresh (Nat.le_refl _), fun y c e => I.freeC y c (K.sub _ _ e), fun p hp => absurd (show p ∈ ([] : List (Addr × Obj)) from hp) (by simp), I.hok.kept kept, ?_⟩
 ·rcases (hfp b hb).1.2.2.2.1 with z | z
  ·exact I.ok.noex b o' e z
  ·exact absurd (Nat.lt_of_lt_of_le (Heap.lt_size e) (Nat.le_trans I.ok.bsz z)) (Nat.lt_irrefl _)
 ·rcases List.mem_cons.mp (I.stkSub b z) with q | q
  ·exact (hfp b hb).1.2.1 q
  ·exact (hfp b hb).1.2.2.1 q
 ·by_cases hi : i < xs.length
  ·rw [List.getElem?_append_left (by simpa using hi), List.getElem?_replicate, if_pos hi] at e2
   cases e2
  ·have hi' : xs.length <= i := by omega
   have e1' : (js.map fun j => X.N.getD j "")[i - xs.length]? = some y := by
    have q : (xs ++ js.map fun j => X.N.getD j "")[i]? = some y := e1
    rw [List.getElem?_append_right hi'] at q
    exact q
   have e2' : (rows σ js)[i - xs.length]? = some (some v) := by
    rw [List.getElem?_append_right (by simpa using hi')] at e2
    simpa using e2
   generalize i - xs.length = i at e1' e2'
   rw [List.getElem?_map] at e1'
   unfold rows at e2'
   rw [List.getElem?_map] at e2'
   cases ej : js[i]? with
   | none => rw [ej] at e1'; cases e1'
   | some j =>
    rw [ej] at e1' e2'
    simp only [Option.map_some, Option.some.injEq] at e1' e2'
    have hj := List.mem_of_getElem? ej
    have hlt := K.inN j hj
    have eN : X.N[j]? = some y := by
     rw [<- e1', List.getD_eq_getElem?_getD, List.getElem?_eq_getElem hlt]
     rfl
    have eS : σ[j]? = some (some v) := by
     rw [List.getD_eq_getElem?_getD] at e2'
     cases q : σ[j]? with
     | none => rw [q] at e2'; cases e2'
     | some z => rw [q] at e2'; simpa using e2'
    obtain ⟨hv, hnl, ⟨c, hc⟩, hk⟩ := K.free j hj y eN
    obtain ⟨m, _, hl⟩ := I.loc
    obtain ⟨u, r, l⟩ := hl j y v eN eS hv
    refine ⟨u, r, ?_⟩
    rcases l with ⟨k, _⟩ | ⟨k, c', e', z⟩
    ·exact absurd k hnl
    ·have : c' = c := Option.some.inj (e'.symm.trans (K.sub _ _ hc))
     subst this
     obtain ⟨oc, hoc, hd⟩ := z
     exact .inr ⟨hk, c', hc, oc, kept _ _ hoc, hd⟩
 ·obtain ⟨v, oc, hoc, hd⟩ := I.cell y c (K.sub _ _ e)
  exact ⟨v, oc, kept _ _ hoc, hd⟩
 ·simp [rows, cxG]
noncomputable def PTs (X : Cx) (ifs : List Expr) (t : TT) : Prop :=
 ∀ (pins : List (Addr × Obj)) (s : Shared) (σ : St) (H : Hp) (Q : Bool -> Hp -> Prop), Inv X pins σ H s -> t σ H Q ->
  wpAny (model X.prog X.w) X.A (forIn ifs true fun c r => if r = true then do let ok <- isTrue c X.env (eval c X.env); pure (ForInStep.yield ok) else pure (ForInStep.yield r)) (TP X pins σ Q) X.xe s
theorem pts_nil : PTs X [] (fun _ H Q => Q true H) := fun _ _ _ H _ I h => wpAny_tests_nil ⟨H, I, h⟩
theorem pts_one {c : Expr} {t : TT} (h : PT X c t) : PTs X [c] t := fun pins s σ H Q I q => wpAny_tests_one (h pins s σ H Q I q)
noncomputable def tCompG (n : Nat) (js : List Nat) (wi : TI) (tg : TG) (tt : TT) (te : TE) (Qe : Addr -> Hp -> Prop) : St -> Hp -> Prop := fun σ H => wi σ H fun J H1 => ∀ D, H1 D = none ->
 ∃ W : Nat -> Nat -> List V -> St -> Hp -> Prop, (∃ m, W 0 m [] (List.replicate n none ++ rows σ js) (upd H1 D (.lst []))) /\ ∀ i m ys τ H2, W i m ys τ H2 ->
  (J.stop i H2 /\ Qe D H2) \/ (J.go i H2 /\ ∀ z H3, J.yld i H2 z H3 -> tg z τ H3 fun τ3 H3 => tt τ3 H3 fun b H4 =>
   if b = true then te τ3 H4 fun v H5 => H5 D = some (.lst ys) /\ ys.length < sizeLine /\ ∃ m', m' < m /\ W (i + 1) m' (ys ++ [v]) τ3 (upd H5 D (.lst (ys ++ [v])))
   else ∃ m', m' < m /\ W (i + 1) m' ys τ3 H4)
theorem comp_core {elt iter tgt : Expr} {ifs : List Expr} {pos pos' : Pos} {wi : TI} {tg : TG} {tt : TT} {te : TE} {Qe : Addr -> Hp -> Prop} {use : Option (Value -> Sem Unit)} {Q' : Value -> Shared -> Prop} {H : Hp} {s : Shared} (hc : X.calm = true) (K : CompG X sc cl xs js) (hi : PI X tgt iter wi)
  (hg : ∀ C s3 H3 fp, PG (cxG X sc cl xs js C s3 H3 fp) tgt tg) (ht : ∀ C s3 H3 fp, PTs (cxG X sc cl xs js C s3 H3 fp) ifs tt) (he : ∀ C s3 H3 fp, PE (cxG X sc cl xs js C s3 H3 fp) elt te) (hs : ∀ v, foldedSetIterable iter X.env v = pure v)
  (I : Inv X pins σ H s) (h : tCompG xs.length js wi tg tt te Qe σ H)
  (fin : ∀ (D C : Addr) (s6 : Shared) (H5 : Hp) (m : Str -> Option Value), s6.heap.Ns C m -> FpOk X pins H5 C -> (∀ h', Heap.SameBut C s6.heap h' -> Inv X pins σ H5 { s6 with heap := h' }) -> Qe D H5 -> compPost (model X.prog X.w) X.A X.xe use Q' (.ref D) C (.ok .next) s6) :
  wpAny (model X.prog X.w) X.A (comprehension (.ListComp elt [⟨tgt, iter, ifs, 0⟩] sc pos) sc X.env pos' (newList []) false (eval iter X.env) use) Q' X.xe s := by
 refine wpAny_comprehension_free (use := use) rfl hs K.clos K.kind K.names ?_
 refine thn (hi pins s σ H _ I h) fun v s1 h1 => thn h1 fun itv s2 h2 => ?_
 obtain ⟨it, fp, tn, J, H2, e, I2, T, st2, f2, h⟩ := h2
 subst e
 have hD : H2 s2.heap.objs.size = none := I2.fresh
 obtain ⟨W, ⟨m0, w0⟩, turn⟩ := h _ hD
 have I3 : Inv X pins σ (upd H2 s2.heap.objs.size (.lst [])) { s2 with heap := s2.heap.push { cls := .type "list", data := .seq ([] : List Value).toArray }, toks := s2.toks } := I2.lnew (its := []) .nil (Nat.zero_le _)
 have fpLt : ∀ b ∈ fp, b < s2.heap.objs.size := fun b hb => let ⟨o, e, _⟩ := T.obj _ _ st2 b hb; Heap.lt_size e
 refine wpAny_newObj_type (wpAny_newFunctionEnv K.cell (by intro y hy; simp at hy) (fun h₁ hns₁ hsb₁ => ?_) K.kind)
 generalize hs3 : ({ s2 with heap := s2.heap.push { cls := .type "list", data := .seq ([] : List Value).toArray }, toks := s2.toks } : Shared) = s3 at I3
 have hs3' : ({ s2 with heap := s2.heap.push { cls := .type "list", data := .seq ([] : List Value).toArray } } : Shared) = s3 := hs3
 (try rw [hs3'] at hns₁); (try rw [hs3'] at hsb₁); (try rw [hs3'])
 have hsz : s3.heap.objs.size = s2.heap.objs.size + 1 := by rw [<- hs3, Heap.size_push]
 generalize hH3 : upd H2 s2.heap.objs.size (.lst []) = H3 at I3 w0
 have fp3 : ∀ b ∈ fp, FpOk X pins H3 b /\ b < s3.heap.objs.size := fun b hb => by
  refine ⟨⟨?_, (f2 b hb).2⟩, by rw [hsz]; exact Nat.lt_succ_of_lt (fpLt b hb)⟩
  rw [<- hH3, upd_ne (Nat.ne_of_lt (fpLt b hb))]
  exact (f2 b hb).1
 have I4 := inv_compG (tk := s3.toks + ([] : List (Str × Value)).length) I3 K hns₁ hsb₁ fp3
 have st4 : tn 0 h₁ := T.keep _ _ _ st2 fun b hb o e => (hsb₁.2 b (Nat.ne_of_lt (fp3 b hb).2)).trans (Heap.get?_push_of_some _ (by rw [<- hs3]; exact Heap.get?_push_of_some _ e))
 have stat : ∀ {H' : Hp} {pl : List (Addr × Obj)}, (∀ b ∈ fp, H' b = none) -> (∀ p ∈ pl, p.1 ∉ fp) -> ∀ b ∈ fp, FpOk (cxG X sc cl xs js s3.heap.objs.size s3 H3 fp) pl H' b := fun {H'} {pl} hn hp b hb =>
  ⟨hn b hb, Nat.ne_of_lt (fp3 b hb).2, fun z => by
   rcases List.mem_cons.mp (I3.stkSub b z) with q | q
   ·exact (f2 b hb).2.1 q
   ·exact (f2 b hb).2.2.1 q, .inl hb, fun y c e => (f2 b hb).2.2.2.2.1 y c (K.sub _ _ e), fun p hp' z => by
    have hp'' : p ∈ pl := by simpa [cxG] using hp'
    exact hp p hp'' (z ▸ hb)⟩
 have loop : ∀ s4 : Shared, s4 = { s3 with heap := h₁, toks := s3.toks + ([] : List (Str × Value)).length } ->
   codeAny (model X.prog X.w) X.A (.compLoop (.ListComp elt [⟨tgt, iter, ifs, 0⟩] sc pos) 0 (.ref it) (.ref s2.heap.objs.size) (compEnvC sc cl s3.heap.objs.size X.env))
    (compPost (model X.prog X.w) X.A X.xe use Q' (.ref s2.heap.objs.size) s3.heap.objs.size) s4 := by
  rintro s4 rfl
  refine codeAny_loop rfl (fun n s' => ∃ i ys τ H', Inv (cxG X sc cl xs js s3.heap.objs.size s3 H3 fp) [] τ H' s' /\ tn i s'.heap /\ (∀ b ∈ fp, H' b = none) /\ W i n ys τ H') ?_ m0 ⟨0, [], _, H3, I4, st4, fun b hb => (fp3 b hb).1.1, w0⟩
  rintro n s5 ⟨i, ys, τ, H5, I5, st5, fr5, w5⟩
  show wpAny _ X.A ((compTurn (.ListComp elt [⟨tgt, iter, ifs, 0⟩] sc pos) 0 (.ref it) (.ref s2.heap.objs.size) (compEnvC sc cl s3.heap.objs.size X.env)).onRaise (fun x => do noteFrame x (compEnvC sc cl s3.heap.objs.size X.env); theTreesLotGoes x)) _ _ s5
  refine wpAny_noted ?_
  rw [compTurn_list]
  refine wpAny_bind (wpAny_standAt (wpAny_bind ?_))
  rcases turn i n ys τ H5 w5 with ⟨stop, q⟩ | ⟨go, step⟩
  ·refine thn (T.done (cxG X sc cl xs js s3.heap.objs.size s3 H3 fp) rfl rfl rfl hc i [] s5 τ H5 _ I5 (stat fr5 (fun p hp => absurd hp (by simp))) st5 stop) fun r s6 ⟨hr, I6⟩ => ?_
   subst hr
   refine wpAny_pure ?_
   obtain ⟨m, hn, _⟩ := I6.loc
   refine fin _ _ s6 H5 m hn (I3.fpOk (Nat.le_refl _) I6.free) (fun h' sb => ?_) q
   have u := (show Un (frs X.stack) fp H3 H5 s3.heap s6.heap from I6.base).sameBut sb (Nat.le_refl _)
   exact I3.call' (s' := { s6 with heap := h' }) (ch := fp) I6.os u (I6.hok.sameBut sb I6.free) I6.bare fun b hb => ⟨(f2 b hb).2.2.2.1, (f2 b hb).2.1, (f2 b hb).2.2.2.2.1, (f2 b hb).2.2.2.2.2⟩
  ·refine thn (T.item (cxG X sc cl xs js s3.heap.objs.size s3 H3 fp) rfl rfl rfl hc i [] s5 τ H5 _ I5 (stat fr5 (fun p hp => absurd hp (by simp))) st5 go) fun r s6 ⟨u, hr, h6⟩ => ?_
   subst hr
   refine wpAny_bind (thn h6 fun _ s7 ⟨z, H7, I7, r7, y7, st7, fr7⟩ => ?_)
   have I7' := I7.pinned (stat fr7 (fun p hp => absurd hp (by simp))) (T.obj _ _ st7)
   have done : ∀ {σ' : St} {H' : Hp} {s' : Shared} {ys' : List V} {m' : Nat}, Inv (cxG X sc cl xs js s3.heap.objs.size s3 H3 fp) ([] ++ pinsAt fp s7.heap) σ' H' s' -> m' < n -> W (i + 1) m' ys' σ' H' -> ∃ m, m < n /\ ∃ i ys τ H', Inv (cxG X sc cl xs js s3.heap.objs.size s3 H3 fp) [] τ H' s' /\ tn i s'.heap /\ (∀ b ∈ fp, H' b = none) /\ W i m ys τ H' := fun {σ' H' s' ys' m'} I' hm w' =>
    ⟨m', hm, i + 1, ys', σ', H', I'.unpinned, T.keep _ _ _ st7 fun b hb o e => (I'.pin (b, o) (List.mem_append_right _ (List.mem_append_right _ (mem_pinsAt hb e)))).1, fun b hb => by
     obtain ⟨o, e, d⟩ := T.obj _ _ st7 b hb
     exact (I'.pin (b, o) (List.mem_append_right _ (List.mem_append_right _ (mem_pinsAt hb e)))).2.1, w'⟩
   refine wpAny_bind (wpAny_mono (hg _ _ _ _ _ s7 τ H7 z u _ I7' r7 (step z H7 y7)) (fun _ s8 ⟨σ8, H8, I8, q8⟩ => ?_) fun _ _ z => False.elim z)
   refine wpAny_bind (wpAny_mono (ht _ _ _ _ _ s8 σ8 H8 _ I8 q8) (fun ok s9 ⟨H9, I9, q9⟩ => ?_) fun _ _ z => False.elim z)
   cases ok with
   | false =>
    rw [if_neg Bool.false_ne_true] at q9
    obtain ⟨m', hm, w9⟩ := q9
    exact wpAny_pure ⟨rfl, done I9 hm w9⟩
   | true =>
    rw [if_pos rfl] at q9
    refine wpAny_bind (wpAny_bind (wpAny_mono (he _ _ _ _ _ s9 _ _ _ I9 q9) (fun v9 s10 ⟨x9, H10, I10, r9, q10⟩ => ?_) fun _ _ z => False.elim z))
    obtain ⟨hD9, hlen, m', hm, w10⟩ := q10
    have ap := mt_append (X := cxG X sc cl xs js s3.heap.objs.size s3 H3 fp) _ s10 _ H10 (.ref s2.heap.objs.size) [x9] (.ref s2.heap.objs.size) [v9] (fun _ H' => H' = upd H10 s2.heap.objs.size (.lst (ys ++ [x9]))) I10 rfl (.cons r9 .nil) ⟨_, ys, x9, rfl, rfl, hD9, hlen, rfl⟩
    refine wpAny_bind (wpAny_mono ap (fun _ s11 ⟨_, H11, I11, _, e11⟩ => ?_) fun _ _ z => False.elim z)
    subst e11
    exact wpAny_pure (wpAny_pure ⟨rfl, done I11 hm w10⟩)
 exact codeAny_compStart_list (loop _ rfl) (T.self _ 0 _ _ _ st4 (loop _ rfl))
theorem pe_compG {elt iter tgt : Expr} {ifs : List Expr} {pos : Pos} {wi : TI} {tg : TG} {tt : TT} {te : TE} (hc : X.calm = true) (K : CompG X sc cl xs js) (hi : PI X tgt iter wi)
  (hg : ∀ C s3 H3 fp, PG (cxG X sc cl xs js C s3 H3 fp) tgt tg) (ht : ∀ C s3 H3 fp, PTs (cxG X sc cl xs js C s3 H3 fp) ifs tt) (he : ∀ C s3 H3 fp, PE (cxG X sc cl xs js C s3 H3 fp) elt te) (hs : ∀ v, foldedSetIterable iter X.env v = pure v) :
  PE X (.ListComp elt [⟨tgt, iter, ifs, 0⟩] sc pos) (fun σ H Q => tCompG xs.length js wi tg tt te (fun D H' => Q (.ref D) H') σ H) := by
 intro pins s σ H Q I h
 rw [eval_ListComp]
 exact comp_core (use := none) (Q' := EP X pins σ Q) hc K hi hg ht he hs I h fun D C s6 H5 m hn fp inv q => ⟨m, hn, fun h' sb => ⟨.ref D, H5, inv h' sb, rfl, q⟩⟩
theorem ps_compSet {elt iter tgt : Expr} {ifs : List Expr} {pos spos npos : Pos} {wi : TI} {tg : TG} {tt : TT} {te : TE} {n : Str} {i : Nat} (hc : X.calm = true) (K : CompG X sc cl xs js) (hi : PI X tgt iter wi)
  (hg : ∀ C s3 H3 fp, PG (cxG X sc cl xs js C s3 H3 fp) tgt tg) (ht : ∀ C s3 H3 fp, PTs (cxG X sc cl xs js C s3 H3 fp) ifs tt) (he : ∀ C s3 H3 fp, PE (cxG X sc cl xs js C s3 H3 fp) elt te) (hs : ∀ v, foldedSetIterable iter X.env v = pure v)
  (hp : PG X (.Name n npos) (gName i)) (hsw : swapsWith (.ListComp elt [⟨tgt, iter, ifs, 0⟩] sc pos) (some (.Name n npos)) spos.line X.env = pure true) :
  PS X (.Assign [.Name n npos] (.ListComp elt [⟨tgt, iter, ifs, 0⟩] sc pos) spos) (fun D σ H => tCompG xs.length js wi tg tt te (fun Da H' => D.nx (σ.set i (some (.ref Da))) H') σ H) := by
 intro pins s σ H D I h
 rw [exec_Assign_Name_used _ _ _ _ hsw]
 refine wpAny_bind (wpAny_standAt (wpAny_bind ?_))
 show wpAny _ X.A (do let _ <- comprehension (.ListComp elt [⟨tgt, iter, ifs, 0⟩] sc pos) sc X.env _ (newList []) false (eval iter X.env) (some (assign (.Name n npos) X.env))) _ _ s
 refine wpAny_bind (wpAny_mono (comp_core (use := some (assign (.Name n npos) X.env)) (Q' := fun _ s' => SP X pins D .next s') hc K hi hg ht he hs I h ?_) (fun _ s' q => wpAny_pure (wpAny_pure q)) fun _ _ z => z)
 intro Da C s6 H5 m hn fp inv q
 obtain ⟨oC, es, ep, hoC, hdC, hrC⟩ := id hn
 have I6 := inv s6.heap (Heap.SameBut.refl C s6.heap)
 have I6' : Inv X (pins ++ [(C, oC)]) σ H5 { s6 with heap := s6.heap } := I6.pins_of fun p hp => (List.mem_append.mp hp).elim (fun z => I6.pin p (List.mem_append_right _ z)) fun z => by
  rw [List.mem_singleton.mp z]
  exact ⟨hoC, fp.1, fp.2.1, fp.2.2.1, fun v e => by rw [hdC] at e; cases e⟩
 show wpAny _ X.A (assign (.Name n npos) X.env (.ref Da)) _ _ s6
 refine thn (hp _ s6 σ H5 (.ref Da) (.ref Da) _ I6' rfl q) fun _ s7 ⟨σ7, H7, I7, q7⟩ => ?_
 have hC7 := (I7.pin (C, oC) (List.mem_append_right _ (List.mem_append_right _ (List.mem_singleton.mpr rfl))))
 refine ⟨m, ⟨oC, es, ep, hC7.1, hdC, hrC⟩, fun h' sb => ⟨σ7, H7, ?_, q7⟩⟩
 have I8 : Inv X pins σ7 H7 s7 := I7.unpinned
 exact I8.turned (t' := s7.toks) (fun b o hb e => (sb.2 b hb).trans e) hC7.2.1 fp.2.1 fp.2.2.2.1 fp.2.2.2.2.1 fun p hp => fp.2.2.2.2.2 p hp
noncomputable def CSet (X : Cx) (x : Expr) (t : TE) : Prop := ∀ (n : Str) (npos spos : Pos) (i : Nat), PG X (.Name n npos) (gName i) -> swapsWith x (some (.Name n npos)) spos.line X.env = pure true ->
 PS X (.Assign [.Name n npos] x spos) (fun D σ H => t σ H fun v H' => D.nx (σ.set i (some v)) H')
theorem both_imp {X : Cx} {x : Expr} {t t' : TE} (h : PE X x t /\ CSet X x t) (i : ∀ σ H Q, t' σ H Q -> t σ H Q) : PE X x t' /\ CSet X x t' :=
 ⟨h.1.imp i, fun n np sp j hp hs => (h.2 n np sp j hp hs).imp fun D σ H q => i σ H _ q⟩
theorem comp_both {elt iter tgt : Expr} {ifs : List Expr} {pos : Pos} {wi : TI} {tg : TG} {tt : TT} {te : TE} (hc : X.calm = true) (K : CompG X sc cl xs js) (hi : PI X tgt iter wi)
  (hg : ∀ C s3 H3 fp, PG (cxG X sc cl xs js C s3 H3 fp) tgt tg) (ht : ∀ C s3 H3 fp, PTs (cxG X sc cl xs js C s3 H3 fp) ifs tt) (he : ∀ C s3 H3 fp, PE (cxG X sc cl xs js C s3 H3 fp) elt te) (hs : ∀ v, foldedSetIterable iter X.env v = pure v) :
  PE X (.ListComp elt [⟨tgt, iter, ifs, 0⟩] sc pos) (fun σ H Q => tCompG xs.length js wi tg tt te (fun D H' => Q (.ref D) H') σ H) /\ CSet X (.ListComp elt [⟨tgt, iter, ifs, 0⟩] sc pos) (fun σ H Q => tCompG xs.length js wi tg tt te (fun D H' => Q (.ref D) H') σ H) :=
 ⟨pe_compG hc K hi hg ht he hs, fun n np sp i hp hsw => ps_compSet hc K hi hg ht he hs hp hsw⟩
end
end L2
namespace EV
open PySem PySem.Spec PyProof.Rows L2
structure FnI (Γ : Gm) (B : Tb) (cf : Nat -> Nat -> Sp) (k : Nat) (P : Program) (w : World) (K : PySem.W.Frag) (mg : Str -> Option Value) (base : Heap) (f : Nat) (x : Str) : Prop where
 ex : ∃ (a : Addr) (fd : FuncData) (ps : List Str), Γ.fa f = some a /\ mg x = some (.ref a) /\ PySem.W.keepIn K (.ref a) = true /\ Binds K fd ps [] /\ B.pars[f]? = some ps /\ FnOk P w K mg base CX0 k a fd ps (cf f ps.length) /\
  ∀ (ks : List Str) (perm : List Nat), perm.length = ps.length -> (∀ i ∈ perm, i < ks.length) -> perm.map (fun i => ks.getD i "") = ps -> ks.length = ps.length -> (f, ks, perm) ∈ B.kws ->
   KBinds K fd ps ks (fun us ws => if ws.length = ks.length then us ++ perm.map fun i => ws.getD i .none else []) (fun vs zs => if zs.length = ks.length then vs ++ perm.map fun i => zs.getD i .non else [])
structure XOk (Γ : Gm) (B : Tb) (cf : Nat -> Nat -> Sp) (k : Nat) (X : Cx) (c : Cc) : Prop where
 hK : X.K = Γ.K
 nm : X.env.scope.names = c.names
 kd : X.env.scope.kind = .function
 N : X.N = c.N
 nd : X.N.Nodup
 fn : c.fn = true -> ∀ x, X.fn x = true
 calm : X.calm = true
 room : Room k X.A
 cells : ∀ x, (c.names.lookup x = some .cell \/ c.names.lookup x = some .free) -> ∃ a, X.env.cells.lookup x = some a
 fns : ∀ (f : Nat) (x : Str), B.fns[f]? = some x -> FnI Γ B cf k X.prog X.w X.K X.mg X.base f x
 bare : ∀ x ∈ B.bare, X.mg x = none
 consts : ∀ (n : Nat) (x : Str) (d : D), B.consts[n]? = some (x, d) -> ∃ u v, X.mg x = some u /\ RelV v u /\ ∀ g, Has Γ g d v
 fa : ∀ (f : Nat) (a : Addr), Γ.fa f = some a -> ∃ x, B.fns[f]? = some x
section
variable {Γ : Gm} {B : Tb} {cf : Nat -> Nat -> Sp} {k : Nat} {X : Cx} {c : Cc}
theorem XOk.u61 (x : XOk Γ B cf k X c) : X.A.units + 61 < cLine := by have := x.room.un; omega
theorem XOk.u1 (x : XOk Γ B cf k X c) : X.A.units + 1 < cLine := by have := x.room.un; omega
theorem XOk.vis (x : XOk Γ B cf k X c) {n : Str} (h : visK (c.names.lookup n) = true) : Vis X.env.scope n := by
 unfold Vis
 rw [x.nm]
 cases q : c.names.lookup n with
 | none => rw [q] at h; cases h
 | some kd => rw [q] at h; cases kd <;> first | exact .inl rfl | exact .inr (.inl rfl) | exact .inr (.inr rfl) | cases h
theorem XOk.glob (x : XOk Γ B cf k X c) {n : Str} (h : gloK (c.names.lookup n) = true) : Gl X n := by
 unfold Gl Env.kindOf
 rw [x.nm]
 cases q : c.names.lookup n with
 | none => rw [q] at h; cases h
 | some kd => rw [q] at h; cases kd <;> first | rfl | cases h
theorem plain_of {n : Str} (h : plainN n = true) : (n == ("__debug__" : Str)) = false /\ (n == ("__classdict__" : Str)) = false /\ n ≠ ("__name__" : Str) := by
 unfold plainN at h
 simp only [Bool.and_eq_true, Bool.not_eq_true'] at h
 exact ⟨h.1.1, h.1.2, by simpa using h.2⟩
theorem XOk.pg (x : XOk Γ B cf k X c) {i : Nat} {n : Str} {pos : Pos} (hi : c.N[i]? = some n) (hs : stoK c n = true) : PG X (.Name n pos) (gName i) := by
 have hi' : X.N[i]? = some n := by rw [x.N]; exact hi
 unfold stoK at hs
 cases q : c.names.lookup n with
 | none => rw [q] at hs; cases hs
 | some kd =>
  rw [q] at hs
  have q' : X.env.scope.names.lookup n = some kd := by rw [x.nm]; exact q
  cases kd with
  | «local» => exact pg_name x.nd hi' (.inl q') (.inr q')
  | cell => exact pg_name x.nd hi' (.inr q') (.inl (x.fn hs n))
  | _ => cases hs
noncomputable def gNames : List Nat -> TGs
 | [] => gNil
 | i :: is => gCons (gName i) (gNames is)
theorem pgs_of (x : XOk Γ B cf k X c) : ∀ {es : List Expr} {ns : List Str} {is : List Nat}, EV.namesOf es = some ns -> ns.length = is.length -> ((is.zip ns).all fun p => c.N[p.1]? == some p.2 && stoK c p.2) = true ->
  PGs X es (gNames is) /\ (assignEach es X.env).length = is.length /\ (assignEach es X.env).findIdx? (·.1) = none
 | [], ns, is, h, hl, _ => by
  cases (show some [] = some ns from h)
  cases is with
  | nil => exact ⟨pgs_nil, rfl, rfl⟩
  | cons => simp at hl
 | e :: es, ns, is, h, hl, ha => by
  cases e with
  | Name n pos =>
   simp only [EV.namesOf, Option.map_eq_some_iff] at h
   obtain ⟨r, h1, h2⟩ := h
   subst h2
   cases is with
   | nil => simp at hl
   | cons i is =>
    simp only [List.zip_cons_cons, List.all_cons, Bool.and_eq_true] at ha
    obtain ⟨⟨ha1, ha2⟩, ha3⟩ := ha
    obtain ⟨g1, g2, g3⟩ := pgs_of x h1 (by simpa using hl) ha3
    refine ⟨pgs_cons (x.pg (eq_of_beq ha1) ha2) g1, ?_, ?_⟩
    ·show (_ :: assignEach es X.env).length = _
     rw [List.length_cons, g2, List.length_cons]
    ·show List.findIdx? _ ((false, _) :: assignEach es X.env) = none
     rw [List.findIdx?_cons]
     simp [g3]
  | _ => simp [EV.namesOf] at h
noncomputable def tgOf (K : PySem.W.Frag) : T -> TG
 | .nst i is => gTup K 2 (gCons (gName i) (gCons (gTup K is.length (gNames is)) gNil))
 | .one i => gName i
 | .tup is => gTup K is.length (gNames is)
theorem asNst_is {x : Expr} {q : Str × Pos × List Expr × Nat × Pos × Nat × Pos} (h : asNst x = some q) : x = .Tuple [.Name q.1 q.2.1, .Tuple q.2.2.1 q.2.2.2.1 q.2.2.2.2.1] q.2.2.2.2.2.1 q.2.2.2.2.2.2 := by
 cases x with
 | Tuple es k p =>
  cases es with
  | nil => cases h
  | cons a r =>
   cases a with
   | Name n pos =>
    cases r with
    | nil => cases h
    | cons b z =>
     cases z with
     | cons _ _ => cases h
     | nil =>
      cases b with
      | Tuple fs k2 p2 => cases h; rfl
      | _ => cases h
   | _ => cases h
 | _ => cases h
theorem tgt_nst (x : XOk Γ B cf k X c) {t : T} {tgt : Expr} (hn : isNst t = true) (h : chkT c t tgt = true) : PG X tgt (tgOf X.K t) := by
  cases t with
  | nst i is =>
    unfold chkT at h
    rw [if_pos hn] at h
    cases e : asNst tgt with
    | none => rw [e] at h; cases h
    | some q =>
      rw [e] at h
      have h : (match namesOf q.2.2.1 with
        | some ns => (q.1 :: ns).length == (i :: is).length && ((i :: is).zip (q.1 :: ns)).all fun p => c.N[p.1]? == some p.2 && stoK c p.2
        | none => false) = true := h
      rw [asNst_is e]
      cases en : namesOf q.2.2.1 with
      | none => rw [en] at h; cases h
      | some ns =>
        rw [en] at h
        simp only [List.zip_cons_cons, List.all_cons, Bool.and_eq_true] at h
        obtain ⟨h1, ⟨h2, h3⟩, h4⟩ := h
        have h1 : ns.length = is.length := by simpa using h1
        obtain ⟨g1, g2, g3⟩ := pgs_of x en h1 h4
        exact pg_tup x.calm (pgs_cons (x.pg (eq_of_beq h2) h3) (pgs_cons (pg_tup x.calm g1 g2 g3) pgs_nil)) rfl rfl
  | _ => cases hn
theorem tgt_ok (x : XOk Γ B cf k X c) {t : T} {tgt : Expr} (h : chkT c t tgt = true) : PG X tgt (tgOf X.K t) := by
 by_cases hnst : isNst t = true
 ·exact tgt_nst x hnst h
 unfold chkT at h
 rw [if_neg hnst] at h
 rw [Bool.and_eq_true] at h
 obtain ⟨h1, h2⟩ := h
 cases tgt with
 | Name n pos =>
  cases t with
  | one i =>
   simp only [tgtNames, tIs, List.zip_cons_cons, List.zip_nil_right, List.all_cons, List.all_nil, Bool.and_true, Bool.and_eq_true] at h2
   exact x.pg (eq_of_beq h2.2.1) h2.2.2
  | tup is => cases h1
  | nst _ _ => exact absurd rfl hnst
 | Tuple es kk pos =>
  cases t with
  | one i => cases h1
  | nst _ _ => exact absurd rfl hnst
  | tup is =>
   simp only [tgtNames, tIs] at h2
   cases hn : EV.namesOf es with
   | none => rw [hn] at h2; cases h2
   | some ns =>
    rw [hn] at h2
    simp only [Bool.and_eq_true, beq_iff_eq] at h2
    obtain ⟨g1, g2, g3⟩ := pgs_of x hn h2.1 (by simpa using h2.2)
    exact pg_tup x.calm g1 g2 g3
 | _ => simp [tgtNames] at h2
noncomputable def closL (cells : List (Str × Addr)) : List (Str × NameKind) -> List (Str × Addr) -> List (Str × Addr)
 | [], acc => acc
 | (n, kd) :: r, acc => if (kd == NameKind.free) = true then closL cells r ((n, (cells.lookup n).getD 0) :: acc) else closL cells r acc
theorem clos_loop {env : Env} : ∀ (names : List (Str × NameKind)) (acc : List (Str × Addr)), (∀ y ∈ names, y.2 = .free -> ∃ a, env.cells.lookup y.1 = some a) ->
  (forIn names acc fun x cs => match x with
   | (name, kind) => if (kind == NameKind.free) = true then do let a <- cellOf env name; pure (ForInStep.yield ((name, a) :: cs)) else pure (ForInStep.yield cs) : Sem (List (Str × Addr))) = pure (closL env.cells names acc)
 | [], acc, _ => rfl
 | (n, kd) :: r, acc, h => by
  rw [List.forIn_cons]
  by_cases hk : (kd == NameKind.free) = true
  ·obtain ⟨a, ha⟩ := h (n, kd) List.mem_cons_self (eq_of_beq hk)
   have ha : env.cells.lookup n = some a := ha
   simp only [hk, if_true]
   have : cellOf env n = pure a := by unfold cellOf; rw [ha]
   rw [this]
   simp only [pure_bind]
   rw [clos_loop r _ fun y hy => h y (List.mem_cons_of_mem _ hy)]
   simp [closL, hk, ha]
  ·simp only [hk]
   simp only [Bool.false_eq_true, if_false, pure_bind]
   rw [clos_loop r _ fun y hy => h y (List.mem_cons_of_mem _ hy)]
   simp [closL, hk]
theorem clos_eq {env : Env} {sc : Scope} (h : ∀ y ∈ sc.names, y.2 = .free -> ∃ a, env.cells.lookup y.1 = some a) : closureFor sc env = pure (closL env.cells sc.names []) := by
 unfold closureFor
 have := clos_loop sc.names [] h
 first
  | exact (congrArg (fun z => z >>= pure) this).trans (by simp)
  | (simp only [bind_pure]; exact this)
  | exact this
theorem closL_look {cells : List (Str × Addr)} {y : Str} : ∀ (names : List (Str × NameKind)) (acc : List (Str × Addr)), (∀ z ∈ names, z.2 = .free -> ∃ a, cells.lookup z.1 = some a) -> (∀ c, acc.lookup y = some c -> cells.lookup y = some c) ->
  (∀ c, (closL cells names acc).lookup y = some c -> cells.lookup y = some c) /\ ((y, NameKind.free) ∈ names \/ (∃ c, acc.lookup y = some c) -> ∃ c, (closL cells names acc).lookup y = some c)
 | [], acc, _, h => ⟨h, fun q => by
  rcases q with q | q
  ·cases q
  ·exact q⟩
 | (n, kd) :: r, acc, hh, h => by
  by_cases hk : (kd == NameKind.free) = true
  ·obtain ⟨a, ha⟩ := hh (n, kd) List.mem_cons_self (eq_of_beq hk)
   have ha : cells.lookup n = some a := ha
   have e : closL cells ((n, kd) :: r) acc = closL cells r ((n, a) :: acc) := by
    simp [closL, hk, ha]
   rw [e]
   obtain ⟨i1, i2⟩ := closL_look (y := y) r ((n, a) :: acc) (fun z hz => hh z (List.mem_cons_of_mem _ hz)) (fun c q => by
    rw [List.lookup_cons] at q
    cases hy : y == n with
    | true => rw [hy] at q; cases q; rw [eq_of_beq hy]; exact ha
    | false => rw [hy] at q; exact h c q)
   refine ⟨i1, fun q => i2 ?_⟩
   rcases q with q | ⟨c, q⟩
   ·rcases List.mem_cons.mp q with q | q
    ·right
     cases q
     exact ⟨a, List.lookup_cons_self⟩
    ·exact .inl q
   ·right
    rw [List.lookup_cons]
    cases hy : y == n with
    | true => exact ⟨a, rfl⟩
    | false => exact ⟨c, q⟩
  ·have e : closL cells ((n, kd) :: r) acc = closL cells r acc := by simp [closL, hk]
   rw [e]
   obtain ⟨i1, i2⟩ := closL_look (y := y) r acc (fun z hz => hh z (List.mem_cons_of_mem _ hz)) h
   refine ⟨i1, fun q => i2 ?_⟩
   rcases q with q | q
   ·rcases List.mem_cons.mp q with q | q
    ·cases q; exact absurd rfl hk
    ·exact .inl q
   ·exact .inr q
theorem rel_names (x : XOk Γ B cf k X c) (sc : Scope) : (relabel sc X.env).names = relK c.names sc.names := by
 unfold relabel relK
 simp only [x.kd, Env.kindOf, x.nm]
 congr 1
 funext y
 have e : (ScopeKind.function == ScopeKind.function) = true := rfl
 rw [e, Bool.and_true]
theorem relK_free {names l : List (Str × NameKind)} {y : Str} {kd : NameKind} (hc : ∀ z ∈ l, z.2 ≠ .cell) : (relK names l).lookup y = some kd -> kd = .cell \/ kd = .free -> (y, NameKind.free) ∈ l := by
 intro h hk
 induction l with
 | nil => cases h
 | cons p l ih =>
  obtain ⟨n, q⟩ := p
  have hq := hc (n, q) List.mem_cons_self
  show (y, NameKind.free) ∈ (n, q) :: l
  unfold relK at h
  rw [List.map_cons] at h
  by_cases e : (q == NameKind.free && names.lookup n == some .cell) = true
  ·simp only [e, if_true] at h
   rw [List.lookup_cons] at h
   cases hy : y == n with
   | true =>
    rw [Bool.and_eq_true] at e
    rw [eq_of_beq hy, eq_of_beq e.1]
    exact List.mem_cons_self
   | false =>
    rw [hy] at h
    exact List.mem_cons_of_mem _ (ih (fun z hz => hc z (List.mem_cons_of_mem _ hz)) h)
  ·simp only [e, Bool.false_eq_true, if_false] at h
   rw [List.lookup_cons] at h
   cases hy : y == n with
   | true =>
    rw [hy] at h
    cases h
    rcases hk with hk | hk
    ·exact absurd hk hq
    ·rw [hk, eq_of_beq hy]; exact List.mem_cons_self
   | false =>
    rw [hy] at h
    exact List.mem_cons_of_mem _ (ih (fun z hz => hc z (List.mem_cons_of_mem _ hz)) h)
theorem relK_look {names l : List (Str × NameKind)} {y : Str} (h : l.lookup y = some .free) : (relK names l).lookup y = some .cell \/ (relK names l).lookup y = some .free := by
 induction l with
 | nil => cases h
 | cons p l ih =>
  obtain ⟨n, q⟩ := p
  rw [List.lookup_cons] at h
  unfold relK
  rw [List.map_cons]
  cases hy : y == n with
  | true =>
   rw [hy] at h
   cases h
   by_cases e : (NameKind.free == NameKind.free && names.lookup n == some .cell) = true
   ·left
    simp only [e, if_true, List.lookup_cons, hy]
   ·right
    simp only [e, Bool.false_eq_true, if_false, List.lookup_cons, hy]
  | false =>
   rw [hy] at h
   have := ih h
   by_cases e : (q == NameKind.free && names.lookup n == some .cell) = true
   ·simp only [e, if_true, List.lookup_cons, hy]; exact this
   ·simp only [e, Bool.false_eq_true, if_false, List.lookup_cons, hy]; exact this
theorem compG_of (x : XOk Γ B cf k X c) {sc : Scope} {js : List Nat} {xs : List Str} (h : chkS c sc js = true) : CompG X sc (closL X.env.cells sc.names []) xs js := by
 unfold chkS at h
 simp only [Bool.and_eq_true, List.all_eq_true, beq_iff_eq] at h
 obtain ⟨⟨⟨⟨⟨h1, h2⟩, h3⟩, h4⟩, h5⟩, h6⟩ := h
 have hc : ∀ y ∈ sc.names, y.2 ≠ .cell := fun y hy => by simpa using h2 y hy
 have hcell : ∀ y ∈ sc.names, y.2 = .free -> ∃ a, X.env.cells.lookup y.1 = some a := fun y hy hf => by
  have := h5 y hy
  rw [hf] at this
  refine x.cells y.1 ?_
  simpa using this
 refine ⟨clos_eq hcell, hc, h1, fun y hy hl => ?_, fun y c' q => (closL_look sc.names [] hcell (fun _ q => by cases q)).1 c' q, fun y hy => ?_, fun j hj y hy => ?_, fun j hj => ?_⟩
 ·have := h3 y hy
  rw [hl] at this
  simpa using this
 ·rw [rel_names x] at hy
  refine (closL_look sc.names [] hcell (fun _ q => by cases q)).2 (.inl ?_)
  rcases hy with q | q
  ·exact relK_free hc q (.inl rfl)
  ·exact relK_free hc q (.inr rfl)
 ·have q := h6 j hj
  rw [x.N] at hy
  rw [hy] at q
  simp only [Bool.and_eq_true, Bool.or_eq_true, beq_iff_eq] at q
  refine ⟨?_, ?_, (closL_look sc.names [] hcell (fun _ q => by cases q)).2 (.inl (PySem.mem_of_lookup q.2)), ?_⟩
  ·unfold Vis
   rw [x.nm]
   rcases q.1 with z | z
   ·exact .inr (.inl z)
   ·exact .inr (.inr z)
  ·unfold Env.kindOf
   rw [x.nm]
   rcases q.1 with z | z <;> rw [z] <;> decide
  ·rw [rel_names x]
   exact relK_look q.2
 ·have q := h6 j hj
  cases e : c.N[j]? with
  | none => rw [e] at q; cases q
  | some y => rw [x.N]; exact (List.getElem?_eq_some_iff.mp e).1
theorem xok_inner (x : XOk Γ B cf k X c) {sc : Scope} {js : List Nat} {xs : List Str} (h : chkS c sc js = true) (hn : (xs ++ js.map (fun j => c.N.getD j "")).Nodup) (C : Addr) (s3 : Shared) (H3 : Hp) (fp : List Addr) :
  XOk Γ B cf k (cxG X sc (closL X.env.cells sc.names []) xs js C s3 H3 fp) (inner c sc xs js) := by
 have K := compG_of (xs := xs) x h
 refine ⟨x.hK, rel_names x sc, K.kind, by show xs ++ js.map (fun j => X.N.getD j "") = _; rw [x.N]; rfl, by show (xs ++ js.map (fun j => X.N.getD j "")).Nodup; rw [x.N]; exact hn, fun q => absurd (show false = true from q) Bool.false_ne_true, x.calm, x.room, fun y hy => ?_, x.fns, x.bare, x.consts, x.fa⟩
 have hy' : (relabel sc X.env).names.lookup y = some .cell \/ (relabel sc X.env).names.lookup y = some .free := by rw [rel_names x]; exact hy
 exact K.has y hy'
end
end EV
namespace L2
open PySem PySem.Spec PyProof.Rows
section
variable {X : Cx} {tg : Expr}
theorem it_seq {pins : List (Addr × Obj)} {σ : St} {H : Hp} {s : Shared} {R : It -> Hp -> Prop} {a : Addr} (I : Inv X pins σ H s) (h : ((∃ xs, SqL X.K H a xs) /\ R (Itl X.K a) H) \/ ((∃ xs, SqT X.K H a xs) /\ R (Itt X.K a) H)) : wpAny (model X.prog X.w) X.A (pyIter (.ref a)) (PIE X pins σ tg R) X.xe s := by
 have fp : ∀ b ∈ [s.heap.objs.size], FpOk X pins H b := fun b hb => by
  rw [List.mem_singleton.mp hb]
  exact I.fpOk (Nat.le_refl _) (I.hok.fresh (Nat.le_refl _))
 rcases h with ⟨⟨xs, hq⟩, q⟩ | ⟨⟨xs, hq⟩, q⟩
 ·obtain ⟨its, rv, p, hz⟩ := I.list hq
  exact wpAny_pyIter_list p.isList ⟨s.heap.objs.size, [s.heap.objs.size], _, _, H, rfl, I.kept (t' := s.toks) fun b o e => Heap.get?_push_of_some _ e, turn_list a _, ⟨_, Heap.get?_push_size _ rfl, rfl, rfl⟩, fp, q⟩
 ·obtain ⟨its, rv, p, hz⟩ := I.tuple hq
  exact wpAny_pyIter_tuple (show s.heap.IsTuple a its.toArray from p) ⟨s.heap.objs.size, [s.heap.objs.size], _, _, H, rfl, I.kept (t' := s.toks) fun b o e => Heap.get?_push_of_some _ e, turn_tuple a _, ⟨_, Heap.get?_push_size _ rfl, rfl, rfl⟩, fp, q⟩
noncomputable def Its (x : Str) : It := ⟨fun i _ => i < x.cps.size, fun i H v H' => H' = H /\ ∃ c, x.cps[i]? = some c /\ v = .str ⟨#[c]⟩, fun i _ => x.cps.size <= i⟩
theorem turn_strA {P : Program} {w : World} {K : PySem.W.Frag} {tg : Expr} (x : Str) (t : Tok) (it : Addr) : Turn P w K tg (Its x) [it] it (fun i h => h.IsStrIter it "str_ascii_iterator" x t i) where
 mem := by simp
 obj := fun i h st b hb => by
  have e : b = it := by simpa using hb
  subst e
  obtain ⟨o, e, c, d⟩ := st
  exact ⟨o, e, fun v z => by rw [d] at z; cases z⟩
 keep := fun i h h' st k => by
  obtain ⟨o, e, r⟩ := st
  exact ⟨o, k it (by simp) o e, r⟩
 item := by
  intro X hP hw hK hc i pins s σ H E I hf st hg
  subst hP hw hK
  obtain ⟨f0, f1, f2, f3, f4, f5⟩ := hf it (by simp)
  refine (Walks.strAscii (prog := X.prog) (w := X.w) (I.ok.hd hc) it x t).item i s _ _ hg st fun v h' tk hv st' kk => ?_
  obtain ⟨c, u, h1, rfl⟩ := hv
  have I1 : Inv X pins σ H { s with heap := h', toks := tk } := I.turned (fun b o hb e => kk b o (by simpa using hb) e) f0 f1 f3 f4 f5
  obtain ⟨o, e, c1, d⟩ := id st'
  exact ⟨_, rfl, go_of (s := { s with heap := h', toks := tk }) e c1 d (by decide) ⟨.str ⟨#[c]⟩, H, I1, ⟨u, rfl⟩, ⟨rfl, c, h1, rfl⟩, st', fun b hb => (hf b hb).1⟩⟩
 done := by
  intro X hP hw hK hc i pins s σ H E I hf st hg
  subst hP hw hK
  obtain ⟨f0, f1, f2, f3, f4, f5⟩ := hf it (by simp)
  have hg : x.cps.size <= i := hg
  exact wpAny_pyNext_ascii_end (I.ok.hd hc) st (by simp [hg]) fun h' eb => ⟨rfl, I.turned (t' := s.toks) (fun b o hb e => eb b o hb e) f0 f1 f3 f4 f5⟩
 self := fun _ _ _ _ _ st h => wpAny_pyIter_striter_ascii st h
theorem turn_strW {P : Program} {w : World} {K : PySem.W.Frag} {tg : Expr} (x : Str) (t : Tok) (it : Addr) : Turn P w K tg (Its x) [it] it (fun i h => h.IsStrIter it "str_iterator" x t i) where
 mem := by simp
 obj := fun i h st b hb => by
  have e : b = it := by simpa using hb
  subst e
  obtain ⟨o, e, c, d⟩ := st
  exact ⟨o, e, fun v z => by rw [d] at z; cases z⟩
 keep := fun i h h' st k => by
  obtain ⟨o, e, r⟩ := st
  exact ⟨o, k it (by simp) o e, r⟩
 item := by
  intro X hP hw hK hc i pins s σ H E I hf st hg
  subst hP hw hK
  obtain ⟨f0, f1, f2, f3, f4, f5⟩ := hf it (by simp)
  refine (Walks.strWide (prog := X.prog) (w := X.w) (I.ok.hd hc) it x t).item i s _ _ hg st fun v h' tk hv st' kk => ?_
  obtain ⟨c, u, h1, rfl⟩ := hv
  have I1 : Inv X pins σ H { s with heap := h', toks := tk } := I.turned (fun b o hb e => kk b o (by simpa using hb) e) f0 f1 f3 f4 f5
  obtain ⟨o, e, c1, d⟩ := id st'
  exact ⟨_, rfl, go_of (s := { s with heap := h', toks := tk }) e c1 d (by decide) ⟨.str ⟨#[c]⟩, H, I1, ⟨u, rfl⟩, ⟨rfl, c, h1, rfl⟩, st', fun b hb => (hf b hb).1⟩⟩
 done := by
  intro X hP hw hK hc i pins s σ H E I hf st hg
  subst hP hw hK
  obtain ⟨f0, f1, f2, f3, f4, f5⟩ := hf it (by simp)
  have hg : x.cps.size <= i := hg
  exact wpAny_pyNext_wide_end (I.ok.hd hc) st (by simp [hg]) fun h' eb => ⟨rfl, I.turned (t' := s.toks) (fun b o hb e => eb b o hb e) f0 f1 f3 f4 f5⟩
 self := fun _ _ _ _ _ st h => wpAny_pyIter_striter_wide st h
theorem it_sign {pins : List (Addr × Obj)} {σ : St} {H : Hp} {s : Shared} {R : It -> Hp -> Prop} {z : Str} {t : Tok} (I : Inv X pins σ H s) (h : R (Its z) H) : wpAny (model X.prog X.w) X.A (pyIter (.str z t)) (PIE X pins σ tg R) X.xe s := by
 have fp : ∀ b ∈ [s.heap.objs.size], FpOk X pins H b := fun b hb => by
  rw [List.mem_singleton.mp hb]
  exact I.fpOk (Nat.le_refl _) (I.hok.fresh (Nat.le_refl _))
 cases ha : z.cps.all (· < 128) with
 | false => exact wpAny_pyIter_wide ha ⟨s.heap.objs.size, [s.heap.objs.size], _, _, H, rfl, I.kept (t' := s.toks) fun b o e => Heap.get?_push_of_some _ e, turn_strW z t _, ⟨_, Heap.get?_push_size _ rfl, rfl, rfl⟩, fp, h⟩
 | true => exact wpAny_pyIter_ascii ha ⟨s.heap.objs.size, [s.heap.objs.size], _, _, H, rfl, I.kept (t' := s.toks) fun b o e => Heap.get?_push_of_some _ e, turn_strA z t _, ⟨_, Heap.get?_push_size _ rfl, rfl, rfl⟩, fp, h⟩
theorem pi_seq {l : Expr} {tl : TE} (hl : PE X l tl) : PI X tg l (fun σ H R => tl σ H fun x H1 => (∃ a, x = .ref a /\ (((∃ xs, SqL X.K H1 a xs) /\ R (Itl X.K a) H1) \/ ((∃ xs, SqT X.K H1 a xs) /\ R (Itt X.K a) H1))) \/ ∃ z, x = .str z /\ R (Its z) H1) := by
 intro pins s σ H R I h
 refine thn (hl pins s σ H _ I h) fun v s1 ⟨x, H1, I1, r1, q⟩ => ?_
 rcases q with ⟨a, e, q⟩ | ⟨z, e, q⟩
 ·subst e
  cases r1
  exact it_seq I1 q
 ·subst e
  obtain ⟨t, rfl⟩ := r1
  exact it_sign I1 q
end
end L2
namespace EV
open PySem PySem.Spec PyProof.Rows L2
section
variable {Γ : Gm} {H₀ : Hp} {ρ : List Slot}
theorem set_get {α : Type} {l : List α} {i j : Nat} {a b : α} : (l.set i a)[j]? = some b -> (i = j /\ i < l.length /\ b = a) \/ (i ≠ j /\ l[j]? = some b) := by
 intro h
 by_cases e : i = j
 ·subst e
  by_cases hi : i < l.length
  ·rw [List.getElem?_set_self hi] at h
   cases h
   exact .inl ⟨rfl, hi, rfl⟩
  ·rw [List.set_eq_of_length_le (by omega)] at h
   rw [List.getElem?_eq_none (by omega)] at h
   cases h
 ·rw [List.getElem?_set_ne e] at h
  exact .inr ⟨e, h⟩
theorem EnvO.setSh {H : Hp} {g : G} {σ : L2.St} {i : Nat} {d : D} {v : V} (env : EnvO Γ H₀ H g ρ σ) (h : Has Γ g d v) : EnvO Γ H₀ H g (ρ.set i (.sh d)) (σ.set i (some v)) := by
 have hl := env.len
 refine ⟨by simp [hl], fun j e q => ?_, fun j e q => ?_, fun j j' e e' a q1 q2 q3 q4 => ?_⟩
 ·rcases set_get q with ⟨rfl, h1, h2⟩ | ⟨h1, h2⟩
  ·cases h2
   exact ⟨v, List.getElem?_set_self (by omega), h⟩
  ·obtain ⟨u, e1, e2⟩ := env.sh j e h2
   exact ⟨u, by rw [List.getElem?_set_ne h1]; exact e1, e2⟩
 ·rcases set_get q with ⟨rfl, h1, h2⟩ | ⟨h1, h2⟩
  ·cases h2
  ·obtain ⟨a, e1, e2⟩ := env.ow j e h2
   exact ⟨a, by rw [List.getElem?_set_ne h1]; exact e1, e2⟩
 ·rcases set_get q1 with ⟨rfl, h1, h2⟩ | ⟨h1, h2⟩
  ·cases h2
  ·rcases set_get q2 with ⟨rfl, h3, h4⟩ | ⟨h3, h4⟩
   ·cases h4
   ·rw [List.getElem?_set_ne h1] at q3
    rw [List.getElem?_set_ne h3] at q4
    exact env.inj j j' e e' a h2 h4 q3 q4
theorem EnvO.setOw {H : Hp} {g : G} {σ : L2.St} {i : Nat} {d : D} {a : Addr} (env : EnvO Γ H₀ H g ρ σ) (h0 : H₀ a = none) (hr : g.R a = none) (ha : a ∉ g.α) (hc : CellOk Γ H g a d) (hi : isIns d = false)
  (ne : ∀ (j : Nat) (d' : D), ρ[j]? = some (.ow d') -> j ≠ i -> σ[j]? ≠ some (some (.ref a))) : EnvO Γ H₀ H g (ρ.set i (.ow d)) (σ.set i (some (.ref a))) := by
 have hl := env.len
 refine ⟨by simp [hl], fun j e q => ?_, fun j e q => ?_, fun j j' e e' b q1 q2 q3 q4 => ?_⟩
 ·rcases set_get q with ⟨rfl, h1, h2⟩ | ⟨h1, h2⟩
  ·cases h2
  ·obtain ⟨u, e1, e2⟩ := env.sh j e h2
   exact ⟨u, by rw [List.getElem?_set_ne h1]; exact e1, e2⟩
 ·rcases set_get q with ⟨rfl, h1, h2⟩ | ⟨h1, h2⟩
  ·cases h2
   exact ⟨a, List.getElem?_set_self (by omega), h0, hr, ha, hc, hi⟩
  ·obtain ⟨b, e1, e2⟩ := env.ow j e h2
   exact ⟨b, by rw [List.getElem?_set_ne h1]; exact e1, e2⟩
 ·rcases set_get q1 with ⟨rfl, h1, h2⟩ | ⟨h1, h2⟩
  ·rcases set_get q2 with ⟨rfl, h3, h4⟩ | ⟨h3, h4⟩
   ·rfl
   ·rw [List.getElem?_set_self (by omega)] at q3
    cases q3
    rw [List.getElem?_set_ne h3] at q4
    exact absurd q4 (ne j' e' h4 (Ne.symm h3))
  ·rcases set_get q2 with ⟨rfl, h3, h4⟩ | ⟨h3, h4⟩
   ·rw [List.getElem?_set_self (by omega)] at q4
    cases q4
    rw [List.getElem?_set_ne h1] at q3
    exact absurd q3 (ne j e h2 (Ne.symm h1))
   ·rw [List.getElem?_set_ne h1] at q3
    rw [List.getElem?_set_ne h3] at q4
    exact env.inj j j' e e' b h2 h4 q3 q4
theorem gNames_ow {Q : L2.St -> Hp -> Prop} {H : Hp} {g : G} : ∀ {is : List Nat} {ds : List D} {vs : List V} {ρ : List Slot} {σ : L2.St}, is.length = ds.length -> Hass Γ g ds vs -> EnvO Γ H₀ H g ρ σ ->
  (∀ σ', EnvO Γ H₀ H g ((is.zip ds).foldl (fun r p => r.set p.1 (.sh p.2)) ρ) σ' -> Q σ' H) -> gNames is vs σ H Q
 | [], [], vs, ρ, σ, _, h, env, q => by
  cases (show vs = [] from h)
  exact ⟨rfl, q σ env⟩
 | i :: is, d :: ds, vs, ρ, σ, hl, ⟨v, r, e, hd, hr⟩, env, q => by
  subst e
  exact ⟨v, r, rfl, gNames_ow (by simpa using hl) hr (env.setSh hd) q⟩
 | [], _ :: _, _, _, _, hl, _, _, _ => by simp at hl
 | _ :: _, [], _, _, _, hl, _, _, _ => by simp at hl
theorem tg_bind {K : PySem.W.Frag} {t : T} {ρ' : List Slot} {H : Hp} {g : G} {σ : L2.St} {d : D} {fr : Bool} {v : V} {Q : L2.St -> Hp -> Prop} (hb : bindT ρ t (d, fr) = some ρ') (env : EnvO Γ H₀ H g ρ σ) (sr : Same g.R H) (vo : VOk Γ H₀ d fr v H g)
  (ne : fr = true -> ∀ (i : Nat) (d : D), ρ[i]? = some (.ow d) -> σ[i]? ≠ some (some v)) (q : ∀ σ', EnvO Γ H₀ H g ρ' σ' -> Q σ' H) : tgOf K t v σ H Q := by
 cases t with
 | one i =>
  simp only [bindT] at hb
  split at hb
  ·rename_i hc
   rw [Bool.and_eq_true] at hc
   have hi : isIns d = false := by simpa using hc.2
   cases hb
   refine q _ ?_
   cases fr with
   | false => exact env.setSh vo
   | true =>
    obtain ⟨a, e, h0, hr, ha, hcell⟩ := (show ∃ a, v = .ref a /\ H₀ a = none /\ g.R a = none /\ a ∉ g.α /\ CellOk Γ H g a d from vo)
    subst e
    exact env.setOw h0 hr ha hcell hi fun j d' h _ => ne rfl j d' h
  ·cases hb
 | tup is =>
  cases d with
  | tup ds =>
   simp only [bindT] at hb
   split at hb
   ·rename_i hc
    cases hb
    have hv : Has Γ g (.tup ds) v := by
     cases fr with
     | false => exact vo
     | true => obtain ⟨_, _, _, _, _, hc⟩ := (show ∃ a, v = .ref a /\ H₀ a = none /\ g.R a = none /\ a ∉ g.α /\ CellOk Γ H g a (.tup ds) from vo); exact hc.elim
    obtain ⟨a, vs, rfl, h1, h2⟩ := hv
    exact ⟨a, vs, rfl, SqT.of (sr _ _ h1), by rw [h2.len, hc.1], gNames_ow hc.1 h2 env q⟩
   ·cases hb
  | _ => simp [bindT] at hb
 | nst i is =>
  have hb : ((nst2 d).bind fun p => if i < ρ.length /\ is.length = p.2.length /\ is.Nodup /\ is.all (· < ρ.length) then some ((is.zip p.2).foldl (fun r p => r.set p.1 (.sh p.2)) (ρ.set i (.sh p.1))) else none) = some ρ' := by cases d <;> exact hb
  cases e : nst2 d with
  | none => rw [e] at hb; cases hb
  | some p =>
   rw [e] at hb
   obtain ⟨y, ds⟩ := p
   have ed := nst2_is e
   subst ed
   have hb : (if i < ρ.length /\ is.length = ds.length /\ is.Nodup /\ is.all (· < ρ.length) then some ((is.zip ds).foldl (fun r p => r.set p.1 (.sh p.2)) (ρ.set i (.sh y))) else none) = some ρ' := hb
   by_cases hc : i < ρ.length /\ is.length = ds.length /\ is.Nodup /\ is.all (· < ρ.length)
   ·rw [if_pos hc] at hb
    cases hb
    have hv : Has Γ g (.tup [y, .tup ds]) v := by
     cases fr with
     | false => exact vo
     | true => obtain ⟨_, _, _, _, _, hc⟩ := (show ∃ a, v = .ref a /\ H₀ a = none /\ g.R a = none /\ a ∉ g.α /\ CellOk Γ H g a (.tup [y, .tup ds]) from vo); exact hc.elim
    obtain ⟨a, vs, rfl, h1, h2⟩ := hv
    obtain ⟨u, u2, rfl, h3, h4⟩ := h2.two
    obtain ⟨b, ws, rfl, h5, h6⟩ := h4
    exact ⟨a, _, rfl, SqT.of (sr _ _ h1), rfl, u, _, rfl, .ref b, [], rfl, b, ws, rfl, SqT.of (sr _ _ h5), by rw [h6.len, hc.2.1], gNames_ow hc.2.1 h6 (env.setSh h3) fun σ' env' => ⟨rfl, q σ' env'⟩⟩
   ·rw [if_neg hc] at hb; cases hb
end
structure ItOk (Γ : Gm) (J : It) (l : List D) (g : G) : Prop where
 go : ∀ (i : Nat) (H : Hp) (g' : G), Le g g' -> Same g'.R H -> i < l.length -> J.go i H
 stop : ∀ (i : Nat) (H : Hp) (g' : G), Le g g' -> Same g'.R H -> l.length <= i -> J.stop i H
 yld : ∀ (i : Nat) (H : Hp) (g' : G) (S : Store) (z : V) (H' : Hp) (d : D), Le g g' -> WOk Γ H g' S -> l[i]? = some d -> J.yld i H z H' -> ∃ g2, Step H g' H' g2 /\ Same H H' /\ WOk Γ H' g2 S /\ Has Γ g2 d z
noncomputable def TXi (Γ : Gm) (cf : Cf) (e : E) : TI := fun σ H Q => ∃ ρ S W g H₀, wpI cf ρ e W S /\ WOk Γ H g S /\ EnvO Γ H₀ H g ρ σ /\ ∀ l J H' g' S', Step H g H' g' -> WOk Γ H' g' S' -> ItOk Γ J l g' -> W l S' -> Q J H'
noncomputable def TXf (Γ : Gm) (cf : Cf) (es : List E) : TT := fun σ H Q => ∃ ρ S W g H₀, wpF cf ρ es W S /\ WOk Γ H g S /\ EnvO Γ H₀ H g ρ σ /\ ∀ b H' g' S', Step H g H' g' -> WOk Γ H' g' S' -> W b S' -> Q b H'
theorem goI {Γ : Gm} {cf : Cf} {σ : L2.St} {H : Hp} {P : Prop} {e : E} {Q} (h : TXi Γ cf e σ H Q) (f : ∀ ρ S W g H₀, wpI cf ρ e W S -> WOk Γ H g S -> EnvO Γ H₀ H g ρ σ -> (∀ l J H' g' S', Step H g H' g' -> WOk Γ H' g' S' -> ItOk Γ J l g' -> W l S' -> Q J H') -> P) : P :=
 let ⟨ρ, S, V, g, H₀, a, b, c, d⟩ := h; f ρ S V g H₀ a b c d
theorem goF {Γ : Gm} {cf : Cf} {σ : L2.St} {H : Hp} {P : Prop} {es : List E} {Q} (h : TXf Γ cf es σ H Q) (f : ∀ ρ S W g H₀, wpF cf ρ es W S -> WOk Γ H g S -> EnvO Γ H₀ H g ρ σ -> (∀ b H' g' S', Step H g H' g' -> WOk Γ H' g' S' -> W b S' -> Q b H') -> P) : P :=
 let ⟨ρ, S, V, g, H₀, a, b, c, d⟩ := h; f ρ S V g H₀ a b c d
section
variable {X : Cx} {Γ : Gm} {S : Store} {x y z tgt : Expr} {pos p tp : Pos} {cf : Cf} {a b : E} {elts : List Expr} {kk : Nat}
theorem PI.imp {wi wi' : TI} (h : PI X tgt x wi) (i : ∀ σ H Q, wi' σ H Q -> wi σ H Q) : PI X tgt x wi' := fun pins s σ H Q I q => h pins s σ H Q I (i σ H Q q)
theorem it_lst {a : Addr} {vs : List V} {l : List D} {g : G} (h : ∀ g', Le g g' -> ∀ H, Same g'.R H -> SqL X.K H a vs) (hh : Hass Γ g l vs) : ItOk Γ (Itl X.K a) l g where
 go := fun i H g' le sr hi => ⟨vs, vs[i]'(by rw [hh.len]; exact hi), h g' le H sr, by simp [hh.len, hi]⟩
 stop := fun i H g' le sr hi => ⟨vs, h g' le H sr, by rw [hh.len]; exact hi⟩
 yld := fun i H g' S z H' d le w hd y => by
  obtain ⟨e, y⟩ := y
  subst e
  obtain ⟨v, hv, hd'⟩ := hh.get hd
  have e2 := y vs (h g' le _ w.rh)
  rw [hv] at e2
  cases e2
  exact ⟨g', Step.refl _ _, Same.refl _, w, hd'.mono le⟩
theorem it_tup {a : Addr} {vs : List V} {l : List D} {g : G} (h : ∀ g', Le g g' -> ∀ H, Same g'.R H -> SqT X.K H a vs) (hh : Hass Γ g l vs) : ItOk Γ (Itt X.K a) l g where
 go := fun i H g' le sr hi => ⟨vs, vs[i]'(by rw [hh.len]; exact hi), h g' le H sr, by simp [hh.len, hi]⟩
 stop := fun i H g' le sr hi => ⟨vs, h g' le H sr, by rw [hh.len]; exact hi⟩
 yld := fun i H g' S z H' d le w hd y => by
  obtain ⟨e, y⟩ := y
  subst e
  obtain ⟨v, hv, hd'⟩ := hh.get hd
  have e2 := y vs (h g' le _ w.rh)
  rw [hv] at e2
  cases e2
  exact ⟨g', Step.refl _ _, Same.refl _, w, hd'.mono le⟩
theorem it_str {z : Str} {g : G} : ItOk Γ (Its z) (z.cps.toList.map fun c => D.str ⟨#[c]⟩) g where
 go := fun i H g' le sr hi => by
  show i < z.cps.size
  simpa using hi
 stop := fun i H g' le sr hi => by
  show z.cps.size <= i
  simpa using hi
 yld := fun i H g' S v H' d le w hd y => by
  obtain ⟨e, c, e1, e2⟩ := y
  subst e e2
  refine ⟨g', Step.refl _ _, Same.refl _, w, ?_⟩
  rw [List.getElem?_map, Array.getElem?_toList, e1] at hd
  cases hd
  rfl
theorem it_rng {lo : Int} {n : Nat} {g : G} : ItOk Γ (Itr lo n) ((List.range n).map fun (k : Nat) => D.int (lo + (k : Int))) g where
 go := fun i H g' le sr hi => by
  show i < n
  simpa using hi
 stop := fun i H g' le sr hi => by
  show n <= i
  simpa using hi
 yld := fun i H g' S z H' d le w hd y => by
  obtain ⟨e, y⟩ := y
  subst e y
  refine ⟨g', Step.refl _ _, Same.refl _, w, ?_⟩
  rw [List.getElem?_map] at hd
  cases q : (List.range n)[i]? with
  | none => rw [q] at hd; cases hd
  | some j =>
   rw [q] at hd
   cases hd
   have := (List.getElem?_eq_some_iff.mp q).2
   simp at this
   subst this
   rfl
theorem s_seq (hK : X.K = Γ.K) (h : PE X x (TX Γ cf a)) : PI X tgt x (TXi Γ cf (.seq a)) :=
 PI.imp (pi_seq h) fun σ H Q h0 => goI h0 fun ρ S W g H₀ hw w env k => ⟨ρ, S, _, g, H₀, hw, w, env, fun x v H1 g1 S1 st w1 vx h => by
  obtain ⟨g2, st2, w2, hx, q⟩ := vx.keep st w1 h
  obtain ⟨l, el, q⟩ := opt_is q
  generalize x.1 = d at *
  cases d with
  | lst l' =>
   cases el
   obtain ⟨a, vs, e1, h1, h2⟩ := hx
   exact .inl ⟨a, e1, .inl ⟨⟨vs, SqL.of (w2.rh _ _ h1)⟩, k _ _ H1 g2 S1 st2 w2 (it_lst (fun g3 le H2 sr => SqL.of (sr _ _ (le.rr _ _ h1))) h2) q⟩⟩
  | tup l' =>
   cases el
   obtain ⟨a, vs, e1, h1, h2⟩ := hx
   exact .inl ⟨a, e1, .inr ⟨⟨vs, SqT.of (w2.rh _ _ h1)⟩, k _ _ H1 g2 S1 st2 w2 (it_tup (fun g3 le H2 sr => SqT.of (sr _ _ (le.rr _ _ h1))) h2) q⟩⟩
  | scr ns =>
   cases el
   obtain ⟨a, e1, h1⟩ := hx
   exact .inl ⟨a, e1, .inl ⟨⟨_, by rw [hK]; exact w2.rh.seq h1⟩, k _ _ H1 g2 S1 st2 w2 (it_lst (fun g3 le H2 sr => by rw [hK]; exact sr.seq (le.rr.seq h1)) Hass.ints) q⟩⟩
  | str z =>
   cases el
   exact .inr ⟨z, hx, k _ _ H1 g2 S1 st2 w2 it_str q⟩
  | ktp l' =>
   cases el
   obtain ⟨a, vs, e1, h1, h2⟩ := hx
   exact .inl ⟨a, e1, .inr ⟨⟨vs, by rw [hK]; exact .inr h1⟩, k _ _ H1 g2 S1 st2 w2 (it_tup (fun g3 le H2 sr => by rw [hK]; exact .inr h1) h2) q⟩⟩
  | _ => cases el⟩
theorem s_rng1 (hg : Gl X "range") (hm : X.mg "range" = none) (hs : notStar x = true) (h : PE X x (TX Γ cf a)) : PI X tgt (.Call (.Name "range" p) [x] [] pos) (TXi Γ cf (.rng none a)) :=
 PI.imp (pi_range1 hg hm (pa_cons h pa_nil (starEach_of hs _ _)) (starEach_of hs _ _)) fun σ H Q h0 => goI h0 fun ρ S W g H₀ hw w env k => ⟨ρ, S, _, g, H₀, hw, w, env, fun x v H1 g1 S1 st w1 vx h => by
  obtain ⟨j, e, q⟩ := vx.int h
  obtain ⟨hf, q⟩ := tst_is q
  rw [Bool.and_eq_true] at hf
  have h1 : j.toNat <= 1000000 := of_decide_eq_true hf.1
  have h2 : -1000000 <= j := of_decide_eq_true hf.2
  refine ⟨j, by rw [e], by omega, by omega, k _ _ H1 g1 S1 st w1 ?_ q⟩
  have := it_rng (Γ := Γ) (lo := 0) (n := (j - 0).toNat) (g := g1)
  rw [show (j - 0).toNat = j.toNat by omega] at this
  rw [show rangeD 0 j = (List.range j.toNat).map fun (k : Nat) => D.int (0 + (k : Int)) by unfold rangeD; rw [show (j - 0).toNat = j.toNat by omega]]
  exact this⟩
theorem s_fn : PTs X [] (TXf Γ cf []) := fun pins s σ H Q I h0 => goF h0 fun ρ S W g H₀ hw w env k => pts_nil pins s σ H Q I (k true H g S (Step.refl H g) w hw)
theorem s_f1 (h : PT X x (TB Γ cf a)) : PTs X [x] (TXf Γ cf [a]) := fun pins s σ H Q I h0 => goF h0 fun ρ S W g H₀ hw w env k => pts_one h pins s σ H Q I ⟨ρ, S, _, g, H₀, hw, w, env, fun x H1 g1 S1 st w1 h => by
 obtain ⟨b, e, q⟩ := isB_is h
 rw [e]
 exact k b H1 g1 S1 st w1 q⟩
end
end EV
namespace EV
open PySem PySem.Spec PyProof.Rows L2
theorem fold_get {α β : Type} {f : α -> β} : ∀ (l : List (Nat × α)) (r : List β) (i : Nat), (∀ p ∈ l, p.1 ≠ i) -> (l.foldl (fun r p => r.set p.1 (f p.2)) r)[i]? = r[i]?
 | [], _, _, _ => rfl
 | p :: l, r, i, h => by
  rw [List.foldl_cons, fold_get l _ i fun q hq => h q (List.mem_cons_of_mem _ hq), List.getElem?_set_ne (h p List.mem_cons_self)]
theorem fold_len {α β : Type} {f : α -> β} : ∀ (l : List (Nat × α)) (r : List β), (l.foldl (fun r p => r.set p.1 (f p.2)) r).length = r.length
 | [], _ => rfl
 | p :: l, r => by rw [List.foldl_cons, fold_len l, List.length_set]
theorem bindT_keep {ρ ρ' : List Slot} {t : T} {d : D} (hn : isNst t = false) (h : bindT ρ t (d, false) = some ρ') : ρ'.length = ρ.length /\ ∀ i, i ∉ tIs t -> ρ'[i]? = ρ[i]? := by
 cases t with
 | one j =>
  simp only [bindT] at h
  split at h
  ·cases h
   exact ⟨by simp, fun i hi => by rw [List.getElem?_set_ne]; rintro rfl; exact hi (by simp [tIs])⟩
  ·cases h
 | tup is =>
  cases d with
  | tup ds =>
   simp only [bindT] at h
   split at h
   ·cases h
    refine ⟨fold_len _ _, fun i hi => fold_get _ _ i fun p hp => ?_⟩
    rintro rfl
    obtain ⟨p1, p2⟩ := p
    exact hi (List.of_mem_zip hp).1
   ·cases h
  | _ => simp [bindT] at h
 | nst _ _ => cases hn
theorem inn_get {ρ : List Slot} {t : T} {js : List Nat} {i : Nat} {s : Slot} (h : (inn ρ t js)[i]? = some s) : s = .no \/ (nT t <= i /\ ∃ j, js[i - nT t]? = some j /\ ρ[j]? = some s) := by
 unfold inn at h
 by_cases hi : i < nT t
 ·rw [List.getElem?_append_left (by simpa using hi), List.getElem?_replicate, if_pos hi] at h
  cases h; exact .inl rfl
 ·rw [List.getElem?_append_right (by simpa using Nat.le_of_not_lt hi), List.length_replicate, List.getElem?_map] at h
  cases e : js[i - nT t]? with
  | none => rw [e] at h; cases h
  | some j =>
   rw [e] at h
   cases q : ρ[j]? with
   | none => simp [q] at h; exact .inl h.symm
   | some z => simp [q] at h; subst h; exact .inr ⟨by omega, j, rfl, q⟩
theorem rows_get {σ : L2.St} {js : List Nat} {n i j : Nat} {v : V} (hi : n <= i) (hj : js[i - n]? = some j) (h : σ[j]? = some (some v)) : (List.replicate n none ++ rows σ js)[i]? = some (some v) := by
 rw [List.getElem?_append_right (by simpa using hi), List.length_replicate]
 unfold rows
 rw [List.getElem?_map, hj]
 simp [List.getD_eq_getElem?_getD, h]
section
variable {Γ : Gm} {H₀ H : Hp} {g : G} {ρ : List Slot} {σ τ : L2.St} {t : T} {js : List Nat}
theorem env_inn (env : EnvO Γ H₀ H g ρ σ) (hj : js.Nodup) : EnvO Γ H₀ H g (inn ρ t js) (List.replicate (nT t) none ++ rows σ js) := by
 refine ⟨by simp [inn, rows], fun i d e => ?_, fun i d e => ?_, fun i j d e a h1 h2 h3 h4 => ?_⟩
 ·rcases inn_get e with q | ⟨hi, j, e1, e2⟩
  ·cases q
  ·obtain ⟨v, h1, h2⟩ := env.sh j d e2
   exact ⟨v, rows_get hi e1 h1, h2⟩
 ·rcases inn_get e with q | ⟨hi, j, e1, e2⟩
  ·cases q
  ·obtain ⟨a, h1, h2⟩ := env.ow j d e2
   exact ⟨a, rows_get hi e1 h1, h2⟩
 ·rcases inn_get h1 with q | ⟨hi, k, e1, e2⟩
  ·cases q
  rcases inn_get h2 with q | ⟨hi', k', e1', e2'⟩
  ·cases q
  obtain ⟨b, q1, _⟩ := env.ow k d e2
  obtain ⟨b', q1', _⟩ := env.ow k' e e2'
  have z := rows_get hi e1 q1
  have z' := rows_get hi' e1' q1'
  rw [h3] at z
  rw [h4] at z'
  cases z
  cases z'
  have hk := env.inj k k' d e a e2 e2' q1 q1'
  subst hk
  have := (List.getElem?_inj (List.getElem?_eq_some_iff.mp e1).1 hj).mp (e1.trans e1'.symm)
  omega
theorem env_back {ρ' : List Slot} {d : D} (hn : isNst t = false) (hix : ∀ i ∈ tIs t, i < nT t) (hs : bindT (inn ρ t js) t (d, false) = some ρ') (env : EnvO Γ H₀ H g ρ' τ) : EnvO Γ H₀ H g (inn ρ t js) τ := by
 obtain ⟨h1, h2⟩ := bindT_keep hn hs
 have key : ∀ i s, (inn ρ t js)[i]? = some s -> s ≠ Slot.no -> ρ'[i]? = some s := fun i s e ne => by
  rw [h2 i fun m => ?_]
  ·exact e
  ·rcases inn_get e with q | ⟨hi, _⟩
   ·exact ne q
   ·have := hix i m; omega
 exact ⟨h1.symm.trans env.len, fun i d e => env.sh i d (key i _ e (by simp)), fun i d e => env.ow i d (key i _ e (by simp)), fun i j d e a q1 q2 q3 q4 => env.inj i j d e a (key i _ q1 (by simp)) (key j _ q2 (by simp)) q3 q4⟩
end
section
variable {X : Cx} {Γ : Gm} {cf : Cf} {t : T} {js : List Nat} {it elt : E} {ifs : List E}
noncomputable def cStep (cf : Cf) (ρ : List Slot) (t : T) (js : List Nat) (ifs : List E) (elt : E) : D -> (Option D -> Store -> Prop) -> Store -> Prop := fun d K S => opt (bindT (inn ρ t js) t (d, false)) fun ρ' => wpF cf ρ' ifs (fun b S1 => tst b (wpE cf ρ' elt (fun x S2 => keep x fun d => K (some d) S2) S1) (K none S1)) S
theorem comp_inv {n : Nat} {Qe : Addr -> Hp -> Prop} {σ : L2.St} {H : Hp} {V : Po} {ρ : List Slot} {S : Store} {g : G} {H₀ : Hp} (hn : isNst t = false) (hix : ∀ i ∈ tIs t, i < nT t) (ht : nT t = n) (hjs : js.Nodup) (hw : wpE cf ρ (.comp t js it ifs elt) V S) (w : WOk Γ H g S) (env : EnvO Γ H₀ H g ρ σ)
  (k : ∀ ds Da H' g' S', Step H g H' g' -> WOk Γ H' g' S' -> VN Γ H (.lst ds, .fr) (.ref Da) H' g' -> V (.lst ds, .fr) S' -> Qe Da H') : tCompG n js (TXi Γ cf it) (tgOf X.K t) (TXf Γ cf ifs) (TX Γ cf elt) Qe σ H := by
 subst ht
 refine ⟨ρ, S, _, g, H₀, hw, w, env, fun l J H1 g1 S1 st1 w1 hJ h1 Da hDa => ?_⟩
 have h1 : walkW (cStep cf ρ t js ifs elt) l [] (fun ds S2 => V (.lst ds, .fr) S2) S1 := h1
 refine ⟨fun i m ys τ H2 => m = l.length - i /\ i <= l.length /\ ∃ g2 S2 acc, Step H1 g1 H2 g2 /\ WOk Γ H2 g2 S2 /\ EnvO Γ (upd H₀ Da (.lst [])) H2 g2 (inn ρ t js) τ /\ H2 Da = some (.lst ys) /\ g2.R Da = none /\ Da ∉ g2.α /\ Hass Γ g2 acc ys /\ fits acc.length = true /\ walkW (cStep cf ρ t js ifs elt) (l.drop i) acc (fun ds S2 => V (.lst ds, .fr) S2) S2, ⟨_, rfl, Nat.zero_le _, g1, S1, [], ?_⟩, ?_⟩
 ·have st := (Step.refl H1 g1).off_upd (o := .lst []) hDa
  have e1 := env_step (env_inn (t := t) env hjs) st1
  refine ⟨st, w1.laid hDa, env_step ⟨e1.len, e1.sh, fun i d e => ?_, e1.inj⟩ st, upd_same, w1.notR hDa, w1.notA hDa, rfl, rfl, h1⟩
  obtain ⟨b, f1, f2, f3, f4, f5, f6⟩ := e1.ow i d e
  obtain ⟨o, ho, _⟩ := f5.isMut
  exact ⟨b, f1, by rw [upd_ne (ne_of_none ho hDa)]; exact f2, f3, f4, f5, f6⟩
 ·rintro i m ys τ H2 ⟨rfl, hi, g2, S2, acc, st2, w2, env2, hD2, hR2, hA2, hh2, hf2, hr2⟩
  by_cases hlt : i < l.length
  ·refine .inr ⟨hJ.go i H2 g2 st2.le w2.rh hlt, fun z H3 hy => ?_⟩
   obtain ⟨g3, st3, _, w3, hz⟩ := hJ.yld i H2 g2 S2 z H3 l[i] st2.le w2 (List.getElem?_eq_getElem hlt) hy
   rw [List.drop_eq_getElem_cons hlt] at hr2
   obtain ⟨hD3, hR3, hA3⟩ := st3.kept hD2 hR2 hA2
   obtain ⟨ρ', es, hr3⟩ := opt_is (show opt (bindT (inn ρ t js) t (l[i], false)) _ from hr2)
   refine tg_bind es (env_step env2 st3) w3.rh (fr := false) hz (fun h => by cases h) fun τ3 env3 => ⟨ρ', S2, _, g3, _, hr3, w3, env3, fun b H4 g4 S4 st4 w4 h4 => ?_⟩
   obtain ⟨hD4, hR4, hA4⟩ := st4.kept hD3 hR3 hA3
   cases b with
   | false =>
    rw [if_neg Bool.false_ne_true]
    exact ⟨l.length - (i + 1), by omega, rfl, hlt, g4, S4, acc, (st2.trans st3).trans st4, w4, env_back hn hix es (env_step env3 st4), hD4, hR4, hA4, hh2.mono (st3.le.trans st4.le), hf2, h4⟩
   | true =>
    rw [if_pos rfl]
    refine ⟨ρ', S4, _, g4, _, h4, w4, env_step env3 st4, fun x v H5 g5 S5 st5 w5 vx h5 => ?_⟩
    obtain ⟨g6, st6, w6, hx, q⟩ := vx.keep st5 w5 h5
    obtain ⟨hf, q⟩ := tst_is q
    obtain ⟨hD5, hR5, hA5⟩ := st6.kept hD4 hR4 hA4
    have st7 := (((st2.trans st3).trans st4).trans st6).off_upd (o := .lst (ys ++ [v])) hDa
    have env6 := env_back hn hix es (env_step (env_step env3 st4) st6)
    refine ⟨hD5, by rw [hh2.len]; exact lim_lt hf2, l.length - (i + 1), by omega, rfl, hlt, g6, S5, acc ++ [x.1], st7, w6.off_upd hR5 hA5, ?_, upd_same, hR5, hA5, (hh2.mono ((st3.le.trans st4.le).trans st6.le)).app (Hass.mk1 hx), by rw [List.length_append]; exact hf, q⟩
    refine ⟨env6.len, env6.sh, fun i d e => ?_, env6.inj⟩
    obtain ⟨b, f1, f2, f3, f4, f5, f6⟩ := env6.ow i d e
    have hb : b ≠ Da := by
     rintro rfl
     rw [upd_same] at f2; cases f2
    exact ⟨b, f1, f2, f3, f4, f5.mono (Le.refl g6) fun o z => by rw [upd_ne hb]; exact z, f6⟩
  ·have e : i = l.length := by omega
   subst e
   refine .inl ⟨hJ.stop _ H2 g2 st2.le w2.rh (Nat.le_refl _), ?_⟩
   rw [List.drop_length] at hr2
   exact k acc Da H2 g2 S2 (st1.trans st2) w2 ⟨Da, rfl, st1.noneOf hDa, hR2, hA2, ys, hD2, hh2⟩ hr2
end
end EV
namespace HT
open PySem PySem.Spec PyProof.Rows PySem.W
section
variable {prog : Program} {w : World} {A : Around} {E : Value -> Shared -> Prop} {s : Shared}
theorem sliceApplied_rev {sl : Addr} {vz : Value} {n : Nat} {Q : Int × Int × Nat -> Shared -> Prop} (hs : s.heap.IsSliceOf sl .none .none vz) (pz : IsPart vz (some (-1)))
  (h : Q ((n : Int) - 1, -1, n) s) : wpAny (model prog w) A (Builtin.Slice.sliceApplied (.ref sl) (pure (n : Int))) Q E s := by
 obtain ⟨os, hos, hcs, hds⟩ := id hs
 unfold Builtin.Slice.sliceApplied Builtin.Slice.sliceFields
 refine wpAny_bind (wpAny_bind (wpAny_field hos hds (x := .none) rfl (wpAny_bind (wpAny_field hos hds (x := .none) rfl (wpAny_bind (wpAny_field hos hds (x := vz) rfl (wpAny_pure ?_)))))))
 refine wpAny_bind (slicePart_ pz ?_)
 show wpAny _ _ (if ((-1 : Int) == 0) = true then _ else _) _ _ s
 rw [if_neg (by decide)]
 refine wpAny_bind (slicePart_ .none (wpAny_bind (slicePart_ .none (wpAny_bind (wpAny_pure ?_)))))
 show wpAny _ _ (pure ((n : Int) - 1, (-1 : Int), Builtin.Slice.slicePlaces ((n : Int) - 1) (-1) (-1))) _ _ s
 have e : Builtin.Slice.slicePlaces ((n : Int) - 1) (-1) (-1) = n := by
  show (if ((n : Int) - 1) > -1 then (((n : Int) - 1) - (-1) - 1) / (- -1) + 1 else 0).toNat = n
  rw [show (- -1 : Int) = 1 from rfl, Int.ediv_one]
  split <;> omega
 rw [e]
 exact wpAny_pure h
theorem pick_back (its : List Value) : ((List.range its.length).filterMap fun (m : Nat) => its.toArray[(((its.length : Int) - 1) + (m : Int) * -1).toNat]?).toArray = its.reverse.toArray := by
 have e : (List.range its.length).map (fun (m : Nat) => its.toArray[(((its.length : Int) - 1) + (m : Int) * -1).toNat]?) = its.reverse.map some := by
  apply List.ext_getElem?
  intro i
  rw [List.getElem?_map, List.getElem?_map]
  by_cases h : i < its.length
  ·rw [List.getElem?_range h, List.getElem?_reverse h]
   have e : (((its.length : Int) - 1) + (i : Int) * -1).toNat = its.length - 1 - i := by omega
   rw [Option.map_some, e, List.getElem?_toArray, List.getElem?_eq_getElem (by omega)]
   rfl
  ·rw [List.getElem?_eq_none (by rw [List.length_range]; omega), List.getElem?_eq_none (by rw [List.length_reverse]; omega)]
   rfl
 have e2 : (List.range its.length).filterMap (fun (m : Nat) => its.toArray[(((its.length : Int) - 1) + (m : Int) * -1).toNat]?) = ((List.range its.length).map fun (m : Nat) => its.toArray[(((its.length : Int) - 1) + (m : Int) * -1).toNat]?).filterMap id := by rw [List.filterMap_map]; rfl
 rw [e2, e, List.filterMap_map]
 congr 1
 exact List.filterMap_some
theorem getItem_tuple_rev {t sl : Addr} {its : List Value} {vz : Value} {Q : Value -> Shared -> Prop} (ht : IsTup s.heap t its.toArray) (hs : s.heap.IsSliceOf sl .none .none vz) (pz : IsPart vz (some (-1)))
  (h : Q (.ref s.heap.objs.size) { s with heap := s.heap.push { cls := .type "tuple", data := .seq its.reverse.toArray } })
  (hsz : its.length <= sizeLine) : wpAny (model prog w) A (getItem (.ref t) (.ref sl)) Q E s := by
 have htake : sizeOk (.seq its.reverse.toArray) := by
  show its.reverse.toArray.size <= sizeLine
  rw [List.size_toArray, List.length_reverse]; exact hsz
 obtain ⟨os, hos, hcs, hds⟩ := id hs
 have hTs : s.TypeIs (.ref sl) "slice" := ⟨os, hos, hcs⟩
 unfold getItem
 try with_reducible refine wpAny_holding ?_
 first | refine wpAny_bind (wpAny_pure ?_) | skip
 refine wpAny_bind (wpAny_sequenceKey ht.typeIs (by decide) ?_)
 refine wpAny_bind (wpAny_callSpecial?_slot (name := Str.ofString "__getitem__") ht.typeIs PyProof.Rows.slot_tuple_getitem
  (wpAny_call_entry PyProof.Rows.slot_tuple_getitem ht.typeIs entry_tuple_getitem ?_ (args_tuple_getitem _ _)))
 show wpAny _ _ (Builtin.Tuple.tupleItemsOf (.ref t) >>= _) _ _ s
 refine wpAny_bind (tupleItemsOf_ ht ?_)
 refine wpAny_bind (wpAny_typeOf hTs ?_)
 rw [if_pos (by decide)]
 refine wpAny_bind (sliceApplied_rev (n := its.toArray.size) hs pz ?_)
 have hno : ¬ ((((its.toArray.size : Int) - 1) == 0 && (-1 : Int) == 1 && its.toArray.size == its.toArray.size) = true) := by
  rw [show ((-1 : Int) == 1) = false from rfl, Bool.and_false, Bool.false_and]
  exact Bool.false_ne_true
 show wpAny _ _ (if (((its.toArray.size : Int) - 1) == 0 && (-1 : Int) == 1 && its.toArray.size == its.toArray.size) = true then _ else _) _ _ s
 rw [if_neg hno, List.size_toArray, pick_back]
 first
  | exact wpAny_bind (m := Builtin.Tuple.tupleExact _) (wpAny_newObj_type (wpAny_pure ⟨_, rfl, wpAny_pure h⟩) htake)
  | exact wpAny_bind (m := Builtin.Tuple.tupleExact _) (wpAny_newObj_type (wpAny_bind (wpAny_pure (wpAny_pure ⟨_, rfl, wpAny_pure h⟩))) htake)
  | exact wpAny_bind (wpAny_bind (m := Builtin.Tuple.tupleExact _) (wpAny_newObj_type (wpAny_pure (wpAny_pure ⟨_, rfl, wpAny_pure h⟩)) htake))
  | exact wpAny_bind (wpAny_bind (m := Builtin.Tuple.tupleExact _) (wpAny_newObj_type (wpAny_pure ⟨_, rfl, wpAny_pure h⟩) htake))
end
end HT
namespace L2
open PySem PyProof PyProof.Rows PySem.W
theorem pick_all (l : List Value) : (List.range l.length).filterMap (fun i => l.toArray[i]?) = l := by
 have h : (List.range l.length).map (fun i => l.toArray[i]?) = l.map some := by
  apply List.ext_getElem?
  intro i
  rw [List.getElem?_map, List.getElem?_map]
  by_cases h : i < l.length
  ·rw [List.getElem?_range h, List.getElem?_eq_getElem h]
   simp
  ·rw [List.getElem?_eq_none (by rw [List.length_range]; omega), List.getElem?_eq_none (by omega)]
   rfl
 have e : (List.range l.length).filterMap (fun i => l.toArray[i]?) = ((List.range l.length).map fun i => l.toArray[i]?).filterMap id := by rw [List.filterMap_map]; rfl
 rw [e, h, List.filterMap_map]
 exact List.filterMap_some
theorem pick_rev (its : List Value) : slicePick its.toArray none none (some (-1)) = its.reverse.toArray := by
 unfold slicePick sliceRange
 rw [List.size_toArray]
 have e : (List.range its.length).map (fun (k : Nat) => (((its.length : Int) - 1) + -1 * (k : Int)).toNat) = (List.range its.length).reverse := by
  apply List.ext_getElem?
  intro i
  rw [List.getElem?_map]
  by_cases h : i < its.length
  ·rw [List.getElem?_range h, List.getElem?_reverse (by rw [List.length_range]; exact h), List.length_range, List.getElem?_range (by omega)]
   show some (((its.length : Int) - 1) + -1 * (i : Int)).toNat = some (its.length - 1 - i)
   congr 1
   omega
  ·rw [List.getElem?_eq_none (by rw [List.length_range]; omega), List.getElem?_eq_none (by rw [List.length_reverse, List.length_range]; omega)]
   rfl
 have c : (if ((its.length : Int) - 1) > -1 then (((its.length : Int) - 1) - (-1) - (-1) - 1) / (-(-1)) else 0).toNat = its.length := by
  rw [show (-(-1) : Int) = 1 from rfl, Int.ediv_one]
  split <;> omega
 show ((List.map (fun (k : Nat) => (((its.length : Int) - 1) + -1 * (k : Int)).toNat) (List.range (if ((its.length : Int) - 1) > -1 then (((its.length : Int) - 1) - (-1) - (-1) - 1) / (-(-1)) else 0).toNat)).filterMap (its.toArray[·]?)).toArray = _
 rw [c, e, List.filterMap_reverse, pick_all]
variable {X : Cx} {x st : Expr} {te ts : TE} {p2 pos : Pos}
noncomputable def rFl (K : PySem.W.Frag) (x : V) (H : Hp) (Q : VK) : Prop := ∃ a xs, x = .ref a /\ ((SqL K H a xs /\ ∀ p, H p = none -> Q (.ref p) (upd H p (.lst xs.reverse))) \/ (SqT K H a xs /\ ∀ p, H p = none -> Q (.ref p) (upd H p (.tup xs.reverse))))
noncomputable def tFl (K : PySem.W.Frag) (te : TE) (tz : TO) : TE := fun σ H Q => te σ H fun x H1 => tz σ H1 fun z H2 => z = some (-1) /\ rFl K x H2 Q
theorem pe_flip {tz : TO} (he : PE X x te) (hz : PO X (some st) tz) : PE X (.Subscript x (.Slice none none (some st) p2) pos) (tFl X.K te tz) := by
 intro pins s σ H Q I h
 refine Subscript_ (thn (he pins s σ H _ I h) fun v s1 ⟨y, H1, I1, r1, q1⟩ => ?_)
 refine wpAny_Slice ?_
 rw [evalPart_none]
 refine wpAny_pure (wpAny_pure (thn (hz pins s1 σ H1 _ I1 q1) fun vz s3 ⟨z, H3, I3, pz, ez, a, xs, ey, hq⟩ => ?_))
 subst ez ey
 cases r1
 have I4 : Inv X pins σ H3 { s3 with heap := s3.heap.push { cls := .type "slice", data := .fields #[.none, .none, vz] } } := I3.kept (t' := s3.toks) fun b ob q => Heap.get?_push_of_some _ q
 show wpAny (model X.prog X.w) X.A (subscriptTail x (.Slice none none (some st) p2) _ (.ref s3.heap.objs.size)) (EP X pins σ Q) X.xe { s3 with heap := s3.heap.push { cls := .type "slice", data := .fields #[.none, .none, vz] } }
 rcases hq with ⟨hx, q3⟩ | ⟨hx, q3⟩
 ·obtain ⟨its, r, ht, hn⟩ := I4.list hx
  have hl := r.length
  refine tail_any (ops := [.ref a, .ref s3.heap.objs.size]) ht.isList.typeIs slot_list_getitem.lookup ?_ (by with_unfolding_all rfl)
  refine wpAny_getItem_list_slice ht.isList (Heap.IsSliceOf.new ..) .none .none pz (by simp) ?_ (by rw [List.size_toArray] <;> omega)
  rw [pick_rev]
  refine ⟨.ref _, _, I4.laid (t' := s3.toks) (o := .lst xs.reverse) (fun b ob q => Heap.get?_push_of_some _ q) (Nat.le_refl _) ?_, rfl, q3 _ (I4.hok.fresh (Nat.le_refl _))⟩
  exact ⟨by rw [List.length_reverse]; exact hn, _, 0, r.reverse, Heap.get?_push_size _ rfl⟩
 ·obtain ⟨its, r, ht, hn⟩ := I4.tuple hx
  have hl := r.length
  refine tail_any (ops := [.ref a, .ref s3.heap.objs.size]) ht.typeIs slot_tuple_getitem.lookup ?_ (by with_unfolding_all rfl)
  refine HT.getItem_tuple_rev ht (Heap.IsSliceOf.new ..) pz ?_ (by omega)
  refine ⟨.ref _, _, I4.laid (t' := s3.toks) (o := .tup xs.reverse) (fun b ob q => Heap.get?_push_of_some _ q) (Nat.le_refl _) ?_, rfl, q3 _ (I4.hok.fresh (Nat.le_refl _))⟩
  exact ⟨by rw [List.length_reverse]; exact hn, _, r.reverse, IsTup.new _ _⟩
end L2
namespace EV
open PySem PySem.Spec PyProof.Rows L2
noncomputable def spN (Γ : Gm) (cf : Cf) (f n : Nat) : Sp := fun vs H Q _ => vs.length = n /\ ∃ g ds S V, WOk Γ H g S /\ Hass Γ g ds vs /\ cf f ds V S /\ ∀ x v H' g' S', Step H g H' g' -> WOk Γ H' g' S' -> VN Γ H x v H' g' -> V x S' -> Q v H'
noncomputable def CfN (B : Tb) (cf : Cf) : Prop := ∀ f ds V S ps, B.pars[f]? = some ps -> cf f ds V S -> ds.length = ps.length
section
variable {X : Cx} {Γ : Gm} {B : Tb} {cf : Cf} {k : Nat} {c : Cc} {x y z : Expr} {pos p : Pos} {a : E} {es : List E}
theorem back_plain {xs : List Expr} {env : Env} {pos : Pos} (h : ∀ x ∈ xs, notStar x = true) : (backTo pos (starEach xs env)).any (·.1) = false := by
 induction xs with
 | nil => rfl
 | cons a l ih =>
  rw [starEach_of (h a List.mem_cons_self)]
  show (false || (backTo pos (starEach l env)).any (·.1)) = false
  rw [ih fun z hz => h z (List.mem_cons_of_mem _ hz)]
  rfl
set_option tactic.hygienic true in
theorem boot_bi (b : BI) : bootBuiltins (biS b) = some (biV b) := by
 cases b with
 | isinst q => cases q <;> decide +kernel
 | _ => decide +kernel
theorem s_call {f : Nat} {n : Str} {xs : List Expr} (hcf : CfN B cf) (ok : XOk Γ B (spN Γ cf) k X c) (hf : B.fns[f]? = some n) (hg : Gl X n) (hdb : (n == ("__debug__" : Str)) = false) (hs : ∀ z ∈ x :: xs, notStar z = true) (h : PA X (x :: xs) (TXs Γ cf es)) : PE X (.Call (.Name n p) (x :: xs) [] pos) (TX Γ cf (.call f es)) := by
 obtain ⟨a, fd, ps, h1, h2, h3, h4, h5, h6, _⟩ := (ok.fns f n hf).ex
 refine (pe_call h6 ok.room hg h2 h3 h4 .nil pass0 h hdb (starEach_of (hs x List.mem_cons_self) _ _) (back_plain fun z hz => hs z (List.mem_cons_of_mem _ hz))).imp fun σ H Q h0 => goX h0 fun ρ S V g H₀ hw w env kk => ⟨ρ, S, _, g, H₀, hw, w, env, fun ds vs H1 g1 S1 st w1 hv hc => ?_⟩
 show spN Γ cf f ps.length (vs ++ []) _ _ _
 rw [List.append_nil]
 exact ⟨by rw [hv.len]; exact hcf f ds V S1 ps h5 hc, g1, ds, S1, V, w1, hv, hc, fun x v H2 g2 S2 st2 w2 vx q => kk x v H2 g2 S2 (st.trans st2) w2 (vx.back st) q⟩
theorem s_knil : PK X [] (TXs Γ cf []) := fun pos pins s σ H Q I h0 => goS h0 fun ρ S W g H₀ hw w env kk => pk_nil pos pins s σ H Q I (kk [] [] H g S (Step.refl H g) w rfl hw)
theorem s_kcons {n : Str} {kp : Pos} {kws : List Keyword} (h1 : PE X x (TX Γ cf a)) (h2 : PK X kws (TXs Γ cf es)) : PK X (⟨some n, x, kp⟩ :: kws) (TXs Γ cf (a :: es)) := fun pos pins s σ H Q I h => pk_cons h1 h2 pos pins s σ H Q I (args_cons h)
theorem mapM_perm {g : G} {ds ds' : List D} {vs : List V} {perm : List Nat} (h : perm.mapM (fun i => ds[i]?) = some ds') (hv : Hass Γ g ds vs) : Hass Γ g ds' (perm.map fun i => vs.getD i .non) := by
 induction perm generalizing ds' with
 | nil =>
  simp at h
  subst h
  rfl
 | cons i r ih =>
  rw [List.mapM_cons] at h
  cases e : ds[i]? with
  | none => rw [e] at h; cases h
  | some d =>
   rw [e] at h
   simp only [Option.bind_eq_bind, Option.bind_some] at h
   cases e2 : r.mapM (fun i => ds[i]?) with
   | none => rw [e2] at h; cases h
   | some l =>
    rw [e2] at h
    cases h
    obtain ⟨v, hv', hd⟩ := hv.get e
    refine ⟨v, _, ?_, hd, ih e2⟩
    simp [List.getD_eq_getElem?_getD, hv']
theorem kwn_all {kws : List Keyword} {ks : List Str} {env : Env} {pos : Pos} (h : kwNames kws = some ks) : (backToKw pos (keywordEach kws env)).all (·.1.isSome) = true /\ (backToKw pos (keywordEach kws env)).filterMap (·.1) = ks /\ (backToKw pos (keywordEach kws env)).any (·.1.isNone) = false := by
 induction kws generalizing ks with
 | nil => cases h; exact ⟨rfl, rfl, rfl⟩
 | cons q r ih =>
  obtain ⟨n, v, kp⟩ := q
  cases n with
  | none => cases h
  | some n =>
   simp only [kwNames, Option.map_eq_some_iff] at h
   obtain ⟨l, h1, h2⟩ := h
   subst h2
   obtain ⟨i1, i2, i3⟩ := ih h1
   refine ⟨?_, ?_, ?_⟩
   ·show (true && (backToKw pos (keywordEach r env)).all (·.1.isSome)) = true
    rw [i1]; rfl
   ·show n :: (backToKw pos (keywordEach r env)).filterMap (·.1) = n :: l
    rw [i2]
   ·show (false || (backToKw pos (keywordEach r env)).any (·.1.isNone)) = false
    rw [i3]; rfl
theorem s_callk {f : Nat} {n : Str} {kws : List Keyword} {ks ps : List Str} {perm : List Nat} (hm : Mono cf) (ok : XOk Γ B (spN Γ cf) k X c) (hf : B.fns[f]? = some n) (hg : Gl X n) (hdb : (n == ("__debug__" : Str)) = false) (h : PK X kws (TXs Γ cf es))
  (hk : kwNames kws = some ks) (hp : B.pars[f]? = some ps) (h1 : perm.length = ps.length) (h2 : ∀ i ∈ perm, i < ks.length) (h3 : perm.map (fun i => ks.getD i "") = ps) (h4 : ks.length = ps.length) (h5 : (f, ks, perm) ∈ B.kws) (h6 : es.length = ks.length) : PE X (.Call (.Name n p) [] kws pos) (TX Γ cf (.callk f perm es)) := by
 obtain ⟨a, fd, ps', g1, g2, g3, g4, g5, g6, g7⟩ := (ok.fns f n hf).ex
 have e5 : ps' = ps := Option.some.inj (g5.symm.trans hp)
 subst e5
 obtain ⟨k1, k2, k3⟩ := kwn_all (env := X.env) (pos := pos) hk
 refine (pe_callK0 g6 ok.room hg g2 g3 (g7 ks perm h1 h2 h3 h4 h5) pass0 h k1 k2 hdb (by rw [k3]; rfl)).imp fun σ H Q h0 => goX h0 fun ρ S V g H₀ hw w env kk => ⟨ρ, S, _, g, H₀, wpEs_len hm es hw, w, env, fun ds vs H1 g1 S1 st w1 hv ⟨hc, hl⟩ => ?_⟩
 obtain ⟨ds', em, hc⟩ := opt_is hc
 have hz : vs.length = ks.length := by rw [hv.len, hl, h6]
 show spN Γ cf f ps'.length (if vs.length = ks.length then [] ++ perm.map fun i => vs.getD i .non else []) _ _ _
 rw [if_pos hz, List.nil_append]
 exact ⟨by simp [h1], g1, ds', S1, V, w1, mapM_perm em hv, hc, fun x v H2 g2 S2 st2 w2 vx q => kk x v H2 g2 S2 (st.trans st2) w2 (vx.back st) q⟩
theorem bi_pe {b : BI} {xs : List Expr} {t : TA} {e : E} (ok : XOk Γ B (spN Γ cf) k X c) (hg : Gl X (biS b)) (hm : X.mg (biS b) = none) (hs : ∀ z ∈ x :: xs, notStar z = true) (h : PA X (x :: xs) t) (i : ∀ σ H Q, TX Γ cf e σ H Q -> t σ H fun vs H1 => clAny X (biV b) vs H1 Q) : PE X (.Call (.Name (biS b) p) (x :: xs) [] pos) (TX Γ cf e) := by
 have hn : biS b ≠ ("__name__" : Str) := by
  cases b with
  | isinst q => cases q <;> decide
  | _ => decide
 have hdb : (biS b == ("__debug__" : Str)) = false := by
  cases b with
  | isinst q => cases q <;> decide
  | _ => decide
 have he := starEach_of (hs x List.mem_cons_self) xs X.env
 have hpl := back_plain (pos := pos) (env := X.env) fun z hz => hs z (List.mem_cons_of_mem _ hz)
 have bb := boot_bi b
 cases hb : biV b with
 | builtin id => rw [hb] at bb i; exact (pe_callB cl_any hg hm bb h hn hdb he hpl).imp i
 | type T => rw [hb] at bb i; exact (pe_callTy cl_any hg hm bb h hn hdb he hpl).imp i
 | _ => cases b <;> cases hb
theorem s_is {t : Ty} {pz : Pos} (ok : XOk Γ B (spN Γ cf) k X c) (hg : Gl X "isinstance") (hm : X.mg "isinstance" = none) (hgt : Gl X (tyN t)) (hmt : X.mg (tyN t) = none) (hs : notStar x = true) (h : PE X x (TX Γ cf a)) : PE X (.Call (.Name "isinstance" p) [x, .Name (tyN t) pz] [] pos) (TX Γ cf (.bi (.isinst t) [a])) := by
 have hvt : bootBuiltins (tyN t) = some (.type (tyS t)) := by cases t <;> decide +kernel
 have hn : tyN t ≠ ("__name__" : Str) := by cases t <;> decide
 have hdb : (tyN t == ("__debug__" : Str)) = false := by cases t <;> decide
 refine (pe_callB (id := "isinstance") cl_any hg hm (by decide +kernel) (pa_cons h (pa_cons (pe_bltn (v := .ty (tyS t)) hgt hmt hvt rfl hn hdb) pa_nil rfl) (starEach_of hs _ _)) (by decide) (by decide) (starEach_of hs _ _) rfl).imp fun σ H Q h0 => goX h0 fun ρ S V g H₀ hw w env kk => ⟨ρ, S, _, g, H₀, hw, w, env, fun x v H1 g1 S1 st w1 vx h1 => ?_⟩
 obtain ⟨⟨d, fr⟩, eb, q⟩ := opt_is h1
 have eb : (isTy t (deref S1 x.1)).map (fun b => (D.bl b, false)) = some (d, fr) := eb
 cases e2 : isTy t (deref S1 x.1) with
 | none => rw [e2] at eb; cases eb
 | some b =>
  rw [e2] at eb
  cases eb
  obtain ⟨r, r1, r2⟩ := is_rdc (X := X) (Γ := Γ) ok.hK e2
  exact ⟨r, r1, r2 S1 H1 g1 v Q w1 (vx.rdb w1) (kk (.bl b, .st) _ H1 g1 S1 st w1 rfl q)⟩
noncomputable def PPd (X : Cx) (pos : Pos) (keys : List (Option Expr)) (vals : List Expr) (ks : List Key) (t : TA) : Prop := ∃ trs, PPs X pos keys vals trs /\ ∀ σ H (Q : List (V × V) -> Hp -> Prop), t σ H (fun vs H' => Q ((ks.zip vs).map fun kv => (kV kv.1, kv.2)) H') -> tPairs trs σ H Q
theorem s_pnil : PPd X pos [] [] [] (TXs Γ cf []) := ⟨[], pps_nil, fun σ H Q h0 => goS h0 fun ρ S W g H₀ hw w env kk => kk [] [] H g S (Step.refl H g) w rfl hw⟩
theorem s_pcons {q : Const} {n : Nat} {p : Pos} {kx : Key} {keys : List (Option Expr)} {vals : List Expr} {ks : List Key} (hk : PE X (.Constant q n p) (tC (kV kx))) (h1 : PE X x (TX Γ cf a)) (h2 : PPd X pos keys vals ks (TXs Γ cf es)) : PPd X pos (some (.Constant q n p) :: keys) (x :: vals) (kx :: ks) (TXs Γ cf (a :: es)) := by
 obtain ⟨trs, hp, ht⟩ := h2
 refine ⟨_, pps_cons hk h1 hp, fun σ H Q h => ?_⟩
 obtain ⟨ρ, S, V, g, H₀, hw, w, env, kk⟩ := args_cons h
 exact ⟨ρ, S, V, g, H₀, hw, w, env, fun x v H1 g1 S1 st w1 vx q => ht σ H1 _ (kk x v H1 g1 S1 st w1 vx q)⟩
theorem rev_has {Γ : Gm} {g : G} : ∀ {ds : List D} {vs : List V}, Hass Γ g ds vs -> Hass Γ g ds.reverse vs.reverse := by
 intro ds
 induction ds with
 | nil =>
  intro vs h
  have e : vs = [] := h
  subst e
  exact h
 | cons d ds ih =>
  intro vs h
  obtain ⟨v, r, rfl, h1, h2⟩ := h
  rw [List.reverse_cons, List.reverse_cons]
  exact Hass.app (ih h2) (Hass.mk1 h1)
theorem isRev_is {y : Expr} (h : isRev y = true) : ∃ k a b c, y = .Slice none none (some (.UnaryOp .USub (.Constant (.int 1) k a) b)) c := by
 have hb : Nat.beq y.ctorIdx 26 = true := by revert h; cases y <;> first | exact non | exact fun _ => rfl
 revert h; apply ofSlice hb; clear hb; intro l u st p h
 cases l with
 | some _ => exact nobE h
 | none =>
  cases u with
  | some _ => exact nobE h
  | none =>
   cases st with
   | none => exact nobE h
   | some z =>
    have hb : Nat.beq z.ctorIdx 3 = true := by revert h; cases z <;> first | exact non | exact fun _ => rfl
    revert h; apply ofUnaryOp hb; clear hb; intro op z q h
    have hb : Nat.beq z.ctorIdx 19 = true := by revert h; cases z <;> first | exact non | exact fun _ => rfl
    revert h; apply ofConstant hb; clear hb; intro v n q2 h
    cases v with
    | int i =>
     have h : (op == PySem.UnaryOp.USub && i == 1) = true := h
     rw [Bool.and_eq_true] at h
     rw [eq_of_beq h.1, eq_of_beq h.2]
     exact ⟨n, q2, q, p, rfl⟩
    | _ => exact absurd h (by show ¬ (op == PySem.UnaryOp.USub && false) = true; rw [Bool.and_false]; exact Bool.false_ne_true)
theorem s_flip {k : Nat} {q1 q2 q3 : Pos} (h : PE X x (TX Γ cf a)) : PE X (.Subscript x (.Slice none none (some (.UnaryOp .USub (.Constant (.int 1) k q1) q2)) q3) pos) (TX Γ cf (.flip a)) :=
 (pe_flip h (po_some (pe_un un_neg pe_int))).imp fun σ H Q h0 => goX h0 fun ρ S V g H₀ hw w env kk => ⟨ρ, S, _, g, H₀, hw, w, env, fun x v H1 g1 S1 st w1 vx h1 => by
  refine ⟨1, rfl, -1, rfl, rfl, ?_⟩
  obtain ⟨pr, eb, q⟩ := opt_is h1
  have hd := vx.rdb w1
  generalize deref S1 x.1 = d at *
  cases d with
  | lst l =>
   cases eb
   obtain ⟨a, vs, e, h1, h2⟩ := hd
   exact ⟨a, vs, e, .inl ⟨SqL.of h1, fun p hp => fin_lst w1 (fun u H4 g4 st4 _ w4 vo => kk _ u H4 g4 S1 (st.trans st4) w4 ((VN.of (fr := true) vo).back st) q) (rev_has h2) hp⟩⟩
  | tup l =>
   cases eb
   obtain ⟨a, vs, e, h1, h2⟩ := hd
   exact ⟨a, vs, e, .inr ⟨SqT.of (w1.rh _ _ h1), fun p hp => fin_tup w1 (fun u H4 g4 st4 _ w4 vo => kk _ u H4 g4 S1 (st.trans st4) w4 ((VN.of (fr := false) vo).back st) q) (rev_has h2) hp⟩⟩
  | _ => cases eb⟩
end
end EV
namespace EV
open PySem PySem.Spec PyProof.Rows L2
open PySem.AutoSeq1 (wpAny_loadPart')
open PySem.MeetsSeq PySem.MeetsSeq2 PySem.MeetsSeq3 PySem.SeqAt PySem.SeqRoads2
theorem ix_loop {l : Addr} {us : Array Value} {n : Nat} {q : Option Addr} {sl : Array (Option Value)} {x : Value} {e : Nat -> Bool} {up : Int} {j : Nat} (hj : j < us.size) (hup : (j : Int) < up) (hit : e j = true) :
  ∀ (k i : Nat), j - i = k -> i <= j -> (∀ m, i <= m -> m < j -> e m = false) -> Meets (Builtin.«list.index.loop» ⟨[.ref l, x, rawInt i, rawInt up], []⟩)
   (fun A R s => s.heap.get? l = some { cls := .type "list", dict := q, data := .seq us n, slots := sl } /\ (∀ m (hm : m < us.size), EqAt A.in1 s us[m] x (e m)) /\ R (.ok (.ret (.int j s.toks))) { s with toks := s.toks + 1 })
 | 0, i, hk, hij, hno => by
  intro P w A R s z
  obtain ⟨hp, g, d, tk, os⟩ := s
  obtain ⟨z1, z2, z3⟩ := z
  obtain rfl : i = j := by omega
  wp_walk using wpAny_loadPart' z1
  have hi : (if (i : Int) < up then us[((i : Nat) : Int).toNat]? else none) = some us[i] := by simp [hup, hj]
  rw [hi]
  refine wpAny_bind (z2 i hj P w _ _ ?_)
  rw [hit]
  wp_walk
  exact z3
 | k + 1, i, hk, hij, hno => by
  intro P w A R s z
  obtain ⟨hp, g, d, tk, os⟩ := s
  obtain ⟨z1, z2, z3⟩ := z
  have il : i < us.size := by omega
  have iu : (i : Int) < up := by omega
  wp_walk using wpAny_loadPart' z1
  have hi : (if (i : Int) < up then us[((i : Nat) : Int).toNat]? else none) = some us[i] := by simp [iu, il]
  have ic : ((i : Int) + 1) = ((i + 1 : Nat) : Int) := by push_cast; rfl
  rw [hi]
  refine wpAny_bind (z2 i il P w _ _ ?_)
  rw [hno i (Nat.le_refl _) (by omega)]
  wp_walk
  rw [ic]
  exact ⟨plainId_quiet plain_index_loop _, codeAny_builtin entry_index_loop (by
   rw [Around.under_plainId plain_index_loop _]
   exact ix_loop hj hup hit k (i + 1) (by omega) (by omega) (fun m a b => hno m (by omega) b) P w A R _ ⟨z1, z2, z3⟩)⟩
theorem ix_list' {l : Addr} {us : Array Value} {n : Nat} {q : Option Addr} {sl : Array (Option Value)} {x : Value} {e : Nat -> Bool} {j : Nat} (hj : j < us.size) (hz : (j : Int) < 2 ^ 63 - 1) (hit : e j = true) (hno : ∀ m, m < j -> e m = false) :
  Meets (Builtin.«list.index» ⟨[.ref l, x], []⟩)
   (fun A R s => s.heap.get? l = some { cls := .type "list", dict := q, data := .seq us n, slots := sl } /\ (∀ m (hm : m < us.size), EqAt A.in1 s us[m] x (e m)) /\ R (.ok (.ret (.int j s.toks))) { s with toks := s.toks + 1 }) := by
 intro P w A R s z
 obtain ⟨hp, g, d, tk, os⟩ := s
 obtain ⟨z1, z2, z3⟩ := z
 wp_walk using wpAny_loadPart' z1
 have b1 : ((fun i : Int => if i < 0 then max 0 (i + (us.size : Int)) else i) ((none : Option Int).getD 0)) = ((0 : Nat) : Int) := by simp
 have b2 : ((fun i : Int => if i < 0 then max 0 (i + (us.size : Int)) else i) ((none : Option Int).getD (2 ^ 63 - 1))) = 2 ^ 63 - 1 := by simp
 rw [b1, b2]
 exact ⟨plainId_quiet plain_index_loop _, codeAny_builtin entry_index_loop (by
  rw [Around.under_plainId plain_index_loop _]
  exact ix_loop hj hz hit _ 0 rfl (Nat.zero_le _) (fun m _ b => hno m b) P w A R _ ⟨z1, z2, z3⟩)⟩
section
variable {X : Cx} {Γ : Gm} {S : Store} {x y : Expr} {pos : Pos}
theorem idx_spec : ∀ {l : List D} {d : D} {j : Nat}, idxD l d = some j -> j < l.length /\ eqP (l.getD j .non) d = true /\ ∀ m, m < j -> eqP (l.getD m .non) d = false
 | [], _, _, h => by cases h
 | a :: l, d, j, h => by
  have h : (if eqP a d = true then some 0 else (idxD l d).map (· + 1)) = some j := h
  by_cases ha : eqP a d = true
  ·rw [if_pos ha] at h
   cases h
   exact ⟨by simp, ha, fun m hm => by omega⟩
  ·rw [if_neg ha] at h
   cases e : idxD l d with
   | none => rw [e] at h; cases h
   | some i =>
    rw [e] at h
    cases h
    obtain ⟨h1, h2, h3⟩ := idx_spec e
    refine ⟨by simpa using h1, by simpa using h2, fun m hm => ?_⟩
    have hm : m < i + 1 := hm
    cases m with
    | zero => simpa using ha
    | succ m => simpa using h3 m (by omega)
theorem okPs_at {n : Nat} : ∀ {l : List D} {i : Nat} {d : D}, okPs n l = true -> l[i]? = some d -> okP n d = true
 | [], _, _, _, h => by simp at h
 | a :: l, i, d, hk, h => by
  have hk : (okP n a && okPs n l) = true := hk
  rw [Bool.and_eq_true] at hk
  cases i with
  | zero => simp at h; subst h; exact hk.1
  | succ i => exact okPs_at hk.2 (by simpa using h)
noncomputable def rIxOf (Γ : Gm) (ds : List D) (d : D) (j : Nat) : V -> List V -> Hp -> VK -> Prop := fun x xs H Q => ∃ g v, Same g.R H /\ Rdb Γ H g (.lst ds) x /\ xs = [v] /\ Has Γ g d v /\ Q (.int j) H
theorem mt_index (hK : X.K = Γ.K) (hu : X.A.units + 61 < cLine) {ds : List D} {d : D} {j : Nat} (k1 : okPs 59 ds = true) (k2 : okP 59 d = true) (h : idxD ds d = some j) : MtR X "list.index" (rIxOf Γ ds d j) := by
 rintro pins s σ H x xs v us Q I rx rv ⟨g, y, sm, ⟨a, vs, rfl, hH, hh⟩, rfl, hy, q⟩
 cases rx
 obtain ⟨u, rfl, ru⟩ := rv.one
 obtain ⟨z, its, n, r, hl, e⟩ := I.lstM hH
 obtain ⟨i1, i2, i3⟩ := idx_spec h
 have hs : its.length = ds.length := by rw [<- hl, hh.len]
 have hsz : j < its.toArray.size := by rw [List.size_toArray, hs]; exact i1
 have hz : its.length <= sizeLine := by rw [<- hl]; exact z
 rw [sizeLine_eq] at hz
 refine call_meets F.slot_list_index ⟨_, e, rfl⟩ F.entry_list_index (F.args_list_index_2 _ _)
  (ix_list' (us := its.toArray) (e := fun m => eqP (ds.getD m .non) d) hsz (by rw [List.size_toArray] at hsz; omega) i2 i3) ⟨e, fun m hm => ?_, ?_⟩
 ·rw [List.size_toArray] at hm
  have hm' : m < ds.length := by omega
  have hd : ds[m]? = some (ds.getD m .non) := by rw [List.getD_eq_getElem?_getD, List.getElem?_eq_getElem hm']; rfl
  obtain ⟨w, hw, hw2⟩ := hh.get hd
  obtain ⟨u', hu', ru'⟩ := r.get hw
  have e1 : its.toArray[m]'(by rw [List.size_toArray]; exact hm) = u' := by
   rw [List.getElem_toArray]
   exact Option.some.inj (by rw [<- List.getElem?_eq_getElem, hu'])
  rw [e1]
  exact eqAt_all I hK sm 59 _ _ w y u' u _ (by rw [units_in1]; have := hu; omega) (okPs_at k1 hd) k2 hw2 hy ru' ru
 ·exact ⟨.int j, H, I.tok _, ⟨_, rfl⟩, q⟩
noncomputable def rGet1 : V -> List V -> Hp -> VK -> Prop := fun x xs H Q => ∃ a y v, x = .ref a /\ xs = [y] /\ DGet H a y v /\ Q (v.getD .non) H
noncomputable def rGet2 : V -> List V -> Hp -> VK -> Prop := fun x xs H Q => ∃ a y z v, x = .ref a /\ xs = [y, z] /\ DGet H a y v /\ Q (v.getD z) H
theorem mt_get1 (hu : X.A.units + 1 < cLine) : MtR X "dict.get" rGet1 := by
 rintro pins s σ H x xs v us Q I rx rv ⟨a, y, o, rfl, rfl, g, q⟩
 cases rx
 obtain ⟨u, rfl, ru⟩ := rv.one
 exact d_get1 hu I g ru fun w s' I' r' => ⟨_, H, I', r', q⟩
theorem mt_get2 (hu : X.A.units + 1 < cLine) : MtR X "dict.get" rGet2 := by
 rintro pins s σ H x xs v us Q I rx rv ⟨a, y, z, o, rfl, rfl, g, q⟩
 cases rx
 obtain ⟨u, u2, rfl, ru, ru2⟩ := rv.two
 exact d_get2 hu I g ru ru2 fun w s' I' r' => ⟨_, H, I', r', q⟩
theorem strs_of {g : G} : ∀ {l : List D} {ns : List Str} {xs : List V}, strsD l = some ns -> Hass Γ g l xs -> xs = ns.map V.str
 | [], ns, xs, h, hh => by
  cases (show some [] = some ns from h)
  exact hh
 | d :: l, ns, xs, h, ⟨v, r, e, hv, hr⟩ => by
  subst e
  cases d with
  | str i =>
   simp only [strsD, Option.map_eq_some_iff] at h
   obtain ⟨ms, e1, e2⟩ := h
   subst e2
   rw [show v = V.str i from hv, strs_of e1 hr]
   rfl
  | _ => cases h
theorem strs_are : ∀ {ys : List Str} {us : List Value}, Vals (ys.map V.str) us -> PyProof.Rows.StrsAre us ys
 | [], _, .nil => .nil
 | y :: ys, _, .cons ⟨t, e⟩ q => by
  subst e
  exact .cons y t (strs_are q)
noncomputable def rJoin (K : PySem.W.Frag) : V -> List V -> Hp -> VK -> Prop := fun x xs H Q => ∃ z a ys, x = .str z /\ xs = [.ref a] /\ (SqL K H a (ys.map V.str) \/ SqT K H a (ys.map V.str)) /\ (ys.map (·.length)).sum + ys.length * z.length <= 16777216 /\ Q (.str (PySem.Txt.join z ys)) H
theorem mt_join : MtR X "str.join" (rJoin X.K) := by
 rintro pins s σ H x xs v us Q I rx rv ⟨z, a, ys, rfl, rfl, hq, hz, q⟩
 obtain ⟨t, rfl⟩ := rx
 obtain ⟨u, rfl, ru⟩ := rv.one
 cases (show u = Value.ref a from ru)
 rcases hq with hq | hq
 ·obtain ⟨its, r, hp, _⟩ := I.list hq
  exact PyProof.Rows.join_list hp.isList (by simpa using strs_are r) hz fun t' k => ⟨.str _, H, I.tok _, ⟨t', rfl⟩, q⟩
 ·obtain ⟨its, r, hp, _⟩ := I.tuple hq
  exact PyProof.Rows.join_tuple hp (by simpa using strs_are r) hz fun t' k => ⟨.str _, H, I.tok _, ⟨t', rfl⟩, q⟩
theorem has_strs {g : G} : ∀ (l : List Str), Hass Γ g (l.map D.str) (l.map V.str)
 | [] => rfl
 | x :: l => ⟨.str x, _, rfl, rfl, has_strs l⟩
theorem vals_strs : ∀ (l : List (Str × Tok)), Vals ((l.map (·.1)).map V.str) (strValues l)
 | [] => .nil
 | p :: l => .cons ⟨p.2, rfl⟩ (vals_strs l)
noncomputable def rSplit : V -> List V -> Hp -> VK -> Prop := fun x xs H Q => ∃ z y, x = .str z /\ xs = [.str y] /\ (y.length == 0) = false /\ z.length <= sizeLine /\ (PySem.Txt.split z y).length <= sizeLine /\ ∀ p, H p = none -> Q (.ref p) (upd H p (.lst ((PySem.Txt.split z y).map V.str)))
theorem mt_split : MtR X "str.split" rSplit := by
 rintro pins s σ H x xs v us Q I rx rv ⟨z, y, rfl, rfl, hy, hz, hn, q⟩
 obtain ⟨t, rfl⟩ := rx
 obtain ⟨u', rfl, u, rfl⟩ := rv.one
 have fin : ∀ (l : List (Str × Tok)) (k : Nat), l.map (·.1) = PySem.Txt.split z y -> EP X pins σ Q (.ref s.heap.objs.size) { s with toks := k, heap := s.heap.push { cls := .type "list", data := .seq (strValues l).toArray } } := fun l k e => by
  refine ⟨.ref s.heap.objs.size, _, I.laid (t' := k) (o := .lst ((PySem.Txt.split z y).map V.str)) (fun b ob h => Heap.get?_push_of_some _ h) (Nat.le_refl _) ?_, rfl, q _ (I.hok.fresh (Nat.le_refl _))⟩
  exact ⟨by rw [List.length_map]; exact hn, _, 0, by rw [<- e]; exact vals_strs l, Heap.get?_push_size _ rfl⟩
 have es : PySem.Txt.split z y = if (decide (z.length < y.length) || decide (Builtin.Str.strKind z < Builtin.Str.strKind y)) = true then [z] else if (Builtin.Str.occurrences z y 0 z.length (z.length + 1)).isEmpty = true then [z] else Builtin.Str.partsBetween z (Builtin.Str.occurrences z y 0 z.length (z.length + 1)) y.length := rfl
 cases h1 : (decide (z.length < y.length) || decide (Builtin.Str.strKind z < Builtin.Str.strKind y)) with
 | true =>
  rw [h1, if_pos rfl] at es
  exact call_meets PySem.F.slot_str_split (typeIs_str _ _ _) PySem.F.entry_str_split (PySem.F.args_str_split_2 _ _) (meets_str_split_cannot_occur z y t u h1) (fin [(z, t)] s.toks es.symm)
 | false =>
  rw [h1, if_neg Bool.false_ne_true] at es
  cases hf : (Builtin.Str.occurrences z y 0 z.length (z.length + 1)).isEmpty with
  | true =>
   rw [hf, if_pos rfl] at es
   exact call_meets PySem.F.slot_str_split (typeIs_str _ _ _) PySem.F.entry_str_split (PySem.F.args_str_split_2 _ _) (meets_str_split_not_found z y t u h1 hy hf) (fin [(z, t)] s.toks es.symm)
  | false =>
   rw [hf, if_neg Bool.false_ne_true] at es
   rw [es] at hn
   refine call_meets PySem.F.slot_str_split (typeIs_str _ _ _) PySem.F.entry_str_split (PySem.F.args_str_split_2 _ _) (meets_str_split_sep z y t u h1 hy hf hz hn) ?_
   have k := fin (numbered s.toks (Builtin.Str.partsBetween z (Builtin.Str.occurrences z y 0 z.length (z.length + 1)) y.length)) (s.toks + (Builtin.Str.partsBetween z (Builtin.Str.occurrences z y 0 z.length (z.length + 1)) y.length).length) ((numbered_texts _ _).trans es.symm)
   rw [<- strsFrom_eq] at k
   exact k
theorem get_der {c k : D} {o : Option D} (h : dgetD c k = some o) (S : Store) : deref S k = k := by
 cases k <;> first | rfl | (cases c <;> cases h)
noncomputable def RDm (Γ : Gm) (r : V -> List V -> Hp -> VK -> Prop) (d0 : D) (ds : List D) (d : D) (fr : Bool) : Prop :=
 ∀ S H g x xs Q, WOk Γ H g S -> Rdb Γ H g d0 x -> Hass Γ g ds xs -> Fin Γ H g S d fr Q -> r x xs H Q
noncomputable def mtT : MT -> String
 | .index => "list"
 | .get1 => "dict"
 | .get2 => "dict"
 | _ => "str"
noncomputable def mtI : MT -> String
 | .index => "list.index"
 | .get1 => "dict.get"
 | .get2 => "dict.get"
 | .join => "str.join"
 | .split => "str.split"
theorem kd_dict {d1 : D} (h : mthK .get1 d1 = true \/ mthK .get2 d1 = true) {H : Hp} {g : G} {v : V} (hr : Rdb Γ H g d1 v) : tyV X.K "dict" v H := by
 cases d1 with
 | dK ks ds =>
  obtain ⟨a, vs, rfl, h1, _⟩ := hr
  exact .inr (.inr (.inl ⟨rfl, .inl ⟨_, h1⟩⟩))
 | dT ks ds =>
  obtain ⟨a, vs, rfl, h1, _⟩ := hr
  exact .inr (.inr (.inl ⟨rfl, .inr ⟨_, h1⟩⟩))
 | _ => rcases h with h | h <;> cases h
theorem mth_ok {m : MT} {d0 : D} {ds : List D} {d : D} {fr : Bool} (hK : X.K = Γ.K) (hu : X.A.units + 61 < cLine) (h : mthD m d0 ds = some (d, fr)) : ∃ r, MtR X (mtI m) r /\ RDm Γ r d0 ds d fr := by
 have hu1 : X.A.units + 1 < cLine := by omega
 cases m with
 | index =>
  cases d0 with
  | lst l =>
   match ds, h with
   | [], h => cases h
   | _ :: _ :: _, h => cases h
   | [x], h =>
    have h : (if (okPs 59 l && okP 59 x) = true then (idxD l x).map fun (i : Nat) => (D.int (i : Int), false) else none) = some (d, fr) := h
    by_cases hk : (okPs 59 l && okP 59 x) = true
    ·rw [if_pos hk] at h
     rw [Bool.and_eq_true] at hk
     cases e : idxD l x with
     | none => rw [e] at h; cases h
     | some j =>
      rw [e] at h
      cases h
      refine ⟨_, mt_index hK hu hk.1 hk.2 e, fun S H g y ys Q w h1 h2 q => ?_⟩
      ·obtain ⟨u, rfl, h3⟩ := h2.one
       exact ⟨g, u, w.rh, h1, rfl, h3, fin_val w q rfl⟩
    ·rw [if_neg hk] at h
     cases h
  | _ => cases h
 | get1 =>
  match ds, h with
  | [], h => cases d0 <;> cases h
  | _ :: _ :: _, h => cases d0 <;> cases h
  | [kk], h =>
   have h : (dgetD d0 kk).map (fun o => (o.getD D.non, false)) = some (d, fr) := by cases d0 <;> exact h
   cases e : dgetD d0 kk with
   | none => rw [e] at h; cases h
   | some o =>
    rw [e] at h
    cases h
    refine ⟨_, mt_get1 hu1, fun S H g y ys Q w h1 h2 q => ?_⟩
    obtain ⟨u, rfl, h3⟩ := h2.one
    have h4 := rdb_of w h3
    rw [get_der e S] at h4
    obtain ⟨a, v, rfl, g1, g2, g3, g4⟩ := dget_D w e h1 h4
    refine ⟨a, u, v, rfl, rfl, g1, ?_⟩
    cases o with
    | none => rw [g4 rfl]; exact fin_val w q rfl
    | some d =>
     obtain ⟨z, rfl, hz⟩ := g3 d rfl
     exact fin_val w q hz
 | get2 =>
  match ds, h with
  | [], h => cases d0 <;> cases h
  | [_], h => cases d0 <;> cases h
  | _ :: _ :: _ :: _, h => cases d0 <;> cases h
  | [kk, xx], h =>
   have h : (dgetD d0 kk).map (fun o => (o.getD xx, false)) = some (d, fr) := by cases d0 <;> exact h
   cases e : dgetD d0 kk with
   | none => rw [e] at h; cases h
   | some o =>
    rw [e] at h
    cases h
    refine ⟨_, mt_get2 hu1, fun S H g y ys Q w h1 h2 q => ?_⟩
    obtain ⟨u, u2, rfl, h3, h5⟩ := h2.two
    have h4 := rdb_of w h3
    rw [get_der e S] at h4
    obtain ⟨a, v, rfl, g1, g2, g3, g4⟩ := dget_D w e h1 h4
    refine ⟨a, u, u2, v, rfl, rfl, g1, ?_⟩
    cases o with
    | none => rw [g4 rfl]; exact fin_val w q h5
    | some d =>
     obtain ⟨z, rfl, hz⟩ := g3 d rfl
     exact fin_val w q hz
 | join =>
  cases d0 with
  | str z =>
   match ds, h with
   | [], h => cases h
   | _ :: _ :: _, h => cases h
   | [x], h =>
    obtain ⟨ys, e1, h⟩ := Option.bind_eq_some_iff.mp (show (((lotD x).bind strsD).bind fun ys => if fits ((ys.map (·.length)).sum + ys.length * z.length) = true then some (D.str (PySem.Txt.join z ys), false) else none) = some (d, fr) from h)
    obtain ⟨l, e2, e3⟩ := Option.bind_eq_some_iff.mp e1
    split at h
    ·rename_i hf
     cases h
     refine ⟨_, mt_join, fun S H g y us Q w h1 h2 q => ?_⟩
     obtain ⟨u, rfl, h3⟩ := h2.one
     have hz : (ys.map (·.length)).sum + ys.length * z.length <= 16777216 := Nat.le_trans (of_decide_eq_true hf) (by decide)
     rcases lot_is e2 with rfl | rfl
     ·obtain ⟨a, vs, rfl, f1, f2⟩ := h3
      exact ⟨z, a, ys, h1, rfl, .inl (by rw [<- strs_of e3 f2]; exact SqL.of (w.rh _ _ f1)), hz, fin_val w q rfl⟩
     ·obtain ⟨a, vs, rfl, f1, f2⟩ := h3
      exact ⟨z, a, ys, h1, rfl, .inr (by rw [<- strs_of e3 f2]; exact SqT.of (w.rh _ _ f1)), hz, fin_val w q rfl⟩
    ·cases h
  | _ => match ds, h with
   | [], h => cases h
   | [_], h => cases h
   | _ :: _ :: _, h => cases h
 | split =>
  cases d0 with
  | str z =>
   match ds, h with
   | [], h => cases h
   | _ :: _ :: _, h => cases h
   | [x], h =>
    cases x with
    | str y =>
     have h : (if (!(y.length == 0) && fits z.length && fits (PySem.Txt.split z y).length) = true then some (D.lst ((PySem.Txt.split z y).map D.str), true) else none) = some (d, fr) := h
     split at h
     ·rename_i hf
      cases h
      simp only [Bool.and_eq_true, Bool.not_eq_true'] at hf
      refine ⟨_, mt_split, fun S H g v us Q w h1 h2 q => ?_⟩
      obtain ⟨u, rfl, h3⟩ := h2.one
      cases (show u = .str y from h3)
      exact ⟨z, y, h1, rfl, hf.1.1, lim_le hf.1.2, lim_le hf.2, fun p hp => fin_lst w q (has_strs _) hp⟩
     ·cases h
    | _ => cases h
  | _ => match ds, h with
   | [], h => cases h
   | [_], h => cases h
   | _ :: _ :: _, h => cases h
theorem base_of {env : Env} {name : Str} {s0 : Sem Value} (h : plainC x = true) : attributeBase x name env s0 = s0 := by
 cases x with
 | Call f args kws p =>
  cases args with
  | nil => cases h
  | cons a l => cases f <;> rfl
 | _ => rfl
theorem few_all {xs : List Expr} {env : Env} {cpos : Pos} (hs : ∀ z ∈ xs, notStar z = true) (hl : xs.length <= 9) : ((backTo cpos (starEach xs env)).all (fun x => !x.1) && (backToKw cpos (keywordEach [] env)).all (fun x => x.1.isSome)
   && decide (xs.length + ([] : List Keyword).length + (if ([] : List Keyword).isEmpty then 0 else 1) < 30)) = true := by
 have h1 : (backTo cpos (starEach xs env)).all (fun x => !x.1) = true := by
  have := back_plain (pos := cpos) (env := env) hs
  rw [List.all_eq_not_any_not]
  simpa using this
 rw [h1, decide_eq_true (show xs.length + ([] : List Keyword).length + (if ([] : List Keyword).isEmpty then 0 else 1) < 30 from (by simp; omega))]
 rfl
theorem mt_stat (m : MT) : PlainAttrs (mtT m) /\ PySem.Slot (mtT m) (mtS m) (mtI m) /\ typeOf (.builtin (mtI m)) = pure (.type "method_descriptor") := by
 cases m with
 | index => exact ⟨PySem.F.plainAttrs_list, PySem.F.slot_list_index, PySem.F.type_list_index⟩
 | get1 => exact ⟨PySem.F.plainAttrs_dict, PySem.F.slot_dict_get, PySem.F.type_dict_get⟩
 | get2 => exact ⟨PySem.F.plainAttrs_dict, PySem.F.slot_dict_get, PySem.F.type_dict_get⟩
 | join => exact ⟨PySem.F.plainAttrs_str, PySem.F.slot_str_join, PySem.F.type_str_join⟩
 | split => exact ⟨PySem.F.plainAttrs_str, PySem.F.slot_str_split, PySem.F.type_str_split⟩
theorem mt_kd {m : MT} {d1 : D} (h : mthK m d1 = true) {H : Hp} {g : G} {v : V} (hr : Rdb Γ H g d1 v) : tyV X.K (mtT m) v H := by
 cases m with
 | index =>
  cases d1 <;> first | cases h | skip
  obtain ⟨a, vs, rfl, h1, _⟩ := hr
  exact .inl ⟨rfl, vs, SqL.of h1⟩
 | get1 => exact kd_dict (.inl h) hr
 | get2 => exact kd_dict (.inr h) hr
 | join =>
  cases d1 with
  | str x => cases (show v = .str x from hr); exact rfl
  | _ => cases h
 | split =>
  cases d1 with
  | str x => cases (show v = .str x from hr); exact rfl
  | _ => cases h
noncomputable def mtAny (X : Cx) (id : String) : V -> List V -> Hp -> VK -> Prop := fun x xs H Q => ∃ r, MtR X id r /\ r x xs H Q
theorem mt_any {id : String} : MtR X id (mtAny X id) := fun pins s σ H x xs v us Q I rx rv ⟨_, h, q⟩ => h pins s σ H x xs v us Q I rx rv q
theorem s_mth {B : Tb} {cf : Cf} {k : Nat} {c : Cc} {a : E} {es : List E} {m : MT} {ys : List Expr} {apos cpos : Pos} (ok : XOk Γ B (spN Γ cf) k X c) (ha : PE X x (TX Γ cf a)) (hs : ∀ z ∈ y :: ys, notStar z = true) (hb : PA X (y :: ys) (TXs Γ cf es)) (hl : (apos.endLine == cpos.line) = true) (hp : plainC x = true) (h9 : (y :: ys).length <= 9) :
  PE X (.Call (.Attribute x (mtS m) apos) (y :: ys) [] cpos) (TX Γ cf (.mth m a es)) := by
 obtain ⟨m1, m2, m3⟩ := mt_stat m
 refine (pe_bm m1 m2 m3 mt_any ha hb (base_of hp) (few_all hs h9) hl (starEach_of (hs y List.mem_cons_self) ys X.env) (back_plain fun z hz => hs z (List.mem_cons_of_mem _ hz))).imp fun σ H Q h0 => goX h0 fun ρ S V g H₀ hw w env kk => ⟨ρ, S, _, g, H₀, hw, w, env, fun x v H1 g1 S1 st w1 vx h1 => ?_⟩
 obtain ⟨hk, h1⟩ := tst_is h1
 refine ⟨mt_kd hk (vx.rdb w1), ρ, S1, _, g1, H₀, h1, w1, env_step env st, fun ds vs H2 g2 S2 st2 w2 hv h2 => ?_⟩
 obtain ⟨⟨d, fr⟩, eb, q⟩ := opt_is h2
 obtain ⟨r, r1, r2⟩ := mth_ok (X := X) ok.hK ok.u61 eb
 exact ⟨r, r1, r2 S2 H2 g2 v vs Q w2 ((vx.step st2).rdb w2) hv fun u H3 g3 st3 _ w3 vo => kk _ u H3 g3 S2 ((st.trans st2).trans st3) w3 ((VN.of vo).back (st.trans st2)) q⟩
end
end EV
namespace EV
open PySem PySem.Spec PyProof.Rows L2
noncomputable def isBoolE : Expr -> Bool
 | .BoolOp _ _ _ => true
 | _ => false
section
variable {Γ : Gm} {B : Tb} {cf : Cf} {k : Nat}
theorem pt_ifE {X : Cx} {x y z : Expr} {pos : Pos} {t a b : E} (hc : PT X x (TB Γ cf t)) (ha : PT X y (TB Γ cf a)) (hb : PT X z (TB Γ cf b)) : PT X (.IfExp x y z pos) (TB Γ cf (.ite t a b)) := by
 intro pins s σ H Q I ⟨ρ, S, V, g, H₀, hw, w, env, kk⟩
 have eq : isTrue (.IfExp x y z pos) X.env (eval (.IfExp x y z pos) X.env) = (isTrue x X.env (eval x X.env) >>= fun t => if t = true then isTrue y X.env (eval y X.env) else isTrue z X.env (eval z X.env)) := rfl
 rw [eq]
 refine wpAny_bind (thn (hc pins s σ H (fun r H' => if r = true then TB Γ cf a σ H' Q else TB Γ cf b σ H' Q) I ⟨ρ, S, _, g, H₀, hw, w, env, fun x H1 g1 S1 st w1 h => ?_⟩) fun r s1 ⟨H1, I1, q⟩ => ?_)
 ·obtain ⟨r, e, q⟩ := isB_is h
  rw [e]
  show (if r = true then _ else _)
  cases r with
  | true => exact iteT (tb_go st w1 env kk q)
  | false => exact iteF (tb_go st w1 env kk q)
 ·cases r with
  | true => rw [if_pos rfl] at q ⊢; exact ha pins s1 σ H1 Q I1 q
  | false => rw [if_neg Bool.false_ne_true] at q ⊢; exact hb pins s1 σ H1 Q I1 q
noncomputable def SE (Γ : Gm) (B : Tb) (cf : Cf) (k : Nat) (e : E) : Prop := ∀ (X : Cx) (c : Cc) (x : Expr), XOk Γ B (spN Γ cf) k X c -> chkE B c e x = true -> PE X x (TX Γ cf e) /\ PT X x (TB Γ cf e) /\ (isBoolE x = true -> PW X x (TB Γ cf e))
theorem only {X : Cx} {x : Expr} {e : E} (h : PE X x (TX Γ cf e)) (hn : isBoolE x = false) (he : ∀ whole, isTrue x X.env whole = (do let v <- whole; standAt x.pos; holding [v] (truthy v))) : PE X x (TX Γ cf e) /\ PT X x (TB Γ cf e) /\ (isBoolE x = true -> PW X x (TB Γ cf e)) :=
 ⟨h, s_test h he, fun q => by rw [hn] at q; cases q⟩
theorem none_of {X : Cx} {x : Expr} {e : E} (h : ∀ ρ V S, ¬ wpE cf ρ e V S) : PE X x (TX Γ cf e) /\ PT X x (TB Γ cf e) /\ (isBoolE x = true -> PW X x (TB Γ cf e)) :=
 ⟨fun _ _ _ _ _ _ ⟨_, _, _, _, _, q, _⟩ => (h _ _ _ q).elim, fun _ _ _ _ _ _ ⟨_, _, _, _, _, q, _⟩ => (h _ _ _ q).elim, fun _ _ _ _ _ _ _ _ ⟨_, _, _, _, _, q, _⟩ => (h _ _ _ q).elim⟩
theorem star_all {c : Cc} : ∀ {es : List E} {xs : List Expr}, chkEs B c es xs = true -> ∀ z ∈ xs, notStar z = true
 | [], [], _ => fun z hz => by cases hz
 | e :: es, x :: xs, h => by
  have h : (chkE B c e x && notStar x && chkEs B c es xs) = true := h
  rw [Bool.and_eq_true, Bool.and_eq_true] at h
  intro z hz
  rcases List.mem_cons.mp hz with rfl | hz
  ·exact h.1.2
  ·exact star_all h.2 z hz
 | [], _ :: _, h => nobE h
 | _ :: _, [], h => nobE h
theorem noSlice {c : Cc} {lo hi st : Option Expr} {pos : Pos} : ∀ (e : E), chkE B c e (.Slice lo hi st pos) = true -> False
 | .box e, h => nobE h
 | .var _, h => nobE h
 | .con _, h => nobE h
 | .glo _ _, h => nobE h
 | .bin _ _ _, h => nobE h
 | .neg _, h => nobE h
 | .cmp _ _ _, h => nobE h
 | .chn _ _ _ _ _, h => nobE h
 | .not _, h => nobE h
 | .and _ _, h => nobE h
 | .or _ _, h => nobE h
 | .ite _ _ _, h => nobE h
 | .tup _, h => nobE h
 | .lst _, h => nobE h
 | .dic _ _ _, h => nobE h
 | .sub _ _, h => nobE h
 | .slc _ _ _, h => nobE h
 | .bi _ _, h => nobE h
 | .mth _ _ _, h => nobE h
 | .call _ _, h => nobE h
 | .callk _ _ _, h => nobE h
 | .callv _ _, h => nobE h
 | .comp _ _ _ _ _, h => nobE h
 | .one _, h => nobE h
 | .flip _, h => nobE h
 | .seq _, h => nobE h
 | .rng _ _, h => nobE h
 | .enum _, h => nobE h
 | .zip _ _, h => nobE h
 | .rev _, h => nobE h
 | .items _, h => nobE h
theorem plainIx_of {c : Cc} {e : E} {y : Expr} (h : chkE B c e y = true) : PlainIx y := by
 cases y with
 | Slice lo hi st pos => exact (noSlice e h).elim
 | _ => exact fun _ _ => rfl
theorem folded_of {iter : Expr} (h : notSet iter = true) (env : Env) (v : Value) : foldedSetIterable iter env v = pure v := by
 cases iter <;> first | rfl | cases h
set_option tactic.hygienic true in
theorem con_ok {X : Cx} {d : D} {q : Const} {n : Nat} {pos : Pos} {c : Cc} (h : chkE B c (.con d) (.Constant q n pos) = true) : ∃ t, PE X (.Constant q n pos) (tC t) /\ ∀ g, Has Γ g d t := by
 cases q with
 | none => cases d <;> first | exact ⟨_, pe_non, fun _ => rfl⟩ | exact nobE h
 | bool b => cases d <;> first | (rename_i b'; have e := eq_of_beq (show (b' == b) = true from h); subst e; exact ⟨_, pe_bl, fun _ => rfl⟩) | exact nobE h
 | int b => cases d <;> first | (rename_i b'; have e := eq_of_beq (show (b' == b) = true from h); subst e; exact ⟨_, pe_int, fun _ => rfl⟩) | exact nobE h
 | str b => cases d <;> first | (rename_i b'; have e := eq_of_beq (show (b' == b) = true from h); subst e; exact ⟨_, pe_str, fun _ => rfl⟩) | exact nobE h
 | _ => cases d <;> exact nobE h
theorem chkDk_cons {k0 : Key} {ks : List Key} {keys : List (Option Expr)} (h : chkDk (k0 :: ks) keys = true) : ∃ q n p r, keys = some (.Constant q n p) :: r /\ (∀ X : Cx, PE X (.Constant q n p) (tC (kV k0))) /\ chkDk ks r = true := by
 cases keys with
 | nil => exact nobE h
 | cons o r =>
  cases o with
  | none => exact nobE h
  | some x =>
   have hb : Nat.beq x.ctorIdx 19 = true := by revert h; cases x <;> first | exact non | exact fun _ => rfl
   revert h; apply ofConstant hb; clear hb; intro q n p h
   have h : (keyC k0 q && chkDk ks r) = true := h
   rw [Bool.and_eq_true] at h
   refine ⟨q, n, p, r, rfl, fun X => ?_, h.2⟩
   have h1 := h.1
   cases k0 with
   | inl i =>
    cases q with
    | int j => rw [show i = j from eq_of_beq h1]; exact pe_int
    | _ => exact nobE h1
   | inr i =>
    cases q with
    | str j => rw [show i = j from eq_of_beq h1]; exact pe_str
    | _ => exact nobE h1
theorem chkDk_len : ∀ {ks : List Key} {keys : List (Option Expr)}, chkDk ks keys = true -> ks.length = keys.length /\ keys.all (·.isSome) = true
 | [], [], _ => ⟨rfl, rfl⟩
 | [], _ :: _, h => nobE h
 | k0 :: ks, keys, h => by
  obtain ⟨q, n, p, r, rfl, _, hr⟩ := chkDk_cons h
  obtain ⟨a, b⟩ := chkDk_len hr
  exact ⟨by simp [a], by simpa using b⟩
theorem chkFs_len {c : Cc} : ∀ {es : List E} {xs : List Expr}, chkFs B c es xs = true -> es.length = xs.length
 | [], [], _ => rfl
 | [], _ :: _, h => nobE h
 | _ :: _, [], h => nobE h
 | e :: es, x :: xs, h => by
  have h : (chkE B c e x && chkFs B c es xs) = true := h
  rw [Bool.and_eq_true] at h
  simp [chkFs_len h.2]
theorem and_no {a : Bool} (h : (a && false) = true) : False := by
 rw [Bool.and_false] at h
 cases h
theorem chkEs_len {c : Cc} : ∀ {es : List E} {xs : List Expr}, chkEs B c es xs = true -> es.length = xs.length
 | [], [], _ => rfl
 | [], _ :: _, h => nobE h
 | _ :: _, [], h => nobE h
 | e :: es, x :: xs, h => by
  have h : (chkE B c e x && notStar x && chkEs B c es xs) = true := h
  rw [Bool.and_eq_true] at h
  simp [chkEs_len h.2]
theorem mth_is {c : Cc} {m : MT} {o : E} {es : List E} {f : Expr} {args : List Expr} {kws : List Keyword} {pos : Pos} (h : chkE B c (.mth m o es) (.Call f args kws pos) = true) :
    ∃ w ap y ys, f = .Attribute w (mtS m) ap /\ args = y :: ys /\ kws = [] /\ chkE B c o w = true /\ chkEs B c es (y :: ys) = true /\ (ap.endLine == pos.line) = true /\ plainC w = true /\ (y :: ys).length <= 9 := by
  have h : (match asAtt f with
    | some q => q.2.1 == mtS m && chkE B c o q.1 && chkEs B c es args && isNilL kws && q.2.2.endLine == pos.line && plainC q.1 && decide (1 <= es.length) && decide (es.length <= 9)
    | none => false) = true := h
  cases e : asAtt f with
  | none => rw [e] at h; cases h
  | some q =>
    rw [e] at h
    simp only [Bool.and_eq_true, decide_eq_true_eq] at h
    obtain ⟨⟨⟨⟨⟨⟨⟨h1, h2⟩, h3⟩, h4⟩, h5⟩, h6⟩, h7⟩, h8⟩ := h
    have hl := chkEs_len h3
    cases args with
    | nil => simp at hl; simp [hl] at h7
    | cons y ys =>
      refine ⟨q.1, q.2.2, y, ys, ?_, rfl, isNil_is h4, h2, h3, h5, h6, by omega⟩
      rw [asAtt_is e, eq_of_beq h1]
theorem chkKs_len {c : Cc} : ∀ {es : List E} {kws : List Keyword}, chkKs B c es kws = true -> es.length = kws.length
 | [], [], _ => rfl
 | [], _ :: _, h => nobE h
 | _ :: _, [], h => nobE h
 | e :: es, ⟨none, x, p⟩ :: kws, h => nobE h
 | e :: es, ⟨some n, x, p⟩ :: kws, h => by
  have h : (chkE B c e x && chkKs B c es kws) = true := h
  rw [Bool.and_eq_true] at h
  simp [chkKs_len h.2]
theorem kwNames_len : ∀ {kws : List Keyword} {ks : List Str}, kwNames kws = some ks -> ks.length = kws.length
 | [], ks, h => by cases h; rfl
 | ⟨none, x, p⟩ :: kws, ks, h => by cases h
 | ⟨some n, x, p⟩ :: kws, ks, h => by
  have h : (kwNames kws).map (n :: ·) = some ks := h
  cases e : kwNames kws with
  | none => rw [e] at h; cases h
  | some l =>
   rw [e] at h
   cases h
   simp [kwNames_len e]
noncomputable def TXr (Γ : Gm) (cf : Cf) : List E -> TA
 | [e] => fun σ H Q => TX Γ cf e σ H fun v H1 => Q [v] H1
 | es => TXs Γ cf es
theorem bi_case {b : BI} {n : Str} {c : Cc} {X : Cx} {es : List E} {args : List Expr} {p pos : Pos} (ok : XOk Γ B (spN Γ cf) k X c) (hi : isI b = false) (h : (n == biS b && B.bare.contains n && gloK (c.names.lookup n) && chkEs B c es args && !es.isEmpty) = true)
  (ih : chkEs B c es args = true -> PA X args (TXr Γ cf es)) : PE X (.Call (.Name n p) args [] pos) (TX Γ cf (.bi b es)) /\ PT X (.Call (.Name n p) args [] pos) (TB Γ cf (.bi b es)) /\ (isBoolE (.Call (.Name n p) args [] pos) = true -> PW X (.Call (.Name n p) args [] pos) (TB Γ cf (.bi b es))) := by
 simp only [Bool.and_eq_true] at h
 obtain ⟨⟨⟨⟨h1, h2⟩, h3⟩, h4⟩, h5⟩ := h
 have e1 := eq_of_beq h1
 subst e1
 refine only ?_ rfl fun _ => rfl
 have ih := ih h4
 have hst := star_all h4
 cases args with
 | nil =>
  cases es with
  | nil => cases h5
  | cons _ _ => exact nobE h4
 | cons x xs =>
  refine bi_pe ok (ok.glob h3) (ok.bare _ (List.contains_iff_mem.mp h2)) hst ih fun σ H Q h0 => goX h0 fun ρ S V g H₀ hw w env kk => ?_
  match es, hw with
  | [], _ => cases h5
  | [e], hw => exact ⟨ρ, S, _, g, H₀, hw, w, env, fun x v H1 g1 S1 st w1 vx h1 => by
   obtain ⟨⟨d, fr⟩, eb, q⟩ := opt_is h1
   obtain ⟨r, r1, r2⟩ := bi_rdc (X := X) (Γ := Γ) ok.hK ok.room.gd ok.u61 ok.calm hi eb
   exact ⟨r, r1, r2 S1 H1 g1 [v] Q w1 ⟨v, [], rfl, vx.rdb w1, rfl⟩ fun u H2 g2 st2 _ w2 vo => kk _ u H2 g2 S1 (st.trans st2) w2 ((VN.of vo).back st) q⟩⟩
  | e1 :: e2 :: es, hw => exact ⟨ρ, S, _, g, H₀, hw, w, env, fun ds vs H1 g1 S1 st w1 hv h1 => by
   obtain ⟨⟨d, fr⟩, eb, q⟩ := opt_is h1
   obtain ⟨r, r1, r2⟩ := bi_rdc (X := X) (Γ := Γ) ok.hK ok.room.gd ok.u61 ok.calm hi eb
   exact ⟨r, r1, r2 S1 H1 g1 vs Q w1 (rdbs_of w1 hv) fun u H2 g2 st2 _ w2 vo => kk _ u H2 g2 S1 (st.trans st2) w2 ((VN.of vo).back st) q⟩⟩
theorem callk_case {f : Nat} {n : Str} {c : Cc} {X : Cx} {es : List E} {perm : List Nat} {kws : List Keyword} {p pos : Pos} (hm : Mono cf) (ok : XOk Γ B (spN Γ cf) k X c) (h : (B.fns[f]? == some n && gloK (c.names.lookup n) && plainN n && chkKs B c es kws && (match kwNames kws, B.pars[f]? with
      | some ks, some ps => perm.length == ps.length && perm.all (· < ks.length) && perm.map (fun i => ks.getD i "") == ps && ks.length == ps.length && B.kws.contains (f, ks, perm)
      | _, _ => false)) = true) (ih : chkKs B c es kws = true -> PK X kws (TXs Γ cf es)) : PE X (.Call (.Name n p) [] kws pos) (TX Γ cf (.callk f perm es)) := by
  simp only [Bool.and_eq_true] at h
  obtain ⟨⟨⟨⟨h1, h2⟩, h3⟩, h4⟩, h5⟩ := h
  cases hk : kwNames kws with
  | none => rw [hk] at h5; cases h5
  | some ks =>
    cases hp : B.pars[f]? with
    | none => rw [hk, hp] at h5; cases h5
    | some ps =>
      rw [hk, hp] at h5
      simp only [Bool.and_eq_true, beq_iff_eq, List.all_eq_true, decide_eq_true_eq] at h5
      obtain ⟨⟨⟨⟨g1, g2⟩, g3⟩, g4⟩, g5⟩ := h5
      exact s_callk hm ok (eq_of_beq h1) (ok.glob h2) (plain_of h3).1 (ih h4) hk hp g1 g2 g3 g4 (List.contains_iff_mem.mp g5) (by rw [chkKs_len h4, kwNames_len hk])
theorem comp_all {X : Cx} {c : Cc} {sc : Scope} {js : List Nat} {xs : List Str} {t : T} {it elt : E} {ifs : List E} {cs : List Expr} {tgt iter y : Expr} {pos : Pos} (ok : XOk Γ B (spN Γ cf) k X c) (hs : chkS c sc js = true) (hn : notSet iter = true) (nd : (xs ++ js.map (fun j => c.N.getD j "")).Nodup)
  (hst : isNst t = false) (ht : nT t = xs.length) (hr : tIs t = List.range xs.length) (hT : chkT (inner c sc xs js) t tgt = true) (hi : PI X tgt iter (TXi Γ cf it))
  (hz : ∀ X, XOk Γ B (spN Γ cf) k X (inner c sc xs js) -> PTs X cs (TXf Γ cf ifs)) (he : ∀ X, XOk Γ B (spN Γ cf) k X (inner c sc xs js) -> PE X y (TX Γ cf elt)) :
  PE X (.ListComp y [⟨tgt, iter, cs, 0⟩] sc pos) (TX Γ cf (.comp t js it ifs elt)) /\ CSet X (.ListComp y [⟨tgt, iter, cs, 0⟩] sc pos) (TX Γ cf (.comp t js it ifs elt)) := by
 have okI := fun C s3 H3 fp => xok_inner ok hs nd C s3 H3 fp
 refine both_imp (comp_both (xs := xs) (tg := tgOf X.K t) ok.calm (compG_of ok hs) hi (fun C s3 H3 fp => tgt_ok (okI C s3 H3 fp) hT) (fun C s3 H3 fp => hz _ (okI C s3 H3 fp)) (fun C s3 H3 fp => he _ (okI C s3 H3 fp)) (folded_of hn X.env)) fun σ H Q h0 => goX h0 fun ρ S V g H₀ hw w env kk => ?_
 refine comp_inv (X := X) (Qe := fun D H' => Q (.ref D) H') hst (fun i hi => ?_) ht ?_ hw w env fun ds Da H' g' S' st w' vx q => kk _ _ H' g' S' st w' vx q
 ·rw [hr] at hi
  rw [ht]
  exact List.mem_range.mp hi
 ·exact List.Pairwise.of_map _ (fun a b (h : c.N.getD a "" ≠ c.N.getD b "") e => h (by rw [e])) (List.nodup_append.mp nd).2.1
theorem comp_case {t : T} {js : List Nat} {it : E} {ifs : List E} {elt : E} {X : Cx} {c : Cc} {tgt iter y : Expr} {cs : List Expr} {kk : Int} {sc : Scope} {pos : Pos} (hI : ∀ X c tgt x, XOk Γ B (spN Γ cf) k X c -> chkI B c it tgt x = true -> PI X tgt x (TXi Γ cf it)) (hF : ∀ X c xs, XOk Γ B (spN Γ cf) k X c -> chkFs B c ifs xs = true -> ifs.length <= 1 -> PTs X xs (TXf Γ cf ifs)) (hE : ∀ X c x, XOk Γ B (spN Γ cf) k X c -> chkE B c elt x = true -> PE X x (TX Γ cf elt))
    (ok : XOk Γ B (spN Γ cf) k X c) (h : chkE B c (.comp t js it ifs elt) (.ListComp y [⟨tgt, iter, cs, kk⟩] sc pos) = true) : PE X (.ListComp y [⟨tgt, iter, cs, kk⟩] sc pos) (TX Γ cf (.comp t js it ifs elt)) /\ CSet X (.ListComp y [⟨tgt, iter, cs, kk⟩] sc pos) (TX Γ cf (.comp t js it ifs elt)) := by
  have h : (kk == 0 && chkS c sc js && chkI B c it tgt iter && notSet iter && (match tgtNames tgt with
    | some xs => decide ((xs ++ js.map (fun j => c.N.getD j "")).Nodup) && nT t == xs.length && tIs t == List.range xs.length && chkT (inner c sc xs js) t tgt && chkE B (inner c sc xs js) elt y && chkFs B (inner c sc xs js) ifs cs && decide (ifs.length <= 1)
    | none => false)) = true := h
  simp only [Bool.and_eq_true] at h
  obtain ⟨⟨⟨⟨h1, h2⟩, h3⟩, h4⟩, h5⟩ := h
  have e1 := eq_of_beq h1
  subst e1
  cases ht : tgtNames tgt with
  | none => rw [ht] at h5; cases h5
  | some xs =>
    rw [ht] at h5
    simp only [Bool.and_eq_true] at h5
    obtain ⟨⟨⟨⟨⟨⟨h6, h7⟩, h8⟩, h9⟩, h10⟩, h11⟩, h12⟩ := h5
    have hst : isNst t = false := by
      cases t with
      | nst i is =>
        exfalso
        cases q : asNst tgt with
        | none => unfold chkT at h9; rw [if_pos (show isNst (.nst i is) = true from rfl), q] at h9; cases h9
        | some z => rw [asNst_is q] at ht; cases ht
      | _ => rfl
    exact comp_all ok h2 h4 (of_decide_eq_true h6) hst (eq_of_beq h7) (eq_of_beq h8) h9 (hI X c tgt iter ok h3) (fun X ok' => hF X _ cs ok' h11 (of_decide_eq_true h12)) fun X ok' => hE X _ y ok' h10
mutual
theorem sA (hcf : CfN B cf) (hm : Mono cf) : ∀ (e : E), SE Γ B cf k e
  | .var i => fun X c x ok h => by
    have hb : Nat.beq x.ctorIdx 23 = true := by revert h; cases x <;> first | exact non | exact fun _ => rfl
    revert h; apply ofName hb; clear hb; intro n pos h
    have h : (c.N[i]? == some n && visK (c.names.lookup n) && plainN n) = true := h
    rw [Bool.and_eq_true, Bool.and_eq_true] at h
    obtain ⟨h1, h2, _⟩ := plain_of h.2
    exact only (s_var (by rw [ok.N]; exact eq_of_beq h.1.1) (ok.vis h.1.2) h1 h2) rfl fun _ => rfl
  | .con d => fun X c x ok h => by
    have hb : Nat.beq x.ctorIdx 19 = true := by revert h; cases x <;> first | exact non | exact fun _ => rfl
    revert h; apply ofConstant hb; clear hb; intro q n pos h
    obtain ⟨t, h1, h2⟩ := con_ok (Γ := Γ) (X := X) h
    exact only (s_con h1 h2 fun _ _ _ q => q) rfl fun _ => rfl
  | .glo m d => fun X c x ok h => by
    have hb : Nat.beq x.ctorIdx 23 = true := by revert h; cases x <;> first | exact non | exact fun _ => rfl
    revert h; apply ofName hb; clear hb; intro n pos h
    have h : ((match B.consts[m]? with
      | some p => p.1 == n && sameD p.2 d
      | none => false) && gloK (c.names.lookup n) && plainN n) = true := h
    rw [Bool.and_eq_true, Bool.and_eq_true] at h
    cases e : B.consts[m]? with
    | none => rw [e] at h; cases h.1.1
    | some q =>
      rw [e] at h
      obtain ⟨y, d'⟩ := q
      have h1 : (y == n && sameD d' d) = true := h.1.1
      rw [Bool.and_eq_true] at h1
      have e1 := eq_of_beq h1.1
      have e2 := sameD_eq _ _ h1.2
      subst e1 e2
      obtain ⟨u, v, g1, g2, g3⟩ := ok.consts m y d' e
      exact only (s_con (pe_glob (ok.glob h.1.2) g1 g2 (plain_of h.2).1) g3 fun _ _ _ q => q) rfl fun _ => rfl
  | .bin op a b => fun X c x ok h => by
    have hb : Nat.beq x.ctorIdx 2 = true := by revert h; cases x <;> first | exact non | exact fun _ => rfl
    revert h; apply ofBinOp hb; clear hb; intro l op' r pos h
    have h : (op == op' && chkE B c a l && chkE B c b r) = true := h
    rw [Bool.and_eq_true, Bool.and_eq_true] at h
    have e1 := eq_of_beq h.1.1
    subst e1
    exact only (s_bin ok.hK (sA hcf hm a X c l ok h.1.2).1 (sA hcf hm b X c r ok h.2).1) rfl fun _ => rfl
  | .neg a => fun X c x ok h => by
    have hb : Nat.beq x.ctorIdx 3 = true := by revert h; cases x <;> first | exact non | exact fun _ => rfl
    revert h; apply ofUnaryOp hb; clear hb; intro op l pos h
    have h : (op == PySem.UnaryOp.USub && chkE B c a l) = true := h
    rw [Bool.and_eq_true] at h
    have e1 := eq_of_beq h.1
    subst e1
    exact only (s_neg (sA hcf hm a X c l ok h.2).1) rfl fun _ => rfl
  | .cmp op a b => fun X c x ok h => by
    have hb : Nat.beq x.ctorIdx 15 = true := by revert h; cases x <;> first | exact non | exact fun _ => rfl
    revert h; apply ofCompare hb; clear hb; intro l ops rs pos h
    match ops, rs, h with
    | [op'], [r], h =>
      have h : (op == op' && chkE B c a l && chkE B c b r && notSet r) = true := h
      rw [Bool.and_eq_true, Bool.and_eq_true, Bool.and_eq_true] at h
      have e1 := eq_of_beq h.1.1.1
      subst e1
      have hm' : behindInMarks op r = false := by cases r <;> first | rfl | cases h.2
      have := s_cmp (pos := pos) ok.hK ok.u61 (sA hcf hm a X c l ok h.1.1.2).1 (sA hcf hm b X c r ok h.1.2).1 hm'
      exact ⟨this.1, this.2, fun q => by cases q⟩
    | [], _, h => exact nobE h
    | [_], [], h => exact nobE h
    | [_], _ :: _ :: _, h => exact nobE h
    | _ :: _ :: _, _, h => exact nobE h
  | .chn o1 o2 a b d => fun X c x ok h => nobE h
  | .not a => fun X c x ok h => by
    have hb : Nat.beq x.ctorIdx 3 = true := by revert h; cases x <;> first | exact non | exact fun _ => rfl
    revert h; apply ofUnaryOp hb; clear hb; intro op l pos h
    have h : (op == PySem.UnaryOp.Not && chkE B c a l) = true := h
    rw [Bool.and_eq_true] at h
    have e1 := eq_of_beq h.1
    subst e1
    obtain ⟨i1, i2, _⟩ := sA hcf hm a X c l ok h.2
    exact ⟨s_not i1, s_notT i2, fun q => by cases q⟩
  | .and a b => fun X c x ok h => by
    have hb : Nat.beq x.ctorIdx 0 = true := by revert h; cases x <;> first | exact non | exact fun _ => rfl
    revert h; apply ofBoolOp hb; clear hb; intro op vs pos h
    match vs, h with
    | l :: r :: rest, h =>
      have h : (op == PySem.BoolOp.And && chkE B c a l && chkE B c b (.BoolOp .And (r :: rest) pos)) = true := h
      rw [Bool.and_eq_true, Bool.and_eq_true] at h
      have e1 := eq_of_beq h.1.1
      subst e1
      obtain ⟨i1, i2, _⟩ := sA hcf hm a X c l ok h.1.2
      obtain ⟨j1, _, j3⟩ := sA hcf hm b X c _ ok h.2
      have w := s_andW i2 (j3 rfl)
      exact ⟨s_and i1 j1, w.pt, fun _ => w⟩
    | [], h => exact nobE h
    | [_], h => exact nobE h
  | .or a b => fun X c x ok h => by
    have hb : Nat.beq x.ctorIdx 0 = true := by revert h; cases x <;> first | exact non | exact fun _ => rfl
    revert h; apply ofBoolOp hb; clear hb; intro op vs pos h
    match vs, h with
    | l :: r :: rest, h =>
      have h : (op == PySem.BoolOp.Or && chkE B c a l && chkE B c b (.BoolOp .Or (r :: rest) pos)) = true := h
      rw [Bool.and_eq_true, Bool.and_eq_true] at h
      have e1 := eq_of_beq h.1.1
      subst e1
      obtain ⟨i1, i2, _⟩ := sA hcf hm a X c l ok h.1.2
      obtain ⟨j1, _, j3⟩ := sA hcf hm b X c _ ok h.2
      have w := s_orW i2 (j3 rfl)
      exact ⟨s_or i1 j1, w.pt, fun _ => w⟩
    | [], h => exact nobE h
    | [_], h => exact nobE h
  | .one a => fun X c x ok h => by
    have hb : Nat.beq x.ctorIdx 0 = true := by revert h; cases x <;> first | exact non | exact fun _ => rfl
    revert h; apply ofBoolOp hb; clear hb; intro op vs pos h
    match vs, h with
    | [l], h =>
      obtain ⟨i1, i2, _⟩ := sA hcf hm a X c l ok (show chkE B c a l = true from h)
      exact ⟨pe_one i1, (s_oneW i2).pt, fun _ => s_oneW i2⟩
    | [], h => exact nobE h
    | _ :: _ :: _, h => exact nobE h
  | .ite t a b => fun X c x ok h => by
    have hb : Nat.beq x.ctorIdx 5 = true := by revert h; cases x <;> first | exact non | exact fun _ => rfl
    revert h; apply ofIfExp hb; clear hb; intro l y z pos h
    have h : (chkE B c t l && chkE B c a y && chkE B c b z) = true := h
    rw [Bool.and_eq_true, Bool.and_eq_true] at h
    obtain ⟨_, i2, _⟩ := sA hcf hm t X c l ok h.1.1
    obtain ⟨j1, j2, _⟩ := sA hcf hm a X c y ok h.1.2
    obtain ⟨k1, k2, _⟩ := sA hcf hm b X c z ok h.2
    exact ⟨s_ite i2 j1 k1, pt_ifE i2 j2 k2, fun q => by cases q⟩
  | .tup es => fun X c x ok h => by
    have hb : Nat.beq x.ctorIdx 25 = true := by revert h; cases x <;> first | exact non | exact fun _ => rfl
    revert h; apply ofTuple hb; clear hb; intro xs kk pos h
    exact only (s_tup (sEs hcf hm es X c xs ok h)) rfl fun _ => rfl
  | .lst es => fun X c x ok h => by
    have hb : Nat.beq x.ctorIdx 24 = true := by revert h; cases x <;> first | exact non | exact fun _ => rfl
    revert h; apply ofList hb; clear hb; intro xs pos h
    exact only (s_lst (sEs hcf hm es X c xs ok h)) rfl fun _ => rfl
  | .sub a i => fun X c x ok h => by
    have hb : Nat.beq x.ctorIdx 21 = true := by revert h; cases x <;> first | exact non | exact fun _ => rfl
    revert h; apply ofSubscript hb; clear hb; intro l y pos h
    have h : (chkE B c a l && chkE B c i y) = true := h
    rw [Bool.and_eq_true] at h
    exact only (s_sub ok.hK ok.u1 (sA hcf hm a X c l ok h.1).1 (sA hcf hm i X c y ok h.2).1 (plainIx_of h.2)) rfl fun _ => rfl
  | .slc a lo hi => fun X c x ok h => by
    have hb : Nat.beq x.ctorIdx 21 = true := by revert h; cases x <;> first | exact non | exact fun _ => rfl
    revert h; apply ofSubscript hb; clear hb; intro l y pos h
    have hb : Nat.beq y.ctorIdx 26 = true := by revert h; cases y <;> first | exact non | exact fun _ => rfl
    revert h; apply ofSlice hb; clear hb; intro lo' hi' st p2 h
    cases st with
    | none =>
      have h : (chkE B c a l && chkO B c lo lo' && chkO B c hi hi') = true := h
      rw [Bool.and_eq_true, Bool.and_eq_true] at h
      exact only (s_slc ok.hK (sA hcf hm a X c l ok h.1.1).1 (sO hcf hm lo X c lo' ok h.1.2) (sO hcf hm hi X c hi' ok h.2)) rfl fun _ => rfl
    | some _ => exact nobE h
  | .bi b es => fun X c x ok h => by
    have hb : Nat.beq x.ctorIdx 16 = true := by revert h; cases x <;> first | exact non | exact fun _ => rfl
    revert h; apply ofCall hb; clear hb; intro f args kws pos h
    have hb : Nat.beq f.ctorIdx 23 = true := by revert h; cases f <;> first | exact non | exact fun _ => rfl
    revert h; apply ofName hb; clear hb; intro n p h
    cases kws with
    | nil =>
      cases b with
      | isinst t =>
        match es, args, h with
        | [], _, h => exact (and_no (show (_ && false) = true from h)).elim
        | _ :: _ :: _, _, h => exact (and_no (show (_ && false) = true from h)).elim
        | [_], [], h => exact (and_no (show (_ && false) = true from h)).elim
        | [_], [_], h => exact (and_no (show (_ && false) = true from h)).elim
        | [_], _ :: z :: _ :: _, h => cases z <;> exact (and_no (show (_ && false) = true from h)).elim
        | [e], [y, z], h =>
          cases z with
          | Name z pz =>
            have h : (n == ("isinstance" : Str) && B.bare.contains n && B.bare.contains (tyN t) && gloK (c.names.lookup n) && (chkE B c e y && notStar y && z == tyN t && gloK (c.names.lookup z))) = true := h
            simp only [Bool.and_eq_true] at h
            obtain ⟨⟨⟨⟨h1, h2⟩, h3⟩, h4⟩, ⟨⟨h5, h6⟩, h7⟩, h8⟩ := h
            have e1 := eq_of_beq h1
            have e2 := eq_of_beq h7
            subst e1 e2
            exact only (s_is ok (ok.glob h4) (ok.bare _ (List.contains_iff_mem.mp h2)) (ok.glob h8) (ok.bare _ (List.contains_iff_mem.mp h3)) h6 (sA hcf hm e X c y ok h5).1) rfl fun _ => rfl
          | _ => exact (and_no (show (_ && false) = true from h)).elim
      | len => exact bi_case ok rfl (show (n == biS .len && B.bare.contains n && gloK (c.names.lookup n) && chkEs B c es args && !es.isEmpty) = true from h) fun q => sRs hcf hm es X c args ok q
      | abs => exact bi_case ok rfl (show (n == biS .abs && B.bare.contains n && gloK (c.names.lookup n) && chkEs B c es args && !es.isEmpty) = true from h) fun q => sRs hcf hm es X c args ok q
      | int => exact bi_case ok rfl (show (n == biS .int && B.bare.contains n && gloK (c.names.lookup n) && chkEs B c es args && !es.isEmpty) = true from h) fun q => sRs hcf hm es X c args ok q
      | str => exact bi_case ok rfl (show (n == biS .str && B.bare.contains n && gloK (c.names.lookup n) && chkEs B c es args && !es.isEmpty) = true from h) fun q => sRs hcf hm es X c args ok q
      | tuple => exact bi_case ok rfl (show (n == biS .tuple && B.bare.contains n && gloK (c.names.lookup n) && chkEs B c es args && !es.isEmpty) = true from h) fun q => sRs hcf hm es X c args ok q
      | list => exact bi_case ok rfl (show (n == biS .list && B.bare.contains n && gloK (c.names.lookup n) && chkEs B c es args && !es.isEmpty) = true from h) fun q => sRs hcf hm es X c args ok q
      | sum => exact bi_case ok rfl (show (n == biS .sum && B.bare.contains n && gloK (c.names.lookup n) && chkEs B c es args && !es.isEmpty) = true from h) fun q => sRs hcf hm es X c args ok q
      | all => exact bi_case ok rfl (show (n == biS .all && B.bare.contains n && gloK (c.names.lookup n) && chkEs B c es args && !es.isEmpty) = true from h) fun q => sRs hcf hm es X c args ok q
      | any => exact bi_case ok rfl (show (n == biS .any && B.bare.contains n && gloK (c.names.lookup n) && chkEs B c es args && !es.isEmpty) = true from h) fun q => sRs hcf hm es X c args ok q
      | min2 => exact bi_case ok rfl (show (n == biS .min2 && B.bare.contains n && gloK (c.names.lookup n) && chkEs B c es args && !es.isEmpty) = true from h) fun q => sRs hcf hm es X c args ok q
      | max2 => exact bi_case ok rfl (show (n == biS .max2 && B.bare.contains n && gloK (c.names.lookup n) && chkEs B c es args && !es.isEmpty) = true from h) fun q => sRs hcf hm es X c args ok q
      | sorted => exact bi_case ok rfl (show (n == biS .sorted && B.bare.contains n && gloK (c.names.lookup n) && chkEs B c es args && !es.isEmpty) = true from h) fun q => sRs hcf hm es X c args ok q
      | repr => exact bi_case ok rfl (show (n == biS .repr && B.bare.contains n && gloK (c.names.lookup n) && chkEs B c es args && !es.isEmpty) = true from h) fun q => sRs hcf hm es X c args ok q
      | dict => exact bi_case ok rfl (show (n == biS .dict && B.bare.contains n && gloK (c.names.lookup n) && chkEs B c es args && !es.isEmpty) = true from h) fun q => sRs hcf hm es X c args ok q
    | cons _ _ => exact nobE h
  | .call f es => fun X c x ok h => by
    have hb : Nat.beq x.ctorIdx 16 = true := by revert h; cases x <;> first | exact non | exact fun _ => rfl
    revert h; apply ofCall hb; clear hb; intro q args kws pos h
    have hb : Nat.beq q.ctorIdx 23 = true := by revert h; cases q <;> first | exact non | exact fun _ => rfl
    revert h; apply ofName hb; clear hb; intro n p h
    cases kws with
    | nil =>
      have h : (B.fns[f]? == some n && gloK (c.names.lookup n) && plainN n && chkEs B c es args && !es.isEmpty) = true := h
      simp only [Bool.and_eq_true] at h
      obtain ⟨⟨⟨⟨h1, h2⟩, h3⟩, h4⟩, h5⟩ := h
      cases args with
      | nil =>
        cases es with
        | nil => cases h5
        | cons _ _ => exact nobE h4
      | cons y ys => exact only (s_call hcf ok (eq_of_beq h1) (ok.glob h2) (plain_of h3).1 (star_all h4) (sEs hcf hm es X c (y :: ys) ok h4)) rfl fun _ => rfl
    | cons _ _ => exact nobE h
  | .callk f perm es => fun X c x ok h => by
    have hb : Nat.beq x.ctorIdx 16 = true := by revert h; cases x <;> first | exact non | exact fun _ => rfl
    revert h; apply ofCall hb; clear hb; intro q args kws pos h
    have hb : Nat.beq q.ctorIdx 23 = true := by revert h; cases q <;> first | exact non | exact fun _ => rfl
    revert h; apply ofName hb; clear hb; intro n p h
    cases args with
    | nil =>
      refine only (callk_case hm ok ?_ fun q => sKs hcf hm es X c kws ok q) rfl fun _ => rfl
      cases kws <;> exact h
    | cons _ _ => exact nobE h
  | .comp t js it ifs elt => fun X c x ok h => by
    have hb : Nat.beq x.ctorIdx 8 = true := by revert h; cases x <;> first | exact non | exact fun _ => rfl
    revert h; apply ofListComp hb; clear hb; intro y gens sc pos h
    match gens, h with
    | [⟨tgt, iter, cs, kk⟩], h => exact only (comp_case (fun X c tgt x ok q => sI hcf hm it X c tgt x ok q) (fun X c xs ok q l => sFs hcf hm ifs X c xs ok q l) (fun X c x ok q => (sA hcf hm elt X c x ok q).1) ok h).1 rfl fun _ => rfl
    | [], h => exact nobE h
    | ⟨_, _, _, _⟩ :: ⟨_, _, _, _⟩ :: _, h => exact nobE h
  | .box e => fun X c x ok h => by
    have h : (plainB x && chkE B c e x) = true := h
    rw [Bool.and_eq_true] at h
    have pe : PE X x (TX Γ cf (.box e)) := ((sA hcf hm e X c x ok h.2).1).imp fun σ H Q ⟨ρ, S, V, g, H₀, hw, w, env, kk⟩ => ⟨ρ, S, _, g, H₀, hw, w, env, fun y v H1 g1 S1 st w1 vx q => by
      obtain ⟨d, k⟩ := y
      cases k with
      | fr =>
        obtain ⟨g2, s2, w2, h2⟩ := boxed st w1 vx
        exact kk (.ref S1.length, .st) v H1 g2 _ s2 w2 h2 q
      | _ => exact q.elim⟩
    have hp := h.1
    cases x <;> first | exact only pe rfl fun _ => rfl | exact nobE hp
  | .dic tk ks es => fun X c x ok h => nobE h
  | .mth m o es => fun X c x ok h => by
    have hb : Nat.beq x.ctorIdx 16 = true := by revert h; cases x <;> first | exact non | exact fun _ => rfl
    revert h; apply ofCall hb; clear hb; intro f args kws pos h
    obtain ⟨w, ap, y, ys, rfl, rfl, rfl, h1, h2, h3, h4, h5⟩ := mth_is h
    exact only (s_mth ok (sA hcf hm o X c w ok h1).1 (star_all h2) (sEs hcf hm es X c (y :: ys) ok h2) h3 h4 h5) rfl fun _ => rfl
  | .flip e => fun X c x ok h => by
    have hb : Nat.beq x.ctorIdx 21 = true := by revert h; cases x <;> first | exact non | exact fun _ => rfl
    revert h; apply ofSubscript hb; clear hb; intro y z pos h
    have h : (chkE B c e y && isRev z) = true := h
    rw [Bool.and_eq_true] at h
    obtain ⟨k1, q1, q2, q3, rfl⟩ := isRev_is h.2
    exact only (s_flip (sA hcf hm e X c y ok h.1).1) rfl fun _ => rfl
  | .callv i es => fun X c x ok h => nobE h
  | .seq _ => fun X c x ok h => none_of fun _ _ _ q => q
  | .rng _ _ => fun X c x ok h => none_of fun _ _ _ q => q
  | .enum _ => fun X c x ok h => none_of fun _ _ _ q => q
  | .zip _ _ => fun X c x ok h => none_of fun _ _ _ q => q
  | .rev _ => fun X c x ok h => none_of fun _ _ _ q => q
  | .items _ => fun X c x ok h => none_of fun _ _ _ q => q
theorem sRs (hcf : CfN B cf) (hm : Mono cf) : ∀ (es : List E) (X : Cx) (c : Cc) (xs : List Expr), XOk Γ B (spN Γ cf) k X c -> chkEs B c es xs = true -> PA X xs (TXr Γ cf es)
 | [], X, c, xs, ok, h => by
  cases xs with
  | nil => exact s_nil
  | cons _ _ => exact nobE h
 | [e], X, c, xs, ok, h => by
  cases xs with
  | nil => exact nobE h
  | cons x xs =>
   have h : (chkE B c e x && notStar x && chkEs B c [] xs) = true := h
   rw [Bool.and_eq_true, Bool.and_eq_true] at h
   cases xs with
   | nil => exact pa_cons (sA hcf hm e X c x ok h.1.1).1 pa_nil (starEach_of h.1.2 _ _)
   | cons _ _ => exact nobE h.2
 | e :: f :: es, X, c, xs, ok, h => by
  cases xs with
  | nil => exact nobE h
  | cons x xs =>
   have h : (chkE B c e x && notStar x && chkEs B c (f :: es) xs) = true := h
   rw [Bool.and_eq_true, Bool.and_eq_true] at h
   exact s_cons h.1.2 (sA hcf hm e X c x ok h.1.1).1 (sEs hcf hm (f :: es) X c xs ok h.2)
theorem sEs (hcf : CfN B cf) (hm : Mono cf) : ∀ (es : List E) (X : Cx) (c : Cc) (xs : List Expr), XOk Γ B (spN Γ cf) k X c -> chkEs B c es xs = true -> PA X xs (TXs Γ cf es)
 | [], X, c, xs, ok, h => by
  cases xs with
  | nil => exact s_nil
  | cons _ _ => exact nobE h
 | e :: es, X, c, xs, ok, h => by
  cases xs with
  | nil => exact nobE h
  | cons x xs =>
   have h : (chkE B c e x && notStar x && chkEs B c es xs) = true := h
   rw [Bool.and_eq_true, Bool.and_eq_true] at h
   exact s_cons h.1.2 (sA hcf hm e X c x ok h.1.1).1 (sEs hcf hm es X c xs ok h.2)
theorem sPs {pos : Pos} (hcf : CfN B cf) (hm : Mono cf) : ∀ (es : List E) (X : Cx) (c : Cc) (vals : List Expr) (ks : List Key) (keys : List (Option Expr)), XOk Γ B (spN Γ cf) k X c -> chkFs B c es vals = true -> chkDk ks keys = true -> ks.length = es.length -> PPd X pos keys vals ks (TXs Γ cf es)
 | [], X, c, vals, ks, keys, ok, h, hk, hl => by
  cases vals with
  | cons _ _ => exact nobE h
  | nil =>
   cases ks with
   | cons _ _ => cases hl
   | nil =>
    cases keys with
    | cons _ _ => exact nobE hk
    | nil => exact s_pnil
 | a :: es, X, c, vals, ks, keys, ok, h, hk, hl => by
  cases vals with
  | nil => exact nobE h
  | cons x vals =>
   have h : (chkE B c a x && chkFs B c es vals) = true := h
   rw [Bool.and_eq_true] at h
   cases ks with
   | nil => cases hl
   | cons k0 ks =>
    obtain ⟨q, n, p, r, rfl, hc, hr⟩ := chkDk_cons hk
    exact s_pcons (hc X) (sA hcf hm a X c x ok h.1).1 (sPs hcf hm es X c vals ks r ok h.2 hr (by simpa using hl))
theorem sKs (hcf : CfN B cf) (hm : Mono cf) : ∀ (es : List E) (X : Cx) (c : Cc) (kws : List Keyword), XOk Γ B (spN Γ cf) k X c -> chkKs B c es kws = true -> PK X kws (TXs Γ cf es)
 | [], X, c, xs, ok, h => by
  cases xs with
  | nil => exact s_knil
  | cons _ _ => exact nobE h
 | e :: es, X, c, xs, ok, h => by
  cases xs with
  | nil => exact nobE h
  | cons q xs =>
   obtain ⟨n, x, kp⟩ := q
   cases n with
   | none => exact nobE h
   | some n =>
    have h : (chkE B c e x && chkKs B c es xs) = true := h
    rw [Bool.and_eq_true] at h
    exact s_kcons (sA hcf hm e X c x ok h.1).1 (sKs hcf hm es X c xs ok h.2)
theorem sI (hcf : CfN B cf) (hm : Mono cf) : ∀ (e : E) (X : Cx) (c : Cc) (tgt x : Expr), XOk Γ B (spN Γ cf) k X c -> chkI B c e tgt x = true -> PI X tgt x (TXi Γ cf e)
 | .seq e, X, c, tgt, x, ok, h => s_seq ok.hK (sA hcf hm e X c x ok h).1
 | .rng none hi, X, c, tgt, x, ok, h => by
  have hb : Nat.beq x.ctorIdx 16 = true := by revert h; cases x <;> first | exact non | exact fun _ => rfl
  revert h; apply ofCall hb; clear hb; intro q args kws pos h
  have hb : Nat.beq q.ctorIdx 23 = true := by revert h; cases q <;> first | exact non | exact fun _ => rfl
  revert h; apply ofName hb; clear hb; intro n p h
  cases kws with
  | nil =>
   match args, h with
   | [y], h =>
    have h : (n == ("range" : Str) && B.bare.contains n && gloK (c.names.lookup n) && chkE B c hi y && notStar y) = true := h
    simp only [Bool.and_eq_true] at h
    obtain ⟨⟨⟨⟨h1, h2⟩, h3⟩, h4⟩, h5⟩ := h
    have e1 := eq_of_beq h1
    subst e1
    exact s_rng1 (ok.glob h3) (ok.bare _ (List.contains_iff_mem.mp h2)) h5 (sA hcf hm hi X c y ok h4).1
   | [], h => exact nobE h
   | _ :: _ :: _, h => exact nobE h
  | cons _ _ => rcases args with _ | ⟨_, _ | ⟨_, _ | ⟨_, _⟩⟩⟩ <;> exact nobE h
 | .rng (some _) _, X, c, tgt, x, ok, h => nobE h
 | .enum e, X, c, tgt, x, ok, h => nobE h
 | .var _, X, c, tgt, x, ok, h => nobE h
 | .con _, X, c, tgt, x, ok, h => nobE h
 | .glo _ _, X, c, tgt, x, ok, h => nobE h
 | .bin _ _ _, X, c, tgt, x, ok, h => nobE h
 | .neg _, X, c, tgt, x, ok, h => nobE h
 | .cmp _ _ _, X, c, tgt, x, ok, h => nobE h
 | .chn _ _ _ _ _, X, c, tgt, x, ok, h => nobE h
 | .not _, X, c, tgt, x, ok, h => nobE h
 | .and _ _, X, c, tgt, x, ok, h => nobE h
 | .or _ _, X, c, tgt, x, ok, h => nobE h
 | .ite _ _ _, X, c, tgt, x, ok, h => nobE h
 | .tup _, X, c, tgt, x, ok, h => nobE h
 | .lst _, X, c, tgt, x, ok, h => nobE h
 | .dic _ _ _, X, c, tgt, x, ok, h => nobE h
 | .sub _ _, X, c, tgt, x, ok, h => nobE h
 | .slc _ _ _, X, c, tgt, x, ok, h => nobE h
 | .bi _ _, X, c, tgt, x, ok, h => nobE h
 | .mth _ _ _, X, c, tgt, x, ok, h => nobE h
 | .call _ _, X, c, tgt, x, ok, h => nobE h
 | .callk _ _ _, X, c, tgt, x, ok, h => nobE h
 | .callv _ _, X, c, tgt, x, ok, h => nobE h
 | .comp _ _ _ _ _, X, c, tgt, x, ok, h => nobE h
 | .box _, X, c, tgt, x, ok, h => nobE h
 | .one _, X, c, tgt, x, ok, h => nobE h
 | .flip _, X, c, tgt, x, ok, h => nobE h
 | .zip _ _, X, c, tgt, x, ok, h => nobE h
 | .rev _, X, c, tgt, x, ok, h => nobE h
 | .items _, X, c, tgt, x, ok, h => nobE h
theorem sFs (hcf : CfN B cf) (hm : Mono cf) : ∀ (es : List E) (X : Cx) (c : Cc) (xs : List Expr), XOk Γ B (spN Γ cf) k X c -> chkFs B c es xs = true -> es.length <= 1 -> PTs X xs (TXf Γ cf es)
 | [], X, c, xs, ok, h, _ => by
  cases xs with
  | nil => exact s_fn
  | cons _ _ => exact nobE h
 | [e], X, c, xs, ok, h, _ => by
  cases xs with
  | nil => exact nobE h
  | cons x xs =>
   have h : (chkE B c e x && chkFs B c [] xs) = true := h
   rw [Bool.and_eq_true] at h
   cases xs with
   | nil => exact s_f1 (sA hcf hm e X c x ok h.1).2.1
   | cons _ _ => cases (show false = true from h.2)
 | _ :: _ :: _, X, c, xs, ok, h, hl => by
  exfalso
  simp at hl
theorem sO (hcf : CfN B cf) (hm : Mono cf) : ∀ (o : Option E) (X : Cx) (c : Cc) (x : Option Expr), XOk Γ B (spN Γ cf) k X c -> chkO B c o x = true -> PO X x (TXo Γ cf o)
 | none, X, c, x, ok, h => by
  cases x with
  | none => exact s_poN
  | some _ => exact nobE h
 | some o, X, c, x, ok, h => by
  cases x with
  | none => exact nobE h
  | some x => exact s_po (sA hcf hm o X c x ok h).1
end
theorem sCS (hcf : CfN B cf) (hm : Mono cf) {t : T} {js : List Nat} {it : E} {ifs : List E} {elt : E} {X : Cx} {c : Cc} {x : Expr} (ok : XOk Γ B (spN Γ cf) k X c) (h : chkE B c (.comp t js it ifs elt) x = true) : CSet X x (TX Γ cf (.comp t js it ifs elt)) := by
 have hb : Nat.beq x.ctorIdx 8 = true := by revert h; cases x <;> first | exact non | exact fun _ => rfl
 revert h; apply ofListComp hb; clear hb; intro y gens sc pos h
 match gens, h with
 | [⟨tgt, iter, cs, kk⟩], h => exact (comp_case (sI hcf hm it) (sFs hcf hm ifs) (fun X c x ok q => (sA hcf hm elt X c x ok q).1) ok h).2
 | [], h => exact nobE h
 | ⟨_, _, _, _⟩ :: ⟨_, _, _, _⟩ :: _, h => exact nobE h
end
end EV
namespace EV
open PySem PySem.Spec PyProof.Rows L2
section
variable {X : Cx} {Γ : Gm} {H₀ H : Hp} {g₀ g : G} {ρ : List Slot} {σ : L2.St} {S : Store} {x : Expr} {a : Addr}
theorem EnvO.updOw {i : Nat} {c c' : D} {o' : HO} (env : EnvO Γ H₀ H g ρ σ) (hi : ρ[i]? = some (.ow c)) (ha : σ[i]? = some (some (.ref a))) (hc : CellOk Γ (upd H a o') g a c') (hin : isIns c' = false) : EnvO Γ H₀ (upd H a o') g (ρ.set i (.ow c')) σ := by
 obtain ⟨a', e1, e2, e3, e4, e5, e6⟩ := env.ow i c hi
 rw [ha] at e1
 cases e1
 refine ⟨by rw [List.length_set]; exact env.len, fun j e q => ?_, fun j e q => ?_, fun j j' e e' b q1 q2 q3 q4 => ?_⟩
 ·rcases set_get q with ⟨rfl, h1, h2⟩ | ⟨h1, h2⟩
  ·cases h2
  ·exact env.sh j e h2
 ·rcases set_get q with ⟨rfl, h1, h2⟩ | ⟨h1, h2⟩
  ·cases h2
   exact ⟨a, ha, e2, e3, e4, hc, hin⟩
  ·obtain ⟨b, f1, f2, f3, f4, f5, f6⟩ := env.ow j e h2
   have hb : b ≠ a := by
    rintro rfl
    exact h1 (env.inj i j c e b hi h2 ha f1)
   exact ⟨b, f1, f2, f3, f4, f5.mono (Le.refl g) fun o z => by rw [upd_ne hb]; exact z, f6⟩
 ·have ow : ∀ {j : Nat} {e : D}, (ρ.set i (Slot.ow c'))[j]? = some (.ow e) -> ∃ e, ρ[j]? = some (.ow e) := fun {j e} q => by
   rcases set_get q with ⟨rfl, h1, h2⟩ | ⟨h1, h2⟩
   ·exact ⟨c, hi⟩
   ·exact ⟨e, h2⟩
  obtain ⟨_, w1⟩ := ow q1
  obtain ⟨_, w2⟩ := ow q2
  exact env.inj j j' _ _ b w1 w2 q3 q4
theorem EnvO.updCell {o' : HO} (env : EnvO Γ H₀ H g ρ σ) (ha : a ∈ g.α) : EnvO Γ H₀ (upd H a o') g ρ σ := by
 refine ⟨env.len, env.sh, fun i d h => ?_, env.inj⟩
 obtain ⟨b, f1, f2, f3, f4, f5, f6⟩ := env.ow i d h
 have hb : b ≠ a := by
  rintro rfl
  exact f4 ha
 exact ⟨b, f1, f2, f3, f4, f5.mono (Le.refl g) fun o z => by rw [upd_ne hb]; exact z, f6⟩
theorem Step.cell_upd {H' : Hp} {g' : G} {o' : HO} (s : Step H g H' g') (ha : a ∈ g'.α) : Step H g (upd H' a o') g' where
 le := s.le
 fr := fun b u e n => by
  have hb : b ≠ a := by
   rintro rfl
   rcases s.na b ha with q | q
   ·exact n q
   ·rw [e] at q; cases q
  rw [upd_ne hb]; exact s.fr b u e n
 ex := fun b u e => by
  by_cases hb : b = a
  ·subst hb
   exact ⟨o', upd_same⟩
  ·rw [upd_ne hb]; exact s.ex b u e
 na := s.na
 nr := s.nr
theorem WOk.cell_upd {o' : HO} {n : Nat} {c' : D} (w : WOk Γ H g S) (hn : g.α[n]? = some a) (hc : CellOk Γ (upd H a o') g a c') : WOk Γ (upd H a o') g (S.set n c') where
 rh := fun b u q => by
  have hb : b ≠ a := by
   rintro rfl
   rw [w.off b (List.mem_of_getElem? hn)] at q; cases q
  rw [upd_ne hb]; exact w.rh b u q
 len := by rw [List.length_set]; exact w.len
 nd := w.nd
 off := w.off
 cell := fun k c b h1 h2 => by
  rcases set_get h1 with ⟨rfl, z1, rfl⟩ | ⟨z1, z2⟩
  ·rw [hn] at h2
   cases h2
   exact hc
  ·have hb : b ≠ a := by
    rintro rfl
    exact z1 ((nodup_inj w.nd hn h2))
   exact (w.cell k c b z2 h2).mono (Le.refl g) fun o z => by rw [upd_ne hb]; exact z
where
 nodup_inj : ∀ {l : List Addr} {i j : Nat} {b : Addr}, l.Nodup -> l[i]? = some b -> l[j]? = some b -> i = j := fun {l i j b} nd h1 h2 => by
  have hi := (List.getElem?_eq_some_iff.mp h1).1
  have hj := (List.getElem?_eq_some_iff.mp h2).1
  have e : l[i]? = l[j]? := by rw [h1, h2]
  exact (List.getElem?_inj hi nd).mp e
theorem size_of {n : Nat} (h : fits (n + 1) = true) : n < sizeLine := by
 have := lim_le h
 omega
theorem few_one {env : Env} {cpos : Pos} (hs : notStar x = true) : ((backTo cpos (starEach [x] env)).all (fun x => !x.1) && (backToKw cpos (keywordEach [] env)).all (fun x => x.1.isSome)
   && decide (([x] : List Expr).length + ([] : List Keyword).length + (if ([] : List Keyword).isEmpty then 0 else 1) < 30)) = true := by
 rw [starEach_of hs]
 rfl
end
section
variable {κ : Type} [DecidableEq κ]
theorem mapK_len {α : Type} : ∀ (ks : List κ) (ds : List α) (k : κ) (d : α), (mapK ks ds k d).length = ds.length
 | [], ds, _, _ => by cases ds <;> rfl
 | _ :: _, [], _, _ => rfl
 | a :: ks, b :: ds, k, d => by simp [mapK, mapK_len ks ds k d]
theorem zip_any : ∀ (ks : List κ) (vs : List V) (k : κ), ks.length = vs.length -> ((ks.zip vs).any fun kv => decide (kv.1 = k)) = hasK ks k
 | [], [], _, _ => rfl
 | a :: ks, v :: vs, k, h => by
  have := zip_any ks vs k (by simpa using h)
  unfold hasK at this ⊢
  simp only [List.zip_cons_cons, List.any_cons, this]
 | [], _ :: _, _, h => by simp at h
 | _ :: _, [], _, h => by simp at h
theorem zip_map : ∀ (ks : List κ) (vs : List V) (k : κ) (v : V), (ks.zip vs).map (fun kv => if kv.1 = k then (kv.1, v) else kv) = ks.zip (mapK ks vs k v)
 | [], vs, _, _ => by cases vs <;> rfl
 | _ :: _, [], _, _ => rfl
 | a :: ks, u :: vs, k, v => by
  have := zip_map ks vs k v
  simp only [List.zip_cons_cons, List.map_cons, this, mapK]
  by_cases h : a = k
  ·simp [h]
  ·simp [h]
theorem putK_zip {ks : List κ} {vs : List V} {k : κ} {v : V} (h : ks.length = vs.length) : putK (ks.zip vs) k v = (putKs ks vs k v).1.zip (putKs ks vs k v).2 := by
 unfold putK putKs
 rw [zip_any ks vs k h]
 by_cases q : hasK ks k = true
 ·rw [if_pos q, if_pos q, zip_map]
 ·rw [if_neg q, if_neg q]
  simp [List.zip_append h]
theorem putKs_len {α : Type} {ks : List κ} {ds : List α} {k : κ} {d : α} (h : ks.length = ds.length) : (putKs ks ds k d).1.length = (putKs ks ds k d).2.length := by
 unfold putKs
 split
 ·simp [mapK_len, h]
 ·simp [h]
theorem hass_mapK {Γ : Gm} {g : G} : ∀ {ks : List κ} {ds : List D} {vs : List V} {k : κ} {d : D} {v : V}, Hass Γ g ds vs -> Has Γ g d v -> Hass Γ g (mapK ks ds k d) (mapK ks vs k v)
 | [], ds, vs, _, _, _, h, _ => by
  have e1 : mapK ([] : List κ) ds = fun _ _ => ds := by funext a b; cases ds <;> rfl
  have e2 : mapK ([] : List κ) vs = fun _ _ => vs := by funext a b; cases vs <;> rfl
  rw [e1, e2]
  exact h
 | _ :: _, [], vs, _, _, _, h, _ => by
  cases (show vs = [] from h)
  exact rfl
 | a :: ks, b :: ds, _, k, d, v, ⟨u, r, e, h1, h2⟩, hd => by
  subst e
  refine ⟨if a = k then v else u, mapK ks r k v, rfl, ?_, hass_mapK h2 hd⟩
  split
  ·exact hd
  ·exact h1
theorem hass_putKs {Γ : Gm} {g : G} {ks : List κ} {ds : List D} {vs : List V} {k : κ} {d : D} {v : V} (h : Hass Γ g ds vs) (hd : Has Γ g d v) : Hass Γ g (putKs ks ds k d).2 (putKs ks vs k v).2 := by
 unfold putKs
 split
 ·exact hass_mapK h hd
 ·exact h.app (Hass.mk1 hd)
theorem putKs_keys {α β : Type} {ks : List κ} {ds : List α} {es : List β} {k : κ} {d : α} {e : β} : (putKs ks ds k d).1 = (putKs ks es k e).1 := by
 unfold putKs
 split <;> rfl
end
noncomputable def rSetU : TSet := fun o i v H Q => rSetL o i v H Q \/ ∃ a H', o = .ref a /\ DPut H a i v H' /\ Q H'
theorem set_any {X : Cx} (hu : X.A.units + 1 < cLine) : PSet X rSetU := by
 intro pins s σ H o i v ov iv u Q I r1 r2 r3 h
 rcases h with h | ⟨a, H', rfl, hp, q⟩
 ·exact set_list pins s σ H o i v ov iv u Q I r1 r2 r3 h
 ·cases r1
  exact d_setItem hu I hp r2 r3 fun s' I' => ⟨H', I', q⟩
theorem put_cell {Γ : Gm} {H : Hp} {g : G} {a : Addr} {c c' kd d : D} {vk vd : V} (h : putD c kd d = some c') (hc : CellOk Γ H g a c) (sm : Same g.R H) (hk : Has Γ g kd vk) (hd : Has Γ g d vd) :
    ∃ o', (∀ Q : Hp -> Prop, Q (upd H a o') -> rSetU (.ref a) vk vd H Q) /\ CellOk Γ (upd H a o') g a c' /\ isIns c' = false := by
  cases c with
  | lst l =>
   cases kd with
   | int i =>
    have h : (idx l.length i).map (fun k => D.lst (l.set k d)) = some c' := h
    cases e : idx l.length i with
    | none => rw [e] at h; cases h
    | some j =>
      rw [e] at h
      cases h
      obtain ⟨vs, h1, h2⟩ := hc
      cases (show vk = .int i from hk)
      refine ⟨.lst (vs.set j vd), fun Q q => .inl ⟨a, vs, i, j, rfl, rfl, h1, by rw [h2.len]; exact e, q⟩, ⟨_, upd_same, h2.set j hd⟩, rfl⟩
   | _ => cases h
  | dK ks ds =>
    have h : (keyD kd).bind (fun k => if fits (ks.length + 1) then some (let p := putKs ks ds k d; D.dK p.1 p.2) else none) = some c' := by
      cases kd <;> exact h
    cases e : keyD kd with
    | none => rw [e] at h; cases h
    | some k =>
      rw [e] at h
      have h : (if fits (ks.length + 1) = true then some (D.dK (putKs ks ds k d).1 (putKs ks ds k d).2) else none) = some c' := h
      split at h
      · rename_i hf
        cases h
        obtain ⟨vs, h1, h2, h3⟩ := hc
        have ek := keyD_has e hk
        subst ek
        have el : ks.length = vs.length := by rw [h3.len]; exact h2
        refine ⟨.dK ((putKs ks vs k vd).1.zip (putKs ks vs k vd).2), fun Q q => .inr ⟨a, _, rfl, DPut.k h1 (by rw [List.length_zip]; have := size_of hf; omega), ?_⟩, ⟨_, ?_, putKs_len h2, hass_putKs h3 hd⟩, rfl⟩
        · rw [putK_zip el]
          exact q
        · rw [upd_same, putKs_keys (ds := ds) (es := vs) (d := d) (e := vd)]
      · cases h
  | dT ks ds =>
   cases kd with
   | tup t =>
    have h : (keysD t).bind (fun k => if fits (ks.length + 1) then some (let p := putKs ks ds k d; D.dT p.1 p.2) else none) = some c' := h
    cases e : keysD t with
    | none => rw [e] at h; cases h
    | some k =>
      rw [e] at h
      have h : (if fits (ks.length + 1) = true then some (D.dT (putKs ks ds k d).1 (putKs ks ds k d).2) else none) = some c' := h
      split at h
      · rename_i hf
        cases h
        obtain ⟨vs, h1, h2, h3⟩ := hc
        obtain ⟨b, us, rfl, h4, h5⟩ := hk
        have ek := keysD_kV e h5
        subst ek
        have el : ks.length = vs.length := by rw [h3.len]; exact h2
        refine ⟨.dT ((putKs ks vs k vd).1.zip (putKs ks vs k vd).2), fun Q q => .inr ⟨a, _, rfl, DPut.t h1 (sm _ _ h4) (by rw [List.length_zip]; have := size_of hf; omega), ?_⟩, ⟨_, ?_, putKs_len h2, hass_putKs h3 hd⟩, rfl⟩
        · rw [putK_zip el]
          exact q
        · rw [upd_same, putKs_keys (ds := ds) (es := vs) (d := d) (e := vd)]
      · cases h
   | _ => cases h
  | _ => cases h
structure EN (Γ : Gm) (H₀ : Hp) (g₀ g : G) (E : Ends) (K : Ko) : Prop where
 nx : ∀ ρ σ H g' S, Step H₀ g₀ H g' -> Le g g' -> WOk Γ H g' S -> EnvO Γ H₀ H g' ρ σ -> K (.next ρ) S -> E.nx σ H
 bk : ∀ ρ σ H g' S, Step H₀ g₀ H g' -> Le g g' -> WOk Γ H g' S -> EnvO Γ H₀ H g' ρ σ -> K (.brk ρ) S -> E.bk σ H
 ct : ∀ ρ σ H g' S, Step H₀ g₀ H g' -> Le g g' -> WOk Γ H g' S -> EnvO Γ H₀ H g' ρ σ -> K (.cnt ρ) S -> E.ct σ H
 rt : ∀ d fr v H g' S, Step H₀ g₀ H g' -> Le g g' -> WOk Γ H g' S -> VOk Γ H₀ d fr v H g' -> K (.ret d fr) S -> E.rt v H
theorem EN.le {Γ : Gm} {H₀ : Hp} {g₀ g g1 : G} {E : Ends} {K : Ko} (n : EN Γ H₀ g₀ g E K) (le : Le g g1) : EN Γ H₀ g₀ g1 E K :=
 ⟨fun ρ σ H g' S st l => n.nx ρ σ H g' S st (le.trans l), fun ρ σ H g' S st l => n.bk ρ σ H g' S st (le.trans l), fun ρ σ H g' S st l => n.ct ρ σ H g' S st (le.trans l), fun d fr v H g' S st l => n.rt d fr v H g' S st (le.trans l)⟩
noncomputable def TK (Γ : Gm) (H₀ : Hp) (g₀ : G) (W : List Slot -> Ko -> Store -> Prop) : TS := fun E σ H => ∃ ρ S K g, W ρ K S /\ Step H₀ g₀ H g /\ WOk Γ H g S /\ EnvO Γ H₀ H g ρ σ /\ EN Γ H₀ g₀ g E K
theorem goK {Γ : Gm} {H₀ : Hp} {g₀ : G} {W : List Slot -> Ko -> Store -> Prop} {E : Ends} {σ : L2.St} {H : Hp} {P : Prop} (h : TK Γ H₀ g₀ W E σ H) (f : ∀ ρ S K g, W ρ K S -> Step H₀ g₀ H g -> WOk Γ H g S -> EnvO Γ H₀ H g ρ σ -> EN Γ H₀ g₀ g E K -> P) : P :=
 let ⟨ρ, S, K, g, a, b, c, d, e⟩ := h; f ρ S K g a b c d e
noncomputable abbrev TC (Γ : Gm) (cf : Cf) (w : Nat) (H₀ : Hp) (g₀ : G) (c : C) : TS := TK Γ H₀ g₀ (wpC cf w c)
noncomputable abbrev TCs (Γ : Gm) (cf : Cf) (w : Nat) (H₀ : Hp) (g₀ : G) (cs : List C) : TS := TK Γ H₀ g₀ (wpCs cf w cs)
section
variable {X : Cx} {Γ : Gm} {cf : Cf} {w : Nat} {H₀ : Hp} {g₀ : G} {st : Stmt} {sts aa bb : List Stmt} {x y z tgt o : Expr} {pos p spos : Pos} {e a b : E} {s : C} {ss A B : List C}
theorem sub_assign {i : Expr} (h : ∀ lo hi st p, i ≠ .Slice lo hi st p) (v : Value) (env : Env) : assign (.Subscript o i pos) env v = (do
   let ov <- holding [v] (eval o env)
   let iv <- holding [v, ov] (eval i env)
   standAt pos
   holding [v, ov, iv] (setItem ov iv v)
   release [v, ov, iv] []) := by
 cases i <;> first | rfl | exact absurd rfl (h _ _ _ _)
theorem s_pass : PS X (.Pass pos) (TC Γ cf w H₀ g₀ .pass) := ps_pass.imp fun E σ H h0 => goK h0 fun ρ S K g hw st wk env n => n.nx ρ σ H g S st (Le.refl g) wk env hw
theorem s_brk : PS X (.Break pos) (TC Γ cf w H₀ g₀ .brk) := ps_break.imp fun E σ H h0 => goK h0 fun ρ S K g hw st wk env n => n.bk ρ σ H g S st (Le.refl g) wk env hw
theorem s_cnt : PS X (.Continue pos) (TC Γ cf w H₀ g₀ .cnt) := ps_continue.imp fun E σ H h0 => goK h0 fun ρ S K g hw st wk env n => n.ct ρ σ H g S st (Le.refl g) wk env hw
theorem s_snil : PSs X [] (TCs Γ cf w H₀ g₀ []) := pss_nil.imp fun E σ H h0 => goK h0 fun ρ S K g hw st wk env n => n.nx ρ σ H g S st (Le.refl g) wk env hw
theorem s_scons (h1 : PS X st (TC Γ cf w H₀ g₀ s)) (h2 : PSs X sts (TCs Γ cf w H₀ g₀ ss)) : PSs X (st :: sts) (TCs Γ cf w H₀ g₀ (s :: ss)) :=
 (pss_cons h1 h2).imp fun E σ H h0 => goK h0 fun ρ S K g hw st wk env n => ⟨ρ, S, _, g, hw, st, wk, env, fun ρ' σ' H' g' S' st' le w' env' q => ⟨ρ', S', K, g', q, st', w', env', n.le le⟩, n.bk, n.ct, n.rt⟩
theorem env_frz {H : Hp} {g : G} {ρ : List Slot} {σ : L2.St} {S : Store} {i : Nat} (st : Step H₀ g₀ H g) (wk : WOk Γ H g S) (env : EnvO Γ H₀ H g ρ σ) : ∃ g', Step H₀ g₀ H g' /\ Le g g' /\ WOk Γ H g' S /\ EnvO Γ H₀ H g' (ρ.set i (fz ((ρ[i]?).getD .no))) σ := by
 have same : ∀ s, ρ[i]? = some s -> ρ.set i s = ρ := fun s h => by
  apply List.ext_getElem?
  intro j
  by_cases hj : i = j
  ·subst hj; rw [List.getElem?_set_self (List.getElem?_eq_some_iff.mp h).1, h]
  ·rw [List.getElem?_set_ne hj]
 cases e : ρ[i]? with
 | none =>
  refine ⟨g, st, Le.refl g, wk, ?_⟩
  rw [List.set_eq_of_length_le (List.getElem?_eq_none_iff.mp e)]
  exact env
 | some s =>
  cases s with
  | no => exact ⟨g, st, Le.refl g, wk, by rw [show fz ((some Slot.no).getD .no) = .no from rfl, same _ e]; exact env⟩
  | sh d => exact ⟨g, st, Le.refl g, wk, by rw [show fz ((some (Slot.sh d)).getD .no) = .sh d from rfl, same _ e]; exact env⟩
  | ow d =>
   obtain ⟨a, h1, h2, h3, h4, h5, h6⟩ := env.ow i d e
   obtain ⟨ob, ho, _⟩ := h5.isMut
   have le : Le g (g.put a ob) := Le.put h3
   refine ⟨g.put a ob, st.put h3 h2, le, wk.put ho h3 h4, by simp [env.len], fun j d' q => ?_, fun j d' q => ?_, fun j j' d1 d2 b q1 q2 q3 q4 => ?_⟩
   ·rcases set_get q with ⟨rfl, _, z⟩ | ⟨_, z⟩
    ·cases z
     exact ⟨.ref a, h1, has_frozen h3 ho h5⟩
    ·obtain ⟨v, f1, f2⟩ := env.sh j d' z
     exact ⟨v, f1, f2.mono le⟩
   ·rcases set_get q with ⟨rfl, _, z⟩ | ⟨hne, z⟩
    ·cases z
    ·obtain ⟨b, f1, f2, f3, f4, f5, f6⟩ := env.ow j d' z
     have hb : b ≠ a := by
      rintro rfl
      exact hne (env.inj i j d d' b e z h1 f1)
     exact ⟨b, f1, f2, by show upd g.R a ob b = none; rw [upd_ne hb]; exact f3, f4, f5.mono le fun _ z => z, f6⟩
   ·rcases set_get q1 with ⟨_, _, z⟩ | ⟨_, z1⟩
    ·cases z
    rcases set_get q2 with ⟨_, _, z⟩ | ⟨_, z2⟩
    ·cases z
    exact env.inj j j' d1 d2 b z1 z2 q3 q4
theorem s_frz {i : Nat} (h2 : PSs X sts (TCs Γ cf w H₀ g₀ ss)) : PSs X sts (TCs Γ cf w H₀ g₀ (.frz i :: ss)) :=
 h2.imp fun E σ H h0 => goK h0 fun ρ S K g hw st wk env n => by
  obtain ⟨g', st', le, w', env'⟩ := env_frz (i := i) st wk env
  exact ⟨_, S, K, g', hw, st', w', env', n.le le⟩
theorem s_expr (h : PE X x (TX Γ cf e)) (hs : swapsWith x none pos.line X.env = pure false) : PS X (.Expr x pos) (TC Γ cf w H₀ g₀ (.expr e)) :=
 (ps_expr h hs).imp fun E σ H h0 => goK h0 fun ρ S K g hw st wk env n => ⟨ρ, S, _, g, H₀, hw, wk, env, fun x v H1 g1 S1 s1 w1 vx q => n.nx ρ σ H1 g1 S1 (st.trans s1) s1.le w1 (env_step env s1) q⟩
theorem s_ret (hn : ∀ i, e ≠ .var i) (h : PE X x (TX Γ cf e)) : PS X (.Return (some x) pos) (TC Γ cf w H₀ g₀ (.ret e)) :=
 (ps_ret h).imp fun E σ H h0 => goK h0 fun ρ S K g hw st wk env n => by
  have hw : wpE cf ρ e (fun x S1 => retV x fun o => K o S1) S := by cases e <;> first | exact absurd rfl (hn _) | exact hw
  refine ⟨ρ, S, _, g, H₀, hw, wk, env, fun x v H1 g1 S1 s1 w1 vx q => ?_⟩
  obtain ⟨d, k⟩ := x
  cases k with
  | st => exact n.rt d false v H1 g1 S1 (st.trans s1) s1.le w1 vx q
  | fr => exact n.rt d true v H1 g1 S1 (st.trans s1) s1.le w1 (vx.back st) q
  | bo => exact q.elim
theorem s_retv {i : Nat} {n : Str} (hN : X.N[i]? = some n) (hv : Vis X.env.scope n) (hd : (n == ("__debug__" : Str)) = false) (hcd : (n == ("__classdict__" : Str)) = false) : PS X (.Return (some (.Name n p)) pos) (TC Γ cf w H₀ g₀ (.ret (.var i))) :=
 (ps_ret (pe_var hN hv hd hcd)).imp fun E σ H h0 => goK h0 fun ρ S K g hw st wk env n => by
  have hw : sel ρ[i]? (fun d => K (.ret d false) S) (fun d => K (.ret d true) S) := hw
  cases e : ρ[i]? with
  | none => rw [e] at hw; exact hw.elim
  | some s =>
   rw [e] at hw
   cases s with
   | no => exact hw.elim
   | sh d =>
    obtain ⟨v, h1, h2⟩ := env.sh i d e
    exact ⟨v, h1, n.rt d false v H g S st (Le.refl g) wk h2 hw⟩
   | ow d =>
    obtain ⟨a, h1, h2, h3, h4, h5, h6⟩ := env.ow i d e
    exact ⟨.ref a, h1, n.rt d true _ H g S st (Le.refl g) wk ⟨a, rfl, h2, h3, h4, h5⟩ hw⟩
theorem s_retN : PS X (.Return none pos) (TC Γ cf w H₀ g₀ .retN) := ps_retN.imp fun E σ H h0 => goK h0 fun ρ S K g hw st wk env n => n.rt .non false .non H g S st (Le.refl g) wk rfl hw
theorem s_if (h : PT X x (TB Γ cf e)) (ha : PSs X aa (TCs Γ cf w H₀ g₀ A)) (hb : PSs X bb (TCs Γ cf w H₀ g₀ B)) : PS X (.If x aa bb pos) (TC Γ cf w H₀ g₀ (.ite e A B)) :=
 (ps_if h ha hb).imp fun E σ H h0 => goK h0 fun ρ S K g hw st wk env n => ⟨ρ, S, _, g, H₀, hw, wk, env, fun x H1 g1 S1 s1 w1 h => by
  obtain ⟨r, e, q⟩ := isB_is h
  rw [e]
  show (if r = true then _ else _)
  cases r with
  | true => exact iteT ⟨ρ, S1, K, g1, q, st.trans s1, w1, env_step env s1, n.le s1.le⟩
  | false => exact iteF ⟨ρ, S1, K, g1, q, st.trans s1, w1, env_step env s1, n.le s1.le⟩⟩
theorem fresh_ne {H : Hp} {g : G} {ρ : List Slot} {σ : L2.St} {v : V} {d : D} {H1 : Hp} {g1 : G} (env : EnvO Γ H₀ H g ρ σ) (vx : VN Γ H (d, .fr) v H1 g1) : ∀ (i : Nat) (d : D), ρ[i]? = some (.ow d) -> σ[i]? ≠ some (some v) := fun i d' hi e => by
 obtain ⟨a, rfl, h0, _⟩ := vx
 obtain ⟨b, f1, _, _, _, f5, _⟩ := env.ow i d' hi
 rw [f1] at e
 cases e
 obtain ⟨o, ho, _⟩ := f5.isMut
 rw [h0] at ho
 cases ho
theorem set_go {H H1 : Hp} {g g1 : G} {ρ ρ2 : List Slot} {σ : L2.St} {S1 : Store} {t : T} {x : Vl} {v : V} {E : Ends} {K : Ko} (st : Step H₀ g₀ H g) (env : EnvO Γ H₀ H g ρ σ) (n : EN Γ H₀ g₀ g E K) (s1 : Step H g H1 g1) (w1 : WOk Γ H1 g1 S1) (vx : VN Γ H x v H1 g1) (hb : bindV ρ t x = some ρ2) (q : K (.next ρ2) S1) : tgOf X.K t v σ H1 fun σ' H' => E.nx σ' H' := by
 have env1 := env_step env s1
 obtain ⟨d, k⟩ := x
 cases k with
 | st => exact tg_bind (fr := false) hb env1 w1.rh vx (fun h => by cases h) fun σ' env' => n.nx _ σ' H1 g1 S1 (st.trans s1) s1.le w1 env' q
 | fr => exact tg_bind (fr := true) hb env1 w1.rh (vx.back st) (fun _ => fresh_ne env vx) fun σ' env' => n.nx _ σ' H1 g1 S1 (st.trans s1) s1.le w1 env' q
 | bo => cases hb
noncomputable def noBox : E -> Bool
 | .box _ => false
 | _ => true
theorem set_hw {ρ : List Slot} {t : T} {K : Ko} {S : Store} (hn : noBox e = true) (hw : wpC cf w (.set t e) ρ K S) : wpE cf ρ e (fun x S1 => opt (bindV ρ t x) fun ρ2 => K (.next ρ2) S1) S := by
 cases e <;> first | exact hw | cases hn
theorem s_set {t : T} (hn : noBox e = true) (h : PE X x (TX Γ cf e)) (hg : PG X tgt (tgOf X.K t)) (hs : swapsWithSole [tgt] x pos.line X.env = pure false) (hw : swappedStores [tgt] x X.env = pure none) (ha : (assignEach [tgt] X.env).map (·.2) = [assign tgt X.env]) : PS X (.Assign [tgt] x pos) (TC Γ cf w H₀ g₀ (.set t e)) :=
 (ps_asg h hg hs hw ha).imp fun E σ H h0 => goK h0 fun ρ S K g hw st wk env n => ⟨ρ, S, _, g, H₀, set_hw hn hw, wk, env, fun x v H1 g1 S1 s1 w1 vx q => by
  obtain ⟨ρ2, hb, q⟩ := opt_is q
  exact set_go (X := X) st env n s1 w1 vx hb q⟩
theorem s_setB {t : T} (h : PE X x (TX Γ cf e)) (hg : PG X tgt (tgOf X.K t)) (hs : swapsWithSole [tgt] x pos.line X.env = pure false) (hw : swappedStores [tgt] x X.env = pure none) (ha : (assignEach [tgt] X.env).map (·.2) = [assign tgt X.env]) : PS X (.Assign [tgt] x pos) (TC Γ cf w H₀ g₀ (.set t (.box e))) :=
 (ps_asg h hg hs hw ha).imp fun E σ H h0 => goK h0 fun ρ S K g hw st wk env n => ⟨ρ, S, _, g, H₀, hw, wk, env, fun x v H1 g1 S1 s1 w1 vx q => by
  obtain ⟨d, k⟩ := x
  cases k with
  | fr =>
   obtain ⟨ρ2, hb, q⟩ := opt_is q
   obtain ⟨g2, s2, w2, h2⟩ := boxed s1 w1 vx
   exact set_go (X := X) (x := (.ref S1.length, .st)) st env n s2 w2 h2 hb q
  | _ => exact q.elim⟩
theorem s_setc {t : T} {js : List Nat} {it elt : E} {ifs : List E} {i : Nat} {n : Str} {np : Pos} (h : CSet X x (TX Γ cf (.comp t js it ifs elt))) (hp : PG X (.Name n np) (gName i)) (hsw : swapsWith x (some (.Name n np)) pos.line X.env = pure true) : PS X (.Assign [.Name n np] x pos) (TC Γ cf w H₀ g₀ (.set (.one i) (.comp t js it ifs elt))) :=
 (h n np pos i hp hsw).imp fun E σ H h0 => goK h0 fun ρ S K g hw st wk env n => ⟨ρ, S, _, g, H₀, set_hw rfl hw, wk, env, fun x v H1 g1 S1 s1 w1 vx q => by
  obtain ⟨ρ2, hb, q⟩ := opt_is q
  exact set_go (X := X) (t := .one i) st env n s1 w1 vx hb q⟩
theorem s_for {t : T} {it : E} (hi : PI X tgt x (TXi Γ cf it)) (hg : PG X tgt (tgOf X.K t)) (hb : PSs X aa (TCs Γ cf w H₀ g₀ A)) (hp : PassesOwn (model X.prog X.w) X.A X.env X.xe) (hc : X.calm = true) (hs : ∀ v, foldedSetIterable x X.env v = pure v) : PS X (.For tgt x aa [] pos) (TC Γ cf w H₀ g₀ (.forr t it A)) :=
 (ps_for hp hc hi hg hb hs).imp fun E σ H h0 => goK h0 fun ρ S K g hw st wk env n => ⟨ρ, S, _, g, H₀, hw, wk, env, fun l J H1 g1 S1 s1 w1 hJ h1 => by
  refine ⟨fun i m σ H => m = l.length - i /\ i <= l.length /\ ∃ ρ S g2, forW t (fun ρ => wpCs cf w A ρ) (l.drop i) ρ K S /\ Step H₀ g₀ H g2 /\ Le g1 g2 /\ WOk Γ H g2 S /\ EnvO Γ H₀ H g2 ρ σ, ⟨_, rfl, Nat.zero_le _, ρ, S1, g1, h1, st.trans s1, Le.refl g1, w1, env_step env s1⟩, ?_⟩
  rintro i m σ H ⟨rfl, hi, ρ, S, g2, hw, st2, le, wk, env⟩
  by_cases hlt : i < l.length
  ·refine .inr ⟨hJ.go i H g2 le wk.rh hlt, fun σ' H' => ∃ ρ S g3, forW t (fun ρ => wpCs cf w A ρ) (l.drop (i + 1)) ρ K S /\ Step H₀ g₀ H' g3 /\ Le g1 g3 /\ WOk Γ H' g3 S /\ EnvO Γ H₀ H' g3 ρ σ', fun σ' H' q => ⟨l.length - (i + 1), by omega, rfl, hlt, q⟩, fun z H3 hy => ?_⟩
   obtain ⟨g3, st3, _, w3, hz⟩ := hJ.yld i H g2 S z H3 l[i] le wk (List.getElem?_eq_getElem hlt) hy
   rw [List.drop_eq_getElem_cons hlt] at hw
   obtain ⟨ρ', es, hw⟩ := opt_is (show opt (bindT ρ t (l[i], false)) _ from hw)
   have l3 := le.trans st3.le
   have l4 := s1.le.trans l3
   refine tg_bind (fr := false) es (env_step env st3) w3.rh hz (fun h => by cases h) fun σ3 env3 => ⟨ρ', S, _, g3, hw, st2.trans st3, w3, env3, ?_⟩
   exact ⟨fun ρ' σ' H' g' S' st' l w' env' q => ⟨ρ', S', g', q, st', l3.trans l, w', env'⟩, fun ρ' σ' H' g' S' st' l w' env' q => n.nx ρ' σ' H' g' S' st' (l4.trans l) w' env' q, fun ρ' σ' H' g' S' st' l w' env' q => ⟨ρ', S', g', q, st', l3.trans l, w', env'⟩, fun d fr v H' g' S' st' l w' vo q => n.rt d fr v H' g' S' st' (l4.trans l) w' vo q⟩
  ·have e : i = l.length := by omega
   subst e
   rw [List.drop_length] at hw
   exact .inl ⟨hJ.stop _ H g2 le wk.rh (Nat.le_refl _), n.nx ρ σ H g2 S st2 (s1.le.trans le) wk env hw⟩⟩
theorem owL_is {s : Option Slot} {Q : List D -> Prop} (h : owL s Q) : ∃ l, s = some (.ow (.lst l)) /\ Q l := by
 cases s with
 | none => exact h.elim
 | some s =>
  cases s with
  | ow d =>
   cases d with
   | lst l => exact ⟨l, rfl, h⟩
   | _ => exact h.elim
  | _ => exact h.elim
theorem isR_is {s : D} {Q : Nat -> Prop} (h : isR s Q) : ∃ n, s = .ref n /\ Q n := by
 cases s with
 | ref n => exact ⟨n, rfl, h⟩
 | _ => exact h.elim
section
variable {i : Nat} {n : Str} {apos cpos : Pos}
theorem s_app (hN : X.N[i]? = some n) (hv : Vis X.env.scope n) (hd : (n == ("__debug__" : Str)) = false) (hcd : (n == ("__classdict__" : Str)) = false) (hx : PE X x (TX Γ cf e)) (hs : notStar x = true) (hl : (apos.endLine == cpos.line) = true) :
  PS X (.Expr (.Call (.Attribute (.Name n p) "append" apos) [x] [] cpos) pos) (TC Γ cf w H₀ g₀ (.app i e)) :=
 (ps_expr (pe_bm PySem.F.plainAttrs_list PySem.F.slot_list_append PySem.F.type_list_append mt_append (pe_var hN hv hd hcd) (pa_cons hx pa_nil (starEach_of hs _ _)) rfl (few_one hs) hl (starEach_of hs _ _) rfl)).imp fun E σ H h0 => goK h0 fun ρ S K g hw st wk env n => by
  obtain ⟨l, eo, hw⟩ := owL_is hw
  obtain ⟨a, h1, h2, h3, h4, h5, h6⟩ := env.ow i _ eo
  obtain ⟨vs, h7, h8⟩ := h5
  refine ⟨.ref a, h1, .inl ⟨rfl, vs, SqL.of h7⟩, ρ, S, _, g, H₀, hw, wk, env, fun x v H1 g1 S1 s1 w1 vx q => ?_⟩
  obtain ⟨g2, s2, w2, hx, q⟩ := vx.keep s1 w1 q
  obtain ⟨hf, q⟩ := tst_is q
  have env2 := env_step env s2
  obtain ⟨k1, k2, k3⟩ := s2.kept h7 h3 h4
  refine ⟨a, vs, v, rfl, rfl, k1, by rw [h8.len]; exact size_of hf, n.nx _ σ _ g2 S1 ((st.trans s2).off_upd h2) s2.le (w2.off_upd k2 k3) (env2.updOw (c' := .lst (l ++ [x.1])) eo h1 ⟨vs ++ [v], upd_same, (h8.mono s2.le).app (Hass.mk1 hx)⟩ rfl) q⟩
theorem s_ext (hN : X.N[i]? = some n) (hv : Vis X.env.scope n) (hd : (n == ("__debug__" : Str)) = false) (hcd : (n == ("__classdict__" : Str)) = false) (hx : PE X x (TX Γ cf e)) (hs : notStar x = true) (hl : (apos.endLine == cpos.line) = true) :
  PS X (.Expr (.Call (.Attribute (.Name n p) "extend" apos) [x] [] cpos) pos) (TC Γ cf w H₀ g₀ (.ext i e)) :=
 (ps_expr (pe_bm PySem.F.plainAttrs_list PySem.F.slot_list_extend PySem.F.type_list_extend mt_extend (pe_var hN hv hd hcd) (pa_cons hx pa_nil (starEach_of hs _ _)) rfl (few_one hs) hl (starEach_of hs _ _) rfl)).imp fun E σ H h0 => goK h0 fun ρ S K g hw st wk env n => by
  obtain ⟨l, eo, hw⟩ := owL_is hw
  obtain ⟨a, h1, h2, h3, h4, h5, h6⟩ := env.ow i _ eo
  obtain ⟨vs, h7, h8⟩ := h5
  refine ⟨.ref a, h1, .inl ⟨rfl, vs, SqL.of h7⟩, ρ, S, _, g, H₀, hw, wk, env, fun x v H1 g1 S1 s1 w1 vx q0 => ?_⟩
  obtain ⟨g2, s2, w2, hx, q1⟩ := vx.keep s1 w1 q0
  obtain ⟨m, em, q2⟩ := opt_is q1
  obtain ⟨hf, q⟩ := tst_is q2
  clear q0 q1 q2
  have env2 := env_step env s2
  obtain ⟨k1, k2, k3⟩ := s2.kept h7 h3 h4
  generalize x.1 = d at *
  cases d with
  | lst m' =>
   cases em
   obtain ⟨b, zs, rfl, hb1, hb2⟩ := hx
   exact ⟨a, b, vs, zs, rfl, rfl, k1, w2.rh _ _ hb1, by rw [h8.len, hb2.len]; exact lim_le hf, n.nx _ σ _ g2 S1 ((st.trans s2).off_upd h2) s2.le (w2.off_upd k2 k3) (env2.updOw (c' := .lst (l ++ m)) eo h1 ⟨vs ++ zs, upd_same, (h8.mono s2.le).app hb2⟩ rfl) q⟩
  | _ => cases em
theorem s_sti {ix : Expr} {oe ke ve : E} (hu : X.A.units + 1 < cLine) (hx : PE X x (TX Γ cf ve)) (ho : PE X o (TX Γ cf oe)) (hi : PE X ix (TX Γ cf ke)) (hns : ∀ lo hi st p, ix ≠ .Slice lo hi st p)
  (hs : swapsWithSole [.Subscript o ix pos] x spos.line X.env = pure false) (hw : swappedStores [.Subscript o ix pos] x X.env = pure none) (ha : (assignEach [.Subscript o ix pos] X.env).map (·.2) = [assign (.Subscript o ix pos) X.env]) :
  PS X (.Assign [.Subscript o ix pos] x spos) (TC Γ cf w H₀ g₀ (.sti oe ke ve)) :=
 (ps_asg hx (pg_sub ho hi (set_any hu) (fun v => sub_assign hns v X.env)) hs hw ha).imp fun E σ H h0 => goK h0 fun ρ S K g hw st wk env n => by
  refine ⟨ρ, S, _, g, H₀, hw, wk, env, fun x v H1 g1 S1 s1 w1 vx q => ?_⟩
  obtain ⟨g2, s2, w2, hx, q⟩ := vx.keep s1 w1 q
  refine ⟨ρ, S1, _, g2, H₀, q, w2, env_step env s2, fun z t H3 g3 S3 s3 w3 vz q => ?_⟩
  obtain ⟨g4, s4, w4, hz, q⟩ := vz.keep s3 w3 q
  refine ⟨ρ, S3, _, g4, H₀, q, w4, env_step env (s2.trans s4), fun y u H5 g5 S5 s5 w5 vy q => ?_⟩
  obtain ⟨g6, s6, w6, hy, q⟩ := vy.keep s5 w5 q
  obtain ⟨m, er, q⟩ := isR_is q
  obtain ⟨c, eo, q⟩ := opt_is q
  obtain ⟨c', ep, q⟩ := opt_is q
  rw [er] at hz
  obtain ⟨a, ha2, rfl⟩ := hz.mono s6.le
  obtain ⟨o', b1, b2, b3⟩ := put_cell ep (w6.cell m c a eo ha2) w6.rh hy (hx.mono (s4.le.trans s6.le))
  have hm := List.mem_of_getElem? ha2
  have s7 := (s2.trans s4).trans s6
  exact b1 _ (n.nx _ σ _ g6 _ ((st.trans s7).cell_upd hm) s7.le (w6.cell_upd ha2 b2) ((env_step env s7).updCell hm) q)
end
end
end EV
namespace EV
open PySem PySem.Spec PyProof.Rows L2
noncomputable def notComp : Expr -> Bool
 | .ListComp _ _ _ _ => false
 | .SetComp _ _ _ _ => false
 | .DictComp _ _ _ _ _ => false
 | _ => true
noncomputable def isCompE : E -> Bool
 | .comp _ _ _ _ _ => true
 | _ => false
noncomputable def notTupE : Expr -> Bool
 | .Tuple _ _ _ => false
 | _ => true
noncomputable def atOnce (c : Cc) (n : Str) (np : Pos) : Expr -> Bool
 | .ListComp _ _ sc p => c.names.lookup n == some .local && np.line == p.line && !(sc.names.any fun (m, k) => m == n && (k == .local || k == .cell))
 | _ => false
noncomputable def chkN (c : Cc) (i : Nat) (n : Str) : Bool := c.N[i]? == some n && visK (c.names.lookup n) && plainN n
structure Meth where
 o : Expr
 m : Str
 ap : Pos
 x : Expr
 cp : Pos
noncomputable def asMeth : Expr -> Option Meth
 | .Call f args kws cp => if isNilL kws = true then (asAtt f).bind fun q => (sole args).map fun x => ⟨q.1, q.2.1, q.2.2, x, cp⟩ else none
 | _ => none
theorem asMeth_is {x : Expr} {q : Meth} (h : asMeth x = some q) : x = .Call (.Attribute q.o q.m q.ap) [q.x] [] q.cp := by
 cases x with
 | Call f args kws cp =>
  have h : (if isNilL kws = true then (asAtt f).bind fun q => (sole args).map fun x => (⟨q.1, q.2.1, q.2.2, x, cp⟩ : Meth) else none) = some q := h
  split at h
  ·rename_i hn
   cases e1 : asAtt f with
   | none => rw [e1] at h; cases h
   | some z =>
    rw [e1] at h
    cases e2 : sole args with
    | none => rw [e2] at h; cases h
    | some y =>
     rw [e2] at h
     cases h
     rw [isNil_is hn, asAtt_is e1, sole_is e2]
  ·cases h
 | _ => cases h
noncomputable def chkMeth (B : Tb) (c : Cc) (name : Str) (i : Nat) (e : E) (x : Expr) : Bool := match asMeth x with
  | some q => (match asName q.o with
    | some r => chkN c i r.1 && q.m == name && chkE B c e q.x && notStar q.x && q.ap.endLine == q.cp.line
    | none => false)
  | none => false
theorem chkMeth_is {B : Tb} {c : Cc} {name : Str} {i : Nat} {e : E} {x : Expr} (h : chkMeth B c name i e x = true) : ∃ n np ap y cp, x = .Call (.Attribute (.Name n np) name ap) [y] [] cp /\ chkN c i n = true /\ chkE B c e y = true /\ notStar y = true /\ (ap.endLine == cp.line) = true := by
  unfold chkMeth at h
  cases e1 : asMeth x with
  | none => rw [e1] at h; cases h
  | some q =>
    rw [e1] at h
    have h : (match asName q.o with
      | some r => chkN c i r.1 && q.m == name && chkE B c e q.x && notStar q.x && q.ap.endLine == q.cp.line
      | none => false) = true := h
    cases e2 : asName q.o with
    | none => rw [e2] at h; cases h
    | some r =>
      rw [e2] at h
      have h : (chkN c i r.1 && q.m == name && chkE B c e q.x && notStar q.x && q.ap.endLine == q.cp.line) = true := h
      simp only [Bool.and_eq_true] at h
      obtain ⟨⟨⟨⟨h1, h2⟩, h3⟩, h4⟩, h5⟩ := h
      refine ⟨r.1, r.2, q.ap, q.x, q.cp, ?_, h1, h3, h4, h5⟩
      rw [asMeth_is e1, asName_is e2, eq_of_beq h2]
noncomputable def asM0 : Expr -> Option (Expr × Str × Pos × Pos)
  | .Call f as ks cp => (match f with
    | .Attribute o m ap => (match as with
      | [] => (match ks with
        | [] => some (o, m, ap, cp)
        | _ => none)
      | _ => none)
    | _ => none)
  | _ => none
noncomputable def chkPop (c : Cc) (i : Nat) (x : Expr) : Bool := match asM0 x with
  | some q => (match asName q.1 with
    | some r => chkN c i r.1 && q.2.1 == ("pop" : Str) && q.2.2.1.endLine == q.2.2.2.line
    | none => false)
  | none => false
noncomputable def chkAppR (B : Tb) (c : Cc) (o e : E) (x : Expr) : Bool := match asMeth x with
 | some q => (asName q.o).isSome && chkE B c o q.o && q.m == ("append" : Str) && chkE B c e q.x && notStar q.x && q.ap.endLine == q.cp.line
 | none => false
noncomputable def chkPopR (B : Tb) (c : Cc) (o : E) (x : Expr) : Bool := match asM0 x with
 | some q => (asName q.1).isSome && chkE B c o q.1 && q.2.1 == ("pop" : Str) && q.2.2.1.endLine == q.2.2.2.line
 | none => false
noncomputable def isNT : Expr -> Bool
 | .Name _ _ => true
 | .Tuple _ _ _ => true
 | _ => false
mutual
noncomputable def chkC (B : Tb) (c : Cc) : C -> Stmt -> Bool
  | .set t e, .Assign ts x _ => (match sole ts with
    | some tg => chkE B c e x && chkT c t tg && (match asName tg with
      | some q => !atOnce c q.1 q.2 x || isCompE e
      | none => isTupE tg && notTupE x)
    | none => false)
  | .expr e, .Expr x _ => chkE B c e x && notComp x
  | .ret e, .Return v _ => (match v with
    | some x => chkE B c e x
    | none => false)
  | .retN, .Return v _ => v.isNone
  | .ite e a b, .If x aa bb _ => chkE B c e x && chkCs B c a aa && chkCs B c b bb
  | .forr t it b, .For tgt x bb r _ => chkI B c it tgt x && chkT c t tgt && notSet x && chkCs B c b bb && isNilL r
  | .app i e, .Expr x _ => chkMeth B c "append" i e x
  | .ext i e, .Expr x _ => chkMeth B c "extend" i e x
  | .sti o k v, .Assign ts x _ => (match (sole ts).bind asSub with
    | some q => chkE B c o q.1 && chkE B c k q.2.1 && chkE B c v x
    | none => false)
  | .pass, .Pass _ => true
  | .brk, .Break _ => true
  | .cnt, .Continue _ => true
  | _, _ => false
noncomputable def chkCs (B : Tb) (c : Cc) : List C -> List Stmt -> Bool
 | .frz _ :: ss, xs => chkCs B c ss xs
 | [], [] => true
 | s :: ss, x :: xs => chkC B c s x && chkCs B c ss xs
 | _, _ => false
end
structure XSt (Γ : Gm) (B : Tb) (cf : Cf) (k : Nat) (X : Cx) (c : Cc) : Prop where
 ok : XOk Γ B (spN Γ cf) k X c
 fn : c.fn = true
 own : PassesOwn (model X.prog X.w) X.A X.env X.xe
 hcf : CfN B cf
 hm : Mono cf
section
variable {Γ : Gm} {B : Tb} {cf : Cf} {k w : Nat} {X : Cx} {c : Cc} {H₀ : Hp} {g₀ : G} {x : Expr} {e : E} {n : Str} {pos np : Pos} {i : Nat}
theorem XSt.pe (ok : XSt Γ B cf k X c) (h : chkE B c e x = true) : PE X x (TX Γ cf e) := (sA ok.hcf ok.hm e X c x ok.ok h).1
theorem XSt.pt (ok : XSt Γ B cf k X c) (h : chkE B c e x = true) : PT X x (TB Γ cf e) := (sA ok.hcf ok.hm e X c x ok.ok h).2.1
theorem noSl {y : Expr} (h : chkE B c e y = true) : ∀ lo hi st p, y ≠ .Slice lo hi st p := fun lo hi st p q => by
 subst q
 exact noSlice e h
theorem notComp_swap (h : notComp x = true) (t : Option Expr) (l : Nat) (env : Env) : swapsWith x t l env = pure false := by
 cases x <;> first | rfl | cases h
theorem swap_sub (x o y : Expr) (p : Pos) (l : Nat) (env : Env) : swapsWithSole [.Subscript o y p] x l env = pure false := by
 cases x <;> rfl
theorem swap_tup (x : Expr) (es : List Expr) (kk : Nat) (p : Pos) (l : Nat) (env : Env) : swapsWithSole [.Tuple es kk p] x l env = pure false := by
 cases x <;> rfl
theorem stores_sub (x o y : Expr) (p : Pos) (env : Env) : swappedStores [.Subscript o y p] x env = pure none := by
 cases x <;> rfl
theorem stores_name (x : Expr) (n : Str) (p : Pos) (env : Env) : swappedStores [.Name n p] x env = pure none := by
 cases x <;> rfl
theorem stores_tup (h : notTupE x = true) (es : List Expr) (kk : Nat) (p : Pos) (env : Env) : swappedStores [.Tuple es kk p] x env = pure none := by
 cases x <;> first | rfl | cases h
theorem noSC {y : Expr} {g : List Comprehension} {sc : Scope} {p : Pos} (e : E) (h : chkE B c e (.SetComp y g sc p) = true) : False := by
 cases e with
 | box e => exact nobE h
 | _ => exact nobE h
theorem noDC {y z : Expr} {g : List Comprehension} {sc : Scope} {p : Pos} (e : E) (h : chkE B c e (.DictComp y z g sc p) = true) : False := by
 cases e with
 | box e => exact nobE h
 | _ => exact nobE h
theorem swap_name (ok : XOk Γ B (spN Γ cf) k X c) (hx : chkE B c e x = true) (l : Nat) : swapsWith x (some (.Name n np)) l X.env = pure (atOnce c n np x) := by
 have hk : X.env.kindOf n = c.names.lookup n := by
  unfold Env.kindOf
  rw [ok.nm]
 have hb : X.env.blockKind = .function := by
  unfold Env.blockKind
  rw [ok.kd]
  rfl
 cases x with
 | ListComp y g sc p =>
  show pure (X.env.blockKind == .function && X.env.kindOf n == some .local && np.line == p.line && !(sc.names.any fun (m, k) => m == n && (k == .local || k == .cell))) = (pure (c.names.lookup n == some .local && np.line == p.line && !(sc.names.any fun (m, k) => m == n && (k == .local || k == .cell))) : Sem Bool)
  rw [hb, hk]
  rfl
 | SetComp y g sc p => exact (noSC e hx).elim
 | DictComp y g a sc p => exact (noDC e hx).elim
 | _ => rfl
theorem s_sets (ok : XSt Γ B cf k X c) {t : T} {tgt : Expr} (h1 : chkE B c e x = true) (hpg : PG X tgt (tgOf X.K t)) (hs : swapsWithSole [tgt] x pos.line X.env = pure false) (hw : swappedStores [tgt] x X.env = pure none) (ha : (assignEach [tgt] X.env).map (·.2) = [assign tgt X.env]) : PS X (.Assign [tgt] x pos) (TC Γ cf w H₀ g₀ (.set t e)) := by
 cases hn : noBox e with
 | true => exact s_set hn (ok.pe h1) hpg hs hw ha
 | false =>
  cases e with
  | box e => exact s_setB (ok.pe (e := e) (Bool.and_eq_true _ _ ▸ (show (plainB x && chkE B c e x) = true from h1)).2) hpg hs hw ha
  | _ => cases hn
theorem s_asg1 (ok : XSt Γ B cf k X c) {t : T} {ts : List Expr} (h : chkC B c (.set t e) (.Assign ts x pos) = true) : PS X (.Assign ts x pos) (TC Γ cf w H₀ g₀ (.set t e)) := by
  have h : (match sole ts with
    | some tg => chkE B c e x && chkT c t tg && (match asName tg with
      | some q => !atOnce c q.1 q.2 x || isCompE e
      | none => isTupE tg && notTupE x)
    | none => false) = true := h
  cases e1 : sole ts with
  | none => rw [e1] at h; cases h
  | some tg =>
    rw [e1] at h
    have et := sole_is e1
    subst et
    have h : (chkE B c e x && chkT c t tg && (match asName tg with
      | some q => !atOnce c q.1 q.2 x || isCompE e
      | none => isTupE tg && notTupE x)) = true := h
    rw [Bool.and_eq_true, Bool.and_eq_true] at h
    obtain ⟨⟨h1, h2⟩, h3⟩ := h
    have hpg := tgt_ok ok.ok h2
    cases e2 : asName tg with
    | some q =>
      rw [e2] at h3
      have et := asName_is e2
      obtain ⟨n, np⟩ := q
      subst et
      have h3 : (!atOnce c n np x || isCompE e) = true := h3
      have hsw := swap_name (n := n) (np := np) ok.ok h1 pos.line
      cases ha : atOnce c n np x with
      | false =>
        rw [ha] at hsw
        exact s_sets ok h1 hpg hsw (stores_name x n np X.env) rfl
      | true =>
        rw [ha] at h3 hsw
        cases e with
        | comp t' js it ifs elt =>
          cases t with
          | one i => exact s_setc (sCS ok.hcf ok.hm ok.ok h1) hpg hsw
          | tup is => exact nobE h2
          | nst _ _ => exact nobE h2
        | _ => cases h3
    | none =>
      rw [e2] at h3
      have h3 : (isTupE tg && notTupE x) = true := h3
      rw [Bool.and_eq_true] at h3
      cases tg with
      | Tuple es kk p => exact s_sets ok h1 hpg (swap_tup x es kk p pos.line X.env) (stores_tup h3.2 es kk p X.env) rfl
      | _ => cases h3.1
theorem s_rt (ok : XSt Γ B cf k X c) (h : chkE B c e x = true) : PS X (.Return (some x) pos) (TC Γ cf w H₀ g₀ (.ret e)) := by
 by_cases hv : ∃ i, e = .var i
 ·obtain ⟨i, rfl⟩ := hv
  have hb : Nat.beq x.ctorIdx 23 = true := by revert h; cases x <;> first | exact non | exact fun _ => rfl
  revert h; apply ofName hb; clear hb; intro n p h
  have h : (c.N[i]? == some n && visK (c.names.lookup n) && plainN n) = true := h
  simp only [Bool.and_eq_true] at h
  obtain ⟨q1, q2, _⟩ := plain_of h.2
  exact s_retv (by rw [ok.ok.N]; exact eq_of_beq h.1.1) (ok.ok.vis h.1.2) q1 q2
 ·exact s_ret (fun i q => hv ⟨i, q⟩) (ok.pe h)
theorem asSub_of {ts : List Expr} {q : Expr × Expr × Pos} (h : (sole ts).bind asSub = some q) : ts = [.Subscript q.1 q.2.1 q.2.2] := by
 cases e1 : sole ts with
 | none => rw [e1] at h; cases h
 | some tg =>
  rw [e1] at h
  rw [sole_is e1, asSub_is h]
theorem s_st2 (ok : XSt Γ B cf k X c) {o kx v : E} {ts : List Expr} (h : chkC B c (.sti o kx v) (.Assign ts x pos) = true) : PS X (.Assign ts x pos) (TC Γ cf w H₀ g₀ (.sti o kx v)) := by
  have h : (match (sole ts).bind asSub with
    | some q => chkE B c o q.1 && chkE B c kx q.2.1 && chkE B c v x
    | none => false) = true := h
  cases e2 : (sole ts).bind asSub with
  | none => rw [e2] at h; cases h
  | some q =>
    rw [e2] at h
    have et := asSub_of e2
    subst et
    obtain ⟨z, y, sp⟩ := q
    have h : (chkE B c o z && chkE B c kx y && chkE B c v x) = true := h
    simp only [Bool.and_eq_true] at h
    obtain ⟨⟨h1, h2⟩, h3⟩ := h
    exact s_sti ok.ok.u1 (ok.pe h3) (ok.pe h1) (ok.pe h2) (noSl h2) (swap_sub x z y sp pos.line X.env) (stores_sub x z y sp X.env) rfl
mutual
theorem sC (ok : XSt Γ B cf k X c) : ∀ (s : C) (st : Stmt), chkC B c s st = true -> PS X st (TC Γ cf w H₀ g₀ s)
 | .set t e, st, h => by
  have hb : Nat.beq st.ctorIdx 5 = true := by revert h; cases st <;> first | exact non | exact fun _ => rfl
  revert h; apply ofSAssign hb; clear hb; intro ts x pos h
  exact s_asg1 ok h
 | .expr e, st, h => by
  have hb : Nat.beq st.ctorIdx 24 = true := by revert h; cases st <;> first | exact non | exact fun _ => rfl
  revert h; apply ofSExpr hb; clear hb; intro x pos h
  have h : (chkE B c e x && notComp x) = true := h
  simp only [Bool.and_eq_true] at h
  exact s_expr (ok.pe h.1) (notComp_swap h.2 none pos.line X.env)
 | .ret e, st, h => by
  have hb : Nat.beq st.ctorIdx 3 = true := by revert h; cases st <;> first | exact non | exact fun _ => rfl
  revert h; apply ofSReturn hb; clear hb; intro v pos h
  cases v with
  | none => exact nobE h
  | some x => exact s_rt ok h
 | .retN, st, h => by
  have hb : Nat.beq st.ctorIdx 3 = true := by revert h; cases st <;> first | exact non | exact fun _ => rfl
  revert h; apply ofSReturn hb; clear hb; intro v pos h
  cases v with
  | some x => exact nobE h
  | none => exact s_retN
 | .ite e a b, st, h => by
  have hb : Nat.beq st.ctorIdx 12 = true := by revert h; cases st <;> first | exact non | exact fun _ => rfl
  revert h; apply ofSIf hb; clear hb; intro x aa bb pos h
  have h : (chkE B c e x && chkCs B c a aa && chkCs B c b bb) = true := h
  simp only [Bool.and_eq_true] at h
  exact s_if (ok.pt h.1.1) (sCs ok a aa h.1.2) (sCs ok b bb h.2)
 | .whl e b, st, h => nobE h
 | .forr t it b, st, h => by
  have hb : Nat.beq st.ctorIdx 9 = true := by revert h; cases st <;> first | exact non | exact fun _ => rfl
  revert h; apply ofSFor hb; clear hb; intro tgt x bb r pos h
  have h : (chkI B c it tgt x && chkT c t tgt && notSet x && chkCs B c b bb && isNilL r) = true := h
  simp only [Bool.and_eq_true] at h
  obtain ⟨⟨⟨⟨h1, h2⟩, h3⟩, h4⟩, h5⟩ := h
  have hr := isNil_is h5
  subst hr
  exact s_for (sI ok.hcf ok.hm it X c tgt x ok.ok h1) (tgt_ok ok.ok h2) (sCs ok b bb h4) ok.own ok.ok.calm (folded_of h3 X.env)
 | .app i e, st, h => by
  have hb : Nat.beq st.ctorIdx 24 = true := by revert h; cases st <;> first | exact non | exact fun _ => rfl
  revert h; apply ofSExpr hb; clear hb; intro x pos h
  obtain ⟨n, np, ap, y, cp, rfl, h1, h3, h4, h5⟩ := chkMeth_is (show chkMeth B c "append" i e x = true from h)
  unfold chkN at h1
  simp only [Bool.and_eq_true] at h1
  obtain ⟨q1, q2, _⟩ := plain_of h1.2
  exact s_app (by rw [ok.ok.N]; exact eq_of_beq h1.1.1) (ok.ok.vis h1.1.2) q1 q2 (ok.pe h3) h4 h5
 | .ext i e, st, h => by
  have hb : Nat.beq st.ctorIdx 24 = true := by revert h; cases st <;> first | exact non | exact fun _ => rfl
  revert h; apply ofSExpr hb; clear hb; intro x pos h
  obtain ⟨n, np, ap, y, cp, rfl, h1, h3, h4, h5⟩ := chkMeth_is (show chkMeth B c "extend" i e x = true from h)
  unfold chkN at h1
  simp only [Bool.and_eq_true] at h1
  obtain ⟨q1, q2, _⟩ := plain_of h1.2
  exact s_ext (by rw [ok.ok.N]; exact eq_of_beq h1.1.1) (ok.ok.vis h1.1.2) q1 q2 (ok.pe h3) h4 h5
 | .stv i kx v, st, h => nobE h
 | .sti o kx v, st, h => by
  have hb : Nat.beq st.ctorIdx 5 = true := by revert h; cases st <;> first | exact non | exact fun _ => rfl
  revert h; apply ofSAssign hb; clear hb; intro ts x pos h
  exact s_st2 ok h
 | .appR o e, st, h => nobE h
 | .pop i, st, h => nobE h
 | .popO t i, st, h => nobE h
 | .popR t o, st, h => nobE h
 | .pass, st, h => by
  have hb : Nat.beq st.ctorIdx 25 = true := by revert h; cases st <;> first | exact non | exact fun _ => rfl
  revert h; apply ofSPass hb; clear hb; intro pos h
  exact s_pass
 | .brk, st, h => by
  have hb : Nat.beq st.ctorIdx 26 = true := by revert h; cases st <;> first | exact non | exact fun _ => rfl
  revert h; apply ofSBreak hb; clear hb; intro pos h
  exact s_brk
 | .cnt, st, h => by
  have hb : Nat.beq st.ctorIdx 27 = true := by revert h; cases st <;> first | exact non | exact fun _ => rfl
  revert h; apply ofSContinue hb; clear hb; intro pos h
  exact s_cnt
 | .frz _, st, h => by revert h; cases st <;> exact nobE
theorem sCs (ok : XSt Γ B cf k X c) : ∀ (ss : List C) (sts : List Stmt), chkCs B c ss sts = true -> PSs X sts (TCs Γ cf w H₀ g₀ ss)
 | [], sts, h => by
  cases sts with
  | nil => exact s_snil
  | cons _ _ => exact nobE h
 | s :: ss, sts, h => by
  by_cases hf : ∃ i, s = .frz i
  ·obtain ⟨i, rfl⟩ := hf
   exact s_frz (sCs ok ss sts (by cases sts <;> exact h))
  ·cases sts with
   | nil => cases s <;> first | exact nobE h | exact absurd ⟨_, rfl⟩ hf
   | cons st sts =>
    have h : (chkC B c s st && chkCs B c ss sts) = true := by cases s <;> first | exact h | exact absurd ⟨_, rfl⟩ hf
    rw [Bool.and_eq_true] at h
    exact s_scons (sC ok s st h.1) (sCs ok ss sts h.2)
end
end
end EV
namespace EV
open PySem PySem.Spec PyProof.Rows L2
theorem ln1 {α : Type} : ∀ {l : List α}, l.length = 1 -> ∃ a, l = [a]
 | [a], _ => ⟨a, rfl⟩
theorem ln2 {α : Type} {l : List α} (h : l.length = 2) : ∃ a0 a1, l = [a0, a1] := by
 cases l with
 | nil => cases h
 | cons a0 l =>
  obtain ⟨a1, rfl⟩ := ln1 (Nat.succ.inj h)
  exact ⟨a0, a1, rfl⟩
theorem ln3 {α : Type} {l : List α} (h : l.length = 3) : ∃ a0 a1 a2, l = [a0, a1, a2] := by
 cases l with
 | nil => cases h
 | cons a0 l =>
  obtain ⟨a1, a2, rfl⟩ := ln2 (Nat.succ.inj h)
  exact ⟨a0, a1, a2, rfl⟩
theorem ln4 {α : Type} {l : List α} (h : l.length = 4) : ∃ a0 a1 a2 a3, l = [a0, a1, a2, a3] := by
 cases l with
 | nil => cases h
 | cons a0 l =>
  obtain ⟨a1, a2, a3, rfl⟩ := ln3 (Nat.succ.inj h)
  exact ⟨a0, a1, a2, a3, rfl⟩
theorem ln5 {α : Type} {l : List α} (h : l.length = 5) : ∃ a0 a1 a2 a3 a4, l = [a0, a1, a2, a3, a4] := by
 cases l with
 | nil => cases h
 | cons a0 l =>
  obtain ⟨a1, a2, a3, a4, rfl⟩ := ln4 (Nat.succ.inj h)
  exact ⟨a0, a1, a2, a3, a4, rfl⟩
structure Row where
 name : Str
 st : Stmt
 ps : List Str
 N : List Str
 fn : Fn
noncomputable def fnsOf (rs : List Row) : Nat -> Option Fn := fun i => (rs[i]?).map (·.fn)
noncomputable def scopeB (N ps : List Str) (sc : Scope) : Bool :=
 (sc.kind == .function) && !sc.isCoroutine && !sc.isGenerator && decide N.Nodup && (N.take ps.length == ps) && ps.all (fun x => sc.names.lookup x == some .local || sc.names.lookup x == some .cell) && sc.names.all (fun y => y.2 != .free)
theorem scopeB_is {N ps : List Str} {sc : Scope} (h : scopeB N ps sc = true) : FnScope N ps sc := by
 unfold scopeB at h
 simp only [Bool.and_eq_true, List.all_eq_true, Bool.or_eq_true, decide_eq_true_eq, Bool.not_eq_true', beq_iff_eq, bne_iff_ne] at h
 obtain ⟨⟨⟨⟨⟨⟨h1, h2⟩, h3⟩, h4⟩, h5⟩, h6⟩, h7⟩ := h
 exact ⟨h1, h2, h3, h4, h5, h6, h7⟩
structure RowOk (B : Tb) (r : Row) : Prop where
 sc : scopeB r.N r.ps (defScope r.st) = true
 ck : chkCs B ⟨(defScope r.st).names, r.N, true⟩ r.fn.body (defBody r.st) = true
 np : r.fn.np = r.ps.length
 nv : r.fn.nv = r.N.length
 bd : ∀ (kV doc pm : Value) (an : Option Addr) (cdv ct : Value) (us : List Value), us.length = r.ps.length -> bindArgs (PySem.W.fnOf r.name r.name (defArgs r.st) (defBody r.st) (defScope r.st) .none kV doc pm an cdv ct) ⟨us, []⟩ = pure (r.ps.zip us)
noncomputable def KwOk (rs : List Row) (q : Nat × List Str × List Nat) : Prop := q.2.1 ≠ [] /\ ∀ r, rs[q.1]? = some r -> ∀ (kV doc pm : Value) (an : Option Addr) (cdv ct : Value) (ws : List Value), ws.length = q.2.1.length ->
 bindArgs (PySem.W.fnOf r.name r.name (defArgs r.st) (defBody r.st) (defScope r.st) .none kV doc pm an cdv ct) ⟨[], q.2.1.zip ws⟩ = pure (r.ps.zip (q.2.2.map fun i => ws.getD i .none))
structure DefAt (K : PySem.W.Frag) (x : Str) (st : Stmt) : Prop where
 ex : ∃ f fd, Fun K x x st f fd /\ PySem.W.nsIn K mainGlobals x = some (some (.ref f))
theorem def_mk {K : PySem.W.Frag} {x : Str} {st : Stmt} {f : Addr} {oc : Value} {od an : Option Addr} {osl : Array (Option Value)} {kV doc pm cdv ct : Value} (a : PySem.W.nsIn K mainGlobals x = some (some (.ref f)))
  (l : K.lookup f = some ⟨oc, od, .func (PySem.W.fnOf x x (defArgs st) (defBody st) (defScope st) .none kV doc pm an cdv ct), osl⟩) (c : PySem.W.codeIn K cdv x = true) (k : PySem.W.keepIn K (.ref f) = true) : DefAt K x st := ⟨f, _, fun_mk l c k, a⟩
noncomputable def faOf (K : PySem.W.Frag) (r : Row) : Option Addr := open Classical in if h : ∃ f, ∃ fd, Fun K r.name r.name r.st f fd /\ PySem.W.nsIn K mainGlobals r.name = some (some (.ref f)) then some (Classical.choose h) else none
theorem faOf_is {K : PySem.W.Frag} {r : Row} (h : ∃ f, ∃ fd, Fun K r.name r.name r.st f fd /\ PySem.W.nsIn K mainGlobals r.name = some (some (.ref f))) : faOf K r = some (Classical.choose h) := by
 unfold faOf
 exact dif_pos h
noncomputable def gmOf (K : PySem.W.Frag) (rs : List Row) : Gm where
 K := K
 fa := fun i => (rs[i]?).bind (faOf K)
 ca := fun _ => none
noncomputable def AllR {α : Type} (Q : α -> Prop) : List α -> Prop
 | [] => True
 | a :: r => Q a /\ AllR Q r
theorem AllR.at {α : Type} {Q : α -> Prop} : ∀ {l : List α} {i : Nat} {a : α}, AllR Q l -> l[i]? = some a -> Q a
 | [], _, _, _, h => by simp at h
 | b :: r, 0, a, ⟨h, _⟩, e => by simp at e; subst e; exact h
 | b :: r, i + 1, a, ⟨_, h⟩, e => AllR.at (i := i) h (by simpa using e)
theorem AllR.mem {α : Type} {Q : α -> Prop} : ∀ {l : List α} {a : α}, AllR Q l -> a ∈ l -> Q a
 | b :: r, a, ⟨h, t⟩, e => by
  rcases List.mem_cons.mp e with rfl | q
  ·exact h
  ·exact AllR.mem t q
structure ModOk (K : PySem.W.Frag) (mg : Str -> Option Value) (B : Tb) (rs : List Row) : Prop where
 fns : B.fns = rs.map (·.name)
 pars : B.pars = rs.map (·.ps)
 rows : AllR (RowOk B) rs
 kws : AllR (KwOk rs) B.kws
 defs : AllR (fun r => DefAt K r.name r.st) rs
 gl : ∀ x u, PySem.W.nsIn K mainGlobals x = some u -> mg x = u
 bare : ∀ x ∈ B.bare, PySem.W.nsIn K mainGlobals x = some none
 consts : ∀ (n : Nat) (x : Str) (d : D), B.consts[n]? = some (x, d) -> ∃ u v, PySem.W.nsIn K mainGlobals x = some (some u) /\ RelV v u /\ ∀ g, Has (gmOf K rs) g d v
section
variable {P : Program} {w : World} {K : PySem.W.Frag} {mg : Str -> Option Value} {base : Heap} {B : Tb} {rs : List Row}
theorem cf_ok {F : Nat -> Option Fn} {wh : Nat} (h : ∀ f fn ps, F f = some fn -> B.pars[f]? = some ps -> fn.np = ps.length) : ∀ k, CfN B (callW F wh k)
 | 0 => fun _ _ _ _ _ _ q => q.elim
 | k + 1 => fun f ds V S ps hp q => by
  obtain ⟨fn, e, hl, _⟩ := opt_is q
  rw [hl, h f fn ps e hp]
theorem start_env {Γ : Gm} {H : Hp} {g : G} {fn : Fn} {N : List Str} {ds : List D} {vs : List V} (h : Hass Γ g ds vs) (hn : fn.nv = N.length) : EnvO Γ H H g (entry fn ds) (L2.start N vs) := by
 have hl := h.len
 have key : ∀ (i : Nat) (s : Slot), (entry fn ds)[i]? = some s -> (∃ d, ds[i]? = some d /\ s = .sh d) \/ s = .no := by
  intro i s e
  unfold entry at e
  by_cases hi : i < ds.length
  ·rw [List.getElem?_append_left (by simpa using hi), List.getElem?_map, List.getElem?_eq_getElem hi] at e
   cases e
   exact .inl ⟨ds[i], List.getElem?_eq_getElem hi, rfl⟩
  ·rw [List.getElem?_append_right (by simpa using Nat.le_of_not_lt hi), List.getElem?_replicate] at e
   split at e
   ·cases e; exact .inr rfl
   ·cases e
 refine ⟨?_, fun i d e => ?_, fun i d e => ?_, fun i j d e a h1 => ?_⟩
 ·unfold entry L2.start
  simp [hl, hn]
 ·rcases key i _ e with ⟨d', e1, e2⟩ | e2
  ·cases e2
   obtain ⟨v, q, hv⟩ := h.get e1
   refine ⟨v, ?_, hv⟩
   unfold L2.start
   have hi := (List.getElem?_eq_some_iff.mp q).1
   rw [List.getElem?_append_left (by simpa using hi), List.getElem?_map, q]
   rfl
  ·cases e2
 ·rcases key i _ e with ⟨d', e1, e2⟩ | e2 <;> cases e2
 ·rcases key i _ h1 with ⟨d', e1, e2⟩ | e2 <;> cases e2
theorem passes0 {X : Cx} (h : X.xe = fun _ _ => False) : PassesOwn (model X.prog X.w) X.A X.env X.xe := by
 rw [h]
 exact PassesOwn.never
theorem fn_e {wh k f : Nat} {r : Row} {fa : Addr} {fd : FuncData} (md : ModOk K mg B rs) (hr : rs[f]? = some r) (F : Fun K r.name r.name r.st fa fd) (ih : ∀ (g : Nat) (x : Str), B.fns[g]? = some x -> FnI (gmOf K rs) B (spN (gmOf K rs) (callW (fnsOf rs) wh k)) k P w K mg base g x) :
  FnOk P w K mg base CX0 (k + 1) fa fd r.ps (spN (gmOf K rs) (callW (fnsOf rs) wh (k + 1)) f r.ps.length) := by
 have ro := md.rows.at hr
 have sc := scopeB_is ro.sc
 have hcf : CfN B (callW (fnsOf rs) wh k) := cf_ok (fun f fn ps h1 h2 => by
  unfold fnsOf at h1
  rw [md.pars, List.getElem?_map] at h2
  cases e : rs[f]? with
  | none => rw [e] at h1; cases h1
  | some q =>
   rw [e] at h1 h2
   cases h1
   cases h2
   exact (md.rows.at e).np) k
 refine F.ok sc (fun vs H Q E h => h.1) fun cdv A outer s H vs Q E hrm h => ?_
 obtain ⟨hl, g, ds, S, V, wok, hh, hc, kk⟩ := h
 obtain ⟨fn, e1, _, hc⟩ := opt_is hc
 have e2 : fnsOf rs f = some r.fn := by
  unfold fnsOf
  rw [hr]
  rfl
 rw [e2] at e1
 cases e1
 refine ⟨TCs (gmOf K rs) (callW (fnsOf rs) wh k) wh H g r.fn.body, sCs (c := ⟨(defScope r.st).names, r.N, true⟩) ⟨⟨rfl, rfl, sc.kind, rfl, sc.nd, fun _ _ => rfl, rfl, hrm, fun x hx => ?_, ih, fun x hx => ?_, fun n x d e => ?_, fun f a e => ?_⟩, rfl, passes0 rfl, hcf, call_mono k⟩ r.fn.body (defBody r.st) ro.ck, entry r.fn ds, S, _, g, hc, Step.refl H g, wok, start_env hh ro.nv, ?_⟩
 ·rcases hx with hx | hx
  ·exact cell_has hx
  ·exact absurd rfl (sc.nofree _ (PySem.mem_of_lookup hx))
 ·exact md.gl x none (md.bare x hx)
 ·obtain ⟨u, v, e1, e2, e3⟩ := md.consts n x d e
  exact ⟨u, v, md.gl x (some u) e1, e2, e3⟩
 ·obtain ⟨r, er, _⟩ := Option.bind_eq_some_iff.mp (show (rs[f]?).bind (faOf K) = some a from e)
  exact ⟨r.name, by rw [md.fns, List.getElem?_map, er]; rfl⟩
 ·exact ⟨fun ρ σ' H' g' S' st le w' env q => kk (.non, .st) .non H' g' S' st w' rfl q, fun ρ σ' H' g' S' st le w' env q => q.elim, fun ρ σ' H' g' S' st le w' env q => q.elim, fun d fr v H' g' S' st le w' vo q => kk (d, kd fr) v H' g' S' st w' (VN.of vo) q⟩
theorem fn_0 {f : Nat} {wh : Nat} {fa : Addr} {fd : FuncData} {ps : List Str} {Γ : Gm} {F : Nat -> Option Fn} : FnOk P w K mg base CX0 0 fa fd ps (spN Γ (callW F wh 0) f ps.length) :=
 ⟨fun vs H Q E h => h.1, fun A outer s H args us vs Q E hr he hb hv ⟨_, g, ds, S, V, _, _, hc, _⟩ => hc.elim⟩
theorem vals_getD : ∀ {zs : List V} {ws : List Value} (i : Nat), Vals zs ws -> RelV (zs.getD i .non) (ws.getD i .none)
 | _, _, _, .nil => rfl
 | _, _, 0, .cons h _ => h
 | _, _, i + 1, .cons _ t => by
  have := vals_getD i t
  simpa using this
theorem vals_map {zs : List V} {ws : List Value} (h : Vals zs ws) : ∀ (perm : List Nat), Vals (perm.map fun i => zs.getD i .non) (perm.map fun i => ws.getD i .none)
 | [] => .nil
 | i :: r => .cons (vals_getD i h) (vals_map h r)
theorem fnI_of {wh k : Nat} (md : ModOk K mg B rs) (h : ∀ (f : Nat) (r : Row) (fa : Addr) (fd : FuncData), rs[f]? = some r -> Fun K r.name r.name r.st fa fd -> FnOk P w K mg base CX0 k fa fd r.ps (spN (gmOf K rs) (callW (fnsOf rs) wh k) f r.ps.length)) :
  ∀ (f : Nat) (x : Str), B.fns[f]? = some x -> FnI (gmOf K rs) B (spN (gmOf K rs) (callW (fnsOf rs) wh k)) k P w K mg base f x := by
 intro f x hx
 rw [md.fns, List.getElem?_map] at hx
 cases hr : rs[f]? with
 | none => rw [hr] at hx; cases hx
 | some r =>
  rw [hr] at hx
  cases hx
  have da : ∃ f, ∃ fd, Fun K r.name r.name r.st f fd /\ PySem.W.nsIn K mainGlobals r.name = some (some (.ref f)) := (md.defs.at hr).ex
  obtain ⟨fd, F, na⟩ := Classical.choose_spec da
  have ro := md.rows.at hr
  refine ⟨Classical.choose da, fd, r.ps, ?_, md.gl _ _ na, F.kp, F.binds ro.bd, ?_, h f r _ fd hr F, fun ks perm h1 h2 h3 h4 h5 => ?_⟩
  ·show (rs[f]?).bind (faOf K) = _
   rw [hr]
   exact faOf_is da
  ·rw [md.pars, List.getElem?_map, hr]
   rfl
  ·have hk := md.kws.mem h5
   obtain ⟨oc, od, kV, doc, pm, an, cdv, ct, osl, hfd, lk, hcd⟩ := F.ex
   refine ⟨fun s us ws _ hl => ?_, fun {vs us zs ws} r1 r2 => ?_⟩
   ·have hl : (if ws.length = ks.length then us ++ perm.map fun i => ws.getD i .none else []).length = r.ps.length := hl
    show BindsTo s fd ⟨us, ks.zip ws⟩ (r.ps.zip (if ws.length = ks.length then us ++ perm.map fun i => ws.getD i .none else []))
    by_cases hw : ws.length = ks.length
    ·rw [if_pos hw] at hl ⊢
     have hu : us = [] := by
      cases us with
      | nil => rfl
      | cons _ _ => simp at hl; omega
     subst hu
     rw [hfd]
     exact .of_eq (hk.2 r hr kV doc pm an cdv ct ws hw)
    ·rw [if_neg hw] at hl ⊢
     have h0 : r.ps = [] := List.length_eq_zero_iff.mp hl.symm
     have hk0 : ks = [] := List.length_eq_zero_iff.mp (by rw [h4, h0]; rfl)
     exact absurd hk0 hk.1
   ·show Vals (if zs.length = ks.length then vs ++ perm.map fun i => zs.getD i .non else []) (if ws.length = ks.length then us ++ perm.map fun i => ws.getD i .none else [])
    rw [r2.length]
    split
    ·exact r1.append (vals_map r2 perm)
    ·exact .nil
theorem all_ok (wh : Nat) (md : ModOk K mg B rs) : ∀ (k f : Nat) (x : Str), B.fns[f]? = some x -> FnI (gmOf K rs) B (spN (gmOf K rs) (callW (fnsOf rs) wh k)) k P w K mg base f x
 | 0 => fnI_of md fun f r fa fd hr F => fn_0
 | k + 1 => fnI_of md fun f r fa fd hr F => fn_e md hr F (all_ok wh md k)
end
end EV
namespace EV
open PySem PySem.Spec PyProof.Rows L2
structure Txt (K : PySem.W.Frag) (B : Tb) (rs : List Row) : Prop where
 defs : AllR (fun r => DefAt K r.name r.st) rs
 bare : AllR (fun x => PySem.W.nsIn K mainGlobals x = some none) B.bare
 consts : ∀ (n : Nat) (x : Str) (d : D), B.consts[n]? = some (x, d) -> ∃ u v, PySem.W.nsIn K mainGlobals x = some (some u) /\ RelV v u /\ ∀ g, Has (gmOf K rs) g d v
structure Tabs (B : Tb) (rs : List Row) : Prop where
 fns : B.fns = rs.map (·.name)
 pars : B.pars = rs.map (·.ps)
 rows : AllR (RowOk B) rs
 kws : AllR (KwOk rs) B.kws
theorem mod_ok {K : PySem.W.Frag} {B : Tb} {rs : List Row} {h : Heap} {mg : Str -> Option Value} (t : Tabs B rs) (x : Txt K B rs) (X : K.In h) (N : h.Ns mainGlobals mg) : ModOk K mg B rs where
 fns := t.fns
 pars := t.pars
 rows := t.rows
 kws := t.kws
 defs := x.defs
 gl := fun y u e => by
  cases u with
  | none => exact PySem.W.mg_none_of X N e
  | some v => exact PySem.W.mg_of X N e
 bare := fun y hy => x.bare.mem hy
 consts := x.consts
theorem walkE {l : PySem.W.OpenLaw} {q : Program} {loose : List Str} {XP : (Str -> Option Value) -> Heap -> Prop} {YP : World -> Heap -> Prop} {d : DefRec} {K : Params -> PySem.W.Frag} {B : Tb} {rs : List Row} {f : Nat} {r : Row} {y : Str} {wh : Nat} (hn : l.most = some 63) (hdf : d.params.defaults = [])
  (hr : rs[f]? = some r) (hd : d.name = r.name) (hps : r.ps = [y]) (t : Tabs B rs) (hY : ∀ (w : World) (h : Heap), YP w h -> (K w.params).In h) (T : ∀ (w : World) (h : Heap), (K w.params).In h -> Txt (K w.params) B rs)
  (run : ∀ ns : List Int, ns.length <= 63 -> callW (fnsOf rs) wh 60 f [.scr ns] (fun x _ => x.1 = .bl true) []) : PySem.W.WalkO q loose XP YP l.row.toRowW d [] (fun f vs => PySem.call f vs) := by
 refine L2.walk_of (n := 63) (k := 60) (x := y) (CX := fun _ => CX0) (sp := fun w => spN (gmOf (K w.params) rs) (callW (fnsOf rs) wh 60) f 1) hn (by decide) hdf ⟨rfl, rfl, by decide, by decide⟩ hY (fun w mg fa h KX N hmg => ?_) (fun w H a ns hl _ hS => ?_) fun _ _ _ _ _ z => z
 ·have tx := T w h KX
  obtain ⟨fa', fd, F, na⟩ := (tx.defs.at hr).ex
  rw [hd] at hmg
  have e := hmg.symm.trans (PySem.W.mg_of KX N na)
  cases e
  have ro := t.rows.at hr
  refine ⟨fd, fun s v => ?_, fun base KB NB => ?_⟩
  ·obtain ⟨oc, od, kV, doc, pm, an, cdv, ct, osl, rfl, lk, hcd⟩ := F.ex
   have hb := ro.bd kV doc pm an cdv ct [v] (by rw [hps]; rfl)
   rw [hps] at hb
   exact .of_eq hb
  ·have md := mod_ok t tx KX N
   have := fn_e (P := l.prog) (w := w) (base := base) (wh := wh) (k := 59) md hr F (all_ok wh md 59)
   rw [hps] at this
   exact this
 ·refine ⟨rfl, ⟨H, []⟩, [.scr ns], [], _, ⟨Same.refl H, rfl, List.nodup_nil, fun b hb => (List.not_mem_nil hb).elim, fun k c b h1 _ => by cases h1⟩, ⟨.ref a, [], rfl, ⟨a, rfl, hS⟩, rfl⟩, run ns hl, fun x v H' g' S' _ _ vx q => ?_⟩
  obtain ⟨d, k⟩ := x
  cases (show d = .bl true from q)
  exact vx.sc fun _ z => z.elim
noncomputable def CsOk (K : PySem.W.Frag) (rs : List Row) : List (Str × D) -> Prop
 | [] => True
 | p :: l => (∃ u v, PySem.W.nsIn K mainGlobals p.1 = some (some u) /\ RelV v u /\ ∀ g, Has (gmOf K rs) g p.2 v) /\ CsOk K rs l
theorem cs_of {K : PySem.W.Frag} {rs : List Row} : ∀ {l : List (Str × D)}, CsOk K rs l -> ∀ (n : Nat) (x : Str) (d : D), l[n]? = some (x, d) -> ∃ u v, PySem.W.nsIn K mainGlobals x = some (some u) /\ RelV v u /\ ∀ g, Has (gmOf K rs) g d v
 | [], _, n, x, d, e => by simp at e
 | p :: l, h, 0, x, d, e => by
  simp at e
  subst e
  exact h.1
 | p :: l, h, n + 1, x, d, e => cs_of h.2 n x d (by simpa using e)
theorem cint_mk {K : PySem.W.Frag} {rs : List Row} {x : Str} {i : Int} {t : Tok} (h : PySem.W.nsIn K mainGlobals x = some (some (.int i t))) : ∃ u v, PySem.W.nsIn K mainGlobals x = some (some u) /\ RelV v u /\ ∀ g, Has (gmOf K rs) g (.int i) v := ⟨_, .int i, h, ⟨t, rfl⟩, fun _ => rfl⟩
theorem cstr_mk {K : PySem.W.Frag} {rs : List Row} {x i : Str} {t : Tok} (h : PySem.W.nsIn K mainGlobals x = some (some (.str i t))) : ∃ u v, PySem.W.nsIn K mainGlobals x = some (some u) /\ RelV v u /\ ∀ g, Has (gmOf K rs) g (.str i) v := ⟨_, .str i, h, ⟨t, rfl⟩, fun _ => rfl⟩
end EV
namespace EV
open PySem L2
mutual
theorem eqP_self : ∀ (n : Nat) (d : D), okP n d = true -> eqP d d = true
 | _, .non, _ => rfl
 | _, .bl b, _ => by cases b <;> rfl
 | _, .int i, _ => beq_self_eq_true i
 | _, .str x, _ => beq_self_eq_true x
 | 0, .tup _, h => nobE h
 | n + 1, .tup a, h => eqPs_self n a h
 | 0, .lst _, h => nobE h
 | n + 1, .lst a, h => eqPs_self n a h
 | 0, .dK _ _, h => nobE h
 | n + 1, .dK _ _, h => nobE h
 | 0, .dT _ _, h => nobE h
 | n + 1, .dT _ _, h => nobE h
 | 0, .ref _, h => nobE h
 | n + 1, .ref _, h => nobE h
 | 0, .fn _, h => nobE h
 | n + 1, .fn _, h => nobE h
 | 0, .scr _, h => nobE h
 | n + 1, .scr _, h => nobE h
 | 0, .ktp _, h => nobE h
 | n + 1, .ktp _, h => nobE h
theorem eqPs_self : ∀ (n : Nat) (l : List D), okPs n l = true -> eqPs l l = true
 | _, [], _ => rfl
 | n, d :: l, h => by
  have h' : (okP n d && okPs n l) = true := h
  rw [Bool.and_eq_true] at h'
  show (eqP d d && eqPs l l) = true
  rw [eqP_self n d h'.1, eqPs_self n l h'.2]; rfl
end
theorem idx_at {n : Nat} {a : Int} (h0 : 0 <= a) (h1 : a < (n : Int)) : idx n a = some a.toNat := by
 show (if 0 <= a then (if a < n then some a.toNat else none) else _) = _
 rw [if_pos h0, if_pos h1]
theorem mod_op {i j : Int} (h : 0 < j) : opD .Mod (.int i) (.int j) = some (.int (i % j), false) := by
 show (if decide (0 < j) = true then some (i % j) else none).map (fun k => (D.int k, false)) = _
 rw [if_pos (decide_eq_true h)]; rfl
theorem mul_op {i j : Int} (h : small64 i = true) : opD .Mult (.int i) (.int j) = some (.int (i * j), false) := by
 show (if (small64 i || small64 j) = true then some (D.int (i * j), false) else none) = _
 rw [if_pos (by rw [h]; rfl)]
theorem mulr_op {i j : Int} (h : small64 j = true) : opD .Mult (.int i) (.int j) = some (.int (i * j), false) := by
 show (if (small64 i || small64 j) = true then some (D.int (i * j), false) else none) = _
 rw [if_pos (by rw [h, Bool.or_true])]
theorem small_of {i : Int} (h0 : 0 <= i) (h1 : i < 4294967296) : small64 i = true := by
 unfold small64
 rw [decide_eq_true (by omega), decide_eq_true (by omega)]; rfl
theorem fits_of {n : Nat} (h : n <= 1000000) : fits n = true := decide_eq_true h
theorem lst_at {l : List D} {a : Int} {d : D} (h0 : 0 <= a) (h : l[a.toNat]? = some d) : subD (.lst l) (.int a) = some d := by
 show ((idx l.length a).bind fun k => l[k]?) = _
 have := (List.getElem?_eq_some_iff.mp h).1
 rw [idx_at h0 (by omega)]
 exact h
theorem tup_at {l : List D} {a : Int} {d : D} (h0 : 0 <= a) (h : l[a.toNat]? = some d) : subD (.tup l) (.int a) = some d := by
 show ((idx l.length a).bind fun k => l[k]?) = _
 have := (List.getElem?_eq_some_iff.mp h).1
 rw [idx_at h0 (by omega)]
 exact h
theorem ints_get {ns : List Int} {a : Int} (h0 : 0 <= a) (h1 : a < (ns.length : Int)) : ∃ x, x ∈ ns /\ subD (.lst (ns.map D.int)) (.int a) = some (.int x) := by
 have hl : a.toNat < ns.length := by omega
 refine ⟨ns[a.toNat], List.getElem_mem hl, lst_at h0 ?_⟩
 rw [List.getElem?_map, List.getElem?_eq_getElem hl]; rfl
theorem okPs_ints (n : Nat) : ∀ (ns : List Int), okPs n (ns.map D.int) = true
 | [] => rfl
 | i :: ns => by
  show (okP n (.int i) && okPs n (ns.map D.int)) = true
  rw [okPs_ints n ns]
  cases n <;> rfl
theorem intsD_map : ∀ (ns : List Int), intsD (ns.map D.int) = some ns
 | [] => rfl
 | i :: ns => by
  show (intsD (ns.map D.int)).map (i :: ·) = _
  rw [intsD_map ns]; rfl
theorem eq_op {a b : D} (ha : okP 60 a = true) (hb : okP 60 b = true) : cmpD .Eq a b = some (eqP a b) := by
 show (if (okP 60 a && okP 60 b) = true then some (eqP a b) else none) = _
 rw [ha, hb]; rfl
theorem ne_op {a b : D} (ha : okP 60 a = true) (hb : okP 60 b = true) : cmpD .NotEq a b = some (!eqP a b) := by
 have e : cmpD .NotEq a b = (if (okP 60 a && okP 60 b) = true then some (eqP a b) else none).map (!·) := by
  cases a with
  | dK => exact nobE ha
  | _ => rfl
 rw [e, ha, hb]; rfl
theorem ne_self_op {a : D} (ha : okP 60 a = true) : cmpD .NotEq a a = some false := by rw [ne_op ha ha, eqP_self 60 a ha]; rfl
theorem addt_op {a b : List D} (h : a.length + b.length <= 1000000) : opD .Add (.tup a) (.tup b) = some (.tup (a ++ b), false) := by
 show (if fits (a.length + b.length) = true then some (D.tup (a ++ b), false) else none) = _
 rw [if_pos (fits_of h)]
theorem addl_op {a b : List D} (h : a.length + b.length <= 1000000) : opD .Add (.lst a) (.lst b) = some (.lst (a ++ b), true) := by
 show (if fits (a.length + b.length) = true then some (D.lst (a ++ b), true) else none) = _
 rw [if_pos (fits_of h)]
end EV
namespace EV
open PySem L2
section
variable {α : Type} {F : Nat -> Option Fn} {cf : Cf} {w k f : Nat} {ds : List D} {V V' : Po} {S : Store} {K : Ko} {ρ : List Slot} {x : Vl} {d : D} {b : Bool} {l : List D} {c : C} {cs : List C}
theorem opt_mk {o : Option α} {Q : α -> Prop} {a : α} (h : o = some a) (q : Q a) : opt o Q := by subst h; exact q
theorem ops_mk {o : Option (List Slot)} {Q : List Slot -> Prop} {a : List Slot} (h : o = some a) (q : Q a) : optS o Q := by subst h; exact q
theorem opv_s {o : Option (D × Bool)} {Q : Vl -> Prop} (h : o = some (d, false)) (q : Q (d, .st)) : opV o Q := by subst h; exact q
theorem opv_f {o : Option (D × Bool)} {Q : Vl -> Prop} (h : o = some (d, true)) (q : Q (d, .fr)) : opV o Q := by subst h; exact q
theorem tst_T {T F : Prop} (h : b = true) (q : T) : tst b T F := by subst h; exact q
theorem tst_F {T F : Prop} (h : b = false) (q : F) : tst b T F := by subst h; exact q
theorem tst_mk {T F : Prop} (t : b = true -> T) (f : b = false -> F) : tst b T F := by
 cases b with
 | true => exact t rfl
 | false => exact f rfl
theorem kp_s {Q : D -> Prop} (h : x = (d, .st)) (q : Q d) : keep x Q := by subst h; exact q
theorem kp_f {Q : D -> Prop} (h : x = (d, .fr)) (q : Q d) : keep x Q := by subst h; exact q
theorem bx_f {Q : D -> Prop} (h : x = (d, .fr)) (q : Q d) : boxd x Q := by subst h; exact q
theorem rv_s {Q : O -> Prop} (h : x = (d, .st)) (q : Q (.ret d false)) : retV x Q := by subst h; exact q
theorem rv_f {Q : O -> Prop} (h : x = (d, .fr)) (q : Q (.ret d true)) : retV x Q := by subst h; exact q
theorem bl_mk {Q : Bool -> Prop} (h : d = .bl b) (q : Q b) : isB d Q := by subst h; exact q
theorem isf_mk {Q : Nat -> Prop} {f : Nat} (h : d = .fn f) (q : Q f) : isF d Q := by subst h; exact q
theorem isn_mk {Q : Int -> Prop} {i : Int} (h : d = .int i) (q : Q i) : isZ d Q := by subst h; exact q
theorem sel_s {s : Option Slot} {P Q : D -> Prop} (h : s = some (.sh d)) (q : P d) : sel s P Q := by subst h; exact q
theorem sel_o {s : Option Slot} {P Q : D -> Prop} (h : s = some (.ow d)) (q : Q d) : sel s P Q := by subst h; exact q
theorem rdv_s {s : Option Slot} {Q : Vl -> Prop} (h : s = some (.sh d)) (q : Q (d, .st)) : rdV s Q := by subst h; exact q
theorem rdv_o {s : Option Slot} {Q : Vl -> Prop} (h : s = some (.ow d)) (q : Q (d, .bo)) : rdV s Q := by subst h; exact q
theorem owl_mk {s : Option Slot} {Q : List D -> Prop} (h : s = some (.ow (.lst l))) (q : Q l) : owL s Q := by subst h; exact q
theorem owd_mk {s : Option Slot} {Q : D -> Prop} (h : s = some (.ow d)) (q : Q d) : owD s Q := by subst h; exact q
theorem cel_mk {s : Option D} {Q : List D -> Prop} (h : s = some (.lst l)) (q : Q l) : isL s Q := by subst h; exact q
theorem isr_mk {n : Nat} {Q : Nat -> Prop} (h : d = .ref n) (q : Q n) : isR d Q := by subst h; exact q
theorem cs_cons (h : wpC cf w c ρ (nxt (fun ρ' S' => wpCs cf w cs ρ' K S') K) S) : wpCs cf w (c :: cs) ρ K S := h
theorem cs_nil (h : K (.next ρ) S) : wpCs cf w [] ρ K S := h
theorem th_next {g : List Slot -> Store -> Prop} (h : g ρ S) : nxt g K (.next ρ) S := h
theorem th_ret {g : List Slot -> Store -> Prop} (h : K (.ret d b) S) : nxt g K (.ret d b) S := h
theorem th_brk {g : List Slot -> Store -> Prop} (h : K (.brk ρ) S) : nxt g K (.brk ρ) S := h
theorem th_cnt {g : List Slot -> Store -> Prop} (h : K (.cnt ρ) S) : nxt g K (.cnt ρ) S := h
theorem to_s (h : V (d, .st) S) : told V (.ret d false) S := h
theorem to_f (h : V (d, .fr) S) : told V (.ret d true) S := h
theorem to_next (h : V (.non, .st) S) : told V (.next ρ) S := h
theorem tu_next {I : List Slot -> Store -> Prop} (h : I ρ S) : trn K I (.next ρ) S := h
theorem tu_cnt {I : List Slot -> Store -> Prop} (h : I ρ S) : trn K I (.cnt ρ) S := h
theorem tu_brk {I : List Slot -> Store -> Prop} (h : K (.next ρ) S) : trn K I (.brk ρ) S := h
theorem tu_ret {I : List Slot -> Store -> Prop} (h : K (.ret d b) S) : trn K I (.ret d b) S := h
theorem wp_mono (h : callW F w k f ds V S) (q : ∀ x S, V x S -> V' x S) : callW F w k f ds V' S := call_mono k f ds V V' S q h
theorem wp_def {fn : Fn} {bd : List C} (hf : F f = some fn) (hl : ds.length = fn.np) (hb : fn.body = bd) (h : wpCs (callW F w k) w bd (entry fn ds) (told V) S) : callW F w (k + 1) f ds V S := by
 show opt (F f) _
 rw [hf]
 exact ⟨hl, by rw [hb]; exact h⟩
theorem wp_walk {t : T} {A : List C} (I : List D -> List Slot -> Store -> Prop)
  (step : ∀ d l ρ S, I (d :: l) ρ S -> optS (bindT ρ t (d, false)) fun ρ1 => wpCs (callW F w k) w A ρ1 (trn K (I l)) S)
  (fin : ∀ ρ S, I [] ρ S -> K (.next ρ) S) : ∀ (l : List D) (ρ : List Slot) (S : Store), I l ρ S -> forW t (fun ρ => wpCs (callW F w k) w A ρ) l ρ K S
 | [], ρ, S, h => fin ρ S h
 | d :: l, ρ, S, h => opt_mono (fun ρ1 q => wpCs_mono (call_mono k) A (trn_mono (fun ρ S => wp_walk I step fin l ρ S) fun _ _ => id) q) (step d l ρ S h)
theorem wp_comp {s : D -> (Option D -> Store -> Prop) -> Store -> Prop} {V : List D -> Store -> Prop} (hs : ∀ d K K' S, (∀ o S, K o S -> K' o S) -> s d K S -> s d K' S) (I : List D -> List D -> Store -> Prop)
  (step : ∀ d l acc S, I (d :: l) acc S -> s d (fun o S1 => match o with
   | some x => tst (fits (acc.length + 1)) (I l (acc ++ [x]) S1) False
   | none => I l acc S1) S)
  (fin : ∀ acc S, I [] acc S -> V acc S) : ∀ (l acc : List D) (S : Store), I l acc S -> walkW s l acc V S
 | [], acc, S, h => fin acc S h
 | d :: l, acc, S, h => hs d _ _ S (fun o S1 => by
  cases o with
  | some x => exact tst_mono (wp_comp hs I step fin l _ S1) id
  | none => exact wp_comp hs I step fin l acc S1) (step d l acc S h)
theorem e_var {i : Nat} : wpE cf ρ (.var i) V S = (rdV ρ[i]? fun x => V x S) := rfl
theorem e_con {d : D} : wpE cf ρ (.con d) V S = (V (d, .st) S) := rfl
theorem e_glo {n : Nat} {d : D} : wpE cf ρ (.glo n d) V S = (V (d, .st) S) := rfl
theorem e_bin {op : Operator} {a : E} {b : E} : wpE cf ρ (.bin op a b) V S = (wpE cf ρ a (fun x S1 => wpE cf ρ b (fun y S2 => opV (opD op (deref S2 x.1) (deref S2 y.1)) fun x => V x S2) S1) S) := rfl
theorem e_neg {a : E} : wpE cf ρ (.neg a) V S = (wpE cf ρ a (fun x S1 => isZ x.1 fun i => V (.int (-i), .st) S1) S) := rfl
theorem e_cmp {op : CmpOp} {a : E} {b : E} : wpE cf ρ (.cmp op a b) V S = (wpE cf ρ a (fun x S1 => wpE cf ρ b (fun y S2 => opt (cmpD op (deref S2 x.1) (deref S2 y.1)) fun r => V (.bl r, .st) S2) S1) S) := rfl
theorem e_chn {o1 : CmpOp} {o2 : CmpOp} {a : E} {b : E} {c : E} : wpE cf ρ (.chn o1 o2 a b c) V S = (wpE cf ρ a (fun x S1 => wpE cf ρ b (fun y S2 => opt (cmpD o1 (deref S2 x.1) (deref S2 y.1)) fun r => tst r (wpE cf ρ c (fun z S3 => opt (cmpD o2 (deref S3 y.1) (deref S3 z.1)) fun r => V (.bl r, .st) S3) S2) (V (.bl false, .st) S2)) S1) S) := rfl
theorem e_not {a : E} : wpE cf ρ (.not a) V S = (wpE cf ρ a (fun x S1 => isB x.1 fun b => V (.bl (!b), .st) S1) S) := rfl
theorem e_and {a : E} {b : E} : wpE cf ρ (.and a b) V S = (wpE cf ρ a (fun x S1 => isB x.1 fun r => tst r (wpE cf ρ b V S1) (V (.bl false, .st) S1)) S) := rfl
theorem e_or {a : E} {b : E} : wpE cf ρ (.or a b) V S = (wpE cf ρ a (fun x S1 => isB x.1 fun r => tst r (V (.bl true, .st) S1) (wpE cf ρ b V S1)) S) := rfl
theorem e_ite {c : E} {a : E} {b : E} : wpE cf ρ (.ite c a b) V S = (wpE cf ρ c (fun x S1 => isB x.1 fun r => tst r (wpE cf ρ a V S1) (wpE cf ρ b V S1)) S) := rfl
theorem e_tup {es : List E} : wpE cf ρ (.tup es) V S = (wpEs cf ρ es (fun ds S1 => tst (fits ds.length) (V (.tup ds, .st) S1) False) S) := rfl
theorem e_lst {es : List E} : wpE cf ρ (.lst es) V S = (wpEs cf ρ es (fun ds S1 => tst (fits ds.length) (V (.lst ds, .fr) S1) False) S) := rfl
theorem e_dic {tk : Bool} {ks : List Key} {es : List E} : wpE cf ρ (.dic tk ks es) V S = (wpEs cf ρ es (fun ds S1 => tst (dicOk tk ks ds) (V (dicV tk ks ds, .fr) S1) False) S) := rfl
theorem e_sub {a : E} {i : E} : wpE cf ρ (.sub a i) V S = (wpE cf ρ a (fun x S1 => wpE cf ρ i (fun y S2 => opt (subD (deref S2 x.1) y.1) fun d => V (d, .st) S2) S1) S) := rfl
theorem e_slc {a : E} {lo : Option E} {hi : Option E} : wpE cf ρ (.slc a lo hi) V S = (wpE cf ρ a (fun x S1 => wpO cf ρ lo (fun l S2 => wpO cf ρ hi (fun h S3 => opV (slcD (deref S3 x.1) l h) fun x => V x S3) S2) S1) S) := rfl
theorem e_bi {b : BI} {e : E} : wpE cf ρ (.bi b [e]) V S = (wpE cf ρ e (fun x S1 => opV (biD b [deref S1 x.1]) fun x => V x S1) S) := rfl
theorem e_bi2 {b : BI} {e e' : E} : wpE cf ρ (.bi b [e, e']) V S = (wpEs cf ρ [e, e'] (fun ds S1 => opV (biD b (ds.map (deref S1))) fun x => V x S1) S) := rfl
theorem e_mth {m : MT} {o : E} {es : List E} : wpE cf ρ (.mth m o es) V S = (wpE cf ρ o (fun x S1 => tst (mthK m (deref S1 x.1)) (wpEs cf ρ es (fun ds S2 => opV (mthD m (deref S2 x.1) ds) fun x => V x S2) S1) False) S) := rfl
theorem e_call {f : Nat} {es : List E} : wpE cf ρ (.call f es) V S = (wpEs cf ρ es (fun ds S1 => cf f ds V S1) S) := rfl
theorem e_callk {f : Nat} {perm : List Nat} {es : List E} : wpE cf ρ (.callk f perm es) V S = (wpEs cf ρ es (fun ds S1 => opt (perm.mapM fun i => ds[i]?) fun ds => cf f ds V S1) S) := rfl
theorem e_box {e : E} : wpE cf ρ (.box e) V S = (wpE cf ρ e (fun x S1 => boxd x fun d => V (.ref S1.length, .st) (S1 ++ [d])) S) := rfl
theorem e_callv {i : Nat} {es : List E} : wpE cf ρ (.callv i es) V S = (rdV ρ[i]? fun x => isF x.1 fun f => wpEs cf ρ es (fun ds S1 => cf f ds V S1) S) := rfl
theorem e_one {e : E} : wpE cf ρ (.one e) V S = (wpE cf ρ e V S) := rfl
theorem e_flip {e : E} : wpE cf ρ (.flip e) V S = (wpE cf ρ e (fun x S1 => opV (flipD (deref S1 x.1)) fun x => V x S1) S) := rfl
theorem wp_lc {t : T} {js : List Nat} {it elt : E} {ifs : List E} (h : wpI cf ρ it (fun its S1 => walkW (cStep cf ρ t js ifs elt) its [] (fun ds S2 => V (.lst ds, .fr) S2) S1) S) : wpE cf ρ (.comp t js it ifs elt) V S := h
theorem c_mono {t : T} {js : List Nat} {ifs : List E} {elt : E} (hm : Mono cf) : ∀ d K K' S, (∀ o S, K o S -> K' o S) -> cStep cf ρ t js ifs elt d K S -> cStep cf ρ t js ifs elt d K' S := fun d K K' S q => opt_mono fun ρ' => wpF_mono hm ifs fun b S1 => tst_mono (wpE_mono hm elt fun x S2 => keep_mono fun d => q _ _) (q _ _)
end
theorem put_str {ks : List Key} {vs : List D} {s : Str} {v : D} (h : hasK ks (.inr s) = false) (hl : ks.length + 1 <= 1000000) : putD (.dK ks vs) (.str s) v = some (.dK (ks ++ [.inr s]) (vs ++ [v])) := by
 show (if fits (ks.length + 1) = true then some (D.dK (putKs ks vs (Sum.inr s) v).1 (putKs ks vs (Sum.inr s) v).2) else none) = _
 rw [if_pos (fits_of hl)]
 unfold putKs
 rw [h]; rfl
theorem cut_map (ns : List Int) (lo hi : Option Int) : ∃ ms : List Int, cutD (ns.map D.int) lo hi = ms.map D.int /\ ms.length <= ns.length := by
 unfold cutD
 rw [<- List.map_drop, <- List.map_take]
 refine ⟨_, rfl, ?_⟩
 rw [List.length_take, List.length_drop]
 omega
theorem small_mod {x k : Int} (h0 : 0 < k) (h1 : k <= 4294967296) : small64 (x % k) = true := small_of (Int.emod_nonneg _ (by omega)) (by have := Int.emod_lt_of_pos x h0; omega)
theorem rng_cons {lo hi : Int} (h : lo < hi) : rangeD lo hi = .int lo :: rangeD (lo + 1) hi := by
 unfold rangeD
 obtain ⟨m, hm⟩ : ∃ m, (hi - lo).toNat = m + 1 := ⟨(hi - lo).toNat - 1, by omega⟩
 have e : (hi - (lo + 1)).toNat = m := by omega
 rw [hm, e, List.range_succ_eq_map, List.map_cons, List.map_map]
 congr 1
 ·simp
 ·refine List.map_congr_left fun k _ => ?_
  simp
  omega
theorem rng_nil {lo hi : Int} (h : hi <= lo) : rangeD lo hi = [] := by
 unfold rangeD
 rw [show (hi - lo).toNat = 0 by omega]; rfl
theorem om1 {a b K : Nat} (h : b <= K) (e : Nat.ble a b = true) : a <= K := Nat.le_trans (Nat.le_of_ble_eq_true e) h
theorem om2 {a b K : Nat} (h : b <= K + 1) (e : Nat.ble (a + 1) b = true) : a <= K := Nat.le_of_succ_le_succ (Nat.le_trans (Nat.le_of_ble_eq_true e) h)
theorem om3 {b K : Nat} (h : b <= K) (e : Nat.ble 1 b = true) : K = K - 1 + 1 := (Nat.sub_add_cancel (Nat.le_trans (Nat.le_of_ble_eq_true e) h)).symm
end EV
namespace Q07
open PySem PySem.Spec PyProof.Rows L2 EV
def top (i : Nat) : Stmt := PySem.Challenge.pw_errandroom_k07_programs_written.main.body.getD i (.Pass ⟨0, 0, 0, 0⟩)
noncomputable abbrev b_worth_text : List C := [.ite (.bi (.isinst .tuple) [(.var 0)]) [.ret (.bin .Add (.bin .Add (.bin .Add (.bin .Add (.con (.str "(")) (.call 0 [(.sub (.var 0) (.con (.int 1)))])) (.sub (.var 0) (.con (.int 0)))) (.call 0 [(.sub (.var 0) (.con (.int 2)))])) (.con (.str ")")))] [], .ret (.bi .str [(.var 0)])]
noncomputable def r_worth_text : EV.Row := ⟨"worth_text", top 1, ["one"], ["one"], ⟨1, 1, b_worth_text⟩⟩
noncomputable abbrev b_written : List C := [.set (.one 1) (.lst []), .forr (.one 2) (.seq (.var 0)) [.app 1 (.mth .join (.con (.str " ")) [(.bin .Add (.tup [(.con (.str "errand")), (.sub (.var 2) (.con (.int 0)))]) (.sub (.var 2) (.con (.int 1))))]), .ext 1 (.call 2 [(.sub (.var 2) (.con (.int 2)))]), .app 1 (.con (.str "end"))], .frz 1, .ret (.mth .join (.con (.str "\n")) [(.var 1)])]
noncomputable def r_written : EV.Row := ⟨"written", top 2, ["program"], ["program", "lines", "errand"], ⟨1, 3, b_written⟩⟩
noncomputable abbrev b_block_lines : List C := [.set (.one 1) (.lst []), .forr (.one 2) (.seq (.var 0)) [.ext 1 (.call 3 [(.var 2)])], .ret (.var 1)]
noncomputable def r_block_lines : EV.Row := ⟨"block_lines", top 3, ["block"], ["block", "lines", "row"], ⟨1, 3, b_block_lines⟩⟩
noncomputable abbrev b_row_lines : List C := [.set (.one 1) (.sub (.var 0) (.con (.int 0))), .ite (.cmp .Eq (.var 1) (.con (.str "set"))) [.ret (.lst [(.bin .Add (.bin .Add (.bin .Add (.con (.str "set ")) (.sub (.var 0) (.con (.int 1)))) (.con (.str " "))) (.call 0 [(.sub (.var 0) (.con (.int 2)))]))])] [], .ite (.cmp .In (.var 1) (.tup [(.con (.str "tell")), (.con (.str "give")), (.con (.str "fail"))])) [.ret (.lst [(.bin .Add (.bin .Add (.var 1) (.con (.str " "))) (.call 0 [(.sub (.var 0) (.con (.int 1)))]))])] [], .ite (.cmp .Eq (.var 1) (.con (.str "if"))) [.ret (.bin .Add (.bin .Add (.bin .Add (.bin .Add (.lst [(.bin .Add (.con (.str "if ")) (.call 0 [(.sub (.var 0) (.con (.int 1)))]))]) (.call 2 [(.sub (.var 0) (.con (.int 2)))])) (.lst [(.con (.str "else"))])) (.call 2 [(.sub (.var 0) (.con (.int 3)))])) (.lst [(.con (.str "end"))]))] [], .ite (.cmp .Eq (.var 1) (.con (.str "while"))) [.ret (.bin .Add (.bin .Add (.lst [(.bin .Add (.con (.str "while ")) (.call 0 [(.sub (.var 0) (.con (.int 1)))]))]) (.call 2 [(.sub (.var 0) (.con (.int 2)))])) (.lst [(.con (.str "end"))]))] [], .ite (.cmp .Eq (.var 1) (.con (.str "try"))) [.set (.one 2) (.ite (.cmp .Is (.sub (.var 0) (.con (.int 2))) (.con .non)) (.con (.str "catch")) (.bin .Add (.con (.str "catch ")) (.sub (.var 0) (.con (.int 2))))), .ret (.bin .Add (.bin .Add (.bin .Add (.bin .Add (.lst [(.con (.str "try"))]) (.call 2 [(.sub (.var 0) (.con (.int 1)))])) (.lst [(.var 2)])) (.call 2 [(.sub (.var 0) (.con (.int 3)))])) (.lst [(.con (.str "end"))]))] [], .ite (.cmp .Eq (.var 1) (.con (.str "do"))) [.ret (.bin .Add (.bin .Add (.bin .Add (.bin .Add (.lst [(.con (.str "do"))]) (.call 2 [(.sub (.var 0) (.con (.int 1)))])) (.lst [(.con (.str "undo"))])) (.call 2 [(.sub (.var 0) (.con (.int 2)))])) (.lst [(.con (.str "end"))]))] [], .ret (.bin .Add (.bin .Add (.lst [(.bin .Add (.con (.str "want ")) (.bi .str [(.sub (.var 0) (.con (.int 1)))]))]) (.comp (.one 0) [] (.seq (.sub (.var 0) (.con (.int 2)))) [] (.call 4 [(.var 0)]))) (.lst [(.con (.str "end"))]))]
noncomputable def r_row_lines : EV.Row := ⟨"row_lines", top 4, ["row"], ["row", "word", "catch"], ⟨1, 3, b_row_lines⟩⟩
noncomputable abbrev b_branch_line : List C := [.set (.one 1) (.ite (.cmp .Eq (.sub (.var 0) (.con (.int 1))) (.con (.str "ask"))) (.tup [(.sub (.var 0) (.con (.int 3)))]) (.sub (.var 0) (.con (.int 3)))), .set (.one 2) (.bin .Add (.lst [(.sub (.var 0) (.con (.int 1))), (.sub (.var 0) (.con (.int 2)))]) (.comp (.one 0) [] (.seq (.var 1)) [] (.call 0 [(.var 0)]))), .ite (.cmp .IsNot (.sub (.var 0) (.con (.int 0))) (.con .non)) [.set (.one 2) (.bin .Add (.lst [(.sub (.var 0) (.con (.int 0))), (.con (.str "="))]) (.var 2))] [], .frz 2, .ret (.mth .join (.con (.str " ")) [(.var 2)])]
noncomputable def r_branch_line : EV.Row := ⟨"branch_line", top 5, ["branch"], ["branch", "ones", "words"], ⟨1, 3, b_branch_line⟩⟩
noncomputable abbrev b__law_numbers : List C := [.set (.one 1) (.lst []), .set (.one 2) (.bi .abs [(.var 0)]), .ite (.cmp .GtE (.var 2) (.bin .Pow (.con (.int 10)) (.con (.int 18)))) [.forr (.one 3) (.rng none (.con (.int 60))) [.ite (.cmp .Gt (.var 2) (.con (.int 0))) [.app 1 (.bin .Mod (.var 2) (.bin .Pow (.con (.int 10)) (.con (.int 6)))), .set (.one 2) (.bin .FloorDiv (.var 2) (.bin .Pow (.con (.int 10)) (.con (.int 6))))] []], .ret (.var 1)] [], .forr (.one 3) (.rng none (.con (.int 8))) [.set (.one 4) (.bin .Mod (.bin .Mult (.bin .Add (.bin .Add (.bin .Add (.bin .Mod (.var 0) (.con (.int 2147483647))) (.bin .Mult (.bin .Mult (.con (.int 977)) (.var 3)) (.var 3))) (.bin .Mult (.con (.int 31)) (.var 3))) (.con (.int 1))) (.con (.int 48271))) (.con (.int 2147483647))), .set (.one 4) (.bin .Mod (.bin .Mult (.var 4) (.var 4)) (.con (.int 2147483647))), .app 1 (.bin .Mod (.bin .FloorDiv (.bin .Mod (.bin .Mult (.bin .Add (.var 4) (.bin .Mult (.con (.int 40692)) (.bin .Add (.var 3) (.con (.int 3))))) (.con (.int 69621))) (.con (.int 2147483629))) (.con (.int 8))) (.bin .Pow (.con (.int 10)) (.con (.int 6))))], .ret (.var 1)]
noncomputable def r__law_numbers : EV.Row := ⟨"_law_numbers", top 7, ["_law_cell"], ["_law_cell", "_law_found", "_law_left", "_law_k", "_law_one"], ⟨1, 5, b__law_numbers⟩⟩
noncomputable abbrev b__law_pot : List C := [.set (.one 1) (.lst []), .forr (.one 2) (.seq (.slc (.var 0) none (some (.con (.int 63))))) [.set (.one 1) (.bin .Add (.var 1) (.call 5 [(.var 2)]))], .ite (.cmp .Eq (.var 1) (.lst [])) [.set (.one 1) (.call 5 [(.con (.int 0))])] [], .frz 1, .ret (.lst [(.var 1), (.con (.int 0)), (.bin .Mod (.bin .Add (.con (.int 7919)) (.bin .Mult (.con (.int 40693)) (.bi .sum [(.var 1)]))) (.con (.int 2147483629)))])]
noncomputable def r__law_pot : EV.Row := ⟨"_law_pot", top 8, ["_law_script"], ["_law_script", "_law_found", "_law_cell"], ⟨1, 3, b__law_pot⟩⟩
noncomputable abbrev b__law_take : List C := [.set (.one 2) (.sub (.var 0) (.con (.int 1))), .sti (.var 0) (.con (.int 1)) (.bin .Add (.var 2) (.con (.int 1))), .ite (.cmp .Lt (.var 2) (.bi .len [(.sub (.var 0) (.con (.int 0)))])) [.ret (.bin .Mod (.sub (.sub (.var 0) (.con (.int 0))) (.var 2)) (.var 1))] [], .sti (.var 0) (.con (.int 2)) (.bin .Mod (.bin .Add (.bin .Add (.bin .Mult (.sub (.var 0) (.con (.int 2))) (.sub (.var 0) (.con (.int 2)))) (.con (.int 40692))) (.var 2)) (.con (.int 2147483629))), .ret (.bin .Mod (.bin .Mod (.bin .FloorDiv (.sub (.var 0) (.con (.int 2))) (.con (.int 8))) (.bin .Pow (.con (.int 10)) (.con (.int 6)))) (.var 1))]
noncomputable def r__law_take : EV.Row := ⟨"_law_take", top 9, ["_law_pot_here", "_law_many"], ["_law_pot_here", "_law_many", "_law_at"], ⟨2, 3, b__law_take⟩⟩
noncomputable abbrev b__law_word : List C := [.set (.one 1) (.call 7 [(.var 0), (.con (.int 4))]), .ite (.cmp .Eq (.var 1) (.con (.int 0))) [.ret (.sub (.lst [(.con (.str "end")), (.con (.str "ask")), (.con (.str "call")), (.con (.str "set")), (.con (.str "if")), (.con (.str "errand")), (.con (.str "catch")), (.con (.str "undo")), (.con (.str "else")), (.con (.str "want")), (.con (.str "try")), (.con (.str "do")), (.con (.str "tell")), (.con (.str "give")), (.con (.str "fail")), (.con (.str "while"))]) (.call 7 [(.var 0), (.con (.int 16))]))] [], .ite (.cmp .Eq (.var 1) (.con (.int 1))) [.ret (.slc (.con (.str "aaaaaaaa")) none (some (.bin .Add (.con (.int 1)) (.call 7 [(.var 0), (.con (.int 8))]))))] [], .set (.one 2) (.con (.str "")), .forr (.one 3) (.rng none (.sub (.lst [(.con (.int 1)), (.bin .Add (.con (.int 1)) (.call 7 [(.var 0), (.con (.int 8))]))]) (.bin .Sub (.var 1) (.con (.int 2))))) [.set (.one 2) (.bin .Add (.var 2) (.sub (.con (.str "abcdefghijklmnopqrstuvwxyz")) (.call 7 [(.var 0), (.con (.int 26))])))], .ret (.var 2)]
noncomputable def r__law_word : EV.Row := ⟨"_law_word", top 10, ["_law_pot_here"], ["_law_pot_here", "_law_way", "_law_found", "_law_k"], ⟨1, 4, b__law_word⟩⟩
noncomputable abbrev b__law_words : List C := [.set (.one 2) (.lst []), .forr (.one 3) (.rng none (.var 1)) [.set (.one 4) (.call 8 [(.var 0)]), .ite (.cmp .NotIn (.var 4) (.var 2)) [.frz 4, .app 2 (.var 4)] []], .ret (.var 2)]
noncomputable def r__law_words : EV.Row := ⟨"_law_words", top 11, ["_law_pot_here", "_law_many"], ["_law_pot_here", "_law_many", "_law_found", "_law_k", "_law_one"], ⟨2, 5, b__law_words⟩⟩
noncomputable abbrev b__law_worth : List C := [.set (.one 3) (.call 7 [(.var 0), (.con (.int 6))]), .ite (.and (.cmp .Gt (.var 2) (.con (.int 0))) (.one (.cmp .Gt (.var 3) (.con (.int 2))))) [.set (.one 4) (.sub (.con (.str "+-*<=")) (.call 7 [(.var 0), (.con (.int 5))])), .set (.one 5) (.call 10 [(.var 0), (.var 1), (.bin .Sub (.var 2) (.con (.int 1)))]), .ret (.tup [(.var 4), (.var 5), (.call 10 [(.var 0), (.var 1), (.bin .Sub (.var 2) (.con (.int 1)))])])] [], .ite (.and (.cmp .Eq (.bin .Mod (.var 3) (.con (.int 2))) (.con (.int 0))) (.one (.cmp .NotEq (.var 1) (.lst [])))) [.ret (.sub (.var 1) (.call 7 [(.var 0), (.bi .len [(.var 1)])]))] [], .ite (.cmp .Eq (.var 3) (.con (.int 1))) [.ret (.call 7 [(.var 0), (.con (.int 12))])] [], .ite (.cmp .Eq (.var 3) (.con (.int 3))) [.ret (.bin .Sub (.con (.int 1000000006)) (.call 7 [(.var 0), (.con (.int 3))]))] [], .set (.one 5) (.call 7 [(.var 0), (.bin .Pow (.con (.int 10)) (.con (.int 6)))]), .ret (.bin .Mod (.bin .Add (.bin .Mult (.var 5) (.bin .Pow (.con (.int 10)) (.con (.int 6)))) (.call 7 [(.var 0), (.bin .Pow (.con (.int 10)) (.con (.int 6)))])) (.con (.int 1000000007)))]
noncomputable def r__law_worth : EV.Row := ⟨"_law_worth", top 12, ["_law_pot_here", "_law_names", "_law_deep"], ["_law_pot_here", "_law_names", "_law_deep", "_law_way", "_law_sign", "_law_one"], ⟨3, 6, b__law_worth⟩⟩
noncomputable abbrev b__law_branch : List C := [.set (.one 2) (.sub (.bin .Add (.sub (.var 1) (.con (.int 0))) (.lst [(.con .non)])) (.call 7 [(.var 0), (.bin .Add (.bi .len [(.sub (.var 1) (.con (.int 0)))]) (.con (.int 1)))])), .ite (.cmp .Gt (.call 7 [(.var 0), (.con (.int 3))]) (.con (.int 0))) [.set (.one 3) (.call 8 [(.var 0)]), .frz 3, .ret (.tup [(.var 2), (.con (.str "ask")), (.var 3), (.call 10 [(.var 0), (.sub (.var 1) (.con (.int 0))), (.call 7 [(.var 0), (.con (.int 4))])])])] [], .set (.tup [4, 5]) (.sub (.sub (.var 1) (.con (.int 1))) (.call 7 [(.var 0), (.bi .len [(.sub (.var 1) (.con (.int 1)))])])), .set (.one 6) (.comp (.one 0) [0, 1] (.seq (.var 5)) [] (.call 10 [(.var 1), (.sub (.var 2) (.con (.int 0))), (.call 7 [(.var 1), (.con (.int 3))])])), .ret (.tup [(.var 2), (.con (.str "call")), (.var 4), (.bi .tuple [(.var 6)])])]
noncomputable def r__law_branch : EV.Row := ⟨"_law_branch", top 13, ["_law_pot_here", "_law_room"], ["_law_pot_here", "_law_room", "_law_name", "_law_who", "_law_title", "_law_params", "_law_some"], ⟨2, 7, b__law_branch⟩⟩
noncomputable abbrev b__law_nest : List C := [.ite (.cmp .Eq (.var 2) (.con (.int 11))) [.set (.one 5) (.call 14 [(.var 0), (.var 1), (.var 3), (.var 4)]), .ret (.tup [(.con (.str "do")), (.var 5), (.call 14 [(.var 0), (.var 1), (.var 3), (.con (.bl true))])])] [], .ite (.cmp .Eq (.var 2) (.con (.int 10))) [.set (.one 5) (.call 14 [(.var 0), (.var 1), (.var 3), (.var 4)]), .set (.one 6) (.sub (.bin .Add (.sub (.var 1) (.con (.int 0))) (.lst [(.con .non)])) (.call 7 [(.var 0), (.bin .Add (.bi .len [(.sub (.var 1) (.con (.int 0)))]) (.con (.int 1)))])), .ret (.tup [(.con (.str "try")), (.var 5), (.var 6), (.call 14 [(.var 0), (.var 1), (.var 3), (.var 4)])])] [], .set (.one 7) (.call 10 [(.var 0), (.sub (.var 1) (.con (.int 0))), (.call 7 [(.var 0), (.con (.int 3))])]), .set (.one 5) (.call 14 [(.var 0), (.var 1), (.var 3), (.var 4)]), .ite (.cmp .Eq (.var 2) (.con (.int 9))) [.ret (.tup [(.con (.str "while")), (.var 7), (.var 5)])] [], .ret (.tup [(.con (.str "if")), (.var 7), (.var 5), (.call 14 [(.var 0), (.var 1), (.var 3), (.var 4)])])]
noncomputable def r__law_nest : EV.Row := ⟨"_law_nest", top 14, ["_law_pot_here", "_law_room", "_law_way", "_law_deep", "_law_undoing"], ["_law_pot_here", "_law_room", "_law_way", "_law_deep", "_law_undoing", "_law_first", "_law_name", "_law_one"], ⟨5, 8, b__law_nest⟩⟩
noncomputable abbrev b__law_row : List C := [.sti (.var 1) (.con (.int 2)) (.bin .Sub (.sub (.var 1) (.con (.int 2))) (.con (.int 1))), .set (.one 4) (.call 7 [(.var 0), (.con (.int 12))]), .ite (.cmp .Lt (.var 4) (.con (.int 3))) [.set (.one 5) (.lst []), .forr (.one 6) (.rng none (.bin .Add (.con (.int 1)) (.call 7 [(.var 0), (.con (.int 4))]))) [.app 5 (.call 11 [(.var 0), (.var 1)])], .ret (.tup [(.con (.str "want")), (.bin .Add (.con (.int 1)) (.call 7 [(.var 0), (.bi .len [(.var 5)])])), (.bi .tuple [(.var 5)])])] [], .ite (.cmp .Gt (.var 4) (.con (.int 7))) [.ret (.call 12 [(.var 0), (.var 1), (.var 4), (.bin .Sub (.var 2) (.con (.int 1))), (.var 3)])] [], .set (.one 7) (.call 10 [(.var 0), (.sub (.var 1) (.con (.int 0))), (.call 7 [(.var 0), (.con (.int 4))])]), .ite (.and (.cmp .Lt (.var 4) (.con (.int 5))) (.one (.cmp .NotEq (.sub (.var 1) (.con (.int 0))) (.lst [])))) [.ret (.tup [(.con (.str "set")), (.sub (.sub (.var 1) (.con (.int 0))) (.call 7 [(.var 0), (.bi .len [(.sub (.var 1) (.con (.int 0)))])])), (.var 7)])] [], .ite (.and (.cmp .Eq (.var 4) (.con (.int 5))) (.one (.not (.var 3)))) [.ret (.tup [(.con (.str "give")), (.var 7)])] [], .ret (.tup [(.sub (.lst [(.con (.str "tell")), (.con (.str "fail"))]) (.bi .int [(.cmp .Eq (.var 4) (.con (.int 6)))])), (.var 7)])]
noncomputable def r__law_row : EV.Row := ⟨"_law_row", top 15, ["_law_pot_here", "_law_room", "_law_deep", "_law_undoing"], ["_law_pot_here", "_law_room", "_law_deep", "_law_undoing", "_law_way", "_law_branches", "_law_k", "_law_one"], ⟨4, 8, b__law_row⟩⟩
noncomputable abbrev b__law_block : List C := [.set (.one 4) (.lst []), .ite (.cmp .Gt (.var 2) (.con (.int 0))) [.forr (.one 5) (.rng none (.sub (.lst [(.con (.int 0)), (.con (.int 1)), (.con (.int 2)), (.con (.int 3)), (.con (.int 1)), (.con (.int 2)), (.con (.int 8))]) (.call 7 [(.var 0), (.con (.int 7))]))) [.ite (.cmp .Gt (.sub (.var 1) (.con (.int 2))) (.con (.int 0))) [.app 4 (.call 13 [(.var 0), (.var 1), (.var 2), (.var 3)])] []]] [], .ret (.bi .tuple [(.var 4)])]
noncomputable def r__law_block : EV.Row := ⟨"_law_block", top 16, ["_law_pot_here", "_law_room", "_law_deep", "_law_undoing"], ["_law_pot_here", "_law_room", "_law_deep", "_law_undoing", "_law_rows", "_law_k"], ⟨4, 6, b__law_block⟩⟩
noncomputable abbrev b__law_program : List C := [.set (.one 3) (.lst []), .forr (.one 4) (.seq (.call 9 [(.var 0), (.bin .Add (.con (.int 1)) (.call 7 [(.var 0), (.var 1)]))])) [.app 3 (.tup [(.var 4), (.bi .tuple [(.call 9 [(.var 0), (.call 7 [(.var 0), (.con (.int 4))])])])])], .set (.one 5) (.lst []), .frz 3, .forr (.tup [4, 6]) (.seq (.var 3)) [.set (.one 7) (.bi .list [(.var 6)]), .forr (.one 8) (.seq (.call 9 [(.var 0), (.call 7 [(.var 0), (.con (.int 4))])])) [.ite (.cmp .NotIn (.var 8) (.var 7)) [.app 7 (.var 8)] []], .frz 3, .frz 7, .set (.one 9) (.box (.lst [(.var 7), (.var 3), (.bi .min2 [(.con (.int 24)), (.var 2)])])), .set (.one 2) (.bin .Sub (.var 2) (.sub (.var 9) (.con (.int 2)))), .app 5 (.tup [(.var 4), (.var 6), (.call 14 [(.var 0), (.var 9), (.con (.int 4)), (.con (.bl false))])]), .set (.one 2) (.bin .Add (.var 2) (.sub (.var 9) (.con (.int 2))))], .ret (.bi .tuple [(.var 5)])]
noncomputable def r__law_program : EV.Row := ⟨"_law_program", top 17, ["_law_pot_here", "_law_most", "_law_left"], ["_law_pot_here", "_law_most", "_law_left", "_law_heads", "_law_title", "_law_errands", "_law_params", "_law_names", "_law_name", "_law_room"], ⟨3, 10, b__law_program⟩⟩
noncomputable abbrev b__law_worth_text : List C := [.ite (.bi (.isinst .tuple) [(.var 0)]) [.ret (.bin .Add (.bin .Add (.bin .Add (.bin .Add (.con (.str "(")) (.call 16 [(.sub (.var 0) (.con (.int 1)))])) (.sub (.var 0) (.con (.int 0)))) (.call 16 [(.sub (.var 0) (.con (.int 2)))])) (.con (.str ")")))] [], .ret (.bi .str [(.var 0)])]
noncomputable def r__law_worth_text : EV.Row := ⟨"_law_worth_text", top 18, ["_law_one"], ["_law_one"], ⟨1, 1, b__law_worth_text⟩⟩
noncomputable abbrev b__law_branch_text : List C := [.set (.tup [1, 2, 3, 4]) (.var 0), .ite (.cmp .Eq (.var 2) (.con (.str "ask"))) [.set (.one 4) (.tup [(.var 4)])] [], .set (.one 5) (.bin .Add (.bin .Add (.var 2) (.con (.str " "))) (.var 3)), .forr (.one 6) (.seq (.var 4)) [.set (.one 5) (.bin .Add (.bin .Add (.var 5) (.con (.str " "))) (.call 16 [(.var 6)]))], .ite (.cmp .Is (.var 1) (.con .non)) [.ret (.var 5)] [], .ret (.bin .Add (.bin .Add (.var 1) (.con (.str " = "))) (.var 5))]
noncomputable def r__law_branch_text : EV.Row := ⟨"_law_branch_text", top 19, ["_law_branch_here"], ["_law_branch_here", "_law_name", "_law_word_here", "_law_whom", "_law_some", "_law_found", "_law_one"], ⟨1, 7, b__law_branch_text⟩⟩
noncomputable abbrev b__law_rows_text : List C := [.set (.one 1) (.lst []), .forr (.one 2) (.seq (.var 0)) [.set (.one 3) (.sub (.var 2) (.con (.int 0))), .set (.one 4) (.var 3), .ite (.cmp .Eq (.var 3) (.con (.str "set"))) [.set (.one 4) (.bin .Add (.bin .Add (.var 4) (.con (.str " "))) (.sub (.var 2) (.con (.int 1))))] [], .ite (.cmp .NotIn (.var 3) (.lst [(.con (.str "try")), (.con (.str "do")), (.con (.str "want"))])) [.set (.one 4) (.bin .Add (.bin .Add (.var 4) (.con (.str " "))) (.call 16 [(.sub (.var 2) (.sub (.lst [(.con (.int 1)), (.con (.int 2))]) (.bi .int [(.cmp .Eq (.var 3) (.con (.str "set")))])))]))] [], .ite (.cmp .Eq (.var 3) (.con (.str "want"))) [.app 1 (.bin .Add (.bin .Add (.var 4) (.con (.str " "))) (.bi .str [(.sub (.var 2) (.con (.int 1)))])), .forr (.one 5) (.seq (.sub (.var 2) (.con (.int 2)))) [.app 1 (.call 17 [(.var 5)])], .set (.one 4) (.con (.str "end"))] [], .app 1 (.var 4), .ite (.cmp .In (.var 3) (.lst [(.con (.str "if")), (.con (.str "while"))])) [.set (.one 1) (.bin .Add (.var 1) (.call 18 [(.sub (.var 2) (.con (.int 2)))]))] [], .ite (.cmp .In (.var 3) (.lst [(.con (.str "try")), (.con (.str "do"))])) [.set (.one 1) (.bin .Add (.var 1) (.call 18 [(.sub (.var 2) (.con (.int 1)))]))] [], .ite (.cmp .In (.var 3) (.lst [(.con (.str "if")), (.con (.str "try")), (.con (.str "do"))])) [.set (.one 4) (.sub (.lst [(.con (.str "else")), (.con (.str "catch")), (.con (.str "undo"))]) (.mth .index (.lst [(.con (.str "if")), (.con (.str "try")), (.con (.str "do"))]) [(.var 3)])), .ite (.and (.cmp .Eq (.var 3) (.con (.str "try"))) (.one (.cmp .IsNot (.sub (.var 2) (.con (.int 2))) (.con .non)))) [.set (.one 4) (.bin .Add (.bin .Add (.var 4) (.con (.str " "))) (.sub (.var 2) (.con (.int 2))))] [], .set (.one 1) (.bin .Add (.bin .Add (.var 1) (.lst [(.var 4)])) (.call 18 [(.sub (.var 2) (.neg (.con (.int 1))))]))] [], .ite (.cmp .In (.var 3) (.lst [(.con (.str "if")), (.con (.str "while")), (.con (.str "try")), (.con (.str "do"))])) [.app 1 (.con (.str "end"))] []], .ret (.var 1)]
noncomputable def r__law_rows_text : EV.Row := ⟨"_law_rows_text", top 20, ["_law_block_here"], ["_law_block_here", "_law_found", "_law_row_here", "_law_word_here", "_law_line", "_law_branch_here"], ⟨1, 6, b__law_rows_text⟩⟩
noncomputable abbrev b__law_lines : List C := [.set (.one 1) (.lst []), .forr (.tup [2, 3, 4]) (.seq (.var 0)) [.app 1 (.mth .join (.con (.str " ")) [(.bin .Add (.lst [(.con (.str "errand")), (.var 2)]) (.bi .list [(.var 3)]))]), .set (.one 1) (.bin .Add (.bin .Add (.var 1) (.call 18 [(.var 4)])) (.lst [(.con (.str "end"))]))], .ret (.var 1)]
noncomputable def r__law_lines : EV.Row := ⟨"_law_lines", top 21, ["_law_program_here"], ["_law_program_here", "_law_found", "_law_title", "_law_params", "_law_block_here"], ⟨1, 5, b__law_lines⟩⟩
noncomputable abbrev b_law : List C := [.set (.one 1) (.call 15 [(.box (.call 6 [(.var 0)])), (.con (.int 6)), (.con (.int 26))]), .set (.one 2) (.call 1 [(.var 1)]), .ite (.or (.not (.bi (.isinst .str) [(.var 2)])) (.one (.cmp .NotEq (.mth .split (.var 2) [(.con (.str "\n"))]) (.call 19 [(.var 1)])))) [.ret (.con (.bl false))] [], .set (.one 3) (.flip (.var 1)), .frz 3, .ite (.cmp .NotEq (.call 1 [(.var 3)]) (.mth .join (.con (.str "\n")) [(.call 19 [(.var 3)])])) [.ret (.con (.bl false))] [], .ret (.cmp .Eq (.callk 1 [0] [(.var 1)]) (.var 2))]
noncomputable def r_law : EV.Row := ⟨"law", top 22, ["_law_script"], ["_law_script", "_law_program_here", "_law_found", "_law_turned"], ⟨1, 4, b_law⟩⟩
noncomputable def rs : List EV.Row := [r_worth_text, r_written, r_block_lines, r_row_lines, r_branch_line, r__law_numbers, r__law_pot, r__law_take, r__law_word, r__law_words, r__law_worth, r__law_branch, r__law_nest, r__law_row, r__law_block, r__law_program, r__law_worth_text, r__law_branch_text, r__law_rows_text, r__law_lines, r_law]
noncomputable def B : Tb := ⟨["worth_text", "written", "block_lines", "row_lines", "branch_line", "_law_numbers", "_law_pot", "_law_take", "_law_word", "_law_words", "_law_worth", "_law_branch", "_law_nest", "_law_row", "_law_block", "_law_program", "_law_worth_text", "_law_branch_text", "_law_rows_text", "_law_lines", "law"], [["one"], ["program"], ["block"], ["row"], ["branch"], ["_law_cell"], ["_law_script"], ["_law_pot_here", "_law_many"], ["_law_pot_here"], ["_law_pot_here", "_law_many"], ["_law_pot_here", "_law_names", "_law_deep"], ["_law_pot_here", "_law_room"], ["_law_pot_here", "_law_room", "_law_way", "_law_deep", "_law_undoing"], ["_law_pot_here", "_law_room", "_law_deep", "_law_undoing"], ["_law_pot_here", "_law_room", "_law_deep", "_law_undoing"], ["_law_pot_here", "_law_most", "_law_left"], ["_law_one"], ["_law_branch_here"], ["_law_block_here"], ["_law_program_here"], ["_law_script"]], [], ["abs", "int", "isinstance", "len", "list", "min", "range", "str", "sum", "tuple"], [(1, ["program"], [0])]⟩
theorem k_worth_text : RowOk B r_worth_text := ⟨by decide +kernel, by decide +kernel, rfl, rfl, fun _ _ _ _ _ _ us hl => by obtain ⟨a0, e⟩ := ln1 hl; subst e; rfl⟩
theorem k_written : RowOk B r_written := ⟨by decide +kernel, by decide +kernel, rfl, rfl, fun _ _ _ _ _ _ us hl => by obtain ⟨a0, e⟩ := ln1 hl; subst e; rfl⟩
theorem k_block_lines : RowOk B r_block_lines := ⟨by decide +kernel, by decide +kernel, rfl, rfl, fun _ _ _ _ _ _ us hl => by obtain ⟨a0, e⟩ := ln1 hl; subst e; rfl⟩
theorem k_row_lines : RowOk B r_row_lines := ⟨by decide +kernel, by decide +kernel, rfl, rfl, fun _ _ _ _ _ _ us hl => by obtain ⟨a0, e⟩ := ln1 hl; subst e; rfl⟩
theorem k_branch_line : RowOk B r_branch_line := ⟨by decide +kernel, by decide +kernel, rfl, rfl, fun _ _ _ _ _ _ us hl => by obtain ⟨a0, e⟩ := ln1 hl; subst e; rfl⟩
theorem k__law_numbers : RowOk B r__law_numbers := ⟨by decide +kernel, by decide +kernel, rfl, rfl, fun _ _ _ _ _ _ us hl => by obtain ⟨a0, e⟩ := ln1 hl; subst e; rfl⟩
theorem k__law_pot : RowOk B r__law_pot := ⟨by decide +kernel, by decide +kernel, rfl, rfl, fun _ _ _ _ _ _ us hl => by obtain ⟨a0, e⟩ := ln1 hl; subst e; rfl⟩
theorem k__law_take : RowOk B r__law_take := ⟨by decide +kernel, by decide +kernel, rfl, rfl, fun _ _ _ _ _ _ us hl => by obtain ⟨a0, a1, e⟩ := ln2 hl; subst e; rfl⟩
theorem k__law_word : RowOk B r__law_word := ⟨by decide +kernel, by decide +kernel, rfl, rfl, fun _ _ _ _ _ _ us hl => by obtain ⟨a0, e⟩ := ln1 hl; subst e; rfl⟩
theorem k__law_words : RowOk B r__law_words := ⟨by decide +kernel, by decide +kernel, rfl, rfl, fun _ _ _ _ _ _ us hl => by obtain ⟨a0, a1, e⟩ := ln2 hl; subst e; rfl⟩
theorem k__law_worth : RowOk B r__law_worth := ⟨by decide +kernel, by decide +kernel, rfl, rfl, fun _ _ _ _ _ _ us hl => by obtain ⟨a0, a1, a2, e⟩ := ln3 hl; subst e; rfl⟩
theorem k__law_branch : RowOk B r__law_branch := ⟨by decide +kernel, by decide +kernel, rfl, rfl, fun _ _ _ _ _ _ us hl => by obtain ⟨a0, a1, e⟩ := ln2 hl; subst e; rfl⟩
theorem k__law_nest : RowOk B r__law_nest := ⟨by decide +kernel, by decide +kernel, rfl, rfl, fun _ _ _ _ _ _ us hl => by obtain ⟨a0, a1, a2, a3, a4, e⟩ := ln5 hl; subst e; rfl⟩
theorem k__law_row : RowOk B r__law_row := ⟨by decide +kernel, by decide +kernel, rfl, rfl, fun _ _ _ _ _ _ us hl => by obtain ⟨a0, a1, a2, a3, e⟩ := ln4 hl; subst e; rfl⟩
theorem k__law_block : RowOk B r__law_block := ⟨by decide +kernel, by decide +kernel, rfl, rfl, fun _ _ _ _ _ _ us hl => by obtain ⟨a0, a1, a2, a3, e⟩ := ln4 hl; subst e; rfl⟩
theorem k__law_program : RowOk B r__law_program := ⟨by decide +kernel, by decide +kernel, rfl, rfl, fun _ _ _ _ _ _ us hl => by obtain ⟨a0, a1, a2, e⟩ := ln3 hl; subst e; rfl⟩
theorem k__law_worth_text : RowOk B r__law_worth_text := ⟨by decide +kernel, by decide +kernel, rfl, rfl, fun _ _ _ _ _ _ us hl => by obtain ⟨a0, e⟩ := ln1 hl; subst e; rfl⟩
theorem k__law_branch_text : RowOk B r__law_branch_text := ⟨by decide +kernel, by decide +kernel, rfl, rfl, fun _ _ _ _ _ _ us hl => by obtain ⟨a0, e⟩ := ln1 hl; subst e; rfl⟩
theorem k__law_rows_text : RowOk B r__law_rows_text := ⟨by decide +kernel, by decide +kernel, rfl, rfl, fun _ _ _ _ _ _ us hl => by obtain ⟨a0, e⟩ := ln1 hl; subst e; rfl⟩
theorem k__law_lines : RowOk B r__law_lines := ⟨by decide +kernel, by decide +kernel, rfl, rfl, fun _ _ _ _ _ _ us hl => by obtain ⟨a0, e⟩ := ln1 hl; subst e; rfl⟩
theorem k_law : RowOk B r_law := ⟨by decide +kernel, by decide +kernel, rfl, rfl, fun _ _ _ _ _ _ us hl => by obtain ⟨a0, e⟩ := ln1 hl; subst e; rfl⟩
theorem rows_ok : AllR (RowOk B) rs := ⟨k_worth_text, k_written, k_block_lines, k_row_lines, k_branch_line, k__law_numbers, k__law_pot, k__law_take, k__law_word, k__law_words, k__law_worth, k__law_branch, k__law_nest, k__law_row, k__law_block, k__law_program, k__law_worth_text, k__law_branch_text, k__law_rows_text, k__law_lines, k_law, True.intro⟩
theorem kws_ok : AllR (KwOk rs) B.kws := ⟨⟨by decide, fun r hr => by
 cases hr
 exact fun _ _ _ _ _ _ us hl => by obtain ⟨a0, e⟩ := ln1 hl; subst e; rfl⟩, True.intro⟩
theorem tabs : Tabs B rs := ⟨rfl, rfl, rows_ok, kws_ok⟩
noncomputable def wh : Nat := 400
noncomputable def F := fnsOf rs
theorem w_worth_text {k : Nat} {x0 : D} {S : Store} {V : Po} (h : wpCs (callW F wh k) wh b_worth_text [.sh x0] (told V) S) : callW F wh (k + 1) 0 [x0] V S := wp_def rfl rfl rfl h
theorem w_written {k : Nat} {x0 : D} {S : Store} {V : Po} (h : wpCs (callW F wh k) wh b_written [.sh x0, .no, .no] (told V) S) : callW F wh (k + 1) 1 [x0] V S := wp_def rfl rfl rfl h
theorem w_block_lines {k : Nat} {x0 : D} {S : Store} {V : Po} (h : wpCs (callW F wh k) wh b_block_lines [.sh x0, .no, .no] (told V) S) : callW F wh (k + 1) 2 [x0] V S := wp_def rfl rfl rfl h
theorem w_row_lines {k : Nat} {x0 : D} {S : Store} {V : Po} (h : wpCs (callW F wh k) wh b_row_lines [.sh x0, .no, .no] (told V) S) : callW F wh (k + 1) 3 [x0] V S := wp_def rfl rfl rfl h
theorem w_branch_line {k : Nat} {x0 : D} {S : Store} {V : Po} (h : wpCs (callW F wh k) wh b_branch_line [.sh x0, .no, .no] (told V) S) : callW F wh (k + 1) 4 [x0] V S := wp_def rfl rfl rfl h
theorem w__law_numbers {k : Nat} {x0 : D} {S : Store} {V : Po} (h : wpCs (callW F wh k) wh b__law_numbers [.sh x0, .no, .no, .no, .no] (told V) S) : callW F wh (k + 1) 5 [x0] V S := wp_def rfl rfl rfl h
theorem w__law_pot {k : Nat} {x0 : D} {S : Store} {V : Po} (h : wpCs (callW F wh k) wh b__law_pot [.sh x0, .no, .no] (told V) S) : callW F wh (k + 1) 6 [x0] V S := wp_def rfl rfl rfl h
theorem w__law_take {k : Nat} {x0 x1 : D} {S : Store} {V : Po} (h : wpCs (callW F wh k) wh b__law_take [.sh x0, .sh x1, .no] (told V) S) : callW F wh (k + 1) 7 [x0, x1] V S := wp_def rfl rfl rfl h
theorem w__law_word {k : Nat} {x0 : D} {S : Store} {V : Po} (h : wpCs (callW F wh k) wh b__law_word [.sh x0, .no, .no, .no] (told V) S) : callW F wh (k + 1) 8 [x0] V S := wp_def rfl rfl rfl h
theorem w__law_words {k : Nat} {x0 x1 : D} {S : Store} {V : Po} (h : wpCs (callW F wh k) wh b__law_words [.sh x0, .sh x1, .no, .no, .no] (told V) S) : callW F wh (k + 1) 9 [x0, x1] V S := wp_def rfl rfl rfl h
theorem w__law_worth {k : Nat} {x0 x1 x2 : D} {S : Store} {V : Po} (h : wpCs (callW F wh k) wh b__law_worth [.sh x0, .sh x1, .sh x2, .no, .no, .no] (told V) S) : callW F wh (k + 1) 10 [x0, x1, x2] V S := wp_def rfl rfl rfl h
theorem w__law_branch {k : Nat} {x0 x1 : D} {S : Store} {V : Po} (h : wpCs (callW F wh k) wh b__law_branch [.sh x0, .sh x1, .no, .no, .no, .no, .no] (told V) S) : callW F wh (k + 1) 11 [x0, x1] V S := wp_def rfl rfl rfl h
theorem w__law_nest {k : Nat} {x0 x1 x2 x3 x4 : D} {S : Store} {V : Po} (h : wpCs (callW F wh k) wh b__law_nest [.sh x0, .sh x1, .sh x2, .sh x3, .sh x4, .no, .no, .no] (told V) S) : callW F wh (k + 1) 12 [x0, x1, x2, x3, x4] V S := wp_def rfl rfl rfl h
theorem w__law_row {k : Nat} {x0 x1 x2 x3 : D} {S : Store} {V : Po} (h : wpCs (callW F wh k) wh b__law_row [.sh x0, .sh x1, .sh x2, .sh x3, .no, .no, .no, .no] (told V) S) : callW F wh (k + 1) 13 [x0, x1, x2, x3] V S := wp_def rfl rfl rfl h
theorem w__law_block {k : Nat} {x0 x1 x2 x3 : D} {S : Store} {V : Po} (h : wpCs (callW F wh k) wh b__law_block [.sh x0, .sh x1, .sh x2, .sh x3, .no, .no] (told V) S) : callW F wh (k + 1) 14 [x0, x1, x2, x3] V S := wp_def rfl rfl rfl h
theorem w__law_program {k : Nat} {x0 x1 x2 : D} {S : Store} {V : Po} (h : wpCs (callW F wh k) wh b__law_program [.sh x0, .sh x1, .sh x2, .no, .no, .no, .no, .no, .no, .no] (told V) S) : callW F wh (k + 1) 15 [x0, x1, x2] V S := wp_def rfl rfl rfl h
theorem w__law_worth_text {k : Nat} {x0 : D} {S : Store} {V : Po} (h : wpCs (callW F wh k) wh b__law_worth_text [.sh x0] (told V) S) : callW F wh (k + 1) 16 [x0] V S := wp_def rfl rfl rfl h
theorem w__law_branch_text {k : Nat} {x0 : D} {S : Store} {V : Po} (h : wpCs (callW F wh k) wh b__law_branch_text [.sh x0, .no, .no, .no, .no, .no, .no] (told V) S) : callW F wh (k + 1) 17 [x0] V S := wp_def rfl rfl rfl h
theorem w__law_rows_text {k : Nat} {x0 : D} {S : Store} {V : Po} (h : wpCs (callW F wh k) wh b__law_rows_text [.sh x0, .no, .no, .no, .no, .no] (told V) S) : callW F wh (k + 1) 18 [x0] V S := wp_def rfl rfl rfl h
theorem w__law_lines {k : Nat} {x0 : D} {S : Store} {V : Po} (h : wpCs (callW F wh k) wh b__law_lines [.sh x0, .no, .no, .no, .no] (told V) S) : callW F wh (k + 1) 19 [x0] V S := wp_def rfl rfl rfl h
theorem w_law {k : Nat} {x0 : D} {S : Store} {V : Po} (h : wpCs (callW F wh k) wh b_law [.sh x0, .no, .no, .no] (told V) S) : callW F wh (k + 1) 20 [x0] V S := wp_def rfl rfl rfl h
end Q07
local macro_rules | `(tactic| omega) => `(tactic| first | decide | with_reducible exact EV.om1 ‹_› (by with_unfolding_all rfl) | with_reducible exact EV.om2 ‹_› (by with_unfolding_all rfl) | with_reducible exact EV.om3 ‹_› (by with_unfolding_all rfl) | lia | omega (config := {}))
open EV in
local macro_rules | `(tactic| infer_instance) => `(tactic| first
 | ((with_reducible apply rdv_s); (exact rfl))
 | ((with_reducible apply rdv_o); (exact rfl))
 | ((with_reducible apply sel_s); (exact rfl))
 | ((with_reducible apply sel_o); (exact rfl))
 | ((with_reducible apply kp_s); (exact rfl))
 | ((with_reducible apply kp_f); (exact rfl))
 | ((with_reducible apply opv_s); (first | exact rfl | exact addt_op (by simp <;> omega) | exact mulr_op rfl | exact mul_op rfl | exact mul_op (small_mod (by decide) (by decide))))
 | ((with_reducible apply opv_f); (exact rfl))
 | ((with_reducible apply opt_mk); (first | exact put_str (by decide) (by decide) | exact rfl | exact tup_at (by decide) rfl | exact lst_at (by decide) rfl))
 | ((with_reducible apply ops_mk); (exact rfl); (try simp only [List.foldl, List.zip, List.zipWith, List.set, Bool.false_eq_true, if_true, if_false]))
 | ((with_reducible apply bl_mk); (exact rfl))
 | ((with_reducible apply isn_mk); (exact rfl))
 | ((with_reducible apply isf_mk); (exact rfl))
 | ((with_reducible apply tst_T); (first | with_reducible rfl | decide | (focus (simp only [isNone, deref, eqP, eqPs, beq_self_eq_true, Bool.not_true, Bool.not_false, Bool.and_true, Bool.true_and]; done)) | (dsimp only [deref]; decide) | (refine fits_of ?_; (try simp only [List.length_append, List.length_map, List.length_cons, List.length_nil]) <;> omega)))
 | ((with_reducible apply tst_F); (first | with_reducible rfl | decide | (focus (simp only [isNone, deref, eqP, eqPs, beq_self_eq_true, Bool.not_true, Bool.not_false, Bool.and_true, Bool.true_and]; done)) | (dsimp only [deref]; decide)))
 | ((with_reducible apply bx_f); (exact rfl))
 | ((with_reducible apply rv_s); (exact rfl))
 | ((with_reducible apply rv_f); (exact rfl))
 | ((with_reducible apply owl_mk); (exact rfl))
 | ((with_reducible apply owd_mk); (exact rfl))
 | ((with_reducible apply cel_mk); (exact rfl))
 | ((with_reducible apply isr_mk); (exact rfl))
 | ((with_reducible apply cs_cons); (dsimp only [wpC, e_var, e_con, e_glo, e_bin, e_neg, e_cmp, e_chn, e_not, e_and, e_or, e_ite, e_tup, e_lst, e_dic, e_sub, e_slc, e_bi, e_bi2, e_mth, e_call, e_callk, e_callv, e_box, e_one, e_flip, wpEs, wpO, wpF, wpI, List.set, fz, List.getElem?_cons_zero, List.getElem?_cons_succ, Option.getD]))
 | (with_reducible apply cs_nil)
 | (with_reducible apply th_next)
 | (with_reducible apply th_ret)
 | (with_reducible apply th_brk)
 | (with_reducible apply th_cnt)
 | (with_reducible apply to_s)
 | (with_reducible apply to_f)
 | (with_reducible apply to_next)
 | (with_reducible apply tu_next)
 | (with_reducible apply tu_cnt)
 | (with_reducible apply tu_brk)
 | (with_reducible apply tu_ret))
local macro_rules | `(tactic| nofun) => `(tactic| (repeat infer_instance))
namespace Q07
open PySem L2 EV
theorem map_snoc {ns : List Int} {v : Int} : ns.map D.int ++ [.int v] = (ns ++ [v]).map D.int := by rw [List.map_append]; rfl
noncomputable def pK (ns : List Int) (a m : Int) : D := .lst [.lst (ns.map D.int), .int a, .int m]
structure PotOk (a m : Int) : Prop where
 a0 : 0 <= a
 m0 : 0 <= m
 m1 : m < 2147483629
theorem take_ok {many : Int} (hm : 0 < many) {K : Nat} (hK : 1 <= K) {ns : List Int} {a m : Int} {T : Store} (p : PotOk a m) : callW F wh K 7 [.ref 0, .int many] (fun q S => ∃ x a' m', q = (.int x, .st) /\ 0 <= x /\ x < many /\ PotOk a' m' /\ S = pK ns a' m' :: T) (pK ns a m :: T) := by
 obtain ⟨k, rfl⟩ : ∃ k, K = k + 1 := ⟨K - 1, by omega⟩
 have ha := p.a0
 refine w__law_take ?_
 nofun
 refine tst_mk (fun h => ?_) (fun h => ?_)
 ·obtain ⟨x, _, hx⟩ := ints_get p.a0 (by simpa using h)
  nofun
  refine opt_mk hx ?_
  nofun
  refine opv_s (mod_op hm) ?_
  nofun
  exact ⟨_, a + 1, m, rfl, Int.emod_nonneg _ (by omega), Int.emod_lt_of_pos _ hm, ⟨by omega, p.m0, p.m1⟩, rfl⟩
 ·nofun
  refine opv_s (mul_op (small_of p.m0 (by have := p.m1; omega))) ?_
  nofun
  refine opv_s (mod_op hm) ?_
  nofun
  exact ⟨_, a + 1, (m * m + 40692 + a) % 2147483629, rfl, Int.emod_nonneg _ (by omega), Int.emod_lt_of_pos _ hm, ⟨by omega, Int.emod_nonneg _ (by omega), Int.emod_lt_of_pos _ (by omega)⟩, rfl⟩
theorem rng_mem {lo hi : Int} {d : D} (h : d ∈ rangeD lo hi) : ∃ j, d = .int j /\ lo <= j /\ j < hi := by
 unfold rangeD at h
 obtain ⟨k, hk, rfl⟩ := List.mem_map.mp h
 have := List.mem_range.mp hk
 exact ⟨_, rfl, by omega, by omega⟩
theorem numbers_ok (c : Int) {K : Nat} (hK : 1 <= K) (S : Store) : callW F wh K 5 [.int c] (fun q S' => S' = S /\ ∃ ns : List Int, ns.length <= 60 /\ q = (.lst (ns.map D.int), .fr)) S := by
 obtain ⟨k, rfl⟩ : ∃ k, K = k + 1 := ⟨K - 1, by omega⟩
 refine w__law_numbers ?_
 nofun
 refine tst_mk (fun h => ?_) (fun h => ?_)
 ·nofun
  refine wp_walk (fun l ρ S' => S' = S /\ ∃ (ns : List Int) (left : Int) (x3 x4 : Slot), ρ = [.sh (.int c), .ow (.lst (ns.map D.int)), .sh (.int left), x3, x4] /\ ns.length + l.length <= 60) ?_ ?_ _ _ _ ⟨rfl, [], _, .no, .no, rfl, by decide⟩
  ·rintro d l ρ S' ⟨rfl, ns, left, x3, x4, rfl, hl⟩
   have hl' : ns.length + (l.length + 1) <= 60 := hl
   nofun
   refine tst_mk (fun h1 => ?_) (fun h1 => ?_)
   ·nofun
    exact ⟨rfl, _, _, _, _, by rw [map_snoc], by simp; omega⟩
   ·nofun
    exact ⟨rfl, _, _, _, _, rfl, by omega⟩
  ·rintro ρ S' ⟨rfl, ns, left, x3, x4, rfl, hl⟩
   have hl : ns.length <= 60 := by simpa using hl
   nofun
   exact ⟨rfl, ns, by omega, rfl⟩
 ·nofun
  refine wp_walk (fun l ρ S' => S' = S /\ ∃ (ns : List Int) (x2 x3 x4 : Slot), ρ = [.sh (.int c), .ow (.lst (ns.map D.int)), x2, x3, x4] /\ ns.length + l.length <= 8 /\ ∀ d ∈ l, ∃ j, d = .int j /\ 0 <= j /\ j < 8) ?_ ?_ _ _ _ ⟨rfl, [], _, .no, .no, rfl, by decide, fun d hd => rng_mem hd⟩
  ·rintro d l ρ S' ⟨rfl, ns, x2, x3, x4, rfl, hl, hd⟩
   have hl' : ns.length + (l.length + 1) <= 8 := hl
   obtain ⟨j, rfl, j0, j1⟩ := hd d (List.mem_cons_self ..)
   nofun
   refine opv_s (mulr_op (small_of j0 (by omega))) ?_
   nofun
   refine ⟨rfl, _, _, _, _, by rw [map_snoc], by simp; omega, fun d hx => hd d (List.mem_cons_of_mem _ hx)⟩
  ·rintro ρ S' ⟨rfl, ns, x2, x3, x4, rfl, hl, _⟩
   have hl : ns.length <= 8 := by simpa using hl
   nofun
   exact ⟨rfl, ns, by omega, rfl⟩
theorem pot_ok (cs : List Int) (hc : cs.length <= 63) {K : Nat} (hK : 2 <= K) (S : Store) : callW F wh K 6 [.scr cs] (fun q S' => S' = S /\ ∃ ns m, q = (pK ns 0 m, .fr) /\ PotOk 0 m) S := by
 obtain ⟨k, rfl⟩ : ∃ k, K = k + 1 := ⟨K - 1, by omega⟩
 refine w__law_pot ?_
 nofun
 obtain ⟨zs, ez, hz⟩ := cut_map cs none (some 63)
 rw [ez]
 refine wp_walk (fun l ρ S' => S' = S /\ ∃ (ns : List Int) (x2 : Slot) (ys : List Int), l = ys.map D.int /\ ρ = [.sh (.scr cs), .ow (.lst (ns.map D.int)), x2] /\ ns.length + 60 * ys.length <= 3780) ?_ ?_ _ _ _ ⟨rfl, [], .no, zs, rfl, rfl, by simp; omega⟩
 ·rintro d l ρ S' ⟨rfl, ns, x2, ys, el, rfl, hl⟩
  cases ys with
  | nil => cases el
  | cons j ys =>
   cases el
   have hl' : ns.length + 60 * (ys.length + 1) <= 3780 := hl
   nofun
   refine wp_mono (numbers_ok j (K := k) (by omega) _) ?_
   rintro _ _ ⟨rfl, ms, hm, rfl⟩
   nofun
   refine opv_f (addl_op (by simp; omega)) ?_
   nofun
   exact ⟨rfl, ns ++ ms, _, ys, rfl, by rw [<- List.map_append], by simp; omega⟩
 ·rintro ρ S' ⟨rfl, ns, x2, ys, el, rfl, hl⟩
  have fin : ∀ (ms : List Int) (ρ : List Slot), ρ = [.sh (.scr cs), .ow (.lst (ms.map D.int)), x2] -> wpCs (callW F wh k) wh (b__law_pot.drop 3) ρ (told fun q S'' => S'' = S' /\ ∃ ns m, q = (pK ns 0 m, .fr) /\ PotOk 0 m) S' := by
   rintro ms _ rfl
   show wpCs _ _ [_, _] _ _ _
   nofun
   refine opv_s (d := .int ms.sum) (by show ((intsD (ms.map D.int)).map _).map _ = _; rw [intsD_map]; rfl) ?_
   nofun
   exact ⟨rfl, ms, _, rfl, by decide, Int.emod_nonneg _ (by decide), Int.emod_lt_of_pos _ (by decide)⟩
  nofun
  refine opt_mk (eq_op (okPs_ints 59 ns) rfl) ?_
  nofun
  refine tst_mk (fun h => ?_) (fun h => ?_)
  ·nofun
   refine wp_mono (numbers_ok 0 (K := k) (by omega) _) ?_
   rintro _ _ ⟨rfl, ms, hm, rfl⟩
   repeat first | exact fin ms _ rfl | infer_instance
  ·repeat first | exact fin ns _ rfl | infer_instance
end Q07
namespace Q07
open PySem L2 EV
noncomputable def lows (s : Str) : Prop := ∀ c ∈ s.cps.toList, 97 <= c /\ c <= 122
structure Wd (s : Str) : Prop where
 lo : 1 <= s.length
 hi : s.length <= 8
 ab : lows s
noncomputable def wdB (s : Str) : Bool := decide (1 <= s.length) && decide (s.length <= 8) && s.cps.toList.all fun c => decide (97 <= c) && decide (c <= 122)
theorem wd_of {s : Str} (h : wdB s = true) : Wd s := by
 unfold wdB at h
 simp only [Bool.and_eq_true, decide_eq_true_eq, List.all_eq_true] at h
 exact ⟨h.1.1, h.1.2, fun c hc => h.2 c hc⟩
noncomputable def kwL : List Str := ["end", "ask", "call", "set", "if", "errand", "catch", "undo", "else", "want", "try", "do", "tell", "give", "fail", "while"]
theorem kw_wd : ∀ s ∈ kwL, Wd s := by
 have : kwL.all wdB = true := by decide +kernel
 intro s hs
 exact wd_of (List.all_eq_true.mp this s hs)
theorem kw_at {v : Int} (h0 : 0 <= v) (h : v < 16) : ∃ s ∈ kwL, subD (.lst (kwL.map D.str)) (.int v) = some (.str s) := by
 have hl : v.toNat < kwL.length := by show v.toNat < 16; omega
 refine ⟨kwL[v.toNat], List.getElem_mem hl, lst_at h0 ?_⟩
 rw [List.getElem?_map, List.getElem?_eq_getElem hl]; rfl
noncomputable abbrev abc : Str := "abcdefghijklmnopqrstuvwxyz"
theorem abc_is : abc.cps.toList = (List.range 26).map (97 + ·) := by decide +kernel
theorem abc_at {v : Int} (h0 : 0 <= v) (h : v < 26) : subD (.str abc) (.int v) = some (.str ⟨#[97 + v.toNat]⟩) := by
 show (if fits abc.length = true then (idx abc.cps.toList.length v).bind fun k => (abc.cps.toList[k]?).map fun c => D.str ⟨#[c]⟩ else none) = _
 rw [if_pos (by decide), abc_is, idx_at h0 (by simp; omega)]
 show ((((List.range 26).map (97 + ·))[v.toNat]?).map fun c => D.str ⟨#[c]⟩) = _
 rw [List.getElem?_map, List.getElem?_range (by omega)]
 rfl
theorem a_cut {v : Int} (h0 : 0 <= v) (h : v < 8) : Wd (Txt.slice "aaaaaaaa" none (some (1 + v))) := by
 have hc : v = 0 \/ v = 1 \/ v = 2 \/ v = 3 \/ v = 4 \/ v = 5 \/ v = 6 \/ v = 7 := by omega
 rcases hc with rfl | rfl | rfl | rfl | rfl | rfl | rfl | rfl <;> exact wd_of (by decide +kernel)
theorem lows_nil : lows "" := fun c hc => by
 have e : ("" : Str).cps.toList = [] := by decide +kernel
 rw [e] at hc
 cases hc
theorem lows_snoc {s : Str} {v : Nat} (h : lows s) (hv : v < 26) : lows (s ++ ⟨#[97 + v]⟩) /\ (s ++ ⟨#[97 + v]⟩).length = s.length + 1 := by
 constructor
 ·intro c hc
  rw [Str.cps_append, Array.toList_append, List.mem_append] at hc
  rcases hc with hc | hc
  ·exact h c hc
  ·simp at hc
   omega
 ·rw [Str.length_append]; rfl
theorem word_ok {K : Nat} (hK : 2 <= K) {ns : List Int} {a m : Int} {T : Store} (p : PotOk a m) : callW F wh K 8 [.ref 0] (fun q S => ∃ s a' m', q = (.str s, .st) /\ Wd s /\ PotOk a' m' /\ S = pK ns a' m' :: T) (pK ns a m :: T) := by
 obtain ⟨K, rfl⟩ : ∃ k, K = k + 1 := ⟨K - 1, by omega⟩
 refine w__law_word ?_
 nofun
 refine wp_mono (take_ok (by decide) (by omega) p) ?_
 rintro _ _ ⟨w, a1, m1, rfl, w0, w1, p1, rfl⟩
 nofun
 refine tst_mk (fun h => ?_) (fun h => ?_)
 ·nofun
  refine wp_mono (take_ok (by decide) (by omega) p1) ?_
  rintro _ _ ⟨v, a2, m2, rfl, v0, v1, p2, rfl⟩
  obtain ⟨s, hs, e⟩ := kw_at v0 v1
  refine opt_mk e ?_
  nofun
  exact ⟨s, a2, m2, rfl, kw_wd s hs, p2, rfl⟩
 ·nofun
  refine tst_mk (fun h1 => ?_) (fun h1 => ?_)
  ·nofun
   refine wp_mono (take_ok (by decide) (by omega) p1) ?_
   rintro _ _ ⟨v, a2, m2, rfl, v0, v1, p2, rfl⟩
   nofun
   exact ⟨_, a2, m2, rfl, a_cut v0 v1, p2, rfl⟩
  ·nofun
   refine wp_mono (take_ok (by decide) (by omega) p1) ?_
   rintro _ _ ⟨v, a2, m2, rfl, v0, v1, p2, rfl⟩
   nofun
   have hw : w = 2 \/ w = 3 := by
    have := ne_of_beq_false (show (w == 0) = false from h)
    have := ne_of_beq_false (show (w == 1) = false from h1)
    omega
   have loop : ∀ (n : Int), 1 <= n -> n <= 8 -> ∀ ρ, ρ = [.sh (.ref 0), .sh (.int w), .sh (.str ""), .no] -> forW (.one 3) (fun ρ => wpCs (callW F wh K) wh [.set (.one 2) (.bin .Add (.var 2) (.sub (.con (.str "abcdefghijklmnopqrstuvwxyz")) (.call 7 [(.var 0), (.con (.int 26))])))] ρ) (rangeD 0 n) ρ (nxt (fun ρ' S' => wpCs (callW F wh K) wh [.ret (.var 2)] ρ' (told fun q S => ∃ s a' m', q = (.str s, .st) /\ Wd s /\ PotOk a' m' /\ S = pK ns a' m' :: T) S') (told fun q S => ∃ s a' m', q = (.str s, .st) /\ Wd s /\ PotOk a' m' /\ S = pK ns a' m' :: T)) (pK ns a2 m2 :: T) := by
    intro n n1 n8 ρ hρ
    refine wp_walk (fun l ρ S' => ∃ (j : Int) (s : Str) (a m : Int) (x3 : Slot), l = rangeD j n /\ j = s.length /\ j <= n /\ lows s /\ PotOk a m /\ S' = pK ns a m :: T /\ ρ = [.sh (.ref 0), .sh (.int w), .sh (.str s), x3]) ?_ ?_ _ _ _ ⟨0, "", a2, m2, .no, rfl, rfl, by omega, lows_nil, p2, rfl, hρ⟩
    ·rintro d l ρ S' ⟨j, s, a, m, x3, el, ej, hj, hs, p, rfl, rfl⟩
     by_cases hn : j < n
     ·rw [rng_cons hn] at el
      cases el
      nofun
      refine wp_mono (take_ok (by decide) (by omega) p) ?_
      rintro _ _ ⟨u, a3, m3, rfl, u0, u1, p3, rfl⟩
      refine opt_mk (abc_at u0 u1) ?_
      obtain ⟨g1, g2⟩ := lows_snoc (s := s) (v := u.toNat) hs (by omega)
      refine opv_s (d := .str (s ++ ⟨#[97 + u.toNat]⟩)) ?_ ?_
      ·show (if fits (s.length + (⟨#[97 + u.toNat]⟩ : Str).length) = true then _ else _) = _
       rw [if_pos (fits_of (by show s.length + 1 <= _; omega))]
      nofun
      exact ⟨j + 1, _, a3, m3, _, rfl, by rw [g2]; omega, by omega, g1, p3, rfl, rfl⟩
     ·rw [rng_nil (by omega)] at el
      cases el
    ·rintro ρ S' ⟨j, s, a, m, x3, el, ej, hj, hs, p, rfl, rfl⟩
     nofun
     by_cases hn : j < n
     ·rw [rng_cons hn] at el
      cases el
     ·exact ⟨s, a, m, rfl, ⟨by omega, by omega, hs⟩, p, rfl⟩
   rcases hw with rfl | rfl
   ·nofun
    exact loop 1 (by decide) (by decide) _ rfl
   ·nofun
    refine tst_T (by simp [fits, LIM]; omega) ?_
    exact loop (1 + v) (by omega) (by omega) _ rfl
end Q07
namespace Q07
open PySem L2 EV
noncomputable abbrev LS (ws : List Str) : D := .lst (ws.map D.str)
theorem sc_strs : ∀ (ws : List Str), (ws.map D.str).all isSc = true
 | [] => rfl
 | _ :: ws => by
  show (true && (ws.map D.str).all isSc) = true
  rw [sc_strs ws]; rfl
theorem okPs_strs (n : Nat) : ∀ (ws : List Str), okPs n (ws.map D.str) = true
 | [] => rfl
 | w :: ws => by
  show (okP n (.str w) && okPs n (ws.map D.str)) = true
  rw [okPs_strs n ws]
  cases n <;> rfl
theorem notin_op (s : Str) (ws : List Str) : cmpD .NotIn (.str s) (LS ws) = some (!((ws.map D.str).any fun y => eqP y (.str s))) := by
 show ((if (isSc (.str s) && (ws.map D.str).all isSc) = true then some ((ws.map D.str).any fun y => eqP y (.str s)) else none).map (!·)) = _
 rw [sc_strs]; rfl
theorem str_snoc (ws : List Str) (s : Str) : ws.map D.str ++ [D.str s] = (ws ++ [s]).map D.str := by rw [List.map_append]; rfl
theorem words_ok {many : Int} (h0 : 0 <= many) (h1 : many <= 1000) {K : Nat} (hK : 3 <= K) {ns : List Int} {a m : Int} {T : Store} (p : PotOk a m) : callW F wh K 9 [.ref 0, .int many] (fun q S => ∃ ws a' m', q = (LS ws, .fr) /\ (∀ s ∈ ws, Wd s) /\ (ws.length : Int) <= many /\ (0 < many -> ws ≠ []) /\ PotOk a' m' /\ S = pK ns a' m' :: T) (pK ns a m :: T) := by
 obtain ⟨K, rfl⟩ : ∃ k, K = k + 1 := ⟨K - 1, by omega⟩
 refine w__law_words ?_
 nofun
 refine tst_T (by simp [fits, LIM]; omega) ?_
 refine wp_walk (fun l ρ S' => ∃ (j : Int) (ws : List Str) (a m : Int) (x3 x4 : Slot), l = rangeD j many /\ 0 <= j /\ j <= many /\ (ws.length : Int) <= j /\ (∀ s ∈ ws, Wd s) /\ (0 < j -> ws ≠ []) /\ PotOk a m /\ S' = pK ns a m :: T /\ ρ = [.sh (.ref 0), .sh (.int many), .ow (LS ws), x3, x4]) ?_ ?_ _ _ _ ⟨0, [], a, m, .no, .no, rfl, by omega, h0, by simp, (fun s hs => nomatch hs), (fun h => absurd h (by decide)), p, rfl, rfl⟩
 ·rintro d l ρ S' ⟨j, ws, a, m, x3, x4, el, j0, jm, hl, hw, hn, p, rfl, rfl⟩
  by_cases hj : j < many
  ·rw [rng_cons hj] at el
   cases el
   nofun
   refine wp_mono (word_ok (by omega) p) ?_
   rintro _ _ ⟨s, a2, m2, rfl, ws1, p2, rfl⟩
   nofun
   refine opt_mk (notin_op s ws) ?_
   nofun
   refine tst_mk (fun h => ?_) (fun h => ?_)
   ·nofun
    rw [str_snoc]
    exact ⟨j + 1, ws ++ [s], a2, m2, _, _, rfl, by omega, by omega, by simp; omega, fun z hz => by
     rcases List.mem_append.mp hz with hz | hz
     ·exact hw z hz
     ·rw [List.mem_singleton.mp hz]; exact ws1, fun _ => by simp, p2, rfl, rfl⟩
   ·nofun
    exact ⟨j + 1, ws, a2, m2, _, _, rfl, by omega, by omega, by omega, hw, (fun _ e => by subst e; cases h), p2, rfl, rfl⟩
  ·rw [rng_nil (by omega)] at el
   cases el
 ·rintro ρ S' ⟨j, ws, a, m, x3, x4, el, j0, jm, hl, hw, hn, p, rfl, rfl⟩
  nofun
  by_cases hj : j < many
  ·rw [rng_cons hj] at el
   cases el
  ·have e : j = many := by omega
   subst e
   exact ⟨ws, a, m, rfl, hw, hl, hn, p, rfl⟩
noncomputable def In (n : Int) : Prop := 0 <= n /\ n < 1000000007
inductive Ex where
 | nm (s : Str) | num (n : Int) | op (g : Str) (a b : Ex)
noncomputable def Ex.toD : Ex -> D
 | .nm s => .str s
 | .num n => .int n
 | .op g a b => .tup [.str g, a.toD, b.toD]
noncomputable def sgL : List Str := ["+", "-", "*", "<", "="]
noncomputable def Ex.Ok : Nat -> Ex -> Prop
 | _, .nm s => Wd s
 | _, .num n => In n
 | 0, .op _ _ _ => False
 | k + 1, .op g a b => g ∈ sgL /\ a.Ok k /\ b.Ok k
theorem sg_at {v : Int} (h0 : 0 <= v) (h : v < 5) : ∃ s ∈ sgL, subD (.str "+-*<=") (.int v) = some (.str s) := by
 have hc : v = 0 \/ v = 1 \/ v = 2 \/ v = 3 \/ v = 4 := by omega
 rcases hc with rfl | rfl | rfl | rfl | rfl
 ·exact ⟨"+", by simp [sgL], by with_unfolding_all rfl⟩
 ·exact ⟨"-", by simp [sgL], by with_unfolding_all rfl⟩
 ·exact ⟨"*", by simp [sgL], by with_unfolding_all rfl⟩
 ·exact ⟨"<", by simp [sgL], by with_unfolding_all rfl⟩
 ·exact ⟨"=", by simp [sgL], by with_unfolding_all rfl⟩
theorem strs_at {ws : List Str} {v : Int} (h0 : 0 <= v) (h : v < ((ws.map D.str).length : Int)) : ∃ s ∈ ws, subD (LS ws) (.int v) = some (.str s) := by
 rw [List.length_map] at h
 have hl : v.toNat < ws.length := by omega
 refine ⟨ws[v.toNat], List.getElem_mem hl, lst_at h0 ?_⟩
 rw [List.getElem?_map, List.getElem?_eq_getElem hl]; rfl
theorem lf_ok : ∀ {k : Nat} {e : Ex}, e.Ok 0 -> e.Ok k
 | 0, _, h => h
 | k + 1, .nm s, h => h
 | k + 1, .num n, h => h
 | k + 1, .op _ _ _, h => h.elim
end Q07
namespace Q07
open PySem L2 EV
theorem ins_e : ∀ (e : Ex), isIns e.toD = false
 | .nm _ => rfl
 | .num _ => rfl
 | .op _ _ _ => rfl
theorem bind1 {ρ : List Slot} {i : Nat} {d : D} (hi : i < ρ.length) (h : isIns d = false) : bindV ρ (.one i) (d, .st) = some (ρ.set i (.sh d)) := by
 show (if (decide (i < ρ.length) && !isIns d) = true then some (ρ.set i (if false = true then .ow d else .sh d)) else none) = _
 rw [h, decide_eq_true hi]; rfl
theorem gen_ok {ws : List Str} (hw : ∀ s ∈ ws, Wd s) {ns : List Int} {T : Store} : ∀ (k : Nat) (a m : Int) (K : Nat), PotOk a m -> k + 2 <= K -> callW F wh K 10 [.ref 0, LS ws, .int k] (fun q S => ∃ (e : Ex) (a' m' : Int), q = (e.toD, .st) /\ e.Ok k /\ PotOk a' m' /\ S = pK ns a' m' :: T) (pK ns a m :: T) := by
 have leaf : ∀ (k : Nat) (w a m : Int) (K : Nat), 1 <= K -> 0 <= w -> PotOk a m -> ∀ ρ, ρ = [.sh (.ref 0), .sh (LS ws), .sh (.int k), .sh (.int w), .no, .no] -> wpCs (callW F wh K) wh (b__law_worth.drop 2) ρ (told fun q S => ∃ (e : Ex) (a' m' : Int), q = (e.toD, .st) /\ e.Ok k /\ PotOk a' m' /\ S = pK ns a' m' :: T) (pK ns a m :: T) := by
  intro k w a m K hK hw0 p ρ hρ
  subst hρ
  have rest : ∀ ρ, ρ = [.sh (.ref 0), .sh (LS ws), .sh (.int k), .sh (.int w), .no, .no] -> wpCs (callW F wh K) wh (b__law_worth.drop 3) ρ (told fun q S => ∃ (e : Ex) (a' m' : Int), q = (e.toD, .st) /\ e.Ok k /\ PotOk a' m' /\ S = pK ns a' m' :: T) (pK ns a m :: T) := by
   rintro _ rfl
   show wpCs _ _ [_, _, _, _] _ _ _
   nofun
   refine tst_mk (fun h => ?_) (fun h => ?_)
   ·nofun
    refine wp_mono (take_ok (by decide) hK p) ?_
    rintro _ _ ⟨v, a2, m2, rfl, v0, v1, p2, rfl⟩
    nofun
    exact ⟨.num v, a2, m2, rfl, lf_ok (k := k) (e := .num v) ⟨v0, by omega⟩, p2, rfl⟩
   ·nofun
    refine tst_mk (fun h => ?_) (fun h => ?_)
    ·nofun
     refine wp_mono (take_ok (by decide) hK p) ?_
     rintro _ _ ⟨v, a2, m2, rfl, v0, v1, p2, rfl⟩
     nofun
     exact ⟨.num _, a2, m2, rfl, lf_ok (k := k) (e := .num _) ⟨by omega, by omega⟩, p2, rfl⟩
    ·nofun
     refine wp_mono (take_ok (by decide) hK p) ?_
     rintro _ _ ⟨v, a2, m2, rfl, v0, v1, p2, rfl⟩
     nofun
     refine wp_mono (take_ok (by decide) hK p2) ?_
     rintro _ _ ⟨u, a3, m3, rfl, u0, u1, p3, rfl⟩
     nofun
     exact ⟨.num _, a3, m3, rfl, lf_ok (k := k) (e := .num _) ⟨Int.emod_nonneg _ (by decide), Int.emod_lt_of_pos _ (by decide)⟩, p3, rfl⟩
  show wpCs _ _ [_, _, _, _, _] _ _ _
  nofun
  refine tst_mk (fun h => ?_) (fun h => ?_)
  ·nofun
   refine opt_mk (ne_op (okPs_strs 59 ws) rfl) ?_
   nofun
   cases ws with
   | nil =>
    repeat first | exact rest _ rfl | infer_instance
   | cons s ws =>
    nofun
    refine wp_mono (take_ok (by simp) hK p) ?_
    rintro _ _ ⟨v, a2, m2, rfl, v0, v1, p2, rfl⟩
    obtain ⟨z, hz, e⟩ := strs_at (ws := s :: ws) v0 v1
    refine opt_mk e ?_
    nofun
    exact ⟨.nm z, a2, m2, rfl, lf_ok (k := k) (e := .nm z) (hw z hz), p2, rfl⟩
  ·repeat first | exact rest _ rfl | infer_instance
 intro k
 induction k with
 | zero =>
  intro a m K p hK
  obtain ⟨K, rfl⟩ : ∃ k, K = k + 1 := ⟨K - 1, by omega⟩
  refine w__law_worth ?_
  nofun
  refine wp_mono (take_ok (by decide) (by omega) p) ?_
  rintro _ _ ⟨w, a1, m1, rfl, w0, w1, p1, rfl⟩
  repeat first | exact leaf 0 w a1 m1 K (by omega) w0 p1 _ rfl | infer_instance
 | succ k ih =>
  intro a m K p hK
  obtain ⟨K, rfl⟩ : ∃ k, K = k + 1 := ⟨K - 1, by omega⟩
  refine w__law_worth ?_
  nofun
  refine wp_mono (take_ok (by decide) (by omega) p) ?_
  rintro _ _ ⟨w, a1, m1, rfl, w0, w1, p1, rfl⟩
  nofun
  refine tst_T (decide_eq_true (by omega)) ?_
  nofun
  refine tst_mk (fun h => ?_) (fun h => ?_)
  ·nofun
   refine wp_mono (take_ok (by decide) (by omega) p1) ?_
   rintro _ _ ⟨v, a2, m2, rfl, v0, v1, p2, rfl⟩
   obtain ⟨g, hg, e⟩ := sg_at v0 v1
   refine opt_mk e ?_
   nofun
   rw [show ((k + 1 : Nat) : Int) - 1 = (k : Int) by omega]
   refine wp_mono (ih a2 m2 K p2 (by omega)) ?_
   rintro _ _ ⟨e1, a3, m3, rfl, o1, p3, rfl⟩
   refine ops_mk (bind1 (by simp) (ins_e e1)) ?_
   simp only [List.set]
   nofun
   rw [show ((k + 1 : Nat) : Int) - 1 = (k : Int) by omega]
   refine wp_mono (ih a3 m3 K p3 (by omega)) ?_
   rintro _ _ ⟨e2, a4, m4, rfl, o2, p4, rfl⟩
   nofun
   exact ⟨.op g e1 e2, a4, m4, rfl, ⟨hg, o1, o2⟩, p4, rfl⟩
  ·repeat first | exact leaf (k + 1) w a1 m1 K (by omega) w0 p1 _ rfl | infer_instance
end Q07
namespace Q07
open PySem L2 EV
noncomputable def hD (h : Str × List Str) : D := .tup [.str h.1, .tup (h.2.map D.str)]
noncomputable def rK (ws : List Str) (hs : List (Str × List Str)) (n : Int) : D := .lst [LS ws, .lst (hs.map hD), .int n]
section
variable {T : Store} {p x : D} {ws : List Str} {hs : List (Str × List Str)} {n : Int}
theorem at_end : (p :: (T ++ [x]))[T.length + 1]? = some x := by simp
theorem set_end {y : D} : (p :: (T ++ [x])).set (T.length + 1) y = p :: (T ++ [y]) := by simp
theorem der_end : deref (p :: (T ++ [x])) (.ref (T.length + 1)) = x := by
 show (((p :: (T ++ [x]))[T.length + 1]?).getD .non) = x
 rw [at_end]; rfl
theorem r0 : subD (deref (p :: (T ++ [rK ws hs n])) (.ref (T.length + 1))) (.int 0) = some (LS ws) := by rw [der_end]; rfl
theorem r1 : subD (deref (p :: (T ++ [rK ws hs n])) (.ref (T.length + 1))) (.int 1) = some (.lst (hs.map hD)) := by rw [der_end]; rfl
theorem r2 : subD (deref (p :: (T ++ [rK ws hs n])) (.ref (T.length + 1))) (.int 2) = some (.int n) := by rw [der_end]; rfl
end
noncomputable def oD : Option Str -> D
 | none => .non
 | some s => .str s
theorem ins_o : ∀ (o : Option Str), isIns (oD o) = false
 | none => rfl
 | some _ => rfl
theorem opt_at {ws : List Str} {v : Int} (h0 : 0 <= v) (h : v < (((ws.map D.str).length : Int) + 1)) : ∃ o : Option Str, (∀ s, o = some s -> s ∈ ws) /\ subD (.lst (ws.map D.str ++ [.non])) (.int v) = some (oD o) := by
 rw [List.length_map] at h
 by_cases hl : v.toNat < ws.length
 ·refine ⟨some ws[v.toNat], fun s e => by cases e; exact List.getElem_mem hl, lst_at h0 ?_⟩
  rw [List.getElem?_append_left (by rw [List.length_map]; exact hl), List.getElem?_map, List.getElem?_eq_getElem hl]; rfl
 ·refine ⟨none, fun s e => (by cases e), lst_at h0 ?_⟩
  have e : v.toNat = (ws.map D.str).length := by rw [List.length_map]; omega
  rw [e, List.getElem?_append_right (Nat.le_refl _), Nat.sub_self]; rfl
theorem heads_at {hs : List (Str × List Str)} {v : Int} (h0 : 0 <= v) (h : v < ((hs.map hD).length : Int)) : ∃ z ∈ hs, subD (.lst (hs.map hD)) (.int v) = some (hD z) := by
 rw [List.length_map] at h
 have hl : v.toNat < hs.length := by omega
 refine ⟨hs[v.toNat], List.getElem_mem hl, lst_at h0 ?_⟩
 rw [List.getElem?_map, List.getElem?_eq_getElem hl]; rfl
theorem ok_mono : ∀ {k j : Nat} {e : Ex}, k <= j -> e.Ok k -> e.Ok j
 | k, 0, .nm s, _, h => by cases k <;> exact h
 | k, j + 1, .nm s, _, h => by cases k <;> exact h
 | k, 0, .num n, _, h => by cases k <;> exact h
 | k, j + 1, .num n, _, h => by cases k <;> exact h
 | 0, _, .op _ _ _, _, h => h.elim
 | k + 1, 0, .op _ _ _, q, h => by omega
 | k + 1, j + 1, .op g a b, q, h => ⟨h.1, ok_mono (by omega) h.2.1, ok_mono (by omega) h.2.2⟩
inductive Br where
 | ask (n : Option Str) (w : Str) (e : Ex) | call (n : Option Str) (t : Str) (es : List Ex)
noncomputable def Br.toD : Br -> D
 | .ask n w e => .tup [oD n, .str "ask", .str w, e.toD]
 | .call n t es => .tup [oD n, .str "call", .str t, .tup (es.map Ex.toD)]
noncomputable def Br.Ok : Br -> Prop
 | .ask n w e => (∀ s, n = some s -> Wd s) /\ Wd w /\ e.Ok 3
 | .call n t es => (∀ s, n = some s -> Wd s) /\ Wd t /\ es.length <= 3 /\ ∀ e ∈ es, e.Ok 3
structure RmOk (ws : List Str) (hs : List (Str × List Str)) : Prop where
 nm : ∀ s ∈ ws, Wd s
 few : ws.length <= 1000
 ne : hs ≠ []
 hd : ∀ z ∈ hs, Wd z.1 /\ z.2.length <= 3
theorem branch_ok {ws : List Str} {hs : List (Str × List Str)} {n : Int} (r : RmOk ws hs) {K : Nat} (hK : 6 <= K) {ns : List Int} {a m : Int} {T : Store} (p : PotOk a m) : callW F wh K 11 [.ref 0, .ref (T.length + 1)] (fun q S => ∃ (b : Br) (a' m' : Int), q = (b.toD, .st) /\ b.Ok /\ PotOk a' m' /\ S = pK ns a' m' :: (T ++ [rK ws hs n])) (pK ns a m :: (T ++ [rK ws hs n])) := by
 obtain ⟨K, rfl⟩ : ∃ k, K = k + 1 := ⟨K - 1, by omega⟩
 refine w__law_branch ?_
 nofun
 refine opt_mk r0 ?_
 nofun
 refine opv_f (addl_op (by have := r.few; simp; omega)) ?_
 nofun
 refine opt_mk r0 ?_
 nofun
 refine wp_mono (take_ok (by omega) (by omega) p) ?_
 rintro _ _ ⟨v, a1, m1, rfl, v0, v1, p1, rfl⟩
 obtain ⟨o, ho, e⟩ := opt_at v0 v1
 have hwo : ∀ s, o = some s -> Wd s := fun s e => r.nm s (ho s e)
 refine opt_mk e ?_
 refine ops_mk (bind1 (by simp) (ins_o o)) ?_
 simp only [List.set]
 nofun
 refine wp_mono (take_ok (by decide) (by omega) p1) ?_
 rintro _ _ ⟨u, a2, m2, rfl, u0, u1, p2, rfl⟩
 nofun
 refine tst_mk (fun h => ?_) (fun h => ?_)
 ·nofun
  refine wp_mono (word_ok (by omega) p2) ?_
  rintro _ _ ⟨s, a3, m3, rfl, hs1, p3, rfl⟩
  nofun
  refine opt_mk r0 ?_
  nofun
  refine wp_mono (take_ok (by decide) (by omega) p3) ?_
  rintro _ _ ⟨k, a4, m4, rfl, k0, k1, p4, rfl⟩
  obtain ⟨k, rfl⟩ : ∃ j : Nat, k = j := ⟨k.toNat, by omega⟩
  nofun
  refine wp_mono (gen_ok r.nm k a4 m4 K p4 (by omega)) ?_
  rintro _ _ ⟨x, a5, m5, rfl, ox, p5, rfl⟩
  nofun
  exact ⟨.ask o s x, a5, m5, rfl, ⟨hwo, hs1, ok_mono (by omega) ox⟩, p5, rfl⟩
 ·nofun
  refine opt_mk r1 ?_
  nofun
  refine opt_mk r1 ?_
  nofun
  refine wp_mono (take_ok (by have := r.ne; cases hs with | nil => exact absurd rfl this | cons z l => simp) (by omega) p2) ?_
  rintro _ _ ⟨k, a3, m3, rfl, k0, k1, p3, rfl⟩
  obtain ⟨z, hz, ez⟩ := heads_at k0 k1
  obtain ⟨hz1, hz2⟩ := r.hd z hz
  refine opt_mk ez ?_
  nofun
  refine wp_lc ?_
  dsimp only [wpI, e_var]
  nofun
  refine wp_comp (c_mono (call_mono _)) (fun l acc S' => ∃ (ps : List Str) (es : List Ex) (a m : Int), l = ps.map D.str /\ acc = es.map Ex.toD /\ es.length + ps.length = z.2.length /\ (∀ e ∈ es, e.Ok 3) /\ PotOk a m /\ S' = pK ns a m :: (T ++ [rK ws hs n])) ?_ ?_ _ _ _ ⟨z.2, [], a3, m3, rfl, rfl, by simp, (fun e he => nomatch he), p3, rfl⟩
  ·rintro d l acc S' ⟨ps, es, a, m, el, rfl, hl, he, p, rfl⟩
   cases ps with
   | nil => cases el
   | cons s ps =>
    cases el
    refine ops_mk rfl ?_
    dsimp only [wpF, e_call, wpEs, e_sub, e_var, e_con]
    nofun
    refine opt_mk r0 ?_
    nofun
    refine wp_mono (take_ok (by decide) (by omega) p) ?_
    rintro _ _ ⟨k, a4, m4, rfl, k0, k1, p4, rfl⟩
    obtain ⟨k, rfl⟩ : ∃ j : Nat, k = j := ⟨k.toNat, by omega⟩
    nofun
    refine wp_mono (gen_ok r.nm k a4 m4 K p4 (by omega)) ?_
    rintro _ _ ⟨x, a5, m5, rfl, ox, p5, rfl⟩
    have hl' : es.length + (ps.length + 1) = z.2.length := hl
    nofun
    exact ⟨ps, es ++ [x], a5, m5, rfl, by rw [List.map_append]; rfl, by simp; omega, (fun e h => by
     rcases List.mem_append.mp h with h | h
     ·exact he e h
     ·rw [List.mem_singleton.mp h]; exact ok_mono (by omega) ox), p5, rfl⟩
  ·rintro acc S' ⟨ps, es, a, m, el, rfl, hl, he, p, rfl⟩
   nofun
   exact ⟨.call o z.1 es, a, m, rfl, ⟨hwo, hz1, by omega, he⟩, p, rfl⟩
end Q07
namespace Q07
open PySem L2 EV
inductive Rw where
 | set (s : Str) (e : Ex) | one (w : Str) (e : Ex) | iff (e : Ex) (b c : List Rw) | whl (e : Ex) (b : List Rw) | tri (b : List Rw) (n : Option Str) (c : List Rw) | doo (b c : List Rw) | want (k : Int) (bs : List Br)
mutual
noncomputable def Rw.toD : Rw -> D
 | .set s e => .tup [.str "set", .str s, e.toD]
 | .one w e => .tup [.str w, e.toD]
 | .iff e b c => .tup [.str "if", e.toD, .tup (rowsD b), .tup (rowsD c)]
 | .whl e b => .tup [.str "while", e.toD, .tup (rowsD b)]
 | .tri b n c => .tup [.str "try", .tup (rowsD b), oD n, .tup (rowsD c)]
 | .doo b c => .tup [.str "do", .tup (rowsD b), .tup (rowsD c)]
 | .want k bs => .tup [.str "want", .int k, .tup (bs.map Br.toD)]
noncomputable def rowsD : List Rw -> List D
 | [] => []
 | r :: l => r.toD :: rowsD l
end
mutual
noncomputable def Rw.size : Rw -> Nat
 | .iff _ b c => 1 + (sizes b + sizes c)
 | .whl _ b => 1 + sizes b
 | .tri b _ c => 1 + (sizes b + sizes c)
 | .doo b c => 1 + (sizes b + sizes c)
 | _ => 1
noncomputable def sizes : List Rw -> Nat
 | [] => 0
 | r :: l => r.size + sizes l
end
mutual
noncomputable def Rw.Ok : Rw -> Prop
 | .set s e => Wd s /\ e.Ok 3
 | .one w e => (w = "tell" \/ w = "give" \/ w = "fail") /\ e.Ok 3
 | .iff e b c => e.Ok 3 /\ oks b /\ oks c
 | .whl e b => e.Ok 3 /\ oks b
 | .tri b n c => oks b /\ (∀ s, n = some s -> Wd s) /\ oks c
 | .doo b c => oks b /\ oks c
 | .want k bs => 1 <= k /\ k <= bs.length /\ bs.length <= 4 /\ ∀ b ∈ bs, b.Ok
noncomputable def oks : List Rw -> Prop
 | [] => True
 | r :: l => r.Ok /\ oks l
end
theorem rows_len : ∀ (l : List Rw), (rowsD l).length = l.length
 | [] => rfl
 | r :: l => by show (rowsD l).length + 1 = _; rw [rows_len l]; rfl
theorem rows_snoc : ∀ (l : List Rw) (r : Rw), rowsD l ++ [r.toD] = rowsD (l ++ [r])
 | [], r => rfl
 | x :: l, r => by show x.toD :: (rowsD l ++ [r.toD]) = _; rw [rows_snoc l r]; rfl
theorem sizes_snoc : ∀ (l : List Rw) (r : Rw), sizes (l ++ [r]) = sizes l + r.size
 | [], r => by show r.size + 0 = 0 + r.size; omega
 | x :: l, r => by show x.size + sizes (l ++ [r]) = x.size + sizes l + r.size; rw [sizes_snoc l r]; omega
theorem oks_snoc : ∀ (l : List Rw) (r : Rw), oks l -> r.Ok -> oks (l ++ [r])
 | [], r, _, h => ⟨h, trivial⟩
 | x :: l, r, h, k => ⟨h.1, oks_snoc l r h.2 k⟩
noncomputable def Bk (ns : List Int) (T : Store) (ws : List Str) (hs : List (Str × List Str)) (n : Int) (q : Vl) (S : Store) : Prop :=
 ∃ (l : List Rw) (a m n' : Int), q = (.tup (rowsD l), .st) /\ oks l /\ 0 <= n' /\ (sizes l : Int) + n' = n /\ PotOk a m /\ S = pK ns a m :: (T ++ [rK ws hs n'])
noncomputable def BkAt (ns : List Int) (T : Store) (ws : List Str) (hs : List (Str × List Str)) (k K : Nat) : Prop := ∀ (a m n : Int) (u : Bool), PotOk a m -> 0 <= n -> callW F wh K 14 [.ref 0, .ref (T.length + 1), .int k, .bl u] (Bk ns T ws hs n) (pK ns a m :: (T ++ [rK ws hs n]))
noncomputable def Rk (ns : List Int) (T : Store) (ws : List Str) (hs : List (Str × List Str)) (n : Int) (q : Vl) (S : Store) : Prop :=
 ∃ (r : Rw) (a m n' : Int), q = (r.toD, .st) /\ r.Ok /\ 0 <= n' /\ (r.size : Int) + n' = n /\ PotOk a m /\ S = pK ns a m :: (T ++ [rK ws hs n'])
theorem nest_ok {ns : List Int} {T : Store} {ws : List Str} {hs : List (Str × List Str)} (r : RmOk ws hs) {k K : Nat} (hb : BkAt ns T ws hs k K) (hK : 6 <= K) {a m n w : Int} {u : Bool} (p : PotOk a m) (hn : 0 <= n) : callW F wh (K + 1) 12 [.ref 0, .ref (T.length + 1), .int w, .int k, .bl u] (Rk ns T ws hs (n + 1)) (pK ns a m :: (T ++ [rK ws hs n])) := by
 refine w__law_nest ?_
 nofun
 refine tst_mk (fun h => ?_) (fun h => ?_)
 ·nofun
  refine wp_mono (hb a m n u p hn) ?_
  rintro _ _ ⟨l1, a1, m1, n1, rfl, o1, h1, z1, p1, rfl⟩
  nofun
  refine wp_mono (hb a1 m1 n1 true p1 h1) ?_
  rintro _ _ ⟨l2, a2, m2, n2, rfl, o2, h2, z2, p2, rfl⟩
  nofun
  exact ⟨.doo l1 l2, a2, m2, n2, rfl, ⟨o1, o2⟩, h2, by show ((1 + (sizes l1 + sizes l2) : Nat) : Int) + n2 = n + 1; omega, p2, rfl⟩
 ·nofun
  refine tst_mk (fun h => ?_) (fun h => ?_)
  ·nofun
   refine wp_mono (hb a m n u p hn) ?_
   rintro _ _ ⟨l1, a1, m1, n1, rfl, o1, h1, z1, p1, rfl⟩
   nofun
   refine opt_mk r0 ?_
   nofun
   refine opv_f (addl_op (by have := r.few; simp; omega)) ?_
   nofun
   refine opt_mk r0 ?_
   nofun
   refine wp_mono (take_ok (by omega) (by omega) p1) ?_
   rintro _ _ ⟨v, a2, m2, rfl, v0, v1, p2, rfl⟩
   obtain ⟨o, ho, e⟩ := opt_at v0 v1
   refine opt_mk e ?_
   refine ops_mk (bind1 (by simp) (ins_o o)) ?_
   simp only [List.set]
   nofun
   refine wp_mono (hb a2 m2 n1 u p2 h1) ?_
   rintro _ _ ⟨l2, a3, m3, n2, rfl, o2, h2, z2, p3, rfl⟩
   nofun
   exact ⟨.tri l1 o l2, a3, m3, n2, rfl, ⟨o1, fun s e => r.nm s (ho s e), o2⟩, h2, by show ((1 + (sizes l1 + sizes l2) : Nat) : Int) + n2 = n + 1; omega, p3, rfl⟩
  ·nofun
   refine opt_mk r0 ?_
   nofun
   refine wp_mono (take_ok (by decide) (by omega) p) ?_
   rintro _ _ ⟨j, a1, m1, rfl, j0, j1, p1, rfl⟩
   obtain ⟨j, rfl⟩ : ∃ i : Nat, j = i := ⟨j.toNat, by omega⟩
   nofun
   refine wp_mono (gen_ok r.nm j a1 m1 K p1 (by omega)) ?_
   rintro _ _ ⟨x, a2, m2, rfl, ox, p2, rfl⟩
   have ox := ok_mono (show j <= 3 by omega) ox
   refine ops_mk (bind1 (by simp) (ins_e x)) ?_
   simp only [List.set]
   nofun
   refine wp_mono (hb a2 m2 n u p2 hn) ?_
   rintro _ _ ⟨l1, a3, m3, n1, rfl, o1, h1, z1, p3, rfl⟩
   nofun
   refine tst_mk (fun h => ?_) (fun h => ?_)
   ·nofun
    exact ⟨.whl x l1, a3, m3, n1, rfl, ⟨ox, o1⟩, h1, by show ((1 + sizes l1 : Nat) : Int) + n1 = n + 1; omega, p3, rfl⟩
   ·nofun
    refine wp_mono (hb a3 m3 n1 u p3 h1) ?_
    rintro _ _ ⟨l2, a4, m4, n2, rfl, o2, h2, z2, p4, rfl⟩
    nofun
    exact ⟨.iff x l1 l2, a4, m4, n2, rfl, ⟨ox, o1, o2⟩, h2, by show ((1 + (sizes l1 + sizes l2) : Nat) : Int) + n2 = n + 1; omega, p4, rfl⟩
end Q07
namespace Q07
open PySem L2 EV
theorem brs_snoc (bs : List Br) (b : Br) : bs.map Br.toD ++ [b.toD] = (bs ++ [b]).map Br.toD := by rw [List.map_append]; rfl
theorem row_ok {ns : List Int} {T : Store} {ws : List Str} {hs : List (Str × List Str)} (r : RmOk ws hs) {k K : Nat} (hb : BkAt ns T ws hs k K) (hK : 6 <= K) {a m n : Int} {u : Bool} (p : PotOk a m) (hn : 1 <= n) : callW F wh (K + 2) 13 [.ref 0, .ref (T.length + 1), .int (k + 1 : Nat), .bl u] (Rk ns T ws hs n) (pK ns a m :: (T ++ [rK ws hs n])) := by
 refine w__law_row ?_
 nofun
 refine opt_mk r2 ?_
 nofun
 refine opt_mk at_end ?_
 refine opt_mk (show putD (rK ws hs n) (.int 2) (.int (n - 1)) = some (rK ws hs (n - 1)) from rfl) ?_
 rw [set_end]
 nofun
 refine wp_mono (take_ok (by decide) (by omega) p) ?_
 rintro _ _ ⟨w, a1, m1, rfl, w0, w1, p1, rfl⟩
 nofun
 refine tst_mk (fun h => ?_) (fun h => ?_)
 ·nofun
  refine wp_mono (take_ok (by decide) (by omega) p1) ?_
  rintro _ _ ⟨c, a2, m2, rfl, c0, c1, p2, rfl⟩
  nofun
  refine tst_T (by simp [fits, LIM]; omega) ?_
  refine wp_walk (fun l ρ S' => ∃ (j : Int) (bs : List Br) (a m : Int) (x6 : Slot), l = rangeD j (1 + c) /\ j = bs.length /\ j <= 1 + c /\ (∀ b ∈ bs, b.Ok) /\ PotOk a m /\ S' = pK ns a m :: (T ++ [rK ws hs (n - 1)]) /\ ρ = [.sh (.ref 0), .sh (.ref (T.length + 1)), .sh (.int (k + 1 : Nat)), .sh (.bl u), .sh (.int w), .ow (.lst (bs.map Br.toD)), x6, .no]) ?_ ?_ _ _ _ ⟨0, [], a2, m2, .no, rfl, rfl, by omega, (fun b h => nomatch h), p2, rfl, rfl⟩
  ·rintro d l ρ S' ⟨j, bs, a, m, x6, el, ej, hj, hbs, p, rfl, rfl⟩
   by_cases hc : j < 1 + c
   ·rw [rng_cons hc] at el
    cases el
    nofun
    refine wp_mono (branch_ok r (by omega) p) ?_
    rintro _ _ ⟨b, a3, m3, rfl, ob, p3, rfl⟩
    nofun
    rw [brs_snoc]
    exact ⟨j + 1, bs ++ [b], a3, m3, _, rfl, by simp; omega, by omega, (fun z hz => by
     rcases List.mem_append.mp hz with hz | hz
     ·exact hbs z hz
     ·rw [List.mem_singleton.mp hz]; exact ob), p3, rfl, rfl⟩
   ·rw [rng_nil (by omega)] at el
    cases el
  ·rintro ρ S' ⟨j, bs, a, m, x6, el, ej, hj, hbs, p, rfl, rfl⟩
   have hc : j = 1 + c := by
    by_cases hc : j < 1 + c
    ·rw [rng_cons hc] at el
     cases el
    ·omega
   nofun
   refine wp_mono (take_ok (by rw [List.length_map]; omega) (by omega) p) ?_
   rintro _ _ ⟨v, a3, m3, rfl, v0, v1, p3, rfl⟩
   rw [List.length_map] at v1
   nofun
   exact ⟨.want (1 + v) bs, a3, m3, n - 1, rfl, ⟨by omega, by omega, by omega, hbs⟩, by omega, by show ((1 : Nat) : Int) + (n - 1) = n; omega, p3, rfl⟩
 ·nofun
  refine tst_mk (fun h => ?_) (fun h => ?_)
  ·nofun
   rw [show ((k + 1 : Nat) : Int) - 1 = (k : Int) by omega]
   refine wp_mono (nest_ok r hb hK p1 (show 0 <= n - 1 by omega)) ?_
   rintro _ _ ⟨x, a2, m2, n2, rfl, ox, h2, z2, p2, rfl⟩
   nofun
   exact ⟨x, a2, m2, n2, rfl, ox, h2, by omega, p2, rfl⟩
  ·nofun
   refine opt_mk r0 ?_
   nofun
   refine wp_mono (take_ok (by decide) (by omega) p1) ?_
   rintro _ _ ⟨j, a2, m2, rfl, j0, j1, p2, rfl⟩
   obtain ⟨j, rfl⟩ : ∃ i : Nat, j = i := ⟨j.toNat, by omega⟩
   nofun
   refine wp_mono (gen_ok r.nm j a2 m2 (K + 1) p2 (by omega)) ?_
   rintro _ _ ⟨x, a3, m3, rfl, ox, p3, rfl⟩
   have ox := ok_mono (show j <= 3 by omega) ox
   refine ops_mk (bind1 (by simp) (ins_e x)) ?_
   simp only [List.set]
   have rest : ∀ ρ, ρ = [.sh (.ref 0), .sh (.ref (T.length + 1)), .sh (.int (k + 1 : Nat)), .sh (.bl u), .sh (.int w), .no, .no, .sh x.toD] -> wpCs (callW F wh (K + 1)) wh (b__law_row.drop 6) ρ (told (Rk ns T ws hs n)) (pK ns a3 m3 :: (T ++ [rK ws hs (n - 1)])) := by
    rintro _ rfl
    show wpCs _ _ [_, _] _ _ _
    have last : ∀ ρ, ρ = [.sh (.ref 0), .sh (.ref (T.length + 1)), .sh (.int (k + 1 : Nat)), .sh (.bl u), .sh (.int w), .no, .no, .sh x.toD] -> wpCs (callW F wh (K + 1)) wh (b__law_row.drop 7) ρ (told (Rk ns T ws hs n)) (pK ns a3 m3 :: (T ++ [rK ws hs (n - 1)])) := by
     rintro _ rfl
     show wpCs _ _ [_] _ _ _
     nofun
     have hf : (∃ b, (w == 6) = b) := ⟨_, rfl⟩
     obtain ⟨b, eb⟩ := hf
     have e2 : ∃ z : Str, (z = "tell" \/ z = "give" \/ z = "fail") /\ subD (.lst [.str "tell", .str "fail"]) (.int (if (w == 6) = true then 1 else 0)) = some (.str z) := by
      rw [eb]
      cases b
      ·exact ⟨"tell", .inl rfl, rfl⟩
      ·exact ⟨"fail", .inr (.inr rfl), rfl⟩
     obtain ⟨z, hz, e3⟩ := e2
     refine opt_mk e3 ?_
     nofun
     exact ⟨.one z x, a3, m3, n - 1, rfl, ⟨hz, ox⟩, by omega, by show ((1 : Nat) : Int) + (n - 1) = n; omega, p3, rfl⟩
    nofun
    refine tst_mk (fun h => ?_) (fun h => ?_)
    ·nofun
     cases u with
     | false =>
      nofun
      exact ⟨.one "give" x, a3, m3, n - 1, rfl, ⟨.inr (.inl rfl), ox⟩, by omega, by show ((1 : Nat) : Int) + (n - 1) = n; omega, p3, rfl⟩
     | true => repeat first | exact last _ rfl | infer_instance
    ·repeat first | exact last _ rfl | infer_instance
   nofun
   refine tst_mk (fun h => ?_) (fun h => ?_)
   ·nofun
    refine opt_mk r0 ?_
    nofun
    refine opt_mk (ne_op (okPs_strs 59 ws) rfl) ?_
    nofun
    cases hws : ws with
    | nil => subst hws; repeat first | exact rest _ rfl | infer_instance
    | cons s wr =>
     rw [<- hws]
     refine tst_T (by rw [hws]; rfl) ?_
     nofun
     refine opt_mk r0 ?_
     nofun
     refine opt_mk r0 ?_
     nofun
     refine wp_mono (take_ok (by rw [hws]; simp) (by omega) p3) ?_
     rintro _ _ ⟨v, a4, m4, rfl, v0, v1, p4, rfl⟩
     obtain ⟨z, hz, e⟩ := strs_at v0 v1
     refine opt_mk e ?_
     nofun
     exact ⟨.set z x, a4, m4, n - 1, rfl, ⟨r.nm z hz, ox⟩, by omega, by show ((1 : Nat) : Int) + (n - 1) = n; omega, p4, rfl⟩
   ·repeat first | exact rest _ rfl | infer_instance
end Q07
namespace Q07
open PySem L2 EV
theorem many_at {v : Int} (h0 : 0 <= v) (h : v < 7) : ∃ c : Int, 0 <= c /\ c <= 8 /\ subD (.lst [.int 0, .int 1, .int 2, .int 3, .int 1, .int 2, .int 8]) (.int v) = some (.int c) := by
 have hc : v = 0 \/ v = 1 \/ v = 2 \/ v = 3 \/ v = 4 \/ v = 5 \/ v = 6 := by omega
 rcases hc with rfl | rfl | rfl | rfl | rfl | rfl | rfl <;> exact ⟨_, by decide, by decide, rfl⟩
theorem block_ok {ns : List Int} {T : Store} {ws : List Str} {hs : List (Str × List Str)} (r : RmOk ws hs) : ∀ (k K : Nat), 3 * k + 7 <= K -> BkAt ns T ws hs k K := by
 intro k
 induction k with
 | zero =>
  intro K hK a m n u p hn
  obtain ⟨K, rfl⟩ : ∃ k, K = k + 1 := ⟨K - 1, by omega⟩
  refine w__law_block ?_
  nofun
  exact ⟨[], a, m, n, rfl, trivial, hn, by show ((0 : Nat) : Int) + n = n; omega, p, rfl⟩
 | succ k ih =>
  intro K hK a m n u p hn
  obtain ⟨K, rfl⟩ : ∃ k, K = k + 3 := ⟨K - 3, by omega⟩
  have hb := ih K (by omega)
  refine w__law_block ?_
  nofun
  refine tst_T (decide_eq_true (by omega)) ?_
  nofun
  refine wp_mono (take_ok (by decide) (by omega) p) ?_
  rintro _ _ ⟨v, a1, m1, rfl, v0, v1, p1, rfl⟩
  obtain ⟨c, c0, c1, e⟩ := many_at v0 v1
  refine opt_mk e ?_
  nofun
  refine tst_T (by simp [fits, LIM]; omega) ?_
  refine wp_walk (fun l ρ S' => ∃ (j : Int) (rows : List Rw) (a m n' : Int) (x5 : Slot), l = rangeD j c /\ (rows.length : Int) <= j /\ j <= c /\ oks rows /\ 0 <= n' /\ (sizes rows : Int) + n' = n /\ PotOk a m /\ S' = pK ns a m :: (T ++ [rK ws hs n']) /\ ρ = [.sh (.ref 0), .sh (.ref (T.length + 1)), .sh (.int (k + 1 : Nat)), .sh (.bl u), .ow (.lst (rowsD rows)), x5]) ?_ ?_ _ _ _ ⟨0, [], a1, m1, n, .no, rfl, by simp, c0, trivial, hn, by show ((0 : Nat) : Int) + n = n; omega, p1, rfl, rfl⟩
  ·rintro d l ρ S' ⟨j, rows, a, m, n', x5, el, hl, hj, ho, hn', hz, p, rfl, rfl⟩
   by_cases hc : j < c
   ·rw [rng_cons hc] at el
    cases el
    have hlen := rows_len rows
    nofun
    refine opt_mk r2 ?_
    nofun
    refine tst_mk (fun h => ?_) (fun h => ?_)
    ·have h : 0 < n' := of_decide_eq_true h
     nofun
     refine wp_mono (row_ok r hb (by omega) p (by omega)) ?_
     rintro _ _ ⟨x, a2, m2, n2, rfl, ox, h2, z2, p2, rfl⟩
     nofun
     rw [rows_snoc]
     exact ⟨j + 1, rows ++ [x], a2, m2, n2, _, rfl, by simp; omega, by omega, oks_snoc rows x ho ox, h2, by rw [sizes_snoc]; omega, p2, rfl, rfl⟩
    ·nofun
     exact ⟨j + 1, rows, a, m, n', _, rfl, by omega, by omega, ho, hn', hz, p, rfl, rfl⟩
   ·rw [rng_nil (by omega)] at el
    cases el
  ·rintro ρ S' ⟨j, rows, a, m, n', x5, el, hl, hj, ho, hn', hz, p, rfl, rfl⟩
   nofun
   exact ⟨rows, a, m, n', rfl, ho, hn', hz, p, rfl⟩
end Q07
namespace Q07
open PySem L2 EV
structure Er where
 t : Str
 ps : List Str
 b : List Rw
noncomputable def erD (e : Er) : D := .tup [.str e.t, .tup (e.ps.map D.str), .tup (rowsD e.b)]
structure Er.Ok (e : Er) : Prop where
 t : Wd e.t
 ps : ∀ s ∈ e.ps, Wd s
 few : e.ps.length <= 3
 b : oks e.b
noncomputable def total : List Er -> Nat
 | [] => 0
 | e :: l => sizes e.b + total l
theorem total_snoc : ∀ (l : List Er) (e : Er), total (l ++ [e]) = total l + sizes e.b
 | [], e => by show sizes e.b + 0 = 0 + sizes e.b; omega
 | x :: l, e => by show sizes x.b + total (l ++ [e]) = sizes x.b + total l + sizes e.b; rw [total_snoc l e]; omega
noncomputable def HsOk (hs : List (Str × List Str)) : Prop := ∀ z ∈ hs, Wd z.1 /\ z.2.length <= 3 /\ ∀ s ∈ z.2, Wd s
theorem hd_snoc (hs : List (Str × List Str)) (t : Str) (ps : List Str) : hs.map hD ++ [.tup [.str t, .tup (ps.map D.str)]] = (hs ++ [(t, ps)]).map hD := by rw [List.map_append]; rfl
theorem er_snoc (es : List Er) (t : Str) (ps : List Str) (b : List Rw) : es.map erD ++ [.tup [.str t, .tup (ps.map D.str), .tup (rowsD b)]] = (es ++ [Er.mk t ps b]).map erD := by rw [List.map_append]; rfl
theorem program_ok {K : Nat} (hK : 30 <= K) {ns : List Int} {a m : Int} (p : PotOk a m) : callW F wh K 15 [.ref 0, .int 6, .int 26] (fun q _ => ∃ es : List Er, q = (.tup (es.map erD), .st) /\ (∀ e ∈ es, e.Ok) /\ total es <= 26 /\ es.length <= 6 /\ es ≠ []) [pK ns a m] := by
 obtain ⟨K, rfl⟩ : ∃ k, K = k + 1 := ⟨K - 1, by omega⟩
 refine w__law_program ?_
 nofun
 refine wp_mono (take_ok (by decide) (by omega) p) ?_
 rintro _ _ ⟨v, a1, m1, rfl, v0, v1, p1, rfl⟩
 nofun
 refine wp_mono (words_ok (by omega) (by omega) (by omega) p1) ?_
 rintro _ _ ⟨ws, a2, m2, rfl, hw, hl, hne, p2, rfl⟩
 nofun
 refine wp_walk (fun l ρ S' => ∃ (ts : List Str) (hs : List (Str × List Str)) (a m : Int) (x4 : Slot), l = ts.map D.str /\ (∀ s ∈ ts, Wd s) /\ HsOk hs /\ hs.length + ts.length = ws.length /\ PotOk a m /\ S' = [pK ns a m] /\ ρ = [.sh (.ref 0), .sh (.int 6), .sh (.int 26), .ow (.lst (hs.map hD)), x4, .no, .no, .no, .no, .no]) ?_ ?_ _ _ _ ⟨ws, [], a2, m2, .no, rfl, hw, (fun z hz => nomatch hz), by simp, p2, rfl, rfl⟩
 ·rintro d l ρ S' ⟨ts, hs, a, m, x4, el, ht, hh, hn, p, rfl, rfl⟩
  cases ts with
  | nil => cases el
  | cons t ts =>
   cases el
   have hn' : hs.length + (ts.length + 1) = ws.length := hn
   nofun
   refine wp_mono (take_ok (by decide) (by omega) p) ?_
   rintro _ _ ⟨c, a3, m3, rfl, c0, c1, p3, rfl⟩
   nofun
   refine wp_mono (words_ok c0 (by omega) (by omega) p3) ?_
   rintro _ _ ⟨ps, a4, m4, rfl, hp, hpl, _, p4, rfl⟩
   nofun
   rw [hd_snoc]
   exact ⟨ts, hs ++ [(t, ps)], a4, m4, _, rfl, (fun s h => ht s (List.mem_cons_of_mem _ h)), (fun z hz => by
    rcases List.mem_append.mp hz with hz | hz
    ·exact hh z hz
    ·rw [List.mem_singleton.mp hz]; exact ⟨ht t List.mem_cons_self, by show ps.length <= 3; omega, hp⟩), by simp; omega, p4, rfl, rfl⟩
 ·rintro ρ S' ⟨ts, hs, a, m, x4, el, ht, hh, hn, p, rfl, rfl⟩
  have hts : ts = [] := by
   cases ts with
   | nil => rfl
   | cons _ _ => cases el
  subst hts
  have hn : hs.length = ws.length := by simpa using hn
  have hz : hs ≠ [] := by
   have := hne (by omega)
   intro e
   rw [e] at hn
   cases ws with
   | nil => exact this rfl
   | cons _ _ => simp at hn
  nofun
  refine wp_walk (fun l ρ S' => ∃ (zs : List (Str × List Str)) (es : List Er) (a m left : Int) (T : Store) (x4 x6 x7 x8 x9 : Slot), l = zs.map hD /\ (∀ z ∈ zs, z ∈ hs) /\ (∀ e ∈ es, e.Ok) /\ (total es : Int) + left = 26 /\ 0 <= left /\ es.length + zs.length = hs.length /\ PotOk a m /\ S' = pK ns a m :: T /\ ρ = [.sh (.ref 0), .sh (.int 6), .sh (.int left), .sh (.lst (hs.map hD)), x4, .ow (.lst (es.map erD)), x6, x7, x8, x9]) ?_ ?_ _ _ _ ⟨hs, [], a, m, 26, [], _, _, _, _, _, rfl, (fun z h => h), (fun e h => nomatch h), rfl, by decide, by simp, p, rfl, rfl⟩
  ·rintro d l ρ S' ⟨zs, es, a, m, left, T, x4, x6, x7, x8, x9, el, hzs, hes, htot, hl0, hen, p, rfl, rfl⟩
   cases zs with
   | nil => cases el
   | cons z zs =>
    cases el
    obtain ⟨z1, z2, z3⟩ := hh z (hzs z List.mem_cons_self)
    have hen' : es.length + (zs.length + 1) = hs.length := hen
    nofun
    refine wp_mono (take_ok (by decide) (by omega) p) ?_
    rintro _ _ ⟨c, a3, m3, rfl, c0, c1, p3, rfl⟩
    nofun
    refine wp_mono (words_ok c0 (by omega) (by omega) p3) ?_
    rintro _ _ ⟨qs, a4, m4, rfl, hq, hql, _, p4, rfl⟩
    nofun
    refine wp_walk (fun l ρ S' => S' = pK ns a4 m4 :: T /\ ∃ (rs nm : List Str) (x8 : Slot), l = rs.map D.str /\ (∀ s ∈ rs, Wd s) /\ (∀ s ∈ nm, Wd s) /\ nm.length + rs.length <= 6 /\ ρ = [.sh (.ref 0), .sh (.int 6), .sh (.int left), .sh (.lst (hs.map hD)), .sh (.str z.1), .ow (.lst (es.map erD)), .sh (.tup (z.2.map D.str)), .ow (LS nm), x8, x9]) ?_ ?_ _ _ _ ⟨rfl, qs, z.2, x8, rfl, hq, z3, by omega, rfl⟩
    ·rintro d l ρ S' ⟨rfl, rs, nm, x8, el, hr, hnm, hlen, rfl⟩
     cases rs with
     | nil => cases el
     | cons s rs =>
      cases el
      have hlen' : nm.length + (rs.length + 1) <= 6 := hlen
      nofun
      refine opt_mk (notin_op s nm) ?_
      nofun
      refine tst_mk (fun h => ?_) (fun h => ?_)
      ·nofun
       rw [str_snoc]
       exact ⟨rfl, rs, nm ++ [s], _, rfl, (fun t ht => hr t (List.mem_cons_of_mem _ ht)), (fun t ht => by
        rcases List.mem_append.mp ht with ht | ht
        ·exact hnm t ht
        ·rw [List.mem_singleton.mp ht]; exact hr s List.mem_cons_self), by simp; omega, rfl⟩
      ·nofun
       exact ⟨rfl, rs, nm, _, rfl, (fun t ht => hr t (List.mem_cons_of_mem _ ht)), hnm, by omega, rfl⟩
    ·rintro ρ S' ⟨rfl, rs, nm, x8, el, hr, hnm, hlen, rfl⟩
     have rm : RmOk nm hs := ⟨hnm, by omega, hz, fun y hy => ⟨(hh y hy).1, (hh y hy).2.1⟩⟩
     obtain ⟨q, hq0, hqe, hq1⟩ : ∃ q : Int, 0 <= q /\ (if left < 24 then left else 24) = q /\ q <= left := ⟨_, by split <;> omega, rfl, by split <;> omega⟩
     nofun
     have eS : pK ns a4 m4 :: T ++ [D.lst [LS nm, .lst (hs.map hD), .int (if left < 24 then left else 24)]] = pK ns a4 m4 :: (T ++ [rK nm hs q]) := by rw [hqe]; rfl
     have eL : (pK ns a4 m4 :: T).length = T.length + 1 := rfl
     rw [eS, eL]
     refine opt_mk r2 ?_
     nofun
     refine wp_mono (block_ok rm 4 K (by omega) a4 m4 q false p4 hq0) ?_
     rintro _ _ ⟨rows, a5, m5, n5, rfl, ho, h5, z5, p5, rfl⟩
     nofun
     rw [er_snoc]
     refine opt_mk r2 ?_
     nofun
     exact ⟨zs, es ++ [⟨z.1, z.2, rows⟩], a5, m5, left - q + n5, T ++ [rK nm hs n5], _, _, _, _, _, rfl, (fun y h => hzs y (List.mem_cons_of_mem _ h)), (fun e h => by
      rcases List.mem_append.mp h with h | h
      ·exact hes e h
      ·rw [List.mem_singleton.mp h]; exact ⟨z1, z3, z2, ho⟩), by
      rw [total_snoc]
      show ((total es + sizes rows : Nat) : Int) + (left - q + n5) = 26
      omega, by omega, by simp; omega, p5, rfl, rfl⟩
  ·rintro ρ S' ⟨zs, es, a, m, left, T, x4, x6, x7, x8, x9, el, hzs, hes, htot, hl0, hen, p, rfl, rfl⟩
   nofun
   refine ⟨es, rfl, hes, by omega, by omega, fun e => ?_⟩
   have hz2 : zs = [] := by
    cases zs with
    | nil => rfl
    | cons _ _ => cases el
   subst hz2
   subst e
   cases hs with
   | nil => exact hz rfl
   | cons _ _ => simp at hen
end Q07
namespace Q07
open PySem L2 EV
noncomputable def wt : Ex -> Str
 | .nm s => s
 | .num n => toString n
 | .op g a b => "(" ++ wt a ++ g ++ wt b ++ ")"
theorem adds_op {x y : Str} (h : x.length + y.length <= 1000000) : opD .Add (.str x) (.str y) = some (.str (x ++ y), false) := by
 show (if fits (x.length + y.length) = true then some (D.str (x ++ y), false) else none) = _
 rw [if_pos (fits_of h)]
theorem sg_len {g : Str} (h : g ∈ sgL) : g.length = 1 := by
 have h : g = "+" \/ g = "-" \/ g = "*" \/ g = "<" \/ g = "=" := by simpa [sgL] using h
 rcases h with rfl | rfl | rfl | rfl | rfl <;> decide +kernel
theorem num_len {n : Int} (h : In n) : (Str.ofString (toString n)).length <= 20 := by
 obtain ⟨h0, h1⟩ := h
 have q := int_text_length_le10 (a := n) (k := 10) (by decide) (by omega)
 rw [ofString_length]; omega
theorem num_log {n : Int} (h : In n) : n.natAbs.log2 < 1920 := by
 obtain ⟨h0, h1⟩ := h
 by_cases hz : n.natAbs = 0
 ·rw [hz]; decide
 ·have := (Nat.log2_lt (k := 34) hz).mpr (show n.natAbs < 2 ^ 34 by omega)
  omega
theorem wt_len : ∀ {k : Nat} {e : Ex}, e.Ok k -> (wt e).length <= 20 * 4 ^ k
 | k, .nm s, h => by
  have h : Wd s := by cases k <;> exact h
  have := h.hi
  have : 1 <= 4 ^ k := Nat.pow_pos (by decide)
  show s.length <= _
  omega
 | k, .num n, h => by
  have h : In n := by cases k <;> exact h
  have := num_len h
  have : 1 <= 4 ^ k := Nat.pow_pos (by decide)
  show (Str.ofString (toString n)).length <= _
  omega
 | 0, .op _ _ _, h => h.elim
 | k + 1, .op g a b, h => by
  have h1 := sg_len h.1
  have h2 := wt_len h.2.1
  have h3 := wt_len h.2.2
  have h4 : 1 <= 4 ^ k := Nat.pow_pos (by decide)
  have h5 : 4 ^ (k + 1) = 4 * 4 ^ k := by rw [Nat.pow_succ]; omega
  show ("(" ++ wt a ++ g ++ wt b ++ ")" : Str).length <= _
  rw [Str.length_append, Str.length_append, Str.length_append, Str.length_append]
  have e1 : ("(" : Str).length = 1 := by decide +kernel
  have e2 : (")" : Str).length = 1 := by decide +kernel
  omega
theorem wt_ok : ∀ (k : Nat) (e : Ex), k <= 3 -> e.Ok k -> ∀ (K : Nat), k + 1 <= K -> ∀ S, callW F wh K 0 [e.toD] (fun x S' => x = (.str (wt e), .st) /\ S' = S) S := by
 intro k
 induction k with
 | zero =>
  intro e hk o K hK S
  obtain ⟨K, rfl⟩ : ∃ k, K = k + 1 := ⟨K - 1, by omega⟩
  cases e with
  | nm s =>
   refine w_worth_text (x0 := .str s) ?_
   nofun
   exact ⟨rfl, rfl⟩
  | num n =>
   refine w_worth_text (x0 := .int n) ?_
   nofun
   refine opv_s (d := .str (toString n)) (by show (if decide (n.natAbs.log2 < 1920) = true then _ else _) = _; rw [if_pos (decide_eq_true (num_log o))]) ?_
   nofun
   exact ⟨rfl, rfl⟩
  | op g a b => exact o.elim
 | succ k ih =>
  intro e hk o K hK S
  obtain ⟨K, rfl⟩ : ∃ k, K = k + 1 := ⟨K - 1, by omega⟩
  cases e with
  | nm s =>
   refine w_worth_text (x0 := .str s) ?_
   nofun
   exact ⟨rfl, rfl⟩
  | num n =>
   refine w_worth_text (x0 := .int n) ?_
   nofun
   refine opv_s (d := .str (toString n)) (by show (if decide (n.natAbs.log2 < 1920) = true then _ else _) = _; rw [if_pos (decide_eq_true (num_log o))]) ?_
   nofun
   exact ⟨rfl, rfl⟩
  | op g a b =>
   obtain ⟨o1, o2, o3⟩ := o
   have h1 := sg_len o1
   have h2 := wt_len o2
   have h3 := wt_len o3
   have h4 : 4 ^ k <= 4 ^ 3 := Nat.pow_le_pow_right (by decide) (by omega)
   have h4' : 4 ^ k <= 64 := h4
   have e1 : ("(" : Str).length = 1 := by decide +kernel
   have e2 : (")" : Str).length = 1 := by decide +kernel
   refine w_worth_text (x0 := .tup [.str g, a.toD, b.toD]) ?_
   nofun
   refine wp_mono (ih a (by omega) o2 K (by omega) S) ?_
   rintro _ S ⟨rfl, rfl⟩
   refine opv_s (adds_op (by omega)) ?_
   nofun
   refine opv_s (adds_op (by rw [Str.length_append]; omega)) ?_
   nofun
   refine wp_mono (ih b (by omega) o3 K (by omega) S) ?_
   rintro _ S ⟨rfl, rfl⟩
   refine opv_s (adds_op (by rw [Str.length_append, Str.length_append]; omega)) ?_
   nofun
   refine opv_s (adds_op (by rw [Str.length_append, Str.length_append, Str.length_append]; omega)) ?_
   nofun
   exact ⟨rfl, rfl⟩
end Q07
namespace Q07
open PySem L2 EV
theorem lwt_ok : ∀ (k : Nat) (e : Ex), k <= 3 -> e.Ok k -> ∀ (K : Nat), k + 1 <= K -> ∀ S, callW F wh K 16 [e.toD] (fun x S' => x = (.str (wt e), .st) /\ S' = S) S := by
 intro k
 induction k with
 | zero =>
  intro e hk o K hK S
  obtain ⟨K, rfl⟩ : ∃ k, K = k + 1 := ⟨K - 1, by omega⟩
  cases e with
  | nm s =>
   refine w__law_worth_text (x0 := .str s) ?_
   nofun
   exact ⟨rfl, rfl⟩
  | num n =>
   refine w__law_worth_text (x0 := .int n) ?_
   nofun
   refine opv_s (d := .str (toString n)) (by show (if decide (n.natAbs.log2 < 1920) = true then _ else _) = _; rw [if_pos (decide_eq_true (num_log o))]) ?_
   nofun
   exact ⟨rfl, rfl⟩
  | op g a b => exact o.elim
 | succ k ih =>
  intro e hk o K hK S
  obtain ⟨K, rfl⟩ : ∃ k, K = k + 1 := ⟨K - 1, by omega⟩
  cases e with
  | nm s =>
   refine w__law_worth_text (x0 := .str s) ?_
   nofun
   exact ⟨rfl, rfl⟩
  | num n =>
   refine w__law_worth_text (x0 := .int n) ?_
   nofun
   refine opv_s (d := .str (toString n)) (by show (if decide (n.natAbs.log2 < 1920) = true then _ else _) = _; rw [if_pos (decide_eq_true (num_log o))]) ?_
   nofun
   exact ⟨rfl, rfl⟩
  | op g a b =>
   obtain ⟨o1, o2, o3⟩ := o
   have h1 := sg_len o1
   have h2 := wt_len o2
   have h3 := wt_len o3
   have h4 : 4 ^ k <= 4 ^ 3 := Nat.pow_le_pow_right (by decide) (by omega)
   have h4' : 4 ^ k <= 64 := h4
   have e1 : ("(" : Str).length = 1 := by decide +kernel
   have e2 : (")" : Str).length = 1 := by decide +kernel
   refine w__law_worth_text (x0 := .tup [.str g, a.toD, b.toD]) ?_
   nofun
   refine wp_mono (ih a (by omega) o2 K (by omega) S) ?_
   rintro _ S ⟨rfl, rfl⟩
   refine opv_s (adds_op (by omega)) ?_
   nofun
   refine opv_s (adds_op (by rw [Str.length_append]; omega)) ?_
   nofun
   refine wp_mono (ih b (by omega) o3 K (by omega) S) ?_
   rintro _ S ⟨rfl, rfl⟩
   refine opv_s (adds_op (by rw [Str.length_append, Str.length_append]; omega)) ?_
   nofun
   refine opv_s (adds_op (by rw [Str.length_append, Str.length_append, Str.length_append]; omega)) ?_
   nofun
   exact ⟨rfl, rfl⟩
noncomputable def jn (w : Str) (ws : List Str) : Str := ws.foldl (fun acc p => acc ++ " " ++ p) w
theorem jn_app : ∀ (ws : List Str) (x w : Str), jn (x ++ w) ws = x ++ jn w ws
 | [], x, w => rfl
 | p :: ws, x, w => by
  show jn (x ++ w ++ " " ++ p) ws = x ++ jn (w ++ " " ++ p) ws
  rw [<- jn_app ws x (w ++ " " ++ p), Str.append_assoc x w, Str.append_assoc x]
theorem join_jn (w : Str) : ∀ (ws : List Str), Txt.join " " (w :: ws) = jn w ws := by
 have go : ∀ (ws : List Str) (w : Str), (⟨ws.foldl (fun acc p => acc ++ (" " : Str).cps ++ p.cps) w.cps⟩ : Str) = jn w ws := by
  intro ws
  induction ws with
  | nil => intro w; rfl
  | cons p ws ih => intro w; exact ih (w ++ " " ++ p)
 exact fun ws => go ws w
theorem eq_sign (n w : Str) (ws : List Str) : jn n ("=" :: w :: ws) = n ++ " = " ++ jn w ws := by
 show jn (n ++ " " ++ "=" ++ " " ++ w) ws = _
 rw [jn_app]
 congr 1
end Q07
namespace Q07
open PySem L2 EV
theorem bindT1 {ρ : List Slot} {i : Nat} {d : D} (hi : i < ρ.length) (h : isIns d = false) : bindT ρ (.one i) (d, false) = some (ρ.set i (.sh d)) := by
 show (if (decide (i < ρ.length) && !isIns d) = true then some (ρ.set i (if false = true then .ow d else .sh d)) else none) = _
 rw [h, decide_eq_true hi]; rfl
theorem strsD_map : ∀ (ys : List Str), strsD (ys.map D.str) = some ys
 | [] => rfl
 | y :: ys => by
  show (strsD (ys.map D.str)).map (y :: ·) = _
  rw [strsD_map ys]; rfl
theorem sum_le {B : Nat} : ∀ (ys : List Str), (∀ y ∈ ys, y.length <= B) -> (ys.map (·.length)).sum <= B * ys.length
 | [], _ => Nat.le_refl _
 | y :: ys, h => by
  have h1 := h y List.mem_cons_self
  have h2 := sum_le ys fun z hz => h z (List.mem_cons_of_mem _ hz)
  show y.length + (ys.map (·.length)).sum <= B * (ys.length + 1)
  rw [Nat.mul_add, Nat.mul_one]
  omega
theorem join_op {x : Str} {ys : List Str} (h : (ys.map (·.length)).sum + ys.length * x.length <= 1000000) : mthD .join (.str x) [LS ys] = some (.str (Txt.join x ys), false) := by
 show ((some (ys.map D.str)).bind strsD).bind (fun zs => if fits ((zs.map (·.length)).sum + zs.length * x.length) = true then some (D.str (Txt.join x zs), false) else none) = _
 show (strsD (ys.map D.str)).bind _ = _
 rw [strsD_map]
 show (if fits _ = true then _ else _) = _
 rw [if_pos (fits_of h)]
theorem comp_wt {K : Nat} (hK : 4 <= K) {ρ : List Slot} {V : List D -> Store -> Prop} {S : Store} {es : List Ex} (he : ∀ e ∈ es, e.Ok 3) (hl : es.length <= 3) (q : V ((es.map wt).map D.str) S) : walkW (cStep (callW F wh K) ρ (.one 0) [] [] (.call 0 [.var 0])) (es.map Ex.toD) [] V S := by
 refine wp_comp (c_mono (call_mono _)) (fun l acc S' => S' = S /\ ∃ xs ys : List Ex, l = ys.map Ex.toD /\ acc = (xs.map wt).map D.str /\ es = xs ++ ys) ?_ ?_ _ _ _ ⟨rfl, [], es, rfl, rfl, rfl⟩
 ·rintro d l acc S' ⟨rfl, xs, ys, el, rfl, ee⟩
  cases ys with
  | nil => cases el
  | cons y ys =>
   cases el
   have hy : y.Ok 3 := he y (by rw [ee]; simp)
   have hxl : xs.length <= 3 := by rw [ee] at hl; simp at hl; omega
   refine ops_mk (bindT1 (by simp [inn, nT]) (ins_e y)) ?_
   dsimp only [wpF, e_call, wpEs, e_var, inn, nT, List.replicate, List.map, List.append_nil, List.set]
   nofun
   refine wp_mono (wt_ok 3 y (by decide) hy K (by omega) S') ?_
   rintro _ _ ⟨rfl, rfl⟩
   nofun
   exact ⟨rfl, xs ++ [y], ys, rfl, by simp, by rw [ee]; simp⟩
 ·rintro acc S' ⟨rfl, xs, ys, el, rfl, ee⟩
  have hy : ys = [] := by
   cases ys with
   | nil => rfl
   | cons _ _ => cases el
  subst hy
  rw [List.append_nil] at ee
  rw [<- ee]
  exact q
noncomputable def bt : Br -> Str
 | .ask none w e => jn "ask" [w, wt e]
 | .ask (some n) w e => jn n ["=", "ask", w, wt e]
 | .call none t es => jn "call" (t :: es.map wt)
 | .call (some n) t es => jn n ("=" :: "call" :: t :: es.map wt)
end Q07
namespace Q07
open PySem L2 EV
theorem few_join {ys : List Str} (h : ∀ y ∈ ys, y.length <= 1280) (hl : ys.length <= 8) : (ys.map (·.length)).sum + ys.length * (" " : Str).length <= 1000000 := by
 have := sum_le ys h
 have e : (" " : Str).length = 1 := by decide +kernel
 rw [e]
 have : 1280 * ys.length <= 1280 * 8 := Nat.mul_le_mul_left _ hl
 omega
theorem wt_short {e : Ex} (h : e.Ok 3) : (wt e).length <= 1280 := wt_len h
theorem wd_short {s : Str} (h : Wd s) : s.length <= 1280 := by have := h.hi; omega
theorem c_short : ("=" : Str).length <= 1280 /\ ("ask" : Str).length <= 1280 /\ ("call" : Str).length <= 1280 := by decide +kernel
theorem line_ok {b : Br} (ob : b.Ok) {K : Nat} (hK : 5 <= K) (S : Store) : callW F wh K 4 [b.toD] (fun x S' => x = (.str (bt b), .st) /\ S' = S) S := by
 obtain ⟨K, rfl⟩ : ∃ k, K = k + 1 := ⟨K - 1, by omega⟩
 obtain ⟨c1, c2, c3⟩ := c_short
 cases b with
 | ask o w e =>
  obtain ⟨on, ow, oe⟩ := ob
  refine w_branch_line (x0 := .tup [oD o, .str "ask", .str w, e.toD]) ?_
  nofun
  refine wp_lc ?_
  dsimp only [wpI, e_var]
  nofun
  refine comp_wt (es := [e]) (by omega) (fun x hx => by rw [List.mem_singleton.mp hx]; exact oe) (by simp) ?_
  nofun
  cases o with
  | none =>
   refine tst_F rfl ?_
   nofun
   refine opv_s (join_op (ys := ["ask", w, wt e]) (few_join (by
    intro y hy
    simp at hy
    rcases hy with rfl | rfl | rfl
    ·exact c2
    ·exact wd_short ow
    ·exact wt_short oe) (by simp))) ?_
   nofun
   exact ⟨by rw [join_jn]; rfl, rfl⟩
  | some n =>
   have hn := on n rfl
   refine tst_T rfl ?_
   nofun
   refine opv_s (join_op (ys := [n, "=", "ask", w, wt e]) (few_join (by
    intro y hy
    simp at hy
    rcases hy with rfl | rfl | rfl | rfl | rfl
    ·exact wd_short hn
    ·exact c1
    ·exact c2
    ·exact wd_short ow
    ·exact wt_short oe) (by simp))) ?_
   nofun
   exact ⟨by rw [join_jn]; rfl, rfl⟩
 | call o t es =>
  obtain ⟨on, ow, hl, oe⟩ := ob
  refine w_branch_line (x0 := .tup [oD o, .str "call", .str t, .tup (es.map Ex.toD)]) ?_
  nofun
  refine wp_lc ?_
  dsimp only [wpI, e_var]
  nofun
  refine comp_wt (es := es) (by omega) oe hl ?_
  refine opv_f (addl_op (by simp; omega)) ?_
  nofun
  have hes : ∀ y ∈ es.map wt, y.length <= 1280 := fun y hy => by
   obtain ⟨e, he, rfl⟩ := List.mem_map.mp hy
   exact wt_short (oe e he)
  cases o with
  | none =>
   refine tst_F rfl ?_
   nofun
   refine opv_s (join_op (ys := "call" :: t :: es.map wt) (few_join (by
    intro y hy
    rcases List.mem_cons.mp hy with rfl | hy
    ·exact c3
    ·rcases List.mem_cons.mp hy with rfl | hy
     ·exact wd_short ow
     ·exact hes y hy) (by simp; omega))) ?_
   nofun
   exact ⟨by rw [join_jn]; rfl, rfl⟩
  | some n =>
   have hn := on n rfl
   refine tst_T rfl ?_
   nofun
   refine opv_f (addl_op (by simp; omega)) ?_
   nofun
   refine opv_s (join_op (ys := n :: "=" :: "call" :: t :: es.map wt) (few_join (by
    intro y hy
    rcases List.mem_cons.mp hy with rfl | hy
    ·exact wd_short hn
    ·rcases List.mem_cons.mp hy with rfl | hy
     ·exact c1
     ·rcases List.mem_cons.mp hy with rfl | hy
      ·exact c3
      ·rcases List.mem_cons.mp hy with rfl | hy
       ·exact wd_short ow
       ·exact hes y hy) (by simp; omega))) ?_
   nofun
   exact ⟨by rw [join_jn]; rfl, rfl⟩
end Q07
namespace Q07
open PySem L2 EV
theorem jn_snoc (w : Str) (ws : List Str) (y : Str) : jn w (ws ++ [y]) = jn w ws ++ " " ++ y := by
 unfold jn
 rw [List.foldl_append]; rfl
theorem jn_len {B : Nat} : ∀ (ws : List Str) (w : Str), (∀ y ∈ ws, y.length <= B) -> (jn w ws).length <= w.length + (B + 1) * ws.length
 | [], w, _ => Nat.le_refl _
 | y :: ws, w, h => by
  have h1 := h y List.mem_cons_self
  have h2 := jn_len ws (w ++ " " ++ y) fun z hz => h z (List.mem_cons_of_mem _ hz)
  have e : (" " : Str).length = 1 := by decide +kernel
  rw [Str.length_append, Str.length_append, e] at h2
  show (jn (w ++ " " ++ y) ws).length <= w.length + (B + 1) * (ws.length + 1)
  rw [Nat.mul_add, Nat.mul_one]
  omega
noncomputable def tx (o : Option Str) (k w : Str) (ts : List Str) : Str := match o with
 | none => jn k (w :: ts)
 | some n => jn n ("=" :: k :: w :: ts)
theorem text_tail {o : Option Str} {k w : Str} {es : List Ex} (on : ∀ s, o = some s -> Wd s) (hk : k.length <= 8) (hw : Wd w) (he : ∀ e ∈ es, e.Ok 3) (hl : es.length <= 3) {K : Nat} (hK : 4 <= K) {S : Store} {x0 : D} {x4 : D} (h4 : x4 = .tup (es.map Ex.toD)) :
  wpCs (callW F wh K) wh (b__law_branch_text.drop 2) [.sh x0, .sh (oD o), .sh (.str k), .sh (.str w), .sh x4, .no, .no] (told fun x S' => x = (.str (tx o k w (es.map wt)), .st) /\ S' = S) S := by
 subst h4
 have e1 : (" " : Str).length = 1 := by decide +kernel
 have e3 : (" = " : Str).length = 3 := by decide +kernel
 have hwl := hw.hi
 show wpCs _ _ [_, _, _, _] _ _ _
 nofun
 refine opv_s (adds_op (by omega)) ?_
 nofun
 refine opv_s (adds_op (by rw [Str.length_append]; omega)) ?_
 nofun
 have bound : ∀ xs : List Ex, (∀ e ∈ xs, e.Ok 3) -> xs.length <= 3 -> (jn k (w :: xs.map wt)).length <= 8 + 1281 * 4 := fun xs hx hxl => by
  have := jn_len (B := 1280) (w :: xs.map wt) k (fun y hy => by
   rcases List.mem_cons.mp hy with rfl | hy
   ·exact wd_short hw
   ·obtain ⟨e, h, rfl⟩ := List.mem_map.mp hy
    exact wt_short (hx e h))
  have e : (w :: xs.map wt).length = xs.length + 1 := by simp
  rw [e] at this
  have : (1280 + 1) * (xs.length + 1) <= 1281 * 4 := Nat.mul_le_mul_left _ (by omega)
  omega
 refine wp_walk (fun l ρ S' => S' = S /\ ∃ (xs ys : List Ex) (x6 : Slot), l = ys.map Ex.toD /\ es = xs ++ ys /\ ρ = [.sh x0, .sh (oD o), .sh (.str k), .sh (.str w), .sh (.tup (es.map Ex.toD)), .sh (.str (jn k (w :: xs.map wt))), x6]) ?_ ?_ _ _ _ ⟨rfl, [], es, .no, rfl, rfl, rfl⟩
 ·rintro d l ρ S' ⟨rfl, xs, ys, x6, el, ee, rfl⟩
  cases ys with
  | nil => cases el
  | cons y ys =>
   cases el
   have hy : y.Ok 3 := he y (by rw [ee]; simp)
   have hx : ∀ e ∈ xs, e.Ok 3 := fun e h => he e (by rw [ee]; simp [h])
   have hxl : xs.length <= 3 := by rw [ee] at hl; simp at hl; omega
   have hb := bound xs hx hxl
   have hyl := wt_short hy
   refine ops_mk (bindT1 (by simp) (ins_e y)) ?_
   simp only [List.set]
   nofun
   refine opv_s (adds_op (by omega)) ?_
   nofun
   refine wp_mono (lwt_ok 3 y (by decide) hy K (by omega) S') ?_
   rintro _ _ ⟨rfl, rfl⟩
   refine opv_s (adds_op (by rw [Str.length_append]; omega)) ?_
   nofun
   refine ⟨rfl, xs ++ [y], ys, .sh y.toD, rfl, by rw [ee]; simp, ?_⟩
   rw [List.map_append, show w :: (xs.map wt ++ [y].map wt) = (w :: xs.map wt) ++ [wt y] from rfl, jn_snoc]
 ·rintro ρ S' ⟨rfl, xs, ys, x6, el, ee, rfl⟩
  have hy : ys = [] := by
   cases ys with
   | nil => rfl
   | cons _ _ => cases el
  subst hy
  rw [List.append_nil] at ee
  subst ee
  have hb := bound es he hl
  nofun
  cases o with
  | none =>
   refine tst_T rfl ?_
   nofun
   exact ⟨rfl, rfl⟩
  | some n =>
   have hn := (on n rfl).hi
   refine tst_F rfl ?_
   nofun
   refine opv_s (adds_op (by omega)) ?_
   nofun
   refine opv_s (adds_op (by rw [Str.length_append]; omega)) ?_
   nofun
   exact ⟨by show _ = (D.str (jn n ("=" :: k :: w :: es.map wt)), Kd.st); rw [eq_sign], rfl⟩
theorem bt_tx : ∀ (b : Br), bt b = (match b with
    | .ask o w e => tx o "ask" w [wt e]
    | .call o t es => tx o "call" t (es.map wt))
  | .ask none _ _ => rfl
  | .ask (some _) _ _ => rfl
  | .call none _ _ => rfl
  | .call (some _) _ _ => rfl
theorem text_ok {b : Br} (ob : b.Ok) {K : Nat} (hK : 5 <= K) (S : Store) : callW F wh K 17 [b.toD] (fun x S' => x = (.str (bt b), .st) /\ S' = S) S := by
 obtain ⟨K, rfl⟩ : ∃ k, K = k + 1 := ⟨K - 1, by omega⟩
 cases b with
 | ask o w e =>
  obtain ⟨on, ow, oe⟩ := ob
  rw [bt_tx]
  have fin := text_tail (S := S) (K := K) (x0 := .tup [oD o, .str "ask", .str w, e.toD]) (x4 := .tup [e.toD]) (k := "ask") (es := [e]) on (by decide +kernel) ow (fun x hx => by rw [List.mem_singleton.mp hx]; exact oe) (by simp) (by omega) rfl
  refine w__law_branch_text (x0 := .tup [oD o, .str "ask", .str w, e.toD]) ?_
  repeat first | exact fin | infer_instance
 | call o t es =>
  obtain ⟨on, ow, hl, oe⟩ := ob
  rw [bt_tx]
  have fin := text_tail (S := S) (K := K) (x0 := .tup [oD o, .str "call", .str t, .tup (es.map Ex.toD)]) (x4 := .tup (es.map Ex.toD)) (k := "call") (es := es) on (by decide +kernel) ow oe hl (by omega) rfl
  refine w__law_branch_text (x0 := .tup [oD o, .str "call", .str t, .tup (es.map Ex.toD)]) ?_
  repeat first | exact fin | infer_instance
end Q07
namespace Q07
open PySem L2 EV
open StrLaws Builtin.Str
noncomputable def noNl (x : Str) : Prop := 10 ∉ x.cps.toList
theorem nl_cps : ("\n" : Str).cps.toList = [10] := by decide +kernel
theorem nl_len : ("\n" : Str).length = 1 := by decide +kernel
theorem occ_all (s : Str) (hi limit : Nat) : ∀ (l : List Nat) (st : Array Nat × Nat), (∀ i ∈ l, st.2 <= i) -> l.Pairwise (· < ·) -> st.1.size + l.length <= limit ->
  ∀ i, (i ∈ st.1 \/ i ∈ l /\ At s "\n" hi i) -> i ∈ (forIn l st (occBody s "\n" hi limit)).run.fst.toList
 | [], st, _, _, _, i, h => by
  rcases h with h | h
  ·exact Array.mem_toList_iff.mpr h
  ·exact absurd h.1 List.not_mem_nil
 | a :: l, st, hf, hp, hl, i, h => by
  rw [List.forIn_cons]
  have ha := hf a List.mem_cons_self
  have hl' : st.1.size + (l.length + 1) <= limit := hl
  unfold occBody
  by_cases hc : At s "\n" hi a
  ·rw [if_pos ⟨⟨⟨by omega, ha⟩, hc.1⟩, hc.2⟩]
   refine occ_all s hi limit l (st.1.push a, a + ("\n" : Str).length) (fun j hj => ?_) hp.tail (by simp; omega) i ?_
   ·have := (List.pairwise_cons.mp hp).1 j hj
    show a + ("\n" : Str).length <= j
    rw [nl_len]; omega
   ·rcases h with h | ⟨h, k⟩
    ·exact .inl (Array.mem_push_of_mem _ h)
    ·rcases List.mem_cons.mp h with rfl | h
     ·exact .inl Array.mem_push_self
     ·exact .inr ⟨h, k⟩
  ·rw [if_neg (fun h => hc ⟨h.1.2, h.2⟩)]
   refine occ_all s hi limit l st (fun j hj => hf j (List.mem_cons_of_mem _ hj)) hp.tail (by omega) i ?_
   rcases h with h | ⟨h, k⟩
   ·exact .inl h
   ·rcases List.mem_cons.mp h with rfl | h
    ·exact absurd k hc
    ·exact .inr ⟨h, k⟩
theorem occ_each (x : Str) : ∀ i, At x "\n" x.length i -> i ∈ occurrences x "\n" 0 x.length (x.length + 1) := by
 intro i h
 rw [occ_eq]
 refine occ_all x x.length (x.length + 1) _ (#[], 0) (fun _ _ => Nat.zero_le _) List.pairwise_lt_range' (by simp) i (.inr ⟨?_, h⟩)
 have := h.1
 simp [List.mem_range']
 omega
theorem chain_lo {s sub : Str} {hi : Nat} : ∀ {cuts : List Nat} {a f : Nat}, ChainTo s sub hi a cuts f -> ∀ i ∈ cuts, a <= i
 | [], a, f, _, i, h => absurd h List.not_mem_nil
 | c :: r, a, f, h, i, hi' => by
  rcases List.mem_cons.mp hi' with rfl | hi'
  ·exact h.1
  ·have := chain_lo h.2.2 i hi'
   have := h.1
   omega
theorem sub_no {x : Str} {a c : Nat} (hc : c <= x.length) (h : ∀ i, a <= i -> i < c -> ¬ At x "\n" x.length i) : noNl (strSub x a c) := by
 intro hm
 rw [strSub_toList] at hm
 obtain ⟨j, hj, e⟩ := List.mem_iff_getElem.mp hm
 rw [List.getElem_take, List.getElem_drop] at e
 have hj' : j < c - a := by
  have : j < ((x.cps.toList.drop a).take (c - a)).length := hj
  rw [List.length_take] at this
  omega
 refine h (a + j) (by omega) (by omega) ⟨by rw [nl_len]; omega, ?_⟩
 rw [subAt_eq, nl_len, nl_cps]
 have hn : x.cps.toList.length = x.length := by simp [Str.length]
 rw [List.drop_eq_getElem_cons (by omega)]
 simp [e]
theorem parts_no {x : Str} : ∀ (cuts : List Nat) (a f : Nat), ChainTo x "\n" x.length a cuts f -> (∀ i, a <= i -> At x "\n" x.length i -> i ∈ cuts) -> ∀ y ∈ partsFrom x 1 a cuts, noNl y
 | [], a, f, h, k, y, hy => by
  rw [List.mem_singleton.mp hy]
  exact sub_no (Nat.le_refl _) fun i h1 _ h3 => absurd (k i h1 h3) List.not_mem_nil
 | c :: r, a, f, h, k, y, hy => by
  have h3 := h.2.2
  rw [nl_len] at h3
  rcases List.mem_cons.mp hy with rfl | hy
  ·refine sub_no (by have := h.2.1.1; rw [nl_len] at this; omega) fun i h1 h2 h4 => ?_
   rcases List.mem_cons.mp (k i h1 h4) with e | e
   ·omega
   ·have := chain_lo h3 i e
    omega
  ·refine parts_no r (c + 1) f h3 (fun i h1 h2 => ?_) y hy
   rcases List.mem_cons.mp (k i (by have := h.1; omega) h2) with e | e
   ·omega
   ·exact e
theorem kind_nl : strKind "\n" = 1 := by decide +kernel
theorem split_no (x : Str) : ∀ y ∈ Txt.split x "\n", noNl y := by
 obtain ⟨f, h⟩ := occ_chain x "\n" (x.length + 1)
 have no : ∀ (b : ∀ i, ¬ At x "\n" x.length i), noNl x := fun b => by
  have := sub_no (x := x) (a := 0) (Nat.le_refl _) fun i _ _ => b i
  rwa [sub_whole] at this
 intro y hy
 unfold Txt.split at hy
 split at hy
 ·rename_i hs
  rw [List.mem_singleton.mp hy]
  refine no fun i hi => ?_
  have := hi.1
  rw [nl_len] at this
  rw [Bool.or_eq_true, decide_eq_true_eq, decide_eq_true_eq, nl_len, kind_nl] at hs
  rcases hs with hs | hs
  ·omega
  ·exfalso; revert hs; unfold Builtin.Str.strKind; split
   ·decide
   ·split <;> decide
 ·split at hy
  ·rename_i he
   rw [List.mem_singleton.mp hy]
   exact no fun i hi => by
    have := occ_each x i hi
    rw [List.isEmpty_iff.mp he] at this
    cases this
  ·rw [partsBetween_eq, nl_len] at hy
   exact parts_no _ 0 f h (fun i _ hi => occ_each x i hi) y hy
theorem cut10 : ∀ (a b X Y : List Nat), 10 ∉ a -> 10 ∉ b -> a ++ 10 :: X = b ++ 10 :: Y -> a = b /\ X = Y
 | [], [], X, Y, _, _, h => ⟨rfl, by cases h; rfl⟩
 | [], c :: b, X, Y, _, k, h => by cases h; exact absurd List.mem_cons_self k
 | c :: a, [], X, Y, k, _, h => by cases h; exact absurd List.mem_cons_self k
 | c :: a, d :: b, X, Y, ha, hb, h => by
  have h1 : c = d := (List.cons.inj h).1
  have h2 := cut10 a b X Y (fun k => ha (List.mem_cons_of_mem _ k)) (fun k => hb (List.mem_cons_of_mem _ k)) (List.cons.inj h).2
  exact ⟨by rw [h1, h2.1], h2.2⟩
theorem str_eq {x y : Str} (h : x.cps.toList = y.cps.toList) : x = y := Str.ext' (Array.toList_inj.mp h)
theorem join_cps (x y : Str) (r : List Str) : (Str.join "\n" (x :: y :: r)).cps.toList = x.cps.toList ++ 10 :: (Str.join "\n" (y :: r)).cps.toList := by
 show (x ++ "\n" ++ Str.join "\n" (y :: r)).cps.toList = _
 rw [Str.cps_append, Str.cps_append, Array.toList_append, Array.toList_append, nl_cps, List.append_assoc]
 rfl
theorem join_inj : ∀ (ls ms : List Str), ls ≠ [] -> ms ≠ [] -> (∀ y ∈ ls, noNl y) -> (∀ y ∈ ms, noNl y) -> Str.join "\n" ls = Str.join "\n" ms -> ls = ms
 | [], _, h, _, _, _, _ => absurd rfl h
 | _, [], _, h, _, _, _ => absurd rfl h
 | [x], [y], _, _, _, _, h => by have h : x = y := h; rw [h]
 | [x], y :: z :: r, _, _, h1, _, h => by
  have h : x = Str.join "\n" (y :: z :: r) := h
  refine absurd ?_ (h1 x List.mem_cons_self)
  rw [h, join_cps]; simp
 | y :: z :: r, [x], _, _, _, h1, h => by
  have h : Str.join "\n" (y :: z :: r) = x := h
  refine absurd ?_ (h1 x List.mem_cons_self)
  rw [<- h, join_cps]; simp
 | x :: y :: r, z :: w :: q, _, _, h1, h2, h => by
  have e := congrArg (fun s : Str => s.cps.toList) h
  simp only [join_cps] at e
  obtain ⟨e1, e2⟩ := cut10 _ _ _ _ (h1 x List.mem_cons_self) (h2 z List.mem_cons_self) e
  rw [str_eq e1, join_inj (y :: r) (w :: q) (List.cons_ne_nil _ _) (List.cons_ne_nil _ _) (fun v hv => h1 v (List.mem_cons_of_mem _ hv)) (fun v hv => h2 v (List.mem_cons_of_mem _ hv)) (str_eq e2)]
theorem join_pre (s x y : Str) : ∀ (ws : List Str), Str.join s ((x ++ y) :: ws) = x ++ Str.join s (y :: ws)
 | [] => rfl
 | w :: ws => by
  show x ++ y ++ s ++ Str.join s (w :: ws) = x ++ (y ++ s ++ Str.join s (w :: ws))
  rw [Str.append_assoc x y, Str.append_assoc x]
theorem join_is (s : Str) : ∀ (ws : List Str), ws ≠ [] -> Txt.join s ws = Str.join s ws := by
 have go : ∀ (ws : List Str) (w : Str), (⟨ws.foldl (fun acc p => acc ++ s.cps ++ p.cps) w.cps⟩ : Str) = Str.join s (w :: ws) := by
  intro ws
  induction ws with
  | nil => intro w; rfl
  | cons p ws ih =>
   intro w
   refine (ih (w ++ s ++ p)).trans ?_
   rw [join_pre]
   rfl
 intro ws h
 cases ws with
 | nil => exact absurd rfl h
 | cons w ws => exact go ws w
theorem split_ne (x y : Str) : Txt.split x y ≠ [] := by
 unfold Txt.split
 split
 ·exact List.cons_ne_nil _ _
 ·split
  ·exact List.cons_ne_nil _ _
  ·rw [partsBetween_eq]
   obtain ⟨p, r, e⟩ := partsFrom_ne x y.length 0 (occurrences x y 0 x.length (x.length + 1))
   rw [e]
   exact List.cons_ne_nil _ _
theorem split_lines {ls : List Str} (hn : ls ≠ []) (h : ∀ y ∈ ls, noNl y) : Txt.split (Txt.join "\n" ls) "\n" = ls := by
 rw [join_is _ _ hn]
 exact join_inj _ _ (split_ne _ _) hn (split_no _) h (join_split _ _)
end Q07
namespace Q07
open PySem L2 EV
noncomputable def cln : Option Str -> Str
 | none => "catch"
 | some n => "catch " ++ n
mutual
noncomputable def rl : Rw -> List Str
 | .set s e => ["set " ++ s ++ " " ++ wt e]
 | .one w e => [w ++ " " ++ wt e]
 | .iff e b c => ["if " ++ wt e] ++ bl b ++ [("else" : Str)] ++ bl c ++ [("end" : Str)]
 | .whl e b => ["while " ++ wt e] ++ bl b ++ [("end" : Str)]
 | .tri b n c => [("try" : Str)] ++ bl b ++ [cln n] ++ bl c ++ [("end" : Str)]
 | .doo b c => [("do" : Str)] ++ bl b ++ [("undo" : Str)] ++ bl c ++ [("end" : Str)]
 | .want k bs => ["want " ++ Str.ofString (toString k)] ++ bs.map bt ++ [("end" : Str)]
noncomputable def bl : List Rw -> List Str
 | [] => []
 | r :: l => rl r ++ bl l
end
mutual
theorem rl_len : ∀ (r : Rw), r.Ok -> (rl r).length <= 6 * r.size
 | .set s e, _ => by show 1 <= 6 * 1; decide
 | .one w e, _ => by show 1 <= 6 * 1; decide
 | .iff e b c, h => by
  have h1 := bl_len b h.2.1
  have h2 := bl_len c h.2.2
  show (["if " ++ wt e] ++ bl b ++ [("else" : Str)] ++ bl c ++ [("end" : Str)]).length <= 6 * (1 + (sizes b + sizes c))
  simp only [List.length_append, List.length_cons, List.length_nil]
  omega
 | .whl e b, h => by
  have h1 := bl_len b h.2
  show (["while " ++ wt e] ++ bl b ++ [("end" : Str)]).length <= 6 * (1 + sizes b)
  simp only [List.length_append, List.length_cons, List.length_nil]
  omega
 | .tri b n c, h => by
  have h1 := bl_len b h.1
  have h2 := bl_len c h.2.2
  show ([("try" : Str)] ++ bl b ++ [cln n] ++ bl c ++ [("end" : Str)]).length <= 6 * (1 + (sizes b + sizes c))
  simp only [List.length_append, List.length_cons, List.length_nil]
  omega
 | .doo b c, h => by
  have h1 := bl_len b h.1
  have h2 := bl_len c h.2
  show ([("do" : Str)] ++ bl b ++ [("undo" : Str)] ++ bl c ++ [("end" : Str)]).length <= 6 * (1 + (sizes b + sizes c))
  simp only [List.length_append, List.length_cons, List.length_nil]
  omega
 | .want k bs, h => by
  have h1 : bs.length <= 4 := h.2.2.1
  show (["want " ++ Str.ofString (toString k)] ++ bs.map bt ++ [("end" : Str)]).length <= 6 * 1
  simp only [List.length_append, List.length_cons, List.length_nil, List.length_map]
  omega
theorem bl_len : ∀ (l : List Rw), oks l -> (bl l).length <= 6 * sizes l
 | [], _ => Nat.le_refl _
 | r :: l, h => by
  have h1 := rl_len r h.1
  have h2 := bl_len l h.2
  show (rl r ++ bl l).length <= 6 * (r.size + sizes l)
  rw [List.length_append]
  omega
end
theorem size_pos : ∀ (r : Rw), 1 <= r.size
 | .set _ _ | .one _ _ | .want _ _ => Nat.le_refl 1
 | .iff _ _ _ | .whl _ _ | .tri _ _ _ | .doo _ _ => Nat.le_add_right 1 _
theorem bl_app : ∀ (a b : List Rw), bl (a ++ b) = bl a ++ bl b
 | [], b => rfl
 | r :: a, b => by show rl r ++ bl (a ++ b) = rl r ++ bl a ++ bl b; rw [bl_app a b, List.append_assoc]
theorem sizes_app : ∀ (a b : List Rw), sizes (a ++ b) = sizes a + sizes b
 | [], b => by show sizes b = 0 + sizes b; omega
 | r :: a, b => by show r.size + sizes (a ++ b) = r.size + sizes a + sizes b; rw [sizes_app a b]; omega
theorem oks_app : ∀ (a b : List Rw), oks (a ++ b) -> oks a /\ oks b
 | [], b, h => ⟨trivial, h⟩
 | r :: a, b, h => ⟨⟨h.1, (oks_app a b h.2).1⟩, (oks_app a b h.2).2⟩
theorem ins_r : ∀ (r : Rw), isIns r.toD = false
 | .set _ _ | .one _ _ | .iff _ _ _ | .whl _ _ | .tri _ _ _ | .doo _ _ | .want _ _ => rfl
structure Ln (y : Str) : Prop where
 few : y.length <= 4000
 nl : noNl y
end Q07
namespace Q07
open PySem L2 EV
theorem nl_app {x y : Str} (h : noNl x) (k : noNl y) : noNl (x ++ y) := by
 unfold noNl
 rw [Str.cps_append, Array.toList_append]
 intro m
 rcases List.mem_append.mp m with m | m
 ·exact h m
 ·exact k m
theorem nl_wd {s : Str} (h : Wd s) : noNl s := fun m => by have := (h.ab 10 m).1; omega
theorem nl_num {n : Int} (h : 0 <= n) : noNl (Str.ofString (toString n)) := by
 obtain ⟨m, rfl⟩ := Int.eq_ofNat_of_zero_le h
 intro k
 rw [PySem.W.KIN.signs_num] at k
 obtain ⟨c, hc, e⟩ := List.mem_map.mp k
 have := Nat.isDigit_of_mem_toDigits (by decide) (by decide) hc
 have : c = '\n' := Char.ext (UInt32.toNat_inj.mp e)
 subst this
 contradiction
noncomputable def nlB (s : Str) : Bool := !(s.cps.toList.any (· == 10))
theorem nl_of {s : Str} (h : nlB s = true) : noNl s := fun m => by
 have : (s.cps.toList.any (· == 10)) = true := List.any_eq_true.mpr ⟨10, m, rfl⟩
 unfold nlB at h
 rw [this] at h
 cases h
theorem nl_sg {g : Str} (h : g ∈ sgL) : noNl g := by
 have h : g = "+" \/ g = "-" \/ g = "*" \/ g = "<" \/ g = "=" := by simpa [sgL] using h
 rcases h with rfl | rfl | rfl | rfl | rfl <;> exact nl_of (by decide +kernel)
theorem nl_wt : ∀ {k : Nat} {e : Ex}, e.Ok k -> noNl (wt e)
 | k, .nm s, h => nl_wd (by cases k <;> exact h)
 | k, .num n, h => by
  have h : In n := by cases k <;> exact h
  exact nl_num h.1
 | 0, .op _ _ _, h => h.elim
 | k + 1, .op g a b, h => nl_app (nl_app (nl_app (nl_app (nl_of (by decide +kernel)) (nl_wt h.2.1)) (nl_sg h.1)) (nl_wt h.2.2)) (nl_of (by decide +kernel))
theorem nl_jn : ∀ (ws : List Str) (w : Str), noNl w -> (∀ y ∈ ws, noNl y) -> noNl (jn w ws)
 | [], w, h, _ => h
 | y :: ws, w, h, k => nl_jn ws (w ++ " " ++ y) (nl_app (nl_app h (nl_of (by decide +kernel))) (k y List.mem_cons_self)) fun z hz => k z (List.mem_cons_of_mem _ hz)
theorem sh_eq : ("=" : Str).length <= 1280 /\ noNl "=" := ⟨by decide +kernel, nl_of (by decide +kernel)⟩
theorem sh_ask : ("ask" : Str).length <= 1280 /\ noNl "ask" := ⟨by decide +kernel, nl_of (by decide +kernel)⟩
theorem sh_call : ("call" : Str).length <= 1280 /\ noNl "call" := ⟨by decide +kernel, nl_of (by decide +kernel)⟩
theorem sh_wt {e : Ex} (h : e.Ok 3) : (wt e).length <= 1280 /\ noNl (wt e) := ⟨wt_short h, nl_wt h⟩
theorem sh_all {es : List Ex} (h : ∀ e ∈ es, e.Ok 3) : ∀ y ∈ es.map wt, y.length <= 1280 /\ noNl y := fun y hy => by
 obtain ⟨e, he, rfl⟩ := List.mem_map.mp hy
 exact sh_wt (h e he)
theorem sh_cons {P : Str -> Prop} {x : Str} {l : List Str} (h : P x) (k : ∀ y ∈ l, P y) : ∀ y ∈ x :: l, P y := fun y hy => by
 rcases List.mem_cons.mp hy with rfl | hy
 ·exact h
 ·exact k y hy
theorem ln_es {w : Str} {es : List Ex} (h : w.length <= 40) (k : noNl w) (he : ∀ e ∈ es, e.Ok 3) (hl : es.length <= 3) : Ln (jn w (es.map wt)) := by
 refine ⟨?_, nl_jn _ _ k fun y hy => (sh_all he y hy).2⟩
 have := jn_len (B := 1280) (es.map wt) w fun y hy => (sh_all he y hy).1
 have : (1280 + 1) * (es.map wt).length <= (1280 + 1) * 3 := Nat.mul_le_mul_left _ (by rw [List.length_map]; exact hl)
 omega
theorem e_bl : (" " : Str).length = 1 := by decide +kernel
theorem e_as : ("ask" : Str).length = 3 := by decide +kernel
theorem e_ca : ("call" : Str).length = 4 := by decide +kernel
theorem e_eq : ("=" : Str).length = 1 := by decide +kernel
theorem nl_bl : noNl " " := nl_of (by decide +kernel)
theorem ln_bt : ∀ (b : Br), b.Ok -> Ln (bt b)
 | .ask none w e, h => ln_es (w := "ask" ++ " " ++ w) (es := [e]) (by have := h.2.1.hi; simp only [Str.length_append, e_bl, e_as]; omega) (nl_app (nl_app sh_ask.2 nl_bl) (nl_wd h.2.1)) (fun x hx => by rw [List.mem_singleton.mp hx]; exact h.2.2) (by simp)
 | .ask (some n) w e, h => ln_es (w := n ++ " " ++ "=" ++ " " ++ "ask" ++ " " ++ w) (es := [e]) (by have := h.2.1.hi; have := (h.1 n rfl).hi; simp only [Str.length_append, e_bl, e_as, e_eq]; omega) (nl_app (nl_app (nl_app (nl_app (nl_app (nl_app (nl_wd (h.1 n rfl)) nl_bl) sh_eq.2) nl_bl) sh_ask.2) nl_bl) (nl_wd h.2.1)) (fun x hx => by rw [List.mem_singleton.mp hx]; exact h.2.2) (by simp)
 | .call none t es, h => ln_es (w := "call" ++ " " ++ t) (es := es) (by have := h.2.1.hi; simp only [Str.length_append, e_bl, e_ca]; omega) (nl_app (nl_app sh_call.2 nl_bl) (nl_wd h.2.1)) h.2.2.2 h.2.2.1
 | .call (some n) t es, h => ln_es (w := n ++ " " ++ "=" ++ " " ++ "call" ++ " " ++ t) (es := es) (by have := h.2.1.hi; have := (h.1 n rfl).hi; simp only [Str.length_append, e_bl, e_ca, e_eq]; omega) (nl_app (nl_app (nl_app (nl_app (nl_app (nl_app (nl_wd (h.1 n rfl)) nl_bl) sh_eq.2) nl_bl) sh_call.2) nl_bl) (nl_wd h.2.1)) h.2.2.2 h.2.2.1
theorem ln_app {x y : Str} (hx : x.length <= 1400) (kx : noNl x) (hy : y.length <= 1400) (ky : noNl y) : Ln (x ++ y) := ⟨by rw [Str.length_append]; omega, nl_app kx ky⟩
theorem ln_all {a b : List Str} (h : ∀ y ∈ a, Ln y) (k : ∀ y ∈ b, Ln y) : ∀ y ∈ a ++ b, Ln y := fun y hy => by
 rcases List.mem_append.mp hy with hy | hy
 ·exact h y hy
 ·exact k y hy
theorem ln_con {s : Str} (h : decide (s.length <= 4000) = true) (k : nlB s = true) : ∀ y ∈ [s], Ln y := fun y hy => by
 rw [List.mem_singleton.mp hy]
 exact ⟨of_decide_eq_true h, nl_of k⟩
theorem ln_one {s : Str} (h : Ln s) : ∀ y ∈ [s], Ln y := fun y hy => by rw [List.mem_singleton.mp hy]; exact h
theorem ln_pre {s : Str} {e : Ex} (h : decide (s.length <= 1400) = true) (k : nlB s = true) (o : e.Ok 3) : Ln (s ++ wt e) := ln_app (of_decide_eq_true h) (nl_of k) (by have := wt_short o; omega) (nl_wt o)
theorem ln_cln : ∀ (n : Option Str), (∀ s, n = some s -> Wd s) -> Ln (cln n)
 | none, _ => ⟨by decide +kernel, nl_of (by decide +kernel)⟩
 | some s, h => ln_app (by decide +kernel) (nl_of (by decide +kernel)) (by have := (h s rfl).hi; omega) (nl_wd (h s rfl))
mutual
theorem rl_ln : ∀ (r : Rw), r.Ok -> ∀ y ∈ rl r, Ln y
 | .set s e, h => ln_one (by
  have := h.1.hi
  refine ln_app ?_ (nl_app (nl_app (nl_of (by decide +kernel)) (nl_wd h.1)) (nl_of (by decide +kernel))) (by have := wt_short h.2; omega) (nl_wt h.2)
  rw [Str.length_append, Str.length_append]
  have e1 : ("set " : Str).length = 4 := by decide +kernel
  have e2 : (" " : Str).length = 1 := by decide +kernel
  omega)
 | .one w e, h => ln_one (by
  obtain ⟨h1, h2⟩ := h
  rcases h1 with rfl | rfl | rfl <;> exact ln_pre (by decide +kernel) (by decide +kernel) h2)
 | .iff e b c, h => ln_all (ln_all (ln_all (ln_all (ln_one (ln_pre (by decide +kernel) (by decide +kernel) h.1)) (bl_ln b h.2.1)) (ln_con (by decide +kernel) (by decide +kernel))) (bl_ln c h.2.2)) (ln_con (by decide +kernel) (by decide +kernel))
 | .whl e b, h => ln_all (ln_all (ln_one (ln_pre (by decide +kernel) (by decide +kernel) h.1)) (bl_ln b h.2)) (ln_con (by decide +kernel) (by decide +kernel))
 | .tri b n c, h => ln_all (ln_all (ln_all (ln_all (ln_con (by decide +kernel) (by decide +kernel)) (bl_ln b h.1)) (ln_one (ln_cln n h.2.1))) (bl_ln c h.2.2)) (ln_con (by decide +kernel) (by decide +kernel))
 | .doo b c, h => ln_all (ln_all (ln_all (ln_all (ln_con (by decide +kernel) (by decide +kernel)) (bl_ln b h.1)) (ln_con (by decide +kernel) (by decide +kernel))) (bl_ln c h.2)) (ln_con (by decide +kernel) (by decide +kernel))
 | .want k bs, h => ln_all (ln_all (ln_one (by
   obtain ⟨h1, h2, h3, _⟩ := h
   have : In k := ⟨by omega, by omega⟩
   have := num_len this
   exact ln_app (by decide +kernel) (nl_of (by decide +kernel)) (by omega) (nl_num (by omega)))) (fun y hy => by
   obtain ⟨b, hb, rfl⟩ := List.mem_map.mp hy
   exact ln_bt b (h.2.2.2 b hb))) (ln_con (by decide +kernel) (by decide +kernel))
theorem bl_ln : ∀ (l : List Rw), oks l -> ∀ y ∈ bl l, Ln y
 | [], _ => fun _ h => absurd h List.not_mem_nil
 | r :: l, h => ln_all (rl_ln r h.1) (bl_ln l h.2)
end
end Q07
namespace Q07
open PySem L2 EV
noncomputable def BlAt (K n : Nat) : Prop := ∀ l, oks l -> sizes l <= n -> ∀ S, callW F wh K 2 [.tup (rowsD l)] (fun x S' => x = (LS (bl l), .fr) /\ S' = S) S
theorem comp_bt {K : Nat} (hK : 5 <= K) {ρ : List Slot} {V : List D -> Store -> Prop} {S : Store} {es : List Br} (he : ∀ e ∈ es, e.Ok) (hl : es.length <= 4) (q : V ((es.map bt).map D.str) S) : walkW (cStep (callW F wh K) ρ (.one 0) [] [] (.call 4 [.var 0])) (es.map Br.toD) [] V S := by
 refine wp_comp (c_mono (call_mono _)) (fun l acc S' => S' = S /\ ∃ xs ys : List Br, l = ys.map Br.toD /\ acc = (xs.map bt).map D.str /\ es = xs ++ ys) ?_ ?_ _ _ _ ⟨rfl, [], es, rfl, rfl, rfl⟩
 ·rintro d l acc S' ⟨rfl, xs, ys, el, rfl, ee⟩
  cases ys with
  | nil => cases el
  | cons y ys =>
   cases el
   have hy : y.Ok := he y (by rw [ee]; simp)
   have hxl : xs.length <= 4 := by rw [ee] at hl; simp at hl; omega
   refine ops_mk (bindT1 (by simp [inn, nT]) (by cases y <;> rfl)) ?_
   dsimp only [wpF, e_call, wpEs, e_var, inn, nT, List.replicate, List.map, List.append_nil, List.set]
   nofun
   refine wp_mono (line_ok hy (by omega) S') ?_
   rintro _ _ ⟨rfl, rfl⟩
   nofun
   exact ⟨rfl, xs ++ [y], ys, rfl, by simp, by rw [ee]; simp⟩
 ·rintro acc S' ⟨rfl, xs, ys, el, rfl, ee⟩
  have hy : ys = [] := by
   cases ys with
   | nil => rfl
   | cons _ _ => cases el
  subst hy
  rw [List.append_nil] at ee
  rw [<- ee]
  exact q
set_option maxHeartbeats 4000000 in
theorem rline_ok {K n : Nat} (hK : 5 <= K) (hn : n <= 26) (hb : BlAt K n) : ∀ (r : Rw), r.Ok -> r.size <= n + 1 -> ∀ S, callW F wh (K + 1) 3 [r.toD] (fun x S' => x = (LS (rl r), .fr) /\ S' = S) S := by
 intro r o hs S
 have e1 : (" " : Str).length = 1 := by decide +kernel
 cases r with
 | set s e =>
  obtain ⟨o1, o2⟩ := o
  have h1 := o1.hi
  have h2 := wt_short o2
  have e4 : ("set " : Str).length = 4 := by decide +kernel
  refine w_row_lines (x0 := .tup [.str "set", .str s, e.toD]) ?_
  nofun
  refine opv_s (adds_op (by omega)) ?_
  nofun
  refine opv_s (adds_op (by rw [Str.length_append]; omega)) ?_
  nofun
  refine wp_mono (wt_ok 3 e (by decide) o2 K (by omega) S) ?_
  rintro _ S ⟨rfl, rfl⟩
  refine opv_s (adds_op (by rw [Str.length_append, Str.length_append]; omega)) ?_
  nofun
  exact ⟨rfl, rfl⟩
 | one w e =>
  obtain ⟨o1, o2⟩ := o
  have h2 := wt_short o2
  have hw : w.length = 4 := by rcases o1 with rfl | rfl | rfl <;> decide +kernel
  refine w_row_lines (x0 := .tup [.str w, e.toD]) ?_
  have fin : ∀ S', S' = S -> callW F wh K 0 [e.toD] (fun x S' => x = (.str (wt e), .st) /\ S' = S) S' := fun S' h => by subst h; exact wt_ok 3 e (by decide) o2 K (by omega) S'
  rcases o1 with rfl | rfl | rfl
  all_goals
   nofun
   refine wp_mono (fin S rfl) ?_
   rintro _ S ⟨rfl, rfl⟩
   refine opv_s (adds_op (by rw [Str.length_append]; omega)) ?_
   nofun
   exact ⟨rfl, rfl⟩
 | iff e b c =>
  obtain ⟨o1, o2, o3⟩ := o
  have hs : 1 + (sizes b + sizes c) <= n + 1 := hs
  have l1 := bl_len b o2
  have l2 := bl_len c o3
  have h2 := wt_short o1
  have e4 : ("if " : Str).length = 3 := by decide +kernel
  refine w_row_lines (x0 := .tup [.str "if", e.toD, .tup (rowsD b), .tup (rowsD c)]) ?_
  nofun
  refine wp_mono (wt_ok 3 e (by decide) o1 K (by omega) S) ?_
  rintro _ S ⟨rfl, rfl⟩
  refine opv_s (adds_op (by omega)) ?_
  nofun
  refine wp_mono (hb b o2 (by omega) S) ?_
  rintro _ S ⟨rfl, rfl⟩
  refine opv_f (addl_op (by simp; omega)) ?_
  nofun
  refine opv_f (addl_op (by simp; omega)) ?_
  nofun
  refine wp_mono (hb c o3 (by omega) S) ?_
  rintro _ S ⟨rfl, rfl⟩
  refine opv_f (addl_op (by simp; omega)) ?_
  nofun
  refine opv_f (addl_op (by simp; omega)) ?_
  nofun
  exact ⟨by simp [LS, rl], rfl⟩
 | whl e b =>
  obtain ⟨o1, o2⟩ := o
  have hs : 1 + sizes b <= n + 1 := hs
  have l1 := bl_len b o2
  have h2 := wt_short o1
  have e4 : ("while " : Str).length = 6 := by decide +kernel
  refine w_row_lines (x0 := .tup [.str "while", e.toD, .tup (rowsD b)]) ?_
  nofun
  refine wp_mono (wt_ok 3 e (by decide) o1 K (by omega) S) ?_
  rintro _ S ⟨rfl, rfl⟩
  refine opv_s (adds_op (by omega)) ?_
  nofun
  refine wp_mono (hb b o2 (by omega) S) ?_
  rintro _ S ⟨rfl, rfl⟩
  refine opv_f (addl_op (by simp; omega)) ?_
  nofun
  refine opv_f (addl_op (by simp; omega)) ?_
  nofun
  exact ⟨by simp [LS, rl], rfl⟩
 | tri b m c =>
  obtain ⟨o1, o2, o3⟩ := o
  have hs : 1 + (sizes b + sizes c) <= n + 1 := hs
  have l1 := bl_len b o1
  have l2 := bl_len c o3
  have e4 : ("catch " : Str).length = 6 := by decide +kernel
  refine w_row_lines (x0 := .tup [.str "try", .tup (rowsD b), oD m, .tup (rowsD c)]) ?_
  nofun
  cases m with
  | none =>
   refine tst_T rfl ?_
   nofun
   refine wp_mono (hb b o1 (by omega) S) ?_
   rintro _ S ⟨rfl, rfl⟩
   refine opv_f (addl_op (by simp; omega)) ?_
   nofun
   refine opv_f (addl_op (by simp; omega)) ?_
   nofun
   refine wp_mono (hb c o3 (by omega) S) ?_
   rintro _ S ⟨rfl, rfl⟩
   refine opv_f (addl_op (by simp; omega)) ?_
   nofun
   refine opv_f (addl_op (by simp; omega)) ?_
   nofun
   exact ⟨by simp [LS, rl, cln], rfl⟩
  | some s =>
   have := (o2 s rfl).hi
   refine tst_F rfl ?_
   nofun
   refine opv_s (adds_op (by omega)) ?_
   nofun
   refine wp_mono (hb b o1 (by omega) S) ?_
   rintro _ S ⟨rfl, rfl⟩
   refine opv_f (addl_op (by simp; omega)) ?_
   nofun
   refine opv_f (addl_op (by simp; omega)) ?_
   nofun
   refine wp_mono (hb c o3 (by omega) S) ?_
   rintro _ S ⟨rfl, rfl⟩
   refine opv_f (addl_op (by simp; omega)) ?_
   nofun
   refine opv_f (addl_op (by simp; omega)) ?_
   nofun
   exact ⟨by simp [LS, rl, cln], rfl⟩
 | doo b c =>
  obtain ⟨o1, o3⟩ := o
  have hs : 1 + (sizes b + sizes c) <= n + 1 := hs
  have l1 := bl_len b o1
  have l2 := bl_len c o3
  refine w_row_lines (x0 := .tup [.str "do", .tup (rowsD b), .tup (rowsD c)]) ?_
  nofun
  refine wp_mono (hb b o1 (by omega) S) ?_
  rintro _ S ⟨rfl, rfl⟩
  refine opv_f (addl_op (by simp; omega)) ?_
  nofun
  refine opv_f (addl_op (by simp; omega)) ?_
  nofun
  refine wp_mono (hb c o3 (by omega) S) ?_
  rintro _ S ⟨rfl, rfl⟩
  refine opv_f (addl_op (by simp; omega)) ?_
  nofun
  refine opv_f (addl_op (by simp; omega)) ?_
  nofun
  exact ⟨by simp [LS, rl, cln], rfl⟩
 | want k bs =>
  obtain ⟨o1, o2, o3, o4⟩ := o
  have hk : In k := ⟨by omega, by omega⟩
  have h2 := num_len hk
  have e4 : ("want " : Str).length = 5 := by decide +kernel
  refine w_row_lines (x0 := .tup [.str "want", .int k, .tup (bs.map Br.toD)]) ?_
  nofun
  refine opv_s (d := .str (toString k)) (by show (if decide (k.natAbs.log2 < 1920) = true then _ else _) = _; rw [if_pos (decide_eq_true (num_log hk))]) ?_
  refine opv_s (adds_op (by omega)) ?_
  nofun
  refine wp_lc ?_
  dsimp only [wpI, e_var]
  nofun
  refine comp_bt (es := bs) (by omega) o4 o3 ?_
  refine opv_f (addl_op (by simp; omega)) ?_
  nofun
  refine opv_f (addl_op (by simp; omega)) ?_
  nofun
  exact ⟨by simp [LS, rl], rfl⟩
end Q07
namespace Q07
open PySem L2 EV
theorem bl_at : ∀ (n K : Nat), n <= 26 -> 2 * n + 6 <= K -> BlAt K n := by
 intro n
 induction n with
 | zero =>
  intro K hn hK l o hs S
  obtain ⟨K, rfl⟩ : ∃ k, K = k + 1 := ⟨K - 1, by omega⟩
  have : l = [] := by
   cases l with
   | nil => rfl
   | cons r l =>
    have h : r.size + sizes l <= 0 := hs
    have := size_pos r
    omega
  subst this
  refine w_block_lines (x0 := .tup []) ?_
  nofun
  refine wp_walk (fun l ρ S' => S' = S /\ l = [] /\ ρ = [.sh (.tup []), .ow (.lst []), .no]) ?_ ?_ _ _ _ ⟨rfl, rfl, rfl⟩
  ·rintro d l ρ S' ⟨_, h, _⟩
   cases h
  ·rintro ρ S' ⟨rfl, _, rfl⟩
   nofun
   exact ⟨rfl, rfl⟩
 | succ n ih =>
  intro K hn hK l o hs S
  obtain ⟨K, rfl⟩ : ∃ k, K = k + 1 := ⟨K - 1, by omega⟩
  have hr := fun r hr hs => rline_ok (K := K - 1) (n := n) (by omega) (by omega) (ih (K - 1) (by omega) (by omega)) r hr hs
  have eK : K - 1 + 1 = K := by omega
  rw [eK] at hr
  refine w_block_lines (x0 := .tup (rowsD l)) ?_
  nofun
  refine wp_walk (fun m ρ S' => S' = S /\ ∃ (xs ys : List Rw) (x2 : Slot), m = rowsD ys /\ l = xs ++ ys /\ ρ = [.sh (.tup (rowsD l)), .ow (LS (bl xs)), x2]) ?_ ?_ _ _ _ ⟨rfl, [], l, .no, rfl, rfl, rfl⟩
  ·rintro d m ρ S' ⟨rfl, xs, ys, x2, el, ee, rfl⟩
   cases ys with
   | nil => cases el
   | cons y ys =>
    cases el
    rw [ee] at o hs
    obtain ⟨oa, ob⟩ := oks_app xs (y :: ys) o
    have l1 := bl_len xs oa
    have l2 := rl_len y ob.1
    rw [sizes_app] at hs
    have hs : sizes xs + (y.size + sizes ys) <= n + 1 := hs
    refine ops_mk (bindT1 (by simp) (ins_r y)) ?_
    simp only [List.set]
    nofun
    refine wp_mono (hr y ob.1 (by omega) S') ?_
    rintro _ _ ⟨rfl, rfl⟩
    nofun
    refine ⟨rfl, xs ++ [y], ys, .sh y.toD, rfl, by rw [ee]; simp, ?_⟩
    rw [bl_app, <- List.map_append]
    show _ = [_, Slot.ow (.lst ((bl xs ++ (rl y ++ [])).map D.str)), _]
    rw [List.append_nil]
  ·rintro ρ S' ⟨rfl, xs, ys, x2, el, ee, rfl⟩
   have hy : ys = [] := by
    cases ys with
    | nil => rfl
    | cons _ _ => cases el
   subst hy
   rw [List.append_nil] at ee
   subst ee
   nofun
   exact ⟨rfl, rfl⟩
end Q07
namespace Q07
open PySem L2 EV
noncomputable def RtAt (K n : Nat) : Prop := ∀ l, oks l -> sizes l <= n -> ∀ S, callW F wh K 18 [.tup (rowsD l)] (fun x S' => x = (LS (bl l), .fr) /\ S' = S) S
noncomputable def rtB : List C := match b__law_rows_text with
 | [_, .forr _ _ b, _] => b
 | _ => []
section
variable {K n : Nat} {fs : List Str} {x0 x3 x4 x5 : Slot} {S : Store} {V : Ko} {I : List Slot -> Store -> Prop}
theorem rt_set (hK : 6 <= K) (hf : fs.length <= 200) {s : Str} {e : Ex} (o1 : Wd s) (o2 : e.Ok 3) (q : ∀ x3 x4 x5, I [x0, .ow (LS (fs ++ rl (.set s e))), .sh (Rw.set s e).toD, x3, x4, x5] S) :
  wpCs (callW F wh K) wh rtB [x0, .ow (LS fs), .sh (Rw.set s e).toD, x3, x4, x5] (trn V I) S := by
 have h1 := o1.hi
 have h2 := wt_short o2
 have e1 : (" " : Str).length = 1 := by decide +kernel
 have e4 : ("set " : Str).length = 4 := by decide +kernel
 have q := fun x3 x4 x5 => q x3 x4 x5
 show wpCs _ _ [_, _, _, _, _, _, _, _, _, _] [x0, .ow (LS fs), .sh (.tup [.str "set", .str s, e.toD]), x3, x4, x5] _ _
 nofun
 refine opv_s (adds_op (x := "set ") (by omega)) ?_
 nofun
 refine opv_s (adds_op (x := "set " ++ s) (by rw [Str.length_append]; omega)) ?_
 nofun
 refine wp_mono (lwt_ok 3 e (by decide) o2 K (by omega) S) ?_
 rintro _ S ⟨rfl, rfl⟩
 refine opv_s (adds_op (x := "set " ++ s ++ " ") (by rw [Str.length_append, Str.length_append]; omega)) ?_
 nofun
 rw [str_snoc]
 exact q _ _ _
end
end Q07
namespace Q07
open PySem L2 EV
section
variable {K n : Nat} {fs : List Str} {x0 x3 x4 x5 : Slot} {S : Store} {V : Ko} {I : List Slot -> Store -> Prop}
theorem rt_one (hK : 6 <= K) (hf : fs.length <= 200) {w : Str} {e : Ex} (o1 : w = "tell" \/ w = "give" \/ w = "fail") (o2 : e.Ok 3) (q : ∀ x3 x4 x5, I [x0, .ow (LS (fs ++ rl (.one w e))), .sh (Rw.one w e).toD, x3, x4, x5] S) :
  wpCs (callW F wh K) wh rtB [x0, .ow (LS fs), .sh (Rw.one w e).toD, x3, x4, x5] (trn V I) S := by
 have h2 := wt_short o2
 have e1 : (" " : Str).length = 1 := by decide +kernel
 have hw : w.length = 4 := by rcases o1 with rfl | rfl | rfl <;> decide +kernel
 have fin := lwt_ok 3 e (by decide) o2 K (by omega) S
 show wpCs _ _ [_, _, _, _, _, _, _, _, _, _] [x0, .ow (LS fs), .sh (.tup [.str w, e.toD]), x3, x4, x5] _ _
 rcases o1 with rfl | rfl | rfl
 all_goals
  nofun
  refine wp_mono fin ?_
  rintro _ S ⟨rfl, rfl⟩
  refine opv_s (adds_op (by rw [Str.length_append]; omega)) ?_
  nofun
  rw [str_snoc]
  exact q _ _ _
theorem rt_want (hK : 6 <= K) (hf : fs.length <= 200) {k : Int} {bs : List Br} (o : (Rw.want k bs).Ok) (q : ∀ x3 x4 x5, I [x0, .ow (LS (fs ++ rl (.want k bs))), .sh (Rw.want k bs).toD, x3, x4, x5] S) :
  wpCs (callW F wh K) wh rtB [x0, .ow (LS fs), .sh (Rw.want k bs).toD, x3, x4, x5] (trn V I) S := by
 obtain ⟨o1, o2, o3, o4⟩ := o
 have hk : In k := ⟨by omega, by omega⟩
 have h2 := num_len hk
 have e4 : ("want " : Str).length = 5 := by decide +kernel
 show wpCs _ _ [_, _, _, _, _, _, _, _, _, _] [x0, .ow (LS fs), .sh (.tup [.str "want", .int k, .tup (bs.map Br.toD)]), x3, x4, x5] _ _
 nofun
 refine opv_s (d := .str (toString k)) (by show (if decide (k.natAbs.log2 < 1920) = true then _ else _) = _; rw [if_pos (decide_eq_true (num_log hk))]) ?_
 refine opv_s (adds_op (x := "want ") (by omega)) ?_
 nofun
 rw [str_snoc]
 generalize hg : fs ++ ["want " ++ Str.ofString (toString k)] = gs
 have hgl : gs.length <= 201 := by rw [<- hg]; simp; omega
 refine wp_walk (fun l ρ S' => S' = S /\ ∃ (xs ys : List Br) (x5 : Slot), l = ys.map Br.toD /\ bs = xs ++ ys /\ ρ = [x0, .ow (LS (gs ++ xs.map bt)), .sh (.tup [.str "want", .int k, .tup (bs.map Br.toD)]), .sh (.str "want"), .sh (.str "want"), x5]) ?_ ?_ _ _ _ ⟨rfl, [], bs, x5, rfl, rfl, by simp⟩
 ·rintro d l ρ S' ⟨rfl, xs, ys, x5, el, ee, rfl⟩
  cases ys with
  | nil => cases el
  | cons y ys =>
   cases el
   have hy : y.Ok := o4 y (by rw [ee]; simp)
   have hxl : xs.length <= 4 := by rw [ee] at o3; simp at o3; omega
   refine ops_mk (bindT1 (by simp) (by cases y <;> rfl)) ?_
   simp only [List.set]
   nofun
   refine wp_mono (text_ok hy (by omega) S') ?_
   rintro _ _ ⟨rfl, rfl⟩
   nofun
   refine ⟨rfl, xs ++ [y], ys, .sh y.toD, rfl, by rw [ee]; simp, ?_⟩
   simp [LS]
 ·rintro ρ S' ⟨rfl, xs, ys, x5, el, ee, rfl⟩
  have hy : ys = [] := by
   cases ys with
   | nil => rfl
   | cons _ _ => cases el
  subst hy
  rw [List.append_nil] at ee
  have hxl : xs.length <= 4 := by rw [<- ee]; exact o3
  nofun
  have e : (gs ++ xs.map bt).map D.str ++ [D.str "end"] = (fs ++ rl (.want k bs)).map D.str := by
   rw [<- hg, ee]; simp [rl]
  rw [e]
  exact q _ _ _
end
end Q07
namespace Q07
open PySem L2 EV
section
variable {K n : Nat} {fs : List Str} {x0 x3 x4 x5 : Slot} {S : Store} {V : Ko} {I : List Slot -> Store -> Prop}
theorem fin_eq {d a b c : Slot} {X Y : List D} (q : ∀ a b c, I [x0, .ow (.lst X), d, a, b, c] S) (h : Y = X) : I [x0, .ow (.lst Y), d, a, b, c] S := by rw [h]; exact q _ _ _
theorem rt_iff (hK : 6 <= K) (hn : n <= 26) (hb : RtAt K n) (hf : fs.length <= 200) {e : Ex} {b c : List Rw} (o : (Rw.iff e b c).Ok) (hs : (Rw.iff e b c).size <= n + 1) (q : ∀ x3 x4 x5, I [x0, .ow (LS (fs ++ rl (.iff e b c))), .sh (Rw.iff e b c).toD, x3, x4, x5] S) :
  wpCs (callW F wh K) wh rtB [x0, .ow (LS fs), .sh (Rw.iff e b c).toD, x3, x4, x5] (trn V I) S := by
 obtain ⟨o1, o2, o3⟩ := o
 have hs : 1 + (sizes b + sizes c) <= n + 1 := hs
 have l1 := bl_len b o2
 have l2 := bl_len c o3
 have h2 := wt_short o1
 have e4 : ("if " : Str).length = 3 := by decide +kernel
 show wpCs _ _ [_, _, _, _, _, _, _, _, _, _] [x0, .ow (LS fs), .sh (.tup [.str "if", e.toD, .tup (rowsD b), .tup (rowsD c)]), x3, x4, x5] _ _
 nofun
 refine wp_mono (lwt_ok 3 e (by decide) o1 K (by omega) S) ?_
 rintro _ S ⟨rfl, rfl⟩
 refine opv_s (adds_op (x := "if ") (by omega)) ?_
 nofun
 rw [str_snoc]
 refine wp_mono (hb b o2 (by omega) S) ?_
 rintro _ S ⟨rfl, rfl⟩
 refine opv_f (addl_op (by simp; omega)) ?_
 nofun
 refine opv_f (addl_op (by simp; omega)) ?_
 nofun
 refine wp_mono (hb c o3 (by omega) S) ?_
 rintro _ S ⟨rfl, rfl⟩
 refine opv_f (addl_op (by simp; omega)) ?_
 nofun
 exact fin_eq q (by simp [rl])
theorem rt_whl (hK : 6 <= K) (hn : n <= 26) (hb : RtAt K n) (hf : fs.length <= 200) {e : Ex} {b : List Rw} (o : (Rw.whl e b).Ok) (hs : (Rw.whl e b).size <= n + 1) (q : ∀ x3 x4 x5, I [x0, .ow (LS (fs ++ rl (.whl e b))), .sh (Rw.whl e b).toD, x3, x4, x5] S) :
  wpCs (callW F wh K) wh rtB [x0, .ow (LS fs), .sh (Rw.whl e b).toD, x3, x4, x5] (trn V I) S := by
 obtain ⟨o1, o2⟩ := o
 have hs : 1 + sizes b <= n + 1 := hs
 have l1 := bl_len b o2
 have h2 := wt_short o1
 have e4 : ("while " : Str).length = 6 := by decide +kernel
 show wpCs _ _ [_, _, _, _, _, _, _, _, _, _] [x0, .ow (LS fs), .sh (.tup [.str "while", e.toD, .tup (rowsD b)]), x3, x4, x5] _ _
 nofun
 refine wp_mono (lwt_ok 3 e (by decide) o1 K (by omega) S) ?_
 rintro _ S ⟨rfl, rfl⟩
 refine opv_s (adds_op (x := "while ") (by omega)) ?_
 nofun
 rw [str_snoc]
 refine wp_mono (hb b o2 (by omega) S) ?_
 rintro _ S ⟨rfl, rfl⟩
 refine opv_f (addl_op (by simp; omega)) ?_
 nofun
 exact fin_eq q (by simp [rl])
end
end Q07
namespace Q07
open PySem L2 EV
section
variable {K n : Nat} {fs : List Str} {x0 x3 x4 x5 : Slot} {S : Store} {V : Ko} {I : List Slot -> Store -> Prop}
theorem rt_tri (hK : 6 <= K) (hn : n <= 26) (hb : RtAt K n) (hf : fs.length <= 200) {m : Option Str} {b c : List Rw} (o : (Rw.tri b m c).Ok) (hs : (Rw.tri b m c).size <= n + 1) (q : ∀ x3 x4 x5, I [x0, .ow (LS (fs ++ rl (.tri b m c))), .sh (Rw.tri b m c).toD, x3, x4, x5] S) :
  wpCs (callW F wh K) wh rtB [x0, .ow (LS fs), .sh (Rw.tri b m c).toD, x3, x4, x5] (trn V I) S := by
 obtain ⟨o1, o2, o3⟩ := o
 have hs : 1 + (sizes b + sizes c) <= n + 1 := hs
 have l1 := bl_len b o1
 have l2 := bl_len c o3
 have e4 : ("catch " : Str).length = 6 := by decide +kernel
 show wpCs _ _ [_, _, _, _, _, _, _, _, _, _] [x0, .ow (LS fs), .sh (.tup [.str "try", .tup (rowsD b), oD m, .tup (rowsD c)]), x3, x4, x5] _ _
 nofun
 rw [str_snoc]
 refine wp_mono (hb b o1 (by omega) S) ?_
 rintro _ S ⟨rfl, rfl⟩
 refine opv_f (addl_op (by simp; omega)) ?_
 nofun
 cases m with
 | none =>
  refine tst_F rfl ?_
  nofun
  refine opv_f (addl_op (by simp; omega)) ?_
  nofun
  refine wp_mono (hb c o3 (by omega) S) ?_
  rintro _ S ⟨rfl, rfl⟩
  refine opv_f (addl_op (by simp; omega)) ?_
  nofun
  exact fin_eq q (by simp [rl, cln])
 | some s =>
  have := (o2 s rfl).hi
  refine tst_T rfl ?_
  nofun
  refine opv_s (adds_op (x := "catch ") (by omega)) ?_
  nofun
  refine opv_f (addl_op (by simp; omega)) ?_
  nofun
  refine wp_mono (hb c o3 (by omega) S) ?_
  rintro _ S ⟨rfl, rfl⟩
  refine opv_f (addl_op (by simp; omega)) ?_
  nofun
  exact fin_eq q (by simp [rl, cln])
theorem rt_doo (hK : 6 <= K) (hn : n <= 26) (hb : RtAt K n) (hf : fs.length <= 200) {b c : List Rw} (o : (Rw.doo b c).Ok) (hs : (Rw.doo b c).size <= n + 1) (q : ∀ x3 x4 x5, I [x0, .ow (LS (fs ++ rl (.doo b c))), .sh (Rw.doo b c).toD, x3, x4, x5] S) :
  wpCs (callW F wh K) wh rtB [x0, .ow (LS fs), .sh (Rw.doo b c).toD, x3, x4, x5] (trn V I) S := by
 obtain ⟨o1, o3⟩ := o
 have hs : 1 + (sizes b + sizes c) <= n + 1 := hs
 have l1 := bl_len b o1
 have l2 := bl_len c o3
 show wpCs _ _ [_, _, _, _, _, _, _, _, _, _] [x0, .ow (LS fs), .sh (.tup [.str "do", .tup (rowsD b), .tup (rowsD c)]), x3, x4, x5] _ _
 nofun
 rw [str_snoc]
 refine wp_mono (hb b o1 (by omega) S) ?_
 rintro _ S ⟨rfl, rfl⟩
 refine opv_f (addl_op (by simp; omega)) ?_
 nofun
 refine opv_f (addl_op (by simp; omega)) ?_
 nofun
 refine wp_mono (hb c o3 (by omega) S) ?_
 rintro _ S ⟨rfl, rfl⟩
 refine opv_f (addl_op (by simp; omega)) ?_
 nofun
 exact fin_eq q (by simp [rl])
end
end Q07
namespace Q07
open PySem L2 EV
theorem rt_row {K n : Nat} {fs : List Str} {x0 x3 x4 x5 : Slot} {S : Store} {V : Ko} {I : List Slot -> Store -> Prop} (hK : 6 <= K) (hn : n <= 26) (hb : RtAt K n) (hf : fs.length <= 200) : ∀ (y : Rw), y.Ok -> y.size <= n + 1 -> (∀ x3 x4 x5, I [x0, .ow (LS (fs ++ rl y)), .sh y.toD, x3, x4, x5] S) -> wpCs (callW F wh K) wh rtB [x0, .ow (LS fs), .sh y.toD, x3, x4, x5] (trn V I) S
 | .set s e, o, _, q => rt_set hK hf o.1 o.2 q
 | .one w e, o, _, q => rt_one hK hf o.1 o.2 q
 | .iff e b c, o, h, q => rt_iff hK hn hb hf o h q
 | .whl e b, o, h, q => rt_whl hK hn hb hf o h q
 | .tri b m c, o, h, q => rt_tri hK hn hb hf o h q
 | .doo b c, o, h, q => rt_doo hK hn hb hf o h q
 | .want k bs, o, _, q => rt_want hK hf o q
theorem rt_at : ∀ (n K : Nat), n <= 26 -> n + 7 <= K -> RtAt K n := by
 intro n
 induction n with
 | zero =>
  intro K hn hK l o hs S
  obtain ⟨K, rfl⟩ : ∃ k, K = k + 1 := ⟨K - 1, by omega⟩
  have : l = [] := by
   cases l with
   | nil => rfl
   | cons r l =>
    have h : r.size + sizes l <= 0 := hs
    have := size_pos r
    omega
  subst this
  refine w__law_rows_text (x0 := .tup []) ?_
  nofun
  refine wp_walk (fun l ρ S' => S' = S /\ l = [] /\ ρ = [.sh (.tup []), .ow (.lst []), .no, .no, .no, .no]) ?_ ?_ _ _ _ ⟨rfl, rfl, rfl⟩
  ·rintro d l ρ S' ⟨_, h, _⟩
   cases h
  ·rintro ρ S' ⟨rfl, _, rfl⟩
   nofun
   exact ⟨rfl, rfl⟩
 | succ n ih =>
  intro K hn hK l o hs S
  obtain ⟨K, rfl⟩ : ∃ k, K = k + 1 := ⟨K - 1, by omega⟩
  have hb := ih K (by omega) (by omega)
  refine w__law_rows_text (x0 := .tup (rowsD l)) ?_
  nofun
  refine wp_walk (fun m ρ S' => S' = S /\ ∃ (xs ys : List Rw) (x2 x3 x4 x5 : Slot), m = rowsD ys /\ l = xs ++ ys /\ ρ = [.sh (.tup (rowsD l)), .ow (LS (bl xs)), x2, x3, x4, x5]) ?_ ?_ _ _ _ ⟨rfl, [], l, .no, .no, .no, .no, rfl, rfl, rfl⟩
  ·rintro d m ρ S' ⟨rfl, xs, ys, x2, x3, x4, x5, el, ee, rfl⟩
   cases ys with
   | nil => cases el
   | cons y ys =>
    cases el
    rw [ee] at o hs
    obtain ⟨oa, ob⟩ := oks_app xs (y :: ys) o
    have l1 := bl_len xs oa
    rw [sizes_app] at hs
    have hs : sizes xs + (y.size + sizes ys) <= n + 1 := hs
    refine ops_mk (bindT1 (by simp) (ins_r y)) ?_
    simp only [List.set]
    refine rt_row (by omega) (by omega) hb (by omega) y ob.1 (by omega) fun x3 x4 x5 => ?_
    refine ⟨rfl, xs ++ [y], ys, .sh y.toD, x3, x4, x5, rfl, by rw [ee]; simp, ?_⟩
    rw [bl_app]
    show _ = [_, Slot.ow (.lst ((bl xs ++ (rl y ++ [])).map D.str)), _, _, _, _]
    rw [List.append_nil]
  ·rintro ρ S' ⟨rfl, xs, ys, x2, x3, x4, x5, el, ee, rfl⟩
   have hy : ys = [] := by
    cases ys with
    | nil => rfl
    | cons _ _ => cases el
   subst hy
   rw [List.append_nil] at ee
   subst ee
   nofun
   exact ⟨rfl, rfl⟩
noncomputable def hl (e : Er) : Str := jn "errand" (e.t :: e.ps)
noncomputable def al : List Er -> List Str
 | [] => []
 | e :: l => hl e :: (bl e.b ++ (("end" : Str) :: al l))
theorem al_app : ∀ (a b : List Er), al (a ++ b) = al a ++ al b
 | [], b => rfl
 | e :: a, b => by
  show hl e :: (bl e.b ++ (("end" : Str) :: al (a ++ b))) = hl e :: (bl e.b ++ (("end" : Str) :: al a)) ++ al b
  rw [al_app a b]; simp
theorem al_len : ∀ (l : List Er), (∀ e ∈ l, e.Ok) -> (al l).length <= 6 * total l + 2 * l.length
 | [], _ => Nat.le_refl _
 | e :: l, h => by
  have h1 := bl_len e.b (h e List.mem_cons_self).b
  have h2 := al_len l fun x hx => h x (List.mem_cons_of_mem _ hx)
  show (hl e :: (bl e.b ++ (("end" : Str) :: al l))).length <= 6 * (sizes e.b + total l) + 2 * (l.length + 1)
  simp only [List.length_append, List.length_cons]
  omega
theorem ln_hl {e : Er} (h : e.Ok) : Ln (hl e) := by
 have hf := h.few
 have ht := h.t.hi
 refine ⟨?_, nl_jn _ _ (nl_of (by decide +kernel)) (sh_cons (nl_wd h.t) fun y hy => nl_wd (h.ps y hy))⟩
 have := jn_len (B := 8) (e.t :: e.ps) "errand" (sh_cons ht fun y hy => (h.ps y hy).hi)
 have e6 : ("errand" : Str).length = 6 := by decide +kernel
 have : (8 + 1) * (e.t :: e.ps).length <= (8 + 1) * 4 := Nat.mul_le_mul_left _ (by simp; omega)
 show (jn "errand" (e.t :: e.ps)).length <= 4000
 omega
theorem al_ln : ∀ (l : List Er), (∀ e ∈ l, e.Ok) -> ∀ y ∈ al l, Ln y
 | [], _ => fun _ h => absurd h List.not_mem_nil
 | e :: l, h => sh_cons (ln_hl (h e List.mem_cons_self)) (ln_all (bl_ln e.b (h e List.mem_cons_self).b) (sh_cons ⟨by decide +kernel, nl_of (by decide +kernel)⟩ (al_ln l fun x hx => h x (List.mem_cons_of_mem _ hx))))
theorem total_app : ∀ (a b : List Er), total (a ++ b) = total a + total b
 | [], b => by show total b = 0 + total b; omega
 | e :: a, b => by show sizes e.b + total (a ++ b) = sizes e.b + total a + total b; rw [total_app a b]; omega
theorem total_rev : ∀ (l : List Er), total l.reverse = total l
 | [] => rfl
 | e :: l => by rw [List.reverse_cons, total_app, total_rev l]; show total l + (sizes e.b + 0) = sizes e.b + total l; omega
end Q07
namespace Q07
open PySem L2 EV
theorem joinT_op {x : Str} {ys : List Str} (h : (ys.map (·.length)).sum + ys.length * x.length <= 1000000) : mthD .join (.str x) [.tup (ys.map D.str)] = some (.str (Txt.join x ys), false) := by
 show ((some (ys.map D.str)).bind strsD).bind (fun zs => if fits ((zs.map (·.length)).sum + zs.length * x.length) = true then some (D.str (Txt.join x zs), false) else none) = _
 show (strsD (ys.map D.str)).bind _ = _
 rw [strsD_map]
 show (if fits _ = true then _ else _) = _
 rw [if_pos (fits_of h)]
theorem head_short {e : Er} (h : e.Ok) : ((("errand" :: e.t :: e.ps : List Str).map (·.length)).sum + ("errand" :: e.t :: e.ps : List Str).length * (" " : Str).length <= 1000000) :=
 few_join (sh_cons (by decide +kernel) (sh_cons (wd_short h.t) fun y hy => wd_short (h.ps y hy))) (by have := h.few; simp; omega)
theorem all_short {es : List Er} (h : ∀ e ∈ es, e.Ok) (ht : total es <= 26) (hl : es.length <= 6) : ((al es).map (·.length)).sum + (al es).length * ("\n" : Str).length <= 1000000 /\ (al es).length <= 84 * 2 := by
 have l := al_len es h
 have := sum_le (B := 4000) (al es) fun y hy => (al_ln es h y hy).few
 rw [nl_len]
 have : 4000 * (al es).length <= 4000 * 168 := Nat.mul_le_mul_left _ (by omega)
 omega
theorem written_ok {es : List Er} (h : ∀ e ∈ es, e.Ok) (ht : total es <= 26) (hl : es.length <= 6) {K : Nat} (hK : 59 <= K) (S : Store) : callW F wh K 1 [.tup (es.map erD)] (fun x S' => x = (.str (Txt.join "\n" (al es)), .st) /\ S' = S) S := by
 obtain ⟨K, rfl⟩ : ∃ k, K = k + 1 := ⟨K - 1, by omega⟩
 have hall := all_short h ht hl
 refine w_written (x0 := .tup (es.map erD)) ?_
 nofun
 refine wp_walk (fun m ρ S' => S' = S /\ ∃ (xs ys : List Er) (x2 : Slot), m = ys.map erD /\ es = xs ++ ys /\ ρ = [.sh (.tup (es.map erD)), .ow (LS (al xs)), x2]) ?_ ?_ _ _ _ ⟨rfl, [], es, .no, rfl, rfl, rfl⟩
 ·rintro d m ρ S' ⟨rfl, xs, ys, x2, el, ee, rfl⟩
  cases ys with
  | nil => cases el
  | cons y ys =>
   cases el
   have oy : y.Ok := h y (by rw [ee]; simp)
   have htt := ht
   rw [ee, total_app] at htt
   have htt : total xs + (sizes y.b + total ys) <= 26 := htt
   have lb := bl_len y.b oy.b
   have la := al_len xs fun x hx => h x (by rw [ee]; simp [hx])
   have hps := oy.few
   have hxl : xs.length <= 6 := by rw [ee] at hl; simp at hl; omega
   refine ops_mk (bindT1 (by simp) rfl) ?_
   simp only [List.set]
   nofun
   refine opv_s (joinT_op (ys := "errand" :: y.t :: y.ps) (head_short oy)) ?_
   nofun
   rw [join_jn, str_snoc]
   refine wp_mono (bl_at 26 K (by decide) (by omega) y.b oy.b (by omega) S') ?_
   rintro _ _ ⟨rfl, rfl⟩
   nofun
   refine ⟨rfl, xs ++ [y], ys, .sh (erD y), rfl, by rw [ee]; simp, ?_⟩
   rw [al_app]
   simp [LS, al, hl, Q07.hl]
 ·rintro ρ S' ⟨rfl, xs, ys, x2, el, ee, rfl⟩
  have hy : ys = [] := by
   cases ys with
   | nil => rfl
   | cons _ _ => cases el
  subst hy
  rw [List.append_nil] at ee
  subst ee
  nofun
  refine opv_s (join_op (ys := al es) hall.1) ?_
  nofun
  exact ⟨rfl, rfl⟩
end Q07
namespace Q07
open PySem L2 EV
theorem lines_ok {es : List Er} (h : ∀ e ∈ es, e.Ok) (ht : total es <= 26) (hl : es.length <= 6) {K : Nat} (hK : 40 <= K) (S : Store) : callW F wh K 19 [.tup (es.map erD)] (fun x S' => x = (LS (al es), .fr) /\ S' = S) S := by
 obtain ⟨K, rfl⟩ : ∃ k, K = k + 1 := ⟨K - 1, by omega⟩
 refine w__law_lines (x0 := .tup (es.map erD)) ?_
 nofun
 refine wp_walk (fun m ρ S' => S' = S /\ ∃ (xs ys : List Er) (x2 x3 x4 : Slot), m = ys.map erD /\ es = xs ++ ys /\ ρ = [.sh (.tup (es.map erD)), .ow (LS (al xs)), x2, x3, x4]) ?_ ?_ _ _ _ ⟨rfl, [], es, .no, .no, .no, rfl, rfl, rfl⟩
 ·rintro d m ρ S' ⟨rfl, xs, ys, x2, x3, x4, el, ee, rfl⟩
  cases ys with
  | nil => cases el
  | cons y ys =>
   cases el
   have oy : y.Ok := h y (by rw [ee]; simp)
   have htt := ht
   rw [ee, total_app] at htt
   have htt : total xs + (sizes y.b + total ys) <= 26 := htt
   have lb := bl_len y.b oy.b
   have la := al_len xs fun x hx => h x (by rw [ee]; simp [hx])
   have hps := oy.few
   have hxl : xs.length <= 6 := by rw [ee] at hl; simp at hl; omega
   refine ops_mk (a := [.sh (.tup (es.map erD)), .ow (LS (al xs)), .sh (.str y.t), .sh (.tup (y.ps.map D.str)), .sh (.tup (rowsD y.b))]) rfl ?_
   nofun
   refine opv_f (addl_op (by simp; omega)) ?_
   nofun
   refine opv_s (join_op (ys := "errand" :: y.t :: y.ps) (head_short oy)) ?_
   nofun
   rw [join_jn, str_snoc]
   refine wp_mono (rt_at 26 K (by decide) (by omega) y.b oy.b (by omega) S') ?_
   rintro _ _ ⟨rfl, rfl⟩
   refine opv_f (addl_op (by simp; omega)) ?_
   nofun
   refine opv_f (addl_op (by simp; omega)) ?_
   nofun
   refine ⟨rfl, xs ++ [y], ys, .sh (.str y.t), .sh (.tup (y.ps.map D.str)), .sh (.tup (rowsD y.b)), rfl, by rw [ee]; simp, ?_⟩
   rw [al_app]
   simp [LS, al, hl, Q07.hl]
 ·rintro ρ S' ⟨rfl, xs, ys, x2, x3, x4, el, ee, rfl⟩
  have hy : ys = [] := by
   cases ys with
   | nil => rfl
   | cons _ _ => cases el
  subst hy
  rw [List.append_nil] at ee
  subst ee
  nofun
  exact ⟨rfl, rfl⟩
end Q07
namespace Q07
open PySem L2 EV
theorem join_size : ∀ (ls : List Str), (Str.join "\n" ls).length <= (ls.map (·.length)).sum + ls.length * ("\n" : Str).length
 | [] => by show ("" : Str).length <= _; rw [show ("" : Str).length = 0 by decide +kernel]; exact Nat.zero_le _
 | [x] => by show x.length <= x.length + 0 + _; omega
 | x :: y :: r => by
  have := join_size (y :: r)
  show (x ++ "\n" ++ Str.join "\n" (y :: r)).length <= (x.length + ((y :: r).map (·.length)).sum) + ((y :: r).length + 1) * ("\n" : Str).length
  rw [Str.length_append, Str.length_append, Nat.add_mul, Nat.one_mul]
  omega
theorem split_op {ls : List Str} (hn : ls ≠ []) (h : ∀ y ∈ ls, Ln y) (hs : (ls.map (·.length)).sum + ls.length * ("\n" : Str).length <= 1000000) (hl : ls.length <= 1000000) : mthD .split (.str (Txt.join "\n" ls)) [.str "\n"] = some (LS ls, true) := by
 have e := split_lines hn fun y hy => (h y hy).nl
 have := join_size ls
 show (if (!(("\n" : Str).length == 0) && fits (Txt.join "\n" ls).length && fits (Txt.split (Txt.join "\n" ls) "\n").length) = true then some (D.lst ((Txt.split (Txt.join "\n" ls) "\n").map D.str), true) else none) = _
 rw [e, nl_len, fits_of (n := ls.length) hl, fits_of (n := (Txt.join "\n" ls).length) (by rw [join_is _ _ hn]; omega)]
 rfl
theorem al_ne {es : List Er} (h : es ≠ []) : al es ≠ [] := by
 cases es with
 | nil => exact absurd rfl h
 | cons e l => exact List.cons_ne_nil _ _
theorem ls_ok (ys : List Str) : okP 60 (LS ys) = true := okPs_strs 59 ys
theorem law_wp (ns : List Int) (hn : ns.length <= 63) : callW F wh 60 20 [.scr ns] (fun x _ => x.1 = .bl true) [] := by
 refine w_law ?_
 nofun
 refine wp_mono (pot_ok ns hn (by decide) []) ?_
 rintro _ _ ⟨rfl, cs, m, rfl, p⟩
 nofun
 refine wp_mono (program_ok (by decide) p) ?_
 rintro _ S ⟨es, rfl, ho, ht, hl, hne⟩
 obtain ⟨s1, s2⟩ := all_short ho ht hl
 nofun
 refine wp_mono (written_ok ho ht hl (by decide) S) ?_
 rintro _ S ⟨rfl, rfl⟩
 nofun
 refine tst_T rfl ?_
 nofun
 refine opv_f (split_op (al_ne hne) (al_ln es ho) s1 (by omega)) ?_
 nofun
 refine wp_mono (lines_ok ho ht hl (by decide) S) ?_
 rintro _ S ⟨rfl, rfl⟩
 nofun
 refine opt_mk (ne_self_op (ls_ok _)) ?_
 nofun
 rw [<- List.map_reverse]
 have ho' : ∀ e ∈ es.reverse, e.Ok := fun e h => ho e (List.mem_reverse.mp h)
 have ht' : total es.reverse <= 26 := by rw [total_rev]; exact ht
 have hl' : es.reverse.length <= 6 := by rw [List.length_reverse]; exact hl
 obtain ⟨s3, s4⟩ := all_short ho' ht' hl'
 refine wp_mono (written_ok ho' ht' hl' (by decide) S) ?_
 rintro _ S ⟨rfl, rfl⟩
 nofun
 refine wp_mono (lines_ok ho' ht' hl' (by decide) S) ?_
 rintro _ S ⟨rfl, rfl⟩
 nofun
 refine opv_s (join_op s3) ?_
 nofun
 refine wp_mono (written_ok ho ht hl (by decide) S) ?_
 rintro _ S ⟨rfl, rfl⟩
 nofun
 exact congrArg D.bl (eqP_self 60 (.str _) rfl)
theorem run_law : ∀ ns : List Int, ns.length <= 63 -> callW (fnsOf rs) wh 60 20 [.scr ns] (fun x _ => x.1 = .bl true) [] := law_wp
end Q07
open PySem PySem.W PyProof.Rows
set_option maxRecDepth 100000 in
set_option maxHeartbeats 0 in
theorem PySem.Challenge.cw_errandroom_k07_programs_written_holds : PySem.Challenge.rw_errandroom_k07_programs_written.Holds := by
 w_on; o_law; k_head; (case hw => w_witness2)
 k_fill
 refine EV.walkE (l := PySem.Challenge.rw_errandroom_k07_programs_written) (B := Q07.B) (rs := Q07.rs) (f := 20) (r := Q07.r_law) (y := "_law_script") (wh := Q07.wh) rfl rfl rfl rfl rfl Q07.tabs (fun w h Y => PySem.W.kIn_of Y) ?F Q07.run_law
 case F =>
  intro w h KX
  try dsimp only
  refine' ⟨⟨?d0, ?d1, ?d2, ?d3, ?d4, ?d5, ?d6, ?d7, ?d8, ?d9, ?d10, ?d11, ?d12, ?d13, ?d14, ?d15, ?d16, ?d17, ?d18, ?d19, ?d20, True.intro⟩, ⟨?z0, ?z1, ?z2, ?z3, ?z4, ?z5, ?z6, ?z7, ?z8, ?z9, True.intro⟩, ?cs⟩
  (case d0 => refine' EV.def_mk (x := "worth_text") (st := Q07.top 1) ?a ?l ?c ?k; (case a => k_is); (case l => k_is); (case c => k_is); (case k => k_is))
  (case d1 => refine' EV.def_mk (x := "written") (st := Q07.top 2) ?a ?l ?c ?k; (case a => k_is); (case l => k_is); (case c => k_is); (case k => k_is))
  (case d2 => refine' EV.def_mk (x := "block_lines") (st := Q07.top 3) ?a ?l ?c ?k; (case a => k_is); (case l => k_is); (case c => k_is); (case k => k_is))
  (case d3 => refine' EV.def_mk (x := "row_lines") (st := Q07.top 4) ?a ?l ?c ?k; (case a => k_is); (case l => k_is); (case c => k_is); (case k => k_is))
  (case d4 => refine' EV.def_mk (x := "branch_line") (st := Q07.top 5) ?a ?l ?c ?k; (case a => k_is); (case l => k_is); (case c => k_is); (case k => k_is))
  (case d5 => refine' EV.def_mk (x := "_law_numbers") (st := Q07.top 7) ?a ?l ?c ?k; (case a => k_is); (case l => k_is); (case c => k_is); (case k => k_is))
  (case d6 => refine' EV.def_mk (x := "_law_pot") (st := Q07.top 8) ?a ?l ?c ?k; (case a => k_is); (case l => k_is); (case c => k_is); (case k => k_is))
  (case d7 => refine' EV.def_mk (x := "_law_take") (st := Q07.top 9) ?a ?l ?c ?k; (case a => k_is); (case l => k_is); (case c => k_is); (case k => k_is))
  (case d8 => refine' EV.def_mk (x := "_law_word") (st := Q07.top 10) ?a ?l ?c ?k; (case a => k_is); (case l => k_is); (case c => k_is); (case k => k_is))
  (case d9 => refine' EV.def_mk (x := "_law_words") (st := Q07.top 11) ?a ?l ?c ?k; (case a => k_is); (case l => k_is); (case c => k_is); (case k => k_is))
  (case d10 => refine' EV.def_mk (x := "_law_worth") (st := Q07.top 12) ?a ?l ?c ?k; (case a => k_is); (case l => k_is); (case c => k_is); (case k => k_is))
  (case d11 => refine' EV.def_mk (x := "_law_branch") (st := Q07.top 13) ?a ?l ?c ?k; (case a => k_is); (case l => k_is); (case c => k_is); (case k => k_is))
  (case d12 => refine' EV.def_mk (x := "_law_nest") (st := Q07.top 14) ?a ?l ?c ?k; (case a => k_is); (case l => k_is); (case c => k_is); (case k => k_is))
  (case d13 => refine' EV.def_mk (x := "_law_row") (st := Q07.top 15) ?a ?l ?c ?k; (case a => k_is); (case l => k_is); (case c => k_is); (case k => k_is))
  (case d14 => refine' EV.def_mk (x := "_law_block") (st := Q07.top 16) ?a ?l ?c ?k; (case a => k_is); (case l => k_is); (case c => k_is); (case k => k_is))
  (case d15 => refine' EV.def_mk (x := "_law_program") (st := Q07.top 17) ?a ?l ?c ?k; (case a => k_is); (case l => k_is); (case c => k_is); (case k => k_is))
  (case d16 => refine' EV.def_mk (x := "_law_worth_text") (st := Q07.top 18) ?a ?l ?c ?k; (case a => k_is); (case l => k_is); (case c => k_is); (case k => k_is))
  (case d17 => refine' EV.def_mk (x := "_law_branch_text") (st := Q07.top 19) ?a ?l ?c ?k; (case a => k_is); (case l => k_is); (case c => k_is); (case k => k_is))
  (case d18 => refine' EV.def_mk (x := "_law_rows_text") (st := Q07.top 20) ?a ?l ?c ?k; (case a => k_is); (case l => k_is); (case c => k_is); (case k => k_is))
  (case d19 => refine' EV.def_mk (x := "_law_lines") (st := Q07.top 21) ?a ?l ?c ?k; (case a => k_is); (case l => k_is); (case c => k_is); (case k => k_is))
  (case d20 => refine' EV.def_mk (x := "law") (st := Q07.top 22) ?a ?l ?c ?k; (case a => k_is); (case l => k_is); (case c => k_is); (case k => k_is))
  (case z0 => dsimp only; k_is)
  (case z1 => dsimp only; k_is)
  (case z2 => dsimp only; k_is)
  (case z3 => dsimp only; k_is)
  (case z4 => dsimp only; k_is)
  (case z5 => dsimp only; k_is)
  (case z6 => dsimp only; k_is)
  (case z7 => dsimp only; k_is)
  (case z8 => dsimp only; k_is)
  (case z9 => dsimp only; k_is)
  (case cs => intro n x d e; cases e)
